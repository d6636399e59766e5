import PyProof.Rows.All
import Wide.All
import OpenK.AllK
import Wide.FinOn
import Lean
import PyProof.EqAt
import PyProof.EqKinds
import PyProof.TupleCall
import PySem.Challenge.RW_undercells_k30_turning_twice_home
set_option autoImplicit true
set_option relaxedAutoImplicit true
set_option Elab.async false
set_option linter.all false
set_option maxRecDepth 100000
set_option maxHeartbeats 4000000
local macro_rules|`(∅)=>`(by decide +kernel)
local macro_rules|`(⋯)=>`(by decide)
local macro_rules|`(tactic|dsimp[$l,*])=>`(tactic|simp only[$l,*])|`(tactic|dsimp[$l,*]$o:location)=>`(tactic|simp only[$l,*]$o:location)
local macro_rules(kind:=Lean.Parser.Term.structInst)|`({})=>`({cls:=.type "list",data:=.seq ([]:List PySem.Value).toArray})
set_option hygiene false
local macro_rules|`(tactic|room)=>`(tactic|obtain⟨ρ,S,τ,R,r,h⟩:=h9)
local macro_rules|`(tactic|z_go)=>`(tactic|intro X hP hw hK hc i pins s σ H E I hf st hg)
local macro_rules|`(tactic|x_go)=>`(tactic|obtain⟨ρ,S,a,b,R,va,vb,h⟩:=h9)
local macro_rules|`(tactic|w_up)=>`(tactic|intro pins s σ H xs us Q I r h)
local macro_rules|`(tactic|k_ne)=>`(tactic|intro pins s σ H Q I h)
local macro_rules|`(tactic|kt_k)=>`(tactic|obtain⟨w,rfl,ρ,S,x,R,hv,h⟩:=Uz h0)
local macro_rules|`(tactic|kd_p)=>`(tactic|obtain⟨xs,hn,h⟩:=jQ h)
set_option hygiene true
local macro_rules|`(())=>`(by lia)
abbrev ag:=List Int
abbrev am:=List Nat
abbrev ar:=List PySem.Str
abbrev ba:=List PySem.Value
abbrev bb:=List PySem.Addr
abbrev bd:=List (PySem.Addr×PySem.Obj)
def aF:=@List.getElem?_eq_getElem
def aG:=@PySem.wpAny_bind
def aH:=@List.length_map
def aI:=@List.getD_eq_getElem?_getD
def aJ:=@List.mem_cons_self
def aK:=@if_neg
def aL:=@List.mem_cons_of_mem
def aM:=@if_pos
def aN:=@List.getElem?_eq_some_iff
def aO:=@Nat.le_refl
def aP:=@List.mem_singleton
def aQ:=@List.getElem?_map
def aR:=@List.length_append
def aS:=@PySem.wpAny_pure
def aV:=@PySem.Heap.get?_push_of_some
def aW:=@List.mem_of_getElem?
def aX:=@Option.map_eq_some_iff
def aY:=@List.size_toArray
def aZ:=@PyProof.Rows.wpS_bind
def a_:=@Option.some.inj
def bf:=@decide_eq_true
def bg:=@List.length_cons
def bh:=@PySem.Heap.lt_size
def bq:=@List.map_map
def bu:=@decide_eq_false
def bw:=@List.mem_cons
def bz:=@PyProof.Rows.wpS_pure
def bA:=@List.mem_map
def bB:=@Bool.false_eq_true
def bC:=@PySem.Heap.get?_push_size
def bD:=@List.map_cons
def bE:=@List.mem_append
def bF:=@Nat.ne_of_lt
def bG:=@List.getElem?_append_left
def bH:=@Bool.false_ne_true
def bI:=@Nat.le_trans
def bJ:=@List.length_singleton
def bK:=@List.length_take
def bL:=@Nat.zero_le
def bM:=@List.pairwise_cons
def bN:=@Nat.mul_le_mul_right
def bO:=@List.map_append
def bP:=@beq_self_eq_true
def bQ:=@List.length_nil
def bR:=@PySem.PassesOwn.never
def bU:=@Nat.lt_of_lt_of_le
def bV:=@of_decide_eq_true
def bW:=@List.pairwise_singleton
def bX:=@Bool.not_true
def bY:=@Int.zero_add
def bZ:=@List.mem_append_right
def b9:=@if_false
def b_:=@List.getElem?_eq_none
def cg:=@PySem.W.mg_none_of
def cj:=@List.getElem?_set_self
def ck:=@PySem.wpAny_newObj_type
def cu:=@List.append_assoc
def cA:=@List.length_set
def cB:=@Nat.zero_add
def cC:=@List.pairwise_append
def cD:=@List.length_range
def cE:=@Option.bind_eq_some_iff
def cF:=@List.pairwise_iff_getElem
def cG:=@List.append_nil
def cH:=@List.getElem?_set_ne
def cI:=@List.pairwise_map
def cJ:=@if_true
def cK:=@PyProof.Rows.wpS_forRange
def cL:=@List.map_congr_left
def cM:=@Int.add_zero
def cN:=@List.mem_filter
def cO:=@List.nodup_cons
def cP:=@List.find?_cons
def cQ:=@List.mem_range
def cR:=@PySem.wpAny_call_entry
def cT:=@List.ext_getElem?
def cU:=@PySem.F.slot_dict_keyiterator_next
def cV:=@Nat.lt_of_le_of_lt
def cW:=@PySem.W.kia_one
def cX:=@PySem.AutoSeq1.wpAny_loadPart'
def cY:=@List.filter_cons
def cZ:=@Int.toNat_natCast
def c5:=@List.take_add_one
def c6:=@List.foldl_append
def c7:=@PySem.wpAny_callSpecial?_slot
def c8:=@of_decide_eq_false
def c9:=@List.getElem_mem
def c_:=@List.getElem_map
def dc:=@List.take_length
def dg:=@Option.bind_some
def dh:=@List.drop_eq_getElem_cons
def di:=@List.replicate_succ
def dj:=@Ne.symm
def dm:=@Bool.not_false
def dw:=@Option.map_some
def dz:=@List.getElem_inj
def dB:=@congrArg
def dD:=@List.length_drop
def dF:=@List.forall_mem_cons
def dG:=@PyProof.Rows.callWith_type1
def dH:=@PySem.wpAny_holding
def dI:=@PySem.wpAny_truthy_bool
def dJ:=@List.getElem?_append_right
def dM:=@List.nodup_nil
def dN:=@Array.length_toList
def dO:=@PySem.F.slot_dict_get
def dP:=@List.length_filter_le
def dQ:=@Option.getD_some
def dR:=@List.Perm.eq_of_pairwise
def dS:=@PySem.F.slot_list_append
def dU:=@PySem.F.type_list_append
def dW:=@List.mem_of_mem_take
def dX:=@PySem.wpAny_typeNameOfWhole_keyiter
def dY:=@Nat.mul_le_mul
def dZ:=@List.flatten_cons
def d8:=@Nat.lt_succ_of_lt
def d9:=@List.nodup_append
def d_:=@beq_eq_false_iff_ne
def ef:=@PyProof.Rows.wpS_mono
def eg:=@List.getElem?_range
def eB:=@Nat.succ_mul
def eE:=@PySem.sizeLine_eq
def eF:=@Nat.one_mul
def eG:=@List.all_eq_true
def eK:=@List.mem_reverse
def eL:=@PySem.Heap.size_push
def eN:=@PySem.F.slot_tuple_iterator_next
def eO:=@PySem.Obj.data_mapFields
def eS:=@PySem.wpAny_rule
def eT:=@List.take_zero
def eU:=@List.Perm.refl
def eV:=@List.getElem_range
def eW:=@Array.getElem?_toList
def eX:=@List.getElem?_toArray
def eY:=@PySem.wpAny_passesOwn
def eZ:=@List.foldl_cons
def e_:=@Nat.not_lt_zero
def fh:=@PySem.wpAny_field
def fj:=@List.getElem?_of_mem
def fm:=@List.mem_of_mem_drop
def fq:=@List.reverse_cons
def fB:=@PyProof.Rows.listItems_at
def fC:=@Option.isSome_iff_exists
def fF:=@List.getElem?_take_of_lt
def fG:=@PySem.wpAny_typeNameOf_keyiter
def fH:=@Int.add_assoc
def fJ:=@List.idxOf_lt_length_iff
def fK:=@PyProof.Rows.slot_tuple_getitem
def fL:=@PySem.mem_of_lookup
def fM:=@PySem.Heap.SameBut.update
def fN:=@List.mem_map_of_mem
def fO:=@List.length_reverse
def fP:=@Nat.lt_succ_self
def fQ:=@List.length_eq_zero_iff
def fR:=@List.prefix_refl
def fS:=@List.mem_flatMap
def fV:=@PySem.tupleKind_room_in1
def fW:=@PyProof.Rows.wpS_modify
def fX:=@List.prefix_append
def fY:=@Nat.lt_irrefl
def fZ:=@List.any_cons
def f6:=@PySem.Heap.get?_update_self
def f7:=@PySem.builtinLookup_eq_fast
def f9:=@List.set_append_right
def f_:=@List.mem_append_left
def gb:=@List.range_eq_range'
def gc:=@PySem.Around.under_plainId
def gf:=@PySem.isSubtype_type
def gg:=@List.reverse_reverse
def gh:=@Option.map_map
def gp:=@PySem.wpAny_typeOf
def gq:=@List.map_nil
def gr:=@List.lookup_cons
def gu:=@List.any_eq_true
def gv:=@Int.mul_zero
def gw:=@PySem.Calls.call_function_entry
def gz:=@List.mem_of_find?_eq_some
def gA:=@PySem.F.args_dict_keyiterator_next_1
def gB:=@List.filter_eq_self
def gC:=@PySem.F.args_tuple_add_2
def gD:=@Bool.false_or
def gE:=@PySem.F.entry_dict_keyiterator_next
def gF:=@PySem.F.slot_list_getattribute
def gG:=@List.sum_cons
def gH:=@List.Pairwise.imp_of_mem
def gI:=@List.forIn_cons
def gJ:=@PySem.codeAny_builtin
def gK:=@PySem.wpAny_pyIter_tuple
def gM:=@List.getElem?_drop
def gO:=@List.find?_eq_none
def gP:=@Int.emod_lt_of_pos
def gQ:=@Option.isSome_none
def gR:=@PySem.F.entry_tuple_add
def gS:=@PySem.F.args_dict_get_3
def gT:=@PySem.F.slot_tuple_add
def gU:=@List.range_succ_eq_map
def gW:=@List.all_map
def gY:=@PySem.wpAny_setField
def gZ:=@Option.isSome_map
def g_:=@PySem.F.entry_dict_get
def h_:=@PyProof.Rows.wpS_get
def ie:=@List.take_succ_eq_append_getElem
def ig:=@Nat.sub_self
def ir:=@PySem.Heap.get?_push_ne
def iu:=@Array.getElem?_eq_none
def iw:=@Nat.lt_of_succ_lt_succ
def iy:=@List.find?_map
def iz:=@List.eraseIdxIfInBounds_toArray
def iA:=@PySem.Obj.isFreed_of_fields
def iB:=@List.take_append_drop
def iC:=@PySem.wpAny_isOneOf_keyiter
def iD:=@PySem.F.type_dict_get
def iE:=@Bool.and_eq_true
def iF:=@Nat.le_of_not_lt
def iG:=@PySem.Heap.size_update
def iH:=@List.isEmpty_nil
def iI:=@PySem.wpAny_attempt
def iJ:=@Nat.add_assoc
def iK:=@PySem.wpAny_of_eq
def iL:=@PySem.F.slot_list_reversed
def iM:=@Bool.or_eq_false_iff
def iN:=@Nat.pow_le_pow_right
def iO:=@PySem.wpAny_execs_nil
def iP:=@PySem.typeLookup_type
def iQ:=@Nat.min_eq_left
def iR:=@List.find?_some
def iS:=@Int.emod_nonneg
def iT:=@List.filterMap_cons
def iU:=@List.flatMap_append
def iV:=@PySem.codeAny_mono
def iW:=@List.map_set
def iX:=@PySem.wpAny_mono
def iY:=@PySem.wpAny_Call_Name_kw
def iZ:=@List.zip_cons_cons
def i6:=@List.filterMap_map
def i7:=@PySem.call_meets
def i8:=@PySem.wpAny_seqItems
def i9:=@Option.isSome_some
def i_:=@List.perm_ext_iff_of_nodup
def ja:=@PySem.wpAny_fieldsOf
def jb:=@List.getElem_idxOf
def jc:=@PySem.wpAny_pyIter_list
def jd:=@PySem.Obj.cls_mapFields
def je:=@decide_eq_true_eq
def jf:=@PySem.wpAny_dictEntries
def jg:=@List.flatMap_cons
def jh:=@List.find?_isSome
def ji:=@List.isEmpty_cons
def jj:=@PySem.Paired.length
def jk:=@PySem.wpAny_newList
def jl:=@PySem.W.mg_of
def jm:=@List.zipIdx_cons
def jn:=@List.countP_cons
def jo:=@decide_eq_decide
def jq:=@Nat.le_of_lt
def jt:=@Nat.add_comm
def ju:=@List.of_mem_zip
def jv:=@List.filter_map
def jw:=@Bool.and_false
def jx:=@Array.size_zip
def jy:=@List.forIn_nil
def jz:=@List.foldl_map
def jA:=@Int.mul_add
def jB:=@List.map_id
abbrev af:=PySem.Value
abbrev ah:=PySem.World
abbrev aj:=PySem.Program
abbrev ak:=PySem.Addr
abbrev aq:=PySem.Heap
abbrev au:=PySem.W.Frag
abbrev az:=PySem.Around
abbrev aA:=PySem.Shared
abbrev aC:=PySem.Expr
abbrev aE:=PySem.Stmt
def anI{a b:Prop}(h:a)(k:b):a/\b:=⟨h,k⟩
open Array (size_map)
open Int (neg_mul one_mul zero_mul)
open List (all_cons map_drop map_take)
open Nat (add_zero lt_trans ne_of_gt)
open Option (getD_none)
namespace L2
open PySem PySem.Spec PyProof.Rows
noncomputable abbrev Key:=Sum Int Str
noncomputable def CQ:Key->af->Bool
 | .inl k,v=>Value.isInt k v
 | .inr x,v=>Value.isStrOf x v
noncomputable def abR (w:ah):Key->Int
 | .inl k=>hashInt k
 | .inr x=>hashStr w x
def lR:∀{k:Key}{v:af},CQ k v=true->(∃i t,k=Sum.inl i/\v=Value.int i t)\/(∃x t,k=Sum.inr x/\v=Value.str x t)
 | .inl i,v,h=>by
  obtain⟨t,e⟩:=Value.isInt_shape (k:=i) (v:=v) h;exact .inl ⟨i,t,rfl,e⟩
 | .inr x,v,h=>by
  obtain⟨t,e⟩:=Value.isStrOf_shape (x:=x) (v:=v) h;exact .inr ⟨x,t,rfl,e⟩
def LW(i:Int)(t:Tok):CQ (.inl i) (.int i t)=true:=by simp[CQ,Value.isInt]
def MN(x:Str)(t:Tok):CQ (.inr x) (.str x t)=true:=by simp[CQ,Value.isStrOf]
def YL(a b:Int):decide ((Sum.inl a:Key)=Sum.inl b)=(a == b):=by
 by_cases e:a=b
 ·subst e;simp
 ·have h:¬(Sum.inl a:Key)=Sum.inl b:=λq=>e (Sum.inl.inj q);rw[bu h];exact(d_.mpr e).symm
def Yl(a b:Str):decide ((Sum.inr a:Key)=Sum.inr b)=decide (a=b):=by
 by_cases e:a=b
 ·subst e;simp
 ·have h:¬(Sum.inr a:Key)=Sum.inr b:=λq=>e (Sum.inr.inj q);rw[bu h,bu e]
def XZ(a:Int)(b:Str):decide ((Sum.inl a:Key)=Sum.inr b)=false:=bu (λq=>nomatch q)
def YB(a:Str)(b:Int):decide ((Sum.inr a:Key)=Sum.inl b)=false:=bu (λq=>nomatch q)
noncomputable def kP (prog:aj)(w:ah):PySem.KeyKind prog w Key where
 is:=CQ
 hash:=abR w
 inj:=λv a b ha hb=>by
  rcases lR ha with⟨i,t,rfl,rfl⟩|⟨x,t,rfl,rfl⟩
  ·rcases lR hb with⟨j,u,rfl,e⟩|⟨y,u,rfl,e⟩
   ·injection e with e1 _;rw[e1]
   ·exact nomatch e
  ·rcases lR hb with⟨j,u,rfl,e⟩|⟨y,u,rfl,e⟩
   ·exact nomatch e
   ·injection e with e1 _;rw[e1]
 byValue:=λk v h=>by
  rcases lR h with⟨i,t,rfl,rfl⟩|⟨x,t,rfl,rfl⟩<;>rfl
 pyHash:=λhv h=>by
  rcases lR hv with⟨i,t,rfl,rfl⟩|⟨x,t,rfl,rfl⟩
  ·exact wpAny_pyHash_int h
  ·exact wpAny_pyHash_str h
 eqBool:=λhu hv h=>by
  rcases lR hu with⟨i,t,rfl,rfl⟩|⟨x,t,rfl,rfl⟩
  ·rcases lR hv with⟨j,u,rfl,rfl⟩|⟨y,u,rfl,rfl⟩
   ·rw[YL]at h;exact wpAny_eqBool_int h
   ·rw[XZ]at h;exact SeqAt.EqAt.int_str i t y u _ _ _ _ h
  ·rcases lR hv with⟨j,u,rfl,rfl⟩|⟨y,u,rfl,rfl⟩
   ·rw[YB]at h;exact SeqAt.EqAt.str_int x t j u _ _ _ _ h
   ·rw[Yl]at h;exact wpAny_eqBool_str h
 «strs»:=λk x t v h=>by
  rcases lR h with⟨i,u,rfl,e⟩|⟨y,u,rfl,e⟩
  ·exact nomatch e
  ·injection e with e1 _
   subst e1
   cases v<;>rfl
def EY(prog:aj)(w:ah)(i:Int)(t:Tok):(kP prog w).is (.inl i) (.int i t)=true:=LW i t
def F5(prog:aj)(w:ah)(x:Str)(t:Tok):(kP prog w).is (.inr x) (.str x t)=true:=MN x t
inductive V where
 | non|bl (b:Bool)|int (i:Int)|str (x:Str)|byt (b:Array UInt8)|flt (b:UInt64)|ref (a:ak)|ty (n:String)
 deriving DecidableEq
noncomputable def RelV:V->af->Prop
 | .non,u=>u=Value.none
 | .bl b,u=>u=Value.bool b
 | .int i,u=>∃t,u=Value.int i t
 | .str x,u=>∃t,u=Value.str x t
 | .byt b,u=>∃t,u=Value.bytes b t
 | .flt b,u=>∃t,u=Value.float b t
 | .ref a,u=>u=Value.ref a
 | .ty n,u=>u=Value.type n
noncomputable abbrev Vals:List V->ba->Prop:=Paired RelV
def Vals.length{xs:List V}{us:ba}(r:Vals xs us):xs.length=us.length:=jj r
theorem Vals.get:∀{xs:List V}{us:ba}{i:Nat}{x:V},Vals xs us->xs[i]?=some x->∃u,us[i]?=some u/\RelV x u
 | _,_,_,_,.nil,e=>by simp at e
 | _,_,0,_,.cons r _,e=>by simp at e;subst e;exact⟨_,rfl,r⟩
 | _,_,i+1,x,.cons _ t,e=>by
  obtain⟨u,h1,h2⟩:=Vals.get (i:=i) (x:=x) t (by simpa using e);exact⟨u,by simpa using h1,h2⟩
theorem Vals.set{x:V}(r:RelV x u):∀{xs:List V}{us:ba}(i:Nat),Vals xs us->Vals (xs.set i x) (us.set i u)
 | _,_,_,.nil=>.nil
 | _,_,0,.cons _ t=>.cons r t
 | _,_,i+1,.cons q t=>.cons q (Vals.set r i t)
theorem Vals.append:∀{xs ys:List V}{us ws:ba},Vals xs us->Vals ys ws->Vals (xs++ys) (us++ws)
 | _,_,_,_,.nil,s=>s
 | _,_,_,_,.cons r t,s=>.cons r (Vals.append t s)
theorem Vals.take:∀{xs:List V}{us:ba}(n:Nat),Vals xs us->Vals (xs.take n) (us.take n)
 | _,_,0,_=>.nil
 | _,_,_+1,.nil=>.nil
 | _,_,n+1,.cons r t=>.cons r (Vals.take n t)
theorem Vals.drop:∀{xs:List V}{us:ba}(n:Nat),Vals xs us->Vals (xs.drop n) (us.drop n)
 | _,_,0,r=>r
 | _,_,_+1,.nil=>.nil
 | _,_,n+1,.cons _ t=>Vals.drop n t
noncomputable def yK:Option V->Option af->Prop
 | some v,some u=>RelV v u
 | none,none=>True
 | _,_=>False
noncomputable def KV {κ:Type}:List (κ×V)->List (κ×af)->Prop:=Paired λ(p:κ×V) (q:κ×af)=>p.1=q.1/\RelV p.2 q.2
noncomputable def kV:Key->V
 | .inl i=>.int i
 | .inr x=>.str x
inductive HO where
 | lst (xs:List V)
 | tup (xs:List V)
 | dK (kvs:List (Key×V))|dT (kvs:List (List Key×V))
 | set (S:Int->Bool) (n:Nat)
 | ins (C dx:ak) (fs:List (Str×V))
 | own (x:ak)
 | xd (fs:List (Str×V))
 | met (f x:ak)
 | rng (lo hi:Int)
 | frz (o:Obj) (u:HO)
 | tbl (ps:Array af)
 | ext (φ:aq->Prop)
noncomputable abbrev Hp:=ak->Option HO
noncomputable def upd (H:Hp)(a:ak)(o:HO):Hp:=λb=>if b=a then some o else H b
def lU{H:Hp}{a:ak}:upd H a o a=some o:=by unfold upd;rw[aM rfl]
def jU{H:Hp}{a:ak}(h:b≠a):upd H a o b=H b:=by unfold upd;rw[aK h]
def ZH{H:Hp}{a:ak}(h:H a=some o)(h':H b=some u)(d:o≠u):a≠b:=by
 intro e;subst e;rw[h]at h';exact d (a_ h')
def j8{H:Hp}{a:ak}(h:H a=some o)(h':H b=none):a≠b:=by
 intro e;subst e;rw[h]at h';cases h'
noncomputable def pU (h:aq)(a:ak)(items:Array af):Prop:=∃o,h.get? a=some o/\o.cls=.type "tuple" /\ o.dict=none/\∃n,o.data=.seq items n
def pU.tup{a:ak}:pU h a items->IsTup h a items:=λ⟨o,e,c,_,n,d⟩=>⟨o,e,c,n,d⟩
def pU.new(h:aq)(items:Array af):pU (h.push { cls:=.type "tuple",data:=.seq items }) h.objs.size items:=⟨_,bC _ rfl,rfl,rfl,_,rfl⟩
def pU.lt{h:aq}{a:ak}(x:pU h a items):a<h.objs.size:=let⟨_,ho,_⟩:=x;bh ho
section
variable (P:aj) (w:ah)
noncomputable def lY (H:Hp)(h:aq)(a:ak):HO->Prop
 | .lst xs=>xs.length<=sizeLine/\∃(its:ba) (n:Nat),Vals xs its/\h.get? a=some { cls:=.type "list",data:=.seq its.toArray n }
 | .tup xs=>xs.length<=sizeLine/\∃its:ba,Vals xs its/\pU h a its.toArray
 | .dK kvs=>kvs.length<=sizeLine/\(a == sysModules)=false/\∃vs,KV kvs vs/\h.DictOf (kP P w) a vs
 | .dT kvs=>kvs.length<=sizeLine/\(a == sysModules)=false/\∃xs:List (List Key×ak×af),
   Paired (λ(p:List Key×V) (q:List Key×ak×af)=>p.1=q.1/\H q.2.1=some (.tup (p.1.map kV))/\RelV p.2 q.2.2) kvs xs /\
   ∃o es ep,h.get? a=some o/\o.ExactDict/\o.data=.dict es ep/\es.toList=xs.map (entryOfKey (tupleKind (kP P w)))/\(xs.map (·.1)).Nodup
 | .set S n=>h.SetOf (intKind P w) a S n
 | .ins C dx fs=>H dx=some (.own a)/\fs.length<=1000/\dx≠a/\h.get? a=some (PySem.W.instObj C dx) /\
   ∃mA,h.Ns1 dx mA/\(∀f,yK (fs.lookup f) (mA f))/\PySem.Within mA (fs.map (·.1))
 | .own _=>∃o,h.get? a=some o
 | .xd fs=>∃mA,h.Ns1 a mA/\∀f,yK (fs.lookup f) (mA f)
 | .rng lo hi=>∃t u v,h.get? a=some { cls:=.type "range",data:=.fields #[.int lo t,.int hi u,.int 1 v]}
 | .frz o u=>h.get? a=some o/\lY H h a u
 | .tbl ps=>h.get? a=some { cls:=.none,data:=.fields ps }
 | .met f x=>h.get? a=some (PySem.W.methodObj (.ref f) (.ref x))
 | .ext φ=>φ h/\(∃o,h.get? a=some o)/\∀h1 h2:aq,φ h1->(∀o,h1.get? a=some o->h2.get? a=some o)->φ h2
noncomputable def xq (H:Hp)(h:aq):Prop:=∀a o,H a=some o->lY P w H h a o
end
section
variable {P:aj}{w:ah}{H H':Hp}{h h':aq}{a:ak}{o:HO}
def lY.lt(x:lY P w H h a o):a<h.objs.size:=by
 cases o with
 | lst xs=>obtain⟨_,_,_,_,e⟩:=x;exact bh e
 | tup xs=>obtain⟨_,_,_,p⟩:=x;exact pU.lt p
 | dK kvs=>obtain⟨_,_,_,_,o,_,_,e,_⟩:=x;exact bh e
 | dT kvs=>obtain⟨_,_,_,_,o,_,_,e,_⟩:=x;exact bh e
 | set S n=>obtain⟨o,_,_,_,e,_⟩:=x;exact bh e
 | ins C dx fs=>obtain⟨_,_,_,e,_⟩:=x;exact bh e
 | own y=>obtain⟨_,e⟩:=x;exact bh e
 | xd fs=>obtain⟨_,⟨_,_,_,e,_⟩,_⟩:=x;exact bh e
 | rng lo hi=>obtain⟨_,_,_,e⟩:=x;exact bh e
 | frz ob u=>obtain⟨e,_⟩:=x;exact bh e
 | tbl ps=>exact bh (show h.get? a=some _ from x)
 | met f y=>exact bh (show h.get? a=some _ from x)
 | ext φ=>obtain⟨_,⟨_,e⟩,_⟩:=x;exact bh e
theorem Paired.Xr{α β:Type}{F G:α->β->Prop}:∀{l₁:List α}{l₂:List β},Paired F l₁ l₂->(∀a b,F a b->G a b)->Paired G l₁ l₂
 | _,_,.nil,_=>.nil
 | _,_,.cons r t,f=>.cons (f _ _ r) (Paired.Xr t f)
def lY.stay(x:lY P w H h a o)(k:∀b u,(b=a\/H b=some (.own a))->h.get? b=some u->h'.get? b=some u)
  (ho:∀b,H b=some (.own a)->H' b=some (.own a)) (ht:∀b xs,H b=some (.tup xs)->H' b=some (.tup xs)):lY P w H' h' a o:=by
 induction o with
 | lst xs=>obtain⟨z,its,n,r,e⟩:=x;exact⟨z,its,n,r,k _ _ (.inl rfl) e⟩
 | tup xs=>obtain⟨z,its,r,ob,e,c⟩:=x;exact⟨z,its,r,ob,k _ _ (.inl rfl) e,c⟩
 | dK kvs=>obtain⟨z,y,vs,r,ob,es,ep,e,c⟩:=x;exact⟨z,y,vs,r,ob,es,ep,k _ _ (.inl rfl) e,c⟩
 | dT kvs=>
  obtain⟨z,y,xs,r,ob,es,ep,e,c⟩:=x;exact⟨z,y,xs,Paired.Xr r λp q z=>⟨z.1,ht _ _ z.2.1,z.2.2⟩,ob,es,ep,k _ _ (.inl rfl) e,c⟩
 | set S n=>obtain⟨ob,es,ep,t,e,c⟩:=x;exact⟨ob,es,ep,t,k _ _ (.inl rfl) e,c⟩
 | ins C dx fs=>
  obtain⟨d,z,ne,e,mA,⟨od,es,ep,e2,c⟩,r⟩:=x;exact⟨ho _ d,z,ne,k _ _ (.inl rfl) e,mA,⟨od,es,ep,k _ _ (.inr d) e2,c⟩,r⟩
 | own y=>obtain⟨ob,e⟩:=x;exact⟨ob,k _ _ (.inl rfl) e⟩
 | xd fs=>obtain⟨mA,⟨od,es,ep,e,c⟩,r⟩:=x;exact⟨mA,⟨od,es,ep,k _ _ (.inl rfl) e,c⟩,r⟩
 | rng lo hi=>obtain⟨t,u,v,e⟩:=x;exact⟨t,u,v,k _ _ (.inl rfl) e⟩
 | frz ob u ih=>obtain⟨e,q⟩:=x;exact⟨k _ _ (.inl rfl) e,ih q⟩
 | tbl ps=>
  have e:h.get? a=some { cls:=.none,data:=.fields ps }:=x
  skip
  exact k a _ (.inl rfl) e
 | met f y=>
  have e:h.get? a=some (PySem.W.methodObj (.ref f) (.ref y)):=x
  skip
  exact k a _ (.inl rfl) e
 | ext φ=>obtain⟨p,⟨o,e⟩,st⟩:=x;exact⟨st _ _ p λo q=>k _ _ (.inl rfl) q,⟨o,k _ _ (.inl rfl) e⟩,st⟩
def xq.lt(x:xq P w H h)(e:H a=some o):a<h.objs.size:=(x a o e).lt
def xq.fresh(x:xq P w H h)(e:h.objs.size<=a):H a=none:=by
 cases q:H a with
 | none=>rfl
 | some u=>exact absurd (bU (x.lt q) e) (fY _)
def xq.kept(x:xq P w H h)(k:∀b u,h.get? b=some u->h'.get? b=some u):xq P w H h':=λa o e=>
 (x a o e).stay (λb u _ q=>k b u q) (λ_ q=>q) λ_ _ q=>q
def xq.laid(x:xq P w H h)(k:∀b u,h.get? b=some u->h'.get? b=some u)(hp:h.objs.size<=a)(new:lY P w (upd H a o) h' a o):xq P w (upd H a o) h':=λb u e=>by
 have hn:=x.fresh hp;by_cases hb:b=a
 ·subst hb;rw[lU]at e;cases e;exact new
 ·rw[jU hb]at e;exact(x b u e).stay (λc v _ q=>k c v q) (λc q=>by rw[jU (j8 q hn)];exact q) λc xs q=>by rw[jU (j8 q hn)];exact q
end
noncomputable def Rd (H:Hp)(a:ak)(u:HO):Prop:=H a=some u\/∃o,H a=some (.frz o u)
def Rd.ok{P:aj}{w:ah}{H:Hp}{a:ak}(r:Rd H a u)(x:xq P w H h):lY P w H h a u:=by
 rcases r with r|⟨o,r⟩
 ·exact x a u r
 ·obtain⟨_,q⟩:=x a _ r;exact q
noncomputable def Zl:Option HO->Prop
 | some (.lst _)=>True
 | some (.dK _)=>True
 | some (.dT _)=>True
 | some (.set _ _)=>True
 | some (.ins _ _ _)=>True
 | some (.ext _)=>True
 | _=>False
section
variable {P:aj}{w:ah}{H:Hp}{h h':aq}{x e:ak}{o':HO}
def xq.write(ok:xq P w H h)(mu:Zl (H x))(he:e=x\/H e=some (.own x))(k:∀b u,b≠e->h.get? b=some u->h'.get? b=some u)(heo:∃u,h'.get? e=some u)
  (new:lY P w (upd H x o') h' x o'):xq P w (upd H x o') h':=λb u q=>by
 have nown:∀c y,H c=some (.own y)->c≠x:=λc y r z=>by subst z;rw[r]at mu;exact mu
 have ntup:∀c xs,H c=some (.tup xs)->c≠x:=λc xs r z=>by subst z;rw[r]at mu;exact mu
 by_cases hb:b=x
 ·subst hb;rw[lU]at q;cases q;exact new
 ·rw[jU hb]at q;by_cases hbe:b=e
  ·have q':H b=some (.own x):=by
    rcases he with z|z
    ·exact absurd (hbe.trans z) hb
    ·rw[hbe];exact z
   rw[q]at q';cases q';obtain⟨v,hv⟩:=heo;exact⟨v,by rw[hbe];exact hv⟩
  ·refine(ok b u q).stay (λc v hc r=>k c v ?_ r) (λc r=>by rw[jU (nown c b r)];exact r) λc xs r=>by rw[jU (ntup c xs r)];exact r
   rcases hc with rfl|hc
   ·exact hbe
   ·rintro rfl
    rcases he with z|z
    ·exact nown c b hc z
    ·rw[hc]at z;cases z;exact hb rfl
end
structure Un (fs ex:bb)(H H':Hp)(h h':aq):Prop where
 keep:∀b o,h.get? b=some o->H b=none->b∉fs->b∉ex->h'.get? b=some o
 slot:∀b o,h.get? b=some o->H b=none->b∈fs->b∉ex->∃sl,h'.get? b=some { o with slots:=sl }
 free:∀b o,h.get? b=some o->H b=none->b∉ex->H' b=none
 there:∀b o,h.get? b=some o->b∉ex->∃o',h'.get? b=some o'
 tups:∀b xs,H b=some (.tup xs)->H' b=some (.tup xs)
 frzs:∀b o u,H b=some (.frz o u)->H' b=some (.frz o u)
 tbls:∀b ps,H b=some (.tbl ps)->∃more,H' b=some (.tbl (ps++more))
section
variable {fs ex:bb}{H H1:Hp}{h h1 h':aq}{a x e:ak}{o:HO}
def Un.any(u:Un fs ex H H1 h h1){ob:Obj}(q:h.get? b=some ob)(n:H b=none)(hx:b∉ex):∃sl,h1.get? b=some { ob with slots:=sl }:=by
 by_cases hb:b∈fs
 ·exact u.slot b ob q n hb hx
 ·exact⟨ob.slots,u.keep b ob q n hb hx⟩
def Un.kept(k:∀b u,h.get? b=some u->h'.get? b=some u):Un fs ex H H h h':=
 ⟨λb ob q _ _ _=>k b ob q,λb ob q _ _ _=>⟨ob.slots,k b ob q⟩,λ_ _ _ n _=>n,λb ob q _=>⟨ob,k b ob q⟩,λ_ _ q=>q,λ_ _ _ q=>q,λ_ ps q=>⟨#[],by rw[q];simp⟩⟩
def Un.refl:Un fs ex H H h h:=Un.kept λ_ _ q=>q
def Un.laid(k:∀b u,h.get? b=some u->h'.get? b=some u)(hp:h.objs.size<=a)(hn:H a=none):Un fs ex H (upd H a o) h h' where
 keep:=λb u q _ _ _=>k b u q
 slot:=λb u q _ _ _=>⟨u.slots,k b u q⟩
 free:=λb u q n _=>by rw[jU (bF (bU (bh q) hp))];exact n
 there:=λb u q _=>⟨u,k b u q⟩
 tups:=λb xs q=>by rw[jU (j8 q hn)];exact q
 frzs:=λb u xs q=>by rw[jU (j8 q hn)];exact q
 tbls:=λb ps q=>⟨#[],by rw[jU (j8 q hn),q];simp⟩
def Un.write(mu:Zl (H x))(he:e=x\/H e=some (.own x))(k:∀b u,b≠e->h.get? b=some u->h'.get? b=some u)(heo:∃u,h'.get? e=some u):Un fs ex H (upd H x o) h h':=by
 have hx:∀b,H b=none->b≠x:=λb n z=>by subst z;rw[n]at mu;exact mu
 have hb:∀b,H b=none->b≠e:=λb n z=>by
  subst z
  rcases he with r|r
  ·exact hx b n r
  ·rw[n]at r;cases r
 have hm:∀b u,H b=some u->¬Zl (some u)->b≠x:=λb u q nm z=>by subst z;rw[q]at mu;exact nm mu
 refine⟨λb u q n _ _=>k b u (hb b n) q,λb u q n _ _=>⟨u.slots,k b u (hb b n) q⟩,λb u q n _=>by rw[jU (hx b n)];exact n,λb u q _=>?_,
  λb xs q=>by rw[jU (hm b _ q λz=>z)];exact q,λb u xs q=>by rw[jU (hm b _ q λz=>z)];exact q,λb ps q=>⟨#[],by rw[jU (hm b _ q λz=>z),q];simp⟩⟩
 by_cases hbe:b=e
 ·subst hbe;exact heo
 ·exact⟨u,k b u hbe q⟩
end
noncomputable def trk (h:aq)(H:Hp):bb:=(List.range h.objs.size).filter λa=>(H a).isSome
noncomputable def DM (h:aq)(H:Hp):aq:=PySem.W.hideAll h (trk h H)
def Ms(h:aq)(H:Hp):(DM h H).objs.size=h.objs.size:=PySem.W.hideAll_size _ _
def Q0{h:aq}{H:Hp}(e:h.get? b=some o)(n:H b=none):(DM h H).get? b=some o:=
 PySem.W.hideAll_get _ e λhm=>by
  have q:(H b).isSome=true:=(cN.mp hm).2;rw[n]at q;simp at q
def SI{h:aq}{H:Hp}(e:(DM h H).get? b=some o):h.get? b=some o/\H b=none:=by
 have e':h.get? b=some o:=PySem.W.of_hideAll (trk h H) e;refine⟨e',?_⟩
 cases q:H b with
 | none=>rfl
 | some x=>
  have hm:b∈trk h H:=cN.mpr ⟨cQ.mpr (bh e'),by simp[q]⟩;have z:(DM h H).get? b=none:=PySem.W.hideAll_none (trk h H) hm;rw[z]at e;cases e
noncomputable def TN (g h:aq)(L:ak):bd:=(List.range h.objs.size).filterMap λa=>if a=L\/(g.get? a).isSome=true then none else(h.get? a).map λo=>(a,o)
noncomputable def rest (g h:aq)(L d:ak):bd:=(TN g h L).filter λp=>decide (p.1≠d)
structure Mod (K:au)(mg:Str->Option af)(base:aq):Prop where
 kin:K.In base
 glob:base.Ns mainGlobals mg
 blt:∃mb,base.Ns builtinsNs mb/\∀x:Str,x ≠ "__name__" -> mb x=bootBuiltins x
 nolimit:base.NoLimit
structure Cx where
 prog:aj
 w:ah
 K:au
 mg:Str->Option af
 base:aq
 A:az
 N:ar
 s₀:aA
 H₀:Hp
 env:Env
 outer:List Env
 stack:List Env
 ex:bb
 fn:Str->Bool
 calm:Bool
 pn:bd
 xe:af->aA->Prop
noncomputable def frs (l:List Env):bb:=l.filterMap (·.frame)
noncomputable abbrev Cx.fs (X:Cx):bb:=frs X.outer
noncomputable def Zq (sc:Scope)(x:Str):Prop:=sc.names.lookup x=some .local\/sc.names.lookup x=some .cell\/sc.names.lookup x=some .free
noncomputable def Loc (sc:Scope)(x:Str):Prop:=sc.names.lookup x=some .local\/sc.names.lookup x=some .cell
noncomputable def Look (env:Env)(h:aq)(m:Str->Option af)(x:Str)(u:af):Prop:=
 (env.kindOf x=some .local/\m x=some u)\/((env.kindOf x=some .cell\/env.kindOf x=some .free)/\∃c,env.cells.lookup x=some c/\h.IsCell c (some u))
structure Cx.Ok (X:Cx):Prop where
 mod:Mod X.K X.mg X.base
 kind:X.env.scope.kind=.function
 glob:X.env.globals=mainGlobals
 blt:X.env.builtins=builtinsNs
 above:X.s₀.heap.objs.size<=X.env.locals
 inj:∀x y c,X.env.cells.lookup x=some c->X.env.cells.lookup y=some c->x=y
 has:∀x,(X.env.kindOf x=some .cell\/X.env.kindOf x=some .free)->∃c,X.env.cells.lookup x=some c
 cab:∀x c,X.fn x=true->X.env.cells.lookup x=some c->X.s₀.heap.objs.size<=c
 hd:X.calm=true->X.A.handled=none
 frames:X.A.frames=some X.stack
 stk:X.stack=X.outer\/(X.stack=X.env::X.outer/\X.env.frame=some X.env.locals)
 exf:∀b∈X.ex,b≠X.env.locals/\∀x c,X.env.cells.lookup x=some c->c≠b
 bs:∀b o,X.base.get? b=some o->X.s₀.heap.get? b=some o/\X.H₀ b=none
 bsz:X.base.objs.size<=X.s₀.heap.objs.size
 noex:∀b o,X.base.get? b=some o->b∉X.ex
 exfs:∀b∈X.ex,b∉X.fs
 Bb:X.s₀.heap.FunFrames X.base X.outer
 frf:∀b∈X.fs,X.H₀ b=none
structure Inv (X:Cx)(pins:bd)(σ:List (Option V))(H:Hp)(s:aA):Prop where
 ok:X.Ok
 os:s.os=X.s₀.os
 bare:AllBare s.gens
 base:Un X.fs X.ex X.H₀ H X.s₀.heap s.heap
 loc:∃m,s.heap.Ns X.env.locals m/\∀(i:Nat) (x:Str) (v:V),X.N[i]?=some x->σ[i]?=some (some v)->Zq X.env.scope x->∃u,RelV v u/\Look X.env s.heap m x u
 cell:∀x c,X.env.cells.lookup x=some c->∃v,s.heap.IsCell c v
 free:H X.env.locals=none
 freeC:∀x c,X.env.cells.lookup x=some c->H c=none
 pin:∀p∈X.pn++pins,s.heap.get? p.1=some p.2/\H p.1=none/\p.1≠X.env.locals/\p.1∉X.fs/\∀v,p.2.data≠.cell v
 hok:xq X.prog X.w H s.heap
 len:σ.length=X.N.length
section
variable {X:Cx}{pins:bd}{σ:List (Option V)}{H H':Hp}{s:aA}{h':aq}
def Cx.Ok.aa8(ok:X.Ok)(e:X.base.get? b=some o):b∉X.fs:=λhb=>by
 have:=(ok.Bb.mem hb).1;rw[e]at this;cases this
def Inv.bs(I:Inv X pins σ H s):∀b o,X.base.get? b=some o->s.heap.get? b=some o/\H b=none:=λb o e=>
 ⟨I.base.keep b o (I.ok.bs b o e).1 (I.ok.bs b o e).2 (I.ok.aa8 e) (I.ok.noex b o e),I.base.free b o (I.ok.bs b o e).1 (I.ok.bs b o e).2 (I.ok.noex b o e)⟩
def Inv.bk(I:Inv X pins σ H s):∀b o,X.base.get? b=some o->s.heap.get? b=some o:=λb o e=>(I.bs b o e).1
def Inv.mod(I:Inv X pins σ H s):Mod X.K X.mg X.base:=I.ok.mod
def Inv.EM(I:Inv X pins σ H s):X.K.In s.heap:=I.ok.mod.kin.keeps I.bk
def Inv.lt(I:Inv X pins σ H s):X.env.locals<s.heap.objs.size:=let⟨_,hn,_⟩:=I.loc;hn.lt
def Inv.sz(I:Inv X pins σ H s):X.s₀.heap.objs.size<=s.heap.objs.size:=bI I.ok.above (jq I.lt)
def Inv.ab7(I:Inv X pins σ H s){a:ak}(h:s.heap.objs.size<=a):a∉X.fs:=λhb=>by
 obtain⟨_,o,ho,_⟩:=I.ok.Bb.mem hb;exact absurd (bU (bh ho) (bI I.sz h)) (fY _)
def Inv.Xc(I:Inv X pins σ H s):∀x c,X.env.cells.lookup x=some c->c≠X.env.locals:=λx c e z=>by
 obtain⟨v,o,ho,hd⟩:=I.cell x c e;obtain⟨m,⟨o',es,ep,ho',hd',_⟩,_⟩:=I.loc;rw[z,ho']at ho;cases ho;rw[hd']at hd;cases hd
def Inv.Bb(I:Inv X pins σ H s):s.heap.FunFrames X.base X.outer:=by
 have all:∀(l:List Env),(∀b∈frs l,b∈X.fs)->X.s₀.heap.FunFrames X.base l->s.heap.FunFrames X.base l:=by
  intro l
  induction l with
  | nil=>intro _ _;trivial
  | cons env r ih=>
   intro hs hl;obtain⟨hk,⟨L,o,hf,hn,ho,hd⟩,hr⟩:=hl;have hL:L∈X.fs:=hs L (by unfold frs;rw[iT,hf];exact aJ);obtain⟨sl,e⟩:=I.base.slot L o ho (I.ok.frf L hL) hL λz=>I.ok.exfs L z hL;exact⟨hk,⟨L,_,hf,hn,e,hd⟩,ih (λb hb=>hs b (by unfold frs;rw[iT,hf];exact aL _ hb)) hr⟩
 exact all X.outer (λ_ hb=>hb) I.ok.Bb
def Inv.stack(I:Inv X pins σ H s):s.heap.FunFrames X.base X.stack:=by
 rcases I.ok.stk with e|⟨e,hf⟩
 ·rw[e];exact I.Bb
 ·rw[e];obtain⟨m,hn,_⟩:=I.loc;refine .cons (by rw[I.ok.kind];decide) hf hn ?_ I.Bb;exact Heap.get?_none_of_le (bI I.ok.bsz I.ok.above)
def Inv.HH(I:Inv X pins σ H s):∀b∈frs X.stack,b∈X.env.locals::X.fs:=λb hb=>by
 rcases I.ok.stk with e|⟨e,hf⟩
 ·rw[e]at hb;exact aL _ hb
 ·rw[e]at hb;unfold frs at hb;rw[iT,hf]at hb;exact hb
def Inv.Kh(I:Inv X pins σ H s):∀b∈frs X.stack,H b=none:=λb hb=>by
 rcases bw.mp (I.HH b hb)with e|hb
 ·rw[e];exact I.free
 ·obtain⟨_,o,ho,_⟩:=I.ok.Bb.mem hb;exact I.base.free b o ho (I.ok.frf b hb) λz=>I.ok.exfs b z hb
def Inv.step{g':Array GenState}{t':Nat}{d':Drawn}{ch:bb}(I:Inv X pins σ H s)
  (hch:∀b∈ch,(b∈X.ex\/X.s₀.heap.objs.size<=b)/\b≠X.env.locals/\(∀x c,X.env.cells.lookup x=some c->c≠b)/\∀p∈X.pn++pins,p.1≠b)
  (keep:∀b o,b≠X.env.locals->b∉X.fs->b∉ch->s.heap.get? b=some o->H b=none->h'.get? b=some o)
  (slot:∀b o,b≠X.env.locals->b∈X.fs->b∉ch->s.heap.get? b=some o->H b=none->∃sl,h'.get? b=some { o with slots:=sl }) (free:∀b o,b∉ch->s.heap.get? b=some o->H b=none->H' b=none)
  (there:∀b o,b∉ch->s.heap.get? b=some o->∃o',h'.get? b=some o')
  (tups:∀b xs,H b=some (.tup xs)->H' b=some (.tup xs)) (frzs:∀b o u,H b=some (.frz o u)->H' b=some (.frz o u)) (tbls:∀b ps,H b=some (.tbl ps)->∃more,H' b=some (.tbl (ps++more)))
  (ns:∀m,s.heap.Ns X.env.locals m->h'.Ns X.env.locals m) (hok:xq X.prog X.w H' h') (hg:AllBare g') :
  Inv X pins σ H' { s with heap:=h',gens:=g',drawn:=d',toks:=t' }:=by
 have neL:∀b o,X.s₀.heap.get? b=some o->b≠X.env.locals:=λb o e=>bF (bU (bh e) I.ok.above);have neC:∀b o,X.s₀.heap.get? b=some o->b∉X.ex->b∉ch:=λb o e hx hb=>by
  rcases(hch b hb).1 with z|z
  ·exact hx z
  ·exact absurd (bU (bh e) z) (fY _)
 have cellK:∀x c,X.env.cells.lookup x=some c->∀v,s.heap.IsCell c v->h'.IsCell c v:=λx c e v ⟨o,ho,hd⟩=>by
  have nch:c∉ch:=λz=>(hch c z).2.2.1 x c e rfl;by_cases hc:c∈X.fs
  ·obtain⟨sl,q⟩:=slot c o (I.Xc x c e) hc nch ho (I.freeC x c e);exact⟨_,q,hd⟩
  ·exact⟨o,keep c o (I.Xc x c e) hc nch ho (I.freeC x c e),hd⟩
 refine⟨I.ok,I.os,hg,⟨λb o e n hb hx=>?_,λb o e n hb hx=>?_,λb o e n hx=>?_,λb o e hx=>?_,λb xs e=>tups b xs (I.base.tups b xs e),λb o xs e=>frzs b o xs (I.base.frzs b o xs e),λb ps e=>?_⟩,?_,λx c e=>?_,?_,λx c e=>?_,λp hp=>?_,hok,I.len⟩
 ·exact keep b o (neL b o e) hb (neC b o e hx) (I.base.keep b o e n hb hx) (I.base.free b o e n hx)
 ·obtain⟨sl,e1⟩:=I.base.slot b o e n hb hx;obtain⟨sl',e2⟩:=slot b _ (neL b o e) hb (neC b o e hx) e1 (I.base.free b o e n hx);exact⟨sl',e2⟩
 ·obtain⟨o',e1⟩:=I.base.there b o e hx;exact free b o' (neC b o e hx) e1 (I.base.free b o e n hx)
 ·obtain⟨o',e1⟩:=I.base.there b o e hx;exact there b o' (neC b o e hx) e1
 ·obtain⟨m1,e1⟩:=I.base.tbls b ps e;obtain⟨m2,e2⟩:=tbls b _ e1;exact⟨m1++m2,by rw[e2,Array.append_assoc]⟩
 ·obtain⟨m,hn,hl⟩:=I.loc;refine⟨m,ns m hn,λi x v e1 e2 e3=>?_⟩;obtain⟨u,r,l⟩:=hl i x v e1 e2 e3;refine⟨u,r,?_⟩
  rcases l with l|⟨k,c,e,z⟩
  ·exact .inl l
  ·exact .inr ⟨k,c,e,cellK x c e _ z⟩
 ·obtain⟨v,z⟩:=I.cell x c e;exact⟨v,cellK x c e v z⟩
 ·obtain⟨m,⟨o,_,_,ho,_⟩,_⟩:=I.loc;exact free _ o (λz=>(hch _ z).2.1 rfl) ho I.free
 ·obtain⟨v,o,ho,hd⟩:=I.cell x c e;exact free c o (λz=>(hch c z).2.2.1 x c e rfl) ho (I.freeC x c e)
 ·obtain⟨e,n,ne,nf,d⟩:=I.pin p hp;have nch:p.1∉ch:=λz=>(hch p.1 z).2.2.2 p hp rfl;exact⟨keep p.1 p.2 ne nf nch e n,free p.1 p.2 nch e n,ne,nf,d⟩
def Inv.un{t':Nat}(I:Inv X pins σ H s)(u:Un X.fs [] H H' s.heap h')(hok:xq X.prog X.w H' h'):Inv X pins σ H' { s with heap:=h',toks:=t' }:=by
 obtain⟨m,⟨o,es,ep,ho,r⟩,_⟩:=id I.loc;obtain⟨sl,hL⟩:=u.any ho I.free (by simp);exact I.step (g':=s.gens) (d':=s.drawn) (ch:=[]) (nofun) (λb o _ hb _ e n=>u.keep b o e n hb (by simp)) (λb o _ hb _ e n=>u.slot b o e n hb (by simp)) (λb o _ e n=>u.free b o e n (by simp)) (λb o _ e=>u.there b o e (by simp)) u.tups u.frzs u.tbls (λm' hm=>by
  obtain⟨o',es',ep',ho',r'⟩:=hm;rw[ho]at ho';cases ho';exact⟨_,es',ep',hL,r'⟩) hok I.bare
def Inv.call{g':Array GenState}{t':Nat}{d':Drawn}{ch:bb}(I:Inv X pins σ H s)(u:Un (frs X.stack) ch H H' s.heap h')(hok:xq X.prog X.w H' h')(hg:AllBare g')
  (hch:∀b∈ch,(b∈X.ex\/X.s₀.heap.objs.size<=b)/\b≠X.env.locals/\(∀x c,X.env.cells.lookup x=some c->c≠b)/\∀p∈X.pn++pins,p.1≠b) :
  Inv X pins σ H' { s with heap:=h',gens:=g',drawn:=d',toks:=t' }:=by
 obtain⟨m,⟨o,es,ep,ho,r⟩,_⟩:=id I.loc;obtain⟨sl,hL⟩:=u.any ho I.free λz=>(hch _ z).2.1 rfl;exact I.step (ch:=ch) hch (λb o hL hb hc e n=>u.keep b o e n (λz=>(bw.mp (I.HH b z)).elim hL hb) hc) (λb o _ _ hc e n=>u.any e n hc) (λb o hc e n=>u.free b o e n hc) (λb o hc e=>u.there b o e hc) u.tups u.frzs u.tbls (λm' hm=>by
  obtain⟨o',es',ep',ho',r'⟩:=hm;rw[ho]at ho';cases ho';exact⟨_,es',ep',hL,r'⟩) hok hg
def Inv.turned{t':Nat}{it:ak}(I:Inv X pins σ H s)(k:∀b o,b≠it->s.heap.get? b=some o->h'.get? b=some o)(hn:H it=none)(hL:it≠X.env.locals)
  (h1:it∈X.ex\/X.s₀.heap.objs.size<=it) (h2:∀x c,X.env.cells.lookup x=some c->c≠it) (h3:∀p∈X.pn++pins,p.1≠it):Inv X pins σ H { s with heap:=h',toks:=t' }:=by
 have nit:∀b u,H b=some u->b≠it:=λb u e z=>by rw[z,hn]at e;cases e
 refine I.step (g':=s.gens) (d':=s.drawn) (ch:=[it]) (λb hb=>?_) (λb o _ _ hc e _=>k b o (λz=>hc (by simp[z])) e) (λb o _ _ hc e _=>⟨o.slots,k b o (λz=>hc (by simp[z])) e⟩) (λ_ _ _ _ n=>n)
  (λb o hc e=>⟨o,k b o (λz=>hc (by simp[z])) e⟩) (λ_ _ e=>e) (λ_ _ _ e=>e) (λb ps e=>⟨#[],by rw[e];simp⟩) (λm hm=>?_) (λb u e=>?_) I.bare
 ·have e:b=it:=by simpa using hb
  subst e;exact⟨h1,hL,h2,h3⟩
 ·obtain⟨o,es,ep,ho,r⟩:=hm;exact⟨o,es,ep,k _ o (dj hL) ho,r⟩
 ·refine(I.hok b u e).stay (λc v hc q=>k c v ?_ q) (λ_ q=>q) λ_ _ q=>q
  rcases hc with z|z
  ·rw[z];exact nit b u e
  ·exact nit c _ z
def Inv.tok(I:Inv X pins σ H s)(t:Nat):Inv X pins σ H { s with toks:=t }:=I.un (h':=s.heap) (t':=t) Un.refl I.hok
def Inv.kept{t':Nat}(I:Inv X pins σ H s)(k:∀b u,s.heap.get? b=some u->h'.get? b=some u):Inv X pins σ H { s with heap:=h',toks:=t' }:=I.un (Un.kept k) (I.hok.kept k)
def Inv.laid{a:ak}{t':Nat}(I:Inv X pins σ H s)(k:∀b u,s.heap.get? b=some u->h'.get? b=some u)(hp:s.heap.objs.size<=a)(new:lY X.prog X.w (upd H a o) h' a o) :
  Inv X pins σ (upd H a o) { s with heap:=h',toks:=t' }:=I.un (Un.laid k hp (I.hok.fresh hp)) (I.hok.laid k hp new)
def Inv.write{x e:ak}{t':Nat}(I:Inv X pins σ H s)(mu:Zl (H x))(he:e=x\/H e=some (.own x))(k:∀b u,b≠e->s.heap.get? b=some u->h'.get? b=some u)(heo:∃u,h'.get? e=some u)
  (new:lY X.prog X.w (upd H x o) h' x o):Inv X pins σ (upd H x o) { s with heap:=h',toks:=t' }:=I.un (Un.write mu he k heo) (I.hok.write mu he k heo new)
def Inv.Lm{pins':bd}(I:Inv X pins σ H s)(h:∀p∈pins',s.heap.get? p.1=some p.2/\H p.1=none/\p.1≠X.env.locals/\p.1∉X.fs/\∀v,p.2.data≠.cell v):Inv X pins' σ H s:=
 ⟨I.ok,I.os,I.bare,I.base,I.loc,I.cell,I.free,I.freeC,λp hp=>(bE.mp hp).elim (λz=>I.pin p (f_ _ z)) (h p),I.hok,I.len⟩
def Gq{N:ar}(hN:N.Nodup){i j:Nat}{x:Str}(a:N[i]?=some x)(b:N[j]?=some x):i=j:=by
 obtain⟨h1,e1⟩:=aN.mp a;obtain⟨h2,e2⟩:=aN.mp b;exact(dz hN).mp (e1.trans e2.symm)
def LQ{A:az}{E:af->aA->Prop}{i:Nat}{x:Str}{v:V}{Q:Unit->aA->Prop}(I:Inv X pins σ H s)(hN:X.N.Nodup)(hi:X.N[i]?=some x)(hx:Loc X.env.scope x)(r:RelV v u)
  (h:∀s',Inv X pins (σ.set i (some v)) H s'->(∃a,Heap.SameBut a s.heap s'.heap/\(a=X.env.locals\/X.env.cells.lookup x=some a))->Q Unit.unit s') (hf:X.fn x=true\/X.env.scope.names.lookup x=some .local:=by first|exact .inl rfl|exact .inr rfl|assumption):wpAny M A (storeName X.env x u) Q E s:=by
 obtain⟨m,hn,hl⟩:=id I.loc;have hcls:(X.env.scope.kind == .class || (X.env.scope.kind == .module && X.env.locals != X.env.globals))=false:=by rw[I.ok.kind];rfl
 have hiσ:i<σ.length:=by rw[I.len];exact(aN.mp hi).1
 have Xc:=I.Xc;have tracked:∀{a:ak} {h':aq},(∃o,s.heap.get? a=some o/\H a=none)->Heap.SameBut a s.heap h'->xq X.prog X.w H h':=λ{a h'} ha hs b ob e=>by
  obtain⟨_,_,hfree⟩:=ha;refine(I.hok b ob e).stay (λc w' hc q=>(hs.2 c ?_).trans q) (λ_ q=>q) λ_ _ q=>q;rintro rfl
  rcases hc with rfl|hc
  ·rw[hfree]at e;cases e
  ·rw[hfree]at hc;cases hc
 rcases hx with hk|hk
 ·refine wpAny_storeName_local hk hn (λh' hn' hs=>?_) hcls;obtain⟨oL,_,_,hoL,_⟩:=id hn;refine h _ ⟨I.ok,I.os,I.bare,⟨λb o e n hb hx=>?_,λb o e n hb hx=>?_,I.base.free,λb o e hx=>?_,I.base.tups,I.base.frzs,I.base.tbls⟩,⟨_,hn',λj y v' e1 e2 e3=>?_⟩,λy c e=>?_,I.free,I.freeC,λp hp=>?_,tracked ⟨oL,hoL,I.free⟩ hs,by simpa using I.len⟩ ⟨_,hs,.inl rfl⟩
  ·exact(hs.2 b (bF (bU (bh e) I.ok.above))).trans (I.base.keep b o e n hb hx)
  ·obtain⟨sl,e1⟩:=I.base.slot b o e n hb hx;exact⟨sl,(hs.2 b (bF (bU (bh e) I.ok.above))).trans e1⟩
  ·obtain⟨o',e1⟩:=I.base.there b o e hx;exact⟨o',(hs.2 b (bF (bU (bh e) I.ok.above))).trans e1⟩
  ·by_cases hj:j=i
   ·subst hj;rw[hi]at e1;cases e1;rw[cj hiσ]at e2
    cases e2
    exact⟨u,r,.inl ⟨hk,by simp⟩⟩
   ·rw[cH (dj hj)]at e2;obtain⟨u',r',q⟩:=hl j y v' e1 e2 e3;refine⟨u',r',?_⟩
    rcases q with⟨k,e⟩|⟨k,c,e,z⟩
    ·refine .inl ⟨k,?_⟩;have:y≠x:=λe=>hj (Gq hN e1 (e ▸ hi));simp[this,e]
    ·exact .inr ⟨k,c,e,z.sameBut hs (Xc y c e)⟩
  ·obtain⟨w',z⟩:=I.cell y c e;exact⟨w',z.sameBut hs (Xc y c e)⟩
  ·obtain⟨e,n,ne,nf,d⟩:=I.pin p hp;exact⟨(hs.2 p.1 ne).trans e,n,ne,nf,d⟩
 ·have hfn:X.fn x=true:=by
   rcases hf with z|z
   ·exact z
   ·rw[z]at hk;cases hk
  obtain⟨c,hc⟩:=I.ok.has x (.inl hk);obtain⟨w',z⟩:=I.cell x c hc;refine wpAny_storeName_cell I.ok.kind hk hc z (λh' hc' hs=>?_);obtain⟨oc,hoc,hocd⟩:=id z;refine h { s with heap:=h' } ⟨I.ok,I.os,I.bare,⟨λb o e n hb hx=>?_,λb o e n hb hx=>?_,I.base.free,λb o e hx=>?_,I.base.tups,I.base.frzs,I.base.tbls⟩,⟨m,hn.sameBut hs (dj (Xc x c hc)),λj y v' e1 e2 e3=>?_⟩,λy c' e=>?_,I.free,I.freeC,λp hp=>?_,tracked ⟨oc,hoc,I.freeC x c hc⟩ hs,by simpa using I.len⟩ ⟨c,hs,.inr hc⟩
  ·exact(hs.2 b (bF (bU (bh e) (I.ok.cab x c hfn hc)))).trans (I.base.keep b o e n hb hx)
  ·obtain⟨sl,e1⟩:=I.base.slot b o e n hb hx;exact⟨sl,(hs.2 b (bF (bU (bh e) (I.ok.cab x c hfn hc)))).trans e1⟩
  ·obtain⟨o',e1⟩:=I.base.there b o e hx;exact⟨o',(hs.2 b (bF (bU (bh e) (I.ok.cab x c hfn hc)))).trans e1⟩
  ·by_cases hj:j=i
   ·subst hj;rw[hi]at e1;cases e1;rw[cj hiσ]at e2
    cases e2
    exact⟨u,r,.inr ⟨.inl hk,c,hc,hc'⟩⟩
   ·rw[cH (dj hj)]at e2;obtain⟨u',r',q⟩:=hl j y v' e1 e2 e3;refine⟨u',r',?_⟩
    rcases q with q|⟨k,c',e,z'⟩
    ·exact .inl q
    ·refine .inr ⟨k,c',e,z'.sameBut hs ?_⟩;rintro rfl;exact hj (Gq hN e1 (I.ok.inj _ _ _ e hc ▸ hi))
  ·by_cases hcc:c'=c
   ·subst hcc;exact⟨_,hc'⟩
   ·obtain⟨w2,z2⟩:=I.cell y c' e;exact⟨w2,z2.sameBut hs hcc⟩
  ·obtain⟨e,n,ne,nf,d⟩:=I.pin p hp;refine⟨(hs.2 p.1 ?_).trans e,n,ne,nf,d⟩;intro q;rw[q,hoc]at e;have q':oc=p.2:=a_ e;exact d w' (by rw[<- q'];exact hocd)
def F0{A:az}{E:af->aA->Prop}{i:Nat}{x:Str}{v:V}{Q:Unit->aA->Prop}(I:Inv X pins σ H s)(hN:X.N.Nodup)(hi:X.N[i]?=some x)(hx:Loc X.env.scope x)(r:RelV v u)
  (h:∀s',Inv X pins (σ.set i (some v)) H s'->Q Unit.unit s') (hf:X.fn x=true\/X.env.scope.names.lookup x=some .local:=by first|exact .inl rfl|exact .inr rfl|assumption):wpAny M A (storeName X.env x u) Q E s:=
 LQ I hN hi hx r (λs' I' _=>h s' I') hf
def Inv.aas{s':aA}{ch:bb}(I:Inv X pins σ H s)(ho:s'.os=s.os)(u:Un (frs X.stack) ch H H' s.heap s'.heap)(hok:xq X.prog X.w H' s'.heap)(hg:AllBare s'.gens)
  (hch:∀b∈ch,(b∈X.ex\/X.s₀.heap.objs.size<=b)/\b≠X.env.locals/\(∀x c,X.env.cells.lookup x=some c->c≠b)/\∀p∈X.pn++pins,p.1≠b):Inv X pins σ H' s':=by
 obtain⟨h',g',d',t',o'⟩:=s';have e:o'=s.os:=ho;subst e;exact I.call (g':=g') (t':=t') (d':=d') u hok hg hch
end
noncomputable abbrev XK:=af->Option ak->Hp->Prop
noncomputable abbrev St:=List (Option V)
noncomputable abbrev VK:=V->Hp->Prop
noncomputable abbrev TE:=St->Hp->VK->Prop
noncomputable abbrev TT:=St->Hp->(Bool->Hp->Prop)->Prop
noncomputable abbrev TA:=St->Hp->(List V->Hp->Prop)->Prop
structure Ends where
 nx:St->Hp->Prop
 rt:VK
 bk:St->Hp->Prop:=λ_ _=>False
 ct:St->Hp->Prop:=λ_ _=>False
noncomputable abbrev TS:=Ends->St->Hp->Prop
noncomputable def EP (X:Cx)(pins:bd)(σ:St)(Q:VK)(u:af)(s':aA):Prop:=∃v H',Inv X pins σ H' s'/\RelV v u/\Q v H'
noncomputable def TP (X:Cx)(pins:bd)(σ:St)(Q:Bool->Hp->Prop)(b:Bool)(s':aA):Prop:=∃H',Inv X pins σ H' s'/\Q b H'
noncomputable def AP (X:Cx)(pins:bd)(σ:St)(Q:List V->Hp->Prop)(us:ba)(s':aA):Prop:=∃vs H',Inv X pins σ H' s'/\Vals vs us/\Q vs H'
noncomputable def SP (X:Cx)(pins:bd)(D:Ends)(f:Flow)(s':aA):Prop:=
 match f with
 | .next=>∃σ' H',Inv X pins σ' H' s'/\D.nx σ' H'
 | .brk=>∃σ' H',Inv X pins σ' H' s'/\D.bk σ' H'
 | .cont=>∃σ' H',Inv X pins σ' H' s'/\D.ct σ' H'
 | .ret u=>∃v σ' H',Inv X pins σ' H' s'/\RelV v u/\D.rt v H'
noncomputable def PE (X:Cx)(e:aC)(t:TE):Prop:=
 ∀(pins:bd) (s:aA) (σ:St) (H:Hp) (Q:VK),Inv X pins σ H s->t σ H Q->wpAny (model X.prog X.w) X.A (eval e X.env) (EP X pins σ Q) X.xe s
noncomputable def PT (X:Cx)(e:aC)(t:TT):Prop:=
 ∀(pins:bd) (s:aA) (σ:St) (H:Hp) (Q:Bool->Hp->Prop),Inv X pins σ H s->t σ H Q->wpAny (model X.prog X.w) X.A (isTrue e X.env (eval e X.env)) (TP X pins σ Q) X.xe s
noncomputable def PW (X:Cx)(e:aC)(t:TT):Prop:=
 ∀(whole:Sem af) (pins:bd) (s:aA) (σ:St) (H:Hp) (Q:Bool->Hp->Prop),Inv X pins σ H s->t σ H Q->wpAny (model X.prog X.w) X.A (isTrue e X.env whole) (TP X pins σ Q) X.xe s
noncomputable def PA (X:Cx)(es:List aC)(t:TA):Prop:=
 ∀(pos:Pos) (pins:bd) (s:aA) (σ:St) (H:Hp) (Q:List V->Hp->Prop),Inv X pins σ H s->t σ H Q->wpAny (model X.prog X.w) X.A (spliced (backTo pos (starEach es X.env))) (AP X pins σ Q) X.xe s
noncomputable def PS (X:Cx)(st:aE)(t:TS):Prop:=
 ∀(pins:bd) (s:aA) (σ:St) (H:Hp) (D:Ends),Inv X pins σ H s->t D σ H->wpAny (model X.prog X.w) X.A (exec st X.env) (SP X pins D) X.xe s
noncomputable def Dh (X:Cx)(st:List aE)(t:TS):Prop:=
 ∀(pins:bd) (s:aA) (σ:St) (H:Hp) (D:Ends),Inv X pins σ H s->t D σ H->wpAny (model X.prog X.w) X.A (execs st X.env) (SP X pins D) X.xe s
def nP{α:Type}{t:Sem α}{Q Q':α->aA->Prop}{A:az}{E:af->aA->Prop}(h:wpAny M A t Q E s)(hQ:∀a s,Q a s->Q' a s):wpAny M A t Q' E s:=iX h hQ λ_ _ x=>x
section
variable {X:Cx}
noncomputable def Zy (i:Nat):TE:=λσ H Q=>∃v,σ[i]?=some (some v)/\Q v H
noncomputable def tC (v:V):TE:=λ_ H Q=>Q v H
def Qo{i:Nat}{x:Str}(hN:X.N[i]?=some x)(hv:Zq X.env.scope x)(hd:(x == ("__debug__" : Str))=false:=by decide)(hcd:(x == ("__classdict__" : Str))=false:=by decide):PE X (.Name x pos) (Zy i):=by
 k_ne;obtain⟨v,e,h⟩:=h;obtain⟨m,hn,hl⟩:=I.loc;obtain⟨u,r,l⟩:=hl i x v hN e hv;have fin:EP X pins σ Q u s:=⟨v,H,I,r,h⟩
 rcases l with⟨hk,hm⟩|⟨hk,c,hc,hcell⟩
 ·exact wpAny_Name (wpAny_loadName_local I.ok.kind hk hn hm fin) hd
 ·rcases hk with hk|hk
  ·exact wpAny_Name (wpAny_loadName_cell I.ok.kind hk hc hcell fin) hd
  ·exact wpAny_Name (wpAny_loadName_free I.ok.kind hk hc hcell fin hcd) hd
def YU{i j pos}:PE X (.Constant (.int i) j pos) (tC (.int i)):=λ_ _ _ H _ I h=>wpAny_Constant_int ⟨.int i,H,I.tok _,⟨_,rfl⟩,h⟩
def aal{b j pos}:PE X (.Constant (.bool b) j pos) (tC (.bl b)):=λ_ _ _ H _ I h=>Constant_bool ⟨.bl b,H,I,rfl,h⟩
noncomputable def Gl (X:Cx)(x:Str):Prop:=X.env.kindOf x=some .globalImplicit
def KL{E:af->aA->Prop}{H:Hp}{x:Str}{Q:af->aA->Prop}(I:Inv X pins σ H s)(hg:Gl X x)(hm:X.mg x=some u)(h:Q u s)
  (hd:(x == ("__debug__" : Str))=false:=by decide):wpAny (model X.prog X.w) X.A (eval (.Name x pos) X.env) Q E s:=
 Calls.Name_function_global I.ok.kind hg (Calls.loadGlobal_global (by rw[I.ok.glob];exact I.mod.glob.keeps I.bk) hm h) hd
def wU{E:af->aA->Prop}{H:Hp}{x:Str}{Q:af->aA->Prop}(I:Inv X pins σ H s)(hg:Gl X x)(hm:X.mg x=none)(hv:bootBuiltins x=some u)(h:Q u s)
  (hn:x ≠ "__name__" := by decide) (hd:(x == ("__debug__" : Str))=false:=by decide):wpAny (model X.prog X.w) X.A (eval (.Name x pos) X.env) Q E s:=by
 obtain⟨mb,h1,h2⟩:=I.mod.blt;exact Calls.Name_function_global I.ok.kind hg (Calls.loadGlobal_builtin (by rw[I.ok.glob];exact I.mod.glob.keeps I.bk) hm (by rw[I.ok.blt];exact h1.keeps I.bk) ((h2 x hn).trans hv) h) hd
def TF{x:Str}{v:V}(hg:Gl X x)(hm:X.mg x=some u)(r:RelV v u)(hd:(x == ("__debug__" : Str))=false:=by decide):PE X (.Name x pos) (tC v):=
 λ_ _ _ H _ I h=>KL I hg hm ⟨v,H,I,r,h⟩ hd
def Si{x:Str}{v:V}(hg:Gl X x)(hm:X.mg x=none)(hv:bootBuiltins x=some u)(r:RelV v u)(hn:x ≠ "__name__" := by decide)(hd:(x == ("__debug__" : Str))=false:=by decide):PE X (.Name x pos) (tC v):=
 λ_ _ _ H _ I h=>wU I hg hm hv ⟨v,H,I,r,h⟩ hn hd
variable {a b:aC}{ta tb:TE}{pos:Pos}
variable {tA tB':TT}{rest:List aC}
noncomputable def Zn (t u:TT):TT:=λσ H Q=>t σ H λc H1=>if c=true then u σ H1 Q else Q false H1
noncomputable def tOr (t u:TT):TT:=λσ H Q=>t σ H λc H1=>if c=true then Q true H1 else u σ H1 Q
noncomputable def abX (t:TT):TT:=λσ H Q=>t σ H λc H1=>Q (!c) H1
def Tc(ha:PT X a tA):PW X (.BoolOp .And [a] pos) tA:=by
 intro wh pins s σ H Q I h;refine isTrue_and (nP (ha pins s σ H Q I h) λc s1 e=>?_)
 cases c with
 | true=>exact isTrue_and_nil e
 | false=>exact e
def XJ(ha:PT X a tA):PW X (.BoolOp .Or [a] pos) tA:=by
 intro wh pins s σ H Q I h;refine isTrue_or (nP (ha pins s σ H Q I h) λc s1 e=>?_)
 cases c with
 | false=>exact isTrue_or_nil e
 | true=>exact e
def XY(ha:PT X a tA)(hb:PW X (.BoolOp .And (b::rest) pos) tB'):PW X (.BoolOp .And (a::b::rest) pos) (Zn tA tB'):=by
 intro wh pins s σ H Q I h;refine isTrue_and (nP (ha pins s σ H _ I h) λc s1 ⟨H1,I1,q1⟩=>?_)
 cases c with
 | true=>exact hb wh pins s1 σ H1 Q I1 q1
 | false=>exact⟨H1,I1,q1⟩
def Y6(ha:PT X a tA)(hb:PW X (.BoolOp .Or (b::rest) pos) tB'):PW X (.BoolOp .Or (a::b::rest) pos) (tOr tA tB'):=by
 intro wh pins s σ H Q I h;refine isTrue_or (nP (ha pins s σ H _ I h) λc s1 ⟨H1,I1,q1⟩=>?_)
 cases c with
 | true=>exact⟨H1,I1,q1⟩
 | false=>exact hb wh pins s1 σ H1 Q I1 q1
def Yq(ha:PT X a tA):PT X (.UnaryOp .Not a pos) (abX tA):=by
 k_ne;exact isTrue_not (ha pins s σ H (λc H1=>Q (!c) H1) I h)
noncomputable def aaM (ta tb:TE):TE:=λσ H Q=>ta σ H λx H1=>∃c,x=.bl c/\if c=true then tb σ H1 Q else Q (.bl false) H1
noncomputable def aaz (ta:TE):TE:=λσ H Q=>ta σ H λx H1=>∃c,x=.bl c/\Q (.bl (!c)) H1
def WU{op}{t:TE}(h:PE X a t):PE X (.BoolOp op [a] pos) t:=λpins s σ H Q I hw=>BoolOp_one (h pins s σ H Q I hw)
def Xu(ha:PE X a ta)(hb:PE X (.BoolOp .And (b::rest) pos) tb):PE X (.BoolOp .And (a::b::rest) pos) (aaM ta tb):=by
 k_ne;refine BoolOp_and (nP (ha pins s σ H _ I h) λv s1 ⟨x,H1,I1,r1,q1⟩=>?_);obtain⟨c,rfl,q1⟩:=q1
 cases r1
 refine dI ?_
 cases c with
 | true=>exact hb pins s1 σ H1 Q I1 q1
 | false=>exact⟨.bl false,H1,I1,rfl,q1⟩
def YD(ha:PE X a ta):PE X (.UnaryOp .Not a pos) (aaz ta):=by
 k_ne;refine UnaryOp_ (nP (ha pins s σ H _ I h) λv s1 ⟨x,H1,I1,r1,q1⟩=>?_);obtain⟨c,rfl,q1⟩:=q1
 cases r1
 exact not_of (dI ⟨.bl (!c),H1,I1,rfl,q1⟩)
end
noncomputable def pL (K:au)(H:Hp)(a:ak)(xs:List V):Prop:=
 Rd H a (.lst xs) \/
  ∃(o:Obj) (its:Array af) (n:Nat),K.lookup a=some o/\o.cls=.type "list" /\ o.dict=none/\o.data=.seq its n/\its.size<=sizeLine/\Vals xs its.toList
noncomputable def ni (K:au)(H:Hp)(a:ak)(xs:List V):Prop:=
 Rd H a (.tup xs) \/
  ∃(o:Obj) (its:Array af) (n:Nat),K.lookup a=some o/\o.cls=.type "tuple" /\ o.dict=none/\o.data=.seq its n/\its.size<=sizeLine/\Vals xs its.toList
noncomputable def abI:af->Option V
 | .none=>some .non
 | .bool b=>some (.bl b)
 | .int i _=>some (.int i)
 | .str x _=>some (.str x)
 | .bytes b _=>some (.byt b)
 | .float b _=>some (.flt b)
 | .ref a=>some (.ref a)
 | .type n=>some (.ty n)
 | _=>none
def RelV.abs{x:V}(r:RelV x u):abI u=some x:=by
 cases x with
 | non=>cases r;rfl
 | bl _=>cases r;rfl
 | int _=>obtain⟨t,rfl⟩:=r;rfl
 | str _=>obtain⟨t,rfl⟩:=r;rfl
 | byt _=>obtain⟨t,rfl⟩:=r;rfl
 | flt _=>obtain⟨t,rfl⟩:=r;rfl
 | ref _=>cases r;rfl
 | ty _=>cases r;rfl
def RelV.inj{x:V}(r:RelV x u)(q:RelV y u):x=y:=a_ (r.abs.symm.trans q.abs)
theorem Vals.inj:∀{xs ys:List V}{us:ba},Vals xs us->Vals ys us->xs=ys
 | _,_,_,.nil,.nil=>rfl
 | _,_,_,.cons r t,.cons r' t'=>by rw[r.inj r',Vals.inj t t']
section
variable {X:Cx}{pins:bd}{σ:St}{H:Hp}{s:aA}{a:ak}{xs ys:List V}
def pL.of{K:au}(h:H a=some (.lst xs)):pL K H a xs:=.inl (.inl h)
def ni.of{K:au}(h:H a=some (.tup xs)):ni K H a xs:=.inl (.inl h)
def Inv.list(I:Inv X pins σ H s)(h:pL X.K H a xs):∃its:ba,Vals xs its/\PlainL s.heap a its.toArray/\xs.length<=sizeLine:=by
 rcases h with h|⟨o,its,n,hk,hc,hd,hs,hz,r⟩
 ·obtain⟨z,its,n,r,e⟩:=h.ok I.hok;exact⟨its,r,⟨_,n,e,rfl,rfl,rfl⟩,z⟩
 ·refine⟨its.toList,r,⟨o,n,I.EM a o hk,hc,hd,by simpa using hs⟩,?_⟩;have e:=r.length;dsimp[dN]at e;lia
def Inv.tuple(I:Inv X pins σ H s)(h:ni X.K H a xs):∃its:ba,Vals xs its/\IsTup s.heap a its.toArray/\xs.length<=sizeLine:=by
 rcases h with h|⟨o,its,n,hk,hc,_,hs,hz,r⟩
 ·obtain⟨z,its,r,p⟩:=h.ok I.hok;exact⟨its,r,p.tup,z⟩
 ·refine⟨its.toList,r,⟨o,I.EM a o hk,hc,n,by simpa using hs⟩,?_⟩;have e:=r.length;dsimp[dN]at e;lia
def Inv.GO(I:Inv X pins σ H s)(h:pL X.K H a xs)(h':pL X.K H a ys):xs=ys:=by
 obtain⟨its,r,⟨o,n,e,_,_,d⟩,_⟩:=I.list h;obtain⟨its',r',⟨o',n',e',_,_,d'⟩,_⟩:=I.list h';rw[e]at e';cases e';rw[d]at d'
 injection d' with d1 _
 have:its=its':=by simpa using dB Array.toList d1
 subst this;exact r.inj r'
def Inv.zd(I:Inv X pins σ H s)(h:ni X.K H a xs)(h':ni X.K H a ys):xs=ys:=by
 obtain⟨its,r,⟨o,e,_,n,d⟩,_⟩:=I.tuple h;obtain⟨its',r',⟨o',e',_,n',d'⟩,_⟩:=I.tuple h';rw[e]at e';cases e';rw[d]at d'
 injection d' with d1 _
 have:its=its':=by simpa using dB Array.toList d1
 subst this;exact r.inj r'
end
noncomputable abbrev Cx.B9 (X:Cx)(E:af->aA->Prop):Cx:={ X with xe:=E }
noncomputable abbrev Cx.nox (X:Cx):Cx:=X.B9 λ_ _=>False
def Cx.Ok.B9{X:Cx}(ok:X.Ok)(E:af->aA->Prop):(X.B9 E).Ok:=
 ⟨ok.mod,ok.kind,ok.glob,ok.blt,ok.above,ok.inj,ok.has,ok.cab,ok.hd,ok.frames,ok.stk,ok.exf,ok.bs,ok.bsz,ok.noex,ok.exfs,ok.Bb,ok.frf⟩
def Cx.Ok.uh{X:Cx}{E:af->aA->Prop}(ok:(X.B9 E).Ok):X.Ok:=
 ⟨ok.mod,ok.kind,ok.glob,ok.blt,ok.above,ok.inj,ok.has,ok.cab,ok.hd,ok.frames,ok.stk,ok.exf,ok.bs,ok.bsz,ok.noex,ok.exfs,ok.Bb,ok.frf⟩
section
variable {X:Cx}{pins:bd}{σ:St}{H:Hp}{s:aA}{E:af->aA->Prop}
def Inv.B9(I:Inv X pins σ H s)(E:af->aA->Prop):Inv (X.B9 E) pins σ H s:=⟨I.ok.B9 E,I.os,I.bare,I.base,I.loc,I.cell,I.free,I.freeC,I.pin,I.hok,I.len⟩
def Inv.uh(I:Inv (X.B9 E) pins σ H s):Inv X pins σ H s:=⟨I.ok.uh,I.os,I.bare,I.base,I.loc,I.cell,I.free,I.freeC,I.pin,I.hok,I.len⟩
def SP.uh{D:Ends}{f:Flow}(h:SP (X.B9 E) pins D f s'):SP X pins D f s':=by
 cases f with
 | next=>obtain⟨σ',H',I,q⟩:=h;exact⟨σ',H',I.uh,q⟩
 | brk=>obtain⟨σ',H',I,q⟩:=h;exact⟨σ',H',I.uh,q⟩
 | cont=>obtain⟨σ',H',I,q⟩:=h;exact⟨σ',H',I.uh,q⟩
 | ret u=>obtain⟨v,σ',H',I,r,q⟩:=h;exact⟨v,σ',H',I.uh,r,q⟩
def Dh.nox{st:List aE}{t:TS}(h:Dh X.nox st t):Dh X st t:=λpins s σ H D I hw=>
 iX (h pins s σ H D (I.B9 _) hw) (λ_ _ q=>q.uh) λ_ _ z=>False.elim z
end
section
variable {X:Cx}{st:aE}{rest:List aE}{t u:TS}{e:aC}{te:TE}{pos:Pos}
noncomputable def Y5:TS:=λD σ H=>D.nx σ H
noncomputable def aay (t u:TS):TS:=λD σ H=>t { D with nx:=u D } σ H
def UX:Dh X [] Y5:=λ_ _ σ H _ I h=>iO ⟨σ,H,I,h⟩
def Ph(h1:PS X st t)(h2:Dh X rest u):Dh X (st::rest) (aay t u):=by
 intro pins s σ H D I h;refine wpAny_execs_cons (nP (h1 pins s σ H { D with nx:=u D } I h) λf s1 q=>?_)
 cases f with
 | next=>
  obtain⟨σ',H',I',q⟩:=q;exact h2 pins s1 σ' H' D I' q
 | ret v=>exact q
 | brk=>exact q
 | cont=>exact q
def Um(h1:PS X st t):Dh X [st] t:=by
 intro pins s σ H D I h;refine wpAny_execs_cons (nP (h1 pins s σ H D I h) λf s1 q=>?_)
 cases f with
 | next=>exact iO q
 | ret v=>exact q
 | brk=>exact q
 | cont=>exact q
def Inv.quiet{H:Hp}(I:Inv X pins σ H s):interactive X.env=false:=by simp[interactive,I.ok.kind]
noncomputable def aaf (te:TE):TS:=λD σ H=>te σ H λ_ H1=>D.nx σ H1
def Uq(he:PE X e te)(hs:swapsWith e none pos.line X.env=pure false:=by rfl):PS X (.Expr e pos) (aaf te):=by
 intro pins s σ H D I h;exact wpAny_Expr_any (nP (he pins s σ H _ I h) λv s1 ⟨x,H1,I1,r1,q1⟩=>⟨σ,H1,I1,q1⟩) I.quiet hs
noncomputable def abd (te:TE):TS:=λD σ H=>te σ H D.rt
def WA(he:PE X e te):PS X (.Return (some e) pos) (abd te):=by
 intro pins s σ H D I h;exact wpAny_Return_some (nP (he pins s σ H _ I h) λv s1 ⟨x,H1,I1,r1,q1⟩=>⟨x,σ,H1,I1,r1,q1⟩)
noncomputable def abz (c:TT)(t u:TS):TS:=λD σ H=>c σ H λb H1=>if b=true then t D σ H1 else u D σ H1
def ZC{c:aC}{a:List aE}{tc:TT}(hc:PT X c tc)(ha:Dh X a t)(hb:Dh X b u):PS X (.If c a b pos) (abz tc t u):=by
 intro pins s σ H D I h;refine wpAny_If (nP (hc pins s σ H _ I h) λd s1 ⟨H1,I1,q1⟩=>?_)
 cases d with
 | true=>exact ha pins s1 σ H1 D I1 q1
 | false=>exact hb pins s1 σ H1 D I1 q1
noncomputable def Xg:TS:=λ_ _ _=>False
def RH:PS X st Xg:=λ_ _ _ _ _ _ h=>h.elim
end
noncomputable abbrev TG:=V->St->Hp->(St->Hp->Prop)->Prop
noncomputable abbrev VM:=List V->St->Hp->(St->Hp->Prop)->Prop
noncomputable def PG (X:Cx)(target:aC)(t:TG):Prop:=
 ∀(pins:bd) (s:aA) (σ:St) (H:Hp) (v:V) (u:af) (Q:St->Hp->Prop),Inv X pins σ H s->RelV v u->t v σ H Q ->
  wpAny (model X.prog X.w) X.A (assign target X.env u) (λ_ s'=>∃σ' H',Inv X pins σ' H' s'/\Q σ' H') X.xe s
noncomputable def PGs (X:Cx)(ts:List aC)(t:VM):Prop:=
 ∀(pins:bd) (s:aA) (σ:St) (H:Hp) (vs:List V) (us:ba) (Q:St->Hp->Prop),Inv X pins σ H s->Vals vs us->t vs σ H Q ->
  wpAny (model X.prog X.w) X.A (assignInOrder ((assignEach ts X.env).map (·.2)) us) (λ_ s'=>∃σ' H',Inv X pins σ' H' s'/\Q σ' H') X.xe s
noncomputable abbrev MM:=V->V->V->Hp->(Hp->Prop)->Prop
noncomputable def LL (X:Cx)(t:MM):Prop:=
 ∀(pins:bd) (s:aA) (σ:St) (H:Hp) (o i v:V) (ov iv u:af) (Q:Hp->Prop),Inv X pins σ H s->RelV o ov->RelV i iv->RelV v u->t o i v H Q ->
  wpAny (model X.prog X.w) X.A (setItem ov iv u) (λ_ s'=>∃H',Inv X pins σ H' s'/\Q H') X.xe s
section
variable {X:Cx}{pos:Pos}
noncomputable def U8 (i:Nat):TG:=λv σ H Q=>Q (σ.set i (some v)) H
def Tp{i:Nat}{x:Str}(hN:X.N.Nodup)(hi:X.N[i]?=some x)(hx:Loc X.env.scope x)(hf:X.fn x=true\/X.env.scope.names.lookup x=some .local:=by first|exact .inl rfl|exact .inr rfl|assumption):PG X (.Name x pos) (U8 i):=by
 intro pins s σ H v u Q I r h;exact wpAny_assign_Name (F0 I hN hi hx r (λs' I'=>⟨_,H,I',h⟩) hf)
noncomputable def ab5:VM:=λvs σ H Q=>vs=[]/\Q σ H
noncomputable def Z2 (t:TG)(u:VM):VM:=λvs σ H Q=>∃v r,vs=v::r/\t v σ H λσ' H'=>u r σ' H' Q
def Uv:PGs X [] ab5:=by
 intro pins s σ H vs us Q I r h;obtain⟨e,h⟩:=h;subst e
 cases r
 exact assignInOrder_nil ⟨σ,H,I,h⟩
def Rc{e:aC}{t:TG}{u:VM}(h1:PG X e t)(h2:PGs X es u)
  (hs:(assignEach (e::es) X.env).map (·.2)=assign e X.env::(assignEach es X.env).map (·.2):=by rfl):PGs X (e::es) (Z2 t u):=by
 intro pins s σ H vs us Q I r h;obtain⟨v,vr,e1,h⟩:=h;subst e1
 cases r with
 | cons r rr=>
  rw[hs];refine assignInOrder_cons (nP (h1 pins s σ H _ _ _ I r h) λ_ s1 ⟨σ1,H1,I1,q1⟩=>?_);exact h2 pins s1 σ1 H1 _ _ Q I1 rr q1
noncomputable def abr (K:au)(n:Nat)(t:VM):TG:=λv σ H Q=>∃a xs,v=.ref a/\ni K H a xs/\xs.length=n/\t xs σ H Q
def Yd{k:Nat}{t:VM}{n:Nat}(hc:X.calm=true)(h:PGs X es t)
  (hn:(assignEach es X.env).length=n:=by rfl) (hst:(assignEach es X.env).findIdx? (·.1)=none:=by rfl):PG X (.Tuple es k pos) (abr X.K n t):=by
 intro pins s σ H v u Q I r hw;obtain⟨a,xs,e1,hq,hl,hw⟩:=hw;subst e1
 cases r
 obtain⟨its,rv,ht,hz⟩:=I.tuple hq;refine assign_Tuple_tuple (I.ok.hd hc) ht (by simp[hn,<- hl,rv.length]) hst λh' hx=>?_;have I1:Inv X pins σ H { s with heap:=h' }:=I.kept (t':=s.toks) λb o e=>hx b o (bF (bh e)) e;exact h pins _ σ H xs _ Q I1 (by simpa using rv) hw
noncomputable def abP (to ti:TE)(t:MM):TG:=λv σ H Q=>to σ H λo H1=>ti σ H1 λi H2=>t o i v H2 λH3=>Q σ H3
def HL{to ti:TE}{t:MM}(ho:PE X o to)(hi:PE X i ti)(hs:LL X t)
  (ha:∀v,assign (.Subscript o i pos) X.env v=(do
   let ov <- holding [v] (eval o X.env)
   let iv <- holding [v,ov] (eval i X.env)
   standAt pos
   holding [v,ov,iv] (setItem ov iv v)
   release [v,ov,iv] []):=by intro _;rfl):PG X (.Subscript o i pos) (abP to ti t):=by
 intro pins s σ H v u Q I r h;rw[ha];refine aG (dH (nP (ho pins s σ H _ I h) λov s1 ⟨x,H1,I1,r1,q1⟩=>?_));refine aG (dH (nP (hi pins s1 σ H1 _ I1 q1) λiv s2 ⟨y,H2,I2,r2,q2⟩=>?_));refine aG (wpAny_standAt (aG (dH (nP (hs pins s2 σ H2 x y v ov iv u _ I2 r1 r2 r q2) λ_ s3 ⟨H3,I3,q3⟩=>?_))));exact wpAny_release ⟨σ,H3,I3,q3⟩
noncomputable def W4 (te:TE)(g:TG):TS:=λD σ H=>te σ H λx H1=>g x σ H1 D.nx
def YI{tg e:aC}{te:TE}{g:TG}(he:PE X e te)(hg:PG X tg g)(hs:swapsWithSole [tg] e pos.line X.env=pure false:=by rfl)(hw:swappedStores [tg] e X.env=pure none:=by rfl)
  (h1:(assignEach [tg] X.env).map (·.2)=[assign tg X.env]:=by rfl):PS X (.Assign [tg] e pos) (W4 te g):=by
 intro pins s σ H D I h;refine wpAny_Assign_stores (nP (he pins s σ H _ I h) λv s1 ⟨x,H1,I1,r1,q1⟩=>?_) hs hw;rw[h1];exact nP (hg pins s1 σ H1 x v _ I1 r1 q1) λ_ s2 q=>q
def WW{i:Nat}{x:Str}{e:aC}{te:TE}(hN:X.N.Nodup)(hi:X.N[i]?=some x)(hx:Loc X.env.scope x)(he:PE X e te)(hs:swapsWith e (some (.Name x pos')) pos.line X.env=pure false:=by rfl)(hf:X.fn x=true\/X.env.scope.names.lookup x=some .local:=by first|exact .inl rfl|exact .inr rfl|assumption) :
  PS X (.Assign [.Name x pos'] e pos) (W4 te (U8 i)):=by
 intro pins s σ H D I h;refine wpAny_Assign_Name (nP (he pins s σ H _ I h) λv s1 ⟨y,H1,I1,r1,q1⟩=>?_) hs;exact F0 I1 hN hi hx r1 (λs2 I2=>⟨_,H1,I2,q1⟩) hf
end
section
variable {X:Cx}{pos:Pos}
noncomputable def Ni (c:TT)(tb:TS):TS:=λD σ H=>∃W:Nat->St->Hp->Prop,(∃m,W m σ H)/\∀m σ H,W m σ H ->
 c σ H λb H1=>if b=true then ∃N:St->Hp->Prop,(∀σ' H',N σ' H'->∃m',m'<m/\W m' σ' H')/\tb { D with nx:=N,ct:=N,bk:=D.nx } σ H1 else D.nx σ H1
def Np{c:aC}{tc:TT}{tb:TS}(hp:PassesOwn (model X.prog X.w) X.A X.env X.xe)(hc:PT X c tc)(hb:Dh X body tb):PS X (.While c body [] pos) (Ni tc tb):=by
 intro pins s σ H D I h;obtain⟨W,⟨m0,w0⟩,turn⟩:=h;refine wpAny_While (codeAny_whileLoop (λn s'=>∃σ' H',Inv X pins σ' H' s'/\W n σ' H') ?_ m0 ⟨σ,H,I,w0⟩);rintro n s1 ⟨σ1,H1,I1,w1⟩;refine eY hp (nP (hc pins s1 σ1 H1 _ I1 (turn n σ1 H1 w1)) λb s2 ⟨H2,I2,q2⟩=>?_)
 cases b with
 | true=>
  obtain⟨N,hN,q2⟩:=q2;rw[aM rfl];refine eY hp (nP (hb pins s2 σ1 H2 _ I2 q2) λf s3 q3=>?_)
  cases f with
  | next=>
   obtain⟨σ3,H3,I3,n3⟩:=q3;obtain⟨m',hm,w3⟩:=hN σ3 H3 n3;exact⟨m',hm,σ3,H3,I3,w3⟩
  | cont=>
   obtain⟨σ3,H3,I3,n3⟩:=q3;obtain⟨m',hm,w3⟩:=hN σ3 H3 n3;exact⟨m',hm,σ3,H3,I3,w3⟩
  | brk=>exact q3
  | ret v=>exact q3
 | false=>
  rw[aK bH];exact iO ⟨σ1,H2,I2,q2⟩
end
structure It where
 go:Nat->Hp->Prop
 yld:Nat->Hp->V->Hp->Prop
 stop:Nat->Hp->Prop
noncomputable def yD (X:Cx)(pins:bd)(H:Hp)(b:ak):Prop:=
 H b=none/\b≠X.env.locals/\b∉X.fs/\(b∈X.ex\/X.s₀.heap.objs.size<=b)/\(∀x c,X.env.cells.lookup x=some c->c≠b)/\∀p∈X.pn++pins,p.1≠b
def Inv.F4{X:Cx}{H H':Hp}{s:aA}(I:Inv X pins σ H s)(hb:s.heap.objs.size<=b)(hn:H' b=none):yD X pins H' b:=by
 refine⟨hn,ne_of_gt (bU I.lt hb),I.ab7 hb,.inr (bI I.sz hb),λx c e z=>?_,λp hp z=>?_⟩
 ·obtain⟨v,q⟩:=I.cell x c e;exact absurd (bU q.lt (by rw[z];exact hb)) (fY _)
 ·exact absurd (bU (bh (I.pin p hp).1) (by rw[z];exact hb)) (fY _)
structure Turn (P:aj)(w:ah)(K:au)(tg:aC)(J:It)(fp:bb)(it:ak)(tn:Nat->aq->Prop):Prop where
 mem:it∈fp
 obj:∀i h,tn i h->∀b∈fp,∃o,h.get? b=some o/\∀v,o.data≠.cell v
 keep:∀i h h',tn i h->(∀b∈fp,∀o,h.get? b=some o->h'.get? b=some o)->tn i h'
 item:∀(X:Cx),X.prog=P->X.w=w->X.K=K->X.calm=true->∀(i:Nat) (pins:bd) (s:aA) (σ:St) (H:Hp) (E:af->aA->Prop),Inv X pins σ H s->(∀b∈fp,yD X pins H b)->tn i s.heap->J.go i H ->
  wpAny (model P w) X.A (pyNext (.ref it)) (λr s1=>∃u,r=some u /\
   wpAny (model P w) X.A (letOwnedTupleGo tg (.ref it) u) (λ_ s2=>∃x H',Inv X pins σ H' s2/\RelV x u/\J.yld i H x H'/\tn (i+1) s2.heap/\∀b∈fp,H' b=none) E s1) E s
 done:∀(X:Cx),X.prog=P->X.w=w->X.K=K->X.calm=true->∀(i:Nat) (pins:bd) (s:aA) (σ:St) (H:Hp) (E:af->aA->Prop),Inv X pins σ H s->(∀b∈fp,yD X pins H b)->tn i s.heap->J.stop i H ->
  wpAny (model P w) X.A (pyNext (.ref it)) (λr s1=>r=none/\Inv X pins σ H s1) E s
 self:∀(A:az) (i:Nat) (s:aA) (Q:af->aA->Prop) (E:af->aA->Prop),tn i s.heap->Q (.ref it) s->wpAny (model P w) A (pyIter (.ref it)) Q E s
noncomputable abbrev TI:=St->Hp->(It->Hp->Prop)->Prop
noncomputable def PIE (X:Cx)(pins:bd)(σ:St)(tg:aC)(R:It->Hp->Prop)(itv:af)(s2:aA):Prop:=
 ∃(it:ak) (fp:bb) (tn:Nat->aq->Prop) (J:It) (H':Hp),itv=.ref it/\Inv X pins σ H' s2/\Turn X.prog X.w X.K tg J fp it tn/\tn 0 s2.heap/\(∀b∈fp,yD X pins H' b)/\R J H'
noncomputable def PI (X:Cx)(tg iter:aC)(wi:TI):Prop:=
 ∀(pins:bd) (s:aA) (σ:St) (H:Hp) (R:It->Hp->Prop),Inv X pins σ H s->wi σ H R ->
  wpAny (model X.prog X.w) X.A (eval iter X.env) (λv s1=>wpAny (model X.prog X.w) X.A (pyIter v) (PIE X pins σ tg R) X.xe s1) X.xe s
def GN{A:az}{E:af->aA->Prop}{s:aA}{o:Obj}{n:String}{Q:Unit->aA->Prop}(ho:s.heap.get? it=some o)(hc:o.cls=.type n)(hd:o.data=.fields vs)
  (hn:["enumerate", "zip", "dict_itemiterator", "dict_reverseitemiterator", "odict_iterator", "itertools.zip_longest", "itertools.pairwise"].contains n=false) (hQ:Q Unit.unit s):wpAny M A (letOwnedTupleGo tg (.ref it) u) Q E s:=by
 unfold letOwnedTupleGo
 cases tg<;>first
  | exact aS hQ
  | (cases u<;>first
    | exact aS hQ
    | (refine aG (wpAny_load ho ?_)
       rw[hc,hd];show wpAny M A (if (["enumerate", "zip", "dict_itemiterator", "dict_reverseitemiterator", "odict_iterator", "itertools.zip_longest", "itertools.pairwise"].contains n && vs[0]? == some (rawInt _))=true then _ else _) Q E s;rw[aK (by intro h;rw[hn,Bool.false_and]at h;cases h)];exact aS hQ))
noncomputable def Itl (K:au)(a:ak):It:=
 ⟨λi H=>∃xs x,pL K H a xs/\xs[i]?=some x,λi H x H'=>H'=H/\∀xs,pL K H a xs->xs[i]?=some x,λi H=>∃xs,pL K H a xs/\xs.length<=i⟩
noncomputable def Y3 (K:au)(a:ak):It:=
 ⟨λi H=>∃xs x,ni K H a xs/\xs[i]?=some x,λi H x H'=>H'=H/\∀xs,ni K H a xs->xs[i]?=some x,λi H=>∃xs,ni K H a xs/\xs.length<=i⟩
noncomputable def Itr (lo:Int)(n:Nat):It:=⟨λi _=>i<n,λi H x H'=>H'=H/\x=.int (lo+i),λi _=>n<=i⟩
def Mt{P:aj}{w:ah}{K:au}(a it:ak):Turn P w K tg (Itl K a) [it] it (λi h=>h.IsListIter it a i) where
 mem:=by simp
 obj:=λi h st b hb=>by
  have e:b=it:=by simpa using hb
  subst e;obtain⟨o,e,c,d⟩:=st;exact⟨o,e,λv z=>by rw[d]at z;cases z⟩
 keep:=λi h h' st k=>st.at λo e=>k it (by simp) o e
 item:=by
  z_go;subst hP hw hK;obtain⟨xs,x,hq,hx⟩:=hg;obtain⟨its,rv,p,hz⟩:=I.list hq;obtain⟨u,hu,ru⟩:=rv.get hx;obtain⟨f0,f1,f2,f3,f4,f5⟩:=hf it (by simp);refine wpAny_pyNext_list_item st p.isList (x:=u) (by simpa using hu) λh' st' sb=>?_;have I1:Inv X pins σ H { s with heap:=h' }:=I.turned (t':=s.toks) (λb o hb e=>(sb.2 b hb).trans e) f0 f1 f3 f4 f5;obtain⟨o,e,c,d⟩:=id st';exact⟨u,rfl,GN (s:={ s with heap:=h' }) e c d ⋯ ⟨x,H,I1,ru,⟨rfl,λys hy=>by rw[I.GO hy hq];exact hx⟩,st',λb hb=>(hf b hb).1⟩⟩
 done:=by
  z_go;subst hP hw hK;obtain⟨xs,hq,hx⟩:=hg;obtain⟨its,rv,p,hz⟩:=I.list hq;obtain⟨f0,f1,f2,f3,f4,f5⟩:=hf it (by simp);have hl:=rv.length;exact wpAny_pyNext_list_end (I.ok.hd hc) st p.isList (by simp;lia) λh' eb=>⟨rfl,I.turned (t':=s.toks) (λb o hb e=>eb b o hb e) f0 f1 f3 f4 f5⟩
 self:=λ_ _ _ _ _ st h=>wpAny_pyIter_listiter st h
def Ig{P:aj}{w:ah}{K:au}(a it:ak):Turn P w K tg (Y3 K a) [it] it (λi h=>h.IsTupleIter it a i) where
 mem:=by simp
 obj:=λi h st b hb=>by
  have e:b=it:=by simpa using hb
  subst e;obtain⟨o,e,c,d⟩:=st;exact⟨o,e,λv z=>by rw[d]at z;cases z⟩
 keep:=λi h h' st k=>st.at λo e=>k it (by simp) o e
 item:=by
  z_go;subst hP hw hK;obtain⟨xs,x,hq,hx⟩:=hg;obtain⟨its,rv,p,hz⟩:=I.tuple hq;obtain⟨u,hu,ru⟩:=rv.get hx;obtain⟨f0,f1,f2,f3,f4,f5⟩:=hf it (by simp);refine wpAny_pyNext_tuple_item st (show s.heap.IsTuple a its.toArray from p) (x:=u) (by simpa using hu) λh' st' sb=>?_;have I1:Inv X pins σ H { s with heap:=h' }:=I.turned (t':=s.toks) (λb o hb e=>(sb.2 b hb).trans e) f0 f1 f3 f4 f5;obtain⟨o,e,c,d⟩:=id st';exact⟨u,rfl,GN (s:={ s with heap:=h' }) e c d ⋯ ⟨x,H,I1,ru,⟨rfl,λys hy=>by rw[I.zd hy hq];exact hx⟩,st',λb hb=>(hf b hb).1⟩⟩
 done:=by
  z_go;subst hP hw hK;obtain⟨xs,hq,hx⟩:=hg;obtain⟨its,rv,p,hz⟩:=I.tuple hq;obtain⟨f0,f1,f2,f3,f4,f5⟩:=hf it (by simp);have hl:=rv.length;exact wpAny_pyNext_tuple_end (I.ok.hd hc) st (show s.heap.IsTuple a its.toArray from p) (by simp;lia) λh' eb=>⟨rfl,I.turned (t':=s.toks) (λb o hb e=>eb b o hb e) f0 f1 f3 f4 f5⟩
 self:=λ_ _ _ _ _ st h=>wpAny_pyIter_tupleiter st h
def HF{P:aj}{w:ah}{K:au}(it:ak)(lo:Int)(n:Nat):Turn P w K tg (Itr lo n) [it] it (λi h=>IsRangeIter h it (lo+(i:Nat) * 1) ((n:Int)-(i:Nat)) 1) where
 mem:=by simp
 obj:=λi h st b hb=>by
  have e:b=it:=by simpa using hb
  subst e;exact⟨_,st,λv z=>by
   have z':Data.fields _=Data.cell v:=z
   cases z'⟩
 keep:=λi h h' st k=>k it (by simp) _ st
 item:=by
  z_go;subst hP hw hK;obtain⟨f0,f1,f2,f3,f4,f5⟩:=hf it (by simp);have W:=Walks.range (prog:=X.prog) (w:=X.w) (I.ok.hd hc) it lo 1 n;refine W.item i s _ _ hg st λv h' tk hv st' kk=>?_;obtain⟨t,rfl⟩:=hv;have I1:Inv X pins σ H { s with heap:=h',toks:=tk }:=I.turned (λb o hb e=>kk b o (by simpa using hb) e) f0 f1 f3 f4 f5;refine⟨_,rfl,GN (s:={ s with heap:=h',toks:=tk }) (n := "range_iterator") st' rfl rfl ⋯ ⟨.int (lo+i),H,I1,⟨t,?_⟩,⟨rfl,rfl⟩,st',λb hb=>(hf b hb).1⟩⟩;rw[Int.mul_one]
 done:=by
  z_go;subst hP hw hK;obtain⟨f0,f1,f2,f3,f4,f5⟩:=hf it (by simp);exact wpAny_pyNext_range_end (I.ok.hd hc) st (by have:n<=i:=hg;lia) λh' eb=>⟨rfl,I.turned (t':=s.toks) (λb o hb e=>eb b o hb e) f0 f1 f3 f4 f5⟩
 self:=λ_ _ _ _ _ st h=>wpAny_pyIter_rangeiter st h
section
variable {X:Cx}{tg:aC}
noncomputable def Zu (K:au)(tl:TE):TI:=λσ H R=>tl σ H λx H1=>∃a,x=.ref a/\(∃xs,pL K H1 a xs)/\R (Itl K a) H1
noncomputable def acp (K:au)(tl:TE):TI:=λσ H R=>tl σ H λx H1=>∃a,x=.ref a/\(∃xs,ni K H1 a xs)/\R (Y3 K a) H1
def Lr{l:aC}{tl:TE}(hl:PE X l tl):PI X tg l (Zu X.K tl):=by
 intro pins s σ H R I h;refine nP (hl pins s σ H _ I h) λv s1 ⟨x,H1,I1,r1,q1⟩=>?_;obtain⟨a,e,⟨xs,hq⟩,q⟩:=q1;subst e
 cases r1
 obtain⟨its,rv,p,hz⟩:=I1.list hq;refine jc p.isList ?_;refine⟨s1.heap.objs.size,[s1.heap.objs.size],_,_,H1,rfl,I1.kept (t':=s1.toks) λb o e=>aV _ e,Mt a _,⟨_,bC _ rfl,rfl,rfl⟩,λb hb=>?_,q⟩;have e:b=s1.heap.objs.size:=by simpa using hb
 subst e;exact I1.F4 (aO _) (I1.hok.fresh (aO _))
def OO{l:aC}{tl:TE}(hl:PE X l tl):PI X tg l (acp X.K tl):=by
 intro pins s σ H R I h;refine nP (hl pins s σ H _ I h) λv s1 ⟨x,H1,I1,r1,q1⟩=>?_;obtain⟨a,e,⟨xs,hq⟩,q⟩:=q1;subst e
 cases r1
 obtain⟨its,rv,p,hz⟩:=I1.tuple hq;refine gK (show s1.heap.IsTuple a its.toArray from p) ?_;refine⟨s1.heap.objs.size,[s1.heap.objs.size],_,_,H1,rfl,I1.kept (t':=s1.toks) λb o e=>aV _ e,Ig a _,⟨_,bC _ rfl,rfl,rfl⟩,λb hb=>?_,q⟩;have e:b=s1.heap.objs.size:=by simpa using hb
 subst e;exact I1.F4 (aO _) (I1.hok.fresh (aO _))
def GP{H:Hp}{s:aA}{R:It->Hp->Prop}{E:af->aA->Prop}{lo hi:Int}{t v:Tok}{tk:Nat}(I:Inv X pins σ H s)(h1:-(2 ^ 62)<=lo)(h2:lo<2 ^ 62)(h3:-(2 ^ 62)<=hi)(h4:hi<2 ^ 62)
  (q:R (Itr lo (hi-lo).toNat) H):wpAny (model X.prog X.w) X.A (pyIter (.ref s.heap.objs.size)) (PIE X pins σ tg R) E { s with heap:=s.heap.push { cls:=.type "range",data:=.fields #[.int lo t,.int hi u,.int 1 v]},toks:=tk }:=by
 refine wpAny_pyIter_range (IsRange.new ..) (small_one h1 h2 h3 h4) ?_;have I1:Inv X pins σ H { s with heap:=s.heap.push { cls:=.type "range",data:=.fields #[.int lo t,.int hi u,.int 1 v]},toks:=tk }:=I.kept λb o e=>aV _ e;refine⟨(s.heap.push { cls:=.type "range",data:=.fields #[.int lo t,.int hi u,.int 1 v]}).objs.size,[(s.heap.push { cls:=.type "range",data:=.fields #[.int lo t,.int hi u,.int 1 v]}).objs.size],_,_,H,rfl,
  I1.kept (t':=tk) λb o e=>aV _ e,HF _ lo (hi-lo).toNat,?_,λb hb=>?_,q⟩
 ·have e1:lo+((0:Nat):Int) * 1=lo:=by simp
  have e2:(((hi-lo).toNat:Nat):Int)-((0:Nat):Int)=Builtin.Range.rangeSize lo hi 1:=by rw[rangeSize_one];split<;>lia
  skip
  rw[e1,e2];exact bC _ rfl
 ·have e:b=(s.heap.push { cls:=.type "range",data:=.fields #[.int lo t,.int hi u,.int 1 v]}).objs.size:=by simpa using hb
  subst e;exact I1.F4 (aO _) (I1.hok.fresh (aO _))
noncomputable def se (ta:TA):TI:=λσ H R=>ta σ H λvs H1=>∃j:Int,vs=[.int j]/\-(2 ^ 62)<=j/\j<2 ^ 62/\R (Itr 0 j.toNat) H1
noncomputable def AK (ta:TA):TI:=λσ H R=>ta σ H λvs H1=>∃i j:Int,vs=[.int i,.int j]/\(-(2 ^ 62)<=i/\i<2 ^ 62/\-(2 ^ 62)<=j/\j<2 ^ 62)/\R (Itr i (j-i).toNat) H1
def MH{a:aC}{ta:TA}{p:Pos}(hg:Gl X "range")(hm:X.mg "range" = none)(ha:PA X [a] ta)(hs:starEach [a] X.env=[(false,eval a X.env)]:=by rfl):PI X tg (.Call (.Name "range" p) [a] [] pos) (se ta):=by
 intro pins s σ H R I h;refine Call_ (wU I hg hm boot_range (dG (nP (ha pos pins s σ H _ I h) λus s1 ⟨vs,H1,I1,r1,q1⟩=>?_) hs rfl));obtain⟨j,e,q1,q2,q⟩:=q1;subst e
 cases r1 with
 | cons r rr=>
  cases rr
  obtain⟨t,rfl⟩:=r;exact call_range_1 (GP I1 () () q1 q2 (by simpa using q))
def LP{a b:aC}{ta:TA}{p:Pos}(hg:Gl X "range")(hm:X.mg "range" = none)(ha:PA X [a,b] ta)(hs:starEach [a,b] X.env=[(false,eval a X.env),(false,eval b X.env)]:=by rfl)(hs2:starEach [b] X.env=[(false,eval b X.env)]:=by rfl) :
  PI X tg (.Call (.Name "range" p) [a,b] [] pos) (AK ta):=by
 intro pins s σ H R I h;refine Call_ (wU I hg hm boot_range (dG (nP (ha pos pins s σ H _ I h) λus s1 ⟨vs,H1,I1,r1,q1⟩=>?_) (by rw[hs,hs2]) (by rw[hs2];rfl)));obtain⟨i,j,e,⟨q1,q2,q3,q4⟩,q⟩:=q1;subst e
 cases r1 with
 | cons r rr=>
  cases rr with
  | cons r' rr=>
   cases rr
   obtain⟨t,rfl⟩:=r;obtain⟨t',rfl⟩:=r';exact call_range_2 (GP I1 q1 q2 q3 q4 q)
noncomputable def abA (wi:TI)(g:TG)(tb:TS):TS:=λD σ H=>wi σ H λJ H1=>∃W:Nat->Nat->St->Hp->Prop,(∃m,W 0 m σ H1)/\∀i m σ H,W i m σ H ->
 (J.stop i H/\D.nx σ H)\/(J.go i H/\∃N:St->Hp->Prop,(∀σ' H',N σ' H'->∃m',m'<m/\W (i+1) m' σ' H')/\∀x H',J.yld i H x H'->g x σ H' λσ2 H2=>tb { D with nx:=N,ct:=N,bk:=D.nx } σ2 H2)
noncomputable def Ak (fp:bb)(h:aq):bd:=fp.filterMap λb=>(h.get? b).map λo=>(b,o)
def tD{fp:bb}{h:aq}{b:ak}(hb:b∈fp)(e:h.get? b=some o):(b,o)∈Ak fp h:=List.mem_filterMap.mpr ⟨b,hb,by rw[e];rfl⟩
def Lu{fp:bb}{h:aq}{p:ak×Obj}(hp:p∈Ak fp h):p.1∈fp/\h.get? p.1=some p.2:=by
 obtain⟨b,hb,e⟩:=List.mem_filterMap.mp hp
 cases q:h.get? b with
 | none=>rw[q]at e;cases e
 | some o=>
  rw[q]at e;have e':(b,o)=p:=a_ e;subst e';exact⟨hb,q⟩
def Inv.pinned{H:Hp}{s:aA}{fp:bb}(I:Inv X pins σ H s)(hf:∀b∈fp,yD X pins H b)(ho:∀b∈fp,∃o,s.heap.get? b=some o/\∀v,o.data≠.cell v):Inv X (pins++Ak fp s.heap) σ H s:=
 I.Lm λp hp=>(bE.mp hp).elim (λz=>I.pin p (bZ _ z)) λz=>by
  obtain⟨hb,e⟩:=Lu z;obtain⟨f0,f1,f2,_⟩:=hf p.1 hb;obtain⟨o,e',d⟩:=ho p.1 hb;rw[e]at e';cases e';exact⟨e,f0,f1,f2,d⟩
def Inv.xW{pl:bd}{H:Hp}(I:Inv X (pins++pl) σ H s):Inv X pins σ H s:=I.Lm λp hp=>I.pin p (bZ _ (f_ _ hp))
def Yu{iter:aC}{wi:TI}{g:TG}{tb:TS}(hp:PassesOwn (model X.prog X.w) X.A X.env X.xe)(hc:X.calm=true)(hi:PI X tg iter wi)(hg:PG X tg g)(hb:Dh X body tb)
  (hs:∀x,foldedSetIterable iter X.env x=pure x:=by intro _;rfl):PS X (.For tg iter body [] pos) (abA wi g tb):=by
 intro pins s σ H D I h;refine wpAny_For (nP (hi pins s σ H _ I h) λv s1 h1=>nP h1 λitv s2 h2=>?_) hs;obtain⟨it,fp,tn,J,H2,e,I2,T,st2,f2,W,⟨m0,w0⟩,turn⟩:=h2;subst e;have stat:∀{H':Hp},(∀b∈fp,H' b=none)->∀b∈fp,yD X pins H' b:=λhn b hb=>⟨hn b hb,(f2 b hb).2⟩;refine codeAny_forLoop_any (λn s'=>∃i σ' H',Inv X pins σ' H' s'/\tn i s'.heap/\(∀b∈fp,H' b=none)/\W i n σ' H') ?_ m0 ⟨0,σ,H2,I2,st2,λb hb=>(f2 b hb).1,w0⟩;rintro n s3 ⟨i,σ3,H3,I3,st3,fr3,w3⟩
 rcases turn i n σ3 H3 w3 with⟨stop,qn⟩|⟨go,N,hN,step⟩
 ·refine eY hp (nP (T.done X rfl rfl rfl hc i pins s3 σ3 H3 X.xe I3 (stat fr3) st3 stop) λr s4 ⟨hr,I4⟩=>?_);subst hr;exact iO ⟨σ3,H3,I4,qn⟩
 ·refine eY hp (nP (T.item X rfl rfl rfl hc i pins s3 σ3 H3 X.xe I3 (stat fr3) st3 go) λr s4 ⟨u,hr,h4⟩=>?_);subst hr;refine eY hp (nP h4 λ_ s5 ⟨x,H5,I5,r5,y5,st5,fr5⟩=>?_);have I5':=I5.pinned (stat fr5) (T.obj _ _ st5);refine eY hp (nP (hg _ s5 σ3 H5 x u _ I5' r5 (step x H5 y5)) λ_ s6 ⟨σ6,H6,I6,q6⟩=>?_);refine eY hp (nP (hb _ s6 σ6 H6 _ I6 q6) λf s7 q7=>?_);have again:∀{σ7:St} {H7:Hp},Inv X (pins++Ak fp s5.heap) σ7 H7 s7->N σ7 H7->∃m,m<n/\∃i σ' H',Inv X pins σ' H' s7/\tn i s7.heap/\(∀b∈fp,H' b=none)/\W i m σ' H':=λ{σ7 H7} I7 n7=>by
   obtain⟨m',hm,w7⟩:=hN σ7 H7 n7;refine⟨m',hm,i+1,σ7,H7,I7.xW,T.keep _ _ _ st5 λb hb o e=>(I7.pin (b,o) (bZ _ (bZ _ (tD hb e)))).1,λb hb=>?_,w7⟩;obtain⟨o,e,d⟩:=T.obj _ _ st5 b hb;exact(I7.pin (b,o) (bZ _ (bZ _ (tD hb e)))).2.1
  cases f with
  | next=>obtain⟨σ7,H7,I7,n7⟩:=q7;exact again I7 n7
  | cont=>obtain⟨σ7,H7,I7,n7⟩:=q7;exact again I7 n7
  | brk=>obtain⟨σ7,H7,I7,q7⟩:=q7;exact⟨σ7,H7,I7.xW,q7⟩
  | ret v=>obtain⟨x7,σ7,H7,I7,r7,q7⟩:=q7;exact⟨x7,σ7,H7,I7.xW,r7,q7⟩
end
def Jy{K:au}{a:ak}{xs:List V}{g:TG}{tb:TS}{D:Ends}{H:Hp}(Pv:Nat->St->Hp->Prop)(h0:Pv 0 σ H)(hl:∀i σ H,i<=xs.length->Pv i σ H->ni K H a xs)
  (hs:∀i x σ H,xs[i]?=some x->Pv i σ H->g x σ H λσ2 H2=>tb { D with nx:=Pv (i+1),ct:=Pv (i+1),bk:=D.nx } σ2 H2) (hd:∀σ H,Pv xs.length σ H->D.nx σ H) :
  ∃W:Nat->Nat->St->Hp->Prop,(∃m,W 0 m σ H)/\∀i m σ H,W i m σ H ->
   ((Y3 K a).stop i H/\D.nx σ H)\/((Y3 K a).go i H/\∃N:St->Hp->Prop,(∀σ' H',N σ' H'->∃m',m'<m/\W (i+1) m' σ' H')/\∀x H',(Y3 K a).yld i H x H'->g x σ H' λσ2 H2=>tb { D with nx:=N,ct:=N,bk:=D.nx } σ2 H2):=by
 refine⟨λi m σ H=>m=xs.length-i/\i<=xs.length/\Pv i σ H,⟨xs.length,by simp,bL _,h0⟩,?_⟩;rintro i m σ H ⟨rfl,hi,p⟩;have q:=hl i σ H hi p;by_cases hlt:i<xs.length
 ·refine .inr ⟨⟨xs,xs[i],q,by simp[hlt]⟩,Pv (i+1),λσ' H' p'=>⟨xs.length-(i+1),(),rfl,hlt,p'⟩,λx H' y=>?_⟩;obtain⟨e,y⟩:=y;subst e;exact hs i x σ _ (y xs q) p
 ·have e:i=xs.length:=()
  subst e;exact .inl ⟨⟨xs,q,aO _⟩,hd σ H p⟩
def yk{c:TT}{tb:TS}{D:Ends}{H:Hp}(Pv:St->Hp->Prop)(μ:St->Hp->Nat)(h0:Pv σ H)
  (hs:∀σ H,Pv σ H->c σ H λb H1=>if b=true then tb { D with nx:=λσ' H'=>Pv σ' H'/\μ σ' H'<μ σ H,ct:=λσ' H'=>Pv σ' H'/\μ σ' H'<μ σ H,bk:=D.nx } σ H1 else D.nx σ H1)
  (mono:∀σ H Q Q',(∀b H1,Q b H1->Q' b H1)->c σ H Q->c σ H Q'):Ni c tb D σ H:=by
 refine⟨λm σ H=>m=μ σ H/\Pv σ H,⟨_,rfl,h0⟩,?_⟩;rintro m σ H ⟨rfl,p⟩;refine mono σ H _ _ (λb H1 q=>?_) (hs σ H p)
 cases b with
 | true=>exact⟨_,λσ' H' ⟨p',l⟩=>⟨_,l,rfl,p'⟩,q⟩
 | false=>exact q
noncomputable abbrev R2:=V->V->Hp->VK->Prop
noncomputable def pB (X:Cx)(f:af->af->Sem af)(r:R2):Prop:=
 ∀(pins:bd) (s:aA) (σ:St) (H:Hp) (x y:V) (v u:af) (Q:VK),Inv X pins σ H s->RelV x v->RelV y u->r x y H Q ->
  wpAny (model X.prog X.w) X.A (f v u) (EP X pins σ Q) X.xe s
noncomputable def UnR (X:Cx)(f:af->Sem af)(r:V->Hp->VK->Prop):Prop:=
 ∀(pins:bd) (s:aA) (σ:St) (H:Hp) (x:V) (v:af) (Q:VK),Inv X pins σ H s->RelV x v->r x H Q ->
  wpAny (model X.prog X.w) X.A (f v) (EP X pins σ Q) X.xe s
noncomputable def kJ (X:Cx)(f:af)(r:List V->Hp->VK->Prop):Prop:=
 ∀(pins:bd) (s:aA) (σ:St) (H:Hp) (xs:List V) (us:ba) (Q:VK),Inv X pins σ H s->Vals xs us->r xs H Q ->
  wpAny (model X.prog X.w) X.A (call f us) (EP X pins σ Q) X.xe s
noncomputable def abl (X:Cx)(r:V->Hp->(Bool->Hp->Prop)->Prop):Prop:=
 ∀(pins:bd) (s:aA) (σ:St) (H:Hp) (x:V) (v:af) (Q:Bool->Hp->Prop),Inv X pins σ H s->RelV x v->r x H Q ->
  wpAny (model X.prog X.w) X.A (truthy v) (TP X pins σ Q) X.xe s
noncomputable def ZW (r:R2)(ta tb:TE):TE:=λσ H Q=>ta σ H λx H1=>tb σ H1 λy H2=>r x y H2 Q
noncomputable def tUn (r:V->Hp->VK->Prop)(ta:TE):TE:=λσ H Q=>ta σ H λx H1=>r x H1 Q
noncomputable def rI (C:Int->Int->Prop)(g:Int->Int->V):R2:=λx y H Q=>∃i j,x=.int i/\y=.int j/\C i j/\Q (g i j) H
noncomputable def VV (g:Int->Int->V):R2:=λx y H Q=>∃i j,x=.int i/\y=.int j/\Q (g i j) H
noncomputable def rU (g:Int->V):V->Hp->VK->Prop:=λx H Q=>∃i,x=.int i/\Q (g i) H
section
variable {X:Cx}{a b:aC}{ta tb:TE}{pos:Pos}
def W5(ha:PE X a ta)(hb:PE X b tb){H:Hp}{R:V->V->Hp->Prop}(I:Inv X pins σ H s)
  (h:ta σ H λx H1=>tb σ H1 λy H2=>R x y H2) {Q:af->aA->Prop} {f:af->af->Sem af}
  (hf:∀v u s2 x y H2,Inv X pins σ H2 s2->RelV x v->RelV y u->R x y H2->wpAny (model X.prog X.w) X.A (f v u) Q X.xe s2) :
  wpAny (model X.prog X.w) X.A (eval a X.env) (λv s₁=>wpAny (model X.prog X.w) X.A (eval b X.env) (λu s₂=>wpAny (model X.prog X.w) X.A (f v u) Q X.xe s₂) X.xe s₁) X.xe s:=by
 refine nP (ha pins s σ H _ I h) λv s1 ⟨x,H1,I1,r1,q1⟩=>?_;refine nP (hb pins s1 σ H1 _ I1 q1) λu s2 ⟨y,H2,I2,r2,q2⟩=>?_;exact hf v u s2 x y H2 I2 r1 r2 q2
def Zs{r:R2}(ho:pB X (binaryOp op) r)(ha:PE X a ta)(hb:PE X b tb):PE X (.BinOp a op b pos) (ZW r ta tb):=by
 k_ne;exact wpAny_BinOp (W5 ha hb I h λv u s2 x y H2 I2 rx ry q=>ho pins s2 σ H2 x y v u Q I2 rx ry q)
def aam{r:V->Hp->VK->Prop}(ho:UnR X (unaryOp op) r)(ha:PE X a ta):PE X (.UnaryOp op a pos) (tUn r ta):=by
 k_ne;exact UnaryOp_ (nP (ha pins s σ H _ I h) λv s1 ⟨x,H1,I1,r1,q1⟩=>ho pins s1 σ H1 x v Q I1 r1 q1)
def opI{f:af->af->Sem af}{C:Int->Int->Prop}{g:Int->Int->Int}
  (rule:∀(i j:Int) (t u:Tok) (s:aA) (Q:af->aA->Prop) (E:af->aA->Prop),C i j->Q (.int (g i j) s.toks) { s with toks:=s.toks+1 }->wpAny (model X.prog X.w) X.A (f (.int i t) (.int j u)) Q E s) :
  pB X f (rI C λi j=>.int (g i j)):=by
 intro pins s σ H x y v u Q I rx ry h;obtain⟨i,j,rfl,rfl,hc,q⟩:=h;obtain⟨t,rfl⟩:=rx;obtain⟨t',rfl⟩:=ry;exact rule i j t t' s _ _ hc ⟨.int (g i j),H,I.tok _,⟨_,rfl⟩,q⟩
def ZI{f:af->af->Sem af}{g:Int->Int->Int}
  (rule:∀(i j:Int) (t u:Tok) (s:aA) (Q:af->aA->Prop) (E:af->aA->Prop),Q (.int (g i j) s.toks) { s with toks:=s.toks+1 }->wpAny (model X.prog X.w) X.A (f (.int i t) (.int j u)) Q E s) :
  pB X f (VV λi j=>.int (g i j)):=by
 intro pins s σ H x y v u Q I rx ry h;obtain⟨i,j,rfl,rfl,q⟩:=h;obtain⟨t,rfl⟩:=rx;obtain⟨t',rfl⟩:=ry;exact rule i j t t' s _ _ ⟨.int (g i j),H,I.tok _,⟨_,rfl⟩,q⟩
def UR{f:af->af->Sem af}{g:Int->Int->Bool}
  (rule:∀(i j:Int) (t u:Tok) (s:aA) (Q:af->aA->Prop) (E:af->aA->Prop),Q (.bool (g i j)) s->wpAny (model X.prog X.w) X.A (f (.int i t) (.int j u)) Q E s) :
  pB X f (VV λi j=>.bl (g i j)):=by
 intro pins s σ H x y v u Q I rx ry h;obtain⟨i,j,rfl,rfl,q⟩:=h;obtain⟨t,rfl⟩:=rx;obtain⟨t',rfl⟩:=ry;exact rule i j t t' s _ _ ⟨.bl (g i j),H,I,rfl,q⟩
noncomputable def abv (i j:Int):Prop:=0<=j/\j<=1000000/\i.natAbs<2 ^ 64
noncomputable def UD (i j:Int):Prop:=(-(2 ^ 64)<i/\i<2 ^ 64)\/(-(2 ^ 64)<j/\j<2 ^ 64)
def UD.ok{i j:Int}(h:UD i j):IntMulOk i j:=by
 rcases h with⟨h1,h2⟩|⟨h1,h2⟩
 ·exact .of_left (intBits_le_64 h1 h2)
 ·exact .of_right (intBits_le_64 h1 h2)
def WC:pB X (binaryOp .Add) (VV λi j=>.int (i+j)):=ZI λ_ _ _ _ _ _ _ q=>add_int q
def Xk:pB X (binaryOp .Sub) (VV λi j=>.int (i-j)):=ZI λ_ _ _ _ _ _ _ q=>sub_int q
def Wr:pB X (binaryOp .Mult) (rI UD λi j=>.int (i * j)):=opI λ_ _ _ _ _ _ _ hc q=>mul_int q hc.ok
def YM:pB X (binaryOp .Mod) (rI (λ_ j=>0<j) λi j=>.int (i % j)):=opI λi j _ _ _ _ _ hc q=>by
 have h1:(0:Int)<j:=hc;exact mod_int' () (by rw[Int.fmod_eq_emod_of_nonneg i ()];exact q)
def Wk:pB X (binaryOp .Pow) (rI abv λi j=>.int (i ^ j.toNat)):=opI λ_ _ _ _ _ _ _ hc q=>pow_int_small hc.1 hc.2.1 hc.2.2 q
def unI{f:af->Sem af}{g:Int->Int}
  (rule:∀(i:Int) (t:Tok) (s:aA) (Q:af->aA->Prop) (E:af->aA->Prop),Q (.int (g i) s.toks) { s with toks:=s.toks+1 }->wpAny (model X.prog X.w) X.A (f (.int i t)) Q E s) :
  UnR X f (rU λi=>.int (g i)):=by
 intro pins s σ H x v Q I rx h;obtain⟨i,rfl,q⟩:=h;obtain⟨t,rfl⟩:=rx;exact rule i t s _ _ ⟨.int (g i),H,I.tok _,⟨_,rfl⟩,q⟩
def XC:UnR X (unaryOp .USub) (rU λi=>.int (-i)):=unI λ_ _ _ _ _ q=>neg_int q
end
noncomputable def XQ:V->V->Bool
 | .non,.non=>true | .non,.int _=>true | .int _,.non=>true | .non,.bl _=>true | .bl _,.non=>true | .non,.str _=>true | .str _,.non=>true
 | .int _,.int _=>true | .bl _,.bl _=>true | .str _,.str _=>true | .byt _,.byt _=>true
 | .int _,.str _=>true | .str _,.int _=>true | .bl _,.str _=>true | .str _,.bl _=>true
 | _,_=>false
section
variable {X:Cx}{a b c:aC}{ta tb tc:TE}{pos:Pos}
def Zt:pB X (compareOp .Lt) (VV λi j=>.bl (decide (i<j))):=UR λ_ _ _ _ _ _ _ q=>lt_int q
def aaP:pB X (compareOp .LtE) (VV λi j=>.bl (decide (i<=j))):=UR λ_ _ _ _ _ _ _ q=>le_int q
def ZF:pB X (compareOp .Gt) (VV λi j=>.bl (decide (j<i))):=UR λ_ _ _ _ _ _ _ q=>gt_int q
def aae:pB X (compareOp .GtE) (VV λi j=>.bl (decide (j<=i))):=UR λ_ _ _ _ _ _ _ q=>ge_int q
def ON(b:aC)(h:op≠.In:=by decide)(h2:op≠.NotIn:=by decide):behindInMarks op b=false:=by
 have e1:(op == CmpOp.In)=false:=by cases op<;>first|rfl|exact absurd rfl h
 have e2:(op == CmpOp.NotIn)=false:=by cases op<;>first|rfl|exact absurd rfl h2
 cases b<;>simp[behindInMarks,e1,e2]
def SH{op:CmpOp}{r:R2}(ho:pB X (compareOp op) r)(ha:PE X a ta)(hb:PE X b tb)(hm:behindInMarks op b=false):PE X (.Compare a [op] [b] pos) (ZW r ta tb):=by
 k_ne;exact wpAny_Compare1 (W5 ha hb I h λv u s2 x y H2 I2 rx ry q=>ho pins s2 σ H2 x y v u Q I2 rx ry q) hm
noncomputable def ZM (t:TE):TT:=λσ H Q=>t σ H λx H'=>∃k,x=.bl k/\Q k H'
def Sv{op:CmpOp}{r:R2}(ho:pB X (compareOp op) r)(ha:PE X a ta)(hb:PE X b tb)(hm:behindInMarks op b=false):PT X (.Compare a [op] [b] pos) (ZM (ZW r ta tb)):=by
 k_ne;refine wpAny_isTrue_Compare1 (nP (ha pins s σ H _ I h) λv s1 ⟨x,H1,I1,r1,q1⟩=>nP (hb pins s1 σ H1 _ I1 q1) λu s2 ⟨y,H2,I2,r2,q2⟩=>
  nP (ho pins s2 σ H2 x y v u _ I2 r1 r2 q2) λc s3 ⟨z,H3,I3,r3,k,e,q3⟩=>?_) hm
 subst e
 cases r3
 exact dI ⟨H3,I3,q3⟩
noncomputable def Q8 (r r':R2)(ta tb tc:TE):TE:=λσ H Q=>ta σ H λx H1=>tb σ H1 λy H2=>r x y H2 λz H3=>∃k,z=.bl k /\
 (if k=true then tc σ H3 λw' H4=>r' y w' H4 Q else Q (.bl false) H3)
def OQ{r r':R2}(ho:pB X (compareOp op) r)(ho':pB X (compareOp op') r')(ha:PE X a ta)(hb:PE X b tb)(hc:PE X c tc)
  (hm:lastMarks [op,op'] [b,c]=false:=by with_unfolding_all rfl):PE X (.Compare a [op,op'] [b,c] pos) (Q8 r r' ta tb tc):=by
 k_ne;refine Compare_chain (nP (ha pins s σ H _ I h) λv s1 ⟨x,H1,I1,r1,q1⟩=>chain_link (nP (hb pins s1 σ H1 _ I1 q1) λu s2 ⟨y,H2,I2,r2,q2⟩=>
  nP (ho pins s2 σ H2 x y v u _ I2 r1 r2 q2) λd s3 ⟨z,H3,I3,r3,k,e,q3⟩=>?_)) hm
 subst e
 cases r3
 refine dI ?_
 cases k with
 | false=>exact ite_ff ⟨.bl false,H3,I3,rfl,q3⟩
 | true=>exact ite_tt (chain_last (nP (hc pins s3 σ H3 _ I3 q3) λw' s4 ⟨z',H4,I4,r4,q4⟩=>ho' pins s4 σ H4 y z' u w' Q I4 r2 r4 q4))
noncomputable def Wh (K:au)(x:V)(H:Hp)(k:Bool):Prop:=
 match x with
 | .non=>k=false
 | .bl b=>k=b
 | .int i=>k=(i != 0)
 | .str y=>y.length<=sizeLine/\k=((y.length:Int) != 0)
 | .byt y=>y.size<=sizeLine/\k=((y.size:Int) != 0)
 | .ref p=>(∃xs,pL K H p xs/\k=!xs.isEmpty)\/(∃xs,ni K H p xs/\k=!xs.isEmpty)\/∃kvs,H p=some (.dK kvs)/\k=!kvs.isEmpty
 | _=>False
def Ih{κ:Type}{kvs:List (κ×V)}{vs:List (κ×af)}(r:KV kvs vs):(!vs.isEmpty)=!kvs.isEmpty:=by
 cases r<;>rfl
def An{xs:List V}{its:ba}(r:Vals xs its):(!its.toArray.isEmpty)=!xs.isEmpty:=by
 cases r<;>simp
def yG:(sizeLine:Nat)<2 ^ 63:=by rw[eE];decide
def YQ:abl X (λx H Q=>∃k,Wh X.K x H k/\Q k H):=by
 intro pins s σ H x v Q I rx h;obtain⟨k,e,q⟩:=h;have hl:=yG;have hs:sizeLine=16777216:=eE
 cases x with
 | non=>
  cases rx
  have e':k=false:=e;subst e';exact truthy_none ⟨H,I,q⟩
 | bl b=>
  cases rx
  have e':k=b:=e;subst e';exact dI ⟨H,I,q⟩
 | int i=>
  obtain⟨t,rfl⟩:=rx;have e':k=(i != 0):=e;subst e';exact PySem.P.truthy_int ⟨H,I,q⟩
 | str y=>
  obtain⟨t,rfl⟩:=rx;obtain⟨hy,e'⟩:y.length<=sizeLine/\k=((y.length:Int) != 0):=e;subst e';exact PySem.P.truthy_str () ⟨H,I.tok _,q⟩
 | byt y=>
  obtain⟨t,rfl⟩:=rx;obtain⟨hy,e'⟩:y.size<=sizeLine/\k=((y.size:Int) != 0):=e;subst e';exact PySem.W.truthy_bytes () ⟨H,I.tok _,q⟩
 | ref p=>
  cases rx
  have e':(∃xs,pL X.K H p xs/\k=!xs.isEmpty)\/(∃xs,ni X.K H p xs/\k=!xs.isEmpty)\/∃kvs,H p=some (.dK kvs)/\k=!kvs.isEmpty:=e
  rcases e' with⟨xs,hx,e'⟩|⟨xs,hx,e'⟩|⟨kvs,hx,e'⟩
  ·subst e';obtain⟨its,r,pl,hz⟩:=I.list hx;have hlen:=r.length;exact wpAny_truthy_list pl.isList (by dsimp[aY];lia) ⟨H,I.tok _,by rw[An r];exact q⟩
  ·subst e';obtain⟨its,r,pl,hz⟩:=I.tuple hx;have hlen:=r.length;exact truthy_tuple pl (by dsimp[aY];lia) ⟨H,I.tok _,by rw[An r];exact q⟩
  ·subst e';obtain⟨hz,hS,vs,r,m⟩:kvs.length<=sizeLine/\(p == sysModules)=false/\∃vs,KV kvs vs/\s.heap.DictOf (kP X.prog X.w) p vs:=I.hok p _ hx;have hlen:kvs.length=vs.length:=jj r;exact wpAny_truthy_dict hS m () ⟨H,I.tok _,by rw[Ih r];exact q⟩
 | _=>exact(show False from e).elim
def Rx(ha:PE X a ta)(he:∀whole,isTrue a X.env whole=(do let v <- whole;standAt a.pos;holding [v] (truthy v))) :
  PT X a (λσ H Q=>ta σ H λx H'=>∃k,Wh X.K x H' k/\Q k H'):=by
 k_ne;exact isTrue_plain (nP (ha pins s σ H _ I h) λv s1 ⟨x,H1,I1,r1,q1⟩=>YQ pins s1 σ H1 x v Q I1 r1 q1) (he _)
def Hu:pB X (binaryOp .Add) (λx y H Q=>∃i j,x=.str i/\y=.str j/\i.length+j.length<=sizeLine/\Q (.str (i++j)) H):=by
 intro pins s σ H x y v u Q I rx ry h;obtain⟨i,j,rfl,rfl,hz,q⟩:=h;obtain⟨t,rfl⟩:=rx;obtain⟨t',rfl⟩:=ry;exact add_str (λt' tk=>⟨.str (i++j),H,I.tok _,⟨_,rfl⟩,q⟩) hz
def vals1{x:V}(r:Vals [x] us):∃u,us=[u]/\RelV x u:=by
 cases r with
 | cons r1 r2=>cases r2;exact⟨_,rfl,r1⟩
def vals2{x:V}(r:Vals [x,y] us):∃u w',us=[u,w']/\RelV x u/\RelV y w':=by
 cases r with
 | cons r1 r2=>
  cases r2 with
  | cons r3 r4=>cases r4;exact⟨_,_,rfl,r1,r3⟩
def LH(hc:X.calm=true):kJ X (.builtin "max") (λxs H Q=>∃i j,xs=[.int i,.int j]/\Q (.int (if j>i then j else i)) H):=by
 w_up;obtain⟨i,j,rfl,q⟩:=h;obtain⟨u,w',rfl,⟨t,rfl⟩,⟨t',rfl⟩⟩:=vals2 r;refine max_two_ints (I.ok.hd hc) λh' tk k=>⟨_,H,I.kept k,?_,q⟩;by_cases hj:j>i
 ·rw[aM hj,aM hj];exact⟨_,rfl⟩
 ·rw[aK hj,aK hj];exact⟨_,rfl⟩
def Mx(hc:X.calm=true):kJ X (.builtin "min") (λxs H Q=>∃i j,xs=[.int i,.int j]/\Q (.int (if j<i then j else i)) H):=by
 w_up;obtain⟨i,j,rfl,q⟩:=h;obtain⟨u,w',rfl,⟨t,rfl⟩,⟨t',rfl⟩⟩:=vals2 r;refine min_two_ints (I.ok.hd hc) λh' tk k=>⟨_,H,I.kept k,?_,q⟩;by_cases hj:j<i
 ·rw[aM hj,aM hj];exact⟨_,rfl⟩
 ·rw[aK hj,aK hj];exact⟨_,rfl⟩
def Cg:kJ X (.type "int") (λxs H Q=>(∃i,xs=[.int i]/\Q (.int i) H)\/∃k,xs=[.bl k]/\Q (.int (if k then 1 else 0)) H):=by
 w_up
 rcases h with⟨i,rfl,q⟩|⟨k,rfl,q⟩
 ·obtain⟨u,rfl,t,rfl⟩:=vals1 r;exact call_int_int ⟨.int i,H,I,⟨_,rfl⟩,q⟩
 ·obtain⟨u,rfl,r1⟩:=vals1 r
  cases r1
  exact call_int_bool ⟨.int (if k then 1 else 0),H,I.tok _,⟨_,rfl⟩,q⟩
noncomputable def ab8 (K:au)(x:V)(H:Hp)(n:Nat):Prop:=
 match x with
 | .str y=>y.length<=sizeLine/\n=y.length
 | .byt y=>y.size<=sizeLine/\n=y.size
 | .ref p=>(∃xs,pL K H p xs/\n=xs.length)\/∃xs,ni K H p xs/\n=xs.length
 | _=>False
def Ox:kJ X (.builtin "len") (λxs H Q=>∃x n,xs=[x]/\ab8 X.K x H n/\Q (.int n) H):=by
 w_up;obtain⟨x,n,rfl,e,q⟩:=h;obtain⟨u,rfl,rx⟩:=vals1 r;have hl:=yG;have hs:sizeLine=16777216:=eE
 cases x with
 | str y=>
  obtain⟨t,rfl⟩:=rx;obtain⟨hy,e'⟩:y.length<=sizeLine/\n=y.length:=e;subst e';exact len_str () ⟨.int _,H,I.tok _,⟨_,rfl⟩,q⟩
 | byt y=>
  obtain⟨t,rfl⟩:=rx;obtain⟨hy,e'⟩:y.size<=sizeLine/\n=y.size:=e;subst e';exact PySem.W.len_bytes () ⟨.int _,H,I.tok _,⟨_,rfl⟩,q⟩
 | ref p=>
  cases rx
  have e':(∃xs,pL X.K H p xs/\n=xs.length)\/∃xs,ni X.K H p xs/\n=xs.length:=e
  rcases e' with⟨xs,hx,e'⟩|⟨xs,hx,e'⟩
  ·subst e';obtain⟨its,r',pl,hz⟩:=I.list hx;have hlen:=r'.length;exact Calls.call_len_list pl.isList (by dsimp[aY];lia) ⟨.int xs.length,H,I.tok _,⟨_,by dsimp[aY];rw[hlen]⟩,q⟩
  ·subst e';obtain⟨its,r',pl,hz⟩:=I.tuple hx;have hlen:=r'.length;exact len_tuple pl (by dsimp[aY];lia) ⟨.int xs.length,H,I.tok _,⟨_,by dsimp[aY];rw[hlen]⟩,q⟩
 | _=>exact(show False from e).elim
end
structure ObjM (h:aq)(x dx C:ak)(mA:Str->Option af):Prop where
 obj:h.get? x=some (PySem.W.instObj C dx)
 ns:h.Ns1 dx mA
 ne:dx≠x
def LD{h:aq}{mA:Str->Option af}(n:h.Ns1 dx mA):∃od,h.get? dx=some od/\∀name,PySem.W.lookIn name od=some (mA name):=by
 obtain⟨o,es,ep,ho,hd,hk,_,hm⟩:=n;refine⟨o,ho,λname=>?_⟩;have e:=hm name;unfold nsFind findBy at e;rw[<- Array.find?_toList]at e;unfold PySem.W.lookIn;rw[hd];dsimp only;split
 ·rename_i y q;rw[q]at e;exact dB some e
 ·rename_i q;rw[q]at e;have a:es.toList.any (·.refKey)=false:=by
   rw[List.any_eq_false];intro y hy;obtain⟨z,t,hkey⟩:=hk y (Array.mem_toList_iff.mp hy);simp[DictEntry.refKey,hkey]
  have a':¬es.toList.any (·.refKey)=true:=by rw[a];exact bH
  rw[aK a'];exact dB some e
def ObjM.look{x:ak}{mA:Str->Option af}(I:ObjM h x dx C mA):∃od,PySem.W.InstAt h x (PySem.W.instObj C dx) C (some od)/\∀name,PySem.W.lookIn name od=some (mA name):=
 let⟨od,ho,hl⟩:=LD I.ns
 ⟨od,⟨I.obj,rfl,rfl,ho⟩,hl⟩
def yK.some_of{v:V}(r:yK (some v) o):∃u,o=some u/\RelV v u:=by
 cases o with
 | none=>exact(show False from r).elim
 | some u=>exact⟨u,rfl,r⟩
section
variable {P:aj}{w:ah}{H:Hp}{h:aq}{a C dx:ak}{fs:List (Str×V)}
def SX(hok:xq P w H h)(e:H a=some (.ins C dx fs)):∃mA,ObjM h a dx C mA/\(∀f,yK (fs.lookup f) (mA f))/\PySem.Within mA (fs.map (·.1))/\fs.length<=1000/\H dx=some (.own a):=by
 obtain⟨d,z,ne,ob,mA,n,r,q⟩:=(show lY P w H h a (.ins C dx fs)from hok a _ e);exact⟨mA,⟨ob,n,ne⟩,r,q,z,d⟩
end
structure Cls (K:au)(C:ak):Prop where
 pg:PySem.W.plainGet K C Str.empty=true
 hd:PySem.W.hasDictIn K C=true
 po:PySem.W.plainOver K C=true
 sa:PySem.W.findIn K (.ref C) "__setattr__" = some (some (.builtin "object.__setattr__"))
def Cls.get{K:au}(c:Cls K C)(f:Str):PySem.W.plainGet K C f=true:=c.pg
structure Con (K:au)(C:ak)(f:Str)(v:V)(u:af):Prop where
 at_:PySem.W.findIn K (.ref C) f=some (some u)
 rel:RelV v u
 get:PySem.W.specialIn K u "__get__" = some none
 cp:PySem.W.copiedNames.contains f=false
structure Meth (K:au)(C:ak)(m:Str)(f:ak):Prop where
 at_:PySem.W.findIn K (.ref C) m=some (some (.ref f))
 fn:PySem.W.isFn K (.ref f)=true
 kp:PySem.W.keepIn K (.ref f)=true
section
variable {X:Cx}{pins:bd}{σ:St}{H:Hp}{s:aA}{A:az}{E:af->aA->Prop}{Q:af->aA->Prop}{c:af}{b:Bool}
inductive TyOf (K:au) (H:Hp):V->af->Prop where
 | non:TyOf K H .non (.type "NoneType")
 | bl (x:Bool):TyOf K H (.bl x) (.type "bool")
 | int (i:Int):TyOf K H (.int i) (.type "int")
 | str (x:Str):TyOf K H (.str x) (.type "str")
 | flt (x:UInt64):TyOf K H (.flt x) (.type "float")
 | lst {a:ak} {xs:List V} (e:H a=some (.lst xs)):TyOf K H (.ref a) (.type "list")
 | frz {a:ak} {o:Obj} {xs:List V} (e:H a=some (.frz o (.lst xs))):TyOf K H (.ref a) (.type "list")
 | tup {a:ak} {xs:List V} (e:H a=some (.tup xs)):TyOf K H (.ref a) (.type "tuple")
 | dK {a:ak} {kvs:List (Key×V)} (e:H a=some (.dK kvs)):TyOf K H (.ref a) (.type "dict")
 | dT {a:ak} {kvs:List (List Key×V)} (e:H a=some (.dT kvs)):TyOf K H (.ref a) (.type "dict")
 | ins {a C dx:ak} {fs:List (Str×V)} (e:H a=some (.ins C dx fs)) (cl:Cls K C) (ha:PySem.W.findIn K (.ref C) "__class__" = some (some (.builtin "object.__class__")))
   (hn:PySem.W.specialIn K (.builtin "object.__class__") "__get__" = some (some (.builtin "getset_descriptor.__get__"))) (htk:PySem.W.takesIn K (.builtin "object.__class__")=some true)
   (hm:PySem.W.mroIn K C (.type "object")=some true):TyOf K H (.ref a) (.ref C)
def MS{x:V}{t:af}(I:Inv X pins σ H s)(rx:RelV x u)(ty:TyOf X.K H x t)(e:PySem.W.kitOne X.K t c=some b)(h:∀tk,Q (.bool b) { s with toks:=tk }) :
  wpAny (model X.prog X.w) A (call (.builtin "isinstance") [u,c]) Q E s:=by
 cases ty with
 | non=>cases(show u=Value.none from rx);exact cW PySem.W.kitx_none I.EM True.intro e (λz=>nomatch z) h
 | bl y=>cases(show u=Value.bool y from rx);exact cW PySem.W.kitx_bool I.EM True.intro e (λz=>nomatch z) h
 | int i=>obtain⟨t,q⟩:=(show ∃t,u=Value.int i t from rx);cases q;exact cW PySem.W.kitx_int I.EM True.intro e (λz=>nomatch z) h
 | str y=>obtain⟨t,q⟩:=(show ∃t,u=Value.str y t from rx);cases q;exact cW PySem.W.kitx_str I.EM True.intro e (λz=>nomatch z) h
 | flt y=>obtain⟨t,q⟩:=(show ∃t,u=Value.float y t from rx);cases q;exact cW PySem.W.kitx_float I.EM True.intro e (λz=>nomatch z) h
 | @lst a xs ea=>
  cases(show u=Value.ref a from rx)
  obtain⟨_,_,n,_,h1⟩:=(show lY X.prog X.w H s.heap a (.lst xs)from I.hok a _ ea);exact cW PySem.W.kitx_list I.EM ⟨_,h1,rfl⟩ e (λz=>nomatch z) h
 | @frz a ob xs ea=>
  cases(show u=Value.ref a from rx)
  obtain⟨_,_,_,n,_,h1⟩:=(show lY X.prog X.w H s.heap a (.frz ob (.lst xs))from I.hok a _ ea);exact cW PySem.W.kitx_list I.EM ⟨_,h1,rfl⟩ e (λz=>nomatch z) h
 | @tup a xs ea=>
  cases(show u=Value.ref a from rx)
  obtain⟨_,_,_,p⟩:=(show lY X.prog X.w H s.heap a (.tup xs)from I.hok a _ ea);obtain⟨o,h1,h2,_⟩:=p;exact cW PySem.W.kitx_tuple I.EM ⟨o,h1,h2⟩ e (λz=>nomatch z) h
 | @dK a kvs ea=>
  cases(show u=Value.ref a from rx)
  obtain⟨_,_,vs,_,p⟩:=(show lY X.prog X.w H s.heap a (.dK kvs)from I.hok a _ ea);obtain⟨o,es,ep,h1,h2,_⟩:=p;exact cW PySem.W.kitx_dict I.EM ⟨o,h1,h2.1⟩ e (λz=>nomatch z) h
 | @dT a kvs ea=>
  cases(show u=Value.ref a from rx)
  obtain⟨_,_,xs,_,o,es,ep,h1,h2,_⟩:=(show lY X.prog X.w H s.heap a (.dT kvs)from I.hok a _ ea);exact cW PySem.W.kitx_dict I.EM ⟨o,h1,h2.1⟩ e (λz=>nomatch z) h
 | @ins a C dx fs ea cl ha hn htk hm=>
  cases(show u=Value.ref a from rx)
  obtain⟨mA,O,_⟩:=SX I.hok ea;obtain⟨od,J,_⟩:=O.look;exact cW (PySem.W.kitx_own (cl.get _) cl.hd ha hn htk hm) I.EM J e (λz=>nomatch z) h
end
structure Room (k:Nat)(A:az):Prop where
 hd:A.handled=none
 dp:A.depth+3 * k+5<recursionLimit
 un:A.units+16 * k+200<cLine
def Room.mono{k:Nat}{A:az}(r:Room k A)(h:j<=k):Room j A:=⟨r.hd,by have:=r.dp;lia,by have:=r.un;lia⟩
def Room.deeper{k:Nat}{A:az}(r:Room (k+1) A)(env:Env):Room k (A.deeper env):=
 ⟨r.hd,by have:=r.dp;show A.depth+1+3 * k+5<_;lia,by have:=r.un;show A.units+3+16 * k+200<_;lia⟩
def Room.depth{k:Nat}{A:az}(r:Room k A):A.depth<recursionLimit:=by have:=r.dp;lia
def Room.units{k:Nat}{A:az}(r:Room k A):A.units+64<cLine:=by have:=r.un;lia
noncomputable def abS:TA:=λ_ H Q=>Q [] H
noncomputable def aaG (ta:TE)(tr:TA):TA:=λσ H Q=>ta σ H λx H1=>tr σ H1 λxs H2=>Q (x::xs) H2
section
variable {X:Cx}{e:aC}{es:List aC}{te:TE}{t:TA}{pos:Pos}
def AN:PA X [] abS:=λ_ _ _ _ H Q I h=>Calls.spliced_nil ⟨[],H,I,.nil,h⟩
def vM(ha:PE X e te)(hr:PA X es t)(hs:starEach (e::es) X.env=(false,eval e X.env)::starEach es X.env:=by rfl):PA X (e::es) (aaG te t):=by
 intro pos pins s σ H Q I h;rw[hs]
 skip
 refine Calls.spliced_cons (nP (ha pins s σ H _ I h) λu s1 ⟨x,H1,I1,r1,q1⟩=>?_);exact nP (hr pos pins s1 σ H1 _ I1 q1) λus s2 ⟨xs,H2,I2,r2,q2⟩=>⟨x::xs,H2,I2,.cons r1 r2,q2⟩
noncomputable def abF (t:TA):TE:=λσ H Q=>t σ H λxs H1=>xs.length<=sizeLine/\∀p,H1 p=none->Q (.ref p) (upd H1 p (.tup xs))
noncomputable def ab9 (t:TA):TE:=λσ H Q=>t σ H λxs H1=>xs.length<=sizeLine/\∀p,H1 p=none->Q (.ref p) (upd H1 p (.lst xs))
def X4{x1}(h:PA X es t):PE X (.Tuple es x1 pos) (abF t):=by
 intro pins s σ H Q I hq;refine wpAny_Tuple_spliced (nP (h pos pins s σ H _ I hq) λus s1 ⟨xs,H1,I1,r,z,q⟩=>⟨by rw[<- r.length];exact z,?_⟩);have hf:H1 s1.heap.objs.size=none:=I1.hok.fresh (aO _);refine⟨.ref s1.heap.objs.size,upd H1 s1.heap.objs.size (.tup xs),I1.laid (t':=s1.toks) (λb u e=>aV _ e) (aO _) ?_,rfl,q _ hf⟩;exact⟨z,us,r,⟨_,bC _ rfl,rfl,rfl,_,rfl⟩⟩
def Xs(h:PA X es t):PE X (.List es pos) (ab9 t):=by
 intro pins s σ H Q I hq;refine wpAny_List_spliced (nP (h pos pins s σ H _ I hq) λus s1 ⟨xs,H1,I1,r,z,q⟩=>⟨by rw[<- r.length];exact z,?_⟩);have hf:H1 s1.heap.objs.size=none:=I1.hok.fresh (aO _);refine⟨.ref s1.heap.objs.size,upd H1 s1.heap.objs.size (.lst xs),I1.laid (t':=s1.toks) (λb u e=>aV _ e) (aO _) ?_,rfl,q _ hf⟩;exact⟨z,us,0,r,bC _ rfl⟩
end
noncomputable abbrev Sp:=List V->Hp->VK->XK->Prop
noncomputable abbrev RN:=List Env->Hp->aA->XK->af->aA->Prop
structure Env0 (P:aj)(w:ah)(K:au)(mg:Str->Option af)(base:aq)(A:az)(outer:List Env)(s:aA)(H:Hp):Prop where
 frames:A.frames=some outer
 mod:Mod K mg base
 bs:∀b o,base.get? b=some o->s.heap.get? b=some o/\H b=none
 bsz:base.objs.size<=s.heap.objs.size
 Bb:s.heap.FunFrames base outer
 frf:∀b∈frs outer,H b=none
 hok:xq P w H s.heap
 bare:AllBare s.gens
noncomputable def CE (outer:List Env)(P:aj)(w:ah)(H:Hp)(s:aA)(Q:VK)(u:af)(s':aA):Prop:=
 ∃v H',s'.os=s.os/\AllBare s'.gens/\Un (frs outer) [] H H' s.heap s'.heap/\xq P w H' s'.heap/\RelV v u/\Q v H'
noncomputable def CR (CX:RN)(outer:List Env)(P:aj)(w:ah)(H:Hp)(s:aA)(Q:VK)(E:XK)(r:Result)(s':aA):Prop:=
 match r with
 | .ok (.ret u)=>CE outer P w H s Q u s'
 | .ok _=>False
 | .error e=>CX outer H s E e s'
structure FnOk (P:aj)(w:ah)(K:au)(mg:Str->Option af)(base:aq)(CX:RN)(k:Nat)(f:ak)(fd:FuncData)(ps:ar)(sp:Sp):Prop where
 len:∀vs H Q E,sp vs H Q E->vs.length=ps.length
 run:∀(A:az) (outer:List Env) (s:aA) (H:Hp) (args:Args) (us:ba) (vs:List V) (Q:VK) (E:XK),Room k A->Env0 P w K mg base A outer s H->BindsTo s fd args (ps.zip us)->Vals vs us->sp vs H Q E ->
  codeAny (model P w) A (.call (.ref f) args) (CR CX outer P w H s Q E) s
section
variable {X:Cx}{pins:bd}{σ:St}{H:Hp}{s s':aA}
def Inv.acg(I:Inv X pins σ H s):Env0 X.prog X.w X.K X.mg X.base X.A X.stack s H:=
 ⟨I.ok.frames,I.ok.mod,I.bs,bI I.ok.bsz I.sz,I.stack,I.Kh,I.hok,I.bare⟩
def Inv.after{Q:VK}(I:Inv X pins σ H s)(h:CE X.stack X.prog X.w H s Q u s'):EP X pins σ Q u s':=by
 obtain⟨v,H',os,bare,un,hok,r,q⟩:=h;obtain⟨hh,g,d,t,os'⟩:=s';obtain rfl:os'=s.os:=os;exact⟨v,H',I.call (h':=hh) (g':=g) (d':=d) (t':=t) (ch:=[]) un hok bare (λb z=>absurd z (by simp)),r,q⟩
end
noncomputable def VN (sp:Sp)(dvs:List V)(E:XK)(t:TA):TE:=λσ H Q=>t σ H λvs H1=>sp (vs++dvs) H1 Q E
noncomputable def Binds (K:au)(fd:FuncData)(ps:ar)(ds:ba):Prop:=
 ∀(s:aA) (us:ba),K.In s.heap->(us++ds).length=ps.length->BindsTo s fd ⟨us,[]⟩ (ps.zip (us++ds))
def Binds.all{K:au}{ps:ar}(h:∀us:ba,us.length=ps.length->bindArgs fd ⟨us,[]⟩=pure (ps.zip us)):Binds K fd ps []:=λs us _ hl=>by
 rw[cG]at hl ⊢;exact .of_eq (h us hl)
noncomputable def Passes (CX:RN)(X:Cx)(E:XK):Prop:=∀(pins:bd) (σ:St) (H:Hp) (s:aA) (e:af) (s':aA),Inv X pins σ H s->CX X.stack H s E e s'->X.xe e s'
section
variable {X:Cx}{CX:RN}{k:Nat}{f C:ak}{fd:FuncData}{ps:ar}{sp:Sp}{dvs:List V}{ds:ba}{E:XK}{x:Str}{p pos:Pos}{e:aC}{es:List aC}{t:TA}
def Xz{H:Hp}{Q:VK}(F:FnOk X.prog X.w X.K X.mg X.base CX k f fd ps sp)(hr:Room k X.A)(hb:Binds X.K fd ps ds)(hd:Vals dvs ds)(hx:Passes CX X E)
  (I:Inv X pins σ H s) (r:Vals vs us) (h:sp (vs++dvs) H Q E):wpAny (model X.prog X.w) X.A (call (.ref f) us) (EP X pins σ Q) X.xe s:=by
 have r2:Vals (vs++dvs) (us++ds):=r.append hd;have hl:(us++ds).length=ps.length:=by rw[<- r2.length];exact F.len _ _ _ _ h
 refine wpAny_call (iV (F.run X.A X.stack s H ⟨us,[]⟩ (us++ds) (vs++dvs) Q E hr I.acg (hb s us I.EM hl) r2 h) λr s' hq=>?_)
 cases r with
 | error e=>exact hx pins σ H s e s' I hq
 | ok fl=>
  cases fl with
  | ret u=>exact I.after hq
  | next=>exact False.elim hq
  | brk=>exact False.elim hq
  | cont=>exact False.elim hq
def UG(F:FnOk X.prog X.w X.K X.mg X.base CX k f fd ps sp)(hr:Room k X.A)(hg:Gl X x)(hm:X.mg x=some (.ref f))(hk:PySem.W.keepIn X.K (.ref f)=true)(hb:Binds X.K fd ps ds)(hd:Vals dvs ds)(hx:Passes CX X E)
  (ha:PA X (e::es) t) (hdb:(x == ("__debug__" : Str))=false:=by decide) (he:starEach (e::es) X.env=(false,eval e X.env)::starEach es X.env:=by rfl) (hpl:(backTo pos (starEach es X.env)).any (·.1)=false:=by rfl) :
  PE X (.Call (.Name x p) (e::es) [] pos) (VN sp dvs E t):=by
 k_ne;refine iY (KL I hg hm ?_ hdb);refine PySem.W.callWith_K (h₀:=X.base) I.ok.mod.kin hk (nP (ha pos pins s σ H _ I h) λus s1 ⟨vs,H1,I1,r,q⟩=>⟨I1.EM,?_⟩) he hpl;exact Xz F hr hb hd hx I1 r q
structure Mk (K:au)(C f:ak):Prop where
 makes:PySem.W.makesIn K C=true
 init:PySem.W.findIn K (.ref C) "__init__" = some (some (.ref f))
 fn:PySem.W.isFn K (.ref f)=true
 kp:PySem.W.keepIn K (.ref C)=true
end
section
variable {fd:FuncData}{ps ks:ar}
structure KBinds (K:au)(fd:FuncData)(ps ks:ar)(g:ba->ba->ba)(gV:List V->List V->List V):Prop where
 to:∀(s:aA) (us ws:ba),K.In s.heap->(g us ws).length=ps.length->BindsTo s fd ⟨us,ks.zip ws⟩ (ps.zip (g us ws))
 rel:∀{vs:List V} {us:ba} {zs:List V} {ws:ba},Vals vs us->Vals zs ws->Vals (gV vs zs) (g us ws)
end
structure FnScope (N P:ar)(sc:Scope):Prop where
 kind:sc.kind=.function
 co:sc.isCoroutine=false
 gen:sc.isGenerator=false
 nd:N.Nodup
 pre:N.take P.length=P
 par:∀x∈P,sc.names.lookup x=some .local\/sc.names.lookup x=some .cell
 nofree:∀y∈sc.names,y.2≠.free
theorem Cq{kindOf:Str->Option NameKind}{x:Str}:∀{binds:List (Str×af)}{m:Str->Option af},(∀v,(x,v)∉binds)->bindL kindOf binds m x=m x
 | [],_,_=>rfl
 | (n,v)::r,m,h=>by
  unfold bindL;rw[Cq λw hw=>h w (aL _ hw)];split
  ·have:x≠n:=by rintro rfl;exact h v aJ
   simp[this]
  ·rfl
theorem CH{kindOf:Str->Option NameKind}{x:Str}:∀{binds:List (Str×af)}{m:Str->Option af},(∀v,(x,v)∉binds)->bindC kindOf binds m x=m x
 | [],_,_=>rfl
 | (n,v)::r,m,h=>by
  unfold bindC;rw[CH λw hw=>h w (aL _ hw)];split
  ·rfl
  ·have:x≠n:=by rintro rfl;exact h v aJ
   simp[this]
theorem Cp{kindOf:Str->Option NameKind}{x:Str}{v:af}:∀{P:ar}{vs:ba}{i:Nat}{m:Str->Option af},P.Nodup->P[i]?=some x->vs[i]?=some v->kindOf x=some .local ->
  bindL kindOf (P.zip vs) m x=some v
 | [],_,_,_,_,h,_,_=>by simp at h
 | _::_,[],_,_,_,_,h,_=>by simp at h
 | p::P,w::vs,0,m,nd,h1,h2,hk=>by
  simp at h1 h2;subst h1;subst h2;show bindL kindOf ((p,w)::P.zip vs) m p=_;unfold bindL;rw[Cq λv hv=>(cO.mp nd).1 (ju hv).1,aM hk];simp
 | p::P,w::vs,i+1,m,nd,h1,h2,hk=>by
  skip
  unfold bindL;exact Cp (i:=i) (cO.mp nd).2 (by simpa using h1) (by simpa using h2) hk
theorem CY{kindOf:Str->Option NameKind}{x:Str}{v:af}:∀{P:ar}{vs:ba}{i:Nat}{m:Str->Option af},P.Nodup->P[i]?=some x->vs[i]?=some v->kindOf x≠some .local ->
  bindC kindOf (P.zip vs) m x=some v
 | [],_,_,_,_,h,_,_=>by simp at h
 | _::_,[],_,_,_,_,h,_=>by simp at h
 | p::P,w::vs,0,m,nd,h1,h2,hk=>by
  simp at h1 h2;subst h1;subst h2;show bindC kindOf ((p,w)::P.zip vs) m p=_;unfold bindC;rw[CH λv hv=>(cO.mp nd).1 (ju hv).1,aK hk];simp
 | p::P,w::vs,i+1,m,nd,h1,h2,hk=>by
  skip
  unfold bindC;exact CY (i:=i) (cO.mp nd).2 (by simpa using h1) (by simpa using h2) hk
noncomputable def start (N:ar)(vs:List V):St:=vs.map some++List.replicate (N.length-vs.length) none
noncomputable def Ij (CX:RN)(P:aj)(w:ah)(K:au)(mg:Str->Option af)(base:aq)(N:ar)(qual:Str)(scope:Scope)(f:ak)(cd:af)(A:az)(outer:List Env)(s:aA)(H:Hp)(E:XK):Cx where
 prog:=P
 w:=w
 K:=K
 mg:=mg
 base:=base
 A:=A.deeper (envOfC qual scope s.heap.objs.size f cd)
 N:=N
 s₀:=s
 H₀:=H
 env:=envOfC qual scope s.heap.objs.size f cd
 outer:=outer
 stack:=envOfC qual scope s.heap.objs.size f cd::outer
 ex:=[]
 calm:=true
 fn:=λ_=>true
 pn:=[]
 xe:=λe s'=>wpAny (model P w) (A.deeper (envOfC qual scope s.heap.objs.size f cd)) (leaving (envOfC qual scope s.heap.objs.size f cd) e) (λ_ s''=>CX outer H s E e s'') (λe' s''=>CX outer H s E e' s'') s'
def FU{sc:Scope}{n:Nat}{x:Str}(h:sc.names.lookup x=some .cell):∃c,(cellsFrom n sc.names []).lookup x=some c:=by
 have q:=PySem.W.cellsFrom_some sc.names n [] (.inl h);exact fC.mp q
def LG{CX:RN}{P:aj}{w:ah}{K:au}{mg:Str->Option af}{base:aq}{N ps:ar}{scope:Scope}{f:ak}{A:az}{outer:List Env}{s:aA}{H:Hp}{E:XK}{vs:List V}
  (S:FnScope N ps scope) (hd:A.handled=none) (e0:Env0 P w K mg base A outer s H) (hl:vs.length=ps.length) (r:Vals vs us)
  (x:InCallC s s.heap.objs.size (bindL (envOfC qual scope s.heap.objs.size f cd).kindOf (ps.zip us) λ_=>none) (cellsFrom (s.heap.objs.size+1) scope.names []) (bindC (envOfC qual scope s.heap.objs.size f cd).kindOf (ps.zip us) λ_=>none) s1) :
  Inv (Ij CX P w K mg base N qual scope f cd A outer s H E) [] (start N vs) H s1:=by
 have hpl:ps.length<=N.length:=by have:=dB List.length S.pre;rw[bK]at this;lia
 obtain⟨h1,tk,rfl,hk⟩:=x.done;have noA:∀b:ak,b∉(Ij CX P w K mg base N qual scope f cd A outer s H E).ex:=λb z=>absurd (show b∈([]:bb)from z) (by simp);refine⟨⟨e0.mod,S.kind,rfl,rfl,aO _,λy z c h1 h2=>?_,λy hy=>?_,λy c _ h=>?_,λ_=>hd,Around.frames_deeper e0.frames,.inr ⟨rfl,rfl⟩,λb z=>absurd z (noA b),e0.bs,e0.bsz,λb _ _=>noA b,λb z=>absurd z (noA b),e0.Bb,e0.frf⟩,
  rfl,e0.bare,Un.kept hk,⟨_,x.toInCall.ns,λi y v h1 h2 h3=>?_⟩,λy c h=>⟨_,x.cell y c h⟩,e0.hok.fresh (aO _),λy c h=>?_,λp hp=>absurd (show p∈([]:bd)from hp) (by simp),e0.hok.kept hk,?_⟩
 ·exact name_of_addr x.apart (fL h1) (fL h2)
 ·have hy:scope.names.lookup y=some .cell\/scope.names.lookup y=some .free:=hy
  rcases hy with hy|hy
  ·exact FU hy
  ·exact absurd rfl (S.nofree _ (fL hy))
 ·exact jq (x.above y c (fL h))
 ·have hi:i<vs.length:=by
   unfold start at h2;by_cases hi:i<vs.length
   ·exact hi
   ·rw[dJ (by simpa using hi)]at h2;rw[List.getElem?_replicate]at h2;split at h2<;>cases h2
  have ha:vs[i]?=some v:=by
   unfold start at h2;rw[bG (by simpa using hi),aQ]at h2
   cases e:vs[i]? with
   | none=>rw[e]at h2;cases h2
   | some a=>rw[e]at h2;cases h2;rfl
  obtain⟨u,hu,rv⟩:=r.get ha;have hp:ps[i]?=some y:=by
   rw[<- S.pre,fF ()];exact h1
  have ndP:ps.Nodup:=by rw[<- S.pre];exact S.nd.sublist (List.take_sublist _ _)
  refine⟨u,rv,?_⟩
  rcases S.par y (aW hp)with k|k
  ·exact .inl ⟨k,Cp ndP hp hu k⟩
  ·obtain⟨c,e⟩:=FU (n:=s.heap.objs.size+1) k;refine .inr ⟨.inl k,c,e,?_⟩;have q:=x.cell y c e;rw[CY ndP hp hu (by show scope.names.lookup y≠_;rw[k];decide)]at q;exact q
 ·exact e0.hok.fresh (jq (x.above y c (fL h)))
 ·unfold start;show _=N.length;rw[aR,aH,List.length_replicate];lia
def ZG{CX:RN}{P:aj}{w:ah}{K:au}{mg:Str->Option af}{base:aq}{k:Nat}{f:ak}{kV pm ct:af}
  {osl:Array (Option af)} {N ps:ar} {sp:Sp} (lk:K.lookup f=some ⟨oc,od,.func (PySem.W.fnOf name qual params body scope dV kV doc pm an cdv ct),osl⟩) (hcd:PySem.W.codeIn K cdv qual=true) (S:FnScope N ps scope)
  (len:∀vs H Q E,sp vs H Q E->vs.length=ps.length)
  (hbody:∀(A:az) (outer:List Env) (s:aA) (H:Hp) (vs:List V) (Q:VK) (E:XK),Room k (A.deeper (envOfC qual scope s.heap.objs.size f cdv))->sp vs H Q E ->
   ∃t,Dh (Ij CX P w K mg base N qual scope f cdv A outer s H E) body t/\t { nx:=λ_ H'=>Q .non H',rt:=Q } (start N vs) H) :
  FnOk P w K mg base CX (k+1) f (PySem.W.fnOf name qual params body scope dV kV doc pm an cdv ct) ps sp:=by
 refine⟨len,λA outer s H args us vs Q E hr e0 hb r hsp=>?_⟩;have hl:=len _ _ _ _ hsp;have KX:K.In s.heap:=e0.mod.kin.keeps λb o e=>(e0.bs b o e).1;have lim:s.heap.NoLimit:=e0.mod.nolimit.keeps λb o e=>(e0.bs b o e).1;have hkind:∀y∈ps.zip us,scope.names.lookup y.1=some .local\/(scope.names.lookup y.1=some .cell/\((cellsFrom (s.heap.objs.size+1) scope.names []).lookup y.1).isSome=true):=λ⟨n,v⟩ hy=>by
  rcases S.par n (ju hy).1 with q|q
  ·exact .inl q
  ·exact .inr ⟨q,PySem.W.cellsFrom_some _ _ _ (.inl q)⟩
 refine codeAny_call_function hr.depth (KX _ _ lk) rfl S.co S.gen rfl (PySem.W.codeRec_of KX hcd) (hb _ _ _ _ ?_);refine wpAny_newFunctionEnv_cells S.kind hkind λenv he s1 x=>?_;subst he;refine⟨lim.keeps x.toInCall.keep,codeAny_func ?_⟩;obtain⟨t,ht,hq⟩:=hbody A outer s H vs Q E (hr.deeper _) hsp;have I:Inv (Ij CX P w K mg base N qual scope f cdv A outer s H E) [] (start N vs) H s1:=LG S hr.hd e0 hl r x;refine iX (ht [] s1 (start N vs) H _ I hq) (λfl s' hs=>?_) λe s' hs=>hs;have fin:∀{σ':St} {H':Hp} {v:V} {u:af},Inv (Ij CX P w K mg base N qual scope f cdv A outer s H E) [] σ' H' s'->RelV v u->Q v H'->CE outer P w H s Q u s':=
  λ{σ' H' v u} J rv q=>⟨v,H',J.os,J.bare,J.base,J.hok,rv,q⟩
 cases fl with
 | ret u=>
  obtain⟨v,σ',H',J,rv,q⟩:=hs;exact fin J rv q
 | next=>
  obtain⟨σ',H',J,q⟩:=hs;exact fin (v:=V.non) (u:=Value.none) J rfl q
 | brk=>
  obtain⟨_,_,_,q⟩:=hs;exact False.elim q
 | cont=>
  obtain⟨_,_,_,q⟩:=hs;exact False.elim q
section
variable {X:Cx}{x:Str}{p pos:Pos}{e:aC}{es:List aC}{t:TA}{id T:String}{r:List V->Hp->VK->Prop}
noncomputable def tCB (r:List V->Hp->VK->Prop)(t:TA):TE:=λσ H Q=>t σ H λvs H1=>r vs H1 Q
def QE(hc:kJ X (.builtin id) r)(hg:Gl X x)(hm:X.mg x=none)(hv:bootBuiltins x=some (.builtin id))(ha:PA X (e::es) t)(hn:x ≠ "__name__" := by decide)(hdb:(x == ("__debug__" : Str))=false:=by decide)
  (he:starEach (e::es) X.env=(false,eval e X.env)::starEach es X.env:=by rfl) (hpl:(backTo pos (starEach es X.env)).any (·.1)=false:=by rfl):PE X (.Call (.Name x p) (e::es) [] pos) (tCB r t):=by
 k_ne;refine iY (wU I hg hm hv ?_ hn hdb);exact PyProof.Rows.callWith_builtin1 (nP (ha pos pins s σ H _ I h) λus s1 ⟨vs,H1,I1,r1,q1⟩=>hc pins s1 σ H1 vs us Q I1 r1 q1) he hpl
def MB(hc:kJ X (.type T) r)(hg:Gl X x)(hm:X.mg x=none)(hv:bootBuiltins x=some (.type T))(ha:PA X (e::es) t)(hn:x ≠ "__name__" := by decide)(hdb:(x == ("__debug__" : Str))=false:=by decide)
  (he:starEach (e::es) X.env=(false,eval e X.env)::starEach es X.env:=by rfl) (hpl:(backTo pos (starEach es X.env)).any (·.1)=false:=by rfl):PE X (.Call (.Name x p) (e::es) [] pos) (tCB r t):=by
 k_ne;refine iY (wU I hg hm hv ?_ hn hdb);exact dG (nP (ha pos pins s σ H _ I h) λus s1 ⟨vs,H1,I1,r1,q1⟩=>hc pins s1 σ H1 vs us Q I1 r1 q1) he hpl
end
end L2
namespace HT
open PySem PyProof.Rows
noncomputable def lexLt:ag->ag->Bool
 | [],[]=>false
 | [],_::_=>true
 | _::_,[]=>false
 | x::xs,y::ys=>if x=y then lexLt xs ys else decide (x<y)
def qf(x y:Int)(xs ys:ag):lexLt (x::xs) (y::ys)=if x=y then lexLt xs ys else decide (x<y):=rfl
def o9:lexLt [] []=false:=rfl
def m5(y:Int)(ys:ag):lexLt [] (y::ys)=true:=rfl
def oR(x:Int)(xs:ag):lexLt (x::xs) []=false:=rfl
def NK(A:az)(s:aA)(a:Int)(t:Tok)(c:Int)(u:Tok):∃e,SeqAt.EqAt A s (.int a t) (.int c u) e/\(e=true ↔ a=c):=
 ⟨(a == c),SeqAt.EqAt.int_int a t c u,by simp⟩
def NZ(A:az)(s:aA)(a:Int)(t:Tok)(c:Int)(u:Tok)(prog:aj)(w:ah)(E:af->aA->Prop)(Q:af->aA->Prop)(h:Q (.bool (decide (a<c))) s) :
  wpAny (model prog w) A (richCompare .Lt (.int a t) (.int c u)) Q E s:=
 (PyProof.Rows.lt_int h:wpAny (model prog w) A (compareOp .Lt (.int a t) (.int c u)) Q E s)
section
open PySem.SeqAt
open PySem.AutoSeq1 (wpAny_loadPart')
open PySem.MeetsSeq PySem.MeetsSeq2 PySem.MeetsSeq3
def B4(l b:ak)(items items2:Array af)(n n2:Nat)(dd dd2:Option ak)(sl sl2:Array (Option af))(ns ms:ag)(hi:IntsAre items.toList ns)(hj:IntsAre items2.toList ms) :
  Meets (Builtin.«tuple.__lt__» ⟨[.ref l,.ref b],[]⟩)
   (λ_ R s=>s.heap.get? l=some { cls:=.type "tuple",dict:=dd,data:=.seq items n,slots:=sl }/\s.heap.get? b=some { cls:=.type "tuple",dict:=dd2,data:=.seq items2 n2,slots:=sl2 } /\
    R (.ok (.ret (.bool (lexLt ns ms)))) s):=
 .of_wp λprog w A R s h=>by
  obtain⟨hp,g,d,tk,os⟩:=s;obtain⟨hl,hb,h⟩:=h;have f2:=AutoSeq1.sub_tuple_tuple;have z1:items.size=ns.length:=by rw[<- hi.length];simp
  have z2:items2.size=ms.length:=by rw[<- hj.length];simp
  wp_walk using wpAny_loadPart' hl,wpAny_loadPart' hb,wpAny_forIn_list _ (λrest b s'=>b.1=none/\s'=⟨hp,g,d,tk,os⟩/\∃(vs ws:ba) (ns' ms':ag),rest=vs.zip ws /\
   IntsAre vs ns'/\IntsAre ws ms'/\ns'.length+items2.size=ms'.length+items.size/\R (.ok (.ret (.bool (lexLt ns' ms')))) ⟨hp,g,d,tk,os⟩) _
  case turn=>
   rintro⟨y,x⟩ rest b s' ⟨hb',rfl,vs,ws,ns',ms',hz,hvi,hwi,hlen,hR⟩
   cases hvi with
   | nil=>rw[List.zip_nil_left]at hz;cases hz
   | cons a t hvi'=>
    cases hwi with
    | nil=>rw[List.zip_nil_right]at hz;cases hz
    | cons c u hwi'=>
     rw[iZ]at hz
     injection hz with hyx hrest
     injection hyx with hy hx
     subst hy hx;rw[qf]at hR;dsimp[bg]at hlen;obtain⟨e,he,hiff⟩:=NK A.in1 ⟨hp,g,d,tk,os⟩ a t c u;refine aG (he prog w _ _ ?_)
     cases e with
     | true=>
      rw[aM (hiff.mp rfl)]at hR
      wp_walk
      exact⟨rfl,rfl,_,_,_,_,hrest,hvi',hwi',(),hR⟩
     | false=>
      rw[aK (λq=>absurd (hiff.mpr q) bH)]at hR;have hri:=NZ A.in1 ⟨hp,g,d,tk,os⟩ a t c u prog w
      wp_walk using hri
      exact⟨_,rfl,by simpa using hR⟩
  case fin=>
   rintro⟨b1,b2⟩ s' ⟨hb',rfl,vs,ws,ns',ms',hz,hvi,hwi,hlen,hR⟩;simp only at hb';subst hb';have hv:lexLt ns' ms'=decide (items.size<items2.size):=by
    cases hvi with
    | nil=>
     cases hwi with
     | nil=>
      dsimp[bQ]at hlen;rw[o9];exact(bu ()).symm
     | cons c u hw=>
      dsimp[bQ,bg]at hlen;rw[m5];exact(bf ()).symm
    | cons a t hv=>
     cases hwi with
     | nil=>
      dsimp[bQ,bg]at hlen;rw[oR];exact(bu ()).symm
     | cons c u hw=>
      rw[iZ]at hz
      cases hz
   rw[hv]at hR
   wp_walk
   exact⟨_,rfl,by simpa[Builtin.Tuple.tupleCompareSizes]using hR⟩
  case h=>
   exact⟨rfl,rfl,items.toList,items2.toList,ns,ms,rfl,hi,hj,(),h⟩
end
section
variable {prog:aj}{w:ah}{A:az}{E:af->aA->Prop}{s:aA}
def Ho{l:ak}{items items2:Array af}{ns:ag}{Q:af->aA->Prop}(hl:IsTup s.heap l items)(hb:IsTup s.heap b items2)(hi:IntsAre items.toList ns)(hj:IntsAre items2.toList ms)
  (hu:A.units<cLine) (h:Q (.bool (lexLt ns ms)) s):wpAny (model prog w) A (compareOp .Lt (.ref l) (.ref b)) Q E s:=by
 obtain⟨⟨cls,dd,data,sl⟩,ho,hc,n,hd⟩:=id hl;obtain⟨⟨cls2,dd2,data2,sl2⟩,ho2,hc2,n2,hd2⟩:=id hb;simp only at hc hd hc2 hd2;subst hc hd hc2 hd2;exact richCompare_meets_room (op:=.Lt) ⟨_,ho,rfl⟩ ⟨_,ho2,rfl⟩ PySem.F.slot_tuple_lt PySem.F.entry_tuple_lt (PySem.F.args_tuple_lt_2 _ _) (B4 l b items items2 n n2 dd dd2 sl sl2 ns ms hi hj)
  ⟨ho,ho2,show Value.bool (lexLt ns ms)≠Value.notImplemented/\Q (.bool (lexLt ns ms)) s from⟨(λx=>nomatch x),h⟩⟩ hu
def Sa{t:ak}{vs ws:ba}{Q:af->aA->Prop}(ht:IsTup s.heap t vs.toArray)(hb:IsTup s.heap b ws.toArray)(hv:vs≠[])
  (h1:ws=[]->Q (.ref t) s) (h2:ws≠[]->Q (.ref s.heap.objs.size) { s with heap:=s.heap.push { cls:=.type "tuple",data:=.seq (vs++ws).toArray }})
  (hsz:vs.length+ws.length<=sizeLine):wpAny (model prog w) A (binaryOp .Add (.ref t) (.ref b)) Q E s:=by
 obtain⟨⟨cls,dd,data,sl⟩,ho,hc,n,hd⟩:=id ht;obtain⟨⟨cls2,dd2,data2,sl2⟩,ho2,hc2,n2,hd2⟩:=id hb;simp only at hc hd hc2 hd2;subst hc hd hc2 hd2;have e:vs.toArray++ws.toArray=(vs++ws).toArray:=by simp
 by_cases hw:ws=[]
 ·exact concat_meets ⟨_,ho,rfl⟩ ⟨_,ho2,rfl⟩ noFill_tuple_add seq_tuple_add gT gR (gC _ _)
   (tuple_addW1 t b vs.toArray ws.toArray n n2 dd dd2 sl sl2 (by simpa using hv) (by simp[hw])) ⟨ho,ho2,h1 hw⟩
 ·refine concat_meets ⟨_,ho,rfl⟩ ⟨_,ho2,rfl⟩ noFill_tuple_add seq_tuple_add gT gR (gC _ _)
   (tuple_addW2 t b vs.toArray ws.toArray n n2 dd dd2 sl sl2 (by simpa using hv) (by simpa using hw) (by rw[aY,aY];exact hsz)) ⟨ho,ho2,?_⟩
  rw[e];exact h2 hw
noncomputable def oS (n d:Nat):Option Int->Nat
 | none=>d
 | some v=>if v<0 then(v+(n:Int)).toNat else min v.toNat n
def E8(n d:Nat):oS n d none=d:=rfl
def KQ(n d k:Nat):oS n d (some (k:Int))=min k n:=by
 show(if (k:Int)<0 then((k:Int)+(n:Int)).toNat else min (k:Int).toNat n)=min k n;rw[aK (),cZ]
def Wl(n d:Nat)(hd:d<=n)(o:Option Int):oS n d o<=n:=by
 cases o with
 | none=>exact hd
 | some v=>
  show(if v<0 then(v+(n:Int)).toNat else min v.toNat n)<=n;by_cases hv:v<0
  ·rw[aM hv];lia
  ·rw[aK hv];exact Nat.min_le_right _ _
def IK(v:Int)(n d:Nat):(if v<0 then max (v+(n:Int)) 0 else min v (n:Int))=((oS n d (some v):Nat):Int):=by
 show(if v<0 then max (v+(n:Int)) 0 else min v (n:Int))=(((if v<0 then(v+(n:Int)).toNat else min v.toNat n):Nat):Int);by_cases hv:v<0
 ·dsimp[aM hv];lia
 ·dsimp[aK hv];lia
def Hw(lo hi:Option Int)(n:Nat):Builtin.Slice.sliceAdjust lo hi 1 (n:Int)=(((oS n 0 lo:Nat):Int),((oS n n hi:Nat):Int)):=by
 have h1:¬((1:Int)<0):=()
 unfold Builtin.Slice.sliceAdjust;dsimp[h1,b9];refine Prod.ext ?_ ?_
 ·cases lo with
  | none=>rfl
  | some v=>exact IK v n 0
 ·cases hi with
  | none=>rfl
  | some v=>exact IK v n n
def HZ(i j:Nat):Builtin.Slice.slicePlaces (i:Int) (j:Int) 1=j-i:=by
 unfold Builtin.Slice.slicePlaces;have h1:(1:Int)>0:=()
 dsimp[h1,cJ,Int.ediv_one];split<;>lia
def Ar{v:af}{Q:Option Int->aA->Prop}(p:IsPart v o)(h:Q o s):wpAny (model prog w) A (Builtin.Slice.slicePartIndex v) Q E s:=by
 cases p with
 | none=>exact slicePart_none h
 | int i t=>exact slicePart_int h
def yT{lo:Option Int}{n:Nat}{Q:Int×Int×Nat->aA->Prop}(hs:s.heap.IsSliceOf sl vl vu .none)(pl:IsPart vl lo)(pu:IsPart vu hi)
  (h:Q (((oS n 0 lo:Nat):Int),1,oS n n hi-oS n 0 lo) s):wpAny (model prog w) A (Builtin.Slice.sliceApplied (.ref sl) (pure (n:Int))) Q E s:=by
 obtain⟨os,hos,hcs,hds⟩:=id hs;unfold Builtin.Slice.sliceApplied Builtin.Slice.sliceFields;refine aG (aG (fh hos hds (x:=vl) rfl (aG (fh hos hds (x:=vu) rfl (aG (fh hos hds (x:=.none) rfl (aS ?_)))))));refine aG (slicePart_none ?_)
 skip
 rw[aK ⋯];refine aG (Ar pl (aG (Ar pu (aG (aS ?_)))));show wpAny _ _ (match Builtin.Slice.sliceAdjust lo hi 1 (n:Int)with|(lo,hi)=>pure (lo,(1:Int),Builtin.Slice.slicePlaces lo hi 1)) _ _ s;rw[Hw lo hi n];show wpAny _ _ (pure (((oS n 0 lo:Nat):Int),(1:Int),Builtin.Slice.slicePlaces ((oS n 0 lo:Nat):Int) ((oS n n hi:Nat):Int) 1)) _ _ s;rw[HZ];exact aS h
def PJ(xs:Array af)(i k:Nat):((List.range k).filterMap λ(m:Nat)=>xs[((i:Int)+(m:Int) * 1).toNat]?).toArray=((xs.toList.drop i).take k).toArray:=by
 have e:(λ(m:Nat)=>xs[((i:Int)+(m:Int) * 1).toNat]?)=λm=>xs[i+m]?:=by
  funext m
  have:((i:Int)+(m:Int) * 1).toNat=i+m:=()
  rw[this]
 rw[e];have:=pick_run xs i k;rw[i6]at this;have e2:((λx=>xs[x]?) ∘ λx=>i+x)=λm=>xs[i+m]?:=rfl;rw[e2]at this;rw[this]
def xM{t:ak}{items:Array af}{lo:Option Int}{Q:af->aA->Prop}(ht:IsTup s.heap t items)(hs:s.heap.IsSliceOf sl vl vu .none)(pl:IsPart vl lo)(pu:IsPart vu hi)
  (hw:¬(oS items.size 0 lo=0/\oS items.size items.size hi=items.size))
  (h:Q (.ref s.heap.objs.size) { s with heap:=s.heap.push { cls:=.type "tuple",data:=.seq ((items.toList.drop (oS items.size 0 lo)).take (oS items.size items.size hi-oS items.size 0 lo)).toArray }})
  (hsz:items.size<=sizeLine):wpAny (model prog w) A (getItem (.ref t) (.ref sl)) Q E s:=by
 have htake:sizeOk (.seq ((items.toList.drop (oS items.size 0 lo)).take (oS items.size items.size hi-oS items.size 0 lo)).toArray):=by
  show((items.toList.drop (oS items.size 0 lo)).take (oS items.size items.size hi-oS items.size 0 lo)).toArray.size<=sizeLine;rw[aY,bK,dD,dN];lia
 have hj:oS items.size items.size hi<=items.size:=Wl _ _ (aO _) hi;obtain⟨os,hos,hcs,hds⟩:=id hs;have hTs:s.TypeIs (.ref sl) "slice" := ⟨os,hos,hcs⟩;unfold getItem
 try with_reducible refine dH ?_
 first|refine aG (aS ?_)|skip
 refine aG (wpAny_sequenceKey ht.typeIs ⋯ ?_);refine aG (c7 (name:=Str.ofString "__getitem__") ht.typeIs fK
  (cR fK ht.typeIs entry_tuple_getitem ?_ (args_tuple_getitem _ _)))
 show wpAny _ _ (Builtin.Tuple.tupleItemsOf (.ref t) >>= _) _ _ s;refine aG (tupleItemsOf_ ht ?_);refine aG (gp hTs ?_);rw[aM ⋯];refine aG (yT hs pl pu ?_);have hno:¬((((oS items.size 0 lo:Nat):Int) == 0 && (1:Int) == 1 && (oS items.size items.size hi-oS items.size 0 lo) == items.size)=true):=by
  intro q;rw[iE,iE]at q;have q1:((oS items.size 0 lo:Nat):Int)=0:=eq_of_beq q.1.1;have q2:oS items.size items.size hi-oS items.size 0 lo=items.size:=eq_of_beq q.2;exact hw ⟨(),()⟩
 show wpAny _ _ (if (((oS items.size 0 lo:Nat):Int) == 0 && (1:Int) == 1 && (oS items.size items.size hi-oS items.size 0 lo) == items.size)=true then _ else _) _ _ s;rw[aK hno,PJ]
 first
  | exact aG (m:=Builtin.Tuple.tupleExact _) (ck (aS ⟨_,rfl,aS h⟩) htake)
  | exact aG (m:=Builtin.Tuple.tupleExact _) (ck (aG (aS (aS ⟨_,rfl,aS h⟩))) htake)
  | exact aG (aG (m:=Builtin.Tuple.tupleExact _) (ck (aS (aS ⟨_,rfl,aS h⟩)) htake))
  | exact aG (aG (m:=Builtin.Tuple.tupleExact _) (ck (aS ⟨_,rfl,aS h⟩) htake))
end
end HT
namespace L2
open PySem PySem.Spec PyProof.Rows
noncomputable abbrev TO:=St->Hp->(Option Int->Hp->Prop)->Prop
noncomputable def PO (X:Cx)(e:Option aC)(t:TO):Prop:=
 ∀(pins:bd) (s:aA) (σ:St) (H:Hp) (Q:Option Int->Hp->Prop),Inv X pins σ H s->t σ H Q ->
  wpAny (model X.prog X.w) X.A (evalPart e X.env) (λu s'=>∃o H',Inv X pins σ H' s'/\IsPart u o/\Q o H') X.xe s
noncomputable def Sj:TO:=λ_ H Q=>Q none H
noncomputable def ZN (t:TE):TO:=λσ H Q=>t σ H λx H1=>∃i,x=.int i/\Q (some i) H1
def intsAre_of{ns:ag}:∀{us:ba},Vals (ns.map V.int) us->IntsAre us ns:=by
 induction ns with
 | nil=>intro us r;rw[gq]at r;cases r;exact .nil
 | cons n ns ih=>
  intro us r;rw[bD]at r
  cases r with
  | cons r1 r2=>
   obtain⟨t,e⟩:=r1;subst e;exact .cons n t (ih r2)
section
variable {X:Cx}{e:aC}{te:TE}{lo hi:Option aC}{tl th:TO}{pos p2:Pos}
def Up:PO X none Sj:=by
 k_ne;rw[evalPart_none];exact aS ⟨none,H,I,.none,h⟩
def Tv(h:PE X e te):PO X (some e) (ZN te):=by
 intro pins s σ H Q I hw;rw[evalPart_some];refine nP (h pins s σ H _ I hw) λu s1 ⟨x,H1,I1,r1,q1⟩=>?_;obtain⟨i,rfl,q⟩:=q1;obtain⟨t,rfl⟩:=r1;exact⟨some i,H1,I1,.int i t,q⟩
noncomputable def SlR (X:Cx)(r:V->Option Int->Option Int->Hp->VK->Prop):Prop:=
 ∀(pins:bd) (s:aA) (σ:St) (H:Hp) (x:V) (v vl vu:af) (lo hi:Option Int) (sl:ak) (Q:VK),Inv X pins σ H s->RelV x v->s.heap.IsSliceOf sl vl vu .none->IsPart vl lo->IsPart vu hi->r x lo hi H Q ->
  ∃T id,typeLookup (.type T) "__getitem__" = pure (some (.builtin id))/\s.TypeIs v T/\wpAny (model X.prog X.w) X.A (getItem v (.ref sl)) (EP X pins σ Q) X.xe s
noncomputable def tSl (r:V->Option Int->Option Int->Hp->VK->Prop)(te:TE)(tl th:TO):TE:=λσ H Q=>te σ H λx H1=>tl σ H1 λl H2=>th σ H2 λu H3=>r x l u H3 Q
def Rj{r:V->Option Int->Option Int->Hp->VK->Prop}(hr:SlR X r)(he:PE X e te)(hl:PO X lo tl)(hu:PO X hi th):PE X (.Subscript e (.Slice lo hi none p2) pos) (tSl r te tl th):=by
 k_ne;refine Subscript_ (nP (he pins s σ H _ I h) λv s1 ⟨x,H1,I1,r1,q1⟩=>?_);refine wpAny_Slice (nP (hl pins s1 σ H1 _ I1 q1) λvl s2 ⟨l,H2,I2,pl,q2⟩=>nP (hu pins s2 σ H2 _ I2 q2) λvu s3 ⟨u,H3,I3,pu,q3⟩=>?_);rw[evalPart_none];refine aS ?_;have I4:Inv X pins σ H3 { s3 with heap:=s3.heap.push { cls:=.type "slice",data:=.fields #[vl,vu,.none]}}:=I3.kept (t':=s3.toks) λb ob q=>aV _ q;obtain⟨T,id,hT,ht,hg⟩:=hr pins { s3 with heap:=s3.heap.push { cls:=.type "slice",data:=.fields #[vl,vu,.none]}} σ H3 x v vl vu l u s3.heap.objs.size Q I4 r1 (Heap.IsSliceOf.new ..) pl pu q3
 skip
 exact tail_any (ops:=[.ref s3.heap.objs.size,v]) ht hT hg (by with_unfolding_all rfl)
noncomputable def FO (xs:List V)(lo hi:Option Int):List V:=(xs.drop (HT.oS xs.length 0 lo)).take (HT.oS xs.length xs.length hi-HT.oS xs.length 0 lo)
def zq(xs:List V)(lo hi:Option Int):(FO xs lo hi).length<=xs.length:=by
 unfold FO;rw[bK,dD];lia
noncomputable def abk (K:au):V->Option Int->Option Int->Hp->VK->Prop:=λx lo hi H Q=>∃a xs,x=.ref a/\ni K H a xs /\
 ¬(HT.oS xs.length 0 lo=0/\HT.oS xs.length xs.length hi=xs.length)/\∀p,H p=none->Q (.ref p) (upd H p (.tup (FO xs lo hi)))
def Yp:SlR X (abk X.K):=by
 intro pins s σ H x v vl vu lo hi sl Q I rx hs pl pu h;obtain⟨a,xs,rfl,hx,hw,q⟩:=h
 cases rx
 obtain⟨its,r,ht,hz⟩:=I.tuple hx;have hlen:its.toArray.size=xs.length:=by rw[aY];exact r.length.symm
 refine⟨"tuple",_,fK.lookup,ht.typeIs,?_⟩;refine HT.xM ht hs pl pu (by rw[hlen];exact hw) ?_ (by rw[hlen];exact hz);rw[hlen];refine⟨.ref s.heap.objs.size,_,I.laid (t':=s.toks) (o:=.tup (FO xs lo hi)) (λb ob q=>aV _ q) (aO _) ?_,rfl,q _ (I.hok.fresh (aO _))⟩;exact⟨bI (zq xs lo hi) hz,_,(r.drop (HT.oS xs.length 0 lo)).take (HT.oS xs.length xs.length hi-HT.oS xs.length 0 lo),pU.new _ _⟩
noncomputable def Zr (K:au):R2:=λx y H Q=>∃a b xs ys,x=.ref a/\y=.ref b/\ni K H a xs/\ni K H b ys/\xs≠[]/\xs.length+ys.length<=sizeLine /\
 (ys=[]->Q (.ref a) H)/\(ys≠[]->∀p,H p=none->Q (.ref p) (upd H p (.tup (xs++ys))))
def Vals.Dk(r:Vals xs us):us=[] ↔ xs=[]:=by
 cases r with
 | nil=>simp
 | cons _ _=>simp
def Ul:pB X (binaryOp .Add) (Zr X.K):=by
 intro pins s σ H x y v u Q I rx ry h;obtain⟨a,b,xs,ys,rfl,rfl,ha,hb,hx,hz,q1,q2⟩:=h
 cases rx
 cases ry
 obtain⟨its,r1,p1,_⟩:=I.tuple ha;obtain⟨its2,r2,p2,_⟩:=I.tuple hb;refine HT.Sa p1 p2 (λz=>hx (r1.Dk.mp z)) (λz=>⟨.ref a,H,I,rfl,q1 (r2.Dk.mp z)⟩) (λz=>?_) (by rw[<- r1.length,<- r2.length];exact hz);refine⟨.ref s.heap.objs.size,_,I.laid (t':=s.toks) (o:=.tup (xs++ys)) (λb ob q=>aV _ q) (aO _) ?_,rfl,q2 (λw=>z (r2.Dk.mpr w)) _ (I.hok.fresh (aO _))⟩;exact⟨by rw[aR];exact hz,_,r1.append r2,pU.new _ _⟩
end
noncomputable def zR (n:Nat)(i:Int):Option Nat:=if 0<=i then(if i<n then some i.toNat else none)else if -(n:Int)<=i then some (i+n).toNat else none
noncomputable def qI {α:Type}(xs:List α)(i:Int):Option α:=(zR xs.length i).bind λj=>xs[j]?
def KC{n:Nat}{i:Int}(h:zR n i=some j):seqIndex? i n=some j/\j<n/\-(n:Int)<=i/\i<n:=by
 unfold zR at h;by_cases h0:0<=i
 ·rw[aM h0]at h;by_cases h1:i<n
  ·rw[aM h1]at h;have e:i.toNat=j:=a_ h;exact⟨by rw[seqIndex_of h0 h1,e],(),(),h1⟩
  ·rw[aK h1]at h;cases h
 ·rw[aK h0]at h;by_cases h1:-(n:Int)<=i
  ·rw[aM h1]at h;have e:(i+n).toNat=j:=a_ h;exact⟨by rw[seqIndex_neg () h1,e],(),h1,()⟩
  ·rw[aK h1]at h;cases h
def C8{α:Type}{xs:List α}{i:Int}{v:α}(h:qI xs i=some v):∃j,seqIndex? i xs.length=some j/\xs[j]?=some v/\j<xs.length/\-(xs.length:Int)<=i/\i<xs.length:=by
 unfold qI at h
 cases e:zR xs.length i with
 | none=>rw[e]at h;cases h
 | some j=>
  rw[e]at h;obtain⟨h1,h2,h3,h4⟩:=KC e;exact⟨j,h1,h,h2,h3,h4⟩
def UE{α:Type}{xs:List α}{j:Nat}{v:α}(h:xs[j]?=some v):qI xs (j:Int)=some v:=by
 have hj:j<xs.length:=(aN.mp h).1;have e:zR xs.length (j:Int)=some j:=by
  unfold zR;rw[aM (),aM ()];simp
 unfold qI;rw[e];exact h
def Fx{α:Type}(xs:List α)(v:α):qI (xs++[v]) (-1)=some v:=by
 have hl:(xs++[v]).length=xs.length+1:=by simp
 have e:zR (xs++[v]).length (-1)=some xs.length:=by
  unfold zR;rw[hl,aK ⋯,aM ()];congr 1;lia
 unfold qI;rw[e]
 skip
 simp
noncomputable def zW (b:aC):Prop:=∀o i,subscripted b false o i=operate [o,i] (getItem o i)
noncomputable def VU (X:Cx)(r:R2):Prop:=
 ∀(value slice:aC) (pins:bd) (s:aA) (σ:St) (H:Hp) (x y:V) (v u:af) (Q:VK),Inv X pins σ H s->RelV x v->RelV y u->r x y H Q ->
  subscripted slice false v u=operate [v,u] (getItem v u)->wpAny (model X.prog X.w) X.A (subscriptTail value slice v u) (EP X pins σ Q) X.xe s
noncomputable def Vk (X:Cx)(id:String)(r:V->List V->Hp->VK->Prop):Prop:=
 ∀(pins:bd) (s:aA) (σ:St) (H:Hp) (x:V) (xs:List V) (v:af) (us:ba) (Q:VK),Inv X pins σ H s->RelV x v->Vals xs us->r x xs H Q ->
  wpAny (model X.prog X.w) X.A (call (.builtin id) (v::us)) (EP X pins σ Q) X.xe s
section
variable {X:Cx}{a b:aC}{ta tb:TE}{pos:Pos}
def OT{r:R2}(hr:VU X r)(ha:PE X a ta)(hb:PE X b tb)(hs:zW b):PE X (.Subscript a b pos) (ZW r ta tb):=by
 k_ne;exact Subscript_ (W5 ha hb I h λv u s2 x y H2 I2 rx ry q=>hr a b pins s2 σ H2 x y v u Q I2 rx ry q (hs _ _))
noncomputable def acf (K:au):R2:=λx y H Q=>∃p xs i v,x=.ref p/\y=.int i/\pL K H p xs/\qI xs i=some v/\Q v H
noncomputable def abg (K:au):R2:=λx y H Q=>∃p xs i v,x=.ref p/\y=.int i/\ni K H p xs/\qI xs i=some v/\Q v H
noncomputable def abQ:R2:=λx y H Q=>∃z i c,x=.str z/\y=.int i/\z.length<=sizeLine/\qI z.cps.toList i=some c/\Q (.str ⟨#[c]⟩) H
def J4:VU X (acf X.K):=by
 intro value slice pins s σ H x y v u Q I rx ry h hs;obtain⟨p,xs,i,z,rfl,rfl,hq,he,q⟩:=h
 cases rx
 obtain⟨t,rfl⟩:=ry;obtain⟨its,r,pl,hz⟩:=I.list hq;obtain⟨j,h1,h2,h3,h4,h5⟩:=C8 he;obtain⟨w,ew,rw'⟩:=r.get h2;have hl:=r.length;have hn:=yG;have fin:EP X pins σ Q w s:=⟨z,H,I,rw',q⟩;by_cases h0:0<=i
 ·have hj:i.toNat=j:=by
   rw[seqIndex_of h0 h5]at h1;exact a_ h1
  exact item_listR pl.isList h0 () (by rw[hj];simpa using ew) fin hs
 ·have hj:(i+(its.toArray.size:Int)).toNat=j:=by
   rw[seqIndex_neg () h4]at h1;rw[aY,<- hl];exact a_ h1
  exact subscriptTail_builtinR (x:=w) pl.isList.typeIs slot_list_getitem.lookup
   (wpAny_getItem_list_neg (Q:=λr s'=>r=w/\EP X pins σ Q r s') pl.isList () (by rw[aY]<;>lia) () (by rw[hj];simpa using ew) ⟨rfl,fin⟩) hs
def Wi:VU X (abg X.K):=by
 intro value slice pins s σ H x y v u Q I rx ry h hs;obtain⟨p,xs,i,z,rfl,rfl,hq,he,q⟩:=h
 cases rx
 obtain⟨t,rfl⟩:=ry;obtain⟨its,r,pl,hz⟩:=I.tuple hq;obtain⟨j,h1,h2,h3,h4,h5⟩:=C8 he;obtain⟨w,ew,rw'⟩:=r.get h2;have hl:=r.length;have hn:=yG;have fin:EP X pins σ Q w s:=⟨z,H,I,rw',q⟩;exact subscriptTail_builtinR (x:=w) pl.typeIs slot_tuple_getitem.lookup
  (getItem_tuple (j:=j) (Q:=λr s'=>r=w/\EP X pins σ Q r s') pl () () (by rw[aY,<- hl];exact h1) (by simpa using ew) ⟨rfl,fin⟩) hs
def Wg:VU X abQ:=by
 intro value slice pins s σ H x y v u Q I rx ry h hs;obtain⟨z,i,c,rfl,rfl,hz,he,q⟩:=h;obtain⟨t,rfl⟩:=rx;obtain⟨t',rfl⟩:=ry;obtain⟨j,h1,h2,h3,h4,h5⟩:=C8 he;have hl:z.cps.toList.length=z.length:=by simp[Str.length]
 rw[hl]at h1 h4 h5;have hn:=yG;exact tail_any (typeIs_str s z t) slot_str_getitem.lookup (getItem_str (c:=c) (by
  have e1:decide (i < -(2 ^ 63:Int))=false:=bu ();have e2:decide (i>=2 ^ 63)=false:=bu ();rw[e1,e2,Bool.or_false]) (by rw[h1];simpa using h2) ⟨.str ⟨#[c]⟩,H,I.tok _,⟨_,rfl⟩,q⟩) hs
def HE(its:ba)(n j:Nat)(u:af):Obj.mapSeq (·.setIfInBounds j u) { cls:=.type "list",data:=.seq its.toArray n }={ cls:=.type "list",data:=.seq (its.set j u).toArray n }:=by
 simp[Obj.mapSeq]
def Inv.lst{H:Hp}{s:aA}{p:ak}{xs:List V}(I:Inv X pins σ H s)(h:H p=some (.lst xs)) :
  ∃(its:ba) (n:Nat),Vals xs its/\s.heap.get? p=some { cls:=.type "list",data:=.seq its.toArray n }/\xs.length<=sizeLine:=by
 obtain⟨z,its,n,r,e⟩:=I.hok p _ h;exact⟨its,n,r,e,z⟩
def Inv.WB{H:Hp}{s:aA}{p:ak}{ys:List V}{its its':ba}{n:Nat}{f:Obj->Obj}(I:Inv X pins σ H s)(h:H p=some (.lst xs))
  (ho:s.heap.get? p=some { cls:=.type "list",data:=.seq its.toArray n }) (hf:f { cls:=.type "list",data:=.seq its.toArray n }={ cls:=.type "list",data:=.seq its'.toArray n' }) (r:Vals ys its') (hz:ys.length<=sizeLine) (t:Nat) :
  Inv X pins σ (upd H p (.lst ys)) { s with heap:=s.heap.update p f,toks:=t }:=by
 have e:(s.heap.update p f).get? p=some { cls:=.type "list",data:=.seq its'.toArray n' }:=by
  rw[f6 f ho (by rw[hf]<;>rfl),hf]
 refine I.write (x:=p) (e:=p) (by rw[h];trivial) (.inl rfl) (λb u hb q=>(Heap.get?_update_other _ _ (dj hb)).trans q) ⟨_,e⟩ ?_;exact⟨hz,its',n',r,e⟩
noncomputable def ZU:V->V->V->Hp->(Hp->Prop)->Prop:=λo i v H Q=>∃p xs k j,o=.ref p/\i=.int k/\H p=some (.lst xs)/\zR xs.length k=some j/\Q (upd H p (.lst (xs.set j v)))
def set_list:LL X ZU:=by
 intro pins s σ H o i v ov iv u Q I ro ri rv h;obtain⟨p,xs,k,j,rfl,rfl,hp,hj,q⟩:=h
 cases ro
 obtain⟨t,rfl⟩:=ri;obtain⟨its,n,r,ho,hz⟩:=I.lst hp;obtain⟨h1,h2,h3,h4⟩:=KC hj;have hl:=r.length;have hn:=yG;have I':Inv X pins σ (upd H p (.lst (xs.set j v))) { s with heap:=s.heap.update p (Obj.mapSeq (·.setIfInBounds j u))}:=
  I.WB hp ho (HE its n j u) (r.set rv j) (by rw[cA];exact hz) s.toks
 by_cases h0:0<=k
 ·have hk:k.toNat=j:=by
   rw[seqIndex_of h0 h4]at h1;exact a_ h1
  exact PySem.W.ki_setAt ho h0 () (by rw[aY,<- hl];exact h4) (by rw[hk];exact⟨_,I',q⟩)
 ·have hk:(k+(its.toArray.size:Int)).toNat=j:=by
   rw[seqIndex_neg () h3]at h1;rw[aY,<- hl];exact a_ h1
  exact PySem.W.ki_setBack ho () (by rw[aY,<- hl];exact h3) () (by rw[hk];exact⟨_,I',q⟩)
def Eh(lo hi:Option Int)(n:Nat):(sliceBounds lo hi none n).1=((HT.oS n 0 lo:Nat):Int)/\(sliceBounds lo hi none n).2.1=((HT.oS n n hi:Nat):Int)/\(sliceBounds lo hi none n).2.2=1:=by
 refine⟨?_,?_,rfl⟩
 ·cases lo with
  | none=>simp[sliceBounds,HT.oS]
  | some i=>
   dsimp[sliceBounds,HT.oS,getD_none,show(1:Int)>0 by decide,cJ];by_cases h:i<0
   ·dsimp[h,cJ]<;>lia
   ·dsimp[h,b9]<;>lia
 ·cases hi with
  | none=>simp[sliceBounds,HT.oS]
  | some i=>
   dsimp[sliceBounds,HT.oS,getD_none,show(1:Int)>0 by decide,cJ];by_cases h:i<0
   ·dsimp[h,cJ]<;>lia
   ·dsimp[h,b9]<;>lia
def Ca(its:ba)(lo hi:Option Int):slicePick its.toArray lo hi none=((its.drop (HT.oS its.length 0 lo)).take (HT.oS its.length its.length hi-HT.oS its.length 0 lo)).toArray:=by
 obtain⟨h1,h2,h3⟩:=Eh lo hi its.toArray.size;unfold slicePick;rw[h1,h2,h3];dsimp[sliceRange_one,pick_run,aY]<;>rfl
noncomputable def abm (K:au):V->Option Int->Option Int->Hp->VK->Prop:=λx lo hi H Q=>∃a xs,x=.ref a/\pL K H a xs/\∀p,H p=none->Q (.ref p) (upd H p (.lst (FO xs lo hi)))
def Le:SlR X (abm X.K):=by
 intro pins s σ H x v vl vu lo hi sl Q I rx hs pl pu h;obtain⟨a,xs,rfl,hx,q⟩:=h
 cases rx
 obtain⟨its,r,ht,hz⟩:=I.list hx;have hlen:=r.length;refine⟨"list",_,slot_list_getitem.lookup,ht.isList.typeIs,?_⟩;refine wpAny_getItem_list_slice ht.isList hs pl pu .none (by simp) ?_ (by rw[aY]<;>lia);rw[Ca,<- hlen];refine⟨.ref s.heap.objs.size,_,I.laid (t':=s.toks) (o:=.lst (FO xs lo hi)) (λb ob q=>aV _ q) (aO _) ?_,rfl,q _ (I.hok.fresh (aO _))⟩;exact⟨bI (zq xs lo hi) hz,_,0,(r.drop (HT.oS xs.length 0 lo)).take (HT.oS xs.length xs.length hi-HT.oS xs.length 0 lo),bC _ rfl⟩
noncomputable def AM:V->Bool
 | .non=>true
 | .bl _=>true
 | .int _=>true
 | .str _=>true
 | _=>false
noncomputable def RZ:V->V->Bool
 | .non,.non=>true
 | .bl a,.bl b=>a == b
 | .bl a,.int b=>(if a then 1 else 0) == b
 | .int a,.bl b=>a == (if b then 1 else 0)
 | .int a,.int b=>a == b
 | .str a,.str b=>a == b
 | _,_=>false
def XW{A:az}{x:V}{v:af}(ry:RelV y u)(rx:RelV x v)(fy:AM y=true)(fx:AM x=true):SeqAt.EqAt A s u v (RZ y x):=by
 cases y with
 | non=>
  cases ry
  cases x with
  | non=>cases rx;exact SeqAt.EqAt.same _
  | bl b=>cases rx;exact SeqAt.EqAt.none_bool b
  | int b=>obtain⟨t,rfl⟩:=rx;exact SeqAt.EqAt.none_int b t
  | str b=>obtain⟨t,rfl⟩:=rx;exact SeqAt.EqAt.none_str b t
  | _=>exact absurd (show false=true from fx) bH
 | bl a=>
  cases ry
  cases x with
  | non=>cases rx;exact SeqAt.EqAt.bool_none a
  | bl b=>cases rx;exact SeqAt.EqAt.bool_bool a b
  | int b=>obtain⟨t,rfl⟩:=rx;exact SeqAt.EqAt.bool_int a b t
  | str b=>obtain⟨t,rfl⟩:=rx;exact SeqAt.EqAt.bool_str a b t
  | _=>exact absurd (show false=true from fx) bH
 | int a=>
  obtain⟨t',rfl⟩:=ry
  cases x with
  | non=>cases rx;exact SeqAt.EqAt.int_none a t'
  | bl b=>cases rx;exact SeqAt.EqAt.int_bool a t' b
  | int b=>obtain⟨t,rfl⟩:=rx;exact SeqAt.EqAt.int_int a t' b t
  | str b=>obtain⟨t,rfl⟩:=rx;exact SeqAt.EqAt.int_str a t' b t
  | _=>exact absurd (show false=true from fx) bH
 | str a=>
  obtain⟨t',rfl⟩:=ry
  cases x with
  | non=>cases rx;exact SeqAt.EqAt.str_none a t'
  | bl b=>cases rx;exact SeqAt.EqAt.str_bool a t' b
  | int b=>obtain⟨t,rfl⟩:=rx;exact SeqAt.EqAt.str_int a t' b t
  | str b=>obtain⟨t,rfl⟩:=rx;exact SeqAt.EqAt.str_str a t' b t
  | _=>exact absurd (show false=true from fx) bH
 | _=>exact absurd (show false=true from fy) bH
def tY:kJ X (.type "list") (λxs H Q=>∃p ys,xs=[.ref p]/\(pL X.K H p ys\/ni X.K H p ys)/\∀l,H l=none->Q (.ref l) (upd H l (.lst ys))):=by
 w_up;obtain⟨p,ys,rfl,hq,q⟩:=h;obtain⟨u,rfl,rx⟩:=vals1 r
 cases rx
 have fin:∀(its:ba),Vals ys its->ys.length<=sizeLine->∀(h':aq) (c':Nat),(∀b o',s.heap.get? b=some o'->h'.get? b=some o') ->
   h'.get? s.heap.objs.size=some { cls:=.type "list",dict:=none,data:=.seq its.toArray c',slots:=#[]}->EP X pins σ Q (.ref s.heap.objs.size) { s with heap:=h' }:=λits r' hz h' c' kp e=>
  ⟨.ref s.heap.objs.size,_,I.laid (t':=s.toks) kp (aO _) (show lY X.prog X.w _ h' _ (.lst ys)from⟨hz,its,c',r',e⟩),rfl,q _ (I.hok.fresh (aO _))⟩
 rcases hq with hq|hq
 ·obtain⟨its,r',pl,hz⟩:=I.list hq;have hlen:=r'.length;obtain⟨o,ho,hc,n,hd⟩:=pl.isList;exact call_list_seq p (.inl rfl) ho hc hd (λh' c' kp e=>fin its r' hz h' c' kp e) (by dsimp[aY]<;>lia)
 ·obtain⟨its,r',pl,hz⟩:=I.tuple hq;have hlen:=r'.length;obtain⟨o,ho,hc,n,hd⟩:=pl;exact call_list_seq p (.inr rfl) ho hc hd (λh' c' kp e=>fin its r' hz h' c' kp e) (by dsimp[aY]<;>lia)
def rH:kJ X (.type "tuple") (λxs H Q=>∃p ys,xs=[.ref p]/\((pL X.K H p ys/\∀l,H l=none->Q (.ref l) (upd H l (.tup ys)))\/(ni X.K H p ys/\Q (.ref p) H))):=by
 w_up;obtain⟨p,ys,rfl,h⟩:=h;obtain⟨u,rfl,rx⟩:=vals1 r
 cases rx
 rcases h with⟨hq,q⟩|⟨hq,q⟩
 ·obtain⟨its,r',pl,hz⟩:=I.list hq;have hlen:=r'.length;refine call_tuple_list pl.isList (λh' kp=>?_) (by dsimp[aY]<;>lia);have I1:Inv X pins σ H { s with heap:=h' }:=I.kept (t':=s.toks) kp;have I2:Inv X pins σ (upd H h'.objs.size (.tup ys)) { s with heap:=h'.push { cls:=.type "tuple",data:=.seq its.toArray }}:=
   I1.laid (t':=s.toks) (λb o e=>aV _ e) (aO _) (show lY X.prog X.w _ _ _ (.tup ys)from⟨hz,its,r',pU.new _ _⟩)
  exact⟨.ref h'.objs.size,_,I2,rfl,q _ (I1.hok.fresh (aO _))⟩
 ·obtain⟨its,r',pl,hz⟩:=I.tuple hq;exact call_tuple_same pl ⟨.ref p,H,I,rfl,q⟩
noncomputable def Y9 (K:au)(T:String)(x:V)(H:Hp):Prop:=match x with
 | .str _=>T = "str"
 | .int _=>T = "int"
 | .ref p=>(T = "list" /\ ∃xs,pL K H p xs)\/(T = "tuple" /\ ∃o,K.lookup p=some o/\o.cls=.type "tuple" /\ o.dict=none) \/
   (T = "dict" /\ ((∃kvs,H p=some (.dK kvs))\/∃kvs,H p=some (.dT kvs)))\/(T = "set" /\ ∃S n,H p=some (.set S n))
 | _=>False
def Wn{H:Hp}{s:aA}{x:V}{v:af}(I:Inv X pins σ H s)(r:RelV x v)(ty:Y9 X.K T x H) :
  s.TypeIs v T/\∀a,v=.ref a->∃ob,s.heap.get? a=some ob/\ob.dict=none:=by
 cases x with
 | str z=>
  obtain⟨t,rfl⟩:=r
  cases(show T = "str" from ty)
  exact⟨typeIs_str s z t,nofun⟩
 | int i=>
  obtain⟨t,rfl⟩:=r
  cases(show T = "int" from ty)
  exact⟨typeIs_int s i t,nofun⟩
 | ref p=>
  cases r
  rcases ty with⟨rfl,xs,hq⟩|⟨rfl,o,hk,hc,hd⟩|⟨rfl,hk⟩|⟨rfl,S,n,hk⟩
  ·obtain⟨its,_,pl,_⟩:=I.list hq;refine⟨pl.isList.typeIs,λa e=>?_⟩
   cases e
   obtain⟨o,n,e,c,hd,_⟩:=pl;exact⟨o,e,hd⟩
  ·refine⟨⟨o,I.EM p o hk,hc⟩,λa e=>?_⟩
   cases e
   exact⟨o,I.EM _ o hk,hd⟩
  ·have z:∃o,s.heap.get? p=some o/\o.ExactDict:=by
    rcases hk with⟨kvs,hk⟩|⟨kvs,hk⟩
    ·obtain⟨_,_,_,_,o,_,_,e,ex,_⟩:=I.hok p _ hk;exact⟨o,e,ex⟩
    ·obtain⟨_,_,_,_,o,_,_,e,ex,_⟩:=I.hok p _ hk;exact⟨o,e,ex⟩
   obtain⟨o,e,ex⟩:=z;refine⟨⟨o,e,ex.1⟩,λa e2=>?_⟩
   cases e2
   exact⟨o,e,ex.2.1⟩
  ·obtain⟨o,_,_,_,e,ex,_⟩:=I.hok p _ hk;refine⟨⟨o,e,ex.1⟩,λa e2=>?_⟩
   cases e2
   exact⟨o,e,ex.2.1⟩
 | _=>exact False.elim ty
noncomputable def tBM (K:au)(T:String)(r:V->List V->Hp->VK->Prop)(to:TE)(t:TA):TE:=λσ H Q=>to σ H λx H1=>Y9 K T x H1/\t σ H1 λxs H2=>r x xs H2 Q
variable {o e:aC}{es:List aC}{to:TE}{t:TA}{name:Str}{apos cpos:Pos}{T id:String}{r:V->List V->Hp->VK->Prop}
def Nq(pa:PlainAttrs T)(slot:Slot T name id)(hty:typeOf (.builtin id)=pure (.type "method_descriptor"))(hm:Vk X id r)(ho:PE X o to)(ha:PA X (e::es) t)
  (hbase:attributeBase o name X.env (eval o X.env)=eval o X.env:=by rfl)
  (hfew:((backTo cpos (starEach (e::es) X.env)).all (λx=>!x.1) && (backToKw cpos (keywordEach [] X.env)).all (λx=>x.1.isSome)
   && decide ((e::es).length+([]:List Keyword).length+(if ([]:List Keyword).isEmpty then 0 else 1)<30))=true:=by rfl)
  (hline:(apos.endLine == cpos.line)=true:=by rfl) (hs:starEach (e::es) X.env=(false,eval e X.env)::starEach es X.env:=by rfl) (hplain:(backTo cpos (starEach es X.env)).any (·.1)=false:=by rfl) :
  PE X (.Call (.Attribute o name apos) (e::es) [] cpos) (tBM X.K T r to t):=by
 k_ne;refine wpAny_Call_method_late hbase hfew hline rfl (nP (ho pins s σ H _ I h) λv s1 ⟨x,H1,I1,r1,ty,q1⟩=>?_);obtain⟨h1,h2⟩:=Wn I1 r1 ty;refine⟨T,id,pa,slot,hty,h1,h2,?_⟩;have hA:=ha cpos pins s1 σ H1 _ I1 q1;rw[hs]at hA ⊢;refine Calls.callWith_builtin (by show(false || (backTo cpos (starEach es X.env)).any (·.1))=false;rw[hplain]<;>rfl) (Calls.evalArgs_plain ?_);exact nP hA λus s2 ⟨vs,H2,I2,r2,q2⟩=>hm pins s2 σ H2 x vs v us Q I2 r1 r2 q2
end
noncomputable def MtM (X:Cx)(id:String)(r:V->List V->Hp->VK->Prop):Prop:=
 ∀(pins:bd) (s:aA) (σ:St) (H:Hp) (x:V) (xs:List V) (v:af) (us:ba) (Q:VK),Inv X pins σ H s->RelV x v->Vals xs us->r x xs H Q ->
  wpAny (model X.prog X.w) X.A (call (.builtin id) (v::us)) (EP X pins σ Q) X.xe s
def Vals.one:∀{x:V}{us:ba},Vals [x] us->∃u,us=[u]/\RelV x u
 | _,_,.cons r .nil=>⟨_,rfl,r⟩
theorem Vals.eraseIdx:∀{xs:List V}{us:ba}(i:Nat),Vals xs us->Vals (xs.eraseIdx i) (us.eraseIdx i)
 | _,_,_,.nil=>.nil
 | _,_,0,.cons _ t=>t
 | _,_,i+1,.cons r t=>.cons r (Vals.eraseIdx i t)
theorem Vals.rep(h:Vals xs us):∀k:Nat,Vals (List.replicate k xs).flatten (List.replicate k us).flatten
 | 0=>.nil
 | k+1=>by
  rw[di,di,dZ,dZ];exact Vals.append h (Vals.rep h k)
theorem CC{α:Type}:∀(l:List α) (i:Nat),(l.eraseIdx i).length<=l.length
 | [],_=>aO _
 | _::_,0=>Nat.le_succ _
 | _::r,i+1=>Nat.succ_le_succ (CC r i)
theorem foldl_rep(its:ba):∀(k:Nat) (acc:ba),
  List.foldl (λx1 x2=>x1++x2) acc.toArray (List.replicate k its.toArray)=(acc++(List.replicate k its).flatten).toArray
 | 0,acc=>by simp
 | k+1,acc=>by
  have e:acc.toArray++its.toArray=(acc++its).toArray:=by simp
  have e2:(acc++its)++(List.replicate k its).flatten=acc++(List.replicate (k+1) its).flatten:=by
   rw[di,dZ,cu]
  rw[<- e2,<- foldl_rep its k (acc++its),<- e,di,eZ]
section
variable {X:Cx}{pins:bd}{σ:St}{H:Hp}{s:aA}{l:ak}{xs ys:List V}
def Inv.Zx{its its':ba}{n:Nat}{f:Array af->Array af}{t':Nat}(I:Inv X pins σ H s)(hH:H l=some (.lst xs))
  (e:s.heap.get? l=some { cls:=.type "list",data:=.seq its.toArray n }) (hf:f its.toArray=its'.toArray) (hv:Vals ys its') (hz:ys.length<=sizeLine) :
  Inv X pins σ (upd H l (.lst ys)) { s with heap:=s.heap.update l (Obj.mapSeq f),toks:=t' }:=by
 have q:=PySem.IsL.update e f;rw[hf]at q;refine I.write (x:=l) (e:=l) (by rw[hH];exact trivial) (.inl rfl) (λb' u hb hu=>(Heap.get?_update_other s.heap (Obj.mapSeq f) (dj hb)).trans hu) ⟨_,q⟩ ?_;exact⟨hz,its',_,hv,q⟩
def Inv.Yv{its:ba}{t':Nat}(I:Inv X pins σ H s)(hv:Vals ys its)(hz:ys.length<=sizeLine) :
  Inv X pins σ (upd H s.heap.objs.size (.lst ys)) { s with heap:=s.heap.push { cls:=.type "list",data:=.seq its.toArray },toks:=t' }:=
 I.laid (λ_ _ q=>aV _ q) (aO _) ⟨hz,its,0,hv,bC _ rfl⟩
def Inv.fresh(I:Inv X pins σ H s):H s.heap.objs.size=none:=I.hok.fresh (aO _)
def Inv.Qf(I:Inv X pins σ H s)(hH:H l=some (.lst xs)):xs.length<=sizeLine/\∃(its:ba) (n:Nat),Vals xs its/\xs.length=its.length/\s.heap.get? l=some { cls:=.type "list",data:=.seq its.toArray n }:=by
 obtain⟨z,its,n,r,e⟩:=I.hok l _ hH;exact⟨z,its,n,r,r.length,e⟩
def Nr{n:Nat}(h:n<=sizeLine):Builtin.List.listTooLong n=false:=by
 unfold Builtin.List.listTooLong;exact bu ()
end
section
variable {X:Cx}
noncomputable def SS:V->List V->Hp->VK->Prop:=λx vs H Q=>∃l xs y,x=.ref l/\vs=[y]/\H l=some (.lst xs)/\xs.length<sizeLine/\Q .non (upd H l (.lst (xs++[y])))
def Cs:MtM X "list.append" SS:=by
 intro pins s σ H x vs v us Q I rx rv h;obtain⟨l,xs,y,rfl,rfl,hH,hz,q⟩:=h
 cases rx
 obtain⟨u,rfl,ru⟩:=rv.one;obtain⟨z,its,n,r,hl,e⟩:=I.Qf hH;refine i7 F.slot_list_append ⟨_,e,rfl⟩ F.entry_list_append (F.args_list_append_2 _ _) (PySem.list_append l its.toArray n u (by rw[aY];lia)) ⟨e,?_⟩;refine⟨.non,_,I.Zx (its':=its++[u]) hH e (by simp) (r.append (.cons ru .nil)) ?_,rfl,q⟩;rw[aR,bJ];lia
noncomputable def Yg:V->List V->Hp->VK->Prop:=λx vs H Q=>∃l xs i k y,x=.ref l/\vs=[.int i]/\H l=some (.lst xs)/\-(2 ^ 63)<=i/\i<2 ^ 63/\seqIndex? i xs.length=some k/\xs[k]?=some y/\Q y (upd H l (.lst (xs.eraseIdx k)))
def NJ:MtM X "list.pop" Yg:=by
 intro pins s σ H x vs v us Q I rx rv h;obtain⟨l,xs,i,k,y,rfl,rfl,hH,h1,h2,hk,hy,q⟩:=h
 cases rx
 obtain⟨u,rfl,ru⟩:=rv.one;obtain⟨t,rfl⟩:=ru;obtain⟨z,its,n,r,hl,e⟩:=I.Qf hH;obtain⟨w,hw,rw'⟩:=r.get hy;refine i7 F.slot_list_pop ⟨_,e,rfl⟩ F.entry_list_pop (F.args_list_pop_2 _ _)
  (MeetsSeq.list_pop_at l its.toArray n i t k w (fitsIndex_both h1 h2) (by rw[aY,<- hl];exact hk) (by rw[<- eW];exact hw) (by rw[aY];lia)) ⟨e,?_⟩
 refine⟨y,_,I.Zx (its':=its.eraseIdx k) hH e ?_ (r.eraseIdx k) ?_,rw',q⟩
 ·skip
  rw[iz]
 ·have:=CC xs k;lia
noncomputable def abC:R2:=λx y H Q=>∃l b xs zs,x=.ref l/\y=.ref b/\H l=some (.lst xs)/\H b=some (.lst zs)/\xs.length+zs.length<=sizeLine/\∀p,H p=none->Q (.ref p) (upd H p (.lst (xs++zs)))
def Yb:pB X (binaryOp .Add) abC:=by
 intro pins s σ H x y v u Q I rx ry h;obtain⟨l,b,xs,zs,rfl,rfl,hH,hB,hz,q⟩:=h
 cases rx
 cases ry
 obtain⟨z,its,n,r,hl,e⟩:=I.Qf hH;obtain⟨z2,its2,n2,r2,hl2,e2⟩:=I.Qf hB;refine PySem.P.add_list e e2 ?_ (by rw[aY,aY];lia);have ea:its.toArray++its2.toArray=(its++its2).toArray:=by simp
 rw[ea];exact⟨.ref _,_,I.Yv (t':=s.toks) (r.append r2) (by rw[aR];lia),rfl,q _ I.fresh⟩
noncomputable def abO:R2:=λx y H Q=>∃l k xs,x=.ref l/\y=.int k/\H l=some (.lst xs)/\-(2 ^ 63)<=k/\k<2 ^ 63/\xs.length * k.toNat<=sizeLine /\
 ∀p,H p=none->Q (.ref p) (upd H p (.lst (List.replicate k.toNat xs).flatten))
def len_rep{α:Type}(xs:List α)(k:Nat):(List.replicate k xs).flatten.length=k * xs.length:=by
 induction k with
 | zero=>simp
 | succ k ih=>rw[di,dZ,aR,ih,eB,jt]
def Xy:pB X (binaryOp .Mult) abO:=by
 intro pins s σ H x y v u Q I rx ry h;obtain⟨l,k,xs,rfl,rfl,hH,h1,h2,hz,q⟩:=h
 cases rx
 obtain⟨t,rfl⟩:=ry;obtain⟨z,its,n,r,hl,e⟩:=I.Qf hH;have hlen:its.toArray.size * k.toNat<=sizeLine:=by rw[aY,<- hl];exact hz
 have hcap:¬its.toArray.size * k.toNat>(2 ^ 63-1) / 8:=by
  have:(sizeLine:Nat)<=(2 ^ 63-1) / 8:=by decide
  lia
 have hfit:¬(!Builtin.List.listFitsIndex k)=true:=by
  rw[fitsIndex_both h1 h2];exact bH
 have hlong:¬Builtin.List.listTooLong (its.toArray.size * k.toNat)=true:=by
  rw[Nr hlen];exact bH
 have hnew:List.foldl (λx1 x2=>x1++x2) #[] (List.replicate (if its.toArray.isEmpty=true then 0 else k.toNat) its.toArray)=(List.replicate k.toNat its).flatten.toArray:=by
  have f0:∀m:Nat,List.foldl (λx1 x2=>x1++x2) #[] (List.replicate m its.toArray)=(List.replicate m its).flatten.toArray:=λm=>by
   have:=foldl_rep its m [];rw[List.nil_append]at this;exact this
  rw[f0]
  cases its with
  | nil=>simp
  | cons a r'=>rw[aK (by simp)]
 refine wpAny_binaryOp_repeat_ref (T := "list") (U := "int") ⋯ ⟨_,e,rfl⟩ (λs'=>typeIs_int s' k t) noFill_list_mul F.fills_int_mul F.slot_int_rmul repeat_list F.slot_int_index.lookup
  (i7 F.slot_int_rmul (typeIs_int s k t) F.entry_int_rmul (F.args_int_rmul_2 _ _) (int___rmul___int_list k t l its.toArray n)
   ⟨e,rfl,⟨_,e,rfl⟩,i7 F.slot_list_mul ⟨_,e,rfl⟩ F.entry_list_mul (F.args_list_mul_2 _ _) (AutoListH.list___mul___list_int_3 l its.toArray n k t hfit hcap hlong) ⟨e,?_⟩⟩)
 rw[hnew];exact⟨.ref _,_,I.Yv (t':=s.toks) (r.rep k.toNat) (by rw[len_rep,Nat.mul_comm];exact hz),rfl,q _ I.fresh⟩
end
end L2
namespace Att
open PySem PySem.W PySem.Calls PyProof.Rows
def zz{P:Params}:∀(ns:ag) (vs:ba),WellAll P h vs (ns.map WData.int)->IntsAre vs ns:=by
 intro ns
 induction ns with
 | nil=>
  intro vs w;rw[gq]at w
  cases w
  exact .nil
 | cons n ns ih=>
  intro vs w;rw[bD]at w
  cases w with
  | cons a b=>
   cases a
   exact .cons _ _ (ih _ b)
def Mi{l:OpenLaw}{n:Nat}(hn:l.most=some n){P:Params}{h:aq}
  (hpre:l.row.toRowW.claim.pre args=true) (hwl:WellAll P h vals args) :
  ∃a vs ns,vals=[Value.ref a]/\args=[WData.list (ns.map WData.int)]/\h.get? a=some { cls:=.type "list",data:=.seq vs.toArray }/\IntsAre vs ns/\ns.length<=n:=by
 have hsh:WShape.hasAll [] args [.list .int]=true:=(pre_splitW hpre).1;have hc:l.pre.holds [] { args:=args }=true:=(pre_splitW hpre).2;obtain⟨d,r,rfl,h1,h2⟩:=hasAllW_cons hsh;obtain rfl:=hasAllW_nil h2;obtain⟨xs,rfl,h3⟩:=hasW_list h1;obtain⟨ns,rfl⟩:=items_int h3;have hlen:ns.length<=n:=by
  unfold OpenLaw.pre at hc;have h4:(WTm.not (.lt (.lit (.int (n:Int))) (.len (.arg 0)))).holds [] { args:=[.list (ns.map .int)]}=true:=by
   have h4:=(holds_andW hc).1;rw[hn]at h4;exact h4
  have h5:=condW_of h4 (w_not (w_lt w_lit (w_len_list (w_arg rfl))));rw[aH]at h5;refine iF λq=>?_;have q':(n:Int)<((ns.length:Nat):Int):=()
  first
   | (rw[bf q']at h5;exact absurd h5 ⋯)
   | (simp at h5;lia)
 cases hwl with
 | cons w1 w2=>
  cases w2
  cases w1 with
  | list ho hall=>exact⟨_,_,ns,rfl,rfl,ho,zz ns _ hall,hlen⟩
def LC(l:OpenLaw)(args:List WData):l.row.toRowW.claim.post args (.bool true) args=true:=
 postW_of (r:=l.row.toRowW) (X:=(true == true))
  (show WShape.has [] (.bool true) .bool=true by first|rfl|decide|simp[WShape.has,WShape.arms,WShape.armsAll])
  (show(WTm.eq .res (.lit (.bool true))).value [] { args:=args,res:=some (.bool true),after:=args }=some (.bool (true == true))from w_eq_bool (w_res rfl) w_lit) rfl
def GC{l:OpenLaw}{n:Nat}{q:aj}{XP:(Str->Option af)->aq->Prop}{YP:ah->aq->Prop}{d:DefRec}
  (hn:l.most=some n) (hdf:d.params.defaults=[])
  (call:∀(w:ah) (s₀ s₁:aA) (mg mb:Str->Option af) (fa:ak) (o:Obj) (pm cd doc:af) (a:ak) (vs:ba) (ns:ag),
   Ground q loose [] XP w s₀ mg mb s₁.heap->YP w s₁.heap ->
   s₁.heap.get? fa=some o->o.data=.func (docDef d.name d.params d.body d.scope pm cd doc)->s₁.heap.CodeRec cd d.name->mg d.name=some (.ref fa) ->
   s₁.heap.get? a=some { cls:=.type "list",data:=.seq vs.toArray }->IntsAre vs ns->ns.length<=n->s₁.gens=#[] ->
   codeAny (model l.prog w) callerA (.call (.ref fa) ⟨[.ref a],[]⟩) (λr s'=>r=.ok (.ret (.bool true))/\OldK s₁.heap s'.heap/\s'.os=s₁.os/\AllBare s'.gens) s₁) :
  WalkO q loose XP YP l.row.toRowW d [] (λf vs=>PySem.call f vs):=by
 intro w s₀ s₁ mg mb G Y fa o pm cd doc dV kV ho hd hcd hD hmg hg args vals as hpre hlay hrd hwl hlo;obtain rfl:dV=.none:=Dflts.none hD hdf;obtain rfl:kV=.none:=Dflts.noKw hD;obtain⟨a,vs,ns,rfl,rfl,hobj,hints,hlen⟩:=Mi hn hpre hwl;refine enter_call (iV (call w s₀ s₁ mg mb fa o pm cd doc a vs ns G Y ho (fd_plain hd) hcd hmg hobj hints hlen hg) λr s' hq=>?_);obtain⟨rfl,h2,h3,h4⟩:=hq;exact⟨.inl ⟨.bool true,.bool true,[],rfl,λ_=>rfl,.bool true,LC l _,λ_=>⟨List.Pairwise.nil,λ_ hm=>(nomatch hm)⟩⟩,h2,h3,h4⟩
end Att
namespace L2
open PySem PySem.Spec PyProof.Rows
theorem vn:∀{vs:ba}{ns:ag},IntsAre vs ns->Vals (ns.map V.int) vs
 | _,_,.nil=>.nil
 | _,_,.cons n t h=>.cons ⟨t,rfl⟩ (vn h)
noncomputable def Sw (H:Hp):Prop:=∀b,H b=none\/∃o xs,H b=some (.frz o (.lst xs))
def QK{P:aj}{w:ah}{K:au}{mg mb:Str->Option af}{CX:RN}{k:Nat}{fa a:ak}{x:Str}{sp:Sp}{s₁:aA}{vs:ba}{ns:ag}
  (KX:K.In s₁.heap) (hns:s₁.heap.Ns mainGlobals mg) (hb:s₁.heap.Ns builtinsNs mb) (hbb:∀x:Str,x ≠ "__name__" -> mb x=bootBuiltins x) (hlim:s₁.heap.NoLimit) (hg:s₁.gens=#[])
  (ha:s₁.heap.get? a=some { cls:=.type "list",data:=.seq vs.toArray }) (hi:IntsAre vs ns) (hl:ns.length<=sizeLine) (hr:Room k callerA)
  (F:∀base:aq,K.In base->base.Ns mainGlobals mg->FnOk P w K mg base CX k fa fd [x] sp) (hbind:∀(s:aA) (u:af),BindsTo s fd ⟨[u],[]⟩ [(x,u)])
  (hsp:∀H:Hp,Sw H->pL K H a (ns.map V.int)->sp [.ref a] H (λv _=>v=.bl true) λ_ _ _=>False)
  (hCX:∀H e s',CX [] H s₁ (λ_ _ _=>False) e s'->False) :
  codeAny (model P w) callerA (.call (.ref fa) ⟨[.ref a],[]⟩) (λr s'=>r=.ok (.ret (.bool true))/\OldK s₁.heap s'.heap/\s'.os=s₁.os/\AllBare s'.gens) s₁:=by
 have rv:=vn hi;have lenV:=hi.length;have core:∀H:Hp,Sw H->pL K H a (ns.map V.int)->xq P w H s₁.heap->(∀b,H b≠none->b=a)->(H a≠none->K.lookup a=none) ->
   codeAny (model P w) callerA (.call (.ref fa) ⟨[.ref a],[]⟩) (λr s'=>r=.ok (.ret (.bool true))/\OldK s₁.heap s'.heap/\s'.os=s₁.os/\AllBare s'.gens) s₁:=by
  intro H hO hS hok hA hK;have base_of:∀{b:ak} {o:Obj},s₁.heap.get? b=some o->H b=none->(DM s₁.heap H).get? b=some o:=λe n=>Q0 e n;have noA:∀{b:ak} {o:Obj} {es:Array DictEntry} {ep:Nat},s₁.heap.get? b=some o->o.data=.dict es ep->H b=none:=λ{b o es ep} e d=>by
   cases q:H b with
   | none=>rfl
   | some u=>
    have e':b=a:=hA b (by rw[q];simp);subst e';rw[ha]at e;cases e;have d':Data.seq vs.toArray _=Data.dict es ep:=d
    cases d'
  have nsK:∀{b:ak} {m:Str->Option af},s₁.heap.Ns b m->(DM s₁.heap H).Ns b m:=λ{b m} ⟨o,es,ep,e,d,r⟩=>⟨o,es,ep,base_of e (noA e d),d,r⟩;have hKb:K.In (DM s₁.heap H):=λb o e=>base_of (KX b o e) (by
   cases q:H b with
   | none=>rfl
   | some u=>
    have e':b=a:=hA b (by rw[q];simp);subst e';rw[hK (by rw[q];simp)]at e;cases e)
  have hM:Mod K mg (DM s₁.heap H):=⟨hKb,nsK hns,⟨mb,nsK hb,hbb⟩,let⟨mc,h1,h2⟩:=hlim;⟨mc,nsK h1,h2⟩⟩;have e0:Env0 P w K mg (DM s₁.heap H) callerA [] s₁ H:=⟨rfl,hM,λb o e=>SI e,Nat.le_of_eq (Ms _ _),trivial,λb hb=>absurd (show b∈([]:bb)from hb) (by simp),hok,.of_eq hg⟩;refine iV ((F _ hKb (nsK hns)).run callerA [] s₁ H ⟨[.ref a],[]⟩ [.ref a] [.ref a] _ _ hr e0 (hbind s₁ (.ref a)) (.cons rfl .nil) (hsp H hO hS)) λr s' h=>?_
  cases r with
  | error e=>exact(hCX H e s' h).elim
  | ok fl=>
   cases fl with
   | next=>exact False.elim h
   | brk=>exact False.elim h
   | cont=>exact False.elim h
   | ret u=>
    obtain⟨v,H',os,bare,un,hok',r',q⟩:=h;have q':v=.bl true:=q;subst q';obtain rfl:u=Value.bool true:=r';refine⟨rfl,OldK.of_keep λb o e=>?_,os,bare⟩
    cases q:H b with
    | none=>exact un.keep b o e q (by intro z;exact absurd (show b∈([]:bb)from z) (by simp)) (by simp)
    | some u=>
     rcases hO b with z|⟨ob,xs,z⟩
     ·rw[q]at z;cases z
     ·have z2:=un.frzs b ob _ z;obtain⟨e1,_⟩:=hok b _ z;obtain⟨e2,_⟩:=hok' b _ z2;rw[e]at e1;cases e1;exact e2
 cases hk:K.lookup a with
 | some o=>
  have e:=KX a o hk;rw[ha]at e
  cases e
  refine core (λ_=>none) (λ_=>.inl rfl) (.inr ⟨_,vs.toArray,_,hk,rfl,rfl,rfl,by rw[aY,lenV];exact hl,by simpa using rv⟩) (λb u z=>by have z':(none:Option HO)=some u:=z;cases z') (λb z=>absurd rfl z) λz=>absurd rfl z
 | none=>
  refine core (λb=>if b=a then some (.frz { cls:=.type "list",data:=.seq vs.toArray } (.lst (ns.map V.int)))else none) (λb=>?_) (.inl (.inr ⟨{ cls:=.type "list",data:=.seq vs.toArray },aM rfl⟩)) (λb u z=>?_) (λb z=>?_) λ_=>hk
  ·by_cases hb:b=a
   ·exact .inr ⟨_,_,aM hb⟩
   ·exact .inl (aK hb)
  ·by_cases hb:b=a
   ·have z':=(aM hb).symm.trans z
    cases z'
    subst hb;exact⟨ha,by rw[aH];exact hl,vs,_,rv,ha⟩
   ·have z':=(aK hb).symm.trans z
    cases z'
  ·by_cases hb:b=a
   ·exact hb
   ·exact absurd (aK hb) z
def TR{l:PySem.W.OpenLaw}{n k:Nat}{q:aj}{XP:(Str->Option af)->aq->Prop}{YP:ah->aq->Prop}{d:DefRec}{K:Params->au}{CX:ah->RN}{sp:ah->Sp}{x:Str}
  (hn:l.most=some n) (hn2:n<=sizeLine) (hdf:d.params.defaults=[]) (hr:Room k callerA)
  (hY:∀(w:ah) (h:aq),YP w h->(K w.params).In h)
  (F:∀(w:ah) (mg:Str->Option af) (fa:ak) (h:aq),(K w.params).In h->h.Ns mainGlobals mg->mg d.name=some (.ref fa) ->
   ∃fd:FuncData,(∀(s:aA) (u:af),BindsTo s fd ⟨[u],[]⟩ [(x,u)]) /\
    ∀base:aq,(K w.params).In base->base.Ns mainGlobals mg->FnOk l.prog w (K w.params) mg base (CX w) k fa fd [x] (sp w))
  (hsp:∀(w:ah) (H:Hp) (a:ak) (ns:ag),ns.length<=n->Sw H->pL (K w.params) H a (ns.map V.int)->sp w [.ref a] H (λv _=>v=.bl true) λ_ _ _=>False)
  (hCX:∀(w:ah) (H:Hp) (s:aA) (e:af) (s':aA),CX w [] H s (λ_ _ _=>False) e s'->False) :
  PySem.W.WalkO q loose XP YP l.row.toRowW d [] (λf vs=>PySem.call f vs):=by
 refine Att.GC hn hdf λw s₀ s₁ mg mb fa o pm cd doc a vs ns G Y ho hd hcd hmg hobj hints hlen hg=>?_;have KX:=hY w _ Y;obtain⟨fd,hb,hF⟩:=F w mg fa _ KX G.T.g hmg;exact QK KX G.T.g G.T.b G.T.builtins G.T.nolimit hg hobj hints (bI hlen hn2) hr hF hb (λH hO hS=>hsp w H a ns hlen hO hS) λH e s'=>hCX w H s₁ e s'
noncomputable def vp (s:aE):Arguments:=match s with
 | .FunctionDef _ a _ _ _ _ _ _ _ _=>a
 | _=>{ posonlyargs:=[],args:=[],vararg:=none,kwonlyargs:=[],kw_defaults:=[],kwarg:=none,defaults:=[]}
noncomputable def qS (s:aE):List aE:=match s with
 | .FunctionDef _ _ b _ _ _ _ _ _ _=>b
 | _=>[]
noncomputable def jS (s:aE):Scope:=match s with
 | .FunctionDef _ _ _ _ _ _ sc _ _ _=>sc
 | _=>{ kind:=.function,names:=[],isGenerator:=false,isCoroutine:=false }
noncomputable abbrev pY:RN:=λ_ _ _ _ _ _=>False
noncomputable abbrev E0:XK:=λ_ _ _=>False
def aah{X:Cx}:Passes pY X E0:=λ_ _ _ _ _ _ _ h=>h.elim
structure Fun (K:au)(x qual:Str)(st:aE)(f:ak)(fd:FuncData):Prop where
 ex:∃(oc:af) (od:Option ak) (kV doc pm:af) (an:Option ak) (cdv ct:af) (osl:Array (Option af)),
  fd=PySem.W.fnOf x qual (vp st) (qS st) (jS st) .none kV doc pm an cdv ct/\K.lookup f=some ⟨oc,od,.func fd,osl⟩/\PySem.W.codeIn K cdv qual=true
 kp:PySem.W.keepIn K (.ref f)=true
section
variable {P:aj}{w:ah}{K:au}{mg:Str->Option af}{base:aq}
def Fun.ok{x:Str}{st:aE}{f:ak}{N ps:ar}{k:Nat}{sp:Sp}(F:Fun K x qual st f fd)(S:FnScope N ps (jS st))(len:∀vs H Q E,sp vs H Q E->vs.length=ps.length)
  (hbody:∀(cdv:af) (A:az) (outer:List Env) (s:aA) (H:Hp) (vs:List V) (Q:VK) (E:XK),Room k (A.deeper (envOfC qual (jS st) s.heap.objs.size f cdv))->sp vs H Q E ->
   ∃t,Dh (Ij pY P w K mg base N qual (jS st) f cdv A outer s H E).nox (qS st) t/\t { nx:=λ_ H'=>Q .non H',rt:=Q } (start N vs) H):FnOk P w K mg base pY (k+1) f fd ps sp:=by
 obtain⟨oc,od,kV,doc,pm,an,cdv,ct,osl,rfl,lk,hcd⟩:=F.ex;refine ZG lk hcd S len λA outer s H vs Q E hr hsp=>?_;obtain⟨t,h,q⟩:=hbody cdv A outer s H vs Q E hr hsp;exact⟨t,h.nox,q⟩
def Fun.binds{x:Str}{st:aE}{f:ak}{ps:ar}(F:Fun K x qual st f fd)
  (h:∀(kV doc pm:af) (an:Option ak) (cdv ct:af) (us:ba),us.length=ps.length->bindArgs (PySem.W.fnOf x qual (vp st) (qS st) (jS st) .none kV doc pm an cdv ct) ⟨us,[]⟩=pure (ps.zip us)):Binds K fd ps []:=by
 obtain⟨oc,od,kV,doc,pm,an,cdv,ct,osl,rfl,lk,hcd⟩:=F.ex;exact .all (h kV doc pm an cdv ct)
def WZ{x:Str}{st:aE}{f:ak}{kV pm ct:af}(l:K.lookup f=some ⟨oc,od,.func (PySem.W.fnOf x qual (vp st) (qS st) (jS st) .none kV doc pm an cdv ct),osl⟩)
  (c:PySem.W.codeIn K cdv qual=true) (k:PySem.W.keepIn K (.ref f)=true):Fun K x qual st f (PySem.W.fnOf x qual (vp st) (qS st) (jS st) .none kV doc pm an cdv ct):=⟨⟨oc,od,kV,doc,pm,an,cdv,ct,osl,rfl,l,c⟩,k⟩
end
section
variable {X:Cx}
def pv(i:Nat){x:Str}(hN:X.N[i]?=some x:=by rfl)(hv:Zq X.env.scope x:=by first|exact Or.inl rfl|exact Or.inr (Or.inl rfl)|exact Or.inr (Or.inr rfl))(hd:(x == ("__debug__" : Str))=false:=by decide)
  (hcd:(x == ("__classdict__" : Str))=false:=by decide):PE X (.Name x pos) (Zy i):=Qo hN hv hd hcd
end
set_option maxHeartbeats 4000000
noncomputable def WQ (σ:St):Option Nat->Option V
 | some j=>(σ[j]?).getD none
 | none=>none
noncomputable def A2 (env:Env):List (Str×NameKind)->List (Str×ak)->List (Str×ak)
 | [],cs=>cs
 | (n,k)::r,cs=>A2 env r (if k == .free then(n,(env.cells.lookup n).getD 0)::cs else cs)
def Ht{scope:Scope}{env:Env}(h:∀y∈scope.names,y.2=.free->∃c,env.cells.lookup y.1=some c):closureFor scope env=pure (A2 env scope.names []):=by
 have key:∀(l:List (Str×NameKind)) (cs:List (Str×ak)),(∀y∈l,y.2=.free->∃c,env.cells.lookup y.1=some c) ->
   (forIn l cs (λ(x:Str×NameKind) (r:List (Str×ak))=>(match x with
    | (name,kind)=>if (kind == NameKind.free)=true then(do let c <- cellOf env name;pure (ForInStep.yield ((name,c)::r)))else pure (ForInStep.yield r):Sem (ForInStep (List (Str×ak))))))=(pure (A2 env l cs):Sem (List (Str×ak))):=by
  intro l
  induction l with
  | nil=>intro cs _;rfl
  | cons y r ih=>
   intro cs hl;obtain⟨n,k⟩:=y;rw[gI];by_cases hk:k=.free
   ·subst hk;obtain⟨c,hc⟩:=hl (n,.free) aJ rfl;have e1:cellOf env n=pure c:=by
     unfold cellOf;rw[hc]
    dsimp[bP,cJ,e1,pure_bind];rw[ih _ (λz hz=>hl z (aL _ hz))];dsimp[A2,bP,cJ,hc,dQ]
   ·have hb:(k == NameKind.free)=false:=by simpa using hk
    dsimp[hb,bB,b9,pure_bind];rw[ih _ (λz hz=>hl z (aL _ hz))];dsimp[A2,hb,bB,b9]
 have:=key scope.names [] h;exact(dB (λz=>z >>= λcs=>(pure cs:Sem (List (Str×ak)))) this).trans (pure_bind _ _)
theorem Bv:∀{l:List (Str×NameKind)}{x:Str}{k:NameKind},l.lookup x=some k->(x,k)∈l
 | [],_,_,h=>nomatch h
 | (n,k')::r,x,k,h=>by
  rw[gr]at h
  cases hx:x == n with
  | true=>
   rw[hx]at h;have e:x=n:=by simpa using hx
   subst e
   cases h
   exact aJ
  | false=>rw[hx]at h;exact aL _ (Bv h)
theorem CT{env:Env}{x:Str}{c:ak}:∀{l:List (Str×NameKind)}{cs:List (Str×ak)},(∀y∈l,y.2=.free->∃c,env.cells.lookup y.1=some c)->(A2 env l cs).lookup x=some c->env.cells.lookup x=some c\/cs.lookup x=some c
 | [],cs,_,h=>.inr h
 | (n,k)::r,cs,hl,h=>by
  have h':=CT (l:=r) (λz hz=>hl z (aL _ hz)) h
  rcases h' with h'|h'
  ·exact .inl h'
  ·by_cases hk:k=.free
   ·subst hk;dsimp[bP,cJ]at h';obtain⟨c',hc⟩:=hl (n,.free) aJ rfl;rw[hc,dQ,gr]at h'
    cases hx:x == n with
    | true=>
     rw[hx]at h';have e:x=n:=by simpa using hx
     subst e;left;rw[hc];exact h'
    | false=>rw[hx]at h';exact .inr h'
   ·have hb:(k == NameKind.free)=false:=by simpa using hk
    dsimp[hb,bB,b9]at h';exact .inr h'
theorem C6{env:Env}{x:Str}:∀{l:List (Str×NameKind)}{cs:List (Str×ak)},(cs.lookup x).isSome=true->((A2 env l cs).lookup x).isSome=true
 | [],cs,h=>h
 | (n,k)::r,cs,h=>by
  skip
  refine C6 (l:=r) ?_;by_cases hk:(k == NameKind.free)=true
  ·rw[aM hk,gr]
   cases hx:x == n with
   | true=>rfl
   | false=>exact h
  ·rw[aK hk];exact h
theorem Bw{env:Env}{x:Str}:∀{l:List (Str×NameKind)}{cs:List (Str×ak)},(x,NameKind.free)∈l->((A2 env l cs).lookup x).isSome=true
 | [],_,h=>nomatch h
 | (n,k)::r,cs,h=>by
  rcases bw.mp h with e|h
  ·cases e
   skip
   refine C6 (l:=r) ?_;rw[aM (by rfl),gr];simp
  ·exact Bw (l:=r) h
noncomputable def qM (X:Cx)(scope:Scope)(N:ar)(C:ak)(s₀:aA)(H₀:Hp)(ex:bb):Cx where
 prog:=X.prog
 w:=X.w
 K:=X.K
 mg:=X.mg
 base:=X.base
 A:=X.A
 N:=N
 s₀:=s₀
 H₀:=H₀
 env:=compEnvC scope (A2 X.env scope.names []) C X.env
 outer:=X.stack
 stack:=X.stack
 ex:=ex
 fn:=λ_=>false
 calm:=X.calm
 pn:=[]
 xe:=λ_ _=>False
structure CpScope (X:Cx)(scope:Scope)(N:ar)(cap:List (Option Nat)):Prop where
 kind:scope.kind=.function
 nocell:∀y∈scope.names,y.2≠.cell
 nm:∀y∈scope.names,y.2=.local->scope.names.lookup y.1=some .local
 fr:∀y∈scope.names,y.2=.free->X.env.kindOf y.1=some .cell\/X.env.kindOf y.1=some .free
 rl:∀y,((relabel scope X.env).names.lookup y=some .cell\/(relabel scope X.env).names.lookup y=some .free)->(y,NameKind.free)∈scope.names
 len:cap.length=N.length
 nolf:∀x,(x,NameKind.free)∈scope.names->scope.names.lookup x≠some .local
 cp:∀(i j:Nat) (x:Str),N[i]?=some x->cap[i]?=some (some j)->X.N[j]?=some x/\(x,NameKind.free)∈scope.names
def YC{X:Cx}{N:ar}{cap:List (Option Nat)}{H:Hp}{s:aA}{fp:bb}{h₁:aq}{m:Str->Option af}{tk:Nat}(S:CpScope X scope N cap)(I:Inv X pins σ H s)
  (hf:∀b∈fp,yD X pins H b) (ho:∀b∈fp,∃o,s.heap.get? b=some o) (hn:h₁.Ns s.heap.objs.size m) (hk:∀b o,s.heap.get? b=some o->h₁.get? b=some o) :
  Inv (qM X scope N s.heap.objs.size s H fp) [] (cap.map (WQ σ)) H { s with heap:=h₁,toks:=tk }:=by
 have hfree:∀y∈scope.names,y.2=.free->∃c,X.env.cells.lookup y.1=some c:=λy hy e=>I.ok.has _ (S.fr y hy e);have lk:∀x c,(A2 X.env scope.names []).lookup x=some c->X.env.cells.lookup x=some c:=λx c e=>by
  rcases CT hfree e with z|z
  ·exact z
  ·cases z
 have lt:∀b o,s.heap.get? b=some o->b≠s.heap.objs.size:=λb o e=>bF (bh e);refine⟨⟨I.ok.mod,?_,I.ok.glob,I.ok.blt,aO _,?_,?_,?_,I.ok.hd,I.ok.frames,.inl rfl,?_,I.bs,bI I.ok.bsz I.sz,?_,?_,I.stack,I.Kh⟩,rfl,I.bare,Un.kept hk,?_,?_,I.hok.fresh (aO _),?_,?_,I.hok.kept hk,?_⟩
 ·exact S.kind
 ·intro x y c e1 e2;exact I.ok.inj x y c (lk x c e1) (lk y c e2)
 ·intro x e;have hm:=S.rl x e;have:=Bw (env:=X.env) (cs:=[]) hm;exact fC.mp this
 ·intro x c e _;exact absurd e (by simp[qM])
 ·intro b hb;obtain⟨o,e⟩:=ho b hb;refine⟨lt b o e,λx c e2=>(hf b hb).2.2.2.2.1 x c (lk x c e2)⟩
 ·intro b o e hb;obtain⟨_,_,_,h3,_⟩:=hf b hb
  rcases h3 with z|z
  ·exact I.ok.noex b o e z
  ·exact absurd (bU (bh (I.ok.bs b o e).1) z) (fY _)
 ·intro b hb hz;obtain⟨_,h1,h2,_⟩:=hf b hb
  rcases bw.mp (I.HH b hz)with z|z
  ·exact h1 z
  ·exact h2 z
 ·refine⟨m,hn,λi x v e1 e2 e3=>?_⟩;rw[aQ]at e2
  cases hc:cap[i]? with
  | none=>rw[hc]at e2;cases e2
  | some oj=>
   rw[hc]at e2
   cases oj with
   | none=>cases e2
   | some j=>
    have e2':(σ[j]?).getD none=some v:=a_ e2;obtain⟨hj,hm⟩:=S.cp i j x e1 hc;obtain⟨m0,hn0,hl0⟩:=I.loc;have hσ:σ[j]?=some (some v):=by
     cases h:σ[j]? with
     | none=>rw[h]at e2';cases e2'
     | some z=>rw[h,dQ]at e2';rw[e2']
    have hkd:=S.fr (x,.free) hm rfl;have hv:Zq X.env.scope x:=.inr hkd;obtain⟨u,ru,lo⟩:=hl0 j x v hj hσ hv;refine⟨u,ru,?_⟩
    rcases lo with⟨lo,_⟩|⟨_,c,ec,ic⟩
    ·rcases hkd with z|z<;>(rw[z]at lo;cases lo)
    ·have h2:=Bw (env:=X.env) (cs:=[]) hm;obtain⟨c',hc'⟩:=fC.mp h2;have:c'=c:=a_ ((lk x c' hc').symm.trans ec);subst this;refine .inr ⟨?_,c',hc',?_⟩
     ·rcases e3 with z|z|z
      ·exfalso;have:(relabel scope X.env).names.lookup x=some .local:=z;have hloc:scope.names.lookup x=some .local:=by
        have hmem:∃k,(x,k)∈(relabel scope X.env).names/\k=.local:=by
         clear hc' h2;have:=Bv this;exact⟨_,this,rfl⟩
        obtain⟨k,hk1,rfl⟩:=hmem;obtain⟨⟨n',k'⟩,hm1,hm2⟩:=bA.mp hk1;dsimp only at hm2;split at hm2
        ·cases hm2
        ·cases hm2
         exact S.nm (x,.local) hm1 rfl
       exact False.elim (S.nolf x hm hloc)
      ·exact .inl z
      ·exact .inr z
     ·obtain⟨o,ho',hd⟩:=ic;exact⟨o,hk _ _ ho',hd⟩
 ·intro x c e;obtain⟨v,o,ho',hd⟩:=I.cell x c (lk x c e);exact⟨v,o,hk _ _ ho',hd⟩
 ·intro x c e;exact I.freeC x c (lk x c e)
 ·intro p hp
  cases hp
 ·rw[aH,S.len];rfl
noncomputable def YX (X:Cx)(ifs:List aC)(t:TT):Prop:=
 ∀(pins:bd) (s:aA) (σ:St) (H:Hp) (Q:Bool->Hp->Prop),Inv X pins σ H s->t σ H Q ->
  wpAny (model X.prog X.w) X.A (forIn ifs true λc r=>if r=true then do let ok <- isTrue c X.env (eval c X.env);pure (ForInStep.yield ok)else pure (ForInStep.yield r)) (TP X pins σ Q) X.xe s
noncomputable def abN:TT:=λ_ H Q=>Q true H
def Ue{X:Cx}:YX X [] abN:=λ_ _ _ H _ I h=>wpAny_tests_nil ⟨H,I,h⟩
def Ug{X:Cx}{c:aC}{t:TT}(h:PT X c t):YX X [c] t:=λpins s σ H Q I q=>wpAny_tests_one (h pins s σ H Q I q)
noncomputable def WX (cap:List (Option Nat))(g:TG)(tc:TT)(te:TE)(σ:St)(Q:VK)(J:It)(H1:Hp):Prop:=∀D,H1 D=none ->
 ∃W:Nat->Nat->St->Hp->Prop,(∃m,W 0 m (cap.map (WQ σ)) (upd H1 D (.lst [])))/\∀i m σ' H',W i m σ' H' ->
  (J.stop i H'/\Q (.ref D) H')\/(J.go i H'/\∀x H2,J.yld i H' x H2->g x σ' H2 λσ3 H3=>tc σ3 H3 λb H4=>
   if b=true then te σ3 H4 λy H5=>∃ys,H5 D=some (.lst ys)/\ys.length<sizeLine/\∃m',m'<m/\W (i+1) m' σ3 (upd H5 D (.lst (ys++[y])))
   else ∃m',m'<m/\W (i+1) m' σ3 H4)
noncomputable def tLC (cap:List (Option Nat))(wi:TI)(g:TG)(tc:TT)(te:TE):TE:=λσ H Q=>wi σ H (WX cap g tc te σ Q)
def Tw{α:Type}{t:Sem α}{Q Q':α->aA->Prop}{A:az}{E:af->aA->Prop}(h:wpAny M A t Q (λ_ _=>False) s)(hQ:∀a s,Q a s->Q' a s):wpAny M A t Q' E s:=
 iX h hQ λ_ _ f=>f.elim
structure TurnG (ok:Cx->Prop)(P:aj)(w:ah)(K:au)(tg:aC)(J:It)(fp:bb)(it:ak)(tn:Nat->aq->Prop):Prop where
 obj:∀i h,tn i h->∀b∈fp,∃o,h.get? b=some o/\∀v,o.data≠.cell v
 keep:∀i h h',tn i h->(∀b∈fp,∀o,h.get? b=some o->h'.get? b=some o)->tn i h'
 item:∀(X:Cx),X.prog=P->X.w=w->X.K=K->ok X->∀(i:Nat) (pins:bd) (s:aA) (σ:St) (H:Hp) (E:af->aA->Prop),Inv X pins σ H s->(∀b∈fp,yD X pins H b)->tn i s.heap->J.go i H ->
  wpAny (model P w) X.A (pyNext (.ref it)) (λr s1=>∃u,r=some u /\
   wpAny (model P w) X.A (letOwnedTupleGo tg (.ref it) u) (λ_ s2=>∃x H',Inv X pins σ H' s2/\RelV x u/\J.yld i H x H'/\tn (i+1) s2.heap/\∀b∈fp,H' b=none) E s1) E s
 done:∀(X:Cx),X.prog=P->X.w=w->X.K=K->ok X->∀(i:Nat) (pins:bd) (s:aA) (σ:St) (H:Hp) (E:af->aA->Prop),Inv X pins σ H s->(∀b∈fp,yD X pins H b)->tn i s.heap->J.stop i H ->
  wpAny (model P w) X.A (pyNext (.ref it)) (λr s1=>r=none/\Inv X pins σ H s1) E s
 self:∀(A:az) (i:Nat) (s:aA) (Q:af->aA->Prop) (E:af->aA->Prop),tn i s.heap->Q (.ref it) s->wpAny (model P w) A (pyIter (.ref it)) Q E s
noncomputable def ab6 (ok:Cx->Prop)(X:Cx)(pins:bd)(σ:St)(tg:aC)(R:It->Hp->Prop)(itv:af)(s2:aA):Prop:=
 ∃(it:ak) (fp:bb) (tn:Nat->aq->Prop) (J:It) (H':Hp),itv=.ref it/\Inv X pins σ H' s2/\TurnG ok X.prog X.w X.K tg J fp it tn/\tn 0 s2.heap/\(∀b∈fp,yD X pins H' b)/\R J H'
noncomputable def PIg (ok:Cx->Prop)(X:Cx)(tg iter:aC)(wi:TI):Prop:=
 ∀(pins:bd) (s:aA) (σ:St) (H:Hp) (R:It->Hp->Prop),Inv X pins σ H s->wi σ H R ->
  wpAny (model X.prog X.w) X.A (eval iter X.env) (λv s1=>wpAny (model X.prog X.w) X.A (pyIter v) (ab6 ok X pins σ tg R) X.xe s1) X.xe s
def PI.g{X:Cx}{iter:aC}{wi:TI}(h:PI X tg iter wi):PIg (λY=>Y.calm=true) X tg iter wi:=λpins s σ H R I q=>
 nP (h pins s σ H R I q) λv s1 h1=>nP h1 λitv s2 ⟨it,fp,tn,J,H',e,I',T,a,b,c⟩=>⟨it,fp,tn,J,H',e,I',⟨T.obj,T.keep,T.item,T.done,T.self⟩,a,b,c⟩
def To{ok:Cx->Prop}{X:Cx}{use:Option (af->Sem Unit)}{Q':af->aA->Prop}{iter:aC}{N:ar}{wi:TI}{g:TG}{tc:TT}{te:TE}(S:CpScope X scope N cap)(hok:∀C s₀ H₀ ex,(∀a o u,X.H₀ a=some (.frz o u)->H₀ a=some (.frz o u))->ok (qM X scope N C s₀ H₀ ex))(hi:PIg ok X tg iter wi)
  (hg:∀C s₀ H₀ ex,PG (qM X scope N C s₀ H₀ ex) tg g) (ht:∀C s₀ H₀ ex,YX (qM X scope N C s₀ H₀ ex) ifs tc) (he:∀C s₀ H₀ ex,PE (qM X scope N C s₀ H₀ ex) elt te)
  (hs:∀x,foldedSetIterable iter X.env x=pure x:=by intro _;rfl):∀(pins:bd) (s:aA) (σ:St) (H:Hp) (Q:VK),Inv X pins σ H s->tLC cap wi g tc te σ H Q ->
  (∀(s6:aA) (C D:ak) (H5:Hp) (m:Str->Option af),s6.heap.Ns C m->yD X pins H5 C->(∀h',Heap.SameBut C s6.heap h'->Inv X pins σ H5 { s6 with heap:=h' })->Q (.ref D) H5->∀v,compPost (model X.prog X.w) X.A X.xe use Q' (.ref D) C (.ok v) s6) ->
  wpAny (model X.prog X.w) X.A (comprehension (.ListComp elt [⟨tg,iter,ifs,0⟩] scope pos) scope X.env (firstIterPos [⟨tg,iter,ifs,0⟩] pos) (newList []) (firstAsync [⟨tg,iter,ifs,0⟩]) (firstIter [⟨tg,iter,ifs,0⟩] X.env) use) Q' X.xe s:=by
 intro pins s σ H Q I h hfin;have hfree:∀y∈scope.names,y.2=.free->∃c,X.env.cells.lookup y.1=some c:=λy hy e=>I.ok.has _ (S.fr y hy e);refine wpAny_comprehension_free (use:=use) rfl hs (Ht hfree) S.kind S.nm (nP (hi pins s σ H _ I h) λxv s1 h1=>nP h1 λitv s2 h2=>?_);obtain⟨it,fp,tn,J,H2,rfl,I2,T,st2,f2,h2⟩:=h2;refine ck (wpAny_newFunctionEnv S.nocell (by intro y hy;simp at hy) (λh₁ hns₁ hsb₁=>?_) S.kind);obtain⟨W,⟨m0,w0⟩,turn⟩:=h2 s2.heap.objs.size I2.fresh;dsimp only at hns₁ hsb₁ ⊢;have I3:Inv X pins σ (upd H2 s2.heap.objs.size (.lst [])) { s2 with heap:=s2.heap.push {}}:=I2.Yv (t':=s2.toks) (its:=[]) .nil (bL _);have hfp:∀b∈fp,∃o,s2.heap.get? b=some o:=λb hb=>by
  obtain⟨o,e,_⟩:=T.obj 0 _ st2 b hb;exact⟨o,e⟩
 have neD:∀b∈fp,b≠s2.heap.objs.size:=λb hb=>by
  obtain⟨o,e⟩:=hfp b hb;exact bF (bh e)
 have f3:∀b∈fp,yD X pins (upd H2 s2.heap.objs.size (.lst [])) b:=λb hb=>⟨by rw[jU (neD b hb)];exact(f2 b hb).1,(f2 b hb).2⟩;have hDC:s2.heap.objs.size≠(s2.heap.push {}).objs.size:=by rw[eL];exact bF (fP _)
 have old:∀b o,(s2.heap.push {}).get? b=some o->h₁.get? b=some o:=λb o e=>hsb₁.extBut b o (bF (bh e)) (aV _ e);have I4:=YC (tk:=s2.toks+([]:List (Str×af)).length) (fp:=fp) S I3 f3 (λb hb=>by
  obtain⟨o,e⟩:=hfp b hb;exact⟨o,aV _ e⟩) hns₁ old
 have st4:tn 0 h₁:=T.keep _ _ _ st2 λb hb o e=>old b o (aV _ e);have hc:=hok (s2.heap.push {}).objs.size { s2 with heap:=s2.heap.push {}} (upd H2 s2.heap.objs.size (.lst [])) fp λa o u e=>by
  have z:=I2.base.frzs a o u e;rw[jU (λq=>by rw[q,I2.fresh]at z;cases z)];exact z
 have stat:∀{H':Hp},(∀b∈fp,H' b=none)->∀b∈fp,yD (qM X scope N (s2.heap.push {}).objs.size { s2 with heap:=s2.heap.push {}} (upd H2 s2.heap.objs.size (.lst [])) fp) [] H' b:=λhn b hb=>by
  have ok:=I4.ok;refine⟨hn b hb,(ok.exf b hb).1,ok.exfs b hb,.inl hb,λx c e=>(ok.exf b hb).2 x c e,λp hp=>nomatch hp⟩
 have loop:∀s4:aA,s4={ s2 with heap:=h₁,toks:=s2.toks+([]:List (Str×af)).length } ->
   codeAny (model X.prog X.w) X.A (.compLoop (.ListComp elt [⟨tg,iter,ifs,0⟩] scope pos) 0 (.ref it) (.ref s2.heap.objs.size) (compEnvC scope (A2 X.env scope.names []) (s2.heap.push {}).objs.size X.env))
    (compPost (model X.prog X.w) X.A X.xe use Q' (.ref s2.heap.objs.size) (s2.heap.push {}).objs.size) s4:=by
  rintro s4 rfl;refine codeAny_loop rfl (λn s'=>∃i σ' H',Inv (qM X scope N (s2.heap.push {}).objs.size { s2 with heap:=s2.heap.push {}} (upd H2 s2.heap.objs.size (.lst [])) fp) [] σ' H' s'/\tn i s'.heap/\(∀b∈fp,H' b=none)/\W i n σ' H') (λn s5 hI=>?_) m0 ⟨0,_,_,I4,st4,λb hb=>(f3 b hb).1,w0⟩;obtain⟨i,σ5,H5,I5,st5,fr5,w5⟩:=hI
  skip
  refine wpAny_noted ?_;rw[compTurn_list];refine aG (wpAny_standAt (aG ?_))
  rcases turn i n σ5 H5 w5 with⟨stop,q⟩|⟨go,step⟩
  ·refine nP (T.done (qM X scope N (s2.heap.push {}).objs.size { s2 with heap:=s2.heap.push {}} (upd H2 s2.heap.objs.size (.lst [])) fp) rfl rfl rfl hc i [] s5 σ5 H5 _ I5 (stat fr5) st5 stop) λr s6 h9=>?_;obtain⟨hr,I6⟩:=h9;subst hr;obtain⟨m6,hn6,_⟩:=I6.loc;refine aS (hfin s6 _ _ H5 m6 hn6 (I3.F4 (aO _) I6.free) (λh' sb=>?_) q _);have u6:=I6.base;have nC:∀b o,(s2.heap.push {}).get? b=some o->b≠(s2.heap.push {}).objs.size:=λb o e=>bF (bh e);refine I3.aas (ch:=fp) I6.os ⟨λb o e n hb hx=>?_,λb o e n hb hx=>?_,λb o e n hx=>?_,λb o e hx=>?_,u6.tups,u6.frzs,u6.tbls⟩ ?_ I6.bare ?_
   ·exact sb.extBut b o (nC b o e) (u6.keep b o e n hb hx)
   ·obtain⟨sl,z⟩:=u6.slot b o e n hb hx;exact⟨sl,sb.extBut b _ (nC b o e) z⟩
   ·exact u6.free b o e n hx
   ·obtain⟨o',z⟩:=u6.there b o e hx;exact⟨o',sb.extBut b _ (nC b o e) z⟩
   ·intro b o e;have hb:∀c v,H5 c=some v->c≠(s2.heap.push {}).objs.size:=λc v e z=>by
     rw[z]at e;have:=I6.free;rw[show H5 (s2.heap.push {}).objs.size=none from this]at e
     cases e
    refine(I6.hok b o e).stay (λc v hc q=>sb.extBut c v ?_ q) (λ_ q=>q) λ_ _ q=>q
    rcases hc with z|z
    ·rw[z];exact hb b o e
    ·exact hb c _ z
   ·intro b hb;obtain⟨_,z1,_,z3,z4,z5⟩:=f3 b hb;exact⟨z3,z1,z4,z5⟩
  ·refine nP (T.item (qM X scope N (s2.heap.push {}).objs.size { s2 with heap:=s2.heap.push {}} (upd H2 s2.heap.objs.size (.lst [])) fp) rfl rfl rfl hc i [] s5 σ5 H5 _ I5 (stat fr5) st5 go) λr s6 h9=>?_;obtain⟨u,hr,h6⟩:=h9;subst hr;refine aG (nP h6 λ_ s7 ⟨x,H7,I7,r7,y7,st7,fr7⟩=>?_);have I7':=I7.pinned (stat fr7) (T.obj _ _ st7);refine aG (Tw (hg _ _ _ fp _ s7 σ5 H7 x u _ I7' r7 (step x H7 y7)) λ_ s8 ⟨σ8,H8,I8,q8⟩=>?_);refine aG (Tw (ht _ _ _ fp _ s8 σ8 H8 _ I8 q8) λok s9 ⟨H9,I9,q9⟩=>?_);have again:∀{s10:aA} {H10:Hp},Inv (qM X scope N (s2.heap.push {}).objs.size { s2 with heap:=s2.heap.push {}} (upd H2 s2.heap.objs.size (.lst [])) fp) ([]++Ak fp s7.heap) σ8 H10 s10->(∃m',m'<n/\W (i+1) m' σ8 H10) ->
     ∃m,m<n/\∃i σ' H',Inv (qM X scope N (s2.heap.push {}).objs.size { s2 with heap:=s2.heap.push {}} (upd H2 s2.heap.objs.size (.lst [])) fp) [] σ' H' s10/\tn i s10.heap/\(∀b∈fp,H' b=none)/\W i m σ' H':=λ{s10 H10} I10 h9=>by
    obtain⟨m',hm,w10⟩:=h9;refine⟨m',hm,i+1,σ8,H10,I10.xW,T.keep _ _ _ st7 λb hb o e=>(I10.pin (b,o) (bZ _ (bZ _ (tD hb e)))).1,λb hb=>?_,w10⟩;obtain⟨o,e,d⟩:=T.obj _ _ st7 b hb;exact(I10.pin (b,o) (bZ _ (bZ _ (tD hb e)))).2.1
   cases ok with
   | false=>
    rw[aK bH]at q9;exact aS ⟨rfl,again I9 q9⟩
   | true=>
    rw[aM rfl]at q9;refine aG (aG (Tw (he _ _ _ fp _ s9 σ8 H9 _ I9 q9) λy s10 ⟨v10,H10,I10,r10,ys,hD,hz,w10⟩=>?_));refine aG (Tw (Cs _ s10 σ8 H10 (.ref s2.heap.objs.size) [v10] _ [y] (λ_ H'=>H'=upd H10 s2.heap.objs.size (.lst (ys++[v10]))) I10 rfl (.cons r10 .nil) ⟨_,ys,v10,rfl,rfl,hD,hz,rfl⟩) λ_ s11 ⟨_,H11,I11,_,e11⟩=>?_);subst e11;exact aS (aS ⟨rfl,again I11 w10⟩)
 exact codeAny_compStart_list (loop _ rfl) (T.self _ 0 _ _ _ st4 (loop _ rfl))
def Xd{ok:Cx->Prop}{X:Cx}{iter:aC}{N:ar}{wi:TI}{g:TG}{tc:TT}{te:TE}(S:CpScope X scope N cap)(hok:∀C s₀ H₀ ex,(∀a o u,X.H₀ a=some (.frz o u)->H₀ a=some (.frz o u))->ok (qM X scope N C s₀ H₀ ex))(hi:PIg ok X tg iter wi)
  (hg:∀C s₀ H₀ ex,PG (qM X scope N C s₀ H₀ ex) tg g) (ht:∀C s₀ H₀ ex,YX (qM X scope N C s₀ H₀ ex) ifs tc) (he:∀C s₀ H₀ ex,PE (qM X scope N C s₀ H₀ ex) elt te)
  (hs:∀x,foldedSetIterable iter X.env x=pure x:=by intro _;rfl):PE X (.ListComp elt [⟨tg,iter,ifs,0⟩] scope pos) (tLC cap wi g tc te):=by
 k_ne;rw[eval_ListComp];exact To (use:=none) (Q':=EP X pins σ Q) S hok hi hg ht he hs pins s σ H Q I h λs6 C D H5 m hn fk inv q v=>⟨m,hn,λh' sb=>⟨.ref D,H5,inv h' sb,rfl,q⟩⟩
def aau{X:Cx}{iter:aC}{N:ar}{wi:TI}{g:TG}{tc:TT}{te:TE}(hc:X.calm=true)(S:CpScope X scope N cap)(hi:PI X tg iter wi)
  (hg:∀C s₀ H₀ ex,PG (qM X scope N C s₀ H₀ ex) tg g) (ht:∀C s₀ H₀ ex,YX (qM X scope N C s₀ H₀ ex) ifs tc) (he:∀C s₀ H₀ ex,PE (qM X scope N C s₀ H₀ ex) elt te)
  (hs:∀x,foldedSetIterable iter X.env x=pure x:=by intro _;rfl):PE X (.ListComp elt [⟨tg,iter,ifs,0⟩] scope pos) (tLC cap wi g tc te):=
 Xd S (λ_ _ _ _ _=>hc) hi.g hg ht he hs
section
variable {X:Cx}
def Oi{bs:List Bool}:∀{us:ba},Vals (bs.map V.bl) us->LSm.BoolsAre us bs:=by
 induction bs with
 | nil=>intro us r;cases r;exact .nil
 | cons b bs ih=>
  intro us r
  cases r with
  | cons h t=>
   have e:_=Value.bool b:=h;subst e;exact .cons b (ih t)
def LJ(hc:X.calm=true):kJ X (.builtin "all") (λxs H Q=>∃(p:ak) (bs:List Bool),xs=[.ref p]/\pL X.K H p (bs.map V.bl)/\Q (.bl (bs.all id)) H):=by
 w_up;obtain⟨p,bs,rfl,hq,q⟩:=h;obtain⟨u,rfl,rx⟩:=vals1 r
 cases rx
 obtain⟨its,rv,pl,hz⟩:=I.list hq;have hb:=Oi rv;have hl:=pl.isList;have hlt:p<s.heap.objs.size:=by obtain⟨_,e,_⟩:=hl;exact bh e
 refine call_all_walk (jc hl ?_);refine⟨s.heap.objs.size,[s.heap.objs.size,p],[s.heap.objs.size],its.toArray.size,_,_,λi=>(bs[i]?).getD true,rfl,Walks.list (A:=X.A.in1) (I.ok.hd hc) _ p (bF hlt) its.toArray,
  ⟨⟨_,bC _ rfl,rfl,rfl⟩,hl.push _⟩,λi v s' Q' E' hP hQ=>?_,λh' tk hk=>?_⟩
 ·obtain⟨b,e,rfl⟩:=hb.get i v (by simpa using hP);dsimp[e,dQ]at hQ;exact dI hQ
 ·have e:((List.range its.toArray.size).all λi=>(bs[i]?).getD true)=bs.all id:=by
   rw[aY,hb.length];exact LSm.range_all bs
  rw[e];exact⟨.bl _,H,I.kept (LSm.kept_iter hk),rfl,q⟩
noncomputable def RQ:List V->List V->Bool
 | [],[]=>true
 | x::xs,y::ys=>RZ x y && RQ xs ys
 | _,_=>false
def WJ{xs ys:List V}:∀(n:Nat),n=xs.length->n=ys.length->(List.range n).all (λj=>match xs[j]?,ys[j]? with|some x,some y=>RZ x y|_,_=>true)=RQ xs ys:=by
 intro n
 induction n generalizing xs ys with
 | zero=>
  intro h1 h2
  cases xs with
  | nil=>cases ys with
   | nil=>rfl
   | cons y ys=>cases h2
  | cons x xs=>cases h1
 | succ n ih=>
  intro h1 h2
  cases xs with
  | nil=>cases h1
  | cons x xs=>
   cases ys with
   | nil=>cases h2
   | cons y ys=>
    rw[gU,all_cons,gW];have:=ih (xs:=xs) (ys:=ys) (Nat.succ.inj h1) (Nat.succ.inj h2);show(RZ x y && _)=(RZ x y && RQ xs ys);rw[<- this];rfl
def SN{xs ys:List V}(h:xs.length≠ys.length):RQ xs ys=false:=by
 induction xs generalizing ys with
 | nil=>cases ys with
  | nil=>exact absurd rfl h
  | cons y ys=>rfl
 | cons x xs ih=>cases ys with
  | nil=>rfl
  | cons y ys=>
   show(RZ x y && RQ xs ys)=false;rw[ih (λe=>h (by simp[e])),jw]
theorem Fv:∀(ns ms:ag),RQ (ns.map V.int) (ms.map V.int)=decide (ns=ms)
 | [],[]=>rfl
 | [],_::_=>by simp[RQ]
 | _::_,[]=>by simp[RQ]
 | n::ns,m::ms=>by
  show(RZ (.int n) (.int m) && RQ (ns.map V.int) (ms.map V.int))=_;rw[Fv ns ms];show((n == m) && decide (ns=ms))=_;by_cases h1:n=m<;>by_cases h2:ns=ms<;>simp[h1,h2]
noncomputable def eAt (xs ys:List V)(j:Nat):Bool:=match xs[j]?,ys[j]? with|some x,some y=>RZ x y|_,_=>true
def Pz{A:az}{xs ys:List V}{us ws:ba}(rx:Vals xs us)(ry:Vals ys ws)(fx:xs.all AM=true)(fy:ys.all AM=true) :
  ∀j (h1:j<us.toArray.size) (h2:j<ws.toArray.size),SeqAt.EqAt A s us.toArray[j] ws.toArray[j] (eAt xs ys j):=by
 intro j h1 h2;have hx:j<xs.length:=by rw[rx.length];simpa using h1
 have hy:j<ys.length:=by rw[ry.length];simpa using h2
 have e1:xs[j]?=some xs[j]:=aF hx;have e2:ys[j]?=some ys[j]:=aF hy;obtain⟨u,eu,ru⟩:=rx.get e1;obtain⟨w,ew,rw'⟩:=ry.get e2;have fu:AM xs[j]=true:=eG.mp fx _ (c9 hx);have fw:AM ys[j]=true:=eG.mp fy _ (c9 hy);have a1:us.toArray[j]=u:=by
  have:us[j]?=some us.toArray[j]:=by simp at h1;simp[h1]
  rw[eu]at this;exact(a_ this).symm
 have a2:ws.toArray[j]=w:=by
  have:ws[j]?=some ws.toArray[j]:=by simp at h2;simp[h2]
  rw[ew]at this;exact(a_ this).symm
 rw[a1,a2];have e3:eAt xs ys j=RZ xs[j] ys[j]:=by unfold eAt;rw[e1,e2]
 rw[e3];exact XW ru rw' fu fw
def EA:kJ X (.type "range") (λxs H Q=>∃i j,xs=[.int i,.int j]/\∀p,H p=none->Q (.ref p) (upd H p (.rng i j))):=by
 w_up;obtain⟨i,j,rfl,q⟩:=h;obtain⟨u,w',rfl,⟨t,rfl⟩,⟨t',rfl⟩⟩:=vals2 r;refine call_range_2 ⟨.ref s.heap.objs.size,_,I.laid (o:=.rng i j) (λb o e=>aV _ e) (aO _) ?_,rfl,q _ I.fresh⟩;exact⟨t,t',s.toks,bC _ rfl⟩
noncomputable def k_ (i j:Int):ag:=(List.range (j-i).toNat).map λk:Nat=>i+(k:Int)
def qw(i j:Int):(k_ i j).length=(j-i).toNat:=by unfold k_;rw[aH,cD]
def Ag{i:Int}{n:Nat}{acc:Array af}(h:ItemsOf (λk v=>∃t,v=Value.int (i+(k:Int) * 1) t) acc n):Vals (((List.range n).map λk:Nat=>i+(k:Int)).map V.int) acc.toList:=by
 obtain⟨hs,hv⟩:=h;have gen:∀(l:ba) (b:Nat),(∀j v,l[j]?=some v->∃t,v=Value.int (i+((b+j:Nat):Int)) t)->Vals (((List.range' b l.length).map λk:Nat=>i+(k:Int)).map V.int) l:=by
  intro l
  induction l with
  | nil=>intro b _;exact .nil
  | cons v l ih=>
   intro b hb;rw[bg,List.range'_succ,bD,bD];refine .cons ?_ ?_
   ·obtain⟨t,e⟩:=hb 0 v rfl;exact⟨t,by rw[e];simp⟩
   ·refine ih (b+1) λj w hw=>?_;obtain⟨t,e⟩:=hb (j+1) w hw;exact⟨t,by rw[e,show b+(j+1)=b+1+j by lia]⟩
 have:=gen acc.toList 0 λj v hj=>by
  obtain⟨t,e⟩:=hv j v (by simpa using hj);exact⟨t,by rw[e,cB,Int.mul_one]⟩
 rw[dN,hs,<- gb]at this;exact this
def Of{i j:Int}:Builtin.Range.rangeSize i j 1=(((j-i).toNat:Nat):Int):=by rw[rangeSize_one];split<;>lia
def B8(hc:X.calm=true):kJ X (.type "list") (λxs H Q=>∃p i j,xs=[.ref p]/\H p=some (.rng i j)/\(-(2 ^ 62)<=i/\i<2 ^ 62/\-(2 ^ 62)<=j/\j<2 ^ 62)/\(j-i).toNat<=1000/\∀l,H l=none->Q (.ref l) (upd H l (.lst ((k_ i j).map V.int)))):=by
 w_up;obtain⟨p,i,j,rfl,hp,⟨b1,b2,b3,b4⟩,hn,q⟩:=h;obtain⟨u,rfl,rx⟩:=vals1 r
 cases rx
 obtain⟨t,u',v,e⟩:=I.hok p _ hp;refine call_list_range (n:=(j-i).toNat) (I.ok.hd hc) e (small_one b1 b2 b3 b4) Of () λh' tk acc' c' hk hS hacc=>?_;refine⟨.ref s.heap.objs.size,_,I.laid (o:=.lst ((k_ i j).map V.int)) hk (aO _) ⟨?_,acc'.toList,c',Ag hacc,by rw[hS]⟩,rfl,q _ I.fresh⟩;rw[aH,qw,eE];lia
end
section
variable {X:Cx}
def FD{prog:aj}{w:ah}{A:az}{E:af->aA->Prop}{s:aA}{Q:ba->aA->Prop}{r:ak}{a b c:Int}{t v:Tok}{n:Nat}(hh:A.handled=none)(hr:IsRange s.heap r a b c t u v)(hsmall:Builtin.Range.small a b c=true)
  (hn:Builtin.Range.rangeSize a b c=n) (hlen:n<=2 ^ 24)
  (hQ:∀h' tk (acc':Array af),(∀b o,s.heap.get? b=some o->h'.get? b=some o)->ItemsOf (λi v=>∃t,v=.int (a+i * c) t) acc' n->Q acc'.toList { s with heap:=h',toks:=tk }) :
  wpAny (model prog w) A (collect (.ref r)) Q E s:=by
 unfold collect;refine aG (wpAny_runValue (gJ F.entry_proto_collect ?_));rw[gc F.plain_proto_collect _]
 skip
 refine aG (ck ?_);refine aS ⟨plainId_quiet F.plain_list_iadd _,gJ F.entry_list_iadd ?_⟩;rw[gc F.plain_list_iadd _]
 skip
 have hS:(s.heap.push {}).get? s.heap.objs.size=some { cls:=.type "list",data:=.seq #[] 0 }:=bC _ rfl;have fin':∀(h':aq) (tk:Nat) (acc':Array af) (c':Nat),(∀b o,b≠s.heap.objs.size->(s.heap.push {}).get? b=some o->h'.get? b=some o) ->
   h'.get? s.heap.objs.size=some { cls:=.type "list",dict:=none,data:=.seq acc' c',slots:=#[]}->ItemsOf (λi v=>∃t,v=.int (a+i * c) t) acc' n ->
   wpAny (model prog w) A (match Value.ref s.heap.objs.size with
   | Value.ref a=>do
    match (<- load a).data with
     | Data.seq xs _=>pure xs.toList
     | _=>unsupported "internal:collect"
   | _=>unsupported "internal:collect") Q E { s with heap:=h',toks:=tk }:=by
  intro h' tk acc' c' hk hS' hacc
  skip
  refine aG (wpAny_load hS' ?_);refine aS ?_;exact hQ h' tk acc' (λb o e=>hk b o (bF (bh e)) (aV _ e)) hacc
 refine iX (wpAny_extend_range (A:=A) (R:=λrr s'=>rr=.ok (.ret (.ref s.heap.objs.size))/\∃h' tk acc' c',s'={ s with heap:=h',toks:=tk }/\(∀b o,b≠s.heap.objs.size->(s.heap.push {}).get? b=some o->h'.get? b=some o) /\
   h'.get? s.heap.objs.size=some { cls:=.type "list",dict:=none,data:=.seq acc' c',slots:=#[]}/\ItemsOf (λi v=>∃t,v=.int (a+i * c) t) acc' n)
  (s:={ s with heap:=s.heap.push {}}) hh (aV _ hr) hsmall hn hlen s.heap.objs.size (.ref s.heap.objs.size) 0 hS
  (λh' tk acc' c' hk hS' hacc=>⟨rfl,h',tk,acc',c',rfl,hk,hS',hacc⟩)) (λfin s' h=>?_) (λe s' h=>?_)
 ·cases fin with
  | done f=>
   obtain⟨e,h',tk,acc',c',rfl,hk,hS',hacc⟩:=h
   cases e
   exact fin' h' tk acc' c' hk hS' hacc
  | again c'=>exact⟨h.1,iV h.2 λr s'' hr=>by
    obtain⟨rfl,h',tk,acc',c',rfl,hk,hS',hacc⟩:=hr;exact fin' h' tk acc' c' hk hS' hacc⟩
 ·exact absurd h.1 (by simp)
def v9(l:ak){a b:Int}{t v:Tok}{n:Nat}(hsmall:Builtin.Range.small a b 1=true)
  (hn:Builtin.Range.rangeSize a b 1=n) (hlen:n<=1000) :
  Meets (Builtin.«tuple.__new__» ⟨[.type "tuple",.ref l],[]⟩)
   (λA R s=>A.handled=none/\IsRange s.heap l a b 1 t u v/\∀(h':aq) (tk:Nat) (acc':Array af),(∀b o',s.heap.get? b=some o'->h'.get? b=some o')->ItemsOf (λi v=>∃t,v=.int (a+i * 1) t) acc' n->R (.ok (.ret (.ref h'.objs.size))) { s with heap:=h'.push { cls:=.type "tuple",data:=.seq acc' },toks:=tk }):=
 .of_wp λprog w A R s h=>by
  obtain⟨hp,g,d,tk,os⟩:=s;obtain⟨hh,ht,h⟩:=h;have hsub:=sub_tuple_self;have hinit:=init_tuple_lookup;have hmh:=madeHere_tuple;have hT:Shared.TypeIs ⟨hp,g,d,tk,os⟩ (.ref l) "range" := ⟨_,ht,rfl⟩;have hh':A.in1.handled=none:=hh
  wp_walk using cX ht,gp hT,FD (A:=A.in1) hh' ht hsmall hn ()
  intro h' tk' acc' hk hacc;show wpAny _ _ (Builtin.Tuple.tupleExact acc'.toList.toArray >>= λv=>ret v) _ _ _;unfold Builtin.Tuple.tupleExact;have e:acc'.toList.toArray=acc':=by simp
  refine aG (ck ?_ (by show acc'.toList.toArray.size<=sizeLine;rw[e,hacc.1,eE];lia));refine aS ⟨_,rfl,?_⟩;rw[e];exact h h' tk' acc' hk hacc
def Au(hc:X.calm=true):kJ X (.type "tuple") (λxs H Q=>∃p i j,xs=[.ref p]/\H p=some (.rng i j)/\(-(2 ^ 62)<=i/\i<2 ^ 62/\-(2 ^ 62)<=j/\j<2 ^ 62)/\(j-i).toNat<=1000/\∀l,H l=none->Q (.ref l) (upd H l (.tup ((k_ i j).map V.int)))):=by
 w_up;obtain⟨p,i,j,rfl,hp,⟨b1,b2,b3,b4⟩,hn,q⟩:=h;obtain⟨u,rfl,rx⟩:=vals1 r
 cases rx
 obtain⟨t,u',v,e⟩:=I.hok p _ hp;refine callType_new F.called_tuple ⋯ (F.typeCall_tuple_1 _) (F.newCall_tuple_1 _) (λobj=>F.args_object_init_2 obj _) F.entry_tuple_new
  (v9 (n:=(j-i).toNat) p (small_one b1 b2 b3 b4) Of hn) ⟨I.ok.hd hc,e,λh' tk acc' hk hacc=>⟨⟨_,bC _ rfl,rfl⟩,?_⟩⟩
 have I1:Inv X pins σ H { s with heap:=h',toks:=tk }:=I.kept hk;refine⟨.ref h'.objs.size,_,I1.laid (t':=tk) (o:=.tup ((k_ i j).map V.int)) (λb o e=>aV _ e) (aO _) ⟨?_,acc'.toList,Ag hacc,?_⟩,rfl,q _ (I1.hok.fresh (aO _))⟩
 ·rw[aH,qw,eE];lia
 ·have e:acc'.toList.toArray=acc':=by simp
  rw[e];exact pU.new _ _
def EV{c:String}:kJ X (.builtin "isinstance") (λxs H Q=>∃x t b,xs=[x,.ty c]/\TyOf X.K H x t/\PySem.W.kitOne X.K t (.type c)=some b/\Q (.bl b) H):=by
 w_up;obtain⟨x,t,b,rfl,ty,e,q⟩:=h;obtain⟨u,w',rfl,rx,rc⟩:=vals2 r
 cases rc
 exact MS I rx ty e λtk=>⟨.bl b,H,I.tok tk,rfl,q⟩
noncomputable def Xf (K:au):R2:=λx y H Q=>∃a b ys,x=.ref a/\y=.ref b/\ni K H a []/\ni K H b ys/\Q (.ref b) H
def M3:pB X (binaryOp .Add) (Xf X.K):=by
 intro pins s σ H x y v u Q I rx ry h;obtain⟨a,b,ys,rfl,rfl,h1,h2,q⟩:=h
 cases rx
 cases ry
 obtain⟨us,r1,p1,_⟩:=I.tuple h1;obtain⟨ws,r2,p2,_⟩:=I.tuple h2
 cases r1
 obtain⟨⟨cls,dd,data,sl⟩,ho,hc,n,hd⟩:=id p1;obtain⟨⟨cls2,dd2,data2,sl2⟩,ho2,hc2,n2,hd2⟩:=id p2;simp only at hc hd hc2 hd2;subst hc hd hc2 hd2;exact concat_meets ⟨_,ho,rfl⟩ ⟨_,ho2,rfl⟩ noFill_tuple_add seq_tuple_add gT gR (gC _ _)
   (tuple_addW0 a b _ ws.toArray n n2 dd dd2 sl sl2 (by simp)) ⟨ho,ho2,⟨.ref b,H,I,rfl,q⟩⟩
end
def nB:bootBuiltins "len" = some (.builtin "len"):=by decide +kernel
def OF:bootBuiltins "all" = some (.builtin "all"):=by decide +kernel
def Wx:bootBuiltins "max" = some (.builtin "max"):=by decide +kernel
def Xv:bootBuiltins "min" = some (.builtin "min"):=by decide +kernel
def vt:bootBuiltins "sorted" = some (.builtin "sorted"):=by decide +kernel
def kX:bootBuiltins "isinstance" = some (.builtin "isinstance"):=by decide +kernel
def G9:bootBuiltins "int" = some (.type "int"):=by decide +kernel
def Lk:bootBuiltins "bool" = some (.type "bool"):=by decide +kernel
def rz:bootBuiltins "list" = some (.type "list"):=by decide +kernel
def qx:bootBuiltins "tuple" = some (.type "tuple"):=by decide +kernel
def Gu:bootBuiltins "range" = some (.type "range"):=by decide +kernel
structure Blt (mg:Str->Option af):Prop where
 len:mg "len" = none
 abs:mg "abs" = none
 all:mg "all" = none
 any:mg "any" = none
 max:mg "max" = none
 min:mg "min" = none
 sorted:mg "sorted" = none
 isinstance:mg "isinstance" = none
 int:mg "int" = none
 bool:mg "bool" = none
 str:mg "str" = none
 list:mg "list" = none
 tuple:mg "tuple" = none
 range:mg "range" = none
def U0:∀{a b:ag},a.Perm b->a.Pairwise (·<=·)->b.Pairwise (·<=·)->a=b:=λp ha hb=>
 dR (λx y _ _ h1 h2=>Int.le_antisymm h1 h2) ha hb p
def DR(i j:Int):(k_ i j).Pairwise (·<=·):=by
 unfold k_;rw[cI];exact List.pairwise_lt_range.imp λh=>()
def qC(i j:Int):(k_ i j).Nodup:=by
 unfold k_;rw[List.Nodup,cI];exact List.pairwise_lt_range.imp λh=>()
def oJ{i j k:Int}:k∈k_ i j ↔ i<=k/\k<j:=by
 unfold k_;rw[bA];constructor
 ·rintro⟨a,ha,rfl⟩;have:=cQ.mp ha;lia
 ·rintro⟨h1,h2⟩;exact⟨(k-i).toNat,cQ.mpr (),()⟩
theorem zp:∀{l m:ag},l.Nodup->(∀x∈l,x∈m)->m.length<=l.length->l.Perm m
 | [],m,_,_,h=>by
  have:m=[]:=fQ.mp (Nat.le_zero.mp h);rw[this]
 | a::l,m,nd,hs,hl=>by
  have ha:a∈m:=hs a aJ;have nd':=cO.mp nd;have pm:m.Perm (a::m.erase a):=List.perm_cons_erase ha;have ih:=zp (l:=l) (m:=m.erase a) nd'.2 (λx hx=>by
   have hxa:x≠a:=λe=>nd'.1 (e ▸ hx);exact(List.mem_erase_of_ne hxa).mpr (hs x (aL _ hx))) (by
   rw[List.length_erase_of_mem ha];dsimp[bg]at hl;lia)
  exact(List.Perm.cons a ih).trans pm.symm
noncomputable def Kn (P:aj)(w:ah)(K:au)(mg:Str->Option af)(base:aq)(k:Nat)(x:Str)(ps:ar)(sp:Sp):Prop:=
 ∃(f:ak) (fd:FuncData),FnOk P w K mg base pY k f fd ps sp/\mg x=some (.ref f)/\PySem.W.keepIn K (.ref f)=true/\Binds K fd ps []
def aar{X:Cx}{k:Nat}{x:Str}{sp:Sp}{e:aC}{t:TA}{p:Pos}(G:Kn X.prog X.w X.K X.mg X.base k x ps sp)(hr:Room k X.A)(ha:PA X (e::es) t)(hg:Gl X x:=by rfl)
  (hdb:(x == ("__debug__" : Str))=false:=by decide) (hs:starEach (e::es) X.env=(false,eval e X.env)::starEach es X.env:=by rfl) (hplain:(backTo pos (starEach es X.env)).any (·.1)=false:=by rfl) :
  PE X (.Call (.Name x p) (e::es) [] pos) (VN sp [] E0 t):=by
 obtain⟨f,fd,F,hm,hk,hb⟩:=G;exact UG F hr hg hm hk hb .nil aah ha hdb hs hplain
noncomputable def Bh (XN fs:ar):ar->List (Option Nat)->Prop
 | [],[]=>True
 | _::N,none::c=>Bh XN fs N c
 | x::N,some j::c=>XN[j]?=some x/\x∈fs/\Bh XN fs N c
 | _,_=>False
theorem Bh.len{fs:ar}:∀{N:ar}{c:List (Option Nat)},Bh XN fs N c->c.length=N.length
 | [],[],_=>rfl
 | _::N,none::c,h=>dB (·+1) (Bh.len (N:=N) (c:=c) h)
 | _::N,some j::c,h=>dB (·+1) (Bh.len (N:=N) (c:=c) h.2.2)
 | [],_::_,h=>h.elim
 | _::_,[],h=>h.elim
theorem Bh.cp{fs:ar}:∀{N:ar}{c:List (Option Nat)},Bh XN fs N c->∀(i j:Nat) (x:Str),N[i]?=some x->c[i]?=some (some j)->XN[j]?=some x/\x∈fs
 | [],[],_,i,j,x,h1,_=>by simp at h1
 | y::N,none::c,h,i,j,x,h1,h2=>by
  cases i with
  | zero=>simp at h2
  | succ i=>exact Bh.cp (N:=N) (c:=c) h i j x (by simpa using h1) (by simpa using h2)
 | y::N,some k::c,h,i,j,x,h1,h2=>by
  cases i with
  | zero=>
   simp at h1 h2;subst h1 h2;exact⟨h.1,h.2.1⟩
  | succ i=>exact Bh.cp (N:=N) (c:=c) h.2.2 i j x (by simpa using h1) (by simpa using h2)
 | [],_::_,h,_,_,_,_,_=>h.elim
 | _::_,[],h,_,_,_,_,_=>h.elim
def wz{X:Cx}{scope:Scope}{N:ar}(fs:ar)(kind:scope.kind=.function)(nocell:∀y∈scope.names,y.2≠.cell)(nm:∀y∈scope.names,y.2=.local->scope.names.lookup y.1=some .local)
  (nolf:∀y∈scope.names,y.2=.free->scope.names.lookup y.1≠some .local) (hf:∀y∈scope.names,y.2=.free->y.1∈fs) (hfs:∀x∈fs,(x,NameKind.free)∈scope.names) (hk:∀x∈fs,X.env.kindOf x=some .cell\/X.env.kindOf x=some .free) (cp:Bh X.N fs N cap):CpScope X scope N cap where
 kind:=kind
 nocell:=nocell
 nm:=nm
 fr:=λy hy e=>hk _ (hf y hy e)
 rl:=λy h=>by
  have go:∀k,(k=NameKind.cell\/k=NameKind.free)->(relabel scope X.env).names.lookup y=some k->(y,NameKind.free)∈scope.names:=λk hk e=>by
   obtain⟨⟨n',k'⟩,hm1,hm2⟩:=bA.mp (Bv e);dsimp only at hm2;split at hm2
   ·rename_i hc
    cases hm2
    have:k'=.free:=by
     dsimp[iE]at hc;simpa using hc.1.1
    subst this;exact hm1
   ·cases hm2
    rcases hk with rfl|rfl
    ·exact absurd rfl (nocell _ hm1)
    ·exact hm1
  rcases h with h|h
  ·exact go _ (.inl rfl) h
  ·exact go _ (.inr rfl) h
 len:=cp.len
 nolf:=λx hx=>nolf (x,.free) hx rfl
 cp:=λi j x h1 h2=>by
  obtain⟨a,b⟩:=cp.cp i j x h1 h2;exact⟨a,hfs x b⟩
inductive Kd where
 | non|bl|int|str|lst|tup
 deriving DecidableEq
noncomputable def Kd.ty:Kd->af
 | .non=>.type "NoneType" | .bl=>.type "bool" | .int=>.type "int" | .str=>.type "str" | .lst=>.type "list" | .tup=>.type "tuple"
noncomputable def YA (H:Hp)(x:V):Kd->Prop
 | .non=>x=.non
 | .bl=>∃b,x=.bl b
 | .int=>∃i,x=.int i
 | .str=>∃s,x=.str s
 | .lst=>∃a xs,x=.ref a/\H a=some (.lst xs)
 | .tup=>∃a xs,x=.ref a/\H a=some (.tup xs)
def YA.aa9{K:au}{H:Hp}{x:V}{k:Kd}(h:YA H x k):TyOf K H x k.ty:=by
 cases k with
 | non=>cases h;exact .non
 | bl=>obtain⟨b,rfl⟩:=h;exact .bl b
 | int=>obtain⟨b,rfl⟩:=h;exact .int b
 | str=>obtain⟨b,rfl⟩:=h;exact .str b
 | lst=>obtain⟨a,xs,rfl,e⟩:=h;exact .lst e
 | tup=>obtain⟨a,xs,rfl,e⟩:=h;exact .tup e
def UO{K:au}(k:Kd):PySem.W.kitOne K k.ty (.type "int")=some (decide (k=.int\/k=.bl)):=by cases k<;>rfl
def Qc{K:au}(k:Kd):PySem.W.kitOne K k.ty (.type "bool")=some (decide (k=.bl)):=by cases k<;>rfl
def kit_tuple{K:au}(k:Kd):PySem.W.kitOne K k.ty (.type "tuple")=some (decide (k=.tup)):=by cases k<;>rfl
def OA{K:au}(k:Kd):PySem.W.kitOne K k.ty (.type "list")=some (decide (k=.lst)):=by cases k<;>rfl
section
variable {prog:aj}{w:ah}{A:az}{E:af->aA->Prop}{s:aA}
def xP{t:ak}{i:Nat}{x:af}{Q:af->aA->Prop}(hit:s.heap.IsTupleIter it t i)
  (ht:s.heap.IsTuple t items) (hx:items[i]?=some x) (hQ:∀h',h'.IsTupleIter it t (i+1)->Heap.SameBut it s.heap h'->Q x { s with heap:=h' }) :
  wpAny (model prog w) A (Builtin.SmallTypes.nextOf (.ref it)) Q E s:=by
 obtain⟨o,ho,hc,hd⟩:=id hit;obtain⟨ol,hol,_,nl,hdl⟩:=ht;unfold Builtin.SmallTypes.nextOf;refine aG (c7 (name:=Str.ofString "__next__") hit.typeIs eN
  (cR eN hit.typeIs F.entry_tuple_iterator_next ?_ (F.args_tuple_iterator_next_1 _)))
 show wpAny _ _ (field (.ref it) 0 >>= _) _ _ s;refine aG (fh ho hd (x:=.ref t) rfl ?_)
 skip
 rw[aK (show ¬((Value.ref t == Value.none)=true)from bH)]
 skip
 refine aG (fh ho hd (x:=.int i 0) rfl ?_)
 skip
 refine aG (i8 hol hdl ?_);dsimp[cZ,hx];refine aG (gY ho hd (by simp) (aS ⟨x,rfl,aS (hQ _ ?_ (fM ..))⟩));exact⟨_,f6 _ ho (iA (eO hd _)),(jd ..).trans hc,by
  rw[eO hd];simp[rawInt]⟩
def yq{t:ak}{i:Nat}{Q:af->aA->Prop}(hh:A.handled=none)
  (hit:s.heap.IsTupleIter it t i) (ht:s.heap.IsTuple t items) (hx:items[i]?=none)
  (hE:∀h' e,Heap.ExtBut it s.heap h'->(∃o,h'.get? e=some o/\o.cls=.type "StopIteration")->E (.ref e) { s with heap:=h' }) :
  wpAny (model prog w) A (Builtin.SmallTypes.nextOf (.ref it)) Q E s:=by
 obtain⟨o,ho,hc,hd⟩:=id hit;obtain⟨ol,hol,_,nl,hdl⟩:=ht;unfold Builtin.SmallTypes.nextOf;refine aG (c7 (name:=Str.ofString "__next__") hit.typeIs eN
  (cR eN hit.typeIs F.entry_tuple_iterator_next ?_ (F.args_tuple_iterator_next_1 _)))
 show wpAny _ _ (field (.ref it) 0 >>= _) _ _ s;refine aG (fh ho hd (x:=.ref t) rfl ?_)
 skip
 rw[aK (show ¬((Value.ref t == Value.none)=true)from bH)]
 skip
 refine aG (fh ho hd (x:=.int i 0) rfl ?_)
 skip
 refine aG (i8 hol hdl ?_);dsimp[cZ,hx];refine aG (eS (aG (gY ho hd (by simp) ?_)))
 skip
 refine aG ?_;dsimp[newExc,newTuple];refine aG (ck ?_ (by size_fits));refine aG (m:=firstArgMember _ _) (iK (a:=Value.none) (by first|rfl|(dsimp[firstArgMember];rfl)) ?_);refine ck ?_ (by size_fits);dsimp[raiseNew];refine aG (wpAny_handled ?_)
 first|rw[show A.in1.handled=none from hh]|rw[hh]
 refine aG (aS (wpAny_throw ?_));exact hE _ _ (((fM ..).extBut.push _).push _) ⟨_,bC _ rfl,rfl⟩
end
def Ou{prog:aj}{w:ah}{A:az}(hh:A.handled=none)(it l:ak)(hne:l≠it)(items:Array af) :
  Draws prog w A it [it,l] items.size (λi v=>items[i]?=some v) (λi h=>h.IsTupleIter it l i/\h.IsTuple l items) where
 live:=λ_ _ st=>let⟨o,ho,_⟩:=st.1;⟨o,ho⟩
 frame:=λ_ _ _ st hk=>⟨st.1.at λo e=>hk it (by simp) o e,let⟨o,ho,r⟩:=st.2;⟨o,hk l (by simp) o ho,r⟩⟩
 item:=λi s Q E hi st hQ=>by
  refine xP st.1 st.2 (x:=items[i]) (by simp[hi]) λh' hit' hs'=>?_;exact hQ _ h' s.toks (by simp[hi]) ⟨hit',let⟨o,ho,r⟩:=st.2;⟨o,hs'.extBut l o hne ho,r⟩⟩ hs'
 done:=λs Q E st hE=>yq hh st.1 st.2 (by simp) hE
def Gi(l:ak)(items:Array af) :
  Meets (Builtin.«enumerate.__new__» ⟨[.type "enumerate",.ref l],[]⟩) (λ_ R s=>s.heap.IsTuple l items /\
   R (.ok (.ret (.ref (s.heap.push { cls:=.type "tuple_iterator",data:=.fields #[.ref l,.int 0 0]}).objs.size)))
    { s with heap:=(s.heap.push { cls:=.type "tuple_iterator",data:=.fields #[.ref l,.int 0 0]}).push { cls:=.type "enumerate",data:=.fields #[.none,.bool false,.ref s.heap.objs.size,rawInt 0,.none,.none]}}):=
 .of_wp λprog w A R s h=>by
  obtain⟨hp,g,d,tk,os⟩:=s;obtain⟨hl,h⟩:=h;have hsub:=sub_enumerate;obtain⟨ol,hol,hcl,nl,hdl⟩:=id hl
  wp_walk using cX hol
  refine wpAny_stack_any λst=>aS ?_;split
  ·rename_i c _ _ _ _ _
   cases(c == Value.type "enumerate")
   ·wp_walk using cX hol,gK hl
    exact⟨_,rfl,h⟩
   ·wp_walk using cX hol,gK hl
    exact⟨_,rfl,h⟩
  ·wp_walk using cX hol,gK hl
   exact⟨_,rfl,h⟩
noncomputable def Ite (K:au)(a:ak):It:=
 ⟨λi H=>∃xs x,ni K H a xs/\xs[i]?=some x,λi H x H'=>∃T,H T=none/\x=.ref T/\∀xs y,ni K H a xs->xs[i]?=some y->H'=upd H T (.tup [.int i,y]),λi H=>∃xs,ni K H a xs/\xs.length=i⟩
def HY{P:aj}{w:ah}{K:au}(a e it:ak)(hei:e≠it):Turn P w K (.Tuple elts x1 tpos) (Ite K a) [e,it] e (λi h=>(∃old,IsEnum h e it i old)/\h.IsTupleIter it a i) where
 mem:=by simp
 obj:=λi h st b hb=>by
  obtain⟨⟨old,st1⟩,st2⟩:=st;have hb':b=e\/b=it:=by simpa using hb
  rcases hb' with rfl|rfl
  ·exact⟨_,st1,λv z=>by cases z⟩
  ·obtain⟨o,e,c,d⟩:=st2;exact⟨o,e,λv z=>by rw[d]at z;cases z⟩
 keep:=λi h h' st k=>by
  obtain⟨⟨old,st1⟩,st2⟩:=st;exact⟨⟨old,k e (by simp) _ st1⟩,st2.at λo ho=>k it (by simp) o ho⟩
 item:=by
  z_go;subst hP hw hK;obtain⟨⟨old,st1⟩,st2⟩:=st;obtain⟨xs,x,hq,hx⟩:=hg;obtain⟨its,rv,p,hz⟩:=I.tuple hq;obtain⟨u,hu,ru⟩:=rv.get hx;have hia:a≠it:=by
   obtain⟨o,ho,hc1,_⟩:=p;obtain⟨o2,ho2,hc2,_⟩:=st2;intro z;rw[z,ho2]at ho
   cases ho
   rw[hc1]at hc2;exact absurd (Value.type.inj hc2) ⋯
  have hea:e≠a:=by
   obtain⟨o,ho,hc1,_⟩:=p;intro z;rw[<- z,st1]at ho
   cases ho
   exact absurd (Value.type.inj hc1) ⋯
  have hlt:i<its.toArray.size:=by
   rw[aY];exact(aN.mp hu).1
  refine wpAny_pyNext_enum_itemD (Ou (A:=X.A.in1) (I.ok.hd hc) it a hia its.toArray) st1 ⟨st2,p⟩ hlt hei (by simp[hei,hea]) λx' h' tk hP hout hst hT hsz hk=>?_;have ex:x'=u:=by
   have:its.toArray[i]?=some u:=by simpa using hu
   rw[this]at hP;exact(a_ hP).symm
  subst ex;refine⟨_,rfl,wpAny_letOwnedTupleGo_enum hout λh2 he2 hs2=>?_⟩;have fT:H s.heap.objs.size=none:=I.hok.fresh (aO _);have hel:e<s.heap.objs.size:=bh st1;have hil:it<s.heap.objs.size:=by obtain⟨o,ho,_⟩:=st2;exact bh ho
  have k2:∀b o,b≠e->b≠it->s.heap.get? b=some o->h2.get? b=some o:=λb o h1 h3 q=>hs2.extBut b o h1 (hk b o h1 h3 q);have hT2:h2.get? s.heap.objs.size=some { cls:=.type "tuple",data:=.seq #[.int i tk,x']}:=hs2.extBut _ _ (ne_of_gt hel) hT;obtain⟨e0,e1,e2,e3,e4,e5⟩:=hf e (by simp);obtain⟨i0,i1,i2,i3,i4,i5⟩:=hf it (by simp);have nT:∀b o,s.heap.get? b=some o->b≠s.heap.objs.size:=λb o q=>bF (bh q);have ne_tr:∀c v,H c=some v->c≠e/\c≠it:=λc v q=>⟨(λz=>by rw[z,e0]at q;cases q),(λz=>by rw[z,i0]at q;cases q)⟩;have I2:Inv X pins σ (upd H s.heap.objs.size (.tup [.int i,x])) { s with heap:=h2,toks:=tk+1 }:=by
   refine I.step (g':=s.gens) (d':=s.drawn) (ch:=[e,it]) (λb hb=>?_) (λb o _ _ hch q _=>?_) (λb o _ _ hch q _=>?_) (λb o hch q n=>?_) (λb o hch q=>?_) (λb ys q=>?_) (λb o u' q=>?_) (λb ps q=>?_) (λm hm=>?_) (λb u' q=>?_) I.bare
   ·have hb':b=e\/b=it:=by simpa using hb
    rcases hb' with rfl|rfl
    ·exact⟨e3,e1,e4,e5⟩
    ·exact⟨i3,i1,i4,i5⟩
   ·exact k2 b o (λz=>hch (by simp[z])) (λz=>hch (by simp[z])) q
   ·exact⟨o.slots,k2 b o (λz=>hch (by simp[z])) (λz=>hch (by simp[z])) q⟩
   ·rw[jU (nT b o q)];exact n
   ·exact⟨o,k2 b o (λz=>hch (by simp[z])) (λz=>hch (by simp[z])) q⟩
   ·rw[jU (j8 q fT)];exact q
   ·rw[jU (j8 q fT)];exact q
   ·exact⟨#[],by rw[jU (j8 q fT),q];simp⟩
   ·obtain⟨o,es,ep,ho,r⟩:=hm;exact⟨o,es,ep,k2 _ o (dj e1) (dj i1) ho,r⟩
   ·by_cases z:b=s.heap.objs.size
    ·subst z;rw[lU]at q
     cases q
     exact⟨by show 2<=sizeLine;decide,[.int i tk,x'],.cons ⟨tk,rfl⟩ (.cons ru .nil),⟨_,hT2,rfl,rfl,0,rfl⟩⟩
    ·rw[jU z]at q;refine(I.hok b u' q).stay (λc v hc q'=>k2 c v ?_ ?_ q') (λc q'=>?_) λc ys q'=>?_
     ·rcases hc with z|z
      ·rw[z];exact(ne_tr b u' q).1
      ·exact(ne_tr c _ z).1
     ·rcases hc with z|z
      ·rw[z];exact(ne_tr b u' q).2
      ·exact(ne_tr c _ z).2
     ·rw[jU (j8 q' fT)];exact q'
     ·rw[jU (j8 q' fT)];exact q'
  refine⟨.ref s.heap.objs.size,_,I2,rfl,⟨s.heap.objs.size,fT,rfl,λys y hy hyi=>?_⟩,⟨⟨x',by simpa using he2⟩,?_⟩,λb hb=>?_⟩
  ·rw[I.zd hy hq]at hyi;rw[hx]at hyi
   cases hyi
   rfl
  ·exact hst.1.at λo ho=>hs2.extBut it o (dj hei) ho
  ·have hb':b=e\/b=it:=by simpa using hb
   rcases hb' with rfl|rfl
   ·rw[jU (bF hel)];exact e0
   ·rw[jU (bF hil)];exact i0
 done:=by
  z_go;subst hP hw hK;obtain⟨⟨old,st1⟩,st2⟩:=st;obtain⟨xs,hq,hx⟩:=hg;obtain⟨its,rv,p,hz⟩:=I.tuple hq;obtain⟨i0,i1,i2,i3,i4,i5⟩:=hf it (by simp);have hia:a≠it:=by
   obtain⟨o,ho,hc1,_⟩:=p;obtain⟨o2,ho2,hc2,_⟩:=st2;intro z;rw[z,ho2]at ho
   cases ho
   rw[hc1]at hc2;exact absurd (Value.type.inj hc2) ⋯
  have hl:=rv.length;have ei:its.toArray.size=i:=by rw[aY,<- hl,hx]
  exact wpAny_pyNext_enum_endD (Ou (A:=X.A.in1) (I.ok.hd hc) it a hia its.toArray) st1 ⟨by rw[ei];exact st2,p⟩ λh' eb=>⟨rfl,I.turned (t':=s.toks) (λb o hb q=>eb b o hb q) i0 i1 i3 i4 i5⟩
 self:=λ_ _ _ _ _ st h=>let⟨⟨_,st1⟩,_⟩:=st;wpAny_pyIter_enum st1 h
def DZ:bootBuiltins "enumerate" = some (.type "enumerate"):=by decide +kernel
section
variable {X:Cx}
noncomputable def Zk (K:au)(ta:TA):TI:=λσ H R=>ta σ H λvs H1=>∃a xs,vs=[.ref a]/\ni K H1 a xs/\R (Ite K a) H1
def MZ{a:aC}{ta:TA}{p:Pos}(hg:Gl X "enumerate")(hm:X.mg "enumerate" = none)(ha:PA X [a] ta)(hs:starEach [a] X.env=[(false,eval a X.env)]:=by rfl):PI X (.Tuple elts x1 tpos) (.Call (.Name "enumerate" p) [a] [] pos) (Zk X.K ta):=by
 intro pins s σ H R I h;refine Call_ (wU I hg hm DZ (dG (nP (ha pos pins s σ H _ I h) λus s1 ⟨vs,H1,I1,r1,q1⟩=>?_) hs rfl));obtain⟨t,xs,e,hq,q⟩:=q1;subst e;obtain⟨u,rfl,rx⟩:=vals1 r1
 cases rx
 obtain⟨its,rv,pt,hz⟩:=I1.tuple hq;refine callType_new F.called_enumerate ⋯ (F.typeCall_enumerate_1 _) (F.newCall_enumerate_1 _) (λobj=>F.args_object_init_2 obj _) F.entry_enumerate_new (Gi t its.toArray) ⟨pt,⟨_,bC _ rfl,rfl⟩,?_⟩;have I2:Inv X pins σ H1 { s1 with heap:=s1.heap.push { cls:=.type "tuple_iterator",data:=.fields #[.ref t,.int 0 0]}}:=I1.kept (t':=s1.toks) λb o e=>aV _ e;have I3:Inv X pins σ H1 { s1 with heap:=(s1.heap.push { cls:=.type "tuple_iterator",data:=.fields #[.ref t,.int 0 0]}).push { cls:=.type "enumerate",data:=.fields #[.none,.bool false,.ref s1.heap.objs.size,rawInt 0,.none,.none]}}:=I2.kept (t':=s1.toks) λb o e=>aV _ e;have he:IsEnum ((s1.heap.push { cls:=.type "tuple_iterator",data:=.fields #[.ref t,.int 0 0]}).push { cls:=.type "enumerate",data:=.fields #[.none,.bool false,.ref s1.heap.objs.size,rawInt 0,.none,.none]}) (s1.heap.push { cls:=.type "tuple_iterator",data:=.fields #[.ref t,.int 0 0]}).objs.size s1.heap.objs.size 0 .none:=bC _ rfl;have hit:((s1.heap.push { cls:=.type "tuple_iterator",data:=.fields #[.ref t,.int 0 0]}).push { cls:=.type "enumerate",data:=.fields #[.none,.bool false,.ref s1.heap.objs.size,rawInt 0,.none,.none]}).IsTupleIter s1.heap.objs.size t 0:=⟨_,aV _ (bC _ rfl),rfl,rfl⟩;have hne:(s1.heap.push { cls:=.type "tuple_iterator",data:=.fields #[.ref t,.int 0 0]}).objs.size≠s1.heap.objs.size:=by rw[eL];exact ne_of_gt (fP _)
 refine wpAny_pyIter_enum he ⟨_,[_,s1.heap.objs.size],_,_,H1,rfl,I3,HY t _ s1.heap.objs.size hne,⟨⟨.none,he⟩,hit⟩,λb hb=>?_,q⟩;have hb':b=(s1.heap.push { cls:=.type "tuple_iterator",data:=.fields #[.ref t,.int 0 0]}).objs.size\/b=s1.heap.objs.size:=by simpa using hb
 rcases hb' with rfl|rfl
 ·exact I1.F4 (by rw[eL];exact Nat.le_succ _) (I2.hok.fresh (aO _))
 ·exact I1.F4 (aO _) (I1.hok.fresh (aO _))
end
end L2
namespace L2
open PySem PySem.Spec PyProof.Rows
open PySem.SeqAt
open PySem.AutoSeq1 (wpAny_loadPart')
open PySem.MeetsSeq PySem.MeetsSeq2 PySem.MeetsSeq3 PySem.SeqAt
section
variable {X:Cx}
def OB:pB X (binaryOp .FloorDiv) (rI (λ_ j=>0<j/\j<18446744073709551616) λi j=>.int (i / j)):=opI λi j _ _ _ _ _ hc q=>by
 have h1:(0:Int)<j:=hc.1;have h2:j<18446744073709551616:=hc.2;refine floordiv_int () (by rw[Int.fdiv_eq_ediv_of_nonneg i ()];exact q) (.inl (PyProof.noPylong_of_log2 ?_));exact bU ((Nat.log2_lt ()).mpr (show j.natAbs<2 ^ 64 by lia)) ⋯
end
end L2
namespace L2
open PySem PySem.Spec PyProof.Rows
noncomputable def Its (x:Str):It:=⟨λi _=>i<x.cps.size,λi H v H'=>H'=H/\∃c,x.cps[i]?=some c/\v=.str ⟨#[c]⟩,λi _=>i=x.cps.size⟩
def PM{P:aj}{w:ah}{K:au}(x:Str)(t:Tok)(it:ak):Turn P w K tg (Its x) [it] it (λi h=>h.IsStrIter it "str_ascii_iterator" x t i) where
 mem:=by simp
 obj:=λi h st b hb=>by
  have e:b=it:=by simpa using hb
  subst e;obtain⟨o,e,c,d⟩:=st;exact⟨o,e,λv z=>by rw[d]at z;cases z⟩
 keep:=λi h h' st k=>let⟨o,ho,r⟩:=st;⟨o,k it (by simp) o ho,r⟩
 item:=by
  z_go;subst hP hw hK;obtain⟨f0,f1,f2,f3,f4,f5⟩:=hf it (by simp);have W:=Walks.strAscii (prog:=X.prog) (w:=X.w) (I.ok.hd hc) it x t;refine W.item i s _ _ hg st λv h' tk hv st' kk=>?_;obtain⟨c,u,hcx,rfl⟩:=hv;have I1:Inv X pins σ H { s with heap:=h',toks:=tk }:=I.turned (λb o hb e=>kk b o (by simpa using hb) e) f0 f1 f3 f4 f5;obtain⟨o,e,cc,d⟩:=id st';exact⟨_,rfl,GN (s:={ s with heap:=h',toks:=tk }) e cc d ⋯ ⟨.str ⟨#[c]⟩,H,I1,⟨u,rfl⟩,⟨rfl,c,hcx,rfl⟩,st',λb hb=>(hf b hb).1⟩⟩
 done:=by
  z_go;subst hP hw hK;obtain⟨f0,f1,f2,f3,f4,f5⟩:=hf it (by simp);have hg:i=x.cps.size:=hg;subst hg;have W:=Walks.strAscii (prog:=X.prog) (w:=X.w) (I.ok.hd hc) it x t;exact W.done s _ _ st λh' tk kk=>⟨rfl,I.turned (λb o hb e=>kk b o (by simpa using hb) e) f0 f1 f3 f4 f5⟩
 self:=λ_ _ _ _ _ st h=>wpAny_pyIter_striter_ascii st h
section
variable {X:Cx}{tg:aC}
noncomputable def acd (tl:TE):TI:=λσ H R=>tl σ H λx H1=>∃y:Str,x=.str y/\y.cps.all (· < 128)=true/\R (Its y) H1
def Ys{l:aC}{tl:TE}(hl:PE X l tl):PI X tg l (acd tl):=by
 intro pins s σ H R I h;refine nP (hl pins s σ H _ I h) λv s1 h9=>?_;obtain⟨x,H1,I1,r1,q1⟩:=h9;obtain⟨y,e,ha,q⟩:=q1;subst e;obtain⟨t,rfl⟩:=r1;refine wpAny_pyIter_ascii ha ?_;refine⟨s1.heap.objs.size,[s1.heap.objs.size],_,_,H1,rfl,I1.kept (t':=s1.toks) λb o e=>aV _ e,PM y t _,⟨_,bC _ rfl,rfl,rfl⟩,λb hb=>?_,q⟩;have e:b=s1.heap.objs.size:=by simpa using hb
 subst e;exact I1.F4 (aO _) (I1.hok.fresh (aO _))
def Mb:kJ X (.type "int") (λxs H Q=>∃(y:Str) (n:Int),xs=[.str y]/\y.length<=640/\PySem.intText? y=some n/\Q (.int n) H):=by
 intro pins s σ H xs us Q I rv h;obtain⟨y,n,rfl,hl,hn,q⟩:=h;obtain⟨w,rfl,rw'⟩:=vals1 rv;obtain⟨u,rfl⟩:=rw';exact PySem.W.KIN.call_text hn hl ⟨.int n,H,I.tok _,⟨_,rfl⟩,q⟩
end
section
variable {κ:Type}[DecidableEq κ]
noncomputable def qE (kvs:List (κ×V))(k:κ):Option V:=(kvs.find? λkv=>decide (kv.1=k)).map (·.2)
noncomputable def putK (kvs:List (κ×V))(k:κ)(v:V):List (κ×V):=
 if (kvs.any λkv=>decide (kv.1=k))=true then kvs.map (λkv=>if kv.1=k then(kv.1,v)else kv)else kvs++[(k,v)]
def uF{p:κ×V}{r:List (κ×V)}{k:κ}(e:p.1=k):qE (p::r) k=some p.2:=by simp[qE,cP,e]
def uC{p:κ×V}{r:List (κ×V)}{k:κ}(e:¬p.1=k):qE (p::r) k=qE r k:=by simp[qE,cP,e]
theorem xC(k:κ):∀kvs:List (κ×V),(kvs.any λkv=>decide (kv.1=k))=(qE kvs k).isSome
 | []=>rfl
 | p::r=>by
  rw[fZ];by_cases e:p.1=k
  ·dsimp[uF e,bf e,Bool.true_or,i9]
  ·rw[uC e,bu e,gD];exact xC k r
def um(kvs:List (κ×V))(k:κ)(v:V):(putK kvs k v).length<=kvs.length+1:=by
 unfold putK;split
 ·rw[aH];lia
 ·rw[aR,bg,bQ];lia
def yK.yz{o:Option V}{u:Option af}(r:yK o u):o.isSome=u.isSome:=by
 cases o with
 | none=>cases u with
  | none=>rfl
  | some _=>exact(show False from r).elim
 | some _=>cases u with
  | none=>exact(show False from r).elim
  | some _=>rfl
def yK.getD{o:Option V}{u:Option af}(r:yK o u)(rd:RelV d d'):RelV (o.getD d) (u.getD d'):=by
 cases o with
 | none=>cases u with
  | none=>exact rd
  | some _=>exact(show False from r).elim
 | some _=>cases u with
  | none=>exact(show False from r).elim
  | some _=>exact r
def KV.val(r:KV kvs vs)(k:κ):yK (qE kvs k) (valueAt vs k):=by
 unfold KV at r
 induction r with
 | nil=>exact True.intro
 | @cons p q ps qs h t ih=>
  obtain⟨h1,h2⟩:=h;by_cases e:p.1=k
  ·have e':q.1=k:=h1.symm.trans e;have b:valueAt (q::qs) k=some q.2:=by simp[valueAt,cP,e']
   rw[uF e,b];exact h2
  ·have e':¬q.1=k:=λz=>e (h1.trans z);have b:valueAt (q::qs) k=valueAt qs k:=by simp[valueAt,cP,e']
   rw[uC e,b];exact ih
def KV.any{kvs:List (κ×V)}{vs:List (κ×af)}(r:KV kvs vs)(k:κ):(kvs.any λkv=>decide (kv.1=k))=vs.any λkv=>decide (kv.1=k):=by
 unfold KV at r
 induction r with
 | nil=>rfl
 | cons h t ih=>rw[fZ,fZ,ih,h.1]
def KV.repl{kvs:List (κ×V)}{vs:List (κ×af)}(r:KV kvs vs)(k:κ)(ry:RelV y u) :
  KV (kvs.map λkv=>if kv.1=k then(kv.1,y)else kv) (vs.map λkv=>if kv.1=k then(kv.1,u)else kv):=by
 unfold KV at r ⊢
 induction r with
 | nil=>exact .nil
 | @cons p q ps qs h t ih=>
  rw[bD,bD];refine .cons ?_ ih;obtain⟨h1,h2⟩:=h;by_cases e:p.1=k
  ·rw[aM e,aM (h1.symm.trans e)];exact⟨h1,ry⟩
  ·rw[aK e,aK (λz=>e (h1.trans z))];exact⟨h1,h2⟩
def KV.put(r:KV kvs vs)(k:κ)(ry:RelV y u):KV (putK kvs k y) (stored vs k u):=by
 unfold putK stored;rw[r.any k];by_cases e:(vs.any λkv=>decide (kv.1=k))=true
 ·rw[aM e,aM e];exact r.repl k ry
 ·rw[aK e,aK e];exact Paired.snoc r ⟨rfl,ry⟩
def KV.length{kvs:List (κ×V)}{vs:List (κ×af)}(r:KV kvs vs):kvs.length=vs.length:=jj r
end
def Fy{P:aj}{w:ah}{k:Key}(r:RelV (kV k) u):(kP P w).is k u=true:=by
 cases k with
 | inl i=>obtain⟨t,e⟩:=(show ∃t,u=Value.int i t from r);subst e;exact EY P w i t
 | inr x=>obtain⟨t,e⟩:=(show ∃t,u=Value.str x t from r);subst e;exact F5 P w x t
theorem CN{P:aj}{w:ah}:∀{ks:List Key}{us:ba},Vals (ks.map kV) us->ItemsAre (kP P w) ks us
 | [],_,r=>by rw[gq]at r;cases r;exact .nil
 | k::ks,_,r=>by
  rw[bD]at r
  cases r with
  | cons h t=>exact .cons (Fy h) (CN t)
noncomputable abbrev KT (H:Hp):List (List Key×V)->List (List Key×ak×af)->Prop:=Paired λp q=>p.1=q.1/\H q.2.1=some (.tup (p.1.map kV))/\RelV p.2 q.2.2
def KT.val{H:Hp}(r:KT H kvs xs)(k:List Key):yK (qE kvs k) ((atKey xs k).map (·.2)):=by
 induction r with
 | nil=>exact True.intro
 | @cons p q ps qs h t ih=>
  obtain⟨h1,_,h2⟩:=h;by_cases e:p.1=k
  ·have e':q.1=k:=h1.symm.trans e;have b:atKey (q::qs) k=some q.2:=by simp[atKey,cP,e']
   rw[uF e,b];exact h2
  ·have e':¬q.1=k:=λz=>e (h1.trans z);have b:atKey (q::qs) k=atKey qs k:=by simp[atKey,cP,e']
   rw[uC e,b];exact ih
def KT.repl{H:Hp}{kvs:List (List Key×V)}{xs:List (List Key×ak×af)}(r:KT H kvs xs)(k:List Key)(ry:RelV y u) :
  KT H (kvs.map λkv=>if kv.1=k then(kv.1,y)else kv) (xs.map (putAt k u)):=by
 induction r with
 | nil=>exact .nil
 | @cons p q ps qs h t ih=>
  rw[bD,bD];refine .cons ?_ ih;obtain⟨h1,h2,h3⟩:=h;unfold putAt;by_cases e:p.1=k
  ·rw[aM e,aM (h1.symm.trans e)];exact⟨h1,h2,ry⟩
  ·rw[aK e,aK (λz=>e (h1.trans z))];exact⟨h1,h2,h3⟩
def KT.put{H:Hp}(r:KT H kvs xs)(k:List Key)(hb:H b=some (.tup (k.map kV)))(ry:RelV y u) :
  KT H (putK kvs k y) (storedH xs k b u):=by
 have e:(kvs.any λkv=>decide (kv.1=k))=(atKey xs k).isSome:=by
  rw[xC,(r.val k).yz,gZ]
 unfold putK storedH;rw[e];by_cases q:(atKey xs k).isSome=true
 ·rw[aM q,aM q];exact r.repl k ry
 ·rw[aK q,aK q];exact Paired.snoc r ⟨rfl,hb,ry⟩
def KT.keeps{H H':Hp}(r:KT H kvs xs)(ht:∀b ys,H b=some (.tup ys)->H' b=some (.tup ys)):KT H' kvs xs:=
 Paired.Xr r λ_ _ z=>⟨z.1,ht _ _ z.2.1,z.2.2⟩
section
variable {P:aj}{w:ah}{H:Hp}{h:aq}{a:ak}
def V0(ok:xq P w H h)(e:Rd H a u):lY P w H h a u:=e.ok ok
def EZ{kvs:List (Key×V)}(ok:xq P w H h)(e:Rd H a (.dK kvs)):kvs.length<=sizeLine/\(a == sysModules)=false/\∃vs,KV kvs vs/\h.DictOf (kP P w) a vs:=
 show lY P w H h a (.dK kvs)from V0 ok e
def V3{kvs:List (Key×V)}(ok:xq P w H h)(e:H a=some (.dK kvs)):kvs.length<=sizeLine/\(a == sysModules)=false/\∃vs,KV kvs vs/\h.DictOf (kP P w) a vs:=EZ ok (.inl e)
def zb{ks:List Key}(ok:xq P w H h)(e:H a=some (.tup (ks.map kV))):(tupleKind (kP P w)).is h ks a:=by
 obtain⟨_,its,r,o,h1,h2,_,n,h3⟩:=(show lY P w H h a (.tup (ks.map kV))from ok a _ e);exact⟨o,its.toArray,n,h1,h2,h3,by simpa using CN r⟩
def Fj{kvs:List (List Key×V)}(ok:xq P w H h)(e:Rd H a (.dT kvs)):kvs.length<=sizeLine/\(a == sysModules)=false /\
  ∃xs,KT H kvs xs/\h.DictOfH (tupleKind (kP P w)) a xs:=by
 obtain⟨z,y,xs,r,o,es,ep,h1,h2,h3,h4,h5⟩:=(show lY P w H h a (.dT kvs)from V0 ok e);refine⟨z,y,xs,r,o,es,ep,h1,h2,h3,h4,λx hx=>?_,h5⟩;have all:∀{l:List (List Key×V)} {m:List (List Key×ak×af)},KT H l m->∀x∈m,(tupleKind (kP P w)).is h x.1 x.2.1:=by
  intro l m q
  induction q with
  | nil=>intro x hx;exact nomatch hx
  | @cons p q ps qs hq t ih=>
   intro x hx
   rcases bw.mp hx with e|hx
   ·subst e;exact zb ok (by rw[<- hq.1];exact hq.2.1)
   ·exact ih x hx
 exact all r x hx
def P4{kvs:List (List Key×V)}(ok:xq P w H h)(e:H a=some (.dT kvs)):kvs.length<=sizeLine/\(a == sysModules)=false /\
  ∃xs,KT H kvs xs/\h.DictOfH (tupleKind (kP P w)) a xs:=Fj ok (.inl e)
end
noncomputable def wQ (H:Hp)(a:ak)(y:V)(r:Option V):Prop:=
 (∃kvs k,Rd H a (.dK kvs)/\y=kV k/\r=qE kvs k)\/∃kvs k b,Rd H a (.dT kvs)/\y=.ref b/\H b=some (.tup (k.map kV))/\r=qE kvs k
noncomputable def FF (H:Hp)(a:ak)(y v:V)(H':Hp):Prop:=
 (∃kvs k,H a=some (.dK kvs)/\y=kV k/\kvs.length<sizeLine/\H'=upd H a (.dK (putK kvs k v))) \/
 ∃kvs k b,H a=some (.dT kvs)/\y=.ref b/\H b=some (.tup (k.map kV))/\kvs.length<sizeLine/\H'=upd H a (.dT (putK kvs k v))
theorem wQ.k{H:Hp}{a:ak}{k:Key}(e:H a=some (.dK kvs)):wQ H a (kV k) (qE kvs k):=.inl ⟨kvs,k,.inl e,rfl,rfl⟩
def wQ.t{H:Hp}{a:ak}{k:List Key}(e:H a=some (.dT kvs))(eb:H b=some (.tup (k.map kV))):wQ H a (.ref b) (qE kvs k):=.inr ⟨kvs,k,b,.inl e,rfl,eb,rfl⟩
theorem FF.k{H:Hp}{a:ak}{kvs:List (Key×V)}{k:Key}{v:V}(e:H a=some (.dK kvs))(hl:kvs.length<sizeLine):FF H a (kV k) v (upd H a (.dK (putK kvs k v))):=.inl ⟨kvs,k,e,rfl,hl,rfl⟩
def FF.t{H:Hp}{a:ak}{kvs:List (List Key×V)}{k:List Key}{v:V}(e:H a=some (.dT kvs))(eb:H b=some (.tup (k.map kV)))(hl:kvs.length<sizeLine) :
  FF H a (.ref b) v (upd H a (.dT (putK kvs k v))):=.inr ⟨kvs,k,b,e,rfl,eb,hl,rfl⟩
section
variable {X:Cx}{pins:bd}{σ:St}{H:Hp}{s:aA}{a:ak}{y v:V}{u r:af}{o:Option V}{A:az}{E:af->aA->Prop}
def Inv.big(I:Inv X pins σ H s):sysModules<s.heap.objs.size:=by
 have h:mainGlobals<s.heap.objs.size:=(I.mod.glob.keeps I.bk).lt;exact lt_trans ⋯ h
def Mm{Q:af->aA->Prop}(hu:A.units+1<cLine)(I:Inv X pins σ H s)(g:wQ H a y (some v))(ry:RelV y u)(h:∀w' s',Inv X pins σ H s'->RelV v w'->Q w' s') :
  wpAny (model X.prog X.w) A (getItem (.ref a) u) Q E s:=by
 rcases g with⟨kvs,k,e,ey,l⟩|⟨kvs,k,b,e,ey,eb,l⟩
 ·subst ey;obtain⟨z,hd,vs,rel,dd⟩:=EZ I.hok e;obtain⟨w',hw,rw'⟩:=yK.some_of (v:=v) (o:=valueAt vs k) (by rw[l];exact rel.val k);exact wpAny_getItem_of (Fy ry) dd.mapOf hw (h w' _ (I.tok _) rw')
 ·subst ey
  cases(show u=Value.ref b from ry)
  obtain⟨z,hd,xs,rel,dd⟩:=Fj I.hok e;obtain⟨w',hw,rw'⟩:=yK.some_of (v:=v) (o:=(atKey xs k).map (·.2)) (by rw[l];exact rel.val k);obtain⟨p,hp,hp2⟩:=aX.mp hw;refine wpAny_getItem_heap (fV hu) (zb I.hok eb) dd hp ?_;rw[hp2];exact h w' _ (I.tok _) rw'
def Ua{Q:af->aA->Prop}(hu:A.units+1<cLine)(I:Inv X pins σ H s)(g:wQ H a y o)(ry:RelV y u)(h:∀s',Inv X pins σ H s'->Q (.bool (!o.isSome)) s') :
  wpAny (model X.prog X.w) A (compareOp .NotIn u (.ref a)) Q E s:=by
 rcases g with⟨kvs,k,e,ey,l⟩|⟨kvs,k,b,e,ey,eb,l⟩
 ·subst ey;obtain⟨z,hd,vs,rel,dd⟩:=EZ I.hok e;refine wpAny_notIn_of (Fy ry) hd dd.mapOf ?_;rw[<- (rel.val k).yz,<- l];exact h _ (I.tok _)
 ·subst ey
  cases(show u=Value.ref b from ry)
  obtain⟨z,hd,xs,rel,dd⟩:=Fj I.hok e;refine wpAny_notIn_heap (fV hu) (zb I.hok eb) hd dd ?_;have q:=(rel.val k).yz;rw[gZ]at q;rw[<- q,<- l];exact h _ (I.tok _)
def Kl{h':aq}{t':Nat}{ob:HO}(I:Inv X pins σ H s)(mu:Zl (H a))(hs:Heap.SameBut a s.heap h')(he:∃q,h'.get? a=some q)(new:lY X.prog X.w (upd H a ob) h' a ob) :
  Inv X pins σ (upd H a ob) { s with heap:=h',toks:=t' }:=
 I.write (x:=a) (e:=a) mu (.inl rfl) (λb q hb z=>(hs.2 b hb).trans z) he new
def NG{P:aj}{w:ah}{H':Hp}{h':aq}{kvs:List (Key×V)}(z:kvs.length<=sizeLine)(hd:(a == sysModules)=false)(rel:KV kvs vs)(dd:h'.DictOf (kP P w) a vs) :
  lY P w H' h' a (.dK kvs):=⟨z,hd,vs,rel,dd⟩
def Mv{H':Hp}{Q:Unit->aA->Prop}(hu:A.units+1<cLine)(I:Inv X pins σ H s)(g:FF H a y v H')(ry:RelV y u)(rv:RelV v r)(h:∀s',Inv X pins σ H' s'->Q Unit.unit s') :
  wpAny (model X.prog X.w) A (setItem (.ref a) u r) Q E s:=by
 rcases g with⟨kvs,k,e,ey,l,eH⟩|⟨kvs,k,b,e,ey,eb,l,eH⟩
 ·subst ey eH;obtain⟨z,hd,vs,rel,dd⟩:=V3 I.hok e;have hz:vs.length<=sizeLine:=by rw[<- rel.length];exact z
  have hl:(putK kvs k v).length<=sizeLine:=by have:=um kvs k v;lia
  refine wpAny_setItem_pairs (hsz:=hz) (Fy ry) dd λh' dd' hs=>h _ ?_;have he:∃q,h'.get? a=some q:=let⟨q,_,_,hq,_⟩:=dd';⟨q,hq⟩
  exact Kl I (by rw[e];exact True.intro) hs he (NG hl hd (rel.put k rv) dd')
 ·subst ey eH
  cases(show u=Value.ref b from ry)
  obtain⟨z,hd,xs,rel,dd⟩:=P4 I.hok e;have hz:xs.length<=sizeLine:=by rw[<- jj rel];exact z
  have hl:(putK kvs k v).length<=sizeLine:=by have:=um kvs k v;lia
  refine wpAny_setItem_heap (hsz:=hz) (fV hu) (zb I.hok eb) dd λh' dd' hs=>h _ ?_;obtain⟨q,es,ep,hq,h2,h3,h4,_,h5⟩:=dd';refine Kl I (by rw[e];exact True.intro) hs ⟨q,hq⟩ ⟨hl,hd,_,(rel.put k eb rv).keeps λc ys ec=>?_,q,es,ep,hq,h2,h3,h4,h5⟩;rw[jU (ZH ec e (λz=>nomatch z))];exact ec
end
def GA{X:Cx}{H:Hp}{s:aA}{a:ak}(I:Inv X pins σ H s)(g:wQ H a y o):s.TypeIs (.ref a) "dict" := by
 rcases g with⟨kvs,k,e,_,_⟩|⟨kvs,k,b,e,_,_,_⟩
 ·obtain⟨_,_,vs,_,dd⟩:=EZ I.hok e;exact dd.typeIs
 ·obtain⟨_,_,xs,_,dd⟩:=Fj I.hok e;exact dd.typeIs
def PF{P:aj}{w:ah}{H:Hp}(h:aq)(hb:sysModules<h.objs.size):lY P w H (h.push { cls:=.type "dict",data:=.dict #[]}) h.objs.size (.dK []):=
 ⟨bL _,d_.mpr (dj (bF hb)),[],.nil,Heap.DictOf.new h⟩
def P9{P:aj}{w:ah}{H:Hp}(h:aq)(hb:sysModules<h.objs.size):lY P w H (h.push { cls:=.type "dict",data:=.dict #[]}) h.objs.size (.dT []):=
 ⟨bL _,d_.mpr (dj (bF hb)),[],.nil,_,#[],0,bC _ rfl,⟨rfl,rfl,rfl⟩,rfl,rfl,dM⟩
noncomputable def W2:TE:=λ_ H Q=>∀p,H p=none->Q (.ref p) (upd H p (.dK []))
noncomputable def WD:TE:=λ_ H Q=>∀p,H p=none->Q (.ref p) (upd H p (.dT []))
section
variable {X:Cx}{pos:Pos}
def Nh:PE X (.Dict [] [] pos) W2:=λpins s σ H Q I h=>
 wpAny_Dict_empty ⟨.ref s.heap.objs.size,_,I.laid (a:=s.heap.objs.size) (o:=.dK []) (t':=s.toks) (λ_ _ q=>aV _ q) (aO _) (PF s.heap I.big),rfl,h _ (I.hok.fresh (aO _))⟩
def Qg:PE X (.Dict [] [] pos) WD:=λpins s σ H Q I h=>
 wpAny_Dict_empty ⟨.ref s.heap.objs.size,_,I.laid (a:=s.heap.objs.size) (o:=.dT []) (t':=s.toks) (λ_ _ q=>aV _ q) (aO _) (P9 s.heap I.big),rfl,h _ (I.hok.fresh (aO _))⟩
end
structure M1 (X:Cx)(o:aC)(m:Str)(apos:Pos)(e:aC)(cpos:Pos):Prop where
 base:attributeBase o m X.env (eval o X.env)=eval o X.env
 few:((backTo cpos (starEach [e] X.env)).all (λx=>!x.1) && (backToKw cpos (keywordEach [] X.env)).all (λx=>x.1.isSome)
  && decide (([e]:List aC).length+([]:List Keyword).length+(if ([]:List Keyword).isEmpty then 0 else 1)<30))=true
 line:(apos.endLine == cpos.line)=true
 trees:backTo cpos (starEach [e] X.env)=[(false,eval e X.env)]
structure M2 (X:Cx)(o:aC)(m:Str)(apos:Pos)(e f:aC)(cpos:Pos):Prop where
 base:attributeBase o m X.env (eval o X.env)=eval o X.env
 few:((backTo cpos (starEach [e,f] X.env)).all (λx=>!x.1) && (backToKw cpos (keywordEach [] X.env)).all (λx=>x.1.isSome)
  && decide (([e,f]:List aC).length+([]:List Keyword).length+(if ([]:List Keyword).isEmpty then 0 else 1)<30))=true
 line:(apos.endLine == cpos.line)=true
 trees:backTo cpos (starEach [e,f] X.env)=[(false,eval e X.env),(false,eval f X.env)]
section
variable {X:Cx}{pins:bd}{σ:St}{H:Hp}{s:aA}{a:ak}{y d:V}{u r:af}{o:Option V}{A:az}{E:af->aA->Prop}
def W7{Q:af->aA->Prop}(hu:A.units+1<cLine)(I:Inv X pins σ H s)(g:wQ H a y o)(ry:RelV y u)(rd:RelV d r)(h:∀w' s',Inv X pins σ H s'->RelV (o.getD d) w'->Q w' s') :
  wpAny (model X.prog X.w) A (call (.builtin "dict.get") [.ref a,u,r]) Q E s:=by
 rcases g with⟨kvs,k,e,ey,l⟩|⟨kvs,k,b,e,ey,eb,l⟩
 ·subst ey;obtain⟨z,hd,vs,rel,dd⟩:=EZ I.hok e;refine call_meetsIn dO dd.typeIs g_ (gS _ _ _) (meets_dict_get_default (kP X.prog X.w) a (Fy ry) hd r) ⟨_,dd.mapOf,h _ _ (I.tok _) ?_⟩;rw[l];exact(rel.val k).getD rd
 ·subst ey
  cases(show u=Value.ref b from ry)
  obtain⟨z,hd,xs,rel,dd⟩:=Fj I.hok e;refine call_meetsIn dO dd.typeIs g_ (gS _ _ _) (meetsH_dict_get_default (tupleKind (kP X.prog X.w)) a b hd r) ⟨fV hu,k,xs,zb I.hok eb,dd,h _ _ (I.tok _) ?_⟩;rw[l];exact(rel.val k).getD rd
end
section
variable {X:Cx}
def KS(hu:X.A.units+1<cLine):VU X (λx y H Q=>∃a v,x=.ref a/\wQ H a y (some v)/\Q v H):=by
 intro value slice pins s σ H x y v u Q I rx ry h hs;obtain⟨a,z,rfl,g,q⟩:=h
 cases rx
 have hT:=GA I g;unfold subscriptTail;refine aG ?_;rw[getitemInPython_of_ne hT.not_modules];refine aG (wpAny_specialOf hT PySem.F.slot_dict_getitem.lookup ?_);have fin:wpAny (model X.prog X.w) X.A (subscripted slice false (.ref a) u) (λr s₃=>wpAny (model X.prog X.w) X.A (letTemporaryGo value (.ref a) r >>= λ_=>pure r) (EP X pins σ Q) X.xe s₃) X.xe s:=by
  rw[hs];exact wpAny_operating (Mm hu I g ry λw' s3 I3 rw'=>aG (wpAny_letTemporaryGo (aS ⟨z,H,I3,rw',q⟩)))
 first
  | exact aS (aG fin)
  | exact aG (aS (aG fin))
  | exact aG fin
def Mn(hu:X.A.units+1<cLine):pB X (compareOp .NotIn) (λy x H Q=>∃a o,x=.ref a/\wQ H a y o/\Q (.bl (!o.isSome)) H):=by
 intro pins s σ H y x v u Q I ry rx h;obtain⟨a,o,rfl,g,q⟩:=h
 cases rx
 exact Ua hu I g ry λs3 I3=>⟨.bl (!o.isSome),H,I3,rfl,q⟩
def set_dict(hu:X.A.units+1<cLine):LL X (λo i v H Q=>∃a H',o=.ref a/\FF H a i v H'/\Q H'):=by
 intro pins s σ H o i v ov iv u Q I ro ri rv h;obtain⟨a,H',rfl,g,q⟩:=h
 cases ro
 exact Mv hu I g ri rv λs4 I4=>⟨H',I4,q⟩
noncomputable def Zw:V->List V->Hp->VK->Prop:=λx vs H Q=>∃a b ks kvs y,x=.ref a/\vs=[.ref b,y]/\H a=some (.dT kvs)/\H b=some (.tup (ks.map kV))/\Q ((qE kvs ks).getD y) H
def UT(hu:X.A.units+1<cLine):MtM X "dict.get" Zw:=by
 intro pins s σ H x vs v us Q I rx rv h;obtain⟨a,b,ks,kvs,y,rfl,rfl,ea,eb,q⟩:=h
 cases rx
 cases rv with
 | @cons _ u1 _ G5 r1 rv=>
  cases rv with
  | @cons _ u2 _ GS r2 rv=>
   cases rv
   cases r1
   obtain⟨z,hd,xs,rel,dd⟩:=P4 I.hok ea;refine call_meetsIn dO dd.typeIs g_ (gS _ _ _) (meetsH_dict_get_default (tupleKind (kP X.prog X.w)) a b hd u2) ⟨fV hu,ks,xs,zb I.hok eb,dd,?_⟩;refine⟨(qE kvs ks).getD y,H,I.tok _,?_,q⟩;have rl:=rel.val ks
   cases e1:qE kvs ks with
   | none=>
    rw[e1]at rl
    cases e2:(atKey xs ks).map (·.2)with
    | none=>exact r2
    | some w'=>rw[e2]at rl;exact rl.elim
   | some w1=>
    rw[e1]at rl
    cases e2:(atKey xs ks).map (·.2)with
    | none=>rw[e2]at rl;exact rl.elim
    | some w'=>rw[e2]at rl;exact rl
end
section
theorem kt_at{H:Hp}:∀{kvs:List (List Key×V)}{xs:List (List Key×ak×af)},KT H kvs xs->kvs.length=xs.length/\∀(i:Nat) (p:List Key×V),kvs[i]?=some p->∃y:List Key×ak×af,xs[i]?=some y/\p.1=y.1/\H y.2.1=some (.tup (p.1.map kV))/\RelV p.2 y.2.2
 | [],[],_=>⟨rfl,λi p h=>by simp at h⟩
 | [],_::_,r=>nomatch r
 | _::_,[],r=>nomatch r
 | a::kvs,b::xs,.cons z r=>by
  obtain⟨l,q⟩:=kt_at r;refine⟨by simp[l],λi p h=>?_⟩
  cases i with
  | zero=>
   have:a=p:=by simpa using h
   subst this;exact⟨b,rfl,z⟩
  | succ i=>exact q i p (by simpa using h)
end
noncomputable def C0 (e:ak)(h:aq):Prop:=∃o vs,h.get? e=some o/\o.data=.fields vs/\vs[2]?=some .none/\o.dict=none
structure Fly (l:List Env)(g:aq)(pn:bd)(H:Hp)(e:ak)(cls:af)(h:aq):Prop where
 ex:∃(B:aq) (a0:af),Heap.FlyingW B l e cls a0 h/\(∀a u,H a=some u->∃o,B.get? a=some o)/\(∀b o,g.get? b=some o->b∉frs l->∃o',B.get? b=some o')/\(∀p∈pn,∃o',B.get? p.1=some o')/\C0 e h
structure Made (X:Cx)(H:Hp)(e:ak)(cls:af)(g:aq)(h:aq):Prop where
 ex:∃(g':aq) (vs:ba),Heap.MadeExcOf g' h e cls vs/\g'.FunFrames X.base X.stack/\(∀a u,H a=some u->∃o,g'.get? a=some o)/\(∀b o,g.get? b=some o->∃o',g'.get? b=some o')/\(∀p∈X.pn,∃o',g'.get? p.1=some o')
noncomputable def Yn (X:Cx)(H:Hp)(e:ak)(cls:af)(s':aA):Prop:=Made X H e cls X.s₀.heap s'.heap\/Fly X.stack X.s₀.heap X.pn H e cls s'.heap
section
noncomputable def EX (X:Cx):XK:=λcls _ H'=>X.ex=[]/\∀pins σ' s' e,Inv X pins σ' H' s'->Yn X H' e cls s'->X.xe (.ref e) s'
end
inductive FParts (X:Cx):List aC->List (Str ⊕ TE)->Prop
 | nil:FParts X [] []
 | txt {x:Str} {j pos} {es:List aC} {ps:List (Str ⊕ TE)} (h:FParts X es ps):FParts X (.Constant (.str x) j pos::es) (.inl x::ps)
 | val {e:aC} {pos:Pos} {t:TE} {es:List aC} {ps:List (Str ⊕ TE)} (he:PE X e t) (h:FParts X es ps):FParts X (.FormattedValue e (-1) none pos::es) (.inr t::ps)
noncomputable def xu:HO:=.ext λ_=>True
structure XO (C:ak)(o:Obj):Prop where
 cls:o.cls=.ref C
 dict:o.dict=none
 ctx:∃vs,o.data=.fields vs/\vs[2]?=some .none
structure Fr0 (X:Cx)(e:ak):Prop where
 no:∀o,X.s₀.heap.get? e≠some o
 tup:∀xs,X.H₀ e≠some (.tup xs)
 frz:∀o u,X.H₀ e≠some (.frz o u)
 tbl:∀ps,X.H₀ e≠some (.tbl ps)
noncomputable def mroIn (K:au)(C:ak):Option (ba):=match K.lookup C with
 | some ⟨.type "type",_,.cls cd,sl⟩=>(match cd.mro,sl.toList with
  | .ref C'::bm,[_,_,_,_,some (.builtin _),_]=>if C'=C/\cd.hasDel=false then some bm else none
  | _,_=>none)
 | _=>none
structure ClsAt (h:aq)(C:ak)(bm:ba):Prop where
 ex:∃nm q N bs hdct sn sub ab col dd k0 k1 k2 k3 k5 newId,h.get? C=some (excClassObj nm q C N bs bm hdct sn sub ab col dd k0 k1 k2 k3 k5 newId)
open PySem.W in
structure XCls (K:au)(C:ak):Prop where
 ga:findIn K (.ref C) "__getattribute__" = some (some (.builtin "BaseException.__getattribute__"))
 gt:findIn K (.ref C) "__getattr__" = some none
 fc:findObj K C none "__class__" = some (.bind (.builtin "getset_descriptor.__get__") (.builtin "object.__class__"))
 ob:PySem.W.mroIn K C (.type "object")=some true
 bs:subIn K (.ref C) (.type "BaseException")=some true
noncomputable def YF (A:az):az:={ A with handled:=none }
noncomputable def ZP (k:Nat)(A:az):Prop:=Room k (YF A)
structure Hnd (A:az)(H:Hp)(e:ak)(oe:Obj)(C:ak):Prop where
 hh:A.handled=some (.ref e)
 h0:H e=some (.frz oe xu)
 xo:XO C oe
structure FnOkH (P:aj)(w:ah)(K:au)(mg:Str->Option af)(base:aq)(k:Nat)(f:ak)(fd:FuncData)(ps:ar)(sp:Sp):Prop where
 len:∀vs H Q E,sp vs H Q E->vs.length=ps.length
 run:∀(A:az) (outer:List Env) (s:aA) (H:Hp) (args:Args) (us:ba) (vs:List V) (Q:VK) (e:ak) (oe:Obj) (C:ak),ZP k A->Hnd A H e oe C->Env0 P w K mg base A outer s H->BindsTo s fd args (ps.zip us)->Vals vs us->sp vs H Q E0 ->
  codeAny (model P w) A (.call (.ref f) args) (CR pY outer P w H s Q E0) s
end L2
namespace L2
open PySem PySem.Spec PyProof.Rows PySem.SeqAt
def E7:bootBuiltins "reversed" = some (.type "reversed"):=by decide +kernel
def owner_lri:Manifest.owners.lookup (String.ofList ['r','o','t','a','r','e','t','i','e','s','r','e','v','e','r','_','t','s','i','l'].reverse)=some Manifest.sig_list_reverseiterator:=by kernel_rfl
def slot_lri_next:Slot "list_reverseiterator" "__next__" "list_reverseiterator.__next__" :=
 .of (owner := "list_reverseiterator") (n := "__next__") (by rw[iP,f7];kernel_rfl) ∅ ∅ ∅
  (by first|exact .inl ∅|exact .inr ∅) (by rw[gf];kernel_rfl)
def entry_lri_next:entryFor table "list_reverseiterator.__next__" = some Builtin.«list_reverseiterator.__next__»:=entryFor_of_tree (by kernel_rfl)
def wo(a:af):argsOk "list_reverseiterator.__next__" ⟨[a],[]⟩:=by
 unfold argsOk;rw[signature?_of (id := "list_reverseiterator.__next__") (n:=['_','_','t','x','e','n','_','_']) (o:=['r','o','t','a','r','e','t','i','e','s','r','e','v','e','r','_','t','s','i','l']) (by kernel_rfl) owner_lri];kernel_rfl
def slot_lri_iter:Slot "list_reverseiterator" "__iter__" "list_reverseiterator.__iter__" :=
 .of (owner := "list_reverseiterator") (n := "__iter__") (by rw[iP,f7];kernel_rfl) ∅ ∅ ∅
  (by first|exact .inl ∅|exact .inr ∅) (by rw[gf];kernel_rfl)
def entry_lri_iter:entryFor table "list_reverseiterator.__iter__" = some Builtin.«dict_keyiterator.__iter__»:=
 entryFor_alias (id' := "dict_keyiterator.__iter__") (by kernel_rfl) (by first|rfl|decide +kernel|(unfold String.splitOn;simp +decide [String.splitOnAux])) ∅ (by kernel_rfl)
def B7(a:af):argsOk "list_reverseiterator.__iter__" ⟨[a],[]⟩:=by
 unfold argsOk;rw[signature?_of (id := "list_reverseiterator.__iter__") (n:=['_','_','r','e','t','i','_','_']) (o:=['r','o','t','a','r','e','t','i','e','s','r','e','v','e','r','_','t','s','i','l']) (by kernel_rfl) owner_lri];kernel_rfl
def wB:Slot "reversed" "__init__" "object.__init__" :=
 .of (owner := "object") (n := "__init__") (by rw[iP,f7];kernel_rfl) ∅ ∅ ∅
  (by first|exact .inl ∅|exact .inr ∅) (by rw[gf];kernel_rfl)
def mro_reversed:mroOf (.type "reversed")=pure [.type "reversed",.type "object"]:=by rw[mroOf_type];kernel_rfl
def lookup_reversed_new:typeLookup (.type "reversed") "__new__" = pure (some (.builtin "reversed.__new__")):=by rw[iP,f7];kernel_rfl
def zB:TypeCalled "reversed" "reversed.__new__" "object.__init__" :=
 ⟨by decide +kernel,by decide +kernel,⟨_,_,mro_reversed⟩,madeBy_type mro_reversed lookup_reversed_new ∅,by decide +kernel,by rw[gf];kernel_rfl,wB⟩
def typeCall_reversed_1(a:af):checkTypeCall "reversed" ⟨[a],[]⟩=pure Unit.unit:=by kernel_rfl
def newCall_reversed_1(a:af):checkBuiltinCall "reversed.__new__" ⟨[.type "reversed",a],[]⟩=pure Unit.unit:=by kernel_rfl
def entry_reversed_new:entryFor table "reversed.__new__" = some Builtin.«reversed.__new__»:=entryFor_of_tree (by kernel_rfl)
def sub_lri_reversed:isSubtype (.type "list_reverseiterator") (.type "reversed")=pure false:=by rw[gf];kernel_rfl
def DU:isSubtype (.type "reversed") (.type "reversed")=pure true:=by rw[gf];kernel_rfl
section
variable {prog:aj}{w:ah}{A:az}{E:af->aA->Prop}{s:aA}
def callType_other{Q:af->aA->Prop}(ft:TypeCalled T newId "object.__init__")
  (hct:checkTypeCall T ⟨args,[]⟩=pure Unit.unit) (hcn:checkBuiltinCall newId ⟨.type T::args,[]⟩=pure Unit.unit)
  (entryN:entryFor table newId=some Bn) (g:Meets (Bn ⟨.type T::args,[]⟩) S) (hns:isSubtype (.type T') (.type T)=pure false)
  (h:S A.in1 (wants (λobj s₁=>s₁.TypeIs obj T'/\Q obj s₁) E) s):wpAny (model prog w) A (call (.type T) args) Q E s:=by
 obtain⟨c,tl,hmro⟩:=ft.mro;have hmade:=ft.made;refine wpAny_call (codeAny_of_tree ?_)
 skip
 refine aS ⟨Code.quiet_builtin _ ∅,gJ F.entry_type_call ?_⟩;rw[Around.under_plain (weight_type_call_type T args []) (units_type_call_type T args [])];have h1:=ft.notType;have h2:=ft.canCreate
 repeat (any_goals (first|assumption|wp_step))
 refine iV (codeAny_call_builtin ft.plain entryN (iK hcn (g prog w A.in1 _ s h))) λr s₁ hr=>?_
 cases r with
 | error e=>exact hr
 | ok fl=>
  cases fl with
  | ret obj=>
   obtain⟨hT,hq⟩:=hr
   repeat (any_goals (first|assumption|wp_step))
  | _=>exact hr.elim
end
noncomputable def uI (h:aq)(a l:ak)(i:Int):Prop:=∃o,h.get? a=some o/\o.cls=.type "list_reverseiterator" /\ o.data=.fields #[.ref l,rawInt i]
def uI.typeIs{s:aA}{a l:ak}{i:Int}(x:uI s.heap a l i):s.TypeIs (.ref a) "list_reverseiterator" := let⟨o,ho,hc,_⟩:=x;⟨o,ho,hc⟩
def uI.at{h h':aq}{a l:ak}{i:Int}(x:uI h a l i)(k:∀o,h.get? a=some o->h'.get? a=some o):uI h' a l i:=let⟨o,ho,r⟩:=x;⟨o,k o ho,r⟩
section
variable {prog:aj}{w:ah}{A:az}{E:af->aA->Prop}{s:aA}
def A7{l:ak}{i:Int}{Q:af->aA->Prop}(hz:uI s.heap it l i)(h:Q (.ref it) s):wpAny (model prog w) A (pyIter (.ref it)) Q E s:=by
 refine wpAny_pyIter_slot hz.typeIs slot_lri_iter (cR slot_lri_iter hz.typeIs entry_lri_iter ?_ (B7 _))
 skip
 exact aS ⟨_,rfl, "list_reverseiterator",_,hz.typeIs,slot_lri_next.lookup,h⟩
def zw{l:ak}{i:Nat}{x:af}{Q:Option af->aA->Prop}(hit:uI s.heap it l i)
  (ht:s.heap.IsList l items) (hx:items[i]?=some x) (hQ:∀h',uI h' it l ((i:Int)-1)->Heap.SameBut it s.heap h'->Q (some x) { s with heap:=h' }) :
  wpAny (model prog w) A (pyNext (.ref it)) Q E s:=by
 obtain⟨o,ho,hc,hd⟩:=id hit;obtain⟨ol,hol,_,nl,hdl⟩:=ht;unfold pyNext;refine aG (iI (c7 (name:=Str.ofString "__next__") hit.typeIs slot_lri_next
  (cR slot_lri_next hit.typeIs entry_lri_next ?_ (wo _))))
 show wpAny _ _ (field (.ref it) 1 >>= _) _ _ s;refine aG (fh ho hd (x:=rawInt i) rfl ?_);show wpAny _ _ (if (i:Int)<0 then _ else _) _ _ s;rw[aK ()]
 skip
 refine aG (fh ho hd (x:=.ref l) rfl ?_)
 skip
 refine aG (i8 hol hdl ?_);dsimp[cZ,hx];refine aG (gY ho hd (by simp) (aS ⟨x,rfl,aS (hQ _ ?_ (fM ..))⟩));exact⟨_,f6 _ ho (iA (eO hd _)),(jd ..).trans hc,by
  rw[eO hd];simp[rawInt]⟩
def Az{l:ak}{i:Int}{Q:Option af->aA->Prop}(hh:A.handled=none)(hit:uI s.heap it l i)(hi:i<0)
  (hQ:∀h',(∀b o,s.heap.get? b=some o->h'.get? b=some o)->Q none { s with heap:=h' }):wpAny (model prog w) A (pyNext (.ref it)) Q E s:=by
 obtain⟨o,ho,hc,hd⟩:=id hit;unfold pyNext;refine aG (iI (c7 (name:=Str.ofString "__next__") hit.typeIs slot_lri_next
  (cR slot_lri_next hit.typeIs entry_lri_next ?_ (wo _))))
 show wpAny _ _ (field (.ref it) 1 >>= _) _ _ s;refine aG (fh ho hd (x:=rawInt i) rfl ?_);show wpAny _ _ (if i<0 then _ else _) _ _ s;rw[aM hi];refine aG (eS ?_);refine aG ?_
 skip
 refine aG ?_;dsimp[newExc,newTuple];refine aG (ck ?_ (by size_fits));refine aG (m:=firstArgMember _ _) (iK (a:=Value.none) (by first|rfl|(dsimp[firstArgMember];rfl)) ?_);refine ck ?_ (by size_fits);dsimp[raiseNew];refine aG (wpAny_handled ?_)
 first|rw[show A.in1.handled=none from hh]|rw[hh]
 refine aG (aS (wpAny_throw ?_));refine aG (wpAny_isInstance (T := "StopIteration") (b:=true) ⟨_,bC _ rfl,rfl⟩ isSubtype_stop ?_);exact aS (hQ _ λb o e=>aV _ (aV _ e))
end
def ML(l:ak)(items:Array af)(n:Nat)(dd:Option ak)(sl:Array (Option af)) :
  Meets (Builtin.«list.__reversed__» ⟨[.ref l],[]⟩) (λ_ R s=>s.heap.get? l=some { cls:=.type "list",dict:=dd,data:=.seq items n,slots:=sl }/\R (.ok (.ret (Value.ref s.heap.objs.size))) { s with heap:=s.heap.push { cls:=Value.type "list_reverseiterator",data:=Data.fields #[Value.ref l,rawInt (((items.size:Nat):Int)-1)]},toks:=s.toks }):=
 .of_wp λprog w A R s h=>by obtain⟨hp,g,d,tk,os⟩:=s;obtain⟨hl,h⟩:=h;wp_walk using cX hl;exact⟨_,rfl,h⟩
def AH(l:ak)(items:Array af)(n:Nat)(dd:Option ak)(sl:Array (Option af)) :
  Meets (Builtin.«reversed.__new__» ⟨[.type "reversed",.ref l],[]⟩) (λ_ R s=>s.heap.get? l=some { cls:=.type "list",dict:=dd,data:=.seq items n,slots:=sl } /\
   R (.ok (.ret (.ref s.heap.objs.size))) { s with heap:=s.heap.push { cls:=Value.type "list_reverseiterator",data:=Data.fields #[Value.ref l,rawInt (((items.size:Nat):Int)-1)]}}):=
 .of_wp λprog w A R s h=>by
  obtain⟨hp,g,d,tk,os⟩:=s;obtain⟨hl,h⟩:=h;have hsub:=DU;have hlk:=iL.lookup;have hT:Shared.TypeIs ⟨hp,g,d,tk,os⟩ (.ref l) "list" := ⟨_,hl,rfl⟩
  wp_walk using cX hl,wpAny_specialOf hT hlk
  refine iK (iL.bind (.ref l)) ?_;show wpAny _ _ (if (Value.builtin "list.__reversed__" == Value.none)=true then _ else _) _ _ _;rw[aK (show ¬((Value.builtin "list.__reversed__" == Value.none)=true)from by decide)];refine aG (eS ?_)
  skip
  refine aG (i7 iL ⟨_,hl,rfl⟩ F.entry_list_reversed (F.args_list_reversed_1 _) (ML l items n dd sl) ⟨hl,?_⟩);exact aS ⟨_,rfl,h⟩
noncomputable def Itv (K:au)(a:ak)(n:Nat):It:=
 ⟨λi H=>i<n/\∃xs x,pL K H a xs/\xs[n-1-i]?=some x,λi H x H'=>H'=H/\∀xs y,pL K H a xs->xs[n-1-i]?=some y->x=y,λi H=>n<=i⟩
def QX{P:aj}{w:ah}{K:au}(a it:ak)(n:Nat) :
  Turn P w K tg (Itv K a n) [it] it (λi h=>uI h it a ((n:Int)-1-i)) where
 mem:=by simp
 obj:=λi h st b hb=>by
  rw[aP]at hb;subst hb;obtain⟨o,e,c,d⟩:=st;exact⟨o,e,λv z=>by rw[d]at z;cases z⟩
 keep:=λi h h' st k=>st.at λo ho=>k it (by simp) o ho
 item:=by
  z_go;subst hP hw hK;obtain⟨hi,xs,x,hq,hx⟩:=hg;obtain⟨its,rv,p,hz⟩:=I.list hq;obtain⟨u,hu,ru⟩:=rv.get hx;obtain⟨i0,i1,i2,i3,i4,i5⟩:=hf it (by simp);refine zw (i:=n-1-i) (by rw[show(((n-1-i:Nat)):Int)=(n:Int)-1-i by lia];exact st) p.isList (x:=u) (by simpa using hu) λh' hit' hs'=>?_;obtain⟨oo,e1,c1,d1⟩:=id hit';refine⟨u,rfl,GN (s:={ s with heap:=h' }) e1 c1 d1 ⋯ ⟨x,H,I.turned (t':=s.toks) (λb o hb q=>hs'.extBut b o hb q) i0 i1 i3 i4 i5,ru,⟨rfl,λys y hy hyi=>?_⟩,?_,λb hb=>?_⟩⟩
  ·rw[I.GO hy hq,hx]at hyi;exact a_ hyi
  ·rw[show(n:Int)-1-((i+1:Nat):Int)=((n-1-i:Nat):Int)-1 by lia];exact hit'
  ·rw[aP]at hb;rw[hb];exact i0
 done:=by
  z_go;subst hP hw hK;have hg:n<=i:=hg;exact Az (I.ok.hd hc) st () λh' hk=>⟨rfl,I.kept (t':=s.toks) hk⟩
 self:=λ_ _ _ _ _ st h=>A7 st h
section
variable {X:Cx}
noncomputable def abi (K:au)(ta:TA):TI:=λσ H R=>ta σ H λvs H1=>∃a xs,vs=[.ref a]/\pL K H1 a xs/\R (Itv K a xs.length) H1
def WL{a:aC}{ta:TA}{p:Pos}(hg:Gl X "reversed")(hm:X.mg "reversed" = none)(ha:PA X [a] ta)(hs:starEach [a] X.env=[(false,eval a X.env)]:=by rfl):PI X tg (.Call (.Name "reversed" p) [a] [] pos) (abi X.K ta):=by
 intro pins s σ H R I h;refine Call_ (wU I hg hm E7 (dG (nP (ha pos pins s σ H _ I h) λus s1 ⟨vs,H1,I1,r1,q1⟩=>?_) hs rfl));obtain⟨t,xs,e,hq,q⟩:=q1;subst e;obtain⟨u,rfl,rx⟩:=vals1 r1
 cases rx
 obtain⟨its,rv,⟨⟨cls,dd,data,sl⟩,n,g1,g2,g3,g4⟩,hz⟩:=I1.list hq;simp only at g2 g3 g4;subst g2 g3 g4;have hl:=rv.length;refine callType_other (T' := "list_reverseiterator") zB (typeCall_reversed_1 _) (newCall_reversed_1 _) entry_reversed_new (AH t its.toArray n none sl) sub_lri_reversed ⟨g1,⟨_,bC _ rfl,rfl⟩,?_⟩;have I2:Inv X pins σ H1 { s1 with heap:=s1.heap.push { cls:=.type "list_reverseiterator",data:=.fields #[.ref t,rawInt (((its.toArray.size:Nat):Int)-1)]}}:=I1.kept (t':=s1.toks) λb o e=>aV _ e;have he:uI (s1.heap.push { cls:=.type "list_reverseiterator",data:=.fields #[.ref t,rawInt (((its.toArray.size:Nat):Int)-1)]}) s1.heap.objs.size t ((xs.length:Int)-1-((0:Nat):Int)):=⟨_,bC _ rfl,rfl,by rw[aY,hl];simp⟩;refine A7 he ⟨_,[s1.heap.objs.size],_,_,H1,rfl,I2,QX t _ xs.length,he,λb hb=>?_,q⟩;rw[aP]at hb;rw[hb];exact I1.F4 (aO _) (I1.hok.fresh (aO _))
end
end L2
namespace Sx
open PySem PyProof.Rows
structure Ord where
 lt:Nat->Nat->Bool
 MV:∀i,lt i i=false
 tr:∀i j k,lt i j=true->lt j k=true->lt i k=true
 neg:∀i j k,lt i k=true->lt i j=true\/lt j k=true
noncomputable def P (o:Ord)(i j:Nat):Prop:=o.lt i j=true\/(o.lt j i=false/\i<j)
def Ord.acj(o:Ord)(h:o.lt i j=true):o.lt j i=false:=by
 cases e:o.lt j i with
 | false=>rfl
 | true=>have:=o.tr _ _ _ h e;rw[o.MV]at this;cases this
def P.MV(h:P o i i):False:=by
 rcases h with h|⟨_,h⟩
 ·rw[o.MV]at h;cases h
 ·lia
def P.trans{k:Nat}(a:P o i j)(b:P o j k):P o i k:=by
 rcases a with a|⟨a,a'⟩
 ·rcases b with b|⟨b,b'⟩
  ·exact .inl (o.tr _ _ _ a b)
  ·rcases o.neg i k j a with z|z
   ·exact .inl z
   ·rw[b]at z;cases z
 ·rcases b with b|⟨b,b'⟩
  ·rcases o.neg j i k b with z|z
   ·rw[a]at z;cases z
   ·exact .inl z
  ·refine .inr ⟨?_,()⟩
   cases e:o.lt k i with
   | false=>rfl
   | true=>
    rcases o.neg k j i e with z|z
    ·rw[b]at z;cases z
    ·rw[a]at z;cases z
def P.of_lt{o:Ord}(h:o.lt i j=true):P o i j:=.inl h
def P.zj{o:Ord}(h:o.lt j i=false)(hij:i<j):P o i j:=.inr ⟨h,hij⟩
def P.lt{o:Ord}(h:P o i j)(hij:j<i):o.lt i j=true:=by
 rcases h with h|⟨_,h⟩
 ·exact h
 ·lia
def P.ge{o:Ord}(h:P o i j):o.lt j i=false:=by
 rcases h with h|⟨h,_⟩
 ·exact o.acj h
 ·exact h
noncomputable def So (o:Ord)(g:Nat->Nat)(a b:Nat):Prop:=∀i j,a<=i->i<j->j<b->P o (g i) (g j)
noncomputable def Cl (g:Nat->Nat)(a b:Nat):Prop:=∀i,a<=i->i<b->a<=g i/\g i<b
noncomputable def rev (g:Nat->Nat)(i j:Nat):Nat->Nat:=λk=>if i<=k/\k<j then g (i+j-1-k)else g k
noncomputable def mv (g:Nat->Nat)(src dst:Nat):Nat->Nat:=λk=>if k=dst then g src else if dst<k/\k<=src then g (k-1)else g k
def BU{g:Nat->Nat}{k:Nat}(h:i<=k)(h2:k<j):rev g i j k=g (i+j-1-k):=aM ⟨h,h2⟩
def qa{g:Nat->Nat}{k:Nat}(h:k<i\/j<=k):rev g i j k=g k:=aK ()
def NB{g:Nat->Nat}:mv g s d d=g s:=aM rfl
def Gw{g:Nat->Nat}{k:Nat}(h:d<k)(h2:k<=s):mv g s d k=g (k-1):=by
 unfold mv;rw[aK (),aM ⟨h,h2⟩]
def D8{g:Nat->Nat}{k:Nat}(hd:d<=s)(h:k<d\/s<k):mv g s d k=g k:=by
 unfold mv;rw[aK (),aK ()]
section
variable {prog:aj}{w:ah}{A:az}{E:af->aA->Prop}{s:aA}{o:Ord}{N:Nat}{f:Nat->Keyed}{kd:SortKind}{g:Nat->Nat}{p:Array (Nat×Nat×Nat)}{st:SortSt}
noncomputable def Ci (prog:aj)(w:ah)(A:az)(s:aA)(o:Ord)(N:Nat)(f:Nat->Keyed)(kd:SortKind):Prop:=
 ∀i j,i<N->j<N->∀(E':af->aA->Prop) (Q:Bool->aA->Prop),Q (o.lt i j) s->wpAny (model prog w) A (keyLt' kd (f i).1 (f j).1) Q E' s
structure Sg (N:Nat)(f:Nat->Keyed)(kd:SortKind)(g:Nat->Nat)(p:Array (Nat×Nat×Nat))(st:SortSt):Prop where
 size:(arrOf st).size=N
 get:∀i,i<N->(arrOf st)[i]?=some (f (g i))
 lt:∀i,i<N->g i<N
 kind:kindOf st=kd
 failed:failedOf st=none
 pend:pendingOf st=p
def BF(C:Ci prog w A s o N f kd)(hk:kindOf st=kd)(hi:i<N)(hj:j<N){Q:Option Bool->SortSt->Prop}(q:Q (some (o.lt i j)) st):wpS (model prog w) A E s (lt' (f i) (f j)) Q st:=by
 rw[lt'_eq];refine aZ (h_ ?_);rw[hk];refine aZ (wpS_lift (iI (C i j hi hj _ _ ⟨rfl,?_⟩)));exact bz q
def kG{xs:Array Keyed}{i:Nat}{x:Keyed}(e:xs[i]?=some x){Q:Keyed->SortSt->Prop}(q:Q x st):wpS (model prog w) A E s (elem' xs i) Q st:=by
 rw[elem'_eq,e];exact bz q
def xx(C:Ci prog w A s o N f kd)(h:Sg N f kd g p st)(hi:i<N)(hj:j<N){Q:Option Bool->SortSt->Prop}(q:Q (some (o.lt (g i) (g j))) st):wpS (model prog w) A E s (ltAt' i j) Q st:=by
 rw[ltAt'_eq];refine aZ (h_ ?_)
 skip
 exact aZ (kG (h.get i hi) (aZ (kG (h.get j hj) (BF C h.kind (h.lt i hi) (h.lt j hj) q))))
def Sg.arr(h:Sg N f kd g p st){xs:Array Keyed}{g':Nat->Nat}(hs:xs.size=N)(hg:∀i,i<N->xs[i]?=some (f (g' i)))(hl:∀i,i<N->g' i<N):Sg N f kd g' p (setArr st xs):=⟨hs,hg,hl,h.kind,h.failed,h.pend⟩
def zK(h:Sg N f kd g p st)(hj:j<=N){Q:Unit->SortSt->Prop}(q:∀st',Sg N f kd (rev g i j) p st'->Q Unit.unit st'):wpS (model prog w) A E s (reverseSlice' i j) Q st:=by
 rw[reverseSlice'_eq];refine fW (q _ (h.arr (by rw[mirror_size];exact h.size) (λk hk=>?_) λk hk=>?_))
 ·rw[getElem?_mirror_all (by rw[h.size];exact hj)];unfold rev;by_cases c:i<=k/\k<j
  ·rw[aM c,aM c];exact h.get _ ()
  ·rw[aK c,aK c];exact h.get _ hk
 ·unfold rev;by_cases c:i<=k/\k<j
  ·rw[aM c];exact h.lt _ ()
  ·rw[aK c];exact h.lt _ hk
def WM(h:Sg N f kd g p st){a:Nat}(ha:a<N)(hb:b<=a){Q:Unit->SortSt->Prop}(q:∀st',Sg N f kd (mv g a b) p st'->Q Unit.unit st'):wpS (model prog w) A E s (moveDown' a b) Q st:=by
 rw[moveDown'_eq];refine fW (q _ (h.arr (by rw[bubble_size];exact h.size) (λk hk=>?_) λk hk=>?_))
 ·rw[getElem?_bubble (by rw[h.size];exact ha) _ (),show a-(a-b)=b by lia];unfold mv;by_cases c:k=b
  ·rw[aM c,aM c];exact h.get _ ha
  ·rw[aK c,aK c];by_cases c2:b<k/\k<=a
   ·rw[aM c2,aM c2];exact h.get _ ()
   ·rw[aK c2,aK c2];exact h.get _ hk
 ·unfold mv;by_cases c:k=b
  ·rw[aM c];exact h.lt _ ha
  ·rw[aK c];by_cases c2:b<k/\k<=a
   ·rw[aM c2];exact h.lt _ ()
   ·rw[aK c2];exact h.lt _ hk
structure Rn (o:Ord)(g0 g:Nat->Nat)(a b:Nat):Prop where
 out:∀i,i<a\/b<=i->g i=g0 i
 cl:Cl g a b
 so:So o g a b
def XH{g0:Nat->Nat}{lo k l:Nat}(R:Rn o g0 g lo (lo+k))(hk:g (lo+k)=lo+k)(hl:l<=k)(h1:∀i,i<l->P o (g (lo+i)) (lo+k))(h2:∀i,l<=i->i<k->P o (lo+k) (g (lo+i))):Rn o g0 (mv g (lo+k) (lo+l)) lo (lo+(k+1)) where
 out i hi:=by rw[D8 () ()];exact R.out i ()
 cl i a b:=by
  by_cases c:i=lo+l
  ·subst c;rw[NB,hk];lia
  ·by_cases c2:lo+l<i
   ·rw[Gw c2 ()];have:=R.cl (i-1) () ();lia
   ·rw[D8 () ()];have:=R.cl i () ();lia
 so i j a b d:=by
  by_cases c:i=lo+l
  ·subst c;rw[NB,Gw b (),hk];have:=h2 (j-1-lo) () ()
   rwa [show lo+(j-1-lo)=j-1 by lia]at this
  ·by_cases c2:lo+l<i
   ·rw[Gw c2 (),Gw () ()];exact R.so _ _ () () ()
   ·rw[D8 (k:=i) () ()];by_cases c3:j=lo+l
    ·subst c3;rw[NB,hk];have:=h1 (i-lo) ()
     rwa [show lo+(i-lo)=i by lia]at this
    ·by_cases c4:lo+l<j
     ·rw[Gw c4 ()];exact R.so _ _ () () ()
     ·rw[D8 () ()];exact R.so _ _ () () ()
def YG(C:Ci prog w A s o N f kd){g0:Nat->Nat}{lo n ok:Nat}(h:Sg N f kd g p st)(hn:lo+n<=N)(h1:1<=ok)(hok:ok<=n)(R:Rn o g0 g lo (lo+ok))(hid:∀i,lo+ok<=i->i<lo+n->g0 i=i)
  {Q:Bool->SortSt->Prop} (q:∀g' st',Sg N f kd g' p st'->Rn o g0 g' lo (lo+n)->Q true st'):wpS (model prog w) A E s (binarySort' lo n ok) Q st:=by
 rw[binarySort'_eq,show max ok 1=ok by lia];refine aZ (ef (cK (I:=λk c st'=>c=(none,Unit.unit)/\∃g',Sg N f kd g' p st'/\Rn o g0 g' lo (lo+min k n))
  (Q:=λc st'=>c=(none,Unit.unit)/\∃g',Sg N f kd g' p st'/\Rn o g0 g' lo (lo+n)) ?step ?fin ?init) ?post)
 case post=>
  rintro c st' ⟨rfl,g',h',R'⟩;exact bz (q g' st' h' R')
 case init=>exact⟨rfl,g,h,by rw[show min ok n=ok by lia];exact R⟩
 case fin=>
  rintro c st' ⟨hc,g',h',R'⟩;exact⟨hc,g',h',by rwa [show min (max ok n) n=n by lia]at R'⟩
 case step=>
  rintro k c st' hak hkn ⟨rfl,g',h',R'⟩;rw[show min k n=k by lia]at R';have gk:g' (lo+k)=lo+k:=by rw[R'.out _ ()];exact hid _ () ()
  refine aZ (ef (cK (I:=λx c s2=>s2=st'/\∃u v,c=(none,u,v)/\u<=v/\v<=k/\v-u<=k-x /\
    (∀i,i<u->P o (g' (lo+i)) (lo+k))/\(∀i,v<=i->i<k->P o (lo+k) (g' (lo+i))))
   (Q:=λc s2=>s2=st'/\∃u v,c=(none,u,v)/\u<=k /\
    (∀i,i<u->P o (g' (lo+i)) (lo+k))/\(∀i,u<=i->i<k->P o (lo+k) (g' (lo+i)))) ?istep ?ifin ?iinit) ?ipost)
  case iinit=>exact⟨rfl,0,k,rfl,(),(),(),λi hi=>(),λi h1 h2=>()⟩
  case ifin=>
   rintro c s2 ⟨rfl,u,v,rfl,huv,hvk,hm,low,top⟩;have:u=v:=()
   subst this;exact⟨rfl,u,u,rfl,hvk,low,top⟩
  case istep=>
   rintro x c s2 _ hxk ⟨rfl,u,v,rfl,huv,hvk,hm,low,top⟩;dsimp only;by_cases hge:u>=v
   ·rw[aM hge];have:u=v:=()
    subst this;exact bz ⟨rfl,u,u,rfl,hvk,low,top⟩
   ·rw[aK hge];have hmk:(u+v) / 2<k:=()
    have gm:=R'.cl (lo+(u+v) / 2) () ();refine aZ (xx C h' () () ?_);rw[gk]
    cases hless:o.lt (lo+k) (g' (lo+(u+v) / 2))
    case true=>
     dsimp[cJ];refine bz ⟨rfl,u,(u+v) / 2,rfl,(),(),(),low,λi h1 h2=>?_⟩;by_cases c:i=(u+v) / 2
     ·subst c;exact .inl hless
     ·exact(P.of_lt hless).trans (R'.so _ _ () () ())
    case false=>
     dsimp[bB,b9];refine bz ⟨rfl,(u+v) / 2+1,v,rfl,(),(),(),λi h1=>?_,top⟩;have last:=P.zj hless gm.2;by_cases c:i=(u+v) / 2
     ·subst c;exact last
     ·exact(R'.so _ _ () () ()).trans last
  case ipost=>
   rintro c s2 ⟨rfl,u,v,rfl,huk,low,top⟩;dsimp only;refine aZ (WM h' () () λst3 h3=>?_);refine bz ⟨rfl,_,h3,?_⟩;rw[show min (k+1) n=k+1 by lia];exact XH R' gk huk low top
end
noncomputable abbrev As:=Option (Option Nat)×Nat
noncomputable abbrev Ds:=Option (Option Nat)×Nat×Nat
noncomputable def RI (lo a nrem:Nat):StateT SortSt Sem As:=
 forIn [a:nrem] ((none,a):As) λ_ c=>do
  let x <- ltAt' (lo+c.2) (lo+c.2-1)
  match x with
  | some b=>if b=true then pure (ForInStep.done (none,c.2))else pure (ForInStep.yield (none,c.2+1))
  | _=>pure (ForInStep.done (some none,c.2))
noncomputable def GF (lo n nrem:Nat):StateT SortSt Sem (Option Nat):=do
 reverseSlice' lo (lo+n)
 let c <- RI lo n nrem
 match c.1 with
 | some r=>pure r
 | none=>pure (some c.2)
noncomputable def R_ (lo n nrem:Nat):StateT SortSt Sem Ds:=
 forIn [n:nrem] ((none,n,0):Ds) λ_ c=>do
  let x <- ltAt' (lo+c.2.1) (lo+c.2.1-1)
  match x with
  | some b=>
   if b=true then
    if c.2.2>0 then do
     reverseSlice' (lo+c.2.1-(c.2.2+1)) (lo+c.2.1)
     pure (ForInStep.yield (none,c.2.1+1,0))
    else pure (ForInStep.yield (none,c.2.1+1,0))
   else do
    let x <- ltAt' (lo+c.2.1-1) (lo+c.2.1)
    match x with
    | some b=>
     if b=true then pure (ForInStep.done (none,c.2.1,c.2.2))
     else pure (ForInStep.yield (none,c.2.1+1,c.2.2+1))
    | _=>pure (ForInStep.done (some none,c.2.1,c.2.2))
  | _=>pure (ForInStep.done (some none,c.2.1,c.2.2))
noncomputable def Rz (lo n nrem:Nat):StateT SortSt Sem (Option Nat):=do
 liftM (rule "list.sort.descending-run")
 let c <- R_ lo (n+1) nrem
 match c.1 with
 | some r=>pure r
 | none=>
  if c.2.2>0 then do
   reverseSlice' (lo+c.2.1-(c.2.2+1)) (lo+c.2.1)
   GF lo c.2.1 nrem
  else GF lo c.2.1 nrem
def count_eq(lo nrem:Nat):countRun' lo nrem=(do
  let c <- RI lo 1 nrem
  match c.1 with
  | some r=>pure r
  | none=>
   if (c.2 == nrem)=true then pure (some c.2)
   else if c.2>1 then do
    let x <- ltAt' lo (lo+c.2-1)
    match x with
    | some b=>if b=true then pure (some c.2)else do
      reverseSlice' lo (lo+c.2)
      Rz lo c.2 nrem
    | _=>pure none
   else Rz lo c.2 nrem):=by
 rw[countRun'_eq];dsimp only;unfold Rz GF R_ RI;congr 1
 funext c
 obtain⟨r,n⟩:=c
 cases r with
 | some r=>rfl
 | none=>
  dsimp only;split
  ·rfl
  ·split
   ·congr 1
    funext x
    cases x with
    | none=>rfl
    | some b=>
     dsimp only;split
     ·rfl
     ·congr 1
      funext _r
      congr 1
      funext _u
      congr 1;congr 1
      funext s2
      obtain⟨r2,n2,q2⟩:=s2
      cases r2 with
      | some r2=>rfl
      | none=>
       dsimp only;split
       ·congr 1
        funext _v
        congr 1
        funext _w
        congr 1
        funext s3
        obtain⟨r3,n3⟩:=s3
        cases r3<;>rfl
       ·congr 1
        funext _w
        congr 1
        funext s3
        obtain⟨r3,n3⟩:=s3
        cases r3<;>rfl
   ·congr 1
    funext _u
    congr 1;congr 1
    funext s2
    obtain⟨r2,n2,q2⟩:=s2
    cases r2 with
    | some r2=>rfl
    | none=>
     dsimp only;split
     ·congr 1
      funext _v
      congr 1
      funext _w
      congr 1
      funext s3
      obtain⟨r3,n3⟩:=s3
      cases r3<;>rfl
     ·congr 1
      funext _w
      congr 1
      funext s3
      obtain⟨r3,n3⟩:=s3
      cases r3<;>rfl
section
variable {prog:aj}{w:ah}{A:az}{E:af->aA->Prop}{s:aA}{o:Ord}{N:Nat}{f:Nat->Keyed}{kd:SortKind}{g g0:Nat->Nat}{p:Array (Nat×Nat×Nat)}{st:SortSt}
def Rn.snoc{a:Nat}(R:Rn o g0 g a b)(hab:a<b)(hb:g b=b)(h:o.lt b (g (b-1))=false):Rn o g0 g a (b+1) where
 out i hi:=R.out i ()
 cl i h1 h2:=by
  by_cases c:i=b
  ·subst c;lia
  ·have:=R.cl i h1 ();lia
 so i j h1 h2 h3:=by
  by_cases c:j=b
  ·subst c;rw[hb];have l:=R.cl (j-1) () ();have last:P o (g (j-1)) j:=P.zj h l.2;by_cases c2:i=j-1
   ·subst c2;exact last
   ·exact(R.so i (j-1) h1 () ()).trans last
  ·exact R.so i j h1 h2 ()
def PZ(C:Ci prog w A s o N f kd){lo a:Nat}(h:Sg N f kd g p st)(hn:lo+nrem<=N)(h1:1<=a)(han:a<=nrem)(R:Rn o g0 g lo (lo+a))(hid:∀i,lo+a<=i->i<lo+nrem->g0 i=i)
  {Q:As->SortSt->Prop} (q:∀n,a<=n->n<=nrem->Rn o g0 g lo (lo+n)->(n=nrem\/o.lt (lo+n) (g (lo+n-1))=true)->Q (none,n) st):wpS (model prog w) A E s (RI lo a nrem) Q st:=by
 unfold RI;refine cK (I:=λx c st'=>st'=st/\c=(none,x)/\Rn o g0 g lo (lo+x)) ?step ?fin ⟨rfl,rfl,R⟩
 case fin=>
  rintro c st' ⟨rfl,rfl,R'⟩;rw[show max a nrem=nrem by lia]at R' ⊢;exact q nrem han (aO _) R' (.inl rfl)
 case step=>
  rintro x c st' hax hxn ⟨rfl,rfl,R'⟩;dsimp only;have gx:g (lo+x)=lo+x:=by rw[R'.out _ ()];exact hid _ () ()
  refine aZ (xx C h () () ?_);rw[gx]
  cases hl:o.lt (lo+x) (g (lo+x-1))
  case true=>
   dsimp[cJ];exact bz (q x hax () R' (.inr hl))
  case false=>
   dsimp[bB,b9];exact bz ⟨rfl,rfl,R'.snoc () gx hl⟩
structure Dc (o:Ord)(g0 g:Nat->Nat)(a b q:Nat):Prop where
 out:∀i,i<a\/b<=i->g i=g0 i
 cl:Cl g a b
 few:a+(q+1)<=b
 dn:∀i j,a<=i->i<j->j<b->i<b-(q+1)->P o (g j) (g i)
 id:∀i,b-(q+1)<=i->i<b->g i=i
 al:∀i j,b-(q+1)<=i->i<b->b-(q+1)<=j->j<b->o.lt i j=false
def Dc.turn{a q:Nat}(D:Dc o g0 g a b q):(∀i,i<a\/b<=i->rev g (b-(q+1)) b i=g0 i)/\Cl (rev g (b-(q+1)) b) a b/\(∀i j,a<=i->i<j->j<b->P o (rev g (b-(q+1)) b j) (rev g (b-(q+1)) b i))/\(∀i,b-(q+1)<=i->i<b->∃k,rev g (b-(q+1)) b i=k/\b-(q+1)<=k/\k<b):=by
 have few:=D.few;have inn:∀i,b-(q+1)<=i->i<b->rev g (b-(q+1)) b i=b-(q+1)+b-1-i:=λi h1 h2=>by
  rw[BU h1 h2];exact D.id _ () ()
 refine⟨λi hi=>?_,λi h1 h2=>?_,λi j h1 h2 h3=>?_,λi h1 h2=>⟨_,inn i h1 h2,(),()⟩⟩
 ·rw[qa ()];exact D.out i hi
 ·by_cases c:i<b-(q+1)
  ·rw[qa ()];exact D.cl i h1 h2
  ·rw[inn i () h2];lia
 ·by_cases c:i<b-(q+1)
  ·rw[qa (k:=i) ()];by_cases c2:j<b-(q+1)
   ·rw[qa ()];exact D.dn i j h1 h2 h3 c
   ·rw[inn j () h3];have:=D.dn i (b-(q+1)+b-1-j) h1 () () c
    rwa [D.id _ () ()]at this
  ·rw[inn i () (),inn j () h3];exact P.zj (D.al _ _ () () () ()) ()
noncomputable def Fin (o:Ord)(g0 g:Nat->Nat)(a b:Nat):Prop:=(∀i,i<a\/b<=i->g i=g0 i)/\Cl g a b/\(∀i j,a<=i->i<j->j<b->P o (g j) (g i))
def Dc.GD{a:Nat}(D:Dc o g0 g a b 0):Fin o g0 g a b:=⟨D.out,D.cl,λi j h1 h2 h3=>D.dn i j h1 h2 h3 ()⟩
def Fin.rn{a:Nat}(D:Fin o g0 g a b):Rn o g0 (rev g a b) a b where
 out i hi:=by rw[qa hi];exact D.1 i hi
 cl i h1 h2:=by
  rw[BU h1 h2];exact D.2.1 _ () ()
 so i j h1 h2 h3:=by
  rw[BU h1 (),BU () h3];exact D.2.2 _ _ () () ()
def Fin.add{a:Nat}(D:Fin o g0 g a b)(hb:g b=b)(hab:a<b)(h:∀i,a<=i->i<b->P o b (g i)):Dc o g0 g a (b+1) 0 where
 out i hi:=D.1 i ()
 cl i h1 h2:=by
  by_cases c:i=b
  ·subst c;lia
  ·have:=D.2.1 i h1 ();lia
 few:=()
 dn i j h1 h2 h3 _:=by
  by_cases c:j=b
  ·subst c;rw[hb];exact h i h1 h2
  ·exact D.2.2 i j h1 h2 ()
 id i h1 h2:=by
  have:i=b:=()
  rw[this,hb]
 al i j h1 h2 h3 h4:=by
  have:i=j:=()
  rw[this];exact o.MV _
def ID(C:Ci prog w A s o N f kd){lo n:Nat}(h:Sg N f kd g p st)(hn:lo+nrem<=N)(h1:1<=n)(han:n<=nrem)(D:Fin o g0 g lo (lo+n))(hid:∀i,lo<=i->i<lo+nrem->g0 i=i)
  {Q:Option Nat->SortSt->Prop} (q:∀m g' st',Sg N f kd g' p st'->1<=m->m<=nrem->Rn o g0 g' lo (lo+m)->Q (some m) st'):wpS (model prog w) A E s (GF lo n nrem) Q st:=by
 unfold GF;refine aZ (zK h () λst2 h2=>?_);exact aZ (PZ C h2 hn h1 han D.rn (λi a b=>hid i () b) λm hm1 hm2 R _=>bz (q m _ _ h2 () hm2 R))
def Wf(C:Ci prog w A s o N f kd){lo n:Nat}(h:Sg N f kd g p st)(hn:lo+nrem<=N)(h1:1<=n)(han:n<=nrem)(D:Dc o g0 g lo (lo+n) 0)(hid:∀i,lo<=i->i<lo+nrem->g0 i=i)
  {Q:Ds->SortSt->Prop} (q:∀m e g' st',Sg N f kd g' p st'->1<=m->m<=nrem->Dc o g0 g' lo (lo+m) e->Q (none,m,e) st'):wpS (model prog w) A E s (R_ lo n nrem) Q st:=by
 unfold R_;refine cK (I:=λx c st'=>∃e g',c=(none,x,e)/\Sg N f kd g' p st'/\Dc o g0 g' lo (lo+x) e) ?step ?fin ⟨0,g,rfl,h,D⟩
 case fin=>
  rintro c st' ⟨e,g',rfl,h',D'⟩;rw[show max n nrem=nrem by lia]at D' ⊢;exact q nrem e g' st' h' () (aO _) D'
 case step=>
  rintro x c st' hax hxn ⟨e,g',rfl,h',D'⟩;dsimp only;have few:=D'.few;have gx:g' (lo+x)=lo+x:=by rw[D'.out _ ()];exact hid _ () ()
  have gy:g' (lo+x-1)=lo+x-1:=D'.id _ () ();refine aZ (xx C h' () () ?_);rw[gx,gy]
  cases hl:o.lt (lo+x) (lo+x-1)
  case true=>
   dsimp[cJ];by_cases he:e>0
   ·rw[aM he];obtain⟨t1,t2,t3,t4⟩:=D'.turn;refine aZ (zK h' () λst2 h2=>bz ⟨0,_,rfl,h2,?_⟩);refine Fin.add (b:=lo+x) ⟨t1,t2,t3⟩ (by rw[qa ()];exact gx) () λi a b=>?_;by_cases c:lo+x-(e+1)<=i
    ·obtain⟨k,ek,k1,k2⟩:=t4 i c b;rw[ek]
     rcases o.neg _ k _ hl with z|z
     ·exact .inl z
     ·rw[D'.al _ _ k1 k2 () ()]at z;cases z
    ·rw[qa ()];have:=D'.dn i (lo+x-1) a () () ();rw[gy]at this;exact(P.of_lt hl).trans this
   ·rw[aK he];have:e=0:=()
    subst this;refine bz ⟨0,_,rfl,h',Fin.add (b:=lo+x) D'.GD gx () λi a b=>?_⟩;by_cases c:i=lo+x-1
    ·subst c;rw[gy];exact .inl hl
    ·have:=D'.dn i (lo+x-1) a () () ();rw[gy]at this;exact(P.of_lt hl).trans this
  case false=>
   dsimp[bB,b9];refine aZ (xx C h' () () ?_);rw[gx,gy]
   cases hg:o.lt (lo+x-1) (lo+x)
   case true=>
    dsimp[cJ];exact bz (q x e g' st' h' () () D')
   case false=>
    dsimp[bB,b9];refine bz ⟨e+1,g',rfl,h',?_⟩;have eq1:∀i,lo+x-(e+1)<=i->i<lo+x->o.lt i (lo+x)=false/\o.lt (lo+x) i=false:=λi a b=>by
     constructor
     ·cases z:o.lt i (lo+x)with
      | false=>rfl
      | true=>
       rcases o.neg _ (lo+x-1) _ z with y|y
       ·rw[D'.al _ _ a b () ()]at y;cases y
       ·rw[hg]at y;cases y
     ·cases z:o.lt (lo+x) i with
      | false=>rfl
      | true=>
       rcases o.neg _ (lo+x-1) _ z with y|y
       ·rw[hl]at y;cases y
       ·rw[D'.al _ _ () () a b]at y;cases y
    exact {
     out:=λi hi=>D'.out i ()
     cl:=λi a b=>by
      by_cases c:i=lo+x
      ·subst c;lia
      ·have:=D'.cl i a ();lia
     few:=()
     dn:=λi j a b c d=>by
      by_cases z:j=lo+x
      ·subst z;rw[gx];have y:=D'.dn i (lo+x-1) a () () ();rw[gy]at y;have gi:=D'.cl i a ()
       rcases y with y|⟨_,y⟩
       ·rcases o.neg _ (lo+x) _ y with v|v
        ·rw[hg]at v;cases v
        ·exact .inl v
       ·lia
      ·exact D'.dn i j a b () ()
     id:=λi a b=>by
      by_cases z:i=lo+x
      ·subst z;exact gx
      ·exact D'.id i () ()
     al:=λi j a b c d=>by
      by_cases z:i=lo+x
      ·subst z;by_cases y:j=lo+x
       ·subst y;exact o.MV _
       ·exact(eq1 j () ()).2
      ·by_cases y:j=lo+x
       ·subst y;exact(eq1 i () ()).1
       ·exact D'.al i j () () () ()}
def Lb(C:Ci prog w A s o N f kd){lo n:Nat}(h:Sg N f kd g p st)(hn:lo+nrem<=N)(han:n+1<=nrem)(D:Dc o g0 g lo (lo+(n+1)) 0)(hid:∀i,lo<=i->i<lo+nrem->g0 i=i)
  {Q:Option Nat->SortSt->Prop} (q:∀m g' st',Sg N f kd g' p st'->1<=m->m<=nrem->Rn o g0 g' lo (lo+m)->Q (some m) st'):wpS (model prog w) A E s (Rz lo n nrem) Q st:=by
 unfold Rz;refine aZ (wpS_lift (eS ⟨rfl,?_⟩));refine aZ (Wf C h hn () han D hid λm e g' st' h' m1 m2 D'=>?_);dsimp only;by_cases he:e>0
 ·rw[aM he];obtain⟨t1,t2,t3,_⟩:=D'.turn;exact aZ (zK h' () λst2 h2=>ID C h2 hn m1 m2 ⟨t1,t2,t3⟩ hid q)
 ·rw[aK he];have:e=0:=()
  subst this;exact ID C h' hn m1 m2 D'.GD hid q
def Nn(C:Ci prog w A s o N f kd){lo:Nat}(h:Sg N f kd g p st)(hn:lo+nrem<=N)(h1:1<=nrem)(hid:∀i,lo<=i->i<lo+nrem->g i=i)
  {Q:Option Nat->SortSt->Prop} (q:∀m g' st',Sg N f kd g' p st'->1<=m->m<=nrem->Rn o g g' lo (lo+m)->Q (some m) st'):wpS (model prog w) A E s (countRun' lo nrem) Q st:=by
 rw[count_eq];refine aZ (PZ C h hn (aO 1) h1 (g0:=g) ⟨λ_ _=>rfl,λi a b=>?_,λi j a b c=>()⟩ (λi a b=>hid i () b) λn n1 n2 R hor=>?_)
 ·have:i=lo:=()
  subst this;rw[hid i (aO _) ()];lia
 dsimp only;by_cases hnn:n=nrem
 ·rw[aM (by simpa using hnn)];exact bz (q n g st h n1 n2 R)
 ·rw[aK (by simpa using hnn)];have hlt:=hor.resolve_left hnn;rw[hid (lo+n-1) () ()]at hlt;have gn:g (lo+n)=lo+n:=hid _ () ();by_cases hgt:n>1
  ·rw[aM hgt];refine aZ (xx C h () () ?_);rw[hid lo () (),hid (lo+n-1) () ()]
   cases hr:o.lt lo (lo+n-1)
   case true=>
    dsimp[cJ];exact bz (q n g st h n1 n2 R)
   case false=>
    dsimp[bB,b9];have id':∀i,lo<=i->i<lo+n->g i=i:=λi a b=>hid i a ();have pp:∀i j,lo<=i->i<j->j<lo+n->o.lt i j=false/\o.lt j i=false:=λi j a b c=>by
     have r:=R.so i j a b c;rw[id' i a (),id' j () c]at r;refine⟨?_,r.ge⟩
     cases z:o.lt i j with
     | false=>rfl
     | true=>
      rcases o.neg _ lo _ z with y|y
      ·by_cases x:i=lo
       ·subst x;rw[o.MV]at y;cases y
       ·have r2:=R.so lo i () () ();rw[id' i a (),id' lo () ()]at r2;rw[r2.ge]at y;cases y
      ·rcases o.neg _ (lo+n-1) _ y with x|x
       ·rw[hr]at x;cases x
       ·by_cases v:j=lo+n-1
        ·subst v;rw[o.MV]at x;cases x
        ·have r2:=R.so j (lo+n-1) () () ();rw[id' j () c,id' (lo+n-1) () ()]at r2;rw[r2.ge]at x;cases x
    refine aZ (zK h () λst2 h2=>Lb C h2 hn () ?_ hid q);have rin:∀i,lo<=i->i<lo+n->rev g lo (lo+n) i=lo+(lo+n)-1-i:=λi a b=>by rw[BU a b];exact id' _ () ()
    refine Fin.add (b:=lo+n) ⟨λi hi=>qa hi,λi a b=>by rw[rin i a b];lia,λi j a b c=>?_⟩ (by rw[qa ()];exact gn) () λi a b=>?_
    ·rw[rin i a (),rin j () c];exact P.zj (pp _ _ () () ()).2 ()
    ·rw[rin i a b];by_cases x:lo+(lo+n)-1-i=lo+n-1
     ·rw[x];exact .inl hlt
     ·rcases o.neg _ (lo+(lo+n)-1-i) _ hlt with z|z
      ·exact .inl z
      ·rw[(pp _ _ () () ()).1]at z;cases z
  ·rw[aK hgt];have:n=1:=()
   subst this;refine Lb C h hn () ?_ hid q;refine Fin.add (b:=lo+1) ⟨λi hi=>rfl,R.cl,λi j a b c=>()⟩ gn () λi a b=>?_;have:i=lo:=()
   subst this;rw[hid i () ()];rw[show i+1-1=i by lia]at hlt;exact .inl hlt
end
noncomputable def nq:Bool->Keyed->Array Keyed->Nat->Nat->Nat->StateT SortSt Sem (Option Nat):=sortPriv% PySem.Builtin.gallop
noncomputable def Ws (ask:Nat->StateT SortSt Sem (Option Bool))(n at0:Nat):StateT SortSt Sem (Option Nat):=do
 let mut was:=0
 let mut far:=1
 let mut low:=0
 let mut top:=0
 let some yes <- ask at0|return none
 if yes then
  let most:=n-at0
  for _ in [0:n] do
   if far>=most then break
   let some ok <- ask (at0+far)|return none
   if !ok then break
   was:=far
   far:=2 * far+1
  low:=at0+was+1
  top:=at0+min far most
 else
  let most:=at0+1
  for _ in [0:n] do
   if far>=most then break
   let some hit <- ask (at0-far)|return none
   if hit then break
   was:=far
   far:=2 * far+1
  low:=at0+1-min far most
  top:=at0-was
 for _ in [0:n] do
  if low>=top then break
  let m:=low+(top-low) / 2
  let some ok <- ask m|return none
  if ok then low:=m+1 else top:=m
 return some top
def CD(left:Bool)(key:Keyed)(arr:Array Keyed)(base n hint:Nat):nq left key arr base n hint=Ws (λi=>do
  let x <- elem' arr (base+i)
  if left then lt' x key else return (<- lt' key x).map (!·)) n hint:=rfl
section
variable {prog:aj}{w:ah}{A:az}{E:af->aA->Prop}{s:aA}{st:SortSt}
noncomputable def bsB (be:Nat->StateT SortSt Sem (Option Bool))(n l0 h0:Nat):StateT SortSt Sem (Option Nat):=do
 let mut low:=l0
 let mut top:=h0
 for _ in [0:n] do
  if low>=top then break
  let m:=low+(top-low) / 2
  let some ok <- be m|return none
  if ok then low:=m+1 else top:=m
 return some top
def Vq{be:Nat->StateT SortSt Sem (Option Bool)}{n h0:Nat}(b:Nat->Bool)(hbe:∀i,i<n->∀Q:Option Bool->SortSt->Prop,Q (some (b i)) st->wpS (model prog w) A E s (be i) Q st)(hb:∀i j,i<=j->j<n->b j=true->b i=true)
  (hlh:l0<=h0) (hn:h0<=n) (hl:∀i,i<l0->b i=true) (hh:∀i,h0<=i->i<n->b i=false)
  {Q:Option Nat->SortSt->Prop} (q:∀k,k<=n->(∀i,i<k->b i=true)->(∀i,k<=i->i<n->b i=false)->Q (some k) st):wpS (model prog w) A E s (bsB be n l0 h0) Q st:=by
 unfold bsB;refine aZ (ef (cK (I:=λx c st'=>st'=st/\∃lo hi,c=(none,lo,hi)/\lo<=hi/\hi<=n/\hi-lo<=n-x/\(∀i,i<lo->b i=true)/\(∀i,hi<=i->i<n->b i=false))
  (Q:=λc st'=>st'=st/\∃k,c=(none,k,k)/\k<=n/\(∀i,i<k->b i=true)/\(∀i,k<=i->i<n->b i=false)) ?step ?fin ⟨rfl,l0,h0,rfl,hlh,hn,(),hl,hh⟩) ?post)
 case post=>
  rintro c st' ⟨rfl,k,rfl,h1,h2,h3⟩;exact bz (q k h1 h2 h3)
 case fin=>
  rintro c st' ⟨rfl,lo,hi,rfl,h1,h2,h3,h4,h5⟩;have:lo=hi:=()
  subst this;exact⟨rfl,lo,rfl,h2,h4,h5⟩
 case step=>
  rintro x c st' _ hx ⟨rfl,lo,hi,rfl,h1,h2,h3,h4,h5⟩;dsimp only;by_cases hge:lo>=hi
  ·rw[aM hge];have:lo=hi:=()
   subst this;exact bz ⟨rfl,lo,rfl,h2,h4,h5⟩
  ·rw[aK hge];have hm:lo+(hi-lo) / 2<hi:=()
   obtain⟨m,hm'⟩:∃m,m=lo+(hi-lo) / 2:=⟨_,rfl⟩;rw[<- hm']at hm ⊢;refine aZ (hbe m () _ ?_)
   cases hv:b m
   ·dsimp[bB,b9];refine bz ⟨rfl,lo,m,rfl,(),(),(),h4,λi a c=>?_⟩
    cases z:b i with
    | false=>rfl
    | true=>rw[hb m i a c z]at hv;cases hv
   ·dsimp[cJ];exact bz ⟨rfl,m+1,hi,rfl,(),h2,(),λi a=>hb i m () () hv,h5⟩
def JA{be:Nat->StateT SortSt Sem (Option Bool)}{n:Nat}(b:Nat->Bool)(hbe:∀i,i<n->∀Q:Option Bool->SortSt->Prop,Q (some (b i)) st->wpS (model prog w) A E s (be i) Q st)(hb:∀i j,i<=j->j<n->b j=true->b i=true)(hh:hint<n)
  {Q:Option Nat->SortSt->Prop} (q:∀k,k<=n->(∀i,i<k->b i=true)->(∀i,k<=i->i<n->b i=false)->Q (some k) st):wpS (model prog w) A E s (Ws be n hint) Q st:=by
 unfold Ws;have hb':∀i j,i<=j->j<n->b i=false->b j=false:=λi j a c d=>by
  cases z:b j with
  | false=>rfl
  | true=>rw[hb i j a c z]at d;cases d
 refine aZ (hbe hint hh _ ?_)
 cases hr:b hint
 ·dsimp only;dsimp[bB,b9];refine aZ (ef (cK (I:=λx c st'=>st'=st/\∃l u,c=(none,l,u)/\x+1<=u/\l<u/\l<=hint/\b (hint-l)=false)
   (Q:=λc st'=>st'=st/\∃l u,c=(none,l,u)/\l<u/\l<=hint/\b (hint-l)=false/\(u>=hint+1\/b (hint-u)=true)) ?step ?fin ⟨rfl,0,1,rfl,(),(),(),hr⟩) ?post)
  case post=>
   rintro c st' ⟨rfl,l,u,rfl,h1,h2,h3,h4⟩;dsimp only;refine(Vq b hbe hb (l0:=hint+1-min u (hint+1)) (h0:=hint-l) () () (λi a=>?_) (λi a c=>hb' _ _ a c h3) q:wpS (model prog w) A E s (bsB be n _ _) Q st')
   rcases h4 with h4|h4
   ·lia
   ·exact hb i (hint-u) () () h4
  case fin=>
   rintro c st' ⟨rfl,l,u,rfl,h1,h2,h3,h4⟩;exact⟨rfl,l,u,rfl,h2,h3,h4,.inl ()⟩
  case step=>
   rintro x c st' _ hx ⟨rfl,l,u,rfl,h1,h2,h3,h4⟩;dsimp only;by_cases hge:u>=hint+1
   ·rw[aM hge];exact bz ⟨rfl,l,u,rfl,h2,h3,h4,.inl hge⟩
   ·rw[aK hge];refine aZ (hbe _ () _ ?_)
    cases hv:b (hint-u)
    ·dsimp[bB,b9];exact bz ⟨rfl,u,2 * u+1,rfl,(),(),(),hv⟩
    ·dsimp[cJ];exact bz ⟨rfl,l,u,rfl,h2,h3,h4,.inr hv⟩
 ·dsimp only;dsimp[cJ];refine aZ (ef (cK (I:=λx c st'=>st'=st/\∃l u,c=(none,l,u)/\x+1<=u/\l<u/\hint+l<n/\b (hint+l)=true)
   (Q:=λc st'=>st'=st/\∃l u,c=(none,l,u)/\l<u/\hint+l<n/\b (hint+l)=true/\(u>=n-hint\/b (hint+u)=false)) ?step2 ?fin2 ⟨rfl,0,1,rfl,(),(),(),hr⟩) ?post2)
  case post2=>
   rintro c st' ⟨rfl,l,u,rfl,h1,h2,h3,h4⟩;dsimp only;refine(Vq b hbe hb (l0:=hint+l+1) (h0:=hint+min u (n-hint)) () () (λi a=>hb i _ () h2 h3) (λi a c=>?_) q:wpS (model prog w) A E s (bsB be n _ _) Q st')
   rcases h4 with h4|h4
   ·lia
   ·exact hb' (hint+u) i () c h4
  case fin2=>
   rintro c st' ⟨rfl,l,u,rfl,h1,h2,h3,h4⟩;exact⟨rfl,l,u,rfl,h2,h3,h4,.inl ()⟩
  case step2=>
   rintro x c st' _ hx ⟨rfl,l,u,rfl,h1,h2,h3,h4⟩;dsimp only;by_cases hge:u>=n-hint
   ·rw[aM hge];exact bz ⟨rfl,l,u,rfl,h2,h3,h4,.inl hge⟩
   ·rw[aK hge];refine aZ (hbe _ () _ ?_)
    cases hv:b (hint+u)
    ·dsimp[dm,cJ];exact bz ⟨rfl,l,u,rfl,h2,h3,h4,.inr hv⟩
    ·dsimp[bX,bB,b9];exact bz ⟨rfl,u,2 * u+1,rfl,(),(),(),hv⟩
end
section
variable {prog:aj}{w:ah}{A:az}{E:af->aA->Prop}{s:aA}{o:Ord}{N:Nat}{f:Nat->Keyed}{kd:SortKind}{st:SortSt}
def P6(C:Ci prog w A s o N f kd)(hk:kindOf st=kd){base n:Nat}{arr:Array Keyed}{h:Nat->Nat}(ha:∀i,i<n->arr[base+i]?=some (f (h i)))(hN:∀i,i<n->h i<key)(hkN:key<N)(so:So o h 0 n)(hh:hint<n)
  {Q:Option Nat->SortSt->Prop} (q:∀k,k<=n->(∀i,i<k->P o (h i) key)->(∀i,k<=i->i<n->P o key (h i))->Q (some k) st):wpS (model prog w) A E s (nq false (f key) arr base n hint) Q st:=by
 rw[CD];refine JA (λi=>!o.lt key (h i)) (λi hi Q' q'=>?_) (λi j a b c=>?_) hh λk h1 h2 h3=>q k h1 (λi a=>?_) λi a b=>?_
 ·refine aZ (kG (ha i hi) ?_);dsimp[bB,b9];exact aZ (BF C hk hkN (by have:=hN i hi;lia) (bz q'))
 ·by_cases z:i=j
  ·subst z;exact c
  ·have r:=so i j (bL _) () b;have c':o.lt key (h j)=false:=by simpa using c
   cases e:o.lt key (h i)with
   | false=>rfl
   | true=>
    have:=(P.of_lt e).trans r;rw[this.lt (hN j b)]at c';cases c'
 ·have:=h2 i a;exact P.zj (by simpa using this) (hN i ())
 ·have:=h3 i a b;exact .inl (by simpa using this)
def Nx(C:Ci prog w A s o N f kd)(hk:kindOf st=kd){base n:Nat}{arr:Array Keyed}{h:Nat->Nat}(ha:∀i,i<n->arr[base+i]?=some (f (h i)))(hN:∀i,i<n->key<h i/\h i<N)(so:So o h 0 n)(hh:hint<n)
  {Q:Option Nat->SortSt->Prop} (q:∀k,k<=n->(∀i,i<k->P o (h i) key)->(∀i,k<=i->i<n->P o key (h i))->Q (some k) st):wpS (model prog w) A E s (nq true (f key) arr base n hint) Q st:=by
 rw[CD];refine JA (λi=>o.lt (h i) key) (λi hi Q' q'=>?_) (λi j a b c=>?_) hh λk h1 h2 h3=>q k h1 (λi a=>?_) λi a b=>?_
 ·refine aZ (kG (ha i hi) ?_);dsimp[cJ];exact BF C hk (hN i hi).2 (by have:=hN i hi;lia) q'
 ·by_cases z:i=j
  ·subst z;exact c
  ·have r:=so i j (bL _) () b;exact(r.trans (P.of_lt c)).lt (hN i ()).1
 ·exact .inl (h2 i a)
 ·exact P.zj (h3 i a b) (hN i b).1
end
noncomputable def BP:Array Keyed->Array Keyed->StateT SortSt Sem (Array Keyed):=sortPriv% PySem.Builtin.mergeLo
noncomputable def BB:Array Keyed->Array Keyed->StateT SortSt Sem (Array Keyed):=sortPriv% PySem.Builtin.mergeHi
noncomputable def zu:Nat->StateT SortSt Sem Unit:=sortPriv% PySem.Builtin.setMinGallop
def TY(m:Nat):zu m=modify λs=>SortSt.mk' (kindOf s) (arrOf s) (pendingOf s) m (failedOf s):=rfl
def Hy(a b:Array Keyed):BP a b=(do
 rule "list.sort.merge-lo"
 let all_:=a.size+b.size
 let end1 (acc:Array Keyed) (p q:Nat):=acc++a.extract p a.size++b.extract q b.size
 let end2 (acc:Array Keyed) (p q:Nat):=acc++b.extract q b.size++a.extract p a.size
 let mut acc:Array Keyed:=#[<- elem' b 0]
 let mut p:=0
 let mut q:=1
 if q == b.size then return end1 acc p q
 if p+1 == a.size then return end2 acc p q
 let mut mg:=gallopOf (<- get)
 for _ in [0:all_] do
  let mut ca:=0
  let mut cb:=0
  for _ in [0:all_] do
   let some won <- lt' (<- elem' b q) (<- elem' a p)|return end1 acc p q
   if won then
    acc:=acc.push (<- elem' b q);q:=q+1;cb:=cb+1;ca:=0
    if q == b.size then return end1 acc p q
    if cb>=mg then break
   else
    acc:=acc.push (<- elem' a p);p:=p+1;ca:=ca+1;cb:=0
    if p+1 == a.size then return end2 acc p q
    if ca>=mg then break
  rule "list.sort.gallop"
  mg:=mg+1
  for _ in [0:all_] do
   if mg>1 then mg:=mg-1
   zu mg
   let some k <- nq false (<- elem' b q) a p (a.size-p) 0|return end1 acc p q
   ca:=k
   if k>0 then
    acc:=acc++a.extract p (p+k);p:=p+k
    if p+1 == a.size then return end2 acc p q
    if p == a.size then return end1 acc p q
   acc:=acc.push (<- elem' b q);q:=q+1
   if q == b.size then return end1 acc p q
   let some k <- nq true (<- elem' a p) b q (b.size-q) 0|return end1 acc p q
   cb:=k
   if k>0 then
    acc:=acc++b.extract q (q+k);q:=q+k
    if q == b.size then return end1 acc p q
   acc:=acc.push (<- elem' a p);p:=p+1
   if p+1 == a.size then return end2 acc p q
   if ca<7 && cb<7 then break
  mg:=mg+1
  zu mg
 unsupported "internal:list.sort.merge-bound"):=rfl
section
variable {o:Ord}{N:Nat}{f:Nat->Keyed}{A B hs:am}{ia ib:Nat}
noncomputable def fa (f:Nat->Keyed)(l:am):Array Keyed:=(l.map f).toArray
def vL(l:am):(fa f l).size=l.length:=by unfold fa;rw[aY,aH]
def O2(l:am)(i:Nat):(fa f l)[i]?=(l[i]?).map f:=by unfold fa;rw[eX,aQ]
def nA{l:am}{i x:Nat}(h:l[i]?=some x):(fa f l)[i]?=some (f x):=by rw[O2,h];rfl
def xK(l:am)(x:Nat):(fa f l).push (f x)=fa f (l++[x]):=by
 unfold fa;rw[List.push_toArray,bO];rfl
def qy(l m:am):fa f l++fa f m=fa f (l++m):=by
 unfold fa;rw[List.append_toArray,bO]
def yx(l:am)(i j:Nat):(fa f l).extract i j=fa f ((l.drop i).take (j-i)):=by
 unfold fa;rw[List.extract_toArray,List.extract_eq_take_drop,map_take,map_drop]
def z8(l:am)(i:Nat):(fa f l).extract i l.length=fa f (l.drop i):=by
 rw[yx,List.take_of_length_le (by rw[dD];lia)]
structure Ab (o:Ord)(N:Nat)(A B:am):Prop where
 sa:A.Pairwise (P o)
 sb:B.Pairwise (P o)
 lt:∀x∈A,∀y∈B,x<y
 nb:∀y∈B,y<N
 na:∀x∈A,x<N
structure Mg (o:Ord)(A B hs:am)(ia ib:Nat):Prop where
 la:ia<=A.length
 lb:ib<=B.length
 len:hs.length=ia+ib
 so:hs.Pairwise (P o)
 mem:∀x∈hs,x∈A\/x∈B
 ua:∀x∈hs,∀y∈A.drop ia,P o x y
 ub:∀x∈hs,∀y∈B.drop ib,P o x y
noncomputable def Res (o:Ord)(f:Nat->Keyed)(A B:am)(out:Array Keyed):Prop:=∃hs:am,out=fa f hs/\hs.length=A.length+B.length/\hs.Pairwise (P o)/\∀x∈hs,x∈A\/x∈B
def uL{l:am}(h:l.Pairwise (P o)){i j x:Nat}(hx:l[i]?=some x)(hy:l[j]?=some y)(hij:i<j):P o x y:=by
 obtain⟨h1,e1⟩:=aN.mp hx;obtain⟨h2,e2⟩:=aN.mp hy;rw[<- e1,<- e2];exact cF.mp h i j h1 h2 hij
def xT{l:am}{y:Nat}(h:y∈l.drop i):∃j,i<=j/\l[j]?=some y:=by
 obtain⟨k,hk⟩:=fj h;rw[gM]at hk;exact⟨i+k,(),hk⟩
def Mg.zk(ab:Ab o N A B)(m:Mg o A B hs ia ib){x:Nat}(hx:A[ia]?=some x)(h:∀y∈B.drop ib,P o x y):Mg o A B (hs++[x]) (ia+1) ib:=by
 obtain⟨h1,e1⟩:=aN.mp hx;have hd:A.drop ia=x::A.drop (ia+1):=by rw[<- e1];exact dh h1
 refine⟨(),m.lb,by rw[aR,m.len];show ia+ib+1=_;lia,?_,λz hz=>?_,λz hz y hy=>?_,λz hz y hy=>?_⟩
 ·rw[cC];exact⟨m.so,bW ..,λa ha b hb=>by rw[aP.mp hb];exact m.ua a ha x (by rw[hd];exact aJ ..)⟩
 ·rcases bE.mp hz with z'|z'
  ·exact m.mem z z'
  ·rw[aP.mp z'];exact .inl (aW hx)
 ·rcases bE.mp hz with z'|z'
  ·exact m.ua z z' y (by rw[hd];exact aL _ hy)
  ·rw[aP.mp z'];obtain⟨j,hj,ej⟩:=xT hy;exact uL ab.sa hx ej ()
 ·rcases bE.mp hz with z'|z'
  ·exact m.ub z z' y hy
  ·rw[aP.mp z'];exact h y hy
def Ab.zY(ab:Ab o N A B)(m:Mg o A B hs ia ib){x:Nat}(hx:B[ib]?=some x)(h:∀y∈A.drop ia,P o x y):Mg o A B (hs++[x]) ia (ib+1):=by
 obtain⟨h1,e1⟩:=aN.mp hx;have hd:B.drop ib=x::B.drop (ib+1):=by rw[<- e1];exact dh h1
 refine⟨m.la,(),by rw[aR,m.len];rfl,?_,λz hz=>?_,λz hz y hy=>?_,λz hz y hy=>?_⟩
 ·rw[cC];exact⟨m.so,bW ..,λa ha b hb=>by rw[aP.mp hb];exact m.ub a ha x (by rw[hd];exact aJ ..)⟩
 ·rcases bE.mp hz with z'|z'
  ·exact m.mem z z'
  ·rw[aP.mp z'];exact .inr (aW hx)
 ·rcases bE.mp hz with z'|z'
  ·exact m.ua z z' y hy
  ·rw[aP.mp z'];exact h y hy
 ·rcases bE.mp hz with z'|z'
  ·exact m.ub z z' y (by rw[hd];exact aL _ hy)
  ·rw[aP.mp z'];obtain⟨j,hj,ej⟩:=xT hy;exact uL ab.sb hx ej ()
def sD{l:am}(h:l.Pairwise (P o)){i x:Nat}(hx:l[i]?=some x)(hxy:P o y x):∀z∈l.drop i,P o y z:=λz hz=>by
 obtain⟨j,hj,ej⟩:=xT hz;by_cases c:j=i
 ·subst c;rw[hx]at ej;cases ej;exact hxy
 ·exact hxy.trans (uL h hx ej ())
def take_snoc{l:am}{k x:Nat}(h:l[i+k]?=some x):(l.drop i).take (k+1)=(l.drop i).take k++[x]:=by
 have h':(l.drop i)[k]?=some x:=by rw[gM];exact h
 obtain⟨h1,e1⟩:=aN.mp h';rw[ie h1,e1]
theorem Mg.BS(ab:Ab o N A B)(m:Mg o A B hs ia ib)(hy:B[ib]?=some y):∀k,ia+k<=A.length->(∀i x,i<k->A[ia+i]?=some x->P o x y)->Mg o A B (hs++(A.drop ia).take k) (ia+k) ib
 | 0,_,_=>by rw[eT,cG];exact m
 | k+1,hk,h=>by
  have ih:=Mg.BS ab m hy k () λi x hi=>h i x ();have hx:A[ia+k]?=some (A[ia+k]'()):=aF _;rw[take_snoc hx,<- cu];exact ih.zk ab hx (sD ab.sb hy (h k _ () hx))
theorem Mg.Aj(ab:Ab o N A B)(m:Mg o A B hs ia ib)(hy:A[ia]?=some y):∀k,ib+k<=B.length->(∀i x,i<k->B[ib+i]?=some x->P o x y)->Mg o A B (hs++(B.drop ib).take k) ia (ib+k)
 | 0,_,_=>by rw[eT,cG];exact m
 | k+1,hk,h=>by
  have ih:=Mg.Aj ab m hy k () λi x hi=>h i x ();have hx:B[ib+k]?=some (B[ib+k]'()):=aF _;rw[take_snoc hx,<- cu];exact ab.zY ih hx (sD ab.sa hy (h k _ () hx))
def zD{l:am}(h:l.Pairwise (P o))(i:Nat):(l.drop i).Pairwise (P o):=h.sublist (List.drop_sublist ..)
def Mg.fin(ab:Ab o N A B)(m:Mg o A B hs ia ib)(h:∀x∈A.drop ia,∀y∈B.drop ib,P o x y):Res o f A B (fa f hs++(fa f A).extract ia A.length++(fa f B).extract ib B.length):=by
 rw[z8,z8,qy,qy];have la:=m.la;have lb:=m.lb;refine⟨_,rfl,by rw[aR,aR,m.len,dD,dD];lia,?_,λx hx=>?_⟩
 ·rw[cC,cC];refine⟨⟨m.so,zD ab.sa _,m.ua⟩,zD ab.sb _,λx hx y hy=>?_⟩
  rcases bE.mp hx with z|z
  ·exact m.ub x z y hy
  ·exact h x z y hy
 ·rcases bE.mp hx with z|z
  ·rcases bE.mp z with z|z
   ·exact m.mem x z
   ·exact .inl (fm z)
  ·exact .inr (fm z)
def Mg.X_(ab:Ab o N A B)(m:Mg o A B hs ia ib)(h:∀x∈A.drop ia,∀y∈B.drop ib,P o y x):Res o f A B (fa f hs++(fa f B).extract ib B.length++(fa f A).extract ia A.length):=by
 rw[z8,z8,qy,qy];have la:=m.la;have lb:=m.lb;refine⟨_,rfl,by rw[aR,aR,m.len,dD,dD];lia,?_,λx hx=>?_⟩
 ·rw[cC,cC];refine⟨⟨m.so,zD ab.sb _,m.ub⟩,zD ab.sa _,λx hx y hy=>?_⟩
  rcases bE.mp hx with z|z
  ·exact m.ua x z y hy
  ·exact h y hy x z
 ·rcases bE.mp hx with z|z
  ·rcases bE.mp z with z|z
   ·exact m.mem x z
   ·exact .inr (fm z)
  ·exact .inl (fm z)
def drop_nil{l:am}(h:l.length<=i):l.drop i=[]:=List.drop_eq_nil_of_le h
def Jc{l:am}(h:l.Pairwise (P o))(b n:Nat)(hn:b+n<=l.length):So o (λi=>l.getD (b+i) 0) 0 n:=λi j _ hij hj=>
 uL h (i:=b+i) (j:=b+j) (by show _=some (l.getD (b+i) 0);rw[aI,aF (show b+i<l.length by lia)];rfl) (by show _=some (l.getD (b+j) 0);rw[aI,aF (show b+j<l.length by lia)];rfl) ()
def getD_at{l:am}{i:Nat}(h:i<l.length):l[i]?=some (l.getD i 0):=by
 rw[aI,aF h];rfl
end
structure Sm (st st':SortSt):Prop where
 a:arrOf st'=arrOf st
 k:kindOf st'=kindOf st
 p:pendingOf st'=pendingOf st
 f:failedOf st'=failedOf st
def Sm.refl{st:SortSt}:Sm st st:=⟨rfl,rfl,rfl,rfl⟩
def Sm.trans{st:SortSt}(a:Sm st st')(b:Sm st' st''):Sm st st'':=⟨b.a.trans a.a,b.k.trans a.k,b.p.trans a.p,b.f.trans a.f⟩
noncomputable abbrev G:=Option (Array Keyed)×Array Keyed×Nat×Nat×Nat×Nat×Nat
noncomputable def T3 (a b out:Array Keyed)(ia ib mg ac bc:Nat):StateT SortSt Sem (ForInStep G):=do
 let x <- elem' a ia
 if (ia+1+1 == a.size)=true then pure (ForInStep.done (some (out.push x++b.extract ib b.size++a.extract (ia+1) a.size),out.push x,ia+1,ib,mg,ac,bc))
 else if (decide (ac<7) && decide (bc<7))=true then pure (ForInStep.done (none,out.push x,ia+1,ib,mg,ac,bc))
 else pure (ForInStep.yield (none,out.push x,ia+1,ib,mg,ac,bc))
noncomputable def T2 (a b out:Array Keyed)(ia ib mg ac bc:Nat):StateT SortSt Sem (ForInStep G):=do
 let x <- elem' b ib
 if (ib+1 == b.size)=true then pure (ForInStep.done (some (out.push x++a.extract ia a.size++b.extract (ib+1) b.size),out.push x,ia,ib+1,mg,ac,bc))
 else
  let y <- elem' a ia
  let r <- nq true y b (ib+1) (b.size-(ib+1)) 0
  match r with
  | some k=>
   if k>0 then
    if (ib+1+k == b.size)=true then pure (ForInStep.done (some (out.push x++b.extract (ib+1) (ib+1+k)++a.extract ia a.size++b.extract (ib+1+k) b.size),out.push x++b.extract (ib+1) (ib+1+k),ia,ib+1+k,mg,ac,k))
    else T3 a b (out.push x++b.extract (ib+1) (ib+1+k)) ia (ib+1+k) mg ac k
   else T3 a b (out.push x) ia (ib+1) mg ac k
  | _=>pure (ForInStep.done (some (out.push x++a.extract ia a.size++b.extract (ib+1) b.size),out.push x,ia,ib+1,mg,ac,bc))
noncomputable def T1 (a b out:Array Keyed)(ia ib mg ac bc:Nat):StateT SortSt Sem (ForInStep G):=do
 zu mg
 let x <- elem' b ib
 let r <- nq false x a ia (a.size-ia) 0
 match r with
 | some k=>
  if k>0 then
   if (ia+k+1 == a.size)=true then pure (ForInStep.done (some (out++a.extract ia (ia+k)++b.extract ib b.size++a.extract (ia+k) a.size),out++a.extract ia (ia+k),ia+k,ib,mg,k,bc))
   else if (ia+k == a.size)=true then pure (ForInStep.done (some (out++a.extract ia (ia+k)++a.extract (ia+k) a.size++b.extract ib b.size),out++a.extract ia (ia+k),ia+k,ib,mg,k,bc))
   else T2 a b (out++a.extract ia (ia+k)) (ia+k) ib mg k bc
  else T2 a b out ia ib mg k bc
 | _=>pure (ForInStep.done (some (out++a.extract ia a.size++b.extract ib b.size),out,ia,ib,mg,ac,bc))
section
variable {prog:aj}{w:ah}{A:az}{E:af->aA->Prop}{s:aA}{o:Ord}{N:Nat}{f:Nat->Keyed}{kd:SortKind}{st st0:SortSt}{X Y hs:am}{ia ib:Nat}
def xV(h:Sm st0 st){Q:Unit->SortSt->Prop}(q:∀st',Sm st0 st'->Q Unit.unit st'):wpS (model prog w) A E s (zu m) Q st:=by
 rw[TY];exact fW (q _ (h.trans ⟨rfl,rfl,rfl,rfl⟩))
noncomputable def On (o:Ord)(f:Nat->Keyed)(X Y:am)(n:Nat)(hs:am)(ia ib:Nat):Prop:=Mg o X Y hs ia ib/\ia+1<X.length/\ib<Y.length/\n<=ia+ib
noncomputable def G2 (o:Ord)(f:Nat->Keyed)(X Y:am)(n:Nat)(st0:SortSt):ForInStep G->SortSt->Prop:=λr st'=>Sm st0 st'/\match r with
 | .done c=>(∃r z,c=(some r,z)/\Res o f X Y r)\/∃hs ia ib mg ac bc,c=(none,fa f hs,ia,ib,mg,ac,bc)/\On o f X Y n hs ia ib
 | .yield c=>∃hs ia ib mg ac bc,c=(none,fa f hs,ia,ib,mg,ac,bc)/\On o f X Y n hs ia ib
noncomputable def Top (o:Ord)(X Y:am):Prop:=∀i x,X[i]?=some x->i+1=X.length->∀y∈Y,P o y x
def un4{α β γ δ κ:Type}{S:Prop}{g:α->β->γ->δ->κ}{O:α->β->γ->δ->Prop}{T:κ->Prop}(k:S->∀a b c d,O a b c d->T (g a b c d)):∀q,(S/\∃a b c d,q=g a b c d/\O a b c d)->T q:=by
 rintro q ⟨s,a,b,c,d,rfl,o⟩;exact k s a b c d o
def un5{α β γ δ ε κ:Type}{S:Prop}{g:α->β->γ->δ->ε->κ}{O:α->β->γ->δ->ε->Prop}{T:κ->Prop}(k:S->∀a b c d e,O a b c d e->T (g a b c d e)):∀q,(S/\∃a b c d e,q=g a b c d e/\O a b c d e)->T q:=by
 rintro q ⟨s,a,b,c,d,e,rfl,o⟩;exact k s a b c d e o
def un6{α β γ δ ε ζ κ:Type}{S:Prop}{g:α->β->γ->δ->ε->ζ->κ}{O:α->β->γ->δ->ε->ζ->Prop}{T:κ->Prop}(k:S->∀a b c d e f,O a b c d e f->T (g a b c d e f)):∀q,(S/\∃a b c d e f,q=g a b c d e f/\O a b c d e f)->T q:=by
 rintro q ⟨s,a,b,c,d,e,f,rfl,o⟩;exact k s a b c d e f o
def uo5{α β γ δ ε κ ρ σ:Type}{S:Prop}{j:ρ->σ->κ}{R:ρ->Prop}{g:α->β->γ->δ->ε->κ}{O:α->β->γ->δ->ε->Prop}{T:κ->Prop}(k1:S->∀r z,R r->T (j r z))(k:S->∀a b c d e,O a b c d e->T (g a b c d e)):∀q,(S/\((∃r z,q=j r z/\R r)\/∃a b c d e,q=g a b c d e/\O a b c d e))->T q:=by
 rintro q ⟨s,⟨r,z,rfl,hr⟩|⟨a,b,c,d,e,rfl,o⟩⟩
 ·exact k1 s r z hr
 ·exact k s a b c d e o
def uo6{α β γ δ ε ζ κ ρ σ:Type}{S:Prop}{j:ρ->σ->κ}{R:ρ->Prop}{g:α->β->γ->δ->ε->ζ->κ}{O:α->β->γ->δ->ε->ζ->Prop}{T:κ->Prop}(k1:S->∀r z,R r->T (j r z))(k:S->∀a b c d e f,O a b c d e f->T (g a b c d e f)):∀q,(S/\((∃r z,q=j r z/\R r)\/∃a b c d e f,q=g a b c d e f/\O a b c d e f))->T q:=by
 rintro q ⟨s,⟨r,z,rfl,hr⟩|⟨a,b,c,d,e,f,rfl,o⟩⟩
 ·exact k1 s r z hr
 ·exact k s a b c d e f o
def yl(ab:Ab o N X Y)(tp:Top o X Y)(m:Mg o X Y hs ia ib)(h:ia+1=X.length):Res o f X Y (fa f hs++(fa f Y).extract ib Y.length++(fa f X).extract ia X.length):=
 m.X_ ab λx hx y hy=>by
  obtain⟨j,hj,ej⟩:=xT hx;have:=(aN.mp ej).1;exact tp j x ej () y (fm hy)
def VS(ab:Ab o N X Y)(tp:Top o X Y)(hm:Sm st0 st){n mg x:Nat}(m:Mg o X Y hs ia ib)(ha:ia+1<X.length)(hb:ib<Y.length)(hn:n<=ia+ib)(hx:X[ia]?=some x)(hy:Y[ib]?=some y)(hxy:P o x y) :
  wpS (model prog w) A E s (T3 (fa f X) (fa f Y) (fa f hs) ia ib mg ac bc) (G2 o f X Y n st0) st:=by
 unfold T3;dsimp[vL];refine aZ (kG (nA hx) ?_);have m2:=m.zk ab hx (sD ab.sb hy hxy);rw[xK];by_cases c:ia+1+1=X.length
 ·rw[aM (by rw[c];exact bP _)];exact bz ⟨hm,.inl ⟨_,_,rfl,yl ab tp m2 c⟩⟩
 ·rw[aK (by simpa using c)];by_cases c2:(decide (ac<7) && decide (bc<7))=true
  ·rw[aM c2];exact bz ⟨hm,.inr ⟨_,_,_,_,_,_,rfl,m2,(),hb,()⟩⟩
  ·rw[aK c2];exact bz ⟨hm,⟨_,_,_,_,_,_,rfl,m2,(),hb,()⟩⟩
def Vj(C:Ci prog w A s o N f kd)(hk:kindOf st=kd)(ab:Ab o N X Y)(tp:Top o X Y)(hm:Sm st0 st){n mg x:Nat}(m:Mg o X Y hs ia ib)(ha:ia+1<X.length)(hb:ib<Y.length)(hn:n<=ia+ib)(hx:X[ia]?=some x)(hy:Y[ib]?=some y)(hxy:P o y x) :
  wpS (model prog w) A E s (T2 (fa f X) (fa f Y) (fa f hs) ia ib mg ac bc) (G2 o f X Y n st0) st:=by
 unfold T2;dsimp[vL];refine aZ (kG (nA hy) ?_);have m2:=ab.zY m hy (sD ab.sa hx hxy);rw[xK];by_cases c:ib+1=Y.length
 ·rw[aM (by rw[c];exact bP _)];exact bz ⟨hm,.inl ⟨_,_,rfl,m2.fin ab λx _ y hy=>by rw[drop_nil ()]at hy;cases hy⟩⟩
 ·rw[aK (by simpa using c)];refine aZ (kG (nA hx) ?_);refine aZ (Nx C hk (h:=λi=>Y.getD (ib+1+i) 0) (λi hi=>nA (getD_at ())) (λi hi=>?_) (Jc ab.sb _ _ ()) () λk k1 k2 k3=>?_)
  ·have:=aW (getD_at (l:=Y) (i:=ib+1+i) ());exact⟨ab.lt x (aW hx) _ this,ab.nb _ this⟩
  ·dsimp only;have m3:=m2.Aj ab hx k () λi z hi ez=>by
    have:=k2 i hi;rw[aI,ez]at this;exact this
   by_cases c2:k>0
   ·rw[aM c2,yx,show ib+1+k-(ib+1)=k by lia,qy];by_cases c3:ib+1+k=Y.length
    ·rw[aM (by rw[c3];exact bP _)];exact bz ⟨hm,.inl ⟨_,_,rfl,m3.fin ab λx _ y hy=>by rw[drop_nil ()]at hy;cases hy⟩⟩
    ·rw[aK (by simpa using c3)];exact VS ab tp hm m3 ha () () hx (getD_at ()) (k3 k (aO _) ())
   ·rw[aK c2];have:k=0:=()
    subst this;exact VS ab tp hm m2 ha () () hx (getD_at ()) (k3 0 (aO _) ())
def aan(C:Ci prog w A s o N f kd)(hk:kindOf st0=kd)(ab:Ab o N X Y)(tp:Top o X Y)(hm:Sm st0 st){n mg:Nat}(m:Mg o X Y hs ia ib)(ha:ia+1<X.length)(hb:ib<Y.length)(hn:n<=ia+ib) :
  wpS (model prog w) A E s (T1 (fa f X) (fa f Y) (fa f hs) ia ib mg ac bc) (G2 o f X Y n st0) st:=by
 unfold T1;dsimp[vL];refine aZ (xV hm λst1 hm1=>?_);have hy:=getD_at (l:=Y) (i:=ib) hb;have yB:=aW hy;refine aZ (kG (nA hy) ?_);refine aZ (P6 C (by rw[hm1.k];exact hk) (h:=λi=>X.getD (ia+i) 0) (λi hi=>nA (getD_at ())) (λi hi=>ab.lt _ (aW (getD_at (l:=X) (i:=ia+i) ())) _ yB) (ab.nb _ yB) (Jc ab.sa _ _ ()) () λk k1 k2 k3=>?_);dsimp only;have m3:=m.BS ab hy k () λi z hi ez=>by
  have:=k2 i hi;rw[aI,ez]at this;exact this
 by_cases c2:k>0
 ·rw[aM c2,yx,show ia+k-ia=k by lia,qy];by_cases c3:ia+k+1=X.length
  ·rw[aM (by rw[c3];exact bP _)];exact bz ⟨hm1,.inl ⟨_,_,rfl,yl ab tp m3 c3⟩⟩
  ·rw[aK (by simpa using c3)];by_cases c4:ia+k=X.length
   ·rw[aM (by rw[c4];exact bP _)];exact bz ⟨hm1,.inl ⟨_,_,rfl,m3.fin ab λx hx y _=>by rw[drop_nil ()]at hx;cases hx⟩⟩
   ·rw[aK (by simpa using c4)];exact Vj C (by rw[hm1.k];exact hk) ab tp hm1 m3 () hb () (getD_at ()) hy (k3 k (aO _) ())
 ·rw[aK c2];have:k=0:=()
  subst this;exact Vj C (by rw[hm1.k];exact hk) ab tp hm1 m ha hb hn (getD_at ()) hy (k3 0 (aO _) ())
def Y7(C:Ci prog w A s o N f kd)(hk:kindOf st=kd)(ab:Ab o N X Y)(tp:Top o X Y)(h1:1<=X.length)(hy0:Y[0]?=some y0)(h0:∀x∈X,P o y0 x)
  {Q:Array Keyed->SortSt->Prop} (q:∀out st',Sm st st'->Res o f X Y out->Q out st'):wpS (model prog w) A E s (BP (fa f X) (fa f Y)) Q st:=by
 rw[Hy];refine aZ (wpS_lift (eS ⟨rfl,?_⟩));dsimp only;dsimp[vL];have hY:=(aN.mp hy0).1;refine aZ (kG (nA hy0) ?_);have m0:Mg o X Y [] 0 0:=⟨bL _,bL _,rfl,List.Pairwise.nil,(nofun),(nofun),(nofun)⟩;have m1:Mg o X Y [y0] 0 1:=ab.zY m0 hy0 h0;have e1:(#[f y0]:Array Keyed)=fa f [y0]:=rfl;rw[e1];by_cases c:1=Y.length
 ·rw[aM (by rw[<- c];rfl)];exact bz (q _ _ Sm.refl (m1.fin ab λx _ y hy=>by rw[drop_nil ()]at hy;cases hy))
 ·rw[aK (by simpa using c)];by_cases c2:0+1=X.length
  ·rw[aM (by rw[<- c2];rfl)];exact bz (q _ _ Sm.refl (yl ab tp m1 c2))
  ·rw[aK (by simpa using c2)];refine aZ (h_ ?_);refine aZ (ef (cK (I:=λx c st'=>Sm st st'/\∃hs ia ib mg,c=(none,fa f hs,ia,ib,mg)/\On o f X Y (x+1) hs ia ib)
    (Q:=λc st'=>Sm st st'/\∃r z,c=(some r,z)/\Res o f X Y r) ?step ?fin ⟨Sm.refl,_,_,_,_,rfl,m1,(),(),aO _⟩) ?post)
   case post=>
    rintro c st' ⟨hm,r,z,rfl,hr⟩;exact bz (q _ _ hm hr)
   case fin=>
    rintro c st' ⟨hm,hs,ia,ib,mg,rfl,m,a1,a2,a3⟩;exfalso;lia
   case step=>
    intro x c st' _ hx hh;revert hh;revert c;refine un4 λhm hs ia ib mg ho=>?_;have m:=ho.1;have a1:=ho.2.1;have a2:=ho.2.2.1;have a3:=ho.2.2.2;clear ho;dsimp only;refine aZ (ef (cK (I:=λx' c st''=>Sm st st''/\∃hs ia ib ac bc,c=(none,fa f hs,ia,ib,ac,bc)/\On o f X Y (x+1+min x' 1) hs ia ib)
     (Q:=λc st''=>Sm st st''/\((∃r z,c=(some r,z)/\Res o f X Y r)\/∃hs ia ib ac bc,c=(none,fa f hs,ia,ib,ac,bc)/\On o f X Y (x+1+1) hs ia ib)) ?istep ?ifin ⟨hm,_,_,_,_,_,rfl,m,a1,a2,a3⟩) ?ipost)
    case ifin=>
     rintro c st'' ⟨hm',hs,ia,ib,ac,bc,rfl,m,a1,a2,a3⟩;exact⟨hm',.inr ⟨_,_,_,_,_,rfl,m,a1,a2,()⟩⟩
    case istep=>
     intro x' c st'' _ hx' hh;revert hh;revert c;refine un5 λhm' hs ia ib ac bc ho=>?_;have m:=ho.1;have a1:=ho.2.1;have a2:=ho.2.2.1;have a3:=ho.2.2.2;clear ho;dsimp only;have hy:=getD_at (l:=Y) (i:=ib) a2;have hxx:=getD_at (l:=X) (i:=ia) ();have yB:=aW hy;have xA:=aW hxx;have lt:=ab.lt _ xA _ yB;refine aZ (kG (nA hy) ?_);refine aZ (kG (nA hxx) ?_);refine aZ (BF C (by rw[hm'.k];exact hk) (ab.nb _ yB) (ab.na _ xA) ?_)
     cases hl:o.lt (Y.getD ib 0) (X.getD ia 0)
     ·dsimp[bB,b9];refine aZ (kG (nA hxx) ?_);have m2:=m.zk ab hxx (sD ab.sb hy (P.zj hl lt));rw[xK];by_cases c3:ia+1+1=X.length
      ·rw[aM (by rw[c3];exact bP _)];exact bz ⟨hm',.inl ⟨_,_,rfl,yl ab tp m2 c3⟩⟩
      ·rw[aK (by simpa using c3)];by_cases c4:ac+1>=mg
       ·rw[aM c4];exact bz ⟨hm',.inr ⟨_,_,_,_,_,rfl,m2,(),a2,()⟩⟩
       ·rw[aK c4];exact bz ⟨hm',_,_,_,_,_,rfl,m2,(),a2,()⟩
     ·dsimp[cJ];refine aZ (kG (nA hy) ?_);have m2:=ab.zY m hy (sD ab.sa hxx (P.of_lt hl));rw[xK];by_cases c3:ib+1=Y.length
      ·rw[aM (by rw[c3];exact bP _)];exact bz ⟨hm',.inl ⟨_,_,rfl,m2.fin ab λx _ y hy=>by rw[drop_nil ()]at hy;cases hy⟩⟩
      ·rw[aK (by simpa using c3)];by_cases c4:bc+1>=mg
       ·rw[aM c4];exact bz ⟨hm',.inr ⟨_,_,_,_,_,rfl,m2,a1,(),()⟩⟩
       ·rw[aK c4];exact bz ⟨hm',_,_,_,_,_,rfl,m2,a1,(),()⟩
    case ipost=>
     intro c st'' hh;revert hh;revert c;refine uo5 (λhm' r z hr=>?_) λhm' hs ia ib ac bc ho=>?_
     ·dsimp only;exact bz ⟨hm',r,_,rfl,hr⟩
     ·have m:=ho.1;have a1:=ho.2.1;have a2:=ho.2.2.1;have a3:=ho.2.2.2;clear ho;dsimp only;refine aZ (wpS_lift (eS ⟨rfl,?_⟩));refine aZ (ef (cK (I:=λx' c st''=>Sm st st''/\∃hs ia ib mg ac bc,c=(none,fa f hs,ia,ib,mg,ac,bc)/\On o f X Y (x+1+1) hs ia ib)
       (Q:=λc st''=>Sm st st''/\((∃r z,c=(some r,z)/\Res o f X Y r)\/∃hs ia ib mg ac bc,c=(none,fa f hs,ia,ib,mg,ac,bc)/\On o f X Y (x+1+1) hs ia ib)) ?jstep ?jfin ⟨hm',_,_,_,_,_,_,rfl,m,a1,a2,a3⟩) ?jpost)
      case jfin=>
       rintro c st3 ⟨hm3,hh⟩;exact⟨hm3,.inr hh⟩
      case jstep=>
       intro x' c st3 _ hx' hh;revert hh;revert c;refine un6 λhm3 hs ia ib mg ac bc ho=>?_;have m:=ho.1;have a1:=ho.2.1;have a2:=ho.2.2.1;have a3:=ho.2.2.2;clear ho;dsimp only;have t1:=λmg=>aan (n:=x+1+1) (mg:=mg) (ac:=ac) (bc:=bc) (E:=E) C hk ab tp hm3 m a1 a2 a3;unfold T1 T2 T3 at t1;dsimp[vL]at t1;refine ef (Q:=G2 o f X Y (x+1+1) st) ?_ ?_
       ·by_cases c3:mg>1
        ·rw[aM c3];exact t1 (mg-1)
        ·rw[aK c3];exact t1 mg
       ·rintro r st4 ⟨hm4,hr⟩
        cases r with
        | done c=>exact⟨hm4,hr⟩
        | yield c=>exact⟨hm4,hr⟩
      case jpost=>
       intro c st3 hh;revert hh;revert c;refine uo6 (λhm3 r z hr=>?_) λhm3 hs ia ib mg ac bc ho=>?_
       ·dsimp only;exact bz ⟨hm3,r,_,rfl,hr⟩
       ·have m:=ho.1;have a1:=ho.2.1;have a2:=ho.2.2.1;have a3:=ho.2.2.2;clear ho;dsimp only;refine aZ (xV hm3 λst4 hm4=>?_);exact bz ⟨hm4,_,_,_,_,rfl,m,a1,a2,a3⟩
end
def G_(a b:Array Keyed):BB a b=(do
 rule "list.sort.merge-hi"
 let all_:=a.size+b.size
 let end1 (acc:Array Keyed) (p q:Nat):=a.extract 0 p++b.extract 0 q++acc.reverse
 let end2 (acc:Array Keyed) (p q:Nat):=b.extract 0 q++a.extract 0 p++acc.reverse
 let mut p:=a.size-1
 let mut q:=b.size
 let mut acc:Array Keyed:=#[<- elem' a p]
 if p == 0 then return end1 acc p q
 if q == 1 then return end2 acc p q
 let mut mg:=gallopOf (<- get)
 for _ in [0:all_] do
  let mut ca:=0
  let mut cb:=0
  for _ in [0:all_] do
   let some won <- lt' (<- elem' b (q-1)) (<- elem' a (p-1))|return end1 acc p q
   if won then
    p:=p-1;acc:=acc.push (<- elem' a p);ca:=ca+1;cb:=0
    if p == 0 then return end1 acc p q
    if ca>=mg then break
   else
    q:=q-1;acc:=acc.push (<- elem' b q);cb:=cb+1;ca:=0
    if q == 1 then return end2 acc p q
    if cb>=mg then break
  rule "list.sort.gallop"
  mg:=mg+1
  for _ in [0:all_] do
   if mg>1 then mg:=mg-1
   zu mg
   let some t <- nq false (<- elem' b (q-1)) a 0 p (p-1)|return end1 acc p q
   let k:=p-t
   ca:=k
   if k>0 then
    acc:=acc++(a.extract t p).reverse;p:=t
    if p == 0 then return end1 acc p q
   q:=q-1;acc:=acc.push (<- elem' b q)
   if q == 1 then return end2 acc p q
   let some t <- nq true (<- elem' a (p-1)) b 0 q (q-1)|return end1 acc p q
   let k:=q-t
   cb:=k
   if k>0 then
    acc:=acc++(b.extract t q).reverse;q:=t
    if q == 1 then return end2 acc p q
    if q == 0 then return end1 acc p q
   p:=p-1;acc:=acc.push (<- elem' a p)
   if p == 0 then return end1 acc p q
   if ca<7 && cb<7 then break
  mg:=mg+1
  zu mg
 unsupported "internal:list.sort.merge-bound"):=rfl
section
variable {o:Ord}{N:Nat}{f:Nat->Keyed}{A B ts:am}{na nb:Nat}
def Pp(l:am):(fa f l).reverse=fa f l.reverse:=by
 unfold fa;rw[List.reverse_toArray,List.map_reverse]
def Aa(l:am)(i:Nat):(fa f l).extract 0 i=fa f (l.take i):=by
 rw[yx,List.drop_zero,Nat.sub_zero]
structure Mh (o:Ord)(A B ts:am)(na nb:Nat):Prop where
 la:na<=A.length
 lb:nb<=B.length
 len:ts.length+na+nb=A.length+B.length
 so:ts.Pairwise (P o)
 mem:∀x∈ts,x∈A\/x∈B
 ua:∀y∈A.take na,∀x∈ts,P o y x
 ub:∀y∈B.take nb,∀x∈ts,P o y x
def yj{l:am}{y:Nat}(h:y∈l.take i):∃j,j<i/\l[j]?=some y:=by
 obtain⟨k,hk⟩:=fj h;have:=(aN.mp hk).1;rw[bK]at this;rw[fF ()]at hk;exact⟨k,(),hk⟩
def take_one{l:am}{i x:Nat}(h:l[i]?=some x):l.take (i+1)=l.take i++[x]:=by
 obtain⟨h1,e1⟩:=aN.mp h;rw[ie h1,e1]
def Mh.zk(ab:Ab o N A B)(m:Mh o A B ts (na+1) nb){x:Nat}(hx:A[na]?=some x)(h:∀y∈B.take nb,P o y x):Mh o A B (x::ts) na nb:=by
 have la:=m.la;have len:=m.len;have ht:=take_one hx;have xin:x∈A.take (na+1):=by rw[ht];exact bZ _ (aP.mpr rfl)
 refine⟨(),m.lb,by rw[bg];lia,bM.mpr ⟨λy hy=>m.ua x xin y hy,m.so⟩,λz hz=>?_,λy hy z hz=>?_,λy hy z hz=>?_⟩
 ·rcases bw.mp hz with rfl|z'
  ·exact .inl (aW hx)
  ·exact m.mem z z'
 ·rcases bw.mp hz with rfl|z'
  ·obtain⟨j,hj,ej⟩:=yj hy;exact uL ab.sa ej hx hj
  ·exact m.ua y (by rw[ht];exact f_ _ hy) z z'
 ·rcases bw.mp hz with rfl|z'
  ·exact h y hy
  ·exact m.ub y hy z z'
def Mh.Pj(ab:Ab o N A B)(m:Mh o A B ts na (nb+1)){x:Nat}(hx:B[nb]?=some x)(h:∀y∈A.take na,P o y x):Mh o A B (x::ts) na nb:=by
 have lb:=m.lb;have len:=m.len;have ht:=take_one hx;have xin:x∈B.take (nb+1):=by rw[ht];exact bZ _ (aP.mpr rfl)
 refine⟨m.la,(),by rw[bg];lia,bM.mpr ⟨λy hy=>m.ub x xin y hy,m.so⟩,λz hz=>?_,λy hy z hz=>?_,λy hy z hz=>?_⟩
 ·rcases bw.mp hz with rfl|z'
  ·exact .inr (aW hx)
  ·exact m.mem z z'
 ·rcases bw.mp hz with rfl|z'
  ·exact h y hy
  ·exact m.ua y hy z z'
 ·rcases bw.mp hz with rfl|z'
  ·obtain⟨j,hj,ej⟩:=yj hy;exact uL ab.sb ej hx hj
  ·exact m.ub y (by rw[ht];exact f_ _ hy) z z'
def sf{l:am}(h:l.Pairwise (P o)){i x:Nat}(hx:l[i]?=some x)(hxy:P o x y):∀z∈l.take (i+1),P o z y:=λz hz=>by
 obtain⟨j,hj,ej⟩:=yj hz;by_cases c:j=i
 ·subst c;rw[hx]at ej;cases ej;exact hxy
 ·exact(uL h ej hx ()).trans hxy
theorem Mh.BS(ab:Ab o N A B){mb:Nat}(hy:B[mb]?=some y):∀(k:Nat) {ts:am}{at_:Nat},Mh o A B ts (at_+k) (mb+1)->(∀i x,at_<=i->i<at_+k->A[i]?=some x->P o y x)->Mh o A B ((A.drop at_).take k++ts) at_ (mb+1)
 | 0,ts,at_,m,_=>by rw[eT];exact m
 | k+1,ts,at_,m,h=>by
  have la:=m.la;have hx:A[at_+k]?=some (A[at_+k]'()):=aF _;have m2:=Mh.zk ab (show Mh o A B ts (at_+k+1) (mb+1)from m) hx (sf ab.sb hy (h _ _ () () hx));have m3:=Mh.BS ab hy k m2 λi x h1 h2=>h i x h1 ();rw[take_snoc hx,cu];exact m3
theorem Mh.Aj(ab:Ab o N A B){ma:Nat}(hy:A[ma]?=some y):∀(k:Nat) {ts:am}{at_:Nat},Mh o A B ts (ma+1) (at_+k)->(∀i x,at_<=i->i<at_+k->B[i]?=some x->P o y x)->Mh o A B ((B.drop at_).take k++ts) (ma+1) at_
 | 0,ts,at_,m,_=>by rw[eT];exact m
 | k+1,ts,at_,m,h=>by
  have lb:=m.lb;have hx:B[at_+k]?=some (B[at_+k]'()):=aF _;have m2:=Mh.Pj ab (show Mh o A B ts (ma+1) (at_+k+1)from m) hx (sf ab.sa hy (h _ _ () () hx));have m3:=Mh.Aj ab hy k m2 λi x h1 h2=>h i x h1 ();rw[take_snoc hx,cu];exact m3
def zI{l:am}(h:l.Pairwise (P o))(i:Nat):(l.take i).Pairwise (P o):=h.sublist (List.take_sublist ..)
def Mh.fin(ab:Ab o N A B)(m:Mh o A B ts na nb)(h:∀x∈A.take na,∀y∈B.take nb,P o x y):Res o f A B ((fa f A).extract 0 na++(fa f B).extract 0 nb++fa f ts):=by
 rw[Aa,Aa,qy,qy];have la:=m.la;have lb:=m.lb;have len:=m.len;refine⟨_,rfl,by rw[aR,aR,bK,bK];lia,?_,λx hx=>?_⟩
 ·rw[cC,cC];refine⟨⟨zI ab.sa _,zI ab.sb _,h⟩,m.so,λx hx y hy=>?_⟩
  rcases bE.mp hx with z|z
  ·exact m.ua x z y hy
  ·exact m.ub x z y hy
 ·rcases bE.mp hx with z|z
  ·rcases bE.mp z with z|z
   ·exact .inl (dW z)
   ·exact .inr (dW z)
  ·exact m.mem x z
def Mh.X_(ab:Ab o N A B)(m:Mh o A B ts na nb)(h:∀x∈A.take na,∀y∈B.take nb,P o y x):Res o f A B ((fa f B).extract 0 nb++(fa f A).extract 0 na++fa f ts):=by
 rw[Aa,Aa,qy,qy];have la:=m.la;have lb:=m.lb;have len:=m.len;refine⟨_,rfl,by rw[aR,aR,bK,bK];lia,?_,λx hx=>?_⟩
 ·rw[cC,cC];refine⟨⟨zI ab.sb _,zI ab.sa _,λx hx y hy=>h y hy x hx⟩,m.so,λx hx y hy=>?_⟩
  rcases bE.mp hx with z|z
  ·exact m.ub x z y hy
  ·exact m.ua x z y hy
 ·rcases bE.mp hx with z|z
  ·rcases bE.mp z with z|z
   ·exact .inr (dW z)
   ·exact .inl (dW z)
  ·exact m.mem x z
noncomputable def ZV (o:Ord)(X Y:am):Prop:=∀y,Y[0]?=some y->∀x∈X,P o y x
def vU(ab:Ab o N A B)(bt:ZV o A B)(m:Mh o A B ts na nb)(h:nb=1):Res o f A B ((fa f B).extract 0 nb++(fa f A).extract 0 na++fa f ts):=
 m.X_ ab λx hx y hy=>by
  obtain⟨j,hj,ej⟩:=yj hy;have:j=0:=()
  subst this;exact bt y ej x (dW hx)
def Mh.GD(ab:Ab o N A B)(m:Mh o A B ts na nb)(h:na=0\/nb=0):Res o f A B ((fa f A).extract 0 na++(fa f B).extract 0 nb++fa f ts):=
 m.fin ab λx hx y hy=>by
  rcases h with rfl|rfl
  ·rw[eT]at hx;cases hx
  ·rw[eT]at hy;cases hy
def zQ(l:am)(x:Nat):(fa f l.reverse).push (f x)=fa f (x::l).reverse:=by rw[xK,fq]
def Rr(l m:am):fa f l.reverse++(fa f m).reverse=fa f (m++l).reverse:=by rw[Pp,qy,List.reverse_append]
def wK(l:am):(fa f l.reverse).reverse=fa f l:=by rw[Pp,gg]
end
noncomputable abbrev H:=Option (Array Keyed)×Nat×Nat×Array Keyed×Nat×Nat×Nat
noncomputable def U3 (a b out:Array Keyed)(na nb mg ac bc:Nat):StateT SortSt Sem (ForInStep H):=do
 let x <- elem' a (na-1)
 if (na-1 == 0)=true then pure (ForInStep.done (some (a.extract 0 (na-1)++b.extract 0 nb++(out.push x).reverse),na-1,nb,out.push x,mg,ac,bc))
 else if (decide (ac<7) && decide (bc<7))=true then pure (ForInStep.done (none,na-1,nb,out.push x,mg,ac,bc))
 else pure (ForInStep.yield (none,na-1,nb,out.push x,mg,ac,bc))
noncomputable def U2 (a b out:Array Keyed)(na nb mg ac bc:Nat):StateT SortSt Sem (ForInStep H):=do
 let x <- elem' b (nb-1)
 if (nb-1 == 1)=true then pure (ForInStep.done (some (b.extract 0 (nb-1)++a.extract 0 na++(out.push x).reverse),na,nb-1,out.push x,mg,ac,bc))
 else
  let y <- elem' a (na-1)
  let r <- nq true y b 0 (nb-1) (nb-1-1)
  match r with
  | some t=>
   if nb-1-t>0 then
    if (t == 1)=true then pure (ForInStep.done (some (b.extract 0 t++a.extract 0 na++(out.push x++(b.extract t (nb-1)).reverse).reverse),na,t,out.push x++(b.extract t (nb-1)).reverse,mg,ac,nb-1-t))
    else if (t == 0)=true then pure (ForInStep.done (some (a.extract 0 na++b.extract 0 t++(out.push x++(b.extract t (nb-1)).reverse).reverse),na,t,out.push x++(b.extract t (nb-1)).reverse,mg,ac,nb-1-t))
    else U3 a b (out.push x++(b.extract t (nb-1)).reverse) na t mg ac (nb-1-t)
   else U3 a b (out.push x) na (nb-1) mg ac (nb-1-t)
  | _=>pure (ForInStep.done (some (a.extract 0 na++b.extract 0 (nb-1)++(out.push x).reverse),na,nb-1,out.push x,mg,ac,bc))
noncomputable def U1 (a b out:Array Keyed)(na nb mg ac bc:Nat):StateT SortSt Sem (ForInStep H):=do
 zu mg
 let x <- elem' b (nb-1)
 let r <- nq false x a 0 na (na-1)
 match r with
 | some t=>
  if na-t>0 then
   if (t == 0)=true then pure (ForInStep.done (some (a.extract 0 t++b.extract 0 nb++(out++(a.extract t na).reverse).reverse),t,nb,out++(a.extract t na).reverse,mg,na-t,bc))
   else U2 a b (out++(a.extract t na).reverse) t nb mg (na-t) bc
  else U2 a b out na nb mg (na-t) bc
 | _=>pure (ForInStep.done (some (a.extract 0 na++b.extract 0 nb++out.reverse),na,nb,out,mg,ac,bc))
section
variable {prog:aj}{w:ah}{A:az}{E:af->aA->Prop}{s:aA}{o:Ord}{N:Nat}{f:Nat->Keyed}{kd:SortKind}{st st0:SortSt}{X Y ts:am}{na nb:Nat}
noncomputable def Oh (o:Ord)(X Y:am)(n:Nat)(ts:am)(na nb:Nat):Prop:=Mh o X Y ts na nb/\1<=na/\2<=nb/\na+nb+n<=X.length+Y.length
noncomputable def H2 (o:Ord)(f:Nat->Keyed)(X Y:am)(n:Nat)(st0:SortSt):ForInStep H->SortSt->Prop:=λr st'=>Sm st0 st'/\match r with
 | .done c=>(∃r z,c=(some r,z)/\Res o f X Y r)\/∃ts na nb mg ac bc,c=(none,na,nb,fa f ts.reverse,mg,ac,bc)/\Oh o X Y n ts na nb
 | .yield c=>∃ts na nb mg ac bc,c=(none,na,nb,fa f ts.reverse,mg,ac,bc)/\Oh o X Y n ts na nb
def Vh(ab:Ab o N X Y)(hm:Sm st0 st){n mg x:Nat}(m:Mh o X Y ts (na+1) (nb+1))(hb:1<=nb)(hn:na+1+(nb+1)+n<=X.length+Y.length)(hx:X[na]?=some x)(hy:Y[nb]?=some y)(hxy:P o y x) :
  wpS (model prog w) A E s (U3 (fa f X) (fa f Y) (fa f ts.reverse) (na+1) (nb+1) mg ac bc) (H2 o f X Y n st0) st:=by
 unfold U3;rw[show na+1-1=na by lia];refine aZ (kG (nA hx) ?_);have m2:=m.zk ab hx (sf ab.sb hy hxy);rw[zQ,wK];by_cases c:na=0
 ·rw[aM (by rw[c];rfl)];exact bz ⟨hm,.inl ⟨_,_,rfl,m2.GD ab (.inl c)⟩⟩
 ·rw[aK (by simpa using c)];by_cases c2:(decide (ac<7) && decide (bc<7))=true
  ·rw[aM c2];exact bz ⟨hm,.inr ⟨_,_,_,_,_,_,rfl,m2,(),(),()⟩⟩
  ·rw[aK c2];exact bz ⟨hm,⟨_,_,_,_,_,_,rfl,m2,(),(),()⟩⟩
def VQ(C:Ci prog w A s o N f kd)(hk:kindOf st=kd)(ab:Ab o N X Y)(bt:ZV o X Y)(hm:Sm st0 st){n mg x:Nat}(m:Mh o X Y ts (na+1) (nb+1))(hb:1<=nb)(hn:na+1+(nb+1)+n<=X.length+Y.length)(hx:X[na]?=some x)(hy:Y[nb]?=some y)(hxy:P o x y) :
  wpS (model prog w) A E s (U2 (fa f X) (fa f Y) (fa f ts.reverse) (na+1) (nb+1) mg ac bc) (H2 o f X Y n st0) st:=by
 unfold U2;rw[show nb+1-1=nb by lia,show na+1-1=na by lia];refine aZ (kG (nA hy) ?_);have m2:=m.Pj ab hy (sf ab.sa hx hxy);have lb:=m.lb;rw[zQ,wK];by_cases c:nb=1
 ·rw[aM (by rw[c];rfl)];exact bz ⟨hm,.inl ⟨_,_,rfl,vU ab bt m2 c⟩⟩
 ·rw[aK (by simpa using c)];refine aZ (kG (nA hx) ?_);refine aZ (Nx C hk (h:=λi=>Y.getD (0+i) 0) (λi hi=>nA (getD_at ())) (λi hi=>?_) (Jc ab.sb _ _ ()) () λt t1 t2 t3=>?_)
  ·have:=aW (getD_at (l:=Y) (i:=0+i) ());exact⟨ab.lt x (aW hx) _ this,ab.nb _ this⟩
  ·dsimp only;have m3:=Mh.Aj ab hx (nb-t) (at_:=t) (by rw[show t+(nb-t)=nb by lia];exact m2) λi z hi1 hi2 ez=>by
    have:=t3 i hi1 ();rw[cB,aI (l:=Y),ez]at this;exact this
   by_cases c2:nb-t>0
   ·rw[aM c2,yx Y t nb,Rr,wK];by_cases c3:t=1
    ·rw[aM (by rw[c3];rfl)];exact bz ⟨hm,.inl ⟨_,_,rfl,vU ab bt m3 c3⟩⟩
    ·rw[aK (by simpa using c3)];by_cases c4:t=0
     ·rw[aM (by rw[c4];rfl)];exact bz ⟨hm,.inl ⟨_,_,rfl,m3.GD ab (.inr c4)⟩⟩
     ·rw[aK (by simpa using c4)];obtain⟨u,rfl⟩:∃u,t=u+1:=⟨t-1,()⟩;have:=t2 u ();rw[cB]at this;exact Vh ab hm m3 () () hx (getD_at ()) this
   ·rw[aK c2];have:t=nb:=()
    subst this;obtain⟨u,rfl⟩:∃u,t=u+1:=⟨t-1,()⟩;have:=t2 u ();rw[cB]at this;exact Vh ab hm m2 () () hx (getD_at ()) this
def Z3(C:Ci prog w A s o N f kd)(hk:kindOf st0=kd)(ab:Ab o N X Y)(bt:ZV o X Y)(hm:Sm st0 st){n mg:Nat}(m:Mh o X Y ts (na+1) (nb+1))(hb:1<=nb)(hn:na+1+(nb+1)+n<=X.length+Y.length) :
  wpS (model prog w) A E s (U1 (fa f X) (fa f Y) (fa f ts.reverse) (na+1) (nb+1) mg ac bc) (H2 o f X Y n st0) st:=by
 unfold U1;refine aZ (xV hm λst1 hm1=>?_);have lb:=m.lb;have la:=m.la;rw[show nb+1-1=nb by lia,show na+1-1=na by lia];have hy:=getD_at (l:=Y) (i:=nb) ();have yB:=aW hy;refine aZ (kG (nA hy) ?_);refine aZ (P6 C (by rw[hm1.k];exact hk) (h:=λi=>X.getD (0+i) 0) (λi hi=>nA (getD_at ())) (λi hi=>ab.lt _ (aW (getD_at (l:=X) (i:=0+i) ())) _ yB) (ab.nb _ yB) (Jc ab.sa _ _ ()) () λt t1 t2 t3=>?_);dsimp only;have m3:=Mh.BS ab hy (na+1-t) (at_:=t) (by rw[show t+(na+1-t)=na+1 by lia];exact m) λi z hi1 hi2 ez=>by
  have:=t3 i hi1 ();rw[cB,aI (l:=X),ez]at this;exact this
 by_cases c2:na+1-t>0
 ·rw[aM c2,yx X t (na+1),Rr,wK];by_cases c4:t=0
  ·rw[aM (by rw[c4];rfl)];exact bz ⟨hm1,.inl ⟨_,_,rfl,m3.GD ab (.inl c4)⟩⟩
  ·rw[aK (by simpa using c4)];obtain⟨u,rfl⟩:∃u,t=u+1:=⟨t-1,()⟩;have:=t2 u ();rw[cB]at this;exact VQ C (by rw[hm1.k];exact hk) ab bt hm1 m3 hb () (getD_at ()) hy this
 ·rw[aK c2];have:t=na+1:=()
  subst this;have:=t2 na ();rw[cB]at this;exact VQ C (by rw[hm1.k];exact hk) ab bt hm1 m hb hn (getD_at ()) hy this
def Zc(C:Ci prog w A s o N f kd)(hk:kindOf st=kd)(ab:Ab o N X Y)(tp:Top o X Y)(bt:ZV o X Y)(h1:1<=X.length)(h2:1<=Y.length)
  {Q:Array Keyed->SortSt->Prop} (q:∀out st',Sm st st'->Res o f X Y out->Q out st'):wpS (model prog w) A E s (BB (fa f X) (fa f Y)) Q st:=by
 rw[G_];refine aZ (wpS_lift (eS ⟨rfl,?_⟩));dsimp only;dsimp[vL];have hx0:=getD_at (l:=X) (i:=X.length-1) ();refine aZ (kG (nA hx0) ?_);have m0:Mh o X Y [] (X.length-1+1) Y.length:=⟨(),aO _,by rw[bQ];lia,List.Pairwise.nil,(nofun),(λ_ _ _ h=>nomatch h),(λ_ _ _ h=>nomatch h)⟩;have m1:=m0.zk ab hx0 λy hy=>tp _ _ hx0 () y (dW hy);obtain⟨x0,ex0⟩:∃x0,x0=X.getD (X.length-1) 0:=⟨_,rfl⟩;rw[<- ex0]at m1 ⊢;have e1:(#[f x0]:Array Keyed)=fa f [x0].reverse:=rfl;rw[e1,wK];by_cases c:X.length-1=0
 ·rw[aM (by rw[c];rfl)];exact bz (q _ _ Sm.refl (m1.GD ab (.inl c)))
 ·rw[aK (by simpa using c)];by_cases c2:Y.length=1
  ·rw[aM (by rw[c2];rfl)];exact bz (q _ _ Sm.refl (vU ab bt m1 c2))
  ·rw[aK (by simpa using c2)];refine aZ (h_ ?_);refine aZ (ef (cK (I:=λx c st'=>Sm st st'/\∃ts na nb mg,c=(none,na,nb,fa f ts.reverse,mg)/\Oh o X Y (x+1) ts na nb)
    (Q:=λc st'=>Sm st st'/\∃r z,c=(some r,z)/\Res o f X Y r) ?step ?fin ⟨Sm.refl,_,_,_,_,rfl,m1,(),(),()⟩) ?post)
   case post=>
    rintro c st' ⟨hm,r,z,rfl,hr⟩;exact bz (q _ _ hm hr)
   case fin=>
    rintro c st' ⟨hm,ts,na,nb,mg,rfl,m,a1,a2,a3⟩;exfalso;lia
   case step=>
    intro x c st' _ hx hh;revert hh;revert c;refine un4 λhm ts na nb mg ho=>?_;have m:=ho.1;have a1:=ho.2.1;have a2:=ho.2.2.1;have a3:=ho.2.2.2;clear ho;dsimp only;refine aZ (ef (cK (I:=λx' c st''=>Sm st st''/\∃ts na nb ac bc,c=(none,na,nb,fa f ts.reverse,ac,bc)/\Oh o X Y (x+1+min x' 1) ts na nb)
     (Q:=λc st''=>Sm st st''/\((∃r z,c=(some r,z)/\Res o f X Y r)\/∃ts na nb ac bc,c=(none,na,nb,fa f ts.reverse,ac,bc)/\Oh o X Y (x+1+1) ts na nb)) ?istep ?ifin ⟨hm,_,_,_,_,_,rfl,m,a1,a2,a3⟩) ?ipost)
    case ifin=>
     rintro c st'' ⟨hm',ts,na,nb,ac,bc,rfl,m,a1,a2,a3⟩;exact⟨hm',.inr ⟨_,_,_,_,_,rfl,m,a1,a2,()⟩⟩
    case istep=>
     intro x' c st'' _ hx' hh;revert hh;revert c;refine un5 λhm' ts na nb ac bc ho=>?_;have m:=ho.1;have a1:=ho.2.1;have a2:=ho.2.2.1;have a3:=ho.2.2.2;clear ho;dsimp only;obtain⟨u,rfl⟩:∃u,na=u+1:=⟨na-1,()⟩;obtain⟨v,rfl⟩:∃v,nb=v+1:=⟨nb-1,()⟩;have la:=m.la;have lb:=m.lb;rw[show u+1-1=u by lia,show v+1-1=v by lia];have hy:=getD_at (l:=Y) (i:=v) ();have hxx:=getD_at (l:=X) (i:=u) ();have yB:=aW hy;have xA:=aW hxx;have lt:=ab.lt _ xA _ yB;refine aZ (kG (nA hy) ?_);refine aZ (kG (nA hxx) ?_);refine aZ (BF C (by rw[hm'.k];exact hk) (ab.nb _ yB) (ab.na _ xA) ?_)
     cases hl:o.lt (Y.getD v 0) (X.getD u 0)
     ·dsimp[bB,b9];refine aZ (kG (nA hy) ?_);have m2:=m.Pj ab hy (sf ab.sa hxx (P.zj hl lt));rw[zQ,wK];by_cases c3:v=1
      ·rw[aM (by rw[c3];rfl)];exact bz ⟨hm',.inl ⟨_,_,rfl,vU ab bt m2 c3⟩⟩
      ·rw[aK (by simpa using c3)];by_cases c4:bc+1>=mg
       ·rw[aM c4];exact bz ⟨hm',.inr ⟨_,_,_,_,_,rfl,m2,a1,(),()⟩⟩
       ·rw[aK c4];exact bz ⟨hm',_,_,_,_,_,rfl,m2,a1,(),()⟩
     ·dsimp[cJ];refine aZ (kG (nA hxx) ?_);have m2:=m.zk ab hxx (sf ab.sb hy (P.of_lt hl));rw[zQ,wK];by_cases c3:u=0
      ·rw[aM (by rw[c3];rfl)];exact bz ⟨hm',.inl ⟨_,_,rfl,m2.GD ab (.inl c3)⟩⟩
      ·rw[aK (by simpa using c3)];by_cases c4:ac+1>=mg
       ·rw[aM c4];exact bz ⟨hm',.inr ⟨_,_,_,_,_,rfl,m2,(),a2,()⟩⟩
       ·rw[aK c4];exact bz ⟨hm',_,_,_,_,_,rfl,m2,(),a2,()⟩
    case ipost=>
     intro c st'' hh;revert hh;revert c;refine uo5 (λhm' r z hr=>?_) λhm' ts na nb ac bc ho=>?_
     ·dsimp only;exact bz ⟨hm',r,_,rfl,hr⟩
     ·have m:=ho.1;have a1:=ho.2.1;have a2:=ho.2.2.1;have a3:=ho.2.2.2;clear ho;dsimp only;refine aZ (wpS_lift (eS ⟨rfl,?_⟩));refine aZ (ef (cK (I:=λx' c st''=>Sm st st''/\∃ts na nb mg ac bc,c=(none,na,nb,fa f ts.reverse,mg,ac,bc)/\Oh o X Y (x+1+1) ts na nb)
       (Q:=λc st''=>Sm st st''/\((∃r z,c=(some r,z)/\Res o f X Y r)\/∃ts na nb mg ac bc,c=(none,na,nb,fa f ts.reverse,mg,ac,bc)/\Oh o X Y (x+1+1) ts na nb)) ?jstep ?jfin ⟨hm',_,_,_,_,_,_,rfl,m,a1,a2,a3⟩) ?jpost)
      case jfin=>
       rintro c st3 ⟨hm3,hh⟩;exact⟨hm3,.inr hh⟩
      case jstep=>
       intro x' c st3 _ hx' hh;revert hh;revert c;refine un6 λhm3 ts na nb mg ac bc ho=>?_;have m:=ho.1;have a1:=ho.2.1;have a2:=ho.2.2.1;have a3:=ho.2.2.2;clear ho;dsimp only;obtain⟨u,rfl⟩:∃u,na=u+1:=⟨na-1,()⟩;obtain⟨v,rfl⟩:∃v,nb=v+1:=⟨nb-1,()⟩;have t1:=λmg=>Z3 (n:=x+1+1) (mg:=mg) (ac:=ac) (bc:=bc) (E:=E) C hk ab bt hm3 m () a3;unfold U1 U2 U3 at t1;refine ef (Q:=H2 o f X Y (x+1+1) st) ?_ ?_
       ·by_cases c3:mg>1
        ·rw[aM c3];exact t1 (mg-1)
        ·rw[aK c3];exact t1 mg
       ·rintro r st4 ⟨hm4,hr⟩
        cases r with
        | done c=>exact⟨hm4,hr⟩
        | yield c=>exact⟨hm4,hr⟩
      case jpost=>
       intro c st3 hh;revert hh;revert c;refine uo6 (λhm3 r z hr=>?_) λhm3 ts na nb mg ac bc ho=>?_
       ·dsimp only;exact bz ⟨hm3,r,_,rfl,hr⟩
       ·have m:=ho.1;have a1:=ho.2.1;have a2:=ho.2.2.1;have a3:=ho.2.2.2;clear ho;dsimp only;refine aZ (xV hm3 λst4 hm4=>?_);exact bz ⟨hm4,_,_,_,_,rfl,m,a1,a2,a3⟩
end
def Hh(i:Nat):mergeAt' i=(do
 let s <- get
 let(some (a1,n1,pw),some (a2,n2,_)):=((pendingOf s)[i]?,(pendingOf s)[i+1]?)|unsupported "internal:list.sort.pending"
 set (setPending s (((pendingOf s).setIfInBounds i (a1,n1+n2,pw)).eraseIdxIfInBounds (i+1)))
 let some k <- nq false (<- elem' (arrOf s) a2) (arrOf s) a1 n1 0|return false
 let(a1,n1):=(a1+k,n1-k)
 if n1 == 0 then return true
 let some n2 <- nq true (<- elem' (arrOf s) (a1+n1-1)) (arrOf s) a2 n2 (n2-1)|return false
 if n2 == 0 then return true
 let x:=(arrOf s).extract a1 a2
 let y:=(arrOf s).extract a2 (a2+n2)
 let both <- if n1<=n2 then BP x y else BB x y
 modify λs=>setArr s (both.toList.zipIdx.foldl (λa (p,j)=>a.setIfInBounds (a1+j) p) (arrOf s))
 return (failedOf (<- get)).isNone):=rfl
noncomputable def seg (g:Nat->Nat)(a n:Nat):am:=(List.range n).map λi=>g (a+i)
section
variable {o:Ord}{N:Nat}{f:Nat->Keyed}{g:Nat->Nat}
def o6(g:Nat->Nat)(a n:Nat):(seg g a n).length=n:=by unfold seg;rw[aH,cD]
def t8{a n i:Nat}(h:i<n):(seg g a n)[i]?=some (g (a+i)):=by unfold seg;rw[aQ,eg h];rfl
def rq{a n x:Nat}(h:x∈seg g a n):∃i,i<n/\x=g (a+i):=by
 obtain⟨i,hi,rfl⟩:=bA.mp h;exact⟨i,cQ.mp hi,rfl⟩
theorem Pa{a n:Nat}(h:So o g a (a+n)):(seg g a n).Pairwise (P o):=by
 rw[cF];intro i j hi hj hij;rw[o6]at hi hj;have e1:=t8 (g:=g) (a:=a) hi;have e2:=t8 (g:=g) (a:=a) hj;rw[aF (by rw[o6];exact hi)]at e1;rw[aF (by rw[o6];exact hj)]at e2;rw[a_ e1,a_ e2];exact h _ _ () () ()
def Ji{arr:Array Keyed}(hs:arr.size=N)(hg:∀i,i<N->arr[i]?=some (f (g i))){a n:Nat}(h:a+n<=N):arr.extract a (a+n)=fa f (seg g a n):=by
 apply Array.ext_getElem?;intro i;rw[O2,Array.getElem?_extract];by_cases c:i<n
 ·rw[aM (),t8 c,hg _ ()];rfl
 ·rw[aK (),b_ (by rw[o6];lia)];rfl
theorem CJ{α:Type}(b:Nat):∀(l:List α) (n:Nat) (arr:Array α),((l.zipIdx n).foldl (λa (p,j)=>a.setIfInBounds (b+j) p) arr).size=arr.size
 | [],_,_=>rfl
 | x::l,n,arr=>by
  rw[jm,eZ,CJ b l (n+1)];exact Array.size_setIfInBounds ..
theorem GB{α:Type}(b:Nat):∀(l:List α) (n:Nat) (arr:Array α) (k:Nat),b+n+l.length<=arr.size->((l.zipIdx n).foldl (λa (p,j)=>a.setIfInBounds (b+j) p) arr)[k]?=if b+n<=k/\k<b+n+l.length then l[k-(b+n)]? else arr[k]?
 | [],n,arr,k,h=>by rw[aK (by rw[bQ];lia)];rfl
 | x::l,n,arr,k,h=>by
  rw[bg]at h;rw[jm,eZ,GB b l (n+1) _ k (by rw[Array.size_setIfInBounds];lia),bg];by_cases c:k=b+n
  ·subst c;rw[aK (),aM (),ig];show(arr.setIfInBounds (b+n) x)[b+n]?=some x;rw[Array.getElem?_setIfInBounds_self_of_lt ()]
  ·by_cases c2:b+n<=k/\k<b+n+(l.length+1)
   ·rw[aM (),aM c2,show k-(b+n)=k-(b+(n+1))+1 by lia,List.getElem?_cons_succ]
   ·rw[aK (),aK c2]
    skip
    rw[Array.getElem?_setIfInBounds_ne ()]
end
section
variable {prog:aj}{w:ah}{A:az}{E:af->aA->Prop}{s:aA}{o:Ord}{N:Nat}{f:Nat->Keyed}{kd:SortKind}{g:Nat->Nat}{st:SortSt}
def SJ{Q:PUnit->SortSt->Prop}(h:Q ⟨⟩ st'):wpS (model prog w) A E s (set st':StateT SortSt Sem PUnit) Q st:=by
 unfold wpS;rw[StateT.run_set];exact aS ⟨rfl,h⟩
def Zg(C:Ci prog w A s o N f kd){l1:List (Nat×Nat×Nat)}{sa na nb pw pv:Nat}(h:Sg N f kd g (l1++(sa,na,pw)::(sa+na,nb,pv)::l2).toArray st)(ha:1<=na)(hb:1<=nb)(hN:sa+na+nb<=N)
  (c1:Cl g sa (sa+na)) (s1:So o g sa (sa+na)) (c2:Cl g (sa+na) (sa+na+nb)) (s2:So o g (sa+na) (sa+na+nb))
  {Q:Bool->SortSt->Prop} (q:∀g' st',Sg N f kd g' (l1++(sa,na+nb,pw)::l2).toArray st'->Rn o g g' sa (sa+na+nb)->Q true st'):wpS (model prog w) A E s (mergeAt' l1.length) Q st:=by
 rw[Hh];refine aZ (h_ ?_);have e1:(pendingOf st)[l1.length]?=some (sa,na,pw):=by rw[h.pend];simp
 have e2:(pendingOf st)[l1.length+1]?=some (sa+na,nb,pv):=by rw[h.pend];simp
 have e3:((pendingOf st).setIfInBounds l1.length (sa,na+nb,pw)).eraseIdxIfInBounds (l1.length+1)=(l1++(sa,na+nb,pw)::l2).toArray:=by
  rw[h.pend,List.setIfInBounds_toArray,iz];congr 1;rw[f9 _ _ (aO _),ig,List.eraseIdx_append_of_length_le (),show l1.length+1-l1.length=1 by lia];rfl
 rw[e1,e2];dsimp only;rw[e3];refine aZ (SJ ?_);have h':Sg N f kd g (l1++(sa,na+nb,pw)::l2).toArray (setPending st (l1++(sa,na+nb,pw)::l2).toArray):=⟨h.size,h.get,h.lt,h.kind,h.failed,rfl⟩;obtain⟨st1,hst1⟩:∃st1,st1=setPending st (l1++(sa,na+nb,pw)::l2).toArray:=⟨_,rfl⟩;rw[<- hst1]at h' ⊢;refine aZ (kG (h.get (sa+na) ()) ?_);have b0:=c2 (sa+na) () ();refine aZ (P6 C h'.kind (h:=λi=>g (sa+i)) (λi hi=>h.get _ ()) (λi hi=>by have:=c1 (sa+i) () ();lia) () (λi j _ a b=>s1 _ _ () () ()) () λk k1 k2 k3=>?_);dsimp only;by_cases cz:na-k=0
 ·rw[aM (by rw[cz];rfl)];refine bz (q g st1 h' ⟨λ_ _=>rfl,λi a b=>?_,λi j a b c=>?_⟩)
  ·by_cases d:i<sa+na
   ·have:=c1 i a d;lia
   ·have:=c2 i () b;lia
  ·by_cases d:j<sa+na
   ·exact s1 i j a b d
   ·by_cases d2:sa+na<=i
    ·exact s2 i j d2 b c
    ·have r:=k2 (i-sa) ();rw[show sa+(i-sa)=i by lia]at r;by_cases d3:j=sa+na
     ·subst d3;exact r
     ·exact r.trans (s2 _ _ () () c)
 ·rw[aK (by simpa using cz)];have hlast:sa+k+(na-k)-1=sa+na-1:=()
  rw[hlast];refine aZ (kG (h.get (sa+na-1) ()) ?_);have a0:=c1 (sa+na-1) () ();refine aZ (Nx C h'.kind (h:=λi=>g (sa+na+i)) (λi hi=>h.get _ ()) (λi hi=>by have:=c2 (sa+na+i) () ();lia) (λi j _ a b=>s2 _ _ () () ()) () λt t1 t2 t3=>?_);dsimp only;by_cases cy:t=0
  ·rw[aM (by rw[cy];rfl)];subst cy;refine bz (q g st1 h' ⟨λ_ _=>rfl,λi a b=>?_,λi j a b c=>?_⟩)
   ·by_cases d:i<sa+na
    ·have:=c1 i a d;lia
    ·have:=c2 i () b;lia
   ·by_cases d:j<sa+na
    ·exact s1 i j a b d
    ·by_cases d2:sa+na<=i
     ·exact s2 i j d2 b c
     ·have r:=t3 (j-(sa+na)) () ();rw[show sa+na+(j-(sa+na))=j by lia]at r;by_cases d3:i=sa+na-1
      ·subst d3;exact r
      ·exact(s1 i (sa+na-1) a () ()).trans r
  ·rw[aK (by simpa using cy)];have x1:(arrOf st).extract (sa+k) (sa+na)=fa f (seg g (sa+k) (na-k)):=by
    have:=Ji (f:=f) (g:=g) h.size h.get (a:=sa+k) (n:=na-k) ()
    rwa [show sa+k+(na-k)=sa+na by lia]at this
   have x2:(arrOf st).extract (sa+na) (sa+na+t)=fa f (seg g (sa+na) t):=Ji h.size h.get ();rw[x1,x2];have sx:So o g (sa+k) (sa+k+(na-k)):=λi j a b c=>s1 i j () b ();have sy:So o g (sa+na) (sa+na+t):=λi j a b c=>s2 i j a b ();have ab:Ab o N (seg g (sa+k) (na-k)) (seg g (sa+na) t):={
    sa:=Pa sx
    sb:=Pa sy
    lt:=λx hx y hy=>by
     obtain⟨i,hi,rfl⟩:=rq hx;obtain⟨j,hj,rfl⟩:=rq hy;have:=c1 (sa+k+i) () ();have:=c2 (sa+na+j) () ();lia
    nb:=λy hy=>by
     obtain⟨j,hj,rfl⟩:=rq hy;exact h.lt _ ()
    na:=λy hy=>by
     obtain⟨j,hj,rfl⟩:=rq hy;exact h.lt _ ()}
   have tp:Top o (seg g (sa+k) (na-k)) (seg g (sa+na) t):=λi x hx hi y hy=>by
    rw[o6]at hi;rw[t8 ()]at hx
    cases hx
    obtain⟨j,hj,rfl⟩:=rq hy;rw[show sa+k+i=sa+na-1 by lia];exact t2 j hj
   have bt:ZV o (seg g (sa+k) (na-k)) (seg g (sa+na) t):=λy hy x hx=>by
    rw[t8 ()]at hy
    cases hy
    obtain⟨i,hi,rfl⟩:=rq hx;have:=k3 (k+i) () ()
    rwa [<- iJ]at this
   have fin:∀out st2,Sm st1 st2->Res o f (seg g (sa+k) (na-k)) (seg g (sa+na) t) out->wpS (model prog w) A E s (do
     modify λs=>setArr s (out.toList.zipIdx.foldl (λa (p,j)=>a.setIfInBounds (sa+k+j) p) (arrOf s))
     let s <- get
     pure (failedOf s).isNone) Q st2:=by
    rintro out st2 hm ⟨hs,rfl,hlen,hso,hmem⟩;rw[o6,o6]at hlen;refine aZ (fW (aZ (h_ ?_)));have hf:(failedOf st2)=none:=by rw[hm.f];exact h'.failed
    have hmx:∀j x,hs[j]?=some x->(∃i,i<na-k/\x=g (sa+k+i))\/∃i,i<t/\x=g (sa+na+i):=λj x e=>by
     rcases hmem x (aW e)with z|z
     ·exact .inl (rq z)
     ·exact .inr (rq z)
    have ez:(fa f hs).toList=hs.map f:=by unfold fa;rfl
    have hsz:sa+k+0+(hs.map f).length<=(arrOf st2).size:=by rw[aH,hlen,hm.a,h'.size];lia
    refine bz ?_
    skip
    rw[hf];refine q (λi=>if sa+k<=i/\i<sa+k+(na-k+t)then hs.getD (i-(sa+k)) 0 else g i) _ ⟨?_,λi hi=>?_,λi hi=>?_,by rw[show kindOf (setArr st2 _)=kindOf st2 from rfl,hm.k];exact h'.kind,hf,by rw[show pendingOf (setArr st2 _)=pendingOf st2 from rfl,hm.p];exact h'.pend⟩ ?_
    ·have:=CJ (sa+k) (fa f hs).toList 0 (arrOf st2);rw[hm.a,h'.size]at this;rw[<- this,<- hm.a]
    ·skip
     rw[ez,GB _ _ _ _ _ hsz,aH,hlen,hm.a];by_cases d:sa+k<=i/\i<sa+k+(na-k+t)
     ·rw[aM (),aM d,aQ,add_zero,getD_at (l:=hs) ()];rfl
     ·rw[aK (),aK d];exact h'.get i hi
    ·by_cases d:sa+k<=i/\i<sa+k+(na-k+t)
     ·rw[aM d]
      rcases hmx _ _ (getD_at (l:=hs) (i:=i-(sa+k)) ())with⟨j,hj,e⟩|⟨j,hj,e⟩
      ·rw[e];exact h.lt _ ()
      ·rw[e];exact h.lt _ ()
     ·rw[aK d];exact h.lt i hi
    ·have gin:∀i,sa+k<=i->i<sa+na+t->(if sa+k<=i/\i<sa+k+(na-k+t)then hs.getD (i-(sa+k)) 0 else g i)=hs.getD (i-(sa+k)) 0:=λi a b=>aM ();have gout:∀i,i<sa+k\/sa+na+t<=i->(if sa+k<=i/\i<sa+k+(na-k+t)then hs.getD (i-(sa+k)) 0 else g i)=g i:=λi a=>aK ();refine⟨λi hi=>gout i (),λi a b=>?_,λi j a b c=>?_⟩
     ·by_cases d:sa+k<=i/\i<sa+na+t
      ·skip
       rw[gin i d.1 d.2]
       rcases hmx _ _ (getD_at (l:=hs) (i:=i-(sa+k)) ())with⟨j,hj,e⟩|⟨j,hj,e⟩
       ·rw[e];have:=c1 (sa+k+j) () ();lia
       ·rw[e];have:=c2 (sa+na+j) () ();lia
      ·skip
       rw[gout i ()];by_cases d2:i<sa+na
       ·have:=c1 i a d2;lia
       ·have:=c2 i () b;lia
     ·skip
      by_cases d1:i<sa+k
      ·rw[gout i (.inl d1)];have r:=k2 (i-sa) ();rw[show sa+(i-sa)=i by lia]at r;by_cases d2:j<sa+k
       ·rw[gout j (.inl d2)];exact s1 i j a b ()
       ·by_cases d3:j<sa+na+t
        ·rw[gin j () d3]
         rcases hmx _ _ (getD_at (l:=hs) (i:=j-(sa+k)) ())with⟨v,hv,e⟩|⟨v,hv,e⟩
         ·rw[e];exact s1 _ _ a () ()
         ·rw[e];by_cases d4:v=0
          ·subst d4;exact r
          ·exact r.trans (s2 _ _ () () ())
        ·rw[gout j ()];exact r.trans (s2 _ _ () () c)
      ·by_cases d2:i<sa+na+t
       ·rw[gin i () d2];by_cases d3:j<sa+na+t
        ·rw[gin j () d3];exact uL hso (getD_at ()) (getD_at ()) ()
        ·rw[gout j ()]
         rcases hmx _ _ (getD_at (l:=hs) (i:=i-(sa+k)) ())with⟨v,hv,e⟩|⟨v,hv,e⟩
         ·rw[e];have r:=t3 (j-(sa+na)) () ();rw[show sa+na+(j-(sa+na))=j by lia]at r;by_cases d4:sa+k+v=sa+na-1
          ·rw[d4];exact r
          ·exact(s1 _ (sa+na-1) () () ()).trans r
         ·rw[e];exact s2 _ _ () () c
       ·rw[gout i (),gout j ()];exact s2 i j () b c
   by_cases cl:na-k<=t
   ·rw[aM cl];exact aZ (Y7 C h'.kind ab tp (by rw[o6];lia) (t8 ()) (bt _ (t8 ())) fin)
   ·rw[aK cl];exact aZ (Zc C h'.kind ab tp bt (by rw[o6];lia) (by rw[o6];lia) fin)
end
noncomputable abbrev pr (x:Nat×Nat×Nat):Nat×Nat:=(x.1,x.2.1)
noncomputable def tM (o:Ord)(g:Nat->Nat):List (Nat×Nat)->Nat->Nat->Prop
 | [],a,b=>a=b
 | x::l,a,b=>x.1=a/\1<=x.2/\Cl g a (a+x.2)/\So o g a (a+x.2)/\tM o g l (a+x.2) b
noncomputable def PA (o:Ord)(g:Nat->Nat)(p:Array (Nat×Nat×Nat))(b:Nat):Prop:=tM o g (p.toList.map pr) 0 b
section
variable {o:Ord}{g:Nat->Nat}
def tM.le:∀{l:List (Nat×Nat)}{a b:Nat},tM o g l a b->a+l.length<=b
 | [],a,b,h=>by have h:a=b:=h;rw[bQ];lia
 | x::l,a,b,h=>by
  have:=h.2.2.2.2.le;have:=h.2.1;rw[bg];lia
def tM.congr{g':Nat->Nat}:∀{l:List (Nat×Nat)}{a b:Nat},tM o g l a b->(∀i,a<=i->i<b->g' i=g i)->tM o g' l a b
 | [],a,b,h,_=>h
 | x::l,a,b,h,e=>by
  have hb:=h.2.2.2.2.le;refine⟨h.1,h.2.1,λi h1 h2=>?_,λi j h1 h2 h3=>?_,h.2.2.2.2.congr λi h1 h2=>e i () h2⟩
  ·rw[e i h1 ()];exact h.2.2.1 i h1 h2
  ·rw[e i h1 (),e j () ()];exact h.2.2.2.1 i j h1 h2 h3
theorem tM.app:∀{l m:List (Nat×Nat)}{a b:Nat},tM o g (l++m) a b ↔ ∃c,tM o g l a c/\tM o g m c b
 | [],m,a,b=>⟨λh=>⟨a,rfl,h⟩,λ⟨c,h1,h2⟩=>by have h1:a=c:=h1;subst h1;exact h2⟩
 | x::l,m,a,b=>by
  constructor
  ·rintro⟨h1,h2,h3,h4,h5⟩;obtain⟨c,h6,h7⟩:=tM.app.mp h5;exact⟨c,⟨h1,h2,h3,h4,h6⟩,h7⟩
  ·rintro⟨c,⟨h1,h2,h3,h4,h5⟩,h6⟩;exact⟨h1,h2,h3,h4,tM.app.mpr ⟨c,h5,h6⟩⟩
def XG{p:Array (Nat×Nat×Nat)}(h:i+1<p.size):∃l1 x y l2,p=(l1++x::y::l2).toArray/\l1.length=i:=by
 have h':i+1<p.toList.length:=h;refine⟨p.toList.take i,p.toList[i],p.toList[i+1],p.toList.drop (i+2),?_,by rw[bK];lia⟩;apply Array.toList_inj.mp
 skip
 conv=>lhs;rw[<- iB i p.toList,dh (show i<p.toList.length by lia),dh h']
end
section
variable {prog:aj}{w:ah}{A:az}{E:af->aA->Prop}{s:aA}{o:Ord}{N:Nat}{f:Nat->Keyed}{kd:SortKind}{g:Nat->Nat}{p:Array (Nat×Nat×Nat)}{st:SortSt}
def Hr(C:Ci prog w A s o N f kd)(h:Sg N f kd g p st){lo:Nat}(hp:PA o g p lo)(hlo:lo<=N)(hi:i+1<p.size)
  {Q:Bool->SortSt->Prop} (q:∀g' p' st',Sg N f kd g' p' st'->PA o g' p' lo->p'.size+1=p.size->(∀k,lo<=k->g' k=g k)->Q true st'):wpS (model prog w) A E s (mergeAt' i) Q st:=by
 obtain⟨l1,⟨sa,na,pw⟩,⟨sb,nb,pv⟩,l2,rfl,rfl⟩:=XG hi;unfold PA at hp;rw[show(l1++(sa,na,pw)::(sb,nb,pv)::l2).toArray.toList=l1++(sa,na,pw)::(sb,nb,pv)::l2 from rfl,bO]at hp;obtain⟨c,h1,h2⟩:=tM.app.mp hp;obtain⟨e1,n1,cl1,so1,e2,n2,cl2,so2,rest⟩:=h2;have e1:sa=c:=e1;subst e1;have e2:sb=sa+na:=e2;subst e2;have l2b:=rest.le;have n1:1<=na:=n1;have n2:1<=nb:=n2;have l2b:sa+na+nb<=lo:=by
  have:sa+na+nb+(List.map pr l2).length<=lo:=l2b;lia
 refine Zg C h n1 n2 () cl1 so1 cl2 so2 λg' st' h' R=>q g' _ st' h' ?_ (by simp;lia) λk hk=>R.out k ();unfold PA;rw[show(l1++(sa,na+nb,pw)::l2).toArray.toList=l1++(sa,na+nb,pw)::l2 from rfl,bO];refine tM.app.mpr ⟨sa,h1.congr λi a b=>R.out i (),rfl,by show 1<=na+nb;lia,?_,?_,?_⟩
 ·show Cl g' sa (sa+(na+nb));rw[<- iJ];exact R.cl
 ·show So o g' sa (sa+(na+nb));rw[<- iJ];exact R.so
 ·skip
  rw[<- iJ];exact rest.congr λi a b=>R.out i (.inr a)
def C7{p:Array (Nat×Nat×Nat)}{lo:Nat}{u:Nat×Nat×Nat->Nat×Nat×Nat}(hu:∀x,pr (u x)=pr x)(h:PA o g p lo):PA o g (p.modify i u) lo:=by
 unfold PA at h ⊢;have:(p.modify i u).toList.map pr=p.toList.map pr:=by
  rw[Array.toList_modify];apply cT;intro k;rw[aQ,aQ,List.getElem?_modify]
  cases p.toList[k]? with
  | none=>rfl
  | some x=>
   show some (pr (if i=k then u x else x))=some (pr x);by_cases c:i=k
   ·rw[aM c,hu x]
   ·rw[aK c]
 rw[this];exact h
def zO{p:Array (Nat×Nat×Nat)}{lo n v:Nat}(h:PA o g p lo)(hn:1<=n)(c:Cl g lo (lo+n))(d:So o g lo (lo+n)):PA o g (p.push (lo,n,v)) (lo+n):=by
 unfold PA at h ⊢;rw[Array.toList_push,bO];exact tM.app.mpr ⟨lo,h,rfl,hn,c,d,rfl⟩
def Sg.Y0(h:Sg N f kd g p st)(p':Array (Nat×Nat×Nat)):Sg N f kd g p' (setPending st p'):=⟨h.size,h.get,h.lt,h.kind,h.failed,rfl⟩
def UM(C:Ci prog w A s o N f kd)(h:Sg N f kd (λi=>i) #[] st)(hN:1<=N)
  {Q:Unit->SortSt->Prop} (q:∀g' p' st',Sg N f kd g' p' st'->Cl g' 0 N->So o g' 0 N->Q Unit.unit st'):wpS (model prog w) A E s sortRuns' Q st:=by
 rw[sortRuns'_eq];refine aZ (h_ ?_);dsimp only;rw[h.size];refine aZ (ef (cK
  (I:=λx c st'=>∃lo g p,c=(none,lo)/\lo<=N/\(x<=lo\/lo=N)/\Sg N f kd g p st'/\PA o g p lo/\(∀i,lo<=i->g i=i))
  (Q:=λc st'=>∃g p,c=(none,N)/\Sg N f kd g p st'/\PA o g p N) ?step ?fin ⟨0,_,_,rfl,bL _,.inl (aO _),h,rfl,λ_ _=>rfl⟩) ?post)
 case fin=>
  rintro c st' ⟨lo,g,p,rfl,h1,h2,h3,h4,h5⟩;have:lo=N:=()
  subst this;exact⟨g,p,rfl,h3,h4⟩
 case step=>
  rintro x c st' _ hx ⟨lo,g,p,rfl,h1,h2,h3,h4,h5⟩;dsimp only;by_cases hge:lo>=N
  ·rw[aM hge];have:lo=N:=()
   subst this;exact bz ⟨g,p,rfl,h3,h4⟩
  ·rw[aK hge];refine aZ (Nn C h3 () () (λi a b=>h5 i a) λm g1 st1 s1 m1 m2 R1=>?_);dsimp only;by_cases c2:m<minRun' N N 0
   ·rw[aM c2];refine aZ (wpS_lift (eS ⟨rfl,?_⟩));refine aZ (YG C s1 () m1 () R1 (λi a b=>h5 i ()) λg2 st2 s2 R2=>?_);rw[aK ⋯];have n2:1<=min (N-lo) (minRun' N N 0):=()
    have n3:lo+min (N-lo) (minRun' N N 0)<=N:=()
    refine aZ (h_ ?_);rw[s2.pend];have hp2:=tM.congr h4 λi a b=>R2.out i (.inl b)
    cases e:p.back? with
    | none=>
     dsimp only;refine aZ (fW (bz ⟨_,_,_,rfl,n3,(),s2.Y0 _,?_,λi hi=>by rw[R2.out i (.inr hi),h5 i ()]⟩));rw[s2.pend];exact zO hp2 n2 R2.cl R2.so
    | some y=>
     obtain⟨y1,y2,y3⟩:=y;dsimp only;refine aZ (ef (cK (I:=λ_ c st'=>c=(none,Unit.unit)/\∃g' p',Sg N f kd g' p' st'/\PA o g' p' lo/\(∀k,lo<=k->g' k=g2 k)) (Q:=λc st'=>c=(none,Unit.unit)/\∃g' p',Sg N f kd g' p' st'/\PA o g' p' lo/\(∀k,lo<=k->g' k=g2 k)) ?vstep (λ_ _ h=>h) ⟨rfl,_,_,s2,hp2,λ_ _=>rfl⟩) ?vpost)
     case vstep=>
      rintro x c st' _ hx ⟨rfl,g',p',h1,h2,h3⟩;refine aZ (h_ ?_);rw[h1.pend];by_cases c:p'.size>1
      ·rw[aM c]
       cases e:p'[p'.size-2]? with
       | none=>exact bz ⟨rfl,g',p',h1,h2,h3⟩
       | some y=>
        obtain⟨y1,y2,y3⟩:=y;dsimp only;split
        ·exact bz ⟨rfl,g',p',h1,h2,h3⟩
        ·refine aZ (Hr C h1 h2 () () λg3 p3 st3 s3 q3 _ z3=>?_);exact bz ⟨rfl,g3,p3,s3,q3,λk hk=>by rw[z3 k hk,h3 k hk]⟩
      ·rw[aK c];exact bz ⟨rfl,g',p',h1,h2,h3⟩
     case vpost=>
      rintro c st' ⟨rfl,g',p',h1,h2,h3⟩;dsimp only;refine aZ (fW (aZ (fW (bz ⟨_,_,_,rfl,n3,(),(h1.Y0 _).Y0 _,?_,λi hi=>by rw[h3 i (),R2.out i (.inr hi),h5 i ()]⟩))))
      skip
      rw[h1.pend];exact zO (C7 (λ_=>rfl) h2) n2 (λi a b=>by rw[h3 i a];exact R2.cl i a b) (λi j a b c=>by rw[h3 i a,h3 j ()];exact R2.so i j a b c)
   ·rw[aK c2];have n3:lo+m<=N:=()
    obtain⟨g2,hg2⟩:∃g2,g2=g1:=⟨_,rfl⟩;rw[<- hg2]at R1 s1;have R2:=R1;have s2:=s1;have n2:=m1;refine aZ (h_ ?_);rw[s2.pend];have hp2:=tM.congr h4 λi a b=>R2.out i (.inl b)
    cases e:p.back? with
    | none=>
     dsimp only;refine aZ (fW (bz ⟨_,_,_,rfl,n3,(),s2.Y0 _,?_,λi hi=>by rw[R2.out i (.inr hi),h5 i ()]⟩));rw[s2.pend];exact zO hp2 n2 R2.cl R2.so
    | some y=>
     obtain⟨y1,y2,y3⟩:=y;dsimp only;refine aZ (ef (cK (I:=λ_ c st'=>c=(none,Unit.unit)/\∃g' p',Sg N f kd g' p' st'/\PA o g' p' lo/\(∀k,lo<=k->g' k=g2 k)) (Q:=λc st'=>c=(none,Unit.unit)/\∃g' p',Sg N f kd g' p' st'/\PA o g' p' lo/\(∀k,lo<=k->g' k=g2 k)) ?vstep (λ_ _ h=>h) ⟨rfl,_,_,s2,hp2,λ_ _=>rfl⟩) ?vpost)
     case vstep=>
      rintro x c st' _ hx ⟨rfl,g',p',h1,h2,h3⟩;refine aZ (h_ ?_);rw[h1.pend];by_cases c:p'.size>1
      ·rw[aM c]
       cases e:p'[p'.size-2]? with
       | none=>exact bz ⟨rfl,g',p',h1,h2,h3⟩
       | some y=>
        obtain⟨y1,y2,y3⟩:=y;dsimp only;split
        ·exact bz ⟨rfl,g',p',h1,h2,h3⟩
        ·refine aZ (Hr C h1 h2 () () λg3 p3 st3 s3 q3 _ z3=>?_);exact bz ⟨rfl,g3,p3,s3,q3,λk hk=>by rw[z3 k hk,h3 k hk]⟩
      ·rw[aK c];exact bz ⟨rfl,g',p',h1,h2,h3⟩
     case vpost=>
      rintro c st' ⟨rfl,g',p',h1,h2,h3⟩;dsimp only;refine aZ (fW (aZ (fW (bz ⟨_,_,_,rfl,n3,(),(h1.Y0 _).Y0 _,?_,λi hi=>by rw[h3 i (),R2.out i (.inr hi),h5 i ()]⟩))))
      skip
      rw[h1.pend];exact zO (C7 (λ_=>rfl) h2) n2 (λi a b=>by rw[h3 i a];exact R2.cl i a b) (λi j a b c=>by rw[h3 i a,h3 j ()];exact R2.so i j a b c)
 case post=>
  rintro c st' ⟨g,p,rfl,h1,h2⟩;dsimp only;refine aZ (ef (cK
   (I:=λx c st''=>c=(none,Unit.unit)/\∃g p,Sg N f kd g p st''/\PA o g p N/\(p.size<=1\/p.size+x<=N))
   (Q:=λc st''=>c=(none,Unit.unit)/\∃g p,Sg N f kd g p st''/\PA o g p N/\p.size<=1) ?fstep ?ffin ⟨rfl,g,p,h1,h2,.inr ?finit⟩) ?fpost)
  case finit=>
   have:=tM.le h2;rw[aH]at this;show p.toList.length+0<=N;lia
  case ffin=>
   rintro c st'' ⟨rfl,g,p,h1,h2,h3⟩;exact⟨rfl,g,p,h1,h2,()⟩
  case fstep=>
   rintro x c st'' _ hx ⟨rfl,g,p,h1,h2,h3⟩;refine aZ (h_ ?_);rw[h1.pend];by_cases c:p.size<=1
   ·rw[aM c];exact bz ⟨rfl,g,p,h1,h2,c⟩
   ·rw[aK c];have il:∀(d:Prop) [Decidable d],(if d then p.size-2-1 else p.size-2)+1<p.size:=λd _=>by
     by_cases hd:d
     ·rw[aM hd];lia
     ·rw[aK hd];lia
    refine aZ (Hr C h1 h2 (aO _) (il _) λg' p' st3 s3 q3 z3 _=>?_);exact bz ⟨rfl,g',p',s3,q3,()⟩
  case fpost=>
   rintro c st'' ⟨rfl,g,p,h1,h2,h3⟩;dsimp only;refine bz ?_;unfold PA at h2;have h3:p.toList.length<=1:=h3
   match hl:p.toList,h3 with
   | [],_=>
    rw[hl]at h2;have:0=N:=h2;lia
   | [x],_=>
    rw[hl]at h2;obtain⟨e1,e2,e3,e4,e5⟩:=h2;have e5:0+x.2.1=N:=e5;have e3:Cl g 0 (0+x.2.1):=e3;have e4:So o g 0 (0+x.2.1):=e4;rw[e5]at e3 e4;exact q g p st'' h1 e3 e4
end
noncomputable abbrev ED (h:aq)(a:ak)(vs:ba):aq:=((h.update a (Obj.mapSeq λ_=>#[])).push (seqObj "tuple" vs.toArray 0)).push (seqObj "list" #[] 0)
def KI{h:aq}{a:ak}(hb:b≠a)(hlt:b<h.objs.size):(ED h a vs).get? b=h.get? b:=by
 rw[ir _ _ _ (by rw[size_push',iG];exact bF (d8 hlt)),
  ir _ _ _ (by rw[iG];exact bF hlt),Heap.get?_update_ne _ _ _ _ hb]
noncomputable abbrev vv (vs:ba)(i:Nat):Keyed:=(vs.getD i .none,vs.getD i .none)
def zip_get(vs:ba){i:Nat}(h:i<vs.length):(vs.toArray.zip vs.toArray)[i]?=some (vv vs i):=by
 have e:vs[i]?=some (vs.getD i .none):=by rw[aI,aF h];rfl
 rw[Array.getElem?_zip_eq_some];exact⟨by rw[eX];exact e,by rw[eX];exact e⟩
section
variable {prog:aj}{w:ah}{A:az}{E:af->aA->Prop}{s:aA}{o:Ord}{kd:SortKind}
def zh{a:ak}{vs:ba}{n:Nat}{P:PySem.Fin->aA->Prop}(hL:s.heap.get? a=some (seqObj "list" vs.toArray n))(hsz:vs.length<=sizeLine)
  (hkk:2<=vs.length->∀Q:SortKind->aA->Prop,Q kd { s with heap:=ED s.heap a vs }->wpAny (model prog w) A (keyKind' vs.toArray) Q E { s with heap:=ED s.heap a vs })
  (C:2<=vs.length->Ci prog w A { s with heap:=ED s.heap a vs } o vs.length (vv vs) kd)
  (h:∀g,Cl g 0 vs.length->So o g 0 vs.length->P (.done (.ret .none)) { s with heap:=sortedHeap s.heap a vs ((List.range vs.length).map λi=>vs.getD (g i) .none).toArray }) :
  wpAny (model prog w) A (Builtin.«list.sort» ⟨[.ref a],[]⟩) P E s:=by
 rw[list_sort_plain];have lta:a<s.heap.objs.size:=bh hL;refine aG (fB hL rfl ?_);refine aG (listUpdate_at hL rfl ?_ (by rw[aY];exact hsz) (bL _));obtain⟨ep,hL1⟩:∃ep,(s.heap.update a (Obj.mapSeq λ_=>#[])).get? a=some (seqObj "list" #[] ep):=⟨_,get?_update_seq hL (λ_=>#[])⟩;refine aG (seqEpoch_at hL1 rfl ?_);refine aG (wpAny_newTuple ?_);refine aG (jk ?_);refine dH ?_;have hL6:(ED s.heap a vs).get? a=some (seqObj "list" #[] ep):=by
  rw[ir _ _ _ (by rw[size_push',iG];exact bF (d8 lta)),ir _ _ _ (by rw[iG];exact bF lta)];exact hL1
 skip
 dsimp only;have hz:vs.toArray.size=vs.length:=by simp
 have getE:∀i,i<vs.length->vs[i]?=some (vs.getD i .none):=λi hi=>by rw[aI,aF hi];rfl
 have qL:∀(arr:Array Keyed) (g:Nat->Nat),arr.size=vs.length->(∀i,i<vs.length->arr[i]?=some (vv vs (g i)))->arr.map (·.2)=((List.range vs.length).map λi=>vs.getD (g i) .none).toArray:=λarr g h1 two=>by
  apply Array.ext_getElem?;intro i;have e0:((List.range vs.length).map λi=>vs.getD (g i) Value.none).toArray[i]?=((List.range vs.length).map λi=>vs.getD (g i) Value.none)[i]?:=eX ..;rw[Array.getElem?_map,e0,aQ];by_cases c:i<vs.length
  ·rw[two i c,eg c];rfl
  ·rw[iu (),b_ (by rw[cD];lia)];rfl
 by_cases two:vs.toArray.size<2
 ·rw[aM two,aM two];refine aG (aS ?_);rw[StateT.run_pure];refine aG (aS ?_);dsimp only;refine aG (seqEpoch_at hL6 rfl ?_);have oe:=qL (vs.toArray.zip vs.toArray) (λi=>i) (by rw[jx,hz];lia) λi hi=>zip_get vs hi;refine aG (listUpdate_at hL6 rfl ?_ (by simp) (hsz2:=by rw[size_map];show(vs.toArray.zip vs.toArray).size<=_;rw[jx,hz];lia));dsimp[bne_self_eq_false,bB,b9];refine aS ?_;have:=h (λi=>i) (λi a b=>⟨a,b⟩) (λi j a b c=>());rw[<- oe]at this;exact this
 ·rw[aK two,aK two];have h2':2<=vs.length:=()
  refine aG (hkk h2' _ ?_);refine aG (iX (UM (f:=vv vs) (N:=vs.length) (C h2') (st:=SortSt.mk' kd (vs.toArray.zip vs.toArray) #[] 7 none)
   (Q:=λ_ st'=>∃g p,Sg vs.length (vv vs) kd g p st'/\Cl g 0 vs.length/\So o g 0 vs.length)
   ⟨by show(vs.toArray.zip vs.toArray).size=_;rw[jx,hz];lia,λi hi=>zip_get vs hi,λi hi=>hi,rfl,rfl,rfl⟩ () λg' p' st' a1 a2 a3=>⟨g',p',a1,a2,a3⟩) ?_ λ_ _ e=>e)
  rintro⟨⟨⟩,st'⟩ s' ⟨rfl,g,p,hS,hc,hso⟩;dsimp only;refine aG (seqEpoch_at hL6 rfl ?_);have oe:=qL (arrOf st') g hS.size hS.get;refine aG (listUpdate_at hL6 rfl ?_ (by simp) (hsz2:=by have hh:(arrOf st').size=vs.length:=hS.size;show((arrOf st').map (·.2)).size<=_;rw[size_map,hh];lia));rw[hS.failed];dsimp[bne_self_eq_false,bB,b9];have:=h g hc hso;rw[<- oe]at this;exact aS this
end
section
variable {prog:aj}{w:ah}{A:az}{E:af->aA->Prop}{s:aA}
theorem ze(b:Bool)(x y:af):keyLt' (tuples' b) x y=(do
  let us <- Builtin.List.listItems x
  let vs <- Builtin.List.listItems y
  for ((u,v),k)in (us.toList.zip vs.toList).zipIdx do
   if !(<- eqBool u v)then return <- oneLt' (b && k == 0) u v
  return us.size<vs.size):=rfl
def J6(b:Bool){x y:Int}{t:Tok}{Q:Bool->aA->Prop}(h:Q (decide (x<y)) s):wpAny (model prog w) A (oneLt' b (.int x t) (.int y u)) Q E s:=by
 cases b with
 | true=>exact oneLt_int h
 | false=>
  rw[oneLt'_eq];dsimp[bB,b9];exact aG (PySem.P.lt_int (dI h))
def Ii(b:Bool){l k:ak}{xs ys:ba}{ns:ag}{Q:Bool->aA->Prop}(hl:IsTup s.heap l xs.toArray)(hk:IsTup s.heap k ys.toArray)(hi:IntsAre xs ns)(hj:IntsAre ys ms)(h:Q (HT.lexLt ns ms) s) :
  wpAny (model prog w) A (keyLt' (tuples' b) (.ref l) (.ref k)) Q E s:=by
 rw[ze];obtain⟨o1,ho1,_,n1,hd1⟩:=hl;obtain⟨o2,ho2,_,n2,hd2⟩:=hk;refine aG (fB ho1 hd1 ?_);refine aG (fB ho2 hd2 ?_);have key:∀(xs ys:ba) (ns ms:ag) (n:Nat),IntsAre xs ns->IntsAre ys ms->∀Q':Option Bool×Unit->aA->Prop,(∀r,(r=some (HT.lexLt ns ms)\/(r=none/\HT.lexLt ns ms=decide (xs.length<ys.length)))->Q' (r,Unit.unit) s) ->
   wpAny (model prog w) A (forIn ((xs.zip ys).zipIdx n) ((none,Unit.unit):Option Bool×Unit) λx c=>match x with
      | ((p,q),i)=>do
       let e <- eqBool p q
       if (!e)=true then do
         let r <- oneLt' (b && i == 0) p q
         pure (ForInStep.done (some r,Unit.unit))
        else pure (ForInStep.yield (none,Unit.unit))) Q' E s:=by
  intro xs
  induction xs with
  | nil=>
   intro ys ns ms n h1 h2 Q' q
   cases h1
   rw[List.zip_nil_left,List.zipIdx_nil,jy];refine aS (q none (.inr ⟨rfl,?_⟩))
   cases h2 with
   | nil=>rw[HT.o9];rfl
   | cons a t h2=>rw[HT.m5,bf (by simp)]
  | cons v vs ih=>
   intro ys ns ms n h1 h2 Q' q
   cases h1 with
   | cons a t h1=>
    cases h2 with
    | nil=>
     rw[List.zip_nil_right,List.zipIdx_nil,jy];exact aS (q none (.inr ⟨rfl,by rw[HT.oR,bu (by simp)]⟩))
    | cons c u h2=>
     rw[iZ,jm,gI];rw[HT.qf]at q;dsimp only;refine aG (aG (wpAny_eqBool_int ?_));by_cases e:a=c
     ·rw[aM e]at q;subst e;dsimp[bP,bX,bB,b9];refine aS (ih _ _ _ _ h1 h2 _ λr hr=>q r ?_)
      rcases hr with hr|⟨hr,hz⟩
      ·exact .inl hr
      ·exact .inr ⟨hr,by rw[hz];simp⟩
     ·rw[aK e]at q;have e':(a == c)=false:=by simpa using e
      dsimp[e',dm,cJ];exact aG (J6 _ (aS (aS (q _ (.inl rfl)))))
 refine aG (key xs ys ns ms 0 hi hj _ λr hr=>?_)
 rcases hr with rfl|⟨rfl,hz⟩
 ·exact aS h
 ·dsimp only;rw[aY,aY,<- hz];exact aS h
end
theorem zE:∀a:ag,HT.lexLt a a=false
 | []=>HT.o9
 | x::a=>by rw[HT.qf,aM rfl];exact zE a
theorem Dl:∀{a b c:ag},HT.lexLt a b=true->HT.lexLt b c=true->HT.lexLt a c=true
 | [],[],_,h,_=>by rw[HT.o9]at h;cases h
 | x::a,[],_,h,_=>by rw[HT.oR]at h;cases h
 | _,y::b,[],_,h=>by rw[HT.oR]at h;cases h
 | [],y::b,z::c,_,_=>HT.m5 ..
 | x::a,y::b,z::c,h1,h2=>by
  rw[HT.qf]at h1 h2 ⊢;by_cases e1:x=y
  ·rw[aM e1]at h1;by_cases e2:y=z
   ·rw[aM e2]at h2;rw[aM (e1.trans e2)];exact Dl h1 h2
   ·rw[aK e2]at h2;have:=bV h2;rw[aK ()];exact bf ()
  ·rw[aK e1]at h1;have l1:=bV h1;by_cases e2:y=z
   ·rw[aK ()];exact bf ()
   ·rw[aK e2]at h2;have:=bV h2;rw[aK ()];exact bf ()
theorem yd:∀{a b:ag},HT.lexLt a b=false->HT.lexLt b a=false->a=b
 | [],[],_,_=>rfl
 | [],y::b,h,_=>by rw[HT.m5]at h;cases h
 | x::a,[],_,h=>by rw[HT.m5]at h;cases h
 | x::a,y::b,h1,h2=>by
  rw[HT.qf]at h1 h2;by_cases e:x=y
  ·rw[aM e]at h1;rw[aM e.symm]at h2;rw[e,yd h1 h2]
  ·rw[aK e]at h1;rw[aK (λz=>e z.symm)]at h2;have:=c8 h1;have:=c8 h2;lia
def Kv{a c:ag}(h:HT.lexLt a c=true):HT.lexLt a b=true\/HT.lexLt b c=true:=by
 cases e:HT.lexLt a b with
 | true=>exact .inl rfl
 | false=>
  right
  cases e2:HT.lexLt b a with
  | true=>exact Dl e2 h
  | false=>rw[<- yd e e2];exact h
noncomputable def BY (kss:List (ag)):Ord where
 lt i j:=HT.lexLt (kss.getD i []) (kss.getD j [])
 MV i:=zE _
 tr i j k:=Dl
 neg i j k:=Kv
section
variable {prog:aj}{w:ah}{A:az}{E:af->aA->Prop}{s:aA}
theorem Lh{α β:Type}{f:α->Sem β}(r:α->β):∀(l:List α),(∀a∈l,∀Q:β->aA->Prop,Q (r a) s->wpAny M A (f a) Q E s)->∀Q:List β->aA->Prop,Q (l.map r) s->wpAny M A (l.mapM f) Q E s
 | [],_,Q,q=>by rw[List.mapM_nil];exact aS q
 | a::l,h,Q,q=>by
  rw[List.mapM_cons];refine aG (h a (aJ ..) _ (aG (Lh r l (λb hb=>h b (aL _ hb)) _ (aS q))))
def zV{α β:Type}{f:α->Sem β}(r:α->β)(l:List α)(h:∀a∈l,∀Q:β->aA->Prop,Q (r a) s->wpAny M A (f a) Q E s)(Q:Array β->aA->Prop)(q:Q (l.map r).toArray s):wpAny M A (l.toArray.mapM f) Q E s:=by
 rw[List.mapM_toArray,map_eq_pure_bind];exact aG (Lh r l h _ (aS q))
def E4(u:af):firstOfTuple' u=(do
  if (<- typeOf u) != .type "tuple" then return none
  return (<- Builtin.List.listItems u)[0]?):=rfl
def LZ{vs:ba}(h0:vs≠[])(ht:∀v∈vs,∃(l:ak) (xs:ba) (n:Int) (t:Tok),v=.ref l/\IsTup s.heap l (.int n t::xs).toArray){Q:SortKind->aA->Prop}(q:Q (tuples' true) s) :
  wpAny (model prog w) A (keyKind' vs.toArray) Q E s:=by
 have ch:∀v,∃x:Int×Tok,v∈vs->∃(l:ak) (xs:ba),v=.ref l/\IsTup s.heap l (.int x.1 x.2::xs).toArray:=λv=>by
  by_cases c:v∈vs
  ·obtain⟨l,xs,n,t,e1,e2⟩:=ht v c;exact⟨(n,t),λ_=>⟨l,xs,e1,e2⟩⟩
  ·exact⟨(0,0),λz=>absurd z c⟩
 obtain⟨F,hF⟩:=Classical.axiomOfChoice ch;rw[keyKind'_eq];refine aG (zV (λv=>some (Value.int (F v).1 (F v).2)) vs (λv hv Q' q'=>?_) _ ?_)
 ·obtain⟨l,xs,rfl,o,ho,hc,n,hd⟩:=hF v hv;rw[E4];refine aG (gp (T := "tuple") ⟨o,ho,hc⟩ ?_);rw[aK ⋯];exact aG (fB ho hd (aS q'))
 ·rw[aM (by simp)];refine aG (eS ?_);have e1:(vs.map λv=>some (Value.int (F v).1 (F v).2)).toArray.filterMap id=(vs.map λv=>Value.int (F v).1 (F v).2).toArray:=by
   rw[List.filterMap_toArray,i6];congr 1;rw[show(id ∘ λv=>some (Value.int (F v).1 (F v).2))=λv=>some (Value.int (F v).1 (F v).2)from rfl];exact congrFun List.filterMap_eq_map' vs
  rw[e1,oneTypeOnly'_eq];refine aG (aG (zV (λ_=>Value.type "int") _ (λv hv Q' q'=>?_) _ ?_))
  ·obtain⟨u,_,rfl⟩:=bA.mp hv;exact aS q'
  ·rw[bq];obtain⟨v0,vs',rfl⟩:∃v0 vs',vs=v0::vs':=by
    cases vs with
    | nil=>exact absurd rfl h0
    | cons a b=>exact⟨a,b,rfl⟩
   have ha:((List.map ((λ_=>Value.type "int") ∘ λv=>Value.int (F v).1 (F v).2) (v0::vs')).toArray.all λx=>x == Value.type "int")=true:=by
    dsimp[List.all_toArray,gW,eG];intro _ _;rfl
   have hz:(List.map ((λ_=>Value.type "int") ∘ λv=>Value.int (F v).1 (F v).2) (v0::vs')).toArray[0]?=some (Value.type "int"):=by simp
   rw[hz];dsimp[ha,cJ];exact aS (aS q)
end
end Sx
namespace L2
open PySem PySem.Spec PyProof.Rows
section
variable {X:Cx}
theorem yr:∀{rs:bb}{its:ba},Vals (rs.map V.ref) its->its=rs.map Value.ref
 | [],_,r=>by cases r;rfl
 | a::rs,_,r=>by
  cases r with
  | cons h t=>
   have e:_=Value.ref a:=h;rw[e,yr t];rfl
theorem yy:∀(rs:bb),Vals (rs.map V.ref) (rs.map Value.ref)
 | []=>.nil
 | a::rs=>.cons (show RelV (.ref a) (.ref a)from rfl) (yy rs)
def Mj{s:aA}{H:Hp}{Q:VK}{h':aq}{tk:Nat}{rs:bb}{kss:List (ag)}(I1:Inv X pins σ H { s with heap:=h',toks:=tk })(hlen:rs.length=kss.length)(hz:rs.length<=sizeLine)
  (hT:∀(i:Nat) (r:ak) (ks:ag),rs[i]?=some r->kss[i]?=some ks->ni X.K H r (ks.map V.int)/\ks≠[])
  (q:∀l g,H l=none->Sx.Cl g 0 kss.length->Sx.So (Sx.BY kss) g 0 kss.length->Q (.ref l) (upd H l (.lst (((List.range kss.length).map λi=>rs.getD (g i) 0).map V.ref)))) :
  wpAny (model X.prog X.w) X.A.in1 (do
   let l <- newList (rs.map Value.ref)
   let _ <- holding [l] (call (Value.builtin "list.sort") [l] [])
   ret l) (λfin s'=>∃v,fin=Fin.done (Flow.ret v)/\EP X pins σ Q v s') X.xe { s with heap:=h',toks:=tk }:=by
 have hN:(rs.map Value.ref).length=kss.length:=by rw[aH,hlen]
 refine aG (jk ?_);have hoL:(h'.push (seqObj "list" (rs.map Value.ref).toArray 0)).get? h'.objs.size=some (seqObj "list" (rs.map Value.ref).toArray 0):=bC _ rfl
 skip
 have tup:∀(i:Nat) (r:ak) (ks:ag),rs[i]?=some r->kss[i]?=some ks->∃its:ba,IntsAre its ks/\IsTup (Sx.ED (h'.push (seqObj "list" (rs.map Value.ref).toArray 0)) h'.objs.size (rs.map Value.ref)) r its.toArray:=λi r ks e1 e2=>by
  obtain⟨its,rv,⟨o,ho,hc,n,hd⟩,_⟩:=I1.tuple (hT i r ks e1 e2).1;refine⟨its,intsAre_of rv,o,?_,hc,n,hd⟩;have lt:r<h'.objs.size:=bh ho;rw[Sx.KI (bF lt) (by rw[eL];exact d8 lt)];exact aV _ ho
 refine aG (dH (cR slot_list_sort ⟨_,hoL,rfl⟩ entry_list_sort (Sx.zh (o:=Sx.BY kss) (kd:=tuples' true) hoL (by rw[hN];lia) (λh2 Q' q'=>?_) (λh2 i j hi hj E' Q' q'=>?_) λg hc hs=>⟨_,rfl,?_⟩) (args_list_sort _)))
 ·refine Sx.LZ (λz=>by rw[z]at h2;simp at h2) (λv hv=>?_) q';obtain⟨i,hi⟩:=fj hv;rw[aQ]at hi;obtain⟨r,hr,rfl⟩:=aX.mp hi;have lt:=(aN.mp hr).1;have e2:kss[i]?=some kss[i]:=aF ();obtain⟨its,h1,h3⟩:=tup i r _ hr e2;have hne:=(hT i r _ hr e2).2;generalize kss[i]=ks at h1 hne
  cases h1 with
  | nil=>exact absurd rfl hne
  | cons a t h1=>exact⟨r,_,a,t,rfl,h3⟩
 ·rw[hN]at hi hj;have e1:rs[i]?=some (rs[i]'()):=aF _;have e2:rs[j]?=some (rs[j]'()):=aF _;have k1:kss[i]?=some kss[i]:=aF hi;have k2:kss[j]?=some kss[j]:=aF hj;obtain⟨x1,a1,b1⟩:=tup i _ _ e1 k1;obtain⟨x2,a2,b2⟩:=tup j _ _ e2 k2;have v1:(rs.map Value.ref).getD i .none=.ref (rs[i]'()):=by rw[aI,aQ,e1];rfl
  have v2:(rs.map Value.ref).getD j .none=.ref (rs[j]'()):=by rw[aI,aQ,e2];rfl
  show wpAny _ _ (keyLt' (tuples' true) ((rs.map Value.ref).getD i .none) ((rs.map Value.ref).getD j .none)) Q' E' _;rw[v1,v2];refine Sx.Ii true b1 b2 a1 a2 ?_;have d1:kss.getD i []=kss[i]:=by rw[aI,k1];rfl
  have d2:kss.getD j []=kss[j]:=by rw[aI,k2];rfl
  have:(Sx.BY kss).lt i j=HT.lexLt kss[i] kss[j]:=by show HT.lexLt _ _=_;rw[d1,d2]
  rw[<- this];exact q'
 ·rw[hN]at hc hs ⊢;obtain⟨e,he⟩:=sortedHeap_at (out:=((List.range kss.length).map λi=>(rs.map Value.ref).getD (g i) .none).toArray) hoL;have old:∀b ob,h'.get? b=some ob->(sortedHeap (h'.push (seqObj "list" (rs.map Value.ref).toArray 0)) h'.objs.size (rs.map Value.ref) ((List.range kss.length).map λi=>(rs.map Value.ref).getD (g i) .none).toArray).get? b=some ob:=λb ob eb=>by
   rw[sortedHeap_old (bF (bh eb)) (by rw[eL];exact d8 (bh eb))];exact aV _ eb
  refine aS ⟨_,rfl,.ref h'.objs.size,_,I1.laid (t':=tk) (o:=.lst (((List.range kss.length).map λi=>rs.getD (g i) 0).map V.ref)) old (aO _) ?_,rfl,q _ g (I1.hok.fresh (aO _)) hc hs⟩;refine⟨by rw[aH,aH,cD];lia,((List.range kss.length).map λi=>rs.getD (g i) 0).map Value.ref,e,yy _,?_⟩;rw[he];congr 2;rw[bq];congr 1;refine cL λi hi=>?_;have:=(hc i (bL _) (cQ.mp hi)).2;have lt:g i<rs.length:=()
  show(rs.map Value.ref).getD (g i) .none=Value.ref (rs.getD (g i) 0);rw[aI,aQ,aF lt,aI,aF lt];rfl
end
end L2
namespace Sx
open PySem PyProof.Rows
open PySem.AutoSeq1 (wpAny_loadPart')
open PySem.MeetsSeq PySem.MeetsSeq2 PySem.MeetsSeq3
theorem zX:∀{xs:ba}{ns:ag}{i:Nat},IntsAre xs ns->i<ns.length->∃t,xs[i]?=some (.int (ns.getD i 0) t)
 | _,_,i,.nil,h=>absurd h (e_ _)
 | _,_,0,.cons n t h,_=>⟨t,rfl⟩
 | _,_,i+1,.cons n t h,hi=>by
  obtain⟨t',e⟩:=zX h (i:=i) (by simpa using hi);exact⟨t',by simpa using e⟩
end Sx
namespace Am
open PySem
inductive A where
 | unb|non|bl (b:Bool)|int (i:Int)|str (x:Str)|tup (xs:List A)|frz (xs:List A)|rng (lo hi:Int)|ref (n:Nat)|exn (c:Str)|ty (n:String)|ktu (xs:List A)
abbrev ae:=List A
inductive O where
 | lst (xs:ae)|dct (kvs:List (ag×A))|rQ (kvs:List (Int×A))|ins (c:Str) (fs:List (Str×A))
noncomputable abbrev jK:=List O
inductive R (α:Type) where
 | ok (a:α) (S:jK)|ex (c:Str) (S:jK)|no
noncomputable def R.bind {α β:Type}(r:R α)(f:α->jK->R β):R β:=match r with
 | .ok a S=>f a S
 | .ex c S=>.ex c S
 | .no=>.no
noncomputable def R.post {α:Type}(r:R α)(P:α->jK->Prop)(E:Str->jK->Prop):Prop:=match r with
 | .ok a S=>P a S
 | .ex c S=>E c S
 | .no=>False
def jP{α β:Type}{r:R α}{f:α->jK->R β}{P:β->jK->Prop}{E:Str->jK->Prop}(h:(r.bind f).post P E):r.post (λa S=>(f a S).post P E) E:=by
 cases r<;>exact h
def Mf{α:Type}{r:R α}{P P':α->jK->Prop}{E E':Str->jK->Prop}(h:r.post P E)(hp:∀a S,P a S->P' a S)(he:∀c S,E c S->E' c S):r.post P' E':=by
 cases r with
 | ok a S=>exact hp _ _ h
 | ex c S=>exact he _ _ h
 | no=>exact h.elim
noncomputable def gd {α:Type}(c:Prop)[Decidable c](r:R α):R α:=if c then r else .no
noncomputable def opt {α β:Type}(o:Option β)(f:β->R α):R α:=match o with
 | some b=>f b
 | none=>.no
def kC{α:Type}{c:Prop}[Decidable c]{r:R α}{P:α->jK->Prop}{E:Str->jK->Prop}(h:(gd c r).post P E):c/\r.post P E:=by
 unfold gd at h;by_cases hc:c
 ·rw[aM hc]at h;exact⟨hc,h⟩
 ·rw[aK hc]at h;exact h.elim
def jQ{α β:Type}{o:Option β}{f:β->R α}{P:α->jK->Prop}{E:Str->jK->Prop}(h:(opt o f).post P E):∃b,o=some b/\(f b).post P E:=by
 cases o with
 | none=>exact h.elim
 | some b=>exact⟨b,rfl,h⟩
noncomputable def jG (S:jK)(n:Nat):Option (ae):=match S[n]? with
 | some (.lst xs)=>some xs
 | _=>none
def jX{n:Nat}(h:jG S n=some xs):S[n]?=some (.lst xs):=by
 unfold jG at h;split at h
 ·rename_i e;cases h;exact e
 ·cases h
def ya{S:jK}{n:Nat}(h:S[n]?=some (.lst xs)):jG S n=some xs:=by
 unfold jG;rw[h]
inductive RS where
 | nx (τ:ae) (S:jK)|rt (a:A) (S:jK)|bk (τ:ae) (S:jK)|ct (τ:ae) (S:jK)|ex (c:Str) (S:jK)|no
noncomputable abbrev Ex:=ae->jK->R A
noncomputable abbrev rK:=ae->jK->R (ae)
noncomputable abbrev Te:=ae->jK->R Bool
noncomputable abbrev Sm:=ae->jK->RS
noncomputable abbrev Tg:=A->ae->jK->R (ae)
end Am
namespace Am
open PySem L2
section
variable (K:au) (ρ:bb) (H:Hp)
noncomputable def ClN (K:au)(c:Str)(C:ak):Prop:=PySem.W.nsIn K mainGlobals c=some (some (.ref C))
noncomputable def Fz (K:au)(H:Hp)(a:ak)(vs:List V):Prop:=
 (∃o,H a=some (.frz o (.lst vs)))\/∃(o:Obj) (its:Array af) (n:Nat),K.lookup a=some o/\o.cls=.type "list" /\ o.dict=none/\o.data=.seq its n/\its.size<=sizeLine/\Vals vs its.toList
noncomputable def KTp (K:au)(a:ak)(vs:List V):Prop:=∃(o:Obj) (its:Array af) (n:Nat),K.lookup a=some o/\o.cls=.type "tuple" /\ o.dict=none/\o.data=.seq its n/\its.size<=sizeLine/\Vals vs its.toList
mutual
inductive AV:A->V->Prop
 | non:AV .non .non
 | bl (b:Bool):AV (.bl b) (.bl b)
 | int (i:Int):AV (.int i) (.int i)
 | str (x:Str):AV (.str x) (.str x)
 | ty (n:String):AV (.ty n) (.ty n)
 | tup {a:ak} {xs:ae} {vs:List V} (h:H a=some (.tup vs)) (r:AVs xs vs):AV (.tup xs) (.ref a)
 | frz {a:ak} {xs:ae} {vs:List V} (h:Fz K H a vs) (r:AVs xs vs):AV (.frz xs) (.ref a)
 | rng {a:ak} {lo hi:Int} (h:H a=some (.rng lo hi)):AV (.rng lo hi) (.ref a)
 | ref {a:ak} {n:Nat} (h:ρ[n]?=some a):AV (.ref n) (.ref a)
 | exn {a C:ak} {c:Str} {oe:Obj} (n:ClN K c C) (h:H a=some (.frz oe xu)) (x:XO C oe):AV (.exn c) (.ref a)
 | ktu {a:ak} {xs:ae} {vs:List V} (h:KTp K a vs) (r:AVs xs vs):AV (.ktu xs) (.ref a)
inductive AVs:ae->List V->Prop
 | nil:AVs [] []
 | cons {x:A} {v:V} {xs:ae} {vs:List V} (h:AV x v) (t:AVs xs vs):AVs (x::xs) (v::vs)
end
noncomputable def DV:List (ag×A)->List (List Key×V)->Prop
 | [],[]=>True
 | p::r,q::r'=>(q.1=p.1.map Sum.inl/\AV K ρ H p.2 q.2)/\DV r r'
 | _,_=>False
noncomputable def DI:List (Int×A)->List (Key×V)->Prop
 | [],[]=>True
 | p::r,q::r'=>(q.1=Sum.inl p.1/\AV K ρ H p.2 q.2)/\DI r r'
 | _,_=>False
noncomputable def OR (a:ak):O->Prop
 | .lst xs=>∃vs,H a=some (.lst vs)/\AVs K ρ H xs vs
 | .dct kvs=>∃ks,H a=some (.dT ks)/\DV K ρ H kvs ks
 | .rQ kvs=>∃ks,H a=some (.dK ks)/\DI K ρ H kvs ks
 | .ins _ _=>∃o u,H a=some (.frz o u)
structure Rel (S:jK):Prop where
 len:ρ.length=S.length
 nd:ρ.Nodup
 «at»:∀(n:Nat) (a:ak) (o:O),ρ[n]?=some a->S[n]?=some o->OR K ρ H a o
end
noncomputable def Imm:HO->Prop
 | .tup _=>True
 | .rng _ _=>True
 | .frz _ _=>True
 | _=>False
structure Ext0 (ρ ρ':bb)(H H':Hp):Prop where
 pre:ρ <+: ρ'
 im:∀a u,Imm u->H a=some u->H' a=some u
structure Ext (ρ ρ':bb)(H H':Hp):Prop extends Ext0 ρ ρ' H H' where
 fr:∀a u,H a=some u->a∉ρ->H' a=some u
 nw:∀a,a∈ρ'->a∈ρ\/H a=none
def Ext.refl{H:Hp}:Ext ρ ρ H H:=⟨⟨fR _,λ_ _ _ h=>h⟩,λ_ _ h _=>h,λ_ h=>.inl h⟩
def Ext.trans{H H1 H2:Hp}(a:Ext ρ ρ1 H H1)(b:Ext ρ1 ρ2 H1 H2):Ext ρ ρ2 H H2:=⟨⟨a.pre.trans b.pre,λx u i h=>b.im x u i (a.im x u i h)⟩,λx u h n=>b.fr x u (a.fr x u h n) λz=>(a.nw x z).elim n λz=>by(rw[z]at h;cases h),λx h=>by
 by_cases hx:x∈ρ
 ·exact .inl hx
 ·right
  cases q:H x with
  | none=>rfl
  | some u=>
   rcases b.nw x h with z|z
   ·exact((a.nw x z).elim hx λz=>by(rw[z]at q;cases q)).elim
   ·rw[a.fr x u q hx]at z;cases z⟩
def Ext0.get{H H':Hp}(e:Ext0 ρ ρ' H H'){n:Nat}{a:ak}(h:ρ[n]?=some a):ρ'[n]?=some a:=by
 obtain⟨t,rfl⟩:=e.pre;rw[bG (aN.mp h).1];exact h
section
variable {K:au}{ρ ρ':bb}{H H':Hp}
def Ext0.sqT(e:Ext0 ρ ρ' H H'){a:ak}(h:ni K H a vs):ni K H' a vs:=by
 rcases h with(h|⟨o,h⟩)|h
 ·exact .inl (.inl (e.im _ _ trivial h))
 ·exact .inl (.inr ⟨o,e.im _ _ trivial h⟩)
 ·exact .inr h
def Ext0.fz(e:Ext0 ρ ρ' H H'){a:ak}(h:Fz K H a vs):Fz K H' a vs:=by
 rcases h with⟨o,h⟩|h
 ·exact .inl ⟨o,e.im _ _ trivial h⟩
 ·exact .inr h
def Fz.RK{a:ak}(h:Fz K H a vs):pL K H a vs:=by
 rcases h with⟨o,h⟩|h
 ·exact .inl (.inr ⟨o,h⟩)
 ·exact .inr h
mutual
theorem AV.oE(e:Ext0 ρ ρ' H H'):∀{x:A}{v:V},AV K ρ H x v->AV K ρ' H' x v
 | _,_,.non=>.non
 | _,_,.bl b=>.bl b
 | _,_,.int i=>.int i
 | _,_,.str x=>.str x
 | _,_,.ty x=>.ty x
 | _,_,.tup h r=>.tup (e.im _ _ trivial h) (AVs.oE e r)
 | _,_,.frz h r=>.frz (e.fz h) (AVs.oE e r)
 | _,_,.rng h=>.rng (e.im _ _ trivial h)
 | _,_,.ref h=>.ref (e.get h)
 | _,_,.exn n h x=>.exn n (e.im _ _ trivial h) x
 | _,_,.ktu h r=>.ktu h (AVs.oE e r)
theorem AVs.oE(e:Ext0 ρ ρ' H H'):∀{xs:ae}{vs:List V},AVs K ρ H xs vs->AVs K ρ' H' xs vs
 | _,_,.nil=>.nil
 | _,_,.cons h t=>.cons (AV.oE e h) (AVs.oE e t)
end
theorem DV.oE(e:Ext0 ρ ρ' H H'):∀{xs:List (ag×A)}{vs:List (List Key×V)},DV K ρ H xs vs->DV K ρ' H' xs vs
 | [],[],_=>trivial
 | _::_,_::_,⟨⟨a,b⟩,r⟩=>⟨⟨a,AV.oE e b⟩,DV.oE e r⟩
def DV.ext{x:List (ag×A)}{v:List (List Key×V)}(h:DV K ρ H x v)(e:Ext ρ ρ' H H'):DV K ρ' H' x v:=DV.oE e.toExt0 h
theorem DI.oE(e:Ext0 ρ ρ' H H'):∀{xs:List (Int×A)}{vs:List (Key×V)},DI K ρ H xs vs->DI K ρ' H' xs vs
 | [],[],_=>trivial
 | _::_,_::_,⟨⟨a,b⟩,r⟩=>⟨⟨a,AV.oE e b⟩,DI.oE e r⟩
def DI.ext{x:List (Int×A)}{v:List (Key×V)}(h:DI K ρ H x v)(e:Ext ρ ρ' H H'):DI K ρ' H' x v:=DI.oE e.toExt0 h
def AV.ext{x:A}{v:V}(h:AV K ρ H x v)(e:Ext ρ ρ' H H'):AV K ρ' H' x v:=AV.oE e.toExt0 h
def AVs.ext{x:ae}{v:List V}(h:AVs K ρ H x v)(e:Ext ρ ρ' H H'):AVs K ρ' H' x v:=AVs.oE e.toExt0 h
theorem AVs.length:∀{xs:ae}{vs:List V},AVs K ρ H xs vs->xs.length=vs.length
 | _,_,.nil=>rfl
 | _,_,.cons _ t=>dB (·+1) (AVs.length t)
theorem AVs.append:∀{xs ys:ae}{vs ws:List V},AVs K ρ H xs vs->AVs K ρ H ys ws->AVs K ρ H (xs++ys) (vs++ws)
 | _,_,_,_,.nil,s=>s
 | _,_,_,_,.cons h t,s=>.cons h (AVs.append t s)
theorem AVs.take:∀{xs:ae}{vs:List V}(n:Nat),AVs K ρ H xs vs->AVs K ρ H (xs.take n) (vs.take n)
 | _,_,0,_=>.nil
 | _,_,_+1,.nil=>.nil
 | _,_,n+1,.cons h t=>.cons h (AVs.take n t)
theorem AVs.drop:∀{xs:ae}{vs:List V}(n:Nat),AVs K ρ H xs vs->AVs K ρ H (xs.drop n) (vs.drop n)
 | _,_,0,r=>r
 | _,_,_+1,.nil=>.nil
 | _,_,n+1,.cons _ t=>AVs.drop n t
theorem AVs.get:∀{xs:ae}{vs:List V}{i:Nat}{x:A},AVs K ρ H xs vs->xs[i]?=some x->∃v,vs[i]?=some v/\AV K ρ H x v
 | _,_,_,_,.nil,e=>by simp at e
 | _,_,0,_,.cons h _,e=>by simp at e;subst e;exact⟨_,rfl,h⟩
 | _,_,i+1,x,.cons _ t,e=>by
  obtain⟨u,h1,h2⟩:=AVs.get (i:=i) (x:=x) t (by simpa using e);exact⟨u,by simpa using h1,h2⟩
theorem AVs.set{x:A}{v:V}(h:AV K ρ H x v):∀{xs:ae}{vs:List V}(i:Nat),AVs K ρ H xs vs->AVs K ρ H (xs.set i x) (vs.set i v)
 | _,_,_,.nil=>.nil
 | _,_,0,.cons _ t=>.cons h t
 | _,_,i+1,.cons q t=>.cons q (AVs.set h i t)
def AVs.one{x:A}{v:V}(h:AV K ρ H x v):AVs K ρ H [x] [v]:=.cons h .nil
theorem AVs.eraseIdx:∀{xs:ae}{vs:List V}(i:Nat),AVs K ρ H xs vs->AVs K ρ H (xs.eraseIdx i) (vs.eraseIdx i)
 | _,_,_,.nil=>.nil
 | _,_,0,.cons _ t=>t
 | _,_,i+1,.cons q t=>.cons q (AVs.eraseIdx i t)
theorem sJ:∀(ns:ag),AVs K ρ H (ns.map .int) (ns.map .int)
 | []=>.nil
 | n::ns=>.cons (.int n) (sJ ns)
def Rel.lay{S:jK}{p:ak}(R:Rel K ρ H S)(hp:H p=none)(r:AVs K ρ H xs vs):Ext ρ (ρ++[p]) H (upd H p (.lst vs))/\Rel K (ρ++[p]) (upd H p (.lst vs)) (S++[.lst xs])/\(ρ++[p])[S.length]?=some p:=by
 have ex:Ext ρ (ρ++[p]) H (upd H p (.lst vs)):=⟨⟨fX _ _,λa u _ h=>by rw[jU (j8 h hp)];exact h⟩,λa u h _=>by rw[jU (j8 h hp)];exact h,λa h=>by
  rcases bE.mp h with z|z
  ·exact .inl z
  ·have e:a=p:=by simpa using z
   rw[e];exact .inr hp⟩
 have np:∀(n:Nat) (a:ak),ρ[n]?=some a->a≠p:=by
  intro n a e z;subst z;have hn:n<S.length:=by rw[<- R.len];exact(aN.mp e).1
  have:=R.at n a S[n] e (aF hn)
  cases ho:S[n]with
  | lst xs=>rw[ho]at this;obtain⟨vs,h,_⟩:=this;rw[hp]at h;cases h
  | dct _|rQ _=>rw[ho]at this;obtain⟨vs,h,_⟩:=this;rw[hp]at h;cases h
  | ins _ _=>rw[ho]at this;obtain⟨_,_,h⟩:=this;rw[hp]at h;cases h
 have last:(ρ++[p])[S.length]?=some p:=by rw[<- R.len];simp
 refine⟨ex,⟨by simp[R.len],?_,?_⟩,last⟩
 ·rw[d9];refine⟨R.nd,by simp,λa ha b hb e=>?_⟩;have:b=p:=by simpa using hb
  obtain⟨n,hn,e'⟩:=List.mem_iff_getElem.mp ha;exact np n a (by rw[aF hn,e']) (e.trans this)
 ·intro n a o h1 h2;by_cases hn:n<S.length
  ·rw[bG (by rw[R.len];exact hn)]at h1;rw[bG hn]at h2;have:=R.at n a o h1 h2
   cases o with
   | lst ys=>obtain⟨ws,e,q⟩:=this;exact⟨ws,by rw[jU (np n a h1)];exact e,q.ext ex⟩
   | dct _|rQ _=>obtain⟨ws,e,q⟩:=this;exact⟨ws,by rw[jU (np n a h1)];exact e,q.ext ex⟩
   | ins _ _=>obtain⟨oo,uu,e⟩:=this;exact⟨oo,uu,by rw[jU (np n a h1)];exact e⟩
  ·have e:n=S.length:=by
    have:=(aN.mp h2).1;simp at this;lia
   subst e;rw[last]at h1
   cases h1
   simp at h2;subst h2;exact⟨vs,lU,r.ext ex⟩
def Rel.im{p:ak}(R:Rel K ρ H S)(hp:H p=none):Ext ρ ρ H (upd H p u)/\Rel K ρ (upd H p u) S:=by
 have ex:Ext ρ ρ H (upd H p u):=⟨⟨fR _,λa u _ h=>by rw[jU (j8 h hp)];exact h⟩,λa u h _=>by rw[jU (j8 h hp)];exact h,λ_ h=>.inl h⟩;refine⟨ex,R.len,R.nd,λn a o h1 h2=>?_⟩;have:=R.at n a o h1 h2
 cases o with
 | lst ys=>obtain⟨ws,e,q⟩:=this;exact⟨ws,by rw[jU (j8 e hp)];exact e,q.ext ex⟩
 | dct _|rQ _=>obtain⟨ws,e,q⟩:=this;exact⟨ws,by rw[jU (j8 e hp)];exact e,q.ext ex⟩
 | ins _ _=>obtain⟨oo,uu,e⟩:=this;exact⟨oo,uu,by rw[jU (j8 e hp)];exact e⟩
def Rel.put{S:jK}{n:Nat}{a:ak}(R:Rel K ρ H S)(ha:ρ[n]?=some a)(hS:S[n]?=some (.lst xs))(r:AVs K ρ H ys ws):Ext ρ ρ H (upd H a (.lst ws))/\Rel K ρ (upd H a (.lst ws)) (S.set n (.lst ys)):=by
 obtain⟨vs,e,_⟩:=R.at n a _ ha hS;have ex:Ext ρ ρ H (upd H a (.lst ws)):=⟨⟨fR _,λb u i h=>by
  have:b≠a:=by
   intro z;subst z;rw[e]at h;cases h;exact i
  rw[jU this];exact h⟩,λb u h n=>by
  rw[jU (λz=>n (by rw[z];exact aW ha))];exact h,λ_ h=>.inl h⟩
 refine⟨ex,by rw[cA];exact R.len,R.nd,λm b o h1 h2=>?_⟩;by_cases hm:m=n
 ·subst hm;rw[ha]at h1;cases h1;rw[cj (aN.mp hS).1]at h2
  cases h2
  exact⟨ws,lU,r.ext ex⟩
 ·rw[cH (dj hm)]at h2;have nb:b≠a:=λz=>by
   subst z;obtain⟨l1,e1⟩:=aN.mp ha;obtain⟨l2,e2⟩:=aN.mp h1;exact hm ((dz R.nd).mp (e2.trans e1.symm))
  have:=R.at m b o h1 h2
  cases o with
  | lst ys=>obtain⟨ws',e',q⟩:=this;exact⟨ws',by rw[jU nb];exact e',q.ext ex⟩
  | dct _|rQ _=>obtain⟨ws',e',q⟩:=this;exact⟨ws',by rw[jU nb];exact e',q.ext ex⟩
  | ins _ _=>obtain⟨oo,uu,e'⟩:=this;exact⟨oo,uu,by rw[jU nb];exact e'⟩
def Rel.lst{n:Nat}{a:ak}(R:Rel K ρ H S)(ha:ρ[n]?=some a)(hS:S[n]?=some (.lst xs)):∃vs,H a=some (.lst vs)/\AVs K ρ H xs vs:=R.at n a _ ha hS
structure SR (K:au)(ρ:bb)(H:Hp)(τ:ae)(σ:St):Prop where
 len:τ.length=σ.length
 «at»:∀(i:Nat) (a:A),τ[i]?=some a->a=.unb\/∃v,σ[i]?=some (some v)/\AV K ρ H a v
def SR.oE(s:SR K ρ H τ σ)(e:Ext0 ρ ρ' H H'):SR K ρ' H' τ σ:=⟨s.len,λi a h=>by
 rcases s.at i a h with z|⟨v,h1,h2⟩
 ·exact .inl z
 ·exact .inr ⟨v,h1,AV.oE e h2⟩⟩
def SR.ext(s:SR K ρ H τ σ)(e:Ext ρ ρ' H H'):SR K ρ' H' τ σ:=s.oE e.toExt0
def Rel.out{D:ak}(R:Rel K ρ H S)(hD:H D=some (.lst vs))(hn:D∉ρ):Ext0 ρ ρ H (upd H D (.lst ws))/\Rel K ρ (upd H D (.lst ws)) S:=by
 have ex:Ext0 ρ ρ H (upd H D (.lst ws)):=⟨fR _,λb u i h=>by
  have:b≠D:=by
   intro z;subst z;rw[hD]at h;cases h;exact i
  rw[jU this];exact h⟩
 refine⟨ex,R.len,R.nd,λn a o h1 h2=>?_⟩;have na:a≠D:=λz=>hn (by rw[<- z];exact aW h1);have:=R.at n a o h1 h2
 cases o with
 | lst ys=>obtain⟨ws',e,q⟩:=this;exact⟨ws',by rw[jU na];exact e,AVs.oE ex q⟩
 | dct _|rQ _=>obtain⟨ws',e,q⟩:=this;exact⟨ws',by rw[jU na];exact e,q.oE ex⟩
 | ins _ _=>obtain⟨oo,uu,e⟩:=this;exact⟨oo,uu,by rw[jU na];exact e⟩
def Rel.take{S:jK}{D:ak}(R:Rel K ρ H S)(hD:H D=some (.lst vs))(hn:D∉ρ)(r:AVs K ρ H xs vs):Rel K (ρ++[D]) H (S++[.lst xs])/\(ρ++[D])[S.length]?=some D:=by
 have ex:Ext0 ρ (ρ++[D]) H H:=⟨fX _ _,λ_ _ _ h=>h⟩;have last:(ρ++[D])[S.length]?=some D:=by rw[<- R.len];simp
 refine⟨⟨by simp[R.len],?_,λn a o h1 h2=>?_⟩,last⟩
 ·rw[d9];refine⟨R.nd,by simp,λa ha b hb e=>?_⟩;have:b=D:=by simpa using hb
  exact hn (by rw[<- this,<- e];exact ha)
 ·by_cases hs:n<S.length
  ·rw[bG (by rw[R.len];exact hs)]at h1;rw[bG hs]at h2;have:=R.at n a o h1 h2
   cases o with
   | lst ys=>obtain⟨ws,e,q⟩:=this;exact⟨ws,e,AVs.oE ex q⟩
   | dct _|rQ _=>obtain⟨ws,e,q⟩:=this;exact⟨ws,e,q.oE ex⟩
   | ins _ _=>obtain⟨oo,uu,e⟩:=this;exact⟨oo,uu,e⟩
  ·have e:n=S.length:=by
    have:=(aN.mp h2).1;simp at this;lia
   subst e;rw[last]at h1
   cases h1
   simp at h2;subst h2;exact⟨vs,hD,AVs.oE ex r⟩
def SR.set{τ:ae}{σ:St}{a:A}{v:V}(s:SR K ρ H τ σ)(h:AV K ρ H a v):SR K ρ H (τ.set i a) (σ.set i (some v)):=by
 refine⟨by simp[s.len],λj b e=>?_⟩;by_cases hj:j=i
 ·subst hj;have hl:j<τ.length:=by
   have:=(aN.mp e).1;simpa using this
  rw[cj hl]at e
  cases e
  exact .inr ⟨v,cj (by rw[<- s.len];exact hl),h⟩
 ·rw[cH (dj hj)]at e;rw[cH (dj hj)];exact s.at j b e
end
end Am
namespace Am
open PySem PySem.Spec PyProof.Rows L2
noncomputable def XE (X:Cx)(ρ:bb)(H:Hp):Str->jK->Prop:=λc S'=>∀(C:ak) (ρ':bb) (H':Hp),ClN X.K c C->Ext ρ ρ' H H'->Rel X.K ρ' H' S'->EX X (.ref C) none H'
def XE.ext{X:Cx}{H H':Hp}{c:Str}(h:XE X ρ H c S)(e:Ext ρ ρ' H H'):XE X ρ' H' c S:=λC ρ2 H2 n e2=>h C ρ2 H2 n (e.trans e2)
noncomputable def Cr (X:Cx)(ρ:bb)(H:Hp)(Q:VK):A->jK->Prop:=λa S'=>∀ρ' H' v,Ext ρ ρ' H H'->Rel X.K ρ' H' S'->AV X.K ρ' H' a v->Q v H'
noncomputable def okB (X:Cx)(ρ:bb)(H:Hp)(Q:Bool->Hp->Prop):Bool->jK->Prop:=λb S'=>∀ρ' H',Ext ρ ρ' H H'->Rel X.K ρ' H' S'->Q b H'
noncomputable def okL (X:Cx)(ρ:bb)(H:Hp)(Q:List V->Hp->Prop):ae->jK->Prop:=λas S'=>∀ρ' H' vs,Ext ρ ρ' H H'->Rel X.K ρ' H' S'->AVs X.K ρ' H' as vs->Q vs H'
def Cr.ext{X:Cx}{H H':Hp}{Q:VK}{a:A}(h:Cr X ρ H Q a S)(e:Ext ρ ρ' H H'):Cr X ρ' H' Q a S:=λρ2 H2 v e2=>h ρ2 H2 v (e.trans e2)
def okB.ext{X:Cx}{H H':Hp}{Q:Bool->Hp->Prop}{a:Bool}(h:okB X ρ H Q a S)(e:Ext ρ ρ' H H'):okB X ρ' H' Q a S:=λρ2 H2 e2=>h ρ2 H2 (e.trans e2)
def jN{α:Type}{X:Cx}{H H':Hp}{r:R α}{P P':α->jK->Prop}(h:r.post P (XE X ρ H))(e:Ext ρ ρ' H H')(hp:∀a S,P a S->P' a S):r.post P' (XE X ρ' H'):=Mf h hp λ_ _ z=>z.ext e
noncomputable def tE (X:Cx)(c:Ex):TE:=λσ H Q=>∃ρ S τ,Rel X.K ρ H S/\SR X.K ρ H τ σ/\(c τ S).post (Cr X ρ H Q) (XE X ρ H)
noncomputable def tT (X:Cx)(c:Te):TT:=λσ H Q=>∃ρ S τ,Rel X.K ρ H S/\SR X.K ρ H τ σ/\(c τ S).post (okB X ρ H Q) (XE X ρ H)
noncomputable def tL (X:Cx)(c:rK):TA:=λσ H Q=>∃ρ S τ,Rel X.K ρ H S/\SR X.K ρ H τ σ/\(c τ S).post (okL X ρ H Q) (XE X ρ H)
noncomputable def AE (X:Cx)(e:aC)(c:Ex):Prop:=PE X e (tE X c)
noncomputable def AT (X:Cx)(e:aC)(c:Te):Prop:=PT X e (tT X c)
noncomputable def AW (X:Cx)(e:aC)(c:Te):Prop:=PW X e (tT X c)
noncomputable def AL (X:Cx)(es:List aC)(c:rK):Prop:=PA X es (tL X c)
def PE.imp{X:Cx}{e:aC}{t t':TE}(h:PE X e t)(i:∀σ H Q,t' σ H Q->t σ H Q):PE X e t':=λpins s σ H Q I q=>h pins s σ H Q I (i σ H Q q)
def PT.imp{X:Cx}{e:aC}{t t':TT}(h:PT X e t)(i:∀σ H Q,t' σ H Q->t σ H Q):PT X e t':=λpins s σ H Q I q=>h pins s σ H Q I (i σ H Q q)
def PW.imp{X:Cx}{e:aC}{t t':TT}(h:PW X e t)(i:∀σ H Q,t' σ H Q->t σ H Q):PW X e t':=λw pins s σ H Q I q=>h w pins s σ H Q I (i σ H Q q)
def PA.imp{X:Cx}{e:List aC}{t t':TA}(h:PA X e t)(i:∀σ H Q,t' σ H Q->t σ H Q):PA X e t':=λp pins s σ H Q I q=>h p pins s σ H Q I (i σ H Q q)
def AW.at{X:Cx}{e:aC}{c:Te}(h:AW X e c):AT X e c:=h _
noncomputable def A.qu:A->Bool
 | .unb=>true
 | _=>false
noncomputable def jF (i:Nat):Ex:=λτ S=>if (τ.getD i .unb).qu then .no else .ok (τ.getD i .unb) S
noncomputable def eC (a:A):Ex:=λ_ S=>.ok a S
section
variable {X:Cx}{pos:Pos}{a b:aC}
def jD(i:Nat){x:Str}(hN:X.N[i]?=some x:=by rfl)(hv:Zq X.env.scope x:=by first|exact Or.inl rfl|exact Or.inr (Or.inl rfl)|exact Or.inr (Or.inr rfl))(hd:(x == ("__debug__" : Str))=false:=by decide)
  (hcd:(x == ("__classdict__" : Str))=false:=by decide):AE X (.Name x pos) (jF i):=PE.imp (Qo hN hv hd hcd) λσ H Q h9=>by
 room;unfold jF at h
 cases hi:τ[i]? with
 | none=>
  rw[aI,hi]at h;exact h.elim
 | some x=>
  rw[aI,hi]at h
  rcases r.at i x hi with z|⟨v,e,q⟩
  ·subst z;exact h.elim
  ·refine⟨v,e,?_⟩
   cases x<;>first|(exact h ρ H v .refl R q)|exact h.elim
def jH{i:Int}{j pos}:AE X (.Constant (.int i) j pos) (eC (.int i)):=PE.imp YU λσ H Q ⟨ρ,S,τ,R,r,h⟩=>h ρ H _ .refl R (.int i)
def qO{j pos}:AE X (.Constant (.bool i) j pos) (eC (.bl i)):=PE.imp aal λσ H Q ⟨ρ,S,τ,R,r,h⟩=>h ρ H _ .refl R (.bl i)
noncomputable def jO (f:A->A->jK->R A)(ca cb:Ex):Ex:=λτ S=>(ca τ S).bind λa S1=>(cb τ S1).bind λb S2=>f a b S2
noncomputable def r2 (X:Cx)(f:A->A->jK->R A):R2:=λx y H Q=>∃ρ S a b,Rel X.K ρ H S/\AV X.K ρ H a x/\AV X.K ρ H b y/\(f a b S).post (Cr X ρ H Q) (XE X ρ H)
noncomputable def r1 (X:Cx)(f:A->jK->R A):V->Hp->VK->Prop:=λx H Q=>∃ρ S a,Rel X.K ρ H S/\AV X.K ρ H a x/\(f a S).post (Cr X ρ H Q) (XE X ρ H)
noncomputable def rN (X:Cx)(f:ae->jK->R A):List V->Hp->VK->Prop:=λxs H Q=>∃ρ S as,Rel X.K ρ H S/\AVs X.K ρ H as xs/\(f as S).post (Cr X ρ H Q) (XE X ρ H)
def pB.imp{f:af->af->Sem af}{r r':R2}(h:pB X f r)(i:∀x y H Q,r' x y H Q->r x y H Q):pB X f r':=λpins s σ H x y v u Q I rx ry q=>h pins s σ H x y v u Q I rx ry (i _ _ _ _ q)
def kJ.imp{f:af}{r r':List V->Hp->VK->Prop}(h:kJ X f r)(i:∀x H Q,r' x H Q->r x H Q):kJ X f r':=λpins s σ H x v Q I rx q=>h pins s σ H x v Q I rx (i _ _ _ q)
def vV{f:A->A->jK->R A}{ca cb:Ex}{H:Hp}{Q:VK}(h:tE X (jO f ca cb) σ H Q):ZW (r2 X f) (tE X ca) (tE X cb) σ H Q:=by
 obtain⟨ρ,S,τ,R,r,h⟩:=h;refine⟨ρ,S,τ,R,r,jN (jP h) .refl λa S1 h1 ρ1 H1 x e1 R1 v1=>⟨ρ1,S1,τ,R1,r.ext e1,jN (jP h1) e1 λb S2 h2 ρ2 H2 y e2 R2 v2=>?_⟩⟩;exact⟨ρ2,S2,a,b,R2,v1.ext e2,v2,jN h2 (e1.trans e2) λc S3 h3=>h3.ext (e1.trans e2)⟩
def jW{f:A->A->jK->R A}{ca cb:Ex}(ho:pB X (binaryOp op) (r2 X f))(ha:AE X a ca)(hb:AE X b cb):AE X (.BinOp a op b pos) (jO f ca cb):=
 PE.imp (Zs ho ha hb) λσ H Q h=>vV h
def AR{op:CmpOp}{f:A->A->jK->R A}{ca cb:Ex}(ho:pB X (compareOp op) (r2 X f))(ha:AE X a ca)(hb:AE X b cb)(hm:behindInMarks op b=false:=by first|exact ON _|with_unfolding_all rfl):AE X (.Compare a [op] [b] pos) (jO f ca cb):=
 PE.imp (SH ho ha hb hm) λσ H Q h=>vV h
noncomputable def A.Vv:A->jK->Option Bool
 | .non,_=>some false
 | .bl b,_=>some b
 | .int i,_=>some (i != 0)
 | .str x,_=>if x.length<=sizeLine then some ((x.length:Int) != 0)else none
 | .tup xs,_=>some (!xs.isEmpty)
 | .frz xs,_=>some (!xs.isEmpty)
 | .ref n,S=>(jG S n).map λxs=>!xs.isEmpty
 | _,_=>none
noncomputable def p9 (c:Ex):Te:=λτ S=>(c τ S).bind λa S1=>opt (a.Vv S1) λb=>.ok b S1
noncomputable def v_ (c:Ex):Te:=λτ S=>(c τ S).bind λa S1=>match a with
 | .bl b=>.ok b S1
 | _=>.no
def F_{K:au}{H:Hp}{b:Bool}{v:V}(h:AV K ρ H (.bl b) v):v=.bl b:=by cases h;rfl
def lJ{op:CmpOp}{f:A->A->jK->R A}{ca cb:Ex}(ho:pB X (compareOp op) (r2 X f))(ha:AE X a ca)(hb:AE X b cb)(hm:behindInMarks op b=false:=by first|exact ON _|with_unfolding_all rfl):AT X (.Compare a [op] [b] pos) (v_ (jO f ca cb)):=
 PT.imp (Sv ho ha hb hm) λσ H Q h9=>by
  room;refine vV ⟨ρ,S,τ,R,r,jN (jP h) .refl λc S1 h1 ρ1 H1 x e1 R1 v1=>?_⟩
  cases c with
  | bl k=>cases F_ v1;exact⟨k,rfl,h1 ρ1 H1 e1 R1⟩
  | _=>exact h1.elim
def Yt{K:au}{H:Hp}{x:A}{v:V}{b:Bool}(R:Rel K ρ H S)(h:AV K ρ H x v)(e:x.Vv S=some b):Wh K v H b:=by
 have emp:∀{xs:ae} {vs:List V},AVs K ρ H xs vs->(!xs.isEmpty)=!vs.isEmpty:=λr=>by cases r<;>rfl
 cases h with
 | non=>exact(a_ e).symm
 | bl b=>exact(a_ e).symm
 | int i=>exact(a_ e).symm
 | str x=>
  by_cases hx:x.length<=sizeLine
  ·exact⟨hx,by have:=(aM hx).symm.trans e;exact(a_ this).symm⟩
  ·have:=(aK hx).symm.trans e;cases this
 | tup h r=>exact .inr (.inl ⟨_,ni.of h,by rw[<- emp r];exact(a_ e).symm⟩)
 | frz h r=>exact .inl ⟨_,h.RK,by rw[<- emp r];exact(a_ e).symm⟩
 | rng h=>cases e
 | ty n=>cases e
 | exn n h x=>cases e
 | ktu h r=>cases e
 | @ref a n h=>
  have e:(jG S n).map (λxs=>!xs.isEmpty)=some b:=e;obtain⟨xs,hn,e⟩:=aX.mp e;obtain⟨vs,h1,h2⟩:=R.lst h (jX hn);exact .inl ⟨vs,pL.of h1,by rw[<- emp h2];exact e.symm⟩
def mH{ca:Ex}(ha:AE X a ca)(he:∀whole,isTrue a X.env whole=(do let v <- whole;standAt a.pos;holding [v] (truthy v)):=by intro _;rfl):AT X a (p9 ca):=
 PT.imp (Rx ha he) λσ H Q ⟨ρ,S,τ,R,r,h⟩=>⟨ρ,S,τ,R,r,jN (jP h) .refl λc S1 h1 ρ1 H1 x e1 R1 v1=>by
  obtain⟨b,hb,h1⟩:=jQ h1;exact⟨b,Yt R1 v1 hb,h1 ρ1 H1 e1 R1⟩⟩
noncomputable def vZ (c:Te):Te:=λτ S=>(c τ S).bind λb S1=>.ok (!b) S1
noncomputable def UL (c d:Te):Te:=λτ S=>(c τ S).bind λb S1=>match b with|true=>d τ S1|false=>.ok false S1
noncomputable def Mc (c d:Te):Te:=λτ S=>(c τ S).bind λb S1=>match b with|true=>.ok true S1|false=>d τ S1
def pN{c:Te}(h:AT X a c):AT X (.UnaryOp .Not a pos) (vZ c):=PT.imp (Yq h) λσ H Q ⟨ρ,S,τ,R,r,h⟩=>⟨ρ,S,τ,R,r,jN (jP h) .refl λb S1 h1=>h1⟩
def and_imp{c d:Te}{H:Hp}{Q:Bool->Hp->Prop}(h:tT X (UL c d) σ H Q):Zn (tT X c) (tT X d) σ H Q:=by
 obtain⟨ρ,S,τ,R,r,h⟩:=h;refine⟨ρ,S,τ,R,r,jN (jP h) .refl λb S1 h1 ρ1 H1 e1 R1=>?_⟩
 cases b with
 | true=>
  rw[aM rfl];exact⟨ρ1,S1,τ,R1,r.ext e1,jN h1 e1 λ_ _ z=>z.ext e1⟩
 | false=>
  rw[aK bH];exact h1 ρ1 H1 e1 R1
def or_imp{c d:Te}{H:Hp}{Q:Bool->Hp->Prop}(h:tT X (Mc c d) σ H Q):tOr (tT X c) (tT X d) σ H Q:=by
 obtain⟨ρ,S,τ,R,r,h⟩:=h;refine⟨ρ,S,τ,R,r,jN (jP h) .refl λb S1 h1 ρ1 H1 e1 R1=>?_⟩
 cases b with
 | false=>
  rw[aK bH];exact⟨ρ1,S1,τ,R1,r.ext e1,jN h1 e1 λ_ _ z=>z.ext e1⟩
 | true=>
  rw[aM rfl];exact h1 ρ1 H1 e1 R1
variable {rest:List aC}
def TV{c:Te}(h:AT X a c):AW X (.BoolOp .And [a] pos) c:=Tc h
def wL{c:Te}(h:AT X a c):AW X (.BoolOp .Or [a] pos) c:=XJ h
def WY{c d:Te}(h:AT X a c)(h2:AW X (.BoolOp .And (b::rest) pos) d):AW X (.BoolOp .And (a::b::rest) pos) (UL c d):=PW.imp (XY h h2) λ_ _ _ q=>and_imp q
def xO{c d:Te}(h:AT X a c)(h2:AW X (.BoolOp .Or (b::rest) pos) d):AW X (.BoolOp .Or (a::b::rest) pos) (Mc c d):=PW.imp (Y6 h h2) λ_ _ _ q=>or_imp q
noncomputable def Qy (c d:Ex):Ex:=λτ S=>(c τ S).bind λa S1=>match a with | .bl true=>d τ S1 | .bl false=>.ok (.bl false) S1|_=>.no
noncomputable def eOr (c d:Ex):Ex:=λτ S=>(c τ S).bind λa S1=>match a with | .bl true=>.ok (.bl true) S1 | .bl false=>d τ S1|_=>.no
noncomputable def Xp (c:Ex):Ex:=λτ S=>(c τ S).bind λa S1=>match a with | .bl b=>.ok (.bl !b) S1|_=>.no
def QM{op}{c:Ex}(h:AE X a c):AE X (.BoolOp op [a] pos) c:=WU h
def Oo{c d:Ex}(h:AE X a c)(h2:AE X (.BoolOp .And (b::rest) pos) d):AE X (.BoolOp .And (a::b::rest) pos) (Qy c d):=PE.imp (Xu h h2) λσ H Q h9=>by
 room;refine⟨ρ,S,τ,R,r,jN (jP h) .refl λb S1 h1 ρ1 H1 x e1 R1 v1=>?_⟩
 cases b with
 | bl k=>
  cases F_ v1
  refine⟨k,rfl,?_⟩
  cases k with
  | true=>
   rw[aM rfl];exact⟨ρ1,S1,τ,R1,r.ext e1,jN h1 e1 λ_ _ z=>z.ext e1⟩
  | false=>
   rw[aK bH];exact h1 ρ1 H1 _ e1 R1 (.bl false)
 | _=>exact h1.elim
def XI{c:Ex}(h:AE X a c):AE X (.UnaryOp .Not a pos) (Xp c):=PE.imp (YD h) λσ H Q h9=>by
 room;refine⟨ρ,S,τ,R,r,jN (jP h) .refl λb S1 h1 ρ1 H1 x e1 R1 v1=>?_⟩
 cases b with
 | bl k=>
  cases F_ v1
  exact⟨k,rfl,h1 ρ1 H1 _ e1 R1 (.bl _)⟩
 | _=>exact h1.elim
noncomputable def eIf (t:Te)(c d:Ex):Ex:=λτ S=>(t τ S).bind λb S1=>match b with|true=>c τ S1|false=>d τ S1
noncomputable def jI:rK:=λ_ S=>.ok [] S
noncomputable def jC (c:Ex)(d:rK):rK:=λτ S=>(c τ S).bind λa S1=>(d τ S1).bind λas S2=>.ok (a::as) S2
def jL:AL X [] jI:=PA.imp AN λσ H Q ⟨ρ,S,τ,R,r,h⟩=>h ρ H _ .refl R .nil
def jE{e:aC}{c:Ex}{d:rK}(ha:AE X e c)(hr:AL X es d)(hs:starEach (e::es) X.env=(false,eval e X.env)::starEach es X.env:=by rfl):AL X (e::es) (jC c d):=
 PA.imp (vM ha hr hs) λσ H Q h9=>by
  room;refine⟨ρ,S,τ,R,r,jN (jP h) .refl λa S1 h1 ρ1 H1 x e1 R1 v1=>⟨ρ1,S1,τ,R1,r.ext e1,jN (jP h1) e1 λas S2 h2 ρ2 H2 xs e2 R2 v2=>?_⟩⟩;exact h2 ρ2 H2 _ (e1.trans e2) R2 (.cons (v1.ext e2) v2)
noncomputable def mE (d:rK):Ex:=λτ S=>(d τ S).bind λas S1=>gd (as.length<=sizeLine) (.ok (.tup as) S1)
noncomputable def newL (as:ae)(S:jK):R A:=gd (as.length<=sizeLine) (.ok (.ref S.length) (S++[.lst as]))
noncomputable def nJ (d:rK):Ex:=λτ S=>(d τ S).bind λas S1=>newL as S1
def vI{H H0:Hp}{Q:VK}(R:Rel X.K ρ H S)(r:AVs X.K ρ H as vs)(e:Ext ρ0 ρ H0 H)(h:Cr X ρ0 H0 Q (.tup as) S):∀p,H p=none->Q (.ref p) (upd H p (.tup vs)):=λp hp=>by
 obtain⟨ex,R'⟩:=R.im (u:=.tup vs) hp;exact h ρ _ _ (e.trans ex) R' (.tup lU (r.ext ex))
def nQ{H H0:Hp}{S:jK}{Q:VK}(R:Rel X.K ρ H S)(r:AVs X.K ρ H as vs)(e:Ext ρ0 ρ H0 H)(h:Cr X ρ0 H0 Q (.ref S.length) (S++[.lst as])):∀p,H p=none->Q (.ref p) (upd H p (.lst vs)):=λp hp=>by
 obtain⟨ex,R',g⟩:=R.lay hp r;exact h _ _ _ (e.trans ex) R' (.ref g)
def T9{H H0:Hp}{vs:List V}{Q:VK}(R:Rel X.K ρ H S)(r:AVs X.K ρ H as vs)(e:Ext ρ0 ρ H0 H)(h:(newL as S).post (Cr X ρ0 H0 Q) (XE X ρ0 H0)):vs.length<=sizeLine/\∀p,H p=none->Q (.ref p) (upd H p (.lst vs)):=by
 obtain⟨hl,h⟩:=kC h;exact⟨by rw[<- r.length];exact hl,nQ R r e h⟩
def lD{d:rK}{x1}(h:AL X es d):AE X (.Tuple es x1 pos) (mE d):=PE.imp (X4 h) λσ H Q h9=>by
 room;refine⟨ρ,S,τ,R,r,jN (jP h) .refl λas S1 h1 ρ1 H1 xs e1 R1 v1=>?_⟩;obtain⟨hl,h1⟩:=kC h1;exact⟨by rw[<- v1.length];exact hl,vI R1 v1 e1 h1⟩
def lB{d:rK}(h:AL X es d):AE X (.List es pos) (nJ d):=PE.imp (Xs h) λσ H Q ⟨ρ,S,τ,R,r,h⟩=>
 ⟨ρ,S,τ,R,r,jN (jP h) .refl λas S1 h1 ρ1 H1 xs e1 R1 v1=>T9 R1 v1 e1 h1⟩
end
section
variable {X:Cx}{pos:Pos}{a b:aC}
noncomputable def aSub (a b:A)(S:jK):R A:=match a,b with
 | .int i,.int j=>.ok (.int (i-j)) S
 | _,_=>.no
def qe:pB X (binaryOp .Sub) (r2 X aSub):=pB.imp Xk λx y H Q h9=>by
 x_go
 cases va<;>first|exact h.elim|(cases vb<;>first|exact h.elim|exact⟨_,_,rfl,rfl,h _ _ _ .refl R (.int _)⟩)
noncomputable def KR (i j:Int):Bool:=(decide (-(2 ^ 64)<i) && decide (i<2 ^ 64)) || (decide (-(2 ^ 64)<j) && decide (j<2 ^ 64))
def mulOk_of{i j:Int}(h:KR i j=true):UD i j:=by
 unfold KR at h;dsimp[Bool.or_eq_true,iE,je]at h;exact h
noncomputable def Ew (a b:A)(S:jK):R A:=match a,b with
 | .int i,.int j=>gd (KR i j) (.ok (.int (i * j)) S)
 | .ref n,.int k=>opt (jG S n) λxs=>gd (-(2 ^ 63)<=k/\k<2 ^ 63/\xs.length * k.toNat<=sizeLine) (.ok (.ref S.length) (S++[.lst (List.replicate k.toNat xs).flatten]))
 | _,_=>.no
theorem AVs.rep{K:au}{H:Hp}(r:AVs K ρ H xs vs):∀k:Nat,AVs K ρ H (List.replicate k xs).flatten (List.replicate k vs).flatten
 | 0=>.nil
 | k+1=>by rw[di,di,dZ,dZ];exact r.append (AVs.rep r k)
def Jm:pB X (binaryOp .Mult) (r2 X Ew):=λpins s σ H x y v u Q I rx ry h9=>by
 x_go
 cases va with
 | int i=>
  cases vb with
  | int j=>
   obtain⟨hm,h⟩:=kC h;exact Wr pins s σ H _ _ v u Q I rx ry ⟨i,j,rfl,rfl,mulOk_of hm,h _ _ _ .refl R (.int _)⟩
  | _=>exact h.elim
 | @ref p n hp=>
  cases vb with
  | int k=>
   kd_p;obtain⟨hc,h⟩:=kC h;obtain⟨vs,h1,h2⟩:=R.lst hp (jX hn);exact Xy pins s σ H _ _ v u Q I rx ry ⟨p,k,vs,rfl,rfl,h1,hc.1,hc.2.1,by rw[<- h2.length];exact hc.2.2,nQ R (h2.rep _) .refl h⟩
  | _=>exact h.elim
 | _=>exact h.elim
noncomputable def Lo (a b:A)(S:jK):R A:=match a,b with
 | .int i,.int j=>gd (0<j/\j<18446744073709551616) (.ok (.int (i / j)) S)
 | _,_=>.no
def NP:pB X (binaryOp .FloorDiv) (r2 X Lo):=pB.imp OB λx y H Q h9=>by
 x_go
 cases va<;>first|exact h.elim|(cases vb<;>first|exact h.elim|exact⟨_,_,rfl,rfl,(kC h).1,(kC h).2 _ _ _ .refl R (.int _)⟩)
noncomputable def D7 (a b:A)(S:jK):R A:=match a,b with
 | .int i,.int j=>gd (0<j) (.ok (.int (i % j)) S)
 | _,_=>.no
def Gm:pB X (binaryOp .Mod) (r2 X D7):=pB.imp YM λx y H Q h9=>by
 x_go
 cases va<;>first|exact h.elim|(cases vb<;>first|exact h.elim|exact⟨_,_,rfl,rfl,(kC h).1,(kC h).2 _ _ _ .refl R (.int _)⟩)
noncomputable def GX (a b:A)(S:jK):R A:=match a,b with
 | .int i,.int j=>gd (0<=j/\j<=1000000/\i.natAbs<2 ^ 64) (.ok (.int (i ^ j.toNat)) S)
 | _,_=>.no
def Wa:pB X (binaryOp .Pow) (r2 X GX):=pB.imp Wk λx y H Q h9=>by
 x_go
 cases va<;>first|exact h.elim|(cases vb<;>first|exact h.elim|exact⟨_,_,rfl,rfl,(kC h).1,(kC h).2 _ _ _ .refl R (.int _)⟩)
noncomputable def lK (a b:A)(S:jK):R A:=match a,b with
 | .int i,.int j=>.ok (.int (i+j)) S
 | .tup xs,.tup ys=>gd (xs.length+ys.length<=sizeLine) (.ok (.tup (xs++ys)) S)
 | .str x,.str y=>gd (x.length+y.length<=sizeLine) (.ok (.str (x++y)) S)
 | .ref n,.ref m=>opt (jG S n) λxs=>opt (jG S m) λys=>gd (xs.length+ys.length<=sizeLine) (.ok (.ref S.length) (S++[.lst (xs++ys)]))
 | _,_=>.no
def AVs.nil_inv{K:au}{H:Hp}(r:AVs K ρ H xs vs):xs=[] ↔ vs=[]:=by cases r<;>simp
def mj:pB X (binaryOp .Add) (r2 X lK):=λpins s σ H x y v u Q I rx ry h9=>by
 x_go
 cases va with
 | int i=>
  cases vb with
  | int j=>exact WC pins s σ H _ _ v u Q I rx ry ⟨i,j,rfl,rfl,h _ _ _ .refl R (.int _)⟩
  | _=>exact h.elim
 | str x=>
  cases vb with
  | str y=>
   obtain⟨hc,h⟩:=kC h;exact Hu pins s σ H _ _ v u Q I rx ry ⟨x,y,rfl,rfl,hc,h _ _ _ .refl R (.str _)⟩
  | _=>exact h.elim
 | @tup p xs vs h1 r1=>
  cases vb with
  | @tup q ys ws h2 r2=>
   obtain⟨hc,h⟩:=kC h;by_cases hv:vs=[]
   ·have hx:=r1.nil_inv.mpr hv;subst hv hx;exact M3 pins s σ H _ _ v u Q I rx ry ⟨p,q,ws,rfl,rfl,ni.of h1,ni.of h2,h _ _ _ .refl R (.tup h2 r2)⟩
   ·refine Ul pins s σ H _ _ v u Q I rx ry ⟨p,q,vs,ws,rfl,rfl,ni.of h1,ni.of h2,hv,by rw[<- r1.length,<- r2.length];exact hc,λe=>?_,λ_=>vI R (r1.append r2) .refl h⟩;have hy:=r2.nil_inv.mpr e;subst hy;rw[cG]at h;exact h _ _ _ .refl R (.tup h1 r1)
  | _=>exact h.elim
 | @ref p n hp=>
  cases vb with
  | @ref q m hq=>
   kd_p;obtain⟨ys,hm,h⟩:=jQ h;obtain⟨hc,h⟩:=kC h;obtain⟨vs,h1,h2⟩:=R.lst hp (jX hn);obtain⟨ws,h3,h4⟩:=R.lst hq (jX hm);exact Yb pins s σ H _ _ v u Q I rx ry ⟨p,q,vs,ws,rfl,rfl,h1,h3,by rw[<- h2.length,<- h4.length];exact hc,nQ R (h2.append h4) .refl h⟩
  | _=>exact h.elim
 | _=>exact h.elim
noncomputable def A.ints:ae->Option (ag)
 | []=>some []
 | .int i::xs=>(A.ints xs).map (i::·)
 | _=>none
theorem zU{K:au}{H:Hp}:∀{xs:ae}{vs:List V}{bs:ag},AVs K ρ H xs vs->A.ints xs=some bs->vs=bs.map V.int
 | _,_,_,.nil,e=>by cases e;rfl
 | _,_,_,.cons (x:=.int b) h t,e=>by
  obtain⟨cs,e1,rfl⟩:=aX.mp e
  cases h
  rw[zU t e1];rfl
 | _,_,_,.cons (x:=.unb) h t,e=>nomatch e
 | _,_,_,.cons (x:=.non) h t,e=>nomatch e
 | _,_,_,.cons (x:=.bl _) h t,e=>nomatch e
 | _,_,_,.cons (x:=.str _) h t,e=>nomatch e
 | _,_,_,.cons (x:=.tup _) h t,e=>nomatch e
 | _,_,_,.cons (x:=.frz _) h t,e=>nomatch e
 | _,_,_,.cons (x:=.rng _ _) h t,e=>nomatch e
 | _,_,_,.cons (x:=.ref _) h t,e=>nomatch e
 | _,_,_,.cons (x:=.exn _) h t,e=>nomatch e
 | _,_,_,.cons (x:=.ty _) h t,e=>nomatch e
noncomputable def Yo (a b:A)(S:jK):R A:=match a,b with
 | .int i,.int j=>.ok (.bl (decide (i<j))) S
 | _,_=>.no
def Xm(hu:X.A.units+64<cLine):pB X (compareOp .Lt) (r2 X Yo):=λpins s σ H x y v u Q I rx ry h9=>by
 x_go
 cases va with
 | int i=>
  cases vb with
  | int j=>exact Zt pins s σ H _ _ v u Q I rx ry ⟨i,j,rfl,rfl,h _ _ _ .refl R (.bl _)⟩
  | _=>exact h.elim
 | _=>exact h.elim
noncomputable def aLe (a b:A)(S:jK):R A:=match a,b with
 | .int i,.int j=>.ok (.bl (decide (i<=j))) S
 | _,_=>.no
def ack:pB X (compareOp .LtE) (r2 X aLe):=pB.imp aaP λx y H Q h9=>by
 x_go
 cases va<;>first|exact h.elim|(cases vb<;>first|exact h.elim|exact⟨_,_,rfl,rfl,h _ _ _ .refl R (.bl _)⟩)
noncomputable def Wm (a b:A)(S:jK):R A:=match a,b with
 | .int i,.int j=>.ok (.bl (decide (j<i))) S
 | _,_=>.no
def Ur(hu:X.A.units+64<cLine):pB X (compareOp .Gt) (r2 X Wm):=λpins s σ H x y v u Q I rx ry h9=>by
 x_go
 cases va with
 | int i=>
  cases vb with
  | int j=>exact ZF pins s σ H _ _ v u Q I rx ry ⟨i,j,rfl,rfl,h _ _ _ .refl R (.bl _)⟩
  | _=>exact h.elim
 | _=>exact h.elim
noncomputable def ZO (a b:A)(S:jK):R A:=match a,b with
 | .int i,.int j=>.ok (.bl (decide (j<=i))) S
 | _,_=>.no
def ZS:pB X (compareOp .GtE) (r2 X ZO):=pB.imp aae λx y H Q h9=>by
 x_go
 cases va<;>first|exact h.elim|(cases vb<;>first|exact h.elim|exact⟨_,_,rfl,rfl,h _ _ _ .refl R (.bl _)⟩)
noncomputable def Vp (neg:Bool)(a b:A)(S:jK):R A:=match a,b with
 | .bl i,.bl j=>.ok (.bl (if neg then i != j else i == j)) S
 | .non,.non=>.ok (.bl (!neg)) S
 | .unb,.non=>.no
 | .exn _,.non=>.no
 | _,.non=>.ok (.bl neg) S
 | _,_=>.no
noncomputable def Ei (f:A->jK->R A)(c:Ex):Ex:=λτ S=>(c τ S).bind λa S1=>f a S1
noncomputable def tH (a:A)(S:jK):R A:=match a with
 | .int i=>.ok (.int (-i)) S
 | _=>.no
def aag:UnR X (unaryOp .USub) (r1 X tH):=λpins s σ H x v Q I rx h9=>by
 obtain⟨ρ,S,a,R,va,h⟩:=h9
 cases va with
 | int i=>exact XC pins s σ H _ v Q I rx ⟨i,rfl,h _ _ _ .refl R (.int _)⟩
 | _=>exact h.elim
def WG{f:A->jK->R A}{c:Ex}{H:Hp}{Q:VK}(h:tE X (Ei f c) σ H Q):tUn (r1 X f) (tE X c) σ H Q:=by
 obtain⟨ρ,S,τ,R,r,h⟩:=h;exact⟨ρ,S,τ,R,r,jN (jP h) .refl λa S1 h1 ρ1 H1 x e1 R1 v1=>⟨ρ1,S1,a,R1,v1,jN h1 e1 λc S3 h3=>h3.ext e1⟩⟩
def r8{c:Ex}(h:AE X a c):AE X (.UnaryOp .USub a pos) (Ei tH c):=PE.imp (aam aag h) λ_ _ _ q=>WG q
noncomputable def oA (a b:A)(S:jK):R A:=match a,b with
 | .tup xs,.int i=>opt (qI xs i) λx=>.ok x S
 | .frz xs,.int i=>opt (qI xs i) λx=>.ok x S
 | .ref n,.int i=>opt (jG S n) λxs=>opt (qI xs i) λx=>.ok x S
 | .str z,.int i=>gd (z.length<=sizeLine) (opt (qI z.cps.toList i) λc=>.ok (.str ⟨#[c]⟩) S)
 | _,_=>.no
def AVs.qI{K:au}{H:Hp}{i:Int}{x:A}(r:AVs K ρ H xs vs)(h:L2.qI xs i=some x):∃v,L2.qI vs i=some v/\AV K ρ H x v:=by
 unfold L2.qI at h ⊢;rw[<- r.length]
 cases hj:zR xs.length i with
 | none=>rw[hj]at h;cases h
 | some j=>
  rw[hj]at h;exact r.get h
def aaI:VU X (r2 X oA):=λvalue slice pins s σ H x y v u Q I rx ry ⟨ρ,S,a,b,R,va,vb,h⟩ hs=>by
 cases va with
 | @tup p xs vs h1 r1=>
  cases vb with
  | int i=>
   obtain⟨x,hx,h⟩:=jQ h;obtain⟨z,e,q⟩:=r1.qI hx;exact Wi value slice pins s σ H _ _ v u Q I rx ry ⟨p,vs,i,z,rfl,rfl,ni.of h1,e,h _ _ _ .refl R q⟩ hs
  | _=>exact h.elim
 | @frz p xs vs h1 r1=>
  cases vb with
  | int i=>
   obtain⟨x,hx,h⟩:=jQ h;obtain⟨z,e,q⟩:=r1.qI hx;exact J4 value slice pins s σ H _ _ v u Q I rx ry ⟨p,vs,i,z,rfl,rfl,h1.RK,e,h _ _ _ .refl R q⟩ hs
  | _=>exact h.elim
 | @ref p n hp=>
  cases vb with
  | int i=>
   kd_p;obtain⟨x,hx,h⟩:=jQ h;obtain⟨vs,h1,r1⟩:=R.lst hp (jX hn);obtain⟨z,e,q⟩:=r1.qI hx;exact J4 value slice pins s σ H _ _ v u Q I rx ry ⟨p,vs,i,z,rfl,rfl,pL.of h1,e,h _ _ _ .refl R q⟩ hs
  | _=>exact h.elim
 | str z=>
  cases vb with
  | int i=>
   obtain⟨hz,h⟩:=kC h;obtain⟨c,hc,h⟩:=jQ h;exact Wg value slice pins s σ H _ _ v u Q I rx ry ⟨z,i,c,rfl,rfl,hz,hc,h _ _ _ .refl R (.str _)⟩ hs
  | _=>exact h.elim
 | _=>exact h.elim
def kO{ca cb:Ex}(ha:AE X a ca)(hb:AE X b cb)(hs:zW b:=by exact λ_ _=>rfl):AE X (.Subscript a b pos) (jO oA ca cb):=PE.imp (OT aaI ha hb hs) λσ H Q h=>vV h
end
noncomputable def rG (f:A->A->Option Bool):ae->ae->Option Bool
 | [],[]=>some true
 | x::xs,y::ys=>(f x y).bind λp=>(rG f xs ys).map λq=>p && q
 | _,_=>some false
inductive Sh
 | non
 | bl (b:Bool)
 | int (i:Int)
 | str (x:Str)
 | tup (xs:ae)
 | lst
noncomputable def W_ (S:jK):A->Option Sh
 | .non=>some .non
 | .bl b=>some (.bl b)
 | .int i=>some (.int i)
 | .str x=>some (.str x)
 | .tup xs=>some (.tup xs)
 | .ref i=>(jG S i).map λ_=>.lst
 | _=>none
noncomputable def SA (f:A->A->Option Bool):Sh->Sh->Option Bool
 | .non,.non=>some true
 | .bl x,.bl y=>some (x == y)
 | .bl x,.int y=>some ((if x then 1 else 0) == y)
 | .int x,.bl y=>some (x == (if y then 1 else 0))
 | .int x,.int y=>some (x == y)
 | .str x,.str y=>some (x == y)
 | .tup xs,.tup ys=>rG f xs ys
 | .lst,.lst=>none
 | _,_=>some false
noncomputable def tK (S:jK):Nat->A->A->Option Bool
 | 0,_,_=>none
 | n+1,a,b=>match a,b with
  | .ref i,.ref j=>(jG S i).bind λxs=>(jG S j).bind λys=>rG (tK S n) xs ys
  | _,_=>(W_ S a).bind λx=>(W_ S b).bind λy=>SA (tK S n) x y
section
variable {X:Cx}{pins:bd}{σ:L2.St}{H:Hp}{s:aA}{ρ:bb}{S:jK}
inductive KdV (s:aA):Sh->af->Prop
 | non:KdV s .non .none
 | bl (b:Bool):KdV s (.bl b) (.bool b)
 | int (i:Int) (t:Tok):KdV s (.int i) (.int i t)
 | str (x:Str) (t:Tok):KdV s (.str x) (.str x t)
 | tup {p:ak} {us:ba} (xs:ae) (h:s.heap.IsTuple p us.toArray):KdV s (.tup xs) (.ref p)
 | lst {p:ak} {us:ba} (h:s.heap.IsList p us.toArray):KdV s .lst (.ref p)
def IU{p:ak}(h:s.heap.IsTuple p us)(h':s.heap.IsList p ws):False:=by
 obtain⟨o,e,c,_⟩:=h;obtain⟨o',e',c',_⟩:=h';rw[e]at e'
 cases e'
 exact absurd (c.symm.trans c') ⋯
def Kf(I:Inv X pins σ H s)(R:Rel X.K ρ H S){a:A}{x:V}(ha:AV X.K ρ H a x)(r:RelV x u)(e:W_ S a=some h):KdV s h u:=by
 cases ha with
 | non=>cases e;cases(show u=Value.none from r);exact .non
 | bl b=>cases e;cases(show u=Value.bool b from r);exact .bl b
 | int i=>cases e;obtain⟨t,rfl⟩:∃t,u=Value.int i t:=r;exact .int i t
 | str i=>cases e;obtain⟨t,rfl⟩:∃t,u=Value.str i t:=r;exact .str i t
 | tup h1 r1=>cases e;cases(show u=Value.ref _ from r);obtain⟨us,_,p,_⟩:=I.tuple (ni.of h1);exact .tup _ p
 | ref h1=>
  obtain⟨xs,e1,rfl⟩:=aX.mp e
  cases(show u=Value.ref _ from r)
  obtain⟨vs,h3,r1⟩:=R.lst h1 (jX e1);obtain⟨us,_,p,_⟩:=I.list (pL.of h3);exact .lst p.isList
 | _=>cases e
noncomputable def Al (B:az)(s:aA)(u v:af)(k:Bool):Prop:=SeqAt.RcAt B s u v k/\SeqAt.EqAt B s u v k/\SeqAt.RcNeAt B s u v (!k)
def ZD{B:az}(hu:B.units<cLine){f:A->A->Option Bool}{v:af}{k:Bool}(d:KdV s h u)(d':KdV s h' v)(nt:∀xs ys,h=.tup xs->h'≠.tup ys)(e:SA f h h'=some k):Al B s u v k:=by
 cases d with
 | non=>cases d' with
  | non=>cases e;exact⟨.none_none,.same _,.none_none⟩
  | bl b=>cases e;exact⟨.none_bool _,.none_bool _,.none_bool _⟩
  | int i t=>cases e;exact⟨.none_int _ _,.none_int _ _,.none_int _ _⟩
  | str x t=>cases e;exact⟨.none_str _ _,.none_str _ _,.none_str _ _⟩
  | tup xs p=>cases e;exact⟨.none_tuple p hu,.none_tuple p hu,.none_tuple p hu⟩
  | lst p=>cases e;exact⟨.none_list p hu,.none_list p hu,.none_list p hu⟩
 | bl c=>cases d' with
  | non=>cases e;exact⟨.bool_none _,.bool_none _,.bool_none _⟩
  | bl b=>cases e;exact⟨.bool_bool _ _,.bool_bool _ _,.bool_bool _ _⟩
  | int i t=>cases e;exact⟨.bool_int _ _ _,.bool_int _ _ _,.bool_int _ _ _⟩
  | str x t=>cases e;exact⟨.bool_str _ _ _,.bool_str _ _ _,.bool_str _ _ _⟩
  | tup xs p=>cases e;exact⟨.bool_tuple _ p hu,.bool_tuple _ p hu,.bool_tuple _ p hu⟩
  | lst p=>cases e;exact⟨.bool_list _ p hu,.bool_list _ p hu,.bool_list _ p hu⟩
 | int c t'=>cases d' with
  | non=>cases e;exact⟨.int_none _ _,.int_none _ _,.int_none _ _⟩
  | bl b=>cases e;exact⟨.int_bool _ _ _,.int_bool _ _ _,.int_bool _ _ _⟩
  | int i t=>cases e;exact⟨.int_int _ _ _ _,.int_int _ _ _ _,.int_int _ _ _ _⟩
  | str x t=>cases e;exact⟨.int_str _ _ _ _,.int_str _ _ _ _,.int_str _ _ _ _⟩
  | tup xs p=>cases e;exact⟨.int_tuple _ _ p hu,.int_tuple _ _ p hu,.int_tuple _ _ p hu⟩
  | lst p=>cases e;exact⟨.int_list _ _ p hu,.int_list _ _ p hu,.int_list _ _ p hu⟩
 | str c t'=>cases d' with
  | non=>cases e;exact⟨.str_none _ _,.str_none _ _,.str_none _ _⟩
  | bl b=>cases e;exact⟨.str_bool _ _ _,.str_bool _ _ _,.str_bool _ _ _⟩
  | int i t=>cases e;exact⟨.str_int _ _ _ _,.str_int _ _ _ _,.str_int _ _ _ _⟩
  | str x t=>cases e;exact⟨.str_str _ _ _ _,.str_str _ _ _ _,.str_str _ _ _ _⟩
  | tup xs p=>cases e;exact⟨.str_tuple _ _ p hu,.str_tuple _ _ p hu,.str_tuple _ _ p hu⟩
  | lst p=>cases e;exact⟨.str_list _ _ p hu,.str_list _ _ p hu,.str_list _ _ p hu⟩
 | tup zs p'=>cases d' with
  | non=>cases e;exact⟨.tuple_none p' hu,.tuple_none p' hu,.tuple_none p' hu⟩
  | bl b=>cases e;exact⟨.tuple_bool _ p' hu,.tuple_bool _ p' hu,.tuple_bool _ p' hu⟩
  | int i t=>cases e;exact⟨.tuple_int _ _ p' hu,.tuple_int _ _ p' hu,.tuple_int _ _ p' hu⟩
  | str x t=>cases e;exact⟨.tuple_str _ _ p' hu,.tuple_str _ _ p' hu,.tuple_str _ _ p' hu⟩
  | tup xs p=>exact absurd rfl (nt _ _ rfl)
  | lst p=>cases e;exact⟨.tuple_list p' p hu,.of_refs (λz=>by subst z;exact IU p' p) (.tuple_list p' p hu),.tuple_list p' p hu⟩
 | lst p'=>cases d' with
  | non=>cases e;exact⟨.list_none p' hu,.list_none p' hu,.list_none p' hu⟩
  | bl b=>cases e;exact⟨.list_bool _ p' hu,.list_bool _ p' hu,.list_bool _ p' hu⟩
  | int i t=>cases e;exact⟨.list_int _ _ p' hu,.list_int _ _ p' hu,.list_int _ _ p' hu⟩
  | str x t=>cases e;exact⟨.list_str _ _ p' hu,.list_str _ _ p' hu,.list_str _ _ p' hu⟩
  | tup xs p=>cases e;exact⟨.list_tuple p' p hu,.of_refs (λz=>by subst z;exact IU p p') (.list_tuple p' p hu),.list_tuple p' p hu⟩
  | lst p=>cases e
def Ek{a:A}{x:V}(h:AV X.K ρ H a x)(e:W_ S a=some (.tup xs)):a=.tup xs/\∃p vs,x=.ref p/\H p=some (.tup vs)/\AVs X.K ρ H xs vs:=by
 cases h with
 | tup h r=>cases e;exact⟨rfl,_,_,rfl,h,r⟩
 | ref h=>obtain⟨_,_,z⟩:=aX.mp e;cases z
 | _=>cases e
def Er{i:Nat}{x:V}(h:AV X.K ρ H (.ref i) x):∃p,x=.ref p/\ρ[i]?=some p:=by
 cases h with
 | ref h=>exact⟨_,rfl,h⟩
def Ow{a:A}(e:W_ S a=some .lst):∃i,a=.ref i:=by
 cases a with
 | ref i=>exact⟨i,rfl⟩
 | _=>cases e
def Pd{n:Nat}{a:A}{k:Bool}(e:tK S (n+1) a b=some k):(∃i j xs ys,a=.ref i/\b=.ref j/\jG S i=some xs/\jG S j=some ys/\rG (tK S n) xs ys=some k)\/(∃h h',W_ S a=some h/\W_ S b=some h'/\SA (tK S n) h h'=some k/\(h=.lst->h'≠.lst)):=by
 unfold tK at e;split at e
 ·obtain⟨xs,e1,e⟩:=cE.mp e;obtain⟨ys,e2,e⟩:=cE.mp e;exact .inl ⟨_,_,xs,ys,rfl,rfl,e1,e2,e⟩
 ·rename_i nr;obtain⟨h,e1,e⟩:=cE.mp e;obtain⟨h',e2,e⟩:=cE.mp e;refine .inr ⟨h,h',e1,e2,e,λz1 z2=>?_⟩;subst z1 z2;obtain⟨i,rfl⟩:=Ow e1;obtain⟨j,rfl⟩:=Ow e2;exact nr i j rfl rfl
def UK{f:A->A->Option Bool}{k:Bool}(d:KdV s h u)(d':KdV s h' u)(nt:∀xs ys,h=.tup xs->h'≠.tup ys)(e:SA f h h'=some k):k=true:=by
 cases d with
 | non=>cases d';exact(a_ e).symm
 | bl b=>cases d';exact(a_ e).symm.trans (bP b)
 | int b=>cases d';exact(a_ e).symm.trans (bP b)
 | str b=>cases d';exact(a_ e).symm.trans (bP b)
 | tup xs p=>cases d' with
  | tup=>exact absurd rfl (nt _ _ rfl)
  | lst q=>exact(IU p q).elim
 | lst p=>cases d' with
  | tup _ q=>exact(IU q p).elim
  | lst q=>cases e
def Gk{f:A->A->Option Bool}(hf:∀a b x u k,AV X.K ρ H a x->AV X.K ρ H b x->RelV x u->f a b=some k->k=true):∀{xs ys:ae}{vs:List V}{us:ba}{k:Bool},AVs X.K ρ H xs vs->AVs X.K ρ H ys vs->Vals vs us->rG f xs ys=some k->k=true:=by
 intro xs ys vs us k h1 h2 q e
 induction q generalizing xs ys k with
 | nil=>cases h1;cases h2;exact(a_ e).symm
 | cons rv _ ih=>
  cases h1 with
  | cons h t=>cases h2 with
   | cons h' t'=>
    obtain⟨p,e1,e⟩:=cE.mp e;obtain⟨q,e2,e3⟩:=aX.mp e;rw[<- e3,hf _ _ _ _ p h h' rv e1,ih t t' e2];rfl
def JB(h h':Sh):(∃xs ys,h=.tup xs/\h'=.tup ys)\/(∀xs ys,h=.tup xs->h'≠.tup ys):=by
 cases h with
 | tup xs=>cases h' with
  | tup ys=>exact .inl ⟨xs,ys,rfl,rfl⟩
  | _=>exact .inr λ_ _ _ z=>nomatch z
 | _=>exact .inr λ_ _ z=>nomatch z
theorem Ec(I:Inv X pins σ H s)(R:Rel X.K ρ H S):∀(n:Nat) (a b:A) (x:V) (u:af) (k:Bool),AV X.K ρ H a x->AV X.K ρ H b x->RelV x u->tK S n a b=some k->k=true
 | 0,_,_,_,_,_,_,_,_,e=>nomatch e
 | n+1,a,b,x,u,k,ha,hb,ru,e=>by
  rcases Pd e with⟨i,j,xs,ys,rfl,rfl,e1,e2,e⟩|⟨h,h',e1,e2,e,_⟩
  ·obtain⟨p,rfl,h1⟩:=Er ha;obtain⟨q,z,h2⟩:=Er hb
   cases z
   obtain⟨vs,h3,r1⟩:=R.lst h1 (jX e1);obtain⟨ws,h4,r2⟩:=R.lst h2 (jX e2);rw[h3]at h4
   cases h4
   obtain⟨us,q,_⟩:=I.list (pL.of h3);exact Gk (λa b x u k=>Ec I R n a b x u k) r1 r2 q e
  ·rcases JB h h' with⟨xs,ys,rfl,rfl⟩|nt
   ·obtain⟨rfl,p,vs,rfl,h3,r1⟩:=Ek ha e1;obtain⟨rfl,q,ws,z,h4,r2⟩:=Ek hb e2
    cases z
    have:=I.zd (ni.of h3) (ni.of h4);subst this;obtain⟨us,q,_⟩:=I.tuple (ni.of h3);exact Gk (λa b x u k=>Ec I R n a b x u k) r1 r2 q e
   ·exact UK (Kf I R ha ru e1) (Kf I R hb ru e2) nt e
noncomputable def BW (f:A->A->Option Bool)(xs ys:ae)(j:Nat):Bool:=match xs[j]?,ys[j]? with
 | some x,some y=>(f x y).getD true
 | _,_=>true
theorem Ac{f:A->A->Option Bool}:∀{xs ys:ae}{k:Bool},rG f xs ys=some k->k=((List.range (min xs.length ys.length)).all (BW f xs ys) && xs.length == ys.length)/\∀j x y,xs[j]?=some x->ys[j]?=some y->f x y=some (BW f xs ys j)
 | [],[],k,e=>⟨(a_ e).symm,λj x y h=>by simp at h⟩
 | [],_::_,k,e=>⟨(a_ e).symm,λj x y h=>by simp at h⟩
 | _::_,[],k,e=>⟨(a_ e).symm,λj x y _ h=>by simp at h⟩
 | x::xs,y::ys,k,e=>by
  unfold rG at e
  cases e1:f x y with
  | none=>rw[e1]at e;cases e
  | some p=>
   rw[e1]at e;obtain⟨q,e2,e3⟩:=aX.mp e;obtain⟨h1,h2⟩:=Ac e2;have p0:BW f (x::xs) (y::ys) 0=p:=by simp[BW,e1]
   have ps:∀j,BW f (x::xs) (y::ys) (j+1)=BW f xs ys j:=λj=>by simp[BW]
   refine⟨?_,λj a b ha hb=>?_⟩
   ·rw[<- e3,h1,bg,bg,Nat.succ_min_succ,gU,all_cons,gW,p0];have:(BW f (x::xs) (y::ys) ∘ Nat.succ)=BW f xs ys:=funext ps;rw[this,Bool.and_assoc];simp
   ·cases j with
    | zero=>
     simp at ha hb;subst ha hb;rw[p0];exact e1
    | succ j=>rw[ps];exact h2 j a b (by simpa using ha) (by simpa using hb)
def zF{f:A->A->Option Bool}{B:az}(hf:∀a b x y u v k,AV X.K ρ H a x->AV X.K ρ H b y->RelV x u->RelV y v->f a b=some k->SeqAt.EqAt B s u v k){us ts:ba}{k:Bool}
  (r1:AVs X.K ρ H xs vs) (r2:AVs X.K ρ H ys ws) (q1:Vals vs us) (q2:Vals ws ts) (e:rG f xs ys=some k):∀j (h1:j<us.toArray.size) (h2:j<ts.toArray.size),SeqAt.EqAt B s us.toArray[j] ts.toArray[j] (BW f xs ys j):=by
 intro j h1 h2;have l1:=r1.length;have l2:=r2.length;have l3:=q1.length;have l4:=q2.length;have hx:j<xs.length:=by simp at h1;lia
 have hy:j<ys.length:=by simp at h2;lia
 have e1:xs[j]?=some xs[j]:=aF hx;have e2:ys[j]?=some ys[j]:=aF hy;obtain⟨x,ex,ax⟩:=r1.get e1;obtain⟨y,ey,ay⟩:=r2.get e2;obtain⟨u,eu,ru⟩:=q1.get ex;obtain⟨t,et,rt⟩:=q2.get ey;have a1:us.toArray[j]=u:=by
  have:us[j]?=some us.toArray[j]:=by simp at h1;simp[h1]
  rw[eu]at this;exact(a_ this).symm
 have a2:ts.toArray[j]=t:=by
  have:ts[j]?=some ts.toArray[j]:=by simp at h2;simp[h2]
  rw[et]at this;exact(a_ this).symm
 rw[a1,a2];exact hf _ _ x y u t _ ax ay ru rt ((Ac e).2 j _ _ e1 e2)
def in1_units(B:az):B.in1.units=B.units+1:=rfl
theorem Ks(I:Inv X pins σ H s)(R:Rel X.K ρ H S):∀(n:Nat) (B:az) (a b:A) (x y:V) (u v:af) (k:Bool),B.units+n<cLine->AV X.K ρ H a x->AV X.K ρ H b y->RelV x u->RelV y v->tK S n a b=some k->Al B s u v k
 | 0,_,_,_,_,_,_,_,_,_,_,_,_,_,e=>nomatch e
 | n+1,B,a,b,x,y,u,v,k,hu,ha,hb,rx,ry,e=>by
  have hu0:B.units<cLine:=()
  have items:∀a b x y u v k,AV X.K ρ H a x->AV X.K ρ H b y->RelV x u->RelV y v->tK S n a b=some k->SeqAt.EqAt B.in1 s u v k:=λa b x y u v k h1 h2 h3 h4 h5=>(Ks I R n B.in1 a b x y u v k (by rw[in1_units];lia) h1 h2 h3 h4 h5).2.1;have same:=λ(z:y=x)=>Ec I R (n+1) a b x u k ha (z ▸ hb) rx e;have refs:∀{p q:ak},x=.ref p->y=.ref q->u=.ref p->v=.ref q->SeqAt.RcAt B s u v k->SeqAt.EqAt B s u v k:=λ{p q} z1 z2 z3 z4 h=>by
   subst z3 z4;by_cases hp:p=q
   ·subst hp;rw[same (z2.trans z1.symm)];exact .same _
   ·exact .of_refs hp h
  rcases Pd e with⟨i,j,xs,ys,rfl,rfl,e1,e2,e⟩|⟨h,h',e1,e2,e,_⟩
  ·obtain⟨p,rfl,h1⟩:=Er ha;obtain⟨q,rfl,h2⟩:=Er hb;obtain⟨vs,h3,r1⟩:=R.lst h1 (jX e1);obtain⟨ws,h4,r2⟩:=R.lst h2 (jX e2);obtain⟨us,q1,p1,_⟩:=I.list (pL.of h3);obtain⟨ts,q2,p2,_⟩:=I.list (pL.of h4);have ru:=refs rfl rfl rx ry
   cases(show u=Value.ref p from rx)
   cases(show v=Value.ref q from ry)
   have l1:=r1.length;have l2:=r2.length;have l3:=q1.length;have l4:=q2.length;have ek:=(Ac e).1;by_cases hl:xs.length=ys.length
   ·rw[<- hl,Nat.min_self,bP,Bool.and_true]at ek;have eh:us.toArray.size=ts.toArray.size:=by simp;lia
    have z1:=SeqAt.RcAt.lists p1.isList p2.isList eh hu0 (zF items r1 r2 q1 q2 e);have z2:=SeqAt.RcNeAt.lists p1.isList p2.isList eh hu0 (zF items r1 r2 q1 q2 e);rw[aY,<- l3,<- l1,<- ek]at z1 z2;exact⟨z1,ru z1,z2⟩
   ·have:(xs.length == ys.length)=false:=by simpa using hl
    rw[this,jw]at ek;subst ek;have eh:(us.toArray.size != ts.toArray.size)=true:=by simp;lia
    have z1:=SeqAt.RcAt.lists_lengths p1.isList p2.isList eh hu0;exact⟨z1,ru z1,SeqAt.RcNeAt.lists_lengths p1.isList p2.isList eh hu0⟩
  ·rcases JB h h' with⟨xs,ys,rfl,rfl⟩|nt
   ·obtain⟨rfl,p,vs,rfl,h3,r1⟩:=Ek ha e1;obtain⟨rfl,q,ws,rfl,h4,r2⟩:=Ek hb e2;have ru:=refs rfl rfl rx ry
    cases(show u=Value.ref p from rx)
    cases(show v=Value.ref q from ry)
    obtain⟨us,q1,p1,_⟩:=I.tuple (ni.of h3);obtain⟨ts,q2,p2,_⟩:=I.tuple (ni.of h4);have ek:=(Ac e).1;have z1:=SeqAt.RcAt.tuples p1 p2 hu0 (zF items r1 r2 q1 q2 e);have z2:=SeqAt.RcNeAt.tuples p1 p2 hu0 (zF items r1 r2 q1 q2 e);rw[aY,aY,<- q1.length,<- q2.length,<- r1.length,<- r2.length,<- ek]at z1 z2;exact⟨z1,ru z1,z2⟩
   ·exact ZD hu0 (Kf I R ha rx e1) (Kf I R hb ry e2) nt e
end
section
variable {X:Cx}
noncomputable def rB (neg:Bool)(a b:A)(S:jK):R A:=opt (tK S 12 a b) λk=>.ok (.bl (if neg then !k else k)) S
def HM(hu:X.A.units+64<cLine):pB X (compareOp .Eq) (r2 X (rB false)):=λpins s σ H x y v u Q I rx ry h9=>by
 x_go;obtain⟨k,e,h⟩:=jQ h;exact(Ks I R 12 X.A a b x y v u k () va vb rx ry e).1 _ _ _ _ ⟨.bl _,H,I,rfl,h _ _ _ .refl R (.bl _)⟩
def Cc(hu:X.A.units+64<cLine):pB X (compareOp .NotEq) (r2 X (rB true)):=λpins s σ H x y v u Q I rx ry h9=>by
 x_go;obtain⟨k,e,h⟩:=jQ h;exact(Ks I R 12 X.A a b x y v u k () va vb rx ry e).2.2 _ _ _ _ ⟨.bl _,H,I,rfl,h _ _ _ .refl R (.bl _)⟩
end
section
variable {X:Cx}{pos:Pos}{a b:aC}
noncomputable abbrev Pt:=ae->jK->R (Option Int)
noncomputable def Cv:Pt:=λ_ S=>.ok none S
noncomputable def CU (c:Ex):Pt:=λτ S=>(c τ S).bind λa S1=>match a with
 | .int i=>.ok (some i) S1
 | _=>.no
noncomputable def tO (X:Cx)(c:Pt):TO:=λσ H Q=>∃ρ S τ,Rel X.K ρ H S/\SR X.K ρ H τ σ/\(c τ S).post (λo S'=>∀ρ' H',Ext ρ ρ' H H'->Rel X.K ρ' H' S'->Q o H') (XE X ρ H)
noncomputable def AO (X:Cx)(e:Option aC)(c:Pt):Prop:=PO X e (tO X c)
def Km:AO X none Cv:=λpins s σ H Q I ⟨ρ,S,τ,R,r,h⟩=>Up pins s σ H Q I (h ρ H .refl R)
def Lc{c:Ex}(ha:AE X a c):AO X (some a) (CU c):=λpins s σ H Q I ⟨ρ,S,τ,R,r,h⟩=>Tv ha pins s σ H Q I ⟨ρ,S,τ,R,r,jN (jP h) .refl λx S1 h1 ρ1 H1 v e1 R1 v1=>by
 cases v1<;>first|exact h1.elim|exact⟨_,rfl,h1 ρ1 H1 e1 R1⟩⟩
noncomputable def zA (xs:ae)(lo hi:Option Int):ae:=(xs.drop (HT.oS xs.length 0 lo)).take (HT.oS xs.length xs.length hi-HT.oS xs.length 0 lo)
def AVs.cut{K:au}{H:Hp}(r:AVs K ρ H xs vs)(lo hi:Option Int):AVs K ρ H (zA xs lo hi) (FO vs lo hi):=by
 unfold zA FO;rw[r.length];exact(r.drop _).take _
noncomputable def Zh (a:A)(lo hi:Option Int)(S:jK):R A:=match a with
 | .ref n=>opt (jG S n) λxs=>.ok (.ref S.length) (S++[.lst (zA xs lo hi)])
 | .frz xs=>.ok (.ref S.length) (S++[.lst (zA xs lo hi)])
 | .tup xs=>gd (¬(HT.oS xs.length 0 lo=0/\HT.oS xs.length xs.length hi=xs.length)) (.ok (.tup (zA xs lo hi)) S)
 | _=>.no
noncomputable def YZ (c:Ex)(lo hi:Pt):Ex:=λτ S=>(c τ S).bind λa S1=>(lo τ S1).bind λl S2=>(hi τ S2).bind λu S3=>Zh a l u S3
noncomputable def rS (X:Cx):V->Option Int->Option Int->Hp->VK->Prop:=λx lo hi H Q=>∃ρ S a,Rel X.K ρ H S/\AV X.K ρ H a x/\(Zh a lo hi S).post (Cr X ρ H Q) (XE X ρ H)
def XD:SlR X (rS X):=λpins s σ H x v vl vu lo hi sl Q I rx hs pl pu h9=>by
 obtain⟨ρ,S,a,R,va,h⟩:=h9
 cases va with
 | @tup p xs vs h1 r1=>
  obtain⟨hc,h⟩:=kC h;exact Yp pins s σ H _ v vl vu lo hi sl Q I rx hs pl pu ⟨p,vs,rfl,(ni.of h1),by rw[<- r1.length];exact hc,vI R (r1.cut lo hi) .refl h⟩
 | @frz p xs vs h1 r1=>exact Le pins s σ H _ v vl vu lo hi sl Q I rx hs pl pu ⟨p,vs,rfl,h1.RK,nQ R (r1.cut lo hi) .refl h⟩
 | @ref p n hp=>
  kd_p;obtain⟨vs,h1,r1⟩:=R.lst hp (jX hn);exact Le pins s σ H _ v vl vu lo hi sl Q I rx hs pl pu ⟨p,vs,rfl,pL.of h1,nQ R (r1.cut lo hi) .refl h⟩
 | _=>exact h.elim
def V8{e:aC}{lo:Option aC}{c:Ex}{cl ch:Pt}(he:AE X e c)(hl:AO X lo cl)(hh:AO X hi ch):AE X (.Subscript e (.Slice lo hi none p2) pos) (YZ c cl ch):=PE.imp (Rj XD he hl hh) λσ H Q h9=>by
 room;refine⟨ρ,S,τ,R,r,jN (jP h) .refl λa S1 h1 ρ1 H1 x e1 R1 v1=>⟨ρ1,S1,τ,R1,r.ext e1,jN (jP h1) e1 λl S2 h2 ρ2 H2 e2 R2=>⟨ρ2,S2,τ,R2,r.ext (e1.trans e2),jN (jP h2) (e1.trans e2) λu S3 h3 ρ3 H3 e3 R3=>?_⟩⟩⟩;exact⟨ρ3,S3,a,R3,v1.ext (e2.trans e3),jN h3 (e1.trans (e2.trans e3)) λ_ _ z=>z.ext (e1.trans (e2.trans e3))⟩
noncomputable def ZJ (a:A)(S:jK):R A:=match a with
 | .ref n=>opt (jG S n) λxs=>.ok (.ref S.length) (S++[.lst xs.reverse])
 | .tup xs=>.ok (.tup xs.reverse) S
 | _=>.no
noncomputable def ki (f:ae->jK->R A)(d:rK):Ex:=λτ S=>(d τ S).bind λas S1=>f as S1
def FA{f:ae->jK->R A}{d:rK}{H:Hp}{Q:VK}(h:tE X (ki f d) σ H Q):tCB (rN X f) (tL X d) σ H Q:=by
 obtain⟨ρ,S,τ,R,r,h⟩:=h;exact⟨ρ,S,τ,R,r,jN (jP h) .refl λas S1 h1 ρ1 H1 vs e1 R1 v1=>⟨ρ1,S1,as,R1,v1,jN h1 e1 λ_ _ z=>z.ext e1⟩⟩
variable {x:Str}{p:Pos}{e:aC}{es:List aC}{id T:String}{f:ae->jK->R A}{d:rK}
def j0(hc:kJ X (.builtin id) (rN X f))(hm:X.mg x=none)(hv:bootBuiltins x=some (.builtin id))(ha:AL X (e::es) d)(hg:Gl X x:=by rfl)(hn:x ≠ "__name__" := by decide)(hdb:(x == ("__debug__" : Str))=false:=by decide)
  (he:starEach (e::es) X.env=(false,eval e X.env)::starEach es X.env:=by rfl) (hpl:(backTo pos (starEach es X.env)).any (·.1)=false:=by rfl):AE X (.Call (.Name x p) (e::es) [] pos) (ki f d):=
 PE.imp (QE hc hg hm hv ha hn hdb he hpl) λ_ _ _ h=>FA h
def lQ(hc:kJ X (.type T) (rN X f))(hm:X.mg x=none)(hv:bootBuiltins x=some (.type T))(ha:AL X (e::es) d)(hg:Gl X x:=by rfl)(hn:x ≠ "__name__" := by decide)(hdb:(x == ("__debug__" : Str))=false:=by decide)
  (he:starEach (e::es) X.env=(false,eval e X.env)::starEach es X.env:=by rfl) (hpl:(backTo pos (starEach es X.env)).any (·.1)=false:=by rfl):AE X (.Call (.Name x p) (e::es) [] pos) (ki f d):=
 PE.imp (MB hc hg hm hv ha hn hdb he hpl) λ_ _ _ h=>FA h
def xS(hm:X.mg x=none)(hv:bootBuiltins x=some (.type T))(hg:Gl X x:=by rfl)(hn:x ≠ "__name__" := by decide)(hdb:(x == ("__debug__" : Str))=false:=by decide):AE X (.Name x pos) (eC (.ty T)):=
 PE.imp (Si (v:=.ty T) hg hm hv rfl hn hdb) λσ H Q ⟨ρ,S,τ,R,r,h⟩=>h ρ H _ .refl R (.ty T)
noncomputable def A.seq (S:jK):A->Option (ae)
 | .tup xs=>some xs
 | .frz xs=>some xs
 | .ref n=>jG S n
 | _=>none
def YO{K:au}{H:Hp}{x:A}{v:V}(R:Rel K ρ H S)(h:AV K ρ H x v)(e:x.seq S=some xs):∃p vs,v=.ref p/\(pL K H p vs\/ni K H p vs)/\AVs K ρ H xs vs:=by
 cases h with
 | tup h r=>cases a_ e;exact⟨_,_,rfl,.inr (ni.of h),r⟩
 | frz h r=>cases a_ e;exact⟨_,_,rfl,.inl h.RK,r⟩
 | ref h=>
  obtain⟨vs,h1,r1⟩:=R.lst h (jX e);exact⟨_,vs,rfl,.inl (pL.of h1),r1⟩
 | _=>cases e
def TX{K:au}{H:Hp}{x:A}(h:AVs K ρ H [x] vs):∃v,vs=[v]/\AV K ρ H x v:=by
 cases h with
 | cons h t=>cases t;exact⟨_,rfl,h⟩
def Xa{K:au}{H:Hp}{x:A}(h:AVs K ρ H [x,y] vs):∃v w,vs=[v,w]/\AV K ρ H x v/\AV K ρ H y w:=by
 cases h with
 | cons h t=>obtain⟨w,rfl,h'⟩:=TX t;exact⟨_,_,rfl,h,h'⟩
noncomputable def f1 (g:A->jK->R A):ae->jK->R A:=λas S=>match as with
 | [x]=>g x S
 | _=>.no
noncomputable def f2 (g:A->A->jK->R A):ae->jK->R A:=λas S=>match as with
 | [x,y]=>g x y S
 | _=>.no
def UY{g:A->jK->R A}{P:A->jK->Prop}{E:Str->jK->Prop}(h:(f1 g as S).post P E):∃x,as=[x]/\(g x S).post P E:=by
 match as,h with
 | [],h=>exact h.elim
 | [x],h=>exact⟨x,rfl,h⟩
 | _::_::_,h=>exact h.elim
def SW{g:A->A->jK->R A}{P:A->jK->Prop}{E:Str->jK->Prop}(h:(f2 g as S).post P E):∃x y,as=[x,y]/\(g x y S).post P E:=by
 match as,h with
 | [],h=>exact h.elim
 | [_],h=>exact h.elim
 | [x,y],h=>exact⟨x,y,rfl,h⟩
 | _::_::_::_,h=>exact h.elim
def Uz{g:A->jK->R A}{H:Hp}{Q:VK}(h:rN X (f1 g) vs H Q):∃v,vs=[v]/\∃ρ S x,Rel X.K ρ H S/\AV X.K ρ H x v/\(g x S).post (Cr X ρ H Q) (XE X ρ H):=by
 obtain⟨ρ,S,as,R,v,h⟩:=h;obtain⟨x,rfl,h⟩:=UY h;obtain⟨w,rfl,hv⟩:=TX v;exact⟨w,rfl,ρ,S,x,R,hv,h⟩
def rn2{g:A->A->jK->R A}{H:Hp}{Q:VK}(h:rN X (f2 g) vs H Q):∃v w,vs=[v,w]/\∃ρ S x y,Rel X.K ρ H S/\AV X.K ρ H x v/\AV X.K ρ H y w/\(g x y S).post (Cr X ρ H Q) (XE X ρ H):=by
 obtain⟨ρ,S,as,R,v,h⟩:=h;obtain⟨x,y,rfl,h⟩:=SW h;obtain⟨w,w',rfl,hv,hv'⟩:=Xa v;exact⟨w,w',rfl,ρ,S,x,y,R,hv,hv',h⟩
noncomputable def qH (x:A)(S:jK):R A:=match x with
 | .str x=>gd (x.length<=sizeLine) (.ok (.int x.length) S)
 | .tup xs=>.ok (.int xs.length) S
 | .frz xs=>.ok (.int xs.length) S
 | .ref n=>opt (jG S n) λxs=>.ok (.int xs.length) S
 | _=>.no
def p7:kJ X (.builtin "len") (rN X (f1 qH)):=kJ.imp Ox λvs H Q h0=>by
 kt_k;clear h0
 cases hv with
 | str z=>
  obtain⟨hz,h⟩:=kC h;exact⟨_,_,rfl,⟨hz,rfl⟩,h _ _ _ .refl R (.int _)⟩
 | @tup p xs us h1 r=>exact⟨_,us.length,rfl,.inr ⟨us,(ni.of h1),rfl⟩,by rw[<- r.length];exact h _ _ _ .refl R (.int _)⟩
 | @frz p xs us h1 r=>exact⟨_,us.length,rfl,.inl ⟨us,h1.RK,rfl⟩,by rw[<- r.length];exact h _ _ _ .refl R (.int _)⟩
 | ref hp=>
  kd_p;obtain⟨us,h1,r⟩:=R.lst hp (jX hn);exact⟨_,us.length,rfl,.inl ⟨us,pL.of h1,rfl⟩,by rw[<- r.length];exact h _ _ _ .refl R (.int _)⟩
 | _=>exact h.elim
noncomputable def abj (x:A)(S:jK):R A:=match x with
 | .int i=>.ok (.int (if i<0 then -i else i)) S
 | _=>.no
noncomputable def QZ (x y:A)(S:jK):R A:=match x,y with
 | .int i,.int j=>.ok (.int (if j>i then j else i)) S
 | _,_=>.no
def YN(hc:X.calm=true):kJ X (.builtin "max") (rN X (f2 QZ)):=kJ.imp (LH hc) λvs H Q h0=>by
 obtain⟨w,w',rfl,ρ,S,x,y,R,hv,hv',h⟩:=rn2 h0;clear h0
 cases hv<;>first|exact h.elim|(cases hv'<;>first|exact h.elim|exact⟨_,_,rfl,h _ _ _ .refl R (.int _)⟩)
noncomputable def Pq (x y:A)(S:jK):R A:=match x,y with
 | .int i,.int j=>.ok (.int (if j<i then j else i)) S
 | _,_=>.no
def W6(hc:X.calm=true):kJ X (.builtin "min") (rN X (f2 Pq)):=kJ.imp (Mx hc) λvs H Q h0=>by
 obtain⟨w,w',rfl,ρ,S,x,y,R,hv,hv',h⟩:=rn2 h0;clear h0
 cases hv<;>first|exact h.elim|(cases hv'<;>first|exact h.elim|exact⟨_,_,rfl,h _ _ _ .refl R (.int _)⟩)
noncomputable def Lj (x:A)(S:jK):R A:=match x with
 | .int i=>.ok (.int i) S
 | .bl k=>.ok (.int (if k then 1 else 0)) S
 | .str y=>opt (PySem.intText? y) λn=>gd (y.length<=640) (.ok (.int n) S)
 | _=>.no
def X8:kJ X (.type "int") (rN X (f1 Lj)):=λpins s σ H xs us Q I rv h0=>by
 kt_k;clear h0
 cases hv with
 | int i=>exact Cg pins s σ H _ us Q I rv (.inl ⟨i,rfl,h _ _ _ .refl R (.int _)⟩)
 | bl k=>exact Cg pins s σ H _ us Q I rv (.inr ⟨k,rfl,h _ _ _ .refl R (.int _)⟩)
 | str y=>
  obtain⟨n,hn,h⟩:=jQ h;obtain⟨hl,h⟩:=kC h;exact Mb pins s σ H _ us Q I rv ⟨y,n,rfl,hl,hn,h _ _ _ .refl R (.int _)⟩
 | _=>exact h.elim
noncomputable def zL (x y:A)(S:jK):R A:=match x,y with
 | .int i,.int j=>.ok (.rng i j) S
 | _,_=>.no
def GH:kJ X (.type "range") (rN X (f2 zL)):=kJ.imp EA λvs H Q h0=>by
 obtain⟨w,w',rfl,ρ,S,x,y,R,hv,hv',h⟩:=rn2 h0;clear h0
 cases hv with
 | int i=>
  cases hv' with
  | int j=>
   refine⟨i,j,rfl,λp hp=>?_⟩;obtain⟨ex,R'⟩:=R.im (u:=.rng i j) hp;exact h ρ _ _ ex R' (.rng lU)
  | _=>exact h.elim
 | _=>exact h.elim
noncomputable def Co (i j:Int):Prop:=(-(2 ^ 62)<=i/\i<2 ^ 62/\-(2 ^ 62)<=j/\j<2 ^ 62)/\(j-i).toNat<=1000
instance (i j:Int):Decidable (Co i j):=by unfold Co;infer_instance
noncomputable def sG (x:A)(S:jK):R A:=match x with
 | .rng i j=>gd (Co i j) (.ok (.ref S.length) (S++[.lst ((k_ i j).map .int)]))
 | .tup xs=>.ok (.ref S.length) (S++[.lst xs])
 | .frz xs=>.ok (.ref S.length) (S++[.lst xs])
 | .ref n=>opt (jG S n) λxs=>.ok (.ref S.length) (S++[.lst xs])
 | _=>.no
def yQ(hc:X.calm=true):kJ X (.type "list") (rN X (f1 sG)):=λpins s σ H vs us Q I rx h0=>by
 kt_k;clear h0
 cases hv with
 | @rng p i j hp=>
  obtain⟨hc',h⟩:=kC h;exact B8 hc pins s σ H _ us Q I rx ⟨p,i,j,rfl,hp,hc'.1,hc'.2,nQ R (sJ _) .refl h⟩
 | @tup p xs vs h1 r=>exact tY pins s σ H _ us Q I rx ⟨p,vs,rfl,.inr (ni.of h1),nQ R r .refl h⟩
 | @frz p xs vs h1 r=>exact tY pins s σ H _ us Q I rx ⟨p,vs,rfl,.inl h1.RK,nQ R r .refl h⟩
 | @ref p n hp=>
  kd_p;obtain⟨vs,h1,r⟩:=R.lst hp (jX hn);exact tY pins s σ H _ us Q I rx ⟨p,vs,rfl,.inl (pL.of h1),nQ R r .refl h⟩
 | _=>exact h.elim
noncomputable def ur (x:A)(S:jK):R A:=match x with
 | .rng i j=>gd (Co i j) (.ok (.tup ((k_ i j).map .int)) S)
 | .tup xs=>.ok (.tup xs) S
 | .frz xs=>.ok (.tup xs) S
 | .ref n=>opt (jG S n) λxs=>.ok (.tup xs) S
 | _=>.no
def z0(hc:X.calm=true):kJ X (.type "tuple") (rN X (f1 ur)):=λpins s σ H vs us Q I rx h0=>by
 kt_k;clear h0
 cases hv with
 | @rng p i j hp=>
  obtain⟨hc',h⟩:=kC h;exact Au hc pins s σ H _ us Q I rx ⟨p,i,j,rfl,hp,hc'.1,hc'.2,vI R (sJ _) .refl h⟩
 | @tup p xs vs h1 r=>exact rH pins s σ H _ us Q I rx ⟨p,vs,rfl,.inr ⟨(ni.of h1),h _ _ _ .refl R (.tup h1 r)⟩⟩
 | @frz p xs vs h1 r=>exact rH pins s σ H _ us Q I rx ⟨p,vs,rfl,.inl ⟨h1.RK,vI R r .refl h⟩⟩
 | @ref p n hp=>
  kd_p;obtain⟨vs,h1,r⟩:=R.lst hp (jX hn);exact rH pins s σ H _ us Q I rx ⟨p,vs,rfl,.inl ⟨pL.of h1,vI R r .refl h⟩⟩
 | _=>exact h.elim
noncomputable def A.RM:ae->Option (List Bool)
 | []=>some []
 | .bl b::xs=>(A.RM xs).map (b::·)
 | _=>none
theorem Nv{K:au}{H:Hp}:∀{xs:ae}{vs:List V}{bs:List Bool},AVs K ρ H xs vs->A.RM xs=some bs->vs=bs.map V.bl
 | _,_,_,.nil,e=>by cases e;rfl
 | _,_,_,.cons (x:=.bl b) h t,e=>by
  obtain⟨cs,e1,rfl⟩:=aX.mp e
  cases h
  rw[Nv t e1];rfl
 | _,_,_,.cons (x:=.unb) h t,e=>nomatch e
 | _,_,_,.cons (x:=.non) h t,e=>nomatch e
 | _,_,_,.cons (x:=.int _) h t,e=>nomatch e
 | _,_,_,.cons (x:=.str _) h t,e=>nomatch e
 | _,_,_,.cons (x:=.tup _) h t,e=>nomatch e
 | _,_,_,.cons (x:=.frz _) h t,e=>nomatch e
 | _,_,_,.cons (x:=.rng _ _) h t,e=>nomatch e
 | _,_,_,.cons (x:=.ref _) h t,e=>nomatch e
 | _,_,_,.cons (x:=.exn _) h t,e=>nomatch e
 | _,_,_,.cons (x:=.ty _) h t,e=>nomatch e
noncomputable def RA (x:A)(S:jK):R A:=match x with
 | .ref n=>opt (jG S n) λxs=>opt (A.RM xs) λbs=>.ok (.bl (bs.all λb=>b)) S
 | _=>.no
def VW(hc:X.calm=true):kJ X (.builtin "all") (rN X (f1 RA)):=kJ.imp (LJ hc) λvs H Q h0=>by
 kt_k;clear h0
 cases hv with
 | @ref p n hp=>
  kd_p;obtain⟨bs,hb,h⟩:=jQ h;obtain⟨vs,h1,r⟩:=R.lst hp (jX hn);rw[Nv r hb]at h1;exact⟨p,bs,rfl,pL.of h1,h _ _ _ .refl R (.bl _)⟩
 | _=>exact h.elim
noncomputable def insI (x:Int):ag->ag
 | []=>[x]
 | y::ys=>if x<=y then x::y::ys else y::insI x ys
noncomputable def sortI:ag->ag
 | []=>[]
 | x::xs=>insI x (sortI xs)
theorem insI_perm(x:Int):∀ys:ag,(insI x ys).Perm (x::ys)
 | []=>eU _
 | y::ys=>by
  unfold insI;by_cases h:x<=y
  ·rw[aM h]
  ·rw[aK h];exact((insI_perm x ys).cons y).trans (List.Perm.swap x y ys)
theorem sortI_perm:∀xs:ag,(sortI xs).Perm xs
 | []=>eU _
 | x::xs=>(insI_perm x (sortI xs)).trans ((sortI_perm xs).cons x)
theorem KH(x:Int):∀ys:ag,ys.Pairwise (·<=·)->(insI x ys).Pairwise (·<=·)
 | [],_=>bW _ _
 | y::ys,h=>by
  unfold insI;obtain⟨h1,h2⟩:=bM.mp h;by_cases hx:x<=y
  ·rw[aM hx];exact bM.mpr ⟨λz hz=>(bw.mp hz).elim (λe=>e ▸ hx) λhz=>Int.le_trans hx (h1 z hz),h⟩
  ·rw[aK hx];refine bM.mpr ⟨λz hz=>?_,KH x ys h2⟩
   rcases bw.mp ((insI_perm x ys).mem_iff.mp hz)with e|hz
   ·subst e;lia
   ·exact h1 z hz
theorem BI:∀xs:ag,(sortI xs).Pairwise (·<=·)
 | []=>List.Pairwise.nil
 | x::xs=>KH x _ (BI xs)
noncomputable def A.kd:A->jK->Option Kd
 | .non,_=>some .non
 | .bl _,_=>some .bl
 | .int _,_=>some .int
 | .str _,_=>some .str
 | .tup _,_=>some .tup
 | .ref n,S=>(jG S n).map λ_=>.lst
 | _,_=>none
def Us{K:au}(k:Kd):PySem.W.kitOne K k.ty (.type "str")=some (decide (k=.str)):=by cases k<;>rfl
noncomputable def zC (k:Kd)(c:String):Option Bool:=if c = "int" then some (decide (k=.int\/k=.bl))else if c = "bool" then some (decide (k=.bl))else if c = "tuple" then some (decide (k=.tup))else if c = "list" then some (decide (k=.lst))else if c = "str" then some (decide (k=.str))else none
def Li{K:au}{k:Kd}{c:String}{b:Bool}(h:zC k c=some b):PySem.W.kitOne K k.ty (.type c)=some b:=by
 unfold zC at h;split at h
 ·rename_i e;subst e;rw[<- h];exact UO k
 ·split at h
  ·rename_i e;subst e;rw[<- h];exact Qc k
  ·split at h
   ·rename_i e;subst e;rw[<- h];exact kit_tuple k
   ·split at h
    ·rename_i e;subst e;rw[<- h];exact OA k
    ·split at h
     ·rename_i e;subst e;rw[<- h];exact Us k
     ·cases h
noncomputable def AA (x y:A)(S:jK):R A:=match y with
 | .ty c=>opt (x.kd S) λk=>opt (zC k c) λb=>.ok (.bl b) S
 | _=>.no
def Zf{K:au}{H:Hp}{x:A}{v:V}{k:Kd}(R:Rel K ρ H S)(h:AV K ρ H x v)(e:x.kd S=some k):(∃p vs,v=.ref p/\ni K H p vs/\k=.tup)\/YA H v k:=by
 cases h with
 | non=>cases e;exact .inr rfl
 | bl b=>cases e;exact .inr ⟨b,rfl⟩
 | int i=>cases e;exact .inr ⟨i,rfl⟩
 | str i=>cases e;exact .inr ⟨i,rfl⟩
 | tup h r=>cases e;exact .inl ⟨_,_,rfl,(ni.of h),rfl⟩
 | ref h=>
  obtain⟨xs,e1,e2⟩:=aX.mp e;obtain⟨vs,h1,_⟩:=R.lst h (jX e1)
  cases e2
  exact .inr ⟨_,vs,rfl,h1⟩
 | _=>cases e
def xE:kJ X (.builtin "isinstance") (rN X (f2 AA)):=λpins s σ H vs us Q I rx h0=>by
 obtain⟨w,w',rfl,ρ,S,x,y,R,hv,hv',h⟩:=rn2 h0;clear h0
 cases hv' with
 | ty c=>
  obtain⟨k,hk,h⟩:=jQ h;obtain⟨b,hb,hq⟩:=jQ h;have hq:Cr X ρ H Q (.bl b) S:=hq;clear h
  rcases Zf R hv hk with⟨p,vs,rfl,ht,rfl⟩|hd
  ·obtain⟨u1,u2,rfl,r1,r2⟩:=vals2 rx;obtain⟨its,q,⟨o,h1,h2,_⟩,_⟩:=I.tuple ht
   cases(show _=Value.ref p from r1)
   cases(show _=Value.type c from r2)
   exact cW PySem.W.kitx_tuple I.EM ⟨o,h1,h2⟩ (Li hb) (λz=>nomatch z) λtk=>⟨.bl b,H,I.tok _,rfl,hq _ _ _ .refl R (.bl _)⟩
  ·exact EV (c:=c) pins s σ H _ us Q I rx ⟨w,_,b,rfl,hd.aa9,Li hb,hq _ _ _ .refl R (.bl _)⟩
 | _=>exact h.elim
end
noncomputable def DK (x:ag):List (ag)->List (ag)
 | []=>[x]
 | y::ys=>if HT.lexLt y x=true then y::DK x ys else x::y::ys
noncomputable def mQ:List (ag)->List (ag)
 | []=>[]
 | x::xs=>DK x (mQ xs)
noncomputable def DY (a b:ag):Prop:=HT.lexLt b a=false
def DY.trans{a c:ag}(h1:DY a b)(h2:DY b c):DY a c:=by
 unfold DY at *
 cases e:HT.lexLt c a with
 | false=>rfl
 | true=>
  rcases Sx.Kv (b:=b) e with z|z
  ·rw[h2]at z;cases z
  ·rw[h1]at z;cases z
theorem yL(x:ag):∀ys:List (ag),(DK x ys).Perm (x::ys)
 | []=>eU _
 | y::ys=>by
  unfold DK;by_cases h:HT.lexLt y x=true
  ·rw[aM h];exact((yL x ys).cons y).trans (List.Perm.swap x y ys)
  ·rw[aK h]
theorem ko:∀xs:List (ag),(mQ xs).Perm xs
 | []=>eU _
 | x::xs=>(yL x (mQ xs)).trans ((ko xs).cons x)
theorem Jx(x:ag):∀ys:List (ag),ys.Pairwise DY->(DK x ys).Pairwise DY
 | [],_=>bW _ _
 | y::ys,h=>by
  unfold DK;obtain⟨h1,h2⟩:=bM.mp h;by_cases hx:HT.lexLt y x=true
  ·rw[aM hx];refine bM.mpr ⟨λz hz=>?_,Jx x ys h2⟩
   rcases bw.mp ((yL x ys).mem_iff.mp hz)with e|hz
   ·subst e;unfold DY
    cases e:HT.lexLt z y with
    | false=>rfl
    | true=>have:=Sx.Dl hx e;rw[Sx.zE]at this;cases this
   ·exact h1 z hz
  ·rw[aK hx];have hx':DY x y:=by unfold DY;simpa using hx
   exact bM.mpr ⟨λz hz=>(bw.mp hz).elim (λe=>e ▸ hx') λhz=>hx'.trans (h1 z hz),h⟩
theorem sF:∀xs:List (ag),(mQ xs).Pairwise DY
 | []=>List.Pairwise.nil
 | x::xs=>Jx x _ (sF xs)
def Hs{xs:List (ag)}(p:xs.Perm ys)(h:xs.Pairwise DY):xs=mQ ys:=
 dR (λa b _ _ h1 h2=>(Sx.yd h1 h2).symm) h (sF ys) (p.trans (ko ys).symm)
theorem pig:∀(N:Nat) (l:am),l.Nodup->(∀x∈l,x<N)->l.length<=N
 | 0,l,_,h=>by
  cases l with
  | nil=>exact aO _
  | cons a l=>exact absurd (h a (aJ ..)) (e_ _)
 | N+1,l,nd,h=>by
  have h1:=pig N (l.erase N) (nd.erase N) λx hx=>by
   have:=h x (List.mem_of_mem_erase hx);have:x≠N:=λz=>by
    subst z;exact(List.Nodup.not_mem_erase nd) hx
   lia
  have:=List.le_length_erase (l:=l) (a:=N);lia
def sS{N:Nat}{g:Nat->Nat}(h:∀i,i<N->g i<N)(inj:∀i j,i<j->j<N->g i≠g j):((List.range N).map g).Perm (List.range N):=by
 have nd:((List.range N).map g).Nodup:=by
  unfold List.Nodup;rw[cF];intro i j hi hj hij;rw[aH,cD]at hi hj;rw[c_,c_,eV,eV];exact inj i j hij hj
 have lt:∀x∈(List.range N).map g,x<N:=λx hx=>by
  obtain⟨i,hi,rfl⟩:=bA.mp hx;exact h i (cQ.mp hi)
 refine(i_ nd List.nodup_range).mpr λa=>⟨λha=>cQ.mpr (lt a ha),λha=>?_⟩;refine Classical.byContradiction λhn=>?_;have:=pig N (a::(List.range N).map g) (cO.mpr ⟨hn,nd⟩) λx hx=>by
  rcases bw.mp hx with rfl|hx
  ·exact cQ.mp ha
  ·exact lt x hx
 rw[bg,aH,cD]at this;lia
def range_getD{α:Type}(l:List α)(d:α):(List.range l.length).map (λi=>l.getD i d)=l:=by
 apply cT;intro i;rw[aQ];by_cases c:i<l.length
 ·rw[eg c];show some (l.getD i d)=_;rw[aI,aF c];rfl
 ·rw[b_ (by rw[cD];lia),b_ ()];rfl
def OV{kss:List (ag)}{g:Nat->Nat}(c:Sx.Cl g 0 kss.length)(so:Sx.So (Sx.BY kss) g 0 kss.length):(List.range kss.length).map (λi=>kss.getD (g i) [])=mQ kss:=by
 refine Hs ?_ ?_
 ·have p:=sS (N:=kss.length) (g:=g) (λi hi=>(c i (bL _) hi).2) λi j hij hj z=>by
   have:=so i j (bL _) hij hj;rw[z]at this;exact this.MV
  have:=p.map λi=>kss.getD i [];rw[bq,range_getD]at this;exact this
 ·rw[cF];intro i j hi hj hij;rw[aH,cD]at hi hj;rw[c_,c_,eV,eV];exact(so i j (bL _) hij hj).ge
theorem Dd{K:au}{H:Hp}{α:Type}{f:α->A}{h:α->V}:∀{l:List α},(∀a∈l,AV K ρ H (f a) (h a))->AVs K ρ H (l.map f) (l.map h)
 | [],_=>.nil
 | a::l,e=>.cons (e a (aJ ..)) (Dd λb hb=>e b (aL _ hb))
noncomputable def RS.post (r:RS)(N:ae->jK->Prop)(T:A->jK->Prop)(B C:ae->jK->Prop)(E:Str->jK->Prop):Prop:=match r with
 | .nx τ S=>N τ S
 | .rt a S=>T a S
 | .bk τ S=>B τ S
 | .ct τ S=>C τ S
 | .ex c S=>E c S
 | .no=>False
noncomputable def RS.of {α:Type}(r:R α)(f:α->jK->RS):RS:=match r with
 | .ok a S=>f a S
 | .ex c S=>.ex c S
 | .no=>.no
def of_post{α:Type}{r:R α}{f:α->jK->RS}{N B C:ae->jK->Prop}{T:A->jK->Prop}{E:Str->jK->Prop}(h:(RS.of r f).post N T B C E):r.post (λa S=>(f a S).post N T B C E) E:=by
 cases r<;>exact h
def RS.mono{r:RS}{N B C N' B' C':ae->jK->Prop}{T T':A->jK->Prop}{E E':Str->jK->Prop}(h:r.post N T B C E)(hn:∀τ S,N τ S->N' τ S)(ht:∀a S,T a S->T' a S)(hb:∀τ S,B τ S->B' τ S)(hc:∀τ S,C τ S->C' τ S)(he:∀c S,E c S->E' c S):r.post N' T' B' C' E':=by
 cases r with
 | nx τ S=>exact hn _ _ h
 | rt a S=>exact ht _ _ h
 | bk τ S=>exact hb _ _ h
 | ct τ S=>exact hc _ _ h
 | ex c S=>exact he _ _ h
 | no=>exact h.elim
noncomputable def NL (X:Cx)(ρ:bb)(H:Hp)(N:L2.St->Hp->Prop):ae->jK->Prop:=λτ' S'=>∀ρ' H' σ',Ext ρ ρ' H H'->Rel X.K ρ' H' S'->SR X.K ρ' H' τ' σ'->N σ' H'
def NL.ext{X:Cx}{H H':Hp}{N:L2.St->Hp->Prop}(h:NL X ρ H N τ S)(e:Ext ρ ρ' H H'):NL X ρ' H' N τ S:=λρ2 H2 σ2 e2=>h ρ2 H2 σ2 (e.trans e2)
noncomputable def DS (X:Cx)(ρ:bb)(H:Hp)(D:Ends)(r:RS):Prop:=r.post (NL X ρ H D.nx) (Cr X ρ H D.rt) (NL X ρ H D.bk) (NL X ρ H D.ct) (XE X ρ H)
def DS.ext{X:Cx}{H H':Hp}{D:Ends}{r:RS}(h:DS X ρ H D r)(e:Ext ρ ρ' H H'):DS X ρ' H' D r:=RS.mono h (λ_ _ z=>z.ext e) (λ_ _ z=>z.ext e) (λ_ _ z=>z.ext e) (λ_ _ z=>z.ext e) λ_ _ z=>z.ext e
noncomputable def tS (X:Cx)(c:Sm):TS:=λD σ H=>∃ρ S τ,Rel X.K ρ H S/\SR X.K ρ H τ σ/\DS X ρ H D (c τ S)
noncomputable def AS (X:Cx)(st:aE)(c:Sm):Prop:=PS X st (tS X c)
noncomputable def RX (X:Cx)(sts:List aE)(c:Sm):Prop:=Dh X sts (tS X c)
noncomputable def tG (X:Cx)(g:Tg):TG:=λv σ H Q=>∃ρ S τ a,Rel X.K ρ H S/\SR X.K ρ H τ σ/\AV X.K ρ H a v/\(g a τ S).post (NL X ρ H Q) (XE X ρ H)
noncomputable def AG (X:Cx)(e:aC)(g:Tg):Prop:=PG X e (tG X g)
noncomputable abbrev RP:=ae->ae->jK->R (ae)
noncomputable def tGs (X:Cx)(g:RP):VM:=λvs σ H Q=>∃ρ S τ as,Rel X.K ρ H S/\SR X.K ρ H τ σ/\AVs X.K ρ H as vs/\(g as τ S).post (NL X ρ H Q) (XE X ρ H)
noncomputable def AGs (X:Cx)(es:List aC)(g:RP):Prop:=PGs X es (tGs X g)
section
variable {X:Cx}{pos:Pos}{a b e:aC}{st:aE}{rest:List aE}{c d:Sm}
def PS.imp{t t':TS}(h:PS X st t)(i:∀D σ H,t' D σ H->t D σ H):PS X st t':=λpins s σ H D I q=>h pins s σ H D I (i D σ H q)
def Dh.imp{t t':TS}(h:Dh X rest t)(i:∀D σ H,t' D σ H->t D σ H):Dh X rest t':=λpins s σ H D I q=>h pins s σ H D I (i D σ H q)
def PG.imp{t t':TG}(h:PG X e t)(i:∀v σ H Q,t' v σ H Q->t v σ H Q):PG X e t':=λpins s σ H v u Q I r q=>h pins s σ H v u Q I r (i _ _ _ _ q)
noncomputable def kL (i:Nat):Tg:=λa τ S=>.ok (τ.set i a) S
def jY{i:Nat}{x:Str}(hN:X.N.Nodup)(hi:X.N[i]?=some x:=by rfl)(hx:Loc X.env.scope x:=by first|exact Or.inl rfl|exact Or.inr rfl)(hf:X.fn x=true\/X.env.scope.names.lookup x=some .local:=by first|exact .inl rfl|exact .inr rfl|assumption):AG X (.Name x pos) (kL i):=
 PG.imp (Tp hN hi hx hf) λv σ H Q ⟨ρ,S,τ,a,R,r,va,h⟩=>h ρ H _ .refl R (r.set va)
noncomputable def yo:RP:=λas τ S=>match as with
 | []=>.ok τ S
 | _=>.no
noncomputable def o8 (g:Tg)(gs:RP):RP:=λas τ S=>match as with
 | a::as=>(g a τ S).bind λτ1 S1=>gs as τ1 S1
 | []=>.no
def l9:AGs X [] yo:=λpins s σ H vs us Q I r ⟨ρ,S,τ,as,R,sr,va,h⟩=>Uv pins s σ H vs us Q I r (by
 cases va with
 | nil=>exact⟨rfl,h ρ H σ .refl R sr⟩
 | cons _ _=>exact h.elim)
def j3{g:Tg}{gs:RP}(h1:AG X e g)(h2:AGs X es gs)(hs:(assignEach (e::es) X.env).map (·.2)=assign e X.env::(assignEach es X.env).map (·.2):=by rfl):AGs X (e::es) (o8 g gs):=
 λpins s σ H vs us Q I r ⟨ρ,S,τ,as,R,sr,va,h⟩=>Rc h1 h2 hs pins s σ H vs us Q I r (by
  cases va with
  | nil=>exact h.elim
  | cons ha hr=>exact⟨_,_,rfl,ρ,S,τ,_,R,sr,ha,jN (jP h) .refl λτ1 S1 h1 ρ1 H1 σ1 e1 R1 sr1=>⟨ρ1,S1,τ1,_,R1,sr1,hr.ext e1,jN h1 e1 λ_ _ z=>z.ext e1⟩⟩)
noncomputable def yp (n:Nat)(gs:RP):Tg:=λa τ S=>match a with
 | .tup xs | .ktu xs=>gd (xs.length=n) (gs xs τ S)
 | _=>.no
def nG{k n:Nat}{gs:RP}(hc:X.calm=true)(h:AGs X es gs)(hn:(assignEach es X.env).length=n:=by rfl)(hst:(assignEach es X.env).findIdx? (·.1)=none:=by rfl):AG X (.Tuple es k pos) (yp n gs):=
 PG.imp (Yd hc h hn hst) λv σ H Q h9=>by
  obtain⟨ρ,S,τ,a,R,r,va,h⟩:=h9
  cases va with
  | tup h1 r1=>
   obtain⟨hl,h⟩:=kC h;exact⟨_,_,rfl,ni.of h1,by rw[<- r1.length];exact hl,ρ,S,τ,_,R,r,r1,h⟩
  | ktu h1 r1=>
   obtain⟨hl,h⟩:=kC h;exact⟨_,_,rfl,.inr h1,by rw[<- r1.length];exact hl,ρ,S,τ,_,R,r,r1,h⟩
  | _=>exact h.elim
noncomputable def FT (o i v:A)(S:jK):R Unit:=match o,i with
 | .ref n,.int k=>opt (jG S n) λxs=>opt (zR xs.length k) λj=>.ok Unit.unit (S.set n (.lst (xs.set j v)))
 | _,_=>.no
noncomputable def rSt (X:Cx):MM:=λo i v H Q=>∃ρ S ao ai av,Rel X.K ρ H S/\AV X.K ρ H ao o/\AV X.K ρ H ai i/\AV X.K ρ H av v/\(FT ao ai av S).post (λ_ S'=>∀ρ' H',Ext ρ ρ' H H'->Rel X.K ρ' H' S'->Q H') (XE X ρ H)
def TJ:LL X (rSt X):=λpins s σ H o i v ov iv u Q I ro ri rv h9=>by
 obtain⟨ρ,S,ao,ai,av,R,h1,h2,h3,h⟩:=h9
 cases h1 with
 | @ref p n hp=>
  cases h2 with
  | int k=>
   kd_p;obtain⟨j,hj,h⟩:=jQ h;obtain⟨vs,e,r⟩:=R.lst hp (jX hn);obtain⟨ex,R'⟩:=R.put hp (jX hn) (r.set h3 j);exact set_list pins s σ H _ _ v ov iv u Q I ro ri rv ⟨p,vs,k,j,rfl,rfl,e,by rw[<- r.length];exact hj,h _ _ ex R'⟩
  | _=>exact h.elim
 | _=>exact h.elim
noncomputable def X5 (co ci:Ex):Tg:=λa τ S=>(co τ S).bind λo S1=>(ci τ S1).bind λi S2=>(FT o i a S2).bind λ_ S3=>.ok τ S3
def BL{co ci:Ex}(ho:AE X o co)(hi:AE X i ci)
  (ha:∀v,assign (.Subscript o i pos) X.env v=(do
   let ov <- holding [v] (eval o X.env)
   let iv <- holding [v,ov] (eval i X.env)
   standAt pos
   holding [v,ov,iv] (setItem ov iv v)
   release [v,ov,iv] []):=by intro _;rfl):AG X (.Subscript o i pos) (X5 co ci):=PG.imp (HL ho hi TJ ha) λv σ H Q h9=>by
 obtain⟨ρ,S,τ,a,R,r,va,h⟩:=h9;refine⟨ρ,S,τ,R,r,jN (jP h) .refl λo S1 h1 ρ1 H1 x e1 R1 v1=>⟨ρ1,S1,τ,R1,r.ext e1,jN (jP h1) e1 λi S2 h2 ρ2 H2 y e2 R2 v2=>?_⟩⟩;refine⟨ρ2,S2,o,i,a,R2,v1.ext e2,v2,va.ext (e1.trans e2),jN (jP h2) (e1.trans e2) λ_ S3 h3 ρ3 H3 e3 R3=>?_⟩;exact h3 ρ3 H3 σ ((e1.trans e2).trans e3) R3 (r.ext ((e1.trans e2).trans e3))
noncomputable def nF:Sm:=λτ S=>.nx τ S
noncomputable def kc (c d:Sm):Sm:=λτ S=>match c τ S with
 | .nx τ' S'=>d τ' S'
 | r=>r
def kK:RX X [] nF:=Dh.imp UX λD σ H ⟨ρ,S,τ,R,r,h⟩=>h ρ H σ .refl R r
def Sy{D:Ends}{H:Hp}(h:tS X (kc c d) D σ H):aay (tS X c) (tS X d) D σ H:=by
 obtain⟨ρ,S,τ,R,r,h⟩:=h;refine⟨ρ,S,τ,R,r,?_⟩;unfold kc at h
 cases hc:c τ S with
 | nx τ1 S1=>
  rw[hc]at h;exact λρ1 H1 σ1 e1 R1 r1=>⟨ρ1,S1,τ1,R1,r1,DS.ext h e1⟩
 | rt a S1=>rw[hc]at h;exact h
 | bk τ1 S1=>rw[hc]at h;exact h
 | ct τ1 S1=>rw[hc]at h;exact h
 | ex x S1=>rw[hc]at h;exact h
 | no=>rw[hc]at h;exact h
def jJ(h1:AS X st c)(h2:RX X rest d):RX X (st::rest) (kc c d):=Dh.imp (Ph h1 h2) λD σ H h=>Sy h
def jM(h1:AS X st c):RX X [st] c:=Um h1
noncomputable def Wu:Sm:=λτ S=>.bk τ S
noncomputable def Zj:Sm:=λτ S=>.ct τ S
noncomputable def oF (e:Ex):Sm:=λτ S=>.of (e τ S) λ_ S1=>.nx τ S1
def mZ{f:Ex}(he:AE X e f)(hs:swapsWith e none pos.line X.env=pure false:=by rfl):AS X (.Expr e pos) (oF f):=PS.imp (Uq he hs) λD σ H ⟨ρ,S,τ,R,r,h⟩=>
 ⟨ρ,S,τ,R,r,jN (of_post h) .refl λa S1 h1 ρ1 H1 x e1 R1 v1=>h1 ρ1 H1 σ e1 R1 (r.ext e1)⟩
noncomputable def kQ (e:Ex):Sm:=λτ S=>.of (e τ S) λa S1=>.rt a S1
def j_{f:Ex}(he:AE X e f):AS X (.Return (some e) pos) (kQ f):=PS.imp (WA he) λD σ H ⟨ρ,S,τ,R,r,h⟩=>⟨ρ,S,τ,R,r,jN (of_post h) .refl λa S1 h1=>h1⟩
noncomputable def aaH:Sm:=λτ S=>.rt .non S
noncomputable def u_ (t:Te)(c d:Sm):Sm:=λτ S=>.of (t τ S) λb S1=>match b with|true=>c τ S1|false=>d τ S1
def mq{t:Te}(ht:AT X e t)(ha:RX X ca c)(hb:RX X cb d):AS X (.If e ca cb pos) (u_ t c d):=PS.imp (ZC ht ha hb) λD σ H h9=>by
 room;refine⟨ρ,S,τ,R,r,jN (of_post h) .refl λb S1 h1 ρ1 H1 e1 R1=>?_⟩
 cases b with
 | true=>rw[aM rfl];exact⟨ρ1,S1,τ,R1,r.ext e1,DS.ext h1 e1⟩
 | false=>rw[aK bH];exact⟨ρ1,S1,τ,R1,r.ext e1,DS.ext h1 e1⟩
noncomputable def kI (e:Ex)(g:Tg):Sm:=λτ S=>.of (e τ S) λa S1=>.of (g a τ S1) λτ' S2=>.nx τ' S2
def Tt{f:Ex}{g:Tg}{D:Ends}{H:Hp}(h:tS X (kI f g) D σ H):W4 (tE X f) (tG X g) D σ H:=by
 obtain⟨ρ,S,τ,R,r,h⟩:=h;exact⟨ρ,S,τ,R,r,jN (of_post h) .refl λa S1 h1 ρ1 H1 x e1 R1 v1=>⟨ρ1,S1,τ,a,R1,r.ext e1,v1,jN (of_post h1) e1 λτ2 S2 h2=>NL.ext h2 e1⟩⟩
def pV{tg:aC}{f:Ex}{g:Tg}(he:AE X e f)(hg:AG X tg g)(hs:swapsWithSole [tg] e pos.line X.env=pure false:=by rfl)(hw:swappedStores [tg] e X.env=pure none:=by rfl)
  (h1:(assignEach [tg] X.env).map (·.2)=[assign tg X.env]:=by rfl):AS X (.Assign [tg] e pos) (kI f g):=PS.imp (YI he hg hs hw h1) λD σ H h=>Tt h
def kh{i:Nat}{x:Str}{f:Ex}(hN:X.N.Nodup)(he:AE X e f)(hi:X.N[i]?=some x:=by rfl)(hx:Loc X.env.scope x:=by first|exact Or.inl rfl|exact Or.inr rfl)(hs:swapsWith e (some (.Name x pos')) pos.line X.env=pure false:=by rfl)(hf:X.fn x=true\/X.env.scope.names.lookup x=some .local:=by first|exact .inl rfl|exact .inr rfl|assumption) :
  AS X (.Assign [.Name x pos'] e pos) (kI f (kL i)):=PS.imp (WW hN hi hx he hs hf) λD σ H ⟨ρ,S,τ,R,r,h⟩=>
 ⟨ρ,S,τ,R,r,jN (of_post h) .refl λa S1 h1 ρ1 H1 x e1 R1 v1=>h1 ρ1 H1 _ e1 R1 ((r.ext e1).set v1)⟩
noncomputable def aby (i j:Nat)(c:rK):Sm:=λτ S=>.of (c τ S) λas S1=>match as with
 | [a,b]=>.nx ((τ.set i a).set j b) S1
 | _=>.no
noncomputable def abK (a b:A)(S:jK):R A:=match a,b with
 | .int i,.int j=>.ok (.int (i+j)) S
 | _,_=>.no
noncomputable def aaC (i:Nat)(f:A->A->jK->R A)(e:Ex):Sm:=λτ S=>if (τ.getD i .unb).qu then .no else .of (e τ S) λb S1=>.of (f (τ.getD i .unb) b S1) λc S2=>.nx (τ.set i c) S2
noncomputable def TL (a b:A)(S:jK):R A:=match a,b with
 | .ref n,.int i=>opt (jG S n) λxs=>gd (0<=i) (opt (xs[i.toNat]?) λx=>.ok x S)
 | _,_=>.no
noncomputable def Ze (co ci ce:Ex)(f:A->A->jK->R A):Sm:=λτ S=>.of (co τ S) λo S1=>.of (ci τ S1) λi S2=>.of (TL o i S2) λx S3=>.of (ce τ S3) λy S4=>.of (f x y S4) λz S5=>.of (FT o i z S5) λ_ S6=>.nx τ S6
noncomputable def nW (t:Te)(c:Sm):Nat->Sm
 | 0=>λ_ _=>.no
 | n+1=>λτ S=>.of (t τ S) λb S1=>match b with
  | false=>.nx τ S1
  | true=>match c τ S1 with
   | .nx τ' S'=>nW t c n τ' S'
   | .ct τ' S'=>nW t c n τ' S'
   | .bk τ' S'=>.nx τ' S'
   | r=>r
def Gf(n:Nat){t:Te}(hp:PassesOwn (model X.prog X.w) X.A X.env X.xe)(ht:AT X e t)(hb:RX X body c):AS X (.While e body [] pos) (nW t c n):=PS.imp (Np hp ht hb) λD σ H h9=>by
 room;refine⟨λm σ' H'=>∃ρ' S' τ',Ext ρ ρ' H H'/\Rel X.K ρ' H' S'/\SR X.K ρ' H' τ' σ'/\DS X ρ' H' D (nW t c m τ' S'),⟨n,ρ,S,τ,.refl,R,r,h⟩,?_⟩;rintro m σ1 H1 ⟨ρ1,S1,τ1,e1,R1,r1,h1⟩
 cases m with
 | zero=>exact h1.elim
 | succ m=>
  refine⟨ρ1,S1,τ1,R1,r1,jN (of_post h1) .refl λb S2 h2 ρ2 H2 e2 R2=>?_⟩
  cases b with
  | false=>rw[aK bH];exact h2 ρ2 H2 σ1 e2 R2 (r1.ext e2)
  | true=>
   rw[aM rfl];refine⟨λσ' H'=>∃ρ' S' τ',Ext ρ ρ' H H'/\Rel X.K ρ' H' S'/\SR X.K ρ' H' τ' σ'/\DS X ρ' H' D (nW t c m τ' S'),λσ' H' z=>⟨m,fP _,z⟩,ρ2,S2,τ1,R2,r1.ext e2,?_⟩;have h2:DS X ρ1 H1 D (match c τ1 S2 with
    | .nx τ' S'=>nW t c m τ' S'
    | .ct τ' S'=>nW t c m τ' S'
    | .bk τ' S'=>.nx τ' S'
    | r=>r):=h2
   cases hc:c τ1 S2 with
   | nx τ3 S3=>rw[hc]at h2;exact λρ3 H3 σ3 e3 R3 r3=>⟨ρ3,S3,τ3,(e1.trans e2).trans e3,R3,r3,DS.ext h2 (e2.trans e3)⟩
   | ct τ3 S3=>rw[hc]at h2;exact λρ3 H3 σ3 e3 R3 r3=>⟨ρ3,S3,τ3,(e1.trans e2).trans e3,R3,r3,DS.ext h2 (e2.trans e3)⟩
   | bk τ3 S3=>rw[hc]at h2;exact NL.ext h2 e2
   | rt a S3=>rw[hc]at h2;exact Cr.ext h2 e2
   | ex x S3=>rw[hc]at h2;exact XE.ext h2 e2
   | no=>rw[hc]at h2;exact h2
end
structure Src where
 k:Nat
 get:Nat->jK->Option A
 fin:jK->Bool
structure JR (K:au)(s:Src)(J:It)(ρ0:bb)(H0:Hp):Prop where
 go:∀(i:Nat) (S:jK) (H:Hp) (ρ:bb) (x:A),Ext0 ρ0 ρ H0 H->Rel K ρ H S->s.get i S=some x->J.go i H/\∀v H',J.yld i H v H'->Ext ρ ρ H H'/\Rel K ρ H' S/\AV K ρ H' x v
 stop:∀(S:jK) (H:Hp) (ρ:bb),Ext0 ρ0 ρ H0 H->Rel K ρ H S->s.fin S=true->J.stop s.k H
noncomputable abbrev Ic:=ae->jK->R Src
noncomputable def tI (X:Cx)(c:Ic):TI:=λσ H Q=>∃ρ S τ,Rel X.K ρ H S/\SR X.K ρ H τ σ/\(c τ S).post (λs S'=>∀ρ' H' J,Ext ρ ρ' H H'->Rel X.K ρ' H' S'->JR X.K s J ρ' H'->Q J H') (XE X ρ H)
noncomputable def AI (X:Cx)(tg iter:aC)(c:Ic):Prop:=PI X tg iter (tI X c)
noncomputable def tN (xs:ae):Src:=⟨xs.length,λi _=>xs[i]?,λ_=>true⟩
noncomputable def lA (n k:Nat):Src:=⟨k,λi S=>(jG S n).bind (·[i]?),λS=>match jG S n with
 | some ys=>decide (ys.length<=k)
 | none=>false⟩
noncomputable def uK (lo hi:Int):Src:=⟨(hi-lo).toNat,λi _=>if i<(hi-lo).toNat then some (.int (lo+i))else none,λ_=>true⟩
noncomputable def m9 (c:Ex):Ic:=λτ S=>(c τ S).bind λa S1=>match a with
 | .tup xs=>.ok (tN xs) S1
 | .frz xs=>.ok (tN xs) S1
 | .ref n=>opt (jG S1 n) λxs=>.ok (lA n xs.length) S1
 | .str x=>gd (x.cps.all (· < 128)=true) (.ok (tN (x.cps.toList.map λc=>.str ⟨#[c]⟩)) S1)
 | _=>.no
section
variable {X:Cx}{pos:Pos}{tg e a b:aC}
def We{K:au}{H0:Hp}{p:ak}(h:ni K H0 p vs)(r:AVs K ρ0 H0 xs vs):JR K (tN xs) (Y3 K p) ρ0 H0 where
 go:=λi S H ρ x e R g=>by
  obtain⟨v,ev,av⟩:=(AVs.oE e r).get g;have hs:=e.sqT h;refine⟨⟨vs,v,hs,ev⟩,λw H' ⟨e1,y⟩=>?_⟩;subst e1;have:=y vs hs;rw[ev]at this
  cases this
  exact⟨.refl,R,av⟩
 stop:=λS H ρ e R _=>⟨vs,e.sqT h,by rw[<- r.length];exact aO _⟩
def Yz{K:au}{H0:Hp}{p:ak}(h:Fz K H0 p vs)(r:AVs K ρ0 H0 xs vs):JR K (tN xs) (Itl K p) ρ0 H0 where
 go:=λi S H ρ x e R g=>by
  obtain⟨v,ev,av⟩:=(AVs.oE e r).get g;have hs:=(e.fz h).RK;refine⟨⟨vs,v,hs,ev⟩,λw H' ⟨e1,y⟩=>?_⟩;subst e1;have:=y vs hs;rw[ev]at this
  cases this
  exact⟨.refl,R,av⟩
 stop:=λS H ρ e R _=>⟨vs,(e.fz h).RK,by rw[<- r.length];exact aO _⟩
def X3{K:au}{ρ0:bb}{H0:Hp}{p:ak}{n k:Nat}(h:ρ0[n]?=some p):JR K (lA n k) (Itl K p) ρ0 H0 where
 go:=λi S H ρ x e R g=>by
  obtain⟨ys,hn,hx⟩:=cE.mp (show(jG S n).bind (·[i]?)=some x from g);obtain⟨vs,h1,r⟩:=R.lst (e.get h) (jX hn);obtain⟨v,ev,av⟩:=r.get hx;refine⟨⟨vs,v,pL.of h1,ev⟩,λw H' ⟨e1,y⟩=>?_⟩;subst e1;have:=y vs (pL.of h1);rw[ev]at this
  cases this
  exact⟨.refl,R,av⟩
 stop:=λS H ρ e R g=>by
  have g:(match jG S n with
   | some ys=>decide (ys.length<=k)
   | none=>false)=true:=g
  cases hn:jG S n with
  | none=>rw[hn]at g;cases g
  | some ys=>
   rw[hn]at g;obtain⟨vs,h1,r⟩:=R.lst (e.get h) (jX hn);exact⟨vs,pL.of h1,by rw[<- r.length];exact bV g⟩
def Rt{K:au}{H0:Hp}{lo hi:Int}:JR K (uK lo hi) (Itr lo (hi-lo).toNat) ρ0 H0 where
 go:=λi S H ρ x e R g=>by
  have g:(if i<(hi-lo).toNat then some (A.int (lo+i))else none)=some x:=g;by_cases hi':i<(hi-lo).toNat
  ·rw[aM hi']at g
   cases g
   refine⟨hi',λw H' ⟨e1,y⟩=>?_⟩;subst e1 y;exact⟨.refl,R,.int _⟩
  ·rw[aK hi']at g;cases g
 stop:=λS H ρ e R _=>aO _
def W9{K:au}{H0:Hp}{x:Str}:JR K (tN (x.cps.toList.map λc=>A.str ⟨#[c]⟩)) (Its x) ρ0 H0 where
 go:=λi S H ρ y e R g=>by
  have g:(x.cps.toList.map λc=>A.str ⟨#[c]⟩)[i]?=some y:=g;rw[aQ]at g;obtain⟨c,hc,rfl⟩:=aX.mp g;rw[eW]at hc;refine⟨(Array.getElem?_eq_some_iff.mp hc).1,λw H' ⟨e1,c',hc',y'⟩=>?_⟩;rw[hc]at hc'
  cases hc'
  subst e1 y';exact⟨.refl,R,.str _⟩
 stop:=λS H ρ e R _=>by
  show(x.cps.toList.map λc=>A.str ⟨#[c]⟩).length=x.cps.size;rw[aH,dN]
def mF{c:Ex}(he:AE X e c):AI X tg e (m9 c):=λpins s σ H Q I h9=>by
 room;have hb:=jP h
 cases hc:c τ S with
 | no=>rw[hc]at hb;exact hb.elim
 | ex x S1=>
  rw[hc]at hb;exact OO he pins s σ H Q I ⟨ρ,S,τ,R,r,by rw[hc];exact hb⟩
 | ok a S1=>
  rw[hc]at hb
  cases a with
  | tup xs=>
   refine OO he pins s σ H Q I ⟨ρ,S,τ,R,r,?_⟩;rw[hc];intro ρ1 H1 x e1 R1 v1
   cases v1 with
   | tup h1 r1=>exact⟨_,rfl,⟨_,(ni.of h1)⟩,hb ρ1 H1 _ e1 R1 (We (ni.of h1) r1)⟩
  | frz xs=>
   refine Lr he pins s σ H Q I ⟨ρ,S,τ,R,r,?_⟩;rw[hc];intro ρ1 H1 x e1 R1 v1
   cases v1 with
   | frz h1 r1=>exact⟨_,rfl,⟨_,h1.RK⟩,hb ρ1 H1 _ e1 R1 (Yz h1 r1)⟩
  | ref n=>
   obtain⟨xs,hn,hb⟩:=jQ hb;refine Lr he pins s σ H Q I ⟨ρ,S,τ,R,r,?_⟩;rw[hc];intro ρ1 H1 x e1 R1 v1
   cases v1 with
   | ref hp=>
    obtain⟨vs,h1,r1⟩:=R1.lst hp (jX hn);exact⟨_,rfl,⟨_,pL.of h1⟩,hb ρ1 H1 _ e1 R1 (X3 hp)⟩
  | str x=>
   obtain⟨ha,hb⟩:=kC hb;refine Ys he pins s σ H Q I ⟨ρ,S,τ,R,r,?_⟩;rw[hc];intro ρ1 H1 v e1 R1 v1
   cases v1 with
   | str=>exact⟨x,rfl,ha,hb ρ1 H1 _ e1 R1 W9⟩
  | _=>exact hb.elim
noncomputable def bnd (i:Int):Prop:=-(2 ^ 62)<=i/\i<2 ^ 62
instance (i:Int):Decidable (bnd i):=by unfold bnd;infer_instance
noncomputable def se (c:Ex):Ic:=λτ S=>(c τ S).bind λa S1=>match a with
 | .int j=>gd (bnd j) (.ok (uK 0 j) S1)
 | _=>.no
noncomputable def AK (c d:Ex):Ic:=λτ S=>(c τ S).bind λa S1=>(d τ S1).bind λb S2=>match a,b with
 | .int i,.int j=>gd (bnd i/\bnd j) (.ok (uK i j) S2)
 | _,_=>.no
def qd{p:Pos}{c:Ex}(hm:X.mg "range" = none)(ha:AE X a c)(hg:Gl X "range" := by rfl)(hs:starEach [a] X.env=[(false,eval a X.env)]:=by rfl):AI X tg (.Call (.Name "range" p) [a] [] pos) (se c):=λpins s σ H Q I h9=>by
 room;refine MH hg hm (vM ha AN hs) hs pins s σ H Q I ⟨ρ,S,τ,R,r,jN (jP h) .refl λx S1 h1 ρ1 H1 v e1 R1 v1=>?_⟩
 cases v1 with
 | int j=>
  obtain⟨hb,h1⟩:=kC h1;exact⟨_,rfl,hb.1,hb.2,by have:=h1 ρ1 H1 _ e1 R1 Rt;rwa [Int.sub_zero]at this⟩
 | _=>exact h1.elim
def Ma{p:Pos}{c d:Ex}(hm:X.mg "range" = none)(ha:AE X a c)(hb:AE X b d)(hg:Gl X "range" := by rfl)(hs:starEach [a,b] X.env=[(false,eval a X.env),(false,eval b X.env)]:=by rfl)(hs2:starEach [b] X.env=[(false,eval b X.env)]:=by rfl):AI X tg (.Call (.Name "range" p) [a,b] [] pos) (AK c d):=λpins s σ H Q I h9=>by
 room;refine LP hg hm (vM ha (vM hb AN hs2) (by rw[hs,hs2])) hs hs2 pins s σ H Q I ⟨ρ,S,τ,R,r,jN (jP h) .refl λx S1 h1 ρ1 H1 v e1 R1 v1=>⟨ρ1,S1,τ,R1,r.ext e1,jN (jP h1) e1 λy S2 h2 ρ2 H2 w e2 R2 v2=>?_⟩⟩
 cases v1 with
 | int i=>
  cases v2 with
  | int j=>
   obtain⟨hb,h2⟩:=kC h2;exact⟨_,_,rfl,⟨hb.1.1,hb.1.2,hb.2.1,hb.2.2⟩,h2 ρ2 H2 _ (e1.trans e2) R2 Rt⟩
  | _=>exact h2.elim
 | _=>exact h2.elim
noncomputable def Ga (xs:ae):Src:=⟨xs.length,λi _=>(xs[i]?).map λx=>.tup [.int i,x],λ_=>true⟩
noncomputable def Ss (c:Ex):Ic:=λτ S=>(c τ S).bind λa S1=>match a with
 | .tup xs=>.ok (Ga xs) S1
 | _=>.no
def YT{K:au}{H0:Hp}{p:ak}(h:ni K H0 p vs)(r:AVs K ρ0 H0 xs vs):JR K (Ga xs) (Ite K p) ρ0 H0 where
 go:=λi S H ρ x e R g=>by
  obtain⟨y,hy,rfl⟩:=aX.mp (show(xs[i]?).map (λx=>A.tup [.int i,x])=some x from g);obtain⟨v,ev,av⟩:=(AVs.oE e r).get hy;have hs:=e.sqT h;refine⟨⟨vs,v,hs,ev⟩,λw H' q=>?_⟩;obtain⟨pp,hp,rfl,hz⟩:=q;have hz':=hz vs v hs ev;subst hz';obtain⟨ex,R'⟩:=R.im (u:=.tup [.int i,v]) hp;exact⟨ex,R',.tup lU (.cons (.int _) (.cons (av.ext ex) .nil))⟩
 stop:=λS H ρ e R _=>⟨vs,e.sqT h,by rw[<- r.length];rfl⟩
def Xl{p:Pos}{c:Ex}(hm:X.mg "enumerate" = none)(ha:AE X a c)(hg:Gl X "enumerate" := by rfl)(hs:starEach [a] X.env=[(false,eval a X.env)]:=by rfl):AI X (.Tuple elts x1 tpos) (.Call (.Name "enumerate" p) [a] [] pos) (Ss c):=λpins s σ H Q I h9=>by
 room;refine MZ hg hm (vM ha AN hs) hs pins s σ H Q I ⟨ρ,S,τ,R,r,jN (jP h) .refl λx S1 h1 ρ1 H1 v e1 R1 v1=>?_⟩
 cases v1 with
 | tup h2 r2=>exact⟨_,_,rfl,(ni.of h2),h1 ρ1 H1 _ e1 R1 (YT (ni.of h2) r2)⟩
 | _=>exact h1.elim
noncomputable def qT (s:Src)(g:Tg)(c:Sm):Nat->Nat->Sm
 | 0,_=>λτ S=>if s.fin S then .nx τ S else .no
 | k+1,i=>λτ S=>match s.get i S with
  | none=>.no
  | some x=>.of (g x τ S) λτ1 S1=>match c τ1 S1 with
   | .nx τ' S'=>qT s g c k (i+1) τ' S'
   | .ct τ' S'=>qT s g c k (i+1) τ' S'
   | .bk τ' S'=>.nx τ' S'
   | r=>r
noncomputable def lX (src:Ic)(g:Tg)(c:Sm):Sm:=λτ S=>.of (src τ S) λs S1=>qT s g c s.k 0 τ S1
def mY{iter:aC}{src:Ic}{g:Tg}{c:Sm}(hp:PassesOwn (model X.prog X.w) X.A X.env X.xe)(hc:X.calm=true)(hi:AI X tg iter src)(hg:AG X tg g)(hb:RX X body c)
  (hs:∀x,foldedSetIterable iter X.env x=pure x:=by intro _;rfl):AS X (.For tg iter body [] pos) (lX src g c):=PS.imp (Yu hp hc hi hg hb hs) λD σ H h9=>by
 room;refine⟨ρ,S,τ,R,r,jN (of_post h) .refl λs S1 h1 ρ1 H1 J e1 R1 jr=>?_⟩;refine⟨λi m σ' H'=>m+i=s.k/\∃ρ' S' τ',Ext ρ1 ρ' H1 H'/\Rel X.K ρ' H' S'/\SR X.K ρ' H' τ' σ'/\DS X ρ' H' D (qT s g c m i τ' S'),⟨s.k,rfl,ρ1,S1,τ,.refl,R1,r.ext e1,DS.ext h1 e1⟩,?_⟩;rintro i m σ2 H2 ⟨hm,ρ2,S2,τ2,e2,R2,r2,h2⟩
 cases m with
 | zero=>
  left;have h2:DS X ρ2 H2 D (if s.fin S2 then .nx τ2 S2 else .no):=h2
  cases hf:s.fin S2 with
  | false=>rw[hf]at h2;exact h2.elim
  | true=>
   rw[hf]at h2;refine⟨by rw[show i=s.k by lia];exact jr.stop S2 H2 ρ2 e2.toExt0 R2 hf,h2 ρ2 H2 σ2 .refl R2 r2⟩
 | succ m=>
  right;have h2:DS X ρ2 H2 D (match s.get i S2 with
   | none=>.no
   | some x=>.of (g x τ2 S2) λτ1 S1=>match c τ1 S1 with
    | .nx τ' S'=>qT s g c m (i+1) τ' S'
    | .ct τ' S'=>qT s g c m (i+1) τ' S'
    | .bk τ' S'=>.nx τ' S'
    | r=>r):=h2
  cases hx:s.get i S2 with
  | none=>rw[hx]at h2;exact h2.elim
  | some x=>
   rw[hx]at h2;obtain⟨hgo,hy⟩:=jr.go i S2 H2 ρ2 x e2.toExt0 R2 hx;refine⟨hgo,λσ' H'=>m+(i+1)=s.k/\∃ρ' S' τ',Ext ρ1 ρ' H1 H'/\Rel X.K ρ' H' S'/\SR X.K ρ' H' τ' σ'/\DS X ρ' H' D (qT s g c m (i+1) τ' S'),λσ' H' z=>⟨m,fP _,z⟩,λv H3 y=>?_⟩;obtain⟨e3,R3,v3⟩:=hy v H3 y;refine⟨ρ2,S2,τ2,x,R3,r2.ext e3,v3,jN (of_post h2) e3 λτ4 S4 h4 ρ4 H4 σ4 e4 R4 r4=>⟨ρ4,S4,τ4,R4,r4,?_⟩⟩;have e24:=e3.trans e4
   cases hcc:c τ4 S4 with
   | nx τ5 S5=>rw[hcc]at h4;exact λρ5 H5 σ5 e5 R5 r5=>⟨(),ρ5,S5,τ5,(e2.trans e24).trans e5,R5,r5,DS.ext h4 (e24.trans e5)⟩
   | ct τ5 S5=>rw[hcc]at h4;exact λρ5 H5 σ5 e5 R5 r5=>⟨(),ρ5,S5,τ5,(e2.trans e24).trans e5,R5,r5,DS.ext h4 (e24.trans e5)⟩
   | bk τ5 S5=>rw[hcc]at h4;exact NL.ext h4 e24
   | rt x5 S5=>rw[hcc]at h4;exact Cr.ext h4 e24
   | ex x5 S5=>rw[hcc]at h4;exact XE.ext h4 e24
   | no=>rw[hcc]at h4;exact h4
end
noncomputable def R.ud {α β:Type}(r:R α)(f:α->jK->R β):R β:=match r with
 | .ok a S=>f a S
 | _=>.no
def ye{α β:Type}{r:R α}{f:α->jK->R β}{b:β}(h:r.ud f=.ok b S2):∃a S,r=.ok a S/\f a S=.ok b S2:=by
 cases r with
 | ok a S=>exact⟨a,S,rfl,h⟩
 | ex _ _=>cases h
 | no=>cases h
def Hv{α β:Type}{r:R α}{f:α->jK->R β}{P:β->jK->Prop}{E:Str->jK->Prop}(h:(r.ud f).post P E):∃a S,r=.ok a S/\(f a S).post P E:=by
 cases r with
 | ok a S=>exact⟨a,S,rfl,h⟩
 | ex _ _=>exact h.elim
 | no=>exact h.elim
def WI{α β:Type}{o:Option β}{f:β->R α}{a:α}(h:opt o f=.ok a S):∃b,o=some b/\f b=.ok a S:=by
 cases o with
 | none=>cases h
 | some b=>exact⟨b,rfl,h⟩
noncomputable def nE (s:Src)(g:Tg)(t:Te)(e:Ex):Nat->Nat->ae->jK->R (ae)
 | 0,_=>λ_ S=>if s.fin S then .ok [] S else .no
 | k+1,i=>λτ S=>opt (s.get i S) λx=>(g x τ S).ud λτ1 S1=>(t τ1 S1).ud λb S2=>match b with
  | true=>(e τ1 S2).ud λy S3=>(nE s g t e k (i+1) τ1 S3).ud λys S4=>.ok (y::ys) S4
  | false=>nE s g t e k (i+1) τ1 S2
noncomputable def lN (cap:List (Option Nat))(τ:ae):ae:=cap.map λo=>match o with
 | some j=>τ.getD j .unb
 | none=>.unb
noncomputable def kZ (cap:List (Option Nat))(src:Ic)(g:Tg)(t:Te)(e:Ex):Ex:=λτ S=>(src τ S).bind λs S1=>(nE s g t e s.k 0 (lN cap τ) S1).ud λys S2=>newL ys S2
noncomputable def qN:Te:=λ_ S=>.ok true S
def F7{s:Src}{g:Tg}{t:Te}{e:Ex}{k:Nat}(h:nE s g t e (k+1) i τ S=.ok zs S') :
  ∃x τ1 S1 b S2,s.get i S=some x/\g x τ S=.ok τ1 S1/\t τ1 S1=.ok b S2/\(b=true->∃y S3 ws,e τ1 S2=.ok y S3/\nE s g t e k (i+1) τ1 S3=.ok ws S'/\zs=y::ws)/\(b=false->nE s g t e k (i+1) τ1 S2=.ok zs S'):=by
 obtain⟨x,hx,h⟩:=WI h;obtain⟨τ1,S1,h1,h⟩:=ye h;obtain⟨b,S2,h2,h⟩:=ye h;refine⟨x,τ1,S1,b,S2,hx,h1,h2,λhb=>?_,λhb=>?_⟩
 ·subst hb;obtain⟨y,S3,h3,h⟩:=ye h;obtain⟨ws,S4,h4,h⟩:=ye h
  cases h
  exact⟨y,S3,ws,h3,h4,rfl⟩
 ·subst hb;exact h
noncomputable def tE0 (K:au)(c:Ex):TE:=λσ H Q=>∃ρ S τ a S',Rel K ρ H S/\SR K ρ H τ σ/\c τ S=.ok a S'/\∀ρ' H' v,Ext ρ ρ' H H'->Rel K ρ' H' S'->AV K ρ' H' a v->Q v H'
noncomputable def tT0 (K:au)(c:Te):TT:=λσ H Q=>∃ρ S τ a S',Rel K ρ H S/\SR K ρ H τ σ/\c τ S=.ok a S'/\∀ρ' H',Ext ρ ρ' H H'->Rel K ρ' H' S'->Q a H'
noncomputable def tG0 (K:au)(g:Tg):TG:=λv σ H Q=>∃ρ S τ a τ' S',Rel K ρ H S/\SR K ρ H τ σ/\AV K ρ H a v/\g a τ S=.ok τ' S'/\∀ρ' H' σ',Ext ρ ρ' H H'->Rel K ρ' H' S'->SR K ρ' H' τ' σ'->Q σ' H'
section
variable {X:Cx}{pos:Pos}{tg iter elt e:aC}{ifs:List aC}{scope:Scope}{N:ar}{cap:List (Option Nat)}{src:Ic}{g:Tg}{t:Te}{c:Ex}
def AE.e0{K:au}(hK:X.K=K)(h:AE X e c):PE X e (tE0 K c):=PE.imp h λσ H Q ⟨ρ,S,τ,a,S',R,r,hc,q⟩=>⟨ρ,S,τ,by rw[hK];exact R,by rw[hK];exact r,by rw[hc];exact λρ' H' v e R' v'=>q ρ' H' v e (by rw[<- hK];exact R') (by rw[<- hK];exact v')⟩
def AT.t0{K:au}(hK:X.K=K)(h:AT X e t):PT X e (tT0 K t):=PT.imp h λσ H Q ⟨ρ,S,τ,a,S',R,r,hc,q⟩=>⟨ρ,S,τ,by rw[hK];exact R,by rw[hK];exact r,by rw[hc];exact λρ' H' e R'=>q ρ' H' e (by rw[<- hK];exact R')⟩
def AG.g0{K:au}(hK:X.K=K)(h:AG X e g):PG X e (tG0 K g):=PG.imp h λv σ H Q ⟨ρ,S,τ,a,τ',S',R,r,va,hc,q⟩=>⟨ρ,S,τ,a,by rw[hK];exact R,by rw[hK];exact r,by rw[hK];exact va,by rw[hc];exact λρ' H' v e R' v'=>q ρ' H' v e (by rw[<- hK];exact R') (by rw[<- hK];exact v')⟩
noncomputable def ATs (X:Cx)(ifs:List aC)(t:Te):Prop:=YX X ifs (tT0 X.K t)
def sO:ATs X [] qN:=λpins s σ H Q I ⟨ρ,S,τ,a,S',R,r,hc,q⟩=>Ue pins s σ H Q I (by cases hc;exact q ρ H .refl R)
def EG(h:AT X e t):ATs X [e] t:=Ug (h.t0 rfl)
def Zb{K:au}{H:Hp}(r:SR K ρ H τ σ)(cap:List (Option Nat)):SR K ρ H (lN cap τ) (cap.map (WQ σ)):=by
 refine⟨by simp[lN],λi a h=>?_⟩;unfold lN at h;rw[aQ]at h;obtain⟨o,ho,e⟩:=aX.mp h
 cases o with
 | none=>exact .inl e.symm
 | some j=>
  have e:τ.getD j .unb=a:=e
  cases hj:τ[j]? with
  | none=>rw[aI,hj]at e;exact .inl e.symm
  | some b=>
   rw[aI,hj]at e;have e:b=a:=e;subst e
   rcases r.at j b hj with z|⟨v,h1,h2⟩
   ·exact .inl z
   ·exact .inr ⟨v,by rw[aQ,ho];show some ((σ[j]?).getD none)=_;rw[h1];rfl,h2⟩
def Rel.NT{K:au}{H:Hp}{p:ak}(R:Rel K ρ H S)(hp:H p=none):p∉ρ:=λhm=>by
 obtain⟨n,hn,e⟩:=List.mem_iff_getElem.mp hm;have hl:n<S.length:=by rw[<- R.len];exact hn
 have:=R.at n p S[n] (by rw[aF hn,e]) (aF hl)
 cases ho:S[n]with
 | lst xs=>rw[ho]at this;obtain⟨vs,h,_⟩:=this;rw[hp]at h;cases h
 | dct _|rQ _=>rw[ho]at this;obtain⟨vs,h,_⟩:=this;rw[hp]at h;cases h
 | ins _ _=>rw[ho]at this;obtain⟨_,_,h⟩:=this;rw[hp]at h;cases h
def Qq(σ:L2.St)(H:Hp)(Q:VK)(h:tE X (kZ cap src g t c) σ H Q):tLC cap (tI X src) (tG0 X.K g) (tT0 X.K t) (tE0 X.K c) σ H Q:=by
 obtain⟨ρ,S,τ,R,r,h⟩:=h;refine⟨ρ,S,τ,R,r,jN (jP h) .refl λs S1 h1 ρ1 H1 J e1 R1 jr D hD=>?_⟩;obtain⟨ys,S2,hcg,h1⟩:=Hv h1;obtain⟨hlen,h1⟩:=kC h1;have h1:Cr X ρ H Q (.ref S2.length) (S2++[.lst ys]):=h1;obtain⟨eD,RD⟩:=R1.im (u:=.lst []) hD;have nD:=R1.NT hD;refine⟨λi m σ' H'=>m+i=s.k/\∃ρ' S' τ' acc zs accV,Ext0 ρ1 ρ' H1 H'/\(∀a u,a≠D->H1 a=some u->a∉ρ1->H' a=some u)/\(∀a∈ρ',a∈ρ1\/H1 a=none)/\D∉ρ'/\H' D=some (.lst accV)/\Rel X.K ρ' H' S'/\SR X.K ρ' H' τ' σ'/\AVs X.K ρ' H' acc accV/\nE s g t c m i τ' S'=.ok zs S2/\acc++zs=ys,
  ⟨s.k,rfl,ρ1,S1,lN cap τ,[],ys,[],eD.toExt0,λa u na hu _=>by rw[jU na];exact hu,λa ha=>.inl ha,nD,lU,RD,(Zb ((r.ext e1).ext eD) cap),.nil,hcg,rfl⟩,?_⟩
 rintro i m σ3 H3 ⟨hm,ρ3,S3,τ3,acc,zs,accV,e3,fr3,nw3,nD3,hD3,R3,r3,ac3,cg3,eys⟩
 cases m with
 | zero=>
  left;have cg3:(if s.fin S3 then Am.R.ok [] S3 else .no)=.ok zs S2:=cg3
  cases hf:s.fin S3 with
  | false=>rw[hf]at cg3;cases cg3
  | true=>
   rw[hf]at cg3
   cases cg3
   rw[cG]at eys;subst eys;refine⟨by rw[show i=s.k by lia];exact jr.stop _ H3 ρ3 e3 R3 hf,?_⟩;obtain⟨RT,gt⟩:=R3.take hD3 nD3 ac3;refine h1 (ρ3++[D]) H3 _ (e1.trans ⟨⟨e3.pre.trans (fX _ _),e3.im⟩,λa u hu na=>fr3 a u (j8 hu hD) hu na,λa ha=>?_⟩) RT (.ref gt)
   rcases bE.mp ha with z|z
   ·exact nw3 a z
   ·have:a=D:=by simpa using z
    rw[this];exact .inr hD
 | succ m=>
  right;obtain⟨x,τ4,S4,b,S5,hx,hg4,ht5,hT,hF⟩:=F7 cg3;obtain⟨hgo,hy⟩:=jr.go i S3 H3 ρ3 x e3 R3 hx;refine⟨hgo,λv H4 y=>?_⟩;obtain⟨e4,R4,v4⟩:=hy v H4 y;refine⟨ρ3,S3,τ3,x,τ4,S4,R4,r3.ext e4,v4,hg4,λρ5 H5 σ5 e5 R5 r5=>?_⟩;refine⟨ρ5,S4,τ4,b,S5,R5,r5,ht5,λρ6 H6 e6 R6=>?_⟩;have e36:=(e4.trans e5).trans e6;have stay:∀{ρ7:bb} {H7:Hp},Ext ρ3 ρ7 H3 H7->Ext0 ρ1 ρ7 H1 H7/\(∀a u,a≠D->H1 a=some u->a∉ρ1->H7 a=some u)/\(∀a∈ρ7,a∈ρ1\/H1 a=none)/\D∉ρ7/\H7 D=some (.lst accV):=λ{ρ7 H7} e7=>by
   refine⟨⟨e3.pre.trans e7.pre,λa u i h=>e7.im a u i (e3.im a u i h)⟩,λa u na hu nr=>e7.fr a u (fr3 a u na hu nr) λz=>(nw3 a z).elim nr λz=>by(rw[z]at hu;cases hu),λa ha=>?_,λz=>(e7.nw D z).elim nD3 λz=>by(rw[hD3]at z;cases z),e7.fr D _ hD3 nD3⟩;by_cases hr:a∈ρ1
   ·exact .inl hr
   ·right
    cases q:H1 a with
    | none=>rfl
    | some u=>
     have aD:a≠D:=j8 q hD
     rcases e7.nw a ha with z|z
     ·exact((nw3 a z).elim hr λz=>by(rw[z]at q;cases q)).elim
     ·rw[fr3 a u aD q hr]at z;cases z
  cases b with
  | false=>
   dsimp only;rw[aK bH];obtain⟨g1,g2,g3,g4,g5⟩:=stay e36;exact⟨m,fP _,(),ρ6,S5,τ4,acc,zs,accV,g1,g2,g3,g4,g5,R6,r5.ext e6,ac3.ext e36,hF rfl,eys⟩
  | true=>
   dsimp only;rw[aM rfl];obtain⟨y,S6,ws,he6,cg6,ezs⟩:=hT rfl;refine⟨ρ6,S5,τ4,y,S6,R6,r5.ext e6,he6,λρ7 H7 w e7 R7 v7=>?_⟩;obtain⟨g1,g2,g3,g4,g5⟩:=stay (e36.trans e7);obtain⟨ex8,R8⟩:=R7.out (ws:=accV++[w]) g5 g4;have l1:=ac3.length;refine⟨accV,g5,?_,m,fP _,(),ρ7,S6,τ4,acc++[y],ws,accV++[w],?_,λa u na hu nr=>by rw[jU na];exact g2 a u na hu nr,g3,g4,lU,R8,(r5.ext (e6.trans e7)).oE ex8,(AVs.oE ex8 ((ac3.ext (e36.trans e7)).append (.one v7))),cg6,?_⟩
   ·have:(acc++zs).length<=sizeLine:=by rw[eys];exact hlen
    rw[ezs,aR,bg]at this;lia
   ·exact⟨g1.pre,λa u i h=>ex8.im a u i (g1.im a u i h)⟩
   ·rw[cu,<- eys,ezs];rfl
def o5(hc:X.calm=true)(Sc:CpScope X scope N cap)(hi:AI X tg iter src)(hg:∀C s₀ H₀ ex,AG (qM X scope N C s₀ H₀ ex) tg g)(ht:∀C s₀ H₀ ex,ATs (qM X scope N C s₀ H₀ ex) ifs t)(he:∀C s₀ H₀ ex,AE (qM X scope N C s₀ H₀ ex) elt c)
  (hs:∀x,foldedSetIterable iter X.env x=pure x:=by intro _;rfl):AE X (.ListComp elt [⟨tg,iter,ifs,0⟩] scope pos) (kZ cap src g t c):=
 PE.imp (aau hc Sc hi (g:=tG0 X.K g) (tc:=tT0 X.K t) (te:=tE0 X.K c) (λC s₀ H₀ ex=>(hg C s₀ H₀ ex).g0 rfl) (λC s₀ H₀ ex=>ht C s₀ H₀ ex) (λC s₀ H₀ ex=>(he C s₀ H₀ ex).e0 rfl) hs) Qq
end
noncomputable def A.lst? (S:jK):A->Option (ae)
 | .ref n=>jG S n
 | _=>none
noncomputable def Uc (f:A->ae->jK->R A)(co:Ex)(d:rK):Ex:=λτ S=>(co τ S).bind λo S1=>opt (o.lst? S1) λ_=>(d τ S1).bind λas S2=>f o as S2
noncomputable def abD (f:A->ae->jK->R A)(co:Ex):Ex:=λτ S=>(co τ S).bind λo S1=>opt (o.lst? S1) λ_=>f o [] S1
noncomputable def rM (X:Cx)(f:A->ae->jK->R A):V->List V->Hp->VK->Prop:=λx vs H Q=>∃ρ S o as,Rel X.K ρ H S/\AV X.K ρ H o x/\AVs X.K ρ H as vs/\(f o as S).post (Cr X ρ H Q) (XE X ρ H)
section
variable {X:Cx}{apos cpos:Pos}{o e:aC}{es:List aC}{name:Str}{id:String}{f:A->ae->jK->R A}{co:Ex}{d:rK}
def lst?_ty{K:au}{H:Hp}{x:A}{v:V}(R:Rel K ρ H S)(h:AV K ρ H x v)(e:x.lst? S=some xs):Y9 K "list" v H:=by
 cases h with
 | ref h=>
  obtain⟨vs,h1,_⟩:=R.lst h (jX e);exact .inl ⟨rfl,vs,pL.of h1⟩
 | _=>cases e
def CK(slot:Slot "list" name id)(hty:typeOf (.builtin id)=pure (.type "method_descriptor"))(hm:Vk X id (rM X f))(ho:AE X o co)(ha:AL X (e::es) d)
  (hbase:attributeBase o name X.env (eval o X.env)=eval o X.env:=by rfl)
  (hfew:((backTo cpos (starEach (e::es) X.env)).all (λx=>!x.1) && (backToKw cpos (keywordEach [] X.env)).all (λx=>x.1.isSome)
   && decide ((e::es).length+([]:List Keyword).length+(if ([]:List Keyword).isEmpty then 0 else 1)<30))=true:=by rfl)
  (hline:(apos.endLine == cpos.line)=true:=by rfl) (hs:starEach (e::es) X.env=(false,eval e X.env)::starEach es X.env:=by rfl) (hplain:(backTo cpos (starEach es X.env)).any (·.1)=false:=by rfl) :
  AE X (.Call (.Attribute o name apos) (e::es) [] cpos) (Uc f co d):=PE.imp (Nq PySem.F.plainAttrs_list slot hty hm ho ha hbase hfew hline hs hplain) λσ H Q h9=>by
 room;refine⟨ρ,S,τ,R,r,jN (jP h) .refl λx S1 h1 ρ1 H1 v e1 R1 v1=>?_⟩;obtain⟨xs,hx,h1⟩:=jQ h1;refine⟨lst?_ty R1 v1 hx,ρ1,S1,τ,R1,r.ext e1,jN (jP h1) e1 λas S2 h2 ρ2 H2 vs e2 R2 v2=>?_⟩;exact⟨ρ2,S2,x,as,R2,v1.ext e2,v2,jN h2 (e1.trans e2) λ_ _ z=>z.ext (e1.trans e2)⟩
noncomputable def qQ (o:A)(as:ae)(S:jK):R A:=match o,as with
 | .ref n,[x]=>opt (jG S n) λxs=>gd (xs.length<sizeLine) (.ok .non (S.set n (.lst (xs++[x]))))
 | _,_=>.no
def uP:Vk X "list.append" (rM X qQ):=λpins s σ H x vs v us Q I rx rv h9=>by
 obtain⟨ρ,S,o,as,R,vo,va,h⟩:=h9
 cases vo with
 | @ref p n hp=>
  match as,va,h with
  | [],_,h=>exact h.elim
  | _::_::_,_,h=>exact h.elim
  | [y],va,h=>
   obtain⟨w,rfl,hw⟩:=TX va;kd_p;obtain⟨hl,h⟩:=kC h;obtain⟨ws,h1,r⟩:=R.lst hp (jX hn);obtain⟨ex,R'⟩:=R.put hp (jX hn) (r.append (.one hw));exact Cs pins s σ H _ _ v us Q I rx rv ⟨p,ws,w,rfl,rfl,h1,by rw[<- r.length];exact hl,h _ _ _ ex R' .non⟩
 | _=>exact h.elim
noncomputable def Hf (o:A)(as:ae)(S:jK):R A:=match o,as with
 | .ref n,[.int i]=>opt (jG S n) λxs=>gd (-(2 ^ 63)<=i/\i<2 ^ 63) (opt (seqIndex? i xs.length) λk=>opt (xs[k]?) λx=>.ok x (S.set n (.lst (xs.eraseIdx k))))
 | _,_=>.no
def Ub:Vk X "list.pop" (rM X Hf):=λpins s σ H x vs v us Q I rx rv h9=>by
 obtain⟨ρ,S,o,as,R,vo,va,h⟩:=h9
 cases vo with
 | @ref p n hp=>
  match as,va,h with
  | [],_,h=>exact h.elim
  | y::_::_,_,h=>exact(by cases y<;>exact h.elim)
  | [y],va,h=>
   obtain⟨w,rfl,hw⟩:=TX va
   cases hw with
   | int i=>
    kd_p;obtain⟨hi,h⟩:=kC h;obtain⟨k,hk,h⟩:=jQ h;obtain⟨y,hy,h⟩:=jQ h;obtain⟨ws,h1,r⟩:=R.lst hp (jX hn);obtain⟨w,hw,vw⟩:=r.get hy;obtain⟨ex,R'⟩:=R.put hp (jX hn) (r.eraseIdx k);exact NJ pins s σ H _ _ v us Q I rx rv ⟨p,ws,i,k,w,rfl,rfl,h1,hi.1,hi.2,by rw[<- r.length];exact hk,hw,h _ _ _ ex R' (vw.ext ex)⟩
   | _=>exact h.elim
 | _=>exact h.elim
end
noncomputable def lV (N:ar)(m:Sm)(as:ae)(S:jK):R A:=match m (as++List.replicate (N.length-as.length) .unb) S with
 | .rt a S'=>.ok a S'
 | .nx _ S'=>.ok .non S'
 | .ex c S'=>.ex c S'
 | _=>.no
noncomputable def qJ (K:au)(n:Nat)(F:ae->jK->R A):Sp:=λvs H Q _=>vs.length=n/\∃ρ S as a S',Rel K ρ H S/\AVs K ρ H as vs/\F as S=.ok a S'/\∀ρ' H' v,Ext ρ ρ' H H'->Rel K ρ' H' S'->AV K ρ' H' a v->Q v H'
def UN{K:au}{H:Hp}{as:ae}(r:AVs K ρ H as vs)(N:ar):SR K ρ H (as++List.replicate (N.length-as.length) .unb) (L2.start N vs):=by
 have hl:=r.length;refine⟨by unfold L2.start;simp[hl],λi a h=>?_⟩;by_cases hi:i<as.length
 ·rw[bG hi]at h;obtain⟨v,hv,av⟩:=r.get h;exact .inr ⟨v,by unfold L2.start;rw[bG (by simp;lia),aQ,hv];rfl,av⟩
 ·rw[dJ (),List.getElem?_replicate]at h;split at h
  ·exact .inl (a_ h).symm
  ·cases h
section
variable {P:aj}{w:ah}{K:au}{mg:Str->Option af}{base:aq}
def uq{x:Str}{st:aE}{f:ak}{N ps:ar}{k:Nat}{m:Sm}(F:Fun K x qual st f fd)(Sc:FnScope N ps (jS st))
  (body:∀(cdv:af) (A:az) (outer:List Env) (s:aA) (H:Hp) (E:XK),Room k (A.deeper (envOfC qual (jS st) s.heap.objs.size f cdv))->RX (Ij pY P w K mg base N qual (jS st) f cdv A outer s H E).nox (qS st) m) :
  FnOk P w K mg base pY (k+1) f fd ps (qJ K ps.length (lV N m)):=by
 refine F.ok Sc (λvs H Q E h=>h.1) λcdv B outer s H vs Q E hr ⟨hl,ρ,S,as,a,S',R,va,hF,q⟩=>⟨_,body cdv B outer s H E hr,ρ,S,_,R,UN va N,?_⟩;unfold lV at hF
 cases hm:m (as++List.replicate (N.length-as.length) .unb) S with
 | rt b S2=>rw[hm]at hF;cases hF;exact q
 | nx τ S2=>rw[hm]at hF;cases hF;exact λρ' H' σ' e R' _=>q ρ' H' _ e R' .non
 | bk τ S2=>rw[hm]at hF;cases hF
 | ct τ S2=>rw[hm]at hF;cases hF
 | ex c S2=>rw[hm]at hF;cases hF
 | no=>rw[hm]at hF;cases hF
end
noncomputable abbrev mR (P:aj)(w:ah)(K:au)(mg:Str->Option af)(base:aq)(k:Nat)(x:Str)(ps:ar)(F:ae->jK->R A):Prop:=Kn P w K mg base k x ps (qJ K ps.length F)
noncomputable def eFn (F:ae->jK->R A)(d:rK):Ex:=λτ S=>(d τ S).bind λas S1=>match F as S1 with
 | .ok a S2=>.ok a S2
 | _=>.no
section
variable {X:Cx}{pos p:Pos}{e:aC}{es:List aC}{x:Str}{ps:ar}{k:Nat}{F:ae->jK->R A}{d:rK}
def sH(G:mR X.prog X.w X.K X.mg X.base k x ps F)(hr:Room k X.A)(ha:AL X (e::es) d)(hl:∀τ S as S',d τ S=.ok as S'->as.length=ps.length)(hg:Gl X x:=by rfl)(hdb:(x == ("__debug__" : Str))=false:=by decide)
  (hs:starEach (e::es) X.env=(false,eval e X.env)::starEach es X.env:=by rfl) (hplain:(backTo pos (starEach es X.env)).any (·.1)=false:=by rfl):AE X (.Call (.Name x p) (e::es) [] pos) (eFn F d):=
 PE.imp (aar G hr ha hg hdb hs hplain) λσ H Q h9=>by
  room;refine⟨ρ,S,τ,R,r,?_⟩;have hb:=jP h
  cases hd:d τ S with
  | no=>rw[hd]at hb;exact hb
  | ex c S1=>rw[hd]at hb;exact hb
  | ok as S1=>
   rw[hd]at hb;intro ρ1 H1 vs e1 R1 v1;rw[cG];refine⟨by rw[<- v1.length];exact hl τ S as S1 hd,ρ1,S1,as,?_⟩;have hb:Am.R.post (match F as S1 with
    | .ok a S2=>.ok a S2
    | _=>.no) (Cr X ρ H Q) (XE X ρ H):=hb
   cases hF:F as S1 with
   | ok a S2=>rw[hF]at hb;exact⟨a,S2,R1,v1,rfl,λρ2 H2 v e2=>hb ρ2 H2 v (e1.trans e2)⟩
   | ex c S2=>rw[hF]at hb;exact hb.elim
   | no=>rw[hF]at hb;exact hb.elim
def nk:∀τ S as S',jI τ S=.ok as S'->as.length=0:=λτ S as S' h=>by cases h;rfl
def kF{c:Ex}{d:rK}{n:Nat}(h:∀τ S as S',d τ S=.ok as S'->as.length=n):∀τ S as S',jC c d τ S=.ok as S'->as.length=n+1:=λτ S as S' e=>by
 unfold jC at e
 cases hc:c τ S with
 | ok a S1=>
  rw[hc]at e
  cases hd:d τ S1 with
  | ok bs S2=>
   have e:R.bind (d τ S1) (λas S2=>.ok (a::as) S2)=.ok as S':=e;rw[hd]at e;cases e;rw[bg,h τ S1 bs _ hd]
  | ex _ _=>
   have e:R.bind (d τ S1) (λas S2=>.ok (a::as) S2)=.ok as S':=e;rw[hd]at e;cases e
  | no=>
   have e:R.bind (d τ S1) (λas S2=>.ok (a::as) S2)=.ok as S':=e;rw[hd]at e;cases e
 | ex _ _=>rw[hc]at e;cases e
 | no=>rw[hc]at e;cases e
end
section
variable {X:Cx}{pos:Pos}{a b c:aC}
noncomputable def kCh (f':A->A->jK->R A)(cc:Ex)(τ:ae)(b k:A)(S:jK):R A:=match k with
 | .bl true=>(cc τ S).bind λc S4=>f' b c S4
 | .bl false=>.ok (.bl false) S
 | _=>.no
noncomputable def YY (f f':A->A->jK->R A)(ca cb cc:Ex):Ex:=λτ S=>(ca τ S).bind λa S1=>(cb τ S1).bind λb S2=>(f a b S2).bind λk S3=>kCh f' cc τ b k S3
def YS{f f':A->A->jK->R A}{ca cb cc:Ex}{H:Hp}{Q:VK}(h:tE X (YY f f' ca cb cc) σ H Q):Q8 (r2 X f) (r2 X f') (tE X ca) (tE X cb) (tE X cc) σ H Q:=by
 obtain⟨ρ,S,τ,R,r,h⟩:=h;refine⟨ρ,S,τ,R,r,jN (jP h) .refl λa S1 h1 ρ1 H1 x e1 R1 v1=>⟨ρ1,S1,τ,R1,r.ext e1,jN (jP h1) e1 λb S2 h2 ρ2 H2 y e2 R2 v2=>?_⟩⟩;have e12:=e1.trans e2;refine⟨ρ2,S2,a,b,R2,v1.ext e2,v2,jN (jP h2) e12 λk S3 h3 ρ3 H3 z e3 R3 v3=>?_⟩;have e13:=e12.trans e3
 cases k with
 | bl k=>
  cases F_ v3
  refine⟨k,rfl,?_⟩
  cases k with
  | true=>
   rw[aM rfl];exact⟨ρ3,S3,τ,R3,r.ext e13,jN (jP h3) e13 λc S4 h4 ρ4 H4 w e4 R4 v4=>⟨ρ4,S4,b,c,R4,v2.ext (e3.trans e4),v4,jN h4 (e13.trans e4) λ_ _ q=>q.ext (e13.trans e4)⟩⟩
  | false=>
   rw[aK bH];exact h3 ρ3 H3 _ e13 R3 (.bl false)
 | _=>exact h3.elim
def aac{f f':A->A->jK->R A}{ca cb cc:Ex}(ho:pB X (compareOp op) (r2 X f))(ho':pB X (compareOp op') (r2 X f'))(ha:AE X a ca)(hb:AE X b cb)(hc:AE X c cc)(hm:lastMarks [op,op'] [b,c]=false:=by with_unfolding_all rfl) :
  AE X (.Compare a [op,op'] [b,c] pos) (YY f f' ca cb cc):=PE.imp (OQ ho ho' ha hb hc hm) λ_ _ _ h=>YS h
noncomputable def inA (S:jK)(x:A):ae->Option Bool
 | []=>some false
 | z::zs=>(tK S 12 z x).bind λp=>(inA S x zs).map λq=>p || q
noncomputable def aIn (neg:Bool)(x y:A)(S:jK):R A:=opt (y.seq S) λys=>opt (inA S x ys) λb=>.ok (.bl (if neg then !b else b)) S
theorem EC{H:Hp}{x:A}{v:af}(I:Inv X pins σ H s)(R:Rel X.K ρ H S)(hu:X.A.units+64<cLine)(hx:AV X.K ρ H x vx)(rx:RelV vx v) :
  ∀{ys:ae} {us:List V} {its:ba} {b:Bool},AVs X.K ρ H ys us->Vals us its->inA S x ys=some b->∃e:af->Bool,(∀w∈its,SeqAt.EqAt X.A.in1 s w v (e w))/\its.any e=b
 | _,_,_,b,.nil,.nil,h=>⟨λ_=>false,(λw hw=>by cases hw),a_ h⟩
 | z::zs,u::us,w0::its,b,.cons hz hzs,.cons r rs,h=>by
  classical
  obtain⟨p,hp,h⟩:=cE.mp h;obtain⟨q,hq,h⟩:=aX.mp h;obtain⟨e,he,ha⟩:=EC I R hu hx rx hzs rs hq;have h0:=(Ks I R 12 X.A.in1 z x u vx w0 v p (by rw[in1_units];lia) hz hx r rx hp).2.1;subst h
  cases p with
  | true=>
   refine⟨λw=>if w=w0 then true else e w,λw hw=>?_,?_⟩
   ·by_cases hww:w=w0
    ·dsimp[hww,cJ];exact h0
    ·dsimp[hww,b9]
     rcases bw.mp hw with z|z
     ·exact absurd z hww
     ·exact he w z
   ·simp
  | false=>
   by_cases hm:w0∈its
   ·refine⟨e,λw hw=>?_,?_⟩
    ·rcases bw.mp hw with z|z
     ·rw[z];exact he w0 hm
     ·exact he w z
    ·rw[fZ,ha,gD]
     cases q with
     | true=>simp
     | false=>
      have:=List.any_eq_false.mp ha w0 hm;simpa using this
   ·refine⟨λw=>if w=w0 then false else e w,λw hw=>?_,?_⟩
    ·by_cases hww:w=w0
     ·dsimp[hww,cJ];exact h0
     ·dsimp[hww,b9]
      rcases bw.mp hw with z|z
      ·exact absurd z hww
      ·exact he w z
    ·rw[fZ,<- ha];dsimp[cJ,gD];have:∀l:ba,(∀w∈l,w≠w0)->l.any (λw=>if w=w0 then false else e w)=l.any e:=λl hl=>by
      induction l with
      | nil=>rfl
      | cons c l ih=>rw[fZ,fZ,ih λw hw=>hl w (aL _ hw),aK (hl c (aJ ..))]
     exact this its λw hw z=>hm (z ▸ hw)
def abe(hu:X.A.units+64<cLine):pB X (compareOp .In) (r2 X (aIn false)):=λpins s σ H x y v u Q I rx ry h9=>by
 x_go;obtain⟨ys,hy,h⟩:=jQ h;obtain⟨k,hk,h⟩:=jQ h;obtain⟨p,us,rfl,hs,r⟩:=YO R vb hy
 cases ry
 rcases hs with hs|hs
 ·obtain⟨its,rv,pl,hz⟩:=I.list hs;obtain⟨e,he,ha⟩:=EC I R hu va rx r rv hk;refine SeqAt.in_listAt e pl.isList (λw hw=>he w (by simpa using hw)) ⟨.bl _,H,I,rfl,?_⟩;rw[show its.toArray.any e=its.any e by simp,ha];exact h _ _ _ .refl R (.bl _)
 ·obtain⟨its,rv,pl,hz⟩:=I.tuple hs;obtain⟨e,he,ha⟩:=EC I R hu va rx r rv hk;refine SeqAt.in_tupleAt e pl (λw hw=>he w (by simpa using hw)) ⟨.bl _,H,I,rfl,?_⟩;rw[show its.toArray.any e=its.any e by simp,ha];exact h _ _ _ .refl R (.bl _)
end
noncomputable def kj (S:jK)(n:Nat):Option (List (ag×A)):=match S[n]? with
 | some (.dct xs)=>some xs
 | _=>none
def oq{n:Nat}(h:kj S n=some xs):S[n]?=some (.dct xs):=by
 unfold kj at h;split at h
 ·rename_i e;cases h;exact e
 ·cases h
def xr{S:jK}{n:Nat}(h:S[n]?=some (.dct xs)):kj S n=some xs:=by
 unfold kj;rw[h]
noncomputable def lH (kvs:List (ag×A))(k:ag):Option A:=(kvs.find? λkv=>decide (kv.1=k)).map (·.2)
noncomputable def putD (kvs:List (ag×A))(k:ag)(v:A):List (ag×A):=
 if (lH kvs k).isSome=true then kvs.map (λkv=>if kv.1=k then(kv.1,v)else kv)else kvs++[(k,v)]
theorem De:∀{a b:ag},a.map (Sum.inl:Int->Key)=b.map Sum.inl->a=b
 | [],[],_=>rfl
 | [],_::_,e=>by simp at e
 | _::_,[],e=>by simp at e
 | x::xs,y::ys,e=>by
  rw[bD,bD]at e
  injection e with e1 e2
  injection e1 with e1
  rw[e1,De e2]
def Jw(ns:ag):(ns.map (Sum.inl:Int->Key)).map kV=ns.map V.int:=by rw[bq];rfl
section
variable {K:au}{ρ:bb}{H:Hp}
def Ly{p:ag×A}{r:List (ag×A)}{k:ag}(e:p.1=k):lH (p::r) k=some p.2:=by simp[lH,cP,e]
def MO{p:ag×A}{r:List (ag×A)}{k:ag}(e:¬p.1=k):lH (p::r) k=lH r k:=by simp[lH,cP,e]
theorem DV.look:∀{kvs:List (ag×A)}{ks:List (List Key×V)}(k:ag),DV K ρ H kvs ks->(lH kvs k).isSome=(qE ks (k.map Sum.inl)).isSome/\∀x,lH kvs k=some x->∃v,qE ks (k.map Sum.inl)=some v/\AV K ρ H x v
 | [],[],k,_=>⟨rfl,λx h=>nomatch h⟩
 | p::r,q::r',k,⟨⟨e,a⟩,t⟩=>by
  by_cases c:p.1=k
  ·have c':q.1=k.map Sum.inl:=by rw[e,c]
   rw[Ly c,uF c'];exact⟨rfl,λx h=>by cases h;exact⟨_,rfl,a⟩⟩
  ·have c':¬q.1=k.map Sum.inl:=λz=>c (De (e.symm.trans z));rw[MO c,uC c'];exact DV.look k t
theorem DV.repl{x:A}{v:V}(h:AV K ρ H x v)(k:ag):∀{kvs:List (ag×A)}{ks:List (List Key×V)},DV K ρ H kvs ks->DV K ρ H (kvs.map λkv=>if kv.1=k then(kv.1,x)else kv) (ks.map λkv=>if kv.1=k.map Sum.inl then(kv.1,v)else kv)
 | [],[],_=>trivial
 | p::r,q::r',⟨⟨e,a⟩,t⟩=>by
  refine⟨?_,DV.repl h k t⟩;dsimp only;by_cases c:p.1=k
  ·rw[aM c,aM (by rw[e,c])];exact⟨e,h⟩
  ·rw[aK c,aK (λz=>c (De (e.symm.trans z)))];exact⟨e,a⟩
theorem DV.snoc{x:A}{v:V}(h:AV K ρ H x v)(k:ag):∀{kvs:List (ag×A)}{ks:List (List Key×V)},DV K ρ H kvs ks->DV K ρ H (kvs++[(k,x)]) (ks++[(k.map Sum.inl,v)])
 | [],[],_=>⟨⟨rfl,h⟩,trivial⟩
 | p::r,q::r',⟨a,t⟩=>⟨a,DV.snoc h k t⟩
def DV.put{x:A}{v:V}(h:AV K ρ H x v)(k:ag)(d:DV K ρ H kvs ks):DV K ρ H (putD kvs k x) (putK ks (k.map Sum.inl) v):=by
 unfold putD putK;rw[xC,<- (d.look k).1];by_cases c:(lH kvs k).isSome=true
 ·rw[aM c,aM c];exact DV.repl h k d
 ·rw[aK c,aK c];exact DV.snoc h k d
def DV.length:∀{kvs:List (ag×A)}{ks:List (List Key×V)},DV K ρ H kvs ks->kvs.length=ks.length
 | [],[],_=>rfl
 | _::_,_::_,⟨_,t⟩=>dB (·+1) t.length
def Rel.dct{n:Nat}{a:ak}(R:Rel K ρ H S)(ha:ρ[n]?=some a)(hS:S[n]?=some (.dct xs)):∃vs,H a=some (.dT vs)/\DV K ρ H xs vs:=R.at n a _ ha hS
def Rel.acn{S:jK}{p:ak}(R:Rel K ρ H S)(hp:H p=none)(r:DV K ρ H xs vs):Ext ρ (ρ++[p]) H (upd H p (.dT vs))/\Rel K (ρ++[p]) (upd H p (.dT vs)) (S++[.dct xs])/\(ρ++[p])[S.length]?=some p:=by
 have ex:Ext ρ (ρ++[p]) H (upd H p (.dT vs)):=⟨⟨fX _ _,λa u _ h=>by rw[jU (j8 h hp)];exact h⟩,λa u h _=>by rw[jU (j8 h hp)];exact h,λa h=>by
  rcases bE.mp h with z|z
  ·exact .inl z
  ·have e:a=p:=by simpa using z
   rw[e];exact .inr hp⟩
 have np:p∉ρ:=R.NT hp;have last:(ρ++[p])[S.length]?=some p:=by rw[<- R.len];simp
 refine⟨ex,⟨by simp[R.len],?_,?_⟩,last⟩
 ·rw[d9];refine⟨R.nd,by simp,λa ha b hb e=>?_⟩;have:b=p:=by simpa using hb
  exact np (by rw[<- this,<- e];exact ha)
 ·intro n a o h1 h2;by_cases hn:n<S.length
  ·rw[bG (by rw[R.len];exact hn)]at h1;rw[bG hn]at h2;have na:a≠p:=λz=>np (by rw[<- z];exact aW h1);have:=R.at n a o h1 h2
   cases o with
   | lst ys=>obtain⟨ws,e,q⟩:=this;exact⟨ws,by rw[jU na];exact e,q.ext ex⟩
   | dct _|rQ _=>obtain⟨ws,e,q⟩:=this;exact⟨ws,by rw[jU na];exact e,q.ext ex⟩
   | ins _ _=>obtain⟨oo,uu,e⟩:=this;exact⟨oo,uu,by rw[jU na];exact e⟩
  ·have e:n=S.length:=by
    have:=(aN.mp h2).1;simp at this;lia
   subst e;rw[last]at h1
   cases h1
   simp at h2;subst h2;exact⟨vs,lU,r.ext ex⟩
def Rel.putD{S:jK}{n:Nat}{a:ak}(R:Rel K ρ H S)(ha:ρ[n]?=some a)(hS:S[n]?=some (.dct xs))(r:DV K ρ H ys ws):Ext ρ ρ H (upd H a (.dT ws))/\Rel K ρ (upd H a (.dT ws)) (S.set n (.dct ys)):=by
 obtain⟨vs,e,_⟩:=R.at n a _ ha hS;have ex:Ext ρ ρ H (upd H a (.dT ws)):=⟨⟨fR _,λb u i h=>by
  have:b≠a:=by
   intro z;subst z;rw[e]at h;cases h;exact i
  rw[jU this];exact h⟩,λb u h n=>by
  rw[jU (λz=>n (by rw[z];exact aW ha))];exact h,λ_ h=>.inl h⟩
 refine⟨ex,by rw[cA];exact R.len,R.nd,λm b o h1 h2=>?_⟩;by_cases hm:m=n
 ·subst hm;rw[ha]at h1;cases h1;rw[cj (aN.mp hS).1]at h2
  cases h2
  exact⟨ws,lU,r.ext ex⟩
 ·rw[cH (dj hm)]at h2;have nb:b≠a:=λz=>by
   subst z;obtain⟨l1,e1⟩:=aN.mp ha;obtain⟨l2,e2⟩:=aN.mp h1;exact hm ((dz R.nd).mp (e2.trans e1.symm))
  have:=R.at m b o h1 h2
  cases o with
  | lst ys=>obtain⟨ws',e',q⟩:=this;exact⟨ws',by rw[jU nb];exact e',q.ext ex⟩
  | dct _|rQ _=>obtain⟨ws',e',q⟩:=this;exact⟨ws',by rw[jU nb];exact e',q.ext ex⟩
  | ins _ _=>obtain⟨oo,uu,e'⟩:=this;exact⟨oo,uu,by rw[jU nb];exact e'⟩
end
section
variable {X:Cx}{pos:Pos}{a b:aC}
def DP{H:Hp}{p q:ak}{n:Nat}{ns:ag}(R:Rel X.K ρ H S)(hp:ρ[n]?=some p)(hn:kj S n=some kvs)(hq:H q=some (.tup vs))(r:AVs X.K ρ H xs vs)(hi:A.ints xs=some ns) :
  ∃ks,H p=some (.dT ks)/\DV X.K ρ H kvs ks/\H q=some (.tup ((ns.map (Sum.inl:Int->Key)).map kV))/\wQ H p (.ref q) (qE ks (ns.map Sum.inl)):=by
 obtain⟨ks,e,d⟩:=R.dct hp (oq hn);have z:=zU r hi;subst z;rw[<- Jw]at hq;exact⟨ks,e,d,hq,wQ.t e hq⟩
noncomputable def xX (x y:A)(S:jK):R A:=match x,y with
 | .ref n,.tup xs=>opt (kj S n) λkvs=>opt (A.ints xs) λns=>opt (lH kvs ns) λv=>.ok v S
 | _,_=>.no
def aaQ(hu:X.A.units+64<cLine):VU X (r2 X xX):=λvalue slice pins s σ H x y v u Q I rx ry ⟨ρ,S,a,b,R,va,vb,h⟩ hs=>by
 cases va with
 | @ref p n hp=>
  cases vb with
  | @tup q xs vs hq r=>
   obtain⟨kvs,hn,h⟩:=jQ h;obtain⟨ns,hi,h⟩:=jQ h;obtain⟨z,hz,h⟩:=jQ h;obtain⟨ks,e,d,hq',g⟩:=DP R hp hn hq r hi;obtain⟨w,hw,aw⟩:=(d.look ns).2 z hz;rw[hw]at g;exact KS () value slice pins s σ H _ _ v u Q I rx ry ⟨p,w,rfl,g,h _ _ _ .refl R aw⟩ hs
  | _=>exact h.elim
 | _=>exact h.elim
def AU(hu:X.A.units+64<cLine){ca cb:Ex}(ha:AE X a ca)(hb:AE X b cb)(hs:zW b:=by exact λ_ _=>rfl):AE X (.Subscript a b pos) (jO xX ca cb):=PE.imp (OT (aaQ hu) ha hb hs) λσ H Q h=>vV h
noncomputable def Mu (neg:Bool)(x y:A)(S:jK):R A:=match x,y with
 | .tup xs,.ref n=>opt (kj S n) λkvs=>opt (A.ints xs) λns=>.ok (.bl (if neg then !(lH kvs ns).isSome else(lH kvs ns).isSome)) S
 | _,_=>.no
def Ft(hu:X.A.units+64<cLine):pB X (compareOp .NotIn) (r2 X (Mu true)):=λpins s σ H x y v u Q I rx ry h9=>by
 x_go
 cases va with
 | @tup q xs vs hq r=>
  cases vb with
  | @ref p n hp=>
   obtain⟨kvs,hn,h⟩:=jQ h;obtain⟨ns,hi,h⟩:=jQ h;obtain⟨ks,e,d,hq',g⟩:=DP R hp hn hq r hi;exact Mn () pins s σ H _ _ v u Q I rx ry ⟨p,_,rfl,g,by rw[<- (d.look ns).1];exact h _ _ _ .refl R (.bl _)⟩
  | _=>exact h.elim
 | _=>exact h.elim
noncomputable def Fd (o i v:A)(S:jK):R Unit:=match o,i with
 | .ref n,.tup xs=>opt (kj S n) λkvs=>opt (A.ints xs) λns=>gd (kvs.length<sizeLine) (.ok Unit.unit (S.set n (.dct (putD kvs ns v))))
 | _,_=>.no
noncomputable def abJ (X:Cx):MM:=λo i v H Q=>∃ρ S ao ai av,Rel X.K ρ H S/\AV X.K ρ H ao o/\AV X.K ρ H ai i/\AV X.K ρ H av v/\(Fd ao ai av S).post (λ_ S'=>∀ρ' H',Ext ρ ρ' H H'->Rel X.K ρ' H' S'->Q H') (XE X ρ H)
def TH(hu:X.A.units+64<cLine):LL X (abJ X):=λpins s σ H o i v ov iv u Q I ro ri rv h9=>by
 obtain⟨ρ,S,ao,ai,av,R,h1,h2,h3,h⟩:=h9
 cases h1 with
 | @ref p n hp=>
  cases h2 with
  | @tup q xs vs hq r=>
   obtain⟨kvs,hn,h⟩:=jQ h;obtain⟨ns,hi,h⟩:=jQ h;obtain⟨hl,h⟩:=kC h;obtain⟨ks,e,d,hq',g⟩:=DP R hp hn hq r hi;obtain⟨ex,R'⟩:=R.putD hp (oq hn) (d.put h3 ns);exact set_dict () pins s σ H _ _ v ov iv u Q I ro ri rv ⟨p,_,rfl,FF.t e hq' (by rw[<- d.length];exact hl),h _ _ ex R'⟩
  | _=>exact h.elim
 | _=>exact h.elim
noncomputable def DL (co ci:Ex):Tg:=λa τ S=>(co τ S).bind λo S1=>(ci τ S1).bind λi S2=>(Fd o i a S2).bind λ_ S3=>.ok τ S3
def vA(hu:X.A.units+64<cLine){co ci:Ex}(ho:AE X o co)(hi:AE X i ci)
  (ha:∀v,assign (.Subscript o i pos) X.env v=(do
   let ov <- holding [v] (eval o X.env)
   let iv <- holding [v,ov] (eval i X.env)
   standAt pos
   holding [v,ov,iv] (setItem ov iv v)
   release [v,ov,iv] []):=by intro _;rfl):AG X (.Subscript o i pos) (DL co ci):=PG.imp (HL ho hi (TH hu) ha) λv σ H Q h9=>by
 obtain⟨ρ,S,τ,a,R,r,va,h⟩:=h9;refine⟨ρ,S,τ,R,r,jN (jP h) .refl λo S1 h1 ρ1 H1 x e1 R1 v1=>⟨ρ1,S1,τ,R1,r.ext e1,jN (jP h1) e1 λi S2 h2 ρ2 H2 y e2 R2 v2=>?_⟩⟩;refine⟨ρ2,S2,o,i,a,R2,v1.ext e2,v2,va.ext (e1.trans e2),jN (jP h2) (e1.trans e2) λ_ S3 h3 ρ3 H3 e3 R3=>?_⟩;exact h3 ρ3 H3 σ ((e1.trans e2).trans e3) R3 (r.ext ((e1.trans e2).trans e3))
noncomputable def wc:Ex:=λ_ S=>.ok (.ref S.length) (S++[.dct []])
def rC:AE X (.Dict [] [] pos) wc:=PE.imp Qg λσ H Q ⟨ρ,S,τ,R,r,h⟩ p hp=>by
 obtain⟨ex,R',hl⟩:=R.acn (xs:=[]) (vs:=[]) hp trivial;exact h _ _ _ ex R' (.ref hl)
noncomputable def dct? (a:A)(S:jK):Option Unit:=match a with
 | .ref n=>(kj S n).map λ_=>Unit.unit
 | _=>none
noncomputable def Xo (f:A->ae->jK->R A)(co:Ex)(d:rK):Ex:=λτ S=>(co τ S).bind λx S1=>opt (dct? x S1) λ_=>(d τ S1).bind λas S2=>f x as S2
def dct?_ty{K:au}{H:Hp}{x:A}{v:V}(R:Rel K ρ H S)(a:AV K ρ H x v)(e:dct? x S=some u):Y9 K "dict" v H:=by
 cases a with
 | @ref p n h=>
  obtain⟨xs,hx,_⟩:=aX.mp e;obtain⟨vs,h1,_⟩:=R.dct h (oq hx);exact .inr (.inr (.inl ⟨rfl,.inr ⟨vs,h1⟩⟩))
 | _=>cases e
def WS{e:aC}{id:String}{apos cpos:Pos}{f:A->ae->jK->R A}{co:Ex}{d:rK}(slot:Slot "dict" name id)(hty:typeOf (.builtin id)=pure (.type "method_descriptor"))(hm:Vk X id (rM X f))(ho:AE X o co)(ha:AL X (e::es) d)
  (hbase:attributeBase o name X.env (eval o X.env)=eval o X.env:=by rfl)
  (hfew:((backTo cpos (starEach (e::es) X.env)).all (λx=>!x.1) && (backToKw cpos (keywordEach [] X.env)).all (λx=>x.1.isSome)
   && decide ((e::es).length+([]:List Keyword).length+(if ([]:List Keyword).isEmpty then 0 else 1)<30))=true:=by rfl)
  (hline:(apos.endLine == cpos.line)=true:=by rfl) (hs:starEach (e::es) X.env=(false,eval e X.env)::starEach es X.env:=by rfl) (hplain:(backTo cpos (starEach es X.env)).any (·.1)=false:=by rfl) :
  AE X (.Call (.Attribute o name apos) (e::es) [] cpos) (Xo f co d):=PE.imp (Nq PySem.F.plainAttrs_dict slot hty hm ho ha hbase hfew hline hs hplain) λσ H Q h9=>by
 room;refine⟨ρ,S,τ,R,r,jN (jP h) .refl λx S1 h1 ρ1 H1 v e1 R1 v1=>?_⟩;obtain⟨xs,hx,h1⟩:=jQ h1;refine⟨dct?_ty R1 v1 hx,ρ1,S1,τ,R1,r.ext e1,jN (jP h1) e1 λas S2 h2 ρ2 H2 vs e2 R2 v2=>?_⟩;exact⟨ρ2,S2,x,as,R2,v1.ext e2,v2,jN h2 (e1.trans e2) λ_ _ z=>z.ext (e1.trans e2)⟩
noncomputable def XS (o:A)(as:ae)(S:jK):R A:=match o,as with
 | .ref n,[.tup xs,y]=>opt (kj S n) λkvs=>opt (A.ints xs) λk=>.ok ((lH kvs k).getD y) S
 | _,_=>.no
def aap(hu:X.A.units+64<cLine):Vk X "dict.get" (rM X XS):=λpins s σ H x vs v us Q I rx rv h9=>by
 obtain⟨ρ,S,o,as,R,vo,va,h⟩:=h9
 cases vo with
 | @ref p n hp=>
  match as,va,h with
  | [],_,h=>exact h.elim
  | [z],_,h=>exact(by cases z<;>exact h.elim)
  | z::_::_::_,_,h=>exact(by cases z<;>exact h.elim)
  | [z,y],va,h=>
   obtain⟨w1,w2,rfl,hz,hy⟩:=Xa va
   cases hz with
   | @tup q xs ws hq rr=>
    obtain⟨kvs,hn,h⟩:=jQ h;obtain⟨ns,hi,h⟩:=jQ h;have z:=zU rr hi;subst z;obtain⟨ks,h1,dv⟩:=R.dct hp (oq hn);refine UT () pins s σ H _ _ v us Q I rx rv ⟨p,q,ns.map Sum.inl,ks,w2,rfl,rfl,h1,by rw[Jw];exact hq,h _ _ _ .refl R ?_⟩;obtain⟨l1,l2⟩:=dv.look ns
    cases e1:lH kvs ns with
    | none=>
     rw[e1]at l1
     cases e2:qE ks (ns.map Sum.inl)with
     | none=>exact hy
     | some _=>rw[e2]at l1;cases l1
    | some x1=>
     obtain⟨v1,e2,a1⟩:=l2 x1 e1;rw[e2];exact a1
   | _=>exact h.elim
 | _=>exact h.elim
end
section
variable {X:Cx}{pos:Pos}{a tg:aC}
noncomputable def JX (n k:Nat):Src:=⟨k,λi S=>(jG S n).bind λxs=>if i<k then xs[k-1-i]? else none,λ_=>true⟩
noncomputable def kRv (a:A)(S:jK):R Src:=match a with
 | .ref n=>opt (jG S n) λxs=>.ok (JX n xs.length) S
 | _=>.no
noncomputable def iRv (c:Ex):Ic:=λτ S=>(c τ S).bind λa S1=>kRv a S1
def ZA{K:au}{ρ0:bb}{H0:Hp}{p:ak}{n k:Nat}(hp:ρ0[n]?=some p):JR K (JX n k) (Itv K p k) ρ0 H0 where
 go:=λi S H ρ x e R g=>by
  obtain⟨xs,hn,g⟩:=cE.mp g;by_cases hi:i<k
  ·rw[aM hi]at g;obtain⟨vs,h1,r1⟩:=R.lst (e.get hp) (jX hn);obtain⟨v,ev,av⟩:=r1.get g;refine⟨⟨hi,vs,v,pL.of h1,ev⟩,λw H' z=>?_⟩;obtain⟨rfl,hz⟩:=z;rw[hz vs v (pL.of h1) ev];exact⟨.refl,R,av⟩
  ·rw[aK hi]at g;cases g
 stop:=λS H ρ e R hf=>aO _
def Yc{p:Pos}{c:Ex}(hm:X.mg "reversed" = none)(ha:AE X a c)(hg:Gl X "reversed" := by rfl)(hs:starEach [a] X.env=[(false,eval a X.env)]:=by rfl):AI X tg (.Call (.Name "reversed" p) [a] [] pos) (iRv c):=λpins s σ H Q I h9=>by
 room;refine WL hg hm (vM ha AN hs) hs pins s σ H Q I ⟨ρ,S,τ,R,r,jN (jP h) .refl λx S1 h1 ρ1 H1 v e1 R1 v1=>?_⟩
 cases v1 with
 | @ref p n hp=>
  obtain⟨xs,hn,h1⟩:=jQ h1;obtain⟨vs,g1,r1⟩:=R1.lst hp (jX hn);exact⟨_,vs,rfl,pL.of g1,h1 ρ1 H1 _ e1 R1 (by rw[<- r1.length];exact ZA hp)⟩
 | _=>exact h1.elim
def X6{c:Ex}{n:Nat}{xs:ae}(h:c τ S=.ok (.ref n) S1)(hn:jG S1 n=some xs):iRv c τ S=.ok (JX n xs.length) S1:=by
 unfold iRv;rw[h];show opt (jG S1 n) _=_;rw[hn];rfl
end
structure Out (ρ1:bb)(H1:Hp)(D:ak)(accV:List V)(ρ:bb)(H:Hp):Prop where
 e0:Ext0 ρ1 ρ H1 H
 fr:∀a u,a≠D->H1 a=some u->a∉ρ1->H a=some u
 nw:∀a∈ρ,a∈ρ1\/H1 a=none
 nD:D∉ρ
 hD:H D=some (.lst accV)
noncomputable def abL (F:ae->jK->R A)(d:rK):Ex:=λτ S=>(d τ S).bind λas S1=>F as S1
noncomputable def bmV:ba:=[.type "ValueError",.type "Exception",.type "BaseException",.type "object"]
noncomputable def SG:List (Str ⊕ Ex)->ae->jK->R Unit
 | [],_,S=>.ok Unit.unit S
 | .inl _::ps,τ,S=>SG ps τ S
 | .inr e::ps,τ,S=>(e τ S).bind λv S1=>match v with
  | .int i=>gd (i.natAbs.log2<64) (SG ps τ S1)
  | _=>.no
noncomputable def WN (c:Str)(ps:List (Str ⊕ Ex)):Sm:=λτ S=>.of (SG ps τ S) λ_ S1=>.ex c S1
noncomputable def U9 (i:Nat):RS->RS
 | .nx τ S=>.nx (τ.set i .unb) S
 | .bk τ S=>.bk (τ.set i .unb) S
 | .ct τ S=>.ct (τ.set i .unb) S
 | .rt a S=>.rt a S
 | _=>.no
noncomputable def aax (i n:Nat)(cs:ar)(c d:Sm):Sm:=λτ S=>match c τ S with
 | .ex x S1=>if x∈cs then U9 i (d ((List.replicate n .unb).set i (.exn x)) S1)else .no
 | r=>r
noncomputable def abG (f:Str->Option Bool)(c:Ex):Ex:=λτ S=>(c τ S).bind λv S1=>match v with
 | .exn x=>opt (f x) λb=>.ok (.bl b) S1
 | _=>.no
structure ExcK (K:au)(U:ak)(c:Str)(C:ak):Prop where
 n:ClN K c C
 q:PySem.W.excIn K C bmV "ValueError.__new__" = true
 r:L2.mroIn K C=some (.ref U::bmV)
 x:XCls K C
 cl:(PySem.W.clsIn K C).isSome=true
 v:PySem.W.kitOne K (.ref C) (.type "ValueError")=some true
noncomputable def tbX (tb:List (Str×Bool)):Str->Option Bool:=λx=>tb.lookup x
noncomputable def Z4 (F:ae->jK->R A)(d:rK):Ex:=λτ S=>match d τ S with
 | .ok as S1=>F as S1
 | _=>.no
section
variable {d:rK}
noncomputable def ZQ (t:Te)(c d:Sm):Sm:=λτ S=>match t τ S with
 | .ok true S1=>c τ S1
 | .ok false S1=>d τ S1
 | _=>.no
end
noncomputable def Vc (i:Nat)(cs:ar)(c d:Sm):Sm:=λτ S=>match c τ S with
 | .ex x S1=>if x∈cs then U9 i (d (τ.set i (.exn x)) S1)else .no
 | r=>r
noncomputable def sNo:Sm:=λ_ _=>.no
def U_{X:Cx}{st:aE}:AS X st sNo:=PS.imp RH λD σ H ⟨ρ,S,τ,R,r,h⟩=>h.elim
def LV{K:au}{H:Hp}{a:ak}{ns:ag}{F:ae->jK->R A}(hO:Sw H)(hS:pL K H a (ns.map V.int))(h:∃S',F [.frz (ns.map .int)] []=.ok (.bl true) S'):qJ K 1 F [.ref a] H (λv _=>v=.bl true) λ_ _ _=>False:=by
 obtain⟨S',h⟩:=h;have fz:Fz K H a (ns.map V.int):=by
  rcases hS with(h|⟨o,h⟩)|h
  ·rcases hO a with z|⟨ob,xs,z⟩
   ·rw[h]at z;cases z
   ·rw[h]at z;cases z
  ·exact .inl ⟨o,h⟩
  ·exact .inr h
 exact⟨rfl,[],[],_,_,S',⟨rfl,dM,λn a o h=>by simp at h⟩,.cons (.frz fz (sJ ns)) .nil,h,λρ' H' v _ _ hv=>F_ hv⟩
section
variable {P:aj}{w:ah}{K:au}{mg:Str->Option af}{base:aq}{f:ak}{fd:FuncData}{ps:ar}{k n:Nat}
def QJ(h:n=ps.length):FnOk P w K mg base pY k f fd ps (qJ K n λ_ _=>.no):=
 ⟨λ_ _ _ _ z=>z.1.trans h,λ_ _ _ _ _ _ _ _ _ _ _ _ _ z=>by obtain⟨_,_,_,_,_,_,_,_,e,_⟩:=z;cases e⟩
end
def G5{P:ba->Prop}(h:∀a0,P [a0]):∀us:ba,us.length=1->P us
 | [_],_=>h _
def GS{P:ba->Prop}(h:∀a0 a1,P [a0,a1]):∀us:ba,us.length=2->P us
 | [_,_],_=>h _ _
def Ye{n:Nat}{us:ba}(h:us.length=n+1):∃a t,us=a::t/\t.length=n:=by
 cases us with
 | nil=>simp at h
 | cons a t=>exact⟨a,t,rfl,by simpa using h⟩
def ZK{P:ba->Prop}(h:∀a0 a1 a2,P [a0,a1,a2]):∀us:ba,us.length=3->P us:=λus e=>by
 obtain⟨a0,t0,rfl,e0⟩:=Ye e;obtain⟨a1,t1,rfl,e1⟩:=Ye e0;obtain⟨a2,t2,rfl,e2⟩:=Ye e1
 cases fQ.mp e2
 exact h _ _ _
end Am
namespace Am
open PySem L2
section
variable {α β:Type}{a b:A}{S S1:jK}{τ:ae}{x:α}
@[simp] theorem R.oZ {f:α->jK->R β}:(R.ok x S).bind f=f x S:=rfl
@[simp] theorem R.JO {f:α->jK->R β}{c:Str}:(R.ex c S:R α).bind f=.ex c S:=rfl
@[simp] theorem R.lO {f:α->jK->R β}:(R.ok x S).ud f=f x S:=rfl
@[simp] theorem RS.of_ok {f:α->jK->RS}:RS.of (R.ok x S) f=f x S:=rfl
@[simp] theorem RS.VA {f:α->jK->RS}{c:Str}:RS.of (R.ex c S:R α) f=.ex c S:=rfl
@[simp] theorem kN {f:β->R α}{y:β}:opt (some y) f=f y:=rfl
@[simp] theorem JV {r:R α}:gd True r=r:=aM trivial
theorem mP{c:Prop}[Decidable c]{r:R α}(h:c):gd c r=r:=aM h
@[simp] theorem La {i:Nat}:jF i τ S=bif (τ.getD i .unb).qu then .no else .ok (τ.getD i .unb) S:=by unfold jF;cases(τ.getD i .unb).qu<;>rfl
@[simp] theorem Ld {xs:ae}:A.qu (.tup xs)=false:=rfl
@[simp] theorem JI {xs:ae}:A.qu (.frz xs)=false:=rfl
@[simp] theorem JQ {i:Int}:A.qu (.int i)=false:=rfl
@[simp] theorem M6 {i:Bool}:A.qu (.bl i)=false:=rfl
@[simp] theorem JY {i:Str}:A.qu (.str i)=false:=rfl
@[simp] theorem J5 {i:Nat}:A.qu (.ref i)=false:=rfl
@[simp] theorem IV:A.qu .non=false:=rfl
@[simp] theorem IW {i j:Int}:A.qu (.rng i j)=false:=rfl
@[simp] theorem JF {c:Str}:A.qu (.exn c)=false:=rfl
@[simp] theorem VO:eC a τ S=.ok a S:=rfl
noncomputable def Z8 (f:A->A->jK->R A)(cb:Ex)(τ:ae)(a:A)(S:jK):R A:=(cb τ S).bind (f a)
@[simp] theorem Jb {f:A->A->jK->R A}{cb:Ex}:Z8 f cb τ a S=(cb τ S).bind (f a):=rfl
@[simp] theorem JW {f:A->A->jK->R A}{ca cb:Ex}:jO f ca cb τ S=(ca τ S).bind (Z8 f cb τ):=rfl
@[simp] theorem Ql {f:A->jK->R A}{ca:Ex}:Ei f ca τ S=(ca τ S).bind f:=rfl
@[simp] theorem Ju {c:Ex}:p9 c τ S=(c τ S).bind λa S1=>opt (a.Vv S1) λb=>.ok b S1:=rfl
noncomputable def aB (a:A)(S:jK):R Bool:=match a with
 | .bl b=>.ok b S
 | _=>.no
@[simp] theorem VJ {b:Bool}:aB (.bl b) S=.ok b S:=rfl
@[simp] theorem Py {c:Ex}:v_ c τ S=(c τ S).bind aB:=rfl
@[simp] theorem Jt {c:Te}:vZ c τ S=(c τ S).bind λb S1=>.ok (!b) S1:=rfl
noncomputable def YV (d:Te)(τ:ae)(b:Bool)(S:jK):R Bool:=match b with|true=>d τ S|false=>.ok false S
noncomputable def kOr (d:Te)(τ:ae)(b:Bool)(S:jK):R Bool:=match b with|true=>.ok true S|false=>d τ S
@[simp] theorem PD {d:Te}:YV d τ true S=d τ S:=rfl
@[simp] theorem O7 {d:Te}:YV d τ false S=.ok false S:=rfl
@[simp] theorem U7 {d:Te}:kOr d τ true S=.ok true S:=rfl
@[simp] theorem VI {d:Te}:kOr d τ false S=d τ S:=rfl
@[simp] theorem J0 {c d:Te}:UL c d τ S=(c τ S).bind (YV d τ):=rfl
@[simp] theorem QW {c d:Te}:Mc c d τ S=(c τ S).bind (kOr d τ):=rfl
@[simp] theorem Kx:qN τ S=.ok true S:=rfl
noncomputable def Nj (d:Ex)(τ:ae)(a:A)(S:jK):R A:=match a with | .bl true=>d τ S | .bl false=>.ok (.bl false) S|_=>.no
noncomputable def Xi (d:Ex)(τ:ae)(a:A)(S:jK):R A:=match a with | .bl true=>.ok (.bl true) S | .bl false=>d τ S|_=>.no
@[simp] theorem Je {d:Ex}:Nj d τ (.bl true) S=d τ S:=rfl
@[simp] theorem IY {d:Ex}:Nj d τ (.bl false) S=.ok (.bl false) S:=rfl
@[simp] theorem Qd {d:Ex}:Xi d τ (.bl true) S=.ok (.bl true) S:=rfl
@[simp] theorem OL {d:Ex}:Xi d τ (.bl false) S=d τ S:=rfl
@[simp] theorem JE {c d:Ex}:Qy c d τ S=(c τ S).bind (Nj d τ):=by
 unfold Qy
 cases c τ S with
 | ok a S1=>cases a<;>first|rfl|(rename_i b;cases b<;>rfl)
 | _=>rfl
@[simp] theorem N9 {c d:Ex}:eOr c d τ S=(c τ S).bind (Xi d τ):=by
 unfold eOr
 cases c τ S with
 | ok a S1=>cases a<;>first|rfl|(rename_i b;cases b<;>rfl)
 | _=>rfl
noncomputable def VG (a:A)(S:jK):R A:=match a with | .bl b=>.ok (.bl !b) S|_=>.no
@[simp] theorem Gy {b:Bool}:VG (.bl b) S=.ok (.bl !b) S:=rfl
@[simp] theorem IG {c:Ex}:Xp c τ S=(c τ S).bind VG:=rfl
noncomputable def X0 (c d:Ex)(τ:ae)(b:Bool)(S:jK):R A:=match b with|true=>c τ S|false=>d τ S
@[simp] theorem PC {c d:Ex}:X0 c d τ true S=c τ S:=rfl
@[simp] theorem O0 {c d:Ex}:X0 c d τ false S=d τ S:=rfl
@[simp] theorem Pc {t:Te}{c d:Ex}:eIf t c d τ S=(t τ S).bind (X0 c d τ):=rfl
@[simp] theorem IS:jI τ S=.ok [] S:=rfl
noncomputable def HC (a:A)(as:ae)(S:jK):R (ae):=.ok (a::as) S
noncomputable def VL (d:rK)(τ:ae)(a:A)(S:jK):R (ae):=(d τ S).bind (HC a)
@[simp] theorem CZ {as:ae}:HC a as S=.ok (a::as) S:=rfl
@[simp] theorem E1 {d:rK}:VL d τ a S=(d τ S).bind (HC a):=rfl
@[simp] theorem Fc {c:Ex}{d:rK}:jC c d τ S=(c τ S).bind (VL d τ):=rfl
@[simp] theorem Lp {d:rK}:mE d τ S=(d τ S).bind λas S1=>gd (as.length<=sizeLine) (.ok (.tup as) S1):=rfl
@[simp] theorem Lg {d:rK}:nJ d τ S=(d τ S).bind newL:=rfl
theorem lg{as:ae}(h:as.length<=16777216):newL as S=.ok (.ref S.length) (S++[.lst as]):=mP (by rw[eE];exact h)
@[simp] theorem F1 {f:ae->jK->R A}{d:rK}:ki f d τ S=(d τ S).bind f:=rfl
noncomputable def okR (r:R A):R A:=match r with
 | .ok a S=>.ok a S
 | _=>.no
@[simp] theorem OZ:okR (.ok a S)=.ok a S:=rfl
noncomputable def kFn (f:ae->jK->R A)(as:ae)(S:jK):R A:=okR (f as S)
@[simp] theorem QI {f:ae->jK->R A}{as:ae}:kFn f as S=okR (f as S):=rfl
@[simp] theorem N5 {f:ae->jK->R A}{d:rK}:eFn f d τ S=(d τ S).bind (kFn f):=rfl
@[simp] theorem U6 {g:A->jK->R A}:f1 g [a] S=g a S:=rfl
@[simp] theorem VZ {g:A->A->jK->R A}:f2 g [a,b] S=g a b S:=rfl
noncomputable def W3 (h:Pt)(τ:ae)(a:A)(l:Option Int)(S:jK):R A:=(h τ S).bind (Zh a l)
noncomputable def kSl (l h:Pt)(τ:ae)(a:A)(S:jK):R A:=(l τ S).bind (W3 h τ a)
@[simp] theorem Ll {h:Pt}{l:Option Int}:W3 h τ a l S=(h τ S).bind (Zh a l):=rfl
@[simp] theorem QO {l h:Pt}:kSl l h τ a S=(l τ S).bind (W3 h τ a):=rfl
@[simp] theorem Rh {c:Ex}{l h:Pt}:YZ c l h τ S=(c τ S).bind (kSl l h τ):=rfl
@[simp] theorem FI:Cv τ S=.ok none S:=rfl
noncomputable def aPt (a:A)(S:jK):R (Option Int):=match a with
 | .int i=>.ok (some i) S
 | _=>.no
@[simp] theorem K5 {i:Int}:aPt (.int i) S=.ok (some i) S:=rfl
@[simp] theorem FJ {c:Ex}:CU c τ S=(c τ S).bind aPt:=rfl
noncomputable def Wz (f:A->ae->jK->R A)(d:rK)(τ:ae)(o:A)(S:jK)(_:ae):R A:=(d τ S).bind (f o)
noncomputable def kMe (f:A->ae->jK->R A)(d:rK)(τ:ae)(o:A)(S:jK):R A:=opt (o.lst? S) (Wz f d τ o S)
@[simp] theorem IP {f:A->ae->jK->R A}{d:rK}{xs:ae}:Wz f d τ a S xs=(d τ S).bind (f a):=rfl
@[simp] theorem OC {f:A->ae->jK->R A}{d:rK}:kMe f d τ a S=opt (a.lst? S) (Wz f d τ a S):=rfl
@[simp] theorem Rb {f:A->ae->jK->R A}{c:Ex}{d:rK}:Uc f c d τ S=(c τ S).bind (kMe f d τ):=rfl
@[simp] theorem I_ {f:A->ae->jK->R A}{c:Ex}:abD f c τ S=(c τ S).bind λo S1=>opt (o.lst? S1) λ_=>f o [] S1:=rfl
@[simp] theorem lst?_ref {n:Nat}:A.lst? S (.ref n)=jG S n:=rfl
noncomputable def RS.seq (r:RS)(d:Sm):RS:=match r with
 | .nx τ S=>d τ S
 | r=>r
@[simp] theorem RS.N3 {d:Sm}:RS.seq (.nx τ S) d=d τ S:=rfl
@[simp] theorem RS.Rw {d:Sm}:RS.seq (.rt a S) d=.rt a S:=rfl
@[simp] theorem RS.NF {d:Sm}{c:Str}:RS.seq (.ex c S) d=.ex c S:=rfl
@[simp] theorem RS.Ri {d:Sm}:RS.seq (.bk τ S) d=.bk τ S:=rfl
@[simp] theorem RS.MW {d:Sm}:RS.seq (.ct τ S) d=.ct τ S:=rfl
@[simp] theorem Jf {c d:Sm}:kc c d τ S=RS.seq (c τ S) d:=by unfold kc RS.seq;cases c τ S<;>rfl
@[simp] theorem JC:nF τ S=.nx τ S:=rfl
@[simp] theorem CA:Wu τ S=.bk τ S:=rfl
@[simp] theorem EN:Zj τ S=.ct τ S:=rfl
@[simp] theorem GG {e:Ex}:oF e τ S=RS.of (e τ S) λ_ S1=>.nx τ S1:=rfl
@[simp] theorem JD {e:Ex}:kQ e τ S=RS.of (e τ S) .rt:=rfl
@[simp] theorem Fp:aaH τ S=.rt .non S:=rfl
noncomputable def kIf (c d:Sm)(τ:ae)(b:Bool)(S:jK):RS:=match b with|true=>c τ S|false=>d τ S
@[simp] theorem Ve {c d:Sm}:kIf c d τ true S=c τ S:=rfl
@[simp] theorem Vs {c d:Sm}:kIf c d τ false S=d τ S:=rfl
@[simp] theorem QF {t:Te}{c d:Sm}:u_ t c d τ S=RS.of (t τ S) (kIf c d τ):=rfl
noncomputable def Z1 (g:Tg)(τ:ae)(a:A)(S:jK):RS:=RS.of (g a τ S) .nx
@[simp] theorem IC {g:Tg}:Z1 g τ a S=RS.of (g a τ S) .nx:=rfl
@[simp] theorem Ka {e:Ex}{g:Tg}:kI e g τ S=RS.of (e τ S) (Z1 g τ):=rfl
@[simp] theorem PU {i:Nat}:kL i a τ S=.ok (τ.set i a) S:=rfl
noncomputable def YK (a o:A)(τ:ae)(i:A)(S:jK):R (ae):=(FT o i a S).bind λ_ S3=>.ok τ S3
noncomputable def kSb (ci:Ex)(τ:ae)(a o:A)(S:jK):R (ae):=(ci τ S).bind (YK a o τ)
@[simp] theorem Ln {o i:A}:YK a o τ i S=(FT o i a S).bind λ_ S3=>.ok τ S3:=rfl
@[simp] theorem Rg {ci:Ex}{o:A}:kSb ci τ a o S=(ci τ S).bind (YK a o τ):=rfl
@[simp] theorem N4 {co ci:Ex}:X5 co ci a τ S=(co τ S).bind (kSb ci τ a):=rfl
@[simp] theorem PL {n:Nat}{gs:RP}{xs:ae}:yp n gs (.tup xs) τ S=gd (xs.length=n) (gs xs τ S):=rfl
@[simp] theorem Nc:yo [] τ S=.ok τ S:=rfl
@[simp] theorem Nu {g:Tg}{gs:RP}{as:ae}:o8 g gs (a::as) τ S=(g a τ S).bind (gs as):=rfl
noncomputable def sPr (i j:Nat)(τ:ae)(as:ae)(S:jK):RS:=match as with
 | [a,b]=>.nx ((τ.set i a).set j b) S
 | _=>.no
@[simp] theorem Px {i j:Nat}:sPr i j τ [a,b] S=.nx ((τ.set i a).set j b) S:=rfl
@[simp] theorem IM {i j:Nat}{c:rK}:aby i j c τ S=RS.of (c τ S) (sPr i j τ):=rfl
noncomputable def Pf (i:Nat)(τ:ae)(c:A)(S:jK):RS:=.nx (τ.set i c) S
noncomputable def aaJ (i:Nat)(f:A->A->jK->R A)(τ:ae)(b:A)(S:jK):RS:=.of (f (τ.getD i .unb) b S) (Pf i τ)
@[simp] theorem FG {i:Nat}:Pf i τ a S=.nx (τ.set i a) S:=rfl
@[simp] theorem IX {i:Nat}{f:A->A->jK->R A}:aaJ i f τ a S=.of (f (τ.getD i .unb) a S) (Pf i τ):=rfl
@[simp] theorem JG {i:Nat}{f:A->A->jK->R A}{e:Ex}:aaC i f e τ S=bif (τ.getD i .unb).qu then .no else .of (e τ S) (aaJ i f τ):=by
 unfold aaC;cases(τ.getD i .unb).qu<;>rfl
noncomputable def kS5 (o i:A)(τ:ae)(z:A)(S:jK):RS:=.of (FT o i z S) λ_ S6=>.nx τ S6
noncomputable def kS4 (f:A->A->jK->R A)(o i x:A)(τ:ae)(y:A)(S:jK):RS:=.of (f x y S) (kS5 o i τ)
noncomputable def kS3 (ce:Ex)(f:A->A->jK->R A)(o i:A)(τ:ae)(x:A)(S:jK):RS:=.of (ce τ S) (kS4 f o i x τ)
noncomputable def kS2 (ce:Ex)(f:A->A->jK->R A)(o:A)(τ:ae)(i:A)(S:jK):RS:=.of (TL o i S) (kS3 ce f o i τ)
noncomputable def kS1 (ci ce:Ex)(f:A->A->jK->R A)(τ:ae)(o:A)(S:jK):RS:=.of (ci τ S) (kS2 ce f o τ)
@[simp] theorem Q5 {o i:A}:kS5 o i τ a S=.of (FT o i a S) λ_ S6=>.nx τ S6:=rfl
@[simp] theorem Q9 {f:A->A->jK->R A}{o i x:A}:kS4 f o i x τ a S=.of (f x a S) (kS5 o i τ):=rfl
@[simp] theorem QS {ce:Ex}{f:A->A->jK->R A}{o i:A}:kS3 ce f o i τ a S=.of (ce τ S) (kS4 f o i a τ):=rfl
@[simp] theorem Oj {ce:Ex}{f:A->A->jK->R A}{o:A}:kS2 ce f o τ a S=.of (TL o a S) (kS3 ce f o a τ):=rfl
@[simp] theorem Q7 {ci ce:Ex}{f:A->A->jK->R A}:kS1 ci ce f τ a S=.of (ci τ S) (kS2 ce f a τ):=rfl
@[simp] theorem F3 {co ci ce:Ex}{f:A->A->jK->R A}:Ze co ci ce f τ S=RS.of (co τ S) (kS1 ci ce f τ):=rfl
noncomputable def RS.end (r:RS):R A:=match r with
 | .rt a S'=>.ok a S'
 | .nx _ S'=>.ok .non S'
 | .ex c S'=>.ex c S'
 | _=>.no
@[simp] theorem RS.Og:RS.end (.rt a S)=.ok a S:=rfl
@[simp] theorem RS.Ol:RS.end (.nx τ S)=.ok .non S:=rfl
@[simp] theorem RS.Qt {c:Str}:RS.end (.ex c S)=.ex c S:=rfl
theorem zN {N:ar}{m:Sm}{as:ae}:lV N m as S=RS.end (m (as++List.replicate (N.length-as.length) .unb) S):=by
 unfold lV RS.end;cases m (as++List.replicate (N.length-as.length) .unb) S<;>rfl
@[simp] theorem OE {i j:Int}:lK (.int i) (.int j) S=.ok (.int (i+j)) S:=rfl
@[simp] theorem Ob {i j:Int}:aSub (.int i) (.int j) S=.ok (.int (i-j)) S:=rfl
@[simp] theorem Ny {i j:Int}:abK (.int i) (.int j) S=.ok (.int (i+j)) S:=rfl
theorem OU{i j:Int}(h:-18446744073709551616<i)(h':i<18446744073709551616):Ew (.int i) (.int j) S=.ok (.int (i * j)) S:=mP (by unfold KR;simp;left;exact⟨(),()⟩)
def Qv{i j:Int}(h:0<j)(h':j<1073741824):Lo (.int i) (.int j) S=.ok (.int (i / j)) S:=mP ⟨h,()⟩
def Fg{i j:Int}(h:0<j):D7 (.int i) (.int j) S=.ok (.int (i % j)) S:=mP h
@[simp] theorem Vd {i j:Int}:Yo (.int i) (.int j) S=.ok (.bl (decide (i<j))) S:=rfl
@[simp] theorem Vb {i j:Int}:aLe (.int i) (.int j) S=.ok (.bl (decide (i<=j))) S:=rfl
@[simp] theorem Vo {i j:Int}:Wm (.int i) (.int j) S=.ok (.bl (decide (j<i))) S:=rfl
@[simp] theorem VY {i j:Int}:ZO (.int i) (.int j) S=.ok (.bl (decide (j<=i))) S:=rfl
@[simp] theorem Vr {i j:Bool}:Vp false (.bl i) (.bl j) S=.ok (.bl (i == j)) S:=rfl
@[simp] theorem Rf {i j:Bool}:Vp true (.bl i) (.bl j) S=.ok (.bl (i != j)) S:=rfl
@[simp] theorem OM {i:Int}:tH (.int i) S=.ok (.int (-i)) S:=rfl
@[simp] theorem Qm {xs:ae}:qH (.tup xs) S=.ok (.int xs.length) S:=rfl
@[simp] theorem Om {xs:ae}:qH (.frz xs) S=.ok (.int xs.length) S:=rfl
@[simp] theorem QG {n:Nat}:qH (.ref n) S=opt (jG S n) λxs=>.ok (.int xs.length) S:=rfl
@[simp] theorem OS {i:Int}:abj (.int i) S=.ok (.int (if i<0 then -i else i)) S:=rfl
@[simp] theorem JN {i j:Int}:QZ (.int i) (.int j) S=.ok (.int (if j>i then j else i)) S:=rfl
@[simp] theorem IQ {i j:Int}:Pq (.int i) (.int j) S=.ok (.int (if j<i then j else i)) S:=rfl
@[simp] theorem Ko {i:Int}:Lj (.int i) S=.ok (.int i) S:=rfl
@[simp] theorem K4 {i:Bool}:Lj (.bl i) S=.ok (.int (if i then 1 else 0)) S:=rfl
@[simp] theorem Cm {i j:Int}:zL (.int i) (.int j) S=.ok (.rng i j) S:=rfl
@[simp] theorem Vu {xs:ae}{i:Int}:oA (.tup xs) (.int i) S=opt (qI xs i) λx=>.ok x S:=rfl
@[simp] theorem V1 {xs:ae}{i:Int}:oA (.frz xs) (.int i) S=opt (qI xs i) λx=>.ok x S:=rfl
@[simp] theorem Vm {n:Nat}{i:Int}:oA (.ref n) (.int i) S=opt (jG S n) λxs=>opt (qI xs i) λx=>.ok x S:=rfl
@[simp] theorem P8 {n:Nat}{k:Int}:FT (.ref n) (.int k) a S=opt (jG S n) λxs=>opt (zR xs.length k) λj=>.ok Unit.unit (S.set n (.lst (xs.set j a))):=rfl
@[simp] theorem Oa {n:Nat}{i:Int}:TL (.ref n) (.int i) S=opt (jG S n) λxs=>gd (0<=i) (opt (xs[i.toNat]?) λx=>.ok x S):=rfl
theorem CM{i j:Int}(h:Co i j):sG (.rng i j) S=.ok (.ref S.length) (S++[.lst ((k_ i j).map .int)]):=mP h
@[simp] theorem Ky {xs:ae}:sG (.tup xs) S=.ok (.ref S.length) (S++[.lst xs]):=rfl
@[simp] theorem J3 {xs:ae}:sG (.frz xs) S=.ok (.ref S.length) (S++[.lst xs]):=rfl
@[simp] theorem KO {n:Nat}:sG (.ref n) S=opt (jG S n) λxs=>.ok (.ref S.length) (S++[.lst xs]):=rfl
@[simp] theorem F6 {xs:ae}:ur (.tup xs) S=.ok (.tup xs) S:=rfl
@[simp] theorem FP {n:Nat}:ur (.ref n) S=opt (jG S n) λxs=>.ok (.tup xs) S:=rfl
@[simp] theorem Ov {xs:ae}:ZJ (.tup xs) S=.ok (.tup xs.reverse) S:=rfl
@[simp] theorem M7 {n:Nat}:ZJ (.ref n) S=opt (jG S n) λxs=>.ok (.ref S.length) (S++[.lst xs.reverse]):=rfl
@[simp] theorem VX {n:Nat}{l u:Option Int}:Zh (.ref n) l u S=opt (jG S n) λxs=>.ok (.ref S.length) (S++[.lst (zA xs l u)]):=rfl
@[simp] theorem Bu {n:Nat}:qQ (.ref n) [a] S=opt (jG S n) λxs=>gd (xs.length<sizeLine) (.ok .non (S.set n (.lst (xs++[a])))):=rfl
@[simp] theorem N6 {b:Bool}:A.Vv (.bl b) S=some b:=rfl
@[simp] theorem Lf {i:Int}:A.Vv (.int i) S=some (i != 0):=rfl
theorem HW{o:O}:(S++[o])[S.length]?=some o:=by simp
@[simp] theorem jT {xs:ae}:jG (S++[.lst xs]) S.length=some xs:=ya HW
theorem kH{o:O}{n:Nat}(h:jG S n=some xs):jG (S++[o]) n=some xs:=by
 have h':=jX h;exact ya (by rw[bG (aN.mp h').1];exact h')
def mL{n:Nat}(h:jG S n=some xs):n<S.length:=(aN.mp (jX h)).1
def oz{n:Nat}(h:n<S.length):jG (S.set n (.lst ys)) n=some ys:=ya (cj h)
def m_{n:Nat}(h:n≠m):jG (S.set n (.lst ys)) m=jG S m:=by unfold jG;rw[cH h]
def Ax{xs:ae}{i:Int}{k:Nat}{x:A}(h:i=k)(hx:xs[k]?=some x):qI xs i=some x:=by rw[h];exact UE hx
def Aq{n:Nat}{i:Int}{k:Nat}(h:i=k)(hk:k<n):zR n i=some k:=by
 subst h;unfold zR;rw[aM (),aM ()];simp
end
structure Kp (b:Nat->Prop)(S S':jK):Prop where
 len:S.length<=S'.length
 obj:∀(n:Nat) (o:O),¬b n->S[n]?=some o->S'[n]?=some o
noncomputable abbrev lC:=Kp λ_=>False
def Kp.lst{b:Nat->Prop}(h:Kp b S S')(n:Nat)(xs:ae)(hb:¬b n)(e:jG S n=some xs):jG S' n=some xs:=ya (h.obj n _ hb (jX e))
def Kp.dct{b:Nat->Prop}(h:Kp b S S')(n:Nat)(xs:List (ag×A))(hb:¬b n)(e:kj S n=some xs):kj S' n=some xs:=xr (h.obj n _ hb (oq e))
def Kp.refl{b:Nat->Prop}:Kp b S S:=⟨aO _,λ_ _ _ h=>h⟩
def Kp.trans{b:Nat->Prop}(h:Kp b S S1)(h':Kp b S1 S2):Kp b S S2:=⟨bI h.len h'.len,λn xs hb e=>h'.obj n xs hb (h.obj n xs hb e)⟩
def DQ{S:jK}{n:Nat}(e:S[n]?=some o):n<S.length:=(aN.mp e).1
def Kp.lay{b:Nat->Prop}{o:O}(h:Kp b S S1):Kp b S (S1++[o]):=⟨bI h.len (by simp),λn xs hb e=>by
 have:=h.obj n xs hb e;rw[bG (DQ this)];exact this⟩
def Kp.HK{b:Nat->Prop}{S S1:jK}(h:Kp b S S1)(hm:b m\/S.length<=m):Kp b S (S1.set m o):=⟨by rw[cA];exact h.len,λn xs hb e=>by
 have:m≠n:=λz=>by
  subst z
  rcases hm with z|z
  ·exact hb z
  ·exact absurd (DQ e) ()
 rw[cH this];exact h.obj n xs hb e⟩
def Kp.set{b:Nat->Prop}{S S1:jK}(h:Kp b S S1)(hm:b m\/S.length<=m):Kp b S (S1.set m (.lst ys)):=h.HK hm
def Kp.mono{b c:Nat->Prop}{S:jK}(h:Kp b S S1)(hb:∀n,n<S.length->b n->c n):Kp c S S1:=⟨h.len,λn xs hc e=>h.obj n xs (λz=>hc (hb n (DQ e) z)) e⟩
def Kp.of0{b:Nat->Prop}(h:lC S S1):Kp b S S1:=h.mono λ_ _ z=>z.elim
def Kp.old{b c:Nat->Prop}{S:jK}(h:Kp b S S1)(h':Kp c S1 S2)(hc:∀n,n<S.length->¬b n->¬c n):Kp b S S2:=⟨bI h.len h'.len,λn xs hb e=>h'.obj n xs (hc n (DQ e) hb) (h.obj n xs hb e)⟩
theorem yk{t:Te}{c:Sm}(Inv:ae->jK->Prop)(μ:ae->jK->Nat)(Post:RS->Prop)
  (h:∀τ S,Inv τ S->(∃S1,t τ S=.ok false S1/\Post (.nx τ S1))\/(∃S1,t τ S=.ok true S1/\((∃τ' S',c τ S1=.nx τ' S'/\Inv τ' S'/\μ τ' S'<μ τ S)\/(∃a S',c τ S1=.rt a S'/\Post (.rt a S'))))) :
  ∀n τ S,Inv τ S->μ τ S<n->Post (nW t c n τ S)
 | 0,_,_,_,hn=>absurd hn (e_ _)
 | n+1,τ,S,hi,hn=>by
  unfold nW
  rcases h τ S hi with⟨S1,e,q⟩|⟨S1,e,⟨τ',S',e2,hi',hm⟩|⟨a,S',e2,q⟩⟩
  ·rw[e];exact q
  ·rw[e];show Post (match c τ S1 with
    | .nx τ' S'=>nW t c n τ' S'
    | .ct τ' S'=>nW t c n τ' S'
    | .bk τ' S'=>.nx τ' S'
    | r=>r)
   rw[e2];exact yk Inv μ Post h n τ' S' hi' ()
  ·rw[e];show Post (match c τ S1 with
    | .nx τ' S'=>nW t c n τ' S'
    | .ct τ' S'=>nW t c n τ' S'
    | .bk τ' S'=>.nx τ' S'
    | r=>r)
   rw[e2];exact q
theorem AB{s:Src}{g:Tg}{c:Sm}(Inv:Nat->ae->jK->Prop)(Post:RS->Prop)
  (step:∀i τ S,i<s.k->Inv i τ S->∃x τ1 S1,s.get i S=some x/\g x τ S=.ok τ1 S1/\((∃τ' S',c τ1 S1=.nx τ' S'/\Inv (i+1) τ' S')\/(∃a S',c τ1 S1=.rt a S'/\Post (.rt a S'))))
  (fin:∀τ S,Inv s.k τ S->s.fin S=true/\Post (.nx τ S)):∀k i τ S,k+i=s.k->Inv i τ S->Post (qT s g c k i τ S)
 | 0,i,τ,S,hk,hi=>by
  have:i=s.k:=()
  subst this;obtain⟨hf,q⟩:=fin τ S hi;unfold qT;rw[aM hf];exact q
 | k+1,i,τ,S,hk,hi=>by
  obtain⟨x,τ1,S1,hx,hg,h⟩:=step i τ S () hi;unfold qT;rw[hx];show Post (RS.of (g x τ S) λτ1 S1=>match c τ1 S1 with
   | .nx τ' S'=>qT s g c k (i+1) τ' S'
   | .ct τ' S'=>qT s g c k (i+1) τ' S'
   | .bk τ' S'=>.nx τ' S'
   | r=>r)
  rw[hg];show Post (match c τ1 S1 with
   | .nx τ' S'=>qT s g c k (i+1) τ' S'
   | .ct τ' S'=>qT s g c k (i+1) τ' S'
   | .bk τ' S'=>.nx τ' S'
   | r=>r)
  rcases h with⟨τ',S',e,hi'⟩|⟨a,S',e,q⟩
  ·rw[e];exact AB Inv Post step fin k (i+1) τ' S' () hi'
  ·rw[e];exact q
def zZ{lo hi:Int}{c:Sm}{src:Ic}{τ:ae}(hs:src τ S=.ok (uK lo hi) S1)(Inv:Nat->ae->jK->Prop)(Post:RS->Prop)(h0:Inv 0 τ S1)
  (step:∀(i:Nat) τ S,(i:Int)<hi-lo->Inv i τ S->(∃τ' S',c (τ.set j (.int (lo+i))) S=.nx τ' S'/\Inv (i+1) τ' S')\/(∃a S',c (τ.set j (.int (lo+i))) S=.rt a S'/\Post (.rt a S')))
  (fin:∀τ S,Inv (hi-lo).toNat τ S->Post (.nx τ S)):Post (lX src (kL j) c τ S):=by
 unfold lX;rw[hs];refine AB (s:=uK lo hi) Inv Post (λi τ S hi' h=>?_) (λτ S h=>⟨rfl,fin τ S h⟩) _ 0 τ S1 rfl h0;have hi':i<(hi-lo).toNat:=hi';exact⟨.int (lo+i),_,S,aM hi',rfl,step i τ S () h⟩
def Jy{xs:ae}{g:Tg}{c:Sm}{src:Ic}(hs:src τ S=.ok (tN xs) S1)(Inv:Nat->ae->jK->Prop)(Post:RS->Prop)(h0:Inv 0 τ S1)
  (step:∀(i:Nat) x τ S,xs[i]?=some x->Inv i τ S->∃τ1 S1,g x τ S=.ok τ1 S1/\((∃τ' S',c τ1 S1=.nx τ' S'/\Inv (i+1) τ' S')\/(∃a S',c τ1 S1=.rt a S'/\Post (.rt a S'))))
  (fin:∀τ S,Inv xs.length τ S->Post (.nx τ S)):Post (lX src g c τ S):=by
 unfold lX;rw[hs];refine AB (s:=tN xs) Inv Post (λi τ S hi' h=>?_) (λτ S h=>⟨rfl,fin τ S h⟩) _ 0 τ S1 rfl h0;have hi':i<xs.length:=hi';obtain⟨τ1,S1,e,q⟩:=step i xs[i] τ S (aF hi') h;exact⟨xs[i],τ1,S1,aF hi',e,q⟩
def Xq{xs:ae}{g:Tg}{c:Sm}{src:Ic}(hs:src τ S=.ok (Ga xs) S1)(Inv:Nat->ae->jK->Prop)(Post:RS->Prop)(h0:Inv 0 τ S1)
  (step:∀(i:Nat) x τ S,xs[i]?=some x->Inv i τ S->∃τ1 S1,g (.tup [.int i,x]) τ S=.ok τ1 S1/\((∃τ' S',c τ1 S1=.nx τ' S'/\Inv (i+1) τ' S')\/(∃a S',c τ1 S1=.rt a S'/\Post (.rt a S'))))
  (fin:∀τ S,Inv xs.length τ S->Post (.nx τ S)):Post (lX src g c τ S):=by
 unfold lX;rw[hs];refine AB (s:=Ga xs) Inv Post (λi τ S hi' h=>?_) (λτ S h=>⟨rfl,fin τ S h⟩) _ 0 τ S1 rfl h0;have hi':i<xs.length:=hi';obtain⟨τ1,S1,e,q⟩:=step i xs[i] τ S (aF hi') h;exact⟨.tup [.int i,xs[i]],τ1,S1,by show(xs[i]?).map _=_;rw[aF hi'];rfl,e,q⟩
def qb{n:Nat}{xs:ae}{g:Tg}{c:Sm}{src:Ic}(hs:src τ S=.ok (lA n xs.length) S1)(Inv:Nat->ae->jK->Prop)(Post:RS->Prop)(h0:Inv 0 τ S1)(hl:∀i τ S,Inv i τ S->jG S n=some xs)
  (step:∀(i:Nat) x τ S,xs[i]?=some x->Inv i τ S->∃τ1 S1,g x τ S=.ok τ1 S1/\((∃τ' S',c τ1 S1=.nx τ' S'/\Inv (i+1) τ' S')\/(∃a S',c τ1 S1=.rt a S'/\Post (.rt a S'))))
  (fin:∀τ S,Inv xs.length τ S->Post (.nx τ S)):Post (lX src g c τ S):=by
 unfold lX;rw[hs];refine AB (s:=lA n xs.length) Inv Post (λi τ S hi' h=>?_) (λτ S h=>⟨?_,fin τ S h⟩) _ 0 τ S1 rfl h0
 ·have hi':i<xs.length:=hi';obtain⟨τ1,S1,e,q⟩:=step i xs[i] τ S (aF hi') h;exact⟨xs[i],τ1,S1,by show(jG S n).bind _=_;rw[hl i τ S h];exact aF hi',e,q⟩
 ·show(match jG S n with
   | some ys=>decide (ys.length<=xs.length)
   | none=>false)=true
  rw[hl _ τ S h];exact bf (aO _)
@[simp] theorem sC {c:Ex}{τ:ae}{S S1:jK}{j:Int}(h:c τ S=.ok (.int j) S1)(hb:bnd j):se c τ S=.ok (uK 0 j) S1:=by
 unfold se;rw[h];exact mP hb
def Qa{c d:Ex}{i j:Int}(h:c τ S=.ok (.int i) S1)(h':d τ S1=.ok (.int j) S2)(hb:bnd i)(hb':bnd j):AK c d τ S=.ok (uK i j) S2:=by
 unfold AK;rw[h];show(d τ S1).bind _=_;rw[h'];exact mP ⟨hb,hb'⟩
def Wo{c:Ex}(h:c τ S=.ok (.tup xs) S1):m9 c τ S=.ok (tN xs) S1:=by unfold m9;rw[h];rfl
def mX{c:Ex}{n:Nat}{xs:ae}(h:c τ S=.ok (.ref n) S1)(hl:jG S1 n=some xs):m9 c τ S=.ok (lA n xs.length) S1:=by
 unfold m9;rw[h];show opt (jG S1 n) _=_;rw[hl];rfl
def Wj{c:Ex}(h:c τ S=.ok (.tup xs) S1):Ss c τ S=.ok (Ga xs) S1:=by unfold Ss;rw[h];rfl
theorem xU{s:Src}{g:Tg}{t:Te}{e:Ex}{P:jK->Prop}{T:ae->Prop}(it:Nat->A)(p:Nat->Bool)(f:Nat->A)
  (hget:∀i S,i<s.k->P S->s.get i S=some (it i)) (hfin:∀S,P S->s.fin S=true)
  (step:∀i τ S,i<s.k->T τ->P S->∃τ1 S1 S2,g (it i) τ S=.ok τ1 S1/\t τ1 S1=.ok (p i) S2/\T τ1/\(p i=false->P S2)/\(p i=true->∃S3,e τ1 S2=.ok (f i) S3/\P S3)) :
  ∀k i τ S,k+i=s.k->T τ->P S->∃S',nE s g t e k i τ S=.ok (((List.range' i k).filter p).map f) S'/\P S'
 | 0,i,τ,S,hk,hT,hP=>⟨S,by unfold nE;rw[aM (hfin S hP)];rfl,hP⟩
 | k+1,i,τ,S,hk,hT,hP=>by
  obtain⟨τ1,S1,S2,hg,ht,hT1,hF,hTr⟩:=step i τ S () hT hP;unfold nE;rw[hget i S () hP,kN,hg,R.lO,ht,R.lO,List.range'_succ,cY]
  cases hp:p i with
  | false=>
   obtain⟨S',h1,h2⟩:=xU it p f hget hfin step k (i+1) τ1 S2 () hT1 (hF hp);exact⟨S',by simpa using h1,h2⟩
  | true=>
   obtain⟨S3,he,hP3⟩:=hTr hp;obtain⟨S',h1,h2⟩:=xU it p f hget hfin step k (i+1) τ1 S3 () hT1 hP3;refine⟨S',?_,h2⟩
   skip
   rw[he,R.lO,h1];rfl
def Cf{s:Src}{src:Ic}{t:Te}{e:Ex}{S1:jK}(hs:src τ S=.ok s S1)(it:Nat->A)(p:Nat->Bool)(f:Nat->A)(hget:∀i,i<s.k->s.get i S1=some (it i))(hfin:s.fin S1=true)
  (ht:∀i,i<s.k->t (it i::lN cap τ) S1=.ok (p i) S1) (he:∀i,i<s.k->p i=true->e (it i::lN cap τ) S1=.ok (f i) S1) (hl:s.k<=16777216) :
  kZ (none::cap) src (kL 0) t e τ S=.ok (.ref S1.length) (S1++[.lst (((List.range s.k).filter p).map f)]):=by
 unfold kZ;rw[hs,R.oZ];obtain⟨S',h1,h2⟩:=xU (s:=s) (g:=kL 0) (t:=t) (e:=e) (P:=λS=>S=S1) (T:=λτ'=>∃y,τ'=y::lN cap τ) it p f (λi S hi h=>by subst h;exact hget i hi) (λS h=>by subst h;exact hfin)
  (λi τ' S hi ⟨y,hy⟩ h=>by
   subst h hy;exact⟨it i::lN cap τ,S,S,rfl,ht i hi,⟨_,rfl⟩,λ_=>rfl,λhp=>⟨S,he i hi hp,rfl⟩⟩) s.k 0 (lN (none::cap) τ) S1 rfl ⟨_,rfl⟩ rfl
 subst h2;rw[h1,R.lO,gb];refine lg ?_;rw[aH];refine bI (dP _ _) ?_;rw[List.length_range'];exact hl
def sE{α β:Type}(xs:List α)(p:α->Bool)(f:α->β):∀(d:α) ,(((List.range xs.length).filter λi=>p (xs.getD i d)).map λi=>f (xs.getD i d))=(xs.filter p).map f:=by
 intro d
 induction xs with
 | nil=>rfl
 | cons x xs ih=>
  rw[bg,gU,cY,cY];have e:((List.filter (λi=>p ((x::xs).getD i d)) (List.map Nat.succ (List.range xs.length))).map λi=>f ((x::xs).getD i d))=(xs.filter p).map f:=by
   rw[jv,bq];rw[<- ih];rfl
  show List.map _ (if p x=true then _ else _)=List.map f (if p x=true then _ else _);by_cases hp:p x=true
  ·rw[aM hp,aM hp,bD,bD,e];rfl
  ·rw[aK hp,aK hp,e]
def Av{lo hi:Int}{src:Ic}{t:Te}{e:Ex}{S1:jK}(hs:src τ S=.ok (uK lo hi) S1)(p:Int->Bool)(f:Int->A)
  (ht:∀k,lo<=k->k<hi->t (.int k::lN cap τ) S1=.ok (p k) S1) (he:∀k,lo<=k->k<hi->p k=true->e (.int k::lN cap τ) S1=.ok (f k) S1) (hl:(hi-lo).toNat<=16777216) :
  kZ (none::cap) src (kL 0) t e τ S=.ok (.ref S1.length) (S1++[.lst (((k_ lo hi).filter p).map f)]):=by
 rw[Cf hs (λi=>.int (lo+i)) (λi=>p (lo+i)) (λi=>f (lo+i)) (λi hi'=>aM hi') rfl (λi hi'=>ht _ () (by have:i<(hi-lo).toNat:=hi';lia)) (λi hi'=>he _ () (by have:i<(hi-lo).toNat:=hi';lia)) hl];unfold k_;rw[jv,bq];rfl
@[simp] theorem QH {cap:List (Option Nat)}{τ:ae}:lN (none::cap) τ=.unb::lN cap τ:=rfl
@[simp] theorem O9 {cap:List (Option Nat)}{τ:ae}{j:Nat}:lN (some j::cap) τ=τ.getD j .unb::lN cap τ:=rfl
@[simp] theorem Gv {τ:ae}:lN [] τ=[]:=rfl
theorem Ae{x:A}:qI (x::xs) 0=some x:=Ax (k:=0) rfl rfl
def J_{x:A}:qI (x::y::xs) 1=some y:=Ax (k:=1) rfl rfl
def Dv{ns:ag}{i:Int}{k:Nat}{x:Int}(h:i=k)(hx:ns[k]?=some x):qI (ns.map A.int) i=some (.int x):=Ax h (by rw[aQ,hx];rfl)
def ve{j:Int}(h:-4611686018427387904<=j)(h':j<4611686018427387904):bnd j:=⟨(),()⟩
def FL{i j:Int}(h1:-1000000<=i)(h2:i<=1000000)(h3:-1000000<=j)(h4:j<=1000000)(h5:j-i<=1000):Co i j:=⟨⟨(),(),(),()⟩,()⟩
theorem ints_map:∀(ns:ag),A.ints (ns.map .int)=some ns
 | []=>rfl
 | n::ns=>by show(A.ints (ns.map .int)).map (n::·)=_;rw[ints_map ns];rfl
theorem vJ{n:Nat}:∀(xs ys:ag),rG (tK S (n+1)) (xs.map .int) (ys.map .int)=some (decide (xs=ys))
 | [],[]=>rfl
 | [],_::_=>rfl
 | _::_,[]=>rfl
 | x::xs,y::ys=>by
  skip
  skip
  show Option.map _ (rG (tK S (n+1)) (xs.map .int) (ys.map .int))=_;rw[vJ xs ys]
  skip
  by_cases h1:x=y<;>by_cases h2:xs=ys<;>simp[h1,h2]
@[simp] theorem VB {S:jK}{x y:Bool}:rB false (.bl x) (.bl y) S=.ok (.bl (x == y)) S:=rfl
@[simp] theorem Vy {S:jK}{x y:Bool}:rB true (.bl x) (.bl y) S=.ok (.bl (!(x == y))) S:=rfl
@[simp] theorem VP {S:jK}{x y:Int}:rB false (.int x) (.int y) S=.ok (.bl (x == y)) S:=rfl
@[simp] theorem V_ {S:jK}{x y:Int}:rB true (.int x) (.int y) S=.ok (.bl (!(x == y))) S:=rfl
@[simp] theorem Jz {S:jK}:Vp false .non .non S=.ok (.bl true) S:=rfl
@[simp] theorem JU {S:jK}{xs:ae}:Vp false (.tup xs) .non S=.ok (.bl false) S:=rfl
@[simp] theorem Jr {S:jK}{n:Nat}:Vp false (.ref n) .non S=.ok (.bl false) S:=rfl
@[simp] theorem Gb {S:jK}:Vp true .non .non S=.ok (.bl false) S:=rfl
@[simp] theorem Gj {S:jK}{xs:ae}:Vp true (.tup xs) .non S=.ok (.bl true) S:=rfl
@[simp] theorem Fe {S:jK}{n:Nat}:Vp true (.ref n) .non S=.ok (.bl true) S:=rfl
@[simp] theorem K9 {S:jK}{x:A}{c:String}:AA x (.ty c) S=opt (x.kd S) λk=>opt (zC k c) λb=>.ok (.bl b) S:=rfl
@[simp] theorem Vz {S:jK}{b:Bool}:A.kd (.bl b) S=some .bl:=rfl
@[simp] theorem ND {S:jK}{b:Int}:A.kd (.int b) S=some .int:=rfl
@[simp] theorem NI {S:jK}{b:ae}:A.kd (.tup b) S=some .tup:=rfl
@[simp] theorem Nl {S:jK}:A.kd .non S=some .non:=rfl
@[simp] theorem NH {S:jK}{b:Str}:A.kd (.str b) S=some .str:=rfl
@[simp] theorem OP {S:jK}{n:Nat}:A.kd (.ref n) S=(jG S n).map λ_=>.lst:=rfl
@[simp] theorem P0 {S:jK}:newL [] S=.ok (.ref S.length) (S++[.lst []]):=lg (by simp)
@[simp] theorem O5 {S:jK}{x0:A}:newL [x0] S=.ok (.ref S.length) (S++[.lst [x0]]):=lg (by simp)
@[simp] theorem NO {S:jK}{x0 x1:A}:newL [x0,x1] S=.ok (.ref S.length) (S++[.lst [x0,x1]]):=lg (by simp)
@[simp] theorem P_ {S:jK}{x0 x1 x2:A}:newL [x0,x1,x2] S=.ok (.ref S.length) (S++[.lst [x0,x1,x2]]):=lg (by simp)
@[simp] theorem M9 {S:jK}{x0 x1 x2 x3:A}:newL [x0,x1,x2,x3] S=.ok (.ref S.length) (S++[.lst [x0,x1,x2,x3]]):=lg (by simp)
@[simp] theorem O6 {S:jK}{x0 x1 x2 x3 x4:A}:newL [x0,x1,x2,x3,x4] S=.ok (.ref S.length) (S++[.lst [x0,x1,x2,x3,x4]]):=lg (by simp)
@[simp] theorem Ng {S:jK}{x0 x1 x2 x3 x4 x5:A}:newL [x0,x1,x2,x3,x4,x5] S=.ok (.ref S.length) (S++[.lst [x0,x1,x2,x3,x4,x5]]):=lg (by simp)
@[simp] theorem Qu {S:jK}{x0 x1 x2 x3 x4 x5 x6:A}:newL [x0,x1,x2,x3,x4,x5,x6] S=.ok (.ref S.length) (S++[.lst [x0,x1,x2,x3,x4,x5,x6]]):=lg (by simp)
@[simp] theorem QL {S:jK}{x0 x1 x2 x3 x4 x5 x6 x7:A}:newL [x0,x1,x2,x3,x4,x5,x6,x7] S=.ok (.ref S.length) (S++[.lst [x0,x1,x2,x3,x4,x5,x6,x7]]):=lg (by simp)
@[simp] theorem Qh {S:jK}{x0 x1 x2 x3 x4 x5 x6 x7 x8:A}:newL [x0,x1,x2,x3,x4,x5,x6,x7,x8] S=.ok (.ref S.length) (S++[.lst [x0,x1,x2,x3,x4,x5,x6,x7,x8]]):=lg (by simp)
@[simp] theorem KG {S:jK}{x0 x1 x2 x3 x4 x5 x6 x7 x8 x9:A}:newL [x0,x1,x2,x3,x4,x5,x6,x7,x8,x9] S=.ok (.ref S.length) (S++[.lst [x0,x1,x2,x3,x4,x5,x6,x7,x8,x9]]):=lg (by simp)
theorem qh{α:Type}{n:Nat}{r:R α}(h:n<=16777216):gd (n<=sizeLine) r=r:=mP (by rw[eE];exact h)
def wu{α:Type}{n:Nat}{r:R α}(h:n<16777216):gd (n<sizeLine) r=r:=mP (by rw[eE];exact h)
def Wb {x:A}{xs:ae}:(x::xs).getD 0 .unb=x:=rfl
def U5 {x:A}{xs:ae}{n:Nat}:(x::xs).getD (n+1) .unb=xs.getD n .unb:=rfl
def Z_ {x y:A}{xs:ae}:(x::xs).set 0 y=y::xs:=rfl
def sets {x y:A}{xs:ae}{n:Nat}:(x::xs).set (n+1) y=x::xs.set n y:=rfl
def rep0 {x:A}:List.replicate 0 x=[]:=rfl
def reps {x:A}{n:Nat}:List.replicate (n+1) x=x::List.replicate n x:=rfl
def aaA {x:A}{xs ys:ae}:(x::xs)++ys=x::(xs++ys):=rfl
def Za {ys:ae}:[]++ys=ys:=rfl
def M4{S:jK}{n:Nat}{xs ys:ae}(h:jG S n=some xs)(h':jG S m=some ys)(hl:xs.length+ys.length<=16777216):lK (.ref n) (.ref m) S=.ok (.ref S.length) (S++[.lst (xs++ys)]):=by
 show opt (jG S n) _=_;rw[h,kN,h',kN];exact mP (by rw[eE];exact hl)
def kD:type_of% (anI @R.oZ (anI @R.JO (anI @R.lO (anI @RS.of_ok (anI @RS.VA (anI @kN (anI @JV (anI @La (anI @Ld (anI @JI (anI @JQ (anI @M6 (anI @JY (anI @J5 (anI @IV (anI @IW (anI @JF (anI @VO (anI @JW (anI @Ql (anI @Ju (anI @VJ (anI @Py (anI @Jt (anI @J0 (anI @QW (anI @Kx (anI @Je (anI @IY (anI @Qd (anI @OL (anI @JE (anI @N9 (anI @Gy (anI @IG (anI @Pc (anI @IS (anI @Fc (anI @Lp (anI @Lg (anI @F1 (anI @OZ (anI @N5 (anI @U6 (anI @VZ (anI @Rh (anI @FI (anI @K5 (anI @FJ (anI @Rb (anI @I_ (anI @lst?_ref (anI @RS.N3 (anI @RS.Rw (anI @RS.NF (anI @RS.Ri (anI @RS.MW (anI @Jf (anI @JC (anI @CA (anI @EN (anI @GG (anI @JD (anI @Fp (anI @QF (anI @Ka (anI @PU (anI @N4 (anI @PL (anI @Nc (anI @Nu (anI @Px (anI @IM (anI @JG (anI @F3 (anI @RS.Og (anI @RS.Ol (anI @RS.Qt (anI @OE (anI @Ob (anI @Ny (anI @Vd (anI @Vb (anI @Vo (anI @VY (anI @Vr (anI @Rf (anI @OM (anI @Qm (anI @Om (anI @QG (anI @OS (anI @JN (anI @IQ (anI @Ko (anI @K4 (anI @Cm (anI @Vu (anI @V1 (anI @Vm (anI @P8 (anI @Oa (anI @Ky (anI @J3 (anI @KO (anI @F6 (anI @FP (anI @Ov (anI @M7 (anI @VX (anI @Bu (anI @N6 (anI @Lf (anI @jT (anI @QH (anI @O9 (anI @Gv (anI @VB (anI @Vy (anI @VP (anI @V_ (anI @Jz (anI @JU (anI @Jr (anI @Gb (anI @Gj (anI @Fe (anI @K9 (anI @Vz (anI @ND (anI @NI (anI @Nl (anI @NH (anI @OP (anI @P0 (anI @O5 (anI @NO (anI @P_ (anI @M9 (anI @O6 (anI @Ng (anI @Qu (anI @QL (anI @Qh (anI @KG (anI @Wb (anI @U5 (anI @Z_ (anI @sets (anI @rep0 (anI @reps (anI @aaA (anI @Za (anI @zN (anI @Jb (anI @PD (anI @O7 (anI @U7 (anI @VI (anI @PC (anI @O0 (anI @CZ (anI @E1 (anI @QI (anI @Ll (anI @QO (anI @IP (anI @OC (anI @Ve (anI @Vs (anI @IC (anI @Ln (anI @Rg (anI @FG (anI @IX (anI @Q7 (anI @Oj (anI @QS (anI @Q9 (@Q5)))))))))))))))))))))))))))))))))))))))))))))))))))))))))))))))))))))))))))))))))))))))))))))))))))))))))))))))))))))))))))))))))))))))))))))))))))))))))))))))))))))))))))))))))))):=anI @R.oZ (anI @R.JO (anI @R.lO (anI @RS.of_ok (anI @RS.VA (anI @kN (anI @JV (anI @La (anI @Ld (anI @JI (anI @JQ (anI @M6 (anI @JY (anI @J5 (anI @IV (anI @IW (anI @JF (anI @VO (anI @JW (anI @Ql (anI @Ju (anI @VJ (anI @Py (anI @Jt (anI @J0 (anI @QW (anI @Kx (anI @Je (anI @IY (anI @Qd (anI @OL (anI @JE (anI @N9 (anI @Gy (anI @IG (anI @Pc (anI @IS (anI @Fc (anI @Lp (anI @Lg (anI @F1 (anI @OZ (anI @N5 (anI @U6 (anI @VZ (anI @Rh (anI @FI (anI @K5 (anI @FJ (anI @Rb (anI @I_ (anI @lst?_ref (anI @RS.N3 (anI @RS.Rw (anI @RS.NF (anI @RS.Ri (anI @RS.MW (anI @Jf (anI @JC (anI @CA (anI @EN (anI @GG (anI @JD (anI @Fp (anI @QF (anI @Ka (anI @PU (anI @N4 (anI @PL (anI @Nc (anI @Nu (anI @Px (anI @IM (anI @JG (anI @F3 (anI @RS.Og (anI @RS.Ol (anI @RS.Qt (anI @OE (anI @Ob (anI @Ny (anI @Vd (anI @Vb (anI @Vo (anI @VY (anI @Vr (anI @Rf (anI @OM (anI @Qm (anI @Om (anI @QG (anI @OS (anI @JN (anI @IQ (anI @Ko (anI @K4 (anI @Cm (anI @Vu (anI @V1 (anI @Vm (anI @P8 (anI @Oa (anI @Ky (anI @J3 (anI @KO (anI @F6 (anI @FP (anI @Ov (anI @M7 (anI @VX (anI @Bu (anI @N6 (anI @Lf (anI @jT (anI @QH (anI @O9 (anI @Gv (anI @VB (anI @Vy (anI @VP (anI @V_ (anI @Jz (anI @JU (anI @Jr (anI @Gb (anI @Gj (anI @Fe (anI @K9 (anI @Vz (anI @ND (anI @NI (anI @Nl (anI @NH (anI @OP (anI @P0 (anI @O5 (anI @NO (anI @P_ (anI @M9 (anI @O6 (anI @Ng (anI @Qu (anI @QL (anI @Qh (anI @KG (anI @Wb (anI @U5 (anI @Z_ (anI @sets (anI @rep0 (anI @reps (anI @aaA (anI @Za (anI @zN (anI @Jb (anI @PD (anI @O7 (anI @U7 (anI @VI (anI @PC (anI @O0 (anI @CZ (anI @E1 (anI @QI (anI @Ll (anI @QO (anI @IP (anI @OC (anI @Ve (anI @Vs (anI @IC (anI @Ln (anI @Rg (anI @FG (anI @IX (anI @Q7 (anI @Oj (anI @QS (anI @Q9 (@Q5)))))))))))))))))))))))))))))))))))))))))))))))))))))))))))))))))))))))))))))))))))))))))))))))))))))))))))))))))))))))))))))))))))))))))))))))))))))))))))))))))))))))))))))))))))
def bools:(∀b:Bool,cond false b b=b)/\(∀(α:Type) (x y:α),cond false x y=y)/\(∀(α:Type) (x y:α),cond true x y=x):=⟨λ_=>rfl,λ_ _ _=>rfl,λ_ _ _=>rfl⟩
def mz:(∀(x:Str) (xs:ar),(x::xs).length=xs.length+1)/\([]:ar).length=0/\(∀(x:A) (xs:ae),(x::xs).length=xs.length+1)/\([]:ae).length=0:=⟨λ_ _=>rfl,rfl,λ_ _=>rfl,rfl⟩
section
variable {τ:ae}{S:jK}
def Kg {f:ae->jK->R A}{d:rK}:abL f d τ S=(d τ S).bind f:=rfl
noncomputable def kRz (c:Str):Unit->jK->RS:=λ_ S1=>.ex c S1
def P5 {c:Str}{u:Unit}:kRz c u S=.ex c S:=rfl
def Cz {c:Str}{ps:List (Str ⊕ Ex)}:WN c ps τ S=RS.of (SG ps τ S) (kRz c):=rfl
def Iz:SG [] τ S=.ok Unit.unit S:=rfl
def IF {x:Str}{ps:List (Str ⊕ Ex)}:SG (.inl x::ps) τ S=SG ps τ S:=rfl
noncomputable def kFs (ps:List (Str ⊕ Ex))(τ:ae):A->jK->R Unit:=λv S1=>match v with
 | .int i=>gd (i.natAbs.log2<64) (SG ps τ S1)
 | _=>.no
def Jo {e:Ex}{ps:List (Str ⊕ Ex)}:SG (.inr e::ps) τ S=(e τ S).bind (kFs ps τ):=rfl
noncomputable def RS.try (i n:Nat)(cs:ar)(d:Sm):RS->RS
 | .ex x S1=>if x∈cs then U9 i (d ((List.replicate n .unb).set i (.exn x)) S1)else .no
 | r=>r
def K6 {i n:Nat}{cs:ar}{c d:Sm}:aax i n cs c d τ S=RS.try i n cs d (c τ S):=by
 unfold aax RS.try;cases c τ S<;>rfl
def O8 {i n:Nat}{cs:ar}{d:Sm}:RS.try i n cs d (.nx τ S)=.nx τ S:=rfl
def Nf {i n:Nat}{cs:ar}{d:Sm}{a:A}:RS.try i n cs d (.rt a S)=.rt a S:=rfl
def OG {i n:Nat}{x:Str}{cs:ar}{d:Sm}:RS.try i n (x::cs) d (.ex x S)=U9 i (d ((List.replicate n .unb).set i (.exn x)) S):=aM (.head _)
def Qz {i:Nat}{a:A}:U9 i (.rt a S)=.rt a S:=rfl
def Nm {i:Nat}:U9 i (.nx τ S)=.nx (τ.set i .unb) S:=rfl
noncomputable def Zv (f:Str->Option Bool):A->jK->R A:=λv S1=>match v with
 | .exn x=>opt (f x) λb=>.ok (.bl b) S1
 | _=>.no
def JZ {f:Str->Option Bool}{c:Ex}:abG f c τ S=(c τ S).bind (Zv f):=rfl
def Na {x:Str}{b:Bool}{tb:List (Str×Bool)}:Zv (tbX ((x,b)::tb)) (.exn x) S=.ok (.bl b) S:=by
 show opt (List.lookup x ((x,b)::tb)) _=_;rw[gr,bP];rfl
noncomputable def R.O3 {α β:Type}(r:R α)(f:α->jK->R β):R β:=match r with
 | .ok a S=>f a S
 | _=>.no
def F2 {α β:Type}{a:α}{f:α->jK->R β}:R.O3 (.ok a S) f=f a S:=rfl
def JL {f:ae->jK->R A}{d:rK}:Z4 f d τ S=R.O3 (d τ S) f:=by unfold Z4 R.O3;cases d τ S<;>rfl
noncomputable def RS.ofK {α:Type}(r:R α)(f:α->jK->RS):RS:=match r with
 | .ok a S=>f a S
 | _=>.no
def O1 {α:Type}{a:α}{f:α->jK->RS}:RS.ofK (.ok a S) f=f a S:=rfl
def KP {t:Te}{c d:Sm}:ZQ t c d τ S=RS.ofK (t τ S) (kIf c d τ):=by
 unfold ZQ RS.ofK
 cases t τ S with
 | ok b S1=>cases b<;>rfl
 | ex _ _=>rfl
 | no=>rfl
noncomputable def RS.Pk (i:Nat)(cs:ar)(d:Sm)(τ:ae):RS->RS
 | .ex x S1=>if x∈cs then U9 i (d (τ.set i (.exn x)) S1)else .no
 | r=>r
def Gs {i:Nat}{cs:ar}{c d:Sm}:Vc i cs c d τ S=RS.Pk i cs d τ (c τ S):=by
 unfold Vc RS.Pk;cases c τ S<;>rfl
def Lq {i:Nat}{cs:ar}{d:Sm}{τ':ae}:RS.Pk i cs d τ (.nx τ' S)=.nx τ' S:=rfl
def K7 {i:Nat}{cs:ar}{d:Sm}{a:A}:RS.Pk i cs d τ (.rt a S)=.rt a S:=rfl
def Jk {i:Nat}{x:Str}{cs:ar}{d:Sm}:RS.Pk i (x::cs) d τ (.ex x S)=U9 i (d (τ.set i (.exn x)) S):=aM (.head _)
def ER:A.RM []=some []:=rfl
def vP {b:Bool}{xs:ae}:A.RM (.bl b::xs)=(A.RM xs).map (b::·):=rfl
end
def sI:type_of% (anI @Kg (anI @Cz (anI @P5 (anI @Iz (anI @IF (anI @Jo (anI @K6 (anI @O8 (anI @Nf (anI @OG (anI @Qz (anI @Nm (anI @JZ (anI @Na (anI @ER (anI @vP (anI @F2 (anI @JL (anI @O1 (anI @KP (anI @Gs (anI @Lq (anI @K7 (anI @Jk (trivial))))))))))))))))))))))))):=anI @Kg (anI @Cz (anI @P5 (anI @Iz (anI @IF (anI @Jo (anI @K6 (anI @O8 (anI @Nf (anI @OG (anI @Qz (anI @Nm (anI @JZ (anI @Na (anI @ER (anI @vP (anI @F2 (anI @JL (anI @O1 (anI @KP (anI @Gs (anI @Lq (anI @K7 (anI @Jk (trivial))))))))))))))))))))))))
end Am
namespace L2
open PySem PySem.Spec PyProof.Rows
section
variable {P:aj}{w:ah}{A:az}{E:af->aA->Prop}{s:aA}{it d:ak}{i ep:Nat}{es:Array DictEntry}{o:Obj}
def Yr{Q:Option af->aA->Prop}(hi:s.heap.IsKeyIter it d i es.size ep)(ho:s.heap.get? d=some o)(hd:o.data=.dict es ep)(lt:i<es.size)
  (q:∀h',h'.IsKeyIter it d (i+1) es.size ep->Heap.SameBut it s.heap h'->Q (some es[i].key) { s with heap:=h' }):wpAny (model P w) A (pyNext (.ref it)) Q E s:=by
 have ty:=hi.typeIs;obtain⟨oi,hoi,hci,hdi⟩:=id hi;have own:Builtin.Dict_items.ownsTuple "dict_keyiterator" = false:=by decide
 have nn:¬((Value.ref d == Value.none)=true):=bH;have n0:¬((i:Int)<0):=()
 unfold pyNext;refine aG (iI (c7 (name:=Str.ofString "__next__") ty cU (cR cU ty gE ?_ (gA _))));refine aG (aS (aG (aG ?_)))
 first
  | refine aG (dX ty (aS (aG (ja hoi hdi ?_))))
  | refine aG (fG ty (aS (aG (ja hoi hdi ?_))))
 dsimp[own,b9,bB];show wpAny (model P w) _ (if (Value.ref d == Value.none)=true then _ else _) _ _ s;rw[aK nn];refine aG (aS (aG (jf ho hd ?_)));rw[aK (show ¬_ by simp)];refine aG (aS (aG (wpAny_dictEpoch ho hd ?_)));rw[aK (show ¬_ by simp)];refine aS ?_;dsimp[n0,b9,cZ,Array.getElem?_eq_getElem lt];refine aG ?_
 first
  | refine aG (dX ty (aS (aG (iC ty ?_))))
  | refine aG (fG ty (aS (aG (iC ty ?_))))
 show wpAny (model P w) _ (setField (.ref it) 1 (rawInt ((i:Int)+1)) >>= _) _ _ s;refine aG (gY hoi hdi (show _ by simp) ?_);have hi':(s.heap.update it (Obj.mapFields λfs=>fs.setIfInBounds 1 (rawInt ((i:Int)+1)))).IsKeyIter it d (i+1) es.size ep:=
  ⟨_,f6 _ hoi (iA (eO hdi _)),(jd ..).trans hci,by
   rw[eO hdi];simp[rawInt]⟩
 have ty':Shared.TypeIs { s with heap:=s.heap.update it (Obj.mapFields λfs=>fs.setIfInBounds 1 (rawInt ((i:Int)+1)))} (.ref it) "dict_keyiterator" := Heap.IsKeyIter.typeIs (s:={ s with heap:=_ }) hi';refine aG (dH (aG (iC ty' ?_)))
 skip
 exact aS (aS ⟨_,rfl,aS (q _ hi' (fM ..))⟩)
def UU{Q:Option af->aA->Prop}(hh:A.handled=none)(hi:s.heap.IsKeyIter it d i es.size ep)(ho:s.heap.get? d=some o)(hd:o.data=.dict es ep)(ge:es.size<=i)
  (q:∀h',Heap.ExtBut it s.heap h'->Q none { s with heap:=h' }):wpAny (model P w) A (pyNext (.ref it)) Q E s:=by
 have ty:=hi.typeIs;obtain⟨oi,hoi,hci,hdi⟩:=id hi;have own:Builtin.Dict_items.ownsTuple "dict_keyiterator" = false:=by decide
 have nn:¬((Value.ref d == Value.none)=true):=bH;have n0:¬((i:Int)<0):=()
 unfold pyNext;refine aG (iI (c7 (name:=Str.ofString "__next__") ty cU (cR cU ty gE ?_ (gA _))));refine aG (aS (aG (aG ?_)))
 first
  | refine aG (dX ty (aS (aG (ja hoi hdi ?_))))
  | refine aG (fG ty (aS (aG (ja hoi hdi ?_))))
 dsimp[own,b9,bB];show wpAny (model P w) _ (if (Value.ref d == Value.none)=true then _ else _) _ _ s;rw[aK nn];refine aG (aS (aG (jf ho hd ?_)));rw[aK (show ¬_ by simp)];refine aG (aS (aG (wpAny_dictEpoch ho hd ?_)));rw[aK (show ¬_ by simp)];refine aS ?_;dsimp[n0,b9,cZ,iu ge];refine aG ?_
 first
  | refine aG (dX ty (aS ?_))
  | refine aG (fG ty (aS ?_))
 show wpAny (model P w) _ (setField (.ref it) 0 .none >>= _) _ _ s;refine aG (gY hoi hdi (show _ by simp) ?_)
 skip
 refine aG ?_;dsimp[newExc,newTuple];refine aG (ck (aG (m:=firstArgMember _ _) (iK (a:=Value.none) (by first|rfl|(dsimp[firstArgMember];rfl)) (ck ?_ (by size_fits)))) (by size_fits));dsimp[raiseNew];have hn:A.in1.handled=none:=hh;refine aG (wpAny_handled (?_));rw[hn];refine aG (aS (wpAny_throw (?_)));refine aG (wpAny_isInstance (b:=true) (T := "StopIteration") ⟨_,bC _ rfl,rfl⟩ isSubtype_stop (aS (q _ (((fM ..).extBut.push _).push _))))
def HJ{Q:af->aA->Prop}(ty:s.TypeIs (.ref d) "dict")(hs:(d == sysModules)=false)(ho:s.heap.get? d=some o)(hd:o.data=.dict es ep)
  (q:Q (.ref s.heap.objs.size) { s with heap:=s.heap.push { cls:=.type "dict_keyiterator",data:=.fields #[.ref d,.int 0 0,.int es.size 0,.int ep 0]}}):wpAny (model P w) A (pyIter (.ref d)) Q E s:=by
 refine wpAny_pyIter_slot ty PySem.F.slot_dict_iter (cR PySem.F.slot_dict_iter ty PySem.F.entry_dict_iter ?_ (PySem.F.args_dict_iter_1 _));delta Builtin.«dict.__iter__»;refine aG ?_;delta Builtin.Dict.dictSlotNone;refine aG (wpAny_notOrdered_dict ty ?_)
 skip
 refine aS ?_;show wpAny (model P w) _ (Builtin.Dict.showsAll d >>= _) _ _ s;delta Builtin.Dict.showsAll;have nd:¬((d == sysModules)=true):=by rw[hs];exact bH
 rw[aK nd];refine aG (aS (aG (jf ho hd (aG (wpAny_dictEpoch ho hd ?_)))));refine aG (ck (aS ⟨_,rfl, "dict_keyiterator",_,⟨_,bC _ rfl,rfl⟩,cU.lookup,?_⟩));simpa[rawInt]using q
end
section
variable {P:aj}{w:ah}
def Mw{A:az}(hh:A.handled=none)(it d:ak)(ne:d≠it){es:Array DictEntry}{o:Obj}(hd:o.data=.dict es ep) :
  Walks P w A it [it,d] [it] es.size (λi v=>(es[i]?).map (λe=>e.key)=some v) (λi h=>h.IsKeyIter it d i es.size ep/\h.get? d=some o) where
 sub:=λb hb=>by
  rw[aP.mp hb];exact aJ ..
 frame:=λ_ _ _ st hk=>⟨st.1.at λx e=>hk it (aJ ..) x e,hk d (aL _ (aJ ..)) o st.2⟩
 item:=λi s Q E lt st q=>Yr st.1 st.2 hd lt λh' k1 k2=>q _ h' s.toks (by rw[Array.getElem?_eq_getElem lt];rfl) ⟨k1,k2.extBut d o ne st.2⟩ λb x nb e=>k2.extBut b x (λz=>nb (aP.mpr z)) e
 done:=λs Q E st q=>UU hh st.1 st.2 hd (aO _) λh' k=>q h' s.toks λb x nb e=>k b x (λz=>nb (aP.mpr z)) e
 self:=λ_ _ _ _ st q=>wpAny_pyIter_keyiter st.1 q
def Ud{es:Array DictEntry}{o:Obj}(hs:(d == sysModules)=false)(hc:o.cls=.type "dict")(hd:o.data=.dict es ep) :
  PySem.W.KdlSrc P w "dict" d d es.size (λi v=>(es[i]?).map (λe=>e.key)=some v) (λh=>h.get? d=some o) where
 type:=λ_ hm=>⟨o,hm,hc⟩
 there:=λ_ hm=>⟨bh hm,bh hm⟩
 keep:=λ_ _ hm hk=>hk d (.inl rfl) o hm
 notList:=by decide
 notTuple:=by decide
 hint:=λ_ _ _ _ hm hq=>PySem.W.kdl_hint_dict ⟨o,hm,hc⟩ hq
 iter:=λ_ s hh hm=>⟨_,_,(λ_ _ hq=>HJ ⟨o,hm,hc⟩ hs hm hd hq),Mw hh _ d (bF (bh hm)) hd,⟨⟨_,bC _ rfl,rfl,rfl⟩,aV _ hm⟩⟩
end
section
variable {X:Cx}
def Yi{H:Hp}{s:aA}{kvs:List (List Key×V)}(I:Inv X pins σ H s)(ed:H d=some (.dT kvs)) :
  ∃(ob:Obj) (es:Array DictEntry) (ep:Nat) (rs:bb),s.heap.get? d=some ob/\ob.cls=.type "dict" /\ ob.data=.dict es ep/\(d == sysModules)=false/\kvs.length<=sizeLine/\rs.length=kvs.length/\es.size=kvs.length /\
   (∀i:Nat,(es[i]?).map (λe:DictEntry=>e.key)=(rs[i]?).map Value.ref)/\∀(i:Nat) r p,rs[i]?=some r->kvs[i]?=some p->H r=some (.tup (p.1.map kV)):=by
 obtain⟨z,hd,xs,rel,dd⟩:=P4 I.hok ed;obtain⟨ob,es,ep,g1,g2,g3,g4,g5,g6⟩:=id dd;obtain⟨kl,kt⟩:=kt_at rel;have hes:es.size=xs.length:=by have:=dB List.length g4;simpa using this
 refine⟨ob,es,ep,xs.map λy=>y.2.1,g1,g2.1,g3,hd,z,by rw[aH,kl],by rw[hes,kl],λi=>?_,λi r p e1 e2=>?_⟩
 ·rw[<- eW,g4,aQ,aQ,gh,gh]
  cases xs[i]?<;>rfl
 ·obtain⟨y,h1,h2,h3,h4⟩:=kt i p e2;rw[aQ,h1]at e1
  cases e1
  exact h3
def Et(hc:X.calm=true):kJ X (.builtin "sorted") (λxs H Q=>∃(d:ak) (kvs:List (List Key×V)) (kss:List (ag)),xs=[.ref d]/\H d=some (.dT kvs)/\kvs.map (λp=>p.1)=kss.map (λks=>ks.map Sum.inl)/\(∀ks∈kss,ks≠[]) /\
  ∀(rs:bb) l g,rs.length=kss.length->(∀(i:Nat) (r:ak) (ks:ag),rs[i]?=some r->kss[i]?=some ks->H r=some (.tup (ks.map V.int)))->H l=none->Sx.Cl g 0 kss.length->Sx.So (Sx.BY kss) g 0 kss.length ->
   Q (.ref l) (upd H l (.lst (((List.range kss.length).map λi=>rs.getD (g i) 0).map V.ref)))):=by
 w_up;obtain⟨d,kvs,kss,rfl,ed,ek,hne,q⟩:=h;obtain⟨u,rfl,rx⟩:=vals1 r
 cases rx
 obtain⟨ob,es,ep,rs,g1,g2,g3,g4,g5,g6,g7,g8,g9⟩:=Yi I ed;have kl:kvs.length=kss.length:=by have:=dB List.length ek;simpa using this
 have tp:∀(i:Nat) (r:ak) (ks:ag),rs[i]?=some r->kss[i]?=some ks->H r=some (.tup (ks.map V.int)):=λi r ks e1 e2=>by
  have lt:i<kvs.length:=by rw[kl];exact(aN.mp e2).1
  have h1:=g9 i r kvs[i] e1 (aF lt);have h2:(kvs.map (λp=>p.1))[i]?=(kss.map (λks=>ks.map Sum.inl))[i]?:=by rw[ek]
  rw[aQ,aQ,e2,aF lt]at h2;have h3:kvs[i].1=ks.map Sum.inl:=a_ h2;rw[h3,bq]at h1;exact h1
 refine gw kind_sorted plain_sorted entry_sorted (args_sorted1 _) ?_;unfold Builtin.«sorted»;refine aG (m:=checkCount "sorted" 1 1 _) (aS ?_);refine aG (PySem.W.kdu_collect (Ud g4 g2 g3) (show X.A.in1.handled=none from I.ok.hd hc) g1 (by rw[g7];exact g5) λh' tk acc hk hacc=>?_);have ea:acc.toList=rs.map Value.ref:=by
  refine cT λj=>?_;rw[eW,aQ,<- g8 j]
  cases e:acc[j]? with
  | some v=>exact(hacc.2 j v e).symm
  | none=>
   have:acc.size<=j:=Array.getElem?_eq_none_iff.mp e;rw[iu (by rw[<- hacc.1];exact this)];rfl
 rw[ea];exact Mj (s:=s) (I.kept (t':=tk) hk) (by rw[g6,kl]) (by rw[g6];exact g5) (λi r ks e1 e2=>⟨ni.of (tp i r ks e1 e2),hne ks (aW e2)⟩) λl g h1 h2 h3=>q rs l g (by rw[g6,kl]) tp h1 h2 h3
end
section
variable {P:aj}{w:ah}{A:az}{E:af->aA->Prop}{s:aA}
def Mq:typeLookup (.type "list") "keys" = pure none:=am_miss_of_fast (by kernel_rfl)
def L_{a:ak}{o:Obj}{k:Nat}{Q:Option af->aA->Prop}(hx:s.heap.get? a=some o)(hc:o.cls=.type "list")(hdat:o.data=.seq xs k)(hd:o.dict=none)(hA:A.handled=none)
  (h:∀h' tk,(∀b ob,s.heap.get? b=some ob->h'.get? b=some ob)->Q none { s with heap:=h',toks:=tk }):wpAny (model P w) A (getAttr? (.ref a) "keys") Q E s:=by
 obtain⟨c,dct,dat,sl⟩:=o;simp only at hc hdat hd;subst hc hdat hd;obtain⟨hp,g,d,tk,os⟩:=s;have hT:∀tk',(⟨hp,g,d,tk',os⟩:aA).TypeIs (.ref a) "list" := λ_=>⟨_,hx,rfl⟩;have f1:=sub_AttributeError;have f3:=gF.lookup;have f4:=gF.bind (.ref a);have f5:=am_list_getattr_none;unfold getAttr? getAttrBy? getAttrBy
 repeat (any_goals (first|assumption|exact hT _|((with_reducible show wpAny _ _ (call (Value.builtin "list.__getattribute__") _ _) _ _ _);refine i7 gF (hT _) am_entry_list_getattribute (F.args_list_getattribute_2 _ _) (meets_getattribute_miss_list a xs k sl "keys" _ Mq ⋯ (by size_fits)) ⟨hx,hA,λh' tk' e hx'=>?_⟩)|wp_step))
 obtain⟨t',u',he⟩:=hx'.there
 skip
 unfold getattributeRaised
 repeat (any_goals (first|assumption|wp_step))
 exact h _ _ hx'.keeps
def CV:entryFor table "dict.update.loop" = some Builtin.«dict.update.loop»:=entryFor_of_tree (by kernel_rfl)
def vB:plainId "dict.update.loop" = true:=by decide +kernel
noncomputable def M8 (h:aq)(d I:ak)(its:ba)(ps:List (Int×af)):Prop:=∀(i:Nat) (v:af),its[i]?=some v->∃(b:ak) (p:Int×af) (t:Tok),v=.ref b/\b≠d/\b≠I/\ps[i]?=some p/\IsTup h b #[.int p.1 t,p.2]
def M8.mono{h h':aq}(x:M8 h d I its ps)(k:∀b o,b≠d->b≠I->h.get? b=some o->h'.get? b=some o):M8 h' d I its ps:=λi v hv=>by
 obtain⟨b,p,t,h1,h2,h3,h4,o,h5,h6⟩:=x i v hv;exact⟨b,p,t,h1,h2,h3,h4,o,k b o h2 h3 h5,h6⟩
noncomputable def XT (ps:List (Int×af)):List (Key×af):=ps.foldl (λacc p=>stored acc (Sum.inl p.1) p.2) []
def Pw(ps:List (Int×af))(i:Nat)(p:Int×af)(h:ps[i]?=some p):XT (ps.take (i+1))=stored (XT (ps.take i)) (Sum.inl p.1) p.2:=by
 unfold XT;rw[c5,h,c6];rfl
theorem JP:∀(ps:List (Int×af)) (acc:List (Key×af)),(ps.foldl (λacc p=>stored acc (Sum.inl p.1) p.2) acc).length<=acc.length+ps.length
 | [],acc=>aO _
 | p::ps,acc=>by
  have:=JP ps (stored acc (Sum.inl p.1) p.2);have h:(stored acc (Sum.inl p.1) p.2).length<=acc.length+1:=by
   unfold stored;split
   ·rw[aH];lia
   ·rw[aR];exact aO _
  rw[eZ,bg];lia
def Od{R:Result->aA->Prop}{I l:ak}{St:Nat->aq->Prop}{its:ba}{ps:List (Int×af)}(W:Walks P w A.in1 I [I,l] [I] its.length (λi v=>its[i]?=some v) St)(hdI:d≠I)(hdl:d≠l)(hl:ps.length=its.length)(hz:ps.length<=sizeLine) :
  ∀(k i:Nat) (s:aA),its.length-i=k->i<=its.length->St i s.heap->s.heap.DictOf (kP P w) d (XT (ps.take i))->M8 s.heap d I its ps ->
   (∀h' tk,h'.DictOf (kP P w) d (XT ps)->(∀b o,b≠d->b≠I->s.heap.get? b=some o->h'.get? b=some o)->R (.ok (.ret .none)) { s with heap:=h',toks:=tk }) ->
   codeAny (model P w) A (.builtin "dict.update.loop" ⟨[.ref d,.ref I,rawInt i,.none],[]⟩) R s:=by
 intro k
 induction k with
 | zero=>
  intro i s hk hi hst hD hP hR;have hin:i=its.length:=()
  subst hin;refine gJ CV ?_;rw[gc vB _]
  skip
  refine aG (W.done s _ _ hst λh' tk hm=>?_)
  skip
  refine aG (aS (aS (hR h' tk ?_ λb o _ h2 e=>hm b o (by simpa using h2) e)));rw[<- hl,dc]at hD;obtain⟨o,es,ep,ho,rest⟩:=hD;exact⟨o,es,ep,hm d o (by simpa using hdI) ho,rest⟩
 | succ k ih=>
  intro i s hk hi hst hD hP hR;have hlt:i<its.length:=()
  refine gJ CV ?_;rw[gc vB _]
  skip
  refine aG (W.item i s _ _ hlt hst λv h' tk hv hst' hm=>?_);have hP':M8 h' d I its ps:=hP.mono λb o h1 h2 e=>hm b o (by simpa using h2) e;obtain⟨b,p,t,rfl,hbd,hbI,hp,o,ho,hc,n,hd⟩:=hP' i v hv;have hD':h'.DictOf (kP P w) d (XT (ps.take i)):=by
   obtain⟨o,es,ep,ho,rest⟩:=hD;exact⟨o,es,ep,hm d o (by simpa using hdI) ho,rest⟩
  have hT:Shared.TypeIs { s with heap:=h',toks:=tk } (.ref b) "tuple" := ⟨o,ho,hc⟩;have hpair:∀(A:az) (E:af->aA->Prop) (Q:ba->aA->Prop),Q [.int p.1 t,p.2] { s with heap:=h',toks:=tk }->wpAny (model P w) A (Builtin.Dict.pairItems (.ref b)) Q E { s with heap:=h',toks:=tk }:=λA E Q q=>by
   unfold Builtin.Dict.pairItems;refine aG (gp hT ?_);rw[aM ⋯];refine aG (i8 ho hd (aS q))
  have hlen:(XT (ps.take i)).length<=sizeLine:=by
   refine bI (JP (ps.take i) []) ?_;rw[bK,bQ];lia
  refine aG (dH (aG (wpAny_tryCatch (hpair _ _ _ ?_))))
  skip
  refine dH (wpAny_dictSet_pairs (hsz:=hlen) (knd:=kP P w) (k:=Sum.inl p.1) (s:={ s with heap:=h',toks:=tk }) (show Value.isInt p.1 (.int p.1 t)=true by simp[Value.isInt]) hD' λh2 hD2 hs=>?_);refine aS ⟨plainId_quiet vB _,?_⟩;have hsame:∀b o,b≠d->b≠I->s.heap.get? b=some o->h2.get? b=some o:=λb o h3 h4 e=>by rw[hs.2 b h3];exact hm b o (by simpa using h4) e
  refine ih (i+1) _ () hlt (W.frame _ _ _ hst' λb hb o e=>?_) (by rw[Pw ps i p hp];exact hD2) (hP.mono hsame) λh3 tk3 hD3 hs3=>hR h3 tk3 hD3 λb o h4 h5 e=>hs3 b o h4 h5 (hsame b o h4 h5 e);have hne:b≠d:=by
   intro z;subst z
   rcases bw.mp hb with z|z
   ·exact hdI z
   ·exact hdl (by simpa using z)
  skip
  rw[hs.2 b hne];exact e
theorem CP{H:Hp}{X:Cx}(I:Inv X pins σ H s):∀(rs:bb) (ps:List (Int×V)),rs.length=ps.length->(∀(i:Nat) (r:ak) (q:Int×V),rs[i]?=some r->ps[i]?=some q->ni X.K H r [.int q.1,q.2]) ->
  ∃qs:List (Int×af),KV ps qs/\∀(i:Nat) (r:ak),rs[i]?=some r->∃q t,qs[i]?=some q/\IsTup s.heap r #[.int q.1 t,q.2]
 | [],[],_,_=>⟨[],.nil,λi r h=>by simp at h⟩
 | [],_::_,h,_=>nomatch h
 | _::_,[],h,_=>nomatch h
 | r::rs,p::ps,hl,hh=>by
  obtain⟨qs,h1,h2⟩:=CP I rs ps (by simpa using hl) λi r q e1 e2=>hh (i+1) r q (by simpa using e1) (by simpa using e2);obtain⟨its,rv,tp,_⟩:=I.tuple (hh 0 r p rfl rfl);obtain⟨u1,u2,rfl,r1,r2⟩:=vals2 rv;obtain⟨t,rfl⟩:∃t,u1=Value.int p.1 t:=r1;refine⟨(p.1,u2)::qs,.cons ⟨rfl,r2⟩ h1,λi r' e=>?_⟩
  cases i with
  | zero=>cases e;exact⟨(p.1,u2),t,rfl,tp⟩
  | succ i=>exact h2 i r' (by simpa using e)
noncomputable def ptP (ps:List (Int×V)):List (Key×V):=ps.foldl (λacc p=>putK acc (Sum.inl p.1) p.2) []
def aaw:∀{ps:List (Int×V)}{qs:List (Int×af)},KV ps qs->∀{as:List (Key×V)}{bs:List (Key×af)},KV as bs->KV (ps.foldl (λacc p=>putK acc (Sum.inl p.1) p.2) as) (qs.foldl (λacc p=>stored acc (Sum.inl p.1) p.2) bs):=by
 intro ps qs h;unfold KV at h
 induction h with
 | nil=>exact λh=>h
 | @cons p q ps qs h t ih=>
  intro as bs h2;rw[eZ,eZ];obtain⟨e,r⟩:=h;rw[e];exact ih (h2.put _ r)
theorem Ja:∀(ps:List (Int×V)) (acc:List (Key×V)),(ps.foldl (λacc p=>putK acc (Sum.inl p.1) p.2) acc).length<=acc.length+ps.length
 | [],acc=>aO _
 | p::ps,acc=>by
  have:=Ja ps (putK acc (Sum.inl p.1) p.2);have:=um acc (Sum.inl p.1) p.2;rw[eZ,bg];lia
end
section
variable {X:Cx}
def G3(hc:X.calm=true):kJ X (.type "dict") (λxs H Q=>∃(p:ak) (rs:bb) (ps:List (Int×V)),xs=[.ref p]/\pL X.K H p (rs.map V.ref)/\rs.length=ps.length /\
  (∀(i:Nat) (r:ak) (q:Int×V),rs[i]?=some r->ps[i]?=some q->ni X.K H r [.int q.1,q.2])/\∀l,H l=none->Q (.ref l) (upd H l (.dK (ptP ps)))):=by
 w_up;obtain⟨p,rs,ps,rfl,hq,hlen,hT,q⟩:=h;obtain⟨u,rfl,rx⟩:=vals1 r
 cases rx
 obtain⟨its,rv,pl,hz⟩:=I.list hq;have ei:=yr rv;subst ei;rw[aH]at hz;obtain⟨qs,kv,tp⟩:=CP I rs ps hlen hT;have ql:ps.length=qs.length:=kv.length;obtain⟨o,n,ho,hcl,hdn,hd⟩:=pl;have lp:p<s.heap.objs.size:=bh ho;refine callType_codes (Q₁:=λobj s₁=>obj=.ref s.heap.objs.size/\s₁={ s with heap:=s.heap.push { cls:=.type "dict",data:=.dict #[]}}) F.kt_called_dict (F.kt_typeCall_dict_1 _) F.entry_dict_init (kt_code_dict_new _ ⟨rfl,rfl⟩) ?_;rintro obj s₁ ⟨rfl,rfl⟩;have hnew:(s.heap.push { cls:=.type "dict",data:=.dict #[]}).DictOf (kP X.prog X.w) s.heap.objs.size []:=Heap.DictOf.new s.heap;have ho':(s.heap.push { cls:=.type "dict",data:=.dict #[]}).get? p=some o:=aV _ ho;have hTy:Shared.TypeIs { s with heap:=s.heap.push { cls:=.type "dict",data:=.dict #[]}} (.ref p) "list" := ⟨o,ho',hcl⟩;refine⟨hnew.typeIs,F.args_dict_init_2 _ _,?_⟩;unfold Builtin.«dict.__init__»;refine aG ?_;unfold Builtin.Dict.selfAndRest;refine aG (wpAny_notOrdered_dict hnew.typeIs ?_)
 skip
 refine aS ?_;show wpAny _ _ (Builtin.Dict.updateFrom "dict.__init__" s.heap.objs.size (.ref p) [] .none) _ _ _;unfold Builtin.Dict.updateFrom;refine aG (gp hTy ?_);rw[aM ⋯];refine aG (L_ ho' hcl hd hdn (show X.A.in1.in1.handled=none from I.ok.hd hc) λh' tk hk=>?_);rw[aM (by rfl)];refine aG (eS ?_);have hl2:h'.IsList p (rs.map Value.ref).toArray:=⟨o,hk p o ho',hcl,n,hd⟩;refine aG (jc (s:={ s with heap:=h',toks:=tk }) hl2 ?_);refine aS ⟨plainId_quiet vB _,?_⟩;have sz:s.heap.objs.size<h'.objs.size:=bh (hk _ _ (bC _ rfl));have W:Walks X.prog X.w X.A.in1.in1 h'.objs.size [h'.objs.size,p] [h'.objs.size] (rs.map Value.ref).length (λi v=>(rs.map Value.ref)[i]?=some v) (λi h=>h.IsListIter h'.objs.size p i/\h.IsList p (rs.map Value.ref).toArray):=by
  have W:=Walks.list (prog:=X.prog) (w:=X.w) (A:=X.A.in1.in1) (I.ok.hd hc) h'.objs.size p (bF (bh (hk p o ho'))) (rs.map Value.ref).toArray;rw[aY]at W;dsimp[eX]at W;exact W
 refine Od (d:=s.heap.objs.size) (its:=rs.map Value.ref) (ps:=qs) W (bF sz) (dj (bF lp)) (by rw[aH];lia) () (rs.map Value.ref).length 0 _ () (bL _)
  ⟨⟨_,bC _ rfl,rfl,rfl⟩,hl2.push _⟩ ?_ (λi v hv=>?_) λh2 tk2 hD hs=>⟨rfl,.ref s.heap.objs.size,_,I.laid (t':=tk2) (o:=.dK (ptP ps)) (λb ob eb=>?_) (aO _) ?_,rfl,q _ (I.hok.fresh (aO _))⟩
 ·obtain⟨o,es,ep,e,rest⟩:=hnew;exact⟨o,es,ep,aV _ (hk _ _ e),rest⟩
 ·rw[aQ]at hv;obtain⟨r,hr,rfl⟩:=aX.mp hv;obtain⟨q,t,h1,o2,h2,h3⟩:=tp i r hr;have lr:=bh h2;exact⟨r,q,t,rfl,bF lr,bF (lt_trans lr sz),h1,o2,aV _ (hk _ _ (aV _ h2)),h3⟩
 ·have lb:=bh eb;exact hs b ob (bF lb) (bF (lt_trans lb sz)) (aV _ (hk _ _ (aV _ eb)))
 ·refine NG (bI (Ja ps []) (by rw[bQ];lia)) ?_ (aaw kv .nil) hD;exact d_.mpr (dj (bF I.big))
noncomputable def Se (ns:ag):Sx.Ord where
 lt i j:=decide (ns.getD i 0<ns.getD j 0)
 MV i:=bu ()
 tr i j k h1 h2:=bf (by have:=bV h1;have:=bV h2;lia)
 neg i j k h:=by
  have:=bV h;by_cases c:ns.getD i 0<ns.getD j 0
  ·exact .inl (bf c)
  ·exact .inr (bf ())
theorem zX:∀{vs:ba}{ns:ag},IntsAre vs ns->vs.length=ns.length/\∀i,i<vs.length->∃t,vs.getD i .none=.int (ns.getD i 0) t
 | _,_,.nil=>⟨rfl,λi h=>absurd h (e_ _)⟩
 | _,_,.cons n t h=>by
  obtain⟨h1,h2⟩:=zX h;refine⟨dB (·+1) h1,λi hi=>?_⟩
  cases i with
  | zero=>exact⟨t,rfl⟩
  | succ i=>exact h2 i (by simpa using hi)
theorem A9{f:Nat->Int}{h:Nat->af}:∀(l:am),(∀i∈l,∃t,h i=.int (f i) t)->Vals (l.map λi=>V.int (f i)) (l.map h)
 | [],_=>.nil
 | i::l,e=>.cons (e i (aJ ..)) (A9 l λj hj=>e j (aL _ hj))
def Im{s:aA}{H:Hp}{Q:VK}{h':aq}{tk:Nat}{vs:ba}{ns:ag}(I1:Inv X pins σ H { s with heap:=h',toks:=tk })(hi:IntsAre vs ns)(hz:vs.length<=sizeLine)
  (q:∀l g,H l=none->Sx.Cl g 0 ns.length->Sx.So (Se ns) g 0 ns.length->Q (.ref l) (upd H l (.lst ((List.range ns.length).map λi=>V.int (ns.getD (g i) 0))))) :
  wpAny (model X.prog X.w) X.A.in1 (do
   let l <- newList vs
   let _ <- holding [l] (call (Value.builtin "list.sort") [l] [])
   ret l) (λfin s'=>∃v,fin=Fin.done (Flow.ret v)/\EP X pins σ Q v s') X.xe { s with heap:=h',toks:=tk }:=by
 obtain⟨hN,at_⟩:=zX hi;refine aG (jk ?_);have hoL:(h'.push (seqObj "list" vs.toArray 0)).get? h'.objs.size=some (seqObj "list" vs.toArray 0):=bC _ rfl
 skip
 refine aG (dH (cR slot_list_sort ⟨_,hoL,rfl⟩ entry_list_sort (Sx.zh (o:=Se ns) (kd:=oneType') hoL hz (λh2 Q' q'=>?_) (λh2 i j hi' hj E' Q' q'=>?_) λg hc hs=>⟨_,rfl,?_⟩) (args_list_sort _)))
 ·obtain⟨a,b,r,rfl⟩:∃a b r,vs=a::b::r:=by
   cases vs with
   | nil=>simp at h2
   | cons a vs=>cases vs with
    | nil=>simp at h2
    | cons b r=>exact⟨a,b,r,rfl⟩
  exact iK (keyKind_ints hi) q'
 ·obtain⟨t,e1⟩:=at_ i hi';obtain⟨u,e2⟩:=at_ j hj;show wpAny _ _ (keyLt' oneType' (vs.getD i .none) (vs.getD j .none)) Q' E' _;rw[e1,e2,keyLt'_oneType];exact Sx.J6 true q'
 ·rw[hN]at hc hs ⊢;obtain⟨e,he⟩:=sortedHeap_at (out:=((List.range ns.length).map λi=>vs.getD (g i) .none).toArray) hoL;have old:∀b ob,h'.get? b=some ob->(sortedHeap (h'.push (seqObj "list" vs.toArray 0)) h'.objs.size vs ((List.range ns.length).map λi=>vs.getD (g i) .none).toArray).get? b=some ob:=λb ob eb=>by
   rw[sortedHeap_old (bF (bh eb)) (by rw[eL];exact d8 (bh eb))];exact aV _ eb
  refine aS ⟨_,rfl,.ref h'.objs.size,_,I1.laid (t':=tk) (o:=.lst ((List.range ns.length).map λi=>V.int (ns.getD (g i) 0))) old (aO _) ?_,rfl,q _ g (I1.hok.fresh (aO _)) hc hs⟩;refine⟨by rw[aH,cD];lia,(List.range ns.length).map λi=>vs.getD (g i) .none,e,A9 _ λi hi=>at_ _ (by have:=(hc i (bL _) (cQ.mp hi)).2;lia),he⟩
def LU{P:aj}{w:ah}{vs:List (Key×af)}:∀{acc:ba}{ns:ag},vs.map (·.1)=ns.map Sum.inl->acc.length=vs.length->(∀(j:Nat) v,acc[j]?=some v->∃k x,vs[j]?=some (k,x)/\(kP P w).is k v=true)->IntsAre acc ns:=by
 intro acc ns hk hl h
 induction acc generalizing vs ns with
 | nil=>cases vs with
  | nil=>cases ns with
   | nil=>exact .nil
   | cons=>cases hk
  | cons=>cases hl
 | cons a acc ih=>cases vs with
  | nil=>cases hl
  | cons v vs=>cases ns with
   | nil=>cases hk
   | cons n ns=>
    rw[bD,bD,List.cons.injEq]at hk;obtain⟨k,x,e1,e2⟩:=h 0 a rfl
    cases e1
    obtain⟨e3,e4⟩:=hk;have e3:k=Sum.inl n:=e3;subst e3;obtain⟨t,rfl⟩:=Value.isInt_shape (k:=n) (v:=a) e2;exact .cons n t (ih e4 (by simpa using hl) λj v e=>h (j+1) v (by simpa using e))
def EB(hc:X.calm=true):kJ X (.builtin "sorted") (λxs H Q=>∃(d:ak) (kvs:List (Key×V)) (ns:ag),xs=[.ref d]/\H d=some (.dK kvs)/\kvs.map (λp=>p.1)=ns.map Sum.inl /\
  ∀l g,H l=none->Sx.Cl g 0 ns.length->Sx.So (Se ns) g 0 ns.length->Q (.ref l) (upd H l (.lst ((List.range ns.length).map λi=>V.int (ns.getD (g i) 0))))):=by
 w_up;obtain⟨d,kvs,ns,rfl,ed,ek,q⟩:=h;obtain⟨u,rfl,rx⟩:=vals1 r
 cases rx
 obtain⟨z,hd,vs,rel,dd⟩:=V3 I.hok ed;obtain⟨ep,da⟩:=dd.dictAt;have kl:kvs.length=vs.length:=rel.length;have ke:vs.map (·.1)=kvs.map (·.1):=by
  clear ek z dd da kl ed;unfold KV at rel
  induction rel with
  | nil=>rfl
  | cons h _ ih=>rw[bD,bD,ih,h.1]
 refine gw kind_sorted plain_sorted entry_sorted (args_sorted1 _) ?_;unfold Builtin.«sorted»;refine aG (m:=checkCount "sorted" 1 1 _) (aS ?_);refine aG (PySem.W.kdu_collect (PySem.W.kdl_dict hd) (show X.A.in1.handled=none from I.ok.hd hc) da () λh' tk acc hk hacc=>?_);have al:acc.toList.length=vs.length:=by rw[dN];exact hacc.1
 exact Im (s:=s) (I.kept (t':=tk) hk) (LU (P:=X.prog) (w:=X.w) (ke.trans ek) al λj v e=>hacc.2 j v (by rw[eW]at e;exact e)) () q
end
end L2
namespace Sx
open PySem PyProof.Rows
section
variable {prog:aj}{w:ah}{A:az}{E:af->aA->Prop}{s:aA}
def NR{ns:ag}(h:IntsAre vs ns)(h':IntsAre vs ms):ns=ms:=by
 induction h generalizing ms with
 | nil=>cases h';rfl
 | cons n t _ ih=>cases h' with
  | cons _ _ h2=>rw[ih h2]
def WO{a c:ak}{as cs:ba}{ns:ag}(ha:IsTup s.heap a as.toArray)(hc:IsTup s.heap c cs.toArray)(hi:IntsAre as ns)(hj:IntsAre cs ms)(hu:A.units<cLine)(hne:ns≠ms):SeqAt.EqAt A s (.ref a) (.ref c) false:=by
 have hac:a≠c:=λz=>by
  subst z;obtain⟨o,ho,_,n,hd⟩:=ha;obtain⟨o',ho',_,n',hd'⟩:=hc;rw[ho]at ho'
  cases ho'
  rw[hd]at hd'
  injection hd' with e1 e2
  have:as=cs:=by have:=dB Array.toList e1;simpa using this
  subst this;exact hne (NR hi hj)
 have r1:=L2.vn hi;have r2:=L2.vn hj;have fl:∀l:ag,(l.map L2.V.int).all L2.AM=true:=λl=>by rw[gW,eG];intro _ _;rfl
 have h:=SeqAt.RcAt.tuples ha hc hu (L2.Pz r1 r2 (fl ns) (fl ms));have e:((List.range (min as.toArray.size cs.toArray.size)).all (L2.eAt (ns.map L2.V.int) (ms.map L2.V.int)) && as.toArray.size == cs.toArray.size)=false:=by
  have q:L2.RQ (ns.map L2.V.int) (ms.map L2.V.int)=false:=by rw[L2.Fv,bu hne]
  rw[<- q,aY,aY,<- r1.length,<- r2.length];by_cases hl:(ns.map L2.V.int).length=(ms.map L2.V.int).length
  ·rw[hl,Nat.min_self,bP,Bool.and_true];exact L2.WJ _ hl.symm rfl
  ·rw[L2.SN hl,beq_false_of_ne hl,jw]
 rw[e]at h;exact .of_refs hac h
def G6{l k a c:ak}{x:af}{as cs:ba}{ns:ag}{Q:Bool->aA->Prop}(hl:IsTup s.heap l #[.ref a,x])(hk:IsTup s.heap k #[.ref c,y])(ha:IsTup s.heap a as.toArray)(hc:IsTup s.heap c cs.toArray)(hi:IntsAre as ns)(hj:IntsAre cs ms)(hu:A.units<cLine)(hne:ns≠ms)(h:Q (HT.lexLt ns ms) s) :
  wpAny (model prog w) A (keyLt' (tuples' false) (.ref l) (.ref k)) Q E s:=by
 rw[ze];obtain⟨o1,ho1,_,n1,hd1⟩:=hl;obtain⟨o2,ho2,_,n2,hd2⟩:=hk;refine aG (fB ho1 hd1 ?_);refine aG (fB ho2 hd2 ?_)
 skip
 rw[show([Value.ref a,x].zip [Value.ref c,y]).zipIdx=[((Value.ref a,Value.ref c),0),((x,y),1)]from rfl,gI];refine aG (aG ?_);dsimp only;refine aG (WO ha hc hi hj hu hne prog w _ _ ?_);dsimp[dm,cJ];refine aG ?_;rw[oneLt'_eq];dsimp[Bool.false_and,bB,b9];refine aG (HT.Ho ha hc (by simpa using hi) (by simpa using hj) hu ?_);refine dI ?_;exact aS (aS (aS h))
def Hx{l:ak}{v:af}{Q:Bool->aA->Prop}(hl:IsTup s.heap l #[u,v])(h:Q false s):wpAny (model prog w) A (keyLt' (tuples' false) (.ref l) (.ref l)) Q E s:=by
 rw[ze];obtain⟨o1,ho1,_,n1,hd1⟩:=hl;refine aG (fB ho1 hd1 ?_);refine aG (fB ho1 hd1 ?_)
 skip
 rw[show([u,v].zip [u,v]).zipIdx=[((u,u),0),((v,v),1)]from rfl,gI];refine aG (aG ?_);dsimp only;refine aG (SeqAt.EqAt.same u prog w _ _ ?_);dsimp[bX,bB,b9];refine aS ?_;dsimp only;rw[gI];refine aG ?_;dsimp only;refine aG (SeqAt.EqAt.same v prog w _ _ ?_);dsimp[bX,bB,b9];refine aS ?_;dsimp only;rw[jy];refine aS ?_;dsimp only;exact aS h
def HP{vs:ba}(h0:vs≠[])(ht:∀v∈vs,∃(l a:ak) (xs ys:ba),v=.ref l/\IsTup s.heap l (.ref a::xs).toArray/\IsTup s.heap a ys.toArray){Q:SortKind->aA->Prop}(q:Q (tuples' false) s) :
  wpAny (model prog w) A (keyKind' vs.toArray) Q E s:=by
 have ch:∀v,∃a:ak,v∈vs->∃(l:ak) (xs ys:ba),v=.ref l/\IsTup s.heap l (.ref a::xs).toArray/\IsTup s.heap a ys.toArray:=λv=>by
  by_cases c:v∈vs
  ·obtain⟨l,a,xs,ys,e⟩:=ht v c;exact⟨a,λ_=>⟨l,xs,ys,e⟩⟩
  ·exact⟨0,λz=>absurd z c⟩
 obtain⟨F,hF⟩:=Classical.axiomOfChoice ch;rw[keyKind'_eq];refine aG (zV (λv=>some (Value.ref (F v))) vs (λv hv Q' q'=>?_) _ ?_)
 ·obtain⟨l,xs,ys,rfl,⟨o,ho,hc,n,hd⟩,_⟩:=hF v hv;rw[E4];refine aG (gp (T := "tuple") ⟨o,ho,hc⟩ ?_);rw[aK ⋯];exact aG (fB ho hd (aS q'))
 ·rw[aM (by simp)];refine aG (eS ?_);have e1:(vs.map λv=>some (Value.ref (F v))).toArray.filterMap id=(vs.map λv=>Value.ref (F v)).toArray:=by
   rw[List.filterMap_toArray,i6];congr 1;rw[show(id ∘ λv=>some (Value.ref (F v)))=λv=>some (Value.ref (F v))from rfl];exact congrFun List.filterMap_eq_map' vs
  rw[e1,oneTypeOnly'_eq];refine aG (aG (zV (λ_=>Value.type "tuple") _ (λv hv Q' q'=>?_) _ ?_))
  ·obtain⟨u,hu,rfl⟩:=bA.mp hv;obtain⟨_,_,ys,_,_,o,ho,hc,n,hd⟩:=hF u hu;exact gp (T := "tuple") ⟨o,ho,hc⟩ q'
  ·rw[bq];obtain⟨v0,vs',rfl⟩:∃v0 vs',vs=v0::vs':=by
    cases vs with
    | nil=>exact absurd rfl h0
    | cons a b=>exact⟨a,b,rfl⟩
   have ha:((List.map ((λ_=>Value.type "tuple") ∘ λv=>Value.ref (F v)) (v0::vs')).toArray.all λx=>x == Value.type "tuple")=true:=by
    dsimp[List.all_toArray,gW,eG];intro _ _;rfl
   have hz:(List.map ((λ_=>Value.type "tuple") ∘ λv=>Value.ref (F v)) (v0::vs')).toArray[0]?=some (Value.type "tuple"):=by simp
   rw[hz];dsimp[ha,cJ];exact aS (aS q)
end
end Sx
namespace L2
open PySem PySem.Spec PyProof.Rows
section
variable {X:Cx}
def G1{s:aA}{H:Hp}{Q:VK}{h':aq}{tk:Nat}{rs:bb}{kss:List (ag)}(I1:Inv X pins σ H { s with heap:=h',toks:=tk })(hlen:rs.length=kss.length)(hz:rs.length<=sizeLine)(hu:X.A.units+64<cLine)
  (hnd:∀i j (hi:i<kss.length) (hj:j<kss.length),kss[i]=kss[j]->i=j)
  (hT:∀(i:Nat) (r:ak) (ks:ag),rs[i]?=some r->kss[i]?=some ks->∃(a:ak) (v:V),ni X.K H r [.ref a,v]/\ni X.K H a (ks.map V.int))
  (q:∀l g,H l=none->Sx.Cl g 0 kss.length->Sx.So (Sx.BY kss) g 0 kss.length->Q (.ref l) (upd H l (.lst (((List.range kss.length).map λi=>rs.getD (g i) 0).map V.ref)))) :
  wpAny (model X.prog X.w) X.A.in1 (do
   let l <- newList (rs.map Value.ref)
   let _ <- holding [l] (call (Value.builtin "list.sort") [l] [])
   ret l) (λfin s'=>∃v,fin=Fin.done (Flow.ret v)/\EP X pins σ Q v s') X.xe { s with heap:=h',toks:=tk }:=by
 have hN:(rs.map Value.ref).length=kss.length:=by rw[aH,hlen]
 refine aG (jk ?_);have hoL:(h'.push (seqObj "list" (rs.map Value.ref).toArray 0)).get? h'.objs.size=some (seqObj "list" (rs.map Value.ref).toArray 0):=bC _ rfl
 skip
 have keep:∀(r:ak) (its:Array af),IsTup h' r its->IsTup (Sx.ED (h'.push (seqObj "list" (rs.map Value.ref).toArray 0)) h'.objs.size (rs.map Value.ref)) r its:=λr its ⟨o,ho,hc,n,hd⟩=>by
  refine⟨o,?_,hc,n,hd⟩;have lt:r<h'.objs.size:=bh ho;rw[Sx.KI (bF lt) (by rw[eL];exact d8 lt)];exact aV _ ho
 have tup:∀(i:Nat) (r:ak) (ks:ag),rs[i]?=some r->kss[i]?=some ks->∃(a:ak) (u:af) (its:ba),IntsAre its ks/\IsTup (Sx.ED (h'.push (seqObj "list" (rs.map Value.ref).toArray 0)) h'.objs.size (rs.map Value.ref)) r #[.ref a,u]/\IsTup (Sx.ED (h'.push (seqObj "list" (rs.map Value.ref).toArray 0)) h'.objs.size (rs.map Value.ref)) a its.toArray:=λi r ks e1 e2=>by
  obtain⟨a,v,t1,t2⟩:=hT i r ks e1 e2;obtain⟨its,rv,p1,_⟩:=I1.tuple t1;obtain⟨jts,rw_,p2,_⟩:=I1.tuple t2
  cases rv with
  | cons g1 rv=>cases rv with
   | cons g2 rv=>
    cases rv
    have g1:_=Value.ref a:=g1;subst g1;exact⟨a,_,jts,intsAre_of rw_,keep _ _ p1,keep _ _ p2⟩
 refine aG (dH (cR slot_list_sort ⟨_,hoL,rfl⟩ entry_list_sort (Sx.zh (o:=Sx.BY kss) (kd:=tuples' false) hoL (by rw[hN];lia) (λh2 Q' q'=>?_) (λh2 i j hi hj E' Q' q'=>?_) λg hc hs=>⟨_,rfl,?_⟩) (args_list_sort _)))
 ·refine Sx.HP (λz=>by rw[z]at h2;simp at h2) (λv hv=>?_) q';obtain⟨i,hi⟩:=fj hv;rw[aQ]at hi;obtain⟨r,hr,rfl⟩:=aX.mp hi;have lt:=(aN.mp hr).1;have e2:kss[i]?=some kss[i]:=aF ();obtain⟨a,u,its,_,h3,h4⟩:=tup i r _ hr e2;exact⟨r,a,_,its,rfl,h3,h4⟩
 ·rw[hN]at hi hj;have e1:rs[i]?=some (rs[i]'()):=aF _;have e2:rs[j]?=some (rs[j]'()):=aF _;have k1:kss[i]?=some kss[i]:=aF hi;have k2:kss[j]?=some kss[j]:=aF hj;obtain⟨a1,u1,x1,y1,b1,c1⟩:=tup i _ _ e1 k1;obtain⟨a2,u2,x2,y2,b2,c2⟩:=tup j _ _ e2 k2;have v1:(rs.map Value.ref).getD i .none=.ref (rs[i]'()):=by rw[aI,aQ,e1];rfl
  have v2:(rs.map Value.ref).getD j .none=.ref (rs[j]'()):=by rw[aI,aQ,e2];rfl
  show wpAny _ _ (keyLt' (tuples' false) ((rs.map Value.ref).getD i .none) ((rs.map Value.ref).getD j .none)) Q' E' _;rw[v1,v2];have d1:kss.getD i []=kss[i]:=by rw[aI,k1];rfl
  have d2:kss.getD j []=kss[j]:=by rw[aI,k2];rfl
  have this:(Sx.BY kss).lt i j=HT.lexLt kss[i] kss[j]:=by show HT.lexLt _ _=_;rw[d1,d2]
  by_cases hij:i=j
  ·subst hij;rw[this,Sx.zE]at q';exact Sx.Hx b1 q'
  ·rw[this]at q';exact Sx.G6 b1 b2 c1 c2 y1 y2 (by show X.A.units+1+1<cLine;lia) (λz=>hij (hnd i j hi hj z)) q'
 ·rw[hN]at hc hs ⊢;obtain⟨e,he⟩:=sortedHeap_at (out:=((List.range kss.length).map λi=>(rs.map Value.ref).getD (g i) .none).toArray) hoL;have old:∀b ob,h'.get? b=some ob->(sortedHeap (h'.push (seqObj "list" (rs.map Value.ref).toArray 0)) h'.objs.size (rs.map Value.ref) ((List.range kss.length).map λi=>(rs.map Value.ref).getD (g i) .none).toArray).get? b=some ob:=λb ob eb=>by
   rw[sortedHeap_old (bF (bh eb)) (by rw[eL];exact d8 (bh eb))];exact aV _ eb
  refine aS ⟨_,rfl,.ref h'.objs.size,_,I1.laid (t':=tk) (o:=.lst (((List.range kss.length).map λi=>rs.getD (g i) 0).map V.ref)) old (aO _) ?_,rfl,q _ g (I1.hok.fresh (aO _)) hc hs⟩;refine⟨by rw[aH,aH,cD];lia,((List.range kss.length).map λi=>rs.getD (g i) 0).map Value.ref,e,yy _,?_⟩;rw[he];congr 2;rw[bq];congr 1;refine cL λi hi=>?_;have:=(hc i (bL _) (cQ.mp hi)).2;have lt:g i<rs.length:=()
  show(rs.map Value.ref).getD (g i) .none=Value.ref (rs.getD (g i) 0);rw[aI,aQ,aF lt,aI,aF lt];rfl
def EF(hu:X.A.units+64<cLine):kJ X (.builtin "sorted") (λxs H Q=>∃(p:ak) (rs:bb) (kss:List (ag)),xs=[.ref p]/\pL X.K H p (rs.map V.ref)/\rs.length=kss.length/\(∀i j (hi:i<kss.length) (hj:j<kss.length),kss[i]=kss[j]->i=j) /\
  (∀(i:Nat) (r:ak) (ks:ag),rs[i]?=some r->kss[i]?=some ks->∃(a:ak) (v:V),ni X.K H r [.ref a,v]/\ni X.K H a (ks.map V.int)) /\
  ∀l g,H l=none->Sx.Cl g 0 kss.length->Sx.So (Sx.BY kss) g 0 kss.length->Q (.ref l) (upd H l (.lst (((List.range kss.length).map λi=>rs.getD (g i) 0).map V.ref)))):=by
 w_up;obtain⟨p,rs,kss,rfl,hq,hlen,hnd,hT,q⟩:=h;obtain⟨u,rfl,rx⟩:=vals1 r
 cases rx
 obtain⟨its,rv,pl,hz⟩:=I.list hq;have ei:=yr rv;subst ei;obtain⟨o,ho,hcl,n,hd⟩:=pl.isList;rw[aH]at hz;have hN:(rs.map Value.ref).length=kss.length:=by rw[aH,hlen]
 refine gw kind_sorted plain_sorted entry_sorted (args_sorted1 _) ?_;unfold Builtin.«sorted»;refine aG (m:=checkCount "sorted" 1 1 _) (aS ?_);refine aG (wpAny_collect_seq p (.inl rfl) ho hcl hd (λh' hk=>G1 (s:=s) (I.kept (t':=s.toks) hk) hlen hz hu hnd hT q) (by rw[aY,hN];lia))
end
end L2
namespace Am
open PySem PySem.Spec PyProof.Rows L2
noncomputable def lZ (S:jK)(n:Nat):Option (List (Int×A)):=match S[n]? with
 | some (.rQ xs)=>some xs
 | _=>none
def p_{n:Nat}(h:lZ S n=some xs):S[n]?=some (.rQ xs):=by
 unfold lZ at h;split at h
 ·rename_i e;cases h;exact e
 ·cases h
def Em{S:jK}{n:Nat}(h:S[n]?=some (.rQ xs)):lZ S n=some xs:=by
 unfold lZ;rw[h]
noncomputable def nK (kvs:List (Int×A))(k:Int):Option A:=(kvs.find? λkv=>decide (kv.1=k)).map (·.2)
noncomputable def yS (kvs:List (Int×A))(k:Int)(v:A):List (Int×A):=
 if (nK kvs k).isSome=true then kvs.map (λkv=>if kv.1=k then(kv.1,v)else kv)else kvs++[(k,v)]
section
variable {K:au}{ρ:bb}{H:Hp}
def LS{p:Int×A}{r:List (Int×A)}{k:Int}(e:p.1=k):nK (p::r) k=some p.2:=by simp[nK,cP,e]
def Ls{p:Int×A}{r:List (Int×A)}{k:Int}(e:¬p.1=k):nK (p::r) k=nK r k:=by simp[nK,cP,e]
def ZZ{a b:Int}(e:(Sum.inl a:Key)=Sum.inl b):a=b:=by injection e
theorem DI.look:∀{kvs:List (Int×A)}{ks:List (Key×V)}(k:Int),DI K ρ H kvs ks->(nK kvs k).isSome=(qE ks (Sum.inl k:Key)).isSome/\∀x,nK kvs k=some x->∃v,qE ks (Sum.inl k:Key)=some v/\AV K ρ H x v
 | [],[],k,_=>⟨rfl,λx h=>nomatch h⟩
 | p::r,q::r',k,⟨⟨e,a⟩,t⟩=>by
  by_cases c:p.1=k
  ·have c':q.1=(Sum.inl k:Key):=by rw[e,c]
   rw[LS c,uF c'];exact⟨rfl,λx h=>by cases h;exact⟨_,rfl,a⟩⟩
  ·have c':¬q.1=(Sum.inl k:Key):=λz=>c (ZZ (e.symm.trans z));rw[Ls c,uC c'];exact DI.look k t
theorem DI.repl{x:A}{v:V}(h:AV K ρ H x v)(k:Int):∀{kvs:List (Int×A)}{ks:List (Key×V)},DI K ρ H kvs ks->DI K ρ H (kvs.map λkv=>if kv.1=k then(kv.1,x)else kv) (ks.map λkv=>if kv.1=(Sum.inl k:Key)then(kv.1,v)else kv)
 | [],[],_=>trivial
 | p::r,q::r',⟨⟨e,a⟩,t⟩=>by
  refine⟨?_,DI.repl h k t⟩;dsimp only;by_cases c:p.1=k
  ·rw[aM c,aM (by rw[e,c])];exact⟨e,h⟩
  ·rw[aK c,aK (λz=>c (ZZ (e.symm.trans z)))];exact⟨e,a⟩
theorem DI.snoc{x:A}{v:V}(h:AV K ρ H x v)(k:Int):∀{kvs:List (Int×A)}{ks:List (Key×V)},DI K ρ H kvs ks->DI K ρ H (kvs++[(k,x)]) (ks++[(Sum.inl k,v)])
 | [],[],_=>⟨⟨rfl,h⟩,trivial⟩
 | p::r,q::r',⟨a,t⟩=>⟨a,DI.snoc h k t⟩
def DI.put{x:A}{v:V}(h:AV K ρ H x v)(k:Int)(d:DI K ρ H kvs ks):DI K ρ H (yS kvs k x) (putK ks (Sum.inl k:Key) v):=by
 unfold yS putK;rw[xC,<- (d.look k).1];by_cases c:(nK kvs k).isSome=true
 ·rw[aM c,aM c];exact DI.repl h k d
 ·rw[aK c,aK c];exact DI.snoc h k d
def DI.length:∀{kvs:List (Int×A)}{ks:List (Key×V)},DI K ρ H kvs ks->kvs.length=ks.length
 | [],[],_=>rfl
 | _::_,_::_,⟨_,t⟩=>dB (·+1) t.length
theorem DI.keys:∀{kvs:List (Int×A)}{ks:List (Key×V)},DI K ρ H kvs ks->ks.map (·.1)=kvs.map λkv=>(Sum.inl kv.1:Key)
 | [],[],_=>rfl
 | _::_,_::_,⟨⟨e,_⟩,t⟩=>by rw[bD,bD,e,DI.keys t]
def Rel.rQ{n:Nat}{a:ak}(R:Rel K ρ H S)(ha:ρ[n]?=some a)(hS:S[n]?=some (.rQ xs)):∃vs,H a=some (.dK vs)/\DI K ρ H xs vs:=R.at n a _ ha hS
def Rel.aaK{S:jK}{p:ak}(R:Rel K ρ H S)(hp:H p=none)(r:DI K ρ H xs vs):Ext ρ (ρ++[p]) H (upd H p (.dK vs))/\Rel K (ρ++[p]) (upd H p (.dK vs)) (S++[.rQ xs])/\(ρ++[p])[S.length]?=some p:=by
 have ex:Ext ρ (ρ++[p]) H (upd H p (.dK vs)):=⟨⟨fX _ _,λa u _ h=>by rw[jU (j8 h hp)];exact h⟩,λa u h _=>by rw[jU (j8 h hp)];exact h,λa h=>by
  rcases bE.mp h with z|z
  ·exact .inl z
  ·have e:a=p:=by simpa using z
   rw[e];exact .inr hp⟩
 have np:p∉ρ:=R.NT hp;have last:(ρ++[p])[S.length]?=some p:=by rw[<- R.len];simp
 refine⟨ex,⟨by simp[R.len],?_,?_⟩,last⟩
 ·rw[d9];refine⟨R.nd,by simp,λa ha b hb e=>?_⟩;have:b=p:=by simpa using hb
  exact np (by rw[<- this,<- e];exact ha)
 ·intro n a o h1 h2;by_cases hn:n<S.length
  ·rw[bG (by rw[R.len];exact hn)]at h1;rw[bG hn]at h2;have na:a≠p:=λz=>np (by rw[<- z];exact aW h1);have:=R.at n a o h1 h2
   cases o with
   | lst ys=>obtain⟨ws,e,q⟩:=this;exact⟨ws,by rw[jU na];exact e,q.ext ex⟩
   | dct _|rQ _=>obtain⟨ws,e,q⟩:=this;exact⟨ws,by rw[jU na];exact e,q.ext ex⟩
   | ins _ _=>obtain⟨oo,uu,e⟩:=this;exact⟨oo,uu,by rw[jU na];exact e⟩
  ·have e:n=S.length:=by
    have:=(aN.mp h2).1;simp at this;lia
   subst e;rw[last]at h1
   cases h1
   simp at h2;subst h2;exact⟨vs,lU,r.ext ex⟩
def Rel.yS{S:jK}{n:Nat}{a:ak}(R:Rel K ρ H S)(ha:ρ[n]?=some a)(hS:S[n]?=some (.rQ xs))(r:DI K ρ H ys ws):Ext ρ ρ H (upd H a (.dK ws))/\Rel K ρ (upd H a (.dK ws)) (S.set n (.rQ ys)):=by
 obtain⟨vs,e,_⟩:=R.at n a _ ha hS;have ex:Ext ρ ρ H (upd H a (.dK ws)):=⟨⟨fR _,λb u i h=>by
  have:b≠a:=by
   intro z;subst z;rw[e]at h;cases h;exact i
  rw[jU this];exact h⟩,λb u h n=>by
  rw[jU (λz=>n (by rw[z];exact aW ha))];exact h,λ_ h=>.inl h⟩
 refine⟨ex,by rw[cA];exact R.len,R.nd,λm b o h1 h2=>?_⟩;by_cases hm:m=n
 ·subst hm;rw[ha]at h1;cases h1;rw[cj (aN.mp hS).1]at h2
  cases h2
  exact⟨ws,lU,r.ext ex⟩
 ·rw[cH (dj hm)]at h2;have nb:b≠a:=λz=>by
   subst z;obtain⟨l1,e1⟩:=aN.mp ha;obtain⟨l2,e2⟩:=aN.mp h1;exact hm ((dz R.nd).mp (e2.trans e1.symm))
  have:=R.at m b o h1 h2
  cases o with
  | lst ys=>obtain⟨ws',e',q⟩:=this;exact⟨ws',by rw[jU nb];exact e',q.ext ex⟩
  | dct _|rQ _=>obtain⟨ws',e',q⟩:=this;exact⟨ws',by rw[jU nb];exact e',q.ext ex⟩
  | ins _ _=>obtain⟨oo,uu,e'⟩:=this;exact⟨oo,uu,by rw[jU nb];exact e'⟩
end
section
variable {X:Cx}{pos:Pos}{a b:aC}
noncomputable def AY (x y:A)(S:jK):R A:=match x,y with
 | .ref n,.int k=>opt (lZ S n) λkvs=>opt (nK kvs k) λv=>.ok v S
 | _,_=>.no
def Lz{x:A}{P:A->jK->Prop}{E:Str->jK->Prop}(h:(AY x y S).post P E):∃n k kvs v,x=.ref n/\y=.int k/\lZ S n=some kvs/\nK kvs k=some v/\P v S:=by
 unfold AY at h;split at h
 ·obtain⟨kvs,h1,h⟩:=jQ h;obtain⟨v,h2,h⟩:=jQ h;exact⟨_,_,kvs,v,rfl,rfl,h1,h2,h⟩
 ·exact h.elim
def Zo(hu:X.A.units+64<cLine):VU X (r2 X AY):=λvalue slice pins s σ H x y v u Q I rx ry ⟨ρ,S,a,b,R,va,vb,h⟩ hs=>by
 obtain⟨n,k,kvs,z,ha,hb,hn,hz,hP⟩:=Lz h;subst ha hb
 cases vb
 cases va with
 | @ref p _ hp=>
  obtain⟨ks,e,d⟩:=R.rQ hp (p_ hn);obtain⟨w,hw,aw⟩:=(d.look k).2 z hz;have g:wQ H p (kV (Sum.inl k)) (qE ks (Sum.inl k)):=wQ.k e;rw[hw]at g;exact KS () value slice pins s σ H _ _ v u Q I rx ry ⟨p,w,rfl,g,hP _ _ _ .refl R aw⟩ hs
def Q4(hu:X.A.units+64<cLine){ca cb:Ex}(ha:AE X a ca)(hb:AE X b cb)(hs:zW b:=by exact λ_ _=>rfl):AE X (.Subscript a b pos) (jO AY ca cb):=PE.imp (OT (Zo hu) ha hb hs) λσ H Q h=>vV h
noncomputable def Cj (o i v:A)(S:jK):R Unit:=match o,i with
 | .ref n,.int k=>opt (lZ S n) λkvs=>gd (kvs.length<sizeLine) (.ok Unit.unit (S.set n (.rQ (yS kvs k v))))
 | _,_=>.no
def Ia{x v:A}{S:jK}{P:Unit->jK->Prop}{E:Str->jK->Prop}(h:(Cj x y v S).post P E):∃n k kvs,x=.ref n/\y=.int k/\lZ S n=some kvs/\kvs.length<sizeLine/\P Unit.unit (S.set n (.rQ (yS kvs k v))):=by
 unfold Cj at h;split at h
 ·obtain⟨kvs,h1,h⟩:=jQ h;obtain⟨h2,h⟩:=kC h;exact⟨_,_,kvs,rfl,rfl,h1,h2,h⟩
 ·exact h.elim
noncomputable def ab_ (X:Cx):MM:=λo i v H Q=>∃ρ S ao ai av,Rel X.K ρ H S/\AV X.K ρ H ao o/\AV X.K ρ H ai i/\AV X.K ρ H av v/\(Cj ao ai av S).post (λ_ S'=>∀ρ' H',Ext ρ ρ' H H'->Rel X.K ρ' H' S'->Q H') (XE X ρ H)
def Tn(hu:X.A.units+64<cLine):LL X (ab_ X):=λpins s σ H o i v ov iv u Q I ro ri rv h9=>by
 obtain⟨ρ,S,ao,ai,av,R,h1,h2,h3,h⟩:=h9;obtain⟨n,k,kvs,ha,hb,hn,hl,hP⟩:=Ia h;subst ha hb
 cases h2
 cases h1 with
 | @ref p _ hp=>
  obtain⟨ks,e,d⟩:=R.rQ hp (p_ hn);obtain⟨ex,R'⟩:=R.yS hp (p_ hn) (d.put h3 k);exact set_dict () pins s σ H _ _ v ov iv u Q I ro ri rv ⟨p,_,rfl,FF.k (k:=Sum.inl k) e (by rw[<- d.length];exact hl),hP _ _ ex R'⟩
noncomputable def MA (co ci:Ex):Tg:=λa τ S=>(co τ S).bind λo S1=>(ci τ S1).bind λi S2=>(Cj o i a S2).bind λ_ S3=>.ok τ S3
def Jp(hu:X.A.units+64<cLine){co ci:Ex}(ho:AE X o co)(hi:AE X i ci)
  (ha:∀v,assign (.Subscript o i pos) X.env v=(do
   let ov <- holding [v] (eval o X.env)
   let iv <- holding [v,ov] (eval i X.env)
   standAt pos
   holding [v,ov,iv] (setItem ov iv v)
   release [v,ov,iv] []):=by intro _;rfl):AG X (.Subscript o i pos) (MA co ci):=PG.imp (HL ho hi (Tn hu) ha) λv σ H Q h9=>by
 obtain⟨ρ,S,τ,a,R,r,va,h⟩:=h9;refine⟨ρ,S,τ,R,r,jN (jP h) .refl λo S1 h1 ρ1 H1 x e1 R1 v1=>⟨ρ1,S1,τ,R1,r.ext e1,jN (jP h1) e1 λi S2 h2 ρ2 H2 y e2 R2 v2=>?_⟩⟩;refine⟨ρ2,S2,o,i,a,R2,v1.ext e2,v2,va.ext (e1.trans e2),jN (jP h2) (e1.trans e2) λ_ S3 h3 ρ3 H3 e3 R3=>?_⟩;exact h3 ρ3 H3 σ ((e1.trans e2).trans e3) R3 (r.ext ((e1.trans e2).trans e3))
noncomputable def Io:Ex:=λ_ S=>.ok (.ref S.length) (S++[.rQ []])
def NU:AE X (.Dict [] [] pos) Io:=PE.imp Nh λσ H Q ⟨ρ,S,τ,R,r,h⟩ p hp=>by
 obtain⟨ex,R',hl⟩:=R.aaK (xs:=[]) (vs:=[]) hp trivial;exact h _ _ _ ex R' (.ref hl)
noncomputable def dk? (a:A)(S:jK):Option Unit:=match a with
 | .ref n=>(lZ S n).map λ_=>Unit.unit
 | _=>none
noncomputable def LN (f:A->ae->jK->R A)(co:Ex)(d:rK):Ex:=λτ S=>(co τ S).bind λx S1=>opt (dk? x S1) λ_=>(d τ S1).bind λas S2=>f x as S2
def dk?_ty{K:au}{H:Hp}{x:A}{v:V}(R:Rel K ρ H S)(a:AV K ρ H x v)(e:dk? x S=some u):Y9 K "dict" v H:=by
 cases a with
 | @ref p n h=>
  obtain⟨xs,hx,_⟩:=aX.mp e;obtain⟨vs,h1,_⟩:=R.rQ h (p_ hx);exact .inr (.inr (.inl ⟨rfl,.inl ⟨vs,h1⟩⟩))
 | _=>cases e
def PY{e:aC}{id:String}{apos cpos:Pos}{f:A->ae->jK->R A}{co:Ex}{d:rK}(slot:Slot "dict" name id)(hty:typeOf (.builtin id)=pure (.type "method_descriptor"))(hm:Vk X id (rM X f))(ho:AE X o co)(ha:AL X (e::es) d)
  (hbase:attributeBase o name X.env (eval o X.env)=eval o X.env:=by rfl)
  (hfew:((backTo cpos (starEach (e::es) X.env)).all (λx=>!x.1) && (backToKw cpos (keywordEach [] X.env)).all (λx=>x.1.isSome)
   && decide ((e::es).length+([]:List Keyword).length+(if ([]:List Keyword).isEmpty then 0 else 1)<30))=true:=by rfl)
  (hline:(apos.endLine == cpos.line)=true:=by rfl) (hs:starEach (e::es) X.env=(false,eval e X.env)::starEach es X.env:=by rfl) (hplain:(backTo cpos (starEach es X.env)).any (·.1)=false:=by rfl) :
  AE X (.Call (.Attribute o name apos) (e::es) [] cpos) (LN f co d):=PE.imp (Nq PySem.F.plainAttrs_dict slot hty hm ho ha hbase hfew hline hs hplain) λσ H Q h9=>by
 room;refine⟨ρ,S,τ,R,r,jN (jP h) .refl λx S1 h1 ρ1 H1 v e1 R1 v1=>?_⟩;obtain⟨xs,hx,h1⟩:=jQ h1;refine⟨dk?_ty R1 v1 hx,ρ1,S1,τ,R1,r.ext e1,jN (jP h1) e1 λas S2 h2 ρ2 H2 vs e2 R2 v2=>?_⟩;exact⟨ρ2,S2,x,as,R2,v1.ext e2,v2,jN h2 (e1.trans e2) λ_ _ z=>z.ext (e1.trans e2)⟩
noncomputable def zl (o:A)(as:ae)(S:jK):R A:=match o,as with
 | .ref n,[.int k,y]=>opt (lZ S n) λkvs=>.ok ((nK kvs k).getD y) S
 | _,_=>.no
def HR{x:A}{P:A->jK->Prop}{E:Str->jK->Prop}(h:(zl x as S).post P E):∃n k y kvs,x=.ref n/\as=[.int k,y]/\lZ S n=some kvs/\P ((nK kvs k).getD y) S:=by
 unfold zl at h;split at h
 ·obtain⟨kvs,h1,h⟩:=jQ h;exact⟨_,_,_,kvs,rfl,rfl,h1,h⟩
 ·exact h.elim
def PK(hu:X.A.units+64<cLine):Vk X "dict.get" (rM X zl):=λpins s σ H x vs v us Q I rx rv h9=>by
 obtain⟨ρ,S,o,as,R,vo,va,h⟩:=h9;obtain⟨n,k,y,kvs,ho,has,hn,hP⟩:=HR h;subst ho has;obtain⟨w1,w2,rfl,hz,hy⟩:=Xa va
 cases hz
 cases vo with
 | @ref p _ hp=>
  obtain⟨ks,h1,dv⟩:=R.rQ hp (p_ hn)
  cases rx
  obtain⟨u1,u2,rfl,r1,r2⟩:=vals2 rv;refine W7 () I (wQ.k (k:=Sum.inl k) h1) r1 r2 λw' s' I' rw'=>⟨_,H,I',rw',hP _ _ _ .refl R ?_⟩;obtain⟨l1,l2⟩:=dv.look k
  cases e1:nK kvs k with
  | none=>
   rw[e1]at l1
   cases e2:qE ks (Sum.inl k:Key)with
   | none=>exact hy
   | some _=>rw[e2]at l1;cases l1
  | some x1=>
   obtain⟨v1,e2,a1⟩:=l2 x1 e1;rw[e2];exact a1
end
section
variable {X:Cx}
noncomputable def X9 (n:Nat)(S:jK):R A:=opt (kj S n) λkvs=>match (kvs.map Prod.fst).all (λks=>!ks.isEmpty)with
 | true=>.ok (.ref S.length) (S++[.lst ((mQ (kvs.map Prod.fst)).map λks=>.tup (ks.map .int))])
 | false=>.no
noncomputable def yR (x:A)(S:jK):R A:=match x with
 | .ref n=>X9 n S
 | _=>.no
theorem Jd{K:au}{H:Hp}:∀{kvs:List (ag×A)}{ks:List (List Key×V)},DV K ρ H kvs ks->ks.map (λp=>p.1)=(kvs.map Prod.fst).map (λks=>ks.map Sum.inl)
 | [],[],_=>rfl
 | a::kvs,b::ks,⟨z,t⟩=>by
  have:=Jd t;show b.1::ks.map _=a.1.map Sum.inl::_;rw[this,z.1]
def Ke(hc:X.calm=true):kJ X (.builtin "sorted") (rN X (f1 yR)):=kJ.imp (Et hc) λvs H Q h0=>by
 kt_k;clear h0
 cases hv with
 | ref hp=>
  rename_i p n;obtain⟨kvs,hn,h⟩:=jQ h;obtain⟨ks,g1,dv⟩:=R.dct hp (oq hn)
  cases hb:(kvs.map Prod.fst).all (λks=>!ks.isEmpty)with
  | false=>rw[hb]at h;exact h.elim
  | true=>
   rw[hb]at h;refine⟨p,ks,kvs.map Prod.fst,rfl,g1,Jd dv,λk hk z=>?_,λrs l g hl hh hl' hc hs=>?_⟩
   ·have:=eG.mp hb k hk;rw[z]at this
    cases this
   have av:AVs X.K ρ H ((mQ (kvs.map Prod.fst)).map λks=>.tup (ks.map .int)) (((List.range (kvs.map Prod.fst).length).map λi=>rs.getD (g i) 0).map V.ref):=by
    rw[<- OV hc hs,bq,bq];refine Dd λi hi=>?_;have lt:=(hc i (bL _) (cQ.mp hi)).2;have e1:rs[g i]?=some (rs.getD (g i) 0):=by rw[aI,aF (by rw[hl];exact lt)];rfl
    have e2:(kvs.map Prod.fst)[g i]?=some ((kvs.map Prod.fst).getD (g i) []):=by rw[aI,aF lt];rfl
    exact .tup (hh _ _ _ e1 e2) (sJ _)
   exact nQ R av .refl h l hl'
 | _=>exact h.elim
end
noncomputable def TZ:ae->Option (List (Int×A))
 | []=>some []
 | .tup [.int k,x]::r=>(TZ r).map λps=>(k,x)::ps
 | _=>none
noncomputable def US (ps:List (Int×A)):List (Int×A):=ps.foldl (λacc p=>yS acc p.1 p.2) []
section
variable {K:au}{ρ:bb}{H:Hp}
def RY{x:A}(r:AVs K ρ H [x,y] vs):∃v w,vs=[v,w]/\AV K ρ H x v/\AV K ρ H y w:=by
 cases r with
 | cons h t=>cases t with
  | cons h' t'=>cases t';exact⟨_,_,rfl,h,h'⟩
def Nt{x:A}(e:TZ (x::xs)=some ps):∃k y ps',x=.tup [.int k,y]/\TZ xs=some ps'/\ps=(k,y)::ps':=by
 unfold TZ at e;split at e
 ·rename_i e2;cases e2
 ·rename_i k y r e2
  cases e2
  obtain⟨ps',h1,h2⟩:=aX.mp e;exact⟨_,_,_,rfl,h1,h2.symm⟩
 ·cases e
def Z9:∀{xs:ae}{vs:List V}{ps:List (Int×A)},AVs K ρ H xs vs->TZ xs=some ps ->
  ∃(rs:bb) (qs:List (Int×V)),vs=rs.map V.ref/\rs.length=qs.length/\(∀(i:Nat) (r:ak) (q:Int×V),rs[i]?=some r->qs[i]?=some q->ni K H r [.int q.1,q.2]) /\
   ∀as bs,DI K ρ H as bs->DI K ρ H (ps.foldl (λacc p=>yS acc p.1 p.2) as) (qs.foldl (λacc p=>putK acc (Sum.inl p.1) p.2) bs):=by
 intro xs
 induction xs with
 | nil=>intro vs ps r e;cases r;cases e;exact⟨[],[],rfl,rfl,λi r q h=>by simp at h,λas bs h=>h⟩
 | cons x xs ih=>
  intro vs ps r e;obtain⟨k,y,ps',rfl,e1,rfl⟩:=Nt e
  cases r with
  | cons h t=>
   obtain⟨rs,qs,rfl,hl,hh,hd⟩:=ih t e1
   cases h with
   | @tup a _ us h r=>
    obtain⟨v,w,rfl,h1,h2⟩:=RY r
    cases h1
    refine⟨a::rs,(k,w)::qs,rfl,by rw[bg,bg,hl],λi r q e1 e2=>?_,λas bs d=>hd _ _ (d.put h2 k)⟩
    cases i with
    | zero=>cases e1;cases e2;exact ni.of h
    | succ i=>exact hh i r q (by simpa using e1) (by simpa using e2)
end
section
variable {X:Cx}
noncomputable def Iu (x:A)(S:jK):R A:=match x with
 | .ref n=>opt (jG S n) λxs=>opt (TZ xs) λps=>.ok (.ref S.length) (S++[.rQ (US ps)])
 | _=>.no
def RW(hc:X.calm=true):kJ X (.type "dict") (rN X (f1 Iu)):=kJ.imp (G3 hc) λvs H Q h0=>by
 kt_k;clear h0
 cases hv with
 | ref hp=>
  rename_i p n;kd_p;obtain⟨ps,hb,h⟩:=jQ h;obtain⟨us,h1,r⟩:=R.lst hp (jX hn);obtain⟨rs,qs,rfl,hl,hh,hd⟩:=Z9 r hb;refine⟨p,rs,qs,rfl,pL.of h1,hl,hh,λl hl'=>?_⟩;obtain⟨ex,R',hl⟩:=R.aaK (xs:=US ps) (vs:=ptP qs) hl' (hd [] [] trivial);exact h _ _ _ ex R' (.ref hl)
 | _=>exact h.elim
noncomputable def AZ (x:A)(S:jK):R A:=match x with
 | .ref n=>opt (lZ S n) λkvs=>.ok (.ref S.length) (S++[.lst ((sortI (kvs.map Prod.fst)).map .int)])
 | _=>.no
def SE{ns:ag}{g:Nat->Nat}(c:Sx.Cl g 0 ns.length)(so:Sx.So (Se ns) g 0 ns.length):(List.range ns.length).map (λi=>ns.getD (g i) 0)=sortI ns:=by
 refine U0 ?_ ?_ (BI ns)
 ·refine List.Perm.trans ?_ (sortI_perm ns).symm;have p:=sS (N:=ns.length) (g:=g) (λi hi=>(c i (bL _) hi).2) λi j hij hj z=>by
   have:=so i j (bL _) hij hj;rw[z]at this;exact this.MV
  have:=p.map λi=>ns.getD i 0;rw[bq,range_getD]at this;exact this
 ·rw[cF];intro i j hi hj hij;rw[aH,cD]at hi hj;rw[c_,c_,eV,eV];have:=c8 (so i j (bL _) hij hj).ge;lia
def Uw(hc:X.calm=true):kJ X (.builtin "sorted") (rN X (f1 AZ)):=kJ.imp (EB hc) λvs H Q h0=>by
 kt_k;clear h0
 cases hv with
 | ref hp=>
  rename_i p n;obtain⟨kvs,hn,h⟩:=jQ h;obtain⟨ks,g1,dv⟩:=R.rQ hp (p_ hn);refine⟨p,ks,kvs.map Prod.fst,rfl,g1,by rw[dv.keys,bq];rfl,λl g hl' hc hs=>?_⟩;have av:AVs X.K ρ H ((sortI (kvs.map Prod.fst)).map .int) ((List.range (kvs.map Prod.fst).length).map λi=>V.int ((kvs.map Prod.fst).getD (g i) 0)):=by
   rw[<- SE hc hs,bq];exact Dd λi _=>.int _
  exact nQ R av .refl h l hl'
 | _=>exact h.elim
@[irreducible] noncomputable def big:Nat:=2 ^ 4096
theorem vE:big=2 ^ 4096:=by unfold big;rfl
def FQ{i:Int}(h:i.natAbs<big):Builtin.Int.intBits i<=2 ^ 20:=by
 rw[vE]at h;exact bI (intBits_le h) ⋯
noncomputable def K2 (a b:A)(S:jK):R A:=match a,b with
 | .int i,.int j=>gd (i.natAbs<big/\j.natAbs<big) (.ok (.int (i * j)) S)
 | _,_=>.no
def XX:pB X (binaryOp .Mult) (r2 X K2):=λpins s σ H x y v u Q I rx ry h9=>by
 x_go
 cases va with
 | int i=>cases vb with
  | int j=>
   obtain⟨⟨h1,h2⟩,h⟩:=kC h;obtain⟨t,rfl⟩:∃t,v=Value.int i t:=rx;obtain⟨t',rfl⟩:∃t,u=Value.int j t:=ry;exact mul_int ⟨.int _,H,I.tok _,⟨_,rfl⟩,h _ _ _ .refl R (.int _)⟩ (IntMulOk.of_bits (FQ h1) (FQ h2))
  | _=>exact h.elim
 | _=>exact h.elim
end
def UQ:bootBuiltins "dict" = some (.type "dict"):=by decide +kernel
noncomputable def kA (p:Int×Int):A:=.ktu [.int p.1,.int p.2]
noncomputable def Qx (K:au):af->Option (Int×Int)
 | .ref b=>match K.lookup b with
  | some ⟨.type "tuple",none,.seq its _,_⟩=>match its.toList with
   | [.int i _,.int j _]=>some (i,j)
   | _=>none
  | _=>none
 | _=>none
noncomputable def HB (K:au):ba->Option (List (Int×Int))
 | []=>some []
 | v::vs=>(Qx K v).bind λp=>(HB K vs).map λps=>p::ps
noncomputable def RO (K:au)(a:ak):Option (List (Int×Int)):=match K.lookup a with
 | some ⟨.type "list",none,.seq its _,_⟩=>if its.size<=sizeLine then HB K its.toList else none
 | _=>none
def QT{K:au}{v:af}{p:Int×Int}(h:Qx K v=some p):∃b,v=.ref b/\KTp K b [.int p.1,.int p.2]:=by
 unfold Qx at h;split at h
 ·rename_i b;refine⟨b,rfl,?_⟩;split at h
  ·rename_i its n sl e;split at h
   ·rename_i i t j u e2
    cases h
    refine⟨_,its,n,e,rfl,rfl,rfl,?_,?_⟩
    ·rw[<- dN,e2];show 2<=sizeLine;decide
    ·rw[e2];exact .cons ⟨t,rfl⟩ (.cons ⟨u,rfl⟩ .nil)
   ·cases h
  ·cases h
 ·cases h
def MC{K:au}{H:Hp}:∀{vs:ba}{ps:List (Int×Int)},HB K vs=some ps->∃us:List V,Vals us vs/\AVs K ρ H (ps.map kA) us:=by
 intro vs
 induction vs with
 | nil=>intro ps h;cases h;exact⟨[],.nil,.nil⟩
 | cons v vs ih=>
  intro ps h;obtain⟨p,h1,h⟩:=cE.mp h;obtain⟨qs,h2,rfl⟩:=aX.mp h;obtain⟨us,h3,h4⟩:=ih h2;obtain⟨b,rfl,h5⟩:=QT h1;exact⟨.ref b::us,.cons rfl h3,.cons (.ktu h5 (.cons (.int _) (.cons (.int _) .nil))) h4⟩
def Wt{K:au}{H:Hp}{a:ak}{ps:List (Int×Int)}(h:RO K a=some ps):AV K ρ H (.frz (ps.map kA)) (.ref a):=by
 unfold RO at h;split at h
 ·rename_i its n sl e;split at h
  ·rename_i hz;obtain⟨us,h1,h2⟩:=MC (ρ:=ρ) (H:=H) h;exact .frz (.inr ⟨_,its,n,e,rfl,rfl,rfl,hz,h1⟩) h2
  ·cases h
 ·cases h
def GQ{X:Cx}{x:Str}{a:ak}{ps:List (Int×Int)}(hm:X.mg x=some (.ref a))(hk:RO X.K a=some ps)(hg:Gl X x:=by rfl)(hd:(x == ("__debug__" : Str))=false:=by decide):AE X (.Name x pos) (eC (.frz (ps.map kA))):=
 PE.imp (TF (v:=.ref a) hg hm rfl hd) λσ H Q h9=>by
  room;exact h ρ H _ .refl R (Wt hk)
noncomputable def BV {α:Type}(x:ag×α):List (ag×α)->List (ag×α)
 | []=>[x]
 | y::ys=>if HT.lexLt y.1 x.1=true then y::BV x ys else x::y::ys
noncomputable def nI {α:Type}:List (ag×α)->List (ag×α)
 | []=>[]
 | x::xs=>BV x (nI xs)
section
variable {α:Type}
theorem Ck(x:ag×α):∀ys:List (ag×α),(BV x ys).Perm (x::ys)
 | []=>eU _
 | y::ys=>by
  unfold BV;by_cases h:HT.lexLt y.1 x.1=true
  ·rw[aM h];exact((Ck x ys).cons y).trans (List.Perm.swap x y ys)
  ·rw[aK h]
theorem qt:∀xs:List (ag×α),(nI xs).Perm xs
 | []=>eU _
 | x::xs=>(Ck x (nI xs)).trans ((qt xs).cons x)
theorem Gr(x:ag×α):∀ys:List (ag×α),(BV x ys).map Prod.fst=DK x.1 (ys.map Prod.fst)
 | []=>rfl
 | y::ys=>by
  unfold BV;rw[bD];unfold DK;by_cases h:HT.lexLt y.1 x.1=true
  ·rw[aM h,aM h,bD,Gr]
  ·rw[aK h,aK h];rfl
theorem CB:∀xs:List (ag×α),(nI xs).map Prod.fst=mQ (xs.map Prod.fst)
 | []=>rfl
 | x::xs=>by
  show(BV x (nI xs)).map Prod.fst=DK x.1 (mQ (xs.map Prod.fst));rw[Gr,CB]
theorem C9:∀{l:List (ag×α)},(l.map Prod.fst).Nodup->∀a∈l,∀b∈l,a.1=b.1->a=b
 | [],_,_,h,_,_,_=>nomatch h
 | x::l,nd,a,ha,b,hb,e=>by
  obtain⟨h1,h2⟩:=cO.mp nd
  rcases bw.mp ha with ea|ha'
  ·rcases bw.mp hb with eb|hb'
   ·rw[ea,eb]
   ·subst ea;exact absurd (e ▸ fN hb') h1
  ·rcases bw.mp hb with eb|hb'
   ·subst eb;exact absurd (e ▸ fN ha') h1
   ·exact C9 h2 a ha' b hb' e
def BK{xs ys:List (ag×α)}(nd:(ys.map Prod.fst).Nodup)(p:xs.Perm ys)(h:(xs.map Prod.fst).Pairwise DY):xs=nI ys:=by
 refine dR (le:=λ(a b:ag×α)=>DY a.1 b.1) (λ(a b:ag×α) ha hb h1 h2=>C9 nd a (p.mem_iff.mp ha) b ((qt ys).mem_iff.mp hb) (Sx.yd (show HT.lexLt b.1 a.1=false from h1) (show HT.lexLt a.1 b.1=false from h2)).symm) ?_ ?_ (p.trans (qt ys).symm)
 ·exact cI.mp h
 ·have:=sF (ys.map Prod.fst);rw[<- CB]at this;exact cI.mp this
def Ux{ps:List (ag×α)}{d:α}{g:Nat->Nat}(nd:(ps.map Prod.fst).Nodup)(c:Sx.Cl g 0 (ps.map Prod.fst).length)(so:Sx.So (Sx.BY (ps.map Prod.fst)) g 0 (ps.map Prod.fst).length):(List.range (ps.map Prod.fst).length).map (λi=>ps.getD (g i) ([],d))=nI ps:=by
 refine BK nd ?_ ?_
 ·have p:=sS (N:=(ps.map Prod.fst).length) (g:=g) (λi hi=>(c i (bL _) hi).2) λi j hij hj z=>by
   have:=so i j (bL _) hij hj;rw[z]at this;exact this.MV
  have:=p.map λi=>ps.getD i ([],d);rw[bq,aH,range_getD]at this;rw[aH];exact this
 ·rw[bq];have e:(Prod.fst ∘ λi=>ps.getD (g i) ([],d))=λi=>(ps.map Prod.fst).getD (g i) []:=funext λi=>by
   show(ps.getD (g i) ([],d)).1=_;rw[aI,aI,aQ]
   cases ps[g i]?<;>rfl
  rw[e,OV c so];exact sF _
end
noncomputable def Y4:ae->Option (List (ag×A))
 | []=>some []
 | .tup [.tup xs,y]::r=>match A.ints xs with
  | some ks=>(Y4 r).map λrs=>(ks,y)::rs
  | _=>none
 | _=>none
theorem Rv{K:au}{H:Hp}:∀{xs:ae}{vs:List V}{ps:List (ag×A)},AVs K ρ H xs vs->Y4 xs=some ps ->
  ∃rs:bb,vs=rs.map V.ref/\rs.length=ps.length/\∀(i:Nat) (r:ak) (e:ag×A),rs[i]?=some r->ps[i]?=some e->(∃(a:ak) (v:V),ni K H r [.ref a,v]/\ni K H a (e.1.map V.int))/\AV K ρ H (.tup [.tup (e.1.map .int),e.2]) (.ref r)
 | [],_,_,.nil,e=>by cases e;exact⟨[],rfl,rfl,λi r ks h=>by simp at h⟩
 | x::xs,_,ps,.cons h t,e=>by
  unfold Y4 at e;split at e
  ·rename_i z;cases z
  ·rename_i ys y r' z
   cases z
   cases e1:A.ints ys with
   | none=>rw[e1]at e;cases e
   | some ks=>
    rw[e1]at e;obtain⟨ps',e2,rfl⟩:=aX.mp e;obtain⟨rs,rfl,hl,hh⟩:=Rv t e2
    cases h with
    | tup h r=>cases r with
     | cons h1 r=>cases r with
      | cons h2 r=>
       cases r
       cases h1 with
       | tup h3 r3=>
        have ev:=zU r3 e1;subst ev;rename_i p _ q;refine⟨_::rs,rfl,by rw[bg,bg,hl],λi r' e' g1 g2=>?_⟩
        cases i with
        | zero=>
         cases g1
         cases g2
         exact⟨⟨_,_,ni.of h,ni.of h3⟩,.tup h (.cons (.tup h3 (sJ _)) (.cons h2 .nil))⟩
        | succ i=>exact hh i r' e' (by simpa using g1) (by simpa using g2)
  ·cases e
section
variable {X:Cx}
noncomputable def DA (x:A)(S:jK):R A:=match x with
 | .ref n=>opt (jG S n) λxs=>opt (Y4 xs) λps=>gd (ps.map Prod.fst).Nodup (.ok (.ref S.length) (S++[.lst ((nI ps).map λe=>.tup [.tup (e.1.map .int),e.2])]))
 | _=>.no
def M5(hu:X.A.units+64<cLine):kJ X (.builtin "sorted") (rN X (f1 DA)):=kJ.imp (EF hu) λvs H Q h0=>by
 kt_k;clear h0
 cases hv with
 | ref hp=>
  rename_i p n;kd_p;obtain⟨ps,hb,h⟩:=jQ h;obtain⟨nd,h⟩:=kC h;obtain⟨us,h1,r⟩:=R.lst hp (jX hn);obtain⟨rs,rfl,hl,hh⟩:=Rv r hb;have at_:∀(i:Nat) (ks:ag),(ps.map Prod.fst)[i]?=some ks->∃e,ps[i]?=some e/\e.1=ks:=λi ks h=>by
   rw[aQ]at h;exact aX.mp h
  refine⟨p,rs,ps.map Prod.fst,rfl,pL.of h1,by rw[aH,hl],λi j hi hj z=>(dz nd).mp z,λi r ks e1 e2=>?_,λl g hl' hc hs=>?_⟩
  ·obtain⟨e,g1,rfl⟩:=at_ i ks e2;exact(hh i r e e1 g1).1
  have av:AVs X.K ρ H ((nI ps).map λe=>.tup [.tup (e.1.map .int),e.2]) (((List.range (ps.map Prod.fst).length).map λi=>rs.getD (g i) 0).map V.ref):=by
   rw[<- Ux (d:=.non) nd hc hs,bq,bq];refine Dd λi hi=>?_;have lt:=(hc i (bL _) (cQ.mp hi)).2;rw[aH]at lt;have e1:rs[g i]?=some (rs.getD (g i) 0):=by rw[aI,aF ()];rfl
   have e2:ps[g i]?=some (ps.getD (g i) ([],.non)):=by rw[aI,aF lt];rfl
   exact(hh _ _ _ e1 e2).2
  exact nQ R av .refl h l hl'
 | _=>exact h.elim
end
noncomputable def Df (K:au)(x:Str)(st:aE):Prop:=∃(f:ak) (fd:FuncData),PySem.W.nsIn K mainGlobals x=some (some (.ref f))/\Fun K x x st f fd
inductive En (P:aj) (w:ah) (K:au) (mg:Str->Option af) (base:aq):Prop
 | mk (h:aq) (X:K.In h) (G:h.Ns mainGlobals mg)
section
variable {P:aj}{w:ah}{K:au}{mg:Str->Option af}{base:aq}{x:Str}{st:aE}{ps:ar}{k:Nat}{F:ae->jK->R A}
def En.at(E:En P w K mg base){f:ak}(h:PySem.W.nsIn K mainGlobals x=some (some (.ref f))):mg x=some (.ref f):=by
 obtain⟨_,X,G⟩:=E;exact jl X G h
def Df.of{f:ak}{kV pm ct:af}(a:PySem.W.nsIn K mainGlobals x=some (some (.ref f)))(l:K.lookup f=some ⟨oc,od,.func (PySem.W.fnOf x x (vp st) (qS st) (jS st) .none kV doc pm an cdv ct),osl⟩)(c:PySem.W.codeIn K cdv x=true)(k:PySem.W.keepIn K (.ref f)=true):Df K x st:=⟨f,_,a,WZ l c k⟩
noncomputable abbrev Bi (x:Str)(st:aE)(ps:ar):Prop:=∀us:ba,us.length=ps.length->∀(kV doc pm:af) (an:Option ak) (cdv ct:af),bindArgs (PySem.W.fnOf x x (vp st) (qS st) (jS st) .none kV doc pm an cdv ct) ⟨us,[]⟩=pure (ps.zip us)
def Df.get(d:Df K x st)(E:En P w K mg base)(b:Bi x st ps):∃f fd,Fun K x x st f fd/\mg x=some (.ref f)/\PySem.W.keepIn K (.ref f)=true/\Binds K fd ps []:=by
 obtain⟨f,fd,a,F⟩:=d;exact⟨f,fd,F,E.at a,F.kp,F.binds λkV doc pm an cdv ct us hl=>b us hl kV doc pm an cdv ct⟩
def Df.kA(d:Df K x st)(E:En P w K mg base)(h:∀{f fd},Fun K x x st f fd->FnOk P w K mg base pY k f fd ps (qJ K ps.length F))(b:Bi x st ps):mR P w K mg base k x ps F:=by
 obtain⟨f,fd,a,c,e,g⟩:=d.get E b;exact⟨f,fd,h a,c,e,g⟩
def Df.rA(d:Df K x st)(E:En P w K mg base)(h:∀{f fd},Fun K x x st f fd->mg x=some (.ref f)->PySem.W.keepIn K (.ref f)=true->Binds K fd ps []->FnOk P w K mg base pY k f fd ps (qJ K ps.length F))(b:Bi x st ps):mR P w K mg base k x ps F:=by
 obtain⟨f,fd,a,c,e,g⟩:=d.get E b;exact⟨f,fd,h a c e g,c,e,g⟩
end
section
variable {X:Cx}{pos p:Pos}{e1 e2 e3:aC}{x p1 p2 p3:Str}{k K0:Nat}{F:ae->jK->R A}{c1 c2 c3:Ex}
theorem ug(G:mR X.prog X.w X.K X.mg X.base k x [p1] F)(hr:Room K0 X.A)(h1:AE X e1 c1)(hk:k<=K0:=by decide)(hg:Gl X x:=by rfl)(hdb:(x == ("__debug__" : Str))=false:=by decide)(s1:starEach [e1] X.env=(false,eval e1 X.env)::starEach [] X.env:=by rfl)(hp:(backTo pos (starEach [] X.env)).any (·.1)=false:=by rfl):AE X (.Call (.Name x p) [e1] [] pos) (eFn F (jC c1 jI)):=sH G (hr.mono hk) (jE h1 jL s1) (kF nk) hg hdb s1 hp
def uf(G:mR X.prog X.w X.K X.mg X.base k x [p1,p2] F)(hr:Room K0 X.A)(h1:AE X e1 c1)(h2:AE X e2 c2)(hk:k<=K0:=by decide)(hg:Gl X x:=by rfl)(hdb:(x == ("__debug__" : Str))=false:=by decide)(s1:starEach [e1,e2] X.env=(false,eval e1 X.env)::starEach [e2] X.env:=by rfl)(s2:starEach [e2] X.env=(false,eval e2 X.env)::starEach [] X.env:=by rfl)(hp:(backTo pos (starEach [e2] X.env)).any (·.1)=false:=by rfl):AE X (.Call (.Name x p) [e1,e2] [] pos) (eFn F (jC c1 (jC c2 jI))):=sH G (hr.mono hk) (jE h1 (jE h2 jL s2) s1) (kF (kF nk)) hg hdb s1 hp
def MT(G:mR X.prog X.w X.K X.mg X.base k x [p1,p2,p3] F)(hr:Room K0 X.A)(h1:AE X e1 c1)(h2:AE X e2 c2)(h3:AE X e3 c3)(hk:k<=K0:=by decide)(hg:Gl X x:=by rfl)(hdb:(x == ("__debug__" : Str))=false:=by decide)(s1:starEach [e1,e2,e3] X.env=(false,eval e1 X.env)::starEach [e2,e3] X.env:=by rfl)(s2:starEach [e2,e3] X.env=(false,eval e2 X.env)::starEach [e3] X.env:=by rfl)(s3:starEach [e3] X.env=(false,eval e3 X.env)::starEach [] X.env:=by rfl)(hp:(backTo pos (starEach [e2,e3] X.env)).any (·.1)=false:=by rfl):AE X (.Call (.Name x p) [e1,e2,e3] [] pos) (eFn F (jC c1 (jC c2 (jC c3 jI)))):=sH G (hr.mono hk) (jE h1 (jE h2 (jE h3 jL s3) s2) s1) (kF (kF (kF nk))) hg hdb s1 hp
def uw{N P:ar}{sc:Scope}(a:sc.kind=.function)(b:sc.isCoroutine=false)(c:sc.isGenerator=false)(h:N.Nodup/\N.take P.length=P/\(∀x∈P,sc.names.lookup x=some .local\/sc.names.lookup x=some .cell)/\∀y∈sc.names,y.2≠.free):FnScope N P sc:=⟨a,b,c,h.1,h.2.1,h.2.2.1,h.2.2.2⟩
end
end Am
namespace Bl
open L2
noncomputable def cnt:ag->Int->Int
 | [],_=>0
 | x::l,j=>(if j<=x then 1 else 0)+cnt l j
noncomputable def Below (xs ys:ag):Prop:=∀(i:Nat) (j:Int),cnt (xs.take i) j<=cnt (ys.take i) j
def take_snoc{l:ag}{i:Nat}(h:i<l.length):l.take (i+1)=l.take i++[l[i]]:=by
 rw[List.take_succ,aF h];rfl
def Kr{l:ag}{p:Nat}(h:p<l.length)(v:Int)(i:Nat)(j:Int) :
  cnt ((l.set p v).take i) j=cnt (l.take i) j+(if p<i then(if j<=v then 1 else 0)-(if j<=l[p]then 1 else 0)else 0):=by
 induction l generalizing p i with
 | nil=>cases h
 | cons x l ih=>
  cases i with
  | zero=>simp[cnt]
  | succ i=>
   cases p with
   | zero=>
    show(if j<=v then 1 else 0)+cnt (l.take i) j=(if j<=x then 1 else 0)+cnt (l.take i) j+_;rw[aM (Nat.succ_pos _)];show _=(if j<=x then 1 else 0)+cnt (l.take i) j+((if j<=v then 1 else 0)-(if j<=x then 1 else 0));lia
   | succ p=>
    show(if j<=x then 1 else 0)+cnt ((l.set p v).take i) j=(if j<=x then 1 else 0)+cnt (l.take i) j+_;have hp:p<l.length:=iw h;rw[ih hp];by_cases z:p<i
    ·rw[aM z,aM (Nat.succ_lt_succ z)];show _=(if j<=x then 1 else 0)+cnt (l.take i) j+((if j<=v then 1 else 0)-(if j<=l[p]then 1 else 0));lia
    ·rw[aK z,aK (λy=>z (iw y))];lia
def EW{l:ag}{p q:Nat}(hp:p<l.length)(hq:q<l.length)(hpq:p<q)(h:l[p]<l[q]):Below l ((l.set p l[q]).set q l[p]):=by
 intro i j;have hq':q<(l.set p l[q]).length:=by rw[cA];exact hq
 rw[Kr hq',Kr hp];have e:(l.set p l[q])[q]=l[q]:=by rw[List.getElem_set_ne (bF hpq)]
 rw[e]
 (repeat' split)<;>lia
noncomputable def pX (a b:ag):Prop:=a.length=b.length/\∀(p:Nat) (h:p<a.length),b[(a[p]-1).toNat]?=some ((p:Int)+1)
end Bl
namespace Am
open PySem L2 Bl
def Zd{S:jK}{n:Nat}{x:A}{k:Nat}(h:jG S n=some [x])(hk:k<=16777216):Ew (.ref n) (.int k) S=.ok (.ref S.length) (S++[.lst (List.replicate k x)]):=by
 show opt (jG S n) _=_;rw[h,kN];have e:(List.replicate k [x]).flatten=List.replicate k x:=by
  induction k with
  | zero=>rfl
  | succ k ih=>rw[di,dZ,ih ()];rfl
 rw[mP ⟨(),(),by rw[eE,cZ];simpa using hk⟩,cZ,e]
def NV{xs:ag}{n:Int}(h:xs.Perm (k_ 1 (n+1)))(hn:0<=n):(xs.length:Int)=n:=by
 rw[h.length_eq,qw];lia
def GI{xs:ag}{n x:Int}(h:xs.Perm (k_ 1 (n+1)))(hx:x∈xs):1<=x/\x<=n:=by
 have:=oJ.mp (h.mem_iff.mp hx);lia
end Am
namespace Tb
noncomputable def fg (r:ag)(x:Int):Nat:=r.findIdx λy=>decide (x<y)
noncomputable def put:List (ag)->Int->List (ag)
 | [],x=>[[x]]
 | r::rs,x=>if fg r x=r.length then(r++[x])::rs else r.set (fg r x) x::put rs (r.getD (fg r x) 0)
noncomputable def row:List (ag)->Int->Nat
 | [],_=>0
 | r::rs,x=>if fg r x=r.length then 0 else row rs (r.getD (fg r x) 0)+1
def Uh{r:ag}{x:Int}(h:fg r x=r.length):put (r::rs) x=(r++[x])::rs:=aM h
def Yy{r:ag}{x:Int}(h:fg r x≠r.length):put (r::rs) x=r.set (fg r x) x::put rs (r.getD (fg r x) 0):=aK h
def KW{r:ag}{x:Int}(h:fg r x=r.length):row (r::rs) x=0:=aM h
def Nb{r:ag}{x:Int}(h:fg r x≠r.length):row (r::rs) x=row rs (r.getD (fg r x) 0)+1:=aK h
theorem Nz:∀(T:List (ag)) (x:Int),row T x<=T.length
 | [],_=>aO _
 | r::rs,x=>by
  by_cases h:fg r x=r.length
  ·rw[KW h];exact bL _
  ·rw[Nb h,bg];exact Nat.succ_le_succ (Nz rs _)
noncomputable def bump:am->Nat->am
 | [],_=>[1]
 | n::ns,0=>(n+1)::ns
 | n::ns,i+1=>n::bump ns i
theorem Cy:∀(T:List (ag)) (x:Int),(put T x).map List.length=bump (T.map List.length) (row T x)
 | [],_=>rfl
 | r::rs,x=>by
  by_cases h:fg r x=r.length
  ·rw[Uh h,KW h,bD,bD,aR];rfl
  ·rw[Yy h,Nb h,bD,bD,cA,Cy rs];rfl
theorem Ge:∀(ns:am) (i:Nat),i<=ns.length->(bump ns i).length=if i=ns.length then ns.length+1 else ns.length
 | [],i,h=>by
  have:i=0:=by simpa using h
  subst this;rfl
 | n::ns,0,_=>by rw[aK (by simp)];rfl
 | n::ns,i+1,h=>by
  have h':i<=ns.length:=Nat.le_of_succ_le_succ h;show(bump ns i).length+1=_;rw[Ge ns i h'];by_cases e:i=ns.length
  ·rw[aM e,aM (by rw[bg,e])];rfl
  ·rw[aK e,aK (by rw[bg];lia)];rfl
def DC(T:List (ag))(x:Int):(put T x).length=if row T x=T.length then T.length+1 else T.length:=by
 have:=dB List.length (Cy T x);rw[aH,Ge _ _ (by rw[aH];exact Nz T x),aH]at this;exact this
noncomputable def add:List (ag)->Nat->Int->List (ag)
 | [],_,k=>[[k]]
 | q::qs,0,k=>(q++[k])::qs
 | q::qs,i+1,k=>q::add qs i k
noncomputable def gs (r:ag)(x:Int):am:=(List.range r.length).filter λk=>decide (x<r.getD k 0)
end Tb
namespace Am
open PySem L2
noncomputable def Rows (S:jK):am->List (ag)->Prop
 | [],[]=>True
 | r::rs,x::T=>jG S r=some (x.map .int)/\Rows S rs T
 | _,_=>False
structure Tab (S:jK)(n:Nat)(rs:am)(T:List (ag)):Prop where
 top:jG S n=some (rs.map .ref)
 rows:Rows S rs T
 nd:(n::rs).Nodup
theorem BD{s:Src}{g:Tg}{e:Ex}{T:ae->Prop}(P:Nat->ae->jK->Prop)
  (step:∀i acc τ S,i<s.k->T τ->P i acc S->∃x τ1 S1 y S3,s.get i S=some x/\g x τ S=.ok τ1 S1/\T τ1/\e τ1 S1=.ok y S3/\P (i+1) (acc++[y]) S3) (hfin:∀acc S,P s.k acc S->s.fin S=true) :
  ∀k i acc τ S,k+i=s.k->T τ->P i acc S->∃ys S',nE s g qN e k i τ S=.ok ys S'/\P s.k (acc++ys) S'
 | 0,i,acc,τ,S,hk,hT,hP=>by
  have:i=s.k:=()
  subst this;exact⟨[],S,by unfold nE;rw[aM (hfin acc S hP)],by rw[cG];exact hP⟩
 | k+1,i,acc,τ,S,hk,hT,hP=>by
  obtain⟨x,τ1,S1,y,S3,hx,hg,hT1,he,hP3⟩:=step i acc τ S () hT hP;obtain⟨ys,S',h1,h2⟩:=BD P step hfin k (i+1) (acc++[y]) τ1 S3 () hT1 hP3;refine⟨y::ys,S',?_,by rw[cu]at h2;exact h2⟩;unfold nE;rw[hx,kN,hg,R.lO];show(e τ1 S1).ud _=_;rw[he,R.lO,h1];rfl
def eq_nil{a:Nat}{xs:ae}(h:jG S a=some xs)(h':jG S b=some []):tK S 12 (.ref a) (.ref b)=some xs.isEmpty:=by
 show(jG S a).bind (λxs=>(jG S b).bind λys=>rG (tK S 11) xs ys)=_;rw[h,dg,h',dg]
 cases xs<;>rfl
def DB{a:A}{k:Bool}(h:tK S 12 a b=some k):rB false a b S=.ok (.bl k) S:=by unfold rB;rw[h];rfl
def yC{a:A}{k:Bool}(h:tK S 12 a b=some k):rB true a b S=.ok (.bl (!k)) S:=by unfold rB;rw[h];rfl
def Qe{xs:ae}{n:Nat}{src:Ic}{t:Te}{e:Ex}{S:jK}(hs:src τ S=.ok (lA n xs.length) S)(hx:jG S n=some xs)(p:A->Bool)(f:A->A)
  (ht:∀x∈xs,t (x::lN cap τ) S=.ok (p x) S) (he:∀x∈xs,p x=true->e (x::lN cap τ) S=.ok (f x) S) (hl:xs.length<=16777216) :
  kZ (none::cap) src (kL 0) t e τ S=.ok (.ref S.length) (S++[.lst ((xs.filter p).map f)]):=by
 have hm:∀i,i<xs.length->xs.getD i .unb∈xs:=λi hi=>by
  rw[aI,aF hi];exact c9 hi
 rw[Cf hs (λi=>xs.getD i .unb) (λi=>p (xs.getD i .unb)) (λi=>f (xs.getD i .unb)) (λi hi=>by
  have hi:i<xs.length:=hi;show(jG S n).bind _=_;rw[hx,dg,aI,aF hi];rfl) (by
   show(match jG S n with
    | some ys=>decide (ys.length<=xs.length)
    | none=>false)=true
   rw[hx];simp) (λi hi=>ht _ (hm i hi)) (λi hi=>he _ (hm i hi)) hl]
 have:=sE xs p f .unb;show R.ok _ (S++[O.lst (((List.range xs.length).filter _).map _)])=_;rw[this]
def getD_at{r:ag}{k:Nat}(h:k<r.length):r[k]?=some (r.getD k 0):=by rw[aI,aF h];rfl
end Am
namespace Wd
open Bl L2
noncomputable def ex (l:ag)(k:Nat):ag:=(l.set (k-1) (l.getD k 0)).set k (l.getD (k-1) 0)
noncomputable def led (l:ag)(w:am):ag:=w.foldl ex l
def nu{l:ag}{k:Nat}(h:k<l.length):l.getD k 0=l[k]:=by rw[aI,aF h];rfl
def Fb{l:ag}{k:Nat}(h0:1<=k)(h:k<l.length):ex l k=(l.set (k-1) l[k]).set k (l[k-1]'()):=by
 unfold ex;rw[nu h,nu (show k-1<l.length by lia)]
def mD(l:ag)(k:Nat):(ex l k).length=l.length:=by unfold ex;rw[cA,cA]
theorem Dy:∀(w:am) (l:ag),(led l w).length=l.length
 | [],_=>rfl
 | k::w,l=>by show(led (ex l k) w).length=_;rw[Dy w,mD]
def Dm{l:ag}{k:Nat}(h0:1<=k)(h:k<l.length):(ex l k).Perm l:=by
 rw[Fb h0 h];exact List.set_set_perm () h
def tX(a b:am)(l:ag):led l (a++b)=led (led l a) b:=c6
def up{l:ag}{k:Nat}(h0:1<=k)(h:k<l.length)(hr:l[k-1]'()<l[k]):Below l (ex l k):=by
 rw[Fb h0 h];exact EW () h () hr
noncomputable def jZ:ag->am->Prop
 | _,[]=>True
 | l,k::w=>1<=k/\k<l.length/\l.getD (k-1) 0<l.getD k 0/\jZ (ex l k) w
theorem jZ.snoc:∀{w:am}{l:ag}{k:Nat},jZ l w->1<=k->k<l.length->(led l w).getD (k-1) 0<(led l w).getD k 0->jZ l (w++[k])
 | [],l,k,_,h0,h1,h2=>⟨h0,h1,h2,trivial⟩
 | m::w,l,k,h,h0,h1,h2=>⟨h.1,h.2.1,h.2.2.1,jZ.snoc h.2.2.2 h0 (by rw[mD];exact h1) h2⟩
theorem jZ.valid:∀{w:am}{l:ag},jZ l w->∀k∈w,1<=k/\k<l.length
 | [],_,_,k,hk=>by cases hk
 | m::w,l,h,k,hk=>by
  rcases bw.mp hk with z|z
  ·rw[z];exact⟨h.1,h.2.1⟩
  ·have:=jZ.valid h.2.2.2 k z;rw[mD]at this;exact this
noncomputable def sw (k:Nat)(x:Int):Int:=if x=k then(k:Int)+1 else if x=(k:Int)+1 then k else x
def ex_map(f:Int->Int){l:ag}{k:Nat}(h0:1<=k)(h:k<l.length):ex (l.map f) k=(ex l k).map f:=by
 rw[Fb h0 h,Fb h0 (by rw[aH];exact h),iW,iW,c_,c_]
theorem z_(f:Int->Int):∀{w:am}{l:ag},(∀k∈w,1<=k/\k<l.length)->led (l.map f) w=(led l w).map f
 | [],_,_=>rfl
 | k::w,l,h=>by
  have hk:=h k (aJ ..);show led (ex (l.map f) k) w=(led (ex l k) w).map f;rw[ex_map f hk.1 hk.2,z_ f λm hm=>by rw[mD];exact h m (aL _ hm)]
def q_{n p:Nat}(h:p<n):(k_ 1 ((n:Int)+1))[p]?=some ((p:Int)+1):=by
 unfold k_;rw[aQ,eg ()];simp;lia
def jV(n:Nat):(k_ 1 ((n:Int)+1)).length=n:=by rw[qw];lia
def oH{l:ag}{k:Nat}(h0:1<=k)(h:k<l.length)(p:Nat):(ex l k)[p]?=if p=k then l[k-1]? else if p=k-1 then l[k]? else l[p]?:=by
 rw[Fb h0 h,List.getElem?_set];by_cases h1:k=p
 ·rw[aM h1,aM h1.symm,aM (by rw[cA];lia),aF]
 ·rw[aK h1,aK (λz=>h1 z.symm),List.getElem?_set];by_cases h2:k-1=p
  ·rw[aM h2,aM h2.symm,aM (),aF]
  ·rw[aK h2,aK (λz=>h2 z.symm)]
def N_{n k:Nat}(h0:1<=k)(h:k<n):ex (k_ 1 ((n:Int)+1)) k=(k_ 1 ((n:Int)+1)).map (sw k):=by
 apply cT;intro p;rw[oH h0 (by rw[jV];exact h),aQ];by_cases hp:p<n
 ·rw[q_ hp,q_ h,q_ (show k-1<n by lia)];show _=some (sw k ((p:Int)+1));unfold sw;by_cases h1:p=k
  ·rw[aM h1,aK (),aM ()];congr 1;lia
  ·rw[aK h1];by_cases h2:p=k-1
   ·rw[aM h2,aM ()]
   ·rw[aK h2,aK (),aK ()]
 ·have e:(k_ 1 ((n:Int)+1))[p]?=none:=b_ (by rw[jV];lia);rw[aK (),aK (),e];rfl
def CG{A B:ag}{k:Nat}(h0:1<=k)(h:k<A.length)(hb:pX A B):pX (ex A k) (B.map (sw k)):=by
 refine⟨by rw[mD,aH];exact hb.1,λp hp=>?_⟩;rw[mD]at hp;have hg:(ex A k)[p]'(by rw[mD];exact hp)=if p=k then A[k-1]'()else if p=k-1 then A[k]else A[p]:=by
  have:=oH h0 h p;rw[aF (by rw[mD];exact hp)]at this;by_cases h1:p=k
  ·rw[aM h1,aF (show k-1<A.length by lia)]at this;rw[aM h1];exact a_ this
  ·rw[aK h1]at this;rw[aK h1];by_cases h2:p=k-1
   ·rw[aM h2,aF h]at this;rw[aM h2];exact a_ this
   ·rw[aK h2,aF hp]at this;rw[aK h2];exact a_ this
 rw[hg,aQ];by_cases h1:p=k
 ·rw[aM h1,hb.2 (k-1) ()];show some (sw k _)=_;unfold sw;rw[aM ()];congr 1;lia
 ·rw[aK h1];by_cases h2:p=k-1
  ·rw[aM h2,hb.2 k h];show some (sw k _)=_;unfold sw;rw[aK (),aM ()];congr 1;lia
  ·rw[aK h2,hb.2 p hp];show some (sw k _)=_;unfold sw;rw[aK (),aK ()]
theorem nH{n:Nat}:∀(w:am),(∀k∈w,1<=k/\k<n)->pX (led (k_ 1 ((n:Int)+1)) w.reverse) (led (k_ 1 ((n:Int)+1)) w)
 | [],_=>⟨rfl,λp hp=>by
  have hp:p<n:=by rw[show([]:am).reverse=[]from rfl]at hp;have:p<(k_ 1 ((n:Int)+1)).length:=hp;rw[jV]at this;exact this
  have e:(k_ 1 ((n:Int)+1))[p]'(by rw[jV];exact hp)=(p:Int)+1:=by
   have:=q_ hp;rw[aF (by rw[jV];exact hp)]at this;exact a_ this
  show(k_ 1 ((n:Int)+1))[(((k_ 1 ((n:Int)+1))[p]'(by rw[jV];exact hp))-1).toNat]?=_;rw[e,show((p:Int)+1-1).toNat=p by lia];exact q_ hp⟩
 | k::w,h=>by
  have hk:=h k (aJ ..);have hw:=λm hm=>h m (aL k hm);have ih:=nH w hw;rw[fq,tX];show pX (ex (led (k_ 1 ((n:Int)+1)) w.reverse) k) (led (ex (k_ 1 ((n:Int)+1)) k) w);rw[N_ hk.1 hk.2,z_ (sw k) (λm hm=>by rw[jV];exact hw m hm)];exact CG hk.1 (by rw[Dy,jV];exact hk.2) ih
end Wd
namespace Iv
open L2 Bl
noncomputable def inv:ag->Nat
 | []=>0
 | x::l=>l.countP (λy=>decide (y<x))+inv l
noncomputable def ow (a b:ag):Nat:=(a.map λx=>b.countP λy=>decide (y<x)).sum
def wF(x:Int)(a b:ag):ow (x::a) b=b.countP (λy=>decide (y<x))+ow a b:=rfl
theorem mC:∀(a b:ag),inv (a++b)=inv a+inv b+ow a b
 | [],b=>by show inv b=0+inv b+0;lia
 | x::a,b=>by
  show(a++b).countP _+inv (a++b)=(a.countP _+inv a)+inv b+ow (x::a) b;rw[List.countP_append,mC a b,wF];lia
theorem xF:∀{a b:am},a.Perm b->a.sum=b.sum
 | _,_,.nil=>rfl
 | _,_,.cons x h=>by rw[gG,gG,xF h]
 | _,_,.swap x y l=>by rw[gG,gG,gG,gG];lia
 | _,_,.trans h k=>(xF h).trans (xF k)
def TQ{a:ag}(b:ag)(h:a.Perm a'):ow a b=ow a' b:=xF (h.map _)
def Uy(a:ag){b:ag}(h:b.Perm b'):ow a b=ow a b':=by
 unfold ow;congr 1;refine cL λx _=>h.countP_eq _
def D6{M:ag}{x y:Int}(h:∀m∈M,m<x\/y<m)(hxy:x<y):M.countP (λm=>decide (m<x))=M.countP (λm=>decide (m<y)):=by
 refine List.countP_congr λm hm=>?_;rw[decide_eq_true_iff,decide_eq_true_iff]
 rcases h m hm with z|z<;>lia
theorem zv:∀{M:ag}{x y:Int},(∀m∈M,m<x\/y<m)->x<y->ow M [x]=ow M [y]
 | [],_,_,_,_=>rfl
 | m::M,x,y,h,hxy=>by
  rw[wF,wF,zv (λm' hm=>h m' (aL _ hm)) hxy];congr 1;have:=h m (aJ ..);dsimp[jn,List.countP_nil];by_cases c:x<m
  ·rw[bf c,bf (show y<m by lia)]
  ·rw[bu c,bu (show ¬y<m by lia)]
def mid{M:ag}{x y:Int}(h:∀m∈M,m<x\/y<m)(hxy:x<y):inv ([y]++M++[x])=inv ([x]++M++[y])+1:=by
 rw[mC,mC,mC ([x]++M),mC [x]];have e1:ow [y] M=ow [x] M:=by
  show M.countP _+0=M.countP _+0;rw[D6 h hxy]
 have e2:ow ([y]++M) [x]=1+ow M [x]:=by
  show[x].countP _+ow M [x]=_;rw[jn,bf hxy];rfl
 have e3:ow ([x]++M) [y]=ow M [y]:=by
  show[y].countP _+ow M [y]=_;rw[jn,bu (by lia:¬y<x)];simp
 rw[e1,e2,e3,zv h hxy]
 skip
 lia
def Oe(M:ag)(x y:Int):([y]++M++[x]).Perm ([x]++M++[y]):=by
 refine(List.perm_append_comm (l₁:=[y]++M) (l₂:=[x])).trans ?_
 skip
 exact .cons x (List.perm_append_comm (l₁:=[y]) (l₂:=M))
def step{P M R:ag}{x y:Int}(h:∀m∈M,m<x\/y<m)(hxy:x<y):inv (P++([y]++M++[x])++R)=inv (P++([x]++M++[y])++R)+1:=by
 have p:=Oe M x y;rw[mC,mC P,mC (P++([x]++M++[y])),mC P,mid h hxy,Uy P p,TQ R (p.append_left P)];lia
theorem Ir:∀(l:ag),inv l<=l.length * l.length
 | []=>aO _
 | x::l=>by
  show l.countP _+inv l<=(l.length+1) * (l.length+1);have h1:=List.countP_le_length (p:=λy=>decide (y<x)) (l:=l);have h2:=Ir l;rw[Nat.add_mul,Nat.mul_add];lia
noncomputable def sw (a:ag)(i j:Nat):ag:=(a.set i (a.getD j 0)).set j (a.getD i 0)
def Br(a:ag)(i j:Nat):(sw a i j).length=a.length:=by unfold sw;rw[cA,cA]
def split{a:ag}(hij:i<j)(hj:j<a.length):∃P M R:ag,a=P++([a.getD i 0]++M++[a.getD j 0])++R/\P=a.take i/\(∀m∈M,∃k,i<k/\k<j/\a[k]?=some m)/\sw a i j=P++([a.getD j 0]++M++[a.getD i 0])++R:=by
 have gi:a.getD i 0=a[i]:=by rw[aI,aF ()];rfl
 have gj:a.getD j 0=a[j]:=by rw[aI,aF hj];rfl
 obtain⟨M,hM⟩:∃M,M=(a.drop (i+1)).take (j-i-1):=⟨_,rfl⟩;have lM:M.length=j-i-1:=by rw[hM,bK,dD];lia
 have ea:a=a.take i++([a.getD i 0]++M++[a.getD j 0])++a.drop (j+1):=by
  have h1:a.drop i=a[i]::a.drop (i+1):=dh ();have h2:a.drop (i+1)=M++a.drop j:=by
   rw[hM];have:=iB (j-i-1) (a.drop (i+1));rw[List.drop_drop,show i+1+(j-i-1)=j by lia]at this;exact this.symm
  have h3:a.drop j=a[j]::a.drop (j+1):=dh hj
  conv=>lhs;rw[<- iB i a,h1,h2,h3]
  rw[gi,gj];simp
 refine⟨a.take i,M,a.drop (j+1),ea,rfl,λm hm=>?_,?_⟩
 ·rw[hM]at hm;obtain⟨k,hk⟩:=fj hm;have hlt:k<j-i-1:=by
   have:=(aN.mp hk).1;rw[bK]at this;lia
  rw[fF hlt,gM]at hk;exact⟨i+1+k,(),(),hk⟩
 ·have key:∀(P R:ag) (x y x' y':Int),P.length=i->((P++([x]++M++[y])++R).set i y').set j x'=P++([y']++M++[x'])++R:=λP R x y x' y' lP=>by
   rw[cu,f9 _ _ (),lP,ig];show(P++(y'::((M++[y])++R))).set j x'=_;rw[f9 _ _ (),lP,show j-i=(j-i-1)+1 by lia,List.set_cons_succ,cu,f9 _ _ (),lM,ig];simp
  have:=key (a.take i) (a.drop (j+1)) (a.getD i 0) (a.getD j 0) (a.getD i 0) (a.getD j 0) (by rw[bK];lia);rw[<- ea]at this;exact this
end Iv
namespace Fw
open PySem L2 Bl
open Wd (ex led)
noncomputable abbrev rg (n:Nat):ag:=k_ 1 ((n:Int)+1)
def wm{l:ag}{k:Nat}(h0:1<=k)(h:k<l.length):ex (ex l k) k=l:=by
 apply cT;intro p;have h':k<(ex l k).length:=by rw[Wd.mD];exact h
 rw[Wd.oH h0 h',Wd.oH h0 h,Wd.oH h0 h,Wd.oH h0 h];by_cases c3:p=k
 ·rw[aM c3,aK (),aM rfl,c3]
 ·rw[aK c3];by_cases c2:p=k-1
  ·rw[aM c2,aM rfl,c2]
  ·rw[aK c2,aK c3,aK c2]
def aaE{l:ag}{k:Nat}(h0:1<=k)(h:k<l.length):(ex l k).getD k 0=l.getD (k-1) 0:=by
 rw[aI,Wd.oH h0 h,aM rfl,aI]
def ZR{l:ag}{k:Nat}(h0:1<=k)(h:k<l.length):(ex l k).getD (k-1) 0=l.getD k 0:=by
 rw[aI,Wd.oH h0 h,aK (),aM rfl,aI]
def G7{l:ag}{k:Nat}(h0:1<=k)(h:k<l.length)(hr:l.getD (k-1) 0<l.getD k 0):Iv.inv (ex l k)=Iv.inv l+1:=by
 obtain⟨P,M,R,e,_,hM,es⟩:=Iv.split (a:=l) (i:=k-1) (j:=k) () h;have:=Iv.step (P:=P) (M:=M) (R:=R) (x:=l.getD (k-1) 0) (y:=l.getD k 0) (λm hm=>by obtain⟨_,_,_,_⟩:=hM m hm;lia) hr;rw[<- es,<- e]at this;exact this
def oK{l:ag}{k:Nat}(h0:1<=k)(h:k<l.length)(hr:l.getD k 0<l.getD (k-1) 0):Iv.inv l=Iv.inv (ex l k)+1:=by
 have:=G7 (l:=ex l k) h0 (by rw[Wd.mD];exact h) (by rw[aaE h0 h,ZR h0 h];exact hr);rw[wm h0 h]at this;exact this
noncomputable def Va (n:Nat)(w:am):Prop:=∀k∈w,1<=k/\k<n
def Va.tail{n k:Nat}{w:am}(h:Va n (k::w)):Va n w:=λj hj=>h j (aL _ hj)
def Va.head{n k:Nat}{w:am}(h:Va n (k::w)):1<=k/\k<n:=h k (aJ ..)
theorem Ah:∀{w:am}{l:ag},Va l.length w->led (led l w) w.reverse=l
 | [],l,_=>rfl
 | k::w,l,h=>by
  rw[fq,Wd.tX];show led (led (led (ex l k) w) w.reverse) [k]=l;rw[Ah (w:=w) (l:=ex l k) (by rw[Wd.mD];exact h.tail)];exact wm h.head.1 h.head.2
theorem DT:∀{l:ag},l.Pairwise (·<=·)->Iv.inv l=0
 | [],_=>rfl
 | x::l,h=>by
  show l.countP (λy=>decide (y<x))+Iv.inv l=0;rw[DT (bM.mp h).2,List.countP_eq_zero.mpr λa ha z=>by have:=bV z;have:=(bM.mp h).1 a ha;lia]
def wV(n:Nat):Iv.inv (rg n)=0:=DT (DR _ _)
noncomputable def Ba (l:ag)(k:Nat):Prop:=1<=k/\k<l.length/\l.getD k 0<l.getD (k-1) 0
def Ru{l:ag}(h:∀k,¬Ba l k):l.Pairwise (·<=·):=by
 have key:∀d i,i+d<l.length->l.getD i 0<=l.getD (i+d) 0:=by
  intro d
  induction d with
  | zero=>intro i _;exact Int.le_refl _
  | succ d ih=>
   intro i hi;have h1:=ih i ();have h2:¬l.getD (i+d+1) 0<l.getD (i+d) 0:=λz=>h (i+d+1) ⟨(),hi,z⟩;rw[<- iJ];lia
 rw[cF];intro i j hi hj hij;have:=key (j-i) i ();rw[show i+(j-i)=j by lia,Wd.nu hi,Wd.nu hj]at this;exact this
def K_{l:ag}{n:Nat}(p:l.Perm (rg n))(h:∀k,¬Ba l k):l=rg n:=
 dR (λx y _ _ h1 h2=>Int.le_antisymm h1 h2) (Ru h) (DR _ _) p
def KY{l:ag}(h:0<Iv.inv l):∃k,Ba l k:=by
 refine Classical.byContradiction λz=>?_;rw[DT (Ru λk hk=>z ⟨k,hk⟩)]at h;exact absurd h (fY _)
noncomputable def Dn:ag->am->Prop
 | l,[]=>∀k,¬Ba l k
 | l,k::ks=>(Ba l k/\∀j,Ba l j->k<=j)/\Dn (ex l k) ks
def nM{l:ag}{n k:Nat}(p:l.Perm (rg n))(h0:1<=k)(h:k<l.length):(ex l k).Perm (rg n):=(Wd.Dm h0 h).trans p
def Dn.len:∀{ks:am}{l:ag},Dn l ks->ks.length=Iv.inv l
 | [],l,h=>(DT (Ru h)).symm
 | k::ks,l,h=>by
  have:=h.2.len;rw[oK h.1.1.1 h.1.1.2.1 h.1.1.2.2,bg];lia
def Dn.va:∀{ks:am}{l:ag},Dn l ks->Va l.length ks
 | [],l,_=>λk hk=>absurd hk (by simp)
 | k::ks,l,h=>λj hj=>by
  rcases bw.mp hj with rfl|z
  ·exact⟨h.1.1.1,h.1.1.2.1⟩
  ·have:=h.2.va j z
   rwa [Wd.mD]at this
theorem Dn.led:∀{ks:am}{l:ag}{n:Nat},Dn l ks->l.Perm (rg n)->led l ks=rg n
 | [],l,n,h,p=>K_ p h
 | k::ks,l,n,h,p=>Dn.led (ks:=ks) h.2 (nM p h.1.1.1 h.1.1.2.1)
theorem Jv:∀(m:Nat) (l:ag),Iv.inv l<=m->∃ks,Dn l ks
 | 0,l,h=>⟨[],λk hk=>by have:=oK hk.1 hk.2.1 hk.2.2;lia⟩
 | m+1,l,h=>by
  by_cases c:∃k,Ba l k
  ·obtain⟨k,hk,hmin⟩:∃k,Ba l k/\∀j,Ba l j->k<=j:=by
    obtain⟨k,hk⟩:=c
    induction k using Nat.strongRecOn with
    | ind k ih=>
     by_cases z:∃j,Ba l j/\j<k
     ·obtain⟨j,hj,hlt⟩:=z;exact ih j hlt hj
     ·exact⟨k,hk,λj hj=>iF λy=>z ⟨j,hj,y⟩⟩
   have:=oK hk.1 hk.2.1 hk.2.2;obtain⟨ks,hks⟩:=Jv m (ex l k) ();exact⟨k::ks,⟨hk,hmin⟩,hks⟩
  ·exact⟨[],λk hk=>c ⟨k,hk⟩⟩
def LR{a c:ag}{n:Nat}(pa:a.Perm (rg n))(h1:pX a b)(h2:pX b c):a=c:=by
 have l1:=h1.1;have l2:=h2.1;refine List.ext_getElem () λq hq hq'=>?_;have e1:=h1.2 q hq;have hm:=(oJ.mp (pa.mem_iff.mp (c9 hq)));obtain⟨hb,eb⟩:=aN.mp e1;have e2:=h2.2 _ hb;rw[eb,show((q:Int)+1-1).toNat=q by lia,aF hq']at e2;have:=a_ e2;lia
structure Two (n:Nat)(o u:ag):Prop where
 po:o.Perm (rg n)
 pu:u.Perm (rg n)
 ou:pX o u
def Two.lu{n:Nat}{u:ag}(t:Two n o u):u.length=n:=by rw[t.pu.length_eq,Wd.jV]
def Two.lo{n:Nat}{o:ag}(t:Two n o u):o.length=n:=by rw[t.po.length_eq,Wd.jV]
def Two.led{n:Nat}(t:Two n o u)(h:Dn u ks):Wd.led (rg n) ks=o:=by
 have v:Va n ks:=by have:=h.va;rwa [t.lu]at this
 have e:=h.led t.pu;have e2:u=Wd.led (rg n) ks.reverse:=by rw[<- e,Ah (by rw[t.lu];exact v)]
 have b:=Wd.nH ks v;rw[<- show u=Wd.led (k_ 1 ((n:Int)+1)) ks.reverse from e2]at b;exact(LR t.po t.ou b).symm
def Two.uo{n:Nat}(t:Two n o u):pX u o:=by
 obtain⟨ks,h⟩:=Jv _ u (aO _);have v:Va n ks:=by have:=h.va;rwa [t.lu]at this
 have e:=h.led t.pu;have e2:u=Wd.led (rg n) ks.reverse:=by rw[<- e,Ah (by rw[t.lu];exact v)]
 have b:=Wd.nH ks v;rw[<- show u=Wd.led (k_ 1 ((n:Int)+1)) ks.reverse from e2,show Wd.led (k_ 1 ((n:Int)+1)) ks=o from t.led h]at b;exact b
def Two.flip{n:Nat}(t:Two n o u):Two n u o:=⟨t.pu,t.po,t.uo⟩
def Two.step{n k:Nat}{o:ag}(t:Two n o u)(h0:1<=k)(h:k<n):Two n (o.map (Wd.sw k)) (ex u k):=by
 have lu:=t.lu;have b:=Wd.CG h0 () t.uo;have p1:=nM t.pu h0 ();have p2:(o.map (Wd.sw k)).Perm (rg n):=(t.po.map _).trans (by rw[<- Wd.N_ h0 h];exact Wd.Dm h0 (by rw[Wd.jV];exact h));exact(Two.mk p1 p2 b).flip
end Fw
namespace Po
open Am
noncomputable abbrev Pl:=List (Int×Int)
noncomputable def val (d:Pl)(k:Int):Int:=((d.find? λp=>decide (p.1=k)).map (·.2)).getD 0
noncomputable def has (d:Pl)(k:Int):Bool:=d.any λp=>decide (p.1=k)
noncomputable def put (d:Pl)(k v:Int):Pl:=if has d k=true then d.map (λp=>if p.1=k then(p.1,v)else p)else d++[(k,v)]
noncomputable def acc (d:Pl)(k v:Int):Pl:=put d k (val d k+v)
noncomputable def cf:Pl->Int->Int
 | [],_=>0
 | p::l,k=>(if p.1=k then p.2 else 0)+cf l k
def pI{p:Int×Int}{k:Int}:val (p::d) k=if p.1=k then p.2 else val d k:=by
 unfold val;rw[cP];by_cases h:p.1=k
 ·rw[bf h,aM h];rfl
 ·rw[bu h,aK h]
def Bm{p:Int×Int}{k:Int}:has (p::d) k=(decide (p.1=k) || has d k):=rfl
def yf{d:Pl}{k:Int}:has d k=true ↔ k∈d.map Prod.fst:=by
 unfold has;rw[gu,bA];constructor
 ·rintro⟨p,h1,h2⟩;exact⟨p,h1,bV h2⟩
 ·rintro⟨p,h1,h2⟩;exact⟨p,h1,bf h2⟩
def Rl{k:Int}(h:has d k=false):val d k=0:=by
 induction d with
 | nil=>rfl
 | cons p d ih=>
  rw[Bm,iM]at h;rw[pI,aK (c8 h.1),ih h.2]
def UJ{k v j:Int}(h:has d k=false):val (d++[(k,v)]) j=if j=k then v else val d j:=by
 induction d with
 | nil=>
  show val [(k,v)] j=_;rw[pI];by_cases c:k=j
  ·rw[aM c,aM c.symm]
  ·rw[aK c,aK (λz=>c z.symm)]
 | cons p d ih=>
  rw[Bm,iM]at h;have:=c8 h.1;rw[List.cons_append,pI,pI,ih h.2];by_cases c:p.1=j
  ·rw[aM c,aM c,aK (λz=>this (c.trans z))]
  ·rw[aK c,aK c]
def Sq{d:Pl}{k v j:Int}:val (d.map λp=>if p.1=k then(p.1,v)else p) j=if j=k/\has d k=true then v else val d j:=by
 induction d with
 | nil=>
  rw[aK (λz=>by cases z.2)];rfl
 | cons p d ih=>
  rw[bD,pI,pI,ih,Bm];by_cases c:p.1=k
  ·rw[aM c,bf c,Bool.true_or];by_cases e:j=k
   ·rw[aM (show p.1=j by lia),aM ⟨e,rfl⟩]
   ·rw[aK (show ¬p.1=j by lia),aK (λz=>e z.1),aK (λz=>e z.1),aK (show ¬p.1=j by lia)]
  ·rw[aK c,bu c,gD];by_cases e:p.1=j
   ·rw[aM e,aM e,aK (λz=>c (e.trans z.1))]
   ·rw[aK e,aK e]
def Tu{k v j:Int}:val (put d k v) j=if j=k then v else val d j:=by
 unfold put
 cases h:has d k with
 | true=>
  rw[aM rfl,Sq,h];by_cases c:j=k
  ·rw[aM ⟨c,rfl⟩,aM c]
  ·rw[aK (λz=>c z.1),aK c]
 | false=>rw[aK (by simp),UJ h]
def S_{k v j:Int}:val (acc d k v) j=val d j+if k=j then v else 0:=by
 unfold acc;rw[Tu];by_cases c:j=k
 ·subst c;rw[aM rfl,aM rfl]
 ·rw[aK c,aK (λz=>c z.symm),cM]
def NQ{d:Pl}{k v:Int}:(put d k v).map Prod.fst=if has d k=true then d.map Prod.fst else d.map Prod.fst++[k]:=by
 unfold put;split
 ·rw[bq];apply cL;intro p _;show(if p.1=k then(p.1,v)else p).1=p.1;split<;>rfl
 ·rw[bO];rfl
def Xn{d:Pl}{k v:Int}(h:(d.map Prod.fst).Nodup):((put d k v).map Prod.fst).Nodup:=by
 rw[NQ];split
 ·exact h
 ·rename_i c;rw[d9];refine⟨h,bW _ _,λa ha b hb z=>c ?_⟩;rw[aP]at hb;rw[yf,<- hb,<- z];exact ha
def SK{d:Pl}{k v:Int}:(put d k v).length<=d.length+1:=by
 unfold put;split
 ·rw[aH];lia
 ·rw[aR];exact aO _
noncomputable def Bd (c:Nat)(d:Pl):Prop:=∀p∈d,p.2.natAbs<=c
theorem Bd.val{c:Nat}(h:Bd c d)(k:Int):(val d k).natAbs<=c:=by
 induction d with
 | nil=>exact bL _
 | cons p d ih=>
  rw[pI];split
  ·exact h p (aJ ..)
  ·exact ih λq hq=>h q (aL _ hq)
noncomputable def qK (d ps:Pl):Pl:=ps.foldl (λd p=>acc d p.1 p.2) d
def Rp(d:Pl):qK d []=d:=rfl
def Bj(d ps qs:Pl):qK d (ps++qs)=qK (qK d ps) qs:=by unfold qK;rw[c6]
def xG(ps:Pl):∀(d:Pl) (k:Int),val (qK d ps) k=val d k+cf ps k:=by
 induction ps with
 | nil=>intro d k;rw[Rp];show _=_+0;rw[cM]
 | cons p ps ih=>
  intro d k;show val (qK (acc d p.1 p.2) ps) k=_;rw[ih,S_];show _=_+(_+_);rw[fH]
def vq(ps:Pl):∀{d:Pl},(d.map Prod.fst).Nodup->((qK d ps).map Prod.fst).Nodup:=by
 induction ps with
 | nil=>intro d h;exact h
 | cons p ps ih=>intro d h;exact ih (Xn h)
def qg(ps:Pl):∀(d:Pl),(qK d ps).length<=d.length+ps.length:=by
 induction ps with
 | nil=>intro d;exact aO _
 | cons p ps ih=>
  intro d;have h1:=ih (acc d p.1 p.2);have h2:(acc d p.1 p.2).length<=d.length+1:=SK;show(qK (acc d p.1 p.2) ps).length<=_;rw[bg];lia
structure Ok (l:Pl):Prop where
 up:l.Pairwise λp q=>p.1<q.1
 nz:∀p∈l,p.2≠0
def Ok.tail{p:Int×Int}{l:Pl}(h:Ok (p::l)):Ok l:=⟨(bM.mp h.up).2,λq hq=>h.nz q (aL _ hq)⟩
def Fq{l:Pl}{k:Int}(h:∀p∈l,k<p.1):cf l k=0:=by
 induction l with
 | nil=>rfl
 | cons p l ih=>
  show(if p.1=k then p.2 else 0)+cf l k=0;have:=h p (aJ ..);rw[aK (),ih λq hq=>h q (aL _ hq)];rfl
def Ok.head{p:Int×Int}{l:Pl}(h:Ok (p::l)):cf (p::l) p.1=p.2:=by
 show(if p.1=p.1 then p.2 else 0)+cf l p.1=p.2;rw[aM rfl,Fq (bM.mp h.up).1,cM]
def Ok.low{p:Int×Int}{l:Pl}(h:Ok (p::l)){k:Int}(hk:k<p.1):cf (p::l) k=0:=Fq λq hq=>by
 rcases bw.mp hq with rfl|z
 ·exact hk
 ·have:=(bM.mp h.up).1 q z;lia
theorem uniq:∀{l m:Pl},Ok l->Ok m->(∀k,cf l k=cf m k)->l=m
 | [],[],_,_,_=>rfl
 | [],q::m,_,h,e=>by
  have:=e q.1;rw[h.head]at this;exact absurd this.symm (h.nz q (aJ ..))
 | p::l,[],h,_,e=>by
  have:=e p.1;rw[h.head]at this;exact absurd this (h.nz p (aJ ..))
 | p::l,q::m,h,h',e=>by
  have n1:=h.nz p (aJ ..);have n2:=h'.nz q (aJ ..);have e1:p.1=q.1:=by
   rcases Int.lt_trichotomy p.1 q.1 with c|c|c
   ·have:=e p.1;rw[h.head,h'.low c]at this;exact absurd this n1
   ·exact c
   ·have:=e q.1;rw[h'.head,h.low c]at this;exact absurd this.symm n2
  have e2:p.2=q.2:=by
   have:=e p.1;rw[h.head,e1,h'.head]at this;exact this
  have e3:p=q:=Prod.ext e1 e2;subst e3;rw[uniq h.tail h'.tail λk=>by
   have:(if p.1=k then p.2 else 0)+cf l k=(if p.1=k then p.2 else 0)+cf m k:=e k;lia]
noncomputable def J9 (d:Pl):Pl:=((sortI (d.map Prod.fst)).filter λk=>val d k != 0).map λk=>(k,val d k)
def UZ{ks:ag}(h:ks.Nodup):(sortI ks).Pairwise (· < ·):=by
 have p:=BI ks;have n:(sortI ks).Nodup:=(sortI_perm ks).nodup_iff.mpr h;have:(sortI ks).Pairwise λa b=>a<=b/\a≠b:=p.and n;exact this.imp λ⟨a,b⟩=>()
def Du{d:Pl}(h:(d.map Prod.fst).Nodup):Ok (J9 d):=by
 refine⟨?_,λp hp=>?_⟩
 ·unfold J9;rw[cI];exact(UZ h).filter _
 ·obtain⟨k,hk,rfl⟩:=bA.mp hp;have:=(cN.mp hk).2;simpa using this
theorem Qn{k:Int}:∀{ks:ag},ks.Nodup->cf (ks.map λj=>(j,val d j)) k=if k∈ks then val d k else 0
 | [],_=>by rw[aK (by simp)];rfl
 | j::ks,h=>by
  obtain⟨h1,h2⟩:=cO.mp h;show(if j=k then val d j else 0)+cf (ks.map λj=>(j,val d j)) k=_;rw[Qn h2];by_cases c:j=k
  ·subst c;rw[aM rfl,aK h1,aM (aJ ..),cM]
  ·rw[aK c,bY];by_cases e:k∈ks
   ·rw[aM e,aM (aL _ e)]
   ·rw[aK e,aK λz=>(bw.mp z).elim (λz=>c z.symm) e]
def D_{d:Pl}(h:(d.map Prod.fst).Nodup)(k:Int):cf (J9 d) k=val d k:=by
 unfold J9;rw[Qn (((sortI_perm _).nodup_iff.mpr h).filter _)];split
 ·rfl
 ·rename_i c
  cases e:has d k with
  | false=>exact(Rl e).symm
  | true=>
   by_cases z:val d k=0
   ·exact z.symm
   ·exact absurd (cN.mpr ⟨(sortI_perm _).mem_iff.mpr (yf.mp e),by simpa using z⟩) c
def WV{d e:Pl}(h:(d.map Prod.fst).Nodup)(h':(e.map Prod.fst).Nodup)(hv:∀k,val d k=val e k):J9 d=J9 e:=
 uniq (Du h) (Du h') λk=>by rw[D_ h,D_ h',hv]
def Ok.nd{l:Pl}(h:Ok l):(l.map Prod.fst).Nodup:=by
 unfold List.Nodup;rw[cI];exact h.up.imp λa=>()
def QA{l:Pl}(h:(l.map Prod.fst).Nodup)(k:Int):val l k=cf l k:=by
 induction l with
 | nil=>rfl
 | cons p l ih=>
  obtain⟨h1,h2⟩:=cO.mp h;rw[pI];show _=(if p.1=k then p.2 else 0)+cf l k;rw[<- ih h2];by_cases c:p.1=k
  ·have:has l k=false:=by
    cases e:has l k with
    | false=>rfl
    | true=>exact absurd (yf.mp e) (by rw[<- c];exact h1)
   rw[aM c,aM c,Rl this,cM]
  ·rw[aK c,aK c,bY]
noncomputable def NC (d ps:Pl):Pl:=ps.foldl (λd p=>put d p.1 p.2) d
theorem KU:∀(ps d:Pl),((d++ps).map Prod.fst).Nodup->NC d ps=d++ps
 | [],d,_=>by rw[cG];rfl
 | p::ps,d,h=>by
  have hn:has d p.1=false:=by
   cases e:has d p.1 with
   | false=>rfl
   | true=>
    rw[bO,d9]at h;exact absurd rfl (h.2.2 _ (yf.mp e) p.1 (fN (aJ ..)))
  have e:put d p.1 p.2=d++[p]:=by unfold put;rw[hn];rfl
  show NC (put d p.1 p.2) ps=_;rw[e,KU ps (d++[p]) (by rw[cu];exact h),cu];rfl
def Tz{l:Pl}(h:Ok l):NC [] l=l:=KU l [] h.nd
noncomputable def plus (a b:Pl):Pl:=J9 (qK a b)
noncomputable def pG (a b:Pl):Pl:=J9 (qK [] (a++b))
def Sl{a:Pl}(h:Ok a):plus a b=pG a b:=by
 refine WV (vq _ h.nd) (vq _ dM) λk=>?_;rw[xG,xG,QA h.nd];have:∀(a b:Pl),cf (a++b) k=cf a k+cf b k:=λa b=>by
  induction a with
  | nil=>exact(bY _).symm
  | cons p a ih=>
   show _+cf (a++b) k=_+_+_;rw[ih,fH]
 rw[this];show _=0+_;rw[bY]
def EU(a b:Pl):Ok (pG a b):=Du (vq _ dM)
noncomputable def BZ (a b:Pl):Pl:=a.flatMap λp=>b.map λq=>(p.1+q.1,p.2 * q.2)
noncomputable def times (a b:Pl):Pl:=J9 (qK [] (BZ a b))
def su(a b:Pl):Ok (times a b):=Du (vq _ dM)
def QN(a:Pl)(p:Int×Int)(b:Pl):BZ (a++[p]) b=BZ a b++b.map λq=>(p.1+q.1,p.2 * q.2):=by
 unfold BZ;rw[iU,jg,List.flatMap_nil,cG]
def zS(a b:Pl):(BZ a b).length=a.length * b.length:=by
 induction a with
 | nil=>simp[BZ]
 | cons p a ih=>
  show((b.map _)++BZ a b).length=_;rw[aR,aH,ih,bg,eB];lia
theorem Bd.BZ{c:Nat}{a:Pl}(h:Bd c a)(h':Bd c' b):Bd (c * c') (BZ a b):=λr hr=>by
 obtain⟨p,hp,hr⟩:=fS.mp hr;obtain⟨q,hq,rfl⟩:=bA.mp hr
 skip
 rw[Int.natAbs_mul];exact dY (h p hp) (h' q hq)
def Jl(d:Pl):(J9 d).length<=d.length:=by
 unfold Po.J9;rw[aH];refine bI (dP _ _) ?_;rw[(sortI_perm _).length_eq,aH];exact aO _
noncomputable def turn (a:Pl):Pl:=a.reverse.map λp=>(-p.1,p.2)
noncomputable def iv (d:Pl):List (Int×A):=d.map λp=>(p.1,.int p.2)
noncomputable def pA (p:Int×Int):A:=.tup [.int p.1,.int p.2]
noncomputable def pl (l:Pl):ae:=l.map pA
def Dz(d:Pl)(k:Int):nK (iv d) k=(d.find? λp=>decide (p.1=k)).map λp=>.int p.2:=by
 unfold nK iv;rw[iy,gh];rfl
def O4(d:Pl)(k:Int):(nK (iv d) k).getD (.int 0)=.int (val d k):=by
 rw[Dz];unfold val
 cases d.find? λp=>decide (p.1=k)<;>rfl
def FN{d:Pl}{k:Int}(h:k∈d.map Prod.fst):nK (iv d) k=some (.int (val d k)):=by
 have:=yf.mpr h;unfold has at this;rw[Dz];unfold val
 cases e:d.find? λp=>decide (p.1=k)with
 | some p=>rfl
 | none=>
  obtain⟨p,hp,hd⟩:=gu.mp this;exact absurd hd (gO.mp e p hp)
def HG(d:Pl)(k v:Int):yS (iv d) k (.int v)=iv (put d k v):=by
 have e:(nK (iv d) k).isSome=has d k:=by
  rw[Dz,gZ];unfold has;rw[Bool.eq_iff_iff,jh,gu]
 unfold yS put;rw[e];unfold iv;split
 ·rw[bq,bq];apply cL;intro p _;show(if p.1=k then(p.1,A.int v)else(p.1,.int p.2))=_;show _=((if p.1=k then(p.1,v)else p).1,A.int (if p.1=k then(p.1,v)else p).2);split<;>rfl
 ·rw[bO];rfl
def UP(d:Pl):(iv d).map Prod.fst=d.map Prod.fst:=by
 unfold iv;rw[bq];rfl
theorem Wc:∀l:Pl,TZ (pl l)=some (iv l)
 | []=>rfl
 | p::l=>by
  show(TZ (pl l)).map _=_;rw[Wc l];rfl
def R9(l:Pl):US (iv l)=iv (NC [] l):=by
 have:∀(l d:Pl),(iv l).foldl (λacc p=>yS acc p.1 p.2) (iv d)=iv (NC d l):=by
  intro l
  induction l with
  | nil=>intro d;rfl
  | cons p l ih=>
   intro d;show(iv l).foldl _ (yS (iv d) p.1 (.int p.2))=_;rw[HG,ih];rfl
 exact this l []
end Po
namespace Am
open PySem L2 Po
noncomputable abbrev RU:Tg:=yp 2 (o8 (kL 0) (o8 (kL 1) yo))
def AQ{s:Src}{src:Ic}{e:Ex}{S1:jK}(hs:src τ S=.ok s S1)(a b f:Nat->A)(hget:∀i,i<s.k->s.get i S1=some (.tup [a i,b i]))(hfin:s.fin S1=true)
  (he:∀i,i<s.k->e (a i::b i::lN cap τ) S1=.ok (f i) S1) (hl:s.k<=16777216) :
  kZ (none::none::cap) src RU qN e τ S=.ok (.ref S1.length) (S1++[.lst ((List.range s.k).map f)]):=by
 unfold kZ;rw[hs,R.oZ];obtain⟨S',h1,h2⟩:=xU (s:=s) (g:=RU) (t:=qN) (e:=e) (P:=λS=>S=S1) (T:=λτ'=>∃y z,τ'=y::z::lN cap τ) (λi=>.tup [a i,b i]) (λ_=>true) f (λi S hi h=>by subst h;exact hget i hi) (λS h=>by subst h;exact hfin)
  (λi τ' S hi ⟨y,z,hy⟩ h=>by
   subst h hy;exact⟨a i::b i::lN cap τ,S,S,rfl,rfl,⟨_,_,rfl⟩,λh=>(nomatch h),λhp=>⟨S,he i hi,rfl⟩⟩) s.k 0 (lN (none::none::cap) τ) S1 rfl ⟨_,_,rfl⟩ rfl
 subst h2;rw[h1,R.lO,gb,gB.mpr (λ_ _=>rfl)];refine lg ?_;rw[aH,List.length_range'];exact hl
def Rq{l:Pl}{i:Nat}(h:i<l.length):(pl l)[i]?=some (.tup [.int (l.getD i (0,0)).1,.int (l.getD i (0,0)).2]):=by
 unfold pl;rw[aQ,aF h,aI,aF h];rfl
def qD(l:Pl):(pl l).length=l.length:=aH ..
def Q_{l:Pl}{n:Nat}{src:Ic}{e:Ex}{S1:jK}(hs:src τ S=.ok (lA n (pl l).length) S1)(hx:jG S1 n=some (pl l))(f:Int×Int->A)
  (he:∀p:Int×Int,e (.int p.1::.int p.2::lN cap τ) S1=.ok (f p) S1) (hl:l.length<=16777216) :
  kZ (none::none::cap) src RU qN e τ S=.ok (.ref S1.length) (S1++[.lst (l.map f)]):=by
 rw[AQ hs (λi=>.int (l.getD i (0,0)).1) (λi=>.int (l.getD i (0,0)).2) (λi=>f (l.getD i (0,0))) (λi hi=>by
  have hi:i<(pl l).length:=hi;rw[qD]at hi;show(jG S1 n).bind _=_;rw[hx,dg,Rq hi]) (by
   show(match jG S1 n with
    | some ys=>decide (ys.length<=(pl l).length)
    | none=>false)=true
   rw[hx];simp) (λi _=>he _) (by show(pl l).length<=_;rw[qD];exact hl)]
 have:=range_getD l (0,0)
 skip
 rw[qD]
 conv=>rhs;rw[<- this,bq]
 rfl
def MY{l:Pl}{n:Nat}{src:Ic}{e:Ex}{S1:jK}(hs:src τ S=.ok (JX n (pl l).length) S1)(hx:jG S1 n=some (pl l))(f:Int×Int->A)
  (he:∀p:Int×Int,e (.int p.1::.int p.2::lN cap τ) S1=.ok (f p) S1) (hl:l.length<=16777216) :
  kZ (none::none::cap) src RU qN e τ S=.ok (.ref S1.length) (S1++[.lst (l.reverse.map f)]):=by
 have rg:∀i,i<l.length->l.reverse.getD i (0,0)=l.getD (l.length-1-i) (0,0):=λi hi=>by
  rw[aI,aI,List.getElem?_reverse hi]
 rw[AQ hs (λi=>.int (l.reverse.getD i (0,0)).1) (λi=>.int (l.reverse.getD i (0,0)).2) (λi=>f (l.reverse.getD i (0,0))) (λi hi=>by
  have hi:i<(pl l).length:=hi;rw[qD]at hi;show(jG S1 n).bind _=_;rw[hx,dg,qD,aM hi,Rq (),rg i hi]) rfl (λi _=>he _) (by show(pl l).length<=_;rw[qD];exact hl)]
 have:=range_getD l.reverse (0,0)
 skip
 rw[qD]
 conv=>rhs;rw[<- this,bq,fO]
 rfl
def MP{xs:ae}{n:Nat}{src:Ic}{t:Te}{e:Ex}{S1:jK}(hs:src τ S=.ok (lA n xs.length) S1)(hx:jG S1 n=some xs)(p:A->Bool)(f:A->A)
  (ht:∀x∈xs,t (x::lN cap τ) S1=.ok (p x) S1) (he:∀x∈xs,p x=true->e (x::lN cap τ) S1=.ok (f x) S1) (hl:xs.length<=16777216) :
  kZ (none::cap) src (kL 0) t e τ S=.ok (.ref S1.length) (S1++[.lst ((xs.filter p).map f)]):=by
 have:=Qe (S:=S1) (src:=λ_ _=>.ok (lA n xs.length) S1) (τ:=τ) rfl hx p f ht he hl;unfold kZ at this ⊢;rw[hs];exact this
def OD{S:jK}:lZ (S++[.rQ d]) S.length=some d:=Em HW
def Xe{o:O}{n:Nat}(h:lZ S n=some d):lZ (S++[o]) n=some d:=by
 have h':=p_ h;exact Em (by rw[bG (aN.mp h').1];exact h')
def V5{S:jK}{n:Nat}(h:lZ S n=some d):n<S.length:=(aN.mp (p_ h)).1
def N2{S:jK}{n:Nat}(h:n<S.length):lZ (S.set n (.rQ d)) n=some d:=Em (cj h)
def KD{n:Nat}(h:lZ S n=some d)(h':jG S m=some xs):n≠m:=λz=>by
 subst z;have e1:=p_ h;rw[jX h']at e1
 cases e1
def II{f:A->ae->jK->R A}{co:Ex}{d:rK}:LN f co d τ S=(co τ S).bind λx S1=>opt (dk? x S1) λ_=>(d τ S1).bind λas S2=>f x as S2:=rfl
def MX{n:Nat}:dk? (.ref n) S=(lZ S n).map λ_=>Unit.unit:=rfl
def GL{n:Nat}{k:Int}:zl (.ref n) [.int k,y] S=opt (lZ S n) λkvs=>.ok ((nK kvs k).getD y) S:=rfl
def Js{co ci:Ex}{a:A}:MA co ci a τ S=(co τ S).bind λo S1=>(ci τ S1).bind λi S2=>(Cj o i a S2).bind λ_ S3=>.ok τ S3:=rfl
def Gh{n:Nat}{k:Int}{v:A}{S:jK}:Cj (.ref n) (.int k) v S=opt (lZ S n) λkvs=>gd (kvs.length<sizeLine) (.ok Unit.unit (S.set n (.rQ (yS kvs k v)))):=rfl
def Jh{n:Nat}{k:Int}:AY (.ref n) (.int k) S=opt (lZ S n) λkvs=>opt (nK kvs k) λv=>.ok v S:=rfl
def Lv{S:jK}:Io τ S=.ok (.ref S.length) (S++[.rQ []]):=rfl
def MF{n:Nat}{S:jK}:AZ (.ref n) S=opt (lZ S n) λkvs=>.ok (.ref S.length) (S++[.lst ((sortI (kvs.map Prod.fst)).map .int)]):=rfl
def MG{n:Nat}{S:jK}:Iu (.ref n) S=opt (jG S n) λxs=>opt (TZ xs) λps=>.ok (.ref S.length) (S++[.rQ (US ps)]):=rfl
def acq{i j:Int}(h:i.natAbs<big)(h':j.natAbs<big):K2 (.int i) (.int j) S=.ok (.int (i * j)) S:=mP ⟨h,h'⟩
def M0(d:Pl):(iv d).length=d.length:=aH ..
noncomputable abbrev YJ:Sm:=kI (jO lK (LN zl (jF 2) (jC (jF 3) (jC (eC (.int 0)) (jI)))) (jF 4)) (MA (jF 2) (jF 3))
def acc_step{S:jK}{D:Pl}{k v:Int}(hd:lZ S d=some (iv D))(hl:D.length<16777216):YJ [x0,x1,.ref d,.int k,.int v] S=.nx [x0,x1,.ref d,.int k,.int v] (S.set d (.rQ (iv (acc D k v)))):=by
 unfold YJ;dsimp[kD,bools,II,MX,hd,dw,GL,O4,Js,Gh,wu (show(iv D).length<16777216 by rw[M0];exact hl),HG];rfl
noncomputable abbrev MU:Tg:=yp 2 (o8 (kL 3) (o8 (kL 4) yo))
def Td{n:Nat}{D l:Pl}{src:Ic}(hs:src [x0,x1,.ref d,x3,x4] S=.ok (lA n (pl l).length) S1)(hn:jG S1 n=some (pl l))(hd:lZ S1 d=some (iv D))(hl:D.length+l.length<16777216) :
  ∃y3 y4 S',lX src MU YJ [x0,x1,.ref d,x3,x4] S=.nx [x0,x1,.ref d,y3,y4] S'/\lZ S' d=some (iv (qK D l))/\Kp (·=d) S1 S':=by
 have nd:=KD hd hn;refine qb (n:=n) (xs:=pl l) hs (λi τ T=>(∃y3 y4,τ=[x0,x1,.ref d,y3,y4])/\lZ T d=some (iv (qK D (l.take i)))/\Kp (·=d) S1 T)
  (λr=>∃y3 y4 S',r=.nx [x0,x1,.ref d,y3,y4] S'/\lZ S' d=some (iv (qK D l))/\Kp (·=d) S1 S') ⟨⟨_,_,rfl⟩,hd,Kp.refl⟩ (λi τ T h=>h.2.2.lst _ _ (dj nd) hn) ?_ ?_
 ·rintro i z τ T hz ⟨⟨y3,y4,rfl⟩,hD,kp⟩;unfold pl at hz;rw[aQ]at hz;obtain⟨p,hp,rfl⟩:=aX.mp hz;refine⟨[x0,x1,.ref d,.int p.1,.int p.2],T,rfl,.inl ?_⟩;have hlen:=qg (l.take i) D;have hi:=(aN.mp hp).1;rw[bK]at hlen;refine⟨_,_,acc_step hD (),⟨_,_,rfl⟩,?_,kp.HK (.inl rfl)⟩;rw[N2 (V5 hD),c5,hp,Bj];rfl
 ·rintro τ T ⟨⟨y3,y4,rfl⟩,hD,kp⟩;rw[qD,dc]at hD;exact⟨y3,y4,T,rfl,hD,kp⟩
noncomputable abbrev Uj:Sm:=kI (jO lK (LN zl (jF 2) (jC (jO lK (jF 3) (jF 5)) (jC (eC (.int 0)) (jI)))) (jO K2 (jF 4) (jF 6))) (MA (jF 2) (jO lK (jF 3) (jF 5)))
noncomputable abbrev g56:Tg:=yp 2 (o8 (kL 5) (o8 (kL 6) yo))
def Qp{S:jK}{D:Pl}{k v j u:Int}(hd:lZ S d=some (iv D))(hl:D.length<16777216)(hv:v.natAbs<big)(hu:u.natAbs<big):Uj [x0,x1,.ref d,.int k,.int v,.int j,.int u] S=.nx [x0,x1,.ref d,.int k,.int v,.int j,.int u] (S.set d (.rQ (iv (acc D (k+j) (v * u))))):=by
 unfold Uj;dsimp[kD,bools,II,MX,hd,dw,GL,O4,acq hv hu,Js,Gh,wu (show(iv D).length<16777216 by rw[M0];exact hl),HG];rfl
def TU{n:Nat}{D l:Pl}{k v:Int}(hn:jG S n=some (pl l))(hd:lZ S d=some (iv D))(hl:D.length+l.length<16777216)(hv:v.natAbs<big)(hu:∀p∈l,p.2.natAbs<big) :
  ∃y5 y6 S',lX (m9 (jF 1)) g56 Uj [x0,.ref n,.ref d,.int k,.int v,x5,x6] S=.nx [x0,.ref n,.ref d,.int k,.int v,y5,y6] S'/\lZ S' d=some (iv (qK D (l.map λq=>(k+q.1,v * q.2))))/\Kp (·=d) S S':=by
 have nd:=KD hd hn;refine qb (n:=n) (xs:=pl l) (S1:=S) (mX (by dsimp[kD,bools]) hn) (λi τ T=>(∃y5 y6,τ=[x0,.ref n,.ref d,.int k,.int v,y5,y6])/\lZ T d=some (iv (qK D ((l.take i).map λq=>(k+q.1,v * q.2))))/\Kp (·=d) S T)
  (λr=>∃y5 y6 S',r=.nx [x0,.ref n,.ref d,.int k,.int v,y5,y6] S'/\lZ S' d=some (iv (qK D (l.map λq=>(k+q.1,v * q.2))))/\Kp (·=d) S S') ⟨⟨_,_,rfl⟩,hd,Kp.refl⟩ (λi τ T h=>h.2.2.lst _ _ (dj nd) hn) ?_ ?_
 ·rintro i z τ T hz ⟨⟨y5,y6,rfl⟩,hD,kp⟩;unfold pl at hz;rw[aQ]at hz;obtain⟨p,hp,rfl⟩:=aX.mp hz;refine⟨[x0,.ref n,.ref d,.int k,.int v,.int p.1,.int p.2],T,rfl,.inl ?_⟩;have hlen:=qg ((l.take i).map λq=>(k+q.1,v * q.2)) D;have hi:=(aN.mp hp).1;rw[aH,bK]at hlen;refine⟨_,_,Qp hD () hv (hu p (aW hp)),⟨_,_,rfl⟩,?_,kp.HK (.inl rfl)⟩;rw[N2 (V5 hD),c5,hp,bO,Bj];rfl
 ·rintro τ T ⟨⟨y5,y6,rfl⟩,hD,kp⟩;rw[qD,dc]at hD;exact⟨y5,y6,T,rfl,hD,kp⟩
noncomputable abbrev XU:Sm:=lX (m9 (jF 1)) g56 Uj
def GV(f:Int×Int->A)(hf:∀p τ S,MU (f p) τ S=MU (pA p) τ S){n:Nat}{a b:Pl}(hn:jG S n=some (a.map f))(hm:jG S m=some (pl b))(hd:lZ S d=some [])(hl:a.length * b.length<16777216)(ha:∀p∈a,p.2.natAbs<big)(hb:∀p∈b,p.2.natAbs<big) :
  ∃y3 y4 y5 y6 S',lX (m9 (jF 0)) MU XU [.ref n,.ref m,.ref d,x3,x4,x5,x6] S=.nx [.ref n,.ref m,.ref d,y3,y4,y5,y6] S'/\lZ S' d=some (iv (qK [] (BZ a b)))/\Kp (·=d) S S':=by
 have nd:=KD hd hn;have md:=KD hd hm;refine qb (n:=n) (xs:=a.map f) (S1:=S) (mX (by dsimp[kD,bools]) hn) (λi τ T=>(∃y3 y4 y5 y6,τ=[.ref n,.ref m,.ref d,y3,y4,y5,y6])/\lZ T d=some (iv (qK [] (BZ (a.take i) b)))/\Kp (·=d) S T)
  (λr=>∃y3 y4 y5 y6 S',r=.nx [.ref n,.ref m,.ref d,y3,y4,y5,y6] S'/\lZ S' d=some (iv (qK [] (BZ a b)))/\Kp (·=d) S S') ⟨⟨_,_,_,_,rfl⟩,hd,Kp.refl⟩ (λi τ T h=>h.2.2.lst _ _ (dj nd) hn) ?_ ?_
 ·rintro i z τ T hz ⟨⟨y3,y4,y5,y6,rfl⟩,hD,kp⟩;rw[aQ]at hz;obtain⟨p,hp,rfl⟩:=aX.mp hz;refine⟨[.ref n,.ref m,.ref d,.int p.1,.int p.2,y5,y6],T,hf _ _ _,.inl ?_⟩;have hlen:=qg (BZ (a.take i) b) [];have hi:=(aN.mp hp).1;rw[zS,bK,iQ (jq hi),bQ,cB]at hlen;have hmul:i * b.length+b.length<=a.length * b.length:=by rw[<- eB];exact bN _ hi
  obtain⟨z5,z6,T',e,hD',kp'⟩:=TU (x0:=.ref n) (x5:=y5) (x6:=y6) (k:=p.1) (v:=p.2) (kp.lst _ _ (dj md) hm) hD () (ha p (aW hp)) hb;refine⟨_,_,e,⟨_,_,_,_,rfl⟩,?_,kp.trans kp'⟩;rw[hD',c5,hp,Option.toList_some,QN,Bj]
 ·rintro τ T ⟨⟨y3,y4,y5,y6,rfl⟩,hD,kp⟩;rw[aH,dc]at hD;exact⟨y3,y4,y5,y6,T,rfl,hD,kp⟩
noncomputable abbrev abB:Ex:=kZ [none,some 0] (m9 (ki (f1 AZ) (jC (jF 0) (jI)))) (kL 0) (v_ (jO (rB true) (jO AY (jF 1) (jF 0)) (eC (.int 0)))) (mE (jC (jF 0) (jC (jO AY (jF 1) (jF 0)) (jI))))
def XR{S:jK}{D:Pl}(hd:lZ S d=some (iv D))(hl:D.length<=16777216):∃S',abB [.ref d] S=.ok (.ref (S.length+1)) S'/\jG S' (S.length+1)=some (pl (J9 D))/\lC S S':=by
 have hd1:lZ (S++[.lst ((sortI (D.map Prod.fst)).map .int)]) d=some (iv D):=Xe hd;have ls:(S++[O.lst ((sortI (D.map Prod.fst)).map A.int)]).length=S.length+1:=by simp
 have cc:=MP (n:=S.length) (xs:=(sortI (D.map Prod.fst)).map A.int) (cap:=[some 0]) (src:=m9 (ki (f1 AZ) (jC (jF 0) (jI)))) (t:=v_ (jO (rB true) (jO AY (jF 1) (jF 0)) (eC (.int 0)))) (e:=mE (jC (jF 0) (jC (jO AY (jF 1) (jF 0)) (jI)))) (τ:=[.ref d]) (S:=S) (S1:=S++[.lst ((sortI (D.map Prod.fst)).map .int)])
  (mX (by dsimp[kD,bools,MF,hd,UP]) jT) jT (λx=>match x with | .int k=>val D k != 0|_=>false) (λx=>match x with | .int k=>pA (k,val D k)|_=>.non) (λx hx=>by
   obtain⟨k,hk,rfl⟩:=bA.mp hx;have hk:=(sortI_perm _).mem_iff.mp hk;dsimp[kD,bools,Jh,hd1,FN hk];rfl) (λx hx _=>by
   obtain⟨k,hk,rfl⟩:=bA.mp hx;have hk:=(sortI_perm _).mem_iff.mp hk;dsimp[kD,bools,Jh,hd1,FN hk];exact qh (show 2<=16777216 by decide)) (by rw[aH,(sortI_perm _).length_eq,aH];exact hl)
 refine⟨_,cc.trans (by rw[ls]),?_,Kp.refl.lay.lay⟩;rw[<- ls,jT];congr 1;unfold pl J9;rw[bq,jv,bq];rfl
end Am
namespace Su
open Am Po PySem L2
noncomputable abbrev En:=ag×Nat×Pl
noncomputable abbrev Es:=List En
noncomputable def ent (e:En):A:=.tup [.tup (e.1.map .int),.ref e.2.1]
noncomputable def kv (e:En):ag×A:=(e.1,.ref e.2.1)
noncomputable def At (S:jK)(es:Es):Prop:=∀e∈es,jG S e.2.1=some (pl e.2.2)
noncomputable abbrev Ps:=List (ag×Pl)
noncomputable def sm (es:Es):Ps:=es.map λe=>(e.1,e.2.2)
def nc(es:Es):(sm es).length=es.length:=aH ..
def EI(a b:Es):sm (a++b)=sm a++sm b:=bO
noncomputable def vS (D:Ps)(o:ag):Pl:=((D.find? λe=>decide (e.1=o)).map (·.2)).getD []
noncomputable def hS (D:Ps)(o:ag):Bool:=D.any λe=>decide (e.1=o)
noncomputable def Ay (D:Ps)(o:ag)(p:Pl):Ps:=if hS D o=true then D.map (λe=>if e.1=o then(e.1,p)else e)else D++[(o,p)]
noncomputable def za (D:Ps)(o:ag)(p:Pl):Ps:=Ay D o (pG (vS D o) p)
noncomputable def adds (D l:Ps):Ps:=l.foldl (λD e=>za D e.1 e.2) D
def Ao(D a b:Ps):adds D (a++b)=adds (adds D a) b:=by unfold adds;rw[c6]
noncomputable def toS (D:Ps):Ps:=((mQ (D.map Prod.fst)).filter λo=>!(vS D o).isEmpty).map λo=>(o,vS D o)
noncomputable def fE (D:Es)(o:ag):Option En:=D.find? λe=>decide (e.1=o)
noncomputable def oU (D:Es)(o:ag)(r:Nat)(p:Pl):Es:=if (fE D o).isSome=true then D.map (λe=>if e.1=o then(e.1,r,p)else e)else D++[(o,r,p)]
def Ut(D:Es)(o:ag):(sm D).find? (λe=>decide (e.1=o))=(fE D o).map λe=>(e.1,e.2.2):=by
 unfold sm fE;rw[iy];rfl
def Mz(D:Es)(o:ag):vS (sm D) o=((fE D o).map λe=>e.2.2).getD []:=by
 unfold vS;rw[Ut,gh];rfl
def abV(D:Es)(o:ag):hS (sm D) o=(fE D o).isSome:=by
 unfold hS sm fE;rw[List.any_map,Bool.eq_iff_iff,jh,gu];rfl
def GW(D:Es)(o:ag)(r:Nat)(p:Pl):sm (oU D o r p)=Ay (sm D) o p:=by
 unfold oU Ay;rw[abV];unfold sm;split
 ·rw[bq,bq];apply cL;intro e _;show((if e.1=o then(e.1,r,p)else e).1,(if e.1=o then(e.1,r,p)else e).2.2)=if e.1=o then(e.1,p)else(e.1,e.2.2)
  split<;>rfl
 ·rw[bO];rfl
def qP(D:Es)(o:ag):lH (D.map kv) o=(fE D o).map λe=>.ref e.2.1:=by
 unfold lH fE;rw[iy,gh];rfl
def Iw(D:Es)(o:ag)(r:Nat)(p:Pl):putD (D.map kv) o (.ref r)=(oU D o r p).map kv:=by
 unfold putD oU;rw[qP,gZ];split
 ·rw[bq,bq];apply cL;intro e _;show(if e.1=o then(e.1,A.ref r)else(e.1,.ref e.2.1))=kv (if e.1=o then(e.1,r,p)else e);split<;>rfl
 ·rw[bO];rfl
def sQ{D:Es}{r:Nat}{p:Pl}{e:En}(h:e∈oU D o r p):e∈D\/e=(o,r,p):=by
 unfold oU at h;split at h
 ·obtain⟨e',h1,rfl⟩:=bA.mp h;split
  ·rename_i c;exact .inr (by rw[c])
  ·exact .inl h1
 ·rcases bE.mp h with z|z
  ·exact .inl z
  ·exact .inr (aP.mp z)
def DC{D:Es}{r:Nat}{p:Pl}:(oU D o r p).length<=D.length+1:=by
 unfold oU;split
 ·rw[aH];lia
 ·rw[aR];exact aO _
def rY{D:Es}{e:En}(h:fE D o=some e):e∈D/\e.1=o:=⟨gz h,by
 unfold fE at h;have:=iR h;simpa using this⟩
def At.put{D:Es}{r:Nat}{p:Pl}(h:At S D)(hr:jG S r=some (pl p)):At S (oU D o r p):=λe he=>by
 rcases sQ he with z|z
 ·exact h e z
 ·rw[z];exact hr
def At.kp{D:Es}{b:Nat->Prop}(h:At S D)(k:Kp b S S')(hb:∀e∈D,¬b e.2.1):At S' D:=λe he=>k.lst _ _ (hb e he) (h e he)
def At.wM{D:Es}(h:At S D)(k:lC S S'):At S' D:=h.kp k λ_ _ z=>z
def At.app{a:Es}(h:At S a)(h':At S b):At S (a++b):=λe he=>(bE.mp he).elim (h e) (h' e)
def oB{n:Nat}(h:kj S n=some d)(h':jG S m=some xs):n≠m:=λz=>by
 subst z;have e1:=oq h;rw[jX h']at e1
 cases e1
def At.EL{D:Es}(h:At S D)(k:Kp (·=d) S S')(hd:kj S d=some kvs):At S' D:=h.kp k λe he z=>oB hd (h e he) z.symm
noncomputable def Vl (k b:Nat)(D:Es):Prop:=∀e∈D,Ok e.2.2/\e.2.2.length<=k/\b<=e.2.1
def Vl.mono{k:Nat}{D:Es}(h:Vl k b D)(hk:k<=k'):Vl k' b D:=λe he=>⟨(h e he).1,bI (h e he).2.1 hk,(h e he).2.2⟩
def Vl.v{k:Nat}{D:Es}(h:Vl k b D)(o:ag):Ok (vS (sm D) o)/\(vS (sm D) o).length<=k:=by
 rw[Mz]
 cases e:fE D o with
 | none=>exact⟨⟨List.Pairwise.nil,nofun⟩,bL _⟩
 | some e'=>exact⟨(h e' (rY e).1).1,(h e' (rY e).1).2.1⟩
def LX(a b:Pl):(pG a b).length<=a.length+b.length:=by
 refine bI (Jl _) (bI (qg _ _) ?_);rw[aR,bQ];lia
def C5(a b:Pl):(times a b).length<=a.length * b.length:=by
 refine bI (Jl _) (bI (qg _ _) ?_);rw[zS,bQ];lia
def Vl.add{k r:Nat}{D:Es}{p:Pl}(h:Vl k b D)(hp:p.length<=j)(hr:b<=r):Vl (k+j) b (oU D o r (pG (vS (sm D) o) p)):=λe he=>by
 rcases sQ he with z|z
 ·exact(h.mono (Nat.le_add_right _ _)) e z
 ·rw[z];refine⟨EU _ _,?_,hr⟩;have:=LX (vS (sm D) o) p;have:=(h.v o).2;show(pG (vS (sm D) o) p).length<=_;lia
def oG{S:jK}:kj (S++[.dct xs]) S.length=some xs:=xr HW
def zG{o:O}{n:Nat}(h:kj S n=some xs):kj (S++[o]) n=some xs:=by
 have h':=oq h;exact xr (by rw[bG (aN.mp h').1];exact h')
def Bk{S:jK}{n:Nat}(h:kj S n=some xs):n<S.length:=(aN.mp (oq h)).1
def DG{S:jK}{n:Nat}(h:n<S.length):kj (S.set n (.dct ys)) n=some ys:=xr (cj h)
def Ui{f:A->ae->jK->R A}{co:Ex}{d:rK}:Xo f co d τ S=(co τ S).bind λx S1=>opt (dct? x S1) λ_=>(d τ S1).bind λas S2=>f x as S2:=rfl
def Uu{n:Nat}:dct? (.ref n) S=(kj S n).map λ_=>Unit.unit:=rfl
def sq{S:jK}:wc τ S=.ok (.ref S.length) (S++[.dct []]):=rfl
def vD{co ci:Ex}{a:A}:DL co ci a τ S=(co τ S).bind λo S1=>(ci τ S1).bind λi S2=>(Fd o i a S2).bind λ_ S3=>.ok τ S3:=rfl
def T_{n:Nat}{o:ag}:XS (.ref n) [.tup (o.map .int),y] S=opt (kj S n) λkvs=>.ok ((lH kvs o).getD y) S:=by
 show opt (kj S n) (λkvs=>opt (A.ints (o.map .int)) λk=>.ok ((lH kvs k).getD y) S)=_;rw[ints_map];rfl
def A0{n:Nat}{o:ag}{v:A}{S:jK}:Fd (.ref n) (.tup (o.map .int)) v S=opt (kj S n) λkvs=>gd (kvs.length<sizeLine) (.ok Unit.unit (S.set n (.dct (putD kvs o v)))):=by
 show opt (kj S n) (λkvs=>opt (A.ints (o.map .int)) λns=>gd (kvs.length<sizeLine) (.ok Unit.unit (S.set n (.dct (putD kvs ns v)))))=_;rw[ints_map];rfl
def vH{n:Nat}{o:ag}:xX (.ref n) (.tup (o.map .int)) S=opt (kj S n) λkvs=>opt (lH kvs o) λv=>.ok v S:=by
 show opt (kj S n) (λkvs=>opt (A.ints (o.map .int)) λns=>opt (lH kvs ns) λv=>.ok v S)=_;rw[ints_map];rfl
def get_or{S:jK}{D:Es}(hd:kj S d=some (D.map kv))(hA:At S D):∃x:Nat,(lH (D.map kv) o).getD (.ref S.length)=.ref x/\jG (S++[.lst []]) x=some (pl (vS (sm D) o)):=by
 rw[qP,Mz]
 cases e:fE D o with
 | none=>exact⟨S.length,rfl,jT⟩
 | some e'=>exact⟨e'.2.1,rfl,kH (hA e' (rY e).1)⟩
def Uo{α:Type}{xs:List α}(g:α->A){n:Nat}{src:Ic}{t:Te}{e:Ex}(hs:src τ S=.ok (lA n (xs.map g).length) S1)(hx:jG S1 n=some (xs.map g))(d:α)(p:α->Bool)(f:α->A)
  (step:∀x∈xs,∀T,lC S1 T->∃T1,t (g x::lN cap τ) T=.ok (p x) T1/\lC S1 T1/\(p x=true->∃T2,e (g x::lN cap τ) T1=.ok (f x) T2/\lC S1 T2)) (hl:xs.length<=16777216) :
  ∃S',kZ (none::cap) src (kL 0) t e τ S=.ok (.ref S'.length) (S'++[.lst ((xs.filter p).map f)])/\lC S1 S':=by
 have hm:∀i,i<xs.length->xs.getD i d∈xs:=λi hi=>by
  rw[aI,aF hi];exact c9 hi
 have hk:(xs.map g).length=xs.length:=aH ..;obtain⟨S',h1,h2⟩:=xU (s:=lA n (xs.map g).length) (g:=kL 0) (t:=t) (e:=e) (P:=λT=>lC S1 T) (T:=λτ'=>∃y,τ'=y::lN cap τ) (λi=>g (xs.getD i d)) (λi=>p (xs.getD i d)) (λi=>f (xs.getD i d)) (λi T hi h=>by
   have hi:i<(xs.map g).length:=hi;show(jG T n).bind _=_;rw[h.lst _ _ (λz=>z) hx,dg,aQ,aF (),aI,aF ()];rfl) (λT h=>by
   show(match jG T n with
    | some ys=>decide (ys.length<=(xs.map g).length)
    | none=>false)=true
   rw[h.lst _ _ (λz=>z) hx];simp)
  (λi τ' T hi ⟨y,hy⟩ h=>by
   have hi:i<(xs.map g).length:=hi;subst hy;obtain⟨T1,e1,k1,e2⟩:=step _ (hm i ()) T h;exact⟨g (xs.getD i d)::lN cap τ,T,T1,rfl,e1,⟨_,rfl⟩,λ_=>k1,e2⟩) (xs.map g).length 0 (lN (none::cap) τ) S1 rfl ⟨_,rfl⟩ Kp.refl
 refine⟨S',?_,h2⟩;unfold kZ;rw[hs,R.oZ];show(nE (lA n (xs.map g).length) (kL 0) t e (xs.map g).length 0 (lN (none::cap) τ) S1).ud _=_;rw[h1,R.lO,<- gb,hk,sE xs p f d];refine lg ?_;rw[aH];exact bI (dP _ _) hl
def Qj{es:Es}{n:Nat}{src:Ic}{ex:Ex}{S:jK}(hs:src τ S=.ok (lA n (es.map ent).length) S)(hx:jG S n=some (es.map ent))(F:Pl->Pl)
  (step:∀e∈es,∀T,lC S T->∃(r:Nat) (T':jK),ex (.tup (e.1.map .int)::.ref e.2.1::lN cap τ) T=.ok (.tup [.tup (e.1.map .int),.ref r]) T'/\jG T' r=some (pl (F e.2.2))/\T.length<=r/\lC T T') (hl:es.length<=16777216) :
  ∃(m:Nat) (S':jK) (fs:Es),kZ (none::none::cap) src RU qN ex τ S=.ok (.ref m) S'/\jG S' m=some (fs.map ent)/\At S' fs/\sm fs=es.map (λe=>(e.1,F e.2.2))/\(∀e∈fs,S.length<=e.2.1/\e.2.1<m)/\S.length<=m/\lC S S':=by
 have hk:(es.map ent).length=es.length:=aH ..;obtain⟨ys,S',h1,k1,fs,rfl,h2,h3,h4⟩:=BD (s:=lA n (es.map ent).length) (g:=RU) (e:=ex) (T:=λτ'=>∃y z,τ'=y::z::lN cap τ) (λi acc T=>lC S T/\∃fs:Es,acc=fs.map ent/\At T fs/\sm fs=(es.take i).map (λe=>(e.1,F e.2.2))/\∀e∈fs,S.length<=e.2.1/\e.2.1<T.length)
  (λi acc τ' T hi ⟨y,z,hy⟩ hP=>by
   have hi:i<(es.map ent).length:=hi;obtain⟨kT,fs,rfl,a1,a2,a3⟩:=hP;subst hy;have he:es[i]?=some es[i]:=aF ();obtain⟨r,T',e1,e2,e3,e4⟩:=step es[i] (aW he) T kT;have lr:=mL e2;refine⟨ent es[i],.tup (es[i].1.map .int)::.ref es[i].2.1::lN cap τ,T,_,T',?_,rfl,⟨_,_,rfl⟩,e1,kT.trans e4,fs++[(es[i].1,r,F es[i].2.2)],by rw[bO];rfl,?_,?_,?_⟩
   ·show(jG T n).bind _=_;rw[kT.lst _ _ (λz=>z) hx,dg,aQ,he];rfl
   ·refine(a1.wM e4).app λe h=>?_;rw[aP.mp h];exact e2
   ·rw[EI,a2,c5,he,bO];rfl
   ·intro e h;have:=e4.len;have:=kT.len
    rcases bE.mp h with z|z
    ·have:=a3 e z;lia
    ·rw[aP.mp z];show S.length<=r/\r<_;lia) (λacc T hP=>by
   show(match jG T n with
    | some ys=>decide (ys.length<=(es.map ent).length)
    | none=>false)=true
   rw[hP.1.lst _ _ (λz=>z) hx];simp) (es.map ent).length 0 [] (lN (none::none::cap) τ) S rfl ⟨_,_,rfl⟩ ⟨Kp.refl,[],rfl,(nofun),by rw[eT];rfl,nofun⟩
 rw[show(lA n (es.map ent).length).k=es.length from hk,dc]at h3;have lf:fs.length=es.length:=by have:=dB List.length h3;rwa [nc,aH]at this
 refine⟨S'.length,S'++[.lst (fs.map ent)],fs,?_,jT,h2.wM Kp.refl.lay,h3,λe he=>h4 e he,k1.len,k1.lay⟩;unfold kZ;rw[hs,R.oZ];show(nE (lA n (es.map ent).length) RU qN ex (es.map ent).length 0 (lN (none::none::cap) τ) S).ud _=_;rw[h1,R.lO];exact lg (by rw[aH,lf];exact hl)
def FW{D:Es}{o:ag}(h:o∈D.map Prod.fst):∃e,fE D o=some e:=by
 unfold fE
 cases e:D.find? λe=>decide (e.1=o)with
 | some x=>exact⟨x,rfl⟩
 | none=>
  obtain⟨x,hx,rfl⟩:=bA.mp h;exact absurd (bf rfl) (gO.mp e x hx)
noncomputable def AD (k:ag):A:=.tup (k.map .int)
def GJ{S:jK}{D:Es}(hd:kj S d=some (D.map kv))(hne:∀e∈D,e.1≠[]):yR (.ref d) S=.ok (.ref S.length) (S++[.lst ((mQ (D.map Prod.fst)).map AD)]):=by
 have ek:(D.map kv).map Prod.fst=D.map Prod.fst:=by rw[bq];rfl
 show opt (kj S d) _=_;rw[hd,kN];have:((D.map kv).map Prod.fst).all (λks=>!ks.isEmpty)=true:=by
  rw[ek,gW,eG];intro e he;have:=hne e he;show(!(e.1).isEmpty)=true
  cases h:e.1 with
  | nil=>exact absurd h this
  | cons=>rfl
 rw[ek]at this ⊢;rw[this];rfl
noncomputable def qL (D:Es)(p:Pl->Bool):Es:=((mQ (D.map Prod.fst)).filter λo=>p (vS (sm D) o)).map λo=>(o,((fE D o).map λe=>e.2.1).getD 0,vS (sm D) o)
def vC(D:Es):sm (qL D λp=>!p.isEmpty)=toS (sm D):=by
 unfold qL toS sm;rw[bq,bq];rfl
def vO{D:Es}{p:Pl->Bool}{e:En}(h:e∈qL D p):e∈D/\p e.2.2=true:=by
 obtain⟨o,ho,rfl⟩:=bA.mp h;obtain⟨h1,h2⟩:=cN.mp ho;obtain⟨e,he⟩:=FW ((ko _).mem_iff.mp h1);rw[Mz,he]at h2;rw[Mz,he];obtain⟨m,rfl⟩:=rY he;exact⟨m,h2⟩
def E9{S:jK}{D:Es}{src:Ic}{t:Te}{e:Ex}(hd:kj S d=some (D.map kv))(hA:At S D)(hs:src τ S=.ok (lA S.length ((mQ (D.map Prod.fst)).map AD).length) (S++[.lst ((mQ (D.map Prod.fst)).map AD)]))(p:Pl->Bool)
  (ht:∀(o:ag) (r:Nat) (q:Pl) (T:jK),kj T d=some (D.map kv)->lH (D.map kv) o=some (.ref r)->jG T r=some (pl q)->∃T1,t (AD o::lN cap τ) T=.ok (p q) T1/\lC T T1)
  (he:∀(o:ag) (r:Nat) (T:jK),kj T d=some (D.map kv)->lH (D.map kv) o=some (.ref r)->e (AD o::lN cap τ) T=.ok (.tup [AD o,.ref r]) T) (hl:D.length<=16777216) :
  ∃(n:Nat) (S':jK),kZ (none::cap) src (kL 0) t e τ S=.ok (.ref n) S'/\jG S' n=some ((qL D p).map ent)/\At S' (qL D p)/\S.length<n/\lC S S':=by
 have kx:lC S (S++[.lst ((mQ (D.map Prod.fst)).map AD)]):=Kp.refl.lay;obtain⟨S',e1,k1⟩:=Uo AD (t:=t) (e:=e) (cap:=cap) hs jT [] (λo=>p (vS (sm D) o)) (λo=>ent (o,((fE D o).map λe=>e.2.1).getD 0,vS (sm D) o)) (λo ho T kT=>by
  obtain⟨e',he'⟩:=FW ((ko _).mem_iff.mp ho);have lk:lH (D.map kv) o=some (.ref e'.2.1):=by rw[qP,he'];rfl
  have kST:=kx.trans kT;have dT:=kST.dct _ _ (λz=>z) hd;have lT:=kST.lst _ _ (λz=>z) (hA e' (rY he').1);obtain⟨T1,h1,h2⟩:=ht o e'.2.1 e'.2.2 T dT lk lT;rw[Mz,he'];exact⟨T1,h1,kT.trans h2,λ_=>⟨T1,he o e'.2.1 T1 (h2.dct _ _ (λz=>z) dT) lk,kT.trans h2⟩⟩) (by
  rw[(ko _).length_eq,aH];exact hl)
 have kS:=kx.trans k1;refine⟨S'.length,_,e1,?_,(?_:At S' (qL D p)).wM Kp.refl.lay,?_,kS.lay⟩
 ·rw[jT];unfold qL;rw[bq];rfl
 ·exact λe h=>kS.lst _ _ (λz=>z) (hA e (vO h).1)
 ·have:=k1.len;rw[aR]at this;exact this
noncomputable def Ed (F:ae->jK->R A):Prop:=∀{S:jK}{d r:Nat}{D:Es}{o:ag}{p:Pl}{k b:Nat},kj S d=some (D.map kv)->At S D->Vl k b D->jG S r=some (pl p)->D.length<16777216->k+p.length<16777216 ->
  ∃(L:Nat) (S':jK),F [.ref d,.tup (o.map .int),.ref r] S=.ok .non S'/\kj S' d=some ((oU D o L (pG (vS (sm D) o) p)).map kv)/\At S' (oU D o L (pG (vS (sm D) o) p))/\S.length<=L/\Kp (·=d) S S'
noncomputable def Lx (F:ae->jK->R A):Prop:=∀{S:jK}{n m:Nat}{a b:Pl},jG S n=some (pl a)->jG S m=some (pl b)->a.length * b.length<16777216->(∀p∈a,p.2.natAbs<big)->(∀p∈b,p.2.natAbs<big) ->
  ∃(L:Nat) (S':jK),F [.ref n,.ref m] S=.ok (.ref L) S'/\jG S' L=some (pl (times a b))/\S.length<=L/\lC S S'
noncomputable def Ap (D:Es):Prop:=D.Pairwise λe f=>e.1≠f.1/\e.2.1≠f.2.1
def Ap.put{D:Es}{r:Nat}{p:Pl}(h:Ap D)(hr:∀e∈D,e.2.1≠r):Ap (oU D o r p):=by
 unfold oU;split
 ·unfold Ap;rw[cI];refine gH (λ{e f} he hf z=>?_) h;by_cases c1:e.1=o
  ·have c2:¬f.1=o:=λz2=>z.1 (c1.trans z2.symm);rw[aM c1,aK c2];exact⟨z.1,λy=>hr f hf y.symm⟩
  ·rw[aK c1];by_cases c2:f.1=o
   ·rw[aM c2];exact⟨z.1,hr e he⟩
   ·rw[aK c2];exact z
 ·rename_i c;unfold Ap;rw[cC];refine⟨h,bW _ _,λe he f hf=>?_⟩;rw[aP.mp hf];refine⟨λz=>c ?_,hr e he⟩;unfold fE;rw[jh];exact⟨e,he,bf z⟩
theorem Ap.at{D:Es}(h:Ap D):∀e∈D,∀f∈D,e.1≠f.1->e.2.1≠f.2.1:=by
 unfold Ap at h
 induction h with
 | nil=>exact λe he=>nomatch he
 | @cons a D ha _ ih=>
  intro e he f hf z
  rcases bw.mp he with h1|h1<;>rcases bw.mp hf with h2|h2
  ·exact absurd (by rw[h1,h2]) z
  ·rw[h1];exact(ha f h2).2
  ·rw[h2];exact(ha e h1).2.symm
  ·exact ih e h1 f h2 z
def Ap.nd{D:Es}(h:Ap D):(D.map Prod.fst).Nodup:=by
 unfold List.Nodup;rw[cI];exact h.imp λz=>z.1
def Ap.out{D:Es}(h:Ap D)(p:Pl->Bool):Ap (qL D p):=by
 unfold Ap qL;rw[cI];have n:(mQ (D.map Prod.fst)).Pairwise (·≠·):=(ko _).nodup_iff.mpr h.nd;refine gH (λ{a b} ha hb z=>?_) (n.filter _);obtain⟨e,he⟩:=FW ((ko _).mem_iff.mp (cN.mp ha).1);obtain⟨f,hf⟩:=FW ((ko _).mem_iff.mp (cN.mp hb).1);obtain⟨m1,e1⟩:=rY he;obtain⟨m2,e2⟩:=rY hf;refine⟨z,?_⟩;rw[he,hf];exact h.at e m1 f m2 (by rw[e1,e2];exact z)
structure Fil (T:jK)(d b i j:Nat)(P:Ps)(D:Es):Prop where
 dd:kj T d=some (D.map kv)
 aa:At T D
 ss:sm D=P
 vv:Vl (i * j) b D
 kk:∀e∈D,e.1≠[]
 ll:D.length<=i
 pw:Ap D
def Fil.mono{P:Ps}{D:Es}(h:Fil T d b i j P D)(hi:i<=i'):Fil T d b i' j P D:=⟨h.dd,h.aa,h.ss,h.vv.mono (bN _ hi),h.kk,bI h.ll hi,h.pw⟩
def Fil.new(hd:kj S d=some []):Fil S d b 0 j [] []:=⟨hd,(nofun),rfl,(nofun),(nofun),aO _,List.Pairwise.nil⟩
def Fil.wM{P:Ps}{D:Es}(h:Fil S d b i j P D)(k:lC S T):Fil T d b i j P D:=⟨k.dct _ _ (λz=>z) h.dd,h.aa.wM k,h.ss,h.vv,h.kk,h.ll,h.pw⟩
def Fil.add{F:ae->jK->R A}(hF:Ed F){T:jK}{r:Nat}{P:Ps}{D:Es}{o:ag}{p:Pl}(h:Fil T d b i j P D)(hr:jG T r=some (pl p))(hp:p.length<=j)(ho:o≠[])(hb:b<=T.length)(hl:i * j+j<16777216)(hi:i<16777216) :
  ∃(D':Es) (T':jK),F [.ref d,.tup (o.map .int),.ref r] T=.ok .non T'/\Fil T' d b (i+1) j (za P o p) D'/\Kp (·=d) T T':=by
 have hl0:=h.ll;obtain⟨L,T',e,h1,h2,h3,h4⟩:=hF (o:=o) h.dd h.aa h.vv hr () ();refine⟨_,T',e,⟨h1,h2,by rw[GW,h.ss];rfl,?_,λe he=>?_,?_,h.pw.put λe he z=>by have:=mL (h.aa e he);lia⟩,h4⟩
 ·have:=h.vv.add (o:=o) (p:=p) (j:=j) hp (show b<=L by lia);rw[eB];exact this
 ·rcases sQ he with z|z
  ·exact h.kk e z
  ·rw[z];exact ho
 ·have:=DC (D:=D) (o:=o) (r:=L) (p:=pG (vS (sm D) o) p);lia
def UH{n i0 w:Nat}{P:Ps}{es:Es}{src:Ic}{c:Sm}(G:En->Ps->Ps)(hs:src (x0::x1::.ref d::x3::x4::xs) S=.ok (lA n (es.map ent).length) S1)(hn:jG S1 n=some (es.map ent))(hd:Fil S1 d b i0 j P D0)
  (step:∀(i:Nat) (e:En) (T:jK) (Q:Ps) (D:Es),i<es.length->e∈es->Kp (·=d) S1 T->Fil T d b (i0+w * i) j Q D->∃(D':Es) (T':jK),c (x0::x1::.ref d::.tup (e.1.map .int)::.ref e.2.1::xs) T=.nx (x0::x1::.ref d::.tup (e.1.map .int)::.ref e.2.1::xs) T'/\Fil T' d b (i0+w * (i+1)) j (G e Q) D'/\Kp (·=d) T T') :
  ∃(y3 y4:A) (D:Es) (S':jK),lX src MU c (x0::x1::.ref d::x3::x4::xs) S=.nx (x0::x1::.ref d::y3::y4::xs) S'/\Fil S' d b (i0+w * es.length) j (es.foldl (λQ e=>G e Q) P) D/\Kp (·=d) S1 S':=by
 have hle:(es.map ent).length=es.length:=aH ..;refine qb (n:=n) (xs:=es.map ent) (S1:=S1) hs (λi τ T=>(∃y3 y4,τ=x0::x1::.ref d::y3::y4::xs)/\(∃D,Fil T d b (i0+w * i) j ((es.take i).foldl (λQ e=>G e Q) P) D)/\Kp (·=d) S1 T)
  (λr=>∃(y3 y4:A) (D:Es) (S':jK),r=.nx (x0::x1::.ref d::y3::y4::xs) S'/\Fil S' d b (i0+w * es.length) j (es.foldl (λQ e=>G e Q) P) D/\Kp (·=d) S1 S') ⟨⟨_,_,rfl⟩,⟨D0,hd⟩,Kp.refl⟩ (λi τ T h=>h.2.2.lst _ _ (dj (oB hd.dd hn)) hn) ?_ ?_
 ·rintro i z τ T hz ⟨⟨y3,y4,rfl⟩,⟨D,f⟩,kp⟩;rw[aQ]at hz;obtain⟨e,he,rfl⟩:=aX.mp hz;refine⟨x0::x1::.ref d::.tup (e.1.map .int)::.ref e.2.1::xs,T,rfl,.inl ?_⟩;obtain⟨D',T',e1,f',k'⟩:=step i e T _ D (aN.mp he).1 (aW he) kp f;refine⟨_,T',e1,⟨_,_,rfl⟩,⟨D',?_⟩,kp.trans k'⟩;rw[c5,he,c6];exact f'
 ·rintro τ T ⟨⟨y3,y4,rfl⟩,⟨D,f⟩,kp⟩;rw[hle,dc]at f;exact⟨y3,y4,D,T,rfl,f,kp⟩
def My(P:Ps)(es:Es):es.foldl (λQ e=>za Q e.1 e.2.2) P=adds P (sm es):=by
 unfold adds sm;rw[jz]
def yV(q:Pl)(P:Ps)(es:Es):es.foldl (λQ e=>za Q e.1 (times q e.2.2)) P=adds P ((sm es).map λe=>(e.1,times q e.2)):=by
 unfold adds sm;rw[jz,jz]
def UC{F:ae->jK->R A}(hF:Ed F){S1:jK}{n i0:Nat}{P:Ps}{es:Es}{src:Ic}(hs:src (x0::x1::.ref d::x3::x4::xs) S=.ok (lA n (es.map ent).length) S1)(hn:jG S1 n=some (es.map ent))(hA:At S1 es)(hd:Fil S1 d b i0 j P D0)(hb:b<=S1.length)
  (hj:∀e∈es,e.2.2.length<=j/\e.1≠[]) (hl:(i0+es.length) * j+j<16777216) (hl':i0+es.length<16777216) :
  ∃(y3 y4:A) (D:Es) (S':jK),lX src MU (oF (eFn F (jC (jF 2) (jC (jF 3) (jC (jF 4) jI))))) (x0::x1::.ref d::x3::x4::xs) S=.nx (x0::x1::.ref d::y3::y4::xs) S'/\Fil S' d b (i0+es.length) j (adds P (sm es)) D/\Kp (·=d) S1 S':=by
 have:=UH (w:=1) (c:=oF (eFn F (jC (jF 2) (jC (jF 3) (jC (jF 4) jI))))) (λe Q=>za Q e.1 e.2.2) hs hn hd λi e T Q D hi hm kp f=>by
  have hle':=kp.len;rw[eF]at f ⊢;have hmul:(i0+i) * j<=(i0+es.length) * j:=bN _ ();obtain⟨D',T',e1,f',k'⟩:=f.add hF (o:=e.1) ((hA.EL kp hd.dd) e hm) (hj e hm).1 (hj e hm).2 () () ();exact⟨D',T',by dsimp[kD,bools,e1],f',k'⟩
 rw[eF,My]at this;exact this
def xY{n i0 w:Nat}{P:Ps}{es:Es}{src:Ic}{c:Sm}{g:Tg}(Fm:A->A->ae->ae)(Z:ae->Prop)(G:En->Ps->Ps)(hg:∀(e:En) (y z:A) (xs:ae) (T:jK),g (ent e) (Fm y z xs) T=.ok (Fm (.tup (e.1.map .int)) (.ref e.2.1) xs) T)
  {x3 x4:A} {xs0:ae} (hz:Z xs0) (hs:src (Fm x3 x4 xs0) S=.ok (lA n (es.map ent).length) S1) (hn:jG S1 n=some (es.map ent)) (hd:Fil S1 d b i0 j P D0)
  (step:∀(i:Nat) (e:En) (T:jK) (Q:Ps) (D:Es) (xs:ae),i<es.length->e∈es->Z xs->Kp (·=d) S1 T->Fil T d b (i0+w * i) j Q D->∃(D':Es) (T':jK) (xs':ae),Z xs'/\c (Fm (.tup (e.1.map .int)) (.ref e.2.1) xs) T=.nx (Fm (.tup (e.1.map .int)) (.ref e.2.1) xs') T'/\Fil T' d b (i0+w * (i+1)) j (G e Q) D'/\Kp (·=d) T T') :
  ∃(y3 y4:A) (xs:ae) (D:Es) (S':jK),Z xs/\lX src g c (Fm x3 x4 xs0) S=.nx (Fm y3 y4 xs) S'/\Fil S' d b (i0+w * es.length) j (es.foldl (λQ e=>G e Q) P) D/\Kp (·=d) S1 S':=by
 have hle:(es.map ent).length=es.length:=aH ..;refine qb (n:=n) (xs:=es.map ent) (S1:=S1) hs (λi τ T=>(∃y3 y4 xs,τ=Fm y3 y4 xs/\Z xs)/\(∃D,Fil T d b (i0+w * i) j ((es.take i).foldl (λQ e=>G e Q) P) D)/\Kp (·=d) S1 T)
  (λr=>∃(y3 y4:A) (xs:ae) (D:Es) (S':jK),Z xs/\r=.nx (Fm y3 y4 xs) S'/\Fil S' d b (i0+w * es.length) j (es.foldl (λQ e=>G e Q) P) D/\Kp (·=d) S1 S') ⟨⟨_,_,_,rfl,hz⟩,⟨D0,hd⟩,Kp.refl⟩ (λi τ T h=>h.2.2.lst _ _ (dj (oB hd.dd hn)) hn) ?_ ?_
 ·rintro i z τ T hz ⟨⟨y3,y4,xs,rfl,hx⟩,⟨D,f⟩,kp⟩;rw[aQ]at hz;obtain⟨e,he,rfl⟩:=aX.mp hz;refine⟨Fm (.tup (e.1.map .int)) (.ref e.2.1) xs,T,hg _ _ _ _ _,.inl ?_⟩;obtain⟨D',T',xs',hx',e1,f',k'⟩:=step i e T _ D xs (aN.mp he).1 (aW he) hx kp f;refine⟨_,T',e1,⟨_,_,_,rfl,hx'⟩,⟨D',?_⟩,kp.trans k'⟩;rw[c5,he,c6];exact f'
 ·rintro τ T ⟨⟨y3,y4,xs,rfl,hx⟩,⟨D,f⟩,kp⟩;rw[hle,dc]at f;exact⟨y3,y4,xs,D,T,hx,rfl,f,kp⟩
end Su
namespace Su
open Am Po PySem L2
noncomputable def cS (l:Ps)(o:ag)(t:Int):Int:=match l with
 | []=>0
 | e::l=>(if e.1=o then cf e.2 t else 0)+cS l o t
def wZ(a b:Ps)(o:ag)(t:Int):cS (a++b) o t=cS a o t+cS b o t:=by
 induction a with
 | nil=>exact(bY _).symm
 | cons e a ih=>
  show _+cS (a++b) o t=_+_+_;rw[ih,fH]
def yY(a b:Pl)(k:Int):cf (a++b) k=cf a k+cf b k:=by
 induction a with
 | nil=>exact(bY _).symm
 | cons p a ih=>
  show _+cf (a++b) k=_+_+_;rw[ih,fH]
def NS(a b:Pl)(k:Int):cf (pG a b) k=cf a k+cf b k:=by
 unfold pG;rw[D_ (vq _ (d:=[]) dM),xG,yY];show 0+_=_;rw[bY]
def qz(a b:Pl)(k:Int):cf (times a b) k=cf (BZ a b) k:=by
 unfold times;rw[D_ (vq _ (d:=[]) dM),xG];show 0+_=_;rw[bY]
theorem KA(s:Int):∀(b:Pl) (k c:Int),cf (b.map λq=>(c+q.1,s * q.2)) k=s * cf b (k-c)
 | [],k,c=>(gv s).symm
 | q::b,k,c=>by
  show(if c+q.1=k then s * q.2 else 0)+cf (b.map λq=>(c+q.1,s * q.2)) k=s * ((if q.1=k-c then q.2 else 0)+cf b (k-c));rw[KA s b k c,jA];by_cases h:c+q.1=k
  ·rw[aM h,aM ()]
  ·rw[aK h,aK (),gv]
noncomputable abbrev AF:Pl:=[((-1:Int),(1:Int)),((1:Int),(-1:Int))]
def aaN(b:Pl)(k:Int):cf (times AF b) k=cf b (k+1)-cf b (k-1):=by
 rw[qz];show cf ((b.map λq=>((-1:Int)+q.1,(1:Int) * q.2))++((b.map λq=>((1:Int)+q.1,(-1:Int) * q.2))++[])) k=_;rw[cG,yY,KA,KA,one_mul,show k - -1=k+1 by lia];lia
def Wq{D:Ps}{p:Pl}:vS (Ay D o p) o'=if o'=o then p else vS D o':=by
 have cons:∀(e:ag×Pl) (D:Ps) (x:ag),vS (e::D) x=if e.1=x then e.2 else vS D x:=λe D x=>by
  unfold vS;rw[cP];by_cases h:e.1=x
  ·rw[bf h,aM h];rfl
  ·rw[bu h,aK h]
 unfold Ay
 cases h:hS D o with
 | true=>
  rw[aM rfl]
  induction D with
  | nil=>cases h
  | cons e D ih=>
   rw[bD,cons,cons];have hc:hS (e::D) o=(decide (e.1=o) || hS D o):=rfl;rw[hc]at h;by_cases c:e.1=o
   ·rw[aM c]
    skip
    by_cases c2:o'=o
    ·rw[aM (c.trans c2.symm),aM c2]
    ·rw[aK (λz=>c2 (z.symm.trans c)),aK c2,aK (λz=>c2 (z.symm.trans c))];clear ih h hc
     induction D with
     | nil=>rfl
     | cons f D ih2=>
      rw[bD,cons,cons,ih2];by_cases c3:f.1=o
      ·rw[aM c3]
       skip
       rw[aK (λz=>c2 (z.symm.trans c3)),aK (λz=>c2 (z.symm.trans c3))]
      ·rw[aK c3]
   ·rw[aK c];rw[bu c,gD]at h;rw[ih h];by_cases c2:e.1=o'
    ·rw[aM c2,aK (λz=>c (c2.trans z)),aM c2]
    ·rw[aK c2,aK c2]
 | false=>
  rw[aK (by simp)]
  induction D with
  | nil=>
   show vS [(o,p)] o'=_;rw[cons];by_cases c:o=o'
   ·rw[aM c,aM c.symm]
   ·rw[aK c,aK (λz=>c z.symm)]
  | cons e D ih=>
   have hc:hS (e::D) o=(decide (e.1=o) || hS D o):=rfl;rw[hc,iM]at h;rw[List.cons_append,cons,cons,ih h.2];have:=c8 h.1;by_cases c:e.1=o'
   ·rw[aM c,aM c,aK (λz=>this (c.trans z))]
   ·rw[aK c,aK c]
def DW(l:Ps):∀(D:Ps) (o:ag) (t:Int),cf (vS (adds D l) o) t=cf (vS D o) t+cS l o t:=by
 induction l with
 | nil=>intro D o t;exact(cM _).symm
 | cons e l ih=>
  intro D o t;show cf (vS (adds (za D e.1 e.2) l) o) t=_+((if e.1=o then cf e.2 t else 0)+cS l o t);rw[ih];unfold za;rw[Wq];by_cases h:o=e.1
  ·rw[aM h,aM h.symm,NS,h,fH]
  ·rw[aK h,aK (λz=>h z.symm),bY]
structure Gd (D:Ps):Prop where
 nd:(D.map Prod.fst).Nodup
 ok:∀e∈D,Ok e.2
def Yx{D:Ps}{o:ag}:hS D o=true ↔ o∈D.map Prod.fst:=by
 unfold hS;rw[gu,bA];constructor
 ·rintro⟨p,h1,h2⟩;exact⟨p,h1,bV h2⟩
 ·rintro⟨p,h1,h2⟩;exact⟨p,h1,bf h2⟩
def LI{D:Ps}{o:ag}{p:Pl}:(Ay D o p).map Prod.fst=if hS D o=true then D.map Prod.fst else D.map Prod.fst++[o]:=by
 unfold Ay;split
 ·rw[bq];apply cL;intro e _;show(if e.1=o then(e.1,p)else e).1=e.1;split<;>rfl
 ·rw[bO];rfl
def Gd.put{D:Ps}{p:Pl}(h:Gd D)(hp:Ok p):Gd (Ay D o p):=by
 refine⟨?_,λe he=>?_⟩
 ·rw[LI];split
  ·exact h.nd
  ·rename_i c;rw[d9];refine⟨h.nd,bW _ _,λa ha b hb z=>c ?_⟩;rw[aP]at hb;rw[Yx,<- hb,<- z];exact ha
 ·unfold Ay at he;split at he
  ·obtain⟨f,hf,rfl⟩:=bA.mp he;split
   ·exact hp
   ·exact h.ok f hf
  ·rcases bE.mp he with z|z
   ·exact h.ok e z
   ·rw[aP.mp z];exact hp
theorem Gd.adds(l:Ps):∀{D:Ps},Gd D->Gd (adds D l):=by
 induction l with
 | nil=>intro D h;exact h
 | cons e l ih=>intro D h;exact ih (h.put (EU _ _))
def Gd.nil:Gd []:=⟨dM,nofun⟩
def wG{D:Ps}:(∃e∈D,e.1=o/\vS D o=e.2)\/(o∉D.map Prod.fst/\vS D o=[]):=by
 unfold vS
 cases h:D.find? λe=>decide (e.1=o)with
 | some e=>
  have h1:=iR h;exact .inl ⟨e,gz h,by simpa using h1,rfl⟩
 | none=>
  refine .inr ⟨λz=>?_,rfl⟩;obtain⟨e,he,ee⟩:=bA.mp z;exact gO.mp h e he (bf ee)
def Gd.v{D:Ps}(h:Gd D)(o:ag):Ok (vS D o):=by
 rcases wG (D:=D) (o:=o)with⟨e,h1,_,h2⟩|⟨_,h2⟩
 ·rw[h2];exact h.ok e h1
 ·rw[h2];exact⟨List.Pairwise.nil,nofun⟩
def DY.anti{a:ag}(h1:DY a b)(h2:DY b a):a=b:=(Sx.yd h1 h2).symm
def Tf{D:Ps}(h:Gd D)(h':Gd E)(hv:∀o,vS D o=vS E o):toS D=toS E:=by
 have key:∀(D:Ps),Gd D->∀o,o∈(mQ (D.map Prod.fst)).filter (λo=>!(vS D o).isEmpty) ↔ (vS D o)≠[]:=λD h o=>by
  rw[cN,(ko _).mem_iff];constructor
  ·rintro⟨_,h2⟩ z;rw[z]at h2;cases h2
  ·intro z;refine⟨?_,by cases e:vS D o with|nil=>exact absurd e z|cons=>rfl⟩
   rcases wG (D:=D) (o:=o)with⟨e,h1,h2,_⟩|⟨_,h2⟩
   ·exact bA.mpr ⟨e,h1,h2⟩
   ·exact absurd h2 z
 have pw:∀(D:Ps),((mQ (D.map Prod.fst)).filter (λo=>!(vS D o).isEmpty)).Pairwise DY:=λD=>(sF _).filter _;have nd:∀(D:Ps),Gd D->((mQ (D.map Prod.fst)).filter (λo=>!(vS D o).isEmpty)).Nodup:=λD h=>((ko _).nodup_iff.mpr h.nd).filter _;have e:(mQ (D.map Prod.fst)).filter (λo=>!(vS D o).isEmpty)=(mQ (E.map Prod.fst)).filter (λo=>!(vS E o).isEmpty):=by
  refine dR (λa b _ _ h1 h2=>DY.anti h1 h2) (pw D) (pw E) ((i_ (nd D h) (nd E h')).mpr λo=>?_);rw[key D h,key E h',hv]
 unfold toS;rw[e];apply cL;intro o _;rw[hv]
def GR{D:Ps}(h:Gd D)(h':Gd E)(hc:∀o t,cf (vS D o) t=cf (vS E o) t):toS D=toS E:=Tf h h' λo=>uniq (h.v o) (h'.v o) (hc o)
theorem Hj{f:ag->Pl}{o:ag}{t:Int}:∀{ks:List (ag)},ks.Nodup->cS (ks.map λk=>(k,f k)) o t=if o∈ks then cf (f o) t else 0
 | [],_=>by rw[aK (by simp)];rfl
 | j::ks,h=>by
  obtain⟨h1,h2⟩:=cO.mp h;show(if j=o then cf (f j) t else 0)+cS (ks.map λk=>(k,f k)) o t=_;rw[Hj h2];by_cases c:j=o
  ·subst c;rw[aM rfl,aK h1,aM (aJ ..),cM]
  ·rw[aK c,bY];by_cases e:o∈ks
   ·rw[aM e,aM (aL _ e)]
   ·rw[aK e,aK λz=>(bw.mp z).elim (λz=>c z.symm) e]
def yE{D:Ps}(h:Gd D)(o:ag)(t:Int):cS (toS D) o t=cf (vS D o) t:=by
 unfold toS;rw[Hj (((ko _).nodup_iff.mpr h.nd).filter _)];split
 ·rfl
 ·rename_i c
  rcases wG (D:=D) (o:=o)with⟨e,h1,h2,h3⟩|⟨_,h2⟩
  ·by_cases z:vS D o=[]
   ·rw[z];rfl
   ·refine absurd (cN.mpr ⟨(ko _).mem_iff.mpr (bA.mpr ⟨e,h1,h2⟩),?_⟩) c
    cases e:vS D o with|nil=>exact absurd e z|cons=>rfl
  ·rw[h2];rfl
noncomputable def nj (o:ag)(k:Nat):Bool:=decide (o.getD (k-1) 0>o.getD k 0)
noncomputable def MR (k:Nat)(l:Ps):Ps:=l.flatMap λe=>(Wd.ex e.1 k,e.2)::(if nj e.1 k=true then[(e.1,times AF e.2)]else[])
noncomputable def bx (k:Nat)(l:Ps):Ps:=toS (adds [] (MR k l))
noncomputable def Go (N k:Nat)(o:ag):Prop:=o.length=N/\o.getD (k-1) 0≠o.getD k 0
def Qw{N k:Nat}{o:ag}(h:o.length=N)(h1:1<=k)(h2:k<N):Wd.ex (Wd.ex o k) k=o:=Fw.wm h1 ()
def JM{k:Nat}{o:ag}(h1:1<=k)(h2:k<o.length):(Wd.ex o k).getD (k-1) 0=o.getD k 0/\(Wd.ex o k).getD k 0=o.getD (k-1) 0:=by
 constructor
 ·rw[aI,Wd.oH h1 h2,aK (),aM rfl,aI]
 ·rw[aI,Wd.oH h1 h2,aM rfl,aI]
def Go.ex{N k:Nat}(h:Go N k o)(h1:1<=k)(h2:k<N):Go N k (Wd.ex o k)/\nj (Wd.ex o k) k=!nj o k:=by
 obtain⟨hl,hn⟩:=h;obtain⟨e1,e2⟩:=JM (o:=o) h1 ();refine⟨⟨by rw[Wd.mD];exact hl,by rw[e1,e2];exact λz=>hn z.symm⟩,?_⟩;unfold nj;rw[e1,e2];by_cases c:o.getD (k-1) 0>o.getD k 0
 ·rw[bf c,bu ()];rfl
 ·rw[bu c,bf ()];rfl
def J1{l:Ps}{t:Int}(h:∀e∈l,e.1≠o):cS l o t=0:=by
 induction l with
 | nil=>rfl
 | cons e l ih=>
  show(if e.1=o then _ else 0)+cS l o t=0;rw[aK (h e (aJ ..)),ih λf hf=>h f (aL _ hf)];rfl
theorem VR{N k:Nat}(h1:1<=k)(h2:k<N):∀{l:Ps},(∀e∈l,Go N k e.1)->∀{o:ag}(t:Int),Go N k o->cS (MR k l) o t=cS l (Wd.ex o k) t+(if nj o k=true then cS l o (t+1)-cS l o (t-1)else 0)
 | [],_,o,t,_=>by show(0:Int)=0+if _ then(0:Int)-0 else 0;split<;>rfl
 | e::l,h,o,t,ho=>by
  have he:=h e (aJ ..);have ih:=VR h1 h2 (l:=l) (λf hf=>h f (aL _ hf)) t ho;have hx:(Wd.ex e.1 k=o) ↔ (e.1=Wd.ex o k):=⟨λz=>by rw[<- z,Qw he.1 h1 h2],λz=>by rw[z,Qw ho.1 h1 h2]⟩;show cS (((Wd.ex e.1 k,e.2)::(if nj e.1 k=true then[(e.1,times AF e.2)]else[]))++MR k l) o t=_;rw[wZ,ih];show(if Wd.ex e.1 k=o then cf e.2 t else 0)+cS (if nj e.1 k=true then[(e.1,times AF e.2)]else[]) o t+_=((if e.1=Wd.ex o k then cf e.2 t else 0)+cS l (Wd.ex o k) t)+(if nj o k=true then((if e.1=o then cf e.2 (t+1)else 0)+cS l o (t+1))-((if e.1=o then cf e.2 (t-1)else 0)+cS l o (t-1))else 0);have h3:cS (if nj e.1 k=true then[(e.1,times AF e.2)]else[]) o t=if nj o k=true then((if e.1=o then cf e.2 (t+1)else 0)-(if e.1=o then cf e.2 (t-1)else 0))else 0:=by
   by_cases c:e.1=o
   ·rw[c,aM rfl,aM rfl]
    cases nj o k with
    | false=>rfl
    | true=>
     rw[aM rfl,aM rfl];show(if o=o then cf (times AF e.2) t else 0)+0=_;rw[aM rfl,aaN,cM]
   ·rw[aK c,aK c];have:cS (if nj e.1 k=true then[(e.1,times AF e.2)]else[]) o t=0:=J1 λf hf=>by
     split at hf
     ·rw[aP.mp hf];exact c
     ·cases hf
    rw[this];split<;>rfl
  rw[h3];by_cases c:Wd.ex e.1 k=o
  ·rw[aM c,aM (hx.mp c)];split<;>lia
  ·rw[aK c,aK (λz=>c (hx.mpr z))];split<;>lia
def sd{P:ag->Prop}(l:Ps):∀{D:Ps},(∀e∈D,P e.1)->(∀e∈l,P e.1)->∀e∈adds D l,P e.1:=by
 induction l with
 | nil=>intro D h _;exact h
 | cons f l ih=>
  intro D h h';refine ih (λe he=>?_) λe he=>h' e (aL _ he);have he:e∈Ay D f.1 (pG (vS D f.1) f.2):=he;unfold Ay at he;split at he
  ·obtain⟨g,hg,rfl⟩:=bA.mp he;split
   ·exact h g hg
   ·exact h g hg
  ·rcases bE.mp he with z|z
   ·exact h e z
   ·rw[aP.mp z];exact h' f (aJ ..)
def uT{P:ag->Prop}{D:Ps}(h:∀e∈D,P e.1):∀e∈toS D,P e.1:=λe he=>by
 obtain⟨o,ho,rfl⟩:=bA.mp he;obtain⟨f,hf,e⟩:=bA.mp ((ko _).mem_iff.mp (cN.mp ho).1)
 skip
 rw[<- e];exact h f hf
noncomputable def gX (k:Nat)(e:En)(Q:Ps):Ps:=if nj e.1 k=true then za (za Q (Wd.ex e.1 k) e.2.2) e.1 (times AF e.2.2)else za Q (Wd.ex e.1 k) e.2.2
theorem IT(k:Nat):∀(es:Es) (P:Ps),es.foldl (λQ e=>gX k e Q) P=adds P (MR k (sm es))
 | [],P=>rfl
 | e::es,P=>by
  show es.foldl (λQ e=>gX k e Q) (gX k e P)=adds P (((Wd.ex e.1 k,e.2.2)::(if nj e.1 k=true then[(e.1,times AF e.2.2)]else[]))++MR k (sm es));rw[IT k es,Ao];congr 1;unfold gX
  cases nj e.1 k<;>rfl
def Z7{p:Pl}(h:Ok p)(hb:Bd C p)(t:Int):(cf p t).natAbs<=C:=by
 rw[<- QA h.nd];exact hb.val t
def Ok.Ie{l:Pl}(h:Ok l){p:Int×Int}(hp:p∈l):cf l p.1=p.2:=by
 induction l with
 | nil=>cases hp
 | cons q l ih=>
  rcases bw.mp hp with z|z
  ·rw[z];exact h.head
  ·show(if q.1=p.1 then q.2 else 0)+cf l p.1=p.2;have:=(bM.mp h.up).1 p z;rw[aK (),ih h.tail z,bY]
end Su
namespace He
open PySem L2 Am
open Fw (Two rg Ba)
open Bl (pX)
open Su (nj)
noncomputable abbrev Fn:=ag->Int->Int
noncomputable def dl (g:Int->Int)(t:Int):Int:=g (t+1)-g (t-1)
noncomputable def X (k:Nat)(f:Fn):Fn:=λo t=>f (Wd.ex o k) t+if nj o k=true then dl (f o) t else 0
def om{n:Nat}{v:ag}(h:Two n o u)(h':Two n o v):u=v:=by
 have l1:=h.lu;have l2:=h'.lu;have l3:=h.lo;apply cT;intro q;by_cases hq:q<n
 ·obtain⟨p,hp,ep⟩:∃p,∃hp:p<o.length,o[p]=(q:Int)+1:=by
   have:(q:Int)+1∈o:=h.po.mem_iff.mpr (oJ.mpr ⟨(),()⟩);obtain⟨p,hp,ep⟩:=List.getElem_of_mem this;exact⟨p,hp,ep⟩
  have a1:=h.ou.2 p hp;have a2:=h'.ou.2 p hp;rw[ep,show((q:Int)+1-1).toNat=q by lia]at a1 a2;rw[a1,a2]
 ·rw[b_ (),b_ ()]
noncomputable def bk (o:ag):ag:=(List.range o.length).map λi:Nat=>((o.idxOf ((i:Int)+1):Nat):Int)+1
def n8{n:Nat}{o:ag}(h:o.Perm (rg n)):Two n o (bk o):=by
 have lo:o.length=n:=by rw[h.length_eq,Wd.jV]
 have nd:o.Nodup:=h.nodup_iff.mpr (qC _ _);have mem:∀i,i<n->(i:Int)+1∈o:=λi hi=>h.mem_iff.mpr (oJ.mpr ⟨(),()⟩);have ix:∀i,i<n->o.idxOf ((i:Int)+1)<n:=λi hi=>by rw[<- lo];exact fJ.mpr (mem i hi)
 have get:∀i (hi:i<n),o[o.idxOf ((i:Int)+1)]'(by rw[lo];exact ix i hi)=(i:Int)+1:=λi hi=>jb _;refine⟨h,?_,?_,λp hp=>?_⟩
 ·have p:=Am.sS (N:=n) (g:=λi=>o.idxOf ((i:Int)+1)) ix λi j hij hj z=>by
   have a:=get i ();have b:=get j hj;dsimp[z]at a;rw[b]at a;lia
  have p2:=p.map λi:Nat=>(i:Int)+1;rw[bq]at p2;unfold bk;rw[lo];refine List.Perm.trans p2 ?_;have:(List.range n).map (λi:Nat=>(i:Int)+1)=rg n:=by
   apply cT;intro q;rw[aQ];by_cases c:q<n
   ·rw[eg c,Wd.q_ c];rfl
   ·rw[b_ (by rw[cD];lia),b_ (by rw[Wd.jV];lia)];rfl
  rw[this]
 ·unfold bk;rw[aH,cD]
 ·have m:=oJ.mp (h.mem_iff.mp (c9 hp));have hq:(o[p]-1).toNat<o.length:=()
  unfold bk;rw[aQ,eg hq];show some (((o.idxOf (((o[p]-1).toNat:Int)+1):Nat):Int)+1)=_;rw[show((o[p]-1).toNat:Int)+1=o[p]by lia,nd.idxOf_getElem]
def uH{n:Nat}{o:ag}(h:o.Perm (rg n)):bk (bk o)=o:=om (n8 (n8 h).pu) (n8 h).flip
def o4{n:Nat}{o:ag}(h:o.Perm (rg n)):(bk o).Perm (rg n):=(n8 h).pu
def VH{n k:Nat}{o:ag}(h:o.Perm (rg n))(h0:1<=k)(h1:k<n):bk (o.map (Wd.sw k))=Wd.ex (bk o) k:=by
 have t:=(n8 h).step h0 h1;exact om (n8 t.po) t
def Zz{n k:Nat}{o:ag}(h:o.Perm (rg n))(h0:1<=k)(h1:k<n):bk (Wd.ex o k)=(bk o).map (Wd.sw k):=by
 have t:=((n8 h).flip.step h0 h1).flip;exact om (n8 t.po) t
def vF{n k p:Nat}{o u:ag}(t:Two n o u)(h1:1<=k)(h2:k<=n)(hp:o.getD p 0=(k:Int))(hpn:p<n):u.getD (k-1) 0=(p:Int)+1:=by
 have lo:=t.lo;have lp:p<o.length:=()
 have:=t.ou.2 p lp;rw[Wd.nu lp]at hp;rw[hp,show((k:Int)-1).toNat=k-1 by lia]at this;rw[aI,this];rfl
def nb{n k:Nat}{o:ag}(h:o.Perm (rg n))(h0:1<=k)(h1:k<n):o.getD (k-1) 0≠o.getD k 0:=λz=>by
 have lo:o.length=n:=by rw[h.length_eq,Wd.jV]
 have nd:o.Nodup:=h.nodup_iff.mpr (qC _ _);rw[Wd.nu (),Wd.nu ()]at z;have:=(dz nd).mp z;lia
noncomputable def Pr (o:ag)(k j:Nat):Prop:=(o.getD (k-1) 0=j/\o.getD k 0=(j:Int)+1)\/(o.getD (k-1) 0=(j:Int)+1/\o.getD k 0=j)
def NN{n k:Nat}{u:ag}(h:u.Perm (rg n))(h0:1<=j)(h1:j<n):(Pr u j k->nj (u.map (Wd.sw k)) j=!nj u j)/\(¬Pr u j k->nj (u.map (Wd.sw k)) j=nj u j):=by
 have lu:u.length=n:=by rw[h.length_eq,Wd.jV]
 have ne:=nb h h0 h1;have e1:(u.map (Wd.sw k)).getD (j-1) 0=Wd.sw k (u.getD (j-1) 0):=by
  rw[Wd.nu (by rw[aH];lia),Wd.nu (),c_]
 have e2:(u.map (Wd.sw k)).getD j 0=Wd.sw k (u.getD j 0):=by
  rw[Wd.nu (by rw[aH];lia),Wd.nu (),c_]
 unfold nj Pr;rw[e1,e2];generalize u.getD (j-1) 0=a at *
 generalize u.getD j 0=b at *
 constructor
 ·rintro(⟨z1,z2⟩|⟨z1,z2⟩)
  ·subst z1;subst z2;unfold Wd.sw;rw[aM rfl,aK (),aM rfl,bf (),bu ()];rfl
  ·subst z1;subst z2;unfold Wd.sw;rw[aK (),aM rfl,aM rfl,bu (),bf ()];rfl
 ·intro z;rw[jo];unfold Wd.sw;split<;>split<;>(try split)<;>(try split)<;>lia
def zH{n k:Nat}(t:Two n o u)(h0:1<=k)(h1:k<n)(h2:1<=j)(h3:j<n)(h:Pr o k j):Pr u j k:=by
 rcases h with⟨z1,z2⟩|⟨z1,z2⟩
 ·have a:=vF t h2 () z1 ();have b:=vF t (k:=j+1) () () (by rw[z2];lia) h1;rw[Nat.add_sub_cancel]at b;exact .inl ⟨by rw[a];lia,by rw[b]⟩
 ·have a:=vF t (k:=j+1) () () (by rw[z1];lia) (show k-1<n by lia);have b:=vF t h2 () z2 h1;rw[Nat.add_sub_cancel]at a;exact .inr ⟨by rw[b],by rw[a];lia⟩
def W0{n k:Nat}(t:Two n o u)(h0:1<=k)(h1:k<n)(h2:1<=j)(h3:j<n)(h:Pr o k j):nj u j=nj o k:=by
 have a:∀x y:ag,∀i m:Nat,x.getD (i-1) 0=(m:Int)->x.getD i 0=(m:Int)+1->nj x i=false:=λx y i m p q=>by
  unfold nj;rw[p,q];exact bu ()
 have b:∀x y:ag,∀i m:Nat,x.getD (i-1) 0=(m:Int)+1->x.getD i 0=(m:Int)->nj x i=true:=λx y i m p q=>by
  unfold nj;rw[p,q];exact bf ()
 rcases h with⟨z1,z2⟩|⟨z1,z2⟩
 ·rw[a o [] k j z1 z2]
  rcases zH t h0 h1 h2 h3 (.inl ⟨z1,z2⟩)with⟨y1,y2⟩|⟨y1,y2⟩
  ·exact a u [] j k y1 y2
  ·have:=vF t h2 () z1 ();lia
 ·rw[b o [] k j z1 z2]
  rcases zH t h0 h1 h2 h3 (.inr ⟨z1,z2⟩)with⟨y1,y2⟩|⟨y1,y2⟩
  ·have:=vF t h2 () z2 h1;lia
  ·exact b u [] j k y1 y2
noncomputable def L (j:Nat)(f:Fn):Fn:=λo t=>f (o.map (Wd.sw j)) t+if nj (bk o) j=true then dl (f o) t else 0
def SQ{n k:Nat}{o:ag}(h:o.Perm (rg n))(h0:1<=k)(h1:k<n)(hp:Pr o k j):o.map (Wd.sw j)=Wd.ex o k:=by
 have lo:o.length=n:=by rw[h.length_eq,Wd.jV]
 have nd:o.Nodup:=h.nodup_iff.mpr (qC _ _);apply cT;intro p;rw[Wd.oH h0 (),aQ];unfold Pr at hp;rw[Wd.nu (),Wd.nu ()]at hp;by_cases c1:p=k
 ·subst c1;rw[aM rfl,aF (),aF (),dw];congr 1;unfold Wd.sw
  rcases hp with⟨z1,z2⟩|⟨z1,z2⟩
  ·rw[z1,z2,aK (),aM rfl]
  ·rw[z1,z2,aM rfl]
 ·rw[aK c1];by_cases c2:p=k-1
  ·subst c2;rw[aM rfl,aF (),aF (),dw];congr 1;unfold Wd.sw
   rcases hp with⟨z1,z2⟩|⟨z1,z2⟩
   ·rw[z1,z2,aM rfl]
   ·rw[z1,z2,aK (),aM rfl]
  ·rw[aK c2];by_cases c3:p<o.length
   ·rw[aF c3,dw];congr 1;have n1:o[p]≠o[k]:=λz=>c1 ((dz nd).mp z);have n2:o[p]≠o[k-1]:=λz=>c2 ((dz nd).mp z);unfold Wd.sw
    rcases hp with⟨z1,z2⟩|⟨z1,z2⟩
    ·rw[aK (by rw[<- z1];exact n2),aK (by rw[<- z2];exact n1)]
    ·rw[aK (by rw[<- z2];exact n1),aK (by rw[<- z1];exact n2)]
   ·rw[b_ ()];rfl
def VD(j:Nat)(o:ag):(o.map (Wd.sw j)).map (Wd.sw j)=o:=by
 rw[bq];have:(Wd.sw j ∘ Wd.sw j)=id:=funext λx=>by
  show Wd.sw j (Wd.sw j x)=x;unfold Wd.sw;split<;>(try split)<;>(try split)<;>lia
 rw[this,jB]
def comm{n k:Nat}(f:Fn){o:ag}(h:o.Perm (rg n))(h0:1<=k)(h1:k<n)(h2:1<=j)(h3:j<n)(t:Int):X k (L j f) o t=L j (X k f) o t:=by
 have lo:o.length=n:=by rw[h.length_eq,Wd.jV]
 have tw:=n8 h;have e1:(Wd.ex o k).map (Wd.sw j)=Wd.ex (o.map (Wd.sw j)) k:=(Wd.ex_map _ h0 ()).symm;have e2:=Zz h h0 h1;have f1:=NN (k:=j) h h0 h1;have f2:=NN (k:=k) tw.pu h2 h3;unfold X L dl;dsimp only;rw[e1,e2];by_cases c:Pr o k j
 ·have c':=zH tw h0 h1 h2 h3 c;have e3:=SQ h h0 h1 c;rw[f1.1 c,f2.1 c',W0 tw h0 h1 h2 h3 c,<- e3]
 ·have c':¬Pr (bk o) j k:=λz=>c (zH tw.flip h2 h3 h0 h1 z);rw[f1.2 c,f2.2 c']
  cases nj o k<;>cases nj (bk o) j
  ·dsimp[bB,b9]
  ·dsimp[bB,cJ,b9];lia
  ·dsimp[bB,cJ,b9];lia
  ·dsimp[cJ];lia
noncomputable def lG (n:Nat)(f g:Fn):Prop:=∀o:ag,o.Perm (rg n)->∀t,f o t=g o t
def lG.refl{n:Nat}{f:Fn}:lG n f f:=λ_ _ _=>rfl
def lG.symm{n:Nat}{f g:Fn}(h:lG n f g):lG n g f:=λo p t=>(h o p t).symm
def lG.trans{n:Nat}{f g e:Fn}(h:lG n f g)(h':lG n g e):lG n f e:=λo p t=>(h o p t).trans (h' o p t)
def nM{n k:Nat}{o:ag}(h:o.Perm (rg n))(h0:1<=k)(h1:k<n):(Wd.ex o k).Perm (rg n):=(Wd.Dm h0 (by rw[h.length_eq,Wd.jV];exact h1)).trans h
def Vx{n k:Nat}{o:ag}(h:o.Perm (rg n))(h0:1<=k)(h1:k<n):(o.map (Wd.sw k)).Perm (rg n):=((n8 h).step h0 h1).po
def ME{n k:Nat}{f g:Fn}(h:lG n f g)(h0:1<=k)(h1:k<n):lG n (X k f) (X k g):=λo p t=>by
 unfold X dl;rw[h _ (nM p h0 h1),h o p,h o p]
def aco{n k:Nat}{f g:Fn}(h:lG n f g)(h0:1<=k)(h1:k<n):lG n (L k f) (L k g):=λo p t=>by
 unfold L dl;rw[h _ (Vx p h0 h1),h o p,h o p]
noncomputable def Va (n:Nat)(w:am):Prop:=∀k∈w,1<=k/\k<n
noncomputable def Xw (w:am)(f:Fn):Fn:=w.foldl (λf k=>X k f) f
noncomputable def Lw (w:am)(f:Fn):Fn:=w.foldl (λf k=>L k f) f
theorem wA{n:Nat}:∀{w:am}{f g:Fn},Va n w->lG n f g->lG n (Xw w f) (Xw w g)
 | [],_,_,_,h=>h
 | k::w,_,_,v,h=>wA (w:=w) (λj hj=>v j (aL _ hj)) (ME h (v k (aJ ..)).1 (v k (aJ ..)).2)
theorem BE{n:Nat}:∀{w:am}{f g:Fn},Va n w->lG n f g->lG n (Lw w f) (Lw w g)
 | [],_,_,_,h=>h
 | k::w,_,_,v,h=>BE (w:=w) (λj hj=>v j (aL _ hj)) (aco h (v k (aJ ..)).1 (v k (aJ ..)).2)
theorem aaq{n:Nat}(h2:1<=j)(h3:j<n):∀{w:am}{f:Fn},Va n w->lG n (Xw w (L j f)) (L j (Xw w f))
 | [],_,_=>.refl
 | k::w,f,v=>by
  have v1:=v k (aJ ..);have v2:Va n w:=λj hj=>v j (aL _ hj)
  skip
  exact(wA v2 (λo p t=>comm f p v1.1 v1.2 h2 h3 t)).trans (aaq h2 h3 v2)
theorem QV{n:Nat}{w:am}(v:Va n w):∀{u:am}{f:Fn},Va n u->lG n (Xw w (Lw u f)) (Lw u (Xw w f))
 | [],_,_=>.refl
 | j::u,f,vu=>by
  have v1:=vu j (aJ ..);have v2:Va n u:=λi hi=>vu i (aL _ hi)
  skip
  exact(QV v v2).trans (BE v2 (aaq v1.1 v1.2 v))
noncomputable def D (u:ag)(g:Int->Int):Fn:=λo t=>if o=u then g t else 0
def X_D{n k:Nat}{u:ag}(g:Int->Int)(hu:u.Perm (rg n))(h0:1<=k)(h1:k<n):lG n (X k (D u g)) λo t=>D (Wd.ex u k) g o t+if nj u k=true then D u (dl g) o t else 0:=λo p t=>by
 have lo:o.length=n:=by rw[p.length_eq,Wd.jV]
 have lu:u.length=n:=by rw[hu.length_eq,Wd.jV]
 have iff:Wd.ex o k=u ↔ o=Wd.ex u k:=⟨λz=>by rw[<- z,Fw.wm h0 ()],λz=>by rw[z,Fw.wm h0 ()]⟩;unfold X D dl;dsimp only;by_cases c:o=u
 ·subst c;rw[aM rfl,aM rfl,aM rfl];congr 1;by_cases c2:Wd.ex o k=o
  ·rw[aM c2,aM c2.symm]
  ·rw[aK c2,aK (λz=>c2 z.symm)]
 ·rw[aK c,aK c,aK c];congr 1
  ·by_cases c2:Wd.ex o k=u
   ·rw[aM c2,aM (iff.mp c2)]
   ·rw[aK c2,aK (λz=>c2 (iff.mpr z))]
  ·split<;>split<;>rfl
def L_D{n k:Nat}{u:ag}(g:Int->Int)(hu:u.Perm (rg n))(h0:1<=k)(h1:k<n):lG n (L k (D u g)) λo t=>D (u.map (Wd.sw k)) g o t+if nj (bk u) k=true then D u (dl g) o t else 0:=λo p t=>by
 have iff:o.map (Wd.sw k)=u ↔ o=u.map (Wd.sw k):=⟨λz=>by rw[<- z,VD],λz=>by rw[z,VD]⟩;unfold L D dl;dsimp only;by_cases c:o=u
 ·subst c;rw[aM rfl,aM rfl,aM rfl];congr 1;by_cases c2:o.map (Wd.sw k)=o
  ·rw[aM c2,aM c2.symm]
  ·rw[aK c2,aK (λz=>c2 z.symm)]
 ·rw[aK c,aK c,aK c];congr 1
  ·by_cases c2:o.map (Wd.sw k)=u
   ·rw[aM c2,aM (iff.mp c2)]
   ·rw[aK c2,aK (λz=>c2 (iff.mpr z))]
  ·split<;>split<;>rfl
def F8{l:ag}{k:Nat}(h:l.getD (k-1) 0<l.getD k 0):nj l k=false:=bu ()
theorem SD{n:Nat}{g:Int->Int}:∀{w:am}{u:ag},u.Perm (rg n)->Wd.jZ u w->lG n (Xw w (D u g)) (D (Wd.led u w) g)
 | [],_,_,_=>.refl
 | k::w,u,hu,h=>by
  obtain⟨h1,h2,h3,h4⟩:=h;have lu:u.length=n:=by rw[hu.length_eq,Wd.jV]
  have pu:=nM hu h1 ();have e:lG n (X k (D u g)) (D (Wd.ex u k) g):=(X_D g hu h1 ()).trans λo p t=>by
   dsimp only;rw[F8 h3,aK (by simp),cM]
  have v:Va n w:=λj hj=>by
   have:=Wd.jZ.valid h4 j hj;rw[Wd.mD,lu]at this;exact this
  skip
  exact(wA v e).trans (SD pu h4)
theorem Wv{n:Nat}{g:Int->Int}:∀{w:am}{u:ag},u.Perm (rg n)->Wd.jZ (bk u) w->∃v:ag,v.Perm (rg n)/\bk v=Wd.led (bk u) w/\lG n (Lw w (D u g)) (D v g)
 | [],u,hu,_=>⟨u,hu,rfl,.refl⟩
 | k::w,u,hu,h=>by
  obtain⟨h1,h2,h3,h4⟩:=h;have lb:(bk u).length=n:=by rw[(o4 hu).length_eq,Wd.jV]
  have pu:=Vx hu h1 ();have eb:bk (u.map (Wd.sw k))=Wd.ex (bk u) k:=VH hu h1 ();have e:lG n (L k (D u g)) (D (u.map (Wd.sw k)) g):=(L_D g hu h1 ()).trans λo p t=>by
   dsimp only;rw[F8 h3,aK (by simp),cM]
  have v:Va n w:=λj hj=>by
   have:=Wd.jZ.valid h4 j hj;rw[Wd.mD,lb]at this;exact this
  rw[<- eb]at h4;obtain⟨x,x1,x2,x3⟩:=Wv (g:=g) pu h4;refine⟨x,x1,?_,(BE v e).trans x3⟩;rw[x2,eb];rfl
def nO(n:Nat):(rg n).Perm (rg n):=.refl _
theorem vN{n:Nat}:∀(m:Nat) {u:ag},u.Perm (rg n)->Iv.inv u=m->∃w,Wd.jZ (rg n) w/\Wd.led (rg n) w=u
 | 0,u,hu,hm=>by
  refine⟨[],trivial,(Fw.K_ hu λk hk=>?_).symm⟩;have:=Fw.oK hk.1 hk.2.1 hk.2.2;lia
 | m+1,u,hu,hm=>by
  obtain⟨k,hk⟩:=Fw.KY (l:=u) ();have lu:u.length=n:=by rw[hu.length_eq,Wd.jV]
  have hd:=Fw.oK hk.1 hk.2.1 hk.2.2;obtain⟨w,h1,h2⟩:=vN m (nM hu hk.1 (by rw[<- lu];exact hk.2.1)) ();obtain⟨e1,e2⟩:=Su.JM (o:=u) hk.1 hk.2.1;refine⟨w++[k],Wd.jZ.snoc h1 hk.1 (by rw[Wd.jV,<- lu];exact hk.2.1) (by rw[h2,e1,e2];exact hk.2.2),?_⟩;rw[Wd.tX,h2];exact Fw.wm hk.1 hk.2.1
def K8(n:Nat):bk (rg n)=rg n:=by
 refine om (n8 (nO n)) ⟨nO n,nO n,rfl,λp hp=>?_⟩;have hp':p<n:=by rw[Wd.jV]at hp;exact hp
 have e:=Wd.q_ hp';rw[aF hp]at e;have e:=a_ e;rw[show((rg n)[p]-1).toNat=p by rw[e];lia];exact Wd.q_ hp'
def SO{n:Nat}{u:ag}(hu:u.Perm (rg n)):∃v,Va n v/\∀g,lG n (Lw v (D (rg n) g)) (D u g):=by
 obtain⟨w,h1,h2⟩:=vN _ (o4 hu) rfl;have v:Va n w:=λk hk=>by have:=Wd.jZ.valid h1 k hk;rwa [Wd.jV]at this
 refine⟨w,v,λg=>?_⟩;have h1':Wd.jZ (bk (rg n)) w:=by rw[K8];exact h1
 obtain⟨x,x1,x2,x3⟩:=Wv (g:=g) (nO n) h1';rw[K8,h2]at x2;have:x=u:=by rw[<- uH x1,x2,uH hu]
 rw[<- this];exact x3
def W8{n:Nat}{w:am}(h:Wd.jZ (rg n) w)(h':Wd.jZ (rg n) w')(e:Wd.led (rg n) w=Wd.led (rg n) w'){u:ag}(hu:u.Perm (rg n))(g:Int->Int):lG n (Xw w (D u g)) (Xw w' (D u g)):=by
 obtain⟨v,v1,v2⟩:=SO hu;have a:∀{w:am},Wd.jZ (rg n) w->lG n (Xw w (D u g)) (Lw v (D (Wd.led (rg n) w) g)):=λ{w} h=>by
  have vw:Va n w:=λk hk=>by have:=Wd.jZ.valid h k hk;rwa [Wd.jV]at this
  exact(wA vw (v2 g).symm).trans ((QV vw v1).trans (BE v1 (SD (nO n) h)))
 refine(a h).trans ?_;rw[e];exact(a h').symm
noncomputable def add (f g:Fn):Fn:=λo t=>f o t+g o t
def QY(k:Nat)(f g:Fn):X k (add f g)=add (X k f) (X k g):=by
 funext o t
 unfold X add dl;dsimp only;split<;>lia
theorem DX:∀(w:am) (f g:Fn),Xw w (add f g)=add (Xw w f) (Xw w g)
 | [],_,_=>rfl
 | k::w,f,g=>by
  show Xw w (X k (add f g))=_;rw[QY,DX w];rfl
def Il(k:Nat):X k (λ_ _=>0)=λ_ _=>0:=by
 funext o t
 unfold X dl;split<;>rfl
theorem zM:∀w:am,Xw w (λ_ _=>0)=λ_ _=>0
 | []=>rfl
 | k::w=>by
  show Xw w (X k _)=_;rw[Il,zM w]
def xN(e:ag×Po.Pl)(l:Su.Ps):Su.cS (e::l)=add (D e.1 (Po.cf e.2)) (Su.cS l):=by
 funext o t
 show(if e.1=o then _ else _)+_=(if o=e.1 then _ else _)+_;by_cases c:e.1=o
 ·rw[aM c,aM c.symm]
 ·rw[aK c,aK (λz=>c z.symm)]
theorem zf{n:Nat}{w:am}(h:Wd.jZ (rg n) w)(h':Wd.jZ (rg n) w')(e:Wd.led (rg n) w=Wd.led (rg n) w'):∀{l:Su.Ps},(∀x∈l,x.1.Perm (rg n))->lG n (Xw w (Su.cS l)) (Xw w' (Su.cS l))
 | [],_=>by
  have z:Su.cS []=λ_ _=>0:=rfl;rw[z,zM,zM];exact .refl
 | x::l,hx=>by
  rw[xN,DX,DX];intro o p t;unfold add;rw[W8 h h' e (hx x (aJ ..)) _ o p t,zf h h' e (λy hy=>hx y (aL _ hy)) o p t]
def Sd{n k:Nat}{l:Su.Ps}(h:∀x∈l,x.1.Perm (rg n))(h0:1<=k)(h1:k<n):lG n (Su.cS (Su.bx k l)) (X k (Su.cS l)):=λo p t=>by
 have go:∀{x:ag},x.Perm (rg n)->Su.Go n k x:=λ{x} hx=>⟨by rw[hx.length_eq,Wd.jV],nb hx h0 h1⟩;unfold Su.bx;rw[Su.yE (Su.Gd.nil.adds _),Su.DW];show 0+_=_;rw[bY,Su.VR h0 h1 (λe he=>go (h e he)) t (go p)];rfl
end He
namespace He
open PySem L2 Am Po
open Fw (Two rg Ba)
open Su (nj Ps cS)
noncomputable def cv:Pl->(Int->Int)->Int->Int
 | [],_,_=>0
 | q::p,g,t=>q.2 * g (t-q.1)+cv p g t
def Dp(a b:Pl)(g:Int->Int)(t:Int):cv (a++b) g t=cv a g t+cv b g t:=by
 induction a with
 | nil=>exact(bY _).symm
 | cons q a ih=>
  show _+cv (a++b) g t=_+_+_;rw[ih,fH]
def qm(p:Pl)(g h:Int->Int)(t:Int):cv p (λt=>g t+h t) t=cv p g t+cv p h t:=by
 induction p with
 | nil=>rfl
 | cons q p ih=>
  show q.2 * (g (t-q.1)+h (t-q.1))+cv p _ t=(q.2 * g (t-q.1)+cv p g t)+(q.2 * h (t-q.1)+cv p h t);rw[ih,jA];lia
def oY(p:Pl)(t:Int):cv p (λ_=>0) t=0:=by
 induction p with
 | nil=>rfl
 | cons q p ih=>
  show q.2 * 0+cv p _ t=0;rw[ih,gv];rfl
def Nd(p:Pl)(g:Int->Int)(t:Int):cv p (dl g) t=dl (cv p g) t:=by
 induction p with
 | nil=>rfl
 | cons q p ih=>
  show q.2 * (g (t-q.1+1)-g (t-q.1-1))+cv p (dl g) t=(q.2 * g (t+1-q.1)+cv p g (t+1))-(q.2 * g (t-1-q.1)+cv p g (t-1));rw[ih,Int.mul_sub,show t-q.1+1=t+1-q.1 by lia,show t-q.1-1=t-1-q.1 by lia];show _+(cv p g (t+1)-cv p g (t-1))=_;lia
def aat(p q:Pl)(t:Int):cf (times p q) t=cv p (cf q) t:=by
 rw[Su.qz]
 induction p with
 | nil=>rfl
 | cons a p ih=>
  show cf ((q.map λb=>(a.1+b.1,a.2 * b.2))++BZ p q) t=_;rw[Su.yY,Su.KA,ih];rfl
def Oz(p:Pl)(g:Int->Int)(t a:Int):cv p g t=cf p a * g (t-a)+cv (p.filter λq=>decide (q.1≠a)) g t:=by
 induction p with
 | nil=>show(0:Int)=0 * _+0;rw[zero_mul];rfl
 | cons q p ih=>
  show q.2 * g (t-q.1)+cv p g t=((if q.1=a then q.2 else 0)+cf p a) * g (t-a)+_;rw[cY,Int.add_mul];by_cases c:q.1=a
  ·rw[aM c,bu (by simpa using c),aK (by simp),ih,c];lia
  ·rw[aK c,bf c,aM rfl,ih,zero_mul];show _=0+_+(q.2 * g (t-q.1)+cv _ g t);lia
def MI(p:Pl)(a b:Int):cf (p.filter λq=>decide (q.1≠a)) b=if b=a then 0 else cf p b:=by
 induction p with
 | nil=>show(0:Int)=_;split<;>rfl
 | cons q p ih=>
  rw[cY];show _=if b=a then 0 else(if q.1=b then q.2 else 0)+cf p b
  by_cases c:q.1=a
  ·rw[bu (by simpa using c),aK (by simp),ih];by_cases e:b=a
   ·rw[aM e,aM e]
   ·rw[aK e,aK e,aK (),bY]
  ·rw[bf c,aM rfl];show(if q.1=b then q.2 else 0)+cf _ b=_;rw[ih];by_cases e:b=a
   ·rw[aM e,aM e,aK ()];rfl
   ·rw[aK e,aK e]
def Cw:∀(m:Nat) {p:Pl},p.length=m->(∀k,cf p k=0)->∀(g:Int->Int) (t:Int),cv p g t=0:=by
 intro m
 induction m using Nat.strongRecOn with
 | _ m ih=>
  intro p hm h g t
  cases p with
  | nil=>rfl
  | cons q p=>
   rw[Oz _ g t q.1,h,zero_mul,bY];refine ih _ ?_ rfl (λk=>?_) g t
   ·rw[cY,bu (by simp),aK (by simp),<- hm];exact Nat.lt_succ_of_le (dP _ _)
   ·rw[MI];split
    ·rfl
    ·exact h k
def N1(p:Pl)(g:Int->Int)(t:Int):cv (p.map λq=>(q.1,-q.2)) g t=- cv p g t:=by
 induction p with
 | nil=>rfl
 | cons q p ih=>
  show -q.2 * g (t-q.1)+cv (p.map _) g t=-(q.2 * g (t-q.1)+cv p g t);rw[ih,neg_mul];lia
def OI(p:Pl)(k:Int):cf (p.map λq=>(q.1,-q.2)) k=- cf p k:=by
 induction p with
 | nil=>rfl
 | cons q p ih=>
  show(if q.1=k then -q.2 else 0)+cf (p.map _) k=-((if q.1=k then q.2 else 0)+cf p k);rw[ih];split<;>lia
def yv{p q:Pl}(h:∀k,cf p k=cf q k)(g:Int->Int)(t:Int):cv p g t=cv q g t:=by
 have:=Cw _ (p:=p++q.map λq=>(q.1,-q.2)) rfl (λk=>by rw[Su.yY,OI,h];lia) g t;rw[Dp,N1]at this;lia
def VC(p q:Pl)(g:Int->Int)(t:Int):cv p (cv q g) t=cv q (cv p g) t:=by
 induction p generalizing t with
 | nil=>exact(oY q t).symm
 | cons a p ih=>
  show a.2 * cv q g (t-a.1)+cv p (cv q g) t=cv q (λt=>a.2 * g (t-a.1)+cv p g t) t;rw[ih,qm];congr 1;clear ih
  induction q with
  | nil=>show a.2 * 0=0;rw[gv]
  | cons b q ih2=>
   show a.2 * (b.2 * g (t-a.1-b.1)+cv q g (t-a.1))=b.2 * (a.2 * g (t-b.1-a.1))+cv q _ t;rw[<- ih2,jA,show t-a.1-b.1=t-b.1-a.1 by lia,<- Int.mul_assoc,<- Int.mul_assoc,Int.mul_comm a.2 b.2]
noncomputable def lE (p:Pl)(f:Fn):Fn:=λo t=>cv p (f o) t
def Ik(k:Nat)(p:Pl)(f:Fn):X k (lE p f)=lE p (X k f):=by
 funext o t
 show cv p (f (Wd.ex o k)) t+(if nj o k=true then dl (cv p (f o)) t else 0)=cv p (λt=>f (Wd.ex o k) t+if nj o k=true then dl (f o) t else 0) t;rw[qm]
 cases nj o k with
 | true=>dsimp[cJ];rw[<- Nd]
 | false=>dsimp[bB,b9];rw[oY]
theorem IE(p:Pl):∀(w:am) (f:Fn),Xw w (lE p f)=lE p (Xw w f)
 | [],_=>rfl
 | k::w,f=>by
  show Xw w (X k (lE p f))=_;rw[Ik,IE p w];rfl
noncomputable def sw (n:Nat)(o:ag):am:=by
 classical
 exact if h:o.Perm (rg n)then(vN _ h rfl).choose else[]
def qo{n:Nat}{o:ag}(h:o.Perm (rg n)):Wd.jZ (rg n) (sw n o)/\Wd.led (rg n) (sw n o)=o:=by
 unfold sw;rw[dif_pos h];exact(vN _ h rfl).choose_spec
def BA{n:Nat}{o:ag}(h:o.Perm (rg n)):Va n (sw n o):=λk hk=>by have:=Wd.jZ.valid (qo h).1 k hk;rwa [Wd.jV]at this
noncomputable def RG (G:ag->Fn):Ps->Fn
 | []=>λ_ _=>0
 | e::m=>add (lE e.2 (G e.1)) (RG G m)
noncomputable def R (n:Nat)(m:Ps)(f:Fn):Fn:=RG (λo=>Xw (sw n o) f) m
def RB(G:ag->Fn)(a b:Ps):RG G (a++b)=add (RG G a) (RG G b):=by
 induction a with
 | nil=>funext o t;exact(bY _).symm
 | cons e a ih=>
  show add _ (RG G (a++b))=_;rw[ih]
  funext o t
  exact(fH _ _ _).symm
theorem Vn(G:ag->Fn)(o:ag)(t:Int)(w:ag):∀m:Ps,RG G m o t=cv ((m.filter λe=>decide (e.1=w)).flatMap λe=>e.2) (G w o) t+RG G (m.filter λe=>decide (e.1≠w)) o t
 | []=>rfl
 | e::m=>by
  show cv e.2 (G e.1 o) t+RG G m o t=_;rw[Vn G o t w m,cY,cY];by_cases c:e.1=w
  ·rw[bf c,aM rfl,bu (by simpa using c),aK (by simp),jg,Dp,c];lia
  ·rw[bu c,aK (by simp),bf c,aM rfl];show _=_+(cv e.2 (G e.1 o) t+RG G _ o t);lia
theorem Eg(w:ag)(t:Int):∀m:Ps,cf ((m.filter λe=>decide (e.1=w)).flatMap λe=>e.2) t=cS m w t
 | []=>rfl
 | e::m=>by
  rw[cY];show _=(if e.1=w then cf e.2 t else 0)+cS m w t;by_cases c:e.1=w
  ·rw[bf c,aM rfl,aM c,jg,Su.yY,Eg w t m]
  ·rw[bu c,aK (by simp),aK c,Eg w t m,bY]
theorem yW(w o:ag)(t:Int):∀m:Ps,cS (m.filter λe=>decide (e.1≠w)) o t=if o=w then 0 else cS m o t
 | []=>by show(0:Int)=_;split<;>rfl
 | e::m=>by
  rw[cY];show _=if o=w then 0 else(if e.1=o then cf e.2 t else 0)+cS m o t
  by_cases c:e.1=w
  ·rw[bu (by simpa using c),aK (by simp),yW w o t m];by_cases e':o=w
   ·rw[aM e',aM e']
   ·rw[aK e',aK e',aK (λz=>e' (z.symm.trans c)),bY]
  ·rw[bf c,aM rfl];show(if e.1=o then cf e.2 t else 0)+cS _ o t=_;rw[yW w o t m];by_cases e':o=w
   ·rw[aM e',aM e',aK (λz=>c (z.trans e'))];rfl
   ·rw[aK e',aK e']
def LK(G:ag->Fn)(o:ag)(t:Int):∀(k:Nat) {m:Ps},m.length=k->(∀w s,cS m w s=0)->RG G m o t=0:=by
 intro k
 induction k using Nat.strongRecOn with
 | _ k ih=>
  intro m hk h
  cases m with
  | nil=>rfl
  | cons e m=>
   rw[Vn G o t e.1];have z:cv (((e::m).filter λx=>decide (x.1=e.1)).flatMap λe=>e.2) (G e.1 o) t=0:=Cw _ rfl (λs=>by rw[Eg];exact h _ _) _ _;rw[z,bY];refine ih _ ?_ rfl λw s=>?_
   ·rw[cY,bu (by simp),aK (by simp),<- hk];exact Nat.lt_succ_of_le (dP _ _)
   ·rw[yW];split
    ·rfl
    ·exact h w s
def RC(G:ag->Fn)(h:∀w s,cS m w s=cS m' w s):RG G m=RG G m':=by
 funext o t
 have neg:∀m:Ps,RG G (m.map λe=>(e.1,e.2.map λq=>(q.1,-q.2))) o t=- RG G m o t:=λm=>by
  induction m with
  | nil=>rfl
  | cons e m ih=>
   show cv (e.2.map λq=>(q.1,-q.2)) (G e.1 o) t+RG G (m.map _) o t=-(cv e.2 (G e.1 o) t+RG G m o t);rw[ih,N1];lia
 have cneg:∀(m:Ps) (w:ag) (s:Int),cS (m.map λe=>(e.1,e.2.map λq=>(q.1,-q.2))) w s=- cS m w s:=λm w s=>by
  induction m with
  | nil=>rfl
  | cons e m ih=>
   show(if e.1=w then cf (e.2.map λq=>(q.1,-q.2)) s else 0)+cS (m.map _) w s=-((if e.1=w then cf e.2 s else 0)+cS m w s);rw[ih,OI];split<;>lia
 have:=LK G o t _ (m:=m++m'.map λe=>(e.1,e.2.map λq=>(q.1,-q.2))) rfl λw s=>by rw[Su.wZ,cneg,h];lia
 rw[RB]at this;have this:RG G m o t+RG G (m'.map λe=>(e.1,e.2.map λq=>(q.1,-q.2))) o t=0:=this;rw[neg]at this;lia
def OJ(n:Nat)(a b:Ps)(f:Fn):R n (a++b) f=add (R n a f) (R n b f):=RB _ a b
def Gg(n:Nat)(h:∀w s,cS m w s=cS m' w s)(f:Fn):R n m f=R n m' f:=RC _ h
def X_X{n k:Nat}(h0:1<=k)(h1:k<n)(f:Fn):lG n (X k (X k f)) λo t=>f o t+dl (X k f o) t:=λo p t=>by
 have lo:o.length=n:=by rw[p.length_eq,Wd.jV]
 have go:Su.Go n k o:=⟨lo,nb p h0 h1⟩;obtain⟨_,hf⟩:=go.ex h0 h1;unfold X dl;dsimp only;rw[Fw.wm h0 (),hf]
 cases nj o k with
 | true=>dsimp[bX,bB,b9,cJ];lia
 | false=>dsimp[dm,bB,b9,cJ];lia
def Vw{n k:Nat}{w:ag}{l:Ps}(hw:w.Perm (rg n))(h0:1<=k)(h1:k<n)(hf:nj w k=false)(hl:∀x∈l,x.1.Perm (rg n)):lG n (Xw (sw n (Wd.ex w k)) (cS l)) (X k (Xw (sw n w) (cS l))):=by
 obtain⟨a1,a2⟩:=qo hw;obtain⟨b1,b2⟩:=qo (nM hw h0 h1);have ne:=nb hw h0 h1;have hr:(Wd.led (rg n) (sw n w)).getD (k-1) 0<(Wd.led (rg n) (sw n w)).getD k 0:=by
  rw[a2];have:=c8 hf;lia
 have c1:Wd.jZ (rg n) (sw n w++[k]):=Wd.jZ.snoc a1 h0 (by rw[Wd.jV];exact h1) hr;have c2:Wd.led (rg n) (sw n w++[k])=Wd.ex w k:=by rw[Wd.tX,a2];rfl
 have:=zf b1 c1 (b2.trans c2.symm) hl;refine this.trans ?_;unfold Xw;rw[c6];exact .refl
def VE{n k:Nat}{w:ag}{l:Ps}(hw:w.Perm (rg n))(h0:1<=k)(h1:k<n)(hf:nj w k=true)(hl:∀x∈l,x.1.Perm (rg n)):lG n (Xw (sw n w) (cS l)) (X k (Xw (sw n (Wd.ex w k)) (cS l))):=by
 have lw:w.length=n:=by rw[hw.length_eq,Wd.jV]
 have go:Su.Go n k w:=⟨lw,nb hw h0 h1⟩;have:=Vw (nM hw h0 h1) h0 h1 (by rw[(go.ex h0 h1).2,hf];rfl) hl;rw[Fw.wm h0 ()]at this;exact this
def nS{n:Nat}{f g:Fn}(p:Pl)(h:lG n f g):lG n (lE p f) (lE p g):=λo po t=>by
 show cv p (f o) t=cv p (g o) t;rw[show f o=g o from funext λt=>h o po t]
def aaB(p:Pl)(g:Int->Int)(t:Int):cv (times Su.AF p) g t=cv p (dl g) t:=by
 have:cv (times Su.AF p) g t=cv (BZ Su.AF p) g t:=yv (λk=>Su.qz _ _ _) g t;rw[this];show cv ((p.map λq=>((-1:Int)+q.1,(1:Int) * q.2))++((p.map λq=>((1:Int)+q.1,(-1:Int) * q.2))++[])) g t=_;rw[cG,Dp]
 induction p with
 | nil=>rfl
 | cons q p ih=>
  show(1 * q.2 * g (t-(-1+q.1))+cv (p.map _) g t)+(-1 * q.2 * g (t-(1+q.1))+cv (p.map _) g t)=q.2 * (g (t-q.1+1)-g (t-q.1-1))+cv p (dl g) t;have ih:=ih (yv (λk=>Su.qz _ _ _) g t);rw[<- ih,Int.mul_sub,one_mul,show t-(-1+q.1)=t-q.1+1 by lia,show t-(1+q.1)=t-q.1-1 by lia,neg_mul,one_mul,neg_mul];lia
theorem R_X{n k:Nat}{l:Ps}(h0:1<=k)(h1:k<n)(hl:∀x∈l,x.1.Perm (rg n)):∀{m:Ps},(∀x∈m,x.1.Perm (rg n))->lG n (R n (Su.MR k m) (cS l)) (X k (R n m (cS l)))
 | [],_=>by
  show lG n (λ_ _=>0) (X k λ_ _=>0);rw[Il];exact .refl
 | e::m,hm=>by
  have he:=hm e (aJ ..);have ih:=R_X h0 h1 hl (m:=m) λx hx=>hm x (aL _ hx);show lG n (R n (((Wd.ex e.1 k,e.2)::(if nj e.1 k=true then[(e.1,times Su.AF e.2)]else[]))++Su.MR k m) (cS l)) (X k (add (lE e.2 (Xw (sw n e.1) (cS l))) (R n m (cS l))));rw[OJ,QY,Ik];intro o p t;show R n ((Wd.ex e.1 k,e.2)::_) (cS l) o t+R n (Su.MR k m) (cS l) o t=lE e.2 (X k (Xw (sw n e.1) (cS l))) o t+X k (R n m (cS l)) o t;rw[ih o p t];congr 1
  cases hf:nj e.1 k with
  | false=>
   show lE e.2 (Xw (sw n (Wd.ex e.1 k)) (cS l)) o t+0=_;rw[cM];exact nS e.2 (Vw he h0 h1 hf hl) o p t
  | true=>
   show lE e.2 (Xw (sw n (Wd.ex e.1 k)) (cS l)) o t+(cv (times Su.AF e.2) (Xw (sw n e.1) (cS l) o) t+0)=_;rw[cM,aaB];have d:=VE he h0 h1 hf hl;have x2:lG n (X k (Xw (sw n e.1) (cS l))) λo t=>Xw (sw n (Wd.ex e.1 k)) (cS l) o t+dl (Xw (sw n e.1) (cS l) o) t:=((ME d h0 h1).trans (X_X h0 h1 _)).trans λo p t=>by
    dsimp only;rw[show X k (Xw (sw n (Wd.ex e.1 k)) (cS l)) o=Xw (sw n e.1) (cS l) o from funext λt=>(d o p t).symm]
   rw[nS e.2 x2 o p t];show _=cv e.2 (λt=>Xw (sw n (Wd.ex e.1 k)) (cS l) o t+dl (Xw (sw n e.1) (cS l) o) t) t;rw[qm];rfl
def abW{n k:Nat}{l m:Ps}(h0:1<=k)(h1:k<n)(hl:∀x∈l,x.1.Perm (rg n))(hm:∀x∈m,x.1.Perm (rg n)):lG n (R n (Su.bx k m) (cS l)) (X k (R n m (cS l))):=by
 have:R n (Su.bx k m) (cS l)=R n (Su.MR k m) (cS l):=Gg n (λw s=>by
  unfold Su.bx;rw[Su.yE (Su.Gd.nil.adds _),Su.DW];show 0+_=_;rw[bY]) _
 rw[this];exact R_X h0 h1 hl hm
def zo{n k:Nat}{m:Ps}(h0:1<=k)(h1:k<n)(hm:∀x∈m,x.1.Perm (rg n)):∀x∈Su.bx k m,x.1.Perm (rg n):=Su.uT (P:=λo=>o.Perm (rg n)) (Su.sd (P:=λo=>o.Perm (rg n)) _ (nofun) λx hx=>by
 obtain⟨f,hf,hx⟩:=fS.mp hx
 rcases bw.mp hx with z|z
 ·rw[z];exact nM (hm f hf) h0 h1
 ·split at z
  ·rw[aP.mp z];exact hm f hf
  ·cases z)
noncomputable def bxw (w:am)(m:Ps):Ps:=w.foldl (λm k=>Su.bx k m) m
theorem Pg{n:Nat}:∀{w:am}{m:Ps},Va n w->(∀x∈m,x.1.Perm (rg n))->∀x∈bxw w m,x.1.Perm (rg n)
 | [],_,_,h=>h
 | k::w,m,v,h=>Pg (w:=w) (λj hj=>v j (aL _ hj)) (zo (v k (aJ ..)).1 (v k (aJ ..)).2 h)
def Fi(p q:Pl)(g:Int->Int)(t:Int):cv (times p q) g t=cv p (cv q g) t:=by
 have:cv (times p q) g t=cv (BZ p q) g t:=yv (λk=>Su.qz _ _ _) g t;rw[this];clear this
 induction p with
 | nil=>rfl
 | cons a p ih=>
  show cv ((q.map λb=>(a.1+b.1,a.2 * b.2))++BZ p q) g t=a.2 * cv q g (t-a.1)+cv p (cv q g) t;rw[Dp,ih];congr 1;clear ih
  induction q with
  | nil=>show(0:Int)=a.2 * 0;rw[gv]
  | cons b q ih2=>
   show a.2 * b.2 * g (t-(a.1+b.1))+cv (q.map _) g t=a.2 * (b.2 * g (t-a.1-b.1)+cv q g (t-a.1));rw[ih2,jA,Int.mul_assoc,show t-(a.1+b.1)=t-a.1-b.1 by lia]
noncomputable def Cd (p:Pl)(l:Ps):Ps:=l.map λx=>(x.1,times p x.2)
def BC(p:Pl)(l:Ps):cS (Cd p l)=lE p (cS l):=by
 funext o t
 induction l with
 | nil=>exact(oY p t).symm
 | cons e l ih=>
  show(if e.1=o then cf (times p e.2) t else 0)+cS (Cd p l) o t=cv p (λt=>(if e.1=o then cf e.2 t else 0)+cS l o t) t;rw[qm,ih];congr 1;by_cases c:e.1=o
  ·rw[aM c,aat,show(λt=>if e.1=o then cf e.2 t else 0)=cf e.2 from funext λt=>aM c]
  ·rw[aK c,show(λt=>if e.1=o then cf e.2 t else(0:Int))=λ_=>0 from funext λt=>aK c,oY]
def U4(n:Nat)(p:Pl)(l:Ps)(f:Fn):R n (Cd p l) f=lE p (R n l f):=by
 funext o t
 induction l with
 | nil=>exact(oY p t).symm
 | cons e l ih=>
  show cv (times p e.2) (Xw (sw n e.1) f o) t+R n (Cd p l) f o t=cv p (λt=>cv e.2 (Xw (sw n e.1) f o) t+R n l f o t) t;rw[qm,ih,Fi];rfl
def off{n:Nat}{m:Ps}(hm:∀x∈m,x.1.Perm (rg n)){o:ag}(h:¬o.Perm (rg n))(t:Int):cS m o t=0:=Su.J1 λe he z=>h (by rw[<- z];exact hm e he)
def Iq{n:Nat}{m m':Ps}(hm:∀x∈m,x.1.Perm (rg n))(hm':∀x∈m',x.1.Perm (rg n))(h:lG n (cS m) (cS m')):∀o t,cS m o t=cS m' o t:=λo t=>by
 by_cases c:o.Perm (rg n)
 ·exact h o c t
 ·rw[off hm c,off hm' c]
noncomputable def LO (n:Nat)(u:ag):am:=sw n (bk u)
def aaD(k:Nat)(f g:Fn):L k (add f g)=add (L k f) (L k g):=by
 funext o t
 unfold L add dl;dsimp only;split<;>lia
theorem RJ:∀(w:am) (f g:Fn),Lw w (add f g)=add (Lw w f) (Lw w g)
 | [],_,_=>rfl
 | k::w,f,g=>by
  show Lw w (L k (add f g))=_;rw[aaD,RJ w];rfl
def Xx(k:Nat)(p:Pl)(f:Fn):L k (lE p f)=lE p (L k f):=by
 funext o t
 show cv p (f (o.map (Wd.sw k))) t+(if nj (bk o) k=true then dl (cv p (f o)) t else 0)=cv p (λt=>f (o.map (Wd.sw k)) t+if nj (bk o) k=true then dl (f o) t else 0) t;rw[qm]
 cases nj (bk o) k with
 | true=>dsimp[cJ];rw[<- Nd]
 | false=>dsimp[bB,b9];rw[oY]
theorem Ku(p:Pl):∀(w:am) (f:Fn),Lw w (lE p f)=lE p (Lw w f)
 | [],_=>rfl
 | k::w,f=>by
  show Lw w (L k (lE p f))=_;rw[Xx,Ku p w];rfl
noncomputable def B (f:Fn):Fn:=λo=>f (bk o)
def B_X{n k:Nat}(h0:1<=k)(h1:k<n)(f:Fn):lG n (B (X k f)) (L k (B f)):=λo p t=>by
 show f (Wd.ex (bk o) k) t+(if nj (bk o) k=true then dl (f (bk o)) t else 0)=f (bk (o.map (Wd.sw k))) t+if nj (bk o) k=true then dl (f (bk o)) t else 0
 rw[VH p h0 h1]
theorem ZE{n:Nat}:∀{w:am}{f:Fn},Va n w->lG n (B (Xw w f)) (Lw w (B f))
 | [],_,_=>.refl
 | k::w,f,v=>by
  have v1:=v k (aJ ..);have v2:Va n w:=λj hj=>v j (aL _ hj)
  skip
  exact(ZE v2).trans (BE v2 (B_X v1.1 v1.2 f))
noncomputable def d0:Int->Int:=λt=>if t=0 then 1 else 0
def VT(p:Pl)(t:Int):cv p d0 t=cf p t:=by
 induction p with
 | nil=>rfl
 | cons q p ih=>
  show q.2 * (if t-q.1=0 then 1 else 0)+cv p d0 t=(if q.1=t then q.2 else 0)+cf p t;rw[ih];by_cases c:q.1=t
  ·rw[aM c,aM (),Int.mul_one]
  ·rw[aK c,aK (),gv]
def WH(u:ag)(p:Pl):D u (cf p)=lE p (D u d0):=by
 funext o t
 show(if o=u then cf p t else 0)=cv p (λt=>if o=u then d0 t else 0) t;by_cases c:o=u
 ·rw[aM c,show(λt=>if o=u then d0 t else 0)=d0 from funext λt=>aM c,VT]
 ·rw[aK c,show(λt=>if o=u then d0 t else(0:Int))=λ_=>0 from funext λt=>aK c,oY]
def abu{n:Nat}{u:ag}(hu:u.Perm (rg n))(g:Int->Int):Va n (LO n u)/\lG n (Lw (LO n u) (D (rg n) g)) (D u g):=by
 unfold LO;have pb:=o4 hu;obtain⟨h1,h2⟩:=qo pb;refine⟨BA pb,?_⟩;have h1':Wd.jZ (bk (rg n)) (sw n (bk u)):=by rw[K8];exact h1
 obtain⟨x,x1,x2,x3⟩:=Wv (g:=g) (nO n) h1';rw[K8,h2]at x2;have:x=u:=by rw[<- uH x1,x2,uH hu]
 rw[this]at x3;exact x3
def UB{n:Nat}{u w:ag}(hu:u.Perm (rg n))(hw:w.Perm (rg n))(p q:Pl):lG n (lE p (Lw (LO n u) (D w (cf q)))) (lE q (Xw (sw n w) (D u (cf p)))):=by
 obtain⟨v1,v2⟩:=abu hu d0;have vw:=BA hw;have xw:lG n (Xw (sw n w) (D (rg n) d0)) (D w d0):=by
  have:=SD (g:=d0) (nO n) (qo hw).1;rw[(qo hw).2]at this;exact this
 rw[WH,WH,Ku,IE];have a:lG n (Lw (LO n u) (D w d0)) (Xw (sw n w) (D u d0)):=(BE v1 xw.symm).trans ((QV vw v1).symm.trans (wA vw v2));refine(nS p (nS q a)).trans λo _ t=>?_;exact VC p q _ t
theorem V4(n:Nat)(f g:Fn):∀m:Ps,R n m (add f g)=add (R n m f) (R n m g)
 | []=>rfl
 | e::m=>by
  funext o t
  show lE e.2 (Xw (sw n e.1) (add f g)) o t+R n m (add f g) o t=(lE e.2 (Xw (sw n e.1) f) o t+R n m f o t)+(lE e.2 (Xw (sw n e.1) g) o t+R n m g o t);rw[V4 n f g m,DX];show cv e.2 (λt=>Xw (sw n e.1) f o t+Xw (sw n e.1) g o t) t+(R n m f o t+R n m g o t)=_;rw[qm];show _=(cv e.2 (Xw (sw n e.1) f o) t+_)+(cv e.2 (Xw (sw n e.1) g o) t+_);lia
theorem IJ:∀w:am,Lw w (λ_ _=>0)=λ_ _=>0
 | []=>rfl
 | k::w=>by
  have:L k (λ_ _=>0)=λ_ _=>0:=by
   funext o t
   unfold L dl;split<;>rfl
  show Lw w (L k _)=_;rw[this,IJ w]
theorem OY(n:Nat):∀m:Ps,R n m (λ_ _=>0)=λ_ _=>0
 | []=>rfl
 | e::m=>by
  funext o t
  show lE e.2 (Xw (sw n e.1) λ_ _=>0) o t+R n m (λ_ _=>0) o t=0;rw[OY n m,zM];show cv e.2 (λ_=>0) t+0=0;rw[oY];rfl
theorem J8{n:Nat}{u:ag}(hu:u.Perm (rg n))(p:Pl):∀{m:Ps},(∀x∈m,x.1.Perm (rg n))->lG n (lE p (Lw (LO n u) (cS m))) (R n m (D u (cf p)))
 | [],_=>λo _ t=>by
  show cv p (Lw (LO n u) (λ_ _=>0) o) t=0;rw[IJ];exact oY p t
 | e::m,hm=>λo po t=>by
  rw[xN,RJ];show cv p (λt=>Lw (LO n u) (D e.1 (cf e.2)) o t+Lw (LO n u) (cS m) o t) t=lE e.2 (Xw (sw n e.1) (D u (cf p))) o t+R n m (D u (cf p)) o t;rw[qm,<- J8 hu p (λx hx=>hm x (aL _ hx)) o po t,<- UB hu (hm e (aJ ..)) p e.2 o po t];rfl
noncomputable def RL (n:Nat):Ps->Fn->Fn
 | [],_=>λ_ _=>0
 | e::l,f=>add (lE e.2 (Lw (LO n e.1) f)) (RL n l f)
theorem ZT{n:Nat}{m:Ps}(hm:∀x∈m,x.1.Perm (rg n)):∀{l:Ps},(∀x∈l,x.1.Perm (rg n))->lG n (RL n l (cS m)) (R n m (cS l))
 | [],_=>by
  have z:cS []=λ_ _=>0:=rfl;rw[z,OY];exact .refl
 | e::l,hl=>λo p t=>by
  rw[xN,V4];show lE e.2 (Lw (LO n e.1) (cS m)) o t+RL n l (cS m) o t=R n m (D e.1 (cf e.2)) o t+R n m (cS l) o t;rw[ZT hm (λx hx=>hl x (aL _ hx)) o p t,J8 (hl e (aJ ..)) e.2 hm o p t]
noncomputable def wb (l:Ps):Ps:=l.map λe=>(bk e.1,e.2)
theorem F9{n:Nat}{o:ag}(po:o.Perm (rg n))(t:Int):∀{l:Ps},(∀x∈l,x.1.Perm (rg n))->cS (wb l) o t=cS l (bk o) t
 | [],_=>rfl
 | e::l,hl=>by
  show(if bk e.1=o then cf e.2 t else 0)+cS (wb l) o t=(if e.1=bk o then cf e.2 t else 0)+cS l (bk o) t;rw[F9 po t λx hx=>hl x (aL _ hx)];have he:=hl e (aJ ..);congr 1;by_cases c:bk e.1=o
  ·rw[aM c,aM (by rw[<- c,uH he])]
  ·rw[aK c,aK (λz=>c (by rw[z,uH po]))]
def Tr{n:Nat}{m:Ps}(hm:∀x∈m,x.1.Perm (rg n)){l:Ps}(hl:∀x∈l,x.1.Perm (rg n)):lG n (B (R n (wb l) (cS (wb m)))) (R n m (cS l)):=by
 have bm:lG n (B (cS (wb m))) (cS m):=λo p t=>by
  show cS (wb m) (bk o) t=_;rw[F9 (o4 p) t hm,uH p]
 have key:∀{l:Ps},(∀x∈l,x.1.Perm (rg n))->lG n (B (R n (wb l) (cS (wb m)))) (RL n l (cS m)):=by
  intro l
  induction l with
  | nil=>intro _;exact .refl
  | cons e l ih=>
   intro hl o p t;have he:=hl e (aJ ..);show cv e.2 (Xw (sw n (bk e.1)) (cS (wb m)) (bk o)) t+R n (wb l) (cS (wb m)) (bk o) t=lE e.2 (Lw (LO n e.1) (cS m)) o t+RL n l (cS m) o t;have i:=ih (λx hx=>hl x (aL _ hx)) o p t;have i':R n (wb l) (cS (wb m)) (bk o) t=RL n l (cS m) o t:=i;rw[i'];congr 1;have v:=BA (o4 he);exact nS e.2 ((ZE v).trans (BE v bm)) o p t
 exact(key hl).trans (ZT hm hl)
end He
namespace He
open PySem L2 Am Po
open Fw (Two rg Ba)
open Su (nj Ps cS Gd vS toS adds bx)
def Oc{D:Ps}(h:Gd D){e:ag×Pl}(he:e∈D):vS D e.1=e.2:=by
 rcases Su.wG (D:=D) (o:=e.1)with⟨e',h1,h2,h3⟩|⟨h1,_⟩
 ·rw[h3,C9 h.nd e' h1 e he h2]
 ·exact absurd (fN he) h1
def Gp{D:Ps}(h:Gd D):(D.map Prod.fst).map (λk=>(k,vS D k))=D:=by
 rw[bq]
 conv=>rhs;rw[<- jB D]
 exact cL λe he=>by
  show(e.1,vS D e.1)=e;rw[Oc h he]
def Bq{D:Ps}(h:Gd D)(o:ag)(t:Int):cS D o t=cf (vS D o) t:=by
 conv=>lhs;rw[<- Gp h]
 rw[Su.Hj h.nd];split
 ·rfl
 ·rename_i c
  rcases Su.wG (D:=D) (o:=o)with⟨e,h1,h2,_⟩|⟨_,h2⟩
  ·exact absurd (h2 ▸ fN h1) c
  ·rw[h2];rfl
def HD{D:Ps}(h:Gd D):Gd (toS D):=by
 refine⟨?_,λe he=>?_⟩
 ·unfold toS;rw[bq,show(Prod.fst ∘ λo=>(o,vS D o))=id from rfl,jB];exact((ko _).nodup_iff.mpr h.nd).filter _
 ·obtain⟨o,_,rfl⟩:=bA.mp he;exact h.v o
structure Cn (l:Ps):Prop where
 gd:Gd l
 eq:toS l=l
theorem Cn.toS{D:Ps}(h:Gd D):Cn (toS D):=⟨HD h,Su.GR (HD h) h λo t=>by rw[<- Bq (HD h),Su.yE h]⟩
def Cn.uniq{l:Ps}(h:Cn l)(h':Cn m)(e:∀o t,cS l o t=cS m o t):l=m:=by
 rw[<- h.eq,<- h'.eq];exact Su.GR h.gd h'.gd λo t=>by rw[<- Bq h.gd,<- Bq h'.gd,e]
def Cn.nil:Cn []:=⟨Gd.nil,rfl⟩
def Cn.ne{l:Ps}(h:Cn l){e:ag×Pl}(he:e∈l):e.2≠[]:=by
 rw[<- h.eq]at he;obtain⟨o,ho,rfl⟩:=bA.mp he;have:=(cN.mp ho).2;intro z;have z:vS l o=[]:=z;rw[z]at this
 cases this
def Gx{P:Ps}(h:Gd P)(hn:∀e∈P,e.2≠[]):nI P=toS P:=by
 symm
 have all:(mQ (P.map Prod.fst)).filter (λo=>!(vS P o).isEmpty)=mQ (P.map Prod.fst):=by
  rw[gB];intro o ho;obtain⟨e,he,rfl⟩:=bA.mp ((ko _).mem_iff.mp ho);rw[Oc h he]
  cases e':e.2 with
  | nil=>exact absurd e' (hn e he)
  | cons=>rfl
 have ts:toS P=(mQ (P.map Prod.fst)).map λo=>(o,vS P o):=by unfold toS;rw[all]
 refine BK h.nd ?_ ?_
 ·rw[ts];have:=(ko (P.map Prod.fst)).map λo=>(o,vS P o)
  rwa [Gp h]at this
 ·rw[ts,bq,show(Prod.fst ∘ λo=>(o,vS P o))=id from rfl,jB];exact sF _
def Yj(l:Ps):(wb l).map Prod.fst=(l.map Prod.fst).map bk:=by
 unfold wb;rw[bq,bq];rfl
theorem BG{n:Nat}:∀{ks:List (ag)},(∀o∈ks,o.Perm (rg n))->ks.Nodup->(ks.map bk).Nodup
 | [],_,_=>dM
 | o::ks,hp,nd=>by
  obtain⟨h1,h2⟩:=cO.mp nd;refine cO.mpr ⟨λz=>?_,BG (λo ho=>hp o (aL _ ho)) h2⟩;obtain⟨u,hu,e⟩:=bA.mp z;have:=dB bk e;rw[uH (hp u (aL _ hu)),uH (hp o (aJ ..))]at this;exact h1 (this ▸ hu)
def JT{n:Nat}{l:Ps}(h:Gd l)(hl:∀x∈l,x.1.Perm (rg n)):Gd (wb l):=by
 refine⟨?_,λe he=>?_⟩
 ·rw[Yj];exact BG (λo ho=>by obtain⟨e,he,rfl⟩:=bA.mp ho;exact hl e he) h.nd
 ·obtain⟨x,hx,rfl⟩:=bA.mp he;exact h.ok x hx
def Z6{n:Nat}{l:Ps}(hl:∀x∈l,x.1.Perm (rg n)):∀x∈wb l,x.1.Perm (rg n):=λx hx=>by
 obtain⟨y,hy,rfl⟩:=bA.mp hx;exact o4 (hl y hy)
noncomputable def G8 (l:Ps):Ps:=nI (wb l)
def RE{n:Nat}{l:Ps}(h:Cn l)(hl:∀x∈l,x.1.Perm (rg n)):G8 l=toS (wb l):=Gx (JT h.gd hl) λe he=>by
 obtain⟨x,hx,z⟩:=bA.mp he;rw[<- z];exact h.ne (e:=x) hx
def HQ{n:Nat}{l:Ps}(h:Cn l)(hl:∀x∈l,x.1.Perm (rg n)):Cn (G8 l):=by
 rw[RE h hl];exact .toS (JT h.gd hl)
def EK{n:Nat}{l:Ps}(hl:∀x∈l,x.1.Perm (rg n)):∀x∈G8 l,x.1.Perm (rg n):=λx hx=>Z6 hl x ((qt _).mem_iff.mp hx)
def Bc{n:Nat}{l:Ps}(h:Cn l)(hl:∀x∈l,x.1.Perm (rg n))(o:ag)(t:Int):cS (G8 l) o t=cS (wb l) o t:=by
 rw[RE h hl,Su.yE (JT h.gd hl),Bq (JT h.gd hl)]
noncomputable def ff (o:ag):Option Nat:=((List.range (o.length-1)).find? λi=>nj o (i+1)).map (·+1)
def C_{o:ag}{k:Nat}(h:ff o=some k):1<=k/\k<o.length/\nj o k=true:=by
 obtain⟨i,hi,rfl⟩:=aX.mp h;have h1:=cQ.mp (gz hi);have h2:nj o (i+1)=true:=iR (p:=λi=>nj o (i+1)) hi;exact⟨(),(),h2⟩
def SV{o:ag}(h:ff o=none):∀k,1<=k->k<o.length->nj o k=false:=λk h1 h2=>by
 have h:=Option.map_eq_none_iff.mp h;have:=gO.mp h (k-1) (cQ.mpr ());rw[Nat.sub_add_cancel h1]at this;simpa using this
noncomputable def V7:Nat->Ps->ag->Ps
 | 0,l,_=>l
 | m+1,l,o=>match ff o with
  | none=>l
  | some k=>bx k (V7 m l (Wd.ex o k))
def V9(k:Nat)(l:Ps):Cn (bx k l):=.toS (Gd.nil.adds _)
theorem PV{n:Nat}{l:Ps}(hc:Cn l)(hl:∀x∈l,x.1.Perm (rg n)):∀(m:Nat) {o:ag},o.Perm (rg n)->Iv.inv o=m->Cn (V7 m l o)/\(∀x∈V7 m l o,x.1.Perm (rg n))/\lG n (cS (V7 m l o)) (Xw (sw n o) (cS l))
 | 0,o,po,hm=>by
  refine⟨hc,hl,?_⟩;have e:o=rg n:=Fw.K_ po λk hk=>by
   have:=Fw.oK hk.1 hk.2.1 hk.2.2;lia
  obtain⟨a1,a2⟩:=qo po;have:=zf a1 (show Wd.jZ (rg n) []from trivial) (a2.trans e) hl;exact this.symm
 | m+1,o,po,hm=>by
  have lo:o.length=n:=by rw[po.length_eq,Wd.jV]
  unfold V7
  cases hf:ff o with
  | none=>
   obtain⟨k,hk⟩:=Fw.KY (l:=o) ();have:=SV hf k hk.1 hk.2.1;have:=c8 this;exact absurd hk.2.2 ()
  | some k=>
   obtain⟨h1,h2,h3⟩:=C_ hf;have hk:=bV h3;have hd:=Fw.oK h1 h2 ();rw[lo]at h2;obtain⟨_,i2,i3⟩:=PV hc hl m (nM po h1 h2) ();exact⟨V9 _ _,zo h1 h2 i2,(Sd i2 h1 h2).trans ((ME i3 h1 h2).trans (VE po h1 h2 h3 hl).symm)⟩
noncomputable def bo (l:Ps)(o:ag):Ps:=V7 (Iv.inv o) l o
def Kc{n:Nat}{l:Ps}(hc:Cn l)(hl:∀x∈l,x.1.Perm (rg n)){o:ag}(po:o.Perm (rg n)):Cn (bo l o)/\(∀x∈bo l o,x.1.Perm (rg n))/\lG n (cS (bo l o)) (Xw (sw n o) (cS l)):=PV hc hl _ po rfl
def Fl{l:Ps}(h:ff o=none):bo l o=l:=by
 unfold bo
 cases Iv.inv o with
 | zero=>rfl
 | succ m=>unfold V7;rw[h]
def Sf{l:Ps}{k:Nat}(h:ff o=some k):bo l o=bx k (bo l (Wd.ex o k)):=by
 obtain⟨h1,h2,h3⟩:=C_ h;have hk:=bV h3;have hd:=Fw.oK h1 h2 ();unfold bo;rw[show Iv.inv o=Iv.inv (Wd.ex o k)+1 from by lia]
 conv=>lhs;unfold V7
 rw[h]
noncomputable def yw (l m:Ps):Ps:=m.flatMap λe=>Cd e.2 (bo l e.1)
noncomputable def UI (l m:Ps):Ps:=toS (adds [] (yw l m))
def Jq{n:Nat}{l m:Ps}(hc:Cn l)(hl:∀x∈l,x.1.Perm (rg n))(hm:∀x∈m,x.1.Perm (rg n)):∀x∈yw l m,x.1.Perm (rg n):=λx hx=>by
 obtain⟨e,he,hx⟩:=fS.mp hx;obtain⟨y,hy,rfl⟩:=bA.mp hx;exact(Kc hc hl (hm e he)).2.1 y hy
theorem HU{n:Nat}{l:Ps}(hc:Cn l)(hl:∀x∈l,x.1.Perm (rg n)):∀{m:Ps},(∀x∈m,x.1.Perm (rg n))->lG n (cS (yw l m)) (R n m (cS l))
 | [],_=>.refl
 | e::m,hm=>λo p t=>by
  show cS (Cd e.2 (bo l e.1)++yw l m) o t=cv e.2 (Xw (sw n e.1) (cS l) o) t+R n m (cS l) o t;rw[Su.wZ,BC,HU hc hl (λx hx=>hm x (aL _ hx)) o p t];congr 1;exact nS e.2 (Kc hc hl (hm e (aJ ..))).2.2 o p t
def vY(l:Ps)(o:ag)(t:Int):cS (toS (adds [] l)) o t=cS l o t:=by
 rw[Su.yE (Gd.nil.adds _),Su.DW];exact bY _
def HX{n:Nat}{l m:Ps}(hc:Cn l)(hl:∀x∈l,x.1.Perm (rg n))(hm:∀x∈m,x.1.Perm (rg n)):Cn (UI l m)/\(∀x∈UI l m,x.1.Perm (rg n))/\lG n (cS (UI l m)) (R n m (cS l)):=
 ⟨.toS (Gd.nil.adds _),Su.uT (P:=λo=>o.Perm (rg n)) (Su.sd (P:=λo=>o.Perm (rg n)) _ (nofun) (Jq hc hl hm)),λo p t=>by
  show cS (toS (adds [] (yw l m))) o t=_;rw[vY];exact HU hc hl hm o p t⟩
noncomputable def prod (l m:Ps):Ps:=if m.length<=l.length then UI l m else G8 (UI (G8 m) (G8 l))
def xZ{n:Nat}{l m:Ps}(hc:Cn l)(hd:Cn m)(hl:∀x∈l,x.1.Perm (rg n))(hm:∀x∈m,x.1.Perm (rg n)):Cn (prod l m)/\(∀x∈prod l m,x.1.Perm (rg n))/\lG n (cS (prod l m)) (R n m (cS l)):=by
 unfold prod;by_cases c:m.length<=l.length
 ·rw[aM c];exact HX hc hl hm
 ·rw[aK c];obtain⟨h1,h2,h3⟩:=HX (HQ hd hm) (EK hm) (EK hl);refine⟨HQ h1 h2,EK h2,λo p t=>?_⟩;rw[Bc h1 h2,F9 p t h2,h3 _ (o4 p) t];rw[Gg n (λo t=>Bc hc hl o t)];rw[show cS (G8 m)=cS (wb m)from funext λo=>funext λt=>Bc hd hm o t];exact Tr hm hl o p t
def xB{n:Nat}{a b:Ps}(ha:Cn a)(hb:Cn b)(pa:∀x∈a,x.1.Perm (rg n))(pb:∀x∈b,x.1.Perm (rg n))(h:lG n (cS a) (cS b)):a=b:=ha.uniq hb (Iq pa pb h)
noncomputable def zx (l m:Ps):Ps:=toS (adds [] (l++m))
def vK{n:Nat}{l m:Ps}(pl:∀x∈l,x.1.Perm (rg n))(pm:∀x∈m,x.1.Perm (rg n)):Cn (zx l m)/\(∀x∈zx l m,x.1.Perm (rg n))/\cS (zx l m)=add (cS l) (cS m):=
 ⟨.toS (Gd.nil.adds _),Su.uT (P:=λo=>o.Perm (rg n)) (Su.sd (P:=λo=>o.Perm (rg n)) _ (nofun) λx hx=>(bE.mp hx).elim (pl x) (pm x)),funext λo=>funext λt=>by
  show cS (toS (adds [] (l++m))) o t=_;rw[vY,Su.wZ];rfl⟩
def Z5{n:Nat}{l m:Ps}(pl:∀x∈l,x.1.Perm (rg n))(pm:∀x∈m,x.1.Perm (rg n))(f:Fn):R n (zx l m) f=add (R n l f) (R n m f):=by
 rw[<- OJ];refine Gg n (λo t=>?_) f;rw[(vK pl pm).2.2,Su.wZ];rfl
noncomputable def one (n:Nat):Ps:=[(rg n,[((0:Int),(1:Int))])]
def OH(o:ag){p:Pl}(hp:Ok p)(h0:p≠[]):Cn [(o,p)]:=by
 have g:Gd [(o,p)]:=⟨cO.mpr ⟨(λz=>nomatch z),dM⟩,λe he=>by rw[aP.mp he];exact hp⟩;exact⟨g,(Gx g λe he=>by rw[aP.mp he];exact h0).symm⟩
def WE:Ok [((0:Int),(1:Int))]:=⟨bW _ _,λp hp=>by rw[aP.mp hp];decide⟩
def BO(n:Nat):∀x∈one n,x.1.Perm (rg n):=λx hx=>by rw[aP.mp hx]
def Hz(g:Int->Int)(t:Int):cv [((0:Int),(1:Int))] g t=g t:=by
 show 1 * g (t-0)+0=_;rw[Int.sub_zero];lia
def aai{n:Nat}{l:Ps}(pl:∀x∈l,x.1.Perm (rg n)):lG n (R n (one n) (cS l)) (cS l):=λo p t=>by
 show cv [((0:Int),(1:Int))] (Xw (sw n (rg n)) (cS l) o) t+0=_;rw[Hz,cM];obtain⟨a1,a2⟩:=qo (nO n);exact zf a1 (show Wd.jZ (rg n) []from trivial) a2 pl o p t
end He
namespace He
open PySem L2 Am Po
open Fw (Two rg Ba)
open Su (nj Ps cS Gd vS toS adds bx)
noncomputable def arr:Nat->ag->List (ag)
 | 0,_=>[[]]
 | m+1,l=>l.flatMap λx=>(arr m (l.erase x)).map (x::·)
theorem KZ:∀{m:Nat}{l o:ag},o.Perm l->l.length=m->o∈arr m l
 | 0,l,o,p,h=>by
  have:l=[]:=fQ.mp h;subst this;rw[p.eq_nil];exact aP.mpr rfl
 | m+1,l,[],p,h=>by rw[<- p.length_eq]at h;cases h
 | m+1,l,x::o,p,h=>by
  obtain⟨h1,h2⟩:=List.cons_perm_iff_perm_erase.mp p;refine fS.mpr ⟨x,h1,bA.mpr ⟨o,KZ h2 ?_,rfl⟩⟩;rw[List.length_erase_of_mem h1,h];rfl
def Ml{α:Type}[DecidableEq α]{ks L:List α}(nd:ks.Nodup)(h:∀x∈ks,x∈L):ks.length<=L.length:=by
 have:=pig L.length (ks.map λx=>L.idxOf x) ?_ λi hi=>?_
 ·rwa [aH]at this
 ·refine cI.mpr (nd.imp_of_mem λ{a b} ha hb hab z=>hab ?_);have e1:=jb (fJ.mpr (h a ha));have e2:=jb (fJ.mpr (h b hb));rw[<- e1,<- e2];congr 1
 ·obtain⟨x,hx,rfl⟩:=bA.mp hi;exact fJ.mpr (h x hx)
def TM:∀n,n<6->(arr n (rg n)).length<=120:=by decide +kernel
def many{n:Nat}(hn:n<6){ks:List (ag)}(nd:ks.Nodup)(h:∀o∈ks,o.Perm (rg n)):ks.length<=120:=
 bI (Ml nd λo ho=>KZ (h o ho) (Wd.jV n)) (TM n hn)
structure FB (n P C:Nat)(f:Fn):Prop where
 c:∀o,o.Perm (rg n)->∀t,(f o t).natAbs<=C
 p:∀o,o.Perm (rg n)->∀t:Int,P<t.natAbs->f o t=0
def FB.mono{n P:Nat}{f:Fn}(h:FB n P C f)(hp:P<=P')(hc:C<=C'):FB n P' C' f:=⟨λo po t=>bI (h.c o po t) hc,λo po t ht=>h.p o po t ()⟩
def FB.eq{n P:Nat}{f g:Fn}(h:FB n P C f)(e:lG n g f):FB n P C g:=⟨λo po t=>by rw[e o po t];exact h.c o po t,λo po t ht=>by rw[e o po t];exact h.p o po t ht⟩
theorem FB.X{n P k:Nat}{f:Fn}(h:FB n P C f)(h0:1<=k)(h1:k<n):FB n (P+1) (3 * C) (X k f):=by
 refine⟨λo po t=>?_,λo po t ht=>?_⟩
 ·have a:=h.c _ (nM po h0 h1) t;have b:=h.c o po (t+1);have d:=h.c o po (t-1);unfold He.X dl;split<;>lia
 ·have a:=h.p _ (nM po h0 h1) t ();have b:=h.p o po (t+1) ();have d:=h.p o po (t-1) ();unfold He.X dl;split<;>lia
theorem FB.Xw{n:Nat}:∀{w:am}{P C:Nat}{f:Fn},FB n P C f->Va n w->FB n (P+w.length) (3 ^ w.length * C) (Xw w f)
 | [],P,C,f,h,_=>by
  show FB n (P+0) (1 * C) f;rw[add_zero,eF];exact h
 | k::w,P,C,f,h,v=>by
  have v1:=v k (aJ ..);have:=FB.Xw (h.X v1.1 v1.2) (w:=w) λj hj=>v j (aL _ hj);show FB n (P+(w.length+1)) (3 ^ (w.length+1) * C) (He.Xw w (He.X k f));rw[show P+(w.length+1)=P+1+w.length by lia,Nat.pow_succ,Nat.mul_assoc];exact this
theorem FB.add{n P:Nat}{f g:Fn}(h:FB n P C f)(h':FB n P C' g):FB n P (C+C') (add f g):=by
 refine⟨λo po t=>?_,λo po t ht=>?_⟩
 ·have a:=h.c o po t;have b:=h'.c o po t;show(f o t+g o t).natAbs<=_;lia
 ·show f o t+g o t=0;rw[h.p o po t ht,h'.p o po t ht];rfl
structure PB (Q c:Nat)(p:Pl):Prop where
 c:∀q∈p,q.2.natAbs<=c
 p:∀q∈p,q.1.natAbs<=Q
theorem WK{n P c:Nat}{f:Fn}(h:FB n P C f){o:ag}(po:o.Perm (rg n)):∀{p:Pl},PB Q c p->(∀t,(cv p (f o) t).natAbs<=p.length * (c * C))/\∀t:Int,P+Q<t.natAbs->cv p (f o) t=0
 | [],_=>⟨λ_=>bL _,λ_ _=>rfl⟩
 | q::p,b=>by
  obtain⟨i1,i2⟩:=WK h po (p:=p) ⟨λx hx=>b.c x (aL _ hx),λx hx=>b.p x (aL _ hx)⟩;have q1:=b.c q (aJ ..);have q2:=b.p q (aJ ..);refine⟨λt=>?_,λt ht=>?_⟩
  ·show(q.2 * f o (t-q.1)+cv p (f o) t).natAbs<=(p.length+1) * (c * C);refine bI (Int.natAbs_add_le _ _) ?_;rw[Int.natAbs_mul,eB,jt];exact Nat.add_le_add (i1 t) (dY q1 (h.c o po _))
  ·show q.2 * f o (t-q.1)+cv p (f o) t=0;rw[i2 t ht,h.p o po _ (),gv];rfl
theorem FB.lE{n P c:Nat}{f:Fn}(h:FB n P C f){p:Pl}(b:PB Q c p):FB n (P+Q) (p.length * (c * C)) (lE p f):=⟨λo po t=>(WK h po b).1 t,λo po t ht=>(WK h po b).2 t ht⟩
theorem qp:∀{w:am}{l:ag},Wd.jZ l w->Iv.inv (Wd.led l w)=Iv.inv l+w.length
 | [],_,_=>rfl
 | k::w,l,h=>by
  have:=qp h.2.2.2;rw[Fw.G7 h.1 h.2.1 h.2.2.1]at this;show Iv.inv (Wd.led (Wd.ex l k) w)=_+(w.length+1);lia
def Br{n:Nat}{o:ag}(h:o.Perm (rg n)):(sw n o).length=Iv.inv o:=by
 obtain⟨a,b⟩:=qo h;have:=qp a;rw[b,Fw.wV]at this;lia
def BJ{n:Nat}(hn:n<6){o:ag}(h:o.Perm (rg n)):Iv.inv o<=25:=by
 have:=Iv.Ir o;rw[h.length_eq,Wd.jV]at this;exact bI this (dY (show n<=5 by lia) (show n<=5 by lia))
def FB.zero(n P C:Nat):FB n P C λ_ _=>0:=⟨λ_ _ _=>bL _,λ_ _ _ _=>rfl⟩
theorem FB.R{n P c K:Nat}(hn:n<6){f:Fn}(h:FB n P C f):∀{m:Ps},(∀x∈m,x.1.Perm (rg n))->(∀x∈m,PB Q c x.2/\x.2.length<=K)->FB n (P+25+Q) (m.length * (K * (c * (3 ^ 25 * C)))) (R n m f)
 | [],_,_=>FB.zero ..
 | e::m,hm,hb=>by
  have he:=hm e (aJ ..);obtain⟨b1,b2⟩:=hb e (aJ ..);have i:=FB.R hn h (m:=m) (λx hx=>hm x (aL _ hx)) λx hx=>hb x (aL _ hx);have l25:(sw n e.1).length<=25:=by rw[Br he];exact BJ hn he
  have a:=(h.Xw (BA he)).mono (P':=P+25) (C':=3 ^ 25 * C) () (bN _ (iN ⋯ l25));have b:=(a.lE b1).mono (P':=P+25+Q) (C':=K * (c * (3 ^ 25 * C))) (aO _) (bN _ b2);have d:=b.add i;show FB n _ ((m.length+1) * _) (He.add _ _);rw[eB,jt (m.length * _)];exact d
theorem Oq:∀{l:Pl}{a b:Int},l.Pairwise (λp q=>p.1<q.1)->(∀p∈l,a<=p.1/\p.1<=b)->l.length<=(b-a+1).toNat
 | [],_,_,_,_=>bL _
 | p::l,a,b,h,hb=>by
  obtain⟨h1,h2⟩:=bM.mp h;have p1:=hb p (aJ ..);have i:=Oq (l:=l) (a:=a+1) (b:=b) h2 λq hq=>by
   have:=h1 q hq;have:=hb q (aL _ hq);lia
  rw[bg];lia
def P7{p:Pl}{P c:Nat}(h:Ok p)(b:PB P c p):p.length<=2 * P+1:=by
 have:=Oq (a:=-(P:Int)) (b:=P) h.up λq hq=>by have:=b.p q hq;lia
 lia
def FB.pb{n P:Nat}{l:Ps}(h:FB n P C (cS l))(hc:Gd l)(pl:∀x∈l,x.1.Perm (rg n)){e:ag×Pl}(he:e∈l):PB P C e.2/\e.2.length<=2 * P+1:=by
 have ok:=hc.ok e he;have at_:∀q∈e.2,cS l e.1 q.1=q.2:=λq hq=>by
  rw[Bq hc,Oc hc he];exact Su.Ok.Ie ok hq
 have b:PB P C e.2:=⟨λq hq=>by rw[<- at_ q hq];exact h.c _ (pl e he) _,λq hq=>by
  refine iF λz=>ok.nz q hq ?_;rw[<- at_ q hq];exact h.p _ (pl e he) _ z⟩
 exact⟨b,P7 ok b⟩
structure Sz (n P C:Nat)(l:Ps):Prop where
 cn:Cn l
 pm:∀x∈l,x.1.Perm (rg n)
 fb:FB n P C (cS l)
def Sz.pb{n P:Nat}{l:Ps}(h:Sz n P C l){e:ag×Pl}(he:e∈l):PB P C e.2/\e.2.length<=2 * P+1:=h.fb.pb h.cn.gd h.pm he
def Sz.many{n P:Nat}{l:Ps}(hn:n<6)(h:Sz n P C l):l.length<=120:=by
 have:=He.many hn h.cn.gd.nd λo ho=>by obtain⟨e,he,rfl⟩:=bA.mp ho;exact h.pm e he
 rwa [aH]at this
def Sz.mono{n P:Nat}{l:Ps}(h:Sz n P C l)(hp:P<=P')(hc:C<=C'):Sz n P' C' l:=⟨h.cn,h.pm,h.fb.mono hp hc⟩
theorem Sz.bx{n P k:Nat}{l:Ps}(h:Sz n P C l)(h0:1<=k)(h1:k<n):Sz n (P+1) (3 * C) (bx k l):=⟨V9 _ _,zo h0 h1 h.pm,(h.fb.X h0 h1).eq (Sd h.pm h0 h1)⟩
theorem Sz.bo{n P:Nat}(hn:n<6){l:Ps}(h:Sz n P C l){o:ag}(po:o.Perm (rg n)):Sz n (P+25) (3 ^ 25 * C) (bo l o):=by
 obtain⟨h1,h2,h3⟩:=Kc h.cn h.pm po;have l25:(sw n o).length<=25:=by rw[Br po];exact BJ hn po
 exact⟨h1,h2,((h.fb.Xw (BA po)).mono () (bN _ (iN ⋯ l25))).eq h3⟩
theorem Sz.G8{n P:Nat}{l:Ps}(h:Sz n P C l):Sz n P C (G8 l):=⟨HQ h.cn h.pm,EK h.pm,⟨λo po t=>by rw[Bc h.cn h.pm,F9 po t h.pm];exact h.fb.c _ (o4 po) t,λo po t ht=>by rw[Bc h.cn h.pm,F9 po t h.pm];exact h.fb.p _ (o4 po) t ht⟩⟩
theorem Sz.R{n P c:Nat}(hn:n<6){l:Ps}(h:Sz n P C l)(h':Sz n Q c m):FB n (P+25+Q) (120 * ((2 * Q+1) * (c * (3 ^ 25 * C)))) (R n m (cS l)):=(FB.R hn h.fb h'.pm λx hx=>h'.pb hx).mono (aO _) (bN _ (h'.many hn))
theorem Sz.UI{n P c:Nat}(hn:n<6){l:Ps}(h:Sz n P C l)(h':Sz n Q c m):Sz n (P+25+Q) (120 * ((2 * Q+1) * (c * (3 ^ 25 * C)))) (UI l m):=by
 obtain⟨a,b,d⟩:=HX h.cn h.pm h'.pm;exact⟨a,b,(Sz.R hn h h').eq d⟩
theorem Sz.prod{n P c:Nat}(hn:n<6){l:Ps}(h:Sz n P C l)(h':Sz n Q c m):Sz n (P+25+Q) (120 * ((2 * Q+1) * (c * (3 ^ 25 * C)))) (prod l m):=by
 obtain⟨a,b,d⟩:=xZ h.cn h'.cn h.pm h'.pm;exact⟨a,b,(Sz.R hn h h').eq d⟩
def Sz.sum{n P c:Nat}{l:Ps}(h:Sz n P C l)(h':Sz n P c m):Sz n P (C+c) (zx l m):=by
 obtain⟨a,b,d⟩:=vK h.pm h'.pm;exact⟨a,b,by rw[d];exact h.fb.add h'.fb⟩
end He
namespace Am
theorem FY{α β:Type}(f:α->β)(x:ag×α):∀l:List (ag×α),BV (x.1,f x.2) (l.map λe=>(e.1,f e.2))=(BV x l).map λe=>(e.1,f e.2)
 | []=>rfl
 | y::l=>by
  rw[bD];unfold BV;by_cases h:HT.lexLt y.1 x.1=true
  ·rw[aM h,aM h,bD,FY]
  ·rw[aK h,aK h];rfl
theorem zg{α β:Type}(f:α->β):∀l:List (ag×α),nI (l.map λe=>(e.1,f e.2))=(nI l).map λe=>(e.1,f e.2)
 | []=>rfl
 | x::l=>by
  rw[bD];show BV _ (nI _)=_;rw[zg f l];exact FY f x (nI l)
end Am
namespace Su
open Am Po PySem L2
def MD{es:Es}{n:Nat}{src:Ic}{ex:Ex}(hs:src τ S=.ok (lA n (es.map ent).length) S)(hx:jG S n=some (es.map ent))(f:En->A)
  (step:∀e∈es,∀T,lC S T->∃T',ex (.tup (e.1.map .int)::.ref e.2.1::lN cap τ) T=.ok (f e) T'/\lC T T') (hl:es.length<=16777216) :
  ∃S',kZ (none::none::cap) src RU qN ex τ S=.ok (.ref S'.length) (S'++[.lst (es.map f)])/\lC S S':=by
 have hk:(es.map ent).length=es.length:=aH ..;obtain⟨ys,S',h1,k1,rfl⟩:=BD (s:=lA n (es.map ent).length) (g:=RU) (e:=ex) (T:=λτ'=>∃y z,τ'=y::z::lN cap τ) (λi acc T=>lC S T/\acc=(es.take i).map f)
  (λi acc τ' T hi ⟨y,z,hy⟩ hP=>by
   have hi:i<(es.map ent).length:=hi;obtain⟨kT,rfl⟩:=hP;subst hy;have he:es[i]?=some es[i]:=aF ();obtain⟨T',e1,e4⟩:=step es[i] (aW he) T kT;refine⟨ent es[i],.tup (es[i].1.map .int)::.ref es[i].2.1::lN cap τ,T,_,T',?_,rfl,⟨_,_,rfl⟩,e1,kT.trans e4,?_⟩
   ·show(jG T n).bind _=_;rw[kT.lst _ _ (λz=>z) hx,dg,aQ,he];rfl
   ·rw[c5,he,bO];rfl) (λacc T hP=>by
   show(match jG T n with
    | some ys=>decide (ys.length<=(es.map ent).length)
    | none=>false)=true
   rw[hP.1.lst _ _ (λz=>z) hx];simp) (es.map ent).length 0 [] (lN (none::none::cap) τ) S rfl ⟨_,_,rfl⟩ ⟨Kp.refl,by rw[eT];rfl⟩
 rw[show(lA n (es.map ent).length).k=es.length from hk,dc]at h1;refine⟨S',?_,k1⟩;unfold kZ;rw[hs,R.oZ];show(nE (lA n (es.map ent).length) RU qN ex (es.map ent).length 0 (lN (none::none::cap) τ) S).ud _=_;rw[h1,R.lO];exact lg (by rw[aH];exact hl)
theorem Ff:∀es:Es,Y4 (es.map ent)=some (es.map λe=>(e.1,A.ref e.2.1))
 | []=>rfl
 | e::es=>by
  rw[bD];show(match A.ints (e.1.map .int)with
   | some ks=>(Y4 (es.map ent)).map λrs=>(ks,A.ref e.2.1)::rs
   | _=>none)=_
  rw[ints_map,Ff es];rfl
def Mr{S:jK}{n:Nat}{es:Es}(h:jG S n=some (es.map ent))(nd:(es.map Prod.fst).Nodup):DA (.ref n) S=.ok (.ref S.length) (S++[.lst ((nI es).map ent)]):=by
 show opt (jG S n) _=_;rw[h,kN,Ff,kN];have e1:(es.map λe=>(e.1,A.ref e.2.1)).map Prod.fst=es.map Prod.fst:=by rw[bq];rfl
 rw[e1];have e2:=zg (λp:Nat×Pl=>A.ref p.1) es;rw[e2,bq];exact mP nd
def Rm(es:Es):sm (nI es)=nI (sm es):=(zg (λp:Nat×Pl=>p.2) es).symm
def CI{D:Es}{r:Nat}{p:Pl}:∃e,fE (oU D o r p) o=some e/\e.2.1=r:=by
 unfold oU;by_cases c:(fE D o).isSome=true
 ·rw[aM c];obtain⟨e,he⟩:=fC.mp c;unfold fE at he ⊢;rw[iy];have eq:((λe:En=>decide (e.1=o)) ∘ λe:En=>if e.1=o then(e.1,r,p)else e)=λe:En=>decide (e.1=o):=by
   funext x
   show decide ((if x.1=o then(x.1,r,p)else x).1=o)=_;by_cases z:x.1=o
   ·rw[aM z]
   ·rw[aK z]
  rw[eq,he];have:=iR he;have:=bV this;exact⟨_,rfl,by show(if e.1=o then(e.1,r,p)else e).2.1=r;rw[aM this]⟩
 ·rw[aK c];have c:fE D o=none:=Option.not_isSome_iff_eq_none.mp c;unfold fE at c ⊢;rw[List.find?_append,c];exact⟨(o,r,p),by rw[cP,bf rfl];rfl,rfl⟩
end Su
namespace He
open PySem L2 Am Po
open Fw (Two rg Ba)
open Su (nj Ps cS Gd vS toS adds bx)
def Sz.of{n P:Nat}{l:Ps}(h:Cn l)(pm:∀x∈l,x.1.Perm (rg n))(pb:∀e∈l,PB P C e.2):Sz n P C l:=by
 refine⟨h,pm,⟨λo po t=>?_,λo po t ht=>?_⟩⟩
 ·rw[Bq h.gd]
  rcases Su.wG (D:=l) (o:=o)with⟨e,h1,_,h3⟩|⟨_,h2⟩
  ·rw[h3];exact Su.Z7 (h.gd.ok e h1) (λq hq=>(pb e h1).c q hq) t
  ·rw[h2];exact bL _
 ·rw[Bq h.gd]
  rcases Su.wG (D:=l) (o:=o)with⟨e,h1,_,h3⟩|⟨_,h2⟩
  ·rw[h3];have:∀q∈e.2,q.1≠t:=λq hq z=>by have:=(pb e h1).p q hq;rw[z]at this;lia
   clear h3;revert this;generalize e.2=p0;intro this
   induction p0 with
   | nil=>rfl
   | cons q p ih=>
    have z:=this q (aJ ..);have i:=ih λx hx=>this x (aL _ hx);show(if q.1=t then q.2 else 0)+cf p t=0;rw[aK z,i];rfl
  ·rw[h2];rfl
theorem PB.times{P c:Nat}{p q:Pl}(hp:PB P C p)(hq:PB Q c q):(times p q).length<=2 * (P+Q)+1:=by
 refine P7 (c:=p.length * q.length * (C * c)) (Po.su p q) ⟨λx hx=>?_,λx hx=>?_⟩
 ·have a:=Su.Ok.Ie (Po.su p q) hx;rw[Su.qz]at a;rw[<- a,<- Po.zS];have:∀l:Pl,Bd (C * c) l->(cf l x.1).natAbs<=l.length * (C * c):=λl=>by
   induction l with
   | nil=>exact λ_=>bL _
   | cons y l ih=>
    intro hb;have i:=ih λz hz=>hb z (aL _ hz);have j:=hb y (aJ ..);show((if y.1=x.1 then y.2 else 0)+cf l x.1).natAbs<=(l.length+1) * (C * c);rw[eB];split<;>lia
  exact this _ (Bd.BZ (λz hz=>hp.c z hz) λz hz=>hq.c z hz)
 ·refine iF λz=>(Po.su p q).nz x hx ?_;rw[<- Su.Ok.Ie (Po.su p q) hx,Su.qz];have:∀l:Pl,(∀y∈l,y.1.natAbs<=P+Q)->cf l x.1=0:=λl=>by
   induction l with
   | nil=>exact λ_=>rfl
   | cons y l ih=>
    intro hb;have i:=ih λz hz=>hb z (aL _ hz);have j:=hb y (aJ ..);show(if y.1=x.1 then y.2 else 0)+cf l x.1=0;rw[i,aK (λw=>by rw[w]at j;lia)];rfl
  refine this _ λy hy=>?_;unfold BZ at hy;obtain⟨u,hu,hy⟩:=fS.mp hy;obtain⟨v,hv,rfl⟩:=bA.mp hy;have:=hp.p u hu;have:=hq.p v hv
  skip
  lia
def UW{o:ag}:((k_ 1 (o.length:Int)).filter λk=>decide (o.getD (k-1).toNat 0>o.getD k.toNat 0)).head?=(ff o).map λk:Nat=>(k:Int):=by
 rw[List.head?_filter];unfold k_ ff;rw[iy,show((o.length:Int)-1).toNat=o.length-1 by lia,gh];have:((λk:Int=>decide (o.getD (k-1).toNat 0>o.getD k.toNat 0)) ∘ λk:Nat=>(1:Int)+(k:Int))=λi:Nat=>nj o (i+1):=by
  funext i
  show decide (o.getD ((1:Int)+(i:Int)-1).toNat 0>o.getD ((1:Int)+(i:Int)).toNat 0)=decide _;rw[show((1:Int)+(i:Int)-1).toNat=i+1-1 by lia,show((1:Int)+(i:Int)).toNat=i+1 by lia]
 rw[this];congr 1
 funext i
 show(1:Int)+(i:Int)=((i+1:Nat):Int);lia
end He
namespace He
open PySem L2 Am Po
open Fw (Two rg Ba)
open Su (nj Ps cS Gd vS toS adds bx)
theorem Vi{n:Nat}:∀{w:am}{l:Ps},(∀x∈l,x.1.Perm (rg n))->Va n w->lG n (cS (bxw w l)) (Xw w (cS l))
 | [],l,_,_=>.refl
 | k::w,l,h,v=>by
  have v1:=v k (aJ ..);have v2:Va n w:=λj hj=>v j (aL _ hj);exact(Vi (w:=w) (zo v1.1 v1.2 h) v2).trans (wA v2 (Sd h v1.1 v1.2))
def ex_map(f:Int->Int){o:ag}{k:Nat}(h0:1<=k)(h1:k<o.length):Wd.ex (o.map f) k=(Wd.ex o k).map f:=by
 apply cT;intro p;rw[Wd.oH h0 (by rw[aH];exact h1),aQ,aQ,aQ,aQ,Wd.oH h0 h1];split
 ·rfl
 ·split<;>rfl
theorem z_(f:Int->Int):∀{w:am}{o:ag},(∀k∈w,1<=k/\k<o.length)->Wd.led (o.map f) w=(Wd.led o w).map f
 | [],_,_=>rfl
 | k::w,o,v=>by
  have v1:=v k (aJ ..);show Wd.led (Wd.ex (o.map f) k) w=(Wd.led (Wd.ex o k) w).map f;rw[ex_map f v1.1 v1.2];exact z_ f λj hj=>by rw[Wd.mD];exact v j (aL _ hj)
theorem By{n:Nat}:∀{w:am}{l:ag},l.Perm (rg n)->Va n w->Iv.inv (Wd.led l w)<=Iv.inv l+w.length/\(Iv.inv (Wd.led l w)=Iv.inv l+w.length->Wd.jZ l w)
 | [],l,_,_=>⟨aO _,λ_=>trivial⟩
 | k::w,l,p,v=>by
  have v1:=v k (aJ ..);have ll:l.length=n:=by rw[p.length_eq,Wd.jV]
  obtain⟨i1,i2⟩:=By (w:=w) (nM p v1.1 v1.2) λj hj=>v j (aL _ hj);have i1:Iv.inv (Wd.led l (k::w))<=Iv.inv (Wd.ex l k)+w.length:=i1;have i2:Iv.inv (Wd.led l (k::w))=Iv.inv (Wd.ex l k)+w.length->Wd.jZ (Wd.ex l k) w:=i2;rw[bg]
  rcases Nat.lt_or_ge 0 0 with z|_
  ·lia
  ·by_cases c:l.getD (k-1) 0<l.getD k 0
   ·have u:=Fw.G7 v1.1 () c;exact⟨(),λh=>⟨v1.1,(),c,i2 ()⟩⟩
   ·have ne:=nb p v1.1 v1.2;have u:=Fw.oK v1.1 () (show l.getD k 0<l.getD (k-1) 0 by lia);exact⟨(),λh=>absurd h ()⟩
theorem Fo{n:Nat}:∀{w:am}{l:ag},l.Perm (rg n)->Va n w->(Wd.led l w).Perm (rg n)
 | [],_,p,_=>p
 | k::w,l,p,v=>Fo (w:=w) (nM p (v k (aJ ..)).1 (v k (aJ ..)).2) λj hj=>v j (aL _ hj)
end He
namespace He
open PySem L2 Am Po
open Fw (Two rg Ba)
open Su (nj Ps cS Gd vS toS adds bx)
def Ea{n:Nat}{w:am}(h:Wd.jZ (rg n) w):Wd.jZ (rg n) w.reverse:=by
 have va:Va n w:=λk hk=>by have:=Wd.jZ.valid h k hk;rwa [Wd.jV]at this
 have var:Va n w.reverse:=λk hk=>va k (eK.mp hk);have pr:=Fo (nO n) var;obtain⟨z1,z2⟩:=qo pr;have vz:=BA pr;have vzr:Va n (sw n (Wd.led (rg n) w.reverse)).reverse:=λk hk=>vz k (eK.mp hk);have b1:=Wd.nH (sw n (Wd.led (rg n) w.reverse)).reverse vzr;rw[gg,z2]at b1;have e:=om ⟨pr,Fo (nO n) vzr,b1⟩ ⟨pr,Fo (nO n) va,Wd.nH w va⟩;have l1:=(By (nO n) vzr).1;rw[e,Fw.wV,fO,Br pr]at l1;have l2:=qp h;have l3:=(By (nO n) var).1;refine(By (nO n) var).2 ?_;rw[Fw.wV,fO]at *
 lia
noncomputable def Y (k:Nat)(f:Fn):Fn:=λo t=>X k f o t-dl (f o) t
noncomputable def Yw (w:am)(f:Fn):Fn:=w.foldl (λf k=>Y k f) f
def abt{n k:Nat}{f g:Fn}(h:lG n f g)(h0:1<=k)(h1:k<n):lG n (Y k f) (Y k g):=λo p t=>by
 unfold Y;rw[ME h h0 h1 o p t,show f o=g o from funext λt=>h o p t]
theorem zm{n:Nat}:∀{w:am}{f g:Fn},Va n w->lG n f g->lG n (Yw w f) (Yw w g)
 | [],_,_,_,h=>h
 | k::w,f,g,v,h=>zm (w:=w) (λj hj=>v j (aL _ hj)) (abt h (v k (aJ ..)).1 (v k (aJ ..)).2)
def abc(k:Nat)(f:Fn)(o:ag)(t:Int):X k (λo t=>dl (f o) t) o t=dl (X k f o) t:=by
 unfold X dl;dsimp only;split<;>lia
def aaj(k:Nat)(f g:Fn)(o:ag)(t:Int):X k (λo t=>f o t-g o t) o t=X k f o t-X k g o t:=by
 unfold X dl;dsimp only;split<;>lia
def X_Y{n k:Nat}(h0:1<=k)(h1:k<n)(f:Fn):lG n (X k (Y k f)) f:=λo p t=>by
 have a:X k (Y k f) o t=X k (X k f) o t-X k (λo t=>dl (f o) t) o t:=aaj k (X k f) (λo t=>dl (f o) t) o t;rw[a,X_X h0 h1 f o p t,abc];dsimp only;lia
def Y_X{n k:Nat}(h0:1<=k)(h1:k<n)(f:Fn):lG n (Y k (X k f)) f:=λo p t=>by
 show X k (X k f) o t-dl (X k f o) t=_;rw[X_X h0 h1 f o p t];dsimp only;lia
def Uk(w:am)(k:Nat)(f:Fn):Yw (w++[k]) f=Y k (Yw w f):=by unfold Yw;rw[c6];rfl
def KN(w:am)(k:Nat)(f:Fn):Xw (w++[k]) f=X k (Xw w f):=by unfold Xw;rw[c6];rfl
theorem Zi{n:Nat}:∀{w:am}{f:Fn},Va n w->lG n (Xw w.reverse (Yw w f)) f
 | [],_,_=>.refl
 | k::w,f,v=>by
  have v1:=v k (aJ ..);rw[fq,KN];exact(ME (Zi (w:=w) (f:=Y k f) λj hj=>v j (aL _ hj)) v1.1 v1.2).trans (X_Y v1.1 v1.2 f)
theorem ZX{n:Nat}:∀{w:am}{f:Fn},Va n w->lG n (Yw w (Xw w.reverse f)) f
 | [],_,_=>.refl
 | k::w,f,v=>by
  have v1:=v k (aJ ..);have v2:Va n w:=λj hj=>v j (aL _ hj);rw[fq,KN]
  skip
  exact(zm v2 (Y_X v1.1 v1.2 _)).trans (ZX v2)
noncomputable def LB:Pl:=[((-1:Int),(-1:Int)),((1:Int),(1:Int))]
def Vg(g:Int->Int)(t:Int):cv LB g t=- dl g t:=by
 show -1 * g (t - -1)+(1 * g (t-1)+0)=-(g (t+1)-g (t-1));rw[show t - -1=t+1 by lia];lia
noncomputable def E_ (p:Pl)(l:Ps):Ps:=toS (adds [] (Cd p l))
def AX(p:Pl)(l:Ps):cS (E_ p l)=lE p (cS l):=by
 funext o t
 unfold E_;rw[vY,BC]
def yP{n:Nat}{p:Pl}{l:Ps}(pl:∀x∈l,x.1.Perm (rg n)):Cn (E_ p l)/\∀x∈E_ p l,x.1.Perm (rg n):=
 ⟨.toS (Gd.nil.adds _),Su.uT (P:=λo=>o.Perm (rg n)) (Su.sd (P:=λo=>o.Perm (rg n)) _ (nofun) λx hx=>by
  obtain⟨y,hy,rfl⟩:=bA.mp hx;exact pl y hy)⟩
noncomputable def yb (k:Nat)(l:Ps):Ps:=zx (bx k l) (E_ LB l)
def J7{n k:Nat}{l:Ps}(h0:1<=k)(h1:k<n)(pl:∀x∈l,x.1.Perm (rg n)):Cn (yb k l)/\(∀x∈yb k l,x.1.Perm (rg n))/\lG n (cS (yb k l)) (Y k (cS l)):=by
 obtain⟨a,b,c⟩:=vK (zo h0 h1 pl) (yP (p:=LB) pl).2;refine⟨a,b,λo p t=>?_⟩;show cS (zx (bx k l) (E_ LB l)) o t=_;rw[c,AX];show cS (bx k l) o t+cv LB (cS l o) t=X k (cS l) o t-dl (cS l o) t;rw[Sd pl h0 h1 o p t,Vg];lia
noncomputable def Kq (w:am)(l:Ps):Ps:=w.foldl (λl k=>yb k l) l
def NX(w:am)(k:Nat)(l:Ps):Kq (w++[k]) l=yb k (Kq w l):=by unfold Kq;rw[c6];rfl
theorem Hq{n:Nat}:∀{w:am}{l:Ps},Va n w->Cn l->(∀x∈l,x.1.Perm (rg n))->Cn (Kq w l)/\(∀x∈Kq w l,x.1.Perm (rg n))/\lG n (cS (Kq w l)) (Yw w (cS l))
 | [],_,_,c,p=>⟨c,p,.refl⟩
 | k::w,l,v,c,p=>by
  have v1:=v k (aJ ..);have v2:Va n w:=λj hj=>v j (aL _ hj);obtain⟨a1,a2,a3⟩:=J7 v1.1 v1.2 p;obtain⟨b1,b2,b3⟩:=Hq v2 a1 a2;exact⟨b1,b2,b3.trans (zm v2 a3)⟩
def aab{n:Nat}{w:am}(h:Wd.jZ (rg n) w)(h':Wd.jZ (rg n) w')(e:Wd.led (rg n) w=Wd.led (rg n) w'){l:Ps}(hc:Cn l)(hl:∀x∈l,x.1.Perm (rg n)):lG n (Yw w (cS l)) (Yw w' (cS l)):=by
 have va:Va n w:=λk hk=>by have:=Wd.jZ.valid h k hk;rwa [Wd.jV]at this
 have va':Va n w':=λk hk=>by have:=Wd.jZ.valid h' k hk;rwa [Wd.jV]at this
 have var:Va n w.reverse:=λk hk=>va k (eK.mp hk);have var':Va n w'.reverse:=λk hk=>va' k (eK.mp hk);obtain⟨_,g2,g3⟩:=Hq va' hc hl;have b1:=Wd.nH w va;have b2:=Wd.nH w' va';have er:Wd.led (rg n) w.reverse=Wd.led (rg n) w'.reverse:=by
  have p:=Fo (nO n) va;have c1:=Wd.nH w.reverse var;have c2:=Wd.nH w'.reverse var';rw[gg]at c1 c2;rw[<- e]at c2;exact om ⟨p,Fo (nO n) var,c1⟩ ⟨p,Fo (nO n) var',c2⟩
 have s:lG n (Xw w.reverse (Yw w' (cS l))) (cS l):=by
  refine(wA var g3.symm).trans ((zf (Ea h) (Ea h') er g2).trans ((wA var' g3).trans ?_));exact Zi va'
 exact(zm va s.symm).trans (ZX va)
noncomputable def bT (n:Nat)(o:ag):Fn:=Yw (sw n o) (cS (one n))
def DH(n:Nat):Cn (one n):=OH _ WE (by simp)
def DE{n:Nat}{o:ag}{w:am}(po:o.Perm (rg n))(h:Wd.jZ (rg n) w)(e:Wd.led (rg n) w=o):lG n (bT n o) (Yw w (cS (one n))):=by
 obtain⟨a,b⟩:=qo po;exact aab a h (b.trans e.symm) (DH n) (BO n)
def Vt{n k:Nat}{o:ag}(po:o.Perm (rg n))(h0:1<=k)(h1:k<n)(hf:nj o k=false):lG n (bT n (Wd.ex o k)) (Y k (bT n o)):=by
 obtain⟨a1,a2⟩:=qo po;have ne:=nb po h0 h1;have hr:(Wd.led (rg n) (sw n o)).getD (k-1) 0<(Wd.led (rg n) (sw n o)).getD k 0:=by
  rw[a2];have:=c8 hf;lia
 have c1:Wd.jZ (rg n) (sw n o++[k]):=Wd.jZ.snoc a1 h0 (by rw[Wd.jV];exact h1) hr;have c2:Wd.led (rg n) (sw n o++[k])=Wd.ex o k:=by rw[Wd.tX,a2];rfl
 have:=DE (nM po h0 h1) c1 c2;rw[Uk]at this;exact this
def Y_{n k:Nat}{o:ag}(po:o.Perm (rg n))(h0:1<=k)(h1:k<n)(hf:nj o k=true):lG n (bT n o) (Y k (bT n (Wd.ex o k))):=by
 have lw:o.length=n:=by rw[po.length_eq,Wd.jV]
 have go:Su.Go n k o:=⟨lw,nb po h0 h1⟩;have:=Vt (nM po h0 h1) h0 h1 (by rw[(go.ex h0 h1).2,hf];rfl);rw[Fw.wm h0 ()]at this;exact this
def zP(p:Pl)(k:Int):cf (turn p) k=cf p (-k):=by
 have r:∀p:Pl,cf p.reverse k=cf p k:=λp=>by
  induction p with
  | nil=>rfl
  | cons q p ih=>
   rw[fq,Su.yY,ih];show cf p k+((if q.1=k then q.2 else 0)+0)=(if q.1=k then q.2 else 0)+cf p k;lia
 unfold turn;rw[List.map_reverse,r]
 induction p with
 | nil=>rfl
 | cons q p ih=>
  show(if -q.1=k then q.2 else 0)+cf (p.map _) k=(if q.1=-k then q.2 else 0)+cf p (-k);rw[ih];congr 1;by_cases c:-q.1=k
  ·rw[aM c,aM ()]
  ·rw[aK c,aK ()]
def zJ(p:Pl)(g:Int->Int)(t:Int):cv (turn p) g t=cv p (λs=>g (-s)) (-t):=by
 have e:cv (turn p) g t=cv (p.map λq=>(-q.1,q.2)) g t:=by
  refine yv (λk=>?_) g t;rw[zP]
  induction p with
  | nil=>rfl
  | cons q p ih=>
   show(if q.1=-k then q.2 else 0)+cf p (-k)=(if -q.1=k then q.2 else 0)+cf (p.map _) k;rw[ih];congr 1;by_cases c:-q.1=k
   ·rw[aM c,aM ()]
   ·rw[aK c,aK ()]
 rw[e]
 induction p with
 | nil=>rfl
 | cons q p ih=>
  show q.2 * g (t - -q.1)+cv (p.map _) g t=q.2 * g (-(-t-q.1))+cv p _ (-t);have ih:=ih (yv (λk=>by
   rw[zP];clear e ih
   induction p with
   | nil=>rfl
   | cons q p ih=>
    show(if q.1=-k then q.2 else 0)+cf p (-k)=(if -q.1=k then q.2 else 0)+cf (p.map _) k;rw[ih];congr 1;by_cases c:-q.1=k
    ·rw[aM c,aM ()]
    ·rw[aK c,aK ()]) g t)
  rw[ih,show -(-t-q.1)=t - -q.1 by lia]
noncomputable def Bt (n:Nat):Ps->Fn
 | []=>λ_ _=>0
 | e::m=>add (lE (turn e.2) (bT n e.1)) (Bt n m)
theorem QD(n:Nat):∀(m:Ps) (o:ag) (t:Int),Bt n m o t=RG (λu o s=>bT n u o (-s)) m o (-t)
 | [],_,_=>rfl
 | e::m,o,t=>by
  show cv (turn e.2) (bT n e.1 o) t+Bt n m o t=cv e.2 (λs=>bT n e.1 o (-s)) (-t)+RG _ m o (-t);rw[zJ,QD n m]
def yJ(n:Nat)(h:∀w s,cS m w s=cS m' w s):Bt n m=Bt n m':=by
 funext o t
 rw[QD,QD,RC _ h]
def Dr(n:Nat)(a b:Ps):Bt n (a++b)=add (Bt n a) (Bt n b):=by
 induction a with
 | nil=>funext o t;exact(bY _).symm
 | cons e a ih=>
  show add _ (Bt n (a++b))=_;rw[ih]
  funext o t
  exact(fH _ _ _).symm
def wg(p q:Pl)(g:Int->Int)(t:Int):cv (turn (times p q)) g t=cv (turn p) (cv (turn q) g) t:=by
 rw[zJ,Fi,zJ];congr 1
 funext s
 rw[zJ,Int.neg_neg]
theorem Dt(n:Nat)(p:Pl):∀l:Ps,Bt n (Cd p l)=lE (turn p) (Bt n l)
 | []=>by funext o t;exact(oY _ t).symm
 | e::l=>by
  funext o t
  show cv (turn (times p e.2)) (bT n e.1 o) t+Bt n (Cd p l) o t=cv (turn p) (λt=>cv (turn e.2) (bT n e.1 o) t+Bt n l o t) t;rw[Dt n p l,qm,wg];rfl
def X7(k:Nat)(p:Pl)(f:Fn):Y k (lE p f)=lE p (Y k f):=by
 funext o t
 show X k (lE p f) o t-dl (cv p (f o)) t=cv p (λt=>X k f o t-dl (f o) t) t;rw[Ik,<- Nd];show cv p (X k f o) t-cv p (dl (f o)) t=_;have:=qm p (λt=>X k f o t-dl (f o) t) (dl (f o)) t;rw[show(λt=>(λt=>X k f o t-dl (f o) t) t+dl (f o) t)=X k f o from funext λt=>by show X k f o t-dl (f o) t+dl (f o) t=_;lia]at this;lia
def ZY(k:Nat)(f g:Fn):Y k (add f g)=add (Y k f) (Y k g):=by
 funext o t
 show X k (add f g) o t-dl (λt=>f o t+g o t) t=(X k f o t-dl (f o) t)+(X k g o t-dl (g o) t);rw[QY];show X k f o t+X k g o t-_=_;unfold dl;dsimp only;lia
def Xh(k:Nat):Y k (λ_ _=>0)=λ_ _=>0:=by
 funext o t
 show X k (λ_ _=>0) o t-dl (λ_=>0) t=0;rw[Il];rfl
theorem Ry{n k:Nat}(h0:1<=k)(h1:k<n):∀{m:Ps},(∀x∈m,x.1.Perm (rg n))->lG n (Bt n (Su.MR k m)) (Y k (Bt n m))
 | [],_=>by
  show lG n (λ_ _=>0) (Y k λ_ _=>0);rw[Xh];exact .refl
 | e::m,hm=>by
  have he:=hm e (aJ ..);have ih:=Ry h0 h1 (m:=m) λx hx=>hm x (aL _ hx);show lG n (Bt n (((Wd.ex e.1 k,e.2)::(if nj e.1 k=true then[(e.1,times Su.AF e.2)]else[]))++Su.MR k m)) (Y k (add (lE (turn e.2) (bT n e.1)) (Bt n m)));rw[Dr,ZY,X7];intro o p t;show Bt n ((Wd.ex e.1 k,e.2)::_) o t+Bt n (Su.MR k m) o t=lE (turn e.2) (Y k (bT n e.1)) o t+Y k (Bt n m) o t;rw[ih o p t];congr 1
  cases hf:nj e.1 k with
  | false=>
   show lE (turn e.2) (bT n (Wd.ex e.1 k)) o t+0=_;rw[cM];exact nS _ (Vt he h0 h1 hf) o p t
  | true=>
   show lE (turn e.2) (bT n (Wd.ex e.1 k)) o t+(cv (turn (times Su.AF e.2)) (bT n e.1 o) t+0)=_;have d:=Y_ he h0 h1 hf;have y2:lG n (Y k (bT n e.1)) λo t=>bT n (Wd.ex e.1 k) o t+- dl (bT n e.1 o) t:=λo p t=>by
    show X k (bT n e.1) o t-dl (bT n e.1 o) t=_;rw[ME d h0 h1 o p t,X_Y h0 h1 _ o p t];dsimp only;lia
   have ta:∀(g:Int->Int) (t:Int),cv (turn Su.AF) g t=- dl g t:=λg t=>by
    show -1 * g (t - -1)+(1 * g (t - - -1)+0)=-(g (t+1)-g (t-1));rw[show t - -1=t+1 by lia,show t - - -1=t-1 by lia];lia
   have e1:cv (turn (times Su.AF e.2)) (bT n e.1 o) t=cv (turn e.2) (λt=>- dl (bT n e.1 o) t) t:=by
    rw[wg,VC];congr 1
    funext s
    exact ta _ s
   rw[cM,e1,nS _ y2 o p t];show _=cv (turn e.2) (λt=>bT n (Wd.ex e.1 k) o t+- dl (bT n e.1 o) t) t;rw[qm];rfl
def Yh(k:Nat)(m:Ps)(w:ag)(s:Int):cS (bx k m) w s=cS (Su.MR k m) w s:=by
 unfold Su.bx;rw[Su.yE (Su.Gd.nil.adds _),Su.DW];show 0+_=_;rw[bY]
def VF{n k:Nat}(h0:1<=k)(h1:k<n){m:Ps}(hm:∀x∈m,x.1.Perm (rg n)):lG n (Bt n (bx k m)) (Y k (Bt n m)):=by
 rw[yJ n (Yh k m)];exact Ry h0 h1 hm
theorem M_{n:Nat}:∀{w:am}{m:Ps},Va n w->(∀x∈m,x.1.Perm (rg n))->lG n (Bt n (bxw w m)) (Yw w (Bt n m))
 | [],_,_,_=>.refl
 | k::w,m,v,hm=>by
  have v1:=v k (aJ ..);have v2:Va n w:=λj hj=>v j (aL _ hj);exact(M_ (w:=w) v2 (zo v1.1 v1.2 hm)).trans (zm v2 (VF v1.1 v1.2 hm))
def NW{n:Nat}{l m:Ps}(pl:∀x∈l,x.1.Perm (rg n))(pm:∀x∈m,x.1.Perm (rg n)):Bt n (zx l m)=add (Bt n l) (Bt n m):=by
 rw[<- Dr];refine yJ n λo t=>?_;rw[(vK pl pm).2.2,Su.wZ];rfl
def OW(n:Nat)(p:Pl)(l:Ps):Bt n (E_ p l)=lE (turn p) (Bt n l):=by
 rw[<- Dt];refine yJ n λo t=>?_;rw[AX,BC]
def Z0{n k:Nat}(h0:1<=k)(h1:k<n){l:Ps}(pl:∀x∈l,x.1.Perm (rg n)):lG n (Bt n (yb k l)) (X k (Bt n l)):=λo p t=>by
 unfold yb;rw[NW (zo h0 h1 pl) (yP (p:=LB) pl).2,OW];show Bt n (bx k l) o t+cv (turn LB) (Bt n l o) t=_;rw[VF h0 h1 pl o p t];have:cv (turn LB) (Bt n l o) t=dl (Bt n l o) t:=by
  show 1 * Bt n l o (t - -1)+(-1 * Bt n l o (t - - -1)+0)=Bt n l o (t+1)-Bt n l o (t-1);rw[show t - -1=t+1 by lia,show t - - -1=t-1 by lia];lia
 rw[this];show X k (Bt n l) o t-dl (Bt n l o) t+_=_;lia
theorem Q6{n:Nat}:∀{w:am}{l:Ps},Va n w->Cn l->(∀x∈l,x.1.Perm (rg n))->lG n (Bt n (Kq w l)) (Xw w (Bt n l))
 | [],_,_,_,_=>.refl
 | k::w,l,v,c,p=>by
  have v1:=v k (aJ ..);have v2:Va n w:=λj hj=>v j (aL _ hj);obtain⟨a1,a2,_⟩:=J7 v1.1 v1.2 p;exact(Q6 v2 a1 a2).trans (wA v2 (Z0 v1.1 v1.2 p))
def Xj(n:Nat):lG n (Bt n (one n)) (cS (one n)):=λo p t=>by
 show cv (turn [((0:Int),(1:Int))]) (bT n (rg n) o) t+0=_;rw[cM,show turn [((0:Int),(1:Int))]=[((0:Int),(1:Int))]from rfl,Hz];exact DE (w:=[]) (nO n) trivial rfl o p t
noncomputable def tO (n:Nat)(w:am):Ps:=Kq w (one n)
def Ra{n:Nat}{o:ag}{w:am}(po:o.Perm (rg n))(h:Wd.jZ (rg n) w)(e:Wd.led (rg n) w=o):Cn (tO n w)/\(∀x∈tO n w,x.1.Perm (rg n))/\lG n (cS (tO n w)) (bT n o):=by
 have va:Va n w:=λk hk=>by have:=Wd.jZ.valid h k hk;rwa [Wd.jV]at this
 obtain⟨a,b,c⟩:=Hq va (DH n) (BO n);exact⟨a,b,c.trans (DE po h e).symm⟩
structure Fwd (n:Nat)(W:ag->am):Prop where
 r:∀o,o.Perm (rg n)->Wd.jZ (rg n) (W o)
 e:∀o,o.Perm (rg n)->Wd.led (rg n) (W o)=o
def Fwd.va{n:Nat}{W:ag->am}(h:Fwd n W){o:ag}(po:o.Perm (rg n)):Va n (W o):=λk hk=>by have:=Wd.jZ.valid (h.r o po) k hk;rwa [Wd.jV]at this
noncomputable def GU (n:Nat)(W:ag->am)(m:Ps):Ps:=m.flatMap λe=>Cd (turn e.2) (tO n (W e.1))
noncomputable def tu (n:Nat)(W:ag->am)(m:Ps):Ps:=toS (adds [] (GU n W m))
def WR{n:Nat}{W:ag->am}(hW:Fwd n W){m:Ps}(pm:∀x∈m,x.1.Perm (rg n)):∀x∈GU n W m,x.1.Perm (rg n):=λx hx=>by
 obtain⟨e,he,hx⟩:=fS.mp hx;obtain⟨y,hy,rfl⟩:=bA.mp hx;exact(Ra (pm e he) (hW.r _ (pm e he)) (hW.e _ (pm e he))).2.1 y hy
theorem Vf{n:Nat}{W:ag->am}(hW:Fwd n W):∀{m:Ps},(∀x∈m,x.1.Perm (rg n))->lG n (cS (GU n W m)) (Bt n m)
 | [],_=>.refl
 | e::m,pm=>λo p t=>by
  have pe:=pm e (aJ ..);show cS (Cd (turn e.2) (tO n (W e.1))++GU n W m) o t=cv (turn e.2) (bT n e.1 o) t+Bt n m o t;rw[Su.wZ,BC,Vf hW (λx hx=>pm x (aL _ hx)) o p t];congr 1;exact nS _ (Ra pe (hW.r _ pe) (hW.e _ pe)).2.2 o p t
def rf{n:Nat}{W:ag->am}(hW:Fwd n W){m:Ps}(pm:∀x∈m,x.1.Perm (rg n)):Cn (tu n W m)/\(∀x∈tu n W m,x.1.Perm (rg n))/\lG n (cS (tu n W m)) (Bt n m):=
 ⟨.toS (Gd.nil.adds _),Su.uT (P:=λo=>o.Perm (rg n)) (Su.sd (P:=λo=>o.Perm (rg n)) _ (nofun) (WR hW pm)),λo p t=>by
  show cS (toS (adds [] (GU n W m))) o t=_;rw[vY];exact Vf hW pm o p t⟩
def aaO{n:Nat}{o:ag}(po:o.Perm (rg n)){w:am}(h:Wd.jZ (rg n) w)(e:Wd.led (rg n) w=o):lG n (Xw w (cS (one n))) (D o d0):=by
 have z:cS (one n)=D (rg n) d0:=by
  have z:cS (one n)=add (D (rg n) (cf [((0:Int),(1:Int))])) (λ_ _=>0):=xN _ _;rw[z]
  funext u s
  show D (rg n) (cf [((0:Int),(1:Int))]) u s+0=_;rw[cM];unfold D;split
  ·rw[<- VT,Hz]
  ·rfl
 rw[z];have:=SD (g:=d0) (nO n) h
 rwa [e]at this
def Y8{n:Nat}{W:ag->am}(hW:Fwd n W){m:Ps}(hc:Cn m)(pm:∀x∈m,x.1.Perm (rg n)):tu n W (tu n W m)=m:=by
 obtain⟨a1,a2,a3⟩:=rf hW pm;obtain⟨b1,b2,b3⟩:=rf hW a2;refine xB b1 hc b2 pm (b3.trans ?_);have e1:Bt n (tu n W m)=Bt n (GU n W m):=yJ n λo t=>vY _ o t;rw[e1];clear e1 b1 b2 b3 a1 a2 a3 hc
 induction m with
 | nil=>exact .refl
 | cons e m ih=>
  have pe:=pm e (aJ ..);have ih:=ih λx hx=>pm x (aL _ hx);intro o p t;rw[xN];show Bt n (Cd (turn e.2) (tO n (W e.1))++GU n W m) o t=D e.1 (cf e.2) o t+cS m o t;rw[Dr];show Bt n (Cd (turn e.2) (tO n (W e.1))) o t+Bt n (GU n W m) o t=_;rw[ih o p t,Dt];congr 1;have x1:lG n (Bt n (tO n (W e.1))) (D e.1 d0):=(Q6 (hW.va pe) (DH n) (BO n)).trans ((wA (hW.va pe) (Xj n)).trans (aaO pe (hW.r _ pe) (hW.e _ pe)));rw[nS _ x1 o p t,WH]
  skip
  exact yv (λk=>by rw[zP,zP,Int.neg_neg]) _ _
def YR{n:Nat}{W:ag->am}(hW:Fwd n W){l m:Ps}(pl:∀x∈l,x.1.Perm (rg n))(pm:∀x∈m,x.1.Perm (rg n)):tu n W (zx l m)=zx (tu n W l) (tu n W m):=by
 obtain⟨a1,a2,a3⟩:=rf hW pl;obtain⟨b1,b2,b3⟩:=rf hW pm;obtain⟨c1,c2,c3⟩:=vK a2 b2;obtain⟨d1,d2,d3⟩:=vK pl pm;obtain⟨e1,e2,e3⟩:=rf hW d2;refine xB e1 c1 e2 c2 (e3.trans λo p t=>?_);rw[NW pl pm,c3];show Bt n l o t+Bt n m o t=_+_;rw[a3 o p t,b3 o p t]
def Ym{n:Nat}{W:ag->am}(hW:Fwd n W){l:Ps}(p:Pl)(pl:∀x∈l,x.1.Perm (rg n)):tu n W (E_ p l)=E_ (turn p) (tu n W l):=by
 obtain⟨a1,a2,a3⟩:=rf hW pl;obtain⟨b1,b2⟩:=yP (p:=turn p) a2;obtain⟨c1,c2,c3⟩:=rf hW (yP (p:=p) pl).2;refine xB c1 b1 c2 b2 (c3.trans ?_);rw[OW,AX];exact nS _ a3.symm
def ab1{n k:Nat}{l m:Ps}(h0:1<=k)(h1:k<n)(pl:∀x∈l,x.1.Perm (rg n))(pm:∀x∈m,x.1.Perm (rg n)):lG n (R n (yb k m) (cS l)) (Y k (R n m (cS l))):=λo p t=>by
 have e1:R n (yb k m) (cS l)=add (R n (bx k m) (cS l)) (R n (E_ LB m) (cS l)):=Z5 (zo h0 h1 pm) (yP (p:=LB) pm).2 _;have e2:R n (E_ LB m) (cS l)=lE LB (R n m (cS l)):=by
  rw[<- U4];refine Gg n (λo t=>?_) _;rw[AX,BC]
 rw[e1,e2];show R n (bx k m) (cS l) o t+cv LB (R n m (cS l) o) t=X k (R n m (cS l)) o t-dl (R n m (cS l) o) t;rw[abW h0 h1 pl pm o p t,Vg];lia
theorem V6{n:Nat}{l:Ps}(pl:∀x∈l,x.1.Perm (rg n)):∀{w:am}{m:Ps},Va n w->(∀x∈m,x.1.Perm (rg n))->lG n (R n (Kq w m) (cS l)) (Yw w (R n m (cS l)))
 | [],_,_,_=>.refl
 | k::w,m,v,pm=>by
  have v1:=v k (aJ ..);have v2:Va n w:=λj hj=>v j (aL _ hj);exact(V6 pl (w:=w) v2 (J7 v1.1 v1.2 pm).2.1).trans (zm v2 (ab1 v1.1 v1.2 pl pm))
def S0{n:Nat}{W:ag->am}(hW:Fwd n W){l m:Ps}(hl:Cn l)(hm:Cn m)(pl:∀x∈l,x.1.Perm (rg n))(pm:∀x∈m,x.1.Perm (rg n)):tu n W (prod l m)=prod (tu n W l) (tu n W m):=by
 obtain⟨a1,a2,a3⟩:=rf hW pl;obtain⟨b1,b2,b3⟩:=rf hW pm;obtain⟨c1,c2,c3⟩:=xZ hl hm pl pm;obtain⟨d1,d2,d3⟩:=xZ a1 b1 a2 b2;obtain⟨e1,e2,e3⟩:=rf hW c2;refine xB e1 d1 e2 d2 (e3.trans (lG.trans ?_ d3.symm));have z1:Bt n (prod l m)=Bt n (yw l m):=yJ n (Iq c2 (Jq hl pl pm) (c3.trans (HU hl pl pm).symm));have z2:R n (tu n W m) (cS (tu n W l))=R n (GU n W m) (cS (tu n W l)):=Gg n (λo t=>vY _ o t) _;rw[z1,z2];clear z1 z2 c1 c2 c3 d1 d2 d3 e1 e2 e3 b1 b2 b3 hm
 induction m with
 | nil=>exact .refl
 | cons e m ih=>
  have pe:=pm e (aJ ..);have ih:=ih λx hx=>pm x (aL _ hx);intro o p t;show Bt n (Cd e.2 (bo l e.1)++yw l m) o t=R n (Cd (turn e.2) (tO n (W e.1))++GU n W m) (cS (tu n W l)) o t;rw[Dr,OJ];show Bt n (Cd e.2 (bo l e.1)) o t+Bt n (yw l m) o t=R n (Cd (turn e.2) (tO n (W e.1))) (cS (tu n W l)) o t+R n (GU n W m) (cS (tu n W l)) o t;rw[ih o p t,Dt,U4];congr 1;obtain⟨f1,f2,f3⟩:=Kc hl pl pe;have va:=hW.va pe;have g1:lG n (cS (bo l e.1)) (cS (bxw (W e.1) l)):=f3.trans ((zf (qo pe).1 (hW.r _ pe) ((qo pe).2.trans (hW.e _ pe).symm) pl).trans (Vi pl va).symm);have g2:Bt n (bo l e.1)=Bt n (bxw (W e.1) l):=yJ n (Iq f2 (Pg va pl) g1);have g3:lG n (Bt n (bo l e.1)) (Yw (W e.1) (cS (tu n W l))):=by
   rw[g2];exact(M_ va pl).trans (zm va a3.symm)
  have g4:lG n (R n (tO n (W e.1)) (cS (tu n W l))) (Yw (W e.1) (cS (tu n W l))):=(V6 a2 va (BO n)).trans (zm va (aai a2));exact nS _ (g3.trans g4.symm) o p t
end He
namespace He
open PySem L2 Am Po
open Fw (Two rg Ba Dn)
open Su (nj Ps cS Gd vS toS adds bx)
def XM{n:Nat}{o:ag}(po:o.Perm (rg n)):Iv.inv (bk o)=Iv.inv o:=by
 obtain⟨a,b⟩:=qo po;have va:=BA po;have var:Va n (sw n o).reverse:=λk hk=>va k (eK.mp hk);have c:=Wd.nH (sw n o).reverse var;rw[gg,b]at c;have e:=om ⟨po,Fo (nO n) var,c⟩ (n8 po);have l:=qp (Ea a);rw[e,Fw.wV,fO,Br po]at l;lia
noncomputable def fwd (o:ag):am:=(Fw.Jv _ (bk o) (aO _)).choose
def QB(o:ag):Dn (bk o) (fwd o):=(Fw.Jv _ (bk o) (aO _)).choose_spec
def JK{n:Nat}{o:ag}(po:o.Perm (rg n)):Wd.jZ (rg n) (fwd o)/\Wd.led (rg n) (fwd o)=o:=by
 have d:=QB o;have va:Va n (fwd o):=by
  have:=d.va
  rwa [(o4 po).length_eq,Wd.jV]at this
 have e:=(n8 po).led d;refine⟨(By (nO n) va).2 ?_,e⟩;rw[e,Fw.wV,d.len,XM po,cB]
theorem ES:∀{w:am}{l:ag}{k:Nat},Wd.jZ l (w++[k])->Wd.jZ l w/\1<=k/\k<l.length/\(Wd.led l w).getD (k-1) 0<(Wd.led l w).getD k 0
 | [],_,_,h=>⟨trivial,h.1,h.2.1,h.2.2.1⟩
 | j::w,l,k,h=>by
  obtain⟨a,b,c,d⟩:=ES (w:=w) h.2.2.2;rw[Wd.mD]at c;exact⟨⟨h.1,h.2.1,h.2.2.1,a⟩,b,c,d⟩
def Bg{n:Nat}{o:ag}(po:o.Perm (rg n)){k:Nat}(h:(fwd o).getLast?=some k):1<=k/\k<n/\nj o k=true:=by
 obtain⟨a,b⟩:=JK po;obtain⟨w,hw⟩:=List.getLast?_eq_some_iff.mp h;rw[hw]at a b;obtain⟨_,c,d,e⟩:=ES a;rw[Wd.tX]at b;have b:Wd.ex (Wd.led (rg n) w) k=o:=b;have lw:(Wd.led (rg n) w).length=n:=by rw[Wd.Dy,Wd.jV]
 rw[Wd.jV]at d;obtain⟨z1,z2⟩:=Su.JM c (show k<(Wd.led (rg n) w).length by lia);refine⟨c,d,bf ?_⟩;rw[<- b,z1,z2];exact e
noncomputable def vwF:Nat->ag->am
 | 0,_=>[]
 | m+1,o=>match (fwd o).getLast? with
  | none=>[]
  | some k=>vwF m (Wd.ex o k)++[k]
noncomputable def vw (o:ag):am:=vwF (Iv.inv o) o
def IB{n:Nat}{o:ag}(po:o.Perm (rg n))(h:(fwd o).getLast?=none):o=rg n:=by
 have:=List.getLast?_eq_none_iff.mp h;have e:=(JK po).2;rw[this]at e;exact e.symm
def Xb(h:(fwd o).getLast?=none):vw o=[]:=by
 unfold vw
 cases Iv.inv o with
 | zero=>rfl
 | succ m=>unfold vwF;rw[h]
def KJ{n:Nat}{o:ag}(po:o.Perm (rg n)){k:Nat}(h:(fwd o).getLast?=some k):vw o=vw (Wd.ex o k)++[k]:=by
 obtain⟨a,b,c⟩:=Bg po h;have lo:o.length=n:=by rw[po.length_eq,Wd.jV]
 have d:=Fw.oK a () (show o.getD k 0<o.getD (k-1) 0 by have:=bV c;lia);unfold vw;rw[d]
 conv=>lhs;unfold vwF
 rw[h]
def GK{n:Nat}:∀(m:Nat) {o:ag},Iv.inv o=m->o.Perm (rg n)->Wd.jZ (rg n) (vw o)/\Wd.led (rg n) (vw o)=o:=by
 intro m
 induction m with
 | zero=>
  intro o hm po;have e:o=rg n:=Fw.K_ po λk hk=>by
   have:=Fw.oK hk.1 hk.2.1 hk.2.2;lia
  have:vw o=[]:=by unfold vw;rw[hm];rfl
  rw[this,e];exact⟨trivial,rfl⟩
 | succ m ih=>
  intro o hm po
  cases h:(fwd o).getLast? with
  | none=>
   have e:=IB po h;rw[e,Fw.wV]at hm
   cases hm
  | some k=>
   obtain⟨a,b,c⟩:=Bg po h;have lo:o.length=n:=by rw[po.length_eq,Wd.jV]
   have cc:=bV c;have d:=Fw.oK a () (show o.getD k 0<o.getD (k-1) 0 by lia);obtain⟨i1,i2⟩:=ih (o:=Wd.ex o k) () (nM po a b);rw[KJ po h];obtain⟨z1,z2⟩:=Su.JM a (show k<o.length by lia);refine⟨Wd.jZ.snoc i1 a (by rw[Wd.jV];exact b) (by rw[i2,z1,z2];lia),?_⟩;rw[Wd.tX,i2];exact Fw.wm a ()
def xh(n:Nat):Fwd n vw:=⟨λo po=>(GK _ rfl po).1,λo po=>(GK _ rfl po).2⟩
noncomputable def tV (n:Nat)(o:ag):Ps:=tO n (vw o)
def Ww{n:Nat}{o:ag}(po:o.Perm (rg n))(h:(fwd o).getLast?=none):tV n o=[(o,[((0:Int),(1:Int))])]:=by
 unfold tV;rw[Xb h,IB po h];rfl
def RV{n:Nat}{o:ag}(po:o.Perm (rg n)){k:Nat}(h:(fwd o).getLast?=some k):tV n o=yb k (tV n (Wd.ex o k)):=by
 unfold tV;rw[KJ po h];exact NX _ _ _
theorem FB.Y{n P k:Nat}{f:Fn}(h:FB n P C f)(h0:1<=k)(h1:k<n):FB n (P+1) (5 * C) (Y k f):=by
 have x:=h.X h0 h1;refine⟨λo po t=>?_,λo po t ht=>?_⟩
 ·have a:=x.c o po t;have b:=h.c o po (t+1);have d:=h.c o po (t-1);show(He.X k f o t-(f o (t+1)-f o (t-1))).natAbs<=_;lia
 ·have a:=x.p o po t ();have b:=h.p o po (t+1) ();have d:=h.p o po (t-1) ();show He.X k f o t-(f o (t+1)-f o (t-1))=0;lia
theorem Sz.yb{n P k:Nat}{l:Ps}(h:Sz n P C l)(h0:1<=k)(h1:k<n):Sz n (P+1) (5 * C) (yb k l):=by
 obtain⟨a,b,c⟩:=J7 h0 h1 h.pm;exact⟨a,b,(h.fb.Y h0 h1).eq c⟩
theorem Sz.Kq{n:Nat}:∀{w:am}{P C:Nat}{l:Ps},Sz n P C l->Va n w->Sz n (P+w.length) (5 ^ w.length * C) (Kq w l)
 | [],P,C,l,h,_=>by
  show Sz n (P+0) (1 * C) l;rw[add_zero,eF];exact h
 | k::w,P,C,l,h,v=>by
  have v1:=v k (aJ ..);have:=Sz.Kq (h.yb v1.1 v1.2) (w:=w) λj hj=>v j (aL _ hj);show Sz n (P+(w.length+1)) (5 ^ (w.length+1) * C) (He.Kq w (He.yb k l));rw[show P+(w.length+1)=P+1+w.length by lia,Nat.pow_succ,Nat.mul_assoc];exact this
def WT(n:Nat):Sz n 0 1 (one n):=Sz.of (DH n) (BO n) λe he=>by
 rw[aP.mp he];exact⟨λq hq=>by rw[aP.mp hq];decide,λq hq=>by rw[aP.mp hq];decide⟩
def Pn{n:Nat}(hn:n<6){o:ag}(po:o.Perm (rg n)):Sz n 25 (5 ^ 25) (tV n o):=by
 obtain⟨a,b⟩:=GK _ rfl po;have l:=qp a;rw[b,Fw.wV]at l;have i:=BJ hn po;have:=(WT n).Kq ((xh n).va po);refine this.mono () ?_;rw[Nat.mul_one];exact iN ⋯ ()
theorem PB.turn{c:Nat}{p:Pl}(h:PB Q c p):PB Q c (turn p):=by
 refine⟨λq hq=>?_,λq hq=>?_⟩
 ·obtain⟨x,hx,rfl⟩:=bA.mp hq;exact h.c x (eK.mp hx)
 ·obtain⟨x,hx,rfl⟩:=bA.mp hq;have:=h.p x (eK.mp hx);show(-x.1).natAbs<=Q;lia
def BR(p:Pl):(turn p).length=p.length:=by unfold turn;rw[aH,fO]
theorem FB.Bt{n c K:Nat}(hn:n<6):∀{m:Ps},(∀x∈m,x.1.Perm (rg n))->(∀x∈m,PB Q c x.2/\x.2.length<=K)->FB n (25+Q) (m.length * (K * (c * 5 ^ 25))) (Bt n m)
 | [],_,_=>FB.zero ..
 | e::m,hm,hb=>by
  have he:=hm e (aJ ..);obtain⟨b1,b2⟩:=hb e (aJ ..);have i:=FB.Bt hn (m:=m) (λx hx=>hm x (aL _ hx)) λx hx=>hb x (aL _ hx);have t:=(Pn hn he).fb.eq (Ra he (GK _ rfl he).1 (GK _ rfl he).2).2.2.symm;have b:=(t.lE b1.turn).mono (P':=25+Q) (C':=K * (c * 5 ^ 25)) (aO _) (by rw[BR];exact bN _ b2);have d:=b.add i;show FB n _ ((m.length+1) * _) (He.add _ _);rw[eB,jt (m.length * _)];exact d
theorem Sz.tu{n c:Nat}(hn:n<6)(h:Sz n Q c m):Sz n (25+Q) (120 * ((2 * Q+1) * (c * 5 ^ 25))) (tu n vw m):=by
 obtain⟨a,b,d⟩:=rf (xh n) h.pm;exact⟨a,b,((FB.Bt hn h.pm λx hx=>h.pb hx).mono (aO _) (bN _ (h.many hn))).eq d⟩
theorem Sz.E_{n P c:Nat}{l:Ps}(h:Sz n P C l){p:Pl}(b:PB Q c p):Sz n (P+Q) (p.length * (c * C)) (E_ p l):=by
 obtain⟨a1,a2⟩:=yP (p:=p) h.pm;exact⟨a1,a2,by rw[AX];exact h.fb.lE b⟩
end He
namespace K30
open PySem L2 Am
noncomputable def top (i:Nat):aE:=PySem.Challenge.pw_undercells_k30_turning_twice_home.main.body.getD i (.Pass ⟨0,0,0,0⟩)
noncomputable abbrev wX:aE:=top 5
noncomputable abbrev wH:ar:=["thing"]
noncomputable abbrev w_:ar:=["thing"]
noncomputable def wN:Sm:=
 kQ (Qy (ki (f2 AA) (jC (jF 0) (jC (eC (.ty "int")) jI))) (Xp (ki (f2 AA) (jC (jF 0) (jC (eC (.ty "bool")) jI)))))
noncomputable def qF:ae->jK->R A:=lV wH wN
noncomputable abbrev vd:aE:=top 6
noncomputable abbrev u7:ar:=["one", "other"]
noncomputable abbrev uV:ar:=["one", "other"]
noncomputable def uv:Sm:=
 u_ (v_ (jO (rB true) (ki (f1 qH) (jC (jF 0) jI)) (ki (f1 qH) (jC (jF 1) jI))))
 (sNo)
 nF
noncomputable def pJ:ae->jK->R A:=lV u7 uv
noncomputable abbrev Ip:aE:=top 7
noncomputable abbrev G0:ar:=["order", "places", "at", "thing"]
noncomputable abbrev DF:ar:=["order"]
noncomputable def QU:Ic:=
 Ss (jF 0)
noncomputable def E2:Sm:=
 kI (jO lK (jF 2) (eC (.int 1))) (X5 (jF 1) (jO aSub (jF 3) (eC (.int 1))))
noncomputable def Ib:Sm:=
 kc (kI (jO Ew (nJ (jC (eC (.int 0)) jI)) (ki (f1 qH) (jC (jF 0) jI))) (kL 1))
 (kc (lX QU (yp 2 (o8 (kL 2) (o8 (kL 3) yo)))
 E2)
 (kQ (ki (f1 ur) (jC (jF 1) jI))))
noncomputable def uR:ae->jK->R A:=lV G0 Ib
noncomputable abbrev r6:aE:=top 8
noncomputable abbrev rT:ar:=["n", "thing"]
noncomputable abbrev rZ:ar:=["n", "thing"]
noncomputable def rR:Sm:=
 kQ (Qy (eFn qF (jC (jF 1) jI)) (YY aLe Yo (eC (.int 1)) (jF 1) (jF 0)))
noncomputable def nL:ae->jK->R A:=lV rT rR
noncomputable abbrev nZ:aE:=top 9
noncomputable abbrev n5:ar:=["order", "i", "j", "things"]
noncomputable abbrev n9:ar:=["order", "i", "j"]
noncomputable def n6:Sm:=
 kc (kI (ki (f1 sG) (jC (jF 0) jI)) (kL 3))
 (kc (kI (mE (jC (jO oA (jF 3) (jO aSub (jF 2) (eC (.int 1)))) (jC (jO oA (jF 3) (jO aSub (jF 1) (eC (.int 1)))) jI))) (yp 2 (o8 (X5 (jF 3) (jO aSub (jF 1) (eC (.int 1)))) (o8 (X5 (jF 3) (jO aSub (jF 2) (eC (.int 1)))) yo))))
 (kQ (ki (f1 ur) (jC (jF 3) jI))))
noncomputable def lI:ae->jK->R A:=lV n5 n6
noncomputable abbrev uX:aE:=top 10
noncomputable abbrev uD:ar:=["order", "k"]
noncomputable abbrev mw:ar:=["order", "k"]
noncomputable def u9:Sm:=
 kc (u_ (vZ (p9 (eFn nL (jC (ki (f1 qH) (jC (jF 0) jI)) (jC (jF 1) jI)))))
 (sNo)
 nF)
 (kQ (eFn lI (jC (jF 0) (jC (jF 1) (jC (jO lK (jF 1) (eC (.int 1))) jI)))))
noncomputable def kM:ae->jK->R A:=lV uD u9
noncomputable abbrev DN:aE:=top 11
noncomputable abbrev DO:ar:=["order"]
noncomputable abbrev vQ:ar:=["order"]
noncomputable def Eo:Sm:=
 kQ (kZ [none,some 0] (AK (eC (.int 1)) (ki (f1 qH) (jC (jF 0) jI))) (kL 0) (v_ (jO Wm (jO oA (jF 1) (jO aSub (jF 0) (eC (.int 1)))) (jO oA (jF 1) (jF 0)))) (jF 0))
noncomputable def oO:ae->jK->R A:=lV DO Eo
noncomputable abbrev pT:aE:=top 14
noncomputable abbrev pO:ar:=["numbers"]
noncomputable abbrev nV:ar:=["numbers"]
noncomputable def pP:Sm:=
 kQ (kZ [none,some 0] (m9 (ki (f1 AZ) (jC (jF 0) jI))) (kL 0) (v_ (jO (rB true) (jO AY (jF 1) (jF 0)) (eC (.int 0)))) (mE (jC (jF 0) (jC (jO AY (jF 1) (jF 0)) jI))))
noncomputable def lz:ae->jK->R A:=lV pO pP
noncomputable abbrev G4:aE:=top 15
noncomputable abbrev Hi:ar:=["one", "other", "numbers", "power", "number"]
noncomputable abbrev HS:ar:=["one", "other"]
noncomputable def yh:Ic:=
 m9 (jF 1)
noncomputable def E6:Sm:=
 kI (jO lK (LN zl (jF 2) (jC (jF 3) (jC (eC (.int 0)) jI))) (jF 4)) (MA (jF 2) (jF 3))
noncomputable def HV:Sm:=
 kc (kI (ki (f1 Iu) (jC (jF 0) jI)) (kL 2))
 (kc (lX yh (yp 2 (o8 (kL 3) (o8 (kL 4) yo)))
 E6)
 (kQ (eFn lz (jC (jF 2) jI))))
noncomputable def BH:ae->jK->R A:=lV Hi HV
noncomputable abbrev Eb:aE:=top 16
noncomputable abbrev Dg:ar:=["one", "other", "numbers", "power", "number", "high", "many"]
noncomputable abbrev vW:ar:=["one", "other"]
noncomputable def Mp:Ic:=
 m9 (jF 1)
noncomputable def MJ:Sm:=
 kI (jO lK (LN zl (jF 2) (jC (jO lK (jF 3) (jF 5)) (jC (eC (.int 0)) jI))) (jO K2 (jF 4) (jF 6))) (MA (jF 2) (jO lK (jF 3) (jF 5)))
noncomputable def CS:Ic:=
 m9 (jF 0)
noncomputable def CO:Sm:=
 lX Mp (yp 2 (o8 (kL 5) (o8 (kL 6) yo)))
 MJ
noncomputable def El:Sm:=
 kc (kI Io (kL 2))
 (kc (lX CS (yp 2 (o8 (kL 3) (o8 (kL 4) yo)))
 CO)
 (kQ (eFn lz (jC (jF 2) jI))))
noncomputable def nv:ae->jK->R A:=lV Dg El
noncomputable abbrev A4:aE:=top 17
noncomputable abbrev A3:ar:=["one"]
noncomputable abbrev xR:ar:=["one"]
noncomputable def Af:Sm:=
 kQ (kZ [none,none] (iRv (jF 0)) (yp 2 (o8 (kL 0) (o8 (kL 1) yo))) qN (mE (jC (Ei tH (jF 0)) (jC (jF 1) jI))))
noncomputable def pD:ae->jK->R A:=lV A3 Af
noncomputable abbrev tU:aE:=top 20
noncomputable abbrev tR:ar:=["found", "order", "poly"]
noncomputable abbrev mG:ar:=["found", "order", "poly"]
noncomputable def sX:Sm:=
 kI (eFn BH (jC (Xo XS (jF 0) (jC (jF 1) (jC (nJ jI) jI))) (jC (jF 2) jI))) (DL (jF 0) (jF 1))
noncomputable def ku:ae->jK->R A:=lV tR sX
noncomputable abbrev A5:aE:=top 21
noncomputable abbrev Bo:ar:=["found"]
noncomputable abbrev qq:ar:=["found"]
noncomputable def Bp:Sm:=
 kQ (kZ [none,some 0] (m9 (ki (f1 yR) (jC (jF 0) jI))) (kL 0) (p9 (jO xX (jF 1) (jF 0))) (mE (jC (jF 0) (jC (jO xX (jF 1) (jF 0)) jI))))
noncomputable def l_:ae->jK->R A:=lV Bo Bp
noncomputable abbrev vc:aE:=top 22
noncomputable abbrev uA:ar:=["one", "other"]
noncomputable abbrev qW:ar:=["one", "other"]
noncomputable def uy:Sm:=
 u_ (UL (p9 (jF 0)) (p9 (jF 1)))
 (oF (eFn pJ (jC (jO oA (jO oA (jF 0) (eC (.int 0))) (eC (.int 0))) (jC (jO oA (jO oA (jF 1) (eC (.int 0))) (eC (.int 0))) jI))))
 nF
noncomputable def nh:ae->jK->R A:=lV uA uy
noncomputable abbrev EE:aE:=top 23
noncomputable abbrev EJ:ar:=["one", "other", "found", "order", "poly"]
noncomputable abbrev yc:ar:=["one", "other"]
noncomputable def vm:Ic:=
 m9 (jO lK (jF 0) (jF 1))
noncomputable def Ct:Sm:=
 oF (eFn ku (jC (jF 2) (jC (jF 3) (jC (jF 4) jI))))
noncomputable def Ey:Sm:=
 kc (oF (eFn nh (jC (jF 0) (jC (jF 1) jI))))
 (kc (kI wc (kL 2))
 (kc (lX vm (yp 2 (o8 (kL 3) (o8 (kL 4) yo)))
 Ct)
 (kQ (eFn l_ (jC (jF 2) jI)))))
noncomputable def nR:ae->jK->R A:=lV EJ Ey
noncomputable abbrev Aw:aE:=top 24
noncomputable abbrev Bx:ar:=["poly", "one", "found", "order", "many"]
noncomputable abbrev vh:ar:=["poly", "one"]
noncomputable def t7:Ic:=
 m9 (jF 1)
noncomputable def tQ:Sm:=
 oF (eFn ku (jC (jF 2) (jC (jF 3) (jC (eFn nv (jC (jF 0) (jC (jF 4) jI))) jI))))
noncomputable def Be:Sm:=
 kc (kI wc (kL 2))
 (kc (lX t7 (yp 2 (o8 (kL 3) (o8 (kL 4) yo)))
 tQ)
 (kQ (eFn l_ (jC (jF 2) jI))))
noncomputable def mS:ae->jK->R A:=lV Bx Be
noncomputable abbrev rW:aE:=top 25
noncomputable abbrev rJ:ar:=["one", "k", "found", "order", "poly"]
noncomputable abbrev mV:ar:=["one", "k"]
noncomputable def nU:Ic:=
 m9 (jF 0)
noncomputable def mO:Sm:=
 kc (oF (eFn ku (jC (jF 2) (jC (eFn kM (jC (jF 3) (jC (jF 1) jI))) (jC (jF 4) jI)))))
 (u_ (v_ (jO (aIn false) (jF 1) (eFn oO (jC (jF 3) jI))))
 (oF (eFn ku (jC (jF 2) (jC (jF 3) (jC (eFn nv (jC (ki (f1 sG) (jC (eC (.frz ([((-1:Int),(1:Int)),((1:Int),(-1:Int))].map kA))) jI)) (jC (jF 4) jI))) jI)))))
 nF)
noncomputable def rL:Sm:=
 kc (kI wc (kL 2))
 (kc (lX nU (yp 2 (o8 (kL 3) (o8 (kL 4) yo)))
 mO)
 (kQ (eFn l_ (jC (jF 2) jI))))
noncomputable def kW:ae->jK->R A:=lV rJ rL
noncomputable abbrev sP:aE:=top 26
noncomputable abbrev qj:ar:=["one", "order", "known", "ends", "ahead"]
noncomputable abbrev oW:ar:=["one", "order", "known"]
noncomputable def qA (Fs:ae->jK->R A):Sm:=
 kc (u_ (v_ (jO (Mu true) (jF 1) (jF 2)))
 (kc (kI (eFn oO (jC (jF 1) jI)) (kL 3))
 (u_ (p9 (jF 3))
 (kc (kI (eFn Fs (jC (jF 0) (jC (eFn kM (jC (jF 1) (jC (jO oA (jF 3) (eC (.int 0))) jI))) (jC (jF 2) jI)))) (kL 4))
 (kI (eFn kW (jC (jF 4) (jC (jO oA (jF 3) (eC (.int 0))) jI))) (DL (jF 2) (jF 1))))
 (kI (jF 0) (DL (jF 2) (jF 1)))))
 nF)
 (kQ (jO xX (jF 2) (jF 1)))
noncomputable def pK:Nat->ae->jK->R A
 | 0=>λ_ _=>.no
 | k+1=>lV qj (qA (pK k))
noncomputable def wC:ae->jK->R A:=pK 26
noncomputable abbrev uE:aE:=top 27
noncomputable abbrev uO:ar:=["one", "other", "found", "known", "order", "poly", "at", "many"]
noncomputable abbrev uW:ar:=["one", "other"]
noncomputable def rP:Ic:=
 m9 (eFn wC (jC (jF 0) (jC (jF 4) (jC (jF 3) jI))))
noncomputable def rD:Sm:=
 oF (eFn ku (jC (jF 2) (jC (jF 6) (jC (eFn nv (jC (jF 5) (jC (jF 7) jI))) jI))))
noncomputable def o_:Ic:=
 m9 (jF 1)
noncomputable def o7:Sm:=
 lX rP (yp 2 (o8 (kL 6) (o8 (kL 7) yo)))
 rD
noncomputable def uB:Sm:=
 kc (kI wc (kL 2))
 (kc (kI wc (kL 3))
 (kc (lX o_ (yp 2 (o8 (kL 4) (o8 (kL 5) yo)))
 o7)
 (kQ (eFn l_ (jC (jF 2) jI)))))
noncomputable def oh:ae->jK->R A:=lV uO uB
noncomputable abbrev sV:aE:=top 28
noncomputable abbrev t6:ar:=["one"]
noncomputable abbrev tZ:ar:=["one"]
noncomputable def sR:Sm:=
 kQ (ki (f1 DA) (jC (kZ [none,none] (m9 (jF 0)) (yp 2 (o8 (kL 0) (o8 (kL 1) yo))) qN (mE (jC (eFn uR (jC (jF 0) jI)) (jC (jF 1) jI)))) jI))
noncomputable def mK:ae->jK->R A:=lV t6 sR
noncomputable abbrev yN:aE:=top 29
noncomputable abbrev vX:ar:=["one", "other"]
noncomputable abbrev zc:ar:=["one", "other"]
noncomputable def vj:Sm:=
 kc (oF (eFn nh (jC (jF 0) (jC (jF 1) jI))))
 (kc (u_ (v_ (jO ZO (ki (f1 qH) (jC (jF 0) jI)) (ki (f1 qH) (jC (jF 1) jI))))
 (kQ (eFn oh (jC (jF 0) (jC (jF 1) jI))))
 nF)
 (kQ (eFn mK (jC (eFn oh (jC (eFn mK (jC (jF 1) jI)) (jC (eFn mK (jC (jF 0) jI)) jI))) jI))))
noncomputable def mU:ae->jK->R A:=lV vX vj
noncomputable abbrev tB:aE:=top 31
noncomputable abbrev tP:ar:=["order", "left", "word", "can_begin"]
noncomputable abbrev qc:ar:=["order"]
noncomputable def qB:Te:=
 p9 (jF 3)
noncomputable def qv:Sm:=
 kc (oF (Uc qQ (jF 2) (jC (jO oA (jF 3) (eC (.int 0))) jI)))
 (kc (kI (eFn kM (jC (jF 1) (jC (jO oA (jF 3) (eC (.int 0))) jI))) (kL 1))
 (kI (eFn oO (jC (jF 1) jI)) (kL 3)))
noncomputable def sW:Sm:=
 kc (kI (eFn uR (jC (jF 0) jI)) (kL 1))
 (kc (kI (nJ jI) (kL 2))
 (kc (kI (eFn oO (jC (jF 1) jI)) (kL 3))
 (kc (nW qB
 qv 1000000)
 (kQ (jF 2)))))
noncomputable def ny:ae->jK->R A:=lV tP sW
noncomputable abbrev oN:aE:=top 33
noncomputable abbrev m7:ar:=["order", "known", "word", "ahead"]
noncomputable abbrev mh:ar:=["order", "known"]
noncomputable def ng (Fs:ae->jK->R A):Sm:=
 kc (u_ (v_ (jO (Mu true) (jF 0) (jF 1)))
 (kc (kI (eFn ny (jC (jF 0) jI)) (kL 2))
 (u_ (p9 (jF 2))
 (kc (kI (eFn Fs (jC (eFn kM (jC (jF 0) (jC (jO oA (jF 2) (Ei tH (eC (.int 1)))) jI))) (jC (jF 1) jI))) (kL 3))
 (kI (eFn nR (jC (eFn kW (jC (jF 3) (jC (jO oA (jF 2) (Ei tH (eC (.int 1)))) jI))) (jC (eFn mS (jC (ki (f1 sG) (jC (eC (.frz ([((-1:Int),(-1:Int)),((1:Int),(1:Int))].map kA))) jI)) (jC (jF 3) jI))) jI))) (DL (jF 1) (jF 0))))
 (kI (nJ (jC (mE (jC (jF 0) (jC (nJ (jC (mE (jC (eC (.int 0)) (jC (eC (.int 1)) jI))) jI)) jI))) jI)) (DL (jF 1) (jF 0)))))
 nF)
 (kQ (jO xX (jF 1) (jF 0)))
noncomputable def mT:Nat->ae->jK->R A
 | 0=>λ_ _=>.no
 | k+1=>lV m7 (ng (mT k))
noncomputable def qG:ae->jK->R A:=mT 26
noncomputable abbrev yI:aE:=top 34
noncomputable abbrev yM:ar:=["one", "found", "known", "order", "poly", "at", "many"]
noncomputable abbrev vR:ar:=["one"]
noncomputable def uZ:Ic:=
 m9 (eFn qG (jC (jF 3) (jC (jF 2) jI)))
noncomputable def vg:Sm:=
 oF (eFn ku (jC (jF 1) (jC (jF 5) (jC (eFn nv (jC (eFn pD (jC (jF 4) jI)) (jC (jF 6) jI))) jI))))
noncomputable def qV:Ic:=
 m9 (jF 0)
noncomputable def rj:Sm:=
 lX uZ (yp 2 (o8 (kL 5) (o8 (kL 6) yo)))
 vg
noncomputable def yX:Sm:=
 kc (kI wc (kL 1))
 (kc (kI wc (kL 2))
 (kc (lX qV (yp 2 (o8 (kL 3) (o8 (kL 4) yo)))
 rj)
 (kQ (eFn l_ (jC (jF 1) jI)))))
noncomputable def kg:ae->jK->R A:=lV yM yX
noncomputable abbrev y_:aE:=top 36
noncomputable abbrev yU:ar:=["_law_script", "_law_at", "_law_cell", "_law_great"]
noncomputable abbrev y9:ar:=["_law_script", "_law_at"]
noncomputable def yH:Sm:=
 kc (kI (eC (.int 0)) (kL 2))
 (kc (u_ (v_ (jO Yo (jF 1) (ki (f1 qH) (jC (jF 0) jI))))
 (kI (jO oA (jF 0) (jF 1)) (kL 2))
 nF)
 (kc (kI (eC (.int 0)) (kL 3))
 (kc (u_ (v_ (jO ZO (jF 2) (jO GX (eC (.int 10)) (eC (.int 18)))))
 (kI (jF 2) (kL 3))
 nF)
 (kQ (nJ (jC (jF 3) (jC (jO D7 (jO lK (jO lK (jF 2) (jO Ew (eC (.int 7919)) (jF 1))) (eC (.int 13))) (eC (.int 2147483647))) jI)))))))
noncomputable def r_:ae->jK->R A:=lV yU yH
noncomputable abbrev uU:aE:=top 37
noncomputable abbrev qZ:ar:=["_law_bag_here", "_law_many", "_law_found"]
noncomputable abbrev n_:ar:=["_law_bag_here", "_law_many"]
noncomputable def qU:Sm:=
 kc (u_ (v_ (jO Wm (jO oA (jF 0) (eC (.int 0))) (eC (.int 0))))
 (kc (kI (jO D7 (jO oA (jF 0) (eC (.int 0))) (jF 1)) (kL 2))
 (kc (kI (jO Lo (jO oA (jF 0) (eC (.int 0))) (jF 1)) (X5 (jF 0) (eC (.int 0))))
 (kQ (jF 2))))
 nF)
 (kc (kI (jO D7 (jO lK (jO Ew (jO oA (jF 0) (eC (.int 1))) (eC (.int 48271))) (eC (.int 11))) (eC (.int 2147483647))) (X5 (jF 0) (eC (.int 1))))
 (kQ (jO D7 (jO D7 (jO Ew (jO Lo (jO oA (jF 0) (eC (.int 1))) (eC (.int 8))) (eC (.int 69621))) (eC (.int 2147483629))) (jF 1))))
noncomputable def jR:ae->jK->R A:=lV qZ qU
noncomputable abbrev uS:aE:=top 38
noncomputable abbrev uz:ar:=["_law_bag_here", "_law_n", "_law_left", "_law_made"]
noncomputable abbrev uM:ar:=["_law_bag_here", "_law_n"]
noncomputable def rO:Te:=
 v_ (jO Wm (ki (f1 qH) (jC (jF 2) jI)) (eC (.int 0)))
noncomputable def rE:Sm:=
 oF (Uc qQ (jF 3) (jC (Uc Hf (jF 2) (jC (eFn jR (jC (jF 0) (jC (ki (f1 qH) (jC (jF 2) jI)) jI))) jI)) jI))
noncomputable def ux:Sm:=
 kc (kI (ki (f1 sG) (jC (ki (f2 zL) (jC (eC (.int 1)) (jC (jO lK (jF 1) (eC (.int 1))) jI))) jI)) (kL 2))
 (kc (kI (nJ jI) (kL 3))
 (kc (nW rO
 rE 1000000)
 (kQ (ki (f1 ur) (jC (jF 3) jI)))))
noncomputable def pH:ae->jK->R A:=lV uz ux
noncomputable abbrev pM:aE:=top 39
noncomputable abbrev pW:ar:=["_law_bag_here", "_law_n", "_law_most", "_law_held", "_law_k", "_law_one", "_law_power", "_law_own", "_law_shift"]
noncomputable abbrev pR:ar:=["_law_bag_here", "_law_n", "_law_most"]
noncomputable def rm:Ic:=
 se (jO lK (eC (.int 1)) (eFn jR (jC (jF 0) (jC (jF 2) jI))))
noncomputable def qY:Sm:=
 kc (kI (eFn pH (jC (jF 0) (jC (jF 1) jI))) (kL 5))
 (kc (kI (jO aSub (eFn jR (jC (jF 0) (jC (eC (.int 5)) jI))) (eC (.int 2))) (kL 6))
 (kc (kI (nJ (jC (mE (jC (jF 6) (jC (jO lK (eC (.int 1)) (eFn jR (jC (jF 0) (jC (eC (.int 3)) jI)))) jI))) jI)) (kL 7))
 (kc (u_ (v_ (jO (rB false) (eFn jR (jC (jF 0) (jC (eC (.int 2)) jI))) (eC (.int 1))))
 (oF (Uc qQ (jF 7) (jC (mE (jC (jO lK (jO lK (jF 6) (eC (.int 1))) (eFn jR (jC (jF 0) (jC (eC (.int 3)) jI)))) (jC (jO oA (nJ (jC (Ei tH (eC (.int 2))) (jC (Ei tH (eC (.int 1))) (jC (eC (.int 1)) (jC (jO GX (eC (.int 10)) (eC (.int 20))) jI))))) (eFn jR (jC (jF 0) (jC (eC (.int 4)) jI)))) jI))) jI)))
 nF)
 (kc (kI (jO oA (nJ (jC (eC (.int 0)) (jC (eC (.int 0)) (jC (eC (.int 55)) (jC (Ei tH (eC (.int 55))) jI))))) (eFn jR (jC (jF 0) (jC (eC (.int 4)) jI)))) (kL 8))
 (kI (kZ [none,none,some 8] (m9 (jF 7)) (yp 2 (o8 (kL 0) (o8 (kL 1) yo))) qN (mE (jC (jO lK (jF 0) (jF 2)) (jC (jF 1) jI)))) (DL (jF 3) (jF 5)))))))
noncomputable def pQ:Sm:=
 kc (kI wc (kL 3))
 (kc (lX rm (kL 4)
 qY)
 (kQ (kZ [none,some 3] (m9 (ki (f1 yR) (jC (jF 3) jI))) (kL 0) qN (mE (jC (jF 0) (jC (jO xX (jF 1) (jF 0)) jI))))))
noncomputable def ly:ae->jK->R A:=lV pW pQ
noncomputable abbrev rF:aE:=top 40
noncomputable abbrev rX:ar:=["_law_found", "_law_one", "_law_number"]
noncomputable abbrev r9:ar:=["_law_found"]
noncomputable def ue:Ic:=
 m9 (jF 1)
noncomputable def t9:Sm:=
 u_ (Mc (vZ (p9 (ki (f2 AA) (jC (jF 2) (jC (eC (.ty "int")) jI))))) (p9 (ki (f2 AA) (jC (jF 2) (jC (eC (.ty "bool")) jI)))))
 (kQ (eC (.bl false)))
 nF
noncomputable def uc:Ic:=
 m9 (jF 0)
noncomputable def t_:Sm:=
 kc (u_ (Mc (vZ (p9 (ki (f2 AA) (jC (jF 1) (jC (eC (.ty "tuple")) jI))))) (Mc (v_ (jO (rB true) (ki (f1 qH) (jC (jF 1) jI)) (eC (.int 2)))) (v_ (jO (rB false) (jO oA (jF 1) (eC (.int 1))) (eC (.int 0))))))
 (kQ (eC (.bl false)))
 nF)
 (lX ue (kL 2)
 t9)
noncomputable def rV:Sm:=
 kc (u_ (vZ (p9 (ki (f2 AA) (jC (jF 0) (jC (eC (.ty "list")) jI)))))
 (kQ (eC (.bl false)))
 nF)
 (kc (lX uc (kL 1)
 t_)
 (kQ (ki (f1 RA) (jC (kZ [none,some 0] (se (jO aSub (ki (f1 qH) (jC (jF 0) jI)) (eC (.int 1)))) (kL 0) qN (jO Yo (jO oA (jO oA (jF 1) (jF 0)) (eC (.int 0))) (jO oA (jO oA (jF 1) (jO lK (jF 0) (eC (.int 1)))) (eC (.int 0))))) jI))))
noncomputable def nN:ae->jK->R A:=lV rX rV
noncomputable abbrev sY:aE:=top 41
noncomputable abbrev sM:ar:=["_law_found", "_law_one"]
noncomputable abbrev s_:ar:=["_law_found"]
noncomputable def uG:Ic:=
 m9 (jF 0)
noncomputable def uQ:Sm:=
 kc (u_ (Mc (vZ (p9 (ki (f2 AA) (jC (jF 1) (jC (eC (.ty "tuple")) jI))))) (Mc (v_ (jO (rB true) (ki (f1 qH) (jC (jF 1) jI)) (eC (.int 2)))) (vZ (p9 (ki (f2 AA) (jC (jO oA (jF 1) (eC (.int 0))) (jC (eC (.ty "tuple")) jI)))))))
 (kQ (eC (.bl false)))
 nF)
 (u_ (Mc (vZ (p9 (eFn nN (jC (jO oA (jF 1) (eC (.int 1))) jI)))) (v_ (jO (rB false) (jO oA (jF 1) (eC (.int 1))) (nJ jI))))
 (kQ (eC (.bl false)))
 nF)
noncomputable def sZ:Sm:=
 kc (u_ (vZ (p9 (ki (f2 AA) (jC (jF 0) (jC (eC (.ty "list")) jI)))))
 (kQ (eC (.bl false)))
 nF)
 (kc (lX uG (kL 1)
 uQ)
 (kQ (eC (.bl true))))
noncomputable def oM:ae->jK->R A:=lV sM sZ
noncomputable abbrev wW:aE:=top 42
noncomputable abbrev wR:ar:=["_law_some"]
noncomputable abbrev xg:ar:=["_law_some"]
noncomputable def wY:Sm:=
 kQ (kZ [none,none] (m9 (jF 0)) (yp 2 (o8 (kL 0) (o8 (kL 1) yo))) qN (mE (jC (jF 0) (jC (ki (f1 sG) (jC (jF 1) jI)) jI))))
noncomputable def oX:ae->jK->R A:=lV wR wY
noncomputable abbrev xj:aE:=top 43
noncomputable abbrev wD:ar:=["_law_bag_here", "_law_n", "_law_most", "_law_made", "_law_k", "_law_at"]
noncomputable abbrev wJ:ar:=["_law_bag_here", "_law_n", "_law_most"]
noncomputable def xH:Ic:=
 se (eFn jR (jC (jF 0) (jC (jO lK (jF 2) (eC (.int 1))) jI)))
noncomputable def xQ:Sm:=
 kc (kI (jO lK (eC (.int 1)) (eFn jR (jC (jF 0) (jC (jO aSub (jF 1) (eC (.int 1))) jI)))) (kL 5))
 (kI (jO lK (jO lK (YZ (jF 3) Cv (CU (jO aSub (jF 5) (eC (.int 1))))) (nJ (jC (jO oA (jF 3) (jF 5)) (jC (jO oA (jF 3) (jO aSub (jF 5) (eC (.int 1)))) jI)))) (YZ (jF 3) (CU (jO lK (jF 5) (eC (.int 1)))) Cv)) (kL 3))
noncomputable def wI:Sm:=
 kc (kI (ki (f1 sG) (jC (ki (f2 zL) (jC (eC (.int 1)) (jC (jO lK (jF 1) (eC (.int 1))) jI))) jI)) (kL 3))
 (kc (lX xH (kL 4)
 xQ)
 (kQ (ki (f1 ur) (jC (jF 3) jI))))
noncomputable def oV:ae->jK->R A:=lV wD wI
noncomputable abbrev u5:aE:=top 44
noncomputable abbrev uY:ar:=["_law_found", "_law_k"]
noncomputable abbrev uN:ar:=["_law_found"]
noncomputable def wj:Ic:=
 se (ki (f1 qH) (jC (jF 0) jI))
noncomputable def we:Sm:=
 oF (Uc qQ (jO oA (jO oA (jF 0) (jF 1)) (eC (.int 1))) (jC (mE (jC (jO lK (eC (.int 100)) (jF 1)) (jC (eC (.int 1)) jI))) jI))
noncomputable def uJ:Sm:=
 kc (lX wj (kL 1)
 we)
 (kQ (ki (f1 RA) (jC (kZ [none,some 0] (se (ki (f1 qH) (jC (jF 0) jI))) (kL 0) qN (jO (rB false) (jO oA (jO oA (jO oA (jF 1) (jF 0)) (eC (.int 1))) (Ei tH (eC (.int 1)))) (mE (jC (jO lK (eC (.int 100)) (jF 0)) (jC (eC (.int 1)) jI))))) jI)))
noncomputable def pF:ae->jK->R A:=lV uY uJ
noncomputable abbrev wO:aE:=top 45
noncomputable abbrev w6:ar:=["_law_some", "_law_handed", "_law_first", "_law_kept"]
noncomputable abbrev xm:ar:=["_law_some"]
noncomputable def w9:Sm:=
 kc (kI (eFn oX (jC (jF 0) jI)) (kL 1))
 (kc (kI (eFn kg (jC (jF 1) jI)) (kL 2))
 (kc (kI (eFn oX (jC (jF 2) jI)) (kL 3))
 (kc (u_ (Mc (vZ (p9 (eFn oM (jC (jF 2) jI)))) (v_ (jO (rB true) (jF 1) (jF 0))))
 (kQ (eC (.bl false)))
 nF)
 (kc (u_ (Mc (v_ (jO (rB true) (eFn kg (jC (jF 2) jI)) (jF 0))) (v_ (jO (rB true) (jF 2) (jF 3))))
 (kQ (eC (.bl false)))
 nF)
 (kc (u_ (vZ (p9 (eFn pF (jC (jF 2) jI))))
 (kQ (eC (.bl false)))
 nF)
 (kc (oF (Uc qQ (jF 2) (jC (mE (jC (mE (jC (eC (.int 1)) jI)) (jC (nJ (jC (mE (jC (eC (.int 0)) (jC (eC (.int 1)) jI))) jI)) jI))) jI)))
 (kQ (jO (rB false) (eFn kg (jC (jF 1) jI)) (jF 3)))))))))
noncomputable def m8:ae->jK->R A:=lV w6 w9
noncomputable abbrev Pb:aE:=top 46
noncomputable abbrev Rk:ar:=["_law_script", "_law_k", "_law_bag_here", "_law_n", "_law_one", "_law_other", "_law_own"]
noncomputable abbrev V2:ar:=["_law_script"]
noncomputable def J2:Ic:=
 se (ki (f2 QZ) (jC (eC (.int 1)) (jC (ki (f2 Pq) (jC (ki (f1 qH) (jC (jF 0) jI)) (jC (eC (.int 2)) jI))) jI)))
noncomputable def IZ:Sm:=
 kc (kI (eFn r_ (jC (jF 0) (jC (jF 1) jI))) (kL 2))
 (kc (kI (jO oA (jO oA (nJ (jC (nJ (jC (eC (.int 2)) (jC (eC (.int 3)) (jC (eC (.int 3)) (jC (eC (.int 4)) (jC (eC (.int 4)) (jC (eC (.int 4)) (jC (eC (.int 4)) (jC (eC (.int 5)) jI))))))))) (jC (nJ (jC (eC (.int 2)) (jC (eC (.int 3)) (jC (eC (.int 3)) (jC (eC (.int 4)) (jC (eC (.int 4)) (jC (eC (.int 3)) (jC (eC (.int 4)) (jC (eC (.int 4)) jI))))))))) jI))) (ki (f1 Lj) (jC (jO Wm (jF 1) (eC (.int 0))) jI))) (eFn jR (jC (jF 2) (jC (eC (.int 8)) jI)))) (kL 3))
 (kc (kI (eFn ly (jC (jF 2) (jC (jF 3) (jC (jO oA (nJ (jC (eC (.int 6)) (jC (eC (.int 6)) (jC (eC (.int 3)) (jC (eC (.int 1)) jI))))) (jO aSub (jF 3) (eC (.int 2)))) jI)))) (kL 4))
 (kc (kI (eFn ly (jC (jF 2) (jC (jF 3) (jC (jO oA (nJ (jC (eC (.int 6)) (jC (eC (.int 6)) (jC (eC (.int 2)) (jC (eC (.int 1)) jI))))) (jO aSub (jF 3) (eC (.int 2)))) jI)))) (kL 5))
 (kc (u_ (v_ (jO (rB false) (jF 3) (eC (.int 5))))
 (kc (kI (nJ (jC (mE (jC (eFn oV (jC (jF 2) (jC (jF 3) (jC (eC (.int 5)) jI)))) (jC (nJ (jC (mE (jC (eC (.int 0)) (jC (eC (.int 1)) jI))) (jC (mE (jC (eC (.int 2)) (jC (Ei tH (eC (.int 3))) jI))) jI))) jI))) jI)) (kL 4))
 (kI (nJ (jC (mE (jC (eFn oV (jC (jF 2) (jC (jF 3) (jC (eC (.int 2)) jI)))) (jC (nJ (jC (mE (jC (Ei tH (eC (.int 1))) (jC (eC (.int 2)) jI))) jI)) jI))) jI)) (kL 5)))
 nF)
 (kc (u_ (Mc (vZ (p9 (eFn m8 (jC (jF 4) jI)))) (vZ (p9 (eFn m8 (jC (jF 5) jI)))))
 (kQ (eC (.bl false)))
 nF)
 (kc (u_ (v_ (jO (rB true) (eFn kg (jC (eFn nR (jC (jF 4) (jC (jF 5) jI))) jI)) (eFn nR (jC (eFn kg (jC (jF 4) jI)) (jC (eFn kg (jC (jF 5) jI)) jI)))))
 (kQ (eC (.bl false)))
 nF)
 (kc (u_ (v_ (jO (rB true) (eFn kg (jC (eFn mU (jC (jF 4) (jC (jF 5) jI))) jI)) (eFn mU (jC (eFn kg (jC (jF 4) jI)) (jC (eFn kg (jC (jF 5) jI)) jI)))))
 (kQ (eC (.bl false)))
 nF)
 (kc (kI (nJ (jC (mE (jC (jO aSub (eFn jR (jC (jF 2) (jC (eC (.int 5)) jI))) (eC (.int 2))) (jC (jO lK (eC (.int 1)) (eFn jR (jC (jF 2) (jC (eC (.int 9)) jI)))) jI))) (jC (mE (jC (jO lK (eC (.int 3)) (eFn jR (jC (jF 2) (jC (eC (.int 5)) jI)))) (jC (jO aSub (Ei tH (eC (.int 1))) (eFn jR (jC (jF 2) (jC (eC (.int 9)) jI)))) jI))) jI))) (kL 6))
 (u_ (v_ (jO (rB true) (eFn kg (jC (eFn mS (jC (jF 6) (jC (jF 4) jI))) jI)) (eFn mS (jC (eFn pD (jC (jF 6) jI)) (jC (eFn kg (jC (jF 4) jI)) jI)))))
 (kQ (eC (.bl false)))
 nF)))))))))
noncomputable def Q3:Sm:=
 kc (lX J2 (kL 1)
 IZ)
 (kQ (jO (rB false) (eFn kg (jC (nJ jI) jI)) (nJ jI)))
noncomputable def CW:ae->jK->R A:=lV Rk Q3
section
variable {P:aj}{w:ah}{K:au}{mg:Str->Option af}{base:aq}{f:ak}{fd:FuncData}
def ET:FnScope wH w_ (jS wX):=uw rfl rfl rfl ∅
def FH(F:Fun K "is_whole" "is_whole" wX f fd)(aaS:mg "isinstance" = none)(aa1:mg "bool" = none)(aa0:mg "int" = none):FnOk P w K mg base pY 1 f fd w_ (qJ K 1 qF):=uq (m:=wN) F ET λcdv B outer s H E hr=>
 jM (j_ (Oo (j0 xE aaS kX (jE (jD 0) (jE (xS aa0 G9) jL))) (QM (XI (j0 xE aaS kX (jE (jD 0) (jE (xS aa1 Lk) jL)))))))
def Di:FnScope u7 uV (jS vd):=uw rfl rfl rfl ∅
def EH(F:Fun K "need_pair" "need_pair" vd f fd)(aaa:mg "len" = none):FnOk P w K mg base pY 1 f fd uV (qJ K 2 pJ):=uq (m:=uv) F Di λcdv B outer s H E hr=>
 jM (mq (lJ (Cc hr.units) (j0 p7 aaa nB (jE (jD 0) jL)) (j0 p7 aaa nB (jE (jD 1) jL)))
 (jM (U_))
 kK)
def Ad:FnScope G0 DF (jS Ip):=uw rfl rfl rfl ∅
def Tq(F:Fun K "back" "back" Ip f fd)(aaa:mg "len" = none)(abp:mg "enumerate" = none)(aav:mg "tuple" = none):FnOk P w K mg base pY 1 f fd DF (qJ K 1 uR):=uq (m:=Ib) F Ad λcdv B outer s H E hr=>
 jJ (kh (i:=1) Ad.nd (jW Jm (lB (jE jH jL)) (j0 p7 aaa nB (jE (jD 0) jL))))
 (jJ (mY bR rfl (Xl abp (jD 0)) (nG rfl (j3 (jY (i:=2) Ad.nd) (j3 (jY (i:=3) Ad.nd) l9)))
 (jM (pV (jW mj (jD 2) jH) (BL (jD 1) (jW qe (jD 3) jH)))))
 (jM (j_ (lQ (z0 rfl) aav qx (jE (jD 1) jL)))))
def Bf:FnScope rT rZ (jS r6):=uw rfl rfl rfl ∅
def AJ(F:Fun K "is_exchange" "is_exchange" r6 f fd)(abq:mR P w K mg base 1 "is_whole" w_ qF):FnOk P w K mg base pY 2 f fd rZ (qJ K 2 nL):=uq (m:=rR) F Bf λcdv B outer s H E hr=>
 jM (j_ (Oo (ug abq hr (jD 1)) (QM (aac ack (Xm hr.units) jH (jD 1) (jD 0)))))
def pZ:FnScope n5 n9 (jS nZ):=uw rfl rfl rfl ∅
def v8(F:Fun K "exchanged_places" "exchanged_places" nZ f fd)(aad:mg "list" = none)(aav:mg "tuple" = none):FnOk P w K mg base pY 1 f fd n9 (qJ K 3 lI):=uq (m:=n6) F pZ λcdv B outer s H E hr=>
 jJ (kh (i:=3) pZ.nd (lQ (yQ rfl) aad rz (jE (jD 0) jL)))
 (jJ (pV (lD (jE (kO (jD 3) (jW qe (jD 2) jH)) (jE (kO (jD 3) (jW qe (jD 1) jH)) jL))) (nG rfl (j3 (BL (jD 3) (jW qe (jD 1) jH)) (j3 (BL (jD 3) (jW qe (jD 2) jH)) l9))))
 (jM (j_ (lQ (z0 rfl) aav qx (jE (jD 3) jL)))))
def Ep:FnScope uD mw (jS uX):=uw rfl rfl rfl ∅
def Dq(F:Fun K "exchanged" "exchanged" uX f fd)(aaa:mg "len" = none)(abE:mR P w K mg base 2 "is_exchange" rZ nL)(abH:mR P w K mg base 1 "exchanged_places" n9 lI):FnOk P w K mg base pY 3 f fd mw (qJ K 2 kM):=uq (m:=u9) F Ep λcdv B outer s H E hr=>
 jJ (mq (pN (mH (uf abE hr (j0 p7 aaa nB (jE (jD 0) jL)) (jD 1))))
 (jM (U_))
 kK)
 (jM (j_ (MT abH hr (jD 0) (jD 1) (jW mj (jD 1) jH))))
def Pe:FnScope DO vQ (jS DN):=uw rfl rfl rfl ∅
def PX(F:Fun K "falls" "falls" DN f fd)(aak:mg "range" = none)(aaa:mg "len" = none):FnOk P w K mg base pY 1 f fd vQ (qJ K 1 oO):=uq (m:=Eo) F Pe λcdv B outer s H E hr=>
 jM (j_ (o5 (N:=["k", "order"]) (cap:=[none,some 0]) rfl (wz ["order"] rfl ∅ ∅ ∅ ∅ ∅ (dF.mpr ⟨by first|exact Or.inl rfl|exact Or.inr rfl,(nofun)⟩) ⟨rfl,by decide +kernel,trivial⟩) (Ma aak jH (j0 p7 aaa nB (jE (jD 0) jL))) (λ_ _ _ _=>jY (i:=0) (show(["k", "order"]:ar).Nodup by decide +kernel) rfl (Or.inl rfl) (.inr rfl)) (λ_ _ _ _=>EG (lJ (Ur hr.units) (kO (jD 1) (jW qe (jD 0) jH)) (kO (jD 1) (jD 0)))) (λ_ _ _ _=>jD 0)))
def yt:FnScope pO nV (jS pT):=uw rfl rfl rfl ∅
def yF(F:Fun K "as_polynomial" "as_polynomial" pT f fd)(aaV:mg "sorted" = none):FnOk P w K mg base pY 1 f fd nV (qJ K 1 lz):=uq (m:=pP) F yt λcdv B outer s H E hr=>
 jM (j_ (o5 (N:=["power", "numbers"]) (cap:=[none,some 0]) rfl (wz ["numbers"] rfl ∅ ∅ ∅ ∅ ∅ (dF.mpr ⟨by first|exact Or.inl rfl|exact Or.inr rfl,(nofun)⟩) ⟨rfl,by decide +kernel,trivial⟩) (mF (j0 (Uw rfl) aaV vt (jE (jD 0) jL))) (λ_ _ _ _=>jY (i:=0) (show(["power", "numbers"]:ar).Nodup by decide +kernel) rfl (Or.inl rfl) (.inr rfl)) (λ_ _ _ _=>EG (lJ (Cc hr.units) (Q4 hr.units (jD 1) (jD 0)) jH)) (λ_ _ _ _=>lD (jE (jD 0) (jE (Q4 hr.units (jD 1) (jD 0)) jL)))))
def zT:FnScope Hi HS (jS G4):=uw rfl rfl rfl ∅
def Ti(F:Fun K "plus" "plus" G4 f fd)(abM:mg "dict" = none)(aa2:mR P w K mg base 1 "as_polynomial" nV lz):FnOk P w K mg base pY 2 f fd HS (qJ K 2 BH):=uq (m:=HV) F zT λcdv B outer s H E hr=>
 jJ (kh (i:=2) zT.nd (lQ (RW rfl) abM UQ (jE (jD 0) jL)))
 (jJ (mY bR rfl (mF (jD 1)) (nG rfl (j3 (jY (i:=3) zT.nd) (j3 (jY (i:=4) zT.nd) l9)))
 (jM (pV (jW mj (PY dO iD (PK hr.units) (jD 2) (jE (jD 3) (jE jH jL))) (jD 4)) (Jp hr.units (jD 2) (jD 3)))))
 (jM (j_ (ug aa2 hr (jD 2)))))
def sj:FnScope Dg vW (jS Eb):=uw rfl rfl rfl ∅
def Qi(F:Fun K "times" "times" Eb f fd)(aa2:mR P w K mg base 1 "as_polynomial" nV lz):FnOk P w K mg base pY 2 f fd vW (qJ K 2 nv):=uq (m:=El) F sj λcdv B outer s H E hr=>
 jJ (kh (i:=2) sj.nd NU)
 (jJ (mY bR rfl (mF (jD 0)) (nG rfl (j3 (jY (i:=3) sj.nd) (j3 (jY (i:=4) sj.nd) l9)))
 (jM (mY bR rfl (mF (jD 1)) (nG rfl (j3 (jY (i:=5) sj.nd) (j3 (jY (i:=6) sj.nd) l9)))
 (jM (pV (jW mj (PY dO iD (PK hr.units) (jD 2) (jE (jW mj (jD 3) (jD 5)) (jE jH jL))) (jW XX (jD 4) (jD 6))) (Jp hr.units (jD 2) (jW mj (jD 3) (jD 5))))))))
 (jM (j_ (ug aa2 hr (jD 2)))))
def MK:FnScope A3 xR (jS A4):=uw rfl rfl rfl ∅
def LY(F:Fun K "turned" "turned" A4 f fd)(abT:mg "reversed" = none):FnOk P w K mg base pY 1 f fd xR (qJ K 1 pD):=uq (m:=Af) F MK λcdv B outer s H E hr=>
 jM (j_ (o5 (N:=["power", "number"]) (cap:=[none,none]) rfl (wz [] rfl ∅ ∅ ∅ ∅ ∅ (nofun) trivial) (Yc abT (jD 0)) (λ_ _ _ _=>nG rfl (j3 (jY (i:=0) (show(["power", "number"]:ar).Nodup by decide +kernel) rfl (Or.inl rfl) (.inr rfl)) (j3 (jY (i:=1) (show(["power", "number"]:ar).Nodup by decide +kernel) rfl (Or.inl rfl) (.inr rfl)) l9))) (λ_ _ _ _=>sO) (λ_ _ _ _=>lD (jE (r8 (jD 0)) (jE (jD 1) jL)))))
def BX:FnScope tR mG (jS tU):=uw rfl rfl rfl ∅
def B_(F:Fun K "put_before" "put_before" tU f fd)(abU:mR P w K mg base 2 "plus" HS BH):FnOk P w K mg base pY 3 f fd mG (qJ K 3 ku):=uq (m:=sX) F BX λcdv B outer s H E hr=>
 jM (pV (uf abU hr (WS dO iD (aap hr.units) (jD 0) (jE (jD 1) (jE (lB jL) jL))) (jD 2)) (vA hr.units (jD 0) (jD 1)))
def LM:FnScope Bo qq (jS A5):=uw rfl rfl rfl ∅
def LF(F:Fun K "as_sum" "as_sum" A5 f fd)(aaV:mg "sorted" = none):FnOk P w K mg base pY 1 f fd qq (qJ K 1 l_):=uq (m:=Bp) F LM λcdv B outer s H E hr=>
 jM (j_ (o5 (N:=["order", "found"]) (cap:=[none,some 0]) rfl (wz ["found"] rfl ∅ ∅ ∅ ∅ ∅ (dF.mpr ⟨by first|exact Or.inl rfl|exact Or.inr rfl,(nofun)⟩) ⟨rfl,by decide +kernel,trivial⟩) (mF (j0 (Ke rfl) aaV vt (jE (jD 0) jL))) (λ_ _ _ _=>jY (i:=0) (show(["order", "found"]:ar).Nodup by decide +kernel) rfl (Or.inl rfl) (.inr rfl)) (λ_ _ _ _=>EG (mH (AU hr.units (jD 1) (jD 0)))) (λ_ _ _ _=>lD (jE (jD 0) (jE (AU hr.units (jD 1) (jD 0)) jL)))))
def Ef:FnScope uA qW (jS vc):=uw rfl rfl rfl ∅
def Eu(F:Fun K "need_like" "need_like" vc f fd)(abZ:mR P w K mg base 1 "need_pair" uV pJ):FnOk P w K mg base pY 2 f fd qW (qJ K 2 nh):=uq (m:=uy) F Ef λcdv B outer s H E hr=>
 jM (mq (AW.at (WY (mH (jD 0)) (TV (mH (jD 1)))))
 (jM (mZ (uf abZ hr (kO (kO (jD 0) jH) jH) (kO (kO (jD 1) jH) jH))))
 kK)
def x_:FnScope EJ yc (jS EE):=uw rfl rfl rfl ∅
def Qk(F:Fun K "added" "added" EE f fd)(aa3:mR P w K mg base 2 "need_like" qW nh)(aaL:mR P w K mg base 3 "put_before" mG ku)(aaT:mR P w K mg base 1 "as_sum" qq l_):FnOk P w K mg base pY 4 f fd yc (qJ K 2 nR):=uq (m:=Ey) F x_ λcdv B outer s H E hr=>
 jJ (mZ (uf aa3 hr (jD 0) (jD 1)))
 (jJ (kh (i:=2) x_.nd rC)
 (jJ (mY bR rfl (mF (jW mj (jD 0) (jD 1))) (nG rfl (j3 (jY (i:=3) x_.nd) (j3 (jY (i:=4) x_.nd) l9)))
 (jM (mZ (MT aaL hr (jD 2) (jD 3) (jD 4)))))
 (jM (j_ (ug aaT hr (jD 2))))))
def vG:FnScope Bx vh (jS Aw):=uw rfl rfl rfl ∅
def Me(F:Fun K "scaled" "scaled" Aw f fd)(aaL:mR P w K mg base 3 "put_before" mG ku)(aaW:mR P w K mg base 2 "times" vW nv)(aaT:mR P w K mg base 1 "as_sum" qq l_):FnOk P w K mg base pY 4 f fd vh (qJ K 2 mS):=uq (m:=Be) F vG λcdv B outer s H E hr=>
 jJ (kh (i:=2) vG.nd rC)
 (jJ (mY bR rfl (mF (jD 1)) (nG rfl (j3 (jY (i:=3) vG.nd) (j3 (jY (i:=4) vG.nd) l9)))
 (jM (mZ (MT aaL hr (jD 2) (jD 3) (uf aaW hr (jD 0) (jD 4))))))
 (jM (j_ (ug aaT hr (jD 2)))))
def oQ:FnScope rJ mV (jS rW):=uw rfl rfl rfl ∅
def Ai(F:Fun K "by_exchange" "by_exchange" rW f fd)(aad:mg "list" = none)(h_AT_A_FALL:∃a,mg "AT_A_FALL" = some (.ref a)/\RO K a=some [((-1:Int),(1:Int)),((1:Int),(-1:Int))])(aaL:mR P w K mg base 3 "put_before" mG ku)(aaF:mR P w K mg base 3 "exchanged" mw kM)(aaU:mR P w K mg base 1 "falls" vQ oO)(aaW:mR P w K mg base 2 "times" vW nv)(aaT:mR P w K mg base 1 "as_sum" qq l_):FnOk P w K mg base pY 4 f fd mV (qJ K 2 kW):=uq (m:=rL) F oQ λcdv B outer s H E hr=>
 jJ (kh (i:=2) oQ.nd rC)
 (jJ (mY bR rfl (mF (jD 0)) (nG rfl (j3 (jY (i:=3) oQ.nd) (j3 (jY (i:=4) oQ.nd) l9)))
 (jJ (mZ (MT aaL hr (jD 2) (uf aaF hr (jD 3) (jD 1)) (jD 4)))
 (jM (mq (lJ (abe hr.units) (jD 1) (ug aaU hr (jD 3)))
 (jM (mZ (MT aaL hr (jD 2) (jD 3) (uf aaW hr (lQ (yQ rfl) aad rz (jE (GQ h_AT_A_FALL.choose_spec.1 h_AT_A_FALL.choose_spec.2) jL)) (jD 4)))))
 kK))))
 (jM (j_ (ug aaT hr (jD 2)))))
def vf:FnScope qj oW (jS sP):=uw rfl rfl rfl ∅
def Gz{Fs:ae->jK->R A}(F:Fun K "by_order" "by_order" sP f fd)(aaU:mR P w K mg base 1 "falls" vQ oO)(aaF:mR P w K mg base 3 "exchanged" mw kM)(aaX:mR P w K mg base 4 "by_exchange" mV kW)(ab0:mR P w K mg base (5+kr) "by_order" oW Fs):FnOk P w K mg base pY (5+kr+1) f fd oW (qJ K 3 (lV qj (qA Fs))):=uq (m:=qA Fs) F vf λcdv B outer s H E hr=>
 jJ (mq (lJ (Ft hr.units) (jD 1) (jD 2))
 (jJ (kh (i:=3) vf.nd (sH aaU (hr.mono ()) (jE (jD 1) jL) (kF nk)))
 (jM (mq (mH (jD 3))
 (jJ (kh (i:=4) vf.nd (sH ab0 (hr.mono ()) (jE (jD 0) (jE (sH aaF (hr.mono ()) (jE (jD 1) (jE (kO (jD 3) jH) jL)) (kF (kF nk))) (jE (jD 2) jL))) (kF (kF (kF nk)))))
 (jM (pV (sH aaX (hr.mono ()) (jE (jD 4) (jE (kO (jD 3) jH) jL)) (kF (kF nk))) (vA hr.units (jD 2) (jD 1)))))
 (jM (pV (jD 0) (vA hr.units (jD 2) (jD 1)))))))
 kK)
 (jM (j_ (AU hr.units (jD 2) (jD 1))))
theorem yi(F:Fun K "by_order" "by_order" sP f fd)(aaU:mR P w K mg base 1 "falls" vQ oO)(aaF:mR P w K mg base 3 "exchanged" mw kM)(aaX:mR P w K mg base 4 "by_exchange" mV kW)(hm:mg "by_order" = some (.ref f))(hk:PySem.W.keepIn K (.ref f)=true)(hb:Binds K fd oW []):∀kr,FnOk P w K mg base pY (5+kr) f fd oW (qJ K 3 (pK kr))
 | 0=>QJ rfl
 | kr+1=>Gz F aaU aaF aaX ⟨f,fd,yi F aaU aaF aaX hm hk hb kr,hm,hk,hb⟩
def mJ:FnScope uO uW (jS uE):=uw rfl rfl rfl ∅
def D9(F:Fun K "by_orders" "by_orders" uE f fd)(ab2:mR P w K mg base 31 "by_order" oW wC)(aaL:mR P w K mg base 3 "put_before" mG ku)(aaW:mR P w K mg base 2 "times" vW nv)(aaT:mR P w K mg base 1 "as_sum" qq l_):FnOk P w K mg base pY 32 f fd uW (qJ K 2 oh):=uq (m:=uB) F mJ λcdv B outer s H E hr=>
 jJ (kh (i:=2) mJ.nd rC)
 (jJ (kh (i:=3) mJ.nd rC)
 (jJ (mY bR rfl (mF (jD 1)) (nG rfl (j3 (jY (i:=4) mJ.nd) (j3 (jY (i:=5) mJ.nd) l9)))
 (jM (mY bR rfl (mF (MT ab2 hr (jD 0) (jD 4) (jD 3))) (nG rfl (j3 (jY (i:=6) mJ.nd) (j3 (jY (i:=7) mJ.nd) l9)))
 (jM (mZ (MT aaL hr (jD 2) (jD 6) (uf aaW hr (jD 5) (jD 7))))))))
 (jM (j_ (ug aaT hr (jD 2))))))
def B3:FnScope t6 tZ (jS sV):=uw rfl rfl rfl ∅
def Ce(F:Fun K "with_backs" "with_backs" sV f fd)(aaV:mg "sorted" = none)(aa4:mR P w K mg base 1 "back" DF uR):FnOk P w K mg base pY 2 f fd tZ (qJ K 1 mK):=uq (m:=sR) F B3 λcdv B outer s H E hr=>
 jM (j_ (j0 (M5 hr.units) aaV vt (jE (o5 (N:=["order", "poly"]) (cap:=[none,none]) rfl (wz [] rfl ∅ ∅ ∅ ∅ ∅ (nofun) trivial) (mF (jD 0)) (λ_ _ _ _=>nG rfl (j3 (jY (i:=0) (show(["order", "poly"]:ar).Nodup by decide +kernel) rfl (Or.inl rfl) (.inr rfl)) (j3 (jY (i:=1) (show(["order", "poly"]:ar).Nodup by decide +kernel) rfl (Or.inl rfl) (.inr rfl)) l9))) (λ_ _ _ _=>sO) (λ_ _ _ _=>lD (jE (ug aa4 hr (jD 0)) (jE (jD 1) jL)))) jL)))
def Hl:FnScope vX zc (jS yN):=uw rfl rfl rfl ∅
def H_(F:Fun K "product" "product" yN f fd)(aaa:mg "len" = none)(aa3:mR P w K mg base 2 "need_like" qW nh)(aba:mR P w K mg base 32 "by_orders" uW oh)(aa_:mR P w K mg base 2 "with_backs" tZ mK):FnOk P w K mg base pY 33 f fd zc (qJ K 2 mU):=uq (m:=vj) F Hl λcdv B outer s H E hr=>
 jJ (mZ (uf aa3 hr (jD 0) (jD 1)))
 (jJ (mq (lJ ZS (j0 p7 aaa nB (jE (jD 0) jL)) (j0 p7 aaa nB (jE (jD 1) jL)))
 (jM (j_ (uf aba hr (jD 0) (jD 1))))
 kK)
 (jM (j_ (ug aa_ hr (uf aba hr (ug aa_ hr (jD 1)) (ug aa_ hr (jD 0)))))))
def mW:FnScope tP qc (jS tB):=uw rfl rfl rfl ∅
def B6(F:Fun K "first_word" "first_word" tB f fd)(aa4:mR P w K mg base 1 "back" DF uR)(aaU:mR P w K mg base 1 "falls" vQ oO)(aaF:mR P w K mg base 3 "exchanged" mw kM):FnOk P w K mg base pY 4 f fd qc (qJ K 1 ny):=uq (m:=sW) F mW λcdv B outer s H E hr=>
 jJ (kh (i:=1) mW.nd (ug aa4 hr (jD 0)))
 (jJ (kh (i:=2) mW.nd (lB jL))
 (jJ (kh (i:=3) mW.nd (ug aaU hr (jD 1)))
 (jJ (Gf 1000000 bR (mH (jD 3))
 (jJ (mZ (CK dS dU uP (jD 2) (jE (kO (jD 3) jH) jL)))
 (jJ (kh (i:=1) mW.nd (uf aaF hr (jD 1) (kO (jD 3) jH)))
 (jM (kh (i:=3) mW.nd (ug aaU hr (jD 1)))))))
 (jM (j_ (jD 2))))))
def pS:FnScope m7 mh (jS oN):=uw rfl rfl rfl ∅
def zy{Fs:ae->jK->R A}(F:Fun K "turned_order" "turned_order" oN f fd)(aad:mg "list" = none)(h_LESS_BACK:∃a,mg "LESS_BACK" = some (.ref a)/\RO K a=some [((-1:Int),(-1:Int)),((1:Int),(1:Int))])(aa5:mR P w K mg base 4 "first_word" qc ny)(aaF:mR P w K mg base 3 "exchanged" mw kM)(aaY:mR P w K mg base 4 "added" yc nR)(aaZ:mR P w K mg base 4 "scaled" vh mS)(aaX:mR P w K mg base 4 "by_exchange" mV kW)(ab0:mR P w K mg base (5+kr) "turned_order" mh Fs):FnOk P w K mg base pY (5+kr+1) f fd mh (qJ K 2 (lV m7 (ng Fs))):=uq (m:=ng Fs) F pS λcdv B outer s H E hr=>
 jJ (mq (lJ (Ft hr.units) (jD 0) (jD 1))
 (jJ (kh (i:=2) pS.nd (sH aa5 (hr.mono ()) (jE (jD 0) jL) (kF nk)))
 (jM (mq (mH (jD 2))
 (jJ (kh (i:=3) pS.nd (sH ab0 (hr.mono ()) (jE (sH aaF (hr.mono ()) (jE (jD 0) (jE (kO (jD 2) (r8 jH)) jL)) (kF (kF nk))) (jE (jD 1) jL)) (kF (kF nk))))
 (jM (pV (sH aaY (hr.mono ()) (jE (sH aaX (hr.mono ()) (jE (jD 3) (jE (kO (jD 2) (r8 jH)) jL)) (kF (kF nk))) (jE (sH aaZ (hr.mono ()) (jE (lQ (yQ rfl) aad rz (jE (GQ h_LESS_BACK.choose_spec.1 h_LESS_BACK.choose_spec.2) jL)) (jE (jD 3) jL)) (kF (kF nk))) jL)) (kF (kF nk))) (vA hr.units (jD 1) (jD 0)))))
 (jM (pV (lB (jE (lD (jE (jD 0) (jE (lB (jE (lD (jE jH (jE jH jL))) jL)) jL))) jL)) (vA hr.units (jD 1) (jD 0)))))))
 kK)
 (jM (j_ (AU hr.units (jD 1) (jD 0))))
theorem sL(F:Fun K "turned_order" "turned_order" oN f fd)(aad:mg "list" = none)(h_LESS_BACK:∃a,mg "LESS_BACK" = some (.ref a)/\RO K a=some [((-1:Int),(-1:Int)),((1:Int),(1:Int))])(aa5:mR P w K mg base 4 "first_word" qc ny)(aaF:mR P w K mg base 3 "exchanged" mw kM)(aaY:mR P w K mg base 4 "added" yc nR)(aaZ:mR P w K mg base 4 "scaled" vh mS)(aaX:mR P w K mg base 4 "by_exchange" mV kW)(hm:mg "turned_order" = some (.ref f))(hk:PySem.W.keepIn K (.ref f)=true)(hb:Binds K fd mh []):∀kr,FnOk P w K mg base pY (5+kr) f fd mh (qJ K 2 (mT kr))
 | 0=>QJ rfl
 | kr+1=>zy F aad h_LESS_BACK aa5 aaF aaY aaZ aaX ⟨f,fd,sL F aad h_LESS_BACK aa5 aaF aaY aaZ aaX hm hk hb kr,hm,hk,hb⟩
def nY:FnScope yM vR (jS yI):=uw rfl rfl rfl ∅
def HA(F:Fun K "turning" "turning" yI f fd)(ab3:mR P w K mg base 31 "turned_order" mh qG)(aaL:mR P w K mg base 3 "put_before" mG ku)(aaW:mR P w K mg base 2 "times" vW nv)(aa6:mR P w K mg base 1 "turned" xR pD)(aaT:mR P w K mg base 1 "as_sum" qq l_):FnOk P w K mg base pY 32 f fd vR (qJ K 1 kg):=uq (m:=yX) F nY λcdv B outer s H E hr=>
 jJ (kh (i:=1) nY.nd rC)
 (jJ (kh (i:=2) nY.nd rC)
 (jJ (mY bR rfl (mF (jD 0)) (nG rfl (j3 (jY (i:=3) nY.nd) (j3 (jY (i:=4) nY.nd) l9)))
 (jM (mY bR rfl (mF (uf ab3 hr (jD 3) (jD 2))) (nG rfl (j3 (jY (i:=5) nY.nd) (j3 (jY (i:=6) nY.nd) l9)))
 (jM (mZ (MT aaL hr (jD 1) (jD 5) (uf aaW hr (ug aa6 hr (jD 4)) (jD 6))))))))
 (jM (j_ (ug aaT hr (jD 1))))))
def qk:FnScope yU y9 (jS y_):=uw rfl rfl rfl ∅
def GZ(F:Fun K "_law_bag" "_law_bag" y_ f fd)(aaa:mg "len" = none):FnOk P w K mg base pY 1 f fd y9 (qJ K 2 r_):=uq (m:=yH) F qk λcdv B outer s H E hr=>
 jJ (kh (i:=2) qk.nd jH)
 (jJ (mq (lJ (Xm hr.units) (jD 1) (j0 p7 aaa nB (jE (jD 0) jL)))
 (jM (kh (i:=2) qk.nd (kO (jD 0) (jD 1))))
 kK)
 (jJ (kh (i:=3) qk.nd jH)
 (jJ (mq (lJ ZS (jD 2) (jW Wa jH jH))
 (jM (kh (i:=3) qk.nd (jD 2)))
 kK)
 (jM (j_ (lB (jE (jD 3) (jE (jW Gm (jW mj (jW mj (jD 2) (jW Jm jH (jD 1))) jH) jH) jL))))))))
def xJ:FnScope qZ n_ (jS uU):=uw rfl rfl rfl ∅
def Ej(F:Fun K "_law_digit" "_law_digit" uU f fd):FnOk P w K mg base pY 1 f fd n_ (qJ K 2 jR):=uq (m:=qU) F xJ λcdv B outer s H E hr=>
 jJ (mq (lJ (Ur hr.units) (kO (jD 0) jH) jH)
 (jJ (kh (i:=2) xJ.nd (jW Gm (kO (jD 0) jH) (jD 1)))
 (jJ (pV (jW NP (kO (jD 0) jH) (jD 1)) (BL (jD 0) jH))
 (jM (j_ (jD 2)))))
 kK)
 (jJ (pV (jW Gm (jW mj (jW Jm (kO (jD 0) jH) jH) jH) jH) (BL (jD 0) jH))
 (jM (j_ (jW Gm (jW Gm (jW Jm (jW NP (kO (jD 0) jH) jH) jH) jH) (jD 1)))))
def sN:FnScope uz uM (jS uS):=uw rfl rfl rfl ∅
def Ez(F:Fun K "_law_order" "_law_order" uS f fd)(aad:mg "list" = none)(aak:mg "range" = none)(aaa:mg "len" = none)(aav:mg "tuple" = none)(aao:mR P w K mg base 1 "_law_digit" n_ jR):FnOk P w K mg base pY 2 f fd uM (qJ K 2 pH):=uq (m:=ux) F sN λcdv B outer s H E hr=>
 jJ (kh (i:=2) sN.nd (lQ (yQ rfl) aad rz (jE (lQ GH aak Gu (jE jH (jE (jW mj (jD 1) jH) jL))) jL)))
 (jJ (kh (i:=3) sN.nd (lB jL))
 (jJ (Gf 1000000 bR (lJ (Ur hr.units) (j0 p7 aaa nB (jE (jD 2) jL)) jH)
 (jM (mZ (CK dS dU uP (jD 3) (jE (CK PySem.F.slot_list_pop PySem.F.type_list_pop Ub (jD 2) (jE (uf aao hr (jD 0) (j0 p7 aaa nB (jE (jD 2) jL))) jL)) jL)))))
 (jM (j_ (lQ (z0 rfl) aav qx (jE (jD 3) jL))))))
def kR:FnScope pW pR (jS pM):=uw rfl rfl rfl ∅
def yZ(F:Fun K "_law_small_sum" "_law_small_sum" pM f fd)(aak:mg "range" = none)(aaV:mg "sorted" = none)(aao:mR P w K mg base 1 "_law_digit" n_ jR)(ab4:mR P w K mg base 2 "_law_order" uM pH):FnOk P w K mg base pY 3 f fd pR (qJ K 3 ly):=uq (m:=pQ) F kR λcdv B outer s H E hr=>
 jJ (kh (i:=3) kR.nd rC)
 (jJ (mY bR rfl (qd aak (jW mj jH (uf aao hr (jD 0) (jD 2)))) (jY (i:=4) kR.nd)
 (jJ (kh (i:=5) kR.nd (uf ab4 hr (jD 0) (jD 1)))
 (jJ (kh (i:=6) kR.nd (jW qe (uf aao hr (jD 0) jH) jH))
 (jJ (kh (i:=7) kR.nd (lB (jE (lD (jE (jD 6) (jE (jW mj jH (uf aao hr (jD 0) jH)) jL))) jL)))
 (jJ (mq (lJ (HM hr.units) (uf aao hr (jD 0) jH) jH)
 (jM (mZ (CK dS dU uP (jD 7) (jE (lD (jE (jW mj (jW mj (jD 6) jH) (uf aao hr (jD 0) jH)) (jE (kO (lB (jE (r8 jH) (jE (r8 jH) (jE jH (jE (jW Wa jH jH) jL))))) (uf aao hr (jD 0) jH)) jL))) jL))))
 kK)
 (jJ (kh (i:=8) kR.nd (kO (lB (jE jH (jE jH (jE jH (jE (r8 jH) jL))))) (uf aao hr (jD 0) jH)))
 (jM (pV (o5 (N:=["_law_power", "_law_number", "_law_shift"]) (cap:=[none,none,some 8]) rfl (wz ["_law_shift"] rfl ∅ ∅ ∅ ∅ ∅ (dF.mpr ⟨by first|exact Or.inl rfl|exact Or.inr rfl,(nofun)⟩) ⟨rfl,by decide +kernel,trivial⟩) (mF (jD 7)) (λ_ _ _ _=>nG rfl (j3 (jY (i:=0) (show(["_law_power", "_law_number", "_law_shift"]:ar).Nodup by decide +kernel) rfl (Or.inl rfl) (.inr rfl)) (j3 (jY (i:=1) (show(["_law_power", "_law_number", "_law_shift"]:ar).Nodup by decide +kernel) rfl (Or.inl rfl) (.inr rfl)) l9))) (λ_ _ _ _=>sO) (λ_ _ _ _=>lD (jE (jW mj (jD 0) (jD 2)) (jE (jD 1) jL)))) (vA hr.units (jD 3) (jD 5))))))))))
 (jM (j_ (o5 (N:=["_law_one", "_law_held"]) (cap:=[none,some 3]) rfl (wz ["_law_held"] rfl ∅ ∅ ∅ ∅ ∅ (dF.mpr ⟨by first|exact Or.inl rfl|exact Or.inr rfl,(nofun)⟩) ⟨rfl,by decide +kernel,trivial⟩) (mF (j0 (Ke rfl) aaV vt (jE (jD 3) jL))) (λ_ _ _ _=>jY (i:=0) (show(["_law_one", "_law_held"]:ar).Nodup by decide +kernel) rfl (Or.inl rfl) (.inr rfl)) (λ_ _ _ _=>sO) (λ_ _ _ _=>lD (jE (jD 0) (jE (AU hr.units (jD 1) (jD 0)) jL)))))))
def qi:FnScope rX r9 (jS rF):=uw rfl rfl rfl ∅
def BN(F:Fun K "_law_is_poly" "_law_is_poly" rF f fd)(aaS:mg "isinstance" = none)(aad:mg "list" = none)(aaa:mg "len" = none)(aav:mg "tuple" = none)(aa1:mg "bool" = none)(aa0:mg "int" = none)(aa7:mg "all" = none)(aak:mg "range" = none):FnOk P w K mg base pY 1 f fd r9 (qJ K 1 nN):=uq (m:=rV) F qi λcdv B outer s H E hr=>
 jJ (mq (pN (mH (j0 xE aaS kX (jE (jD 0) (jE (xS aad rz) jL)))))
 (jM (j_ qO))
 kK)
 (jJ (mY bR rfl (mF (jD 0)) (jY (i:=1) qi.nd)
 (jJ (mq (AW.at (xO (pN (mH (j0 xE aaS kX (jE (jD 1) (jE (xS aav qx) jL))))) (xO (lJ (Cc hr.units) (j0 p7 aaa nB (jE (jD 1) jL)) jH) (wL (lJ (HM hr.units) (kO (jD 1) jH) jH)))))
 (jM (j_ qO))
 kK)
 (jM (mY bR rfl (mF (jD 1)) (jY (i:=2) qi.nd)
 (jM (mq (AW.at (xO (pN (mH (j0 xE aaS kX (jE (jD 2) (jE (xS aa0 G9) jL))))) (wL (mH (j0 xE aaS kX (jE (jD 2) (jE (xS aa1 Lk) jL)))))))
 (jM (j_ qO))
 kK))))))
 (jM (j_ (j0 (VW rfl) aa7 OF (jE (o5 (N:=["_law_k", "_law_found"]) (cap:=[none,some 0]) rfl (wz ["_law_found"] rfl ∅ ∅ ∅ ∅ ∅ (dF.mpr ⟨by first|exact Or.inl rfl|exact Or.inr rfl,(nofun)⟩) ⟨rfl,by decide +kernel,trivial⟩) (qd aak (jW qe (j0 p7 aaa nB (jE (jD 0) jL)) jH)) (λ_ _ _ _=>jY (i:=0) (show(["_law_k", "_law_found"]:ar).Nodup by decide +kernel) rfl (Or.inl rfl) (.inr rfl)) (λ_ _ _ _=>sO) (λ_ _ _ _=>AR (Xm hr.units) (kO (kO (jD 1) (jD 0)) jH) (kO (kO (jD 1) (jW mj (jD 0) jH)) jH))) jL)))))
def wk:FnScope sM s_ (jS sY):=uw rfl rfl rfl ∅
def Cb(F:Fun K "_law_is_sum" "_law_is_sum" sY f fd)(aaS:mg "isinstance" = none)(aad:mg "list" = none)(aav:mg "tuple" = none)(aaa:mg "len" = none)(ace:mR P w K mg base 1 "_law_is_poly" r9 nN):FnOk P w K mg base pY 2 f fd s_ (qJ K 1 oM):=uq (m:=sZ) F wk λcdv B outer s H E hr=>
 jJ (mq (pN (mH (j0 xE aaS kX (jE (jD 0) (jE (xS aad rz) jL)))))
 (jM (j_ qO))
 kK)
 (jJ (mY bR rfl (mF (jD 0)) (jY (i:=1) wk.nd)
 (jJ (mq (AW.at (xO (pN (mH (j0 xE aaS kX (jE (jD 1) (jE (xS aav qx) jL))))) (xO (lJ (Cc hr.units) (j0 p7 aaa nB (jE (jD 1) jL)) jH) (wL (pN (mH (j0 xE aaS kX (jE (kO (jD 1) jH) (jE (xS aav qx) jL)))))))))
 (jM (j_ qO))
 kK)
 (jM (mq (AW.at (xO (pN (mH (ug ace hr (kO (jD 1) jH)))) (wL (lJ (HM hr.units) (kO (jD 1) jH) (lB jL)))))
 (jM (j_ qO))
 kK))))
 (jM (j_ qO)))
def FZ:FnScope wR xg (jS wW):=uw rfl rfl rfl ∅
def E5(F:Fun K "_law_copy" "_law_copy" wW f fd)(aad:mg "list" = none):FnOk P w K mg base pY 1 f fd xg (qJ K 1 oX):=uq (m:=wY) F FZ λcdv B outer s H E hr=>
 jM (j_ (o5 (N:=["_law_one", "_law_own"]) (cap:=[none,none]) rfl (wz [] rfl ∅ ∅ ∅ ∅ ∅ (nofun) trivial) (mF (jD 0)) (λ_ _ _ _=>nG rfl (j3 (jY (i:=0) (show(["_law_one", "_law_own"]:ar).Nodup by decide +kernel) rfl (Or.inl rfl) (.inr rfl)) (j3 (jY (i:=1) (show(["_law_one", "_law_own"]:ar).Nodup by decide +kernel) rfl (Or.inl rfl) (.inr rfl)) l9))) (λ_ _ _ _=>sO) (λ_ _ _ _=>lD (jE (jD 0) (jE (lQ (yQ rfl) aad rz (jE (jD 1) jL)) jL)))))
def pC:FnScope wD wJ (jS xj):=uw rfl rfl rfl ∅
def EO(F:Fun K "_law_near" "_law_near" xj f fd)(aad:mg "list" = none)(aak:mg "range" = none)(aav:mg "tuple" = none)(aao:mR P w K mg base 1 "_law_digit" n_ jR):FnOk P w K mg base pY 2 f fd wJ (qJ K 3 oV):=uq (m:=wI) F pC λcdv B outer s H E hr=>
 jJ (kh (i:=3) pC.nd (lQ (yQ rfl) aad rz (jE (lQ GH aak Gu (jE jH (jE (jW mj (jD 1) jH) jL))) jL)))
 (jJ (mY bR rfl (qd aak (uf aao hr (jD 0) (jW mj (jD 2) jH))) (jY (i:=4) pC.nd)
 (jJ (kh (i:=5) pC.nd (jW mj jH (uf aao hr (jD 0) (jW qe (jD 1) jH))))
 (jM (kh (i:=3) pC.nd (jW mj (jW mj (V8 (jD 3) Km (Lc (jW qe (jD 5) jH))) (lB (jE (kO (jD 3) (jD 5)) (jE (kO (jD 3) (jW qe (jD 5) jH)) jL)))) (V8 (jD 3) (Lc (jW mj (jD 5) jH)) Km))))))
 (jM (j_ (lQ (z0 rfl) aav qx (jE (jD 3) jL)))))
def xy:FnScope uY uN (jS u5):=uw rfl rfl rfl ∅
def Dj(F:Fun K "_law_apart" "_law_apart" u5 f fd)(aak:mg "range" = none)(aaa:mg "len" = none)(aa7:mg "all" = none):FnOk P w K mg base pY 1 f fd uN (qJ K 1 pF):=uq (m:=uJ) F xy λcdv B outer s H E hr=>
 jJ (mY bR rfl (qd aak (j0 p7 aaa nB (jE (jD 0) jL))) (jY (i:=1) xy.nd)
 (jM (mZ (CK dS dU uP (kO (kO (jD 0) (jD 1)) jH) (jE (lD (jE (jW mj jH (jD 1)) (jE jH jL))) jL)))))
 (jM (j_ (j0 (VW rfl) aa7 OF (jE (o5 (N:=["_law_k", "_law_found"]) (cap:=[none,some 0]) rfl (wz ["_law_found"] rfl ∅ ∅ ∅ ∅ ∅ (dF.mpr ⟨by first|exact Or.inl rfl|exact Or.inr rfl,(nofun)⟩) ⟨rfl,by decide +kernel,trivial⟩) (qd aak (j0 p7 aaa nB (jE (jD 0) jL))) (λ_ _ _ _=>jY (i:=0) (show(["_law_k", "_law_found"]:ar).Nodup by decide +kernel) rfl (Or.inl rfl) (.inr rfl)) (λ_ _ _ _=>sO) (λ_ _ _ _=>AR (HM hr.units) (kO (kO (kO (jD 1) (jD 0)) jH) (r8 jH)) (lD (jE (jW mj jH (jD 0)) (jE jH jL))))) jL))))
def qX:FnScope w6 xm (jS wO):=uw rfl rfl rfl ∅
def Gn(F:Fun K "_law_home" "_law_home" wO f fd)(abb:mR P w K mg base 1 "_law_copy" xg oX)(aaR:mR P w K mg base 32 "turning" vR kg)(ach:mR P w K mg base 2 "_law_is_sum" s_ oM)(acm:mR P w K mg base 1 "_law_apart" uN pF):FnOk P w K mg base pY 33 f fd xm (qJ K 1 m8):=uq (m:=w9) F qX λcdv B outer s H E hr=>
 jJ (kh (i:=1) qX.nd (ug abb hr (jD 0)))
 (jJ (kh (i:=2) qX.nd (ug aaR hr (jD 1)))
 (jJ (kh (i:=3) qX.nd (ug abb hr (jD 2)))
 (jJ (mq (AW.at (xO (pN (mH (ug ach hr (jD 2)))) (wL (lJ (Cc hr.units) (jD 1) (jD 0)))))
 (jM (j_ qO))
 kK)
 (jJ (mq (AW.at (xO (lJ (Cc hr.units) (ug aaR hr (jD 2)) (jD 0)) (wL (lJ (Cc hr.units) (jD 2) (jD 3)))))
 (jM (j_ qO))
 kK)
 (jJ (mq (pN (mH (ug acm hr (jD 2))))
 (jM (j_ qO))
 kK)
 (jJ (mZ (CK dS dU uP (jD 2) (jE (lD (jE (lD (jE jH jL)) (jE (lB (jE (lD (jE jH (jE jH jL))) jL)) jL))) jL)))
 (jM (j_ (AR (HM hr.units) (ug aaR hr (jD 1)) (jD 3))))))))))
def tW:FnScope Rk V2 (jS Pb):=uw rfl rfl rfl ∅
set_option smartUnfolding false in
theorem Wy(F:Fun K "law" "law" Pb f fd)(aak:mg "range" = none)(acr:mg "max" = none)(acs:mg "min" = none)(aaa:mg "len" = none)(aa0:mg "int" = none)(acu:mR P w K mg base 1 "_law_bag" y9 r_)(aao:mR P w K mg base 1 "_law_digit" n_ jR)(abf:mR P w K mg base 3 "_law_small_sum" pR ly)(abh:mR P w K mg base 2 "_law_near" wJ oV)(abn:mR P w K mg base 33 "_law_home" xm m8)(aaR:mR P w K mg base 32 "turning" vR kg)(aaY:mR P w K mg base 4 "added" yc nR)(abo:mR P w K mg base 33 "product" zc mU)(aaZ:mR P w K mg base 4 "scaled" vh mS)(aa6:mR P w K mg base 1 "turned" xR pD):FnOk P w K mg base pY 34 f fd V2 (qJ K 1 CW):=uq (m:=Q3) F tW λcdv B outer s H E hr=>
 jJ (mY bR rfl (qd aak (j0 (YN rfl) acr Wx (jE jH (jE (j0 (W6 rfl) acs Xv (jE (j0 p7 aaa nB (jE (jD 0) jL)) (jE jH jL))) jL)))) (jY (i:=1) tW.nd)
 (jJ (kh (i:=2) tW.nd (uf acu hr (jD 0) (jD 1)))
 (jJ (kh (i:=3) tW.nd (kO (kO (lB (jE (lB (jE jH (jE jH (jE jH (jE jH (jE jH (jE jH (jE jH (jE jH jL))))))))) (jE (lB (jE jH (jE jH (jE jH (jE jH (jE jH (jE jH (jE jH (jE jH jL))))))))) jL))) (lQ X8 aa0 G9 (jE (AR (Ur hr.units) (jD 1) jH) jL))) (uf aao hr (jD 2) jH)))
 (jJ (kh (i:=4) tW.nd (MT abf hr (jD 2) (jD 3) (kO (lB (jE jH (jE jH (jE jH (jE jH jL))))) (jW qe (jD 3) jH))))
 (jJ (kh (i:=5) tW.nd (MT abf hr (jD 2) (jD 3) (kO (lB (jE jH (jE jH (jE jH (jE jH jL))))) (jW qe (jD 3) jH))))
 (jJ (mq (lJ (HM hr.units) (jD 3) jH)
 (jJ (kh (i:=4) tW.nd (lB (jE (lD (jE (MT abh hr (jD 2) (jD 3) jH) (jE (lB (jE (lD (jE jH (jE jH jL))) (jE (lD (jE jH (jE (r8 jH) jL))) jL))) jL))) jL)))
 (jM (kh (i:=5) tW.nd (lB (jE (lD (jE (MT abh hr (jD 2) (jD 3) jH) (jE (lB (jE (lD (jE (r8 jH) (jE jH jL))) jL)) jL))) jL)))))
 kK)
 (jJ (mq (AW.at (xO (pN (mH (ug abn hr (jD 4)))) (wL (pN (mH (ug abn hr (jD 5)))))))
 (jM (j_ qO))
 kK)
 (jJ (mq (lJ (Cc hr.units) (ug aaR hr (uf aaY hr (jD 4) (jD 5))) (uf aaY hr (ug aaR hr (jD 4)) (ug aaR hr (jD 5))))
 (jM (j_ qO))
 kK)
 (jJ (mq (lJ (Cc hr.units) (ug aaR hr (uf abo hr (jD 4) (jD 5))) (uf abo hr (ug aaR hr (jD 4)) (ug aaR hr (jD 5))))
 (jM (j_ qO))
 kK)
 (jJ (kh (i:=6) tW.nd (lB (jE (lD (jE (jW qe (uf aao hr (jD 2) jH) jH) (jE (jW mj jH (uf aao hr (jD 2) jH)) jL))) (jE (lD (jE (jW mj jH (uf aao hr (jD 2) jH)) (jE (jW qe (r8 jH) (uf aao hr (jD 2) jH)) jL))) jL))))
 (jM (mq (lJ (Cc hr.units) (ug aaR hr (uf aaZ hr (jD 6) (jD 4))) (uf aaZ hr (ug aa6 hr (jD 6)) (ug aaR hr (jD 4))))
 (jM (j_ qO))
 kK))))))))))))
 (jM (j_ (AR (HM hr.units) (ug aaR hr (lB jL)) (lB jL))))
end
end K30
namespace K30
open PySem L2 Am
noncomputable def ym (S:jK)(b:Nat):Prop:=∃g st:Int,jG S b=some [.int g,.int st]/\0<=g/\0<=st/\st<4294967296
def ym.kp{c:Nat->Prop}(h:ym S b)(k:Kp c S S')(hb:¬c b):ym S' b:=by
 obtain⟨g,st,e,q⟩:=h;exact⟨g,st,k.lst b _ hb e,q⟩
def ym.lt{S:jK}(h:ym S b):b<S.length:=by obtain⟨_,_,e,_⟩:=h;exact mL e
def UA{S:jK}{ns:ag}{k:Int}(h0:0<=k)(h1:k<=100):∃S',r_ [.frz (ns.map .int),.int k] S=.ok (.ref S.length) S'/\ym S' S.length/\lC S S':=by
 have e3:GX (.int 10) (.int 18)=λS=>R.ok (.int 1000000000000000000) S:=by
  funext S;exact mP ⟨by decide,by decide,by decide⟩
 have m1:∀x:Int,D7 (.int x) (.int 2147483647)=λS=>R.ok (.int (x % 2147483647)) S:=λx=>by funext S;exact Fg ⋯
 have m3:∀x:Int,Ew (.int 7919) (.int x)=λS=>R.ok (.int (7919 * x)) S:=λx=>by funext S;exact OU ⋯ ⋯
 have s0:∀x:Int,0<=x % 2147483647:=λx=>iS _ ⋯;have s1:∀x:Int,x % 2147483647<4294967296:=λx=>by have:=gP x (show(0:Int)<2147483647 by decide);lia
 have go:∀cell:Int,∃S',((RS.seq (.nx [A.frz (ns.map .int),.int k,.int cell,.unb] S) (kc (kI (eC (.int 0)) (kL 3))
  (kc (u_ (v_ (jO ZO (jF 2) (jO GX (eC (.int 10)) (eC (.int 18))))) (kI (jF 2) (kL 3)) (nF))
  (kQ (nJ (jC (jF 3) (jC (jO D7 (jO lK (jO lK (jF 2) (jO Ew (eC (.int 7919)) (jF 1))) (eC (.int 13))) (eC (.int 2147483647))) (jI)))))))).end=.ok (.ref S.length) S')/\ym S' S.length/\lC S S':=by
  intro cell;by_cases hc:1000000000000000000<=cell
  ·dsimp[kD,bools,e3,m1,m3,bf hc];exact⟨_,rfl,⟨_,_,jT,(),s0 _,s1 _⟩,Kp.refl.lay⟩
  ·dsimp[kD,bools,e3,m1,m3,bu hc];exact⟨_,rfl,⟨_,_,jT,Int.le_refl 0,s0 _,s1 _⟩,Kp.refl.lay⟩
 unfold r_ yH yU;dsimp[kD,bools,mz,Nat.reduceAdd,Nat.reduceSub,aH];by_cases hk:k<(ns.length:Int)
 ·have hn:k.toNat<ns.length:=()
  have ha:qI (ns.map A.int) k=some (.int ns[k.toNat]):=Dv (k:=k.toNat) () (aF hn);rw[bf hk];dsimp[kD,bools,ha];have:=go ns[k.toNat];simpa only [kD,bools]using this
 ·rw[bu hk];dsimp[kD,bools];have:=go 0;simpa only [kD,bools]using this
def digit{m:Int}(h:ym S b)(h1:1<=m)(h2:m<1073741824):∃d S',jR [.ref b,.int m] S=.ok (.int d) S'/\0<=d/\d<m/\ym S' b/\Kp (·=b) S S':=by
 obtain⟨g,st,hl,hg,hs,hs2⟩:=h;have hb:=mL hl;have i0:zR 2 0=some 0:=Aq rfl ⋯;have i1:zR 2 1=some 1:=Aq rfl ⋯;have fin:∀d g' st':Int,0<=d->d<m->0<=g'->0<=st'->st'<4294967296->jR [.ref b,.int m] S=.ok (.int d) (S.set b (.lst [.int g',.int st']))->∃d S',jR [.ref b,.int m] S=.ok (.int d) S'/\0<=d/\d<m/\ym S' b/\Kp (·=b) S S':=
  λd g' st' a1 a2 a3 a4 a5 e=>⟨d,_,e,a1,a2,⟨g',st',oz hb,a3,a4,a5⟩,Kp.refl.set (.inl rfl)⟩
 by_cases hg0:0<g
 ·refine fin (g % m) (g / m) st (iS _ ()) (gP _ ()) (Int.ediv_nonneg hg ()) hs hs2 ?_;unfold jR qU qZ;rw[zN];simp[hl,Ae,J_,hg0,Fg (show 0<m by lia),Qv (show 0<m by lia) h2,i0]
 ·have e1:0<=(st * 48271+11) % 2147483647:=iS _ ⋯;have e2:(st * 48271+11) % 2147483647<2147483647:=gP _ ⋯;have e3:0<=(st * 48271+11) % 2147483647 / 8:=()
  refine fin ((st * 48271+11) % 2147483647 / 8 * 69621 % 2147483629 % m) g ((st * 48271+11) % 2147483647) (iS _ ()) (gP _ ()) hg e1 () ?_;unfold jR qU qZ;rw[zN];simp[hl,Ae,J_,hg0,i1,OU (show -18446744073709551616<st by lia) (),Fg (show(0:Int)<2147483647 by decide),oz hb,Qv (show(0:Int)<8 by decide) ⋯,OU (show -18446744073709551616<(st * 48271+11) % 2147483647 / 8 by lia) (),Fg (show(0:Int)<2147483629 by decide),Fg (show 0<m by lia)]
open Po (Pl Ok Bd)
def OX{S:jK}{D:Pl}(hd:lZ S d=some (Po.iv D))(hl:D.length<=16777216):∃S',lz [.ref d] S=.ok (.ref (S.length+1)) S'/\jG S' (S.length+1)=some (Po.pl (Po.J9 D))/\lC S S':=by
 obtain⟨S',e,h1,h2⟩:=XR hd hl;refine⟨S',?_,h1,h2⟩;unfold lz pP pO;dsimp[kD,bools,mz,Nat.reduceAdd,Nat.reduceSub];rw[show kZ [none,some 0] _ _ _ _ _ _=_ from e];rfl
def Tj{S:jK}{n:Nat}{a b:Pl}(hn:jG S n=some (Po.pl a))(hm:jG S m=some (Po.pl b))(ha:Ok a)(hl:a.length+b.length<16777216) :
  ∃(L:Nat) (S':jK),BH [.ref n,.ref m] S=.ok (.ref L) S'/\jG S' L=some (Po.pl (Po.pG a b))/\S.length<=L/\lC S S':=by
 have hd:lZ (S++[.rQ (Po.iv a)]) S.length=some (Po.iv a):=OD;obtain⟨y3,y4,T,e,hD,kp⟩:=Td (S:=S++[.rQ (Po.iv a)]) (S1:=S++[.rQ (Po.iv a)]) (x0:=.ref n) (x1:=.ref m) (x3:=.unb) (x4:=.unb) (src:=yh) (l:=b) (show yh _ _=_ from mX (by dsimp[kD,bools]) (kH hm)) (kH hm) hd hl;have ln:=Po.qg b a;obtain⟨S',e2,h1,h2⟩:=OX hD ();have k1:lC S T:=(Kp.refl.lay (o:=.rQ (Po.iv a))).old kp λq hq _ z=>()
 refine⟨T.length+1,S',?_,by rw[h1,<- Po.Sl ha];rfl,by have:=k1.len;lia,k1.trans h2⟩;unfold BH HV Hi;dsimp[kD,bools,mz,Nat.reduceAdd,Nat.reduceSub,MG,hn,Po.Wc,Po.R9,Po.Tz ha];rw[show lX yh _ E6 _ _=_ from e];dsimp[kD,bools,e2]
def yO(f:Int×Int->A)(hf:∀p τ S,MU (f p) τ S=MU (Po.pA p) τ S){S:jK}{n:Nat}{a b:Pl}(hn:jG S n=some (a.map f))(hm:jG S m=some (Po.pl b))(hl:a.length * b.length<16777216)(ha:∀p∈a,p.2.natAbs<big)(hb:∀p∈b,p.2.natAbs<big) :
  ∃(L:Nat) (S':jK),nv [.ref n,.ref m] S=.ok (.ref L) S'/\jG S' L=some (Po.pl (Po.times a b))/\S.length<=L/\lC S S':=by
 have hd:lZ (S++[.rQ []]) S.length=some []:=OD;obtain⟨y3,y4,y5,y6,T,e,hD,kp⟩:=GV f hf (S:=S++[.rQ []]) (x3:=.unb) (x4:=.unb) (x5:=.unb) (x6:=.unb) (kH hn) (kH hm) hd hl ha hb;have ln:=Po.qg (Po.BZ a b) [];rw[Po.zS,bQ,cB]at ln;obtain⟨S',e2,h1,h2⟩:=OX hD ();have k1:lC S T:=(Kp.refl.lay (o:=.rQ [])).old kp λq hq _ z=>()
 refine⟨T.length+1,S',?_,h1,by have:=k1.len;lia,k1.trans h2⟩;unfold nv El Dg;dsimp[kD,bools,mz,Nat.reduceAdd,Nat.reduceSub,Lv];rw[show lX CS _ CO _ _=_ from e];dsimp[kD,bools,e2]
def su{S:jK}{n:Nat}{a b:Pl}(hn:jG S n=some (Po.pl a))(hm:jG S m=some (Po.pl b))(hl:a.length * b.length<16777216)(ha:∀p∈a,p.2.natAbs<big)(hb:∀p∈b,p.2.natAbs<big) :
  ∃(L:Nat) (S':jK),nv [.ref n,.ref m] S=.ok (.ref L) S'/\jG S' L=some (Po.pl (Po.times a b))/\S.length<=L/\lC S S':=yO Po.pA (λ_ _ _=>rfl) hn hm hl ha hb
def CL{S:jK}{n:Nat}{a:Pl}(hn:jG S n=some (Po.pl a))(hl:a.length<=16777216) :
  pD [.ref n] S=.ok (.ref S.length) (S++[.lst (Po.pl (Po.turn a))]):=by
 have cc:=MY (l:=a) (n:=n) (cap:=[]) (src:=iRv (jF 0)) (e:=mE (jC (Ei tH (jF 0)) (jC (jF 1) (jI)))) (τ:=[.ref n]) (S:=S) (S1:=S) (X6 (by dsimp[kD,bools]) hn) hn (λp=>Po.pA (-p.1,p.2)) (λp=>by
  dsimp[kD,bools];exact qh (show 2<=16777216 by decide)) hl
 unfold pD Af A3;dsimp[kD,bools,mz,Nat.reduceAdd,Nat.reduceSub];rw[show kZ [none,none] _ _ _ _ _ _=_ from cc];unfold Po.pl Po.turn;rw[bq];rfl
end K30
namespace K30
open PySem L2 Am
open Po (Pl Ok Bd)
open Su (Es At Vl)
def YW{S:jK}{r:Nat}{D:Es}{o:ag}{p:Pl}{k:Nat}(hd:kj S d=some (D.map Su.kv))(hA:At S D)(hv:Vl k b D)(hr:jG S r=some (Po.pl p))(hl:D.length<16777216)(hk:k+p.length<16777216) :
  ∃(L:Nat) (S':jK),ku [.ref d,.tup (o.map .int),.ref r] S=.ok .non S'/\kj S' d=some ((Su.oU D o L (Po.pG (Su.vS (Su.sm D) o) p)).map Su.kv)/\At S' (Su.oU D o L (Po.pG (Su.vS (Su.sm D) o) p))/\S.length<=L/\Kp (·=d) S S':=by
 obtain⟨x,ex,hx⟩:=Su.get_or (o:=o) hd hA;have vo:=hv.v o;obtain⟨L,S2,e2,h1,h2,k2⟩:=Tj hx (kH (o:=.lst []) hr) vo.1 ();have kS:lC S S2:=(Kp.refl.lay).trans k2;have hd2:=kS.dct _ _ (λz=>z) hd;have hd1:kj (S++[.lst []]) d=some (D.map Su.kv):=Su.zG hd;refine⟨L,S2.set d (.dct ((Su.oU D o L (Po.pG (Su.vS (Su.sm D) o) p)).map Su.kv)),?_,Su.DG (Su.Bk hd2),?_,by simp at h2;lia,kS.of0.HK (.inl rfl)⟩
 ·unfold ku sX tR;have n0:newL [] S=.ok (.ref S.length) (S++[.lst []]):=lg (show 0<=16777216 by decide);dsimp[kD,bools,mz,Nat.reduceAdd,Nat.reduceSub,Su.Ui,Su.Uu,hd,dw,n0,Su.T_,hd1,ex,e2,Su.vD,Su.A0,hd2,wu (show(D.map Su.kv).length<16777216 by rw[aH];exact hl),Su.Iw (p:=Po.pG (Su.vS (Su.sm D) o) p)]
 ·refine(Su.At.put (hA.wM kS) h1).kp (Kp.refl.HK (.inl rfl)) λe he z=>?_
  rcases Su.sQ he with y|y
  ·exact Su.oB hd (hA e y) z
  ·rw[y]at z;exact Su.oB hd2 h1 z
def A_{S:jK}{D:Es}(hd:kj S d=some (D.map Su.kv))(hA:At S D)(hne:∀e∈D,e.1≠[])(hl:D.length<=16777216) :
  ∃(n:Nat) (S':jK),l_ [.ref d] S=.ok (.ref n) S'/\jG S' n=some ((Su.qL D λp=>!p.isEmpty).map Su.ent)/\At S' (Su.qL D λp=>!p.isEmpty)/\S.length<n/\lC S S':=by
 have n0:=Su.GJ hd hne;obtain⟨n,S',e,h1,h2,h3,h4⟩:=Su.E9 (cap:=[some 0]) (τ:=[.ref d]) (src:=m9 (ki (f1 yR) (jC (jF 0) (jI)))) (t:=p9 (jO xX (jF 1) (jF 0))) (e:=mE (jC (jF 0) (jC (jO xX (jF 1) (jF 0)) (jI)))) hd hA (mX (by dsimp[kD,bools,n0]) jT) (λp=>!p.isEmpty)
  (λo r q T hT hk hr=>⟨T,by
   have tr:A.Vv (.ref r) T=some (!q.isEmpty):=by
    show(jG T r).map _=_;rw[hr]
    cases q<;>rfl
   dsimp[kD,bools,Su.AD,Su.vH,hT,hk,tr],Kp.refl⟩)
  (λo r T hT hk=>by
   dsimp[kD,bools,Su.AD,Su.vH,hT,hk];exact qh (show 2<=16777216 by decide)) hl
 refine⟨n,S',?_,h1,h2,h3,h4⟩;unfold l_ Bp Bo;dsimp[kD,bools,mz,Nat.reduceAdd,Nat.reduceSub,e]
def sA:Su.Ed ku:=λh1 h2 h3 h4 h5 h6=>YW h1 h2 h3 h4 h5 h6
def A1:Su.Lx nv:=λh1 h2 h3 h4 h5=>su h1 h2 h3 h4 h5
open Po (Pl Ok Bd)
open Su (Es At Vl)
structure Sm (S:jK)(n:Nat)(es:Es):Prop where
 l:jG S n=some (es.map Su.ent)
 a:At S es
def Sm.kp{n:Nat}(h:Sm S n es)(k:lC S S'):Sm S' n es:=⟨k.lst _ _ (λz=>z) h.l,h.a.wM k⟩
def DJ{a b:ag}(h:a.length=b.length):pJ [.tup (a.map .int),.tup (b.map .int)] S=.ok .non S:=by
 unfold pJ uv u7;have:((a.length:Int) == (b.length:Int))=true:=by rw[h];exact bP _
 dsimp[kD,sI,bools,mz,Nat.reduceAdd,Nat.reduceSub,aH,this,bX]
def Cu{n:Nat}{xs:ae}(h:jG S n=some xs):A.Vv (.ref n) S=some (!xs.isEmpty):=by
 show(jG S n).map _=_;rw[h];rfl
def xD{n N:Nat}{es fs:Es}(h:Sm S n es)(h':Sm S m fs)(h1:∀e∈es,e.1.length=N)(h2:∀e∈fs,e.1.length=N):nh [.ref n,.ref m] S=.ok .non S:=by
 unfold nh uy uA;dsimp[kD,sI,bools,mz,Nat.reduceAdd,Nat.reduceSub,Cu h.l,Cu h'.l]
 cases es with
 | nil=>dsimp[kD,sI,bools,gq,iH,bX]
 | cons e es=>cases fs with
  | nil=>dsimp[kD,sI,bools,gq,iH,bX,bD,ji,dm,Cu h'.l]
  | cons f fs=>
   have q:=DJ (S:=S) ((h1 e (aJ ..)).trans (h2 f (aJ ..)).symm);have hl:=h.l;have hl':=h'.l;rw[bD]at hl hl';dsimp[kD,sI,bools,bD,ji,dm,Cu hl',hl,hl',Ae,Su.ent,q]
noncomputable abbrev wd (w:am):ae:=w.map λk:Nat=>A.int (k:Int)
def ixD{l:ag}{k:Nat}{i:Int}(h:i=k)(hk:k<l.length):qI (l.map A.int) i=some (.int (l.getD k 0)):=Dv h (by rw[aI,aF hk];rfl)
def SY{l:ag}{k:Nat}:((l.map A.int).set (k-1) (.int (l.getD k 0))).set k (.int (l.getD (k-1) 0))=(Wd.ex l k).map A.int:=by
 unfold Wd.ex;rw[iW,iW]
def abw{f g:A->A->jK->R A}{ca cb cc:Ex}{a c:A}(h1:ca τ S=.ok a S)(h2:cb τ S=.ok b S)(h3:f a b S=.ok (.bl true) S)(h4:cc τ S=.ok c S):YY f g ca cb cc τ S=g b c S:=by
 unfold YY;rw[h1,R.oZ,h2,R.oZ,h3,R.oZ];unfold kCh;show(cc τ S).bind _=_;rw[h4];rfl
def XA{i:Int}:qF [.int i] S=.ok (.bl true) S:=by
 unfold qF wN wH;dsimp[kD,bools,mz,Nat.reduceAdd,Nat.reduceSub,show zC .int "int" = some true from rfl,show zC .int "bool" = some false from rfl,dm]
def aci{n k:Int}(h1:1<=k)(h2:k<n):nL [.int n,.int k] S=.ok (.bl true) S:=by
 unfold nL rR rT;have c:YY aLe Yo (eC (.int 1)) (jF 1) (jF 0) [.int n,.int k] S=.ok (.bl true) S:=by
  rw[abw (a:=.int 1) (b:=.int k) (c:=.int n) rfl rfl (by dsimp[kD,bf h1]) rfl];dsimp[kD,bf h2]
 dsimp[kD,bools,mz,Nat.reduceAdd,Nat.reduceSub,XA,c]
def z9{xs:ag}{k:Nat}(h1:1<=k)(h2:k<xs.length)(hl:xs.length<=1000):∃S',kM [.tup (xs.map .int),.int k] S=.ok (.tup ((Wd.ex xs k).map .int)) S'/\lC S S':=by
 have e1:=aci (S:=S) (n:=(xs.length:Int)) (k:=(k:Int)) () ();have a1:qI (xs.map A.int) (k:Int)=some (.int (xs.getD k 0)):=ixD rfl ();have a2:qI (xs.map A.int) ((k:Int)-1)=some (.int (xs.getD (k-1) 0)):=ixD (k:=k-1) () ();have x1:zR xs.length ((k:Int)-1)=some (k-1):=Aq () ();have x2:zR xs.length (k:Int)=some k:=Aq rfl ();have hL:jG (S++[O.lst (xs.map .int)]) S.length=some (xs.map .int):=jT;have lS:∀ys,jG ((S++[O.lst (xs.map .int)]).set S.length (.lst ys)) S.length=some ys:=λys=>oz (by simp);have e2:lI [.tup (xs.map .int),.int k,.int ((k:Int)+1)] S=.ok (.tup ((Wd.ex xs k).map .int)) (((S++[O.lst (xs.map .int)]).set S.length (.lst ((xs.map A.int).set (k-1) (.int (xs.getD k 0))))).set S.length (.lst ((Wd.ex xs k).map .int))):=by
  unfold lI n6 n5;dsimp[kD,bools,mz,Nat.reduceAdd,Nat.reduceSub,hL,show(k:Int)+1-1=k by lia,a1,a2,mP (show 2<=sizeLine by decide),mP (show 2=2 from rfl),aH,x1,lS,cA,x2,SY];rw[oz (by simp)];dsimp[kD,bools]
 unfold kM u9 uD;dsimp[kD,sI,bools,mz,Nat.reduceAdd,Nat.reduceSub,aH,e1,bX,e2];exact⟨_,rfl,((Kp.refl.lay).set (.inr (aO _))).set (.inr (aO _))⟩
def ixG{xs:ag}{i:Int}(h1:0<=i)(h2:i<xs.length):qI (xs.map A.int) i=some (.int (xs.getD i.toNat 0)):=ixD (k:=i.toNat) () ()
noncomputable def fl (xs:ag)(n:Nat):ag:=(k_ 1 (n:Int)).filter λk=>decide (xs.getD (k-1).toNat 0>xs.getD k.toNat 0)
def yg{S:jK}{n:Nat}{xs:ag}(hlen:xs.length=n)(h2:n<=20):oO [.tup (xs.map .int)] S=.ok (.ref S.length) (S++[.lst ((fl xs n).map .int)]):=by
 have ec:=Av (lo:=1) (hi:=(n:Int)) (cap:=[some 0]) (src:=AK (eC (.int 1)) (ki (f1 qH) (jC (jF 0) (jI)))) (t:=v_ (jO Wm (jO oA (jF 1) (jO aSub (jF 0) (eC (.int 1)))) (jO oA (jF 1) (jF 0)))) (e:=jF 0) (τ:=[.tup (xs.map .int)]) (S:=S) (S1:=S)
  (Qa (S1:=S) (by dsimp[kD,bools]) (by dsimp[kD,bools,aH,hlen]) (ve () ()) (ve () ()))
  (λk=>decide (xs.getD (k-1).toNat 0>xs.getD k.toNat 0)) (λk=>.int k) (λk h1 h2=>by
   have x1:qI (xs.map A.int) (k-1)=some (.int (xs.getD (k-1).toNat 0)):=ixG () ();have x2:qI (xs.map A.int) k=some (.int (xs.getD k.toNat 0)):=ixG () ();dsimp[kD,bools,x1,x2]) (λk _ _ _=>by dsimp[kD,bools]) ()
 unfold oO Eo DO;dsimp[kD,bools,mz,Nat.reduceAdd,Nat.reduceSub,ec];rfl
theorem Jj{t:Int}:∀(p:ag),inA S (.int t) (p.map .int)=some (decide (t∈p))
 | []=>rfl
 | x::p=>by
  show(tK S 12 (.int x) (.int t)).bind (λa=>(inA S (.int t) (p.map .int)).map λb=>a || b)=_;rw[Jj p];show some ((x == t) || decide (t∈p))=_;by_cases c:x=t
  ·subst c;rw[bP,bf (show x∈x::p from aJ ..)];rfl
  ·rw[d_.mpr c];congr 1;rw[gD,jo];constructor
   ·exact λz=>aL _ z
   ·intro z
    rcases bw.mp z with z|z
    ·exact absurd z.symm c
    ·exact z
open Po (Pl Ok Bd)
open Su (Es At Vl AF)
def Th{o:ag}{N k:Nat}(hl:o.length=N)(h1:1<=k)(h2:k<N):decide ((k:Int)∈fl o N)=Su.nj o k:=by
 unfold fl Su.nj;rw[jo,cN,oJ,je,show((k:Int)-1).toNat=k-1 by lia,cZ];constructor
 ·exact λh=>h.2
 ·exact λh=>⟨⟨(),()⟩,h⟩
def Kw{S:jK}{n N k:Nat}{es:Es}(h:Sm S n es)(h1:∀e∈es,e.1.length=N/\2 * e.2.2.length<=j/\∀p∈e.2.2,p.2.natAbs<big)(k1:1<=k)(k2:k<N)(hN:N<=20)(hl:(2 * es.length+2) * j<16777216)(hl':es.length<=100000) :
  ∃(L:Nat) (S':jK) (rs:Es),kW [.ref n,.int k] S=.ok (.ref L) S'/\Sm S' L rs/\Su.sm rs=Su.bx k (Su.sm es)/\(∀e∈rs,Ok e.2.2/\e.2.2≠[]/\e.2.2.length<=2 * es.length * j/\S.length<=e.2.1/\e.2.1<L)/\Su.Ap rs/\rs.length<=2 * es.length/\S.length<=L/\lC S S':=by
 have k0:lC S (S++[.dct []]):=Kp.refl.lay;obtain⟨y3,y4,xs,D,T,hz,e1,f,kp⟩:=Su.xY (w:=2) (j:=j) (b:=S.length) (i0:=0) (S:=S++[.dct []]) (S1:=S++[.dct []]) (d:=S.length) (n:=n) (es:=es) (src:=nU) (c:=mO) (g:=yp 2 (o8 (kL 3) (o8 (kL 4) (yo)))) (λy z _=>[.ref n,.int k,.ref S.length,y,z]) (λ_=>True) (Su.gX k) (λ_ _ _ _ _=>rfl) (x3:=.unb) (x4:=.unb) (xs0:=[]) trivial
  (show nU _ _=_ from mX (by dsimp[kD,bools]) (kH h.l)) (kH h.l) (Su.Fil.new Su.oG) λi e T Q D xs hi he _ kT f=>by
   obtain⟨b1,b2,b3⟩:=h1 e he;have tl:=kT.len;have hm:2 * i+2<=2 * es.length:=()
   have hm2:(2 * i+2) * j<=(2 * es.length) * j:=bN _ hm;have hm3:(2 * es.length+2) * j=2 * es.length * j+2 * j:=by rw[Nat.add_mul]
   have hm4:(2 * i+2) * j=(2 * i+1) * j+j:=eB _ _;have hm5:(2 * i+1) * j=2 * i * j+j:=eB _ _;rw[aR]at tl;obtain⟨T0,e0,kq⟩:=z9 (S:=T) (xs:=e.1) (k:=k) k1 () ();have aT:=((h.a.wM k0).EL kT Su.oG).wM kq;have f0:=f.wM kq;have qtl:=kq.len;rw[cB]at f0;have ne1:Wd.ex e.1 k≠[]:=λz=>by have:=Wd.mD e.1 k;rw[z]at this;simp at this;lia
   obtain⟨D1,T1,e1,f1,k1'⟩:=f0.add sA (o:=Wd.ex e.1 k) (aT e he) () ne1 () () ();have k1l:=k1'.len;have fo:=yg (S:=T1) (xs:=e.1) (n:=N) b1 hN;have in1:aIn false (.int k) (.ref T1.length) (T1++[.lst ((fl e.1 N).map .int)])=.ok (.bl (Su.nj e.1 k)) (T1++[.lst ((fl e.1 N).map .int)]):=by
    show opt (jG _ _) _=_;rw[jT,kN,Jj,Th b1 k1 k2];rfl
   have kE:lC T1 (T1++[.lst ((fl e.1 N).map .int)]):=Kp.refl.lay;obtain⟨U,hU⟩:∃U,U=T1++[O.lst ((fl e.1 N).map .int)]:=⟨_,rfl⟩;rw[<- hU]at in1 kE fo;have fU:=f1.wM kE;have kTU:Kp (·=S.length) T U:=(kq.of0.trans k1').trans kE.of0
   cases hf:Su.nj e.1 k with
   | false=>
    refine⟨D1,U,[],trivial,?_,?_,kTU⟩
    ·rw[hf]at in1;unfold mO;dsimp[kD,sI,bools,e0,e1,fo,in1]
    ·rw[cB];unfold Su.gX;rw[hf,aK (by simp)];exact fU.mono ()
   | true=>
    have aU:=(aT.EL k1' f0.dd).wM kE;have n0:jG (U++[.lst (AF.map kA)]) U.length=some (AF.map kA):=jT;obtain⟨L,T2,e2,l1,l2,k2'⟩:=yO kA (λ_ _ _=>rfl) n0 (kH (o:=.lst (AF.map kA)) (aU e he)) (show 2 * e.2.2.length<16777216 by lia) (λp hp=>by
     rw[vE]
     rcases bw.mp hp with z|z
     ·rw[z];exact show 1<2 ^ 4096 by decide +kernel
     ·rw[aP.mp z];exact show 1<2 ^ 4096 by decide +kernel) b3
    have kU2:lC U T2:=(Kp.refl.lay).trans k2';have tl2:=kU2.len;have tle:=kE.len;obtain⟨D2,T3,e3,f3,k3'⟩:=(fU.wM kU2).add sA (o:=e.1) l1 (bI (Su.C5 _ _) (show 2 * e.2.2.length<=j from b2)) (λz=>by rw[z]at b1;simp at b1;lia) () () ();refine⟨D2,T3,[],trivial,?_,?_,(kTU.trans kU2.of0).trans k3'⟩
    ·rw[hf]at in1;unfold mO;dsimp[kD,sI,bools,e0,e1,fo,in1];rw[show[((-1:Int),(1:Int)),((1:Int),(-1:Int))].map kA=AF.map kA from rfl];dsimp[kD,sI,bools,e2,e3]
    ·rw[cB];unfold Su.gX;rw[hf,aM rfl];exact f3
 have kT:lC S T:=k0.old kp λq hq _ z=>()
 have fl:=f.ll;rw[cB]at fl;obtain⟨L,S',e2,r1,r2,r3,r4⟩:=A_ f.dd f.aa f.kk ();have tl:=kT.len;have fs:=f.ss;rw[Su.IT]at fs;refine⟨L,S',_,?_,⟨r1,r2⟩,by rw[Su.vC,fs];rfl,λe he=>?_,f.pw.out _,?_,(),kT.trans r4⟩
 ·unfold kW rL rJ;dsimp[kD,sI,bools,mz,Nat.reduceAdd,Nat.reduceSub,Su.sq];rw[show lX nU _ mO _ _=_ from e1];dsimp[kD,sI,bools,e2]
 ·obtain⟨m1,m2⟩:=Su.vO he;obtain⟨v1,v2,v3⟩:=f.vv e m1;have lt:=mL (f.aa e m1);rw[cB]at v2;exact⟨v1,λz=>(by rw[z]at m2;cases m2),v2,v3,()⟩
 ·unfold Su.qL;rw[aH];refine bI (dP _ _) ?_;rw[(ko _).length_eq,aH];exact fl
end K30
namespace K30
open PySem L2 Am
open Po (Pl Ok Bd)
open Su (Es At Vl AF)
open He (Sz)
open Fw (rg)
def Sm.EL{n:Nat}(h:Sm S n es)(k:Kp (·=d) S S')(hd:kj S d=some kvs):Sm S' n es:=⟨k.lst _ _ (λz=>Su.oB hd h.l z.symm) h.l,h.a.EL k hd⟩
def nX{N:Nat}{o:ag}(h:o.Perm (rg N)):o.length=N:=by rw[h.length_eq,Wd.jV]
def kY{es:Es}{l:Su.Ps}(h:Su.sm es=l){e:Su.En}(he:e∈es):(e.1,e.2.2)∈l:=by rw[<- h];exact bA.mpr ⟨e,he,rfl⟩
structure Kn (N:Nat)(Φ:ag->Su.Ps)(T:jK)(d:Nat)(K:Es):Prop where
 dd:kj T d=some (K.map Su.kv)
 gd:Su.Gd (Su.sm K)
 pm:∀e∈K,e.1.Perm (rg N)
 at_:∀e∈K,∃es:Es,Sm T e.2.1 es/\Su.sm es=Φ e.1
def Kn.wM{N:Nat}{Φ:ag->Su.Ps}{K:Es}(h:Kn N Φ T d K)(k:lC T T'):Kn N Φ T' d K:=⟨k.dct _ _ (λz=>z) h.dd,h.gd,h.pm,λe he=>by obtain⟨es,a,b⟩:=h.at_ e he;exact⟨es,a.kp k,b⟩⟩
def Kn.EL{N f:Nat}{Φ:ag->Su.Ps}{K:Es}(h:Kn N Φ T d K)(k:Kp (·=f) T T')(hf:kj T f=some kvs)(ne:d≠f):Kn N Φ T' d K:=⟨k.dct _ _ ne h.dd,h.gd,h.pm,λe he=>by obtain⟨es,a,b⟩:=h.at_ e he;exact⟨es,a.EL k hf,b⟩⟩
def Kn.many{N:Nat}{Φ:ag->Su.Ps}{K:Es}(hN:N<6)(h:Kn N Φ T d K):K.length<=120:=by
 have:=He.many hN h.gd.nd λo ho=>by
  obtain⟨e,he,rfl⟩:=bA.mp ho;obtain⟨f,hf,rfl⟩:=bA.mp he;exact h.pm f hf
 rwa [aH,Su.nc]at this
def YE:Ok []:=⟨List.Pairwise.nil,nofun⟩
def Kn.put{N r:Nat}{Φ:ag->Su.Ps}{K:Es}{o:ag}(hN:N<6)(h:Kn N Φ T d K)(po:o.Perm (rg N))(hr:Sm T r es)(he:Su.sm es=Φ o) :
  ∃T' K',Fd (.ref d) (.tup (o.map .int)) (.ref r) T=.ok Unit.unit T'/\Kn N Φ T' d K'/\xX (.ref d) (.tup (o.map .int)) T'=.ok (.ref r) T'/\Sm T' r es/\Kp (·=d) T T':=by
 have k:Kp (·=d) T (T.set d (.dct ((Su.oU K o r []).map Su.kv))):=Kp.refl.HK (.inl rfl);have dd:kj (T.set d (.dct ((Su.oU K o r []).map Su.kv))) d=some ((Su.oU K o r []).map Su.kv):=Su.DG (Su.Bk h.dd);obtain⟨e,e1,e2⟩:=Su.CI (D:=K) (o:=o) (r:=r) (p:=[]);have hm:=h.many hN;refine⟨_,Su.oU K o r [],?_,⟨dd,?_,λe he=>?_,λe he'=>?_⟩,?_,hr.EL k h.dd,k⟩
 ·rw[Su.A0,h.dd,kN,Su.Iw (p:=[])];exact wu (show(K.map Su.kv).length<16777216 by rw[aH];lia)
 ·rw[Su.GW];exact h.gd.put YE
 ·rcases Su.sQ he with z|z
  ·exact h.pm e z
  ·rw[z];exact po
 ·rcases Su.sQ he' with z|z
  ·obtain⟨fs,a,b⟩:=h.at_ e z;exact⟨fs,a.EL k h.dd,b⟩
  ·rw[z];exact⟨es,hr.EL k h.dd,he⟩
 ·rw[Su.vH,dd,kN,Su.qP,e1,dw,kN,e2]
def Ot{o:ag}:Mu true (.tup (o.map .int)) (.ref d) S=opt (kj S d) λkvs=>.ok (.bl (!(lH kvs o).isSome)) S:=by
 show opt (kj S d) (λkvs=>opt (A.ints (o.map .int)) λns=>_)=_;rw[ints_map];rfl
theorem E3{N P n:Nat}{l:Su.Ps}(hN:N<6)(hz:Sz N P C l)(hP:P<=1000)(hC:3 ^ 25 * C<big)(hs:Su.sm es=l):∀(f:Nat) {S:jK}{K:Es}{o:ag},Iv.inv o<f->o.Perm (rg N)->Sm S n es->Kn N (He.bo l) S d K ->
  ∃(r:Nat) (S':jK) (K' rs:Es),pK f [.ref n,.tup (o.map .int),.ref d] S=.ok (.ref r) S'/\Kn N (He.bo l) S' d K'/\Sm S' r rs/\Su.sm rs=He.bo l o/\Kp (·=d) S S'
 | 0,S,K,o,hf,_,_,_=>absurd hf (e_ _)
 | f+1,S,K,o,hf,po,h,hK=>by
  have lo:=nX po;show ∃(r:Nat) (S':jK) (K' rs:Es),lV qj (qA (pK f)) [.ref n,.tup (o.map .int),.ref d] S=.ok (.ref r) S'/\_;have i1:Mu true (.tup (o.map .int)) (.ref d) S=.ok (.bl (!(lH (K.map Su.kv) o).isSome)) S:=by rw[Ot,hK.dd,kN]
  unfold qA qj
  cases hL:Su.fE K o with
  | some e=>
   obtain⟨m1,rfl⟩:=Su.rY hL;obtain⟨rs,r1,r2⟩:=hK.at_ e m1;have lk:lH (K.map Su.kv) e.1=some (.ref e.2.1):=by rw[Su.qP,hL];rfl
   have x1:xX (.ref d) (.tup (e.1.map .int)) S=.ok (.ref e.2.1) S:=by rw[Su.vH,hK.dd,kN,lk,kN]
   rw[lk]at i1;refine⟨e.2.1,S,K,rs,?_,hK,r1,r2,Kp.refl⟩;dsimp[kD,sI,bools,mz,Nat.reduceAdd,Nat.reduceSub,i1,i9,bX,x1]
  | none=>
   have lk:lH (K.map Su.kv) o=none:=by rw[Su.qP,hL];rfl
   rw[lk]at i1;have fo:=yg (S:=S) (xs:=o) (n:=N) lo ();have hh:(fl o N).head?=(He.ff o).map λk:Nat=>(k:Int):=by
    have:=He.UW (o:=o);rw[lo]at this;exact this
   obtain⟨S1,hS1⟩:∃S1,S1=S++[O.lst ((fl o N).map .int)]:=⟨_,rfl⟩;have k1:lC S S1:=by rw[hS1];exact Kp.refl.lay
   have l1:jG S1 S.length=some ((fl o N).map .int):=by rw[hS1];exact jT
   rw[<- hS1]at fo;have tr:=Cu l1
   cases hf1:He.ff o with
   | none=>
    have fe:fl o N=[]:=by
     rw[hf1]at hh;exact List.head?_eq_none_iff.mp hh
    obtain⟨T',K',e1,n1,x1,s1,kp⟩:=(hK.wM k1).put hN po (h.kp k1) (by rw[hs];exact(He.Fl hf1).symm);refine⟨n,T',K',es,?_,n1,s1,by rw[hs];exact(He.Fl hf1).symm,k1.of0.trans kp⟩;rw[fe]at tr;dsimp[kD,sI,bools,mz,Nat.reduceAdd,Nat.reduceSub,i1,gQ,dm,fo,tr,gq,iH,bX,Su.vD,e1,x1]
   | some k=>
    obtain⟨f1,f2,f3⟩:=He.C_ hf1;obtain⟨t,ft⟩:∃t,fl o N=(k:Int)::t:=by
     rw[hf1]at hh;exact List.head?_eq_some_iff.mp hh
    rw[ft]at tr l1;have hd:=Fw.oK f1 f2 (by have:=bV f3;lia);obtain⟨S2,x2,k2⟩:=z9 (S:=S1) (xs:=o) (k:=k) f1 f2 ();have k12:=k1.trans k2;have pe:=He.nM po f1 ();obtain⟨r3,S3,K3,rs3,x3,n3,s3,q3,k3⟩:=E3 hN hz hP hC hs f () pe (h.kp k12) (hK.wM k12);have z3:Sz N (P+25) (3 ^ 25 * C) (Su.sm rs3):=by rw[q3];exact hz.bo hN pe
    have m3:=z3.many hN;rw[Su.nc]at m3;obtain⟨L,S4,rs4,x4,s4,q4,_,_,_,_,k4⟩:=Kw (j:=2 * (2 * (P+25)+1)) s3 (k:=k) (N:=N) (λe he=>by
     have b:=z3.pb (kY rfl he);exact⟨nX (z3.pm _ (kY rfl he)),by have:=b.2;show 2 * e.2.2.length<=_;exact Nat.mul_le_mul_left _ this,λp hp=>cV (b.1.c p hp) hC⟩) f1 () () (by
      have:(2 * rs3.length+2) * (2 * (2 * (P+25)+1))<=242 * (2 * (2 * (P+25)+1)):=bN _ ();lia) ()
    have q4':Su.sm rs4=He.bo l o:=by rw[q4,q3];exact(He.Sf hf1).symm
    obtain⟨T',K',e1,n1,x1,s1,kp⟩:=(n3.wM k4).put hN po s4 q4';refine⟨L,T',K',rs4,?_,n1,s1,q4',((k12.of0.trans k3).trans k4.of0).trans kp⟩;have l3:jG S2 S.length=some (((k:Int)::t).map .int):=k2.lst _ _ (λz=>z) l1;have l4:jG S3 S.length=some (((k:Int)::t).map .int):=k3.lst _ _ (λz=>Su.oB (hK.wM k12).dd l3 z.symm) l3;dsimp[kD,sI,bools,mz,Nat.reduceAdd,Nat.reduceSub,i1,gQ,dm,fo,tr,bD,ji,bX];rw[bD]at l1 l3 l4;dsimp[kD,sI,bools,l1,Ae,x2,x3,l4,x4,Su.vD,e1,x1]
end K30
namespace K30
open PySem L2 Am
def qR{xs:ag}{n:Nat}(px:xs.Perm (k_ 1 ((n:Int)+1))):xs.length=n:=by have:=NV px ();lia
def Hg{xs:ag}{n:Int}(px:xs.Perm (k_ 1 (n+1))):xs.Nodup:=px.nodup_iff.mpr (qC _ _)
def Jg{xs:ag}{n:Nat}(px:xs.Perm (k_ 1 ((n:Int)+1)))(h2:n<=1000):∃(ys:ag) (S':jK),uR [.tup (xs.map .int)] S=.ok (.tup (ys.map .int)) S'/\Bl.pX xs ys/\ys.Perm (k_ 1 ((n:Int)+1))/\lC S S':=by
 have lx:=qR px;unfold uR Ib G0;dsimp[kD,bools,mz,Nat.reduceAdd,Nat.reduceSub,aH,lx];rw[Zd (k:=n) jT ()];dsimp[kD,bools];have hlen:(S++[O.lst [.int 0]]).length=S.length+1:=by simp
 rw[hlen];refine Xq (xs:=xs.map .int) (S1:=S++[O.lst [.int 0]]++[O.lst (List.replicate n (.int 0))]) (Wj (by dsimp[kD,bools]))
  (λt τ S'=>∃(a2 a3:A) (ps:ag),τ=[.tup (xs.map .int),.ref (S.length+1),a2,a3]/\jG S' (S.length+1)=some (ps.map .int)/\ps.length=n/\(∀(p:Nat) (h:p<xs.length),p<t->ps[(xs[p]-1).toNat]?=some ((p:Int)+1))/\lC S S')
  (λr=>∃(ys:ag) (S':jK),RS.end (RS.seq r _)=.ok (.tup (ys.map .int)) S'/\Bl.pX xs ys/\ys.Perm (k_ 1 ((n:Int)+1))/\lC S S') ⟨.unb,.unb,List.replicate n 0,rfl,?_,by simp,λ_ _ h=>absurd h (e_ _),Kp.refl.lay.lay⟩ ?_ ?_
 ·rw[List.map_replicate,<- hlen];exact jT
 ·rintro t x τ S' hx ⟨a2,a3,ps,rfl,hL,hl,hps,hk⟩;rw[aQ]at hx;obtain⟨v,hv,rfl⟩:=aX.mp hx;obtain⟨ht,ev⟩:=aN.mp hv;have mv:=GI px (aW hv);refine⟨_,_,by dsimp[kD,bools,mP (show([_,_]:ae).length=2 from rfl)];rfl,.inl ?_⟩;have hi:zR ps.length (v-1)=some (v-1).toNat:=Aq () ();have lL:=mL hL;unfold E2;dsimp[kD,bools,hL,aH,hi];refine⟨_,_,rfl,_,_,ps.set (v-1).toNat ((t:Int)+1),rfl,?_,by rw[cA];exact hl,λp hp hpt=>?_,hk.set (.inr ())⟩
  ·rw[oz lL,iW]
  ·by_cases e:p=t
   ·subst e;rw[ev,cj ()]
   ·have ne:(xs[p]-1).toNat≠(v-1).toNat:=λz=>by
     have mp:=GI px (c9 hp);have:xs[p]=xs[t]:=by rw[ev];lia
     exact e ((dz (Hg px)).mp this)
    rw[cH (dj ne)];exact hps p hp ()
 ·rintro τ S' ⟨a2,a3,ps,rfl,hL,hl,hps,hk⟩;rw[aH]at hps;refine⟨ps,S',by dsimp[kD,bools,hL],⟨(),λp h=>hps p h h⟩,?_,hk⟩;refine(zp (qC _ _) (λv hv=>?_) (by rw[qw];lia)).symm;have:=oJ.mp hv;have hp:(v-1).toNat<xs.length:=()
  have:=aW (hps (v-1).toNat hp hp)
  rwa [show(((v-1).toNat:Nat):Int)+1=v by lia]at this
open Po (Pl Ok Bd)
open Su (Es At Vl AF)
open He (Sz)
open Fw (rg)
structure Nw (b L:Nat)(rs:Es):Prop where
 ap:Su.Ap rs
 nw:∀e∈rs,b<=e.2.1/\e.2.1<L
def CF{S:jK}{N P c n:Nat}{fs:Es}(hN:N<6)(h0:1<=N)(h:Sm S n es)(h':Sm S m fs)(hz:Sz N P C (Su.sm es))(hz':Sz N Q c (Su.sm fs))(hP:P+Q<=500)(hC:3 ^ 25 * C<big)(hc:c<big) :
  ∃(L:Nat) (S':jK) (rs:Es),oh [.ref n,.ref m] S=.ok (.ref L) S'/\Sm S' L rs/\Su.sm rs=He.UI (Su.sm es) (Su.sm fs)/\Nw S.length L rs/\S.length<=L/\lC S S':=by
 obtain⟨S1,hS1⟩:∃S1,S1=S++[O.dct []]++[O.dct []]:=⟨_,rfl⟩;have k0:lC S S1:=by rw[hS1];exact Kp.refl.lay.lay
 have d0:kj S1 S.length=some []:=by rw[hS1];exact Su.zG Su.oG
 have d1:kj S1 (S.length+1)=some []:=by
  have:=Su.oG (S:=S++[O.dct []]) (xs:=[]);rw[aR,bJ]at this;rw[hS1];exact this
 have len1:S1.length=S.length+2:=by rw[hS1];simp
 obtain⟨j,hj⟩:∃j,j=2 * (P+25+Q)+1:=⟨_,rfl⟩;have lf:=hz'.many hN;rw[Su.nc]at lf;have hle:(fs.map Su.ent).length=fs.length:=aH ..;have key:∃(y4 y5 y6 y7:A) (D K:Es) (T:jK) (i:Nat),lX o_ (yp 2 (o8 (kL 4) (o8 (kL 5) (yo)))) o7 [.ref n,.ref m,.ref S.length,.ref (S.length+1),.unb,.unb,.unb,.unb] S1=.nx [.ref n,.ref m,.ref S.length,.ref (S.length+1),y4,y5,y6,y7] T/\i<=120 * fs.length/\Su.Fil T S.length S.length i j (Su.adds [] (He.yw (Su.sm es) (Su.sm fs))) D/\lC S T:=by
  refine qb (n:=m) (xs:=fs.map Su.ent) (S1:=S1) (show o_ _ _=_ from mX (by dsimp[kD,bools]) (k0.lst _ _ (λz=>z) h'.l))
   (λt τ T=>(∃y4 y5 y6 y7:A,τ=[.ref n,.ref m,.ref S.length,.ref (S.length+1),y4,y5,y6,y7])/\(∃(i:Nat) (D:Es),i<=120 * t/\Su.Fil T S.length S.length i j (Su.adds [] (He.yw (Su.sm es) (Su.sm (fs.take t)))) D)/\(∃K,Kn N (He.bo (Su.sm es)) T (S.length+1) K)/\lC S T)
   (λr=>∃(y4 y5 y6 y7:A) (D K:Es) (T:jK) (i:Nat),r=.nx [.ref n,.ref m,.ref S.length,.ref (S.length+1),y4,y5,y6,y7] T/\i<=120 * fs.length/\Su.Fil T S.length S.length i j (Su.adds [] (He.yw (Su.sm es) (Su.sm fs))) D/\lC S T)
   ⟨⟨_,_,_,_,rfl⟩,⟨0,[],aO _,Su.Fil.new d0⟩,⟨[],d1,Su.Gd.nil,(nofun),nofun⟩,k0⟩ (λt τ T hh=>hh.2.2.2.lst _ _ (λz=>z) h'.l) ?_ ?_
  ·rintro t z τ T hz1 ⟨⟨y4,y5,y6,y7,rfl⟩,⟨i,D,hi,fT⟩,⟨K,hK⟩,kT⟩;rw[aQ]at hz1;obtain⟨e,he,rfl⟩:=aX.mp hz1;have htl:=(aN.mp he).1;have me:=aW he;have pe:=hz'.pm _ (kY rfl me);have be:=hz'.pb (kY rfl me);refine⟨[.ref n,.ref m,.ref S.length,.ref (S.length+1),.tup (e.1.map .int),.ref e.2.1,y6,y7],T,rfl,.inl ?_⟩;obtain⟨r,T1,K1,rs,x1,n1,s1,q1,k1⟩:=E3 hN hz () hC rfl 26 (by have:=He.BJ hN pe;lia) pe (h.kp kT) hK;have z1:Sz N (P+25) (3 ^ 25 * C) (Su.sm rs):=by rw[q1];exact hz.bo hN pe
   have m1:=z1.many hN;rw[Su.nc]at m1;have f1:Su.Fil T1 S.length S.length i j (Su.adds [] (He.yw (Su.sm es) (Su.sm (fs.take t)))) D:=⟨k1.dct _ _ () fT.dd,fT.aa.EL k1 hK.dd,fT.ss,fT.vv,fT.kk,fT.ll,fT.pw⟩;have p1:jG T1 e.2.1=some (Po.pl e.2.2):=k1.lst _ _ (λz=>Su.oB hK.dd ((h'.kp kT).a e me) z.symm) ((h'.kp kT).a e me);have tl:=kT.len;have tl1:=k1.len;have len2:S.length+2<=T.length:=by have:=Su.Bk hK.dd;lia
   obtain⟨z6,z7,_,D2,T2,_,x2,f2,k2⟩:=Su.xY (w:=1) (j:=j) (b:=S.length) (i0:=i) (S:=T) (S1:=T1) (d:=S.length) (n:=r) (es:=rs) (src:=rP) (c:=rD) (g:=yp 2 (o8 (kL 6) (o8 (kL 7) (yo)))) (λy z _=>[.ref n,.ref m,.ref S.length,.ref (S.length+1),.tup (e.1.map .int),.ref e.2.1,y,z]) (λ_=>True) (λx Q=>Su.za Q x.1 (Po.times e.2.2 x.2.2)) (λ_ _ _ _ _=>rfl) (x3:=y6) (x4:=y7) (xs0:=[]) trivial
    (show rP _ _=_ from mX (by
     have x1':wC [.ref n,.tup (e.1.map .int),.ref (S.length+1)] T=.ok (.ref r) T1:=x1;dsimp[kD,sI,bools,x1']) s1.l) s1.l f1 λa x U Q1 D' xs ha hx _ kU f=>by
     have ul:=kU.len;have b1:=z1.pb (kY rfl hx);rw[eF]at f;rw[eF];have ai:i+a<14400:=()
     have hm1:(i+a) * j<=14400 * j:=bN _ ();obtain⟨L,U1,e1,l1,l2,k1'⟩:=A1 (kU.lst _ _ (λz=>Su.oB f1.dd p1 z.symm) p1) ((s1.a.EL kU f1.dd) x hx) (by
      have a1:=be.2;have a2:=b1.2;have a3:(2 * Q+1) * (2 * (P+25)+1)<=1001 * 1051:=dY () ();exact cV (bI (dY a1 a2) a3) ⋯) (λp hp=>cV (be.1.c p hp) hc) λp hp=>cV (b1.1.c p hp) hC
     have k1l:=k1'.len;have tl':(Po.times e.2.2 x.2.2).length<=j:=by
      have:=He.PB.times be.1 b1.1;rw[hj];refine bI this ?_;lia
     obtain⟨D3,U2,e2,f',k'⟩:=(f.wM k1').add sA (o:=x.1) l1 tl' (λz=>by
      have:=nX (z1.pm _ (kY rfl hx));rw[show((x.1,x.2.2):ag×Pl).1=x.1 from rfl,z]at this;simp at this;lia) () () ()
     exact⟨D3,U2,[],trivial,by unfold rD;dsimp[kD,sI,bools,e1,e2],f',k1'.of0.trans k'⟩
   have kT2:lC S T2:=(kT.old k1 λq hq _ z=>()).old k2 λq hq _ z=>()
   refine⟨[.ref n,.ref m,.ref S.length,.ref (S.length+1),.tup (e.1.map .int),.ref e.2.1,z6,z7],T2,?_,⟨_,_,_,_,rfl⟩,⟨i+1 * rs.length,D2,(),?_⟩,⟨K1,n1.EL k2 f1.dd ()⟩,kT2⟩
   ·unfold o7;exact x2
   ·rw[Su.yV]at f2;rw[c5,he,Su.EI];unfold He.yw at f2 ⊢;rw[iU,Su.Ao];have:List.flatMap (λe=>He.Cd e.2 (He.bo (Su.sm es) e.1)) (Su.sm (some e).toList)=(Su.sm rs).map λx=>(x.1,Po.times e.2.2 x.2):=by
     show He.Cd e.2.2 (He.bo (Su.sm es) e.1)++[]=_;rw[cG,q1];rfl
    rw[this];exact f2
  ·rintro τ T ⟨⟨y4,y5,y6,y7,rfl⟩,⟨i,D,hi,fT⟩,⟨K,hK⟩,kT⟩;rw[hle]at hi;rw[hle,dc]at fT;exact⟨y4,y5,y6,y7,D,K,T,i,rfl,hi,fT,kT⟩
 obtain⟨y4,y5,y6,y7,D,K,T,i,e1,hi,f,kT⟩:=key;have fl:=f.ll;obtain⟨L,S',e2,r1,r2,r3,r4⟩:=A_ f.dd f.aa f.kk ();have tl:=kT.len;refine⟨L,S',_,?_,⟨r1,r2⟩,by rw[Su.vC,f.ss];rfl,⟨f.pw.out _,λe he=>?_⟩,(),kT.trans r4⟩
 ·unfold oh uB uO;dsimp[kD,sI,bools,mz,Nat.reduceAdd,Nat.reduceSub,Su.sq,aR,bJ];rw[<- hS1,show lX o_ _ o7 _ _=_ from e1];dsimp[kD,sI,bools,e2]
 ·obtain⟨m1,m2⟩:=Su.vO he;obtain⟨v1,v2,v3⟩:=f.vv e m1;have lt:=mL (f.aa e m1);exact⟨v3,()⟩
def Pu{S:jK}{N P n:Nat}(hN:N<6)(h:Sm S n es)(hz:Sz N P C (Su.sm es)) :
  ∃(L:Nat) (S':jK) (rs:Es),mK [.ref n] S=.ok (.ref L) S'/\Sm S' L rs/\Su.sm rs=He.G8 (Su.sm es)/\(∀b,Nw b n es->Nw b L rs)/\S.length<=L/\lC S S':=by
 have lf:=hz.many hN;rw[Su.nc]at lf;have pm:∀e∈es,e.1.Perm (rg N):=λe he=>hz.pm _ (kY rfl he);have g2:∀x y:A,gd (([x,y]:ae).length<=sizeLine)=λr:Am.R A=>r:=λx y=>by funext r;exact qh (show 2<=16777216 by decide)
 obtain⟨S1,e1,k1⟩:=Su.MD (es:=es) (n:=n) (cap:=[]) (src:=m9 (jF 0)) (ex:=mE (jC (eFn uR (jC (jF 0) (jI))) (jC (jF 1) (jI)))) (τ:=[.ref n]) (S:=S) (mX (by dsimp[kD,bools]) h.l) h.l (λe=>Su.ent (He.bk e.1,e.2)) (λe he T kT=>by
  obtain⟨ys,T',b1,b2,b3,b4⟩:=Jg (S:=T) (pm e he) ();have:ys=He.bk e.1:=He.om ⟨pm e he,b3,b2⟩ (He.n8 (pm e he));subst this;exact⟨T',by dsimp[kD,bools,b1,g2];rfl,b4⟩) ()
 obtain⟨es',he'⟩:∃es',es'=es.map λe:Su.En=>(He.bk e.1,e.2):=⟨_,rfl⟩;have l1:jG (S1++[.lst (es.map λe=>Su.ent (He.bk e.1,e.2))]) S1.length=some (es'.map Su.ent):=by rw[jT,he',bq];rfl
 have nd:(es'.map Prod.fst).Nodup:=by
  have:=He.BG (n:=N) (ks:=es.map Prod.fst) (λo ho=>by obtain⟨e,he,rfl⟩:=bA.mp ho;exact pm e he) (by
   have:=hz.cn.gd.nd;unfold Su.sm at this
   rwa [bq]at this)
  rw[he',bq];rw[bq]at this;exact this
 have x1:=Su.Mr l1 nd;have k2:lC S (S1++[O.lst (es.map λe=>Su.ent (He.bk e.1,e.2))]++[O.lst ((Am.nI es').map Su.ent)]):=k1.lay.lay;have perm:=Am.qt es';have hm:∀e∈Am.nI es',∃f∈es,e=(He.bk f.1,f.2):=λe he=>by
  have:=perm.mem_iff.mp he;rw[he']at this;obtain⟨f,hf,rfl⟩:=bA.mp this;exact⟨f,hf,rfl⟩
 refine⟨_,_,Am.nI es',?_,⟨jT,λe he=>?_⟩,?_,λb hb=>⟨?_,λe he=>?_⟩,?_,k2⟩
 ·unfold mK sR t6;dsimp[kD,bools,mz,Nat.reduceAdd,Nat.reduceSub,e1,x1]
 ·obtain⟨f,hf,rfl⟩:=hm e he;exact(h.a.wM k2) f hf
 ·rw[Su.Rm,he']
  skip
  congr 1;unfold Su.sm He.wb;rw[bq,bq];rfl
 ·have a1:Su.Ap es':=by
   rw[he'];unfold Su.Ap;rw[cI];refine gH (λ{e f} he hf z=>⟨λw=>z.1 ?_,z.2⟩) hb.ap;have:=dB He.bk w
   rwa [He.uH (pm e he),He.uH (pm f hf)]at this
  exact(perm.pairwise_iff (λ{a b} z=>⟨z.1.symm,z.2.symm⟩)).mpr a1
 ·obtain⟨f,hf,rfl⟩:=hm e he;have:=hb.nw f hf;have ll:=mL (h.a f hf);have kl:=k1.len;refine⟨this.1,?_⟩;rw[aR];show f.2.1<_;lia
 ·have kl:=k1.len;rw[aR];lia
def xZ{S:jK}{N P c n:Nat}{fs:Es}(hN:N<6)(h0:1<=N)(h:Sm S n es)(h':Sm S m fs)(hz:Sz N P C (Su.sm es))(hz':Sz N Q c (Su.sm fs))(hP:P+Q<=500)(hC:3 ^ 25 * C<big)(hc:3 ^ 25 * c<big) :
  ∃(L:Nat) (S':jK) (rs:Es),mU [.ref n,.ref m] S=.ok (.ref L) S'/\Sm S' L rs/\Su.sm rs=He.prod (Su.sm es) (Su.sm fs)/\Nw S.length L rs/\S.length<=L/\lC S S':=by
 have nl:=xD h h' (λe he=>nX (hz.pm _ (kY rfl he))) (λe he=>nX (hz'.pm _ (kY rfl he)));by_cases c1:(Su.sm fs).length<=(Su.sm es).length
 ·obtain⟨L,S',rs,e1,s1,q1,w1,l1,k1⟩:=CF hN h0 h h' hz hz' hP hC ();refine⟨L,S',rs,?_,s1,by rw[q1];unfold He.prod;rw[aM c1],w1,l1,k1⟩;rw[Su.nc,Su.nc]at c1;unfold mU vj vX;dsimp[kD,sI,bools,mz,Nat.reduceAdd,Nat.reduceSub,nl,h.l,h'.l,aH,bf (show(fs.length:Int)<=(es.length:Int)by lia),e1]
 ·obtain⟨L1,S1,r1,e1,s1,q1,_,l1,k1⟩:=Pu hN h' hz';obtain⟨L2,S2,r2,e2,s2,q2,_,l2,k2⟩:=Pu hN (h.kp k1) hz;obtain⟨L3,S3,r3,e3,s3,q3,w3,l3,k3⟩:=CF hN h0 (s1.kp k2) s2 (by rw[q1];exact hz'.G8) (by rw[q2];exact hz.G8) () hc ();have z3:Sz N (Q+25+P) (120 * ((2 * P+1) * (C * (3 ^ 25 * c)))) (Su.sm r3):=by
   rw[q3,q1,q2];exact Sz.UI hN hz'.G8 hz.G8
  obtain⟨L4,S4,r4,e4,s4,q4,w4,l4,k4⟩:=Pu hN s3 z3;refine⟨L4,S4,r4,?_,s4,by rw[q4,q3,q1,q2];unfold He.prod;rw[aK c1],?_,?_,((k1.trans k2).trans k3).trans k4⟩
  ·rw[Su.nc,Su.nc]at c1;unfold mU vj vX;dsimp[kD,sI,bools,mz,Nat.reduceAdd,Nat.reduceSub,nl,h.l,h'.l,aH,bu (show ¬(fs.length:Int)<=(es.length:Int)by lia),e1,e2,e3,e4]
  ·have:=w4 _ w3;have:=k1.len;have:=k2.len;exact⟨(w4 _ w3).ap,λe he=>⟨by have:=((w4 _ w3).nw e he).1;lia,((w4 _ w3).nw e he).2⟩⟩
  ·have:=k1.len;have:=k2.len;have:=k3.len;lia
end K30
namespace K30
open PySem L2 Am
open Po (Pl Ok Bd)
theorem IL{k:Nat}:∀l:Pl,rG (tK S (k+2)) (Po.pl l) (Po.pl l)=some true
 | []=>rfl
 | p::l=>by
  have e:tK S (k+2) (Po.pA p) (Po.pA p)=some true:=by
   show rG (tK S (k+1)) (([p.1,p.2]:ag).map .int) (([p.1,p.2]:ag).map .int)=_;rw[vJ,bf rfl]
  show(tK S (k+2) (Po.pA p) (Po.pA p)).bind _=_;rw[e];show Option.map _ (rG (tK S (k+2)) (Po.pl l) (Po.pl l))=_;rw[IL l];rfl
open Po (Pl Ok Bd)
open Su (Es At Vl)
theorem FE{k:Nat}:∀{es fs:Es},At S es->At S fs->Su.sm es=Su.sm fs->rG (tK S (k+4)) (es.map Su.ent) (fs.map Su.ent)=some true
 | [],[],_,_,_=>rfl
 | [],f::fs,_,_,h=>nomatch h
 | e::es,[],_,_,h=>nomatch h
 | e::es,f::fs,h1,h2,h3=>by
  obtain⟨h4,h5⟩:=List.cons.inj h3;have h4:(e.1,e.2.2)=(f.1,f.2.2):=h4;obtain⟨e1,e2⟩:=Prod.mk.inj h4;have a1:=h1 e (aJ ..);have a2:=h2 f (aJ ..);rw[<- e2]at a2;have q1:tK S (k+3) (.tup (e.1.map .int)) (.tup (f.1.map .int))=some true:=by
   rw[<- e1];show rG (tK S (k+2)) _ _=_;rw[vJ,bf rfl]
  have q2:tK S (k+3) (.ref e.2.1) (.ref f.2.1)=some true:=by
   show(jG S e.2.1).bind (λxs=>(jG S f.2.1).bind λys=>rG (tK S (k+2)) xs ys)=_;rw[a1,a2];exact IL (k:=k) _
  have q:tK S (k+4) (Su.ent e) (Su.ent f)=some true:=by
   skip
   show(tK S (k+3) _ _).bind (λp=>((tK S (k+3) _ _).bind λq=>(rG (tK S (k+3)) [] []).map λr=>q && r).map λq=>p && q)=_;rw[q1,q2];rfl
  show(tK S (k+4) (Su.ent e) (Su.ent f)).bind _=_;rw[q]
  skip
  rw[FE (λx hx=>h1 x (aL _ hx)) (λx hx=>h2 x (aL _ hx)) h5];rfl
def Bs{n:Nat}{fs:Es}(h:Sm S n es)(h':Sm S m fs)(e:Su.sm es=Su.sm fs):tK S 12 (.ref n) (.ref m)=some true:=by
 show(jG S n).bind (λxs=>(jG S m).bind λys=>rG (tK S 11) xs ys)=_;rw[h.l,h'.l];exact FE (k:=7) h.a h'.a e
open Po (Pl Ok Bd)
open Su (Es At Vl)
open He (Sz)
def O_{S:jK}{n N P c:Nat}{fs:Es}(hN:N<6)(h0:1<=N)(h:Sm S n es)(h':Sm S m fs)(hz:Sz N P C (Su.sm es))(hz':Sz N P c (Su.sm fs))(hP:P<=10000) :
  ∃(L:Nat) (S':jK) (rs:Es),nR [.ref n,.ref m] S=.ok (.ref L) S'/\Sm S' L rs/\Su.sm rs=He.zx (Su.sm es) (Su.sm fs)/\Nw S.length L rs/\S.length<=L/\lC S S':=by
 have nl:=xD h h' (λe he=>nX (hz.pm _ (kY rfl he))) (λe he=>nX (hz'.pm _ (kY rfl he)));have m1:=hz.many hN;have m2:=hz'.many hN;rw[Su.nc]at m1 m2;have hle:(es++fs).length=es.length+fs.length:=aR ..;have n1:jG (S++[.dct []]) n=some (es.map Su.ent):=kH h.l;have n2:jG (S++[.dct []]) m=some (fs.map Su.ent):=kH h'.l;have ad:=M4 n1 n2 (by rw[aH,aH];lia);rw[<- bO]at ad;have k0:lC S (S++[.dct []]++[.lst ((es++fs).map Su.ent)]):=Kp.refl.lay.lay;have hj:∀e∈es++fs,e.2.2.length<=2 * P+1/\e.1≠[]:=λe he=>by
  have:e.1.length=N/\e.2.2.length<=2 * P+1:=(bE.mp he).elim (λz=>⟨nX (hz.pm _ (kY rfl z)),(hz.pb (kY rfl z)).2⟩) λz=>⟨nX (hz'.pm _ (kY rfl z)),(hz'.pb (kY rfl z)).2⟩;exact⟨this.2,λz=>by rw[z]at this;have:=this.1;simp at this;lia⟩
 obtain⟨j,hj'⟩:∃j,j=2 * P+1:=⟨_,rfl⟩;rw[<- hj']at hj;have hb:(0+(es++fs).length) * j+j<16777216:=by
  have:(0+(es++fs).length) * j<=240 * j:=bN _ ();lia
 obtain⟨y3,y4,D,T,e1,f,kp⟩:=Su.UC sA (j:=j) (b:=S.length) (i0:=0) (S:=S++[.dct []]) (S1:=S++[.dct []]++[.lst ((es++fs).map Su.ent)]) (d:=S.length) (x0:=.ref n) (x1:=.ref m) (x3:=.unb) (x4:=.unb) (xs:=[]) (src:=vm) (es:=es++fs)
  (show vm _ _=_ from mX (by dsimp[kD,bools,ad]) jT) jT ((h.a.app h'.a).wM k0) (Su.Fil.new (Su.zG Su.oG)) k0.len hj hb ()
 have kT:lC S T:=k0.old kp λq hq _ z=>()
 have fl:=f.ll;obtain⟨L,S',e2,r1,r2,r3,r4⟩:=A_ f.dd f.aa f.kk ();have tl:=kT.len;refine⟨L,S',_,?_,⟨r1,r2⟩,by rw[Su.vC,f.ss,Su.EI];rfl,⟨f.pw.out _,λe he=>?_⟩,(),kT.trans r4⟩
 ·unfold nR Ey EJ;dsimp[kD,sI,bools,mz,Nat.reduceAdd,Nat.reduceSub,nl,Su.sq];rw[show lX vm _ Ct _ _=_ from e1];dsimp[kD,sI,bools,e2]
 ·obtain⟨m1,m2⟩:=Su.vO he;obtain⟨v1,v2,v3⟩:=f.vv e m1;have lt:=mL (f.aa e m1);exact⟨v3,()⟩
noncomputable def Sn (N P C:Nat)(S:jK)(n:Nat)(l:Su.Ps):Prop:=Sz N P C l/\∃es,Sm S n es/\Su.sm es=l
def Sn.kp{N P n:Nat}{l:Su.Ps}(h:Sn N P C S n l)(k:lC S S'):Sn N P C S' n l:=by
 obtain⟨a,es,b,c⟩:=h;exact⟨a,es,b.kp k,c⟩
def Sn.eq{N P n:Nat}{l k:Su.Ps}(h:Sn N P C S n l)(h':Sn N P' C' S m k)(e:l=k):tK S 12 (.ref n) (.ref m)=some true:=by
 obtain⟨_,es,b,c⟩:=h;obtain⟨_,fs,b',c'⟩:=h';exact Bs b b' (by rw[c,c',e])
def Sn.prod{N P c n:Nat}{l k:Su.Ps}(h:Sn N P C S n l)(h':Sn N Q c S m k)(hN:N<6)(h0:1<=N)(hP:P+Q<=500)(hC:3 ^ 25 * C<big)(hc:3 ^ 25 * c<big) :
  ∃(L:Nat) (S':jK),mU [.ref n,.ref m] S=.ok (.ref L) S'/\Sn N (P+25+Q) (120 * ((2 * Q+1) * (c * (3 ^ 25 * C)))) S' L (He.prod l k)/\lC S S':=by
 obtain⟨a,es,b,rfl⟩:=h;obtain⟨a',fs,b',rfl⟩:=h';obtain⟨L,S',rs,e1,s1,q1,_,_,k1⟩:=xZ hN h0 b b' a a' hP hC hc;exact⟨L,S',e1,⟨a.prod hN a',rs,s1,q1⟩,k1⟩
def Sn.add{N P c n:Nat}{l k:Su.Ps}(h:Sn N P C S n l)(h':Sn N P c S m k)(hN:N<6)(h0:1<=N)(hP:P<=10000) :
  ∃(L:Nat) (S':jK),nR [.ref n,.ref m] S=.ok (.ref L) S'/\Sn N P (C+c) S' L (He.zx l k)/\lC S S':=by
 obtain⟨a,es,b,rfl⟩:=h;obtain⟨a',fs,b',rfl⟩:=h';obtain⟨L,S',rs,e1,s1,q1,_,_,k1⟩:=O_ hN h0 b b' a a' hP;exact⟨L,S',e1,⟨a.sum a',rs,s1,q1⟩,k1⟩
def Sn.mono{N P n:Nat}{l:Su.Ps}(h:Sn N P C S n l)(hp:P<=P')(hc:C<=C'):Sn N P' C' S n l:=⟨h.1.mono hp hc,h.2⟩
end K30
namespace K30
open PySem L2 Am
open Fw (Ba Dn Two Va rg)
def HN{l:ag}{n:Nat}(hl:l.length=n){x:Int}:x∈fl l n ↔ ∃k:Nat,x=k/\Ba l k:=by
 unfold fl;rw[cN,oJ,je];constructor
 ·rintro⟨⟨h1,h2⟩,h3⟩;refine⟨x.toNat,(),(),(),?_⟩;rw[show(x-1).toNat=x.toNat-1 by lia]at h3;exact h3
 ·rintro⟨k,rfl,h1,h2,h3⟩;refine⟨⟨(),()⟩,?_⟩;rw[show((k:Int)-1).toNat=k-1 by lia,cZ];exact h3
def Sb{l:ag}{n:Nat}(hl:l.length=n)(h:∀k,¬Ba l k):fl l n=[]:=by
 rw[List.eq_nil_iff_forall_not_mem];intro x hx;obtain⟨k,_,hk⟩:=(HN hl).mp hx;exact h k hk
def R0{l:ag}{n k:Nat}(hl:l.length=n)(hk:Ba l k)(hm:∀j,Ba l j->k<=j):∃t,fl l n=(k:Int)::t:=by
 have hin:(k:Int)∈fl l n:=(HN hl).mpr ⟨k,rfl,hk⟩;have pw:(fl l n).Pairwise (·<=·):=(DR 1 (n:Int)).sublist List.filter_sublist;have hmem:∀x∈fl l n,(k:Int)<=x:=λx hx=>by
  obtain⟨j,rfl,hj⟩:=(HN hl).mp hx;have:=hm j hj;lia
 cases e:fl l n with
 | nil=>rw[e]at hin;cases hin
 | cons y t=>
  rw[e]at hin pw hmem;have h1:=hmem y (aJ ..);have:y=(k:Int):=by
   rcases bw.mp hin with z|z
   ·exact z.symm
   ·have:=(bM.mp pw).1 _ z;lia
  exact⟨t,by rw[this]⟩
def Zm{n:Nat}{xs:ae}(h:jG S n=some xs):A.Vv (.ref n) S=some (!xs.isEmpty):=by
 show(jG S n).map _=_;rw[h];rfl
def SM(w:am)(k:Nat):wd w++[A.int (k:Int)]=wd (w++[k]):=by unfold wd;rw[bO];rfl
def ZL{S:jK}{o:ag}{n:Nat}(px:o.Perm (k_ 1 ((n:Int)+1)))(h2:n<=20)(hu:Bl.pX o u)(hk:Dn u ks) :
  ∃(W:Nat) (S':jK),ny [.tup (o.map .int)] S=.ok (.ref W) S'/\jG S' W=some (wd ks)/\S.length<=W/\lC S S':=by
 obtain⟨ys,S1,e1,hb,py,k1⟩:=Jg (S:=S) px (show n<=1000 by lia);have eyu:ys=u:=by
  have l1:=hb.1;have l2:=hu.1;apply cT;intro q;by_cases hq:q<u.length
  ·have lo:=qR px;obtain⟨p,hp,ep⟩:∃p,∃h:p<o.length,o[p]=(q:Int)+1:=by
    have:(q:Int)+1∈o:=px.mem_iff.mpr (oJ.mpr ⟨(),()⟩);obtain⟨p,hp,ep⟩:=List.getElem_of_mem this;exact⟨p,hp,ep⟩
   have a1:=hb.2 p hp;have a2:=hu.2 p hp;rw[ep,show((q:Int)+1-1).toNat=q by lia]at a1 a2;rw[a1,a2]
  ·rw[b_ (),b_ ()]
 subst eyu;have lu:=qR py;have hks:ks.length<=400:=by
  rw[hk.len];have:=Iv.Ir ys;rw[lu]at this;exact bI this (dY h2 h2)
 have f0:=yg (S:=S1++[.lst []]) (xs:=ys) lu h2;have l1:(S1++[O.lst []]).length=S1.length+1:=by simp
 have key:=yk (t:=qB) (c:=qv)
  (λτ T=>∃(C:Nat) (l:ag) (done rest:am),τ=[.tup (o.map .int),.tup (l.map .int),.ref S1.length,.ref C]/\ks=done++rest/\Dn l rest/\l.Perm (k_ 1 ((n:Int)+1))/\jG T S1.length=some (wd done)/\jG T C=some ((fl l n).map .int)/\C≠S1.length/\lC S1 T)
  (λτ T=>ks.length-((jG T S1.length).getD []).length)
  (λr=>∃(W:Nat) (S':jK),RS.end (RS.seq r (kQ (jF 2)))=.ok (.ref W) S'/\jG S' W=some (wd ks)/\S.length<=W/\lC S S') ?_ 1000000
 ·unfold ny sW tP;dsimp[kD,sI,bools,mz,Nat.reduceAdd,Nat.reduceSub,e1,f0];refine key _ _ ⟨(S1++[O.lst []]).length,ys,[],ks,rfl,rfl,hk,py,kH jT,jT,(),Kp.refl.lay.lay⟩ ()
 ·rintro τ T ⟨C,l,done,rest,rfl,hd,hdn,pl,hW,hC,hne,kp⟩;have ll:=qR pl;unfold qB;dsimp[kD,bools,Zm hC]
  cases rest with
  | nil=>
   left;rw[Sb ll hdn];rw[cG]at hd;refine⟨T,rfl,S1.length,T,?_,by rw[hd];exact hW,k1.len,k1.trans kp⟩;dsimp[kD,bools]
  | cons k rest=>
   right;obtain⟨t,ht⟩:=R0 ll hdn.1.1 hdn.1.2;rw[ht]at hC;rw[ht];refine⟨T,rfl,.inl ?_⟩;have hk1:=hdn.1.1;have a0:qI ((((k:Int)::t).map A.int)) 0=some (.int k):=Ae;have hdl:done.length<ks.length:=by rw[hd,aR,bg];lia
   have lW:=mL hW;have hC':jG (T.set S1.length (.lst (wd (done++[k])))) C=some (((k:Int)::t).map .int):=by rw[m_ (dj hne)];exact hC
   obtain⟨T2,e2,kp2⟩:=z9 (S:=T.set S1.length (.lst (wd (done++[k])))) (xs:=l) (k:=k) hk1.1 hk1.2.1 ();have hx:(Wd.ex l k).length=n:=by rw[Wd.mD];exact ll
   have f1:=yg (S:=T2) (xs:=Wd.ex l k) hx h2;unfold qv;dsimp[kD,sI,bools,hC,a0,hW,wu (show(wd done).length<16777216 by rw[aH];lia),SM,hC',e2,f1];have hW2:jG (T2++[O.lst ((fl (Wd.ex l k) n).map A.int)]) S1.length=some (wd (done++[k])):=kH (kp2.lst _ _ (λz=>z) (oz lW));have lt2:T.length<=T2.length:=by have:=kp2.len;rwa [cA]at this
   refine⟨_,_,rfl,⟨T2.length,Wd.ex l k,done++[k],rest,rfl,by rw[hd,cu];rfl,hdn.2,Fw.nM pl hk1.1 hk1.2.1,hW2,jT,(),((kp.set (.inr (aO _))).trans kp2).lay⟩,?_⟩;dsimp[hW2,hW,dQ];dsimp[aH,aR,bg,bQ];lia
open Po (Pl Ok Bd)
open Su (Es At Vl AF)
open He (Sz PB)
open Fw (rg)
def IA{S:jK}{n N P c:Nat}{q:Pl}(f:Int×Int->A)(hf:∀p τ S,MU (f p) τ S=MU (Po.pA p) τ S)(hN:N<6)(h0:1<=N)(h:Sm S n es)(hz:Sz N P C (Su.sm es))(hq:jG S m=some (q.map f))(pq:PB Q c q)(lq:q.length<=2)(hP:P<=1000)(hC:C<big)(hc:c<big) :
  ∃(L:Nat) (S':jK) (rs:Es),mS [.ref m,.ref n] S=.ok (.ref L) S'/\Sm S' L rs/\Su.sm rs=He.E_ q (Su.sm es)/\S.length<=L/\lC S S':=by
 have k0:lC S (S++[.dct []]):=Kp.refl.lay;have m1:=hz.many hN;rw[Su.nc]at m1;obtain⟨j,hj⟩:∃j,j=2 * (2 * P+1):=⟨_,rfl⟩;obtain⟨y3,y4,_,D,T,_,e1,fD,kp⟩:=Su.xY (w:=1) (j:=j) (b:=S.length) (i0:=0) (S:=S++[.dct []]) (S1:=S++[.dct []]) (d:=S.length) (n:=n) (es:=es) (src:=t7) (c:=tQ) (g:=yp 2 (o8 (kL 3) (o8 (kL 4) yo))) (λy z _=>[.ref m,.ref n,.ref S.length,y,z]) (λ_=>True) (λe Q=>Su.za Q e.1 (Po.times q e.2.2)) (λ_ _ _ _ _=>rfl) (x3:=.unb) (x4:=.unb) (xs0:=[]) trivial
  (show t7 _ _=_ from mX (by dsimp[kD,bools]) (kH h.l)) (kH h.l) (Su.Fil.new Su.oG) λi e T Q1 D xs hi he _ kT fT=>by
   have b:=hz.pb (kY rfl he);have tl:=kT.len;rw[aR]at tl;rw[cB,eF]at fT;rw[cB,eF];have hm1:i * j<=120 * j:=bN _ ();have lb:e.2.2.length<=2 * P+1:=b.2;have ll:q.length * e.2.2.length<=j:=by rw[hj];exact dY lq lb
   obtain⟨L,T1,x1,l1,l2,k1⟩:=yO f hf (kT.lst _ _ (λz=>Su.oB (Su.oG (S:=S) (xs:=[])) (kH (o:=.dct []) hq) z.symm) (kH hq)) (((h.a.wM k0).EL kT Su.oG) e he) () (λp hp=>cV (pq.c p hp) hc) λp hp=>cV (b.1.c p hp) hC;have k1l:=k1.len;obtain⟨D',T',x2,f',k'⟩:=(fT.wM k1).add sA (o:=e.1) l1 (bI (Su.C5 _ _) ll) (λz=>by
    have:=nX (hz.pm _ (kY rfl he));rw[show((e.1,e.2.2):ag×Pl).1=e.1 from rfl,z]at this;simp at this;lia) () () ()
   exact⟨D',T',[],trivial,by unfold tQ;dsimp[kD,bools,x1,x2],f',k1.of0.trans k'⟩
 rw[cB,eF,Su.yV]at fD;have kT:lC S T:=k0.old kp λq hq _ z=>()
 have fl:=fD.ll;obtain⟨L,S',e2,r1,r2,r3,r4⟩:=A_ fD.dd fD.aa fD.kk ();have tl:=kT.len;refine⟨L,S',_,?_,⟨r1,r2⟩,by rw[Su.vC,fD.ss];rfl,(),kT.trans r4⟩;unfold mS Be Bx;dsimp[kD,bools,mz,Nat.reduceAdd,Nat.reduceSub,Su.sq];rw[show lX t7 _ tQ _ _=_ from e1];dsimp[kD,bools,e2]
def Sk{w:am}{k:Nat}(h:w.getLast?=some k):qI (wd w) (-1)=some (.int k):=by
 obtain⟨u,rfl⟩:=List.getLast?_eq_some_iff.mp h;unfold wd;rw[bO];have e:zR (u.map (λk:Nat=>A.int (k:Int))++[A.int (k:Int)]).length (-1)=some u.length:=by
  unfold zR;rw[aR,aH,bJ,aK (),aM ()];congr 1;lia
 show(zR _ (-1)).bind _=_;rw[show List.map (λk:Nat=>A.int (k:Int)) [k]=[A.int (k:Int)]from rfl,e,dg,dJ (by rw[aH];exact aO _),aH,ig];rfl
theorem JS{N:Nat}(hN:N<6)(h0:1<=N):∀(f:Nat) {S:jK}{K:Es}{o:ag},Iv.inv o<f->o.Perm (rg N)->Kn N (He.tV N) S d K ->
  ∃(r:Nat) (S':jK) (K' rs:Es),mT f [.tup (o.map .int),.ref d] S=.ok (.ref r) S'/\Kn N (He.tV N) S' d K'/\Sm S' r rs/\Su.sm rs=He.tV N o/\Kp (·=d) S S'
 | 0,S,K,o,hf,_,_=>absurd hf (e_ _)
 | f+1,S,K,o,hf,po,hK=>by
  have lo:=nX po;show ∃(r:Nat) (S':jK) (K' rs:Es),lV m7 (ng (mT f)) [.tup (o.map .int),.ref d] S=.ok (.ref r) S'/\_;have i1:Mu true (.tup (o.map .int)) (.ref d) S=.ok (.bl (!(lH (K.map Su.kv) o).isSome)) S:=by rw[Ot,hK.dd,kN]
  unfold ng m7
  cases hL:Su.fE K o with
  | some e=>
   obtain⟨m1,rfl⟩:=Su.rY hL;obtain⟨rs,r1,r2⟩:=hK.at_ e m1;have lk:lH (K.map Su.kv) e.1=some (.ref e.2.1):=by rw[Su.qP,hL];rfl
   have x1:xX (.ref d) (.tup (e.1.map .int)) S=.ok (.ref e.2.1) S:=by rw[Su.vH,hK.dd,kN,lk,kN]
   rw[lk]at i1;refine⟨e.2.1,S,K,rs,?_,hK,r1,r2,Kp.refl⟩;dsimp[kD,sI,bools,mz,Nat.reduceAdd,Nat.reduceSub,i1,i9,bX,x1]
  | none=>
   have lk:lH (K.map Su.kv) o=none:=by rw[Su.qP,hL];rfl
   rw[lk]at i1;obtain⟨W,S1,e1,l1,_,k1⟩:=ZL (S:=S) po () (He.n8 po).ou (He.QB o);have tr:=Cu l1
   cases hw:(He.fwd o).getLast? with
   | none=>
    have fe:=List.getLast?_eq_none_iff.mp hw;rw[fe]at tr;obtain⟨S2,h2⟩:∃S2,S2=S1++[O.lst [.tup [.int 0,.int 1]]]++[O.lst [.tup [.tup (o.map .int),.ref S1.length]]]:=⟨_,rfl⟩;have k2:lC S1 S2:=by rw[h2];exact Kp.refl.lay.lay
    have s2:Sm S2 (S1.length+1) [(o,S1.length,[((0:Int),(1:Int))])]:=by
     have:=jT (S:=S1++[O.lst [.tup [.int 0,.int 1]]]) (xs:=[.tup [.tup (o.map .int),.ref S1.length]]);rw[aR,bJ]at this;rw[h2];exact⟨this,λe he=>by rw[aP.mp he];exact kH jT⟩
    have et:Su.sm [(o,S1.length,[((0:Int),(1:Int))])]=He.tV N o:=(He.Ww po hw).symm;obtain⟨T',K',x2,n2,x3,s3,kp⟩:=(hK.wM (k1.trans k2)).put hN po s2 et;refine⟨S1.length+1,T',K',_,?_,n2,s3,et,(k1.trans k2).of0.trans kp⟩;dsimp[kD,sI,bools,mz,Nat.reduceAdd,Nat.reduceSub,i1,gQ,dm,e1,tr,gq,iH,bX,mP (show 2<=sizeLine by decide),aR,bJ,bg,bQ];rw[<- h2];dsimp[kD,sI,bools,Su.vD,x2,x3]
   | some k=>
    obtain⟨f1,f2,f3⟩:=He.Bg po hw;have ne:((wd (He.fwd o)).isEmpty)=false:=by
     cases hx:He.fwd o with
     | nil=>rw[hx]at hw;cases hw
     | cons=>rfl
    rw[ne]at tr;have a1:=Sk hw;have hd:=Fw.oK f1 (show k<o.length by lia) (by have:=bV f3;lia);obtain⟨S2,x2,k2⟩:=z9 (S:=S1) (xs:=o) (k:=k) f1 () ();have k12:=k1.trans k2;have pe:=He.nM po f1 f2;obtain⟨r3,S3,K3,rs3,x3,n3,s3,q3,k3⟩:=JS hN h0 f () pe (hK.wM k12);have z3:Sz N 25 (5 ^ 25) (Su.sm rs3):=by rw[q3];exact He.Pn hN pe
    have B5:5 ^ 25<big:=by rw[vE];exact show 5 ^ 25<2 ^ 4096 by decide +kernel
    have m3:=z3.many hN;rw[Su.nc]at m3;obtain⟨L4,S4,rs4,x4,s4,q4,_,_,_,_,k4⟩:=Kw (j:=2 * (2 * 25+1)) s3 (k:=k) (N:=N) (λe he=>by
     have b:=z3.pb (kY rfl he);exact⟨nX (z3.pm _ (kY rfl he)),by have:=b.2;show 2 * e.2.2.length<=_;exact Nat.mul_le_mul_left _ this,λp hp=>cV (b.1.c p hp) B5⟩) f1 f2 () () ()
    have z4:Sz N 26 (3 * 5 ^ 25) (Su.sm rs4):=by rw[q4];exact z3.bx f1 f2
    have k5:lC S4 (S4++[O.lst (He.LB.map kA)]):=Kp.refl.lay;obtain⟨L5,S5,rs5,x5,s5,q5,_,k6⟩:=IA kA (λ_ _ _=>rfl) (S:=S4++[O.lst (He.LB.map kA)]) (m:=S4.length) (q:=He.LB) (Q:=1) (c:=1) hN h0 ((s3.kp k4).kp k5) z3 jT ⟨λq hq=>by
     rcases bw.mp hq with z|z
     ·rw[z];decide
     ·rw[aP.mp z];decide,λq hq=>by
     rcases bw.mp hq with z|z
     ·rw[z];decide
     ·rw[aP.mp z];decide⟩ (aO 2) ⋯ B5 (by rw[vE];exact show 1<2 ^ 4096 by decide +kernel)
    have z5:Sz N 26 (2 * (1 * 5 ^ 25)) (Su.sm rs5):=by
     rw[q5];exact(z3.E_ (Q:=1) (c:=1) (p:=He.LB) ⟨λq hq=>by
      rcases bw.mp hq with z|z
      ·rw[z];decide
      ·rw[aP.mp z];decide,λq hq=>by
      rcases bw.mp hq with z|z
      ·rw[z];decide
      ·rw[aP.mp z];decide⟩)
    obtain⟨L6,S6,rs6,x6,s6,q6,_,_,k7⟩:=O_ hN h0 (s4.kp (k5.trans k6)) s5 z4 z5 ⋯;have q6':Su.sm rs6=He.tV N o:=by rw[q6,q4,q5,q3];exact(He.RV po hw).symm
    obtain⟨T',K',x7,n7,x8,s8,kp⟩:=(n3.wM ((k4.trans (k5.trans k6)).trans k7)).put hN po s6 q6';refine⟨L6,T',K',rs6,?_,n7,s8,q6',((k12.of0.trans k3).trans ((k4.trans (k5.trans k6)).trans k7).of0).trans kp⟩;have l3:jG S2 W=some (wd (He.fwd o)):=k2.lst _ _ (λz=>z) l1;have l4:jG S3 W=some (wd (He.fwd o)):=k3.lst _ _ (λz=>Su.oB (hK.wM k12).dd l3 z.symm) l3;dsimp[kD,sI,bools,mz,Nat.reduceAdd,Nat.reduceSub,i1,gQ,dm,e1,tr,l1,a1,x2,x3,l4,x4];rw[show[((-1:Int),(-1:Int)),((1:Int),(1:Int))].map kA=He.LB.map kA from rfl];dsimp[kD,sI,bools,x5,x6,Su.vD,x7,x8]
end K30
namespace K30
open PySem L2 Am
open Po (Pl Ok Bd)
open Su (Es At Vl AF)
open He (Sz PB)
open Fw (rg)
def tF{S:jK}{N c:Nat}{fs:Es}(hN:N<6)(h0:1<=N)(h':Sm S m fs)(hz':Sz N Q c (Su.sm fs))(hP:Q<=500)(hc:c<big) :
  ∃(L:Nat) (S':jK) (rs:Es),kg [.ref m] S=.ok (.ref L) S'/\Sm S' L rs/\Su.sm rs=He.tu N He.vw (Su.sm fs)/\Nw S.length L rs/\S.length<=L/\lC S S':=by
 have B5:5 ^ 25<big:=by rw[vE];exact show 5 ^ 25<2 ^ 4096 by decide +kernel
 obtain⟨S1,hS1⟩:∃S1,S1=S++[O.dct []]++[O.dct []]:=⟨_,rfl⟩;have k0:lC S S1:=by rw[hS1];exact Kp.refl.lay.lay
 have d0:kj S1 S.length=some []:=by rw[hS1];exact Su.zG Su.oG
 have d1:kj S1 (S.length+1)=some []:=by
  have:=Su.oG (S:=S++[O.dct []]) (xs:=[]);rw[aR,bJ]at this;rw[hS1];exact this
 obtain⟨j,hj⟩:∃j,j=2 * (25+Q)+1:=⟨_,rfl⟩;have lf:=hz'.many hN;rw[Su.nc]at lf;have hle:(fs.map Su.ent).length=fs.length:=aH ..;have key:∃(y4 y5 y6 y7:A) (D:Es) (T:jK) (i:Nat),lX qV (yp 2 (o8 (kL 3) (o8 (kL 4) yo))) rj [.ref m,.ref S.length,.ref (S.length+1),.unb,.unb,.unb,.unb] S1=.nx [.ref m,.ref S.length,.ref (S.length+1),y4,y5,y6,y7] T/\i<=120 * fs.length/\Su.Fil T S.length S.length i j (Su.adds [] (He.GU N He.vw (Su.sm fs))) D/\lC S T:=by
  refine qb (n:=m) (xs:=fs.map Su.ent) (S1:=S1) (show qV _ _=_ from mX (by dsimp[kD,bools]) (k0.lst _ _ (λz=>z) h'.l))
   (λt τ T=>(∃y4 y5 y6 y7:A,τ=[.ref m,.ref S.length,.ref (S.length+1),y4,y5,y6,y7])/\(∃(i:Nat) (D:Es),i<=120 * t/\Su.Fil T S.length S.length i j (Su.adds [] (He.GU N He.vw (Su.sm (fs.take t)))) D)/\(∃K,Kn N (He.tV N) T (S.length+1) K)/\lC S T)
   (λr=>∃(y4 y5 y6 y7:A) (D:Es) (T:jK) (i:Nat),r=.nx [.ref m,.ref S.length,.ref (S.length+1),y4,y5,y6,y7] T/\i<=120 * fs.length/\Su.Fil T S.length S.length i j (Su.adds [] (He.GU N He.vw (Su.sm fs))) D/\lC S T)
   ⟨⟨_,_,_,_,rfl⟩,⟨0,[],aO _,Su.Fil.new d0⟩,⟨[],d1,Su.Gd.nil,(nofun),nofun⟩,k0⟩ (λt τ T hh=>hh.2.2.2.lst _ _ (λz=>z) h'.l) ?_ ?_
  ·rintro t z τ T hz1 ⟨⟨y4,y5,y6,y7,rfl⟩,⟨i,D,hi,fT⟩,⟨K,hK⟩,kT⟩;rw[aQ]at hz1;obtain⟨e,he,rfl⟩:=aX.mp hz1;have htl:=(aN.mp he).1;have me:=aW he;have pe:=hz'.pm _ (kY rfl me);have be:=hz'.pb (kY rfl me);refine⟨[.ref m,.ref S.length,.ref (S.length+1),.tup (e.1.map .int),.ref e.2.1,y6,y7],T,rfl,.inl ?_⟩;obtain⟨r,T1,K1,rs,x1,n1,s1,q1,k1⟩:=JS hN h0 26 (by have:=He.BJ hN pe;lia) pe hK;have z1:Sz N 25 (5 ^ 25) (Su.sm rs):=by rw[q1];exact He.Pn hN pe
   have m1:=z1.many hN;rw[Su.nc]at m1;have f1:Su.Fil T1 S.length S.length i j (Su.adds [] (He.GU N He.vw (Su.sm (fs.take t)))) D:=⟨k1.dct _ _ () fT.dd,fT.aa.EL k1 hK.dd,fT.ss,fT.vv,fT.kk,fT.ll,fT.pw⟩;have p1:jG T1 e.2.1=some (Po.pl e.2.2):=k1.lst _ _ (λz=>Su.oB hK.dd ((h'.kp kT).a e me) z.symm) ((h'.kp kT).a e me);have tl:=kT.len;have tl1:=k1.len;have len2:S.length+2<=T.length:=by have:=Su.Bk hK.dd;lia
   have le:e.2.2.length<=2 * Q+1:=be.2;obtain⟨z6,z7,_,D2,T2,_,x2,f2,k2⟩:=Su.xY (w:=1) (j:=j) (b:=S.length) (i0:=i) (S:=T) (S1:=T1) (d:=S.length) (n:=r) (es:=rs) (src:=uZ) (c:=vg) (g:=yp 2 (o8 (kL 5) (o8 (kL 6) yo))) (λy z _=>[.ref m,.ref S.length,.ref (S.length+1),.tup (e.1.map .int),.ref e.2.1,y,z]) (λ_=>True) (λx Q=>Su.za Q x.1 (Po.times (Po.turn e.2.2) x.2.2)) (λ_ _ _ _ _=>rfl) (x3:=y6) (x4:=y7) (xs0:=[]) trivial
    (show uZ _ _=_ from mX (by
     have x1':qG [.tup (e.1.map .int),.ref (S.length+1)] T=.ok (.ref r) T1:=x1;dsimp[kD,sI,bools,x1']) s1.l) s1.l f1 λa x U Q1 D' xs ha hx _ kU f=>by
     have ul:=kU.len;have b1:=z1.pb (kY rfl hx);have l1':x.2.2.length<=2 * 25+1:=b1.2;rw[eF]at f;rw[eF];have hm1:(i+a) * j<=14400 * j:=bN _ ();have tn:=CL (S:=U) (kU.lst _ _ (λz=>Su.oB f1.dd p1 z.symm) p1) (show e.2.2.length<=16777216 by lia);have kV:lC U (U++[O.lst (Po.pl (Po.turn e.2.2))]):=Kp.refl.lay;obtain⟨L,U1,e1,l1,l2,k1'⟩:=A1 (n:=U.length) (a:=Po.turn e.2.2) jT (kV.lst _ _ (λz=>z) ((s1.a.EL kU f1.dd) x hx)) (by
      rw[He.BR];have a3:(2 * Q+1) * (2 * 25+1)<=1001 * 51:=dY () ();exact cV (bI (dY le l1') a3) ⋯) (λp hp=>cV (be.1.turn.c p hp) hc) λp hp=>cV (b1.1.c p hp) B5
     have k1l:=k1'.len;have kVl:=kV.len;have tl':(Po.times (Po.turn e.2.2) x.2.2).length<=j:=by
      have:=He.PB.times be.1.turn b1.1;rw[hj];refine bI this ?_;lia
     obtain⟨D3,U2,e2,f',k'⟩:=((f.wM kV).wM k1').add sA (o:=x.1) l1 tl' (λz=>by
      have:=nX (z1.pm _ (kY rfl hx));rw[show((x.1,x.2.2):ag×Pl).1=x.1 from rfl,z]at this;simp at this;lia) () () ()
     exact⟨D3,U2,[],trivial,by unfold vg;dsimp[kD,sI,bools,tn,e1,e2],f',(kV.trans k1').of0.trans k'⟩
   have kT2:lC S T2:=(kT.old k1 λq hq _ z=>()).old k2 λq hq _ z=>()
   refine⟨[.ref m,.ref S.length,.ref (S.length+1),.tup (e.1.map .int),.ref e.2.1,z6,z7],T2,?_,⟨_,_,_,_,rfl⟩,⟨i+1 * rs.length,D2,(),?_⟩,⟨K1,n1.EL k2 f1.dd ()⟩,kT2⟩
   ·unfold rj;exact x2
   ·rw[Su.yV]at f2;rw[c5,he,Su.EI];unfold He.GU at f2 ⊢;rw[iU,Su.Ao];have:List.flatMap (λe=>He.Cd (Po.turn e.2) (He.tO N (He.vw e.1))) (Su.sm (some e).toList)=(Su.sm rs).map λx=>(x.1,Po.times (Po.turn e.2.2) x.2):=by
     show He.Cd (Po.turn e.2.2) (He.tO N (He.vw e.1))++[]=_;rw[cG,q1];rfl
    rw[this];exact f2
  ·rintro τ T ⟨⟨y4,y5,y6,y7,rfl⟩,⟨i,D,hi,fT⟩,⟨K,hK⟩,kT⟩;rw[hle]at hi;rw[hle,dc]at fT;exact⟨y4,y5,y6,y7,D,T,i,rfl,hi,fT,kT⟩
 obtain⟨y4,y5,y6,y7,D,T,i,e1,hi,f,kT⟩:=key;have fl:=f.ll;obtain⟨L,S',e2,r1,r2,r3,r4⟩:=A_ f.dd f.aa f.kk ();have tl:=kT.len;refine⟨L,S',_,?_,⟨r1,r2⟩,by rw[Su.vC,f.ss];rfl,⟨f.pw.out _,λe he=>?_⟩,(),kT.trans r4⟩
 ·unfold kg yX yM;dsimp[kD,sI,bools,mz,Nat.reduceAdd,Nat.reduceSub,Su.sq,aR,bJ];rw[<- hS1,show lX qV _ rj _ _=_ from e1];dsimp[kD,sI,bools,e2]
 ·obtain⟨m1,m2⟩:=Su.vO he;obtain⟨v1,v2,v3⟩:=f.vv e m1;have lt:=mL (f.aa e m1);exact⟨v3,()⟩
def Sn.tu{N c:Nat}{k:Su.Ps}(h:Sn N Q c S m k)(hN:N<6)(h0:1<=N)(hP:Q<=500)(hc:c<big) :
  ∃(L:Nat) (S':jK),kg [.ref m] S=.ok (.ref L) S'/\Sn N (25+Q) (120 * ((2 * Q+1) * (c * 5 ^ 25))) S' L (He.tu N He.vw k)/\lC S S':=by
 obtain⟨a,fs,b,rfl⟩:=h;obtain⟨L,S',rs,e1,s1,q1,_,_,k1⟩:=tF hN h0 b a hP hc;exact⟨L,S',e1,⟨a.tu hN,rs,s1,q1⟩,k1⟩
def Sn.XQ{N P c n:Nat}{l:Su.Ps}{q:Pl}(h:Sn N P C S n l)(f:Int×Int->A)(hf:∀p τ S,MU (f p) τ S=MU (Po.pA p) τ S)(hN:N<6)(h0:1<=N)(hq:jG S m=some (q.map f))(pq:PB Q c q)(lq:q.length<=2)(hP:P<=1000)(hC:C<big)(hc:c<big) :
  ∃(L:Nat) (S':jK),mS [.ref m,.ref n] S=.ok (.ref L) S'/\Sn N (P+Q) (q.length * (c * C)) S' L (He.E_ q l)/\lC S S':=by
 obtain⟨z,es,s,rfl⟩:=h;obtain⟨L,S',rs,e1,s1,q1,_,k1⟩:=IA f hf hN h0 s z hq pq lq hP hC hc;exact⟨L,S',e1,⟨z.E_ pq,rs,s1,q1⟩,k1⟩
end K30
namespace K30
open PySem L2 Am
theorem BQ:∀(l:ag) (j:Nat) (h:j<l.length),(l[j]::l.eraseIdx j).Perm l
 | x::l,0,_=>eU _
 | x::l,j+1,h=>(List.Perm.swap x _ _).trans (List.Perm.cons x (BQ l j (iw h)))
def L0{ls fs:ag}{j:Nat}(h:j<ls.length):((fs++[ls[j]])++ls.eraseIdx j).Perm (fs++ls):=by
 rw[cu];refine List.Perm.append_left fs ?_
 skip
 exact BQ ls j h
def Nk{d:Int}{n:Nat}(h0:0<=d)(h:d.toNat<n):seqIndex? d n=some d.toNat:=by
 unfold seqIndex?;simp;lia
theorem yu{α β:Type}(f:α->β):∀(l:List α) (k:Nat),(l.map f).eraseIdx k=(l.eraseIdx k).map f
 | [],_=>rfl
 | _::_,0=>rfl
 | x::l,k+1=>dB (f x::·) (yu f l k)
def NY{n:Int}(h:ym S b)(h1:1<=n)(h2:n<=20):∃(xs:ag) (S':jK),pH [.ref b,.int n] S=.ok (.tup (xs.map .int)) S'/\xs.Perm (k_ 1 (n+1))/\ym S' b/\Kp (·=b) S S':=by
 have hbS:b<S.length:=by obtain⟨_,_,e,_⟩:=h;exact mL e
 unfold pH ux uz;dsimp[kD,bools,mz,Nat.reduceAdd,Nat.reduceSub,CM (FL (show(-1000000:Int)<=1 by decide) ⋯ (show -1000000<=n+1 by lia) () ()),aR];have key:=yk (t:=rO) (c:=rE)
  (λτ S1=>∃(ls fs:ag),τ=[.ref b,.int n,.ref S.length,.ref (S.length+1)]/\jG S1 S.length=some (ls.map .int)/\jG S1 (S.length+1)=some (fs.map .int)/\(fs++ls).Perm (k_ 1 (n+1))/\ym S1 b/\Kp (·=b) S S1)
  (λτ S1=>((jG S1 S.length).getD []).length)
  (λr=>∃(xs:ag) (S':jK),RS.end (RS.seq r (kQ (ki (f1 ur) (jC (jF 3) jI))))=.ok (.tup (xs.map .int)) S'/\xs.Perm (k_ 1 (n+1))/\ym S' b/\Kp (·=b) S S') ?_ 1000000
 ·refine key _ _ ⟨k_ 1 (n+1),[],rfl,kH jT,?_,eU _,h.kp (c:=λ_=>False) (Kp.refl.lay.lay) (λz=>z),Kp.refl.lay.lay⟩ ?_
  ·have:jG (S++[.lst ((k_ 1 (n+1)).map .int)]++[.lst []]) (S++[O.lst ((k_ 1 (n+1)).map .int)]).length=some []:=jT;simpa using this
  ·rw[kH jT,dQ,aH,qw];lia
 ·rintro τ S1 ⟨ls,fs,rfl,hL,hF,hp,hb,hk⟩;have hlen:fs.length+ls.length<=20:=by
   have:=hp.length_eq;rw[aR,qw]at this;lia
  unfold rO rE;dsimp[kD,bools,hL,aH];by_cases h0:ls=[]
  ·subst h0;left;exact⟨S1,rfl,fs,S1,by dsimp[kD,bools,hF],by simpa using hp,hb,hk⟩
  ·right;have hpos:0<ls.length:=List.length_pos_iff.mpr h0;refine⟨S1,by rw[bf (show(0:Int)<(ls.length:Int)by lia)],.inl ?_⟩;obtain⟨d,S2,e2,d0,d1,hb2,hk2⟩:=digit (m:=(ls.length:Int)) hb () ();have hL2:=hk2.lst S.length _ () hL;have hF2:=hk2.lst (S.length+1) _ () hF;have hd:d.toNat<ls.length:=()
   have lF:=mL hF2;have lL:=mL hL2;have hsq:seqIndex? d ls.length=some d.toNat:=Nk d0 hd;have hF3:jG (S2.set S.length (.lst ((ls.map A.int).eraseIdx d.toNat))) (S.length+1)=some (fs.map .int):=by rw[m_ ()];exact hF2
   dsimp[kD,bools,hL,hF,aH,e2,hL2,Hf,mP (show -(2 ^ 63:Int)<=d/\d<2 ^ 63 by lia),hsq,aQ,aF hd,dw,hF3,wu (show fs.length<16777216 by lia)];refine⟨_,_,rfl,⟨ls.eraseIdx d.toNat,fs++[ls[d.toNat]],rfl,?_,?_,(L0 hd).trans hp,?_,?_⟩,?_⟩
   ·rw[m_ (),oz lL,yu]
   ·rw[oz (by rw[cA];exact lF),bO];rfl
   ·obtain⟨g,st,e,q⟩:=hb2;exact⟨g,st,by rw[m_ (),m_ ()];exact e,q⟩
   ·exact((hk.trans hk2).set (.inr (aO _))).set (.inr ())
   ·rw[m_ (),oz lL,dQ,dQ,yu,aH,aH,List.length_eraseIdx_of_lt hd];lia
open Po (Pl Ok Bd)
open Su (Es At Vl)
open He (Sz PB)
open Fw (rg)
def Zp:GX (.int 10) (.int 20)=λS=>R.ok (.int 100000000000000000000) S:=by funext S;exact mP ⟨by decide,by decide,by decide⟩
def at4{x0 x1 x2 x3 d:Int}(h0:0<=d)(h1:d<4):∃v:Int,qI ([.int x0,.int x1,.int x2,.int x3]:ae) d=some (.int v)/\(v=x0\/v=x1\/v=x2\/v=x3):=by
 have:d=0\/d=1\/d=2\/d=3:=()
 rcases this with rfl|rfl|rfl|rfl
 ·exact⟨x0,rfl,.inl rfl⟩
 ·exact⟨x1,rfl,.inr (.inl rfl)⟩
 ·exact⟨x2,rfl,.inr (.inr (.inl rfl))⟩
 ·exact⟨x3,rfl,.inr (.inr (.inr rfl))⟩
noncomputable def GY (s:Int)(l:Pl):Pl:=l.map λp=>(p.1+s,p.2)
noncomputable def N8:Am.Sm:=
 kc (kI (jO oA (nJ (jC (eC (.int 0)) (jC (eC (.int 0)) (jC (eC (.int 55)) (jC (Ei tH (eC (.int 55))) (jI)))))) (eFn jR (jC (jF 0) (jC (eC (.int 4)) (jI))))) (kL 8))
  (kI (kZ [none,none,some 8] (m9 (jF 7)) (yp 2 (o8 (kL 0) (o8 (kL 1) (yo)))) (qN) (mE (jC (jO lK (jF 0) (jF 2)) (jC (jF 1) (jI))))) (DL (jF 3) (jF 5)))
def Ro{T:jK}{w:Nat}{D:Es}{o:ag}{l:Pl}(h:ym T b)(hw:jG T w=some (Po.pl l))(hwb:w≠b)(hd:kj T d=some (D.map Su.kv))(hA:At T D)(hb:∀e∈D,e.2.1≠b)(hl:l.length<=2)(hD:D.length<=1000) :
  ∃(s:Int) (L:Nat) (T':jK),N8 [.ref b,x1,x2,.ref d,x4,.tup (o.map .int),x6,.ref w,x8] T=.nx [.ref b,x1,x2,.ref d,x4,.tup (o.map .int),x6,.ref w,.int s] T'/\-55<=s/\s<=55/\kj T' d=some ((Su.oU D o L (GY s l)).map Su.kv)/\At T' (Su.oU D o L (GY s l))/\T.length<=L/\ym T' b/\Kp (λq=>q=b\/q=d) T T':=by
 obtain⟨T0,h0⟩:∃T0,T0=T++[O.lst [.int 0,.int 0,.int 55,.int (-55)]]:=⟨_,rfl⟩;have k0:lC T T0:=by rw[h0];exact Kp.refl.lay
 have l0:jG T0 T.length=some [.int 0,.int 0,.int 55,.int (-55)]:=by rw[h0];exact jT
 have hbT:=h.lt;obtain⟨c,T1,e1,c0,c1,b1,k1⟩:=digit (S:=T0) (m:=4) (h.kp k0 λz=>z) ⋯ ⋯;obtain⟨s,hs,hv⟩:=at4 (x0:=0) (x1:=0) (x2:=55) (x3:=-55) c0 c1;have l1:jG T1 T.length=some [.int 0,.int 0,.int 55,.int (-55)]:=k1.lst _ _ () l0;have w1:jG T1 w=some (Po.pl l):=k1.lst _ _ hwb (k0.lst _ _ (λz=>z) hw);have g2:∀x y:A,gd (([x,y]:ae).length<=sizeLine)=λr:Am.R A=>r:=λx y=>by funext r;exact qh (show 2<=16777216 by decide)
 have ec:=Q_ (cap:=[some 8]) (src:=m9 (jF 7)) (e:=mE (jC (jO lK (jF 0) (jF 2)) (jC (jF 1) (jI)))) (τ:=[.ref b,x1,x2,.ref d,x4,.tup (o.map .int),x6,.ref w,.int s]) (S:=T1) (mX (by dsimp[kD,bools]) w1) w1 (λp=>Po.pA (p.1+s,p.2)) (λp=>by dsimp[kD,bools,g2];rfl) ();have el:(l.map λp=>Po.pA (p.1+s,p.2))=Po.pl (GY s l):=by unfold Po.pl GY;rw[bq];rfl
 rw[el]at ec;obtain⟨T2,h2⟩:∃T2,T2=T1++[O.lst (Po.pl (GY s l))]:=⟨_,rfl⟩;rw[<- h2]at ec;have k2:lC T1 T2:=by rw[h2];exact Kp.refl.lay
 have k02:Kp (·=b) T T2:=(k0.of0.trans k1).trans k2.of0;have dnb:d≠b:=λz=>by
  subst z;obtain⟨_,_,e,_⟩:=h;exact Su.oB hd e rfl
 have d2:kj T2 d=some (D.map Su.kv):=k02.dct _ _ dnb hd;have a2:At T2 D:=hA.kp k02 hb;have lL:jG T2 T1.length=some (Po.pl (GY s l)):=by rw[h2];exact jT
 have k3:Kp (·=d) T2 (T2.set d (.dct ((Su.oU D o T1.length (GY s l)).map Su.kv))):=Kp.refl.HK (.inl rfl);have kl:=(k0.of0.trans k1).len;refine⟨s,T1.length,T2.set d (.dct ((Su.oU D o T1.length (GY s l)).map Su.kv)),?_,(),(),Su.DG (Su.Bk d2),(a2.put lL).EL k3 d2,kl,?_,?_⟩
 ·unfold N8;dsimp[kD,bools];rw[<- h0];dsimp[kD,bools,e1,l1,hs];rw[show kZ [none,none,some 8] _ _ _ _ _ _=_ from ec];dsimp[kD,bools,Su.vD,Su.A0,d2,wu (show(D.map Su.kv).length<16777216 by rw[aH];lia),Su.Iw (p:=GY s l)]
 ·exact(b1.kp k2 λz=>z).kp k3 (dj dnb)
 ·exact(k02.mono λ_ _ z=>.inl z).trans (k3.mono λ_ _ z=>.inr z)
def PR{l:Pl}(s:Int)(h:Ok l):Ok (GY s l):=by
 refine⟨?_,λp hp=>?_⟩
 ·unfold GY;rw[cI];exact h.up.imp λz=>by show _+s<_+s;lia
 ·obtain⟨q,hq,rfl⟩:=bA.mp hp;exact h.nz q hq
structure Sp (p:Pl):Prop where
 ok:Ok p
 ne:p≠[]
 pb:PB 60 100000000000000000000 p
 ll:p.length<=2
def LA{S:jK}{N:Nat}{most:Int}(h:ym S b)(hN:1<=N)(hN':N<=20)(h0:1<=most)(h1:most<=100) :
  ∃(n:Nat) (S':jK) (es:Es),ly [.ref b,.int N,.int most] S=.ok (.ref n) S'/\Sm S' n es/\Sz N 60 100000000000000000000 (Su.sm es)/\es≠[]/\(∀e∈es,Sp e.2.2)/\(∀e∈es,S.length<=e.2.1)/\(es.length:Int)<=most/\S.length<=n/\ym S' b/\Kp (·=b) S S':=by
 have hbS:=h.lt;have k0:lC S (S++[.dct []]):=Kp.refl.lay;obtain⟨c,S1,e1,c0,c1,b1,k1⟩:=digit (S:=S++[.dct []]) (m:=most) (h.kp k0 λz=>z) () ();have d1:kj S1 S.length=some []:=k1.dct _ _ () Su.oG;unfold ly pQ pW;dsimp[kD,bools,mz,Nat.reduceAdd,Nat.reduceSub,Su.sq];refine zZ (lo:=0) (hi:=1+c) (S1:=S1) (show rm _ _=_ from sC (by dsimp[kD,bools,e1]) (ve () ()))
  (λi τ T=>∃(D:Es) (a4 a5 a6 a7 a8:A),τ=[.ref b,.int N,.int most,.ref S.length,a4,a5,a6,a7,a8]/\kj T S.length=some (D.map Su.kv)/\At T D/\(∀e∈D,e.1.Perm (rg N)/\Sp e.2.2/\S.length<=e.2.1)/\Su.Gd (Su.sm D)/\D.length<=i/\(1<=i->D≠[])/\ym T b/\Kp (·=b) S T)
  (λr=>∃(n:Nat) (S':jK) (es:Es),RS.end (RS.seq r _)=.ok (.ref n) S'/\Sm S' n es/\Sz N 60 100000000000000000000 (Su.sm es)/\es≠[]/\(∀e∈es,Sp e.2.2)/\(∀e∈es,S.length<=e.2.1)/\(es.length:Int)<=most/\S.length<=n/\ym S' b/\Kp (·=b) S S')
  ⟨[],_,_,_,_,_,rfl,d1,(nofun),(nofun),Su.Gd.nil,aO _,(λz=>absurd z ⋯),b1,k0.of0.trans k1⟩ ?_ ?_
 ·rintro i τ T hi ⟨D,a4,a5,a6,a7,a8,rfl,hd,hA,hP,hG,hl,hne,bT,kT⟩;left;obtain⟨o,T1,e2,po,b2,k2⟩:=NY (n:=(N:Int)) bT () ();obtain⟨p,T2,e3,p0,p1,b3,k3⟩:=digit (S:=T1) (m:=5) b2 ⋯ ⋯;obtain⟨f,T3,e4,f0,f1,b4,k4⟩:=digit (S:=T2) (m:=3) b3 ⋯ ⋯;obtain⟨T4,h4⟩:∃T4,T4=T3++[O.lst (Po.pl [(p-2,1+f)])]:=⟨_,rfl⟩;have k5:lC T3 T4:=by rw[h4];exact Kp.refl.lay
  have l4:jG T4 T3.length=some (Po.pl [(p-2,1+f)]):=by rw[h4];exact jT
  have bl3:=b4.lt;obtain⟨g,T5,e5,g0,g1,b5,k6⟩:=digit (S:=T4) (m:=2) (b4.kp k5 λz=>z) ⋯ ⋯;have l5:jG T5 T3.length=some (Po.pl [(p-2,1+f)]):=k6.lst _ _ () l4;have g2:∀x y:A,gd (([x,y]:ae).length<=sizeLine)=λr:Am.R A=>r:=λx y=>by funext r;exact qh (show 2<=16777216 by decide)
  have kA:Kp (·=b) T T5:=(((k2.trans k3).trans k4).trans k5.of0).trans k6;have tl:=kT.len;have tl3:=((k2.trans k3).trans k4).len;have tl45:=k6.len;have br:∃(l:Pl) (T6:jK),(u_ (v_ (jO (rB false) (eFn jR (jC (jF 0) (jC (eC (.int 2)) (jI)))) (eC (.int 1))))
    (oF (Uc qQ (jF 7) (jC (mE (jC (jO lK (jO lK (jF 6) (eC (.int 1))) (eFn jR (jC (jF 0) (jC (eC (.int 3)) (jI))))) (jC (jO oA (nJ (jC (Ei tH (eC (.int 2))) (jC (Ei tH (eC (.int 1))) (jC (eC (.int 1)) (jC (jO GX (eC (.int 10)) (eC (.int 20))) (jI)))))) (eFn jR (jC (jF 0) (jC (eC (.int 4)) (jI))))) (jI)))) (jI))))
    (nF)) [.ref b,.int N,.int most,.ref S.length,.int (0+(i:Int)),.tup (o.map .int),.int (p-2),.ref T3.length,a8] T4=.nx [.ref b,.int N,.int most,.ref S.length,.int (0+(i:Int)),.tup (o.map .int),.int (p-2),.ref T3.length,a8] T6/\jG T6 T3.length=some (Po.pl l)/\Ok l/\l≠[]/\PB 5 100000000000000000000 l/\l.length<=2/\ym T6 b/\Kp (λq=>q=b\/q=T3.length) T5 T6:=by
   by_cases c1:g=1
   ·obtain⟨q,T6,e6,q0,q1,b6,k7⟩:=digit (S:=T5) (m:=3) b5 ⋯ ⋯;obtain⟨T7,h7⟩:∃T7,T7=T6++[O.lst [.int (-2),.int (-1),.int 1,.int 100000000000000000000]]:=⟨_,rfl⟩;have k8:lC T6 T7:=by rw[h7];exact Kp.refl.lay
    obtain⟨u,T8,e8,u0,u1,b8,k9⟩:=digit (S:=T7) (m:=4) (b6.kp k8 λz=>z) ⋯ ⋯;obtain⟨v,hv,hv'⟩:=at4 (x0:=-2) (x1:=-1) (x2:=1) (x3:=100000000000000000000) u0 u1;have bl6:=b6.lt;have l7:jG T8 T6.length=some [.int (-2),.int (-1),.int 1,.int 100000000000000000000]:=k9.lst _ _ () (by rw[h7];exact jT);have k59:Kp (·=b) T5 T8:=(k7.trans k8.of0).trans k9;have l8:jG T8 T3.length=some (Po.pl [(p-2,1+f)]):=k59.lst _ _ () l5;have l6:jG T6 T3.length=some (Po.pl [(p-2,1+f)]):=k7.lst _ _ () l5;refine⟨[(p-2,1+f),(p-2+1+q,v)],T8.set T3.length (.lst (Po.pl [(p-2,1+f)]++[.tup [.int (p-2+1+q),.int v]])),?_,oz (mL l8),?_,by simp,?_,aO _,?_,?_⟩
    ·dsimp[kD,bools,e5,show(g == 1)=true by rw[c1];rfl,l5,e6,Zp];rw[<- h7];dsimp[kD,bools,e8,l7,hv,g2,l8,wu (show(Po.pl [(p-2,1+f)]).length<16777216 from(by decide:1<16777216))]
    ·refine⟨bM.mpr ⟨λz hz=>?_,bW _ _⟩,λz hz=>?_⟩
     ·rw[aP.mp hz];show p-2<p-2+1+q;lia
     ·rcases bw.mp hz with z1|z1
      ·rw[z1];show 1+f≠0;lia
      ·rw[aP.mp z1];show v≠0;lia
    ·refine⟨λz hz=>?_,λz hz=>?_⟩
     ·rcases bw.mp hz with z1|z1
      ·rw[z1];show(1+f).natAbs<=_;lia
      ·rw[aP.mp z1];show v.natAbs<=_;lia
     ·rcases bw.mp hz with z1|z1
      ·rw[z1];show(p-2).natAbs<=_;lia
      ·rw[aP.mp z1];show(p-2+1+q).natAbs<=_;lia
    ·exact b8.kp (c:=(·=T3.length)) (Kp.refl.set (.inl rfl)) ()
    ·exact(k59.mono λ_ _ z=>.inl z).set (.inl (.inr rfl))
   ·refine⟨[(p-2,1+f)],T5,?_,l5,⟨bW _ _,λz hz=>?_⟩,by simp,⟨λz hz=>?_,λz hz=>?_⟩,(by decide:1<=2),b5,Kp.refl⟩
    ·dsimp[kD,bools,e5,show(g == 1)=false by simp;exact c1]
    ·rw[aP.mp hz];show 1+f≠0;lia
    ·rw[aP.mp hz];show(1+f).natAbs<=_;lia
    ·rw[aP.mp hz];show(p-2).natAbs<=_;lia
  obtain⟨l,T6,x6,l6,ok6,ne6,pb6,ll6,b6,k7⟩:=br;have bl5:=b5.lt;have kB:Kp (·=b) T T6:=kA.old k7 λq hq z w=>()
  obtain⟨s,L,T7,x7,s0,s1,d7,a7',lL,b7,k8⟩:=Ro (x1:=.int N) (x2:=.int most) (x4:=.int (0+(i:Int))) (x6:=.int (p-2)) (x8:=a8) (o:=o) (d:=S.length) (D:=D) b6 l6 () (kB.dct _ _ () hd) (hA.kp kB λe he z=>by have:=(hP e he).2.2;lia) (λe he z=>by have:=(hP e he).2.2;lia) ll6 ();have tl6:=kB.len;refine⟨[.ref b,.int N,.int most,.ref S.length,.int (0+(i:Int)),.tup (o.map .int),.int (p-2),.ref T3.length,.int s],T7,?_,Su.oU D o L (GY s l),_,_,_,_,_,rfl,d7,a7',λe he=>?_,?_,?_,λ_ z=>?_,b7,?_⟩
  ·unfold qY;dsimp[kD,bools,e2,e3,e4,g2];rw[show T3++[O.lst [A.tup [.int (p-2),.int (1+f)]]]=T4 from h4.symm];have x6':=x6;dsimp[kD,bools]at x6';rw[x6'];dsimp[kD];have x7':=x7;unfold N8 at x7';dsimp[kD,bools]at x7';exact x7'
  ·rcases Su.sQ he with z|z
   ·exact hP e z
   ·rw[z];refine⟨po,⟨PR s ok6,λw=>ne6 (List.map_eq_nil_iff.mp w),⟨λq hq=>?_,λq hq=>?_⟩,?_⟩,by show S.length<=L;lia⟩
    ·obtain⟨q',hq',rfl⟩:=bA.mp hq;exact pb6.c q' hq'
    ·obtain⟨q',hq',rfl⟩:=bA.mp hq;have:=pb6.p q' hq'
     skip
     lia
    ·skip
     unfold GY;rw[aH];exact ll6
  ·rw[Su.GW];exact hG.put (PR s ok6)
  ·have:=Su.DC (D:=D) (o:=o) (r:=L) (p:=GY s l);lia
  ·obtain⟨e,z1,_⟩:=Su.CI (D:=D) (o:=o) (r:=L) (p:=GY s l);rw[z]at z1
   cases z1
  ·exact(kT.trans kB).old k8 λq hq z w=>()
 ·rintro τ T ⟨D,a4,a5,a6,a7,a8,rfl,hd,hA,hP,hG,hl,hne,bT,kT⟩;have n0:=Su.GJ hd λe he z=>by have:=nX (hP e he).1;rw[z]at this;simp at this;lia
  obtain⟨n,S',x1,l1,a1,ln,k2⟩:=Su.E9 (cap:=[some 3]) (τ:=[.ref b,.int N,.int most,.ref S.length,a4,a5,a6,a7,a8]) (src:=m9 (ki (f1 yR) (jC (jF 3) (jI)))) (t:=qN) (e:=mE (jC (jF 0) (jC (jO xX (jF 1) (jF 0)) (jI)))) hd hA (mX (by dsimp[kD,bools,n0]) jT) (λ_=>true)
   (λo r q T hT hk hr=>⟨T,rfl,Kp.refl⟩)
   (λo r T hT hk=>by
    dsimp[kD,bools,Su.AD,Su.vH,hT,hk];exact qh (show 2<=16777216 by decide)) ()
  have tl:=kT.len;have eo:Su.qL D (λ_=>true)=Su.qL D λp=>!p.isEmpty:=by
   unfold Su.qL;congr 1;refine List.filter_congr λo ho=>?_;obtain⟨e,he⟩:=Su.FW ((ko _).mem_iff.mp ho);rw[Su.Mz,he];have:=(hP e (Su.rY he).1).2.1.ne;show true=!(e.2.2).isEmpty
   cases z:e.2.2 with
   | nil=>exact absurd z this
   | cons=>rfl
  have hm:∀e∈Su.qL D (λ_=>true),e∈D:=λe he=>(Su.vO he).1;refine⟨n,S',Su.qL D λ_=>true,by dsimp[kD,bools,x1],⟨l1,a1⟩,?_,λz=>?_,λe he=>(hP e (hm e he)).2.1,λe he=>(hP e (hm e he)).2.2,?_,(),bT.kp k2 λz=>z,kT.trans k2.of0⟩
  ·refine He.Sz.of ?_ (λx hx=>?_) λx hx=>?_
   ·rw[eo,Su.vC];exact He.Cn.toS hG
   ·obtain⟨e,he,rfl⟩:=bA.mp hx;exact(hP e (hm e he)).1
   ·obtain⟨e,he,rfl⟩:=bA.mp hx;exact(hP e (hm e he)).2.1.pb
  ·have z1:=hne ();have z2:=dB List.length z;unfold Su.qL at z2;rw[aH,gB.mpr (λ_ _=>rfl),(ko _).length_eq,aH]at z2;exact z1 (fQ.mp z2)
  ·unfold Su.qL;rw[aH,gB.mpr (λ_ _=>rfl),(ko _).length_eq,aH];lia
end K30
namespace K30
open PySem L2 Am
open Po (Pl Ok Bd)
def PN{L:Nat}{l:Pl}(hL:jG S L=some (Po.pl l))(ok:Ok l)(hl:l.length<=1000000):∃S',nN [.ref L] S=.ok (.bl true) S'/\lC S S':=by
 unfold nN rV rX;dsimp[kD,bools,mz,Nat.reduceAdd,Nat.reduceSub,hL,dw,show zC .lst "list" = some true from rfl,bX];refine qb (n:=L) (xs:=Po.pl l) (S1:=S) (show uc _ _=_ from mX (by dsimp[kD,bools]) hL)
  (λi τ T=>(∃a1 a2:A,τ=[.ref L,a1,a2])/\T=S) (λr=>∃S',RS.end (RS.seq r _)=.ok (.bl true) S'/\lC S S') ⟨⟨_,_,rfl⟩,rfl⟩ (λi τ T h=>by rw[h.2];exact hL) ?_ ?_
 ·rintro i z τ T hz ⟨⟨a1,a2,rfl⟩,rfl⟩;unfold Po.pl at hz;rw[aQ]at hz;obtain⟨p,hp,rfl⟩:=aX.mp hz;have nz:(p.2 == 0)=false:=by simpa using ok.nz p (aW hp)
  refine⟨[.ref L,.tup [.int p.1,.int p.2],a2],T,rfl,.inl ?_⟩;unfold t_;dsimp[kD,bools,show zC .tup "tuple" = some true from rfl,bX,bg,bQ,cB,Nat.reduceAdd,show(((2:Nat):Int) == 2)=true from rfl,J_,nz];refine Jy (xs:=[.int p.1,.int p.2]) (S1:=T) (show ue _ _=_ from Wo (by dsimp[kD,bools]))
   (λj τ T'=>(∃a2:A,τ=[.ref L,.tup [.int p.1,.int p.2],a2])/\T'=T) (λr=>∃τ' S',r=.nx τ' S'/\(∃a1 a2:A,τ'=[.ref L,a1,a2])/\S'=T) ⟨⟨_,rfl⟩,rfl⟩ ?_ ?_
  ·rintro j y τ T' hy ⟨⟨a2,rfl⟩,rfl⟩;obtain⟨q,rfl⟩:∃q:Int,y=.int q:=by
    have:=aW hy;simp at this
    rcases this with z|z
    ·exact⟨_,z⟩
    ·exact⟨_,z⟩
   refine⟨[.ref L,.tup [.int p.1,.int p.2],.int q],T',rfl,.inl ?_⟩;unfold t9;dsimp[kD,bools,show zC .int "int" = some true from rfl,show zC .int "bool" = some false from rfl,bX];exact⟨_,_,rfl,⟨_,rfl⟩,rfl⟩
  ·rintro τ T' ⟨⟨a2,rfl⟩,rfl⟩;exact⟨_,_,rfl,⟨_,_,rfl⟩,rfl⟩
 ·rintro τ T ⟨⟨a1,a2,rfl⟩,rfl⟩;have ix:∀j:Int,0<=j->j<(l.length:Int)->qI (Po.pl l) j=some (.tup [.int (l.getD j.toNat (0,0)).1,.int (l.getD j.toNat (0,0)).2]):=λj h0 h1=>Ax (k:=j.toNat) () (Rq ());have cc:=Av (lo:=0) (hi:=(l.length:Int)-1) (cap:=[some 0]) (src:=se (jO aSub (ki (f1 qH) (jC (jF 0) (jI))) (eC (.int 1)))) (t:=qN) (e:=jO Yo (jO oA (jO oA (jF 1) (jF 0)) (eC (.int 0))) (jO oA (jO oA (jF 1) (jO lK (jF 0) (eC (.int 1)))) (eC (.int 0)))) (τ:=[.ref L,a1,a2]) (S:=T) (S1:=T)
   (sC (by dsimp[kD,bools,hL,qD]) (ve () ())) (λ_=>true) (λ_=>.bl true) (λ_ _ _=>rfl) (λj h0 h1 _=>by
    have lt:(l.getD j.toNat (0,0)).1<(l.getD (j+1).toNat (0,0)).1:=by
     have e1:(j+1).toNat=j.toNat+1:=()
     rw[e1,aI,aI,aF (show j.toNat<l.length by lia),aF (show j.toNat+1<l.length by lia)];exact cF.mp ok.up _ _ _ _ ()
    dsimp[kD,bools,hL,ix j h0 (),ix (j+1) () (),Ae,bf lt]) ()
  have al:∀(xs:ag) (S:jK) (n:Nat),jG S n=some (xs.map λ_=>.bl true)->RA (.ref n) S=.ok (.bl true) S:=λxs S n h=>by
   show opt (jG S n) _=_;rw[h];show opt (A.RM _) _=_;have b1:∀xs:ag,A.RM (xs.map λ_=>A.bl true)=some (xs.map λ_=>true):=λxs=>by
    induction xs with
    | nil=>rfl
    | cons x xs ih=>rw[bD,vP,ih];rfl
   rw[b1];have b2:∀xs:ag,((xs.map λ_=>true).all λb=>b)=true:=λxs=>by
    induction xs with
    | nil=>rfl
    | cons x xs ih=>exact ih
   show Am.R.ok (A.bl _) S=_;rw[b2]
  dsimp[kD,bools,cc,al _ _ _ jT];exact⟨_,rfl,Kp.refl.lay⟩
open Po (Pl Ok Bd)
open Su (Es At Vl)
def Yk{a:Nat}{q:Pl}(h:jG S a=some (Po.pl q))(h':jG S b=some []):tK S 12 (.ref a) (.ref b)=some q.isEmpty:=by
 show(jG S a).bind (λxs=>(jG S b).bind λys=>rG (tK S 11) xs ys)=_;rw[h,h']
 cases q<;>rfl
def JJ{S:jK}{n:Nat}{es:Es}(h:Sm S n es)(hl:es.length<=16777216):∃(m:Nat) (S':jK) (fs:Es),oX [.ref n] S=.ok (.ref m) S'/\Sm S' m fs/\Su.sm fs=Su.sm es/\(∀e∈fs,S.length<=e.2.1/\e.2.1<m)/\S.length<=m/\lC S S':=by
 obtain⟨m,S',fs,e,h1,h2,h3,h4,h5,h6⟩:=Su.Qj (es:=es) (n:=n) (cap:=[]) (src:=m9 (jF 0)) (ex:=mE (jC (jF 0) (jC (ki (f1 sG) (jC (jF 1) (jI))) (jI)))) (τ:=[.ref n]) (mX (by dsimp[kD,bools]) h.l) h.l (λp=>p)
  (λe he T kT=>⟨T.length,T++[.lst (Po.pl e.2.2)],by
   dsimp[kD,bools,(h.a.wM kT) e he];exact qh (show 2<=16777216 by decide),jT,aO _,Kp.refl.lay⟩) hl
 refine⟨m,S',fs,?_,⟨h1,h2⟩,h3,h4,h5,h6⟩;unfold oX wY wR;dsimp[kD,bools,mz,Nat.reduceAdd,Nat.reduceSub];rw[show kZ [none,none] _ _ _ _ _ _=_ from e];rfl
def Qs{n:Nat}{es:Es}(h:Sm S n es)(hv:∀e∈es,Ok e.2.2/\e.2.2≠[]/\e.2.2.length<=1000000):∃S',oM [.ref n] S=.ok (.bl true) S'/\lC S S':=by
 unfold oM sZ sM;dsimp[kD,bools,mz,Nat.reduceAdd,Nat.reduceSub,h.l,dw,show zC .lst "list" = some true from rfl,bX];refine qb (n:=n) (xs:=es.map Su.ent) (S1:=S) (show uG _ _=_ from mX (by dsimp[kD,bools]) h.l)
  (λi τ T=>(∃a1:A,τ=[.ref n,a1])/\lC S T) (λr=>∃S',RS.end (RS.seq r _)=.ok (.bl true) S'/\lC S S') ⟨⟨_,rfl⟩,Kp.refl⟩ (λi τ T k=>k.2.lst _ _ (λz=>z) h.l) ?_ ?_
 ·rintro i z τ T hz ⟨⟨a1,rfl⟩,kT⟩;rw[aQ]at hz;obtain⟨e,he,rfl⟩:=aX.mp hz;have hm:=aW he;obtain⟨v1,v2,v3⟩:=hv e hm;have hr:=(h.a.wM kT) e hm;obtain⟨T1,e1,k1⟩:=PN hr v1 v3;have nl:newL [] T1=.ok (.ref T1.length) (T1++[.lst []]):=lg (show 0<=16777216 by decide);have q1:rB false (.ref e.2.1) (.ref T1.length) (T1++[.lst []])=.ok (.bl false) (T1++[.lst []]):=by
   rw[DB (Yk (kH (k1.lst _ _ (λz=>z) hr)) jT)]
   cases hq:e.2.2 with
   | nil=>exact absurd hq v2
   | cons=>rfl
  refine⟨[.ref n,Su.ent e],T,rfl,.inl ?_⟩;unfold uQ;dsimp[kD,bools,Su.ent,show zC .tup "tuple" = some true from rfl,bX,bg,bQ,cB,Nat.reduceAdd,show(((2:Nat):Int) == 2)=true from rfl,Ae,J_,e1,nl,q1];exact⟨_,_,rfl,⟨_,rfl⟩,(kT.trans k1).lay⟩
 ·rintro τ T ⟨⟨a1,rfl⟩,kT⟩;dsimp[kD,bools];exact⟨_,rfl,kT⟩
open Po (Pl Ok Bd)
open Su (Es At Vl AF)
def QC{es:Es}{m:Nat}(h:m<es.length):qI (es.map Su.ent) (m:Int)=some (.tup [.tup (es[m].1.map .int),.ref es[m].2.1]):=Ax rfl (by rw[aQ,aF h];rfl)
def Fx{x:A}:qI (xs++[x]) (-1)=some x:=by
 have e:zR (xs++[x]).length (-1)=some xs.length:=by
  unfold zR;rw[aR,bJ];rw[aK (),aM ()];congr 1;lia
 unfold qI;rw[e,dg,dJ (aO _),ig];rfl
def N7{n:Nat}{es:Es}(h:Sm S n es)(hb:∀e∈es,b<=e.2.1/\e.2.1<n/\e.2.2.length<=100000)(ap:Su.Ap es)(hl:es.length<=100000):∃S',pF [.ref n] S=.ok (.bl true) S'/\jG S' n=some (es.map Su.ent)/\Kp (λq=>b<=q/\q<n) S S':=by
 have g2:∀x y:A,gd (([x,y]:ae).length<=sizeLine)=λr:Am.R A=>r:=λx y=>by funext r;exact qh (show 2<=16777216 by decide)
 have a1:∀x y:A,qI ([x,y]:ae) 1=some y:=λ_ _=>rfl;have ne:∀i j (hi:i<es.length) (hj:j<es.length),i≠j->es[i].2.1≠es[j].2.1:=λi j hi hj z=>by
  have pw:=cF.mp ap
  rcases Nat.lt_or_gt_of_ne z with c|c
  ·exact(pw i j hi hj c).2
  ·exact λy=>(pw j i hj hi c).2 y.symm
 unfold pF uJ uY;dsimp[kD,bools,mz,Nat.reduceAdd,Nat.reduceSub];refine zZ (lo:=0) (hi:=(es.length:Int)) (S1:=S) (show wj _ _=_ from sC (by dsimp[kD,bools,h.l,aH]) (ve () ()))
  (λi τ T=>(∃a1:A,τ=[.ref n,a1])/\jG T n=some (es.map Su.ent)/\(∀m (hm:m<es.length),jG T es[m].2.1=some (if m<i then Po.pl es[m].2.2++[.tup [.int (100+(m:Int)),.int 1]]else Po.pl es[m].2.2))/\Kp (λq=>b<=q/\q<n) S T)
  (λr=>∃S',RS.end (RS.seq r _)=.ok (.bl true) S'/\jG S' n=some (es.map Su.ent)/\Kp (λq=>b<=q/\q<n) S S') ⟨⟨_,rfl⟩,h.l,λm hm=>by rw[aK ()];exact h.a _ (c9 hm),Kp.refl⟩ ?_ ?_
 ·rintro i τ T hi ⟨⟨x1,rfl⟩,hT,hx,kT⟩;left;have hi':i<es.length:=()
  have hr:=hx i hi';rw[aK ()]at hr;obtain⟨y1,y2,y3⟩:=hb _ (c9 hi');have ea:=QC hi';rw[show(i:Int)=0+(i:Int)by lia]at ea;unfold we;dsimp[kD,bools,hT,ea,a1,g2,hr,wu (show(Po.pl es[i].2.2).length<16777216 by rw[qD];lia)];refine⟨_,_,rfl,⟨_,rfl⟩,by rw[m_ ()];exact hT,λm hm=>?_,kT.set (.inl ⟨y1,y2⟩)⟩;by_cases c:m=i
  ·subst c;rw[oz (mL hr),aM (),show(100:Int)+(0+(m:Int))=100+(m:Int)by lia]
  ·rw[m_ (ne i m hi' hm (λz=>c z.symm)),hx m hm];by_cases c2:m<i
   ·rw[aM c2,aM ()]
   ·rw[aK c2,aK ()]
 ·rintro τ T ⟨⟨x1,rfl⟩,hT,hx,kT⟩;have cc:=Av (lo:=0) (hi:=(es.length:Int)) (cap:=[some 0]) (src:=se (ki (f1 qH) (jC (jF 0) (jI)))) (t:=qN) (e:=jO (rB false) (jO oA (jO oA (jO oA (jF 1) (jF 0)) (eC (.int 1))) (Ei tH (eC (.int 1)))) (mE (jC (jO lK (eC (.int 100)) (jF 0)) (jC (eC (.int 1)) (jI))))) (τ:=[.ref n,x1]) (S:=T) (S1:=T)
   (sC (by dsimp[kD,bools,hT,aH]) (ve () ())) (λ_=>true) (λ_=>.bl true) (λ_ _ _=>rfl) (λj h0 h1 _=>by
    obtain⟨m,rfl⟩:∃m:Nat,j=m:=⟨j.toNat,()⟩;have hm:m<es.length:=()
    have hr:=hx m hm;rw[aM ()]at hr;have q1:rB false (.tup [.int (100+(m:Int)),.int 1]) (.tup [.int (100+(m:Int)),.int 1]) T=.ok (.bl true) T:=DB (by
     show rG (tK T 11) (([100+(m:Int),1]:ag).map .int) (([100+(m:Int),1]:ag).map .int)=_;rw[vJ,bf rfl])
    dsimp[kD,bools,hT,QC hm,a1,hr,Fx,g2,q1]) ()
  have al:∀(xs:ag) (S:jK) (n:Nat),jG S n=some (xs.map λ_=>.bl true)->RA (.ref n) S=.ok (.bl true) S:=λxs S n h=>by
   show opt (jG S n) _=_;rw[h];show opt (A.RM _) _=_;have b1:∀xs:ag,A.RM (xs.map λ_=>A.bl true)=some (xs.map λ_=>true):=λxs=>by
    induction xs with
    | nil=>rfl
    | cons x xs ih=>rw[bD,vP,ih];rfl
   rw[b1];have b2:∀xs:ag,((xs.map λ_=>true).all λb=>b)=true:=λxs=>by
    induction xs with
    | nil=>rfl
    | cons x xs ih=>exact ih
   show Am.R.ok (A.bl _) S=_;rw[b2]
  dsimp[kD,bools,cc,al _ _ _ jT];exact⟨_,rfl,kH hT,kT.lay⟩
def abx(xs:ae)(j:Nat)(h:j<=xs.length):zA xs none (some (j:Int))=xs.take j:=by
 unfold zA;rw[HT.KQ,HT.E8,List.drop_zero,iQ (),Nat.sub_zero]
def YH{xs:ag}{k:Nat}(h0:1<=k)(h:k<xs.length):xs.take (k-1)++[xs.getD k 0,xs.getD (k-1) 0]++xs.drop (k+1)=Wd.ex xs k:=by
 apply cT;intro p;rw[Wd.oH h0 h,cu];have e1:xs[k]?=some (xs.getD k 0):=by rw[aI,aF h];rfl
 have e2:xs[k-1]?=some (xs.getD (k-1) 0):=by rw[aI,aF ()];rfl
 by_cases c1:p<k-1
 ·rw[bG (by rw[bK];lia),fF c1,aK (),aK ()]
 ·rw[dJ (by rw[bK];lia),bK,iQ ()];by_cases c2:p=k-1
  ·rw[aK (),aM c2,e1,show p-(k-1)=0 by lia];rfl
  ·by_cases c3:p=k
   ·rw[aM c3,e2,show p-(k-1)=1 by lia];rfl
   ·rw[aK c3,aK c2,show p-(k-1)=(p-(k+1))+2 by lia];show(xs.drop (k+1))[p-(k+1)]?=_;rw[gM,show k+1+(p-(k+1))=p by lia]
open Po (Pl Ok Bd)
open Su (Es At Vl)
open He (Sz PB)
open Fw (rg)
def abY{N:Nat}(hN:N<=1000)(T:jK):sG (.rng 1 ((N:Int)+1)) T=.ok (.ref T.length) (T++[.lst ((rg N).map .int)]):=CM (FL (show(-1000000:Int)<=1 by decide) ⋯ (show -1000000<=(N:Int)+1 by lia) () ())
def cutD(xs:ae)(j:Nat)(h:j<=xs.length):zA xs (some (j:Int)) none=xs.drop j:=by
 unfold zA;rw[HT.KQ,HT.E8,iQ (),List.take_of_length_le (by simp)]
def MQ{S:jK}{n k:Nat}{xs:ag}(h0:1<=k)(h1:k<xs.length)(hl:xs.length<=1000)(h:jG S n=some (xs.map .int)) :
  ∃(L:Nat) (S':jK),(jO lK (jO lK (YZ (jF 3) Cv (CU (jO aSub (jF 5) (eC (.int 1))))) (nJ (jC (jO oA (jF 3) (jF 5)) (jC (jO oA (jF 3) (jO aSub (jF 5) (eC (.int 1)))) (jI))))) (YZ (jF 3) (CU (jO lK (jF 5) (eC (.int 1)))) Cv)) [x0,x1,x2,.ref n,x3,.int k] S=.ok (.ref L) S'/\jG S' L=some ((Wd.ex xs k).map .int)/\lC S S'/\S.length<=L:=by
 have a1:qI (xs.map A.int) (k:Int)=some (.int (xs.getD k 0)):=ixD rfl ();have a2:qI (xs.map A.int) ((k:Int)-1)=some (.int (xs.getD (k-1) 0)):=ixD (k:=k-1) () ();have c1:zA (xs.map A.int) none (some ((k:Int)-1))=(xs.take (k-1)).map .int:=by
  have:=abx (xs.map A.int) (k-1) (by rw[aH];lia);rw[show((k-1:Nat):Int)=(k:Int)-1 by lia]at this;rw[this,map_take]
 have c2:zA (xs.map A.int) (some ((k:Int)+1)) none=(xs.drop (k+1)).map .int:=by
  have:=cutD (xs.map A.int) (k+1) (by rw[aH];lia);rw[show((k+1:Nat):Int)=(k:Int)+1 by lia]at this;rw[this,map_drop]
 obtain⟨S1,h1'⟩:∃S1,S1=S++[O.lst ((xs.take (k-1)).map .int)]:=⟨_,rfl⟩;obtain⟨S2,h2⟩:∃S2,S2=S1++[O.lst (([xs.getD k 0,xs.getD (k-1) 0]:ag).map .int)]:=⟨_,rfl⟩;have k1:lC S S1:=by rw[h1'];exact Kp.refl.lay
 have k2:lC S1 S2:=by rw[h2];exact Kp.refl.lay
 have l1:jG S2 S.length=some ((xs.take (k-1)).map .int):=k2.lst _ _ (λz=>z) (by rw[h1'];exact jT);have l2:jG S2 S1.length=some (([xs.getD k 0,xs.getD (k-1) 0]:ag).map .int):=by rw[h2];exact jT
 have ca:=M4 l1 l2 (by rw[aH,aH,bK];show _+2<=_;lia);rw[<- bO]at ca;obtain⟨S3,h3⟩:∃S3,S3=S2++[O.lst ((xs.take (k-1)++[xs.getD k 0,xs.getD (k-1) 0]).map .int)]:=⟨_,rfl⟩;rw[<- h3]at ca;have k3:lC S2 S3:=by rw[h3];exact Kp.refl.lay
 have hS1:jG S1 n=some (xs.map .int):=k1.lst _ _ (λz=>z) h;have hS3:jG S3 n=some (xs.map .int):=k3.lst _ _ (λz=>z) (k2.lst _ _ (λz=>z) hS1);obtain⟨S4,h4⟩:∃S4,S4=S3++[O.lst ((xs.drop (k+1)).map .int)]:=⟨_,rfl⟩;have k4:lC S3 S4:=by rw[h4];exact Kp.refl.lay
 have l3:jG S4 S2.length=some ((xs.take (k-1)++[xs.getD k 0,xs.getD (k-1) 0]).map .int):=k4.lst _ _ (λz=>z) (by rw[h3];exact jT);have l4:jG S4 S3.length=some ((xs.drop (k+1)).map .int):=by rw[h4];exact jT
 have cb:=M4 l3 l4 (by rw[aH,aH,aR,bK,dD];show _+2+_<=_;lia);rw[<- bO,YH h0 h1]at cb;have kk:=((k1.trans k2).trans k3).trans k4;refine⟨S4.length,_,?_,jT,kk.lay,kk.len⟩;have n2:newL [.int (xs.getD k 0),.int (xs.getD (k-1) 0)] S1=.ok (.ref S1.length) S2:=by rw[h2];exact lg (show 2<=16777216 by decide)
 dsimp[kD,bools,h,c1,<- h1',hS1,a1,a2];rw[show S1++[O.lst [A.int (xs.getD k 0),A.int (xs.getD (k-1) 0)]]=S2 from h2.symm];dsimp[kD,bools,ca,hS3,c2,<- h4,cb]
open Po (Pl Ok Bd)
open Su (Es At Vl)
open He (Sz PB)
open Fw (rg)
noncomputable def Dw (N n b0:Nat)(S:jK)(l:Su.Ps):Prop:=Sz N 60 (10 ^ 20) l/\b0<=n/\∃es,Sm S n es/\Su.sm es=l/\∀e∈es,b0<=e.2.1
def Dw.kp{N n:Nat}{l:Su.Ps}(h:Dw N n b0 S l)(k:Kp (·=b) S S')(hb:b<b0):Dw N n b0 S' l:=by
 obtain⟨h2,h3,es,h4,h5,h6⟩:=h;exact⟨h2,h3,es,⟨k.lst _ _ () h4.l,h4.a.kp k λe he z=>by have:=h6 e he;lia⟩,h5,h6⟩
def Dw.sn{N n:Nat}{l:Su.Ps}(h:Dw N n b0 S l):Sn N 60 (10 ^ 20) S n l:=by
 obtain⟨h2,h3,es,h4,h5,h6⟩:=h;exact⟨h2,es,h4,h5⟩
def draw{S:jK}{N:Nat}{most:Int}(h:ym S b)(hN:1<=N)(hN':N<=20)(h0:1<=most)(h1:most<=100)(hb:b0<=S.length):∃(n:Nat) (S':jK) (l:Su.Ps),ly [.ref b,.int N,.int most] S=.ok (.ref n) S'/\Dw N n b0 S' l/\S.length<=n/\ym S' b/\Kp (·=b) S S':=by
 obtain⟨n,S',es,e1,s1,z1,ne,_,r1,_,ln,b1,k1⟩:=LA h hN hN' h0 h1;exact⟨n,S',Su.sm es,e1,⟨z1,(),es,s1,rfl,λe he=>by have:=r1 e he;lia⟩,ln,b1,k1⟩
def sU(h:C<2 ^ 4096):C<big:=by rw[vE];exact h
def at8{d:Int}{xs:ag}(h0:0<=d)(h1:d<8)(hx:xs.length=8)(hm:∀x∈xs,2<=x/\x<=5):∃v:Int,qI (xs.map A.int) d=some (.int v)/\2<=v/\v<=5:=by
 have hd:d.toNat<xs.length:=()
 exact⟨xs[d.toNat],Dv (k:=d.toNat) () (aF hd),hm _ (c9 hd)⟩
def Q2{N:Nat}{S:jK}{o:ag}{p:Pl}(po:o.Perm (rg N))(hp:Ok p)(h0:p≠[])(pb:PB 60 (10 ^ 20) p)(hb:b0<=S.length):Dw N (S.length+1) b0 (S++[O.lst (Po.pl p)]++[O.lst [.tup [.tup (o.map .int),.ref S.length]]]) [(o,p)]:=by
 have:=jT (S:=S++[O.lst (Po.pl p)]) (xs:=[.tup [.tup (o.map .int),.ref S.length]]);rw[aR,bJ]at this;exact⟨He.Sz.of (He.OH o hp h0) (λx hx=>by rw[aP.mp hx];exact po) (λx hx=>by rw[aP.mp hx];exact pb),(),[(o,S.length,p)],⟨this,λe he=>by rw[aP.mp he];exact kH jT⟩,rfl,λe he=>by rw[aP.mp he];exact hb⟩
def Kz{N:Nat}{most:Int}(h:ym S b)(hN:2<=N)(hN':N<=20)(m0:0<=most)(m1:most<=100):∃(xs:ag) (S':jK),oV [.ref b,.int N,.int most] S=.ok (.tup (xs.map .int)) S'/\xs.Perm (rg N)/\ym S' b/\Kp (·=b) S S':=by
 have hbS:=h.lt;have k0:lC S (S++[O.lst ((rg N).map .int)]):=Kp.refl.lay;obtain⟨c,S1,e1,c0,c1,b1,k1⟩:=digit (S:=S++[O.lst ((rg N).map .int)]) (m:=most+1) (h.kp k0 λz=>z) () ();unfold oV wI wD;dsimp[kD,bools,mz,Nat.reduceAdd,Nat.reduceSub,abY (show N<=1000 by lia)];refine zZ (lo:=0) (hi:=c) (S1:=S1) (show xH _ _=_ from sC (by dsimp[kD,bools,e1]) (ve () ()))
  (λi τ T=>∃(n:Nat) (xs:ag) (a4 a5:A),τ=[.ref b,.int N,.int most,.ref n,a4,a5]/\jG T n=some (xs.map .int)/\S.length<=n/\xs.Perm (rg N)/\ym T b/\Kp (·=b) S T)
  (λr=>∃(xs:ag) (S':jK),RS.end (RS.seq r _)=.ok (.tup (xs.map .int)) S'/\xs.Perm (rg N)/\ym S' b/\Kp (·=b) S S')
  ⟨S.length,rg N,_,_,rfl,k1.lst _ _ () jT,aO _,.refl _,b1,k0.of0.trans k1⟩ ?_ ?_
 ·rintro i τ T hi ⟨n,xs,a4,a5,rfl,hn,ln,px,bT,kT⟩;left;obtain⟨d,T1,e2,d0,d1,b2,k2⟩:=digit (S:=T) (m:=(N:Int)-1) bT () ();obtain⟨k,hk⟩:∃k:Nat,(k:Int)=1+d:=⟨(1+d).toNat,()⟩;have lx:=nX px;obtain⟨L,T2,e3,l3,k3,lL⟩:=MQ (x0:=.ref b) (x1:=.int N) (x2:=.int most) (x3:=.int (0+(i:Int))) (k:=k) () () () (k2.lst _ _ () hn);have tl:=kT.len;have tl2:=k2.len;unfold xQ;dsimp[kD,bools,e2,<- hk];dsimp[kD,bools]at e3;rw[e3];dsimp[kD];exact⟨_,_,rfl,L,Wd.ex xs k,_,_,rfl,l3,(),He.nM px () (),b2.kp k3 λz=>z,(kT.trans k2).trans k3.of0⟩
 ·rintro τ T ⟨n,xs,a4,a5,rfl,hn,ln,px,bT,kT⟩;exact⟨xs,T,by dsimp[kD,bools,hn],px,bT,kT⟩
def JH{N c n:Nat}{l:Su.Ps}(hN:N<6)(h0:1<=N)(h:Sn N Q c S n l)(hP:Q<=400)(hc:c<big)(hc2:120 * ((2 * Q+1) * (c * 5 ^ 25))<big):∃S',m8 [.ref n] S=.ok (.bl true) S'/\lC S S':=by
 obtain⟨hz,es,hs,rfl⟩:=h;have m1:=hz.many hN;rw[Su.nc]at m1;obtain⟨c1,S1,cs,e1,s1,q1,_,g1,k1⟩:=JJ hs ();obtain⟨L,S2,rs,e2,s2,q2,w2,g2',k2⟩:=tF hN h0 s1 (by rw[q1];exact hz) () hc;have z2:Sz N (25+Q) (120 * ((2 * Q+1) * (c * 5 ^ 25))) (Su.sm rs):=by rw[q2,q1];exact hz.tu hN
 have m2:=z2.many hN;rw[Su.nc]at m2;have v2:∀e∈rs,Ok e.2.2/\e.2.2≠[]/\e.2.2.length<=2 * (25+Q)+1:=λe he=>⟨z2.cn.gd.ok _ (kY rfl he),z2.cn.ne (kY rfl he),(z2.pb (kY rfl he)).2⟩;obtain⟨c3,S3,ks,e3,s3,q3,r3,g3,k3⟩:=JJ s2 ();have s2':=s2.kp k3;obtain⟨S4,e4,k4⟩:=Qs s2' λe he=>⟨(v2 e he).1,(v2 e he).2.1,by have:=(v2 e he).2.2;lia⟩;have k14:=(k2.trans k3).trans k4;have w1:rB true (.ref c1) (.ref n) S4=.ok (.bl false) S4:=yC (Bs (s1.kp k14) (hs.kp (k1.trans k14)) q1);obtain⟨L5,S5,ts,e5,s5,q5,_,_,k5⟩:=tF hN h0 (s2'.kp k4) z2 () hc2;have j5:=(k1.trans k14).trans k5;have w3:rB true (.ref L5) (.ref n) S5=.ok (.bl false) S5:=yC (Bs s5 (hs.kp j5) (by rw[q5,q2,q1];exact He.Y8 (He.xh N) hz.cn hz.pm));have w4:rB true (.ref L) (.ref c3) S5=.ok (.bl false) S5:=yC (Bs (s2'.kp (k4.trans k5)) (s3.kp (k4.trans k5)) q3.symm);have kl2:=k2.len;have lL:=mL s2.l;obtain⟨S6,e6,l6,k6⟩:=N7 (b:=S1.length) (s2'.kp (k4.trans k5)) (λe he=>⟨(w2.nw e he).1,(w2.nw e he).2,by have:=(v2 e he).2.2;lia⟩) w2.ap ();have n1:newL [.tup [.int 0,.int 1]] S6=.ok (.ref S6.length) (S6++[.lst [.tup [.int 0,.int 1]]]):=lg (show 1<=16777216 by decide);have g1':∀x:A,gd (([x]:ae).length<=sizeLine)=λr:Am.R A=>r:=λx=>by funext r;exact qh (show 1<=16777216 by decide)
 have g2:∀x y:A,gd (([x,y]:ae).length<=sizeLine)=λr:Am.R A=>r:=λx y=>by funext r;exact qh (show 2<=16777216 by decide)
 obtain⟨S7,h7⟩:∃S7,S7=(S6++[O.lst [.tup [.int 0,.int 1]]]).set L (.lst (rs.map Su.ent++[.tup [.tup [.int 1],.ref S6.length]])):=⟨_,rfl⟩;have k67:Kp (λq=>S1.length<=q/\q<L+1) S5 S7:=by
  rw[h7];exact((k6.mono λq _ z=>(show S1.length<=q/\q<L+1 by lia)).lay).set (.inl ⟨g2',()⟩)
 have c1l:=mL s1.l;have s1':Sm S7 c1 cs:=⟨k67.lst _ _ () (s1.kp (k14.trans k5)).l,(s1.kp (k14.trans k5)).a.kp k67 λe he z=>by have:=mL (s1.a e he);lia⟩;have s3':Sm S7 c3 ks:=⟨k67.lst _ _ () (s3.kp (k4.trans k5)).l,(s3.kp (k4.trans k5)).a.kp k67 λe he z=>by have:=(r3 e he).1;lia⟩;obtain⟨L8,S8,us,e8,s8,q8,_,_,k8⟩:=tF hN h0 s1' (by rw[q1];exact hz) () hc;have w8:rB false (.ref L8) (.ref c3) S8=.ok (.bl true) S8:=DB (Bs s8 (s3'.kp k8) (by rw[q8,q3,q2]));refine⟨S8,?_,(j5.old k67 λq hq _ z=>by have:=k1.len;lia).trans k8⟩;unfold m8 w9 w6;dsimp[kD,sI,bools,mz,Nat.reduceAdd,Nat.reduceSub,e1,e2,e3,e4,bX,w1,e5,w3,w4,e6,l6,mP (show 1<=sizeLine by decide),mP (show 2<=sizeLine by decide),n1,kH (o:=.lst [.tup [.int 0,.int 1]]) l6,aH,wu (show rs.length<16777216 by lia)];rw[<- h7];dsimp[kD,sI,bools,e8,w8]
end K30
namespace K30
open PySem L2 Am
open Po (Pl Ok Bd)
open Su (Es At Vl AF)
open He (Sz PB)
open Fw (rg)
def I0{N n:Nat}{l k:Su.Ps}(bS:ym S b)(h1:1<=N)(h5:N<6)(d0:Dw N n b0 S l)(d1:Dw N m b0 S k)(hb:b<b0) :
  ∃y6 S',(kc (u_ (Mc (vZ (p9 (eFn m8 (jC (jF 4) jI)))) (vZ (p9 (eFn m8 (jC (jF 5) jI)))))
 (kQ (eC (.bl false)))
 nF)
 (kc (u_ (v_ (jO (rB true) (eFn kg (jC (eFn nR (jC (jF 4) (jC (jF 5) jI))) jI)) (eFn nR (jC (eFn kg (jC (jF 4) jI)) (jC (eFn kg (jC (jF 5) jI)) jI)))))
 (kQ (eC (.bl false)))
 nF)
 (kc (u_ (v_ (jO (rB true) (eFn kg (jC (eFn mU (jC (jF 4) (jC (jF 5) jI))) jI)) (eFn mU (jC (eFn kg (jC (jF 4) jI)) (jC (eFn kg (jC (jF 5) jI)) jI)))))
 (kQ (eC (.bl false)))
 nF)
 (kc (kI (nJ (jC (mE (jC (jO aSub (eFn jR (jC (jF 2) (jC (eC (.int 5)) jI))) (eC (.int 2))) (jC (jO lK (eC (.int 1)) (eFn jR (jC (jF 2) (jC (eC (.int 9)) jI)))) jI))) (jC (mE (jC (jO lK (eC (.int 3)) (eFn jR (jC (jF 2) (jC (eC (.int 5)) jI)))) (jC (jO aSub (Ei tH (eC (.int 1))) (eFn jR (jC (jF 2) (jC (eC (.int 9)) jI)))) jI))) jI))) (kL 6))
 (u_ (v_ (jO (rB true) (eFn kg (jC (eFn mS (jC (jF 6) (jC (jF 4) jI))) jI)) (eFn mS (jC (eFn pD (jC (jF 6) jI)) (jC (eFn kg (jC (jF 4) jI)) jI)))))
 (kQ (eC (.bl false)))
 nF))))) [x0,x1,.ref b,.int N,.ref n,.ref m,x6] S=.nx [x0,x1,.ref b,.int N,.ref n,.ref m,y6] S':=by
 have C0:10 ^ 20<big:=sU ∅;have C1:120 * ((2 * 60+1) * (10 ^ 20 * 5 ^ 25))<big:=sU ∅;have C2:10 ^ 20+10 ^ 20<big:=sU ∅;have C3:120 * ((2 * 60+1) * (10 ^ 20 * (3 ^ 25 * 10 ^ 20)))<big:=sU ∅;have B0:3 ^ 25 * 10 ^ 20<big:=sU ∅;have B1:3 ^ 25 * (120 * ((2 * 60+1) * (10 ^ 20 * 5 ^ 25)))<big:=sU ∅;have C4:2 * (10 * 10 ^ 20)<big:=sU ∅;have hW:=He.xh N;have a:=d0.sn;have c:=d1.sn;obtain⟨S1,e1,k1⟩:=JH h5 h1 a ⋯ C0 C1;obtain⟨S2,e2,k2⟩:=JH h5 h1 (c.kp k1) ⋯ C0 C1;have j2:=k1.trans k2;obtain⟨L3,S3,e3,s3,k3⟩:=(a.kp j2).add (c.kp j2) h5 h1 ⋯;obtain⟨L4,S4,e4,s4,k4⟩:=s3.tu h5 h1 ⋯ C2;have j4:=j2.trans (k3.trans k4);obtain⟨L5,S5,e5,s5,k5⟩:=(a.kp j4).tu h5 h1 ⋯ C0;have j5:=j4.trans k5;obtain⟨L6,S6,e6,s6,k6⟩:=(c.kp j5).tu h5 h1 ⋯ C0;have j6:=j5.trans k6;obtain⟨L7,S7,e7,s7,k7⟩:=(s5.kp k6).add s6 h5 h1 ⋯;have j7:=j6.trans k7;have q1:rB true (.ref L4) (.ref L7) S7=.ok (.bl false) S7:=yC ((s4.kp ((k5.trans k6).trans k7)).eq s7 (He.YR hW a.1.pm c.1.pm));obtain⟨L8,S8,e8,s8,k8⟩:=(a.kp j7).prod (c.kp j7) h5 h1 ⋯ B0 B0;obtain⟨L9,S9,e9,s9,k9⟩:=s8.tu h5 h1 ⋯ C3;have j9:=j7.trans (k8.trans k9);obtain⟨L10,S10,e10,s10,k10⟩:=(a.kp j9).tu h5 h1 ⋯ C0;have j10:=j9.trans k10;obtain⟨L11,S11,e11,s11,k11⟩:=(c.kp j10).tu h5 h1 ⋯ C0;have j11:=j10.trans k11;obtain⟨L12,S12,e12,s12,k12⟩:=(s10.kp k11).prod s11 h5 h1 ⋯ B1 B1;have j12:=j11.trans k12;have q2:rB true (.ref L9) (.ref L12) S12=.ok (.bl false) S12:=yC ((s9.kp ((k10.trans k11).trans k12)).eq s12 (He.S0 hW a.1.cn c.1.cn a.1.pm c.1.pm));obtain⟨p,S13,e13,p0,p1,b13,k13⟩:=digit (S:=S12) (m:=5) (bS.kp j12 λz=>z) ⋯ ⋯;obtain⟨f,S14,e14,f0,f1,b14,k14⟩:=digit (S:=S13) (m:=9) b13 ⋯ ⋯;obtain⟨g,S15,e15,g0,g1,b15,k15⟩:=digit (S:=S14) (m:=5) b14 ⋯ ⋯;obtain⟨u,S16,e16,u0,u1,b16,k16⟩:=digit (S:=S15) (m:=9) b15 ⋯ ⋯;obtain⟨q,hq⟩:∃q:Pl,q=[(p-2,1+f),(3+g,-1-u)]:=⟨_,rfl⟩;obtain⟨S17,h17⟩:∃S17,S17=S16++[O.lst (Po.pl q)]:=⟨_,rfl⟩;have k17:lC S16 S17:=by rw[h17];exact Kp.refl.lay
 have l17:jG S17 S16.length=some (Po.pl q):=by rw[h17];exact jT
 have j17:Kp (·=b) S S17:=(j12.of0.trans (((k13.trans k14).trans k15).trans k16)).trans k17.of0;have a17:=(d0.kp j17 hb).sn;have pq:PB 7 10 q:=by
  rw[hq];refine⟨λz hz=>?_,λz hz=>?_⟩
  ·rcases bw.mp hz with w|w
   ·rw[w];show(1+f).natAbs<=10;lia
   ·rw[aP.mp w];show(-1-u).natAbs<=10;lia
  ·rcases bw.mp hz with w|w
   ·rw[w];show(p-2).natAbs<=7;lia
   ·rw[aP.mp w];show(3+g).natAbs<=7;lia
 have lq:q.length<=2:=by rw[hq];exact aO 2
 have D0:10<big:=sU ∅;obtain⟨L18,S18,e18,s18,k18⟩:=a17.XQ Po.pA (λ_ _ _=>rfl) h5 h1 l17 pq lq ⋯ C0 D0;obtain⟨L19,S19,e19,s19,k19⟩:=(s18.mono (P':=67) (C':=2 * (10 * 10 ^ 20)) ⋯ (bN _ lq)).tu h5 h1 ⋯ C4;have t17:=CL (S:=S19) (n:=S16.length) (a:=q) ((k18.trans k19).lst _ _ (λz=>z) l17) ();have k20:lC S19 (S19++[O.lst (Po.pl (Po.turn q))]):=Kp.refl.lay;obtain⟨L21,S21,e21,s21,k21⟩:=(a17.kp ((k18.trans k19).trans k20)).tu h5 h1 ⋯ C0;obtain⟨L22,S22,e22,s22,k22⟩:=s21.XQ Po.pA (λ_ _ _=>rfl) h5 h1 (m:=S19.length) (k21.lst _ _ (λz=>z) jT) pq.turn (by rw[He.BR];exact lq) ⋯ C1 D0;have q3:rB true (.ref L19) (.ref L22) S22=.ok (.bl false) S22:=yC ((s19.kp ((k20.trans k21).trans k22)).eq s22 (He.Ym hW q a.1.pm));refine⟨.ref S16.length,S22,?_⟩;dsimp[kD,sI,bools,e1,e2,bX,e3,e4,e5,e6,e7,q1,e8,e9,e10,e11,e12,q2,e13,e14,e15,e16,mP (show 2<=sizeLine by decide),bg,bQ,Nat.reduceAdd];rw[show S16++[O.lst [A.tup [.int (p-2),.int (1+f)],.tup [.int (3+g),.int (-1-u)]]]=S17 by rw[h17,hq];rfl];dsimp[kD,sI,bools,e18,e19,t17,e21,e22,q3]
def XF(ns:ag)(hl:ns.length<=63):∃S',CW [.frz (ns.map .int)] []=.ok (.bl true) S':=by
 unfold CW Q3 Rk;dsimp[kD,bools,mz,Nat.reduceAdd,Nat.reduceSub];refine zZ (lo:=0) (hi:=if (if 2<(ns.length:Int)then 2 else(ns.length:Int))>1 then(if 2<(ns.length:Int)then 2 else(ns.length:Int))else 1) (S1:=[]) (show J2 _ _=_ from sC (by dsimp[kD,bools,aH]) (ve (by split<;>split<;>lia) (by split<;>split<;>lia)))
  (λ_ τ _=>∃a1 a2 a3 a4 a5 a6:A,τ=[.frz (ns.map .int),a1,a2,a3,a4,a5,a6]) (λr=>∃S',RS.end (RS.seq r _)=.ok (.bl true) S') ⟨_,_,_,_,_,_,rfl⟩ ?_ ?_
 ·rintro i τ S hi ⟨a1,a2,a3,a4,a5,a6,rfl⟩;left;have hi2:(i:Int)<2:=by split at hi<;>split at hi<;>lia
  obtain⟨S1,e1,b1,kp1⟩:=UA (S:=S) (ns:=ns) (k:=0+(i:Int)) () ();obtain⟨S2,hS2⟩:∃S2,S2=S1++[O.lst (([2,3,3,4,4,4,4,5]:ag).map .int)]++[O.lst (([2,3,3,4,4,3,4,4]:ag).map .int)]++[O.lst [.ref S1.length,.ref (S1.length+1)]]:=⟨_,rfl⟩;have k2:lC S1 S2:=by rw[hS2];exact Kp.refl.lay.lay.lay
  have la:jG S2 S1.length=some (([2,3,3,4,4,4,4,5]:ag).map .int):=by rw[hS2];exact kH (kH jT)
  have lb:jG S2 (S1.length+1)=some (([2,3,3,4,4,3,4,4]:ag).map .int):=by
   have:=jT (S:=S1++[O.lst (([2,3,3,4,4,4,4,5]:ag).map .int)]) (xs:=([2,3,3,4,4,3,4,4]:ag).map .int);rw[aR,bJ]at this;rw[hS2];exact kH this
  have lc:jG S2 (S1.length+2)=some [.ref S1.length,.ref (S1.length+1)]:=by
   have:=jT (S:=S1++[O.lst (([2,3,3,4,4,4,4,5]:ag).map .int)]++[O.lst (([2,3,3,4,4,3,4,4]:ag).map .int)]) (xs:=[.ref S1.length,.ref (S1.length+1)]);rw[aR,aR,bJ,bJ]at this;rw[hS2];exact this
  obtain⟨r,xs,hr1,hr2,hr3,hr4,hr5⟩:∃(r:Nat) (xs:ag),qI ([.ref S1.length,.ref (S1.length+1)]:ae) (if decide ((0:Int)<0+(i:Int))=true then 1 else 0)=some (.ref r)/\jG S2 r=some (xs.map .int)/\xs.length=8/\(∀x∈xs,2<=x/\x<=5)/\S1.length<=r:=by
   by_cases c:(0:Int)<0+(i:Int)
   ·rw[bf c];exact⟨S1.length+1,_,rfl,lb,rfl,by decide,()⟩
   ·rw[bu c];exact⟨S1.length,_,rfl,la,rfl,by decide,()⟩
  have bl:=b1.lt;obtain⟨d,S3,e3,d0,d1,b3,k3⟩:=digit (S:=S2) (m:=8) (b1.kp k2 λz=>z) ⋯ ⋯;have lr:jG S3 r=some (xs.map .int):=k3.lst _ _ () hr2;obtain⟨v,hv,v2,v5⟩:=at8 d0 d1 hr3 hr4;obtain⟨N,hN⟩:∃N:Nat,(N:Int)=v:=⟨v.toNat,()⟩;have sl3:=(k2.of0.trans k3).len;obtain⟨mo,hmo,hmo'⟩:=at4 (x0:=6) (x1:=6) (x2:=3) (x3:=1) (d:=(N:Int)-2) () ();obtain⟨mp,hmp,hmp'⟩:=at4 (x0:=6) (x1:=6) (x2:=2) (x3:=1) (d:=(N:Int)-2) () ();have k4:lC S3 (S3++[O.lst [.int 6,.int 6,.int 3,.int 1]]):=Kp.refl.lay;obtain⟨n,S4,l,e4,D4,q4,b4,p4⟩:=draw (S:=S3++[O.lst [.int 6,.int 6,.int 3,.int 1]]) (b:=S.length) (N:=N) (b0:=S1.length) (most:=mo) (b3.kp k4 λz=>z) () () () () (by rw[aR];lia);have l4:=p4.len;rw[aR]at l4;have k5:lC S4 (S4++[O.lst [.int 6,.int 6,.int 2,.int 1]]):=Kp.refl.lay;obtain⟨m,S5,k,e5,D5,q5,b5,p5⟩:=draw (S:=S4++[O.lst [.int 6,.int 6,.int 2,.int 1]]) (b:=S.length) (N:=N) (b0:=S1.length) (most:=mp) (b4.kp k5 λz=>z) () () () () (by rw[aR];lia);have l5:=p5.len;rw[aR]at l5;unfold IZ;dsimp[kD,bools,e1,aR,bJ,Nat.reduceAdd];rw[show S1++[O.lst [A.int 2,.int 3,.int 3,.int 4,.int 4,.int 4,.int 4,.int 5]]++[O.lst [A.int 2,.int 3,.int 3,.int 4,.int 4,.int 3,.int 4,.int 4]]++[O.lst [A.ref S1.length,.ref (S1.length+1)]]=S2 from hS2.symm];dsimp[kD,bools,lc,hr1,e3,lr,hv,<- hN,hmo,e4,hmp,e5];by_cases c:N=5
  ·have hc:((N:Int) == 5)=true:=by rw[beq_iff_eq];lia
   obtain⟨o,S6,e6,po,b6,p6⟩:=Kz (N:=N) (most:=5) b5 () () ⋯ ⋯;obtain⟨P1,hP1⟩:∃P1:Pl,P1=[(0,1),(2,-3)]:=⟨_,rfl⟩;obtain⟨P2,hP2⟩:∃P2:Pl,P2=[(-1,2)]:=⟨_,rfl⟩;have o1:Ok P1:=by
    rw[hP1];exact⟨bM.mpr ⟨λz hz=>by rw[aP.mp hz];decide,bW _ _⟩,λz hz=>by
     rcases bw.mp hz with w|w
     ·rw[w];decide
     ·rw[aP.mp w];decide⟩
   have o2:Ok P2:=by rw[hP2];exact⟨bW _ _,λz hz=>by rw[aP.mp hz];decide⟩
   have w1:PB 60 (10 ^ 20) P1:=by
    rw[hP1];refine⟨λz hz=>?_,λz hz=>?_⟩ <;>
    ·rcases bw.mp hz with w|w
     ·rw[w];decide
     ·rw[aP.mp w];decide
   have w2:PB 60 (10 ^ 20) P2:=by rw[hP2];exact⟨λz hz=>by rw[aP.mp hz];decide,λz hz=>by rw[aP.mp hz];decide⟩
   have l6:=p6.len;have A6:=Q2 (N:=N) (b0:=S1.length) (S:=S6) po o1 (by rw[hP1];simp) w1 ();obtain⟨S7,h7⟩:∃S7,S7=S6++[O.lst (Po.pl P1)]++[O.lst [.tup [.tup (o.map .int),.ref S6.length]]]:=⟨_,rfl⟩;rw[<- h7]at A6;have k7:lC S6 S7:=by rw[h7];exact Kp.refl.lay.lay
   obtain⟨o',S8,e8,po',b8,p8⟩:=Kz (N:=N) (most:=2) (b6.kp k7 λz=>z) () () ⋯ ⋯;have l8:=(k7.of0.trans p8).len;have A8:=Q2 (N:=N) (b0:=S1.length) (S:=S8) po' o2 (by rw[hP2];simp) w2 ();obtain⟨S9,h9⟩:∃S9,S9=S8++[O.lst (Po.pl P2)]++[O.lst [.tup [.tup (o'.map .int),.ref S8.length]]]:=⟨_,rfl⟩;rw[<- h9]at A8;have k9:lC S8 S9:=by rw[h9];exact Kp.refl.lay.lay
   obtain⟨y6,S10,x10⟩:=I0 (x0:=.frz (ns.map .int)) (x1:=.int (0+(i:Int))) (x6:=a6) (b8.kp k9 λz=>z) () () ((A6.kp p8 bl).kp (k9.of0 (b:=(·=S.length))) bl) A8 bl;dsimp[kD,bools,hc,e6,mP (show 2<=sizeLine by decide),aR,bJ,bg,bQ,Nat.reduceAdd];rw[show S6++[O.lst [A.tup [.int 0,.int 1],.tup [.int 2,.int (-3)]]]++[O.lst [A.tup [.tup (o.map .int),.ref S6.length]]]=S7 by rw[h7,hP1];rfl];dsimp[kD,bools,e8,mP (show 2<=sizeLine by decide),aR,bJ,bg,bQ,Nat.reduceAdd];rw[show S8++[O.lst [A.tup [.int (-1),.int 2]]]++[O.lst [A.tup [.tup (o'.map .int),.ref S8.length]]]=S9 by rw[h9,hP2];rfl];dsimp[kD,sI,bools]at x10;rw[x10];exact⟨_,_,rfl,_,_,_,_,_,_,rfl⟩
  ·have hc:((N:Int) == 5)=false:=by rw[d_];lia
   obtain⟨y6,S10,x10⟩:=I0 (x0:=.frz (ns.map .int)) (x1:=.int (0+(i:Int))) (x6:=a6) b5 () () ((D4.kp (k5.of0 (b:=(·=S.length))) bl).kp p5 bl) D5 bl;dsimp[kD,bools,hc];dsimp[kD,sI,bools]at x10;rw[x10];exact⟨_,_,rfl,_,_,_,_,_,_,rfl⟩
 ·rintro τ S ⟨a1,a2,a3,a4,a5,a6,rfl⟩;have C0:10 ^ 20<big:=sU ∅;have k0:lC S (S++[O.lst []]):=Kp.refl.lay;have z1:Sn 2 60 (10 ^ 20) (S++[O.lst []]) S.length []:=⟨He.Sz.of He.Cn.nil (nofun) (nofun),[],⟨jT,nofun⟩,rfl⟩;obtain⟨L1,S1,e1,s1,k1⟩:=z1.tu ⋯ ⋯ ⋯ C0;have k2:lC S1 (S1++[O.lst []]):=Kp.refl.lay;have z2:Sn 2 60 (10 ^ 20) (S1++[O.lst []]) S1.length []:=⟨He.Sz.of He.Cn.nil (nofun) (nofun),[],⟨jT,nofun⟩,rfl⟩;have q:rB false (.ref L1) (.ref S1.length) (S1++[O.lst []])=.ok (.bl true) (S1++[O.lst []]):=DB ((s1.kp k2).eq z2 (He.xB (He.rf (He.xh 2) (m:=[]) (nofun)).1 He.Cn.nil (He.rf (He.xh 2) (m:=[]) (nofun)).2.1 (nofun) (He.rf (He.xh 2) (m:=[]) (nofun)).2.2));dsimp[kD,sI,bools,e1,q];exact⟨_,rfl⟩
end K30
namespace K30
open PySem L2 Am
def all_mk{l:PySem.W.OpenLaw}{w:ah}{K:au}{h:aq}{mg:Str->Option af}{fa:ak}(X:K.In h)(G:h.Ns mainGlobals mg)(hfa:mg "law" = some (.ref fa))
  (a1:Df K "is_whole" wX)
  (a2:Df K "need_pair" vd)
  (a3:Df K "back" Ip)
  (a4:Df K "is_exchange" r6)
  (a5:Df K "exchanged_places" nZ)
  (a6:Df K "exchanged" uX)
  (a7:Df K "falls" DN)
  (a8:Df K "as_polynomial" pT)
  (a9:Df K "plus" G4)
  (a10:Df K "times" Eb)
  (a11:Df K "turned" A4)
  (a12:Df K "put_before" tU)
  (a13:Df K "as_sum" A5)
  (a14:Df K "need_like" vc)
  (a15:Df K "added" EE)
  (a16:Df K "scaled" Aw)
  (a17:Df K "by_exchange" rW)
  (a18:Df K "by_order" sP)
  (a19:Df K "by_orders" uE)
  (a20:Df K "with_backs" sV)
  (a21:Df K "product" yN)
  (a22:Df K "first_word" tB)
  (a23:Df K "turned_order" oN)
  (a24:Df K "turning" yI)
  (a25:Df K "_law_bag" y_)
  (a26:Df K "_law_digit" uU)
  (a27:Df K "_law_order" uS)
  (a28:Df K "_law_small_sum" pM)
  (a29:Df K "_law_is_poly" rF)
  (a30:Df K "_law_is_sum" sY)
  (a31:Df K "_law_copy" wW)
  (a32:Df K "_law_near" xj)
  (a33:Df K "_law_apart" u5)
  (a34:Df K "_law_home" wO)
  (a35:Df K "law" Pb)
  (acv:PySem.W.nsIn K mainGlobals "isinstance" = some none)
  (acw:PySem.W.nsIn K mainGlobals "bool" = some none)
  (acy:PySem.W.nsIn K mainGlobals "int" = some none)
  (acz:PySem.W.nsIn K mainGlobals "len" = some none)
  (acA:PySem.W.nsIn K mainGlobals "enumerate" = some none)
  (acB:PySem.W.nsIn K mainGlobals "tuple" = some none)
  (acC:PySem.W.nsIn K mainGlobals "list" = some none)
  (acD:PySem.W.nsIn K mainGlobals "range" = some none)
  (acE:PySem.W.nsIn K mainGlobals "sorted" = some none)
  (acF:PySem.W.nsIn K mainGlobals "dict" = some none)
  (acG:PySem.W.nsIn K mainGlobals "reversed" = some none)
  (acH:PySem.W.nsIn K mainGlobals "all" = some none)
  (acI:PySem.W.nsIn K mainGlobals "max" = some none)
  (acJ:PySem.W.nsIn K mainGlobals "min" = some none)
  {a_AT_A_FALL:ak} (acK:PySem.W.nsIn K mainGlobals "AT_A_FALL" = some (some (.ref a_AT_A_FALL))) (kp_AT_A_FALL:RO K a_AT_A_FALL=some [((-1:Int),(1:Int)),((1:Int),(-1:Int))])
  {a_LESS_BACK:ak} (acL:PySem.W.nsIn K mainGlobals "LESS_BACK" = some (some (.ref a_LESS_BACK))) (kp_LESS_BACK:RO K a_LESS_BACK=some [((-1:Int),(-1:Int)),((1:Int),(1:Int))])
  : ∃fd:FuncData,(∀(s:aA) (v:af),BindsTo s fd ⟨[v],[]⟩ [("_law_script",v)])/\∀base:aq,K.In base->base.Ns mainGlobals mg->FnOk l.prog w K mg base pY 34 fa fd ["_law_script"] (qJ K 1 CW):=by
 obtain⟨f,fd,a,F⟩:=a35;have e:=hfa.symm.trans (jl X G a)
 cases e
 have aaS:=cg X G acv;have aa1:=cg X G acw;have aa0:=cg X G acy;have aaa:=cg X G acz;have abp:=cg X G acA;have aav:=cg X G acB;have aad:=cg X G acC;have aak:=cg X G acD;have aaV:=cg X G acE;have abM:=cg X G acF;have abT:=cg X G acG;have aa7:=cg X G acH;have acr:=cg X G acI;have acs:=cg X G acJ;have h_AT_A_FALL:∃a,mg "AT_A_FALL" = some (.ref a)/\RO K a=some [((-1:Int),(1:Int)),((1:Int),(-1:Int))]:=⟨a_AT_A_FALL,jl X G acK,kp_AT_A_FALL⟩;have h_LESS_BACK:∃a,mg "LESS_BACK" = some (.ref a)/\RO K a=some [((-1:Int),(-1:Int)),((1:Int),(1:Int))]:=⟨a_LESS_BACK,jl X G acL,kp_LESS_BACK⟩;refine⟨fd,λs v=>(by obtain⟨_,_,_,_,_,_,_,_,_,rfl,_,_⟩:=F.ex;exact .of_eq rfl),λbase _ _=>?_⟩;have E:En l.prog w K mg base:=⟨h,X,G⟩;have abq:=a1.kA E (λF=>FH F aaS aa1 aa0) (G5 λ_ _ _ _ _ _ _=>rfl);have abZ:=a2.kA E (λF=>EH F aaa) (GS λ_ _ _ _ _ _ _ _=>rfl);have aa4:=a3.kA E (λF=>Tq F aaa abp aav) (G5 λ_ _ _ _ _ _ _=>rfl);have abE:=a4.kA E (λF=>AJ F abq) (GS λ_ _ _ _ _ _ _ _=>rfl);have abH:=a5.kA E (λF=>v8 F aad aav) (ZK λ_ _ _ _ _ _ _ _ _=>rfl);have aaF:=a6.kA E (λF=>Dq F aaa abE abH) (GS λ_ _ _ _ _ _ _ _=>rfl);have aaU:=a7.kA E (λF=>PX F aak aaa) (G5 λ_ _ _ _ _ _ _=>rfl);have aa2:=a8.kA E (λF=>yF F aaV) (G5 λ_ _ _ _ _ _ _=>rfl);have abU:=a9.kA E (λF=>Ti F abM aa2) (GS λ_ _ _ _ _ _ _ _=>rfl);have aaW:=a10.kA E (λF=>Qi F aa2) (GS λ_ _ _ _ _ _ _ _=>rfl);have aa6:=a11.kA E (λF=>LY F abT) (G5 λ_ _ _ _ _ _ _=>rfl);have aaL:=a12.kA E (λF=>B_ F abU) (ZK λ_ _ _ _ _ _ _ _ _=>rfl);have aaT:=a13.kA E (λF=>LF F aaV) (G5 λ_ _ _ _ _ _ _=>rfl);have aa3:=a14.kA E (λF=>Eu F abZ) (GS λ_ _ _ _ _ _ _ _=>rfl);have aaY:=a15.kA E (λF=>Qk F aa3 aaL aaT) (GS λ_ _ _ _ _ _ _ _=>rfl);have aaZ:=a16.kA E (λF=>Me F aaL aaW aaT) (GS λ_ _ _ _ _ _ _ _=>rfl);have aaX:=a17.kA E (λF=>Ai F aad h_AT_A_FALL aaL aaF aaU aaW aaT) (GS λ_ _ _ _ _ _ _ _=>rfl);have ab2:=a18.rA E (λF hm hk hb=>yi F aaU aaF aaX hm hk hb 26) (ZK λ_ _ _ _ _ _ _ _ _=>rfl);have aba:=a19.kA E (λF=>D9 F ab2 aaL aaW aaT) (GS λ_ _ _ _ _ _ _ _=>rfl);have aa_:=a20.kA E (λF=>Ce F aaV aa4) (G5 λ_ _ _ _ _ _ _=>rfl);have abo:=a21.kA E (λF=>H_ F aaa aa3 aba aa_) (GS λ_ _ _ _ _ _ _ _=>rfl);have aa5:=a22.kA E (λF=>B6 F aa4 aaU aaF) (G5 λ_ _ _ _ _ _ _=>rfl);have ab3:=a23.rA E (λF hm hk hb=>sL F aad h_LESS_BACK aa5 aaF aaY aaZ aaX hm hk hb 26) (GS λ_ _ _ _ _ _ _ _=>rfl);have aaR:=a24.kA E (λF=>HA F ab3 aaL aaW aa6 aaT) (G5 λ_ _ _ _ _ _ _=>rfl);have acu:=a25.kA E (λF=>GZ F aaa) (GS λ_ _ _ _ _ _ _ _=>rfl);have aao:=a26.kA E (λF=>Ej F) (GS λ_ _ _ _ _ _ _ _=>rfl);have ab4:=a27.kA E (λF=>Ez F aad aak aaa aav aao) (GS λ_ _ _ _ _ _ _ _=>rfl);have abf:=a28.kA E (λF=>yZ F aak aaV aao ab4) (ZK λ_ _ _ _ _ _ _ _ _=>rfl);have ace:=a29.kA E (λF=>BN F aaS aad aaa aav aa1 aa0 aa7 aak) (G5 λ_ _ _ _ _ _ _=>rfl);have ach:=a30.kA E (λF=>Cb F aaS aad aav aaa ace) (G5 λ_ _ _ _ _ _ _=>rfl);have abb:=a31.kA E (λF=>E5 F aad) (G5 λ_ _ _ _ _ _ _=>rfl);have abh:=a32.kA E (λF=>EO F aad aak aav aao) (ZK λ_ _ _ _ _ _ _ _ _=>rfl);have acm:=a33.kA E (λF=>Dj F aak aaa aa7) (G5 λ_ _ _ _ _ _ _=>rfl);have abn:=a34.kA E (λF=>Gn F abb aaR ach acm) (G5 λ_ _ _ _ _ _ _=>rfl);exact Wy F aak acr acs aaa aa0 acu aao abf abh abn aaR aaY abo aaZ aa6
def walk{l:PySem.W.OpenLaw}{q:aj}{XP:(Str->Option af)->aq->Prop}{YP:ah->aq->Prop}{d:DefRec}{K:Params->au}(hn:l.most=some 63)(hdf:d.params.defaults=[])
  (hY:∀(w:ah) (h:aq),YP w h->(K w.params).In h)
  (F:∀(w:ah) (mg:Str->Option af) (fa:ak) (h:aq),(K w.params).In h->h.Ns mainGlobals mg->mg d.name=some (.ref fa) ->
   ∃fd:FuncData,(∀(s:aA) (u:af),BindsTo s fd ⟨[u],[]⟩ [("_law_script",u)])/\∀base:aq,(K w.params).In base->base.Ns mainGlobals mg->FnOk l.prog w (K w.params) mg base pY 34 fa fd ["_law_script"] (qJ (K w.params) 1 CW)) :
  PySem.W.WalkO q loose XP YP l.row.toRowW d [] (λf vs=>PySem.call f vs):=
 L2.TR (n:=63) (k:=34) (x := "_law_script") (CX:=λ_=>pY) (sp:=λw=>qJ (K w.params) 1 CW) hn ⋯ hdf ⟨rfl,by decide,by decide⟩ hY F (λ_ H a ns hl hO hS=>LV hO hS (XF ns hl)) λ_ _ _ _ _ z=>z
end K30
open PySem PySem.W PyProof.Rows
namespace PySem.W.Fast
def tw6687722177076410525:=0
def tw15616993726085273959:=0
def tw18222249085072051267:=0
def tw6273429991995269801:=0
def tw14613215423191768584:=0
def tw17418106942865288898:=0
def tw1675663111762752141:=0
def tw11070762561450689431:=0
def tw12369756729434707872:=0
def tw13745916090627766957:=0
def tw9923740694100857056:=0
def tw12331220982603820353:=0
def tw7909997545481043871:=0
def tw10217502580743572736:=0
def tw14722789518914981111:=0
def tw3659637341456537108:=0
def tw6320858125043119185:=0
def tw5586537690556311495:=0
def tw831153776408207142:=0
def tw6973217448089275428:=0
def tw8142285525779918258:=0
def tw12860913238866946596:=0
def tw17064836110342441180:=0
def tw7680380739522410847:=0
def tw9066819634137649510:=0
def tw3639560591252604816:=0
def tw1765099288224380146:=0
def tw16720824999570467150:=0
def tw18031975181511078201:=0
def tw16109198426863628205:=0
def tw2431570041513415925:=0
def tw17407574169546167910:=0
def tw12022298148755411852:=0
def tw7548339213418217291:=0
def tw2850781049252085990:=0
def tw14074542635952583880:=0
def tw10397093683426608696:=0
def tw5527549289233809214:=0
def tw5708122683803931772:=0
def tw9740489450912900651:=0
def tw10527976757802135708:=0
def tw4651473858914856497:=0
def tw219360628270375339:=0
def tw7671371819172027857:=0
def tw6252540812265825976:=0
def tw17496453584887544971:=0
def tw7941976665656508081:=0
def tw12871475359069470516:=0
def tw188342275479915845:=0
def tw12843615582337952216:=0
def tw5720727357153614756:=0
def tw8688595794592080771:=0
def tw3551968092109518462:=0
def tw15132627192581376599:=0
def tw10292839348817119395:=0
def tw10768650290340192299:=0
def tw4448564208140511089:=0
def tw11408421941342385523:=0
def tw5570832351970159516:=0
def tw5773527249340379781:=0
def tw3802279827149230540:=0
def tw10159777149641180177:=0
def tw2150498872228215052:=0
def tw1067065731353691730:=0
def tw10737367771983731317:=0
def tw10902247842478864753:=0
def tw8234831046202641512:=0
def tw7198675605846715668:=0
def tw6925892995305690125:=0
def tw4217337869033704383:=0
def tw453291123413216652:=0
def tw4835094213937910224:=0
def tw13086237077083308175:=0
def tw13528605035235164713:=0
def tw5691222563633043338:=0
def tw5692210381310498226:=0
def tw3095538477217356436:=0
def tw3743362780364142857:=0
def tw9130729078131239366:=0
def tw15348439398120710822:=0
def tw13812917622194504151:=0
def tw12039658795211929125:=0
def tw7862666862225229582:=0
def tw15755664058462574179:=0
def tw8602449593175227270:=0
def tw7305584585143957811:=0
def tw12927836669724881617:=0
def tw1958658785027775131:=0
def tw11070869912940667931:=0
def tw9772628384380210290:=0
def tw5077506015795518092:=0
def tw14218316763704036380:=0
def tw10795849902476969674:=0
def tw12139909097496942534:=0
def tw14370289170731638042:=0
def tw16423773311500629983:=0
def tw3788130810840208699:=0
def tw14191863485851301075:=0
def tw13471655797663617654:=0
def tw2821563550817983672:=0
end PySem.W.Fast
set_option maxRecDepth 100000 in
set_option maxHeartbeats 0 in
theorem PySem.Challenge.cw_undercells_k30_turning_twice_home_holds : PySem.Challenge.rw_undercells_k30_turning_twice_home.Holds := by
 w_on;o_law;k_head;(case hw=>w_witness2)
 k_fill
 refine K30.walk (l:=PySem.Challenge.rw_undercells_k30_turning_twice_home) rfl rfl (fun w h Y=>PySem.W.kIn_of Y) ?F
 case F=>
  intro w mg fa h KX G hmg;refine' K30.all_mk KX G hmg (.of ?_ ?_ ?_ ?_) (.of ?_ ?_ ?_ ?_) (.of ?_ ?_ ?_ ?_) (.of ?_ ?_ ?_ ?_) (.of ?_ ?_ ?_ ?_) (.of ?_ ?_ ?_ ?_) (.of ?_ ?_ ?_ ?_) (.of ?_ ?_ ?_ ?_) (.of ?_ ?_ ?_ ?_) (.of ?_ ?_ ?_ ?_) (.of ?_ ?_ ?_ ?_) (.of ?_ ?_ ?_ ?_) (.of ?_ ?_ ?_ ?_) (.of ?_ ?_ ?_ ?_) (.of ?_ ?_ ?_ ?_) (.of ?_ ?_ ?_ ?_) (.of ?_ ?_ ?_ ?_) (.of ?_ ?_ ?_ ?_) (.of ?_ ?_ ?_ ?_) (.of ?_ ?_ ?_ ?_) (.of ?_ ?_ ?_ ?_) (.of ?_ ?_ ?_ ?_) (.of ?_ ?_ ?_ ?_) (.of ?_ ?_ ?_ ?_) (.of ?_ ?_ ?_ ?_) (.of ?_ ?_ ?_ ?_) (.of ?_ ?_ ?_ ?_) (.of ?_ ?_ ?_ ?_) (.of ?_ ?_ ?_ ?_) (.of ?_ ?_ ?_ ?_) (.of ?_ ?_ ?_ ?_) (.of ?_ ?_ ?_ ?_) (.of ?_ ?_ ?_ ?_) (.of ?_ ?_ ?_ ?_) (.of ?_ ?_ ?_ ?_) ?_ ?_ ?_ ?_ ?_ ?_ ?_ ?_ ?_ ?_ ?_ ?_ ?_ ?_ ?_ ?_ ?_ ?_
  any_goals first|k_is|kernel_rfl
