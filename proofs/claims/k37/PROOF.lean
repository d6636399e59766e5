import PyProof.Rows.All
import Wide.All
import OpenK.AllK
import Wide.FinOn
import Lean
import PyProof.EqAt
import PyProof.EqKinds
import PyProof.TupleCall
import PySem.Challenge.RW_undercells_k37_rests_refused
set_option autoImplicit true
set_option relaxedAutoImplicit true
set_option Elab.async false
set_option linter.all false
set_option maxRecDepth 100000
set_option maxHeartbeats 4000000
local macro_rules|`(command|abbrev $n:declId $s:optDeclSig $v:declVal)=>`(command|noncomputable def $n:declId $s:optDeclSig $v:declVal)|`(command|meta abbrev $n:declId $s:optDeclSig $v:declVal)=>`(command|@[reducible]noncomputable def $n:declId $s:optDeclSig $v:declVal)
local macro_rules|`(∅)=>`(by decide +kernel)
local macro_rules|`(⋯)=>`(by decide)
local macro_rules|`(tactic|dsimp[$l,*])=>`(tactic|simp only[$l,*])|`(tactic|dsimp[$l,*]$o:location)=>`(tactic|simp only[$l,*]$o:location)
local macro_rules(kind:=Lean.Parser.Term.structInst)|`({})=>`({cls:=.type "list",data:=.seq ([]:List PySem.Value).toArray})
set_option hygiene false
local macro_rules|`(tactic|z_go)=>`(tactic|obtain⟨ρ,S,τ,R,r,h⟩:=h9)
local macro_rules|`(tactic|x_go)=>`(tactic|obtain⟨ρ,S,a,b,R,va,vb,h⟩:=h9)
local macro_rules|`(tactic|w_up)=>`(tactic|intro X hP hw hK hc i pins s σ H E I hf st hg)
local macro_rules|`(tactic|k_ne)=>`(tactic|obtain⟨f0,f1,f2,f3,f4,f5⟩:=hf it (by simp))
local macro_rules|`(tactic|kt_k)=>`(tactic|intro pins s σ H xs us Q I r h)
local macro_rules|`(tactic|kd_p)=>`(tactic|intro pins s σ H Q I h)
local macro_rules|`(tactic|gn_on)=>`(tactic|intro pins s σ H x y v u Q I rx ry h)
local macro_rules|`(tactic|gp_on)=>`(tactic|refine⟨ρ,S,τ,R,r,iM (iR h) .refl λo S1 h1 ρ1 H1 x e1 R1 v1=>⟨ρ1,S1,τ,R1,r.ext e1,iM (iR h1) e1 λi S2 h2 ρ2 H2 y e2 R2 v2=>?_⟩⟩)
local macro_rules|`(tactic|kj_on)=>`(tactic|obtain⟨xs,hn,h⟩:=iY h)
local macro_rules|`(tactic|kcf_m)=>`(tactic|intro pins s σ H D I h)
local macro_rules|`(tactic|kcj_m)=>`(tactic|obtain⟨u,rfl,rx⟩:=vals1 r)
local macro_rules|`(tactic|kpc_g)=>`(tactic|refine⟨ρ2,S2,o,i,a,R2,v1.ext e2,v2,va.ext (e1.trans e2),iM (iR h2) (e1.trans e2) λ_ S3 h3 ρ3 H3 e3 R3=>?_⟩)
local macro_rules|`(tactic|kpf_c)=>`(tactic|have hfree:∀y∈scope.names,y.2=.free->∃c,X.env.cells.lookup y.1=some c:=λy hy e=>I.ok.has _ (S.fr y hy e))
local macro_rules|`(tactic|ksr_p)=>`(tactic|obtain⟨w,rfl,ρ,S,x,R,hv,h⟩:=SM h0)
local macro_rules|`(tactic|kst_p)=>`(tactic|intro value slice pins s σ H x y v u Q I rx ry h hs)
local macro_rules|`(tactic|kln_w)=>`(tactic|obtain⟨ρ,S,τ,R,r,h⟩:=h)
local macro_rules|`(tactic|kl_no)=>`(tactic|exact I1.Ba (aO _) (I1.hok.fresh (aO _)))
local macro_rules|`(tactic|mg_lt)=>`(tactic|refine aU (wpS_lift (dJ ⟨rfl,?_⟩)))
local macro_rules|`(tactic|cb_eq)=>`(tactic|obtain⟨t,rfl⟩:=rx)
local macro_rules|`(tactic|o_rec)=>`(tactic|obtain⟨oc,od,kV,doc,pm,an,cdv,ct,osl,rfl,lk,hcd⟩:=F.ex)
local macro_rules|`(tactic|f_are)=>`(tactic|exact h3 ρ3 H3 σ ((e1.trans e2).trans e3) R3 (r.ext ((e1.trans e2).trans e3)))
set_option hygiene true
local macro_rules|`(())=>`(by lia)
@[reducible]def ae:=List Int
@[reducible]def ag:=List Nat
@[reducible]def am:=List PySem.Str
@[reducible]def ap:=List PySem.Value
@[reducible]def ar:=List PySem.Addr
@[reducible]def ba:=Option PySem.Value
@[reducible]def bd:=Option Bool
@[reducible]def bi:=Option Nat
@[reducible]def bj:=List<|PySem.Addr×PySem.Obj
def aG:=@List.getElem?_eq_getElem
def aH:=@PySem.wpAny_bind
def aI:=@List.getElem?_eq_some_iff
def aJ:=@if_pos
def aK:=@if_neg
def aL:=@List.getD_eq_getElem?_getD
def aM:=@List.length_map
def aN:=@List.mem_cons_self
def aO:=@Nat.le_refl
def aP:=@PySem.Heap.get?_push_of_some
def aQ:=@List.mem_cons_of_mem
def aR:=@List.forall_mem_cons
def aS:=@Option.some.inj
def aT:=@PySem.wpAny_pure
def aU:=@PyProof.Rows.wpS_bind
def aV:=@PySem.Heap.lt_size
def aW:=@decide_eq_false
def aX:=@List.mem_of_getElem?
def aY:=@PyProof.Rows.wpS_pure
def aZ:=@List.size_toArray
def a_:=@decide_eq_true
def bg:=@List.getElem?_map
def bh:=@List.length_append
def bq:=@Bool.false_eq_true
def br:=@List.mem_append_right
def bu:=@Nat.ne_of_lt
def bz:=@Option.map_eq_some_iff
def bA:=@List.length_cons
def bB:=@List.mem_cons
def bC:=@List.mem_singleton
def bD:=@PySem.Heap.get?_push_size
def bE:=@List.getElem?_append_left
def bF:=@List.mem_append
def bG:=@Bool.false_ne_true
def bH:=@Nat.lt_of_lt_of_le
def bI:=@List.getElem?_set_self
def bJ:=@List.getElem?_eq_none
def bK:=@List.append_nil
def bL:=@List.length_take
def bM:=@beq_self_eq_true
def bN:=@List.length_set
def bO:=@List.append_assoc
def bP:=@List.getElem?_set_ne
def bQ:=@List.map_cons
def bR:=@List.mem_append_left
def bS:=@of_decide_eq_true
def bT:=@Option.bind_some
def bU:=@PySem.W.mg_none_of
def bV:=@List.drop_eq_getElem_cons
def bW:=@Nat.le_trans
def bX:=@if_false
def bY:=@List.pairwise_append
def bZ:=@List.pairwise_cons
def b6:=@Option.bind_eq_some_iff
def b9:=@List.mem_of_mem_take
def b_:=@List.mem_map
def cg:=@PyProof.Rows.wpS_forRange
def cj:=@List.getElem?_range
def ck:=@List.map_map
def cu:=@PySem.W.kia_one
def cA:=@List.find?_cons
def cB:=@List.length_range
def cC:=@Bool.not_true
def cD:=@PySem.W.mg_of
def cE:=@Nat.zero_le
def cF:=@List.map_append
def cG:=@PySem.wpAny_holding
def cH:=@PySem.sizeLine_eq
def cI:=@List.ext_getElem?
def cJ:=@PySem.wpAny_mono
def cK:=@Nat.lt_succ_self
def cL:=@Array.length_toList
def cM:=@List.replicate_succ
def cN:=@Ne.symm
def cO:=@List.set_append_right
def cP:=@List.nodup_cons
def cQ:=@List.length_nil
def cR:=@Bool.and_eq_true
def cT:=@List.pairwise_singleton
def cU:=@List.getElem_map
def cV:=@List.mem_range
def cW:=@List.nodup_append
def cX:=@if_true
def cY:=@List.pairwise_iff_getElem
def cZ:=@List.getElem_inj
def c5:=@List.lookup_cons
def c6:=@congrArg
def c7:=@List.range_eq_range'
def c8:=@Bool.not_false
def c9:=@PySem.wpAny_truthy_bool
def c_:=@List.flatten_cons
def dc:=@PySem.wpAny_newObj_type
def dg:=@List.mem_filter
def dh:=@Option.map_some
def di:=@beq_eq_false_iff_ne
def dj:=@PySem.W.hideAll_get
def dm:=@PySem.mem_of_lookup
def dw:=@PyProof.Rows.wpS_mono
def dz:=@PyProof.Rows.callWith_type1
def dB:=@PySem.Heap.get?_update_other
def dD:=@Nat.zero_add
def dF:=@Int.zero_add
def dG:=@Nat.lt_irrefl
def dH:=@List.length_drop
def dI:=@List.prefix_refl
def dJ:=@PySem.wpAny_rule
def dM:=@of_decide_eq_false
def dN:=@List.getElem?_toArray
def dO:=@List.take_append_drop
def dP:=@PySem.wpAny_passesOwn
def dQ:=@List.foldl_cons
def dR:=@PySem.PassesOwn.never
def dS:=@List.pairwise_map
def dU:=@List.mem_of_mem_drop
def dW:=@Int.add_zero
def dX:=@List.map_set
def dY:=@PySem.wpAny_standAt
def dZ:=@List.filterMap_cons
def d7:=@Option.getD_some
def d8:=@List.length_eq_zero_iff
def d9:=@List.getElem_mem
def d_:=@PySem.W.of_hideAll
def eg:=@PySem.wpAny_Call_Name_kw
def eo:=@PyProof.Rows.wpS_modify
def eB:=@List.prefix_append
def eE:=@List.getElem_range
def eF:=@PySem.wpAny_specialOf
def eG:=@Nat.not_lt_zero
def eK:=@List.any_cons
def eL:=@Nat.add_assoc
def eO:=@Array.getElem?_toList
def eS:=@PySem.F.slot_dict_get
def eT:=@Array.toList_push
def eU:=@List.reverse_cons
def eV:=@List.foldl_append
def eW:=@List.flatMap_cons
def eX:=@PySem.Around.under_plainId
def eY:=@List.take_zero
def eZ:=@List.nodup_nil
def e_:=@PySem.codeAny_mono
def ff:=@List.range'_succ
def fh:=@PySem.wpAny_call_entry
def fj:=@Option.isSome_iff_exists
def fm:=@List.getElem?_take_of_lt
def fq:=@PySem.F.args_tuple_add_2
def fu:=@PySem.F.slot_list_getattribute
def fy:=@PySem.F.slot_list_append
def fB:=@PySem.F.type_list_append
def fC:=@List.sum_cons
def fD:=@PySem.wpAny_execs_nil
def fF:=@PySem.codeAny_builtin
def fG:=@List.mem_filterMap
def fH:=@List.getElem?_drop
def fJ:=@Int.emod_lt_of_pos
def fK:=@Option.isSome_none
def fL:=@List.getElem?_replicate
def fM:=@PySem.F.entry_tuple_add
def fN:=@Int.le_refl
def fO:=@PySem.W.cellsFrom_some
def fP:=@PySem.F.slot_tuple_add
def fQ:=@List.pairwise_lt_range
def fR:=@PySem.F.slot_tuple_hash
def fS:=@Int.toNat_natCast
def fU:=@decide_eq_true_eq
def fV:=@PyProof.Rows.wpS_get
def fW:=@List.take_of_length_le
def fX:=@List.take_succ_eq_append_getElem
def fY:=@Nat.sub_self
def fZ:=@PySem.Heap.get?_push_ne
def f6:=@Nat.lt_succ_of_lt
def f7:=@List.take_add_one
def f9:=@PySem.PassesOwn.leaving
def f_:=@Nat.lt_of_succ_lt_succ
def gb:=@List.eraseIdxIfInBounds_toArray
def gc:=@Array.getElem?_setIfInBounds_ne
def gf:=@PySem.Heap.get?_update_self
def gh:=@PySem.isSubtype_tuple_tuple
def gp:=@List.length_filter_le
def gq:=@PySem.wpAny_forIn_list
def gr:=@PySem.wpAny_isInstance
def gu:=@PySem.Heap.size_update
def gv:=@List.take_length
def gw:=@List.ext_getElem
def gz:=@decide_eq_decide
def gA:=@List.mem_reverse
def gB:=@Bool.false_or
def gC:=@PyProof.Rows.listUpdate_at
def gD:=@PySem.Sem.wp_pure
def gE:=@List.getElem?_of_mem
def gF:=@List.reverse_reverse
def gG:=@List.mem_iff_getElem
def gH:=@List.of_mem_zip
def gI:=@Int.le_antisymm
def gJ:=@PySem.F.slot_tuple_eq
def gK:=@Int.emod_nonneg
def gM:=@List.map_congr_left
def gO:=@PySem.wpAny_call
def gP:=@PySem.W.callWith_K
def gQ:=@List.getElem?_append_right
def gR:=@PySem.Heap.size_push
def gS:=@PySem.tupleKind_room_in1
def gT:=@PySem.wpAny_tupleItemsOf
def gU:=@Array.forIn_toList
def gW:=@PySem.wpAny_seqItems
def gX:=@beq_iff_eq
def gY:=@List.Perm.refl
def gZ:=@PySem.F.excBase_ValueError
def g_:=@PySem.wpAny_pyIter_list
def h_:=@bne_self_eq_false
def ie:=@PySem.Paired.length
def ig:=@PySem.wpAny_attempt
def ir:=@PySem.wpAny_newList
def iu:=@List.filter_cons
def iy:=@List.any_eq_true
def iz:=@List.cons_append
def iA:=@List.countP_cons
def iB:=@Nat.le_of_lt
def iC:=@PySem.call_meets
def iD:=@PySem.wpAny_typeOf
def iE:=@Bool.or_eq_true
def iF:=@List.filter_map
def iG:=@Array.size_zip
@[reducible]def af:=PySem.Value
@[reducible]def ah:=PySem.World
@[reducible]def aj:=PySem.Program
@[reducible]def ak:=PySem.Addr
@[reducible]def aq:=PySem.Heap
@[reducible]def au:=PySem.W.Frag
@[reducible]def aA:=PySem.Around
@[reducible]def aC:=PySem.Shared
@[reducible]def aE:=PySem.Expr
@[reducible]def aF:=PySem.Stmt
def anI{a b:Prop}(h:a)(k:b):a/\b:=⟨h,k⟩
open Array (size_map)
open Int (add_assoc)
open List (map_nil)
open Nat (le_succ lt_or_ge lt_trans pow_succ succ_mul)
open Option (isSome_map isSome_some)
namespace L2
open PySem PySem.Spec PyProof.Rows
meta abbrev Key:=Sum Int Str
abbrev zh:Key->af->Bool
 | .inl k,v=>Value.isInt k v
 | .inr x,v=>Value.isStrOf x v
abbrev Xq (w:ah):Key->Int
 | .inl k=>hashInt k
 | .inr x=>hashStr w x
def jS:∀{k:Key}{v:af},zh k v=true->(∃i t,k=Sum.inl i/\v=Value.int i t)\/(∃x t,k=Sum.inr x/\v=Value.str x t)
 | .inl i,v,h=>by
  obtain⟨t,e⟩:=Value.isInt_shape (k:=i) (v:=v) h;exact .inl ⟨i,t,rfl,e⟩
 | .inr x,v,h=>by
  obtain⟨t,e⟩:=Value.isStrOf_shape (x:=x) (v:=v) h;exact .inr ⟨x,t,rfl,e⟩
def HG(i:Int)(t:Tok):zh (.inl i) (.int i t)=true:=by simp[zh,Value.isInt]
def HW(x:Str)(t:Tok):zh (.inr x) (.str x t)=true:=by simp[zh,Value.isStrOf]
def Rz(a b:Int):decide ((Sum.inl a:Key)=Sum.inl b)=(a == b):=by
 by_cases e:a=b
 ·subst e;simp
 ·have h:¬(Sum.inl a:Key)=Sum.inl b:=λq=>e<|Sum.inl.inj q;rw[aW h];exact(di.mpr e).symm
def Ul(a b:Str):decide ((Sum.inr a:Key)=Sum.inr b)=decide (a=b):=by
 by_cases e:a=b
 ·subst e;simp
 ·have h:¬(Sum.inr a:Key)=Sum.inr b:=λq=>e<|Sum.inr.inj q;rw[aW h,aW e]
def Sf(a:Int)(b:Str):decide ((Sum.inl a:Key)=Sum.inr b)=false:=aW λq=>nomatch q
def Q2(a:Str)(b:Int):decide ((Sum.inr a:Key)=Sum.inl b)=false:=aW λq=>nomatch q
abbrev jz (prog:aj)(w:ah):PySem.KeyKind prog w Key where
 is:=zh
 hash:=Xq w
 inj:=λv a b ha hb=>by
  rcases jS ha with⟨i,t,rfl,rfl⟩|⟨x,t,rfl,rfl⟩
  ·rcases jS hb with⟨j,u,rfl,e⟩|⟨y,u,rfl,e⟩
   ·injection e with e1 _;rw[e1]
   ·exact nomatch e
  ·rcases jS hb with⟨j,u,rfl,e⟩|⟨y,u,rfl,e⟩
   ·exact nomatch e
   ·injection e with e1 _;rw[e1]
 byValue:=λk v h=>by
  rcases jS h with⟨i,t,rfl,rfl⟩|⟨x,t,rfl,rfl⟩<;>rfl
 pyHash:=λhv h=>by
  rcases jS hv with⟨i,t,rfl,rfl⟩|⟨x,t,rfl,rfl⟩
  ·exact wpAny_pyHash_int h
  ·exact wpAny_pyHash_str h
 eqBool:=λhu hv h=>by
  rcases jS hu with⟨i,t,rfl,rfl⟩|⟨x,t,rfl,rfl⟩
  ·rcases jS hv with⟨j,u,rfl,rfl⟩|⟨y,u,rfl,rfl⟩
   ·rw[Rz]at h;exact wpAny_eqBool_int h
   ·rw[Sf]at h;exact SeqAt.EqAt.int_str i t y u _ _ _ _ h
  ·rcases jS hv with⟨j,u,rfl,rfl⟩|⟨y,u,rfl,rfl⟩
   ·rw[Q2]at h;exact SeqAt.EqAt.str_int x t j u _ _ _ _ h
   ·rw[Ul]at h;exact wpAny_eqBool_str h
 «strs»:=λk x t v h=>by
  rcases jS h with⟨i,u,rfl,e⟩|⟨y,u,rfl,e⟩
  ·exact nomatch e
  ·injection e with e1 _
   subst e1
   cases v<;>rfl
def B9(prog:aj)(w:ah)(i:Int)(t:Tok):(jz prog w).is (.inl i) (.int i t)=true:=HG i t
def Ct(prog:aj)(w:ah)(x:Str)(t:Tok):(jz prog w).is (.inr x) (.str x t)=true:=HW x t
inductive V where
 | non|bl (b:Bool)|int (i:Int)|str (x:Str)|byt (b:Array UInt8)|flt (b:UInt64)|ref (a:ak)|ty (n:String)
 deriving DecidableEq
abbrev RelV:V->af->Prop
 | .non,u=>u=Value.none
 | .bl b,u=>u=Value.bool b
 | .int i,u=>∃t,u=Value.int i t
 | .str x,u=>∃t,u=Value.str x t
 | .byt b,u=>∃t,u=Value.bytes b t
 | .flt b,u=>∃t,u=Value.float b t
 | .ref a,u=>u=Value.ref a
 | .ty n,u=>u=Value.type n
meta abbrev Vals:List V->ap->Prop:=Paired RelV
def Vals.length{xs:List V}{us:ap}(r:Vals xs us):xs.length=us.length:=ie r
theorem Vals.get:∀{xs:List V}{us:ap}{i:Nat}{x:V},Vals xs us->xs[i]?=some x->∃u,us[i]?=some u/\RelV x u
 | _,_,_,_,.nil,e=>by simp at e
 | _,_,0,_,.cons r _,e=>by simp at e;subst e;exact⟨_,rfl,r⟩
 | _,_,i+1,x,.cons _ t,e=>by
  obtain⟨u,h1,h2⟩:=Vals.get (i:=i) (x:=x) t (by simpa using e);exact⟨u,by simpa using h1,h2⟩
theorem Vals.set{x:V}(r:RelV x u):∀{xs:List V}{us:ap}(i:Nat),Vals xs us->Vals (xs.set i x) (us.set i u)
 | _,_,_,.nil=>.nil
 | _,_,0,.cons _ t=>.cons r t
 | _,_,i+1,.cons q t=>.cons q<|Vals.set r i t
theorem Vals.append:∀{xs ys:List V}{us ws:ap},Vals xs us->Vals ys ws->Vals (xs++ys) (us++ws)
 | _,_,_,_,.nil,s=>s
 | _,_,_,_,.cons r t,s=>.cons r<|Vals.append t s
abbrev t_:Option V->ba->Prop
 | some v,some u=>RelV v u
 | none,none=>True
 | _,_=>False
abbrev KV {κ:Type}:List (κ×V)->List (κ×af)->Prop:=Paired λ(p:κ×V) (q:κ×af)=>p.1=q.1/\RelV p.2 q.2
abbrev kV:Key->V
 | .inl i=>.int i
 | .inr x=>.str x
inductive HO where
 | lst (xs:List V)
 | tup (xs:List V)
 | dK (kvs:List<|Key×V)|dT (kvs:List<|List Key×V)
 | set (S:Int->Bool) (n:Nat)
 | ins (C dx:ak) (fs:List<|Str×V)
 | own (x:ak)
 | xd (fs:List<|Str×V)
 | met (f x:ak)
 | rng (lo hi:Int)
 | frz (o:Obj) (u:HO)
 | tbl (ps:Array af)
 | ext (φ:aq->Prop)
meta abbrev Hp:=ak->Option HO
abbrev upd (H:Hp)(a:ak)(o:HO):Hp:=λb=>if b=a then some o else H b
def ji{H:Hp}{a:ak}:upd H a o a=some o:=by unfold upd;rw[aJ rfl]
def iS{H:Hp}{a:ak}(h:b≠a):upd H a o b=H b:=by unfold upd;rw[aK h]
def Wk{H:Hp}{a:ak}(h:H a=some o)(h':H b=some u)(d:o≠u):a≠b:=by
 intro e;subst e;rw[h]at h';exact d<|aS h'
def i9{H:Hp}{a:ak}(h:H a=some o)(h':H b=none):a≠b:=by
 intro e;subst e;rw[h]at h';cases h'
abbrev ng (h:aq)(a:ak)(items:Array af):Prop:=∃o,h.get? a=some o/\o.cls=.type "tuple" /\ o.dict=none/\∃n,o.data=.seq items n
def ng.tup{a:ak}:ng h a items->IsTup h a items:=λ⟨o,e,c,_,n,d⟩=>⟨o,e,c,n,d⟩
def ng.new(h:aq)(items:Array af):ng (h.push { cls:=.type "tuple",data:=.seq items }) h.objs.size items:=⟨_,bD _ rfl,rfl,rfl,_,rfl⟩
def ng.lt{h:aq}{a:ak}(x:ng h a items):a<h.objs.size:=let⟨_,ho,_⟩:=x;aV ho
section
variable (P:aj) (w:ah)
abbrev jG (H:Hp)(h:aq)(a:ak):HO->Prop
 | .lst xs=>xs.length<=sizeLine/\∃(its:ap) (n:Nat),Vals xs its/\h.get? a=some { cls:=.type "list",data:=.seq its.toArray n }
 | .tup xs=>xs.length<=sizeLine/\∃its:ap,Vals xs its/\ng h a its.toArray
 | .dK kvs=>kvs.length<=sizeLine/\(a == sysModules)=false/\∃vs,KV kvs vs/\h.DictOf (jz P w) a vs
 | .dT kvs=>kvs.length<=sizeLine/\(a == sysModules)=false/\∃xs:List<|List Key×ak×af,
   Paired (λ(p:List Key×V) (q:List Key×ak×af)=>p.1=q.1/\H q.2.1=some (.tup<|p.1.map kV)/\RelV p.2 q.2.2) kvs xs /\
   ∃o es ep,h.get? a=some o/\o.ExactDict/\o.data=.dict es ep/\es.toList=xs.map (entryOfKey<|tupleKind<|jz P w)/\(xs.map (·.1)).Nodup
 | .set S n=>h.SetOf (intKind P w) a S n
 | .ins C dx fs=>H dx=some (.own a)/\fs.length<=1000/\dx≠a/\h.get? a=some (PySem.W.instObj C dx) /\
   ∃mA,h.Ns1 dx mA/\(∀f,t_ (fs.lookup f)<|mA f)/\PySem.Within mA (fs.map (·.1))
 | .own _=>∃o,h.get? a=some o
 | .xd fs=>∃mA,h.Ns1 a mA/\∀f,t_ (fs.lookup f) (mA f)
 | .rng lo hi=>∃t u v,h.get? a=some { cls:=.type "range",data:=.fields #[.int lo t,.int hi u,.int 1 v]}
 | .frz o u=>h.get? a=some o/\jG H h a u
 | .tbl ps=>h.get? a=some { cls:=.none,data:=.fields ps }
 | .met f x=>h.get? a=some (PySem.W.methodObj (.ref f)<|.ref x)
 | .ext φ=>φ h/\(∃o,h.get? a=some o)/\∀h1 h2:aq,φ h1->(∀o,h1.get? a=some o->h2.get? a=some o)->φ h2
abbrev rV (H:Hp)(h:aq):Prop:=∀a o,H a=some o->jG P w H h a o
end
section
variable {P:aj}{w:ah}{H H':Hp}{h h':aq}{a:ak}{o:HO}
def jG.lt(x:jG P w H h a o):a<h.objs.size:=by
 cases o with
 | lst xs=>obtain⟨_,_,_,_,e⟩:=x;exact aV e
 | tup xs=>obtain⟨_,_,_,p⟩:=x;exact ng.lt p
 | dK kvs=>obtain⟨_,_,_,_,o,_,_,e,_⟩:=x;exact aV e
 | dT kvs=>obtain⟨_,_,_,_,o,_,_,e,_⟩:=x;exact aV e
 | set S n=>obtain⟨o,_,_,_,e,_⟩:=x;exact aV e
 | ins C dx fs=>obtain⟨_,_,_,e,_⟩:=x;exact aV e
 | own y=>obtain⟨_,e⟩:=x;exact aV e
 | xd fs=>obtain⟨_,⟨_,_,_,e,_⟩,_⟩:=x;exact aV e
 | rng lo hi=>obtain⟨_,_,_,e⟩:=x;exact aV e
 | frz ob u=>obtain⟨e,_⟩:=x;exact aV e
 | tbl ps=>exact aV (show h.get? a=some _ from x)
 | met f y=>exact aV (show h.get? a=some _ from x)
 | ext φ=>obtain⟨_,⟨_,e⟩,_⟩:=x;exact aV e
theorem Paired.Rc{α β:Type}{F G:α->β->Prop}:∀{l₁:List α}{l₂:List β},Paired F l₁ l₂->(∀a b,F a b->G a b)->Paired G l₁ l₂
 | _,_,.nil,_=>.nil
 | _,_,.cons r t,f=>.cons (f _ _ r)<|Paired.Rc t f
def jG.stay(x:jG P w H h a o)(k:∀b u,(b=a\/H b=some (.own a))->h.get? b=some u->h'.get? b=some u)
  (ho:∀b,H b=some (.own a)->H' b=some (.own a)) (ht:∀b xs,H b=some (.tup xs)->H' b=some (.tup xs)):jG P w H' h' a o:=by
 induction o with
 | lst xs=>obtain⟨z,its,n,r,e⟩:=x;exact⟨z,its,n,r,k _ _ (.inl rfl) e⟩
 | tup xs=>obtain⟨z,its,r,ob,e,c⟩:=x;exact⟨z,its,r,ob,k _ _ (.inl rfl) e,c⟩
 | dK kvs=>obtain⟨z,y,vs,r,ob,es,ep,e,c⟩:=x;exact⟨z,y,vs,r,ob,es,ep,k _ _ (.inl rfl) e,c⟩
 | dT kvs=>
  obtain⟨z,y,xs,r,ob,es,ep,e,c⟩:=x;exact⟨z,y,xs,Paired.Rc r λp q z=>⟨z.1,ht _ _ z.2.1,z.2.2⟩,ob,es,ep,k _ _ (.inl rfl) e,c⟩
 | set S n=>obtain⟨ob,es,ep,t,e,c⟩:=x;exact⟨ob,es,ep,t,k _ _ (.inl rfl) e,c⟩
 | ins C dx fs=>
  obtain⟨d,z,ne,e,mA,⟨od,es,ep,e2,c⟩,r⟩:=x;exact⟨ho _ d,z,ne,k _ _ (.inl rfl) e,mA,⟨od,es,ep,k _ _ (.inr d) e2,c⟩,r⟩
 | own y=>obtain⟨ob,e⟩:=x;exact⟨ob,k _ _ (.inl rfl) e⟩
 | xd fs=>obtain⟨mA,⟨od,es,ep,e,c⟩,r⟩:=x;exact⟨mA,⟨od,es,ep,k _ _ (.inl rfl) e,c⟩,r⟩
 | rng lo hi=>obtain⟨t,u,v,e⟩:=x;exact⟨t,u,v,k _ _ (.inl rfl) e⟩
 | frz ob u ih=>obtain⟨e,q⟩:=x;exact⟨k _ _ (.inl rfl) e,ih q⟩
 | tbl ps=>
  have e:h.get? a=some { cls:=.none,data:=.fields ps }:=x
  skip
  exact k a _ (.inl rfl) e
 | met f y=>
  have e:h.get? a=some (PySem.W.methodObj (.ref f)<|.ref y):=x
  skip
  exact k a _ (.inl rfl) e
 | ext φ=>obtain⟨p,⟨o,e⟩,st⟩:=x;exact⟨st _ _ p λo q=>k _ _ (.inl rfl) q,⟨o,k _ _ (.inl rfl) e⟩,st⟩
def rV.lt(x:rV P w H h)(e:H a=some o):a<h.objs.size:=(x a o e).lt
def rV.fresh(x:rV P w H h)(e:h.objs.size<=a):H a=none:=by
 cases q:H a with
 | none=>rfl
 | some u=>exact absurd (bH (x.lt q) e)<|dG _
def rV.kept(x:rV P w H h)(k:∀b u,h.get? b=some u->h'.get? b=some u):rV P w H h':=λa o e=>
 (x a o e).stay (λb u _ q=>k b u q) (λ_ q=>q) λ_ _ q=>q
def rV.laid(x:rV P w H h)(k:∀b u,h.get? b=some u->h'.get? b=some u)(hp:h.objs.size<=a)(new:jG P w (upd H a o) h' a o):rV P w (upd H a o) h':=λb u e=>by
 have hn:=x.fresh hp;by_cases hb:b=a
 ·subst hb;rw[ji]at e;cases e;exact new
 ·rw[iS hb]at e;exact(x b u e).stay (λc v _ q=>k c v q) (λc q=>by rw[iS<|i9 q hn];exact q) λc xs q=>by rw[iS<|i9 q hn];exact q
end
abbrev Rd (H:Hp)(a:ak)(u:HO):Prop:=H a=some u\/∃o,H a=some (.frz o u)
def Rd.ok{P:aj}{w:ah}{H:Hp}{a:ak}(r:Rd H a u)(x:rV P w H h):jG P w H h a u:=by
 rcases r with r|⟨o,r⟩
 ·exact x a u r
 ·obtain⟨_,q⟩:=x a _ r;exact q
abbrev Vx:Option HO->Prop
 | some (.lst _)=>True
 | some (.dK _)=>True
 | some (.dT _)=>True
 | some (.set _ _)=>True
 | some (.ins _ _ _)=>True
 | some (.ext _)=>True
 | _=>False
section
variable {P:aj}{w:ah}{H:Hp}{h h':aq}{x e:ak}{o':HO}
def rV.write(ok:rV P w H h)(mu:Vx<|H x)(he:e=x\/H e=some (.own x))(k:∀b u,b≠e->h.get? b=some u->h'.get? b=some u)(heo:∃u,h'.get? e=some u)
  (new:jG P w (upd H x o') h' x o'):rV P w (upd H x o') h':=λb u q=>by
 have nown:∀c y,H c=some (.own y)->c≠x:=λc y r z=>by subst z;rw[r]at mu;exact mu
 have ntup:∀c xs,H c=some (.tup xs)->c≠x:=λc xs r z=>by subst z;rw[r]at mu;exact mu
 by_cases hb:b=x
 ·subst hb;rw[ji]at q;cases q;exact new
 ·rw[iS hb]at q;by_cases hbe:b=e
  ·have q':H b=some (.own x):=by
    rcases he with z|z
    ·exact absurd (hbe.trans z) hb
    ·rw[hbe];exact z
   rw[q]at q';cases q';obtain⟨v,hv⟩:=heo;exact⟨v,by rw[hbe];exact hv⟩
  ·refine(ok b u q).stay (λc v hc r=>k c v ?_ r) (λc r=>by rw[iS<|nown c b r];exact r) λc xs r=>by rw[iS<|ntup c xs r];exact r
   rcases hc with rfl|hc
   ·exact hbe
   ·rintro rfl
    rcases he with z|z
    ·exact nown c b hc z
    ·rw[hc]at z;cases z;exact hb rfl
end
structure Un (fs ex:ar)(H H':Hp)(h h':aq):Prop where
 keep:∀b o,h.get? b=some o->H b=none->b∉fs->b∉ex->h'.get? b=some o
 slot:∀b o,h.get? b=some o->H b=none->b∈fs->b∉ex->∃sl,h'.get? b=some { o with slots:=sl }
 free:∀b o,h.get? b=some o->H b=none->b∉ex->H' b=none
 there:∀b o,h.get? b=some o->b∉ex->∃o',h'.get? b=some o'
 tups:∀b xs,H b=some (.tup xs)->H' b=some (.tup xs)
 frzs:∀b o u,H b=some (.frz o u)->H' b=some (.frz o u)
 tbls:∀b ps,H b=some (.tbl ps)->∃more,H' b=some (.tbl<|ps++more)
section
variable {fs ex:ar}{H H1:Hp}{h h1 h':aq}{a x e:ak}{o:HO}
def Un.any(u:Un fs ex H H1 h h1){ob:Obj}(q:h.get? b=some ob)(n:H b=none)(hx:b∉ex):∃sl,h1.get? b=some { ob with slots:=sl }:=by
 by_cases hb:b∈fs
 ·exact u.slot b ob q n hb hx
 ·exact⟨ob.slots,u.keep b ob q n hb hx⟩
def Un.kept(k:∀b u,h.get? b=some u->h'.get? b=some u):Un fs ex H H h h':=
 ⟨λb ob q _ _ _=>k b ob q,λb ob q _ _ _=>⟨ob.slots,k b ob q⟩,λ_ _ _ n _=>n,λb ob q _=>⟨ob,k b ob q⟩,λ_ _ q=>q,λ_ _ _ q=>q,λ_ ps q=>⟨#[],by rw[q];simp⟩⟩
def Un.refl:Un fs ex H H h h:=Un.kept λ_ _ q=>q
def Un.laid(k:∀b u,h.get? b=some u->h'.get? b=some u)(hp:h.objs.size<=a)(hn:H a=none):Un fs ex H (upd H a o) h h' where
 keep:=λb u q _ _ _=>k b u q
 slot:=λb u q _ _ _=>⟨u.slots,k b u q⟩
 free:=λb u q n _=>by rw[iS<|bu<|bH (aV q) hp];exact n
 there:=λb u q _=>⟨u,k b u q⟩
 tups:=λb xs q=>by rw[iS<|i9 q hn];exact q
 frzs:=λb u xs q=>by rw[iS<|i9 q hn];exact q
 tbls:=λb ps q=>⟨#[],by rw[iS<|i9 q hn,q];simp⟩
def Un.write(mu:Vx<|H x)(he:e=x\/H e=some (.own x))(k:∀b u,b≠e->h.get? b=some u->h'.get? b=some u)(heo:∃u,h'.get? e=some u):Un fs ex H (upd H x o) h h':=by
 have hx:∀b,H b=none->b≠x:=λb n z=>by subst z;rw[n]at mu;exact mu
 have hb:∀b,H b=none->b≠e:=λb n z=>by
  subst z
  rcases he with r|r
  ·exact hx b n r
  ·rw[n]at r;cases r
 have hm:∀b u,H b=some u->¬Vx (some u)->b≠x:=λb u q nm z=>by subst z;rw[q]at mu;exact nm mu
 refine⟨λb u q n _ _=>k b u (hb b n) q,λb u q n _ _=>⟨u.slots,k b u (hb b n) q⟩,λb u q n _=>by rw[iS<|hx b n];exact n,λb u q _=>?_,
  λb xs q=>by rw[iS<|hm b _ q λz=>z];exact q,λb u xs q=>by rw[iS<|hm b _ q λz=>z];exact q,λb ps q=>⟨#[],by rw[iS<|hm b _ q λz=>z,q];simp⟩⟩
 by_cases hbe:b=e
 ·subst hbe;exact heo
 ·exact⟨u,k b u hbe q⟩
end
abbrev Ww (h:aq)(H:Hp):ar:=(List.range h.objs.size).filter λa=>(H a).isSome
abbrev Ac (h:aq)(H:Hp):aq:=PySem.W.hideAll h<|Ww h H
def Hr(h:aq)(H:Hp):(Ac h H).objs.size=h.objs.size:=PySem.W.hideAll_size _ _
def L3{h:aq}{H:Hp}(e:h.get? b=some o)(n:H b=none):(Ac h H).get? b=some o:=
 dj _ e λhm=>by
  have q:(H b).isSome=true:=(dg.mp hm).2;rw[n]at q;simp at q
def N_{h:aq}{H:Hp}(e:(Ac h H).get? b=some o):h.get? b=some o/\H b=none:=by
 have e':h.get? b=some o:=d_ (Ww h H) e;refine⟨e',?_⟩
 cases q:H b with
 | none=>rfl
 | some x=>
  have hm:b∈Ww h H:=dg.mpr ⟨cV.mpr<|aV e',by simp[q]⟩;have z:(Ac h H).get? b=none:=PySem.W.hideAll_none (Ww h H) hm;rw[z]at e;cases e
abbrev NG (g h:aq)(L:ak):bj:=(List.range h.objs.size).filterMap λa=>if a=L\/(g.get? a).isSome=true then none else(h.get? a).map λo=>(a,o)
abbrev rest (g h:aq)(L d:ak):bj:=(NG g h L).filter λp=>decide<|p.1≠d
structure Mod (K:au)(mg:Str->ba)(base:aq):Prop where
 kin:K.In base
 glob:base.Ns mainGlobals mg
 blt:∃mb,base.Ns builtinsNs mb/\∀x:Str,x ≠ "__name__" -> mb x=bootBuiltins x
 nolimit:base.NoLimit
structure Cx where
 prog:aj
 w:ah
 K:au
 mg:Str->ba
 base:aq
 A:aA
 N:am
 s₀:aC
 H₀:Hp
 env:Env
 outer:List Env
 stack:List Env
 ex:ar
 fn:Str->Bool
 calm:Bool
 pn:bj
 xe:af->aC->Prop
abbrev frs (l:List Env):ar:=l.filterMap (·.frame)
meta abbrev Cx.fs (X:Cx):ar:=frs X.outer
abbrev UE (sc:Scope)(x:Str):Prop:=sc.names.lookup x=some .local\/sc.names.lookup x=some .cell\/sc.names.lookup x=some .free
abbrev Loc (sc:Scope)(x:Str):Prop:=sc.names.lookup x=some .local\/sc.names.lookup x=some .cell
abbrev Look (env:Env)(h:aq)(m:Str->ba)(x:Str)(u:af):Prop:=
 (env.kindOf x=some .local/\m x=some u)\/((env.kindOf x=some .cell\/env.kindOf x=some .free)/\∃c,env.cells.lookup x=some c/\h.IsCell c (some u))
structure Cx.Ok (X:Cx):Prop where
 mod:Mod X.K X.mg X.base
 kind:X.env.scope.kind=.function
 glob:X.env.globals=mainGlobals
 blt:X.env.builtins=builtinsNs
 above:X.s₀.heap.objs.size<=X.env.locals
 inj:∀x y c,X.env.cells.lookup x=some c->X.env.cells.lookup y=some c->x=y
 has:∀x,(X.env.kindOf x=some .cell\/X.env.kindOf x=some .free)->∃c,X.env.cells.lookup x=some c
 cab:∀x c,X.fn x=true->X.env.cells.lookup x=some c->X.s₀.heap.objs.size<=c
 hd:X.calm=true->X.A.handled=none
 frames:X.A.frames=some X.stack
 stk:X.stack=X.outer\/(X.stack=X.env::X.outer/\X.env.frame=some X.env.locals)
 exf:∀b∈X.ex,b≠X.env.locals/\∀x c,X.env.cells.lookup x=some c->c≠b
 bs:∀b o,X.base.get? b=some o->X.s₀.heap.get? b=some o/\X.H₀ b=none
 bsz:X.base.objs.size<=X.s₀.heap.objs.size
 noex:∀b o,X.base.get? b=some o->b∉X.ex
 exfs:∀b∈X.ex,b∉X.fs
 qp:X.s₀.heap.FunFrames X.base X.outer
 frf:∀b∈X.fs,X.H₀ b=none
structure Inv (X:Cx)(pins:bj)(σ:List (Option V))(H:Hp)(s:aC):Prop where
 ok:X.Ok
 os:s.os=X.s₀.os
 bare:AllBare s.gens
 base:Un X.fs X.ex X.H₀ H X.s₀.heap s.heap
 loc:∃m,s.heap.Ns X.env.locals m/\∀(i:Nat) (x:Str) (v:V),X.N[i]?=some x->σ[i]?=some (some v)->UE X.env.scope x->∃u,RelV v u/\Look X.env s.heap m x u
 cell:∀x c,X.env.cells.lookup x=some c->∃v,s.heap.IsCell c v
 free:H X.env.locals=none
 freeC:∀x c,X.env.cells.lookup x=some c->H c=none
 pin:∀p∈X.pn++pins,s.heap.get? p.1=some p.2/\H p.1=none/\p.1≠X.env.locals/\p.1∉X.fs/\∀v,p.2.data≠.cell v
 hok:rV X.prog X.w H s.heap
 len:σ.length=X.N.length
section
variable {X:Cx}{pins:bj}{σ:List (Option V)}{H H':Hp}{s:aC}{h':aq}
def Cx.Ok.WH(ok:X.Ok)(e:X.base.get? b=some o):b∉X.fs:=λhb=>by
 have:=(ok.qp.mem hb).1;rw[e]at this;cases this
def Inv.bs(I:Inv X pins σ H s):∀b o,X.base.get? b=some o->s.heap.get? b=some o/\H b=none:=λb o e=>
 ⟨I.base.keep b o (I.ok.bs b o e).1 (I.ok.bs b o e).2 (I.ok.WH e)<|I.ok.noex b o e,I.base.free b o (I.ok.bs b o e).1 (I.ok.bs b o e).2<|I.ok.noex b o e⟩
def Inv.bk(I:Inv X pins σ H s):∀b o,X.base.get? b=some o->s.heap.get? b=some o:=λb o e=>(I.bs b o e).1
def Inv.mod(I:Inv X pins σ H s):Mod X.K X.mg X.base:=I.ok.mod
def Inv.uZ(I:Inv X pins σ H s):X.K.In s.heap:=I.ok.mod.kin.keeps I.bk
def Inv.lt(I:Inv X pins σ H s):X.env.locals<s.heap.objs.size:=let⟨_,hn,_⟩:=I.loc;hn.lt
def Inv.sz(I:Inv X pins σ H s):X.s₀.heap.objs.size<=s.heap.objs.size:=bW I.ok.above<|iB I.lt
def Inv.XR(I:Inv X pins σ H s){a:ak}(h:s.heap.objs.size<=a):a∉X.fs:=λhb=>by
 obtain⟨_,o,ho,_⟩:=I.ok.qp.mem hb;exact absurd (bH (aV ho)<|bW I.sz h)<|dG _
def Inv.NR(I:Inv X pins σ H s):∀x c,X.env.cells.lookup x=some c->c≠X.env.locals:=λx c e z=>by
 obtain⟨v,o,ho,hd⟩:=I.cell x c e;obtain⟨m,⟨o',es,ep,ho',hd',_⟩,_⟩:=I.loc;rw[z,ho']at ho;cases ho;rw[hd']at hd;cases hd
def Inv.qp(I:Inv X pins σ H s):s.heap.FunFrames X.base X.outer:=by
 have all:∀(l:List Env),(∀b∈frs l,b∈X.fs)->X.s₀.heap.FunFrames X.base l->s.heap.FunFrames X.base l:=by
  intro l
  induction l with
  | nil=>intro _ _;trivial
  | cons env r ih=>
   intro hs hl;obtain⟨hk,⟨L,o,hf,hn,ho,hd⟩,hr⟩:=hl;have hL:L∈X.fs:=hs L (by unfold frs;rw[dZ,hf];exact aN);obtain⟨sl,e⟩:=I.base.slot L o ho (I.ok.frf L hL) hL λz=>I.ok.exfs L z hL;exact⟨hk,⟨L,_,hf,hn,e,hd⟩,ih (λb hb=>hs b<|by unfold frs;rw[dZ,hf];exact aQ _ hb) hr⟩
 exact all X.outer (λ_ hb=>hb) I.ok.qp
def Inv.stack(I:Inv X pins σ H s):s.heap.FunFrames X.base X.stack:=by
 rcases I.ok.stk with e|⟨e,hf⟩
 ·rw[e];exact I.qp
 ·rw[e];obtain⟨m,hn,_⟩:=I.loc;refine .cons (by rw[I.ok.kind];decide) hf hn ?_ I.qp;exact Heap.get?_none_of_le<|bW I.ok.bsz I.ok.above
def Inv.uG(I:Inv X pins σ H s):∀b∈frs X.stack,b∈X.env.locals::X.fs:=λb hb=>by
 rcases I.ok.stk with e|⟨e,hf⟩
 ·rw[e]at hb;exact aQ _ hb
 ·rw[e]at hb;unfold frs at hb;rw[dZ,hf]at hb;exact hb
def Inv.vF(I:Inv X pins σ H s):∀b∈frs X.stack,H b=none:=λb hb=>by
 rcases bB.mp (I.uG b hb)with e|hb
 ·rw[e];exact I.free
 ·obtain⟨_,o,ho,_⟩:=I.ok.qp.mem hb;exact I.base.free b o ho (I.ok.frf b hb) λz=>I.ok.exfs b z hb
def Inv.step{g':Array GenState}{t':Nat}{d':Drawn}{ch:ar}(I:Inv X pins σ H s)
  (hch:∀b∈ch,(b∈X.ex\/X.s₀.heap.objs.size<=b)/\b≠X.env.locals/\(∀x c,X.env.cells.lookup x=some c->c≠b)/\∀p∈X.pn++pins,p.1≠b)
  (keep:∀b o,b≠X.env.locals->b∉X.fs->b∉ch->s.heap.get? b=some o->H b=none->h'.get? b=some o)
  (slot:∀b o,b≠X.env.locals->b∈X.fs->b∉ch->s.heap.get? b=some o->H b=none->∃sl,h'.get? b=some { o with slots:=sl }) (free:∀b o,b∉ch->s.heap.get? b=some o->H b=none->H' b=none)
  (there:∀b o,b∉ch->s.heap.get? b=some o->∃o',h'.get? b=some o')
  (tups:∀b xs,H b=some (.tup xs)->H' b=some (.tup xs)) (frzs:∀b o u,H b=some (.frz o u)->H' b=some (.frz o u)) (tbls:∀b ps,H b=some (.tbl ps)->∃more,H' b=some (.tbl<|ps++more))
  (ns:∀m,s.heap.Ns X.env.locals m->h'.Ns X.env.locals m) (hok:rV X.prog X.w H' h') (hg:AllBare g') :
  Inv X pins σ H' { s with heap:=h',gens:=g',drawn:=d',toks:=t' }:=by
 have neL:∀b o,X.s₀.heap.get? b=some o->b≠X.env.locals:=λb o e=>bu<|bH (aV e) I.ok.above;have neC:∀b o,X.s₀.heap.get? b=some o->b∉X.ex->b∉ch:=λb o e hx hb=>by
  rcases(hch b hb).1 with z|z
  ·exact hx z
  ·exact absurd (bH (aV e) z)<|dG _
 have cellK:∀x c,X.env.cells.lookup x=some c->∀v,s.heap.IsCell c v->h'.IsCell c v:=λx c e v ⟨o,ho,hd⟩=>by
  have nch:c∉ch:=λz=>(hch c z).2.2.1 x c e rfl;by_cases hc:c∈X.fs
  ·obtain⟨sl,q⟩:=slot c o (I.NR x c e) hc nch ho<|I.freeC x c e;exact⟨_,q,hd⟩
  ·exact⟨o,keep c o (I.NR x c e) hc nch ho<|I.freeC x c e,hd⟩
 refine⟨I.ok,I.os,hg,⟨λb o e n hb hx=>?_,λb o e n hb hx=>?_,λb o e n hx=>?_,λb o e hx=>?_,λb xs e=>tups b xs<|I.base.tups b xs e,λb o xs e=>frzs b o xs<|I.base.frzs b o xs e,λb ps e=>?_⟩,?_,λx c e=>?_,?_,λx c e=>?_,λp hp=>?_,hok,I.len⟩
 ·exact keep b o (neL b o e) hb (neC b o e hx) (I.base.keep b o e n hb hx) (I.base.free b o e n hx)
 ·obtain⟨sl,e1⟩:=I.base.slot b o e n hb hx;obtain⟨sl',e2⟩:=slot b _ (neL b o e) hb (neC b o e hx) e1<|I.base.free b o e n hx;exact⟨sl',e2⟩
 ·obtain⟨o',e1⟩:=I.base.there b o e hx;exact free b o' (neC b o e hx) e1 (I.base.free b o e n hx)
 ·obtain⟨o',e1⟩:=I.base.there b o e hx;exact there b o' (neC b o e hx) e1
 ·obtain⟨m1,e1⟩:=I.base.tbls b ps e;obtain⟨m2,e2⟩:=tbls b _ e1;exact⟨m1++m2,by rw[e2,Array.append_assoc]⟩
 ·obtain⟨m,hn,hl⟩:=I.loc;refine⟨m,ns m hn,λi x v e1 e2 e3=>?_⟩;obtain⟨u,r,l⟩:=hl i x v e1 e2 e3;refine⟨u,r,?_⟩
  rcases l with l|⟨k,c,e,z⟩
  ·exact .inl l
  ·exact .inr ⟨k,c,e,cellK x c e _ z⟩
 ·obtain⟨v,z⟩:=I.cell x c e;exact⟨v,cellK x c e v z⟩
 ·obtain⟨m,⟨o,_,_,ho,_⟩,_⟩:=I.loc;exact free _ o (λz=>(hch _ z).2.1 rfl) ho I.free
 ·obtain⟨v,o,ho,hd⟩:=I.cell x c e;exact free c o (λz=>(hch c z).2.2.1 x c e rfl) ho (I.freeC x c e)
 ·obtain⟨e,n,ne,nf,d⟩:=I.pin p hp;have nch:p.1∉ch:=λz=>(hch p.1 z).2.2.2 p hp rfl;exact⟨keep p.1 p.2 ne nf nch e n,free p.1 p.2 nch e n,ne,nf,d⟩
def Inv.un{t':Nat}(I:Inv X pins σ H s)(u:Un X.fs [] H H' s.heap h')(hok:rV X.prog X.w H' h'):Inv X pins σ H' { s with heap:=h',toks:=t' }:=by
 obtain⟨m,⟨o,es,ep,ho,r⟩,_⟩:=id I.loc;obtain⟨sl,hL⟩:=u.any ho I.free (by simp);exact I.step (g':=s.gens) (d':=s.drawn) (ch:=[]) (nofun) (λb o _ hb _ e n=>u.keep b o e n hb<|by simp) (λb o _ hb _ e n=>u.slot b o e n hb<|by simp) (λb o _ e n=>u.free b o e n<|by simp) (λb o _ e=>u.there b o e<|by simp) u.tups u.frzs u.tbls (λm' hm=>by
  obtain⟨o',es',ep',ho',r'⟩:=hm;rw[ho]at ho';cases ho';exact⟨_,es',ep',hL,r'⟩) hok I.bare
def Inv.call{g':Array GenState}{t':Nat}{d':Drawn}{ch:ar}(I:Inv X pins σ H s)(u:Un (frs X.stack) ch H H' s.heap h')(hok:rV X.prog X.w H' h')(hg:AllBare g')
  (hch:∀b∈ch,(b∈X.ex\/X.s₀.heap.objs.size<=b)/\b≠X.env.locals/\(∀x c,X.env.cells.lookup x=some c->c≠b)/\∀p∈X.pn++pins,p.1≠b) :
  Inv X pins σ H' { s with heap:=h',gens:=g',drawn:=d',toks:=t' }:=by
 obtain⟨m,⟨o,es,ep,ho,r⟩,_⟩:=id I.loc;obtain⟨sl,hL⟩:=u.any ho I.free λz=>(hch _ z).2.1 rfl;exact I.step (ch:=ch) hch (λb o hL hb hc e n=>u.keep b o e n (λz=>(bB.mp<|I.uG b z).elim hL hb) hc) (λb o _ _ hc e n=>u.any e n hc) (λb o hc e n=>u.free b o e n hc) (λb o hc e=>u.there b o e hc) u.tups u.frzs u.tbls (λm' hm=>by
  obtain⟨o',es',ep',ho',r'⟩:=hm;rw[ho]at ho';cases ho';exact⟨_,es',ep',hL,r'⟩) hok hg
def Inv.turned{t':Nat}{it:ak}(I:Inv X pins σ H s)(k:∀b o,b≠it->s.heap.get? b=some o->h'.get? b=some o)(hn:H it=none)(hL:it≠X.env.locals)
  (h1:it∈X.ex\/X.s₀.heap.objs.size<=it) (h2:∀x c,X.env.cells.lookup x=some c->c≠it) (h3:∀p∈X.pn++pins,p.1≠it):Inv X pins σ H { s with heap:=h',toks:=t' }:=by
 have nit:∀b u,H b=some u->b≠it:=λb u e z=>by rw[z,hn]at e;cases e
 refine I.step (g':=s.gens) (d':=s.drawn) (ch:=[it]) (λb hb=>?_) (λb o _ _ hc e _=>k b o (λz=>hc<|by simp[z]) e) (λb o _ _ hc e _=>⟨o.slots,k b o (λz=>hc<|by simp[z]) e⟩) (λ_ _ _ _ n=>n)
  (λb o hc e=>⟨o,k b o (λz=>hc<|by simp[z]) e⟩) (λ_ _ e=>e) (λ_ _ _ e=>e) (λb ps e=>⟨#[],by rw[e];simp⟩) (λm hm=>?_) (λb u e=>?_) I.bare
 ·have e:b=it:=by simpa using hb
  subst e;exact⟨h1,hL,h2,h3⟩
 ·obtain⟨o,es,ep,ho,r⟩:=hm;exact⟨o,es,ep,k _ o (cN hL) ho,r⟩
 ·refine(I.hok b u e).stay (λc v hc q=>k c v ?_ q) (λ_ q=>q) λ_ _ q=>q
  rcases hc with z|z
  ·rw[z];exact nit b u e
  ·exact nit c _ z
def Inv.tok(I:Inv X pins σ H s)(t:Nat):Inv X pins σ H { s with toks:=t }:=I.un (h':=s.heap) (t':=t) Un.refl I.hok
def Inv.kept{t':Nat}(I:Inv X pins σ H s)(k:∀b u,s.heap.get? b=some u->h'.get? b=some u):Inv X pins σ H { s with heap:=h',toks:=t' }:=I.un (Un.kept k)<|I.hok.kept k
def Inv.laid{a:ak}{t':Nat}(I:Inv X pins σ H s)(k:∀b u,s.heap.get? b=some u->h'.get? b=some u)(hp:s.heap.objs.size<=a)(new:jG X.prog X.w (upd H a o) h' a o) :
  Inv X pins σ (upd H a o) { s with heap:=h',toks:=t' }:=I.un (Un.laid k hp<|I.hok.fresh hp)<|I.hok.laid k hp new
def Inv.write{x e:ak}{t':Nat}(I:Inv X pins σ H s)(mu:Vx<|H x)(he:e=x\/H e=some (.own x))(k:∀b u,b≠e->s.heap.get? b=some u->h'.get? b=some u)(heo:∃u,h'.get? e=some u)
  (new:jG X.prog X.w (upd H x o) h' x o):Inv X pins σ (upd H x o) { s with heap:=h',toks:=t' }:=I.un (Un.write mu he k heo)<|I.hok.write mu he k heo new
def Inv.Fi{pins':bj}(I:Inv X pins σ H s)(h:∀p∈pins',s.heap.get? p.1=some p.2/\H p.1=none/\p.1≠X.env.locals/\p.1∉X.fs/\∀v,p.2.data≠.cell v):Inv X pins' σ H s:=
 ⟨I.ok,I.os,I.bare,I.base,I.loc,I.cell,I.free,I.freeC,λp hp=>(bF.mp hp).elim (λz=>I.pin p<|bR _ z)<|h p,I.hok,I.len⟩
def wV{N:am}(hN:N.Nodup){i j:Nat}{x:Str}(a:N[i]?=some x)(b:N[j]?=some x):i=j:=by
 obtain⟨h1,e1⟩:=aI.mp a;obtain⟨h2,e2⟩:=aI.mp b;exact(cZ hN).mp (e1.trans e2.symm)
def HV{A:aA}{E:af->aC->Prop}{i:Nat}{x:Str}{v:V}{Q:Unit->aC->Prop}(I:Inv X pins σ H s)(hN:X.N.Nodup)(hi:X.N[i]?=some x)(hx:Loc X.env.scope x)(r:RelV v u)
  (h:∀s',Inv X pins (σ.set i<|some v) H s'->(∃a,Heap.SameBut a s.heap s'.heap/\(a=X.env.locals\/X.env.cells.lookup x=some a))->Q Unit.unit s') (hf:X.fn x=true\/X.env.scope.names.lookup x=some .local:=by first|exact .inl rfl|exact .inr rfl|assumption):wpAny M A (storeName X.env x u) Q E s:=by
 obtain⟨m,hn,hl⟩:=id I.loc;have hcls:(X.env.scope.kind == .class || (X.env.scope.kind == .module && X.env.locals != X.env.globals))=false:=by rw[I.ok.kind];rfl
 have hiσ:i<σ.length:=by rw[I.len];exact(aI.mp hi).1
 have NR:=I.NR;have tracked:∀{a:ak} {h':aq},(∃o,s.heap.get? a=some o/\H a=none)->Heap.SameBut a s.heap h'->rV X.prog X.w H h':=λ{a h'} ha hs b ob e=>by
  obtain⟨_,_,hfree⟩:=ha;refine(I.hok b ob e).stay (λc w' hc q=>(hs.2 c ?_).trans q) (λ_ q=>q) λ_ _ q=>q;rintro rfl
  rcases hc with rfl|hc
  ·rw[hfree]at e;cases e
  ·rw[hfree]at hc;cases hc
 rcases hx with hk|hk
 ·refine wpAny_storeName_local hk hn (λh' hn' hs=>?_) hcls;obtain⟨oL,_,_,hoL,_⟩:=id hn;refine h _ ⟨I.ok,I.os,I.bare,⟨λb o e n hb hx=>?_,λb o e n hb hx=>?_,I.base.free,λb o e hx=>?_,I.base.tups,I.base.frzs,I.base.tbls⟩,⟨_,hn',λj y v' e1 e2 e3=>?_⟩,λy c e=>?_,I.free,I.freeC,λp hp=>?_,tracked ⟨oL,hoL,I.free⟩ hs,by simpa using I.len⟩ ⟨_,hs,.inl rfl⟩
  ·exact(hs.2 b<|bu<|bH (aV e) I.ok.above).trans (I.base.keep b o e n hb hx)
  ·obtain⟨sl,e1⟩:=I.base.slot b o e n hb hx;exact⟨sl,(hs.2 b<|bu<|bH (aV e) I.ok.above).trans e1⟩
  ·obtain⟨o',e1⟩:=I.base.there b o e hx;exact⟨o',(hs.2 b<|bu<|bH (aV e) I.ok.above).trans e1⟩
  ·by_cases hj:j=i
   ·subst hj;rw[hi]at e1;cases e1;rw[bI hiσ]at e2
    cases e2
    exact⟨u,r,.inl ⟨hk,by simp⟩⟩
   ·rw[bP<|cN hj]at e2;obtain⟨u',r',q⟩:=hl j y v' e1 e2 e3;refine⟨u',r',?_⟩
    rcases q with⟨k,e⟩|⟨k,c,e,z⟩
    ·refine .inl ⟨k,?_⟩;have:y≠x:=λe=>hj<|wV hN e1<|e ▸ hi;simp[this,e]
    ·exact .inr ⟨k,c,e,z.sameBut hs<|NR y c e⟩
  ·obtain⟨w',z⟩:=I.cell y c e;exact⟨w',z.sameBut hs<|NR y c e⟩
  ·obtain⟨e,n,ne,nf,d⟩:=I.pin p hp;exact⟨(hs.2 p.1 ne).trans e,n,ne,nf,d⟩
 ·have hfn:X.fn x=true:=by
   rcases hf with z|z
   ·exact z
   ·rw[z]at hk;cases hk
  obtain⟨c,hc⟩:=I.ok.has x<|.inl hk;obtain⟨w',z⟩:=I.cell x c hc;refine wpAny_storeName_cell I.ok.kind hk hc z λh' hc' hs=>?_;obtain⟨oc,hoc,hocd⟩:=id z;refine h { s with heap:=h' } ⟨I.ok,I.os,I.bare,⟨λb o e n hb hx=>?_,λb o e n hb hx=>?_,I.base.free,λb o e hx=>?_,I.base.tups,I.base.frzs,I.base.tbls⟩,⟨m,hn.sameBut hs<|cN<|NR x c hc,λj y v' e1 e2 e3=>?_⟩,λy c' e=>?_,I.free,I.freeC,λp hp=>?_,tracked ⟨oc,hoc,I.freeC x c hc⟩ hs,by simpa using I.len⟩ ⟨c,hs,.inr hc⟩
  ·exact(hs.2 b<|bu<|bH (aV e)<|I.ok.cab x c hfn hc).trans (I.base.keep b o e n hb hx)
  ·obtain⟨sl,e1⟩:=I.base.slot b o e n hb hx;exact⟨sl,(hs.2 b<|bu<|bH (aV e)<|I.ok.cab x c hfn hc).trans e1⟩
  ·obtain⟨o',e1⟩:=I.base.there b o e hx;exact⟨o',(hs.2 b<|bu<|bH (aV e)<|I.ok.cab x c hfn hc).trans e1⟩
  ·by_cases hj:j=i
   ·subst hj;rw[hi]at e1;cases e1;rw[bI hiσ]at e2
    cases e2
    exact⟨u,r,.inr ⟨.inl hk,c,hc,hc'⟩⟩
   ·rw[bP<|cN hj]at e2;obtain⟨u',r',q⟩:=hl j y v' e1 e2 e3;refine⟨u',r',?_⟩
    rcases q with q|⟨k,c',e,z'⟩
    ·exact .inl q
    ·refine .inr ⟨k,c',e,z'.sameBut hs ?_⟩;rintro rfl;exact hj<|wV hN e1<|I.ok.inj _ _ _ e hc ▸ hi
  ·by_cases hcc:c'=c
   ·subst hcc;exact⟨_,hc'⟩
   ·obtain⟨w2,z2⟩:=I.cell y c' e;exact⟨w2,z2.sameBut hs hcc⟩
  ·obtain⟨e,n,ne,nf,d⟩:=I.pin p hp;refine⟨(hs.2 p.1 ?_).trans e,n,ne,nf,d⟩;intro q;rw[q,hoc]at e;have q':oc=p.2:=aS e;exact d w'<|by rw[<- q'];exact hocd
def q_{A:aA}{E:af->aC->Prop}{i:Nat}{x:Str}{v:V}{Q:Unit->aC->Prop}(I:Inv X pins σ H s)(hN:X.N.Nodup)(hi:X.N[i]?=some x)(hx:Loc X.env.scope x)(r:RelV v u)
  (h:∀s',Inv X pins (σ.set i<|some v) H s'->Q Unit.unit s') (hf:X.fn x=true\/X.env.scope.names.lookup x=some .local:=by first|exact .inl rfl|exact .inr rfl|assumption):wpAny M A (storeName X.env x u) Q E s:=
 HV I hN hi hx r (λs' I' _=>h s' I') hf
def Inv.J6{s':aC}{ch:ar}(I:Inv X pins σ H s)(ho:s'.os=s.os)(u:Un (frs X.stack) ch H H' s.heap s'.heap)(hok:rV X.prog X.w H' s'.heap)(hg:AllBare s'.gens)
  (hch:∀b∈ch,(b∈X.ex\/X.s₀.heap.objs.size<=b)/\b≠X.env.locals/\(∀x c,X.env.cells.lookup x=some c->c≠b)/\∀p∈X.pn++pins,p.1≠b):Inv X pins σ H' s':=by
 obtain⟨h',g',d',t',o'⟩:=s';have e:o'=s.os:=ho;subst e;exact I.call (g':=g') (t':=t') (d':=d') u hok hg hch
end
meta abbrev XK:=af->Option ak->Hp->Prop
meta abbrev St:=List<|Option V
meta abbrev VK:=V->Hp->Prop
meta abbrev TE:=St->Hp->VK->Prop
meta abbrev TT:=St->Hp->(Bool->Hp->Prop)->Prop
meta abbrev TA:=St->Hp->(List V->Hp->Prop)->Prop
structure Ends where
 nx:St->Hp->Prop
 rt:VK
 bk:St->Hp->Prop:=λ_ _=>False
 ct:St->Hp->Prop:=λ_ _=>False
meta abbrev TS:=Ends->St->Hp->Prop
abbrev EP (X:Cx)(pins:bj)(σ:St)(Q:VK)(u:af)(s':aC):Prop:=∃v H',Inv X pins σ H' s'/\RelV v u/\Q v H'
abbrev TP (X:Cx)(pins:bj)(σ:St)(Q:Bool->Hp->Prop)(b:Bool)(s':aC):Prop:=∃H',Inv X pins σ H' s'/\Q b H'
abbrev AP (X:Cx)(pins:bj)(σ:St)(Q:List V->Hp->Prop)(us:ap)(s':aC):Prop:=∃vs H',Inv X pins σ H' s'/\Vals vs us/\Q vs H'
abbrev SP (X:Cx)(pins:bj)(D:Ends)(f:Flow)(s':aC):Prop:=
 match f with
 | .next=>∃σ' H',Inv X pins σ' H' s'/\D.nx σ' H'
 | .brk=>∃σ' H',Inv X pins σ' H' s'/\D.bk σ' H'
 | .cont=>∃σ' H',Inv X pins σ' H' s'/\D.ct σ' H'
 | .ret u=>∃v σ' H',Inv X pins σ' H' s'/\RelV v u/\D.rt v H'
abbrev PE (X:Cx)(e:aE)(t:TE):Prop:=
 ∀(pins:bj) (s:aC) (σ:St) (H:Hp) (Q:VK),Inv X pins σ H s->t σ H Q->wpAny (model X.prog X.w) X.A (eval e X.env) (EP X pins σ Q) X.xe s
abbrev PT (X:Cx)(e:aE)(t:TT):Prop:=
 ∀(pins:bj) (s:aC) (σ:St) (H:Hp) (Q:Bool->Hp->Prop),Inv X pins σ H s->t σ H Q->wpAny (model X.prog X.w) X.A (isTrue e X.env<|eval e X.env) (TP X pins σ Q) X.xe s
abbrev PW (X:Cx)(e:aE)(t:TT):Prop:=
 ∀(whole:Sem af) (pins:bj) (s:aC) (σ:St) (H:Hp) (Q:Bool->Hp->Prop),Inv X pins σ H s->t σ H Q->wpAny (model X.prog X.w) X.A (isTrue e X.env whole) (TP X pins σ Q) X.xe s
abbrev PA (X:Cx)(es:List aE)(t:TA):Prop:=
 ∀(pos:Pos) (pins:bj) (s:aC) (σ:St) (H:Hp) (Q:List V->Hp->Prop),Inv X pins σ H s->t σ H Q->wpAny (model X.prog X.w) X.A (spliced<|backTo pos<|starEach es X.env) (AP X pins σ Q) X.xe s
abbrev PS (X:Cx)(st:aF)(t:TS):Prop:=
 ∀(pins:bj) (s:aC) (σ:St) (H:Hp) (D:Ends),Inv X pins σ H s->t D σ H->wpAny (model X.prog X.w) X.A (exec st X.env) (SP X pins D) X.xe s
abbrev yw (X:Cx)(st:List aF)(t:TS):Prop:=
 ∀(pins:bj) (s:aC) (σ:St) (H:Hp) (D:Ends),Inv X pins σ H s->t D σ H->wpAny (model X.prog X.w) X.A (execs st X.env) (SP X pins D) X.xe s
def j3{α:Type}{t:Sem α}{Q Q':α->aC->Prop}{A:aA}{E:af->aC->Prop}(h:wpAny M A t Q E s)(hQ:∀a s,Q a s->Q' a s):wpAny M A t Q' E s:=cJ h hQ λ_ _ x=>x
section
variable {X:Cx}
abbrev Vj (i:Nat):TE:=λσ H Q=>∃v,σ[i]?=some (some v)/\Q v H
abbrev tC (v:V):TE:=λ_ H Q=>Q v H
def JZ{i:Nat}{x:Str}(hN:X.N[i]?=some x)(hv:UE X.env.scope x)(hd:(x == ("__debug__" : Str))=false:=by decide)(hcd:(x == ("__classdict__" : Str))=false:=by decide):PE X (.Name x pos) (Vj i):=by
 kd_p;obtain⟨v,e,h⟩:=h;obtain⟨m,hn,hl⟩:=I.loc;obtain⟨u,r,l⟩:=hl i x v hN e hv;have fin:EP X pins σ Q u s:=⟨v,H,I,r,h⟩
 rcases l with⟨hk,hm⟩|⟨hk,c,hc,hcell⟩
 ·exact wpAny_Name (wpAny_loadName_local I.ok.kind hk hn hm fin) hd
 ·rcases hk with hk|hk
  ·exact wpAny_Name (wpAny_loadName_cell I.ok.kind hk hc hcell fin) hd
  ·exact wpAny_Name (wpAny_loadName_free I.ok.kind hk hc hcell fin hcd) hd
def SI{i j pos}:PE X (.Constant (.int i) j pos) (tC<|.int i):=λ_ _ _ H _ I h=>wpAny_Constant_int ⟨.int i,H,I.tok _,⟨_,rfl⟩,h⟩
def VZ{b j pos}:PE X (.Constant (.bool b) j pos) (tC<|.bl b):=λ_ _ _ H _ I h=>Constant_bool ⟨.bl b,H,I,rfl,h⟩
def Td{j pos}:PE X (.Constant .none j pos) (tC .non):=λ_ _ _ H _ I h=>Constant_none ⟨.non,H,I,rfl,h⟩
def MZ{x j pos}:PE X (.Constant (.str x) j pos) (tC<|.str x):=λ_ _ _ H _ I h=>Calls.Constant_str ⟨.str x,H,I.tok _,⟨_,rfl⟩,h⟩
abbrev Gl (X:Cx)(x:Str):Prop:=X.env.kindOf x=some .globalImplicit
def rQ{E:af->aC->Prop}{H:Hp}{x:Str}{Q:af->aC->Prop}(I:Inv X pins σ H s)(hg:Gl X x)(hm:X.mg x=some u)(h:Q u s)
  (hd:(x == ("__debug__" : Str))=false:=by decide):wpAny (model X.prog X.w) X.A (eval (.Name x pos) X.env) Q E s:=
 Calls.Name_function_global I.ok.kind hg (Calls.loadGlobal_global (by rw[I.ok.glob];exact I.mod.glob.keeps I.bk) hm h) hd
def uA{E:af->aC->Prop}{H:Hp}{x:Str}{Q:af->aC->Prop}(I:Inv X pins σ H s)(hg:Gl X x)(hm:X.mg x=none)(hv:bootBuiltins x=some u)(h:Q u s)
  (hn:x ≠ "__name__" := by decide) (hd:(x == ("__debug__" : Str))=false:=by decide):wpAny (model X.prog X.w) X.A (eval (.Name x pos) X.env) Q E s:=by
 obtain⟨mb,h1,h2⟩:=I.mod.blt;exact Calls.Name_function_global I.ok.kind hg (Calls.loadGlobal_builtin (by rw[I.ok.glob];exact I.mod.glob.keeps I.bk) hm (by rw[I.ok.blt];exact h1.keeps I.bk) ((h2 x hn).trans hv) h) hd
def Gg{x:Str}{v:V}(hg:Gl X x)(hm:X.mg x=some u)(r:RelV v u)(hd:(x == ("__debug__" : Str))=false:=by decide):PE X (.Name x pos) (tC v):=
 λ_ _ _ H _ I h=>rQ I hg hm ⟨v,H,I,r,h⟩ hd
def EN{x:Str}{v:V}(hg:Gl X x)(hm:X.mg x=none)(hv:bootBuiltins x=some u)(r:RelV v u)(hn:x ≠ "__name__" := by decide)(hd:(x == ("__debug__" : Str))=false:=by decide):PE X (.Name x pos) (tC v):=
 λ_ _ _ H _ I h=>uA I hg hm hv ⟨v,H,I,r,h⟩ hn hd
variable {a b:aE}{ta tb:TE}{pos:Pos}
variable {tA tB':TT}{rest:List aE}
abbrev Wn (t u:TT):TT:=λσ H Q=>t σ H λc H1=>if c=true then u σ H1 Q else Q false H1
abbrev Ys (t u:TT):TT:=λσ H Q=>t σ H λc H1=>if c=true then Q true H1 else u σ H1 Q
abbrev WV (t:TT):TT:=λσ H Q=>t σ H λc H1=>Q (!c) H1
def OE(ha:PT X a tA):PW X (.BoolOp .And [a] pos) tA:=by
 intro wh pins s σ H Q I h;refine isTrue_and (j3 (ha pins s σ H Q I h) λc s1 e=>?_)
 cases c with
 | true=>exact isTrue_and_nil e
 | false=>exact e
def RM(ha:PT X a tA):PW X (.BoolOp .Or [a] pos) tA:=by
 intro wh pins s σ H Q I h;refine isTrue_or (j3 (ha pins s σ H Q I h) λc s1 e=>?_)
 cases c with
 | false=>exact isTrue_or_nil e
 | true=>exact e
def TU(ha:PT X a tA)(hb:PW X (.BoolOp .And (b::rest) pos) tB'):PW X (.BoolOp .And (a::b::rest) pos) (Wn tA tB'):=by
 intro wh pins s σ H Q I h;refine isTrue_and (j3 (ha pins s σ H _ I h) λc s1 ⟨H1,I1,q1⟩=>?_)
 cases c with
 | true=>exact hb wh pins s1 σ H1 Q I1 q1
 | false=>exact⟨H1,I1,q1⟩
def VG(ha:PT X a tA)(hb:PW X (.BoolOp .Or (b::rest) pos) tB'):PW X (.BoolOp .Or (a::b::rest) pos) (Ys tA tB'):=by
 intro wh pins s σ H Q I h;refine isTrue_or (j3 (ha pins s σ H _ I h) λc s1 ⟨H1,I1,q1⟩=>?_)
 cases c with
 | true=>exact⟨H1,I1,q1⟩
 | false=>exact hb wh pins s1 σ H1 Q I1 q1
def Q_(ha:PT X a tA):PT X (.UnaryOp .Not a pos) (WV tA):=by
 kd_p;exact isTrue_not<|ha pins s σ H (λc H1=>Q (!c) H1) I h
abbrev Vu (ta tb:TE):TE:=λσ H Q=>ta σ H λx H1=>∃c,x=.bl c/\if c=true then tb σ H1 Q else Q (.bl false) H1
abbrev Wb (ta:TE):TE:=λσ H Q=>ta σ H λx H1=>∃c,x=.bl c/\Q (.bl<|!c) H1
def TY{op}{t:TE}(h:PE X a t):PE X (.BoolOp op [a] pos) t:=λpins s σ H Q I hw=>BoolOp_one<|h pins s σ H Q I hw
def Uj(ha:PE X a ta)(hb:PE X (.BoolOp .And (b::rest) pos) tb):PE X (.BoolOp .And (a::b::rest) pos) (Vu ta tb):=by
 kd_p;refine BoolOp_and<|j3 (ha pins s σ H _ I h) λv s1 ⟨x,H1,I1,r1,q1⟩=>?_;obtain⟨c,rfl,q1⟩:=q1
 cases r1
 refine c9 ?_
 cases c with
 | true=>exact hb pins s1 σ H1 Q I1 q1
 | false=>exact⟨.bl false,H1,I1,rfl,q1⟩
def Se(ha:PE X a ta):PE X (.UnaryOp .Not a pos) (Wb ta):=by
 kd_p;refine UnaryOp_<|j3 (ha pins s σ H _ I h) λv s1 ⟨x,H1,I1,r1,q1⟩=>?_;obtain⟨c,rfl,q1⟩:=q1
 cases r1
 exact not_of<|c9 ⟨.bl<|!c,H1,I1,rfl,q1⟩
end
abbrev mP (K:au)(H:Hp)(a:ak)(xs:List V):Prop:=
 Rd H a (.lst xs) \/
  ∃(o:Obj) (its:Array af) (n:Nat),K.lookup a=some o/\o.cls=.type "list" /\ o.dict=none/\o.data=.seq its n/\its.size<=sizeLine/\Vals xs its.toList
abbrev nk (K:au)(H:Hp)(a:ak)(xs:List V):Prop:=
 Rd H a (.tup xs) \/
  ∃(o:Obj) (its:Array af) (n:Nat),K.lookup a=some o/\o.cls=.type "tuple" /\ o.dict=none/\o.data=.seq its n/\its.size<=sizeLine/\Vals xs its.toList
abbrev Xo:af->Option V
 | .none=>some .non
 | .bool b=>some (.bl b)
 | .int i _=>some (.int i)
 | .str x _=>some (.str x)
 | .bytes b _=>some (.byt b)
 | .float b _=>some (.flt b)
 | .ref a=>some (.ref a)
 | .type n=>some (.ty n)
 | _=>none
def RelV.abs{x:V}(r:RelV x u):Xo u=some x:=by
 cases x with
 | non=>cases r;rfl
 | bl _=>cases r;rfl
 | int _=>obtain⟨t,rfl⟩:=r;rfl
 | str _=>obtain⟨t,rfl⟩:=r;rfl
 | byt _=>obtain⟨t,rfl⟩:=r;rfl
 | flt _=>obtain⟨t,rfl⟩:=r;rfl
 | ref _=>cases r;rfl
 | ty _=>cases r;rfl
def RelV.inj{x:V}(r:RelV x u)(q:RelV y u):x=y:=aS<|r.abs.symm.trans q.abs
theorem Vals.inj:∀{xs ys:List V}{us:ap},Vals xs us->Vals ys us->xs=ys
 | _,_,_,.nil,.nil=>rfl
 | _,_,_,.cons r t,.cons r' t'=>by rw[r.inj r',Vals.inj t t']
section
variable {X:Cx}{pins:bj}{σ:St}{H:Hp}{s:aC}{a:ak}{xs ys:List V}
def mP.of{K:au}(h:H a=some (.lst xs)):mP K H a xs:=.inl<|.inl h
def nk.of{K:au}(h:H a=some (.tup xs)):nk K H a xs:=.inl<|.inl h
def Inv.list(I:Inv X pins σ H s)(h:mP X.K H a xs):∃its:ap,Vals xs its/\PlainL s.heap a its.toArray/\xs.length<=sizeLine:=by
 rcases h with h|⟨o,its,n,hk,hc,hd,hs,hz,r⟩
 ·obtain⟨z,its,n,r,e⟩:=h.ok I.hok;exact⟨its,r,⟨_,n,e,rfl,rfl,rfl⟩,z⟩
 ·refine⟨its.toList,r,⟨o,n,I.uZ a o hk,hc,hd,by simpa using hs⟩,?_⟩;have e:=r.length;dsimp[cL]at e
  lia
def Inv.tuple(I:Inv X pins σ H s)(h:nk X.K H a xs):∃its:ap,Vals xs its/\IsTup s.heap a its.toArray/\xs.length<=sizeLine:=by
 rcases h with h|⟨o,its,n,hk,hc,_,hs,hz,r⟩
 ·obtain⟨z,its,r,p⟩:=h.ok I.hok;exact⟨its,r,p.tup,z⟩
 ·refine⟨its.toList,r,⟨o,I.uZ a o hk,hc,n,by simpa using hs⟩,?_⟩;have e:=r.length;dsimp[cL]at e
  lia
def Inv.xG(I:Inv X pins σ H s)(h:mP X.K H a xs)(h':mP X.K H a ys):xs=ys:=by
 obtain⟨its,r,⟨o,n,e,_,_,d⟩,_⟩:=I.list h;obtain⟨its',r',⟨o',n',e',_,_,d'⟩,_⟩:=I.list h';rw[e]at e';cases e';rw[d]at d'
 injection d' with d1 _
 have:its=its':=by simpa using c6 Array.toList d1
 subst this;exact r.inj r'
def Inv.yQ(I:Inv X pins σ H s)(h:nk X.K H a xs)(h':nk X.K H a ys):xs=ys:=by
 obtain⟨its,r,⟨o,e,_,n,d⟩,_⟩:=I.tuple h;obtain⟨its',r',⟨o',e',_,n',d'⟩,_⟩:=I.tuple h';rw[e]at e';cases e';rw[d]at d'
 injection d' with d1 _
 have:its=its':=by simpa using c6 Array.toList d1
 subst this;exact r.inj r'
end
meta abbrev Cx.yo (X:Cx)(E:af->aC->Prop):Cx:={ X with xe:=E }
meta abbrev Cx.VD (X:Cx):Cx:=X.yo λ_ _=>False
def Cx.Ok.yo{X:Cx}(ok:X.Ok)(E:af->aC->Prop):(X.yo E).Ok:=
 ⟨ok.mod,ok.kind,ok.glob,ok.blt,ok.above,ok.inj,ok.has,ok.cab,ok.hd,ok.frames,ok.stk,ok.exf,ok.bs,ok.bsz,ok.noex,ok.exfs,ok.qp,ok.frf⟩
def Cx.Ok.qX{X:Cx}{E:af->aC->Prop}(ok:(X.yo E).Ok):X.Ok:=
 ⟨ok.mod,ok.kind,ok.glob,ok.blt,ok.above,ok.inj,ok.has,ok.cab,ok.hd,ok.frames,ok.stk,ok.exf,ok.bs,ok.bsz,ok.noex,ok.exfs,ok.qp,ok.frf⟩
section
variable {X:Cx}{pins:bj}{σ:St}{H:Hp}{s:aC}{E:af->aC->Prop}
def Inv.yo(I:Inv X pins σ H s)(E:af->aC->Prop):Inv (X.yo E) pins σ H s:=⟨I.ok.yo E,I.os,I.bare,I.base,I.loc,I.cell,I.free,I.freeC,I.pin,I.hok,I.len⟩
def Inv.qX(I:Inv (X.yo E) pins σ H s):Inv X pins σ H s:=⟨I.ok.qX,I.os,I.bare,I.base,I.loc,I.cell,I.free,I.freeC,I.pin,I.hok,I.len⟩
def SP.qX{D:Ends}{f:Flow}(h:SP (X.yo E) pins D f s'):SP X pins D f s':=by
 cases f with
 | next=>obtain⟨σ',H',I,q⟩:=h;exact⟨σ',H',I.qX,q⟩
 | brk=>obtain⟨σ',H',I,q⟩:=h;exact⟨σ',H',I.qX,q⟩
 | cont=>obtain⟨σ',H',I,q⟩:=h;exact⟨σ',H',I.qX,q⟩
 | ret u=>obtain⟨v,σ',H',I,r,q⟩:=h;exact⟨v,σ',H',I.qX,r,q⟩
def yw.VD{st:List aF}{t:TS}(h:yw X.VD st t):yw X st t:=λpins s σ H D I hw=>
 cJ (h pins s σ H D (I.yo _) hw) (λ_ _ q=>q.qX) λ_ _ z=>False.elim z
end
section
variable {X:Cx}{st:aF}{rest:List aF}{t u:TS}{e:aE}{te:TE}{pos:Pos}
abbrev Wi:TS:=λD σ H=>D.nx σ H
abbrev U4 (t u:TS):TS:=λD σ H=>t { D with nx:=u D } σ H
def Nz:yw X [] Wi:=λ_ _ σ H _ I h=>fD ⟨σ,H,I,h⟩
def Ld(h1:PS X st t)(h2:yw X rest u):yw X (st::rest) (U4 t u):=by
 kcf_m;refine wpAny_execs_cons (j3 (h1 pins s σ H { D with nx:=u D } I h) λf s1 q=>?_)
 cases f with
 | next=>
  obtain⟨σ',H',I',q⟩:=q;exact h2 pins s1 σ' H' D I' q
 | ret v=>exact q
 | brk=>exact q
 | cont=>exact q
def GK(h1:PS X st t):yw X [st] t:=by
 kcf_m;refine wpAny_execs_cons (j3 (h1 pins s σ H D I h) λf s1 q=>?_)
 cases f with
 | next=>exact fD q
 | ret v=>exact q
 | brk=>exact q
 | cont=>exact q
def Inv.quiet{H:Hp}(I:Inv X pins σ H s):interactive X.env=false:=by simp[interactive,I.ok.kind]
abbrev V3 (te:TE):TS:=λD σ H=>te σ H λ_ H1=>D.nx σ H1
def Gh(he:PE X e te)(hs:swapsWith e none pos.line X.env=pure false:=by rfl):PS X (.Expr e pos) (V3 te):=by
 kcf_m;exact wpAny_Expr_any (j3 (he pins s σ H _ I h) λv s1 ⟨x,H1,I1,r1,q1⟩=>⟨σ,H1,I1,q1⟩) I.quiet hs
abbrev W3 (te:TE):TS:=λD σ H=>te σ H D.rt
def Rl(he:PE X e te):PS X (.Return (some e) pos) (W3 te):=by
 kcf_m;exact wpAny_Return_some<|j3 (he pins s σ H _ I h) λv s1 ⟨x,H1,I1,r1,q1⟩=>⟨x,σ,H1,I1,r1,q1⟩
abbrev Vt:TS:=λD _ H=>D.rt .non H
def O6:PS X (.Return none pos) Vt:=λ_ _ σ H _ I h=>wpAny_Return_none ⟨.non,σ,H,I,rfl,h⟩
abbrev W7 (c:TT)(t u:TS):TS:=λD σ H=>c σ H λb H1=>if b=true then t D σ H1 else u D σ H1
def UY{c:aE}{a:List aF}{tc:TT}(hc:PT X c tc)(ha:yw X a t)(hb:yw X b u):PS X (.If c a b pos) (W7 tc t u):=by
 kcf_m;refine wpAny_If (j3 (hc pins s σ H _ I h) λd s1 ⟨H1,I1,q1⟩=>?_)
 cases d with
 | true=>exact ha pins s1 σ H1 D I1 q1
 | false=>exact hb pins s1 σ H1 D I1 q1
abbrev Tz:TS:=λ_ _ _=>False
def Lz:PS X st Tz:=λ_ _ _ _ _ _ h=>h.elim
end
meta abbrev TG:=V->St->Hp->(St->Hp->Prop)->Prop
meta abbrev Qt:=List V->St->Hp->(St->Hp->Prop)->Prop
abbrev PG (X:Cx)(target:aE)(t:TG):Prop:=
 ∀(pins:bj) (s:aC) (σ:St) (H:Hp) (v:V) (u:af) (Q:St->Hp->Prop),Inv X pins σ H s->RelV v u->t v σ H Q ->
  wpAny (model X.prog X.w) X.A (assign target X.env u) (λ_ s'=>∃σ' H',Inv X pins σ' H' s'/\Q σ' H') X.xe s
abbrev UX (X:Cx)(ts:List aE)(t:Qt):Prop:=
 ∀(pins:bj) (s:aC) (σ:St) (H:Hp) (vs:List V) (us:ap) (Q:St->Hp->Prop),Inv X pins σ H s->Vals vs us->t vs σ H Q ->
  wpAny (model X.prog X.w) X.A (assignInOrder ((assignEach ts X.env).map (·.2)) us) (λ_ s'=>∃σ' H',Inv X pins σ' H' s'/\Q σ' H') X.xe s
meta abbrev Cw:=V->V->V->Hp->(Hp->Prop)->Prop
abbrev CJ (X:Cx)(t:Cw):Prop:=
 ∀(pins:bj) (s:aC) (σ:St) (H:Hp) (o i v:V) (ov iv u:af) (Q:Hp->Prop),Inv X pins σ H s->RelV o ov->RelV i iv->RelV v u->t o i v H Q ->
  wpAny (model X.prog X.w) X.A (setItem ov iv u) (λ_ s'=>∃H',Inv X pins σ H' s'/\Q H') X.xe s
meta abbrev R_:=V->V->Hp->VK->Prop
abbrev QK (X:Cx)(op:Operator)(t:R_):Prop:=
 ∀(pins:bj) (s:aC) (σ:St) (H:Hp) (x y:V) (v u:af) (Q:VK),Inv X pins σ H s->RelV x v->RelV y u->t x y H Q ->
  wpAny (model X.prog X.w) X.A (inplaceOp op v u) (EP X pins σ Q) X.xe s
section
variable {X:Cx}{pos:Pos}
abbrev KQ (i:Nat):TG:=λv σ H Q=>Q (σ.set i<|some v) H
def Gn{i:Nat}{x:Str}(hN:X.N.Nodup)(hi:X.N[i]?=some x)(hx:Loc X.env.scope x)(hf:X.fn x=true\/X.env.scope.names.lookup x=some .local:=by first|exact .inl rfl|exact .inr rfl|assumption):PG X (.Name x pos) (KQ i):=by
 intro pins s σ H v u Q I r h;exact wpAny_assign_Name<|q_ I hN hi hx r (λs' I'=>⟨_,H,I',h⟩) hf
abbrev WS:Qt:=λvs σ H Q=>vs=[]/\Q σ H
abbrev VQ (t:TG)(u:Qt):Qt:=λvs σ H Q=>∃v r,vs=v::r/\t v σ H λσ' H'=>u r σ' H' Q
def Nt:UX X [] WS:=by
 intro pins s σ H vs us Q I r h;obtain⟨e,h⟩:=h;subst e
 cases r
 exact assignInOrder_nil ⟨σ,H,I,h⟩
def K5{e:aE}{t:TG}{u:Qt}(h1:PG X e t)(h2:UX X es u)
  (hs:(assignEach (e::es) X.env).map (·.2)=assign e X.env::(assignEach es X.env).map (·.2):=by rfl):UX X (e::es) (VQ t u):=by
 intro pins s σ H vs us Q I r h;obtain⟨v,vr,e1,h⟩:=h;subst e1
 cases r with
 | cons r rr=>
  rw[hs];refine assignInOrder_cons<|j3 (h1 pins s σ H _ _ _ I r h) λ_ s1 ⟨σ1,H1,I1,q1⟩=>?_;exact h2 pins s1 σ1 H1 _ _ Q I1 rr q1
abbrev WT (K:au)(n:Nat)(t:Qt):TG:=λv σ H Q=>∃a xs,v=.ref a/\nk K H a xs/\xs.length=n/\t xs σ H Q
def RL{k:Nat}{t:Qt}{n:Nat}(hc:X.calm=true)(h:UX X es t)
  (hn:(assignEach es X.env).length=n:=by rfl) (hst:(assignEach es X.env).findIdx? (·.1)=none:=by rfl):PG X (.Tuple es k pos) (WT X.K n t):=by
 intro pins s σ H v u Q I r hw;obtain⟨a,xs,e1,hq,hl,hw⟩:=hw;subst e1
 cases r
 obtain⟨its,rv,ht,hz⟩:=I.tuple hq;refine assign_Tuple_tuple (I.ok.hd hc) ht (by simp[hn,<- hl,rv.length]) hst λh' hx=>?_;have I1:Inv X pins σ H { s with heap:=h' }:=I.kept (t':=s.toks) λb o e=>hx b o (bu<|aV e) e;exact h pins _ σ H xs _ Q I1 (by simpa using rv) hw
abbrev XJ (to ti:TE)(t:Cw):TG:=λv σ H Q=>to σ H λo H1=>ti σ H1 λi H2=>t o i v H2 λH3=>Q σ H3
def Dk{to ti:TE}{t:Cw}(ho:PE X o to)(hi:PE X i ti)(hs:CJ X t)
  (ha:∀v,assign (.Subscript o i pos) X.env v=(do
   let ov <- holding [v] (eval o X.env)
   let iv <- holding [v,ov] (eval i X.env)
   standAt pos
   holding [v,ov,iv] (setItem ov iv v)
   release [v,ov,iv] []):=by intro _;rfl):PG X (.Subscript o i pos) (XJ to ti t):=by
 intro pins s σ H v u Q I r h;rw[ha];refine aH<|cG<|j3 (ho pins s σ H _ I h) λov s1 ⟨x,H1,I1,r1,q1⟩=>?_;refine aH<|cG<|j3 (hi pins s1 σ H1 _ I1 q1) λiv s2 ⟨y,H2,I2,r2,q2⟩=>?_;refine aH<|dY<|aH<|cG<|j3 (hs pins s2 σ H2 x y v ov iv u _ I2 r1 r2 r q2) λ_ s3 ⟨H3,I3,q3⟩=>?_;exact wpAny_release ⟨σ,H3,I3,q3⟩
abbrev NN (te:TE)(g:TG):TS:=λD σ H=>te σ H λx H1=>g x σ H1 D.nx
def RC{tg e:aE}{te:TE}{g:TG}(he:PE X e te)(hg:PG X tg g)(hs:swapsWithSole [tg] e pos.line X.env=pure false:=by rfl)(hw:swappedStores [tg] e X.env=pure none:=by rfl)
  (h1:(assignEach [tg] X.env).map (·.2)=[assign tg X.env]:=by rfl):PS X (.Assign [tg] e pos) (NN te g):=by
 kcf_m;refine wpAny_Assign_stores (j3 (he pins s σ H _ I h) λv s1 ⟨x,H1,I1,r1,q1⟩=>?_) hs hw;rw[h1];exact j3 (hg pins s1 σ H1 x v _ I1 r1 q1) λ_ s2 q=>q
def Ur{i:Nat}{x:Str}{e:aE}{te:TE}(hN:X.N.Nodup)(hi:X.N[i]?=some x)(hx:Loc X.env.scope x)(he:PE X e te)(hs:swapsWith e (some<|.Name x pos') pos.line X.env=pure false:=by rfl)(hf:X.fn x=true\/X.env.scope.names.lookup x=some .local:=by first|exact .inl rfl|exact .inr rfl|assumption) :
  PS X (.Assign [.Name x pos'] e pos) (NN te<|KQ i):=by
 kcf_m;refine wpAny_Assign_Name (j3 (he pins s σ H _ I h) λv s1 ⟨y,H1,I1,r1,q1⟩=>?_) hs;exact q_ I1 hN hi hx r1 (λs2 I2=>⟨_,H1,I2,q1⟩) hf
abbrev WJ (i:Nat)(te:TE)(ti:R_):TS:=λD σ H=>∃x,σ[i]?=some (some x)/\te σ H λy H1=>ti x y H1 λz H2=>D.nx (σ.set i<|some z) H2
def TR{i:Nat}{x:Str}{e:aE}{te:TE}{ti:R_}(hN:X.N.Nodup)(hi:X.N[i]?=some x)(hx:Loc X.env.scope x)(he:PE X e te)(ho:QK X op ti)(hf:X.fn x=true\/X.env.scope.names.lookup x=some .local:=by first|exact .inl rfl|exact .inr rfl|assumption) :
  PS X (.AugAssign (.Name x pos') op e pos) (WJ i te ti):=by
 kcf_m;obtain⟨v,e1,h⟩:=h;obtain⟨m,hn,hl⟩:=I.loc;have vis:UE X.env.scope x:=by rcases hx with k|k;exact .inl k;exact .inr (.inl k)
 obtain⟨u,r,l⟩:=hl i x v hi e1 vis;refine wpAny_AugAssign_Name ?_;have go:wpAny (model X.prog X.w) X.A (eval e X.env) (λw s₂=>wpAny (model X.prog X.w) X.A (inplaceOp op u w) (λr s₃=>wpAny (model X.prog X.w) X.A (storeName X.env x r) (λ_=>SP X pins D .next) X.xe s₃) X.xe s₂) X.xe s:=by
  refine j3 (he pins s σ H _ I h) λw s1 ⟨y,H1,I1,r1,q1⟩=>?_;refine j3 (ho pins s1 σ H1 v y u w _ I1 r r1 q1) λz s2 ⟨zv,H2,I2,r2,q2⟩=>?_;exact q_ I2 hN hi hx r2 (λs3 I3=>⟨_,H2,I3,q2⟩) hf
 rcases l with⟨hk,hm⟩|⟨hk,c,hc,hcell⟩
 ·exact wpAny_loadName_local I.ok.kind hk hn hm go
 ·rcases hk with hk|hk
  ·exact wpAny_loadName_cell I.ok.kind hk hc hcell go
  ·rcases hx with k|k
   ·have:X.env.scope.names.lookup x=some .free:=hk;rw[k]at this;cases this
   ·have:X.env.scope.names.lookup x=some .free:=hk;rw[k]at this;cases this
abbrev UL (to ti te:TE)(tget:V->V->Hp->VK->Prop)(tip:R_)(tset:Cw):TS:=λD σ H=>to σ H λo H1=>ti σ H1 λi H2=>tget o i H2 λx H3=>te σ H3 λy H4=>tip x y H4 λz H5=>tset o i z H5 λH6=>D.nx σ H6
abbrev Q4 (X:Cx)(t:V->V->Hp->VK->Prop):Prop:=
 ∀(pins:bj) (s:aC) (σ:St) (H:Hp) (o i:V) (ov iv:af) (Q:VK),Inv X pins σ H s->RelV o ov->RelV i iv->t o i H Q ->
  wpAny (model X.prog X.w) X.A (getItem ov iv) (EP X pins σ Q) X.xe s
def PD{e:aE}{to ti te:TE}{tget:V->V->Hp->VK->Prop}{tip:R_}{tset:Cw}(ho:PE X o to)(hi:PE X i ti)(hg:Q4 X tget)(he:PE X e te)(hp:QK X op tip)(hs:CJ X tset)
  (ha:∀ov iv new,augStore i ov iv new=(do holding [new,ov,iv] (setItem ov iv new);release [new,ov,iv] [];pure .next):=by intros;rfl):PS X (.AugAssign (.Subscript o i tpos) op e pos) (UL to ti te tget tip tset):=by
 kcf_m;refine wpAny_AugAssign_SubscriptAny (j3 (ho pins s σ H _ I h) λov s1 ⟨x1,H1,I1,r1,q1⟩=>?_) ha;refine j3 (hi pins s1 σ H1 _ I1 q1) λiv s2 ⟨x2,H2,I2,r2,q2⟩=>?_;refine j3 (hg pins s2 σ H2 x1 x2 ov iv _ I2 r1 r2 q2) λold s3 ⟨x3,H3,I3,r3,q3⟩=>?_;refine j3 (he pins s3 σ H3 _ I3 q3) λv s4 ⟨x4,H4,I4,r4,q4⟩=>?_;refine j3 (hp pins s4 σ H4 x3 x4 old v _ I4 r3 r4 q4) λnew s5 ⟨x5,H5,I5,r5,q5⟩=>?_;exact j3 (hs pins s5 σ H5 x1 x2 x5 ov iv new _ I5 r1 r2 r5 q5) λ_ s6 ⟨H6,I6,q6⟩=>⟨σ,H6,I6,q6⟩
abbrev X6 (f:Int->Int->Int):R_:=λx y H Q=>∃i j,x=.int i/\y=.int j/\Q (.int<|f i j) H
def Rj:QK X .Add (X6 λi j=>i+j):=by
 intro pins s σ H x y v u Q I r1 r2 h;obtain⟨i,j,e1,e2,q⟩:=h;subst e1;subst e2;obtain⟨t,rfl⟩:=r1;obtain⟨t',rfl⟩:=r2;exact iadd_int ⟨.int _,H,I.tok _,⟨_,rfl⟩,q⟩
def QZ:QK X .Sub (X6 λi j=>i-j):=by
 intro pins s σ H x y v u Q I r1 r2 h;obtain⟨i,j,e1,e2,q⟩:=h;subst e1;subst e2;obtain⟨t,rfl⟩:=r1;obtain⟨t',rfl⟩:=r2;exact isub_int ⟨.int _,H,I.tok _,⟨_,rfl⟩,q⟩
end
section
variable {X:Cx}{pos:Pos}
abbrev Mv (c:TT)(tb:TS):TS:=λD σ H=>∃W:Nat->St->Hp->Prop,(∃m,W m σ H)/\∀m σ H,W m σ H ->
 c σ H λb H1=>if b=true then ∃N:St->Hp->Prop,(∀σ' H',N σ' H'->∃m',m'<m/\W m' σ' H')/\tb { D with nx:=N,ct:=N,bk:=D.nx } σ H1 else D.nx σ H1
def Jx{c:aE}{tc:TT}{tb:TS}(hp:PassesOwn (model X.prog X.w) X.A X.env X.xe)(hc:PT X c tc)(hb:yw X body tb):PS X (.While c body [] pos) (Mv tc tb):=by
 kcf_m;obtain⟨W,⟨m0,w0⟩,turn⟩:=h;refine wpAny_While<|codeAny_whileLoop (λn s'=>∃σ' H',Inv X pins σ' H' s'/\W n σ' H') ?_ m0 ⟨σ,H,I,w0⟩;rintro n s1 ⟨σ1,H1,I1,w1⟩;refine dP hp (j3 (hc pins s1 σ1 H1 _ I1<|turn n σ1 H1 w1) λb s2 ⟨H2,I2,q2⟩=>?_)
 cases b with
 | true=>
  obtain⟨N,hN,q2⟩:=q2;rw[aJ rfl];refine dP hp (j3 (hb pins s2 σ1 H2 _ I2 q2) λf s3 q3=>?_)
  cases f with
  | next=>
   obtain⟨σ3,H3,I3,n3⟩:=q3;obtain⟨m',hm,w3⟩:=hN σ3 H3 n3;exact⟨m',hm,σ3,H3,I3,w3⟩
  | cont=>
   obtain⟨σ3,H3,I3,n3⟩:=q3;obtain⟨m',hm,w3⟩:=hN σ3 H3 n3;exact⟨m',hm,σ3,H3,I3,w3⟩
  | brk=>exact q3
  | ret v=>exact q3
 | false=>
  rw[aK bG];exact fD ⟨σ1,H2,I2,q2⟩
end
structure It where
 go:Nat->Hp->Prop
 yld:Nat->Hp->V->Hp->Prop
 stop:Nat->Hp->Prop
abbrev rq (X:Cx)(pins:bj)(H:Hp)(b:ak):Prop:=
 H b=none/\b≠X.env.locals/\b∉X.fs/\(b∈X.ex\/X.s₀.heap.objs.size<=b)/\(∀x c,X.env.cells.lookup x=some c->c≠b)/\∀p∈X.pn++pins,p.1≠b
def Inv.Ba{X:Cx}{H H':Hp}{s:aC}(I:Inv X pins σ H s)(hb:s.heap.objs.size<=b)(hn:H' b=none):rq X pins H' b:=by
 refine⟨hn,Nat.ne_of_gt<|bH I.lt hb,I.XR hb,.inr<|bW I.sz hb,λx c e z=>?_,λp hp z=>?_⟩
 ·obtain⟨v,q⟩:=I.cell x c e;exact absurd (bH q.lt<|by rw[z];exact hb) (dG _)
 ·exact absurd (bH (aV (I.pin p hp).1)<|by rw[z];exact hb)<|dG _
structure Turn (P:aj)(w:ah)(K:au)(tg:aE)(J:It)(fp:ar)(it:ak)(tn:Nat->aq->Prop):Prop where
 mem:it∈fp
 obj:∀i h,tn i h->∀b∈fp,∃o,h.get? b=some o/\∀v,o.data≠.cell v
 keep:∀i h h',tn i h->(∀b∈fp,∀o,h.get? b=some o->h'.get? b=some o)->tn i h'
 item:∀(X:Cx),X.prog=P->X.w=w->X.K=K->X.calm=true->∀(i:Nat) (pins:bj) (s:aC) (σ:St) (H:Hp) (E:af->aC->Prop),Inv X pins σ H s->(∀b∈fp,rq X pins H b)->tn i s.heap->J.go i H ->
  wpAny (model P w) X.A (pyNext<|.ref it) (λr s1=>∃u,r=some u /\
   wpAny (model P w) X.A (letOwnedTupleGo tg (.ref it) u) (λ_ s2=>∃x H',Inv X pins σ H' s2/\RelV x u/\J.yld i H x H'/\tn (i+1) s2.heap/\∀b∈fp,H' b=none) E s1) E s
 done:∀(X:Cx),X.prog=P->X.w=w->X.K=K->X.calm=true->∀(i:Nat) (pins:bj) (s:aC) (σ:St) (H:Hp) (E:af->aC->Prop),Inv X pins σ H s->(∀b∈fp,rq X pins H b)->tn i s.heap->J.stop i H ->
  wpAny (model P w) X.A (pyNext<|.ref it) (λr s1=>r=none/\Inv X pins σ H s1) E s
 self:∀(A:aA) (i:Nat) (s:aC) (Q:af->aC->Prop) (E:af->aC->Prop),tn i s.heap->Q (.ref it) s->wpAny (model P w) A (pyIter<|.ref it) Q E s
meta abbrev TI:=St->Hp->(It->Hp->Prop)->Prop
abbrev Yt (X:Cx)(pins:bj)(σ:St)(tg:aE)(R:It->Hp->Prop)(itv:af)(s2:aC):Prop:=
 ∃(it:ak) (fp:ar) (tn:Nat->aq->Prop) (J:It) (H':Hp),itv=.ref it/\Inv X pins σ H' s2/\Turn X.prog X.w X.K tg J fp it tn/\tn 0 s2.heap/\(∀b∈fp,rq X pins H' b)/\R J H'
abbrev PI (X:Cx)(tg iter:aE)(wi:TI):Prop:=
 ∀(pins:bj) (s:aC) (σ:St) (H:Hp) (R:It->Hp->Prop),Inv X pins σ H s->wi σ H R ->
  wpAny (model X.prog X.w) X.A (eval iter X.env) (λv s1=>wpAny (model X.prog X.w) X.A (pyIter v) (Yt X pins σ tg R) X.xe s1) X.xe s
def B0{A:aA}{E:af->aC->Prop}{s:aC}{o:Obj}{n:String}{Q:Unit->aC->Prop}(ho:s.heap.get? it=some o)(hc:o.cls=.type n)(hd:o.data=.fields vs)
  (hn:["enumerate", "zip", "dict_itemiterator", "dict_reverseitemiterator", "odict_iterator", "itertools.zip_longest", "itertools.pairwise"].contains n=false) (hQ:Q Unit.unit s):wpAny M A (letOwnedTupleGo tg (.ref it) u) Q E s:=by
 unfold letOwnedTupleGo
 cases tg<;>first
  | exact aT hQ
  | (cases u<;>first
    | exact aT hQ
    | (refine aH (wpAny_load ho ?_)
       rw[hc,hd];show wpAny M A (if (["enumerate", "zip", "dict_itemiterator", "dict_reverseitemiterator", "odict_iterator", "itertools.zip_longest", "itertools.pairwise"].contains n && vs[0]? == some (rawInt _))=true then _ else _) Q E s;rw[aK<|by intro h;rw[hn,Bool.false_and]at h;cases h];exact aT hQ))
abbrev U0 (K:au)(a:ak):It:=
 ⟨λi H=>∃xs x,mP K H a xs/\xs[i]?=some x,λi H x H'=>H'=H/\∀xs,mP K H a xs->xs[i]?=some x,λi H=>∃xs,mP K H a xs/\xs.length<=i⟩
abbrev Xr (K:au)(a:ak):It:=
 ⟨λi H=>∃xs x,nk K H a xs/\xs[i]?=some x,λi H x H'=>H'=H/\∀xs,nk K H a xs->xs[i]?=some x,λi H=>∃xs,nk K H a xs/\xs.length<=i⟩
abbrev Vk (lo:Int)(n:Nat):It:=⟨λi _=>i<n,λi H x H'=>H'=H/\x=.int (lo+i),λi _=>n<=i⟩
def uI{P:aj}{w:ah}{K:au}(a it:ak):Turn P w K tg (U0 K a) [it] it (λi h=>h.IsListIter it a i) where
 mem:=by simp
 obj:=λi h st b hb=>by
  have e:b=it:=by simpa using hb
  subst e;obtain⟨o,e,c,d⟩:=st;exact⟨o,e,λv z=>by rw[d]at z;cases z⟩
 keep:=λi h h' st k=>st.at λo e=>k it (by simp) o e
 item:=by
  w_up;subst hP hw hK;obtain⟨xs,x,hq,hx⟩:=hg;obtain⟨its,rv,p,hz⟩:=I.list hq;obtain⟨u,hu,ru⟩:=rv.get hx;k_ne;refine wpAny_pyNext_list_item st p.isList (x:=u) (by simpa using hu) λh' st' sb=>?_;have I1:Inv X pins σ H { s with heap:=h' }:=I.turned (t':=s.toks) (λb o hb e=>(sb.2 b hb).trans e) f0 f1 f3 f4 f5;obtain⟨o,e,c,d⟩:=id st';exact⟨u,rfl,B0 (s:={ s with heap:=h' }) e c d ⋯ ⟨x,H,I1,ru,⟨rfl,λys hy=>by rw[I.xG hy hq];exact hx⟩,st',λb hb=>(hf b hb).1⟩⟩
 done:=by
  w_up;subst hP hw hK;obtain⟨xs,hq,hx⟩:=hg;obtain⟨its,rv,p,hz⟩:=I.list hq;k_ne;have hl:=rv.length;exact wpAny_pyNext_list_end (I.ok.hd hc) st p.isList (by simp;omega) λh' eb=>⟨rfl,I.turned (t':=s.toks) (λb o hb e=>eb b o hb e) f0 f1 f3 f4 f5⟩
 self:=λ_ _ _ _ _ st h=>wpAny_pyIter_listiter st h
def CW{P:aj}{w:ah}{K:au}(a it:ak):Turn P w K tg (Xr K a) [it] it (λi h=>h.IsTupleIter it a i) where
 mem:=by simp
 obj:=λi h st b hb=>by
  have e:b=it:=by simpa using hb
  subst e;obtain⟨o,e,c,d⟩:=st;exact⟨o,e,λv z=>by rw[d]at z;cases z⟩
 keep:=λi h h' st k=>st.at λo e=>k it (by simp) o e
 item:=by
  w_up;subst hP hw hK;obtain⟨xs,x,hq,hx⟩:=hg;obtain⟨its,rv,p,hz⟩:=I.tuple hq;obtain⟨u,hu,ru⟩:=rv.get hx;k_ne;refine wpAny_pyNext_tuple_item st (show s.heap.IsTuple a its.toArray from p) (x:=u) (by simpa using hu) λh' st' sb=>?_;have I1:Inv X pins σ H { s with heap:=h' }:=I.turned (t':=s.toks) (λb o hb e=>(sb.2 b hb).trans e) f0 f1 f3 f4 f5;obtain⟨o,e,c,d⟩:=id st';exact⟨u,rfl,B0 (s:={ s with heap:=h' }) e c d ⋯ ⟨x,H,I1,ru,⟨rfl,λys hy=>by rw[I.yQ hy hq];exact hx⟩,st',λb hb=>(hf b hb).1⟩⟩
 done:=by
  w_up;subst hP hw hK;obtain⟨xs,hq,hx⟩:=hg;obtain⟨its,rv,p,hz⟩:=I.tuple hq;k_ne;have hl:=rv.length;exact wpAny_pyNext_tuple_end (I.ok.hd hc) st (show s.heap.IsTuple a its.toArray from p) (by simp;lia) λh' eb=>⟨rfl,I.turned (t':=s.toks) (λb o hb e=>eb b o hb e) f0 f1 f3 f4 f5⟩
 self:=λ_ _ _ _ _ st h=>wpAny_pyIter_tupleiter st h
def Dz{P:aj}{w:ah}{K:au}(it:ak)(lo:Int)(n:Nat):Turn P w K tg (Vk lo n) [it] it (λi h=>IsRangeIter h it (lo+(i:Nat) * 1) ((n:Int)-(i:Nat)) 1) where
 mem:=by simp
 obj:=λi h st b hb=>by
  have e:b=it:=by simpa using hb
  subst e;exact⟨_,st,λv z=>by
   have z':Data.fields _=Data.cell v:=z
   cases z'⟩
 keep:=λi h h' st k=>k it (by simp) _ st
 item:=by
  w_up;subst hP hw hK;k_ne;have W:=Walks.range (prog:=X.prog) (w:=X.w) (I.ok.hd hc) it lo 1 n;refine W.item i s _ _ hg st λv h' tk hv st' kk=>?_;obtain⟨t,rfl⟩:=hv;have I1:Inv X pins σ H { s with heap:=h',toks:=tk }:=I.turned (λb o hb e=>kk b o (by simpa using hb) e) f0 f1 f3 f4 f5;refine⟨_,rfl,B0 (s:={ s with heap:=h',toks:=tk }) (n := "range_iterator") st' rfl rfl ⋯ ⟨.int<|lo+i,H,I1,⟨t,?_⟩,⟨rfl,rfl⟩,st',λb hb=>(hf b hb).1⟩⟩;rw[Int.mul_one]
 done:=by
  w_up;subst hP hw hK;k_ne;exact wpAny_pyNext_range_end (I.ok.hd hc) st (by have:n<=i:=hg;lia) λh' eb=>⟨rfl,I.turned (t':=s.toks) (λb o hb e=>eb b o hb e) f0 f1 f3 f4 f5⟩
 self:=λ_ _ _ _ _ st h=>wpAny_pyIter_rangeiter st h
section
variable {X:Cx}{tg:aE}
abbrev Qp (K:au)(tl:TE):TI:=λσ H R=>tl σ H λx H1=>∃a,x=.ref a/\(∃xs,mP K H1 a xs)/\R (U0 K a) H1
abbrev Xm (K:au)(tl:TE):TI:=λσ H R=>tl σ H λx H1=>∃a,x=.ref a/\(∃xs,nk K H1 a xs)/\R (Xr K a) H1
def GN{tl:TE}(hl:PE X l tl):PI X tg l (Qp X.K tl):=by
 intro pins s σ H R I h;refine j3 (hl pins s σ H _ I h) λv s1 ⟨x,H1,I1,r1,q1⟩=>?_;obtain⟨a,e,⟨xs,hq⟩,q⟩:=q1;subst e
 cases r1
 obtain⟨its,rv,p,hz⟩:=I1.list hq;refine g_ p.isList ?_;refine⟨s1.heap.objs.size,[s1.heap.objs.size],_,_,H1,rfl,I1.kept (t':=s1.toks) λb o e=>aP _ e,uI a _,⟨_,bD _ rfl,rfl,rfl⟩,λb hb=>?_,q⟩;have e:b=s1.heap.objs.size:=by simpa using hb
 subst e;kl_no
def M4{tl:TE}(hl:PE X l tl):PI X tg l (Xm X.K tl):=by
 intro pins s σ H R I h;refine j3 (hl pins s σ H _ I h) λv s1 ⟨x,H1,I1,r1,q1⟩=>?_;obtain⟨a,e,⟨xs,hq⟩,q⟩:=q1;subst e
 cases r1
 obtain⟨its,rv,p,hz⟩:=I1.tuple hq;refine wpAny_pyIter_tuple (show s1.heap.IsTuple a its.toArray from p) ?_;refine⟨s1.heap.objs.size,[s1.heap.objs.size],_,_,H1,rfl,I1.kept (t':=s1.toks) λb o e=>aP _ e,CW a _,⟨_,bD _ rfl,rfl,rfl⟩,λb hb=>?_,q⟩;have e:b=s1.heap.objs.size:=by simpa using hb
 subst e;kl_no
def Ce{H:Hp}{s:aC}{R:It->Hp->Prop}{E:af->aC->Prop}{lo hi:Int}{v:Tok}{tk:Nat}(I:Inv X pins σ H s)(h1:-(2 ^ 62)<=lo)(h2:lo<2 ^ 62)(h3:-(2 ^ 62)<=hi)(h4:hi<2 ^ 62)
  (q:R (Vk lo (hi-lo).toNat) H):wpAny (model X.prog X.w) X.A (pyIter<|.ref s.heap.objs.size) (Yt X pins σ tg R) E { s with heap:=s.heap.push { cls:=.type "range",data:=.fields #[.int lo t,.int hi u,.int 1 v]},toks:=tk }:=by
 refine wpAny_pyIter_range (IsRange.new ..) (small_one h1 h2 h3 h4) ?_;have I1:Inv X pins σ H { s with heap:=s.heap.push { cls:=.type "range",data:=.fields #[.int lo t,.int hi u,.int 1 v]},toks:=tk }:=I.kept λb o e=>aP _ e;refine⟨(s.heap.push { cls:=.type "range",data:=.fields #[.int lo t,.int hi u,.int 1 v]}).objs.size,[(s.heap.push { cls:=.type "range",data:=.fields #[.int lo t,.int hi u,.int 1 v]}).objs.size],_,_,H,rfl,
  I1.kept (t':=tk) λb o e=>aP _ e,Dz _ lo (hi-lo).toNat,?_,λb hb=>?_,q⟩
 ·have e1:lo+((0:Nat):Int) * 1=lo:=by simp
  have e2:(((hi-lo).toNat:Nat):Int)-((0:Nat):Int)=Builtin.Range.rangeSize lo hi 1:=by rw[rangeSize_one];split<;>lia
  skip
  rw[e1,e2];exact bD _ rfl
 ·have e:b=(s.heap.push { cls:=.type "range",data:=.fields #[.int lo t,.int hi u,.int 1 v]}).objs.size:=by simpa using hb
  subst e;kl_no
abbrev p9 (ta:TA):TI:=λσ H R=>ta σ H λvs H1=>∃j:Int,vs=[.int j]/\-(2 ^ 62)<=j/\j<2 ^ 62/\R (Vk 0 j.toNat) H1
abbrev qE (ta:TA):TI:=λσ H R=>ta σ H λvs H1=>∃i j:Int,vs=[.int i,.int j]/\(-(2 ^ 62)<=i/\i<2 ^ 62/\-(2 ^ 62)<=j/\j<2 ^ 62)/\R (Vk i (j-i).toNat) H1
def Hx{a:aE}{ta:TA}{p:Pos}(hg:Gl X "range")(hm:X.mg "range" = none)(ha:PA X [a] ta)(hs:starEach [a] X.env=[(false,eval a X.env)]:=by rfl):PI X tg (.Call (.Name "range" p) [a] [] pos) (p9 ta):=by
 intro pins s σ H R I h;refine Call_<|uA I hg hm boot_range<|dz (j3 (ha pos pins s σ H _ I h) λus s1 ⟨vs,H1,I1,r1,q1⟩=>?_) hs rfl;obtain⟨j,e,q1,q2,q⟩:=q1;subst e
 cases r1 with
 | cons r rr=>
  cases rr
  obtain⟨t,rfl⟩:=r;exact call_range_1<|Ce I1 () () q1 q2<|by simpa using q
def HN{a b:aE}{ta:TA}{p:Pos}(hg:Gl X "range")(hm:X.mg "range" = none)(ha:PA X [a,b] ta)(hs:starEach [a,b] X.env=[(false,eval a X.env),(false,eval b X.env)]:=by rfl)(hs2:starEach [b] X.env=[(false,eval b X.env)]:=by rfl) :
  PI X tg (.Call (.Name "range" p) [a,b] [] pos) (qE ta):=by
 intro pins s σ H R I h;refine Call_ (uA I hg hm boot_range<|dz (j3 (ha pos pins s σ H _ I h) λus s1 ⟨vs,H1,I1,r1,q1⟩=>?_) (by rw[hs,hs2])<|by rw[hs2];rfl);obtain⟨i,j,e,⟨q1,q2,q3,q4⟩,q⟩:=q1;subst e
 cases r1 with
 | cons r rr=>
  cases rr with
  | cons r' rr=>
   cases rr
   obtain⟨t,rfl⟩:=r;obtain⟨t',rfl⟩:=r';exact call_range_2<|Ce I1 q1 q2 q3 q4 q
abbrev WG (wi:TI)(g:TG)(tb:TS):TS:=λD σ H=>wi σ H λJ H1=>∃W:Nat->Nat->St->Hp->Prop,(∃m,W 0 m σ H1)/\∀i m σ H,W i m σ H ->
 (J.stop i H/\D.nx σ H)\/(J.go i H/\∃N:St->Hp->Prop,(∀σ' H',N σ' H'->∃m',m'<m/\W (i+1) m' σ' H')/\∀x H',J.yld i H x H'->g x σ H' λσ2 H2=>tb { D with nx:=N,ct:=N,bk:=D.nx } σ2 H2)
abbrev sI (fp:ar)(h:aq):bj:=fp.filterMap λb=>(h.get? b).map λo=>(b,o)
def ki{fp:ar}{h:aq}{b:ak}(hb:b∈fp)(e:h.get? b=some o):(b,o)∈sI fp h:=fG.mpr ⟨b,hb,by rw[e];rfl⟩
def Im{fp:ar}{h:aq}{p:ak×Obj}(hp:p∈sI fp h):p.1∈fp/\h.get? p.1=some p.2:=by
 obtain⟨b,hb,e⟩:=fG.mp hp
 cases q:h.get? b with
 | none=>rw[q]at e;cases e
 | some o=>
  rw[q]at e;have e':(b,o)=p:=aS e;subst e';exact⟨hb,q⟩
def Inv.pinned{H:Hp}{s:aC}{fp:ar}(I:Inv X pins σ H s)(hf:∀b∈fp,rq X pins H b)(ho:∀b∈fp,∃o,s.heap.get? b=some o/\∀v,o.data≠.cell v):Inv X (pins++sI fp s.heap) σ H s:=
 I.Fi λp hp=>(bF.mp hp).elim (λz=>I.pin p<|br _ z) λz=>by
  obtain⟨hb,e⟩:=Im z;obtain⟨f0,f1,f2,_⟩:=hf p.1 hb;obtain⟨o,e',d⟩:=ho p.1 hb;rw[e]at e';cases e';exact⟨e,f0,f1,f2,d⟩
def Inv.nP{pl:bj}{H:Hp}(I:Inv X (pins++pl) σ H s):Inv X pins σ H s:=I.Fi λp hp=>I.pin p<|br _<|bR _ hp
def Ru{iter:aE}{wi:TI}{g:TG}{tb:TS}(hp:PassesOwn (model X.prog X.w) X.A X.env X.xe)(hc:X.calm=true)(hi:PI X tg iter wi)(hg:PG X tg g)(hb:yw X body tb)
  (hs:∀x,foldedSetIterable iter X.env x=pure x:=by intro _;rfl):PS X (.For tg iter body [] pos) (WG wi g tb):=by
 kcf_m;refine wpAny_For (j3 (hi pins s σ H _ I h) λv s1 h1=>j3 h1 λitv s2 h2=>?_) hs;obtain⟨it,fp,tn,J,H2,e,I2,T,st2,f2,W,⟨m0,w0⟩,turn⟩:=h2;subst e;have stat:∀{H':Hp},(∀b∈fp,H' b=none)->∀b∈fp,rq X pins H' b:=λhn b hb=>⟨hn b hb,(f2 b hb).2⟩;refine codeAny_forLoop_any (λn s'=>∃i σ' H',Inv X pins σ' H' s'/\tn i s'.heap/\(∀b∈fp,H' b=none)/\W i n σ' H') ?_ m0 ⟨0,σ,H2,I2,st2,λb hb=>(f2 b hb).1,w0⟩;rintro n s3 ⟨i,σ3,H3,I3,st3,fr3,w3⟩
 rcases turn i n σ3 H3 w3 with⟨stop,qn⟩|⟨go,N,hN,step⟩
 ·refine dP hp<|j3 (T.done X rfl rfl rfl hc i pins s3 σ3 H3 X.xe I3 (stat fr3) st3 stop) λr s4 ⟨hr,I4⟩=>?_;subst hr;exact fD ⟨σ3,H3,I4,qn⟩
 ·refine dP hp<|j3 (T.item X rfl rfl rfl hc i pins s3 σ3 H3 X.xe I3 (stat fr3) st3 go) λr s4 ⟨u,hr,h4⟩=>?_;subst hr;refine dP hp<|j3 h4 λ_ s5 ⟨x,H5,I5,r5,y5,st5,fr5⟩=>?_;have I5':=I5.pinned (stat fr5)<|T.obj _ _ st5;refine dP hp<|j3 (hg _ s5 σ3 H5 x u _ I5' r5<|step x H5 y5) λ_ s6 ⟨σ6,H6,I6,q6⟩=>?_;refine dP hp<|j3 (hb _ s6 σ6 H6 _ I6 q6) λf s7 q7=>?_;have again:∀{σ7:St} {H7:Hp},Inv X (pins++sI fp s5.heap) σ7 H7 s7->N σ7 H7->∃m,m<n/\∃i σ' H',Inv X pins σ' H' s7/\tn i s7.heap/\(∀b∈fp,H' b=none)/\W i m σ' H':=λ{σ7 H7} I7 n7=>by
   obtain⟨m',hm,w7⟩:=hN σ7 H7 n7;refine⟨m',hm,i+1,σ7,H7,I7.nP,T.keep _ _ _ st5 λb hb o e=>(I7.pin (b,o)<|br _<|br _<|ki hb e).1,λb hb=>?_,w7⟩;obtain⟨o,e,d⟩:=T.obj _ _ st5 b hb;exact(I7.pin (b,o)<|br _<|br _<|ki hb e).2.1
  cases f with
  | next=>obtain⟨σ7,H7,I7,n7⟩:=q7;exact again I7 n7
  | cont=>obtain⟨σ7,H7,I7,n7⟩:=q7;exact again I7 n7
  | brk=>obtain⟨σ7,H7,I7,q7⟩:=q7;exact⟨σ7,H7,I7.nP,q7⟩
  | ret v=>obtain⟨x7,σ7,H7,I7,r7,q7⟩:=q7;exact⟨x7,σ7,H7,I7.nP,r7,q7⟩
end
def tU{c:TT}{tb:TS}{D:Ends}{H:Hp}(Pv:St->Hp->Prop)(μ:St->Hp->Nat)(h0:Pv σ H)
  (hs:∀σ H,Pv σ H->c σ H λb H1=>if b=true then tb { D with nx:=λσ' H'=>Pv σ' H'/\μ σ' H'<μ σ H,ct:=λσ' H'=>Pv σ' H'/\μ σ' H'<μ σ H,bk:=D.nx } σ H1 else D.nx σ H1)
  (mono:∀σ H Q Q',(∀b H1,Q b H1->Q' b H1)->c σ H Q->c σ H Q'):Mv c tb D σ H:=by
 refine⟨λm σ H=>m=μ σ H/\Pv σ H,⟨_,rfl,h0⟩,?_⟩;rintro m σ H ⟨rfl,p⟩;refine mono σ H _ _ (λb H1 q=>?_) (hs σ H p)
 cases b with
 | true=>exact⟨_,λσ' H' ⟨p',l⟩=>⟨_,l,rfl,p'⟩,q⟩
 | false=>exact q
meta abbrev R2:=V->V->Hp->VK->Prop
abbrev mL (X:Cx)(f:af->af->Sem af)(r:R2):Prop:=
 ∀(pins:bj) (s:aC) (σ:St) (H:Hp) (x y:V) (v u:af) (Q:VK),Inv X pins σ H s->RelV x v->RelV y u->r x y H Q ->
  wpAny (model X.prog X.w) X.A (f v u) (EP X pins σ Q) X.xe s
abbrev WD (X:Cx)(f:af->Sem af)(r:V->Hp->VK->Prop):Prop:=
 ∀(pins:bj) (s:aC) (σ:St) (H:Hp) (x:V) (v:af) (Q:VK),Inv X pins σ H s->RelV x v->r x H Q ->
  wpAny (model X.prog X.w) X.A (f v) (EP X pins σ Q) X.xe s
abbrev jw (X:Cx)(f:af)(r:List V->Hp->VK->Prop):Prop:=
 ∀(pins:bj) (s:aC) (σ:St) (H:Hp) (xs:List V) (us:ap) (Q:VK),Inv X pins σ H s->Vals xs us->r xs H Q ->
  wpAny (model X.prog X.w) X.A (call f us) (EP X pins σ Q) X.xe s
abbrev Xc (X:Cx)(r:V->Hp->(Bool->Hp->Prop)->Prop):Prop:=
 ∀(pins:bj) (s:aC) (σ:St) (H:Hp) (x:V) (v:af) (Q:Bool->Hp->Prop),Inv X pins σ H s->RelV x v->r x H Q ->
  wpAny (model X.prog X.w) X.A (truthy v) (TP X pins σ Q) X.xe s
abbrev Wa (r:R2)(ta tb:TE):TE:=λσ H Q=>ta σ H λx H1=>tb σ H1 λy H2=>r x y H2 Q
abbrev Yi (r:V->Hp->VK->Prop)(ta:TE):TE:=λσ H Q=>ta σ H λx H1=>r x H1 Q
abbrev rI (C:Int->Int->Prop)(g:Int->Int->V):R2:=λx y H Q=>∃i j,x=.int i/\y=.int j/\C i j/\Q (g i j) H
abbrev QL (g:Int->Int->V):R2:=λx y H Q=>∃i j,x=.int i/\y=.int j/\Q (g i j) H
abbrev rU (g:Int->V):V->Hp->VK->Prop:=λx H Q=>∃i,x=.int i/\Q (g i) H
section
variable {X:Cx}{a b:aE}{ta tb:TE}{pos:Pos}
def Rb(ha:PE X a ta)(hb:PE X b tb){H:Hp}{R:V->V->Hp->Prop}(I:Inv X pins σ H s)
  (h:ta σ H λx H1=>tb σ H1 λy H2=>R x y H2) {Q:af->aC->Prop} {f:af->af->Sem af}
  (hf:∀v u s2 x y H2,Inv X pins σ H2 s2->RelV x v->RelV y u->R x y H2->wpAny (model X.prog X.w) X.A (f v u) Q X.xe s2) :
  wpAny (model X.prog X.w) X.A (eval a X.env) (λv s₁=>wpAny (model X.prog X.w) X.A (eval b X.env) (λu s₂=>wpAny (model X.prog X.w) X.A (f v u) Q X.xe s₂) X.xe s₁) X.xe s:=by
 refine j3 (ha pins s σ H _ I h) λv s1 ⟨x,H1,I1,r1,q1⟩=>?_;refine j3 (hb pins s1 σ H1 _ I1 q1) λu s2 ⟨y,H2,I2,r2,q2⟩=>?_;exact hf v u s2 x y H2 I2 r1 r2 q2
def V2{r:R2}(ho:mL X (binaryOp op) r)(ha:PE X a ta)(hb:PE X b tb):PE X (.BinOp a op b pos) (Wa r ta tb):=by
 kd_p;exact wpAny_BinOp<|Rb ha hb I h λv u s2 x y H2 I2 rx ry q=>ho pins s2 σ H2 x y v u Q I2 rx ry q
def VN{r:V->Hp->VK->Prop}(ho:WD X (unaryOp op) r)(ha:PE X a ta):PE X (.UnaryOp op a pos) (Yi r ta):=by
 kd_p;exact UnaryOp_<|j3 (ha pins s σ H _ I h) λv s1 ⟨x,H1,I1,r1,q1⟩=>ho pins s1 σ H1 x v Q I1 r1 q1
def Wq{f:af->af->Sem af}{C:Int->Int->Prop}{g:Int->Int->Int}
  (rule:∀(i j:Int) (t u:Tok) (s:aC) (Q:af->aC->Prop) (E:af->aC->Prop),C i j->Q (.int (g i j) s.toks) { s with toks:=s.toks+1 }->wpAny (model X.prog X.w) X.A (f (.int i t)<|.int j u) Q E s) :
  mL X f (rI C λi j=>.int<|g i j):=by
 gn_on;obtain⟨i,j,rfl,rfl,hc,q⟩:=h;cb_eq;obtain⟨t',rfl⟩:=ry;exact rule i j t t' s _ _ hc ⟨.int<|g i j,H,I.tok _,⟨_,rfl⟩,q⟩
def U6{f:af->af->Sem af}{g:Int->Int->Int}
  (rule:∀(i j:Int) (t u:Tok) (s:aC) (Q:af->aC->Prop) (E:af->aC->Prop),Q (.int (g i j) s.toks) { s with toks:=s.toks+1 }->wpAny (model X.prog X.w) X.A (f (.int i t)<|.int j u) Q E s) :
  mL X f (QL λi j=>.int<|g i j):=by
 gn_on;obtain⟨i,j,rfl,rfl,q⟩:=h;cb_eq;obtain⟨t',rfl⟩:=ry;exact rule i j t t' s _ _ ⟨.int<|g i j,H,I.tok _,⟨_,rfl⟩,q⟩
def Px{f:af->af->Sem af}{g:Int->Int->Bool}
  (rule:∀(i j:Int) (t u:Tok) (s:aC) (Q:af->aC->Prop) (E:af->aC->Prop),Q (.bool<|g i j) s->wpAny (model X.prog X.w) X.A (f (.int i t)<|.int j u) Q E s) :
  mL X f (QL λi j=>.bl<|g i j):=by
 gn_on;obtain⟨i,j,rfl,rfl,q⟩:=h;cb_eq;obtain⟨t',rfl⟩:=ry;exact rule i j t t' s _ _ ⟨.bl<|g i j,H,I,rfl,q⟩
abbrev XG (i j:Int):Prop:=0<=j/\j<=1000000/\i.natAbs<2 ^ 64
abbrev NP (i j:Int):Prop:=(-(2 ^ 64)<i/\i<2 ^ 64)\/(-(2 ^ 64)<j/\j<2 ^ 64)
def NP.ok{i j:Int}(h:NP i j):IntMulOk i j:=by
 rcases h with⟨h1,h2⟩|⟨h1,h2⟩
 ·exact .of_left (intBits_le_64 h1 h2)
 ·exact .of_right<|intBits_le_64 h1 h2
def TH:mL X (binaryOp .Add) (QL λi j=>.int<|i+j):=U6 λ_ _ _ _ _ _ _ q=>add_int q
def Ug:mL X (binaryOp .Sub) (QL λi j=>.int<|i-j):=U6 λ_ _ _ _ _ _ _ q=>sub_int q
def SJ:mL X (binaryOp .Mult) (rI NP λi j=>.int<|i * j):=Wq λ_ _ _ _ _ _ _ hc q=>mul_int q hc.ok
def SY:mL X (binaryOp .Mod) (rI (λ_ j=>0<j) λi j=>.int<|i % j):=Wq λi j _ _ _ _ _ hc q=>by
 have h1:(0:Int)<j:=hc;exact mod_int' ()<|by rw[Int.fmod_eq_emod_of_nonneg i ()];exact q
def RB:mL X (binaryOp .Pow) (rI XG λi j=>.int<|i ^ j.toNat):=Wq λ_ _ _ _ _ _ _ hc q=>pow_int_small hc.1 hc.2.1 hc.2.2 q
def Yx{f:af->Sem af}{g:Int->Int}
  (rule:∀(i:Int) (t:Tok) (s:aC) (Q:af->aC->Prop) (E:af->aC->Prop),Q (.int (g i) s.toks) { s with toks:=s.toks+1 }->wpAny (model X.prog X.w) X.A (f<|.int i t) Q E s) :
  WD X f (rU λi=>.int<|g i):=by
 intro pins s σ H x v Q I rx h;obtain⟨i,rfl,q⟩:=h;cb_eq;exact rule i t s _ _ ⟨.int<|g i,H,I.tok _,⟨_,rfl⟩,q⟩
def RP:WD X (unaryOp .USub) (rU λi=>.int<|-i):=Yx λ_ _ _ _ _ q=>neg_int q
end
section
variable {X:Cx}{a b c:aE}{ta tb tc:TE}{pos:Pos}
def Tf{H:Hp}{Q:VK}{k:Bool}(I:Inv X pins σ H s)(q:Q (.bl k) H)(e:k=k'):EP X pins σ Q (.bool k') s:=by
 subst e;exact⟨.bl k,H,I,rfl,q⟩
def Wc:mL X (compareOp .Lt) (QL λi j=>.bl<|decide<|i<j):=Px λ_ _ _ _ _ _ _ q=>lt_int q
def Vf:mL X (compareOp .LtE) (QL λi j=>.bl<|decide<|i<=j):=Px λ_ _ _ _ _ _ _ q=>le_int q
def Wm:mL X (compareOp .Gt) (QL λi j=>.bl<|decide<|j<i):=Px λ_ _ _ _ _ _ _ q=>gt_int q
def V4:mL X (compareOp .GtE) (QL λi j=>.bl<|decide<|j<=i):=Px λ_ _ _ _ _ _ _ q=>ge_int q
def Th:mL X (compareOp .Is) (λx y H Q=>y=.non/\Q (.bl<|decide<|x=.non) H):=by
 gn_on;obtain⟨rfl,q⟩:=h
 cases ry
 refine is_none_gen (Tf I q ?_)
 cases x<;>first
  | (cases rx;rfl)
  | (obtain⟨t,rfl⟩:=rx;rfl)
def Lu(b:aE)(h:op≠.In:=by decide)(h2:op≠.NotIn:=by decide):behindInMarks op b=false:=by
 have e1:(op == CmpOp.In)=false:=by cases op<;>first|rfl|exact absurd rfl h
 have e2:(op == CmpOp.NotIn)=false:=by cases op<;>first|rfl|exact absurd rfl h2
 cases b<;>simp[behindInMarks,e1,e2]
def Oz{op:CmpOp}{r:R2}(ho:mL X (compareOp op) r)(ha:PE X a ta)(hb:PE X b tb)(hm:behindInMarks op b=false):PE X (.Compare a [op] [b] pos) (Wa r ta tb):=by
 kd_p;exact wpAny_Compare1 (Rb ha hb I h λv u s2 x y H2 I2 rx ry q=>ho pins s2 σ H2 x y v u Q I2 rx ry q) hm
abbrev Wj (t:TE):TT:=λσ H Q=>t σ H λx H'=>∃k,x=.bl k/\Q k H'
def N6{op:CmpOp}{r:R2}(ho:mL X (compareOp op) r)(ha:PE X a ta)(hb:PE X b tb)(hm:behindInMarks op b=false):PT X (.Compare a [op] [b] pos) (Wj<|Wa r ta tb):=by
 kd_p;refine wpAny_isTrue_Compare1 (j3 (ha pins s σ H _ I h) λv s1 ⟨x,H1,I1,r1,q1⟩=>j3 (hb pins s1 σ H1 _ I1 q1) λu s2 ⟨y,H2,I2,r2,q2⟩=>
  j3 (ho pins s2 σ H2 x y v u _ I2 r1 r2 q2) λc s3 ⟨z,H3,I3,r3,k,e,q3⟩=>?_) hm
 subst e
 cases r3
 exact c9 ⟨H3,I3,q3⟩
abbrev JW (r r':R2)(ta tb tc:TE):TE:=λσ H Q=>ta σ H λx H1=>tb σ H1 λy H2=>r x y H2 λz H3=>∃k,z=.bl k /\
 (if k=true then tc σ H3 λw' H4=>r' y w' H4 Q else Q (.bl false) H3)
def LX{r r':R2}(ho:mL X (compareOp op) r)(ho':mL X (compareOp op') r')(ha:PE X a ta)(hb:PE X b tb)(hc:PE X c tc)
  (hm:lastMarks [op,op'] [b,c]=false:=by with_unfolding_all rfl):PE X (.Compare a [op,op'] [b,c] pos) (JW r r' ta tb tc):=by
 kd_p;refine Compare_chain (j3 (ha pins s σ H _ I h) λv s1 ⟨x,H1,I1,r1,q1⟩=>chain_link (j3 (hb pins s1 σ H1 _ I1 q1) λu s2 ⟨y,H2,I2,r2,q2⟩=>
  j3 (ho pins s2 σ H2 x y v u _ I2 r1 r2 q2) λd s3 ⟨z,H3,I3,r3,k,e,q3⟩=>?_)) hm
 subst e
 cases r3
 refine c9 ?_
 cases k with
 | false=>exact ite_ff ⟨.bl false,H3,I3,rfl,q3⟩
 | true=>exact ite_tt<|chain_last<|j3 (hc pins s3 σ H3 _ I3 q3) λw' s4 ⟨z',H4,I4,r4,q4⟩=>ho' pins s4 σ H4 y z' u w' Q I4 r2 r4 q4
abbrev RQ (K:au)(x:V)(H:Hp)(k:Bool):Prop:=
 match x with
 | .non=>k=false
 | .bl b=>k=b
 | .int i=>k=(i != 0)
 | .str y=>y.length<=sizeLine/\k=((y.length:Int) != 0)
 | .byt y=>y.size<=sizeLine/\k=((y.size:Int) != 0)
 | .ref p=>(∃xs,mP K H p xs/\k=!xs.isEmpty)\/(∃xs,nk K H p xs/\k=!xs.isEmpty)\/∃kvs,H p=some (.dK kvs)/\k=!kvs.isEmpty
 | _=>False
def Dt{κ:Type}{kvs:List<|κ×V}{vs:List<|κ×af}(r:KV kvs vs):(!vs.isEmpty)=!kvs.isEmpty:=by
 cases r<;>rfl
def yb{xs:List V}{its:ap}(r:Vals xs its):(!its.toArray.isEmpty)=!xs.isEmpty:=by
 cases r<;>simp
def sC:(sizeLine:Nat)<2 ^ 63:=by rw[cH];decide
def TL:Xc X (λx H Q=>∃k,RQ X.K x H k/\Q k H):=by
 intro pins s σ H x v Q I rx h;obtain⟨k,e,q⟩:=h;have hl:=sC;have hs:sizeLine=16777216:=cH
 cases x with
 | non=>
  cases rx
  have e':k=false:=e;subst e';exact truthy_none ⟨H,I,q⟩
 | bl b=>
  cases rx
  have e':k=b:=e;subst e';exact c9 ⟨H,I,q⟩
 | int i=>
  cb_eq;have e':k=(i != 0):=e;subst e';exact PySem.P.truthy_int ⟨H,I,q⟩
 | str y=>
  cb_eq;obtain⟨hy,e'⟩:y.length<=sizeLine/\k=((y.length:Int) != 0):=e;subst e';exact PySem.P.truthy_str () ⟨H,I.tok _,q⟩
 | byt y=>
  cb_eq;obtain⟨hy,e'⟩:y.size<=sizeLine/\k=((y.size:Int) != 0):=e;subst e';exact PySem.W.truthy_bytes () ⟨H,I.tok _,q⟩
 | ref p=>
  cases rx
  have e':(∃xs,mP X.K H p xs/\k=!xs.isEmpty)\/(∃xs,nk X.K H p xs/\k=!xs.isEmpty)\/∃kvs,H p=some (.dK kvs)/\k=!kvs.isEmpty:=e
  rcases e' with⟨xs,hx,e'⟩|⟨xs,hx,e'⟩|⟨kvs,hx,e'⟩
  ·subst e';obtain⟨its,r,pl,hz⟩:=I.list hx;have hlen:=r.length;exact wpAny_truthy_list pl.isList (by dsimp[aZ];lia) ⟨H,I.tok _,by rw[yb r];exact q⟩
  ·subst e';obtain⟨its,r,pl,hz⟩:=I.tuple hx;have hlen:=r.length;exact truthy_tuple pl (by dsimp[aZ];lia) ⟨H,I.tok _,by rw[yb r];exact q⟩
  ·subst e';obtain⟨hz,hS,vs,r,m⟩:kvs.length<=sizeLine/\(p == sysModules)=false/\∃vs,KV kvs vs/\s.heap.DictOf (jz X.prog X.w) p vs:=I.hok p _ hx;have hlen:kvs.length=vs.length:=ie r;exact wpAny_truthy_dict hS m () ⟨H,I.tok _,by rw[Dt r];exact q⟩
 | _=>exact(show False from e).elim
def KI(ha:PE X a ta)(he:∀whole,isTrue a X.env whole=(do let v <- whole;standAt a.pos;holding [v] (truthy v))) :
  PT X a (λσ H Q=>ta σ H λx H'=>∃k,RQ X.K x H' k/\Q k H'):=by
 kd_p;exact isTrue_plain (j3 (ha pins s σ H _ I h) λv s1 ⟨x,H1,I1,r1,q1⟩=>TL pins s1 σ H1 x v Q I1 r1 q1)<|he _
def D9:mL X (binaryOp .Add) (λx y H Q=>∃i j,x=.str i/\y=.str j/\i.length+j.length<=sizeLine/\Q (.str<|i++j) H):=by
 gn_on;obtain⟨i,j,rfl,rfl,hz,q⟩:=h;cb_eq;obtain⟨t',rfl⟩:=ry;exact add_str (λt' tk=>⟨.str<|i++j,H,I.tok _,⟨_,rfl⟩,q⟩) hz
def vals1{x:V}(r:Vals [x] us):∃u,us=[u]/\RelV x u:=by
 cases r with
 | cons r1 r2=>cases r2;exact⟨_,rfl,r1⟩
def vals2{x:V}(r:Vals [x,y] us):∃u w',us=[u,w']/\RelV x u/\RelV y w':=by
 cases r with
 | cons r1 r2=>
  cases r2 with
  | cons r3 r4=>cases r4;exact⟨_,_,rfl,r1,r3⟩
def HU(hc:X.calm=true):jw X (.builtin "max") (λxs H Q=>∃i j,xs=[.int i,.int j]/\Q (.int<|if j>i then j else i) H):=by
 kt_k;obtain⟨i,j,rfl,q⟩:=h;obtain⟨u,w',rfl,⟨t,rfl⟩,⟨t',rfl⟩⟩:=vals2 r;refine max_two_ints (I.ok.hd hc) λh' tk k=>⟨_,H,I.kept k,?_,q⟩;by_cases hj:j>i
 ·rw[aJ hj,aJ hj];exact⟨_,rfl⟩
 ·rw[aK hj,aK hj];exact⟨_,rfl⟩
def HQ(hc:X.calm=true):jw X (.builtin "min") (λxs H Q=>∃i j,xs=[.int i,.int j]/\Q (.int<|if j<i then j else i) H):=by
 kt_k;obtain⟨i,j,rfl,q⟩:=h;obtain⟨u,w',rfl,⟨t,rfl⟩,⟨t',rfl⟩⟩:=vals2 r;refine min_two_ints (I.ok.hd hc) λh' tk k=>⟨_,H,I.kept k,?_,q⟩;by_cases hj:j<i
 ·rw[aJ hj,aJ hj];exact⟨_,rfl⟩
 ·rw[aK hj,aK hj];exact⟨_,rfl⟩
abbrev Xf (K:au)(x:V)(H:Hp)(n:Nat):Prop:=
 match x with
 | .str y=>y.length<=sizeLine/\n=y.length
 | .byt y=>y.size<=sizeLine/\n=y.size
 | .ref p=>(∃xs,mP K H p xs/\n=xs.length)\/∃xs,nk K H p xs/\n=xs.length
 | _=>False
def LN:jw X (.builtin "len") (λxs H Q=>∃x n,xs=[x]/\Xf X.K x H n/\Q (.int n) H):=by
 kt_k;obtain⟨x,n,rfl,e,q⟩:=h;kcj_m;have hl:=sC;have hs:sizeLine=16777216:=cH
 cases x with
 | str y=>
  cb_eq;obtain⟨hy,e'⟩:y.length<=sizeLine/\n=y.length:=e;subst e';exact len_str () ⟨.int _,H,I.tok _,⟨_,rfl⟩,q⟩
 | byt y=>
  cb_eq;obtain⟨hy,e'⟩:y.size<=sizeLine/\n=y.size:=e;subst e';exact PySem.W.len_bytes () ⟨.int _,H,I.tok _,⟨_,rfl⟩,q⟩
 | ref p=>
  cases rx
  have e':(∃xs,mP X.K H p xs/\n=xs.length)\/∃xs,nk X.K H p xs/\n=xs.length:=e
  rcases e' with⟨xs,hx,e'⟩|⟨xs,hx,e'⟩
  ·subst e';obtain⟨its,r',pl,hz⟩:=I.list hx;have hlen:=r'.length;exact Calls.call_len_list pl.isList (by dsimp[aZ];lia) ⟨.int xs.length,H,I.tok _,⟨_,by dsimp[aZ];rw[hlen]⟩,q⟩
  ·subst e';obtain⟨its,r',pl,hz⟩:=I.tuple hx;have hlen:=r'.length;exact len_tuple pl (by dsimp[aZ];lia) ⟨.int xs.length,H,I.tok _,⟨_,by dsimp[aZ];rw[hlen]⟩,q⟩
 | _=>exact(show False from e).elim
end
structure ObjM (h:aq)(x dx C:ak)(mA:Str->ba):Prop where
 obj:h.get? x=some (PySem.W.instObj C dx)
 ns:h.Ns1 dx mA
 ne:dx≠x
def Ij{h:aq}{mA:Str->ba}(n:h.Ns1 dx mA):∃od,h.get? dx=some od/\∀name,PySem.W.lookIn name od=some (mA name):=by
 obtain⟨o,es,ep,ho,hd,hk,_,hm⟩:=n;refine⟨o,ho,λname=>?_⟩;have e:=hm name;unfold nsFind findBy at e;rw[<- Array.find?_toList]at e;unfold PySem.W.lookIn;rw[hd];dsimp only;split
 ·rename_i y q;rw[q]at e;exact c6 some e
 ·rename_i q;rw[q]at e;have a:es.toList.any (·.refKey)=false:=by
   rw[List.any_eq_false];intro y hy;obtain⟨z,t,hkey⟩:=hk y<|Array.mem_toList_iff.mp hy;simp[DictEntry.refKey,hkey]
  have a':¬es.toList.any (·.refKey)=true:=by rw[a];exact bG
  rw[aK a'];exact c6 some e
def ObjM.look{x:ak}{mA:Str->ba}(I:ObjM h x dx C mA):∃od,PySem.W.InstAt h x (PySem.W.instObj C dx) C (some od)/\∀name,PySem.W.lookIn name od=some (mA name):=
 let⟨od,ho,hl⟩:=Ij I.ns
 ⟨od,⟨I.obj,rfl,rfl,ho⟩,hl⟩
def t_.some_of{v:V}(r:t_ (some v) o):∃u,o=some u/\RelV v u:=by
 cases o with
 | none=>exact(show False from r).elim
 | some u=>exact⟨u,rfl,r⟩
section
variable {P:aj}{w:ah}{H:Hp}{h:aq}{a C dx:ak}{fs:List (Str×V)}
def Nl(hok:rV P w H h)(e:H a=some (.ins C dx fs)):∃mA,ObjM h a dx C mA/\(∀f,t_ (fs.lookup f)<|mA f)/\PySem.Within mA (fs.map (·.1))/\fs.length<=1000/\H dx=some (.own a):=by
 obtain⟨d,z,ne,ob,mA,n,r,q⟩:=(show jG P w H h a (.ins C dx fs)from hok a _ e);exact⟨mA,⟨ob,n,ne⟩,r,q,z,d⟩
end
structure Cls (K:au)(C:ak):Prop where
 pg:PySem.W.plainGet K C Str.empty=true
 hd:PySem.W.hasDictIn K C=true
 po:PySem.W.plainOver K C=true
 sa:PySem.W.findIn K (.ref C) "__setattr__" = some (some<|.builtin "object.__setattr__")
def Cls.get{K:au}(c:Cls K C)(f:Str):PySem.W.plainGet K C f=true:=c.pg
structure Con (K:au)(C:ak)(f:Str)(v:V)(u:af):Prop where
 at_:PySem.W.findIn K (.ref C) f=some (some u)
 rel:RelV v u
 get:PySem.W.specialIn K u "__get__" = some none
 cp:PySem.W.copiedNames.contains f=false
structure Meth (K:au)(C:ak)(m:Str)(f:ak):Prop where
 at_:PySem.W.findIn K (.ref C) m=some (some<|.ref f)
 fn:PySem.W.isFn K (.ref f)=true
 kp:PySem.W.keepIn K (.ref f)=true
section
variable {X:Cx}{pins:bj}{σ:St}{H:Hp}{s:aC}{A:aA}{E:af->aC->Prop}{Q:af->aC->Prop}{c:af}{b:Bool}
inductive TyOf (K:au) (H:Hp):V->af->Prop where
 | non:TyOf K H .non (.type "NoneType")
 | bl (x:Bool):TyOf K H (.bl x) (.type "bool")
 | int (i:Int):TyOf K H (.int i) (.type "int")
 | str (x:Str):TyOf K H (.str x) (.type "str")
 | flt (x:UInt64):TyOf K H (.flt x) (.type "float")
 | lst {a:ak} {xs:List V} (e:H a=some (.lst xs)):TyOf K H (.ref a) (.type "list")
 | frz {a:ak} {o:Obj} {xs:List V} (e:H a=some (.frz o<|.lst xs)):TyOf K H (.ref a) (.type "list")
 | tup {a:ak} {xs:List V} (e:H a=some (.tup xs)):TyOf K H (.ref a) (.type "tuple")
 | dK {a:ak} {kvs:List<|Key×V} (e:H a=some (.dK kvs)):TyOf K H (.ref a) (.type "dict")
 | dT {a:ak} {kvs:List<|List Key×V} (e:H a=some (.dT kvs)):TyOf K H (.ref a) (.type "dict")
 | ins {a C dx:ak} {fs:List<|Str×V} (e:H a=some (.ins C dx fs)) (cl:Cls K C) (ha:PySem.W.findIn K (.ref C) "__class__" = some (some<|.builtin "object.__class__"))
   (hn:PySem.W.specialIn K (.builtin "object.__class__") "__get__" = some (some<|.builtin "getset_descriptor.__get__")) (htk:PySem.W.takesIn K (.builtin "object.__class__")=some true)
   (hm:PySem.W.mroIn K C (.type "object")=some true):TyOf K H (.ref a)<|.ref C
def HD{x:V}(I:Inv X pins σ H s)(rx:RelV x u)(ty:TyOf X.K H x t)(e:PySem.W.kitOne X.K t c=some b)(h:∀tk,Q (.bool b) { s with toks:=tk }) :
  wpAny (model X.prog X.w) A (call (.builtin "isinstance") [u,c]) Q E s:=by
 cases ty with
 | non=>cases(show u=Value.none from rx);exact cu PySem.W.kitx_none I.uZ True.intro e (λz=>nomatch z) h
 | bl y=>cases(show u=Value.bool y from rx);exact cu PySem.W.kitx_bool I.uZ True.intro e (λz=>nomatch z) h
 | int i=>obtain⟨t,q⟩:=(show ∃t,u=Value.int i t from rx);cases q;exact cu PySem.W.kitx_int I.uZ True.intro e (λz=>nomatch z) h
 | str y=>obtain⟨t,q⟩:=(show ∃t,u=Value.str y t from rx);cases q;exact cu PySem.W.kitx_str I.uZ True.intro e (λz=>nomatch z) h
 | flt y=>obtain⟨t,q⟩:=(show ∃t,u=Value.float y t from rx);cases q;exact cu PySem.W.kitx_float I.uZ True.intro e (λz=>nomatch z) h
 | @lst a xs ea=>
  cases(show u=Value.ref a from rx)
  obtain⟨_,_,n,_,h1⟩:=(show jG X.prog X.w H s.heap a (.lst xs)from I.hok a _ ea);exact cu PySem.W.kitx_list I.uZ ⟨_,h1,rfl⟩ e (λz=>nomatch z) h
 | @frz a ob xs ea=>
  cases(show u=Value.ref a from rx)
  obtain⟨_,_,_,n,_,h1⟩:=(show jG X.prog X.w H s.heap a (.frz ob<|.lst xs)from I.hok a _ ea);exact cu PySem.W.kitx_list I.uZ ⟨_,h1,rfl⟩ e (λz=>nomatch z) h
 | @tup a xs ea=>
  cases(show u=Value.ref a from rx)
  obtain⟨_,_,_,p⟩:=(show jG X.prog X.w H s.heap a (.tup xs)from I.hok a _ ea);obtain⟨o,h1,h2,_⟩:=p;exact cu PySem.W.kitx_tuple I.uZ ⟨o,h1,h2⟩ e (λz=>nomatch z) h
 | @dK a kvs ea=>
  cases(show u=Value.ref a from rx)
  obtain⟨_,_,vs,_,p⟩:=(show jG X.prog X.w H s.heap a (.dK kvs)from I.hok a _ ea);obtain⟨o,es,ep,h1,h2,_⟩:=p;exact cu PySem.W.kitx_dict I.uZ ⟨o,h1,h2.1⟩ e (λz=>nomatch z) h
 | @dT a kvs ea=>
  cases(show u=Value.ref a from rx)
  obtain⟨_,_,xs,_,o,es,ep,h1,h2,_⟩:=(show jG X.prog X.w H s.heap a (.dT kvs)from I.hok a _ ea);exact cu PySem.W.kitx_dict I.uZ ⟨o,h1,h2.1⟩ e (λz=>nomatch z) h
 | @ins a C dx fs ea cl ha hn htk hm=>
  cases(show u=Value.ref a from rx)
  obtain⟨mA,O,_⟩:=Nl I.hok ea;obtain⟨od,J,_⟩:=O.look;exact cu (PySem.W.kitx_own (cl.get _) cl.hd ha hn htk hm) I.uZ J e (λz=>nomatch z) h
end
structure Room (k:Nat)(A:aA):Prop where
 hd:A.handled=none
 dp:A.depth+3 * k+5<recursionLimit
 un:A.units+16 * k+200<cLine
def Room.mono{k:Nat}{A:aA}(r:Room k A)(h:j<=k):Room j A:=⟨r.hd,by have:=r.dp;lia,by have:=r.un;lia⟩
def Room.deeper{k:Nat}{A:aA}(r:Room (k+1) A)(env:Env):Room k (A.deeper env):=
 ⟨r.hd,by have:=r.dp;show A.depth+1+3 * k+5<_;lia,by have:=r.un;show A.units+3+16 * k+200<_;lia⟩
def Room.depth{k:Nat}{A:aA}(r:Room k A):A.depth<recursionLimit:=by have:=r.dp;lia
def Room.units{k:Nat}{A:aA}(r:Room k A):A.units+64<cLine:=by have:=r.un;lia
abbrev XH:TA:=λ_ H Q=>Q [] H
abbrev VY (ta:TE)(tr:TA):TA:=λσ H Q=>ta σ H λx H1=>tr σ H1 λxs H2=>Q (x::xs) H2
section
variable {X:Cx}{e:aE}{es:List aE}{te:TE}{t:TA}{pos:Pos}
def qi:PA X [] XH:=λ_ _ _ _ H Q I h=>Calls.spliced_nil ⟨[],H,I,.nil,h⟩
def kZ(ha:PE X e te)(hr:PA X es t)(hs:starEach (e::es) X.env=(false,eval e X.env)::starEach es X.env:=by rfl):PA X (e::es) (VY te t):=by
 intro pos pins s σ H Q I h;rw[hs]
 skip
 refine Calls.spliced_cons<|j3 (ha pins s σ H _ I h) λu s1 ⟨x,H1,I1,r1,q1⟩=>?_;exact j3 (hr pos pins s1 σ H1 _ I1 q1) λus s2 ⟨xs,H2,I2,r2,q2⟩=>⟨x::xs,H2,I2,.cons r1 r2,q2⟩
abbrev XT (t:TA):TE:=λσ H Q=>t σ H λxs H1=>xs.length<=sizeLine/\∀p,H1 p=none->Q (.ref p) (upd H1 p<|.tup xs)
abbrev W_ (t:TA):TE:=λσ H Q=>t σ H λxs H1=>xs.length<=sizeLine/\∀p,H1 p=none->Q (.ref p) (upd H1 p<|.lst xs)
def Ro{x1}(h:PA X es t):PE X (.Tuple es x1 pos) (XT t):=by
 intro pins s σ H Q I hq;refine wpAny_Tuple_spliced (j3 (h pos pins s σ H _ I hq) λus s1 ⟨xs,H1,I1,r,z,q⟩=>⟨by rw[<- r.length];exact z,?_⟩);have hf:H1 s1.heap.objs.size=none:=I1.hok.fresh<|aO _;refine⟨.ref s1.heap.objs.size,upd H1 s1.heap.objs.size<|.tup xs,I1.laid (t':=s1.toks) (λb u e=>aP _ e) (aO _) ?_,rfl,q _ hf⟩;exact⟨z,us,r,⟨_,bD _ rfl,rfl,rfl,_,rfl⟩⟩
def SX(h:PA X es t):PE X (.List es pos) (W_ t):=by
 intro pins s σ H Q I hq;refine wpAny_List_spliced (j3 (h pos pins s σ H _ I hq) λus s1 ⟨xs,H1,I1,r,z,q⟩=>⟨by rw[<- r.length];exact z,?_⟩);have hf:H1 s1.heap.objs.size=none:=I1.hok.fresh<|aO _;refine⟨.ref s1.heap.objs.size,upd H1 s1.heap.objs.size<|.lst xs,I1.laid (t':=s1.toks) (λb u e=>aP _ e) (aO _) ?_,rfl,q _ hf⟩;exact⟨z,us,0,r,bD _ rfl⟩
end
meta abbrev Sp:=List V->Hp->VK->XK->Prop
meta abbrev Kq:=List Env->Hp->aC->XK->af->aC->Prop
structure Env0 (P:aj)(w:ah)(K:au)(mg:Str->ba)(base:aq)(A:aA)(outer:List Env)(s:aC)(H:Hp):Prop where
 frames:A.frames=some outer
 mod:Mod K mg base
 bs:∀b o,base.get? b=some o->s.heap.get? b=some o/\H b=none
 bsz:base.objs.size<=s.heap.objs.size
 qp:s.heap.FunFrames base outer
 frf:∀b∈frs outer,H b=none
 hok:rV P w H s.heap
 bare:AllBare s.gens
abbrev CE (outer:List Env)(P:aj)(w:ah)(H:Hp)(s:aC)(Q:VK)(u:af)(s':aC):Prop:=
 ∃v H',s'.os=s.os/\AllBare s'.gens/\Un (frs outer) [] H H' s.heap s'.heap/\rV P w H' s'.heap/\RelV v u/\Q v H'
abbrev CR (CX:Kq)(outer:List Env)(P:aj)(w:ah)(H:Hp)(s:aC)(Q:VK)(E:XK)(r:Result)(s':aC):Prop:=
 match r with
 | .ok (.ret u)=>CE outer P w H s Q u s'
 | .ok _=>False
 | .error e=>CX outer H s E e s'
structure FnOk (P:aj)(w:ah)(K:au)(mg:Str->ba)(base:aq)(CX:Kq)(k:Nat)(f:ak)(fd:FuncData)(ps:am)(sp:Sp):Prop where
 len:∀vs H Q E,sp vs H Q E->vs.length=ps.length
 run:∀(A:aA) (outer:List Env) (s:aC) (H:Hp) (args:Args) (us:ap) (vs:List V) (Q:VK) (E:XK),Room k A->Env0 P w K mg base A outer s H->BindsTo s fd args (ps.zip us)->Vals vs us->sp vs H Q E ->
  codeAny (model P w) A (.call (.ref f) args) (CR CX outer P w H s Q E) s
section
variable {X:Cx}{pins:bj}{σ:St}{H:Hp}{s s':aC}
def Inv.SW(I:Inv X pins σ H s):Env0 X.prog X.w X.K X.mg X.base X.A X.stack s H:=
 ⟨I.ok.frames,I.ok.mod,I.bs,bW I.ok.bsz I.sz,I.stack,I.vF,I.hok,I.bare⟩
def Inv.after{Q:VK}(I:Inv X pins σ H s)(h:CE X.stack X.prog X.w H s Q u s'):EP X pins σ Q u s':=by
 obtain⟨v,H',os,bare,un,hok,r,q⟩:=h;obtain⟨hh,g,d,t,os'⟩:=s';obtain rfl:os'=s.os:=os;exact⟨v,H',I.call (h':=hh) (g':=g) (d':=d) (t':=t) (ch:=[]) un hok bare λb z=>absurd z<|by simp,r,q⟩
end
abbrev LC (sp:Sp)(dvs:List V)(E:XK)(t:TA):TE:=λσ H Q=>t σ H λvs H1=>sp (vs++dvs) H1 Q E
abbrev Binds (K:au)(fd:FuncData)(ps:am)(ds:ap):Prop:=
 ∀(s:aC) (us:ap),K.In s.heap->(us++ds).length=ps.length->BindsTo s fd ⟨us,[]⟩ (ps.zip<|us++ds)
def Binds.all{K:au}{ps:am}(h:∀us:ap,us.length=ps.length->bindArgs fd ⟨us,[]⟩=pure (ps.zip us)):Binds K fd ps []:=λs us _ hl=>by
 rw[bK]at hl ⊢;exact .of_eq<|h us hl
abbrev Passes (CX:Kq)(X:Cx)(E:XK):Prop:=∀(pins:bj) (σ:St) (H:Hp) (s:aC) (e:af) (s':aC),Inv X pins σ H s->CX X.stack H s E e s'->X.xe e s'
section
variable {X:Cx}{CX:Kq}{k:Nat}{f C:ak}{fd:FuncData}{ps:am}{sp:Sp}{dvs:List V}{ds:ap}{E:XK}{x:Str}{p pos:Pos}{e:aE}{es:List aE}{t:TA}
def TN{H:Hp}{Q:VK}(F:FnOk X.prog X.w X.K X.mg X.base CX k f fd ps sp)(hr:Room k X.A)(hb:Binds X.K fd ps ds)(hd:Vals dvs ds)(hx:Passes CX X E)
  (I:Inv X pins σ H s) (r:Vals vs us) (h:sp (vs++dvs) H Q E):wpAny (model X.prog X.w) X.A (call (.ref f) us) (EP X pins σ Q) X.xe s:=by
 have r2:Vals (vs++dvs) (us++ds):=r.append hd;have hl:(us++ds).length=ps.length:=by rw[<- r2.length];exact F.len _ _ _ _ h
 refine gO (e_ (F.run X.A X.stack s H ⟨us,[]⟩ (us++ds) (vs++dvs) Q E hr I.SW (hb s us I.uZ hl) r2 h) λr s' hq=>?_)
 cases r with
 | error e=>exact hx pins σ H s e s' I hq
 | ok fl=>
  cases fl with
  | ret u=>exact I.after hq
  | next=>exact False.elim hq
  | brk=>exact False.elim hq
  | cont=>exact False.elim hq
def Gs(F:FnOk X.prog X.w X.K X.mg X.base CX k f fd ps sp)(hr:Room k X.A)(hg:Gl X x)(hm:X.mg x=some (.ref f))(hk:PySem.W.keepIn X.K (.ref f)=true)(hb:Binds X.K fd ps ds)(hd:Vals dvs ds)(hx:Passes CX X E)
  (ha:PA X (e::es) t) (hdb:(x == ("__debug__" : Str))=false:=by decide) (he:starEach (e::es) X.env=(false,eval e X.env)::starEach es X.env:=by rfl) (hpl:(backTo pos<|starEach es X.env).any (·.1)=false:=by rfl) :
  PE X (.Call (.Name x p) (e::es) [] pos) (LC sp dvs E t):=by
 kd_p;refine eg<|rQ I hg hm ?_ hdb;refine gP (h₀:=X.base) I.ok.mod.kin hk (j3 (ha pos pins s σ H _ I h) λus s1 ⟨vs,H1,I1,r,q⟩=>⟨I1.uZ,?_⟩) he hpl;exact TN F hr hb hd hx I1 r q
structure Mk (K:au)(C f:ak):Prop where
 makes:PySem.W.makesIn K C=true
 init:PySem.W.findIn K (.ref C) "__init__" = some (some<|.ref f)
 fn:PySem.W.isFn K (.ref f)=true
 kp:PySem.W.keepIn K (.ref C)=true
end
section
variable {fd:FuncData}{ps ks:am}
structure KBinds (K:au)(fd:FuncData)(ps ks:am)(g:ap->ap->ap)(gV:List V->List V->List V):Prop where
 to:∀(s:aC) (us ws:ap),K.In s.heap->(g us ws).length=ps.length->BindsTo s fd ⟨us,ks.zip ws⟩ (ps.zip<|g us ws)
 rel:∀{vs:List V} {us:ap} {zs:List V} {ws:ap},Vals vs us->Vals zs ws->Vals (gV vs zs) (g us ws)
end
structure FnScope (N P:am)(sc:Scope):Prop where
 kind:sc.kind=.function
 co:sc.isCoroutine=false
 gen:sc.isGenerator=false
 nd:N.Nodup
 pre:N.take P.length=P
 par:∀x∈P,sc.names.lookup x=some .local\/sc.names.lookup x=some .cell
 nofree:∀y∈sc.names,y.2≠.free
theorem zl{kindOf:Str->Option NameKind}{x:Str}:∀{binds:List<|Str×af}{m:Str->ba},(∀v,(x,v)∉binds)->bindL kindOf binds m x=m x
 | [],_,_=>rfl
 | (n,v)::r,m,h=>by
  unfold bindL;rw[zl λw hw=>h w<|aQ _ hw];split
  ·have:x≠n:=by rintro rfl;exact h v aN
   simp[this]
  ·rfl
theorem zC{kindOf:Str->Option NameKind}{x:Str}:∀{binds:List<|Str×af}{m:Str->ba},(∀v,(x,v)∉binds)->bindC kindOf binds m x=m x
 | [],_,_=>rfl
 | (n,v)::r,m,h=>by
  unfold bindC;rw[zC λw hw=>h w<|aQ _ hw];split
  ·rfl
  ·have:x≠n:=by rintro rfl;exact h v aN
   simp[this]
theorem zc{kindOf:Str->Option NameKind}{x:Str}{v:af}:∀{P:am}{vs:ap}{i:Nat}{m:Str->ba},P.Nodup->P[i]?=some x->vs[i]?=some v->kindOf x=some .local ->
  bindL kindOf (P.zip vs) m x=some v
 | [],_,_,_,_,h,_,_=>by simp at h
 | _::_,[],_,_,_,_,h,_=>by simp at h
 | p::P,w::vs,0,m,nd,h1,h2,hk=>by
  simp at h1 h2;subst h1;subst h2;show bindL kindOf ((p,w)::P.zip vs) m p=_;unfold bindL;rw[zl λv hv=>(cP.mp nd).1 (gH hv).1,aJ hk];simp
 | p::P,w::vs,i+1,m,nd,h1,h2,hk=>by
  skip
  unfold bindL;exact zc (i:=i) (cP.mp nd).2 (by simpa using h1) (by simpa using h2) hk
theorem yL{kindOf:Str->Option NameKind}{x:Str}{v:af}:∀{P:am}{vs:ap}{i:Nat}{m:Str->ba},P.Nodup->P[i]?=some x->vs[i]?=some v->kindOf x≠some .local ->
  bindC kindOf (P.zip vs) m x=some v
 | [],_,_,_,_,h,_,_=>by simp at h
 | _::_,[],_,_,_,_,h,_=>by simp at h
 | p::P,w::vs,0,m,nd,h1,h2,hk=>by
  simp at h1 h2;subst h1;subst h2;show bindC kindOf ((p,w)::P.zip vs) m p=_;unfold bindC;rw[zC λv hv=>(cP.mp nd).1 (gH hv).1,aK hk];simp
 | p::P,w::vs,i+1,m,nd,h1,h2,hk=>by
  skip
  unfold bindC;exact yL (i:=i) (cP.mp nd).2 (by simpa using h1) (by simpa using h2) hk
abbrev start (N:am)(vs:List V):St:=vs.map some++List.replicate (N.length-vs.length) none
abbrev s_ (CX:Kq)(P:aj)(w:ah)(K:au)(mg:Str->ba)(base:aq)(N:am)(qual:Str)(scope:Scope)(f:ak)(cd:af)(A:aA)(outer:List Env)(s:aC)(H:Hp)(E:XK):Cx where
 prog:=P
 w:=w
 K:=K
 mg:=mg
 base:=base
 A:=A.deeper (envOfC qual scope s.heap.objs.size f cd)
 N:=N
 s₀:=s
 H₀:=H
 env:=envOfC qual scope s.heap.objs.size f cd
 outer:=outer
 stack:=envOfC qual scope s.heap.objs.size f cd::outer
 ex:=[]
 calm:=true
 fn:=λ_=>true
 pn:=[]
 xe:=λe s'=>wpAny (model P w) (A.deeper<|envOfC qual scope s.heap.objs.size f cd) (leaving (envOfC qual scope s.heap.objs.size f cd) e) (λ_ s''=>CX outer H s E e s'') (λe' s''=>CX outer H s E e' s'') s'
def Ci{sc:Scope}{n:Nat}{x:Str}(h:sc.names.lookup x=some .cell):∃c,(cellsFrom n sc.names []).lookup x=some c:=by
 have q:=fO sc.names n []<|.inl h;exact fj.mp q
def zm{CX:Kq}{P:aj}{w:ah}{K:au}{mg:Str->ba}{base:aq}{N ps:am}{scope:Scope}{f:ak}{A:aA}{outer:List Env}{s:aC}{H:Hp}{E:XK}{vs:List V}
  (S:FnScope N ps scope) (hd:A.handled=none) (e0:Env0 P w K mg base A outer s H) (hl:vs.length=ps.length) (r:Vals vs us)
  (x:InCallC s s.heap.objs.size (bindL (envOfC qual scope s.heap.objs.size f cd).kindOf (ps.zip us) λ_=>none) (cellsFrom (s.heap.objs.size+1) scope.names []) (bindC (envOfC qual scope s.heap.objs.size f cd).kindOf (ps.zip us) λ_=>none) s1) :
  Inv (s_ CX P w K mg base N qual scope f cd A outer s H E) [] (start N vs) H s1:=by
 have hpl:ps.length<=N.length:=by have:=c6 List.length S.pre;rw[bL]at this;lia
 obtain⟨h1,tk,rfl,hk⟩:=x.done;have noA:∀b:ak,b∉(s_ CX P w K mg base N qual scope f cd A outer s H E).ex:=λb z=>absurd (show b∈([]:ar)from z) (by simp);refine⟨⟨e0.mod,S.kind,rfl,rfl,aO _,λy z c h1 h2=>?_,λy hy=>?_,λy c _ h=>?_,λ_=>hd,Around.frames_deeper e0.frames,.inr ⟨rfl,rfl⟩,λb z=>absurd z<|noA b,e0.bs,e0.bsz,λb _ _=>noA b,λb z=>absurd z<|noA b,e0.qp,e0.frf⟩,
  rfl,e0.bare,Un.kept hk,⟨_,x.toInCall.ns,λi y v h1 h2 h3=>?_⟩,λy c h=>⟨_,x.cell y c h⟩,e0.hok.fresh<|aO _,λy c h=>?_,λp hp=>absurd (show p∈([]:bj)from hp)<|by simp,e0.hok.kept hk,?_⟩
 ·exact name_of_addr x.apart (dm h1) (dm h2)
 ·have hy:scope.names.lookup y=some .cell\/scope.names.lookup y=some .free:=hy
  rcases hy with hy|hy
  ·exact Ci hy
  ·exact absurd rfl<|S.nofree _<|dm hy
 ·exact iB (x.above y c<|dm h)
 ·have hi:i<vs.length:=by
   unfold start at h2;by_cases hi:i<vs.length
   ·exact hi
   ·rw[gQ<|by simpa using hi]at h2;rw[fL]at h2;split at h2<;>cases h2
  have ha:vs[i]?=some v:=by
   unfold start at h2;rw[bE<|by simpa using hi,bg]at h2
   cases e:vs[i]? with
   | none=>rw[e]at h2;cases h2
   | some a=>rw[e]at h2;cases h2;rfl
  obtain⟨u,hu,rv⟩:=r.get ha;have hp:ps[i]?=some y:=by
   rw[<- S.pre,fm ()];exact h1
  have ndP:ps.Nodup:=by rw[<- S.pre];exact S.nd.sublist (List.take_sublist _ _)
  refine⟨u,rv,?_⟩
  rcases S.par y (aX hp)with k|k
  ·exact .inl ⟨k,zc ndP hp hu k⟩
  ·obtain⟨c,e⟩:=Ci (n:=s.heap.objs.size+1) k;refine .inr ⟨.inl k,c,e,?_⟩;have q:=x.cell y c e;rw[yL ndP hp hu<|by show scope.names.lookup y≠_;rw[k];decide]at q;exact q
 ·exact e0.hok.fresh (iB<|x.above y c<|dm h)
 ·unfold start;show _=N.length;rw[bh,aM,List.length_replicate]
  lia
def PK{CX:Kq}{P:aj}{w:ah}{K:au}{mg:Str->ba}{base:aq}{k:Nat}{f:ak}{kV pm ct:af}
  {osl:Array<|ba} {N ps:am} {sp:Sp} (lk:K.lookup f=some ⟨oc,od,.func<|PySem.W.fnOf name qual params body scope dV kV doc pm an cdv ct,osl⟩) (hcd:PySem.W.codeIn K cdv qual=true) (S:FnScope N ps scope)
  (len:∀vs H Q E,sp vs H Q E->vs.length=ps.length)
  (hbody:∀(A:aA) (outer:List Env) (s:aC) (H:Hp) (vs:List V) (Q:VK) (E:XK),Room k (A.deeper<|envOfC qual scope s.heap.objs.size f cdv)->sp vs H Q E ->
   ∃t,yw (s_ CX P w K mg base N qual scope f cdv A outer s H E) body t/\t { nx:=λ_ H'=>Q .non H',rt:=Q } (start N vs) H) :
  FnOk P w K mg base CX (k+1) f (PySem.W.fnOf name qual params body scope dV kV doc pm an cdv ct) ps sp:=by
 refine⟨len,λA outer s H args us vs Q E hr e0 hb r hsp=>?_⟩;have hl:=len _ _ _ _ hsp;have KX:K.In s.heap:=e0.mod.kin.keeps λb o e=>(e0.bs b o e).1;have lim:s.heap.NoLimit:=e0.mod.nolimit.keeps λb o e=>(e0.bs b o e).1;have hkind:∀y∈ps.zip us,scope.names.lookup y.1=some .local\/(scope.names.lookup y.1=some .cell/\((cellsFrom (s.heap.objs.size+1) scope.names []).lookup y.1).isSome=true):=λ⟨n,v⟩ hy=>by
  rcases S.par n (gH hy).1 with q|q
  ·exact .inl q
  ·exact .inr ⟨q,fO _ _ _<|.inl q⟩
 refine codeAny_call_function hr.depth (KX _ _ lk) rfl S.co S.gen rfl (PySem.W.codeRec_of KX hcd)<|hb _ _ _ _ ?_;refine wpAny_newFunctionEnv_cells S.kind hkind λenv he s1 x=>?_;subst he;refine⟨lim.keeps x.toInCall.keep,codeAny_func ?_⟩;obtain⟨t,ht,hq⟩:=hbody A outer s H vs Q E (hr.deeper _) hsp;have I:Inv (s_ CX P w K mg base N qual scope f cdv A outer s H E) [] (start N vs) H s1:=zm S hr.hd e0 hl r x;refine cJ (ht [] s1 (start N vs) H _ I hq) (λfl s' hs=>?_) λe s' hs=>hs;have fin:∀{σ':St} {H':Hp} {v:V} {u:af},Inv (s_ CX P w K mg base N qual scope f cdv A outer s H E) [] σ' H' s'->RelV v u->Q v H'->CE outer P w H s Q u s':=
  λ{σ' H' v u} J rv q=>⟨v,H',J.os,J.bare,J.base,J.hok,rv,q⟩
 cases fl with
 | ret u=>
  obtain⟨v,σ',H',J,rv,q⟩:=hs;exact fin J rv q
 | next=>
  obtain⟨σ',H',J,q⟩:=hs;exact fin (v:=V.non) (u:=Value.none) J rfl q
 | brk=>
  obtain⟨_,_,_,q⟩:=hs;exact False.elim q
 | cont=>
  obtain⟨_,_,_,q⟩:=hs;exact False.elim q
section
variable {X:Cx}{x:Str}{p pos:Pos}{e:aE}{es:List aE}{t:TA}{id T:String}{r:List V->Hp->VK->Prop}
abbrev WL (r:List V->Hp->VK->Prop)(t:TA):TE:=λσ H Q=>t σ H λvs H1=>r vs H1 Q
def BL(hc:jw X (.builtin id) r)(hg:Gl X x)(hm:X.mg x=none)(hv:bootBuiltins x=some (.builtin id))(ha:PA X (e::es) t)(hn:x ≠ "__name__" := by decide)(hdb:(x == ("__debug__" : Str))=false:=by decide)
  (he:starEach (e::es) X.env=(false,eval e X.env)::starEach es X.env:=by rfl) (hpl:(backTo pos<|starEach es X.env).any (·.1)=false:=by rfl):PE X (.Call (.Name x p) (e::es) [] pos) (WL r t):=by
 kd_p;refine eg<|uA I hg hm hv ?_ hn hdb;exact PyProof.Rows.callWith_builtin1 (j3 (ha pos pins s σ H _ I h) λus s1 ⟨vs,H1,I1,r1,q1⟩=>hc pins s1 σ H1 vs us Q I1 r1 q1) he hpl
def uy(hc:jw X (.type T) r)(hg:Gl X x)(hm:X.mg x=none)(hv:bootBuiltins x=some (.type T))(ha:PA X (e::es) t)(hn:x ≠ "__name__" := by decide)(hdb:(x == ("__debug__" : Str))=false:=by decide)
  (he:starEach (e::es) X.env=(false,eval e X.env)::starEach es X.env:=by rfl) (hpl:(backTo pos<|starEach es X.env).any (·.1)=false:=by rfl):PE X (.Call (.Name x p) (e::es) [] pos) (WL r t):=by
 kd_p;refine eg<|uA I hg hm hv ?_ hn hdb;exact dz (j3 (ha pos pins s σ H _ I h) λus s1 ⟨vs,H1,I1,r1,q1⟩=>hc pins s1 σ H1 vs us Q I1 r1 q1) he hpl
end
end L2
namespace HT
open PySem PyProof.Rows
abbrev lexLt:ae->ae->Bool
 | [],[]=>false
 | [],_::_=>true
 | _::_,[]=>false
 | x::xs,y::ys=>if x=y then lexLt xs ys else decide (x<y)
def qo(x y:Int)(xs ys:ae):lexLt (x::xs) (y::ys)=if x=y then lexLt xs ys else decide (x<y):=rfl
def yr:lexLt [] []=false:=rfl
section
variable {prog:aj}{w:ah}{A:aA}{E:af->aC->Prop}{s:aC}
def OQ{vs ws:ap}{Q:af->aC->Prop}(ht:IsTup s.heap t vs.toArray)(hb:IsTup s.heap b ws.toArray)(hv:vs≠[])
  (h1:ws=[]->Q (.ref t) s) (h2:ws≠[]->Q (.ref s.heap.objs.size) { s with heap:=s.heap.push { cls:=.type "tuple",data:=.seq (vs++ws).toArray }})
  (hsz:vs.length+ws.length<=sizeLine):wpAny (model prog w) A (binaryOp .Add (.ref t)<|.ref b) Q E s:=by
 obtain⟨⟨cls,dd,data,sl⟩,ho,hc,n,hd⟩:=id ht;obtain⟨⟨cls2,dd2,data2,sl2⟩,ho2,hc2,n2,hd2⟩:=id hb;simp only at hc hd hc2 hd2;subst hc hd hc2 hd2;have e:vs.toArray++ws.toArray=(vs++ws).toArray:=by simp
 by_cases hw:ws=[]
 ·exact concat_meets ⟨_,ho,rfl⟩ ⟨_,ho2,rfl⟩ noFill_tuple_add seq_tuple_add fP fM (fq _ _)
   (tuple_addW1 t b vs.toArray ws.toArray n n2 dd dd2 sl sl2 (by simpa using hv)<|by simp[hw]) ⟨ho,ho2,h1 hw⟩
 ·refine concat_meets ⟨_,ho,rfl⟩ ⟨_,ho2,rfl⟩ noFill_tuple_add seq_tuple_add fP fM (fq _ _)
   (tuple_addW2 t b vs.toArray ws.toArray n n2 dd dd2 sl sl2 (by simpa using hv) (by simpa using hw)<|by rw[aZ,aZ];exact hsz) ⟨ho,ho2,?_⟩
  rw[e];exact h2 hw
abbrev Vp (n d:Nat):Option Int->Nat
 | none=>d
 | some v=>if v<0 then(v+(n:Int)).toNat else min v.toNat n
end
end HT
namespace L2
open PySem PySem.Spec PyProof.Rows
meta abbrev TO:=St->Hp->(Option Int->Hp->Prop)->Prop
def intsAre_of{ns:ae}:∀{us:ap},Vals (ns.map V.int) us->IntsAre us ns:=by
 induction ns with
 | nil=>intro us r;rw[map_nil]at r;cases r;exact .nil
 | cons n ns ih=>
  intro us r;rw[bQ]at r
  cases r with
  | cons r1 r2=>
   obtain⟨t,e⟩:=r1;subst e;exact .cons n t<|ih r2
section
variable {X:Cx}{p2:Pos}
abbrev VU (K:au):R2:=λx y H Q=>∃a b xs ys,x=.ref a/\y=.ref b/\nk K H a xs/\nk K H b ys/\xs≠[]/\xs.length+ys.length<=sizeLine /\
 (ys=[]->Q (.ref a) H)/\(ys≠[]->∀p,H p=none->Q (.ref p) (upd H p<|.tup<|xs++ys))
def Vals.A4(r:Vals xs us):us=[] ↔ xs=[]:=by
 cases r with
 | nil=>simp
 | cons _ _=>simp
def OP:mL X (binaryOp .Add) (VU X.K):=by
 gn_on;obtain⟨a,b,xs,ys,rfl,rfl,ha,hb,hx,hz,q1,q2⟩:=h
 cases rx
 cases ry
 obtain⟨its,r1,p1,_⟩:=I.tuple ha;obtain⟨its2,r2,p2,_⟩:=I.tuple hb;refine HT.OQ p1 p2 (λz=>hx<|r1.A4.mp z) (λz=>⟨.ref a,H,I,rfl,q1<|r2.A4.mp z⟩) (λz=>?_) (by rw[<- r1.length,<- r2.length];exact hz);refine⟨.ref s.heap.objs.size,_,I.laid (t':=s.toks) (o:=.tup<|xs++ys) (λb ob q=>aP _ q) (aO _) ?_,rfl,q2 (λw=>z<|r2.A4.mpr w) _<|I.hok.fresh<|aO _⟩;exact⟨by rw[bh];exact hz,_,r1.append r2,ng.new _ _⟩
end
abbrev vV (n:Nat)(i:Int):bi:=if 0<=i then(if i<n then some i.toNat else none)else if -(n:Int)<=i then some (i+n).toNat else none
abbrev oq {α:Type}(xs:List α)(i:Int):Option α:=(vV xs.length i).bind λj=>xs[j]?
def Ek{n:Nat}{i:Int}(h:vV n i=some j):seqIndex? i n=some j/\j<n/\-(n:Int)<=i/\i<n:=by
 unfold vV at h;by_cases h0:0<=i
 ·rw[aJ h0]at h;by_cases h1:i<n
  ·rw[aJ h1]at h;have e:i.toNat=j:=aS h;exact⟨by rw[seqIndex_of h0 h1,e],(),(),h1⟩
  ·rw[aK h1]at h;cases h
 ·rw[aK h0]at h;by_cases h1:-(n:Int)<=i
  ·rw[aJ h1]at h;have e:(i+n).toNat=j:=aS h;exact⟨by rw[seqIndex_neg () h1,e],(),h1,()⟩
  ·rw[aK h1]at h;cases h
def z9{α:Type}{xs:List α}{i:Int}{v:α}(h:oq xs i=some v):∃j,seqIndex? i xs.length=some j/\xs[j]?=some v/\j<xs.length/\-(xs.length:Int)<=i/\i<xs.length:=by
 unfold oq at h
 cases e:vV xs.length i with
 | none=>rw[e]at h;cases h
 | some j=>
  rw[e]at h;obtain⟨h1,h2,h3,h4⟩:=Ek e;exact⟨j,h1,h,h2,h3,h4⟩
def Pc{α:Type}{xs:List α}{j:Nat}{v:α}(h:xs[j]?=some v):oq xs (j:Int)=some v:=by
 have hj:j<xs.length:=(aI.mp h).1;have e:vV xs.length (j:Int)=some j:=by
  unfold vV;rw[aJ (),aJ ()];simp
 unfold oq;rw[e];exact h
def BA{α:Type}(xs:List α)(v:α):oq (xs++[v]) (-1)=some v:=by
 have hl:(xs++[v]).length=xs.length+1:=by simp
 have e:vV (xs++[v]).length (-1)=some xs.length:=by
  unfold vV;rw[hl,aK ⋯,aJ ()];congr 1
  lia
 unfold oq;rw[e]
 skip
 simp
abbrev vn (b:aE):Prop:=∀o i,subscripted b false o i=operate [o,i] (getItem o i)
abbrev N1 (X:Cx)(r:R2):Prop:=
 ∀(value slice:aE) (pins:bj) (s:aC) (σ:St) (H:Hp) (x y:V) (v u:af) (Q:VK),Inv X pins σ H s->RelV x v->RelV y u->r x y H Q ->
  subscripted slice false v u=operate [v,u] (getItem v u)->wpAny (model X.prog X.w) X.A (subscriptTail value slice v u) (EP X pins σ Q) X.xe s
abbrev UC (X:Cx)(id:String)(r:V->List V->Hp->VK->Prop):Prop:=
 ∀(pins:bj) (s:aC) (σ:St) (H:Hp) (x:V) (xs:List V) (v:af) (us:ap) (Q:VK),Inv X pins σ H s->RelV x v->Vals xs us->r x xs H Q ->
  wpAny (model X.prog X.w) X.A (call (.builtin id) (v::us)) (EP X pins σ Q) X.xe s
section
variable {X:Cx}{a b:aE}{ta tb:TE}{pos:Pos}
def JV{r:R2}(hr:N1 X r)(ha:PE X a ta)(hb:PE X b tb)(hs:vn b):PE X (.Subscript a b pos) (Wa r ta tb):=by
 kd_p;exact Subscript_<|Rb ha hb I h λv u s2 x y H2 I2 rx ry q=>hr a b pins s2 σ H2 x y v u Q I2 rx ry q<|hs _ _
abbrev Xb (K:au):R2:=λx y H Q=>∃p xs i v,x=.ref p/\y=.int i/\mP K H p xs/\oq xs i=some v/\Q v H
abbrev WI (K:au):R2:=λx y H Q=>∃p xs i v,x=.ref p/\y=.int i/\nk K H p xs/\oq xs i=some v/\Q v H
abbrev WQ:R2:=λx y H Q=>∃z i c,x=.str z/\y=.int i/\z.length<=sizeLine/\oq z.cps.toList i=some c/\Q (.str ⟨#[c]⟩) H
def Fd:N1 X (Xb X.K):=by
 kst_p;obtain⟨p,xs,i,z,rfl,rfl,hq,he,q⟩:=h
 cases rx
 obtain⟨t,rfl⟩:=ry;obtain⟨its,r,pl,hz⟩:=I.list hq;obtain⟨j,h1,h2,h3,h4,h5⟩:=z9 he;obtain⟨w,ew,rw'⟩:=r.get h2;have hl:=r.length;have hn:=sC;have fin:EP X pins σ Q w s:=⟨z,H,I,rw',q⟩;by_cases h0:0<=i
 ·have hj:i.toNat=j:=by
   rw[seqIndex_of h0 h5]at h1;exact aS h1
  exact item_listR pl.isList h0 () (by rw[hj];simpa using ew) fin hs
 ·have hj:(i+(its.toArray.size:Int)).toNat=j:=by
   rw[seqIndex_neg () h4]at h1;rw[aZ,<- hl];exact aS h1
  exact subscriptTail_builtinR (x:=w) pl.isList.typeIs slot_list_getitem.lookup
   (wpAny_getItem_list_neg (Q:=λr s'=>r=w/\EP X pins σ Q r s') pl.isList () (by rw[aZ]<;>lia) () (by rw[hj];simpa using ew) ⟨rfl,fin⟩) hs
def Uu:N1 X (WI X.K):=by
 kst_p;obtain⟨p,xs,i,z,rfl,rfl,hq,he,q⟩:=h
 cases rx
 obtain⟨t,rfl⟩:=ry;obtain⟨its,r,pl,hz⟩:=I.tuple hq;obtain⟨j,h1,h2,h3,h4,h5⟩:=z9 he;obtain⟨w,ew,rw'⟩:=r.get h2;have hl:=r.length;have hn:=sC;have fin:EP X pins σ Q w s:=⟨z,H,I,rw',q⟩;exact subscriptTail_builtinR (x:=w) pl.typeIs slot_tuple_getitem.lookup
  (getItem_tuple (j:=j) (Q:=λr s'=>r=w/\EP X pins σ Q r s') pl () () (by rw[aZ,<- hl];exact h1) (by simpa using ew) ⟨rfl,fin⟩) hs
def Tj:N1 X WQ:=by
 kst_p;obtain⟨z,i,c,rfl,rfl,hz,he,q⟩:=h;cb_eq;obtain⟨t',rfl⟩:=ry;obtain⟨j,h1,h2,h3,h4,h5⟩:=z9 he;have hl:z.cps.toList.length=z.length:=by simp[Str.length]
 rw[hl]at h1 h4 h5;have hn:=sC;exact tail_any (typeIs_str s z t) slot_str_getitem.lookup (getItem_str (c:=c) (by
  have e1:decide (i < -(2 ^ 63:Int))=false:=aW ();have e2:decide (i>=2 ^ 63)=false:=aW ();rw[e1,e2,Bool.or_false]) (by rw[h1];simpa using h2) ⟨.str ⟨#[c]⟩,H,I.tok _,⟨_,rfl⟩,q⟩) hs
def D_(its:ap)(n j:Nat)(u:af):Obj.mapSeq (·.setIfInBounds j u) { cls:=.type "list",data:=.seq its.toArray n }={ cls:=.type "list",data:=.seq (its.set j u).toArray n }:=by
 simp[Obj.mapSeq]
def Inv.lst{H:Hp}{s:aC}{p:ak}{xs:List V}(I:Inv X pins σ H s)(h:H p=some (.lst xs)) :
  ∃(its:ap) (n:Nat),Vals xs its/\s.heap.get? p=some { cls:=.type "list",data:=.seq its.toArray n }/\xs.length<=sizeLine:=by
 obtain⟨z,its,n,r,e⟩:=I.hok p _ h;exact⟨its,n,r,e,z⟩
def Inv.RW{H:Hp}{s:aC}{p:ak}{ys:List V}{its its':ap}{n:Nat}{f:Obj->Obj}(I:Inv X pins σ H s)(h:H p=some (.lst xs))
  (ho:s.heap.get? p=some { cls:=.type "list",data:=.seq its.toArray n }) (hf:f { cls:=.type "list",data:=.seq its.toArray n }={ cls:=.type "list",data:=.seq its'.toArray n' }) (r:Vals ys its') (hz:ys.length<=sizeLine) (t:Nat) :
  Inv X pins σ (upd H p<|.lst ys) { s with heap:=s.heap.update p f,toks:=t }:=by
 have e:(s.heap.update p f).get? p=some { cls:=.type "list",data:=.seq its'.toArray n' }:=by
  rw[gf f ho<|by rw[hf]<;>rfl,hf]
 refine I.write (x:=p) (e:=p) (by rw[h];trivial) (.inl rfl) (λb u hb q=>(dB _ _<|cN hb).trans q) ⟨_,e⟩ ?_;exact⟨hz,its',n',r,e⟩
abbrev UJ:V->V->V->Hp->(Hp->Prop)->Prop:=λo i v H Q=>∃p xs k j,o=.ref p/\i=.int k/\H p=some (.lst xs)/\vV xs.length k=some j/\Q (upd H p<|.lst<|xs.set j v)
def set_list:CJ X UJ:=by
 intro pins s σ H o i v ov iv u Q I ro ri rv h;obtain⟨p,xs,k,j,rfl,rfl,hp,hj,q⟩:=h
 cases ro
 obtain⟨t,rfl⟩:=ri;obtain⟨its,n,r,ho,hz⟩:=I.lst hp;obtain⟨h1,h2,h3,h4⟩:=Ek hj;have hl:=r.length;have hn:=sC;have I':Inv X pins σ (upd H p<|.lst<|xs.set j v) { s with heap:=s.heap.update p<|Obj.mapSeq (·.setIfInBounds j u)}:=
  I.RW hp ho (D_ its n j u) (r.set rv j) (by rw[bN];exact hz) s.toks
 by_cases h0:0<=k
 ·have hk:k.toNat=j:=by
   rw[seqIndex_of h0 h4]at h1;exact aS h1
  exact PySem.W.ki_setAt ho h0 () (by rw[aZ,<- hl];exact h4)<|by rw[hk];exact⟨_,I',q⟩
 ·have hk:(k+(its.toArray.size:Int)).toNat=j:=by
   rw[seqIndex_neg () h3]at h1;rw[aZ,<- hl];exact aS h1
  exact PySem.W.ki_setBack ho () (by rw[aZ,<- hl];exact h3) ()<|by rw[hk];exact⟨_,I',q⟩
def qu:jw X (.type "list") (λxs H Q=>∃p ys,xs=[.ref p]/\(mP X.K H p ys\/nk X.K H p ys)/\∀l,H l=none->Q (.ref l) (upd H l<|.lst ys)):=by
 kt_k;obtain⟨p,ys,rfl,hq,q⟩:=h;kcj_m
 cases rx
 have fin:∀(its:ap),Vals ys its->ys.length<=sizeLine->∀(h':aq) (c':Nat),(∀b o',s.heap.get? b=some o'->h'.get? b=some o') ->
   h'.get? s.heap.objs.size=some { cls:=.type "list",dict:=none,data:=.seq its.toArray c',slots:=#[]}->EP X pins σ Q (.ref s.heap.objs.size) { s with heap:=h' }:=λits r' hz h' c' kp e=>
  ⟨.ref s.heap.objs.size,_,I.laid (t':=s.toks) kp (aO _)<|show jG X.prog X.w _ h' _ (.lst ys)from⟨hz,its,c',r',e⟩,rfl,q _<|I.hok.fresh<|aO _⟩
 rcases hq with hq|hq
 ·obtain⟨its,r',pl,hz⟩:=I.list hq;have hlen:=r'.length;obtain⟨o,ho,hc,n,hd⟩:=pl.isList;exact call_list_seq p (.inl rfl) ho hc hd (λh' c' kp e=>fin its r' hz h' c' kp e) (by dsimp[aZ]<;>lia)
 ·obtain⟨its,r',pl,hz⟩:=I.tuple hq;have hlen:=r'.length;obtain⟨o,ho,hc,n,hd⟩:=pl;exact call_list_seq p (.inr rfl) ho hc hd (λh' c' kp e=>fin its r' hz h' c' kp e)<|by dsimp[aZ]<;>lia
def pJ:jw X (.type "tuple") (λxs H Q=>∃p ys,xs=[.ref p]/\((mP X.K H p ys/\∀l,H l=none->Q (.ref l) (upd H l<|.tup ys))\/(nk X.K H p ys/\Q (.ref p) H))):=by
 kt_k;obtain⟨p,ys,rfl,h⟩:=h;kcj_m
 cases rx
 rcases h with⟨hq,q⟩|⟨hq,q⟩
 ·obtain⟨its,r',pl,hz⟩:=I.list hq;have hlen:=r'.length;refine call_tuple_list pl.isList (λh' kp=>?_) (by dsimp[aZ]<;>lia);have I1:Inv X pins σ H { s with heap:=h' }:=I.kept (t':=s.toks) kp;have I2:Inv X pins σ (upd H h'.objs.size<|.tup ys) { s with heap:=h'.push { cls:=.type "tuple",data:=.seq its.toArray }}:=
   I1.laid (t':=s.toks) (λb o e=>aP _ e) (aO _) (show jG X.prog X.w _ _ _ (.tup ys)from⟨hz,its,r',ng.new _ _⟩)
  exact⟨.ref h'.objs.size,_,I2,rfl,q _<|I1.hok.fresh<|aO _⟩
 ·obtain⟨its,r',pl,hz⟩:=I.tuple hq;exact call_tuple_same pl ⟨.ref p,H,I,rfl,q⟩
abbrev Wy (K:au)(T:String)(x:V)(H:Hp):Prop:=match x with
 | .str _=>T = "str"
 | .int _=>T = "int"
 | .ref p=>(T = "list" /\ ∃xs,mP K H p xs)\/(T = "tuple" /\ ∃o,K.lookup p=some o/\o.cls=.type "tuple" /\ o.dict=none) \/
   (T = "dict" /\ ((∃kvs,H p=some (.dK kvs))\/∃kvs,H p=some (.dT kvs)))\/(T = "set" /\ ∃S n,H p=some (.set S n))
 | _=>False
def RZ{H:Hp}{s:aC}{x:V}{v:af}(I:Inv X pins σ H s)(r:RelV x v)(ty:Wy X.K T x H) :
  s.TypeIs v T/\∀a,v=.ref a->∃ob,s.heap.get? a=some ob/\ob.dict=none:=by
 cases x with
 | str z=>
  obtain⟨t,rfl⟩:=r
  cases(show T = "str" from ty)
  exact⟨typeIs_str s z t,nofun⟩
 | int i=>
  obtain⟨t,rfl⟩:=r
  cases(show T = "int" from ty)
  exact⟨typeIs_int s i t,nofun⟩
 | ref p=>
  cases r
  rcases ty with⟨rfl,xs,hq⟩|⟨rfl,o,hk,hc,hd⟩|⟨rfl,hk⟩|⟨rfl,S,n,hk⟩
  ·obtain⟨its,_,pl,_⟩:=I.list hq;refine⟨pl.isList.typeIs,λa e=>?_⟩
   cases e
   obtain⟨o,n,e,c,hd,_⟩:=pl;exact⟨o,e,hd⟩
  ·refine⟨⟨o,I.uZ p o hk,hc⟩,λa e=>?_⟩
   cases e
   exact⟨o,I.uZ _ o hk,hd⟩
  ·have z:∃o,s.heap.get? p=some o/\o.ExactDict:=by
    rcases hk with⟨kvs,hk⟩|⟨kvs,hk⟩
    ·obtain⟨_,_,_,_,o,_,_,e,ex,_⟩:=I.hok p _ hk;exact⟨o,e,ex⟩
    ·obtain⟨_,_,_,_,o,_,_,e,ex,_⟩:=I.hok p _ hk;exact⟨o,e,ex⟩
   obtain⟨o,e,ex⟩:=z;refine⟨⟨o,e,ex.1⟩,λa e2=>?_⟩
   cases e2
   exact⟨o,e,ex.2.1⟩
  ·obtain⟨o,_,_,_,e,ex,_⟩:=I.hok p _ hk;refine⟨⟨o,e,ex.1⟩,λa e2=>?_⟩
   cases e2
   exact⟨o,e,ex.2.1⟩
 | _=>exact False.elim ty
abbrev YS (K:au)(T:String)(r:V->List V->Hp->VK->Prop)(to:TE)(t:TA):TE:=λσ H Q=>to σ H λx H1=>Wy K T x H1/\t σ H1 λxs H2=>r x xs H2 Q
variable {o e:aE}{es:List aE}{to:TE}{t:TA}{name:Str}{apos cpos:Pos}{T id:String}{r:V->List V->Hp->VK->Prop}
def QG(pa:PlainAttrs T)(slot:Slot T name id)(hty:typeOf (.builtin id)=pure (.type "method_descriptor"))(hm:UC X id r)(ho:PE X o to)(ha:PA X (e::es) t)
  (hbase:attributeBase o name X.env (eval o X.env)=eval o X.env:=by rfl)
  (hfew:((backTo cpos<|starEach (e::es) X.env).all (λx=>!x.1) && (backToKw cpos<|keywordEach [] X.env).all (λx=>x.1.isSome)
   && decide ((e::es).length+([]:List Keyword).length+(if ([]:List Keyword).isEmpty then 0 else 1)<30))=true:=by rfl)
  (hline:(apos.endLine == cpos.line)=true:=by rfl) (hs:starEach (e::es) X.env=(false,eval e X.env)::starEach es X.env:=by rfl) (hplain:(backTo cpos<|starEach es X.env).any (·.1)=false:=by rfl) :
  PE X (.Call (.Attribute o name apos) (e::es) [] cpos) (YS X.K T r to t):=by
 kd_p;refine wpAny_Call_method_late hbase hfew hline rfl<|j3 (ho pins s σ H _ I h) λv s1 ⟨x,H1,I1,r1,ty,q1⟩=>?_;obtain⟨h1,h2⟩:=RZ I1 r1 ty;refine⟨T,id,pa,slot,hty,h1,h2,?_⟩;have hA:=ha cpos pins s1 σ H1 _ I1 q1;rw[hs]at hA ⊢;refine Calls.callWith_builtin (by show(false || (backTo cpos<|starEach es X.env).any (·.1))=false;rw[hplain]<;>rfl)<|Calls.evalArgs_plain ?_;exact j3 hA λus s2 ⟨vs,H2,I2,r2,q2⟩=>hm pins s2 σ H2 x vs v us Q I2 r1 r2 q2
end
abbrev Yl (X:Cx)(id:String)(r:V->List V->Hp->VK->Prop):Prop:=
 ∀(pins:bj) (s:aC) (σ:St) (H:Hp) (x:V) (xs:List V) (v:af) (us:ap) (Q:VK),Inv X pins σ H s->RelV x v->Vals xs us->r x xs H Q ->
  wpAny (model X.prog X.w) X.A (call (.builtin id) (v::us)) (EP X pins σ Q) X.xe s
def Vals.one:∀{x:V}{us:ap},Vals [x] us->∃u,us=[u]/\RelV x u
 | _,_,.cons r .nil=>⟨_,rfl,r⟩
theorem Vals.eraseIdx:∀{xs:List V}{us:ap}(i:Nat),Vals xs us->Vals (xs.eraseIdx i) (us.eraseIdx i)
 | _,_,_,.nil=>.nil
 | _,_,0,.cons _ t=>t
 | _,_,i+1,.cons r t=>.cons r<|Vals.eraseIdx i t
theorem Vals.rep(h:Vals xs us):∀k:Nat,Vals (List.replicate k xs).flatten (List.replicate k us).flatten
 | 0=>.nil
 | k+1=>by
  rw[cM,cM,c_,c_];exact Vals.append h<|Vals.rep h k
theorem za{α:Type}:∀(l:List α) (i:Nat),(l.eraseIdx i).length<=l.length
 | [],_=>aO _
 | _::_,0=>le_succ _
 | _::r,i+1=>Nat.succ_le_succ<|za r i
theorem foldl_rep(its:ap):∀(k:Nat) (acc:ap),
  List.foldl (λx1 x2=>x1++x2) acc.toArray (List.replicate k its.toArray)=(acc++(List.replicate k its).flatten).toArray
 | 0,acc=>by simp
 | k+1,acc=>by
  have e:acc.toArray++its.toArray=(acc++its).toArray:=by simp
  have e2:(acc++its)++(List.replicate k its).flatten=acc++(List.replicate (k+1) its).flatten:=by
   rw[cM,c_,bO]
  rw[<- e2,<- foldl_rep its k (acc++its),<- e,cM,dQ]
section
variable {X:Cx}{pins:bj}{σ:St}{H:Hp}{s:aC}{l:ak}{xs ys:List V}
def Inv.VE{its its':ap}{n:Nat}{f:Array af->Array af}{t':Nat}(I:Inv X pins σ H s)(hH:H l=some (.lst xs))
  (e:s.heap.get? l=some { cls:=.type "list",data:=.seq its.toArray n }) (hf:f its.toArray=its'.toArray) (hv:Vals ys its') (hz:ys.length<=sizeLine) :
  Inv X pins σ (upd H l<|.lst ys) { s with heap:=s.heap.update l<|Obj.mapSeq f,toks:=t' }:=by
 have q:=PySem.IsL.update e f;rw[hf]at q;refine I.write (x:=l) (e:=l) (by rw[hH];exact trivial) (.inl rfl) (λb' u hb hu=>(dB s.heap (Obj.mapSeq f)<|cN hb).trans hu) ⟨_,q⟩ ?_;exact⟨hz,its',_,hv,q⟩
def Inv.Oi{its:ap}{t':Nat}(I:Inv X pins σ H s)(hv:Vals ys its)(hz:ys.length<=sizeLine) :
  Inv X pins σ (upd H s.heap.objs.size<|.lst ys) { s with heap:=s.heap.push { cls:=.type "list",data:=.seq its.toArray },toks:=t' }:=
 I.laid (λ_ _ q=>aP _ q) (aO _) ⟨hz,its,0,hv,bD _ rfl⟩
def Inv.fresh(I:Inv X pins σ H s):H s.heap.objs.size=none:=I.hok.fresh<|aO _
def Inv.Kg(I:Inv X pins σ H s)(hH:H l=some (.lst xs)):xs.length<=sizeLine/\∃(its:ap) (n:Nat),Vals xs its/\xs.length=its.length/\s.heap.get? l=some { cls:=.type "list",data:=.seq its.toArray n }:=by
 obtain⟨z,its,n,r,e⟩:=I.hok l _ hH;exact⟨z,its,n,r,r.length,e⟩
theorem Na{n:Nat}(h:n<=sizeLine):Builtin.List.listTooLong n=false:=by
 unfold Builtin.List.listTooLong;exact aW ()
end
section
variable {X:Cx}
abbrev N2:V->List V->Hp->VK->Prop:=λx vs H Q=>∃l xs y,x=.ref l/\vs=[y]/\H l=some (.lst xs)/\xs.length<sizeLine/\Q .non (upd H l<|.lst<|xs++[y])
def t9:Yl X "list.append" N2:=by
 intro pins s σ H x vs v us Q I rx rv h;obtain⟨l,xs,y,rfl,rfl,hH,hz,q⟩:=h
 cases rx
 obtain⟨u,rfl,ru⟩:=rv.one;obtain⟨z,its,n,r,hl,e⟩:=I.Kg hH;refine iC F.slot_list_append ⟨_,e,rfl⟩ F.entry_list_append (F.args_list_append_2 _ _) (PySem.list_append l its.toArray n u<|by rw[aZ];lia) ⟨e,?_⟩;refine⟨.non,_,I.VE (its':=its++[u]) hH e (by simp) (r.append<|.cons ru .nil) ?_,rfl,q⟩;rw[bh,List.length_singleton]
 lia
abbrev Um:V->List V->Hp->VK->Prop:=λx vs H Q=>∃l xs i k y,x=.ref l/\vs=[.int i]/\H l=some (.lst xs)/\-(2 ^ 63)<=i/\i<2 ^ 63/\seqIndex? i xs.length=some k/\xs[k]?=some y/\Q y (upd H l<|.lst<|xs.eraseIdx k)
def JD:Yl X "list.pop" Um:=by
 intro pins s σ H x vs v us Q I rx rv h;obtain⟨l,xs,i,k,y,rfl,rfl,hH,h1,h2,hk,hy,q⟩:=h
 cases rx
 obtain⟨u,rfl,ru⟩:=rv.one;obtain⟨t,rfl⟩:=ru;obtain⟨z,its,n,r,hl,e⟩:=I.Kg hH;obtain⟨w,hw,rw'⟩:=r.get hy;refine iC F.slot_list_pop ⟨_,e,rfl⟩ F.entry_list_pop (F.args_list_pop_2 _ _)
  (MeetsSeq.list_pop_at l its.toArray n i t k w (fitsIndex_both h1 h2) (by rw[aZ,<- hl];exact hk) (by rw[<- eO];exact hw)<|by rw[aZ];lia) ⟨e,?_⟩
 refine⟨y,_,I.VE (its':=its.eraseIdx k) hH e ?_ (r.eraseIdx k) ?_,rw',q⟩
 ·skip
  rw[gb]
 ·have:=za xs k
  lia
abbrev WU:R2:=λx y H Q=>∃l b xs zs,x=.ref l/\y=.ref b/\H l=some (.lst xs)/\H b=some (.lst zs)/\xs.length+zs.length<=sizeLine/\∀p,H p=none->Q (.ref p) (upd H p<|.lst<|xs++zs)
def Q7:mL X (binaryOp .Add) WU:=by
 gn_on;obtain⟨l,b,xs,zs,rfl,rfl,hH,hB,hz,q⟩:=h
 cases rx
 cases ry
 obtain⟨z,its,n,r,hl,e⟩:=I.Kg hH;obtain⟨z2,its2,n2,r2,hl2,e2⟩:=I.Kg hB;refine PySem.P.add_list e e2 ?_ (by rw[aZ,aZ];lia);have ea:its.toArray++its2.toArray=(its++its2).toArray:=by simp
 rw[ea];exact⟨.ref _,_,I.Oi (t':=s.toks) (r.append r2)<|by rw[bh];lia,rfl,q _ I.fresh⟩
abbrev Xy:R2:=λx y H Q=>∃l k xs,x=.ref l/\y=.int k/\H l=some (.lst xs)/\-(2 ^ 63)<=k/\k<2 ^ 63/\xs.length * k.toNat<=sizeLine /\
 ∀p,H p=none->Q (.ref p) (upd H p<|.lst (List.replicate k.toNat xs).flatten)
def len_rep{α:Type}(xs:List α)(k:Nat):(List.replicate k xs).flatten.length=k * xs.length:=by
 induction k with
 | zero=>simp
 | succ k ih=>rw[cM,c_,bh,ih,succ_mul,Nat.add_comm]
def Sb:mL X (binaryOp .Mult) Xy:=by
 gn_on;obtain⟨l,k,xs,rfl,rfl,hH,h1,h2,hz,q⟩:=h
 cases rx
 obtain⟨t,rfl⟩:=ry;obtain⟨z,its,n,r,hl,e⟩:=I.Kg hH;have hlen:its.toArray.size * k.toNat<=sizeLine:=by rw[aZ,<- hl];exact hz
 have hcap:¬its.toArray.size * k.toNat>(2 ^ 63-1) / 8:=by
  have:(sizeLine:Nat)<=(2 ^ 63-1) / 8:=by decide
  omega
 have hfit:¬(!Builtin.List.listFitsIndex k)=true:=by
  rw[fitsIndex_both h1 h2];exact bG
 have hlong:¬Builtin.List.listTooLong (its.toArray.size * k.toNat)=true:=by
  rw[Na hlen];exact bG
 have hnew:List.foldl (λx1 x2=>x1++x2) #[] (List.replicate (if its.toArray.isEmpty=true then 0 else k.toNat) its.toArray)=(List.replicate k.toNat its).flatten.toArray:=by
  have f0:∀m:Nat,List.foldl (λx1 x2=>x1++x2) #[] (List.replicate m its.toArray)=(List.replicate m its).flatten.toArray:=λm=>by
   have:=foldl_rep its m [];rw[List.nil_append]at this;exact this
  rw[f0]
  cases its with
  | nil=>simp
  | cons a r'=>rw[aK<|by simp]
 refine wpAny_binaryOp_repeat_ref (T := "list") (U := "int") ⋯ ⟨_,e,rfl⟩ (λs'=>typeIs_int s' k t) noFill_list_mul F.fills_int_mul F.slot_int_rmul repeat_list F.slot_int_index.lookup
  (iC F.slot_int_rmul (typeIs_int s k t) F.entry_int_rmul (F.args_int_rmul_2 _ _) (int___rmul___int_list k t l its.toArray n)
   ⟨e,rfl,⟨_,e,rfl⟩,iC F.slot_list_mul ⟨_,e,rfl⟩ F.entry_list_mul (F.args_list_mul_2 _ _) (AutoListH.list___mul___list_int_3 l its.toArray n k t hfit hcap hlong) ⟨e,?_⟩⟩)
 rw[hnew];exact⟨.ref _,_,I.Oi (t':=s.toks) (r.rep k.toNat)<|by rw[len_rep,Nat.mul_comm];exact hz,rfl,q _ I.fresh⟩
end
end L2
namespace Att
open PySem PySem.W PySem.Calls PyProof.Rows
def u5{P:Params}:∀(ns:ae) (vs:ap),WellAll P h vs (ns.map WData.int)->IntsAre vs ns:=by
 intro ns
 induction ns with
 | nil=>
  intro vs w;rw[map_nil]at w
  cases w
  exact .nil
 | cons n ns ih=>
  intro vs w;rw[bQ]at w
  cases w with
  | cons a b=>
   cases a
   exact .cons _ _<|ih _ b
def HB{l:OpenLaw}{n:Nat}(hn:l.most=some n){P:Params}{h:aq}
  (hpre:l.row.toRowW.claim.pre args=true) (hwl:WellAll P h vals args) :
  ∃a vs ns,vals=[Value.ref a]/\args=[WData.list<|ns.map WData.int]/\h.get? a=some { cls:=.type "list",data:=.seq vs.toArray }/\IntsAre vs ns/\ns.length<=n:=by
 have hsh:WShape.hasAll [] args [.list .int]=true:=(pre_splitW hpre).1;have hc:l.pre.holds [] { args:=args }=true:=(pre_splitW hpre).2;obtain⟨d,r,rfl,h1,h2⟩:=hasAllW_cons hsh;obtain rfl:=hasAllW_nil h2;obtain⟨xs,rfl,h3⟩:=hasW_list h1;obtain⟨ns,rfl⟩:=items_int h3;have hlen:ns.length<=n:=by
  unfold OpenLaw.pre at hc;have h4:(WTm.not<|.lt (.lit<|.int (n:Int))<|.len<|.arg 0).holds [] { args:=[.list<|ns.map .int]}=true:=by
   have h4:=(holds_andW hc).1;rw[hn]at h4;exact h4
  have h5:=condW_of h4<|w_not<|w_lt w_lit<|w_len_list<|w_arg rfl;rw[aM]at h5;refine Nat.le_of_not_lt λq=>?_;have q':(n:Int)<((ns.length:Nat):Int):=by omega
  first
   | (rw[a_ q']at h5;exact absurd h5 ⋯)
   | (simp at h5;omega)
 cases hwl with
 | cons w1 w2=>
  cases w2
  cases w1 with
  | list ho hall=>exact⟨_,_,ns,rfl,rfl,ho,u5 ns _ hall,hlen⟩
def Iw(l:OpenLaw)(args:List WData):l.row.toRowW.claim.post args (.bool true) args=true:=
 postW_of (r:=l.row.toRowW) (X:=(true == true))
  (show WShape.has [] (.bool true) .bool=true by first|rfl|decide|simp[WShape.has,WShape.arms,WShape.armsAll])
  (show(WTm.eq .res<|.lit<|.bool true).value [] { args:=args,res:=some<|.bool true,after:=args }=some (.bool<|true == true)from w_eq_bool (w_res rfl) w_lit) rfl
def Cc{l:OpenLaw}{n:Nat}{q:aj}{XP:(Str->ba)->aq->Prop}{YP:ah->aq->Prop}{d:DefRec}
  (hn:l.most=some n) (hdf:d.params.defaults=[])
  (call:∀(w:ah) (s₀ s₁:aC) (mg mb:Str->ba) (fa:ak) (o:Obj) (pm cd doc:af) (a:ak) (vs:ap) (ns:ae),
   Ground q loose [] XP w s₀ mg mb s₁.heap->YP w s₁.heap ->
   s₁.heap.get? fa=some o->o.data=.func (docDef d.name d.params d.body d.scope pm cd doc)->s₁.heap.CodeRec cd d.name->mg d.name=some (.ref fa) ->
   s₁.heap.get? a=some { cls:=.type "list",data:=.seq vs.toArray }->IntsAre vs ns->ns.length<=n->s₁.gens=#[] ->
   codeAny (model l.prog w) callerA (.call (.ref fa) ⟨[.ref a],[]⟩) (λr s'=>r=.ok (.ret<|.bool true)/\OldK s₁.heap s'.heap/\s'.os=s₁.os/\AllBare s'.gens) s₁) :
  WalkO q loose XP YP l.row.toRowW d [] (λf vs=>PySem.call f vs):=by
 intro w s₀ s₁ mg mb G Y fa o pm cd doc dV kV ho hd hcd hD hmg hg args vals as hpre hlay hrd hwl hlo;obtain rfl:dV=.none:=Dflts.none hD hdf;obtain rfl:kV=.none:=Dflts.noKw hD;obtain⟨a,vs,ns,rfl,rfl,hobj,hints,hlen⟩:=HB hn hpre hwl;refine enter_call<|e_ (call w s₀ s₁ mg mb fa o pm cd doc a vs ns G Y ho (fd_plain hd) hcd hmg hobj hints hlen hg) λr s' hq=>?_;obtain⟨rfl,h2,h3,h4⟩:=hq;exact⟨.inl ⟨.bool true,.bool true,[],rfl,λ_=>rfl,.bool true,Iw l _,λ_=>⟨List.Pairwise.nil,λ_ hm=>(nomatch hm)⟩⟩,h2,h3,h4⟩
end Att
namespace L2
open PySem PySem.Spec PyProof.Rows
theorem zd:∀{vs:ap}{ns:ae},IntsAre vs ns->Vals (ns.map V.int) vs
 | _,_,.nil=>.nil
 | _,_,.cons n t h=>.cons ⟨t,rfl⟩<|zd h
abbrev NU (H:Hp):Prop:=∀b,H b=none\/∃o xs,H b=some (.frz o<|.lst xs)
def Ms{P:aj}{w:ah}{K:au}{mg mb:Str->ba}{CX:Kq}{k:Nat}{fa a:ak}{x:Str}{sp:Sp}{s₁:aC}{vs:ap}{ns:ae}
  (KX:K.In s₁.heap) (hns:s₁.heap.Ns mainGlobals mg) (hb:s₁.heap.Ns builtinsNs mb) (hbb:∀x:Str,x ≠ "__name__" -> mb x=bootBuiltins x) (hlim:s₁.heap.NoLimit) (hg:s₁.gens=#[])
  (ha:s₁.heap.get? a=some { cls:=.type "list",data:=.seq vs.toArray }) (hi:IntsAre vs ns) (hl:ns.length<=sizeLine) (hr:Room k callerA)
  (F:∀base:aq,K.In base->base.Ns mainGlobals mg->FnOk P w K mg base CX k fa fd [x] sp) (hbind:∀(s:aC) (u:af),BindsTo s fd ⟨[u],[]⟩ [(x,u)])
  (hsp:∀H:Hp,NU H->mP K H a (ns.map V.int)->sp [.ref a] H (λv _=>v=.bl true) λ_ _ _=>False)
  (hCX:∀H e s',CX [] H s₁ (λ_ _ _=>False) e s'->False) :
  codeAny (model P w) callerA (.call (.ref fa) ⟨[.ref a],[]⟩) (λr s'=>r=.ok (.ret<|.bool true)/\OldK s₁.heap s'.heap/\s'.os=s₁.os/\AllBare s'.gens) s₁:=by
 have rv:=zd hi;have lenV:=hi.length;have core:∀H:Hp,NU H->mP K H a (ns.map V.int)->rV P w H s₁.heap->(∀b,H b≠none->b=a)->(H a≠none->K.lookup a=none) ->
   codeAny (model P w) callerA (.call (.ref fa) ⟨[.ref a],[]⟩) (λr s'=>r=.ok (.ret<|.bool true)/\OldK s₁.heap s'.heap/\s'.os=s₁.os/\AllBare s'.gens) s₁:=by
  intro H hO hS hok hA hK;have base_of:∀{b:ak} {o:Obj},s₁.heap.get? b=some o->H b=none->(Ac s₁.heap H).get? b=some o:=λe n=>L3 e n;have noA:∀{b:ak} {o:Obj} {es:Array DictEntry} {ep:Nat},s₁.heap.get? b=some o->o.data=.dict es ep->H b=none:=λ{b o es ep} e d=>by
   cases q:H b with
   | none=>rfl
   | some u=>
    have e':b=a:=hA b (by rw[q];simp);subst e';rw[ha]at e;cases e;have d':Data.seq vs.toArray _=Data.dict es ep:=d
    cases d'
  have nsK:∀{b:ak} {m:Str->ba},s₁.heap.Ns b m->(Ac s₁.heap H).Ns b m:=λ{b m} ⟨o,es,ep,e,d,r⟩=>⟨o,es,ep,base_of e<|noA e d,d,r⟩;have hKb:K.In (Ac s₁.heap H):=λb o e=>base_of (KX b o e) (by
   cases q:H b with
   | none=>rfl
   | some u=>
    have e':b=a:=hA b (by rw[q];simp);subst e';rw[hK<|by rw[q];simp]at e;cases e)
  have hM:Mod K mg (Ac s₁.heap H):=⟨hKb,nsK hns,⟨mb,nsK hb,hbb⟩,let⟨mc,h1,h2⟩:=hlim;⟨mc,nsK h1,h2⟩⟩;have e0:Env0 P w K mg (Ac s₁.heap H) callerA [] s₁ H:=⟨rfl,hM,λb o e=>N_ e,Nat.le_of_eq<|Hr _ _,trivial,λb hb=>absurd (show b∈([]:ar)from hb)<|by simp,hok,.of_eq hg⟩;refine e_ ((F _ hKb<|nsK hns).run callerA [] s₁ H ⟨[.ref a],[]⟩ [.ref a] [.ref a] _ _ hr e0 (hbind s₁<|.ref a) (.cons rfl .nil)<|hsp H hO hS) λr s' h=>?_
  cases r with
  | error e=>exact(hCX H e s' h).elim
  | ok fl=>
   cases fl with
   | next=>exact False.elim h
   | brk=>exact False.elim h
   | cont=>exact False.elim h
   | ret u=>
    obtain⟨v,H',os,bare,un,hok',r',q⟩:=h;have q':v=.bl true:=q;subst q';obtain rfl:u=Value.bool true:=r';refine⟨rfl,OldK.of_keep λb o e=>?_,os,bare⟩
    cases q:H b with
    | none=>exact un.keep b o e q (by intro z;exact absurd (show b∈([]:ar)from z)<|by simp) (by simp)
    | some u=>
     rcases hO b with z|⟨ob,xs,z⟩
     ·rw[q]at z;cases z
     ·have z2:=un.frzs b ob _ z;obtain⟨e1,_⟩:=hok b _ z;obtain⟨e2,_⟩:=hok' b _ z2;rw[e]at e1;cases e1;exact e2
 cases hk:K.lookup a with
 | some o=>
  have e:=KX a o hk;rw[ha]at e
  cases e
  refine core (λ_=>none) (λ_=>.inl rfl) (.inr ⟨_,vs.toArray,_,hk,rfl,rfl,rfl,by rw[aZ,lenV];exact hl,by simpa using rv⟩) (λb u z=>by have z':(none:Option HO)=some u:=z;cases z') (λb z=>absurd rfl z) λz=>absurd rfl z
 | none=>
  refine core (λb=>if b=a then some (.frz { cls:=.type "list",data:=.seq vs.toArray } (.lst<|ns.map V.int))else none) (λb=>?_) (.inl<|.inr ⟨{ cls:=.type "list",data:=.seq vs.toArray },aJ rfl⟩) (λb u z=>?_) (λb z=>?_) λ_=>hk
  ·by_cases hb:b=a
   ·exact .inr ⟨_,_,aJ hb⟩
   ·exact .inl<|aK hb
  ·by_cases hb:b=a
   ·have z':=(aJ hb).symm.trans z
    cases z'
    subst hb;exact⟨ha,by rw[aM];exact hl,vs,_,rv,ha⟩
   ·have z':=(aK hb).symm.trans z
    cases z'
  ·by_cases hb:b=a
   ·exact hb
   ·exact absurd (aK hb) z
def OH{l:PySem.W.OpenLaw}{n k:Nat}{q:aj}{XP:(Str->ba)->aq->Prop}{YP:ah->aq->Prop}{d:DefRec}{K:Params->au}{CX:ah->Kq}{sp:ah->Sp}{x:Str}
  (hn:l.most=some n) (hn2:n<=sizeLine) (hdf:d.params.defaults=[]) (hr:Room k callerA)
  (hY:∀(w:ah) (h:aq),YP w h->(K w.params).In h)
  (F:∀(w:ah) (mg:Str->ba) (fa:ak) (h:aq),(K w.params).In h->h.Ns mainGlobals mg->mg d.name=some (.ref fa) ->
   ∃fd:FuncData,(∀(s:aC) (u:af),BindsTo s fd ⟨[u],[]⟩ [(x,u)]) /\
    ∀base:aq,(K w.params).In base->base.Ns mainGlobals mg->FnOk l.prog w (K w.params) mg base (CX w) k fa fd [x] (sp w))
  (hsp:∀(w:ah) (H:Hp) (a:ak) (ns:ae),ns.length<=n->NU H->mP (K w.params) H a (ns.map V.int)->sp w [.ref a] H (λv _=>v=.bl true) λ_ _ _=>False)
  (hCX:∀(w:ah) (H:Hp) (s:aC) (e:af) (s':aC),CX w [] H s (λ_ _ _=>False) e s'->False) :
  PySem.W.WalkO q loose XP YP l.row.toRowW d [] (λf vs=>PySem.call f vs):=by
 refine Att.Cc hn hdf λw s₀ s₁ mg mb fa o pm cd doc a vs ns G Y ho hd hcd hmg hobj hints hlen hg=>?_;have KX:=hY w _ Y;obtain⟨fd,hb,hF⟩:=F w mg fa _ KX G.T.g hmg;exact Ms KX G.T.g G.T.b G.T.builtins G.T.nolimit hg hobj hints (bW hlen hn2) hr hF hb (λH hO hS=>hsp w H a ns hlen hO hS) λH e s'=>hCX w H s₁ e s'
abbrev rD (s:aF):Arguments:=match s with
 | .FunctionDef _ a _ _ _ _ _ _ _ _=>a
 | _=>{ posonlyargs:=[],args:=[],vararg:=none,kwonlyargs:=[],kw_defaults:=[],kwarg:=none,defaults:=[]}
abbrev lJ (s:aF):List aF:=match s with
 | .FunctionDef _ _ b _ _ _ _ _ _ _=>b
 | _=>[]
abbrev iT (s:aF):Scope:=match s with
 | .FunctionDef _ _ _ _ _ _ sc _ _ _=>sc
 | _=>{ kind:=.function,names:=[],isGenerator:=false,isCoroutine:=false }
meta abbrev sq:Kq:=λ_ _ _ _ _ _=>False
meta abbrev E0:XK:=λ_ _ _=>False
def V9{X:Cx}:Passes sq X E0:=λ_ _ _ _ _ _ _ h=>h.elim
structure Fun (K:au)(x qual:Str)(st:aF)(f:ak)(fd:FuncData):Prop where
 ex:∃(oc:af) (od:Option ak) (kV doc pm:af) (an:Option ak) (cdv ct:af) (osl:Array<|ba),
  fd=PySem.W.fnOf x qual (rD st) (lJ st) (iT st) .none kV doc pm an cdv ct/\K.lookup f=some ⟨oc,od,.func fd,osl⟩/\PySem.W.codeIn K cdv qual=true
 kp:PySem.W.keepIn K (.ref f)=true
section
variable {P:aj}{w:ah}{K:au}{mg:Str->ba}{base:aq}
def Fun.ok{x:Str}{st:aF}{f:ak}{N ps:am}{k:Nat}{sp:Sp}(F:Fun K x qual st f fd)(S:FnScope N ps<|iT st)(len:∀vs H Q E,sp vs H Q E->vs.length=ps.length)
  (hbody:∀(cdv:af) (A:aA) (outer:List Env) (s:aC) (H:Hp) (vs:List V) (Q:VK) (E:XK),Room k (A.deeper<|envOfC qual (iT st) s.heap.objs.size f cdv)->sp vs H Q E ->
   ∃t,yw (s_ sq P w K mg base N qual (iT st) f cdv A outer s H E).VD (lJ st) t/\t { nx:=λ_ H'=>Q .non H',rt:=Q } (start N vs) H):FnOk P w K mg base sq (k+1) f fd ps sp:=by
 o_rec;refine PK lk hcd S len λA outer s H vs Q E hr hsp=>?_;obtain⟨t,h,q⟩:=hbody cdv A outer s H vs Q E hr hsp;exact⟨t,h.VD,q⟩
def Fun.binds{x:Str}{st:aF}{f:ak}{ps:am}(F:Fun K x qual st f fd)
  (h:∀(kV doc pm:af) (an:Option ak) (cdv ct:af) (us:ap),us.length=ps.length->bindArgs (PySem.W.fnOf x qual (rD st) (lJ st) (iT st) .none kV doc pm an cdv ct) ⟨us,[]⟩=pure (ps.zip us)):Binds K fd ps []:=by
 o_rec;exact .all<|h kV doc pm an cdv ct
def Tu{x:Str}{st:aF}{f:ak}{kV pm ct:af}(l:K.lookup f=some ⟨oc,od,.func<|PySem.W.fnOf x qual (rD st) (lJ st) (iT st) .none kV doc pm an cdv ct,osl⟩)
  (c:PySem.W.codeIn K cdv qual=true) (k:PySem.W.keepIn K (.ref f)=true):Fun K x qual st f (PySem.W.fnOf x qual (rD st) (lJ st) (iT st) .none kV doc pm an cdv ct):=⟨⟨oc,od,kV,doc,pm,an,cdv,ct,osl,rfl,l,c⟩,k⟩
end
section
variable {X:Cx}
def pv(i:Nat){x:Str}(hN:X.N[i]?=some x:=by rfl)(hv:UE X.env.scope x:=by first|exact Or.inl rfl|exact Or.inr (Or.inl rfl)|exact Or.inr<|Or.inr rfl)(hd:(x == ("__debug__" : Str))=false:=by decide)
  (hcd:(x == ("__classdict__" : Str))=false:=by decide):PE X (.Name x pos) (Vj i):=JZ hN hv hd hcd
end
set_option maxHeartbeats 4000000
abbrev Pe (σ:St):bi->Option V
 | some j=>(σ[j]?).getD none
 | none=>none
abbrev u9 (env:Env):List (Str×NameKind)->List (Str×ak)->List (Str×ak)
 | [],cs=>cs
 | (n,k)::r,cs=>u9 env r (if k == .free then(n,(env.cells.lookup n).getD 0)::cs else cs)
def xF{scope:Scope}{env:Env}(h:∀y∈scope.names,y.2=.free->∃c,env.cells.lookup y.1=some c):closureFor scope env=pure (u9 env scope.names []):=by
 have key:∀(l:List<|Str×NameKind) (cs:List<|Str×ak),(∀y∈l,y.2=.free->∃c,env.cells.lookup y.1=some c) ->
   (forIn l cs (λ(x:Str×NameKind) (r:List<|Str×ak)=>(match x with
    | (name,kind)=>if (kind == NameKind.free)=true then(do let c <- cellOf env name;pure (ForInStep.yield ((name,c)::r)))else pure (ForInStep.yield r):Sem<|ForInStep<|List<|Str×ak)))=(pure (u9 env l cs):Sem<|List<|Str×ak):=by
  intro l
  induction l with
  | nil=>intro cs _;rfl
  | cons y r ih=>
   intro cs hl;obtain⟨n,k⟩:=y;rw[List.forIn_cons];by_cases hk:k=.free
   ·subst hk;obtain⟨c,hc⟩:=hl (n,.free) aN rfl;have e1:cellOf env n=pure c:=by
     unfold cellOf;rw[hc]
    dsimp[bM,cX,e1,pure_bind];rw[ih _ λz hz=>hl z<|aQ _ hz];dsimp[u9,bM,cX,hc,d7]
   ·have hb:(k == NameKind.free)=false:=by simpa using hk
    dsimp[hb,bq,bX,pure_bind];rw[ih _ λz hz=>hl z<|aQ _ hz];dsimp[u9,hb,bq,bX]
 have:=key scope.names [] h;exact(c6 (λz=>z >>= λcs=>(pure cs:Sem<|List<|Str×ak)) this).trans (pure_bind _ _)
theorem wz:∀{l:List<|Str×NameKind}{x:Str}{k:NameKind},l.lookup x=some k->(x,k)∈l
 | [],_,_,h=>nomatch h
 | (n,k')::r,x,k,h=>by
  rw[c5]at h
  cases hx:x == n with
  | true=>
   rw[hx]at h;have e:x=n:=by simpa using hx
   subst e
   cases h
   exact aN
  | false=>rw[hx]at h;exact aQ _<|wz h
theorem zA{env:Env}{x:Str}{c:ak}:∀{l:List<|Str×NameKind}{cs:List<|Str×ak},(∀y∈l,y.2=.free->∃c,env.cells.lookup y.1=some c)->(u9 env l cs).lookup x=some c->env.cells.lookup x=some c\/cs.lookup x=some c
 | [],cs,_,h=>.inr h
 | (n,k)::r,cs,hl,h=>by
  have h':=zA (l:=r) (λz hz=>hl z<|aQ _ hz) h
  rcases h' with h'|h'
  ·exact .inl h'
  ·by_cases hk:k=.free
   ·subst hk;dsimp[bM,cX]at h';obtain⟨c',hc⟩:=hl (n,.free) aN rfl;rw[hc,d7,c5]at h'
    cases hx:x == n with
    | true=>
     rw[hx]at h';have e:x=n:=by simpa using hx
     subst e;left;rw[hc];exact h'
    | false=>rw[hx]at h';exact .inr h'
   ·have hb:(k == NameKind.free)=false:=by simpa using hk
    dsimp[hb,bq,bX]at h';exact .inr h'
theorem yJ{env:Env}{x:Str}:∀{l:List<|Str×NameKind}{cs:List<|Str×ak},(cs.lookup x).isSome=true->((u9 env l cs).lookup x).isSome=true
 | [],cs,h=>h
 | (n,k)::r,cs,h=>by
  skip
  refine yJ (l:=r) ?_;by_cases hk:(k == NameKind.free)=true
  ·rw[aJ hk,c5]
   cases hx:x == n with
   | true=>rfl
   | false=>exact h
  ·rw[aK hk];exact h
theorem xT{env:Env}{x:Str}:∀{l:List<|Str×NameKind}{cs:List<|Str×ak},(x,NameKind.free)∈l->((u9 env l cs).lookup x).isSome=true
 | [],_,h=>nomatch h
 | (n,k)::r,cs,h=>by
  rcases bB.mp h with e|h
  ·cases e
   skip
   refine yJ (l:=r) ?_;rw[aJ<|by rfl,c5];simp
  ·exact xT (l:=r) h
abbrev jK (X:Cx)(scope:Scope)(N:am)(C:ak)(s₀:aC)(H₀:Hp)(ex:ar):Cx where
 prog:=X.prog
 w:=X.w
 K:=X.K
 mg:=X.mg
 base:=X.base
 A:=X.A
 N:=N
 s₀:=s₀
 H₀:=H₀
 env:=compEnvC scope (u9 X.env scope.names []) C X.env
 outer:=X.stack
 stack:=X.stack
 ex:=ex
 fn:=λ_=>false
 calm:=X.calm
 pn:=[]
 xe:=λ_ _=>False
structure CpScope (X:Cx)(scope:Scope)(N:am)(cap:List (bi)):Prop where
 kind:scope.kind=.function
 nocell:∀y∈scope.names,y.2≠.cell
 nm:∀y∈scope.names,y.2=.local->scope.names.lookup y.1=some .local
 fr:∀y∈scope.names,y.2=.free->X.env.kindOf y.1=some .cell\/X.env.kindOf y.1=some .free
 rl:∀y,((relabel scope X.env).names.lookup y=some .cell\/(relabel scope X.env).names.lookup y=some .free)->(y,NameKind.free)∈scope.names
 len:cap.length=N.length
 nolf:∀x,(x,NameKind.free)∈scope.names->scope.names.lookup x≠some .local
 cp:∀(i j:Nat) (x:Str),N[i]?=some x->cap[i]?=some (some j)->X.N[j]?=some x/\(x,NameKind.free)∈scope.names
def K3{X:Cx}{N:am}{cap:List<|bi}{H:Hp}{s:aC}{fp:ar}{h₁:aq}{m:Str->ba}{tk:Nat}(S:CpScope X scope N cap)(I:Inv X pins σ H s)
  (hf:∀b∈fp,rq X pins H b) (ho:∀b∈fp,∃o,s.heap.get? b=some o) (hn:h₁.Ns s.heap.objs.size m) (hk:∀b o,s.heap.get? b=some o->h₁.get? b=some o) :
  Inv (jK X scope N s.heap.objs.size s H fp) [] (cap.map<|Pe σ) H { s with heap:=h₁,toks:=tk }:=by
 kpf_c;have lk:∀x c,(u9 X.env scope.names []).lookup x=some c->X.env.cells.lookup x=some c:=λx c e=>by
  rcases zA hfree e with z|z
  ·exact z
  ·cases z
 have lt:∀b o,s.heap.get? b=some o->b≠s.heap.objs.size:=λb o e=>bu<|aV e;refine⟨⟨I.ok.mod,?_,I.ok.glob,I.ok.blt,aO _,?_,?_,?_,I.ok.hd,I.ok.frames,.inl rfl,?_,I.bs,bW I.ok.bsz I.sz,?_,?_,I.stack,I.vF⟩,rfl,I.bare,Un.kept hk,?_,?_,I.hok.fresh<|aO _,?_,?_,I.hok.kept hk,?_⟩
 ·exact S.kind
 ·intro x y c e1 e2;exact I.ok.inj x y c (lk x c e1) (lk y c e2)
 ·intro x e;have hm:=S.rl x e;have:=xT (env:=X.env) (cs:=[]) hm;exact fj.mp this
 ·intro x c e _;exact absurd e (by simp[jK])
 ·intro b hb;obtain⟨o,e⟩:=ho b hb;refine⟨lt b o e,λx c e2=>(hf b hb).2.2.2.2.1 x c<|lk x c e2⟩
 ·intro b o e hb;obtain⟨_,_,_,h3,_⟩:=hf b hb
  rcases h3 with z|z
  ·exact I.ok.noex b o e z
  ·exact absurd (bH (aV (I.ok.bs b o e).1) z)<|dG _
 ·intro b hb hz;obtain⟨_,h1,h2,_⟩:=hf b hb
  rcases bB.mp (I.uG b hz)with z|z
  ·exact h1 z
  ·exact h2 z
 ·refine⟨m,hn,λi x v e1 e2 e3=>?_⟩;rw[bg]at e2
  cases hc:cap[i]? with
  | none=>rw[hc]at e2;cases e2
  | some oj=>
   rw[hc]at e2
   cases oj with
   | none=>cases e2
   | some j=>
    have e2':(σ[j]?).getD none=some v:=aS e2;obtain⟨hj,hm⟩:=S.cp i j x e1 hc;obtain⟨m0,hn0,hl0⟩:=I.loc;have hσ:σ[j]?=some (some v):=by
     cases h:σ[j]? with
     | none=>rw[h]at e2';cases e2'
     | some z=>rw[h,d7]at e2';rw[e2']
    have hkd:=S.fr (x,.free) hm rfl;have hv:UE X.env.scope x:=.inr hkd;obtain⟨u,ru,lo⟩:=hl0 j x v hj hσ hv;refine⟨u,ru,?_⟩
    rcases lo with⟨lo,_⟩|⟨_,c,ec,ic⟩
    ·rcases hkd with z|z<;>(rw[z]at lo;cases lo)
    ·have h2:=xT (env:=X.env) (cs:=[]) hm;obtain⟨c',hc'⟩:=fj.mp h2;have:c'=c:=aS<|(lk x c' hc').symm.trans ec;subst this;refine .inr ⟨?_,c',hc',?_⟩
     ·rcases e3 with z|z|z
      ·exfalso;have:(relabel scope X.env).names.lookup x=some .local:=z;have hloc:scope.names.lookup x=some .local:=by
        have hmem:∃k,(x,k)∈(relabel scope X.env).names/\k=.local:=by
         clear hc' h2;have:=wz this;exact⟨_,this,rfl⟩
        obtain⟨k,hk1,rfl⟩:=hmem;obtain⟨⟨n',k'⟩,hm1,hm2⟩:=b_.mp hk1;dsimp only at hm2;split at hm2
        ·cases hm2
        ·cases hm2
         exact S.nm (x,.local) hm1 rfl
       exact False.elim<|S.nolf x hm hloc
      ·exact .inl z
      ·exact .inr z
     ·obtain⟨o,ho',hd⟩:=ic;exact⟨o,hk _ _ ho',hd⟩
 ·intro x c e;obtain⟨v,o,ho',hd⟩:=I.cell x c<|lk x c e;exact⟨v,o,hk _ _ ho',hd⟩
 ·intro x c e;exact I.freeC x c (lk x c e)
 ·intro p hp
  cases hp
 ·rw[aM,S.len];rfl
abbrev Ng (X:Cx)(ifs:List aE)(t:TT):Prop:=
 ∀(pins:bj) (s:aC) (σ:St) (H:Hp) (Q:Bool->Hp->Prop),Inv X pins σ H s->t σ H Q ->
  wpAny (model X.prog X.w) X.A (forIn ifs true λc r=>if r=true then do let ok <- isTrue c X.env (eval c X.env);pure (ForInStep.yield ok)else pure (ForInStep.yield r)) (TP X pins σ Q) X.xe s
abbrev XC:TT:=λ_ H Q=>Q true H
def NT{X:Cx}:Ng X [] XC:=λ_ _ _ H _ I h=>wpAny_tests_nil ⟨H,I,h⟩
def O8{X:Cx}{c:aE}{t:TT}(h:PT X c t):Ng X [c] t:=λpins s σ H Q I q=>wpAny_tests_one<|h pins s σ H Q I q
abbrev Rv (cap:List<|bi)(g:TG)(tc:TT)(te:TE)(σ:St)(Q:VK)(J:It)(H1:Hp):Prop:=∀D,H1 D=none ->
 ∃W:Nat->Nat->St->Hp->Prop,(∃m,W 0 m (cap.map<|Pe σ)<|upd H1 D<|.lst [])/\∀i m σ' H',W i m σ' H' ->
  (J.stop i H'/\Q (.ref D) H')\/(J.go i H'/\∀x H2,J.yld i H' x H2->g x σ' H2 λσ3 H3=>tc σ3 H3 λb H4=>
   if b=true then te σ3 H4 λy H5=>∃ys,H5 D=some (.lst ys)/\ys.length<sizeLine/\∃m',m'<m/\W (i+1) m' σ3 (upd H5 D<|.lst<|ys++[y])
   else ∃m',m'<m/\W (i+1) m' σ3 H4)
abbrev Wl (cap:List<|bi)(wi:TI)(g:TG)(tc:TT)(te:TE):TE:=λσ H Q=>wi σ H<|Rv cap g tc te σ Q
def Aw{α:Type}{t:Sem α}{Q Q':α->aC->Prop}{A:aA}{E:af->aC->Prop}(h:wpAny M A t Q (λ_ _=>False) s)(hQ:∀a s,Q a s->Q' a s):wpAny M A t Q' E s:=
 cJ h hQ λ_ _ f=>f.elim
structure TurnG (ok:Cx->Prop)(P:aj)(w:ah)(K:au)(tg:aE)(J:It)(fp:ar)(it:ak)(tn:Nat->aq->Prop):Prop where
 obj:∀i h,tn i h->∀b∈fp,∃o,h.get? b=some o/\∀v,o.data≠.cell v
 keep:∀i h h',tn i h->(∀b∈fp,∀o,h.get? b=some o->h'.get? b=some o)->tn i h'
 item:∀(X:Cx),X.prog=P->X.w=w->X.K=K->ok X->∀(i:Nat) (pins:bj) (s:aC) (σ:St) (H:Hp) (E:af->aC->Prop),Inv X pins σ H s->(∀b∈fp,rq X pins H b)->tn i s.heap->J.go i H ->
  wpAny (model P w) X.A (pyNext<|.ref it) (λr s1=>∃u,r=some u /\
   wpAny (model P w) X.A (letOwnedTupleGo tg (.ref it) u) (λ_ s2=>∃x H',Inv X pins σ H' s2/\RelV x u/\J.yld i H x H'/\tn (i+1) s2.heap/\∀b∈fp,H' b=none) E s1) E s
 done:∀(X:Cx),X.prog=P->X.w=w->X.K=K->ok X->∀(i:Nat) (pins:bj) (s:aC) (σ:St) (H:Hp) (E:af->aC->Prop),Inv X pins σ H s->(∀b∈fp,rq X pins H b)->tn i s.heap->J.stop i H ->
  wpAny (model P w) X.A (pyNext<|.ref it) (λr s1=>r=none/\Inv X pins σ H s1) E s
 self:∀(A:aA) (i:Nat) (s:aC) (Q:af->aC->Prop) (E:af->aC->Prop),tn i s.heap->Q (.ref it) s->wpAny (model P w) A (pyIter<|.ref it) Q E s
abbrev WZ (ok:Cx->Prop)(X:Cx)(pins:bj)(σ:St)(tg:aE)(R:It->Hp->Prop)(itv:af)(s2:aC):Prop:=
 ∃(it:ak) (fp:ar) (tn:Nat->aq->Prop) (J:It) (H':Hp),itv=.ref it/\Inv X pins σ H' s2/\TurnG ok X.prog X.w X.K tg J fp it tn/\tn 0 s2.heap/\(∀b∈fp,rq X pins H' b)/\R J H'
abbrev Vy (ok:Cx->Prop)(X:Cx)(tg iter:aE)(wi:TI):Prop:=
 ∀(pins:bj) (s:aC) (σ:St) (H:Hp) (R:It->Hp->Prop),Inv X pins σ H s->wi σ H R ->
  wpAny (model X.prog X.w) X.A (eval iter X.env) (λv s1=>wpAny (model X.prog X.w) X.A (pyIter v) (WZ ok X pins σ tg R) X.xe s1) X.xe s
def PI.g{X:Cx}{iter:aE}{wi:TI}(h:PI X tg iter wi):Vy (λY=>Y.calm=true) X tg iter wi:=λpins s σ H R I q=>
 j3 (h pins s σ H R I q) λv s1 h1=>j3 h1 λitv s2 ⟨it,fp,tn,J,H',e,I',T,a,b,c⟩=>⟨it,fp,tn,J,H',e,I',⟨T.obj,T.keep,T.item,T.done,T.self⟩,a,b,c⟩
def EE{ok:Cx->Prop}{X:Cx}{use:Option<|af->Sem Unit}{Q':af->aC->Prop}{iter:aE}{N:am}{wi:TI}{g:TG}{tc:TT}{te:TE}(S:CpScope X scope N cap)(hok:∀C s₀ H₀ ex,(∀a o u,X.H₀ a=some (.frz o u)->H₀ a=some (.frz o u))->ok (jK X scope N C s₀ H₀ ex))(hi:Vy ok X tg iter wi)
  (hg:∀C s₀ H₀ ex,PG (jK X scope N C s₀ H₀ ex) tg g) (ht:∀C s₀ H₀ ex,Ng (jK X scope N C s₀ H₀ ex) ifs tc) (he:∀C s₀ H₀ ex,PE (jK X scope N C s₀ H₀ ex) elt te)
  (hs:∀x,foldedSetIterable iter X.env x=pure x:=by intro _;rfl):∀(pins:bj) (s:aC) (σ:St) (H:Hp) (Q:VK),Inv X pins σ H s->Wl cap wi g tc te σ H Q ->
  (∀(s6:aC) (C D:ak) (H5:Hp) (m:Str->ba),s6.heap.Ns C m->rq X pins H5 C->(∀h',Heap.SameBut C s6.heap h'->Inv X pins σ H5 { s6 with heap:=h' })->Q (.ref D) H5->∀v,compPost (model X.prog X.w) X.A X.xe use Q' (.ref D) C (.ok v) s6) ->
  wpAny (model X.prog X.w) X.A (comprehension (.ListComp elt [⟨tg,iter,ifs,0⟩] scope pos) scope X.env (firstIterPos [⟨tg,iter,ifs,0⟩] pos) (newList []) (firstAsync [⟨tg,iter,ifs,0⟩]) (firstIter [⟨tg,iter,ifs,0⟩] X.env) use) Q' X.xe s:=by
 intro pins s σ H Q I h hfin;kpf_c;refine wpAny_comprehension_free (use:=use) rfl hs (xF hfree) S.kind S.nm<|j3 (hi pins s σ H _ I h) λxv s1 h1=>j3 h1 λitv s2 h2=>?_;obtain⟨it,fp,tn,J,H2,rfl,I2,T,st2,f2,h2⟩:=h2;refine dc (wpAny_newFunctionEnv S.nocell (by intro y hy;simp at hy) (λh₁ hns₁ hsb₁=>?_) S.kind);obtain⟨W,⟨m0,w0⟩,turn⟩:=h2 s2.heap.objs.size I2.fresh;dsimp only at hns₁ hsb₁ ⊢;have I3:Inv X pins σ (upd H2 s2.heap.objs.size<|.lst []) { s2 with heap:=s2.heap.push {}}:=I2.Oi (t':=s2.toks) (its:=[]) .nil<|cE _;have hfp:∀b∈fp,∃o,s2.heap.get? b=some o:=λb hb=>by
  obtain⟨o,e,_⟩:=T.obj 0 _ st2 b hb;exact⟨o,e⟩
 have neD:∀b∈fp,b≠s2.heap.objs.size:=λb hb=>by
  obtain⟨o,e⟩:=hfp b hb;exact bu<|aV e
 have f3:∀b∈fp,rq X pins (upd H2 s2.heap.objs.size<|.lst []) b:=λb hb=>⟨by rw[iS<|neD b hb];exact(f2 b hb).1,(f2 b hb).2⟩;have hDC:s2.heap.objs.size≠(s2.heap.push {}).objs.size:=by rw[gR];exact bu (cK _)
 have old:∀b o,(s2.heap.push {}).get? b=some o->h₁.get? b=some o:=λb o e=>hsb₁.extBut b o (bu<|aV e)<|aP _ e;have I4:=K3 (tk:=s2.toks+([]:List<|Str×af).length) (fp:=fp) S I3 f3 (λb hb=>by
  obtain⟨o,e⟩:=hfp b hb;exact⟨o,aP _ e⟩) hns₁ old
 have st4:tn 0 h₁:=T.keep _ _ _ st2 λb hb o e=>old b o<|aP _ e;have hc:=hok (s2.heap.push {}).objs.size { s2 with heap:=s2.heap.push {}} (upd H2 s2.heap.objs.size<|.lst []) fp λa o u e=>by
  have z:=I2.base.frzs a o u e;rw[iS λq=>by rw[q,I2.fresh]at z;cases z];exact z
 have stat:∀{H':Hp},(∀b∈fp,H' b=none)->∀b∈fp,rq (jK X scope N (s2.heap.push {}).objs.size { s2 with heap:=s2.heap.push {}} (upd H2 s2.heap.objs.size<|.lst []) fp) [] H' b:=λhn b hb=>by
  have ok:=I4.ok;refine⟨hn b hb,(ok.exf b hb).1,ok.exfs b hb,.inl hb,λx c e=>(ok.exf b hb).2 x c e,λp hp=>nomatch hp⟩
 have loop:∀s4:aC,s4={ s2 with heap:=h₁,toks:=s2.toks+([]:List<|Str×af).length } ->
   codeAny (model X.prog X.w) X.A (.compLoop (.ListComp elt [⟨tg,iter,ifs,0⟩] scope pos) 0 (.ref it) (.ref s2.heap.objs.size)<|compEnvC scope (u9 X.env scope.names []) (s2.heap.push {}).objs.size X.env)
    (compPost (model X.prog X.w) X.A X.xe use Q' (.ref s2.heap.objs.size) (s2.heap.push {}).objs.size) s4:=by
  rintro s4 rfl;refine codeAny_loop rfl (λn s'=>∃i σ' H',Inv (jK X scope N (s2.heap.push {}).objs.size { s2 with heap:=s2.heap.push {}} (upd H2 s2.heap.objs.size<|.lst []) fp) [] σ' H' s'/\tn i s'.heap/\(∀b∈fp,H' b=none)/\W i n σ' H') (λn s5 hI=>?_) m0 ⟨0,_,_,I4,st4,λb hb=>(f3 b hb).1,w0⟩;obtain⟨i,σ5,H5,I5,st5,fr5,w5⟩:=hI
  skip
  refine wpAny_noted ?_;rw[compTurn_list];refine aH (dY<|aH ?_)
  rcases turn i n σ5 H5 w5 with⟨stop,q⟩|⟨go,step⟩
  ·refine j3 (T.done (jK X scope N (s2.heap.push {}).objs.size { s2 with heap:=s2.heap.push {}} (upd H2 s2.heap.objs.size<|.lst []) fp) rfl rfl rfl hc i [] s5 σ5 H5 _ I5 (stat fr5) st5 stop) λr s6 h9=>?_;obtain⟨hr,I6⟩:=h9;subst hr;obtain⟨m6,hn6,_⟩:=I6.loc;refine aT<|hfin s6 _ _ H5 m6 hn6 (I3.Ba (aO _) I6.free) (λh' sb=>?_) q _;have u6:=I6.base;have nC:∀b o,(s2.heap.push {}).get? b=some o->b≠(s2.heap.push {}).objs.size:=λb o e=>bu<|aV e;refine I3.J6 (ch:=fp) I6.os ⟨λb o e n hb hx=>?_,λb o e n hb hx=>?_,λb o e n hx=>?_,λb o e hx=>?_,u6.tups,u6.frzs,u6.tbls⟩ ?_ I6.bare ?_
   ·exact sb.extBut b o (nC b o e) (u6.keep b o e n hb hx)
   ·obtain⟨sl,z⟩:=u6.slot b o e n hb hx;exact⟨sl,sb.extBut b _ (nC b o e) z⟩
   ·exact u6.free b o e n hx
   ·obtain⟨o',z⟩:=u6.there b o e hx;exact⟨o',sb.extBut b _ (nC b o e) z⟩
   ·intro b o e;have hb:∀c v,H5 c=some v->c≠(s2.heap.push {}).objs.size:=λc v e z=>by
     rw[z]at e;have:=I6.free;rw[show H5 (s2.heap.push {}).objs.size=none from this]at e
     cases e
    refine(I6.hok b o e).stay (λc v hc q=>sb.extBut c v ?_ q) (λ_ q=>q) λ_ _ q=>q
    rcases hc with z|z
    ·rw[z];exact hb b o e
    ·exact hb c _ z
   ·intro b hb;obtain⟨_,z1,_,z3,z4,z5⟩:=f3 b hb;exact⟨z3,z1,z4,z5⟩
  ·refine j3 (T.item (jK X scope N (s2.heap.push {}).objs.size { s2 with heap:=s2.heap.push {}} (upd H2 s2.heap.objs.size<|.lst []) fp) rfl rfl rfl hc i [] s5 σ5 H5 _ I5 (stat fr5) st5 go) λr s6 h9=>?_;obtain⟨u,hr,h6⟩:=h9;subst hr;refine aH<|j3 h6 λ_ s7 ⟨x,H7,I7,r7,y7,st7,fr7⟩=>?_;have I7':=I7.pinned (stat fr7)<|T.obj _ _ st7;refine aH<|Aw (hg _ _ _ fp _ s7 σ5 H7 x u _ I7' r7<|step x H7 y7) λ_ s8 ⟨σ8,H8,I8,q8⟩=>?_;refine aH<|Aw (ht _ _ _ fp _ s8 σ8 H8 _ I8 q8) λok s9 ⟨H9,I9,q9⟩=>?_;have again:∀{s10:aC} {H10:Hp},Inv (jK X scope N (s2.heap.push {}).objs.size { s2 with heap:=s2.heap.push {}} (upd H2 s2.heap.objs.size<|.lst []) fp) ([]++sI fp s7.heap) σ8 H10 s10->(∃m',m'<n/\W (i+1) m' σ8 H10) ->
     ∃m,m<n/\∃i σ' H',Inv (jK X scope N (s2.heap.push {}).objs.size { s2 with heap:=s2.heap.push {}} (upd H2 s2.heap.objs.size<|.lst []) fp) [] σ' H' s10/\tn i s10.heap/\(∀b∈fp,H' b=none)/\W i m σ' H':=λ{s10 H10} I10 h9=>by
    obtain⟨m',hm,w10⟩:=h9;refine⟨m',hm,i+1,σ8,H10,I10.nP,T.keep _ _ _ st7 λb hb o e=>(I10.pin (b,o)<|br _<|br _<|ki hb e).1,λb hb=>?_,w10⟩;obtain⟨o,e,d⟩:=T.obj _ _ st7 b hb;exact(I10.pin (b,o)<|br _<|br _<|ki hb e).2.1
   cases ok with
   | false=>
    rw[aK bG]at q9;exact aT ⟨rfl,again I9 q9⟩
   | true=>
    rw[aJ rfl]at q9;refine aH<|aH<|Aw (he _ _ _ fp _ s9 σ8 H9 _ I9 q9) λy s10 ⟨v10,H10,I10,r10,ys,hD,hz,w10⟩=>?_;refine aH<|Aw (t9 _ s10 σ8 H10 (.ref s2.heap.objs.size) [v10] _ [y] (λ_ H'=>H'=upd H10 s2.heap.objs.size (.lst<|ys++[v10])) I10 rfl (.cons r10 .nil) ⟨_,ys,v10,rfl,rfl,hD,hz,rfl⟩) λ_ s11 ⟨_,H11,I11,_,e11⟩=>?_;subst e11;exact aT<|aT ⟨rfl,again I11 w10⟩
 exact codeAny_compStart_list (loop _ rfl)<|T.self _ 0 _ _ _ st4<|loop _ rfl
def K_{ok:Cx->Prop}{X:Cx}{iter:aE}{N:am}{wi:TI}{g:TG}{tc:TT}{te:TE}(S:CpScope X scope N cap)(hok:∀C s₀ H₀ ex,(∀a o u,X.H₀ a=some (.frz o u)->H₀ a=some (.frz o u))->ok (jK X scope N C s₀ H₀ ex))(hi:Vy ok X tg iter wi)
  (hg:∀C s₀ H₀ ex,PG (jK X scope N C s₀ H₀ ex) tg g) (ht:∀C s₀ H₀ ex,Ng (jK X scope N C s₀ H₀ ex) ifs tc) (he:∀C s₀ H₀ ex,PE (jK X scope N C s₀ H₀ ex) elt te)
  (hs:∀x,foldedSetIterable iter X.env x=pure x:=by intro _;rfl):PE X (.ListComp elt [⟨tg,iter,ifs,0⟩] scope pos) (Wl cap wi g tc te):=by
 kd_p;rw[eval_ListComp];exact EE (use:=none) (Q':=EP X pins σ Q) S hok hi hg ht he hs pins s σ H Q I h λs6 C D H5 m hn fk inv q v=>⟨m,hn,λh' sb=>⟨.ref D,H5,inv h' sb,rfl,q⟩⟩
def VO{X:Cx}{iter:aE}{N:am}{wi:TI}{g:TG}{tc:TT}{te:TE}(hc:X.calm=true)(S:CpScope X scope N cap)(hi:PI X tg iter wi)
  (hg:∀C s₀ H₀ ex,PG (jK X scope N C s₀ H₀ ex) tg g) (ht:∀C s₀ H₀ ex,Ng (jK X scope N C s₀ H₀ ex) ifs tc) (he:∀C s₀ H₀ ex,PE (jK X scope N C s₀ H₀ ex) elt te)
  (hs:∀x,foldedSetIterable iter X.env x=pure x:=by intro _;rfl):PE X (.ListComp elt [⟨tg,iter,ifs,0⟩] scope pos) (Wl cap wi g tc te):=
 K_ S (λ_ _ _ _ _=>hc) hi.g hg ht he hs
section
variable {X:Cx}
def RV:mL X (compareOp .Is) (λx y H Q=>∃a b,x=.bl a/\y=.bl b/\Q (.bl<|a == b) H):=by
 gn_on;obtain⟨a,b,rfl,rfl,q⟩:=h
 cases rx;cases ry
 exact is_bool ⟨.bl _,H,I,rfl,q⟩
def Aa:jw X (.type "range") (λxs H Q=>∃i j,xs=[.int i,.int j]/\∀p,H p=none->Q (.ref p) (upd H p<|.rng i j)):=by
 kt_k;obtain⟨i,j,rfl,q⟩:=h;obtain⟨u,w',rfl,⟨t,rfl⟩,⟨t',rfl⟩⟩:=vals2 r;refine call_range_2 ⟨.ref s.heap.objs.size,_,I.laid (o:=.rng i j) (λb o e=>aP _ e) (aO _) ?_,rfl,q _ I.fresh⟩;exact⟨t,t',s.toks,bD _ rfl⟩
abbrev jm (i j:Int):ae:=(List.range (j-i).toNat).map λk:Nat=>i+(k:Int)
def kT(i j:Int):(jm i j).length=(j-i).toNat:=by unfold jm;rw[aM,cB]
def xq{i:Int}{n:Nat}{acc:Array af}(h:ItemsOf (λk v=>∃t,v=Value.int (i+(k:Int) * 1) t) acc n):Vals (((List.range n).map λk:Nat=>i+(k:Int)).map V.int) acc.toList:=by
 obtain⟨hs,hv⟩:=h;have gen:∀(l:ap) (b:Nat),(∀j v,l[j]?=some v->∃t,v=Value.int (i+((b+j:Nat):Int)) t)->Vals (((List.range' b l.length).map λk:Nat=>i+(k:Int)).map V.int) l:=by
  intro l
  induction l with
  | nil=>intro b _;exact .nil
  | cons v l ih=>
   intro b hb;rw[bA,ff,bQ,bQ];refine .cons ?_ ?_
   ·obtain⟨t,e⟩:=hb 0 v rfl;exact⟨t,by rw[e];simp⟩
   ·refine ih (b+1) λj w hw=>?_;obtain⟨t,e⟩:=hb (j+1) w hw;exact⟨t,by rw[e,show b+(j+1)=b+1+j by lia]⟩
 have:=gen acc.toList 0 λj v hj=>by
  obtain⟨t,e⟩:=hv j v (by simpa using hj);exact⟨t,by rw[e,dD,Int.mul_one]⟩
 rw[cL,hs,<- c7]at this;exact this
def Jr{i j:Int}:Builtin.Range.rangeSize i j 1=(((j-i).toNat:Nat):Int):=by rw[rangeSize_one];split<;>omega
def ym(hc:X.calm=true):jw X (.type "list") (λxs H Q=>∃p i j,xs=[.ref p]/\H p=some (.rng i j)/\(-(2 ^ 62)<=i/\i<2 ^ 62/\-(2 ^ 62)<=j/\j<2 ^ 62)/\(j-i).toNat<=1000/\∀l,H l=none->Q (.ref l) (upd H l<|.lst<|(jm i j).map V.int)):=by
 kt_k;obtain⟨p,i,j,rfl,hp,⟨b1,b2,b3,b4⟩,hn,q⟩:=h;kcj_m
 cases rx
 obtain⟨t,u',v,e⟩:=I.hok p _ hp;refine call_list_range (n:=(j-i).toNat) (I.ok.hd hc) e (small_one b1 b2 b3 b4) Jr () λh' tk acc' c' hk hS hacc=>?_;refine⟨.ref s.heap.objs.size,_,I.laid (o:=.lst<|(jm i j).map V.int) hk (aO _) ⟨?_,acc'.toList,c',xq hacc,by rw[hS]⟩,rfl,q _ I.fresh⟩;rw[aM,kT,cH];lia
end
section
variable {X:Cx}
def uY{prog:aj}{w:ah}{A:aA}{E:af->aC->Prop}{s:aC}{Q:ap->aC->Prop}{r:ak}{a b c:Int}{v:Tok}{n:Nat}(hh:A.handled=none)(hr:IsRange s.heap r a b c t u v)(hsmall:Builtin.Range.small a b c=true)
  (hn:Builtin.Range.rangeSize a b c=n) (hlen:n<=2 ^ 24)
  (hQ:∀h' tk (acc':Array af),(∀b o,s.heap.get? b=some o->h'.get? b=some o)->ItemsOf (λi v=>∃t,v=.int (a+i * c) t) acc' n->Q acc'.toList { s with heap:=h',toks:=tk }) :
  wpAny (model prog w) A (collect<|.ref r) Q E s:=by
 unfold collect;refine aH<|wpAny_runValue<|fF F.entry_proto_collect ?_;rw[eX F.plain_proto_collect _]
 skip
 refine aH<|dc ?_;refine aT ⟨plainId_quiet F.plain_list_iadd _,fF F.entry_list_iadd ?_⟩;rw[eX F.plain_list_iadd _]
 skip
 have hS:(s.heap.push {}).get? s.heap.objs.size=some { cls:=.type "list",data:=.seq #[] 0 }:=bD _ rfl;have fin':∀(h':aq) (tk:Nat) (acc':Array af) (c':Nat),(∀b o,b≠s.heap.objs.size->(s.heap.push {}).get? b=some o->h'.get? b=some o) ->
   h'.get? s.heap.objs.size=some { cls:=.type "list",dict:=none,data:=.seq acc' c',slots:=#[]}->ItemsOf (λi v=>∃t,v=.int (a+i * c) t) acc' n ->
   wpAny (model prog w) A (match Value.ref s.heap.objs.size with
   | Value.ref a=>do
    match (<- load a).data with
     | Data.seq xs _=>pure xs.toList
     | _=>unsupported "internal:collect"
   | _=>unsupported "internal:collect") Q E { s with heap:=h',toks:=tk }:=by
  intro h' tk acc' c' hk hS' hacc
  skip
  refine aH<|wpAny_load hS' ?_;refine aT ?_;exact hQ h' tk acc' (λb o e=>hk b o (bu<|aV e)<|aP _ e) hacc
 refine cJ (wpAny_extend_range (A:=A) (R:=λrr s'=>rr=.ok (.ret<|.ref s.heap.objs.size)/\∃h' tk acc' c',s'={ s with heap:=h',toks:=tk }/\(∀b o,b≠s.heap.objs.size->(s.heap.push {}).get? b=some o->h'.get? b=some o) /\
   h'.get? s.heap.objs.size=some { cls:=.type "list",dict:=none,data:=.seq acc' c',slots:=#[]}/\ItemsOf (λi v=>∃t,v=.int (a+i * c) t) acc' n)
  (s:={ s with heap:=s.heap.push {}}) hh (aP _ hr) hsmall hn hlen s.heap.objs.size (.ref s.heap.objs.size) 0 hS
  (λh' tk acc' c' hk hS' hacc=>⟨rfl,h',tk,acc',c',rfl,hk,hS',hacc⟩)) (λfin s' h=>?_) λe s' h=>?_
 ·cases fin with
  | done f=>
   obtain⟨e,h',tk,acc',c',rfl,hk,hS',hacc⟩:=h
   cases e
   exact fin' h' tk acc' c' hk hS' hacc
  | again c'=>exact⟨h.1,e_ h.2 λr s'' hr=>by
    obtain⟨rfl,h',tk,acc',c',rfl,hk,hS',hacc⟩:=hr;exact fin' h' tk acc' c' hk hS' hacc⟩
 ·exact absurd h.1<|by simp
def rY(l:ak){a b:Int}{v:Tok}{n:Nat}(hsmall:Builtin.Range.small a b 1=true)
  (hn:Builtin.Range.rangeSize a b 1=n) (hlen:n<=1000) :
  Meets (Builtin.«tuple.__new__» ⟨[.type "tuple",.ref l],[]⟩)
   (λA R s=>A.handled=none/\IsRange s.heap l a b 1 t u v/\∀(h':aq) (tk:Nat) (acc':Array af),(∀b o',s.heap.get? b=some o'->h'.get? b=some o')->ItemsOf (λi v=>∃t,v=.int (a+i * 1) t) acc' n->R (.ok<|.ret<|.ref h'.objs.size) { s with heap:=h'.push { cls:=.type "tuple",data:=.seq acc' },toks:=tk }):=
 .of_wp λprog w A R s h=>by
  obtain⟨hp,g,d,tk,os⟩:=s;obtain⟨hh,ht,h⟩:=h;have hsub:=sub_tuple_self;have hinit:=init_tuple_lookup;have hmh:=madeHere_tuple;have hT:Shared.TypeIs ⟨hp,g,d,tk,os⟩ (.ref l) "range" := ⟨_,ht,rfl⟩;have hh':A.in1.handled=none:=hh
  wp_walk using AutoSeq1.wpAny_loadPart' ht,iD hT,uY (A:=A.in1) hh' ht hsmall hn (by omega)
  intro h' tk' acc' hk hacc;show wpAny _ _ (Builtin.Tuple.tupleExact acc'.toList.toArray >>= λv=>ret v) _ _ _;unfold Builtin.Tuple.tupleExact;have e:acc'.toList.toArray=acc':=by simp
  refine aH (dc ?_<|by show acc'.toList.toArray.size<=sizeLine;rw[e,hacc.1,cH];omega);refine aT ⟨_,rfl,?_⟩;rw[e];exact h h' tk' acc' hk hacc
def wm(hc:X.calm=true):jw X (.type "tuple") (λxs H Q=>∃p i j,xs=[.ref p]/\H p=some (.rng i j)/\(-(2 ^ 62)<=i/\i<2 ^ 62/\-(2 ^ 62)<=j/\j<2 ^ 62)/\(j-i).toNat<=1000/\∀l,H l=none->Q (.ref l) (upd H l<|.tup<|(jm i j).map V.int)):=by
 kt_k;obtain⟨p,i,j,rfl,hp,⟨b1,b2,b3,b4⟩,hn,q⟩:=h;kcj_m
 cases rx
 obtain⟨t,u',v,e⟩:=I.hok p _ hp;refine callType_new F.called_tuple ⋯ (F.typeCall_tuple_1 _) (F.newCall_tuple_1 _) (λobj=>F.args_object_init_2 obj _) F.entry_tuple_new
  (rY (n:=(j-i).toNat) p (small_one b1 b2 b3 b4) Jr hn) ⟨I.ok.hd hc,e,λh' tk acc' hk hacc=>⟨⟨_,bD _ rfl,rfl⟩,?_⟩⟩
 have I1:Inv X pins σ H { s with heap:=h',toks:=tk }:=I.kept hk;refine⟨.ref h'.objs.size,_,I1.laid (t':=tk) (o:=.tup<|(jm i j).map V.int) (λb o e=>aP _ e) (aO _) ⟨?_,acc'.toList,xq hacc,?_⟩,rfl,q _<|I1.hok.fresh<|aO _⟩
 ·rw[aM,kT,cH];lia
 ·have e:acc'.toList.toArray=acc':=by simp
  rw[e];exact ng.new _ _
def Ck{c:String}:jw X (.builtin "isinstance") (λxs H Q=>∃x t b,xs=[x,.ty c]/\TyOf X.K H x t/\PySem.W.kitOne X.K t (.type c)=some b/\Q (.bl b) H):=by
 kt_k;obtain⟨x,t,b,rfl,ty,e,q⟩:=h;obtain⟨u,w',rfl,rx,rc⟩:=vals2 r
 cases rc
 exact HD I rx ty e λtk=>⟨.bl b,H,I.tok tk,rfl,q⟩
abbrev TM (K:au):R2:=λx y H Q=>∃a b ys,x=.ref a/\y=.ref b/\nk K H a []/\nk K H b ys/\Q (.ref b) H
def J9:mL X (binaryOp .Add) (TM X.K):=by
 gn_on;obtain⟨a,b,ys,rfl,rfl,h1,h2,q⟩:=h
 cases rx
 cases ry
 obtain⟨us,r1,p1,_⟩:=I.tuple h1;obtain⟨ws,r2,p2,_⟩:=I.tuple h2
 cases r1
 obtain⟨⟨cls,dd,data,sl⟩,ho,hc,n,hd⟩:=id p1;obtain⟨⟨cls2,dd2,data2,sl2⟩,ho2,hc2,n2,hd2⟩:=id p2;simp only at hc hd hc2 hd2;subst hc hd hc2 hd2;exact concat_meets ⟨_,ho,rfl⟩ ⟨_,ho2,rfl⟩ noFill_tuple_add seq_tuple_add fP fM (fq _ _)
   (tuple_addW0 a b _ ws.toArray n n2 dd dd2 sl sl2<|by simp) ⟨ho,ho2,⟨.ref b,H,I,rfl,q⟩⟩
end
def kI:bootBuiltins "len" = some (.builtin "len"):=by decide +kernel
def LY:bootBuiltins "max" = some (.builtin "max"):=by decide +kernel
def SN:bootBuiltins "min" = some (.builtin "min"):=by decide +kernel
def yZ:bootBuiltins "sorted" = some (.builtin "sorted"):=by decide +kernel
def pH:bootBuiltins "isinstance" = some (.builtin "isinstance"):=by decide +kernel
def To:bootBuiltins "int" = some (.type "int"):=by decide +kernel
def OI:bootBuiltins "bool" = some (.type "bool"):=by decide +kernel
def zJ:bootBuiltins "list" = some (.type "list"):=by decide +kernel
def qO:bootBuiltins "tuple" = some (.type "tuple"):=by decide +kernel
def sO:bootBuiltins "range" = some (.type "range"):=by decide +kernel
structure Blt (mg:Str->ba):Prop where
 len:mg "len" = none
 abs:mg "abs" = none
 all:mg "all" = none
 any:mg "any" = none
 max:mg "max" = none
 min:mg "min" = none
 sorted:mg "sorted" = none
 isinstance:mg "isinstance" = none
 int:mg "int" = none
 bool:mg "bool" = none
 str:mg "str" = none
 list:mg "list" = none
 tuple:mg "tuple" = none
 range:mg "range" = none
def NB:∀{a b:ae},a.Perm b->a.Pairwise (·<=·)->b.Pairwise (·<=·)->a=b:=λp ha hb=>
 List.Perm.eq_of_pairwise (λx y _ _ h1 h2=>gI h1 h2) ha hb p
def GA(i j:Int):(jm i j).Pairwise (·<=·):=by
 unfold jm;rw[dS];exact fQ.imp λh=>()
def nR(i j:Int):(jm i j).Nodup:=by
 unfold jm;rw[List.Nodup,dS];exact fQ.imp λh=>()
def jX{i j k:Int}:k∈jm i j ↔ i<=k/\k<j:=by
 unfold jm;rw[b_];constructor
 ·rintro⟨a,ha,rfl⟩;have:=cV.mp ha
  lia
 ·rintro⟨h1,h2⟩;exact⟨(k-i).toNat,cV.mpr (),()⟩
theorem uU:∀{l m:ae},l.Nodup->(∀x∈l,x∈m)->m.length<=l.length->l.Perm m
 | [],m,_,_,h=>by
  have:m=[]:=d8.mp<|Nat.le_zero.mp h;rw[this]
 | a::l,m,nd,hs,hl=>by
  have ha:a∈m:=hs a aN;have nd':=cP.mp nd;have pm:m.Perm (a::m.erase a):=List.perm_cons_erase ha;have ih:=uU (l:=l) (m:=m.erase a) nd'.2 (λx hx=>by
   have hxa:x≠a:=λe=>nd'.1<|e ▸ hx;exact(List.mem_erase_of_ne hxa).mpr (hs x<|aQ _ hx)) (by
   rw[List.length_erase_of_mem ha];dsimp[bA]at hl
   lia)
  exact(List.Perm.cons a ih).trans pm.symm
abbrev Kn (P:aj)(w:ah)(K:au)(mg:Str->ba)(base:aq)(k:Nat)(x:Str)(ps:am)(sp:Sp):Prop:=
 ∃(f:ak) (fd:FuncData),FnOk P w K mg base sq k f fd ps sp/\mg x=some (.ref f)/\PySem.W.keepIn K (.ref f)=true/\Binds K fd ps []
def U5{X:Cx}{k:Nat}{x:Str}{sp:Sp}{e:aE}{t:TA}{p:Pos}(G:Kn X.prog X.w X.K X.mg X.base k x ps sp)(hr:Room k X.A)(ha:PA X (e::es) t)(hg:Gl X x:=by rfl)
  (hdb:(x == ("__debug__" : Str))=false:=by decide) (hs:starEach (e::es) X.env=(false,eval e X.env)::starEach es X.env:=by rfl) (hplain:(backTo pos<|starEach es X.env).any (·.1)=false:=by rfl) :
  PE X (.Call (.Name x p) (e::es) [] pos) (LC sp [] E0 t):=by
 obtain⟨f,fd,F,hm,hk,hb⟩:=G;exact Gs F hr hg hm hk hb .nil V9 ha hdb hs hplain
abbrev wH (XN fs:am):am->List (bi)->Prop
 | [],[]=>True
 | _::N,none::c=>wH XN fs N c
 | x::N,some j::c=>XN[j]?=some x/\x∈fs/\wH XN fs N c
 | _,_=>False
theorem wH.len{fs:am}:∀{N:am}{c:List<|bi},wH XN fs N c->c.length=N.length
 | [],[],_=>rfl
 | _::N,none::c,h=>c6 (·+1) (wH.len (N:=N) (c:=c) h)
 | _::N,some j::c,h=>c6 (·+1) (wH.len (N:=N) (c:=c) h.2.2)
 | [],_::_,h=>h.elim
 | _::_,[],h=>h.elim
theorem wH.cp{fs:am}:∀{N:am}{c:List<|bi},wH XN fs N c->∀(i j:Nat) (x:Str),N[i]?=some x->c[i]?=some (some j)->XN[j]?=some x/\x∈fs
 | [],[],_,i,j,x,h1,_=>by simp at h1
 | y::N,none::c,h,i,j,x,h1,h2=>by
  cases i with
  | zero=>simp at h2
  | succ i=>exact wH.cp (N:=N) (c:=c) h i j x (by simpa using h1)<|by simpa using h2
 | y::N,some k::c,h,i,j,x,h1,h2=>by
  cases i with
  | zero=>
   simp at h1 h2;subst h1 h2;exact⟨h.1,h.2.1⟩
  | succ i=>exact wH.cp (N:=N) (c:=c) h.2.2 i j x (by simpa using h1)<|by simpa using h2
 | [],_::_,h,_,_,_,_,_=>h.elim
 | _::_,[],h,_,_,_,_,_=>h.elim
def y_{X:Cx}{scope:Scope}{N:am}(fs:am)(kind:scope.kind=.function)(nocell:∀y∈scope.names,y.2≠.cell)(nm:∀y∈scope.names,y.2=.local->scope.names.lookup y.1=some .local)
  (nolf:∀y∈scope.names,y.2=.free->scope.names.lookup y.1≠some .local) (hf:∀y∈scope.names,y.2=.free->y.1∈fs) (hfs:∀x∈fs,(x,NameKind.free)∈scope.names) (hk:∀x∈fs,X.env.kindOf x=some .cell\/X.env.kindOf x=some .free) (cp:wH X.N fs N cap):CpScope X scope N cap where
 kind:=kind
 nocell:=nocell
 nm:=nm
 fr:=λy hy e=>hk _ (hf y hy e)
 rl:=λy h=>by
  have go:∀k,(k=NameKind.cell\/k=NameKind.free)->(relabel scope X.env).names.lookup y=some k->(y,NameKind.free)∈scope.names:=λk hk e=>by
   obtain⟨⟨n',k'⟩,hm1,hm2⟩:=b_.mp<|wz e;dsimp only at hm2;split at hm2
   ·rename_i hc
    cases hm2
    have:k'=.free:=by
     dsimp[cR]at hc;simpa using hc.1.1
    subst this;exact hm1
   ·cases hm2
    rcases hk with rfl|rfl
    ·exact absurd rfl (nocell _ hm1)
    ·exact hm1
  rcases h with h|h
  ·exact go _ (.inl rfl) h
  ·exact go _ (.inr rfl) h
 len:=cp.len
 nolf:=λx hx=>nolf (x,.free) hx rfl
 cp:=λi j x h1 h2=>by
  obtain⟨a,b⟩:=cp.cp i j x h1 h2;exact⟨a,hfs x b⟩
inductive Kd where
 | non|bl|int|str|lst|tup
 deriving DecidableEq
abbrev Kd.ty:Kd->af
 | .non=>.type "NoneType" | .bl=>.type "bool" | .int=>.type "int" | .str=>.type "str" | .lst=>.type "list" | .tup=>.type "tuple"
abbrev SH (H:Hp)(x:V):Kd->Prop
 | .non=>x=.non
 | .bl=>∃b,x=.bl b
 | .int=>∃i,x=.int i
 | .str=>∃s,x=.str s
 | .lst=>∃a xs,x=.ref a/\H a=some (.lst xs)
 | .tup=>∃a xs,x=.ref a/\H a=some (.tup xs)
def SH.WM{K:au}{H:Hp}{x:V}{k:Kd}(h:SH H x k):TyOf K H x k.ty:=by
 cases k with
 | non=>cases h;exact .non
 | bl=>obtain⟨b,rfl⟩:=h;exact .bl b
 | int=>obtain⟨b,rfl⟩:=h;exact .int b
 | str=>obtain⟨b,rfl⟩:=h;exact .str b
 | lst=>obtain⟨a,xs,rfl,e⟩:=h;exact .lst e
 | tup=>obtain⟨a,xs,rfl,e⟩:=h;exact .tup e
def Pq{K:au}(k:Kd):PySem.W.kitOne K k.ty (.type "int")=some (decide<|k=.int\/k=.bl):=by cases k<;>rfl
def LV{K:au}(k:Kd):PySem.W.kitOne K k.ty (.type "bool")=some (decide<|k=.bl):=by cases k<;>rfl
def kit_tuple{K:au}(k:Kd):PySem.W.kitOne K k.ty (.type "tuple")=some (decide<|k=.tup):=by cases k<;>rfl
def MS{K:au}(k:Kd):PySem.W.kitOne K k.ty (.type "list")=some (decide<|k=.lst):=by cases k<;>rfl
def AU:bootBuiltins "enumerate" = some (.type "enumerate"):=by decide +kernel
section
variable {X:Cx}
def Ig(hc:X.calm=true):jw X (.builtin "max") (λxs H Q=>∃(p:ak) (ns:ae),xs=[.ref p]/\mP X.K H p (ns.map V.int)/\0<ns.length/\∀M,M∈ns->(∀a∈ns,a<=M)->Q (.int M) H):=by
 kt_k;obtain⟨p,ns,rfl,hq,hne,q⟩:=h;kcj_m
 cases rx
 obtain⟨its,rv,pl,hz⟩:=I.list hq;have hi:=intsAre_of rv;have hl:=pl.isList;obtain⟨ys,e⟩:=hi.allInts.items;have hns:ns=ys.toList.map (·.1):=by
  rw[<- hi.numsOf,<- nums_intItems,<- e]
 have hsz:0<ys.size:=by
  have h3:=hne;rw[hns,aM,cL]at h3;exact h3
 rw[e]at hl;refine max_intList (I.ok.hd hc) hl hsz λv h' tk hv hk=>?_;obtain⟨t,rfl⟩:=intItems_at hv;obtain⟨h1,h2⟩:=argBest_gt (numAt ys)<|ys.size-1;refine⟨.int _,H,I.kept hk,⟨t,rfl⟩,q _ ?_ λa ha=>?_⟩
 ·rw[hns,numAt_eq];exact getD_mem (by rw[aM,cL];lia)
 ·rw[hns]at ha;obtain⟨j,hj,rfl⟩:=mem_getD ha;rw[aM,cL]at hj;rw[<- numAt_eq];exact h2 j ()
end
section
variable {X:Cx}
abbrev VA (K:au):V->V->Hp->VK->Prop:=λo i H Q=>∃p xs k v,o=.ref p/\i=.int k/\mP K H p xs/\0<=k/\xs[k.toNat]?=some v/\Q v H
def MM:Q4 X (VA X.K):=by
 intro pins s σ H o i ov iv Q I ro ri h;obtain⟨p,xs,k,v,rfl,rfl,hq,h0,hv,q⟩:=h
 cases ro
 obtain⟨t,rfl⟩:=ri;obtain⟨its,r,pl,hz⟩:=I.list hq;obtain⟨u,eu,ru⟩:=r.get hv;have hl:=r.length;have hn:=sC;have hk:k.toNat<xs.length:=(aI.mp hv).1;exact wpAny_getItem_list pl.isList h0 () (by simpa using eu) ⟨v,H,I,ru,q⟩
end
def z_(elt t1 i1 t2 i2:aE)(f1 f2:List aE)(scope:Scope)(pos:Pos)(it acc:af)(env:Env) :
  compTurn (.ListComp elt [⟨t1,i1,f1,0⟩,⟨t2,i2,f2,0⟩] scope pos) 0 it acc env=(do
   standAt i1.pos
   match <- pyNext it with
   | none=>pure (.done .next)
   | some v=>
    letOwnedTupleGo t1 it v
    assign t1 env v
    let mut ok:=true
    for c in f1 do
     if ok then ok <- isTrue c env (eval c env)
    if ok then
     let x <- eval i2 env
     standAt i2.pos
     let x <- foldedSetIterable i2 env x
     let _ <- runOwn (.compStart (.ListComp elt [⟨t1,i1,f1,0⟩,⟨t2,i2,f2,0⟩] scope pos) 1 (<- holding [x] (pyIter x)) acc env) env
    again (.compLoop (.ListComp elt [⟨t1,i1,f1,0⟩,⟨t2,i2,f2,0⟩] scope pos) 0 it acc env)):=by rfl
def zM(elt t1 i1 t2 i2:aE)(f1 f2:List aE)(scope:Scope)(pos:Pos)(it acc:af)(env:Env) :
  compTurn (.ListComp elt [⟨t1,i1,f1,0⟩,⟨t2,i2,f2,0⟩] scope pos) 1 it acc env=(do
   standAt i2.pos
   match <- pyNext it with
   | none=>pure (.done .next)
   | some v=>
    letOwnedTupleGo t2 it v
    assign t2 env v
    let mut ok:=true
    for c in f2 do
     if ok then ok <- isTrue c env (eval c env)
    if ok then
     (do let _ <- call (.builtin "list.append") [acc,<- eval elt env])
    again (.compLoop (.ListComp elt [⟨t1,i1,f1,0⟩,⟨t2,i2,f2,0⟩] scope pos) 1 it acc env)):=by rfl
section
variable {prog:aj}{w:ah}{A:aA}{R:Result->aC->Prop}{s:aC}
def qF{f1 f2:List aE}{acc:af}{env:Env}
  (h0:codeAny (model prog w) A (.compLoop (.ListComp elt [⟨t1,i1,f1,0⟩,⟨t2,i2,f2,0⟩] scope pos) 1 it acc env) R s)
  (h:wpAny (model prog w) A (pyIter it) (λit' s'=>codeAny (model prog w) A (.compLoop (.ListComp elt [⟨t1,i1,f1,0⟩,⟨t2,i2,f2,0⟩] scope pos) 1 it' acc env) R s')
   (notedBy (model prog w) A env λx s'=>R (.error x) s') s) :
  codeAny (model prog w) A (.compStart (.ListComp elt [⟨t1,i1,f1,0⟩,⟨t2,i2,f2,0⟩] scope pos) 1 it acc env) R s:=by
 refine codeAny_of_tree ?_
 skip
 refine wpAny_notedAt ?_;unfold compStart
 skip
 refine aH<|wpAny_askSetting<|wpAny_ite ?_;split
 ·first
   | exact aH (aT<|aT<|anI rfl h0)
   | exact aT<|anI rfl h0
 ·first
   | exact aH (dJ<|aH<|dY<|aH<|cJ h (λit' s' h'=>aT<|anI rfl h') λ_ _ x=>x)
   | (refine aH<|dJ ?_;show wpAny _ _ (standAt i2.pos >>= _) _ _ s;exact aH<|dY<|aH<|cJ h (λit' s' h'=>aT<|anI rfl h') λ_ _ x=>x)
end
abbrev IQ (g:TG)(tc:TT)(te:TE)(D:ak)(Nn:L2.St->Hp->Prop)(σ:L2.St)(J:It)(H1:Hp):Prop:=
 ∃V:Nat->Nat->L2.St->Hp->Prop,(∃m,V 0 m σ H1)/\∀i m σ' H',V i m σ' H' ->
  (J.stop i H'/\Nn σ' H')\/(J.go i H'/\∀x H2,J.yld i H' x H2->g x σ' H2 λσ3 H3=>tc σ3 H3 λb H4=>
   if b=true then te σ3 H4 λy H5=>∃ys,H5 D=some (.lst ys)/\ys.length<sizeLine/\∃m',m'<m/\V (i+1) m' σ3 (upd H5 D<|.lst<|ys++[y])
   else ∃m',m'<m/\V (i+1) m' σ3 H4)
def Dl{Z:Cx}{f1:List aE}{fp:ar}{D:ak}{tn:Nat->aq->Prop}{H:Hp}{s:aC}{g:TG}{tc:TT}{te:TE}{Nn:L2.St->Hp->Prop}
  (hc:Z.calm=true) (hxe:Z.xe=λ_ _=>False) (T:Turn Z.prog Z.w Z.K tg J fp it tn) (I:Inv Z pins σ H s) (st:tn 0 s.heap) (hf:∀b∈fp,rq Z pins H b) (hg:PG Z tg g) (ht:Ng Z ifs tc) (he:PE Z elt te) (goal:IQ g tc te D Nn σ J H) :
  codeAny (model Z.prog Z.w) Z.A (.compLoop (.ListComp elt [⟨t1,i1,f1,0⟩,⟨tg,i2,ifs,0⟩] scope pos) 1 (.ref it) (.ref D) Z.env) (λr s'=>r=.ok .next/\∃σ' H',Inv Z pins σ' H' s'/\Nn σ' H') s:=by
 obtain⟨V,⟨m0,v0⟩,turn⟩:=goal;have stat:∀{H':Hp},(∀b∈fp,H' b=none)->∀b∈fp,rq Z pins H' b:=λhn b hb=>⟨hn b hb,(hf b hb).2⟩;refine codeAny_loop rfl (λn s'=>∃i σ' H',Inv Z pins σ' H' s'/\tn i s'.heap/\(∀b∈fp,H' b=none)/\V i n σ' H') (λn s5 hI=>?_) m0 ⟨0,σ,H,I,st,λb hb=>(hf b hb).1,v0⟩;obtain⟨i,σ5,H5,I5,st5,fr5,w5⟩:=hI
 skip
 refine wpAny_noted ?_;rw[zM];refine aH (dY<|aH ?_)
 rcases turn i n σ5 H5 w5 with⟨stop,q⟩|⟨go,step⟩
 ·refine j3 (T.done Z rfl rfl rfl hc i pins s5 σ5 H5 _ I5 (stat fr5) st5 stop) λr s6 h9=>?_;obtain⟨hr,I6⟩:=h9;subst hr;exact aT ⟨rfl,σ5,H5,I6,q⟩
 ·refine j3 (T.item Z rfl rfl rfl hc i pins s5 σ5 H5 _ I5 (stat fr5) st5 go) λr s6 h9=>?_;obtain⟨u,hr,h6⟩:=h9;subst hr;refine aH<|j3 h6 λ_ s7 ⟨x,H7,I7,r7,y7,st7,fr7⟩=>?_;have I7':=I7.pinned (stat fr7)<|T.obj _ _ st7;have toF:∀{α:Type} {t:Sem α} {Q Q':α->aC->Prop} {E:af->aC->Prop} {s:aC},wpAny (model Z.prog Z.w) Z.A t Q Z.xe s->(∀a s,Q a s->Q' a s)->wpAny (model Z.prog Z.w) Z.A t Q' E s:=λh hQ=>by
   rw[hxe]at h;exact Aw h hQ
  refine aH<|toF (hg _ s7 σ5 H7 x u _ I7' r7<|step x H7 y7) λ_ s8 ⟨σ8,H8,I8,q8⟩=>?_;refine aH<|toF (ht _ s8 σ8 H8 _ I8 q8) λok s9 ⟨H9,I9,q9⟩=>?_;have again:∀{s10:aC} {H10:Hp},Inv Z (pins++sI fp s7.heap) σ8 H10 s10->(∃m',m'<n/\V (i+1) m' σ8 H10) ->
    ∃m,m<n/\∃i σ' H',Inv Z pins σ' H' s10/\tn i s10.heap/\(∀b∈fp,H' b=none)/\V i m σ' H':=λ{s10 H10} I10 h9=>by
   obtain⟨m',hm,w10⟩:=h9;refine⟨m',hm,i+1,σ8,H10,I10.nP,T.keep _ _ _ st7 λb hb o e=>(I10.pin (b,o)<|br _<|br _<|ki hb e).1,λb hb=>?_,w10⟩;obtain⟨o,e,d⟩:=T.obj _ _ st7 b hb;exact(I10.pin (b,o)<|br _<|br _<|ki hb e).2.1
  cases ok with
  | false=>
   rw[aK bG]at q9;exact aT ⟨rfl,again I9 q9⟩
  | true=>
   rw[aJ rfl]at q9;refine aH<|aH<|toF (he _ s9 σ8 H9 _ I9 q9) λy s10 ⟨v10,H10,I10,r10,ys,hD,hz,w10⟩=>?_;refine aH<|toF (t9 _ s10 σ8 H10 (.ref D) [v10] _ [y] (λ_ H'=>H'=upd H10 D (.lst<|ys++[v10])) I10 rfl (.cons r10 .nil) ⟨_,ys,v10,rfl,rfl,hD,hz,rfl⟩) λ_ s11 ⟨_,H11,I11,_,e11⟩=>?_;subst e11;exact aT<|aT ⟨rfl,again I11 w10⟩
abbrev Of (cap:List<|bi)(g:TG)(tc:TT)(wi2:TI)(g2:TG)(tc2:TT)(te:TE)(σ:L2.St)(Q:VK)(J:It)(H1:Hp):Prop:=∀D,H1 D=none ->
 ∃W:Nat->Nat->L2.St->Hp->Prop,(∃m,W 0 m (cap.map<|Pe σ)<|upd H1 D<|.lst [])/\∀i m σ' H',W i m σ' H' ->
  (J.stop i H'/\Q (.ref D) H')\/(J.go i H'/\∀x H2,J.yld i H' x H2->g x σ' H2 λσ3 H3=>tc σ3 H3 λb H4=>
   if b=true then wi2 σ3 H4 (IQ g2 tc2 te D (λσ5 H5=>∃m',m'<m/\W (i+1) m' σ5 H5) σ3)
   else ∃m',m'<m/\W (i+1) m' σ3 H4)
abbrev WW (cap:List<|bi)(wi:TI)(g:TG)(tc:TT)(wi2:TI)(g2:TG)(tc2:TT)(te:TE):TE:=λσ H Q=>wi σ H<|Of cap g tc wi2 g2 tc2 te σ Q
def Ut{X:Cx}{iter:aE}{N:am}{wi wi2:TI}{g g2:TG}{tc tc2:TT}{te:TE}(hc:X.calm=true)(S:CpScope X scope N cap)(hi:PI X tg iter wi)
  (hg:∀C s₀ H₀ ex,PG (jK X scope N C s₀ H₀ ex) tg g) (ht:∀C s₀ H₀ ex,Ng (jK X scope N C s₀ H₀ ex) ifs tc) (hi2:∀C s₀ H₀ ex,PI (jK X scope N C s₀ H₀ ex) tg2 iter2 wi2)
  (hg2:∀C s₀ H₀ ex,PG (jK X scope N C s₀ H₀ ex) tg2 g2) (ht2:∀C s₀ H₀ ex,Ng (jK X scope N C s₀ H₀ ex) ifs2 tc2) (he:∀C s₀ H₀ ex,PE (jK X scope N C s₀ H₀ ex) elt te)
  (hs:∀x,foldedSetIterable iter X.env x=pure x:=by intro _;rfl) (hs2:∀env x,foldedSetIterable iter2 env x=pure x:=by intro _ _;rfl):PE X (.ListComp elt [⟨tg,iter,ifs,0⟩,⟨tg2,iter2,ifs2,0⟩] scope pos) (WW cap wi g tc wi2 g2 tc2 te):=by
 kd_p;kpf_c;rw[eval_ListComp];refine wpAny_comprehension_free (use:=none) rfl hs (xF hfree) S.kind S.nm<|j3 (hi pins s σ H _ I h) λxv s1 h1=>j3 h1 λitv s2 h2=>?_;obtain⟨it,fp,tn,J,H2,rfl,I2,T,st2,f2,h2⟩:=h2;refine dc (wpAny_newFunctionEnv S.nocell (by intro y hy;simp at hy) (λh₁ hns₁ hsb₁=>?_) S.kind);obtain⟨W,⟨m0,w0⟩,turn⟩:=h2 s2.heap.objs.size I2.fresh;dsimp only at hns₁ hsb₁ ⊢;have I3:Inv X pins σ (upd H2 s2.heap.objs.size<|.lst []) { s2 with heap:=s2.heap.push {}}:=I2.Oi (t':=s2.toks) (its:=[]) .nil<|cE _;have hfp:∀b∈fp,∃o,s2.heap.get? b=some o:=λb hb=>by
  obtain⟨o,e,_⟩:=T.obj 0 _ st2 b hb;exact⟨o,e⟩
 have neD:∀b∈fp,b≠s2.heap.objs.size:=λb hb=>by
  obtain⟨o,e⟩:=hfp b hb;exact bu<|aV e
 have f3:∀b∈fp,rq X pins (upd H2 s2.heap.objs.size<|.lst []) b:=λb hb=>⟨by rw[iS<|neD b hb];exact(f2 b hb).1,(f2 b hb).2⟩;have hDC:s2.heap.objs.size≠(s2.heap.push {}).objs.size:=by rw[gR];exact bu (cK _)
 have old:∀b o,(s2.heap.push {}).get? b=some o->h₁.get? b=some o:=λb o e=>hsb₁.extBut b o (bu<|aV e)<|aP _ e;have I4:=K3 (tk:=s2.toks+([]:List<|Str×af).length) (fp:=fp) S I3 f3 (λb hb=>by
  obtain⟨o,e⟩:=hfp b hb;exact⟨o,aP _ e⟩) hns₁ old
 have st4:tn 0 h₁:=T.keep _ _ _ st2 λb hb o e=>old b o<|aP _ e;have stat:∀{H':Hp},(∀b∈fp,H' b=none)->∀b∈fp,rq (jK X scope N (s2.heap.push {}).objs.size { s2 with heap:=s2.heap.push {}} (upd H2 s2.heap.objs.size<|.lst []) fp) [] H' b:=λhn b hb=>by
  have ok:=I4.ok;refine⟨hn b hb,(ok.exf b hb).1,ok.exfs b hb,.inl hb,λx c e=>(ok.exf b hb).2 x c e,λp hp=>nomatch hp⟩
 have loop:∀s4:aC,s4={ s2 with heap:=h₁,toks:=s2.toks+([]:List<|Str×af).length } ->
   codeAny (model X.prog X.w) X.A (.compLoop (.ListComp elt [⟨tg,iter,ifs,0⟩,⟨tg2,iter2,ifs2,0⟩] scope pos) 0 (.ref it) (.ref s2.heap.objs.size)<|compEnvC scope (u9 X.env scope.names []) (s2.heap.push {}).objs.size X.env)
    (compPost (model X.prog X.w) X.A X.xe none (EP X pins σ Q) (.ref s2.heap.objs.size) (s2.heap.push {}).objs.size) s4:=by
  rintro s4 rfl;refine codeAny_loop rfl (λn s'=>∃i σ' H',Inv (jK X scope N (s2.heap.push {}).objs.size { s2 with heap:=s2.heap.push {}} (upd H2 s2.heap.objs.size<|.lst []) fp) [] σ' H' s'/\tn i s'.heap/\(∀b∈fp,H' b=none)/\W i n σ' H') (λn s5 hI=>?_) m0 ⟨0,_,_,I4,st4,λb hb=>(f3 b hb).1,w0⟩;obtain⟨i,σ5,H5,I5,st5,fr5,w5⟩:=hI
  skip
  refine wpAny_noted ?_;rw[z_];refine aH (dY<|aH ?_)
  rcases turn i n σ5 H5 w5 with⟨stop,q⟩|⟨go,step⟩
  ·refine j3 (T.done (jK X scope N (s2.heap.push {}).objs.size { s2 with heap:=s2.heap.push {}} (upd H2 s2.heap.objs.size<|.lst []) fp) rfl rfl rfl hc i [] s5 σ5 H5 _ I5 (stat fr5) st5 stop) λr s6 h9=>?_;obtain⟨hr,I6⟩:=h9;subst hr;obtain⟨m6,hn6,_⟩:=I6.loc;refine aT ⟨m6,hn6,λh' sb=>?_⟩;have u6:=I6.base;have nC:∀b o,(s2.heap.push {}).get? b=some o->b≠(s2.heap.push {}).objs.size:=λb o e=>bu<|aV e;refine⟨.ref s2.heap.objs.size,H5,?_,rfl,q⟩;refine I3.J6 (ch:=fp) I6.os ⟨λb o e n hb hx=>?_,λb o e n hb hx=>?_,λb o e n hx=>?_,λb o e hx=>?_,u6.tups,u6.frzs,u6.tbls⟩ ?_ I6.bare ?_
   ·exact sb.extBut b o (nC b o e) (u6.keep b o e n hb hx)
   ·obtain⟨sl,z⟩:=u6.slot b o e n hb hx;exact⟨sl,sb.extBut b _ (nC b o e) z⟩
   ·exact u6.free b o e n hx
   ·obtain⟨o',z⟩:=u6.there b o e hx;exact⟨o',sb.extBut b _ (nC b o e) z⟩
   ·intro b o e;have hb:∀c v,H5 c=some v->c≠(s2.heap.push {}).objs.size:=λc v e z=>by
     rw[z]at e;have:=I6.free;rw[show H5 (s2.heap.push {}).objs.size=none from this]at e
     cases e
    refine(I6.hok b o e).stay (λc v hc q=>sb.extBut c v ?_ q) (λ_ q=>q) λ_ _ q=>q
    rcases hc with z|z
    ·rw[z];exact hb b o e
    ·exact hb c _ z
   ·intro b hb;obtain⟨_,z1,_,z3,z4,z5⟩:=f3 b hb;exact⟨z3,z1,z4,z5⟩
  ·refine j3 (T.item (jK X scope N (s2.heap.push {}).objs.size { s2 with heap:=s2.heap.push {}} (upd H2 s2.heap.objs.size<|.lst []) fp) rfl rfl rfl hc i [] s5 σ5 H5 _ I5 (stat fr5) st5 go) λr s6 h9=>?_;obtain⟨u,hr,h6⟩:=h9;subst hr;refine aH<|j3 h6 λ_ s7 ⟨x,H7,I7,r7,y7,st7,fr7⟩=>?_;have I7':=I7.pinned (stat fr7)<|T.obj _ _ st7;refine aH<|Aw (hg _ _ _ fp _ s7 σ5 H7 x u _ I7' r7<|step x H7 y7) λ_ s8 ⟨σ8,H8,I8,q8⟩=>?_;refine aH<|Aw (ht _ _ _ fp _ s8 σ8 H8 _ I8 q8) λok s9 ⟨H9,I9,q9⟩=>?_;have again:∀{s10:aC} {H10:Hp} {σ10:L2.St},Inv (jK X scope N (s2.heap.push {}).objs.size { s2 with heap:=s2.heap.push {}} (upd H2 s2.heap.objs.size<|.lst []) fp) ([]++sI fp s7.heap) σ10 H10 s10->(∃m',m'<n/\W (i+1) m' σ10 H10) ->
     ∃m,m<n/\∃i σ' H',Inv (jK X scope N (s2.heap.push {}).objs.size { s2 with heap:=s2.heap.push {}} (upd H2 s2.heap.objs.size<|.lst []) fp) [] σ' H' s10/\tn i s10.heap/\(∀b∈fp,H' b=none)/\W i m σ' H':=λ{s10 H10 σ10} I10 h9=>by
    obtain⟨m',hm,w10⟩:=h9;refine⟨m',hm,i+1,σ10,H10,I10.nP,T.keep _ _ _ st7 λb hb o e=>(I10.pin (b,o)<|br _<|br _<|ki hb e).1,λb hb=>?_,w10⟩;obtain⟨o,e,d⟩:=T.obj _ _ st7 b hb;exact(I10.pin (b,o)<|br _<|br _<|ki hb e).2.1
   cases ok with
   | false=>
    rw[aK bG]at q9;exact aT ⟨rfl,again I9 q9⟩
   | true=>
    rw[aJ rfl]at q9;refine aH<|Aw (hi2 _ _ _ fp _ s9 σ8 H9 _ I9 q9) λxv s10 h10=>aH<|dY ?_;rw[hs2];refine aH<|aT<|aH<|cG<|Aw h10 λitv s11 h11=>?_;obtain⟨it2,fp2,tn2,J2,H11,rfl,I11,T2,st11,f11,goal⟩:=h11;have hcz:=hc;have loop2:=(λ(Z:Cx) (h1:Z.calm=true) (h2:Z.xe=λ_ _=>False) T2 I11=>Dl (Z:=Z) (t1:=tg) (i1:=iter) (f1:=ifs) (i2:=iter2) (scope:=scope) (pos:=pos) h1 h2 T2 I11) _ (show(jK X scope N _ _ _ fp).calm=true from hcz) rfl T2 I11 st11 f11 (hg2 _ _ _ fp) (ht2 _ _ _ fp) (he _ _ _ fp) goal;refine aH<|wpAny_runOwn<|e_ (qF loop2<|T2.self _ 0 _ _ _ st11 loop2) λr s12 hr12=>?_;obtain⟨hr,σ12,H12,I12,n12⟩:=hr12;subst hr;exact aT ⟨rfl,again I12 n12⟩
 exact codeAny_compStart_list (loop _ rfl)<|T.self _ 0 _ _ _ st4<|loop _ rfl
end L2
namespace L2
open PySem PySem.Spec PyProof.Rows
open PySem.SeqAt
open PySem.AutoSeq1 (wpAny_loadPart')
open PySem.MeetsSeq PySem.MeetsSeq2 PySem.MeetsSeq3 PySem.SeqAt
section
variable {X:Cx}
def Kr:mL X (binaryOp .FloorDiv) (rI (λ_ j=>0<j/\j<18446744073709551616) λi j=>.int<|i / j):=Wq λi j _ _ _ _ _ hc q=>by
 have h1:(0:Int)<j:=hc.1;have h2:j<18446744073709551616:=hc.2;refine floordiv_int (by omega) (by rw[Int.fdiv_eq_ediv_of_nonneg i<|by omega];exact q)<|.inl<|PyProof.noPylong_of_log2 ?_;exact bH ((Nat.log2_lt<|by omega).mpr<|show j.natAbs<2 ^ 64 by omega) ⋯
end
end L2
namespace L2
open PySem PySem.Spec PyProof.Rows
abbrev XA (x:Str):It:=⟨λi _=>i<x.cps.size,λi H v H'=>H'=H/\∃c,x.cps[i]?=some c/\v=.str ⟨#[c]⟩,λi _=>i=x.cps.size⟩
def Mn{P:aj}{w:ah}{K:au}(x:Str)(t:Tok)(it:ak):Turn P w K tg (XA x) [it] it (λi h=>h.IsStrIter it "str_ascii_iterator" x t i) where
 mem:=by simp
 obj:=λi h st b hb=>by
  have e:b=it:=by simpa using hb
  subst e;obtain⟨o,e,c,d⟩:=st;exact⟨o,e,λv z=>by rw[d]at z;cases z⟩
 keep:=λi h h' st k=>let⟨o,ho,r⟩:=st;⟨o,k it (by simp) o ho,r⟩
 item:=by
  w_up;subst hP hw hK;k_ne;have W:=Walks.strAscii (prog:=X.prog) (w:=X.w) (I.ok.hd hc) it x t;refine W.item i s _ _ hg st λv h' tk hv st' kk=>?_;obtain⟨c,u,hcx,rfl⟩:=hv;have I1:Inv X pins σ H { s with heap:=h',toks:=tk }:=I.turned (λb o hb e=>kk b o (by simpa using hb) e) f0 f1 f3 f4 f5;obtain⟨o,e,cc,d⟩:=id st';exact⟨_,rfl,B0 (s:={ s with heap:=h',toks:=tk }) e cc d ⋯ ⟨.str ⟨#[c]⟩,H,I1,⟨u,rfl⟩,⟨rfl,c,hcx,rfl⟩,st',λb hb=>(hf b hb).1⟩⟩
 done:=by
  w_up;subst hP hw hK;k_ne;have hg:i=x.cps.size:=hg;subst hg;have W:=Walks.strAscii (prog:=X.prog) (w:=X.w) (I.ok.hd hc) it x t;exact W.done s _ _ st λh' tk kk=>⟨rfl,I.turned (λb o hb e=>kk b o (by simpa using hb) e) f0 f1 f3 f4 f5⟩
 self:=λ_ _ _ _ _ st h=>wpAny_pyIter_striter_ascii st h
section
variable {X:Cx}{tg:aE}
abbrev Xl (tl:TE):TI:=λσ H R=>tl σ H λx H1=>∃y:Str,x=.str y/\y.cps.all (· < 128)=true/\R (XA y) H1
def Rh{tl:TE}(hl:PE X l tl):PI X tg l (Xl tl):=by
 intro pins s σ H R I h;refine j3 (hl pins s σ H _ I h) λv s1 h9=>?_;obtain⟨x,H1,I1,r1,q1⟩:=h9;obtain⟨y,e,ha,q⟩:=q1;subst e;obtain⟨t,rfl⟩:=r1;refine wpAny_pyIter_ascii ha ?_;refine⟨s1.heap.objs.size,[s1.heap.objs.size],_,_,H1,rfl,I1.kept (t':=s1.toks) λb o e=>aP _ e,Mn y t _,⟨_,bD _ rfl,rfl,rfl⟩,λb hb=>?_,q⟩;have e:b=s1.heap.objs.size:=by simpa using hb
 subst e;kl_no
end
section
variable {κ:Type}[DecidableEq κ]
abbrev sd (kvs:List<|κ×V)(k:κ):Option V:=(kvs.find? λkv=>decide<|kv.1=k).map (·.2)
abbrev putK (kvs:List<|κ×V)(k:κ)(v:V):List (κ×V):=
 if (kvs.any λkv=>decide<|kv.1=k)=true then kvs.map (λkv=>if kv.1=k then(kv.1,v)else kv)else kvs++[(k,v)]
def tV{p:κ×V}{r:List<|κ×V}{k:κ}(e:p.1=k):sd (p::r) k=some p.2:=by simp[sd,cA,e]
def tW{p:κ×V}{r:List<|κ×V}{k:κ}(e:¬p.1=k):sd (p::r) k=sd r k:=by simp[sd,cA,e]
theorem xr(k:κ):∀kvs:List<|κ×V,(kvs.any λkv=>decide<|kv.1=k)=(sd kvs k).isSome
 | []=>rfl
 | p::r=>by
  rw[eK];by_cases e:p.1=k
  ·dsimp[tV e,a_ e,Bool.true_or,isSome_some]
  ·rw[tW e,aW e,gB];exact xr k r
def qV(kvs:List<|κ×V)(k:κ)(v:V):(putK kvs k v).length<=kvs.length+1:=by
 unfold putK;split
 ·rw[aM];lia
 ·rw[bh,bA,cQ];lia
def t_.IB{o:Option V}{u:ba}(r:t_ o u):o.isSome=u.isSome:=by
 cases o with
 | none=>cases u with
  | none=>rfl
  | some _=>exact(show False from r).elim
 | some _=>cases u with
  | none=>exact(show False from r).elim
  | some _=>rfl
def t_.getD{o:Option V}{u:ba}{d:V}(r:t_ o u)(rd:RelV d d'):RelV (o.getD d) (u.getD d'):=by
 cases o with
 | none=>cases u with
  | none=>exact rd
  | some _=>exact(show False from r).elim
 | some _=>cases u with
  | none=>exact(show False from r).elim
  | some _=>exact r
def KV.val(r:KV kvs vs)(k:κ):t_ (sd kvs k) (valueAt vs k):=by
 unfold KV at r
 induction r with
 | nil=>exact True.intro
 | @cons p q ps qs h t ih=>
  obtain⟨h1,h2⟩:=h;by_cases e:p.1=k
  ·have e':q.1=k:=h1.symm.trans e;have b:valueAt (q::qs) k=some q.2:=by simp[valueAt,cA,e']
   rw[tV e,b];exact h2
  ·have e':¬q.1=k:=λz=>e<|h1.trans z;have b:valueAt (q::qs) k=valueAt qs k:=by simp[valueAt,cA,e']
   rw[tW e,b];exact ih
def KV.any{kvs:List<|κ×V}{vs:List<|κ×af}(r:KV kvs vs)(k:κ):(kvs.any λkv=>decide<|kv.1=k)=vs.any λkv=>decide (kv.1=k):=by
 unfold KV at r
 induction r with
 | nil=>rfl
 | cons h t ih=>rw[eK,eK,ih,h.1]
def KV.repl{kvs:List<|κ×V}{vs:List<|κ×af}(r:KV kvs vs)(k:κ)(ry:RelV y u) :
  KV (kvs.map λkv=>if kv.1=k then(kv.1,y)else kv) (vs.map λkv=>if kv.1=k then(kv.1,u)else kv):=by
 unfold KV at r ⊢
 induction r with
 | nil=>exact .nil
 | @cons p q ps qs h t ih=>
  rw[bQ,bQ];refine .cons ?_ ih;obtain⟨h1,h2⟩:=h;by_cases e:p.1=k
  ·rw[aJ e,aJ<|h1.symm.trans e];exact⟨h1,ry⟩
  ·rw[aK e,aK λz=>e<|h1.trans z];exact⟨h1,h2⟩
def KV.put(r:KV kvs vs)(k:κ)(ry:RelV y u):KV (putK kvs k y) (stored vs k u):=by
 unfold putK stored;rw[r.any k];by_cases e:(vs.any λkv=>decide<|kv.1=k)=true
 ·rw[aJ e,aJ e];exact r.repl k ry
 ·rw[aK e,aK e];exact Paired.snoc r ⟨rfl,ry⟩
def KV.length{kvs:List<|κ×V}{vs:List<|κ×af}(r:KV kvs vs):kvs.length=vs.length:=ie r
end
def EM{P:aj}{w:ah}{k:Key}(r:RelV (kV k) u):(jz P w).is k u=true:=by
 cases k with
 | inl i=>obtain⟨t,e⟩:=(show ∃t,u=Value.int i t from r);subst e;exact B9 P w i t
 | inr x=>obtain⟨t,e⟩:=(show ∃t,u=Value.str x t from r);subst e;exact Ct P w x t
theorem yK{P:aj}{w:ah}:∀{ks:List Key}{us:ap},Vals (ks.map kV) us->ItemsAre (jz P w) ks us
 | [],_,r=>by rw[map_nil]at r;cases r;exact .nil
 | k::ks,_,r=>by
  rw[bQ]at r
  cases r with
  | cons h t=>exact .cons (EM h)<|yK t
meta abbrev KT (H:Hp):List (List Key×V)->List (List Key×ak×af)->Prop:=Paired λp q=>p.1=q.1/\H q.2.1=some (.tup<|p.1.map kV)/\RelV p.2 q.2.2
def KT.val{H:Hp}(r:KT H kvs xs)(k:List Key):t_ (sd kvs k) ((atKey xs k).map (·.2)):=by
 induction r with
 | nil=>exact True.intro
 | @cons p q ps qs h t ih=>
  obtain⟨h1,_,h2⟩:=h;by_cases e:p.1=k
  ·have e':q.1=k:=h1.symm.trans e;have b:atKey (q::qs) k=some q.2:=by simp[atKey,cA,e']
   rw[tV e,b];exact h2
  ·have e':¬q.1=k:=λz=>e<|h1.trans z;have b:atKey (q::qs) k=atKey qs k:=by simp[atKey,cA,e']
   rw[tW e,b];exact ih
def KT.repl{H:Hp}{kvs:List<|List Key×V}{xs:List<|List Key×ak×af}(r:KT H kvs xs)(k:List Key)(ry:RelV y u) :
  KT H (kvs.map λkv=>if kv.1=k then(kv.1,y)else kv) (xs.map<|putAt k u):=by
 induction r with
 | nil=>exact .nil
 | @cons p q ps qs h t ih=>
  rw[bQ,bQ];refine .cons ?_ ih;obtain⟨h1,h2,h3⟩:=h;unfold putAt;by_cases e:p.1=k
  ·rw[aJ e,aJ<|h1.symm.trans e];exact⟨h1,h2,ry⟩
  ·rw[aK e,aK λz=>e<|h1.trans z];exact⟨h1,h2,h3⟩
def KT.put{H:Hp}(r:KT H kvs xs)(k:List Key)(hb:H b=some (.tup<|k.map kV))(ry:RelV y u) :
  KT H (putK kvs k y) (storedH xs k b u):=by
 have e:(kvs.any λkv=>decide<|kv.1=k)=(atKey xs k).isSome:=by
  rw[xr,(r.val k).IB,isSome_map]
 unfold putK storedH;rw[e];by_cases q:(atKey xs k).isSome=true
 ·rw[aJ q,aJ q];exact r.repl k ry
 ·rw[aK q,aK q];exact Paired.snoc r ⟨rfl,hb,ry⟩
def KT.keeps{H H':Hp}(r:KT H kvs xs)(ht:∀b ys,H b=some (.tup ys)->H' b=some (.tup ys)):KT H' kvs xs:=
 Paired.Rc r λ_ _ z=>⟨z.1,ht _ _ z.2.1,z.2.2⟩
section
variable {P:aj}{w:ah}{H:Hp}{h:aq}{a:ak}
def P6(ok:rV P w H h)(e:Rd H a u):jG P w H h a u:=e.ok ok
def GJ{kvs:List<|Key×V}(ok:rV P w H h)(e:Rd H a<|.dK kvs):kvs.length<=sizeLine/\(a == sysModules)=false/\∃vs,KV kvs vs/\h.DictOf (jz P w) a vs:=
 show jG P w H h a (.dK kvs)from P6 ok e
def QH{kvs:List<|Key×V}(ok:rV P w H h)(e:H a=some (.dK kvs)):kvs.length<=sizeLine/\(a == sysModules)=false/\∃vs,KV kvs vs/\h.DictOf (jz P w) a vs:=GJ ok<|.inl e
def AD{ks:List Key}(ok:rV P w H h)(e:H a=some (.tup<|ks.map kV)):(tupleKind<|jz P w).is h ks a:=by
 obtain⟨_,its,r,o,h1,h2,_,n,h3⟩:=(show jG P w H h a (.tup<|ks.map kV)from ok a _ e);exact⟨o,its.toArray,n,h1,h2,h3,by simpa using yK r⟩
def EF{kvs:List<|List Key×V}(ok:rV P w H h)(e:Rd H a<|.dT kvs):kvs.length<=sizeLine/\(a == sysModules)=false /\
  ∃xs,KT H kvs xs/\h.DictOfH (tupleKind<|jz P w) a xs:=by
 obtain⟨z,y,xs,r,o,es,ep,h1,h2,h3,h4,h5⟩:=(show jG P w H h a (.dT kvs)from P6 ok e);refine⟨z,y,xs,r,o,es,ep,h1,h2,h3,h4,λx hx=>?_,h5⟩;have all:∀{l:List<|List Key×V} {m:List<|List Key×ak×af},KT H l m->∀x∈m,(tupleKind<|jz P w).is h x.1 x.2.1:=by
  intro l m q
  induction q with
  | nil=>intro x hx;exact nomatch hx
  | @cons p q ps qs hq t ih=>
   intro x hx
   rcases bB.mp hx with e|hx
   ·subst e;exact AD ok (by rw[<- hq.1];exact hq.2.1)
   ·exact ih x hx
 exact all r x hx
def UT{kvs:List<|List Key×V}(ok:rV P w H h)(e:H a=some (.dT kvs)):kvs.length<=sizeLine/\(a == sysModules)=false /\
  ∃xs,KT H kvs xs/\h.DictOfH (tupleKind<|jz P w) a xs:=EF ok<|.inl e
end
abbrev z8 (H:Hp)(a:ak)(y:V)(r:Option V):Prop:=
 (∃kvs k,Rd H a (.dK kvs)/\y=kV k/\r=sd kvs k)\/∃kvs k b,Rd H a (.dT kvs)/\y=.ref b/\H b=some (.tup<|k.map kV)/\r=sd kvs k
abbrev MH (H:Hp)(a:ak)(y v:V)(H':Hp):Prop:=
 (∃kvs k,H a=some (.dK kvs)/\y=kV k/\kvs.length<sizeLine/\H'=upd H a (.dK<|putK kvs k v)) \/
 ∃kvs k b,H a=some (.dT kvs)/\y=.ref b/\H b=some (.tup<|k.map kV)/\kvs.length<sizeLine/\H'=upd H a (.dT<|putK kvs k v)
theorem z8.k{H:Hp}{a:ak}{k:Key}(e:H a=some (.dK kvs)):z8 H a (kV k) (sd kvs k):=.inl ⟨kvs,k,.inl e,rfl,rfl⟩
theorem MH.k{H:Hp}{a:ak}{kvs:List<|Key×V}{k:Key}{v:V}(e:H a=some (.dK kvs))(hl:kvs.length<sizeLine):MH H a (kV k) v (upd H a<|.dK<|putK kvs k v):=.inl ⟨kvs,k,e,rfl,hl,rfl⟩
section
variable {X:Cx}{pins:bj}{σ:St}{H:Hp}{s:aC}{a:ak}{y v:V}{u r:af}{o:Option V}{A:aA}{E:af->aC->Prop}
def Inv.big(I:Inv X pins σ H s):sysModules<s.heap.objs.size:=by
 have h:mainGlobals<s.heap.objs.size:=(I.mod.glob.keeps I.bk).lt;exact lt_trans ⋯ h
def HL{Q:af->aC->Prop}(hu:A.units+1<cLine)(I:Inv X pins σ H s)(g:z8 H a y<|some v)(ry:RelV y u)(h:∀w' s',Inv X pins σ H s'->RelV v w'->Q w' s') :
  wpAny (model X.prog X.w) A (getItem (.ref a) u) Q E s:=by
 rcases g with⟨kvs,k,e,ey,l⟩|⟨kvs,k,b,e,ey,eb,l⟩
 ·subst ey;obtain⟨z,hd,vs,rel,dd⟩:=GJ I.hok e;obtain⟨w',hw,rw'⟩:=t_.some_of (v:=v) (o:=valueAt vs k) (by rw[l];exact rel.val k);exact wpAny_getItem_of (EM ry) dd.mapOf hw (h w' _ (I.tok _) rw')
 ·subst ey
  cases(show u=Value.ref b from ry)
  obtain⟨z,hd,xs,rel,dd⟩:=EF I.hok e;obtain⟨w',hw,rw'⟩:=t_.some_of (v:=v) (o:=(atKey xs k).map (·.2)) (by rw[l];exact rel.val k);obtain⟨p,hp,hp2⟩:=bz.mp hw;refine wpAny_getItem_heap (gS hu) (AD I.hok eb) dd hp ?_;rw[hp2];exact h w' _ (I.tok _) rw'
def Ay{h':aq}{t':Nat}{ob:HO}(I:Inv X pins σ H s)(mu:Vx<|H a)(hs:Heap.SameBut a s.heap h')(he:∃q,h'.get? a=some q)(new:jG X.prog X.w (upd H a ob) h' a ob) :
  Inv X pins σ (upd H a ob) { s with heap:=h',toks:=t' }:=
 I.write (x:=a) (e:=a) mu (.inl rfl) (λb q hb z=>(hs.2 b hb).trans z) he new
def Jh{P:aj}{w:ah}{H':Hp}{h':aq}{kvs:List<|Key×V}(z:kvs.length<=sizeLine)(hd:(a == sysModules)=false)(rel:KV kvs vs)(dd:h'.DictOf (jz P w) a vs) :
  jG P w H' h' a (.dK kvs):=⟨z,hd,vs,rel,dd⟩
def IJ{H':Hp}{Q:Unit->aC->Prop}(hu:A.units+1<cLine)(I:Inv X pins σ H s)(g:MH H a y v H')(ry:RelV y u)(rv:RelV v r)(h:∀s',Inv X pins σ H' s'->Q Unit.unit s') :
  wpAny (model X.prog X.w) A (setItem (.ref a) u r) Q E s:=by
 rcases g with⟨kvs,k,e,ey,l,eH⟩|⟨kvs,k,b,e,ey,eb,l,eH⟩
 ·subst ey eH;obtain⟨z,hd,vs,rel,dd⟩:=QH I.hok e;have hz:vs.length<=sizeLine:=by rw[<- rel.length];exact z
  have hl:(putK kvs k v).length<=sizeLine:=by have:=qV kvs k v;lia
  refine wpAny_setItem_pairs (hsz:=hz) (EM ry) dd λh' dd' hs=>h _ ?_;have he:∃q,h'.get? a=some q:=let⟨q,_,_,hq,_⟩:=dd';⟨q,hq⟩
  exact Ay I (by rw[e];exact True.intro) hs he<|Jh hl hd (rel.put k rv) dd'
 ·subst ey eH
  cases(show u=Value.ref b from ry)
  obtain⟨z,hd,xs,rel,dd⟩:=UT I.hok e;have hz:xs.length<=sizeLine:=by rw[<- ie rel];exact z
  have hl:(putK kvs k v).length<=sizeLine:=by have:=qV kvs k v;lia
  refine wpAny_setItem_heap (hsz:=hz) (gS hu) (AD I.hok eb) dd λh' dd' hs=>h _ ?_;obtain⟨q,es,ep,hq,h2,h3,h4,_,h5⟩:=dd';refine Ay I (by rw[e];exact True.intro) hs ⟨q,hq⟩ ⟨hl,hd,_,(rel.put k eb rv).keeps λc ys ec=>?_,q,es,ep,hq,h2,h3,h4,h5⟩;rw[iS<|Wk ec e λz=>nomatch z];exact ec
end
def BZ{X:Cx}{H:Hp}{s:aC}{a:ak}(I:Inv X pins σ H s)(g:z8 H a y o):s.TypeIs (.ref a) "dict" := by
 rcases g with⟨kvs,k,e,_,_⟩|⟨kvs,k,b,e,_,_,_⟩
 ·obtain⟨_,_,vs,_,dd⟩:=GJ I.hok e;exact dd.typeIs
 ·obtain⟨_,_,xs,_,dd⟩:=EF I.hok e;exact dd.typeIs
def L4{P:aj}{w:ah}{H:Hp}(h:aq)(hb:sysModules<h.objs.size):jG P w H (h.push { cls:=.type "dict",data:=.dict #[]}) h.objs.size (.dK []):=
 ⟨cE _,di.mpr<|cN<|bu hb,[],.nil,Heap.DictOf.new h⟩
abbrev Uo:TE:=λ_ H Q=>∀p,H p=none->Q (.ref p) (upd H p<|.dK [])
section
variable {X:Cx}{pos:Pos}
def Ji:PE X (.Dict [] [] pos) Uo:=λpins s σ H Q I h=>
 wpAny_Dict_empty ⟨.ref s.heap.objs.size,_,I.laid (a:=s.heap.objs.size) (o:=.dK []) (t':=s.toks) (λ_ _ q=>aP _ q) (aO _)<|L4 s.heap I.big,rfl,h _<|I.hok.fresh<|aO _⟩
end
structure M1 (X:Cx)(o:aE)(m:Str)(apos:Pos)(e:aE)(cpos:Pos):Prop where
 base:attributeBase o m X.env (eval o X.env)=eval o X.env
 few:((backTo cpos<|starEach [e] X.env).all (λx=>!x.1) && (backToKw cpos<|keywordEach [] X.env).all (λx=>x.1.isSome)
  && decide (([e]:List aE).length+([]:List Keyword).length+(if ([]:List Keyword).isEmpty then 0 else 1)<30))=true
 line:(apos.endLine == cpos.line)=true
 trees:backTo cpos (starEach [e] X.env)=[(false,eval e X.env)]
structure M2 (X:Cx)(o:aE)(m:Str)(apos:Pos)(e f:aE)(cpos:Pos):Prop where
 base:attributeBase o m X.env (eval o X.env)=eval o X.env
 few:((backTo cpos<|starEach [e,f] X.env).all (λx=>!x.1) && (backToKw cpos<|keywordEach [] X.env).all (λx=>x.1.isSome)
  && decide (([e,f]:List aE).length+([]:List Keyword).length+(if ([]:List Keyword).isEmpty then 0 else 1)<30))=true
 line:(apos.endLine == cpos.line)=true
 trees:backTo cpos (starEach [e,f] X.env)=[(false,eval e X.env),(false,eval f X.env)]
section
variable {X:Cx}{pins:bj}{σ:St}{H:Hp}{s:aC}{a:ak}{y d:V}{u r:af}{o:Option V}{A:aA}{E:af->aC->Prop}
def Sd{Q:af->aC->Prop}(hu:A.units+1<cLine)(I:Inv X pins σ H s)(g:z8 H a y o)(ry:RelV y u)(rd:RelV d r)(h:∀w' s',Inv X pins σ H s'->RelV (o.getD d) w'->Q w' s') :
  wpAny (model X.prog X.w) A (call (.builtin "dict.get") [.ref a,u,r]) Q E s:=by
 rcases g with⟨kvs,k,e,ey,l⟩|⟨kvs,k,b,e,ey,eb,l⟩
 ·subst ey;obtain⟨z,hd,vs,rel,dd⟩:=GJ I.hok e;refine call_meetsIn eS dd.typeIs PySem.F.entry_dict_get (PySem.F.args_dict_get_3 _ _ _) (meets_dict_get_default (jz X.prog X.w) a (EM ry) hd r) ⟨_,dd.mapOf,h _ _ (I.tok _) ?_⟩;rw[l];exact(rel.val k).getD rd
 ·subst ey
  cases(show u=Value.ref b from ry)
  obtain⟨z,hd,xs,rel,dd⟩:=EF I.hok e;refine call_meetsIn eS dd.typeIs PySem.F.entry_dict_get (PySem.F.args_dict_get_3 _ _ _) (meetsH_dict_get_default (tupleKind<|jz X.prog X.w) a b hd r) ⟨gS hu,k,xs,AD I.hok eb,dd,h _ _ (I.tok _) ?_⟩;rw[l];exact(rel.val k).getD rd
end
meta abbrev kO:=ae×ae
abbrev pS (x:ae):Int:=reduceHash<|Builtin.Tuple.tupleHashOf<|x.map hashInt
abbrev E4 (k:kO):Int:=reduceHash<|Builtin.Tuple.tupleHashOf [pS k.1,pS k.2]
abbrev YI (x:(kO×ak×af)):DictEntry:=⟨E4 x.1,.ref x.2.1,x.2.2⟩
abbrev sA (a:ak)(xs:List<|kO×ak×af)(h:aq):Prop:=(a == sysModules)=false/\xs.length<=sizeLine/\∃o es ep,h.get? a=some o/\o.ExactDict/\o.data=.dict es ep/\es.toList=xs.map YI/\(xs.map (·.1)).Nodup
abbrev pT (H:Hp)(b:ak)(k:kO):Prop:=∃r1 r2,H b=some (.tup [.ref r1,.ref r2])/\H r1=some (.tup<|k.1.map V.int)/\H r2=some (.tup<|k.2.map V.int)
section
variable {P:aj}{w:ah}{A:aA}{E:af->aC->Prop}{s:aC}
meta abbrev TK (h:aq)(x:ae)(a:ak):Prop:=∃o items n,h.get? a=some o/\o.cls=.type "tuple" /\ o.data=.seq items n/\IntsAre items.toList x
theorem yc{P:aj}{w:ah}:∀{x:ae}{vs:ap},IntsAre vs x->ItemsAre (intKind P w) x vs
 | _,_,.nil=>.nil
 | _,_,.cons n t h=>.cons (intKind_is _ _ _ _)<|yc h
def se{x:ae}{a:ak}:TK h x a->IsTupleKey (intKind P w) h x a:=λ⟨o,its,n,h1,h2,h3,h4⟩=>⟨o,its,n,h1,h2,h3,yc h4⟩
theorem Bs:∀{x y:ae}{vs:ap},IntsAre vs x->IntsAre vs y->x=y
 | _,_,_,.nil,.nil=>rfl
 | _,_,_,.cons n t h,.cons _ _ h'=>by rw[Bs h h']
abbrev rW (h:aq)(k:kO)(a:ak):Prop:=∃o n a1 a2,h.get? a=some o/\o.cls=.type "tuple" /\ o.data=.seq #[.ref a1,.ref a2] n/\TK h k.1 a1/\TK h k.2 a2
def rW.ty{k:kO}{a:ak}(x:rW s.heap k a):s.TypeIs (.ref a) "tuple" := let⟨o,_,_,_,ho,hc,_⟩:=x;⟨o,ho,hc⟩
def TK.inj{a:ak}{x:ae}(hx:TK h x a)(hy:TK h y a):x=y:=by
 obtain⟨o,items,n,ho,_,hd,hi⟩:=hx;obtain⟨o',items',n',ho',_,hd',hi'⟩:=hy;obtain rfl:o=o':=aS<|ho.symm.trans ho';rw[hd]at hd'
 injection hd' with h1 _
 subst h1;exact Bs hi hi'
def rW.inj{a:ak}{x:kO}(hx:rW h x a)(hy:rW h y a):x=y:=by
 obtain⟨o,n,a1,a2,ho,_,hd,h1,h2⟩:=hx;obtain⟨o',n',b1,b2,ho',_,hd',h1',h2'⟩:=hy;obtain rfl:o=o':=aS<|ho.symm.trans ho';rw[hd]at hd'
 injection hd' with e _
 have e:=c6 Array.toList e
 injection e with e1 e2
 injection e2 with e2 _
 injection e1 with e1
 injection e2 with e2
 subst e1 e2;exact Prod.ext (h1.inj h1')<|h2.inj h2'
def Cv{h:aq}{x:ae}{a d:ak}{o:Obj}{es ep}(k:TK h x a)(ho:h.get? d=some o)(hd:o.data=.dict es ep)(hs:Heap.SameBut d h h'):TK h' x a:=by
 obtain⟨o',items,n,ho',hc,hd',hi⟩:=k;have hne:a≠d:=by
  rintro rfl;obtain rfl:o'=o:=aS<|ho'.symm.trans ho;rw[hd]at hd';exact nomatch hd'
 exact⟨o',items,n,(hs.2 a hne).trans ho',hc,hd',hi⟩
def rW.keeps{h:aq}{k:kO}{a d:ak}{o:Obj}{es ep}(x:rW h k a)(ho:h.get? d=some o)(hd:o.data=.dict es ep)(hs:Heap.SameBut d h h'):rW h' k a:=by
 obtain⟨o',n,a1,a2,ho',hc,hd',h1,h2⟩:=x;have hne:a≠d:=by
  rintro rfl;obtain rfl:o'=o:=aS<|ho'.symm.trans ho;rw[hd]at hd';exact nomatch hd'
 exact⟨o',n,a1,a2,(hs.2 a hne).trans ho',hc,hd',Cv h1 ho hd hs,Cv h2 ho hd hs⟩
def IF{k:kO}{a:ak}{Q:Int->aC->Prop}(hu:A.units+8<cLine)(hk:rW s.heap k a)(h:Q (E4 k) { s with toks:=s.toks+(k.1.length+1+(k.2.length+1)+1)}) :
  wpAny (model P w) A (pyHash<|.ref a) Q E s:=by
 have hT:=hk.ty;obtain⟨o,n,a1,a2,ho,_,hd,h1,h2⟩:=hk;unfold pyHash
 first|unfold pyHashByItsType|skip
 first|refine aH (wpAny_cRoomFor_or (.inr ()) ?_)|skip
 refine aH<|eF hT fR.lookup ?_;show wpAny _ _ (if (some (Value.builtin "tuple.__hash__") == some Value.none)=true then _ else _) Q E s;rw[aK<|by rw[beq_builtin_none];exact bG];refine aH<|eF hT fR.lookup ?_;show wpAny _ _ (callSpecialIfBoundUnlessNone? (.ref a) "__hash__" _ >>= _) Q E s;refine aH<|wpAny_callSpecialIfBoundUnlessNone?_slot hT fR<|fh fR hT F.entry_tuple_hash ?_<|F.args_tuple_hash_1 _;show wpAny _ _ (Builtin.Tuple.tupleItemsOf (.ref a) >>= _) _ _ s;refine aH<|gT ho hd ?_;refine aH ?_;rw[<- gU];refine gq _
  (λrest (b:Array Int) s'=>(rest=[.ref a1,.ref a2]/\b.toList=[]/\s'=s)\/(rest=[.ref a2]/\b.toList=[pS k.1]/\s'={ s with toks:=s.toks+(k.1.length+1)})\/(rest=[]/\b.toList=[pS k.1,pS k.2]/\s'={ s with toks:=s.toks+(k.1.length+1)+(k.2.length+1)}))
  _ ?_ ?_ _ _ (.inl ⟨rfl,rfl,rfl⟩)
 ·rintro x rest b s' (⟨e,hb,rfl⟩|⟨e,hb,rfl⟩|⟨e,_,_⟩)
  ·cases e
   refine aH (wpAny_pyHash_tuple (knd:=intKind P w) (ks:=k.1) (by simp;lia) (se h1) ?_)
   first
    | exact aT (.inr<|.inl ⟨rfl,by rw[eT,hb];rfl,rfl⟩)
    | exact aH<|aT<|aT<|.inr<|.inl ⟨rfl,by rw[eT,hb];rfl,rfl⟩
  ·cases e
   refine aH (wpAny_pyHash_tuple (knd:=intKind P w) (ks:=k.2) (by simp;lia) (se h2) ?_)
   first
    | exact aT (.inr<|.inr ⟨rfl,by rw[eT,hb];rfl,rfl⟩)
    | exact aH<|aT<|aT<|.inr<|.inr ⟨rfl,by rw[eT,hb];rfl,rfl⟩
  ·cases e
 ·rintro b s' (⟨e,_,_⟩|⟨e,_,_⟩|⟨_,hb,rfl⟩)
  ·cases e
  ·cases e
  ·show wpAny _ _ (retInt<|Builtin.Tuple.tupleHashOf b.toList) _ _ _;rw[hb];refine wpAny_ret_mkInt ?_;show wpAny _ _ (if (decide (-(2:Int) ^ 63<=Builtin.Tuple.tupleHashOf [pS k.1,pS k.2]) && decide (Builtin.Tuple.tupleHashOf [pS k.1,pS k.2]<2 ^ 63))=true then _ else _) Q E _;unfold E4 reduceHash at h;by_cases hr:(decide (-(2:Int) ^ 63<=Builtin.Tuple.tupleHashOf [pS k.1,pS k.2]) && decide (Builtin.Tuple.tupleHashOf [pS k.1,pS k.2]<2 ^ 63))=true
   ·rw[aJ hr];rw[aJ hr]at h;exact aT (by simpa[eL]using h)
   ·rw[aK hr];rw[aK hr]at h;exact aH<|dJ<|aT<|by simpa[eL]using h
def zN{x:kO}{a:ak}{R:Fin->aC->Prop}(hu:A.units+8<cLine)(hx:rW s.heap x a)(hy:rW s.heap y b)(h:R (.done<|.ret<|.bool<|decide<|x=y) s) :
  wpAny (model P w) A (Builtin.«tuple.__eq__» ⟨[.ref a,.ref b],[]⟩) R E s:=by
 have hTb:=hy.ty;obtain⟨oa,na,a1,a2,hoa,_,hda,h1,h2⟩:=hx;obtain⟨ob,nb,b1,b2,hob,_,hdb,h1',h2'⟩:=hy;show wpAny _ _ (isInstance (.ref b) (.type "tuple") >>= _) _ _ s;refine aH<|gr hTb gh ?_;dsimp[cC,bq,bX];refine aH<|gT hoa hda ?_;refine aH<|gT hob hdb ?_;refine aH ?_;refine gq _
  (λrest r s'=>r.1=none/\s'=s/\((rest=[(.ref a1,.ref b1),(.ref a2,.ref b2)])\/(rest=[(.ref a2,.ref b2)]/\x.1=y.1)\/(rest=[]/\x=y)))
  _ ?_ ?_ _ _ ⟨rfl,rfl,.inl rfl⟩
 ·rintro⟨u,v⟩ rest r s' ⟨hr,rfl,e|⟨e,hq⟩|⟨e,_⟩⟩
  ·cases e
   refine aH<|wpAny_eqBool_tuple (knd:=intKind P w) (x:=x.1) (y:=y.1) () (se h1) (se h1') ?_;by_cases hk:x.1=y.1
   ·rw[a_ hk];dsimp[cC,bq,bX];exact aT ⟨rfl,rfl,.inr<|.inl ⟨trivial,hk⟩⟩
   ·rw[aW hk];dsimp[c8,cX];rw[aW λz=>hk<|by rw[z]]at h;exact aH<|aT<|aT<|aT h
  ·cases e
   refine aH<|wpAny_eqBool_tuple (knd:=intKind P w) (x:=x.2) (y:=y.2) () (se h2) (se h2') ?_;by_cases hk:x.2=y.2
   ·rw[a_ hk];dsimp[cC,bq,bX];exact aT ⟨rfl,rfl,.inr<|.inr ⟨trivial,Prod.ext hq hk⟩⟩
   ·rw[aW hk];dsimp[c8,cX];rw[aW λz=>hk<|by rw[z]]at h;exact aH<|aT<|aT<|aT h
  ·cases e
 ·rintro⟨r1,r2⟩ s' ⟨hr,rfl,e|⟨e,_⟩|⟨_,e⟩⟩
  ·cases e
  ·cases e
  ·simp only at hr;subst hr;refine aT ?_;rw[a_ e]at h;exact h
def Pn{x:kO}{a:ak}{Q:Bool->aC->Prop}(hu:A.units+16<cLine)(hx:rW s.heap x a)(hy:rW s.heap y b)(h:Q (decide<|x=y) s):wpAny (model P w) A (eqBool (.ref a)<|.ref b) Q E s:=by
 unfold eqBool
 try with_reducible refine cG ?_
 show wpAny _ _ (if (Value.ref a == Value.ref b)=true then _ else _) Q E s;by_cases hab:(Value.ref a == Value.ref b)=true
 ·rw[aJ hab];have e:a=b:=by have:=eq_of_beq hab;injection this
  subst e;obtain rfl:=hx.inj hy;exact aH<|dJ<|aT<|by simpa using h
 ·rw[aK hab];exact aH (wpAny_richCompare_same_room (op:=.Eq) hx.ty hy.ty gJ
   (fh gJ hx.ty F.entry_tuple_eq (zN (by simp;lia) hx hy ⟨_,rfl,(λe=>nomatch e),c9 h⟩)<|F.args_tuple_eq_2 _ _) ())
def LD{n:Nat}{x:ae}{a:ak}{Q:Bool->aC->Prop}(hk:TK s.heap x a)(h:Q true s):wpAny (model P w) A (eqIsQuiet (n+1)<|.ref a) Q E s:=by
 have hk:=se (P:=P) (w:=w) hk;have hT:=hk.typeIs;obtain⟨o,items,m,ho,_,hd,hi⟩:=hk;unfold eqIsQuiet;refine aH<|eF hT gJ.lookup ?_;show wpAny _ _ (isInstance (.ref a) (.type "tuple") >>= _) _ _ s;refine aH<|gr hT gh ?_;dsimp[cC,bq,bX];refine aH<|gW ho hd ?_;refine aH ?_;show wpAny _ _ (forIn items _ _) _ _ s;rw[<- gU];refine gq _ (λrest r s'=>r.1=none/\s'=s/\∀v∈rest,carriedByValue v=true) _ ?_ ?_ _ _ ⟨rfl,rfl,hi.byValue⟩
 ·rintro v rest r s' ⟨hr,rfl,hall⟩;rw[eqIsQuiet_byValue _<|hall v aN];refine aH<|aT ?_;dsimp[cC,bq,bX];exact aT ⟨rfl,rfl,λu hu'=>hall u<|aQ _ hu'⟩
 ·rintro⟨r1,r2⟩ s' ⟨hr,rfl,_⟩;simp only at hr;subst hr;exact aT h
def Dj{k:kO}{a:ak}{Q:Bool->aC->Prop}(hk:rW s.heap k a)(h:Q true s):wpAny (model P w) A (eqIsQuiet 8<|.ref a) Q E s:=by
 have hT:=hk.ty;obtain⟨o,m,a1,a2,ho,_,hd,h1,h2⟩:=hk;unfold eqIsQuiet;refine aH<|eF hT gJ.lookup ?_;show wpAny _ _ (isInstance (.ref a) (.type "tuple") >>= _) _ _ s;refine aH<|gr hT gh ?_;dsimp[cC,bq,bX];refine aH<|gW ho hd ?_;refine aH ?_;show wpAny _ _ (forIn (#[Value.ref a1,.ref a2]:Array af) _ _) _ _ s;rw[<- gU];refine gq _ (λrest r s'=>r.1=none/\s'=s/\∀v∈rest,∃c x,v=Value.ref c/\TK s.heap x c) _ ?_ ?_ _ _ ⟨rfl,rfl,λv hv=>by
  rcases bB.mp hv with e|hv
  ·exact⟨a1,k.1,e,h1⟩
  ·exact⟨a2,k.2,by simpa using hv,h2⟩⟩
 ·rintro v rest r s' ⟨hr,rfl,hall⟩;obtain⟨c,x,rfl,hx⟩:=hall v aN;refine aH<|LD hx ?_;dsimp[cC,bq,bX];exact aT ⟨rfl,rfl,λu hu'=>hall u<|aQ _ hu'⟩
 ·rintro⟨r1,r2⟩ s' ⟨hr,rfl,_⟩;simp only at hr;subst hr;exact aT h
end
abbrev Bw (P:aj)(w:ah):HeapKind P w kO where
 is:=rW
 hash:=E4
 draws:=λk=>k.1.length+1+(k.2.length+1)+1
 room:=λA=>A.units+16<cLine
 inj:=λhx hy=>hx.inj hy
 keeps:=λx ho hd hs=>x.keeps ho hd hs
 pyHash:=λhu hk h=>IF () hk h
 eqBool:=λhu hx hy h=>Pn hu hx hy h
 quiet:=λhk h=>Dj hk h
section
variable {X:Cx}
def Ph(hu:X.A.units+1<cLine):N1 X (λx y H Q=>∃a v,x=.ref a/\z8 H a y (some v)/\Q v H):=by
 kst_p;obtain⟨a,z,rfl,g,q⟩:=h
 cases rx
 have hT:=BZ I g;unfold subscriptTail;refine aH ?_;rw[getitemInPython_of_ne hT.not_modules];refine aH<|eF hT PySem.F.slot_dict_getitem.lookup ?_;have fin:wpAny (model X.prog X.w) X.A (subscripted slice false (.ref a) u) (λr s₃=>wpAny (model X.prog X.w) X.A (letTemporaryGo value (.ref a) r >>= λ_=>pure r) (EP X pins σ Q) X.xe s₃) X.xe s:=by
  rw[hs];exact wpAny_operating<|HL hu I g ry λw' s3 I3 rw'=>aH<|wpAny_letTemporaryGo<|aT ⟨z,H,I3,rw',q⟩
 first
  | exact aT (aH fin)
  | exact aH (aT<|aH fin)
  | exact aH fin
def set_dict(hu:X.A.units+1<cLine):CJ X (λo i v H Q=>∃a H',o=.ref a/\MH H a i v H'/\Q H'):=by
 intro pins s σ H o i v ov iv u Q I ro ri rv h;obtain⟨a,H',rfl,g,q⟩:=h
 cases ro
 exact IJ hu I g ri rv λs4 I4=>⟨H',I4,q⟩
end
abbrev C0 (e:ak)(h:aq):Prop:=∃o vs,h.get? e=some o/\o.data=.fields vs/\vs[2]?=some .none/\o.dict=none
abbrev jb (e:ak){α:Type}(m:Sem α):Prop:=∀(M:Model) (Γ:PySem.Ctx) (Q:α->Pos->aC->Prop) (E:af->Pos->aC->Prop) (p:Pos) (s:aC),Sem.wp M Γ m Q E p s->C0 e s.heap->Sem.wp M Γ m (λa p s=>Q a p s/\C0 e s.heap) (λv p s=>E v p s/\C0 e s.heap) p s
section
variable {e:ak}{α β:Type}
def jb.bind{m:Sem α}{f:α->Sem β}(h1:jb e m)(h2:∀a,jb e<|f a):jb e (m >>= f):=by
 intro M Γ Q E p s h c;rw[Sem.wp_bind']at h ⊢;exact Sem.wp_mono M Γ m (λa p' s' z=>h2 a M Γ Q E p' s' z.1 z.2) (λ_ _ _ z=>z) p s<|h1 M Γ _ _ p s h c
theorem jb.pure(a:α):jb e (pure a:Sem α):=λM Γ Q E p s h c=>by rw[Sem.wp_pure']at h ⊢;exact⟨h,c⟩
def jb.Jk(w:String):jb e (PySem.unsupported w:Sem α):=λM Γ Q E p s h c=>by
 have h:Sem.wp M Γ (.unsupported w:Sem α) Q E p s:=h;rw[Sem.wp_unsupported]at h;exact h.elim
def jb.load(a:ak):jb e (PySem.load a):=λM Γ Q E p s h c=>by
 have h:Sem.wp M Γ (.load a none .pure) Q E p s:=h;show Sem.wp M Γ (.load a none .pure) _ _ p s;rw[Sem.wp_load]at h ⊢;obtain⟨o,ho,h⟩:=h;rw[gD]at h;exact⟨o,ho,by rw[gD];exact⟨h,c⟩⟩
def C0.update{h:aq}{a:ak}{f:Obj->Obj}(c:C0 e h)(hf:∀o vs,o.data=.fields vs->vs[2]?=some .none->∃ws,(f o).data=.fields ws/\ws[2]?=some .none/\(f o).dict=o.dict):C0 e (h.update a f):=by
 obtain⟨o,vs,h1,h2,h3,h4⟩:=c;by_cases z:a=e
 ·subst z;obtain⟨ws,w1,w2,w3⟩:=hf o vs h2 h3;exact⟨f o,ws,gf f h1<|Obj.isFreed_of_fields w1,w1,w2,w3.trans h4⟩
 ·exact⟨o,vs,by rw[dB _ _ z];exact h1,h2,h3,h4⟩
def jb.update(a:ak)(f:Obj->Obj)(hf:∀o vs,o.data=.fields vs->vs[2]?=some .none->∃ws,(f o).data=.fields ws/\ws[2]?=some .none/\(f o).dict=o.dict):jb e (PySem.update a f):=λM Γ Q E p s h c=>by
 have h:Sem.wp M Γ (.update a none f .pure) Q E p s:=h;show Sem.wp M Γ (.update a none f .pure) _ _ p s;rw[Sem.wp_update]at h ⊢;obtain⟨ho,h⟩:=h;rw[gD]at h;exact⟨ho,by rw[gD];exact⟨h,c.update hf⟩⟩
def jb.alloc(o:Obj):jb e (PySem.alloc o):=λM Γ Q E p s h c=>by
 have h:Sem.wp M Γ (.alloc o .pure) Q E p s:=h;show Sem.wp M Γ (.alloc o .pure) _ _ p s;rw[Sem.wp_alloc,gD]at h ⊢;obtain⟨ob,vs,h1,h2,h3,h4⟩:=c;exact⟨h,ob,vs,aP _ h1,h2,h3,h4⟩
def jb.stack:jb e PySem.stack:=λM Γ Q E p s h c=>by
 have h:Sem.wp M Γ (.stack .pure) Q E p s:=h;show Sem.wp M Γ (.stack .pure) _ _ p s;rw[Sem.wp_stack,gD]at h ⊢;exact⟨h,c⟩
def jb.ite{c:Prop}[Decidable c]{a b:Sem α}(h1:jb e a)(h2:jb e b):jb e (if c then a else b):=by
 split
 ·exact h1
 ·exact h2
def jb.field(v:af)(i:Nat):jb e (PySem.field v i):=by
 unfold PySem.field PySem.fieldsOf;refine jb.bind ?_ λvs=>?_
 ·split
  ·refine jb.bind (jb.load _) λo=>?_;split
   ·exact jb.pure _
   ·exact jb.Jk _
  ·exact jb.Jk _
 ·split
  ·exact jb.pure _
  ·exact jb.Jk _
def jb.setField(v x:af)(i:Nat)(hi:i≠2):jb e (PySem.setField v i x):=by
 unfold PySem.setField PySem.updateField;split
 ·refine jb.bind (jb.load _) λo=>?_;split
  ·refine jb.ite (jb.update _ _ λo vs h1 h2=>⟨_,Obj.data_mapFields h1 _,?_,?_⟩) (jb.Jk _)
   ·rw[gc hi];exact h2
   ·unfold Obj.mapFields;split<;>rfl
  ·exact jb.Jk _
 ·exact jb.Jk _
def jb.frameEnvs:jb e PySem.frameEnvs:=by
 unfold PySem.frameEnvs;exact jb.bind jb.stack λ_=>jb.pure _
def jb.behind(env:Env)(outer:List Env):jb e (behindIsImport env outer):=by
 unfold behindIsImport;refine jb.ite (jb.pure _)<|jb.ite (jb.pure _)<|jb.bind (jb.field _ _) λ_=>jb.pure _
def jb.under:jb e underTheClaimsCaller:=by
 unfold underTheClaimsCaller;exact jb.bind jb.stack λ_=>jb.pure _
def jb.kept(env:Env)(b:Bool)(l:List Env):jb e (keptBack env b l):=by
 unfold keptBack;split
 ·refine jb.ite (jb.pure _) (jb.bind jb.under λ_=>jb.pure _)
 ·exact jb.pure _
theorem jb.ready:∀(l:List Env),jb e (readyFrames l)
 | []=>jb.pure _
 | env::outer=>by
  unfold readyFrames;split
  ·refine jb.bind (jb.load _) λo=>?_;refine jb.ite (jb.pure _) ?_;refine jb.bind (jb.behind _ _) λ_=>jb.bind (jb.kept _ _ _) λ_=>jb.bind (jb.update _ _ λo vs h1 h2=>⟨vs,h1,h2,rfl⟩) λ_=>jb.ready outer
  ·exact jb.Jk _
def jb.frameOf(env:Env):jb e (PySem.frameOf env):=by
 unfold PySem.frameOf;refine jb.bind jb.frameEnvs λl=>jb.bind ?_ λ_=>?_
 ·unfold frameObject;split
  ·exact jb.pure _
  ·exact jb.bind (jb.ready _) λ_=>jb.pure _
 ·split
  ·exact jb.pure _
  ·exact jb.Jk _
def jb.place(f:ak)(b:Bool):jb e (entryPlaceOf f b):=by
 unfold entryPlaceOf;refine jb.bind jb.stack λ_=>?_;split
 ·exact jb.pure _
 ·exact jb.pure _
def jb.entry(a b c d f:af)(l:ap):jb e (EntryCells.newEntry a b c d f l):=by
 unfold EntryCells.newEntry newFields newObj
 repeat (first|exact jb.pure _|exact jb.Jk _|refine jb.bind (jb.alloc _) λ_=>?_|refine jb.bind (jb.Jk _) λ_=>?_|refine jb.ite ?_ ?_|(refine jb.bind ?_ λ_=>?_))
def jb.flight(v:af)(f:Option ak):jb e (setFlight v f):=by
 unfold setFlight;refine jb.bind (jb.field _ _) λ_=>jb.ite (jb.setField _ _ _ ⋯)<|jb.pure _
def jb.note(v:af)(env:Env):jb e (noteFrame v env):=by
 unfold noteFrame;split
 ·refine jb.bind (jb.field _ _) λh=>jb.ite ?_ ?_
  ·refine jb.bind (jb.field _ _) λ_=>jb.ite (jb.pure _) ?_;refine jb.bind (jb.setField _ _ _ ⋯) λ_=>jb.bind (jb.frameOf _) λ_=>jb.bind (jb.place _ _) λ_=>jb.bind (jb.entry _ _ _ _ _ _) λ_=>jb.setField _ _ _ ⋯
  ·refine jb.bind (jb.frameOf _) λ_=>jb.bind (jb.place _ _) λ_=>jb.bind (jb.entry _ _ _ _ _ _) λ_=>jb.setField _ _ _ ⋯
 ·exact jb.Jk _
def jb.leave(v:af)(env:Env):jb e (leaving env v):=by
 unfold leaving;exact jb.bind (jb.note _ _) λ_=>jb.flight _ _
def jb.any{m:Sem α}{A:aA}{Q:α->aC->Prop}{E:af->aC->Prop}{s:aC}(k:jb e m)(h:wpAny M A m Q E s)(c:C0 e s.heap):wpAny M A m (λa s'=>Q a s'/\C0 e s'.heap) (λv s'=>E v s'/\C0 e s'.heap) s:=
 λΓ p hΓ=>k M Γ _ _ p s (h Γ p hΓ) c
end
def jG.here{P:aj}{w:ah}{H:Hp}{h:aq}{a:ak}(x:jG P w H h a o):∃ob,h.get? a=some ob:=by
 cases o with
 | lst xs=>obtain⟨_,_,_,_,e⟩:=x;exact⟨_,e⟩
 | tup xs=>obtain⟨_,_,_,p⟩:=x;obtain⟨o,e,_⟩:=p;exact⟨_,e⟩
 | dK kvs=>obtain⟨_,_,_,_,o,_,_,e,_⟩:=x;exact⟨_,e⟩
 | dT kvs=>obtain⟨_,_,_,_,o,_,_,e,_⟩:=x;exact⟨_,e⟩
 | set S n=>obtain⟨o,_,_,_,e,_⟩:=x;exact⟨_,e⟩
 | ins C dx fs=>obtain⟨_,_,_,e,_⟩:=x;exact⟨_,e⟩
 | own y=>exact x
 | xd fs=>obtain⟨_,⟨_,_,_,e,_⟩,_⟩:=x;exact⟨_,e⟩
 | rng lo hi=>obtain⟨_,_,_,e⟩:=x;exact⟨_,e⟩
 | frz ob u=>obtain⟨e,_⟩:=x;exact⟨_,e⟩
 | tbl ps=>exact⟨_,(show h.get? a=some _ from x)⟩
 | met f y=>exact⟨_,(show h.get? a=some _ from x)⟩
 | ext φ=>obtain⟨_,⟨o,e⟩,_⟩:=x;exact⟨_,e⟩
structure Fly (l:List Env)(g:aq)(pn:bj)(H:Hp)(e:ak)(cls:af)(h:aq):Prop where
 ex:∃(B:aq) (a0:af),Heap.FlyingW B l e cls a0 h/\(∀a u,H a=some u->∃o,B.get? a=some o)/\(∀b o,g.get? b=some o->b∉frs l->∃o',B.get? b=some o')/\(∀p∈pn,∃o',B.get? p.1=some o')/\C0 e h
structure Made (X:Cx)(H:Hp)(e:ak)(cls:af)(g:aq)(h:aq):Prop where
 ex:∃(g':aq) (vs:ap),Heap.MadeExcOf g' h e cls vs/\g'.FunFrames X.base X.stack/\(∀a u,H a=some u->∃o,g'.get? a=some o)/\(∀b o,g.get? b=some o->∃o',g'.get? b=some o')/\(∀p∈X.pn,∃o',g'.get? p.1=some o')
def GG{g:aq}{e:ak}{cls:af}(M:Heap.MadeExcOf g h e cls vs):C0 e h:=by
 obtain⟨t,he,_⟩:=M.there;exact⟨_,_,he,rfl,rfl,rfl⟩
abbrev uw (X:Cx)(H:Hp)(e:ak)(cls:af)(s':aC):Prop:=Made X H e cls X.s₀.heap s'.heap\/Fly X.stack X.s₀.heap X.pn H e cls s'.heap
section
variable {X:Cx}{pins:bj}{σ:L2.St}{H:Hp}{s':aC}{e:ak}{cls:af}
def wk(I:Inv X pins σ H s')(hex:X.ex=[]){B:aq}(k1:B.StaysIn s'.heap)(k2:B.StaysIn h')(up:s'.heap.UpToSlots h')(c1:∀a u,H a=some u->∃o,B.get? a=some o)(c2:∀b o,X.s₀.heap.get? b=some o->b∉X.fs->∃o',B.get? b=some o') :
  Un X.fs [] X.H₀ H X.s₀.heap h'/\rV X.prog X.w H h':=by
 have nx:∀b:ak,b∉X.ex:=λb z=>by rw[hex]at z;cases z
 have cov:∀b o o',B.get? b=some o'->s'.heap.get? b=some o->h'.get? b=some o:=λb o o' eb es=>by
  have:=k1 b o' eb;rw[es]at this;cases this;exact k2 b o eb
 have slot:∀b o,X.s₀.heap.get? b=some o->X.H₀ b=none->b∈X.fs->∃sl,h'.get? b=some { o with slots:=sl }:=λb o q n hb=>by
  obtain⟨sl,e1⟩:=I.base.slot b o q n hb<|nx b;obtain⟨_,o2,q2,d2⟩:=I.ok.qp.mem hb;rw[q]at q2;cases q2;obtain⟨sl',e2⟩:=up b _ e1 d2;exact⟨sl',e2⟩
 refine⟨⟨λb o q n hb _=>?_,λb o q n hb _=>slot b o q n hb,λb o q n _=>I.base.free b o q n<|nx b,λb o q _=>?_,I.base.tups,I.base.frzs,I.base.tbls⟩,λa u ea=>?_⟩
 ·obtain⟨o',eb⟩:=c2 b o q hb;exact cov b o o' eb (I.base.keep b o q n hb<|nx b)
 ·by_cases hb:b∈X.fs
  ·obtain⟨sl,z⟩:=slot b o q (I.ok.frf b hb) hb;exact⟨_,z⟩
  ·obtain⟨o',eb⟩:=c2 b o q hb;exact⟨o',k2 b o' eb⟩
 ·refine(I.hok a u ea).stay (λb v hb q=>?_) (λ_ q=>q) λ_ _ q=>q
  rcases hb with z|z
  ·subst z;obtain⟨o',eb⟩:=c1 _ u ea;exact cov _ v o' eb q
  ·obtain⟨o',eb⟩:=c1 b _ z;exact cov b v o' eb q
def DC(I:Inv X pins σ H s')(hst:X.stack=X.env::X.outer)(hf:X.env.frame=some X.env.locals)(hex:X.ex=[])(R:uw X H e cls s'){Q:aC->Prop}{E:af->aC->Prop}
  (hQ:∀h',Un X.fs [] X.H₀ H X.s₀.heap h'->rV X.prog X.w H h'->Fly X.outer X.s₀.heap [] H e cls h'->Q { s' with heap:=h' }):wpAny (model X.prog X.w) X.A (leaving X.env<|.ref e) (λ_ s''=>Q s'') E s':=by
 have hfr:X.A.frames=some (X.env::X.outer):=by rw[<- hst];exact I.ok.frames
 have nl:∀b o,X.s₀.heap.get? b=some o->b∉X.fs->b∉frs (X.env::X.outer):=λb o q hb z=>by
  unfold frs at z;rw[dZ,hf]at z
  rcases bB.mp z with z|z
  ·rw[z]at q;exact absurd (bH (aV q) I.ok.above) (dG _)
  ·exact hb z
 rcases R with⟨g',vs,M,ffg,m1,m2,_⟩|⟨B,a0,F,c1,c2,_,k0⟩
 ·
  rw[hst]at ffg;have hin:∀env∈(X.env::X.outer),∀b,env.frame=some b->b∈frs (X.env::X.outer):=λenv he b hb=>fG.mpr ⟨env,he,hb⟩;refine cJ (jb.any (e:=e) (jb.leave _ _) (wpAny_leaves_madeW (Q:=λ_ s''=>∃h' t,s''={ s' with heap:=h' }/\Heap.FlyingW (PySem.W.hideAll g'<|frs (X.env::X.outer)) X.outer e cls (.ref t) h'/\s'.heap.UpToSlots h') (E:=λ_ _=>False) (base:=PySem.W.hideAll g'<|frs (X.env::X.outer)) hfr hf (λb o q=>d_ _ q) (PySem.W.funFrames_hide ffg hin) M λh' t x1 x2 x3 x4=>⟨h',t,rfl,x1,x4⟩)<|GG M) (λ_ s'' z=>?_) λ_ _ z=>z.1.elim;obtain⟨⟨h',t,rfl,x1,x4⟩,k0⟩:=z;have k1:(PySem.W.hideAll g'<|frs (X.env::X.outer)).StaysIn s'.heap:=λb o q=>M.keeps b o<|d_ _ q;have c1:∀a u,H a=some u->∃o,(PySem.W.hideAll g'<|frs (X.env::X.outer)).get? a=some o:=λa u ea=>by
   obtain⟨o,q⟩:=m1 a u ea;refine⟨o,dj _ q λz=>?_⟩;rw[<- hst]at z;rw[I.vF a z]at ea;cases ea
  have c2:∀b o,X.s₀.heap.get? b=some o->b∉X.fs->∃o',(PySem.W.hideAll g'<|frs (X.env::X.outer)).get? b=some o':=λb o q hb=>by
   obtain⟨o',q'⟩:=m2 b o q;exact⟨o',dj _ q'<|nl b o q hb⟩
  obtain⟨un,hok⟩:=wk I hex k1 x1.1 x4 c1 c2;exact hQ h' un hok ⟨_,_,x1,c1,λb o q hb=>c2 b o q hb,λp hp=>absurd hp<|by simp,k0⟩
 ·rw[hst]at F c2;refine cJ (jb.any (e:=e) (jb.leave _ _) (wpAny_leaves_onW (Q:=λ_ s''=>∃h',s''={ s' with heap:=h' }/\Heap.FlyingW B X.outer e cls a0 h'/\s'.heap.UpToSlots h') (E:=λ_ _=>False) hfr hf F λh' x1 x4=>⟨h',rfl,x1,x4⟩) k0) (λ_ s'' z=>?_) λ_ _ z=>z.1.elim;obtain⟨⟨h',rfl,x1,x4⟩,k0'⟩:=z;have c2':∀b o,X.s₀.heap.get? b=some o->b∉X.fs->∃o',B.get? b=some o':=λb o q hb=>c2 b o q<|nl b o q hb;obtain⟨un,hok⟩:=wk I hex F.1 x1.1 x4 c1 c2';exact hQ h' un hok ⟨_,_,x1,c1,c2',λp hp=>absurd hp<|by simp,k0'⟩
end
abbrev u7 (P:aj)(w:ah):Kq:=λouter H s E e s''=>∃ea cls H',e=.ref ea/\s''.os=s.os/\AllBare s''.gens/\Un (frs outer) [] H H' s.heap s''.heap/\rV P w H' s''.heap/\Fly outer s.heap [] H' ea cls s''.heap/\E cls none H'
section
variable {P:aj}{w:ah}{K:au}{mg:Str->ba}{base:aq}{N:am}{qual:Str}{scope:Scope}{f:ak}{cd:af}{A:aA}{outer:List Env}{s:aC}{H:Hp}{E:XK}
def Hu{H':Hp}{cls:af}(I:Inv (s_ (u7 P w) P w K mg base N qual scope f cd A outer s H E) pins σ' H' s')
  (hf:(envOfC qual scope s.heap.objs.size f cd).frame=some (envOfC qual scope s.heap.objs.size f cd).locals)
  (R:uw (s_ (u7 P w) P w K mg base N qual scope f cd A outer s H E) H' ea cls s') (hE:E cls none H'):(s_ (u7 P w) P w K mg base N qual scope f cd A outer s H E).xe (.ref ea) s':=by
 refine DC I rfl hf rfl R (Q:=λs''=>u7 P w outer H s E (.ref ea) s'') λh' un hok fl=>?_;exact⟨ea,cls,H',rfl,I.os,I.bare,un,hok,fl,hE⟩
abbrev EX (X:Cx):XK:=λcls _ H'=>X.ex=[]/\∀pins σ' s' e,Inv X pins σ' H' s'->uw X H' e cls s'->X.xe (.ref e) s'
def Ju{X:Cx}(hP:X.prog=P)(hw:X.w=w):Passes (u7 P w) X (EX X):=by
 intro pins σ H s e s' I ⟨ea,cls,H',he,os,bare,un,hok,⟨B,a0,F,c1,c2,_,k0⟩,hE⟩;subst he hP hw;obtain⟨hh,g,d,t,os'⟩:=s';obtain rfl:os'=s.os:=os;refine hE.2 pins σ _ ea (I.call (h':=hh) (g':=g) (d':=d) (t':=t) (ch:=[]) un hok bare λb z=>absurd z<|by simp) (.inr ⟨B,a0,F,c1,λb o q hb=>?_,λp hp=>?_,k0⟩)
 ·obtain⟨o',q'⟩:=I.base.there b o q (by rw[hE.1];simp);exact c2 b o' q' hb
 ·obtain⟨q,_,n1,n2,_⟩:=I.pin p<|bR _ hp;exact c2 p.1 _ q λz=>(bB.mp<|I.uG _ z).elim n1 n2
abbrev Q8 (X:Cx)(C:ak)(t:TA):TS:=λ_ σ H=>t σ H λvs H'=>vs.length<=sizeLine/\EX X (.ref C) none H'
def BK{X:Cx}{x:Str}{B:String}{e:aE}{t:TA}(O:OwnCls x C bmB newId X.mg X.base)(FB:ExcBaseFacts B newId initId bmB)(hh:X.A.handled=none)(ha:PA X (e::es) t)(hg:Gl X x:=by rfl)
  (hs:starEach (e::es) X.env=(false,eval e X.env)::starEach es X.env:=by rfl) (hplain:(backTo cpos<|starEach es X.env).any (·.1)=false:=by rfl) (hd:(x == ("__debug__" : Str))=false:=by decide) :
  PS X (.Raise (some<|.Call (.Name x np) (e::es) [] cpos) none pos) (Q8 X C t):=by
 kcf_m;obtain⟨tl,N,nm,q,bs,hdct,sn,sub,ab,col,dd,k0,k1,k2,k3,k5,mN,hC,hN,hni,T⟩:=O.obj;refine wpAny_Raise_call_subU (C:=C) (nm:=nm) (q:=q) (N:=N) (bs:=bs) (bm:=tl) (hdct:=hdct) (sn:=sn) (sub:=sub) (ab:=ab) (col:=col) (dd:=dd) (k0:=k0) (k1:=k1) (k2:=k2) (k3:=k3) (k5:=k5)
  FB FB.hasB FB (mN:=mN) (T.hasType FB.hasBase) hh (by rw[hs];show(false || (backTo cpos<|starEach es X.env).any (·.1))=false;rw[hplain];rfl) hni (rQ I hg O.bound ⟨rfl,?_⟩ hd)
 have hA:=ha cpos pins s σ H _ I h;rw[hs]at hA ⊢;refine Calls.evalArgs_plain<|j3 hA λus s2 ⟨vs,H2,I2,r2,hl,hex,q2⟩=>?_;refine⟨rfl,by rw[<- r2.length];exact hl,I2.bk _ _ hC,hN.keeps I2.bk,T.keeps I2.bk,λh' ea M=>?_⟩;refine q2 pins σ { s2 with heap:=h' } ea ?_ (.inl ⟨s2.heap,us,M,I2.stack,λa u ea=>?_,λb o q=>?_,λp hp=>⟨_,(I2.pin p<|bR _ hp).1⟩⟩)
 ·exact I2.kept (t':=s2.toks) M.keeps
 ·exact(I2.hok a u ea).here
 ·exact I2.base.there b o q<|by rw[hex];simp
end
abbrev wF:List (Str ⊕ TE)->St->Hp->(Hp->Prop)->Prop
 | [],_,H,k=>k H
 | .inl x::ps,σ,H,k=>x.length<=1000/\wF ps σ H k
 | .inr t::ps,σ,H,k=>t σ H λv H'=>∃i,v=.int i/\i.natAbs.log2<64/\wF ps σ H' k
inductive FParts (X:Cx):List aE->List (Str ⊕ TE)->Prop
 | nil:FParts X [] []
 | txt {x:Str} {j pos} {es:List aE} {ps:List<|Str ⊕ TE} (h:FParts X es ps):FParts X (.Constant (.str x) j pos::es) (.inl x::ps)
 | val {e:aE} {pos:Pos} {t:TE} {es:List aE} {ps:List<|Str ⊕ TE} (he:PE X e t) (h:FParts X es ps):FParts X (.FormattedValue e (-1) none pos::es) (.inr t::ps)
theorem sf{X:Cx}{Q:VK}:∀{es:List aE}{ps:List<|Str ⊕ TE},FParts X es ps->∀(H:Hp) (s:aC) (out:Str),Inv X pins σ H s->out.length+2000 * es.length<=sizeLine ->
  wF ps σ H (λH'=>∀x:Str,x.length<=sizeLine->Q (.str x) H')->wpAny (model X.prog X.w) X.A (joinParts out<|evalEach es X.env) (EP X pins σ Q) X.xe s
 | _,_,.nil,H,s,out,I,hl,h=>joinParts_nilE (joinParts_nil (show EP X pins σ Q _ _ from⟨.str out,H,I.tok _,⟨_,rfl⟩,h out<|by simpa using hl⟩)<|by simpa using hl)
 | _,_,.txt (x:=x) hp,H,s,out,I,hl,h=>by
  refine joinParts_consE<|joinParts_cons<|Calls.Constant_str ?_;rw[bA]at hl;have hx:=h.1;have hz:(out++x).length=out.length+x.length:=strLen_append ..;exact⟨by rw[hz];lia,sf hp H _ _ (I.tok _) (by rw[hz];lia) h.2⟩
 | _,_,.val (e:=e) (t:=t) he hp,H,s,out,I,hl,h=>by
  rw[bA]at hl;refine joinParts_consE<|joinParts_cons<|FormattedValue_plain<|j3 (he pins s σ H _ I h) λv s1 ⟨x,H1,I1,r1,i,hx,hi,h1⟩=>?_;subst hx;obtain⟨tk,rfl⟩:=r1;refine formatField_int_small () ?_;have ht:(Str.ofString<|toString i).length<=65:=by
   have:=int_text_length_le (a:=i) (k:=64) ⋯ hi;rw[PySem.ofString_length];exact this
  have hz:(out++Str.ofString (toString i)).length=out.length+(Str.ofString<|toString i).length:=strLen_append ..;exact⟨by rw[hz];lia,sf hp H1 _ _ (I1.tok _) (by rw[hz];lia) h1⟩
abbrev YA (ps:List<|Str ⊕ TE):TE:=λσ H Q=>wF ps σ H λH'=>∀x:Str,x.length<=sizeLine->Q (.str x) H'
def Vv{X:Cx}(h:FParts X (e1::e2::es) ps)(hl:2000 * (e1::e2::es).length<=sizeLine:=by decide):PE X (.JoinedStr (e1::e2::es) pos) (YA ps):=
 λpins s σ H Q I q=>JoinedStr_many<|sf h H s Str.empty I (by rw[show Str.empty.length=0 from rfl,dD];exact hl) q
abbrev Cx.sU (X:Cx)(pn':bj)(xe':af->aC->Prop):Cx:={ X with xe:=xe',pn:=pn' }
abbrev xu:HO:=.ext λ_=>True
abbrev Cx.hand (X:Cx)(pn':bj)(e:ak)(oe:Obj):Cx:={ X with A:=X.A.mark<|some<|.ref e,calm:=false,xe:=λ_ _=>False,pn:=pn',H₀:=upd X.H₀ e<|.frz oe xu}
structure XO (C:ak)(o:Obj):Prop where
 cls:o.cls=.ref C
 dict:o.dict=none
 ctx:∃vs,o.data=.fields vs/\vs[2]?=some .none
structure Fr0 (X:Cx)(e:ak):Prop where
 no:∀o,X.s₀.heap.get? e≠some o
 tup:∀xs,X.H₀ e≠some (.tup xs)
 frz:∀o u,X.H₀ e≠some (.frz o u)
 tbl:∀ps,X.H₀ e≠some (.tbl ps)
section
variable {X:Cx}{pins:bj}{σ:L2.St}{H:Hp}{s':aC}{e:ak}{cls:af}
def HM(I:Inv X pins σ H s')(hst:X.stack=X.env::X.outer)(hf:X.env.frame=some X.env.locals)(R:uw X H e cls s'){Q:Unit->aC->Prop}{E:af->aC->Prop}
  (hQ:∀h' B a0,Heap.HeldW B (X.env::X.outer) e cls a0 X.env.locals h'->B.StaysIn s'.heap->s'.heap.UpToSlots h'->(∀a u,H a=some u->∃o,B.get? a=some o)->(∀b o,X.s₀.heap.get? b=some o->b∉X.fs->∃o',B.get? b=some o')->(∀p∈X.pn,∃o',B.get? p.1=some o')->C0 e h'->Q Unit.unit { s' with heap:=h' }) :
  wpAny (model X.prog X.w) X.A (noteFrame (.ref e) X.env) Q E s':=by
 have hfr:X.A.frames=some (X.env::X.outer):=by rw[<- hst];exact I.ok.frames
 have nl:∀b o,X.s₀.heap.get? b=some o->b∉X.fs->b∉frs (X.env::X.outer):=λb o q hb z=>by
  unfold frs at z;rw[dZ,hf]at z
  rcases bB.mp z with z|z
  ·rw[z]at q;exact absurd (bH (aV q) I.ok.above) (dG _)
  ·exact hb z
 rcases R with⟨g',vs,M,ffg,m1,m2,m3⟩|⟨B,a0,F,c1,c2,c3,k0⟩
 ·rw[hst]at ffg;have hin:∀env∈(X.env::X.outer),∀b,env.frame=some b->b∈frs (X.env::X.outer):=λenv he b hb=>fG.mpr ⟨env,he,hb⟩;have hl:=PySem.W.funFrames_hide ffg hin;obtain⟨t,he,htn,ht⟩:=M.there;have bn:(PySem.W.hideAll g'<|frs (X.env::X.outer)).get? e=none:=by
   cases hq:(PySem.W.hideAll g'<|frs (X.env::X.outer)).get? e with
   | none=>rfl
   | some o'=>have:=d_ _ hq;rw[M.new]at this;cases this
  have k1:(PySem.W.hideAll g'<|frs (X.env::X.outer)).StaysIn s'.heap:=λb o q=>M.keeps b o<|d_ _ q;have go:wpAny (model X.prog X.w) X.A (noteFrame (.ref e) X.env) (λ_ s''=>∃h',s''={ s' with heap:=h' }/\Heap.HeldW (PySem.W.hideAll g'<|frs (X.env::X.outer)) (X.env::X.outer) e cls (.ref t) X.env.locals h'/\s'.heap.UpToSlots h') (λ_ _=>False) s':=by
   unfold noteFrame;dsimp[hf];refine aH<|wpAny_field he rfl (x:=.none) rfl ?_;rw[aK ⋯];refine wpAny_entryW (base:=PySem.W.hideAll g'<|frs (X.env::X.outer)) (a0:=.ref t) hfr (hl.of_keeps λb o hb _=>⟨o,M.keeps b o hb,rfl⟩) hf he k1 bn rfl (by simp) rfl λh' hL=>?_;obtain⟨x1,x2,x3,x4⟩:=hL;exact⟨h',rfl,⟨x1,bn,x2,x3⟩,x4⟩
  refine cJ (jb.any (e:=e) (jb.note _ _) go<|GG M) (λ_ s'' z=>?_) λ_ _ z=>z.1.elim;obtain⟨⟨h',rfl,x1,x4⟩,k0⟩:=z;refine hQ h' _ _ x1 k1 x4 (λa u ea=>?_) (λb o q hb=>?_) (λp hp=>?_) k0
  ·obtain⟨o,q⟩:=m1 a u ea;refine⟨o,dj _ q λz=>?_⟩;rw[<- hst]at z;rw[I.vF a z]at ea;cases ea
  ·obtain⟨o',q'⟩:=m2 b o q;exact⟨o',dj _ q'<|nl b o q hb⟩
  ·obtain⟨o',q'⟩:=m3 p hp;obtain⟨q,_,n1,n2,_⟩:=I.pin p<|bR _ hp;refine⟨o',dj _ q' λz=>?_⟩;rw[<- hst]at z;exact(bB.mp<|I.uG _ z).elim n1 n2
 ·rw[hst]at F c2;refine cJ (jb.any (e:=e) (jb.note _ _) (wpAny_looks_onW (Q:=λ_ s''=>∃h',s''={ s' with heap:=h' }/\Heap.HeldW B (X.env::X.outer) e cls a0 X.env.locals h'/\s'.heap.UpToSlots h') (E:=λ_ _=>False) hfr hf F λh' x1 x4=>⟨h',rfl,x1,x4⟩) k0) (λ_ s'' z=>?_) λ_ _ z=>z.1.elim;obtain⟨⟨h',rfl,x1,x4⟩,k0'⟩:=z;exact hQ h' B a0 x1 F.1 x4 c1 (λb o q hb=>c2 b o q<|nl b o q hb) c3 k0'
end
section
variable {X:Cx}{pn' pins:bj}{xe':af->aC->Prop}{σ:L2.St}{H:Hp}{s':aC}{e C:ak}{B h6:aq}{a0:af}
def yR(I:Inv (X.sU pn' xe') pins σ H s')(hex:X.ex=[])(F:Heap.FlyingW B (X.env::X.outer) e (.ref C) a0 h6)(k1:B.StaysIn s'.heap)(up:s'.heap.UpToSlots h6)
  (c1:∀a u,H a=some u->∃o,B.get? a=some o) (c2:∀b o,X.s₀.heap.get? b=some o->b∉X.fs->∃o',B.get? b=some o') (c3:∀p∈pn',∃o',B.get? p.1=some o') (k0:C0 e h6) :
  Fr0 X e/\H e=none/\∃oe,XO C oe/\Inv (X.hand pn' e oe) [] σ (upd H e<|.frz oe xu) { s' with heap:=h6 }:=by
 obtain⟨un,hok⟩:=wk I hex k1 F.1 up c1 c2;have hn:H e=none:=by
  cases q:H e with
  | none=>rfl
  | some u=>obtain⟨o,z⟩:=c1 e u q;rw[F.2.1]at z;cases z
 obtain⟨o0,vs0,g1,g2,g3,g5⟩:=k0;have ns:∀o,X.s₀.heap.get? e≠some o:=λo q=>by
  by_cases hb:e∈X.fs
  ·obtain⟨_,o2,q2,d2⟩:=I.ok.qp.mem hb;have q2:X.s₀.heap.get? e=some o2:=q2;rw[q]at q2;cases q2;obtain⟨sl,z⟩:=un.slot e o q (I.ok.frf e hb) hb (by simp);rw[g1]at z;have z:o0=_:=aS z;rw[z]at g2;exact d2 _ g2
  ·obtain⟨o',z⟩:=c2 e o q hb;rw[F.2.1]at z;cases z
 have hs0:∀(b:ak) (ob:Obj),s'.heap.get? b=some ob->(∀vs,ob.data≠.fields vs)->b≠e:=λb ob q d z=>by
  obtain⟨sl,z'⟩:=up b ob q d;rw[z,g1]at z';have z':o0=_:=aS z';rw[z']at g2;exact d _ g2
 obtain⟨m,hm,hl⟩:=id I.loc;have hm':s'.heap.Ns X.env.locals m:=hm;have cel:∀c v,s'.heap.IsCell c v->h6.IsCell c v:=λc v h9=>by
  obtain⟨oc,q,d⟩:=h9;obtain⟨sl,z⟩:=up c oc q λvs y=>by rw[d]at y;cases y
  exact⟨_,z,d⟩
 have lne:X.env.locals≠e:=by
  obtain⟨oL,es,ep,q,d,_⟩:=id hm';exact hs0 _ oL q λvs y=>by rw[d]at y;cases y
 have xo:XO C o0:=by
  obtain⟨_,_,_,oe,vs,T,oT,ts,he,⟨hc,_⟩,hd,_⟩:=F;rw[g1]at he;have he:o0=oe:=aS he;subst he;exact⟨hc,g5,vs0,g2,g3⟩
 have no:∀u,H e≠some u:=λu q=>by rw[hn]at q;cases q
 have fr:Fr0 X e:=⟨ns,λxs q=>no _<|un.tups e xs q,λo u q=>no _<|un.frzs e o u q,λps q=>let⟨_,z⟩:=un.tbls e ps q;no _ z⟩;refine⟨fr,hn,o0,xo,⟨I.ok.mod,I.ok.kind,I.ok.glob,I.ok.blt,I.ok.above,I.ok.inj,I.ok.has,I.ok.cab,λh=>(by cases h),I.ok.frames,I.ok.stk,I.ok.exf,λb o q=>⟨(I.ok.bs b o q).1,?_⟩,I.ok.bsz,I.ok.noex,I.ok.exfs,I.ok.qp,λb hb=>?_⟩,I.os,I.bare,?_,⟨m,up.ns hm',λi x v h1 h2 h3=>?_⟩,λx c h=>?_,?_,λx c h=>?_,λp hp=>?_,λb u q=>?_,I.len⟩
 ·show upd X.H₀ e _ b=none;rw[iS λz=>ns o<|by rw[<- z];exact(I.ok.bs b o q).1];exact(I.ok.bs b o q).2
 ·show upd X.H₀ e _ b=none;obtain⟨_,o2,q2,d2⟩:=I.ok.qp.mem hb;rw[iS λz=>ns o2<|by rw[<- z];exact q2];exact I.ok.frf b hb
 ·have h0:∀b o,X.s₀.heap.get? b=some o->upd X.H₀ e (.frz o0 xu) b=none->X.H₀ b=none:=λb o q n=>by
   rwa [iS λz=>ns o<|by rw[<- z];exact q]at n
  refine⟨λb o q n h _=>un.keep b o q (h0 b o q n) h<|by simp,λb o q n h _=>un.slot b o q (h0 b o q n) h<|by simp,λb o q n _=>?_,λb o q _=>un.there b o q<|by simp,λb xs q=>?_,λb o u q=>?_,λb ps q=>?_⟩
  ·rw[iS λz=>ns o<|by rw[<- z];exact q];exact un.free b o q (h0 b o q n) (by simp)
  ·have q:upd X.H₀ e (.frz o0 xu) b=some (.tup xs):=q;by_cases hb:b=e
   ·rw[hb,ji]at q;cases q
   ·rw[iS hb]at q ⊢;exact un.tups b xs q
  ·have q:upd X.H₀ e (.frz o0 xu) b=some (.frz o u):=q;by_cases hb:b=e
   ·rw[hb,ji]at q ⊢;exact q
   ·rw[iS hb]at q ⊢;exact un.frzs b o u q
  ·have q:upd X.H₀ e (.frz o0 xu) b=some (.tbl ps):=q;by_cases hb:b=e
   ·rw[hb,ji]at q;cases q
   ·rw[iS hb]at q ⊢;exact un.tbls b ps q
 ·obtain⟨u,r,lk⟩:=hl i x v h1 h2 h3;refine⟨u,r,?_⟩
  rcases lk with⟨k,z⟩|⟨k,c,z,y⟩
  ·exact .inl ⟨k,z⟩
  ·exact .inr ⟨k,c,z,cel c _ y⟩
 ·obtain⟨v,z⟩:=I.cell x c h;exact⟨v,cel c v z⟩
 ·show upd H e _ X.env.locals=none;rw[iS lne];exact I.free
 ·obtain⟨v,oc,q,d⟩:=I.cell x c h;rw[iS<|hs0 c oc q λvs y=>by rw[d]at y;cases y];exact I.freeC x c h
 ·have hp:p∈pn':=by
   have hp:p∈pn'++[]:=hp
   rwa [bK]at hp
  obtain⟨q,n,n1,n2,d⟩:=I.pin p<|bR _ hp;obtain⟨o',z⟩:=c3 p hp;have z1:=k1 _ _ z;rw[q]at z1;have z1:p.2=o':=aS z1;refine⟨by rw[z1];exact F.1 _ _ z,?_,n1,n2,d⟩;rw[iS λy=>by rw[y,F.2.1]at z;cases z];exact n
 ·by_cases hb:b=e
  ·subst hb;rw[ji]at q;cases q;exact⟨g1,trivial,⟨o0,g1⟩,λ_ _ _ _=>trivial⟩
  ·rw[iS hb]at q;exact(hok b u q).stay (λ_ _ _ z=>z) (λc z=>by rw[iS<|i9 z hn];exact z) λc xs z=>by rw[iS<|i9 z hn];exact z
end
section
variable {X:Cx}{pins:bj}{σ:L2.St}{H:Hp}{s:aC}
def HA{A:aA}{E:af->aC->Prop}{i:Nat}{n:Str}{v:V}{Q:Unit->aC->Prop}(I:Inv X pins σ H s)(hN:X.N.Nodup)(hi:X.N[i]?=some n)(hlo:X.env.scope.names.lookup n=some .local)(hv:σ[i]?=some (some v))
  (h:∀s',Inv X pins (σ.set i none) H s'->Q Unit.unit s'):wpAny M A (unbindName X.env n) Q E s:=by
 obtain⟨m,hn,hl⟩:=id I.loc;obtain⟨u,r,lk⟩:=hl i n v hi hv<|.inl hlo;have hm:m n=some u:=by
  rcases lk with⟨_,z⟩|⟨k,_⟩
  ·exact z
  ·exfalso;have hk:X.env.kindOf n=some .local:=hlo
   rcases k with k|k<;>(rw[hk]at k;cases k)
 have hcl:(X.env.scope.kind == .class || (X.env.scope.kind == .module && X.env.locals != X.env.globals))=false:=by rw[I.ok.kind];rfl
 refine wpAny_unbindName_local hlo hn hm hcl λh' u' hn' hs=>?_;have far:∀b o,X.s₀.heap.get? b=some o->h'.get? b=s.heap.get? b:=λb o q=>hs.2 b<|bu<|bH (aV q) I.ok.above;obtain⟨oL,_,_,hoL,_⟩:=id hn;refine h _ ⟨I.ok,I.os,I.bare,⟨λb o q a1 a2 a3=>(far b o q).trans<|I.base.keep b o q a1 a2 a3,λb o q a1 a2 a3=>?_,I.base.free,λb o q a3=>?_,I.base.tups,I.base.frzs,I.base.tbls⟩,⟨_,hn',λj y v' e1 e2 e3=>?_⟩,λy c q=>?_,I.free,I.freeC,λp hp=>?_,λb ob q=>?_,by rw[bN];exact I.len⟩
 ·obtain⟨sl,z⟩:=I.base.slot b o q a1 a2 a3;exact⟨sl,(far b o q).trans z⟩
 ·obtain⟨o',z⟩:=I.base.there b o q a3;exact⟨o',(far b o q).trans z⟩
 ·by_cases hj:j=i
  ·subst hj;have:j<σ.length:=(aI.mp hv).1;rw[bI this]at e2
   cases e2
  ·rw[bP<|cN hj]at e2;obtain⟨w,r',q⟩:=hl j y v' e1 e2 e3;refine⟨w,r',?_⟩
   rcases q with⟨k,z⟩|⟨k,c,z,y'⟩
   ·have:y≠n:=λz=>hj<|wV hN e1<|z ▸ hi;exact .inl ⟨k,by simp[this,z]⟩
   ·exact .inr ⟨k,c,z,y'.sameBut hs<|I.NR y c z⟩
 ·obtain⟨w,z⟩:=I.cell y c q;exact⟨w,z.sameBut hs<|I.NR y c q⟩
 ·obtain⟨z,n0,ne,nf,d⟩:=I.pin p hp;exact⟨(hs.2 p.1 ne).trans z,n0,ne,nf,d⟩
 ·refine(I.hok b ob q).stay (λc w hc z=>(hs.2 c ?_).trans z) (λ_ z=>z) λ_ _ z=>z;intro y
  rcases hc with hc|hc
  ·rw[<- hc,y,I.free]at q;cases q
  ·rw[y,I.free]at hc;cases hc
def Inv.sU(I:Inv X pins σ H s)(xe':af->aC->Prop):Inv (X.sU (X.pn++pins) xe') [] σ H s:=
 ⟨⟨I.ok.mod,I.ok.kind,I.ok.glob,I.ok.blt,I.ok.above,I.ok.inj,I.ok.has,I.ok.cab,I.ok.hd,I.ok.frames,I.ok.stk,I.ok.exf,I.ok.bs,I.ok.bsz,I.ok.noex,I.ok.exfs,I.ok.qp,I.ok.frf⟩,I.os,I.bare,I.base,I.loc,I.cell,I.free,I.freeC,λp hp=>I.pin p (by
  have hp:p∈(X.pn++pins)++[]:=hp
  rwa [bK]at hp),I.hok,I.len⟩
def Inv.F8{xe':af->aC->Prop}(I:Inv (X.sU (X.pn++pins) xe') pins' σ H s):Inv X pins σ H s:=
 ⟨⟨I.ok.mod,I.ok.kind,I.ok.glob,I.ok.blt,I.ok.above,I.ok.inj,I.ok.has,I.ok.cab,I.ok.hd,I.ok.frames,I.ok.stk,I.ok.exf,I.ok.bs,I.ok.bsz,I.ok.noex,I.ok.exfs,I.ok.qp,I.ok.frf⟩,I.os,I.bare,I.base,I.loc,I.cell,I.free,I.freeC,λp hp=>I.pin p<|bR _ hp,I.hok,I.len⟩
def Inv.Sv{e:ak}(I:Inv (X.hand (X.pn++pins) e oe) pins' σ H s)(ok:X.Ok)(f0:Fr0 X e):Inv X pins σ H s:=
 have h0:∀b o,X.s₀.heap.get? b=some o->X.H₀ b=none->upd X.H₀ e (.frz oe xu) b=none:=λb o q n=>by
  rw[iS λz=>f0.no o<|by rw[<- z];exact q];exact n
 ⟨ok,I.os,I.bare,⟨λb o q n=>I.base.keep b o q<|h0 b o q n,λb o q n=>I.base.slot b o q<|h0 b o q n,λb o q n=>I.base.free b o q<|h0 b o q n,I.base.there,λb xs q=>I.base.tups b xs<|show upd X.H₀ e (.frz oe xu) b=_ by rw[iS λz=>f0.tup xs<|by rw[<- z];exact q];exact q,λb o u q=>I.base.frzs b o u<|show upd X.H₀ e (.frz oe xu) b=_ by rw[iS λz=>f0.frz o u<|by rw[<- z];exact q];exact q,λb ps q=>I.base.tbls b ps<|show upd X.H₀ e (.frz oe xu) b=_ by rw[iS λz=>f0.tbl ps<|by rw[<- z];exact q];exact q⟩,I.loc,I.cell,I.free,I.freeC,λp hp=>I.pin p<|bR _ hp,I.hok,I.len⟩
end
section
variable {M:Model}{A:aA}{E:af->aC->Prop}{h:aq}{g:Array GenState}{d:Drawn}{t:Nat}{os:OsState}{C N D N':ak}{nm q nm' q':Str}{bs bm bs' bm':ap}{hdct hdct':Bool}{sn sn':am}{sub sub':ap}{ab ab':Bool}{col col':bd}{dd dd':Option ak}{k0 k1 k2 k3 k5 k0' k1' k2' k3' k5':ba}{newId newId':String}
def yz{e:ak}{oe:Obj}{Q:Bool->aC->Prop}(hC:h.get? C=some (excClassObj nm q C N bs bm hdct sn sub ab col dd k0 k1 k2 k3 k5 newId))(hD:h.get? D=some (excClassObj nm' q' D N' bs' bm' hdct' sn' sub' ab' col' dd' k0' k1' k2' k3' k5' newId'))
  (he:h.get? e=some oe) (hcls:oe.cls=.ref C) (hbase:bm'.contains (.type "BaseException")=true) (hq:Q ((Value.ref C::bm).contains<|.ref D) ⟨h,g,d,t,os⟩):wpAny M A (excMatches (.ref e)<|.ref D) Q E ⟨h,g,d,t,os⟩:=by
 have hcB:(Value.ref D::bm').contains (.type "BaseException")=true:=by rw[List.contains_cons,hbase,Bool.or_true]
 have f:=tc_notTuple;unfold excMatches
 repeat (first|(with_reducible refine wpAny_loadPart_at he ?_;rw[hcls])|with_reducible refine wpAny_loadPart_at hD ?_|(with_reducible refine wpAny_isSubtype_exc hD ?_;rw[hcB])|with_reducible refine wpAny_isSubtype_exc hC ?_|wp_step)
 cases hb:(Value.ref C::bm).contains (.ref D)<;>(rw[hb]at hq;wp_walk;exact hq)
end
abbrev mroIn (K:au)(C:ak):Option (ap):=match K.lookup C with
 | some ⟨.type "type",_,.cls cd,sl⟩=>(match cd.mro,sl.toList with
  | .ref C'::bm,[_,_,_,_,some<|.builtin _,_]=>if C'=C/\cd.hasDel=false then some bm else none
  | _,_=>none)
 | _=>none
structure ClsAt (h:aq)(C:ak)(bm:ap):Prop where
 ex:∃nm q N bs hdct sn sub ab col dd k0 k1 k2 k3 k5 newId,h.get? C=some (excClassObj nm q C N bs bm hdct sn sub ab col dd k0 k1 k2 k3 k5 newId)
def Le{K:au}(X:K.In h)(e:mroIn K C=some bm):ClsAt h C bm:=by
 unfold mroIn at e;split at e
 ·rename_i dd cd sl ho;split at e
  ·rename_i C' bm' k0 k1 k2 k3 n k5 hm hs;split at e
   ·rename_i hc
    cases e
    obtain⟨rfl,hdel⟩:=hc;obtain⟨nm,bs,mro,ns,qn,hd,sn,sub,ab,col,del⟩:=cd;dsimp only at hm hdel;subst hm hdel;have hsl:sl=#[k0,k1,k2,k3,some<|.builtin n,k5]:=by
     obtain⟨l⟩:=sl;simp only at hs;rw[hs]
    subst hsl;exact⟨nm,qn,ns,bs,hd,sn,sub,ab,col,dd,k0,k1,k2,k3,k5,n,X _ _ ho⟩
   ·cases e
  ·cases e
 ·cases e
abbrev WN (i:Nat)(D:Ends):Ends:=⟨λσ H=>D.nx (σ.set i none) H,D.rt,λσ H=>D.bk (σ.set i none) H,λσ H=>D.ct (σ.set i none) H⟩
section
variable {X:Cx}{pins pins':bj}{xe':af->aC->Prop}{σ:L2.St}{H:Hp}{s':aC}{e C Dc:ak}{bm bmD:ap}{x n:Str}{i:Nat}{De:Ends}{b0:aF}{suite:List aF}{np hp:Pos}
def Br{f:Flow}(hN:X.N.Nodup)(hi:X.N[i]?=some n)(hlo:X.env.scope.names.lookup n=some .local)(ok:X.Ok)(f0:Fr0 X e)(h:SP (X.hand (X.pn++pins) e oe) [] (WN i De) f s2) :
  wpAny (model X.prog X.w) X.A (do bindName X.env n .none;unbindBehindTheSuite X.env n pos) (λ_ s3=>SP X pins De f s3) X.xe s2:=by
 have hl:∀{σ':L2.St} {H':Hp},Inv (X.hand (X.pn++pins) e oe) [] σ' H' s2->(∀s3,Inv X pins (σ'.set i none) H' s3->SP X pins De f s3)->wpAny (model X.prog X.w) X.A (do bindName X.env n .none;unbindBehindTheSuite X.env n pos) (λ_ s3=>SP X pins De f s3) X.xe s2:=λ{σ' H'} J k=>by
  have J:=J.Sv ok f0;have hiσ:i<σ'.length:=by rw[J.len];exact(aI.mp hi).1
  refine aH<|wpAny_bindName<|q_ (v:=.non) J hN hi (.inl hlo) rfl (λs3 J3=>?_)<|.inr hlo;unfold unbindBehindTheSuite;refine wpAny_onRaise (HA (v:=.non) J3 hN hi hlo (bI hiσ) λs4 J4=>k s4 ?_)
  rwa [List.set_set]at J4
 cases f with
 | next=>obtain⟨σ',H',J,q⟩:=h;exact hl J λs3 J3=>⟨_,_,J3,q⟩
 | brk=>obtain⟨σ',H',J,q⟩:=h;exact hl J λs3 J3=>⟨_,_,J3,q⟩
 | cont=>obtain⟨σ',H',J,q⟩:=h;exact hl J λs3 J3=>⟨_,_,J3,q⟩
 | ret u=>obtain⟨v,σ',H',J,r,q⟩:=h;exact hl J λs3 J3=>⟨v,_,_,J3,r,q⟩
def JX(hst:X.stack=X.env::X.outer)(hf:X.env.frame=some X.env.locals)(hex:X.ex=[])(hN:X.N.Nodup)(hi:X.N[i]?=some n)(hlo:X.env.scope.names.lookup n=some .local)(hg:Gl X x)(hm:X.mg x=some (.ref Dc))(mD:mroIn X.K Dc=some bmD)(hbD:bmD.contains (.type "BaseException")=true)
  (I:Inv (X.sU (X.pn++pins) xe') pins' σ H s') (R:uw (X.sU (X.pn++pins) xe') H e (.ref C) s') (mC:mroIn X.K C=some bm) (hCD:(Value.ref C::bm).contains (.ref Dc)=true)
  (k:∀oe s6,XO C oe->H e=none->Inv (X.hand (X.pn++pins) e oe) [] (σ.set i<|some<|.ref e) (upd H e<|.frz oe xu) s6->wpAny (model X.prog X.w) (X.A.mark<|some<|.ref e) (execs (b0::suite) X.env) (SP (X.hand (X.pn++pins) e oe) []<|WN i De) (λ_ _=>False) s6)
  (ok:X.Ok) (hdb:(x == ("__debug__" : Str))=false) :
  wpAny (model X.prog X.w) X.A (noteFrame (.ref e) X.env) (λ_ s2=>wpAny (model X.prog X.w) X.A (setFlight (.ref e) none) (λ_ s3=>wpAny (model X.prog X.w) X.A (handleBy (.ref e) X.env [.ExceptHandler (some<|.Name x np) (some n) (b0::suite) hp]) (SP X pins De) X.xe s3) X.xe s2) X.xe s':=by
 refine HM I hst hf R λh4 B a0 held k1 up4 c1 c2 c3 z4=>?_;refine cJ (jb.any (e:=e) (jb.flight _ _) (wpAny_landsW (Q:=λ_ s''=>∃h',s''={ s' with heap:=h' }/\Heap.FlyingW B (X.env::X.outer) e (.ref C) a0 h'/\h4.UpToSlots h') (E:=λ_ _=>False) held λh' y1 y2=>⟨h',rfl,y1,y2⟩) z4) (λ_ s'' z=>?_) λ_ _ z=>z.1.elim;obtain⟨⟨h5,rfl,F5,up5⟩,z5⟩:=z;obtain⟨_,_,o5,x5,I5⟩:=yR I hex F5 k1 (up4.trans up5) c1 c2 c3 z5;refine wpAny_handleBy_cons (codeAny_handlers_test<|rQ (X:=X.hand (X.pn++pins) e o5) I5 hg hm ?_ hdb) (by intro q;cases q);obtain⟨g1,_⟩:=I5.hok e _ ji;obtain⟨_,_,_,_,_,_,_,_,_,_,_,_,_,_,_,_,hC⟩:=(Le I5.uZ mC).ex;obtain⟨_,_,_,_,_,_,_,_,_,_,_,_,_,_,_,_,hD⟩:=(Le I5.uZ mD).ex;refine yz hC hD g1 x5.cls hbD ?_;rw[hCD];refine codeAny_handlers_suite_as ?_;refine cJ (jb.any (e:=e) (jb.flight _ _) (lands_againW (Q:=λ_ s''=>∃h',s''={ s' with heap:=h' }/\Heap.FlyingW B (X.env::X.outer) e (.ref C) a0 h'/\h5.UpToSlots h') (E:=λ_ _=>False) F5 λh' y1 y2=>⟨h',rfl,y1,y2⟩) z5) (λ_ s'' z=>?_) λ_ _ z=>z.1.elim;obtain⟨⟨h6,rfl,F6,up6⟩,z6⟩:=z;obtain⟨f0,n6,o6,x6,I6⟩:=yR I hex F6 k1 ((up4.trans up5).trans up6) c1 c2 c3 z6;refine q_ (X:=X.hand (X.pn++pins) e o6) (v:=.ref e) I6 hN hi (.inl hlo) rfl (λs7 I7=>?_)<|.inr hlo;exact cJ (k o6 s7 x6 n6 I7) (λf s8 h8=>Br hN hi hlo ok f0 h8) λ_ _ z=>z.elim
end
open PySem.W in
structure XCls (K:au)(C:ak):Prop where
 ga:findIn K (.ref C) "__getattribute__" = some (some<|.builtin "BaseException.__getattribute__")
 gt:findIn K (.ref C) "__getattr__" = some none
 fc:findObj K C none "__class__" = some (.bind (.builtin "getset_descriptor.__get__")<|.builtin "object.__class__")
 ob:PySem.W.mroIn K C (.type "object")=some true
 bs:subIn K (.ref C) (.type "BaseException")=some true
section
open PySem.W
variable {K:au}{C a:ak}{ox:Obj}{prog:aj}{w:ah}{A:aA}{E:af->aC->Prop}{h:aq}{g:Array GenState}{d:Drawn}{t:Nat}{os:OsState}
def Ja{Q:Fin->aC->Prop}(x:XCls K C)(X:K.In h)(I:PySem.W.InstAt h a ox C none)(hq:Q (.done<|.ret<|.ref C) ⟨h,g,d,t,os⟩) :
  wpAny (model prog w) A (Builtin.«object.__getattribute__» ⟨[.ref a,.str "__class__" tk],[]⟩) Q E ⟨h,g,d,t,os⟩:=by
 have L0:=I.type (M:=model prog w);have L1:=looks_find (M:=model prog w) X I x.fc;unfold Builtin.«object.__getattribute__»
 repeat (first|with_reducible refine aH (gO ?_)|with_reducible refine gO ?_|lk)
 refine class_get X I x.ob ?_
 repeat lk
 exact hq
def MN{Q:Unit->aC->Prop}(x:XCls K C)(X:K.In h)(I:PySem.W.InstAt h a ox C none)(hq:Q Unit.unit ⟨h,g,d,t,os⟩):wpAny M A (checkBuiltinCall "BaseException.__getattribute__" ⟨[.ref a,nv],[]⟩) Q E ⟨h,g,d,t,os⟩:=by
 have hk:builtinKind "BaseException.__getattribute__" = some .slot:=by decide +kernel
 have hs:splitId "BaseException.__getattribute__" = some ("BaseException", "__getattribute__"):=by decide +kernel
 have LI:Looks M h (isInstance (.ref a)<|.type "BaseException") true:=(I.type (M:=M)).andThen<|looks_subIn X x.bs;have hA:=F.args_bexc_ga (.ref a) nv;dsimp[checkBuiltinCall,hk,hs];refine aH<|LI.at ?_;show wpAny M A (match Manifest.signature? "BaseException.__getattribute__" with
  | some sig=>Bind.checkArgs "BaseException.__getattribute__" sig { pos:=[Value.ref a,nv]}
  | x=>pure Unit.unit) Q E _
 cases hsig:Manifest.signature? "BaseException.__getattribute__" with
 | none=>exact aT hq
 | some sig=>
  dsimp[argsOk,hsig]at hA;have h2:Bind.checkArgs "BaseException.__getattribute__" sig ⟨[.ref a,nv],[]⟩=pure Unit.unit:=hA;show wpAny M A (Bind.checkArgs "BaseException.__getattribute__" sig ⟨[.ref a,nv],[]⟩) Q E _;rw[h2];exact aT hq
def OO(self:af):bindSpecial (.builtin "BaseException.__getattribute__") self=pure (.builtin "BaseException.__getattribute__",[self]):=by
 have h1:withoutEnding? "BaseException.__getattribute__" "#opaque" = none:=by decide +kernel
 have h2:withoutEnding? "BaseException.__getattribute__" "#data" = none:=by decide +kernel
 have hk:builtinKind "BaseException.__getattribute__" = some .slot:=by decide +kernel
 dsimp[bindSpecial,typeOf,builtinType,h1,h2,hk];rfl
def U9{Q:af->aC->Prop}(x:XCls K C)(X:K.In h)(I:PySem.W.InstAt h a ox C none)(hq:Q (.ref C) ⟨h,g,d,t,os⟩):wpAny (model prog w) A (getAttrBy (.ref a) (.str "__class__" tk) false) Q E ⟨h,g,d,t,os⟩:=by
 have L0:=I.type (M:=model prog w);have L1:=looks_findIn (M:=model prog w) X x.ga;have L2:=looks_findIn (M:=model prog w) X x.gt;unfold getAttrBy;refine cG<|aH<|L0.at<|aH<|L1.at ?_;show wpAny _ _ (if (onTheHeap (Value.ref C) && Value.builtin "BaseException.__getattribute__" == Value.builtin "object.__getattribute__")=true then _ else getAttrByItsOwn (.ref a) (.str "__class__" tk) (.ref C) (.builtin "BaseException.__getattribute__") false false) _ _ _;have ne:(Value.builtin "BaseException.__getattribute__" == Value.builtin "object.__getattribute__")=false:=by decide +kernel
 rw[ne,Bool.and_false,aK bG];unfold getAttrByItsOwn hookBefore;rw[aJ<|show onTheHeap (Value.ref C)=true from rfl];refine aH<|L2.at<|aH<|ig<|cG ?_;unfold callGetattribute boundAndCalled
 skip
 rw[OO,pure_bind];refine gO<|codeAny_call_builtin ∅ F.entry_bexc_ga (MN x X I<|Ja x X I ?_);exact aT hq
def LA{Q:ba->aC->Prop}(x:XCls K C)(X:K.In h)(I:PySem.W.InstAt h a ox C none)(hq:Q (some<|.ref C) ⟨h,g,d,t+1,os⟩):wpAny (model prog w) A (getAttr? (.ref a) "__class__") Q E ⟨h,g,d,t,os⟩:=by
 unfold getAttr? getAttrBy?;refine aH<|wpAny_mkText<|aH<|ig<|U9 x X I ?_;exact aT hq
abbrev YE (C a:ak):aq->Prop:=λh=>∃ox,PySem.W.InstAt h a ox C none
def MP(x:XCls K C)(hc:(clsIn K C).isSome=true):KitX K (.ref a) (.ref C) (YE C a) where
 ty:=λ_ _ _ ⟨_,I⟩=>I.type
 it:=λ_ _ X _=>by
  unfold clsIn at hc;split at hc
  ·rename_i ho;intro A' Q' E' s' k q;unfold isType loadHead;exact aH (wpAny_loadPart (k _ _<|X _ _ ho)<|aT q)
  ·cases hc
 ne:=λh tp dd its n sl X htp=>by
  refine Bool.eq_false_iff.mpr λq=>?_;have e:C=tp:=Value.ref.inj<|gX.mp q;subst e;unfold clsIn at hc;split at hc
  ·rename_i ho;have z:=(X _ _ ho).symm.trans htp
   cases z
  ·cases hc
 ca:=λ{_ _ _ _ _ s} X ⟨_,I⟩ k=>by
  obtain⟨hh,gg,dd,tt,oo⟩:=s;exact LA x X I k
end
section
variable {X:Cx}{C:ak}{pins:bj}{σ:L2.St}{H:Hp}{s:aC}
def Dy{A:aA}{E:af->aC->Prop}{Q:af->aC->Prop}{a:ak}{c:af}(x:XCls X.K C)(hc:(PySem.W.clsIn X.K C).isSome=true)(I:Inv X pins σ H s)(ha:H a=some (.frz oe xu))(hx:XO C oe)(e:PySem.W.kitOne X.K (.ref C) c=some b)(h:∀tk,Q (.bool b) { s with toks:=tk }) :
  wpAny (model X.prog X.w) A (call (.builtin "isinstance") [.ref a,c]) Q E s:=by
 obtain⟨g1,_⟩:=I.hok a _ ha;obtain⟨g2,g5,vs,g3,g4⟩:=hx;refine cu (MP x hc) I.uZ ⟨oe,g1,g2,?_,?_⟩ e (λz=>nomatch z) h
 ·unfold PySem.W.notCls;rw[g3]
 ·rw[g5];trivial
end
end L2
namespace L2
open PySem PySem.Spec PyProof.Rows
def yq:entryFor table "proto.unchain" = some Builtin.«proto.unchain»:=entryFor_of_fast<|by kernel_rfl
section
variable {prog:aj}{w:ah}{A:aA}{E:af->aC->Prop}{s:aC}{e n:ak}{oe on:Obj}{vs ns:Array af}
def Dp{α:Type}{Q:α->aC->Prop}(hh:A.handled=some (.ref e))(he:s.heap.get? e=some oe)(hd:oe.data=.fields vs)(h2:vs[2]?=some .none)(hn:s.heap.get? n=some on)(nd:on.data=.fields ns)(n2:2<ns.size)(ne:e≠n)
  (h:E (.ref n) { s with heap:=s.heap.update n<|Obj.mapFields (·.setIfInBounds 2 (.ref e))}):wpAny (model prog w) A (raiseNew (.ref n):Sem α) Q E s:=by
 unfold raiseNew;refine aH<|wpAny_handled ?_;rw[hh];show wpAny _ _ (if (Value.ref e != Value.ref n)=true then _ else _) _ _ _;rw[aJ<|by simp[ne]];refine aH<|cG<|wpAny_runValue<|fF yq ?_;unfold Builtin.«proto.unchain»;refine aH<|wpAny_field he hd h2 ?_;rw[aJ<|show(Value.none == Value.none)=true from rfl];refine aT ?_
 skip
 exact aH<|wpAny_setField hn nd n2<|wpAny_throw h
def DG{i:Nat}{Q:ba->aC->Prop}(hh:A.handled=some (.ref e))(he:s.heap.get? e=some oe)(hd:oe.data=.fields vs)(h2:vs[2]?=some .none)(nit:e≠it)
  (hit:s.heap.IsListIter it l i) (hl:s.heap.IsList l items) (hx:items[i]?=none) (hQ:∀h',Heap.ExtBut it s.heap h'->Q none { s with heap:=h' }):wpAny (model prog w) A (pyNext<|.ref it) Q E s:=by
 obtain⟨o,ho,hc,ho2⟩:=id hit;obtain⟨ol,hol,_,nl,hdl⟩:=hl;unfold pyNext;refine aH<|ig<|wpAny_callSpecial?_slot (name:=Str.ofString "__next__") hit.typeIs slot_listiter_next<|fh slot_listiter_next hit.typeIs entry_listiter_next ?_<|args_listiter_next _;show wpAny _ _ (field (.ref it) 0 >>= _) _ _ _;refine aH (wpAny_field ho ho2 (x:=.ref l) rfl ?_)
 skip
 rw[aK<|show ¬((Value.ref l == Value.none)=true)from bG]
 skip
 refine aH (wpAny_field ho ho2 (x:=.int i 0) rfl ?_)
 skip
 refine aH<|gW hol hdl ?_;dsimp[fS,hx];refine aH (dJ<|aH<|wpAny_setField ho ho2 (by simp) ?_)
 skip
 refine aH ?_;dsimp[newExc,newTuple];refine aH (dc ?_<|by size_fits);refine aH (m:=firstArgMember _ _) (wpAny_of_eq (a:=Value.none) (by first|rfl|(dsimp[firstArgMember];rfl)) ?_);refine dc ?_ (by size_fits);have he1:∀(f:Obj->Obj),(s.heap.update it f).get? e=some oe:=λf=>by rw[dB _ _<|cN nit];exact he
 have hlt:∀(f:Obj->Obj) (o1:Obj),e≠((s.heap.update it f).push o1).objs.size:=λf o1=>bu<|aV<|aP _<|he1 f;refine Dp (A:=A.in1) hh (aP _<|aP _<|he1 _) hd h2 (bD _ rfl) rfl (by simp[ownMembersOf]) (hlt _ _) ?_;refine aH<|gr (T := "StopIteration") (b:=true) ⟨_,gf _ (bD _ rfl)<|Obj.isFreed_of_fields<|Obj.data_mapFields rfl _,Obj.cls_mapFields ..⟩ isSubtype_stop ?_;refine aT<|hQ _ λb o' hb q=>?_;have q2:=((Heap.SameBut.update it (Obj.mapFields λx=>x.setIfInBounds 0 Value.none) (h:=s.heap)).extBut.push { cls:=Value.type "tuple",data:=Data.seq #[]}) b o' hb q;rw[dB _ _<|cN<|bu<|aV q2];exact aP _ q2
end
abbrev DT (A:aA):aA:={ A with handled:=none }
abbrev yT (k:Nat)(A:aA):Prop:=Room k<|DT A
def zg{k:Nat}{A:aA}(r:Room j A)(hk:k<=j):yT k (A.mark h):=⟨rfl,(r.mono hk).dp,(r.mono hk).un⟩
structure Hnd (A:aA)(H:Hp)(e:ak)(oe:Obj)(C:ak):Prop where
 hh:A.handled=some (.ref e)
 h0:H e=some (.frz oe xu)
 xo:XO C oe
structure FnOkH (P:aj)(w:ah)(K:au)(mg:Str->ba)(base:aq)(k:Nat)(f:ak)(fd:FuncData)(ps:am)(sp:Sp):Prop where
 len:∀vs H Q E,sp vs H Q E->vs.length=ps.length
 run:∀(A:aA) (outer:List Env) (s:aC) (H:Hp) (args:Args) (us:ap) (vs:List V) (Q:VK) (e:ak) (oe:Obj) (C:ak),yT k A->Hnd A H e oe C->Env0 P w K mg base A outer s H->BindsTo s fd args (ps.zip us)->Vals vs us->sp vs H Q E0 ->
  codeAny (model P w) A (.call (.ref f) args) (CR sq outer P w H s Q E0) s
abbrev Wx (P:aj)(w:ah)(K:au)(mg:Str->ba)(base:aq)(N:am)(qual:Str)(scope:Scope)(f:ak)(cd:af)(A:aA)(outer:List Env)(s:aC)(H:Hp):Cx:=
 { s_ sq P w K mg base N qual scope f cd A outer s H E0 with calm:=false,xe:=λ_ _=>False }
def D0{P:aj}{w:ah}{K:au}{mg:Str->ba}{base:aq}{N:am}{f:ak}{A:aA}{outer:List Env}{H H':Hp}
  (I:Inv (s_ sq P w K mg base N qual scope f cd (DT A) outer s H E0) pins σ H' s1):Inv (Wx P w K mg base N qual scope f cd A outer s H) pins σ H' s1:=
 ⟨⟨I.ok.mod,I.ok.kind,I.ok.glob,I.ok.blt,I.ok.above,I.ok.inj,I.ok.has,I.ok.cab,λh=>(by cases h),I.ok.frames,I.ok.stk,I.ok.exf,I.ok.bs,I.ok.bsz,I.ok.noex,I.ok.exfs,I.ok.qp,I.ok.frf⟩,I.os,I.bare,I.base,I.loc,I.cell,I.free,I.freeC,I.pin,I.hok,I.len⟩
def Tw{P:aj}{w:ah}{K:au}{mg:Str->ba}{base:aq}{k:Nat}{x:Str}{st:aF}{f:ak}{N ps:am}{sp:Sp}(F:Fun K x qual st f fd)(S:FnScope N ps<|iT st)(len:∀vs H Q E,sp vs H Q E->vs.length=ps.length)
  (hb:∀(cdv:af) (A:aA) (outer:List Env) (s:aC) (H:Hp) (vs:List V) (Q:VK) (e:ak) (oe:Obj) (C:ak),yT k (A.deeper<|envOfC qual (iT st) s.heap.objs.size f cdv)->Hnd A H e oe C->sp vs H Q E0 ->
   ∃t,yw (Wx P w K mg base N qual (iT st) f cdv A outer s H) (lJ st) t/\t { nx:=λ_ H'=>Q .non H',rt:=Q } (start N vs) H):FnOkH P w K mg base (k+1) f fd ps sp:=by
 o_rec;refine⟨len,λA outer s H args us vs Q e oe C hr hx e0 hbd r hsp=>?_⟩;have hl:=len _ _ _ _ hsp;have KX:K.In s.heap:=e0.mod.kin.keeps λb o z=>(e0.bs b o z).1;have lim:s.heap.NoLimit:=e0.mod.nolimit.keeps λb o z=>(e0.bs b o z).1;have kinds:∀y∈ps.zip us,(iT st).names.lookup y.1=some .local\/((iT st).names.lookup y.1=some .cell/\((cellsFrom (s.heap.objs.size+1) (iT st).names []).lookup y.1).isSome=true):=λy hy=>
  (S.par y.1 (gH hy).1).imp (λq=>q) λq=>⟨q,fO _ _ _<|.inl q⟩
 refine codeAny_call_function (show A.depth<_ from hr.depth) (KX _ _ lk) rfl S.co S.gen rfl (PySem.W.codeRec_of KX hcd)<|hbd _ _ _ _ ?_;refine wpAny_newFunctionEnv_cells S.kind kinds λenv he s1 xc=>?_;subst he;refine⟨lim.keeps xc.toInCall.keep,codeAny_func ?_⟩;obtain⟨t,ht,hq⟩:=hb cdv A outer s H vs Q e oe C (Room.deeper hr _) hx hsp;have e1:Env0 P w K mg base (DT A) outer s H:=⟨e0.frames,e0.mod,e0.bs,e0.bsz,e0.qp,e0.frf,e0.hok,e0.bare⟩;have I:=D0<|zm (CX:=sq) (E:=E0) (qual:=qual) (f:=f) (cd:=cdv) S hr.hd e1 hl r xc;refine cJ (ht [] s1 (start N vs) H _ I hq) (λfl s' hs=>?_) λ_ _ z=>z.elim;have fin:∀{σ':L2.St} {H':Hp} {v:V} {u:af},Inv (Wx P w K mg base N qual (iT st) f cdv A outer s H) [] σ' H' s'->RelV v u->Q v H'->CE outer P w H s Q u s':=λ{σ' H' v u} J rv q=>⟨v,H',J.os,J.bare,J.base,J.hok,rv,q⟩
 cases fl with
 | ret u=>obtain⟨v,σ',H',J,rv,q⟩:=hs;exact fin J rv q
 | next=>obtain⟨σ',H',J,q⟩:=hs;exact fin (v:=V.non) (u:=Value.none) J rfl q
 | brk=>obtain⟨_,_,_,q⟩:=hs;exact q.elim
 | cont=>obtain⟨_,_,_,q⟩:=hs;exact q.elim
abbrev XW (P:aj)(w:ah)(K:au)(mg:Str->ba)(base:aq)(k:Nat)(x:Str)(ps:am)(sp:Sp):Prop:=
 ∃(f:ak) (fd:FuncData),FnOkH P w K mg base k f fd ps sp/\mg x=some (.ref f)/\PySem.W.keepIn K (.ref f)=true/\Binds K fd ps []
def Tn{X:Cx}{k:Nat}{x:Str}{sp:Sp}{a:aE}{t:TA}{p:Pos}{e:ak}(G:XW X.prog X.w X.K X.mg X.base k x ps sp)(hr:yT k X.A)(hh:X.A.handled=some (.ref e))(h0:X.H₀ e=some (.frz oe xu))(xo:XO C oe)(ha:PA X (a::es) t)(hg:Gl X x:=by rfl)
  (hdb:(x == ("__debug__" : Str))=false:=by decide) (hs:starEach (a::es) X.env=(false,eval a X.env)::starEach es X.env:=by rfl) (hplain:(backTo pos<|starEach es X.env).any (·.1)=false:=by rfl) :
  PE X (.Call (.Name x p) (a::es) [] pos) (LC sp [] E0 t):=by
 obtain⟨f,fd,F,hm,hk,hb⟩:=G;kd_p;refine eg<|rQ I hg hm ?_ hdb;refine gP (h₀:=X.base) I.ok.mod.kin hk (j3 (ha pos pins s σ H _ I h) λus s1 ⟨vs,H1,I1,r,q⟩=>⟨I1.uZ,?_⟩) hs hplain;have q:sp (vs++[]) H1 Q E0:=q;rw[bK]at q;have hl:us.length=ps.length:=by rw[<- r.length];exact F.len _ _ _ _ q
 refine gO (e_ (F.run X.A X.stack s1 H1 ⟨us,[]⟩ us vs Q e oe C hr ⟨hh,I1.base.frzs e oe xu h0,xo⟩ I1.SW (by have:=hb s1 us I1.uZ (by rw[bK];exact hl);rwa [bK]at this) r q) λr s' hq=>?_)
 cases r with
 | error e=>exact hq.elim
 | ok fl=>
  cases fl with
  | ret u=>exact I1.after hq
  | next=>exact hq.elim
  | brk=>exact hq.elim
  | cont=>exact hq.elim
abbrev TV (K:au)(a:ak):It:=
 ⟨λi H=>∃xs x,mP K H a xs/\xs[i]?=some x,λi H x H'=>∃T,H T=none/\x=.ref T/\∀xs y,mP K H a xs->xs[i]?=some y->H'=upd H T (.tup [.int i,y]),λi H=>∃xs,mP K H a xs/\xs.length=i⟩
def Di{P:aj}{w:ah}{K:au}(a e it:ak)(hei:e≠it):Turn P w K (.Tuple elts x1 tpos) (TV K a) [e,it] e (λi h=>(∃old,IsEnum h e it i old)/\h.IsListIter it a i) where
 mem:=by simp
 obj:=λi h st b hb=>by
  obtain⟨⟨old,st1⟩,st2⟩:=st;have hb':b=e\/b=it:=by simpa using hb
  rcases hb' with rfl|rfl
  ·exact⟨_,st1,λv z=>by cases z⟩
  ·obtain⟨o,e,c,d⟩:=st2;exact⟨o,e,λv z=>by rw[d]at z;cases z⟩
 keep:=λi h h' st k=>by
  obtain⟨⟨old,st1⟩,st2⟩:=st;exact⟨⟨old,k e (by simp) _ st1⟩,st2.at λo ho=>k it (by simp) o ho⟩
 item:=by
  w_up;subst hP hw hK;obtain⟨⟨old,st1⟩,st2⟩:=st;obtain⟨xs,x,hq,hx⟩:=hg;obtain⟨its,rv,p,hz⟩:=I.list hq;obtain⟨u,hu,ru⟩:=rv.get hx;have hia:a≠it:=by
   obtain⟨o,ho,hc1,_⟩:=p.isList;obtain⟨o2,ho2,hc2,_⟩:=st2;intro z;rw[z,ho2]at ho
   cases ho
   rw[hc1]at hc2;exact absurd (Value.type.inj hc2) ⋯
  have hea:e≠a:=by
   obtain⟨o,ho,hc1,_⟩:=p.isList;intro z;rw[<- z,st1]at ho
   cases ho
   exact absurd (Value.type.inj hc1) ⋯
  have hlt:i<its.toArray.size:=by
   rw[aZ];exact(aI.mp hu).1
  refine wpAny_pyNext_enum_itemD (Draws.list (A:=X.A.in1) (I.ok.hd hc) it a hia its.toArray) st1 ⟨st2,p.isList⟩ hlt hei (by simp[hei,hea]) λx' h' tk hP hout hst hT hsz hk=>?_;have ex:x'=u:=by
   have:its.toArray[i]?=some u:=by simpa using hu
   rw[this]at hP;exact(aS hP).symm
  subst ex;refine⟨_,rfl,wpAny_letOwnedTupleGo_enum hout λh2 he2 hs2=>?_⟩;have fT:H s.heap.objs.size=none:=I.hok.fresh<|aO _;have hel:e<s.heap.objs.size:=aV st1;have hil:it<s.heap.objs.size:=by obtain⟨o,ho,_⟩:=st2;exact aV ho
  have k2:∀b o,b≠e->b≠it->s.heap.get? b=some o->h2.get? b=some o:=λb o h1 h3 q=>hs2.extBut b o h1<|hk b o h1 h3 q;have hT2:h2.get? s.heap.objs.size=some { cls:=.type "tuple",data:=.seq #[.int i tk,x']}:=hs2.extBut _ _ (Nat.ne_of_gt hel) hT;obtain⟨e0,e1,e2,e3,e4,e5⟩:=hf e (by simp);obtain⟨i0,i1,i2,i3,i4,i5⟩:=hf it (by simp);have nT:∀b o,s.heap.get? b=some o->b≠s.heap.objs.size:=λb o q=>bu<|aV q;have ne_tr:∀c v,H c=some v->c≠e/\c≠it:=λc v q=>⟨(λz=>by rw[z,e0]at q;cases q),(λz=>by rw[z,i0]at q;cases q)⟩;have I2:Inv X pins σ (upd H s.heap.objs.size<|.tup [.int i,x]) { s with heap:=h2,toks:=tk+1 }:=by
   refine I.step (g':=s.gens) (d':=s.drawn) (ch:=[e,it]) (λb hb=>?_) (λb o _ _ hch q _=>?_) (λb o _ _ hch q _=>?_) (λb o hch q n=>?_) (λb o hch q=>?_) (λb ys q=>?_) (λb o u' q=>?_) (λb ps q=>?_) (λm hm=>?_) (λb u' q=>?_) I.bare
   ·have hb':b=e\/b=it:=by simpa using hb
    rcases hb' with rfl|rfl
    ·exact⟨e3,e1,e4,e5⟩
    ·exact⟨i3,i1,i4,i5⟩
   ·exact k2 b o (λz=>hch<|by simp[z]) (λz=>hch<|by simp[z]) q
   ·exact⟨o.slots,k2 b o (λz=>hch<|by simp[z]) (λz=>hch<|by simp[z]) q⟩
   ·rw[iS<|nT b o q];exact n
   ·exact⟨o,k2 b o (λz=>hch<|by simp[z]) (λz=>hch<|by simp[z]) q⟩
   ·rw[iS<|i9 q fT];exact q
   ·rw[iS<|i9 q fT];exact q
   ·exact⟨#[],by rw[iS<|i9 q fT,q];simp⟩
   ·obtain⟨o,es,ep,ho,r⟩:=hm;exact⟨o,es,ep,k2 _ o (cN e1) (cN i1) ho,r⟩
   ·by_cases z:b=s.heap.objs.size
    ·subst z;rw[ji]at q
     cases q
     exact⟨by show 2<=sizeLine;decide,[.int i tk,x'],.cons ⟨tk,rfl⟩<|.cons ru .nil,⟨_,hT2,rfl,rfl,0,rfl⟩⟩
    ·rw[iS z]at q;refine(I.hok b u' q).stay (λc v hc q'=>k2 c v ?_ ?_ q') (λc q'=>?_) λc ys q'=>?_
     ·rcases hc with z|z
      ·rw[z];exact(ne_tr b u' q).1
      ·exact(ne_tr c _ z).1
     ·rcases hc with z|z
      ·rw[z];exact(ne_tr b u' q).2
      ·exact(ne_tr c _ z).2
     ·rw[iS<|i9 q' fT];exact q'
     ·rw[iS<|i9 q' fT];exact q'
  refine⟨.ref s.heap.objs.size,_,I2,rfl,⟨s.heap.objs.size,fT,rfl,λys y hy hyi=>?_⟩,⟨⟨x',by simpa using he2⟩,?_⟩,λb hb=>?_⟩
  ·rw[I.xG hy hq]at hyi;rw[hx]at hyi
   cases hyi
   rfl
  ·exact hst.1.at λo ho=>hs2.extBut it o (cN hei) ho
  ·have hb':b=e\/b=it:=by simpa using hb
   rcases hb' with rfl|rfl
   ·rw[iS<|bu hel];exact e0
   ·rw[iS<|bu hil];exact i0
 done:=by
  w_up;subst hP hw hK;obtain⟨⟨old,st1⟩,st2⟩:=st;obtain⟨xs,hq,hx⟩:=hg;obtain⟨its,rv,p,hz⟩:=I.list hq;obtain⟨i0,i1,i2,i3,i4,i5⟩:=hf it (by simp);have hia:a≠it:=by
   obtain⟨o,ho,hc1,_⟩:=p.isList;obtain⟨o2,ho2,hc2,_⟩:=st2;intro z;rw[z,ho2]at ho
   cases ho
   rw[hc1]at hc2;exact absurd (Value.type.inj hc2) ⋯
  have hl:=rv.length;have ei:its.toArray.size=i:=by rw[aZ,<- hl,hx]
  exact wpAny_pyNext_enum_endD (Draws.list (A:=X.A.in1) (I.ok.hd hc) it a hia its.toArray) st1 ⟨by rw[ei];exact st2,p.isList⟩ λh' eb=>⟨rfl,I.turned (t':=s.toks) (λb o hb q=>eb b o hb q) i0 i1 i3 i4 i5⟩
 self:=λ_ _ _ _ _ st h=>let⟨⟨_,st1⟩,_⟩:=st;wpAny_pyIter_enum st1 h
section
variable {X:Cx}
abbrev Tq (K:au)(ta:TA):TI:=λσ H R=>ta σ H λvs H1=>∃a xs,vs=[.ref a]/\mP K H1 a xs/\R (TV K a) H1
def Ll{a:aE}{ta:TA}{p:Pos}(hg:Gl X "enumerate")(hm:X.mg "enumerate" = none)(ha:PA X [a] ta)(hs:starEach [a] X.env=[(false,eval a X.env)]:=by rfl):PI X (.Tuple elts x1 tpos) (.Call (.Name "enumerate" p) [a] [] pos) (Tq X.K ta):=by
 intro pins s σ H R I h;refine Call_<|uA I hg hm AU<|dz (j3 (ha pos pins s σ H _ I h) λus s1 ⟨vs,H1,I1,r1,q1⟩=>?_) hs rfl;obtain⟨t,xs,e,hq,q⟩:=q1;subst e;obtain⟨u,rfl,rx⟩:=vals1 r1
 cases rx
 obtain⟨its,rv,pt,hz⟩:=I1.list hq;refine call_enumerate_list pt.isList λh' he hit hsz hk=>?_;have I3:Inv X pins σ H1 { s1 with heap:=h' }:=I1.kept (t':=s1.toks) hk;have hne:s1.heap.objs.size+1≠s1.heap.objs.size:=()
 refine wpAny_pyIter_enum he ⟨_,[_,s1.heap.objs.size],_,_,H1,rfl,I3,Di t _ s1.heap.objs.size hne,⟨⟨.none,he⟩,hit⟩,λb hb=>?_,q⟩;have hb':b=s1.heap.objs.size+1\/b=s1.heap.objs.size:=by simpa using hb
 rcases hb' with rfl|rfl
 ·exact I1.Ba (le_succ _) (I1.hok.fresh<|le_succ _)
 ·kl_no
end
def IV{X:Cx}{i:Nat}{spos:Pos}{iter:aE}{N:am}{wi:TI}{g:TG}{tc:TT}{te:TE}
  (hN:X.N.Nodup) (hi':X.N[i]?=some y) (hx:Loc X.env.scope y) (hc:X.calm=true) (S:CpScope X scope N cap) (hi:PI X tg iter wi)
  (hg:∀C s₀ H₀ ex,PG (jK X scope N C s₀ H₀ ex) tg g) (ht:∀C s₀ H₀ ex,Ng (jK X scope N C s₀ H₀ ex) ifs tc) (he:∀C s₀ H₀ ex,PE (jK X scope N C s₀ H₀ ex) elt te)
  (hsw:swapsWith (.ListComp elt [⟨tg,iter,ifs,0⟩] scope pos) (some<|.Name y py) spos.line X.env=pure true)
  (hf:X.fn y=true\/X.env.scope.names.lookup y=some .local) (hs:∀x,foldedSetIterable iter X.env x=pure x:=by intro _;rfl) :
  PS X (.Assign [.Name y py] (.ListComp elt [⟨tg,iter,ifs,0⟩] scope pos) spos) (NN (Wl cap wi g tc te)<|KQ i):=by
 kcf_m;rw[exec_Assign_Name_used _ _ _ _ hsw];refine aH (dY<|aH ?_)
 skip
 refine aH<|cJ (EE (ok:=λY=>Y.calm=true) (Q':=λ_ s'=>SP X pins D .next s') S (λ_ _ _ _ _=>hc) (PI.g hi) hg ht he hs pins s σ H _ I h ?_) (λ_ s' hq=>aT<|aT hq) λ_ _ e=>e;intro s6 C Dd H5 m hn fk inv q v;have Ia:=inv s6.heap<|Heap.SameBut.refl _ _;obtain⟨oC,hoC⟩:∃o,s6.heap.get? C=some o/\∀v,o.data≠.cell v:=by
  obtain⟨o,es,ep,e,d,_⟩:=hn;exact⟨o,e,λv z=>by rw[d]at z;cases z⟩
 have Ip:=Ia.pinned (fp:=[C]) (λb hb=>by rw[bC]at hb;rw[hb];exact fk) (λb hb=>by rw[bC]at hb;rw[hb];exact⟨oC,hoC⟩)
 skip
 refine j3 (Gn hN hi' hx hf _ s6 σ H5 (.ref Dd) (.ref Dd) _ Ip rfl q) λ_ s7 h9=>?_;obtain⟨σ7,H7,I7,q7⟩:=h9;have hp:=I7.pin (C,oC)<|br _<|br _<|ki (bC.mpr rfl) hoC.1;refine⟨m,hn.at' λo e=>by rw[hoC.1]at e;cases e;exact hp.1,λh' sb=>?_⟩;have nC:∀c v,H7 c=some v->c≠C:=λc v e z=>by rw[z,hp.2.1]at e;cases e
 refine⟨σ7,H7,?_,q7⟩;refine I7.nP.J6 (ch:=[C]) rfl ⟨λb o e n hb hx=>?_,λb o e n hb hx=>?_,λb o e n hx=>n,λb o e hx=>?_,λ_ _ e=>e,λ_ _ _ e=>e,λ_ _ e=>⟨#[],by rw[Array.append_empty];exact e⟩⟩ ?_ I7.bare ?_
 ·exact sb.extBut b o (by simpa using hx) e
 ·exact⟨o.slots,sb.extBut b o (by simpa using hx) e⟩
 ·exact⟨o,sb.extBut b o (by simpa using hx) e⟩
 ·intro b o e;refine(I7.hok b o e).stay (λc v hc q=>sb.extBut c v ?_ q) (λ_ q=>q) λ_ _ q=>q
  rcases hc with z|z
  ·rw[z];exact nC b o e
  ·exact nC c _ z
 ·intro b hb;rw[bC]at hb;rw[hb];exact⟨fk.2.2.2.1,fk.2.1,fk.2.2.2.2.1,fk.2.2.2.2.2⟩
def zu(a b:Int):Builtin.Range.rangeSize a b (-1)=if a>b then a-b else 0:=by
 unfold Builtin.Range.rangeSize;dsimp[show ¬((-1:Int)>0)by decide,bX,Int.neg_neg,Int.ediv_one];split<;>lia
def small_down{a b:Int}(ha:-(2 ^ 62)<=a)(ha':a<2 ^ 62)(hb:-(2 ^ 62)<=b)(hb':b<2 ^ 62):Builtin.Range.small a b (-1)=true:=by
 unfold Builtin.Range.small;rw[zu];dsimp[Builtin.Range.rangeFitsLong,cR,iE,fU,gX,show ¬((-1:Int)>0)by decide,bX];split<;>lia
end L2
namespace Sx
open PySem PyProof.Rows
structure Ord where
 lt:Nat->Nat->Bool
 NO:∀i,lt i i=false
 tr:∀i j k,lt i j=true->lt j k=true->lt i k=true
 neg:∀i j k,lt i k=true->lt i j=true\/lt j k=true
abbrev P (o:Ord)(i j:Nat):Prop:=o.lt i j=true\/(o.lt j i=false/\i<j)
def Ord.W6(o:Ord)(h:o.lt i j=true):o.lt j i=false:=by
 cases e:o.lt j i with
 | false=>rfl
 | true=>have:=o.tr _ _ _ h e;rw[o.NO]at this;cases this
def P.NO(h:P o i i):False:=by
 rcases h with h|⟨_,h⟩
 ·rw[o.NO]at h;cases h
 ·lia
def P.trans{k:Nat}(a:P o i j)(b:P o j k):P o i k:=by
 rcases a with a|⟨a,a'⟩
 ·rcases b with b|⟨b,b'⟩
  ·exact .inl (o.tr _ _ _ a b)
  ·rcases o.neg i k j a with z|z
   ·exact .inl z
   ·rw[b]at z;cases z
 ·rcases b with b|⟨b,b'⟩
  ·rcases o.neg j i k b with z|z
   ·rw[a]at z;cases z
   ·exact .inl z
  ·refine .inr ⟨?_,()⟩
   cases e:o.lt k i with
   | false=>rfl
   | true=>
    rcases o.neg k j i e with z|z
    ·rw[b]at z;cases z
    ·rw[a]at z;cases z
def P.of_lt{o:Ord}(h:o.lt i j=true):P o i j:=.inl h
def P.uV{o:Ord}(h:o.lt j i=false)(hij:i<j):P o i j:=.inr ⟨h,hij⟩
def P.lt{o:Ord}(h:P o i j)(hij:j<i):o.lt i j=true:=by
 rcases h with h|⟨_,h⟩
 ·exact h
 ·lia
def P.ge{o:Ord}(h:P o i j):o.lt j i=false:=by
 rcases h with h|⟨h,_⟩
 ·exact o.W6 h
 ·exact h
abbrev So (o:Ord)(g:Nat->Nat)(a b:Nat):Prop:=∀i j,a<=i->i<j->j<b->P o (g i) (g j)
abbrev Cl (g:Nat->Nat)(a b:Nat):Prop:=∀i,a<=i->i<b->a<=g i/\g i<b
abbrev rev (g:Nat->Nat)(i j:Nat):Nat->Nat:=λk=>if i<=k/\k<j then g (i+j-1-k)else g k
abbrev mv (g:Nat->Nat)(src dst:Nat):Nat->Nat:=λk=>if k=dst then g src else if dst<k/\k<=src then g (k-1)else g k
def xM{g:Nat->Nat}{k:Nat}(h:i<=k)(h2:k<j):rev g i j k=g (i+j-1-k):=aJ ⟨h,h2⟩
def nA{g:Nat->Nat}{k:Nat}(h:k<i\/j<=k):rev g i j k=g k:=aK ()
def Ka{g:Nat->Nat}{d:Nat}:mv g s d d=g s:=aJ rfl
def Be{g:Nat->Nat}{d k:Nat}(h:d<k)(h2:k<=s):mv g s d k=g (k-1):=by
 unfold mv;rw[aK (),aJ ⟨h,h2⟩]
def Ad{g:Nat->Nat}{d k:Nat}(hd:d<=s)(h:k<d\/s<k):mv g s d k=g k:=by
 unfold mv;rw[aK (),aK ()]
section
variable {prog:aj}{w:ah}{A:aA}{E:af->aC->Prop}{s:aC}{o:Ord}{N:Nat}{f:Nat->Keyed}{kd:SortKind}{g:Nat->Nat}{p:Array (Nat×Nat×Nat)}{st:SortSt}
abbrev zp (prog:aj)(w:ah)(A:aA)(s:aC)(o:Ord)(N:Nat)(f:Nat->Keyed)(kd:SortKind):Prop:=
 ∀i j,i<N->j<N->∀(E':af->aC->Prop) (Q:Bool->aC->Prop),Q (o.lt i j) s->wpAny (model prog w) A (keyLt' kd (f i).1 (f j).1) Q E' s
structure Sg (N:Nat)(f:Nat->Keyed)(kd:SortKind)(g:Nat->Nat)(p:Array (Nat×Nat×Nat))(st:SortSt):Prop where
 size:(arrOf st).size=N
 get:∀i,i<N->(arrOf st)[i]?=some (f<|g i)
 lt:∀i,i<N->g i<N
 kind:kindOf st=kd
 failed:failedOf st=none
 pend:pendingOf st=p
def yd(C:zp prog w A s o N f kd)(hk:kindOf st=kd)(hi:i<N)(hj:j<N){Q:bd->SortSt->Prop}(q:Q (some<|o.lt i j) st):wpS (model prog w) A E s (lt' (f i)<|f j) Q st:=by
 rw[lt'_eq];refine aU<|fV ?_;rw[hk];refine aU<|wpS_lift<|ig<|C i j hi hj _ _ ⟨rfl,?_⟩;exact aY q
def jj{xs:Array Keyed}{i:Nat}{x:Keyed}(e:xs[i]?=some x){Q:Keyed->SortSt->Prop}(q:Q x st):wpS (model prog w) A E s (elem' xs i) Q st:=by
 rw[elem'_eq,e];exact aY q
def tF(C:zp prog w A s o N f kd)(h:Sg N f kd g p st)(hi:i<N)(hj:j<N){Q:bd->SortSt->Prop}(q:Q (some<|o.lt (g i)<|g j) st):wpS (model prog w) A E s (ltAt' i j) Q st:=by
 rw[ltAt'_eq];refine aU (fV ?_)
 skip
 exact aU<|jj (h.get i hi)<|aU<|jj (h.get j hj)<|yd C h.kind (h.lt i hi) (h.lt j hj) q
def Sg.arr(h:Sg N f kd g p st){xs:Array Keyed}{g':Nat->Nat}(hs:xs.size=N)(hg:∀i,i<N->xs[i]?=some (f<|g' i))(hl:∀i,i<N->g' i<N):Sg N f kd g' p (setArr st xs):=⟨hs,hg,hl,h.kind,h.failed,h.pend⟩
def vh(h:Sg N f kd g p st)(hj:j<=N){Q:Unit->SortSt->Prop}(q:∀st',Sg N f kd (rev g i j) p st'->Q Unit.unit st'):wpS (model prog w) A E s (reverseSlice' i j) Q st:=by
 rw[reverseSlice'_eq];refine eo (q _<|h.arr (by rw[mirror_size];exact h.size) (λk hk=>?_) λk hk=>?_)
 ·rw[getElem?_mirror_all<|by rw[h.size];exact hj];unfold rev;by_cases c:i<=k/\k<j
  ·rw[aJ c,aJ c];exact h.get _ (by omega)
  ·rw[aK c,aK c];exact h.get _ hk
 ·unfold rev;by_cases c:i<=k/\k<j
  ·rw[aJ c];exact h.lt _ (by omega)
  ·rw[aK c];exact h.lt _ hk
def SV(h:Sg N f kd g p st){a:Nat}(ha:a<N)(hb:b<=a){Q:Unit->SortSt->Prop}(q:∀st',Sg N f kd (mv g a b) p st'->Q Unit.unit st'):wpS (model prog w) A E s (moveDown' a b) Q st:=by
 rw[moveDown'_eq];refine eo (q _<|h.arr (by rw[bubble_size];exact h.size) (λk hk=>?_) λk hk=>?_)
 ·rw[getElem?_bubble (by rw[h.size];exact ha) _ (),show a-(a-b)=b by lia];unfold mv;by_cases c:k=b
  ·rw[aJ c,aJ c];exact h.get _ ha
  ·rw[aK c,aK c];by_cases c2:b<k/\k<=a
   ·rw[aJ c2,aJ c2];exact h.get _ ()
   ·rw[aK c2,aK c2];exact h.get _ hk
 ·unfold mv;by_cases c:k=b
  ·rw[aJ c];exact h.lt _ ha
  ·rw[aK c];by_cases c2:b<k/\k<=a
   ·rw[aJ c2];exact h.lt _ ()
   ·rw[aK c2];exact h.lt _ hk
structure Rn (o:Ord)(g0 g:Nat->Nat)(a b:Nat):Prop where
 out:∀i,i<a\/b<=i->g i=g0 i
 cl:Cl g a b
 so:So o g a b
def Rx{g0:Nat->Nat}{lo k:Nat}(R:Rn o g0 g lo<|lo+k)(hk:g (lo+k)=lo+k)(hl:l<=k)(h1:∀i,i<l->P o (g<|lo+i) (lo+k))(h2:∀i,l<=i->i<k->P o (lo+k) (g<|lo+i)):Rn o g0 (mv g (lo+k)<|lo+l) lo (lo+(k+1)) where
 out i hi:=by rw[Ad () ()];exact R.out i ()
 cl i a b:=by
  by_cases c:i=lo+l
  ·subst c;rw[Ka,hk];lia
  ·by_cases c2:lo+l<i
   ·rw[Be c2 ()];have:=R.cl (i-1) () ()
    lia
   ·rw[Ad () ()];have:=R.cl i () ()
    lia
 so i j a b d:=by
  by_cases c:i=lo+l
  ·subst c;rw[Ka,Be b (),hk];have:=h2 (j-1-lo) () ()
   rwa [show lo+(j-1-lo)=j-1 by lia]at this
  ·by_cases c2:lo+l<i
   ·rw[Be c2 (),Be () ()];exact R.so _ _ () () ()
   ·rw[Ad (k:=i) () ()];by_cases c3:j=lo+l
    ·subst c3;rw[Ka,hk];have:=h1 (i-lo) ()
     rwa [show lo+(i-lo)=i by lia]at this
    ·by_cases c4:lo+l<j
     ·rw[Be c4 ()];exact R.so _ _ () () ()
     ·rw[Ad () ()];exact R.so _ _ () () ()
def TJ(C:zp prog w A s o N f kd){g0:Nat->Nat}{lo n ok:Nat}(h:Sg N f kd g p st)(hn:lo+n<=N)(h1:1<=ok)(hok:ok<=n)(R:Rn o g0 g lo<|lo+ok)(hid:∀i,lo+ok<=i->i<lo+n->g0 i=i)
  {Q:Bool->SortSt->Prop} (q:∀g' st',Sg N f kd g' p st'->Rn o g0 g' lo (lo+n)->Q true st'):wpS (model prog w) A E s (binarySort' lo n ok) Q st:=by
 rw[binarySort'_eq,show max ok 1=ok by lia];refine aU (dw (cg (I:=λk c st'=>c=(none,Unit.unit)/\∃g',Sg N f kd g' p st'/\Rn o g0 g' lo (lo+min k n))
  (Q:=λc st'=>c=(none,Unit.unit)/\∃g',Sg N f kd g' p st'/\Rn o g0 g' lo (lo+n)) ?step ?fin ?init) ?post)
 case post=>
  rintro c st' ⟨rfl,g',h',R'⟩;exact aY<|q g' st' h' R'
 case init=>exact⟨rfl,g,h,by rw[show min ok n=ok by lia];exact R⟩
 case fin=>
  rintro c st' ⟨hc,g',h',R'⟩;exact⟨hc,g',h',by rwa [show min (max ok n) n=n by lia]at R'⟩
 case step=>
  rintro k c st' hak hkn ⟨rfl,g',h',R'⟩;rw[show min k n=k by lia]at R';have gk:g' (lo+k)=lo+k:=by rw[R'.out _ ()];exact hid _ () ()
  refine aU (dw (cg (I:=λx c s2=>s2=st'/\∃u v,c=(none,u,v)/\u<=v/\v<=k/\v-u<=k-x /\
    (∀i,i<u->P o (g'<|lo+i) (lo+k))/\(∀i,v<=i->i<k->P o (lo+k) (g'<|lo+i)))
   (Q:=λc s2=>s2=st'/\∃u v,c=(none,u,v)/\u<=k /\
    (∀i,i<u->P o (g'<|lo+i) (lo+k))/\(∀i,u<=i->i<k->P o (lo+k) (g'<|lo+i))) ?istep ?ifin ?iinit) ?ipost)
  case iinit=>exact⟨rfl,0,k,rfl,(),(),(),λi hi=>(),λi h1 h2=>()⟩
  case ifin=>
   rintro c s2 ⟨rfl,u,v,rfl,huv,hvk,hm,low,top⟩;have:u=v:=()
   subst this;exact⟨rfl,u,u,rfl,hvk,low,top⟩
  case istep=>
   rintro x c s2 _ hxk ⟨rfl,u,v,rfl,huv,hvk,hm,low,top⟩;dsimp only;by_cases hge:u>=v
   ·rw[aJ hge];have:u=v:=()
    subst this;exact aY ⟨rfl,u,u,rfl,hvk,low,top⟩
   ·rw[aK hge];have hmk:(u+v) / 2<k:=()
    have gm:=R'.cl (lo+(u+v) / 2) () ();refine aU<|tF C h' () () ?_;rw[gk]
    cases hless:o.lt (lo+k) (g'<|lo+(u+v) / 2)
    case true=>
     dsimp[cX];refine aY ⟨rfl,u,(u+v) / 2,rfl,(),(),(),low,λi h1 h2=>?_⟩;by_cases c:i=(u+v) / 2
     ·subst c;exact .inl hless
     ·exact(P.of_lt hless).trans (R'.so _ _ () () ())
    case false=>
     dsimp[bq,bX];refine aY ⟨rfl,(u+v) / 2+1,v,rfl,(),(),(),λi h1=>?_,top⟩;have last:=P.uV hless gm.2;by_cases c:i=(u+v) / 2
     ·subst c;exact last
     ·exact(R'.so _ _ () () ()).trans last
  case ipost=>
   rintro c s2 ⟨rfl,u,v,rfl,huk,low,top⟩;dsimp only;refine aU<|SV h' () () λst3 h3=>?_;refine aY ⟨rfl,_,h3,?_⟩;rw[show min (k+1) n=k+1 by lia];exact Rx R' gk huk low top
end
meta abbrev As:=Option (bi)×Nat
meta abbrev Ds:=Option (bi)×Nat×Nat
abbrev ME (lo a nrem:Nat):StateT SortSt Sem As:=
 forIn [a:nrem] ((none,a):As) λ_ c=>do
  let x <- ltAt' (lo+c.2) (lo+c.2-1)
  match x with
  | some b=>if b=true then pure (ForInStep.done (none,c.2))else pure (ForInStep.yield (none,c.2+1))
  | _=>pure<|ForInStep.done (some none,c.2)
abbrev BD (lo n nrem:Nat):StateT SortSt Sem (bi):=do
 reverseSlice' lo (lo+n)
 let c <- ME lo n nrem
 match c.1 with
 | some r=>pure r
 | none=>pure<|some c.2
abbrev Pj (lo n nrem:Nat):StateT SortSt Sem Ds:=
 forIn [n:nrem] ((none,n,0):Ds) λ_ c=>do
  let x <- ltAt' (lo+c.2.1) (lo+c.2.1-1)
  match x with
  | some b=>
   if b=true then
    if c.2.2>0 then do
     reverseSlice' (lo+c.2.1-(c.2.2+1)) (lo+c.2.1)
     pure (ForInStep.yield (none,c.2.1+1,0))
    else pure (ForInStep.yield (none,c.2.1+1,0))
   else do
    let x <- ltAt' (lo+c.2.1-1) (lo+c.2.1)
    match x with
    | some b=>
     if b=true then pure (ForInStep.done (none,c.2.1,c.2.2))
     else pure (ForInStep.yield (none,c.2.1+1,c.2.2+1))
    | _=>pure<|ForInStep.done (some none,c.2.1,c.2.2)
  | _=>pure<|ForInStep.done (some none,c.2.1,c.2.2)
abbrev MA (lo n nrem:Nat):StateT SortSt Sem (bi):=do
 liftM (rule "list.sort.descending-run")
 let c <- Pj lo (n+1) nrem
 match c.1 with
 | some r=>pure r
 | none=>
  if c.2.2>0 then do
   reverseSlice' (lo+c.2.1-(c.2.2+1)) (lo+c.2.1)
   BD lo c.2.1 nrem
  else BD lo c.2.1 nrem
def count_eq(lo nrem:Nat):countRun' lo nrem=(do
  let c <- ME lo 1 nrem
  match c.1 with
  | some r=>pure r
  | none=>
   if (c.2 == nrem)=true then pure (some c.2)
   else if c.2>1 then do
    let x <- ltAt' lo (lo+c.2-1)
    match x with
    | some b=>if b=true then pure (some c.2)else do
      reverseSlice' lo (lo+c.2)
      MA lo c.2 nrem
    | _=>pure none
   else MA lo c.2 nrem):=by
 rw[countRun'_eq];dsimp only;unfold MA BD Pj ME;congr 1
 funext c
 obtain⟨r,n⟩:=c
 cases r with
 | some r=>rfl
 | none=>
  dsimp only;split
  ·rfl
  ·split
   ·congr 1
    funext x
    cases x with
    | none=>rfl
    | some b=>
     dsimp only;split
     ·rfl
     ·congr 1
      funext _r
      congr 1
      funext _u
      congr 1;congr 1
      funext s2
      obtain⟨r2,n2,q2⟩:=s2
      cases r2 with
      | some r2=>rfl
      | none=>
       dsimp only;split
       ·congr 1
        funext _v
        congr 1
        funext _w
        congr 1
        funext s3
        obtain⟨r3,n3⟩:=s3
        cases r3<;>rfl
       ·congr 1
        funext _w
        congr 1
        funext s3
        obtain⟨r3,n3⟩:=s3
        cases r3<;>rfl
   ·congr 1
    funext _u
    congr 1;congr 1
    funext s2
    obtain⟨r2,n2,q2⟩:=s2
    cases r2 with
    | some r2=>rfl
    | none=>
     dsimp only;split
     ·congr 1
      funext _v
      congr 1
      funext _w
      congr 1
      funext s3
      obtain⟨r3,n3⟩:=s3
      cases r3<;>rfl
     ·congr 1
      funext _w
      congr 1
      funext s3
      obtain⟨r3,n3⟩:=s3
      cases r3<;>rfl
section
variable {prog:aj}{w:ah}{A:aA}{E:af->aC->Prop}{s:aC}{o:Ord}{N:Nat}{f:Nat->Keyed}{kd:SortKind}{g g0:Nat->Nat}{p:Array (Nat×Nat×Nat)}{st:SortSt}
def Rn.snoc{a:Nat}(R:Rn o g0 g a b)(hab:a<b)(hb:g b=b)(h:o.lt b (g<|b-1)=false):Rn o g0 g a (b+1) where
 out i hi:=R.out i ()
 cl i h1 h2:=by
  by_cases c:i=b
  ·subst c;lia
  ·have:=R.cl i h1 ();lia
 so i j h1 h2 h3:=by
  by_cases c:j=b
  ·subst c;rw[hb];have l:=R.cl (j-1) () ();have last:P o (g<|j-1) j:=P.uV h l.2;by_cases c2:i=j-1
   ·subst c2;exact last
   ·exact(R.so i (j-1) h1 () ()).trans last
  ·exact R.so i j h1 h2 ()
def Nf(C:zp prog w A s o N f kd){lo a:Nat}(h:Sg N f kd g p st)(hn:lo+nrem<=N)(h1:1<=a)(han:a<=nrem)(R:Rn o g0 g lo<|lo+a)(hid:∀i,lo+a<=i->i<lo+nrem->g0 i=i)
  {Q:As->SortSt->Prop} (q:∀n,a<=n->n<=nrem->Rn o g0 g lo (lo+n)->(n=nrem\/o.lt (lo+n) (g<|lo+n-1)=true)->Q (none,n) st):wpS (model prog w) A E s (ME lo a nrem) Q st:=by
 unfold ME;refine cg (I:=λx c st'=>st'=st/\c=(none,x)/\Rn o g0 g lo (lo+x)) ?step ?fin ⟨rfl,rfl,R⟩
 case fin=>
  rintro c st' ⟨rfl,rfl,R'⟩;rw[show max a nrem=nrem by lia]at R' ⊢;exact q nrem han (aO _) R'<|.inl rfl
 case step=>
  rintro x c st' hax hxn ⟨rfl,rfl,R'⟩;dsimp only;have gx:g (lo+x)=lo+x:=by rw[R'.out _ ()];exact hid _ () ()
  refine aU<|tF C h () () ?_;rw[gx]
  cases hl:o.lt (lo+x) (g<|lo+x-1)
  case true=>
   dsimp[cX];exact aY<|q x hax () R'<|.inr hl
  case false=>
   dsimp[bq,bX];exact aY ⟨rfl,rfl,R'.snoc () gx hl⟩
structure Dc (o:Ord)(g0 g:Nat->Nat)(a b q:Nat):Prop where
 out:∀i,i<a\/b<=i->g i=g0 i
 cl:Cl g a b
 few:a+(q+1)<=b
 dn:∀i j,a<=i->i<j->j<b->i<b-(q+1)->P o (g j) (g i)
 id:∀i,b-(q+1)<=i->i<b->g i=i
 al:∀i j,b-(q+1)<=i->i<b->b-(q+1)<=j->j<b->o.lt i j=false
def Dc.turn{a q:Nat}(D:Dc o g0 g a b q):(∀i,i<a\/b<=i->rev g (b-(q+1)) b i=g0 i)/\Cl (rev g (b-(q+1)) b) a b/\(∀i j,a<=i->i<j->j<b->P o (rev g (b-(q+1)) b j) (rev g (b-(q+1)) b i))/\(∀i,b-(q+1)<=i->i<b->∃k,rev g (b-(q+1)) b i=k/\b-(q+1)<=k/\k<b):=by
 have few:=D.few;have inn:∀i,b-(q+1)<=i->i<b->rev g (b-(q+1)) b i=b-(q+1)+b-1-i:=λi h1 h2=>by
  rw[xM h1 h2];exact D.id _ (by omega)<|by omega
 refine⟨λi hi=>?_,λi h1 h2=>?_,λi j h1 h2 h3=>?_,λi h1 h2=>⟨_,inn i h1 h2,by omega,by omega⟩⟩
 ·rw[nA<|by omega];exact D.out i hi
 ·by_cases c:i<b-(q+1)
  ·rw[nA<|by omega];exact D.cl i h1 h2
  ·rw[inn i (by omega) h2];omega
 ·by_cases c:i<b-(q+1)
  ·rw[nA (k:=i)<|by omega];by_cases c2:j<b-(q+1)
   ·rw[nA<|by omega];exact D.dn i j h1 h2 h3 c
   ·rw[inn j (by omega) h3];have:=D.dn i (b-(q+1)+b-1-j) h1 (by omega) (by omega) c
    rwa [D.id _ (by omega)<|by omega]at this
  ·rw[inn i (by omega)<|by omega,inn j (by omega) h3];exact P.uV (D.al _ _ (by omega) (by omega) (by omega)<|by omega)<|by omega
abbrev Fin (o:Ord)(g0 g:Nat->Nat)(a b:Nat):Prop:=(∀i,i<a\/b<=i->g i=g0 i)/\Cl g a b/\(∀i j,a<=i->i<j->j<b->P o (g j) (g i))
def Dc.B_{a:Nat}(D:Dc o g0 g a b 0):Fin o g0 g a b:=⟨D.out,D.cl,λi j h1 h2 h3=>D.dn i j h1 h2 h3 ()⟩
def Fin.rn{a:Nat}(D:Fin o g0 g a b):Rn o g0 (rev g a b) a b where
 out i hi:=by rw[nA hi];exact D.1 i hi
 cl i h1 h2:=by
  rw[xM h1 h2];exact D.2.1 _ () ()
 so i j h1 h2 h3:=by
  rw[xM h1 (),xM () h3];exact D.2.2 _ _ () () ()
def Fin.add{a:Nat}(D:Fin o g0 g a b)(hb:g b=b)(hab:a<b)(h:∀i,a<=i->i<b->P o b (g i)):Dc o g0 g a (b+1) 0 where
 out i hi:=D.1 i ()
 cl i h1 h2:=by
  by_cases c:i=b
  ·subst c;lia
  ·have:=D.2.1 i h1 ();lia
 few:=()
 dn i j h1 h2 h3 _:=by
  by_cases c:j=b
  ·subst c;rw[hb];exact h i h1 h2
  ·exact D.2.2 i j h1 h2 ()
 id i h1 h2:=by
  have:i=b:=()
  rw[this,hb]
 al i j h1 h2 h3 h4:=by
  have:i=j:=()
  rw[this];exact o.NO _
def Fg(C:zp prog w A s o N f kd){lo n:Nat}(h:Sg N f kd g p st)(hn:lo+nrem<=N)(h1:1<=n)(han:n<=nrem)(D:Fin o g0 g lo<|lo+n)(hid:∀i,lo<=i->i<lo+nrem->g0 i=i)
  {Q:bi->SortSt->Prop} (q:∀m g' st',Sg N f kd g' p st'->1<=m->m<=nrem->Rn o g0 g' lo (lo+m)->Q (some m) st'):wpS (model prog w) A E s (BD lo n nrem) Q st:=by
 unfold BD;refine aU<|vh h () λst2 h2=>?_;exact aU<|Nf C h2 hn h1 han D.rn (λi a b=>hid i () b) λm hm1 hm2 R _=>aY<|q m _ _ h2 () hm2 R
def RJ(C:zp prog w A s o N f kd){lo n:Nat}(h:Sg N f kd g p st)(hn:lo+nrem<=N)(h1:1<=n)(han:n<=nrem)(D:Dc o g0 g lo (lo+n) 0)(hid:∀i,lo<=i->i<lo+nrem->g0 i=i)
  {Q:Ds->SortSt->Prop} (q:∀m e g' st',Sg N f kd g' p st'->1<=m->m<=nrem->Dc o g0 g' lo (lo+m) e->Q (none,m,e) st'):wpS (model prog w) A E s (Pj lo n nrem) Q st:=by
 unfold Pj;refine cg (I:=λx c st'=>∃e g',c=(none,x,e)/\Sg N f kd g' p st'/\Dc o g0 g' lo (lo+x) e) ?step ?fin ⟨0,g,rfl,h,D⟩
 case fin=>
  rintro c st' ⟨e,g',rfl,h',D'⟩;rw[show max n nrem=nrem by lia]at D' ⊢;exact q nrem e g' st' h' () (aO _) D'
 case step=>
  rintro x c st' hax hxn ⟨e,g',rfl,h',D'⟩;dsimp only;have few:=D'.few;have gx:g' (lo+x)=lo+x:=by rw[D'.out _ ()];exact hid _ () ()
  have gy:g' (lo+x-1)=lo+x-1:=D'.id _ () ();refine aU<|tF C h' () () ?_;rw[gx,gy]
  cases hl:o.lt (lo+x) (lo+x-1)
  case true=>
   dsimp[cX];by_cases he:e>0
   ·rw[aJ he];obtain⟨t1,t2,t3,t4⟩:=D'.turn;refine aU<|vh h' () λst2 h2=>aY ⟨0,_,rfl,h2,?_⟩;refine Fin.add (b:=lo+x) ⟨t1,t2,t3⟩ (by rw[nA ()];exact gx) () λi a b=>?_;by_cases c:lo+x-(e+1)<=i
    ·obtain⟨k,ek,k1,k2⟩:=t4 i c b;rw[ek]
     rcases o.neg _ k _ hl with z|z
     ·exact .inl z
     ·rw[D'.al _ _ k1 k2 () ()]at z;cases z
    ·rw[nA ()];have:=D'.dn i (lo+x-1) a () () ();rw[gy]at this;exact(P.of_lt hl).trans this
   ·rw[aK he];have:e=0:=()
    subst this;refine aY ⟨0,_,rfl,h',Fin.add (b:=lo+x) D'.B_ gx () λi a b=>?_⟩;by_cases c:i=lo+x-1
    ·subst c;rw[gy];exact .inl hl
    ·have:=D'.dn i (lo+x-1) a () () ();rw[gy]at this;exact(P.of_lt hl).trans this
  case false=>
   dsimp[bq,bX];refine aU<|tF C h' () () ?_;rw[gx,gy]
   cases hg:o.lt (lo+x-1) (lo+x)
   case true=>
    dsimp[cX];exact aY<|q x e g' st' h' () () D'
   case false=>
    dsimp[bq,bX];refine aY ⟨e+1,g',rfl,h',?_⟩;have eq1:∀i,lo+x-(e+1)<=i->i<lo+x->o.lt i (lo+x)=false/\o.lt (lo+x) i=false:=λi a b=>by
     constructor
     ·cases z:o.lt i (lo+x)with
      | false=>rfl
      | true=>
       rcases o.neg _ (lo+x-1) _ z with y|y
       ·rw[D'.al _ _ a b () ()]at y;cases y
       ·rw[hg]at y;cases y
     ·cases z:o.lt (lo+x) i with
      | false=>rfl
      | true=>
       rcases o.neg _ (lo+x-1) _ z with y|y
       ·rw[hl]at y;cases y
       ·rw[D'.al _ _ () () a b]at y;cases y
    exact {
     out:=λi hi=>D'.out i ()
     cl:=λi a b=>by
      by_cases c:i=lo+x
      ·subst c;lia
      ·have:=D'.cl i a ();lia
     few:=()
     dn:=λi j a b c d=>by
      by_cases z:j=lo+x
      ·subst z;rw[gx];have y:=D'.dn i (lo+x-1) a () () ();rw[gy]at y;have gi:=D'.cl i a ()
       rcases y with y|⟨_,y⟩
       ·rcases o.neg _ (lo+x) _ y with v|v
        ·rw[hg]at v;cases v
        ·exact .inl v
       ·lia
      ·exact D'.dn i j a b () ()
     id:=λi a b=>by
      by_cases z:i=lo+x
      ·subst z;exact gx
      ·exact D'.id i () ()
     al:=λi j a b c d=>by
      by_cases z:i=lo+x
      ·subst z;by_cases y:j=lo+x
       ·subst y;exact o.NO _
       ·exact(eq1 j () ()).2
      ·by_cases y:j=lo+x
       ·subst y;exact(eq1 i () ()).1
       ·exact D'.al i j () () () ()}
def GS(C:zp prog w A s o N f kd){lo n:Nat}(h:Sg N f kd g p st)(hn:lo+nrem<=N)(han:n+1<=nrem)(D:Dc o g0 g lo (lo+(n+1)) 0)(hid:∀i,lo<=i->i<lo+nrem->g0 i=i)
  {Q:bi->SortSt->Prop} (q:∀m g' st',Sg N f kd g' p st'->1<=m->m<=nrem->Rn o g0 g' lo (lo+m)->Q (some m) st'):wpS (model prog w) A E s (MA lo n nrem) Q st:=by
 unfold MA;mg_lt;refine aU<|RJ C h hn () han D hid λm e g' st' h' m1 m2 D'=>?_;dsimp only;by_cases he:e>0
 ·rw[aJ he];obtain⟨t1,t2,t3,_⟩:=D'.turn;exact aU (vh h' () λst2 h2=>Fg C h2 hn m1 m2 ⟨t1,t2,t3⟩ hid q)
 ·rw[aK he];have:e=0:=()
  subst this;exact Fg C h' hn m1 m2 D'.B_ hid q
def LG(C:zp prog w A s o N f kd){lo:Nat}(h:Sg N f kd g p st)(hn:lo+nrem<=N)(h1:1<=nrem)(hid:∀i,lo<=i->i<lo+nrem->g i=i)
  {Q:bi->SortSt->Prop} (q:∀m g' st',Sg N f kd g' p st'->1<=m->m<=nrem->Rn o g g' lo (lo+m)->Q (some m) st'):wpS (model prog w) A E s (countRun' lo nrem) Q st:=by
 rw[count_eq];refine aU (Nf C h hn (aO 1) h1 (g0:=g) ⟨λ_ _=>rfl,λi a b=>?_,λi j a b c=>()⟩ (λi a b=>hid i () b) λn n1 n2 R hor=>?_)
 ·have:i=lo:=()
  subst this;rw[hid i (aO _) ()];lia
 dsimp only;by_cases hnn:n=nrem
 ·rw[aJ<|by simpa using hnn];exact aY (q n g st h n1 n2 R)
 ·rw[aK<|by simpa using hnn];have hlt:=hor.resolve_left hnn;rw[hid (lo+n-1) () ()]at hlt;have gn:g (lo+n)=lo+n:=hid _ () ();by_cases hgt:n>1
  ·rw[aJ hgt];refine aU<|tF C h () () ?_;rw[hid lo () (),hid (lo+n-1) () ()]
   cases hr:o.lt lo (lo+n-1)
   case true=>
    dsimp[cX];exact aY<|q n g st h n1 n2 R
   case false=>
    dsimp[bq,bX];have id':∀i,lo<=i->i<lo+n->g i=i:=λi a b=>hid i a ();have pp:∀i j,lo<=i->i<j->j<lo+n->o.lt i j=false/\o.lt j i=false:=λi j a b c=>by
     have r:=R.so i j a b c;rw[id' i a (),id' j () c]at r;refine⟨?_,r.ge⟩
     cases z:o.lt i j with
     | false=>rfl
     | true=>
      rcases o.neg _ lo _ z with y|y
      ·by_cases x:i=lo
       ·subst x;rw[o.NO]at y;cases y
       ·have r2:=R.so lo i () () ();rw[id' i a (),id' lo () ()]at r2;rw[r2.ge]at y;cases y
      ·rcases o.neg _ (lo+n-1) _ y with x|x
       ·rw[hr]at x;cases x
       ·by_cases v:j=lo+n-1
        ·subst v;rw[o.NO]at x;cases x
        ·have r2:=R.so j (lo+n-1) () () ();rw[id' j () c,id' (lo+n-1) () ()]at r2;rw[r2.ge]at x;cases x
    refine aU<|vh h () λst2 h2=>GS C h2 hn () ?_ hid q;have rin:∀i,lo<=i->i<lo+n->rev g lo (lo+n) i=lo+(lo+n)-1-i:=λi a b=>by rw[xM a b];exact id' _ () ()
    refine Fin.add (b:=lo+n) ⟨λi hi=>nA hi,λi a b=>by rw[rin i a b];lia,λi j a b c=>?_⟩ (by rw[nA ()];exact gn) () λi a b=>?_
    ·rw[rin i a (),rin j () c];exact P.uV (pp _ _ () () ()).2 ()
    ·rw[rin i a b];by_cases x:lo+(lo+n)-1-i=lo+n-1
     ·rw[x];exact .inl hlt
     ·rcases o.neg _ (lo+(lo+n)-1-i) _ hlt with z|z
      ·exact .inl z
      ·rw[(pp _ _ () () ()).1]at z;cases z
  ·rw[aK hgt];have:n=1:=()
   subst this;refine GS C h hn () ?_ hid q;refine Fin.add (b:=lo+1) ⟨λi hi=>rfl,R.cl,λi j a b c=>()⟩ gn () λi a b=>?_;have:i=lo:=()
   subst this;rw[hid i () ()];rw[show i+1-1=i by lia]at hlt;exact .inl hlt
end
abbrev k_:Bool->Keyed->Array Keyed->Nat->Nat->Nat->StateT SortSt Sem (bi):=sortPriv% PySem.Builtin.gallop
abbrev Ua (ask:Nat->StateT SortSt Sem (bd))(n at0:Nat):StateT SortSt Sem (bi):=do
 let mut was:=0
 let mut far:=1
 let mut low:=0
 let mut top:=0
 let some yes <- ask at0|return none
 if yes then
  let most:=n-at0
  for _ in [0:n] do
   if far>=most then break
   let some ok <- ask (at0+far)|return none
   if !ok then break
   was:=far
   far:=2 * far+1
  low:=at0+was+1
  top:=at0+min far most
 else
  let most:=at0+1
  for _ in [0:n] do
   if far>=most then break
   let some hit <- ask (at0-far)|return none
   if hit then break
   was:=far
   far:=2 * far+1
  low:=at0+1-min far most
  top:=at0-was
 for _ in [0:n] do
  if low>=top then break
  let m:=low+(top-low) / 2
  let some ok <- ask m|return none
  if ok then low:=m+1 else top:=m
 return some top
def zj(left:Bool)(key:Keyed)(arr:Array Keyed)(base n hint:Nat):k_ left key arr base n hint=Ua (λi=>do
  let x <- elem' arr (base+i)
  if left then lt' x key else return (<- lt' key x).map (!·)) n hint:=rfl
section
variable {prog:aj}{w:ah}{A:aA}{E:af->aC->Prop}{s:aC}{st:SortSt}
abbrev WE (be:Nat->StateT SortSt Sem (bd))(n l0 h0:Nat):StateT SortSt Sem (bi):=do
 let mut low:=l0
 let mut top:=h0
 for _ in [0:n] do
  if low>=top then break
  let m:=low+(top-low) / 2
  let some ok <- be m|return none
  if ok then low:=m+1 else top:=m
 return some top
def Qv{be:Nat->StateT SortSt Sem (bd)}{n h0:Nat}(b:Nat->Bool)(hbe:∀i,i<n->∀Q:bd->SortSt->Prop,Q (some<|b i) st->wpS (model prog w) A E s (be i) Q st)(hb:∀i j,i<=j->j<n->b j=true->b i=true)
  (hlh:l0<=h0) (hn:h0<=n) (hl:∀i,i<l0->b i=true) (hh:∀i,h0<=i->i<n->b i=false)
  {Q:bi->SortSt->Prop} (q:∀k,k<=n->(∀i,i<k->b i=true)->(∀i,k<=i->i<n->b i=false)->Q (some k) st):wpS (model prog w) A E s (WE be n l0 h0) Q st:=by
 unfold WE;refine aU (dw (cg (I:=λx c st'=>st'=st/\∃lo hi,c=(none,lo,hi)/\lo<=hi/\hi<=n/\hi-lo<=n-x/\(∀i,i<lo->b i=true)/\(∀i,hi<=i->i<n->b i=false))
  (Q:=λc st'=>st'=st/\∃k,c=(none,k,k)/\k<=n/\(∀i,i<k->b i=true)/\(∀i,k<=i->i<n->b i=false)) ?step ?fin ⟨rfl,l0,h0,rfl,hlh,hn,(),hl,hh⟩) ?post)
 case post=>
  rintro c st' ⟨rfl,k,rfl,h1,h2,h3⟩;exact aY<|q k h1 h2 h3
 case fin=>
  rintro c st' ⟨rfl,lo,hi,rfl,h1,h2,h3,h4,h5⟩;have:lo=hi:=()
  subst this;exact⟨rfl,lo,rfl,h2,h4,h5⟩
 case step=>
  rintro x c st' _ hx ⟨rfl,lo,hi,rfl,h1,h2,h3,h4,h5⟩;dsimp only;by_cases hge:lo>=hi
  ·rw[aJ hge];have:lo=hi:=()
   subst this;exact aY ⟨rfl,lo,rfl,h2,h4,h5⟩
  ·rw[aK hge];have hm:lo+(hi-lo) / 2<hi:=()
   obtain⟨m,hm'⟩:∃m,m=lo+(hi-lo) / 2:=⟨_,rfl⟩;rw[<- hm']at hm ⊢;refine aU (hbe m () _ ?_)
   cases hv:b m
   ·dsimp[bq,bX];refine aY ⟨rfl,lo,m,rfl,(),(),(),h4,λi a c=>?_⟩
    cases z:b i with
    | false=>rfl
    | true=>rw[hb m i a c z]at hv;cases hv
   ·dsimp[cX];exact aY ⟨rfl,m+1,hi,rfl,(),h2,(),λi a=>hb i m () () hv,h5⟩
def E3{be:Nat->StateT SortSt Sem (bd)}{n:Nat}(b:Nat->Bool)(hbe:∀i,i<n->∀Q:bd->SortSt->Prop,Q (some<|b i) st->wpS (model prog w) A E s (be i) Q st)(hb:∀i j,i<=j->j<n->b j=true->b i=true)(hh:hint<n)
  {Q:bi->SortSt->Prop} (q:∀k,k<=n->(∀i,i<k->b i=true)->(∀i,k<=i->i<n->b i=false)->Q (some k) st):wpS (model prog w) A E s (Ua be n hint) Q st:=by
 unfold Ua;have hb':∀i j,i<=j->j<n->b i=false->b j=false:=λi j a c d=>by
  cases z:b j with
  | false=>rfl
  | true=>rw[hb i j a c z]at d;cases d
 refine aU (hbe hint hh _ ?_)
 cases hr:b hint
 ·dsimp only;dsimp[bq,bX];refine aU (dw (cg (I:=λx c st'=>st'=st/\∃l u,c=(none,l,u)/\x+1<=u/\l<u/\l<=hint/\b (hint-l)=false)
   (Q:=λc st'=>st'=st/\∃l u,c=(none,l,u)/\l<u/\l<=hint/\b (hint-l)=false/\(u>=hint+1\/b (hint-u)=true)) ?step ?fin ⟨rfl,0,1,rfl,by omega,by omega,by omega,hr⟩) ?post)
  case post=>
   rintro c st' ⟨rfl,l,u,rfl,h1,h2,h3,h4⟩;dsimp only;refine(Qv b hbe hb (l0:=hint+1-min u (hint+1)) (h0:=hint-l) (by omega) (by omega) (λi a=>?_) (λi a c=>hb' _ _ a c h3) q:wpS (model prog w) A E s (WE be n _ _) Q st')
   rcases h4 with h4|h4
   ·omega
   ·exact hb i (hint-u) (by omega) (by omega) h4
  case fin=>
   rintro c st' ⟨rfl,l,u,rfl,h1,h2,h3,h4⟩;exact⟨rfl,l,u,rfl,h2,h3,h4,.inl<|by omega⟩
  case step=>
   rintro x c st' _ hx ⟨rfl,l,u,rfl,h1,h2,h3,h4⟩;dsimp only;by_cases hge:u>=hint+1
   ·rw[aJ hge];exact aY ⟨rfl,l,u,rfl,h2,h3,h4,.inl hge⟩
   ·rw[aK hge];refine aU (hbe _ (by omega) _ ?_)
    cases hv:b (hint-u)
    ·dsimp[bq,bX];exact aY ⟨rfl,u,2 * u+1,rfl,by omega,by omega,by omega,hv⟩
    ·dsimp[cX];exact aY ⟨rfl,l,u,rfl,h2,h3,h4,.inr hv⟩
 ·dsimp only;dsimp[cX];refine aU (dw (cg (I:=λx c st'=>st'=st/\∃l u,c=(none,l,u)/\x+1<=u/\l<u/\hint+l<n/\b (hint+l)=true)
   (Q:=λc st'=>st'=st/\∃l u,c=(none,l,u)/\l<u/\hint+l<n/\b (hint+l)=true/\(u>=n-hint\/b (hint+u)=false)) ?step2 ?fin2 ⟨rfl,0,1,rfl,by omega,by omega,by omega,hr⟩) ?post2)
  case post2=>
   rintro c st' ⟨rfl,l,u,rfl,h1,h2,h3,h4⟩;dsimp only;refine(Qv b hbe hb (l0:=hint+l+1) (h0:=hint+min u (n-hint)) (by omega) (by omega) (λi a=>hb i _ (by omega) h2 h3) (λi a c=>?_) q:wpS (model prog w) A E s (WE be n _ _) Q st')
   rcases h4 with h4|h4
   ·omega
   ·exact hb' (hint+u) i (by omega) c h4
  case fin2=>
   rintro c st' ⟨rfl,l,u,rfl,h1,h2,h3,h4⟩;exact⟨rfl,l,u,rfl,h2,h3,h4,.inl<|by omega⟩
  case step2=>
   rintro x c st' _ hx ⟨rfl,l,u,rfl,h1,h2,h3,h4⟩;dsimp only;by_cases hge:u>=n-hint
   ·rw[aJ hge];exact aY ⟨rfl,l,u,rfl,h2,h3,h4,.inl hge⟩
   ·rw[aK hge];refine aU (hbe _ (by omega) _ ?_)
    cases hv:b (hint+u)
    ·dsimp[c8,cX];exact aY ⟨rfl,l,u,rfl,h2,h3,h4,.inr hv⟩
    ·dsimp[cC,bq,bX];exact aY ⟨rfl,u,2 * u+1,rfl,by omega,by omega,by omega,hv⟩
end
section
variable {prog:aj}{w:ah}{A:aA}{E:af->aC->Prop}{s:aC}{o:Ord}{N:Nat}{f:Nat->Keyed}{kd:SortKind}{st:SortSt}
def MV(C:zp prog w A s o N f kd)(hk:kindOf st=kd){base n:Nat}{arr:Array Keyed}{h:Nat->Nat}(ha:∀i,i<n->arr[base+i]?=some (f<|h i))(hN:∀i,i<n->h i<key)(hkN:key<N)(so:So o h 0 n)(hh:hint<n)
  {Q:bi->SortSt->Prop} (q:∀k,k<=n->(∀i,i<k->P o (h i) key)->(∀i,k<=i->i<n->P o key (h i))->Q (some k) st):wpS (model prog w) A E s (k_ false (f key) arr base n hint) Q st:=by
 rw[zj];refine E3 (λi=>!o.lt key (h i)) (λi hi Q' q'=>?_) (λi j a b c=>?_) hh λk h1 h2 h3=>q k h1 (λi a=>?_) λi a b=>?_
 ·refine aU<|jj (ha i hi) ?_;dsimp[bq,bX];exact aU (yd C hk hkN (by have:=hN i hi;lia)<|aY q')
 ·by_cases z:i=j
  ·subst z;exact c
  ·have r:=so i j (cE _) () b;have c':o.lt key (h j)=false:=by simpa using c
   cases e:o.lt key (h i)with
   | false=>rfl
   | true=>
    have:=(P.of_lt e).trans r;rw[this.lt<|hN j b]at c';cases c'
 ·have:=h2 i a;exact P.uV (by simpa using this) (hN i ())
 ·have:=h3 i a b;exact .inl<|by simpa using this
def Kx(C:zp prog w A s o N f kd)(hk:kindOf st=kd){base n:Nat}{arr:Array Keyed}{h:Nat->Nat}(ha:∀i,i<n->arr[base+i]?=some (f<|h i))(hN:∀i,i<n->key<h i/\h i<N)(so:So o h 0 n)(hh:hint<n)
  {Q:bi->SortSt->Prop} (q:∀k,k<=n->(∀i,i<k->P o (h i) key)->(∀i,k<=i->i<n->P o key (h i))->Q (some k) st):wpS (model prog w) A E s (k_ true (f key) arr base n hint) Q st:=by
 rw[zj];refine E3 (λi=>o.lt (h i) key) (λi hi Q' q'=>?_) (λi j a b c=>?_) hh λk h1 h2 h3=>q k h1 (λi a=>?_) λi a b=>?_
 ·refine aU<|jj (ha i hi) ?_;dsimp[cX];exact yd C hk (hN i hi).2 (by have:=hN i hi;lia) q'
 ·by_cases z:i=j
  ·subst z;exact c
  ·have r:=so i j (cE _) () b;exact(r.trans<|P.of_lt c).lt (hN i ()).1
 ·exact .inl (h2 i a)
 ·exact P.uV (h3 i a b) (hN i b).1
end
abbrev wB:Array Keyed->Array Keyed->StateT SortSt Sem (Array Keyed):=sortPriv% PySem.Builtin.mergeLo
abbrev v_:Array Keyed->Array Keyed->StateT SortSt Sem (Array Keyed):=sortPriv% PySem.Builtin.mergeHi
abbrev uR:Nat->StateT SortSt Sem Unit:=sortPriv% PySem.Builtin.setMinGallop
def Oq(m:Nat):uR m=modify λs=>SortSt.mk' (kindOf s) (arrOf s) (pendingOf s) m (failedOf s):=rfl
def DS(a b:Array Keyed):wB a b=(do
 rule "list.sort.merge-lo"
 let all_:=a.size+b.size
 let end1 (acc:Array Keyed) (p q:Nat):=acc++a.extract p a.size++b.extract q b.size
 let end2 (acc:Array Keyed) (p q:Nat):=acc++b.extract q b.size++a.extract p a.size
 let mut acc:Array Keyed:=#[<- elem' b 0]
 let mut p:=0
 let mut q:=1
 if q == b.size then return end1 acc p q
 if p+1 == a.size then return end2 acc p q
 let mut mg:=gallopOf (<- get)
 for _ in [0:all_] do
  let mut ca:=0
  let mut cb:=0
  for _ in [0:all_] do
   let some won <- lt' (<- elem' b q) (<- elem' a p)|return end1 acc p q
   if won then
    acc:=acc.push<|<- elem' b q;q:=q+1;cb:=cb+1;ca:=0
    if q == b.size then return end1 acc p q
    if cb>=mg then break
   else
    acc:=acc.push<|<- elem' a p;p:=p+1;ca:=ca+1;cb:=0
    if p+1 == a.size then return end2 acc p q
    if ca>=mg then break
  rule "list.sort.gallop"
  mg:=mg+1
  for _ in [0:all_] do
   if mg>1 then mg:=mg-1
   uR mg
   let some k <- k_ false (<- elem' b q) a p (a.size-p) 0|return end1 acc p q
   ca:=k
   if k>0 then
    acc:=acc++a.extract p (p+k);p:=p+k
    if p+1 == a.size then return end2 acc p q
    if p == a.size then return end1 acc p q
   acc:=acc.push<|<- elem' b q;q:=q+1
   if q == b.size then return end1 acc p q
   let some k <- k_ true (<- elem' a p) b q (b.size-q) 0|return end1 acc p q
   cb:=k
   if k>0 then
    acc:=acc++b.extract q (q+k);q:=q+k
    if q == b.size then return end1 acc p q
   acc:=acc.push<|<- elem' a p;p:=p+1
   if p+1 == a.size then return end2 acc p q
   if ca<7 && cb<7 then break
  mg:=mg+1
  uR mg
 unsupported "internal:list.sort.merge-bound"):=rfl
section
variable {o:Ord}{N:Nat}{f:Nat->Keyed}{A B hs:ag}{ia ib:Nat}
abbrev fa (f:Nat->Keyed)(l:ag):Array Keyed:=(l.map f).toArray
def lK(l:ag):(fa f l).size=l.length:=by unfold fa;rw[aZ,aM]
def Lv(l:ag)(i:Nat):(fa f l)[i]?=(l[i]?).map f:=by unfold fa;rw[dN,bg]
def lg{l:ag}{i x:Nat}(h:l[i]?=some x):(fa f l)[i]?=some (f x):=by rw[Lv,h];rfl
def tR(l:ag)(x:Nat):(fa f l).push (f x)=fa f (l++[x]):=by
 unfold fa;rw[List.push_toArray,cF];rfl
def nQ(l m:ag):fa f l++fa f m=fa f (l++m):=by
 unfold fa;rw[List.append_toArray,cF]
def uD(l:ag)(i j:Nat):(fa f l).extract i j=fa f ((l.drop i).take<|j-i):=by
 unfold fa;rw[List.extract_toArray,List.extract_eq_take_drop,List.map_take,List.map_drop]
def vJ(l:ag)(i:Nat):(fa f l).extract i l.length=fa f (l.drop i):=by
 rw[uD,fW<|by rw[dH];lia]
structure Ab (o:Ord)(N:Nat)(A B:ag):Prop where
 sa:A.Pairwise (P o)
 sb:B.Pairwise (P o)
 lt:∀x∈A,∀y∈B,x<y
 nb:∀y∈B,y<N
 na:∀x∈A,x<N
structure Mg (o:Ord)(A B hs:ag)(ia ib:Nat):Prop where
 la:ia<=A.length
 lb:ib<=B.length
 len:hs.length=ia+ib
 so:hs.Pairwise (P o)
 mem:∀x∈hs,x∈A\/x∈B
 ua:∀x∈hs,∀y∈A.drop ia,P o x y
 ub:∀x∈hs,∀y∈B.drop ib,P o x y
abbrev Res (o:Ord)(f:Nat->Keyed)(A B:ag)(out:Array Keyed):Prop:=∃hs:ag,out=fa f hs/\hs.length=A.length+B.length/\hs.Pairwise (P o)/\∀x∈hs,x∈A\/x∈B
def qK{l:ag}(h:l.Pairwise<|P o){i j x:Nat}(hx:l[i]?=some x)(hy:l[j]?=some y)(hij:i<j):P o x y:=by
 obtain⟨h1,e1⟩:=aI.mp hx;obtain⟨h2,e2⟩:=aI.mp hy;rw[<- e1,<- e2];exact cY.mp h i j h1 h2 hij
def tO{l:ag}{y:Nat}(h:y∈l.drop i):∃j,i<=j/\l[j]?=some y:=by
 obtain⟨k,hk⟩:=gE h;rw[fH]at hk;exact⟨i+k,(),hk⟩
def Mg.uL(ab:Ab o N A B)(m:Mg o A B hs ia ib){x:Nat}(hx:A[ia]?=some x)(h:∀y∈B.drop ib,P o x y):Mg o A B (hs++[x]) (ia+1) ib:=by
 obtain⟨h1,e1⟩:=aI.mp hx;have hd:A.drop ia=x::A.drop (ia+1):=by rw[<- e1];exact bV h1
 refine⟨(),m.lb,by rw[bh,m.len];show ia+ib+1=_;lia,?_,λz hz=>?_,λz hz y hy=>?_,λz hz y hy=>?_⟩
 ·rw[bY];exact⟨m.so,cT ..,λa ha b hb=>by rw[bC.mp hb];exact m.ua a ha x<|by rw[hd];exact aN ..⟩
 ·rcases bF.mp hz with z'|z'
  ·exact m.mem z z'
  ·rw[bC.mp z'];exact .inl<|aX hx
 ·rcases bF.mp hz with z'|z'
  ·exact m.ua z z' y (by rw[hd];exact aQ _ hy)
  ·rw[bC.mp z'];obtain⟨j,hj,ej⟩:=tO hy;exact qK ab.sa hx ej ()
 ·rcases bF.mp hz with z'|z'
  ·exact m.ub z z' y hy
  ·rw[bC.mp z'];exact h y hy
def Ab.vN(ab:Ab o N A B)(m:Mg o A B hs ia ib){x:Nat}(hx:B[ib]?=some x)(h:∀y∈A.drop ia,P o x y):Mg o A B (hs++[x]) ia (ib+1):=by
 obtain⟨h1,e1⟩:=aI.mp hx;have hd:B.drop ib=x::B.drop (ib+1):=by rw[<- e1];exact bV h1
 refine⟨m.la,(),by rw[bh,m.len];rfl,?_,λz hz=>?_,λz hz y hy=>?_,λz hz y hy=>?_⟩
 ·rw[bY];exact⟨m.so,cT ..,λa ha b hb=>by rw[bC.mp hb];exact m.ub a ha x<|by rw[hd];exact aN ..⟩
 ·rcases bF.mp hz with z'|z'
  ·exact m.mem z z'
  ·rw[bC.mp z'];exact .inr<|aX hx
 ·rcases bF.mp hz with z'|z'
  ·exact m.ua z z' y hy
  ·rw[bC.mp z'];exact h y hy
 ·rcases bF.mp hz with z'|z'
  ·exact m.ub z z' y (by rw[hd];exact aQ _ hy)
  ·rw[bC.mp z'];obtain⟨j,hj,ej⟩:=tO hy;exact qK ab.sb hx ej ()
def pV{l:ag}(h:l.Pairwise<|P o){i x:Nat}(hx:l[i]?=some x)(hxy:P o y x):∀z∈l.drop i,P o y z:=λz hz=>by
 obtain⟨j,hj,ej⟩:=tO hz;by_cases c:j=i
 ·subst c;rw[hx]at ej;cases ej;exact hxy
 ·exact hxy.trans<|qK h hx ej ()
def take_snoc{l:ag}{k x:Nat}(h:l[i+k]?=some x):(l.drop i).take (k+1)=(l.drop i).take k++[x]:=by
 have h':(l.drop i)[k]?=some x:=by rw[fH];exact h
 obtain⟨h1,e1⟩:=aI.mp h';rw[fX h1,e1]
theorem Mg.xS(ab:Ab o N A B)(m:Mg o A B hs ia ib)(hy:B[ib]?=some y):∀k,ia+k<=A.length->(∀i x,i<k->A[ia+i]?=some x->P o x y)->Mg o A B (hs++(A.drop ia).take k) (ia+k) ib
 | 0,_,_=>by rw[eY,bK];exact m
 | k+1,hk,h=>by
  have ih:=Mg.xS ab m hy k () λi x hi=>h i x ();have hx:A[ia+k]?=some (A[ia+k]'()):=aG _;rw[take_snoc hx,<- bO];exact ih.uL ab hx<|pV ab.sb hy<|h k _ () hx
theorem Mg.vX(ab:Ab o N A B)(m:Mg o A B hs ia ib)(hy:A[ia]?=some y):∀k,ib+k<=B.length->(∀i x,i<k->B[ib+i]?=some x->P o x y)->Mg o A B (hs++(B.drop ib).take k) ia (ib+k)
 | 0,_,_=>by rw[eY,bK];exact m
 | k+1,hk,h=>by
  have ih:=Mg.vX ab m hy k () λi x hi=>h i x ();have hx:B[ib+k]?=some (B[ib+k]'()):=aG _;rw[take_snoc hx,<- bO];exact ab.vN ih hx<|pV ab.sa hy<|h k _ () hx
def vA{l:ag}(h:l.Pairwise<|P o)(i:Nat):(l.drop i).Pairwise (P o):=h.sublist<|List.drop_sublist ..
def Mg.fin(ab:Ab o N A B)(m:Mg o A B hs ia ib)(h:∀x∈A.drop ia,∀y∈B.drop ib,P o x y):Res o f A B (fa f hs++(fa f A).extract ia A.length++(fa f B).extract ib B.length):=by
 rw[vJ,vJ,nQ,nQ];have la:=m.la;have lb:=m.lb;refine⟨_,rfl,by rw[bh,bh,m.len,dH,dH];lia,?_,λx hx=>?_⟩
 ·rw[bY,bY];refine⟨⟨m.so,vA ab.sa _,m.ua⟩,vA ab.sb _,λx hx y hy=>?_⟩
  rcases bF.mp hx with z|z
  ·exact m.ub x z y hy
  ·exact h x z y hy
 ·rcases bF.mp hx with z|z
  ·rcases bF.mp z with z|z
   ·exact m.mem x z
   ·exact .inl<|dU z
  ·exact .inr<|dU z
def Mg.Ux(ab:Ab o N A B)(m:Mg o A B hs ia ib)(h:∀x∈A.drop ia,∀y∈B.drop ib,P o y x):Res o f A B (fa f hs++(fa f B).extract ib B.length++(fa f A).extract ia A.length):=by
 rw[vJ,vJ,nQ,nQ];have la:=m.la;have lb:=m.lb;refine⟨_,rfl,by rw[bh,bh,m.len,dH,dH];lia,?_,λx hx=>?_⟩
 ·rw[bY,bY];refine⟨⟨m.so,vA ab.sb _,m.ub⟩,vA ab.sa _,λx hx y hy=>?_⟩
  rcases bF.mp hx with z|z
  ·exact m.ua x z y hy
  ·exact h y hy x z
 ·rcases bF.mp hx with z|z
  ·rcases bF.mp z with z|z
   ·exact m.mem x z
   ·exact .inr<|dU z
  ·exact .inl<|dU z
def drop_nil{l:ag}(h:l.length<=i):l.drop i=[]:=List.drop_eq_nil_of_le h
def FY{l:ag}(h:l.Pairwise<|P o)(b n:Nat)(hn:b+n<=l.length):So o (λi=>l.getD (b+i) 0) 0 n:=λi j _ hij hj=>
 qK h (i:=b+i) (j:=b+j) (by show _=some (l.getD (b+i) 0);rw[aL,aG<|show b+i<l.length by lia];rfl) (by show _=some (l.getD (b+j) 0);rw[aL,aG<|show b+j<l.length by lia];rfl) ()
def getD_at{l:ag}{i:Nat}(h:i<l.length):l[i]?=some (l.getD i 0):=by
 rw[aL,aG h];rfl
end
structure Sm (st st':SortSt):Prop where
 a:arrOf st'=arrOf st
 k:kindOf st'=kindOf st
 p:pendingOf st'=pendingOf st
 f:failedOf st'=failedOf st
def Sm.refl{st:SortSt}:Sm st st:=⟨rfl,rfl,rfl,rfl⟩
def Sm.trans{st:SortSt}(a:Sm st st')(b:Sm st' st''):Sm st st'':=⟨b.a.trans a.a,b.k.trans a.k,b.p.trans a.p,b.f.trans a.f⟩
meta abbrev G:=Option (Array Keyed)×Array Keyed×Nat×Nat×Nat×Nat×Nat
abbrev T3 (a b out:Array Keyed)(ia ib mg ac bc:Nat):StateT SortSt Sem (ForInStep G):=do
 let x <- elem' a ia
 if (ia+1+1 == a.size)=true then pure (ForInStep.done (some<|out.push x++b.extract ib b.size++a.extract (ia+1) a.size,out.push x,ia+1,ib,mg,ac,bc))
 else if (decide (ac<7) && decide (bc<7))=true then pure (ForInStep.done (none,out.push x,ia+1,ib,mg,ac,bc))
 else pure (ForInStep.yield (none,out.push x,ia+1,ib,mg,ac,bc))
abbrev T2 (a b out:Array Keyed)(ia ib mg ac bc:Nat):StateT SortSt Sem (ForInStep G):=do
 let x <- elem' b ib
 if (ib+1 == b.size)=true then pure (ForInStep.done (some<|out.push x++a.extract ia a.size++b.extract (ib+1) b.size,out.push x,ia,ib+1,mg,ac,bc))
 else
  let y <- elem' a ia
  let r <- k_ true y b (ib+1) (b.size-(ib+1)) 0
  match r with
  | some k=>
   if k>0 then
    if (ib+1+k == b.size)=true then pure (ForInStep.done (some<|out.push x++b.extract (ib+1) (ib+1+k)++a.extract ia a.size++b.extract (ib+1+k) b.size,out.push x++b.extract (ib+1) (ib+1+k),ia,ib+1+k,mg,ac,k))
    else T3 a b (out.push x++b.extract (ib+1) (ib+1+k)) ia (ib+1+k) mg ac k
   else T3 a b (out.push x) ia (ib+1) mg ac k
  | _=>pure<|ForInStep.done (some<|out.push x++a.extract ia a.size++b.extract (ib+1) b.size,out.push x,ia,ib+1,mg,ac,bc)
abbrev T1 (a b out:Array Keyed)(ia ib mg ac bc:Nat):StateT SortSt Sem (ForInStep G):=do
 uR mg
 let x <- elem' b ib
 let r <- k_ false x a ia (a.size-ia) 0
 match r with
 | some k=>
  if k>0 then
   if (ia+k+1 == a.size)=true then pure (ForInStep.done (some<|out++a.extract ia (ia+k)++b.extract ib b.size++a.extract (ia+k) a.size,out++a.extract ia (ia+k),ia+k,ib,mg,k,bc))
   else if (ia+k == a.size)=true then pure (ForInStep.done (some<|out++a.extract ia (ia+k)++a.extract (ia+k) a.size++b.extract ib b.size,out++a.extract ia (ia+k),ia+k,ib,mg,k,bc))
   else T2 a b (out++a.extract ia (ia+k)) (ia+k) ib mg k bc
  else T2 a b out ia ib mg k bc
 | _=>pure<|ForInStep.done (some<|out++a.extract ia a.size++b.extract ib b.size,out,ia,ib,mg,ac,bc)
section
variable {prog:aj}{w:ah}{A:aA}{E:af->aC->Prop}{s:aC}{o:Ord}{N:Nat}{f:Nat->Keyed}{kd:SortKind}{st st0:SortSt}{X Y hs:ag}{ia ib:Nat}
def sV(h:Sm st0 st){Q:Unit->SortSt->Prop}(q:∀st',Sm st0 st'->Q Unit.unit st'):wpS (model prog w) A E s (uR m) Q st:=by
 rw[Oq];exact eo<|q _<|h.trans ⟨rfl,rfl,rfl,rfl⟩
abbrev On (o:Ord)(f:Nat->Keyed)(X Y:ag)(n:Nat)(hs:ag)(ia ib:Nat):Prop:=Mg o X Y hs ia ib/\ia+1<X.length/\ib<Y.length/\n<=ia+ib
abbrev G2 (o:Ord)(f:Nat->Keyed)(X Y:ag)(n:Nat)(st0:SortSt):ForInStep G->SortSt->Prop:=λr st'=>Sm st0 st'/\match r with
 | .done c=>(∃r z,c=(some r,z)/\Res o f X Y r)\/∃hs ia ib mg ac bc,c=(none,fa f hs,ia,ib,mg,ac,bc)/\On o f X Y n hs ia ib
 | .yield c=>∃hs ia ib mg ac bc,c=(none,fa f hs,ia,ib,mg,ac,bc)/\On o f X Y n hs ia ib
abbrev Top (o:Ord)(X Y:ag):Prop:=∀i x,X[i]?=some x->i+1=X.length->∀y∈Y,P o y x
def YB{α β γ κ:Type}{g:α->κ}{O:α->β->γ->Prop}{T:κ->Prop}(k:∀a b c,O a b c->T (g a)):∀q,(∃a b c,q=g a/\O a b c)->T q:=by
 rintro _ ⟨a,b,c,rfl,h⟩;exact k a b c h
def Yb{α β γ δ κ:Type}{S:Prop}{g:α->β->γ->δ->κ}{O:α->β->γ->δ->Prop}{T:κ->Prop}(k:S->∀a b c d,O a b c d->T (g a b c d)):∀q,(S/\∃a b c d,q=g a b c d/\O a b c d)->T q:=by
 rintro q ⟨s,a,b,c,d,rfl,o⟩;exact k s a b c d o
def Yr{α β γ δ ε κ:Type}{S:Prop}{g:α->β->γ->δ->ε->κ}{O:α->β->γ->δ->ε->Prop}{T:κ->Prop}(k:S->∀a b c d e,O a b c d e->T (g a b c d e)):∀q,(S/\∃a b c d e,q=g a b c d e/\O a b c d e)->T q:=by
 rintro q ⟨s,a,b,c,d,e,rfl,o⟩;exact k s a b c d e o
def Yp{α β γ δ ε ζ κ:Type}{S:Prop}{g:α->β->γ->δ->ε->ζ->κ}{O:α->β->γ->δ->ε->ζ->Prop}{T:κ->Prop}(k:S->∀a b c d e f,O a b c d e f->T (g a b c d e f)):∀q,(S/\∃a b c d e f,q=g a b c d e f/\O a b c d e f)->T q:=by
 rintro q ⟨s,a,b,c,d,e,f,rfl,o⟩;exact k s a b c d e f o
def X_{α β γ δ ε κ ρ σ:Type}{S:Prop}{j:ρ->σ->κ}{R:ρ->Prop}{g:α->β->γ->δ->ε->κ}{O:α->β->γ->δ->ε->Prop}{T:κ->Prop}(k1:S->∀r z,R r->T (j r z))(k:S->∀a b c d e,O a b c d e->T (g a b c d e)):∀q,(S/\((∃r z,q=j r z/\R r)\/∃a b c d e,q=g a b c d e/\O a b c d e))->T q:=by
 rintro q ⟨s,⟨r,z,rfl,hr⟩|⟨a,b,c,d,e,rfl,o⟩⟩
 ·exact k1 s r z hr
 ·exact k s a b c d e o
def Yu{α β γ δ ε ζ κ ρ σ:Type}{S:Prop}{j:ρ->σ->κ}{R:ρ->Prop}{g:α->β->γ->δ->ε->ζ->κ}{O:α->β->γ->δ->ε->ζ->Prop}{T:κ->Prop}(k1:S->∀r z,R r->T (j r z))(k:S->∀a b c d e f,O a b c d e f->T (g a b c d e f)):∀q,(S/\((∃r z,q=j r z/\R r)\/∃a b c d e f,q=g a b c d e f/\O a b c d e f))->T q:=by
 rintro q ⟨s,⟨r,z,rfl,hr⟩|⟨a,b,c,d,e,f,rfl,o⟩⟩
 ·exact k1 s r z hr
 ·exact k s a b c d e f o
def sQ(ab:Ab o N X Y)(tp:Top o X Y)(m:Mg o X Y hs ia ib)(h:ia+1=X.length):Res o f X Y (fa f hs++(fa f Y).extract ib Y.length++(fa f X).extract ia X.length):=
 m.Ux ab λx hx y hy=>by
  obtain⟨j,hj,ej⟩:=tO hx;have:=(aI.mp ej).1;exact tp j x ej () y<|dU hy
def Qk(ab:Ab o N X Y)(tp:Top o X Y)(hm:Sm st0 st){n mg x:Nat}(m:Mg o X Y hs ia ib)(ha:ia+1<X.length)(hb:ib<Y.length)(hn:n<=ia+ib)(hx:X[ia]?=some x)(hy:Y[ib]?=some y)(hxy:P o x y) :
  wpS (model prog w) A E s (T3 (fa f X) (fa f Y) (fa f hs) ia ib mg ac bc) (G2 o f X Y n st0) st:=by
 unfold T3;rw[lK,lK];refine aU<|jj (lg hx) ?_;have m2:=m.uL ab hx<|pV ab.sb hy hxy;rw[tR];by_cases c:ia+1+1=X.length
 ·rw[aJ<|by rw[c];exact bM _];exact aY ⟨hm,.inl ⟨_,_,rfl,sQ ab tp m2 c⟩⟩
 ·rw[aK<|by simpa using c];by_cases c2:(decide (ac<7) && decide (bc<7))=true
  ·rw[aJ c2];exact aY ⟨hm,.inr ⟨_,_,_,_,_,_,rfl,m2,(),hb,()⟩⟩
  ·rw[aK c2];exact aY ⟨hm,⟨_,_,_,_,_,_,rfl,m2,(),hb,()⟩⟩
def PV(C:zp prog w A s o N f kd)(hk:kindOf st=kd)(ab:Ab o N X Y)(tp:Top o X Y)(hm:Sm st0 st){n mg x:Nat}(m:Mg o X Y hs ia ib)(ha:ia+1<X.length)(hb:ib<Y.length)(hn:n<=ia+ib)(hx:X[ia]?=some x)(hy:Y[ib]?=some y)(hxy:P o y x) :
  wpS (model prog w) A E s (T2 (fa f X) (fa f Y) (fa f hs) ia ib mg ac bc) (G2 o f X Y n st0) st:=by
 unfold T2;rw[lK,lK];refine aU<|jj (lg hy) ?_;have m2:=ab.vN m hy<|pV ab.sa hx hxy;rw[tR];by_cases c:ib+1=Y.length
 ·rw[aJ<|by rw[c];exact bM _];exact aY ⟨hm,.inl ⟨_,_,rfl,m2.fin ab λx _ y hy=>by rw[drop_nil ()]at hy;cases hy⟩⟩
 ·rw[aK<|by simpa using c];refine aU<|jj (lg hx) ?_;refine aU (Kx C hk (h:=λi=>Y.getD (ib+1+i) 0) (λi hi=>lg<|getD_at ()) (λi hi=>?_) (FY ab.sb _ _ ()) () λk k1 k2 k3=>?_)
  ·have:=aX<|getD_at (l:=Y) (i:=ib+1+i) ();exact⟨ab.lt x (aX hx) _ this,ab.nb _ this⟩
  ·dsimp only;have m3:=m2.vX ab hx k () λi z hi ez=>by
    have:=k2 i hi;rw[aL,ez]at this;exact this
   by_cases c2:k>0
   ·rw[aJ c2,uD,show ib+1+k-(ib+1)=k by lia,nQ];by_cases c3:ib+1+k=Y.length
    ·rw[aJ<|by rw[c3];exact bM _];exact aY ⟨hm,.inl ⟨_,_,rfl,m3.fin ab λx _ y hy=>by rw[drop_nil ()]at hy;cases hy⟩⟩
    ·rw[aK<|by simpa using c3];exact Qk ab tp hm m3 ha () () hx (getD_at ())<|k3 k (aO _) ()
   ·rw[aK c2];have:k=0:=()
    subst this;exact Qk ab tp hm m2 ha () () hx (getD_at ())<|k3 0 (aO _) ()
def VX(C:zp prog w A s o N f kd)(hk:kindOf st0=kd)(ab:Ab o N X Y)(tp:Top o X Y)(hm:Sm st0 st){n mg:Nat}(m:Mg o X Y hs ia ib)(ha:ia+1<X.length)(hb:ib<Y.length)(hn:n<=ia+ib) :
  wpS (model prog w) A E s (T1 (fa f X) (fa f Y) (fa f hs) ia ib mg ac bc) (G2 o f X Y n st0) st:=by
 unfold T1;rw[lK,lK];refine aU<|sV hm λst1 hm1=>?_;have hy:=getD_at (l:=Y) (i:=ib) hb;have yB:=aX hy;refine aU<|jj (lg hy) ?_;refine aU (MV C (by rw[hm1.k];exact hk) (h:=λi=>X.getD (ia+i) 0) (λi hi=>lg<|getD_at ()) (λi hi=>ab.lt _ (aX<|getD_at (l:=X) (i:=ia+i) ()) _ yB) (ab.nb _ yB) (FY ab.sa _ _ ()) () λk k1 k2 k3=>?_);dsimp only;have m3:=m.xS ab hy k () λi z hi ez=>by
  have:=k2 i hi;rw[aL,ez]at this;exact this
 by_cases c2:k>0
 ·rw[aJ c2,uD,show ia+k-ia=k by lia,nQ];by_cases c3:ia+k+1=X.length
  ·rw[aJ<|by rw[c3];exact bM _];exact aY ⟨hm1,.inl ⟨_,_,rfl,sQ ab tp m3 c3⟩⟩
  ·rw[aK<|by simpa using c3];by_cases c4:ia+k=X.length
   ·rw[aJ<|by rw[c4];exact bM _];exact aY ⟨hm1,.inl ⟨_,_,rfl,m3.fin ab λx hx y _=>by rw[drop_nil ()]at hx;cases hx⟩⟩
   ·rw[aK<|by simpa using c4];exact PV C (by rw[hm1.k];exact hk) ab tp hm1 m3 () hb () (getD_at ()) hy<|k3 k (aO _) ()
 ·rw[aK c2];have:k=0:=()
  subst this;exact PV C (by rw[hm1.k];exact hk) ab tp hm1 m ha hb hn (getD_at ()) hy<|k3 0 (aO _) ()
def V_(C:zp prog w A s o N f kd)(hk:kindOf st=kd)(ab:Ab o N X Y)(tp:Top o X Y)(h1:1<=X.length)(hy0:Y[0]?=some y0)(h0:∀x∈X,P o y0 x)
  {Q:Array Keyed->SortSt->Prop} (q:∀out st',Sm st st'->Res o f X Y out->Q out st'):wpS (model prog w) A E s (wB (fa f X)<|fa f Y) Q st:=by
 rw[DS];mg_lt;dsimp only;rw[lK,lK];have hY:=(aI.mp hy0).1;refine aU<|jj (lg hy0) ?_;have m0:Mg o X Y [] 0 0:=⟨cE _,cE _,rfl,List.Pairwise.nil,(nofun),(nofun),(nofun)⟩;have m1:Mg o X Y [y0] 0 1:=ab.vN m0 hy0 h0;have e1:(#[f y0]:Array Keyed)=fa f [y0]:=rfl;rw[e1];by_cases c:1=Y.length
 ·rw[aJ<|by rw[<- c];rfl];exact aY (q _ _ Sm.refl<|m1.fin ab λx _ y hy=>by rw[drop_nil ()]at hy;cases hy)
 ·rw[aK<|by simpa using c];by_cases c2:0+1=X.length
  ·rw[aJ<|by rw[<- c2];rfl];exact aY (q _ _ Sm.refl<|sQ ab tp m1 c2)
  ·rw[aK<|by simpa using c2];refine aU<|fV ?_;refine aU (dw (cg (I:=λx c st'=>Sm st st'/\∃hs ia ib mg,c=(none,fa f hs,ia,ib,mg)/\On o f X Y (x+1) hs ia ib)
    (Q:=λc st'=>Sm st st'/\∃r z,c=(some r,z)/\Res o f X Y r) ?step ?fin ⟨Sm.refl,_,_,_,_,rfl,m1,(),(),aO _⟩) ?post)
   case post=>
    rintro c st' ⟨hm,r,z,rfl,hr⟩;exact aY<|q _ _ hm hr
   case fin=>
    rintro c st' ⟨hm,hs,ia,ib,mg,rfl,m,a1,a2,a3⟩;exfalso
    lia
   case step=>
    intro x c st' _ hx hh;revert hh;revert c;refine Yb λhm hs ia ib mg ho=>?_;have m:=ho.1;have a1:=ho.2.1;have a2:=ho.2.2.1;have a3:=ho.2.2.2;clear ho;dsimp only;refine aU (dw (cg (I:=λx' c st''=>Sm st st''/\∃hs ia ib ac bc,c=(none,fa f hs,ia,ib,ac,bc)/\On o f X Y (x+1+min x' 1) hs ia ib)
     (Q:=λc st''=>Sm st st''/\((∃r z,c=(some r,z)/\Res o f X Y r)\/∃hs ia ib ac bc,c=(none,fa f hs,ia,ib,ac,bc)/\On o f X Y (x+1+1) hs ia ib)) ?istep ?ifin ⟨hm,_,_,_,_,_,rfl,m,a1,a2,a3⟩) ?ipost)
    case ifin=>
     rintro c st'' ⟨hm',hs,ia,ib,ac,bc,rfl,m,a1,a2,a3⟩;exact⟨hm',.inr ⟨_,_,_,_,_,rfl,m,a1,a2,()⟩⟩
    case istep=>
     intro x' c st'' _ hx' hh;revert hh;revert c;refine Yr λhm' hs ia ib ac bc ho=>?_;have m:=ho.1;have a1:=ho.2.1;have a2:=ho.2.2.1;have a3:=ho.2.2.2;clear ho;dsimp only;have hy:=getD_at (l:=Y) (i:=ib) a2;have hxx:=getD_at (l:=X) (i:=ia) ();have yB:=aX hy;have xA:=aX hxx;have lt:=ab.lt _ xA _ yB;refine aU<|jj (lg hy) ?_;refine aU<|jj (lg hxx) ?_;refine aU (yd C (by rw[hm'.k];exact hk) (ab.nb _ yB) (ab.na _ xA) ?_)
     cases hl:o.lt (Y.getD ib 0) (X.getD ia 0)
     ·dsimp[bq,bX];refine aU<|jj (lg hxx) ?_;have m2:=m.uL ab hxx<|pV ab.sb hy<|P.uV hl lt;rw[tR];by_cases c3:ia+1+1=X.length
      ·rw[aJ<|by rw[c3];exact bM _];exact aY ⟨hm',.inl ⟨_,_,rfl,sQ ab tp m2 c3⟩⟩
      ·rw[aK<|by simpa using c3];by_cases c4:ac+1>=mg
       ·rw[aJ c4];exact aY ⟨hm',.inr ⟨_,_,_,_,_,rfl,m2,(),a2,()⟩⟩
       ·rw[aK c4];exact aY ⟨hm',_,_,_,_,_,rfl,m2,(),a2,()⟩
     ·dsimp[cX];refine aU<|jj (lg hy) ?_;have m2:=ab.vN m hy<|pV ab.sa hxx<|P.of_lt hl;rw[tR];by_cases c3:ib+1=Y.length
      ·rw[aJ<|by rw[c3];exact bM _];exact aY ⟨hm',.inl ⟨_,_,rfl,m2.fin ab λx _ y hy=>by rw[drop_nil ()]at hy;cases hy⟩⟩
      ·rw[aK<|by simpa using c3];by_cases c4:bc+1>=mg
       ·rw[aJ c4];exact aY ⟨hm',.inr ⟨_,_,_,_,_,rfl,m2,a1,(),()⟩⟩
       ·rw[aK c4];exact aY ⟨hm',_,_,_,_,_,rfl,m2,a1,(),()⟩
    case ipost=>
     intro c st'' hh;revert hh;revert c;refine X_ (λhm' r z hr=>?_) λhm' hs ia ib ac bc ho=>?_
     ·dsimp only;exact aY ⟨hm',r,_,rfl,hr⟩
     ·have m:=ho.1;have a1:=ho.2.1;have a2:=ho.2.2.1;have a3:=ho.2.2.2;clear ho;dsimp only;mg_lt;refine aU (dw (cg (I:=λx' c st''=>Sm st st''/\∃hs ia ib mg ac bc,c=(none,fa f hs,ia,ib,mg,ac,bc)/\On o f X Y (x+1+1) hs ia ib)
       (Q:=λc st''=>Sm st st''/\((∃r z,c=(some r,z)/\Res o f X Y r)\/∃hs ia ib mg ac bc,c=(none,fa f hs,ia,ib,mg,ac,bc)/\On o f X Y (x+1+1) hs ia ib)) ?jstep ?jfin ⟨hm',_,_,_,_,_,_,rfl,m,a1,a2,a3⟩) ?jpost)
      case jfin=>
       rintro c st3 ⟨hm3,hh⟩;exact⟨hm3,.inr hh⟩
      case jstep=>
       intro x' c st3 _ hx' hh;revert hh;revert c;refine Yp λhm3 hs ia ib mg ac bc ho=>?_;have m:=ho.1;have a1:=ho.2.1;have a2:=ho.2.2.1;have a3:=ho.2.2.2;clear ho;dsimp only;have t1:=λmg=>VX (n:=x+1+1) (mg:=mg) (ac:=ac) (bc:=bc) (E:=E) C hk ab tp hm3 m a1 a2 a3;unfold T1 T2 T3 at t1;rw[lK,lK]at t1;refine dw (Q:=G2 o f X Y (x+1+1) st) ?_ ?_
       ·by_cases c3:mg>1
        ·rw[aJ c3];exact t1 (mg-1)
        ·rw[aK c3];exact t1 mg
       ·rintro r st4 ⟨hm4,hr⟩
        cases r with
        | done c=>exact⟨hm4,hr⟩
        | yield c=>exact⟨hm4,hr⟩
      case jpost=>
       intro c st3 hh;revert hh;revert c;refine Yu (λhm3 r z hr=>?_) λhm3 hs ia ib mg ac bc ho=>?_
       ·dsimp only;exact aY ⟨hm3,r,_,rfl,hr⟩
       ·have m:=ho.1;have a1:=ho.2.1;have a2:=ho.2.2.1;have a3:=ho.2.2.2;clear ho;dsimp only;refine aU<|sV hm3 λst4 hm4=>?_;exact aY ⟨hm4,_,_,_,_,rfl,m,a1,a2,a3⟩
end
def Ea(a b:Array Keyed):v_ a b=(do
 rule "list.sort.merge-hi"
 let all_:=a.size+b.size
 let end1 (acc:Array Keyed) (p q:Nat):=a.extract 0 p++b.extract 0 q++acc.reverse
 let end2 (acc:Array Keyed) (p q:Nat):=b.extract 0 q++a.extract 0 p++acc.reverse
 let mut p:=a.size-1
 let mut q:=b.size
 let mut acc:Array Keyed:=#[<- elem' a p]
 if p == 0 then return end1 acc p q
 if q == 1 then return end2 acc p q
 let mut mg:=gallopOf (<- get)
 for _ in [0:all_] do
  let mut ca:=0
  let mut cb:=0
  for _ in [0:all_] do
   let some won <- lt' (<- elem' b (q-1)) (<- elem' a (p-1))|return end1 acc p q
   if won then
    p:=p-1;acc:=acc.push<|<- elem' a p;ca:=ca+1;cb:=0
    if p == 0 then return end1 acc p q
    if ca>=mg then break
   else
    q:=q-1;acc:=acc.push<|<- elem' b q;cb:=cb+1;ca:=0
    if q == 1 then return end2 acc p q
    if cb>=mg then break
  rule "list.sort.gallop"
  mg:=mg+1
  for _ in [0:all_] do
   if mg>1 then mg:=mg-1
   uR mg
   let some t <- k_ false (<- elem' b (q-1)) a 0 p (p-1)|return end1 acc p q
   let k:=p-t
   ca:=k
   if k>0 then
    acc:=acc++(a.extract t p).reverse;p:=t
    if p == 0 then return end1 acc p q
   q:=q-1;acc:=acc.push (<- elem' b q)
   if q == 1 then return end2 acc p q
   let some t <- k_ true (<- elem' a (p-1)) b 0 q (q-1)|return end1 acc p q
   let k:=q-t
   cb:=k
   if k>0 then
    acc:=acc++(b.extract t q).reverse;q:=t
    if q == 1 then return end2 acc p q
    if q == 0 then return end1 acc p q
   p:=p-1;acc:=acc.push (<- elem' a p)
   if p == 0 then return end1 acc p q
   if ca<7 && cb<7 then break
  mg:=mg+1
  uR mg
 unsupported "internal:list.sort.merge-bound"):=rfl
section
variable {o:Ord}{N:Nat}{f:Nat->Keyed}{A B ts:ag}{na nb:Nat}
def MO(l:ag):(fa f l).reverse=fa f l.reverse:=by
 unfold fa;rw[List.reverse_toArray,List.map_reverse]
def vt(l:ag)(i:Nat):(fa f l).extract 0 i=fa f (l.take i):=by
 rw[uD,List.drop_zero,Nat.sub_zero]
structure Mh (o:Ord)(A B ts:ag)(na nb:Nat):Prop where
 la:na<=A.length
 lb:nb<=B.length
 len:ts.length+na+nb=A.length+B.length
 so:ts.Pairwise (P o)
 mem:∀x∈ts,x∈A\/x∈B
 ua:∀y∈A.take na,∀x∈ts,P o y x
 ub:∀y∈B.take nb,∀x∈ts,P o y x
def tP{l:ag}{y:Nat}(h:y∈l.take i):∃j,j<i/\l[j]?=some y:=by
 obtain⟨k,hk⟩:=gE h;have:=(aI.mp hk).1;rw[bL]at this;rw[fm ()]at hk;exact⟨k,(),hk⟩
def take_one{l:ag}{i x:Nat}(h:l[i]?=some x):l.take (i+1)=l.take i++[x]:=by
 obtain⟨h1,e1⟩:=aI.mp h;rw[fX h1,e1]
def Mh.uL(ab:Ab o N A B)(m:Mh o A B ts (na+1) nb){x:Nat}(hx:A[na]?=some x)(h:∀y∈B.take nb,P o y x):Mh o A B (x::ts) na nb:=by
 have la:=m.la;have len:=m.len;have ht:=take_one hx;have xin:x∈A.take (na+1):=by rw[ht];exact br _ (bC.mpr rfl)
 refine⟨(),m.lb,by rw[bA];lia,bZ.mpr ⟨λy hy=>m.ua x xin y hy,m.so⟩,λz hz=>?_,λy hy z hz=>?_,λy hy z hz=>?_⟩
 ·rcases bB.mp hz with rfl|z'
  ·exact .inl (aX hx)
  ·exact m.mem z z'
 ·rcases bB.mp hz with rfl|z'
  ·obtain⟨j,hj,ej⟩:=tP hy;exact qK ab.sa ej hx hj
  ·exact m.ua y (by rw[ht];exact bR _ hy) z z'
 ·rcases bB.mp hz with rfl|z'
  ·exact h y hy
  ·exact m.ub y hy z z'
def Mh.Kv(ab:Ab o N A B)(m:Mh o A B ts na<|nb+1){x:Nat}(hx:B[nb]?=some x)(h:∀y∈A.take na,P o y x):Mh o A B (x::ts) na nb:=by
 have lb:=m.lb;have len:=m.len;have ht:=take_one hx;have xin:x∈B.take (nb+1):=by rw[ht];exact br _ (bC.mpr rfl)
 refine⟨m.la,(),by rw[bA];lia,bZ.mpr ⟨λy hy=>m.ub x xin y hy,m.so⟩,λz hz=>?_,λy hy z hz=>?_,λy hy z hz=>?_⟩
 ·rcases bB.mp hz with rfl|z'
  ·exact .inr (aX hx)
  ·exact m.mem z z'
 ·rcases bB.mp hz with rfl|z'
  ·exact h y hy
  ·exact m.ua y hy z z'
 ·rcases bB.mp hz with rfl|z'
  ·obtain⟨j,hj,ej⟩:=tP hy;exact qK ab.sb ej hx hj
  ·exact m.ub y (by rw[ht];exact bR _ hy) z z'
def p7{l:ag}(h:l.Pairwise<|P o){i x:Nat}(hx:l[i]?=some x)(hxy:P o x y):∀z∈l.take (i+1),P o z y:=λz hz=>by
 obtain⟨j,hj,ej⟩:=tP hz;by_cases c:j=i
 ·subst c;rw[hx]at ej;cases ej;exact hxy
 ·exact(qK h ej hx ()).trans hxy
theorem Mh.xS(ab:Ab o N A B){mb:Nat}(hy:B[mb]?=some y):∀(k:Nat) {ts:ag}{at_:Nat},Mh o A B ts (at_+k) (mb+1)->(∀i x,at_<=i->i<at_+k->A[i]?=some x->P o y x)->Mh o A B ((A.drop at_).take k++ts) at_ (mb+1)
 | 0,ts,at_,m,_=>by rw[eY];exact m
 | k+1,ts,at_,m,h=>by
  have la:=m.la;have hx:A[at_+k]?=some (A[at_+k]'()):=aG _;have m2:=Mh.uL ab (show Mh o A B ts (at_+k+1) (mb+1)from m) hx<|p7 ab.sb hy<|h _ _ () () hx;have m3:=Mh.xS ab hy k m2 λi x h1 h2=>h i x h1 ();rw[take_snoc hx,bO];exact m3
theorem Mh.vX(ab:Ab o N A B){ma:Nat}(hy:A[ma]?=some y):∀(k:Nat) {ts:ag}{at_:Nat},Mh o A B ts (ma+1) (at_+k)->(∀i x,at_<=i->i<at_+k->B[i]?=some x->P o y x)->Mh o A B ((B.drop at_).take k++ts) (ma+1) at_
 | 0,ts,at_,m,_=>by rw[eY];exact m
 | k+1,ts,at_,m,h=>by
  have lb:=m.lb;have hx:B[at_+k]?=some (B[at_+k]'()):=aG _;have m2:=Mh.Kv ab (show Mh o A B ts (ma+1) (at_+k+1)from m) hx<|p7 ab.sa hy<|h _ _ () () hx;have m3:=Mh.vX ab hy k m2 λi x h1 h2=>h i x h1 ();rw[take_snoc hx,bO];exact m3
def vH{l:ag}(h:l.Pairwise<|P o)(i:Nat):(l.take i).Pairwise (P o):=h.sublist<|List.take_sublist ..
def Mh.fin(ab:Ab o N A B)(m:Mh o A B ts na nb)(h:∀x∈A.take na,∀y∈B.take nb,P o x y):Res o f A B ((fa f A).extract 0 na++(fa f B).extract 0 nb++fa f ts):=by
 rw[vt,vt,nQ,nQ];have la:=m.la;have lb:=m.lb;have len:=m.len;refine⟨_,rfl,by rw[bh,bh,bL,bL];lia,?_,λx hx=>?_⟩
 ·rw[bY,bY];refine⟨⟨vH ab.sa _,vH ab.sb _,h⟩,m.so,λx hx y hy=>?_⟩
  rcases bF.mp hx with z|z
  ·exact m.ua x z y hy
  ·exact m.ub x z y hy
 ·rcases bF.mp hx with z|z
  ·rcases bF.mp z with z|z
   ·exact .inl (b9 z)
   ·exact .inr<|b9 z
  ·exact m.mem x z
def Mh.Ux(ab:Ab o N A B)(m:Mh o A B ts na nb)(h:∀x∈A.take na,∀y∈B.take nb,P o y x):Res o f A B ((fa f B).extract 0 nb++(fa f A).extract 0 na++fa f ts):=by
 rw[vt,vt,nQ,nQ];have la:=m.la;have lb:=m.lb;have len:=m.len;refine⟨_,rfl,by rw[bh,bh,bL,bL];lia,?_,λx hx=>?_⟩
 ·rw[bY,bY];refine⟨⟨vH ab.sb _,vH ab.sa _,λx hx y hy=>h y hy x hx⟩,m.so,λx hx y hy=>?_⟩
  rcases bF.mp hx with z|z
  ·exact m.ub x z y hy
  ·exact m.ua x z y hy
 ·rcases bF.mp hx with z|z
  ·rcases bF.mp z with z|z
   ·exact .inr (b9 z)
   ·exact .inl<|b9 z
  ·exact m.mem x z
abbrev Wg (o:Ord)(X Y:ag):Prop:=∀y,Y[0]?=some y->∀x∈X,P o y x
def rP(ab:Ab o N A B)(bt:Wg o A B)(m:Mh o A B ts na nb)(h:nb=1):Res o f A B ((fa f B).extract 0 nb++(fa f A).extract 0 na++fa f ts):=
 m.Ux ab λx hx y hy=>by
  obtain⟨j,hj,ej⟩:=tP hy;have:j=0:=()
  subst this;exact bt y ej x<|b9 hx
def Mh.B_(ab:Ab o N A B)(m:Mh o A B ts na nb)(h:na=0\/nb=0):Res o f A B ((fa f A).extract 0 na++(fa f B).extract 0 nb++fa f ts):=
 m.fin ab λx hx y hy=>by
  rcases h with rfl|rfl
  ·rw[eY]at hx;cases hx
  ·rw[eY]at hy;cases hy
def vI(l:ag)(x:Nat):(fa f l.reverse).push (f x)=fa f (x::l).reverse:=by rw[tR,eU]
def MG(l m:ag):fa f l.reverse++(fa f m).reverse=fa f (m++l).reverse:=by rw[MO,nQ,List.reverse_append]
def r_(l:ag):(fa f l.reverse).reverse=fa f l:=by rw[MO,gF]
end
meta abbrev H:=Option (Array Keyed)×Nat×Nat×Array Keyed×Nat×Nat×Nat
abbrev U3 (a b out:Array Keyed)(na nb mg ac bc:Nat):StateT SortSt Sem (ForInStep H):=do
 let x <- elem' a (na-1)
 if (na-1 == 0)=true then pure (ForInStep.done (some<|a.extract 0 (na-1)++b.extract 0 nb++(out.push x).reverse,na-1,nb,out.push x,mg,ac,bc))
 else if (decide (ac<7) && decide (bc<7))=true then pure (ForInStep.done (none,na-1,nb,out.push x,mg,ac,bc))
 else pure (ForInStep.yield (none,na-1,nb,out.push x,mg,ac,bc))
abbrev U2 (a b out:Array Keyed)(na nb mg ac bc:Nat):StateT SortSt Sem (ForInStep H):=do
 let x <- elem' b (nb-1)
 if (nb-1 == 1)=true then pure (ForInStep.done (some<|b.extract 0 (nb-1)++a.extract 0 na++(out.push x).reverse,na,nb-1,out.push x,mg,ac,bc))
 else
  let y <- elem' a (na-1)
  let r <- k_ true y b 0 (nb-1) (nb-1-1)
  match r with
  | some t=>
   if nb-1-t>0 then
    if (t == 1)=true then pure (ForInStep.done (some<|b.extract 0 t++a.extract 0 na++(out.push x++(b.extract t<|nb-1).reverse).reverse,na,t,out.push x++(b.extract t<|nb-1).reverse,mg,ac,nb-1-t))
    else if (t == 0)=true then pure (ForInStep.done (some<|a.extract 0 na++b.extract 0 t++(out.push x++(b.extract t<|nb-1).reverse).reverse,na,t,out.push x++(b.extract t<|nb-1).reverse,mg,ac,nb-1-t))
    else U3 a b (out.push x++(b.extract t<|nb-1).reverse) na t mg ac (nb-1-t)
   else U3 a b (out.push x) na (nb-1) mg ac (nb-1-t)
  | _=>pure<|ForInStep.done (some<|a.extract 0 na++b.extract 0 (nb-1)++(out.push x).reverse,na,nb-1,out.push x,mg,ac,bc)
abbrev U1 (a b out:Array Keyed)(na nb mg ac bc:Nat):StateT SortSt Sem (ForInStep H):=do
 uR mg
 let x <- elem' b (nb-1)
 let r <- k_ false x a 0 na (na-1)
 match r with
 | some t=>
  if na-t>0 then
   if (t == 0)=true then pure (ForInStep.done (some<|a.extract 0 t++b.extract 0 nb++(out++(a.extract t na).reverse).reverse,t,nb,out++(a.extract t na).reverse,mg,na-t,bc))
   else U2 a b (out++(a.extract t na).reverse) t nb mg (na-t) bc
  else U2 a b out na nb mg (na-t) bc
 | _=>pure<|ForInStep.done (some<|a.extract 0 na++b.extract 0 nb++out.reverse,na,nb,out,mg,ac,bc)
section
variable {prog:aj}{w:ah}{A:aA}{E:af->aC->Prop}{s:aC}{o:Ord}{N:Nat}{f:Nat->Keyed}{kd:SortKind}{st st0:SortSt}{X Y ts:ag}{na nb:Nat}
abbrev Oh (o:Ord)(X Y:ag)(n:Nat)(ts:ag)(na nb:Nat):Prop:=Mh o X Y ts na nb/\1<=na/\2<=nb/\na+nb+n<=X.length+Y.length
abbrev H2 (o:Ord)(f:Nat->Keyed)(X Y:ag)(n:Nat)(st0:SortSt):ForInStep H->SortSt->Prop:=λr st'=>Sm st0 st'/\match r with
 | .done c=>(∃r z,c=(some r,z)/\Res o f X Y r)\/∃ts na nb mg ac bc,c=(none,na,nb,fa f ts.reverse,mg,ac,bc)/\Oh o X Y n ts na nb
 | .yield c=>∃ts na nb mg ac bc,c=(none,na,nb,fa f ts.reverse,mg,ac,bc)/\Oh o X Y n ts na nb
def Qh(ab:Ab o N X Y)(hm:Sm st0 st){n mg x:Nat}(m:Mh o X Y ts (na+1)<|nb+1)(hb:1<=nb)(hn:na+1+(nb+1)+n<=X.length+Y.length)(hx:X[na]?=some x)(hy:Y[nb]?=some y)(hxy:P o y x) :
  wpS (model prog w) A E s (U3 (fa f X) (fa f Y) (fa f ts.reverse) (na+1) (nb+1) mg ac bc) (H2 o f X Y n st0) st:=by
 unfold U3;rw[show na+1-1=na by lia];refine aU<|jj (lg hx) ?_;have m2:=m.uL ab hx<|p7 ab.sb hy hxy;rw[vI,r_];by_cases c:na=0
 ·rw[aJ<|by rw[c];rfl];exact aY ⟨hm,.inl ⟨_,_,rfl,m2.B_ ab<|.inl c⟩⟩
 ·rw[aK<|by simpa using c];by_cases c2:(decide (ac<7) && decide (bc<7))=true
  ·rw[aJ c2];exact aY ⟨hm,.inr ⟨_,_,_,_,_,_,rfl,m2,(),(),()⟩⟩
  ·rw[aK c2];exact aY ⟨hm,⟨_,_,_,_,_,_,rfl,m2,(),(),()⟩⟩
def QO(C:zp prog w A s o N f kd)(hk:kindOf st=kd)(ab:Ab o N X Y)(bt:Wg o X Y)(hm:Sm st0 st){n mg x:Nat}(m:Mh o X Y ts (na+1)<|nb+1)(hb:1<=nb)(hn:na+1+(nb+1)+n<=X.length+Y.length)(hx:X[na]?=some x)(hy:Y[nb]?=some y)(hxy:P o x y) :
  wpS (model prog w) A E s (U2 (fa f X) (fa f Y) (fa f ts.reverse) (na+1) (nb+1) mg ac bc) (H2 o f X Y n st0) st:=by
 unfold U2;rw[show nb+1-1=nb by lia,show na+1-1=na by lia];refine aU<|jj (lg hy) ?_;have m2:=m.Kv ab hy<|p7 ab.sa hx hxy;have lb:=m.lb;rw[vI,r_];by_cases c:nb=1
 ·rw[aJ<|by rw[c];rfl];exact aY ⟨hm,.inl ⟨_,_,rfl,rP ab bt m2 c⟩⟩
 ·rw[aK<|by simpa using c];refine aU<|jj (lg hx) ?_;refine aU (Kx C hk (h:=λi=>Y.getD (0+i) 0) (λi hi=>lg<|getD_at ()) (λi hi=>?_) (FY ab.sb _ _ ()) () λt t1 t2 t3=>?_)
  ·have:=aX<|getD_at (l:=Y) (i:=0+i) ();exact⟨ab.lt x (aX hx) _ this,ab.nb _ this⟩
  ·dsimp only;have m3:=Mh.vX ab hx (nb-t) (at_:=t) (by rw[show t+(nb-t)=nb by lia];exact m2) λi z hi1 hi2 ez=>by
    have:=t3 i hi1 ();rw[dD,aL (l:=Y),ez]at this;exact this
   by_cases c2:nb-t>0
   ·rw[aJ c2,uD Y t nb,MG,r_];by_cases c3:t=1
    ·rw[aJ<|by rw[c3];rfl];exact aY ⟨hm,.inl ⟨_,_,rfl,rP ab bt m3 c3⟩⟩
    ·rw[aK<|by simpa using c3];by_cases c4:t=0
     ·rw[aJ<|by rw[c4];rfl];exact aY ⟨hm,.inl ⟨_,_,rfl,m3.B_ ab<|.inr c4⟩⟩
     ·rw[aK<|by simpa using c4];obtain⟨u,rfl⟩:∃u,t=u+1:=⟨t-1,()⟩;have:=t2 u ();rw[dD]at this;exact Qh ab hm m3 () () hx (getD_at ()) this
   ·rw[aK c2];have:t=nb:=()
    subst this;obtain⟨u,rfl⟩:∃u,t=u+1:=⟨t-1,()⟩;have:=t2 u ();rw[dD]at this;exact Qh ab hm m2 () () hx (getD_at ()) this
def UW(C:zp prog w A s o N f kd)(hk:kindOf st0=kd)(ab:Ab o N X Y)(bt:Wg o X Y)(hm:Sm st0 st){n mg:Nat}(m:Mh o X Y ts (na+1)<|nb+1)(hb:1<=nb)(hn:na+1+(nb+1)+n<=X.length+Y.length) :
  wpS (model prog w) A E s (U1 (fa f X) (fa f Y) (fa f ts.reverse) (na+1) (nb+1) mg ac bc) (H2 o f X Y n st0) st:=by
 unfold U1;refine aU<|sV hm λst1 hm1=>?_;have lb:=m.lb;have la:=m.la;rw[show nb+1-1=nb by lia,show na+1-1=na by lia];have hy:=getD_at (l:=Y) (i:=nb) ();have yB:=aX hy;refine aU<|jj (lg hy) ?_;refine aU (MV C (by rw[hm1.k];exact hk) (h:=λi=>X.getD (0+i) 0) (λi hi=>lg<|getD_at ()) (λi hi=>ab.lt _ (aX<|getD_at (l:=X) (i:=0+i) ()) _ yB) (ab.nb _ yB) (FY ab.sa _ _ ()) () λt t1 t2 t3=>?_);dsimp only;have m3:=Mh.xS ab hy (na+1-t) (at_:=t) (by rw[show t+(na+1-t)=na+1 by lia];exact m) λi z hi1 hi2 ez=>by
  have:=t3 i hi1 ();rw[dD,aL (l:=X),ez]at this;exact this
 by_cases c2:na+1-t>0
 ·rw[aJ c2,uD X t<|na+1,MG,r_];by_cases c4:t=0
  ·rw[aJ<|by rw[c4];rfl];exact aY ⟨hm1,.inl ⟨_,_,rfl,m3.B_ ab<|.inl c4⟩⟩
  ·rw[aK<|by simpa using c4];obtain⟨u,rfl⟩:∃u,t=u+1:=⟨t-1,()⟩;have:=t2 u ();rw[dD]at this;exact QO C (by rw[hm1.k];exact hk) ab bt hm1 m3 hb () (getD_at ()) hy this
 ·rw[aK c2];have:t=na+1:=()
  subst this;have:=t2 na ();rw[dD]at this;exact QO C (by rw[hm1.k];exact hk) ab bt hm1 m hb hn (getD_at ()) hy this
def UK(C:zp prog w A s o N f kd)(hk:kindOf st=kd)(ab:Ab o N X Y)(tp:Top o X Y)(bt:Wg o X Y)(h1:1<=X.length)(h2:1<=Y.length)
  {Q:Array Keyed->SortSt->Prop} (q:∀out st',Sm st st'->Res o f X Y out->Q out st'):wpS (model prog w) A E s (v_ (fa f X)<|fa f Y) Q st:=by
 rw[Ea];mg_lt;dsimp only;rw[lK,lK];have hx0:=getD_at (l:=X) (i:=X.length-1) ();refine aU<|jj (lg hx0) ?_;have m0:Mh o X Y [] (X.length-1+1) Y.length:=⟨(),aO _,by rw[cQ];lia,List.Pairwise.nil,(nofun),(λ_ _ _ h=>nomatch h),(λ_ _ _ h=>nomatch h)⟩;have m1:=m0.uL ab hx0 λy hy=>tp _ _ hx0 () y<|b9 hy;obtain⟨x0,ex0⟩:∃x0,x0=X.getD (X.length-1) 0:=⟨_,rfl⟩;rw[<- ex0]at m1 ⊢;have e1:(#[f x0]:Array Keyed)=fa f [x0].reverse:=rfl;rw[e1,r_];by_cases c:X.length-1=0
 ·rw[aJ<|by rw[c];rfl];exact aY (q _ _ Sm.refl<|m1.B_ ab<|.inl c)
 ·rw[aK<|by simpa using c];by_cases c2:Y.length=1
  ·rw[aJ<|by rw[c2];rfl];exact aY (q _ _ Sm.refl<|rP ab bt m1 c2)
  ·rw[aK<|by simpa using c2];refine aU<|fV ?_;refine aU (dw (cg (I:=λx c st'=>Sm st st'/\∃ts na nb mg,c=(none,na,nb,fa f ts.reverse,mg)/\Oh o X Y (x+1) ts na nb)
    (Q:=λc st'=>Sm st st'/\∃r z,c=(some r,z)/\Res o f X Y r) ?step ?fin ⟨Sm.refl,_,_,_,_,rfl,m1,(),(),()⟩) ?post)
   case post=>
    rintro c st' ⟨hm,r,z,rfl,hr⟩;exact aY<|q _ _ hm hr
   case fin=>
    rintro c st' ⟨hm,ts,na,nb,mg,rfl,m,a1,a2,a3⟩;exfalso
    lia
   case step=>
    intro x c st' _ hx hh;revert hh;revert c;refine Yb λhm ts na nb mg ho=>?_;have m:=ho.1;have a1:=ho.2.1;have a2:=ho.2.2.1;have a3:=ho.2.2.2;clear ho;dsimp only;refine aU (dw (cg (I:=λx' c st''=>Sm st st''/\∃ts na nb ac bc,c=(none,na,nb,fa f ts.reverse,ac,bc)/\Oh o X Y (x+1+min x' 1) ts na nb)
     (Q:=λc st''=>Sm st st''/\((∃r z,c=(some r,z)/\Res o f X Y r)\/∃ts na nb ac bc,c=(none,na,nb,fa f ts.reverse,ac,bc)/\Oh o X Y (x+1+1) ts na nb)) ?istep ?ifin ⟨hm,_,_,_,_,_,rfl,m,a1,a2,a3⟩) ?ipost)
    case ifin=>
     rintro c st'' ⟨hm',ts,na,nb,ac,bc,rfl,m,a1,a2,a3⟩;exact⟨hm',.inr ⟨_,_,_,_,_,rfl,m,a1,a2,()⟩⟩
    case istep=>
     intro x' c st'' _ hx' hh;revert hh;revert c;refine Yr λhm' ts na nb ac bc ho=>?_;have m:=ho.1;have a1:=ho.2.1;have a2:=ho.2.2.1;have a3:=ho.2.2.2;clear ho;dsimp only;obtain⟨u,rfl⟩:∃u,na=u+1:=⟨na-1,()⟩;obtain⟨v,rfl⟩:∃v,nb=v+1:=⟨nb-1,()⟩;have la:=m.la;have lb:=m.lb;rw[show u+1-1=u by lia,show v+1-1=v by lia];have hy:=getD_at (l:=Y) (i:=v) ();have hxx:=getD_at (l:=X) (i:=u) ();have yB:=aX hy;have xA:=aX hxx;have lt:=ab.lt _ xA _ yB;refine aU<|jj (lg hy) ?_;refine aU<|jj (lg hxx) ?_;refine aU (yd C (by rw[hm'.k];exact hk) (ab.nb _ yB) (ab.na _ xA) ?_)
     cases hl:o.lt (Y.getD v 0) (X.getD u 0)
     ·dsimp[bq,bX];refine aU<|jj (lg hy) ?_;have m2:=m.Kv ab hy<|p7 ab.sa hxx<|P.uV hl lt;rw[vI,r_];by_cases c3:v=1
      ·rw[aJ<|by rw[c3];rfl];exact aY ⟨hm',.inl ⟨_,_,rfl,rP ab bt m2 c3⟩⟩
      ·rw[aK<|by simpa using c3];by_cases c4:bc+1>=mg
       ·rw[aJ c4];exact aY ⟨hm',.inr ⟨_,_,_,_,_,rfl,m2,a1,(),()⟩⟩
       ·rw[aK c4];exact aY ⟨hm',_,_,_,_,_,rfl,m2,a1,(),()⟩
     ·dsimp[cX];refine aU<|jj (lg hxx) ?_;have m2:=m.uL ab hxx<|p7 ab.sb hy<|P.of_lt hl;rw[vI,r_];by_cases c3:u=0
      ·rw[aJ<|by rw[c3];rfl];exact aY ⟨hm',.inl ⟨_,_,rfl,m2.B_ ab<|.inl c3⟩⟩
      ·rw[aK<|by simpa using c3];by_cases c4:ac+1>=mg
       ·rw[aJ c4];exact aY ⟨hm',.inr ⟨_,_,_,_,_,rfl,m2,(),a2,()⟩⟩
       ·rw[aK c4];exact aY ⟨hm',_,_,_,_,_,rfl,m2,(),a2,()⟩
    case ipost=>
     intro c st'' hh;revert hh;revert c;refine X_ (λhm' r z hr=>?_) λhm' ts na nb ac bc ho=>?_
     ·dsimp only;exact aY ⟨hm',r,_,rfl,hr⟩
     ·have m:=ho.1;have a1:=ho.2.1;have a2:=ho.2.2.1;have a3:=ho.2.2.2;clear ho;dsimp only;mg_lt;refine aU (dw (cg (I:=λx' c st''=>Sm st st''/\∃ts na nb mg ac bc,c=(none,na,nb,fa f ts.reverse,mg,ac,bc)/\Oh o X Y (x+1+1) ts na nb)
       (Q:=λc st''=>Sm st st''/\((∃r z,c=(some r,z)/\Res o f X Y r)\/∃ts na nb mg ac bc,c=(none,na,nb,fa f ts.reverse,mg,ac,bc)/\Oh o X Y (x+1+1) ts na nb)) ?jstep ?jfin ⟨hm',_,_,_,_,_,_,rfl,m,a1,a2,a3⟩) ?jpost)
      case jfin=>
       rintro c st3 ⟨hm3,hh⟩;exact⟨hm3,.inr hh⟩
      case jstep=>
       intro x' c st3 _ hx' hh;revert hh;revert c;refine Yp λhm3 ts na nb mg ac bc ho=>?_;have m:=ho.1;have a1:=ho.2.1;have a2:=ho.2.2.1;have a3:=ho.2.2.2;clear ho;dsimp only;obtain⟨u,rfl⟩:∃u,na=u+1:=⟨na-1,()⟩;obtain⟨v,rfl⟩:∃v,nb=v+1:=⟨nb-1,()⟩;have t1:=λmg=>UW (n:=x+1+1) (mg:=mg) (ac:=ac) (bc:=bc) (E:=E) C hk ab bt hm3 m () a3;unfold U1 U2 U3 at t1;refine dw (Q:=H2 o f X Y (x+1+1) st) ?_ ?_
       ·by_cases c3:mg>1
        ·rw[aJ c3];exact t1 (mg-1)
        ·rw[aK c3];exact t1 mg
       ·rintro r st4 ⟨hm4,hr⟩
        cases r with
        | done c=>exact⟨hm4,hr⟩
        | yield c=>exact⟨hm4,hr⟩
      case jpost=>
       intro c st3 hh;revert hh;revert c;refine Yu (λhm3 r z hr=>?_) λhm3 ts na nb mg ac bc ho=>?_
       ·dsimp only;exact aY ⟨hm3,r,_,rfl,hr⟩
       ·have m:=ho.1;have a1:=ho.2.1;have a2:=ho.2.2.1;have a3:=ho.2.2.2;clear ho;dsimp only;refine aU<|sV hm3 λst4 hm4=>?_;exact aY ⟨hm4,_,_,_,_,rfl,m,a1,a2,a3⟩
end
def DU(i:Nat):mergeAt' i=(do
 let s <- get
 let(some (a1,n1,pw),some (a2,n2,_)):=((pendingOf s)[i]?,(pendingOf s)[i+1]?)|unsupported "internal:list.sort.pending"
 set (setPending s<|((pendingOf s).setIfInBounds i (a1,n1+n2,pw)).eraseIdxIfInBounds<|i+1)
 let some k <- k_ false (<- elem' (arrOf s) a2) (arrOf s) a1 n1 0|return false
 let(a1,n1):=(a1+k,n1-k)
 if n1 == 0 then return true
 let some n2 <- k_ true (<- elem' (arrOf s) (a1+n1-1)) (arrOf s) a2 n2 (n2-1)|return false
 if n2 == 0 then return true
 let x:=(arrOf s).extract a1 a2
 let y:=(arrOf s).extract a2 (a2+n2)
 let both <- if n1<=n2 then wB x y else v_ x y
 modify λs=>setArr s (both.toList.zipIdx.foldl (λa (p,j)=>a.setIfInBounds (a1+j) p)<|arrOf s)
 return (failedOf<|<- get).isNone):=rfl
abbrev seg (g:Nat->Nat)(a n:Nat):ag:=(List.range n).map λi=>g<|a+i
section
variable {o:Ord}{N:Nat}{f:Nat->Keyed}{g:Nat->Nat}
def m5(g:Nat->Nat)(a n:Nat):(seg g a n).length=n:=by unfold seg;rw[aM,cB]
def qC{a n i:Nat}(h:i<n):(seg g a n)[i]?=some (g<|a+i):=by unfold seg;rw[bg,cj h];rfl
def oG{a n x:Nat}(h:x∈seg g a n):∃i,i<n/\x=g (a+i):=by
 obtain⟨i,hi,rfl⟩:=b_.mp h;exact⟨i,cV.mp hi,rfl⟩
def LM{a n:Nat}(h:So o g a<|a+n):(seg g a n).Pairwise (P o):=by
 rw[cY];intro i j hi hj hij;rw[m5]at hi hj;have e1:=qC (g:=g) (a:=a) hi;have e2:=qC (g:=g) (a:=a) hj;rw[aG<|by rw[m5];exact hi]at e1;rw[aG<|by rw[m5];exact hj]at e2;rw[aS e1,aS e2];exact h _ _ () () ()
def Eo{arr:Array Keyed}(hs:arr.size=N)(hg:∀i,i<N->arr[i]?=some (f<|g i)){a n:Nat}(h:a+n<=N):arr.extract a (a+n)=fa f (seg g a n):=by
 apply Array.ext_getElem?;intro i;rw[Lv,Array.getElem?_extract];by_cases c:i<n
 ·rw[aJ (),qC c,hg _ ()];rfl
 ·rw[aK (),bJ<|by rw[m5];lia];rfl
theorem yY{α:Type}(b:Nat):∀(l:List α) (n:Nat) (arr:Array α),((l.zipIdx n).foldl (λa (p,j)=>a.setIfInBounds (b+j) p) arr).size=arr.size
 | [],_,_=>rfl
 | x::l,n,arr=>by
  rw[List.zipIdx_cons,dQ,yY b l<|n+1];exact Array.size_setIfInBounds ..
theorem Bv{α:Type}(b:Nat):∀(l:List α) (n:Nat) (arr:Array α) (k:Nat),b+n+l.length<=arr.size->((l.zipIdx n).foldl (λa (p,j)=>a.setIfInBounds (b+j) p) arr)[k]?=if b+n<=k/\k<b+n+l.length then l[k-(b+n)]? else arr[k]?
 | [],n,arr,k,h=>by rw[aK<|by rw[cQ];lia];rfl
 | x::l,n,arr,k,h=>by
  rw[bA]at h;rw[List.zipIdx_cons,dQ,Bv b l (n+1) _ k<|by rw[Array.size_setIfInBounds];lia,bA];by_cases c:k=b+n
  ·subst c;rw[aK (),aJ (),fY];show(arr.setIfInBounds (b+n) x)[b+n]?=some x;rw[Array.getElem?_setIfInBounds_self_of_lt ()]
  ·by_cases c2:b+n<=k/\k<b+n+(l.length+1)
   ·rw[aJ (),aJ c2,show k-(b+n)=k-(b+(n+1))+1 by lia,List.getElem?_cons_succ]
   ·rw[aK (),aK c2]
    skip
    rw[gc ()]
end
section
variable {prog:aj}{w:ah}{A:aA}{E:af->aC->Prop}{s:aC}{o:Ord}{N:Nat}{f:Nat->Keyed}{kd:SortKind}{g:Nat->Nat}{st:SortSt}
def Ot{Q:PUnit->SortSt->Prop}(h:Q ⟨⟩ st'):wpS (model prog w) A E s (set st':StateT SortSt Sem PUnit) Q st:=by
 unfold wpS;rw[StateT.run_set];exact aT ⟨rfl,h⟩
def Gw(C:zp prog w A s o N f kd){l1:List<|Nat×Nat×Nat}{sa na nb pw pv:Nat}(h:Sg N f kd g (l1++(sa,na,pw)::(sa+na,nb,pv)::l2).toArray st)(ha:1<=na)(hb:1<=nb)(hN:sa+na+nb<=N)
  (c1:Cl g sa<|sa+na) (s1:So o g sa<|sa+na) (c2:Cl g (sa+na)<|sa+na+nb) (s2:So o g (sa+na)<|sa+na+nb)
  {Q:Bool->SortSt->Prop} (q:∀g' st',Sg N f kd g' (l1++(sa,na+nb,pw)::l2).toArray st'->Rn o g g' sa (sa+na+nb)->Q true st'):wpS (model prog w) A E s (mergeAt' l1.length) Q st:=by
 rw[DU];refine aU<|fV ?_;have e1:(pendingOf st)[l1.length]?=some (sa,na,pw):=by rw[h.pend];simp
 have e2:(pendingOf st)[l1.length+1]?=some (sa+na,nb,pv):=by rw[h.pend];simp
 have e3:((pendingOf st).setIfInBounds l1.length (sa,na+nb,pw)).eraseIdxIfInBounds (l1.length+1)=(l1++(sa,na+nb,pw)::l2).toArray:=by
  rw[h.pend,List.setIfInBounds_toArray,gb];congr 1;rw[cO _ _<|aO _,fY,List.eraseIdx_append_of_length_le (),show l1.length+1-l1.length=1 by lia];rfl
 rw[e1,e2];dsimp only;rw[e3];refine aU<|Ot ?_;have h':Sg N f kd g (l1++(sa,na+nb,pw)::l2).toArray (setPending st (l1++(sa,na+nb,pw)::l2).toArray):=⟨h.size,h.get,h.lt,h.kind,h.failed,rfl⟩;obtain⟨st1,hst1⟩:∃st1,st1=setPending st (l1++(sa,na+nb,pw)::l2).toArray:=⟨_,rfl⟩;rw[<- hst1]at h' ⊢;refine aU<|jj (h.get (sa+na) ()) ?_;have b0:=c2 (sa+na) () ();refine aU (MV C h'.kind (h:=λi=>g<|sa+i) (λi hi=>h.get _ ()) (λi hi=>by have:=c1 (sa+i) () ();lia) () (λi j _ a b=>s1 _ _ () () ()) () λk k1 k2 k3=>?_);dsimp only;by_cases cz:na-k=0
 ·rw[aJ<|by rw[cz];rfl];refine aY (q g st1 h' ⟨λ_ _=>rfl,λi a b=>?_,λi j a b c=>?_⟩)
  ·by_cases d:i<sa+na
   ·have:=c1 i a d;lia
   ·have:=c2 i () b;lia
  ·by_cases d:j<sa+na
   ·exact s1 i j a b d
   ·by_cases d2:sa+na<=i
    ·exact s2 i j d2 b c
    ·have r:=k2 (i-sa) ();rw[show sa+(i-sa)=i by lia]at r;by_cases d3:j=sa+na
     ·subst d3;exact r
     ·exact r.trans<|s2 _ _ () () c
 ·rw[aK<|by simpa using cz];have hlast:sa+k+(na-k)-1=sa+na-1:=()
  rw[hlast];refine aU<|jj (h.get (sa+na-1) ()) ?_;have a0:=c1 (sa+na-1) () ();refine aU (Kx C h'.kind (h:=λi=>g<|sa+na+i) (λi hi=>h.get _ ()) (λi hi=>by have:=c2 (sa+na+i) () ();lia) (λi j _ a b=>s2 _ _ () () ()) () λt t1 t2 t3=>?_);dsimp only;by_cases cy:t=0
  ·rw[aJ<|by rw[cy];rfl];subst cy;refine aY (q g st1 h' ⟨λ_ _=>rfl,λi a b=>?_,λi j a b c=>?_⟩)
   ·by_cases d:i<sa+na
    ·have:=c1 i a d;lia
    ·have:=c2 i () b;lia
   ·by_cases d:j<sa+na
    ·exact s1 i j a b d
    ·by_cases d2:sa+na<=i
     ·exact s2 i j d2 b c
     ·have r:=t3 (j-(sa+na)) () ();rw[show sa+na+(j-(sa+na))=j by lia]at r;by_cases d3:i=sa+na-1
      ·subst d3;exact r
      ·exact(s1 i (sa+na-1) a () ()).trans r
  ·rw[aK<|by simpa using cy];have x1:(arrOf st).extract (sa+k) (sa+na)=fa f (seg g (sa+k)<|na-k):=by
    have:=Eo (f:=f) (g:=g) h.size h.get (a:=sa+k) (n:=na-k) ()
    rwa [show sa+k+(na-k)=sa+na by lia]at this
   have x2:(arrOf st).extract (sa+na) (sa+na+t)=fa f (seg g (sa+na) t):=Eo h.size h.get ();rw[x1,x2];have sx:So o g (sa+k) (sa+k+(na-k)):=λi j a b c=>s1 i j () b ();have sy:So o g (sa+na) (sa+na+t):=λi j a b c=>s2 i j a b ();have ab:Ab o N (seg g (sa+k)<|na-k) (seg g (sa+na) t):={
    sa:=LM sx
    sb:=LM sy
    lt:=λx hx y hy=>by
     obtain⟨i,hi,rfl⟩:=oG hx;obtain⟨j,hj,rfl⟩:=oG hy;have:=c1 (sa+k+i) () ();have:=c2 (sa+na+j) () ()
     lia
    nb:=λy hy=>by
     obtain⟨j,hj,rfl⟩:=oG hy;exact h.lt _ ()
    na:=λy hy=>by
     obtain⟨j,hj,rfl⟩:=oG hy;exact h.lt _ ()}
   have tp:Top o (seg g (sa+k)<|na-k) (seg g (sa+na) t):=λi x hx hi y hy=>by
    rw[m5]at hi;rw[qC ()]at hx
    cases hx
    obtain⟨j,hj,rfl⟩:=oG hy;rw[show sa+k+i=sa+na-1 by lia];exact t2 j hj
   have bt:Wg o (seg g (sa+k)<|na-k) (seg g (sa+na) t):=λy hy x hx=>by
    rw[qC ()]at hy
    cases hy
    obtain⟨i,hi,rfl⟩:=oG hx;have:=k3 (k+i) () ()
    rwa [<- eL]at this
   have fin:∀out st2,Sm st1 st2->Res o f (seg g (sa+k)<|na-k) (seg g (sa+na) t) out->wpS (model prog w) A E s (do
     modify λs=>setArr s (out.toList.zipIdx.foldl (λa (p,j)=>a.setIfInBounds (sa+k+j) p)<|arrOf s)
     let s <- get
     pure (failedOf s).isNone) Q st2:=by
    rintro out st2 hm ⟨hs,rfl,hlen,hso,hmem⟩;rw[m5,m5]at hlen;refine aU<|eo<|aU<|fV ?_;have hf:(failedOf st2)=none:=by rw[hm.f];exact h'.failed
    have hmx:∀j x,hs[j]?=some x->(∃i,i<na-k/\x=g (sa+k+i))\/∃i,i<t/\x=g (sa+na+i):=λj x e=>by
     rcases hmem x (aX e)with z|z
     ·exact .inl (oG z)
     ·exact .inr<|oG z
    have ez:(fa f hs).toList=hs.map f:=by unfold fa;rfl
    have hsz:sa+k+0+(hs.map f).length<=(arrOf st2).size:=by rw[aM,hlen,hm.a,h'.size];lia
    refine aY ?_
    skip
    rw[hf];refine q (λi=>if sa+k<=i/\i<sa+k+(na-k+t)then hs.getD (i-(sa+k)) 0 else g i) _ ⟨?_,λi hi=>?_,λi hi=>?_,by rw[show kindOf (setArr st2 _)=kindOf st2 from rfl,hm.k];exact h'.kind,hf,by rw[show pendingOf (setArr st2 _)=pendingOf st2 from rfl,hm.p];exact h'.pend⟩ ?_
    ·have:=yY (sa+k) (fa f hs).toList 0<|arrOf st2;rw[hm.a,h'.size]at this;rw[<- this,<- hm.a]
    ·skip
     rw[ez,Bv _ _ _ _ _ hsz,aM,hlen,hm.a];by_cases d:sa+k<=i/\i<sa+k+(na-k+t)
     ·rw[aJ (),aJ d,bg,Nat.add_zero,getD_at (l:=hs) ()];rfl
     ·rw[aK (),aK d];exact h'.get i hi
    ·by_cases d:sa+k<=i/\i<sa+k+(na-k+t)
     ·rw[aJ d]
      rcases hmx _ _ (getD_at (l:=hs) (i:=i-(sa+k)) ())with⟨j,hj,e⟩|⟨j,hj,e⟩
      ·rw[e];exact h.lt _ ()
      ·rw[e];exact h.lt _ ()
     ·rw[aK d];exact h.lt i hi
    ·have gin:∀i,sa+k<=i->i<sa+na+t->(if sa+k<=i/\i<sa+k+(na-k+t)then hs.getD (i-(sa+k)) 0 else g i)=hs.getD (i-(sa+k)) 0:=λi a b=>aJ ();have gout:∀i,i<sa+k\/sa+na+t<=i->(if sa+k<=i/\i<sa+k+(na-k+t)then hs.getD (i-(sa+k)) 0 else g i)=g i:=λi a=>aK ();refine⟨λi hi=>gout i (),λi a b=>?_,λi j a b c=>?_⟩
     ·by_cases d:sa+k<=i/\i<sa+na+t
      ·skip
       rw[gin i d.1 d.2]
       rcases hmx _ _ (getD_at (l:=hs) (i:=i-(sa+k)) ())with⟨j,hj,e⟩|⟨j,hj,e⟩
       ·rw[e];have:=c1 (sa+k+j) () ();lia
       ·rw[e];have:=c2 (sa+na+j) () ();lia
      ·skip
       rw[gout i ()];by_cases d2:i<sa+na
       ·have:=c1 i a d2;lia
       ·have:=c2 i () b;lia
     ·skip
      by_cases d1:i<sa+k
      ·rw[gout i<|.inl d1];have r:=k2 (i-sa) ();rw[show sa+(i-sa)=i by lia]at r;by_cases d2:j<sa+k
       ·rw[gout j<|.inl d2];exact s1 i j a b ()
       ·by_cases d3:j<sa+na+t
        ·rw[gin j () d3]
         rcases hmx _ _ (getD_at (l:=hs) (i:=j-(sa+k)) ())with⟨v,hv,e⟩|⟨v,hv,e⟩
         ·rw[e];exact s1 _ _ a () ()
         ·rw[e];by_cases d4:v=0
          ·subst d4;exact r
          ·exact r.trans<|s2 _ _ () () ()
        ·rw[gout j ()];exact r.trans<|s2 _ _ () () c
      ·by_cases d2:i<sa+na+t
       ·rw[gin i () d2];by_cases d3:j<sa+na+t
        ·rw[gin j () d3];exact qK hso (getD_at ()) (getD_at ()) ()
        ·rw[gout j ()]
         rcases hmx _ _ (getD_at (l:=hs) (i:=i-(sa+k)) ())with⟨v,hv,e⟩|⟨v,hv,e⟩
         ·rw[e];have r:=t3 (j-(sa+na)) () ();rw[show sa+na+(j-(sa+na))=j by lia]at r;by_cases d4:sa+k+v=sa+na-1
          ·rw[d4];exact r
          ·exact(s1 _ (sa+na-1) () () ()).trans r
         ·rw[e];exact s2 _ _ () () c
       ·rw[gout i (),gout j ()];exact s2 i j () b c
   by_cases cl:na-k<=t
   ·rw[aJ cl];exact aU (V_ C h'.kind ab tp (by rw[m5];lia) (qC ()) (bt _<|qC ()) fin)
   ·rw[aK cl];exact aU<|UK C h'.kind ab tp bt (by rw[m5];lia) (by rw[m5];lia) fin
end
meta abbrev pr (x:Nat×Nat×Nat):Nat×Nat:=(x.1,x.2.1)
abbrev qt (o:Ord)(g:Nat->Nat):List (Nat×Nat)->Nat->Nat->Prop
 | [],a,b=>a=b
 | x::l,a,b=>x.1=a/\1<=x.2/\Cl g a (a+x.2)/\So o g a (a+x.2)/\qt o g l (a+x.2) b
abbrev PA (o:Ord)(g:Nat->Nat)(p:Array<|Nat×Nat×Nat)(b:Nat):Prop:=qt o g (p.toList.map pr) 0 b
section
variable {o:Ord}{g:Nat->Nat}
def qt.le:∀{l:List<|Nat×Nat}{a b:Nat},qt o g l a b->a+l.length<=b
 | [],a,b,h=>by have h:a=b:=h;rw[cQ];lia
 | x::l,a,b,h=>by
  have:=h.2.2.2.2.le;have:=h.2.1;rw[bA];lia
def qt.congr{g':Nat->Nat}:∀{l:List<|Nat×Nat}{a b:Nat},qt o g l a b->(∀i,a<=i->i<b->g' i=g i)->qt o g' l a b
 | [],a,b,h,_=>h
 | x::l,a,b,h,e=>by
  have hb:=h.2.2.2.2.le;refine⟨h.1,h.2.1,λi h1 h2=>?_,λi j h1 h2 h3=>?_,h.2.2.2.2.congr λi h1 h2=>e i () h2⟩
  ·rw[e i h1 ()];exact h.2.2.1 i h1 h2
  ·rw[e i h1 (),e j () ()];exact h.2.2.2.1 i j h1 h2 h3
theorem qt.app:∀{l m:List<|Nat×Nat}{a b:Nat},qt o g (l++m) a b ↔ ∃c,qt o g l a c/\qt o g m c b
 | [],m,a,b=>⟨λh=>⟨a,rfl,h⟩,λ⟨c,h1,h2⟩=>by have h1:a=c:=h1;subst h1;exact h2⟩
 | x::l,m,a,b=>by
  constructor
  ·rintro⟨h1,h2,h3,h4,h5⟩;obtain⟨c,h6,h7⟩:=qt.app.mp h5;exact⟨c,⟨h1,h2,h3,h4,h6⟩,h7⟩
  ·rintro⟨c,⟨h1,h2,h3,h4,h5⟩,h6⟩;exact⟨h1,h2,h3,h4,qt.app.mpr ⟨c,h5,h6⟩⟩
def Sk{p:Array<|Nat×Nat×Nat}(h:i+1<p.size):∃l1 x y l2,p=(l1++x::y::l2).toArray/\l1.length=i:=by
 have h':i+1<p.toList.length:=h;refine⟨p.toList.take i,p.toList[i],p.toList[i+1],p.toList.drop<|i+2,?_,by rw[bL];lia⟩;apply Array.toList_inj.mp
 skip
 conv=>lhs;rw[<- dO i p.toList,bV<|show i<p.toList.length by lia,bV h']
end
section
variable {prog:aj}{w:ah}{A:aA}{E:af->aC->Prop}{s:aC}{o:Ord}{N:Nat}{f:Nat->Keyed}{kd:SortKind}{g:Nat->Nat}{p:Array (Nat×Nat×Nat)}{st:SortSt}
def D3(C:zp prog w A s o N f kd)(h:Sg N f kd g p st){lo:Nat}(hp:PA o g p lo)(hlo:lo<=N)(hi:i+1<p.size)
  {Q:Bool->SortSt->Prop} (q:∀g' p' st',Sg N f kd g' p' st'->PA o g' p' lo->p'.size+1=p.size->(∀k,lo<=k->g' k=g k)->Q true st'):wpS (model prog w) A E s (mergeAt' i) Q st:=by
 obtain⟨l1,⟨sa,na,pw⟩,⟨sb,nb,pv⟩,l2,rfl,rfl⟩:=Sk hi;unfold PA at hp;rw[show(l1++(sa,na,pw)::(sb,nb,pv)::l2).toArray.toList=l1++(sa,na,pw)::(sb,nb,pv)::l2 from rfl,cF]at hp;obtain⟨c,h1,h2⟩:=qt.app.mp hp;obtain⟨e1,n1,cl1,so1,e2,n2,cl2,so2,rest⟩:=h2;have e1:sa=c:=e1;subst e1;have e2:sb=sa+na:=e2;subst e2;have l2b:=rest.le;have n1:1<=na:=n1;have n2:1<=nb:=n2;have l2b:sa+na+nb<=lo:=by
  have:sa+na+nb+(List.map pr l2).length<=lo:=l2b
  lia
 refine Gw C h n1 n2 () cl1 so1 cl2 so2 λg' st' h' R=>q g' _ st' h' ?_ (by simp;lia) λk hk=>R.out k ();unfold PA;rw[show(l1++(sa,na+nb,pw)::l2).toArray.toList=l1++(sa,na+nb,pw)::l2 from rfl,cF];refine qt.app.mpr ⟨sa,h1.congr λi a b=>R.out i (),rfl,by show 1<=na+nb;lia,?_,?_,?_⟩
 ·show Cl g' sa (sa+(na+nb));rw[<- eL];exact R.cl
 ·show So o g' sa (sa+(na+nb));rw[<- eL];exact R.so
 ·skip
  rw[<- eL];exact rest.congr λi a b=>R.out i<|.inr a
def yF{p:Array<|Nat×Nat×Nat}{lo:Nat}{u:Nat×Nat×Nat->Nat×Nat×Nat}(hu:∀x,pr (u x)=pr x)(h:PA o g p lo):PA o g (p.modify i u) lo:=by
 unfold PA at h ⊢;have:(p.modify i u).toList.map pr=p.toList.map pr:=by
  rw[Array.toList_modify];apply cI;intro k;rw[bg,bg,List.getElem?_modify]
  cases p.toList[k]? with
  | none=>rfl
  | some x=>
   show some (pr<|if i=k then u x else x)=some (pr x);by_cases c:i=k
   ·rw[aJ c,hu x]
   ·rw[aK c]
 rw[this];exact h
def vf{p:Array<|Nat×Nat×Nat}{lo n v:Nat}(h:PA o g p lo)(hn:1<=n)(c:Cl g lo<|lo+n)(d:So o g lo<|lo+n):PA o g (p.push (lo,n,v)) (lo+n):=by
 unfold PA at h ⊢;rw[eT,cF];exact qt.app.mpr ⟨lo,h,rfl,hn,c,d,rfl⟩
def Sg.UD(h:Sg N f kd g p st)(p':Array<|Nat×Nat×Nat):Sg N f kd g p' (setPending st p'):=⟨h.size,h.get,h.lt,h.kind,h.failed,rfl⟩
def Om(C:zp prog w A s o N f kd)(h:Sg N f kd (λi=>i) #[] st)(hN:1<=N)
  {Q:Unit->SortSt->Prop} (q:∀g' p' st',Sg N f kd g' p' st'->Cl g' 0 N->So o g' 0 N->Q Unit.unit st'):wpS (model prog w) A E s sortRuns' Q st:=by
 rw[sortRuns'_eq];refine aU<|fV ?_;dsimp only;rw[h.size];refine aU (dw (cg
  (I:=λx c st'=>∃lo g p,c=(none,lo)/\lo<=N/\(x<=lo\/lo=N)/\Sg N f kd g p st'/\PA o g p lo/\(∀i,lo<=i->g i=i))
  (Q:=λc st'=>∃g p,c=(none,N)/\Sg N f kd g p st'/\PA o g p N) ?step ?fin ⟨0,_,_,rfl,cE _,.inl<|aO _,h,rfl,λ_ _=>rfl⟩) ?post)
 case fin=>
  rintro c st' ⟨lo,g,p,rfl,h1,h2,h3,h4,h5⟩;have:lo=N:=()
  subst this;exact⟨g,p,rfl,h3,h4⟩
 case step=>
  intro x c st' _ hx hh;revert hh;revert c;refine YB λlo g p hh=>?_;have h1:=hh.1;have h2:=hh.2.1;have h3:=hh.2.2.1;have h4:=hh.2.2.2.1;have h5:=hh.2.2.2.2;clear hh;dsimp only;by_cases hge:lo>=N
  ·rw[aJ hge];have:lo=N:=()
   subst this;exact aY ⟨g,p,rfl,h3,h4⟩
  ·rw[aK hge];refine aU<|LG C h3 () () (λi a b=>h5 i a) λm g1 st1 s1 m1 m2 R1=>?_;dsimp only;by_cases c2:m<minRun' N N 0
   ·rw[aJ c2];mg_lt;refine aU<|TJ C s1 () m1 () R1 (λi a b=>h5 i ()) λg2 st2 s2 R2=>?_;rw[aK ⋯];have n2:1<=min (N-lo) (minRun' N N 0):=()
    have n3:lo+min (N-lo) (minRun' N N 0)<=N:=()
    refine aU<|fV ?_;rw[s2.pend];have hp2:=qt.congr h4 λi a b=>R2.out i (.inl b)
    cases e:p.back? with
    | none=>
     dsimp only;refine aU (eo<|aY ⟨_,_,_,rfl,n3,(),s2.UD _,?_,λi hi=>by rw[R2.out i<|.inr hi,h5 i ()]⟩);rw[s2.pend];exact vf hp2 n2 R2.cl R2.so
    | some y=>
     obtain⟨y1,y2,y3⟩:=y;dsimp only;refine aU (dw (cg (I:=λ_ c st'=>c=(none,Unit.unit)/\∃g' p',Sg N f kd g' p' st'/\PA o g' p' lo/\(∀k,lo<=k->g' k=g2 k)) (Q:=λc st'=>c=(none,Unit.unit)/\∃g' p',Sg N f kd g' p' st'/\PA o g' p' lo/\(∀k,lo<=k->g' k=g2 k)) ?vstep (λ_ _ h=>h) ⟨rfl,_,_,s2,hp2,λ_ _=>rfl⟩) ?vpost)
     case vstep=>
      rintro x c st' _ hx ⟨rfl,g',p',h1,h2,h3⟩;refine aU<|fV ?_;rw[h1.pend];by_cases c:p'.size>1
      ·rw[aJ c]
       cases e:p'[p'.size-2]? with
       | none=>exact aY ⟨rfl,g',p',h1,h2,h3⟩
       | some y=>
        obtain⟨y1,y2,y3⟩:=y;dsimp only;split
        ·exact aY ⟨rfl,g',p',h1,h2,h3⟩
        ·refine aU<|D3 C h1 h2 () () λg3 p3 st3 s3 q3 _ z3=>?_;exact aY ⟨rfl,g3,p3,s3,q3,λk hk=>by rw[z3 k hk,h3 k hk]⟩
      ·rw[aK c];exact aY ⟨rfl,g',p',h1,h2,h3⟩
     case vpost=>
      rintro c st' ⟨rfl,g',p',h1,h2,h3⟩;dsimp only;refine aU (eo<|aU<|eo<|aY ⟨_,_,_,rfl,n3,(),(h1.UD _).UD _,?_,λi hi=>by rw[h3 i (),R2.out i<|.inr hi,h5 i ()]⟩)
      skip
      rw[h1.pend];exact vf (yF (λ_=>rfl) h2) n2 (λi a b=>by rw[h3 i a];exact R2.cl i a b) λi j a b c=>by rw[h3 i a,h3 j ()];exact R2.so i j a b c
   ·rw[aK c2];have n3:lo+m<=N:=()
    obtain⟨g2,hg2⟩:∃g2,g2=g1:=⟨_,rfl⟩;rw[<- hg2]at R1 s1;have R2:=R1;have s2:=s1;have n2:=m1;refine aU<|fV ?_;rw[s2.pend];have hp2:=qt.congr h4 λi a b=>R2.out i (.inl b)
    cases e:p.back? with
    | none=>
     dsimp only;refine aU (eo<|aY ⟨_,_,_,rfl,n3,(),s2.UD _,?_,λi hi=>by rw[R2.out i<|.inr hi,h5 i ()]⟩);rw[s2.pend];exact vf hp2 n2 R2.cl R2.so
    | some y=>
     obtain⟨y1,y2,y3⟩:=y;dsimp only;refine aU (dw (cg (I:=λ_ c st'=>c=(none,Unit.unit)/\∃g' p',Sg N f kd g' p' st'/\PA o g' p' lo/\(∀k,lo<=k->g' k=g2 k)) (Q:=λc st'=>c=(none,Unit.unit)/\∃g' p',Sg N f kd g' p' st'/\PA o g' p' lo/\(∀k,lo<=k->g' k=g2 k)) ?vstep (λ_ _ h=>h) ⟨rfl,_,_,s2,hp2,λ_ _=>rfl⟩) ?vpost)
     case vstep=>
      rintro x c st' _ hx ⟨rfl,g',p',h1,h2,h3⟩;refine aU<|fV ?_;rw[h1.pend];by_cases c:p'.size>1
      ·rw[aJ c]
       cases e:p'[p'.size-2]? with
       | none=>exact aY ⟨rfl,g',p',h1,h2,h3⟩
       | some y=>
        obtain⟨y1,y2,y3⟩:=y;dsimp only;split
        ·exact aY ⟨rfl,g',p',h1,h2,h3⟩
        ·refine aU<|D3 C h1 h2 () () λg3 p3 st3 s3 q3 _ z3=>?_;exact aY ⟨rfl,g3,p3,s3,q3,λk hk=>by rw[z3 k hk,h3 k hk]⟩
      ·rw[aK c];exact aY ⟨rfl,g',p',h1,h2,h3⟩
     case vpost=>
      rintro c st' ⟨rfl,g',p',h1,h2,h3⟩;dsimp only;refine aU (eo<|aU<|eo<|aY ⟨_,_,_,rfl,n3,(),(h1.UD _).UD _,?_,λi hi=>by rw[h3 i (),R2.out i<|.inr hi,h5 i ()]⟩)
      skip
      rw[h1.pend];exact vf (yF (λ_=>rfl) h2) n2 (λi a b=>by rw[h3 i a];exact R2.cl i a b) λi j a b c=>by rw[h3 i a,h3 j ()];exact R2.so i j a b c
 case post=>
  rintro c st' ⟨g,p,rfl,h1,h2⟩;dsimp only;refine aU (dw (cg
   (I:=λx c st''=>c=(none,Unit.unit)/\∃g p,Sg N f kd g p st''/\PA o g p N/\(p.size<=1\/p.size+x<=N))
   (Q:=λc st''=>c=(none,Unit.unit)/\∃g p,Sg N f kd g p st''/\PA o g p N/\p.size<=1) ?fstep ?ffin ⟨rfl,g,p,h1,h2,.inr ?finit⟩) ?fpost)
  case finit=>
   have:=qt.le h2;rw[aM]at this;show p.toList.length+0<=N
   lia
  case ffin=>
   rintro c st'' ⟨rfl,g,p,h1,h2,h3⟩;exact⟨rfl,g,p,h1,h2,()⟩
  case fstep=>
   rintro x c st'' _ hx ⟨rfl,g,p,h1,h2,h3⟩;refine aU<|fV ?_;rw[h1.pend];by_cases c:p.size<=1
   ·rw[aJ c];exact aY ⟨rfl,g,p,h1,h2,c⟩
   ·rw[aK c];have il:∀(d:Prop) [Decidable d],(if d then p.size-2-1 else p.size-2)+1<p.size:=λd _=>by
     by_cases hd:d
     ·rw[aJ hd];lia
     ·rw[aK hd];lia
    refine aU<|D3 C h1 h2 (aO _) (il _) λg' p' st3 s3 q3 z3 _=>?_;exact aY ⟨rfl,g',p',s3,q3,()⟩
  case fpost=>
   rintro c st'' ⟨rfl,g,p,h1,h2,h3⟩;dsimp only;refine aY ?_;unfold PA at h2;have h3:p.toList.length<=1:=h3
   match hl:p.toList,h3 with
   | [],_=>
    rw[hl]at h2;have:0=N:=h2
    lia
   | [x],_=>
    rw[hl]at h2;obtain⟨e1,e2,e3,e4,e5⟩:=h2;have e5:0+x.2.1=N:=e5;have e3:Cl g 0 (0+x.2.1):=e3;have e4:So o g 0 (0+x.2.1):=e4;rw[e5]at e3 e4;exact q g p st'' h1 e3 e4
end
meta abbrev Pd (h:aq)(a:ak)(vs:ap):aq:=((h.update a<|Obj.mapSeq λ_=>#[]).push<|seqObj "tuple" vs.toArray 0).push<|seqObj "list" #[] 0
meta abbrev vv (vs:ap)(i:Nat):Keyed:=(vs.getD i .none,vs.getD i .none)
def zip_get(vs:ap){i:Nat}(h:i<vs.length):(vs.toArray.zip vs.toArray)[i]?=some (vv vs i):=by
 have e:vs[i]?=some (vs.getD i .none):=by rw[aL,aG h];rfl
 rw[Array.getElem?_zip_eq_some];exact⟨by rw[dN];exact e,by rw[dN];exact e⟩
section
variable {prog:aj}{w:ah}{A:aA}{E:af->aC->Prop}{s:aC}{o:Ord}{kd:SortKind}
def HH{a:ak}{vs:ap}{n:Nat}{P:PySem.Fin->aC->Prop}(hL:s.heap.get? a=some (seqObj "list" vs.toArray n))(hsz:vs.length<=sizeLine)
  (hkk:2<=vs.length->∀Q:SortKind->aC->Prop,Q kd { s with heap:=Pd s.heap a vs }->wpAny (model prog w) A (keyKind' vs.toArray) Q E { s with heap:=Pd s.heap a vs })
  (C:2<=vs.length->zp prog w A { s with heap:=Pd s.heap a vs } o vs.length (vv vs) kd)
  (h:∀g,Cl g 0 vs.length->So o g 0 vs.length->P (.done<|.ret .none) { s with heap:=sortedHeap s.heap a vs ((List.range vs.length).map λi=>vs.getD (g i) .none).toArray }) :
  wpAny (model prog w) A (Builtin.«list.sort» ⟨[.ref a],[]⟩) P E s:=by
 rw[list_sort_plain];have lta:a<s.heap.objs.size:=aV hL;refine aH<|listItems_at hL rfl ?_;refine aH (gC hL rfl ?_ (by rw[aZ];exact hsz)<|cE _);obtain⟨ep,hL1⟩:∃ep,(s.heap.update a<|Obj.mapSeq λ_=>#[]).get? a=some (seqObj "list" #[] ep):=⟨_,get?_update_seq hL λ_=>#[]⟩;refine aH<|seqEpoch_at hL1 rfl ?_;refine aH<|wpAny_newTuple ?_;refine aH<|ir ?_;refine cG ?_;have hL6:(Pd s.heap a vs).get? a=some (seqObj "list" #[] ep):=by
  rw[fZ _ _ _<|by rw[size_push',gu];exact bu<|f6 lta,fZ _ _ _<|by rw[gu];exact bu lta];exact hL1
 skip
 dsimp only;have hz:vs.toArray.size=vs.length:=by simp
 have getE:∀i,i<vs.length->vs[i]?=some (vs.getD i .none):=λi hi=>by rw[aL,aG hi];rfl
 have SS:∀(arr:Array Keyed) (g:Nat->Nat),arr.size=vs.length->(∀i,i<vs.length->arr[i]?=some (vv vs<|g i))->arr.map (·.2)=((List.range vs.length).map λi=>vs.getD (g i) .none).toArray:=λarr g h1 two=>by
  apply Array.ext_getElem?;intro i;have e0:((List.range vs.length).map λi=>vs.getD (g i) Value.none).toArray[i]?=((List.range vs.length).map λi=>vs.getD (g i) Value.none)[i]?:=dN ..;rw[Array.getElem?_map,e0,bg];by_cases c:i<vs.length
  ·rw[two i c,cj c];rfl
  ·rw[Array.getElem?_eq_none (),bJ<|by rw[cB];lia];rfl
 by_cases two:vs.toArray.size<2
 ·rw[aJ two,aJ two];refine aH<|aT ?_;rw[StateT.run_pure];refine aH<|aT ?_;dsimp only;refine aH<|seqEpoch_at hL6 rfl ?_;have oe:=SS (vs.toArray.zip vs.toArray) (λi=>i) (by rw[iG,hz];lia) λi hi=>zip_get vs hi;refine aH (gC hL6 rfl ?_ (by simp) (hsz2:=by rw[size_map];show(vs.toArray.zip vs.toArray).size<=_;rw[iG,hz];lia));dsimp[h_,bq,bX];refine aT ?_;have:=h (λi=>i) (λi a b=>⟨a,b⟩) λi j a b c=>();rw[<- oe]at this;exact this
 ·rw[aK two,aK two];have h2':2<=vs.length:=()
  refine aH<|hkk h2' _ ?_;refine aH (cJ (Om (f:=vv vs) (N:=vs.length) (C h2') (st:=SortSt.mk' kd (vs.toArray.zip vs.toArray) #[] 7 none)
   (Q:=λ_ st'=>∃g p,Sg vs.length (vv vs) kd g p st'/\Cl g 0 vs.length/\So o g 0 vs.length)
   ⟨by show(vs.toArray.zip vs.toArray).size=_;rw[iG,hz];lia,λi hi=>zip_get vs hi,λi hi=>hi,rfl,rfl,rfl⟩ () λg' p' st' a1 a2 a3=>⟨g',p',a1,a2,a3⟩) ?_ λ_ _ e=>e)
  rintro⟨⟨⟩,st'⟩ s' ⟨rfl,g,p,hS,hc,hso⟩;dsimp only;refine aH<|seqEpoch_at hL6 rfl ?_;have oe:=SS (arrOf st') g hS.size hS.get;refine aH (gC hL6 rfl ?_ (by simp) (hsz2:=by have hh:(arrOf st').size=vs.length:=hS.size;show((arrOf st').map (·.2)).size<=_;rw[size_map,hh];lia));rw[hS.failed];dsimp[h_,bq,bX];have:=h g hc hso;rw[<- oe]at this;exact aT this
end
section
variable {prog:aj}{w:ah}{A:aA}{E:af->aC->Prop}{s:aC}
def OD(b:Bool){x y:Int}{Q:Bool->aC->Prop}(h:Q (decide<|x<y) s):wpAny (model prog w) A (oneLt' b (.int x t)<|.int y u) Q E s:=by
 cases b with
 | true=>exact oneLt_int h
 | false=>
  rw[oneLt'_eq];dsimp[bq,bX];exact aH<|PySem.P.lt_int<|c9 h
end
theorem F2:∀a:ae,HT.lexLt a a=false
 | []=>HT.yr
 | x::a=>by rw[HT.qo,aJ rfl];exact F2 a
end Sx
namespace L2
open PySem PySem.Spec PyProof.Rows
section
theorem yO:∀{rs:ar}{its:ap},Vals (rs.map V.ref) its->its=rs.map Value.ref
 | [],_,r=>by cases r;rfl
 | a::rs,_,r=>by
  cases r with
  | cons h t=>
   have e:_=Value.ref a:=h;rw[e,yO t];rfl
end
end L2
namespace Sx
open PySem PyProof.Rows
open PySem.AutoSeq1 (wpAny_loadPart')
open PySem.MeetsSeq PySem.MeetsSeq2 PySem.MeetsSeq3
theorem vO:∀{xs:ap}{ns:ae}{i:Nat},IntsAre xs ns->i<ns.length->∃t,xs[i]?=some (.int (ns.getD i 0) t)
 | _,_,i,.nil,h=>absurd h (eG _)
 | _,_,0,.cons n t h,_=>⟨t,rfl⟩
 | _,_,i+1,.cons n t h,hi=>by
  obtain⟨t',e⟩:=vO h (i:=i) (by simpa using hi);exact⟨t',by simpa using e⟩
end Sx
namespace Am
open PySem
inductive A where
 | unb|non|bl (b:Bool)|int (i:Int)|str (x:Str)|tup (xs:List A)|frz (xs:List A)|rng (lo hi:Int)|ref (n:Nat)|exn (c:Str)|ty (n:String)|ktu (xs:List A)
@[reducible]def ad:=List A
inductive O where
 | lst (xs:ad)|dct (kvs:List<|ae×A)|oS (kvs:List<|Int×A)|n9 (kvs:List<|L2.kO×A)|ins (c:Str) (fs:List<|Str×A)
meta abbrev iN:=List O
inductive R (α:Type) where
 | ok (a:α) (S:iN)|ex (c:Str) (S:iN)|no
abbrev R.bind {α β:Type}(r:R α)(f:α->iN->R β):R β:=match r with
 | .ok a S=>f a S
 | .ex c S=>.ex c S
 | .no=>.no
abbrev R.post {α:Type}(r:R α)(P:α->iN->Prop)(E:Str->iN->Prop):Prop:=match r with
 | .ok a S=>P a S
 | .ex c S=>E c S
 | .no=>False
def iR{α β:Type}{r:R α}{f:α->iN->R β}{P:β->iN->Prop}{E:Str->iN->Prop}(h:(r.bind f).post P E):r.post (λa S=>(f a S).post P E) E:=by
 cases r<;>exact h
def p_{α:Type}{r:R α}{P P':α->iN->Prop}{E E':Str->iN->Prop}(h:r.post P E)(hp:∀a S,P a S->P' a S)(he:∀c S,E c S->E' c S):r.post P' E':=by
 cases r with
 | ok a S=>exact hp _ _ h
 | ex c S=>exact he _ _ h
 | no=>exact h.elim
abbrev gd {α:Type}(c:Prop)[Decidable c](r:R α):R α:=if c then r else .no
abbrev opt {α β:Type}(o:Option β)(f:β->R α):R α:=match o with
 | some b=>f b
 | none=>.no
def ja{α:Type}{c:Prop}[Decidable c]{r:R α}{P:α->iN->Prop}{E:Str->iN->Prop}(h:(gd c r).post P E):c/\r.post P E:=by
 unfold gd at h;by_cases hc:c
 ·rw[aJ hc]at h;exact⟨hc,h⟩
 ·rw[aK hc]at h;exact h.elim
def iY{α β:Type}{o:Option β}{f:β->R α}{P:α->iN->Prop}{E:Str->iN->Prop}(h:(opt o f).post P E):∃b,o=some b/\(f b).post P E:=by
 cases o with
 | none=>exact h.elim
 | some b=>exact⟨b,rfl,h⟩
def Xh{α:Type}{c:Prop}[Decidable c]{r:R α}(h:c):gd c r=r:=aJ h
abbrev iL (S:iN)(n:Nat):Option (ad):=match S[n]? with
 | some (.lst xs)=>some xs
 | _=>none
def i6{n:Nat}(h:iL S n=some xs):S[n]?=some (.lst xs):=by
 unfold iL at h;split at h
 ·rename_i e;cases h;exact e
 ·cases h
def sW{S:iN}{n:Nat}(h:S[n]?=some (.lst xs)):iL S n=some xs:=by
 unfold iL;rw[h]
inductive RS where
 | nx (τ:ad) (S:iN)|rt (a:A) (S:iN)|bk (τ:ad) (S:iN)|ct (τ:ad) (S:iN)|ex (c:Str) (S:iN)|no
meta abbrev Ex:=ad->iN->R A
meta abbrev pQ:=ad->iN->R (ad)
meta abbrev Te:=ad->iN->R Bool
meta abbrev Sm:=ad->iN->RS
meta abbrev Tg:=A->ad->iN->R (ad)
end Am
namespace Am
open PySem L2
section
variable (K:au) (ρ:ar) (H:Hp)
abbrev BY (K:au)(c:Str)(C:ak):Prop:=PySem.W.nsIn K mainGlobals c=some (some<|.ref C)
abbrev Fz (K:au)(H:Hp)(a:ak)(vs:List V):Prop:=
 (∃o,H a=some (.frz o<|.lst vs))\/∃(o:Obj) (its:Array af) (n:Nat),K.lookup a=some o/\o.cls=.type "list" /\ o.dict=none/\o.data=.seq its n/\its.size<=sizeLine/\Vals vs its.toList
abbrev YM (K:au)(a:ak)(vs:List V):Prop:=∃(o:Obj) (its:Array af) (n:Nat),K.lookup a=some o/\o.cls=.type "tuple" /\ o.dict=none/\o.data=.seq its n/\its.size<=sizeLine/\Vals vs its.toList
mutual
inductive AV:A->V->Prop
 | non:AV .non .non
 | bl (b:Bool):AV (.bl b) (.bl b)
 | int (i:Int):AV (.int i) (.int i)
 | str (x:Str):AV (.str x) (.str x)
 | ty (n:String):AV (.ty n) (.ty n)
 | tup {a:ak} {xs:ad} {vs:List V} (h:H a=some (.tup vs)) (r:AVs xs vs):AV (.tup xs) (.ref a)
 | frz {a:ak} {xs:ad} {vs:List V} (h:Fz K H a vs) (r:AVs xs vs):AV (.frz xs) (.ref a)
 | rng {a:ak} {lo hi:Int} (h:H a=some (.rng lo hi)):AV (.rng lo hi) (.ref a)
 | ref {a:ak} {n:Nat} (h:ρ[n]?=some a):AV (.ref n) (.ref a)
 | exn {a C:ak} {c:Str} {oe:Obj} (n:BY K c C) (h:H a=some (.frz oe xu)) (x:XO C oe):AV (.exn c) (.ref a)
 | ktu {a:ak} {xs:ad} {vs:List V} (h:YM K a vs) (r:AVs xs vs):AV (.ktu xs)<|.ref a
inductive AVs:ad->List V->Prop
 | nil:AVs [] []
 | cons {x:A} {v:V} {xs:ad} {vs:List V} (h:AV x v) (t:AVs xs vs):AVs (x::xs) (v::vs)
end
abbrev DV:List (ae×A)->List (List Key×V)->Prop
 | [],[]=>True
 | p::r,q::r'=>(q.1=p.1.map Sum.inl/\AV K ρ H p.2 q.2)/\DV r r'
 | _,_=>False
abbrev DI:List (Int×A)->List (Key×V)->Prop
 | [],[]=>True
 | p::r,q::r'=>(q.1=Sum.inl p.1/\AV K ρ H p.2 q.2)/\DI r r'
 | _,_=>False
abbrev DP:List (L2.kO×A)->List (L2.kO×ak×af)->Prop
 | [],[]=>True
 | p::r,q::r'=>(q.1=p.1/\L2.pT H q.2.1 q.1/\∃v,RelV v q.2.2/\AV K ρ H p.2 v)/\DP r r'
 | _,_=>False
abbrev OR (a:ak):O->Prop
 | .lst xs=>∃vs,H a=some (.lst vs)/\AVs K ρ H xs vs
 | .dct kvs=>∃ks,H a=some (.dT ks)/\DV K ρ H kvs ks
 | .oS kvs=>∃ks,H a=some (.dK ks)/\DI K ρ H kvs ks
 | .n9 kvs=>∃xs,H a=some (.ext<|L2.sA a xs)/\DP K ρ H kvs xs
 | .ins _ _=>∃o u,H a=some (.frz o u)
structure Rel (S:iN):Prop where
 len:ρ.length=S.length
 nd:ρ.Nodup
 «at»:∀(n:Nat) (a:ak) (o:O),ρ[n]?=some a->S[n]?=some o->OR K ρ H a o
end
abbrev YC:HO->Prop
 | .tup _=>True
 | .rng _ _=>True
 | .frz _ _=>True
 | _=>False
structure Ext0 (ρ ρ':ar)(H H':Hp):Prop where
 pre:ρ <+: ρ'
 im:∀a u,YC u->H a=some u->H' a=some u
structure Ext (ρ ρ':ar)(H H':Hp):Prop extends Ext0 ρ ρ' H H' where
 fr:∀a u,H a=some u->a∉ρ->H' a=some u
 nw:∀a,a∈ρ'->a∈ρ\/H a=none
def Ext.refl{H:Hp}:Ext ρ ρ H H:=⟨⟨dI _,λ_ _ _ h=>h⟩,λ_ _ h _=>h,λ_ h=>.inl h⟩
def Ext.trans{H H1 H2:Hp}(a:Ext ρ ρ1 H H1)(b:Ext ρ1 ρ2 H1 H2):Ext ρ ρ2 H H2:=⟨⟨a.pre.trans b.pre,λx u i h=>b.im x u i<|a.im x u i h⟩,λx u h n=>b.fr x u (a.fr x u h n) λz=>(a.nw x z).elim n λz=>by(rw[z]at h;cases h),λx h=>by
 by_cases hx:x∈ρ
 ·exact .inl hx
 ·right
  cases q:H x with
  | none=>rfl
  | some u=>
   rcases b.nw x h with z|z
   ·exact((a.nw x z).elim hx λz=>by(rw[z]at q;cases q)).elim
   ·rw[a.fr x u q hx]at z;cases z⟩
def Ext0.get{H H':Hp}(e:Ext0 ρ ρ' H H'){n:Nat}{a:ak}(h:ρ[n]?=some a):ρ'[n]?=some a:=by
 obtain⟨t,rfl⟩:=e.pre;rw[bE (aI.mp h).1];exact h
section
variable {K:au}{ρ ρ':ar}{H H':Hp}
def Ext0.X7(e:Ext0 ρ ρ' H H'){a:ak}(h:nk K H a vs):nk K H' a vs:=by
 rcases h with(h|⟨o,h⟩)|h
 ·exact .inl (.inl<|e.im _ _ trivial h)
 ·exact .inl (.inr ⟨o,e.im _ _ trivial h⟩)
 ·exact .inr h
def Ext0.fz(e:Ext0 ρ ρ' H H'){a:ak}(h:Fz K H a vs):Fz K H' a vs:=by
 rcases h with⟨o,h⟩|h
 ·exact .inl ⟨o,e.im _ _ trivial h⟩
 ·exact .inr h
def Fz.PC{a:ak}(h:Fz K H a vs):mP K H a vs:=by
 rcases h with⟨o,h⟩|h
 ·exact .inl (.inr ⟨o,h⟩)
 ·exact .inr h
mutual
theorem AV.kN(e:Ext0 ρ ρ' H H'):∀{x:A}{v:V},AV K ρ H x v->AV K ρ' H' x v
 | _,_,.non=>.non
 | _,_,.bl b=>.bl b
 | _,_,.int i=>.int i
 | _,_,.str x=>.str x
 | _,_,.ty x=>.ty x
 | _,_,.tup h r=>.tup (e.im _ _ trivial h) (AVs.kN e r)
 | _,_,.frz h r=>.frz (e.fz h) (AVs.kN e r)
 | _,_,.rng h=>.rng (e.im _ _ trivial h)
 | _,_,.ref h=>.ref (e.get h)
 | _,_,.exn n h x=>.exn n (e.im _ _ trivial h) x
 | _,_,.ktu h r=>.ktu h<|AVs.kN e r
theorem AVs.kN(e:Ext0 ρ ρ' H H'):∀{xs:ad}{vs:List V},AVs K ρ H xs vs->AVs K ρ' H' xs vs
 | _,_,.nil=>.nil
 | _,_,.cons h t=>.cons (AV.kN e h)<|AVs.kN e t
end
theorem DV.kN(e:Ext0 ρ ρ' H H'):∀{xs:List<|ae×A}{vs:List<|List Key×V},DV K ρ H xs vs->DV K ρ' H' xs vs
 | [],[],_=>trivial
 | _::_,_::_,⟨⟨a,b⟩,r⟩=>⟨⟨a,AV.kN e b⟩,DV.kN e r⟩
def DV.ext{x:List<|ae×A}{v:List<|List Key×V}(h:DV K ρ H x v)(e:Ext ρ ρ' H H'):DV K ρ' H' x v:=DV.kN e.toExt0 h
theorem DI.kN(e:Ext0 ρ ρ' H H'):∀{xs:List<|Int×A}{vs:List<|Key×V},DI K ρ H xs vs->DI K ρ' H' xs vs
 | [],[],_=>trivial
 | _::_,_::_,⟨⟨a,b⟩,r⟩=>⟨⟨a,AV.kN e b⟩,DI.kN e r⟩
def DI.ext{x:List<|Int×A}{v:List<|Key×V}(h:DI K ρ H x v)(e:Ext ρ ρ' H H'):DI K ρ' H' x v:=DI.kN e.toExt0 h
def pT.kN{k:L2.kO}(e:Ext0 ρ ρ' H H'):L2.pT H b k->L2.pT H' b k:=λ⟨r1,r2,h1,h2,h3⟩=>⟨r1,r2,e.im _ _ trivial h1,e.im _ _ trivial h2,e.im _ _ trivial h3⟩
theorem DP.kN(e:Ext0 ρ ρ' H H'):∀{xs:List<|L2.kO×A}{vs:List<|L2.kO×ak×af},DP K ρ H xs vs->DP K ρ' H' xs vs
 | [],[],_=>trivial
 | _::_,_::_,⟨⟨a,k,v,c,b⟩,r⟩=>⟨⟨a,pT.kN e k,v,c,AV.kN e b⟩,DP.kN e r⟩
def DP.ext{x:List<|L2.kO×A}{v:List<|L2.kO×ak×af}(h:DP K ρ H x v)(e:Ext ρ ρ' H H'):DP K ρ' H' x v:=DP.kN e.toExt0 h
def AV.ext{x:A}{v:V}(h:AV K ρ H x v)(e:Ext ρ ρ' H H'):AV K ρ' H' x v:=AV.kN e.toExt0 h
def AVs.ext{x:ad}{v:List V}(h:AVs K ρ H x v)(e:Ext ρ ρ' H H'):AVs K ρ' H' x v:=AVs.kN e.toExt0 h
theorem AVs.length:∀{xs:ad}{vs:List V},AVs K ρ H xs vs->xs.length=vs.length
 | _,_,.nil=>rfl
 | _,_,.cons _ t=>c6 (·+1)<|AVs.length t
theorem AVs.append:∀{xs ys:ad}{vs ws:List V},AVs K ρ H xs vs->AVs K ρ H ys ws->AVs K ρ H (xs++ys) (vs++ws)
 | _,_,_,_,.nil,s=>s
 | _,_,_,_,.cons h t,s=>.cons h<|AVs.append t s
theorem AVs.get:∀{xs:ad}{vs:List V}{i:Nat}{x:A},AVs K ρ H xs vs->xs[i]?=some x->∃v,vs[i]?=some v/\AV K ρ H x v
 | _,_,_,_,.nil,e=>by simp at e
 | _,_,0,_,.cons h _,e=>by simp at e;subst e;exact⟨_,rfl,h⟩
 | _,_,i+1,x,.cons _ t,e=>by
  obtain⟨u,h1,h2⟩:=AVs.get (i:=i) (x:=x) t (by simpa using e);exact⟨u,by simpa using h1,h2⟩
theorem AVs.set{x:A}{v:V}(h:AV K ρ H x v):∀{xs:ad}{vs:List V}(i:Nat),AVs K ρ H xs vs->AVs K ρ H (xs.set i x) (vs.set i v)
 | _,_,_,.nil=>.nil
 | _,_,0,.cons _ t=>.cons h t
 | _,_,i+1,.cons q t=>.cons q<|AVs.set h i t
def AVs.one{x:A}{v:V}(h:AV K ρ H x v):AVs K ρ H [x] [v]:=.cons h .nil
theorem AVs.eraseIdx:∀{xs:ad}{vs:List V}(i:Nat),AVs K ρ H xs vs->AVs K ρ H (xs.eraseIdx i) (vs.eraseIdx i)
 | _,_,_,.nil=>.nil
 | _,_,0,.cons _ t=>t
 | _,_,i+1,.cons q t=>.cons q<|AVs.eraseIdx i t
theorem qY:∀(ns:ae),AVs K ρ H (ns.map .int) (ns.map .int)
 | []=>.nil
 | n::ns=>.cons (.int n)<|qY ns
def Rel.lay{S:iN}{p:ak}(R:Rel K ρ H S)(hp:H p=none)(r:AVs K ρ H xs vs):Ext ρ (ρ++[p]) H (upd H p<|.lst vs)/\Rel K (ρ++[p]) (upd H p<|.lst vs) (S++[.lst xs])/\(ρ++[p])[S.length]?=some p:=by
 have ex:Ext ρ (ρ++[p]) H (upd H p<|.lst vs):=⟨⟨eB _ _,λa u _ h=>by rw[iS<|i9 h hp];exact h⟩,λa u h _=>by rw[iS<|i9 h hp];exact h,λa h=>by
  rcases bF.mp h with z|z
  ·exact .inl z
  ·have e:a=p:=by simpa using z
   rw[e];exact .inr hp⟩
 have np:∀(n:Nat) (a:ak),ρ[n]?=some a->a≠p:=by
  intro n a e z;subst z;have hn:n<S.length:=by rw[<- R.len];exact(aI.mp e).1
  have:=R.at n a S[n] e (aG hn)
  cases ho:S[n]with
  | lst xs=>rw[ho]at this;obtain⟨vs,h,_⟩:=this;rw[hp]at h;cases h
  | dct _|oS _|n9 _=>rw[ho]at this;obtain⟨vs,h,_⟩:=this;rw[hp]at h;cases h
  | ins _ _=>rw[ho]at this;obtain⟨_,_,h⟩:=this;rw[hp]at h;cases h
 have last:(ρ++[p])[S.length]?=some p:=by rw[<- R.len];simp
 refine⟨ex,⟨by simp[R.len],?_,?_⟩,last⟩
 ·rw[cW];refine⟨R.nd,by simp,λa ha b hb e=>?_⟩;have:b=p:=by simpa using hb
  obtain⟨n,hn,e'⟩:=gG.mp ha;exact np n a (by rw[aG hn,e'])<|e.trans this
 ·intro n a o h1 h2;by_cases hn:n<S.length
  ·rw[bE<|by rw[R.len];exact hn]at h1;rw[bE hn]at h2;have:=R.at n a o h1 h2
   cases o with
   | lst ys=>obtain⟨ws,e,q⟩:=this;exact⟨ws,by rw[iS<|np n a h1];exact e,q.ext ex⟩
   | dct _|oS _|n9 _=>obtain⟨ws,e,q⟩:=this;exact⟨ws,by rw[iS<|np n a h1];exact e,q.ext ex⟩
   | ins _ _=>obtain⟨oo,uu,e⟩:=this;exact⟨oo,uu,by rw[iS<|np n a h1];exact e⟩
  ·have e:n=S.length:=by
    have:=(aI.mp h2).1;simp at this
    lia
   subst e;rw[last]at h1
   cases h1
   simp at h2;subst h2;exact⟨vs,ji,r.ext ex⟩
def Rel.im{p:ak}(R:Rel K ρ H S)(hp:H p=none):Ext ρ ρ H (upd H p u)/\Rel K ρ (upd H p u) S:=by
 have ex:Ext ρ ρ H (upd H p u):=⟨⟨dI _,λa u _ h=>by rw[iS<|i9 h hp];exact h⟩,λa u h _=>by rw[iS<|i9 h hp];exact h,λ_ h=>.inl h⟩;refine⟨ex,R.len,R.nd,λn a o h1 h2=>?_⟩;have:=R.at n a o h1 h2
 cases o with
 | lst ys=>obtain⟨ws,e,q⟩:=this;exact⟨ws,by rw[iS<|i9 e hp];exact e,q.ext ex⟩
 | dct _|oS _|n9 _=>obtain⟨ws,e,q⟩:=this;exact⟨ws,by rw[iS<|i9 e hp];exact e,q.ext ex⟩
 | ins _ _=>obtain⟨oo,uu,e⟩:=this;exact⟨oo,uu,by rw[iS<|i9 e hp];exact e⟩
def Rel.put{S:iN}{n:Nat}{a:ak}(R:Rel K ρ H S)(ha:ρ[n]?=some a)(hS:S[n]?=some (.lst xs))(r:AVs K ρ H ys ws):Ext ρ ρ H (upd H a<|.lst ws)/\Rel K ρ (upd H a<|.lst ws) (S.set n<|.lst ys):=by
 obtain⟨vs,e,_⟩:=R.at n a _ ha hS;have ex:Ext ρ ρ H (upd H a<|.lst ws):=⟨⟨dI _,λb u i h=>by
  have:b≠a:=by
   intro z;subst z;rw[e]at h;cases h;exact i
  rw[iS this];exact h⟩,λb u h n=>by
  rw[iS λz=>n<|by rw[z];exact aX ha];exact h,λ_ h=>.inl h⟩
 refine⟨ex,by rw[bN];exact R.len,R.nd,λm b o h1 h2=>?_⟩;by_cases hm:m=n
 ·subst hm;rw[ha]at h1;cases h1;rw[bI (aI.mp hS).1]at h2
  cases h2
  exact⟨ws,ji,r.ext ex⟩
 ·rw[bP<|cN hm]at h2;have nb:b≠a:=λz=>by
   subst z;obtain⟨l1,e1⟩:=aI.mp ha;obtain⟨l2,e2⟩:=aI.mp h1;exact hm<|(cZ R.nd).mp<|e2.trans e1.symm
  have:=R.at m b o h1 h2
  cases o with
  | lst ys=>obtain⟨ws',e',q⟩:=this;exact⟨ws',by rw[iS nb];exact e',q.ext ex⟩
  | dct _|oS _|n9 _=>obtain⟨ws',e',q⟩:=this;exact⟨ws',by rw[iS nb];exact e',q.ext ex⟩
  | ins _ _=>obtain⟨oo,uu,e'⟩:=this;exact⟨oo,uu,by rw[iS nb];exact e'⟩
def Rel.lst{n:Nat}{a:ak}(R:Rel K ρ H S)(ha:ρ[n]?=some a)(hS:S[n]?=some (.lst xs)):∃vs,H a=some (.lst vs)/\AVs K ρ H xs vs:=R.at n a _ ha hS
structure SR (K:au)(ρ:ar)(H:Hp)(τ:ad)(σ:St):Prop where
 len:τ.length=σ.length
 «at»:∀(i:Nat) (a:A),τ[i]?=some a->a=.unb\/∃v,σ[i]?=some (some v)/\AV K ρ H a v
def SR.kN(s:SR K ρ H τ σ)(e:Ext0 ρ ρ' H H'):SR K ρ' H' τ σ:=⟨s.len,λi a h=>by
 rcases s.at i a h with z|⟨v,h1,h2⟩
 ·exact .inl z
 ·exact .inr ⟨v,h1,AV.kN e h2⟩⟩
def SR.ext(s:SR K ρ H τ σ)(e:Ext ρ ρ' H H'):SR K ρ' H' τ σ:=s.kN e.toExt0
def Rel.out{D:ak}(R:Rel K ρ H S)(hD:H D=some (.lst vs))(hn:D∉ρ):Ext0 ρ ρ H (upd H D<|.lst ws)/\Rel K ρ (upd H D<|.lst ws) S:=by
 have ex:Ext0 ρ ρ H (upd H D<|.lst ws):=⟨dI _,λb u i h=>by
  have:b≠D:=by
   intro z;subst z;rw[hD]at h;cases h;exact i
  rw[iS this];exact h⟩
 refine⟨ex,R.len,R.nd,λn a o h1 h2=>?_⟩;have na:a≠D:=λz=>hn (by rw[<- z];exact aX h1);have:=R.at n a o h1 h2
 cases o with
 | lst ys=>obtain⟨ws',e,q⟩:=this;exact⟨ws',by rw[iS na];exact e,AVs.kN ex q⟩
 | dct _|oS _|n9 _=>obtain⟨ws',e,q⟩:=this;exact⟨ws',by rw[iS na];exact e,q.kN ex⟩
 | ins _ _=>obtain⟨oo,uu,e⟩:=this;exact⟨oo,uu,by rw[iS na];exact e⟩
def Rel.take{S:iN}{D:ak}(R:Rel K ρ H S)(hD:H D=some (.lst vs))(hn:D∉ρ)(r:AVs K ρ H xs vs):Rel K (ρ++[D]) H (S++[.lst xs])/\(ρ++[D])[S.length]?=some D:=by
 have ex:Ext0 ρ (ρ++[D]) H H:=⟨eB _ _,λ_ _ _ h=>h⟩;have last:(ρ++[D])[S.length]?=some D:=by rw[<- R.len];simp
 refine⟨⟨by simp[R.len],?_,λn a o h1 h2=>?_⟩,last⟩
 ·rw[cW];refine⟨R.nd,by simp,λa ha b hb e=>?_⟩;have:b=D:=by simpa using hb
  exact hn<|by rw[<- this,<- e];exact ha
 ·by_cases hs:n<S.length
  ·rw[bE<|by rw[R.len];exact hs]at h1;rw[bE hs]at h2;have:=R.at n a o h1 h2
   cases o with
   | lst ys=>obtain⟨ws,e,q⟩:=this;exact⟨ws,e,AVs.kN ex q⟩
   | dct _|oS _|n9 _=>obtain⟨ws,e,q⟩:=this;exact⟨ws,e,q.kN ex⟩
   | ins _ _=>obtain⟨oo,uu,e⟩:=this;exact⟨oo,uu,e⟩
  ·have e:n=S.length:=by
    have:=(aI.mp h2).1;simp at this
    lia
   subst e;rw[last]at h1
   cases h1
   simp at h2;subst h2;exact⟨vs,hD,AVs.kN ex r⟩
def SR.set{τ:ad}{σ:St}{a:A}{v:V}(s:SR K ρ H τ σ)(h:AV K ρ H a v):SR K ρ H (τ.set i a) (σ.set i<|some v):=by
 refine⟨by simp[s.len],λj b e=>?_⟩;by_cases hj:j=i
 ·subst hj;have hl:j<τ.length:=by
   have:=(aI.mp e).1;simpa using this
  rw[bI hl]at e
  cases e
  exact .inr ⟨v,bI<|by rw[<- s.len];exact hl,h⟩
 ·rw[bP<|cN hj]at e;rw[bP<|cN hj];exact s.at j b e
end
end Am
namespace Am
open PySem PySem.Spec PyProof.Rows L2
abbrev XE (X:Cx)(ρ:ar)(H:Hp):Str->iN->Prop:=λc S'=>∀(C:ak) (ρ':ar) (H':Hp),BY X.K c C->Ext ρ ρ' H H'->Rel X.K ρ' H' S'->EX X (.ref C) none H'
def XE.ext{X:Cx}{H H':Hp}{c:Str}(h:XE X ρ H c S)(e:Ext ρ ρ' H H'):XE X ρ' H' c S:=λC ρ2 H2 n e2=>h C ρ2 H2 n<|e.trans e2
abbrev uv (X:Cx)(ρ:ar)(H:Hp)(Q:VK):A->iN->Prop:=λa S'=>∀ρ' H' v,Ext ρ ρ' H H'->Rel X.K ρ' H' S'->AV X.K ρ' H' a v->Q v H'
abbrev Wt (X:Cx)(ρ:ar)(H:Hp)(Q:Bool->Hp->Prop):Bool->iN->Prop:=λb S'=>∀ρ' H',Ext ρ ρ' H H'->Rel X.K ρ' H' S'->Q b H'
abbrev YU (X:Cx)(ρ:ar)(H:Hp)(Q:List V->Hp->Prop):ad->iN->Prop:=λas S'=>∀ρ' H' vs,Ext ρ ρ' H H'->Rel X.K ρ' H' S'->AVs X.K ρ' H' as vs->Q vs H'
def uv.ext{X:Cx}{H H':Hp}{Q:VK}{a:A}(h:uv X ρ H Q a S)(e:Ext ρ ρ' H H'):uv X ρ' H' Q a S:=λρ2 H2 v e2=>h ρ2 H2 v<|e.trans e2
def Wt.ext{X:Cx}{H H':Hp}{Q:Bool->Hp->Prop}{a:Bool}(h:Wt X ρ H Q a S)(e:Ext ρ ρ' H H'):Wt X ρ' H' Q a S:=λρ2 H2 e2=>h ρ2 H2<|e.trans e2
def iM{α:Type}{X:Cx}{H H':Hp}{r:R α}{P P':α->iN->Prop}(h:r.post P<|XE X ρ H)(e:Ext ρ ρ' H H')(hp:∀a S,P a S->P' a S):r.post P' (XE X ρ' H'):=p_ h hp λ_ _ z=>z.ext e
abbrev tE (X:Cx)(c:Ex):TE:=λσ H Q=>∃ρ S τ,Rel X.K ρ H S/\SR X.K ρ H τ σ/\(c τ S).post (uv X ρ H Q) (XE X ρ H)
abbrev tT (X:Cx)(c:Te):TT:=λσ H Q=>∃ρ S τ,Rel X.K ρ H S/\SR X.K ρ H τ σ/\(c τ S).post (Wt X ρ H Q) (XE X ρ H)
abbrev tL (X:Cx)(c:pQ):TA:=λσ H Q=>∃ρ S τ,Rel X.K ρ H S/\SR X.K ρ H τ σ/\(c τ S).post (YU X ρ H Q) (XE X ρ H)
abbrev AE (X:Cx)(e:aE)(c:Ex):Prop:=PE X e<|tE X c
abbrev AT (X:Cx)(e:aE)(c:Te):Prop:=PT X e<|tT X c
abbrev AW (X:Cx)(e:aE)(c:Te):Prop:=PW X e<|tT X c
abbrev AL (X:Cx)(es:List aE)(c:pQ):Prop:=PA X es<|tL X c
def PE.imp{X:Cx}{e:aE}{t t':TE}(h:PE X e t)(i:∀σ H Q,t' σ H Q->t σ H Q):PE X e t':=λpins s σ H Q I q=>h pins s σ H Q I<|i σ H Q q
def PT.imp{X:Cx}{e:aE}{t t':TT}(h:PT X e t)(i:∀σ H Q,t' σ H Q->t σ H Q):PT X e t':=λpins s σ H Q I q=>h pins s σ H Q I<|i σ H Q q
def PW.imp{X:Cx}{e:aE}{t t':TT}(h:PW X e t)(i:∀σ H Q,t' σ H Q->t σ H Q):PW X e t':=λw pins s σ H Q I q=>h w pins s σ H Q I<|i σ H Q q
def PA.imp{X:Cx}{e:List aE}{t t':TA}(h:PA X e t)(i:∀σ H Q,t' σ H Q->t σ H Q):PA X e t':=λp pins s σ H Q I q=>h p pins s σ H Q I<|i σ H Q q
def AW.at{X:Cx}{e:aE}{c:Te}(h:AW X e c):AT X e c:=h _
abbrev A.mz:A->Bool
 | .unb=>true
 | _=>false
abbrev iK (i:Nat):Ex:=λτ S=>if (τ.getD i .unb).mz then .no else .ok (τ.getD i .unb) S
abbrev eC (a:A):Ex:=λ_ S=>.ok a S
section
variable {X:Cx}{pos:Pos}{a b:aE}
def iH(i:Nat){x:Str}(hN:X.N[i]?=some x:=by rfl)(hv:UE X.env.scope x:=by first|exact Or.inl rfl|exact Or.inr (Or.inl rfl)|exact Or.inr<|Or.inr rfl)(hd:(x == ("__debug__" : Str))=false:=by decide)
  (hcd:(x == ("__classdict__" : Str))=false:=by decide):AE X (.Name x pos) (iK i):=PE.imp (JZ hN hv hd hcd) λσ H Q h9=>by
 z_go;unfold iK at h
 cases hi:τ[i]? with
 | none=>
  rw[aL,hi]at h;exact h.elim
 | some x=>
  rw[aL,hi]at h
  rcases r.at i x hi with z|⟨v,e,q⟩
  ·subst z;exact h.elim
  ·refine⟨v,e,?_⟩
   cases x<;>first|(exact h ρ H v .refl R q)|exact h.elim
def iQ{i:Int}{j pos}:AE X (.Constant (.int i) j pos) (eC<|.int i):=PE.imp SI λσ H Q ⟨ρ,S,τ,R,r,h⟩=>h ρ H _ .refl R<|.int i
def uT{j pos}:AE X (.Constant (.bool i) j pos) (eC<|.bl i):=PE.imp VZ λσ H Q ⟨ρ,S,τ,R,r,h⟩=>h ρ H _ .refl R<|.bl i
def IS{j pos}:AE X (.Constant .none j pos) (eC .non):=PE.imp Td λσ H Q ⟨ρ,S,τ,R,r,h⟩=>h ρ H _ .refl R .non
def nh{x:Str}{j pos}:AE X (.Constant (.str x) j pos) (eC<|.str x):=PE.imp MZ λσ H Q ⟨ρ,S,τ,R,r,h⟩=>h ρ H _ .refl R<|.str x
def xN{x:Str}{i:Int}(hm:X.mg x=some (.int i t))(hg:Gl X x:=by rfl)(hd:(x == ("__debug__" : Str))=false:=by decide):AE X (.Name x pos) (eC<|.int i):=
 PE.imp (Gg (v:=.int i) hg hm ⟨t,rfl⟩ hd) λσ H Q ⟨ρ,S,τ,R,r,h⟩=>h ρ H _ .refl R<|.int i
abbrev iU (f:A->A->iN->R A)(ca cb:Ex):Ex:=λτ S=>(ca τ S).bind λa S1=>(cb τ S1).bind λb S2=>f a b S2
abbrev r2 (X:Cx)(f:A->A->iN->R A):R2:=λx y H Q=>∃ρ S a b,Rel X.K ρ H S/\AV X.K ρ H a x/\AV X.K ρ H b y/\(f a b S).post (uv X ρ H Q) (XE X ρ H)
abbrev r1 (X:Cx)(f:A->iN->R A):V->Hp->VK->Prop:=λx H Q=>∃ρ S a,Rel X.K ρ H S/\AV X.K ρ H a x/\(f a S).post (uv X ρ H Q) (XE X ρ H)
abbrev rN (X:Cx)(f:ad->iN->R A):List V->Hp->VK->Prop:=λxs H Q=>∃ρ S as,Rel X.K ρ H S/\AVs X.K ρ H as xs/\(f as S).post (uv X ρ H Q) (XE X ρ H)
def mL.imp{f:af->af->Sem af}{r r':R2}(h:mL X f r)(i:∀x y H Q,r' x y H Q->r x y H Q):mL X f r':=λpins s σ H x y v u Q I rx ry q=>h pins s σ H x y v u Q I rx ry<|i _ _ _ _ q
def jw.imp{f:af}{r r':List V->Hp->VK->Prop}(h:jw X f r)(i:∀x H Q,r' x H Q->r x H Q):jw X f r':=λpins s σ H x v Q I rx q=>h pins s σ H x v Q I rx<|i _ _ _ q
def rL{f:A->A->iN->R A}{ca cb:Ex}{H:Hp}{Q:VK}(h:tE X (iU f ca cb) σ H Q):Wa (r2 X f) (tE X ca) (tE X cb) σ H Q:=by
 kln_w;refine⟨ρ,S,τ,R,r,iM (iR h) .refl λa S1 h1 ρ1 H1 x e1 R1 v1=>⟨ρ1,S1,τ,R1,r.ext e1,iM (iR h1) e1 λb S2 h2 ρ2 H2 y e2 R2 v2=>?_⟩⟩;exact⟨ρ2,S2,a,b,R2,v1.ext e2,v2,iM h2 (e1.trans e2) λc S3 h3=>h3.ext<|e1.trans e2⟩
def i7{f:A->A->iN->R A}{ca cb:Ex}(ho:mL X (binaryOp op)<|r2 X f)(ha:AE X a ca)(hb:AE X b cb):AE X (.BinOp a op b pos) (iU f ca cb):=
 PE.imp (V2 ho ha hb) λσ H Q h=>rL h
def AH{op:CmpOp}{f:A->A->iN->R A}{ca cb:Ex}(ho:mL X (compareOp op)<|r2 X f)(ha:AE X a ca)(hb:AE X b cb)(hm:behindInMarks op b=false:=by first|exact Lu _|with_unfolding_all rfl):AE X (.Compare a [op] [b] pos) (iU f ca cb):=
 PE.imp (Oz ho ha hb hm) λσ H Q h=>rL h
abbrev A.VI:A->iN->bd
 | .non,_=>some false
 | .bl b,_=>some b
 | .int i,_=>some (i != 0)
 | .str x,_=>if x.length<=sizeLine then some ((x.length:Int) != 0)else none
 | .tup xs,_=>some (!xs.isEmpty)
 | .frz xs,_=>some (!xs.isEmpty)
 | .ref n,S=>(iL S n).map λxs=>!xs.isEmpty
 | _,_=>none
abbrev zV (c:Ex):Te:=λτ S=>(c τ S).bind λa S1=>opt (a.VI S1) λb=>.ok b S1
abbrev qS (c:Ex):Te:=λτ S=>(c τ S).bind λa S1=>match a with
 | .bl b=>.ok b S1
 | _=>.no
def Bf{K:au}{H:Hp}{b:Bool}{v:V}(h:AV K ρ H (.bl b) v):v=.bl b:=by cases h;rfl
def jI{op:CmpOp}{f:A->A->iN->R A}{ca cb:Ex}(ho:mL X (compareOp op)<|r2 X f)(ha:AE X a ca)(hb:AE X b cb)(hm:behindInMarks op b=false:=by first|exact Lu _|with_unfolding_all rfl):AT X (.Compare a [op] [b] pos) (qS<|iU f ca cb):=
 PT.imp (N6 ho ha hb hm) λσ H Q h9=>by
  z_go;refine rL ⟨ρ,S,τ,R,r,iM (iR h) .refl λc S1 h1 ρ1 H1 x e1 R1 v1=>?_⟩
  cases c with
  | bl k=>cases Bf v1;exact⟨k,rfl,h1 ρ1 H1 e1 R1⟩
  | _=>exact h1.elim
def RN{K:au}{H:Hp}{x:A}{v:V}{b:Bool}(R:Rel K ρ H S)(h:AV K ρ H x v)(e:x.VI S=some b):RQ K v H b:=by
 have emp:∀{xs:ad} {vs:List V},AVs K ρ H xs vs->(!xs.isEmpty)=!vs.isEmpty:=λr=>by cases r<;>rfl
 cases h with
 | non=>exact(aS e).symm
 | bl b=>exact(aS e).symm
 | int i=>exact(aS e).symm
 | str x=>
  by_cases hx:x.length<=sizeLine
  ·exact⟨hx,by have:=(aJ hx).symm.trans e;exact(aS this).symm⟩
  ·have:=(aK hx).symm.trans e;cases this
 | tup h r=>exact .inr (.inl ⟨_,nk.of h,by rw[<- emp r];exact(aS e).symm⟩)
 | frz h r=>exact .inl ⟨_,h.PC,by rw[<- emp r];exact(aS e).symm⟩
 | rng h=>cases e
 | ty n=>cases e
 | exn n h x=>cases e
 | ktu h r=>cases e
 | @ref a n h=>
  have e:(iL S n).map (λxs=>!xs.isEmpty)=some b:=e;obtain⟨xs,hn,e⟩:=bz.mp e;obtain⟨vs,h1,h2⟩:=R.lst h<|i6 hn;exact .inl ⟨vs,mP.of h1,by rw[<- emp h2];exact e.symm⟩
def sF{ca:Ex}(ha:AE X a ca)(he:∀whole,isTrue a X.env whole=(do let v <- whole;standAt a.pos;holding [v] (truthy v)):=by intro _;rfl):AT X a (zV ca):=
 PT.imp (KI ha he) λσ H Q ⟨ρ,S,τ,R,r,h⟩=>⟨ρ,S,τ,R,r,iM (iR h) .refl λc S1 h1 ρ1 H1 x e1 R1 v1=>by
  obtain⟨b,hb,h1⟩:=iY h1;exact⟨b,RN R1 v1 hb,h1 ρ1 H1 e1 R1⟩⟩
abbrev Bq (c:Te):Te:=λτ S=>(c τ S).bind λb S1=>.ok (!b) S1
abbrev Ny (c d:Te):Te:=λτ S=>(c τ S).bind λb S1=>match b with|true=>d τ S1|false=>.ok false S1
abbrev NF (c d:Te):Te:=λτ S=>(c τ S).bind λb S1=>match b with|true=>.ok true S1|false=>d τ S1
def uB{c:Te}(h:AT X a c):AT X (.UnaryOp .Not a pos) (Bq c):=PT.imp (Q_ h) λσ H Q ⟨ρ,S,τ,R,r,h⟩=>⟨ρ,S,τ,R,r,iM (iR h) .refl λb S1 h1=>h1⟩
def and_imp{c d:Te}{H:Hp}{Q:Bool->Hp->Prop}(h:tT X (Ny c d) σ H Q):Wn (tT X c) (tT X d) σ H Q:=by
 kln_w;refine⟨ρ,S,τ,R,r,iM (iR h) .refl λb S1 h1 ρ1 H1 e1 R1=>?_⟩
 cases b with
 | true=>
  rw[aJ rfl];exact⟨ρ1,S1,τ,R1,r.ext e1,iM h1 e1 λ_ _ z=>z.ext e1⟩
 | false=>
  rw[aK bG];exact h1 ρ1 H1 e1 R1
def or_imp{c d:Te}{H:Hp}{Q:Bool->Hp->Prop}(h:tT X (NF c d) σ H Q):Ys (tT X c) (tT X d) σ H Q:=by
 kln_w;refine⟨ρ,S,τ,R,r,iM (iR h) .refl λb S1 h1 ρ1 H1 e1 R1=>?_⟩
 cases b with
 | false=>
  rw[aK bG];exact⟨ρ1,S1,τ,R1,r.ext e1,iM h1 e1 λ_ _ z=>z.ext e1⟩
 | true=>
  rw[aJ rfl];exact h1 ρ1 H1 e1 R1
variable {rest:List aE}
def NS{c:Te}(h:AT X a c):AW X (.BoolOp .And [a] pos) c:=OE h
def zK{c:Te}(h:AT X a c):AW X (.BoolOp .Or [a] pos) c:=RM h
def Ti{c d:Te}(h:AT X a c)(h2:AW X (.BoolOp .And (b::rest) pos) d):AW X (.BoolOp .And (a::b::rest) pos) (Ny c d):=PW.imp (TU h h2) λ_ _ _ q=>and_imp q
def yE{c d:Te}(h:AT X a c)(h2:AW X (.BoolOp .Or (b::rest) pos) d):AW X (.BoolOp .Or (a::b::rest) pos) (NF c d):=PW.imp (VG h h2) λ_ _ _ q=>or_imp q
abbrev IC (c d:Ex):Ex:=λτ S=>(c τ S).bind λa S1=>match a with | .bl true=>d τ S1 | .bl false=>.ok (.bl false) S1|_=>.no
abbrev X3 (c d:Ex):Ex:=λτ S=>(c τ S).bind λa S1=>match a with | .bl true=>.ok (.bl true) S1 | .bl false=>d τ S1|_=>.no
abbrev QY (c:Ex):Ex:=λτ S=>(c τ S).bind λa S1=>match a with | .bl b=>.ok (.bl !b) S1|_=>.no
def D7{op}{c:Ex}(h:AE X a c):AE X (.BoolOp op [a] pos) c:=TY h
def CT{c d:Ex}(h:AE X a c)(h2:AE X (.BoolOp .And (b::rest) pos) d):AE X (.BoolOp .And (a::b::rest) pos) (IC c d):=PE.imp (Uj h h2) λσ H Q h9=>by
 z_go;refine⟨ρ,S,τ,R,r,iM (iR h) .refl λb S1 h1 ρ1 H1 x e1 R1 v1=>?_⟩
 cases b with
 | bl k=>
  cases Bf v1
  refine⟨k,rfl,?_⟩
  cases k with
  | true=>
   rw[aJ rfl];exact⟨ρ1,S1,τ,R1,r.ext e1,iM h1 e1 λ_ _ z=>z.ext e1⟩
  | false=>
   rw[aK bG];exact h1 ρ1 H1 _ e1 R1<|.bl false
 | _=>exact h1.elim
def Ss{c:Ex}(h:AE X a c):AE X (.UnaryOp .Not a pos) (QY c):=PE.imp (Se h) λσ H Q h9=>by
 z_go;refine⟨ρ,S,τ,R,r,iM (iR h) .refl λb S1 h1 ρ1 H1 x e1 R1 v1=>?_⟩
 cases b with
 | bl k=>
  cases Bf v1
  exact⟨k,rfl,h1 ρ1 H1 _ e1 R1<|.bl _⟩
 | _=>exact h1.elim
abbrev YN (t:Te)(c d:Ex):Ex:=λτ S=>(t τ S).bind λb S1=>match b with|true=>c τ S1|false=>d τ S1
abbrev iW:pQ:=λ_ S=>.ok [] S
abbrev iI (c:Ex)(d:pQ):pQ:=λτ S=>(c τ S).bind λa S1=>(d τ S1).bind λas S2=>.ok (a::as) S2
def iP:AL X [] iW:=PA.imp qi λσ H Q ⟨ρ,S,τ,R,r,h⟩=>h ρ H _ .refl R .nil
def iJ{e:aE}{c:Ex}{d:pQ}(ha:AE X e c)(hr:AL X es d)(hs:starEach (e::es) X.env=(false,eval e X.env)::starEach es X.env:=by rfl):AL X (e::es) (iI c d):=
 PA.imp (kZ ha hr hs) λσ H Q h9=>by
  z_go;refine⟨ρ,S,τ,R,r,iM (iR h) .refl λa S1 h1 ρ1 H1 x e1 R1 v1=>⟨ρ1,S1,τ,R1,r.ext e1,iM (iR h1) e1 λas S2 h2 ρ2 H2 xs e2 R2 v2=>?_⟩⟩;exact h2 ρ2 H2 _ (e1.trans e2) R2<|.cons (v1.ext e2) v2
abbrev qj (d:pQ):Ex:=λτ S=>(d τ S).bind λas S1=>gd (as.length<=sizeLine)<|.ok (.tup as) S1
abbrev newL (as:ad)(S:iN):R A:=gd (as.length<=sizeLine)<|.ok (.ref S.length)<|S++[.lst as]
abbrev nJ (d:pQ):Ex:=λτ S=>(d τ S).bind λas S1=>newL as S1
def rA{H H0:Hp}{Q:VK}(R:Rel X.K ρ H S)(r:AVs X.K ρ H as vs)(e:Ext ρ0 ρ H0 H)(h:uv X ρ0 H0 Q (.tup as) S):∀p,H p=none->Q (.ref p) (upd H p<|.tup vs):=λp hp=>by
 obtain⟨ex,R'⟩:=R.im (u:=.tup vs) hp;exact h ρ _ _ (e.trans ex) R'<|.tup ji<|r.ext ex
def nB{H H0:Hp}{S:iN}{Q:VK}(R:Rel X.K ρ H S)(r:AVs X.K ρ H as vs)(e:Ext ρ0 ρ H0 H)(h:uv X ρ0 H0 Q (.ref S.length)<|S++[.lst as]):∀p,H p=none->Q (.ref p) (upd H p<|.lst vs):=λp hp=>by
 obtain⟨ex,R',g⟩:=R.lay hp r;exact h _ _ _ (e.trans ex) R'<|.ref g
def O4{H H0:Hp}{vs:List V}{Q:VK}(R:Rel X.K ρ H S)(r:AVs X.K ρ H as vs)(e:Ext ρ0 ρ H0 H)(h:(newL as S).post (uv X ρ0 H0 Q)<|XE X ρ0 H0):vs.length<=sizeLine/\∀p,H p=none->Q (.ref p) (upd H p<|.lst vs):=by
 obtain⟨hl,h⟩:=ja h;exact⟨by rw[<- r.length];exact hl,nB R r e h⟩
def nX{d:pQ}{x1}(h:AL X es d):AE X (.Tuple es x1 pos) (qj d):=PE.imp (Ro h) λσ H Q h9=>by
 z_go;refine⟨ρ,S,τ,R,r,iM (iR h) .refl λas S1 h1 ρ1 H1 xs e1 R1 v1=>?_⟩;obtain⟨hl,h1⟩:=ja h1;exact⟨by rw[<- v1.length];exact hl,rA R1 v1 e1 h1⟩
def j0{d:pQ}(h:AL X es d):AE X (.List es pos) (nJ d):=PE.imp (SX h) λσ H Q ⟨ρ,S,τ,R,r,h⟩=>
 ⟨ρ,S,τ,R,r,iM (iR h) .refl λas S1 h1 ρ1 H1 xs e1 R1 v1=>O4 R1 v1 e1 h1⟩
end
section
variable {X:Cx}{pos:Pos}{a b:aE}
abbrev aSub (a b:A)(S:iN):R A:=match a,b with
 | .int i,.int j=>.ok (.int<|i-j) S
 | _,_=>.no
def oh:mL X (binaryOp .Sub) (r2 X aSub):=mL.imp Ug λx y H Q h9=>by
 x_go
 cases va<;>first|exact h.elim|(cases vb<;>first|exact h.elim|exact⟨_,_,rfl,rfl,h _ _ _ .refl R<|.int _⟩)
abbrev GR (i j:Int):Bool:=(decide (-(2 ^ 64)<i) && decide (i<2 ^ 64)) || (decide (-(2 ^ 64)<j) && decide (j<2 ^ 64))
def mulOk_of{i j:Int}(h:GR i j=true):NP i j:=by
 unfold GR at h;dsimp[iE,cR,fU]at h;exact h
abbrev w6 (a b:A)(S:iN):R A:=match a,b with
 | .int i,.int j=>gd (GR i j) (.ok (.int<|i * j) S)
 | .ref n,.int k=>opt (iL S n) λxs=>gd (-(2 ^ 63)<=k/\k<2 ^ 63/\xs.length * k.toNat<=sizeLine) (.ok (.ref S.length)<|S++[.lst (List.replicate k.toNat xs).flatten])
 | _,_=>.no
theorem AVs.rep{K:au}{H:Hp}(r:AVs K ρ H xs vs):∀k:Nat,AVs K ρ H (List.replicate k xs).flatten (List.replicate k vs).flatten
 | 0=>.nil
 | k+1=>by rw[cM,cM,c_,c_];exact r.append<|AVs.rep r k
def BW:mL X (binaryOp .Mult) (r2 X w6):=λpins s σ H x y v u Q I rx ry h9=>by
 x_go
 cases va with
 | int i=>
  cases vb with
  | int j=>
   obtain⟨hm,h⟩:=ja h;exact SJ pins s σ H _ _ v u Q I rx ry ⟨i,j,rfl,rfl,mulOk_of hm,h _ _ _ .refl R<|.int _⟩
  | _=>exact h.elim
 | @ref p n hp=>
  cases vb with
  | int k=>
   kj_on;obtain⟨hc,h⟩:=ja h;obtain⟨vs,h1,h2⟩:=R.lst hp<|i6 hn;exact Sb pins s σ H _ _ v u Q I rx ry ⟨p,k,vs,rfl,rfl,h1,hc.1,hc.2.1,by rw[<- h2.length];exact hc.2.2,nB R (h2.rep _) .refl h⟩
  | _=>exact h.elim
 | _=>exact h.elim
abbrev yG (a b:A)(S:iN):R A:=match a,b with
 | .int i,.int j=>gd (0<j/\j<18446744073709551616) (.ok (.int<|i / j) S)
 | _,_=>.no
def DZ:mL X (binaryOp .FloorDiv) (r2 X yG):=mL.imp Kr λx y H Q h9=>by
 x_go
 cases va<;>first|exact h.elim|(cases vb<;>first|exact h.elim|exact⟨_,_,rfl,rfl,(ja h).1,(ja h).2 _ _ _ .refl R<|.int _⟩)
abbrev w4 (a b:A)(S:iN):R A:=match a,b with
 | .int i,.int j=>gd (0<j) (.ok (.int<|i % j) S)
 | _,_=>.no
def yN:mL X (binaryOp .Mod) (r2 X w4):=mL.imp SY λx y H Q h9=>by
 x_go
 cases va<;>first|exact h.elim|(cases vb<;>first|exact h.elim|exact⟨_,_,rfl,rfl,(ja h).1,(ja h).2 _ _ _ .refl R<|.int _⟩)
abbrev NX (a b:A)(S:iN):R A:=match a,b with
 | .int i,.int j=>gd (0<=j/\j<=1000000/\i.natAbs<2 ^ 64) (.ok (.int<|i ^ j.toNat) S)
 | _,_=>.no
def VF:mL X (binaryOp .Pow) (r2 X NX):=mL.imp RB λx y H Q h9=>by
 x_go
 cases va<;>first|exact h.elim|(cases vb<;>first|exact h.elim|exact⟨_,_,rfl,rfl,(ja h).1,(ja h).2 _ _ _ .refl R<|.int _⟩)
abbrev j4 (a b:A)(S:iN):R A:=match a,b with
 | .int i,.int j=>.ok (.int<|i+j) S
 | .tup xs,.tup ys=>gd (xs.length+ys.length<=sizeLine) (.ok (.tup<|xs++ys) S)
 | .str x,.str y=>gd (x.length+y.length<=sizeLine) (.ok (.str<|x++y) S)
 | .ref n,.ref m=>opt (iL S n) λxs=>opt (iL S m) λys=>gd (xs.length+ys.length<=sizeLine) (.ok (.ref S.length)<|S++[.lst<|xs++ys])
 | _,_=>.no
def AVs.nil_inv{K:au}{H:Hp}(r:AVs K ρ H xs vs):xs=[] ↔ vs=[]:=by cases r<;>simp
def kL:mL X (binaryOp .Add) (r2 X j4):=λpins s σ H x y v u Q I rx ry h9=>by
 x_go
 cases va with
 | int i=>
  cases vb with
  | int j=>exact TH pins s σ H _ _ v u Q I rx ry ⟨i,j,rfl,rfl,h _ _ _ .refl R<|.int _⟩
  | _=>exact h.elim
 | str x=>
  cases vb with
  | str y=>
   obtain⟨hc,h⟩:=ja h;exact D9 pins s σ H _ _ v u Q I rx ry ⟨x,y,rfl,rfl,hc,h _ _ _ .refl R<|.str _⟩
  | _=>exact h.elim
 | @tup p xs vs h1 r1=>
  cases vb with
  | @tup q ys ws h2 r2=>
   obtain⟨hc,h⟩:=ja h;by_cases hv:vs=[]
   ·have hx:=r1.nil_inv.mpr hv;subst hv hx;exact J9 pins s σ H _ _ v u Q I rx ry ⟨p,q,ws,rfl,rfl,nk.of h1,nk.of h2,h _ _ _ .refl R<|.tup h2 r2⟩
   ·refine OP pins s σ H _ _ v u Q I rx ry ⟨p,q,vs,ws,rfl,rfl,nk.of h1,nk.of h2,hv,by rw[<- r1.length,<- r2.length];exact hc,λe=>?_,λ_=>rA R (r1.append r2) .refl h⟩;have hy:=r2.nil_inv.mpr e;subst hy;rw[bK]at h;exact h _ _ _ .refl R<|.tup h1 r1
  | _=>exact h.elim
 | @ref p n hp=>
  cases vb with
  | @ref q m hq=>
   kj_on;obtain⟨ys,hm,h⟩:=iY h;obtain⟨hc,h⟩:=ja h;obtain⟨vs,h1,h2⟩:=R.lst hp<|i6 hn;obtain⟨ws,h3,h4⟩:=R.lst hq<|i6 hm;exact Q7 pins s σ H _ _ v u Q I rx ry ⟨p,q,vs,ws,rfl,rfl,h1,h3,by rw[<- h2.length,<- h4.length];exact hc,nB R (h2.append h4) .refl h⟩
  | _=>exact h.elim
 | _=>exact h.elim
abbrev A.ints:ad->Option (ae)
 | []=>some []
 | .int i::xs=>(A.ints xs).map (i::·)
 | _=>none
theorem vp{K:au}{H:Hp}:∀{xs:ad}{vs:List V}{bs:ae},AVs K ρ H xs vs->A.ints xs=some bs->vs=bs.map V.int
 | _,_,_,.nil,e=>by cases e;rfl
 | _,_,_,.cons (x:=.int b) h t,e=>by
  obtain⟨cs,e1,rfl⟩:=bz.mp e
  cases h
  rw[vp t e1];rfl
 | _,_,_,.cons (x:=.unb) h t,e=>nomatch e
 | _,_,_,.cons (x:=.non) h t,e=>nomatch e
 | _,_,_,.cons (x:=.bl _) h t,e=>nomatch e
 | _,_,_,.cons (x:=.str _) h t,e=>nomatch e
 | _,_,_,.cons (x:=.tup _) h t,e=>nomatch e
 | _,_,_,.cons (x:=.frz _) h t,e=>nomatch e
 | _,_,_,.cons (x:=.rng _ _) h t,e=>nomatch e
 | _,_,_,.cons (x:=.ref _) h t,e=>nomatch e
 | _,_,_,.cons (x:=.exn _) h t,e=>nomatch e
 | _,_,_,.cons (x:=.ty _) h t,e=>nomatch e
abbrev Oc (a b:A)(S:iN):R A:=match a,b with
 | .int i,.int j=>.ok (.bl<|decide<|i<j) S
 | _,_=>.no
def OG(hu:X.A.units+64<cLine):mL X (compareOp .Lt) (r2 X Oc):=λpins s σ H x y v u Q I rx ry h9=>by
 x_go
 cases va with
 | int i=>
  cases vb with
  | int j=>exact Wc pins s σ H _ _ v u Q I rx ry ⟨i,j,rfl,rfl,h _ _ _ .refl R<|.bl _⟩
  | _=>exact h.elim
 | _=>exact h.elim
abbrev UH (a b:A)(S:iN):R A:=match a,b with
 | .int i,.int j=>.ok (.bl<|decide<|i<=j) S
 | _,_=>.no
def TF:mL X (compareOp .LtE) (r2 X UH):=mL.imp Vf λx y H Q h9=>by
 x_go
 cases va<;>first|exact h.elim|(cases vb<;>first|exact h.elim|exact⟨_,_,rfl,rfl,h _ _ _ .refl R<|.bl _⟩)
abbrev IM (a b:A)(S:iN):R A:=match a,b with
 | .int i,.int j=>.ok (.bl<|decide<|j<i) S
 | _,_=>.no
def D6(hu:X.A.units+64<cLine):mL X (compareOp .Gt) (r2 X IM):=λpins s σ H x y v u Q I rx ry h9=>by
 x_go
 cases va with
 | int i=>
  cases vb with
  | int j=>exact Wm pins s σ H _ _ v u Q I rx ry ⟨i,j,rfl,rfl,h _ _ _ .refl R<|.bl _⟩
  | _=>exact h.elim
 | _=>exact h.elim
abbrev Wr (a b:A)(S:iN):R A:=match a,b with
 | .int i,.int j=>.ok (.bl<|decide<|j<=i) S
 | _,_=>.no
def Xu:mL X (compareOp .GtE) (r2 X Wr):=mL.imp V4 λx y H Q h9=>by
 x_go
 cases va<;>first|exact h.elim|(cases vb<;>first|exact h.elim|exact⟨_,_,rfl,rfl,h _ _ _ .refl R<|.bl _⟩)
abbrev ID (neg:Bool)(a b:A)(S:iN):R A:=match a,b with
 | .bl i,.bl j=>.ok (.bl<|if neg then i != j else i == j) S
 | .non,.non=>.ok (.bl<|!neg) S
 | .unb,.non=>.no
 | .exn _,.non=>.no
 | _,.non=>.ok (.bl neg) S
 | _,_=>.no
def RK{n:Bool}{a b:A}(h1:b≠.non)(h2:∀j,b≠.bl j):ID n a b S=.no:=by
 unfold ID;split<;>first|rfl|exact absurd rfl h1|exact absurd rfl<|h2 _
def Sw{n:Bool}{a b:A}{F:A->iN->Prop}{G:Str->iN->Prop}(h:(ID n a b S).post F G)(h1:b≠.non)(h2:∀j,b≠.bl j):False:=by
 rw[RK h1 h2]at h;exact h
def WY:mL X (compareOp .Is) (r2 X<|ID false):=λpins s σ H x y v u Q I rx ry h9=>by
 x_go
 cases vb with
 | non=>
  refine Th pins s σ H _ _ v u Q I rx ry ⟨rfl,?_⟩
  cases va<;>first|exact h _ _ _ .refl R (.bl _)|exact h.elim
 | bl j=>
  cases va with
  | bl i=>exact RV pins s σ H _ _ v u Q I rx ry ⟨i,j,rfl,rfl,h _ _ _ .refl R<|.bl _⟩
  | _=>exact h.elim
 | _=>
  exact(Sw h (λz=>nomatch z) nofun).elim
abbrev SA (f:A->iN->R A)(c:Ex):Ex:=λτ S=>(c τ S).bind λa S1=>f a S1
abbrev Dq (a:A)(S:iN):R A:=match a with
 | .int i=>.ok (.int<|-i) S
 | _=>.no
def V7:WD X (unaryOp .USub) (r1 X Dq):=λpins s σ H x v Q I rx h9=>by
 obtain⟨ρ,S,a,R,va,h⟩:=h9
 cases va with
 | int i=>exact RP pins s σ H _ v Q I rx ⟨i,rfl,h _ _ _ .refl R<|.int _⟩
 | _=>exact h.elim
def TZ{f:A->iN->R A}{c:Ex}{H:Hp}{Q:VK}(h:tE X (SA f c) σ H Q):Yi (r1 X f) (tE X c) σ H Q:=by
 kln_w;exact⟨ρ,S,τ,R,r,iM (iR h) .refl λa S1 h1 ρ1 H1 x e1 R1 v1=>⟨ρ1,S1,a,R1,v1,iM h1 e1 λc S3 h3=>h3.ext e1⟩⟩
def C5{c:Ex}(h:AE X a c):AE X (.UnaryOp .USub a pos) (SA Dq c):=PE.imp (VN V7 h) λ_ _ _ q=>TZ q
abbrev qy (a b:A)(S:iN):R A:=match a,b with
 | .tup xs,.int i=>opt (oq xs i) λx=>.ok x S
 | .frz xs,.int i=>opt (oq xs i) λx=>.ok x S
 | .ref n,.int i=>opt (iL S n) λxs=>opt (oq xs i) λx=>.ok x S
 | .str z,.int i=>gd (z.length<=sizeLine) (opt (oq z.cps.toList i) λc=>.ok (.str ⟨#[c]⟩) S)
 | _,_=>.no
def AVs.oq{K:au}{H:Hp}{i:Int}{x:A}(r:AVs K ρ H xs vs)(h:L2.oq xs i=some x):∃v,L2.oq vs i=some v/\AV K ρ H x v:=by
 unfold L2.oq at h ⊢;rw[<- r.length]
 cases hj:vV xs.length i with
 | none=>rw[hj]at h;cases h
 | some j=>
  rw[hj]at h;exact r.get h
def Wh:N1 X (r2 X qy):=λvalue slice pins s σ H x y v u Q I rx ry ⟨ρ,S,a,b,R,va,vb,h⟩ hs=>by
 cases va with
 | @tup p xs vs h1 r1=>
  cases vb with
  | int i=>
   obtain⟨x,hx,h⟩:=iY h;obtain⟨z,e,q⟩:=r1.oq hx;exact Uu value slice pins s σ H _ _ v u Q I rx ry ⟨p,vs,i,z,rfl,rfl,nk.of h1,e,h _ _ _ .refl R q⟩ hs
  | _=>exact h.elim
 | @frz p xs vs h1 r1=>
  cases vb with
  | int i=>
   obtain⟨x,hx,h⟩:=iY h;obtain⟨z,e,q⟩:=r1.oq hx;exact Fd value slice pins s σ H _ _ v u Q I rx ry ⟨p,vs,i,z,rfl,rfl,h1.PC,e,h _ _ _ .refl R q⟩ hs
  | _=>exact h.elim
 | @ref p n hp=>
  cases vb with
  | int i=>
   kj_on;obtain⟨x,hx,h⟩:=iY h;obtain⟨vs,h1,r1⟩:=R.lst hp<|i6 hn;obtain⟨z,e,q⟩:=r1.oq hx;exact Fd value slice pins s σ H _ _ v u Q I rx ry ⟨p,vs,i,z,rfl,rfl,mP.of h1,e,h _ _ _ .refl R q⟩ hs
  | _=>exact h.elim
 | str z=>
  cases vb with
  | int i=>
   obtain⟨hz,h⟩:=ja h;obtain⟨c,hc,h⟩:=iY h;exact Tj value slice pins s σ H _ _ v u Q I rx ry ⟨z,i,c,rfl,rfl,hz,hc,h _ _ _ .refl R<|.str _⟩ hs
  | _=>exact h.elim
 | _=>exact h.elim
def kM{ca cb:Ex}(ha:AE X a ca)(hb:AE X b cb)(hs:vn b:=by exact λ_ _=>rfl):AE X (.Subscript a b pos) (iU qy ca cb):=PE.imp (JV Wh ha hb hs) λσ H Q h=>rL h
end
abbrev sZ (f:A->A->bd):ad->ad->bd
 | [],[]=>some true
 | x::xs,y::ys=>(f x y).bind λp=>(sZ f xs ys).map λq=>p && q
 | _,_=>some false
inductive Sh
 | non
 | bl (b:Bool)
 | int (i:Int)
 | str (x:Str)
 | tup (xs:ad)
 | lst
abbrev SD (S:iN):A->Option Sh
 | .non=>some .non
 | .bl b=>some (.bl b)
 | .int i=>some (.int i)
 | .str x=>some (.str x)
 | .tup xs=>some (.tup xs)
 | .ref i=>(iL S i).map λ_=>.lst
 | _=>none
abbrev NL (f:A->A->bd):Sh->Sh->bd
 | .non,.non=>some true
 | .bl x,.bl y=>some (x == y)
 | .bl x,.int y=>some ((if x then 1 else 0) == y)
 | .int x,.bl y=>some (x == (if y then 1 else 0))
 | .int x,.int y=>some (x == y)
 | .str x,.str y=>some (x == y)
 | .tup xs,.tup ys=>sZ f xs ys
 | .lst,.lst=>none
 | _,_=>some false
abbrev yp (S:iN):Nat->A->A->bd
 | 0,_,_=>none
 | n+1,a,b=>match a,b with
  | .ref i,.ref j=>(iL S i).bind λxs=>(iL S j).bind λys=>sZ (yp S n) xs ys
  | _,_=>(SD S a).bind λx=>(SD S b).bind λy=>NL (yp S n) x y
section
variable {X:Cx}{pins:bj}{σ:L2.St}{H:Hp}{s:aC}{ρ:ar}{S:iN}
inductive KdV (s:aC):Sh->af->Prop
 | non:KdV s .non .none
 | bl (b:Bool):KdV s (.bl b) (.bool b)
 | int (i:Int) (t:Tok):KdV s (.int i) (.int i t)
 | str (x:Str) (t:Tok):KdV s (.str x) (.str x t)
 | tup {p:ak} {us:ap} (xs:ad) (h:s.heap.IsTuple p us.toArray):KdV s (.tup xs) (.ref p)
 | lst {p:ak} {us:ap} (h:s.heap.IsList p us.toArray):KdV s .lst<|.ref p
def G0{p:ak}(h:s.heap.IsTuple p us)(h':s.heap.IsList p ws):False:=by
 obtain⟨o,e,c,_⟩:=h;obtain⟨o',e',c',_⟩:=h';rw[e]at e'
 cases e'
 exact absurd (c.symm.trans c') ⋯
def GP(I:Inv X pins σ H s)(R:Rel X.K ρ H S){a:A}{x:V}(ha:AV X.K ρ H a x)(r:RelV x u)(e:SD S a=some h):KdV s h u:=by
 cases ha with
 | non=>cases e;cases(show u=Value.none from r);exact .non
 | bl b=>cases e;cases(show u=Value.bool b from r);exact .bl b
 | int i=>cases e;obtain⟨t,rfl⟩:∃t,u=Value.int i t:=r;exact .int i t
 | str i=>cases e;obtain⟨t,rfl⟩:∃t,u=Value.str i t:=r;exact .str i t
 | tup h1 r1=>cases e;cases(show u=Value.ref _ from r);obtain⟨us,_,p,_⟩:=I.tuple<|nk.of h1;exact .tup _ p
 | ref h1=>
  obtain⟨xs,e1,rfl⟩:=bz.mp e
  cases(show u=Value.ref _ from r)
  obtain⟨vs,h3,r1⟩:=R.lst h1<|i6 e1;obtain⟨us,_,p,_⟩:=I.list<|mP.of h3;exact .lst p.isList
 | _=>cases e
abbrev Al (B:aA)(s:aC)(u v:af)(k:Bool):Prop:=SeqAt.RcAt B s u v k/\SeqAt.EqAt B s u v k/\SeqAt.RcNeAt B s u v (!k)
def UI{B:aA}(hu:B.units<cLine){f:A->A->bd}{v:af}{k:Bool}(d:KdV s h u)(d':KdV s h' v)(nt:∀xs ys,h=.tup xs->h'≠.tup ys)(e:NL f h h'=some k):Al B s u v k:=by
 cases d with
 | non=>cases d' with
  | non=>cases e;exact⟨.none_none,.same _,.none_none⟩
  | bl b=>cases e;exact⟨.none_bool _,.none_bool _,.none_bool _⟩
  | int i t=>cases e;exact⟨.none_int _ _,.none_int _ _,.none_int _ _⟩
  | str x t=>cases e;exact⟨.none_str _ _,.none_str _ _,.none_str _ _⟩
  | tup xs p=>cases e;exact⟨.none_tuple p hu,.none_tuple p hu,.none_tuple p hu⟩
  | lst p=>cases e;exact⟨.none_list p hu,.none_list p hu,.none_list p hu⟩
 | bl c=>cases d' with
  | non=>cases e;exact⟨.bool_none _,.bool_none _,.bool_none _⟩
  | bl b=>cases e;exact⟨.bool_bool _ _,.bool_bool _ _,.bool_bool _ _⟩
  | int i t=>cases e;exact⟨.bool_int _ _ _,.bool_int _ _ _,.bool_int _ _ _⟩
  | str x t=>cases e;exact⟨.bool_str _ _ _,.bool_str _ _ _,.bool_str _ _ _⟩
  | tup xs p=>cases e;exact⟨.bool_tuple _ p hu,.bool_tuple _ p hu,.bool_tuple _ p hu⟩
  | lst p=>cases e;exact⟨.bool_list _ p hu,.bool_list _ p hu,.bool_list _ p hu⟩
 | int c t'=>cases d' with
  | non=>cases e;exact⟨.int_none _ _,.int_none _ _,.int_none _ _⟩
  | bl b=>cases e;exact⟨.int_bool _ _ _,.int_bool _ _ _,.int_bool _ _ _⟩
  | int i t=>cases e;exact⟨.int_int _ _ _ _,.int_int _ _ _ _,.int_int _ _ _ _⟩
  | str x t=>cases e;exact⟨.int_str _ _ _ _,.int_str _ _ _ _,.int_str _ _ _ _⟩
  | tup xs p=>cases e;exact⟨.int_tuple _ _ p hu,.int_tuple _ _ p hu,.int_tuple _ _ p hu⟩
  | lst p=>cases e;exact⟨.int_list _ _ p hu,.int_list _ _ p hu,.int_list _ _ p hu⟩
 | str c t'=>cases d' with
  | non=>cases e;exact⟨.str_none _ _,.str_none _ _,.str_none _ _⟩
  | bl b=>cases e;exact⟨.str_bool _ _ _,.str_bool _ _ _,.str_bool _ _ _⟩
  | int i t=>cases e;exact⟨.str_int _ _ _ _,.str_int _ _ _ _,.str_int _ _ _ _⟩
  | str x t=>cases e;exact⟨.str_str _ _ _ _,.str_str _ _ _ _,.str_str _ _ _ _⟩
  | tup xs p=>cases e;exact⟨.str_tuple _ _ p hu,.str_tuple _ _ p hu,.str_tuple _ _ p hu⟩
  | lst p=>cases e;exact⟨.str_list _ _ p hu,.str_list _ _ p hu,.str_list _ _ p hu⟩
 | tup zs p'=>cases d' with
  | non=>cases e;exact⟨.tuple_none p' hu,.tuple_none p' hu,.tuple_none p' hu⟩
  | bl b=>cases e;exact⟨.tuple_bool _ p' hu,.tuple_bool _ p' hu,.tuple_bool _ p' hu⟩
  | int i t=>cases e;exact⟨.tuple_int _ _ p' hu,.tuple_int _ _ p' hu,.tuple_int _ _ p' hu⟩
  | str x t=>cases e;exact⟨.tuple_str _ _ p' hu,.tuple_str _ _ p' hu,.tuple_str _ _ p' hu⟩
  | tup xs p=>exact absurd rfl (nt _ _ rfl)
  | lst p=>cases e;exact⟨.tuple_list p' p hu,.of_refs (λz=>by subst z;exact G0 p' p)<|.tuple_list p' p hu,.tuple_list p' p hu⟩
 | lst p'=>cases d' with
  | non=>cases e;exact⟨.list_none p' hu,.list_none p' hu,.list_none p' hu⟩
  | bl b=>cases e;exact⟨.list_bool _ p' hu,.list_bool _ p' hu,.list_bool _ p' hu⟩
  | int i t=>cases e;exact⟨.list_int _ _ p' hu,.list_int _ _ p' hu,.list_int _ _ p' hu⟩
  | str x t=>cases e;exact⟨.list_str _ _ p' hu,.list_str _ _ p' hu,.list_str _ _ p' hu⟩
  | tup xs p=>cases e;exact⟨.list_tuple p' p hu,.of_refs (λz=>by subst z;exact G0 p p')<|.list_tuple p' p hu,.list_tuple p' p hu⟩
  | lst p=>cases e
def A8{a:A}{x:V}(h:AV X.K ρ H a x)(e:SD S a=some (.tup xs)):a=.tup xs/\∃p vs,x=.ref p/\H p=some (.tup vs)/\AVs X.K ρ H xs vs:=by
 cases h with
 | tup h r=>cases e;exact⟨rfl,_,_,rfl,h,r⟩
 | ref h=>obtain⟨_,_,z⟩:=bz.mp e;cases z
 | _=>cases e
def zI{i:Nat}{x:V}(h:AV X.K ρ H (.ref i) x):∃p,x=.ref p/\ρ[i]?=some p:=by
 cases h with
 | ref h=>exact⟨_,rfl,h⟩
def KP{a:A}(e:SD S a=some .lst):∃i,a=.ref i:=by
 cases a with
 | ref i=>exact⟨i,rfl⟩
 | _=>cases e
def JF{n:Nat}{a:A}{k:Bool}(e:yp S (n+1) a b=some k):(∃i j xs ys,a=.ref i/\b=.ref j/\iL S i=some xs/\iL S j=some ys/\sZ (yp S n) xs ys=some k)\/(∃h h',SD S a=some h/\SD S b=some h'/\NL (yp S n) h h'=some k/\(h=.lst->h'≠.lst)):=by
 unfold yp at e;split at e
 ·obtain⟨xs,e1,e⟩:=b6.mp e;obtain⟨ys,e2,e⟩:=b6.mp e;exact .inl ⟨_,_,xs,ys,rfl,rfl,e1,e2,e⟩
 ·rename_i nr;obtain⟨h,e1,e⟩:=b6.mp e;obtain⟨h',e2,e⟩:=b6.mp e;refine .inr ⟨h,h',e1,e2,e,λz1 z2=>?_⟩;subst z1 z2;obtain⟨i,rfl⟩:=KP e1;obtain⟨j,rfl⟩:=KP e2;exact nr i j rfl rfl
def O_{f:A->A->bd}{k:Bool}(d:KdV s h u)(d':KdV s h' u)(nt:∀xs ys,h=.tup xs->h'≠.tup ys)(e:NL f h h'=some k):k=true:=by
 cases d with
 | non=>cases d';exact(aS e).symm
 | bl b=>cases d';exact(aS e).symm.trans (bM b)
 | int b=>cases d';exact(aS e).symm.trans (bM b)
 | str b=>cases d';exact(aS e).symm.trans (bM b)
 | tup xs p=>cases d' with
  | tup=>exact absurd rfl (nt _ _ rfl)
  | lst q=>exact(G0 p q).elim
 | lst p=>cases d' with
  | tup _ q=>exact(G0 q p).elim
  | lst q=>cases e
def CO{f:A->A->bd}(hf:∀a b x u k,AV X.K ρ H a x->AV X.K ρ H b x->RelV x u->f a b=some k->k=true):∀{xs ys:ad}{vs:List V}{us:ap}{k:Bool},AVs X.K ρ H xs vs->AVs X.K ρ H ys vs->Vals vs us->sZ f xs ys=some k->k=true:=by
 intro xs ys vs us k h1 h2 q e
 induction q generalizing xs ys k with
 | nil=>cases h1;cases h2;exact(aS e).symm
 | cons rv _ ih=>
  cases h1 with
  | cons h t=>cases h2 with
   | cons h' t'=>
    obtain⟨p,e1,e⟩:=b6.mp e;obtain⟨q,e2,e3⟩:=bz.mp e;rw[<- e3,hf _ _ _ _ p h h' rv e1,ih t t' e2];rfl
def E7(h h':Sh):(∃xs ys,h=.tup xs/\h'=.tup ys)\/(∀xs ys,h=.tup xs->h'≠.tup ys):=by
 cases h with
 | tup xs=>cases h' with
  | tup ys=>exact .inl ⟨xs,ys,rfl,rfl⟩
  | _=>exact .inr λ_ _ _ z=>nomatch z
 | _=>exact .inr λ_ _ z=>nomatch z
theorem Ak(I:Inv X pins σ H s)(R:Rel X.K ρ H S):∀(n:Nat) (a b:A) (x:V) (u:af) (k:Bool),AV X.K ρ H a x->AV X.K ρ H b x->RelV x u->yp S n a b=some k->k=true
 | 0,_,_,_,_,_,_,_,_,e=>nomatch e
 | n+1,a,b,x,u,k,ha,hb,ru,e=>by
  rcases JF e with⟨i,j,xs,ys,rfl,rfl,e1,e2,e⟩|⟨h,h',e1,e2,e,_⟩
  ·obtain⟨p,rfl,h1⟩:=zI ha;obtain⟨q,z,h2⟩:=zI hb
   cases z
   obtain⟨vs,h3,r1⟩:=R.lst h1<|i6 e1;obtain⟨ws,h4,r2⟩:=R.lst h2<|i6 e2;rw[h3]at h4
   cases h4
   obtain⟨us,q,_⟩:=I.list<|mP.of h3;exact CO (λa b x u k=>Ak I R n a b x u k) r1 r2 q e
  ·rcases E7 h h' with⟨xs,ys,rfl,rfl⟩|nt
   ·obtain⟨rfl,p,vs,rfl,h3,r1⟩:=A8 ha e1;obtain⟨rfl,q,ws,z,h4,r2⟩:=A8 hb e2
    cases z
    have:=I.yQ (nk.of h3)<|nk.of h4;subst this;obtain⟨us,q,_⟩:=I.tuple<|nk.of h3;exact CO (λa b x u k=>Ak I R n a b x u k) r1 r2 q e
   ·exact O_ (GP I R ha ru e1) (GP I R hb ru e2) nt e
abbrev yt (f:A->A->bd)(xs ys:ad)(j:Nat):Bool:=match xs[j]?,ys[j]? with
 | some x,some y=>(f x y).getD true
 | _,_=>true
theorem vC{f:A->A->bd}:∀{xs ys:ad}{k:Bool},sZ f xs ys=some k->k=((List.range<|min xs.length ys.length).all (yt f xs ys) && xs.length == ys.length)/\∀j x y,xs[j]?=some x->ys[j]?=some y->f x y=some (yt f xs ys j)
 | [],[],k,e=>⟨(aS e).symm,λj x y h=>by simp at h⟩
 | [],_::_,k,e=>⟨(aS e).symm,λj x y h=>by simp at h⟩
 | _::_,[],k,e=>⟨(aS e).symm,λj x y _ h=>by simp at h⟩
 | x::xs,y::ys,k,e=>by
  unfold sZ at e
  cases e1:f x y with
  | none=>rw[e1]at e;cases e
  | some p=>
   rw[e1]at e;obtain⟨q,e2,e3⟩:=bz.mp e;obtain⟨h1,h2⟩:=vC e2;have p0:yt f (x::xs) (y::ys) 0=p:=by simp[yt,e1]
   have ps:∀j,yt f (x::xs) (y::ys) (j+1)=yt f xs ys j:=λj=>by simp[yt]
   refine⟨?_,λj a b ha hb=>?_⟩
   ·rw[<- e3,h1,bA,bA,Nat.succ_min_succ,List.range_succ_eq_map,List.all_cons,List.all_map,p0];have:(yt f (x::xs) (y::ys) ∘ Nat.succ)=yt f xs ys:=funext ps;rw[this,Bool.and_assoc];simp
   ·cases j with
    | zero=>
     simp at ha hb;subst ha hb;rw[p0];exact e1
    | succ j=>rw[ps];exact h2 j a b (by simpa using ha)<|by simpa using hb
def vG{f:A->A->bd}{B:aA}(hf:∀a b x y u v k,AV X.K ρ H a x->AV X.K ρ H b y->RelV x u->RelV y v->f a b=some k->SeqAt.EqAt B s u v k){us ts:ap}{k:Bool}
  (r1:AVs X.K ρ H xs vs) (r2:AVs X.K ρ H ys ws) (q1:Vals vs us) (q2:Vals ws ts) (e:sZ f xs ys=some k):∀j (h1:j<us.toArray.size) (h2:j<ts.toArray.size),SeqAt.EqAt B s us.toArray[j] ts.toArray[j] (yt f xs ys j):=by
 intro j h1 h2;have l1:=r1.length;have l2:=r2.length;have l3:=q1.length;have l4:=q2.length;have hx:j<xs.length:=by simp at h1;lia
 have hy:j<ys.length:=by simp at h2;lia
 have e1:xs[j]?=some xs[j]:=aG hx;have e2:ys[j]?=some ys[j]:=aG hy;obtain⟨x,ex,ax⟩:=r1.get e1;obtain⟨y,ey,ay⟩:=r2.get e2;obtain⟨u,eu,ru⟩:=q1.get ex;obtain⟨t,et,rt⟩:=q2.get ey;have a1:us.toArray[j]=u:=by
  have:us[j]?=some us.toArray[j]:=by simp at h1;simp[h1]
  rw[eu]at this;exact(aS this).symm
 have a2:ts.toArray[j]=t:=by
  have:ts[j]?=some ts.toArray[j]:=by simp at h2;simp[h2]
  rw[et]at this;exact(aS this).symm
 rw[a1,a2];exact hf _ _ x y u t _ ax ay ru rt<|(vC e).2 j _ _ e1 e2
def in1_units(B:aA):B.in1.units=B.units+1:=rfl
theorem FL(I:Inv X pins σ H s)(R:Rel X.K ρ H S):∀(n:Nat) (B:aA) (a b:A) (x y:V) (u v:af) (k:Bool),B.units+n<cLine->AV X.K ρ H a x->AV X.K ρ H b y->RelV x u->RelV y v->yp S n a b=some k->Al B s u v k
 | 0,_,_,_,_,_,_,_,_,_,_,_,_,_,e=>nomatch e
 | n+1,B,a,b,x,y,u,v,k,hu,ha,hb,rx,ry,e=>by
  have hu0:B.units<cLine:=()
  have items:∀a b x y u v k,AV X.K ρ H a x->AV X.K ρ H b y->RelV x u->RelV y v->yp S n a b=some k->SeqAt.EqAt B.in1 s u v k:=λa b x y u v k h1 h2 h3 h4 h5=>(FL I R n B.in1 a b x y u v k (by rw[in1_units];lia) h1 h2 h3 h4 h5).2.1;have same:=λ(z:y=x)=>Ak I R (n+1) a b x u k ha (z ▸ hb) rx e;have refs:∀{p q:ak},x=.ref p->y=.ref q->u=.ref p->v=.ref q->SeqAt.RcAt B s u v k->SeqAt.EqAt B s u v k:=λ{p q} z1 z2 z3 z4 h=>by
   subst z3 z4;by_cases hp:p=q
   ·subst hp;rw[same<|z2.trans z1.symm];exact .same _
   ·exact .of_refs hp h
  rcases JF e with⟨i,j,xs,ys,rfl,rfl,e1,e2,e⟩|⟨h,h',e1,e2,e,_⟩
  ·obtain⟨p,rfl,h1⟩:=zI ha;obtain⟨q,rfl,h2⟩:=zI hb;obtain⟨vs,h3,r1⟩:=R.lst h1<|i6 e1;obtain⟨ws,h4,r2⟩:=R.lst h2<|i6 e2;obtain⟨us,q1,p1,_⟩:=I.list<|mP.of h3;obtain⟨ts,q2,p2,_⟩:=I.list<|mP.of h4;have ru:=refs rfl rfl rx ry
   cases(show u=Value.ref p from rx)
   cases(show v=Value.ref q from ry)
   have l1:=r1.length;have l2:=r2.length;have l3:=q1.length;have l4:=q2.length;have ek:=(vC e).1;by_cases hl:xs.length=ys.length
   ·rw[<- hl,Nat.min_self,bM,Bool.and_true]at ek;have eh:us.toArray.size=ts.toArray.size:=by simp;lia
    have z1:=SeqAt.RcAt.lists p1.isList p2.isList eh hu0<|vG items r1 r2 q1 q2 e;have z2:=SeqAt.RcNeAt.lists p1.isList p2.isList eh hu0<|vG items r1 r2 q1 q2 e;rw[aZ,<- l3,<- l1,<- ek]at z1 z2;exact⟨z1,ru z1,z2⟩
   ·have:(xs.length == ys.length)=false:=by simpa using hl
    rw[this,Bool.and_false]at ek;subst ek;have eh:(us.toArray.size != ts.toArray.size)=true:=by simp;lia
    have z1:=SeqAt.RcAt.lists_lengths p1.isList p2.isList eh hu0;exact⟨z1,ru z1,SeqAt.RcNeAt.lists_lengths p1.isList p2.isList eh hu0⟩
  ·rcases E7 h h' with⟨xs,ys,rfl,rfl⟩|nt
   ·obtain⟨rfl,p,vs,rfl,h3,r1⟩:=A8 ha e1;obtain⟨rfl,q,ws,rfl,h4,r2⟩:=A8 hb e2;have ru:=refs rfl rfl rx ry
    cases(show u=Value.ref p from rx)
    cases(show v=Value.ref q from ry)
    obtain⟨us,q1,p1,_⟩:=I.tuple<|nk.of h3;obtain⟨ts,q2,p2,_⟩:=I.tuple<|nk.of h4;have ek:=(vC e).1;have z1:=SeqAt.RcAt.tuples p1 p2 hu0<|vG items r1 r2 q1 q2 e;have z2:=SeqAt.RcNeAt.tuples p1 p2 hu0<|vG items r1 r2 q1 q2 e;rw[aZ,aZ,<- q1.length,<- q2.length,<- r1.length,<- r2.length,<- ek]at z1 z2;exact⟨z1,ru z1,z2⟩
   ·exact UI hu0 (GP I R ha rx e1) (GP I R hb ry e2) nt e
end
section
variable {X:Cx}
abbrev rZ (neg:Bool)(a b:A)(S:iN):R A:=opt (yp S 12 a b) λk=>.ok (.bl<|if neg then !k else k) S
def HY(hu:X.A.units+64<cLine):mL X (compareOp .Eq) (r2 X<|rZ false):=λpins s σ H x y v u Q I rx ry h9=>by
 x_go;obtain⟨k,e,h⟩:=iY h;exact(FL I R 12 X.A a b x y v u k (by omega) va vb rx ry e).1 _ _ _ _ ⟨.bl _,H,I,rfl,h _ _ _ .refl R<|.bl _⟩
def DH(hu:X.A.units+64<cLine):mL X (compareOp .NotEq) (r2 X<|rZ true):=λpins s σ H x y v u Q I rx ry h9=>by
 x_go;obtain⟨k,e,h⟩:=iY h;exact(FL I R 12 X.A a b x y v u k () va vb rx ry e).2.2 _ _ _ _ ⟨.bl _,H,I,rfl,h _ _ _ .refl R<|.bl _⟩
end
section
variable {X:Cx}{pos:Pos}{a b:aE}
meta abbrev Pt:=ad->iN->R (Option Int)
abbrev Vz:Pt:=λ_ S=>.ok none S
abbrev Vr (c:Ex):Pt:=λτ S=>(c τ S).bind λa S1=>match a with
 | .int i=>.ok (some i) S1
 | _=>.no
abbrev N5 (xs:ad)(lo hi:Option Int):ad:=(xs.drop<|HT.Vp xs.length 0 lo).take<|HT.Vp xs.length xs.length hi-HT.Vp xs.length 0 lo
abbrev Ws (a:A)(lo hi:Option Int)(S:iN):R A:=match a with
 | .ref n=>opt (iL S n) λxs=>.ok (.ref S.length) (S++[.lst<|N5 xs lo hi])
 | .frz xs=>.ok (.ref S.length) (S++[.lst<|N5 xs lo hi])
 | .tup xs=>gd (¬(HT.Vp xs.length 0 lo=0/\HT.Vp xs.length xs.length hi=xs.length)) (.ok (.tup<|N5 xs lo hi) S)
 | _=>.no
abbrev YO (c:Ex)(lo hi:Pt):Ex:=λτ S=>(c τ S).bind λa S1=>(lo τ S1).bind λl S2=>(hi τ S2).bind λu S3=>Ws a l u S3
abbrev VW (a:A)(S:iN):R A:=match a with
 | .ref n=>opt (iL S n) λxs=>.ok (.ref S.length) (S++[.lst xs.reverse])
 | .tup xs=>.ok (.tup xs.reverse) S
 | _=>.no
abbrev jk (f:ad->iN->R A)(d:pQ):Ex:=λτ S=>(d τ S).bind λas S1=>f as S1
def B5{f:ad->iN->R A}{d:pQ}{H:Hp}{Q:VK}(h:tE X (jk f d) σ H Q):WL (rN X f) (tL X d) σ H Q:=by
 kln_w;exact⟨ρ,S,τ,R,r,iM (iR h) .refl λas S1 h1 ρ1 H1 vs e1 R1 v1=>⟨ρ1,S1,as,R1,v1,iM h1 e1 λ_ _ z=>z.ext e1⟩⟩
variable {x:Str}{p:Pos}{e:aE}{es:List aE}{id T:String}{f:ad->iN->R A}{d:pQ}
def jd(hc:jw X (.builtin id)<|rN X f)(hm:X.mg x=none)(hv:bootBuiltins x=some (.builtin id))(ha:AL X (e::es) d)(hg:Gl X x:=by rfl)(hn:x ≠ "__name__" := by decide)(hdb:(x == ("__debug__" : Str))=false:=by decide)
  (he:starEach (e::es) X.env=(false,eval e X.env)::starEach es X.env:=by rfl) (hpl:(backTo pos<|starEach es X.env).any (·.1)=false:=by rfl):AE X (.Call (.Name x p) (e::es) [] pos) (jk f d):=
 PE.imp (BL hc hg hm hv ha hn hdb he hpl) λ_ _ _ h=>B5 h
def kR(hc:jw X (.type T)<|rN X f)(hm:X.mg x=none)(hv:bootBuiltins x=some (.type T))(ha:AL X (e::es) d)(hg:Gl X x:=by rfl)(hn:x ≠ "__name__" := by decide)(hdb:(x == ("__debug__" : Str))=false:=by decide)
  (he:starEach (e::es) X.env=(false,eval e X.env)::starEach es X.env:=by rfl) (hpl:(backTo pos<|starEach es X.env).any (·.1)=false:=by rfl):AE X (.Call (.Name x p) (e::es) [] pos) (jk f d):=
 PE.imp (uy hc hg hm hv ha hn hdb he hpl) λ_ _ _ h=>B5 h
def QU(hm:X.mg x=none)(hv:bootBuiltins x=some (.type T))(hg:Gl X x:=by rfl)(hn:x ≠ "__name__" := by decide)(hdb:(x == ("__debug__" : Str))=false:=by decide):AE X (.Name x pos) (eC<|.ty T):=
 PE.imp (EN (v:=.ty T) hg hm hv rfl hn hdb) λσ H Q ⟨ρ,S,τ,R,r,h⟩=>h ρ H _ .refl R<|.ty T
abbrev A.seq (S:iN):A->Option (ad)
 | .tup xs=>some xs
 | .frz xs=>some xs
 | .ref n=>iL S n
 | _=>none
def SE{K:au}{H:Hp}{x:A}{v:V}(R:Rel K ρ H S)(h:AV K ρ H x v)(e:x.seq S=some xs):∃p vs,v=.ref p/\(mP K H p vs\/nk K H p vs)/\AVs K ρ H xs vs:=by
 cases h with
 | tup h r=>cases aS e;exact⟨_,_,rfl,.inr<|nk.of h,r⟩
 | frz h r=>cases aS e;exact⟨_,_,rfl,.inl h.PC,r⟩
 | ref h=>
  obtain⟨vs,h1,r1⟩:=R.lst h<|i6 e;exact⟨_,vs,rfl,.inl<|mP.of h1,r1⟩
 | _=>cases e
def NH{K:au}{H:Hp}{x:A}(h:AVs K ρ H [x] vs):∃v,vs=[v]/\AV K ρ H x v:=by
 cases h with
 | cons h t=>cases t;exact⟨_,rfl,h⟩
def Rp{K:au}{H:Hp}{x:A}(h:AVs K ρ H [x,y] vs):∃v w,vs=[v,w]/\AV K ρ H x v/\AV K ρ H y w:=by
 cases h with
 | cons h t=>obtain⟨w,rfl,h'⟩:=NH t;exact⟨_,_,rfl,h,h'⟩
abbrev f1 (g:A->iN->R A):ad->iN->R A:=λas S=>match as with
 | [x]=>g x S
 | _=>.no
abbrev f2 (g:A->A->iN->R A):ad->iN->R A:=λas S=>match as with
 | [x,y]=>g x y S
 | _=>.no
def Ol{g:A->iN->R A}{P:A->iN->Prop}{E:Str->iN->Prop}(h:(f1 g as S).post P E):∃x,as=[x]/\(g x S).post P E:=by
 match as,h with
 | [],h=>exact h.elim
 | [x],h=>exact⟨x,rfl,h⟩
 | _::_::_,h=>exact h.elim
def NC{g:A->A->iN->R A}{P:A->iN->Prop}{E:Str->iN->Prop}(h:(f2 g as S).post P E):∃x y,as=[x,y]/\(g x y S).post P E:=by
 match as,h with
 | [],h=>exact h.elim
 | [_],h=>exact h.elim
 | [x,y],h=>exact⟨x,y,rfl,h⟩
 | _::_::_::_,h=>exact h.elim
def SM{g:A->iN->R A}{H:Hp}{Q:VK}(h:rN X (f1 g) vs H Q):∃v,vs=[v]/\∃ρ S x,Rel X.K ρ H S/\AV X.K ρ H x v/\(g x S).post (uv X ρ H Q) (XE X ρ H):=by
 obtain⟨ρ,S,as,R,v,h⟩:=h;obtain⟨x,rfl,h⟩:=Ol h;obtain⟨w,rfl,hv⟩:=NH v;exact⟨w,rfl,ρ,S,x,R,hv,h⟩
def WA{g:A->A->iN->R A}{H:Hp}{Q:VK}(h:rN X (f2 g) vs H Q):∃v w,vs=[v,w]/\∃ρ S x y,Rel X.K ρ H S/\AV X.K ρ H x v/\AV X.K ρ H y w/\(g x y S).post (uv X ρ H Q) (XE X ρ H):=by
 obtain⟨ρ,S,as,R,v,h⟩:=h;obtain⟨x,y,rfl,h⟩:=NC h;obtain⟨w,w',rfl,hv,hv'⟩:=Rp v;exact⟨w,w',rfl,ρ,S,x,y,R,hv,hv',h⟩
abbrev mT (x:A)(S:iN):R A:=match x with
 | .str x=>gd (x.length<=sizeLine) (.ok (.int x.length) S)
 | .tup xs=>.ok (.int xs.length) S
 | .frz xs=>.ok (.int xs.length) S
 | .ref n=>opt (iL S n) λxs=>.ok (.int xs.length) S
 | _=>.no
def mK:jw X (.builtin "len") (rN X<|f1 mT):=jw.imp LN λvs H Q h0=>by
 ksr_p;clear h0
 cases hv with
 | str z=>
  obtain⟨hz,h⟩:=ja h;exact⟨_,_,rfl,⟨hz,rfl⟩,h _ _ _ .refl R<|.int _⟩
 | @tup p xs us h1 r=>exact⟨_,us.length,rfl,.inr ⟨us,(nk.of h1),rfl⟩,by rw[<- r.length];exact h _ _ _ .refl R<|.int _⟩
 | @frz p xs us h1 r=>exact⟨_,us.length,rfl,.inl ⟨us,h1.PC,rfl⟩,by rw[<- r.length];exact h _ _ _ .refl R<|.int _⟩
 | ref hp=>
  kj_on;obtain⟨us,h1,r⟩:=R.lst hp<|i6 hn;exact⟨_,us.length,rfl,.inl ⟨us,mP.of h1,rfl⟩,by rw[<- r.length];exact h _ _ _ .refl R<|.int _⟩
 | _=>exact h.elim
abbrev Xa (x:A)(S:iN):R A:=match x with
 | .int i=>.ok (.int<|if i<0 then -i else i) S
 | _=>.no
abbrev My (x y:A)(S:iN):R A:=match x,y with
 | .int i,.int j=>.ok (.int<|if j>i then j else i) S
 | _,_=>.no
def SQ(hc:X.calm=true):jw X (.builtin "max") (rN X<|f2 My):=jw.imp (HU hc) λvs H Q h0=>by
 obtain⟨w,w',rfl,ρ,S,x,y,R,hv,hv',h⟩:=WA h0;clear h0
 cases hv<;>first|exact h.elim|(cases hv'<;>first|exact h.elim|exact⟨_,_,rfl,h _ _ _ .refl R<|.int _⟩)
abbrev Kl (x y:A)(S:iN):R A:=match x,y with
 | .int i,.int j=>.ok (.int<|if j<i then j else i) S
 | _,_=>.no
def RO(hc:X.calm=true):jw X (.builtin "min") (rN X<|f2 Kl):=jw.imp (HQ hc) λvs H Q h0=>by
 obtain⟨w,w',rfl,ρ,S,x,y,R,hv,hv',h⟩:=WA h0;clear h0
 cases hv<;>first|exact h.elim|(cases hv'<;>first|exact h.elim|exact⟨_,_,rfl,h _ _ _ .refl R<|.int _⟩)
abbrev Qd (x:A)(S:iN):R A:=match x with
 | .int i=>.ok (.int i) S
 | .bl k=>.ok (.int<|if k then 1 else 0) S
 | .str y=>opt (PySem.intText? y) λn=>gd (y.length<=640) (.ok (.int n) S)
 | _=>.no
abbrev sY (x y:A)(S:iN):R A:=match x,y with
 | .int i,.int j=>.ok (.rng i j) S
 | _,_=>.no
def wL:jw X (.type "range") (rN X<|f2 sY):=jw.imp Aa λvs H Q h0=>by
 obtain⟨w,w',rfl,ρ,S,x,y,R,hv,hv',h⟩:=WA h0;clear h0
 cases hv with
 | int i=>
  cases hv' with
  | int j=>
   refine⟨i,j,rfl,λp hp=>?_⟩;obtain⟨ex,R'⟩:=R.im (u:=.rng i j) hp;exact h ρ _ _ ex R'<|.rng ji
  | _=>exact h.elim
 | _=>exact h.elim
abbrev tK (i j:Int):Prop:=(-(2 ^ 62)<=i/\i<2 ^ 62/\-(2 ^ 62)<=j/\j<2 ^ 62)/\(j-i).toNat<=1000
instance (i j:Int):Decidable (tK i j):=by unfold tK;infer_instance
abbrev uN (x:A)(S:iN):R A:=match x with
 | .rng i j=>gd (tK i j) (.ok (.ref S.length)<|S++[.lst<|(jm i j).map .int])
 | .tup xs=>.ok (.ref S.length) (S++[.lst xs])
 | .frz xs=>.ok (.ref S.length) (S++[.lst xs])
 | .ref n=>opt (iL S n) λxs=>.ok (.ref S.length) (S++[.lst xs])
 | _=>.no
def DM(hc:X.calm=true):jw X (.type "list") (rN X<|f1 uN):=λpins s σ H vs us Q I rx h0=>by
 ksr_p;clear h0
 cases hv with
 | @rng p i j hp=>
  obtain⟨hc',h⟩:=ja h;exact ym hc pins s σ H _ us Q I rx ⟨p,i,j,rfl,hp,hc'.1,hc'.2,nB R (qY _) .refl h⟩
 | @tup p xs vs h1 r=>exact qu pins s σ H _ us Q I rx ⟨p,vs,rfl,.inr<|nk.of h1,nB R r .refl h⟩
 | @frz p xs vs h1 r=>exact qu pins s σ H _ us Q I rx ⟨p,vs,rfl,.inl h1.PC,nB R r .refl h⟩
 | @ref p n hp=>
  kj_on;obtain⟨vs,h1,r⟩:=R.lst hp<|i6 hn;exact qu pins s σ H _ us Q I rx ⟨p,vs,rfl,.inl<|mP.of h1,nB R r .refl h⟩
 | _=>exact h.elim
abbrev qx (x:A)(S:iN):R A:=match x with
 | .rng i j=>gd (tK i j) (.ok (.tup<|(jm i j).map .int) S)
 | .tup xs=>.ok (.tup xs) S
 | .frz xs=>.ok (.tup xs) S
 | .ref n=>opt (iL S n) λxs=>.ok (.tup xs) S
 | _=>.no
def vB(hc:X.calm=true):jw X (.type "tuple") (rN X<|f1 qx):=λpins s σ H vs us Q I rx h0=>by
 ksr_p;clear h0
 cases hv with
 | @rng p i j hp=>
  obtain⟨hc',h⟩:=ja h;exact wm hc pins s σ H _ us Q I rx ⟨p,i,j,rfl,hp,hc'.1,hc'.2,rA R (qY _) .refl h⟩
 | @tup p xs vs h1 r=>exact pJ pins s σ H _ us Q I rx ⟨p,vs,rfl,.inr ⟨(nk.of h1),h _ _ _ .refl R<|.tup h1 r⟩⟩
 | @frz p xs vs h1 r=>exact pJ pins s σ H _ us Q I rx ⟨p,vs,rfl,.inl ⟨h1.PC,rA R r .refl h⟩⟩
 | @ref p n hp=>
  kj_on;obtain⟨vs,h1,r⟩:=R.lst hp<|i6 hn;exact pJ pins s σ H _ us Q I rx ⟨p,vs,rfl,.inl ⟨mP.of h1,rA R r .refl h⟩⟩
 | _=>exact h.elim
abbrev A.Wz:ad->Option (List Bool)
 | []=>some []
 | .bl b::xs=>(A.Wz xs).map (b::·)
 | _=>none
abbrev maxOf:ae->Option Int
 | []=>none
 | [x]=>some x
 | x::xs=>(maxOf xs).map λm=>if m>x then m else x
theorem xR:∀{ns:ae}{m:Int},maxOf ns=some m->m∈ns/\∀a∈ns,a<=m
 | [],_,e=>nomatch e
 | [x],m,e=>by cases e;exact⟨aN,λa h=>by rw[bC]at h;lia⟩
 | x::y::xs,m,e=>by
  obtain⟨m',e1,rfl⟩:=bz.mp<|show(maxOf (y::xs)).map (λm=>if m>x then m else x)=some m from e;obtain⟨h1,h2⟩:=xR e1;by_cases hx:m'>x
  ·rw[aJ hx];exact⟨aQ _ h1,λa h=>(bB.mp h).elim (λz=>())<|h2 a⟩
  ·rw[aK hx];exact⟨aN,λa h=>(bB.mp h).elim (λz=>()) λz=>by have:=h2 a z;lia⟩
abbrev Mm (x:A)(S:iN):R A:=match x with
 | .ref n=>opt (iL S n) λxs=>opt (A.ints xs) λns=>opt (maxOf ns) λm=>.ok (.int m) S
 | _=>.no
def Rq(hc:X.calm=true):jw X (.builtin "max") (rN X<|f1 Mm):=jw.imp (Ig hc) λvs H Q h0=>by
 ksr_p;clear h0
 cases hv with
 | @ref p n hp=>
  kj_on;obtain⟨ns,hb,h⟩:=iY h;obtain⟨m,hm,h⟩:=iY h;obtain⟨vs,h1,r⟩:=R.lst hp<|i6 hn;rw[vp r hb]at h1;obtain⟨g1,g2⟩:=xR hm;refine⟨p,ns,rfl,mP.of h1,List.length_pos_of_mem g1,λM hM hG=>?_⟩;have:M=m:=gI (g2 M hM)<|hG m g1;rw[this];exact h _ _ _ .refl R<|.int _
 | _=>exact h.elim
abbrev insI (x:Int):ae->ae
 | []=>[x]
 | y::ys=>if x<=y then x::y::ys else y::insI x ys
abbrev sortI:ae->ae
 | []=>[]
 | x::xs=>insI x<|sortI xs
theorem insI_perm(x:Int):∀ys:ae,(insI x ys).Perm (x::ys)
 | []=>gY _
 | y::ys=>by
  unfold insI;by_cases h:x<=y
  ·rw[aJ h]
  ·rw[aK h];exact((insI_perm x ys).cons y).trans (List.Perm.swap x y ys)
theorem sortI_perm:∀xs:ae,(sortI xs).Perm xs
 | []=>gY _
 | x::xs=>(insI_perm x<|sortI xs).trans<|(sortI_perm xs).cons x
theorem Fq(x:Int):∀ys:ae,ys.Pairwise (·<=·)->(insI x ys).Pairwise (·<=·)
 | [],_=>cT _ _
 | y::ys,h=>by
  unfold insI;obtain⟨h1,h2⟩:=bZ.mp h;by_cases hx:x<=y
  ·rw[aJ hx];exact bZ.mpr ⟨λz hz=>(bB.mp hz).elim (λe=>e ▸ hx) λhz=>Int.le_trans hx<|h1 z hz,h⟩
  ·rw[aK hx];refine bZ.mpr ⟨λz hz=>?_,Fq x ys h2⟩
   rcases bB.mp ((insI_perm x ys).mem_iff.mp hz)with e|hz
   ·subst e;lia
   ·exact h1 z hz
theorem xw:∀xs:ae,(sortI xs).Pairwise (·<=·)
 | []=>List.Pairwise.nil
 | x::xs=>Fq x _<|xw xs
abbrev A.kd:A->iN->Option Kd
 | .non,_=>some .non
 | .bl _,_=>some .bl
 | .int _,_=>some .int
 | .str _,_=>some .str
 | .tup _,_=>some .tup
 | .ref n,S=>(iL S n).map λ_=>.lst
 | _,_=>none
def Pk{K:au}(k:Kd):PySem.W.kitOne K k.ty (.type "str")=some (decide<|k=.str):=by cases k<;>rfl
abbrev HR (k:Kd)(c:String):bd:=if c = "int" then some (decide<|k=.int\/k=.bl)else if c = "bool" then some (decide<|k=.bl)else if c = "tuple" then some (decide<|k=.tup)else if c = "list" then some (decide<|k=.lst)else if c = "str" then some (decide<|k=.str)else none
def Ei{K:au}{k:Kd}{c:String}{b:Bool}(h:HR k c=some b):PySem.W.kitOne K k.ty (.type c)=some b:=by
 unfold HR at h;split at h
 ·rename_i e;subst e;rw[<- h];exact Pq k
 ·split at h
  ·rename_i e;subst e;rw[<- h];exact LV k
  ·split at h
   ·rename_i e;subst e;rw[<- h];exact kit_tuple k
   ·split at h
    ·rename_i e;subst e;rw[<- h];exact MS k
    ·split at h
     ·rename_i e;subst e;rw[<- h];exact Pk k
     ·cases h
abbrev OZ (x y:A)(S:iN):R A:=match y with
 | .ty c=>opt (x.kd S) λk=>opt (HR k c) λb=>.ok (.bl b) S
 | _=>.no
def VR{K:au}{H:Hp}{x:A}{v:V}{k:Kd}(R:Rel K ρ H S)(h:AV K ρ H x v)(e:x.kd S=some k):(∃p vs,v=.ref p/\nk K H p vs/\k=.tup)\/SH H v k:=by
 cases h with
 | non=>cases e;exact .inr rfl
 | bl b=>cases e;exact .inr ⟨b,rfl⟩
 | int i=>cases e;exact .inr ⟨i,rfl⟩
 | str i=>cases e;exact .inr ⟨i,rfl⟩
 | tup h r=>cases e;exact .inl ⟨_,_,rfl,(nk.of h),rfl⟩
 | ref h=>
  obtain⟨xs,e1,e2⟩:=bz.mp e;obtain⟨vs,h1,_⟩:=R.lst h (i6 e1)
  cases e2
  exact .inr ⟨_,vs,rfl,h1⟩
 | _=>cases e
def Qs:jw X (.builtin "isinstance") (rN X<|f2 OZ):=λpins s σ H vs us Q I rx h0=>by
 obtain⟨w,w',rfl,ρ,S,x,y,R,hv,hv',h⟩:=WA h0;clear h0
 cases hv' with
 | ty c=>
  obtain⟨k,hk,h⟩:=iY h;obtain⟨b,hb,hq⟩:=iY h;have hq:uv X ρ H Q (.bl b) S:=hq;clear h
  rcases VR R hv hk with⟨p,vs,rfl,ht,rfl⟩|hd
  ·obtain⟨u1,u2,rfl,r1,r2⟩:=vals2 rx;obtain⟨its,q,⟨o,h1,h2,_⟩,_⟩:=I.tuple ht
   cases(show _=Value.ref p from r1)
   cases(show _=Value.type c from r2)
   exact cu PySem.W.kitx_tuple I.uZ ⟨o,h1,h2⟩ (Ei hb) (λz=>nomatch z) λtk=>⟨.bl b,H,I.tok _,rfl,hq _ _ _ .refl R<|.bl _⟩
  ·exact Ck (c:=c) pins s σ H _ us Q I rx ⟨w,_,b,rfl,hd.WM,Ei hb,hq _ _ _ .refl R<|.bl _⟩
 | _=>exact h.elim
end
abbrev Vm (x:ae):List (ae)->List (ae)
 | []=>[x]
 | y::ys=>if HT.lexLt y x=true then y::Vm x ys else x::y::ys
abbrev JE:List (ae)->List (ae)
 | []=>[]
 | x::xs=>Vm x<|JE xs
theorem XY:∀(N:Nat) (l:ag),l.Nodup->(∀x∈l,x<N)->l.length<=N
 | 0,l,_,h=>by
  cases l with
  | nil=>exact aO _
  | cons a l=>exact absurd (h a<|aN ..)<|eG _
 | N+1,l,nd,h=>by
  have h1:=XY N (l.erase N) (nd.erase N) λx hx=>by
   have:=h x<|List.mem_of_mem_erase hx;have:x≠N:=λz=>by
    subst z;exact(List.Nodup.not_mem_erase nd) hx
   lia
  have:=List.le_length_erase (l:=l) (a:=N)
  lia
def xJ{N:Nat}{g:Nat->Nat}(h:∀i,i<N->g i<N)(inj:∀i j,i<j->j<N->g i≠g j):((List.range N).map g).Perm (List.range N):=by
 have nd:((List.range N).map g).Nodup:=by
  unfold List.Nodup;rw[cY];intro i j hi hj hij;rw[aM,cB]at hi hj;rw[cU,cU,eE,eE];exact inj i j hij hj
 have lt:∀x∈(List.range N).map g,x<N:=λx hx=>by
  obtain⟨i,hi,rfl⟩:=b_.mp hx;exact h i<|cV.mp hi
 refine(List.perm_ext_iff_of_nodup nd List.nodup_range).mpr λa=>⟨λha=>cV.mpr<|lt a ha,λha=>?_⟩;refine Classical.byContradiction λhn=>?_;have:=XY N (a::(List.range N).map g) (cP.mpr ⟨hn,nd⟩) λx hx=>by
  rcases bB.mp hx with rfl|hx
  ·exact cV.mp ha
  ·exact lt x hx
 rw[bA,aM,cB]at this
 lia
def range_getD{α:Type}(l:List α)(d:α):(List.range l.length).map (λi=>l.getD i d)=l:=by
 apply cI;intro i;rw[bg];by_cases c:i<l.length
 ·rw[cj c];show some (l.getD i d)=_;rw[aL,aG c];rfl
 ·rw[bJ<|by rw[cB];lia,bJ ()];rfl
theorem Me{K:au}{H:Hp}{α:Type}{f:α->A}{h:α->V}:∀{l:List α},(∀a∈l,AV K ρ H (f a)<|h a)->AVs K ρ H (l.map f) (l.map h)
 | [],_=>.nil
 | a::l,e=>.cons (e a<|aN ..)<|Me λb hb=>e b<|aQ _ hb
abbrev RS.post (r:RS)(N:ad->iN->Prop)(T:A->iN->Prop)(B C:ad->iN->Prop)(E:Str->iN->Prop):Prop:=match r with
 | .nx τ S=>N τ S
 | .rt a S=>T a S
 | .bk τ S=>B τ S
 | .ct τ S=>C τ S
 | .ex c S=>E c S
 | .no=>False
abbrev RS.of {α:Type}(r:R α)(f:α->iN->RS):RS:=match r with
 | .ok a S=>f a S
 | .ex c S=>.ex c S
 | .no=>.no
def of_post{α:Type}{r:R α}{f:α->iN->RS}{N B C:ad->iN->Prop}{T:A->iN->Prop}{E:Str->iN->Prop}(h:(RS.of r f).post N T B C E):r.post (λa S=>(f a S).post N T B C E) E:=by
 cases r<;>exact h
def RS.mono{r:RS}{N B C N' B' C':ad->iN->Prop}{T T':A->iN->Prop}{E E':Str->iN->Prop}(h:r.post N T B C E)(hn:∀τ S,N τ S->N' τ S)(ht:∀a S,T a S->T' a S)(hb:∀τ S,B τ S->B' τ S)(hc:∀τ S,C τ S->C' τ S)(he:∀c S,E c S->E' c S):r.post N' T' B' C' E':=by
 cases r with
 | nx τ S=>exact hn _ _ h
 | rt a S=>exact ht _ _ h
 | bk τ S=>exact hb _ _ h
 | ct τ S=>exact hc _ _ h
 | ex c S=>exact he _ _ h
 | no=>exact h.elim
abbrev zk (X:Cx)(ρ:ar)(H:Hp)(N:L2.St->Hp->Prop):ad->iN->Prop:=λτ' S'=>∀ρ' H' σ',Ext ρ ρ' H H'->Rel X.K ρ' H' S'->SR X.K ρ' H' τ' σ'->N σ' H'
def zk.ext{X:Cx}{H H':Hp}{N:L2.St->Hp->Prop}(h:zk X ρ H N τ S)(e:Ext ρ ρ' H H'):zk X ρ' H' N τ S:=λρ2 H2 σ2 e2=>h ρ2 H2 σ2<|e.trans e2
abbrev yk (X:Cx)(ρ:ar)(H:Hp)(D:Ends)(r:RS):Prop:=r.post (zk X ρ H D.nx) (uv X ρ H D.rt) (zk X ρ H D.bk) (zk X ρ H D.ct)<|XE X ρ H
def yk.ext{X:Cx}{H H':Hp}{D:Ends}{r:RS}(h:yk X ρ H D r)(e:Ext ρ ρ' H H'):yk X ρ' H' D r:=RS.mono h (λ_ _ z=>z.ext e) (λ_ _ z=>z.ext e) (λ_ _ z=>z.ext e) (λ_ _ z=>z.ext e) λ_ _ z=>z.ext e
abbrev tS (X:Cx)(c:Sm):TS:=λD σ H=>∃ρ S τ,Rel X.K ρ H S/\SR X.K ρ H τ σ/\yk X ρ H D (c τ S)
abbrev AS (X:Cx)(st:aF)(c:Sm):Prop:=PS X st<|tS X c
abbrev IP (X:Cx)(sts:List aF)(c:Sm):Prop:=yw X sts<|tS X c
abbrev tG (X:Cx)(g:Tg):TG:=λv σ H Q=>∃ρ S τ a,Rel X.K ρ H S/\SR X.K ρ H τ σ/\AV X.K ρ H a v/\(g a τ S).post (zk X ρ H Q) (XE X ρ H)
abbrev AG (X:Cx)(e:aE)(g:Tg):Prop:=PG X e<|tG X g
meta abbrev Nh:=ad->ad->iN->R (ad)
abbrev Yy (X:Cx)(g:Nh):Qt:=λvs σ H Q=>∃ρ S τ as,Rel X.K ρ H S/\SR X.K ρ H τ σ/\AVs X.K ρ H as vs/\(g as τ S).post (zk X ρ H Q) (XE X ρ H)
abbrev WC (X:Cx)(es:List aE)(g:Nh):Prop:=UX X es<|Yy X g
section
variable {X:Cx}{pos:Pos}{a b e:aE}{st:aF}{rest:List aF}{c d:Sm}
def PS.imp{t t':TS}(h:PS X st t)(i:∀D σ H,t' D σ H->t D σ H):PS X st t':=λpins s σ H D I q=>h pins s σ H D I<|i D σ H q
def yw.imp{t t':TS}(h:yw X rest t)(i:∀D σ H,t' D σ H->t D σ H):yw X rest t':=λpins s σ H D I q=>h pins s σ H D I<|i D σ H q
def PG.imp{t t':TG}(h:PG X e t)(i:∀v σ H Q,t' v σ H Q->t v σ H Q):PG X e t':=λpins s σ H v u Q I r q=>h pins s σ H v u Q I r<|i _ _ _ _ q
abbrev jW (i:Nat):Tg:=λa τ S=>.ok (τ.set i a) S
def jB{i:Nat}{x:Str}(hN:X.N.Nodup)(hi:X.N[i]?=some x:=by rfl)(hx:Loc X.env.scope x:=by first|exact Or.inl rfl|exact Or.inr rfl)(hf:X.fn x=true\/X.env.scope.names.lookup x=some .local:=by first|exact .inl rfl|exact .inr rfl|assumption):AG X (.Name x pos) (jW i):=
 PG.imp (Gn hN hi hx hf) λv σ H Q ⟨ρ,S,τ,a,R,r,va,h⟩=>h ρ H _ .refl R<|r.set va
abbrev EY:Nh:=λas τ S=>match as with
 | []=>.ok τ S
 | _=>.no
abbrev uP (g:Tg)(gs:Nh):Nh:=λas τ S=>match as with
 | a::as=>(g a τ S).bind λτ1 S1=>gs as τ1 S1
 | []=>.no
def oF:WC X [] EY:=λpins s σ H vs us Q I r ⟨ρ,S,τ,as,R,sr,va,h⟩=>Nt pins s σ H vs us Q I r (by
 cases va with
 | nil=>exact⟨rfl,h ρ H σ .refl R sr⟩
 | cons _ _=>exact h.elim)
def jL{g:Tg}{gs:Nh}(h1:AG X e g)(h2:WC X es gs)(hs:(assignEach (e::es) X.env).map (·.2)=assign e X.env::(assignEach es X.env).map (·.2):=by rfl):WC X (e::es) (uP g gs):=
 λpins s σ H vs us Q I r ⟨ρ,S,τ,as,R,sr,va,h⟩=>K5 h1 h2 hs pins s σ H vs us Q I r (by
  cases va with
  | nil=>exact h.elim
  | cons ha hr=>exact⟨_,_,rfl,ρ,S,τ,_,R,sr,ha,iM (iR h) .refl λτ1 S1 h1 ρ1 H1 σ1 e1 R1 sr1=>⟨ρ1,S1,τ1,_,R1,sr1,hr.ext e1,iM h1 e1 λ_ _ z=>z.ext e1⟩⟩)
abbrev Ed (n:Nat)(gs:Nh):Tg:=λa τ S=>match a with
 | .tup xs | .ktu xs=>gd (xs.length=n) (gs xs τ S)
 | _=>.no
def qL{k n:Nat}{gs:Nh}(hc:X.calm=true)(h:WC X es gs)(hn:(assignEach es X.env).length=n:=by rfl)(hst:(assignEach es X.env).findIdx? (·.1)=none:=by rfl):AG X (.Tuple es k pos) (Ed n gs):=
 PG.imp (RL hc h hn hst) λv σ H Q h9=>by
  obtain⟨ρ,S,τ,a,R,r,va,h⟩:=h9
  cases va with
  | tup h1 r1=>
   obtain⟨hl,h⟩:=ja h;exact⟨_,_,rfl,nk.of h1,by rw[<- r1.length];exact hl,ρ,S,τ,_,R,r,r1,h⟩
  | ktu h1 r1=>
   obtain⟨hl,h⟩:=ja h;exact⟨_,_,rfl,.inr h1,by rw[<- r1.length];exact hl,ρ,S,τ,_,R,r,r1,h⟩
  | _=>exact h.elim
abbrev Cz (o i v:A)(S:iN):R Unit:=match o,i with
 | .ref n,.int k=>opt (iL S n) λxs=>opt (vV xs.length k) λj=>.ok Unit.unit (S.set n<|.lst<|xs.set j v)
 | _,_=>.no
abbrev YV (X:Cx):Cw:=λo i v H Q=>∃ρ S ao ai av,Rel X.K ρ H S/\AV X.K ρ H ao o/\AV X.K ρ H ai i/\AV X.K ρ H av v/\(Cz ao ai av S).post (λ_ S'=>∀ρ' H',Ext ρ ρ' H H'->Rel X.K ρ' H' S'->Q H') (XE X ρ H)
def Gi:CJ X (YV X):=λpins s σ H o i v ov iv u Q I ro ri rv h9=>by
 obtain⟨ρ,S,ao,ai,av,R,h1,h2,h3,h⟩:=h9
 cases h1 with
 | @ref p n hp=>
  cases h2 with
  | int k=>
   kj_on;obtain⟨j,hj,h⟩:=iY h;obtain⟨vs,e,r⟩:=R.lst hp<|i6 hn;obtain⟨ex,R'⟩:=R.put hp (i6 hn)<|r.set h3 j;exact set_list pins s σ H _ _ v ov iv u Q I ro ri rv ⟨p,vs,k,j,rfl,rfl,e,by rw[<- r.length];exact hj,h _ _ ex R'⟩
  | _=>exact h.elim
 | _=>exact h.elim
abbrev Qw (co ci:Ex):Tg:=λa τ S=>(co τ S).bind λo S1=>(ci τ S1).bind λi S2=>(Cz o i a S2).bind λ_ S3=>.ok τ S3
def ud{co ci:Ex}(ho:AE X o co)(hi:AE X i ci)
  (ha:∀v,assign (.Subscript o i pos) X.env v=(do
   let ov <- holding [v] (eval o X.env)
   let iv <- holding [v,ov] (eval i X.env)
   standAt pos
   holding [v,ov,iv] (setItem ov iv v)
   release [v,ov,iv] []):=by intro _;rfl):AG X (.Subscript o i pos) (Qw co ci):=PG.imp (Dk ho hi Gi ha) λv σ H Q h9=>by
 obtain⟨ρ,S,τ,a,R,r,va,h⟩:=h9;gp_on;kpc_g;f_are
abbrev qd:Sm:=λτ S=>.nx τ S
abbrev jl (c d:Sm):Sm:=λτ S=>match c τ S with
 | .nx τ' S'=>d τ' S'
 | r=>r
def jR:IP X [] qd:=yw.imp Nz λD σ H ⟨ρ,S,τ,R,r,h⟩=>h ρ H σ .refl R r
def Ow{D:Ends}{H:Hp}(h:tS X (jl c d) D σ H):U4 (tS X c) (tS X d) D σ H:=by
 kln_w;refine⟨ρ,S,τ,R,r,?_⟩;unfold jl at h
 cases hc:c τ S with
 | nx τ1 S1=>
  rw[hc]at h;exact λρ1 H1 σ1 e1 R1 r1=>⟨ρ1,S1,τ1,R1,r1,yk.ext h e1⟩
 | rt a S1=>rw[hc]at h;exact h
 | bk τ1 S1=>rw[hc]at h;exact h
 | ct τ1 S1=>rw[hc]at h;exact h
 | ex x S1=>rw[hc]at h;exact h
 | no=>rw[hc]at h;exact h
def iO(h1:AS X st c)(h2:IP X rest d):IP X (st::rest) (jl c d):=yw.imp (Ld h1 h2) λD σ H h=>Ow h
def iV(h1:AS X st c):IP X [st] c:=GK h1
abbrev Tt:Sm:=λτ S=>.bk τ S
abbrev U_:Sm:=λτ S=>.ct τ S
abbrev qf (e:Ex):Sm:=λτ S=>.of (e τ S) λ_ S1=>.nx τ S1
def oz{f:Ex}(he:AE X e f)(hs:swapsWith e none pos.line X.env=pure false:=by rfl):AS X (.Expr e pos) (qf f):=PS.imp (Gh he hs) λD σ H ⟨ρ,S,τ,R,r,h⟩=>
 ⟨ρ,S,τ,R,r,iM (of_post h) .refl λa S1 h1 ρ1 H1 x e1 R1 v1=>h1 ρ1 H1 σ e1 R1<|r.ext e1⟩
abbrev ku (e:Ex):Sm:=λτ S=>.of (e τ S) λa S1=>.rt a S1
def jq{f:Ex}(he:AE X e f):AS X (.Return (some e) pos) (ku f):=PS.imp (Rl he) λD σ H ⟨ρ,S,τ,R,r,h⟩=>⟨ρ,S,τ,R,r,iM (of_post h) .refl λa S1 h1=>h1⟩
abbrev MD:Sm:=λτ S=>.rt .non S
def OY:AS X (.Return none pos) MD:=PS.imp O6 λD σ H ⟨ρ,S,τ,R,r,h⟩=>h ρ H _ .refl R .non
abbrev yl (t:Te)(c d:Sm):Sm:=λτ S=>.of (t τ S) λb S1=>match b with|true=>c τ S1|false=>d τ S1
def mh{t:Te}(ht:AT X e t)(ha:IP X ca c)(hb:IP X cb d):AS X (.If e ca cb pos) (yl t c d):=PS.imp (UY ht ha hb) λD σ H h9=>by
 z_go;refine⟨ρ,S,τ,R,r,iM (of_post h) .refl λb S1 h1 ρ1 H1 e1 R1=>?_⟩
 cases b with
 | true=>rw[aJ rfl];exact⟨ρ1,S1,τ,R1,r.ext e1,yk.ext h1 e1⟩
 | false=>rw[aK bG];exact⟨ρ1,S1,τ,R1,r.ext e1,yk.ext h1 e1⟩
abbrev jC (e:Ex)(g:Tg):Sm:=λτ S=>.of (e τ S) λa S1=>.of (g a τ S1) λτ' S2=>.nx τ' S2
def Nj{f:Ex}{g:Tg}{D:Ends}{H:Hp}(h:tS X (jC f g) D σ H):NN (tE X f) (tG X g) D σ H:=by
 kln_w;exact⟨ρ,S,τ,R,r,iM (of_post h) .refl λa S1 h1 ρ1 H1 x e1 R1 v1=>⟨ρ1,S1,τ,a,R1,r.ext e1,v1,iM (of_post h1) e1 λτ2 S2 h2=>zk.ext h2 e1⟩⟩
def qD{tg:aE}{f:Ex}{g:Tg}(he:AE X e f)(hg:AG X tg g)(hs:swapsWithSole [tg] e pos.line X.env=pure false:=by rfl)(hw:swappedStores [tg] e X.env=pure none:=by rfl)
  (h1:(assignEach [tg] X.env).map (·.2)=[assign tg X.env]:=by rfl):AS X (.Assign [tg] e pos) (jC f g):=PS.imp (RC he hg hs hw h1) λD σ H h=>Nj h
def jo{i:Nat}{x:Str}{f:Ex}(hN:X.N.Nodup)(he:AE X e f)(hi:X.N[i]?=some x:=by rfl)(hx:Loc X.env.scope x:=by first|exact Or.inl rfl|exact Or.inr rfl)(hs:swapsWith e (some<|.Name x pos') pos.line X.env=pure false:=by rfl)(hf:X.fn x=true\/X.env.scope.names.lookup x=some .local:=by first|exact .inl rfl|exact .inr rfl|assumption) :
  AS X (.Assign [.Name x pos'] e pos) (jC f<|jW i):=PS.imp (Ur hN hi hx he hs hf) λD σ H ⟨ρ,S,τ,R,r,h⟩=>
 ⟨ρ,S,τ,R,r,iM (of_post h) .refl λa S1 h1 ρ1 H1 x e1 R1 v1=>h1 ρ1 H1 _ e1 R1<|(r.ext e1).set v1⟩
abbrev Xe (i j:Nat)(c:pQ):Sm:=λτ S=>.of (c τ S) λas S1=>match as with
 | [a,b]=>.nx ((τ.set i a).set j b) S1
 | _=>.no
abbrev ip (X:Cx)(f:A->A->iN->R A):R_:=λx y H Q=>∃ρ S a b,Rel X.K ρ H S/\AV X.K ρ H a x/\AV X.K ρ H b y/\(f a b S).post (uv X ρ H Q) (XE X ρ H)
abbrev Hw (a b:A)(S:iN):R A:=match a,b with
 | .int i,.int j=>.ok (.int<|i+j) S
 | _,_=>.no
def E2:QK X .Add (ip X Hw):=λpins s σ H x y v u Q I r1 r2 h9=>by
 x_go
 cases va with
 | int i=>
  cases vb with
  | int j=>exact Rj pins s σ H _ _ v u Q I r1 r2 ⟨i,j,rfl,rfl,h _ _ _ .refl R<|.int _⟩
  | _=>exact h.elim
 | _=>exact h.elim
def NY:QK X .Sub (ip X aSub):=λpins s σ H x y v u Q I r1 r2 h9=>by
 x_go
 cases va with
 | int i=>
  cases vb with
  | int j=>exact QZ pins s σ H _ _ v u Q I r1 r2 ⟨i,j,rfl,rfl,h _ _ _ .refl R<|.int _⟩
  | _=>exact h.elim
 | _=>exact h.elim
abbrev M9 (i:Nat)(f:A->A->iN->R A)(e:Ex):Sm:=λτ S=>if (τ.getD i .unb).mz then .no else .of (e τ S) λb S1=>.of (f (τ.getD i .unb) b S1) λc S2=>.nx (τ.set i c) S2
def Ri{i:Nat}{x:Str}{c:Ex}{f:A->A->iN->R A}(hN:X.N.Nodup)(he:AE X e c)(ho:QK X op<|ip X f)(hi:X.N[i]?=some x:=by rfl)(hx:Loc X.env.scope x:=by first|exact Or.inl rfl|exact Or.inr rfl)(hf:X.fn x=true\/X.env.scope.names.lookup x=some .local:=by first|exact .inl rfl|exact .inr rfl|assumption) :
  AS X (.AugAssign (.Name x pos') op e pos) (M9 i f c):=PS.imp (TR hN hi hx he ho hf) λD σ H h9=>by
 z_go;have key:∀x,τ[i]?=some x->x.mz=false->(RS.of (c τ S) λb S1=>.of (f x b S1) λc S2=>.nx (τ.set i c) S2).post (zk X ρ H D.nx) (uv X ρ H D.rt) (zk X ρ H D.bk) (zk X ρ H D.ct) (XE X ρ H) ->
   ∃x,σ[i]?=some (some x)/\tE X c σ H λy H1=>ip X f x y H1 λz H2=>D.nx (σ.set i<|some z) H2:=by
  intro x hi hx h
  rcases r.at i x hi with z|⟨v,e,q⟩
  ·subst z;cases hx
  ·refine⟨v,e,ρ,S,τ,R,r,iM (of_post h) .refl λb S1 h1 ρ1 H1 y e1 R1 v1=>⟨ρ1,S1,x,b,R1,q.ext e1,v1,iM (of_post h1) e1 λw S2 h2 ρ2 H2 z e2 R2 v2=>?_⟩⟩;exact h2 ρ2 H2 _ (e1.trans e2) R2<|(r.ext<|e1.trans e2).set v2
 unfold M9 yk at h;rw[aL]at h
 cases hi:τ[i]? with
 | none=>rw[hi]at h;exact h.elim
 | some x=>
  rw[hi]at h
  cases hx:x.mz with
  | true=>rw[show(some x).getD .unb=x from rfl,hx]at h;exact h.elim
  | false=>rw[show(some x).getD .unb=x from rfl,hx]at h;exact key x hi hx h
abbrev Lr (a b:A)(S:iN):R A:=match a,b with
 | .ref n,.int i=>opt (iL S n) λxs=>gd (0<=i) (opt (xs[i.toNat]?) λx=>.ok x S)
 | _,_=>.no
def OC:Q4 X (r2 X Lr):=λpins s σ H o i ov iv Q I ro ri h9=>by
 x_go
 cases va with
 | @ref p n hp=>
  cases vb with
  | int k=>
   kj_on;obtain⟨h0,h⟩:=ja h;obtain⟨x,hx,h⟩:=iY h;obtain⟨vs,h1,r1⟩:=R.lst hp<|i6 hn;obtain⟨z,e,q⟩:=r1.get hx;exact MM pins s σ H _ _ ov iv Q I ro ri ⟨p,vs,k,z,rfl,rfl,mP.of h1,h0,e,h _ _ _ .refl R q⟩
  | _=>exact h.elim
 | _=>exact h.elim
abbrev ya (co ci ce:Ex)(f:A->A->iN->R A):Sm:=λτ S=>.of (co τ S) λo S1=>.of (ci τ S1) λi S2=>.of (Lr o i S2) λx S3=>.of (ce τ S3) λy S4=>.of (f x y S4) λz S5=>.of (Cz o i z S5) λ_ S6=>.nx τ S6
def EA{co ci ce:Ex}{f:A->A->iN->R A}(ho:AE X o co)(hi:AE X i ci)(he:AE X e ce)(hp:QK X op<|ip X f)
  (ha:∀ov iv new,augStore i ov iv new=(do holding [new,ov,iv] (setItem ov iv new);release [new,ov,iv] [];pure .next):=by intros;rfl):AS X (.AugAssign (.Subscript o i tpos) op e pos) (ya co ci ce f):=
 PS.imp (PD ho hi OC he hp Gi ha) λD σ H h9=>by
  z_go;refine⟨ρ,S,τ,R,r,iM (of_post h) .refl λao S1 h1 ρ1 H1 vo e1 R1 v1=>⟨ρ1,S1,τ,R1,r.ext e1,iM (of_post h1) e1 λai S2 h2 ρ2 H2 vi e2 R2 v2=>?_⟩⟩;refine⟨ρ2,S2,ao,ai,R2,v1.ext e2,v2,iM (of_post h2) (e1.trans e2) λax S3 h3 ρ3 H3 vx e3 R3 v3=>?_⟩;have e13:=(e1.trans e2).trans e3;refine⟨ρ3,S3,τ,R3,r.ext e13,iM (of_post h3) e13 λay S4 h4 ρ4 H4 vy e4 R4 v4=>?_⟩;refine⟨ρ4,S4,ax,ay,R4,v3.ext e4,v4,iM (of_post h4) (e13.trans e4) λaz S5 h5 ρ5 H5 vz e5 R5 v5=>?_⟩;have e35:=(e3.trans e4).trans e5;refine⟨ρ5,S5,ao,ai,az,R5,v1.ext<|e2.trans e35,v2.ext e35,v5,iM (of_post h5) ((e13.trans e4).trans e5) λ_ S6 h6 ρ6 H6 e6 R6=>?_⟩;have e16:=((e13.trans e4).trans e5).trans e6;exact h6 ρ6 H6 σ e16 R6<|r.ext e16
abbrev lT (t:Te)(c:Sm):Nat->Sm
 | 0=>λ_ _=>.no
 | n+1=>λτ S=>.of (t τ S) λb S1=>match b with
  | false=>.nx τ S1
  | true=>match c τ S1 with
   | .nx τ' S'=>lT t c n τ' S'
   | .ct τ' S'=>lT t c n τ' S'
   | .bk τ' S'=>.nx τ' S'
   | r=>r
def CD(n:Nat){t:Te}(hp:PassesOwn (model X.prog X.w) X.A X.env X.xe)(ht:AT X e t)(hb:IP X body c):AS X (.While e body [] pos) (lT t c n):=PS.imp (Jx hp ht hb) λD σ H h9=>by
 z_go;refine⟨λm σ' H'=>∃ρ' S' τ',Ext ρ ρ' H H'/\Rel X.K ρ' H' S'/\SR X.K ρ' H' τ' σ'/\yk X ρ' H' D (lT t c m τ' S'),⟨n,ρ,S,τ,.refl,R,r,h⟩,?_⟩;rintro m σ1 H1 ⟨ρ1,S1,τ1,e1,R1,r1,h1⟩
 cases m with
 | zero=>exact h1.elim
 | succ m=>
  refine⟨ρ1,S1,τ1,R1,r1,iM (of_post h1) .refl λb S2 h2 ρ2 H2 e2 R2=>?_⟩
  cases b with
  | false=>rw[aK bG];exact h2 ρ2 H2 σ1 e2 R2 (r1.ext e2)
  | true=>
   rw[aJ rfl];refine⟨λσ' H'=>∃ρ' S' τ',Ext ρ ρ' H H'/\Rel X.K ρ' H' S'/\SR X.K ρ' H' τ' σ'/\yk X ρ' H' D (lT t c m τ' S'),λσ' H' z=>⟨m,cK _,z⟩,ρ2,S2,τ1,R2,r1.ext e2,?_⟩;have h2:yk X ρ1 H1 D (match c τ1 S2 with
    | .nx τ' S'=>lT t c m τ' S'
    | .ct τ' S'=>lT t c m τ' S'
    | .bk τ' S'=>.nx τ' S'
    | r=>r):=h2
   cases hc:c τ1 S2 with
   | nx τ3 S3=>rw[hc]at h2;exact λρ3 H3 σ3 e3 R3 r3=>⟨ρ3,S3,τ3,(e1.trans e2).trans e3,R3,r3,yk.ext h2<|e2.trans e3⟩
   | ct τ3 S3=>rw[hc]at h2;exact λρ3 H3 σ3 e3 R3 r3=>⟨ρ3,S3,τ3,(e1.trans e2).trans e3,R3,r3,yk.ext h2<|e2.trans e3⟩
   | bk τ3 S3=>rw[hc]at h2;exact zk.ext h2 e2
   | rt a S3=>rw[hc]at h2;exact uv.ext h2 e2
   | ex x S3=>rw[hc]at h2;exact XE.ext h2 e2
   | no=>rw[hc]at h2;exact h2
end
structure Src where
 k:Nat
 get:Nat->iN->Option A
 fin:iN->Bool
structure JR (K:au)(s:Src)(J:It)(ρ0:ar)(H0:Hp):Prop where
 go:∀(i:Nat) (S:iN) (H:Hp) (ρ:ar) (x:A),Ext0 ρ0 ρ H0 H->Rel K ρ H S->s.get i S=some x->J.go i H/\∀v H',J.yld i H v H'->Ext ρ ρ H H'/\Rel K ρ H' S/\AV K ρ H' x v
 stop:∀(S:iN) (H:Hp) (ρ:ar),Ext0 ρ0 ρ H0 H->Rel K ρ H S->s.fin S=true->J.stop s.k H
meta abbrev Ic:=ad->iN->R Src
abbrev tI (X:Cx)(c:Ic):TI:=λσ H Q=>∃ρ S τ,Rel X.K ρ H S/\SR X.K ρ H τ σ/\(c τ S).post (λs S'=>∀ρ' H' J,Ext ρ ρ' H H'->Rel X.K ρ' H' S'->JR X.K s J ρ' H'->Q J H') (XE X ρ H)
abbrev AI (X:Cx)(tg iter:aE)(c:Ic):Prop:=PI X tg iter<|tI X c
abbrev ur (xs:ad):Src:=⟨xs.length,λi _=>xs[i]?,λ_=>true⟩
abbrev mR (n k:Nat):Src:=⟨k,λi S=>(iL S n).bind (·[i]?),λS=>match iL S n with
 | some ys=>decide (ys.length<=k)
 | none=>false⟩
abbrev kE (lo hi:Int):Src:=⟨(hi-lo).toNat,λi _=>if i<(hi-lo).toNat then some (.int<|lo+i)else none,λ_=>true⟩
abbrev sR (c:Ex):Ic:=λτ S=>(c τ S).bind λa S1=>match a with
 | .tup xs=>.ok (ur xs) S1
 | .frz xs=>.ok (ur xs) S1
 | .ref n=>opt (iL S1 n) λxs=>.ok (mR n xs.length) S1
 | .str x=>gd (x.cps.all (· < 128)=true) (.ok (ur<|x.cps.toList.map λc=>.str ⟨#[c]⟩) S1)
 | _=>.no
section
variable {X:Cx}{pos:Pos}{tg e a b:aE}
def Tr{K:au}{H0:Hp}{p:ak}(h:nk K H0 p vs)(r:AVs K ρ0 H0 xs vs):JR K (ur xs) (Xr K p) ρ0 H0 where
 go:=λi S H ρ x e R g=>by
  obtain⟨v,ev,av⟩:=(AVs.kN e r).get g;have hs:=e.X7 h;refine⟨⟨vs,v,hs,ev⟩,λw H' ⟨e1,y⟩=>?_⟩;subst e1;have:=y vs hs;rw[ev]at this
  cases this
  exact⟨.refl,R,av⟩
 stop:=λS H ρ e R _=>⟨vs,e.X7 h,by rw[<- r.length];exact aO _⟩
def RA{K:au}{H0:Hp}{p:ak}(h:Fz K H0 p vs)(r:AVs K ρ0 H0 xs vs):JR K (ur xs) (U0 K p) ρ0 H0 where
 go:=λi S H ρ x e R g=>by
  obtain⟨v,ev,av⟩:=(AVs.kN e r).get g;have hs:=(e.fz h).PC;refine⟨⟨vs,v,hs,ev⟩,λw H' ⟨e1,y⟩=>?_⟩;subst e1;have:=y vs hs;rw[ev]at this
  cases this
  exact⟨.refl,R,av⟩
 stop:=λS H ρ e R _=>⟨vs,(e.fz h).PC,by rw[<- r.length];exact aO _⟩
def Ky{K:au}{ρ0:ar}{H0:Hp}{p:ak}{n k:Nat}(h:ρ0[n]?=some p):JR K (mR n k) (U0 K p) ρ0 H0 where
 go:=λi S H ρ x e R g=>by
  obtain⟨ys,hn,hx⟩:=b6.mp<|show(iL S n).bind (·[i]?)=some x from g;obtain⟨vs,h1,r⟩:=R.lst (e.get h)<|i6 hn;obtain⟨v,ev,av⟩:=r.get hx;refine⟨⟨vs,v,mP.of h1,ev⟩,λw H' ⟨e1,y⟩=>?_⟩;subst e1;have:=y vs<|mP.of h1;rw[ev]at this
  cases this
  exact⟨.refl,R,av⟩
 stop:=λS H ρ e R g=>by
  have g:(match iL S n with
   | some ys=>decide (ys.length<=k)
   | none=>false)=true:=g
  cases hn:iL S n with
  | none=>rw[hn]at g;cases g
  | some ys=>
   rw[hn]at g;obtain⟨vs,h1,r⟩:=R.lst (e.get h)<|i6 hn;exact⟨vs,mP.of h1,by rw[<- r.length];exact bS g⟩
def Jv{K:au}{H0:Hp}{lo hi:Int}:JR K (kE lo hi) (Vk lo (hi-lo).toNat) ρ0 H0 where
 go:=λi S H ρ x e R g=>by
  have g:(if i<(hi-lo).toNat then some (A.int<|lo+i)else none)=some x:=g;by_cases hi':i<(hi-lo).toNat
  ·rw[aJ hi']at g
   cases g
   refine⟨hi',λw H' ⟨e1,y⟩=>?_⟩;subst e1 y;exact⟨.refl,R,.int _⟩
  ·rw[aK hi']at g;cases g
 stop:=λS H ρ e R _=>aO _
def Uv{K:au}{H0:Hp}{x:Str}:JR K (ur<|x.cps.toList.map λc=>A.str ⟨#[c]⟩) (XA x) ρ0 H0 where
 go:=λi S H ρ y e R g=>by
  have g:(x.cps.toList.map λc=>A.str ⟨#[c]⟩)[i]?=some y:=g;rw[bg]at g;obtain⟨c,hc,rfl⟩:=bz.mp g;rw[eO]at hc;refine⟨(Array.getElem?_eq_some_iff.mp hc).1,λw H' ⟨e1,c',hc',y'⟩=>?_⟩;rw[hc]at hc'
  cases hc'
  subst e1 y';exact⟨.refl,R,.str _⟩
 stop:=λS H ρ e R _=>by
  show(x.cps.toList.map λc=>A.str ⟨#[c]⟩).length=x.cps.size;rw[aM,cL]
def wC{c:Ex}(he:AE X e c):AI X tg e (sR c):=λpins s σ H Q I h9=>by
 z_go;have hb:=iR h
 cases hc:c τ S with
 | no=>rw[hc]at hb;exact hb.elim
 | ex x S1=>
  rw[hc]at hb;exact M4 he pins s σ H Q I ⟨ρ,S,τ,R,r,by rw[hc];exact hb⟩
 | ok a S1=>
  rw[hc]at hb
  cases a with
  | tup xs=>
   refine M4 he pins s σ H Q I ⟨ρ,S,τ,R,r,?_⟩;rw[hc];intro ρ1 H1 x e1 R1 v1
   cases v1 with
   | tup h1 r1=>exact⟨_,rfl,⟨_,(nk.of h1)⟩,hb ρ1 H1 _ e1 R1<|Tr (nk.of h1) r1⟩
  | frz xs=>
   refine GN he pins s σ H Q I ⟨ρ,S,τ,R,r,?_⟩;rw[hc];intro ρ1 H1 x e1 R1 v1
   cases v1 with
   | frz h1 r1=>exact⟨_,rfl,⟨_,h1.PC⟩,hb ρ1 H1 _ e1 R1<|RA h1 r1⟩
  | ref n=>
   obtain⟨xs,hn,hb⟩:=iY hb;refine GN he pins s σ H Q I ⟨ρ,S,τ,R,r,?_⟩;rw[hc];intro ρ1 H1 x e1 R1 v1
   cases v1 with
   | ref hp=>
    obtain⟨vs,h1,r1⟩:=R1.lst hp<|i6 hn;exact⟨_,rfl,⟨_,mP.of h1⟩,hb ρ1 H1 _ e1 R1<|Ky hp⟩
  | str x=>
   obtain⟨ha,hb⟩:=ja hb;refine Rh he pins s σ H Q I ⟨ρ,S,τ,R,r,?_⟩;rw[hc];intro ρ1 H1 v e1 R1 v1
   cases v1 with
   | str=>exact⟨x,rfl,ha,hb ρ1 H1 _ e1 R1 Uv⟩
  | _=>exact hb.elim
abbrev bnd (i:Int):Prop:=-(2 ^ 62)<=i/\i<2 ^ 62
instance (i:Int):Decidable (bnd i):=by unfold bnd;infer_instance
abbrev p9 (c:Ex):Ic:=λτ S=>(c τ S).bind λa S1=>match a with
 | .int j=>gd (bnd j) (.ok (kE 0 j) S1)
 | _=>.no
abbrev qE (c d:Ex):Ic:=λτ S=>(c τ S).bind λa S1=>(d τ S1).bind λb S2=>match a,b with
 | .int i,.int j=>gd (bnd i/\bnd j) (.ok (kE i j) S2)
 | _,_=>.no
def nI{p:Pos}{c:Ex}(hm:X.mg "range" = none)(ha:AE X a c)(hg:Gl X "range" := by rfl)(hs:starEach [a] X.env=[(false,eval a X.env)]:=by rfl):AI X tg (.Call (.Name "range" p) [a] [] pos) (p9 c):=λpins s σ H Q I h9=>by
 z_go;refine Hx hg hm (kZ ha qi hs) hs pins s σ H Q I ⟨ρ,S,τ,R,r,iM (iR h) .refl λx S1 h1 ρ1 H1 v e1 R1 v1=>?_⟩
 cases v1 with
 | int j=>
  obtain⟨hb,h1⟩:=ja h1;exact⟨_,rfl,hb.1,hb.2,by have:=h1 ρ1 H1 _ e1 R1 Jv;rwa [Int.sub_zero]at this⟩
 | _=>exact h1.elim
def uF{p:Pos}{c d:Ex}(hm:X.mg "range" = none)(ha:AE X a c)(hb:AE X b d)(hg:Gl X "range" := by rfl)(hs:starEach [a,b] X.env=[(false,eval a X.env),(false,eval b X.env)]:=by rfl)(hs2:starEach [b] X.env=[(false,eval b X.env)]:=by rfl):AI X tg (.Call (.Name "range" p) [a,b] [] pos) (qE c d):=λpins s σ H Q I h9=>by
 z_go;refine HN hg hm (kZ ha (kZ hb qi hs2)<|by rw[hs,hs2]) hs hs2 pins s σ H Q I ⟨ρ,S,τ,R,r,iM (iR h) .refl λx S1 h1 ρ1 H1 v e1 R1 v1=>⟨ρ1,S1,τ,R1,r.ext e1,iM (iR h1) e1 λy S2 h2 ρ2 H2 w e2 R2 v2=>?_⟩⟩
 cases v1 with
 | int i=>
  cases v2 with
  | int j=>
   obtain⟨hb,h2⟩:=ja h2;exact⟨_,_,rfl,⟨hb.1.1,hb.1.2,hb.2.1,hb.2.2⟩,h2 ρ2 H2 _ (e1.trans e2) R2 Jv⟩
  | _=>exact h2.elim
 | _=>exact h2.elim
abbrev oB (s:Src)(g:Tg)(c:Sm):Nat->Nat->Sm
 | 0,_=>λτ S=>if s.fin S then .nx τ S else .no
 | k+1,i=>λτ S=>match s.get i S with
  | none=>.no
  | some x=>.of (g x τ S) λτ1 S1=>match c τ1 S1 with
   | .nx τ' S'=>oB s g c k (i+1) τ' S'
   | .ct τ' S'=>oB s g c k (i+1) τ' S'
   | .bk τ' S'=>.nx τ' S'
   | r=>r
abbrev nU (src:Ic)(g:Tg)(c:Sm):Sm:=λτ S=>.of (src τ S) λs S1=>oB s g c s.k 0 τ S1
def qm{iter:aE}{src:Ic}{g:Tg}{c:Sm}(hp:PassesOwn (model X.prog X.w) X.A X.env X.xe)(hc:X.calm=true)(hi:AI X tg iter src)(hg:AG X tg g)(hb:IP X body c)
  (hs:∀x,foldedSetIterable iter X.env x=pure x:=by intro _;rfl):AS X (.For tg iter body [] pos) (nU src g c):=PS.imp (Ru hp hc hi hg hb hs) λD σ H h9=>by
 z_go;refine⟨ρ,S,τ,R,r,iM (of_post h) .refl λs S1 h1 ρ1 H1 J e1 R1 jr=>?_⟩;refine⟨λi m σ' H'=>m+i=s.k/\∃ρ' S' τ',Ext ρ1 ρ' H1 H'/\Rel X.K ρ' H' S'/\SR X.K ρ' H' τ' σ'/\yk X ρ' H' D (oB s g c m i τ' S'),⟨s.k,rfl,ρ1,S1,τ,.refl,R1,r.ext e1,yk.ext h1 e1⟩,?_⟩;rintro i m σ2 H2 ⟨hm,ρ2,S2,τ2,e2,R2,r2,h2⟩
 cases m with
 | zero=>
  left;have h2:yk X ρ2 H2 D (if s.fin S2 then .nx τ2 S2 else .no):=h2
  cases hf:s.fin S2 with
  | false=>rw[hf]at h2;exact h2.elim
  | true=>
   rw[hf]at h2;refine⟨by rw[show i=s.k by lia];exact jr.stop S2 H2 ρ2 e2.toExt0 R2 hf,h2 ρ2 H2 σ2 .refl R2 r2⟩
 | succ m=>
  right;have h2:yk X ρ2 H2 D (match s.get i S2 with
   | none=>.no
   | some x=>.of (g x τ2 S2) λτ1 S1=>match c τ1 S1 with
    | .nx τ' S'=>oB s g c m (i+1) τ' S'
    | .ct τ' S'=>oB s g c m (i+1) τ' S'
    | .bk τ' S'=>.nx τ' S'
    | r=>r):=h2
  cases hx:s.get i S2 with
  | none=>rw[hx]at h2;exact h2.elim
  | some x=>
   rw[hx]at h2;obtain⟨hgo,hy⟩:=jr.go i S2 H2 ρ2 x e2.toExt0 R2 hx;refine⟨hgo,λσ' H'=>m+(i+1)=s.k/\∃ρ' S' τ',Ext ρ1 ρ' H1 H'/\Rel X.K ρ' H' S'/\SR X.K ρ' H' τ' σ'/\yk X ρ' H' D (oB s g c m (i+1) τ' S'),λσ' H' z=>⟨m,cK _,z⟩,λv H3 y=>?_⟩;obtain⟨e3,R3,v3⟩:=hy v H3 y;refine⟨ρ2,S2,τ2,x,R3,r2.ext e3,v3,iM (of_post h2) e3 λτ4 S4 h4 ρ4 H4 σ4 e4 R4 r4=>⟨ρ4,S4,τ4,R4,r4,?_⟩⟩;have e24:=e3.trans e4
   cases hcc:c τ4 S4 with
   | nx τ5 S5=>rw[hcc]at h4;exact λρ5 H5 σ5 e5 R5 r5=>⟨(),ρ5,S5,τ5,(e2.trans e24).trans e5,R5,r5,yk.ext h4<|e24.trans e5⟩
   | ct τ5 S5=>rw[hcc]at h4;exact λρ5 H5 σ5 e5 R5 r5=>⟨(),ρ5,S5,τ5,(e2.trans e24).trans e5,R5,r5,yk.ext h4<|e24.trans e5⟩
   | bk τ5 S5=>rw[hcc]at h4;exact zk.ext h4 e24
   | rt x5 S5=>rw[hcc]at h4;exact uv.ext h4 e24
   | ex x5 S5=>rw[hcc]at h4;exact XE.ext h4 e24
   | no=>rw[hcc]at h4;exact h4
end
abbrev R.mG {α β:Type}(r:R α)(f:α->iN->R β):R β:=match r with
 | .ok a S=>f a S
 | _=>.no
def jY{α β:Type}{r:R α}{f:α->iN->R β}{b:β}(h:r.mG f=.ok b S2):∃a S,r=.ok a S/\f a S=.ok b S2:=by
 cases r with
 | ok a S=>exact⟨a,S,rfl,h⟩
 | ex _ _=>cases h
 | no=>cases h
def wY{α β:Type}{r:R α}{f:α->iN->R β}{P:β->iN->Prop}{E:Str->iN->Prop}(h:(r.mG f).post P E):∃a S,r=.ok a S/\(f a S).post P E:=by
 cases r with
 | ok a S=>exact⟨a,S,rfl,h⟩
 | ex _ _=>exact h.elim
 | no=>exact h.elim
def DJ{α β:Type}{o:Option β}{f:β->R α}{a:α}(h:opt o f=.ok a S):∃b,o=some b/\f b=.ok a S:=by
 cases o with
 | none=>cases h
 | some b=>exact⟨b,rfl,h⟩
abbrev nM (s:Src)(g:Tg)(t:Te)(e:Ex):Nat->Nat->ad->iN->R (ad)
 | 0,_=>λ_ S=>if s.fin S then .ok [] S else .no
 | k+1,i=>λτ S=>opt (s.get i S) λx=>(g x τ S).mG λτ1 S1=>(t τ1 S1).mG λb S2=>match b with
  | true=>(e τ1 S2).mG λy S3=>(nM s g t e k (i+1) τ1 S3).mG λys S4=>.ok (y::ys) S4
  | false=>nM s g t e k (i+1) τ1 S2
abbrev oi (cap:List<|bi)(τ:ad):ad:=cap.map λo=>match o with
 | some j=>τ.getD j .unb
 | none=>.unb
abbrev lY (cap:List<|bi)(src:Ic)(g:Tg)(t:Te)(e:Ex):Ex:=λτ S=>(src τ S).bind λs S1=>(nM s g t e s.k 0 (oi cap τ) S1).mG λys S2=>newL ys S2
abbrev A6:Te:=λ_ S=>.ok true S
def Bu{s:Src}{g:Tg}{t:Te}{e:Ex}{k:Nat}{T:Prop}(h:nM s g t e (k+1) i τ S=.ok zs S')
  (q:∀x τ1 S1 b S2,s.get i S=some x->g x τ S=.ok τ1 S1->t τ1 S1=.ok b S2->(b=true->∃y S3 ws,e τ1 S2=.ok y S3/\nM s g t e k (i+1) τ1 S3=.ok ws S'/\zs=y::ws)->(b=false->nM s g t e k (i+1) τ1 S2=.ok zs S')->T):T:=by
 obtain⟨x,hx,h⟩:=DJ h;obtain⟨τ1,S1,h1,h⟩:=jY h;obtain⟨b,S2,h2,h⟩:=jY h;refine q x τ1 S1 b S2 hx h1 h2 (λhb=>?_) λhb=>?_
 ·subst hb;obtain⟨y,S3,h3,h⟩:=jY h;obtain⟨ws,S4,h4,h⟩:=jY h
  cases h
  exact⟨y,S3,ws,h3,h4,rfl⟩
 ·subst hb;exact h
structure Out (ρ1:ar)(H1:Hp)(D:ak)(accV:List V)(ρ:ar)(H:Hp):Prop where
 e0:Ext0 ρ1 ρ H1 H
 fr:∀a u,a≠D->H1 a=some u->a∉ρ1->H a=some u
 nw:∀a∈ρ,a∈ρ1\/H1 a=none
 nD:D∉ρ
 hD:H D=some (.lst accV)
def Out.stay{H1 H3 H7:Hp}{D:ak}(o:Out ρ1 H1 D accV ρ3 H3)(hD1:H1 D=none)(e7:Ext ρ3 ρ7 H3 H7):Out ρ1 H1 D accV ρ7 H7:=by
 refine⟨⟨o.e0.pre.trans e7.pre,λa u i h=>e7.im a u i<|o.e0.im a u i h⟩,λa u na hu nr=>e7.fr a u (o.fr a u na hu nr) λz=>(o.nw a z).elim nr λz=>by(rw[z]at hu;cases hu),λa ha=>?_,λz=>(e7.nw D z).elim o.nD λz=>by(rw[o.hD]at z;cases z),e7.fr D _ o.hD o.nD⟩;by_cases hr:a∈ρ1
 ·exact .inl hr
 ·right
  cases q:H1 a with
  | none=>rfl
  | some u=>
   have aD:a≠D:=i9 q hD1
   rcases e7.nw a ha with z|z
   ·exact((o.nw a z).elim hr λz=>by(rw[z]at q;cases q)).elim
   ·rw[o.fr a u aD q hr]at z;cases z
def Out.put{H1 H:Hp}{D:ak}(o:Out ρ1 H1 D accV ρ H)(ex:Ext0 ρ ρ H<|upd H D<|.lst vs):Out ρ1 H1 D vs ρ (upd H D<|.lst vs):=
 ⟨⟨o.e0.pre,λa u i h=>ex.im a u i<|o.e0.im a u i h⟩,λa u na hu nr=>by rw[iS na];exact o.fr a u na hu nr,o.nw,o.nD,ji⟩
def Out.end{H1 H:Hp}{D:ak}(o:Out ρ1 H1 D accV ρ H)(hD:H1 D=none):Ext ρ1 (ρ++[D]) H1 H:=by
 refine⟨⟨o.e0.pre.trans<|eB _ _,o.e0.im⟩,λa u hu na=>o.fr a u (i9 hu hD) hu na,λa ha=>?_⟩
 rcases bF.mp ha with z|z
 ·exact o.nw a z
 ·have:a=D:=by simpa using z
  rw[this];exact .inr hD
abbrev Cq (K:au)(ρ1:ar)(H1:Hp)(D:ak)(ys:ad)(k:Nat)(E:ar->Hp->Prop)(P:Nat->Nat->ad->iN->ad->Prop)(i m:Nat)(σ:L2.St)(H:Hp):Prop:=
 m+i=k/\∃ρ S τ acc zs accV,Out ρ1 H1 D accV ρ H/\E ρ H/\Rel K ρ H S/\SR K ρ H τ σ/\AVs K ρ H acc accV/\P m i τ S zs/\acc++zs=ys
section
variable {K:au}{ρ1 ρ:ar}{H1 H:Hp}{D:ak}{ys acc zs:ad}{accV:List V}{k i m:Nat}{E:ar->Hp->Prop}{P:Nat->Nat->ad->iN->ad->Prop}{σ:L2.St}{S:iN}{τ:ad}
def Cq.el{T:Prop}(h:Cq K ρ1 H1 D ys k E P i m σ H)(q:∀ρ S τ acc zs accV,m+i=k->Out ρ1 H1 D accV ρ H->E ρ H->Rel K ρ H S->SR K ρ H τ σ->AVs K ρ H acc accV->P m i τ S zs->acc++zs=ys->T):T:=by
 obtain⟨hm,ρ,S,τ,acc,zs,accV,h1,h2,h3,h4,h5,h6,h7⟩:=h;exact q ρ S τ acc zs accV hm h1 h2 h3 h4 h5 h6 h7
def Cq.of(hm:m+i=k)(o:Out ρ1 H1 D accV ρ H)(e:E ρ H)(R:Rel K ρ H S)(r:SR K ρ H τ σ)(v:AVs K ρ H acc accV)(p:P m i τ S zs)(q:acc++zs=ys):Cq K ρ1 H1 D ys k E P i m σ H:=⟨hm,ρ,S,τ,acc,zs,accV,o,e,R,r,v,p,q⟩
end
abbrev Uz (K:au)(c:Ex):TE:=λσ H Q=>∃ρ S τ a S',Rel K ρ H S/\SR K ρ H τ σ/\c τ S=.ok a S'/\∀ρ' H' v,Ext ρ ρ' H H'->Rel K ρ' H' S'->AV K ρ' H' a v->Q v H'
abbrev P0 (K:au)(c:Te):TT:=λσ H Q=>∃ρ S τ a S',Rel K ρ H S/\SR K ρ H τ σ/\c τ S=.ok a S'/\∀ρ' H',Ext ρ ρ' H H'->Rel K ρ' H' S'->Q a H'
abbrev T_ (K:au)(g:Tg):TG:=λv σ H Q=>∃ρ S τ a τ' S',Rel K ρ H S/\SR K ρ H τ σ/\AV K ρ H a v/\g a τ S=.ok τ' S'/\∀ρ' H' σ',Ext ρ ρ' H H'->Rel K ρ' H' S'->SR K ρ' H' τ' σ'->Q σ' H'
section
variable {X:Cx}{pos:Pos}{tg iter elt e:aE}{ifs:List aE}{scope:Scope}{N:am}{cap:List (bi)}{src:Ic}{g:Tg}{t:Te}{c:Ex}
def AE.e0{K:au}(hK:X.K=K)(h:AE X e c):PE X e (Uz K c):=PE.imp h λσ H Q ⟨ρ,S,τ,a,S',R,r,hc,q⟩=>⟨ρ,S,τ,by rw[hK];exact R,by rw[hK];exact r,by rw[hc];exact λρ' H' v e R' v'=>q ρ' H' v e (by rw[<- hK];exact R')<|by rw[<- hK];exact v'⟩
def AT.t0{K:au}(hK:X.K=K)(h:AT X e t):PT X e (P0 K t):=PT.imp h λσ H Q ⟨ρ,S,τ,a,S',R,r,hc,q⟩=>⟨ρ,S,τ,by rw[hK];exact R,by rw[hK];exact r,by rw[hc];exact λρ' H' e R'=>q ρ' H' e<|by rw[<- hK];exact R'⟩
def AG.g0{K:au}(hK:X.K=K)(h:AG X e g):PG X e (T_ K g):=PG.imp h λv σ H Q ⟨ρ,S,τ,a,τ',S',R,r,va,hc,q⟩=>⟨ρ,S,τ,a,by rw[hK];exact R,by rw[hK];exact r,by rw[hK];exact va,by rw[hc];exact λρ' H' v e R' v'=>q ρ' H' v e (by rw[<- hK];exact R')<|by rw[<- hK];exact v'⟩
abbrev Rt (X:Cx)(ifs:List aE)(t:Te):Prop:=Ng X ifs<|P0 X.K t
def AA:Rt X [] A6:=λpins s σ H Q I ⟨ρ,S,τ,a,S',R,r,hc,q⟩=>NT pins s σ H Q I<|by cases hc;exact q ρ H .refl R
def vq(h:AT X e t):Rt X [e] t:=O8<|h.t0 rfl
def PU{K:au}{H:Hp}(r:SR K ρ H τ σ)(cap:List<|bi):SR K ρ H (oi cap τ) (cap.map<|Pe σ):=by
 refine⟨by simp[oi],λi a h=>?_⟩;unfold oi at h;rw[bg]at h;obtain⟨o,ho,e⟩:=bz.mp h
 cases o with
 | none=>exact .inl e.symm
 | some j=>
  have e:τ.getD j .unb=a:=e
  cases hj:τ[j]? with
  | none=>rw[aL,hj]at e;exact .inl e.symm
  | some b=>
   rw[aL,hj]at e;have e:b=a:=e;subst e
   rcases r.at j b hj with z|⟨v,h1,h2⟩
   ·exact .inl z
   ·exact .inr ⟨v,by rw[bg,ho];show some ((σ[j]?).getD none)=_;rw[h1];rfl,h2⟩
def Rel.Ff{K:au}{H:Hp}{p:ak}(R:Rel K ρ H S)(hp:H p=none):p∉ρ:=λhm=>by
 obtain⟨n,hn,e⟩:=gG.mp hm;have hl:n<S.length:=by rw[<- R.len];exact hn
 have:=R.at n p S[n] (by rw[aG hn,e]) (aG hl)
 cases ho:S[n]with
 | lst xs=>rw[ho]at this;obtain⟨vs,h,_⟩:=this;rw[hp]at h;cases h
 | dct _|oS _|n9 _=>rw[ho]at this;obtain⟨vs,h,_⟩:=this;rw[hp]at h;cases h
 | ins _ _=>rw[ho]at this;obtain⟨_,_,h⟩:=this;rw[hp]at h;cases h
def w_(σ:L2.St)(H:Hp)(Q:VK)(h:tE X (lY cap src g t c) σ H Q):Wl cap (tI X src) (T_ X.K g) (P0 X.K t) (Uz X.K c) σ H Q:=by
 kln_w;refine⟨ρ,S,τ,R,r,iM (iR h) .refl λs S1 h1 ρ1 H1 J e1 R1 jr D hD=>?_⟩;obtain⟨ys,S2,hcg,h1⟩:=wY h1;obtain⟨hlen,h1⟩:=ja h1;have h1:uv X ρ H Q (.ref S2.length) (S2++[.lst ys]):=h1;obtain⟨eD,RD⟩:=R1.im (u:=.lst []) hD;refine⟨Cq X.K ρ1 H1 D ys s.k (λ_ _=>True) λm i τ S zs=>nM s g t c m i τ S=.ok zs S2,⟨s.k,.of rfl ⟨eD.toExt0,λa u na hu _=>by rw[iS na];exact hu,λa ha=>.inl ha,R1.Ff hD,ji⟩ trivial RD (PU ((r.ext e1).ext eD) cap) .nil hcg rfl⟩,?_⟩;intro i m σ3 H3 hw;refine hw.el λρ3 S3 τ3 acc zs accV hm o3 _ R3 r3 ac3 cg3 eys=>?_;clear hw
 cases m with
 | zero=>
  left;have cg3:(if s.fin S3 then Am.R.ok [] S3 else .no)=.ok zs S2:=cg3
  cases hf:s.fin S3 with
  | false=>rw[hf]at cg3;cases cg3
  | true=>
   rw[hf]at cg3
   cases cg3
   rw[bK]at eys;subst eys;refine⟨by rw[show i=s.k by lia];exact jr.stop _ H3 ρ3 o3.e0 R3 hf,?_⟩;obtain⟨RT,gt⟩:=R3.take o3.hD o3.nD ac3;exact h1 (ρ3++[D]) H3 _ (e1.trans<|o3.end hD) RT<|.ref gt
 | succ m=>
  right;refine Bu cg3 λx τ4 S4 b S5 hx hg4 ht5 hT hF=>?_;have jg:=jr.go i S3 H3 ρ3 x o3.e0 R3 hx;refine⟨jg.1,λv H4 y=>?_⟩;obtain⟨e4,R4,v4⟩:=jg.2 v H4 y;refine⟨ρ3,S3,τ3,x,τ4,S4,R4,r3.ext e4,v4,hg4,λρ5 H5 σ5 e5 R5 r5=>⟨ρ5,S4,τ4,b,S5,R5,r5,ht5,λρ6 H6 e6 R6=>?_⟩⟩;have e36:=(e4.trans e5).trans e6
  cases b with
  | false=>
   dsimp only;rw[aK bG];exact⟨m,cK _,.of () (o3.stay hD e36) trivial R6 (r5.ext e6) (ac3.ext e36) (hF rfl) eys⟩
  | true=>
   dsimp only;rw[aJ rfl];obtain⟨y,S6,ws,he6,cg6,ezs⟩:=hT rfl;refine⟨ρ6,S5,τ4,y,S6,R6,r5.ext e6,he6,λρ7 H7 w e7 R7 v7=>?_⟩;have o7:=o3.stay hD<|e36.trans e7;obtain⟨ex8,R8⟩:=R7.out (ws:=accV++[w]) o7.hD o7.nD;have l1:=ac3.length;refine⟨accV,o7.hD,?_,m,cK _,.of () (o7.put ex8) trivial R8 ((r5.ext<|e6.trans e7).kN ex8) (AVs.kN ex8<|(ac3.ext<|e36.trans e7).append<|.one v7) cg6 ?_⟩
   ·have:(acc++zs).length<=sizeLine:=by rw[eys];exact hlen
    rw[ezs,bh,bA]at this
    lia
   ·rw[bO,<- eys,ezs];rfl
def zX(hc:X.calm=true)(Sc:CpScope X scope N cap)(hi:AI X tg iter src)(hg:∀C s₀ H₀ ex,AG (jK X scope N C s₀ H₀ ex) tg g)(ht:∀C s₀ H₀ ex,Rt (jK X scope N C s₀ H₀ ex) ifs t)(he:∀C s₀ H₀ ex,AE (jK X scope N C s₀ H₀ ex) elt c)
  (hs:∀x,foldedSetIterable iter X.env x=pure x:=by intro _;rfl):AE X (.ListComp elt [⟨tg,iter,ifs,0⟩] scope pos) (lY cap src g t c):=
 PE.imp (VO hc Sc hi (g:=T_ X.K g) (tc:=P0 X.K t) (te:=Uz X.K c) (λC s₀ H₀ ex=>(hg C s₀ H₀ ex).g0 rfl) (λC s₀ H₀ ex=>ht C s₀ H₀ ex) (λC s₀ H₀ ex=>(he C s₀ H₀ ex).e0 rfl) hs) w_
def Pw{i:Nat}{x:Str}{spos:Pos}(hN:X.N.Nodup)(hc:X.calm=true)(Sc:CpScope X scope N cap)(hi:AI X tg iter src)(hg:∀C s₀ H₀ ex,AG (jK X scope N C s₀ H₀ ex) tg g)(ht:∀C s₀ H₀ ex,Rt (jK X scope N C s₀ H₀ ex) ifs t)(he:∀C s₀ H₀ ex,AE (jK X scope N C s₀ H₀ ex) elt c)
  (hi':X.N[i]?=some x:=by rfl) (hx:Loc X.env.scope x:=by first|exact Or.inl rfl|exact Or.inr rfl)
  (hsw:swapsWith (.ListComp elt [⟨tg,iter,ifs,0⟩] scope pos) (some<|.Name x pos') spos.line X.env=pure true:=by rfl) (hf:X.fn x=true\/X.env.scope.names.lookup x=some .local:=by first|exact .inl rfl|exact .inr rfl|assumption)
  (hs:∀x,foldedSetIterable iter X.env x=pure x:=by intro _;rfl):AS X (.Assign [.Name x pos'] (.ListComp elt [⟨tg,iter,ifs,0⟩] scope pos) spos) (jC (lY cap src g t c)<|jW i):=
 PS.imp (IV hN hi' hx hc Sc hi (g:=T_ X.K g) (tc:=P0 X.K t) (te:=Uz X.K c) (λC s₀ H₀ ex=>(hg C s₀ H₀ ex).g0 rfl) (λC s₀ H₀ ex=>ht C s₀ H₀ ex) (λC s₀ H₀ ex=>(he C s₀ H₀ ex).e0 rfl) hsw hf hs) λD σ H ⟨ρ,S,τ,R,r,h⟩=>
  w_ σ H _ ⟨ρ,S,τ,R,r,iM (of_post h) .refl λa S1 h1 ρ1 H1 x e1 R1 v1=>h1 ρ1 H1 _ e1 R1<|(r.ext e1).set v1⟩
end
abbrev A.lst? (S:iN):A->Option (ad)
 | .ref n=>iL S n
 | _=>none
abbrev UB (f:A->ad->iN->R A)(co:Ex)(d:pQ):Ex:=λτ S=>(co τ S).bind λo S1=>opt (o.lst? S1) λ_=>(d τ S1).bind λas S2=>f o as S2
abbrev XQ (f:A->ad->iN->R A)(co:Ex):Ex:=λτ S=>(co τ S).bind λo S1=>opt (o.lst? S1) λ_=>f o [] S1
abbrev rM (X:Cx)(f:A->ad->iN->R A):V->List V->Hp->VK->Prop:=λx vs H Q=>∃ρ S o as,Rel X.K ρ H S/\AV X.K ρ H o x/\AVs X.K ρ H as vs/\(f o as S).post (uv X ρ H Q) (XE X ρ H)
section
variable {X:Cx}{apos cpos:Pos}{o e:aE}{es:List aE}{name:Str}{id:String}{f:A->ad->iN->R A}{co:Ex}{d:pQ}
def lst?_ty{K:au}{H:Hp}{x:A}{v:V}(R:Rel K ρ H S)(h:AV K ρ H x v)(e:x.lst? S=some xs):Wy K "list" v H:=by
 cases h with
 | ref h=>
  obtain⟨vs,h1,_⟩:=R.lst h<|i6 e;exact .inl ⟨rfl,vs,mP.of h1⟩
 | _=>cases e
def GO(slot:Slot "list" name id)(hty:typeOf (.builtin id)=pure (.type "method_descriptor"))(hm:UC X id<|rM X f)(ho:AE X o co)(ha:AL X (e::es) d)
  (hbase:attributeBase o name X.env (eval o X.env)=eval o X.env:=by rfl)
  (hfew:((backTo cpos<|starEach (e::es) X.env).all (λx=>!x.1) && (backToKw cpos<|keywordEach [] X.env).all (λx=>x.1.isSome)
   && decide ((e::es).length+([]:List Keyword).length+(if ([]:List Keyword).isEmpty then 0 else 1)<30))=true:=by rfl)
  (hline:(apos.endLine == cpos.line)=true:=by rfl) (hs:starEach (e::es) X.env=(false,eval e X.env)::starEach es X.env:=by rfl) (hplain:(backTo cpos<|starEach es X.env).any (·.1)=false:=by rfl) :
  AE X (.Call (.Attribute o name apos) (e::es) [] cpos) (UB f co d):=PE.imp (QG PySem.F.plainAttrs_list slot hty hm ho ha hbase hfew hline hs hplain) λσ H Q h9=>by
 z_go;refine⟨ρ,S,τ,R,r,iM (iR h) .refl λx S1 h1 ρ1 H1 v e1 R1 v1=>?_⟩;obtain⟨xs,hx,h1⟩:=iY h1;refine⟨lst?_ty R1 v1 hx,ρ1,S1,τ,R1,r.ext e1,iM (iR h1) e1 λas S2 h2 ρ2 H2 vs e2 R2 v2=>?_⟩;exact⟨ρ2,S2,x,as,R2,v1.ext e2,v2,iM h2 (e1.trans e2) λ_ _ z=>z.ext<|e1.trans e2⟩
abbrev sN (o:A)(as:ad)(S:iN):R A:=match o,as with
 | .ref n,[x]=>opt (iL S n) λxs=>gd (xs.length<sizeLine) (.ok .non<|S.set n<|.lst<|xs++[x])
 | _,_=>.no
def yj:UC X "list.append" (rM X sN):=λpins s σ H x vs v us Q I rx rv h9=>by
 obtain⟨ρ,S,o,as,R,vo,va,h⟩:=h9
 cases vo with
 | @ref p n hp=>
  match as,va,h with
  | [],_,h=>exact h.elim
  | _::_::_,_,h=>exact h.elim
  | [y],va,h=>
   obtain⟨w,rfl,hw⟩:=NH va;kj_on;obtain⟨hl,h⟩:=ja h;obtain⟨ws,h1,r⟩:=R.lst hp<|i6 hn;obtain⟨ex,R'⟩:=R.put hp (i6 hn)<|r.append<|.one hw;exact t9 pins s σ H _ _ v us Q I rx rv ⟨p,ws,w,rfl,rfl,h1,by rw[<- r.length];exact hl,h _ _ _ ex R' .non⟩
 | _=>exact h.elim
abbrev C2 (o:A)(as:ad)(S:iN):R A:=match o,as with
 | .ref n,[.int i]=>opt (iL S n) λxs=>gd (-(2 ^ 63)<=i/\i<2 ^ 63) (opt (seqIndex? i xs.length) λk=>opt (xs[k]?) λx=>.ok x<|S.set n<|.lst<|xs.eraseIdx k)
 | _,_=>.no
def Ov:UC X "list.pop" (rM X C2):=λpins s σ H x vs v us Q I rx rv h9=>by
 obtain⟨ρ,S,o,as,R,vo,va,h⟩:=h9
 cases vo with
 | @ref p n hp=>
  match as,va,h with
  | [],_,h=>exact h.elim
  | y::_::_,_,h=>exact(by cases y<;>exact h.elim)
  | [y],va,h=>
   obtain⟨w,rfl,hw⟩:=NH va
   cases hw with
   | int i=>
    kj_on;obtain⟨hi,h⟩:=ja h;obtain⟨k,hk,h⟩:=iY h;obtain⟨y,hy,h⟩:=iY h;obtain⟨ws,h1,r⟩:=R.lst hp<|i6 hn;obtain⟨w,hw,vw⟩:=r.get hy;obtain⟨ex,R'⟩:=R.put hp (i6 hn)<|r.eraseIdx k;exact JD pins s σ H _ _ v us Q I rx rv ⟨p,ws,i,k,w,rfl,rfl,h1,hi.1,hi.2,by rw[<- r.length];exact hk,hw,h _ _ _ ex R'<|vw.ext ex⟩
   | _=>exact h.elim
 | _=>exact h.elim
end
abbrev jQ (N:am)(m:Sm)(as:ad)(S:iN):R A:=match m (as++List.replicate (N.length-as.length) .unb) S with
 | .rt a S'=>.ok a S'
 | .nx _ S'=>.ok .non S'
 | .ex c S'=>.ex c S'
 | _=>.no
abbrev tZ (K:au)(n:Nat)(F:ad->iN->R A):Sp:=λvs H Q _=>vs.length=n/\∃ρ S as a S',Rel K ρ H S/\AVs K ρ H as vs/\F as S=.ok a S'/\∀ρ' H' v,Ext ρ ρ' H H'->Rel K ρ' H' S'->AV K ρ' H' a v->Q v H'
def Aj{K:au}{H:Hp}{as:ad}(r:AVs K ρ H as vs)(N:am):SR K ρ H (as++List.replicate (N.length-as.length) .unb) (L2.start N vs):=by
 have hl:=r.length;refine⟨by unfold L2.start;simp[hl],λi a h=>?_⟩;by_cases hi:i<as.length
 ·rw[bE hi]at h;obtain⟨v,hv,av⟩:=r.get h;exact .inr ⟨v,by unfold L2.start;rw[bE<|by simp;lia,bg,hv];rfl,av⟩
 ·rw[gQ (),fL]at h;split at h
  ·exact .inl (aS h).symm
  ·cases h
section
variable {P:aj}{w:ah}{K:au}{mg:Str->ba}{base:aq}
def BB{x:Str}{st:aF}{f:ak}{N ps:am}{k:Nat}{m:Sm}(F:Fun K x qual st f fd)(Sc:FnScope N ps<|iT st)
  (body:∀(cdv:af) (A:aA) (outer:List Env) (s:aC) (H:Hp) (E:XK),Room k (A.deeper<|envOfC qual (iT st) s.heap.objs.size f cdv)->IP (s_ sq P w K mg base N qual (iT st) f cdv A outer s H E).VD (lJ st) m) :
  FnOk P w K mg base sq (k+1) f fd ps (tZ K ps.length<|jQ N m):=by
 refine F.ok Sc (λvs H Q E h=>h.1) λcdv B outer s H vs Q E hr ⟨hl,ρ,S,as,a,S',R,va,hF,q⟩=>⟨_,body cdv B outer s H E hr,ρ,S,_,R,Aj va N,?_⟩;unfold jQ at hF
 cases hm:m (as++List.replicate (N.length-as.length) .unb) S with
 | rt b S2=>rw[hm]at hF;cases hF;exact q
 | nx τ S2=>rw[hm]at hF;cases hF;exact λρ' H' σ' e R' _=>q ρ' H' _ e R' .non
 | bk τ S2=>rw[hm]at hF;cases hF
 | ct τ S2=>rw[hm]at hF;cases hF
 | ex c S2=>rw[hm]at hF;cases hF
 | no=>rw[hm]at hF;cases hF
end
meta abbrev u_ (P:aj)(w:ah)(K:au)(mg:Str->ba)(base:aq)(k:Nat)(x:Str)(ps:am)(F:ad->iN->R A):Prop:=Kn P w K mg base k x ps<|tZ K ps.length F
abbrev eFn (F:ad->iN->R A)(d:pQ):Ex:=λτ S=>(d τ S).bind λas S1=>match F as S1 with
 | .ok a S2=>.ok a S2
 | _=>.no
section
variable {X:Cx}{pos p:Pos}{e:aE}{es:List aE}{x:Str}{ps:am}{k:Nat}{F:ad->iN->R A}{d:pQ}
def uW(G:u_ X.prog X.w X.K X.mg X.base k x ps F)(hr:Room k X.A)(ha:AL X (e::es) d)(hl:∀τ S as S',d τ S=.ok as S'->as.length=ps.length)(hg:Gl X x:=by rfl)(hdb:(x == ("__debug__" : Str))=false:=by decide)
  (hs:starEach (e::es) X.env=(false,eval e X.env)::starEach es X.env:=by rfl) (hplain:(backTo pos<|starEach es X.env).any (·.1)=false:=by rfl):AE X (.Call (.Name x p) (e::es) [] pos) (eFn F d):=
 PE.imp (U5 G hr ha hg hdb hs hplain) λσ H Q h9=>by
  z_go;refine⟨ρ,S,τ,R,r,?_⟩;have hb:=iR h
  cases hd:d τ S with
  | no=>rw[hd]at hb;exact hb
  | ex c S1=>rw[hd]at hb;exact hb
  | ok as S1=>
   rw[hd]at hb;intro ρ1 H1 vs e1 R1 v1;rw[bK];refine⟨by rw[<- v1.length];exact hl τ S as S1 hd,ρ1,S1,as,?_⟩;have hb:Am.R.post (match F as S1 with
    | .ok a S2=>.ok a S2
    | _=>.no) (uv X ρ H Q) (XE X ρ H):=hb
   cases hF:F as S1 with
   | ok a S2=>rw[hF]at hb;exact⟨a,S2,R1,v1,rfl,λρ2 H2 v e2=>hb ρ2 H2 v<|e1.trans e2⟩
   | ex c S2=>rw[hF]at hb;exact hb.elim
   | no=>rw[hF]at hb;exact hb.elim
def jA:∀τ S as S',iW τ S=.ok as S'->as.length=0:=λτ S as S' h=>by cases h;rfl
def iX{c:Ex}{d:pQ}{n:Nat}(h:∀τ S as S',d τ S=.ok as S'->as.length=n):∀τ S as S',iI c d τ S=.ok as S'->as.length=n+1:=λτ S as S' e=>by
 unfold iI at e
 cases hc:c τ S with
 | ok a S1=>
  rw[hc]at e
  cases hd:d τ S1 with
  | ok bs S2=>
   have e:R.bind (d τ S1) (λas S2=>.ok (a::as) S2)=.ok as S':=e;rw[hd]at e;cases e;rw[bA,h τ S1 bs _ hd]
  | ex _ _=>
   have e:R.bind (d τ S1) (λas S2=>.ok (a::as) S2)=.ok as S':=e;rw[hd]at e;cases e
  | no=>
   have e:R.bind (d τ S1) (λas S2=>.ok (a::as) S2)=.ok as S':=e;rw[hd]at e;cases e
 | ex _ _=>rw[hc]at e;cases e
 | no=>rw[hc]at e;cases e
end
section
variable {X:Cx}{pos:Pos}{a b c:aE}
abbrev XX (f':A->A->iN->R A)(cc:Ex)(τ:ad)(b k:A)(S:iN):R A:=match k with
 | .bl true=>(cc τ S).bind λc S4=>f' b c S4
 | .bl false=>.ok (.bl false) S
 | _=>.no
abbrev UG (f f':A->A->iN->R A)(ca cb cc:Ex):Ex:=λτ S=>(ca τ S).bind λa S1=>(cb τ S1).bind λb S2=>(f a b S2).bind λk S3=>XX f' cc τ b k S3
def Q5{f f':A->A->iN->R A}{ca cb cc:Ex}{H:Hp}{Q:VK}(h:tE X (UG f f' ca cb cc) σ H Q):JW (r2 X f) (r2 X f') (tE X ca) (tE X cb) (tE X cc) σ H Q:=by
 kln_w;refine⟨ρ,S,τ,R,r,iM (iR h) .refl λa S1 h1 ρ1 H1 x e1 R1 v1=>⟨ρ1,S1,τ,R1,r.ext e1,iM (iR h1) e1 λb S2 h2 ρ2 H2 y e2 R2 v2=>?_⟩⟩;have e12:=e1.trans e2;refine⟨ρ2,S2,a,b,R2,v1.ext e2,v2,iM (iR h2) e12 λk S3 h3 ρ3 H3 z e3 R3 v3=>?_⟩;have e13:=e12.trans e3
 cases k with
 | bl k=>
  cases Bf v3
  refine⟨k,rfl,?_⟩
  cases k with
  | true=>
   rw[aJ rfl];exact⟨ρ3,S3,τ,R3,r.ext e13,iM (iR h3) e13 λc S4 h4 ρ4 H4 w e4 R4 v4=>⟨ρ4,S4,b,c,R4,v2.ext<|e3.trans e4,v4,iM h4 (e13.trans e4) λ_ _ q=>q.ext<|e13.trans e4⟩⟩
  | false=>
   rw[aK bG];exact h3 ρ3 H3 _ e13 R3<|.bl false
 | _=>exact h3.elim
def V5{f f':A->A->iN->R A}{ca cb cc:Ex}(ho:mL X (compareOp op)<|r2 X f)(ho':mL X (compareOp op')<|r2 X f')(ha:AE X a ca)(hb:AE X b cb)(hc:AE X c cc)(hm:lastMarks [op,op'] [b,c]=false:=by with_unfolding_all rfl) :
  AE X (.Compare a [op,op'] [b,c] pos) (UG f f' ca cb cc):=PE.imp (LX ho ho' ha hb hc hm) λ_ _ _ h=>Q5 h
abbrev UP (S:iN)(x:A):ad->bd
 | []=>some false
 | z::zs=>(yp S 12 z x).bind λp=>(UP S x zs).map λq=>p || q
abbrev XD (neg:Bool)(x y:A)(S:iN):R A:=opt (y.seq S) λys=>opt (UP S x ys) λb=>.ok (.bl<|if neg then !b else b) S
theorem Ax{H:Hp}{x:A}{v:af}(I:Inv X pins σ H s)(R:Rel X.K ρ H S)(hu:X.A.units+64<cLine)(hx:AV X.K ρ H x vx)(rx:RelV vx v) :
  ∀{ys:ad} {us:List V} {its:ap} {b:Bool},AVs X.K ρ H ys us->Vals us its->UP S x ys=some b->∃e:af->Bool,(∀w∈its,SeqAt.EqAt X.A.in1 s w v<|e w)/\its.any e=b
 | _,_,_,b,.nil,.nil,h=>⟨λ_=>false,(λw hw=>by cases hw),aS h⟩
 | z::zs,u::us,w0::its,b,.cons hz hzs,.cons r rs,h=>by
  classical
  obtain⟨p,hp,h⟩:=b6.mp h;obtain⟨q,hq,h⟩:=bz.mp h;obtain⟨e,he,ha⟩:=Ax I R hu hx rx hzs rs hq;have h0:=(FL I R 12 X.A.in1 z x u vx w0 v p (by rw[in1_units];omega) hz hx r rx hp).2.1;subst h
  cases p with
  | true=>
   refine⟨λw=>if w=w0 then true else e w,λw hw=>?_,?_⟩
   ·by_cases hww:w=w0
    ·dsimp[hww,cX];exact h0
    ·dsimp[hww,bX]
     rcases bB.mp hw with z|z
     ·exact absurd z hww
     ·exact he w z
   ·simp
  | false=>
   by_cases hm:w0∈its
   ·refine⟨e,λw hw=>?_,?_⟩
    ·rcases bB.mp hw with z|z
     ·rw[z];exact he w0 hm
     ·exact he w z
    ·rw[eK,ha,gB]
     cases q with
     | true=>simp
     | false=>
      have:=List.any_eq_false.mp ha w0 hm;simpa using this
   ·refine⟨λw=>if w=w0 then false else e w,λw hw=>?_,?_⟩
    ·by_cases hww:w=w0
     ·dsimp[hww,cX];exact h0
     ·dsimp[hww,bX]
      rcases bB.mp hw with z|z
      ·exact absurd z hww
      ·exact he w z
    ·rw[eK,<- ha];dsimp[cX,gB];have:∀l:ap,(∀w∈l,w≠w0)->l.any (λw=>if w=w0 then false else e w)=l.any e:=λl hl=>by
      induction l with
      | nil=>rfl
      | cons c l ih=>rw[eK,eK,ih λw hw=>hl w<|aQ _ hw,aK<|hl c<|aN ..]
     exact this its λw hw z=>hm<|z ▸ hw
def W5(hu:X.A.units+64<cLine):mL X (compareOp .In) (r2 X<|XD false):=λpins s σ H x y v u Q I rx ry h9=>by
 x_go;obtain⟨ys,hy,h⟩:=iY h;obtain⟨k,hk,h⟩:=iY h;obtain⟨p,us,rfl,hs,r⟩:=SE R vb hy
 cases ry
 rcases hs with hs|hs
 ·obtain⟨its,rv,pl,hz⟩:=I.list hs;obtain⟨e,he,ha⟩:=Ax I R hu va rx r rv hk;refine SeqAt.in_listAt e pl.isList (λw hw=>he w<|by simpa using hw) ⟨.bl _,H,I,rfl,?_⟩;rw[show its.toArray.any e=its.any e by simp,ha];exact h _ _ _ .refl R (.bl _)
 ·obtain⟨its,rv,pl,hz⟩:=I.tuple hs;obtain⟨e,he,ha⟩:=Ax I R hu va rx r rv hk;refine SeqAt.in_tupleAt e pl (λw hw=>he w<|by simpa using hw) ⟨.bl _,H,I,rfl,?_⟩;rw[show its.toArray.any e=its.any e by simp,ha];exact h _ _ _ .refl R<|.bl _
end
abbrev VB (S:iN)(n:Nat):Option (List<|ae×A):=match S[n]? with
 | some (.dct xs)=>some xs
 | _=>none
section
variable {X:Cx}{pos:Pos}{a:aE}
abbrev CB (n k:Nat):Src:=⟨k,λi S=>(iL S n).bind λxs=>(xs[i]?).map λx=>.tup [.int i,x],λS=>match iL S n with
 | some ys=>decide (ys.length=k)
 | none=>false⟩
abbrev YL (a:A)(S:iN):R Src:=match a with
 | .ref n=>opt (iL S n) λxs=>.ok (CB n xs.length) S
 | _=>.no
abbrev OM (c:Ex):Ic:=λτ S=>(c τ S).bind λa S1=>YL a S1
def RH{K:au}{ρ0:ar}{H0:Hp}{p:ak}{n k:Nat}(hp:ρ0[n]?=some p):JR K (CB n k) (TV K p) ρ0 H0 where
 go:=λi S H ρ x e R g=>by
  obtain⟨xs,hn,g⟩:=b6.mp g;obtain⟨y,hy,rfl⟩:=bz.mp g;obtain⟨vs,h1,r1⟩:=R.lst (e.get hp)<|i6 hn;obtain⟨v,ev,av⟩:=r1.get hy;refine⟨⟨vs,v,mP.of h1,ev⟩,λw H' q=>?_⟩;obtain⟨pp,hpp,rfl,hz⟩:=q;have hz':=hz vs v (mP.of h1) ev;subst hz';obtain⟨ex,R'⟩:=R.im (u:=.tup [.int i,v]) hpp;exact⟨ex,R',.tup ji<|.cons (.int _)<|.cons (av.ext ex) .nil⟩
 stop:=λS H ρ e R hf=>by
  have hf:(match iL S n with
   | some ys=>decide (ys.length=k)
   | none=>false)=true:=hf
  cases hn:iL S n with
  | none=>rw[hn]at hf;cases hf
  | some xs=>
   rw[hn]at hf;obtain⟨vs,h1,r1⟩:=R.lst (e.get hp)<|i6 hn;exact⟨vs,mP.of h1,by rw[<- r1.length];exact bS hf⟩
def Ud{p:Pos}{c:Ex}(hm:X.mg "enumerate" = none)(ha:AE X a c)(hg:Gl X "enumerate" := by rfl)(hs:starEach [a] X.env=[(false,eval a X.env)]:=by rfl):AI X (.Tuple elts x1 tpos) (.Call (.Name "enumerate" p) [a] [] pos) (OM c):=λpins s σ H Q I h9=>by
 z_go;refine Ll hg hm (kZ ha qi hs) hs pins s σ H Q I ⟨ρ,S,τ,R,r,iM (iR h) .refl λx S1 h1 ρ1 H1 v e1 R1 v1=>?_⟩
 cases v1 with
 | @ref p n hp=>
  obtain⟨xs,hn,h1⟩:=iY h1;obtain⟨vs,g1,r1⟩:=R1.lst hp<|i6 hn;exact⟨_,vs,rfl,mP.of g1,h1 ρ1 H1 _ e1 R1<|RH hp⟩
 | _=>exact h1.elim
def O0{c:Ex}{n:Nat}{xs:ad}(h:c τ S=.ok (.ref n) S1)(hn:iL S1 n=some xs):OM c τ S=.ok (CB n xs.length) S1:=by
 unfold OM;rw[h];show opt (iL S1 n) _=_;rw[hn];rfl
end
abbrev oX (s:Src)(g:Tg)(t:Te)(e:Ex):Nat->Nat->ad->iN->R (ad×ad)
 | 0,_=>λτ S=>if s.fin S then .ok ([],τ) S else .no
 | k+1,i=>λτ S=>opt (s.get i S) λx=>(g x τ S).mG λτ1 S1=>(t τ1 S1).mG λb S2=>match b with
  | true=>(e τ1 S2).mG λy S3=>(oX s g t e k (i+1) τ1 S3).mG λp S4=>.ok (y::p.1,p.2) S4
  | false=>oX s g t e k (i+1) τ1 S2
abbrev ny (s:Src)(g:Tg)(t:Te)(src2:Ic)(g2:Tg)(t2:Te)(e:Ex):Nat->Nat->ad->iN->R (ad)
 | 0,_=>λ_ S=>if s.fin S then .ok [] S else .no
 | k+1,i=>λτ S=>opt (s.get i S) λx=>(g x τ S).mG λτ1 S1=>(t τ1 S1).mG λb S2=>match b with
  | true=>(src2 τ1 S2).mG λs2 S3=>(oX s2 g2 t2 e s2.k 0 τ1 S3).mG λp S4=>(ny s g t src2 g2 t2 e k (i+1) p.2 S4).mG λys S5=>.ok (p.1++ys) S5
  | false=>ny s g t src2 g2 t2 e k (i+1) τ1 S2
abbrev Dm (cap:List<|bi)(src:Ic)(g:Tg)(t:Te)(src2:Ic)(g2:Tg)(t2:Te)(e:Ex):Ex:=λτ S=>(src τ S).bind λs S1=>(ny s g t src2 g2 t2 e s.k 0 (oi cap τ) S1).mG λys S2=>newL ys S2
def BQ{s:Src}{g:Tg}{t:Te}{e:Ex}{k:Nat}{T:Prop}(h:oX s g t e (k+1) i τ S=.ok (zs,τ') S')
  (q:∀x τ1 S1 b S2,s.get i S=some x->g x τ S=.ok τ1 S1->t τ1 S1=.ok b S2->(b=true->∃y S3 ws,e τ1 S2=.ok y S3/\oX s g t e k (i+1) τ1 S3=.ok (ws,τ') S'/\zs=y::ws)->(b=false->oX s g t e k (i+1) τ1 S2=.ok (zs,τ') S')->T):T:=by
 obtain⟨x,hx,h⟩:=DJ h;obtain⟨τ1,S1,h1,h⟩:=jY h;obtain⟨b,S2,h2,h⟩:=jY h;refine q x τ1 S1 b S2 hx h1 h2 (λhb=>?_) λhb=>?_
 ·subst hb;obtain⟨y,S3,h3,h⟩:=jY h;obtain⟨⟨ws,τ2⟩,S4,h4,h⟩:=jY h
  cases h
  exact⟨y,S3,ws,h3,h4,rfl⟩
 ·subst hb;exact h
def Ai{s:Src}{g:Tg}{t:Te}{src2:Ic}{g2:Tg}{t2:Te}{e:Ex}{k:Nat}{T:Prop}(h:ny s g t src2 g2 t2 e (k+1) i τ S=.ok zs S')
  (q:∀x τ1 S1 b S2,s.get i S=some x->g x τ S=.ok τ1 S1->t τ1 S1=.ok b S2->(b=true->∃s2 S3 ps τ2 S4 ws,src2 τ1 S2=.ok s2 S3/\oX s2 g2 t2 e s2.k 0 τ1 S3=.ok (ps,τ2) S4/\ny s g t src2 g2 t2 e k (i+1) τ2 S4=.ok ws S'/\zs=ps++ws)->(b=false->ny s g t src2 g2 t2 e k (i+1) τ1 S2=.ok zs S')->T):T:=by
 obtain⟨x,hx,h⟩:=DJ h;obtain⟨τ1,S1,h1,h⟩:=jY h;obtain⟨b,S2,h2,h⟩:=jY h;refine q x τ1 S1 b S2 hx h1 h2 (λhb=>?_) λhb=>?_
 ·subst hb;obtain⟨s2,S3,h3,h⟩:=jY h;obtain⟨⟨ps,τ2⟩,S4,h4,h⟩:=jY h;obtain⟨ws,S5,h5,h⟩:=jY h
  cases h
  exact⟨s2,S3,ps,τ2,S4,ws,h3,h4,h5,rfl⟩
 ·subst hb;exact h
abbrev Yk (K:au)(c:Ic):TI:=λσ H Q=>∃ρ S τ s S',Rel K ρ H S/\SR K ρ H τ σ/\c τ S=.ok s S'/\∀ρ' H' J,Ext ρ ρ' H H'->Rel K ρ' H' S'->JR K s J ρ' H'->Q J H'
section
variable {X:Cx}{pos:Pos}{tg iter tg2 iter2 elt e:aE}{ifs ifs2:List aE}{scope:Scope}{N:am}{cap:List (bi)}{src src2:Ic}{g g2:Tg}{t t2:Te}{c:Ex}
def AI.i0{K:au}(hK:X.K=K)(h:AI X tg e src):PI X tg e (Yk K src):=λpins s σ H Q I ⟨ρ,S,τ,a,S',R,r,hc,q⟩=>h pins s σ H Q I ⟨ρ,S,τ,by rw[hK];exact R,by rw[hK];exact r,by rw[hc];exact λρ' H' J e R' v'=>q ρ' H' J e (by rw[<- hK];exact R')<|by rw[<- hK];exact v'⟩
def Mj(hc:X.calm=true)(Sc:CpScope X scope N cap)(hi:AI X tg iter src)(hg:∀C s₀ H₀ ex,AG (jK X scope N C s₀ H₀ ex) tg g)(ht:∀C s₀ H₀ ex,Rt (jK X scope N C s₀ H₀ ex) ifs t)(hi2:∀C s₀ H₀ ex,AI (jK X scope N C s₀ H₀ ex) tg2 iter2 src2)
  (hg2:∀C s₀ H₀ ex,AG (jK X scope N C s₀ H₀ ex) tg2 g2) (ht2:∀C s₀ H₀ ex,Rt (jK X scope N C s₀ H₀ ex) ifs2 t2) (he:∀C s₀ H₀ ex,AE (jK X scope N C s₀ H₀ ex) elt c)
  (hs:∀x,foldedSetIterable iter X.env x=pure x:=by intro _;rfl) (hs2:∀env x,foldedSetIterable iter2 env x=pure x:=by intro _ _;rfl):AE X (.ListComp elt [⟨tg,iter,ifs,0⟩,⟨tg2,iter2,ifs2,0⟩] scope pos) (Dm cap src g t src2 g2 t2 c):=by
 refine PE.imp (Ut hc Sc hi (g:=T_ X.K g) (tc:=P0 X.K t) (wi2:=Yk X.K src2) (g2:=T_ X.K g2) (tc2:=P0 X.K t2) (te:=Uz X.K c) (λC s₀ H₀ ex=>(hg C s₀ H₀ ex).g0 rfl) (λC s₀ H₀ ex=>ht C s₀ H₀ ex) (λC s₀ H₀ ex=>(hi2 C s₀ H₀ ex).i0 rfl) (λC s₀ H₀ ex=>(hg2 C s₀ H₀ ex).g0 rfl) (λC s₀ H₀ ex=>ht2 C s₀ H₀ ex) (λC s₀ H₀ ex=>(he C s₀ H₀ ex).e0 rfl) hs hs2) λσ H Q h9=>?_;z_go;refine⟨ρ,S,τ,R,r,iM (iR h) .refl λs S1 h1 ρ1 H1 J e1 R1 jr D hD=>?_⟩;obtain⟨ys,S2,hcg,h1⟩:=wY h1;obtain⟨hlen,h1⟩:=ja h1;have h1:uv X ρ H Q (.ref S2.length) (S2++[.lst ys]):=h1;obtain⟨eD,RD⟩:=R1.im (u:=.lst []) hD;refine⟨Cq X.K ρ1 H1 D ys s.k (λ_ _=>True) λm i τ S zs=>ny s g t src2 g2 t2 c m i τ S=.ok zs S2,⟨s.k,.of rfl ⟨eD.toExt0,λa u na hu _=>by rw[iS na];exact hu,λa ha=>.inl ha,R1.Ff hD,ji⟩ trivial RD (PU ((r.ext e1).ext eD) cap) .nil hcg rfl⟩,?_⟩;intro i m σ3 H3 hw;refine hw.el λρ3 S3 τ3 acc zs accV hm o3 _ R3 r3 ac3 cg3 eys=>?_;clear hw
 cases m with
 | zero=>
  left;have cg3:(if s.fin S3 then Am.R.ok [] S3 else .no)=.ok zs S2:=cg3
  cases hf:s.fin S3 with
  | false=>rw[hf]at cg3;cases cg3
  | true=>
   rw[hf]at cg3
   cases cg3
   rw[bK]at eys;subst eys;refine⟨by rw[show i=s.k by lia];exact jr.stop _ H3 ρ3 o3.e0 R3 hf,?_⟩;obtain⟨RT,gt⟩:=R3.take o3.hD o3.nD ac3;exact h1 (ρ3++[D]) H3 _ (e1.trans<|o3.end hD) RT<|.ref gt
 | succ m=>
  right;refine Ai cg3 λx τ4 S4 b S5 hx hg4 ht5 hT hF=>?_;have jg:=jr.go i S3 H3 ρ3 x o3.e0 R3 hx;refine⟨jg.1,λv H4 y=>?_⟩;obtain⟨e4,R4,v4⟩:=jg.2 v H4 y;refine⟨ρ3,S3,τ3,x,τ4,S4,R4,r3.ext e4,v4,hg4,λρ5 H5 σ5 e5 R5 r5=>⟨ρ5,S4,τ4,b,S5,R5,r5,ht5,λρ6 H6 e6 R6=>?_⟩⟩;have e36:=(e4.trans e5).trans e6
  cases b with
  | false=>
   dsimp only;rw[aK bG];exact⟨m,cK _,.of () (o3.stay hD e36) trivial R6 (r5.ext e6) (ac3.ext e36) (hF rfl) eys⟩
  | true=>
   dsimp only;rw[aJ rfl];obtain⟨s2,S6,ps,τ7,S7,ws,hs6,ci7,co7,ezs⟩:=hT rfl;refine⟨ρ6,S5,τ4,s2,S6,R6,r5.ext e6,hs6,λρ8 H8 J2 e8 R8 jr2=>?_⟩;have e38:=e36.trans e8;refine⟨Cq X.K ρ1 H1 D (acc++ps) s2.k (λρ' H'=>Ext0 ρ8 ρ' H8 H') λm i τ S qs=>oX s2 g2 t2 c m i τ S=.ok (qs,τ7) S7,⟨s2.k,.of rfl (o3.stay hD e38) ⟨dI _,λ_ _ _ h=>h⟩ R8 (r5.ext<|e6.trans e8) (ac3.ext e38) ci7 rfl⟩,?_⟩;intro i2 m2 σ9 H9 hw;refine hw.el λρ9 S9 τ9 acc9 qs accV9 hm2 o9 e89 R9 r9 ac9 ci9 eqs=>?_;clear hw
   cases m2 with
   | zero=>
    left;have ci9:(if s2.fin S9 then Am.R.ok ([],τ9) S9 else .no)=.ok (qs,τ7) S7:=ci9
    cases hf:s2.fin S9 with
    | false=>rw[hf]at ci9;cases ci9
    | true=>
     rw[hf]at ci9
     cases ci9
     rw[bK]at eqs;subst eqs;exact⟨by rw[show i2=s2.k by lia];exact jr2.stop _ H9 ρ9 e89 R9 hf,m,cK _,.of () o9 trivial R9 r9 ac9 co7<|by rw[bO,<- ezs,eys]⟩
   | succ m2=>
    right;refine BQ ci9 λx9 τ10 S10 b10 S11 hx9 hg10 ht11 hT9 hF9=>?_;have jg2:=jr2.go i2 S9 H9 ρ9 x9 e89 R9 hx9;refine⟨jg2.1,λv10 H10 y10=>?_⟩;obtain⟨e10,R10,v10'⟩:=jg2.2 v10 H10 y10;refine⟨ρ9,S9,τ9,x9,τ10,S10,R10,r9.ext e10,v10',hg10,λρ11 H11 σ11 e11 R11 r11=>⟨ρ11,S10,τ10,b10,S11,R11,r11,ht11,λρ12 H12 e12 R12=>?_⟩⟩;have e912:=(e10.trans e11).trans e12;have o12:=o9.stay hD e912;have e812:Ext0 ρ8 ρ12 H8 H12:=⟨e89.pre.trans e912.pre,λa u i h=>e912.im a u i<|e89.im a u i h⟩
    cases b10 with
    | false=>
     dsimp only;rw[aK bG];exact⟨m2,cK _,.of () o12 e812 R12 (r11.ext e12) (ac9.ext e912) (hF9 rfl) eqs⟩
    | true=>
     dsimp only;rw[aJ rfl];obtain⟨y,S13,us,he13,ci13,eus⟩:=hT9 rfl;refine⟨ρ12,S11,τ10,y,S13,R12,r11.ext e12,he13,λρ14 H14 w e14 R14 v14=>?_⟩;have o14:=o12.stay hD e14;obtain⟨ex15,R15⟩:=R14.out (ws:=accV9++[w]) o14.hD o14.nD;have l1:=ac9.length;refine⟨accV9,o14.hD,?_,m2,cK _,.of () (o14.put ex15) ⟨e812.pre.trans e14.pre,λa u i h=>ex15.im a u i<|e14.im a u i<|e812.im a u i h⟩ R15 ((r11.ext<|e12.trans e14).kN ex15) (AVs.kN ex15<|(ac9.ext<|e912.trans e14).append<|.one v14) ci13 ?_⟩
     ·have:((acc++ps)++ws).length<=sizeLine:=by rw[bO,<- ezs,eys];exact hlen
      rw[<- eqs,eus,bh,bh,bA]at this
      lia
     ·rw[bO,<- eqs,eus];rfl
end
abbrev A9 (K:au)(n:Nat)(F:ad->iN->R A):Sp:=λvs H Q E=>vs.length=n/\∃ρ S as,Rel K ρ H S/\AVs K ρ H as vs/\(F as S).post (λa S'=>∀ρ' H' v,Ext ρ ρ' H H'->Rel K ρ' H' S'->AV K ρ' H' a v->Q v H') (λc S'=>∀C ρ' H',BY K c C->Ext ρ ρ' H H'->Rel K ρ' H' S'->E (.ref C) none H')
section
variable {P:aj}{w:ah}{K:au}{mg:Str->ba}{base:aq}
def Fun.YT{x:Str}{st:aF}{f:ak}{N ps:am}{k:Nat}{sp:Sp}(F:Fun K x qual st f fd)(S:FnScope N ps<|iT st)(len:∀vs H Q E,sp vs H Q E->vs.length=ps.length)
  (hb:∀(cdv:af) (A:aA) (outer:List Env) (s:aC) (H:Hp) (vs:List V) (Q:VK) (E:XK),Room k (A.deeper<|envOfC qual (iT st) s.heap.objs.size f cdv)->sp vs H Q E->∃t,yw (s_ (u7 P w) P w K mg base N qual (iT st) f cdv A outer s H E) (lJ st) t/\t { nx:=λ_ H'=>Q .non H',rt:=Q } (L2.start N vs) H):FnOk P w K mg base (u7 P w) (k+1) f fd ps sp:=by
 o_rec;exact PK lk hcd S len λA outer s H vs Q E hr hsp=>hb cdv A outer s H vs Q E hr hsp
def fnX{x:Str}{st:aF}{f:ak}{N ps:am}{k:Nat}{m:Sm}(F:Fun K x qual st f fd)(Sc:FnScope N ps<|iT st)
  (body:∀(cdv:af) (A:aA) (outer:List Env) (s:aC) (H:Hp) (E:XK),Room k (A.deeper<|envOfC qual (iT st) s.heap.objs.size f cdv)->IP (s_ (u7 P w) P w K mg base N qual (iT st) f cdv A outer s H E) (lJ st) m) :
  FnOk P w K mg base (u7 P w) (k+1) f fd ps (A9 K ps.length<|jQ N m):=by
 refine Fun.YT F Sc (λvs H Q E h=>h.1) λcdv B outer s H vs Q E hr ⟨hl,ρ,S,as,R,va,q⟩=>⟨_,body cdv B outer s H E hr,ρ,S,_,R,Aj va N,?_⟩;unfold jQ at q
 cases hm:m (as++List.replicate (N.length-as.length) .unb) S with
 | rt b S2=>rw[hm]at q;exact q
 | nx τ S2=>rw[hm]at q;exact λρ' H' σ' e R' _=>q ρ' H' _ e R' .non
 | bk τ S2=>rw[hm]at q;exact q.elim
 | ct τ S2=>rw[hm]at q;exact q.elim
 | no=>rw[hm]at q;exact q.elim
 | ex c S2=>
  rw[hm]at q;intro C ρ' H' n e R';exact⟨rfl,λpins σ' s' ea I Ra=>Hu I rfl Ra<|q C ρ' H' n e R'⟩
end
abbrev t6 (P:aj)(w:ah)(K:au)(mg:Str->ba)(base:aq)(k:Nat)(x:Str)(ps:am)(F:ad->iN->R A):Prop:=
 ∃(f:ak) (fd:FuncData),FnOk P w K mg base (u7 P w) k f fd ps (A9 K ps.length F)/\mg x=some (.ref f)/\PySem.W.keepIn K (.ref f)=true/\Binds K fd ps []
abbrev nE (F:ad->iN->R A)(d:pQ):Ex:=λτ S=>(d τ S).bind λas S1=>F as S1
section
variable {X:Cx}{pos p:Pos}{e:aE}{es:List aE}{x:Str}{ps:am}{k:Nat}{F:ad->iN->R A}{d:pQ}
def oV(G:t6 X.prog X.w X.K X.mg X.base k x ps F)(hr:Room k X.A)(ha:AL X (e::es) d)(hl:∀τ S as S',d τ S=.ok as S'->as.length=ps.length)(hg:Gl X x:=by rfl)(hdb:(x == ("__debug__" : Str))=false:=by decide)
  (hs:starEach (e::es) X.env=(false,eval e X.env)::starEach es X.env:=by rfl) (hplain:(backTo pos<|starEach es X.env).any (·.1)=false:=by rfl):AE X (.Call (.Name x p) (e::es) [] pos) (nE F d):=by
 obtain⟨f,fd,Fo,hm,hk,hb⟩:=G;refine PE.imp (Gs Fo hr hg hm hk hb .nil (Ju (X:=X) rfl rfl) ha hdb hs hplain) λσ H Q h9=>?_;z_go;refine⟨ρ,S,τ,R,r,?_⟩;have hq:=iR h
 cases hd:d τ S with
 | no=>rw[hd]at hq;exact hq
 | ex c S1=>rw[hd]at hq;exact hq
 | ok as S1=>
  rw[hd]at hq;intro ρ1 H1 vs e1 R1 v1;rw[bK];refine⟨by rw[<- v1.length];exact hl τ S as S1 hd,ρ1,S1,as,R1,v1,p_ hq (λa S2 q ρ2 H2 v e2=>q ρ2 H2 v<|e1.trans e2) λc S2 q C ρ2 H2 n e2=>q C ρ2 H2 n<|e1.trans e2⟩
end
abbrev Qj:ap:=[.type "ValueError",.type "Exception",.type "BaseException",.type "object"]
def Qz{K:au}{mg:Str->ba}{base:aq}{x:Str}(M:Mod K mg base)(e:BY K x C)(q:PySem.W.excIn K C bmB newId=true):OwnCls x C bmB newId mg base:=by
 refine⟨cD M.kin M.glob e,?_⟩;unfold PySem.W.excIn at q;split at q
 ·rename_i dd cd sl ho;split at q
  ·rename_i C' bm k0 k1 k2 k3 nw k5 hm hs;rw[cR,cR,cR,cR,cR]at q;obtain⟨⟨⟨⟨⟨q1,q2⟩,q3⟩,q4⟩,q5⟩,q6⟩:=q;have q1:=gX.mp q1;have q2:=gX.mp q2;have q3:cd.hasDel=false:=by simpa using q3
   have q6:=gX.mp q6;subst q1 q2;obtain⟨nm,bs,mro,ns,qn,hd,sn,sub,ab,col,del⟩:=cd;have hm:mro=_:=hm;have q3:del=false:=q3;subst hm q3;obtain⟨sl⟩:=sl;have hs:sl=_:=hs;subst hs;exact⟨bm,ns,nm,qn,bs,hd,sn,sub,ab,col,dd,k0,k1,k2,k3,k5,_,M.kin _ _ ho,.of_isNs<|PySem.W.isNs_of_in M.kin q5,PySem.W.nsMap_none_of_in M.kin q5 q6,PySem.W.tail_of_in M.kin q4⟩
  ·cases q
 ·cases q
abbrev Jj:List (Str ⊕ Ex)->ad->iN->R Unit
 | [],_,S=>.ok Unit.unit S
 | .inl _::ps,τ,S=>Jj ps τ S
 | .inr e::ps,τ,S=>(e τ S).bind λv S1=>match v with
  | .int i=>gd (i.natAbs.log2<64) (Jj ps τ S1)
  | _=>.no
abbrev NQ:List (Str ⊕ Ex)->Bool
 | []=>true
 | .inl x::ps=>decide (x.length<=1000) && NQ ps
 | .inr _::ps=>NQ ps
abbrev uh (c:Str)(ps:List<|Str ⊕ Ex):Sm:=λτ S=>.of (Jj ps τ S) λ_ S1=>.ex c S1
abbrev Wv (X:Cx):List (Str ⊕ Ex)->List (Str ⊕ TE)
 | []=>[]
 | .inl x::ps=>.inl x::Wv X ps
 | .inr e::ps=>.inr (tE X e)::Wv X ps
section
variable {X:Cx}{pos np cpos fp:Pos}{x:Str}{C:ak}{e1 e2:aE}{es:List aE}{ps:List (Str ⊕ Ex)}
theorem uf{H0:Hp}{k:Hp->Prop}(c:Str)(hk:∀ρ H S,Ext ρ0 ρ H0 H->Rel X.K ρ H S->XE X ρ0 H0 c S->k H):∀(ps:List<|Str ⊕ Ex) (ρ:ar) (H:Hp) (S:iN),NQ ps=true->Ext ρ0 ρ H0 H->Rel X.K ρ H S->SR X.K ρ H τ σ ->
  (Jj ps τ S).post (λ_ S'=>XE X ρ0 H0 c S') (XE X ρ0 H0)->wF (Wv X ps) σ H k
 | [],ρ,H,S,_,e,R,r,h=>hk ρ H S e R h
 | .inl x::ps,ρ,H,S,ok,e,R,r,h=>by
  obtain⟨hx,ok⟩:=Bool.and_eq_true_iff.mp ok;exact⟨bS hx,uf c hk ps ρ H S ok e R r h⟩
 | .inr a::ps,ρ,H,S,ok,e,R,r,h=>by
  refine⟨ρ,S,τ,R,r,?_⟩;have h:=iR h;refine p_ h (λv S1 h1 ρ1 H1 u e1 R1 v1=>?_) λc' S' z=>z.ext e
  cases v with
  | int i=>
   obtain⟨hi,h1⟩:=ja h1
   cases v1
   exact⟨i,rfl,hi,uf c hk ps ρ1 H1 S1 ok (e.trans e1) R1 (r.ext e1) h1⟩
  | _=>exact h1.elim
def y9(hn:BY X.K x C)(hq:PySem.W.excIn X.K C Qj "ValueError.__new__" = true)(hh:X.A.handled=none)(hp:FParts X (e1::e2::es)<|Wv X ps)(hfs:NQ ps=true:=by rfl)(hg:Gl X x:=by rfl)(hl:2000 * (e1::e2::es).length<=sizeLine:=by decide)
  (hs:starEach [.JoinedStr (e1::e2::es) fp] X.env=(false,eval (.JoinedStr (e1::e2::es) fp) X.env)::starEach [] X.env:=by rfl) (hpl:(backTo cpos<|starEach [] X.env).any (·.1)=false:=by rfl) (hd:(x == ("__debug__" : Str))=false:=by decide) :
  AS X (.Raise (some<|.Call (.Name x np) [.JoinedStr (e1::e2::es) fp] [] cpos) none pos) (uh x ps):=by
 intro pins s σ H D I ⟨ρ,S,τ,R,r,h⟩;refine BK (Qz I.mod hn hq) gZ hh (kZ (Vv hp hl) qi hs) hg hs hpl hd pins s σ H D I ?_;refine uf (X:=X) (ρ0:=ρ) (H0:=H) x (λρ1 H1 S1 e1 R1 z y hy=>?_) ps ρ H S hfs .refl R r<|of_post h;exact⟨(show 1<=sizeLine by decide),z C ρ1 H1 hn e1 R1⟩
def Ik{j tp}(hn:BY X.K x C)(hq:PySem.W.excIn X.K C Qj "ValueError.__new__" = true)(hh:X.A.handled=none)(hg:Gl X x:=by rfl)
  (hs:starEach [.Constant (.str t) j tp] X.env=(false,eval (.Constant (.str t) j tp) X.env)::starEach [] X.env:=by rfl) (hpl:(backTo cpos<|starEach [] X.env).any (·.1)=false:=by rfl) (hd:(x == ("__debug__" : Str))=false:=by decide) :
  AS X (.Raise (some<|.Call (.Name x np) [.Constant (.str t) j tp] [] cpos) none pos) (uh x []):=by
 intro pins s σ H D I ⟨ρ,S,τ,R,r,h⟩;refine BK (Qz I.mod hn hq) gZ hh (kZ MZ qi hs) hg hs hpl hd pins s σ H D I ?_;exact⟨(show 1<=sizeLine by decide),h C ρ H hn .refl R⟩
end
abbrev IK (i:Nat):RS->RS
 | .nx τ S=>.nx (τ.set i .unb) S
 | .bk τ S=>.bk (τ.set i .unb) S
 | .ct τ S=>.ct (τ.set i .unb) S
 | .rt a S=>.rt a S
 | _=>.no
abbrev U8 (i n:Nat)(cs:am)(c d:Sm):Sm:=λτ S=>match c τ S with
 | .ex x S1=>if x∈cs then IK i (d ((List.replicate n .unb).set i<|.exn x) S1)else .no
 | r=>r
def SR.unset{K:au}{H:Hp}{τ:ad}{σ:L2.St}(s:SR K ρ H τ σ):SR K ρ H (τ.set i .unb) (σ.set i none):=by
 refine⟨by simp[s.len],λj b e=>?_⟩;by_cases hj:j=i
 ·subst hj;have hl:j<τ.length:=by
   have:=(aI.mp e).1;simpa using this
  rw[bI hl]at e
  cases e
  exact .inl rfl
 ·rw[bP<|cN hj]at e;rw[bP<|cN hj];exact s.at j b e
abbrev um (f:Str->bd)(c:Ex):Ex:=λτ S=>(c τ S).bind λv S1=>match v with
 | .exn x=>opt (f x) λb=>.ok (.bl b) S1
 | _=>.no
section
variable {X:Cx}{pos p py:Pos}{a:aE}{y:Str}{vy:V}{cy:af}{f:Str->bd}{c:Ex}
def Mz(ry:∀u,RelV vy u->u=cy)(hf:∀x b C,f x=some b->BY X.K x C->XCls X.K C/\(PySem.W.clsIn X.K C).isSome=true/\PySem.W.kitOne X.K (.ref C) cy=some b) :
  jw X (.builtin "isinstance") (λxs H Q=>∃ρ S x v b,Rel X.K ρ H S/\xs=[v,vy]/\AV X.K ρ H (.exn x) v/\f x=some b/\Q (.bl b) H):=by
 intro pins s σ H xs us Q I r ⟨ρ,S,x,v,b,R,exs,va,hb,q⟩;subst exs;obtain⟨u,w',rfl,r1,r2⟩:=vals2 r;have:=ry _ r2;subst this
 cases va with
 | exn n h xo=>
  obtain⟨g1,g2,g3⟩:=hf _ _ _ hb n
  cases(show u=Value.ref _ from r1)
  exact Dy g1 g2 I h xo g3 λtk=>⟨.bl b,H,I.tok tk,rfl,q⟩
def Kz(hy:PE X (.Name y py)<|tC vy)(ry:∀u,RelV vy u->u=cy)(hf:∀x b C,f x=some b->BY X.K x C->XCls X.K C/\(PySem.W.clsIn X.K C).isSome=true/\PySem.W.kitOne X.K (.ref C) cy=some b)(ha:AE X a c)(hm:X.mg "isinstance" = none)(hg:Gl X "isinstance" := by rfl)
  (he:starEach [a,.Name y py] X.env=(false,eval a X.env)::starEach [.Name y py] X.env:=by rfl) (he2:starEach [.Name y py] X.env=(false,eval (.Name y py) X.env)::starEach [] X.env:=by rfl) (hpl:(backTo pos<|starEach [.Name y py] X.env).any (·.1)=false:=by rfl) :
  AE X (.Call (.Name "isinstance" p) [a,.Name y py] [] pos) (um f c):=
 PE.imp (BL (Mz ry hf) hg hm pH (kZ ha (kZ hy qi he2) he) ⋯ ⋯ he hpl) λσ H Q h9=>by
  z_go;refine⟨ρ,S,τ,R,r,iM (iR h) .refl λv S1 h1 ρ1 H1 x e1 R1 v1=>?_⟩
  cases v with
  | exn n=>
   obtain⟨b,hb,h1⟩:=iY h1;exact⟨ρ1,S1,n,x,b,R1,rfl,v1,hb,h1 ρ1 H1 _ e1 R1<|.bl b⟩
  | _=>exact h1.elim
end
structure ExcK (K:au)(U:ak)(c:Str)(C:ak):Prop where
 n:BY K c C
 q:PySem.W.excIn K C Qj "ValueError.__new__" = true
 r:L2.mroIn K C=some (.ref U::Qj)
 x:XCls K C
 cl:(PySem.W.clsIn K C).isSome=true
 v:PySem.W.kitOne K (.ref C) (.type "ValueError")=some true
def yy:bootBuiltins "ValueError" = some (.type "ValueError"):=by decide +kernel
abbrev CS (tb:List<|Str×Bool):Str->bd:=λx=>tb.lookup x
def Ql{K:au}{tb:List<|Str×Bool}(h:∀p∈tb,∃C,BY K p.1 C/\XCls K C/\(PySem.W.clsIn K C).isSome=true/\PySem.W.kitOne K (.ref C) cy=some p.2):∀x b C,CS tb x=some b->BY K x C->XCls K C/\(PySem.W.clsIn K C).isSome=true/\PySem.W.kitOne K (.ref C) cy=some b:=λx b C e n=>by
 obtain⟨C',n',g⟩:=h (x,b)<|dm e;have:C'=C:=by
  have z:=n'.symm.trans n
  injection z with z
  injection z with z
  injection z
 subst this;exact g
section
variable {X:Cx}{pos p py:Pos}{a:aE}{y:Str}{Cy:ak}{tb:List (Str×Bool)}{c:Ex}
def rj(hm:X.mg y=some (.ref Cy))(h:∀p∈tb,∃C,BY X.K p.1 C/\XCls X.K C/\(PySem.W.clsIn X.K C).isSome=true/\PySem.W.kitOne X.K (.ref C) (.ref Cy)=some p.2)(ha:AE X a c)(hi:X.mg "isinstance" = none)(hg:Gl X "isinstance" := by rfl)(hgy:Gl X y:=by rfl)(hdb:(y == ("__debug__" : Str))=false:=by decide)
  (he:starEach [a,.Name y py] X.env=(false,eval a X.env)::starEach [.Name y py] X.env:=by rfl) (he2:starEach [.Name y py] X.env=(false,eval (.Name y py) X.env)::starEach [] X.env:=by rfl) (hpl:(backTo pos<|starEach [.Name y py] X.env).any (·.1)=false:=by rfl) :
  AE X (.Call (.Name "isinstance" p) [a,.Name y py] [] pos) (um (CS tb) c):=Kz (vy:=.ref Cy) (cy:=.ref Cy) (Gg hgy hm rfl hdb) (λu r=>r) (Ql h) ha hi hg he he2 hpl
def Rm(hm:X.mg "ValueError" = none)(h:∀p∈tb,∃C,BY X.K p.1 C/\XCls X.K C/\(PySem.W.clsIn X.K C).isSome=true/\PySem.W.kitOne X.K (.ref C) (.type "ValueError")=some p.2)(ha:AE X a c)(hi:X.mg "isinstance" = none)(hg:Gl X "isinstance" := by rfl)(hgy:Gl X "ValueError" := by rfl)
  (he:starEach [a,.Name "ValueError" py] X.env=(false,eval a X.env)::starEach [.Name "ValueError" py] X.env:=by rfl) (he2:starEach [.Name "ValueError" py] X.env=(false,eval (.Name "ValueError" py) X.env)::starEach [] X.env:=by rfl) (hpl:(backTo pos<|starEach [.Name "ValueError" py] X.env).any (·.1)=false:=by rfl) :
  AE X (.Call (.Name "isinstance" p) [a,.Name "ValueError" py] [] pos) (um (CS tb) c):=Kz (vy:=.ty "ValueError") (cy:=.type "ValueError") (EN hgy hm yy rfl ⋯ ⋯) (λu r=>r) (Ql h) ha hi hg he he2 hpl
end
section
variable {P:aj}{w:ah}{K:au}{mg:Str->ba}{base:aq}
def YH{x:Str}{st:aF}{f:ak}{N ps:am}{k:Nat}{m:Sm}(F:Fun K x qual st f fd)(Sc:FnScope N ps<|iT st)
  (body:∀(cdv:af) (A:aA) (outer:List Env) (s:aC) (H:Hp) (e:ak) (oe:Obj) (C:ak),yT k (A.deeper<|envOfC qual (iT st) s.heap.objs.size f cdv)->A.handled=some (.ref e)->H e=some (.frz oe xu)->XO C oe->IP (Wx P w K mg base N qual (iT st) f cdv A outer s H) (lJ st) m) :
  FnOkH P w K mg base (k+1) f fd ps (tZ K ps.length<|jQ N m):=by
 refine Tw F Sc (λvs H Q E h=>h.1) λcdv B outer s H vs Q e oe C hr hx ⟨hl,ρ,S,as,a,S',R,va,hF,q⟩=>⟨_,body cdv B outer s H e oe C hr hx.hh hx.h0 hx.xo,ρ,S,_,R,Aj va N,?_⟩;unfold jQ at hF
 cases hm:m (as++List.replicate (N.length-as.length) .unb) S with
 | rt b S2=>rw[hm]at hF;cases hF;exact q
 | nx τ S2=>rw[hm]at hF;cases hF;exact λρ' H' σ' e R' _=>q ρ' H' _ e R' .non
 | bk τ S2=>rw[hm]at hF;cases hF
 | ct τ S2=>rw[hm]at hF;cases hF
 | ex c S2=>rw[hm]at hF;cases hF
 | no=>rw[hm]at hF;cases hF
end
meta abbrev Uk (P:aj)(w:ah)(K:au)(mg:Str->ba)(base:aq)(k:Nat)(x:Str)(ps:am)(F:ad->iN->R A):Prop:=XW P w K mg base k x ps<|tZ K ps.length F
def LH{X:Cx}{p:Pos}{a:aE}{x:Str}{ps:am}{k:Nat}{F:ad->iN->R A}{d:pQ}{e:ak}(G:Uk X.prog X.w X.K X.mg X.base k x ps F)(hr:yT k X.A)(hh:X.A.handled=some (.ref e))(h0:X.H₀ e=some (.frz oe xu))(xo:XO C oe)(ha:AL X (a::es) d)(hl:∀τ S as S',d τ S=.ok as S'->as.length=ps.length)(hg:Gl X x:=by rfl)(hdb:(x == ("__debug__" : Str))=false:=by decide)
  (hs:starEach (a::es) X.env=(false,eval a X.env)::starEach es X.env:=by rfl) (hplain:(backTo pos<|starEach es X.env).any (·.1)=false:=by rfl):AE X (.Call (.Name x p) (a::es) [] pos) (eFn F d):=
 PE.imp (Tn G hr hh h0 xo ha hg hdb hs hplain) λσ H Q h9=>by
  z_go;refine⟨ρ,S,τ,R,r,?_⟩;have hq:=iR h
  cases hd:d τ S with
  | no=>rw[hd]at hq;exact hq
  | ex c S1=>rw[hd]at hq;exact hq
  | ok as S1=>
   rw[hd]at hq;intro ρ1 H1 vs e1 R1 v1;rw[bK];refine⟨by rw[<- v1.length];exact hl τ S as S1 hd,ρ1,S1,as,?_⟩;have hq:Am.R.post (match F as S1 with
    | .ok a S2=>.ok a S2
    | _=>.no) (uv X ρ H Q) (XE X ρ H):=hq
   cases hF:F as S1 with
   | ok a S2=>rw[hF]at hq;exact⟨a,S2,R1,v1,rfl,λρ2 H2 v e2=>hq ρ2 H2 v<|e1.trans e2⟩
   | ex c S2=>rw[hF]at hq;exact hq.elim
   | no=>rw[hF]at hq;exact hq.elim
abbrev XF (X:Cx)(σ:L2.St)(cls:af)(H':Hp):Prop:=X.ex=[]/\∀pins s' e,Inv X pins σ H' s'->uw X H' e cls s'->X.xe (.ref e) s'
abbrev VC (X:Cx)(σ:L2.St)(ρ:ar)(H:Hp):Str->iN->Prop:=λc S'=>∀(C:ak) (ρ':ar) (H':Hp),BY X.K c C->Ext ρ ρ' H H'->Rel X.K ρ' H' S'->XF X σ (.ref C) H'
abbrev Yw (X:Cx)(c:Ex):TE:=λσ H Q=>∃ρ S τ,Rel X.K ρ H S/\SR X.K ρ H τ σ/\(c τ S).post (uv X ρ H Q) (VC X σ ρ H)
abbrev Yq (X:Cx)(e:aE)(c:Ex):Prop:=PE X e<|Yw X c
abbrev Yz (X:Cx)(c:Sm):TS:=λD σ H=>∃ρ S τ,Rel X.K ρ H S/\SR X.K ρ H τ σ/\(c τ S).post (zk X ρ H D.nx) (uv X ρ H D.rt) (zk X ρ H D.bk) (zk X ρ H D.ct) (VC X σ ρ H)
abbrev X5 (X:Cx)(st:aF)(c:Sm):Prop:=PS X st<|Yz X c
abbrev Ho (F:ad->iN->R A)(d:pQ):Ex:=λτ S=>match d τ S with
 | .ok as S1=>F as S1
 | _=>.no
section
variable {X:Cx}{pos p:Pos}{e:aE}{es:List aE}{x:Str}{ps:am}{k:Nat}{F:ad->iN->R A}{d:pQ}
def JJ(G:t6 X.prog X.w X.K X.mg X.base k x ps F)(hr:Room k X.A)(ha:AL X (e::es) d)(hl:∀τ S as S',d τ S=.ok as S'->as.length=ps.length)(hg:Gl X x:=by rfl)(hdb:(x == ("__debug__" : Str))=false:=by decide)
  (hs:starEach (e::es) X.env=(false,eval e X.env)::starEach es X.env:=by rfl) (hplain:(backTo pos<|starEach es X.env).any (·.1)=false:=by rfl):Yq X (.Call (.Name x p) (e::es) [] pos) (Ho F d):=by
 obtain⟨f,fd,Fo,hm,hk,hb⟩:=G;intro pins s σ H Q I ⟨ρ,S,τ,R,r,h⟩;unfold Ho at h
 cases hd:d τ S with
 | no=>rw[hd]at h;exact h.elim
 | ex c S1=>rw[hd]at h;exact h.elim
 | ok as S1=>
  rw[hd]at h;have h:(F as S1).post (uv X ρ H Q) (VC X σ ρ H):=h;refine eg<|rQ I hg hm ?_ hdb;refine gP (h₀:=X.base) I.ok.mod.kin hk (j3 (ha pos pins s σ H (λvs H1=>A9 X.K ps.length F vs H1 Q λcls _ H'=>XF X σ cls H') I ⟨ρ,S,τ,R,r,?_⟩) λus s1 ⟨vs,H1,I1,rv,q⟩=>⟨I1.uZ,?_⟩) hs hplain
  ·rw[hd];intro ρ1 H1 vs e1 R1 v1;exact⟨by rw[<- v1.length];exact hl τ S as S1 hd,ρ1,S1,as,R1,v1,p_ h (λa S2 q ρ2 H2 v e2=>q ρ2 H2 v<|e1.trans e2) λc S2 q C ρ2 H2 n e2=>q C ρ2 H2 n<|e1.trans e2⟩
  ·have hl2:us.length=ps.length:=by rw[<- rv.length];exact q.1
   refine gO (e_ (Fo.run X.A X.stack s1 H1 ⟨us,[]⟩ us vs Q (λcls _ H'=>XF X σ cls H') hr I1.SW (by have:=hb s1 us I1.uZ (by rw[bK];exact hl2);rwa [bK]at this) rv q) λr s' hq=>?_)
   cases r with
   | error ev=>
    obtain⟨ea,cls,H',he,os,bare,un,hok,⟨B,a0,Fl,c1,c2,_,k0⟩,hE⟩:=hq;subst he;obtain⟨hh,g,dd,t,os'⟩:=s';obtain rfl:os'=s1.os:=os;refine hE.2 pins _ ea (I1.call (h':=hh) (g':=g) (d':=dd) (t':=t) (ch:=[]) un hok bare λb z=>absurd z<|by simp) (.inr ⟨B,a0,Fl,c1,λb o q hb=>?_,λp hp=>?_,k0⟩)
    ·obtain⟨o',q'⟩:=I1.base.there b o q (by rw[hE.1];simp);exact c2 b o' q' hb
    ·obtain⟨q,_,n1,n2,_⟩:=I1.pin p<|bR _ hp;exact c2 p.1 _ q λz=>(bB.mp<|I1.uG _ z).elim n1 n2
   | ok fl=>
    cases fl with
    | ret u=>exact I1.after hq
    | next=>exact hq.elim
    | brk=>exact hq.elim
    | cont=>exact hq.elim
def BH{f:Ex}(he:Yq X e f)(hs:swapsWith e none pos.line X.env=pure false:=by rfl):X5 X (.Expr e pos) (qf f):=PS.imp (Gh he hs) λD σ H ⟨ρ,S,τ,R,r,h⟩=>
 ⟨ρ,S,τ,R,r,p_ (of_post h) (λa S1 h1 ρ1 H1 x e1 R1 v1=>h1 ρ1 H1 σ e1 R1<|r.ext e1) λ_ _ z=>z⟩
abbrev VM (t:Te)(c d:Sm):Sm:=λτ S=>match t τ S with
 | .ok true S1=>c τ S1
 | .ok false S1=>d τ S1
 | _=>.no
end
abbrev xU (i:Nat)(cs:am)(c d:Sm):Sm:=λτ S=>match c τ S with
 | .ex x S1=>if x∈cs then IK i (d (τ.set i<|.exn x) S1)else .no
 | r=>r
section
variable {X:Cx}{pos np hp:Pos}{y n:Str}{Dc:ak}{i:Nat}{suite:List aF}{b b0:aF}{c d:Sm}{cs:am}
def EK(hb:∀pn' xe',X5 (X.sU pn' xe') b c)(hh:∀pn' e oe C,XO C oe->IP (X.hand pn' e oe) (b0::suite) d)(hN:X.N.Nodup)(hD:BY X.K y Dc)(mD:L2.mroIn X.K Dc=some Qj)(hcs:∀x∈cs,∃C,BY X.K x C/\L2.mroIn X.K C=some (.ref Dc::Qj))
  (hi:X.N[i]?=some n:=by rfl) (hlo:X.env.scope.names.lookup n=some .local:=by rfl) (hst:X.stack=X.env::X.outer:=by rfl) (hf:X.env.frame=some X.env.locals:=by rfl) (hex:X.ex=[]:=by rfl) (hg:Gl X y:=by rfl) (hdb:(y == ("__debug__" : Str))=false:=by decide) :
  AS X (.Try [b] [.ExceptHandler (some<|.Name y np) (some n) (b0::suite) hp] [] [] pos) (xU i cs c d):=by
 intro pins s σ H D I ⟨ρ,S,τ,R,r,h⟩;refine wpAny_Try_except ?_;have h:yk X ρ H D (xU i cs c d τ S):=h;unfold xU at h;have hgo:∀xe',(∀x S1,c τ S=.ex x S1->VC (X.sU (X.pn++pins) xe') σ ρ H x S1)->(c τ S).post (zk (X.sU (X.pn++pins) xe') ρ H D.nx) (uv (X.sU (X.pn++pins) xe') ρ H D.rt) (zk (X.sU (X.pn++pins) xe') ρ H D.bk) (zk (X.sU (X.pn++pins) xe') ρ H D.ct) (VC (X.sU (X.pn++pins) xe') σ ρ H):=λxe' hx=>by
  cases hc:c τ S with
  | nx τ' S'=>rw[hc]at h;exact h
  | rt a S'=>rw[hc]at h;exact h
  | bk τ' S'=>rw[hc]at h;exact h
  | ct τ' S'=>rw[hc]at h;exact h
  | no=>rw[hc]at h;exact h
  | ex x S1=>exact hx x S1 hc
 refine cJ (GK (hb (X.pn++pins) _) [] s σ H D (I.sU _) ⟨ρ,S,τ,R,r,hgo _ λx S1 hc C ρ1 H1 hn e1 R1=>?_⟩) (λf s1 hs=>?_) λe s1 z=>z
 ·refine⟨hex,λpins' s' e I' R'=>?_⟩;rw[hc]at h;have h:yk X ρ H D (if x∈cs then IK i (d (τ.set i<|.exn x) S1)else .no):=h;by_cases hx:x∈cs
  ·rw[aJ hx]at h;obtain⟨C',hn',mC⟩:=hcs x hx;have:C'=C:=by
    have z:=hn'.symm.trans hn
    injection z with z
    injection z with z
    injection z
   subst this;have hm:X.mg y=some (.ref Dc):=cD I.mod.kin I.mod.glob hD;refine JX hst hf hex hN hi hlo hg hm mD ⋯ I' R' mC (by simp) (λoe s6 xo hn0 I6=>?_) I.ok hdb;obtain⟨ex,Rn⟩:=R1.im (u:=.frz oe xu) hn0;have e2:=e1.trans ex;refine hh (X.pn++pins) e oe C' xo [] s6 _ _ (WN i D) I6 ⟨ρ1,S1,τ.set i<|.exn x,Rn,SR.set (r.ext e2)<|.exn hn' ji xo,?_⟩
   cases hd:d (τ.set i<|.exn x) S1 with
   | nx τ' S'=>rw[hd]at h;exact λρ' H' σ' e' R' r'=>h ρ' H' _ (e2.trans e') R' r'.unset
   | bk τ' S'=>rw[hd]at h;exact λρ' H' σ' e' R' r'=>h ρ' H' _ (e2.trans e') R' r'.unset
   | ct τ' S'=>rw[hd]at h;exact λρ' H' σ' e' R' r'=>h ρ' H' _ (e2.trans e') R' r'.unset
   | rt a S'=>rw[hd]at h;exact λρ' H' v e' R' r'=>h ρ' H' v (e2.trans e') R' r'
   | ex _ _=>rw[hd]at h;exact h.elim
   | no=>rw[hd]at h;exact h.elim
  ·rw[aK hx]at h;exact h.elim
 ·cases f with
  | next=>obtain⟨σ',H',J,q⟩:=hs;exact fD ⟨σ',H',J.F8,q⟩
  | brk=>obtain⟨σ',H',J,q⟩:=hs;exact⟨σ',H',J.F8,q⟩
  | cont=>obtain⟨σ',H',J,q⟩:=hs;exact⟨σ',H',J.F8,q⟩
  | ret u=>obtain⟨v,σ',H',J,rv,q⟩:=hs;exact⟨v,σ',H',J.F8,rv,q⟩
end
end Am
namespace L2
open PySem PySem.Spec PyProof.Rows
abbrev HX (e:ak)(oe:Obj)(Y:Cx):Prop:=Y.A.handled=some (.ref e)/\Y.H₀ e=some (.frz oe xu)
def DQ{P:aj}{w:ah}{K:au}{e:ak}(ho:XO C oe)(a it:ak):TurnG (HX e oe) P w K tg (U0 K a) [it] it (λi h=>h.IsListIter it a i) where
 obj:=(uI (P:=P) (w:=w) (K:=K) (tg:=tg) a it).obj
 keep:=(uI (P:=P) (w:=w) (K:=K) (tg:=tg) a it).keep
 item:=by
  w_up;subst hP hw hK;obtain⟨xs,x,hq,hx⟩:=hg;obtain⟨its,rv,p,hz⟩:=I.list hq;obtain⟨u,hu,ru⟩:=rv.get hx;k_ne;refine wpAny_pyNext_list_item st p.isList (x:=u) (by simpa using hu) λh' st' sb=>?_;have I1:Inv X pins σ H { s with heap:=h' }:=I.turned (t':=s.toks) (λb o hb e=>(sb.2 b hb).trans e) f0 f1 f3 f4 f5;obtain⟨o,e,c,d⟩:=id st';exact⟨u,rfl,B0 (s:={ s with heap:=h' }) e c d ⋯ ⟨x,H,I1,ru,⟨rfl,λys hy=>by rw[I.xG hy hq];exact hx⟩,st',λb hb=>(hf b hb).1⟩⟩
 done:=by
  w_up;subst hP hw hK;obtain⟨xs,hq,hx⟩:=hg;obtain⟨its,rv,p,hz⟩:=I.list hq;k_ne;obtain⟨vs,d1,d2⟩:=ho.ctx;have fe:=I.base.frzs e oe xu hc.2;obtain⟨ge,_⟩:=I.hok e _ fe;have hl:=rv.length;exact DG hc.1 ge d1 d2 (λz=>by rw[z,f0]at fe;cases fe) st p.isList (by simp;lia) λh' eb=>⟨rfl,I.turned (t':=s.toks) (λb o hb e=>eb b o hb e) f0 f1 f3 f4 f5⟩
 self:=λ_ _ _ _ _ st h=>wpAny_pyIter_listiter st h
def A_{X:Cx}{e:ak}(ho:XO C oe){tl:TE}(hl:PE X l tl):Vy (HX e oe) X tg l (Qp X.K tl):=by
 intro pins s σ H R I h;refine j3 (hl pins s σ H _ I h) λv s1 h9=>?_;obtain⟨x,H1,I1,r1,q1⟩:=h9;obtain⟨a,e,⟨xs,hq⟩,q⟩:=q1;subst e
 cases r1
 obtain⟨its,rv,p,hz⟩:=I1.list hq;refine g_ p.isList ?_;refine⟨s1.heap.objs.size,[s1.heap.objs.size],_,_,H1,rfl,I1.kept (t':=s1.toks) λb o e=>aP _ e,DQ ho a _,⟨_,bD _ rfl,rfl,rfl⟩,λb hb=>?_,q⟩;have e:b=s1.heap.objs.size:=by simpa using hb
 subst e;kl_no
end L2
namespace Am
open PySem PySem.Spec PyProof.Rows L2
abbrev zw (c:Ex):Ic:=λτ S=>(c τ S).bind λa S1=>match a with
 | .ref n=>opt (iL S1 n) λxs=>.ok (mR n xs.length) S1
 | _=>.no
def Nv{X:Cx}{e:ak}(ho:XO C oe){c:Ex}(he:AE X l c):Vy (HX e oe) X tg l (tI X<|zw c):=λpins s σ H Q I h9=>by
 z_go;have hb:=iR h
 cases hc:c τ S with
 | no=>rw[hc]at hb;exact hb.elim
 | ex x S1=>
  rw[hc]at hb;exact A_ ho he pins s σ H Q I ⟨ρ,S,τ,R,r,by rw[hc];exact hb⟩
 | ok a S1=>
  rw[hc]at hb
  cases a with
  | ref n=>
   obtain⟨xs,hn,hb⟩:=iY hb;refine A_ ho he pins s σ H Q I ⟨ρ,S,τ,R,r,?_⟩;rw[hc];intro ρ1 H1 x e1 R1 v1
   cases v1 with
   | ref hp=>
    obtain⟨vs,h1,r1⟩:=R1.lst hp<|i6 hn;exact⟨_,rfl,⟨_,mP.of h1⟩,hb ρ1 H1 _ e1 R1<|Ky hp⟩
  | _=>exact hb.elim
def KL{X:Cx}{iter:aE}{N:am}{g:Tg}{t:Te}{c ci:Ex}{e:ak}(hh:X.A.handled=some (.ref e))(h0:X.H₀ e=some (.frz oe xu))(ho:XO C oe)
  (Sc:CpScope X scope N cap) (hi:AE X iter ci) (hg:∀C s₀ H₀ ex,AG (jK X scope N C s₀ H₀ ex) tg g) (ht:∀C s₀ H₀ ex,Rt (jK X scope N C s₀ H₀ ex) ifs t) (he:∀C s₀ H₀ ex,AE (jK X scope N C s₀ H₀ ex) elt c)
  (hs:∀x,foldedSetIterable iter X.env x=pure x:=by intro _;rfl):AE X (.ListComp elt [⟨tg,iter,ifs,0⟩] scope pos) (lY cap (zw ci) g t c):=
 PE.imp (K_ Sc (λ_ _ _ _ hk=>⟨hh,hk e oe xu h0⟩) (Nv ho hi) (g:=T_ X.K g) (tc:=P0 X.K t) (te:=Uz X.K c) (λC s₀ H₀ ex=>(hg C s₀ H₀ ex).g0 rfl) (λC s₀ H₀ ex=>ht C s₀ H₀ ex) (λC s₀ H₀ ex=>(he C s₀ H₀ ex).e0 rfl) hs) w_
abbrev Yg:Sm:=λ_ _=>.no
def UO{X:Cx}{st:aF}:AS X st Yg:=PS.imp Lz λD σ H ⟨ρ,S,τ,R,r,h⟩=>h.elim
def Ir{K:au}{H:Hp}{a:ak}{ns:ae}{F:ad->iN->R A}(hO:NU H)(hS:mP K H a<|ns.map V.int)(h:∃S',F [.frz<|ns.map .int] []=.ok (.bl true) S'):tZ K 1 F [.ref a] H (λv _=>v=.bl true) λ_ _ _=>False:=by
 obtain⟨S',h⟩:=h;have fz:Fz K H a (ns.map V.int):=by
  rcases hS with(h|⟨o,h⟩)|h
  ·rcases hO a with z|⟨ob,xs,z⟩
   ·rw[h]at z;cases z
   ·rw[h]at z;cases z
  ·exact .inl ⟨o,h⟩
  ·exact .inr h
 exact⟨rfl,[],[],_,_,S',⟨rfl,eZ,λn a o h=>by simp at h⟩,.cons (.frz fz<|qY ns) .nil,h,λρ' H' v _ _ hv=>Bf hv⟩
section
variable {P:aj}{w:ah}{K:au}{mg:Str->ba}{base:aq}{f:ak}{fd:FuncData}{ps:am}{k n:Nat}
def R0(h:n=ps.length):FnOk P w K mg base (u7 P w) k f fd ps (A9 K n λ_ _=>.no):=
 ⟨λ_ _ _ _ z=>z.1.trans h,λ_ _ _ _ _ _ _ _ _ _ _ _ _ z=>by obtain⟨_,_,_,_,_,_,e⟩:=z;exact e.elim⟩
end
def Uc{P:ap->Prop}(h:∀a0,P [a0]):∀us:ap,us.length=1->P us
 | [_],_=>h _
def Dh{P:ap->Prop}(h:∀a0 a1,P [a0,a1]):∀us:ap,us.length=2->P us
 | [_,_],_=>h _ _
def BX{n:Nat}{us:ap}(h:us.length=n+1):∃a t,us=a::t/\t.length=n:=by
 cases us with
 | nil=>simp at h
 | cons a t=>exact⟨a,t,rfl,by simpa using h⟩
def Vh{P:ap->Prop}(h:∀a0 a1 a2,P [a0,a1,a2]):∀us:ap,us.length=3->P us:=λus e=>by
 obtain⟨a0,t0,rfl,e0⟩:=BX e;obtain⟨a1,t1,rfl,e1⟩:=BX e0;obtain⟨a2,t2,rfl,e2⟩:=BX e1
 cases d8.mp e2
 exact h _ _ _
def YJ{P:ap->Prop}(h:∀a0 a1 a2 a3 a4,P [a0,a1,a2,a3,a4]):∀us:ap,us.length=5->P us:=λus e=>by
 obtain⟨a0,t0,rfl,e0⟩:=BX e;obtain⟨a1,t1,rfl,e1⟩:=BX e0;obtain⟨a2,t2,rfl,e2⟩:=BX e1;obtain⟨a3,t3,rfl,e3⟩:=BX e2;obtain⟨a4,t4,rfl,e4⟩:=BX e3
 cases d8.mp e4
 exact h _ _ _ _ _
end Am
namespace Am
open PySem L2
section
variable {α β:Type}{a b:A}{S S1:iN}{τ:ad}{x:α}
@[simp]def R.oH {f:α->iN->R β}:(R.ok x S).bind f=f x S:=rfl
@[simp]def R.Gy {f:α->iN->R β}{c:Str}:(R.ex c S:R α).bind f=.ex c S:=rfl
@[simp]def R.mS {f:α->iN->R β}:(R.ok x S).mG f=f x S:=rfl
@[simp]def RS.of_ok {f:α->iN->RS}:RS.of (R.ok x S) f=f x S:=rfl
@[simp]def RS.QN {f:α->iN->RS}{c:Str}:RS.of (R.ex c S:R α) f=.ex c S:=rfl
@[simp]def jv {f:β->R α}{y:β}:opt (some y) f=f y:=rfl
@[simp]def EW {r:R α}:gd True r=r:=aJ trivial
theorem jO{c:Prop}[Decidable c]{r:R α}(h:c):gd c r=r:=aJ h
@[simp]def Gj {i:Nat}:iK i τ S=bif (τ.getD i .unb).mz then .no else .ok (τ.getD i .unb) S:=by unfold iK;cases(τ.getD i .unb).mz<;>rfl
@[simp]def Hh {xs:ad}:A.mz (.tup xs)=false:=rfl
@[simp]def G4 {xs:ad}:A.mz (.frz xs)=false:=rfl
@[simp]def G9 {i:Int}:A.mz (.int i)=false:=rfl
@[simp]def Jl {i:Bool}:A.mz (.bl i)=false:=rfl
@[simp]def FN {i:Str}:A.mz (.str i)=false:=rfl
@[simp]def E_ {i:Nat}:A.mz (.ref i)=false:=rfl
@[simp]def Et:A.mz .non=false:=rfl
@[simp]def Fe {i j:Int}:A.mz (.rng i j)=false:=rfl
@[simp]def Ga {c:Str}:A.mz (.exn c)=false:=rfl
@[simp]def Qc:eC a τ S=.ok a S:=rfl
abbrev UU (f:A->A->iN->R A)(cb:Ex)(τ:ad)(a:A)(S:iN):R A:=(cb τ S).bind<|f a
@[simp]def Fc {f:A->A->iN->R A}{cb:Ex}:UU f cb τ a S=(cb τ S).bind (f a):=rfl
@[simp]def ES {f:A->A->iN->R A}{ca cb:Ex}:iU f ca cb τ S=(ca τ S).bind (UU f cb τ):=rfl
@[simp]def Ks {f:A->iN->R A}{ca:Ex}:SA f ca τ S=(ca τ S).bind f:=rfl
@[simp]def El {c:Ex}:zV c τ S=(c τ S).bind λa S1=>opt (a.VI S1) λb=>.ok b S1:=rfl
abbrev aB (a:A)(S:iN):R Bool:=match a with
 | .bl b=>.ok b S
 | _=>.no
@[simp]def QA {b:Bool}:aB (.bl b) S=.ok b S:=rfl
@[simp]def JH {c:Ex}:qS c τ S=(c τ S).bind aB:=rfl
@[simp]def GU {c:Te}:Bq c τ S=(c τ S).bind λb S1=>.ok (!b) S1:=rfl
abbrev S0 (d:Te)(τ:ad)(b:Bool)(S:iN):R Bool:=match b with|true=>d τ S|false=>.ok false S
abbrev W2 (d:Te)(τ:ad)(b:Bool)(S:iN):R Bool:=match b with|true=>.ok true S|false=>d τ S
@[simp]def Ko {d:Te}:S0 d τ true S=d τ S:=rfl
@[simp]def IU {d:Te}:S0 d τ false S=.ok false S:=rfl
@[simp]def P9 {d:Te}:W2 d τ true S=.ok true S:=rfl
@[simp]def QD {d:Te}:W2 d τ false S=d τ S:=rfl
@[simp]def Ez {c d:Te}:Ny c d τ S=(c τ S).bind (S0 d τ):=rfl
@[simp]def K4 {c d:Te}:NF c d τ S=(c τ S).bind (W2 d τ):=rfl
@[simp]def FF:A6 τ S=.ok true S:=rfl
abbrev Mi (d:Ex)(τ:ad)(a:A)(S:iN):R A:=match a with | .bl true=>d τ S | .bl false=>.ok (.bl false) S|_=>.no
abbrev Sj (d:Ex)(τ:ad)(a:A)(S:iN):R A:=match a with | .bl true=>.ok (.bl true) S | .bl false=>d τ S|_=>.no
@[simp]def Gf {d:Ex}:Mi d τ (.bl true) S=d τ S:=rfl
@[simp]def Gz {d:Ex}:Mi d τ (.bl false) S=.ok (.bl false) S:=rfl
@[simp]def MY {d:Ex}:Sj d τ (.bl true) S=.ok (.bl true) S:=rfl
@[simp]def J0 {d:Ex}:Sj d τ (.bl false) S=d τ S:=rfl
@[simp]def E5 {c d:Ex}:IC c d τ S=(c τ S).bind (Mi d τ):=by
 unfold IC
 cases c τ S with
 | ok a S1=>cases a<;>first|rfl|(rename_i b;cases b<;>rfl)
 | _=>rfl
@[simp]def JN {c d:Ex}:X3 c d τ S=(c τ S).bind (Sj d τ):=by
 unfold X3
 cases c τ S with
 | ok a S1=>cases a<;>first|rfl|(rename_i b;cases b<;>rfl)
 | _=>rfl
abbrev QT (a:A)(S:iN):R A:=match a with | .bl b=>.ok (.bl !b) S|_=>.no
@[simp]def CL {b:Bool}:QT (.bl b) S=.ok (.bl !b) S:=rfl
@[simp]def GD {c:Ex}:QY c τ S=(c τ S).bind QT:=rfl
abbrev Sl (c d:Ex)(τ:ad)(b:Bool)(S:iN):R A:=match b with|true=>c τ S|false=>d τ S
@[simp]def JM {c d:Ex}:Sl c d τ true S=c τ S:=rfl
@[simp]def M7 {c d:Ex}:Sl c d τ false S=d τ S:=rfl
@[simp]def MB {t:Te}{c d:Ex}:YN t c d τ S=(t τ S).bind (Sl c d τ):=rfl
@[simp]def EU:iW τ S=.ok [] S:=rfl
abbrev DN (a:A)(as:ad)(S:iN):R (ad):=.ok (a::as) S
abbrev Qf (d:pQ)(τ:ad)(a:A)(S:iN):R (ad):=(d τ S).bind<|DN a
@[simp]def yH {as:ad}:DN a as S=.ok (a::as) S:=rfl
@[simp]def CK {d:pQ}:Qf d τ a S=(d τ S).bind (DN a):=rfl
@[simp]def CP {c:Ex}{d:pQ}:iI c d τ S=(c τ S).bind (Qf d τ):=rfl
@[simp]def Gp {d:pQ}:qj d τ S=(d τ S).bind λas S1=>gd (as.length<=sizeLine) (.ok (.tup as) S1):=rfl
@[simp]def G5 {d:pQ}:nJ d τ S=(d τ S).bind newL:=rfl
theorem kK{as:ad}(h:as.length<=16777216):newL as S=.ok (.ref S.length) (S++[.lst as]):=jO<|by rw[cH];exact h
@[simp]def Bc {f:ad->iN->R A}{d:pQ}:jk f d τ S=(d τ S).bind f:=rfl
abbrev Xn (r:R A):R A:=match r with
 | .ok a S=>.ok a S
 | _=>.no
@[simp]def M8:Xn (.ok a S)=.ok a S:=rfl
abbrev X0 (f:ad->iN->R A)(as:ad)(S:iN):R A:=Xn<|f as S
@[simp]def Jt {f:ad->iN->R A}{as:ad}:X0 f as S=Xn (f as S):=rfl
@[simp]def JS {f:ad->iN->R A}{d:pQ}:eFn f d τ S=(d τ S).bind (X0 f):=rfl
@[simp]def Qo {g:A->iN->R A}:f1 g [a] S=g a S:=rfl
@[simp]def Qq {g:A->A->iN->R A}:f2 g [a,b] S=g a b S:=rfl
abbrev RE (h:Pt)(τ:ad)(a:A)(l:Option Int)(S:iN):R A:=(h τ S).bind<|Ws a l
abbrev Yc (l h:Pt)(τ:ad)(a:A)(S:iN):R A:=(l τ S).bind<|RE h τ a
@[simp]def Gx {h:Pt}{l:Option Int}:RE h τ a l S=(h τ S).bind (Ws a l):=rfl
@[simp]def MU {l h:Pt}:Yc l h τ a S=(l τ S).bind (RE h τ a):=rfl
@[simp]def Kh {c:Ex}{l h:Pt}:YO c l h τ S=(c τ S).bind (Yc l h τ):=rfl
@[simp]def Cm:Vz τ S=.ok none S:=rfl
abbrev Yh (a:A)(S:iN):R (Option Int):=match a with
 | .int i=>.ok (some i) S
 | _=>.no
@[simp]def G1 {i:Int}:Yh (.int i) S=.ok (some i) S:=rfl
@[simp]def CH {c:Ex}:Vr c τ S=(c τ S).bind Yh:=rfl
abbrev TX (f:A->ad->iN->R A)(d:pQ)(τ:ad)(o:A)(S:iN)(_:ad):R A:=(d τ S).bind<|f o
abbrev X8 (f:A->ad->iN->R A)(d:pQ)(τ:ad)(o:A)(S:iN):R A:=opt (o.lst? S)<|TX f d τ o S
@[simp]def Ep {f:A->ad->iN->R A}{d:pQ}{xs:ad}:TX f d τ a S xs=(d τ S).bind (f a):=rfl
@[simp]def L7 {f:A->ad->iN->R A}{d:pQ}:X8 f d τ a S=opt (a.lst? S) (TX f d τ a S):=rfl
@[simp]def Nd {f:A->ad->iN->R A}{c:Ex}{d:pQ}:UB f c d τ S=(c τ S).bind (X8 f d τ):=rfl
@[simp]def GH {f:A->ad->iN->R A}{c:Ex}:XQ f c τ S=(c τ S).bind λo S1=>opt (o.lst? S1) λ_=>f o [] S1:=rfl
@[simp]def lst?_ref {n:Nat}:A.lst? S (.ref n)=iL S n:=rfl
abbrev RS.seq (r:RS)(d:Sm):RS:=match r with
 | .nx τ S=>d τ S
 | r=>r
@[simp]def RS.I0 {d:Sm}:RS.seq (.nx τ S) d=d τ S:=rfl
@[simp]def RS.Jb {d:Sm}:RS.seq (.rt a S) d=.rt a S:=rfl
@[simp]def RS.KC {d:Sm}{c:Str}:RS.seq (.ex c S) d=.ex c S:=rfl
@[simp]def RS.J7 {d:Sm}:RS.seq (.bk τ S) d=.bk τ S:=rfl
@[simp]def RS.KJ {d:Sm}:RS.seq (.ct τ S) d=.ct τ S:=rfl
@[simp]def F_ {c d:Sm}:jl c d τ S=RS.seq (c τ S) d:=by unfold jl RS.seq;cases c τ S<;>rfl
@[simp]def Ge:qd τ S=.nx τ S:=rfl
@[simp]def zb:Tt τ S=.bk τ S:=rfl
@[simp]def Bj:U_ τ S=.ct τ S:=rfl
@[simp]def CN {e:Ex}:qf e τ S=RS.of (e τ S) λ_ S1=>.nx τ S1:=rfl
@[simp]def GI {e:Ex}:ku e τ S=RS.of (e τ S) .rt:=rfl
@[simp]def Cf:MD τ S=.rt .non S:=rfl
abbrev WB (c d:Sm)(τ:ad)(b:Bool)(S:iN):RS:=match b with|true=>c τ S|false=>d τ S
@[simp]def PX {c d:Sm}:WB c d τ true S=c τ S:=rfl
@[simp]def QJ {c d:Sm}:WB c d τ false S=d τ S:=rfl
@[simp]def Nc {t:Te}{c d:Sm}:yl t c d τ S=RS.of (t τ S) (WB c d τ):=rfl
abbrev V8 (g:Tg)(τ:ad)(a:A)(S:iN):RS:=RS.of (g a τ S) .nx
@[simp]def ET {g:Tg}:V8 g τ a S=RS.of (g a τ S) .nx:=rfl
@[simp]def Eg {e:Ex}{g:Tg}:jC e g τ S=RS.of (e τ S) (V8 g τ):=rfl
@[simp]def Ln {i:Nat}:jW i a τ S=.ok (τ.set i a) S:=rfl
abbrev SK (a o:A)(τ:ad)(i:A)(S:iN):R (ad):=(Cz o i a S).bind λ_ S3=>.ok τ S3
abbrev X9 (ci:Ex)(τ:ad)(a o:A)(S:iN):R (ad):=(ci τ S).bind<|SK a o τ
@[simp]def FQ {o i:A}:SK a o τ i S=(Cz o i a S).bind λ_ S3=>.ok τ S3:=rfl
@[simp]def IZ {ci:Ex}{o:A}:X9 ci τ a o S=(ci τ S).bind (SK a o τ):=rfl
@[simp]def M5 {co ci:Ex}:Qw co ci a τ S=(co τ S).bind (X9 ci τ a):=rfl
@[simp]def LR {n:Nat}{gs:Nh}{xs:ad}:Ed n gs (.tup xs) τ S=gd (xs.length=n) (gs xs τ S):=rfl
@[simp]def Lc:EY [] τ S=.ok τ S:=rfl
@[simp]def KY {g:Tg}{gs:Nh}{as:ad}:uP g gs (a::as) τ S=(g a τ S).bind (gs as):=rfl
abbrev XZ (i j:Nat)(τ:ad)(as:ad)(S:iN):RS:=match as with
 | [a,b]=>.nx ((τ.set i a).set j b) S
 | _=>.no
@[simp]def M6 {i j:Nat}:XZ i j τ [a,b] S=.nx ((τ.set i a).set j b) S:=rfl
@[simp]def E6 {i j:Nat}{c:pQ}:Xe i j c τ S=RS.of (c τ S) (XZ i j τ):=rfl
abbrev KG (i:Nat)(τ:ad)(c:A)(S:iN):RS:=.nx (τ.set i c) S
abbrev VV (i:Nat)(f:A->A->iN->R A)(τ:ad)(b:A)(S:iN):RS:=.of (f (τ.getD i .unb) b S)<|KG i τ
@[simp]def Bk {i:Nat}:KG i τ a S=.nx (τ.set i a) S:=rfl
@[simp]def GB {i:Nat}{f:A->A->iN->R A}:VV i f τ a S=.of (f (τ.getD i .unb) a S) (KG i τ):=rfl
@[simp]def FU {i:Nat}{f:A->A->iN->R A}{e:Ex}:M9 i f e τ S=bif (τ.getD i .unb).mz then .no else .of (e τ S) (VV i f τ):=by
 unfold M9;cases(τ.getD i .unb).mz<;>rfl
abbrev W4 (o i:A)(τ:ad)(z:A)(S:iN):RS:=.of (Cz o i z S) λ_ S6=>.nx τ S6
abbrev Xk (f:A->A->iN->R A)(o i x:A)(τ:ad)(y:A)(S:iN):RS:=.of (f x y S)<|W4 o i τ
abbrev WO (ce:Ex)(f:A->A->iN->R A)(o i:A)(τ:ad)(x:A)(S:iN):RS:=.of (ce τ S)<|Xk f o i x τ
abbrev W9 (ce:Ex)(f:A->A->iN->R A)(o:A)(τ:ad)(i:A)(S:iN):RS:=.of (Lr o i S)<|WO ce f o i τ
abbrev Yj (ci ce:Ex)(f:A->A->iN->R A)(τ:ad)(o:A)(S:iN):RS:=.of (ci τ S)<|W9 ce f o τ
@[simp]def MC {o i:A}:W4 o i τ a S=.of (Cz o i a S) λ_ S6=>.nx τ S6:=rfl
@[simp]def KW {f:A->A->iN->R A}{o i x:A}:Xk f o i x τ a S=.of (f x a S) (W4 o i τ):=rfl
@[simp]def Mp {ce:Ex}{f:A->A->iN->R A}{o i:A}:WO ce f o i τ a S=.of (ce τ S) (Xk f o i a τ):=rfl
@[simp]def Jo {ce:Ex}{f:A->A->iN->R A}{o:A}:W9 ce f o τ a S=.of (Lr o a S) (WO ce f o a τ):=rfl
@[simp]def Lj {ci ce:Ex}{f:A->A->iN->R A}:Yj ci ce f τ a S=.of (ci τ S) (W9 ce f a τ):=rfl
@[simp]def BJ {co ci ce:Ex}{f:A->A->iN->R A}:ya co ci ce f τ S=RS.of (co τ S) (Yj ci ce f τ):=rfl
abbrev RS.end (r:RS):R A:=match r with
 | .rt a S'=>.ok a S'
 | .nx _ S'=>.ok .non S'
 | .ex c S'=>.ex c S'
 | _=>.no
@[simp]def RS.Jp:RS.end (.rt a S)=.ok a S:=rfl
@[simp]def RS.J_:RS.end (.nx τ S)=.ok .non S:=rfl
@[simp]def RS.JP {c:Str}:RS.end (.ex c S)=.ex c S:=rfl
theorem vK {N:am}{m:Sm}{as:ad}:jQ N m as S=RS.end (m (as++List.replicate (N.length-as.length) .unb) S):=by
 unfold jQ RS.end;cases m (as++List.replicate (N.length-as.length) .unb) S<;>rfl
@[simp]def Ml {i j:Int}:j4 (.int i) (.int j) S=.ok (.int<|i+j) S:=rfl
@[simp]def JC {i j:Int}:aSub (.int i) (.int j) S=.ok (.int<|i-j) S:=rfl
@[simp]def JA {i j:Int}:Hw (.int i) (.int j) S=.ok (.int<|i+j) S:=rfl
theorem Ey{i j:Int}(h:-18446744073709551616<i)(h':i<18446744073709551616):w6 (.int i) (.int j) S=.ok (.int<|i * j) S:=jO<|by unfold GR;simp;left;exact⟨by omega,by omega⟩
def D5{i j:Int}(h:0<j)(h':j<1073741824):yG (.int i) (.int j) S=.ok (.int<|i / j) S:=jO ⟨h,()⟩
def yV{i j:Int}(h:0<j):w4 (.int i) (.int j) S=.ok (.int<|i % j) S:=jO h
@[simp]def PM {i j:Int}:Oc (.int i) (.int j) S=.ok (.bl<|decide<|i<j) S:=rfl
@[simp]def P1 {i j:Int}:UH (.int i) (.int j) S=.ok (.bl<|decide<|i<=j) S:=rfl
@[simp]def QE {i j:Int}:IM (.int i) (.int j) S=.ok (.bl<|decide<|j<i) S:=rfl
@[simp]def PY {i j:Int}:Wr (.int i) (.int j) S=.ok (.bl<|decide<|j<=i) S:=rfl
@[simp]def QS {i j:Bool}:ID false (.bl i) (.bl j) S=.ok (.bl<|i == j) S:=rfl
@[simp]def M_ {i j:Bool}:ID true (.bl i) (.bl j) S=.ok (.bl<|i != j) S:=rfl
@[simp]def LF {i:Int}:Dq (.int i) S=.ok (.int<|-i) S:=rfl
@[simp]def Lp {xs:ad}:mT (.tup xs) S=.ok (.int xs.length) S:=rfl
@[simp]def Lk {xs:ad}:mT (.frz xs) S=.ok (.int xs.length) S:=rfl
@[simp]def LU {n:Nat}:mT (.ref n) S=opt (iL S n) λxs=>.ok (.int xs.length) S:=rfl
@[simp]def LJ {i:Int}:Xa (.int i) S=.ok (.int<|if i<0 then -i else i) S:=rfl
@[simp]def Eh {i j:Int}:My (.int i) (.int j) S=.ok (.int<|if j>i then j else i) S:=rfl
@[simp]def FJ {i j:Int}:Kl (.int i) (.int j) S=.ok (.int<|if j<i then j else i) S:=rfl
@[simp]def ER {i:Int}:Qd (.int i) S=.ok (.int i) S:=rfl
@[simp]def FD {i:Bool}:Qd (.bl i) S=.ok (.int<|if i then 1 else 0) S:=rfl
@[simp]def yS {i j:Int}:sY (.int i) (.int j) S=.ok (.rng i j) S:=rfl
@[simp]def PO {xs:ad}{i:Int}:qy (.tup xs) (.int i) S=opt (oq xs i) λx=>.ok x S:=rfl
@[simp]def P4 {xs:ad}{i:Int}:qy (.frz xs) (.int i) S=opt (oq xs i) λx=>.ok x S:=rfl
@[simp]def Qx {n:Nat}{i:Int}:qy (.ref n) (.int i) S=opt (iL S n) λxs=>opt (oq xs i) λx=>.ok x S:=rfl
@[simp]def LZ {n:Nat}{k:Int}:Cz (.ref n) (.int k) a S=opt (iL S n) λxs=>opt (vV xs.length k) λj=>.ok Unit.unit (S.set n<|.lst<|xs.set j a):=rfl
@[simp]def IY {n:Nat}{i:Int}:Lr (.ref n) (.int i) S=opt (iL S n) λxs=>gd (0<=i) (opt (xs[i.toNat]?) λx=>.ok x S):=rfl
theorem yD{i j:Int}(h:tK i j):uN (.rng i j) S=.ok (.ref S.length) (S++[.lst<|(jm i j).map .int]):=jO h
def CZ{i j:Int}(h:tK i j):qx (.rng i j) S=.ok (.tup<|(jm i j).map .int) S:=jO h
@[simp]def GZ {xs:ad}:uN (.tup xs) S=.ok (.ref S.length) (S++[.lst xs]):=rfl
@[simp]def G8 {xs:ad}:uN (.frz xs) S=.ok (.ref S.length) (S++[.lst xs]):=rfl
@[simp]def E9 {n:Nat}:uN (.ref n) S=opt (iL S n) λxs=>.ok (.ref S.length) (S++[.lst xs]):=rfl
@[simp]def Ca {xs:ad}:qx (.tup xs) S=.ok (.tup xs) S:=rfl
@[simp]def BP {n:Nat}:qx (.ref n) S=opt (iL S n) λxs=>.ok (.tup xs) S:=rfl
@[simp]def Jc {xs:ad}:VW (.tup xs) S=.ok (.tup xs.reverse) S:=rfl
@[simp]def KR {n:Nat}:VW (.ref n) S=opt (iL S n) λxs=>.ok (.ref S.length) (S++[.lst xs.reverse]):=rfl
@[simp]def Qm {n:Nat}{l u:Option Int}:Ws (.ref n) l u S=opt (iL S n) λxs=>.ok (.ref S.length) (S++[.lst<|N5 xs l u]):=rfl
@[simp]def vY {n:Nat}:sN (.ref n) [a] S=opt (iL S n) λxs=>gd (xs.length<sizeLine) (.ok .non<|S.set n<|.lst<|xs++[a]):=rfl
@[simp]def JT {b:Bool}:A.VI (.bl b) S=some b:=rfl
@[simp]def Gm {i:Int}:A.VI (.int i) S=some (i != 0):=rfl
theorem I_{o:O}:(S++[o])[S.length]?=some o:=by simp
@[simp]def i8 {xs:ad}:iL (S++[.lst xs]) S.length=some xs:=sW I_
theorem jy{o:O}{n:Nat}(h:iL S n=some xs):iL (S++[o]) n=some xs:=by
 have h':=i6 h;exact sW<|by rw[bE (aI.mp h').1];exact h'
def qk{n:Nat}(h:iL S n=some xs):n<S.length:=(aI.mp<|i6 h).1
def kJ{n:Nat}(h:n<S.length):iL (S.set n<|.lst ys) n=some ys:=sW<|bI h
def nN{n:Nat}(h:n≠m):iL (S.set n<|.lst ys) m=iL S m:=by unfold iL;rw[bP h]
def D8{xs:ad}{i:Int}{k:Nat}{x:A}(h:i=k)(hx:xs[k]?=some x):oq xs i=some x:=by rw[h];exact Pc hx
def qz{n:Nat}{i:Int}{k:Nat}(h:i=k)(hk:k<n):vV n i=some k:=by
 subst h;unfold vV;rw[aJ (),aJ ()];simp
end
structure Kp (b:Nat->Prop)(S S':iN):Prop where
 len:S.length<=S'.length
 obj:∀(n:Nat) (o:O),¬b n->S[n]?=some o->S'[n]?=some o
meta abbrev m9:=Kp λ_=>False
def Kp.lst{b:Nat->Prop}(h:Kp b S S')(n:Nat)(xs:ad)(hb:¬b n)(e:iL S n=some xs):iL S' n=some xs:=sW<|h.obj n _ hb<|i6 e
def Kp.refl{b:Nat->Prop}:Kp b S S:=⟨aO _,λ_ _ _ h=>h⟩
def Kp.trans{b:Nat->Prop}(h:Kp b S S1)(h':Kp b S1 S2):Kp b S S2:=⟨bW h.len h'.len,λn xs hb e=>h'.obj n xs hb<|h.obj n xs hb e⟩
def xx{S:iN}{n:Nat}(e:S[n]?=some o):n<S.length:=(aI.mp e).1
def Kp.lay{b:Nat->Prop}{o:O}(h:Kp b S S1):Kp b S (S1++[o]):=⟨bW h.len<|by simp,λn xs hb e=>by
 have:=h.obj n xs hb e;rw[bE<|xx this];exact this⟩
def Kp.NI{b:Nat->Prop}{S S1:iN}(h:Kp b S S1)(hm:b m\/S.length<=m):Kp b S (S1.set m o):=⟨by rw[bN];exact h.len,λn xs hb e=>by
 have:m≠n:=λz=>by
  subst z
  rcases hm with z|z
  ·exact hb z
  ·exact absurd (xx e) ()
 rw[bP this];exact h.obj n xs hb e⟩
def Kp.set{b:Nat->Prop}{S S1:iN}(h:Kp b S S1)(hm:b m\/S.length<=m):Kp b S (S1.set m<|.lst ys):=h.NI hm
def Kp.mono{b c:Nat->Prop}{S:iN}(h:Kp b S S1)(hb:∀n,n<S.length->b n->c n):Kp c S S1:=⟨h.len,λn xs hc e=>h.obj n xs (λz=>hc<|hb n (xx e) z) e⟩
def Kp.of0{b:Nat->Prop}(h:m9 S S1):Kp b S S1:=h.mono λ_ _ z=>z.elim
def Kp.old{b c:Nat->Prop}{S:iN}(h:Kp b S S1)(h':Kp c S1 S2)(hc:∀n,n<S.length->¬b n->¬c n):Kp b S S2:=⟨bW h.len h'.len,λn xs hb e=>h'.obj n xs (hc n (xx e) hb)<|h.obj n xs hb e⟩
theorem tU{t:Te}{c:Sm}(Inv:ad->iN->Prop)(μ:ad->iN->Nat)(Post:RS->Prop)
  (h:∀τ S,Inv τ S->(∃S1,t τ S=.ok false S1/\Post (.nx τ S1))\/(∃S1,t τ S=.ok true S1/\((∃τ' S',c τ S1=.nx τ' S'/\Inv τ' S'/\μ τ' S'<μ τ S)\/(∃a S',c τ S1=.rt a S'/\Post (.rt a S'))))) :
  ∀n τ S,Inv τ S->μ τ S<n->Post (lT t c n τ S)
 | 0,_,_,_,hn=>absurd hn (eG _)
 | n+1,τ,S,hi,hn=>by
  unfold lT
  rcases h τ S hi with⟨S1,e,q⟩|⟨S1,e,⟨τ',S',e2,hi',hm⟩|⟨a,S',e2,q⟩⟩
  ·rw[e];exact q
  ·rw[e];show Post (match c τ S1 with
    | .nx τ' S'=>lT t c n τ' S'
    | .ct τ' S'=>lT t c n τ' S'
    | .bk τ' S'=>.nx τ' S'
    | r=>r)
   rw[e2];exact tU Inv μ Post h n τ' S' hi' ()
  ·rw[e];show Post (match c τ S1 with
    | .nx τ' S'=>lT t c n τ' S'
    | .ct τ' S'=>lT t c n τ' S'
    | .bk τ' S'=>.nx τ' S'
    | r=>r)
   rw[e2];exact q
theorem z7{s:Src}{g:Tg}{c:Sm}(Inv:Nat->ad->iN->Prop)(Post:RS->Prop)
  (step:∀i τ S,i<s.k->Inv i τ S->∃x τ1 S1,s.get i S=some x/\g x τ S=.ok τ1 S1/\((∃τ' S',c τ1 S1=.nx τ' S'/\Inv (i+1) τ' S')\/(∃a S',c τ1 S1=.rt a S'/\Post (.rt a S'))))
  (fin:∀τ S,Inv s.k τ S->s.fin S=true/\Post (.nx τ S)):∀k i τ S,k+i=s.k->Inv i τ S->Post (oB s g c k i τ S)
 | 0,i,τ,S,hk,hi=>by
  have:i=s.k:=()
  subst this;obtain⟨hf,q⟩:=fin τ S hi;unfold oB;rw[aJ hf];exact q
 | k+1,i,τ,S,hk,hi=>by
  obtain⟨x,τ1,S1,hx,hg,h⟩:=step i τ S () hi;unfold oB;rw[hx];show Post (RS.of (g x τ S) λτ1 S1=>match c τ1 S1 with
   | .nx τ' S'=>oB s g c k (i+1) τ' S'
   | .ct τ' S'=>oB s g c k (i+1) τ' S'
   | .bk τ' S'=>.nx τ' S'
   | r=>r)
  rw[hg];show Post (match c τ1 S1 with
   | .nx τ' S'=>oB s g c k (i+1) τ' S'
   | .ct τ' S'=>oB s g c k (i+1) τ' S'
   | .bk τ' S'=>.nx τ' S'
   | r=>r)
  rcases h with⟨τ',S',e,hi'⟩|⟨a,S',e,q⟩
  ·rw[e];exact z7 Inv Post step fin k (i+1) τ' S' () hi'
  ·rw[e];exact q
def vg{lo hi:Int}{c:Sm}{src:Ic}{τ:ad}(hs:src τ S=.ok (kE lo hi) S1)(Inv:Nat->ad->iN->Prop)(Post:RS->Prop)(h0:Inv 0 τ S1)
  (step:∀(i:Nat) τ S,(i:Int)<hi-lo->Inv i τ S->(∃τ' S',c (τ.set j<|.int<|lo+i) S=.nx τ' S'/\Inv (i+1) τ' S')\/(∃a S',c (τ.set j<|.int<|lo+i) S=.rt a S'/\Post (.rt a S')))
  (fin:∀τ S,Inv (hi-lo).toNat τ S->Post (.nx τ S)):Post (nU src (jW j) c τ S):=by
 unfold nU;rw[hs];refine z7 (s:=kE lo hi) Inv Post (λi τ S hi' h=>?_) (λτ S h=>⟨rfl,fin τ S h⟩) _ 0 τ S1 rfl h0;have hi':i<(hi-lo).toNat:=hi';exact⟨.int<|lo+i,_,S,aJ hi',rfl,step i τ S () h⟩
def A1{n:Nat}{xs:ad}{g:Tg}{c:Sm}{src:Ic}(hs:src τ S=.ok (mR n xs.length) S1)(Inv:Nat->ad->iN->Prop)(Post:RS->Prop)(h0:Inv 0 τ S1)(hl:∀i τ S,Inv i τ S->iL S n=some xs)
  (step:∀(i:Nat) x τ S,xs[i]?=some x->Inv i τ S->∃τ1 S1,g x τ S=.ok τ1 S1/\((∃τ' S',c τ1 S1=.nx τ' S'/\Inv (i+1) τ' S')\/(∃a S',c τ1 S1=.rt a S'/\Post (.rt a S'))))
  (fin:∀τ S,Inv xs.length τ S->Post (.nx τ S)):Post (nU src g c τ S):=by
 unfold nU;rw[hs];refine z7 (s:=mR n xs.length) Inv Post (λi τ S hi' h=>?_) (λτ S h=>⟨?_,fin τ S h⟩) _ 0 τ S1 rfl h0
 ·have hi':i<xs.length:=hi';obtain⟨τ1,S1,e,q⟩:=step i xs[i] τ S (aG hi') h;exact⟨xs[i],τ1,S1,by show(iL S n).bind _=_;rw[hl i τ S h];exact aG hi',e,q⟩
 ·show(match iL S n with
   | some ys=>decide (ys.length<=xs.length)
   | none=>false)=true
  rw[hl _ τ S h];exact a_<|aO _
@[simp]def pZ {c:Ex}{τ:ad}{S S1:iN}{j:Int}(h:c τ S=.ok (.int j) S1)(hb:bnd j):p9 c τ S=.ok (kE 0 j) S1:=by
 unfold p9;rw[h];exact jO hb
def xZ{c d:Ex}{i j:Int}(h:c τ S=.ok (.int i) S1)(h':d τ S1=.ok (.int j) S2)(hb:bnd i)(hb':bnd j):qE c d τ S=.ok (kE i j) S2:=by
 unfold qE;rw[h];show(d τ S1).bind _=_;rw[h'];exact jO ⟨hb,hb'⟩
def yg{c:Ex}{n:Nat}{xs:ad}(h:c τ S=.ok (.ref n) S1)(hl:iL S1 n=some xs):sR c τ S=.ok (mR n xs.length) S1:=by
 unfold sR;rw[h];show opt (iL S1 n) _=_;rw[hl];rfl
theorem vE{s:Src}{g:Tg}{t:Te}{e:Ex}{P:iN->Prop}{T:ad->Prop}(it:Nat->A)(p:Nat->Bool)(f:Nat->A)
  (hget:∀i S,i<s.k->P S->s.get i S=some (it i)) (hfin:∀S,P S->s.fin S=true)
  (step:∀i τ S,i<s.k->T τ->P S->∃τ1 S1 S2,g (it i) τ S=.ok τ1 S1/\t τ1 S1=.ok (p i) S2/\T τ1/\(p i=false->P S2)/\(p i=true->∃S3,e τ1 S2=.ok (f i) S3/\P S3)) :
  ∀k i τ S,k+i=s.k->T τ->P S->∃S',nM s g t e k i τ S=.ok (((List.range' i k).filter p).map f) S'/\P S'
 | 0,i,τ,S,hk,hT,hP=>⟨S,by unfold nM;rw[aJ<|hfin S hP];rfl,hP⟩
 | k+1,i,τ,S,hk,hT,hP=>by
  obtain⟨τ1,S1,S2,hg,ht,hT1,hF,hTr⟩:=step i τ S (by omega) hT hP;unfold nM;rw[hget i S (by omega) hP,jv,hg,R.mS,ht,R.mS,ff,iu]
  cases hp:p i with
  | false=>
   obtain⟨S',h1,h2⟩:=vE it p f hget hfin step k (i+1) τ1 S2 (by omega) hT1<|hF hp;exact⟨S',by simpa using h1,h2⟩
  | true=>
   obtain⟨S3,he,hP3⟩:=hTr hp;obtain⟨S',h1,h2⟩:=vE it p f hget hfin step k (i+1) τ1 S3 (by omega) hT1 hP3;refine⟨S',?_,h2⟩
   skip
   rw[he,R.mS,h1];rfl
def yI{s:Src}{src:Ic}{t:Te}{e:Ex}{S1:iN}(hs:src τ S=.ok s S1)(it:Nat->A)(p:Nat->Bool)(f:Nat->A)(hget:∀i,i<s.k->s.get i S1=some (it i))(hfin:s.fin S1=true)
  (ht:∀i,i<s.k->t (it i::oi cap τ) S1=.ok (p i) S1) (he:∀i,i<s.k->p i=true->e (it i::oi cap τ) S1=.ok (f i) S1) (hl:s.k<=16777216) :
  lY (none::cap) src (jW 0) t e τ S=.ok (.ref S1.length) (S1++[.lst<|((List.range s.k).filter p).map f]):=by
 unfold lY;rw[hs,R.oH];obtain⟨S',h1,h2⟩:=vE (s:=s) (g:=jW 0) (t:=t) (e:=e) (P:=λS=>S=S1) (T:=λτ'=>∃y,τ'=y::oi cap τ) it p f (λi S hi h=>by subst h;exact hget i hi) (λS h=>by subst h;exact hfin)
  (λi τ' S hi ⟨y,hy⟩ h=>by
   subst h hy;exact⟨it i::oi cap τ,S,S,rfl,ht i hi,⟨_,rfl⟩,λ_=>rfl,λhp=>⟨S,he i hi hp,rfl⟩⟩) s.k 0 (oi (none::cap) τ) S1 rfl ⟨_,rfl⟩ rfl
 subst h2;rw[h1,R.mS,c7];refine kK ?_;rw[aM];refine bW (gp _ _) ?_;rw[List.length_range'];exact hl
def pX{α β:Type}(xs:List α)(p:α->Bool)(f:α->β):∀(d:α) ,(((List.range xs.length).filter λi=>p<|xs.getD i d).map λi=>f<|xs.getD i d)=(xs.filter p).map f:=by
 intro d
 induction xs with
 | nil=>rfl
 | cons x xs ih=>
  rw[bA,List.range_succ_eq_map,iu,iu];have e:((List.filter (λi=>p<|(x::xs).getD i d)<|List.map Nat.succ<|List.range xs.length).map λi=>f<|(x::xs).getD i d)=(xs.filter p).map f:=by
   rw[iF,ck];rw[<- ih];rfl
  show List.map _ (if p x=true then _ else _)=List.map f (if p x=true then _ else _);by_cases hp:p x=true
  ·rw[aJ hp,aJ hp,bQ,bQ,e];rfl
  ·rw[aK hp,aK hp,e]
def Bx{lo hi:Int}{src:Ic}{t:Te}{e:Ex}{S1:iN}(hs:src τ S=.ok (kE lo hi) S1)(p:Int->Bool)(f:Int->A)
  (ht:∀k,lo<=k->k<hi->t (.int k::oi cap τ) S1=.ok (p k) S1) (he:∀k,lo<=k->k<hi->p k=true->e (.int k::oi cap τ) S1=.ok (f k) S1) (hl:(hi-lo).toNat<=16777216) :
  lY (none::cap) src (jW 0) t e τ S=.ok (.ref S1.length) (S1++[.lst<|((jm lo hi).filter p).map f]):=by
 rw[yI hs (λi=>.int<|lo+i) (λi=>p<|lo+i) (λi=>f<|lo+i) (λi hi'=>aJ hi') rfl (λi hi'=>ht _ () (by have:i<(hi-lo).toNat:=hi';lia)) (λi hi'=>he _ () (by have:i<(hi-lo).toNat:=hi';lia)) hl];unfold jm;rw[iF,ck];rfl
@[simp]def Li {cap:List<|bi}{τ:ad}:oi (none::cap) τ=.unb::oi cap τ:=rfl
@[simp]def Mw {cap:List<|bi}{τ:ad}{j:Nat}:oi (some j::cap) τ=τ.getD j .unb::oi cap τ:=rfl
@[simp]def Cj {τ:ad}:oi [] τ=[]:=rfl
theorem EG{x:A}:oq (x::xs) 0=some x:=D8 (k:=0) rfl rfl
def Qi{x:A}:oq (x::y::xs) 1=some y:=D8 (k:=1) rfl rfl
def tB{ns:ae}{i:Int}{k:Nat}{x:Int}(h:i=k)(hx:ns[k]?=some x):oq (ns.map A.int) i=some (.int x):=D8 h<|by rw[bg,hx];rfl
def lZ{j:Int}(h:-4611686018427387904<=j)(h':j<4611686018427387904):bnd j:=⟨(),()⟩
def xV{i j:Int}(h1:-1000000<=i)(h2:i<=1000000)(h3:-1000000<=j)(h4:j<=1000000)(h5:j-i<=1000):tK i j:=⟨⟨(),(),(),()⟩,()⟩
theorem ints_map:∀(ns:ae),A.ints (ns.map .int)=some ns
 | []=>rfl
 | n::ns=>by show(A.ints<|ns.map .int).map (n::·)=_;rw[ints_map ns];rfl
theorem yU{n:Nat}:∀(xs ys:ae),sZ (yp S<|n+1) (xs.map .int) (ys.map .int)=some (decide<|xs=ys)
 | [],[]=>rfl
 | [],_::_=>rfl
 | _::_,[]=>rfl
 | x::xs,y::ys=>by
  skip
  skip
  show Option.map _ (sZ (yp S<|n+1) (xs.map .int)<|ys.map .int)=_;rw[yU xs ys]
  skip
  by_cases h1:x=y<;>by_cases h2:xs=ys<;>simp[h1,h2]
@[simp]def QF {S:iN}{x y:Bool}:rZ false (.bl x) (.bl y) S=.ok (.bl<|x == y) S:=rfl
@[simp]def Qy {S:iN}{x y:Bool}:rZ true (.bl x) (.bl y) S=.ok (.bl<|!(x == y)) S:=rfl
@[simp]def PN {S:iN}{x y:Int}:rZ false (.int x) (.int y) S=.ok (.bl<|x == y) S:=rfl
@[simp]def P7 {S:iN}{x y:Int}:rZ true (.int x) (.int y) S=.ok (.bl<|!(x == y)) S:=rfl
@[simp]def FG {S:iN}:ID false .non .non S=.ok (.bl true) S:=rfl
@[simp]def FI {S:iN}{xs:ad}:ID false (.tup xs) .non S=.ok (.bl false) S:=rfl
@[simp]def Gq {S:iN}{n:Nat}:ID false (.ref n) .non S=.ok (.bl false) S:=rfl
@[simp]def B4 {S:iN}:ID true .non .non S=.ok (.bl false) S:=rfl
@[simp]def BE {S:iN}{xs:ad}:ID true (.tup xs) .non S=.ok (.bl true) S:=rfl
@[simp]def BI {S:iN}{n:Nat}:ID true (.ref n) .non S=.ok (.bl true) S:=rfl
@[simp]def F1 {S:iN}{x:A}{c:String}:OZ x (.ty c) S=opt (x.kd S) λk=>opt (HR k c) λb=>.ok (.bl b) S:=rfl
@[simp]def PR {S:iN}{b:Bool}:A.kd (.bl b) S=some .bl:=rfl
@[simp]def K2 {S:iN}{b:Int}:A.kd (.int b) S=some .int:=rfl
@[simp]def L_ {S:iN}{b:ad}:A.kd (.tup b) S=some .tup:=rfl
@[simp]def LK {S:iN}:A.kd .non S=some .non:=rfl
@[simp]def JL {S:iN}{b:Str}:A.kd (.str b) S=some .str:=rfl
@[simp]def KS {S:iN}{n:Nat}:A.kd (.ref n) S=(iL S n).map λ_=>.lst:=rfl
@[simp]def Ku {S:iN}:newL [] S=.ok (.ref S.length) (S++[.lst []]):=kK<|by simp
@[simp]def Mt {S:iN}{x0:A}:newL [x0] S=.ok (.ref S.length) (S++[.lst [x0]]):=kK<|by simp
@[simp]def Lo {S:iN}{x0 x1:A}:newL [x0,x1] S=.ok (.ref S.length) (S++[.lst [x0,x1]]):=kK<|by simp
@[simp]def MI {S:iN}{x0 x1 x2:A}:newL [x0,x1,x2] S=.ok (.ref S.length) (S++[.lst [x0,x1,x2]]):=kK<|by simp
@[simp]def Js {S:iN}{x0 x1 x2 x3:A}:newL [x0,x1,x2,x3] S=.ok (.ref S.length) (S++[.lst [x0,x1,x2,x3]]):=kK<|by simp
@[simp]def IX {S:iN}{x0 x1 x2 x3 x4:A}:newL [x0,x1,x2,x3,x4] S=.ok (.ref S.length) (S++[.lst [x0,x1,x2,x3,x4]]):=kK<|by simp
@[simp]def Jd {S:iN}{x0 x1 x2 x3 x4 x5:A}:newL [x0,x1,x2,x3,x4,x5] S=.ok (.ref S.length) (S++[.lst [x0,x1,x2,x3,x4,x5]]):=kK<|by simp
@[simp]def MR {S:iN}{x0 x1 x2 x3 x4 x5 x6:A}:newL [x0,x1,x2,x3,x4,x5,x6] S=.ok (.ref S.length) (S++[.lst [x0,x1,x2,x3,x4,x5,x6]]):=kK<|by simp
@[simp]def DR {S:iN}{x0 x1 x2 x3 x4 x5 x6 x7:A}:newL [x0,x1,x2,x3,x4,x5,x6,x7] S=.ok (.ref S.length) (S++[.lst [x0,x1,x2,x3,x4,x5,x6,x7]]):=kK<|by simp
@[simp]def MX {S:iN}{x0 x1 x2 x3 x4 x5 x6 x7 x8:A}:newL [x0,x1,x2,x3,x4,x5,x6,x7,x8] S=.ok (.ref S.length) (S++[.lst [x0,x1,x2,x3,x4,x5,x6,x7,x8]]):=kK<|by simp
@[simp]def Gu {S:iN}{x0 x1 x2 x3 x4 x5 x6 x7 x8 x9:A}:newL [x0,x1,x2,x3,x4,x5,x6,x7,x8,x9] S=.ok (.ref S.length) (S++[.lst [x0,x1,x2,x3,x4,x5,x6,x7,x8,x9]]):=kK<|by simp
theorem AJ{α:Type}{n:Nat}{r:R α}(h:n<=16777216):gd (n<=sizeLine) r=r:=jO<|by rw[cH];exact h
def Fj{α:Type}{n:Nat}{r:R α}(h:n<16777216):gd (n<sizeLine) r=r:=jO<|by rw[cH];exact h
def QW {x:A}{xs:ad}:(x::xs).getD 0 .unb=x:=rfl
def QM {x:A}{xs:ad}{n:Nat}:(x::xs).getD (n+1) .unb=xs.getD n .unb:=rfl
def Vc {x y:A}{xs:ad}:(x::xs).set 0 y=y::xs:=rfl
def sets {x y:A}{xs:ad}{n:Nat}:(x::xs).set (n+1) y=x::xs.set n y:=rfl
def rep0 {x:A}:List.replicate 0 x=[]:=rfl
def reps {x:A}{n:Nat}:List.replicate (n+1) x=x::List.replicate n x:=rfl
def UN {x:A}{xs ys:ad}:(x::xs)++ys=x::(xs++ys):=rfl
def VS {ys:ad}:[]++ys=ys:=rfl
def UQ{S:iN}{n:Nat}{xs ys:ad}(h:iL S n=some xs)(h':iL S m=some ys)(hl:xs.length+ys.length<=16777216):j4 (.ref n) (.ref m) S=.ok (.ref S.length) (S++[.lst<|xs++ys]):=by
 show opt (iL S n) _=_;rw[h,jv,h',jv];exact jO<|by rw[cH];exact hl
def jx:type_of% (anI @R.oH<|anI @R.Gy<|anI @R.mS<|anI @RS.of_ok<|anI @RS.QN<|anI @jv<|anI @EW<|anI @Gj<|anI @Hh<|anI @G4<|anI @G9<|anI @Jl<|anI @FN<|anI @E_<|anI @Et<|anI @Fe<|anI @Ga<|anI @Qc<|anI @ES<|anI @Ks<|anI @El<|anI @QA<|anI @JH<|anI @GU<|anI @Ez<|anI @K4<|anI @FF<|anI @Gf<|anI @Gz<|anI @MY<|anI @J0<|anI @E5<|anI @JN<|anI @CL<|anI @GD<|anI @MB<|anI @EU<|anI @CP<|anI @Gp<|anI @G5<|anI @Bc<|anI @M8<|anI @JS<|anI @Qo<|anI @Qq<|anI @Kh<|anI @Cm<|anI @G1<|anI @CH<|anI @Nd<|anI @GH<|anI @lst?_ref<|anI @RS.I0<|anI @RS.Jb<|anI @RS.KC<|anI @RS.J7<|anI @RS.KJ<|anI @F_<|anI @Ge<|anI @zb<|anI @Bj<|anI @CN<|anI @GI<|anI @Cf<|anI @Nc<|anI @Eg<|anI @Ln<|anI @M5<|anI @LR<|anI @Lc<|anI @KY<|anI @M6<|anI @E6<|anI @FU<|anI @BJ<|anI @RS.Jp<|anI @RS.J_<|anI @RS.JP<|anI @Ml<|anI @JC<|anI @JA<|anI @PM<|anI @P1<|anI @QE<|anI @PY<|anI @QS<|anI @M_<|anI @LF<|anI @Lp<|anI @Lk<|anI @LU<|anI @LJ<|anI @Eh<|anI @FJ<|anI @ER<|anI @FD<|anI @yS<|anI @PO<|anI @P4<|anI @Qx<|anI @LZ<|anI @IY<|anI @GZ<|anI @G8<|anI @E9<|anI @Ca<|anI @BP<|anI @Jc<|anI @KR<|anI @Qm<|anI @vY<|anI @JT<|anI @Gm<|anI @i8<|anI @Li<|anI @Mw<|anI @Cj<|anI @QF<|anI @Qy<|anI @PN<|anI @P7<|anI @FG<|anI @FI<|anI @Gq<|anI @B4<|anI @BE<|anI @BI<|anI @F1<|anI @PR<|anI @K2<|anI @L_<|anI @LK<|anI @JL<|anI @KS<|anI @Ku<|anI @Mt<|anI @Lo<|anI @MI<|anI @Js<|anI @IX<|anI @Jd<|anI @MR<|anI @DR<|anI @MX<|anI @Gu<|anI @QW<|anI @QM<|anI @Vc<|anI @sets<|anI @rep0<|anI @reps<|anI @UN<|anI @VS<|anI @vK<|anI @Fc<|anI @Ko<|anI @IU<|anI @P9<|anI @QD<|anI @JM<|anI @M7<|anI @yH<|anI @CK<|anI @Jt<|anI @Gx<|anI @MU<|anI @Ep<|anI @L7<|anI @PX<|anI @QJ<|anI @ET<|anI @FQ<|anI @IZ<|anI @Bk<|anI @GB<|anI @Lj<|anI @Jo<|anI @Mp<|anI @KW<|@MC):=anI @R.oH<|anI @R.Gy<|anI @R.mS<|anI @RS.of_ok<|anI @RS.QN<|anI @jv<|anI @EW<|anI @Gj<|anI @Hh<|anI @G4<|anI @G9<|anI @Jl<|anI @FN<|anI @E_<|anI @Et<|anI @Fe<|anI @Ga<|anI @Qc<|anI @ES<|anI @Ks<|anI @El<|anI @QA<|anI @JH<|anI @GU<|anI @Ez<|anI @K4<|anI @FF<|anI @Gf<|anI @Gz<|anI @MY<|anI @J0<|anI @E5<|anI @JN<|anI @CL<|anI @GD<|anI @MB<|anI @EU<|anI @CP<|anI @Gp<|anI @G5<|anI @Bc<|anI @M8<|anI @JS<|anI @Qo<|anI @Qq<|anI @Kh<|anI @Cm<|anI @G1<|anI @CH<|anI @Nd<|anI @GH<|anI @lst?_ref<|anI @RS.I0<|anI @RS.Jb<|anI @RS.KC<|anI @RS.J7<|anI @RS.KJ<|anI @F_<|anI @Ge<|anI @zb<|anI @Bj<|anI @CN<|anI @GI<|anI @Cf<|anI @Nc<|anI @Eg<|anI @Ln<|anI @M5<|anI @LR<|anI @Lc<|anI @KY<|anI @M6<|anI @E6<|anI @FU<|anI @BJ<|anI @RS.Jp<|anI @RS.J_<|anI @RS.JP<|anI @Ml<|anI @JC<|anI @JA<|anI @PM<|anI @P1<|anI @QE<|anI @PY<|anI @QS<|anI @M_<|anI @LF<|anI @Lp<|anI @Lk<|anI @LU<|anI @LJ<|anI @Eh<|anI @FJ<|anI @ER<|anI @FD<|anI @yS<|anI @PO<|anI @P4<|anI @Qx<|anI @LZ<|anI @IY<|anI @GZ<|anI @G8<|anI @E9<|anI @Ca<|anI @BP<|anI @Jc<|anI @KR<|anI @Qm<|anI @vY<|anI @JT<|anI @Gm<|anI @i8<|anI @Li<|anI @Mw<|anI @Cj<|anI @QF<|anI @Qy<|anI @PN<|anI @P7<|anI @FG<|anI @FI<|anI @Gq<|anI @B4<|anI @BE<|anI @BI<|anI @F1<|anI @PR<|anI @K2<|anI @L_<|anI @LK<|anI @JL<|anI @KS<|anI @Ku<|anI @Mt<|anI @Lo<|anI @MI<|anI @Js<|anI @IX<|anI @Jd<|anI @MR<|anI @DR<|anI @MX<|anI @Gu<|anI @QW<|anI @QM<|anI @Vc<|anI @sets<|anI @rep0<|anI @reps<|anI @UN<|anI @VS<|anI @vK<|anI @Fc<|anI @Ko<|anI @IU<|anI @P9<|anI @QD<|anI @JM<|anI @M7<|anI @yH<|anI @CK<|anI @Jt<|anI @Gx<|anI @MU<|anI @Ep<|anI @L7<|anI @PX<|anI @QJ<|anI @ET<|anI @FQ<|anI @IZ<|anI @Bk<|anI @GB<|anI @Lj<|anI @Jo<|anI @Mp<|anI @KW<|@MC
def bools:(∀b:Bool,cond false b b=b)/\(∀(α:Type) (x y:α),cond false x y=y)/\(∀(α:Type) (x y:α),cond true x y=x):=⟨λ_=>rfl,λ_ _ _=>rfl,λ_ _ _=>rfl⟩
def jD:(∀(x:Str) (xs:am),(x::xs).length=xs.length+1)/\([]:am).length=0/\(∀(x:A) (xs:ad),(x::xs).length=xs.length+1)/\([]:ad).length=0:=⟨λ_ _=>rfl,rfl,λ_ _=>rfl,rfl⟩
section
variable {τ:ad}{S:iN}
def F9 {f:ad->iN->R A}{d:pQ}:nE f d τ S=(d τ S).bind f:=rfl
abbrev Ym (c:Str):Unit->iN->RS:=λ_ S1=>.ex c S1
def LB {c:Str}{u:Unit}:Ym c u S=.ex c S:=rfl
def zy {c:Str}{ps:List<|Str ⊕ Ex}:uh c ps τ S=RS.of (Jj ps τ S) (Ym c):=rfl
def Fx:Jj [] τ S=.ok Unit.unit S:=rfl
def Fb {x:Str}{ps:List<|Str ⊕ Ex}:Jj (.inl x::ps) τ S=Jj ps τ S:=rfl
abbrev Yo (ps:List<|Str ⊕ Ex)(τ:ad):A->iN->R Unit:=λv S1=>match v with
 | .int i=>gd (i.natAbs.log2<64) (Jj ps τ S1)
 | _=>.no
def GX {e:Ex}{ps:List<|Str ⊕ Ex}:Jj (.inr e::ps) τ S=(e τ S).bind (Yo ps τ):=rfl
def Qn{n:Nat}(h:n<18446744073709551616):Yo ps τ (.int (n:Int)) S=Jj ps τ S:=by
 skip
 refine Xh ?_;rw[Int.natAbs_natCast];by_cases z:n=0
 ·subst z;decide
 ·exact(Nat.log2_lt z).mpr h
abbrev RS.try (i n:Nat)(cs:am)(d:Sm):RS->RS
 | .ex x S1=>if x∈cs then IK i (d ((List.replicate n .unb).set i<|.exn x) S1)else .no
 | r=>r
def FZ {i n:Nat}{cs:am}{c d:Sm}:U8 i n cs c d τ S=RS.try i n cs d (c τ S):=by
 unfold U8 RS.try;cases c τ S<;>rfl
def Je {i n:Nat}{cs:am}{d:Sm}:RS.try i n cs d (.nx τ S)=.nx τ S:=rfl
def K6 {i n:Nat}{cs:am}{d:Sm}{a:A}:RS.try i n cs d (.rt a S)=.rt a S:=rfl
def Jw {i n:Nat}{x:Str}{cs:am}{d:Sm}:RS.try i n (x::cs) d (.ex x S)=IK i (d ((List.replicate n .unb).set i<|.exn x) S):=aJ<|.head _
def Lg {i:Nat}{a:A}:IK i (.rt a S)=.rt a S:=rfl
def LS {i:Nat}:IK i (.nx τ S)=.nx (τ.set i .unb) S:=rfl
abbrev II (f:Str->bd):A->iN->R A:=λv S1=>match v with
 | .exn x=>opt (f x) λb=>.ok (.bl b) S1
 | _=>.no
def Hi {f:Str->bd}{c:Ex}:um f c τ S=(c τ S).bind (II f):=rfl
def DK {x:Str}{b:Bool}{tb:List<|Str×Bool}:II (CS ((x,b)::tb)) (.exn x) S=.ok (.bl b) S:=by
 show opt (List.lookup x ((x,b)::tb)) _=_;rw[c5,bM];rfl
abbrev R.KA {α β:Type}(r:R α)(f:α->iN->R β):R β:=match r with
 | .ok a S=>f a S
 | _=>.no
def BR {α β:Type}{a:α}{f:α->iN->R β}:R.KA (.ok a S) f=f a S:=rfl
def ED {f:ad->iN->R A}{d:pQ}:Ho f d τ S=R.KA (d τ S) f:=by unfold Ho R.KA;cases d τ S<;>rfl
abbrev RS.Xd {α:Type}(r:R α)(f:α->iN->RS):RS:=match r with
 | .ok a S=>f a S
 | _=>.no
def Nb {α:Type}{a:α}{f:α->iN->RS}:RS.Xd (.ok a S) f=f a S:=rfl
def Hj {t:Te}{c d:Sm}:VM t c d τ S=RS.Xd (t τ S) (WB c d τ):=by
 unfold VM RS.Xd
 cases t τ S with
 | ok b S1=>cases b<;>rfl
 | ex _ _=>rfl
 | no=>rfl
abbrev RS.CF (i:Nat)(cs:am)(d:Sm)(τ:ad):RS->RS
 | .ex x S1=>if x∈cs then IK i (d (τ.set i<|.exn x) S1)else .no
 | r=>r
def Bh {i:Nat}{cs:am}{c d:Sm}:xU i cs c d τ S=RS.CF i cs d τ (c τ S):=by
 unfold xU RS.CF;cases c τ S<;>rfl
def Ew {i:Nat}{cs:am}{d:Sm}{τ':ad}:RS.CF i cs d τ (.nx τ' S)=.nx τ' S:=rfl
def G6 {i:Nat}{cs:am}{d:Sm}{a:A}:RS.CF i cs d τ (.rt a S)=.rt a S:=rfl
def Af {i:Nat}{x:Str}{cs:am}{d:Sm}:RS.CF i (x::cs) d τ (.ex x S)=IK i (d (τ.set i<|.exn x) S):=aJ<|.head _
def BG:A.Wz []=some []:=rfl
def zq {b:Bool}{xs:ad}:A.Wz (.bl b::xs)=(A.Wz xs).map (b::·):=rfl
end
def mJ:type_of% (anI @F9<|anI @zy<|anI @LB<|anI @Fx<|anI @Fb<|anI @GX<|anI @FZ<|anI @Je<|anI @K6<|anI @Jw<|anI @Lg<|anI @LS<|anI @Hi<|anI @DK<|anI @BG<|anI @zq<|anI @BR<|anI @ED<|anI @Nb<|anI @Hj<|anI @Bh<|anI @Ew<|anI @G6<|anI @Af<|trivial):=anI @F9<|anI @zy<|anI @LB<|anI @Fx<|anI @Fb<|anI @GX<|anI @FZ<|anI @Je<|anI @K6<|anI @Jw<|anI @Lg<|anI @LS<|anI @Hi<|anI @DK<|anI @BG<|anI @zq<|anI @BR<|anI @ED<|anI @Nb<|anI @Hj<|anI @Bh<|anI @Ew<|anI @G6<|anI @Af<|trivial
end Am
namespace Am
open PySem PySem.Spec PyProof.Rows L2
abbrev Df (K:au)(x:Str)(st:aF):Prop:=∃(f:ak) (fd:FuncData),PySem.W.nsIn K mainGlobals x=some (some<|.ref f)/\Fun K x x st f fd
inductive En (P:aj) (w:ah) (K:au) (mg:Str->ba) (base:aq):Prop
 | mk (h:aq) (X:K.In h) (G:h.Ns mainGlobals mg)
section
variable {P:aj}{w:ah}{K:au}{mg:Str->ba}{base:aq}{x:Str}{st:aF}{ps:am}{k:Nat}{F:ad->iN->R A}
def En.at(E:En P w K mg base){f:ak}(h:PySem.W.nsIn K mainGlobals x=some (some<|.ref f)):mg x=some (.ref f):=by
 obtain⟨_,X,G⟩:=E;exact cD X G h
def Df.of{f:ak}{kV pm ct:af}(a:PySem.W.nsIn K mainGlobals x=some (some<|.ref f))(l:K.lookup f=some ⟨oc,od,.func<|PySem.W.fnOf x x (rD st) (lJ st) (iT st) .none kV doc pm an cdv ct,osl⟩)(c:PySem.W.codeIn K cdv x=true)(k:PySem.W.keepIn K (.ref f)=true):Df K x st:=⟨f,_,a,Tu l c k⟩
meta abbrev Bi (x:Str)(st:aF)(ps:am):Prop:=∀us:ap,us.length=ps.length->∀(kV doc pm:af) (an:Option ak) (cdv ct:af),bindArgs (PySem.W.fnOf x x (rD st) (lJ st) (iT st) .none kV doc pm an cdv ct) ⟨us,[]⟩=pure (ps.zip us)
def Df.get(d:Df K x st)(E:En P w K mg base)(b:Bi x st ps):∃f fd,Fun K x x st f fd/\mg x=some (.ref f)/\PySem.W.keepIn K (.ref f)=true/\Binds K fd ps []:=by
 obtain⟨f,fd,a,F⟩:=d;exact⟨f,fd,F,E.at a,F.kp,F.binds λkV doc pm an cdv ct us hl=>b us hl kV doc pm an cdv ct⟩
def Df.kA(d:Df K x st)(E:En P w K mg base)(h:∀{f fd},Fun K x x st f fd->FnOk P w K mg base sq k f fd ps (tZ K ps.length F))(b:Bi x st ps):u_ P w K mg base k x ps F:=by
 obtain⟨f,fd,a,c,e,g⟩:=d.get E b;exact⟨f,fd,h a,c,e,g⟩
def Df.kX(d:Df K x st)(E:En P w K mg base)(h:∀{f fd},Fun K x x st f fd->FnOk P w K mg base (u7 P w) k f fd ps (A9 K ps.length F))(b:Bi x st ps):t6 P w K mg base k x ps F:=by
 obtain⟨f,fd,a,c,e,g⟩:=d.get E b;exact⟨f,fd,h a,c,e,g⟩
def Df.rX(d:Df K x st)(E:En P w K mg base)(h:∀{f fd},Fun K x x st f fd->mg x=some (.ref f)->PySem.W.keepIn K (.ref f)=true->Binds K fd ps []->FnOk P w K mg base (u7 P w) k f fd ps (A9 K ps.length F))(b:Bi x st ps):t6 P w K mg base k x ps F:=by
 obtain⟨f,fd,a,c,e,g⟩:=d.get E b;exact⟨f,fd,h a c e g,c,e,g⟩
def Df.kH(d:Df K x st)(E:En P w K mg base)(h:∀{f fd},Fun K x x st f fd->FnOkH P w K mg base k f fd ps (tZ K ps.length F))(b:Bi x st ps):Uk P w K mg base k x ps F:=by
 obtain⟨f,fd,a,c,e,g⟩:=d.get E b;exact⟨f,fd,h a,c,e,g⟩
end
section
variable {X:Cx}{pos p:Pos}{e1 e2 e3:aE}{x p1 p2 p3:Str}{k K0:Nat}{F:ad->iN->R A}{c1 c2 c3:Ex}
def Nk(G:u_ X.prog X.w X.K X.mg X.base k x [p1] F)(hr:Room K0 X.A)(h1:AE X e1 c1)(hk:k<=K0:=by decide)(hg:Gl X x:=by rfl)(hdb:(x == ("__debug__" : Str))=false:=by decide)(s1:starEach [e1] X.env=(false,eval e1 X.env)::starEach [] X.env:=by rfl)(hp:(backTo pos<|starEach [] X.env).any (·.1)=false:=by rfl):AE X (.Call (.Name x p) [e1] [] pos) (eFn F<|iI c1 iW):=uW G (hr.mono hk) (iJ h1 iP s1) (iX jA) hg hdb s1 hp
def GY(G:u_ X.prog X.w X.K X.mg X.base k x [p1,p2] F)(hr:Room K0 X.A)(h1:AE X e1 c1)(h2:AE X e2 c2)(hk:k<=K0:=by decide)(hg:Gl X x:=by rfl)(hdb:(x == ("__debug__" : Str))=false:=by decide)(s1:starEach [e1,e2] X.env=(false,eval e1 X.env)::starEach [e2] X.env:=by rfl)(s2:starEach [e2] X.env=(false,eval e2 X.env)::starEach [] X.env:=by rfl)(hp:(backTo pos<|starEach [e2] X.env).any (·.1)=false:=by rfl):AE X (.Call (.Name x p) [e1,e2] [] pos) (eFn F<|iI c1<|iI c2 iW):=uW G (hr.mono hk) (iJ h1 (iJ h2 iP s2) s1) (iX<|iX jA) hg hdb s1 hp
def V0(G:u_ X.prog X.w X.K X.mg X.base k x [p1,p2,p3] F)(hr:Room K0 X.A)(h1:AE X e1 c1)(h2:AE X e2 c2)(h3:AE X e3 c3)(hk:k<=K0:=by decide)(hg:Gl X x:=by rfl)(hdb:(x == ("__debug__" : Str))=false:=by decide)(s1:starEach [e1,e2,e3] X.env=(false,eval e1 X.env)::starEach [e2,e3] X.env:=by rfl)(s2:starEach [e2,e3] X.env=(false,eval e2 X.env)::starEach [e3] X.env:=by rfl)(s3:starEach [e3] X.env=(false,eval e3 X.env)::starEach [] X.env:=by rfl)(hp:(backTo pos<|starEach [e2,e3] X.env).any (·.1)=false:=by rfl):AE X (.Call (.Name x p) [e1,e2,e3] [] pos) (eFn F<|iI c1<|iI c2<|iI c3 iW):=uW G (hr.mono hk) (iJ h1 (iJ h2 (iJ h3 iP s3) s2) s1) (iX<|iX<|iX jA) hg hdb s1 hp
def Ni(G:t6 X.prog X.w X.K X.mg X.base k x [p1,p2] F)(hr:Room K0 X.A)(h1:AE X e1 c1)(h2:AE X e2 c2)(hk:k<=K0:=by decide)(hg:Gl X x:=by rfl)(hdb:(x == ("__debug__" : Str))=false:=by decide)(s1:starEach [e1,e2] X.env=(false,eval e1 X.env)::starEach [e2] X.env:=by rfl)(s2:starEach [e2] X.env=(false,eval e2 X.env)::starEach [] X.env:=by rfl)(hp:(backTo pos<|starEach [e2] X.env).any (·.1)=false:=by rfl):AE X (.Call (.Name x p) [e1,e2] [] pos) (nE F<|iI c1<|iI c2 iW):=oV G (hr.mono hk) (iJ h1 (iJ h2 iP s2) s1) (iX<|iX jA) hg hdb s1 hp
def X4(G:t6 X.prog X.w X.K X.mg X.base k x [p1,p2,p3] F)(hr:Room K0 X.A)(h1:AE X e1 c1)(h2:AE X e2 c2)(h3:AE X e3 c3)(hk:k<=K0:=by decide)(hg:Gl X x:=by rfl)(hdb:(x == ("__debug__" : Str))=false:=by decide)(s1:starEach [e1,e2,e3] X.env=(false,eval e1 X.env)::starEach [e2,e3] X.env:=by rfl)(s2:starEach [e2,e3] X.env=(false,eval e2 X.env)::starEach [e3] X.env:=by rfl)(s3:starEach [e3] X.env=(false,eval e3 X.env)::starEach [] X.env:=by rfl)(hp:(backTo pos<|starEach [e2,e3] X.env).any (·.1)=false:=by rfl):AE X (.Call (.Name x p) [e1,e2,e3] [] pos) (nE F<|iI c1<|iI c2<|iI c3 iW):=oV G (hr.mono hk) (iJ h1 (iJ h2 (iJ h3 iP s3) s2) s1) (iX<|iX<|iX jA) hg hdb s1 hp
def tQ{N P:am}{sc:Scope}(a:sc.kind=.function)(b:sc.isCoroutine=false)(c:sc.isGenerator=false)(h:N.Nodup/\N.take P.length=P/\(∀x∈P,sc.names.lookup x=some .local\/sc.names.lookup x=some .cell)/\∀y∈sc.names,y.2≠.free):FnScope N P sc:=⟨a,b,c,h.1,h.2.1,h.2.2.1,h.2.2.2⟩
end
abbrev jV (S:iN)(n:Nat):Option (List<|Int×A):=match S[n]? with
 | some (.oS xs)=>some xs
 | _=>none
def nH{n:Nat}(h:jV S n=some xs):S[n]?=some (.oS xs):=by
 unfold jV at h;split at h
 ·rename_i e;cases h;exact e
 ·cases h
def AQ{S:iN}{n:Nat}(h:S[n]?=some (.oS xs)):jV S n=some xs:=by
 unfold jV;rw[h]
abbrev lI (kvs:List<|Int×A)(k:Int):Option A:=(kvs.find? λkv=>decide<|kv.1=k).map (·.2)
abbrev uJ (kvs:List<|Int×A)(k:Int)(v:A):List (Int×A):=
 if (lI kvs k).isSome=true then kvs.map (λkv=>if kv.1=k then(kv.1,v)else kv)else kvs++[(k,v)]
section
variable {K:au}{ρ:ar}{H:Hp}
def IA{p:Int×A}{r:List<|Int×A}{k:Int}(e:p.1=k):lI (p::r) k=some p.2:=by simp[lI,cA,e]
def H_{p:Int×A}{r:List<|Int×A}{k:Int}(e:¬p.1=k):lI (p::r) k=lI r k:=by simp[lI,cA,e]
def VJ{a b:Int}(e:(Sum.inl a:Key)=Sum.inl b):a=b:=by injection e
theorem DI.look:∀{kvs:List<|Int×A}{ks:List<|Key×V}(k:Int),DI K ρ H kvs ks->(lI kvs k).isSome=(sd ks (Sum.inl k:Key)).isSome/\∀x,lI kvs k=some x->∃v,sd ks (Sum.inl k:Key)=some v/\AV K ρ H x v
 | [],[],k,_=>⟨rfl,λx h=>nomatch h⟩
 | p::r,q::r',k,⟨⟨e,a⟩,t⟩=>by
  by_cases c:p.1=k
  ·have c':q.1=(Sum.inl k:Key):=by rw[e,c]
   rw[IA c,tV c'];exact⟨rfl,λx h=>by cases h;exact⟨_,rfl,a⟩⟩
  ·have c':¬q.1=(Sum.inl k:Key):=λz=>c<|VJ<|e.symm.trans z;rw[H_ c,tW c'];exact DI.look k t
theorem DI.repl{x:A}{v:V}(h:AV K ρ H x v)(k:Int):∀{kvs:List<|Int×A}{ks:List<|Key×V},DI K ρ H kvs ks->DI K ρ H (kvs.map λkv=>if kv.1=k then(kv.1,x)else kv) (ks.map λkv=>if kv.1=(Sum.inl k:Key)then(kv.1,v)else kv)
 | [],[],_=>trivial
 | p::r,q::r',⟨⟨e,a⟩,t⟩=>by
  refine⟨?_,DI.repl h k t⟩;dsimp only;by_cases c:p.1=k
  ·rw[aJ c,aJ<|by rw[e,c]];exact⟨e,h⟩
  ·rw[aK c,aK λz=>c<|VJ<|e.symm.trans z];exact⟨e,a⟩
theorem DI.snoc{x:A}{v:V}(h:AV K ρ H x v)(k:Int):∀{kvs:List<|Int×A}{ks:List<|Key×V},DI K ρ H kvs ks->DI K ρ H (kvs++[(k,x)]) (ks++[(Sum.inl k,v)])
 | [],[],_=>⟨⟨rfl,h⟩,trivial⟩
 | p::r,q::r',⟨a,t⟩=>⟨a,DI.snoc h k t⟩
def DI.put{x:A}{v:V}(h:AV K ρ H x v)(k:Int){ks:List<|Key×V}(d:DI K ρ H kvs ks):DI K ρ H (uJ kvs k x) (putK ks (Sum.inl k:Key) v):=by
 unfold uJ putK;rw[xr,<- (d.look k).1];by_cases c:(lI kvs k).isSome=true
 ·rw[aJ c,aJ c];exact DI.repl h k d
 ·rw[aK c,aK c];exact DI.snoc h k d
def DI.length:∀{kvs:List<|Int×A}{ks:List<|Key×V},DI K ρ H kvs ks->kvs.length=ks.length
 | [],[],_=>rfl
 | _::_,_::_,⟨_,t⟩=>c6 (·+1) t.length
theorem DI.keys:∀{kvs:List<|Int×A}{ks:List<|Key×V},DI K ρ H kvs ks->ks.map (·.1)=kvs.map λkv=>(Sum.inl kv.1:Key)
 | [],[],_=>rfl
 | _::_,_::_,⟨⟨e,_⟩,t⟩=>by rw[bQ,bQ,e,DI.keys t]
def Rel.oS{n:Nat}{a:ak}(R:Rel K ρ H S)(ha:ρ[n]?=some a)(hS:S[n]?=some (.oS xs)):∃vs,H a=some (.dK vs)/\DI K ρ H xs vs:=R.at n a _ ha hS
def Rel.Wf{S:iN}{p:ak}(R:Rel K ρ H S)(hp:H p=none)(r:DI K ρ H xs vs):Ext ρ (ρ++[p]) H (upd H p<|.dK vs)/\Rel K (ρ++[p]) (upd H p<|.dK vs) (S++[.oS xs])/\(ρ++[p])[S.length]?=some p:=by
 have ex:Ext ρ (ρ++[p]) H (upd H p<|.dK vs):=⟨⟨eB _ _,λa u _ h=>by rw[iS<|i9 h hp];exact h⟩,λa u h _=>by rw[iS<|i9 h hp];exact h,λa h=>by
  rcases bF.mp h with z|z
  ·exact .inl z
  ·have e:a=p:=by simpa using z
   rw[e];exact .inr hp⟩
 have np:p∉ρ:=R.Ff hp;have last:(ρ++[p])[S.length]?=some p:=by rw[<- R.len];simp
 refine⟨ex,⟨by simp[R.len],?_,?_⟩,last⟩
 ·rw[cW];refine⟨R.nd,by simp,λa ha b hb e=>?_⟩;have:b=p:=by simpa using hb
  exact np<|by rw[<- this,<- e];exact ha
 ·intro n a o h1 h2;by_cases hn:n<S.length
  ·rw[bE<|by rw[R.len];exact hn]at h1;rw[bE hn]at h2;have na:a≠p:=λz=>np (by rw[<- z];exact aX h1);have:=R.at n a o h1 h2
   cases o with
   | lst ys=>obtain⟨ws,e,q⟩:=this;exact⟨ws,by rw[iS na];exact e,q.ext ex⟩
   | dct _|oS _|n9 _=>obtain⟨ws,e,q⟩:=this;exact⟨ws,by rw[iS na];exact e,q.ext ex⟩
   | ins _ _=>obtain⟨oo,uu,e⟩:=this;exact⟨oo,uu,by rw[iS na];exact e⟩
  ·have e:n=S.length:=by
    have:=(aI.mp h2).1;simp at this
    lia
   subst e;rw[last]at h1
   cases h1
   simp at h2;subst h2;exact⟨vs,ji,r.ext ex⟩
def Rel.uJ{S:iN}{n:Nat}{a:ak}(R:Rel K ρ H S)(ha:ρ[n]?=some a)(hS:S[n]?=some (.oS xs))(r:DI K ρ H ys ws):Ext ρ ρ H (upd H a<|.dK ws)/\Rel K ρ (upd H a<|.dK ws) (S.set n<|.oS ys):=by
 obtain⟨vs,e,_⟩:=R.at n a _ ha hS;have ex:Ext ρ ρ H (upd H a<|.dK ws):=⟨⟨dI _,λb u i h=>by
  have:b≠a:=by
   intro z;subst z;rw[e]at h;cases h;exact i
  rw[iS this];exact h⟩,λb u h n=>by
  rw[iS λz=>n<|by rw[z];exact aX ha];exact h,λ_ h=>.inl h⟩
 refine⟨ex,by rw[bN];exact R.len,R.nd,λm b o h1 h2=>?_⟩;by_cases hm:m=n
 ·subst hm;rw[ha]at h1;cases h1;rw[bI (aI.mp hS).1]at h2
  cases h2
  exact⟨ws,ji,r.ext ex⟩
 ·rw[bP<|cN hm]at h2;have nb:b≠a:=λz=>by
   subst z;obtain⟨l1,e1⟩:=aI.mp ha;obtain⟨l2,e2⟩:=aI.mp h1;exact hm<|(cZ R.nd).mp<|e2.trans e1.symm
  have:=R.at m b o h1 h2
  cases o with
  | lst ys=>obtain⟨ws',e',q⟩:=this;exact⟨ws',by rw[iS nb];exact e',q.ext ex⟩
  | dct _|oS _|n9 _=>obtain⟨ws',e',q⟩:=this;exact⟨ws',by rw[iS nb];exact e',q.ext ex⟩
  | ins _ _=>obtain⟨oo,uu,e'⟩:=this;exact⟨oo,uu,by rw[iS nb];exact e'⟩
end
section
variable {X:Cx}{pos:Pos}{a b:aE}
abbrev wK (x y:A)(S:iN):R A:=match x,y with
 | .ref n,.int k=>opt (jV S n) λkvs=>opt (lI kvs k) λv=>.ok v S
 | _,_=>.no
def HC{x:A}{P:A->iN->Prop}{E:Str->iN->Prop}(h:(wK x y S).post P E):∃n k kvs v,x=.ref n/\y=.int k/\jV S n=some kvs/\lI kvs k=some v/\P v S:=by
 unfold wK at h;split at h
 ·obtain⟨kvs,h1,h⟩:=iY h;obtain⟨v,h2,h⟩:=iY h;exact⟨_,_,kvs,v,rfl,rfl,h1,h2,h⟩
 ·exact h.elim
def Vq(hu:X.A.units+64<cLine):N1 X (r2 X wK):=λvalue slice pins s σ H x y v u Q I rx ry ⟨ρ,S,a,b,R,va,vb,h⟩ hs=>by
 obtain⟨n,k,kvs,z,ha,hb,hn,hz,hP⟩:=HC h;subst ha hb
 cases vb
 cases va with
 | @ref p _ hp=>
  obtain⟨ks,e,d⟩:=R.oS hp<|nH hn;obtain⟨w,hw,aw⟩:=(d.look k).2 z hz;have g:z8 H p (kV<|Sum.inl k) (sd ks<|Sum.inl k):=z8.k e;rw[hw]at g;exact Ph () value slice pins s σ H _ _ v u Q I rx ry ⟨p,w,rfl,g,hP _ _ _ .refl R aw⟩ hs
def Kf(hu:X.A.units+64<cLine){ca cb:Ex}(ha:AE X a ca)(hb:AE X b cb)(hs:vn b:=by exact λ_ _=>rfl):AE X (.Subscript a b pos) (iU wK ca cb):=PE.imp (JV (Vq hu) ha hb hs) λσ H Q h=>rL h
abbrev zo (o i v:A)(S:iN):R Unit:=match o,i with
 | .ref n,.int k=>opt (jV S n) λkvs=>gd (kvs.length<sizeLine) (.ok Unit.unit<|S.set n<|.oS<|uJ kvs k v)
 | _,_=>.no
def C8{x v:A}{S:iN}{P:Unit->iN->Prop}{E:Str->iN->Prop}(h:(zo x y v S).post P E):∃n k kvs,x=.ref n/\y=.int k/\jV S n=some kvs/\kvs.length<sizeLine/\P Unit.unit (S.set n<|.oS<|uJ kvs k v):=by
 unfold zo at h;split at h
 ·obtain⟨kvs,h1,h⟩:=iY h;obtain⟨h2,h⟩:=ja h;exact⟨_,_,kvs,rfl,rfl,h1,h2,h⟩
 ·exact h.elim
abbrev Xx (X:Cx):Cw:=λo i v H Q=>∃ρ S ao ai av,Rel X.K ρ H S/\AV X.K ρ H ao o/\AV X.K ρ H ai i/\AV X.K ρ H av v/\(zo ao ai av S).post (λ_ S'=>∀ρ' H',Ext ρ ρ' H H'->Rel X.K ρ' H' S'->Q H') (XE X ρ H)
def ND(hu:X.A.units+64<cLine):CJ X (Xx X):=λpins s σ H o i v ov iv u Q I ro ri rv h9=>by
 obtain⟨ρ,S,ao,ai,av,R,h1,h2,h3,h⟩:=h9;obtain⟨n,k,kvs,ha,hb,hn,hl,hP⟩:=C8 h;subst ha hb
 cases h2
 cases h1 with
 | @ref p _ hp=>
  obtain⟨ks,e,d⟩:=R.oS hp<|nH hn;obtain⟨ex,R'⟩:=R.uJ hp (nH hn)<|d.put h3 k;exact set_dict (by omega) pins s σ H _ _ v ov iv u Q I ro ri rv ⟨p,_,rfl,MH.k (k:=Sum.inl k) e<|by rw[<- d.length];exact hl,hP _ _ ex R'⟩
abbrev Iu (co ci:Ex):Tg:=λa τ S=>(co τ S).bind λo S1=>(ci τ S1).bind λi S2=>(zo o i a S2).bind λ_ S3=>.ok τ S3
def EH(hu:X.A.units+64<cLine){co ci:Ex}(ho:AE X o co)(hi:AE X i ci)
  (ha:∀v,assign (.Subscript o i pos) X.env v=(do
   let ov <- holding [v] (eval o X.env)
   let iv <- holding [v,ov] (eval i X.env)
   standAt pos
   holding [v,ov,iv] (setItem ov iv v)
   release [v,ov,iv] []):=by intro _;rfl):AG X (.Subscript o i pos) (Iu co ci):=PG.imp (Dk ho hi (ND hu) ha) λv σ H Q h9=>by
 obtain⟨ρ,S,τ,a,R,r,va,h⟩:=h9;gp_on;kpc_g;f_are
abbrev DE:Ex:=λ_ S=>.ok (.ref S.length)<|S++[.oS []]
def Jy:AE X (.Dict [] [] pos) DE:=PE.imp Ji λσ H Q ⟨ρ,S,τ,R,r,h⟩ p hp=>by
 obtain⟨ex,R',hl⟩:=R.Wf (xs:=[]) (vs:=[]) hp trivial;exact h _ _ _ ex R'<|.ref hl
abbrev dk? (a:A)(S:iN):Option Unit:=match a with
 | .ref n=>(jV S n).map λ_=>Unit.unit
 | _=>none
abbrev HZ (f:A->ad->iN->R A)(co:Ex)(d:pQ):Ex:=λτ S=>(co τ S).bind λx S1=>opt (dk? x S1) λ_=>(d τ S1).bind λas S2=>f x as S2
def dk?_ty{K:au}{H:Hp}{x:A}{v:V}(R:Rel K ρ H S)(a:AV K ρ H x v)(e:dk? x S=some u):Wy K "dict" v H:=by
 cases a with
 | @ref p n h=>
  obtain⟨xs,hx,_⟩:=bz.mp e;obtain⟨vs,h1,_⟩:=R.oS h<|nH hx;exact .inr<|.inr<|.inl ⟨rfl,.inl ⟨vs,h1⟩⟩
 | _=>cases e
def JK{e:aE}{id:String}{apos cpos:Pos}{f:A->ad->iN->R A}{co:Ex}{d:pQ}(slot:Slot "dict" name id)(hty:typeOf (.builtin id)=pure (.type "method_descriptor"))(hm:UC X id<|rM X f)(ho:AE X o co)(ha:AL X (e::es) d)
  (hbase:attributeBase o name X.env (eval o X.env)=eval o X.env:=by rfl)
  (hfew:((backTo cpos<|starEach (e::es) X.env).all (λx=>!x.1) && (backToKw cpos<|keywordEach [] X.env).all (λx=>x.1.isSome)
   && decide ((e::es).length+([]:List Keyword).length+(if ([]:List Keyword).isEmpty then 0 else 1)<30))=true:=by rfl)
  (hline:(apos.endLine == cpos.line)=true:=by rfl) (hs:starEach (e::es) X.env=(false,eval e X.env)::starEach es X.env:=by rfl) (hplain:(backTo cpos<|starEach es X.env).any (·.1)=false:=by rfl) :
  AE X (.Call (.Attribute o name apos) (e::es) [] cpos) (HZ f co d):=PE.imp (QG PySem.F.plainAttrs_dict slot hty hm ho ha hbase hfew hline hs hplain) λσ H Q h9=>by
 z_go;refine⟨ρ,S,τ,R,r,iM (iR h) .refl λx S1 h1 ρ1 H1 v e1 R1 v1=>?_⟩;obtain⟨xs,hx,h1⟩:=iY h1;refine⟨dk?_ty R1 v1 hx,ρ1,S1,τ,R1,r.ext e1,iM (iR h1) e1 λas S2 h2 ρ2 H2 vs e2 R2 v2=>?_⟩;exact⟨ρ2,S2,x,as,R2,v1.ext e2,v2,iM h2 (e1.trans e2) λ_ _ z=>z.ext<|e1.trans e2⟩
abbrev uO (o:A)(as:ad)(S:iN):R A:=match o,as with
 | .ref n,[.int k,y]=>opt (jV S n) λkvs=>.ok ((lI kvs k).getD y) S
 | _,_=>.no
def C7{x:A}{P:A->iN->Prop}{E:Str->iN->Prop}(h:(uO x as S).post P E):∃n k y kvs,x=.ref n/\as=[.int k,y]/\jV S n=some kvs/\P ((lI kvs k).getD y) S:=by
 unfold uO at h;split at h
 ·obtain⟨kvs,h1,h⟩:=iY h;exact⟨_,_,_,kvs,rfl,rfl,h1,h⟩
 ·exact h.elim
def JY(hu:X.A.units+64<cLine):UC X "dict.get" (rM X uO):=λpins s σ H x vs v us Q I rx rv h9=>by
 obtain⟨ρ,S,o,as,R,vo,va,h⟩:=h9;obtain⟨n,k,y,kvs,ho,has,hn,hP⟩:=C7 h;subst ho has;obtain⟨w1,w2,rfl,hz,hy⟩:=Rp va
 cases hz
 cases vo with
 | @ref p _ hp=>
  obtain⟨ks,h1,dv⟩:=R.oS hp (nH hn)
  cases rx
  obtain⟨u1,u2,rfl,r1,r2⟩:=vals2 rv;refine Sd () I (z8.k (k:=Sum.inl k) h1) r1 r2 λw' s' I' rw'=>⟨_,H,I',rw',hP _ _ _ .refl R ?_⟩;obtain⟨l1,l2⟩:=dv.look k
  cases e1:lI kvs k with
  | none=>
   rw[e1]at l1
   cases e2:sd ks (Sum.inl k:Key)with
   | none=>exact hy
   | some _=>rw[e2]at l1;cases l1
  | some x1=>
   obtain⟨v1,e2,a1⟩:=l2 x1 e1;rw[e2];exact a1
end
end Am
namespace L2
open PySem PySem.Spec PyProof.Rows
section
variable {P:aj}{w:ah}{A:aA}{E:af->aC->Prop}{s:aC}
def Ib:typeLookup (.type "list") "keys" = pure none:=am_miss_of_fast<|by kernel_rfl
def Il{a:ak}{o:Obj}{k:Nat}{Q:ba->aC->Prop}(hx:s.heap.get? a=some o)(hc:o.cls=.type "list")(hdat:o.data=.seq xs k)(hd:o.dict=none)(hA:A.handled=none)
  (h:∀h' tk,(∀b ob,s.heap.get? b=some ob->h'.get? b=some ob)->Q none { s with heap:=h',toks:=tk }):wpAny (model P w) A (getAttr? (.ref a) "keys") Q E s:=by
 obtain⟨c,dct,dat,sl⟩:=o;simp only at hc hdat hd;subst hc hdat hd;obtain⟨hp,g,d,tk,os⟩:=s;have hT:∀tk',(⟨hp,g,d,tk',os⟩:aC).TypeIs (.ref a) "list" := λ_=>⟨_,hx,rfl⟩;have f1:=sub_AttributeError;have f3:=fu.lookup;have f4:=fu.bind<|.ref a;have f5:=am_list_getattr_none;unfold getAttr? getAttrBy? getAttrBy
 repeat (any_goals (first|assumption|exact hT _|((with_reducible show wpAny _ _ (call (Value.builtin "list.__getattribute__") _ _) _ _ _);refine iC fu (hT _) am_entry_list_getattribute (F.args_list_getattribute_2 _ _) (meets_getattribute_miss_list a xs k sl "keys" _ Ib ⋯ (by size_fits)) ⟨hx,hA,λh' tk' e hx'=>?_⟩)|wp_step))
 obtain⟨t',u',he⟩:=hx'.there
 skip
 unfold getattributeRaised
 repeat (any_goals (first|assumption|wp_step))
 exact h _ _ hx'.keeps
def ze:entryFor table "dict.update.loop" = some Builtin.«dict.update.loop»:=entryFor_of_tree<|by kernel_rfl
def rC:plainId "dict.update.loop" = true:=by decide +kernel
abbrev MK (h:aq)(d I:ak)(its:ap)(ps:List<|Int×af):Prop:=∀(i:Nat) (v:af),its[i]?=some v->∃(b:ak) (p:Int×af) (t:Tok),v=.ref b/\b≠d/\b≠I/\ps[i]?=some p/\IsTup h b #[.int p.1 t,p.2]
def MK.mono{h h':aq}{d:ak}(x:MK h d I its ps)(k:∀b o,b≠d->b≠I->h.get? b=some o->h'.get? b=some o):MK h' d I its ps:=λi v hv=>by
 obtain⟨b,p,t,h1,h2,h3,h4,o,h5,h6⟩:=x i v hv;exact⟨b,p,t,h1,h2,h3,h4,o,k b o h2 h3 h5,h6⟩
abbrev Ui (ps:List<|Int×af):List (Key×af):=ps.foldl (λacc p=>stored acc (Sum.inl p.1) p.2) []
def Mq(ps:List<|Int×af)(i:Nat)(p:Int×af)(h:ps[i]?=some p):Ui (ps.take<|i+1)=stored (Ui<|ps.take i) (Sum.inl p.1) p.2:=by
 unfold Ui;rw[f7,h,eV];rfl
theorem G7:∀(ps:List<|Int×af) (acc:List<|Key×af),(ps.foldl (λacc p=>stored acc (Sum.inl p.1) p.2) acc).length<=acc.length+ps.length
 | [],acc=>aO _
 | p::ps,acc=>by
  have:=G7 ps<|stored acc (Sum.inl p.1) p.2;have h:(stored acc (Sum.inl p.1) p.2).length<=acc.length+1:=by
   unfold stored;split
   ·rw[aM];lia
   ·rw[bh];exact aO _
  rw[dQ,bA]
  lia
def K8{R:Result->aC->Prop}{I d:ak}{St:Nat->aq->Prop}{its:ap}{ps:List<|Int×af}(W:Walks P w A.in1 I [I,l] [I] its.length (λi v=>its[i]?=some v) St)(hdI:d≠I)(hdl:d≠l)(hl:ps.length=its.length)(hz:ps.length<=sizeLine) :
  ∀(k i:Nat) (s:aC),its.length-i=k->i<=its.length->St i s.heap->s.heap.DictOf (jz P w) d (Ui<|ps.take i)->MK s.heap d I its ps ->
   (∀h' tk,h'.DictOf (jz P w) d (Ui ps)->(∀b o,b≠d->b≠I->s.heap.get? b=some o->h'.get? b=some o)->R (.ok<|.ret .none) { s with heap:=h',toks:=tk }) ->
   codeAny (model P w) A (.builtin "dict.update.loop" ⟨[.ref d,.ref I,rawInt i,.none],[]⟩) R s:=by
 intro k
 induction k with
 | zero=>
  intro i s hk hi hst hD hP hR;have hin:i=its.length:=()
  subst hin;refine fF ze ?_;rw[eX rC _]
  skip
  refine aH (W.done s _ _ hst λh' tk hm=>?_)
  skip
  refine aH (aT<|aT<|hR h' tk ?_ λb o _ h2 e=>hm b o (by simpa using h2) e);rw[<- hl,gv]at hD;obtain⟨o,es,ep,ho,rest⟩:=hD;exact⟨o,es,ep,hm d o (by simpa using hdI) ho,rest⟩
 | succ k ih=>
  intro i s hk hi hst hD hP hR;have hlt:i<its.length:=()
  refine fF ze ?_;rw[eX rC _]
  skip
  refine aH<|W.item i s _ _ hlt hst λv h' tk hv hst' hm=>?_;have hP':MK h' d I its ps:=hP.mono λb o h1 h2 e=>hm b o (by simpa using h2) e;obtain⟨b,p,t,rfl,hbd,hbI,hp,o,ho,hc,n,hd⟩:=hP' i v hv;have hD':h'.DictOf (jz P w) d (Ui<|ps.take i):=by
   obtain⟨o,es,ep,ho,rest⟩:=hD;exact⟨o,es,ep,hm d o (by simpa using hdI) ho,rest⟩
  have hT:Shared.TypeIs { s with heap:=h',toks:=tk } (.ref b) "tuple" := ⟨o,ho,hc⟩;have hpair:∀(A:aA) (E:af->aC->Prop) (Q:ap->aC->Prop),Q [.int p.1 t,p.2] { s with heap:=h',toks:=tk }->wpAny (model P w) A (Builtin.Dict.pairItems<|.ref b) Q E { s with heap:=h',toks:=tk }:=λA E Q q=>by
   unfold Builtin.Dict.pairItems;refine aH<|iD hT ?_;rw[aJ ⋯];refine aH<|gW ho hd<|aT q
  have hlen:(Ui<|ps.take i).length<=sizeLine:=by
   refine bW (G7 (ps.take i) []) ?_;rw[bL,cQ]
   lia
  refine aH (cG<|aH<|wpAny_tryCatch<|hpair _ _ _ ?_)
  skip
  refine cG (wpAny_dictSet_pairs (hsz:=hlen) (knd:=jz P w) (k:=Sum.inl p.1) (s:={ s with heap:=h',toks:=tk }) (show Value.isInt p.1 (.int p.1 t)=true by simp[Value.isInt]) hD' λh2 hD2 hs=>?_);refine aT ⟨plainId_quiet rC _,?_⟩;have hsame:∀b o,b≠d->b≠I->s.heap.get? b=some o->h2.get? b=some o:=λb o h3 h4 e=>by rw[hs.2 b h3];exact hm b o (by simpa using h4) e
  refine ih (i+1) _ () hlt (W.frame _ _ _ hst' λb hb o e=>?_) (by rw[Mq ps i p hp];exact hD2) (hP.mono hsame) λh3 tk3 hD3 hs3=>hR h3 tk3 hD3 λb o h4 h5 e=>hs3 b o h4 h5<|hsame b o h4 h5 e;have hne:b≠d:=by
   intro z;subst z
   rcases bB.mp hb with z|z
   ·exact hdI z
   ·exact hdl<|by simpa using z
  skip
  rw[hs.2 b hne];exact e
theorem zD{H:Hp}{X:Cx}(I:Inv X pins σ H s):∀(rs:ar) (ps:List<|Int×V),rs.length=ps.length->(∀(i:Nat) (r:ak) (q:Int×V),rs[i]?=some r->ps[i]?=some q->nk X.K H r [.int q.1,q.2]) ->
  ∃qs:List<|Int×af,KV ps qs/\∀(i:Nat) (r:ak),rs[i]?=some r->∃q t,qs[i]?=some q/\IsTup s.heap r #[.int q.1 t,q.2]
 | [],[],_,_=>⟨[],.nil,λi r h=>by simp at h⟩
 | [],_::_,h,_=>nomatch h
 | _::_,[],h,_=>nomatch h
 | r::rs,p::ps,hl,hh=>by
  obtain⟨qs,h1,h2⟩:=zD I rs ps (by simpa using hl) λi r q e1 e2=>hh (i+1) r q (by simpa using e1) (by simpa using e2);obtain⟨its,rv,tp,_⟩:=I.tuple<|hh 0 r p rfl rfl;obtain⟨u1,u2,rfl,r1,r2⟩:=vals2 rv;obtain⟨t,rfl⟩:∃t,u1=Value.int p.1 t:=r1;refine⟨(p.1,u2)::qs,.cons ⟨rfl,r2⟩ h1,λi r' e=>?_⟩
  cases i with
  | zero=>cases e;exact⟨(p.1,u2),t,rfl,tp⟩
  | succ i=>exact h2 i r'<|by simpa using e
abbrev Xv (ps:List<|Int×V):List (Key×V):=ps.foldl (λacc p=>putK acc (Sum.inl p.1) p.2) []
def Vb:∀{ps:List<|Int×V}{qs:List<|Int×af},KV ps qs->∀{as:List<|Key×V}{bs:List<|Key×af},KV as bs->KV (ps.foldl (λacc p=>putK acc (Sum.inl p.1) p.2) as) (qs.foldl (λacc p=>stored acc (Sum.inl p.1) p.2) bs):=by
 intro ps qs h;unfold KV at h
 induction h with
 | nil=>exact λh=>h
 | @cons p q ps qs h t ih=>
  intro as bs h2;rw[dQ,dQ];obtain⟨e,r⟩:=h;rw[e];exact ih<|h2.put _ r
theorem Hf:∀(ps:List<|Int×V) (acc:List<|Key×V),(ps.foldl (λacc p=>putK acc (Sum.inl p.1) p.2) acc).length<=acc.length+ps.length
 | [],acc=>aO _
 | p::ps,acc=>by
  have:=Hf ps<|putK acc (Sum.inl p.1) p.2;have:=qV acc (Sum.inl p.1) p.2;rw[dQ,bA]
  lia
end
section
variable {X:Cx}
def C1(hc:X.calm=true):jw X (.type "dict") (λxs H Q=>∃(p:ak) (rs:ar) (ps:List<|Int×V),xs=[.ref p]/\mP X.K H p (rs.map V.ref)/\rs.length=ps.length /\
  (∀(i:Nat) (r:ak) (q:Int×V),rs[i]?=some r->ps[i]?=some q->nk X.K H r [.int q.1,q.2])/\∀l,H l=none->Q (.ref l) (upd H l<|.dK<|Xv ps)):=by
 kt_k;obtain⟨p,rs,ps,rfl,hq,hlen,hT,q⟩:=h;kcj_m
 cases rx
 obtain⟨its,rv,pl,hz⟩:=I.list hq;have ei:=yO rv;subst ei;rw[aM]at hz;obtain⟨qs,kv,tp⟩:=zD I rs ps hlen hT;have ql:ps.length=qs.length:=kv.length;obtain⟨o,n,ho,hcl,hdn,hd⟩:=pl;have lp:p<s.heap.objs.size:=aV ho;refine callType_codes (Q₁:=λobj s₁=>obj=.ref s.heap.objs.size/\s₁={ s with heap:=s.heap.push { cls:=.type "dict",data:=.dict #[]}}) F.kt_called_dict (F.kt_typeCall_dict_1 _) F.entry_dict_init (kt_code_dict_new _ ⟨rfl,rfl⟩) ?_;rintro obj s₁ ⟨rfl,rfl⟩;have hnew:(s.heap.push { cls:=.type "dict",data:=.dict #[]}).DictOf (jz X.prog X.w) s.heap.objs.size []:=Heap.DictOf.new s.heap;have ho':(s.heap.push { cls:=.type "dict",data:=.dict #[]}).get? p=some o:=aP _ ho;have hTy:Shared.TypeIs { s with heap:=s.heap.push { cls:=.type "dict",data:=.dict #[]}} (.ref p) "list" := ⟨o,ho',hcl⟩;refine⟨hnew.typeIs,F.args_dict_init_2 _ _,?_⟩;unfold Builtin.«dict.__init__»;refine aH ?_;unfold Builtin.Dict.selfAndRest;refine aH (wpAny_notOrdered_dict hnew.typeIs ?_)
 skip
 refine aT ?_;show wpAny _ _ (Builtin.Dict.updateFrom "dict.__init__" s.heap.objs.size (.ref p) [] .none) _ _ _;unfold Builtin.Dict.updateFrom;refine aH<|iD hTy ?_;rw[aJ ⋯];refine aH<|Il ho' hcl hd hdn (show X.A.in1.in1.handled=none from I.ok.hd hc) λh' tk hk=>?_;rw[aJ<|by rfl];refine aH<|dJ ?_;have hl2:h'.IsList p (rs.map Value.ref).toArray:=⟨o,hk p o ho',hcl,n,hd⟩;refine aH<|g_ (s:={ s with heap:=h',toks:=tk }) hl2 ?_;refine aT ⟨plainId_quiet rC _,?_⟩;have sz:s.heap.objs.size<h'.objs.size:=aV<|hk _ _<|bD _ rfl;have W:Walks X.prog X.w X.A.in1.in1 h'.objs.size [h'.objs.size,p] [h'.objs.size] (rs.map Value.ref).length (λi v=>(rs.map Value.ref)[i]?=some v) (λi h=>h.IsListIter h'.objs.size p i/\h.IsList p (rs.map Value.ref).toArray):=by
  have W:=Walks.list (prog:=X.prog) (w:=X.w) (A:=X.A.in1.in1) (I.ok.hd hc) h'.objs.size p (bu<|aV<|hk p o ho') (rs.map Value.ref).toArray;rw[aZ]at W;dsimp[dN]at W;exact W
 refine K8 (d:=s.heap.objs.size) (its:=rs.map Value.ref) (ps:=qs) W (bu sz) (cN<|bu lp) (by rw[aM];lia) () (rs.map Value.ref).length 0 _ () (cE _)
  ⟨⟨_,bD _ rfl,rfl,rfl⟩,hl2.push _⟩ ?_ (λi v hv=>?_) λh2 tk2 hD hs=>⟨rfl,.ref s.heap.objs.size,_,I.laid (t':=tk2) (o:=.dK<|Xv ps) (λb ob eb=>?_) (aO _) ?_,rfl,q _<|I.hok.fresh<|aO _⟩
 ·obtain⟨o,es,ep,e,rest⟩:=hnew;exact⟨o,es,ep,aP _<|hk _ _ e,rest⟩
 ·rw[bg]at hv;obtain⟨r,hr,rfl⟩:=bz.mp hv;obtain⟨q,t,h1,o2,h2,h3⟩:=tp i r hr;have lr:=aV h2;exact⟨r,q,t,rfl,bu lr,bu<|lt_trans lr sz,h1,o2,aP _<|hk _ _<|aP _ h2,h3⟩
 ·have lb:=aV eb;exact hs b ob (bu lb) (bu<|lt_trans lb sz) (aP _<|hk _ _<|aP _ eb)
 ·refine Jh (bW (Hf ps [])<|by rw[cQ];lia) ?_ (Vb kv .nil) hD;exact di.mpr<|cN<|bu I.big
abbrev OJ (ns:ae):Sx.Ord where
 lt i j:=decide (ns.getD i 0<ns.getD j 0)
 NO i:=aW ()
 tr i j k h1 h2:=a_ (by have:=bS h1;have:=bS h2;lia)
 neg i j k h:=by
  have:=bS h;by_cases c:ns.getD i 0<ns.getD j 0
  ·exact .inl (a_ c)
  ·exact .inr<|a_ ()
theorem vO:∀{vs:ap}{ns:ae},IntsAre vs ns->vs.length=ns.length/\∀i,i<vs.length->∃t,vs.getD i .none=.int (ns.getD i 0) t
 | _,_,.nil=>⟨rfl,λi h=>absurd h<|eG _⟩
 | _,_,.cons n t h=>by
  obtain⟨h1,h2⟩:=vO h;refine⟨c6 (·+1) h1,λi hi=>?_⟩
  cases i with
  | zero=>exact⟨t,rfl⟩
  | succ i=>exact h2 i<|by simpa using hi
theorem wu{f:Nat->Int}{h:Nat->af}:∀(l:ag),(∀i∈l,∃t,h i=.int (f i) t)->Vals (l.map λi=>V.int<|f i) (l.map h)
 | [],_=>.nil
 | i::l,e=>.cons (e i<|aN ..)<|wu l λj hj=>e j<|aQ _ hj
def DO{s:aC}{H:Hp}{Q:VK}{h':aq}{tk:Nat}{vs:ap}{ns:ae}(I1:Inv X pins σ H { s with heap:=h',toks:=tk })(hi:IntsAre vs ns)(hz:vs.length<=sizeLine)
  (q:∀l g,H l=none->Sx.Cl g 0 ns.length->Sx.So (OJ ns) g 0 ns.length->Q (.ref l) (upd H l<|.lst<|(List.range ns.length).map λi=>V.int<|ns.getD (g i) 0)) :
  wpAny (model X.prog X.w) X.A.in1 (do
   let l <- newList vs
   let _ <- holding [l] (call (Value.builtin "list.sort") [l] [])
   ret l) (λfin s'=>∃v,fin=Fin.done (Flow.ret v)/\EP X pins σ Q v s') X.xe { s with heap:=h',toks:=tk }:=by
 obtain⟨hN,at_⟩:=vO hi;refine aH<|ir ?_;have hoL:(h'.push<|seqObj "list" vs.toArray 0).get? h'.objs.size=some (seqObj "list" vs.toArray 0):=bD _ rfl
 skip
 refine aH (cG<|fh slot_list_sort ⟨_,hoL,rfl⟩ entry_list_sort (Sx.HH (o:=OJ ns) (kd:=oneType') hoL hz (λh2 Q' q'=>?_) (λh2 i j hi' hj E' Q' q'=>?_) λg hc hs=>⟨_,rfl,?_⟩)<|args_list_sort _)
 ·obtain⟨a,b,r,rfl⟩:∃a b r,vs=a::b::r:=by
   cases vs with
   | nil=>simp at h2
   | cons a vs=>cases vs with
    | nil=>simp at h2
    | cons b r=>exact⟨a,b,r,rfl⟩
  exact wpAny_of_eq (keyKind_ints hi) q'
 ·obtain⟨t,e1⟩:=at_ i hi';obtain⟨u,e2⟩:=at_ j hj;show wpAny _ _ (keyLt' oneType' (vs.getD i .none)<|vs.getD j .none) Q' E' _;rw[e1,e2,keyLt'_oneType];exact Sx.OD true q'
 ·rw[hN]at hc hs ⊢;obtain⟨e,he⟩:=sortedHeap_at (out:=((List.range ns.length).map λi=>vs.getD (g i) .none).toArray) hoL;have old:∀b ob,h'.get? b=some ob->(sortedHeap (h'.push<|seqObj "list" vs.toArray 0) h'.objs.size vs ((List.range ns.length).map λi=>vs.getD (g i) .none).toArray).get? b=some ob:=λb ob eb=>by
   rw[sortedHeap_old (bu<|aV eb)<|by rw[gR];exact f6<|aV eb];exact aP _ eb
  refine aT ⟨_,rfl,.ref h'.objs.size,_,I1.laid (t':=tk) (o:=.lst<|(List.range ns.length).map λi=>V.int<|ns.getD (g i) 0) old (aO _) ?_,rfl,q _ g (I1.hok.fresh<|aO _) hc hs⟩;refine⟨by rw[aM,cB];omega,(List.range ns.length).map λi=>vs.getD (g i) .none,e,wu _ λi hi=>at_ _ (by have:=(hc i (cE _)<|cV.mp hi).2;omega),he⟩
def Io{P:aj}{w:ah}{vs:List<|Key×af}:∀{acc:ap}{ns:ae},vs.map (·.1)=ns.map Sum.inl->acc.length=vs.length->(∀(j:Nat) v,acc[j]?=some v->∃k x,vs[j]?=some (k,x)/\(jz P w).is k v=true)->IntsAre acc ns:=by
 intro acc ns hk hl h
 induction acc generalizing vs ns with
 | nil=>cases vs with
  | nil=>cases ns with
   | nil=>exact .nil
   | cons=>cases hk
  | cons=>cases hl
 | cons a acc ih=>cases vs with
  | nil=>cases hl
  | cons v vs=>cases ns with
   | nil=>cases hk
   | cons n ns=>
    rw[bQ,bQ,List.cons.injEq]at hk;obtain⟨k,x,e1,e2⟩:=h 0 a rfl
    cases e1
    obtain⟨e3,e4⟩:=hk;have e3:k=Sum.inl n:=e3;subst e3;obtain⟨t,rfl⟩:=Value.isInt_shape (k:=n) (v:=a) e2;exact .cons n t<|ih e4 (by simpa using hl) λj v e=>h (j+1) v<|by simpa using e
def z0(hc:X.calm=true):jw X (.builtin "sorted") (λxs H Q=>∃(d:ak) (kvs:List<|Key×V) (ns:ae),xs=[.ref d]/\H d=some (.dK kvs)/\kvs.map (λp=>p.1)=ns.map Sum.inl /\
  ∀l g,H l=none->Sx.Cl g 0 ns.length->Sx.So (OJ ns) g 0 ns.length->Q (.ref l) (upd H l<|.lst<|(List.range ns.length).map λi=>V.int<|ns.getD (g i) 0)):=by
 kt_k;obtain⟨d,kvs,ns,rfl,ed,ek,q⟩:=h;kcj_m
 cases rx
 obtain⟨z,hd,vs,rel,dd⟩:=QH I.hok ed;obtain⟨ep,da⟩:=dd.dictAt;have kl:kvs.length=vs.length:=rel.length;have ke:vs.map (·.1)=kvs.map (·.1):=by
  clear ek z dd da kl ed;unfold KV at rel
  induction rel with
  | nil=>rfl
  | cons h _ ih=>rw[bQ,bQ,ih,h.1]
 refine Calls.call_function_entry kind_sorted plain_sorted entry_sorted (args_sorted1 _) ?_;unfold Builtin.«sorted»;refine aH (m:=checkCount "sorted" 1 1 _)<|aT ?_;refine aH<|PySem.W.kdu_collect (PySem.W.kdl_dict hd) (show X.A.in1.handled=none from I.ok.hd hc) da () λh' tk acc hk hacc=>?_;have al:acc.toList.length=vs.length:=by rw[cL];exact hacc.1
 exact DO (s:=s) (I.kept (t':=tk) hk) (Io (P:=X.prog) (w:=X.w) (ke.trans ek) al λj v e=>hacc.2 j v<|by rw[eO]at e;exact e) () q
end
end L2
namespace Am
open PySem PySem.Spec PyProof.Rows L2
abbrev Pp:ad->Option (List<|Int×A)
 | []=>some []
 | .tup [.int k,x]::r=>(Pp r).map λps=>(k,x)::ps
 | _=>none
abbrev Nq (ps:List<|Int×A):List (Int×A):=ps.foldl (λacc p=>uJ acc p.1 p.2) []
section
variable {K:au}{ρ:ar}{H:Hp}
def Oj{x:A}(r:AVs K ρ H [x,y] vs):∃v w,vs=[v,w]/\AV K ρ H x v/\AV K ρ H y w:=by
 cases r with
 | cons h t=>cases t with
  | cons h' t'=>cases t';exact⟨_,_,rfl,h,h'⟩
def KU{x:A}(e:Pp (x::xs)=some ps):∃k y ps',x=.tup [.int k,y]/\Pp xs=some ps'/\ps=(k,y)::ps':=by
 unfold Pp at e;split at e
 ·rename_i e2;cases e2
 ·rename_i k y r e2
  cases e2
  obtain⟨ps',h1,h2⟩:=bz.mp e;exact⟨_,_,_,rfl,h1,h2.symm⟩
 ·cases e
def Vn:∀{xs:ad}{vs:List V}{ps:List<|Int×A},AVs K ρ H xs vs->Pp xs=some ps ->
  ∃(rs:ar) (qs:List<|Int×V),vs=rs.map V.ref/\rs.length=qs.length/\(∀(i:Nat) (r:ak) (q:Int×V),rs[i]?=some r->qs[i]?=some q->nk K H r [.int q.1,q.2]) /\
   ∀as bs,DI K ρ H as bs->DI K ρ H (ps.foldl (λacc p=>uJ acc p.1 p.2) as) (qs.foldl (λacc p=>putK acc (Sum.inl p.1) p.2) bs):=by
 intro xs
 induction xs with
 | nil=>intro vs ps r e;cases r;cases e;exact⟨[],[],rfl,rfl,λi r q h=>by simp at h,λas bs h=>h⟩
 | cons x xs ih=>
  intro vs ps r e;obtain⟨k,y,ps',rfl,e1,rfl⟩:=KU e
  cases r with
  | cons h t=>
   obtain⟨rs,qs,rfl,hl,hh,hd⟩:=ih t e1
   cases h with
   | @tup a _ us h r=>
    obtain⟨v,w,rfl,h1,h2⟩:=Oj r
    cases h1
    refine⟨a::rs,(k,w)::qs,rfl,by rw[bA,bA,hl],λi r q e1 e2=>?_,λas bs d=>hd _ _<|d.put h2 k⟩
    cases i with
    | zero=>cases e1;cases e2;exact nk.of h
    | succ i=>exact hh i r q (by simpa using e1)<|by simpa using e2
end
section
variable {X:Cx}
abbrev DF (x:A)(S:iN):R A:=match x with
 | .ref n=>opt (iL S n) λxs=>opt (Pp xs) λps=>.ok (.ref S.length) (S++[.oS<|Nq ps])
 | _=>.no
def OF(hc:X.calm=true):jw X (.type "dict") (rN X<|f1 DF):=jw.imp (C1 hc) λvs H Q h0=>by
 ksr_p;clear h0
 cases hv with
 | ref hp=>
  rename_i p n;kj_on;obtain⟨ps,hb,h⟩:=iY h;obtain⟨us,h1,r⟩:=R.lst hp<|i6 hn;obtain⟨rs,qs,rfl,hl,hh,hd⟩:=Vn r hb;refine⟨p,rs,qs,rfl,mP.of h1,hl,hh,λl hl'=>?_⟩;obtain⟨ex,R',hl⟩:=R.Wf (xs:=Nq ps) (vs:=Xv qs) hl'<|hd [] [] trivial;exact h _ _ _ ex R'<|.ref hl
 | _=>exact h.elim
abbrev wX (x:A)(S:iN):R A:=match x with
 | .ref n=>opt (jV S n) λkvs=>.ok (.ref S.length) (S++[.lst<|(sortI<|kvs.map Prod.fst).map .int])
 | _=>.no
def O1{ns:ae}{g:Nat->Nat}(c:Sx.Cl g 0 ns.length)(so:Sx.So (OJ ns) g 0 ns.length):(List.range ns.length).map (λi=>ns.getD (g i) 0)=sortI ns:=by
 refine NB ?_ ?_ (xw ns)
 ·refine List.Perm.trans ?_ (sortI_perm ns).symm;have p:=xJ (N:=ns.length) (g:=g) (λi hi=>(c i (cE _) hi).2) λi j hij hj z=>by
   have:=so i j (cE _) hij hj;rw[z]at this;exact this.NO
  have:=p.map λi=>ns.getD i 0;rw[ck,range_getD]at this;exact this
 ·rw[cY];intro i j hi hj hij;rw[aM,cB]at hi hj;rw[cU,cU,eE,eE];have:=dM (so i j (cE _) hij hj).ge
  lia
def Oa(hc:X.calm=true):jw X (.builtin "sorted") (rN X<|f1 wX):=jw.imp (z0 hc) λvs H Q h0=>by
 ksr_p;clear h0
 cases hv with
 | ref hp=>
  rename_i p n;obtain⟨kvs,hn,h⟩:=iY h;obtain⟨ks,g1,dv⟩:=R.oS hp<|nH hn;refine⟨p,ks,kvs.map Prod.fst,rfl,g1,by rw[dv.keys,ck];rfl,λl g hl' hc hs=>?_⟩;have av:AVs X.K ρ H ((sortI<|kvs.map Prod.fst).map .int) ((List.range (kvs.map Prod.fst).length).map λi=>V.int<|(kvs.map Prod.fst).getD (g i) 0):=by
   rw[<- O1 hc hs,ck];exact Me λi _=>.int _
  exact nB R av .refl h l hl'
 | _=>exact h.elim
@[irreducible] noncomputable def big:Nat:=2 ^ 4096
theorem zS:big=2 ^ 4096:=by unfold big;rfl
def BF{i:Int}(h:i.natAbs<big):Builtin.Int.intBits i<=2 ^ 20:=by
 rw[zS]at h;exact bW (intBits_le h) ⋯
abbrev F0 (a b:A)(S:iN):R A:=match a,b with
 | .int i,.int j=>gd (i.natAbs<big/\j.natAbs<big) (.ok (.int<|i * j) S)
 | _,_=>.no
def Tv:mL X (binaryOp .Mult) (r2 X F0):=λpins s σ H x y v u Q I rx ry h9=>by
 x_go
 cases va with
 | int i=>cases vb with
  | int j=>
   obtain⟨⟨h1,h2⟩,h⟩:=ja h;obtain⟨t,rfl⟩:∃t,v=Value.int i t:=rx;obtain⟨t',rfl⟩:∃t,u=Value.int j t:=ry;exact mul_int ⟨.int _,H,I.tok _,⟨_,rfl⟩,h _ _ _ .refl R<|.int _⟩<|IntMulOk.of_bits (BF h1)<|BF h2
  | _=>exact h.elim
 | _=>exact h.elim
end
def PF:bootBuiltins "dict" = some (.type "dict"):=by decide +kernel
abbrev kA (p:Int×Int):A:=.ktu [.int p.1,.int p.2]
end Am
namespace L2
open PySem PySem.Spec PyProof.Rows
section
variable {X:Cx}{pins:bj}{σ:St}{H:Hp}{s:aC}{a:ak}{xs:List (kO×ak×af)}
def Qe{r:ak}{x:ae}(I:Inv X pins σ H s)(h:H r=some (.tup<|x.map V.int)):TK s.heap x r:=by
 obtain⟨_,its,rv,o,h1,h2,_,n,h3⟩:=(show jG _ _ H s.heap r (.tup<|x.map V.int)from I.hok r _ h);exact⟨o,its.toArray,n,h1,h2,h3,by simpa using intsAre_of rv⟩
def vd{k:kO}(I:Inv X pins σ H s)(h:pT H b k):rW s.heap k b:=by
 obtain⟨r1,r2,h1,h2,h3⟩:=h;obtain⟨_,its,rv,o,e1,e2,_,n,e3⟩:=(show jG _ _ H s.heap b (.tup [.ref r1,.ref r2])from I.hok b _ h1);obtain⟨u1,u2,rfl,q1,q2⟩:=vals2 rv
 cases q1
 cases q2
 exact⟨o,n,r1,r2,e1,e2,e3,Qe I h2,Qe I h3⟩
def JO(I:Inv X pins σ H s)(e:H a=some (.ext<|sA a xs))(hk:∀x∈xs,pT H x.2.1 x.1):(a == sysModules)=false/\xs.length<=sizeLine/\s.heap.DictOfH (Bw X.prog X.w) a xs:=by
 obtain⟨⟨h1,h2,o,es,ep,h3,h4,h5,h6,h7⟩,_⟩:=(show jG _ _ H s.heap a (.ext<|sA a xs)from I.hok a _ e);exact⟨h1,h2,o,es,ep,h3,h4,h5,h6,λx hx=>vd I<|hk x hx,h7⟩
def JU{P:aj}{w:ah}{H':Hp}{h':aq}(h1:(a == sysModules)=false)(h2:xs.length<=sizeLine)(dd:h'.DictOfH (Bw P w) a xs):jG P w H' h' a (.ext<|sA a xs):=by
 obtain⟨o,es,ep,h3,h4,h5,h6,_,h7⟩:=dd;refine⟨⟨h1,h2,o,es,ep,h3,h4,h5,h6,h7⟩,⟨o,h3⟩,λg1 g2 φ k=>?_⟩;obtain⟨q1,q2,o,es,ep,h3,q⟩:=φ;exact⟨q1,q2,o,es,ep,k o h3,q⟩
structure DPg (H:Hp)(a b:ak)(xs:List (kO×ak×af))(k:kO):Prop where
 d:H a=some (.ext<|sA a xs)
 ks:∀x∈xs,pT H x.2.1 x.1
 k:pT H b k
def US(hu:X.A.units+32<cLine):N1 X (λx y H Q=>∃a b xs k p v,x=.ref a/\y=.ref b/\DPg H a b xs k/\atKey xs k=some p/\RelV v p.2/\Q v H):=by
 kst_p;obtain⟨a,b,xs,k,p,z,rfl,rfl,g,hp,rz,q⟩:=h
 cases rx
 cases ry
 obtain⟨h1,h2,dd⟩:=JO I g.d g.ks;have hT:=dd.typeIs;unfold subscriptTail;refine aH ?_;rw[getitemInPython_of_ne hT.not_modules];refine aH<|eF hT PySem.F.slot_dict_getitem.lookup ?_;have fin:wpAny (model X.prog X.w) X.A (subscripted slice false (.ref a)<|.ref b) (λr s₃=>wpAny (model X.prog X.w) X.A (letTemporaryGo value (.ref a) r >>= λ_=>pure r) (EP X pins σ Q) X.xe s₃) X.xe s:=by
  rw[hs];exact wpAny_operating<|wpAny_getItem_heap (show X.A.in1.units+16<cLine by simp;lia) (vd I g.k) dd hp<|aH<|wpAny_letTemporaryGo<|aT ⟨z,H,I.tok _,rz,q⟩
 first
  | exact aT (aH fin)
  | exact aH (aT<|aH fin)
  | exact aH fin
def Hy(hu:X.A.units+32<cLine):mL X (compareOp .NotIn) (λy x H Q=>∃a b xs k,x=.ref a/\y=.ref b/\DPg H a b xs k/\Q (.bl<|!(atKey xs k).isSome) H):=by
 intro pins s σ H y x v u Q I ry rx h;obtain⟨a,b,xs,k,rfl,rfl,g,q⟩:=h
 cases rx
 cases ry
 obtain⟨h1,h2,dd⟩:=JO I g.d g.ks;exact wpAny_notIn_heap (show X.A.in1.units+16<cLine by simp;lia) (vd I g.k) h1 dd ⟨.bl _,H,I.tok _,rfl,q⟩
def BV{xs:List<|kO×ak×af}{k:kO}:(storedH xs k b u).length<=xs.length+1:=by
 unfold storedH;split
 ·rw[aM];lia
 ·rw[bh];exact aO _
def Tp(hu:X.A.units+32<cLine):CJ X (λo i v H Q=>∃a b xs k,o=.ref a/\i=.ref b/\DPg H a b xs k/\xs.length<sizeLine/\∀u,RelV v u->Q (upd H a<|.ext<|sA a<|storedH xs k b u)):=by
 intro pins s σ H o i v ov iv u Q I ro ri rv h;obtain⟨a,b,xs,k,rfl,rfl,g,hl,q⟩:=h
 cases ro
 cases ri
 obtain⟨h1,h2,dd⟩:=JO I g.d g.ks;refine wpAny_setItem_heap (hsz:=h2) (show X.A.in1.units+16<cLine by simp;lia) (vd I g.k) dd λh' dd' hs=>⟨_,?_,q u rv⟩;have he:∃q,h'.get? a=some q:=let⟨q,_,_,hq,_⟩:=dd';⟨q,hq⟩
 exact Ay I (by rw[g.d];exact True.intro) hs he<|JU h1 (bW BV hl) dd'
abbrev RI:TE:=λ_ H Q=>∀p,H p=none->Q (.ref p) (upd H p<|.ext<|sA p [])
def Lf:PE X (.Dict [] [] pos) RI:=λpins s σ H Q I h=>
 wpAny_Dict_empty ⟨.ref s.heap.objs.size,_,I.laid (a:=s.heap.objs.size) (o:=.ext<|sA s.heap.objs.size []) (t':=s.toks) (λ_ _ q=>aP _ q) (aO _)
  (JU (di.mpr<|cN<|bu I.big) (cE _) ⟨_,#[],0,bD _ rfl,⟨rfl,rfl,rfl⟩,rfl,rfl,(nofun),eZ⟩),rfl,h _<|I.hok.fresh<|aO _⟩
end
end L2
namespace Am
open PySem PySem.Spec PyProof.Rows L2
abbrev mO (S:iN)(n:Nat):Option (List<|kO×A):=match S[n]? with
 | some (.n9 xs)=>some xs
 | _=>none
def nK{n:Nat}(h:mO S n=some xs):S[n]?=some (.n9 xs):=by
 unfold mO at h;split at h
 ·rename_i e;cases h;exact e
 ·cases h
def sM{S:iN}{n:Nat}(h:S[n]?=some (.n9 xs)):mO S n=some xs:=by
 unfold mO;rw[h]
abbrev mw (kvs:List<|kO×A)(k:kO):Option A:=(kvs.find? λkv=>decide<|kv.1=k).map (·.2)
abbrev rm (kvs:List<|kO×A)(k:kO)(v:A):List (kO×A):=
 if (mw kvs k).isSome=true then kvs.map (λkv=>if kv.1=k then(kv.1,v)else kv)else kvs++[(k,v)]
abbrev yu (x:A):Option kO:=match x with
 | .tup [.tup xs,.tup ys]=>(A.ints xs).bind λns=>(A.ints ys).map λms=>(ns,ms)
 | _=>none
section
variable {K:au}{ρ:ar}{H:Hp}
def rJ{p:kO×A}{r:List<|kO×A}{k:kO}(e:p.1=k):mw (p::r) k=some p.2:=by simp[mw,cA,e]
def pY{p:kO×A}{r:List<|kO×A}{k:kO}(e:¬p.1=k):mw (p::r) k=mw r k:=by simp[mw,cA,e]
theorem DP.look:∀{kvs:List<|kO×A}{ks:List<|kO×ak×af}(k:kO),DP K ρ H kvs ks->(mw kvs k).isSome=(atKey ks k).isSome/\∀x,mw kvs k=some x->∃p v,atKey ks k=some p/\RelV v p.2/\AV K ρ H x v
 | [],[],k,_=>⟨rfl,λx h=>nomatch h⟩
 | p::r,q::r',k,⟨⟨e,_,v,rv,a⟩,t⟩=>by
  by_cases c:p.1=k
  ·have c':q.1=k:=by rw[e,c]
   have b:atKey (q::r') k=some q.2:=by simp[atKey,cA,c']
   rw[rJ c,b];exact⟨rfl,λx h=>by cases h;exact⟨_,v,rfl,rv,a⟩⟩
  ·have c':¬q.1=k:=λz=>c<|e.symm.trans z;have b:atKey (q::r') k=atKey r' k:=by simp[atKey,cA,c']
   rw[pY c,b];exact DP.look k t
theorem DP.repl{x:A}{v:V}(h:AV K ρ H x v)(rv:RelV v u)(k:kO):∀{kvs:List<|kO×A}{ks:List<|kO×ak×af},DP K ρ H kvs ks->DP K ρ H (kvs.map λkv=>if kv.1=k then(kv.1,x)else kv) (ks.map<|putAt k u)
 | [],[],_=>trivial
 | p::r,q::r',⟨⟨e,ka,z⟩,t⟩=>by
  refine⟨?_,DP.repl h rv k t⟩;dsimp only;unfold putAt;by_cases c:p.1=k
  ·rw[aJ c,aJ<|by rw[e,c]];exact⟨e,ka,v,rv,h⟩
  ·rw[aK c,aK λz=>c<|e.symm.trans z];exact⟨e,ka,z⟩
theorem DP.snoc{x:A}{v:V}(h:AV K ρ H x v)(rv:RelV v u)(k:kO)(hk:pT H b k):∀{kvs:List<|kO×A}{ks:List<|kO×ak×af},DP K ρ H kvs ks->DP K ρ H (kvs++[(k,x)]) (ks++[(k,b,u)])
 | [],[],_=>⟨⟨rfl,hk,v,rv,h⟩,trivial⟩
 | p::r,q::r',⟨a,t⟩=>⟨a,DP.snoc h rv k hk t⟩
def DP.put{x:A}{v:V}(h:AV K ρ H x v)(rv:RelV v u)(k:kO)(hk:pT H b k){ks:List<|kO×ak×af}(d:DP K ρ H kvs ks):DP K ρ H (rm kvs k x) (storedH ks k b u):=by
 unfold rm storedH;rw[<- (d.look k).1];by_cases c:(mw kvs k).isSome=true
 ·rw[aJ c,aJ c];exact DP.repl h rv k d
 ·rw[aK c,aK c];exact DP.snoc h rv k hk d
def DP.length:∀{kvs:List<|kO×A}{ks:List<|kO×ak×af},DP K ρ H kvs ks->kvs.length=ks.length
 | [],[],_=>rfl
 | _::_,_::_,⟨_,t⟩=>c6 (·+1) t.length
def DP.keys:∀{kvs:List<|kO×A}{ks:List<|kO×ak×af},DP K ρ H kvs ks->∀x∈ks,pT H x.2.1 x.1
 | [],[],_,x,h=>nomatch h
 | _::_,q::_,⟨⟨_,ka,_⟩,t⟩,x,h=>by
  rcases bB.mp h with z|z
  ·rw[z];exact ka
  ·exact t.keys x z
def Rel.n9{n:Nat}{a:ak}(R:Rel K ρ H S)(ha:ρ[n]?=some a)(hS:S[n]?=some (.n9 xs)):∃vs,H a=some (.ext<|sA a vs)/\DP K ρ H xs vs:=R.at n a _ ha hS
def Rel.W8{S:iN}{p:ak}(R:Rel K ρ H S)(hp:H p=none):Ext ρ (ρ++[p]) H (upd H p<|.ext<|sA p [])/\Rel K (ρ++[p]) (upd H p<|.ext<|sA p []) (S++[.n9 []])/\(ρ++[p])[S.length]?=some p:=by
 have ex:Ext ρ (ρ++[p]) H (upd H p<|.ext<|sA p []):=⟨⟨eB _ _,λa u _ h=>by rw[iS<|i9 h hp];exact h⟩,λa u h _=>by rw[iS<|i9 h hp];exact h,λa h=>by
  rcases bF.mp h with z|z
  ·exact .inl z
  ·have e:a=p:=by simpa using z
   rw[e];exact .inr hp⟩
 have np:p∉ρ:=R.Ff hp;have last:(ρ++[p])[S.length]?=some p:=by rw[<- R.len];simp
 refine⟨ex,⟨by simp[R.len],?_,?_⟩,last⟩
 ·rw[cW];refine⟨R.nd,by simp,λa ha b hb e=>?_⟩;have:b=p:=by simpa using hb
  exact np<|by rw[<- this,<- e];exact ha
 ·intro n a o h1 h2;by_cases hn:n<S.length
  ·rw[bE<|by rw[R.len];exact hn]at h1;rw[bE hn]at h2;have na:a≠p:=λz=>np (by rw[<- z];exact aX h1);have:=R.at n a o h1 h2
   cases o with
   | lst ys=>obtain⟨ws,e,q⟩:=this;exact⟨ws,by rw[iS na];exact e,q.ext ex⟩
   | dct _|oS _|n9 _=>obtain⟨ws,e,q⟩:=this;exact⟨ws,by rw[iS na];exact e,q.ext ex⟩
   | ins _ _=>obtain⟨oo,uu,e⟩:=this;exact⟨oo,uu,by rw[iS na];exact e⟩
  ·have e:n=S.length:=by
    have:=(aI.mp h2).1;simp at this
    lia
   subst e;rw[last]at h1
   cases h1
   simp at h2;subst h2;exact⟨[],ji,trivial⟩
def Rel.rm{S:iN}{n:Nat}{a:ak}(R:Rel K ρ H S)(ha:ρ[n]?=some a)(hS:S[n]?=some (.n9 xs))(r:DP K ρ H ys ws):Ext ρ ρ H (upd H a<|.ext<|sA a ws)/\Rel K ρ (upd H a<|.ext<|sA a ws) (S.set n<|.n9 ys):=by
 obtain⟨vs,e,_⟩:=R.at n a _ ha hS;have ex:Ext ρ ρ H (upd H a<|.ext<|sA a ws):=⟨⟨dI _,λb u i h=>by
  have:b≠a:=by
   intro z;subst z;rw[e]at h;cases h;exact i
  rw[iS this];exact h⟩,λb u h n=>by
  rw[iS λz=>n<|by rw[z];exact aX ha];exact h,λ_ h=>.inl h⟩
 refine⟨ex,by rw[bN];exact R.len,R.nd,λm b o h1 h2=>?_⟩;by_cases hm:m=n
 ·subst hm;rw[ha]at h1;cases h1;rw[bI (aI.mp hS).1]at h2
  cases h2
  exact⟨ws,ji,r.ext ex⟩
 ·rw[bP<|cN hm]at h2;have nb:b≠a:=λz=>by
   subst z;obtain⟨l1,e1⟩:=aI.mp ha;obtain⟨l2,e2⟩:=aI.mp h1;exact hm<|(cZ R.nd).mp<|e2.trans e1.symm
  have:=R.at m b o h1 h2
  cases o with
  | lst ys=>obtain⟨ws',e',q⟩:=this;exact⟨ws',by rw[iS nb];exact e',q.ext ex⟩
  | dct _|oS _|n9 _=>obtain⟨ws',e',q⟩:=this;exact⟨ws',by rw[iS nb];exact e',q.ext ex⟩
  | ins _ _=>obtain⟨oo,uu,e'⟩:=this;exact⟨oo,uu,by rw[iS nb];exact e'⟩
def AZ{x:A}{v:V}{k:kO}(a:AV K ρ H x v)(h:yu x=some k):∃b,v=.ref b/\pT H b k:=by
 unfold yu at h;split at h
 ·rename_i xs ys;obtain⟨ns,h1,h⟩:=b6.mp h;obtain⟨ms,h2,e⟩:=bz.mp h;subst e
  cases a with
  | @tup b _ vs hb r=>
   obtain⟨w1,w2,rfl,z1,z2⟩:=Rp r
   cases z1 with
   | @tup c1 _ vs1 g1 r1=>
    cases z2 with
    | @tup c2 _ vs2 g2 r2=>
     have e1:=vp r1 h1;have e2:=vp r2 h2;subst e1 e2;exact⟨b,rfl,c1,c2,hb,g1,g2⟩
 ·cases h
end
section
variable {X:Cx}{pos:Pos}{a b:aE}
abbrev HF (x y:A)(S:iN):R A:=match x with
 | .ref n=>opt (mO S n) λkvs=>opt (yu y) λk=>opt (mw kvs k) λv=>.ok v S
 | _=>.no
def Vi(hu:X.A.units+64<cLine):N1 X (r2 X HF):=λvalue slice pins s σ H x y v u Q I rx ry ⟨ρ,S,a,b,R,va,vb,h⟩ hs=>by
 cases va with
 | @ref p n hp=>
  obtain⟨kvs,hn,h⟩:=iY h;obtain⟨k,hk,h⟩:=iY h;obtain⟨z,hz,h⟩:=iY h;obtain⟨ks,e,d⟩:=R.n9 hp<|nK hn;obtain⟨q,rfl,kq⟩:=AZ vb hk;obtain⟨pp,w,hw,rw',aw⟩:=(d.look k).2 z hz;exact US () value slice pins s σ H _ _ v u Q I rx ry ⟨p,q,ks,k,pp,w,rfl,rfl,⟨e,d.keys,kq⟩,hw,rw',h _ _ _ .refl R aw⟩ hs
 | _=>exact h.elim
def SO(hu:X.A.units+64<cLine){ca cb:Ex}(ha:AE X a ca)(hb:AE X b cb)(hs:vn b:=by exact λ_ _=>rfl):AE X (.Subscript a b pos) (iU HF ca cb):=PE.imp (JV (Vi hu) ha hb hs) λσ H Q h=>rL h
abbrev Mc (neg:Bool)(x y:A)(S:iN):R A:=match y with
 | .ref n=>opt (mO S n) λkvs=>opt (yu x) λk=>.ok (.bl<|if neg then !(mw kvs k).isSome else(mw kvs k).isSome) S
 | _=>.no
def Ma(hu:X.A.units+64<cLine):mL X (compareOp .NotIn) (r2 X<|Mc true):=λpins s σ H x y v u Q I rx ry h9=>by
 x_go
 cases vb with
 | @ref p n hp=>
  obtain⟨kvs,hn,h⟩:=iY h;obtain⟨k,hk,h⟩:=iY h;obtain⟨ks,e,d⟩:=R.n9 hp<|nK hn;obtain⟨q,rfl,kq⟩:=AZ va hk;exact Hy () pins s σ H _ _ v u Q I rx ry ⟨p,q,ks,k,rfl,rfl,⟨e,d.keys,kq⟩,by rw[<- (d.look k).1];exact h _ _ _ .refl R<|.bl _⟩
 | _=>exact h.elim
abbrev Cg (o i v:A)(S:iN):R Unit:=match o with
 | .ref n=>opt (mO S n) λkvs=>opt (yu i) λk=>gd (kvs.length<sizeLine) (.ok Unit.unit<|S.set n<|.n9<|rm kvs k v)
 | _=>.no
abbrev Xz (X:Cx):Cw:=λo i v H Q=>∃ρ S ao ai av,Rel X.K ρ H S/\AV X.K ρ H ao o/\AV X.K ρ H ai i/\AV X.K ρ H av v/\(Cg ao ai av S).post (λ_ S'=>∀ρ' H',Ext ρ ρ' H H'->Rel X.K ρ' H' S'->Q H') (XE X ρ H)
def Pg(hu:X.A.units+64<cLine):CJ X (Xz X):=λpins s σ H o i v ov iv u Q I ro ri rv h9=>by
 obtain⟨ρ,S,ao,ai,av,R,h1,h2,h3,h⟩:=h9
 cases h1 with
 | @ref p n hp=>
  obtain⟨kvs,hn,h⟩:=iY h;obtain⟨k,hk,h⟩:=iY h;obtain⟨hl,h⟩:=ja h;obtain⟨ks,e,d⟩:=R.n9 hp<|nK hn;obtain⟨q,rfl,kq⟩:=AZ h2 hk;refine Tp () pins s σ H _ _ v ov iv u Q I ro ri rv ⟨p,q,ks,k,rfl,rfl,⟨e,d.keys,kq⟩,by rw[<- d.length];exact hl,λu' ru=>?_⟩;obtain⟨ex,R'⟩:=R.rm hp (nK hn)<|d.put h3 ru k kq;exact h _ _ ex R'
 | _=>exact h.elim
abbrev L6 (co ci:Ex):Tg:=λa τ S=>(co τ S).bind λo S1=>(ci τ S1).bind λi S2=>(Cg o i a S2).bind λ_ S3=>.ok τ S3
def AO(hu:X.A.units+64<cLine){co ci:Ex}(ho:AE X o co)(hi:AE X i ci)
  (ha:∀v,assign (.Subscript o i pos) X.env v=(do
   let ov <- holding [v] (eval o X.env)
   let iv <- holding [v,ov] (eval i X.env)
   standAt pos
   holding [v,ov,iv] (setItem ov iv v)
   release [v,ov,iv] []):=by intro _;rfl):AG X (.Subscript o i pos) (L6 co ci):=PG.imp (Dk ho hi (Pg hu) ha) λv σ H Q h9=>by
 obtain⟨ρ,S,τ,a,R,r,va,h⟩:=h9;gp_on;kpc_g;f_are
abbrev Au:Ex:=λ_ S=>.ok (.ref S.length)<|S++[.n9 []]
def MF:AE X (.Dict [] [] pos) Au:=PE.imp Lf λσ H Q ⟨ρ,S,τ,R,r,h⟩ p hp=>by
 obtain⟨ex,R',hl⟩:=R.W8 hp;exact h _ _ _ ex R'<|.ref hl
end
end Am
namespace L2
open PySem PySem.Spec PyProof.Rows
section
variable {X:Cx}
abbrev QB (i j:Int):ae:=(List.range (i-j).toNat).map λk:Nat=>i-(k:Int)
def NW(i j:Int):(QB i j).length=(i-j).toNat:=by unfold QB;rw[aM,cB]
theorem wJ{f:Nat->Int}{h:Nat->af}:∀(l:ag),(∀i∈l,∃t,h i=.int (f i) t)->Vals (l.map λi=>V.int<|f i) (l.map h)
 | [],_=>.nil
 | i::l,e=>.cons (e i<|aN ..)<|wJ l λj hj=>e j<|aQ _ hj
def Jg{i:Int}{n:Nat}{acc:Array af}(h:ItemsOf (λk v=>∃t,v=Value.int (i+(k:Int) * (-1)) t) acc n):Vals (((List.range n).map λk:Nat=>i-(k:Int)).map V.int) acc.toList:=by
 obtain⟨hs,h⟩:=h;have e:acc.toList=(List.range n).map λk=>acc.toList.getD k .none:=by
  refine gw (by simp[hs]) λk h1 h2=>?_;rw[cU,eE,aL,aG h1];rfl
 rw[e,ck];refine wJ _ λk hk=>?_;have hk:=cV.mp hk;obtain⟨t,ht⟩:=h k (acc.toList.getD k .none) (by rw[<- eO,aL,aG<|by simp[hs];exact hk];rfl);exact⟨t,by rw[ht];congr 1;lia⟩
def wN(l:ak){a b:Int}{v:Tok}{n:Nat}(hsmall:Builtin.Range.small a b (-1)=true)(hn:Builtin.Range.rangeSize a b (-1)=n)(hlen:n<=1000) :
  Meets (Builtin.«tuple.__new__» ⟨[.type "tuple",.ref l],[]⟩)
   (λA R s=>A.handled=none/\IsRange s.heap l a b (-1) t u v/\∀(h':aq) (tk:Nat) (acc':Array af),(∀b o',s.heap.get? b=some o'->h'.get? b=some o')->ItemsOf (λi v=>∃t,v=.int (a+i * (-1)) t) acc' n->R (.ok<|.ret<|.ref h'.objs.size) { s with heap:=h'.push { cls:=.type "tuple",data:=.seq acc' },toks:=tk }):=
 .of_wp λprog w A R s h=>by
  obtain⟨hp,g,d,tk,os⟩:=s;obtain⟨hh,ht,h⟩:=h;have hsub:=sub_tuple_self;have hinit:=init_tuple_lookup;have hmh:=madeHere_tuple;have hT:Shared.TypeIs ⟨hp,g,d,tk,os⟩ (.ref l) "range" := ⟨_,ht,rfl⟩;have hh':A.in1.handled=none:=hh
  wp_walk using AutoSeq1.wpAny_loadPart' ht,iD hT,uY (A:=A.in1) hh' ht hsmall hn ()
  intro h' tk' acc' hk hacc;show wpAny _ _ (Builtin.Tuple.tupleExact acc'.toList.toArray >>= λv=>ret v) _ _ _;unfold Builtin.Tuple.tupleExact;have e:acc'.toList.toArray=acc':=by simp
  refine aH (dc ?_<|by show acc'.toList.toArray.size<=sizeLine;rw[e,hacc.1,cH];lia);refine aT ⟨_,rfl,?_⟩;rw[e];exact h h' tk' acc' hk hacc
abbrev Ye (o:Obj)(i j:Int):Prop:=∃t u v:Tok,o={ cls:=.type "range",data:=.fields #[.int i t,.int j u,.int (-1) v]}
def C9:jw X (.type "range") (λxs H Q=>∃i j,xs=[.int i,.int j,.int<|-1]/\∀r o,Ye o i j->H r=none->Q (.ref r) (upd H r<|.frz o<|.own r)):=by
 kt_k;obtain⟨i,j,rfl,q⟩:=h
 cases r with
 | cons r rr=>cases rr with
  | cons r' rr=>cases rr with
   | cons r'' rr=>
    cases rr
    obtain⟨t,rfl⟩:=r;obtain⟨t',rfl⟩:=r';obtain⟨t'',rfl⟩:=r'';have hn:(s.heap.push { cls:=.type "range",data:=.fields #[.int i t,.int j t',.int (-1) t'']}).get? s.heap.objs.size=some { cls:=.type "range",data:=.fields #[.int i t,.int j t',.int (-1) t'']}:=bD _ rfl;exact call_range_3 ⋯ ⟨.ref s.heap.objs.size,_,I.laid (o:=.frz _<|.own s.heap.objs.size) (t':=s.toks) (λb o e=>aP _ e) (aO _) ⟨hn,_,hn⟩,rfl,q _ _ ⟨_,_,_,rfl⟩ I.fresh⟩
def DW(hc:X.calm=true):jw X (.type "tuple") (λxs H Q=>∃p i j o u,xs=[.ref p]/\H p=some (.frz o u)/\Ye o i j/\(-(2 ^ 62)<=i/\i<2 ^ 62/\-(2 ^ 62)<=j/\j<2 ^ 62)/\(i-j).toNat<=1000/\∀l,H l=none->Q (.ref l) (upd H l<|.tup<|(QB i j).map V.int)):=by
 kt_k;obtain⟨p,i,j,o,u0,rfl,hp,⟨t,u',v,rfl⟩,⟨b1,b2,b3,b4⟩,hn,q⟩:=h;kcj_m
 cases rx
 have e:=(show jG _ _ H s.heap p (.frz _ u0)from I.hok p _ hp).1;have sz:Builtin.Range.rangeSize i j (-1)=(((i-j).toNat:Nat):Int):=by rw[zu];split<;>lia
 refine callType_new F.called_tuple ⋯ (F.typeCall_tuple_1 _) (F.newCall_tuple_1 _) (λobj=>F.args_object_init_2 obj _) F.entry_tuple_new
  (wN (n:=(i-j).toNat) p (small_down b1 b2 b3 b4) sz hn) ⟨I.ok.hd hc,e,λh' tk acc' hk hacc=>⟨⟨_,bD _ rfl,rfl⟩,?_⟩⟩
 have I1:Inv X pins σ H { s with heap:=h',toks:=tk }:=I.kept hk;refine⟨.ref h'.objs.size,_,I1.laid (t':=tk) (o:=.tup<|(QB i j).map V.int) (λb o e=>aP _ e) (aO _) ⟨?_,acc'.toList,Jg hacc,?_⟩,rfl,q _<|I1.hok.fresh<|aO _⟩
 ·rw[aM,NW,cH];lia
 ·have e:acc'.toList.toArray=acc':=by simp
  rw[e];exact ng.new _ _
end
end L2
namespace Am
open PySem PySem.Spec PyProof.Rows L2
section
variable {X:Cx}{a b c0:aE}{pos:Pos}
abbrev WR (a b k:A)(S3:iN):R A:=match a,b,k with
 | .int i,.int j,.int m=>gd (m=-1/\bnd i/\bnd j/\(i-j).toNat<=1000) (.ok (.tup<|(QB i j).map .int) S3)
 | _,_,_=>.no
def M3{a b k:A}{P:A->iN->Prop}{E:Str->iN->Prop}(h:(WR a b k S3).post P E):∃i j,a=.int i/\b=.int j/\k=.int (-1)/\bnd i/\bnd j/\(i-j).toNat<=1000/\P (.tup<|(QB i j).map .int) S3:=by
 unfold WR at h;split at h
 ·obtain⟨⟨z,h1,h2,h3⟩,h⟩:=ja h;exact⟨_,_,rfl,rfl,by rw[z],h1,h2,h3,h⟩
 ·exact h.elim
abbrev Og (c d e:Ex):Ex:=λτ S=>(c τ S).bind λa S1=>(d τ S1).bind λb S2=>(e τ S2).bind λk S3=>WR a b k S3
def Mf{x:Str}{p pos:Pos}{c d e:Ex}(hcl:X.calm=true)(hm:X.mg x=none)(hv:bootBuiltins x=some (.type "tuple"))(hm':X.mg y=none)(hv':bootBuiltins y=some (.type "range"))(ha:AE X a c)(hb:AE X b d)(hc:AE X c0 e)
  (hg:Gl X x:=by rfl) (hn:x ≠ "__name__" := by decide) (hdb:(x == ("__debug__" : Str))=false:=by decide) (hg':Gl X y:=by rfl) (hn':y ≠ "__name__" := by decide) (hdb':(y == ("__debug__" : Str))=false:=by decide)
  (hs:starEach [a,b,c0] X.env=(false,eval a X.env)::starEach [b,c0] X.env:=by rfl) (hs2:starEach [b,c0] X.env=(false,eval b X.env)::starEach [c0] X.env:=by rfl) (hs3:starEach [c0] X.env=(false,eval c0 X.env)::starEach [] X.env:=by rfl) (hpl':(backTo cpos<|starEach [b,c0] X.env).any (·.1)=false:=by rfl)
  (he:starEach [.Call (.Name y p') [a,b,c0] [] cpos] X.env=(false,eval (.Call (.Name y p') [a,b,c0] [] cpos) X.env)::starEach [] X.env:=by rfl) (hpl:(backTo pos<|starEach [] X.env).any (·.1)=false:=by rfl) :
  AE X (.Call (.Name x p) [.Call (.Name y p') [a,b,c0] [] cpos] [] pos) (Og c d e):=
 PE.imp (uy (DW hcl) hg hm hv (kZ (uy C9 hg' hm' hv' (kZ ha (kZ hb (kZ hc qi hs3) hs2) hs) hn' hdb' hs hpl') qi he) hn hdb he hpl) λσ H Q h9=>by
  z_go;refine⟨ρ,S,τ,R,r,iM (iR h) .refl λx S1 h1 ρ1 H1 v e1 R1 v1=>⟨ρ1,S1,τ,R1,r.ext e1,iM (iR h1) e1 λy S2 h2 ρ2 H2 w e2 R2 v2=>⟨ρ2,S2,τ,R2,(r.ext e1).ext e2,iM (iR h2) (e1.trans e2) λz S3 h3 ρ3 H3 u e3 R3 v3=>?_⟩⟩⟩;obtain⟨i,j,hx,hy,hz,hk1,hk2,hk3,h4⟩:=M3 h3;subst hx hy hz
  cases v1
  cases v2
  cases v3
  refine⟨_,_,rfl,λr' o hO hr=>?_⟩;obtain⟨ex,R4⟩:=R3.im (u:=.frz o<|.own r') hr;exact⟨r',_,_,o,_,rfl,ji,hO,⟨hk1.1,hk1.2,hk2.1,hk2.2⟩,hk3,rA R4 (qY _) (((e1.trans e2).trans e3).trans ex) h4⟩
def NK{c d e:Ex}{i j:Int}(h:c τ S=.ok (.int i) S1)(h':d τ S1=.ok (.int j) S2)(h'':e τ S2=.ok (.int<|-1) S3)(hb:bnd i)(hb':bnd j)(hl:(i-j).toNat<=1000):Og c d e τ S=.ok (.tup<|(QB i j).map .int) S3:=by
 unfold Og;rw[h];show(d τ S1).bind _=_;rw[h'];show(e τ S2).bind _=_;rw[h''];exact aJ ⟨rfl,hb,hb',hl⟩
end
end Am
namespace L2
open PySem PySem.Spec PyProof.Rows
section
variable {X:Cx}
def Gb:∀{vs:ap},vs.length<2->(vs.toArray.zip vs.toArray).map (·.2)=vs.toArray
 | [],_=>by simp
 | [_],_=>by simp
 | _::_::_,h=>absurd h<|by simp
def IT{prog:aj}{w:ah}{A:aA}{E:af->aC->Prop}{s:aC}{a:ak}{vs:ap}{n:Nat}{P:PySem.Fin->aC->Prop}(hL:s.heap.get? a=some (seqObj "list" vs.toArray n))(h2:vs.length<2)
  (h:P (.done<|.ret .none) { s with heap:=sortedHeap s.heap a vs vs.toArray }) :
  wpAny (model prog w) A (Builtin.«list.sort» ⟨[.ref a],[]⟩) P E s:=by
 rw[list_sort_plain];have lta:a<s.heap.objs.size:=aV hL;have hz:vs.toArray.size=vs.length:=by simp
 refine aH<|listItems_at hL rfl ?_;refine aH (gC hL rfl ?_ (by rw[hz,cH];lia)<|cE _);obtain⟨ep,hL1⟩:∃ep,(s.heap.update a<|Obj.mapSeq λ_=>#[]).get? a=some (seqObj "list" #[] ep):=⟨_,get?_update_seq hL λ_=>#[]⟩;refine aH<|seqEpoch_at hL1 rfl ?_;refine aH<|wpAny_newTuple ?_;refine aH<|ir ?_;refine cG ?_;have hL6:(((s.heap.update a<|Obj.mapSeq λ_=>#[]).push<|seqObj "tuple" vs.toArray 0).push<|seqObj "list" #[] 0).get? a=some (seqObj "list" #[] ep):=by
  rw[fZ _ _ _<|by rw[size_push',gu];exact bu<|f6 lta,fZ _ _ _<|by rw[gu];exact bu lta];exact hL1
 show wpAny (model prog w) A _ P E { s with heap:=((s.heap.update a<|Obj.mapSeq λ_=>#[]).push<|seqObj "tuple" vs.toArray 0).push<|seqObj "list" #[] 0};dsimp only;rw[aJ (),aJ ()];refine aH<|aT ?_;rw[StateT.run_pure];refine aH<|aT ?_;dsimp only;refine aH<|seqEpoch_at hL6 rfl ?_;refine aH (gC hL6 rfl ?_ (by simp) (hsz2:=by show((vs.toArray.zip vs.toArray).map (·.2)).size<=_;rw[Gb h2,hz,cH];lia));dsimp[h_,bq,bX];refine aT ?_;rw[<- Gb h2]at h;exact h
def zO:jw X (.builtin "sorted") (λxs H Q=>∃(p:ak) (vs:List V),xs=[.ref p]/\mP X.K H p vs/\vs.length<2/\∀l,H l=none->Q (.ref l) (upd H l<|.lst vs)):=by
 kt_k;obtain⟨p,vs,rfl,hq,h2,q⟩:=h;kcj_m
 cases rx
 obtain⟨its,rv,pl,hz⟩:=I.list hq;obtain⟨o,ho,hcl,n,hd⟩:=pl.isList;have hl:its.length=vs.length:=rv.length.symm;refine Calls.call_function_entry kind_sorted plain_sorted entry_sorted (args_sorted1 _) ?_;unfold Builtin.«sorted»;refine aH (m:=checkCount "sorted" 1 1 _)<|aT ?_;refine aH (wpAny_collect_seq p (.inl rfl) ho hcl hd (λh' hk=>?_)<|by rw[aZ,hl,cH];lia);have I1:Inv X pins σ H { s with heap:=h' }:=I.kept (t':=s.toks) hk;refine aH<|ir ?_;have hoL:(h'.push<|seqObj "list" its.toArray 0).get? h'.objs.size=some (seqObj "list" its.toArray 0):=bD _ rfl;show wpAny _ _ _ _ _ { s with heap:=h'.push<|seqObj "list" its.toArray 0};refine aH<|cG<|fh slot_list_sort ⟨_,hoL,rfl⟩ entry_list_sort (IT hoL () ⟨_,rfl,?_⟩)<|args_list_sort _;obtain⟨e,he⟩:=sortedHeap_at (out:=its.toArray) hoL;have old:∀b ob,h'.get? b=some ob->(sortedHeap (h'.push<|seqObj "list" its.toArray 0) h'.objs.size its its.toArray).get? b=some ob:=λb ob eb=>by
  rw[sortedHeap_old (bu<|aV eb)<|by rw[gR];exact f6<|aV eb];exact aP _ eb
 refine aT ⟨_,rfl,.ref h'.objs.size,_,I1.laid (t':=s.toks) (o:=.lst vs) old (aO _) ?_,rfl,q _<|I1.hok.fresh<|aO _⟩;exact⟨by rw[cH];lia,its,e,rv,he⟩
end
end L2
namespace Am
open PySem PySem.Spec PyProof.Rows L2
section
variable {X:Cx}
abbrev Ah (x:A)(S:iN):R A:=match x with
 | .ref n=>opt (iL S n) λxs=>gd (xs.length<2) (.ok (.ref S.length)<|S++[.lst xs])
 | _=>.no
def Ob:jw X (.builtin "sorted") (rN X<|f1 Ah):=jw.imp zO λvs H Q h0=>by
 ksr_p;clear h0
 cases hv with
 | ref hp=>
  rename_i p n;kj_on;obtain⟨h2,h⟩:=ja h;obtain⟨us,h1,r⟩:=R.lst hp<|i6 hn;exact⟨p,us,rfl,mP.of h1,by rw[<- r.length];exact h2,λl hl=>nB R r .refl h l hl⟩
 | _=>exact h.elim
end
end Am
namespace K37
open PySem L2 Am
abbrev top (i:Nat):aF:=PySem.Challenge.pw_undercells_k37_rests_refused.main.body.getD i<|.Pass ⟨0,0,0,0⟩
meta abbrev sG:aF:=top 11
meta abbrev sE:am:=["thing"]
meta abbrev sJ:am:=["thing"]
abbrev sD:Sm:=
 ku (IC (jk (f2 OZ)<|iI (iK 0)<|iI (eC<|.ty "int") iW)<|QY<|jk (f2 OZ)<|iI (iK 0)<|iI (eC<|.ty "bool") iW)
abbrev nZ:ad->iN->R A:=jQ sE sD
meta abbrev rf:aF:=top 12
meta abbrev oM:am:=["one", "other"]
meta abbrev ow:am:=["one", "other"]
abbrev oJ:Sm:=
 yl (qS<|iU (rZ true) (jk (f1 mT)<|iI (iK 0) iW)<|jk (f1 mT)<|iI (iK 1) iW)
 (uh "NoPair" [.inl "orders of ",.inr<|jk (f1 mT)<|iI (iK 0) iW,.inl " and of ",.inr<|jk (f1 mT)<|iI (iK 1) iW,.inl " things"])
 qd
abbrev jP:ad->iN->R A:=jQ oM oJ
meta abbrev pK:aF:=top 13
meta abbrev oY:am:=["n", "thing"]
meta abbrev pC:am:=["n", "thing"]
abbrev oQ:Sm:=
 ku (IC (eFn nZ<|iI (iK 1) iW)<|UG UH Oc (eC<|.int 1) (iK 1)<|iK 0)
abbrev lD:ad->iN->R A:=jQ oY oQ
meta abbrev lR:aF:=top 14
meta abbrev kD:am:=["order", "i", "j", "things"]
meta abbrev kh:am:=["order", "i", "j"]
abbrev kB:Sm:=
 jl (jC (jk (f1 uN)<|iI (iK 0) iW)<|jW 3)
 (jl (jC (qj<|iI (iU qy (iK 3)<|iU aSub (iK 2)<|eC<|.int 1)<|iI (iU qy (iK 3)<|iU aSub (iK 1)<|eC<|.int 1) iW)<|Ed 2<|uP (Qw (iK 3)<|iU aSub (iK 1)<|eC<|.int 1)<|uP (Qw (iK 3)<|iU aSub (iK 2)<|eC<|.int 1) EY)
 (ku<|jk (f1 qx)<|iI (iK 3) iW))
abbrev jc:ad->iN->R A:=jQ kD kB
meta abbrev qP:aF:=top 15
meta abbrev qW:am:=["order", "k"]
meta abbrev qT:am:=["order", "k"]
abbrev qI:Sm:=
 jl (yl (Bq<|zV<|eFn lD<|iI (jk (f1 mT)<|iI (iK 0) iW)<|iI (iK 1) iW)
 (uh "NoWord" [.inl "no exchange of ",.inr<|jk (f1 mT)<|iI (iK 0) iW,.inl " things"])
 qd)
 (ku<|eFn jc<|iI (iK 0)<|iI (iK 1)<|iI (iU j4 (iK 1)<|eC<|.int 1) iW)
abbrev lX:ad->iN->R A:=jQ qW qI
meta abbrev pG:aF:=top 16
meta abbrev o_:am:=["n"]
meta abbrev mZ:am:=["n"]
abbrev pM:Sm:=
 ku (Dm [none,none,some 0] (qE (eC<|.int 1)<|iK 0) (jW 0) A6 (qE (iU j4 (iK 0)<|eC<|.int 1)<|iU j4 (iK 2)<|eC<|.int 1) (jW 1) A6<|qj<|iI (iK 0)<|iI (iK 1) iW)
abbrev jM:ad->iN->R A:=jQ o_ pM
meta abbrev pO:aF:=top 17
meta abbrev oZ:am:=["order"]
meta abbrev o8:am:=["order"]
abbrev pI:Sm:=
 ku (lY [none,none,some 0] (sR<|eFn jM<|iI (jk (f1 mT)<|iI (iK 0) iW) iW) (Ed 2<|uP (jW 0)<|uP (jW 1) EY) (qS<|iU IM (iU qy (iK 2)<|iU aSub (iK 0)<|eC<|.int 1)<|iU qy (iK 2)<|iU aSub (iK 1)<|eC<|.int 1)<|qj<|iI (iK 0)<|iI (iK 1) iW)
abbrev lC:ad->iN->R A:=jQ oZ pI
meta abbrev xP:aF:=top 18
meta abbrev we:am:=["order"]
meta abbrev vU:am:=["order"]
abbrev yf:Sm:=
 ku (jk (f1 mT)<|iI (eFn lC<|iI (iK 0) iW) iW)
abbrev nV:ad->iN->R A:=jQ we yf
meta abbrev AR:aF:=top 19
meta abbrev zZ:am:=["order"]
meta abbrev Ar:am:=["order"]
abbrev zU:Sm:=
 ku (lY [none,some 0] (qE (eC<|.int 1)<|jk (f1 mT)<|iI (iK 0) iW) (jW 0) (qS<|iU IM (iU qy (iK 1)<|iU aSub (iK 0)<|eC<|.int 1)<|iU qy (iK 1)<|iK 0)<|iK 0)
abbrev rB:ad->iN->R A:=jQ zZ zU
meta abbrev kP:aF:=top 22
meta abbrev kU:am:=["numbers", "place"]
meta abbrev kW:am:=["numbers"]
abbrev mE:Te:=
 qS (iU UH (iU qy (iK 0)<|iU aSub (iK 1)<|eC<|.int 1)<|eC<|.int 0)
abbrev mH:Sm:=
 M9 1 Hw (eC<|.int 1)
abbrev kY:Sm:=
 jl (jC (eC<|.int 1)<|jW 1)
 (jl (lT mE
 mH 1000000)
 (ku<|iK 1))
abbrev jE:ad->iN->R A:=jQ kU kY
meta abbrev MT:aF:=top 21
meta abbrev Lm:am:=["one", "other", "more", "at", "j"]
meta abbrev Jq:am:=["one", "other"]
abbrev Gk:Ic:=
 p9 (iU qy (iK 0)<|iK 3)
abbrev G3:Sm:=
 ya (iK 2) (iK 4) (eC<|.int 1) Hw
abbrev EZ:Ic:=
 p9 (iU qy (iK 1)<|iK 3)
abbrev F7:Sm:=
 ya (iK 2) (iK 4) (eC<|.int 1) aSub
abbrev Oe:Ic:=
 p9 (jk (f1 mT)<|iI (iK 0) iW)
abbrev Ft:Sm:=
 jl (nU Gk (jW 4)
 G3)
 (jl (nU EZ (jW 4)
 F7)
 (yl (qS<|iU IM (jk (f1 Mm)<|iI (iK 2) iW)<|eC<|.int 0)
 (ku<|qj<|iI (iU j4 (iK 3)<|eC<|.int 1)<|iI (eFn jE<|iI (iK 2) iW) iW)
 qd))
abbrev Jm:Sm:=
 jl (qf<|nE jP<|iI (iK 0)<|iI (iK 1) iW)
 (jl (jC (iU w6 (nJ<|iI (eC<|.int 0) iW)<|jk (f1 mT)<|iI (iK 0) iW)<|jW 2)
 (jl (nU Oe (jW 3)
 Ft)
 (ku<|eC .non)))
abbrev zz:ad->iN->R A:=jQ Lm Jm
meta abbrev su:aF:=top 23
meta abbrev qA:am:=["one", "other"]
meta abbrev nO:am:=["one", "other"]
abbrev qw:Sm:=
 ku (iU (ID false) (nE zz<|iI (iK 0)<|iI (iK 1) iW)<|eC .non)
abbrev kj:ad->iN->R A:=jQ qA qw
meta abbrev pF:aF:=top 25
meta abbrev jU:am:=["one", "other", "free_things", "most_things", "most_pairs"]
meta abbrev pL:am:=["one", "other", "free_things", "most_things", "most_pairs"]
abbrev jT:Sm:=
 jl (yl (qS<|iU UH (jk (f1 mT)<|iI (iK 0) iW)<|iK 2)
 (MD)
 qd)
 (yl (NF (qS<|iU IM (jk (f1 mT)<|iI (iK 0) iW)<|iK 3)<|qS<|iU IM (iU aSub (eFn nV<|iI (iK 1) iW)<|eFn nV<|iI (iK 0) iW)<|iK 4)
 (uh "TooMany" [])
 qd)
abbrev jf:ad->iN->R A:=jQ jU jT
meta abbrev ni:aF:=top 27
meta abbrev nc:am:=["numbers"]
meta abbrev lN:am:=["numbers"]
abbrev nj:Sm:=
 ku (lY [none,some 0] (sR<|jk (f1 wX)<|iI (iK 0) iW) (jW 0) (qS<|iU (rZ true) (iU wK (iK 1)<|iK 0)<|eC<|.int 0)<|qj<|iI (iK 0)<|iI (iU wK (iK 1)<|iK 0) iW)
abbrev jH:ad->iN->R A:=jQ nc nj
meta abbrev D4:aF:=top 28
meta abbrev CU:am:=["one", "other", "numbers", "power", "number"]
meta abbrev C6:am:=["one", "other"]
abbrev sS:Ic:=
 sR (iK 1)
abbrev CG:Sm:=
 jC (iU j4 (HZ uO (iK 2)<|iI (iK 3)<|iI (eC<|.int 0) iW)<|iK 4) (Iu (iK 2)<|iK 3)
abbrev DX:Sm:=
 jl (jC (jk (f1 DF)<|iI (iK 0) iW)<|jW 2)
 (jl (nU sS (Ed 2<|uP (jW 3)<|uP (jW 4) EY)
 CG)
 (ku<|eFn jH<|iI (iK 2) iW))
abbrev xy:ad->iN->R A:=jQ CU DX
meta abbrev AK:aF:=top 29
meta abbrev zH:am:=["one", "other", "numbers", "power", "number", "high", "many"]
meta abbrev AX:am:=["one", "other"]
abbrev IE:Ic:=
 sR (iK 1)
abbrev HJ:Sm:=
 jC (iU j4 (HZ uO (iK 2)<|iI (iU j4 (iK 3)<|iK 5)<|iI (eC<|.int 0) iW)<|iU F0 (iK 4)<|iK 6) (Iu (iK 2)<|iU j4 (iK 3)<|iK 5)
abbrev zf:Ic:=
 sR (iK 0)
abbrev yP:Sm:=
 nU IE (Ed 2<|uP (jW 5)<|uP (jW 6) EY)
 HJ
abbrev zT:Sm:=
 jl (jC DE<|jW 2)
 (jl (nU zf (Ed 2<|uP (jW 3)<|uP (jW 4) EY)
 yP)
 (ku<|eFn jH<|iI (iK 2) iW))
abbrev rO:ad->iN->R A:=jQ zH zT
meta abbrev qZ:aF:=top 34
meta abbrev j_:am:=["one", "other"]
meta abbrev oE:am:=["one", "other"]
abbrev j9:Sm:=
 jl (qf<|nE jP<|iI (iK 0)<|iI (iK 1) iW)
 (qf<|nE jf<|iI (iK 0)<|iI (iK 1)<|iI (eC<|.int 5)<|iI (eC<|.int 8)<|iI (eC<|.int 6) iW)
abbrev jh:ad->iN->R A:=jQ j_ j9
meta abbrev n_:aF:=top 37
meta abbrev jZ:am:=["one", "other", "known", "k", "less", "told"]
meta abbrev kQ:am:=["one", "other", "known"]
abbrev jF (Fs:ad->iN->R A):Sm:=
 jl (jC (iU qy (eFn rB<|iI (iK 1) iW)<|eC<|.int 0)<|jW 3)
 (jl (jC (nE lX<|iI (iK 1)<|iI (iK 3) iW)<|jW 4)
 (jl (jC (nE Fs<|iI (nE lX<|iI (iK 0)<|iI (iK 3) iW)<|iI (iK 4)<|iI (iK 2) iW)<|jW 5)
 (jl (yl (qS<|iU (XD false) (iK 3)<|eFn rB<|iI (iK 0) iW)
 (ku<|iK 5)
 qd)
 (ku<|eFn xy<|iI (iK 5)<|iI (eFn rO<|iI (nJ<|iI (qj<|iI (eC<|.int 1)<|iI (eC<|.int 1) iW) iW)<|iI (nE Fs<|iI (iK 0)<|iI (iK 4)<|iI (iK 2) iW) iW) iW))))
meta abbrev nG:aF:=top 36
meta abbrev kC:am:=["one", "other", "known", "pair"]
meta abbrev jN:am:=["one", "other", "known"]
abbrev ko (Fs:ad->iN->R A):Sm:=
 jl (jC (qj<|iI (iK 0)<|iI (iK 1) iW)<|jW 3)
 (jl (yl (qS<|iU (Mc true) (iK 3)<|iK 2)
 (yl (qS<|iU (rZ false) (iK 0)<|iK 1)
 (jC (nJ<|iI (qj<|iI (eC<|.int 0)<|iI (eC<|.int 1) iW) iW)<|L6 (iK 2)<|iK 3)
 (yl (Bq<|zV<|nE kj<|iI (iK 0)<|iI (iK 1) iW)
 (jC (nJ iW)<|L6 (iK 2)<|iK 3)
 (jC (nE (jQ jZ<|jF Fs)<|iI (iK 0)<|iI (iK 1)<|iI (iK 2) iW)<|L6 (iK 2)<|iK 3)))
 qd)
 (ku<|iU HF (iK 2)<|iK 3))
abbrev kF:Nat->ad->iN->R A
 | 0=>λ_ _=>.no
 | k+1=>jQ kC<|ko<|kF k
abbrev nu:ad->iN->R A:=kF 22
meta abbrev Dg:aF:=top 35
meta abbrev wR:am:=["one", "other"]
meta abbrev Az:am:=["one", "other"]
abbrev wo:Sm:=
 jl (qf<|nE jh<|iI (iK 0)<|iI (iK 1) iW)
 (ku<|nE nu<|iI (iK 0)<|iI (iK 1)<|iI (Au) iW)
abbrev lQ:ad->iN->R A:=jQ wR wo
meta abbrev t7:aF:=top 40
meta abbrev rE:am:=["here", "other", "pairs", "told", "at", "i", "j", "step", "row"]
meta abbrev uH:am:=["here", "other", "pairs"]
abbrev uS:Ic:=
 OM (iK 2)
abbrev uK:Sm:=
 jl (jC (eFn jc<|iI (iK 0)<|iI (iK 5)<|iI (iK 6) iW)<|jW 7)
 (yl (Ny (qS<|iU Oc (iU qy (iK 0)<|iU aSub (iK 5)<|eC<|.int 1)<|iU qy (iK 0)<|iU aSub (iK 6)<|eC<|.int 1)<|zV<|nE kj<|iI (iK 7)<|iI (iK 1) iW)
 (Yg)
 qd)
abbrev rG:Sm:=
 jl (yl (qS<|iU (rZ false) (iK 0)<|iK 1)
 (ku<|nJ<|iI (nJ iW) iW)
 qd)
 (jl (jC (nJ iW)<|jW 3)
 (jl (nU uS (Ed 2<|uP (jW 4)<|uP (Ed 2<|uP (jW 5)<|uP (jW 6) EY) EY)
 uK)
 (ku<|iK 3)))
abbrev mW:ad->iN->R A:=jQ rE rG
meta abbrev oW:aF:=top 39
meta abbrev lE:am:=["one", "other"]
meta abbrev m7:am:=["one", "other"]
abbrev lG:Sm:=
 jl (qf<|nE jh<|iI (iK 0)<|iI (iK 1) iW)
 (ku<|jk (f1 Ah)<|iI (nE mW<|iI (iK 0)<|iI (iK 1)<|iI (eFn jM<|iI (jk (f1 mT)<|iI (iK 0) iW) iW) iW) iW)
abbrev jt:ad->iN->R A:=jQ lE lG
meta abbrev ug:aF:=top 42
meta abbrev uE:am:=["_law_script", "_law_at_here", "_law_cell", "_law_great"]
meta abbrev uq:am:=["_law_script", "_law_at_here"]
abbrev ue:Sm:=
 jl (jC (eC<|.int 0)<|jW 2)
 (jl (yl (qS<|iU Oc (iK 1)<|jk (f1 mT)<|iI (iK 0) iW)
 (jC (iU qy (iK 0)<|iK 1)<|jW 2)
 qd)
 (jl (jC (eC<|.int 0)<|jW 3)
 (jl (yl (qS<|iU Wr (iK 2)<|iU NX (eC<|.int 10)<|eC<|.int 18)
 (jC (iK 2)<|jW 3)
 qd)
 (ku<|nJ<|iI (iK 3)<|iI (iU w4 (iU j4 (iU j4 (iK 2)<|iU w6 (eC<|.int 7919)<|iK 1)<|eC<|.int 13)<|eC<|.int 2147483647) iW))))
abbrev p5:ad->iN->R A:=jQ uE ue
meta abbrev qU:aF:=top 43
meta abbrev oO:am:=["_law_bag_here", "_law_many", "_law_found"]
meta abbrev oA:am:=["_law_bag_here", "_law_many"]
abbrev oN:Sm:=
 jl (yl (qS<|iU IM (iU qy (iK 0)<|eC<|.int 0)<|eC<|.int 0)
 (jl (jC (iU w4 (iU qy (iK 0)<|eC<|.int 0)<|iK 1)<|jW 2)
 (jl (jC (iU yG (iU qy (iK 0)<|eC<|.int 0)<|iK 1)<|Qw (iK 0)<|eC<|.int 0)
 (ku<|iK 2)))
 qd)
 (jl (jC (iU w4 (iU j4 (iU w6 (iU qy (iK 0)<|eC<|.int 1)<|eC<|.int 48271)<|eC<|.int 11)<|eC<|.int 2147483647)<|Qw (iK 0)<|eC<|.int 1)
 (ku<|iU w4 (iU w4 (iU w6 (iU yG (iU qy (iK 0)<|eC<|.int 1)<|eC<|.int 8)<|eC<|.int 69621)<|eC<|.int 2147483629)<|iK 1))
abbrev ju:ad->iN->R A:=jQ oO oN
meta abbrev qR:aF:=top 44
meta abbrev qJ:am:=["_law_bag_here", "_law_n", "_law_left", "_law_made"]
meta abbrev qN:am:=["_law_bag_here", "_law_n"]
abbrev oU:Te:=
 qS (iU IM (jk (f1 mT)<|iI (iK 2) iW)<|eC<|.int 0)
abbrev oR:Sm:=
 qf (UB sN (iK 3)<|iI (UB C2 (iK 2)<|iI (eFn ju<|iI (iK 0)<|iI (jk (f1 mT)<|iI (iK 2) iW) iW) iW) iW)
abbrev qM:Sm:=
 jl (jC (jk (f1 uN)<|iI (jk (f2 sY)<|iI (eC<|.int 1)<|iI (iU j4 (iK 1)<|eC<|.int 1) iW) iW)<|jW 2)
 (jl (jC (nJ iW)<|jW 3)
 (jl (lT oU
 oR 1000000)
 (ku<|jk (f1 qx)<|iI (iK 3) iW)))
abbrev j8:ad->iN->R A:=jQ qJ qM
meta abbrev v9:aF:=top 45
meta abbrev wQ:am:=["_law_e", "_law_due", "_law_found", "_law_names"]
meta abbrev x_:am:=["_law_e", "_law_due"]
abbrev vW:Sm:=
 jl (jC (nJ<|iI (um (CS [("NoPair",false),("NoWord",true),("TooMany",false)])<|iK 0)<|iI (um (CS [("NoPair",false),("NoWord",false),("TooMany",false)])<|iK 0)<|iI (um (CS [("NoPair",true),("NoWord",false),("TooMany",false)])<|iK 0)<|iI (um (CS [("NoPair",false),("NoWord",false),("TooMany",true)])<|iK 0) iW)<|jW 2)
 (jl (jC (iU j4 (iK 2)<|nJ<|iI (um (CS [("NoPair",false),("NoWord",false),("TooMany",false)])<|iK 0)<|iI (um (CS [("NoPair",false),("NoWord",false),("TooMany",false)])<|iK 0)<|iI (um (CS [("NoPair",false),("NoWord",false),("TooMany",false)])<|iK 0)<|iI (um (CS [("NoPair",false),("NoWord",false),("TooMany",false)])<|iK 0) iW)<|jW 2)
 (jl (jC (nJ<|iI (eC<|.str<|PySem.Str.ofString "word")<|iI (eC<|.str<|PySem.Str.ofString "number")<|iI (eC<|.str<|PySem.Str.ofString "pair")<|iI (eC<|.str<|PySem.Str.ofString "many")<|iI (eC<|.str<|PySem.Str.ofString "tables")<|iI (eC<|.str<|PySem.Str.ofString "text")<|iI (eC<|.str<|PySem.Str.ofString "row")<|iI (eC<|.str<|PySem.Str.ofString "name") iW)<|jW 3)
 (ku<|IC (um (CS [("NoPair",true),("NoWord",true),("TooMany",true)])<|iK 0)<|iU (rZ false) (iK 2)<|lY [none,some 1] (zw<|iK 3) (jW 0) A6<|iU (rZ false) (iK 0)<|iK 1)))
abbrev pW:ad->iN->R A:=jQ wQ vW
meta abbrev pD:aF:=top 46
meta abbrev pN:am:=["_law_one", "_law_other", "_law_due", "_law_found", "_law_e"]
meta abbrev o4:am:=["_law_one", "_law_other", "_law_due"]
abbrev pP:Sm:=
 jl (jC (nJ iW)<|jW 3)
 (jl (xU 4 ["NoPair", "NoWord", "TooMany"] (qf<|Ho lQ<|iI (iK 0)<|iI (iK 1) iW)
 (qf<|UB sN (iK 3)<|iI (eFn pW<|iI (iK 4)<|iI (iK 2) iW) iW))
 (jl (xU 4 ["NoPair", "NoWord", "TooMany"] (qf<|Ho jt<|iI (iK 0)<|iI (iK 1) iW)
 (qf<|UB sN (iK 3)<|iI (eFn pW<|iI (iK 4)<|iI (iK 2) iW) iW))
 (ku<|iU (rZ false) (iK 3)<|nJ<|iI (eC<|.bl true)<|iI (eC<|.bl true) iW)))
abbrev je:ad->iN->R A:=jQ pN pP
meta abbrev ye:aF:=top 47
meta abbrev xK:am:=["_law_n", "_law_far", "_law_made", "_law_k", "_law_some", "_law_at_here"]
meta abbrev v8:am:=["_law_n", "_law_far"]
abbrev wj:Ic:=
 p9 (iK 1)
abbrev wD:Sm:=
 jl (jC (lY [none,some 2] (p9<|iU aSub (iK 0)<|eC<|.int 1) (jW 0) (qS<|iU Oc (iU qy (iK 1)<|iK 0)<|iU qy (iK 1)<|iU j4 (iK 0)<|eC<|.int 1)<|iK 0)<|jW 4)
 (jl (jC (iU qy (iK 4)<|SA Dq<|eC<|.int 1)<|jW 5)
 (jC (qj<|iI (iU qy (iK 2)<|iU j4 (iK 5)<|eC<|.int 1)<|iI (iU qy (iK 2)<|iK 5) iW)<|Ed 2<|uP (Qw (iK 2)<|iK 5)<|uP (Qw (iK 2)<|iU j4 (iK 5)<|eC<|.int 1) EY))
abbrev xY:Sm:=
 jl (jC (jk (f1 uN)<|iI (jk (f2 sY)<|iI (eC<|.int 1)<|iI (iU j4 (iK 0)<|eC<|.int 1) iW) iW)<|jW 2)
 (jl (nU wj (jW 3)
 wD)
 (ku<|jk (f1 qx)<|iI (iK 2) iW))
abbrev nY:ad->iN->R A:=jQ xK xY
meta abbrev J5:aF:=top 48
meta abbrev LQ:am:=["_law_script", "_law_k", "_law_bag_here", "_law_n", "_law_other", "_law_many", "_law_one", "_law_plain", "_law_far", "_law_six", "_law_told", "_law_whole"]
meta abbrev QV:am:=["_law_script"]
abbrev GF:Ic:=
 p9 (jk (f2 My)<|iI (eC<|.int 1)<|iI (jk (f2 Kl)<|iI (jk (f1 mT)<|iI (iK 0) iW)<|iI (eC<|.int 4) iW) iW)
abbrev E1:Sm:=
 jl (jC (eFn p5<|iI (iK 0)<|iI (iK 1) iW)<|jW 2)
 (jl (jC (iU j4 (eC<|.int 2)<|eFn ju<|iI (iK 2)<|iI (eC<|.int 19) iW)<|jW 3)
 (jl (jC (iU j4 (eC<|.int 2)<|iU w4 (iU j4 (iU aSub (iK 3)<|eC<|.int 1)<|eFn ju<|iI (iK 2)<|iI (eC<|.int 18) iW)<|eC<|.int 19)<|jW 4)
 (jl (yl (Bq<|zV<|eFn je<|iI (eFn j8<|iI (iK 2)<|iI (iK 3) iW)<|iI (eFn j8<|iI (iK 2)<|iI (iK 4) iW)<|iI (eC<|.str<|PySem.Str.ofString "pair") iW)
 (ku<|eC<|.bl false)
 qd)
 (jl (jC (iU j4 (eC<|.int 9)<|eFn ju<|iI (iK 2)<|iI (eC<|.int 12) iW)<|jW 5)
 (jl (jC (eFn j8<|iI (iK 2)<|iI (iK 5) iW)<|jW 6)
 (jl (yl (NF (Bq<|zV<|eFn je<|iI (iK 6)<|iI (iK 6)<|iI (eC<|.str<|PySem.Str.ofString "many") iW)<|Bq<|zV<|eFn je<|iI (iK 6)<|iI (eFn j8<|iI (iK 2)<|iI (iK 5) iW)<|iI (eC<|.str<|PySem.Str.ofString "many") iW)
 (ku<|eC<|.bl false)
 qd)
 (jl (jC (iU j4 (eC<|.int 6)<|eFn ju<|iI (iK 2)<|iI (eC<|.int 3) iW)<|jW 3)
 (jl (jC (jk (f1 qx)<|iI (jk (f2 sY)<|iI (eC<|.int 1)<|iI (iU j4 (iK 3)<|eC<|.int 1) iW) iW)<|jW 7)
 (jl (jC (iU j4 (eC<|.int 7)<|eFn ju<|iI (iK 2)<|iI (iU aSub (iU yG (iU w6 (iK 3)<|iU aSub (iK 3)<|eC<|.int 1)<|eC<|.int 2)<|eC<|.int 6) iW)<|jW 8)
 (jl (yl (Bq<|zV<|eFn je<|iI (iK 7)<|iI (eFn nY<|iI (iK 3)<|iI (iK 8) iW)<|iI (eC<|.str<|PySem.Str.ofString "many") iW)
 (ku<|eC<|.bl false)
 qd)
 (jl (jC (eFn nY<|iI (iK 3)<|iI (eC<|.int 6) iW)<|jW 9)
 (jl (jC (nE lQ<|iI (iK 7)<|iI (iK 9) iW)<|jW 10)
 (jl (yl (NF (qS<|iU (rZ false) (iK 10)<|nJ iW)<|NF (qS<|iU (rZ true) (iU qy (iK 10)<|SA Dq<|eC<|.int 1)<|qj<|iI (eC<|.int 6)<|iI (eC<|.int 1) iW)<|NF (qS<|iU (rZ true) (nE lQ<|iI (iK 9)<|iI (iK 7) iW)<|nJ iW)<|qS<|iU (rZ true) (nE jt<|iI (iK 9)<|iI (iK 7) iW)<|nJ iW)
 (ku<|eC<|.bl false)
 qd)
 (jl (jC (Og (iK 3) (eC<|.int 0)<|SA Dq<|eC<|.int 1)<|jW 11)
 (yl (NF (qS<|iU (rZ true) (nE lQ<|iI (iK 11)<|iI (iK 11) iW)<|nJ<|iI (qj<|iI (eC<|.int 0)<|iI (eC<|.int 1) iW) iW)<|qS<|iU (rZ true) (nE jt<|iI (iK 11)<|iI (iK 11) iW)<|nJ<|iI (nJ iW) iW)
 (ku<|eC<|.bl false)
 qd)))))))))))))))
abbrev ML:Sm:=
 jl (nU GF (jW 1)
 E1)
 (ku<|eC<|.bl true)
abbrev yX:ad->iN->R A:=jQ LQ ML
section
variable {P:aj}{w:ah}{K:au}{mg:Str->ba}{base:aq}{f:ak}{fd:FuncData}
def Bt:FnScope sE sJ (iT sG):=tQ rfl rfl rfl ∅
def Cr(F:Fun K "is_whole" "is_whole" sG f fd)(Y3:mg "isinstance" = none)(Zn:mg "bool" = none)(Zo:mg "int" = none):FnOk P w K mg base sq 1 f fd sJ (tZ K 1 nZ):=BB (m:=sD) F Bt λcdv B outer s H E hr=>
 iV (jq<|CT (jd Qs Y3 pH<|iJ (iH 0)<|iJ (QU Zo To) iP)<|D7<|Ss<|jd Qs Y3 pH<|iJ (iH 0)<|iJ (QU Zn OI) iP)
def Ag:FnScope oM ow (iT rf):=tQ rfl rfl rfl ∅
def zL(F:Fun K "need_pair" "need_pair" rf f fd)(YW:ExcK K U "NoPair" C_NoPair)(YZ:mg "len" = none):FnOk P w K mg base (u7 P w) 1 f fd ow (A9 K 2 jP):=fnX (m:=oJ) F Ag λcdv B outer s H E hr=>
 iV (mh (jI (DH hr.units) (jd mK YZ kI<|iJ (iH 0) iP)<|jd mK YZ kI<|iJ (iH 1) iP)
 (iV<|y9 (ps:=[.inl "orders of ",.inr<|jk (f1 mT)<|iI (iK 0) iW,.inl " and of ",.inr<|jk (f1 mT)<|iI (iK 1) iW,.inl " things"]) YW.n YW.q hr.hd<|.txt<|.val (jd mK YZ kI<|iJ (iH 0) iP)<|.txt<|.val (jd mK YZ kI<|iJ (iH 1) iP)<|.txt .nil)
 jR)
def xQ:FnScope oY pC (iT pK):=tQ rfl rfl rfl ∅
def wO(F:Fun K "is_exchange" "is_exchange" pK f fd)(Zp:u_ P w K mg base 1 "is_whole" sJ nZ):FnOk P w K mg base sq 2 f fd pC (tZ K 2 lD):=BB (m:=oQ) F xQ λcdv B outer s H E hr=>
 iV (jq<|CT (Nk Zp hr<|iH 1)<|D7<|V5 TF (OG hr.units) iQ (iH 1)<|iH 0)
def nq:FnScope kD kh (iT lR):=tQ rfl rfl rfl ∅
def rS(F:Fun K "exchanged_places" "exchanged_places" lR f fd)(Y6:mg "list" = none)(Y4:mg "tuple" = none):FnOk P w K mg base sq 1 f fd kh (tZ K 3 jc):=BB (m:=kB) F nq λcdv B outer s H E hr=>
 iO (jo (i:=3) nq.nd<|kR (DM rfl) Y6 zJ<|iJ (iH 0) iP)
 (iO (qD (nX<|iJ (kM (iH 3)<|i7 oh (iH 2) iQ)<|iJ (kM (iH 3)<|i7 oh (iH 1) iQ) iP)<|qL rfl<|jL (ud (iH 3)<|i7 oh (iH 1) iQ)<|jL (ud (iH 3)<|i7 oh (iH 2) iQ) oF)
 (iV<|jq<|kR (vB rfl) Y4 qO<|iJ (iH 3) iP))
def zR:FnScope qW qT (iT qP):=tQ rfl rfl rfl ∅
def AN(F:Fun K "exchanged" "exchanged" qP f fd)(YX:ExcK K U "NoWord" C_NoWord)(YZ:mg "len" = none)(Zq:u_ P w K mg base 2 "is_exchange" pC lD)(Y_:u_ P w K mg base 1 "exchanged_places" kh jc):FnOk P w K mg base (u7 P w) 3 f fd qT (A9 K 2 lX):=fnX (m:=qI) F zR λcdv B outer s H E hr=>
 iO (mh (uB<|sF<|GY Zq hr (jd mK YZ kI<|iJ (iH 0) iP)<|iH 1)
 (iV<|y9 (ps:=[.inl "no exchange of ",.inr<|jk (f1 mT)<|iI (iK 0) iW,.inl " things"]) YX.n YX.q hr.hd<|.txt<|.val (jd mK YZ kI<|iJ (iH 0) iP)<|.txt .nil)
 jR)
 (iV<|jq<|V0 Y_ hr (iH 0) (iH 1)<|i7 kL (iH 1) iQ)
def xg:FnScope o_ mZ (iT pG):=tQ rfl rfl rfl ∅
def xC(F:Fun K "place_pairs" "place_pairs" pG f fd)(Y0:mg "range" = none):FnOk P w K mg base sq 1 f fd mZ (tZ K 1 jM):=BB (m:=pM) F xg λcdv B outer s H E hr=>
 iV (jq<|Mj (N:=["i", "j", "n"]) (cap:=[none,none,some 0]) rfl (y_ ["n"] rfl ∅ ∅ ∅ ∅ ∅ (aR.mpr ⟨by first|exact Or.inl rfl|exact Or.inr rfl,(nofun)⟩) ⟨rfl,by decide +kernel,trivial⟩) (uF Y0 iQ<|iH 0) (λ_ _ _ _=>jB (i:=0) (show(["i", "j", "n"]:am).Nodup by decide +kernel) rfl (Or.inl rfl)<|.inr rfl) (λ_ _ _ _=>AA) (λ_ _ _ _=>uF Y0 (i7 kL (iH 0) iQ)<|i7 kL (iH 2) iQ) (λ_ _ _ _=>jB (i:=1) (show(["i", "j", "n"]:am).Nodup by decide +kernel) rfl (Or.inl rfl)<|.inr rfl) (λ_ _ _ _=>AA) λ_ _ _ _=>nX<|iJ (iH 0)<|iJ (iH 1) iP)
def wI:FnScope oZ o8 (iT pO):=tQ rfl rfl rfl ∅
def vR(F:Fun K "wrong_pairs" "wrong_pairs" pO f fd)(YZ:mg "len" = none)(Za:u_ P w K mg base 1 "place_pairs" mZ jM):FnOk P w K mg base sq 2 f fd o8 (tZ K 1 lC):=BB (m:=pI) F wI λcdv B outer s H E hr=>
 iV (jq<|zX (N:=["i", "j", "order"]) (cap:=[none,none,some 0]) rfl (y_ ["order"] rfl ∅ ∅ ∅ ∅ ∅ (aR.mpr ⟨by first|exact Or.inl rfl|exact Or.inr rfl,(nofun)⟩) ⟨rfl,by decide +kernel,trivial⟩) (wC<|Nk Za hr<|jd mK YZ kI<|iJ (iH 0) iP) (λ_ _ _ _=>qL rfl<|jL (jB (i:=0) (show(["i", "j", "order"]:am).Nodup by decide +kernel) rfl (Or.inl rfl)<|.inr rfl)<|jL (jB (i:=1) (show(["i", "j", "order"]:am).Nodup by decide +kernel) rfl (Or.inl rfl)<|.inr rfl) oF) (λ_ _ _ _=>vq<|jI (D6 hr.units) (kM (iH 2)<|i7 oh (iH 0) iQ)<|kM (iH 2)<|i7 oh (iH 1) iQ) λ_ _ _ _=>nX<|iJ (iH 0)<|iJ (iH 1) iP)
def Hl:FnScope we vU (iT xP):=tQ rfl rfl rfl ∅
def Ht(F:Fun K "length" "length" xP f fd)(YZ:mg "len" = none)(Zr:u_ P w K mg base 2 "wrong_pairs" o8 lC):FnOk P w K mg base sq 3 f fd vU (tZ K 1 nV):=BB (m:=yf) F Hl λcdv B outer s H E hr=>
 iV (jq<|jd mK YZ kI<|iJ (Nk Zr hr<|iH 0) iP)
def M0:FnScope zZ Ar (iT AR):=tQ rfl rfl rfl ∅
def K7(F:Fun K "falls" "falls" AR f fd)(Y0:mg "range" = none)(YZ:mg "len" = none):FnOk P w K mg base sq 1 f fd Ar (tZ K 1 rB):=BB (m:=zU) F M0 λcdv B outer s H E hr=>
 iV (jq<|zX (N:=["k", "order"]) (cap:=[none,some 0]) rfl (y_ ["order"] rfl ∅ ∅ ∅ ∅ ∅ (aR.mpr ⟨by first|exact Or.inl rfl|exact Or.inr rfl,(nofun)⟩) ⟨rfl,by decide +kernel,trivial⟩) (uF Y0 iQ<|jd mK YZ kI<|iJ (iH 0) iP) (λ_ _ _ _=>jB (i:=0) (show(["k", "order"]:am).Nodup by decide +kernel) rfl (Or.inl rfl)<|.inr rfl) (λ_ _ _ _=>vq<|jI (D6 hr.units) (kM (iH 1)<|i7 oh (iH 0) iQ)<|kM (iH 1)<|iH 0) λ_ _ _ _=>iH 0)
def kG:FnScope kU kW (iT kP):=tQ rfl rfl rfl ∅
def qG(F:Fun K "first_above_nought" "first_above_nought" kP f fd):FnOk P w K mg base sq 1 f fd kW (tZ K 1 jE):=BB (m:=kY) F kG λcdv B outer s H E hr=>
 iO (jo (i:=1) kG.nd iQ)
 (iO (CD 1000000 dR (jI TF (kM (iH 0)<|i7 oh (iH 1) iQ) iQ)
 (iV<|Ri (i:=1) kG.nd iQ E2))
 (iV<|jq<|iH 1))
def xm:FnScope Lm Jq (iT MT):=tQ rfl rfl rfl ∅
def Q6(F:Fun K "bar" "bar" MT f fd)(YZ:mg "len" = none)(Y0:mg "range" = none)(Zb:mg "max" = none)(Zc:t6 P w K mg base 1 "need_pair" ow jP)(Zs:u_ P w K mg base 1 "first_above_nought" kW jE):FnOk P w K mg base (u7 P w) 2 f fd Jq (A9 K 2 zz):=fnX (m:=Jm) F xm λcdv B outer s H E hr=>
 iO (oz<|Ni Zc hr (iH 0)<|iH 1)
 (iO (jo (i:=2) xm.nd<|i7 BW (j0<|iJ iQ iP)<|jd mK YZ kI<|iJ (iH 0) iP)
 (iO (qm f9 rfl (nI Y0<|jd mK YZ kI<|iJ (iH 0) iP) (jB (i:=3) xm.nd)
 (iO (qm f9 rfl (nI Y0<|kM (iH 0)<|iH 3) (jB (i:=4) xm.nd)
 (iV<|EA (iH 2) (iH 4) iQ E2))
 (iO (qm f9 rfl (nI Y0<|kM (iH 1)<|iH 3) (jB (i:=4) xm.nd)
 (iV<|EA (iH 2) (iH 4) iQ NY))
 (iV (mh (jI (D6 hr.units) (jd (Rq rfl) Zb LY<|iJ (iH 2) iP) iQ)
 (iV<|jq<|nX<|iJ (i7 kL (iH 3) iQ)<|iJ (Nk Zs hr<|iH 2) iP)
 jR)))))
 (iV<|jq<|IS)))
def Cs:FnScope qA nO (iT su):=tQ rfl rfl rfl ∅
def Bg(F:Fun K "is_below" "is_below" su f fd)(Zt:t6 P w K mg base 2 "bar" Jq zz):FnOk P w K mg base (u7 P w) 3 f fd nO (A9 K 2 kj):=fnX (m:=qw) F Cs λcdv B outer s H E hr=>
 iV (jq<|AH WY (Ni Zt hr (iH 0)<|iH 1)<|IS)
def wZ:FnScope jU pL (iT pF):=tQ rfl rfl rfl ∅
def wM(F:Fun K "need_bounds" "need_bounds" pF f fd)(YY:ExcK K U "TooMany" C_TooMany)(YZ:mg "len" = none)(Zi:u_ P w K mg base 3 "length" vU nV):FnOk P w K mg base (u7 P w) 4 f fd pL (A9 K 5 jf):=fnX (m:=jT) F wZ λcdv B outer s H E hr=>
 iO (mh (jI TF (jd mK YZ kI<|iJ (iH 0) iP)<|iH 2)
 (iV<|OY)
 jR)
 (iV (mh (AW.at<|yE (jI (D6 hr.units) (jd mK YZ kI<|iJ (iH 0) iP)<|iH 3)<|zK<|jI (D6 hr.units) (i7 oh (Nk Zi hr<|iH 1)<|Nk Zi hr<|iH 0)<|iH 4)
 (iV<|Ik YY.n YY.q hr.hd)
 jR))
def uc:FnScope nc lN (iT ni):=tQ rfl rfl rfl ∅
def ux(F:Fun K "as_polynomial" "as_polynomial" ni f fd)(Zd:mg "sorted" = none):FnOk P w K mg base sq 1 f fd lN (tZ K 1 jH):=BB (m:=nj) F uc λcdv B outer s H E hr=>
 iV (jq<|zX (N:=["power", "numbers"]) (cap:=[none,some 0]) rfl (y_ ["numbers"] rfl ∅ ∅ ∅ ∅ ∅ (aR.mpr ⟨by first|exact Or.inl rfl|exact Or.inr rfl,(nofun)⟩) ⟨rfl,by decide +kernel,trivial⟩) (wC<|jd (Oa rfl) Zd yZ<|iJ (iH 0) iP) (λ_ _ _ _=>jB (i:=0) (show(["power", "numbers"]:am).Nodup by decide +kernel) rfl (Or.inl rfl)<|.inr rfl) (λ_ _ _ _=>vq<|jI (DH hr.units) (Kf hr.units (iH 1)<|iH 0) iQ) λ_ _ _ _=>nX<|iJ (iH 0)<|iJ (Kf hr.units (iH 1)<|iH 0) iP)
def vP:FnScope CU C6 (iT D4):=tQ rfl rfl rfl ∅
def Np(F:Fun K "plus" "plus" D4 f fd)(Zu:mg "dict" = none)(Ze:u_ P w K mg base 1 "as_polynomial" lN jH):FnOk P w K mg base sq 2 f fd C6 (tZ K 2 xy):=BB (m:=DX) F vP λcdv B outer s H E hr=>
 iO (jo (i:=2) vP.nd<|kR (OF rfl) Zu PF<|iJ (iH 0) iP)
 (iO (qm dR rfl (wC<|iH 1) (qL rfl<|jL (jB (i:=3) vP.nd)<|jL (jB (i:=4) vP.nd) oF)
 (iV<|qD (i7 kL (JK eS PySem.F.type_dict_get (JY hr.units) (iH 2)<|iJ (iH 3)<|iJ iQ iP)<|iH 4)<|EH hr.units (iH 2)<|iH 3))
 (iV<|jq<|Nk Ze hr<|iH 2))
def qg:FnScope zH AX (iT AK):=tQ rfl rfl rfl ∅
def Ke(F:Fun K "times" "times" AK f fd)(Ze:u_ P w K mg base 1 "as_polynomial" lN jH):FnOk P w K mg base sq 2 f fd AX (tZ K 2 rO):=BB (m:=zT) F qg λcdv B outer s H E hr=>
 iO (jo (i:=2) qg.nd Jy)
 (iO (qm dR rfl (wC<|iH 0) (qL rfl<|jL (jB (i:=3) qg.nd)<|jL (jB (i:=4) qg.nd) oF)
 (iV (qm dR rfl (wC<|iH 1) (qL rfl<|jL (jB (i:=5) qg.nd)<|jL (jB (i:=6) qg.nd) oF)
 (iV<|qD (i7 kL (JK eS PySem.F.type_dict_get (JY hr.units) (iH 2)<|iJ (i7 kL (iH 3)<|iH 5)<|iJ iQ iP)<|i7 Tv (iH 4)<|iH 6)<|EH hr.units (iH 2)<|i7 kL (iH 3)<|iH 5))))
 (iV<|jq<|Nk Ze hr<|iH 2))
def AM:FnScope j_ oE (iT qZ):=tQ rfl rfl rfl ∅
def zG(F:Fun K "need_rest" "need_rest" qZ f fd)(Zv:∃t,mg "MOST_PAIRS" = some (.int 6 t))(Zx:∃t,mg "MOST_THINGS" = some (.int 8 t))(Zy:∃t,mg "FREE_THINGS" = some (.int 5 t))(Zc:t6 P w K mg base 1 "need_pair" ow jP)(Zz:t6 P w K mg base 4 "need_bounds" pL jf):FnOk P w K mg base (u7 P w) 5 f fd oE (A9 K 2 jh):=fnX (m:=j9) F AM λcdv B outer s H E hr=>
 iO (oz<|Ni Zc hr (iH 0)<|iH 1)
 (iV<|oz<|oV Zz (hr.mono ⋯) (iJ (iH 0)<|iJ (iH 1)<|iJ (xN Zy.choose_spec)<|iJ (xN Zx.choose_spec)<|iJ (xN Zv.choose_spec) iP)<|iX<|iX<|iX<|iX<|iX jA)
def lO:FnScope jZ kQ (iT n_):=tQ rfl rfl rfl ∅
def vc{Fs:ad->iN->R A}(F:Fun K "rest_by_fall" "rest_by_fall" n_ f fd)(Zj:u_ P w K mg base 1 "falls" Ar rB)(Zk:t6 P w K mg base 3 "exchanged" qT lX)(ZA:u_ P w K mg base 2 "plus" C6 xy)(ZC:u_ P w K mg base 2 "times" AX rO)(ZR:t6 P w K mg base (4+2 * kr) "found_rest" jN Fs):FnOk P w K mg base (u7 P w) (4+2 * kr+1) f fd kQ (A9 K 3<|jQ jZ<|jF Fs):=fnX (m:=jF Fs) F lO λcdv B outer s H E hr=>
 iO (jo (i:=3) lO.nd<|kM (uW Zj (hr.mono ()) (iJ (iH 1) iP)<|iX jA) iQ)
 (iO (jo (i:=4) lO.nd<|oV Zk (hr.mono ()) (iJ (iH 1)<|iJ (iH 3) iP)<|iX<|iX jA)
 (iO (jo (i:=5) lO.nd<|oV ZR (hr.mono ()) (iJ (oV Zk (hr.mono ()) (iJ (iH 0)<|iJ (iH 3) iP)<|iX<|iX jA)<|iJ (iH 4)<|iJ (iH 2) iP)<|iX<|iX<|iX jA)
 (iO (mh (jI (W5 hr.units) (iH 3)<|uW Zj (hr.mono ()) (iJ (iH 0) iP)<|iX jA)
 (iV<|jq<|iH 5)
 jR)
 (iV<|jq<|uW ZA (hr.mono ()) (iJ (iH 5)<|iJ (uW ZC (hr.mono ()) (iJ (j0<|iJ (nX<|iJ iQ<|iJ iQ iP) iP)<|iJ (oV ZR (hr.mono ()) (iJ (iH 0)<|iJ (iH 4)<|iJ (iH 2) iP)<|iX<|iX<|iX jA) iP)<|iX<|iX jA) iP)<|iX<|iX jA))))
def r6:FnScope kC jN (iT nG):=tQ rfl rfl rfl ∅
def yv{Fs:ad->iN->R A}(F:Fun K "found_rest" "found_rest" nG f fd)(Y7:t6 P w K mg base 3 "is_below" nO kj)(ZV:t6 P w K mg base (4+2 * kr+1) "rest_by_fall" kQ<|jQ jZ<|jF Fs):FnOk P w K mg base (u7 P w) (4+2 * kr+2) f fd jN (A9 K 3<|jQ kC<|ko Fs):=fnX (m:=ko Fs) F r6 λcdv B outer s H E hr=>
 iO (jo (i:=3) r6.nd<|nX<|iJ (iH 0)<|iJ (iH 1) iP)
 (iO (mh (jI (Ma hr.units) (iH 3)<|iH 2)
 (iV (mh (jI (HY hr.units) (iH 0)<|iH 1)
 (iV<|qD (j0<|iJ (nX<|iJ iQ<|iJ iQ iP) iP)<|AO hr.units (iH 2)<|iH 3)
 (iV (mh (uB<|sF<|oV Y7 (hr.mono ()) (iJ (iH 0)<|iJ (iH 1) iP)<|iX<|iX jA)
 (iV<|qD (j0 iP)<|AO hr.units (iH 2)<|iH 3)
 (iV<|qD (oV ZV (hr.mono ()) (iJ (iH 0)<|iJ (iH 1)<|iJ (iH 2) iP)<|iX<|iX<|iX jA)<|AO hr.units (iH 2)<|iH 3)))))
 jR)
 (iV<|jq<|SO hr.units (iH 2)<|iH 3))
theorem qQ(F:Fun K "found_rest" "found_rest" nG f fd)(Y7:t6 P w K mg base 3 "is_below" nO kj)(M_rest_by_fall:∀{Fs:ad->iN->R A} {kr:Nat},t6 P w K mg base (4+2 * kr) "found_rest" jN Fs->t6 P w K mg base (4+2 * kr+1) "rest_by_fall" kQ (jQ jZ<|jF Fs))(hm:mg "found_rest" = some (.ref f))(hk:PySem.W.keepIn K (.ref f)=true)(hb:Binds K fd jN []):∀kr,FnOk P w K mg base (u7 P w) (4+2 * kr) f fd jN (A9 K 3<|kF kr)
 | 0=>R0 rfl
 | kr+1=>yv F Y7<|M_rest_by_fall ⟨f,fd,qQ F Y7 M_rest_by_fall hm hk hb kr,hm,hk,hb⟩
def OU:FnScope wR Az (iT Dg):=tQ rfl rfl rfl ∅
def Oo(F:Fun K "rest" "rest" Dg f fd)(Zf:t6 P w K mg base 5 "need_rest" oE jh)(ZD:t6 P w K mg base 48 "found_rest" jN nu):FnOk P w K mg base (u7 P w) 49 f fd Az (A9 K 2 lQ):=fnX (m:=wo) F OU λcdv B outer s H E hr=>
 iO (oz<|Ni Zf hr (iH 0)<|iH 1)
 (iV<|jq<|X4 ZD hr (iH 0) (iH 1)<|MF)
def mQ:FnScope rE uH (iT t7):=tQ rfl rfl rfl ∅
def Du(F:Fun K "rows_of" "rows_of" t7 f fd)(ZE:mg "enumerate" = none)(Y_:u_ P w K mg base 1 "exchanged_places" kh jc)(Y7:t6 P w K mg base 3 "is_below" nO kj):FnOk P w K mg base (u7 P w) 4 f fd uH (A9 K 3 mW):=fnX (m:=rG) F mQ λcdv B outer s H E hr=>
 iO (mh (jI (HY hr.units) (iH 0)<|iH 1)
 (iV<|jq<|j0<|iJ (j0 iP) iP)
 jR)
 (iO (jo (i:=3) mQ.nd<|j0 iP)
 (iO (qm f9 rfl (Ud ZE<|iH 2) (qL rfl<|jL (jB (i:=4) mQ.nd)<|jL (qL rfl<|jL (jB (i:=5) mQ.nd)<|jL (jB (i:=6) mQ.nd) oF) oF)
 (iO (jo (i:=7) mQ.nd<|uW Y_ (hr.mono ⋯) (iJ (iH 0)<|iJ (iH 5)<|iJ (iH 6) iP)<|iX<|iX<|iX jA)
 (iV (mh (AW.at<|Ti (jI (OG hr.units) (kM (iH 0)<|i7 oh (iH 5) iQ)<|kM (iH 0)<|i7 oh (iH 6) iQ)<|NS<|sF<|oV Y7 (hr.mono ⋯) (iJ (iH 7)<|iJ (iH 1) iP)<|iX<|iX jA)
 (iV<|UO)
 jR))))
 (iV<|jq<|iH 3)))
def xW:FnScope lE m7 (iT oW):=tQ rfl rfl rfl ∅
def wA(F:Fun K "rising_rows" "rising_rows" oW f fd)(Zd:mg "sorted" = none)(YZ:mg "len" = none)(Zf:t6 P w K mg base 5 "need_rest" oE jh)(ZF:t6 P w K mg base 4 "rows_of" uH mW)(Za:u_ P w K mg base 1 "place_pairs" mZ jM):FnOk P w K mg base (u7 P w) 6 f fd m7 (A9 K 2 jt):=fnX (m:=lG) F xW λcdv B outer s H E hr=>
 iO (oz<|Ni Zf hr (iH 0)<|iH 1)
 (iV<|jq<|jd Ob Zd yZ<|iJ (X4 ZF hr (iH 0) (iH 1)<|Nk Za hr<|jd mK YZ kI<|iJ (iH 0) iP) iP)
def nL:FnScope uE uq (iT ug):=tQ rfl rfl rfl ∅
def DY(F:Fun K "_law_bag" "_law_bag" ug f fd)(YZ:mg "len" = none):FnOk P w K mg base sq 1 f fd uq (tZ K 2 p5):=BB (m:=ue) F nL λcdv B outer s H E hr=>
 iO (jo (i:=2) nL.nd iQ)
 (iO (mh (jI (OG hr.units) (iH 1)<|jd mK YZ kI<|iJ (iH 0) iP)
 (iV<|jo (i:=2) nL.nd<|kM (iH 0)<|iH 1)
 jR)
 (iO (jo (i:=3) nL.nd iQ)
 (iO (mh (jI Xu (iH 2)<|i7 VF iQ iQ)
 (iV<|jo (i:=3) nL.nd<|iH 2)
 jR)
 (iV<|jq<|j0<|iJ (iH 3)<|iJ (i7 yN (i7 kL (i7 kL (iH 2)<|i7 BW iQ<|iH 1) iQ) iQ) iP))))
def sX:FnScope oO oA (iT qU):=tQ rfl rfl rfl ∅
def zP(F:Fun K "_law_digit" "_law_digit" qU f fd):FnOk P w K mg base sq 1 f fd oA (tZ K 2 ju):=BB (m:=oN) F sX λcdv B outer s H E hr=>
 iO (mh (jI (D6 hr.units) (kM (iH 0) iQ) iQ)
 (iO (jo (i:=2) sX.nd<|i7 yN (kM (iH 0) iQ)<|iH 1)
 (iO (qD (i7 DZ (kM (iH 0) iQ)<|iH 1)<|ud (iH 0) iQ)
 (iV<|jq<|iH 2)))
 jR)
 (iO (qD (i7 yN (i7 kL (i7 BW (kM (iH 0) iQ) iQ) iQ) iQ)<|ud (iH 0) iQ)
 (iV<|jq<|i7 yN (i7 yN (i7 BW (i7 DZ (kM (iH 0) iQ) iQ) iQ) iQ)<|iH 1))
def qv:FnScope qJ qN (iT qR):=tQ rfl rfl rfl ∅
def Ae(F:Fun K "_law_order" "_law_order" qR f fd)(Y6:mg "list" = none)(Y0:mg "range" = none)(YZ:mg "len" = none)(Y4:mg "tuple" = none)(Y5:u_ P w K mg base 1 "_law_digit" oA ju):FnOk P w K mg base sq 2 f fd qN (tZ K 2 j8):=BB (m:=qM) F qv λcdv B outer s H E hr=>
 iO (jo (i:=2) qv.nd<|kR (DM rfl) Y6 zJ<|iJ (kR wL Y0 sO<|iJ iQ<|iJ (i7 kL (iH 1) iQ) iP) iP)
 (iO (jo (i:=3) qv.nd<|j0 iP)
 (iO (CD 1000000 dR (jI (D6 hr.units) (jd mK YZ kI<|iJ (iH 2) iP) iQ)
 (iV<|oz<|GO fy fB yj (iH 3)<|iJ (GO PySem.F.slot_list_pop PySem.F.type_list_pop Ov (iH 2)<|iJ (GY Y5 hr (iH 0)<|jd mK YZ kI<|iJ (iH 2) iP) iP) iP))
 (iV<|jq<|kR (vB rfl) Y4 qO<|iJ (iH 3) iP)))
def rH:FnScope wQ x_ (iT v9):=tQ rfl rfl rfl ∅
def Iz(F:Fun K "_law_is" "_law_is" v9 f fd)(YY:ExcK K U "TooMany" C_TooMany)(YX:ExcK K U "NoWord" C_NoWord)(YW:ExcK K U "NoPair" C_NoPair)(ZG:mg "TooMany" = some (.ref C_TooMany))(ZH:mg "NoPair" = some (.ref C_NoPair))(ZI:mg "NoNumber" = some (.ref C_NoNumber))(ZJ:mg "NoWord" = some (.ref C_NoWord))(ZK:mg "NoName" = some (.ref C_NoName))(ZL:mg "NoRow" = some (.ref C_NoRow))(ZM:mg "NoText" = some (.ref C_NoText))(ZN:mg "NoTables" = some (.ref C_NoTables))(k_TooMany_TooMany:PySem.W.kitOne K (.ref C_TooMany) (.ref C_TooMany)=some true)(k_NoWord_TooMany:PySem.W.kitOne K (.ref C_NoWord) (.ref C_TooMany)=some false)(k_NoPair_TooMany:PySem.W.kitOne K (.ref C_NoPair) (.ref C_TooMany)=some false)(k_TooMany_NoPair:PySem.W.kitOne K (.ref C_TooMany) (.ref C_NoPair)=some false)(k_NoWord_NoPair:PySem.W.kitOne K (.ref C_NoWord) (.ref C_NoPair)=some false)(k_NoPair_NoPair:PySem.W.kitOne K (.ref C_NoPair) (.ref C_NoPair)=some true)(k_TooMany_NoNumber:PySem.W.kitOne K (.ref C_TooMany) (.ref C_NoNumber)=some false)(k_NoWord_NoNumber:PySem.W.kitOne K (.ref C_NoWord) (.ref C_NoNumber)=some false)(k_NoPair_NoNumber:PySem.W.kitOne K (.ref C_NoPair) (.ref C_NoNumber)=some false)(k_TooMany_NoWord:PySem.W.kitOne K (.ref C_TooMany) (.ref C_NoWord)=some false)(k_NoWord_NoWord:PySem.W.kitOne K (.ref C_NoWord) (.ref C_NoWord)=some true)(k_NoPair_NoWord:PySem.W.kitOne K (.ref C_NoPair) (.ref C_NoWord)=some false)(k_TooMany_NoName:PySem.W.kitOne K (.ref C_TooMany) (.ref C_NoName)=some false)(k_NoWord_NoName:PySem.W.kitOne K (.ref C_NoWord) (.ref C_NoName)=some false)(k_NoPair_NoName:PySem.W.kitOne K (.ref C_NoPair) (.ref C_NoName)=some false)(k_TooMany_NoRow:PySem.W.kitOne K (.ref C_TooMany) (.ref C_NoRow)=some false)(k_NoWord_NoRow:PySem.W.kitOne K (.ref C_NoWord) (.ref C_NoRow)=some false)(k_NoPair_NoRow:PySem.W.kitOne K (.ref C_NoPair) (.ref C_NoRow)=some false)(k_TooMany_NoText:PySem.W.kitOne K (.ref C_TooMany) (.ref C_NoText)=some false)(k_NoWord_NoText:PySem.W.kitOne K (.ref C_NoWord) (.ref C_NoText)=some false)(k_NoPair_NoText:PySem.W.kitOne K (.ref C_NoPair) (.ref C_NoText)=some false)(k_TooMany_NoTables:PySem.W.kitOne K (.ref C_TooMany) (.ref C_NoTables)=some false)(k_NoWord_NoTables:PySem.W.kitOne K (.ref C_NoWord) (.ref C_NoTables)=some false)(k_NoPair_NoTables:PySem.W.kitOne K (.ref C_NoPair) (.ref C_NoTables)=some false)(Y3:mg "isinstance" = none)(ZO:mg "ValueError" = none):FnOkH P w K mg base 1 f fd x_ (tZ K 2 pW):=YH (m:=vW) F rH λcdv B outer s H e oe C hr hh h0 xo=>
 iO (jo (i:=2) rH.nd<|j0<|iJ (rj ZJ (tb:=[("NoPair",false),("NoWord",true),("TooMany",false)]) (aR.mpr ⟨⟨_,YW.n,YW.x,YW.cl,k_NoPair_NoWord⟩,(aR.mpr ⟨⟨_,YX.n,YX.x,YX.cl,k_NoWord_NoWord⟩,(aR.mpr ⟨⟨_,YY.n,YY.x,YY.cl,k_TooMany_NoWord⟩,(nofun)⟩)⟩)⟩) (iH 0) Y3)<|iJ (rj ZI (tb:=[("NoPair",false),("NoWord",false),("TooMany",false)]) (aR.mpr ⟨⟨_,YW.n,YW.x,YW.cl,k_NoPair_NoNumber⟩,(aR.mpr ⟨⟨_,YX.n,YX.x,YX.cl,k_NoWord_NoNumber⟩,(aR.mpr ⟨⟨_,YY.n,YY.x,YY.cl,k_TooMany_NoNumber⟩,(nofun)⟩)⟩)⟩) (iH 0) Y3)<|iJ (rj ZH (tb:=[("NoPair",true),("NoWord",false),("TooMany",false)]) (aR.mpr ⟨⟨_,YW.n,YW.x,YW.cl,k_NoPair_NoPair⟩,(aR.mpr ⟨⟨_,YX.n,YX.x,YX.cl,k_NoWord_NoPair⟩,(aR.mpr ⟨⟨_,YY.n,YY.x,YY.cl,k_TooMany_NoPair⟩,(nofun)⟩)⟩)⟩) (iH 0) Y3)<|iJ (rj ZG (tb:=[("NoPair",false),("NoWord",false),("TooMany",true)]) (aR.mpr ⟨⟨_,YW.n,YW.x,YW.cl,k_NoPair_TooMany⟩,(aR.mpr ⟨⟨_,YX.n,YX.x,YX.cl,k_NoWord_TooMany⟩,(aR.mpr ⟨⟨_,YY.n,YY.x,YY.cl,k_TooMany_TooMany⟩,(nofun)⟩)⟩)⟩) (iH 0) Y3) iP)
 (iO (jo (i:=2) rH.nd<|i7 kL (iH 2)<|j0<|iJ (rj ZN (tb:=[("NoPair",false),("NoWord",false),("TooMany",false)]) (aR.mpr ⟨⟨_,YW.n,YW.x,YW.cl,k_NoPair_NoTables⟩,(aR.mpr ⟨⟨_,YX.n,YX.x,YX.cl,k_NoWord_NoTables⟩,(aR.mpr ⟨⟨_,YY.n,YY.x,YY.cl,k_TooMany_NoTables⟩,(nofun)⟩)⟩)⟩) (iH 0) Y3)<|iJ (rj ZM (tb:=[("NoPair",false),("NoWord",false),("TooMany",false)]) (aR.mpr ⟨⟨_,YW.n,YW.x,YW.cl,k_NoPair_NoText⟩,(aR.mpr ⟨⟨_,YX.n,YX.x,YX.cl,k_NoWord_NoText⟩,(aR.mpr ⟨⟨_,YY.n,YY.x,YY.cl,k_TooMany_NoText⟩,(nofun)⟩)⟩)⟩) (iH 0) Y3)<|iJ (rj ZL (tb:=[("NoPair",false),("NoWord",false),("TooMany",false)]) (aR.mpr ⟨⟨_,YW.n,YW.x,YW.cl,k_NoPair_NoRow⟩,(aR.mpr ⟨⟨_,YX.n,YX.x,YX.cl,k_NoWord_NoRow⟩,(aR.mpr ⟨⟨_,YY.n,YY.x,YY.cl,k_TooMany_NoRow⟩,(nofun)⟩)⟩)⟩) (iH 0) Y3)<|iJ (rj ZK (tb:=[("NoPair",false),("NoWord",false),("TooMany",false)]) (aR.mpr ⟨⟨_,YW.n,YW.x,YW.cl,k_NoPair_NoName⟩,(aR.mpr ⟨⟨_,YX.n,YX.x,YX.cl,k_NoWord_NoName⟩,(aR.mpr ⟨⟨_,YY.n,YY.x,YY.cl,k_TooMany_NoName⟩,(nofun)⟩)⟩)⟩) (iH 0) Y3) iP)
 (iO (jo (i:=3) rH.nd<|j0<|iJ nh<|iJ nh<|iJ nh<|iJ nh<|iJ nh<|iJ nh<|iJ nh<|iJ nh iP)
 (iV<|jq<|CT (Rm ZO (tb:=[("NoPair",true),("NoWord",true),("TooMany",true)]) (aR.mpr ⟨⟨_,YW.n,YW.x,YW.cl,YW.v⟩,(aR.mpr ⟨⟨_,YX.n,YX.x,YX.cl,YX.v⟩,(aR.mpr ⟨⟨_,YY.n,YY.x,YY.cl,YY.v⟩,(nofun)⟩)⟩)⟩) (iH 0) Y3)<|D7<|AH (HY hr.units) (iH 2)<|KL (N:=["_law_name", "_law_due"]) (cap:=[none,some 1]) hh h0 xo (y_ ["_law_due"] rfl ∅ ∅ ∅ ∅ ∅ (aR.mpr ⟨by first|exact Or.inl rfl|exact Or.inr rfl,(nofun)⟩) ⟨rfl,by decide +kernel,trivial⟩) (iH 3) (λ_ _ _ _=>jB (i:=0) (show(["_law_name", "_law_due"]:am).Nodup by decide +kernel) rfl (Or.inl rfl)<|.inr rfl) (λ_ _ _ _=>AA) λ_ _ _ _=>AH (HY hr.units) (iH 0)<|iH 1)))
def mF:FnScope pN o4 (iT pD):=tQ rfl rfl rfl ∅
def xh(F:Fun K "_law_refused" "_law_refused" pD f fd)(hU:BY K "UnderError" U)(mU:L2.mroIn K U=some Qj)(YY:ExcK K U "TooMany" C_TooMany)(YX:ExcK K U "NoWord" C_NoWord)(YW:ExcK K U "NoPair" C_NoPair)(Y8:t6 P w K mg base 49 "rest" Az lQ)(Zl:Uk P w K mg base 1 "_law_is" x_ pW)(Y9:t6 P w K mg base 6 "rising_rows" m7 jt):FnOk P w K mg base sq 50 f fd o4 (tZ K 3 je):=BB (m:=pP) F mF λcdv B outer s H E hr=>
 iO (jo (i:=3) mF.nd<|j0 iP)
 (iO (by(refine EK (i:=4) (cs:=["NoPair", "NoWord", "TooMany"]) ?hb ?hh mF.nd hU mU<|aR.mpr ⟨⟨_,YW.n,YW.r⟩,(aR.mpr ⟨⟨_,YX.n,YX.r⟩,(aR.mpr ⟨⟨_,YY.n,YY.r⟩,(nofun)⟩)⟩)⟩;(case hb=>exact(λ_ _=>BH<|JJ Y8 (hr.mono ⋯) (iJ (iH 0)<|iJ (iH 1) iP)<|iX<|iX jA));(case hh=>exact(λ_ _ _ _ xo=>iV<|oz<|GO fy fB yj (iH 3)<|iJ (LH Zl (zg hr ⋯) rfl ji xo (iJ (iH 4)<|iJ (iH 2) iP)<|iX<|iX jA) iP))))
 (iO (by(refine EK (i:=4) (cs:=["NoPair", "NoWord", "TooMany"]) ?hb ?hh mF.nd hU mU<|aR.mpr ⟨⟨_,YW.n,YW.r⟩,(aR.mpr ⟨⟨_,YX.n,YX.r⟩,(aR.mpr ⟨⟨_,YY.n,YY.r⟩,(nofun)⟩)⟩)⟩;(case hb=>exact(λ_ _=>BH<|JJ Y9 (hr.mono ⋯) (iJ (iH 0)<|iJ (iH 1) iP)<|iX<|iX jA));(case hh=>exact(λ_ _ _ _ xo=>iV<|oz<|GO fy fB yj (iH 3)<|iJ (LH Zl (zg hr ⋯) rfl ji xo (iJ (iH 4)<|iJ (iH 2) iP)<|iX<|iX jA) iP))))
 (iV<|jq<|AH (HY hr.units) (iH 3)<|j0<|iJ uT<|iJ uT iP)))
def qe:FnScope xK v8 (iT ye):=tQ rfl rfl rfl ∅
def Ii(F:Fun K "_law_at" "_law_at" ye f fd)(Y6:mg "list" = none)(Y0:mg "range" = none)(Y4:mg "tuple" = none):FnOk P w K mg base sq 1 f fd v8 (tZ K 2 nY):=BB (m:=xY) F qe λcdv B outer s H E hr=>
 iO (jo (i:=2) qe.nd<|kR (DM rfl) Y6 zJ<|iJ (kR wL Y0 sO<|iJ iQ<|iJ (i7 kL (iH 0) iQ) iP) iP)
 (iO (qm dR rfl (nI Y0<|iH 1) (jB (i:=3) qe.nd)
 (iO (Pw (i:=4) (N:=["_law_at_here", "_law_made"]) (cap:=[none,some 2]) qe.nd rfl (y_ ["_law_made"] rfl ∅ ∅ ∅ ∅ ∅ (aR.mpr ⟨by first|exact Or.inl rfl|exact Or.inr rfl,(nofun)⟩) ⟨rfl,by decide +kernel,trivial⟩) (nI Y0<|i7 oh (iH 0) iQ) (λ_ _ _ _=>jB (i:=0) (show(["_law_at_here", "_law_made"]:am).Nodup by decide +kernel) rfl (Or.inl rfl)<|.inr rfl) (λ_ _ _ _=>vq<|jI (OG hr.units) (kM (iH 1)<|iH 0)<|kM (iH 1)<|i7 kL (iH 0) iQ) λ_ _ _ _=>iH 0)
 (iO (jo (i:=5) qe.nd<|kM (iH 4)<|C5 iQ)
 (iV<|qD (nX<|iJ (kM (iH 2)<|i7 kL (iH 5) iQ)<|iJ (kM (iH 2)<|iH 5) iP)<|qL rfl<|jL (ud (iH 2)<|iH 5)<|jL (ud (iH 2)<|i7 kL (iH 5) iQ) oF))))
 (iV<|jq<|kR (vB rfl) Y4 qO<|iJ (iH 2) iP))
def mY:FnScope LQ QV (iT J5):=tQ rfl rfl rfl ∅
set_option smartUnfolding false in
theorem Ub(F:Fun K "law" "law" J5 f fd)(Y0:mg "range" = none)(Zb:mg "max" = none)(ZP:mg "min" = none)(YZ:mg "len" = none)(Y4:mg "tuple" = none)(ZQ:u_ P w K mg base 1 "_law_bag" uq p5)(Y5:u_ P w K mg base 1 "_law_digit" oA ju)(Zg:u_ P w K mg base 50 "_law_refused" o4 je)(Zh:u_ P w K mg base 2 "_law_order" qN j8)(Zm:u_ P w K mg base 1 "_law_at" v8 nY)(Y8:t6 P w K mg base 49 "rest" Az lQ)(Y9:t6 P w K mg base 6 "rising_rows" m7 jt):FnOk P w K mg base sq 51 f fd QV (tZ K 1 yX):=BB (m:=ML) F mY λcdv B outer s H E hr=>
 iO (qm dR rfl (nI Y0<|jd (SQ rfl) Zb LY<|iJ iQ<|iJ (jd (RO rfl) ZP SN<|iJ (jd mK YZ kI<|iJ (iH 0) iP)<|iJ iQ iP) iP) (jB (i:=1) mY.nd)
 (iO (jo (i:=2) mY.nd<|GY ZQ hr (iH 0)<|iH 1)
 (iO (jo (i:=3) mY.nd<|i7 kL iQ<|GY Y5 hr (iH 2) iQ)
 (iO (jo (i:=4) mY.nd<|i7 kL iQ<|i7 yN (i7 kL (i7 oh (iH 3) iQ)<|GY Y5 hr (iH 2) iQ) iQ)
 (iO (mh (uB<|sF<|V0 Zg hr (GY Zh hr (iH 2)<|iH 3) (GY Zh hr (iH 2)<|iH 4) nh)
 (iV<|jq uT)
 jR)
 (iO (jo (i:=5) mY.nd<|i7 kL iQ<|GY Y5 hr (iH 2) iQ)
 (iO (jo (i:=6) mY.nd<|GY Zh hr (iH 2)<|iH 5)
 (iO (mh (AW.at<|yE (uB<|sF<|V0 Zg hr (iH 6) (iH 6) nh)<|zK<|uB<|sF<|V0 Zg hr (iH 6) (GY Zh hr (iH 2)<|iH 5) nh)
 (iV<|jq uT)
 jR)
 (iO (jo (i:=3) mY.nd<|i7 kL iQ<|GY Y5 hr (iH 2) iQ)
 (iO (jo (i:=7) mY.nd<|kR (vB rfl) Y4 qO<|iJ (kR wL Y0 sO<|iJ iQ<|iJ (i7 kL (iH 3) iQ) iP) iP)
 (iO (jo (i:=8) mY.nd<|i7 kL iQ<|GY Y5 hr (iH 2)<|i7 oh (i7 DZ (i7 BW (iH 3)<|i7 oh (iH 3) iQ) iQ) iQ)
 (iO (mh (uB<|sF<|V0 Zg hr (iH 7) (GY Zm hr (iH 3)<|iH 8) nh)
 (iV<|jq uT)
 jR)
 (iO (jo (i:=9) mY.nd<|GY Zm hr (iH 3) iQ)
 (iO (jo (i:=10) mY.nd<|Ni Y8 hr (iH 7)<|iH 9)
 (iO (mh (AW.at<|yE (jI (HY hr.units) (iH 10)<|j0 iP)<|yE (jI (DH hr.units) (kM (iH 10)<|C5 iQ)<|nX<|iJ iQ<|iJ iQ iP)<|yE (jI (DH hr.units) (Ni Y8 hr (iH 9)<|iH 7)<|j0 iP)<|zK<|jI (DH hr.units) (Ni Y9 hr (iH 9)<|iH 7)<|j0 iP)
 (iV<|jq uT)
 jR)
 (iO (jo (i:=11) mY.nd<|Mf rfl Y4 qO Y0 sO (iH 3) iQ<|C5 iQ)
 (iV (mh (AW.at<|yE (jI (DH hr.units) (Ni Y8 hr (iH 11)<|iH 11)<|j0<|iJ (nX<|iJ iQ<|iJ iQ iP) iP)<|zK<|jI (DH hr.units) (Ni Y9 hr (iH 11)<|iH 11)<|j0<|iJ (j0 iP) iP)
 (iV<|jq uT)
 jR))))))))))))))))))
 (iV<|jq uT)
end
end K37
namespace Po
open Am
meta abbrev Pl:=List<|Int×Int
abbrev val (d:Pl)(k:Int):Int:=((d.find? λp=>decide<|p.1=k).map (·.2)).getD 0
abbrev has (d:Pl)(k:Int):Bool:=d.any λp=>decide<|p.1=k
abbrev put (d:Pl)(k v:Int):Pl:=if has d k=true then d.map (λp=>if p.1=k then(p.1,v)else p)else d++[(k,v)]
abbrev acc (d:Pl)(k v:Int):Pl:=put d k<|val d k+v
abbrev cf:Pl->Int->Int
 | [],_=>0
 | p::l,k=>(if p.1=k then p.2 else 0)+cf l k
def nW{p:Int×Int}{d:Pl}{k:Int}:val (p::d) k=if p.1=k then p.2 else val d k:=by
 unfold val;rw[cA];by_cases h:p.1=k
 ·rw[a_ h,aJ h];rfl
 ·rw[aW h,aK h]
def xO{p:Int×Int}{d:Pl}{k:Int}:has (p::d) k=(decide (p.1=k) || has d k):=rfl
def sL{d:Pl}{k:Int}:has d k=true ↔ k∈d.map Prod.fst:=by
 unfold has;rw[iy,b_];constructor
 ·rintro⟨p,h1,h2⟩;exact⟨p,h1,bS h2⟩
 ·rintro⟨p,h1,h2⟩;exact⟨p,h1,a_ h2⟩
def L8{d:Pl}{k:Int}(h:has d k=false):val d k=0:=by
 induction d with
 | nil=>rfl
 | cons p d ih=>
  rw[xO,Bool.or_eq_false_iff]at h;rw[nW,aK<|dM h.1,ih h.2]
def OL{d:Pl}{k v j:Int}(h:has d k=false):val (d++[(k,v)]) j=if j=k then v else val d j:=by
 induction d with
 | nil=>
  show val [(k,v)] j=_;rw[nW];by_cases c:k=j
  ·rw[aJ c,aJ c.symm]
  ·rw[aK c,aK λz=>c z.symm]
 | cons p d ih=>
  rw[xO,Bool.or_eq_false_iff]at h;have:=dM h.1;rw[iz,nW,nW,ih h.2];by_cases c:p.1=j
  ·rw[aJ c,aJ c,aK λz=>this<|c.trans z]
  ·rw[aK c,aK c]
def Pu{d:Pl}{k v j:Int}:val (d.map λp=>if p.1=k then(p.1,v)else p) j=if j=k/\has d k=true then v else val d j:=by
 induction d with
 | nil=>
  rw[aK λz=>by cases z.2];rfl
 | cons p d ih=>
  rw[bQ,nW,nW,ih,xO];by_cases c:p.1=k
  ·rw[aJ c,a_ c,Bool.true_or];by_cases e:j=k
   ·rw[aJ<|show p.1=j by lia,aJ ⟨e,rfl⟩]
   ·rw[aK<|show ¬p.1=j by lia,aK λz=>e z.1,aK λz=>e z.1,aK<|show ¬p.1=j by lia]
  ·rw[aK c,aW c,gB];by_cases e:p.1=j
   ·rw[aJ e,aJ e,aK λz=>c<|e.trans z.1]
   ·rw[aK e,aK e]
def Pf{d:Pl}{k v j:Int}:val (put d k v) j=if j=k then v else val d j:=by
 unfold put
 cases h:has d k with
 | true=>
  rw[aJ rfl,Pu,h];by_cases c:j=k
  ·rw[aJ ⟨c,rfl⟩,aJ c]
  ·rw[aK λz=>c z.1,aK c]
 | false=>rw[aK<|by simp,OL h]
def OX{d:Pl}{k v j:Int}:val (acc d k v) j=val d j+if k=j then v else 0:=by
 unfold acc;rw[Pf];by_cases c:j=k
 ·subst c;rw[aJ rfl,aJ rfl]
 ·rw[aK c,aK λz=>c z.symm,dW]
def LW{d:Pl}{k v:Int}:(put d k v).map Prod.fst=if has d k=true then d.map Prod.fst else d.map Prod.fst++[k]:=by
 unfold put;split
 ·rw[ck];apply gM;intro p _;show(if p.1=k then(p.1,v)else p).1=p.1;split<;>rfl
 ·rw[cF];rfl
def RX{d:Pl}{k v:Int}(h:(d.map Prod.fst).Nodup):((put d k v).map Prod.fst).Nodup:=by
 rw[LW];split
 ·exact h
 ·rename_i c;rw[cW];refine⟨h,cT _ _,λa ha b hb z=>c ?_⟩;rw[bC]at hb;rw[sL,<- hb,<- z];exact ha
def OS{d:Pl}{k v:Int}:(put d k v).length<=d.length+1:=by
 unfold put;split
 ·rw[aM];lia
 ·rw[bh];exact aO _
abbrev Bd (c:Nat)(d:Pl):Prop:=∀p∈d,p.2.natAbs<=c
abbrev om (d ps:Pl):Pl:=ps.foldl (λd p=>acc d p.1 p.2) d
def K1(d:Pl):om d []=d:=rfl
def xD(d ps qs:Pl):om d (ps++qs)=om (om d ps) qs:=by unfold om;rw[eV]
def tu(ps:Pl):∀(d:Pl) (k:Int),val (om d ps) k=val d k+cf ps k:=by
 induction ps with
 | nil=>intro d k;rw[K1];show _=_+0;rw[dW]
 | cons p ps ih=>
  intro d k;show val (om (acc d p.1 p.2) ps) k=_;rw[ih,OX];show _=_+(_+_);rw[add_assoc]
def tX(ps:Pl):∀{d:Pl},(d.map Prod.fst).Nodup->((om d ps).map Prod.fst).Nodup:=by
 induction ps with
 | nil=>intro d h;exact h
 | cons p ps ih=>intro d h;exact ih<|RX h
def pR(ps:Pl):∀(d:Pl),(om d ps).length<=d.length+ps.length:=by
 induction ps with
 | nil=>intro d;exact aO _
 | cons p ps ih=>
  intro d;have h1:=ih<|acc d p.1 p.2;have h2:(acc d p.1 p.2).length<=d.length+1:=OS;show(om (acc d p.1 p.2) ps).length<=_;rw[bA]
  lia
structure Ok (l:Pl):Prop where
 up:l.Pairwise λp q=>p.1<q.1
 nz:∀p∈l,p.2≠0
def Ok.tail{p:Int×Int}(h:Ok (p::l)):Ok l:=⟨(bZ.mp h.up).2,λq hq=>h.nz q<|aQ _ hq⟩
def B8{l:Pl}{k:Int}(h:∀p∈l,k<p.1):cf l k=0:=by
 induction l with
 | nil=>rfl
 | cons p l ih=>
  show(if p.1=k then p.2 else 0)+cf l k=0;have:=h p<|aN ..;rw[aK (),ih λq hq=>h q<|aQ _ hq];rfl
def Ok.head{p:Int×Int}(h:Ok (p::l)):cf (p::l) p.1=p.2:=by
 show(if p.1=p.1 then p.2 else 0)+cf l p.1=p.2;rw[aJ rfl,B8 (bZ.mp h.up).1,dW]
def Ok.low{p:Int×Int}(h:Ok (p::l)){k:Int}(hk:k<p.1):cf (p::l) k=0:=B8 λq hq=>by
 rcases bB.mp hq with rfl|z
 ·exact hk
 ·have:=(bZ.mp h.up).1 q z;lia
theorem uniq:∀{l m:Pl},Ok l->Ok m->(∀k,cf l k=cf m k)->l=m
 | [],[],_,_,_=>rfl
 | [],q::m,_,h,e=>by
  have:=e q.1;rw[h.head]at this;exact absurd this.symm<|h.nz q<|aN ..
 | p::l,[],h,_,e=>by
  have:=e p.1;rw[h.head]at this;exact absurd this<|h.nz p<|aN ..
 | p::l,q::m,h,h',e=>by
  have n1:=h.nz p<|aN ..;have n2:=h'.nz q<|aN ..;have e1:p.1=q.1:=by
   rcases Int.lt_trichotomy p.1 q.1 with c|c|c
   ·have:=e p.1;rw[h.head,h'.low c]at this;exact absurd this n1
   ·exact c
   ·have:=e q.1;rw[h'.head,h.low c]at this;exact absurd this.symm n2
  have e2:p.2=q.2:=by
   have:=e p.1;rw[h.head,e1,h'.head]at this;exact this
  have e3:p=q:=Prod.ext e1 e2;subst e3;rw[uniq h.tail h'.tail λk=>by
   have:(if p.1=k then p.2 else 0)+cf l k=(if p.1=k then p.2 else 0)+cf m k:=e k
   lia]
abbrev E8 (d:Pl):Pl:=((sortI<|d.map Prod.fst).filter λk=>val d k != 0).map λk=>(k,val d k)
def NV{ks:ae}(h:ks.Nodup):(sortI ks).Pairwise (· < ·):=by
 have p:=xw ks;have n:(sortI ks).Nodup:=(sortI_perm ks).nodup_iff.mpr h;have:(sortI ks).Pairwise λa b=>a<=b/\a≠b:=p.and n;exact this.imp λ⟨a,b⟩=>()
def DA{d:Pl}(h:(d.map Prod.fst).Nodup):Ok (E8 d):=by
 refine⟨?_,λp hp=>?_⟩
 ·unfold E8;rw[dS];exact(NV h).filter _
 ·obtain⟨k,hk,rfl⟩:=b_.mp hp;have:=(dg.mp hk).2;simpa using this
theorem MJ{d:Pl}{k:Int}:∀{ks:ae},ks.Nodup->cf (ks.map λj=>(j,val d j)) k=if k∈ks then val d k else 0
 | [],_=>by rw[aK<|by simp];rfl
 | j::ks,h=>by
  obtain⟨h1,h2⟩:=cP.mp h;show(if j=k then val d j else 0)+cf (ks.map λj=>(j,val d j)) k=_;rw[MJ h2];by_cases c:j=k
  ·subst c;rw[aJ rfl,aK h1,aJ<|aN ..,dW]
  ·rw[aK c,dF];by_cases e:k∈ks
   ·rw[aJ e,aJ<|aQ _ e]
   ·rw[aK e,aK λz=>(bB.mp z).elim (λz=>c z.symm) e]
def Ao{d:Pl}(h:(d.map Prod.fst).Nodup)(k:Int):cf (E8 d) k=val d k:=by
 unfold E8;rw[MJ<|((sortI_perm _).nodup_iff.mpr h).filter _];split
 ·rfl
 ·rename_i c
  cases e:has d k with
  | false=>exact(L8 e).symm
  | true=>
   by_cases z:val d k=0
   ·exact z.symm
   ·exact absurd (dg.mpr ⟨(sortI_perm _).mem_iff.mpr<|sL.mp e,by simpa using z⟩) c
def Sn{d e:Pl}(h:(d.map Prod.fst).Nodup)(h':(e.map Prod.fst).Nodup)(hv:∀k,val d k=val e k):E8 d=E8 e:=
 uniq (DA h) (DA h') λk=>by rw[Ao h,Ao h',hv]
def Ok.nd{l:Pl}(h:Ok l):(l.map Prod.fst).Nodup:=by
 unfold List.Nodup;rw[dS];exact h.up.imp λa=>()
def Ue{l:Pl}(h:(l.map Prod.fst).Nodup)(k:Int):val l k=cf l k:=by
 induction l with
 | nil=>rfl
 | cons p l ih=>
  obtain⟨h1,h2⟩:=cP.mp h;rw[nW];show _=(if p.1=k then p.2 else 0)+cf l k;rw[<- ih h2];by_cases c:p.1=k
  ·have:has l k=false:=by
    cases e:has l k with
    | false=>rfl
    | true=>exact absurd (sL.mp e)<|by rw[<- c];exact h1
   rw[aJ c,aJ c,L8 this,dW]
  ·rw[aK c,aK c,dF]
abbrev Km (d ps:Pl):Pl:=ps.foldl (λd p=>put d p.1 p.2) d
theorem Em:∀(ps d:Pl),((d++ps).map Prod.fst).Nodup->Km d ps=d++ps
 | [],d,_=>by rw[bK];rfl
 | p::ps,d,h=>by
  have hn:has d p.1=false:=by
   cases e:has d p.1 with
   | false=>rfl
   | true=>
    rw[cF,cW]at h;exact absurd rfl<|h.2.2 _ (sL.mp e) p.1<|List.mem_map_of_mem<|aN ..
  have e:put d p.1 p.2=d++[p]:=by unfold put;rw[hn];rfl
  show Km (put d p.1 p.2) ps=_;rw[e,Em ps (d++[p])<|by rw[bO];exact h,bO];rfl
def NJ(h:Ok l):Km [] l=l:=Em l [] h.nd
abbrev plus (a b:Pl):Pl:=E8<|om a b
abbrev wG (a b:Pl):Pl:=E8<|om []<|a++b
def Nx{a:Pl}(h:Ok a):plus a b=wG a b:=by
 refine Sn (tX _ h.nd) (tX _ eZ) λk=>?_;rw[tu,tu,Ue h.nd];have:∀(a b:Pl),cf (a++b) k=cf a k+cf b k:=λa b=>by
  induction a with
  | nil=>exact(dF _).symm
  | cons p a ih=>
   show _+cf (a++b) k=_+_+_;rw[ih,add_assoc]
 rw[this];show _=0+_;rw[dF]
def J8(a b:Pl):Ok (wG a b):=DA<|tX _ eZ
abbrev HK (a b:Pl):Pl:=a.flatMap λp=>b.map λq=>(p.1+q.1,p.2 * q.2)
abbrev times (a b:Pl):Pl:=E8<|om []<|HK a b
def Lx(a:Pl)(p:Int×Int)(b:Pl):HK (a++[p]) b=HK a b++b.map λq=>(p.1+q.1,p.2 * q.2):=by
 unfold HK;rw[List.flatMap_append,eW,List.flatMap_nil,bK]
def Aq(a b:Pl):(HK a b).length=a.length * b.length:=by
 induction a with
 | nil=>simp[HK]
 | cons p a ih=>
  show((b.map _)++HK a b).length=_;rw[bh,aM,ih,bA,succ_mul]
  lia
def Nm(d:Pl):(E8 d).length<=d.length:=by
 unfold Po.E8;rw[aM];refine bW (gp _ _) ?_;rw[(sortI_perm _).length_eq,aM];exact aO _
abbrev turn (a:Pl):Pl:=a.reverse.map λp=>(-p.1,p.2)
abbrev iv (d:Pl):List (Int×A):=d.map λp=>(p.1,.int p.2)
abbrev pA (p:Int×Int):A:=.tup [.int p.1,.int p.2]
abbrev pl (l:Pl):ad:=l.map pA
def A5(d:Pl)(k:Int):lI (iv d) k=(d.find? λp=>decide<|p.1=k).map λp=>.int p.2:=by
 unfold lI iv;rw[List.find?_map,Option.map_map];rfl
def Lh(d:Pl)(k:Int):(lI (iv d) k).getD (.int 0)=.int (val d k):=by
 rw[A5];unfold val
 cases d.find? λp=>decide (p.1=k)<;>rfl
def Cd{d:Pl}{k:Int}(h:k∈d.map Prod.fst):lI (iv d) k=some (.int<|val d k):=by
 have:=sL.mpr h;unfold has at this;rw[A5];unfold val
 cases e:d.find? λp=>decide (p.1=k)with
 | some p=>rfl
 | none=>
  obtain⟨p,hp,hd⟩:=iy.mp this;exact absurd hd<|List.find?_eq_none.mp e p hp
def Eb(d:Pl)(k v:Int):uJ (iv d) k (.int v)=iv (put d k v):=by
 have e:(lI (iv d) k).isSome=has d k:=by
  rw[A5,isSome_map];unfold has;rw[Bool.eq_iff_iff,List.find?_isSome,iy]
 unfold uJ put;rw[e];unfold iv;split
 ·rw[ck,ck];apply gM;intro p _;show(if p.1=k then(p.1,A.int v)else(p.1,.int p.2))=_;show _=((if p.1=k then(p.1,v)else p).1,A.int (if p.1=k then(p.1,v)else p).2);split<;>rfl
 ·rw[cF];rfl
def N3(d:Pl):(iv d).map Prod.fst=d.map Prod.fst:=by
 unfold iv;rw[ck];rfl
theorem PZ:∀l:Pl,Pp (pl l)=some (iv l)
 | []=>rfl
 | p::l=>by
  show(Pp<|pl l).map _=_;rw[PZ l];rfl
def O3(l:Pl):Nq (iv l)=iv (Km [] l):=by
 have:∀(l d:Pl),(iv l).foldl (λacc p=>uJ acc p.1 p.2) (iv d)=iv (Km d l):=by
  intro l
  induction l with
  | nil=>intro d;rfl
  | cons p l ih=>
   intro d;show(iv l).foldl _ (uJ (iv d) p.1<|.int p.2)=_;rw[Eb,ih];rfl
 exact this l []
end Po
namespace Tb
abbrev fg (r:ae)(x:Int):Nat:=r.findIdx λy=>decide<|x<y
abbrev put:List (ae)->Int->List (ae)
 | [],x=>[[x]]
 | r::rs,x=>if fg r x=r.length then(r++[x])::rs else r.set (fg r x) x::put rs (r.getD (fg r x) 0)
abbrev row:List (ae)->Int->Nat
 | [],_=>0
 | r::rs,x=>if fg r x=r.length then 0 else row rs (r.getD (fg r x) 0)+1
abbrev add:List (ae)->Nat->Int->List (ae)
 | [],_,k=>[[k]]
 | q::qs,0,k=>(q++[k])::qs
 | q::qs,i+1,k=>q::add qs i k
abbrev gs (r:ae)(x:Int):ag:=(List.range r.length).filter λk=>decide<|x<r.getD k 0
end Tb
namespace Am
open PySem L2
abbrev Rows (S:iN):ag->List (ae)->Prop
 | [],[]=>True
 | r::rs,x::T=>iL S r=some (x.map .int)/\Rows S rs T
 | _,_=>False
structure Tab (S:iN)(n:Nat)(rs:ag)(T:List (ae)):Prop where
 top:iL S n=some (rs.map .ref)
 rows:Rows S rs T
 nd:(n::rs).Nodup
def eq_nil{a:Nat}{xs:ad}(h:iL S a=some xs)(h':iL S b=some []):yp S 12 (.ref a) (.ref b)=some xs.isEmpty:=by
 show(iL S a).bind (λxs=>(iL S b).bind λys=>sZ (yp S 11) xs ys)=_;rw[h,bT,h',bT]
 cases xs<;>rfl
def zY{a:A}{k:Bool}(h:yp S 12 a b=some k):rZ false a b S=.ok (.bl k) S:=by unfold rZ;rw[h];rfl
def zE{a:A}{k:Bool}(h:yp S 12 a b=some k):rZ true a b S=.ok (.bl<|!k) S:=by unfold rZ;rw[h];rfl
def BO{xs:ad}{n:Nat}{src:Ic}{t:Te}{e:Ex}{S:iN}(hs:src τ S=.ok (mR n xs.length) S)(hx:iL S n=some xs)(p:A->Bool)(f:A->A)
  (ht:∀x∈xs,t (x::oi cap τ) S=.ok (p x) S) (he:∀x∈xs,p x=true->e (x::oi cap τ) S=.ok (f x) S) (hl:xs.length<=16777216) :
  lY (none::cap) src (jW 0) t e τ S=.ok (.ref S.length) (S++[.lst<|(xs.filter p).map f]):=by
 have hm:∀i,i<xs.length->xs.getD i .unb∈xs:=λi hi=>by
  rw[aL,aG hi];exact d9 hi
 rw[yI hs (λi=>xs.getD i .unb) (λi=>p<|xs.getD i .unb) (λi=>f<|xs.getD i .unb) (λi hi=>by
  have hi:i<xs.length:=hi;show(iL S n).bind _=_;rw[hx,bT,aL,aG hi];rfl) (by
   show(match iL S n with
    | some ys=>decide (ys.length<=xs.length)
    | none=>false)=true
   rw[hx];simp) (λi hi=>ht _<|hm i hi) (λi hi=>he _<|hm i hi) hl]
 have:=pX xs p f .unb;show R.ok _ (S++[O.lst<|((List.range xs.length).filter _).map _])=_;rw[this]
def getD_at{r:ae}{k:Nat}(h:k<r.length):r[k]?=some (r.getD k 0):=by rw[aL,aG h];rfl
end Am
namespace Am
open PySem L2 Po
def L5(l:Pl):(pl l).length=l.length:=aM ..
def HS{xs:ad}{n:Nat}{src:Ic}{t:Te}{e:Ex}{S1:iN}(hs:src τ S=.ok (mR n xs.length) S1)(hx:iL S1 n=some xs)(p:A->Bool)(f:A->A)
  (ht:∀x∈xs,t (x::oi cap τ) S1=.ok (p x) S1) (he:∀x∈xs,p x=true->e (x::oi cap τ) S1=.ok (f x) S1) (hl:xs.length<=16777216) :
  lY (none::cap) src (jW 0) t e τ S=.ok (.ref S1.length) (S1++[.lst<|(xs.filter p).map f]):=by
 have:=BO (S:=S1) (src:=λ_ _=>.ok (mR n xs.length) S1) (τ:=τ) rfl hx p f ht he hl;unfold lY at this ⊢;rw[hs];exact this
def Jz{S:iN}{d:List<|Int×A}:jV (S++[.oS d]) S.length=some d:=AQ I_
def RY{o:O}{n:Nat}{d:List<|Int×A}(h:jV S n=some d):jV (S++[o]) n=some d:=by
 have h':=nH h;exact AQ<|by rw[bE (aI.mp h').1];exact h'
def P5{S:iN}{n:Nat}{d:List<|Int×A}(h:jV S n=some d):n<S.length:=(aI.mp<|nH h).1
def IW{S:iN}{n:Nat}{d:List<|Int×A}(h:n<S.length):jV (S.set n<|.oS d) n=some d:=AQ<|bI h
def F3{n:Nat}{d:List<|Int×A}(h:jV S n=some d)(h':iL S m=some xs):n≠m:=λz=>by
 subst z;have e1:=nH h;rw[i6 h']at e1
 cases e1
def GV{f:A->ad->iN->R A}{co:Ex}{d:pQ}:HZ f co d τ S=(co τ S).bind λx S1=>opt (dk? x S1) λ_=>(d τ S1).bind λas S2=>f x as S2:=rfl
def Lb{n:Nat}:dk? (.ref n) S=(jV S n).map λ_=>Unit.unit:=rfl
def BN{n:Nat}{k:Int}:uO (.ref n) [.int k,y] S=opt (jV S n) λkvs=>.ok ((lI kvs k).getD y) S:=rfl
def GQ{co ci:Ex}{a:A}:Iu co ci a τ S=(co τ S).bind λo S1=>(ci τ S1).bind λi S2=>(zo o i a S2).bind λ_ S3=>.ok τ S3:=rfl
def CI{n:Nat}{k:Int}{v:A}{S:iN}:zo (.ref n) (.int k) v S=opt (jV S n) λkvs=>gd (kvs.length<sizeLine) (.ok Unit.unit<|S.set n<|.oS<|uJ kvs k v):=rfl
def FT{n:Nat}{k:Int}:wK (.ref n) (.int k) S=opt (jV S n) λkvs=>opt (lI kvs k) λv=>.ok v S:=rfl
def HE{S:iN}:DE τ S=.ok (.ref S.length) (S++[.oS []]):=rfl
def Ih{n:Nat}{S:iN}:wX (.ref n) S=opt (jV S n) λkvs=>.ok (.ref S.length) (S++[.lst<|(sortI<|kvs.map Prod.fst).map .int]):=rfl
def Iq{n:Nat}{S:iN}:DF (.ref n) S=opt (iL S n) λxs=>opt (Pp xs) λps=>.ok (.ref S.length) (S++[.oS<|Nq ps]):=rfl
def WX{i j:Int}(h:i.natAbs<big)(h':j.natAbs<big):F0 (.int i) (.int j) S=.ok (.int<|i * j) S:=jO ⟨h,h'⟩
def Jf(d:Pl):(iv d).length=d.length:=aM ..
meta abbrev Rg:Sm:=jC (iU j4 (HZ uO (iK 2)<|iI (iK 3)<|iI (eC<|.int 0)<|iW)<|iK 4)<|Iu (iK 2)<|iK 3
def acc_step{S:iN}{d:Nat}{D:Pl}{k v:Int}(hd:jV S d=some (iv D))(hl:D.length<16777216):Rg [x0,x1,.ref d,.int k,.int v] S=.nx [x0,x1,.ref d,.int k,.int v] (S.set d<|.oS<|iv<|acc D k v):=by
 unfold Rg;dsimp[jx,bools,GV,Lb,hd,dh,BN,Lh,GQ,CI,Fj<|show(iv D).length<16777216 by rw[Jf];exact hl,Eb];rfl
meta abbrev UA:Tg:=Ed 2<|uP (jW 3)<|uP (jW 4) EY
def Nr{d n:Nat}{D l:Pl}{src:Ic}(hs:src [x0,x1,.ref d,x3,x4] S=.ok (mR n (pl l).length) S1)(hn:iL S1 n=some (pl l))(hd:jV S1 d=some (iv D))(hl:D.length+l.length<16777216) :
  ∃y3 y4 S',nU src UA Rg [x0,x1,.ref d,x3,x4] S=.nx [x0,x1,.ref d,y3,y4] S'/\jV S' d=some (iv<|om D l)/\Kp (·=d) S1 S':=by
 have nd:=F3 hd hn;refine A1 (n:=n) (xs:=pl l) hs (λi τ T=>(∃y3 y4,τ=[x0,x1,.ref d,y3,y4])/\jV T d=some (iv<|om D<|l.take i)/\Kp (·=d) S1 T)
  (λr=>∃y3 y4 S',r=.nx [x0,x1,.ref d,y3,y4] S'/\jV S' d=some (iv<|om D l)/\Kp (·=d) S1 S') ⟨⟨_,_,rfl⟩,hd,Kp.refl⟩ (λi τ T h=>h.2.2.lst _ _ (cN nd) hn) ?_ ?_
 ·rintro i z τ T hz ⟨⟨y3,y4,rfl⟩,hD,kp⟩;unfold pl at hz;rw[bg]at hz;obtain⟨p,hp,rfl⟩:=bz.mp hz;refine⟨[x0,x1,.ref d,.int p.1,.int p.2],T,rfl,.inl ?_⟩;have hlen:=pR (l.take i) D;have hi:=(aI.mp hp).1;rw[bL]at hlen;refine⟨_,_,acc_step hD (),⟨_,_,rfl⟩,?_,kp.NI<|.inl rfl⟩;rw[IW<|P5 hD,f7,hp,xD];rfl
 ·rintro τ T ⟨⟨y3,y4,rfl⟩,hD,kp⟩;rw[L5,gv]at hD;exact⟨y3,y4,T,rfl,hD,kp⟩
meta abbrev OA:Sm:=jC (iU j4 (HZ uO (iK 2)<|iI (iU j4 (iK 3)<|iK 5)<|iI (eC<|.int 0)<|iW)<|iU F0 (iK 4)<|iK 6)<|Iu (iK 2)<|iU j4 (iK 3)<|iK 5
meta abbrev Yn:Tg:=Ed 2<|uP (jW 5)<|uP (jW 6) EY
def K9{S:iN}{d:Nat}{D:Pl}{k v j u:Int}(hd:jV S d=some (iv D))(hl:D.length<16777216)(hv:v.natAbs<big)(hu:u.natAbs<big):OA [x0,x1,.ref d,.int k,.int v,.int j,.int u] S=.nx [x0,x1,.ref d,.int k,.int v,.int j,.int u] (S.set d<|.oS<|iv<|acc D (k+j)<|v * u):=by
 unfold OA;dsimp[jx,bools,GV,Lb,hd,dh,BN,Lh,WX hv hu,GQ,CI,Fj<|show(iv D).length<16777216 by rw[Jf];exact hl,Eb];rfl
def OW{d n:Nat}{D l:Pl}{k v:Int}(hn:iL S n=some (pl l))(hd:jV S d=some (iv D))(hl:D.length+l.length<16777216)(hv:v.natAbs<big)(hu:∀p∈l,p.2.natAbs<big) :
  ∃y5 y6 S',nU (sR<|iK 1) Yn OA [x0,.ref n,.ref d,.int k,.int v,x5,x6] S=.nx [x0,.ref n,.ref d,.int k,.int v,y5,y6] S'/\jV S' d=some (iv<|om D<|l.map λq=>(k+q.1,v * q.2))/\Kp (·=d) S S':=by
 have nd:=F3 hd hn;refine A1 (n:=n) (xs:=pl l) (S1:=S) (yg (by dsimp[jx,bools]) hn) (λi τ T=>(∃y5 y6,τ=[x0,.ref n,.ref d,.int k,.int v,y5,y6])/\jV T d=some (iv<|om D<|(l.take i).map λq=>(k+q.1,v * q.2))/\Kp (·=d) S T)
  (λr=>∃y5 y6 S',r=.nx [x0,.ref n,.ref d,.int k,.int v,y5,y6] S'/\jV S' d=some (iv<|om D<|l.map λq=>(k+q.1,v * q.2))/\Kp (·=d) S S') ⟨⟨_,_,rfl⟩,hd,Kp.refl⟩ (λi τ T h=>h.2.2.lst _ _ (cN nd) hn) ?_ ?_
 ·rintro i z τ T hz ⟨⟨y5,y6,rfl⟩,hD,kp⟩;unfold pl at hz;rw[bg]at hz;obtain⟨p,hp,rfl⟩:=bz.mp hz;refine⟨[x0,.ref n,.ref d,.int k,.int v,.int p.1,.int p.2],T,rfl,.inl ?_⟩;have hlen:=pR ((l.take i).map λq=>(k+q.1,v * q.2)) D;have hi:=(aI.mp hp).1;rw[aM,bL]at hlen;refine⟨_,_,K9 hD () hv<|hu p<|aX hp,⟨_,_,rfl⟩,?_,kp.NI<|.inl rfl⟩;rw[IW<|P5 hD,f7,hp,cF,xD];rfl
 ·rintro τ T ⟨⟨y5,y6,rfl⟩,hD,kp⟩;rw[L5,gv]at hD;exact⟨y5,y6,T,rfl,hD,kp⟩
meta abbrev Us:Sm:=nU (sR<|iK 1) Yn OA
def C4(f:Int×Int->A)(hf:∀p τ S,UA (f p) τ S=UA (pA p) τ S){d n:Nat}{a b:Pl}(hn:iL S n=some (a.map f))(hm:iL S m=some (pl b))(hd:jV S d=some [])(hl:a.length * b.length<16777216)(ha:∀p∈a,p.2.natAbs<big)(hb:∀p∈b,p.2.natAbs<big) :
  ∃y3 y4 y5 y6 S',nU (sR<|iK 0) UA Us [.ref n,.ref m,.ref d,x3,x4,x5,x6] S=.nx [.ref n,.ref m,.ref d,y3,y4,y5,y6] S'/\jV S' d=some (iv<|om []<|HK a b)/\Kp (·=d) S S':=by
 have nd:=F3 hd hn;have md:=F3 hd hm;refine A1 (n:=n) (xs:=a.map f) (S1:=S) (yg (by dsimp[jx,bools]) hn) (λi τ T=>(∃y3 y4 y5 y6,τ=[.ref n,.ref m,.ref d,y3,y4,y5,y6])/\jV T d=some (iv<|om []<|HK (a.take i) b)/\Kp (·=d) S T)
  (λr=>∃y3 y4 y5 y6 S',r=.nx [.ref n,.ref m,.ref d,y3,y4,y5,y6] S'/\jV S' d=some (iv<|om []<|HK a b)/\Kp (·=d) S S') ⟨⟨_,_,_,_,rfl⟩,hd,Kp.refl⟩ (λi τ T h=>h.2.2.lst _ _ (cN nd) hn) ?_ ?_
 ·rintro i z τ T hz ⟨⟨y3,y4,y5,y6,rfl⟩,hD,kp⟩;rw[bg]at hz;obtain⟨p,hp,rfl⟩:=bz.mp hz;refine⟨[.ref n,.ref m,.ref d,.int p.1,.int p.2,y5,y6],T,hf _ _ _,.inl ?_⟩;have hlen:=pR (HK (a.take i) b) [];have hi:=(aI.mp hp).1;rw[Aq,bL,Nat.min_eq_left<|iB hi,cQ,dD]at hlen;have hmul:i * b.length+b.length<=a.length * b.length:=by rw[<- succ_mul];exact Nat.mul_le_mul_right _ hi
  obtain⟨z5,z6,T',e,hD',kp'⟩:=OW (x0:=.ref n) (x5:=y5) (x6:=y6) (k:=p.1) (v:=p.2) (kp.lst _ _ (cN md) hm) hD () (ha p<|aX hp) hb;refine⟨_,_,e,⟨_,_,_,_,rfl⟩,?_,kp.trans kp'⟩;rw[hD',f7,hp,Option.toList_some,Lx,xD]
 ·rintro τ T ⟨⟨y3,y4,y5,y6,rfl⟩,hD,kp⟩;rw[aM,gv]at hD;exact⟨y3,y4,y5,y6,T,rfl,hD,kp⟩
meta abbrev Xg:Ex:=lY [none,some 0] (sR<|jk (f1 wX)<|iI (iK 0)<|iW) (jW 0) (qS<|iU (rZ true) (iU wK (iK 1)<|iK 0)<|eC<|.int 0)<|qj<|iI (iK 0)<|iI (iU wK (iK 1)<|iK 0)<|iW
def Si{S:iN}{d:Nat}{D:Pl}(hd:jV S d=some (iv D))(hl:D.length<=16777216):∃S',Xg [.ref d] S=.ok (.ref<|S.length+1) S'/\iL S' (S.length+1)=some (pl<|E8 D)/\m9 S S':=by
 have hd1:jV (S++[.lst<|(sortI<|D.map Prod.fst).map .int]) d=some (iv D):=RY hd;have ls:(S++[O.lst<|(sortI<|D.map Prod.fst).map A.int]).length=S.length+1:=by simp
 have cc:=HS (n:=S.length) (xs:=(sortI<|D.map Prod.fst).map A.int) (cap:=[some 0]) (src:=sR<|jk (f1 wX)<|iI (iK 0)<|iW) (t:=qS<|iU (rZ true) (iU wK (iK 1)<|iK 0)<|eC<|.int 0) (e:=qj<|iI (iK 0)<|iI (iU wK (iK 1)<|iK 0)<|iW) (τ:=[.ref d]) (S:=S) (S1:=S++[.lst<|(sortI<|D.map Prod.fst).map .int])
  (yg (by dsimp[jx,bools,Ih,hd,N3]) i8) i8 (λx=>match x with | .int k=>val D k != 0|_=>false) (λx=>match x with | .int k=>pA (k,val D k)|_=>.non) (λx hx=>by
   obtain⟨k,hk,rfl⟩:=b_.mp hx;have hk:=(sortI_perm _).mem_iff.mp hk;dsimp[jx,bools,FT,hd1,Cd hk];rfl) (λx hx _=>by
   obtain⟨k,hk,rfl⟩:=b_.mp hx;have hk:=(sortI_perm _).mem_iff.mp hk;dsimp[jx,bools,FT,hd1,Cd hk];exact AJ<|show 2<=16777216 by decide) (by rw[aM,(sortI_perm _).length_eq,aM];exact hl)
 refine⟨_,cc.trans<|by rw[ls],?_,Kp.refl.lay.lay⟩;rw[<- ls,i8];congr 1;unfold pl E8;rw[ck,iF,ck];rfl
end Am
namespace Su
open Am Po PySem L2
meta abbrev En:=ae×Nat×Pl
meta abbrev Es:=List En
abbrev kv (e:En):ae×A:=(e.1,.ref e.2.1)
abbrev At (S:iN)(es:Es):Prop:=∀e∈es,iL S e.2.1=some (pl e.2.2)
meta abbrev Ps:=List<|ae×Pl
abbrev sm (es:Es):Ps:=es.map λe=>(e.1,e.2.2)
abbrev vS (D:Ps)(o:ae):Pl:=((D.find? λe=>decide<|e.1=o).map (·.2)).getD []
abbrev hS (D:Ps)(o:ae):Bool:=D.any λe=>decide<|e.1=o
abbrev Xi (D:Ps)(o:ae)(p:Pl):Ps:=if hS D o=true then D.map (λe=>if e.1=o then(e.1,p)else e)else D++[(o,p)]
abbrev XS (D:Ps)(o:ae)(p:Pl):Ps:=Xi D o<|wG (vS D o) p
abbrev adds (D l:Ps):Ps:=l.foldl (λD e=>XS D e.1 e.2) D
abbrev toS (D:Ps):Ps:=((JE<|D.map Prod.fst).filter λo=>!(vS D o).isEmpty).map λo=>(o,vS D o)
abbrev fE (D:Es)(o:ae):Option En:=D.find? λe=>decide<|e.1=o
abbrev Vl (k b:Nat)(D:Es):Prop:=∀e∈D,Ok e.2.2/\e.2.2.length<=k/\b<=e.2.1
def IG(a b:Pl):(times a b).length<=a.length * b.length:=by
 refine bW (Nm _)<|bW (pR _ _) ?_;rw[Aq,cQ];lia
abbrev SS (D:Es)(p:Pl->Bool):Es:=((JE<|D.map Prod.fst).filter λo=>p<|vS (sm D) o).map λo=>(o,((fE D o).map λe=>e.2.1).getD 0,vS (sm D) o)
abbrev Ap (D:Es):Prop:=D.Pairwise λe f=>e.1≠f.1/\e.2.1≠f.2.1
structure Fil (T:iN)(d b i j:Nat)(P:Ps)(D:Es):Prop where
 dd:VB T d=some (D.map kv)
 aa:At T D
 ss:sm D=P
 vv:Vl (i * j) b D
 kk:∀e∈D,e.1≠[]
 ll:D.length<=i
 pw:Ap D
end Su
namespace Bl
open L2
abbrev cnt:ae->Int->Int
 | [],_=>0
 | x::l,j=>(if j<=x then 1 else 0)+cnt l j
abbrev Below (xs ys:ae):Prop:=∀(i:Nat) (j:Int),cnt (xs.take i) j<=cnt (ys.take i) j
def Below.refl(xs:ae):Below xs xs:=λ_ _=>fN _
def Below.trans{a c:ae}(h:Below a b)(k:Below b c):Below a c:=λi j=>Int.le_trans (h i j)<|k i j
def cnt_append(a b:ae)(j:Int):cnt (a++b) j=cnt a j+cnt b j:=by
 induction a with
 | nil=>simp[cnt]
 | cons x a ih=>rw[iz,cnt,cnt,ih];lia
def By{a:ae}(p:a.Perm b)(j:Int):cnt a j=cnt b j:=by
 induction p with
 | nil=>rfl
 | cons x _ ih=>rw[cnt,cnt,ih]
 | swap x y l=>rw[cnt,cnt,cnt,cnt];lia
 | trans _ _ h1 h2=>exact h1.trans h2
def take_snoc{l:ae}{i:Nat}(h:i<l.length):l.take (i+1)=l.take i++[l[i]]:=by
 rw[List.take_succ,aG h];rfl
def jJ{l:ae}{i:Nat}(h:i<l.length)(j:Int):cnt (l.take<|i+1) j=cnt (l.take i) j+(if j<=l[i]then 1 else 0):=by
 rw[take_snoc h,cnt_append,cnt,cnt];lia
def Below.antisymm{a b:ae}(hl:a.length=b.length)(h:Below a b)(k:Below b a):a=b:=by
 apply gw hl;intro i h1 h2;have e:∀(i:Nat) (j:Int),cnt (a.take i) j=cnt (b.take i) j:=λi j=>gI (h i j)<|k i j;have q:∀j:Int,(if j<=a[i]then(1:Int)else 0)=(if j<=b[i]then 1 else 0):=λj=>by
  have:=e (i+1) j;rw[jJ h1,jJ h2,e i j]at this
  lia
 have qa:=q a[i];have qb:=q b[i];rw[aJ<|fN _]at qa qb;by_cases z:a[i]<=b[i]
 ·by_cases z2:b[i]<=a[i]
  ·lia
  ·rw[aK z2]at qb;lia
 ·rw[aK z]at qa;lia
def vD{l:ae}{p:Nat}(h:p<l.length)(v:Int)(i:Nat)(j:Int) :
  cnt ((l.set p v).take i) j=cnt (l.take i) j+(if p<i then(if j<=v then 1 else 0)-(if j<=l[p]then 1 else 0)else 0):=by
 induction l generalizing p i with
 | nil=>cases h
 | cons x l ih=>
  cases i with
  | zero=>simp[cnt]
  | succ i=>
   cases p with
   | zero=>
    show(if j<=v then 1 else 0)+cnt (l.take i) j=(if j<=x then 1 else 0)+cnt (l.take i) j+_;rw[aJ<|Nat.succ_pos _];show _=(if j<=x then 1 else 0)+cnt (l.take i) j+((if j<=v then 1 else 0)-(if j<=x then 1 else 0))
    lia
   | succ p=>
    show(if j<=x then 1 else 0)+cnt ((l.set p v).take i) j=(if j<=x then 1 else 0)+cnt (l.take i) j+_;have hp:p<l.length:=f_ h;rw[ih hp];by_cases z:p<i
    ·rw[aJ z,aJ<|Nat.succ_lt_succ z];show _=(if j<=x then 1 else 0)+cnt (l.take i) j+((if j<=v then 1 else 0)-(if j<=l[p]then 1 else 0))
     lia
    ·rw[aK z,aK λy=>z<|f_ y]
     lia
def uQ{l:ae}{p q:Nat}(hp:p<l.length)(hq:q<l.length)(hpq:p<q)(h:l[p]<l[q]):Below l ((l.set p l[q]).set q l[p]):=by
 intro i j;have hq':q<(l.set p l[q]).length:=by rw[bN];exact hq
 rw[vD hq',vD hp];have e:(l.set p l[q])[q]=l[q]:=by rw[List.getElem_set_ne<|bu hpq]
 rw[e]
 (repeat' split)<;>lia
abbrev qq (a b:ae):Prop:=a.length=b.length/\∀(p:Nat) (h:p<a.length),b[(a[p]-1).toNat]?=some ((p:Int)+1)
def Hq{x y:ae}{n:Nat}(px:x.Perm<|jm 1<|n+1)(py:y.Perm<|jm 1<|n+1):(∀(i q:Nat),i<n->q<n->cnt (x.take<|i+1) ((q:Int)+1)<=cnt (y.take<|i+1) ((q:Int)+1)) ↔ Below x y:=by
 have lx:x.length=n:=by rw[px.length_eq,kT];lia
 have ly:y.length=n:=by rw[py.length_eq,kT];lia
 constructor
 ·intro h i j;have rx:∀z∈x,1<=z/\z<(n:Int)+1:=λz hz=>jX.mp<|px.mem_iff.mp hz;have ry:∀z∈y,1<=z/\z<(n:Int)+1:=λz hz=>jX.mp<|py.mem_iff.mp hz;have low:∀(l:ae),(∀z∈l,j<=z)->cnt l j=l.length:=λl=>by
   induction l with
   | nil=>intro _;rfl
   | cons z l ih=>intro hh;rw[cnt,aJ<|hh z aN,ih λy hy=>hh y<|aQ _ hy,bA];lia
  have high:∀(l:ae),(∀z∈l,z<j)->cnt l j=0:=λl=>by
   induction l with
   | nil=>intro _;rfl
   | cons z l ih=>intro hh;rw[cnt,aK (by have:=hh z aN;lia),ih λy hy=>hh y<|aQ _ hy];rfl
  by_cases z1:j<=1
  ·rw[low _ λz hz=>by have:=(rx z<|b9 hz).1;lia,low _ λz hz=>by have:=(ry z<|b9 hz).1;lia,bL,bL,lx,ly];exact fN _
  ·by_cases z2:(n:Int)+1<=j
   ·rw[high _ λz hz=>by have:=(rx z<|b9 hz).2;lia,high _ λz hz=>by have:=(ry z<|b9 hz).2;lia];exact fN _
   ·obtain⟨q,rfl⟩:∃q:Nat,j=(q:Int)+1:=⟨(j-1).toNat,()⟩;by_cases hi:i<=n
    ·cases i with
     | zero=>simp[cnt]
     | succ i=>exact h i q () ()
    ·rw[fW (),fW (),By px,By py];exact fN _
 ·exact λh i q _ _=>h (i+1)<|(q:Int)+1
end Bl
namespace Wd
open Bl L2
abbrev ex (l:ae)(k:Nat):ae:=(l.set (k-1)<|l.getD k 0).set k<|l.getD (k-1) 0
abbrev led (l:ae)(w:ag):ae:=w.foldl ex l
def jn{l:ae}{k:Nat}(h:k<l.length):l.getD k 0=l[k]:=by rw[aL,aG h];rfl
def uM{l:ae}{k:Nat}(h0:1<=k)(h:k<l.length):ex l k=(l.set (k-1) l[k]).set k (l[k-1]'()):=by
 unfold ex;rw[jn h,jn<|show k-1<l.length by lia]
def kg(l:ae)(k:Nat):(ex l k).length=l.length:=by unfold ex;rw[bN,bN]
theorem FE:∀(w:ag) (l:ae),(led l w).length=l.length
 | [],_=>rfl
 | k::w,l=>by show(led (ex l k) w).length=_;rw[FE w,kg]
def A3{l:ae}{k:Nat}(h0:1<=k)(h:k<l.length):(ex l k).Perm l:=by
 rw[uM h0 h];exact List.set_set_perm () h
def ve(a b:ag)(l:ae):led l (a++b)=led (led l a) b:=eV
def t8{l:ae}{k:Nat}(h0:1<=k)(h:k<l.length)(i:Nat)(j:Int) :
  cnt ((ex l k).take i) j=cnt (l.take i) j+(if i=k then(if j<=l[k]then 1 else 0)-(if j<=l[k-1]'()then 1 else 0)else 0):=by
 rw[uM h0 h];have hq':k<(l.set (k-1) l[k]).length:=by rw[bN];exact h
 rw[vD hq',vD<|show k-1<l.length by lia];have e:(l.set (k-1) l[k])[k]=l[k]:=by rw[List.getElem_set_ne ()]
 rw[e];by_cases h1:i=k
 ·rw[aJ h1,aJ<|show k-1<i by lia,aK<|show ¬k<i by lia];lia
 ·by_cases h2:k<i
  ·rw[aK h1,aJ<|show k-1<i by lia,aJ h2];lia
  ·rw[aK h1,aK<|show ¬k-1<i by lia,aK h2];lia
def up{l:ae}{k:Nat}(h0:1<=k)(h:k<l.length)(hr:l[k-1]'()<l[k]):Below l (ex l k):=by
 rw[uM h0 h];exact uQ () h () hr
def lift{u w:ae}{k:Nat}(hl:u.length=w.length)(h0:1<=k)(h:k<w.length)(hr:w[k-1]'()<w[k])(hb:Below u w):Below (ex u k) (ex w k):=by
 have hu:k<u.length:=()
 intro i j;rw[t8 h0 hu,t8 h0 h];by_cases hi:i=k
 ·subst hi;rw[aJ rfl,aJ rfl];have b1:=hb (i-1) j;have b2:=hb i j;have b3:=hb (i+1) j;have c1:=jJ (l:=u) (i:=i-1) () j;have c2:=jJ (l:=w) (i:=i-1) () j;have c3:=jJ (l:=u) (i:=i) hu j;have c4:=jJ (l:=w) (i:=i) h j;rw[show i-1+1=i by lia]at c1 c2;rw[c3,c4]at b3;rw[c1,c2]at b2 b3;rw[c1,c2];revert b1 b2 b3
  (repeat' split)<;>intros<;>lia
 ·rw[aK hi,aK hi];have:=hb i j
  lia
abbrev i_:ae->ag->Prop
 | _,[]=>True
 | l,k::w=>1<=k/\k<l.length/\l.getD (k-1) 0<l.getD k 0/\i_ (ex l k) w
theorem i_.snoc:∀{w:ag}{l:ae}{k:Nat},i_ l w->1<=k->k<l.length->(led l w).getD (k-1) 0<(led l w).getD k 0->i_ l (w++[k])
 | [],l,k,_,h0,h1,h2=>⟨h0,h1,h2,trivial⟩
 | m::w,l,k,h,h0,h1,h2=>⟨h.1,h.2.1,h.2.2.1,i_.snoc h.2.2.2 h0 (by rw[kg];exact h1) h2⟩
theorem i_.valid:∀{w:ag}{l:ae},i_ l w->∀k∈w,1<=k/\k<l.length
 | [],_,_,k,hk=>by cases hk
 | m::w,l,h,k,hk=>by
  rcases bB.mp hk with z|z
  ·rw[z];exact⟨h.1,h.2.1⟩
  ·have:=i_.valid h.2.2.2 k z;rw[kg]at this;exact this
abbrev sw (k:Nat)(x:Int):Int:=if x=k then(k:Int)+1 else if x=(k:Int)+1 then k else x
def ex_map(f:Int->Int){l:ae}{k:Nat}(h0:1<=k)(h:k<l.length):ex (l.map f) k=(ex l k).map f:=by
 rw[uM h0 h,uM h0<|by rw[aM];exact h,dX,dX,cU,cU]
theorem EO(f:Int->Int):∀{w:ag}{l:ae},(∀k∈w,1<=k/\k<l.length)->led (l.map f) w=(led l w).map f
 | [],_,_=>rfl
 | k::w,l,h=>by
  have hk:=h k<|aN ..;show led (ex (l.map f) k) w=(led (ex l k) w).map f;rw[ex_map f hk.1 hk.2,EO f λm hm=>by rw[kg];exact h m<|aQ _ hm]
def oK{n p:Nat}(h:p<n):(jm 1<|(n:Int)+1)[p]?=some ((p:Int)+1):=by
 unfold jm;rw[bg,cj ()];simp;lia
def iZ(n:Nat):(jm 1<|(n:Int)+1).length=n:=by rw[kT];lia
def nS{l:ae}{k:Nat}(h0:1<=k)(h:k<l.length)(p:Nat):(ex l k)[p]?=if p=k then l[k-1]? else if p=k-1 then l[k]? else l[p]?:=by
 rw[uM h0 h,List.getElem?_set];by_cases h1:k=p
 ·rw[aJ h1,aJ h1.symm,aJ<|by rw[bN];lia,aG]
 ·rw[aK h1,aK λz=>h1 z.symm,List.getElem?_set];by_cases h2:k-1=p
  ·rw[aJ h2,aJ h2.symm,aJ (),aG]
  ·rw[aK h2,aK λz=>h2 z.symm]
def KH{n k:Nat}(h0:1<=k)(h:k<n):ex (jm 1<|(n:Int)+1) k=(jm 1<|(n:Int)+1).map (sw k):=by
 apply cI;intro p;rw[nS h0<|by rw[iZ];exact h,bg];by_cases hp:p<n
 ·rw[oK hp,oK h,oK<|show k-1<n by lia];show _=some (sw k<|(p:Int)+1);unfold sw;by_cases h1:p=k
  ·rw[aJ h1,aK (),aJ ()];congr 1;lia
  ·rw[aK h1];by_cases h2:p=k-1
   ·rw[aJ h2,aJ ()]
   ·rw[aK h2,aK (),aK ()]
 ·have e:(jm 1<|(n:Int)+1)[p]?=none:=bJ (by rw[iZ];lia);rw[aK (),aK (),e];rfl
def yC{A B:ae}{k:Nat}(h0:1<=k)(h:k<A.length)(hb:qq A B):qq (ex A k) (B.map<|sw k):=by
 refine⟨by rw[kg,aM];exact hb.1,λp hp=>?_⟩;rw[kg]at hp;have hg:(ex A k)[p]'(by rw[kg];exact hp)=if p=k then A[k-1]'()else if p=k-1 then A[k]else A[p]:=by
  have:=nS h0 h p;rw[aG<|by rw[kg];exact hp]at this;by_cases h1:p=k
  ·rw[aJ h1,aG<|show k-1<A.length by lia]at this;rw[aJ h1];exact aS this
  ·rw[aK h1]at this;rw[aK h1];by_cases h2:p=k-1
   ·rw[aJ h2,aG h]at this;rw[aJ h2];exact aS this
   ·rw[aK h2,aG hp]at this;rw[aK h2];exact aS this
 rw[hg,bg];by_cases h1:p=k
 ·rw[aJ h1,hb.2 (k-1) ()];show some (sw k _)=_;unfold sw;rw[aJ ()];congr 1;lia
 ·rw[aK h1];by_cases h2:p=k-1
  ·rw[aJ h2,hb.2 k h];show some (sw k _)=_;unfold sw;rw[aK (),aJ ()];congr 1;lia
  ·rw[aK h2,hb.2 p hp];show some (sw k _)=_;unfold sw;rw[aK (),aK ()]
theorem lz{n:Nat}:∀(w:ag),(∀k∈w,1<=k/\k<n)->qq (led (jm 1<|(n:Int)+1) w.reverse) (led (jm 1<|(n:Int)+1) w)
 | [],_=>⟨rfl,λp hp=>by
  have hp:p<n:=by rw[show([]:ag).reverse=[]from rfl]at hp;have:p<(jm 1<|(n:Int)+1).length:=hp;rw[iZ]at this;exact this
  have e:(jm 1<|(n:Int)+1)[p]'(by rw[iZ];exact hp)=(p:Int)+1:=by
   have:=oK hp;rw[aG<|by rw[iZ];exact hp]at this;exact aS this
  show(jm 1<|(n:Int)+1)[(((jm 1<|(n:Int)+1)[p]'(by rw[iZ];exact hp))-1).toNat]?=_;rw[e,show((p:Int)+1-1).toNat=p by lia];exact oK hp⟩
 | k::w,h=>by
  have hk:=h k<|aN ..;have hw:=λm hm=>h m<|aQ k hm;have ih:=lz w hw;rw[eU,ve];show qq (ex (led (jm 1<|(n:Int)+1) w.reverse) k) (led (ex (jm 1<|(n:Int)+1) k) w);rw[KH hk.1 hk.2,EO (sw k) λm hm=>by rw[iZ];exact hw m hm];exact yC hk.1 (by rw[FE,iZ];exact hk.2) ih
end Wd
namespace Iv
open L2 Bl
abbrev inv:ae->Nat
 | []=>0
 | x::l=>l.countP (λy=>decide<|y<x)+inv l
abbrev l_ (a b:ae):Nat:=(a.map λx=>b.countP λy=>decide<|y<x).sum
def sH(x:Int)(a b:ae):l_ (x::a) b=b.countP (λy=>decide<|y<x)+l_ a b:=rfl
theorem kc:∀(a b:ae),inv (a++b)=inv a+inv b+l_ a b
 | [],b=>by show inv b=0+inv b+0;lia
 | x::a,b=>by
  show(a++b).countP _+inv (a++b)=(a.countP _+inv a)+inv b+l_ (x::a) b;rw[List.countP_append,kc a b,sH];lia
theorem tD:∀{a b:ag},a.Perm b->a.sum=b.sum
 | _,_,.nil=>rfl
 | _,_,.cons x h=>by rw[fC,fC,tD h]
 | _,_,.swap x y l=>by rw[fC,fC,fC,fC];lia
 | _,_,.trans h k=>(tD h).trans<|tD k
def ON{a:ae}(b:ae)(h:a.Perm a'):l_ a b=l_ a' b:=tD<|h.map _
def Ox(a:ae){b:ae}(h:b.Perm b'):l_ a b=l_ a b':=by
 unfold l_;congr 1;refine gM λx _=>h.countP_eq _
def A7{M:ae}{x y:Int}(h:∀m∈M,m<x\/y<m)(hxy:x<y):M.countP (λm=>decide<|m<x)=M.countP (λm=>decide<|m<y):=by
 refine List.countP_congr λm hm=>?_;rw[decide_eq_true_iff,decide_eq_true_iff]
 rcases h m hm with z|z<;>omega
theorem uX:∀{M:ae}{x y:Int},(∀m∈M,m<x\/y<m)->x<y->l_ M [x]=l_ M [y]
 | [],_,_,_,_=>rfl
 | m::M,x,y,h,hxy=>by
  rw[sH,sH,uX (λm' hm=>h m'<|aQ _ hm) hxy];congr 1;have:=h m<|aN ..;dsimp[iA,List.countP_nil];by_cases c:x<m
  ·rw[a_ c,a_<|show y<m by omega]
  ·rw[aW c,aW<|show ¬y<m by omega]
def mid{M:ae}{x y:Int}(h:∀m∈M,m<x\/y<m)(hxy:x<y):inv ([y]++M++[x])=inv ([x]++M++[y])+1:=by
 rw[kc,kc,kc<|[x]++M,kc [x]];have e1:l_ [y] M=l_ [x] M:=by
  show M.countP _+0=M.countP _+0;rw[A7 h hxy]
 have e2:l_ ([y]++M) [x]=1+l_ M [x]:=by
  show[x].countP _+l_ M [x]=_;rw[iA,a_ hxy];rfl
 have e3:l_ ([x]++M) [y]=l_ M [y]:=by
  show[y].countP _+l_ M [y]=_;rw[iA,aW (by lia:¬y<x)];simp
 rw[e1,e2,e3,uX h hxy]
 skip
 lia
def Bm(M:ae)(x y:Int):([y]++M++[x]).Perm ([x]++M++[y]):=by
 refine(List.perm_append_comm (l₁:=[y]++M) (l₂:=[x])).trans ?_
 skip
 exact .cons x<|List.perm_append_comm (l₁:=[y]) (l₂:=M)
def step{P M R:ae}{x y:Int}(h:∀m∈M,m<x\/y<m)(hxy:x<y):inv (P++([y]++M++[x])++R)=inv (P++([x]++M++[y])++R)+1:=by
 have p:=Bm M x y;rw[kc,kc P,kc<|P++([x]++M++[y]),kc P,mid h hxy,Ox P p,ON R<|p.append_left P]
 lia
abbrev sw (a:ae)(i j:Nat):ae:=(a.set i<|a.getD j 0).set j<|a.getD i 0
def JI(a:ae)(i j:Nat):(sw a i j).length=a.length:=by unfold sw;rw[bN,bN]
def split{a:ae}(hij:i<j)(hj:j<a.length):∃P M R:ae,a=P++([a.getD i 0]++M++[a.getD j 0])++R/\P=a.take i/\(∀m∈M,∃k,i<k/\k<j/\a[k]?=some m)/\sw a i j=P++([a.getD j 0]++M++[a.getD i 0])++R:=by
 have gi:a.getD i 0=a[i]:=by rw[aL,aG ()];rfl
 have gj:a.getD j 0=a[j]:=by rw[aL,aG hj];rfl
 obtain⟨M,hM⟩:∃M,M=(a.drop<|i+1).take (j-i-1):=⟨_,rfl⟩;have lM:M.length=j-i-1:=by rw[hM,bL,dH];lia
 have ea:a=a.take i++([a.getD i 0]++M++[a.getD j 0])++a.drop (j+1):=by
  have h1:a.drop i=a[i]::a.drop (i+1):=bV ();have h2:a.drop (i+1)=M++a.drop j:=by
   rw[hM];have:=dO (j-i-1)<|a.drop<|i+1;rw[List.drop_drop,show i+1+(j-i-1)=j by lia]at this;exact this.symm
  have h3:a.drop j=a[j]::a.drop (j+1):=bV hj
  conv=>lhs;rw[<- dO i a,h1,h2,h3]
  rw[gi,gj];simp
 refine⟨a.take i,M,a.drop<|j+1,ea,rfl,λm hm=>?_,?_⟩
 ·rw[hM]at hm;obtain⟨k,hk⟩:=gE hm;have hlt:k<j-i-1:=by
   have:=(aI.mp hk).1;rw[bL]at this;lia
  rw[fm hlt,fH]at hk;exact⟨i+1+k,(),(),hk⟩
 ·have key:∀(P R:ae) (x y x' y':Int),P.length=i->((P++([x]++M++[y])++R).set i y').set j x'=P++([y']++M++[x'])++R:=λP R x y x' y' lP=>by
   rw[bO,cO _ _ (),lP,fY];show(P++(y'::((M++[y])++R))).set j x'=_;rw[cO _ _ (),lP,show j-i=(j-i-1)+1 by lia,List.set_cons_succ,bO,cO _ _ (),lM,fY];simp
  have:=key (a.take i) (a.drop<|j+1) (a.getD i 0) (a.getD j 0) (a.getD i 0) (a.getD j 0) (by rw[bL];lia);rw[<- ea]at this;exact this
def Er{a:ae}{i:Nat}(h:i<a.length):a[i]?=some (a.getD i 0):=by rw[aL,aG h];rfl
end Iv
namespace Fw
open PySem L2 Bl
open Wd (ex led)
meta abbrev rg (n:Nat):ae:=jm 1<|(n:Int)+1
def pU{l:ae}{k:Nat}(h0:1<=k)(h:k<l.length):ex (ex l k) k=l:=by
 apply cI;intro p;have h':k<(ex l k).length:=by rw[Wd.kg];exact h
 rw[Wd.nS h0 h',Wd.nS h0 h,Wd.nS h0 h,Wd.nS h0 h];by_cases c3:p=k
 ·rw[aJ c3,aK (),aJ rfl,c3]
 ·rw[aK c3];by_cases c2:p=k-1
  ·rw[aJ c2,aJ rfl,c2]
  ·rw[aK c2,aK c3,aK c2]
def BC{l:ae}{k:Nat}(h0:1<=k)(h:k<l.length):(ex l k).getD k 0=l.getD (k-1) 0:=by
 rw[aL,Wd.nS h0 h,aJ rfl,aL]
def Bp{l:ae}{k:Nat}(h0:1<=k)(h:k<l.length):(ex l k).getD (k-1) 0=l.getD k 0:=by
 rw[aL,Wd.nS h0 h,aK (),aJ rfl,aL]
def wW{l:ae}{k:Nat}(h0:1<=k)(h:k<l.length)(hr:l.getD (k-1) 0<l.getD k 0):Iv.inv (ex l k)=Iv.inv l+1:=by
 obtain⟨P,M,R,e,_,hM,es⟩:=Iv.split (a:=l) (i:=k-1) (j:=k) () h;have:=Iv.step (P:=P) (M:=M) (R:=R) (x:=l.getD (k-1) 0) (y:=l.getD k 0) (λm hm=>by obtain⟨_,_,_,_⟩:=hM m hm;lia) hr;rw[<- es,<- e]at this;exact this
def pB{l:ae}{k:Nat}(h0:1<=k)(h:k<l.length)(hr:l.getD k 0<l.getD (k-1) 0):Iv.inv l=Iv.inv (ex l k)+1:=by
 have:=wW (l:=ex l k) h0 (by rw[Wd.kg];exact h) (by rw[BC h0 h,Bp h0 h];exact hr);rw[pU h0 h]at this;exact this
abbrev Va (n:Nat)(w:ag):Prop:=∀k∈w,1<=k/\k<n
def Va.tail{n k:Nat}{w:ag}(h:Va n (k::w)):Va n w:=λj hj=>h j<|aQ _ hj
def Va.head{n k:Nat}{w:ag}(h:Va n (k::w)):1<=k/\k<n:=h k<|aN ..
theorem xB:∀{w:ag}{l:ae},Va l.length w->led (led l w) w.reverse=l
 | [],l,_=>rfl
 | k::w,l,h=>by
  rw[eU,Wd.ve];show led (led (led (ex l k) w) w.reverse) [k]=l;rw[xB (w:=w) (l:=ex l k)<|by rw[Wd.kg];exact h.tail];exact pU h.head.1 h.head.2
theorem Dr:∀{l:ae},l.Pairwise (·<=·)->Iv.inv l=0
 | [],_=>rfl
 | x::l,h=>by
  show l.countP (λy=>decide<|y<x)+Iv.inv l=0;rw[Dr (bZ.mp h).2,List.countP_eq_zero.mpr λa ha z=>by have:=bS z;have:=(bZ.mp h).1 a ha;lia]
def pq(n:Nat):Iv.inv (rg n)=0:=Dr<|GA _ _
abbrev vZ (l:ae)(k:Nat):Prop:=1<=k/\k<l.length/\l.getD k 0<l.getD (k-1) 0
def Qg{l:ae}(h:∀k,¬vZ l k):l.Pairwise (·<=·):=by
 have key:∀d i,i+d<l.length->l.getD i 0<=l.getD (i+d) 0:=by
  intro d
  induction d with
  | zero=>intro i _;exact fN _
  | succ d ih=>
   intro i hi;have h1:=ih i ();have h2:¬l.getD (i+d+1) 0<l.getD (i+d) 0:=λz=>h (i+d+1) ⟨(),hi,z⟩;rw[<- eL];lia
 rw[cY];intro i j hi hj hij;have:=key (j-i) i ();rw[show i+(j-i)=j by lia,Wd.jn hi,Wd.jn hj]at this;exact this
def Bb{l:ae}{n:Nat}(p:l.Perm<|rg n)(h:∀k,¬vZ l k):l=rg n:=
 List.Perm.eq_of_pairwise (λx y _ _ h1 h2=>gI h1 h2) (Qg h) (GA _ _) p
def Fp(h:0<Iv.inv l):∃k,vZ l k:=by
 refine Classical.byContradiction λz=>?_;rw[Dr<|Qg λk hk=>z ⟨k,hk⟩]at h;exact absurd h<|dG _
abbrev Dn:ae->ag->Prop
 | l,[]=>∀k,¬vZ l k
 | l,k::ks=>(vZ l k/\∀j,vZ l j->k<=j)/\Dn (ex l k) ks
def lH{l:ae}{n k:Nat}(p:l.Perm<|rg n)(h0:1<=k)(h:k<l.length):(ex l k).Perm (rg n):=(Wd.A3 h0 h).trans p
def Dn.va:∀{ks:ag}{l:ae},Dn l ks->Va l.length ks
 | [],l,_=>λk hk=>absurd hk (by simp)
 | k::ks,l,h=>λj hj=>by
  rcases bB.mp hj with rfl|z
  ·exact⟨h.1.1.1,h.1.1.2.1⟩
  ·have:=h.2.va j z
   rwa [Wd.kg]at this
theorem Dn.led:∀{ks:ag}{l:ae}{n:Nat},Dn l ks->l.Perm (rg n)->led l ks=rg n
 | [],l,n,h,p=>Bb p h
 | k::ks,l,n,h,p=>Dn.led (ks:=ks) h.2<|lH p h.1.1.1 h.1.1.2.1
theorem zx:∀(m:Nat) (l:ae),Iv.inv l<=m->∃ks,Dn l ks
 | 0,l,h=>⟨[],λk hk=>by have:=pB hk.1 hk.2.1 hk.2.2;lia⟩
 | m+1,l,h=>by
  by_cases c:∃k,vZ l k
  ·obtain⟨k,hk,hmin⟩:∃k,vZ l k/\∀j,vZ l j->k<=j:=by
    obtain⟨k,hk⟩:=c
    induction k using Nat.strongRecOn with
    | ind k ih=>
     by_cases z:∃j,vZ l j/\j<k
     ·obtain⟨j,hj,hlt⟩:=z;exact ih j hlt hj
     ·exact⟨k,hk,λj hj=>Nat.le_of_not_lt λy=>z ⟨j,hj,y⟩⟩
   have:=pB hk.1 hk.2.1 hk.2.2;obtain⟨ks,hks⟩:=zx m (ex l k) ();exact⟨k::ks,⟨hk,hmin⟩,hks⟩
  ·exact⟨[],λk hk=>c ⟨k,hk⟩⟩
def vm{l:ae}{n k:Nat}(p:l.Perm<|rg n)(h0:1<=k)(h:k<l.length):l.getD (k-1) 0≠l.getD k 0:=λz=>by
 have nd:l.Nodup:=p.nodup_iff.mpr<|nR _ _;rw[Wd.jn h,Wd.jn<|show k-1<l.length by lia]at z;have:=(cZ nd).mp z
 lia
def Hs{a c:ae}{n:Nat}(pa:a.Perm<|rg n)(h1:qq a b)(h2:qq b c):a=c:=by
 have l1:=h1.1;have l2:=h2.1;refine gw () λq hq hq'=>?_;have e1:=h1.2 q hq;have hm:=(jX.mp<|pa.mem_iff.mp<|d9 hq);obtain⟨hb,eb⟩:=aI.mp e1;have e2:=h2.2 _ hb;rw[eb,show((q:Int)+1-1).toNat=q by lia,aG hq']at e2;have:=aS e2
 lia
structure Two (n:Nat)(o u:ae):Prop where
 po:o.Perm (rg n)
 pu:u.Perm (rg n)
 ou:qq o u
def Two.lu{n:Nat}{u:ae}(t:Two n o u):u.length=n:=by rw[t.pu.length_eq,Wd.iZ]
def Two.lo{n:Nat}{o:ae}(t:Two n o u):o.length=n:=by rw[t.po.length_eq,Wd.iZ]
def Two.led{n:Nat}{ks:ag}(t:Two n o u)(h:Dn u ks):Wd.led (rg n) ks=o:=by
 have v:Va n ks:=by have:=h.va;rwa [t.lu]at this
 have e:=h.led t.pu;have e2:u=Wd.led (rg n) ks.reverse:=by rw[<- e,xB<|by rw[t.lu];exact v]
 have b:=Wd.lz ks v;rw[<- show u=Wd.led (jm 1<|(n:Int)+1) ks.reverse from e2]at b;exact(Hs t.po t.ou b).symm
def Two.uo{n:Nat}(t:Two n o u):qq u o:=by
 obtain⟨ks,h⟩:=zx _ u<|aO _;have v:Va n ks:=by have:=h.va;rwa [t.lu]at this
 have e:=h.led t.pu;have e2:u=Wd.led (rg n) ks.reverse:=by rw[<- e,xB<|by rw[t.lu];exact v]
 have b:=Wd.lz ks v;rw[<- show u=Wd.led (jm 1<|(n:Int)+1) ks.reverse from e2,show Wd.led (jm 1<|(n:Int)+1) ks=o from t.led h]at b;exact b
def Two.flip{n:Nat}(t:Two n o u):Two n u o:=⟨t.pu,t.po,t.uo⟩
def Two.step{n k:Nat}{o:ae}(t:Two n o u)(h0:1<=k)(h:k<n):Two n (o.map<|Wd.sw k) (ex u k):=by
 have lu:=t.lu;have b:=Wd.yC h0 () t.uo;have p1:=lH t.pu h0 ();have p2:(o.map<|Wd.sw k).Perm (rg n):=(t.po.map _).trans (by rw[<- Wd.KH h0 h];exact Wd.A3 h0<|by rw[Wd.iZ];exact h);exact(Two.mk p1 p2 b).flip
end Fw
namespace Su
open Am Po PySem L2
abbrev cS (l:Ps)(o:ae)(t:Int):Int:=match l with
 | []=>0
 | e::l=>(if e.1=o then cf e.2 t else 0)+cS l o t
def JG(a b:Pl)(k:Int):cf (a++b) k=cf a k+cf b k:=by
 induction a with
 | nil=>exact(dF _).symm
 | cons p a ih=>
  show _+cf (a++b) k=_+_+_;rw[ih,add_assoc]
def Ly(a b:Pl)(k:Int):cf (wG a b) k=cf a k+cf b k:=by
 unfold wG;rw[Ao<|tX _ (d:=[]) eZ,tu,JG];show 0+_=_;rw[dF]
def KZ(a b:Pl)(k:Int):cf (times a b) k=cf (HK a b) k:=by
 unfold times;rw[Ao<|tX _ (d:=[]) eZ,tu];show 0+_=_;rw[dF]
theorem P8(s:Int):∀(b:Pl) (k c:Int),cf (b.map λq=>(c+q.1,s * q.2)) k=s * cf b (k-c)
 | [],k,c=>(Int.mul_zero s).symm
 | q::b,k,c=>by
  show(if c+q.1=k then s * q.2 else 0)+cf (b.map λq=>(c+q.1,s * q.2)) k=s * ((if q.1=k-c then q.2 else 0)+cf b (k-c));rw[P8 s b k c,Int.mul_add];by_cases h:c+q.1=k
  ·rw[aJ h,aJ ()]
  ·rw[aK h,aK (),Int.mul_zero]
meta abbrev AF:Pl:=[((-1:Int),(1:Int)),((1:Int),(-1:Int))]
structure Gd (D:Ps):Prop where
 nd:(D.map Prod.fst).Nodup
 ok:∀e∈D,Ok e.2
abbrev lW (o:ae)(k:Nat):Bool:=decide<|o.getD (k-1) 0>o.getD k 0
abbrev YG (k:Nat)(l:Ps):Ps:=l.flatMap λe=>(Wd.ex e.1 k,e.2)::(if lW e.1 k=true then[(e.1,times AF e.2)]else[])
abbrev bx (k:Nat)(l:Ps):Ps:=toS<|adds []<|YG k l
def V1{k:Nat}{o:ae}(h1:1<=k)(h2:k<o.length):(Wd.ex o k).getD (k-1) 0=o.getD k 0/\(Wd.ex o k).getD k 0=o.getD (k-1) 0:=by
 constructor
 ·rw[aL,Wd.nS h1 h2,aK (),aJ rfl,aL]
 ·rw[aL,Wd.nS h1 h2,aJ rfl,aL]
end Su
namespace He
open PySem L2 Am
open Fw (Two rg vZ)
open Bl (qq)
open Su (lW)
meta abbrev Fn:=ae->Int->Int
abbrev dl (g:Int->Int)(t:Int):Int:=g (t+1)-g (t-1)
abbrev X (k:Nat)(f:Fn):Fn:=λo t=>f (Wd.ex o k) t+if lW o k=true then dl (f o) t else 0
def lV{n:Nat}{v:ae}(h:Two n o u)(h':Two n o v):u=v:=by
 have l1:=h.lu;have l2:=h'.lu;have l3:=h.lo;apply cI;intro q;by_cases hq:q<n
 ·obtain⟨p,hp,ep⟩:∃p,∃hp:p<o.length,o[p]=(q:Int)+1:=by
   have:(q:Int)+1∈o:=h.po.mem_iff.mpr<|jX.mpr ⟨(),()⟩;obtain⟨p,hp,ep⟩:=List.getElem_of_mem this;exact⟨p,hp,ep⟩
  have a1:=h.ou.2 p hp;have a2:=h'.ou.2 p hp;rw[ep,show((q:Int)+1-1).toNat=q by lia]at a1 a2;rw[a1,a2]
 ·rw[bJ (),bJ ()]
abbrev bk (o:ae):ae:=(List.range o.length).map λi:Nat=>((o.idxOf ((i:Int)+1):Nat):Int)+1
def mV{n:Nat}{o:ae}(h:o.Perm<|rg n):Two n o (bk o):=by
 have lo:o.length=n:=by rw[h.length_eq,Wd.iZ]
 have nd:o.Nodup:=h.nodup_iff.mpr<|nR _ _;have mem:∀i,i<n->(i:Int)+1∈o:=λi hi=>h.mem_iff.mpr<|jX.mpr ⟨(),()⟩;have ix:∀i,i<n->o.idxOf ((i:Int)+1)<n:=λi hi=>by rw[<- lo];exact List.idxOf_lt_length_iff.mpr (mem i hi)
 have get:∀i (hi:i<n),o[o.idxOf<|(i:Int)+1]'(by rw[lo];exact ix i hi)=(i:Int)+1:=λi hi=>List.getElem_idxOf _;refine⟨h,?_,?_,λp hp=>?_⟩
 ·have p:=Am.xJ (N:=n) (g:=λi=>o.idxOf<|(i:Int)+1) ix λi j hij hj z=>by
   have a:=get i ();have b:=get j hj;dsimp[z]at a;rw[b]at a
   lia
  have p2:=p.map λi:Nat=>(i:Int)+1;rw[ck]at p2;unfold bk;rw[lo];refine List.Perm.trans p2 ?_;have:(List.range n).map (λi:Nat=>(i:Int)+1)=rg n:=by
   apply cI;intro q;rw[bg];by_cases c:q<n
   ·rw[cj c,Wd.oK c];rfl
   ·rw[bJ<|by rw[cB];lia,bJ<|by rw[Wd.iZ];lia];rfl
  rw[this]
 ·unfold bk;rw[aM,cB]
 ·have m:=jX.mp<|h.mem_iff.mp<|d9 hp;have hq:(o[p]-1).toNat<o.length:=()
  unfold bk;rw[bg,cj hq];show some (((o.idxOf (((o[p]-1).toNat:Int)+1):Nat):Int)+1)=_;rw[show((o[p]-1).toNat:Int)+1=o[p]by lia,nd.idxOf_getElem]
def FP{n:Nat}{o:ae}(h:o.Perm<|rg n):bk (bk o)=o:=lV (mV (mV h).pu) (mV h).flip
def vM{n:Nat}{o:ae}(h:o.Perm<|rg n):(bk o).Perm (rg n):=(mV h).pu
def MW{n k:Nat}{o:ae}(h:o.Perm<|rg n)(h0:1<=k)(h1:k<n):bk (o.map<|Wd.sw k)=Wd.ex (bk o) k:=by
 have t:=(mV h).step h0 h1;exact lV (mV t.po) t
def Ls{n k:Nat}{o:ae}(h:o.Perm<|rg n)(h0:1<=k)(h1:k<n):bk (Wd.ex o k)=(bk o).map (Wd.sw k):=by
 have t:=((mV h).flip.step h0 h1).flip;exact lV (mV t.po) t
def rF{n k p:Nat}{o u:ae}(t:Two n o u)(h1:1<=k)(h2:k<=n)(hp:o.getD p 0=(k:Int))(hpn:p<n):u.getD (k-1) 0=(p:Int)+1:=by
 have lo:=t.lo;have lp:p<o.length:=()
 have:=t.ou.2 p lp;rw[Wd.jn lp]at hp;rw[hp,show((k:Int)-1).toNat=k-1 by lia]at this;rw[aL,this];rfl
def nb{n k:Nat}{o:ae}(h:o.Perm<|rg n)(h0:1<=k)(h1:k<n):o.getD (k-1) 0≠o.getD k 0:=λz=>by
 have lo:o.length=n:=by rw[h.length_eq,Wd.iZ]
 have nd:o.Nodup:=h.nodup_iff.mpr<|nR _ _;rw[Wd.jn (),Wd.jn ()]at z;have:=(cZ nd).mp z
 lia
abbrev Pr (o:ae)(k j:Nat):Prop:=(o.getD (k-1) 0=j/\o.getD k 0=(j:Int)+1)\/(o.getD (k-1) 0=(j:Int)+1/\o.getD k 0=j)
def AY{n k:Nat}{u:ae}(h:u.Perm<|rg n)(h0:1<=j)(h1:j<n):(Pr u j k->lW (u.map<|Wd.sw k) j=!lW u j)/\(¬Pr u j k->lW (u.map<|Wd.sw k) j=lW u j):=by
 have lu:u.length=n:=by rw[h.length_eq,Wd.iZ]
 have ne:=nb h h0 h1;have e1:(u.map<|Wd.sw k).getD (j-1) 0=Wd.sw k (u.getD (j-1) 0):=by
  rw[Wd.jn<|by rw[aM];lia,Wd.jn (),cU]
 have e2:(u.map<|Wd.sw k).getD j 0=Wd.sw k (u.getD j 0):=by
  rw[Wd.jn<|by rw[aM];lia,Wd.jn (),cU]
 unfold lW Pr;rw[e1,e2];generalize u.getD (j-1) 0=a at *
 generalize u.getD j 0=b at *
 constructor
 ·rintro(⟨z1,z2⟩|⟨z1,z2⟩)
  ·subst z1;subst z2;unfold Wd.sw;rw[aJ rfl,aK (),aJ rfl,a_ (),aW ()];rfl
  ·subst z1;subst z2;unfold Wd.sw;rw[aK (),aJ rfl,aJ rfl,aW (),a_ ()];rfl
 ·intro z;rw[gz];unfold Wd.sw;split<;>split<;>(try split)<;>(try split)<;>lia
def rK{n k:Nat}(t:Two n o u)(h0:1<=k)(h1:k<n)(h2:1<=j)(h3:j<n)(h:Pr o k j):Pr u j k:=by
 rcases h with⟨z1,z2⟩|⟨z1,z2⟩
 ·have a:=rF t h2 () z1 ();have b:=rF t (k:=j+1) () () (by rw[z2];lia) h1;rw[Nat.add_sub_cancel]at b;exact .inl ⟨by rw[a];lia,by rw[b]⟩
 ·have a:=rF t (k:=j+1) () () (by rw[z1];lia) (show k-1<n by lia);have b:=rF t h2 () z2 h1;rw[Nat.add_sub_cancel]at a;exact .inr ⟨by rw[b],by rw[a];lia⟩
def DB{n k:Nat}(t:Two n o u)(h0:1<=k)(h1:k<n)(h2:1<=j)(h3:j<n)(h:Pr o k j):lW u j=lW o k:=by
 have a:∀x y:ae,∀i m:Nat,x.getD (i-1) 0=(m:Int)->x.getD i 0=(m:Int)+1->lW x i=false:=λx y i m p q=>by
  unfold lW;rw[p,q];exact aW ()
 have b:∀x y:ae,∀i m:Nat,x.getD (i-1) 0=(m:Int)+1->x.getD i 0=(m:Int)->lW x i=true:=λx y i m p q=>by
  unfold lW;rw[p,q];exact a_ ()
 rcases h with⟨z1,z2⟩|⟨z1,z2⟩
 ·rw[a o [] k j z1 z2]
  rcases rK t h0 h1 h2 h3 (.inl ⟨z1,z2⟩)with⟨y1,y2⟩|⟨y1,y2⟩
  ·exact a u [] j k y1 y2
  ·have:=rF t h2 () z1 ();lia
 ·rw[b o [] k j z1 z2]
  rcases rK t h0 h1 h2 h3 (.inr ⟨z1,z2⟩)with⟨y1,y2⟩|⟨y1,y2⟩
  ·have:=rF t h2 () z2 h1;lia
  ·exact b u [] j k y1 y2
abbrev L (j:Nat)(f:Fn):Fn:=λo t=>f (o.map<|Wd.sw j) t+if lW (bk o) j=true then dl (f o) t else 0
def Av{n k:Nat}{o:ae}(h:o.Perm<|rg n)(h0:1<=k)(h1:k<n)(hp:Pr o k j):o.map (Wd.sw j)=Wd.ex o k:=by
 have lo:o.length=n:=by rw[h.length_eq,Wd.iZ]
 have nd:o.Nodup:=h.nodup_iff.mpr<|nR _ _;apply cI;intro p;rw[Wd.nS h0 (),bg];unfold Pr at hp;rw[Wd.jn (),Wd.jn ()]at hp;by_cases c1:p=k
 ·subst c1;rw[aJ rfl,aG (),aG (),dh];congr 1;unfold Wd.sw
  rcases hp with⟨z1,z2⟩|⟨z1,z2⟩
  ·rw[z1,z2,aK (),aJ rfl]
  ·rw[z1,z2,aJ rfl]
 ·rw[aK c1];by_cases c2:p=k-1
  ·subst c2;rw[aJ rfl,aG (),aG (),dh];congr 1;unfold Wd.sw
   rcases hp with⟨z1,z2⟩|⟨z1,z2⟩
   ·rw[z1,z2,aJ rfl]
   ·rw[z1,z2,aK (),aJ rfl]
  ·rw[aK c2];by_cases c3:p<o.length
   ·rw[aG c3,dh];congr 1;have n1:o[p]≠o[k]:=λz=>c1<|(cZ nd).mp z;have n2:o[p]≠o[k-1]:=λz=>c2<|(cZ nd).mp z;unfold Wd.sw
    rcases hp with⟨z1,z2⟩|⟨z1,z2⟩
    ·rw[aK<|by rw[<- z1];exact n2,aK<|by rw[<- z2];exact n1]
    ·rw[aK<|by rw[<- z2];exact n1,aK<|by rw[<- z1];exact n2]
   ·rw[bJ ()];rfl
def FW(j:Nat)(o:ae):(o.map<|Wd.sw j).map (Wd.sw j)=o:=by
 rw[ck];have:(Wd.sw j ∘ Wd.sw j)=id:=funext λx=>by
  show Wd.sw j (Wd.sw j x)=x;unfold Wd.sw;split<;>(try split)<;>(try split)<;>lia
 rw[this,List.map_id]
abbrev m_ (n:Nat)(f g:Fn):Prop:=∀o:ae,o.Perm (rg n)->∀t,f o t=g o t
def m_.refl{n:Nat}{f:Fn}:m_ n f f:=λ_ _ _=>rfl
def m_.symm{n:Nat}{f g:Fn}(h:m_ n f g):m_ n g f:=λo p t=>(h o p t).symm
def m_.trans{n:Nat}{f g e:Fn}(h:m_ n f g)(h':m_ n g e):m_ n f e:=λo p t=>(h o p t).trans<|h' o p t
def lH{n k:Nat}{o:ae}(h:o.Perm<|rg n)(h0:1<=k)(h1:k<n):(Wd.ex o k).Perm (rg n):=(Wd.A3 h0<|by rw[h.length_eq,Wd.iZ];exact h1).trans h
def EV{n k:Nat}{o:ae}(h:o.Perm<|rg n)(h0:1<=k)(h1:k<n):(o.map<|Wd.sw k).Perm (rg n):=((mV h).step h0 h1).po
abbrev Va (n:Nat)(w:ag):Prop:=∀k∈w,1<=k/\k<n
abbrev Xw (w:ag)(f:Fn):Fn:=w.foldl (λf k=>X k f) f
abbrev Lw (w:ag)(f:Fn):Fn:=w.foldl (λf k=>L k f) f
abbrev D (u:ae)(g:Int->Int):Fn:=λo t=>if o=u then g t else 0
def tH{l:ae}{k:Nat}(h:l.getD (k-1) 0<l.getD k 0):lW l k=false:=aW ()
def mq(n:Nat):(rg n).Perm (rg n):=.refl _
theorem lU{n:Nat}:∀(m:Nat) {u:ae},u.Perm (rg n)->Iv.inv u=m->∃w,Wd.i_ (rg n) w/\Wd.led (rg n) w=u
 | 0,u,hu,hm=>by
  refine⟨[],trivial,(Fw.Bb hu λk hk=>?_).symm⟩;have:=Fw.pB hk.1 hk.2.1 hk.2.2
  lia
 | m+1,u,hu,hm=>by
  obtain⟨k,hk⟩:=Fw.Fp (l:=u) ();have lu:u.length=n:=by rw[hu.length_eq,Wd.iZ]
  have hd:=Fw.pB hk.1 hk.2.1 hk.2.2;obtain⟨w,h1,h2⟩:=lU m (lH hu hk.1<|by rw[<- lu];exact hk.2.1) ();obtain⟨e1,e2⟩:=Su.V1 (o:=u) hk.1 hk.2.1;refine⟨w++[k],Wd.i_.snoc h1 hk.1 (by rw[Wd.iZ,<- lu];exact hk.2.1)<|by rw[h2,e1,e2];exact hk.2.2,?_⟩;rw[Wd.ve,h2];exact Fw.pU hk.1 hk.2.1
def EI(n:Nat):bk (rg n)=rg n:=by
 refine lV (mV<|mq n) ⟨mq n,mq n,rfl,λp hp=>?_⟩;have hp':p<n:=by rw[Wd.iZ]at hp;exact hp
 have e:=Wd.oK hp';rw[aG hp]at e;have e:=aS e;rw[show((rg n)[p]-1).toNat=p by rw[e];lia];exact Wd.oK hp'
abbrev add (f g:Fn):Fn:=λo t=>f o t+g o t
end He
namespace He
open PySem L2 Am Po
open Fw (Two rg vZ)
open Su (lW Ps cS)
abbrev cv:Pl->(Int->Int)->Int->Int
 | [],_,_=>0
 | q::p,g,t=>q.2 * g (t-q.1)+cv p g t
abbrev XU (p:Pl)(f:Fn):Fn:=λo t=>cv p (f o) t
abbrev sw (n:Nat)(o:ae):ag:=by
 classical
 exact if h:o.Perm (rg n)then(lU _ h rfl).choose else[]
def zB{n:Nat}{o:ae}(h:o.Perm<|rg n):Wd.i_ (rg n) (sw n o)/\Wd.led (rg n) (sw n o)=o:=by
 unfold sw;rw[dif_pos h];exact(lU _ h rfl).choose_spec
def VL{n:Nat}{o:ae}(h:o.Perm<|rg n):Va n (sw n o):=λk hk=>by have:=Wd.i_.valid (zB h).1 k hk;rwa [Wd.iZ]at this
abbrev RG (G:ae->Fn):Ps->Fn
 | []=>λ_ _=>0
 | e::m=>add (XU e.2<|G e.1)<|RG G m
abbrev R (n:Nat)(m:Ps)(f:Fn):Fn:=RG (λo=>Xw (sw n o) f) m
abbrev B (f:Fn):Fn:=λo=>f<|bk o
abbrev d0:Int->Int:=λt=>if t=0 then 1 else 0
abbrev wb (l:Ps):Ps:=l.map λe=>(bk e.1,e.2)
end He
namespace He
open PySem L2 Am Po
open Fw (Two rg vZ)
open Su (lW Ps cS Gd vS toS adds bx)
structure Cn (l:Ps):Prop where
 gd:Gd l
 eq:toS l=l
abbrev one (n:Nat):Ps:=[(rg n,[((0:Int),(1:Int))])]
end He
namespace He
open PySem L2 Am Po
open Fw (Two rg vZ)
open Su (lW Ps cS Gd vS toS adds bx)
abbrev arr:Nat->ae->List (ae)
 | 0,_=>[[]]
 | m+1,l=>l.flatMap λx=>(arr m<|l.erase x).map (x::·)
structure FB (n P C:Nat)(f:Fn):Prop where
 c:∀o,o.Perm (rg n)->∀t,(f o t).natAbs<=C
 p:∀o,o.Perm (rg n)->∀t:Int,P<t.natAbs->f o t=0
structure PB (Q c:Nat)(p:Pl):Prop where
 c:∀q∈p,q.2.natAbs<=c
 p:∀q∈p,q.1.natAbs<=Q
theorem sj:∀{w:ag}{l:ae},Wd.i_ l w->Iv.inv (Wd.led l w)=Iv.inv l+w.length
 | [],_,_=>rfl
 | k::w,l,h=>by
  have:=sj h.2.2.2;rw[Fw.wW h.1 h.2.1 h.2.2.1]at this;show Iv.inv (Wd.led (Wd.ex l k) w)=_+(w.length+1)
  lia
def JI{n:Nat}{o:ae}(h:o.Perm<|rg n):(sw n o).length=Iv.inv o:=by
 obtain⟨a,b⟩:=zB h;have:=sj a;rw[b,Fw.pq]at this
 lia
structure Sz (n P C:Nat)(l:Ps):Prop where
 cn:Cn l
 pm:∀x∈l,x.1.Perm (rg n)
 fb:FB n P C<|cS l
end He
namespace He
open PySem L2 Am Po
open Fw (Two rg vZ)
open Su (lW Ps cS Gd vS toS adds bx)
theorem An{n:Nat}:∀{w:ag}{l:ae},l.Perm (rg n)->Va n w->Iv.inv (Wd.led l w)<=Iv.inv l+w.length/\(Iv.inv (Wd.led l w)=Iv.inv l+w.length->Wd.i_ l w)
 | [],l,_,_=>⟨aO _,λ_=>trivial⟩
 | k::w,l,p,v=>by
  have v1:=v k<|aN ..;have ll:l.length=n:=by rw[p.length_eq,Wd.iZ]
  obtain⟨i1,i2⟩:=An (w:=w) (lH p v1.1 v1.2) λj hj=>v j<|aQ _ hj;have i1:Iv.inv (Wd.led l (k::w))<=Iv.inv (Wd.ex l k)+w.length:=i1;have i2:Iv.inv (Wd.led l (k::w))=Iv.inv (Wd.ex l k)+w.length->Wd.i_ (Wd.ex l k) w:=i2;rw[bA]
  rcases lt_or_ge 0 0 with z|_
  ·lia
  ·by_cases c:l.getD (k-1) 0<l.getD k 0
   ·have u:=Fw.wW v1.1 () c;exact⟨(),λh=>⟨v1.1,(),c,i2 ()⟩⟩
   ·have ne:=nb p v1.1 v1.2;have u:=Fw.pB v1.1 () (show l.getD k 0<l.getD (k-1) 0 by lia);exact⟨(),λh=>absurd h ()⟩
theorem A0{n:Nat}:∀{w:ag}{l:ae},l.Perm (rg n)->Va n w->(Wd.led l w).Perm (rg n)
 | [],_,p,_=>p
 | k::w,l,p,v=>A0 (w:=w) (lH p (v k<|aN ..).1 (v k<|aN ..).2) λj hj=>v j<|aQ _ hj
end He
namespace He
open PySem L2 Am Po
open Fw (Two rg vZ)
open Su (lW Ps cS Gd vS toS adds bx)
def vj{n:Nat}{w:ag}(h:Wd.i_ (rg n) w):Wd.i_ (rg n) w.reverse:=by
 have va:Va n w:=λk hk=>by have:=Wd.i_.valid h k hk;rwa [Wd.iZ]at this
 have var:Va n w.reverse:=λk hk=>va k<|gA.mp hk;have pr:=A0 (mq n) var;obtain⟨z1,z2⟩:=zB pr;have vz:=VL pr;have vzr:Va n (sw n<|Wd.led (rg n) w.reverse).reverse:=λk hk=>vz k<|gA.mp hk;have b1:=Wd.lz (sw n<|Wd.led (rg n) w.reverse).reverse vzr;rw[gF,z2]at b1;have e:=lV ⟨pr,A0 (mq n) vzr,b1⟩ ⟨pr,A0 (mq n) va,Wd.lz w va⟩;have l1:=(An (mq n) vzr).1;rw[e,Fw.pq,List.length_reverse,JI pr]at l1;have l2:=sj h;have l3:=(An (mq n) var).1;refine(An (mq n) var).2 ?_;rw[Fw.pq,List.length_reverse]at *
 lia
abbrev Y (k:Nat)(f:Fn):Fn:=λo t=>X k f o t-dl (f o) t
structure Fwd (n:Nat)(W:ae->ag):Prop where
 r:∀o,o.Perm (rg n)->Wd.i_ (rg n) (W o)
 e:∀o,o.Perm (rg n)->Wd.led (rg n) (W o)=o
end He
namespace Nu
open PySem L2
abbrev We:Nat->Nat
 | 0=>1
 | n+1=>(n+1) * We n
abbrev Yd:Nat->ae->Nat->ae
 | 0,_,_=>[]
 | n+1,l,m=>l.getD (m / We n) 0::Yd n (l.eraseIdx<|m / We n) (m % We n)
def Uq(i j:Int):(jm i j).Pairwise (· < ·):=by
 unfold jm;rw[dS];exact fQ.imp λh=>()
end Nu
namespace Stp
open PySem L2 Iv
abbrev mm (a:ae)(i j:Nat):ae:=(a.drop<|i+1).take<|j-i-1
abbrev YF (x y m:Int):Bool:=decide (x<m) && decide (m<y)
def parts{a:ae}(hij:i<j)(hj:j<a.length):a=a.take i++([a.getD i 0]++mm a i j++[a.getD j 0])++a.drop (j+1):=by
 have gi:a.getD i 0=a[i]:=by rw[aL,aG ()];rfl
 have gj:a.getD j 0=a[j]:=by rw[aL,aG hj];rfl
 have h1:a.drop i=a[i]::a.drop (i+1):=bV ();have h2:a.drop (i+1)=mm a i j++a.drop j:=by
  have:=dO (j-i-1)<|a.drop<|i+1;rw[List.drop_drop,show i+1+(j-i-1)=j by lia]at this;exact this.symm
 have h3:a.drop j=a[j]::a.drop (j+1):=bV hj
 conv=>lhs;rw[<- dO i a,h1,h2,h3]
 rw[gi,gj];simp
def XM{a:ae}(hij:i<j)(hj:j<a.length):sw a i j=a.take i++([a.getD j 0]++mm a i j++[a.getD i 0])++a.drop (j+1):=by
 have lM:(mm a i j).length=j-i-1:=by unfold mm;rw[bL,dH];lia
 have key:∀(P R:ae) (x y x' y':Int),P.length=i->((P++([x]++mm a i j++[y])++R).set i y').set j x'=P++([y']++mm a i j++[x'])++R:=λP R x y x' y' lP=>by
  rw[bO,cO _ _ (),lP,fY];show(P++(y'::((mm a i j++[y])++R))).set j x'=_;rw[cO _ _ (),lP,show j-i=(j-i-1)+1 by lia,List.set_cons_succ,bO,cO _ _ (),lM,fY];simp
 have:=key (a.take i) (a.drop<|j+1) (a.getD i 0) (a.getD j 0) (a.getD i 0) (a.getD j 0) (by rw[bL];lia);rw[<- parts hij hj]at this;exact this
abbrev YR (a:ae)(i j:Nat):Bool:=!(mm a i j).any λm=>YF (if a.getD j 0<a.getD i 0 then a.getD j 0 else a.getD i 0) (if a.getD j 0>a.getD i 0 then a.getD j 0 else a.getD i 0) m
def Fv{a:ae}(hij:i<j)(hj:j<a.length):(sw a i j).Perm a:=by
 have e:=parts hij hj;rw[XM hij hj]
 conv=>rhs;rw[e]
 exact((Bm _ _ _).append_left _).append_right _
end Stp
namespace Eu
open PySem L2 Bl
open Wd (ex t8)
open Fw (rg vZ)
def jn{l:ae}{k:Nat}(h:k<l.length):l.getD k 0=l[k]:=by rw[aL,aG h];rfl
theorem low{a b:ae}{k:Nat}(hl:a.length=b.length)(h0:1<=k)(h:k<b.length)(hb:b.getD k 0<b.getD (k-1) 0)(ha:a.getD (k-1) 0<=a.getD k 0)(hab:Below a b):Below a (ex b k):=by
 have hu:k<a.length:=()
 rw[jn h,jn<|show k-1<b.length by lia]at hb;rw[jn hu,jn<|show k-1<a.length by lia]at ha;intro i j;rw[t8 h0 h];by_cases hi:i=k
 ·subst hi;rw[aJ rfl];have b1:=hab (i-1) j;have b3:=hab (i+1) j;have c1:=jJ (l:=a) (i:=i-1) () j;have c2:=jJ (l:=b) (i:=i-1) () j;have c3:=jJ (l:=a) (i:=i) hu j;have c4:=jJ (l:=b) (i:=i) h j;rw[show i-1+1=i by lia]at c1 c2;rw[c3,c4,c1,c2]at b3;rw[c1,c2];revert b1 b3
  (repeat' split)<;>intros<;>lia
 ·rw[aK hi];have:=hab i j
  lia
def Xj{a b:ae}{k:Nat}(hl:a.length=b.length)(h0:1<=k)(h:k<b.length)(hb:b.getD k 0<b.getD (k-1) 0)(ha:a.getD k 0<=a.getD (k-1) 0)(hab:Below a b):Below (ex a k) (ex b k):=by
 have hu:k<a.length:=()
 rw[jn h,jn<|show k-1<b.length by lia]at hb;rw[jn hu,jn<|show k-1<a.length by lia]at ha;intro i j;rw[t8 h0 h,t8 h0 hu];by_cases hi:i=k
 ·subst hi;rw[aJ rfl,aJ rfl];have b1:=hab (i-1) j;have b3:=hab (i+1) j;have c1:=jJ (l:=a) (i:=i-1) () j;have c2:=jJ (l:=b) (i:=i-1) () j;have c3:=jJ (l:=a) (i:=i) hu j;have c4:=jJ (l:=b) (i:=i) h j;rw[show i-1+1=i by lia]at c1 c2;rw[c3,c4,c1,c2]at b3;rw[c1,c2];revert b1 b3
  (repeat' split)<;>intros<;>lia
 ·rw[aK hi,aK hi];have:=hab i j
  lia
section
variable {n:Nat}
def ln{z:ae}(p:z.Perm<|rg n):z.length=n:=by rw[p.length_eq,Wd.iZ]
end
abbrev al (n:Nat):List (ae):=(List.range<|Nu.We n).map<|Nu.Yd n<|rg n
abbrev sg (z:ae):Int:=if Iv.inv z % 2=1 then -1 else 1
open Classical in
abbrev sm (n:Nat)(P:ae->Prop):Int:=((al n).map λz=>if P z then sg z else 0).sum
end Eu
namespace Gr
open PySem L2 Bl Fw
open Wd (ex led kg uM lift lz)
abbrev gk:ae->ag->ag
 | _,[]=>[]
 | l,k::ks=>if l.getD (k-1) 0>l.getD k 0 then k::gk (ex l k) ks else gk l ks
def xE{k:Nat}(f:vZ l k):Below (ex l k) l:=by
 obtain⟨h0,h,hr⟩:=f;have e:=pU h0 h;have hl:(ex l k).length=l.length:=kg l k;have:=lift (u:=ex l k) (w:=ex l k) (k:=k) rfl h0 (by rw[hl];exact h);have a1:=BC h0 h;have a2:=Bp h0 h;rw[Eu.jn<|show k<(ex l k).length by lia]at a1;rw[Eu.jn<|show k-1<(ex l k).length by lia]at a2;have hr':(ex l k)[k-1]'()<(ex l k)[k]'():=by rw[a1,a2];exact hr
 have:=uQ (l:=ex l k) (p:=k-1) (q:=k) () () () hr';rw[<- uM h0 (),e]at this;exact this
theorem qH:∀(ks:ag) {n:Nat}{y:ae},y.Perm (rg n)->Dn y ks->Below (rg n) y
 | [],n,y,py,h=>by rw[Bb py h];exact Below.refl _
 | k::ks,n,y,py,h=>(qH ks (lH py h.1.1.1 h.1.1.2.1) h.2).trans<|xE h.1.1
end Gr
namespace Eu
open PySem L2 Bl Am
open Fw (rg)
structure Done (n:Nat)(u w:ae)(es:List (ae×Bool)):Prop where
 nd:(es.map (·.1)).Nodup
 pm:∀e∈es,e.1.Perm (rg n)
 up:∀e∈es,Below u e.1
 fl:∀e∈es,(e.2=true ↔ Below e.1 w)
 st:u∈es.map (·.1)
 cl:∀e∈es,e.2=true->∀i j,i<j->j<n->e.1.getD i 0<e.1.getD j 0->Stp.YR e.1 i j=true->Iv.sw e.1 i j∈es.map (·.1)
abbrev ext (n:Nat)(p:ae):List (ae):=((rg n).filter λt=>decide<|t∉p).map λt=>p++[t]
abbrev inj (n:Nat):Nat->List (ae)
 | 0=>[[]]
 | k+1=>(inj n k).flatMap<|ext n
theorem sP{n:Nat}:∀{k:Nat}{p:ae},p∈inj n k ↔ p.length=k/\p.Nodup/\∀t∈p,t∈rg n
 | 0,p=>by
  unfold inj;rw[bC];constructor
  ·rintro rfl;simp
  ·rintro⟨h,_⟩;exact d8.mp h
 | k+1,p=>by
  unfold inj;rw[List.mem_flatMap];constructor
  ·rintro⟨q,hq,hp⟩;obtain⟨t,ht,rfl⟩:=b_.mp hp;obtain⟨h1,h2⟩:=dg.mp ht;obtain⟨a,b,c⟩:=sP.mp hq;have h2:t∉q:=bS h2;refine⟨by simp[a],?_,λx hx=>?_⟩
   ·rw[cW];refine⟨b,by simp,λx hx y hy z=>h2 ?_⟩;have:y=t:=by simpa using hy
    rw[<- this,<- z];exact hx
   ·rcases bF.mp hx with z|z
    ·exact c x z
    ·have:x=t:=by simpa using z
     rw[this];exact h1
  ·rintro⟨h1,h2,h3⟩
   rcases List.eq_nil_or_concat p with c|⟨q,t,c⟩
   ·rw[c]at h1;simp at h1
   ·rw[List.concat_eq_append]at c;subst c;rw[cW]at h2;refine⟨q,sP.mpr ⟨by simpa using h1,h2.1,λx hx=>h3 x<|bR _ hx⟩,b_.mpr ⟨t,dg.mpr ⟨h3 t<|by simp,a_ λz=>h2.2.2 t z t (by simp) rfl⟩,rfl⟩⟩
def EC{n:Nat}{p:ae}:p∈inj n n ↔ p.Perm (rg n):=by
 rw[sP];constructor
 ·rintro⟨h1,h2,h3⟩;exact uU h2 h3 (by rw[h1,Wd.iZ];exact aO _)
 ·intro p';exact⟨ln p',p'.nodup_iff.mpr<|nR _ _,λt ht=>p'.mem_iff.mp ht⟩
theorem GL:∀{a b:ae}(x y:ae),a.length=b.length->HT.lexLt a b=true->HT.lexLt (a++x) (b++y)=true
 | [],[],_,_,_,h=>by cases h
 | [],_::_,_,_,h,_=>by simp at h
 | _::_,[],_,_,h,_=>by simp at h
 | p::a,q::b,x,y,hl,h=>by
  show HT.lexLt (p::(a++x)) (q::(b++y))=true;rw[HT.qo]at h ⊢;by_cases c:p=q
  ·rw[aJ c]at h ⊢;exact GL x y (by simpa using hl) h
  ·rw[aK c]at h ⊢;exact h
theorem Cb:∀(p:ae) {s t:Int},s<t->HT.lexLt (p++[s]) (p++[t])=true
 | [],s,t,h=>by
  show HT.lexLt [s] [t]=true;rw[HT.qo,aK (),a_ h]
 | x::p,s,t,h=>by
  show HT.lexLt (x::(p++[s])) (x::(p++[t]))=true;rw[HT.qo,aJ rfl];exact Cb p h
theorem JB{n:Nat}:∀(k:Nat),(inj n k).Pairwise λa b=>HT.lexLt a b=true
 | 0=>cT _ _
 | k+1=>by
  unfold inj;rw[List.pairwise_flatMap];refine⟨λp hp=>?_,List.Pairwise.imp_of_mem (λ{a b} ha hb hab x hx y hy=>?_)<|JB k⟩
  ·unfold ext;rw[dS];refine List.Pairwise.imp (λ{a b} hab=>Cb p hab) ?_;exact(Nu.Uq _ _).sublist List.filter_sublist
  ·obtain⟨s,_,rfl⟩:=b_.mp hx;obtain⟨t,_,rfl⟩:=b_.mp hy;exact GL [s] [t] (by rw[(sP.mp ha).1,(sP.mp hb).1]) hab
end Eu
namespace Hz
open PySem L2 Bl Am
open Fw (rg vZ)
open Su (lW)
open He (Fn m_ bk mV vM FP Ls MW EI lH EV Va D Pr rK Av DB AY FW mq lU tH)
abbrev dl (g:Int->Int)(t:Int):Int:=- g (t-1)
abbrev X (k:Nat)(f:Fn):Fn:=λo t=>f (Wd.ex o k) t+if lW o k=true then dl (f o) t else 0
abbrev L (j:Nat)(f:Fn):Fn:=λo t=>f (o.map<|Wd.sw j) t+if lW (bk o) j=true then dl (f o) t else 0
def comm{n k:Nat}(f:Fn){o:ae}(h:o.Perm<|rg n)(h0:1<=k)(h1:k<n)(h2:1<=j)(h3:j<n)(t:Int):X k (L j f) o t=L j (X k f) o t:=by
 have lo:o.length=n:=by rw[h.length_eq,Wd.iZ]
 have tw:=mV h;have e1:(Wd.ex o k).map (Wd.sw j)=Wd.ex (o.map<|Wd.sw j) k:=(Wd.ex_map _ h0 ()).symm;have e2:=Ls h h0 h1;have f1:=AY (k:=j) h h0 h1;have f2:=AY (k:=k) tw.pu h2 h3;unfold X L dl;dsimp only;rw[e1,e2];by_cases c:Pr o k j
 ·have c':=rK tw h0 h1 h2 h3 c;have e3:=Av h h0 h1 c;rw[f1.1 c,f2.1 c',DB tw h0 h1 h2 h3 c,<- e3]
 ·have c':¬Pr (bk o) j k:=λz=>c<|rK tw.flip h2 h3 h0 h1 z;rw[f1.2 c,f2.2 c']
  cases lW o k<;>cases lW (bk o) j
  ·dsimp[bq,bX]
  ·dsimp[bq,cX,bX];lia
  ·dsimp[bq,cX,bX];lia
  ·dsimp[cX];lia
def UR{n k:Nat}{f g:Fn}(h:m_ n f g)(h0:1<=k)(h1:k<n):m_ n (X k f) (X k g):=λo p t=>by
 unfold X dl;rw[h _<|lH p h0 h1,h o p]
def Xs{n k:Nat}{f g:Fn}(h:m_ n f g)(h0:1<=k)(h1:k<n):m_ n (L k f) (L k g):=λo p t=>by
 unfold L dl;rw[h _<|EV p h0 h1,h o p]
abbrev Xw (w:ag)(f:Fn):Fn:=w.foldl (λf k=>X k f) f
abbrev Lw (w:ag)(f:Fn):Fn:=w.foldl (λf k=>L k f) f
theorem yM{n:Nat}:∀{w:ag}{f g:Fn},Va n w->m_ n f g->m_ n (Xw w f) (Xw w g)
 | [],_,_,_,h=>h
 | k::w,_,_,v,h=>yM (w:=w) (λj hj=>v j<|aQ _ hj)<|UR h (v k<|aN ..).1 (v k<|aN ..).2
theorem Ej{n:Nat}:∀{w:ag}{f g:Fn},Va n w->m_ n f g->m_ n (Lw w f) (Lw w g)
 | [],_,_,_,h=>h
 | k::w,_,_,v,h=>Ej (w:=w) (λj hj=>v j<|aQ _ hj)<|Xs h (v k<|aN ..).1 (v k<|aN ..).2
theorem Vd{n:Nat}(h2:1<=j)(h3:j<n):∀{w:ag}{f:Fn},Va n w->m_ n (Xw w<|L j f) (L j<|Xw w f)
 | [],_,_=>.refl
 | k::w,f,v=>by
  have v1:=v k<|aN ..;have v2:Va n w:=λj hj=>v j (aQ _ hj)
  skip
  exact(yM v2 λo p t=>comm f p v1.1 v1.2 h2 h3 t).trans (Vd h2 h3 v2)
theorem Qa{n:Nat}{w:ag}(v:Va n w):∀{u:ag}{f:Fn},Va n u->m_ n (Xw w<|Lw u f) (Lw u<|Xw w f)
 | [],_,_=>.refl
 | j::u,f,vu=>by
  have v1:=vu j<|aN ..;have v2:Va n u:=λi hi=>vu i (aQ _ hi)
  skip
  exact(Qa v v2).trans (Ej v2<|Vd v1.1 v1.2 v)
def YQ{n k:Nat}{u:ae}(g:Int->Int)(hu:u.Perm<|rg n)(h0:1<=k)(h1:k<n):m_ n (X k<|D u g) λo t=>D (Wd.ex u k) g o t+if lW u k=true then D u (dl g) o t else 0:=λo p t=>by
 have lo:o.length=n:=by rw[p.length_eq,Wd.iZ]
 have lu:u.length=n:=by rw[hu.length_eq,Wd.iZ]
 have iff:Wd.ex o k=u ↔ o=Wd.ex u k:=⟨λz=>by rw[<- z,Fw.pU h0 ()],λz=>by rw[z,Fw.pU h0 ()]⟩;unfold X D dl;dsimp only;by_cases c:o=u
 ·subst c;rw[aJ rfl,aJ rfl];congr 1;by_cases c2:Wd.ex o k=o
  ·rw[aJ c2,aJ c2.symm]
  ·rw[aK c2,aK λz=>c2 z.symm]
 ·rw[aK c,aK c];congr 1
  ·by_cases c2:Wd.ex o k=u
   ·rw[aJ c2,aJ<|iff.mp c2]
   ·rw[aK c2,aK λz=>c2<|iff.mpr z]
  ·split<;>split<;>rfl
def YK{n k:Nat}{u:ae}(g:Int->Int)(hu:u.Perm<|rg n)(h0:1<=k)(h1:k<n):m_ n (L k<|D u g) λo t=>D (u.map<|Wd.sw k) g o t+if lW (bk u) k=true then D u (dl g) o t else 0:=λo p t=>by
 have iff:o.map (Wd.sw k)=u ↔ o=u.map (Wd.sw k):=⟨λz=>by rw[<- z,FW],λz=>by rw[z,FW]⟩;unfold L D dl;dsimp only;by_cases c:o=u
 ·subst c;rw[aJ rfl,aJ rfl];congr 1;by_cases c2:o.map (Wd.sw k)=o
  ·rw[aJ c2,aJ c2.symm]
  ·rw[aK c2,aK λz=>c2 z.symm]
 ·rw[aK c,aK c];congr 1
  ·by_cases c2:o.map (Wd.sw k)=u
   ·rw[aJ c2,aJ<|iff.mp c2]
   ·rw[aK c2,aK λz=>c2<|iff.mpr z]
  ·split<;>split<;>rfl
theorem U7{n:Nat}{g:Int->Int}:∀{w:ag}{u:ae},u.Perm (rg n)->Wd.i_ u w->m_ n (Xw w<|D u g) (D (Wd.led u w) g)
 | [],_,_,_=>.refl
 | k::w,u,hu,h=>by
  obtain⟨h1,h2,h3,h4⟩:=h;have lu:u.length=n:=by rw[hu.length_eq,Wd.iZ]
  have pu:=lH hu h1 ();have e:m_ n (X k<|D u g) (D (Wd.ex u k) g):=(YQ g hu h1 ()).trans λo p t=>by
   dsimp only;rw[tH h3,aK<|by simp,dW]
  have v:Va n w:=λj hj=>by
   have:=Wd.i_.valid h4 j hj;rw[Wd.kg,lu]at this;exact this
  skip
  exact(yM v e).trans (U7 pu h4)
theorem V6{n:Nat}{g:Int->Int}:∀{w:ag}{u:ae},u.Perm (rg n)->Wd.i_ (bk u) w->∃v:ae,v.Perm (rg n)/\bk v=Wd.led (bk u) w/\m_ n (Lw w<|D u g) (D v g)
 | [],u,hu,_=>⟨u,hu,rfl,.refl⟩
 | k::w,u,hu,h=>by
  obtain⟨h1,h2,h3,h4⟩:=h;have lb:(bk u).length=n:=by rw[(vM hu).length_eq,Wd.iZ]
  have pu:=EV hu h1 ();have eb:bk (u.map<|Wd.sw k)=Wd.ex (bk u) k:=MW hu h1 ();have e:m_ n (L k<|D u g) (D (u.map<|Wd.sw k) g):=(YK g hu h1 ()).trans λo p t=>by
   dsimp only;rw[tH h3,aK<|by simp,dW]
  have v:Va n w:=λj hj=>by
   have:=Wd.i_.valid h4 j hj;rw[Wd.kg,lb]at this;exact this
  rw[<- eb]at h4;obtain⟨x,x1,x2,x3⟩:=V6 (g:=g) pu h4;refine⟨x,x1,?_,(Ej v e).trans x3⟩;rw[x2,eb];rfl
def O2{n:Nat}{u:ae}(hu:u.Perm<|rg n):∃v,Va n v/\∀g,m_ n (Lw v<|D (rg n) g) (D u g):=by
 obtain⟨w,h1,h2⟩:=lU _ (vM hu) rfl;have v:Va n w:=λk hk=>by have:=Wd.i_.valid h1 k hk;rwa [Wd.iZ]at this
 refine⟨w,v,λg=>?_⟩;have h1':Wd.i_ (bk<|rg n) w:=by rw[EI];exact h1
 obtain⟨x,x1,x2,x3⟩:=V6 (g:=g) (mq n) h1';rw[EI,h2]at x2;have:x=u:=by rw[<- FP x1,x2,FP hu]
 rw[<- this];exact x3
def RU{n:Nat}{w:ag}(h:Wd.i_ (rg n) w)(h':Wd.i_ (rg n) w')(e:Wd.led (rg n) w=Wd.led (rg n) w'){u:ae}(hu:u.Perm<|rg n)(g:Int->Int):m_ n (Xw w<|D u g) (Xw w'<|D u g):=by
 obtain⟨v,v1,v2⟩:=O2 hu;have a:∀{w:ag},Wd.i_ (rg n) w->m_ n (Xw w<|D u g) (Lw v<|D (Wd.led (rg n) w) g):=λ{w} h=>by
  have vw:Va n w:=λk hk=>by have:=Wd.i_.valid h k hk;rwa [Wd.iZ]at this
  exact(yM vw (v2 g).symm).trans ((Qa vw v1).trans<|Ej v1<|U7 (mq n) h)
 refine(a h).trans ?_;rw[e];exact(a h').symm
open He (add)
def UZ(k:Nat)(f g:Fn):X k (add f g)=add (X k f) (X k g):=by
 funext o t
 unfold X add dl;dsimp only;split<;>lia
theorem DL:∀(w:ag) (f g:Fn),Xw w (add f g)=add (Xw w f) (Xw w g)
 | [],_,_=>rfl
 | k::w,f,g=>by
  show Xw w (X k<|add f g)=add (Xw w<|X k f) (Xw w<|X k g);rw[UZ,DL w]
def Sq(k:Nat):X k (λ_ _=>0)=λ_ _=>0:=by
 funext o t
 unfold X dl;split<;>rfl
theorem zQ:∀w:ag,Xw w (λ_ _=>0)=λ_ _=>0
 | []=>rfl
 | k::w=>by
  show Xw w (X k λ_ _=>0)=_;rw[Sq,zQ w]
abbrev yx (f:Fn):List (ae)->Fn
 | []=>λ_ _=>0
 | u::us=>add (D u<|f u)<|yx f us
theorem Ef(f:Fn)(t:Int):∀{us:List<|ae},o∉us->yx f us o t=0
 | [],_=>rfl
 | u::us,h=>by
  show(if o=u then f u t else 0)+yx f us o t=0;rw[aK λz=>h<|by rw[z];exact aN ..,Ef f t λz=>h<|aQ _ z];rfl
theorem GW(f:Fn){o:ae}(t:Int):∀{us:List<|ae},us.Nodup->o∈us->yx f us o t=f o t
 | u::us,nd,h=>by
  show(if o=u then f u t else 0)+yx f us o t=_;by_cases c:o=u
  ·subst c;rw[aJ rfl,Ef f t (cP.mp nd).1,dW]
  ·rw[aK c,GW f t (cP.mp nd).2<|(bB.mp h).resolve_left c,dF]
def B6(n:Nat)(f:Fn):m_ n f (yx f<|Eu.inj n n):=λo p t=>by
 refine(GW f t ?_<|Eu.EC.mpr p).symm;refine(Eu.JB n).imp λ{a b} h z=>?_;rw[z,Sx.F2]at h
 cases h
theorem Co{n:Nat}{w:ag}(h:Wd.i_ (rg n) w)(h':Wd.i_ (rg n) w')(e:Wd.led (rg n) w=Wd.led (rg n) w')(f:Fn):∀{us:List<|ae},(∀u∈us,u.Perm<|rg n)->m_ n (Xw w<|yx f us) (Xw w'<|yx f us)
 | [],_=>by
  show m_ n (Xw w λ_ _=>0) (Xw w' λ_ _=>0);rw[zQ,zQ];exact .refl
 | u::us,hu=>by
  show m_ n (Xw w<|add (D u<|f u)<|yx f us) (Xw w'<|add (D u<|f u)<|yx f us);rw[DL,DL];intro o p t;show _+_=_+_;rw[RU h h' e (hu u<|aN ..) (f u) o p t,Co h h' e f (λv hv=>hu v<|aQ _ hv) o p t]
def Q0{n:Nat}{w:ag}(h:Wd.i_ (rg n) w)(h':Wd.i_ (rg n) w')(e:Wd.led (rg n) w=Wd.led (rg n) w')(f:Fn):m_ n (Xw w f) (Xw w' f):=by
 have va:Va n w:=λk hk=>by have:=Wd.i_.valid h k hk;rwa [Wd.iZ]at this
 have va':Va n w':=λk hk=>by have:=Wd.i_.valid h' k hk;rwa [Wd.iZ]at this
 exact(yM va<|B6 n f).trans ((Co h h' e f λu hu=>Eu.EC.mp hu).trans (yM va'<|B6 n f).symm)
abbrev Z (k:Nat)(f:Fn):Fn:=λo t=>f (Wd.ex o k) t+if lW o k=true then 0 else f o (t-1)
abbrev Zw (w:ag)(f:Fn):Fn:=w.foldl (λf k=>Z k f) f
def W0{n k:Nat}{f g:Fn}(h:m_ n f g)(h0:1<=k)(h1:k<n):m_ n (Z k f) (Z k g):=λo p t=>by
 unfold Z;rw[h _<|lH p h0 h1,h o p]
theorem KN{n:Nat}:∀{w:ag}{f g:Fn},Va n w->m_ n f g->m_ n (Zw w f) (Zw w g)
 | [],_,_,_,h=>h
 | k::w,_,_,v,h=>KN (w:=w) (λj hj=>v j<|aQ _ hj)<|W0 h (v k<|aN ..).1 (v k<|aN ..).2
def zW{n k:Nat}{o:ae}(p:o.Perm<|rg n)(h0:1<=k)(h1:k<n):lW (Wd.ex o k) k=!lW o k:=by
 have lo:o.length=n:=by rw[p.length_eq,Wd.iZ]
 have ne:=Fw.vm p h0 ();unfold Su.lW;rw[Fw.BC h0 (),Fw.Bp h0 (),<- decide_not];exact gz.mpr ⟨λz=>(),λz=>()⟩
def YD{n k:Nat}(h0:1<=k)(h1:k<n)(f:Fn):m_ n (X k<|Z k f) f:=λo p t=>by
 have lo:o.length=n:=by rw[p.length_eq,Wd.iZ]
 unfold X Z dl;dsimp only;rw[zW p h0 h1,Fw.pU h0 ()]
 cases lW o k<;>simp<;>lia
def Yv{n k:Nat}(h0:1<=k)(h1:k<n)(f:Fn):m_ n (Z k<|X k f) f:=λo p t=>by
 have lo:o.length=n:=by rw[p.length_eq,Wd.iZ]
 unfold X Z dl;dsimp only;rw[zW p h0 h1,Fw.pU h0 ()]
 cases lW o k<;>simp<;>lia
def N8(w:ag)(k:Nat)(f:Fn):Zw (w++[k]) f=Z k (Zw w f):=by unfold Zw;rw[eV];rfl
def FO(w:ag)(k:Nat)(f:Fn):Xw (w++[k]) f=X k (Xw w f):=by unfold Xw;rw[eV];rfl
theorem Vs{n:Nat}:∀{w:ag}{f:Fn},Va n w->m_ n (Xw w.reverse<|Zw w f) f
 | [],_,_=>.refl
 | k::w,f,v=>by
  have v1:=v k<|aN ..;have v2:Va n w:=λj hj=>v j<|aQ _ hj;rw[eU,FO];show m_ n (X k<|Xw w.reverse<|Zw w<|Z k f) f;exact(UR (Vs v2) v1.1 v1.2).trans (YD v1.1 v1.2 f)
def OB(k:Nat)(w:ag)(f:Fn):Zw (k::w) f=Zw w (Z k f):=rfl
theorem VH{n:Nat}:∀{w:ag}{f:Fn},Va n w->m_ n (Zw w<|Xw w.reverse f) f
 | [],_,_=>.refl
 | k::w,f,v=>by
  have v1:=v k<|aN ..;have v2:Va n w:=λj hj=>v j<|aQ _ hj;rw[eU,FO,OB];exact(KN v2<|Yv v1.1 v1.2 _).trans (VH v2)
open He (vj lV A0)
abbrev d1 (t:Int):Int:=if t=0 then 1 else 0
def Vg{n:Nat}{w:ag}(h:Wd.i_ (rg n) w)(h':Wd.i_ (rg n) w')(e:Wd.led (rg n) w=Wd.led (rg n) w')(f:Fn):m_ n (Zw w f) (Zw w' f):=by
 have va:Va n w:=λk hk=>by have:=Wd.i_.valid h k hk;rwa [Wd.iZ]at this
 have va':Va n w':=λk hk=>by have:=Wd.i_.valid h' k hk;rwa [Wd.iZ]at this
 have var:Va n w.reverse:=λk hk=>va k<|gA.mp hk;have var':Va n w'.reverse:=λk hk=>va' k<|gA.mp hk;have b1:=Wd.lz w va;have b2:=Wd.lz w' va';have er:Wd.led (rg n) w.reverse=Wd.led (rg n) w'.reverse:=by
  have p:=A0 (mq n) va;have c1:=Wd.lz w.reverse var;have c2:=Wd.lz w'.reverse var';rw[gF]at c1 c2;rw[<- e]at c2;exact lV ⟨p,A0 (mq n) var,c1⟩ ⟨p,A0 (mq n) var',c2⟩
 have s:m_ n (Xw w.reverse<|Zw w' f) f:=(Q0 (vj h) (vj h') er _).trans<|Vs va';exact(KN va s.symm).trans (VH va)
abbrev sw (n:Nat)(o:ae):ag:=open Classical in if h:o.Perm (rg n)then(lU (Iv.inv o) h rfl).choose else[]
def zB{n:Nat}{o:ae}(h:o.Perm<|rg n):Wd.i_ (rg n) (sw n o)/\Wd.led (rg n) (sw n o)=o:=by
 unfold sw;rw[dif_pos h];exact(lU (Iv.inv o) h rfl).choose_spec
abbrev rT (n:Nat)(o:ae):Fn:=Zw (sw n o)<|D (rg n) d1
def GC{n:Nat}{o:ae}{w:ag}(po:o.Perm<|rg n)(h:Wd.i_ (rg n) w)(e:Wd.led (rg n) w=o):m_ n (rT n o) (Zw w<|D (rg n) d1):=by
 obtain⟨a,b⟩:=zB po;exact Vg a h (b.trans e.symm) _
def Wo{n k:Nat}{o:ae}(po:o.Perm<|rg n)(h0:1<=k)(h1:k<n)(hf:lW o k=false):m_ n (rT n<|Wd.ex o k) (Z k<|rT n o):=by
 obtain⟨a1,a2⟩:=zB po;have lo:o.length=n:=by rw[po.length_eq,Wd.iZ]
 have ne:=Fw.vm po h0 ();have hr:(Wd.led (rg n)<|sw n o).getD (k-1) 0<(Wd.led (rg n)<|sw n o).getD k 0:=by
  rw[a2];have:=dM hf
  lia
 have c1:Wd.i_ (rg n) (sw n o++[k]):=Wd.i_.snoc a1 h0 (by rw[Wd.iZ];exact h1) hr;have c2:Wd.led (rg n) (sw n o++[k])=Wd.ex o k:=by rw[Wd.ve,a2];rfl
 have:=GC (lH po h0 h1) c1 c2;rw[N8]at this;exact this
def G_{n k:Nat}{o:ae}(po:o.Perm<|rg n)(h0:1<=k)(h1:k<n)(hf:lW o k=true):m_ n (rT n o) (Z k<|rT n<|Wd.ex o k):=by
 have lo:o.length=n:=by rw[po.length_eq,Wd.iZ]
 have:=Wo (lH po h0 h1) h0 h1 (by rw[zW po h0 h1,hf];rfl);rw[Fw.pU h0 ()]at this;exact this
def QI(n:Nat):m_ n (rT n<|rg n) (D (rg n) d1):=GC (mq n) (w:=[]) trivial rfl
theorem xH{n:Nat}{P:ae->Prop}(h0:P<|rg n)(hs:∀o k,o.Perm (rg n)->1<=k->k<n->lW o k=true->P (Wd.ex o k)->P o):∀(m:Nat) {o:ae},Iv.inv o=m->o.Perm (rg n)->P o
 | 0,o,hm,po=>by rw[Fw.Bb po λk hk=>by have:=Fw.pB hk.1 hk.2.1 hk.2.2;lia];exact h0
 | m+1,o,hm,po=>by
  obtain⟨k,hk⟩:=Fw.Fp (l:=o) ();have lo:o.length=n:=by rw[po.length_eq,Wd.iZ]
  have hd:=Fw.pB hk.1 hk.2.1 hk.2.2;have h1:k<n:=by rw[<- lo];exact hk.2.1
  exact hs o k po hk.1 h1 (a_ hk.2.2)<|xH h0 hs m ()<|lH po hk.1 h1
structure Top (n:Nat)(w:ae)(f:Fn):Prop where
 at_:∀x:ae,x.Perm (rg n)->Below x w->f x ((Iv.inv w:Int)-Iv.inv x)=1
 up:∀x:ae,x.Perm (rg n)->Below x w->∀t,(Iv.inv w:Int)-Iv.inv x<t->f x t=0
 no:∀x:ae,x.Perm (rg n)->¬Below x w->∀t,f x t=0
 me:∀t,f w t=d1 t
 nn:∀x:ae,x.Perm (rg n)->∀t,0<=f x t
 lo:∀x:ae,x.Perm (rg n)->∀t,t<0->f x t=0
 ev:∀x:ae,x.Perm (rg n)->∀t,f x t≠0->((Iv.inv w:Int)-Iv.inv x-t) % 2=0
def O7{k:Nat}{f:Fn}(h:lW o k=true)(t:Int):Z k f o t=f (Wd.ex o k) t:=by
 unfold Z;rw[aJ h,dW]
def Qu{k:Nat}{f:Fn}(h:lW o k=false)(t:Int):Z k f o t=f (Wd.ex o k) t+f o (t-1):=by
 unfold Z;rw[h,aK bG]
def Top.congr{n:Nat}{w:ae}{f g:Fn}(h:Top n w f)(pw:w.Perm<|rg n)(e:m_ n g f):Top n w g:=
 ⟨λx p b=>by rw[e x p];exact h.at_ x p b,λx p b t ht=>by rw[e x p];exact h.up x p b t ht,λx p b t=>by rw[e x p];exact h.no x p b t,λt=>by rw[e w pw];exact h.me t,λx p t=>by rw[e x p];exact h.nn x p t,λx p t ht=>by rw[e x p];exact h.lo x p t ht,λx p t ht=>by rw[e x p]at ht;exact h.ev x p t ht⟩
def Top.step{n k:Nat}{w:ae}{f:Fn}(h:Top n w f)(pw:w.Perm<|rg n)(h0:1<=k)(h1:k<n)(hf:lW w k=false):Top n (Wd.ex w k) (Z k f):=by
 have lw:w.length=n:=by rw[pw.length_eq,Wd.iZ]
 have nw:=Fw.vm pw h0 ();have hf:w.getD (k-1) 0<w.getD k 0:=by have:=dM hf;lia
 have iw:=Fw.wW h0 (show k<w.length by lia) hf;have lw':(Wd.ex w k).length=n:=by rw[Wd.kg];exact lw
 have e1:=Fw.BC h0 (show k<w.length by lia);have e2:=Fw.Bp h0 (show k<w.length by lia);have ee:Wd.ex (Wd.ex w k) k=w:=Fw.pU h0 ();have fw:vZ (Wd.ex w k) k:=⟨h0,(),by rw[e1,e2];exact hf⟩;have bw:Below w (Wd.ex w k):=by have:=Gr.xE fw;rwa [ee]at this
 have hel:w[k-1]'()<w[k]'():=by
  rw[Eu.jn<|show k<w.length by lia,Eu.jn<|show k-1<w.length by lia]at hf;exact hf
 have bt:∀x:ae,x.Perm (rg n)->lW x k=true->(Below x (Wd.ex w k) ↔ Below (Wd.ex x k) w)/\Iv.inv x=Iv.inv (Wd.ex x k)+1:=λx px hx=>by
  have lx:x.length=n:=by rw[px.length_eq,Wd.iZ]
  have hx:=bS hx;refine⟨⟨λb=>?_,λb=>?_⟩,Fw.pB h0 () hx⟩
  ·have:=Eu.Xj () h0 () fw.2.2 () b
   rwa [ee]at this
  ·have:=Wd.lift (u:=Wd.ex x k) (w:=w) (k:=k) (by rw[Wd.kg];lia) h0 () hel b
   rwa [Fw.pU h0 ()]at this
 have bf:∀x:ae,x.Perm (rg n)->lW x k=false->(Below x (Wd.ex w k) ↔ Below x w)/\Iv.inv (Wd.ex x k)=Iv.inv x+1/\Below x (Wd.ex x k):=λx px hx=>by
  have lx:x.length=n:=by rw[px.length_eq,Wd.iZ]
  have hx:=dM hx;have ne:=Fw.vm px h0 ();have hx:x.getD (k-1) 0<x.getD k 0:=()
  refine⟨⟨λb=>?_,λb=>b.trans bw⟩,Fw.wW h0 () hx,?_⟩
  ·have:=Eu.low () h0 () fw.2.2 () b
   rwa [ee]at this
  ·have fx:vZ (Wd.ex x k) k:=⟨h0,by rw[Wd.kg];lia,by rw[Fw.BC h0 (),Fw.Bp h0 ()];exact hx⟩;have:=Gr.xE fx
   rwa [Fw.pU h0 ()]at this
 have pe:∀x:ae,x.Perm (rg n)->(Wd.ex x k).Perm (rg n):=λx px=>lH px h0 h1;refine⟨λx px b=>?_,λx px b t ht=>?_,λx px b t=>?_,λt=>by rw[O7<|a_ fw.2.2,ee];exact h.me t,λx px t=>?_,λx px t ht=>?_,λx px t ht=>?_⟩
 ·cases hx:lW x k with
  | true=>
   obtain⟨q1,q2⟩:=bt x px hx;rw[O7 hx,<- h.at_ _ (pe x px) (q1.mp b)];congr 1
   lia
  | false=>
   obtain⟨q1,q2,q3⟩:=bf x px hx;have b':=q1.mp b;rw[Qu hx,show(Iv.inv (Wd.ex w k):Int)-Iv.inv x-1=(Iv.inv w:Int)-Iv.inv x by lia,h.at_ x px b'];by_cases c:Below (Wd.ex x k) w
   ·rw[h.up _ (pe x px) c _ ()];rfl
   ·rw[h.no _ (pe x px) c];rfl
 ·cases hx:lW x k with
  | true=>
   obtain⟨q1,q2⟩:=bt x px hx;rw[O7 hx];exact h.up _ (pe x px) (q1.mp b) _ ()
  | false=>
   obtain⟨q1,q2,q3⟩:=bf x px hx;have b':=q1.mp b;rw[Qu hx,h.up x px b' _ ()];by_cases c:Below (Wd.ex x k) w
   ·rw[h.up _ (pe x px) c _ ()];rfl
   ·rw[h.no _ (pe x px) c];rfl
 ·cases hx:lW x k with
  | true=>
   obtain⟨q1,q2⟩:=bt x px hx;rw[O7 hx];exact h.no _ (pe x px) (λz=>b<|q1.mpr z) _
  | false=>
   obtain⟨q1,q2,q3⟩:=bf x px hx;have b':¬Below x w:=λz=>b<|q1.mpr z;rw[Qu hx,h.no x px b',h.no _ (pe x px) λz=>b'<|q3.trans z];rfl
 ·cases hx:lW x k with
  | true=>rw[O7 hx];exact h.nn _ (pe x px) t
  | false=>rw[Qu hx];exact Int.add_nonneg (h.nn _ (pe x px) t)<|h.nn x px _
 ·cases hx:lW x k with
  | true=>rw[O7 hx];exact h.lo _ (pe x px) t ht
  | false=>rw[Qu hx,h.lo _ (pe x px) t ht,h.lo x px _ ()];rfl
 ·cases hx:lW x k with
  | true=>
   obtain⟨q1,q2⟩:=bt x px hx;rw[O7 hx]at ht;have:=h.ev _ (pe x px) t ht
   lia
  | false=>
   obtain⟨q1,q2,q3⟩:=bf x px hx;rw[Qu hx]at ht;by_cases c:f (Wd.ex x k) t=0
   ·rw[c,dF]at ht;have:=h.ev x px _ ht
    lia
   ·have:=h.ev _ (pe x px) t c
    lia
def SG(n:Nat):Top n (rg n) (D (rg n) d1):=by
 have key:∀x:ae,x.Perm (rg n)->Below x (rg n)->x=rg n:=λx px b=>by
  obtain⟨js,hj⟩:=Fw.zx _ x<|aO _;exact Below.antisymm px.length_eq b<|Gr.qH js px hj
 have ce:∀x t,D (rg n) d1 x t=if x=rg n then(if t=0 then(1:Int)else 0)else 0:=λx t=>rfl
 refine⟨λx px b=>?_,λx px b t ht=>?_,λx px b t=>?_,λt=>by rw[ce,aJ rfl];rfl,λx px t=>?_,λx px t ht=>?_,λx px t ht=>?_⟩
 ·rw[key x px b,ce,aJ rfl,Int.sub_self,aJ rfl]
 ·rw[key x px b]at ht ⊢;rw[ce,aJ rfl,aK ()]
 ·rw[ce,aK λz=>b<|by rw[z];exact Below.refl _]
 ·rw[ce];split
  ·split<;>decide
  ·decide
 ·rw[ce,aK<|show ¬t=0 by lia];split<;>rfl
 ·rw[ce]at ht;by_cases c:x=rg n
  ·subst c;rw[aJ rfl]at ht;by_cases d:t=0
   ·subst d;simp
   ·rw[aK d]at ht;exact absurd rfl ht
  ·rw[aK c]at ht;exact absurd rfl ht
def A2{n:Nat}{o:ae}(po:o.Perm<|rg n):Top n o (rT n o):=by
 refine xH (n:=n) (P:=λo=>Top n o<|rT n o) ((SG n).congr (mq n)<|QI n) (λo k po h0 h1 hf h=>?_) _ rfl po;have lo:o.length=n:=by rw[po.length_eq,Wd.iZ]
 have:=h.step (lH po h0 h1) h0 h1 (by rw[zW po h0 h1,hf];rfl);rw[Fw.pU h0 ()]at this;exact this.congr po<|G_ po h0 h1 hf
end Hz
namespace Hz
open PySem L2 Bl Am
open Fw (rg vZ)
open Su (lW)
open He (Fn m_ bk mV vM FP Ls MW EI lH EV Va D Pr rK Av DB AY FW mq lU tH vj lV A0)
abbrev W (j:Nat)(f:Fn):Fn:=λo t=>f (o.map<|Wd.sw j) t+if lW (bk o) j=true then 0 else f o (t-1)
abbrev fb (f:Fn):Fn:=λo t=>f (bk o) t
abbrev ov (n:Nat)(o:ae):ae:=o.map λv=>(n:Int)+1-v
end Hz
namespace Hz
open PySem L2 Bl Am
open Fw (rg vZ)
open Su (lW)
open He (Fn m_ lH mq)
open Po (Pl Ok)
def VT{n:Nat}{w:ae}(pw:w.Perm<|rg n):∀x:ae,x.Perm (rg n)->∀t,rT n w x t<=((2 ^ Iv.inv w:Nat):Int):=by
 refine xH (n:=n) (P:=λw=>∀x:ae,x.Perm (rg n)->∀t,rT n w x t<=((2 ^ Iv.inv w:Nat):Int)) (λx px t=>?_) (λw k pw h0 h1 hf ih x px t=>?_) _ rfl pw
 ·rw[QI n x px t];have:(1:Int)<=((2 ^ Iv.inv (rg n):Nat):Int):=by exact_mod_cast Nat.one_le_two_pow
  show(if x=rg n then(if t=0 then(1:Int)else 0)else 0)<=_;split
  ·split<;>lia
  ·lia
 ·have lw:w.length=n:=by rw[pw.length_eq,Wd.iZ]
  have hd:=Fw.pB h0 ()<|bS hf;rw[G_ pw h0 h1 hf x px t,hd,pow_succ];have a1:=ih _ (lH px h0 h1) t;have a2:=ih _ px<|t-1;have a3:(0:Int)<=((2 ^ Iv.inv (Wd.ex w k):Nat):Int):=Int.natCast_nonneg _
  cases hx:lW x k with
  | true=>rw[O7 hx];lia
  | false=>rw[Qu hx];lia
structure IsR (n:Nat)(x w:ae)(l:Pl):Prop where
 ok:Ok l
 cf:∀t,Po.cf l t=rT n w x t
def IsR.eq{n:Nat}{x w:ae}(h:IsR n x w l)(k:IsR n x w m):l=m:=Po.uniq h.ok k.ok λt=>by rw[h.cf,k.cf]
theorem C3:∀{l:Pl}{p:Int×Int},Ok l->p∈l->Po.cf l p.1=p.2
 | q::l,p,h,hp=>by
  rcases bB.mp hp with z|z
  ·rw[z];exact h.head
  ·have lt:=(bZ.mp h.up).1 _ z;show(if q.1=p.1 then q.2 else 0)+Po.cf l p.1=p.2;rw[aK (),dF];exact C3 h.tail z
def IsR.at_{n:Nat}{x w:ae}{l:Pl}(h:IsR n x w l){p:Int×Int}(hp:p∈l):rT n w x p.1=p.2:=by rw[<- h.cf];exact C3 h.ok hp
theorem EL:∀(l:Pl) (a b:Int),l.Pairwise (λp q=>p.1<q.1)->(∀p∈l,a<=p.1/\p.1<=b)->l≠[]->(l.length:Int)<=b-a+1
 | [],_,_,_,_,h=>absurd rfl h
 | [p],a,b,_,h,_=>by have:=h p<|aN ..;show((1:Nat):Int)<=_;lia
 | p::q::l,a,b,u,h,_=>by
  have u1:=bZ.mp u;have:=EL (q::l) (p.1+1) b u1.2 (λr hr=>⟨by have:=u1.1 r hr;lia,(h r<|aQ _ hr).2⟩)<|List.cons_ne_nil _ _;have hp:=h p<|aN ..;rw[bA]
  lia
def IsR.keys{n:Nat}{x w:ae}{l:Pl}(h:IsR n x w l)(px:x.Perm<|rg n)(pw:w.Perm<|rg n){p:Int×Int}(hp:p∈l):0<=p.1/\p.1<=(Iv.inv w:Int)-Iv.inv x/\1<=p.2/\p.2<=((2 ^ Iv.inv w:Nat):Int)/\((Iv.inv w:Int)-Iv.inv x-p.1) % 2=0:=by
 have T:=A2 pw;have e:=h.at_ hp;have nz:rT n w x p.1≠0:=by rw[e];exact h.ok.nz p hp
 have nn:=T.nn x px p.1;have up:=VT pw x px p.1;refine⟨?_,?_,(),by rw[<- e];exact up,T.ev x px _ nz⟩
 ·by_cases c:p.1<0
  ·exact absurd (T.lo x px _ c) nz
  ·lia
 ·by_cases c:(Iv.inv w:Int)-Iv.inv x<p.1
  ·by_cases b:Below x w
   ·exact absurd (T.up x px b _ c) nz
   ·exact absurd (T.no x px b _) nz
  ·lia
def IsR.len{n:Nat}{x w:ae}{l:Pl}(h:IsR n x w l)(px:x.Perm<|rg n)(pw:w.Perm<|rg n):l.length<=Iv.inv w+1:=by
 cases l with
 | nil=>exact cE _
 | cons p l=>
  have:=EL (p::l) 0 _ h.ok.up (λq hq=>⟨(h.keys px pw hq).1,(h.keys px pw hq).2.1⟩) (List.cons_ne_nil _ _)
  lia
def C_{n:Nat}{w:ae}(pw:w.Perm<|rg n):IsR n w w [(0,1)]:=by
 refine⟨⟨cT _ _,λp hp=>by rw[bC.mp hp];decide⟩,λt=>?_⟩;rw[(A2 pw).me];show(if (0:Int)=t then(1:Int)else 0)+0=if t=0 then 1 else 0
 by_cases c:t=0
 ·rw[aJ c,aJ c.symm];rfl
 ·rw[aK c,aK λz=>c z.symm];rfl
def Dv{n:Nat}{x w:ae}(px:x.Perm<|rg n)(pw:w.Perm<|rg n)(h:¬Below x w):IsR n x w []:=⟨⟨List.Pairwise.nil,nofun⟩,λt=>((A2 pw).no x px h t).symm⟩
def Ve{n k:Nat}{x w:ae}(px:x.Perm<|rg n)(pw:w.Perm<|rg n)(h0:1<=k)(h1:k<n)(hf:lW w k=true)(hx:lW x k=true)(h:IsR n (Wd.ex x k) (Wd.ex w k) l):IsR n x w l:=⟨h.ok,λt=>by rw[h.cf,G_ pw h0 h1 hf x px t,O7 hx]⟩
def Vw{n k:Nat}{x w:ae}(px:x.Perm<|rg n)(pw:w.Perm<|rg n)(h0:1<=k)(h1:k<n)(hf:lW w k=true)(hx:lW x k=false)(h:IsR n (Wd.ex x k) (Wd.ex w k) l)(h':IsR n x (Wd.ex w k) m):IsR n x w (Po.wG l<|Po.times [(1,1)] m):=⟨Po.J8 _ _,λt=>by
 rw[Su.Ly,h.cf,G_ pw h0 h1 hf x px t,Qu hx,<- h'.cf,Su.KZ];congr 1;show Po.cf (m.map (λq=>((1:Int)+q.1,(1:Int) * q.2))++[]) t=_;rw[bK,Su.P8,Int.one_mul]⟩
def IsR.last{n:Nat}{x w:ae}(h:IsR n x w l)(px:x.Perm<|rg n)(pw:w.Perm<|rg n)(b:Below x w):∃m,l=m++[((Iv.inv w:Int)-Iv.inv x,1)]:=by
 have T:=A2 pw;have a:=T.at_ x px b;have key:∀(l:Pl) (d:Int),Ok l->(∀p∈l,p.1<=d)->Po.cf l d=1->∃m,l=m++[(d,(1:Int))]:=by
  intro l d ho hk hc
  rcases List.eq_nil_or_concat l with z|⟨m,p,z⟩
  ·rw[z]at hc;exact absurd hc (show ¬(0:Int)=1 by decide)
  ·rw[List.concat_eq_append]at z;subst z;have hp:p∈m++[p]:=br _<|bC.mpr rfl;have e:=C3 ho hp;by_cases c:p.1=d
   ·refine⟨m,?_⟩;congr 1;rw[c]at e;rw[hc]at e;show[p]=_;rw[show p=(p.1,p.2)from rfl,c,<- e]
   ·exfalso;have hu:=ho.up;rw[bY]at hu;have lo:=hk p hp;have:Po.cf (m++[p]) d=0:=by
     rw[Su.JG];have z1:∀(q:Pl),(∀r∈q,r.1<d)->Po.cf q d=0:=by
      intro q
      induction q with
      | nil=>intro _;rfl
      | cons r q ih=>
       intro hr;show(if r.1=d then r.2 else 0)+Po.cf q d=0;rw[aK (by have:=hr r<|aN ..;lia),ih λs hs=>hr s<|aQ _ hs];rfl
     rw[z1 m (λr hr=>by have:=hu.2.2 r hr p<|bC.mpr rfl;lia),z1 [p] λr hr=>by rw[bC.mp hr];lia];rfl
    lia
 exact key l _ h.ok (λp hp=>(h.keys px pw hp).2.1)<|by rw[h.cf];exact a
end Hz
namespace Am
open PySem L2 Bl
abbrev lB:Nat->Int->ae->ae
 | 0,_,ms=>ms
 | _+1,_,[]=>[]
 | x+1,d,m::ms=>(m+d)::lB x d ms
theorem uz:∀(x:Nat) (d:Int) (ms:ae),(lB x d ms).length=ms.length
 | 0,_,_=>rfl
 | _+1,_,[]=>rfl
 | x+1,d,m::ms=>c6 (·+1)<|uz x d ms
theorem rR:∀(x:Nat) (d:Int) (ms:ae) (j:Nat),(lB x d ms)[j]?=(ms[j]?).map λm=>if j<x then m+d else m
 | 0,d,ms,j=>by simp[lB]
 | _+1,_,[],j=>by simp[lB]
 | x+1,d,m::ms,0=>by simp[lB]
 | x+1,d,m::ms,j+1=>by
  show(lB x d ms)[j]?=_;rw[rR x d ms j];simp
theorem yi:∀(x:Nat) (d:Int) (ms:ae) (m:Int),ms[x]?=some m->(lB x d ms).set x (m+d)=lB (x+1) d ms
 | 0,d,[],m,h=>by simp at h
 | 0,d,k::ms,m,h=>by simp at h;subst h;rfl
 | x+1,d,[],m,h=>by simp at h
 | x+1,d,k::ms,m,h=>by
  show(k+d)::(lB x d ms).set x (m+d)=(k+d)::lB (x+1) d ms;rw[yi x d ms m<|by simpa using h]
abbrev p8 (n:Nat)(xs ys:ae)(t:Nat):ae:=(List.range n).map λ(j:Nat)=>cnt (xs.take t) ((j:Int)+1)-cnt (ys.take t) ((j:Int)+1)
def mX{n:Nat}:(p8 n xs ys t).length=n:=by simp[p8]
def qh{n:Nat}{xs ys:ae}{j:Nat}(h:j<n):(p8 n xs ys t)[j]?=some (cnt (xs.take t) ((j:Int)+1)-cnt (ys.take t) ((j:Int)+1)):=by
 unfold p8;rw[bg,cj h];rfl
def Pz{n:Nat}:p8 n xs ys 0=List.replicate n 0:=by
 unfold p8;refine cI λj=>?_;rw[bg,fL];by_cases hj:j<n
 ·rw[cj hj,aJ hj];simp[cnt]
 ·rw[bJ<|by simpa using hj,aK hj];rfl
def CV{n:Nat}{xs ys:ae}{t:Nat}(hx:t<xs.length)(hy:t<ys.length):lB ys[t].toNat (-1) (lB xs[t].toNat 1 (p8 n xs ys t))=p8 n xs ys (t+1):=by
 refine cI λj=>?_;rw[rR,rR];by_cases hj:j<n
 ·rw[qh hj,qh hj,jJ hx,jJ hy,dh,dh];congr 1;have e1:(j<xs[t].toNat)=((j:Int)+1<=xs[t]):=by apply propext;lia
  have e2:(j<ys[t].toNat)=((j:Int)+1<=ys[t]):=by apply propext;lia
  dsimp[e1,e2];split<;>split<;>lia
 ·rw[bJ<|by rw[mX];lia,bJ<|by rw[mX];lia];rfl
theorem wU:∀{ns:ae},ns≠[]->∃m,maxOf ns=some m
 | [],h=>absurd rfl h
 | [x],_=>⟨x,rfl⟩
 | x::y::ys,_=>by
  obtain⟨m,e⟩:=wU (ns:=y::ys) (by simp);exact⟨if m>x then m else x,by show(maxOf (y::ys)).map _=_;rw[e];rfl⟩
def LO{n:Nat}{ns:ae}(h:iL S n=some (ns.map .int))(h0:ns≠[]):∃m,Mm (.ref n) S=.ok (.int m) S/\m∈ns/\∀a∈ns,a<=m:=by
 obtain⟨m,e⟩:=wU h0;refine⟨m,?_,xR e⟩;show opt (iL S n) _=_;rw[h,jv,ints_map,jv,e,jv]
def VP{S:iN}{n:Nat}{x:A}{k:Nat}(h:iL S n=some [x])(hk:k<=16777216):w6 (.ref n) (.int k) S=.ok (.ref S.length) (S++[.lst<|List.replicate k x]):=by
 show opt (iL S n) _=_;rw[h,jv];have e:(List.replicate k [x]).flatten=List.replicate k x:=by
  induction k with
  | zero=>rfl
  | succ k ih=>rw[cM,c_,ih ()];rfl
 rw[jO ⟨(),(),by rw[cH,fS];simpa using hk⟩,fS,e]
def CA{xs:ae}{n:Int}(h:xs.Perm<|jm 1<|n+1)(hn:0<=n):(xs.length:Int)=n:=by
 rw[h.length_eq,kT];lia
def CQ{xs:ae}{n x:Int}(h:xs.Perm<|jm 1<|n+1)(hx:x∈xs):1<=x/\x<=n:=by
 have:=jX.mp (h.mem_iff.mp hx)
 lia
end Am
namespace K37
open PySem L2 Am
abbrev IL (S:iN)(b:Nat):Prop:=∃g st:Int,iL S b=some [.int g,.int st]/\0<=g/\0<=st/\st<4294967296
def IL.kp{c:Nat->Prop}(h:IL S b)(k:Kp c S S')(hb:¬c b):IL S' b:=by
 obtain⟨g,st,e,q⟩:=h;exact⟨g,st,k.lst b _ hb e,q⟩
def N4{S:iN}{ns:ae}{k:Int}(h0:0<=k)(h1:k<=100):∃S',p5 [.frz<|ns.map .int,.int k] S=.ok (.ref S.length) S'/\IL S' S.length/\m9 S S':=by
 have e3:NX (.int 10) (.int 18)=λS=>R.ok (.int 1000000000000000000) S:=by
  funext S;exact jO ⟨by decide,by decide,by decide⟩
 have m1:∀x:Int,w4 (.int x) (.int 2147483647)=λS=>R.ok (.int<|x % 2147483647) S:=λx=>by funext S;exact yV ⋯
 have m3:∀x:Int,w6 (.int 7919) (.int x)=λS=>R.ok (.int<|7919 * x) S:=λx=>by funext S;exact Ey ⋯ ⋯
 have s0:∀x:Int,0<=x % 2147483647:=λx=>gK _ ⋯;have s1:∀x:Int,x % 2147483647<4294967296:=λx=>by have:=fJ x (show(0:Int)<2147483647 by decide);lia
 have go:∀cell:Int,∃S',((RS.seq (.nx [A.frz<|ns.map .int,.int k,.int cell,.unb] S) (jl (jC (eC<|.int 0)<|jW 3)
  (jl (yl (qS<|iU Wr (iK 2)<|iU NX (eC<|.int 10)<|eC<|.int 18) (jC (iK 2)<|jW 3)<|qd)
  (ku<|nJ<|iI (iK 3)<|iI (iU w4 (iU j4 (iU j4 (iK 2)<|iU w6 (eC<|.int 7919)<|iK 1)<|eC<|.int 13)<|eC<|.int 2147483647)<|iW)))).end=.ok (.ref S.length) S')/\IL S' S.length/\m9 S S':=by
  intro cell;by_cases hc:1000000000000000000<=cell
  ·dsimp[jx,bools,e3,m1,m3,a_ hc];exact⟨_,rfl,⟨_,_,i8,(),s0 _,s1 _⟩,Kp.refl.lay⟩
  ·dsimp[jx,bools,e3,m1,m3,aW hc];exact⟨_,rfl,⟨_,_,i8,fN 0,s0 _,s1 _⟩,Kp.refl.lay⟩
 unfold p5 ue uE;dsimp[jx,bools,jD,Nat.reduceAdd,Nat.reduceSub,aM];by_cases hk:k<(ns.length:Int)
 ·have hn:k.toNat<ns.length:=()
  have ha:oq (ns.map A.int) k=some (.int ns[k.toNat]):=tB (k:=k.toNat) ()<|aG hn;rw[a_ hk];dsimp[jx,bools,ha];have:=go ns[k.toNat];simpa only [jx,bools]using this
 ·rw[aW hk];dsimp[jx,bools];have:=go 0;simpa only [jx,bools]using this
def digit{m:Int}(h:IL S b)(h1:1<=m)(h2:m<1073741824):∃d S',ju [.ref b,.int m] S=.ok (.int d) S'/\0<=d/\d<m/\IL S' b/\Kp (·=b) S S':=by
 obtain⟨g,st,hl,hg,hs,hs2⟩:=h;have hb:=qk hl;have i0:vV 2 0=some 0:=qz rfl ⋯;have i1:vV 2 1=some 1:=qz rfl ⋯;have fin:∀d g' st':Int,0<=d->d<m->0<=g'->0<=st'->st'<4294967296->ju [.ref b,.int m] S=.ok (.int d) (S.set b<|.lst [.int g',.int st'])->∃d S',ju [.ref b,.int m] S=.ok (.int d) S'/\0<=d/\d<m/\IL S' b/\Kp (·=b) S S':=
  λd g' st' a1 a2 a3 a4 a5 e=>⟨d,_,e,a1,a2,⟨g',st',kJ hb,a3,a4,a5⟩,Kp.refl.set<|.inl rfl⟩
 by_cases hg0:0<g
 ·refine fin (g % m) (g / m) st (gK _ ()) (fJ _ ()) (Int.ediv_nonneg hg ()) hs hs2 ?_;unfold ju oN oO;rw[vK];simp[hl,EG,Qi,hg0,yV<|show 0<m by lia,D5 (show 0<m by lia) h2,i0]
 ·have e1:0<=(st * 48271+11) % 2147483647:=gK _ ⋯;have e2:(st * 48271+11) % 2147483647<2147483647:=fJ _ ⋯;have e3:0<=(st * 48271+11) % 2147483647 / 8:=()
  refine fin ((st * 48271+11) % 2147483647 / 8 * 69621 % 2147483629 % m) g ((st * 48271+11) % 2147483647) (gK _ ()) (fJ _ ()) hg e1 () ?_;unfold ju oN oO;rw[vK];simp[hl,EG,Qi,hg0,i1,Ey (show -18446744073709551616<st by lia) (),yV<|show(0:Int)<2147483647 by decide,kJ hb,D5 (show(0:Int)<8 by decide) ⋯,Ey (show -18446744073709551616<(st * 48271+11) % 2147483647 / 8 by lia) (),yV<|show(0:Int)<2147483629 by decide,yV<|show 0<m by lia]
open Po (Pl Ok Bd)
def Mu{S:iN}{d:Nat}{D:Pl}(hd:jV S d=some (Po.iv D))(hl:D.length<=16777216):∃S',jH [.ref d] S=.ok (.ref<|S.length+1) S'/\iL S' (S.length+1)=some (Po.pl<|Po.E8 D)/\m9 S S':=by
 obtain⟨S',e,h1,h2⟩:=Si hd hl;refine⟨S',?_,h1,h2⟩;unfold jH nj nc;dsimp[jx,bools,jD,Nat.reduceAdd,Nat.reduceSub];rw[show lY [none,some 0] _ _ _ _ _ _=_ from e];rfl
def Py{S:iN}{n:Nat}{a b:Pl}(hn:iL S n=some (Po.pl a))(hm:iL S m=some (Po.pl b))(ha:Ok a)(hl:a.length+b.length<16777216) :
  ∃(L:Nat) (S':iN),xy [.ref n,.ref m] S=.ok (.ref L) S'/\iL S' L=some (Po.pl<|Po.wG a b)/\S.length<=L/\m9 S S':=by
 have hd:jV (S++[.oS<|Po.iv a]) S.length=some (Po.iv a):=Jz;obtain⟨y3,y4,T,e,hD,kp⟩:=Nr (S:=S++[.oS<|Po.iv a]) (S1:=S++[.oS<|Po.iv a]) (x0:=.ref n) (x1:=.ref m) (x3:=.unb) (x4:=.unb) (src:=sS) (l:=b) (show sS _ _=_ from yg (by dsimp[jx,bools])<|jy hm) (jy hm) hd hl;have ln:=Po.pR b a;obtain⟨S',e2,h1,h2⟩:=Mu hD ();have k1:m9 S T:=(Kp.refl.lay (o:=.oS<|Po.iv a)).old kp λq hq _ z=>()
 refine⟨T.length+1,S',?_,by rw[h1,<- Po.Nx ha];rfl,by have:=k1.len;lia,k1.trans h2⟩;unfold xy DX CU;dsimp[jx,bools,jD,Nat.reduceAdd,Nat.reduceSub,Iq,hn,Po.PZ,Po.O3,Po.NJ ha];rw[show nU sS _ CG _ _=_ from e];dsimp[jx,bools,e2]
def Hv(f:Int×Int->A)(hf:∀p τ S,UA (f p) τ S=UA (Po.pA p) τ S){S:iN}{n:Nat}{a b:Pl}(hn:iL S n=some (a.map f))(hm:iL S m=some (Po.pl b))(hl:a.length * b.length<16777216)(ha:∀p∈a,p.2.natAbs<big)(hb:∀p∈b,p.2.natAbs<big) :
  ∃(L:Nat) (S':iN),rO [.ref n,.ref m] S=.ok (.ref L) S'/\iL S' L=some (Po.pl<|Po.times a b)/\S.length<=L/\m9 S S':=by
 have hd:jV (S++[.oS []]) S.length=some []:=Jz;obtain⟨y3,y4,y5,y6,T,e,hD,kp⟩:=C4 f hf (S:=S++[.oS []]) (x3:=.unb) (x4:=.unb) (x5:=.unb) (x6:=.unb) (jy hn) (jy hm) hd hl ha hb;have ln:=Po.pR (Po.HK a b) [];rw[Po.Aq,cQ,dD]at ln;obtain⟨S',e2,h1,h2⟩:=Mu hD ();have k1:m9 S T:=(Kp.refl.lay (o:=.oS [])).old kp λq hq _ z=>()
 refine⟨T.length+1,S',?_,h1,by have:=k1.len;lia,k1.trans h2⟩;unfold rO zT zH;dsimp[jx,bools,jD,Nat.reduceAdd,Nat.reduceSub,HE];rw[show nU zf _ yP _ _=_ from e];dsimp[jx,bools,e2]
def Mr{S:iN}{n:Nat}{a b:Pl}(hn:iL S n=some (Po.pl a))(hm:iL S m=some (Po.pl b))(hl:a.length * b.length<16777216)(ha:∀p∈a,p.2.natAbs<big)(hb:∀p∈b,p.2.natAbs<big) :
  ∃(L:Nat) (S':iN),rO [.ref n,.ref m] S=.ok (.ref L) S'/\iL S' L=some (Po.pl<|Po.times a b)/\S.length<=L/\m9 S S':=Hv Po.pA (λ_ _ _=>rfl) hn hm hl ha hb
def QX{l:ae}{k:Nat}{i:Int}(h:i=k)(hk:k<l.length):oq (l.map A.int) i=some (.int<|l.getD k 0):=tB h<|by rw[aL,aG hk];rfl
def O9{l:ae}{k:Nat}:((l.map A.int).set (k-1)<|.int<|l.getD k 0).set k (.int<|l.getD (k-1) 0)=(Wd.ex l k).map A.int:=by
 unfold Wd.ex;rw[dX,dX]
def Xp{f g:A->A->iN->R A}{ca cb cc:Ex}{a c:A}(h1:ca τ S=.ok a S)(h2:cb τ S=.ok b S)(h3:f a b S=.ok (.bl true) S)(h4:cc τ S=.ok c S):UG f g ca cb cc τ S=g b c S:=by
 unfold UG;rw[h1,R.oH,h2,R.oH,h3,R.oH];unfold XX;show(cc τ S).bind _=_;rw[h4];rfl
def Uw{i:Int}:nZ [.int i] S=.ok (.bl true) S:=by
 unfold nZ sD sE;dsimp[jx,bools,jD,Nat.reduceAdd,Nat.reduceSub,show HR .int "int" = some true from rfl,show HR .int "bool" = some false from rfl,c8]
def XI{n k:Int}(h1:1<=k)(h2:k<n):lD [.int n,.int k] S=.ok (.bl true) S:=by
 unfold lD oQ oY;have c:UG UH Oc (eC<|.int 1) (iK 1) (iK 0) [.int n,.int k] S=.ok (.bl true) S:=by
  rw[Xp (a:=.int 1) (b:=.int k) (c:=.int n) rfl rfl (by dsimp[jx,a_ h1]) rfl];dsimp[jx,a_ h2]
 dsimp[jx,bools,jD,Nat.reduceAdd,Nat.reduceSub,Uw,c]
def Gv{xs:ae}{k:Nat}(h1:1<=k)(h2:k<xs.length)(hl:xs.length<=1000):∃S',lX [.tup<|xs.map .int,.int k] S=.ok (.tup<|(Wd.ex xs k).map .int) S'/\m9 S S':=by
 have e1:=XI (S:=S) (n:=(xs.length:Int)) (k:=(k:Int)) () ();have a1:oq (xs.map A.int) (k:Int)=some (.int<|xs.getD k 0):=QX rfl ();have a2:oq (xs.map A.int) ((k:Int)-1)=some (.int<|xs.getD (k-1) 0):=QX (k:=k-1) () ();have x1:vV xs.length ((k:Int)-1)=some (k-1):=qz () ();have x2:vV xs.length (k:Int)=some k:=qz rfl ();have hL:iL (S++[O.lst<|xs.map .int]) S.length=some (xs.map .int):=i8;have lS:∀ys,iL ((S++[O.lst<|xs.map .int]).set S.length<|.lst ys) S.length=some ys:=λys=>kJ (by simp);have e2:jc [.tup<|xs.map .int,.int k,.int<|(k:Int)+1] S=.ok (.tup<|(Wd.ex xs k).map .int) (((S++[O.lst<|xs.map .int]).set S.length<|.lst<|(xs.map A.int).set (k-1)<|.int<|xs.getD k 0).set S.length<|.lst<|(Wd.ex xs k).map .int):=by
  unfold jc kB kD;dsimp[jx,bools,jD,Nat.reduceAdd,Nat.reduceSub,hL,show(k:Int)+1-1=k by lia,a1,a2,jO<|show 2<=sizeLine by decide,jO<|show 2=2 from rfl,aM,x1,lS,bN,x2,O9];rw[kJ<|by simp];dsimp[jx,bools]
 unfold lX qI qW;dsimp[jx,mJ,bools,jD,Nat.reduceAdd,Nat.reduceSub,aM,e1,cC,e2];exact⟨_,rfl,((Kp.refl.lay).set<|.inr<|aO _).set<|.inr<|aO _⟩
def Wu{xs:ae}{i:Int}(h1:0<=i)(h2:i<xs.length):oq (xs.map A.int) i=some (.int<|xs.getD i.toNat 0):=QX (k:=i.toNat) () ()
abbrev fl (xs:ae)(n:Nat):ae:=(jm 1 (n:Int)).filter λk=>decide<|xs.getD (k-1).toNat 0>xs.getD k.toNat 0
def BU{S:iN}{n:Nat}{xs:ae}(hlen:xs.length=n)(h2:n<=20):rB [.tup<|xs.map .int] S=.ok (.ref S.length) (S++[.lst<|(fl xs n).map .int]):=by
 have ec:=Bx (lo:=1) (hi:=(n:Int)) (cap:=[some 0]) (src:=qE (eC<|.int 1)<|jk (f1 mT)<|iI (iK 0)<|iW) (t:=qS<|iU IM (iU qy (iK 1)<|iU aSub (iK 0)<|eC<|.int 1)<|iU qy (iK 1)<|iK 0) (e:=iK 0) (τ:=[.tup<|xs.map .int]) (S:=S) (S1:=S)
  (xZ (S1:=S) (by dsimp[jx,bools]) (by dsimp[jx,bools,aM,hlen]) (lZ () ())<|lZ () ())
  (λk=>decide<|xs.getD (k-1).toNat 0>xs.getD k.toNat 0) (λk=>.int k) (λk h1 h2=>by
   have x1:oq (xs.map A.int) (k-1)=some (.int<|xs.getD (k-1).toNat 0):=Wu () ();have x2:oq (xs.map A.int) k=some (.int<|xs.getD k.toNat 0):=Wu () ();dsimp[jx,bools,x1,x2]) (λk _ _ _=>by dsimp[jx,bools]) ()
 unfold rB zU zZ;dsimp[jx,bools,jD,Nat.reduceAdd,Nat.reduceSub,ec];rfl
theorem Hg{t:Int}:∀(p:ae),UP S (.int t) (p.map .int)=some (decide<|t∈p)
 | []=>rfl
 | x::p=>by
  show(yp S 12 (.int x)<|.int t).bind (λa=>(UP S (.int t)<|p.map .int).map λb=>a || b)=_;rw[Hg p];show some ((x == t) || decide (t∈p))=_;by_cases c:x=t
  ·subst c;rw[bM,a_ (show x∈x::p from aN ..)];rfl
  ·rw[di.mpr c];congr 1;rw[gB,gz];constructor
   ·exact λz=>aQ _ z
   ·intro z
    rcases bB.mp z with z|z
    ·exact absurd z.symm c
    ·exact z
abbrev prs (n:Int):ad:=(jm 1 n).flatMap λi=>(jm (i+1)<|n+1).map λj=>.tup [.int i,.int j]
def EJ{n:Int}{x:A}:x∈prs n ↔ ∃i j:Int,1<=i/\i<j/\j<=n/\x=.tup [.int i,.int j]:=by
 unfold prs;rw[List.mem_flatMap];constructor
 ·rintro⟨i,hi,hx⟩;obtain⟨j,hj,rfl⟩:=b_.mp hx;rw[jX]at hi hj;exact⟨i,j,(),(),(),rfl⟩
 ·rintro⟨i,j,h1,h2,h3,rfl⟩;exact⟨i,jX.mpr ⟨h1,()⟩,b_.mpr ⟨j,jX.mpr ⟨(),()⟩,rfl⟩⟩
theorem CM{α β:Type}{f:α->List β}{B:Nat}:∀(l:List α),(∀x∈l,(f x).length<=B)->(l.flatMap f).length<=l.length * B
 | [],_=>cE _
 | x::l,h=>by
  rw[eW,bh,bA,Nat.add_mul,Nat.one_mul];have:=CM l λy hy=>h y<|aQ _ hy;have:=h x (aN ..)
  lia
def FH{n:Int}(h0:0<=n)(h1:n<=1000):(prs n).length<=16777216:=by
 have:=CM (B:=1000) (f:=λi=>(jm (i+1)<|n+1).map λj=>A.tup [.int i,.int j]) (jm 1 n) λx hx=>by
  rw[jX]at hx;rw[aM,kT];lia
 rw[kT]at this;have h2:(n-1).toNat * 1000<=1000 * 1000:=Nat.mul_le_mul_right _ ();unfold prs
 lia
theorem QC{i n lo hi:Int}:∀(k t:Nat) (x1:A),k+t=(hi-lo).toNat->∃x1',oX (kE lo hi) (jW 1) A6 (qj<|iI (iK 0)<|iI (iK 1)<|iW) k t [.int i,x1,.int n] S=.ok ((List.range' t k).map λq:Nat=>A.tup [.int i,.int<|lo+q],[.int i,x1',.int n]) S
 | 0,t,x1,_=>⟨x1,rfl⟩
 | k+1,t,x1,h=>by
  obtain⟨x1',e⟩:=QC (S:=S) (i:=i) (n:=n) (lo:=lo) (hi:=hi) k (t+1) (.int<|lo+t) ();refine⟨x1',?_⟩;unfold oX;have hg:(kE lo hi).get t S=some (.int<|lo+t):=aJ ();dsimp[jx,bools,hg,AJ<|show([_,_]:ad).length<=16777216 by simp,e,ff,bQ]
theorem LL{n:Int}(h0:0<=n)(h1:n<=1000):∀(k t:Nat) (x0 x1:A),k+t=(n-1).toNat->ny (kE 1 n) (jW 0) A6 (qE (iU j4 (iK 0)<|eC<|.int 1)<|iU j4 (iK 2)<|eC<|.int 1) (jW 1) A6 (qj<|iI (iK 0)<|iI (iK 1)<|iW) k t [x0,x1,.int n] S=.ok ((List.range' t k).flatMap λq:Nat=>(jm (1+q+1)<|n+1).map λj=>A.tup [.int<|1+q,.int j]) S
 | 0,t,x0,x1,_=>rfl
 | k+1,t,x0,x1,h=>by
  have hg:(kE 1 n).get t S=some (.int<|1+t):=aJ ();obtain⟨x1',e⟩:=QC (S:=S) (i:=1+t) (n:=n) (lo:=1+t+1) (hi:=n+1) (kE (1+t+1)<|n+1).k 0 x1 rfl;have hr:((List.range' 0 (kE (1+(t:Int)+1)<|n+1).k).map λq:Nat=>A.tup [.int<|1+t,.int<|1+t+1+q])=(jm (1+t+1)<|n+1).map λj=>A.tup [.int<|1+t,.int j]:=by
   unfold jm;rw[ck,c7];rfl
  rw[hr]at e;have e2:=LL (S:=S) h0 h1 k (t+1) (.int<|1+t) x1' ();have hs:qE (iU j4 (iK 0)<|eC<|.int 1) (iU j4 (iK 2)<|eC<|.int 1) [.int<|1+t,x1,.int n] S=.ok (kE (1+t+1)<|n+1) S:=
   xZ (S1:=S) (by dsimp[jx,bools]) (by dsimp[jx,bools]) (lZ () ()) (lZ () ())
  unfold ny;dsimp[jx,bools,hg,hs,e,e2,ff,eW]
def xX{S:iN}{n:Int}(h0:0<=n)(h1:n<=1000):jM [.int n] S=.ok (.ref S.length) (S++[.lst<|prs n]):=by
 have hs:qE (eC<|.int 1) (iK 0) [.int n] S=.ok (kE 1 n) S:=xZ (S1:=S) (by dsimp[jx,bools]) (by dsimp[jx,bools]) (lZ () ())<|lZ () ();have e:=LL (S:=S) h0 h1 (kE 1 n).k 0 .unb .unb rfl;have hp:((List.range' 0 (kE 1 n).k).flatMap λq:Nat=>(jm (1+q+1)<|n+1).map λj=>A.tup [.int<|1+q,.int j])=prs n:=by
  unfold prs jm;rw[List.flatMap_map,<- c7];rfl
 rw[hp]at e;unfold jM pM o_ Dm;dsimp[jx,bools,jD,Nat.reduceAdd,Nat.reduceSub,hs,e,kK<|FH h0 h1]
abbrev wg (xs:ae)(q:A):Bool:=match q with
 | .tup [.int i,.int j]=>decide (xs.getD (i-1).toNat 0>xs.getD (j-1).toNat 0)
 | _=>false
def Vo{S:iN}{n:Nat}{xs:ae}(hlen:xs.length=n)(h2:n<=20) :
  ∃(P:Nat) (S':iN),lC [.tup<|xs.map .int] S=.ok (.ref P) S'/\iL S' P=some ((prs n).filter<|wg xs)/\m9 S S'/\S.length<=P:=by
 have eq:=xX (S:=S) (n:=(n:Int)) () ();have hL:iL (S++[O.lst<|prs n]) S.length=some (prs n):=i8;obtain⟨S',g1,g2⟩:=vE (s:=mR S.length (prs n).length) (g:=Ed 2<|uP (jW 0)<|uP (jW 1)<|EY) (t:=qS<|iU IM (iU qy (iK 2)<|iU aSub (iK 0)<|eC<|.int 1)<|iU qy (iK 2)<|iU aSub (iK 1)<|eC<|.int 1) (e:=qj<|iI (iK 0)<|iI (iK 1)<|iW)
  (P:=λS1=>S1=S++[O.lst<|prs n]) (T:=λτ'=>∃y z,τ'=[y,z,.tup<|xs.map .int])
  (λi=>(prs n).getD i .unb) (λi=>wg xs<|(prs n).getD i .unb) (λi=>(prs n).getD i .unb)
  (λi S1 hi k=>by
   have hi:i<(prs n).length:=hi;show(iL S1 S.length).bind _=_;rw[k,hL,bT,aL,aG hi];rfl)
  (λS1 k=>by
   show(match iL S1 S.length with
    | some ys=>decide (ys.length<=(prs n).length)
    | none=>false)=true
   rw[k,hL];simp)
  (λi τ' S1 hi ⟨y,z,hy⟩ k=>by
   have hi:i<(prs n).length:=hi;subst hy k;have hm:(prs n).getD i .unb∈prs n:=by rw[aL,aG hi];exact d9 hi
   obtain⟨a,c,q1,q2,q3,eac⟩:=EJ.mp hm;rw[eac];have x1:oq (xs.map A.int) (a-1)=some (.int<|xs.getD (a-1).toNat 0):=Wu () ();have x2:oq (xs.map A.int) (c-1)=some (.int<|xs.getD (c-1).toNat 0):=Wu () ();refine⟨[.int a,.int c,.tup<|xs.map .int],S++[O.lst<|prs n],S++[O.lst<|prs n],by dsimp[jx,bools,jO<|show([_,_]:ad).length=2 from rfl],by dsimp[jx,bools,x1,x2];rfl,⟨_,_,rfl⟩,λ_=>rfl,λ_=>⟨_,by dsimp[jx,bools,AJ<|show([_,_]:ad).length<=16777216 by simp],rfl⟩⟩)
  (prs n).length 0 (oi [none,none,some 0] [.tup<|xs.map .int]) (S++[O.lst<|prs n]) rfl ⟨_,_,rfl⟩ rfl
 subst g2;have ef:=pX (prs n) (wg xs) (λq=>q) .unb;rw[c7,List.map_id']at ef;rw[ef]at g1;have ll:=FH (n:=(n:Int)) () ();refine⟨_,(S++[O.lst<|prs n])++[.lst<|(prs n).filter<|wg xs],?_,i8,Kp.refl.lay.lay,by rw[bh];lia⟩;have ec:lY [none,none,some 0] (sR<|eFn jM<|iI (jk (f1 mT)<|iI (iK 0)<|iW)<|iW) (Ed 2<|uP (jW 0)<|uP (jW 1)<|EY) (qS<|iU IM (iU qy (iK 2)<|iU aSub (iK 0)<|eC<|.int 1)<|iU qy (iK 2)<|iU aSub (iK 1)<|eC<|.int 1) (qj<|iI (iK 0)<|iI (iK 1)<|iW) [.tup<|xs.map .int] S=.ok (.ref (S++[O.lst<|prs n]).length) ((S++[O.lst<|prs n])++[.lst<|(prs n).filter<|wg xs]):=by
  unfold lY;rw[yg (S1:=S++[O.lst<|prs n]) (by dsimp[jx,bools,aM,hlen,eq]) hL,R.oH];show R.mG (nM (mR S.length (prs n).length) _ _ _ (prs n).length 0 _ _) _=_;rw[g1,R.mS,kK<|bW (gp _ _) ll]
 unfold lC pI oZ;dsimp[jx,bools,jD,Nat.reduceAdd,Nat.reduceSub,ec]
def S_{n:Nat}{xs:ae}(hlen:xs.length=n)(h2:n<=20):∃S',nV [.tup<|xs.map .int] S=.ok (.int (((prs n).filter<|wg xs).length:Int)) S'/\m9 S S':=by
 obtain⟨P,S1,e1,g1,k1,_⟩:=Vo (S:=S) hlen h2;unfold nV yf we;dsimp[jx,bools,jD,Nat.reduceAdd,Nat.reduceSub,e1,g1];exact⟨_,rfl,k1⟩
abbrev B7 (i hi:Int):ad:=(jm (i+1) hi).map λj=>.tup [.int i,.int j]
def Mx(n:Nat):prs n=(jm 1 (n:Int)).flatMap λi=>B7 i ((n:Int)+1):=rfl
open Bl
def Lq{xs:ae}{i:Nat}(h:i<=xs.length):(jm ((i:Int)+1)<|(xs.length:Int)+1).map (λj=>xs.getD (j-1).toNat 0)=xs.drop i:=by
 apply cI;intro p;rw[bg,fH];by_cases c:i+p<xs.length
 ·have:(jm ((i:Int)+1)<|(xs.length:Int)+1)[p]?=some ((i:Int)+1+p):=by
   unfold jm;rw[bg,cj ()];rfl
  rw[this];show some (xs.getD ((i:Int)+1+p-1).toNat 0)=_;rw[show((i:Int)+1+p-1).toNat=i+p by lia,<- Iv.Er c]
 ·rw[bJ<|by rw[kT];lia,bJ ()];rfl
def PJ{xs:ae}{i:Nat}(h:i<xs.length):((B7 ((i:Int)+1)<|(xs.length:Int)+1).filter<|wg xs).length=(xs.drop<|i+1).countP λy=>decide (y<xs.getD i 0):=by
 rw[<- Lq (xs:=xs) (i:=i+1) (),List.countP_map,<- List.countP_eq_length_filter];unfold B7;rw[List.countP_map,show(((i+1:Nat):Int))=(i:Int)+1 by lia];refine List.countP_congr λj _=>?_;show wg xs (.tup [.int<|(i:Int)+1,.int j])=true ↔ decide (xs.getD (j-1).toNat 0<xs.getD i 0)=true;show decide (xs.getD ((i:Int)+1-1).toNat 0>xs.getD (j-1).toNat 0)=true ↔ _;rw[show((i:Int)+1-1).toNat=i by lia]
theorem Bo{xs:ae}:∀(k i:Nat),i+k=xs.length->(((List.range' i k).flatMap λq:Nat=>B7 ((q:Int)+1)<|(xs.length:Int)+1).filter<|wg xs).length=Iv.inv (xs.drop i)
 | 0,i,h=>by rw[List.drop_of_length_le ()];rfl
 | k+1,i,h=>by
  have hi:i<xs.length:=()
  rw[ff,eW,List.filter_append,bh,PJ hi,Bo k (i+1) ()];have:xs.drop i=xs.getD i 0::xs.drop (i+1):=by
   rw[bV hi];congr 1;have:=Iv.Er hi;rw[aG hi]at this;exact aS this
  rw[this];rfl
def Uh{xs:ae}{n:Nat}(hl:xs.length=n)(h1:1<=n):((prs n).filter<|wg xs).length=Iv.inv xs:=by
 have h:=Bo (xs:=xs) n 0 ();rw[List.drop_zero]at h;rw[<- h,Mx,hl];have e:(jm 1 (n:Int)).flatMap (λi=>B7 i<|(n:Int)+1)=(List.range' 0 n).flatMap λq:Nat=>B7 ((q:Int)+1) ((n:Int)+1):=by
  obtain⟨m,rfl⟩:∃m,n=m+1:=⟨n-1,()⟩;rw[List.range'_concat,List.flatMap_append];have z:B7 (((0+1 * m:Nat):Int)+1) (((m+1:Nat):Int)+1)=[]:=by
   unfold B7 jm;rw[show(((m+1:Nat):Int)+1-((((0+1 * m:Nat):Int)+1)+1)).toNat=0 by lia];rfl
  rw[eW,z];unfold jm;rw[show(((m+1:Nat):Int)-1).toNat=m by lia,List.flatMap_map,c7];dsimp[List.flatMap_nil,bK];congr 1
  funext q
  rw[Int.add_comm]
 rw[e]
end K37
namespace K37
open PySem L2 Am
open Bl
def nF{xs ys:ae}(h:xs.length=ys.length):jP [.tup<|xs.map .int,.tup<|ys.map .int] S=.ok .non S:=by
 unfold jP oJ oM;dsimp[jx,mJ,bools,jD,Nat.reduceAdd,Nat.reduceSub,aM,h,bM,cC]
def MQ{L:Nat}{ms:ae}(hL:iL S L=some (ms.map .int))(hp:∃m∈ms,0<m)(hms:ms.length<=1000):∃j:Nat,jE [.ref L] S=.ok (.int<|(j:Int)+1) S/\(∃m,ms[j]?=some m/\0<m)/\∀(k:Nat) (m:Int),k<j->ms[k]?=some m->m<=0:=by
 unfold jE kY kU;dsimp[jx,mJ,bools,jD,Nat.reduceAdd,Nat.reduceSub];refine tU (λτ S'=>S'=S/\∃p:Nat,p<ms.length/\τ=[.ref L,.int<|(p:Int)+1]/\∀(k:Nat) (m:Int),k<p->ms[k]?=some m->m<=0)
  (λτ _=>match τ with
   | [_,.int i]=>(ms.length+1)-i.toNat
   | _=>0)
  (λr=>∃j:Nat,RS.end (RS.seq r _)=.ok (.int<|(j:Int)+1) S/\(∃m,ms[j]?=some m/\0<m)/\∀(k:Nat) (m:Int),k<j->ms[k]?=some m->m<=0) ?_ 1000000 _ _ ⟨rfl,0,?_,rfl,λk m hk=>absurd hk<|eG _⟩ ?_
 ·rintro τ S' ⟨rfl,p,hpl,rfl,hall⟩;have ha:oq (ms.map A.int) ((p:Int)+1-1)=some (.int ms[p]):=tB (k:=p) ()<|aG hpl;unfold mE mH;dsimp[jx,mJ,bools,hL,ha];by_cases h0:ms[p]<=0
  ·right;refine⟨S',by rw[a_ h0],.inl ⟨_,_,rfl,⟨rfl,p+1,?_,c6 (λz=>[A.ref L,A.int z]) (),λk m hk hm=>?_⟩,?_⟩⟩
   ·obtain⟨m,hm,hm0⟩:=hp;obtain⟨k,hk,e⟩:=gG.mp hm;have:¬k<=p:=λhkp=>by
     rcases lt_or_ge k p with h|h
     ·have:=hall k m h (by rw[aG hk,e])
      lia
     ·have:k=p:=()
      subst this
      lia
    lia
   ·rcases lt_or_ge k p with h|h
    ·exact hall k m h hm
    ·have:k=p:=()
     subst this;rw[aG hpl]at hm
     cases hm
     exact h0
   ·show ms.length+1-((p:Int)+1+1).toNat<ms.length+1-((p:Int)+1).toNat
    lia
  ·left;refine⟨S',by rw[aW h0],p,by dsimp[jx,mJ,bools],⟨ms[p],aG hpl,()⟩,hall⟩
 ·obtain⟨m,hm,_⟩:=hp;exact List.length_pos_of_mem hm
 ·show ms.length+1-(1:Int).toNat<1000000
  lia
def Cu{f:A->A->iN->R A}{d:Int}(hf:∀(m:Int) S,f (.int m) (.int 1) S=.ok (.int<|m+d) S){src:Ic}{L:Nat}{ms:ae}{x:Int}{Post:RS->Prop}(hx0:0<=x)(hx:x<=ms.length)
  (hsrc:src [a0,a1,.ref L,a3,a4] S=.ok (kE 0 x) S) (hL:iL S L=some (ms.map .int)) (fin:∀a4' S',iL S' L=some ((lB x.toNat d ms).map .int)->Kp (·=L) S S'->Post (.nx [a0,a1,.ref L,a3,a4'] S')) :
  Post (nU src (jW 4) (ya (iK 2) (iK 4) (eC<|.int 1) f) [a0,a1,.ref L,a3,a4] S):=by
 refine vg (lo:=0) (hi:=x) hsrc (λi τ S'=>∃a4',τ=[a0,a1,.ref L,a3,a4']/\iL S' L=some ((lB i d ms).map .int)/\Kp (·=L) S S') Post ⟨a4,rfl,hL,Kp.refl⟩ ?_ ?_
 ·rintro i τ S' hi ⟨a4',rfl,hL',hk⟩;left;have hi':i<ms.length:=()
  have e1:((lB i d ms).map A.int)[((0:Int)+(i:Int)).toNat]?=some (.int ms[i]):=by
   rw[show((0:Int)+(i:Int)).toNat=i by lia,bg,rR,aG hi'];simp
  have e2:vV (lB i d ms).length (0+(i:Int))=some i:=qz () (by rw[uz];exact hi');have lL:=qk hL';dsimp[jx,mJ,bools,hL',jO<|show(0:Int)<=0+(i:Int)by lia,e1,hf,aM,e2];refine⟨_,_,rfl,_,rfl,?_,hk.set<|.inl rfl⟩;rw[kJ lL,<- yi i d ms ms[i] (aG hi'),dX]
 ·rintro τ S' ⟨a4',rfl,hL',hk⟩;exact fin a4' S' (by rw[Int.sub_zero]at hL';exact hL') hk
abbrev P_ (xs ys:ae)(i j:Nat):Prop:=cnt (ys.take i) j<cnt (xs.take i) j/\(∀i' j':Nat,i'<i->1<=j'->j'<=xs.length->cnt (xs.take i') j'<=cnt (ys.take i') j')/\∀j':Nat,1<=j'->j'<j->cnt (xs.take i) j'<=cnt (ys.take i) j'
def Sy{xs ys:ae}{n:Nat}(px:xs.Perm<|jm 1<|(n:Int)+1)(py:ys.Perm<|jm 1<|(n:Int)+1)(h1:1<=n)(h2:n<=20):∃S',((zz [.tup<|xs.map .int,.tup<|ys.map .int] S=.ok .non S'/\Below xs ys) \/
  ∃i j:Nat,zz [.tup<|xs.map .int,.tup<|ys.map .int] S=.ok (.tup [.int i,.int j]) S'/\1<=i/\i<=n/\1<=j/\j<=n/\P_ xs ys i j)/\m9 S S':=by
 have lx:xs.length=n:=by have:=CA px ();lia
 have ly:ys.length=n:=by have:=CA py ();lia
 unfold zz Jm Lm;dsimp[jx,mJ,bools,jD,Nat.reduceAdd,Nat.reduceSub,nF (S:=S)<|lx.trans ly.symm,aM,lx];rw[VP (k:=n) i8 ()];dsimp[jx,mJ,bools];have hlen:(S++[O.lst [.int 0]]).length=S.length+1:=by simp
 rw[hlen];refine vg (lo:=0) (hi:=(n:Int)) (S1:=S++[O.lst [.int 0]]++[O.lst<|List.replicate n<|.int 0]) ?_
  (λt τ S'=>∃a3 a4,τ=[.tup<|xs.map .int,.tup<|ys.map .int,.ref<|S.length+1,a3,a4]/\iL S' (S.length+1)=some ((p8 n xs ys t).map .int)/\m9 S S'/\∀i' j':Nat,i'<=t->1<=j'->j'<=n->cnt (xs.take i') j'<=cnt (ys.take i') j')
  (λr=>∃S',((RS.end (RS.seq r _)=.ok .non S'/\Below xs ys)\/∃i j:Nat,RS.end (RS.seq r _)=.ok (.tup [.int i,.int j]) S'/\1<=i/\i<=n/\1<=j/\j<=n/\P_ xs ys i j)/\m9 S S') ⟨.unb,.unb,rfl,?_,Kp.refl.lay.lay,?_⟩ ?_ ?_
 ·refine pZ ?_<|lZ () ();dsimp[jx,mJ,bools,aM,lx]
 ·rw[Pz,List.map_replicate,<- hlen];exact i8
 ·intro i' j' hi _ _;have:i'=0:=()
  subst this;simp[cnt]
 ·rintro t τ S' ht ⟨a3,a4,rfl,hL,hk,hok⟩;have ht':t<n:=()
  have hx:t<xs.length:=()
  have hy:t<ys.length:=()
  have mx:=CQ px<|d9 hx;have my:=CQ py<|d9 hy;have ax:oq (xs.map A.int) (0+(t:Int))=some (.int xs[t]):=tB (k:=t) ()<|aG hx;have ay:oq (ys.map A.int) (0+(t:Int))=some (.int ys[t]):=tB (k:=t) ()<|aG hy;unfold Ft;dsimp[jx,mJ,bools];obtain⟨a4',S2,e2,hL2,hk2⟩:=Cu (f:=Hw) (d:=1) (ms:=p8 n xs ys t) (x:=xs[t]) (src:=Gk) (a0:=.tup<|xs.map .int) (a1:=.tup<|ys.map .int) (a3:=.int<|0+(t:Int)) (a4:=a4) (Post:=λr=>∃a4' S2,r=.nx [.tup<|xs.map .int,.tup<|ys.map .int,.ref<|S.length+1,.int<|0+(t:Int),a4'] S2/\iL S2 (S.length+1)=some ((lB xs[t].toNat 1 (p8 n xs ys t)).map .int)/\Kp (·=S.length+1) S' S2) (λ_ _=>rfl) () (by rw[mX];lia)
   (pZ (by dsimp[jx,mJ,bools,ax])<|lZ () ()) hL (λa4' S2 h1 h2=>⟨a4',S2,rfl,h1,h2⟩)
  obtain⟨a4'',S3,e3,hL3,hk3⟩:=Cu (f:=aSub) (d:=-1) (ms:=lB xs[t].toNat 1 (p8 n xs ys t)) (x:=ys[t]) (src:=EZ) (a0:=.tup<|xs.map .int) (a1:=.tup<|ys.map .int) (a3:=.int<|0+(t:Int)) (a4:=a4') (Post:=λr=>∃a4'' S3,r=.nx [.tup<|xs.map .int,.tup<|ys.map .int,.ref<|S.length+1,.int<|0+(t:Int),a4''] S3/\iL S3 (S.length+1)=some ((lB ys[t].toNat (-1) (lB xs[t].toNat 1 (p8 n xs ys t))).map .int)/\Kp (·=S.length+1) S2 S3) (λ_ _=>rfl) () (by rw[uz,mX];lia)
   (pZ (by dsimp[jx,mJ,bools,ay])<|lZ () ()) hL2 (λa4' S2 h1 h2=>⟨a4',S2,rfl,h1,h2⟩)
  rw[CV hx hy]at hL3;have hk':m9 S S3:=(hk.old hk2 λn hn _=>()).old hk3 λn hn _=>()
  obtain⟨m,em,m1,m2⟩:=LO hL3 (by intro z;have:=c6 List.length z;rw[mX]at this;simp at this;lia);dsimp[mJ,show G3=ya (iK 2) (iK 4) (eC<|.int 1) Hw from rfl,show F7=ya (iK 2) (iK 4) (eC<|.int 1) aSub from rfl,e2,e3,jx,bools,em];by_cases hm:0<m
  ·right;rw[a_ hm];obtain⟨j,ej,⟨mj,hj1,hj2⟩,hj3⟩:=MQ hL3 ⟨m,m1,hm⟩ (by rw[mX];lia);dsimp[jx,mJ,bools,ej,AJ<|show([_,_]:ad).length<=16777216 by simp];have hjn:j<n:=by
    have:=(aI.mp hj1).1
    rwa [mX]at this
   refine⟨_,_,rfl,S3,.inr ⟨t+1,j+1,?_,(),(),(),(),?_,?_,?_⟩,hk'⟩
   ·have e5:(0:Int)+(t:Int)+1=((t+1:Nat):Int):=()
    have e6:(j:Int)+1=((j+1:Nat):Int):=()
    rw[e5,e6]
   ·rw[qh hjn]at hj1
    cases hj1
    have:((j+1:Nat):Int)=(j:Int)+1:=()
    rw[this]
    lia
   ·intro i' j' hi' h1' h2';exact hok i' j' () h1' ()
   ·intro j' h1' h2';have:=hj3 (j'-1) _ ()<|qh ();rw[show(((j'-1:Nat):Int)+1)=(j':Int)by lia]at this
    lia
  ·left;rw[aW hm];dsimp[jx,mJ,bools];refine⟨_,_,rfl,_,_,rfl,hL3,hk',λi' j' hi' h1' h2'=>?_⟩;by_cases hi:i'<=t
   ·exact hok i' j' hi h1' h2'
   ·have:i'=t+1:=()
    subst this;have:=m2 _<|aX<|qh (n:=n) (xs:=xs) (ys:=ys) (t:=t+1) (j:=j'-1) ();rw[show(((j'-1:Nat):Int)+1)=(j':Int)by lia]at this
    lia
 ·rintro τ S' ⟨a3,a4,rfl,hL,hk,hok⟩;refine⟨S',.inl ⟨by dsimp[jx,mJ,bools],?_⟩,hk⟩;refine(Hq px py).mp λi q hi hq=>?_;have:=hok (i+1) (q+1) () () ();exact this
def BS{xs ys:ae}{n:Nat}(px:xs.Perm<|jm 1<|(n:Int)+1)(py:ys.Perm<|jm 1<|(n:Int)+1)(h1:1<=n)(h2:n<=20):∃(k:Bool) (S':iN),kj [.tup<|xs.map .int,.tup<|ys.map .int] S=.ok (.bl k) S'/\(k=true ↔ Below xs ys)/\m9 S S':=by
 obtain⟨S',h|⟨i,j,e,i1,i2,j1,j2,h,_⟩,hk⟩:=Sy (S:=S) px py h1 h2
 ·refine⟨true,S',?_,⟨λ_=>h.2,λ_=>rfl⟩,hk⟩;unfold kj qw qA;dsimp[jx,mJ,bools,jD,Nat.reduceAdd,Nat.reduceSub,h.1]
 ·refine⟨false,S',?_,⟨λz=>absurd z bG,λz=>?_⟩,hk⟩
  ·unfold kj qw qA;dsimp[jx,mJ,bools,jD,Nat.reduceAdd,Nat.reduceSub,e]
  ·have:=z i j
   lia
def Od{xs ys:ae}(h:xs.length≠ys.length)(h1:xs.length<=1000)(h2:ys.length<=1000):jP [.tup<|xs.map .int,.tup<|ys.map .int] S=.ex "NoPair" S:=by
 unfold jP oJ oM;have e:((xs.length:Int) == (ys.length:Int))=false:=by
  rw[di];lia
 dsimp[jx,mJ,bools,jD,Nat.reduceAdd,Nat.reduceSub,aM,e,c8,Qn<|show xs.length<18446744073709551616 by lia,Qn<|show ys.length<18446744073709551616 by lia]
theorem yh:∀(l:ae) (j:Nat) (h:j<l.length),(l[j]::l.eraseIdx j).Perm l
 | x::l,0,_=>gY _
 | x::l,j+1,h=>(List.Perm.swap x _ _).trans<|List.Perm.cons x<|yh l j<|f_ h
def Ie{ls fs:ae}{j:Nat}(h:j<ls.length):((fs++[ls[j]])++ls.eraseIdx j).Perm (fs++ls):=by
 rw[bO];refine List.Perm.append_left fs ?_
 skip
 exact yh ls j h
def KD{d:Int}{n:Nat}(h0:0<=d)(h:d.toNat<n):seqIndex? d n=some d.toNat:=by
 unfold seqIndex?;simp
 lia
theorem uC{α β:Type}(f:α->β):∀(l:List α) (k:Nat),(l.map f).eraseIdx k=(l.eraseIdx k).map f
 | [],_=>rfl
 | _::_,0=>rfl
 | x::l,k+1=>c6 (f x::·)<|uC f l k
def tM{n:Int}(h:IL S b)(h1:1<=n)(h2:n<=20):∃(xs:ae) (S':iN),j8 [.ref b,.int n] S=.ok (.tup<|xs.map .int) S'/\xs.Perm (jm 1<|n+1)/\IL S' b/\Kp (·=b) S S':=by
 have hbS:b<S.length:=by obtain⟨_,_,e,_⟩:=h;exact qk e
 unfold j8 qM qJ;dsimp[jx,bools,jD,Nat.reduceAdd,Nat.reduceSub,yD<|xV (show(-1000000:Int)<=1 by decide) ⋯ (show -1000000<=n+1 by lia) () (),bh];have key:=tU (t:=oU) (c:=oR)
  (λτ S1=>∃(ls fs:ae),τ=[.ref b,.int n,.ref S.length,.ref<|S.length+1]/\iL S1 S.length=some (ls.map .int)/\iL S1 (S.length+1)=some (fs.map .int)/\(fs++ls).Perm (jm 1<|n+1)/\IL S1 b/\Kp (·=b) S S1)
  (λτ S1=>((iL S1 S.length).getD []).length)
  (λr=>∃(xs:ae) (S':iN),RS.end (RS.seq r<|ku<|jk (f1 qx)<|iI (iK 3) iW)=.ok (.tup<|xs.map .int) S'/\xs.Perm (jm 1<|n+1)/\IL S' b/\Kp (·=b) S S') ?_ 1000000
 ·refine key _ _ ⟨jm 1<|n+1,[],rfl,jy i8,?_,gY _,h.kp (c:=λ_=>False) (Kp.refl.lay.lay) λz=>z,Kp.refl.lay.lay⟩ ?_
  ·have:iL (S++[.lst<|(jm 1<|n+1).map .int]++[.lst []]) (S++[O.lst<|(jm 1<|n+1).map .int]).length=some []:=i8;simpa using this
  ·rw[jy i8,d7,aM,kT]
   lia
 ·rintro τ S1 ⟨ls,fs,rfl,hL,hF,hp,hb,hk⟩;have hlen:fs.length+ls.length<=20:=by
   have:=hp.length_eq;rw[bh,kT]at this
   lia
  unfold oU oR;dsimp[jx,bools,hL,aM];by_cases h0:ls=[]
  ·subst h0;left;exact⟨S1,rfl,fs,S1,by dsimp[jx,bools,hF],by simpa using hp,hb,hk⟩
  ·right;have hpos:0<ls.length:=List.length_pos_iff.mpr h0;refine⟨S1,by rw[a_<|show(0:Int)<(ls.length:Int)by lia],.inl ?_⟩;obtain⟨d,S2,e2,d0,d1,hb2,hk2⟩:=digit (m:=(ls.length:Int)) hb () ();have hL2:=hk2.lst S.length _ () hL;have hF2:=hk2.lst (S.length+1) _ () hF;have hd:d.toNat<ls.length:=()
   have lF:=qk hF2;have lL:=qk hL2;have hsq:seqIndex? d ls.length=some d.toNat:=KD d0 hd;have hF3:iL (S2.set S.length<|.lst<|(ls.map A.int).eraseIdx d.toNat) (S.length+1)=some (fs.map .int):=by rw[nN ()];exact hF2
   dsimp[jx,bools,hL,hF,aM,e2,hL2,C2,jO<|show -(2 ^ 63:Int)<=d/\d<2 ^ 63 by lia,hsq,bg,aG hd,dh,hF3,Fj<|show fs.length<16777216 by lia];refine⟨_,_,rfl,⟨ls.eraseIdx d.toNat,fs++[ls[d.toNat]],rfl,?_,?_,(Ie hd).trans hp,?_,?_⟩,?_⟩
   ·rw[nN (),kJ lL,uC]
   ·rw[kJ<|by rw[bN];exact lF,cF];rfl
   ·obtain⟨g,st,e,q⟩:=hb2;exact⟨g,st,by rw[nN (),nN ()];exact e,q⟩
   ·exact((hk.trans hk2).set<|.inr<|aO _).set (.inr ())
   ·rw[nN (),kJ lL,d7,d7,uC,aM,aM,List.length_eraseIdx_of_lt hd];lia
end K37
namespace K37
open PySem L2 Am
open Bl
open Po (Pl Ok)
open Hz (IsR)
open Fw (rg)
def CY{N k:Nat}(h1:1<=k)(h2:k<N):decide ((k:Int)∈fl o N)=Su.lW o k:=by
 unfold fl Su.lW;rw[gz,dg,jX,fU,show((k:Int)-1).toNat=k-1 by lia,fS];constructor
 ·exact λh=>h.2
 ·exact λh=>⟨⟨(),()⟩,h⟩
def lq{N:Nat}{o:ae}(h:o.Perm<|rg N):o.length=N:=by rw[h.length_eq,Wd.iZ]
def LP{k:kO}{v:A}:∀{kvs:List<|kO×A},mw (rm kvs k v) k=some v:=by
 intro kvs;unfold rm;split
 ·rename_i h;revert h
  induction kvs with
  | nil=>intro h;exact absurd h (show ¬(none:Option A).isSome=true by simp)
  | cons p r ih=>
   intro h;rw[bQ];by_cases c:p.1=k
   ·rw[aJ c,rJ (p:=(p.1,v)) c]
   ·rw[aK c,pY c];rw[pY c]at h;exact ih h
 ·rename_i h
  induction kvs with
  | nil=>exact rJ rfl
  | cons p r ih=>
   by_cases c:p.1=k
   ·rw[rJ c]at h;exact absurd rfl h
   ·rw[iz,pY c];rw[pY c]at h;exact ih h
def Mb{k:kO}{v:A}{kvs:List<|kO×A}{p:kO×A}(h:p∈rm kvs k v):p∈kvs\/p=(k,v):=by
 unfold rm at h;split at h
 ·obtain⟨q,hq,rfl⟩:=b_.mp h;by_cases c:q.1=k
  ·rw[aJ c,c];exact .inr rfl
  ·rw[aK c];exact .inl hq
 ·rcases bF.mp h with z|z
  ·exact .inl z
  ·exact .inr<|bC.mp z
def Kc{k:kO}{v:A}{kvs:List<|kO×A}:(rm kvs k v).length<=kvs.length+1:=by
 unfold rm;split
 ·rw[aM];lia
 ·rw[bh];exact aO _
def Kw{k:kO}{v:A}{kvs:List<|kO×A}(h:mw kvs k=some v):(k,v)∈kvs:=by
 unfold mw at h;obtain⟨p,hp,e⟩:=bz.mp h;have h1:=List.mem_of_find?_eq_some hp;have h2:=List.find?_some hp;have h2:=bS h2;rw[<- h2,<- e];exact h1
def Ec{n:Nat}{d:List<|kO×A}(h:mO S n=some d)(h':iL S m=some xs):n≠m:=λz=>by
 subst z;have e1:=nK h;rw[i6 h']at e1
 cases e1
def Kp.n9{b:Nat->Prop}(h:Kp b S S')(n:Nat)(d:List<|kO×A)(hb:¬b n)(e:mO S n=some d):mO S' n=some d:=sM<|h.obj n _ hb<|nK e
def AB(x w:ae):yu (.tup [.tup<|x.map .int,.tup<|w.map .int])=some (x,w):=by
 unfold yu;dsimp only;rw[ints_map,ints_map];rfl
def KO{d:Nat}{x w:ae}:Mc true (.tup [.tup<|x.map .int,.tup<|w.map .int]) (.ref d) S=opt (mO S d) λkvs=>.ok (.bl<|!(mw kvs (x,w)).isSome) S:=by
 show opt (mO S d) (λkvs=>opt (yu _) _)=_;rw[AB];rfl
def J1{d:Nat}{x w:ae}:HF (.ref d) (.tup [.tup<|x.map .int,.tup<|w.map .int]) S=opt (mO S d) λkvs=>opt (mw kvs (x,w)) λv=>.ok v S:=by
 show opt (mO S d) (λkvs=>opt (yu _) _)=_;rw[AB];rfl
def Ou{d:Nat}{S:iN}{x w:ae}{v:A}:Cg (.ref d) (.tup [.tup<|x.map .int,.tup<|w.map .int]) v S=opt (mO S d) λkvs=>gd (kvs.length<sizeLine) (.ok Unit.unit<|S.set d<|.n9<|rm kvs (x,w) v):=by
 show opt (mO S d) (λkvs=>opt (yu _) _)=_;rw[AB];rfl
def qB{co ci:Ex}{a:A}:L6 co ci a τ S=(co τ S).bind λo S1=>(ci τ S1).bind λi S2=>(Cg o i a S2).bind λ_ S3=>.ok τ S3:=rfl
structure Kn (n:Nat)(S:iN)(d:Nat)(kvs:List (kO×A)):Prop where
 dd:mO S d=some kvs
 at_:∀p∈kvs,∃(r:Nat) (l:Pl),p.2=.ref r/\iL S r=some (Po.pl l)/\IsR n p.1.1 p.1.2 l
def Kn.kp{n d:Nat}(h:Kn n S d kvs)(k:m9 S S'):Kn n S' d kvs:=⟨Kp.n9 k _ _ (λz=>z) h.dd,λp hp=>by obtain⟨r,l,a,b,c⟩:=h.at_ p hp;exact⟨r,l,a,k.lst _ _ (λz=>z) b,c⟩⟩
def Kn.put{n d r:Nat}{kvs:List<|kO×A}{x w:ae}(h:Kn n S d kvs)(hl:kvs.length<16777216)(hr:iL S r=some (Po.pl l))(hi:IsR n x w l) :
  ∃(S':iN) (kvs':List<|kO×A),Cg (.ref d) (.tup [.tup<|x.map .int,.tup<|w.map .int]) (.ref r) S=.ok Unit.unit S'/\HF (.ref d) (.tup [.tup<|x.map .int,.tup<|w.map .int]) S'=.ok (.ref r) S'/\Kn n S' d kvs'/\iL S' r=some (Po.pl l)/\kvs'.length<=kvs.length+1/\Kp (·=d) S S':=by
 have k:Kp (·=d) S (S.set d<|.n9<|rm kvs (x,w)<|.ref r):=Kp.refl.NI<|.inl rfl;have dd:mO (S.set d<|.n9<|rm kvs (x,w)<|.ref r) d=some (rm kvs (x,w)<|.ref r):=sM<|bI<|xx<|nK h.dd;have kl:∀(q:Nat) (xs:ad),iL S q=some xs->iL (S.set d<|.n9<|rm kvs (x,w)<|.ref r) q=some xs:=λq xs hq=>k.lst _ _ (λz=>Ec h.dd hq z.symm) hq;refine⟨_,rm kvs (x,w)<|.ref r,?_,?_,⟨dd,λp hp=>?_⟩,kl _ _ hr,Kc,k⟩
 ·rw[Ou,h.dd,jv];exact Fj hl
 ·rw[J1,dd,jv,LP,jv]
 ·rcases Mb hp with z|z
  ·obtain⟨q,m,a,b,c⟩:=h.at_ p z;exact⟨q,m,a,kl _ _ b,c⟩
  ·rw[z];exact⟨r,l,rfl,kl _ _ hr,hi⟩
def Pb:∀p∈[((1:Int),(1:Int))],p.2.natAbs<big:=λp hp=>by
 rw[bC.mp hp,zS];exact show 1<2 ^ 4096 by decide +kernel
def OT{n:Nat}{x w:ae}{l:Pl}(h:IsR n x w l)(px:x.Perm<|rg n)(pw:w.Perm<|rg n)(hi:Iv.inv w<=100):∀p∈l,p.2.natAbs<big:=λp hp=>by
 obtain⟨_,_,a,b,_⟩:=h.keys px pw hp;have:(2:Nat) ^ Iv.inv w<=2 ^ 100:=Nat.pow_le_pow_right ⋯ hi;have b1:(2:Nat) ^ 100<big:=by rw[zS];exact Nat.pow_lt_pow_right ⋯ ⋯
 lia
def CC{x w:ae}:rZ false (.tup<|x.map .int) (.tup<|w.map .int) S=.ok (.bl<|decide<|x=w) S:=zY (by
 show sZ (yp S 11) (x.map .int) (w.map .int)=_;exact yU x w)
def zF{α:Type}{x:R α}:gd (2<=sizeLine) x=x:=jO ⋯
theorem xj{n d:Nat}(h1:1<=n)(h2:n<=8):∀(f:Nat) {S:iN}{kvs:List<|kO×A}{x w:ae},Iv.inv w<f->f<=22->x.Perm (rg n)->w.Perm (rg n)->Kn n S d kvs->kvs.length+2 ^ (Iv.inv w+1)<=8388608 ->
  ∃(r:Nat) (S':iN) (kvs':List<|kO×A) (l:Pl),kF f [.tup<|x.map .int,.tup<|w.map .int,.ref d] S=.ok (.ref r) S'/\Kn n S' d kvs'/\iL S' r=some (Po.pl l)/\IsR n x w l/\kvs'.length+1<=kvs.length+2 ^ (Iv.inv w+1)/\Kp (·=d) S S'
 | 0,S,kvs,x,w,hf,_,_,_,_,_=>absurd hf (eG _)
 | f+1,S,kvs,x,w,hf,hf2,px,pw,hK,hb=>by
  have lx:=lq px;have lw:=lq pw;show ∃(r:Nat) (S':iN) (kvs':List<|kO×A) (l:Pl),jQ kC (ko<|kF f) [.tup<|x.map .int,.tup<|w.map .int,.ref d] S=.ok (.ref r) S'/\_;have two:2<=2 ^ (Iv.inv w+1):=by rw[pow_succ];have:=Nat.one_le_two_pow (n:=Iv.inv w);lia
  have i1:Mc true (.tup [.tup<|x.map .int,.tup<|w.map .int]) (.ref d) S=.ok (.bl<|!(mw kvs (x,w)).isSome) S:=by rw[KO,hK.dd,jv]
  unfold ko kC
  cases hL:mw kvs (x,w)with
  | some v=>
   obtain⟨r,l,rfl,b,c⟩:=hK.at_ _<|Kw hL;have x1:HF (.ref d) (.tup [.tup<|x.map .int,.tup<|w.map .int]) S=.ok (.ref r) S:=by rw[J1,hK.dd,jv,hL,jv]
   rw[hL]at i1;refine⟨r,S,kvs,l,?_,hK,b,c,(),Kp.refl⟩;dsimp[jx,mJ,bools,jD,Nat.reduceAdd,Nat.reduceSub,zF,i1,isSome_some,cC,x1]
  | none=>
   rw[hL]at i1;by_cases e:x=w
   ·subst e;have k1:m9 S (S++[O.lst<|Po.pl [(0,1)]]):=Kp.refl.lay;obtain⟨S',kvs',e1,x1,n1,l1,b1,kp⟩:=(hK.kp k1).put (x:=x) (w:=x) (r:=S.length) () i8<|Hz.C_ px;refine⟨S.length,S',kvs',_,?_,n1,l1,Hz.C_ px,(),k1.of0.trans kp⟩;have eq:=CC (S:=S) (x:=x) (w:=x);rw[a_ rfl]at eq;rw[show Po.pl [((0:Int),(1:Int))]=[A.tup [.int 0,.int 1]]from rfl]at e1;dsimp[jx,mJ,bools,jD,Nat.reduceAdd,Nat.reduceSub,zF,i1,fK,c8,eq,qB,e1,x1]
   ·have eq:=CC (S:=S) (x:=x) (w:=w);rw[aW e]at eq;obtain⟨k,S1,e1,hk,k1⟩:=BS (S:=S) px pw h1 ();have i2:=i1;by_cases hbl:Below x w
    ·rw[hk.mpr hbl]at e1;have fo:=BU (S:=S1) (xs:=w) (n:=n) lw ();obtain⟨c,t,ft⟩:∃c t,fl w n=c::t:=by
      cases hfl:fl w n with
      | cons c t=>exact⟨c,t,rfl⟩
      | nil=>
       exfalso;have wr:w=rg n:=Fw.Bb pw λk hk=>by
        have:=CY (o:=w) (N:=n) (k:=k) hk.1 (by rw[<- lw];exact hk.2.1);rw[hfl]at this;have f1:Su.lW w k=true:=a_ hk.2.2;rw[f1]at this;exact absurd (bS this)<|by simp
       subst wr;obtain⟨js,hj⟩:=Fw.zx _ x<|aO _;exact e<|Below.antisymm px.length_eq hbl<|Gr.qH js px hj
     obtain⟨k,rfl,c1,c2,c3⟩:∃k:Nat,c=(k:Int)/\1<=k/\k<n/\Su.lW w k=true:=by
      have hc:c∈fl w n:=by rw[ft];exact aN ..
      have hr:=jX.mp (dg.mp hc).1;have ek:c=(c.toNat:Int):=()
      refine⟨c.toNat,ek,(),(),?_⟩;rw[<- CY (N:=n) () (),<- ek];exact a_ hc
     obtain⟨S2,hS2⟩:∃S2,S2=S1++[O.lst<|(fl w n).map .int]:=⟨_,rfl⟩;have k2:m9 S1 S2:=by rw[hS2];exact Kp.refl.lay
     have l2:iL S2 S1.length=some (A.int k::t.map .int):=by rw[hS2,i8,ft];rfl
     rw[<- hS2]at fo;have hd:=Fw.pB c1 (show k<w.length by lia)<|bS c3;obtain⟨S3,x3,k3⟩:=Gv (S:=S2) (xs:=w) (k:=k) c1 () ();obtain⟨S4,x4,k4⟩:=Gv (S:=S3) (xs:=x) (k:=k) c1 () ();have k04:m9 S S4:=((k1.trans k2).trans k3).trans k4;have pe:=He.lH px c1 c2;have pw':=He.lH pw c1 c2;have pw2:2 ^ (Iv.inv w+1)=2 ^ (Iv.inv (Wd.ex w k)+1)+2 ^ (Iv.inv (Wd.ex w k)+1):=by rw[hd,pow_succ 2<|Iv.inv (Wd.ex w k)+1];lia
     obtain⟨r5,S5,kv5,l5,x5,n5,a5,q5,b5,k5⟩:=xj h1 h2 f (S:=S4) (kvs:=kvs) (x:=Wd.ex x k) (w:=Wd.ex w k) () () pe pw' (hK.kp k04) ();have fo6:=BU (S:=S5) (xs:=x) (n:=n) lx ();obtain⟨S6,hS6⟩:∃S6,S6=S5++[O.lst<|(fl x n).map .int]:=⟨_,rfl⟩;have k6:m9 S5 S6:=by rw[hS6];exact Kp.refl.lay
     have in6:XD false (.int k) (.ref S5.length) S6=.ok (.bl<|Su.lW x k) S6:=by
      show opt (iL _ _) _=_;rw[hS6,i8,jv,Hg,CY c1 c2];rfl
     rw[<- hS6]at fo6;have k06:Kp (·=d) S S6:=(k04.of0.trans k5).trans k6.of0
     cases hx:Su.lW x k with
     | true=>
      rw[hx]at in6;have iq:=Hz.Ve px pw c1 c2 c3 hx q5;obtain⟨S',kvs',e7,x7,n7,l7,b7,kp⟩:=(n5.kp k6).put (x:=x) (w:=w) () (k6.lst _ _ (λz=>z) a5) iq;refine⟨r5,S',kvs',l5,?_,n7,l7,iq,(),k06.trans kp⟩;dsimp[jx,mJ,bools,jD,Nat.reduceAdd,Nat.reduceSub,zF,i1,fK,c8,cC,eq,e1,qB];unfold jF;dsimp[jx,mJ,bools,jD,Nat.reduceAdd,Nat.reduceSub,zF,fo,l2,EG,x3,x4,x5,fo6,in6,qB,e7,x7]
     | false=>
      rw[hx]at in6;obtain⟨S7,hS7⟩:∃S7,S7=S6++[O.lst<|Po.pl [(1,1)]]:=⟨_,rfl⟩;have k7:m9 S6 S7:=by rw[hS7];exact Kp.refl.lay
      have l7:iL S7 S6.length=some (Po.pl [(1,1)]):=by rw[hS7];exact i8
      have k67:=k6.trans k7;obtain⟨r8,S8,kv8,l8,x8,n8,a8,q8,b8,k8⟩:=xj h1 h2 f (S:=S7) (kvs:=kv5) (x:=x) (w:=Wd.ex w k) () () px pw' (n5.kp k67) ();have len8:=q8.len px pw';have len5:=q5.len pe pw';have hd7:=(n5.kp k67).dd;have l7':iL S8 S6.length=some (Po.pl [(1,1)]):=k8.lst _ _ (λz=>Ec hd7 l7 z.symm) l7;have a5':iL S8 r5=some (Po.pl l5):=by
       have q:=k67.lst _ _ (λz=>z) a5;exact k8.lst _ _ (λz=>Ec hd7 q z.symm) q
      obtain⟨L9,S9,x9,a9,_,k9⟩:=Mr l7' a8 (by show 1 * l8.length<_;lia) Pb<|OT q8 px pw' ();have tl:(Po.times [(1,1)] l8).length<=l8.length:=bW (Su.IG _ _)<|Nat.le_of_eq<|Nat.one_mul _;obtain⟨La,Sa,xa,aa,_,ka⟩:=Py (k9.lst _ _ (λz=>z) a5') a9 q5.ok ();have k9a:=k9.trans ka;have iq:=Hz.Vw px pw c1 c2 c3 hx q5 q8;obtain⟨S',kvs',e7,x7,n7,l7,b7,kp⟩:=(n8.kp k9a).put (x:=x) (w:=w) () aa iq;refine⟨La,S',kvs',_,?_,n7,l7,iq,(),(((k06.trans k7.of0).trans k8).trans k9a.of0).trans kp⟩;dsimp[jx,mJ,bools,jD,Nat.reduceAdd,Nat.reduceSub,zF,i1,fK,c8,cC,eq,e1,qB];unfold jF;rw[show Po.pl [((1:Int),(1:Int))]=[A.tup [.int 1,.int 1]]from rfl]at hS7;dsimp[jx,mJ,bools,jD,Nat.reduceAdd,Nat.reduceSub,zF,fo,l2,EG,x3,x4,x5,fo6,in6];rw[<- hS7];dsimp[jx,mJ,bools,x8,x9,xa,qB,e7,x7]
    ·have kf:k=false:=by cases k with|false=>rfl|true=>exact absurd (hk.mp rfl) hbl
     rw[kf]at e1;have k2:m9 S (S1++[O.lst []]):=k1.lay;obtain⟨S',kvs',e2,x2,n2,l2,b2,kp⟩:=(hK.kp k2).put (x:=x) (w:=w) (r:=S1.length) (l:=[]) () i8<|Hz.Dv px pw hbl;refine⟨S1.length,S',kvs',_,?_,n2,l2,Hz.Dv px pw hbl,(),k2.of0.trans kp⟩;dsimp[jx,mJ,bools,jD,Nat.reduceAdd,Nat.reduceSub,zF,i1,fK,c8,cC,eq,e1,qB,e2,x2]
def vQ{n:Nat}{x:ae}(h1:1<=n)(h2:n<=8)(px:x.Perm<|rg n):∃S',nV [.tup<|x.map .int] S=.ok (.int (Iv.inv x:Int)) S'/\m9 S S':=by
 obtain⟨S',e,k⟩:=S_ (S:=S) (n:=n) (lq px) ();rw[Uh (lq px) h1]at e;exact⟨S',e,k⟩
def FA{n:Nat}{x w:ae}(h1:1<=n)(h2:n<=8)(px:x.Perm<|rg n)(pw:w.Perm<|rg n)(hi:Iv.inv w<=21)(hd:n<=5\/(Iv.inv w:Int)-Iv.inv x<=6):∃(r:Nat) (S':iN) (l:Pl),lQ [.tup<|x.map .int,.tup<|w.map .int] S=.ok (.ref r) S'/\iL S' r=some (Po.pl l)/\IsR n x w l/\m9 S S':=by
 have lx:=lq px;have lw:=lq pw;have np:=nF (S:=S) (show x.length=w.length by lia);obtain⟨S1,e1,k1⟩:∃S1,jh [.tup<|x.map .int,.tup<|w.map .int] S=.ok .non S1/\m9 S S1:=by
  by_cases c:n<=5
  ·refine⟨S,?_,Kp.refl⟩;have:jf [.tup<|x.map .int,.tup<|w.map .int,.int 5,.int 8,.int 6] S=.ok .non S:=by
    unfold jf jT jU;dsimp[jx,mJ,bools,jD,Nat.reduceAdd,Nat.reduceSub,aM,lx,a_<|show(n:Int)<=5 by lia]
   unfold jh j9 j_;dsimp[jx,mJ,bools,jD,Nat.reduceAdd,Nat.reduceSub,np,this]
  ·obtain⟨S1,a1,k1⟩:=vQ (S:=S) h1 h2 pw;obtain⟨S2,a2,k2⟩:=vQ (S:=S1) h1 h2 px;refine⟨S2,?_,k1.trans k2⟩;have hd:(Iv.inv w:Int)-Iv.inv x<=6:=by rcases hd with z|z;exact absurd z c;exact z
   have:jf [.tup<|x.map .int,.tup<|w.map .int,.int 5,.int 8,.int 6] S=.ok .non S2:=by
    unfold jf jT jU;dsimp[jx,mJ,bools,jD,Nat.reduceAdd,Nat.reduceSub,aM,lx,aW<|show ¬(n:Int)<=5 by lia,aW<|show ¬(n:Int)>8 by lia,a1,a2,aW<|show ¬(Iv.inv w:Int)-Iv.inv x>6 by lia]
   unfold jh j9 j_;dsimp[jx,mJ,bools,jD,Nat.reduceAdd,Nat.reduceSub,np,this]
 have hK:Kn n (S1++[.n9 []]) S1.length []:=⟨sM<|by simp,λp hp=>nomatch hp⟩;have pw2:2 ^ (Iv.inv w+1)<=2 ^ 22:=Nat.pow_le_pow_right ⋯ ();obtain⟨r,S',kvs',l,x2,n2,a2,q2,b2,k2⟩:=xj h1 h2 22 (S:=S1++[.n9 []]) (kvs:=[]) () (aO _) px pw hK (by dsimp[cQ];lia);refine⟨r,S',l,?_,a2,q2,(k1.lay (o:=.n9 [])).old k2 λq hq _ z=>by have:=k1.len;lia⟩;have x2:nu [.tup<|x.map .int,.tup<|w.map .int,.ref S1.length] (S1++[.n9 []])=.ok (.ref r) S':=x2;have dn:∀τ,Au τ S1=.ok (.ref S1.length) (S1++[.n9 []]):=λ_=>rfl;unfold lQ wo wR;dsimp[jx,mJ,bools,jD,Nat.reduceAdd,Nat.reduceSub,e1,dn,x2]
end K37
namespace K37
open PySem L2 Am
open Bl
open Fw (rg)
meta abbrev eN (b:Bool):Str:=bif b then PySem.Str.ofString "NoPair" else PySem.Str.ofString "TooMany"
meta abbrev tN (b:Bool):Str:=bif b then PySem.Str.ofString "pair" else PySem.Str.ofString "many"
def Pa{c:Ex}{n:Nat}{xs:ad}(h:c τ S=.ok (.ref n) S1)(hl:iL S1 n=some xs):zw c τ S=.ok (mR n xs.length) S1:=by
 unfold zw;rw[h,R.oH];show opt (iL S1 n) _=_;rw[hl,jv]
def JQ{x:Str}{d:Sm}{τ:ad}:RS.CF i (y::z::x::cs) d τ (.ex x S)=IK i (d (τ.set i<|.exn x) S):=aJ<|.tail _<|.tail _<|.head _
def Uy{d:Sm}{τ:ad}:∀{b:Bool},RS.CF i ["NoPair", "NoWord", "TooMany"] d τ (.ex (eN b) S)=IK i (d (τ.set i<|.exn<|eN b) S)
 | true=>Af
 | false=>JQ
def Rr{a c d:Bool}:∀{b:Bool},II (CS [("NoPair",a),("NoWord",c),("TooMany",d)]) (.exn<|eN b) S=.ok (.bl<|bif b then a else d) S
 | true=>DK
 | false=>by
  have e:CS [("NoPair",a),("NoWord",c),("TooMany",d)] "TooMany" = some d:=by
   show List.lookup ("TooMany" : Str) [("NoPair",a),("NoWord",c),("TooMany",d)]=some d;rw[c5,show(("TooMany" : Str) == "NoPair")=false from by decide +kernel,c5,show(("TooMany" : Str) == "NoWord")=false from by decide +kernel,c5,bM]
  show II _ (.exn "TooMany") S=_;unfold II;dsimp[e,jv,cond_false]
meta abbrev nms:am:=[PySem.Str.ofString "word",PySem.Str.ofString "number",PySem.Str.ofString "pair",PySem.Str.ofString "many",PySem.Str.ofString "tables",PySem.Str.ofString "text",PySem.Str.ofString "row",PySem.Str.ofString "name"]
def Up:∀b:Bool,nms.map (λs=>s == tN b)=[false,false,b,!b,false,false,false,false]
 | true=>by decide +kernel
 | false=>by decide +kernel
def yW(S:iN)(b:Bool):∃S',pW [.exn<|eN b,.str<|tN b] S=.ok (.bl true) S'/\m9 S S':=by
 obtain⟨S1,h1⟩:∃S1,S1=S++[O.lst [.bl false,.bl false,.bl b,.bl<|!b]]:=⟨_,rfl⟩;obtain⟨S2,h2⟩:∃S2,S2=S1++[O.lst [.bl false,.bl false,.bl false,.bl false]]:=⟨_,rfl⟩;obtain⟨S3,h3⟩:∃S3,S3=S2++[O.lst [.bl false,.bl false,.bl b,.bl<|!b,.bl false,.bl false,.bl false,.bl false]]:=⟨_,rfl⟩;obtain⟨ns,hns⟩:∃ns:am,ns=nms:=⟨_,rfl⟩;obtain⟨S4,h4⟩:∃S4,S4=S3++[O.lst<|ns.map A.str]:=⟨_,rfl⟩;have a1:iL S2 S.length=some [.bl false,.bl false,.bl b,.bl<|!b]:=by rw[h2,h1];exact jy i8
 have a2:iL S2 S1.length=some [.bl false,.bl false,.bl false,.bl false]:=by rw[h2];exact i8
 have ec:=UQ a1 a2 (show 4+4<=16777216 by decide);have a3:iL S4 S2.length=some [.bl false,.bl false,.bl b,.bl<|!b,.bl false,.bl false,.bl false,.bl false]:=by rw[h4,h3];exact jy i8
 have a4:iL S4 S3.length=some (ns.map A.str):=by rw[h4];exact i8
 obtain⟨t,ht⟩:∃t,t=tN b:=⟨_,rfl⟩;have hc:=BO (cap:=[some 1]) (src:=zw<|iK 3) (t:=A6) (e:=iU (rZ false) (iK 0)<|iK 1) (τ:=[.exn<|eN b,.str t,.ref S2.length,.ref S3.length]) (Pa (by dsimp[jx,bools]) a4) a4 (λ_=>true)
  (λx=>match x with | .str s=>.bl (s == t)|_=>.non) (λx _=>rfl) (λx hx _=>by
   obtain⟨s,_,rfl⟩:=b_.mp hx;dsimp[jx,bools];rfl) (by rw[hns];decide)
 have en:((ns.map A.str).filter λ_=>true).map (λx=>match x with | .str s=>A.bl (s == t)|_=>.non)=[.bl false,.bl false,.bl b,.bl<|!b,.bl false,.bl false,.bl false,.bl false]:=by
  rw[List.filter_eq_self.mpr λ_ _=>rfl,ck,hns,ht];have:=c6 (List.map A.bl)<|Up b;rw[ck]at this;exact this
 rw[en]at hc;have ee:=zY (S:=S4++[O.lst [.bl false,.bl false,.bl b,.bl<|!b,.bl false,.bl false,.bl false,.bl false]]) (a:=.ref S2.length) (b:=.ref S4.length) (k:=true) (by
  show(iL _ _).bind _=_;rw[jy a3,bT,i8,bT]
  cases b<;>rfl)
 have ec:j4 (.ref S.length) (.ref S1.length) S2=.ok (.ref S2.length) S3:=by rw[ec,h3];rfl
 have e4:newL [A.str<|PySem.Str.ofString "word",.str<|PySem.Str.ofString "number",.str<|PySem.Str.ofString "pair",.str<|PySem.Str.ofString "many",.str<|PySem.Str.ofString "tables",.str<|PySem.Str.ofString "text",.str<|PySem.Str.ofString "row",.str<|PySem.Str.ofString "name"] S3=.ok (.ref S3.length) S4:=by
  rw[DR,h4,hns];rfl
 have bb:∀{d:Bool},(bif b then d else d)=d:=λ{d}=>by cases b<;>rfl
 have b1:(bif b then false else true)=!b:=by cases b<;>rfl
 have b2:(bif b then true else false)=b:=by cases b<;>rfl
 refine⟨S4++[O.lst [.bl false,.bl false,.bl b,.bl<|!b,.bl false,.bl false,.bl false,.bl false]],?_,?_⟩
 ·rw[<- ht];obtain⟨e,he⟩:∃e,e=eN b:=⟨_,rfl⟩;have kk:∀{T:iN} {a c d:Bool},II (CS [("NoPair",a),("NoWord",c),("TooMany",d)]) (.exn e) T=.ok (.bl<|bif b then a else d) T:=by rw[he];exact Rr
  rw[<- he]at hc ⊢;unfold pW vW wQ;dsimp[jx,mJ,bools,jD,Nat.reduceAdd,Nat.reduceSub,kk,bb,b1,b2,<- h1,<- h2,ec,e4,hc,ee]
 ·rw[h4,h3,h2,h1];exact Kp.refl.lay.lay.lay.lay.lay
def Dw{x y:A}(h1:∀S:iN,∃S',lQ [x,y] S=.ex (eN b) S'/\m9 S S')(h2:∀S:iN,∃S',jt [x,y] S=.ex (eN b) S'/\m9 S S')(hx:x.mz=false)(hy:y.mz=false):∃S',je [x,y,.str<|tN b] S=.ok (.bl true) S'/\m9 S S':=by
 obtain⟨S1,hS1⟩:∃S1,S1=S++[O.lst []]:=⟨_,rfl⟩;have l1:iL S1 S.length=some []:=by rw[hS1];exact i8
 have k1:m9 S S1:=by rw[hS1];exact Kp.refl.lay
 obtain⟨S2,e2,k2⟩:=h1 S1;obtain⟨S3,e3,k3⟩:=yW S2 b;have l2:=k2.lst _ _ (λz=>z) l1;have l3:=k3.lst _ _ (λz=>z) l2;obtain⟨S4,hS4⟩:∃S4,S4=S3.set S.length (.lst [.bl true]):=⟨_,rfl⟩;have l4:iL S4 S.length=some [.bl true]:=by rw[hS4];exact kJ (qk l3)
 have k4:m9 S S4:=by rw[hS4];exact((k1.trans k2).trans k3).set (.inr<|aO _)
 obtain⟨S5,e5,k5⟩:=h2 S4;obtain⟨S6,e6,k6⟩:=yW S5 b;have l5:=k5.lst _ _ (λz=>z) l4;have l6:=k6.lst _ _ (λz=>z) l5;obtain⟨S7,hS7⟩:∃S7,S7=S6.set S.length (.lst [.bl true,.bl true]):=⟨_,rfl⟩;have l7:iL S7 S.length=some [.bl true,.bl true]:=by rw[hS7];exact kJ (qk l6)
 have k7:m9 S S7:=by rw[hS7];exact((k4.trans k5).trans k6).set (.inr<|aO _)
 have ee:=zY (S:=S7++[O.lst [.bl true,.bl true]]) (a:=.ref S.length) (b:=.ref S7.length) (k:=true) (by
  show(iL _ _).bind _=_;rw[jy l7,bT,i8,bT];rfl)
 refine⟨S7++[O.lst [.bl true,.bl true]],?_,k7.lay⟩;obtain⟨e,he⟩:∃e,e=eN b:=⟨_,rfl⟩;obtain⟨t,ht⟩:∃t,t=tN b:=⟨_,rfl⟩;have tt:∀{i:Nat} {d:Sm} {τ:ad} {S:iN},RS.CF i ["NoPair", "NoWord", "TooMany"] d τ (.ex e S)=IK i (d (τ.set i<|.exn e) S):=by rw[he];exact Uy
 rw[<- he]at e2 e5;rw[<- he,<- ht]at e3 e6;rw[<- ht];unfold je pP pN;dsimp[jx,mJ,bools,jD,Nat.reduceAdd,Nat.reduceSub,<- hS1,e2,tt,l2,e3,l3,jO<|show 0<sizeLine by decide,<- hS4,e5,l5,e6,l6,jO<|show 1<sizeLine by decide,<- hS7,ee,hx,hy]
end K37
namespace K37
open PySem L2 Am
def Rf{a:ae}{i j:Nat}(hij:i<j)(hj:j<a.length)(hl:a.length<=1000):∃S',jc [.tup<|a.map .int,.int<|(i:Int)+1,.int<|(j:Int)+1] S=.ok (.tup<|(Iv.sw a i j).map .int) S'/\m9 S S':=by
 have a1:oq (a.map A.int) (j:Int)=some (.int<|a.getD j 0):=QX rfl hj;have a2:oq (a.map A.int) (i:Int)=some (.int<|a.getD i 0):=QX rfl ();have x1:vV a.length (i:Int)=some i:=qz rfl ();have x2:vV a.length (j:Int)=some j:=qz rfl hj;have hL:iL (S++[O.lst<|a.map .int]) S.length=some (a.map .int):=i8;have lS:∀ys,iL ((S++[O.lst<|a.map .int]).set S.length<|.lst ys) S.length=some ys:=λys=>kJ (by simp);have em:((a.map A.int).set i<|.int<|a.getD j 0).set j (.int<|a.getD i 0)=(Iv.sw a i j).map .int:=by unfold Iv.sw;rw[dX,dX]
 unfold jc kB kD;dsimp[jx,bools,jD,Nat.reduceAdd,Nat.reduceSub,hL,show(j:Int)+1-1=j by lia,show(i:Int)+1-1=i by lia,a1,a2,jO<|show 2<=sizeLine by decide,jO<|show 2=2 from rfl,aM,x1,lS,bN,x2,em];rw[kJ<|by simp];dsimp[jx,bools];exact⟨_,rfl,((Kp.refl.lay).set<|.inr<|aO _).set<|.inr<|aO _⟩
def Rk{n:Nat}{xs:ad}{g:Tg}{c:Sm}{src:Ic}(hs:src τ S=.ok (CB n xs.length) S1)(Inv:Nat->ad->iN->Prop)(Post:RS->Prop)(h0:Inv 0 τ S1)(hl:∀i τ S,Inv i τ S->iL S n=some xs)
  (step:∀(i:Nat) x τ S,xs[i]?=some x->Inv i τ S->∃τ1 S1,g (.tup [.int i,x]) τ S=.ok τ1 S1/\((∃τ' S',c τ1 S1=.nx τ' S'/\Inv (i+1) τ' S')\/(∃a S',c τ1 S1=.rt a S'/\Post (.rt a S'))))
  (fin:∀τ S,Inv xs.length τ S->Post (.nx τ S)):Post (nU src g c τ S):=by
 unfold nU;rw[hs];refine z7 (s:=CB n xs.length) Inv Post (λi τ S hi' h=>?_) (λτ S h=>⟨?_,fin τ S h⟩) _ 0 τ S1 rfl h0
 ·have hi':i<xs.length:=hi';obtain⟨τ1,S1,e,q⟩:=step i xs[i] τ S (aG hi') h;exact⟨.tup [.int i,xs[i]],τ1,S1,by show(iL S n).bind _=_;rw[hl i τ S h,bT,aG hi'];rfl,e,q⟩
 ·show(match iL S n with
   | some ys=>decide (ys.length=xs.length)
   | none=>false)=true
  rw[hl _ τ S h];simp
open Bl
open Po (Pl Ok)
open Hz (IsR)
open Fw (rg)
def Fy{x w:ae}{n:Nat}(lx:x.length=n)(lw:w.length=n)(h9:9<=n)(h2:n<=20):jh [.tup<|x.map .int,.tup<|w.map .int] S=.ex (eN false) S:=by
 have np:=nF (S:=S) (show x.length=w.length by lia);have:jf [.tup<|x.map .int,.tup<|w.map .int,.int 5,.int 8,.int 6] S=.ex "TooMany" S:=by
  unfold jf jT jU;dsimp[jx,mJ,bools,jD,Nat.reduceAdd,Nat.reduceSub,aM,lx,aW<|show ¬(n:Int)<=5 by lia,a_<|show(n:Int)>8 by lia]
 unfold jh j9 j_;dsimp[jx,mJ,bools,jD,Nat.reduceAdd,Nat.reduceSub,np,this]
def tY{x w:ae}{n:Nat}(h6:6<=n)(h8:n<=8)(px:x.Perm<|rg n)(pw:w.Perm<|rg n) :
  ∃S1,jh [.tup<|x.map .int,.tup<|w.map .int] S=(if (Iv.inv w:Int)-Iv.inv x>6 then .ex (eN false) S1 else .ok .non S1)/\m9 S S1:=by
 have lx:=lq px;have lw:=lq pw;have np:=nF (S:=S) (show x.length=w.length by lia);obtain⟨S1,a1,k1⟩:=vQ (S:=S) () h8 pw;obtain⟨S2,a2,k2⟩:=vQ (S:=S1) () h8 px;refine⟨S2,?_,k1.trans k2⟩;by_cases c:(Iv.inv w:Int)-Iv.inv x>6
 ·have:jf [.tup<|x.map .int,.tup<|w.map .int,.int 5,.int 8,.int 6] S=.ex "TooMany" S2:=by
   unfold jf jT jU;dsimp[jx,mJ,bools,jD,Nat.reduceAdd,Nat.reduceSub,aM,lx,aW<|show ¬(n:Int)<=5 by lia,aW<|show ¬(n:Int)>8 by lia,a1,a2,a_ c]
  rw[aJ c];unfold jh j9 j_;dsimp[jx,mJ,bools,jD,Nat.reduceAdd,Nat.reduceSub,np,this]
 ·have:jf [.tup<|x.map .int,.tup<|w.map .int,.int 5,.int 8,.int 6] S=.ok .non S2:=by
   unfold jf jT jU;dsimp[jx,mJ,bools,jD,Nat.reduceAdd,Nat.reduceSub,aM,lx,aW<|show ¬(n:Int)<=5 by lia,aW<|show ¬(n:Int)>8 by lia,a1,a2,aW c]
  rw[aK c];unfold jh j9 j_;dsimp[jx,mJ,bools,jD,Nat.reduceAdd,Nat.reduceSub,np,this]
def vL{x w:ae}(h:∀S:iN,∃S',jh [.tup<|x.map .int,.tup<|w.map .int] S=.ex (eN b) S'/\m9 S S'):∃S',je [.tup<|x.map .int,.tup<|w.map .int,.str<|tN b] S=.ok (.bl true) S'/\m9 S S':=by
 refine Dw (λS=>?_) (λS=>?_) rfl rfl
 ·obtain⟨S1,e1,k1⟩:=h S;refine⟨S1,?_,k1⟩;unfold lQ wo wR;dsimp[jx,mJ,bools,jD,Nat.reduceAdd,Nat.reduceSub,e1]
 ·obtain⟨S1,e1,k1⟩:=h S;refine⟨S1,?_,k1⟩;unfold jt lG lE;dsimp[jx,mJ,bools,jD,Nat.reduceAdd,Nat.reduceSub,e1]
def NZ{x w:ae}(h:x.length≠w.length)(h1:x.length<=1000)(h2:w.length<=1000):jh [.tup<|x.map .int,.tup<|w.map .int] S=.ex (eN true) S:=by
 have e:=Od (S:=S) h h1 h2;unfold jh j9 j_;dsimp[jx,mJ,bools,jD,Nat.reduceAdd,Nat.reduceSub,e]
def N7{n:Nat}{x:ae}(h6:6<=n)(h8:n<=8)(px:x.Perm<|rg n):∃(r:Nat) (S':iN),lQ [.tup<|x.map .int,.tup<|x.map .int] S=.ok (.ref r) S'/\iL S' r=some (Po.pl [(0,1)])/\m9 S S':=by
 obtain⟨S1,e1,k1⟩:=tY (S:=S) h6 h8 px px;rw[aK ()]at e1;have hK:Kn n (S1++[.n9 []]) S1.length []:=⟨sM<|by simp,λp hp=>nomatch hp⟩;have i1:Mc true (.tup [.tup<|x.map .int,.tup<|x.map .int]) (.ref S1.length) (S1++[.n9 []])=.ok (.bl true) (S1++[.n9 []]):=by rw[KO,hK.dd,jv];rfl
 have k2:m9 (S1++[O.n9 []]) ((S1++[O.n9 []])++[O.lst<|Po.pl [(0,1)]]):=Kp.refl.lay;obtain⟨S',kvs',e3,x3,n3,l3,b3,kp⟩:=(hK.kp k2).put (x:=x) (w:=x) (r:=(S1++[O.n9 []]).length) (by simp) i8<|Hz.C_ px;have eq:=CC (S:=S1++[O.n9 []]) (x:=x) (w:=x);rw[a_ rfl]at eq;rw[show Po.pl [((0:Int),(1:Int))]=[A.tup [.int 0,.int 1]]from rfl]at e3;have fo:nu [.tup<|x.map .int,.tup<|x.map .int,.ref S1.length] (S1++[.n9 []])=.ok (.ref (S1++[O.n9 []]).length) S':=by
  show jQ kC (ko<|kF 21) _ _=_;unfold ko kC;dsimp[jx,mJ,bools,jD,Nat.reduceAdd,Nat.reduceSub,zF,i1,eq,qB,e3,x3]
 have dn:∀τ,Au τ S1=.ok (.ref S1.length) (S1++[.n9 []]):=λ_=>rfl;refine⟨_,S',?_,l3,((k1.lay (o:=.n9 [])).trans k2).old kp λq hq _ z=>by have:=k1.len;lia⟩;unfold lQ wo wR;dsimp[jx,mJ,bools,jD,Nat.reduceAdd,Nat.reduceSub,e1,dn,fo]
def Cp{n:Nat}{x:ae}(px:x.Perm<|rg n)(h:Below x<|rg n):x=rg n:=by
 obtain⟨js,hj⟩:=Fw.zx _ x<|aO _;exact Below.antisymm px.length_eq h<|Gr.qH js px hj
def Ry{n:Nat}{x:ae}(px:x.Perm<|rg n):Below (rg n) x:=by
 obtain⟨js,hj⟩:=Fw.zx _ x<|aO _;exact Gr.qH js px hj
def PL{n i:Nat}(h:i<n):(rg n).getD i 0=(i:Int)+1:=by
 have:(rg n)[i]?=some ((i:Int)+1):=by
  unfold rg jm;rw[bg,cj ()];show some (1+(i:Int))=_;rw[Int.add_comm]
 rw[aL,this];rfl
def UM{n:Nat}{a:ae}(pa:a.Perm<|rg n)(hij:i<j)(hj:j<n)(h:a.getD i 0<a.getD j 0):¬Below (Iv.sw a i j) (rg n):=λz=>by
 have la:=lq pa;have lt:a.getD i 0=(Iv.sw a i j).getD j 0/\a.getD j 0=(Iv.sw a i j).getD i 0:=by
  unfold Iv.sw;constructor
  ·dsimp[aL];rw[bI<|by rw[bN];lia];rfl
  ·dsimp[aL];rw[bP (),bI ()];rfl
 have e:=Cp ((Stp.Fv hij ()).trans pa) z;rw[e,PL hj,PL<|show i<n by lia]at lt
 lia
def Q3{n:Nat}{k:Nat}(h:(prs n)[k]?=some z):∃i j:Nat,i<j/\j<n/\z=.tup [.int<|(i:Int)+1,.int<|(j:Int)+1]:=by
 obtain⟨i,j,h1,h2,h3,e⟩:=EJ.mp<|aX h;refine⟨(i-1).toNat,(j-1).toNat,(),(),?_⟩;rw[e,show((i-1).toNat:Int)+1=i by lia,show((j-1).toNat:Int)+1=j by lia]
def O5{n:Nat}{x:ae}(h6:6<=n)(h8:n<=8)(px:x.Perm<|rg n):∃(r q:Nat) (S':iN),jt [.tup<|x.map .int,.tup<|x.map .int] S=.ok (.ref r) S'/\iL S' r=some [.ref q]/\iL S' q=some []/\m9 S S':=by
 obtain⟨S1,e1,k1⟩:=tY (S:=S) h6 h8 px px;rw[aK ()]at e1;have pp:=xX (S:=S1) (n:=(n:Int)) () ();obtain⟨S2,hS2⟩:∃S2,S2=S1++[O.lst<|prs n]:=⟨_,rfl⟩;rw[<- hS2]at pp;have k2:m9 S1 S2:=by rw[hS2];exact Kp.refl.lay
 obtain⟨S3,hS3⟩:∃S3,S3=S2++[O.lst []]:=⟨_,rfl⟩;obtain⟨S4,hS4⟩:∃S4,S4=S3++[O.lst [.ref S2.length]]:=⟨_,rfl⟩;have l3:iL S3 S2.length=some []:=by rw[hS3];exact i8
 have l4:iL S4 S3.length=some [.ref S2.length]:=by rw[hS4];exact i8
 have l4':iL S4 S2.length=some []:=by rw[hS4];exact jy l3
 have eq:=CC (S:=S2) (x:=x) (w:=x);rw[a_ rfl]at eq;have ro:mW [.tup<|x.map .int,.tup<|x.map .int,.ref S1.length] S2=.ok (.ref S3.length) S4:=by
  unfold mW rG rE;dsimp[jx,mJ,bools,jD,Nat.reduceAdd,Nat.reduceSub,eq,<- hS3,<- hS4]
 have so:Ah (.ref S3.length) S4=.ok (.ref S4.length) (S4++[O.lst [.ref S2.length]]):=by
  show opt (iL S4 S3.length) _=_;rw[l4,jv];exact jO<|show 1<2 by decide
 refine⟨S4.length,S2.length,_,?_,i8,jy l4',?_⟩
 ·unfold jt lG lE;dsimp[jx,mJ,bools,jD,Nat.reduceAdd,Nat.reduceSub,e1,aM,lq px,pp,ro,so]
 ·rw[hS4,hS3];exact(((k1.trans k2).lay).lay).lay
def N9{n:Nat}{x:ae}(h6:6<=n)(h8:n<=8)(px:x.Perm<|rg n)(hne:x≠rg n):∃(r:Nat) (S':iN),jt [.tup<|x.map .int,.tup<|(rg n).map .int] S=.ok (.ref r) S'/\iL S' r=some []/\m9 S S':=by
 obtain⟨S1,e1,k1⟩:=tY (S:=S) h6 h8 px<|.refl<|rg n;rw[aK<|by rw[Fw.pq];lia]at e1;have lx:=lq px;have pp:=xX (S:=S1) (n:=(n:Int)) () ();obtain⟨S2,hS2⟩:∃S2,S2=S1++[O.lst<|prs n]:=⟨_,rfl⟩;rw[<- hS2]at pp;have k2:m9 S1 S2:=by rw[hS2];exact Kp.refl.lay
 have l2:iL S2 S1.length=some (prs n):=by rw[hS2];exact i8
 obtain⟨S3,hS3⟩:∃S3,S3=S2++[O.lst []]:=⟨_,rfl⟩;have l3:iL S3 S2.length=some []:=by rw[hS3];exact i8
 have k3:m9 S2 S3:=by rw[hS3];exact Kp.refl.lay
 have l3':=k3.lst _ _ (λz=>z) l2;have eq:=CC (S:=S2) (x:=x) (w:=rg n);rw[aW hne]at eq;obtain⟨S4,ro,l4,k4⟩:∃S4,mW [.tup<|x.map .int,.tup<|(rg n).map .int,.ref S1.length] S2=.ok (.ref S2.length) S4/\iL S4 S2.length=some []/\m9 S3 S4:=by
  unfold mW rG rE;dsimp[jx,mJ,bools,jD,Nat.reduceAdd,Nat.reduceSub,eq,<- hS3];refine Rk (n:=S1.length) (xs:=prs n) (S1:=S3) (show uS _ _=_ from O0 (by dsimp[jx,mJ,bools]) l3')
   (λi τ T=>(∃a4 a5 a6 a7 a8:A,τ=[.tup<|x.map .int,.tup<|(rg n).map .int,.ref S1.length,.ref S2.length,a4,a5,a6,a7,a8])/\iL T S1.length=some (prs n)/\iL T S2.length=some []/\m9 S3 T)
   (λr=>∃S4,RS.end (RS.seq r _)=.ok (.ref S2.length) S4/\iL S4 S2.length=some []/\m9 S3 S4) ⟨⟨_,_,_,_,_,rfl⟩,l3',l3,Kp.refl⟩ (λi τ T hh=>hh.2.1) ?_ ?_
  ·rintro k z τ T hz ⟨⟨a4,a5,a6,a7,a8,rfl⟩,hP,hT,kp⟩;obtain⟨i,j,hij,hj,rfl⟩:=Q3 hz;refine⟨_,_,by dsimp[jx,bools,jO<|show([_,_]:ad).length=2 from rfl];rfl,.inl ?_⟩;obtain⟨T1,x1,q1⟩:=Rf (S:=T) (a:=x) hij () ();have a1:oq (x.map A.int) (i:Int)=some (.int<|x.getD i 0):=QX rfl ();have a2:oq (x.map A.int) (j:Int)=some (.int<|x.getD j 0):=QX rfl ();unfold uK;dsimp[jx,mJ,bools,x1,show(j:Int)+1-1=j by lia,show(i:Int)+1-1=i by lia,a1,a2];by_cases c:x.getD i 0<x.getD j 0
   ·rw[a_ c];obtain⟨kb,T2,e2,hk,q2⟩:=BS (S:=T1) ((Stp.Fv hij ()).trans px) (.refl<|rg n) () ();have kf:kb=false:=by cases kb with|false=>rfl|true=>exact absurd (hk.mp rfl) (UM px hij hj c)
    rw[kf]at e2;dsimp[jx,mJ,bools,e2];exact⟨_,_,rfl,⟨_,_,_,_,_,rfl⟩,(q1.trans q2).lst _ _ (λz=>z) hP,(q1.trans q2).lst _ _ (λz=>z) hT,kp.trans<|q1.trans q2⟩
   ·rw[aW c];dsimp[jx,mJ,bools];exact⟨_,_,rfl,⟨_,_,_,_,_,rfl⟩,q1.lst _ _ (λz=>z) hP,q1.lst _ _ (λz=>z) hT,kp.trans q1⟩
  ·rintro τ T ⟨⟨a4,a5,a6,a7,a8,rfl⟩,hP,hT,kp⟩;dsimp[jx,mJ,bools];exact⟨_,rfl,hT,kp⟩
 have so:Ah (.ref S2.length) S4=.ok (.ref S4.length) (S4++[O.lst []]):=by
  show opt (iL S4 S2.length) _=_;rw[l4,jv];exact jO ⋯
 refine⟨S4.length,_,?_,i8,((((k1.trans k2).trans k3).trans k4).lay)⟩;unfold jt lG lE;dsimp[jx,mJ,bools,jD,Nat.reduceAdd,Nat.reduceSub,e1,aM,lx,pp,ro,so]
end K37
namespace K37
open PySem L2 Am
open Bl
open Po (Pl Ok)
open Hz (IsR)
open Fw (rg)
abbrev HP (n:Nat)(xs:ae):ae:=(jm 0<|(n:Int)-1).filter λq=>decide<|xs.getD q.toNat 0<xs.getD (q.toNat+1) 0
abbrev lA (n:Nat)(xs:ae):Nat:=((HP n xs).getLast?.getD 0).toNat
abbrev at_ (n:Nat):Nat->ae
 | 0=>rg n
 | k+1=>Wd.ex (at_ n k)<|lA n (at_ n k)+1
abbrev atK (n k:Nat):Bool:=Iv.inv (at_ n k) == k && (at_ n k).isPerm (rg n) && (k == n * (n-1) / 2 || ((HP n<|at_ n k).getLast? == some (lA n (at_ n k):Int) && decide (lA n (at_ n k)+1<n)))
def OV:([6,7,8].all λn=>(List.range<|n * (n-1) / 2+1).all λk=>atK n k)=true:=by decide +kernel
def F4{n k:Nat}(h6:6<=n)(h8:n<=8)(hk:k<=n * (n-1) / 2):Iv.inv (at_ n k)=k/\(at_ n k).Perm (rg n)/\(k<n * (n-1) / 2->(HP n<|at_ n k).getLast?=some (lA n (at_ n k):Int)/\lA n (at_ n k)+1<n):=by
 have h1:=List.all_eq_true.mp OV n (by
  have:n=6\/n=7\/n=8:=()
  rcases this with rfl|rfl|rfl<;>simp)
 have h2:=List.all_eq_true.mp h1 k<|cV.mpr ();unfold atK at h2;dsimp[cR,iE,gX,fU]at h2;refine⟨h2.1.1,List.isPerm_iff.mp h2.1.2,λhlt=>?_⟩
 rcases h2.2 with z|z
 ·lia
 ·exact z
def Gw{n:Nat}(h6:6<=n)(h8:n<=8)(hf:far<=n * (n-1) / 2):∃S',nY [.int n,.int far] S=.ok (.tup<|(at_ n far).map .int) S'/\m9 S S':=by
 have hb:n * (n-1) / 2<=28:=by
  have:n=6\/n=7\/n=8:=()
  rcases this with rfl|rfl|rfl<;>decide
 unfold nY xY xK;have rr:tK 1 ((n:Int)+1):=xV ⋯ ⋯ () () ();dsimp[jx,mJ,bools,jD,Nat.reduceAdd,Nat.reduceSub,yD rr];refine vg (lo:=0) (hi:=(far:Int)) (S1:=S++[O.lst<|(rg n).map .int]) (show wj _ _=_ from pZ (by dsimp[jx,bools])<|lZ () ())
  (λi τ T=>(∃a3 a4 a5:A,τ=[.int n,.int far,.ref S.length,a3,a4,a5])/\iL T S.length=some ((at_ n i).map .int)/\m9 S T) (λr=>∃S',RS.end (RS.seq r _)=.ok (.tup<|(at_ n far).map .int) S'/\m9 S S') ⟨⟨_,_,_,rfl⟩,i8,Kp.refl.lay⟩ ?_ ?_
 ·rintro i τ T hi ⟨⟨a3,a4,a5,rfl⟩,hL,kp⟩;left;obtain⟨_,pi,hA⟩:=F4 (k:=i) h6 h8 ();obtain⟨hA,hA2⟩:=hA ();have ll:=lq pi;obtain⟨xs,hxs⟩:∃xs,xs=at_ n i:=⟨_,rfl⟩;have hn1:at_ n (i+1)=Wd.ex xs (lA n xs+1):=by rw[hxs];rfl
  rw[<- hxs]at hA hA2 ll hL pi;obtain⟨j,hj⟩:∃j,j=lA n xs:=⟨_,rfl⟩;rw[<- hj]at hA hA2 hn1;have at_q:∀q:Nat,q<n->oq (xs.map A.int) (q:Int)=some (.int<|xs.getD q 0):=λq hq=>QX rfl ();have hc:=Bx (lo:=0) (hi:=(n:Int)-1) (cap:=[some 2]) (src:=p9<|iU aSub (iK 0)<|eC<|.int 1) (t:=qS<|iU Oc (iU qy (iK 1)<|iK 0)<|iU qy (iK 1)<|iU j4 (iK 0)<|eC<|.int 1) (e:=iK 0) (τ:=[.int n,.int far,.ref S.length,.int<|0+(i:Int),a4,a5]) (S:=T) (S1:=T) (pZ (by dsimp[jx,bools])<|lZ () ())
   (λq=>decide<|xs.getD q.toNat 0<xs.getD (q.toNat+1) 0) (λq=>.int q) (λq h0 h1=>by
    have e1:=at_q q.toNat ();have e2:=at_q (q.toNat+1) ();rw[show((q.toNat:Nat):Int)=q by lia]at e1;rw[show((q.toNat+1:Nat):Int)=q+1 by lia]at e2;dsimp[jx,bools,hL,e1,e2]) (λq _ _ _=>by dsimp[jx,bools]) ()
  obtain⟨T1,hT1⟩:∃T1,T1=T++[O.lst<|(HP n xs).map A.int]:=⟨_,rfl⟩;have hc:lY [none,some 2] (p9<|iU aSub (iK 0)<|eC<|.int 1) (jW 0) (qS<|iU Oc (iU qy (iK 1)<|iK 0)<|iU qy (iK 1)<|iU j4 (iK 0)<|eC<|.int 1) (iK 0) [.int n,.int far,.ref S.length,.int<|0+(i:Int),a4,a5] T=.ok (.ref T.length) T1:=by rw[hT1];exact hc
  have lA1:iL T1 T.length=some ((HP n xs).map A.int):=by rw[hT1];exact i8
  have hL1:iL T1 S.length=some (xs.map .int):=by rw[hT1];exact jy hL
  have lst1:oq ((HP n xs).map A.int) (-1)=some (.int j):=by
   obtain⟨ys,hy⟩:=List.getLast?_eq_some_iff.mp hA;rw[hy,cF];exact BA _ _
  have x1:vV n (j:Int)=some j:=qz rfl ();have x2:vV n ((j:Int)+1)=some (j+1):=qz () hA2;have e1:=at_q j ();have e2:=at_q (j+1) hA2;rw[show((j+1:Nat):Int)=(j:Int)+1 by lia]at e2;have lS:∀ys,iL (T1.set S.length<|.lst ys) S.length=some ys:=λys=>kJ<|qk hL1;have em:((xs.map A.int).set j<|.int<|xs.getD (j+1) 0).set (j+1) (.int<|xs.getD j 0)=(Wd.ex xs<|j+1).map .int:=by unfold Wd.ex;rw[dX,dX];rfl
  unfold wD;dsimp[jx,mJ,bools,jD,Nat.reduceAdd,Nat.reduceSub,hc,lA1,lst1,hL1,e1,e2,jO<|show 2<=sizeLine by decide,jO<|show 2=2 from rfl,aM,ll,x1,lS,bN,x2,em];refine⟨_,_,rfl,⟨_,_,_,rfl⟩,?_,?_⟩
  ·rw[hn1];exact kJ (by rw[bN];exact qk hL1)
  ·rw[hT1];exact((kp.lay).set<|.inr<|aO _).set (.inr<|aO _)
 ·rintro τ T ⟨⟨a3,a4,a5,rfl⟩,hL,kp⟩;rw[show((far:Int)-0).toNat=far by lia]at hL;dsimp[jx,mJ,bools,hL];exact⟨_,rfl,kp⟩
end K37
namespace K37
open PySem L2 Am
open Bl
open Po (Pl Ok)
open Hz (IsR)
open Fw (rg)
def WK{k:Nat}{a b c d:Int}:yp S (k+2) (.tup [.int a,.int b]) (.tup [.int c,.int d])=some (decide<|(a,b)=(c,d)):=by
 show((some<|a == c).bind λp=>((some<|b == d).bind λq=>(some true).map λr=>q && r).map λq=>p && q)=_;by_cases h1:a=c
 ·by_cases h2:b=d
  ·subst h1 h2;simp
  ·subst h1;simp[h2]
 ·simp[h1]
def EB(N:Nat):(L2.QB (N:Int) 0).Perm (rg N):=by
 have e:(List.range ((N:Int)-0).toNat).map (λk:Nat=>(N:Int)-(k:Int))=((List.range ((N:Int)+1-1).toNat).map λk:Nat=>1+(k:Int)).reverse:=by
  refine gw (by simp) λi h1 h2=>?_;simp at h1;simp
  lia
 show((List.range ((N:Int)-0).toNat).map λk:Nat=>(N:Int)-(k:Int)).Perm ((List.range ((N:Int)+1-1).toNat).map λk:Nat=>1+(k:Int));rw[e];exact List.reverse_perm _
def Q9{n:Nat}(h6:6<=n)(h8:n<=8):∃(r:Nat) (m:ad) (S1:iN),lQ [.tup<|(rg n).map .int,.tup<|(at_ n 6).map .int] S=.ok (.ref r) S1/\iL S1 r=some (m++[.tup [.int 6,.int 1]]):=by
 obtain⟨hi,pw,_⟩:=F4 (k:=6) h6 h8 (by
  have:n=6\/n=7\/n=8:=()
  rcases this with rfl|rfl|rfl<;>decide)
 obtain⟨r,S1,l,e1,a1,q1,k1⟩:=FA (S:=S) () h8 (.refl<|rg n) pw () (.inr<|by rw[hi,Fw.pq];decide);obtain⟨m,hm⟩:=q1.last (.refl _) pw<|Ry pw;rw[hi,Fw.pq]at hm;refine⟨r,Po.pl m,S1,e1,?_⟩;rw[a1,hm];show some ((m++[_]).map _)=_;rw[cF];rfl
def TQ{n:Nat}(h6:6<=n)(h8:n<=8):∃(r:Nat) (S1:iN),lQ [.tup<|(at_ n 6).map .int,.tup<|(rg n).map .int] S=.ok (.ref r) S1/\iL S1 r=some []/\at_ n 6≠rg n/\(at_ n 6).Perm (rg n):=by
 obtain⟨hi,pw,_⟩:=F4 (k:=6) h6 h8 (by
  have:n=6\/n=7\/n=8:=()
  rcases this with rfl|rfl|rfl<;>decide)
 have hne:at_ n 6≠rg n:=λz=>by rw[z,Fw.pq]at hi;lia
 obtain⟨r,S1,l,e1,a1,q1,k1⟩:=FA (S:=S) () h8 pw (.refl<|rg n) (by rw[Fw.pq];lia) (.inr<|by rw[hi,Fw.pq];decide);have:=q1.eq<|Hz.Dv pw (.refl _) λz=>hne<|Cp pw z;subst this;exact⟨r,S1,e1,a1,hne,pw⟩
def ne_nil{a:Nat}(ha:iL S a=some [])(hb:iL S b=some []):rZ true (.ref a) (.ref b) S=.ok (.bl false) S:=zE (k:=true) (by
 show(iL S a).bind _=_;rw[ha,hb];rfl)
def Rw(ns:ae)(hl:ns.length<=63):∃S',yX [.frz<|ns.map .int] []=.ok (.bl true) S':=by
 unfold yX ML LQ;dsimp[jx,bools,jD,Nat.reduceAdd,Nat.reduceSub];refine vg (lo:=0) (hi:=if (if 4<(ns.length:Int)then 4 else(ns.length:Int))>1 then(if 4<(ns.length:Int)then 4 else(ns.length:Int))else 1) (S1:=[]) (show GF _ _=_ from pZ (by dsimp[jx,bools,aM])<|lZ (by split<;>split<;>lia)<|by split<;>split<;>lia)
  (λ_ τ _=>∃a1 a2 a3 a4 a5 a6 a7 a8 a9 b1 b2:A,τ=[.frz<|ns.map .int,a1,a2,a3,a4,a5,a6,a7,a8,a9,b1,b2]) (λr=>∃S',RS.end (RS.seq r _)=.ok (.bl true) S') ⟨_,_,_,_,_,_,_,_,_,_,_,rfl⟩ ?_ ?_
 ·rintro i τ S hi ⟨a1,a2,a3,a4,a5,a6,a7,a8,a9,b1,b2,rfl⟩;left;have hi6:(i:Int)<6:=by split at hi<;>split at hi<;>lia
  obtain⟨S1,e1,g1,k1⟩:=N4 (S:=S) (ns:=ns) (k:=0+(i:Int)) () ();obtain⟨d,S2,e2,d0,d1,g2,k2⟩:=digit (m:=19) g1 ⋯ ⋯;obtain⟨n,hn⟩:∃n:Nat,(n:Int)=2+d:=⟨(2+d).toNat,()⟩;obtain⟨c,S3,e3,c0,c1,g3,k3⟩:=digit (m:=18) g2 ⋯ ⋯;obtain⟨m,hm⟩:∃m:Nat,(m:Int)=2+((n:Int)-1+c) % 19:=⟨(2+((n:Int)-1+c) % 19).toNat,()⟩;have hmd:w4 (.int<|(n:Int)-1+c) (.int 19) S3=.ok (.int<|((n:Int)-1+c) % 19) S3:=yV ⋯;obtain⟨x,S4,e4,px,g4,k4⟩:=tM (n:=(n:Int)) g3 () ();obtain⟨y,S5,e5,py,g5,k5⟩:=tM (n:=(m:Int)) g4 () ();have lx:=lq px;have ly:=lq py;obtain⟨S6,e6,k6⟩:=vL (S:=S5) (x:=x) (w:=y) (b:=true) λT=>⟨T,NZ () () (),Kp.refl⟩;have g6:=g5.kp k6 λz=>z;obtain⟨f,S7,e7,f0,f1,g7,k7⟩:=digit (m:=12) g6 ⋯ ⋯;obtain⟨p,hp⟩:∃p:Nat,(p:Int)=9+f:=⟨(9+f).toNat,()⟩;obtain⟨u,S8,e8,pu,g8,k8⟩:=tM (n:=(p:Int)) g7 () ();have lu:=lq pu;obtain⟨S9,e9,k9⟩:=vL (S:=S8) (x:=u) (w:=u) (b:=false) λT=>⟨T,Fy lu lu () (),Kp.refl⟩;have g9:=g8.kp k9 λz=>z;obtain⟨v,T1,x1,pv,q1,_⟩:=tM (n:=(p:Int)) g9 () ();have lv:=lq pv;obtain⟨T2,x2,j2⟩:=vL (S:=T1) (x:=u) (w:=v) (b:=false) λT=>⟨T,Fy lu lv () (),Kp.refl⟩;have q2:=q1.kp j2 λz=>z;obtain⟨t,T3,x3,t0,t1,q3,_⟩:=digit (m:=3) q2 ⋯ ⋯;obtain⟨N,hN⟩:∃N:Nat,(N:Int)=6+t:=⟨(6+t).toNat,()⟩;have h6:6<=N:=()
  have h8:N<=8:=()
  have rr:tK 1 ((N:Int)+1):=xV ⋯ ⋯ () () ();obtain⟨B,hB,hB2⟩:∃B:Nat,B=N * (N-1) / 2/\((N:Int) * ((N:Int)-1)) / 2=(B:Int)/\15<=B/\B<=28:=by
   have:N=6\/N=7\/N=8:=()
   rcases this with rfl|rfl|rfl<;>exact⟨_,rfl,by decide,by decide,by decide⟩
  obtain⟨hB2,B1,B3⟩:=hB2;obtain⟨s,T4,x4,s0,s1,q4,_⟩:=digit (m:=(B:Int)-6) q3 () ();obtain⟨far,hfar⟩:∃far:Nat,(far:Int)=7+s:=⟨(7+s).toNat,()⟩;obtain⟨T5,x5,j5⟩:=Gw (S:=T4) (n:=N) (far:=far) h6 h8 ();obtain⟨hiv,pw,_⟩:=F4 (k:=far) h6 h8 ();obtain⟨T6,x6,j6⟩:=vL (S:=T5) (x:=rg N) (w:=at_ N far) (b:=false) λT=>by
   obtain⟨T',e,k⟩:=tY (S:=T) h6 h8 (.refl<|rg N) pw;rw[hiv,Fw.pq,aJ ()]at e;exact⟨T',e,k⟩
  obtain⟨T7,x7,j7⟩:=Gw (S:=T6) (n:=N) (far:=6) h6 h8 ();obtain⟨r8,m8,T8,x8,l8⟩:=Q9 (S:=T7) h6 h8;have w8:rZ false (.ref r8) (.ref T8.length) (T8++[O.lst []])=.ok (.bl false) (T8++[O.lst []]):=zY (by
   show(iL _ _).bind _=_;rw[jy l8,bT,i8,bT]
   cases m8<;>rfl)
  have l8':=jy (o:=O.lst []) l8;have w8':∀T,rZ true (.tup [.int 6,.int 1]) (.tup [.int 6,.int 1]) T=.ok (.bl false) T:=λT=>zE (k:=true) (by rw[WK];decide);obtain⟨r9,T9,x9,l9,hne,p6⟩:=TQ (S:=T8++[O.lst []]) h6 h8;have w9:=ne_nil (jy (o:=O.lst []) l9)<|i8 (S:=T9) (xs:=[]);obtain⟨ra,Ta,xa,la,_⟩:=N9 (S:=T9++[O.lst []]) h6 h8 p6 hne;have wa:=ne_nil (jy (o:=O.lst []) la)<|i8 (S:=Ta) (xs:=[]);have td:=NK (c:=iK 3) (d:=eC<|.int 0) (e:=SA Dq<|eC<|.int 1) (τ:=[.frz<|ns.map .int,.int<|0+(i:Int),.ref S.length,.int N,.int m,.int p,.tup<|u.map .int,.tup<|(rg N).map .int,.int far,.tup<|(at_ N 6).map .int,.ref r8,b2]) (S:=Ta++[O.lst []]) (S1:=Ta++[O.lst []]) (S2:=Ta++[O.lst []]) (S3:=Ta++[O.lst []]) (i:=(N:Int)) (j:=0) (by dsimp[jx,bools]) (by dsimp[jx,bools]) (by dsimp[jx,bools]) (lZ () ()) (lZ ⋯ ⋯) ();obtain⟨rb,Tb,xb,lb,_⟩:=N7 (S:=Ta++[O.lst []]) h6 h8<|EB N;have wb:rZ true (.ref rb) (.ref Tb.length) (Tb++[O.lst [.tup [.int 0,.int 1]]])=.ok (.bl false) (Tb++[O.lst [.tup [.int 0,.int 1]]]):=zE (k:=true) (by
   show(iL _ _).bind _=_;rw[jy lb,bT,i8,bT];rfl)
  obtain⟨rc,qc,Tc,xc,lc,lc',_⟩:=O5 (S:=Tb++[O.lst [.tup [.int 0,.int 1]]]) h6 h8<|EB N;have wc:rZ true (.ref rc) (.ref (Tc++[O.lst []]).length) (Tc++[O.lst []]++[O.lst [.ref Tc.length]])=.ok (.bl false) (Tc++[O.lst []]++[O.lst [.ref Tc.length]]):=zE (k:=true) (by
   show(iL _ _).bind _=_;rw[jy<|jy lc,bT,i8,bT];show(((iL _ qc).bind λxs=>(iL _ Tc.length).bind λys=>sZ (yp _ 10) xs ys).bind λp=>(sZ _ [] []).map λq=>p && q)=_;rw[jy<|jy lc',jy i8];rfl)
  have mu:w6 (.int (N:Int)) (.int<|(N:Int)-1) T3=.ok (.int<|(N:Int) * ((N:Int)-1)) T3:=Ey () ();have fd:yG (.int<|(N:Int) * ((N:Int)-1)) (.int 2) T3=.ok (.int (B:Int)) T3:=by rw[<- hB2];exact D5 ⋯ ⋯
  have x7:nY [.int N,.int 6] T6=.ok (.tup<|(at_ N 6).map .int) T7:=x7;have e6:je [.tup<|x.map .int,.tup<|y.map .int,.str<|PySem.Str.ofString "pair"] S5=.ok (.bl true) S6:=e6;have e9:je [.tup<|u.map .int,.tup<|u.map .int,.str<|PySem.Str.ofString "many"] S8=.ok (.bl true) S9:=e9;have x2:je [.tup<|u.map .int,.tup<|v.map .int,.str<|PySem.Str.ofString "many"] T1=.ok (.bl true) T2:=x2;have x6:je [.tup<|(rg N).map .int,.tup<|(at_ N far).map .int,.str<|PySem.Str.ofString "many"] T5=.ok (.bl true) T6:=x6;unfold E1;dsimp[jx,mJ,bools,jD,Nat.reduceAdd,Nat.reduceSub,cC,e1,e2,<- hn,e3,hmd,<- hm,e4,e5,e6,e7,<- hp,e8,e9,x1,x2,x3,<- hN,CZ rr,mu,fd,x4,<- hfar,x5,x6,x7,x8,w8,l8',BA,zF,w8',x9,w9,xa,wa,td,xb,wb,xc,wc];exact⟨_,_,rfl,_,_,_,_,_,_,_,_,_,_,_,rfl⟩
 ·rintro τ S ⟨a1,a2,a3,a4,a5,a6,a7,a8,a9,b1,b2,rfl⟩;dsimp[jx,bools];exact⟨_,rfl⟩
end K37
namespace K37
open PySem L2 Am
def all_mk{l:PySem.W.OpenLaw}{w:ah}{K:au}{h:aq}{mg:Str->ba}{fa:ak}(X:K.In h)(G:h.Ns mainGlobals mg)(hfa:mg "law" = some (.ref fa))
  (a1:Df K "is_whole" sG)
  (a2:Df K "need_pair" rf)
  (a3:Df K "is_exchange" pK)
  (a4:Df K "exchanged_places" lR)
  (a5:Df K "exchanged" qP)
  (a6:Df K "place_pairs" pG)
  (a7:Df K "wrong_pairs" pO)
  (a8:Df K "length" xP)
  (a9:Df K "falls" AR)
  (a10:Df K "first_above_nought" kP)
  (a11:Df K "bar" MT)
  (a12:Df K "is_below" su)
  (a13:Df K "need_bounds" pF)
  (a14:Df K "as_polynomial" ni)
  (a15:Df K "plus" D4)
  (a16:Df K "times" AK)
  (a17:Df K "need_rest" qZ)
  (a18:Df K "rest_by_fall" n_)
  (a19:Df K "found_rest" nG)
  (a20:Df K "rest" Dg)
  (a21:Df K "rows_of" t7)
  (a22:Df K "rising_rows" oW)
  (a23:Df K "_law_bag" ug)
  (a24:Df K "_law_digit" qU)
  (a25:Df K "_law_order" qR)
  (a26:Df K "_law_is" v9)
  (a27:Df K "_law_refused" pD)
  (a28:Df K "_law_at" ye)
  (a29:Df K "law" J5)
  (ZW:PySem.W.nsIn K mainGlobals "isinstance" = some none)
  (ZX:PySem.W.nsIn K mainGlobals "bool" = some none)
  (ZY:PySem.W.nsIn K mainGlobals "int" = some none)
  (ZZ:PySem.W.nsIn K mainGlobals "len" = some none)
  (Z0:PySem.W.nsIn K mainGlobals "list" = some none)
  (Z1:PySem.W.nsIn K mainGlobals "tuple" = some none)
  (Z2:PySem.W.nsIn K mainGlobals "range" = some none)
  (Z3:PySem.W.nsIn K mainGlobals "max" = some none)
  (Z4:PySem.W.nsIn K mainGlobals "sorted" = some none)
  (Z5:PySem.W.nsIn K mainGlobals "dict" = some none)
  (Z6:PySem.W.nsIn K mainGlobals "enumerate" = some none)
  (Z7:PySem.W.nsIn K mainGlobals "ValueError" = some none)
  (Z8:PySem.W.nsIn K mainGlobals "min" = some none)
  {ZS:Tok} (Z9:PySem.W.nsIn K mainGlobals "MOST_PAIRS" = some (some<|.int 6 ZS))
  {ZT:Tok} (Z_:PySem.W.nsIn K mainGlobals "MOST_THINGS" = some (some<|.int 8 ZT))
  {ZU:Tok} (aaa:PySem.W.nsIn K mainGlobals "FREE_THINGS" = some (some<|.int 5 ZU))
  {U C_NoPair C_NoWord C_TooMany C_NoNumber C_NoName C_NoRow C_NoText C_NoTables:ak} (u0:PySem.W.nsIn K mainGlobals "UnderError" = some (some<|.ref U)) (u1:L2.mroIn K U=some Qj)
  (YW:ExcK K U "NoPair" C_NoPair)
  (YX:ExcK K U "NoWord" C_NoWord)
  (YY:ExcK K U "TooMany" C_TooMany)
  (n_NoNumber:PySem.W.nsIn K mainGlobals "NoNumber" = some (some<|.ref C_NoNumber))
  (n_NoName:PySem.W.nsIn K mainGlobals "NoName" = some (some<|.ref C_NoName))
  (n_NoRow:PySem.W.nsIn K mainGlobals "NoRow" = some (some<|.ref C_NoRow))
  (n_NoText:PySem.W.nsIn K mainGlobals "NoText" = some (some<|.ref C_NoText))
  (n_NoTables:PySem.W.nsIn K mainGlobals "NoTables" = some (some<|.ref C_NoTables))
  (k_TooMany_TooMany:PySem.W.kitOne K (.ref C_TooMany) (.ref C_TooMany)=some true)
  (k_NoWord_TooMany:PySem.W.kitOne K (.ref C_NoWord) (.ref C_TooMany)=some false)
  (k_NoPair_TooMany:PySem.W.kitOne K (.ref C_NoPair) (.ref C_TooMany)=some false)
  (k_TooMany_NoPair:PySem.W.kitOne K (.ref C_TooMany) (.ref C_NoPair)=some false)
  (k_NoWord_NoPair:PySem.W.kitOne K (.ref C_NoWord) (.ref C_NoPair)=some false)
  (k_NoPair_NoPair:PySem.W.kitOne K (.ref C_NoPair) (.ref C_NoPair)=some true)
  (k_TooMany_NoNumber:PySem.W.kitOne K (.ref C_TooMany) (.ref C_NoNumber)=some false)
  (k_NoWord_NoNumber:PySem.W.kitOne K (.ref C_NoWord) (.ref C_NoNumber)=some false)
  (k_NoPair_NoNumber:PySem.W.kitOne K (.ref C_NoPair) (.ref C_NoNumber)=some false)
  (k_TooMany_NoWord:PySem.W.kitOne K (.ref C_TooMany) (.ref C_NoWord)=some false)
  (k_NoWord_NoWord:PySem.W.kitOne K (.ref C_NoWord) (.ref C_NoWord)=some true)
  (k_NoPair_NoWord:PySem.W.kitOne K (.ref C_NoPair) (.ref C_NoWord)=some false)
  (k_TooMany_NoName:PySem.W.kitOne K (.ref C_TooMany) (.ref C_NoName)=some false)
  (k_NoWord_NoName:PySem.W.kitOne K (.ref C_NoWord) (.ref C_NoName)=some false)
  (k_NoPair_NoName:PySem.W.kitOne K (.ref C_NoPair) (.ref C_NoName)=some false)
  (k_TooMany_NoRow:PySem.W.kitOne K (.ref C_TooMany) (.ref C_NoRow)=some false)
  (k_NoWord_NoRow:PySem.W.kitOne K (.ref C_NoWord) (.ref C_NoRow)=some false)
  (k_NoPair_NoRow:PySem.W.kitOne K (.ref C_NoPair) (.ref C_NoRow)=some false)
  (k_TooMany_NoText:PySem.W.kitOne K (.ref C_TooMany) (.ref C_NoText)=some false)
  (k_NoWord_NoText:PySem.W.kitOne K (.ref C_NoWord) (.ref C_NoText)=some false)
  (k_NoPair_NoText:PySem.W.kitOne K (.ref C_NoPair) (.ref C_NoText)=some false)
  (k_TooMany_NoTables:PySem.W.kitOne K (.ref C_TooMany) (.ref C_NoTables)=some false)
  (k_NoWord_NoTables:PySem.W.kitOne K (.ref C_NoWord) (.ref C_NoTables)=some false)
  (k_NoPair_NoTables:PySem.W.kitOne K (.ref C_NoPair) (.ref C_NoTables)=some false)
  : ∃fd:FuncData,(∀(s:aC) (v:af),BindsTo s fd ⟨[v],[]⟩ [("_law_script",v)])/\∀base:aq,K.In base->base.Ns mainGlobals mg->FnOk l.prog w K mg base sq 51 fa fd ["_law_script"] (tZ K 1 yX):=by
 obtain⟨f,fd,a,F⟩:=a29;have e:=hfa.symm.trans (cD X G a)
 cases e
 have ZG:=cD X G YY.n;have ZH:=cD X G YW.n;have ZI:=cD X G n_NoNumber;have ZJ:=cD X G YX.n;have ZK:=cD X G n_NoName;have ZL:=cD X G n_NoRow;have ZM:=cD X G n_NoText;have ZN:=cD X G n_NoTables;have Y3:=bU X G ZW;have Zn:=bU X G ZX;have Zo:=bU X G ZY;have YZ:=bU X G ZZ;have Y6:=bU X G Z0;have Y4:=bU X G Z1;have Y0:=bU X G Z2;have Zb:=bU X G Z3;have Zd:=bU X G Z4;have Zu:=bU X G Z5;have ZE:=bU X G Z6;have ZO:=bU X G Z7;have ZP:=bU X G Z8;have Zv:∃t,mg "MOST_PAIRS" = some (.int 6 t):=⟨ZS,cD X G Z9⟩;have Zx:∃t,mg "MOST_THINGS" = some (.int 8 t):=⟨ZT,cD X G Z_⟩;have Zy:∃t,mg "FREE_THINGS" = some (.int 5 t):=⟨ZU,cD X G aaa⟩;refine⟨fd,λs v=>(by obtain⟨_,_,_,_,_,_,_,_,_,rfl,_,_⟩:=F.ex;exact .of_eq rfl),λbase _ _=>?_⟩;have E:En l.prog w K mg base:=⟨h,X,G⟩;have Zp:=a1.kA E (λF=>Cr F Y3 Zn Zo)<|Uc λ_ _ _ _ _ _ _=>rfl;have Zc:=a2.kX E (λF=>zL F YW YZ)<|Dh λ_ _ _ _ _ _ _ _=>rfl;have Zq:=a3.kA E (λF=>wO F Zp)<|Dh λ_ _ _ _ _ _ _ _=>rfl;have Y_:=a4.kA E (λF=>rS F Y6 Y4)<|Vh λ_ _ _ _ _ _ _ _ _=>rfl;have Zk:=a5.kX E (λF=>AN F YX YZ Zq Y_)<|Dh λ_ _ _ _ _ _ _ _=>rfl;have Za:=a6.kA E (λF=>xC F Y0)<|Uc λ_ _ _ _ _ _ _=>rfl;have Zr:=a7.kA E (λF=>vR F YZ Za)<|Uc λ_ _ _ _ _ _ _=>rfl;have Zi:=a8.kA E (λF=>Ht F YZ Zr)<|Uc λ_ _ _ _ _ _ _=>rfl;have Zj:=a9.kA E (λF=>K7 F Y0 YZ)<|Uc λ_ _ _ _ _ _ _=>rfl;have Zs:=a10.kA E (λF=>qG F)<|Uc λ_ _ _ _ _ _ _=>rfl;have Zt:=a11.kX E (λF=>Q6 F YZ Y0 Zb Zc Zs)<|Dh λ_ _ _ _ _ _ _ _=>rfl;have Y7:=a12.kX E (λF=>Bg F Zt)<|Dh λ_ _ _ _ _ _ _ _=>rfl;have Zz:=a13.kX E (λF=>wM F YY YZ Zi)<|YJ λ_ _ _ _ _ _ _ _ _ _ _=>rfl;have Ze:=a14.kA E (λF=>ux F Zd)<|Uc λ_ _ _ _ _ _ _=>rfl;have ZA:=a15.kA E (λF=>Np F Zu Ze)<|Dh λ_ _ _ _ _ _ _ _=>rfl;have ZC:=a16.kA E (λF=>Ke F Ze)<|Dh λ_ _ _ _ _ _ _ _=>rfl;have Zf:=a17.kX E (λF=>zG F Zv Zx Zy Zc Zz)<|Dh λ_ _ _ _ _ _ _ _=>rfl;have M_rest_by_fall:∀{Fs:ad->iN->R A} {kr:Nat},t6 l.prog w K mg base (4+2 * kr) "found_rest" jN Fs->t6 l.prog w K mg base (4+2 * kr+1) "rest_by_fall" kQ (jQ jZ<|jF Fs):=λG=>a18.kX E (λF=>vc F Zj Zk ZA ZC G)<|Vh λ_ _ _ _ _ _ _ _ _=>rfl;have ZD:=a19.rX E (λF hm hk hb=>qQ F Y7 M_rest_by_fall hm hk hb 22)<|Vh λ_ _ _ _ _ _ _ _ _=>rfl;have Y8:=a20.kX E (λF=>Oo F Zf ZD)<|Dh λ_ _ _ _ _ _ _ _=>rfl;have ZF:=a21.kX E (λF=>Du F ZE Y_ Y7)<|Vh λ_ _ _ _ _ _ _ _ _=>rfl;have Y9:=a22.kX E (λF=>wA F Zd YZ Zf ZF Za)<|Dh λ_ _ _ _ _ _ _ _=>rfl;have ZQ:=a23.kA E (λF=>DY F YZ)<|Dh λ_ _ _ _ _ _ _ _=>rfl;have Y5:=a24.kA E (λF=>zP F)<|Dh λ_ _ _ _ _ _ _ _=>rfl;have Zh:=a25.kA E (λF=>Ae F Y6 Y0 YZ Y4 Y5)<|Dh λ_ _ _ _ _ _ _ _=>rfl;have Zl:=a26.kH E (λF=>Iz F YY YX YW ZG ZH ZI ZJ ZK ZL ZM ZN k_TooMany_TooMany k_NoWord_TooMany k_NoPair_TooMany k_TooMany_NoPair k_NoWord_NoPair k_NoPair_NoPair k_TooMany_NoNumber k_NoWord_NoNumber k_NoPair_NoNumber k_TooMany_NoWord k_NoWord_NoWord k_NoPair_NoWord k_TooMany_NoName k_NoWord_NoName k_NoPair_NoName k_TooMany_NoRow k_NoWord_NoRow k_NoPair_NoRow k_TooMany_NoText k_NoWord_NoText k_NoPair_NoText k_TooMany_NoTables k_NoWord_NoTables k_NoPair_NoTables Y3 ZO)<|Dh λ_ _ _ _ _ _ _ _=>rfl;have Zg:=a27.kA E (λF=>xh F u0 u1 YY YX YW Y8 Zl Y9)<|Vh λ_ _ _ _ _ _ _ _ _=>rfl;have Zm:=a28.kA E (λF=>Ii F Y6 Y0 Y4)<|Dh λ_ _ _ _ _ _ _ _=>rfl;exact Ub F Y0 Zb ZP YZ Y4 ZQ Y5 Zg Zh Zm Y8 Y9
def walk{l:PySem.W.OpenLaw}{q:aj}{XP:(Str->ba)->aq->Prop}{YP:ah->aq->Prop}{d:DefRec}{K:Params->au}(hn:l.most=some 63)(hdf:d.params.defaults=[])
  (hY:∀(w:ah) (h:aq),YP w h->(K w.params).In h)
  (F:∀(w:ah) (mg:Str->ba) (fa:ak) (h:aq),(K w.params).In h->h.Ns mainGlobals mg->mg d.name=some (.ref fa) ->
   ∃fd:FuncData,(∀(s:aC) (u:af),BindsTo s fd ⟨[u],[]⟩ [("_law_script",u)])/\∀base:aq,(K w.params).In base->base.Ns mainGlobals mg->FnOk l.prog w (K w.params) mg base sq 51 fa fd ["_law_script"] (tZ (K w.params) 1 yX)) :
  PySem.W.WalkO q loose XP YP l.row.toRowW d [] (λf vs=>PySem.call f vs):=
 L2.OH (n:=63) (k:=51) (x := "_law_script") (CX:=λ_=>sq) (sp:=λw=>tZ (K w.params) 1 yX) hn ⋯ hdf ⟨rfl,by decide,by decide⟩ hY F (λ_ H a ns hl hO hS=>Ir hO hS<|Rw ns hl) λ_ _ _ _ _ z=>z
end K37
open PySem PySem.W PyProof.Rows
namespace PySem.W.Fast
def tw3544731333319288809:=Nat
def tw9705027632052966484:=Nat
def tw15814648113792545104:=Nat
def tw12660795523007509112:=Nat
def tw10822311930341770283:=Nat
def tw8135256265633794543:=Nat
def tw285391695713691445:=Nat
def tw1608067303985118992:=Nat
def tw4341030433250437362:=Nat
def tw7899374793692714490:=Nat
def tw14145959364001740974:=Nat
def tw12481899271842807151:=Nat
def tw5982786918982286430:=Nat
def tw6067027300076321842:=Nat
def tw13616696156198249244:=Nat
def tw7933200326258405148:=Nat
def tw10284876004740587402:=Nat
def tw10392251767202318632:=Nat
def tw7988865210119259825:=Nat
def tw8580452578895170378:=Nat
def tw12463363543379799044:=Nat
def tw7862495718417510419:=Nat
def tw5505112848774607462:=Nat
def tw1712203570510764684:=Nat
def tw10749063717703599155:=Nat
def tw14078100205435308519:=Nat
def tw2530962662938381572:=Nat
def tw8058186505651948445:=Nat
def tw11856301248098937209:=Nat
def tw13066162302463585401:=Nat
def tw978799150265472103:=Nat
def tw1466751696922848924:=Nat
def tw8609908823321842780:=Nat
def tw9023640002477906019:=Nat
def tw2398513822580538762:=Nat
def tw565953475257082128:=Nat
def tw6522653494901528930:=Nat
def tw9036570776125623640:=Nat
def tw4695893721080783410:=Nat
def tw13041669434031201207:=Nat
def tw9307434257428556034:=Nat
def tw2348535328943006870:=Nat
def tw15380877637024065853:=Nat
def tw18058935923637057220:=Nat
def tw17300837356191756208:=Nat
def tw9587811923716639289:=Nat
def tw6000689827932086186:=Nat
def tw8172274237111679818:=Nat
def tw3329361185056959888:=Nat
def tw14424508410966504693:=Nat
def tw15153177163981992717:=Nat
def tw7014653360680322811:=Nat
def tw16065152329466735212:=Nat
def tw7672595894834256889:=Nat
def tw870993006473319464:=Nat
def tw12043310921864481338:=Nat
def tw5673540554958496339:=Nat
def tw3924241642106458341:=Nat
def tw1640684586124439860:=Nat
def tw2058462113596013856:=Nat
def tw12492340939173136095:=Nat
def tw324119727995699660:=Nat
def tw11427401581583812563:=Nat
def tw1177038876916694951:=Nat
def tw2088158272379021296:=Nat
def tw15766366483184024027:=Nat
def tw15074462564186902419:=Nat
def tw8850804459132068308:=Nat
def tw14019769089727068458:=Nat
def tw3534973706972863951:=Nat
def tw10675645459659375765:=Nat
def tw187400125154530599:=Nat
def tw8063850951102341844:=Nat
def tw4515734274807287513:=Nat
def tw17663953793969244018:=Nat
def tw3593659393247021253:=Nat
def tw14356020900054197932:=Nat
def tw3475483903645348245:=Nat
def tw3814718621062370831:=Nat
def tw9399387231413223417:=Nat
def tw717461602529713444:=Nat
def tw9439397541919403582:=Nat
def tw16402105281112061350:=Nat
def tw6081332590343916780:=Nat
def tw11711002270891787084:=Nat
def tw2462221322987062905:=Nat
def tw3115881149697696439:=Nat
def tw18284992963015162309:=Nat
def tw10732018182800387738:=Nat
def tw7145301047181047273:=Nat
def tw830419510576378265:=Nat
def tw2394386958477208819:=Nat
def tw3925739164513217351:=Nat
def tw2349588393514815493:=Nat
def tw5479709187690789560:=Nat
def tw6214396036530170752:=Nat
def tw16580820620943365644:=Nat
def tw11287439277765889013:=Nat
def tw15367417016462817718:=Nat
def tw1356055705625327493:=Nat
def tw4014155775069176629:=Nat
def tw17753837642457975529:=Nat
def tw1119794635392807795:=Nat
def tw9241000729981900319:=Nat
def tw7167731508803699101:=Nat
def tw11457642604612582502:=Nat
def tw5392852761097405823:=Nat
def tw3550295996683215502:=Nat
def tw9737268576046252177:=Nat
def tw8322160059115337460:=Nat
def tw17216871379851246816:=Nat
def tw16633437907515023949:=Nat
def tw3715074349548845277:=Nat
def tw6700365176968051182:=Nat
def tw11969077590378965656:=Nat
def tw4721571222906083263:=Nat
def tw8370538577977887907:=Nat
def tw11632363713225198307:=Nat
def tw15049243925683594337:=Nat
def tw8008681632889158739:=Nat
def tw14581786971191613649:=Nat
def tw15344123832341561541:=Nat
def tw5841480671166833610:=Nat
def tw4490171836085811539:=Nat
def tw2512987953339189260:=Nat
def tw16707417457588314162:=Nat
def tw14501333377502208147:=Nat
def tw12983537911959859104:=Nat
def tw17679873340684602572:=Nat
def tw12722823118197658875:=Nat
def tw7010036216100239164:=Nat
def tw10277982391546034927:=Nat
def tw1987628107047668150:=Nat
def tw1172643354659215060:=Nat
def tw18385047431525448942:=Nat
def tw17000603012512313111:=Nat
def tw9813051882863752141:=Nat
def tw17041305338642909831:=Nat
def tw18425017742666997736:=Nat
def tw7696581194535562007:=Nat
end PySem.W.Fast
set_option maxRecDepth 100000 in
set_option maxHeartbeats 0 in
theorem PySem.Challenge.cw_undercells_k37_rests_refused_holds : PySem.Challenge.rw_undercells_k37_rests_refused.Holds := by
 w_on;o_law;k_head;(case hw=>w_witness2)
 k_fill
 refine K37.walk (l:=PySem.Challenge.rw_undercells_k37_rests_refused) rfl rfl (fun w h Y=>PySem.W.kIn_of Y) ?F
 case F=>
  intro w mg fa h KX G hmg;refine' K37.all_mk KX G hmg (.of ?_ ?_ ?_ ?_) (.of ?_ ?_ ?_ ?_) (.of ?_ ?_ ?_ ?_) (.of ?_ ?_ ?_ ?_) (.of ?_ ?_ ?_ ?_) (.of ?_ ?_ ?_ ?_) (.of ?_ ?_ ?_ ?_) (.of ?_ ?_ ?_ ?_) (.of ?_ ?_ ?_ ?_) (.of ?_ ?_ ?_ ?_) (.of ?_ ?_ ?_ ?_) (.of ?_ ?_ ?_ ?_) (.of ?_ ?_ ?_ ?_) (.of ?_ ?_ ?_ ?_) (.of ?_ ?_ ?_ ?_) (.of ?_ ?_ ?_ ?_) (.of ?_ ?_ ?_ ?_) (.of ?_ ?_ ?_ ?_) (.of ?_ ?_ ?_ ?_) (.of ?_ ?_ ?_ ?_) (.of ?_ ?_ ?_ ?_) (.of ?_ ?_ ?_ ?_) (.of ?_ ?_ ?_ ?_) (.of ?_ ?_ ?_ ?_) (.of ?_ ?_ ?_ ?_) (.of ?_ ?_ ?_ ?_) (.of ?_ ?_ ?_ ?_) (.of ?_ ?_ ?_ ?_) (.of ?_ ?_ ?_ ?_) ?_ ?_ ?_ ?_ ?_ ?_ ?_ ?_ ?_ ?_ ?_ ?_ ?_ ?_ ?_ ?_ ?_ ?_ ⟨(show nsIn _ _ _=_ from ?_),?_,?_,⟨?_,?_,?_,?_,?_⟩,?_,?_⟩ ⟨(show nsIn _ _ _=_ from ?_),?_,?_,⟨?_,?_,?_,?_,?_⟩,?_,?_⟩ ⟨(show nsIn _ _ _=_ from ?_),?_,?_,⟨?_,?_,?_,?_,?_⟩,?_,?_⟩ ?_ ?_ ?_ ?_ ?_ ?_ ?_ ?_ ?_ ?_ ?_ ?_ ?_ ?_ ?_ ?_ ?_ ?_ ?_ ?_ ?_ ?_ ?_ ?_ ?_ ?_ ?_ ?_ ?_
  any_goals first|k_is|kernel_rfl
