import PyProof.Rows.All
import Wide.All
import OpenK.AllK
import Wide.FinOn
import Lean
import PyProof.EqAt
import PyProof.EqKinds
import PyProof.TupleCall
import PySem.Challenge.RW_undercells_k36_rests_turned_over
set_option autoImplicit true
set_option relaxedAutoImplicit true
set_option Elab.async false
set_option linter.all false
set_option maxRecDepth 100000
set_option maxHeartbeats 4000000
local macro_rules|`(command|abbrev $n:declId $s:optDeclSig $v:declVal)=>`(command|noncomputable def $n:declId $s:optDeclSig $v:declVal)|`(command|meta abbrev $n:declId $s:optDeclSig $v:declVal)=>`(command|@[reducible]noncomputable def $n:declId $s:optDeclSig $v:declVal)
local macro_rules|`(∅)=>`(by decide +kernel)
local macro_rules|`(⋯)=>`(by decide)
local macro_rules|`(tactic|dsimp[$l,*])=>`(tactic|simp only[$l,*])|`(tactic|dsimp[$l,*]$o:location)=>`(tactic|simp only[$l,*]$o:location)
local macro_rules(kind:=Lean.Parser.Term.structInst)|`({})=>`({cls:=.type "list",data:=.seq ([]:List PySem.Value).toArray})
set_option hygiene false
local macro_rules|`(tactic|z_go)=>`(tactic|obtain⟨ρ,S,τ,R,r,h⟩:=h9)
local macro_rules|`(tactic|x_go)=>`(tactic|obtain⟨ρ,S,a,b,R,va,vb,h⟩:=h9)
local macro_rules|`(tactic|w_up)=>`(tactic|intro pins s σ H Q I h)
local macro_rules|`(tactic|k_ne)=>`(tactic|intro X hP hw hK hc i pins s σ H E I hf st hg)
local macro_rules|`(tactic|kt_k)=>`(tactic|intro pins s σ H xs us Q I r h)
local macro_rules|`(tactic|kd_p)=>`(tactic|intro pins s σ H x y v u Q I rx ry h)
local macro_rules|`(tactic|gn_on)=>`(tactic|obtain⟨f0,f1,f2,f3,f4,f5⟩:=hf it (by simp))
local macro_rules|`(tactic|gp_on)=>`(tactic|refine⟨ρ,S,τ,R,r,iF (iL h) .refl λo S1 h1 ρ1 H1 x e1 R1 v1=>⟨ρ1,S1,τ,R1,r.ext e1,iF (iL h1) e1 λi S2 h2 ρ2 H2 y e2 R2 v2=>?_⟩⟩)
local macro_rules|`(tactic|kj_on)=>`(tactic|obtain⟨xs,hn,h⟩:=iQ h)
local macro_rules|`(tactic|kcf_m)=>`(tactic|refine⟨ρ2,S2,o,i,a,R2,v1.ext e2,v2,va.ext (e1.trans e2),iF (iL h2) (e1.trans e2) λ_ S3 h3 ρ3 H3 e3 R3=>?_⟩)
local macro_rules|`(tactic|kcj_m)=>`(tactic|have hfree:∀y∈scope.names,y.2=.free->∃c,X.env.cells.lookup y.1=some c:=λy hy e=>I.ok.has _ (S.fr y hy e))
local macro_rules|`(tactic|kpc_g)=>`(tactic|obtain⟨w,rfl,ρ,S,x,R,hv,h⟩:=Rc h0)
local macro_rules|`(tactic|kpf_c)=>`(tactic|obtain⟨u,rfl,rx⟩:=vals1 r)
local macro_rules|`(tactic|ksr_p)=>`(tactic|intro value slice pins s σ H x y v u Q I rx ry h hs)
local macro_rules|`(tactic|kst_p)=>`(tactic|obtain⟨ρ,S,τ,R,r,h⟩:=h)
local macro_rules|`(tactic|kln_w)=>`(tactic|intro pins s σ H D I h)
local macro_rules|`(tactic|kl_no)=>`(tactic|refine aV (wpS_lift (dW ⟨rfl,?_⟩)))
local macro_rules|`(tactic|mg_lt)=>`(tactic|obtain⟨t,rfl⟩:=rx)
local macro_rules|`(tactic|cb_eq)=>`(tactic|exact h3 ρ3 H3 σ ((e1.trans e2).trans e3) R3 (r.ext ((e1.trans e2).trans e3)))
local macro_rules|`(tactic|o_rec)=>`(tactic|exact I1.DU (aQ _) (I1.hok.fresh (aQ _)))
local macro_rules|`(tactic|f_are)=>`(tactic|refine aV (jc (kI hy) ?_))
set_option hygiene true
local macro_rules|`(())=>`(by lia)
@[reducible]def ae:=List Int
@[reducible]def ag:=List Nat
@[reducible]def ap:=List PySem.Str
@[reducible]def ar:=List PySem.Value
@[reducible]def ba:=List PySem.Addr
@[reducible]def bb:=Option PySem.Value
@[reducible]def bd:=Option Int
@[reducible]def bi:=Option Bool
@[reducible]def bj:=Option Nat
@[reducible]def bn:=List<|PySem.Addr×PySem.Obj
def aG:=@List.getElem?_eq_getElem
def aH:=@PySem.wpAny_bind
def aI:=@List.getD_eq_getElem?_getD
def aJ:=@if_neg
def aK:=@List.length_map
def aL:=@if_pos
def aM:=@List.getElem?_eq_some_iff
def aN:=@List.mem_cons_self
def aO:=@PySem.wpAny_pure
def aP:=@List.mem_cons_of_mem
def aQ:=@Nat.le_refl
def aR:=@PySem.Heap.get?_push_of_some
def aS:=@decide_eq_false
def aT:=@decide_eq_true
def aU:=@Option.some.inj
def aV:=@PyProof.Rows.wpS_bind
def aW:=@List.size_toArray
def aX:=@List.length_append
def aY:=@List.mem_of_getElem?
def aZ:=@Bool.false_eq_true
def a_:=@PyProof.Rows.wpS_pure
def bg:=@List.getElem?_append_left
def bh:=@List.getElem?_map
def bq:=@List.length_take
def br:=@PySem.Heap.lt_size
def bu:=@Option.map_eq_some_iff
def bz:=@List.length_cons
def bA:=@List.mem_append_right
def bB:=@PySem.Heap.get?_push_size
def bC:=@List.getElem?_eq_none
def bD:=@Nat.ne_of_lt
def bE:=@List.getElem?_set_self
def bF:=@List.mem_append
def bG:=@List.append_assoc
def bH:=@Bool.false_ne_true
def bI:=@List.mem_singleton
def bJ:=@List.mem_cons
def bK:=@beq_self_eq_true
def bL:=@List.getElem?_set_ne
def bM:=@Nat.lt_of_lt_of_le
def bN:=@if_false
def bO:=@List.length_set
def bP:=@Nat.le_trans
def bQ:=@PySem.wpAny_newObj_type
def bR:=@List.length_drop
def bS:=@List.map_cons
def bU:=@List.ext_getElem?
def bV:=@List.drop_eq_getElem_cons
def bW:=@List.mem_map
def bX:=@List.pairwise_append
def bY:=@List.getElem?_append_right
def bZ:=@List.pairwise_cons
def b9:=@PySem.W.mg_none_of
def b_:=@Bool.not_true
def cg:=@List.length_nil
def cj:=@List.map_append
def cu:=@PySem.PassesOwn.never
def cA:=@List.mem_of_mem_take
def cB:=@of_decide_eq_true
def cC:=@PyProof.Rows.slot_tuple_getitem
def cD:=@Array.length_toList
def cE:=@if_true
def cF:=@List.length_reverse
def cG:=@PyProof.Rows.wpS_forRange
def cH:=@List.map_map
def cI:=@List.find?_cons
def cJ:=@Option.bind_eq_some_iff
def cK:=@List.length_range
def cL:=@Nat.zero_le
def cM:=@PySem.W.kia_one
def cN:=@List.append_nil
def cO:=@Nat.lt_succ_self
def cP:=@List.countP_cons
def cQ:=@List.getElem?_range
def cR:=@PySem.sizeLine_eq
def cT:=@List.forall_mem_cons
def cU:=@List.take_of_length_le
def cV:=@List.getElem_map
def cW:=@beq_eq_false_iff_ne
def cX:=@List.replicate_succ
def cY:=@PySem.wpAny_truthy_bool
def cZ:=@List.reverse_cons
def c5:=@List.set_append_right
def c6:=@PySem.AutoSeq1.wpAny_loadPart'
def c7:=@List.nodup_cons
def c8:=@List.getElem_inj
def c9:=@List.pairwise_singleton
def c_:=@List.getElem_mem
def dc:=@Ne.symm
def dg:=@PySem.wpAny_holding
def dh:=@List.nodup_append
def di:=@List.pairwise_iff_getElem
def dj:=@congrArg
def dm:=@List.take_append_drop
def dw:=@List.getElem?_reverse
def dz:=@Bool.and_eq_true
def dB:=@List.getElem?_take_of_lt
def dD:=@Int.zero_add
def dF:=@List.mem_range
def dG:=@List.mem_append_left
def dH:=@List.range_eq_range'
def dI:=@Bool.not_false
def dJ:=@List.flatten_cons
def dM:=@List.length_eq_zero_iff
def dN:=@List.mem_filter
def dO:=@Option.map_some
def dP:=@PyProof.Rows.wpS_mono
def dQ:=@PyProof.Rows.callWith_type1
def dR:=@PySem.wpAny_call_entry
def dS:=@List.prefix_refl
def dU:=@PySem.F.slot_tuple_iterator_next
def dW:=@PySem.wpAny_rule
def dX:=@List.getElem?_drop
def dY:=@of_decide_eq_false
def dZ:=@List.getElem?_toArray
def d7:=@PySem.wpAny_passesOwn
def d8:=@List.foldl_cons
def d9:=@Nat.not_lt_zero
def d_:=@Int.toNat_natCast
def eg:=@PySem.wpAny_field
def eo:=@Nat.zero_add
def eB:=@List.pairwise_map
def eE:=@List.mem_of_mem_drop
def eF:=@Int.add_zero
def eG:=@PySem.mem_of_lookup
def eK:=@PySem.wpAny_callSpecial?_slot
def eL:=@Option.getD_some
def eN:=@List.getElem?_cons_succ
def eO:=@List.mem_reverse
def eS:=@PyProof.Rows.wpS_modify
def eT:=@List.prefix_append
def eU:=@List.getElem_range
def eV:=@PySem.wpAny_specialOf
def eW:=@Nat.min_eq_left
def eX:=@Nat.lt_irrefl
def eY:=@PySem.wpAny_standAt
def eZ:=@List.any_cons
def e9:=@Nat.add_assoc
def e_:=@Array.getElem?_toList
def ff:=@PySem.F.slot_dict_get
def fh:=@Array.toList_push
def fj:=@decide_eq_true_eq
def fm:=@List.foldl_append
def fq:=@List.flatMap_cons
def fu:=@PySem.Around.under_plainId
def fy:=@List.take_zero
def fB:=@List.reverse_reverse
def fC:=@List.nodup_nil
def fD:=@Int.le_refl
def fF:=@List.lookup_cons
def fG:=@List.range'_succ
def fH:=@Nat.sub_self
def fJ:=@List.ext_getElem
def fK:=@decide_eq_decide
def fL:=@Option.isSome_iff_exists
def fM:=@PySem.F.args_tuple_add_2
def fN:=@PySem.F.slot_list_getattribute
def fO:=@List.sum_cons
def fP:=@PySem.wpAny_mono
def fQ:=@PySem.wpAny_pyIter_tuple
def fR:=@Int.emod_lt_of_pos
def fS:=@Option.isSome_none
def fU:=@List.getElem?_replicate
def fV:=@PySem.F.entry_tuple_add
def fW:=@PySem.F.slot_tuple_add
def fX:=@PySem.wpAny_typeOf
def fY:=@PySem.Heap.size_push
def fZ:=@List.pairwise_lt_range
def f6:=@PySem.wpAny_seqItems
def f7:=@PySem.F.slot_tuple_hash
def f9:=@PyProof.Rows.wpS_get
def f_:=@List.take_succ_eq_append_getElem
def gb:=@List.take_add_one
def gc:=@Nat.lt_of_succ_lt_succ
def gf:=@List.map_set
def gg:=@List.eraseIdxIfInBounds_toArray
def gh:=@PySem.isSubtype_tuple_tuple
def gp:=@List.length_filter_le
def gq:=@List.eq_nil_or_concat
def gr:=@List.concat_eq_append
def gu:=@List.singleton_append
def gv:=@PySem.wpAny_forIn_list
def gw:=@List.take_length
def gz:=@List.cons_append
def gA:=@Option.bind_some
def gB:=@Bool.false_or
def gC:=@PySem.W.mg_of
def gD:=@PySem.F.args_object_init_2
def gE:=@List.getElem?_of_mem
def gF:=@List.mem_iff_getElem
def gG:=@Nat.mul_le_mul_right
def gH:=@PySem.wpAny_execs_nil
def gI:=@PySem.codeAny_builtin
def gJ:=@Int.le_antisymm
def gK:=@PySem.F.slot_tuple_eq
def gM:=@List.filter_map
def gO:=@Int.emod_nonneg
def gP:=@List.countP_eq_length_filter
def gQ:=@List.filterMap_cons
def gR:=@List.map_congr_left
def gS:=@PySem.codeAny_mono
def gT:=@Bool.false_and
def gU:=@PySem.wpAny_Call_Name_kw
def gW:=@PySem.Heap.IsSliceOf.new
def gX:=@PySem.tupleKind_room_in1
def gY:=@PySem.wpAny_tupleItemsOf
def gZ:=@Array.forIn_toList
def g4:=@List.Perm.refl
def g5:=@Nat.add_sub_cancel
def g6:=@PySem.slot_list_getitem
def g7:=@bne_self_eq_false
def g8:=@List.reverse_perm
def g9:=@PySem.Paired.length
def g_:=@PySem.evalPart_none
def h_:=@List.filter_cons
def ie:=@List.any_eq_true
def ig:=@Nat.le_of_lt
def ir:=@PySem.call_meets
def iu:=@List.of_mem_zip
def iy:=@List.drop_zero
def iz:=@Array.size_zip
def iA:=@Bool.and_false
@[reducible]def af:=PySem.Value
@[reducible]def ah:=PySem.World
@[reducible]def aj:=PySem.Program
@[reducible]def ak:=PySem.Addr
@[reducible]def aq:=PySem.Heap
@[reducible]def au:=PySem.W.Frag
@[reducible]def aA:=PySem.Around
@[reducible]def aC:=PySem.Shared
@[reducible]def aE:=PySem.Expr
@[reducible]def aF:=PySem.Stmt
def anI{a b:Prop}(h:a)(k:b):a/\b:=⟨h,k⟩
open Array (size_map)
open Int (add_assoc ediv_one)
open List (map_drop map_nil map_take)
open Nat (lt_or_ge lt_trans ne_of_gt pow_succ succ_mul)
open Option (getD_none isSome_map isSome_some)
namespace L2
open PySem PySem.Spec PyProof.Rows
meta abbrev Key:=Sum Int Str
abbrev yC:Key->af->Bool
 | .inl k,v=>Value.isInt k v
 | .inr x,v=>Value.isStrOf x v
abbrev Wb (w:ah):Key->Int
 | .inl k=>hashInt k
 | .inr x=>hashStr w x
def jK:∀{k:Key}{v:af},yC k v=true->(∃i t,k=Sum.inl i/\v=Value.int i t)\/(∃x t,k=Sum.inr x/\v=Value.str x t)
 | .inl i,v,h=>by
  obtain⟨t,e⟩:=Value.isInt_shape (k:=i) (v:=v) h;exact .inl ⟨i,t,rfl,e⟩
 | .inr x,v,h=>by
  obtain⟨t,e⟩:=Value.isStrOf_shape (x:=x) (v:=v) h;exact .inr ⟨x,t,rfl,e⟩
def G0(i:Int)(t:Tok):yC (.inl i) (.int i t)=true:=by simp[yC,Value.isInt]
def Hf(x:Str)(t:Tok):yC (.inr x) (.str x t)=true:=by simp[yC,Value.isStrOf]
def TL(a b:Int):decide ((Sum.inl a:Key)=Sum.inl b)=(a == b):=by
 by_cases e:a=b
 ·subst e;simp
 ·have h:¬(Sum.inl a:Key)=Sum.inl b:=λq=>e<|Sum.inl.inj q;rw[aS h];exact(cW.mpr e).symm
def Rl(a b:Str):decide ((Sum.inr a:Key)=Sum.inr b)=decide (a=b):=by
 by_cases e:a=b
 ·subst e;simp
 ·have h:¬(Sum.inr a:Key)=Sum.inr b:=λq=>e<|Sum.inr.inj q;rw[aS h,aS e]
def TM(a:Int)(b:Str):decide ((Sum.inl a:Key)=Sum.inr b)=false:=aS λq=>nomatch q
def RP(a:Str)(b:Int):decide ((Sum.inr a:Key)=Sum.inl b)=false:=aS λq=>nomatch q
abbrev jn (prog:aj)(w:ah):PySem.KeyKind prog w Key where
 is:=yC
 hash:=Wb w
 inj:=λv a b ha hb=>by
  rcases jK ha with⟨i,t,rfl,rfl⟩|⟨x,t,rfl,rfl⟩
  ·rcases jK hb with⟨j,u,rfl,e⟩|⟨y,u,rfl,e⟩
   ·injection e with e1 _;rw[e1]
   ·exact nomatch e
  ·rcases jK hb with⟨j,u,rfl,e⟩|⟨y,u,rfl,e⟩
   ·exact nomatch e
   ·injection e with e1 _;rw[e1]
 byValue:=λk v h=>by
  rcases jK h with⟨i,t,rfl,rfl⟩|⟨x,t,rfl,rfl⟩<;>rfl
 pyHash:=λhv h=>by
  rcases jK hv with⟨i,t,rfl,rfl⟩|⟨x,t,rfl,rfl⟩
  ·exact wpAny_pyHash_int h
  ·exact wpAny_pyHash_str h
 eqBool:=λhu hv h=>by
  rcases jK hu with⟨i,t,rfl,rfl⟩|⟨x,t,rfl,rfl⟩
  ·rcases jK hv with⟨j,u,rfl,rfl⟩|⟨y,u,rfl,rfl⟩
   ·rw[TL]at h;exact wpAny_eqBool_int h
   ·rw[TM]at h;exact SeqAt.EqAt.int_str i t y u _ _ _ _ h
  ·rcases jK hv with⟨j,u,rfl,rfl⟩|⟨y,u,rfl,rfl⟩
   ·rw[RP]at h;exact SeqAt.EqAt.str_int x t j u _ _ _ _ h
   ·rw[Rl]at h;exact wpAny_eqBool_str h
 «strs»:=λk x t v h=>by
  rcases jK h with⟨i,u,rfl,e⟩|⟨y,u,rfl,e⟩
  ·exact nomatch e
  ·injection e with e1 _
   subst e1
   cases v<;>rfl
def Ck(prog:aj)(w:ah)(i:Int)(t:Tok):(jn prog w).is (.inl i) (.int i t)=true:=G0 i t
def BY(prog:aj)(w:ah)(x:Str)(t:Tok):(jn prog w).is (.inr x) (.str x t)=true:=Hf x t
inductive V where
 | non|bl (b:Bool)|int (i:Int)|str (x:Str)|byt (b:Array UInt8)|flt (b:UInt64)|ref (a:ak)|ty (n:String)
 deriving DecidableEq
abbrev RelV:V->af->Prop
 | .non,u=>u=Value.none
 | .bl b,u=>u=Value.bool b
 | .int i,u=>∃t,u=Value.int i t
 | .str x,u=>∃t,u=Value.str x t
 | .byt b,u=>∃t,u=Value.bytes b t
 | .flt b,u=>∃t,u=Value.float b t
 | .ref a,u=>u=Value.ref a
 | .ty n,u=>u=Value.type n
meta abbrev Vals:List V->ar->Prop:=Paired RelV
def Vals.length{xs:List V}{us:ar}(r:Vals xs us):xs.length=us.length:=g9 r
theorem Vals.get:∀{xs:List V}{us:ar}{i:Nat}{x:V},Vals xs us->xs[i]?=some x->∃u,us[i]?=some u/\RelV x u
 | _,_,_,_,.nil,e=>by simp at e
 | _,_,0,_,.cons r _,e=>by simp at e;subst e;exact⟨_,rfl,r⟩
 | _,_,i+1,x,.cons _ t,e=>by
  obtain⟨u,h1,h2⟩:=Vals.get (i:=i) (x:=x) t (by simpa using e);exact⟨u,by simpa using h1,h2⟩
theorem Vals.set{x:V}(r:RelV x u):∀{xs:List V}{us:ar}(i:Nat),Vals xs us->Vals (xs.set i x) (us.set i u)
 | _,_,_,.nil=>.nil
 | _,_,0,.cons _ t=>.cons r t
 | _,_,i+1,.cons q t=>.cons q<|Vals.set r i t
theorem Vals.append:∀{xs ys:List V}{us ws:ar},Vals xs us->Vals ys ws->Vals (xs++ys) (us++ws)
 | _,_,_,_,.nil,s=>s
 | _,_,_,_,.cons r t,s=>.cons r<|Vals.append t s
theorem Vals.take:∀{xs:List V}{us:ar}(n:Nat),Vals xs us->Vals (xs.take n) (us.take n)
 | _,_,0,_=>.nil
 | _,_,_+1,.nil=>.nil
 | _,_,n+1,.cons r t=>.cons r<|Vals.take n t
theorem Vals.drop:∀{xs:List V}{us:ar}(n:Nat),Vals xs us->Vals (xs.drop n) (us.drop n)
 | _,_,0,r=>r
 | _,_,_+1,.nil=>.nil
 | _,_,n+1,.cons _ t=>Vals.drop n t
abbrev uG:Option V->bb->Prop
 | some v,some u=>RelV v u
 | none,none=>True
 | _,_=>False
abbrev KV {κ:Type}:List (κ×V)->List (κ×af)->Prop:=Paired λ(p:κ×V) (q:κ×af)=>p.1=q.1/\RelV p.2 q.2
abbrev kV:Key->V
 | .inl i=>.int i
 | .inr x=>.str x
inductive HO where
 | lst (xs:List V)
 | tup (xs:List V)
 | dK (kvs:List<|Key×V)|dT (kvs:List<|List Key×V)
 | set (S:Int->Bool) (n:Nat)
 | ins (C dx:ak) (fs:List<|Str×V)
 | own (x:ak)
 | xd (fs:List<|Str×V)
 | met (f x:ak)
 | rng (lo hi:Int)
 | frz (o:Obj) (u:HO)
 | tbl (ps:Array af)
 | ext (φ:aq->Prop)
meta abbrev Hp:=ak->Option HO
abbrev upd (H:Hp)(a:ak)(o:HO):Hp:=λb=>if b=a then some o else H b
def jy{H:Hp}{a:ak}:upd H a o a=some o:=by unfold upd;rw[aL rfl]
def iR{H:Hp}{a:ak}(h:b≠a):upd H a o b=H b:=by unfold upd;rw[aJ h]
def Uj{H:Hp}{a:ak}(h:H a=some o)(h':H b=some u)(d:o≠u):a≠b:=by
 intro e;subst e;rw[h]at h';exact d<|aU h'
def iW{H:Hp}{a:ak}(h:H a=some o)(h':H b=none):a≠b:=by
 intro e;subst e;rw[h]at h';cases h'
abbrev lU (h:aq)(a:ak)(items:Array af):Prop:=∃o,h.get? a=some o/\o.cls=.type "tuple" /\ o.dict=none/\∃n,o.data=.seq items n
def lU.tup{a:ak}:lU h a items->IsTup h a items:=λ⟨o,e,c,_,n,d⟩=>⟨o,e,c,n,d⟩
def lU.new(h:aq)(items:Array af):lU (h.push { cls:=.type "tuple",data:=.seq items }) h.objs.size items:=⟨_,bB _ rfl,rfl,rfl,_,rfl⟩
def lU.lt{h:aq}{a:ak}(x:lU h a items):a<h.objs.size:=let⟨_,ho,_⟩:=x;br ho
section
variable (P:aj) (w:ah)
abbrev jC (H:Hp)(h:aq)(a:ak):HO->Prop
 | .lst xs=>xs.length<=sizeLine/\∃(its:ar) (n:Nat),Vals xs its/\h.get? a=some { cls:=.type "list",data:=.seq its.toArray n }
 | .tup xs=>xs.length<=sizeLine/\∃its:ar,Vals xs its/\lU h a its.toArray
 | .dK kvs=>kvs.length<=sizeLine/\(a == sysModules)=false/\∃vs,KV kvs vs/\h.DictOf (jn P w) a vs
 | .dT kvs=>kvs.length<=sizeLine/\(a == sysModules)=false/\∃xs:List<|List Key×ak×af,
   Paired (λ(p:List Key×V) (q:List Key×ak×af)=>p.1=q.1/\H q.2.1=some (.tup<|p.1.map kV)/\RelV p.2 q.2.2) kvs xs /\
   ∃o es ep,h.get? a=some o/\o.ExactDict/\o.data=.dict es ep/\es.toList=xs.map (entryOfKey<|tupleKind<|jn P w)/\(xs.map (·.1)).Nodup
 | .set S n=>h.SetOf (intKind P w) a S n
 | .ins C dx fs=>H dx=some (.own a)/\fs.length<=1000/\dx≠a/\h.get? a=some (PySem.W.instObj C dx) /\
   ∃mA,h.Ns1 dx mA/\(∀f,uG (fs.lookup f)<|mA f)/\PySem.Within mA (fs.map (·.1))
 | .own _=>∃o,h.get? a=some o
 | .xd fs=>∃mA,h.Ns1 a mA/\∀f,uG (fs.lookup f) (mA f)
 | .rng lo hi=>∃t u v,h.get? a=some { cls:=.type "range",data:=.fields #[.int lo t,.int hi u,.int 1 v]}
 | .frz o u=>h.get? a=some o/\jC H h a u
 | .tbl ps=>h.get? a=some { cls:=.none,data:=.fields ps }
 | .met f x=>h.get? a=some (PySem.W.methodObj (.ref f)<|.ref x)
 | .ext φ=>φ h/\(∃o,h.get? a=some o)/\∀h1 h2:aq,φ h1->(∀o,h1.get? a=some o->h2.get? a=some o)->φ h2
abbrev sY (H:Hp)(h:aq):Prop:=∀a o,H a=some o->jC P w H h a o
end
section
variable {P:aj}{w:ah}{H H':Hp}{h h':aq}{a:ak}{o:HO}
def jC.lt(x:jC P w H h a o):a<h.objs.size:=by
 cases o with
 | lst xs=>obtain⟨_,_,_,_,e⟩:=x;exact br e
 | tup xs=>obtain⟨_,_,_,p⟩:=x;exact lU.lt p
 | dK kvs=>obtain⟨_,_,_,_,o,_,_,e,_⟩:=x;exact br e
 | dT kvs=>obtain⟨_,_,_,_,o,_,_,e,_⟩:=x;exact br e
 | set S n=>obtain⟨o,_,_,_,e,_⟩:=x;exact br e
 | ins C dx fs=>obtain⟨_,_,_,e,_⟩:=x;exact br e
 | own y=>obtain⟨_,e⟩:=x;exact br e
 | xd fs=>obtain⟨_,⟨_,_,_,e,_⟩,_⟩:=x;exact br e
 | rng lo hi=>obtain⟨_,_,_,e⟩:=x;exact br e
 | frz ob u=>obtain⟨e,_⟩:=x;exact br e
 | tbl ps=>exact br (show h.get? a=some _ from x)
 | met f y=>exact br (show h.get? a=some _ from x)
 | ext φ=>obtain⟨_,⟨_,e⟩,_⟩:=x;exact br e
theorem Paired.SW{α β:Type}{F G:α->β->Prop}:∀{l₁:List α}{l₂:List β},Paired F l₁ l₂->(∀a b,F a b->G a b)->Paired G l₁ l₂
 | _,_,.nil,_=>.nil
 | _,_,.cons r t,f=>.cons (f _ _ r)<|Paired.SW t f
def jC.stay(x:jC P w H h a o)(k:∀b u,(b=a\/H b=some (.own a))->h.get? b=some u->h'.get? b=some u)
  (ho:∀b,H b=some (.own a)->H' b=some (.own a)) (ht:∀b xs,H b=some (.tup xs)->H' b=some (.tup xs)):jC P w H' h' a o:=by
 induction o with
 | lst xs=>obtain⟨z,its,n,r,e⟩:=x;exact⟨z,its,n,r,k _ _ (.inl rfl) e⟩
 | tup xs=>obtain⟨z,its,r,ob,e,c⟩:=x;exact⟨z,its,r,ob,k _ _ (.inl rfl) e,c⟩
 | dK kvs=>obtain⟨z,y,vs,r,ob,es,ep,e,c⟩:=x;exact⟨z,y,vs,r,ob,es,ep,k _ _ (.inl rfl) e,c⟩
 | dT kvs=>
  obtain⟨z,y,xs,r,ob,es,ep,e,c⟩:=x;exact⟨z,y,xs,Paired.SW r λp q z=>⟨z.1,ht _ _ z.2.1,z.2.2⟩,ob,es,ep,k _ _ (.inl rfl) e,c⟩
 | set S n=>obtain⟨ob,es,ep,t,e,c⟩:=x;exact⟨ob,es,ep,t,k _ _ (.inl rfl) e,c⟩
 | ins C dx fs=>
  obtain⟨d,z,ne,e,mA,⟨od,es,ep,e2,c⟩,r⟩:=x;exact⟨ho _ d,z,ne,k _ _ (.inl rfl) e,mA,⟨od,es,ep,k _ _ (.inr d) e2,c⟩,r⟩
 | own y=>obtain⟨ob,e⟩:=x;exact⟨ob,k _ _ (.inl rfl) e⟩
 | xd fs=>obtain⟨mA,⟨od,es,ep,e,c⟩,r⟩:=x;exact⟨mA,⟨od,es,ep,k _ _ (.inl rfl) e,c⟩,r⟩
 | rng lo hi=>obtain⟨t,u,v,e⟩:=x;exact⟨t,u,v,k _ _ (.inl rfl) e⟩
 | frz ob u ih=>obtain⟨e,q⟩:=x;exact⟨k _ _ (.inl rfl) e,ih q⟩
 | tbl ps=>
  have e:h.get? a=some { cls:=.none,data:=.fields ps }:=x
  skip
  exact k a _ (.inl rfl) e
 | met f y=>
  have e:h.get? a=some (PySem.W.methodObj (.ref f)<|.ref y):=x
  skip
  exact k a _ (.inl rfl) e
 | ext φ=>obtain⟨p,⟨o,e⟩,st⟩:=x;exact⟨st _ _ p λo q=>k _ _ (.inl rfl) q,⟨o,k _ _ (.inl rfl) e⟩,st⟩
def sY.lt(x:sY P w H h)(e:H a=some o):a<h.objs.size:=(x a o e).lt
def sY.fresh(x:sY P w H h)(e:h.objs.size<=a):H a=none:=by
 cases q:H a with
 | none=>rfl
 | some u=>exact absurd (bM (x.lt q) e)<|eX _
def sY.kept(x:sY P w H h)(k:∀b u,h.get? b=some u->h'.get? b=some u):sY P w H h':=λa o e=>
 (x a o e).stay (λb u _ q=>k b u q) (λ_ q=>q) λ_ _ q=>q
def sY.laid(x:sY P w H h)(k:∀b u,h.get? b=some u->h'.get? b=some u)(hp:h.objs.size<=a)(new:jC P w (upd H a o) h' a o):sY P w (upd H a o) h':=λb u e=>by
 have hn:=x.fresh hp;by_cases hb:b=a
 ·subst hb;rw[jy]at e;cases e;exact new
 ·rw[iR hb]at e;exact(x b u e).stay (λc v _ q=>k c v q) (λc q=>by rw[iR<|iW q hn];exact q) λc xs q=>by rw[iR<|iW q hn];exact q
end
abbrev Rd (H:Hp)(a:ak)(u:HO):Prop:=H a=some u\/∃o,H a=some (.frz o u)
def Rd.ok{P:aj}{w:ah}{H:Hp}{a:ak}(r:Rd H a u)(x:sY P w H h):jC P w H h a u:=by
 rcases r with r|⟨o,r⟩
 ·exact x a u r
 ·obtain⟨_,q⟩:=x a _ r;exact q
abbrev UA:Option HO->Prop
 | some (.lst _)=>True
 | some (.dK _)=>True
 | some (.dT _)=>True
 | some (.set _ _)=>True
 | some (.ins _ _ _)=>True
 | some (.ext _)=>True
 | _=>False
section
variable {P:aj}{w:ah}{H:Hp}{h h':aq}{x e:ak}{o':HO}
def sY.write(ok:sY P w H h)(mu:UA<|H x)(he:e=x\/H e=some (.own x))(k:∀b u,b≠e->h.get? b=some u->h'.get? b=some u)(heo:∃u,h'.get? e=some u)
  (new:jC P w (upd H x o') h' x o'):sY P w (upd H x o') h':=λb u q=>by
 have nown:∀c y,H c=some (.own y)->c≠x:=λc y r z=>by subst z;rw[r]at mu;exact mu
 have ntup:∀c xs,H c=some (.tup xs)->c≠x:=λc xs r z=>by subst z;rw[r]at mu;exact mu
 by_cases hb:b=x
 ·subst hb;rw[jy]at q;cases q;exact new
 ·rw[iR hb]at q;by_cases hbe:b=e
  ·have q':H b=some (.own x):=by
    rcases he with z|z
    ·exact absurd (hbe.trans z) hb
    ·rw[hbe];exact z
   rw[q]at q';cases q';obtain⟨v,hv⟩:=heo;exact⟨v,by rw[hbe];exact hv⟩
  ·refine(ok b u q).stay (λc v hc r=>k c v ?_ r) (λc r=>by rw[iR<|nown c b r];exact r) λc xs r=>by rw[iR<|ntup c xs r];exact r
   rcases hc with rfl|hc
   ·exact hbe
   ·rintro rfl
    rcases he with z|z
    ·exact nown c b hc z
    ·rw[hc]at z;cases z;exact hb rfl
end
structure Un (fs ex:ba)(H H':Hp)(h h':aq):Prop where
 keep:∀b o,h.get? b=some o->H b=none->b∉fs->b∉ex->h'.get? b=some o
 slot:∀b o,h.get? b=some o->H b=none->b∈fs->b∉ex->∃sl,h'.get? b=some { o with slots:=sl }
 free:∀b o,h.get? b=some o->H b=none->b∉ex->H' b=none
 there:∀b o,h.get? b=some o->b∉ex->∃o',h'.get? b=some o'
 tups:∀b xs,H b=some (.tup xs)->H' b=some (.tup xs)
 frzs:∀b o u,H b=some (.frz o u)->H' b=some (.frz o u)
 tbls:∀b ps,H b=some (.tbl ps)->∃more,H' b=some (.tbl<|ps++more)
section
variable {fs ex:ba}{H H1:Hp}{h h1 h':aq}{a x e:ak}{o:HO}
def Un.any(u:Un fs ex H H1 h h1){ob:Obj}(q:h.get? b=some ob)(n:H b=none)(hx:b∉ex):∃sl,h1.get? b=some { ob with slots:=sl }:=by
 by_cases hb:b∈fs
 ·exact u.slot b ob q n hb hx
 ·exact⟨ob.slots,u.keep b ob q n hb hx⟩
def Un.kept(k:∀b u,h.get? b=some u->h'.get? b=some u):Un fs ex H H h h':=
 ⟨λb ob q _ _ _=>k b ob q,λb ob q _ _ _=>⟨ob.slots,k b ob q⟩,λ_ _ _ n _=>n,λb ob q _=>⟨ob,k b ob q⟩,λ_ _ q=>q,λ_ _ _ q=>q,λ_ ps q=>⟨#[],by rw[q];simp⟩⟩
def Un.refl:Un fs ex H H h h:=Un.kept λ_ _ q=>q
def Un.laid(k:∀b u,h.get? b=some u->h'.get? b=some u)(hp:h.objs.size<=a)(hn:H a=none):Un fs ex H (upd H a o) h h' where
 keep:=λb u q _ _ _=>k b u q
 slot:=λb u q _ _ _=>⟨u.slots,k b u q⟩
 free:=λb u q n _=>by rw[iR<|bD<|bM (br q) hp];exact n
 there:=λb u q _=>⟨u,k b u q⟩
 tups:=λb xs q=>by rw[iR<|iW q hn];exact q
 frzs:=λb u xs q=>by rw[iR<|iW q hn];exact q
 tbls:=λb ps q=>⟨#[],by rw[iR<|iW q hn,q];simp⟩
def Un.write(mu:UA<|H x)(he:e=x\/H e=some (.own x))(k:∀b u,b≠e->h.get? b=some u->h'.get? b=some u)(heo:∃u,h'.get? e=some u):Un fs ex H (upd H x o) h h':=by
 have hx:∀b,H b=none->b≠x:=λb n z=>by subst z;rw[n]at mu;exact mu
 have hb:∀b,H b=none->b≠e:=λb n z=>by
  subst z
  rcases he with r|r
  ·exact hx b n r
  ·rw[n]at r;cases r
 have hm:∀b u,H b=some u->¬UA (some u)->b≠x:=λb u q nm z=>by subst z;rw[q]at mu;exact nm mu
 refine⟨λb u q n _ _=>k b u (hb b n) q,λb u q n _ _=>⟨u.slots,k b u (hb b n) q⟩,λb u q n _=>by rw[iR<|hx b n];exact n,λb u q _=>?_,
  λb xs q=>by rw[iR<|hm b _ q λz=>z];exact q,λb u xs q=>by rw[iR<|hm b _ q λz=>z];exact q,λb ps q=>⟨#[],by rw[iR<|hm b _ q λz=>z,q];simp⟩⟩
 by_cases hbe:b=e
 ·subst hbe;exact heo
 ·exact⟨u,k b u hbe q⟩
end
abbrev V0 (h:aq)(H:Hp):ba:=(List.range h.objs.size).filter λa=>(H a).isSome
abbrev zj (h:aq)(H:Hp):aq:=PySem.W.hideAll h<|V0 h H
def HV(h:aq)(H:Hp):(zj h H).objs.size=h.objs.size:=PySem.W.hideAll_size _ _
def Ly{h:aq}{H:Hp}(e:h.get? b=some o)(n:H b=none):(zj h H).get? b=some o:=
 PySem.W.hideAll_get _ e λhm=>by
  have q:(H b).isSome=true:=(dN.mp hm).2;rw[n]at q;simp at q
def Pd{h:aq}{H:Hp}(e:(zj h H).get? b=some o):h.get? b=some o/\H b=none:=by
 have e':h.get? b=some o:=PySem.W.of_hideAll (V0 h H) e;refine⟨e',?_⟩
 cases q:H b with
 | none=>rfl
 | some x=>
  have hm:b∈V0 h H:=dN.mpr ⟨dF.mpr<|br e',by simp[q]⟩;have z:(zj h H).get? b=none:=PySem.W.hideAll_none (V0 h H) hm;rw[z]at e;cases e
abbrev O7 (g h:aq)(L:ak):bn:=(List.range h.objs.size).filterMap λa=>if a=L\/(g.get? a).isSome=true then none else(h.get? a).map λo=>(a,o)
abbrev rest (g h:aq)(L d:ak):bn:=(O7 g h L).filter λp=>decide<|p.1≠d
structure Mod (K:au)(mg:Str->bb)(base:aq):Prop where
 kin:K.In base
 glob:base.Ns mainGlobals mg
 blt:∃mb,base.Ns builtinsNs mb/\∀x:Str,x ≠ "__name__" -> mb x=bootBuiltins x
 nolimit:base.NoLimit
structure Cx where
 prog:aj
 w:ah
 K:au
 mg:Str->bb
 base:aq
 A:aA
 N:ap
 s₀:aC
 H₀:Hp
 env:Env
 outer:List Env
 stack:List Env
 ex:ba
 fn:Str->Bool
 calm:Bool
 pn:bn
 xe:af->aC->Prop
abbrev frs (l:List Env):ba:=l.filterMap (·.frame)
meta abbrev Cx.fs (X:Cx):ba:=frs X.outer
abbrev TY (sc:Scope)(x:Str):Prop:=sc.names.lookup x=some .local\/sc.names.lookup x=some .cell\/sc.names.lookup x=some .free
abbrev Loc (sc:Scope)(x:Str):Prop:=sc.names.lookup x=some .local\/sc.names.lookup x=some .cell
abbrev Look (env:Env)(h:aq)(m:Str->bb)(x:Str)(u:af):Prop:=
 (env.kindOf x=some .local/\m x=some u)\/((env.kindOf x=some .cell\/env.kindOf x=some .free)/\∃c,env.cells.lookup x=some c/\h.IsCell c (some u))
structure Cx.Ok (X:Cx):Prop where
 mod:Mod X.K X.mg X.base
 kind:X.env.scope.kind=.function
 glob:X.env.globals=mainGlobals
 blt:X.env.builtins=builtinsNs
 above:X.s₀.heap.objs.size<=X.env.locals
 inj:∀x y c,X.env.cells.lookup x=some c->X.env.cells.lookup y=some c->x=y
 has:∀x,(X.env.kindOf x=some .cell\/X.env.kindOf x=some .free)->∃c,X.env.cells.lookup x=some c
 cab:∀x c,X.fn x=true->X.env.cells.lookup x=some c->X.s₀.heap.objs.size<=c
 hd:X.calm=true->X.A.handled=none
 frames:X.A.frames=some X.stack
 stk:X.stack=X.outer\/(X.stack=X.env::X.outer/\X.env.frame=some X.env.locals)
 exf:∀b∈X.ex,b≠X.env.locals/\∀x c,X.env.cells.lookup x=some c->c≠b
 bs:∀b o,X.base.get? b=some o->X.s₀.heap.get? b=some o/\X.H₀ b=none
 bsz:X.base.objs.size<=X.s₀.heap.objs.size
 noex:∀b o,X.base.get? b=some o->b∉X.ex
 exfs:∀b∈X.ex,b∉X.fs
 wu:X.s₀.heap.FunFrames X.base X.outer
 frf:∀b∈X.fs,X.H₀ b=none
structure Inv (X:Cx)(pins:bn)(σ:List (Option V))(H:Hp)(s:aC):Prop where
 ok:X.Ok
 os:s.os=X.s₀.os
 bare:AllBare s.gens
 base:Un X.fs X.ex X.H₀ H X.s₀.heap s.heap
 loc:∃m,s.heap.Ns X.env.locals m/\∀(i:Nat) (x:Str) (v:V),X.N[i]?=some x->σ[i]?=some (some v)->TY X.env.scope x->∃u,RelV v u/\Look X.env s.heap m x u
 cell:∀x c,X.env.cells.lookup x=some c->∃v,s.heap.IsCell c v
 free:H X.env.locals=none
 freeC:∀x c,X.env.cells.lookup x=some c->H c=none
 pin:∀p∈X.pn++pins,s.heap.get? p.1=some p.2/\H p.1=none/\p.1≠X.env.locals/\p.1∉X.fs/\∀v,p.2.data≠.cell v
 hok:sY X.prog X.w H s.heap
 len:σ.length=X.N.length
section
variable {X:Cx}{pins:bn}{σ:List (Option V)}{H H':Hp}{s:aC}{h':aq}
def Cx.Ok.Wy(ok:X.Ok)(e:X.base.get? b=some o):b∉X.fs:=λhb=>by
 have:=(ok.wu.mem hb).1;rw[e]at this;cases this
def Inv.bs(I:Inv X pins σ H s):∀b o,X.base.get? b=some o->s.heap.get? b=some o/\H b=none:=λb o e=>
 ⟨I.base.keep b o (I.ok.bs b o e).1 (I.ok.bs b o e).2 (I.ok.Wy e)<|I.ok.noex b o e,I.base.free b o (I.ok.bs b o e).1 (I.ok.bs b o e).2<|I.ok.noex b o e⟩
def Inv.bk(I:Inv X pins σ H s):∀b o,X.base.get? b=some o->s.heap.get? b=some o:=λb o e=>(I.bs b o e).1
def Inv.mod(I:Inv X pins σ H s):Mod X.K X.mg X.base:=I.ok.mod
def Inv.AH(I:Inv X pins σ H s):X.K.In s.heap:=I.ok.mod.kin.keeps I.bk
def Inv.lt(I:Inv X pins σ H s):X.env.locals<s.heap.objs.size:=let⟨_,hn,_⟩:=I.loc;hn.lt
def Inv.sz(I:Inv X pins σ H s):X.s₀.heap.objs.size<=s.heap.objs.size:=bP I.ok.above<|ig I.lt
def Inv.WV(I:Inv X pins σ H s){a:ak}(h:s.heap.objs.size<=a):a∉X.fs:=λhb=>by
 obtain⟨_,o,ho,_⟩:=I.ok.wu.mem hb;exact absurd (bM (br ho)<|bP I.sz h)<|eX _
def Inv.Q4(I:Inv X pins σ H s):∀x c,X.env.cells.lookup x=some c->c≠X.env.locals:=λx c e z=>by
 obtain⟨v,o,ho,hd⟩:=I.cell x c e;obtain⟨m,⟨o',es,ep,ho',hd',_⟩,_⟩:=I.loc;rw[z,ho']at ho;cases ho;rw[hd']at hd;cases hd
def Inv.wu(I:Inv X pins σ H s):s.heap.FunFrames X.base X.outer:=by
 have all:∀(l:List Env),(∀b∈frs l,b∈X.fs)->X.s₀.heap.FunFrames X.base l->s.heap.FunFrames X.base l:=by
  intro l
  induction l with
  | nil=>intro _ _;trivial
  | cons env r ih=>
   intro hs hl;obtain⟨hk,⟨L,o,hf,hn,ho,hd⟩,hr⟩:=hl;have hL:L∈X.fs:=hs L (by unfold frs;rw[gQ,hf];exact aN);obtain⟨sl,e⟩:=I.base.slot L o ho (I.ok.frf L hL) hL λz=>I.ok.exfs L z hL;exact⟨hk,⟨L,_,hf,hn,e,hd⟩,ih (λb hb=>hs b<|by unfold frs;rw[gQ,hf];exact aP _ hb) hr⟩
 exact all X.outer (λ_ hb=>hb) I.ok.wu
def Inv.stack(I:Inv X pins σ H s):s.heap.FunFrames X.base X.stack:=by
 rcases I.ok.stk with e|⟨e,hf⟩
 ·rw[e];exact I.wu
 ·rw[e];obtain⟨m,hn,_⟩:=I.loc;refine .cons (by rw[I.ok.kind];decide) hf hn ?_ I.wu;exact Heap.get?_none_of_le<|bP I.ok.bsz I.ok.above
def Inv.CG(I:Inv X pins σ H s):∀b∈frs X.stack,b∈X.env.locals::X.fs:=λb hb=>by
 rcases I.ok.stk with e|⟨e,hf⟩
 ·rw[e]at hb;exact aP _ hb
 ·rw[e]at hb;unfold frs at hb;rw[gQ,hf]at hb;exact hb
def Inv.GL(I:Inv X pins σ H s):∀b∈frs X.stack,H b=none:=λb hb=>by
 rcases bJ.mp (I.CG b hb)with e|hb
 ·rw[e];exact I.free
 ·obtain⟨_,o,ho,_⟩:=I.ok.wu.mem hb;exact I.base.free b o ho (I.ok.frf b hb) λz=>I.ok.exfs b z hb
def Inv.step{g':Array GenState}{t':Nat}{d':Drawn}{ch:ba}(I:Inv X pins σ H s)
  (hch:∀b∈ch,(b∈X.ex\/X.s₀.heap.objs.size<=b)/\b≠X.env.locals/\(∀x c,X.env.cells.lookup x=some c->c≠b)/\∀p∈X.pn++pins,p.1≠b)
  (keep:∀b o,b≠X.env.locals->b∉X.fs->b∉ch->s.heap.get? b=some o->H b=none->h'.get? b=some o)
  (slot:∀b o,b≠X.env.locals->b∈X.fs->b∉ch->s.heap.get? b=some o->H b=none->∃sl,h'.get? b=some { o with slots:=sl }) (free:∀b o,b∉ch->s.heap.get? b=some o->H b=none->H' b=none)
  (there:∀b o,b∉ch->s.heap.get? b=some o->∃o',h'.get? b=some o')
  (tups:∀b xs,H b=some (.tup xs)->H' b=some (.tup xs)) (frzs:∀b o u,H b=some (.frz o u)->H' b=some (.frz o u)) (tbls:∀b ps,H b=some (.tbl ps)->∃more,H' b=some (.tbl<|ps++more))
  (ns:∀m,s.heap.Ns X.env.locals m->h'.Ns X.env.locals m) (hok:sY X.prog X.w H' h') (hg:AllBare g') :
  Inv X pins σ H' { s with heap:=h',gens:=g',drawn:=d',toks:=t' }:=by
 have neL:∀b o,X.s₀.heap.get? b=some o->b≠X.env.locals:=λb o e=>bD<|bM (br e) I.ok.above;have neC:∀b o,X.s₀.heap.get? b=some o->b∉X.ex->b∉ch:=λb o e hx hb=>by
  rcases(hch b hb).1 with z|z
  ·exact hx z
  ·exact absurd (bM (br e) z)<|eX _
 have cellK:∀x c,X.env.cells.lookup x=some c->∀v,s.heap.IsCell c v->h'.IsCell c v:=λx c e v ⟨o,ho,hd⟩=>by
  have nch:c∉ch:=λz=>(hch c z).2.2.1 x c e rfl;by_cases hc:c∈X.fs
  ·obtain⟨sl,q⟩:=slot c o (I.Q4 x c e) hc nch ho<|I.freeC x c e;exact⟨_,q,hd⟩
  ·exact⟨o,keep c o (I.Q4 x c e) hc nch ho<|I.freeC x c e,hd⟩
 refine⟨I.ok,I.os,hg,⟨λb o e n hb hx=>?_,λb o e n hb hx=>?_,λb o e n hx=>?_,λb o e hx=>?_,λb xs e=>tups b xs<|I.base.tups b xs e,λb o xs e=>frzs b o xs<|I.base.frzs b o xs e,λb ps e=>?_⟩,?_,λx c e=>?_,?_,λx c e=>?_,λp hp=>?_,hok,I.len⟩
 ·exact keep b o (neL b o e) hb (neC b o e hx) (I.base.keep b o e n hb hx) (I.base.free b o e n hx)
 ·obtain⟨sl,e1⟩:=I.base.slot b o e n hb hx;obtain⟨sl',e2⟩:=slot b _ (neL b o e) hb (neC b o e hx) e1<|I.base.free b o e n hx;exact⟨sl',e2⟩
 ·obtain⟨o',e1⟩:=I.base.there b o e hx;exact free b o' (neC b o e hx) e1 (I.base.free b o e n hx)
 ·obtain⟨o',e1⟩:=I.base.there b o e hx;exact there b o' (neC b o e hx) e1
 ·obtain⟨m1,e1⟩:=I.base.tbls b ps e;obtain⟨m2,e2⟩:=tbls b _ e1;exact⟨m1++m2,by rw[e2,Array.append_assoc]⟩
 ·obtain⟨m,hn,hl⟩:=I.loc;refine⟨m,ns m hn,λi x v e1 e2 e3=>?_⟩;obtain⟨u,r,l⟩:=hl i x v e1 e2 e3;refine⟨u,r,?_⟩
  rcases l with l|⟨k,c,e,z⟩
  ·exact .inl l
  ·exact .inr ⟨k,c,e,cellK x c e _ z⟩
 ·obtain⟨v,z⟩:=I.cell x c e;exact⟨v,cellK x c e v z⟩
 ·obtain⟨m,⟨o,_,_,ho,_⟩,_⟩:=I.loc;exact free _ o (λz=>(hch _ z).2.1 rfl) ho I.free
 ·obtain⟨v,o,ho,hd⟩:=I.cell x c e;exact free c o (λz=>(hch c z).2.2.1 x c e rfl) ho (I.freeC x c e)
 ·obtain⟨e,n,ne,nf,d⟩:=I.pin p hp;have nch:p.1∉ch:=λz=>(hch p.1 z).2.2.2 p hp rfl;exact⟨keep p.1 p.2 ne nf nch e n,free p.1 p.2 nch e n,ne,nf,d⟩
def Inv.un{t':Nat}(I:Inv X pins σ H s)(u:Un X.fs [] H H' s.heap h')(hok:sY X.prog X.w H' h'):Inv X pins σ H' { s with heap:=h',toks:=t' }:=by
 obtain⟨m,⟨o,es,ep,ho,r⟩,_⟩:=id I.loc;obtain⟨sl,hL⟩:=u.any ho I.free (by simp);exact I.step (g':=s.gens) (d':=s.drawn) (ch:=[]) (nofun) (λb o _ hb _ e n=>u.keep b o e n hb<|by simp) (λb o _ hb _ e n=>u.slot b o e n hb<|by simp) (λb o _ e n=>u.free b o e n<|by simp) (λb o _ e=>u.there b o e<|by simp) u.tups u.frzs u.tbls (λm' hm=>by
  obtain⟨o',es',ep',ho',r'⟩:=hm;rw[ho]at ho';cases ho';exact⟨_,es',ep',hL,r'⟩) hok I.bare
def Inv.call{g':Array GenState}{t':Nat}{d':Drawn}{ch:ba}(I:Inv X pins σ H s)(u:Un (frs X.stack) ch H H' s.heap h')(hok:sY X.prog X.w H' h')(hg:AllBare g')
  (hch:∀b∈ch,(b∈X.ex\/X.s₀.heap.objs.size<=b)/\b≠X.env.locals/\(∀x c,X.env.cells.lookup x=some c->c≠b)/\∀p∈X.pn++pins,p.1≠b) :
  Inv X pins σ H' { s with heap:=h',gens:=g',drawn:=d',toks:=t' }:=by
 obtain⟨m,⟨o,es,ep,ho,r⟩,_⟩:=id I.loc;obtain⟨sl,hL⟩:=u.any ho I.free λz=>(hch _ z).2.1 rfl;exact I.step (ch:=ch) hch (λb o hL hb hc e n=>u.keep b o e n (λz=>(bJ.mp<|I.CG b z).elim hL hb) hc) (λb o _ _ hc e n=>u.any e n hc) (λb o hc e n=>u.free b o e n hc) (λb o hc e=>u.there b o e hc) u.tups u.frzs u.tbls (λm' hm=>by
  obtain⟨o',es',ep',ho',r'⟩:=hm;rw[ho]at ho';cases ho';exact⟨_,es',ep',hL,r'⟩) hok hg
def Inv.turned{t':Nat}{it:ak}(I:Inv X pins σ H s)(k:∀b o,b≠it->s.heap.get? b=some o->h'.get? b=some o)(hn:H it=none)(hL:it≠X.env.locals)
  (h1:it∈X.ex\/X.s₀.heap.objs.size<=it) (h2:∀x c,X.env.cells.lookup x=some c->c≠it) (h3:∀p∈X.pn++pins,p.1≠it):Inv X pins σ H { s with heap:=h',toks:=t' }:=by
 have nit:∀b u,H b=some u->b≠it:=λb u e z=>by rw[z,hn]at e;cases e
 refine I.step (g':=s.gens) (d':=s.drawn) (ch:=[it]) (λb hb=>?_) (λb o _ _ hc e _=>k b o (λz=>hc<|by simp[z]) e) (λb o _ _ hc e _=>⟨o.slots,k b o (λz=>hc<|by simp[z]) e⟩) (λ_ _ _ _ n=>n)
  (λb o hc e=>⟨o,k b o (λz=>hc<|by simp[z]) e⟩) (λ_ _ e=>e) (λ_ _ _ e=>e) (λb ps e=>⟨#[],by rw[e];simp⟩) (λm hm=>?_) (λb u e=>?_) I.bare
 ·have e:b=it:=by simpa using hb
  subst e;exact⟨h1,hL,h2,h3⟩
 ·obtain⟨o,es,ep,ho,r⟩:=hm;exact⟨o,es,ep,k _ o (dc hL) ho,r⟩
 ·refine(I.hok b u e).stay (λc v hc q=>k c v ?_ q) (λ_ q=>q) λ_ _ q=>q
  rcases hc with z|z
  ·rw[z];exact nit b u e
  ·exact nit c _ z
def Inv.tok(I:Inv X pins σ H s)(t:Nat):Inv X pins σ H { s with toks:=t }:=I.un (h':=s.heap) (t':=t) Un.refl I.hok
def Inv.kept{t':Nat}(I:Inv X pins σ H s)(k:∀b u,s.heap.get? b=some u->h'.get? b=some u):Inv X pins σ H { s with heap:=h',toks:=t' }:=I.un (Un.kept k)<|I.hok.kept k
def Inv.laid{a:ak}{t':Nat}(I:Inv X pins σ H s)(k:∀b u,s.heap.get? b=some u->h'.get? b=some u)(hp:s.heap.objs.size<=a)(new:jC X.prog X.w (upd H a o) h' a o) :
  Inv X pins σ (upd H a o) { s with heap:=h',toks:=t' }:=I.un (Un.laid k hp<|I.hok.fresh hp)<|I.hok.laid k hp new
def Inv.write{x e:ak}{t':Nat}(I:Inv X pins σ H s)(mu:UA<|H x)(he:e=x\/H e=some (.own x))(k:∀b u,b≠e->s.heap.get? b=some u->h'.get? b=some u)(heo:∃u,h'.get? e=some u)
  (new:jC X.prog X.w (upd H x o) h' x o):Inv X pins σ (upd H x o) { s with heap:=h',toks:=t' }:=I.un (Un.write mu he k heo)<|I.hok.write mu he k heo new
def Inv.FQ{pins':bn}(I:Inv X pins σ H s)(h:∀p∈pins',s.heap.get? p.1=some p.2/\H p.1=none/\p.1≠X.env.locals/\p.1∉X.fs/\∀v,p.2.data≠.cell v):Inv X pins' σ H s:=
 ⟨I.ok,I.os,I.bare,I.base,I.loc,I.cell,I.free,I.freeC,λp hp=>(bF.mp hp).elim (λz=>I.pin p<|dG _ z)<|h p,I.hok,I.len⟩
def Bc{N:ap}(hN:N.Nodup){i j:Nat}{x:Str}(a:N[i]?=some x)(b:N[j]?=some x):i=j:=by
 obtain⟨h1,e1⟩:=aM.mp a;obtain⟨h2,e2⟩:=aM.mp b;exact(c8 hN).mp (e1.trans e2.symm)
def G5{A:aA}{E:af->aC->Prop}{i:Nat}{x:Str}{v:V}{Q:Unit->aC->Prop}(I:Inv X pins σ H s)(hN:X.N.Nodup)(hi:X.N[i]?=some x)(hx:Loc X.env.scope x)(r:RelV v u)
  (h:∀s',Inv X pins (σ.set i<|some v) H s'->(∃a,Heap.SameBut a s.heap s'.heap/\(a=X.env.locals\/X.env.cells.lookup x=some a))->Q Unit.unit s') (hf:X.fn x=true\/X.env.scope.names.lookup x=some .local:=by first|exact .inl rfl|exact .inr rfl|assumption):wpAny M A (storeName X.env x u) Q E s:=by
 obtain⟨m,hn,hl⟩:=id I.loc;have hcls:(X.env.scope.kind == .class || (X.env.scope.kind == .module && X.env.locals != X.env.globals))=false:=by rw[I.ok.kind];rfl
 have hiσ:i<σ.length:=by rw[I.len];exact(aM.mp hi).1
 have Q4:=I.Q4;have tracked:∀{a:ak} {h':aq},(∃o,s.heap.get? a=some o/\H a=none)->Heap.SameBut a s.heap h'->sY X.prog X.w H h':=λ{a h'} ha hs b ob e=>by
  obtain⟨_,_,hfree⟩:=ha;refine(I.hok b ob e).stay (λc w' hc q=>(hs.2 c ?_).trans q) (λ_ q=>q) λ_ _ q=>q;rintro rfl
  rcases hc with rfl|hc
  ·rw[hfree]at e;cases e
  ·rw[hfree]at hc;cases hc
 rcases hx with hk|hk
 ·refine wpAny_storeName_local hk hn (λh' hn' hs=>?_) hcls;obtain⟨oL,_,_,hoL,_⟩:=id hn;refine h _ ⟨I.ok,I.os,I.bare,⟨λb o e n hb hx=>?_,λb o e n hb hx=>?_,I.base.free,λb o e hx=>?_,I.base.tups,I.base.frzs,I.base.tbls⟩,⟨_,hn',λj y v' e1 e2 e3=>?_⟩,λy c e=>?_,I.free,I.freeC,λp hp=>?_,tracked ⟨oL,hoL,I.free⟩ hs,by simpa using I.len⟩ ⟨_,hs,.inl rfl⟩
  ·exact(hs.2 b<|bD<|bM (br e) I.ok.above).trans (I.base.keep b o e n hb hx)
  ·obtain⟨sl,e1⟩:=I.base.slot b o e n hb hx;exact⟨sl,(hs.2 b<|bD<|bM (br e) I.ok.above).trans e1⟩
  ·obtain⟨o',e1⟩:=I.base.there b o e hx;exact⟨o',(hs.2 b<|bD<|bM (br e) I.ok.above).trans e1⟩
  ·by_cases hj:j=i
   ·subst hj;rw[hi]at e1;cases e1;rw[bE hiσ]at e2
    cases e2
    exact⟨u,r,.inl ⟨hk,by simp⟩⟩
   ·rw[bL<|dc hj]at e2;obtain⟨u',r',q⟩:=hl j y v' e1 e2 e3;refine⟨u',r',?_⟩
    rcases q with⟨k,e⟩|⟨k,c,e,z⟩
    ·refine .inl ⟨k,?_⟩;have:y≠x:=λe=>hj<|Bc hN e1<|e ▸ hi;simp[this,e]
    ·exact .inr ⟨k,c,e,z.sameBut hs<|Q4 y c e⟩
  ·obtain⟨w',z⟩:=I.cell y c e;exact⟨w',z.sameBut hs<|Q4 y c e⟩
  ·obtain⟨e,n,ne,nf,d⟩:=I.pin p hp;exact⟨(hs.2 p.1 ne).trans e,n,ne,nf,d⟩
 ·have hfn:X.fn x=true:=by
   rcases hf with z|z
   ·exact z
   ·rw[z]at hk;cases hk
  obtain⟨c,hc⟩:=I.ok.has x<|.inl hk;obtain⟨w',z⟩:=I.cell x c hc;refine wpAny_storeName_cell I.ok.kind hk hc z λh' hc' hs=>?_;obtain⟨oc,hoc,hocd⟩:=id z;refine h { s with heap:=h' } ⟨I.ok,I.os,I.bare,⟨λb o e n hb hx=>?_,λb o e n hb hx=>?_,I.base.free,λb o e hx=>?_,I.base.tups,I.base.frzs,I.base.tbls⟩,⟨m,hn.sameBut hs<|dc<|Q4 x c hc,λj y v' e1 e2 e3=>?_⟩,λy c' e=>?_,I.free,I.freeC,λp hp=>?_,tracked ⟨oc,hoc,I.freeC x c hc⟩ hs,by simpa using I.len⟩ ⟨c,hs,.inr hc⟩
  ·exact(hs.2 b<|bD<|bM (br e)<|I.ok.cab x c hfn hc).trans (I.base.keep b o e n hb hx)
  ·obtain⟨sl,e1⟩:=I.base.slot b o e n hb hx;exact⟨sl,(hs.2 b<|bD<|bM (br e)<|I.ok.cab x c hfn hc).trans e1⟩
  ·obtain⟨o',e1⟩:=I.base.there b o e hx;exact⟨o',(hs.2 b<|bD<|bM (br e)<|I.ok.cab x c hfn hc).trans e1⟩
  ·by_cases hj:j=i
   ·subst hj;rw[hi]at e1;cases e1;rw[bE hiσ]at e2
    cases e2
    exact⟨u,r,.inr ⟨.inl hk,c,hc,hc'⟩⟩
   ·rw[bL<|dc hj]at e2;obtain⟨u',r',q⟩:=hl j y v' e1 e2 e3;refine⟨u',r',?_⟩
    rcases q with q|⟨k,c',e,z'⟩
    ·exact .inl q
    ·refine .inr ⟨k,c',e,z'.sameBut hs ?_⟩;rintro rfl;exact hj<|Bc hN e1<|I.ok.inj _ _ _ e hc ▸ hi
  ·by_cases hcc:c'=c
   ·subst hcc;exact⟨_,hc'⟩
   ·obtain⟨w2,z2⟩:=I.cell y c' e;exact⟨w2,z2.sameBut hs hcc⟩
  ·obtain⟨e,n,ne,nf,d⟩:=I.pin p hp;refine⟨(hs.2 p.1 ?_).trans e,n,ne,nf,d⟩;intro q;rw[q,hoc]at e;have q':oc=p.2:=aU e;exact d w'<|by rw[<- q'];exact hocd
def xT{A:aA}{E:af->aC->Prop}{i:Nat}{x:Str}{v:V}{Q:Unit->aC->Prop}(I:Inv X pins σ H s)(hN:X.N.Nodup)(hi:X.N[i]?=some x)(hx:Loc X.env.scope x)(r:RelV v u)
  (h:∀s',Inv X pins (σ.set i<|some v) H s'->Q Unit.unit s') (hf:X.fn x=true\/X.env.scope.names.lookup x=some .local:=by first|exact .inl rfl|exact .inr rfl|assumption):wpAny M A (storeName X.env x u) Q E s:=
 G5 I hN hi hx r (λs' I' _=>h s' I') hf
def Inv.Qe{s':aC}{ch:ba}(I:Inv X pins σ H s)(ho:s'.os=s.os)(u:Un (frs X.stack) ch H H' s.heap s'.heap)(hok:sY X.prog X.w H' s'.heap)(hg:AllBare s'.gens)
  (hch:∀b∈ch,(b∈X.ex\/X.s₀.heap.objs.size<=b)/\b≠X.env.locals/\(∀x c,X.env.cells.lookup x=some c->c≠b)/\∀p∈X.pn++pins,p.1≠b):Inv X pins σ H' s':=by
 obtain⟨h',g',d',t',o'⟩:=s';have e:o'=s.os:=ho;subst e;exact I.call (g':=g') (t':=t') (d':=d') u hok hg hch
end
meta abbrev XK:=af->Option ak->Hp->Prop
meta abbrev St:=List<|Option V
meta abbrev VK:=V->Hp->Prop
meta abbrev TE:=St->Hp->VK->Prop
meta abbrev TT:=St->Hp->(Bool->Hp->Prop)->Prop
meta abbrev TA:=St->Hp->(List V->Hp->Prop)->Prop
structure Ends where
 nx:St->Hp->Prop
 rt:VK
 bk:St->Hp->Prop:=λ_ _=>False
 ct:St->Hp->Prop:=λ_ _=>False
meta abbrev TS:=Ends->St->Hp->Prop
abbrev EP (X:Cx)(pins:bn)(σ:St)(Q:VK)(u:af)(s':aC):Prop:=∃v H',Inv X pins σ H' s'/\RelV v u/\Q v H'
abbrev TP (X:Cx)(pins:bn)(σ:St)(Q:Bool->Hp->Prop)(b:Bool)(s':aC):Prop:=∃H',Inv X pins σ H' s'/\Q b H'
abbrev AP (X:Cx)(pins:bn)(σ:St)(Q:List V->Hp->Prop)(us:ar)(s':aC):Prop:=∃vs H',Inv X pins σ H' s'/\Vals vs us/\Q vs H'
abbrev SP (X:Cx)(pins:bn)(D:Ends)(f:Flow)(s':aC):Prop:=
 match f with
 | .next=>∃σ' H',Inv X pins σ' H' s'/\D.nx σ' H'
 | .brk=>∃σ' H',Inv X pins σ' H' s'/\D.bk σ' H'
 | .cont=>∃σ' H',Inv X pins σ' H' s'/\D.ct σ' H'
 | .ret u=>∃v σ' H',Inv X pins σ' H' s'/\RelV v u/\D.rt v H'
abbrev PE (X:Cx)(e:aE)(t:TE):Prop:=
 ∀(pins:bn) (s:aC) (σ:St) (H:Hp) (Q:VK),Inv X pins σ H s->t σ H Q->wpAny (model X.prog X.w) X.A (eval e X.env) (EP X pins σ Q) X.xe s
abbrev PT (X:Cx)(e:aE)(t:TT):Prop:=
 ∀(pins:bn) (s:aC) (σ:St) (H:Hp) (Q:Bool->Hp->Prop),Inv X pins σ H s->t σ H Q->wpAny (model X.prog X.w) X.A (isTrue e X.env<|eval e X.env) (TP X pins σ Q) X.xe s
abbrev PW (X:Cx)(e:aE)(t:TT):Prop:=
 ∀(whole:Sem af) (pins:bn) (s:aC) (σ:St) (H:Hp) (Q:Bool->Hp->Prop),Inv X pins σ H s->t σ H Q->wpAny (model X.prog X.w) X.A (isTrue e X.env whole) (TP X pins σ Q) X.xe s
abbrev PA (X:Cx)(es:List aE)(t:TA):Prop:=
 ∀(pos:Pos) (pins:bn) (s:aC) (σ:St) (H:Hp) (Q:List V->Hp->Prop),Inv X pins σ H s->t σ H Q->wpAny (model X.prog X.w) X.A (spliced<|backTo pos<|starEach es X.env) (AP X pins σ Q) X.xe s
abbrev PS (X:Cx)(st:aF)(t:TS):Prop:=
 ∀(pins:bn) (s:aC) (σ:St) (H:Hp) (D:Ends),Inv X pins σ H s->t D σ H->wpAny (model X.prog X.w) X.A (exec st X.env) (SP X pins D) X.xe s
abbrev Av (X:Cx)(st:List aF)(t:TS):Prop:=
 ∀(pins:bn) (s:aC) (σ:St) (H:Hp) (D:Ends),Inv X pins σ H s->t D σ H->wpAny (model X.prog X.w) X.A (execs st X.env) (SP X pins D) X.xe s
def jM{α:Type}{t:Sem α}{Q Q':α->aC->Prop}{A:aA}{E:af->aC->Prop}(h:wpAny M A t Q E s)(hQ:∀a s,Q a s->Q' a s):wpAny M A t Q' E s:=fP h hQ λ_ _ x=>x
section
variable {X:Cx}
abbrev T6 (i:Nat):TE:=λσ H Q=>∃v,σ[i]?=some (some v)/\Q v H
abbrev tC (v:V):TE:=λ_ H Q=>Q v H
def K3{i:Nat}{x:Str}(hN:X.N[i]?=some x)(hv:TY X.env.scope x)(hd:(x == ("__debug__" : Str))=false:=by decide)(hcd:(x == ("__classdict__" : Str))=false:=by decide):PE X (.Name x pos) (T6 i):=by
 w_up;obtain⟨v,e,h⟩:=h;obtain⟨m,hn,hl⟩:=I.loc;obtain⟨u,r,l⟩:=hl i x v hN e hv;have fin:EP X pins σ Q u s:=⟨v,H,I,r,h⟩
 rcases l with⟨hk,hm⟩|⟨hk,c,hc,hcell⟩
 ·exact wpAny_Name (wpAny_loadName_local I.ok.kind hk hn hm fin) hd
 ·rcases hk with hk|hk
  ·exact wpAny_Name (wpAny_loadName_cell I.ok.kind hk hc hcell fin) hd
  ·exact wpAny_Name (wpAny_loadName_free I.ok.kind hk hc hcell fin hcd) hd
def CO{i j pos}:PE X (.Constant (.int i) j pos) (tC<|.int i):=λ_ _ _ H _ I h=>wpAny_Constant_int ⟨.int i,H,I.tok _,⟨_,rfl⟩,h⟩
def U8{b j pos}:PE X (.Constant (.bool b) j pos) (tC<|.bl b):=λ_ _ _ H _ I h=>Constant_bool ⟨.bl b,H,I,rfl,h⟩
def TN{j pos}:PE X (.Constant .none j pos) (tC .non):=λ_ _ _ H _ I h=>Constant_none ⟨.non,H,I,rfl,h⟩
abbrev Gl (X:Cx)(x:Str):Prop:=X.env.kindOf x=some .globalImplicit
def D0{E:af->aC->Prop}{H:Hp}{x:Str}{Q:af->aC->Prop}(I:Inv X pins σ H s)(hg:Gl X x)(hm:X.mg x=some u)(h:Q u s)
  (hd:(x == ("__debug__" : Str))=false:=by decide):wpAny (model X.prog X.w) X.A (eval (.Name x pos) X.env) Q E s:=
 Calls.Name_function_global I.ok.kind hg (Calls.loadGlobal_global (by rw[I.ok.glob];exact I.mod.glob.keeps I.bk) hm h) hd
def uW{E:af->aC->Prop}{H:Hp}{x:Str}{Q:af->aC->Prop}(I:Inv X pins σ H s)(hg:Gl X x)(hm:X.mg x=none)(hv:bootBuiltins x=some u)(h:Q u s)
  (hn:x ≠ "__name__" := by decide) (hd:(x == ("__debug__" : Str))=false:=by decide):wpAny (model X.prog X.w) X.A (eval (.Name x pos) X.env) Q E s:=by
 obtain⟨mb,h1,h2⟩:=I.mod.blt;exact Calls.Name_function_global I.ok.kind hg (Calls.loadGlobal_builtin (by rw[I.ok.glob];exact I.mod.glob.keeps I.bk) hm (by rw[I.ok.blt];exact h1.keeps I.bk) ((h2 x hn).trans hv) h) hd
def ON{x:Str}{v:V}(hg:Gl X x)(hm:X.mg x=some u)(r:RelV v u)(hd:(x == ("__debug__" : Str))=false:=by decide):PE X (.Name x pos) (tC v):=
 λ_ _ _ H _ I h=>D0 I hg hm ⟨v,H,I,r,h⟩ hd
def NH{x:Str}{v:V}(hg:Gl X x)(hm:X.mg x=none)(hv:bootBuiltins x=some u)(r:RelV v u)(hn:x ≠ "__name__" := by decide)(hd:(x == ("__debug__" : Str))=false:=by decide):PE X (.Name x pos) (tC v):=
 λ_ _ _ H _ I h=>uW I hg hm hv ⟨v,H,I,r,h⟩ hn hd
variable {a b:aE}{ta tb:TE}{pos:Pos}
variable {tA tB':TT}{rest:List aE}
abbrev Vf (t u:TT):TT:=λσ H Q=>t σ H λc H1=>if c=true then u σ H1 Q else Q false H1
abbrev XZ (t u:TT):TT:=λσ H Q=>t σ H λc H1=>if c=true then Q true H1 else u σ H1 Q
abbrev WS (t:TT):TT:=λσ H Q=>t σ H λc H1=>Q (!c) H1
def Ot(ha:PT X a tA):PW X (.BoolOp .And [a] pos) tA:=by
 intro wh pins s σ H Q I h;refine isTrue_and (jM (ha pins s σ H Q I h) λc s1 e=>?_)
 cases c with
 | true=>exact isTrue_and_nil e
 | false=>exact e
def Tc(ha:PT X a tA):PW X (.BoolOp .Or [a] pos) tA:=by
 intro wh pins s σ H Q I h;refine isTrue_or (jM (ha pins s σ H Q I h) λc s1 e=>?_)
 cases c with
 | false=>exact isTrue_or_nil e
 | true=>exact e
def Sl(ha:PT X a tA)(hb:PW X (.BoolOp .And (b::rest) pos) tB'):PW X (.BoolOp .And (a::b::rest) pos) (Vf tA tB'):=by
 intro wh pins s σ H Q I h;refine isTrue_and (jM (ha pins s σ H _ I h) λc s1 ⟨H1,I1,q1⟩=>?_)
 cases c with
 | true=>exact hb wh pins s1 σ H1 Q I1 q1
 | false=>exact⟨H1,I1,q1⟩
def Vv(ha:PT X a tA)(hb:PW X (.BoolOp .Or (b::rest) pos) tB'):PW X (.BoolOp .Or (a::b::rest) pos) (XZ tA tB'):=by
 intro wh pins s σ H Q I h;refine isTrue_or (jM (ha pins s σ H _ I h) λc s1 ⟨H1,I1,q1⟩=>?_)
 cases c with
 | true=>exact⟨H1,I1,q1⟩
 | false=>exact hb wh pins s1 σ H1 Q I1 q1
def Q5(ha:PT X a tA):PT X (.UnaryOp .Not a pos) (WS tA):=by
 w_up;exact isTrue_not<|ha pins s σ H (λc H1=>Q (!c) H1) I h
abbrev Uu (ta tb:TE):TE:=λσ H Q=>ta σ H λx H1=>∃c,x=.bl c/\if c=true then tb σ H1 Q else Q (.bl false) H1
abbrev Um (ta:TE):TE:=λσ H Q=>ta σ H λx H1=>∃c,x=.bl c/\Q (.bl<|!c) H1
def RE{op}{t:TE}(h:PE X a t):PE X (.BoolOp op [a] pos) t:=λpins s σ H Q I hw=>BoolOp_one<|h pins s σ H Q I hw
def Rw(ha:PE X a ta)(hb:PE X (.BoolOp .And (b::rest) pos) tb):PE X (.BoolOp .And (a::b::rest) pos) (Uu ta tb):=by
 w_up;refine BoolOp_and<|jM (ha pins s σ H _ I h) λv s1 ⟨x,H1,I1,r1,q1⟩=>?_;obtain⟨c,rfl,q1⟩:=q1
 cases r1
 refine cY ?_
 cases c with
 | true=>exact hb pins s1 σ H1 Q I1 q1
 | false=>exact⟨.bl false,H1,I1,rfl,q1⟩
def TR(ha:PE X a ta):PE X (.UnaryOp .Not a pos) (Um ta):=by
 w_up;refine UnaryOp_<|jM (ha pins s σ H _ I h) λv s1 ⟨x,H1,I1,r1,q1⟩=>?_;obtain⟨c,rfl,q1⟩:=q1
 cases r1
 exact not_of<|cY ⟨.bl<|!c,H1,I1,rfl,q1⟩
end
abbrev ny (K:au)(H:Hp)(a:ak)(xs:List V):Prop:=
 Rd H a (.lst xs) \/
  ∃(o:Obj) (its:Array af) (n:Nat),K.lookup a=some o/\o.cls=.type "list" /\ o.dict=none/\o.data=.seq its n/\its.size<=sizeLine/\Vals xs its.toList
abbrev lO (K:au)(H:Hp)(a:ak)(xs:List V):Prop:=
 Rd H a (.tup xs) \/
  ∃(o:Obj) (its:Array af) (n:Nat),K.lookup a=some o/\o.cls=.type "tuple" /\ o.dict=none/\o.data=.seq its n/\its.size<=sizeLine/\Vals xs its.toList
abbrev W4:af->Option V
 | .none=>some .non
 | .bool b=>some (.bl b)
 | .int i _=>some (.int i)
 | .str x _=>some (.str x)
 | .bytes b _=>some (.byt b)
 | .float b _=>some (.flt b)
 | .ref a=>some (.ref a)
 | .type n=>some (.ty n)
 | _=>none
def RelV.abs{x:V}(r:RelV x u):W4 u=some x:=by
 cases x with
 | non=>cases r;rfl
 | bl _=>cases r;rfl
 | int _=>obtain⟨t,rfl⟩:=r;rfl
 | str _=>obtain⟨t,rfl⟩:=r;rfl
 | byt _=>obtain⟨t,rfl⟩:=r;rfl
 | flt _=>obtain⟨t,rfl⟩:=r;rfl
 | ref _=>cases r;rfl
 | ty _=>cases r;rfl
def RelV.inj{x:V}(r:RelV x u)(q:RelV y u):x=y:=aU<|r.abs.symm.trans q.abs
theorem Vals.inj:∀{xs ys:List V}{us:ar},Vals xs us->Vals ys us->xs=ys
 | _,_,_,.nil,.nil=>rfl
 | _,_,_,.cons r t,.cons r' t'=>by rw[r.inj r',Vals.inj t t']
section
variable {X:Cx}{pins:bn}{σ:St}{H:Hp}{s:aC}{a:ak}{xs ys:List V}
def ny.of{K:au}(h:H a=some (.lst xs)):ny K H a xs:=.inl<|.inl h
def lO.of{K:au}(h:H a=some (.tup xs)):lO K H a xs:=.inl<|.inl h
def Inv.list(I:Inv X pins σ H s)(h:ny X.K H a xs):∃its:ar,Vals xs its/\PlainL s.heap a its.toArray/\xs.length<=sizeLine:=by
 rcases h with h|⟨o,its,n,hk,hc,hd,hs,hz,r⟩
 ·obtain⟨z,its,n,r,e⟩:=h.ok I.hok;exact⟨its,r,⟨_,n,e,rfl,rfl,rfl⟩,z⟩
 ·refine⟨its.toList,r,⟨o,n,I.AH a o hk,hc,hd,by simpa using hs⟩,?_⟩;have e:=r.length;dsimp[cD]at e
  lia
def Inv.tuple(I:Inv X pins σ H s)(h:lO X.K H a xs):∃its:ar,Vals xs its/\IsTup s.heap a its.toArray/\xs.length<=sizeLine:=by
 rcases h with h|⟨o,its,n,hk,hc,_,hs,hz,r⟩
 ·obtain⟨z,its,r,p⟩:=h.ok I.hok;exact⟨its,r,p.tup,z⟩
 ·refine⟨its.toList,r,⟨o,I.AH a o hk,hc,n,by simpa using hs⟩,?_⟩;have e:=r.length;dsimp[cD]at e
  lia
def Inv.KI(I:Inv X pins σ H s)(h:ny X.K H a xs)(h':ny X.K H a ys):xs=ys:=by
 obtain⟨its,r,⟨o,n,e,_,_,d⟩,_⟩:=I.list h;obtain⟨its',r',⟨o',n',e',_,_,d'⟩,_⟩:=I.list h';rw[e]at e';cases e';rw[d]at d'
 injection d' with d1 _
 have:its=its':=by simpa using dj Array.toList d1
 subst this;exact r.inj r'
def Inv.uL(I:Inv X pins σ H s)(h:lO X.K H a xs)(h':lO X.K H a ys):xs=ys:=by
 obtain⟨its,r,⟨o,e,_,n,d⟩,_⟩:=I.tuple h;obtain⟨its',r',⟨o',e',_,n',d'⟩,_⟩:=I.tuple h';rw[e]at e';cases e';rw[d]at d'
 injection d' with d1 _
 have:its=its':=by simpa using dj Array.toList d1
 subst this;exact r.inj r'
end
meta abbrev Cx.yl (X:Cx)(E:af->aC->Prop):Cx:={ X with xe:=E }
meta abbrev Cx.U7 (X:Cx):Cx:=X.yl λ_ _=>False
def Cx.Ok.yl{X:Cx}(ok:X.Ok)(E:af->aC->Prop):(X.yl E).Ok:=
 ⟨ok.mod,ok.kind,ok.glob,ok.blt,ok.above,ok.inj,ok.has,ok.cab,ok.hd,ok.frames,ok.stk,ok.exf,ok.bs,ok.bsz,ok.noex,ok.exfs,ok.wu,ok.frf⟩
def Cx.Ok.qI{X:Cx}{E:af->aC->Prop}(ok:(X.yl E).Ok):X.Ok:=
 ⟨ok.mod,ok.kind,ok.glob,ok.blt,ok.above,ok.inj,ok.has,ok.cab,ok.hd,ok.frames,ok.stk,ok.exf,ok.bs,ok.bsz,ok.noex,ok.exfs,ok.wu,ok.frf⟩
section
variable {X:Cx}{pins:bn}{σ:St}{H:Hp}{s:aC}{E:af->aC->Prop}
def Inv.yl(I:Inv X pins σ H s)(E:af->aC->Prop):Inv (X.yl E) pins σ H s:=⟨I.ok.yl E,I.os,I.bare,I.base,I.loc,I.cell,I.free,I.freeC,I.pin,I.hok,I.len⟩
def Inv.qI(I:Inv (X.yl E) pins σ H s):Inv X pins σ H s:=⟨I.ok.qI,I.os,I.bare,I.base,I.loc,I.cell,I.free,I.freeC,I.pin,I.hok,I.len⟩
def SP.qI{D:Ends}{f:Flow}(h:SP (X.yl E) pins D f s'):SP X pins D f s':=by
 cases f with
 | next=>obtain⟨σ',H',I,q⟩:=h;exact⟨σ',H',I.qI,q⟩
 | brk=>obtain⟨σ',H',I,q⟩:=h;exact⟨σ',H',I.qI,q⟩
 | cont=>obtain⟨σ',H',I,q⟩:=h;exact⟨σ',H',I.qI,q⟩
 | ret u=>obtain⟨v,σ',H',I,r,q⟩:=h;exact⟨v,σ',H',I.qI,r,q⟩
def Av.U7{st:List aF}{t:TS}(h:Av X.U7 st t):Av X st t:=λpins s σ H D I hw=>
 fP (h pins s σ H D (I.yl _) hw) (λ_ _ q=>q.qI) λ_ _ z=>False.elim z
end
section
variable {X:Cx}{st:aF}{rest:List aF}{t u:TS}{e:aE}{te:TE}{pos:Pos}
abbrev VA:TS:=λD σ H=>D.nx σ H
abbrev U_ (t u:TS):TS:=λD σ H=>t { D with nx:=u D } σ H
def OC:Av X [] VA:=λ_ _ σ H _ I h=>gH ⟨σ,H,I,h⟩
def Lz(h1:PS X st t)(h2:Av X rest u):Av X (st::rest) (U_ t u):=by
 kln_w;refine wpAny_execs_cons (jM (h1 pins s σ H { D with nx:=u D } I h) λf s1 q=>?_)
 cases f with
 | next=>
  obtain⟨σ',H',I',q⟩:=q;exact h2 pins s1 σ' H' D I' q
 | ret v=>exact q
 | brk=>exact q
 | cont=>exact q
def N2(h1:PS X st t):Av X [st] t:=by
 kln_w;refine wpAny_execs_cons (jM (h1 pins s σ H D I h) λf s1 q=>?_)
 cases f with
 | next=>exact gH q
 | ret v=>exact q
 | brk=>exact q
 | cont=>exact q
def Inv.quiet{H:Hp}(I:Inv X pins σ H s):interactive X.env=false:=by simp[interactive,I.ok.kind]
abbrev UX (te:TE):TS:=λD σ H=>te σ H λ_ H1=>D.nx σ H1
def O8(he:PE X e te)(hs:swapsWith e none pos.line X.env=pure false:=by rfl):PS X (.Expr e pos) (UX te):=by
 kln_w;exact wpAny_Expr_any (jM (he pins s σ H _ I h) λv s1 ⟨x,H1,I1,r1,q1⟩=>⟨σ,H1,I1,q1⟩) I.quiet hs
abbrev W9 (te:TE):TS:=λD σ H=>te σ H D.rt
def Q_(he:PE X e te):PS X (.Return (some e) pos) (W9 te):=by
 kln_w;exact wpAny_Return_some<|jM (he pins s σ H _ I h) λv s1 ⟨x,H1,I1,r1,q1⟩=>⟨x,σ,H1,I1,r1,q1⟩
abbrev VH:TS:=λD _ H=>D.rt .non H
def Oj:PS X (.Return none pos) VH:=λ_ _ σ H _ I h=>wpAny_Return_none ⟨.non,σ,H,I,rfl,h⟩
abbrev Wm (c:TT)(t u:TS):TS:=λD σ H=>c σ H λb H1=>if b=true then t D σ H1 else u D σ H1
def Ud{c:aE}{a:List aF}{tc:TT}(hc:PT X c tc)(ha:Av X a t)(hb:Av X b u):PS X (.If c a b pos) (Wm tc t u):=by
 kln_w;refine wpAny_If (jM (hc pins s σ H _ I h) λd s1 ⟨H1,I1,q1⟩=>?_)
 cases d with
 | true=>exact ha pins s1 σ H1 D I1 q1
 | false=>exact hb pins s1 σ H1 D I1 q1
abbrev Sn:TS:=λ_ _ _=>False
def IC:PS X st Sn:=λ_ _ _ _ _ _ h=>h.elim
end
meta abbrev TG:=V->St->Hp->(St->Hp->Prop)->Prop
meta abbrev PY:=List V->St->Hp->(St->Hp->Prop)->Prop
abbrev PG (X:Cx)(target:aE)(t:TG):Prop:=
 ∀(pins:bn) (s:aC) (σ:St) (H:Hp) (v:V) (u:af) (Q:St->Hp->Prop),Inv X pins σ H s->RelV v u->t v σ H Q ->
  wpAny (model X.prog X.w) X.A (assign target X.env u) (λ_ s'=>∃σ' H',Inv X pins σ' H' s'/\Q σ' H') X.xe s
abbrev UT (X:Cx)(ts:List aE)(t:PY):Prop:=
 ∀(pins:bn) (s:aC) (σ:St) (H:Hp) (vs:List V) (us:ar) (Q:St->Hp->Prop),Inv X pins σ H s->Vals vs us->t vs σ H Q ->
  wpAny (model X.prog X.w) X.A (assignInOrder ((assignEach ts X.env).map (·.2)) us) (λ_ s'=>∃σ' H',Inv X pins σ' H' s'/\Q σ' H') X.xe s
meta abbrev B4:=V->V->V->Hp->(Hp->Prop)->Prop
abbrev Bw (X:Cx)(t:B4):Prop:=
 ∀(pins:bn) (s:aC) (σ:St) (H:Hp) (o i v:V) (ov iv u:af) (Q:Hp->Prop),Inv X pins σ H s->RelV o ov->RelV i iv->RelV v u->t o i v H Q ->
  wpAny (model X.prog X.w) X.A (setItem ov iv u) (λ_ s'=>∃H',Inv X pins σ H' s'/\Q H') X.xe s
meta abbrev RA:=V->V->Hp->VK->Prop
abbrev Pp (X:Cx)(op:Operator)(t:RA):Prop:=
 ∀(pins:bn) (s:aC) (σ:St) (H:Hp) (x y:V) (v u:af) (Q:VK),Inv X pins σ H s->RelV x v->RelV y u->t x y H Q ->
  wpAny (model X.prog X.w) X.A (inplaceOp op v u) (EP X pins σ Q) X.xe s
section
variable {X:Cx}{pos:Pos}
abbrev P0 (i:Nat):TG:=λv σ H Q=>Q (σ.set i<|some v) H
def O1{i:Nat}{x:Str}(hN:X.N.Nodup)(hi:X.N[i]?=some x)(hx:Loc X.env.scope x)(hf:X.fn x=true\/X.env.scope.names.lookup x=some .local:=by first|exact .inl rfl|exact .inr rfl|assumption):PG X (.Name x pos) (P0 i):=by
 intro pins s σ H v u Q I r h;exact wpAny_assign_Name<|xT I hN hi hx r (λs' I'=>⟨_,H,I',h⟩) hf
abbrev WX:PY:=λvs σ H Q=>vs=[]/\Q σ H
abbrev UY (t:TG)(u:PY):PY:=λvs σ H Q=>∃v r,vs=v::r/\t v σ H λσ' H'=>u r σ' H' Q
def NU:UT X [] WX:=by
 intro pins s σ H vs us Q I r h;obtain⟨e,h⟩:=h;subst e
 cases r
 exact assignInOrder_nil ⟨σ,H,I,h⟩
def K9{e:aE}{t:TG}{u:PY}(h1:PG X e t)(h2:UT X es u)
  (hs:(assignEach (e::es) X.env).map (·.2)=assign e X.env::(assignEach es X.env).map (·.2):=by rfl):UT X (e::es) (UY t u):=by
 intro pins s σ H vs us Q I r h;obtain⟨v,vr,e1,h⟩:=h;subst e1
 cases r with
 | cons r rr=>
  rw[hs];refine assignInOrder_cons<|jM (h1 pins s σ H _ _ _ I r h) λ_ s1 ⟨σ1,H1,I1,q1⟩=>?_;exact h2 pins s1 σ1 H1 _ _ Q I1 rr q1
abbrev Xg (K:au)(n:Nat)(t:PY):TG:=λv σ H Q=>∃a xs,v=.ref a/\lO K H a xs/\xs.length=n/\t xs σ H Q
def R0{k:Nat}{t:PY}{n:Nat}(hc:X.calm=true)(h:UT X es t)
  (hn:(assignEach es X.env).length=n:=by rfl) (hst:(assignEach es X.env).findIdx? (·.1)=none:=by rfl):PG X (.Tuple es k pos) (Xg X.K n t):=by
 intro pins s σ H v u Q I r hw;obtain⟨a,xs,e1,hq,hl,hw⟩:=hw;subst e1
 cases r
 obtain⟨its,rv,ht,hz⟩:=I.tuple hq;refine assign_Tuple_tuple (I.ok.hd hc) ht (by simp[hn,<- hl,rv.length]) hst λh' hx=>?_;have I1:Inv X pins σ H { s with heap:=h' }:=I.kept (t':=s.toks) λb o e=>hx b o (bD<|br e) e;exact h pins _ σ H xs _ Q I1 (by simpa using rv) hw
abbrev W0 (to ti:TE)(t:B4):TG:=λv σ H Q=>to σ H λo H1=>ti σ H1 λi H2=>t o i v H2 λH3=>Q σ H3
def CM{to ti:TE}{t:B4}(ho:PE X o to)(hi:PE X i ti)(hs:Bw X t)
  (ha:∀v,assign (.Subscript o i pos) X.env v=(do
   let ov <- holding [v] (eval o X.env)
   let iv <- holding [v,ov] (eval i X.env)
   standAt pos
   holding [v,ov,iv] (setItem ov iv v)
   release [v,ov,iv] []):=by intro _;rfl):PG X (.Subscript o i pos) (W0 to ti t):=by
 intro pins s σ H v u Q I r h;rw[ha];refine aH<|dg<|jM (ho pins s σ H _ I h) λov s1 ⟨x,H1,I1,r1,q1⟩=>?_;refine aH<|dg<|jM (hi pins s1 σ H1 _ I1 q1) λiv s2 ⟨y,H2,I2,r2,q2⟩=>?_;refine aH<|eY<|aH<|dg<|jM (hs pins s2 σ H2 x y v ov iv u _ I2 r1 r2 r q2) λ_ s3 ⟨H3,I3,q3⟩=>?_;exact wpAny_release ⟨σ,H3,I3,q3⟩
abbrev Q9 (te:TE)(g:TG):TS:=λD σ H=>te σ H λx H1=>g x σ H1 D.nx
def Sf{tg e:aE}{te:TE}{g:TG}(he:PE X e te)(hg:PG X tg g)(hs:swapsWithSole [tg] e pos.line X.env=pure false:=by rfl)(hw:swappedStores [tg] e X.env=pure none:=by rfl)
  (h1:(assignEach [tg] X.env).map (·.2)=[assign tg X.env]:=by rfl):PS X (.Assign [tg] e pos) (Q9 te g):=by
 kln_w;refine wpAny_Assign_stores (jM (he pins s σ H _ I h) λv s1 ⟨x,H1,I1,r1,q1⟩=>?_) hs hw;rw[h1];exact jM (hg pins s1 σ H1 x v _ I1 r1 q1) λ_ s2 q=>q
def Q7{i:Nat}{x:Str}{e:aE}{te:TE}(hN:X.N.Nodup)(hi:X.N[i]?=some x)(hx:Loc X.env.scope x)(he:PE X e te)(hs:swapsWith e (some<|.Name x pos') pos.line X.env=pure false:=by rfl)(hf:X.fn x=true\/X.env.scope.names.lookup x=some .local:=by first|exact .inl rfl|exact .inr rfl|assumption) :
  PS X (.Assign [.Name x pos'] e pos) (Q9 te<|P0 i):=by
 kln_w;refine wpAny_Assign_Name (jM (he pins s σ H _ I h) λv s1 ⟨y,H1,I1,r1,q1⟩=>?_) hs;exact xT I1 hN hi hx r1 (λs2 I2=>⟨_,H1,I2,q1⟩) hf
abbrev Wu (i:Nat)(te:TE)(ti:RA):TS:=λD σ H=>∃x,σ[i]?=some (some x)/\te σ H λy H1=>ti x y H1 λz H2=>D.nx (σ.set i<|some z) H2
def QV{i:Nat}{x:Str}{e:aE}{te:TE}{ti:RA}(hN:X.N.Nodup)(hi:X.N[i]?=some x)(hx:Loc X.env.scope x)(he:PE X e te)(ho:Pp X op ti)(hf:X.fn x=true\/X.env.scope.names.lookup x=some .local:=by first|exact .inl rfl|exact .inr rfl|assumption) :
  PS X (.AugAssign (.Name x pos') op e pos) (Wu i te ti):=by
 kln_w;obtain⟨v,e1,h⟩:=h;obtain⟨m,hn,hl⟩:=I.loc;have vis:TY X.env.scope x:=by rcases hx with k|k;exact .inl k;exact .inr (.inl k)
 obtain⟨u,r,l⟩:=hl i x v hi e1 vis;refine wpAny_AugAssign_Name ?_;have go:wpAny (model X.prog X.w) X.A (eval e X.env) (λw s₂=>wpAny (model X.prog X.w) X.A (inplaceOp op u w) (λr s₃=>wpAny (model X.prog X.w) X.A (storeName X.env x r) (λ_=>SP X pins D .next) X.xe s₃) X.xe s₂) X.xe s:=by
  refine jM (he pins s σ H _ I h) λw s1 ⟨y,H1,I1,r1,q1⟩=>?_;refine jM (ho pins s1 σ H1 v y u w _ I1 r r1 q1) λz s2 ⟨zv,H2,I2,r2,q2⟩=>?_;exact xT I2 hN hi hx r2 (λs3 I3=>⟨_,H2,I3,q2⟩) hf
 rcases l with⟨hk,hm⟩|⟨hk,c,hc,hcell⟩
 ·exact wpAny_loadName_local I.ok.kind hk hn hm go
 ·rcases hk with hk|hk
  ·exact wpAny_loadName_cell I.ok.kind hk hc hcell go
  ·rcases hx with k|k
   ·have:X.env.scope.names.lookup x=some .free:=hk;rw[k]at this;cases this
   ·have:X.env.scope.names.lookup x=some .free:=hk;rw[k]at this;cases this
abbrev Uw (to ti te:TE)(tget:V->V->Hp->VK->Prop)(tip:RA)(tset:B4):TS:=λD σ H=>to σ H λo H1=>ti σ H1 λi H2=>tget o i H2 λx H3=>te σ H3 λy H4=>tip x y H4 λz H5=>tset o i z H5 λH6=>D.nx σ H6
abbrev Sq (X:Cx)(t:V->V->Hp->VK->Prop):Prop:=
 ∀(pins:bn) (s:aC) (σ:St) (H:Hp) (o i:V) (ov iv:af) (Q:VK),Inv X pins σ H s->RelV o ov->RelV i iv->t o i H Q ->
  wpAny (model X.prog X.w) X.A (getItem ov iv) (EP X pins σ Q) X.xe s
def Ov{e:aE}{to ti te:TE}{tget:V->V->Hp->VK->Prop}{tip:RA}{tset:B4}(ho:PE X o to)(hi:PE X i ti)(hg:Sq X tget)(he:PE X e te)(hp:Pp X op tip)(hs:Bw X tset)
  (ha:∀ov iv new,augStore i ov iv new=(do holding [new,ov,iv] (setItem ov iv new);release [new,ov,iv] [];pure .next):=by intros;rfl):PS X (.AugAssign (.Subscript o i tpos) op e pos) (Uw to ti te tget tip tset):=by
 kln_w;refine wpAny_AugAssign_SubscriptAny (jM (ho pins s σ H _ I h) λov s1 ⟨x1,H1,I1,r1,q1⟩=>?_) ha;refine jM (hi pins s1 σ H1 _ I1 q1) λiv s2 ⟨x2,H2,I2,r2,q2⟩=>?_;refine jM (hg pins s2 σ H2 x1 x2 ov iv _ I2 r1 r2 q2) λold s3 ⟨x3,H3,I3,r3,q3⟩=>?_;refine jM (he pins s3 σ H3 _ I3 q3) λv s4 ⟨x4,H4,I4,r4,q4⟩=>?_;refine jM (hp pins s4 σ H4 x3 x4 old v _ I4 r3 r4 q4) λnew s5 ⟨x5,H5,I5,r5,q5⟩=>?_;exact jM (hs pins s5 σ H5 x1 x2 x5 ov iv new _ I5 r1 r2 r5 q5) λ_ s6 ⟨H6,I6,q6⟩=>⟨σ,H6,I6,q6⟩
abbrev XH (f:Int->Int->Int):RA:=λx y H Q=>∃i j,x=.int i/\y=.int j/\Q (.int<|f i j) H
def TJ:Pp X .Add (XH λi j=>i+j):=by
 intro pins s σ H x y v u Q I r1 r2 h;obtain⟨i,j,e1,e2,q⟩:=h;subst e1;subst e2;obtain⟨t,rfl⟩:=r1;obtain⟨t',rfl⟩:=r2;exact iadd_int ⟨.int _,H,I.tok _,⟨_,rfl⟩,q⟩
def SI:Pp X .Sub (XH λi j=>i-j):=by
 intro pins s σ H x y v u Q I r1 r2 h;obtain⟨i,j,e1,e2,q⟩:=h;subst e1;subst e2;obtain⟨t,rfl⟩:=r1;obtain⟨t',rfl⟩:=r2;exact isub_int ⟨.int _,H,I.tok _,⟨_,rfl⟩,q⟩
end
section
variable {X:Cx}{pos:Pos}
abbrev MT (c:TT)(tb:TS):TS:=λD σ H=>∃W:Nat->St->Hp->Prop,(∃m,W m σ H)/\∀m σ H,W m σ H ->
 c σ H λb H1=>if b=true then ∃N:St->Hp->Prop,(∀σ' H',N σ' H'->∃m',m'<m/\W m' σ' H')/\tb { D with nx:=N,ct:=N,bk:=D.nx } σ H1 else D.nx σ H1
def LC{c:aE}{tc:TT}{tb:TS}(hp:PassesOwn (model X.prog X.w) X.A X.env X.xe)(hc:PT X c tc)(hb:Av X body tb):PS X (.While c body [] pos) (MT tc tb):=by
 kln_w;obtain⟨W,⟨m0,w0⟩,turn⟩:=h;refine wpAny_While<|codeAny_whileLoop (λn s'=>∃σ' H',Inv X pins σ' H' s'/\W n σ' H') ?_ m0 ⟨σ,H,I,w0⟩;rintro n s1 ⟨σ1,H1,I1,w1⟩;refine d7 hp (jM (hc pins s1 σ1 H1 _ I1<|turn n σ1 H1 w1) λb s2 ⟨H2,I2,q2⟩=>?_)
 cases b with
 | true=>
  obtain⟨N,hN,q2⟩:=q2;rw[aL rfl];refine d7 hp (jM (hb pins s2 σ1 H2 _ I2 q2) λf s3 q3=>?_)
  cases f with
  | next=>
   obtain⟨σ3,H3,I3,n3⟩:=q3;obtain⟨m',hm,w3⟩:=hN σ3 H3 n3;exact⟨m',hm,σ3,H3,I3,w3⟩
  | cont=>
   obtain⟨σ3,H3,I3,n3⟩:=q3;obtain⟨m',hm,w3⟩:=hN σ3 H3 n3;exact⟨m',hm,σ3,H3,I3,w3⟩
  | brk=>exact q3
  | ret v=>exact q3
 | false=>
  rw[aJ bH];exact gH ⟨σ1,H2,I2,q2⟩
end
structure It where
 go:Nat->Hp->Prop
 yld:Nat->Hp->V->Hp->Prop
 stop:Nat->Hp->Prop
abbrev qp (X:Cx)(pins:bn)(H:Hp)(b:ak):Prop:=
 H b=none/\b≠X.env.locals/\b∉X.fs/\(b∈X.ex\/X.s₀.heap.objs.size<=b)/\(∀x c,X.env.cells.lookup x=some c->c≠b)/\∀p∈X.pn++pins,p.1≠b
def Inv.DU{X:Cx}{H H':Hp}{s:aC}(I:Inv X pins σ H s)(hb:s.heap.objs.size<=b)(hn:H' b=none):qp X pins H' b:=by
 refine⟨hn,ne_of_gt<|bM I.lt hb,I.WV hb,.inr<|bP I.sz hb,λx c e z=>?_,λp hp z=>?_⟩
 ·obtain⟨v,q⟩:=I.cell x c e;exact absurd (bM q.lt<|by rw[z];exact hb) (eX _)
 ·exact absurd (bM (br (I.pin p hp).1)<|by rw[z];exact hb)<|eX _
structure Turn (P:aj)(w:ah)(K:au)(tg:aE)(J:It)(fp:ba)(it:ak)(tn:Nat->aq->Prop):Prop where
 mem:it∈fp
 obj:∀i h,tn i h->∀b∈fp,∃o,h.get? b=some o/\∀v,o.data≠.cell v
 keep:∀i h h',tn i h->(∀b∈fp,∀o,h.get? b=some o->h'.get? b=some o)->tn i h'
 item:∀(X:Cx),X.prog=P->X.w=w->X.K=K->X.calm=true->∀(i:Nat) (pins:bn) (s:aC) (σ:St) (H:Hp) (E:af->aC->Prop),Inv X pins σ H s->(∀b∈fp,qp X pins H b)->tn i s.heap->J.go i H ->
  wpAny (model P w) X.A (pyNext<|.ref it) (λr s1=>∃u,r=some u /\
   wpAny (model P w) X.A (letOwnedTupleGo tg (.ref it) u) (λ_ s2=>∃x H',Inv X pins σ H' s2/\RelV x u/\J.yld i H x H'/\tn (i+1) s2.heap/\∀b∈fp,H' b=none) E s1) E s
 done:∀(X:Cx),X.prog=P->X.w=w->X.K=K->X.calm=true->∀(i:Nat) (pins:bn) (s:aC) (σ:St) (H:Hp) (E:af->aC->Prop),Inv X pins σ H s->(∀b∈fp,qp X pins H b)->tn i s.heap->J.stop i H ->
  wpAny (model P w) X.A (pyNext<|.ref it) (λr s1=>r=none/\Inv X pins σ H s1) E s
 self:∀(A:aA) (i:Nat) (s:aC) (Q:af->aC->Prop) (E:af->aC->Prop),tn i s.heap->Q (.ref it) s->wpAny (model P w) A (pyIter<|.ref it) Q E s
meta abbrev TI:=St->Hp->(It->Hp->Prop)->Prop
abbrev XJ (X:Cx)(pins:bn)(σ:St)(tg:aE)(R:It->Hp->Prop)(itv:af)(s2:aC):Prop:=
 ∃(it:ak) (fp:ba) (tn:Nat->aq->Prop) (J:It) (H':Hp),itv=.ref it/\Inv X pins σ H' s2/\Turn X.prog X.w X.K tg J fp it tn/\tn 0 s2.heap/\(∀b∈fp,qp X pins H' b)/\R J H'
abbrev PI (X:Cx)(tg iter:aE)(wi:TI):Prop:=
 ∀(pins:bn) (s:aC) (σ:St) (H:Hp) (R:It->Hp->Prop),Inv X pins σ H s->wi σ H R ->
  wpAny (model X.prog X.w) X.A (eval iter X.env) (λv s1=>wpAny (model X.prog X.w) X.A (pyIter v) (XJ X pins σ tg R) X.xe s1) X.xe s
def FL{A:aA}{E:af->aC->Prop}{s:aC}{o:Obj}{n:String}{Q:Unit->aC->Prop}(ho:s.heap.get? it=some o)(hc:o.cls=.type n)(hd:o.data=.fields vs)
  (hn:["enumerate", "zip", "dict_itemiterator", "dict_reverseitemiterator", "odict_iterator", "itertools.zip_longest", "itertools.pairwise"].contains n=false) (hQ:Q Unit.unit s):wpAny M A (letOwnedTupleGo tg (.ref it) u) Q E s:=by
 unfold letOwnedTupleGo
 cases tg<;>first
  | exact aO hQ
  | (cases u<;>first
    | exact aO hQ
    | (refine aH (wpAny_load ho ?_)
       rw[hc,hd];show wpAny M A (if (["enumerate", "zip", "dict_itemiterator", "dict_reverseitemiterator", "odict_iterator", "itertools.zip_longest", "itertools.pairwise"].contains n && vs[0]? == some (rawInt _))=true then _ else _) Q E s;rw[aJ<|by intro h;rw[hn,gT]at h;cases h];exact aO hQ))
abbrev VR (K:au)(a:ak):It:=
 ⟨λi H=>∃xs x,ny K H a xs/\xs[i]?=some x,λi H x H'=>H'=H/\∀xs,ny K H a xs->xs[i]?=some x,λi H=>∃xs,ny K H a xs/\xs.length<=i⟩
abbrev Xb (K:au)(a:ak):It:=
 ⟨λi H=>∃xs x,lO K H a xs/\xs[i]?=some x,λi H x H'=>H'=H/\∀xs,lO K H a xs->xs[i]?=some x,λi H=>∃xs,lO K H a xs/\xs.length<=i⟩
abbrev Vb (lo:Int)(n:Nat):It:=⟨λi _=>i<n,λi H x H'=>H'=H/\x=.int (lo+i),λi _=>n<=i⟩
def HP{P:aj}{w:ah}{K:au}(a it:ak):Turn P w K tg (VR K a) [it] it (λi h=>h.IsListIter it a i) where
 mem:=by simp
 obj:=λi h st b hb=>by
  have e:b=it:=by simpa using hb
  subst e;obtain⟨o,e,c,d⟩:=st;exact⟨o,e,λv z=>by rw[d]at z;cases z⟩
 keep:=λi h h' st k=>st.at λo e=>k it (by simp) o e
 item:=by
  k_ne;subst hP hw hK;obtain⟨xs,x,hq,hx⟩:=hg;obtain⟨its,rv,p,hz⟩:=I.list hq;obtain⟨u,hu,ru⟩:=rv.get hx;gn_on;refine wpAny_pyNext_list_item st p.isList (x:=u) (by simpa using hu) λh' st' sb=>?_;have I1:Inv X pins σ H { s with heap:=h' }:=I.turned (t':=s.toks) (λb o hb e=>(sb.2 b hb).trans e) f0 f1 f3 f4 f5;obtain⟨o,e,c,d⟩:=id st';exact⟨u,rfl,FL (s:={ s with heap:=h' }) e c d ⋯ ⟨x,H,I1,ru,⟨rfl,λys hy=>by rw[I.KI hy hq];exact hx⟩,st',λb hb=>(hf b hb).1⟩⟩
 done:=by
  k_ne;subst hP hw hK;obtain⟨xs,hq,hx⟩:=hg;obtain⟨its,rv,p,hz⟩:=I.list hq;gn_on;have hl:=rv.length;exact wpAny_pyNext_list_end (I.ok.hd hc) st p.isList (by simp;omega) λh' eb=>⟨rfl,I.turned (t':=s.toks) (λb o hb e=>eb b o hb e) f0 f1 f3 f4 f5⟩
 self:=λ_ _ _ _ _ st h=>wpAny_pyIter_listiter st h
def CY{P:aj}{w:ah}{K:au}(a it:ak):Turn P w K tg (Xb K a) [it] it (λi h=>h.IsTupleIter it a i) where
 mem:=by simp
 obj:=λi h st b hb=>by
  have e:b=it:=by simpa using hb
  subst e;obtain⟨o,e,c,d⟩:=st;exact⟨o,e,λv z=>by rw[d]at z;cases z⟩
 keep:=λi h h' st k=>st.at λo e=>k it (by simp) o e
 item:=by
  k_ne;subst hP hw hK;obtain⟨xs,x,hq,hx⟩:=hg;obtain⟨its,rv,p,hz⟩:=I.tuple hq;obtain⟨u,hu,ru⟩:=rv.get hx;gn_on;refine wpAny_pyNext_tuple_item st (show s.heap.IsTuple a its.toArray from p) (x:=u) (by simpa using hu) λh' st' sb=>?_;have I1:Inv X pins σ H { s with heap:=h' }:=I.turned (t':=s.toks) (λb o hb e=>(sb.2 b hb).trans e) f0 f1 f3 f4 f5;obtain⟨o,e,c,d⟩:=id st';exact⟨u,rfl,FL (s:={ s with heap:=h' }) e c d ⋯ ⟨x,H,I1,ru,⟨rfl,λys hy=>by rw[I.uL hy hq];exact hx⟩,st',λb hb=>(hf b hb).1⟩⟩
 done:=by
  k_ne;subst hP hw hK;obtain⟨xs,hq,hx⟩:=hg;obtain⟨its,rv,p,hz⟩:=I.tuple hq;gn_on;have hl:=rv.length;exact wpAny_pyNext_tuple_end (I.ok.hd hc) st (show s.heap.IsTuple a its.toArray from p) (by simp;lia) λh' eb=>⟨rfl,I.turned (t':=s.toks) (λb o hb e=>eb b o hb e) f0 f1 f3 f4 f5⟩
 self:=λ_ _ _ _ _ st h=>wpAny_pyIter_tupleiter st h
def CJ{P:aj}{w:ah}{K:au}(it:ak)(lo:Int)(n:Nat):Turn P w K tg (Vb lo n) [it] it (λi h=>IsRangeIter h it (lo+(i:Nat) * 1) ((n:Int)-(i:Nat)) 1) where
 mem:=by simp
 obj:=λi h st b hb=>by
  have e:b=it:=by simpa using hb
  subst e;exact⟨_,st,λv z=>by
   have z':Data.fields _=Data.cell v:=z
   cases z'⟩
 keep:=λi h h' st k=>k it (by simp) _ st
 item:=by
  k_ne;subst hP hw hK;gn_on;have W:=Walks.range (prog:=X.prog) (w:=X.w) (I.ok.hd hc) it lo 1 n;refine W.item i s _ _ hg st λv h' tk hv st' kk=>?_;obtain⟨t,rfl⟩:=hv;have I1:Inv X pins σ H { s with heap:=h',toks:=tk }:=I.turned (λb o hb e=>kk b o (by simpa using hb) e) f0 f1 f3 f4 f5;refine⟨_,rfl,FL (s:={ s with heap:=h',toks:=tk }) (n := "range_iterator") st' rfl rfl ⋯ ⟨.int<|lo+i,H,I1,⟨t,?_⟩,⟨rfl,rfl⟩,st',λb hb=>(hf b hb).1⟩⟩;rw[Int.mul_one]
 done:=by
  k_ne;subst hP hw hK;gn_on;exact wpAny_pyNext_range_end (I.ok.hd hc) st (by have:n<=i:=hg;lia) λh' eb=>⟨rfl,I.turned (t':=s.toks) (λb o hb e=>eb b o hb e) f0 f1 f3 f4 f5⟩
 self:=λ_ _ _ _ _ st h=>wpAny_pyIter_rangeiter st h
section
variable {X:Cx}{tg:aE}
abbrev Vg (K:au)(tl:TE):TI:=λσ H R=>tl σ H λx H1=>∃a,x=.ref a/\(∃xs,ny K H1 a xs)/\R (VR K a) H1
abbrev Wn (K:au)(tl:TE):TI:=λσ H R=>tl σ H λx H1=>∃a,x=.ref a/\(∃xs,lO K H1 a xs)/\R (Xb K a) H1
def Em{tl:TE}(hl:PE X l tl):PI X tg l (Vg X.K tl):=by
 intro pins s σ H R I h;refine jM (hl pins s σ H _ I h) λv s1 ⟨x,H1,I1,r1,q1⟩=>?_;obtain⟨a,e,⟨xs,hq⟩,q⟩:=q1;subst e
 cases r1
 obtain⟨its,rv,p,hz⟩:=I1.list hq;refine wpAny_pyIter_list p.isList ?_;refine⟨s1.heap.objs.size,[s1.heap.objs.size],_,_,H1,rfl,I1.kept (t':=s1.toks) λb o e=>aR _ e,HP a _,⟨_,bB _ rfl,rfl,rfl⟩,λb hb=>?_,q⟩;have e:b=s1.heap.objs.size:=by simpa using hb
 subst e;o_rec
def K8{tl:TE}(hl:PE X l tl):PI X tg l (Wn X.K tl):=by
 intro pins s σ H R I h;refine jM (hl pins s σ H _ I h) λv s1 ⟨x,H1,I1,r1,q1⟩=>?_;obtain⟨a,e,⟨xs,hq⟩,q⟩:=q1;subst e
 cases r1
 obtain⟨its,rv,p,hz⟩:=I1.tuple hq;refine fQ (show s1.heap.IsTuple a its.toArray from p) ?_;refine⟨s1.heap.objs.size,[s1.heap.objs.size],_,_,H1,rfl,I1.kept (t':=s1.toks) λb o e=>aR _ e,CY a _,⟨_,bB _ rfl,rfl,rfl⟩,λb hb=>?_,q⟩;have e:b=s1.heap.objs.size:=by simpa using hb
 subst e;o_rec
def BF{H:Hp}{s:aC}{R:It->Hp->Prop}{E:af->aC->Prop}{lo hi:Int}{v:Tok}{tk:Nat}(I:Inv X pins σ H s)(h1:-(2 ^ 62)<=lo)(h2:lo<2 ^ 62)(h3:-(2 ^ 62)<=hi)(h4:hi<2 ^ 62)
  (q:R (Vb lo (hi-lo).toNat) H):wpAny (model X.prog X.w) X.A (pyIter<|.ref s.heap.objs.size) (XJ X pins σ tg R) E { s with heap:=s.heap.push { cls:=.type "range",data:=.fields #[.int lo t,.int hi u,.int 1 v]},toks:=tk }:=by
 refine wpAny_pyIter_range (IsRange.new ..) (small_one h1 h2 h3 h4) ?_;have I1:Inv X pins σ H { s with heap:=s.heap.push { cls:=.type "range",data:=.fields #[.int lo t,.int hi u,.int 1 v]},toks:=tk }:=I.kept λb o e=>aR _ e;refine⟨(s.heap.push { cls:=.type "range",data:=.fields #[.int lo t,.int hi u,.int 1 v]}).objs.size,[(s.heap.push { cls:=.type "range",data:=.fields #[.int lo t,.int hi u,.int 1 v]}).objs.size],_,_,H,rfl,
  I1.kept (t':=tk) λb o e=>aR _ e,CJ _ lo (hi-lo).toNat,?_,λb hb=>?_,q⟩
 ·have e1:lo+((0:Nat):Int) * 1=lo:=by simp
  have e2:(((hi-lo).toNat:Nat):Int)-((0:Nat):Int)=Builtin.Range.rangeSize lo hi 1:=by rw[rangeSize_one];split<;>lia
  skip
  rw[e1,e2];exact bB _ rfl
 ·have e:b=(s.heap.push { cls:=.type "range",data:=.fields #[.int lo t,.int hi u,.int 1 v]}).objs.size:=by simpa using hb
  subst e;o_rec
abbrev qR (ta:TA):TI:=λσ H R=>ta σ H λvs H1=>∃j:Int,vs=[.int j]/\-(2 ^ 62)<=j/\j<2 ^ 62/\R (Vb 0 j.toNat) H1
abbrev pU (ta:TA):TI:=λσ H R=>ta σ H λvs H1=>∃i j:Int,vs=[.int i,.int j]/\(-(2 ^ 62)<=i/\i<2 ^ 62/\-(2 ^ 62)<=j/\j<2 ^ 62)/\R (Vb i (j-i).toNat) H1
def Hx{a:aE}{ta:TA}{p:Pos}(hg:Gl X "range")(hm:X.mg "range" = none)(ha:PA X [a] ta)(hs:starEach [a] X.env=[(false,eval a X.env)]:=by rfl):PI X tg (.Call (.Name "range" p) [a] [] pos) (qR ta):=by
 intro pins s σ H R I h;refine Call_<|uW I hg hm boot_range<|dQ (jM (ha pos pins s σ H _ I h) λus s1 ⟨vs,H1,I1,r1,q1⟩=>?_) hs rfl;obtain⟨j,e,q1,q2,q⟩:=q1;subst e
 cases r1 with
 | cons r rr=>
  cases rr
  obtain⟨t,rfl⟩:=r;exact call_range_1<|BF I1 () () q1 q2<|by simpa using q
def Hr{a b:aE}{ta:TA}{p:Pos}(hg:Gl X "range")(hm:X.mg "range" = none)(ha:PA X [a,b] ta)(hs:starEach [a,b] X.env=[(false,eval a X.env),(false,eval b X.env)]:=by rfl)(hs2:starEach [b] X.env=[(false,eval b X.env)]:=by rfl) :
  PI X tg (.Call (.Name "range" p) [a,b] [] pos) (pU ta):=by
 intro pins s σ H R I h;refine Call_ (uW I hg hm boot_range<|dQ (jM (ha pos pins s σ H _ I h) λus s1 ⟨vs,H1,I1,r1,q1⟩=>?_) (by rw[hs,hs2])<|by rw[hs2];rfl);obtain⟨i,j,e,⟨q1,q2,q3,q4⟩,q⟩:=q1;subst e
 cases r1 with
 | cons r rr=>
  cases rr with
  | cons r' rr=>
   cases rr
   obtain⟨t,rfl⟩:=r;obtain⟨t',rfl⟩:=r';exact call_range_2<|BF I1 q1 q2 q3 q4 q
abbrev WJ (wi:TI)(g:TG)(tb:TS):TS:=λD σ H=>wi σ H λJ H1=>∃W:Nat->Nat->St->Hp->Prop,(∃m,W 0 m σ H1)/\∀i m σ H,W i m σ H ->
 (J.stop i H/\D.nx σ H)\/(J.go i H/\∃N:St->Hp->Prop,(∀σ' H',N σ' H'->∃m',m'<m/\W (i+1) m' σ' H')/\∀x H',J.yld i H x H'->g x σ H' λσ2 H2=>tb { D with nx:=N,ct:=N,bk:=D.nx } σ2 H2)
abbrev sL (fp:ba)(h:aq):bn:=fp.filterMap λb=>(h.get? b).map λo=>(b,o)
def kD{fp:ba}{h:aq}{b:ak}(hb:b∈fp)(e:h.get? b=some o):(b,o)∈sL fp h:=List.mem_filterMap.mpr ⟨b,hb,by rw[e];rfl⟩
def HR{fp:ba}{h:aq}{p:ak×Obj}(hp:p∈sL fp h):p.1∈fp/\h.get? p.1=some p.2:=by
 obtain⟨b,hb,e⟩:=List.mem_filterMap.mp hp
 cases q:h.get? b with
 | none=>rw[q]at e;cases e
 | some o=>
  rw[q]at e;have e':(b,o)=p:=aU e;subst e';exact⟨hb,q⟩
def Inv.pinned{H:Hp}{s:aC}{fp:ba}(I:Inv X pins σ H s)(hf:∀b∈fp,qp X pins H b)(ho:∀b∈fp,∃o,s.heap.get? b=some o/\∀v,o.data≠.cell v):Inv X (pins++sL fp s.heap) σ H s:=
 I.FQ λp hp=>(bF.mp hp).elim (λz=>I.pin p<|bA _ z) λz=>by
  obtain⟨hb,e⟩:=HR z;obtain⟨f0,f1,f2,_⟩:=hf p.1 hb;obtain⟨o,e',d⟩:=ho p.1 hb;rw[e]at e';cases e';exact⟨e,f0,f1,f2,d⟩
def Inv.pV{pl:bn}{H:Hp}(I:Inv X (pins++pl) σ H s):Inv X pins σ H s:=I.FQ λp hp=>I.pin p<|bA _<|dG _ hp
def Q2{iter:aE}{wi:TI}{g:TG}{tb:TS}(hp:PassesOwn (model X.prog X.w) X.A X.env X.xe)(hc:X.calm=true)(hi:PI X tg iter wi)(hg:PG X tg g)(hb:Av X body tb)
  (hs:∀x,foldedSetIterable iter X.env x=pure x:=by intro _;rfl):PS X (.For tg iter body [] pos) (WJ wi g tb):=by
 kln_w;refine wpAny_For (jM (hi pins s σ H _ I h) λv s1 h1=>jM h1 λitv s2 h2=>?_) hs;obtain⟨it,fp,tn,J,H2,e,I2,T,st2,f2,W,⟨m0,w0⟩,turn⟩:=h2;subst e;have stat:∀{H':Hp},(∀b∈fp,H' b=none)->∀b∈fp,qp X pins H' b:=λhn b hb=>⟨hn b hb,(f2 b hb).2⟩;refine codeAny_forLoop_any (λn s'=>∃i σ' H',Inv X pins σ' H' s'/\tn i s'.heap/\(∀b∈fp,H' b=none)/\W i n σ' H') ?_ m0 ⟨0,σ,H2,I2,st2,λb hb=>(f2 b hb).1,w0⟩;rintro n s3 ⟨i,σ3,H3,I3,st3,fr3,w3⟩
 rcases turn i n σ3 H3 w3 with⟨stop,qn⟩|⟨go,N,hN,step⟩
 ·refine d7 hp<|jM (T.done X rfl rfl rfl hc i pins s3 σ3 H3 X.xe I3 (stat fr3) st3 stop) λr s4 ⟨hr,I4⟩=>?_;subst hr;exact gH ⟨σ3,H3,I4,qn⟩
 ·refine d7 hp<|jM (T.item X rfl rfl rfl hc i pins s3 σ3 H3 X.xe I3 (stat fr3) st3 go) λr s4 ⟨u,hr,h4⟩=>?_;subst hr;refine d7 hp<|jM h4 λ_ s5 ⟨x,H5,I5,r5,y5,st5,fr5⟩=>?_;have I5':=I5.pinned (stat fr5)<|T.obj _ _ st5;refine d7 hp<|jM (hg _ s5 σ3 H5 x u _ I5' r5<|step x H5 y5) λ_ s6 ⟨σ6,H6,I6,q6⟩=>?_;refine d7 hp<|jM (hb _ s6 σ6 H6 _ I6 q6) λf s7 q7=>?_;have again:∀{σ7:St} {H7:Hp},Inv X (pins++sL fp s5.heap) σ7 H7 s7->N σ7 H7->∃m,m<n/\∃i σ' H',Inv X pins σ' H' s7/\tn i s7.heap/\(∀b∈fp,H' b=none)/\W i m σ' H':=λ{σ7 H7} I7 n7=>by
   obtain⟨m',hm,w7⟩:=hN σ7 H7 n7;refine⟨m',hm,i+1,σ7,H7,I7.pV,T.keep _ _ _ st5 λb hb o e=>(I7.pin (b,o)<|bA _<|bA _<|kD hb e).1,λb hb=>?_,w7⟩;obtain⟨o,e,d⟩:=T.obj _ _ st5 b hb;exact(I7.pin (b,o)<|bA _<|bA _<|kD hb e).2.1
  cases f with
  | next=>obtain⟨σ7,H7,I7,n7⟩:=q7;exact again I7 n7
  | cont=>obtain⟨σ7,H7,I7,n7⟩:=q7;exact again I7 n7
  | brk=>obtain⟨σ7,H7,I7,q7⟩:=q7;exact⟨σ7,H7,I7.pV,q7⟩
  | ret v=>obtain⟨x7,σ7,H7,I7,r7,q7⟩:=q7;exact⟨x7,σ7,H7,I7.pV,r7,q7⟩
end
def uf{c:TT}{tb:TS}{D:Ends}{H:Hp}(Pv:St->Hp->Prop)(μ:St->Hp->Nat)(h0:Pv σ H)
  (hs:∀σ H,Pv σ H->c σ H λb H1=>if b=true then tb { D with nx:=λσ' H'=>Pv σ' H'/\μ σ' H'<μ σ H,ct:=λσ' H'=>Pv σ' H'/\μ σ' H'<μ σ H,bk:=D.nx } σ H1 else D.nx σ H1)
  (mono:∀σ H Q Q',(∀b H1,Q b H1->Q' b H1)->c σ H Q->c σ H Q'):MT c tb D σ H:=by
 refine⟨λm σ H=>m=μ σ H/\Pv σ H,⟨_,rfl,h0⟩,?_⟩;rintro m σ H ⟨rfl,p⟩;refine mono σ H _ _ (λb H1 q=>?_) (hs σ H p)
 cases b with
 | true=>exact⟨_,λσ' H' ⟨p',l⟩=>⟨_,l,rfl,p'⟩,q⟩
 | false=>exact q
meta abbrev R2:=V->V->Hp->VK->Prop
abbrev lQ (X:Cx)(f:af->af->Sem af)(r:R2):Prop:=
 ∀(pins:bn) (s:aC) (σ:St) (H:Hp) (x y:V) (v u:af) (Q:VK),Inv X pins σ H s->RelV x v->RelV y u->r x y H Q ->
  wpAny (model X.prog X.w) X.A (f v u) (EP X pins σ Q) X.xe s
abbrev VV (X:Cx)(f:af->Sem af)(r:V->Hp->VK->Prop):Prop:=
 ∀(pins:bn) (s:aC) (σ:St) (H:Hp) (x:V) (v:af) (Q:VK),Inv X pins σ H s->RelV x v->r x H Q ->
  wpAny (model X.prog X.w) X.A (f v) (EP X pins σ Q) X.xe s
abbrev jk (X:Cx)(f:af)(r:List V->Hp->VK->Prop):Prop:=
 ∀(pins:bn) (s:aC) (σ:St) (H:Hp) (xs:List V) (us:ar) (Q:VK),Inv X pins σ H s->Vals xs us->r xs H Q ->
  wpAny (model X.prog X.w) X.A (call f us) (EP X pins σ Q) X.xe s
abbrev WY (X:Cx)(r:V->Hp->(Bool->Hp->Prop)->Prop):Prop:=
 ∀(pins:bn) (s:aC) (σ:St) (H:Hp) (x:V) (v:af) (Q:Bool->Hp->Prop),Inv X pins σ H s->RelV x v->r x H Q ->
  wpAny (model X.prog X.w) X.A (truthy v) (TP X pins σ Q) X.xe s
abbrev Uk (r:R2)(ta tb:TE):TE:=λσ H Q=>ta σ H λx H1=>tb σ H1 λy H2=>r x y H2 Q
abbrev Xx (r:V->Hp->VK->Prop)(ta:TE):TE:=λσ H Q=>ta σ H λx H1=>r x H1 Q
abbrev rI (C:Int->Int->Prop)(g:Int->Int->V):R2:=λx y H Q=>∃i j,x=.int i/\y=.int j/\C i j/\Q (g i j) H
abbrev PN (g:Int->Int->V):R2:=λx y H Q=>∃i j,x=.int i/\y=.int j/\Q (g i j) H
abbrev rU (g:Int->V):V->Hp->VK->Prop:=λx H Q=>∃i,x=.int i/\Q (g i) H
section
variable {X:Cx}{a b:aE}{ta tb:TE}{pos:Pos}
def Ru(ha:PE X a ta)(hb:PE X b tb){H:Hp}{R:V->V->Hp->Prop}(I:Inv X pins σ H s)
  (h:ta σ H λx H1=>tb σ H1 λy H2=>R x y H2) {Q:af->aC->Prop} {f:af->af->Sem af}
  (hf:∀v u s2 x y H2,Inv X pins σ H2 s2->RelV x v->RelV y u->R x y H2->wpAny (model X.prog X.w) X.A (f v u) Q X.xe s2) :
  wpAny (model X.prog X.w) X.A (eval a X.env) (λv s₁=>wpAny (model X.prog X.w) X.A (eval b X.env) (λu s₂=>wpAny (model X.prog X.w) X.A (f v u) Q X.xe s₂) X.xe s₁) X.xe s:=by
 refine jM (ha pins s σ H _ I h) λv s1 ⟨x,H1,I1,r1,q1⟩=>?_;refine jM (hb pins s1 σ H1 _ I1 q1) λu s2 ⟨y,H2,I2,r2,q2⟩=>?_;exact hf v u s2 x y H2 I2 r1 r2 q2
def UQ{r:R2}(ho:lQ X (binaryOp op) r)(ha:PE X a ta)(hb:PE X b tb):PE X (.BinOp a op b pos) (Uk r ta tb):=by
 w_up;exact wpAny_BinOp<|Ru ha hb I h λv u s2 x y H2 I2 rx ry q=>ho pins s2 σ H2 x y v u Q I2 rx ry q
def Lu{r:V->Hp->VK->Prop}(ho:VV X (unaryOp op) r)(ha:PE X a ta):PE X (.UnaryOp op a pos) (Xx r ta):=by
 w_up;exact UnaryOp_<|jM (ha pins s σ H _ I h) λv s1 ⟨x,H1,I1,r1,q1⟩=>ho pins s1 σ H1 x v Q I1 r1 q1
def V4{f:af->af->Sem af}{C:Int->Int->Prop}{g:Int->Int->Int}
  (rule:∀(i j:Int) (t u:Tok) (s:aC) (Q:af->aC->Prop) (E:af->aC->Prop),C i j->Q (.int (g i j) s.toks) { s with toks:=s.toks+1 }->wpAny (model X.prog X.w) X.A (f (.int i t)<|.int j u) Q E s) :
  lQ X f (rI C λi j=>.int<|g i j):=by
 kd_p;obtain⟨i,j,rfl,rfl,hc,q⟩:=h;mg_lt;obtain⟨t',rfl⟩:=ry;exact rule i j t t' s _ _ hc ⟨.int<|g i j,H,I.tok _,⟨_,rfl⟩,q⟩
def UU{f:af->af->Sem af}{g:Int->Int->Int}
  (rule:∀(i j:Int) (t u:Tok) (s:aC) (Q:af->aC->Prop) (E:af->aC->Prop),Q (.int (g i j) s.toks) { s with toks:=s.toks+1 }->wpAny (model X.prog X.w) X.A (f (.int i t)<|.int j u) Q E s) :
  lQ X f (PN λi j=>.int<|g i j):=by
 kd_p;obtain⟨i,j,rfl,rfl,q⟩:=h;mg_lt;obtain⟨t',rfl⟩:=ry;exact rule i j t t' s _ _ ⟨.int<|g i j,H,I.tok _,⟨_,rfl⟩,q⟩
def Ou{f:af->af->Sem af}{g:Int->Int->Bool}
  (rule:∀(i j:Int) (t u:Tok) (s:aC) (Q:af->aC->Prop) (E:af->aC->Prop),Q (.bool<|g i j) s->wpAny (model X.prog X.w) X.A (f (.int i t)<|.int j u) Q E s) :
  lQ X f (PN λi j=>.bl<|g i j):=by
 kd_p;obtain⟨i,j,rfl,rfl,q⟩:=h;mg_lt;obtain⟨t',rfl⟩:=ry;exact rule i j t t' s _ _ ⟨.bl<|g i j,H,I,rfl,q⟩
abbrev Wz (i j:Int):Prop:=0<=j/\j<=1000000/\i.natAbs<2 ^ 64
abbrev Pb (i j:Int):Prop:=(-(2 ^ 64)<i/\i<2 ^ 64)\/(-(2 ^ 64)<j/\j<2 ^ 64)
def Pb.ok{i j:Int}(h:Pb i j):IntMulOk i j:=by
 rcases h with⟨h1,h2⟩|⟨h1,h2⟩
 ·exact .of_left (intBits_le_64 h1 h2)
 ·exact .of_right<|intBits_le_64 h1 h2
def Rm:lQ X (binaryOp .Add) (PN λi j=>.int<|i+j):=UU λ_ _ _ _ _ _ _ q=>add_int q
def Tt:lQ X (binaryOp .Sub) (PN λi j=>.int<|i-j):=UU λ_ _ _ _ _ _ _ q=>sub_int q
def Tp:lQ X (binaryOp .Mult) (rI Pb λi j=>.int<|i * j):=V4 λ_ _ _ _ _ _ _ hc q=>mul_int q hc.ok
def Q3:lQ X (binaryOp .Mod) (rI (λ_ j=>0<j) λi j=>.int<|i % j):=V4 λi j _ _ _ _ _ hc q=>by
 have h1:(0:Int)<j:=hc;exact mod_int' ()<|by rw[Int.fmod_eq_emod_of_nonneg i ()];exact q
def Td:lQ X (binaryOp .Pow) (rI Wz λi j=>.int<|i ^ j.toNat):=V4 λ_ _ _ _ _ _ _ hc q=>pow_int_small hc.1 hc.2.1 hc.2.2 q
def X9{f:af->Sem af}{g:Int->Int}
  (rule:∀(i:Int) (t:Tok) (s:aC) (Q:af->aC->Prop) (E:af->aC->Prop),Q (.int (g i) s.toks) { s with toks:=s.toks+1 }->wpAny (model X.prog X.w) X.A (f<|.int i t) Q E s) :
  VV X f (rU λi=>.int<|g i):=by
 intro pins s σ H x v Q I rx h;obtain⟨i,rfl,q⟩:=h;mg_lt;exact rule i t s _ _ ⟨.int<|g i,H,I.tok _,⟨_,rfl⟩,q⟩
def C1:VV X (unaryOp .USub) (rU λi=>.int<|-i):=X9 λ_ _ _ _ _ q=>neg_int q
end
section
variable {X:Cx}{a b c:aE}{ta tb tc:TE}{pos:Pos}
def RB{H:Hp}{Q:VK}{k:Bool}(I:Inv X pins σ H s)(q:Q (.bl k) H)(e:k=k'):EP X pins σ Q (.bool k') s:=by
 subst e;exact⟨.bl k,H,I,rfl,q⟩
def VP:lQ X (compareOp .Lt) (PN λi j=>.bl<|decide<|i<j):=Ou λ_ _ _ _ _ _ _ q=>lt_int q
def Vi:lQ X (compareOp .LtE) (PN λi j=>.bl<|decide<|i<=j):=Ou λ_ _ _ _ _ _ _ q=>le_int q
def UO:lQ X (compareOp .Gt) (PN λi j=>.bl<|decide<|j<i):=Ou λ_ _ _ _ _ _ _ q=>gt_int q
def UL:lQ X (compareOp .GtE) (PN λi j=>.bl<|decide<|j<=i):=Ou λ_ _ _ _ _ _ _ q=>ge_int q
def Ti:lQ X (compareOp .Is) (λx y H Q=>y=.non/\Q (.bl<|decide<|x=.non) H):=by
 kd_p;obtain⟨rfl,q⟩:=h
 cases ry
 refine is_none_gen (RB I q ?_)
 cases x<;>first
  | (cases rx;rfl)
  | (obtain⟨t,rfl⟩:=rx;rfl)
def Mu(b:aE)(h:op≠.In:=by decide)(h2:op≠.NotIn:=by decide):behindInMarks op b=false:=by
 have e1:(op == CmpOp.In)=false:=by cases op<;>first|rfl|exact absurd rfl h
 have e2:(op == CmpOp.NotIn)=false:=by cases op<;>first|rfl|exact absurd rfl h2
 cases b<;>simp[behindInMarks,e1,e2]
def Oe{op:CmpOp}{r:R2}(ho:lQ X (compareOp op) r)(ha:PE X a ta)(hb:PE X b tb)(hm:behindInMarks op b=false):PE X (.Compare a [op] [b] pos) (Uk r ta tb):=by
 w_up;exact wpAny_Compare1 (Ru ha hb I h λv u s2 x y H2 I2 rx ry q=>ho pins s2 σ H2 x y v u Q I2 rx ry q) hm
abbrev Qo (t:TE):TT:=λσ H Q=>t σ H λx H'=>∃k,x=.bl k/\Q k H'
def N9{op:CmpOp}{r:R2}(ho:lQ X (compareOp op) r)(ha:PE X a ta)(hb:PE X b tb)(hm:behindInMarks op b=false):PT X (.Compare a [op] [b] pos) (Qo<|Uk r ta tb):=by
 w_up;refine wpAny_isTrue_Compare1 (jM (ha pins s σ H _ I h) λv s1 ⟨x,H1,I1,r1,q1⟩=>jM (hb pins s1 σ H1 _ I1 q1) λu s2 ⟨y,H2,I2,r2,q2⟩=>
  jM (ho pins s2 σ H2 x y v u _ I2 r1 r2 q2) λc s3 ⟨z,H3,I3,r3,k,e,q3⟩=>?_) hm
 subst e
 cases r3
 exact cY ⟨H3,I3,q3⟩
abbrev C4 (r r':R2)(ta tb tc:TE):TE:=λσ H Q=>ta σ H λx H1=>tb σ H1 λy H2=>r x y H2 λz H3=>∃k,z=.bl k /\
 (if k=true then tc σ H3 λw' H4=>r' y w' H4 Q else Q (.bl false) H3)
def JT{r r':R2}(ho:lQ X (compareOp op) r)(ho':lQ X (compareOp op') r')(ha:PE X a ta)(hb:PE X b tb)(hc:PE X c tc)
  (hm:lastMarks [op,op'] [b,c]=false:=by with_unfolding_all rfl):PE X (.Compare a [op,op'] [b,c] pos) (C4 r r' ta tb tc):=by
 w_up;refine Compare_chain (jM (ha pins s σ H _ I h) λv s1 ⟨x,H1,I1,r1,q1⟩=>chain_link (jM (hb pins s1 σ H1 _ I1 q1) λu s2 ⟨y,H2,I2,r2,q2⟩=>
  jM (ho pins s2 σ H2 x y v u _ I2 r1 r2 q2) λd s3 ⟨z,H3,I3,r3,k,e,q3⟩=>?_)) hm
 subst e
 cases r3
 refine cY ?_
 cases k with
 | false=>exact ite_ff ⟨.bl false,H3,I3,rfl,q3⟩
 | true=>exact ite_tt<|chain_last<|jM (hc pins s3 σ H3 _ I3 q3) λw' s4 ⟨z',H4,I4,r4,q4⟩=>ho' pins s4 σ H4 y z' u w' Q I4 r2 r4 q4
def LK{r r':R2}(ho:lQ X (compareOp op) r)(ho':lQ X (compareOp op') r')(ha:PE X a ta)(hb:PE X b tb)(hc:PE X c tc)
  (hm:lastMarks [op,op'] [b,c]=false:=by with_unfolding_all rfl):PT X (.Compare a [op,op'] [b,c] pos) (Qo<|C4 r r' ta tb tc):=by
 w_up;refine isTrue_chain (jM (ha pins s σ H _ I h) λv s1 ⟨x,H1,I1,r1,q1⟩=>test_link (jM (hb pins s1 σ H1 _ I1 q1) λu s2 ⟨y,H2,I2,r2,q2⟩=>
  jM (ho pins s2 σ H2 x y v u _ I2 r1 r2 q2) λd s3 ⟨z,H3,I3,r3,k,e,q3⟩=>?_)) hm
 subst e
 cases r3
 refine cY ?_
 cases k with
 | false=>
  obtain⟨k',e',q'⟩:=q3
  cases e'
  exact ite_ff ⟨H3,I3,q'⟩
 | true=>
  refine ite_tt<|test_last<|jM (hc pins s3 σ H3 _ I3 q3) λw' s4 ⟨z',H4,I4,r4,q4⟩=>jM (ho' pins s4 σ H4 y z' u w' _ I4 r2 r4 q4) λd' s5 ⟨z2,H5,I5,r5,k2,e2,q5⟩=>?_;subst e2
  cases r5
  exact cY ⟨H5,I5,q5⟩
abbrev QX (K:au)(x:V)(H:Hp)(k:Bool):Prop:=
 match x with
 | .non=>k=false
 | .bl b=>k=b
 | .int i=>k=(i != 0)
 | .str y=>y.length<=sizeLine/\k=((y.length:Int) != 0)
 | .byt y=>y.size<=sizeLine/\k=((y.size:Int) != 0)
 | .ref p=>(∃xs,ny K H p xs/\k=!xs.isEmpty)\/(∃xs,lO K H p xs/\k=!xs.isEmpty)\/∃kvs,H p=some (.dK kvs)/\k=!kvs.isEmpty
 | _=>False
def Dj{κ:Type}{kvs:List<|κ×V}{vs:List<|κ×af}(r:KV kvs vs):(!vs.isEmpty)=!kvs.isEmpty:=by
 cases r<;>rfl
def yd{xs:List V}{its:ar}(r:Vals xs its):(!its.toArray.isEmpty)=!xs.isEmpty:=by
 cases r<;>simp
def sQ:(sizeLine:Nat)<2 ^ 63:=by rw[cR];decide
def Ra:WY X (λx H Q=>∃k,QX X.K x H k/\Q k H):=by
 intro pins s σ H x v Q I rx h;obtain⟨k,e,q⟩:=h;have hl:=sQ;have hs:sizeLine=16777216:=cR
 cases x with
 | non=>
  cases rx
  have e':k=false:=e;subst e';exact truthy_none ⟨H,I,q⟩
 | bl b=>
  cases rx
  have e':k=b:=e;subst e';exact cY ⟨H,I,q⟩
 | int i=>
  mg_lt;have e':k=(i != 0):=e;subst e';exact PySem.P.truthy_int ⟨H,I,q⟩
 | str y=>
  mg_lt;obtain⟨hy,e'⟩:y.length<=sizeLine/\k=((y.length:Int) != 0):=e;subst e';exact PySem.P.truthy_str () ⟨H,I.tok _,q⟩
 | byt y=>
  mg_lt;obtain⟨hy,e'⟩:y.size<=sizeLine/\k=((y.size:Int) != 0):=e;subst e';exact PySem.W.truthy_bytes () ⟨H,I.tok _,q⟩
 | ref p=>
  cases rx
  have e':(∃xs,ny X.K H p xs/\k=!xs.isEmpty)\/(∃xs,lO X.K H p xs/\k=!xs.isEmpty)\/∃kvs,H p=some (.dK kvs)/\k=!kvs.isEmpty:=e
  rcases e' with⟨xs,hx,e'⟩|⟨xs,hx,e'⟩|⟨kvs,hx,e'⟩
  ·subst e';obtain⟨its,r,pl,hz⟩:=I.list hx;have hlen:=r.length;exact wpAny_truthy_list pl.isList (by dsimp[aW];lia) ⟨H,I.tok _,by rw[yd r];exact q⟩
  ·subst e';obtain⟨its,r,pl,hz⟩:=I.tuple hx;have hlen:=r.length;exact truthy_tuple pl (by dsimp[aW];lia) ⟨H,I.tok _,by rw[yd r];exact q⟩
  ·subst e';obtain⟨hz,hS,vs,r,m⟩:kvs.length<=sizeLine/\(p == sysModules)=false/\∃vs,KV kvs vs/\s.heap.DictOf (jn X.prog X.w) p vs:=I.hok p _ hx;have hlen:kvs.length=vs.length:=g9 r;exact wpAny_truthy_dict hS m () ⟨H,I.tok _,by rw[Dj r];exact q⟩
 | _=>exact(show False from e).elim
def JW(ha:PE X a ta)(he:∀whole,isTrue a X.env whole=(do let v <- whole;standAt a.pos;holding [v] (truthy v))) :
  PT X a (λσ H Q=>ta σ H λx H'=>∃k,QX X.K x H' k/\Q k H'):=by
 w_up;exact isTrue_plain (jM (ha pins s σ H _ I h) λv s1 ⟨x,H1,I1,r1,q1⟩=>Ra pins s1 σ H1 x v Q I1 r1 q1)<|he _
def CS:lQ X (binaryOp .Add) (λx y H Q=>∃i j,x=.str i/\y=.str j/\i.length+j.length<=sizeLine/\Q (.str<|i++j) H):=by
 kd_p;obtain⟨i,j,rfl,rfl,hz,q⟩:=h;mg_lt;obtain⟨t',rfl⟩:=ry;exact add_str (λt' tk=>⟨.str<|i++j,H,I.tok _,⟨_,rfl⟩,q⟩) hz
def vals1{x:V}(r:Vals [x] us):∃u,us=[u]/\RelV x u:=by
 cases r with
 | cons r1 r2=>cases r2;exact⟨_,rfl,r1⟩
def vals2{x:V}(r:Vals [x,y] us):∃u w',us=[u,w']/\RelV x u/\RelV y w':=by
 cases r with
 | cons r1 r2=>
  cases r2 with
  | cons r3 r4=>cases r4;exact⟨_,_,rfl,r1,r3⟩
def HU(hc:X.calm=true):jk X (.builtin "max") (λxs H Q=>∃i j,xs=[.int i,.int j]/\Q (.int<|if j>i then j else i) H):=by
 kt_k;obtain⟨i,j,rfl,q⟩:=h;obtain⟨u,w',rfl,⟨t,rfl⟩,⟨t',rfl⟩⟩:=vals2 r;refine max_two_ints (I.ok.hd hc) λh' tk k=>⟨_,H,I.kept k,?_,q⟩;by_cases hj:j>i
 ·rw[aL hj,aL hj];exact⟨_,rfl⟩
 ·rw[aJ hj,aJ hj];exact⟨_,rfl⟩
def Hs(hc:X.calm=true):jk X (.builtin "min") (λxs H Q=>∃i j,xs=[.int i,.int j]/\Q (.int<|if j<i then j else i) H):=by
 kt_k;obtain⟨i,j,rfl,q⟩:=h;obtain⟨u,w',rfl,⟨t,rfl⟩,⟨t',rfl⟩⟩:=vals2 r;refine min_two_ints (I.ok.hd hc) λh' tk k=>⟨_,H,I.kept k,?_,q⟩;by_cases hj:j<i
 ·rw[aL hj,aL hj];exact⟨_,rfl⟩
 ·rw[aJ hj,aJ hj];exact⟨_,rfl⟩
def yv:jk X (.type "int") (λxs H Q=>(∃i,xs=[.int i]/\Q (.int i) H)\/∃k,xs=[.bl k]/\Q (.int<|if k then 1 else 0) H):=by
 kt_k
 rcases h with⟨i,rfl,q⟩|⟨k,rfl,q⟩
 ·obtain⟨u,rfl,t,rfl⟩:=vals1 r;exact call_int_int ⟨.int i,H,I,⟨_,rfl⟩,q⟩
 ·obtain⟨u,rfl,r1⟩:=vals1 r
  cases r1
  exact call_int_bool ⟨.int<|if k then 1 else 0,H,I.tok _,⟨_,rfl⟩,q⟩
abbrev Xc (K:au)(x:V)(H:Hp)(n:Nat):Prop:=
 match x with
 | .str y=>y.length<=sizeLine/\n=y.length
 | .byt y=>y.size<=sizeLine/\n=y.size
 | .ref p=>(∃xs,ny K H p xs/\n=xs.length)\/∃xs,lO K H p xs/\n=xs.length
 | _=>False
def IT:jk X (.builtin "len") (λxs H Q=>∃x n,xs=[x]/\Xc X.K x H n/\Q (.int n) H):=by
 kt_k;obtain⟨x,n,rfl,e,q⟩:=h;kpf_c;have hl:=sQ;have hs:sizeLine=16777216:=cR
 cases x with
 | str y=>
  mg_lt;obtain⟨hy,e'⟩:y.length<=sizeLine/\n=y.length:=e;subst e';exact len_str () ⟨.int _,H,I.tok _,⟨_,rfl⟩,q⟩
 | byt y=>
  mg_lt;obtain⟨hy,e'⟩:y.size<=sizeLine/\n=y.size:=e;subst e';exact PySem.W.len_bytes () ⟨.int _,H,I.tok _,⟨_,rfl⟩,q⟩
 | ref p=>
  cases rx
  have e':(∃xs,ny X.K H p xs/\n=xs.length)\/∃xs,lO X.K H p xs/\n=xs.length:=e
  rcases e' with⟨xs,hx,e'⟩|⟨xs,hx,e'⟩
  ·subst e';obtain⟨its,r',pl,hz⟩:=I.list hx;have hlen:=r'.length;exact Calls.call_len_list pl.isList (by dsimp[aW];lia) ⟨.int xs.length,H,I.tok _,⟨_,by dsimp[aW];rw[hlen]⟩,q⟩
  ·subst e';obtain⟨its,r',pl,hz⟩:=I.tuple hx;have hlen:=r'.length;exact len_tuple pl (by dsimp[aW];lia) ⟨.int xs.length,H,I.tok _,⟨_,by dsimp[aW];rw[hlen]⟩,q⟩
 | _=>exact(show False from e).elim
end
structure ObjM (h:aq)(x dx C:ak)(mA:Str->bb):Prop where
 obj:h.get? x=some (PySem.W.instObj C dx)
 ns:h.Ns1 dx mA
 ne:dx≠x
def Hq{h:aq}{mA:Str->bb}(n:h.Ns1 dx mA):∃od,h.get? dx=some od/\∀name,PySem.W.lookIn name od=some (mA name):=by
 obtain⟨o,es,ep,ho,hd,hk,_,hm⟩:=n;refine⟨o,ho,λname=>?_⟩;have e:=hm name;unfold nsFind findBy at e;rw[<- Array.find?_toList]at e;unfold PySem.W.lookIn;rw[hd];dsimp only;split
 ·rename_i y q;rw[q]at e;exact dj some e
 ·rename_i q;rw[q]at e;have a:es.toList.any (·.refKey)=false:=by
   rw[List.any_eq_false];intro y hy;obtain⟨z,t,hkey⟩:=hk y<|Array.mem_toList_iff.mp hy;simp[DictEntry.refKey,hkey]
  have a':¬es.toList.any (·.refKey)=true:=by rw[a];exact bH
  rw[aJ a'];exact dj some e
def ObjM.look{x:ak}{mA:Str->bb}(I:ObjM h x dx C mA):∃od,PySem.W.InstAt h x (PySem.W.instObj C dx) C (some od)/\∀name,PySem.W.lookIn name od=some (mA name):=
 let⟨od,ho,hl⟩:=Hq I.ns
 ⟨od,⟨I.obj,rfl,rfl,ho⟩,hl⟩
def uG.some_of{v:V}(r:uG (some v) o):∃u,o=some u/\RelV v u:=by
 cases o with
 | none=>exact(show False from r).elim
 | some u=>exact⟨u,rfl,r⟩
section
variable {P:aj}{w:ah}{H:Hp}{h:aq}{a C dx:ak}{fs:List (Str×V)}
def NQ(hok:sY P w H h)(e:H a=some (.ins C dx fs)):∃mA,ObjM h a dx C mA/\(∀f,uG (fs.lookup f)<|mA f)/\PySem.Within mA (fs.map (·.1))/\fs.length<=1000/\H dx=some (.own a):=by
 obtain⟨d,z,ne,ob,mA,n,r,q⟩:=(show jC P w H h a (.ins C dx fs)from hok a _ e);exact⟨mA,⟨ob,n,ne⟩,r,q,z,d⟩
end
structure Cls (K:au)(C:ak):Prop where
 pg:PySem.W.plainGet K C Str.empty=true
 hd:PySem.W.hasDictIn K C=true
 po:PySem.W.plainOver K C=true
 sa:PySem.W.findIn K (.ref C) "__setattr__" = some (some<|.builtin "object.__setattr__")
def Cls.get{K:au}(c:Cls K C)(f:Str):PySem.W.plainGet K C f=true:=c.pg
structure Con (K:au)(C:ak)(f:Str)(v:V)(u:af):Prop where
 at_:PySem.W.findIn K (.ref C) f=some (some u)
 rel:RelV v u
 get:PySem.W.specialIn K u "__get__" = some none
 cp:PySem.W.copiedNames.contains f=false
structure Meth (K:au)(C:ak)(m:Str)(f:ak):Prop where
 at_:PySem.W.findIn K (.ref C) m=some (some<|.ref f)
 fn:PySem.W.isFn K (.ref f)=true
 kp:PySem.W.keepIn K (.ref f)=true
section
variable {X:Cx}{pins:bn}{σ:St}{H:Hp}{s:aC}{A:aA}{E:af->aC->Prop}{Q:af->aC->Prop}{c:af}{b:Bool}
inductive TyOf (K:au) (H:Hp):V->af->Prop where
 | non:TyOf K H .non (.type "NoneType")
 | bl (x:Bool):TyOf K H (.bl x) (.type "bool")
 | int (i:Int):TyOf K H (.int i) (.type "int")
 | str (x:Str):TyOf K H (.str x) (.type "str")
 | flt (x:UInt64):TyOf K H (.flt x) (.type "float")
 | lst {a:ak} {xs:List V} (e:H a=some (.lst xs)):TyOf K H (.ref a) (.type "list")
 | frz {a:ak} {o:Obj} {xs:List V} (e:H a=some (.frz o<|.lst xs)):TyOf K H (.ref a) (.type "list")
 | tup {a:ak} {xs:List V} (e:H a=some (.tup xs)):TyOf K H (.ref a) (.type "tuple")
 | dK {a:ak} {kvs:List<|Key×V} (e:H a=some (.dK kvs)):TyOf K H (.ref a) (.type "dict")
 | dT {a:ak} {kvs:List<|List Key×V} (e:H a=some (.dT kvs)):TyOf K H (.ref a) (.type "dict")
 | ins {a C dx:ak} {fs:List<|Str×V} (e:H a=some (.ins C dx fs)) (cl:Cls K C) (ha:PySem.W.findIn K (.ref C) "__class__" = some (some<|.builtin "object.__class__"))
   (hn:PySem.W.specialIn K (.builtin "object.__class__") "__get__" = some (some<|.builtin "getset_descriptor.__get__")) (htk:PySem.W.takesIn K (.builtin "object.__class__")=some true)
   (hm:PySem.W.mroIn K C (.type "object")=some true):TyOf K H (.ref a)<|.ref C
def HL{x:V}(I:Inv X pins σ H s)(rx:RelV x u)(ty:TyOf X.K H x t)(e:PySem.W.kitOne X.K t c=some b)(h:∀tk,Q (.bool b) { s with toks:=tk }) :
  wpAny (model X.prog X.w) A (call (.builtin "isinstance") [u,c]) Q E s:=by
 cases ty with
 | non=>cases(show u=Value.none from rx);exact cM PySem.W.kitx_none I.AH True.intro e (λz=>nomatch z) h
 | bl y=>cases(show u=Value.bool y from rx);exact cM PySem.W.kitx_bool I.AH True.intro e (λz=>nomatch z) h
 | int i=>obtain⟨t,q⟩:=(show ∃t,u=Value.int i t from rx);cases q;exact cM PySem.W.kitx_int I.AH True.intro e (λz=>nomatch z) h
 | str y=>obtain⟨t,q⟩:=(show ∃t,u=Value.str y t from rx);cases q;exact cM PySem.W.kitx_str I.AH True.intro e (λz=>nomatch z) h
 | flt y=>obtain⟨t,q⟩:=(show ∃t,u=Value.float y t from rx);cases q;exact cM PySem.W.kitx_float I.AH True.intro e (λz=>nomatch z) h
 | @lst a xs ea=>
  cases(show u=Value.ref a from rx)
  obtain⟨_,_,n,_,h1⟩:=(show jC X.prog X.w H s.heap a (.lst xs)from I.hok a _ ea);exact cM PySem.W.kitx_list I.AH ⟨_,h1,rfl⟩ e (λz=>nomatch z) h
 | @frz a ob xs ea=>
  cases(show u=Value.ref a from rx)
  obtain⟨_,_,_,n,_,h1⟩:=(show jC X.prog X.w H s.heap a (.frz ob<|.lst xs)from I.hok a _ ea);exact cM PySem.W.kitx_list I.AH ⟨_,h1,rfl⟩ e (λz=>nomatch z) h
 | @tup a xs ea=>
  cases(show u=Value.ref a from rx)
  obtain⟨_,_,_,p⟩:=(show jC X.prog X.w H s.heap a (.tup xs)from I.hok a _ ea);obtain⟨o,h1,h2,_⟩:=p;exact cM PySem.W.kitx_tuple I.AH ⟨o,h1,h2⟩ e (λz=>nomatch z) h
 | @dK a kvs ea=>
  cases(show u=Value.ref a from rx)
  obtain⟨_,_,vs,_,p⟩:=(show jC X.prog X.w H s.heap a (.dK kvs)from I.hok a _ ea);obtain⟨o,es,ep,h1,h2,_⟩:=p;exact cM PySem.W.kitx_dict I.AH ⟨o,h1,h2.1⟩ e (λz=>nomatch z) h
 | @dT a kvs ea=>
  cases(show u=Value.ref a from rx)
  obtain⟨_,_,xs,_,o,es,ep,h1,h2,_⟩:=(show jC X.prog X.w H s.heap a (.dT kvs)from I.hok a _ ea);exact cM PySem.W.kitx_dict I.AH ⟨o,h1,h2.1⟩ e (λz=>nomatch z) h
 | @ins a C dx fs ea cl ha hn htk hm=>
  cases(show u=Value.ref a from rx)
  obtain⟨mA,O,_⟩:=NQ I.hok ea;obtain⟨od,J,_⟩:=O.look;exact cM (PySem.W.kitx_own (cl.get _) cl.hd ha hn htk hm) I.AH J e (λz=>nomatch z) h
end
structure Room (k:Nat)(A:aA):Prop where
 hd:A.handled=none
 dp:A.depth+3 * k+5<recursionLimit
 un:A.units+16 * k+200<cLine
def Room.mono{k:Nat}{A:aA}(r:Room k A)(h:j<=k):Room j A:=⟨r.hd,by have:=r.dp;lia,by have:=r.un;lia⟩
def Room.deeper{k:Nat}{A:aA}(r:Room (k+1) A)(env:Env):Room k (A.deeper env):=
 ⟨r.hd,by have:=r.dp;show A.depth+1+3 * k+5<_;lia,by have:=r.un;show A.units+3+16 * k+200<_;lia⟩
def Room.depth{k:Nat}{A:aA}(r:Room k A):A.depth<recursionLimit:=by have:=r.dp;lia
def Room.units{k:Nat}{A:aA}(r:Room k A):A.units+64<cLine:=by have:=r.un;lia
abbrev Wc:TA:=λ_ H Q=>Q [] H
abbrev Uy (ta:TE)(tr:TA):TA:=λσ H Q=>ta σ H λx H1=>tr σ H1 λxs H2=>Q (x::xs) H2
section
variable {X:Cx}{e:aE}{es:List aE}{te:TE}{t:TA}{pos:Pos}
def uy:PA X [] Wc:=λ_ _ _ _ H Q I h=>Calls.spliced_nil ⟨[],H,I,.nil,h⟩
def nj(ha:PE X e te)(hr:PA X es t)(hs:starEach (e::es) X.env=(false,eval e X.env)::starEach es X.env:=by rfl):PA X (e::es) (Uy te t):=by
 intro pos pins s σ H Q I h;rw[hs]
 skip
 refine Calls.spliced_cons<|jM (ha pins s σ H _ I h) λu s1 ⟨x,H1,I1,r1,q1⟩=>?_;exact jM (hr pos pins s1 σ H1 _ I1 q1) λus s2 ⟨xs,H2,I2,r2,q2⟩=>⟨x::xs,H2,I2,.cons r1 r2,q2⟩
abbrev WN (t:TA):TE:=λσ H Q=>t σ H λxs H1=>xs.length<=sizeLine/\∀p,H1 p=none->Q (.ref p) (upd H1 p<|.tup xs)
abbrev WB (t:TA):TE:=λσ H Q=>t σ H λxs H1=>xs.length<=sizeLine/\∀p,H1 p=none->Q (.ref p) (upd H1 p<|.lst xs)
def Rq{x1}(h:PA X es t):PE X (.Tuple es x1 pos) (WN t):=by
 intro pins s σ H Q I hq;refine wpAny_Tuple_spliced (jM (h pos pins s σ H _ I hq) λus s1 ⟨xs,H1,I1,r,z,q⟩=>⟨by rw[<- r.length];exact z,?_⟩);have hf:H1 s1.heap.objs.size=none:=I1.hok.fresh<|aQ _;refine⟨.ref s1.heap.objs.size,upd H1 s1.heap.objs.size<|.tup xs,I1.laid (t':=s1.toks) (λb u e=>aR _ e) (aQ _) ?_,rfl,q _ hf⟩;exact⟨z,us,r,⟨_,bB _ rfl,rfl,rfl,_,rfl⟩⟩
def QL(h:PA X es t):PE X (.List es pos) (WB t):=by
 intro pins s σ H Q I hq;refine wpAny_List_spliced (jM (h pos pins s σ H _ I hq) λus s1 ⟨xs,H1,I1,r,z,q⟩=>⟨by rw[<- r.length];exact z,?_⟩);have hf:H1 s1.heap.objs.size=none:=I1.hok.fresh<|aQ _;refine⟨.ref s1.heap.objs.size,upd H1 s1.heap.objs.size<|.lst xs,I1.laid (t':=s1.toks) (λb u e=>aR _ e) (aQ _) ?_,rfl,q _ hf⟩;exact⟨z,us,0,r,bB _ rfl⟩
end
meta abbrev Sp:=List V->Hp->VK->XK->Prop
meta abbrev M4:=List Env->Hp->aC->XK->af->aC->Prop
structure Env0 (P:aj)(w:ah)(K:au)(mg:Str->bb)(base:aq)(A:aA)(outer:List Env)(s:aC)(H:Hp):Prop where
 frames:A.frames=some outer
 mod:Mod K mg base
 bs:∀b o,base.get? b=some o->s.heap.get? b=some o/\H b=none
 bsz:base.objs.size<=s.heap.objs.size
 wu:s.heap.FunFrames base outer
 frf:∀b∈frs outer,H b=none
 hok:sY P w H s.heap
 bare:AllBare s.gens
abbrev CE (outer:List Env)(P:aj)(w:ah)(H:Hp)(s:aC)(Q:VK)(u:af)(s':aC):Prop:=
 ∃v H',s'.os=s.os/\AllBare s'.gens/\Un (frs outer) [] H H' s.heap s'.heap/\sY P w H' s'.heap/\RelV v u/\Q v H'
abbrev CR (CX:M4)(outer:List Env)(P:aj)(w:ah)(H:Hp)(s:aC)(Q:VK)(E:XK)(r:Result)(s':aC):Prop:=
 match r with
 | .ok (.ret u)=>CE outer P w H s Q u s'
 | .ok _=>False
 | .error e=>CX outer H s E e s'
structure FnOk (P:aj)(w:ah)(K:au)(mg:Str->bb)(base:aq)(CX:M4)(k:Nat)(f:ak)(fd:FuncData)(ps:ap)(sp:Sp):Prop where
 len:∀vs H Q E,sp vs H Q E->vs.length=ps.length
 run:∀(A:aA) (outer:List Env) (s:aC) (H:Hp) (args:Args) (us:ar) (vs:List V) (Q:VK) (E:XK),Room k A->Env0 P w K mg base A outer s H->BindsTo s fd args (ps.zip us)->Vals vs us->sp vs H Q E ->
  codeAny (model P w) A (.call (.ref f) args) (CR CX outer P w H s Q E) s
section
variable {X:Cx}{pins:bn}{σ:St}{H:Hp}{s s':aC}
def Inv.Xo(I:Inv X pins σ H s):Env0 X.prog X.w X.K X.mg X.base X.A X.stack s H:=
 ⟨I.ok.frames,I.ok.mod,I.bs,bP I.ok.bsz I.sz,I.stack,I.GL,I.hok,I.bare⟩
def Inv.after{Q:VK}(I:Inv X pins σ H s)(h:CE X.stack X.prog X.w H s Q u s'):EP X pins σ Q u s':=by
 obtain⟨v,H',os,bare,un,hok,r,q⟩:=h;obtain⟨hh,g,d,t,os'⟩:=s';obtain rfl:os'=s.os:=os;exact⟨v,H',I.call (h':=hh) (g':=g) (d':=d) (t':=t) (ch:=[]) un hok bare λb z=>absurd z<|by simp,r,q⟩
end
abbrev PR (sp:Sp)(dvs:List V)(E:XK)(t:TA):TE:=λσ H Q=>t σ H λvs H1=>sp (vs++dvs) H1 Q E
abbrev Binds (K:au)(fd:FuncData)(ps:ap)(ds:ar):Prop:=
 ∀(s:aC) (us:ar),K.In s.heap->(us++ds).length=ps.length->BindsTo s fd ⟨us,[]⟩ (ps.zip<|us++ds)
def Binds.all{K:au}{ps:ap}(h:∀us:ar,us.length=ps.length->bindArgs fd ⟨us,[]⟩=pure (ps.zip us)):Binds K fd ps []:=λs us _ hl=>by
 rw[cN]at hl ⊢;exact .of_eq<|h us hl
abbrev Passes (CX:M4)(X:Cx)(E:XK):Prop:=∀(pins:bn) (σ:St) (H:Hp) (s:aC) (e:af) (s':aC),Inv X pins σ H s->CX X.stack H s E e s'->X.xe e s'
section
variable {X:Cx}{CX:M4}{k:Nat}{f C:ak}{fd:FuncData}{ps:ap}{sp:Sp}{dvs:List V}{ds:ar}{E:XK}{x:Str}{p pos:Pos}{e:aE}{es:List aE}{t:TA}
def Tq{H:Hp}{Q:VK}(F:FnOk X.prog X.w X.K X.mg X.base CX k f fd ps sp)(hr:Room k X.A)(hb:Binds X.K fd ps ds)(hd:Vals dvs ds)(hx:Passes CX X E)
  (I:Inv X pins σ H s) (r:Vals vs us) (h:sp (vs++dvs) H Q E):wpAny (model X.prog X.w) X.A (call (.ref f) us) (EP X pins σ Q) X.xe s:=by
 have r2:Vals (vs++dvs) (us++ds):=r.append hd;have hl:(us++ds).length=ps.length:=by rw[<- r2.length];exact F.len _ _ _ _ h
 refine wpAny_call (gS (F.run X.A X.stack s H ⟨us,[]⟩ (us++ds) (vs++dvs) Q E hr I.Xo (hb s us I.AH hl) r2 h) λr s' hq=>?_)
 cases r with
 | error e=>exact hx pins σ H s e s' I hq
 | ok fl=>
  cases fl with
  | ret u=>exact I.after hq
  | next=>exact False.elim hq
  | brk=>exact False.elim hq
  | cont=>exact False.elim hq
def OB(F:FnOk X.prog X.w X.K X.mg X.base CX k f fd ps sp)(hr:Room k X.A)(hg:Gl X x)(hm:X.mg x=some (.ref f))(hk:PySem.W.keepIn X.K (.ref f)=true)(hb:Binds X.K fd ps ds)(hd:Vals dvs ds)(hx:Passes CX X E)
  (ha:PA X (e::es) t) (hdb:(x == ("__debug__" : Str))=false:=by decide) (he:starEach (e::es) X.env=(false,eval e X.env)::starEach es X.env:=by rfl) (hpl:(backTo pos<|starEach es X.env).any (·.1)=false:=by rfl) :
  PE X (.Call (.Name x p) (e::es) [] pos) (PR sp dvs E t):=by
 w_up;refine gU<|D0 I hg hm ?_ hdb;refine PySem.W.callWith_K (h₀:=X.base) I.ok.mod.kin hk (jM (ha pos pins s σ H _ I h) λus s1 ⟨vs,H1,I1,r,q⟩=>⟨I1.AH,?_⟩) he hpl;exact Tq F hr hb hd hx I1 r q
structure Mk (K:au)(C f:ak):Prop where
 makes:PySem.W.makesIn K C=true
 init:PySem.W.findIn K (.ref C) "__init__" = some (some<|.ref f)
 fn:PySem.W.isFn K (.ref f)=true
 kp:PySem.W.keepIn K (.ref C)=true
end
section
variable {fd:FuncData}{ps ks:ap}
structure KBinds (K:au)(fd:FuncData)(ps ks:ap)(g:ar->ar->ar)(gV:List V->List V->List V):Prop where
 to:∀(s:aC) (us ws:ar),K.In s.heap->(g us ws).length=ps.length->BindsTo s fd ⟨us,ks.zip ws⟩ (ps.zip<|g us ws)
 rel:∀{vs:List V} {us:ar} {zs:List V} {ws:ar},Vals vs us->Vals zs ws->Vals (gV vs zs) (g us ws)
end
structure FnScope (N P:ap)(sc:Scope):Prop where
 kind:sc.kind=.function
 co:sc.isCoroutine=false
 gen:sc.isGenerator=false
 nd:N.Nodup
 pre:N.take P.length=P
 par:∀x∈P,sc.names.lookup x=some .local\/sc.names.lookup x=some .cell
 nofree:∀y∈sc.names,y.2≠.free
theorem yM{kindOf:Str->Option NameKind}{x:Str}:∀{binds:List<|Str×af}{m:Str->bb},(∀v,(x,v)∉binds)->bindL kindOf binds m x=m x
 | [],_,_=>rfl
 | (n,v)::r,m,h=>by
  unfold bindL;rw[yM λw hw=>h w<|aP _ hw];split
  ·have:x≠n:=by rintro rfl;exact h v aN
   simp[this]
  ·rfl
theorem yq{kindOf:Str->Option NameKind}{x:Str}:∀{binds:List<|Str×af}{m:Str->bb},(∀v,(x,v)∉binds)->bindC kindOf binds m x=m x
 | [],_,_=>rfl
 | (n,v)::r,m,h=>by
  unfold bindC;rw[yq λw hw=>h w<|aP _ hw];split
  ·rfl
  ·have:x≠n:=by rintro rfl;exact h v aN
   simp[this]
theorem yE{kindOf:Str->Option NameKind}{x:Str}{v:af}:∀{P:ap}{vs:ar}{i:Nat}{m:Str->bb},P.Nodup->P[i]?=some x->vs[i]?=some v->kindOf x=some .local ->
  bindL kindOf (P.zip vs) m x=some v
 | [],_,_,_,_,h,_,_=>by simp at h
 | _::_,[],_,_,_,_,h,_=>by simp at h
 | p::P,w::vs,0,m,nd,h1,h2,hk=>by
  simp at h1 h2;subst h1;subst h2;show bindL kindOf ((p,w)::P.zip vs) m p=_;unfold bindL;rw[yM λv hv=>(c7.mp nd).1 (iu hv).1,aL hk];simp
 | p::P,w::vs,i+1,m,nd,h1,h2,hk=>by
  skip
  unfold bindL;exact yE (i:=i) (c7.mp nd).2 (by simpa using h1) (by simpa using h2) hk
theorem yX{kindOf:Str->Option NameKind}{x:Str}{v:af}:∀{P:ap}{vs:ar}{i:Nat}{m:Str->bb},P.Nodup->P[i]?=some x->vs[i]?=some v->kindOf x≠some .local ->
  bindC kindOf (P.zip vs) m x=some v
 | [],_,_,_,_,h,_,_=>by simp at h
 | _::_,[],_,_,_,_,h,_=>by simp at h
 | p::P,w::vs,0,m,nd,h1,h2,hk=>by
  simp at h1 h2;subst h1;subst h2;show bindC kindOf ((p,w)::P.zip vs) m p=_;unfold bindC;rw[yq λv hv=>(c7.mp nd).1 (iu hv).1,aJ hk];simp
 | p::P,w::vs,i+1,m,nd,h1,h2,hk=>by
  skip
  unfold bindC;exact yX (i:=i) (c7.mp nd).2 (by simpa using h1) (by simpa using h2) hk
abbrev start (N:ap)(vs:List V):St:=vs.map some++List.replicate (N.length-vs.length) none
abbrev CZ (CX:M4)(P:aj)(w:ah)(K:au)(mg:Str->bb)(base:aq)(N:ap)(qual:Str)(scope:Scope)(f:ak)(cd:af)(A:aA)(outer:List Env)(s:aC)(H:Hp)(E:XK):Cx where
 prog:=P
 w:=w
 K:=K
 mg:=mg
 base:=base
 A:=A.deeper (envOfC qual scope s.heap.objs.size f cd)
 N:=N
 s₀:=s
 H₀:=H
 env:=envOfC qual scope s.heap.objs.size f cd
 outer:=outer
 stack:=envOfC qual scope s.heap.objs.size f cd::outer
 ex:=[]
 calm:=true
 fn:=λ_=>true
 pn:=[]
 xe:=λe s'=>wpAny (model P w) (A.deeper<|envOfC qual scope s.heap.objs.size f cd) (leaving (envOfC qual scope s.heap.objs.size f cd) e) (λ_ s''=>CX outer H s E e s'') (λe' s''=>CX outer H s E e' s'') s'
def Cb{sc:Scope}{n:Nat}{x:Str}(h:sc.names.lookup x=some .cell):∃c,(cellsFrom n sc.names []).lookup x=some c:=by
 have q:=PySem.W.cellsFrom_some sc.names n []<|.inl h;exact fL.mp q
def Hw{CX:M4}{P:aj}{w:ah}{K:au}{mg:Str->bb}{base:aq}{N ps:ap}{scope:Scope}{f:ak}{cd:af}{A:aA}{outer:List Env}{s:aC}{H:Hp}{E:XK}{vs:List V}
  (S:FnScope N ps scope) (hd:A.handled=none) (e0:Env0 P w K mg base A outer s H) (hl:vs.length=ps.length) (r:Vals vs us)
  (x:InCallC s s.heap.objs.size (bindL (envOfC qual scope s.heap.objs.size f cd).kindOf (ps.zip us) λ_=>none) (cellsFrom (s.heap.objs.size+1) scope.names []) (bindC (envOfC qual scope s.heap.objs.size f cd).kindOf (ps.zip us) λ_=>none) s1) :
  Inv (CZ CX P w K mg base N qual scope f cd A outer s H E) [] (start N vs) H s1:=by
 have hpl:ps.length<=N.length:=by have:=dj List.length S.pre;rw[bq]at this;lia
 obtain⟨h1,tk,rfl,hk⟩:=x.done;have noA:∀b:ak,b∉(CZ CX P w K mg base N qual scope f cd A outer s H E).ex:=λb z=>absurd (show b∈([]:ba)from z) (by simp);refine⟨⟨e0.mod,S.kind,rfl,rfl,aQ _,λy z c h1 h2=>?_,λy hy=>?_,λy c _ h=>?_,λ_=>hd,Around.frames_deeper e0.frames,.inr ⟨rfl,rfl⟩,λb z=>absurd z<|noA b,e0.bs,e0.bsz,λb _ _=>noA b,λb z=>absurd z<|noA b,e0.wu,e0.frf⟩,
  rfl,e0.bare,Un.kept hk,⟨_,x.toInCall.ns,λi y v h1 h2 h3=>?_⟩,λy c h=>⟨_,x.cell y c h⟩,e0.hok.fresh<|aQ _,λy c h=>?_,λp hp=>absurd (show p∈([]:bn)from hp)<|by simp,e0.hok.kept hk,?_⟩
 ·exact name_of_addr x.apart (eG h1) (eG h2)
 ·have hy:scope.names.lookup y=some .cell\/scope.names.lookup y=some .free:=hy
  rcases hy with hy|hy
  ·exact Cb hy
  ·exact absurd rfl<|S.nofree _<|eG hy
 ·exact ig (x.above y c<|eG h)
 ·have hi:i<vs.length:=by
   unfold start at h2;by_cases hi:i<vs.length
   ·exact hi
   ·rw[bY<|by simpa using hi]at h2;rw[fU]at h2;split at h2<;>cases h2
  have ha:vs[i]?=some v:=by
   unfold start at h2;rw[bg<|by simpa using hi,bh]at h2
   cases e:vs[i]? with
   | none=>rw[e]at h2;cases h2
   | some a=>rw[e]at h2;cases h2;rfl
  obtain⟨u,hu,rv⟩:=r.get ha;have hp:ps[i]?=some y:=by
   rw[<- S.pre,dB ()];exact h1
  have ndP:ps.Nodup:=by rw[<- S.pre];exact S.nd.sublist (List.take_sublist _ _)
  refine⟨u,rv,?_⟩
  rcases S.par y (aY hp)with k|k
  ·exact .inl ⟨k,yE ndP hp hu k⟩
  ·obtain⟨c,e⟩:=Cb (n:=s.heap.objs.size+1) k;refine .inr ⟨.inl k,c,e,?_⟩;have q:=x.cell y c e;rw[yX ndP hp hu<|by show scope.names.lookup y≠_;rw[k];decide]at q;exact q
 ·exact e0.hok.fresh (ig<|x.above y c<|eG h)
 ·unfold start;show _=N.length;rw[aX,aK,List.length_replicate]
  lia
def U6{CX:M4}{P:aj}{w:ah}{K:au}{mg:Str->bb}{base:aq}{k:Nat}{f:ak}{kV pm ct:af}
  {osl:Array<|bb} {N ps:ap} {sp:Sp} (lk:K.lookup f=some ⟨oc,od,.func<|PySem.W.fnOf name qual params body scope dV kV doc pm an cdv ct,osl⟩) (hcd:PySem.W.codeIn K cdv qual=true) (S:FnScope N ps scope)
  (len:∀vs H Q E,sp vs H Q E->vs.length=ps.length)
  (hbody:∀(A:aA) (outer:List Env) (s:aC) (H:Hp) (vs:List V) (Q:VK) (E:XK),Room k (A.deeper<|envOfC qual scope s.heap.objs.size f cdv)->sp vs H Q E ->
   ∃t,Av (CZ CX P w K mg base N qual scope f cdv A outer s H E) body t/\t { nx:=λ_ H'=>Q .non H',rt:=Q } (start N vs) H) :
  FnOk P w K mg base CX (k+1) f (PySem.W.fnOf name qual params body scope dV kV doc pm an cdv ct) ps sp:=by
 refine⟨len,λA outer s H args us vs Q E hr e0 hb r hsp=>?_⟩;have hl:=len _ _ _ _ hsp;have KX:K.In s.heap:=e0.mod.kin.keeps λb o e=>(e0.bs b o e).1;have lim:s.heap.NoLimit:=e0.mod.nolimit.keeps λb o e=>(e0.bs b o e).1;have hkind:∀y∈ps.zip us,scope.names.lookup y.1=some .local\/(scope.names.lookup y.1=some .cell/\((cellsFrom (s.heap.objs.size+1) scope.names []).lookup y.1).isSome=true):=λ⟨n,v⟩ hy=>by
  rcases S.par n (iu hy).1 with q|q
  ·exact .inl q
  ·exact .inr ⟨q,PySem.W.cellsFrom_some _ _ _<|.inl q⟩
 refine codeAny_call_function hr.depth (KX _ _ lk) rfl S.co S.gen rfl (PySem.W.codeRec_of KX hcd)<|hb _ _ _ _ ?_;refine wpAny_newFunctionEnv_cells S.kind hkind λenv he s1 x=>?_;subst he;refine⟨lim.keeps x.toInCall.keep,codeAny_func ?_⟩;obtain⟨t,ht,hq⟩:=hbody A outer s H vs Q E (hr.deeper _) hsp;have I:Inv (CZ CX P w K mg base N qual scope f cdv A outer s H E) [] (start N vs) H s1:=Hw S hr.hd e0 hl r x;refine fP (ht [] s1 (start N vs) H _ I hq) (λfl s' hs=>?_) λe s' hs=>hs;have fin:∀{σ':St} {H':Hp} {v:V} {u:af},Inv (CZ CX P w K mg base N qual scope f cdv A outer s H E) [] σ' H' s'->RelV v u->Q v H'->CE outer P w H s Q u s':=
  λ{σ' H' v u} J rv q=>⟨v,H',J.os,J.bare,J.base,J.hok,rv,q⟩
 cases fl with
 | ret u=>
  obtain⟨v,σ',H',J,rv,q⟩:=hs;exact fin J rv q
 | next=>
  obtain⟨σ',H',J,q⟩:=hs;exact fin (v:=V.non) (u:=Value.none) J rfl q
 | brk=>
  obtain⟨_,_,_,q⟩:=hs;exact False.elim q
 | cont=>
  obtain⟨_,_,_,q⟩:=hs;exact False.elim q
section
variable {X:Cx}{x:Str}{p pos:Pos}{e:aE}{es:List aE}{t:TA}{id T:String}{r:List V->Hp->VK->Prop}
abbrev Xf (r:List V->Hp->VK->Prop)(t:TA):TE:=λσ H Q=>t σ H λvs H1=>r vs H1 Q
def Lp(hc:jk X (.builtin id) r)(hg:Gl X x)(hm:X.mg x=none)(hv:bootBuiltins x=some (.builtin id))(ha:PA X (e::es) t)(hn:x ≠ "__name__" := by decide)(hdb:(x == ("__debug__" : Str))=false:=by decide)
  (he:starEach (e::es) X.env=(false,eval e X.env)::starEach es X.env:=by rfl) (hpl:(backTo pos<|starEach es X.env).any (·.1)=false:=by rfl):PE X (.Call (.Name x p) (e::es) [] pos) (Xf r t):=by
 w_up;refine gU<|uW I hg hm hv ?_ hn hdb;exact PyProof.Rows.callWith_builtin1 (jM (ha pos pins s σ H _ I h) λus s1 ⟨vs,H1,I1,r1,q1⟩=>hc pins s1 σ H1 vs us Q I1 r1 q1) he hpl
def uQ(hc:jk X (.type T) r)(hg:Gl X x)(hm:X.mg x=none)(hv:bootBuiltins x=some (.type T))(ha:PA X (e::es) t)(hn:x ≠ "__name__" := by decide)(hdb:(x == ("__debug__" : Str))=false:=by decide)
  (he:starEach (e::es) X.env=(false,eval e X.env)::starEach es X.env:=by rfl) (hpl:(backTo pos<|starEach es X.env).any (·.1)=false:=by rfl):PE X (.Call (.Name x p) (e::es) [] pos) (Xf r t):=by
 w_up;refine gU<|uW I hg hm hv ?_ hn hdb;exact dQ (jM (ha pos pins s σ H _ I h) λus s1 ⟨vs,H1,I1,r1,q1⟩=>hc pins s1 σ H1 vs us Q I1 r1 q1) he hpl
end
end L2
namespace HT
open PySem PyProof.Rows
abbrev lexLt:ae->ae->Bool
 | [],[]=>false
 | [],_::_=>true
 | _::_,[]=>false
 | x::xs,y::ys=>if x=y then lexLt xs ys else decide (x<y)
def p9(x y:Int)(xs ys:ae):lexLt (x::xs) (y::ys)=if x=y then lexLt xs ys else decide (x<y):=rfl
def ye:lexLt [] []=false:=rfl
section
variable {prog:aj}{w:ah}{A:aA}{E:af->aC->Prop}{s:aC}
def ND{vs ws:ar}{Q:af->aC->Prop}(ht:IsTup s.heap t vs.toArray)(hb:IsTup s.heap b ws.toArray)(hv:vs≠[])
  (h1:ws=[]->Q (.ref t) s) (h2:ws≠[]->Q (.ref s.heap.objs.size) { s with heap:=s.heap.push { cls:=.type "tuple",data:=.seq (vs++ws).toArray }})
  (hsz:vs.length+ws.length<=sizeLine):wpAny (model prog w) A (binaryOp .Add (.ref t)<|.ref b) Q E s:=by
 obtain⟨⟨cls,dd,data,sl⟩,ho,hc,n,hd⟩:=id ht;obtain⟨⟨cls2,dd2,data2,sl2⟩,ho2,hc2,n2,hd2⟩:=id hb;simp only at hc hd hc2 hd2;subst hc hd hc2 hd2;have e:vs.toArray++ws.toArray=(vs++ws).toArray:=by simp
 by_cases hw:ws=[]
 ·exact concat_meets ⟨_,ho,rfl⟩ ⟨_,ho2,rfl⟩ noFill_tuple_add seq_tuple_add fW fV (fM _ _)
   (tuple_addW1 t b vs.toArray ws.toArray n n2 dd dd2 sl sl2 (by simpa using hv)<|by simp[hw]) ⟨ho,ho2,h1 hw⟩
 ·refine concat_meets ⟨_,ho,rfl⟩ ⟨_,ho2,rfl⟩ noFill_tuple_add seq_tuple_add fW fV (fM _ _)
   (tuple_addW2 t b vs.toArray ws.toArray n n2 dd dd2 sl sl2 (by simpa using hv) (by simpa using hw)<|by rw[aW,aW];exact hsz) ⟨ho,ho2,?_⟩
  rw[e];exact h2 hw
abbrev kZ (n d:Nat):bd->Nat
 | none=>d
 | some v=>if v<0 then(v+(n:Int)).toNat else min v.toNat n
def B9(n d:Nat):kZ n d none=d:=rfl
def p7(n d k:Nat):kZ n d (some (k:Int))=min k n:=by
 show(if (k:Int)<0 then((k:Int)+(n:Int)).toNat else min (k:Int).toNat n)=min k n;rw[aJ (),d_]
def Ri(n d:Nat)(hd:d<=n)(o:bd):kZ n d o<=n:=by
 cases o with
 | none=>exact hd
 | some v=>
  show(if v<0 then(v+(n:Int)).toNat else min v.toNat n)<=n;by_cases hv:v<0
  ·rw[aL hv];lia
  ·rw[aJ hv];exact Nat.min_le_right _ _
def GB(v:Int)(n d:Nat):(if v<0 then max (v+(n:Int)) 0 else min v (n:Int))=((kZ n d (some v):Nat):Int):=by
 show(if v<0 then max (v+(n:Int)) 0 else min v (n:Int))=(((if v<0 then(v+(n:Int)).toNat else min v.toNat n):Nat):Int);by_cases hv:v<0
 ·dsimp[aL hv];lia
 ·dsimp[aJ hv];lia
def CV(lo hi:bd)(n:Nat):Builtin.Slice.sliceAdjust lo hi 1 (n:Int)=(((kZ n 0 lo:Nat):Int),((kZ n n hi:Nat):Int)):=by
 have h1:¬((1:Int)<0):=()
 unfold Builtin.Slice.sliceAdjust;dsimp[h1,bN];refine Prod.ext ?_ ?_
 ·cases lo with
  | none=>rfl
  | some v=>exact GB v n 0
 ·cases hi with
  | none=>rfl
  | some v=>exact GB v n n
def CT(i j:Nat):Builtin.Slice.slicePlaces (i:Int) (j:Int) 1=j-i:=by
 unfold Builtin.Slice.slicePlaces;have h1:(1:Int)>0:=()
 dsimp[h1,cE,ediv_one];split<;>lia
def wk{v:af}{Q:bd->aC->Prop}(p:IsPart v o)(h:Q o s):wpAny (model prog w) A (Builtin.Slice.slicePartIndex v) Q E s:=by
 cases p with
 | none=>exact slicePart_none h
 | int i t=>exact slicePart_int h
def uT{lo:bd}{n:Nat}{Q:Int×Int×Nat->aC->Prop}(hs:s.heap.IsSliceOf sl vl vu .none)(pl:IsPart vl lo)(pu:IsPart vu hi)
  (h:Q (((kZ n 0 lo:Nat):Int),1,kZ n n hi-kZ n 0 lo) s):wpAny (model prog w) A (Builtin.Slice.sliceApplied (.ref sl)<|pure (n:Int)) Q E s:=by
 obtain⟨os,hos,hcs,hds⟩:=id hs;unfold Builtin.Slice.sliceApplied Builtin.Slice.sliceFields;refine aH<|aH<|eg hos hds (x:=vl) rfl<|aH<|eg hos hds (x:=vu) rfl<|aH<|eg hos hds (x:=.none) rfl<|aO ?_;refine aH (slicePart_none ?_)
 skip
 rw[aJ ⋯];refine aH<|wk pl<|aH<|wk pu<|aH<|aO ?_;show wpAny _ _ (match Builtin.Slice.sliceAdjust lo hi 1 (n:Int)with|(lo,hi)=>pure (lo,(1:Int),Builtin.Slice.slicePlaces lo hi 1)) _ _ s;rw[CV lo hi n];show wpAny _ _ (pure (((kZ n 0 lo:Nat):Int),(1:Int),Builtin.Slice.slicePlaces ((kZ n 0 lo:Nat):Int) ((kZ n n hi:Nat):Int) 1)) _ _ s;rw[CT];exact aO h
def Mn(xs:Array af)(i k:Nat):((List.range k).filterMap λ(m:Nat)=>xs[((i:Int)+(m:Int) * 1).toNat]?).toArray=((xs.toList.drop i).take k).toArray:=by
 have e:(λ(m:Nat)=>xs[((i:Int)+(m:Int) * 1).toNat]?)=λm=>xs[i+m]?:=by
  funext m
  have:((i:Int)+(m:Int) * 1).toNat=i+m:=()
  rw[this]
 rw[e];have:=pick_run xs i k;rw[List.filterMap_map]at this;have e2:((λx=>xs[x]?) ∘ λx=>i+x)=λm=>xs[i+m]?:=rfl;rw[e2]at this;rw[this]
theorem uc{items:Array af}{lo:bd}{Q:af->aC->Prop}(ht:IsTup s.heap t items)(hs:s.heap.IsSliceOf sl vl vu .none)(pl:IsPart vl lo)(pu:IsPart vu hi)
  (hw:¬(kZ items.size 0 lo=0/\kZ items.size items.size hi=items.size))
  (h:Q (.ref s.heap.objs.size) { s with heap:=s.heap.push { cls:=.type "tuple",data:=.seq ((items.toList.drop<|kZ items.size 0 lo).take<|kZ items.size items.size hi-kZ items.size 0 lo).toArray }})
  (hsz:items.size<=sizeLine):wpAny (model prog w) A (getItem (.ref t)<|.ref sl) Q E s:=by
 have htake:sizeOk (.seq ((items.toList.drop<|kZ items.size 0 lo).take<|kZ items.size items.size hi-kZ items.size 0 lo).toArray):=by
  show((items.toList.drop<|kZ items.size 0 lo).take<|kZ items.size items.size hi-kZ items.size 0 lo).toArray.size<=sizeLine;rw[aW,bq,bR,cD];omega
 have hj:kZ items.size items.size hi<=items.size:=Ri _ _ (aQ _) hi;obtain⟨os,hos,hcs,hds⟩:=id hs;have hTs:s.TypeIs (.ref sl) "slice" := ⟨os,hos,hcs⟩;unfold getItem
 try with_reducible refine dg ?_
 first|refine aH (aO ?_)|skip
 refine aH<|wpAny_sequenceKey ht.typeIs ⋯ ?_;refine aH (eK (name:=Str.ofString "__getitem__") ht.typeIs cC
  (dR cC ht.typeIs entry_tuple_getitem ?_<|args_tuple_getitem _ _))
 show wpAny _ _ (Builtin.Tuple.tupleItemsOf (.ref t) >>= _) _ _ s;refine aH<|tupleItemsOf_ ht ?_;refine aH<|fX hTs ?_;rw[aL ⋯];refine aH<|uT hs pl pu ?_;have hno:¬((((kZ items.size 0 lo:Nat):Int) == 0 && (1:Int) == 1 && (kZ items.size items.size hi-kZ items.size 0 lo) == items.size)=true):=by
  intro q;rw[dz,dz]at q;have q1:((kZ items.size 0 lo:Nat):Int)=0:=eq_of_beq q.1.1;have q2:kZ items.size items.size hi-kZ items.size 0 lo=items.size:=eq_of_beq q.2;exact hw ⟨by omega,by omega⟩
 show wpAny _ _ (if (((kZ items.size 0 lo:Nat):Int) == 0 && (1:Int) == 1 && (kZ items.size items.size hi-kZ items.size 0 lo) == items.size)=true then _ else _) _ _ s;rw[aJ hno,Mn]
 first
  | exact aH (m:=Builtin.Tuple.tupleExact _) (bQ (aO ⟨_,rfl,aO h⟩) htake)
  | exact aH (m:=Builtin.Tuple.tupleExact _) (bQ (aH<|aO<|aO ⟨_,rfl,aO h⟩) htake)
  | exact aH (aH (m:=Builtin.Tuple.tupleExact _)<|bQ (aO<|aO ⟨_,rfl,aO h⟩) htake)
  | exact aH<|aH (m:=Builtin.Tuple.tupleExact _)<|bQ (aO ⟨_,rfl,aO h⟩) htake
end
end HT
namespace L2
open PySem PySem.Spec PyProof.Rows
meta abbrev TO:=St->Hp->(bd->Hp->Prop)->Prop
abbrev PO (X:Cx)(e:Option aE)(t:TO):Prop:=
 ∀(pins:bn) (s:aC) (σ:St) (H:Hp) (Q:bd->Hp->Prop),Inv X pins σ H s->t σ H Q ->
  wpAny (model X.prog X.w) X.A (evalPart e X.env) (λu s'=>∃o H',Inv X pins σ H' s'/\IsPart u o/\Q o H') X.xe s
abbrev O5:TO:=λ_ H Q=>Q none H
abbrev VJ (t:TE):TO:=λσ H Q=>t σ H λx H1=>∃i,x=.int i/\Q (some i) H1
def intsAre_of{ns:ae}:∀{us:ar},Vals (ns.map V.int) us->IntsAre us ns:=by
 induction ns with
 | nil=>intro us r;rw[map_nil]at r;cases r;exact .nil
 | cons n ns ih=>
  intro us r;rw[bS]at r
  cases r with
  | cons r1 r2=>
   obtain⟨t,e⟩:=r1;subst e;exact .cons n t<|ih r2
section
variable {X:Cx}{e:aE}{te:TE}{lo hi:Option aE}{tl th:TO}{pos p2:Pos}
def N4:PO X none O5:=by
 w_up;rw[g_];exact aO ⟨none,H,I,.none,h⟩
def Od(h:PE X e te):PO X (some e) (VJ te):=by
 intro pins s σ H Q I hw;rw[evalPart_some];refine jM (h pins s σ H _ I hw) λu s1 ⟨x,H1,I1,r1,q1⟩=>?_;obtain⟨i,rfl,q⟩:=q1;obtain⟨t,rfl⟩:=r1;exact⟨some i,H1,I1,.int i t,q⟩
abbrev V1 (X:Cx)(r:V->bd->bd->Hp->VK->Prop):Prop:=
 ∀(pins:bn) (s:aC) (σ:St) (H:Hp) (x:V) (v vl vu:af) (lo hi:bd) (sl:ak) (Q:VK),Inv X pins σ H s->RelV x v->s.heap.IsSliceOf sl vl vu .none->IsPart vl lo->IsPart vu hi->r x lo hi H Q ->
  ∃T id,typeLookup (.type T) "__getitem__" = pure (some<|.builtin id)/\s.TypeIs v T/\wpAny (model X.prog X.w) X.A (getItem v<|.ref sl) (EP X pins σ Q) X.xe s
abbrev Yt (r:V->bd->bd->Hp->VK->Prop)(te:TE)(tl th:TO):TE:=λσ H Q=>te σ H λx H1=>tl σ H1 λl H2=>th σ H2 λu H3=>r x l u H3 Q
def ID{r:V->bd->bd->Hp->VK->Prop}(hr:V1 X r)(he:PE X e te)(hl:PO X lo tl)(hu:PO X hi th):PE X (.Subscript e (.Slice lo hi none p2) pos) (Yt r te tl th):=by
 w_up;refine Subscript_<|jM (he pins s σ H _ I h) λv s1 ⟨x,H1,I1,r1,q1⟩=>?_;refine wpAny_Slice<|jM (hl pins s1 σ H1 _ I1 q1) λvl s2 ⟨l,H2,I2,pl,q2⟩=>jM (hu pins s2 σ H2 _ I2 q2) λvu s3 ⟨u,H3,I3,pu,q3⟩=>?_;rw[g_];refine aO ?_;have I4:Inv X pins σ H3 { s3 with heap:=s3.heap.push { cls:=.type "slice",data:=.fields #[vl,vu,.none]}}:=I3.kept (t':=s3.toks) λb ob q=>aR _ q;obtain⟨T,id,hT,ht,hg⟩:=hr pins { s3 with heap:=s3.heap.push { cls:=.type "slice",data:=.fields #[vl,vu,.none]}} σ H3 x v vl vu l u s3.heap.objs.size Q I4 r1 (gW ..) pl pu q3
 skip
 exact tail_any (ops:=[.ref s3.heap.objs.size,v]) ht hT hg<|by with_unfolding_all rfl
abbrev Cg (xs:List V)(lo hi:bd):List V:=(xs.drop<|HT.kZ xs.length 0 lo).take<|HT.kZ xs.length xs.length hi-HT.kZ xs.length 0 lo
def uX(xs:List V)(lo hi:bd):(Cg xs lo hi).length<=xs.length:=by
 unfold Cg;rw[bq,bR]
 lia
abbrev Xj (K:au):V->bd->bd->Hp->VK->Prop:=λx lo hi H Q=>∃a xs,x=.ref a/\lO K H a xs /\
 ¬(HT.kZ xs.length 0 lo=0/\HT.kZ xs.length xs.length hi=xs.length)/\∀p,H p=none->Q (.ref p) (upd H p<|.tup<|Cg xs lo hi)
def SN:V1 X (Xj X.K):=by
 intro pins s σ H x v vl vu lo hi sl Q I rx hs pl pu h;obtain⟨a,xs,rfl,hx,hw,q⟩:=h
 cases rx
 obtain⟨its,r,ht,hz⟩:=I.tuple hx;have hlen:its.toArray.size=xs.length:=by rw[aW];exact r.length.symm
 refine⟨"tuple",_,cC.lookup,ht.typeIs,?_⟩;refine HT.uc ht hs pl pu (by rw[hlen];exact hw) ?_ (by rw[hlen];exact hz);rw[hlen];refine⟨.ref s.heap.objs.size,_,I.laid (t':=s.toks) (o:=.tup<|Cg xs lo hi) (λb ob q=>aR _ q) (aQ _) ?_,rfl,q _<|I.hok.fresh<|aQ _⟩;exact⟨bP (uX xs lo hi) hz,_,(r.drop<|HT.kZ xs.length 0 lo).take<|HT.kZ xs.length xs.length hi-HT.kZ xs.length 0 lo,lU.new _ _⟩
abbrev Vz (K:au):R2:=λx y H Q=>∃a b xs ys,x=.ref a/\y=.ref b/\lO K H a xs/\lO K H b ys/\xs≠[]/\xs.length+ys.length<=sizeLine /\
 (ys=[]->Q (.ref a) H)/\(ys≠[]->∀p,H p=none->Q (.ref p) (upd H p<|.tup<|xs++ys))
def Vals.An(r:Vals xs us):us=[] ↔ xs=[]:=by
 cases r with
 | nil=>simp
 | cons _ _=>simp
def O6:lQ X (binaryOp .Add) (Vz X.K):=by
 kd_p;obtain⟨a,b,xs,ys,rfl,rfl,ha,hb,hx,hz,q1,q2⟩:=h
 cases rx
 cases ry
 obtain⟨its,r1,p1,_⟩:=I.tuple ha;obtain⟨its2,r2,p2,_⟩:=I.tuple hb;refine HT.ND p1 p2 (λz=>hx<|r1.An.mp z) (λz=>⟨.ref a,H,I,rfl,q1<|r2.An.mp z⟩) (λz=>?_) (by rw[<- r1.length,<- r2.length];exact hz);refine⟨.ref s.heap.objs.size,_,I.laid (t':=s.toks) (o:=.tup<|xs++ys) (λb ob q=>aR _ q) (aQ _) ?_,rfl,q2 (λw=>z<|r2.An.mpr w) _<|I.hok.fresh<|aQ _⟩;exact⟨by rw[aX];exact hz,_,r1.append r2,lU.new _ _⟩
end
abbrev yI (n:Nat)(i:Int):bj:=if 0<=i then(if i<n then some i.toNat else none)else if -(n:Int)<=i then some (i+n).toNat else none
abbrev nU {α:Type}(xs:List α)(i:Int):Option α:=(yI xs.length i).bind λj=>xs[j]?
def Gh{n:Nat}{i:Int}(h:yI n i=some j):seqIndex? i n=some j/\j<n/\-(n:Int)<=i/\i<n:=by
 unfold yI at h;by_cases h0:0<=i
 ·rw[aL h0]at h;by_cases h1:i<n
  ·rw[aL h1]at h;have e:i.toNat=j:=aU h;exact⟨by rw[seqIndex_of h0 h1,e],(),(),h1⟩
  ·rw[aJ h1]at h;cases h
 ·rw[aJ h0]at h;by_cases h1:-(n:Int)<=i
  ·rw[aL h1]at h;have e:(i+n).toNat=j:=aU h;exact⟨by rw[seqIndex_neg () h1,e],(),h1,()⟩
  ·rw[aJ h1]at h;cases h
def Az{α:Type}{xs:List α}{i:Int}{v:α}(h:nU xs i=some v):∃j,seqIndex? i xs.length=some j/\xs[j]?=some v/\j<xs.length/\-(xs.length:Int)<=i/\i<xs.length:=by
 unfold nU at h
 cases e:yI xs.length i with
 | none=>rw[e]at h;cases h
 | some j=>
  rw[e]at h;obtain⟨h1,h2,h3,h4⟩:=Gh e;exact⟨j,h1,h,h2,h3,h4⟩
def M9{α:Type}{xs:List α}{j:Nat}{v:α}(h:xs[j]?=some v):nU xs (j:Int)=some v:=by
 have hj:j<xs.length:=(aM.mp h).1;have e:yI xs.length (j:Int)=some j:=by
  unfold yI;rw[aL (),aL ()];simp
 unfold nU;rw[e];exact h
def Kf{α:Type}(xs:List α)(v:α):nU (xs++[v]) (-1)=some v:=by
 have hl:(xs++[v]).length=xs.length+1:=by simp
 have e:yI (xs++[v]).length (-1)=some xs.length:=by
  unfold yI;rw[hl,aJ ⋯,aL ()];congr 1
  lia
 unfold nU;rw[e]
 skip
 simp
abbrev vY (b:aE):Prop:=∀o i,subscripted b false o i=operate [o,i] (getItem o i)
abbrev M_ (X:Cx)(r:R2):Prop:=
 ∀(value slice:aE) (pins:bn) (s:aC) (σ:St) (H:Hp) (x y:V) (v u:af) (Q:VK),Inv X pins σ H s->RelV x v->RelV y u->r x y H Q ->
  subscripted slice false v u=operate [v,u] (getItem v u)->wpAny (model X.prog X.w) X.A (subscriptTail value slice v u) (EP X pins σ Q) X.xe s
abbrev TV (X:Cx)(id:String)(r:V->List V->Hp->VK->Prop):Prop:=
 ∀(pins:bn) (s:aC) (σ:St) (H:Hp) (x:V) (xs:List V) (v:af) (us:ar) (Q:VK),Inv X pins σ H s->RelV x v->Vals xs us->r x xs H Q ->
  wpAny (model X.prog X.w) X.A (call (.builtin id) (v::us)) (EP X pins σ Q) X.xe s
section
variable {X:Cx}{a b:aE}{ta tb:TE}{pos:Pos}
def Jj{r:R2}(hr:M_ X r)(ha:PE X a ta)(hb:PE X b tb)(hs:vY b):PE X (.Subscript a b pos) (Uk r ta tb):=by
 w_up;exact Subscript_<|Ru ha hb I h λv u s2 x y H2 I2 rx ry q=>hr a b pins s2 σ H2 x y v u Q I2 rx ry q<|hs _ _
abbrev Wq (K:au):R2:=λx y H Q=>∃p xs i v,x=.ref p/\y=.int i/\ny K H p xs/\nU xs i=some v/\Q v H
abbrev Wg (K:au):R2:=λx y H Q=>∃p xs i v,x=.ref p/\y=.int i/\lO K H p xs/\nU xs i=some v/\Q v H
abbrev Ww:R2:=λx y H Q=>∃z i c,x=.str z/\y=.int i/\z.length<=sizeLine/\nU z.cps.toList i=some c/\Q (.str ⟨#[c]⟩) H
def GC:M_ X (Wq X.K):=by
 ksr_p;obtain⟨p,xs,i,z,rfl,rfl,hq,he,q⟩:=h
 cases rx
 obtain⟨t,rfl⟩:=ry;obtain⟨its,r,pl,hz⟩:=I.list hq;obtain⟨j,h1,h2,h3,h4,h5⟩:=Az he;obtain⟨w,ew,rw'⟩:=r.get h2;have hl:=r.length;have hn:=sQ;have fin:EP X pins σ Q w s:=⟨z,H,I,rw',q⟩;by_cases h0:0<=i
 ·have hj:i.toNat=j:=by
   rw[seqIndex_of h0 h5]at h1;exact aU h1
  exact item_listR pl.isList h0 () (by rw[hj];simpa using ew) fin hs
 ·have hj:(i+(its.toArray.size:Int)).toNat=j:=by
   rw[seqIndex_neg () h4]at h1;rw[aW,<- hl];exact aU h1
  exact subscriptTail_builtinR (x:=w) pl.isList.typeIs g6.lookup
   (wpAny_getItem_list_neg (Q:=λr s'=>r=w/\EP X pins σ Q r s') pl.isList () (by rw[aW]<;>lia) () (by rw[hj];simpa using ew) ⟨rfl,fin⟩) hs
def QC:M_ X (Wg X.K):=by
 ksr_p;obtain⟨p,xs,i,z,rfl,rfl,hq,he,q⟩:=h
 cases rx
 obtain⟨t,rfl⟩:=ry;obtain⟨its,r,pl,hz⟩:=I.tuple hq;obtain⟨j,h1,h2,h3,h4,h5⟩:=Az he;obtain⟨w,ew,rw'⟩:=r.get h2;have hl:=r.length;have hn:=sQ;have fin:EP X pins σ Q w s:=⟨z,H,I,rw',q⟩;exact subscriptTail_builtinR (x:=w) pl.typeIs slot_tuple_getitem.lookup
  (getItem_tuple (j:=j) (Q:=λr s'=>r=w/\EP X pins σ Q r s') pl () () (by rw[aW,<- hl];exact h1) (by simpa using ew) ⟨rfl,fin⟩) hs
def QF:M_ X Ww:=by
 ksr_p;obtain⟨z,i,c,rfl,rfl,hz,he,q⟩:=h;mg_lt;obtain⟨t',rfl⟩:=ry;obtain⟨j,h1,h2,h3,h4,h5⟩:=Az he;have hl:z.cps.toList.length=z.length:=by simp[Str.length]
 rw[hl]at h1 h4 h5;have hn:=sQ;exact tail_any (typeIs_str s z t) slot_str_getitem.lookup (getItem_str (c:=c) (by
  have e1:decide (i < -(2 ^ 63:Int))=false:=aS ();have e2:decide (i>=2 ^ 63)=false:=aS ();rw[e1,e2,Bool.or_false]) (by rw[h1];simpa using h2) ⟨.str ⟨#[c]⟩,H,I.tok _,⟨_,rfl⟩,q⟩) hs
def CN(its:ar)(n j:Nat)(u:af):Obj.mapSeq (·.setIfInBounds j u) { cls:=.type "list",data:=.seq its.toArray n }={ cls:=.type "list",data:=.seq (its.set j u).toArray n }:=by
 simp[Obj.mapSeq]
def Inv.lst{H:Hp}{s:aC}{p:ak}{xs:List V}(I:Inv X pins σ H s)(h:H p=some (.lst xs)) :
  ∃(its:ar) (n:Nat),Vals xs its/\s.heap.get? p=some { cls:=.type "list",data:=.seq its.toArray n }/\xs.length<=sizeLine:=by
 obtain⟨z,its,n,r,e⟩:=I.hok p _ h;exact⟨its,n,r,e,z⟩
def Inv.RM{H:Hp}{s:aC}{p:ak}{ys:List V}{its its':ar}{n:Nat}{f:Obj->Obj}(I:Inv X pins σ H s)(h:H p=some (.lst xs))
  (ho:s.heap.get? p=some { cls:=.type "list",data:=.seq its.toArray n }) (hf:f { cls:=.type "list",data:=.seq its.toArray n }={ cls:=.type "list",data:=.seq its'.toArray n' }) (r:Vals ys its') (hz:ys.length<=sizeLine) (t:Nat) :
  Inv X pins σ (upd H p<|.lst ys) { s with heap:=s.heap.update p f,toks:=t }:=by
 have e:(s.heap.update p f).get? p=some { cls:=.type "list",data:=.seq its'.toArray n' }:=by
  rw[Heap.get?_update_self f ho<|by rw[hf]<;>rfl,hf]
 refine I.write (x:=p) (e:=p) (by rw[h];trivial) (.inl rfl) (λb u hb q=>(Heap.get?_update_other _ _<|dc hb).trans q) ⟨_,e⟩ ?_;exact⟨hz,its',n',r,e⟩
abbrev Vh:V->V->V->Hp->(Hp->Prop)->Prop:=λo i v H Q=>∃p xs k j,o=.ref p/\i=.int k/\H p=some (.lst xs)/\yI xs.length k=some j/\Q (upd H p<|.lst<|xs.set j v)
def set_list:Bw X Vh:=by
 intro pins s σ H o i v ov iv u Q I ro ri rv h;obtain⟨p,xs,k,j,rfl,rfl,hp,hj,q⟩:=h
 cases ro
 obtain⟨t,rfl⟩:=ri;obtain⟨its,n,r,ho,hz⟩:=I.lst hp;obtain⟨h1,h2,h3,h4⟩:=Gh hj;have hl:=r.length;have hn:=sQ;have I':Inv X pins σ (upd H p<|.lst<|xs.set j v) { s with heap:=s.heap.update p<|Obj.mapSeq (·.setIfInBounds j u)}:=
  I.RM hp ho (CN its n j u) (r.set rv j) (by rw[bO];exact hz) s.toks
 by_cases h0:0<=k
 ·have hk:k.toNat=j:=by
   rw[seqIndex_of h0 h4]at h1;exact aU h1
  exact PySem.W.ki_setAt ho h0 () (by rw[aW,<- hl];exact h4)<|by rw[hk];exact⟨_,I',q⟩
 ·have hk:(k+(its.toArray.size:Int)).toNat=j:=by
   rw[seqIndex_neg () h3]at h1;rw[aW,<- hl];exact aU h1
  exact PySem.W.ki_setBack ho () (by rw[aW,<- hl];exact h3) ()<|by rw[hk];exact⟨_,I',q⟩
def Au(lo hi:bd)(n:Nat):(sliceBounds lo hi none n).1=((HT.kZ n 0 lo:Nat):Int)/\(sliceBounds lo hi none n).2.1=((HT.kZ n n hi:Nat):Int)/\(sliceBounds lo hi none n).2.2=1:=by
 refine⟨?_,?_,rfl⟩
 ·cases lo with
  | none=>simp[sliceBounds,HT.kZ]
  | some i=>
   dsimp[sliceBounds,HT.kZ,getD_none,show(1:Int)>0 by decide,cE];by_cases h:i<0
   ·dsimp[h,cE]<;>lia
   ·dsimp[h,bN]<;>lia
 ·cases hi with
  | none=>simp[sliceBounds,HT.kZ]
  | some i=>
   dsimp[sliceBounds,HT.kZ,getD_none,show(1:Int)>0 by decide,cE];by_cases h:i<0
   ·dsimp[h,cE]<;>lia
   ·dsimp[h,bN]<;>lia
def yk(its:ar)(lo hi:bd):slicePick its.toArray lo hi none=((its.drop<|HT.kZ its.length 0 lo).take<|HT.kZ its.length its.length hi-HT.kZ its.length 0 lo).toArray:=by
 obtain⟨h1,h2,h3⟩:=Au lo hi its.toArray.size;unfold slicePick;rw[h1,h2,h3];dsimp[sliceRange_one,pick_run,aW]<;>rfl
abbrev WO (K:au):V->bd->bd->Hp->VK->Prop:=λx lo hi H Q=>∃a xs,x=.ref a/\ny K H a xs/\∀p,H p=none->Q (.ref p) (upd H p<|.lst<|Cg xs lo hi)
def GJ:V1 X (WO X.K):=by
 intro pins s σ H x v vl vu lo hi sl Q I rx hs pl pu h;obtain⟨a,xs,rfl,hx,q⟩:=h
 cases rx
 obtain⟨its,r,ht,hz⟩:=I.list hx;have hlen:=r.length;refine⟨"list",_,g6.lookup,ht.isList.typeIs,?_⟩;refine wpAny_getItem_list_slice ht.isList hs pl pu .none (by simp) ?_ (by rw[aW]<;>lia);rw[yk,<- hlen];refine⟨.ref s.heap.objs.size,_,I.laid (t':=s.toks) (o:=.lst<|Cg xs lo hi) (λb ob q=>aR _ q) (aQ _) ?_,rfl,q _<|I.hok.fresh<|aQ _⟩;exact⟨bP (uX xs lo hi) hz,_,0,(r.drop<|HT.kZ xs.length 0 lo).take<|HT.kZ xs.length xs.length hi-HT.kZ xs.length 0 lo,bB _ rfl⟩
def p8:jk X (.type "list") (λxs H Q=>∃p ys,xs=[.ref p]/\(ny X.K H p ys\/lO X.K H p ys)/\∀l,H l=none->Q (.ref l) (upd H l<|.lst ys)):=by
 kt_k;obtain⟨p,ys,rfl,hq,q⟩:=h;kpf_c
 cases rx
 have fin:∀(its:ar),Vals ys its->ys.length<=sizeLine->∀(h':aq) (c':Nat),(∀b o',s.heap.get? b=some o'->h'.get? b=some o') ->
   h'.get? s.heap.objs.size=some { cls:=.type "list",dict:=none,data:=.seq its.toArray c',slots:=#[]}->EP X pins σ Q (.ref s.heap.objs.size) { s with heap:=h' }:=λits r' hz h' c' kp e=>
  ⟨.ref s.heap.objs.size,_,I.laid (t':=s.toks) kp (aQ _)<|show jC X.prog X.w _ h' _ (.lst ys)from⟨hz,its,c',r',e⟩,rfl,q _<|I.hok.fresh<|aQ _⟩
 rcases hq with hq|hq
 ·obtain⟨its,r',pl,hz⟩:=I.list hq;have hlen:=r'.length;obtain⟨o,ho,hc,n,hd⟩:=pl.isList;exact call_list_seq p (.inl rfl) ho hc hd (λh' c' kp e=>fin its r' hz h' c' kp e) (by dsimp[aW]<;>lia)
 ·obtain⟨its,r',pl,hz⟩:=I.tuple hq;have hlen:=r'.length;obtain⟨o,ho,hc,n,hd⟩:=pl;exact call_list_seq p (.inr rfl) ho hc hd (λh' c' kp e=>fin its r' hz h' c' kp e)<|by dsimp[aW]<;>lia
def oX:jk X (.type "tuple") (λxs H Q=>∃p ys,xs=[.ref p]/\((ny X.K H p ys/\∀l,H l=none->Q (.ref l) (upd H l<|.tup ys))\/(lO X.K H p ys/\Q (.ref p) H))):=by
 kt_k;obtain⟨p,ys,rfl,h⟩:=h;kpf_c
 cases rx
 rcases h with⟨hq,q⟩|⟨hq,q⟩
 ·obtain⟨its,r',pl,hz⟩:=I.list hq;have hlen:=r'.length;refine call_tuple_list pl.isList (λh' kp=>?_) (by dsimp[aW]<;>lia);have I1:Inv X pins σ H { s with heap:=h' }:=I.kept (t':=s.toks) kp;have I2:Inv X pins σ (upd H h'.objs.size<|.tup ys) { s with heap:=h'.push { cls:=.type "tuple",data:=.seq its.toArray }}:=
   I1.laid (t':=s.toks) (λb o e=>aR _ e) (aQ _) (show jC X.prog X.w _ _ _ (.tup ys)from⟨hz,its,r',lU.new _ _⟩)
  exact⟨.ref h'.objs.size,_,I2,rfl,q _<|I1.hok.fresh<|aQ _⟩
 ·obtain⟨its,r',pl,hz⟩:=I.tuple hq;exact call_tuple_same pl ⟨.ref p,H,I,rfl,q⟩
abbrev VZ (K:au)(T:String)(x:V)(H:Hp):Prop:=match x with
 | .str _=>T = "str"
 | .int _=>T = "int"
 | .ref p=>(T = "list" /\ ∃xs,ny K H p xs)\/(T = "tuple" /\ ∃o,K.lookup p=some o/\o.cls=.type "tuple" /\ o.dict=none) \/
   (T = "dict" /\ ((∃kvs,H p=some (.dK kvs))\/∃kvs,H p=some (.dT kvs)))\/(T = "set" /\ ∃S n,H p=some (.set S n))
 | _=>False
def QT{H:Hp}{s:aC}{x:V}{v:af}(I:Inv X pins σ H s)(r:RelV x v)(ty:VZ X.K T x H) :
  s.TypeIs v T/\∀a,v=.ref a->∃ob,s.heap.get? a=some ob/\ob.dict=none:=by
 cases x with
 | str z=>
  obtain⟨t,rfl⟩:=r
  cases(show T = "str" from ty)
  exact⟨typeIs_str s z t,nofun⟩
 | int i=>
  obtain⟨t,rfl⟩:=r
  cases(show T = "int" from ty)
  exact⟨typeIs_int s i t,nofun⟩
 | ref p=>
  cases r
  rcases ty with⟨rfl,xs,hq⟩|⟨rfl,o,hk,hc,hd⟩|⟨rfl,hk⟩|⟨rfl,S,n,hk⟩
  ·obtain⟨its,_,pl,_⟩:=I.list hq;refine⟨pl.isList.typeIs,λa e=>?_⟩
   cases e
   obtain⟨o,n,e,c,hd,_⟩:=pl;exact⟨o,e,hd⟩
  ·refine⟨⟨o,I.AH p o hk,hc⟩,λa e=>?_⟩
   cases e
   exact⟨o,I.AH _ o hk,hd⟩
  ·have z:∃o,s.heap.get? p=some o/\o.ExactDict:=by
    rcases hk with⟨kvs,hk⟩|⟨kvs,hk⟩
    ·obtain⟨_,_,_,_,o,_,_,e,ex,_⟩:=I.hok p _ hk;exact⟨o,e,ex⟩
    ·obtain⟨_,_,_,_,o,_,_,e,ex,_⟩:=I.hok p _ hk;exact⟨o,e,ex⟩
   obtain⟨o,e,ex⟩:=z;refine⟨⟨o,e,ex.1⟩,λa e2=>?_⟩
   cases e2
   exact⟨o,e,ex.2.1⟩
  ·obtain⟨o,_,_,_,e,ex,_⟩:=I.hok p _ hk;refine⟨⟨o,e,ex.1⟩,λa e2=>?_⟩
   cases e2
   exact⟨o,e,ex.2.1⟩
 | _=>exact False.elim ty
abbrev Yo (K:au)(T:String)(r:V->List V->Hp->VK->Prop)(to:TE)(t:TA):TE:=λσ H Q=>to σ H λx H1=>VZ K T x H1/\t σ H1 λxs H2=>r x xs H2 Q
variable {o e:aE}{es:List aE}{to:TE}{t:TA}{name:Str}{apos cpos:Pos}{T id:String}{r:V->List V->Hp->VK->Prop}
def PC(pa:PlainAttrs T)(slot:Slot T name id)(hty:typeOf (.builtin id)=pure (.type "method_descriptor"))(hm:TV X id r)(ho:PE X o to)(ha:PA X (e::es) t)
  (hbase:attributeBase o name X.env (eval o X.env)=eval o X.env:=by rfl)
  (hfew:((backTo cpos<|starEach (e::es) X.env).all (λx=>!x.1) && (backToKw cpos<|keywordEach [] X.env).all (λx=>x.1.isSome)
   && decide ((e::es).length+([]:List Keyword).length+(if ([]:List Keyword).isEmpty then 0 else 1)<30))=true:=by rfl)
  (hline:(apos.endLine == cpos.line)=true:=by rfl) (hs:starEach (e::es) X.env=(false,eval e X.env)::starEach es X.env:=by rfl) (hplain:(backTo cpos<|starEach es X.env).any (·.1)=false:=by rfl) :
  PE X (.Call (.Attribute o name apos) (e::es) [] cpos) (Yo X.K T r to t):=by
 w_up;refine wpAny_Call_method_late hbase hfew hline rfl<|jM (ho pins s σ H _ I h) λv s1 ⟨x,H1,I1,r1,ty,q1⟩=>?_;obtain⟨h1,h2⟩:=QT I1 r1 ty;refine⟨T,id,pa,slot,hty,h1,h2,?_⟩;have hA:=ha cpos pins s1 σ H1 _ I1 q1;rw[hs]at hA ⊢;refine Calls.callWith_builtin (by show(false || (backTo cpos<|starEach es X.env).any (·.1))=false;rw[hplain]<;>rfl)<|Calls.evalArgs_plain ?_;exact jM hA λus s2 ⟨vs,H2,I2,r2,q2⟩=>hm pins s2 σ H2 x vs v us Q I2 r1 r2 q2
end
abbrev XR (X:Cx)(id:String)(r:V->List V->Hp->VK->Prop):Prop:=
 ∀(pins:bn) (s:aC) (σ:St) (H:Hp) (x:V) (xs:List V) (v:af) (us:ar) (Q:VK),Inv X pins σ H s->RelV x v->Vals xs us->r x xs H Q ->
  wpAny (model X.prog X.w) X.A (call (.builtin id) (v::us)) (EP X pins σ Q) X.xe s
def Vals.one:∀{x:V}{us:ar},Vals [x] us->∃u,us=[u]/\RelV x u
 | _,_,.cons r .nil=>⟨_,rfl,r⟩
theorem Vals.eraseIdx:∀{xs:List V}{us:ar}(i:Nat),Vals xs us->Vals (xs.eraseIdx i) (us.eraseIdx i)
 | _,_,_,.nil=>.nil
 | _,_,0,.cons _ t=>t
 | _,_,i+1,.cons r t=>.cons r<|Vals.eraseIdx i t
def Vals.reverse{xs:List V}{us:ar}(h:Vals xs us):Vals xs.reverse us.reverse:=by
 induction h with
 | nil=>exact .nil
 | cons r t ih=>rw[cZ,cZ];exact Vals.append ih<|.cons r .nil
theorem Vals.rep(h:Vals xs us):∀k:Nat,Vals (List.replicate k xs).flatten (List.replicate k us).flatten
 | 0=>.nil
 | k+1=>by
  rw[cX,cX,dJ,dJ];exact Vals.append h<|Vals.rep h k
theorem yF{α:Type}:∀(l:List α) (i:Nat),(l.eraseIdx i).length<=l.length
 | [],_=>aQ _
 | _::_,0=>Nat.le_succ _
 | _::r,i+1=>Nat.succ_le_succ<|yF r i
theorem foldl_rep(its:ar):∀(k:Nat) (acc:ar),
  List.foldl (λx1 x2=>x1++x2) acc.toArray (List.replicate k its.toArray)=(acc++(List.replicate k its).flatten).toArray
 | 0,acc=>by simp
 | k+1,acc=>by
  have e:acc.toArray++its.toArray=(acc++its).toArray:=by simp
  have e2:(acc++its)++(List.replicate k its).flatten=acc++(List.replicate (k+1) its).flatten:=by
   rw[cX,dJ,bG]
  rw[<- e2,<- foldl_rep its k (acc++its),<- e,cX,d8]
section
variable {X:Cx}{pins:bn}{σ:St}{H:Hp}{s:aC}{l:ak}{xs ys:List V}
def Inv.Ul{its its':ar}{n:Nat}{f:Array af->Array af}{t':Nat}(I:Inv X pins σ H s)(hH:H l=some (.lst xs))
  (e:s.heap.get? l=some { cls:=.type "list",data:=.seq its.toArray n }) (hf:f its.toArray=its'.toArray) (hv:Vals ys its') (hz:ys.length<=sizeLine) :
  Inv X pins σ (upd H l<|.lst ys) { s with heap:=s.heap.update l<|Obj.mapSeq f,toks:=t' }:=by
 have q:=PySem.IsL.update e f;rw[hf]at q;refine I.write (x:=l) (e:=l) (by rw[hH];exact trivial) (.inl rfl) (λb' u hb hu=>(Heap.get?_update_other s.heap (Obj.mapSeq f)<|dc hb).trans hu) ⟨_,q⟩ ?_;exact⟨hz,its',_,hv,q⟩
def Inv.Iq{its:ar}{t':Nat}(I:Inv X pins σ H s)(hv:Vals ys its)(hz:ys.length<=sizeLine) :
  Inv X pins σ (upd H s.heap.objs.size<|.lst ys) { s with heap:=s.heap.push { cls:=.type "list",data:=.seq its.toArray },toks:=t' }:=
 I.laid (λ_ _ q=>aR _ q) (aQ _) ⟨hz,its,0,hv,bB _ rfl⟩
def Inv.fresh(I:Inv X pins σ H s):H s.heap.objs.size=none:=I.hok.fresh<|aQ _
def Inv.LI(I:Inv X pins σ H s)(hH:H l=some (.lst xs)):xs.length<=sizeLine/\∃(its:ar) (n:Nat),Vals xs its/\xs.length=its.length/\s.heap.get? l=some { cls:=.type "list",data:=.seq its.toArray n }:=by
 obtain⟨z,its,n,r,e⟩:=I.hok l _ hH;exact⟨z,its,n,r,r.length,e⟩
def JJ{n:Nat}(h:n<=sizeLine):Builtin.List.listTooLong n=false:=by
 unfold Builtin.List.listTooLong;exact aS ()
end
section
variable {X:Cx}
abbrev Oq:V->List V->Hp->VK->Prop:=λx vs H Q=>∃l xs y,x=.ref l/\vs=[y]/\H l=some (.lst xs)/\xs.length<sizeLine/\Q .non (upd H l<|.lst<|xs++[y])
def uM:XR X "list.append" Oq:=by
 intro pins s σ H x vs v us Q I rx rv h;obtain⟨l,xs,y,rfl,rfl,hH,hz,q⟩:=h
 cases rx
 obtain⟨u,rfl,ru⟩:=rv.one;obtain⟨z,its,n,r,hl,e⟩:=I.LI hH;refine ir F.slot_list_append ⟨_,e,rfl⟩ F.entry_list_append (F.args_list_append_2 _ _) (PySem.list_append l its.toArray n u<|by rw[aW];lia) ⟨e,?_⟩;refine⟨.non,_,I.Ul (its':=its++[u]) hH e (by simp) (r.append<|.cons ru .nil) ?_,rfl,q⟩;rw[aX,List.length_singleton]
 lia
abbrev Tz:V->List V->Hp->VK->Prop:=λx vs H Q=>∃l xs i k y,x=.ref l/\vs=[.int i]/\H l=some (.lst xs)/\-(2 ^ 63)<=i/\i<2 ^ 63/\seqIndex? i xs.length=some k/\xs[k]?=some y/\Q y (upd H l<|.lst<|xs.eraseIdx k)
def Lg:XR X "list.pop" Tz:=by
 intro pins s σ H x vs v us Q I rx rv h;obtain⟨l,xs,i,k,y,rfl,rfl,hH,h1,h2,hk,hy,q⟩:=h
 cases rx
 obtain⟨u,rfl,ru⟩:=rv.one;obtain⟨t,rfl⟩:=ru;obtain⟨z,its,n,r,hl,e⟩:=I.LI hH;obtain⟨w,hw,rw'⟩:=r.get hy;refine ir F.slot_list_pop ⟨_,e,rfl⟩ F.entry_list_pop (F.args_list_pop_2 _ _)
  (MeetsSeq.list_pop_at l its.toArray n i t k w (fitsIndex_both h1 h2) (by rw[aW,<- hl];exact hk) (by rw[<- e_];exact hw)<|by rw[aW];lia) ⟨e,?_⟩
 refine⟨y,_,I.Ul (its':=its.eraseIdx k) hH e ?_ (r.eraseIdx k) ?_,rw',q⟩
 ·skip
  rw[gg]
 ·have:=yF xs k
  lia
abbrev W2:R2:=λx y H Q=>∃l b xs zs,x=.ref l/\y=.ref b/\H l=some (.lst xs)/\H b=some (.lst zs)/\xs.length+zs.length<=sizeLine/\∀p,H p=none->Q (.ref p) (upd H p<|.lst<|xs++zs)
def QZ:lQ X (binaryOp .Add) W2:=by
 kd_p;obtain⟨l,b,xs,zs,rfl,rfl,hH,hB,hz,q⟩:=h
 cases rx
 cases ry
 obtain⟨z,its,n,r,hl,e⟩:=I.LI hH;obtain⟨z2,its2,n2,r2,hl2,e2⟩:=I.LI hB;refine PySem.P.add_list e e2 ?_ (by rw[aW,aW];lia);have ea:its.toArray++its2.toArray=(its++its2).toArray:=by simp
 rw[ea];exact⟨.ref _,_,I.Iq (t':=s.toks) (r.append r2)<|by rw[aX];lia,rfl,q _ I.fresh⟩
abbrev Xm:R2:=λx y H Q=>∃l k xs,x=.ref l/\y=.int k/\H l=some (.lst xs)/\-(2 ^ 63)<=k/\k<2 ^ 63/\xs.length * k.toNat<=sizeLine /\
 ∀p,H p=none->Q (.ref p) (upd H p<|.lst (List.replicate k.toNat xs).flatten)
def len_rep{α:Type}(xs:List α)(k:Nat):(List.replicate k xs).flatten.length=k * xs.length:=by
 induction k with
 | zero=>simp
 | succ k ih=>rw[cX,dJ,aX,ih,succ_mul,Nat.add_comm]
def QY:lQ X (binaryOp .Mult) Xm:=by
 kd_p;obtain⟨l,k,xs,rfl,rfl,hH,h1,h2,hz,q⟩:=h
 cases rx
 obtain⟨t,rfl⟩:=ry;obtain⟨z,its,n,r,hl,e⟩:=I.LI hH;have hlen:its.toArray.size * k.toNat<=sizeLine:=by rw[aW,<- hl];exact hz
 have hcap:¬its.toArray.size * k.toNat>(2 ^ 63-1) / 8:=by
  have:(sizeLine:Nat)<=(2 ^ 63-1) / 8:=by decide
  omega
 have hfit:¬(!Builtin.List.listFitsIndex k)=true:=by
  rw[fitsIndex_both h1 h2];exact bH
 have hlong:¬Builtin.List.listTooLong (its.toArray.size * k.toNat)=true:=by
  rw[JJ hlen];exact bH
 have hnew:List.foldl (λx1 x2=>x1++x2) #[] (List.replicate (if its.toArray.isEmpty=true then 0 else k.toNat) its.toArray)=(List.replicate k.toNat its).flatten.toArray:=by
  have f0:∀m:Nat,List.foldl (λx1 x2=>x1++x2) #[] (List.replicate m its.toArray)=(List.replicate m its).flatten.toArray:=λm=>by
   have:=foldl_rep its m [];rw[List.nil_append]at this;exact this
  rw[f0]
  cases its with
  | nil=>simp
  | cons a r'=>rw[aJ<|by simp]
 refine wpAny_binaryOp_repeat_ref (T := "list") (U := "int") ⋯ ⟨_,e,rfl⟩ (λs'=>typeIs_int s' k t) noFill_list_mul F.fills_int_mul F.slot_int_rmul repeat_list F.slot_int_index.lookup
  (ir F.slot_int_rmul (typeIs_int s k t) F.entry_int_rmul (F.args_int_rmul_2 _ _) (int___rmul___int_list k t l its.toArray n)
   ⟨e,rfl,⟨_,e,rfl⟩,ir F.slot_list_mul ⟨_,e,rfl⟩ F.entry_list_mul (F.args_list_mul_2 _ _) (AutoListH.list___mul___list_int_3 l its.toArray n k t hfit hcap hlong) ⟨e,?_⟩⟩)
 rw[hnew];exact⟨.ref _,_,I.Iq (t':=s.toks) (r.rep k.toNat)<|by rw[len_rep,Nat.mul_comm];exact hz,rfl,q _ I.fresh⟩
end
end L2
namespace Att
open PySem PySem.W PySem.Calls PyProof.Rows
def vg{P:Params}:∀(ns:ae) (vs:ar),WellAll P h vs (ns.map WData.int)->IntsAre vs ns:=by
 intro ns
 induction ns with
 | nil=>
  intro vs w;rw[map_nil]at w
  cases w
  exact .nil
 | cons n ns ih=>
  intro vs w;rw[bS]at w
  cases w with
  | cons a b=>
   cases a
   exact .cons _ _<|ih _ b
def HX{l:OpenLaw}{n:Nat}(hn:l.most=some n){P:Params}{h:aq}
  (hpre:l.row.toRowW.claim.pre args=true) (hwl:WellAll P h vals args) :
  ∃a vs ns,vals=[Value.ref a]/\args=[WData.list<|ns.map WData.int]/\h.get? a=some { cls:=.type "list",data:=.seq vs.toArray }/\IntsAre vs ns/\ns.length<=n:=by
 have hsh:WShape.hasAll [] args [.list .int]=true:=(pre_splitW hpre).1;have hc:l.pre.holds [] { args:=args }=true:=(pre_splitW hpre).2;obtain⟨d,r,rfl,h1,h2⟩:=hasAllW_cons hsh;obtain rfl:=hasAllW_nil h2;obtain⟨xs,rfl,h3⟩:=hasW_list h1;obtain⟨ns,rfl⟩:=items_int h3;have hlen:ns.length<=n:=by
  unfold OpenLaw.pre at hc;have h4:(WTm.not<|.lt (.lit<|.int (n:Int))<|.len<|.arg 0).holds [] { args:=[.list<|ns.map .int]}=true:=by
   have h4:=(holds_andW hc).1;rw[hn]at h4;exact h4
  have h5:=condW_of h4<|w_not<|w_lt w_lit<|w_len_list<|w_arg rfl;rw[aK]at h5;refine Nat.le_of_not_lt λq=>?_;have q':(n:Int)<((ns.length:Nat):Int):=by omega
  first
   | (rw[aT q']at h5;exact absurd h5 ⋯)
   | (simp at h5;omega)
 cases hwl with
 | cons w1 w2=>
  cases w2
  cases w1 with
  | list ho hall=>exact⟨_,_,ns,rfl,rfl,ho,vg ns _ hall,hlen⟩
def Hg(l:OpenLaw)(args:List WData):l.row.toRowW.claim.post args (.bool true) args=true:=
 postW_of (r:=l.row.toRowW) (X:=(true == true))
  (show WShape.has [] (.bool true) .bool=true by first|rfl|decide|simp[WShape.has,WShape.arms,WShape.armsAll])
  (show(WTm.eq .res<|.lit<|.bool true).value [] { args:=args,res:=some<|.bool true,after:=args }=some (.bool<|true == true)from w_eq_bool (w_res rfl) w_lit) rfl
def Ce{l:OpenLaw}{n:Nat}{q:aj}{XP:(Str->bb)->aq->Prop}{YP:ah->aq->Prop}{d:DefRec}
  (hn:l.most=some n) (hdf:d.params.defaults=[])
  (call:∀(w:ah) (s₀ s₁:aC) (mg mb:Str->bb) (fa:ak) (o:Obj) (pm cd doc:af) (a:ak) (vs:ar) (ns:ae),
   Ground q loose [] XP w s₀ mg mb s₁.heap->YP w s₁.heap ->
   s₁.heap.get? fa=some o->o.data=.func (docDef d.name d.params d.body d.scope pm cd doc)->s₁.heap.CodeRec cd d.name->mg d.name=some (.ref fa) ->
   s₁.heap.get? a=some { cls:=.type "list",data:=.seq vs.toArray }->IntsAre vs ns->ns.length<=n->s₁.gens=#[] ->
   codeAny (model l.prog w) callerA (.call (.ref fa) ⟨[.ref a],[]⟩) (λr s'=>r=.ok (.ret<|.bool true)/\OldK s₁.heap s'.heap/\s'.os=s₁.os/\AllBare s'.gens) s₁) :
  WalkO q loose XP YP l.row.toRowW d [] (λf vs=>PySem.call f vs):=by
 intro w s₀ s₁ mg mb G Y fa o pm cd doc dV kV ho hd hcd hD hmg hg args vals as hpre hlay hrd hwl hlo;obtain rfl:dV=.none:=Dflts.none hD hdf;obtain rfl:kV=.none:=Dflts.noKw hD;obtain⟨a,vs,ns,rfl,rfl,hobj,hints,hlen⟩:=HX hn hpre hwl;refine enter_call<|gS (call w s₀ s₁ mg mb fa o pm cd doc a vs ns G Y ho (fd_plain hd) hcd hmg hobj hints hlen hg) λr s' hq=>?_;obtain⟨rfl,h2,h3,h4⟩:=hq;exact⟨.inl ⟨.bool true,.bool true,[],rfl,λ_=>rfl,.bool true,Hg l _,λ_=>⟨List.Pairwise.nil,λ_ hm=>(nomatch hm)⟩⟩,h2,h3,h4⟩
end Att
namespace L2
open PySem PySem.Spec PyProof.Rows
theorem yp:∀{vs:ar}{ns:ae},IntsAre vs ns->Vals (ns.map V.int) vs
 | _,_,.nil=>.nil
 | _,_,.cons n t h=>.cons ⟨t,rfl⟩<|yp h
abbrev NX (H:Hp):Prop:=∀b,H b=none\/∃o xs,H b=some (.frz o<|.lst xs)
def Iu{P:aj}{w:ah}{K:au}{mg mb:Str->bb}{CX:M4}{k:Nat}{fa a:ak}{x:Str}{sp:Sp}{s₁:aC}{vs:ar}{ns:ae}
  (KX:K.In s₁.heap) (hns:s₁.heap.Ns mainGlobals mg) (hb:s₁.heap.Ns builtinsNs mb) (hbb:∀x:Str,x ≠ "__name__" -> mb x=bootBuiltins x) (hlim:s₁.heap.NoLimit) (hg:s₁.gens=#[])
  (ha:s₁.heap.get? a=some { cls:=.type "list",data:=.seq vs.toArray }) (hi:IntsAre vs ns) (hl:ns.length<=sizeLine) (hr:Room k callerA)
  (F:∀base:aq,K.In base->base.Ns mainGlobals mg->FnOk P w K mg base CX k fa fd [x] sp) (hbind:∀(s:aC) (u:af),BindsTo s fd ⟨[u],[]⟩ [(x,u)])
  (hsp:∀H:Hp,NX H->ny K H a (ns.map V.int)->sp [.ref a] H (λv _=>v=.bl true) λ_ _ _=>False)
  (hCX:∀H e s',CX [] H s₁ (λ_ _ _=>False) e s'->False) :
  codeAny (model P w) callerA (.call (.ref fa) ⟨[.ref a],[]⟩) (λr s'=>r=.ok (.ret<|.bool true)/\OldK s₁.heap s'.heap/\s'.os=s₁.os/\AllBare s'.gens) s₁:=by
 have rv:=yp hi;have lenV:=hi.length;have core:∀H:Hp,NX H->ny K H a (ns.map V.int)->sY P w H s₁.heap->(∀b,H b≠none->b=a)->(H a≠none->K.lookup a=none) ->
   codeAny (model P w) callerA (.call (.ref fa) ⟨[.ref a],[]⟩) (λr s'=>r=.ok (.ret<|.bool true)/\OldK s₁.heap s'.heap/\s'.os=s₁.os/\AllBare s'.gens) s₁:=by
  intro H hO hS hok hA hK;have base_of:∀{b:ak} {o:Obj},s₁.heap.get? b=some o->H b=none->(zj s₁.heap H).get? b=some o:=λe n=>Ly e n;have noA:∀{b:ak} {o:Obj} {es:Array DictEntry} {ep:Nat},s₁.heap.get? b=some o->o.data=.dict es ep->H b=none:=λ{b o es ep} e d=>by
   cases q:H b with
   | none=>rfl
   | some u=>
    have e':b=a:=hA b (by rw[q];simp);subst e';rw[ha]at e;cases e;have d':Data.seq vs.toArray _=Data.dict es ep:=d
    cases d'
  have nsK:∀{b:ak} {m:Str->bb},s₁.heap.Ns b m->(zj s₁.heap H).Ns b m:=λ{b m} ⟨o,es,ep,e,d,r⟩=>⟨o,es,ep,base_of e<|noA e d,d,r⟩;have hKb:K.In (zj s₁.heap H):=λb o e=>base_of (KX b o e) (by
   cases q:H b with
   | none=>rfl
   | some u=>
    have e':b=a:=hA b (by rw[q];simp);subst e';rw[hK<|by rw[q];simp]at e;cases e)
  have hM:Mod K mg (zj s₁.heap H):=⟨hKb,nsK hns,⟨mb,nsK hb,hbb⟩,let⟨mc,h1,h2⟩:=hlim;⟨mc,nsK h1,h2⟩⟩;have e0:Env0 P w K mg (zj s₁.heap H) callerA [] s₁ H:=⟨rfl,hM,λb o e=>Pd e,Nat.le_of_eq<|HV _ _,trivial,λb hb=>absurd (show b∈([]:ba)from hb)<|by simp,hok,.of_eq hg⟩;refine gS ((F _ hKb<|nsK hns).run callerA [] s₁ H ⟨[.ref a],[]⟩ [.ref a] [.ref a] _ _ hr e0 (hbind s₁<|.ref a) (.cons rfl .nil)<|hsp H hO hS) λr s' h=>?_
  cases r with
  | error e=>exact(hCX H e s' h).elim
  | ok fl=>
   cases fl with
   | next=>exact False.elim h
   | brk=>exact False.elim h
   | cont=>exact False.elim h
   | ret u=>
    obtain⟨v,H',os,bare,un,hok',r',q⟩:=h;have q':v=.bl true:=q;subst q';obtain rfl:u=Value.bool true:=r';refine⟨rfl,OldK.of_keep λb o e=>?_,os,bare⟩
    cases q:H b with
    | none=>exact un.keep b o e q (by intro z;exact absurd (show b∈([]:ba)from z)<|by simp) (by simp)
    | some u=>
     rcases hO b with z|⟨ob,xs,z⟩
     ·rw[q]at z;cases z
     ·have z2:=un.frzs b ob _ z;obtain⟨e1,_⟩:=hok b _ z;obtain⟨e2,_⟩:=hok' b _ z2;rw[e]at e1;cases e1;exact e2
 cases hk:K.lookup a with
 | some o=>
  have e:=KX a o hk;rw[ha]at e
  cases e
  refine core (λ_=>none) (λ_=>.inl rfl) (.inr ⟨_,vs.toArray,_,hk,rfl,rfl,rfl,by rw[aW,lenV];exact hl,by simpa using rv⟩) (λb u z=>by have z':(none:Option HO)=some u:=z;cases z') (λb z=>absurd rfl z) λz=>absurd rfl z
 | none=>
  refine core (λb=>if b=a then some (.frz { cls:=.type "list",data:=.seq vs.toArray } (.lst<|ns.map V.int))else none) (λb=>?_) (.inl<|.inr ⟨{ cls:=.type "list",data:=.seq vs.toArray },aL rfl⟩) (λb u z=>?_) (λb z=>?_) λ_=>hk
  ·by_cases hb:b=a
   ·exact .inr ⟨_,_,aL hb⟩
   ·exact .inl<|aJ hb
  ·by_cases hb:b=a
   ·have z':=(aL hb).symm.trans z
    cases z'
    subst hb;exact⟨ha,by rw[aK];exact hl,vs,_,rv,ha⟩
   ·have z':=(aJ hb).symm.trans z
    cases z'
  ·by_cases hb:b=a
   ·exact hb
   ·exact absurd (aJ hb) z
def N6{l:PySem.W.OpenLaw}{n k:Nat}{q:aj}{XP:(Str->bb)->aq->Prop}{YP:ah->aq->Prop}{d:DefRec}{K:Params->au}{CX:ah->M4}{sp:ah->Sp}{x:Str}
  (hn:l.most=some n) (hn2:n<=sizeLine) (hdf:d.params.defaults=[]) (hr:Room k callerA)
  (hY:∀(w:ah) (h:aq),YP w h->(K w.params).In h)
  (F:∀(w:ah) (mg:Str->bb) (fa:ak) (h:aq),(K w.params).In h->h.Ns mainGlobals mg->mg d.name=some (.ref fa) ->
   ∃fd:FuncData,(∀(s:aC) (u:af),BindsTo s fd ⟨[u],[]⟩ [(x,u)]) /\
    ∀base:aq,(K w.params).In base->base.Ns mainGlobals mg->FnOk l.prog w (K w.params) mg base (CX w) k fa fd [x] (sp w))
  (hsp:∀(w:ah) (H:Hp) (a:ak) (ns:ae),ns.length<=n->NX H->ny (K w.params) H a (ns.map V.int)->sp w [.ref a] H (λv _=>v=.bl true) λ_ _ _=>False)
  (hCX:∀(w:ah) (H:Hp) (s:aC) (e:af) (s':aC),CX w [] H s (λ_ _ _=>False) e s'->False) :
  PySem.W.WalkO q loose XP YP l.row.toRowW d [] (λf vs=>PySem.call f vs):=by
 refine Att.Ce hn hdf λw s₀ s₁ mg mb fa o pm cd doc a vs ns G Y ho hd hcd hmg hobj hints hlen hg=>?_;have KX:=hY w _ Y;obtain⟨fd,hb,hF⟩:=F w mg fa _ KX G.T.g hmg;exact Iu KX G.T.g G.T.b G.T.builtins G.T.nolimit hg hobj hints (bP hlen hn2) hr hF hb (λH hO hS=>hsp w H a ns hlen hO hS) λH e s'=>hCX w H s₁ e s'
abbrev rD (s:aF):Arguments:=match s with
 | .FunctionDef _ a _ _ _ _ _ _ _ _=>a
 | _=>{ posonlyargs:=[],args:=[],vararg:=none,kwonlyargs:=[],kw_defaults:=[],kwarg:=none,defaults:=[]}
abbrev nY (s:aF):List aF:=match s with
 | .FunctionDef _ _ b _ _ _ _ _ _ _=>b
 | _=>[]
abbrev iS (s:aF):Scope:=match s with
 | .FunctionDef _ _ _ _ _ _ sc _ _ _=>sc
 | _=>{ kind:=.function,names:=[],isGenerator:=false,isCoroutine:=false }
meta abbrev nW:M4:=λ_ _ _ _ _ _=>False
meta abbrev E0:XK:=λ_ _ _=>False
def Uq{X:Cx}:Passes nW X E0:=λ_ _ _ _ _ _ _ h=>h.elim
structure Fun (K:au)(x qual:Str)(st:aF)(f:ak)(fd:FuncData):Prop where
 ex:∃(oc:af) (od:Option ak) (kV doc pm:af) (an:Option ak) (cdv ct:af) (osl:Array<|bb),
  fd=PySem.W.fnOf x qual (rD st) (nY st) (iS st) .none kV doc pm an cdv ct/\K.lookup f=some ⟨oc,od,.func fd,osl⟩/\PySem.W.codeIn K cdv qual=true
 kp:PySem.W.keepIn K (.ref f)=true
section
variable {P:aj}{w:ah}{K:au}{mg:Str->bb}{base:aq}
def Fun.ok{x:Str}{st:aF}{f:ak}{N ps:ap}{k:Nat}{sp:Sp}(F:Fun K x qual st f fd)(S:FnScope N ps<|iS st)(len:∀vs H Q E,sp vs H Q E->vs.length=ps.length)
  (hbody:∀(cdv:af) (A:aA) (outer:List Env) (s:aC) (H:Hp) (vs:List V) (Q:VK) (E:XK),Room k (A.deeper<|envOfC qual (iS st) s.heap.objs.size f cdv)->sp vs H Q E ->
   ∃t,Av (CZ nW P w K mg base N qual (iS st) f cdv A outer s H E).U7 (nY st) t/\t { nx:=λ_ H'=>Q .non H',rt:=Q } (start N vs) H):FnOk P w K mg base nW (k+1) f fd ps sp:=by
 obtain⟨oc,od,kV,doc,pm,an,cdv,ct,osl,rfl,lk,hcd⟩:=F.ex;refine U6 lk hcd S len λA outer s H vs Q E hr hsp=>?_;obtain⟨t,h,q⟩:=hbody cdv A outer s H vs Q E hr hsp;exact⟨t,h.U7,q⟩
def Fun.binds{x:Str}{st:aF}{f:ak}{ps:ap}(F:Fun K x qual st f fd)
  (h:∀(kV doc pm:af) (an:Option ak) (cdv ct:af) (us:ar),us.length=ps.length->bindArgs (PySem.W.fnOf x qual (rD st) (nY st) (iS st) .none kV doc pm an cdv ct) ⟨us,[]⟩=pure (ps.zip us)):Binds K fd ps []:=by
 obtain⟨oc,od,kV,doc,pm,an,cdv,ct,osl,rfl,lk,hcd⟩:=F.ex;exact .all<|h kV doc pm an cdv ct
def Sw{x:Str}{st:aF}{f:ak}{kV pm ct:af}(l:K.lookup f=some ⟨oc,od,.func<|PySem.W.fnOf x qual (rD st) (nY st) (iS st) .none kV doc pm an cdv ct,osl⟩)
  (c:PySem.W.codeIn K cdv qual=true) (k:PySem.W.keepIn K (.ref f)=true):Fun K x qual st f (PySem.W.fnOf x qual (rD st) (nY st) (iS st) .none kV doc pm an cdv ct):=⟨⟨oc,od,kV,doc,pm,an,cdv,ct,osl,rfl,l,c⟩,k⟩
end
section
variable {X:Cx}
def pv(i:Nat){x:Str}(hN:X.N[i]?=some x:=by rfl)(hv:TY X.env.scope x:=by first|exact Or.inl rfl|exact Or.inr (Or.inl rfl)|exact Or.inr<|Or.inr rfl)(hd:(x == ("__debug__" : Str))=false:=by decide)
  (hcd:(x == ("__classdict__" : Str))=false:=by decide):PE X (.Name x pos) (T6 i):=K3 hN hv hd hcd
end
set_option maxHeartbeats 4000000
abbrev OF (σ:St):bj->Option V
 | some j=>(σ[j]?).getD none
 | none=>none
abbrev vh (env:Env):List (Str×NameKind)->List (Str×ak)->List (Str×ak)
 | [],cs=>cs
 | (n,k)::r,cs=>vh env r (if k == .free then(n,(env.cells.lookup n).getD 0)::cs else cs)
def xH{scope:Scope}{env:Env}(h:∀y∈scope.names,y.2=.free->∃c,env.cells.lookup y.1=some c):closureFor scope env=pure (vh env scope.names []):=by
 have key:∀(l:List<|Str×NameKind) (cs:List<|Str×ak),(∀y∈l,y.2=.free->∃c,env.cells.lookup y.1=some c) ->
   (forIn l cs (λ(x:Str×NameKind) (r:List<|Str×ak)=>(match x with
    | (name,kind)=>if (kind == NameKind.free)=true then(do let c <- cellOf env name;pure (ForInStep.yield ((name,c)::r)))else pure (ForInStep.yield r):Sem<|ForInStep<|List<|Str×ak)))=(pure (vh env l cs):Sem<|List<|Str×ak):=by
  intro l
  induction l with
  | nil=>intro cs _;rfl
  | cons y r ih=>
   intro cs hl;obtain⟨n,k⟩:=y;rw[List.forIn_cons];by_cases hk:k=.free
   ·subst hk;obtain⟨c,hc⟩:=hl (n,.free) aN rfl;have e1:cellOf env n=pure c:=by
     unfold cellOf;rw[hc]
    dsimp[bK,cE,e1,pure_bind];rw[ih _ λz hz=>hl z<|aP _ hz];dsimp[vh,bK,cE,hc,eL]
   ·have hb:(k == NameKind.free)=false:=by simpa using hk
    dsimp[hb,aZ,bN,pure_bind];rw[ih _ λz hz=>hl z<|aP _ hz];dsimp[vh,hb,aZ,bN]
 have:=key scope.names [] h;exact(dj (λz=>z >>= λcs=>(pure cs:Sem<|List<|Str×ak)) this).trans (pure_bind _ _)
theorem yc:∀{l:List<|Str×NameKind}{x:Str}{k:NameKind},l.lookup x=some k->(x,k)∈l
 | [],_,_,h=>nomatch h
 | (n,k')::r,x,k,h=>by
  rw[fF]at h
  cases hx:x == n with
  | true=>
   rw[hx]at h;have e:x=n:=by simpa using hx
   subst e
   cases h
   exact aN
  | false=>rw[hx]at h;exact aP _<|yc h
theorem yt{env:Env}{x:Str}{c:ak}:∀{l:List<|Str×NameKind}{cs:List<|Str×ak},(∀y∈l,y.2=.free->∃c,env.cells.lookup y.1=some c)->(vh env l cs).lookup x=some c->env.cells.lookup x=some c\/cs.lookup x=some c
 | [],cs,_,h=>.inr h
 | (n,k)::r,cs,hl,h=>by
  have h':=yt (l:=r) (λz hz=>hl z<|aP _ hz) h
  rcases h' with h'|h'
  ·exact .inl h'
  ·by_cases hk:k=.free
   ·subst hk;dsimp[bK,cE]at h';obtain⟨c',hc⟩:=hl (n,.free) aN rfl;rw[hc,eL,fF]at h'
    cases hx:x == n with
    | true=>
     rw[hx]at h';have e:x=n:=by simpa using hx
     subst e;left;rw[hc];exact h'
    | false=>rw[hx]at h';exact .inr h'
   ·have hb:(k == NameKind.free)=false:=by simpa using hk
    dsimp[hb,aZ,bN]at h';exact .inr h'
theorem zd{env:Env}{x:Str}:∀{l:List<|Str×NameKind}{cs:List<|Str×ak},(cs.lookup x).isSome=true->((vh env l cs).lookup x).isSome=true
 | [],cs,h=>h
 | (n,k)::r,cs,h=>by
  skip
  refine zd (l:=r) ?_;by_cases hk:(k == NameKind.free)=true
  ·rw[aL hk,fF]
   cases hx:x == n with
   | true=>rfl
   | false=>exact h
  ·rw[aJ hk];exact h
theorem wG{env:Env}{x:Str}:∀{l:List<|Str×NameKind}{cs:List<|Str×ak},(x,NameKind.free)∈l->((vh env l cs).lookup x).isSome=true
 | [],_,h=>nomatch h
 | (n,k)::r,cs,h=>by
  rcases bJ.mp h with e|h
  ·cases e
   skip
   refine zd (l:=r) ?_;rw[aL<|by rfl,fF];simp
  ·exact wG (l:=r) h
abbrev jU (X:Cx)(scope:Scope)(N:ap)(C:ak)(s₀:aC)(H₀:Hp)(ex:ba):Cx where
 prog:=X.prog
 w:=X.w
 K:=X.K
 mg:=X.mg
 base:=X.base
 A:=X.A
 N:=N
 s₀:=s₀
 H₀:=H₀
 env:=compEnvC scope (vh X.env scope.names []) C X.env
 outer:=X.stack
 stack:=X.stack
 ex:=ex
 fn:=λ_=>false
 calm:=X.calm
 pn:=[]
 xe:=λ_ _=>False
structure CpScope (X:Cx)(scope:Scope)(N:ap)(cap:List (bj)):Prop where
 kind:scope.kind=.function
 nocell:∀y∈scope.names,y.2≠.cell
 nm:∀y∈scope.names,y.2=.local->scope.names.lookup y.1=some .local
 fr:∀y∈scope.names,y.2=.free->X.env.kindOf y.1=some .cell\/X.env.kindOf y.1=some .free
 rl:∀y,((relabel scope X.env).names.lookup y=some .cell\/(relabel scope X.env).names.lookup y=some .free)->(y,NameKind.free)∈scope.names
 len:cap.length=N.length
 nolf:∀x,(x,NameKind.free)∈scope.names->scope.names.lookup x≠some .local
 cp:∀(i j:Nat) (x:Str),N[i]?=some x->cap[i]?=some (some j)->X.N[j]?=some x/\(x,NameKind.free)∈scope.names
def Kz{X:Cx}{N:ap}{cap:List<|bj}{H:Hp}{s:aC}{fp:ba}{h₁:aq}{m:Str->bb}{tk:Nat}(S:CpScope X scope N cap)(I:Inv X pins σ H s)
  (hf:∀b∈fp,qp X pins H b) (ho:∀b∈fp,∃o,s.heap.get? b=some o) (hn:h₁.Ns s.heap.objs.size m) (hk:∀b o,s.heap.get? b=some o->h₁.get? b=some o) :
  Inv (jU X scope N s.heap.objs.size s H fp) [] (cap.map<|OF σ) H { s with heap:=h₁,toks:=tk }:=by
 kcj_m;have lk:∀x c,(vh X.env scope.names []).lookup x=some c->X.env.cells.lookup x=some c:=λx c e=>by
  rcases yt hfree e with z|z
  ·exact z
  ·cases z
 have lt:∀b o,s.heap.get? b=some o->b≠s.heap.objs.size:=λb o e=>bD<|br e;refine⟨⟨I.ok.mod,?_,I.ok.glob,I.ok.blt,aQ _,?_,?_,?_,I.ok.hd,I.ok.frames,.inl rfl,?_,I.bs,bP I.ok.bsz I.sz,?_,?_,I.stack,I.GL⟩,rfl,I.bare,Un.kept hk,?_,?_,I.hok.fresh<|aQ _,?_,?_,I.hok.kept hk,?_⟩
 ·exact S.kind
 ·intro x y c e1 e2;exact I.ok.inj x y c (lk x c e1) (lk y c e2)
 ·intro x e;have hm:=S.rl x e;have:=wG (env:=X.env) (cs:=[]) hm;exact fL.mp this
 ·intro x c e _;exact absurd e (by simp[jU])
 ·intro b hb;obtain⟨o,e⟩:=ho b hb;refine⟨lt b o e,λx c e2=>(hf b hb).2.2.2.2.1 x c<|lk x c e2⟩
 ·intro b o e hb;obtain⟨_,_,_,h3,_⟩:=hf b hb
  rcases h3 with z|z
  ·exact I.ok.noex b o e z
  ·exact absurd (bM (br (I.ok.bs b o e).1) z)<|eX _
 ·intro b hb hz;obtain⟨_,h1,h2,_⟩:=hf b hb
  rcases bJ.mp (I.CG b hz)with z|z
  ·exact h1 z
  ·exact h2 z
 ·refine⟨m,hn,λi x v e1 e2 e3=>?_⟩;rw[bh]at e2
  cases hc:cap[i]? with
  | none=>rw[hc]at e2;cases e2
  | some oj=>
   rw[hc]at e2
   cases oj with
   | none=>cases e2
   | some j=>
    have e2':(σ[j]?).getD none=some v:=aU e2;obtain⟨hj,hm⟩:=S.cp i j x e1 hc;obtain⟨m0,hn0,hl0⟩:=I.loc;have hσ:σ[j]?=some (some v):=by
     cases h:σ[j]? with
     | none=>rw[h]at e2';cases e2'
     | some z=>rw[h,eL]at e2';rw[e2']
    have hkd:=S.fr (x,.free) hm rfl;have hv:TY X.env.scope x:=.inr hkd;obtain⟨u,ru,lo⟩:=hl0 j x v hj hσ hv;refine⟨u,ru,?_⟩
    rcases lo with⟨lo,_⟩|⟨_,c,ec,ic⟩
    ·rcases hkd with z|z<;>(rw[z]at lo;cases lo)
    ·have h2:=wG (env:=X.env) (cs:=[]) hm;obtain⟨c',hc'⟩:=fL.mp h2;have:c'=c:=aU<|(lk x c' hc').symm.trans ec;subst this;refine .inr ⟨?_,c',hc',?_⟩
     ·rcases e3 with z|z|z
      ·exfalso;have:(relabel scope X.env).names.lookup x=some .local:=z;have hloc:scope.names.lookup x=some .local:=by
        have hmem:∃k,(x,k)∈(relabel scope X.env).names/\k=.local:=by
         clear hc' h2;have:=yc this;exact⟨_,this,rfl⟩
        obtain⟨k,hk1,rfl⟩:=hmem;obtain⟨⟨n',k'⟩,hm1,hm2⟩:=bW.mp hk1;dsimp only at hm2;split at hm2
        ·cases hm2
        ·cases hm2
         exact S.nm (x,.local) hm1 rfl
       exact False.elim<|S.nolf x hm hloc
      ·exact .inl z
      ·exact .inr z
     ·obtain⟨o,ho',hd⟩:=ic;exact⟨o,hk _ _ ho',hd⟩
 ·intro x c e;obtain⟨v,o,ho',hd⟩:=I.cell x c<|lk x c e;exact⟨v,o,hk _ _ ho',hd⟩
 ·intro x c e;exact I.freeC x c (lk x c e)
 ·intro p hp
  cases hp
 ·rw[aK,S.len];rfl
abbrev Ob (X:Cx)(ifs:List aE)(t:TT):Prop:=
 ∀(pins:bn) (s:aC) (σ:St) (H:Hp) (Q:Bool->Hp->Prop),Inv X pins σ H s->t σ H Q ->
  wpAny (model X.prog X.w) X.A (forIn ifs true λc r=>if r=true then do let ok <- isTrue c X.env (eval c X.env);pure (ForInStep.yield ok)else pure (ForInStep.yield r)) (TP X pins σ Q) X.xe s
abbrev Wj:TT:=λ_ H Q=>Q true H
def Nj{X:Cx}:Ob X [] Wj:=λ_ _ _ H _ I h=>wpAny_tests_nil ⟨H,I,h⟩
def Np{X:Cx}{c:aE}{t:TT}(h:PT X c t):Ob X [c] t:=λpins s σ H Q I q=>wpAny_tests_one<|h pins s σ H Q I q
abbrev QJ (cap:List<|bj)(g:TG)(tc:TT)(te:TE)(σ:St)(Q:VK)(J:It)(H1:Hp):Prop:=∀D,H1 D=none ->
 ∃W:Nat->Nat->St->Hp->Prop,(∃m,W 0 m (cap.map<|OF σ)<|upd H1 D<|.lst [])/\∀i m σ' H',W i m σ' H' ->
  (J.stop i H'/\Q (.ref D) H')\/(J.go i H'/\∀x H2,J.yld i H' x H2->g x σ' H2 λσ3 H3=>tc σ3 H3 λb H4=>
   if b=true then te σ3 H4 λy H5=>∃ys,H5 D=some (.lst ys)/\ys.length<sizeLine/\∃m',m'<m/\W (i+1) m' σ3 (upd H5 D<|.lst<|ys++[y])
   else ∃m',m'<m/\W (i+1) m' σ3 H4)
abbrev V6 (cap:List<|bj)(wi:TI)(g:TG)(tc:TT)(te:TE):TE:=λσ H Q=>wi σ H<|QJ cap g tc te σ Q
def zY{α:Type}{t:Sem α}{Q Q':α->aC->Prop}{A:aA}{E:af->aC->Prop}(h:wpAny M A t Q (λ_ _=>False) s)(hQ:∀a s,Q a s->Q' a s):wpAny M A t Q' E s:=
 fP h hQ λ_ _ f=>f.elim
structure TurnG (ok:Cx->Prop)(P:aj)(w:ah)(K:au)(tg:aE)(J:It)(fp:ba)(it:ak)(tn:Nat->aq->Prop):Prop where
 obj:∀i h,tn i h->∀b∈fp,∃o,h.get? b=some o/\∀v,o.data≠.cell v
 keep:∀i h h',tn i h->(∀b∈fp,∀o,h.get? b=some o->h'.get? b=some o)->tn i h'
 item:∀(X:Cx),X.prog=P->X.w=w->X.K=K->ok X->∀(i:Nat) (pins:bn) (s:aC) (σ:St) (H:Hp) (E:af->aC->Prop),Inv X pins σ H s->(∀b∈fp,qp X pins H b)->tn i s.heap->J.go i H ->
  wpAny (model P w) X.A (pyNext<|.ref it) (λr s1=>∃u,r=some u /\
   wpAny (model P w) X.A (letOwnedTupleGo tg (.ref it) u) (λ_ s2=>∃x H',Inv X pins σ H' s2/\RelV x u/\J.yld i H x H'/\tn (i+1) s2.heap/\∀b∈fp,H' b=none) E s1) E s
 done:∀(X:Cx),X.prog=P->X.w=w->X.K=K->ok X->∀(i:Nat) (pins:bn) (s:aC) (σ:St) (H:Hp) (E:af->aC->Prop),Inv X pins σ H s->(∀b∈fp,qp X pins H b)->tn i s.heap->J.stop i H ->
  wpAny (model P w) X.A (pyNext<|.ref it) (λr s1=>r=none/\Inv X pins σ H s1) E s
 self:∀(A:aA) (i:Nat) (s:aC) (Q:af->aC->Prop) (E:af->aC->Prop),tn i s.heap->Q (.ref it) s->wpAny (model P w) A (pyIter<|.ref it) Q E s
abbrev W_ (ok:Cx->Prop)(X:Cx)(pins:bn)(σ:St)(tg:aE)(R:It->Hp->Prop)(itv:af)(s2:aC):Prop:=
 ∃(it:ak) (fp:ba) (tn:Nat->aq->Prop) (J:It) (H':Hp),itv=.ref it/\Inv X pins σ H' s2/\TurnG ok X.prog X.w X.K tg J fp it tn/\tn 0 s2.heap/\(∀b∈fp,qp X pins H' b)/\R J H'
abbrev W8 (ok:Cx->Prop)(X:Cx)(tg iter:aE)(wi:TI):Prop:=
 ∀(pins:bn) (s:aC) (σ:St) (H:Hp) (R:It->Hp->Prop),Inv X pins σ H s->wi σ H R ->
  wpAny (model X.prog X.w) X.A (eval iter X.env) (λv s1=>wpAny (model X.prog X.w) X.A (pyIter v) (W_ ok X pins σ tg R) X.xe s1) X.xe s
def PI.g{X:Cx}{iter:aE}{wi:TI}(h:PI X tg iter wi):W8 (λY=>Y.calm=true) X tg iter wi:=λpins s σ H R I q=>
 jM (h pins s σ H R I q) λv s1 h1=>jM h1 λitv s2 ⟨it,fp,tn,J,H',e,I',T,a,b,c⟩=>⟨it,fp,tn,J,H',e,I',⟨T.obj,T.keep,T.item,T.done,T.self⟩,a,b,c⟩
def NR{ok:Cx->Prop}{X:Cx}{use:Option<|af->Sem Unit}{Q':af->aC->Prop}{iter:aE}{N:ap}{wi:TI}{g:TG}{tc:TT}{te:TE}(S:CpScope X scope N cap)(hok:∀C s₀ H₀ ex,(∀a o u,X.H₀ a=some (.frz o u)->H₀ a=some (.frz o u))->ok (jU X scope N C s₀ H₀ ex))(hi:W8 ok X tg iter wi)
  (hg:∀C s₀ H₀ ex,PG (jU X scope N C s₀ H₀ ex) tg g) (ht:∀C s₀ H₀ ex,Ob (jU X scope N C s₀ H₀ ex) ifs tc) (he:∀C s₀ H₀ ex,PE (jU X scope N C s₀ H₀ ex) elt te)
  (hs:∀x,foldedSetIterable iter X.env x=pure x:=by intro _;rfl):∀(pins:bn) (s:aC) (σ:St) (H:Hp) (Q:VK),Inv X pins σ H s->V6 cap wi g tc te σ H Q ->
  (∀(s6:aC) (C D:ak) (H5:Hp) (m:Str->bb),s6.heap.Ns C m->qp X pins H5 C->(∀h',Heap.SameBut C s6.heap h'->Inv X pins σ H5 { s6 with heap:=h' })->Q (.ref D) H5->∀v,compPost (model X.prog X.w) X.A X.xe use Q' (.ref D) C (.ok v) s6) ->
  wpAny (model X.prog X.w) X.A (comprehension (.ListComp elt [⟨tg,iter,ifs,0⟩] scope pos) scope X.env (firstIterPos [⟨tg,iter,ifs,0⟩] pos) (newList []) (firstAsync [⟨tg,iter,ifs,0⟩]) (firstIter [⟨tg,iter,ifs,0⟩] X.env) use) Q' X.xe s:=by
 intro pins s σ H Q I h hfin;kcj_m;refine wpAny_comprehension_free (use:=use) rfl hs (xH hfree) S.kind S.nm<|jM (hi pins s σ H _ I h) λxv s1 h1=>jM h1 λitv s2 h2=>?_;obtain⟨it,fp,tn,J,H2,rfl,I2,T,st2,f2,h2⟩:=h2;refine bQ (wpAny_newFunctionEnv S.nocell (by intro y hy;simp at hy) (λh₁ hns₁ hsb₁=>?_) S.kind);obtain⟨W,⟨m0,w0⟩,turn⟩:=h2 s2.heap.objs.size I2.fresh;dsimp only at hns₁ hsb₁ ⊢;have I3:Inv X pins σ (upd H2 s2.heap.objs.size<|.lst []) { s2 with heap:=s2.heap.push {}}:=I2.Iq (t':=s2.toks) (its:=[]) .nil<|cL _;have hfp:∀b∈fp,∃o,s2.heap.get? b=some o:=λb hb=>by
  obtain⟨o,e,_⟩:=T.obj 0 _ st2 b hb;exact⟨o,e⟩
 have neD:∀b∈fp,b≠s2.heap.objs.size:=λb hb=>by
  obtain⟨o,e⟩:=hfp b hb;exact bD<|br e
 have f3:∀b∈fp,qp X pins (upd H2 s2.heap.objs.size<|.lst []) b:=λb hb=>⟨by rw[iR<|neD b hb];exact(f2 b hb).1,(f2 b hb).2⟩;have hDC:s2.heap.objs.size≠(s2.heap.push {}).objs.size:=by rw[fY];exact bD (cO _)
 have old:∀b o,(s2.heap.push {}).get? b=some o->h₁.get? b=some o:=λb o e=>hsb₁.extBut b o (bD<|br e)<|aR _ e;have I4:=Kz (tk:=s2.toks+([]:List<|Str×af).length) (fp:=fp) S I3 f3 (λb hb=>by
  obtain⟨o,e⟩:=hfp b hb;exact⟨o,aR _ e⟩) hns₁ old
 have st4:tn 0 h₁:=T.keep _ _ _ st2 λb hb o e=>old b o<|aR _ e;have hc:=hok (s2.heap.push {}).objs.size { s2 with heap:=s2.heap.push {}} (upd H2 s2.heap.objs.size<|.lst []) fp λa o u e=>by
  have z:=I2.base.frzs a o u e;rw[iR λq=>by rw[q,I2.fresh]at z;cases z];exact z
 have stat:∀{H':Hp},(∀b∈fp,H' b=none)->∀b∈fp,qp (jU X scope N (s2.heap.push {}).objs.size { s2 with heap:=s2.heap.push {}} (upd H2 s2.heap.objs.size<|.lst []) fp) [] H' b:=λhn b hb=>by
  have ok:=I4.ok;refine⟨hn b hb,(ok.exf b hb).1,ok.exfs b hb,.inl hb,λx c e=>(ok.exf b hb).2 x c e,λp hp=>nomatch hp⟩
 have loop:∀s4:aC,s4={ s2 with heap:=h₁,toks:=s2.toks+([]:List<|Str×af).length } ->
   codeAny (model X.prog X.w) X.A (.compLoop (.ListComp elt [⟨tg,iter,ifs,0⟩] scope pos) 0 (.ref it) (.ref s2.heap.objs.size)<|compEnvC scope (vh X.env scope.names []) (s2.heap.push {}).objs.size X.env)
    (compPost (model X.prog X.w) X.A X.xe use Q' (.ref s2.heap.objs.size) (s2.heap.push {}).objs.size) s4:=by
  rintro s4 rfl;refine codeAny_loop rfl (λn s'=>∃i σ' H',Inv (jU X scope N (s2.heap.push {}).objs.size { s2 with heap:=s2.heap.push {}} (upd H2 s2.heap.objs.size<|.lst []) fp) [] σ' H' s'/\tn i s'.heap/\(∀b∈fp,H' b=none)/\W i n σ' H') (λn s5 hI=>?_) m0 ⟨0,_,_,I4,st4,λb hb=>(f3 b hb).1,w0⟩;obtain⟨i,σ5,H5,I5,st5,fr5,w5⟩:=hI
  skip
  refine wpAny_noted ?_;rw[compTurn_list];refine aH (eY<|aH ?_)
  rcases turn i n σ5 H5 w5 with⟨stop,q⟩|⟨go,step⟩
  ·refine jM (T.done (jU X scope N (s2.heap.push {}).objs.size { s2 with heap:=s2.heap.push {}} (upd H2 s2.heap.objs.size<|.lst []) fp) rfl rfl rfl hc i [] s5 σ5 H5 _ I5 (stat fr5) st5 stop) λr s6 h9=>?_;obtain⟨hr,I6⟩:=h9;subst hr;obtain⟨m6,hn6,_⟩:=I6.loc;refine aO<|hfin s6 _ _ H5 m6 hn6 (I3.DU (aQ _) I6.free) (λh' sb=>?_) q _;have u6:=I6.base;have nC:∀b o,(s2.heap.push {}).get? b=some o->b≠(s2.heap.push {}).objs.size:=λb o e=>bD<|br e;refine I3.Qe (ch:=fp) I6.os ⟨λb o e n hb hx=>?_,λb o e n hb hx=>?_,λb o e n hx=>?_,λb o e hx=>?_,u6.tups,u6.frzs,u6.tbls⟩ ?_ I6.bare ?_
   ·exact sb.extBut b o (nC b o e) (u6.keep b o e n hb hx)
   ·obtain⟨sl,z⟩:=u6.slot b o e n hb hx;exact⟨sl,sb.extBut b _ (nC b o e) z⟩
   ·exact u6.free b o e n hx
   ·obtain⟨o',z⟩:=u6.there b o e hx;exact⟨o',sb.extBut b _ (nC b o e) z⟩
   ·intro b o e;have hb:∀c v,H5 c=some v->c≠(s2.heap.push {}).objs.size:=λc v e z=>by
     rw[z]at e;have:=I6.free;rw[show H5 (s2.heap.push {}).objs.size=none from this]at e
     cases e
    refine(I6.hok b o e).stay (λc v hc q=>sb.extBut c v ?_ q) (λ_ q=>q) λ_ _ q=>q
    rcases hc with z|z
    ·rw[z];exact hb b o e
    ·exact hb c _ z
   ·intro b hb;obtain⟨_,z1,_,z3,z4,z5⟩:=f3 b hb;exact⟨z3,z1,z4,z5⟩
  ·refine jM (T.item (jU X scope N (s2.heap.push {}).objs.size { s2 with heap:=s2.heap.push {}} (upd H2 s2.heap.objs.size<|.lst []) fp) rfl rfl rfl hc i [] s5 σ5 H5 _ I5 (stat fr5) st5 go) λr s6 h9=>?_;obtain⟨u,hr,h6⟩:=h9;subst hr;refine aH<|jM h6 λ_ s7 ⟨x,H7,I7,r7,y7,st7,fr7⟩=>?_;have I7':=I7.pinned (stat fr7)<|T.obj _ _ st7;refine aH<|zY (hg _ _ _ fp _ s7 σ5 H7 x u _ I7' r7<|step x H7 y7) λ_ s8 ⟨σ8,H8,I8,q8⟩=>?_;refine aH<|zY (ht _ _ _ fp _ s8 σ8 H8 _ I8 q8) λok s9 ⟨H9,I9,q9⟩=>?_;have again:∀{s10:aC} {H10:Hp},Inv (jU X scope N (s2.heap.push {}).objs.size { s2 with heap:=s2.heap.push {}} (upd H2 s2.heap.objs.size<|.lst []) fp) ([]++sL fp s7.heap) σ8 H10 s10->(∃m',m'<n/\W (i+1) m' σ8 H10) ->
     ∃m,m<n/\∃i σ' H',Inv (jU X scope N (s2.heap.push {}).objs.size { s2 with heap:=s2.heap.push {}} (upd H2 s2.heap.objs.size<|.lst []) fp) [] σ' H' s10/\tn i s10.heap/\(∀b∈fp,H' b=none)/\W i m σ' H':=λ{s10 H10} I10 h9=>by
    obtain⟨m',hm,w10⟩:=h9;refine⟨m',hm,i+1,σ8,H10,I10.pV,T.keep _ _ _ st7 λb hb o e=>(I10.pin (b,o)<|bA _<|bA _<|kD hb e).1,λb hb=>?_,w10⟩;obtain⟨o,e,d⟩:=T.obj _ _ st7 b hb;exact(I10.pin (b,o)<|bA _<|bA _<|kD hb e).2.1
   cases ok with
   | false=>
    rw[aJ bH]at q9;exact aO ⟨rfl,again I9 q9⟩
   | true=>
    rw[aL rfl]at q9;refine aH<|aH<|zY (he _ _ _ fp _ s9 σ8 H9 _ I9 q9) λy s10 ⟨v10,H10,I10,r10,ys,hD,hz,w10⟩=>?_;refine aH<|zY (uM _ s10 σ8 H10 (.ref s2.heap.objs.size) [v10] _ [y] (λ_ H'=>H'=upd H10 s2.heap.objs.size (.lst<|ys++[v10])) I10 rfl (.cons r10 .nil) ⟨_,ys,v10,rfl,rfl,hD,hz,rfl⟩) λ_ s11 ⟨_,H11,I11,_,e11⟩=>?_;subst e11;exact aO<|aO ⟨rfl,again I11 w10⟩
 exact codeAny_compStart_list (loop _ rfl)<|T.self _ 0 _ _ _ st4<|loop _ rfl
def QI{ok:Cx->Prop}{X:Cx}{iter:aE}{N:ap}{wi:TI}{g:TG}{tc:TT}{te:TE}(S:CpScope X scope N cap)(hok:∀C s₀ H₀ ex,(∀a o u,X.H₀ a=some (.frz o u)->H₀ a=some (.frz o u))->ok (jU X scope N C s₀ H₀ ex))(hi:W8 ok X tg iter wi)
  (hg:∀C s₀ H₀ ex,PG (jU X scope N C s₀ H₀ ex) tg g) (ht:∀C s₀ H₀ ex,Ob (jU X scope N C s₀ H₀ ex) ifs tc) (he:∀C s₀ H₀ ex,PE (jU X scope N C s₀ H₀ ex) elt te)
  (hs:∀x,foldedSetIterable iter X.env x=pure x:=by intro _;rfl):PE X (.ListComp elt [⟨tg,iter,ifs,0⟩] scope pos) (V6 cap wi g tc te):=by
 w_up;rw[eval_ListComp];exact NR (use:=none) (Q':=EP X pins σ Q) S hok hi hg ht he hs pins s σ H Q I h λs6 C D H5 m hn fk inv q v=>⟨m,hn,λh' sb=>⟨.ref D,H5,inv h' sb,rfl,q⟩⟩
def Vu{X:Cx}{iter:aE}{N:ap}{wi:TI}{g:TG}{tc:TT}{te:TE}(hc:X.calm=true)(S:CpScope X scope N cap)(hi:PI X tg iter wi)
  (hg:∀C s₀ H₀ ex,PG (jU X scope N C s₀ H₀ ex) tg g) (ht:∀C s₀ H₀ ex,Ob (jU X scope N C s₀ H₀ ex) ifs tc) (he:∀C s₀ H₀ ex,PE (jU X scope N C s₀ H₀ ex) elt te)
  (hs:∀x,foldedSetIterable iter X.env x=pure x:=by intro _;rfl):PE X (.ListComp elt [⟨tg,iter,ifs,0⟩] scope pos) (V6 cap wi g tc te):=
 QI S (λ_ _ _ _ _=>hc) hi.g hg ht he hs
section
variable {X:Cx}
def RJ:lQ X (compareOp .Is) (λx y H Q=>∃a b,x=.bl a/\y=.bl b/\Q (.bl<|a == b) H):=by
 kd_p;obtain⟨a,b,rfl,rfl,q⟩:=h
 cases rx;cases ry
 exact is_bool ⟨.bl _,H,I,rfl,q⟩
def zQ:jk X (.type "range") (λxs H Q=>∃i j,xs=[.int i,.int j]/\∀p,H p=none->Q (.ref p) (upd H p<|.rng i j)):=by
 kt_k;obtain⟨i,j,rfl,q⟩:=h;obtain⟨u,w',rfl,⟨t,rfl⟩,⟨t',rfl⟩⟩:=vals2 r;refine call_range_2 ⟨.ref s.heap.objs.size,_,I.laid (o:=.rng i j) (λb o e=>aR _ e) (aQ _) ?_,rfl,q _ I.fresh⟩;exact⟨t,t',s.toks,bB _ rfl⟩
abbrev i7 (i j:Int):ae:=(List.range (j-i).toNat).map λk:Nat=>i+(k:Int)
def j0(i j:Int):(i7 i j).length=(j-i).toNat:=by unfold i7;rw[aK,cK]
def wZ{i:Int}{n:Nat}{acc:Array af}(h:ItemsOf (λk v=>∃t,v=Value.int (i+(k:Int) * 1) t) acc n):Vals (((List.range n).map λk:Nat=>i+(k:Int)).map V.int) acc.toList:=by
 obtain⟨hs,hv⟩:=h;have gen:∀(l:ar) (b:Nat),(∀j v,l[j]?=some v->∃t,v=Value.int (i+((b+j:Nat):Int)) t)->Vals (((List.range' b l.length).map λk:Nat=>i+(k:Int)).map V.int) l:=by
  intro l
  induction l with
  | nil=>intro b _;exact .nil
  | cons v l ih=>
   intro b hb;rw[bz,fG,bS,bS];refine .cons ?_ ?_
   ·obtain⟨t,e⟩:=hb 0 v rfl;exact⟨t,by rw[e];simp⟩
   ·refine ih (b+1) λj w hw=>?_;obtain⟨t,e⟩:=hb (j+1) w hw;exact⟨t,by rw[e,show b+(j+1)=b+1+j by lia]⟩
 have:=gen acc.toList 0 λj v hj=>by
  obtain⟨t,e⟩:=hv j v (by simpa using hj);exact⟨t,by rw[e,eo,Int.mul_one]⟩
 rw[cD,hs,<- dH]at this;exact this
def Kw{i j:Int}:Builtin.Range.rangeSize i j 1=(((j-i).toNat:Nat):Int):=by rw[rangeSize_one];split<;>omega
def yo(hc:X.calm=true):jk X (.type "list") (λxs H Q=>∃p i j,xs=[.ref p]/\H p=some (.rng i j)/\(-(2 ^ 62)<=i/\i<2 ^ 62/\-(2 ^ 62)<=j/\j<2 ^ 62)/\(j-i).toNat<=1000/\∀l,H l=none->Q (.ref l) (upd H l<|.lst<|(i7 i j).map V.int)):=by
 kt_k;obtain⟨p,i,j,rfl,hp,⟨b1,b2,b3,b4⟩,hn,q⟩:=h;kpf_c
 cases rx
 obtain⟨t,u',v,e⟩:=I.hok p _ hp;refine call_list_range (n:=(j-i).toNat) (I.ok.hd hc) e (small_one b1 b2 b3 b4) Kw () λh' tk acc' c' hk hS hacc=>?_;refine⟨.ref s.heap.objs.size,_,I.laid (o:=.lst<|(i7 i j).map V.int) hk (aQ _) ⟨?_,acc'.toList,c',wZ hacc,by rw[hS]⟩,rfl,q _ I.fresh⟩;rw[aK,j0,cR];lia
end
section
variable {X:Cx}
def u_{prog:aj}{w:ah}{A:aA}{E:af->aC->Prop}{s:aC}{Q:ar->aC->Prop}{r:ak}{a b c:Int}{v:Tok}{n:Nat}(hh:A.handled=none)(hr:IsRange s.heap r a b c t u v)(hsmall:Builtin.Range.small a b c=true)
  (hn:Builtin.Range.rangeSize a b c=n) (hlen:n<=2 ^ 24)
  (hQ:∀h' tk (acc':Array af),(∀b o,s.heap.get? b=some o->h'.get? b=some o)->ItemsOf (λi v=>∃t,v=.int (a+i * c) t) acc' n->Q acc'.toList { s with heap:=h',toks:=tk }) :
  wpAny (model prog w) A (collect<|.ref r) Q E s:=by
 unfold collect;refine aH<|wpAny_runValue<|gI F.entry_proto_collect ?_;rw[fu F.plain_proto_collect _]
 skip
 refine aH<|bQ ?_;refine aO ⟨plainId_quiet F.plain_list_iadd _,gI F.entry_list_iadd ?_⟩;rw[fu F.plain_list_iadd _]
 skip
 have hS:(s.heap.push {}).get? s.heap.objs.size=some { cls:=.type "list",data:=.seq #[] 0 }:=bB _ rfl;have fin':∀(h':aq) (tk:Nat) (acc':Array af) (c':Nat),(∀b o,b≠s.heap.objs.size->(s.heap.push {}).get? b=some o->h'.get? b=some o) ->
   h'.get? s.heap.objs.size=some { cls:=.type "list",dict:=none,data:=.seq acc' c',slots:=#[]}->ItemsOf (λi v=>∃t,v=.int (a+i * c) t) acc' n ->
   wpAny (model prog w) A (match Value.ref s.heap.objs.size with
   | Value.ref a=>do
    match (<- load a).data with
     | Data.seq xs _=>pure xs.toList
     | _=>unsupported "internal:collect"
   | _=>unsupported "internal:collect") Q E { s with heap:=h',toks:=tk }:=by
  intro h' tk acc' c' hk hS' hacc
  skip
  refine aH<|wpAny_load hS' ?_;refine aO ?_;exact hQ h' tk acc' (λb o e=>hk b o (bD<|br e)<|aR _ e) hacc
 refine fP (wpAny_extend_range (A:=A) (R:=λrr s'=>rr=.ok (.ret<|.ref s.heap.objs.size)/\∃h' tk acc' c',s'={ s with heap:=h',toks:=tk }/\(∀b o,b≠s.heap.objs.size->(s.heap.push {}).get? b=some o->h'.get? b=some o) /\
   h'.get? s.heap.objs.size=some { cls:=.type "list",dict:=none,data:=.seq acc' c',slots:=#[]}/\ItemsOf (λi v=>∃t,v=.int (a+i * c) t) acc' n)
  (s:={ s with heap:=s.heap.push {}}) hh (aR _ hr) hsmall hn hlen s.heap.objs.size (.ref s.heap.objs.size) 0 hS
  (λh' tk acc' c' hk hS' hacc=>⟨rfl,h',tk,acc',c',rfl,hk,hS',hacc⟩)) (λfin s' h=>?_) λe s' h=>?_
 ·cases fin with
  | done f=>
   obtain⟨e,h',tk,acc',c',rfl,hk,hS',hacc⟩:=h
   cases e
   exact fin' h' tk acc' c' hk hS' hacc
  | again c'=>exact⟨h.1,gS h.2 λr s'' hr=>by
    obtain⟨rfl,h',tk,acc',c',rfl,hk,hS',hacc⟩:=hr;exact fin' h' tk acc' c' hk hS' hacc⟩
 ·exact absurd h.1<|by simp
def rQ(l:ak){a b:Int}{v:Tok}{n:Nat}(hsmall:Builtin.Range.small a b 1=true)
  (hn:Builtin.Range.rangeSize a b 1=n) (hlen:n<=1000) :
  Meets (Builtin.«tuple.__new__» ⟨[.type "tuple",.ref l],[]⟩)
   (λA R s=>A.handled=none/\IsRange s.heap l a b 1 t u v/\∀(h':aq) (tk:Nat) (acc':Array af),(∀b o',s.heap.get? b=some o'->h'.get? b=some o')->ItemsOf (λi v=>∃t,v=.int (a+i * 1) t) acc' n->R (.ok<|.ret<|.ref h'.objs.size) { s with heap:=h'.push { cls:=.type "tuple",data:=.seq acc' },toks:=tk }):=
 .of_wp λprog w A R s h=>by
  obtain⟨hp,g,d,tk,os⟩:=s;obtain⟨hh,ht,h⟩:=h;have hsub:=sub_tuple_self;have hinit:=init_tuple_lookup;have hmh:=madeHere_tuple;have hT:Shared.TypeIs ⟨hp,g,d,tk,os⟩ (.ref l) "range" := ⟨_,ht,rfl⟩;have hh':A.in1.handled=none:=hh
  wp_walk using c6 ht,fX hT,u_ (A:=A.in1) hh' ht hsmall hn (by omega)
  intro h' tk' acc' hk hacc;show wpAny _ _ (Builtin.Tuple.tupleExact acc'.toList.toArray >>= λv=>ret v) _ _ _;unfold Builtin.Tuple.tupleExact;have e:acc'.toList.toArray=acc':=by simp
  refine aH (bQ ?_<|by show acc'.toList.toArray.size<=sizeLine;rw[e,hacc.1,cR];omega);refine aO ⟨_,rfl,?_⟩;rw[e];exact h h' tk' acc' hk hacc
def xO(hc:X.calm=true):jk X (.type "tuple") (λxs H Q=>∃p i j,xs=[.ref p]/\H p=some (.rng i j)/\(-(2 ^ 62)<=i/\i<2 ^ 62/\-(2 ^ 62)<=j/\j<2 ^ 62)/\(j-i).toNat<=1000/\∀l,H l=none->Q (.ref l) (upd H l<|.tup<|(i7 i j).map V.int)):=by
 kt_k;obtain⟨p,i,j,rfl,hp,⟨b1,b2,b3,b4⟩,hn,q⟩:=h;kpf_c
 cases rx
 obtain⟨t,u',v,e⟩:=I.hok p _ hp;refine callType_new F.called_tuple ⋯ (F.typeCall_tuple_1 _) (F.newCall_tuple_1 _) (λobj=>gD obj _) F.entry_tuple_new
  (rQ (n:=(j-i).toNat) p (small_one b1 b2 b3 b4) Kw hn) ⟨I.ok.hd hc,e,λh' tk acc' hk hacc=>⟨⟨_,bB _ rfl,rfl⟩,?_⟩⟩
 have I1:Inv X pins σ H { s with heap:=h',toks:=tk }:=I.kept hk;refine⟨.ref h'.objs.size,_,I1.laid (t':=tk) (o:=.tup<|(i7 i j).map V.int) (λb o e=>aR _ e) (aQ _) ⟨?_,acc'.toList,wZ hacc,?_⟩,rfl,q _<|I1.hok.fresh<|aQ _⟩
 ·rw[aK,j0,cR];lia
 ·have e:acc'.toList.toArray=acc':=by simp
  rw[e];exact lU.new _ _
abbrev WD (K:au)(te:TE):TE:=λσ H Q=>te σ H λx H1=>∃a xs,x=.ref a/\ny K H1 a xs/\∀p,H1 p=none->Q (.ref p) (upd H1 p<|.lst xs.reverse)
def N_{e:aE}{te:TE}{up cp:Pos}{kk:Nat}(he:PE X e te):PE X (.Subscript e (.Slice none none (some<|.UnaryOp .USub (.Constant (.int 1) kk cp) up) p2) pos) (WD X.K te):=by
 w_up;refine Subscript_<|jM (he pins s σ H _ I h) λv s1 ⟨x,H1,I1,r1,a,xs,ex,hq,q⟩=>?_;subst ex
 cases r1
 refine wpAny_Slice ?_;rw[g_];refine aO ?_;refine aO ?_;rw[evalPart_some];refine jM ((Lu (a:=.Constant (.int 1) kk cp) C1 CO) pins s1 σ H1 (λv H'=>v=.int (-1)/\H'=H1) I1 ⟨1,rfl,rfl,rfl⟩) λvs s3 h9=>?_;obtain⟨y,H3,I3,r3,ey,eH⟩:=h9;subst ey eH;obtain⟨t,rfl⟩:=r3;have I4:Inv X pins σ H3 { s3 with heap:=s3.heap.push { cls:=.type "slice",data:=.fields #[.none,.none,.int (-1) t]}}:=I3.kept (t':=s3.toks) λb ob q=>aR _ q;obtain⟨its,rv,pl,hz⟩:=I4.list hq
 skip
 refine tail_any (ops:=[.ref a,.ref s3.heap.objs.size]) pl.isList.typeIs g6.lookup ?_ (by with_unfolding_all rfl);have hlen:=rv.length;refine wpAny_getItem_list_slice pl.isList (gW ..) .none .none (.int (-1) t) ⋯ ?_ (by rw[aW]<;>lia);rw[PySem.W.krv_pick];refine⟨.ref _,_,I4.Iq (t':=s3.toks) (ys:=xs.reverse) (its:=its.reverse) rv.reverse<|by rw[cF];exact hz,rfl,q _ I4.fresh⟩
def B_{c:String}:jk X (.builtin "isinstance") (λxs H Q=>∃x t b,xs=[x,.ty c]/\TyOf X.K H x t/\PySem.W.kitOne X.K t (.type c)=some b/\Q (.bl b) H):=by
 kt_k;obtain⟨x,t,b,rfl,ty,e,q⟩:=h;obtain⟨u,w',rfl,rx,rc⟩:=vals2 r
 cases rc
 exact HL I rx ty e λtk=>⟨.bl b,H,I.tok tk,rfl,q⟩
abbrev SY (K:au):R2:=λx y H Q=>∃a b ys,x=.ref a/\y=.ref b/\lO K H a []/\lO K H b ys/\Q (.ref b) H
def Mt:lQ X (binaryOp .Add) (SY X.K):=by
 kd_p;obtain⟨a,b,ys,rfl,rfl,h1,h2,q⟩:=h
 cases rx
 cases ry
 obtain⟨us,r1,p1,_⟩:=I.tuple h1;obtain⟨ws,r2,p2,_⟩:=I.tuple h2
 cases r1
 obtain⟨⟨cls,dd,data,sl⟩,ho,hc,n,hd⟩:=id p1;obtain⟨⟨cls2,dd2,data2,sl2⟩,ho2,hc2,n2,hd2⟩:=id p2;simp only at hc hd hc2 hd2;subst hc hd hc2 hd2;exact concat_meets ⟨_,ho,rfl⟩ ⟨_,ho2,rfl⟩ noFill_tuple_add seq_tuple_add fW fV (fM _ _)
   (tuple_addW0 a b _ ws.toArray n n2 dd dd2 sl sl2<|by simp) ⟨ho,ho2,⟨.ref b,H,I,rfl,q⟩⟩
end
def jO:bootBuiltins "len" = some (.builtin "len"):=by decide +kernel
def Kx:bootBuiltins "max" = some (.builtin "max"):=by decide +kernel
def Tf:bootBuiltins "min" = some (.builtin "min"):=by decide +kernel
def G1:bootBuiltins "sorted" = some (.builtin "sorted"):=by decide +kernel
def rY:bootBuiltins "isinstance" = some (.builtin "isinstance"):=by decide +kernel
def IL:bootBuiltins "int" = some (.type "int"):=by decide +kernel
def OE:bootBuiltins "bool" = some (.type "bool"):=by decide +kernel
def Gw:bootBuiltins "list" = some (.type "list"):=by decide +kernel
def qw:bootBuiltins "tuple" = some (.type "tuple"):=by decide +kernel
def A0:bootBuiltins "range" = some (.type "range"):=by decide +kernel
structure Blt (mg:Str->bb):Prop where
 len:mg "len" = none
 abs:mg "abs" = none
 all:mg "all" = none
 any:mg "any" = none
 max:mg "max" = none
 min:mg "min" = none
 sorted:mg "sorted" = none
 isinstance:mg "isinstance" = none
 int:mg "int" = none
 bool:mg "bool" = none
 str:mg "str" = none
 list:mg "list" = none
 tuple:mg "tuple" = none
 range:mg "range" = none
def O0:∀{a b:ae},a.Perm b->a.Pairwise (·<=·)->b.Pairwise (·<=·)->a=b:=λp ha hb=>
 List.Perm.eq_of_pairwise (λx y _ _ h1 h2=>gJ h1 h2) ha hb p
def E2(i j:Int):(i7 i j).Pairwise (·<=·):=by
 unfold i7;rw[eB];exact fZ.imp λh=>()
def kh(i j:Int):(i7 i j).Nodup:=by
 unfold i7;rw[List.Nodup,eB];exact fZ.imp λh=>()
def jz{i j k:Int}:k∈i7 i j ↔ i<=k/\k<j:=by
 unfold i7;rw[bW];constructor
 ·rintro⟨a,ha,rfl⟩;have:=dF.mp ha
  lia
 ·rintro⟨h1,h2⟩;exact⟨(k-i).toNat,dF.mpr (),()⟩
theorem qJ:∀{l m:ae},l.Nodup->(∀x∈l,x∈m)->m.length<=l.length->l.Perm m
 | [],m,_,_,h=>by
  have:m=[]:=dM.mp<|Nat.le_zero.mp h;rw[this]
 | a::l,m,nd,hs,hl=>by
  have ha:a∈m:=hs a aN;have nd':=c7.mp nd;have pm:m.Perm (a::m.erase a):=List.perm_cons_erase ha;have ih:=qJ (l:=l) (m:=m.erase a) nd'.2 (λx hx=>by
   have hxa:x≠a:=λe=>nd'.1<|e ▸ hx;exact(List.mem_erase_of_ne hxa).mpr (hs x<|aP _ hx)) (by
   rw[List.length_erase_of_mem ha];dsimp[bz]at hl
   lia)
  exact(List.Perm.cons a ih).trans pm.symm
abbrev Kn (P:aj)(w:ah)(K:au)(mg:Str->bb)(base:aq)(k:Nat)(x:Str)(ps:ap)(sp:Sp):Prop:=
 ∃(f:ak) (fd:FuncData),FnOk P w K mg base nW k f fd ps sp/\mg x=some (.ref f)/\PySem.W.keepIn K (.ref f)=true/\Binds K fd ps []
def Vc{X:Cx}{k:Nat}{x:Str}{sp:Sp}{e:aE}{t:TA}{p:Pos}(G:Kn X.prog X.w X.K X.mg X.base k x ps sp)(hr:Room k X.A)(ha:PA X (e::es) t)(hg:Gl X x:=by rfl)
  (hdb:(x == ("__debug__" : Str))=false:=by decide) (hs:starEach (e::es) X.env=(false,eval e X.env)::starEach es X.env:=by rfl) (hplain:(backTo pos<|starEach es X.env).any (·.1)=false:=by rfl) :
  PE X (.Call (.Name x p) (e::es) [] pos) (PR sp [] E0 t):=by
 obtain⟨f,fd,F,hm,hk,hb⟩:=G;exact OB F hr hg hm hk hb .nil Uq ha hdb hs hplain
abbrev wR (XN fs:ap):ap->List (bj)->Prop
 | [],[]=>True
 | _::N,none::c=>wR XN fs N c
 | x::N,some j::c=>XN[j]?=some x/\x∈fs/\wR XN fs N c
 | _,_=>False
theorem wR.len{fs:ap}:∀{N:ap}{c:List<|bj},wR XN fs N c->c.length=N.length
 | [],[],_=>rfl
 | _::N,none::c,h=>dj (·+1) (wR.len (N:=N) (c:=c) h)
 | _::N,some j::c,h=>dj (·+1) (wR.len (N:=N) (c:=c) h.2.2)
 | [],_::_,h=>h.elim
 | _::_,[],h=>h.elim
theorem wR.cp{fs:ap}:∀{N:ap}{c:List<|bj},wR XN fs N c->∀(i j:Nat) (x:Str),N[i]?=some x->c[i]?=some (some j)->XN[j]?=some x/\x∈fs
 | [],[],_,i,j,x,h1,_=>by simp at h1
 | y::N,none::c,h,i,j,x,h1,h2=>by
  cases i with
  | zero=>simp at h2
  | succ i=>exact wR.cp (N:=N) (c:=c) h i j x (by simpa using h1)<|by simpa using h2
 | y::N,some k::c,h,i,j,x,h1,h2=>by
  cases i with
  | zero=>
   simp at h1 h2;subst h1 h2;exact⟨h.1,h.2.1⟩
  | succ i=>exact wR.cp (N:=N) (c:=c) h.2.2 i j x (by simpa using h1)<|by simpa using h2
 | [],_::_,h,_,_,_,_,_=>h.elim
 | _::_,[],h,_,_,_,_,_=>h.elim
def y_{X:Cx}{scope:Scope}{N:ap}(fs:ap)(kind:scope.kind=.function)(nocell:∀y∈scope.names,y.2≠.cell)(nm:∀y∈scope.names,y.2=.local->scope.names.lookup y.1=some .local)
  (nolf:∀y∈scope.names,y.2=.free->scope.names.lookup y.1≠some .local) (hf:∀y∈scope.names,y.2=.free->y.1∈fs) (hfs:∀x∈fs,(x,NameKind.free)∈scope.names) (hk:∀x∈fs,X.env.kindOf x=some .cell\/X.env.kindOf x=some .free) (cp:wR X.N fs N cap):CpScope X scope N cap where
 kind:=kind
 nocell:=nocell
 nm:=nm
 fr:=λy hy e=>hk _ (hf y hy e)
 rl:=λy h=>by
  have go:∀k,(k=NameKind.cell\/k=NameKind.free)->(relabel scope X.env).names.lookup y=some k->(y,NameKind.free)∈scope.names:=λk hk e=>by
   obtain⟨⟨n',k'⟩,hm1,hm2⟩:=bW.mp<|yc e;dsimp only at hm2;split at hm2
   ·rename_i hc
    cases hm2
    have:k'=.free:=by
     dsimp[dz]at hc;simpa using hc.1.1
    subst this;exact hm1
   ·cases hm2
    rcases hk with rfl|rfl
    ·exact absurd rfl (nocell _ hm1)
    ·exact hm1
  rcases h with h|h
  ·exact go _ (.inl rfl) h
  ·exact go _ (.inr rfl) h
 len:=cp.len
 nolf:=λx hx=>nolf (x,.free) hx rfl
 cp:=λi j x h1 h2=>by
  obtain⟨a,b⟩:=cp.cp i j x h1 h2;exact⟨a,hfs x b⟩
inductive Kd where
 | non|bl|int|str|lst|tup
 deriving DecidableEq
abbrev Kd.ty:Kd->af
 | .non=>.type "NoneType" | .bl=>.type "bool" | .int=>.type "int" | .str=>.type "str" | .lst=>.type "list" | .tup=>.type "tuple"
abbrev Rf (H:Hp)(x:V):Kd->Prop
 | .non=>x=.non
 | .bl=>∃b,x=.bl b
 | .int=>∃i,x=.int i
 | .str=>∃s,x=.str s
 | .lst=>∃a xs,x=.ref a/\H a=some (.lst xs)
 | .tup=>∃a xs,x=.ref a/\H a=some (.tup xs)
def Rf.WL{K:au}{H:Hp}{x:V}{k:Kd}(h:Rf H x k):TyOf K H x k.ty:=by
 cases k with
 | non=>cases h;exact .non
 | bl=>obtain⟨b,rfl⟩:=h;exact .bl b
 | int=>obtain⟨b,rfl⟩:=h;exact .int b
 | str=>obtain⟨b,rfl⟩:=h;exact .str b
 | lst=>obtain⟨a,xs,rfl,e⟩:=h;exact .lst e
 | tup=>obtain⟨a,xs,rfl,e⟩:=h;exact .tup e
def NS{K:au}(k:Kd):PySem.W.kitOne K k.ty (.type "int")=some (decide<|k=.int\/k=.bl):=by cases k<;>rfl
def Kv{K:au}(k:Kd):PySem.W.kitOne K k.ty (.type "bool")=some (decide<|k=.bl):=by cases k<;>rfl
def kit_tuple{K:au}(k:Kd):PySem.W.kitOne K k.ty (.type "tuple")=some (decide<|k=.tup):=by cases k<;>rfl
def Lc{K:au}(k:Kd):PySem.W.kitOne K k.ty (.type "list")=some (decide<|k=.lst):=by cases k<;>rfl
section
variable {prog:aj}{w:ah}{A:aA}{E:af->aC->Prop}{s:aC}
def uq{i:Nat}{x:af}{Q:af->aC->Prop}(hit:s.heap.IsTupleIter it t i)
  (ht:s.heap.IsTuple t items) (hx:items[i]?=some x) (hQ:∀h',h'.IsTupleIter it t (i+1)->Heap.SameBut it s.heap h'->Q x { s with heap:=h' }) :
  wpAny (model prog w) A (Builtin.SmallTypes.nextOf<|.ref it) Q E s:=by
 obtain⟨o,ho,hc,hd⟩:=id hit;obtain⟨ol,hol,_,nl,hdl⟩:=ht;unfold Builtin.SmallTypes.nextOf;refine aH (eK (name:=Str.ofString "__next__") hit.typeIs dU
  (dR dU hit.typeIs F.entry_tuple_iterator_next ?_<|F.args_tuple_iterator_next_1 _))
 show wpAny _ _ (field (.ref it) 0 >>= _) _ _ s;refine aH (eg ho hd (x:=.ref t) rfl ?_)
 skip
 rw[aJ<|show ¬((Value.ref t == Value.none)=true)from bH]
 skip
 refine aH (eg ho hd (x:=.int i 0) rfl ?_)
 skip
 refine aH<|f6 hol hdl ?_;dsimp[d_,hx];refine aH (wpAny_setField ho hd (by simp)<|aO ⟨x,rfl,aO<|hQ _ ?_<|Heap.SameBut.update ..⟩);exact⟨_,Heap.get?_update_self _ ho<|Obj.isFreed_of_fields<|Obj.data_mapFields hd _,(Obj.cls_mapFields ..).trans hc,by
  rw[Obj.data_mapFields hd];simp[rawInt]⟩
def uH{i:Nat}{Q:af->aC->Prop}(hh:A.handled=none)
  (hit:s.heap.IsTupleIter it t i) (ht:s.heap.IsTuple t items) (hx:items[i]?=none)
  (hE:∀h' e,Heap.ExtBut it s.heap h'->(∃o,h'.get? e=some o/\o.cls=.type "StopIteration")->E (.ref e) { s with heap:=h' }) :
  wpAny (model prog w) A (Builtin.SmallTypes.nextOf<|.ref it) Q E s:=by
 obtain⟨o,ho,hc,hd⟩:=id hit;obtain⟨ol,hol,_,nl,hdl⟩:=ht;unfold Builtin.SmallTypes.nextOf;refine aH (eK (name:=Str.ofString "__next__") hit.typeIs dU
  (dR dU hit.typeIs F.entry_tuple_iterator_next ?_<|F.args_tuple_iterator_next_1 _))
 show wpAny _ _ (field (.ref it) 0 >>= _) _ _ s;refine aH (eg ho hd (x:=.ref t) rfl ?_)
 skip
 rw[aJ<|show ¬((Value.ref t == Value.none)=true)from bH]
 skip
 refine aH (eg ho hd (x:=.int i 0) rfl ?_)
 skip
 refine aH<|f6 hol hdl ?_;dsimp[d_,hx];refine aH (dW<|aH<|wpAny_setField ho hd (by simp) ?_)
 skip
 refine aH ?_;dsimp[newExc,newTuple];refine aH (bQ ?_<|by size_fits);refine aH (m:=firstArgMember _ _) (wpAny_of_eq (a:=Value.none) (by first|rfl|(dsimp[firstArgMember];rfl)) ?_);refine bQ ?_ (by size_fits);dsimp[raiseNew];refine aH (wpAny_handled ?_)
 first|rw[show A.in1.handled=none from hh]|rw[hh]
 refine aH<|aO<|wpAny_throw ?_;exact hE _ _ (((Heap.SameBut.update ..).extBut.push _).push _) ⟨_,bB _ rfl,rfl⟩
end
def J9{prog:aj}{w:ah}{A:aA}(hh:A.handled=none)(it l:ak)(hne:l≠it)(items:Array af) :
  Draws prog w A it [it,l] items.size (λi v=>items[i]?=some v) (λi h=>h.IsTupleIter it l i/\h.IsTuple l items) where
 live:=λ_ _ st=>let⟨o,ho,_⟩:=st.1;⟨o,ho⟩
 frame:=λ_ _ _ st hk=>⟨st.1.at λo e=>hk it (by simp) o e,let⟨o,ho,r⟩:=st.2;⟨o,hk l (by simp) o ho,r⟩⟩
 item:=λi s Q E hi st hQ=>by
  refine uq st.1 st.2 (x:=items[i]) (by simp[hi]) λh' hit' hs'=>?_;exact hQ _ h' s.toks (by simp[hi]) ⟨hit',let⟨o,ho,r⟩:=st.2;⟨o,hs'.extBut l o hne ho,r⟩⟩ hs'
 done:=λs Q E st hE=>uH hh st.1 st.2 (by simp) hE
def BH(l:ak)(items:Array af) :
  Meets (Builtin.«enumerate.__new__» ⟨[.type "enumerate",.ref l],[]⟩) (λ_ R s=>s.heap.IsTuple l items /\
   R (.ok<|.ret<|.ref (s.heap.push { cls:=.type "tuple_iterator",data:=.fields #[.ref l,.int 0 0]}).objs.size)
    { s with heap:=(s.heap.push { cls:=.type "tuple_iterator",data:=.fields #[.ref l,.int 0 0]}).push { cls:=.type "enumerate",data:=.fields #[.none,.bool false,.ref s.heap.objs.size,rawInt 0,.none,.none]}}):=
 .of_wp λprog w A R s h=>by
  obtain⟨hp,g,d,tk,os⟩:=s;obtain⟨hl,h⟩:=h;have hsub:=sub_enumerate;obtain⟨ol,hol,hcl,nl,hdl⟩:=id hl
  wp_walk using c6 hol
  refine wpAny_stack_any λst=>aO ?_;split
  ·rename_i c _ _ _ _ _
   cases(c == Value.type "enumerate")
   ·wp_walk using c6 hol,fQ hl
    exact⟨_,rfl,h⟩
   ·wp_walk using c6 hol,fQ hl
    exact⟨_,rfl,h⟩
  ·wp_walk using c6 hol,fQ hl
   exact⟨_,rfl,h⟩
abbrev Xr (K:au)(a:ak):It:=
 ⟨λi H=>∃xs x,lO K H a xs/\xs[i]?=some x,λi H x H'=>∃T,H T=none/\x=.ref T/\∀xs y,lO K H a xs->xs[i]?=some y->H'=upd H T (.tup [.int i,y]),λi H=>∃xs,lO K H a xs/\xs.length=i⟩
def Dz{P:aj}{w:ah}{K:au}(a e it:ak)(hei:e≠it):Turn P w K (.Tuple elts x1 tpos) (Xr K a) [e,it] e (λi h=>(∃old,IsEnum h e it i old)/\h.IsTupleIter it a i) where
 mem:=by simp
 obj:=λi h st b hb=>by
  obtain⟨⟨old,st1⟩,st2⟩:=st;have hb':b=e\/b=it:=by simpa using hb
  rcases hb' with rfl|rfl
  ·exact⟨_,st1,λv z=>by cases z⟩
  ·obtain⟨o,e,c,d⟩:=st2;exact⟨o,e,λv z=>by rw[d]at z;cases z⟩
 keep:=λi h h' st k=>by
  obtain⟨⟨old,st1⟩,st2⟩:=st;exact⟨⟨old,k e (by simp) _ st1⟩,st2.at λo ho=>k it (by simp) o ho⟩
 item:=by
  k_ne;subst hP hw hK;obtain⟨⟨old,st1⟩,st2⟩:=st;obtain⟨xs,x,hq,hx⟩:=hg;obtain⟨its,rv,p,hz⟩:=I.tuple hq;obtain⟨u,hu,ru⟩:=rv.get hx;have hia:a≠it:=by
   obtain⟨o,ho,hc1,_⟩:=p;obtain⟨o2,ho2,hc2,_⟩:=st2;intro z;rw[z,ho2]at ho
   cases ho
   rw[hc1]at hc2;exact absurd (Value.type.inj hc2) ⋯
  have hea:e≠a:=by
   obtain⟨o,ho,hc1,_⟩:=p;intro z;rw[<- z,st1]at ho
   cases ho
   exact absurd (Value.type.inj hc1) ⋯
  have hlt:i<its.toArray.size:=by
   rw[aW];exact(aM.mp hu).1
  refine wpAny_pyNext_enum_itemD (J9 (A:=X.A.in1) (I.ok.hd hc) it a hia its.toArray) st1 ⟨st2,p⟩ hlt hei (by simp[hei,hea]) λx' h' tk hP hout hst hT hsz hk=>?_;have ex:x'=u:=by
   have:its.toArray[i]?=some u:=by simpa using hu
   rw[this]at hP;exact(aU hP).symm
  subst ex;refine⟨_,rfl,wpAny_letOwnedTupleGo_enum hout λh2 he2 hs2=>?_⟩;have fT:H s.heap.objs.size=none:=I.hok.fresh<|aQ _;have hel:e<s.heap.objs.size:=br st1;have hil:it<s.heap.objs.size:=by obtain⟨o,ho,_⟩:=st2;exact br ho
  have k2:∀b o,b≠e->b≠it->s.heap.get? b=some o->h2.get? b=some o:=λb o h1 h3 q=>hs2.extBut b o h1<|hk b o h1 h3 q;have hT2:h2.get? s.heap.objs.size=some { cls:=.type "tuple",data:=.seq #[.int i tk,x']}:=hs2.extBut _ _ (ne_of_gt hel) hT;obtain⟨e0,e1,e2,e3,e4,e5⟩:=hf e (by simp);obtain⟨i0,i1,i2,i3,i4,i5⟩:=hf it (by simp);have nT:∀b o,s.heap.get? b=some o->b≠s.heap.objs.size:=λb o q=>bD<|br q;have ne_tr:∀c v,H c=some v->c≠e/\c≠it:=λc v q=>⟨(λz=>by rw[z,e0]at q;cases q),(λz=>by rw[z,i0]at q;cases q)⟩;have I2:Inv X pins σ (upd H s.heap.objs.size<|.tup [.int i,x]) { s with heap:=h2,toks:=tk+1 }:=by
   refine I.step (g':=s.gens) (d':=s.drawn) (ch:=[e,it]) (λb hb=>?_) (λb o _ _ hch q _=>?_) (λb o _ _ hch q _=>?_) (λb o hch q n=>?_) (λb o hch q=>?_) (λb ys q=>?_) (λb o u' q=>?_) (λb ps q=>?_) (λm hm=>?_) (λb u' q=>?_) I.bare
   ·have hb':b=e\/b=it:=by simpa using hb
    rcases hb' with rfl|rfl
    ·exact⟨e3,e1,e4,e5⟩
    ·exact⟨i3,i1,i4,i5⟩
   ·exact k2 b o (λz=>hch<|by simp[z]) (λz=>hch<|by simp[z]) q
   ·exact⟨o.slots,k2 b o (λz=>hch<|by simp[z]) (λz=>hch<|by simp[z]) q⟩
   ·rw[iR<|nT b o q];exact n
   ·exact⟨o,k2 b o (λz=>hch<|by simp[z]) (λz=>hch<|by simp[z]) q⟩
   ·rw[iR<|iW q fT];exact q
   ·rw[iR<|iW q fT];exact q
   ·exact⟨#[],by rw[iR<|iW q fT,q];simp⟩
   ·obtain⟨o,es,ep,ho,r⟩:=hm;exact⟨o,es,ep,k2 _ o (dc e1) (dc i1) ho,r⟩
   ·by_cases z:b=s.heap.objs.size
    ·subst z;rw[jy]at q
     cases q
     exact⟨by show 2<=sizeLine;decide,[.int i tk,x'],.cons ⟨tk,rfl⟩<|.cons ru .nil,⟨_,hT2,rfl,rfl,0,rfl⟩⟩
    ·rw[iR z]at q;refine(I.hok b u' q).stay (λc v hc q'=>k2 c v ?_ ?_ q') (λc q'=>?_) λc ys q'=>?_
     ·rcases hc with z|z
      ·rw[z];exact(ne_tr b u' q).1
      ·exact(ne_tr c _ z).1
     ·rcases hc with z|z
      ·rw[z];exact(ne_tr b u' q).2
      ·exact(ne_tr c _ z).2
     ·rw[iR<|iW q' fT];exact q'
     ·rw[iR<|iW q' fT];exact q'
  refine⟨.ref s.heap.objs.size,_,I2,rfl,⟨s.heap.objs.size,fT,rfl,λys y hy hyi=>?_⟩,⟨⟨x',by simpa using he2⟩,?_⟩,λb hb=>?_⟩
  ·rw[I.uL hy hq]at hyi;rw[hx]at hyi
   cases hyi
   rfl
  ·exact hst.1.at λo ho=>hs2.extBut it o (dc hei) ho
  ·have hb':b=e\/b=it:=by simpa using hb
   rcases hb' with rfl|rfl
   ·rw[iR<|bD hel];exact e0
   ·rw[iR<|bD hil];exact i0
 done:=by
  k_ne;subst hP hw hK;obtain⟨⟨old,st1⟩,st2⟩:=st;obtain⟨xs,hq,hx⟩:=hg;obtain⟨its,rv,p,hz⟩:=I.tuple hq;obtain⟨i0,i1,i2,i3,i4,i5⟩:=hf it (by simp);have hia:a≠it:=by
   obtain⟨o,ho,hc1,_⟩:=p;obtain⟨o2,ho2,hc2,_⟩:=st2;intro z;rw[z,ho2]at ho
   cases ho
   rw[hc1]at hc2;exact absurd (Value.type.inj hc2) ⋯
  have hl:=rv.length;have ei:its.toArray.size=i:=by rw[aW,<- hl,hx]
  exact wpAny_pyNext_enum_endD (J9 (A:=X.A.in1) (I.ok.hd hc) it a hia its.toArray) st1 ⟨by rw[ei];exact st2,p⟩ λh' eb=>⟨rfl,I.turned (t':=s.toks) (λb o hb q=>eb b o hb q) i0 i1 i3 i4 i5⟩
 self:=λ_ _ _ _ _ st h=>let⟨⟨_,st1⟩,_⟩:=st;wpAny_pyIter_enum st1 h
def zm:bootBuiltins "enumerate" = some (.type "enumerate"):=by decide +kernel
section
variable {X:Cx}
abbrev US (K:au)(ta:TA):TI:=λσ H R=>ta σ H λvs H1=>∃a xs,vs=[.ref a]/\lO K H1 a xs/\R (Xr K a) H1
def Jc{a:aE}{ta:TA}{p:Pos}(hg:Gl X "enumerate")(hm:X.mg "enumerate" = none)(ha:PA X [a] ta)(hs:starEach [a] X.env=[(false,eval a X.env)]:=by rfl):PI X (.Tuple elts x1 tpos) (.Call (.Name "enumerate" p) [a] [] pos) (US X.K ta):=by
 intro pins s σ H R I h;refine Call_<|uW I hg hm zm<|dQ (jM (ha pos pins s σ H _ I h) λus s1 ⟨vs,H1,I1,r1,q1⟩=>?_) hs rfl;obtain⟨t,xs,e,hq,q⟩:=q1;subst e;obtain⟨u,rfl,rx⟩:=vals1 r1
 cases rx
 obtain⟨its,rv,pt,hz⟩:=I1.tuple hq;refine callType_new F.called_enumerate ⋯ (F.typeCall_enumerate_1 _) (F.newCall_enumerate_1 _) (λobj=>gD obj _) F.entry_enumerate_new (BH t its.toArray) ⟨pt,⟨_,bB _ rfl,rfl⟩,?_⟩;have I2:Inv X pins σ H1 { s1 with heap:=s1.heap.push { cls:=.type "tuple_iterator",data:=.fields #[.ref t,.int 0 0]}}:=I1.kept (t':=s1.toks) λb o e=>aR _ e;have I3:Inv X pins σ H1 { s1 with heap:=(s1.heap.push { cls:=.type "tuple_iterator",data:=.fields #[.ref t,.int 0 0]}).push { cls:=.type "enumerate",data:=.fields #[.none,.bool false,.ref s1.heap.objs.size,rawInt 0,.none,.none]}}:=I2.kept (t':=s1.toks) λb o e=>aR _ e;have he:IsEnum ((s1.heap.push { cls:=.type "tuple_iterator",data:=.fields #[.ref t,.int 0 0]}).push { cls:=.type "enumerate",data:=.fields #[.none,.bool false,.ref s1.heap.objs.size,rawInt 0,.none,.none]}) (s1.heap.push { cls:=.type "tuple_iterator",data:=.fields #[.ref t,.int 0 0]}).objs.size s1.heap.objs.size 0 .none:=bB _ rfl;have hit:((s1.heap.push { cls:=.type "tuple_iterator",data:=.fields #[.ref t,.int 0 0]}).push { cls:=.type "enumerate",data:=.fields #[.none,.bool false,.ref s1.heap.objs.size,rawInt 0,.none,.none]}).IsTupleIter s1.heap.objs.size t 0:=⟨_,aR _<|bB _ rfl,rfl,rfl⟩;have hne:(s1.heap.push { cls:=.type "tuple_iterator",data:=.fields #[.ref t,.int 0 0]}).objs.size≠s1.heap.objs.size:=by rw[fY];exact ne_of_gt (cO _)
 refine wpAny_pyIter_enum he ⟨_,[_,s1.heap.objs.size],_,_,H1,rfl,I3,Dz t _ s1.heap.objs.size hne,⟨⟨.none,he⟩,hit⟩,λb hb=>?_,q⟩;have hb':b=(s1.heap.push { cls:=.type "tuple_iterator",data:=.fields #[.ref t,.int 0 0]}).objs.size\/b=s1.heap.objs.size:=by simpa using hb
 rcases hb' with rfl|rfl
 ·exact I1.DU (by rw[fY];exact Nat.le_succ _) (I2.hok.fresh<|aQ _)
 ·o_rec
def GV(hc:X.calm=true):jk X (.builtin "max") (λxs H Q=>∃(p:ak) (ns:ae),xs=[.ref p]/\ny X.K H p (ns.map V.int)/\0<ns.length/\∀M,M∈ns->(∀a∈ns,a<=M)->Q (.int M) H):=by
 kt_k;obtain⟨p,ns,rfl,hq,hne,q⟩:=h;kpf_c
 cases rx
 obtain⟨its,rv,pl,hz⟩:=I.list hq;have hi:=intsAre_of rv;have hl:=pl.isList;obtain⟨ys,e⟩:=hi.allInts.items;have hns:ns=ys.toList.map (·.1):=by
  rw[<- hi.numsOf,<- nums_intItems,<- e]
 have hsz:0<ys.size:=by
  have h3:=hne;rw[hns,aK,cD]at h3;exact h3
 rw[e]at hl;refine max_intList (I.ok.hd hc) hl hsz λv h' tk hv hk=>?_;obtain⟨t,rfl⟩:=intItems_at hv;obtain⟨h1,h2⟩:=argBest_gt (numAt ys)<|ys.size-1;refine⟨.int _,H,I.kept hk,⟨t,rfl⟩,q _ ?_ λa ha=>?_⟩
 ·rw[hns,numAt_eq];exact getD_mem (by rw[aK,cD];lia)
 ·rw[hns]at ha;obtain⟨j,hj,rfl⟩:=mem_getD ha;rw[aK,cD]at hj;rw[<- numAt_eq];exact h2 j ()
end
section
variable {prog:aj}{w:ah}{A:aA}{E:af->aC->Prop}{s:aC}
def Dv(n:Nat):Builtin.Slice.sliceAdjust none none (-1) (n:Int)=((n:Int)-1,-1):=by
 unfold Builtin.Slice.sliceAdjust;rfl
def Dp(n:Nat):Builtin.Slice.slicePlaces ((n:Int)-1) (-1) (-1)=n:=by
 unfold Builtin.Slice.slicePlaces;have h1:¬((-1:Int)>0):=by decide
 dsimp[h1,bN];by_cases h:n=0
 ·subst h;simp
 ·rw[aL ()];rw[show(- -1:Int)=1 by decide,ediv_one]
  lia
def uv{n:Nat}{Q:Int×Int×Nat->aC->Prop}(hs:s.heap.IsSliceOf sl .none .none<|.int (-1) t)
  (h:Q ((n:Int)-1,-1,n) s):wpAny (model prog w) A (Builtin.Slice.sliceApplied (.ref sl)<|pure (n:Int)) Q E s:=by
 obtain⟨os,hos,hcs,hds⟩:=id hs;unfold Builtin.Slice.sliceApplied Builtin.Slice.sliceFields;refine aH<|aH<|eg hos hds (x:=.none) rfl<|aH<|eg hos hds (x:=.none) rfl<|aH<|eg hos hds (x:=.int (-1) t) rfl<|aO ?_;refine aH (slicePart_int ?_)
 skip
 rw[aJ ⋯];refine aH<|slicePart_none<|aH<|slicePart_none<|aH<|aO ?_;show wpAny _ _ (match Builtin.Slice.sliceAdjust none none (-1) (n:Int)with|(lo,hi)=>pure (lo,(-1:Int),Builtin.Slice.slicePlaces lo hi<|-1)) _ _ s;rw[Dv n];show wpAny _ _ (pure ((n:Int)-1,(-1:Int),Builtin.Slice.slicePlaces ((n:Int)-1) (-1)<|-1)) _ _ s;rw[Dp];exact aO h
def K2(xs:Array af):((List.range xs.size).filterMap λ(m:Nat)=>xs[((xs.size:Int)-1+(m:Int) * (-1)).toNat]?).toArray=xs.toList.reverse.toArray:=by
 have e:(λ(m:Nat)=>xs[((xs.size:Int)-1+(m:Int) * (-1)).toNat]?)=(λx=>xs[x]?) ∘ λk=>xs.size-1-k:=by
  funext m
  have:((xs.size:Int)-1+(m:Int) * (-1)).toNat=xs.size-1-m:=()
  show xs[((xs.size:Int)-1+(m:Int) * (-1)).toNat]?=xs[xs.size-1-m]?;rw[this]
 rw[e,<- List.filterMap_map,PySem.W.krv_range,List.filterMap_reverse,PySem.W.krv_all]
theorem ur{items:Array af}{Q:af->aC->Prop}(ht:IsTup s.heap t items)(hs:s.heap.IsSliceOf sl .none .none<|.int (-1) tk)
  (h:Q (.ref s.heap.objs.size) { s with heap:=s.heap.push { cls:=.type "tuple",data:=.seq items.toList.reverse.toArray }})
  (hsz:items.size<=sizeLine):wpAny (model prog w) A (getItem (.ref t)<|.ref sl) Q E s:=by
 have htake:sizeOk (.seq items.toList.reverse.toArray):=by
  show items.toList.reverse.toArray.size<=sizeLine;rw[aW,cF,cD];exact hsz
 obtain⟨os,hos,hcs,hds⟩:=id hs;have hTs:s.TypeIs (.ref sl) "slice" := ⟨os,hos,hcs⟩;unfold getItem
 try with_reducible refine dg ?_
 first|refine aH (aO ?_)|skip
 refine aH<|wpAny_sequenceKey ht.typeIs ⋯ ?_;refine aH (eK (name:=Str.ofString "__getitem__") ht.typeIs cC
  (dR cC ht.typeIs entry_tuple_getitem ?_<|args_tuple_getitem _ _))
 show wpAny _ _ (Builtin.Tuple.tupleItemsOf (.ref t) >>= _) _ _ s;refine aH<|tupleItemsOf_ ht ?_;refine aH<|fX hTs ?_;rw[aL ⋯];refine aH<|uv hs ?_;have hno:¬((((items.size:Int)-1) == 0 && (-1:Int) == 1 && items.size == items.size)=true):=by
  intro q;rw[dz,dz]at q;exact absurd q.1.2 ⋯
 show wpAny _ _ (if (((items.size:Int)-1) == 0 && (-1:Int) == 1 && items.size == items.size)=true then _ else _) _ _ s;rw[aJ hno,K2]
 first
  | exact aH (m:=Builtin.Tuple.tupleExact _) (bQ (aO ⟨_,rfl,aO h⟩) htake)
  | exact aH (m:=Builtin.Tuple.tupleExact _) (bQ (aH<|aO<|aO ⟨_,rfl,aO h⟩) htake)
  | exact aH (aH (m:=Builtin.Tuple.tupleExact _)<|bQ (aO<|aO ⟨_,rfl,aO h⟩) htake)
  | exact aH<|aH (m:=Builtin.Tuple.tupleExact _)<|bQ (aO ⟨_,rfl,aO h⟩) htake
end
section
variable {X:Cx}
abbrev Ve (K:au)(te:TE):TE:=λσ H Q=>te σ H λx H1=>∃a xs,x=.ref a/\lO K H1 a xs/\∀p,H1 p=none->Q (.ref p) (upd H1 p<|.tup xs.reverse)
def ET{e:aE}{te:TE}{up cp:Pos}{kk:Nat}(he:PE X e te):PE X (.Subscript e (.Slice none none (some<|.UnaryOp .USub (.Constant (.int 1) kk cp) up) p2) pos) (Ve X.K te):=by
 w_up;refine Subscript_<|jM (he pins s σ H _ I h) λv s1 ⟨x,H1,I1,r1,a,xs,ex,hq,q⟩=>?_;subst ex
 cases r1
 refine wpAny_Slice ?_;rw[g_];refine aO ?_;refine aO ?_;rw[evalPart_some];refine jM ((Lu (a:=.Constant (.int 1) kk cp) C1 CO) pins s1 σ H1 (λv H'=>v=.int (-1)/\H'=H1) I1 ⟨1,rfl,rfl,rfl⟩) λvs s3 h9=>?_;obtain⟨y,H3,I3,r3,ey,eH⟩:=h9;subst ey eH;obtain⟨t,rfl⟩:=r3;have I4:Inv X pins σ H3 { s3 with heap:=s3.heap.push { cls:=.type "slice",data:=.fields #[.none,.none,.int (-1) t]}}:=I3.kept (t':=s3.toks) λb ob q=>aR _ q;obtain⟨its,rv,pl,hz⟩:=I4.tuple hq
 skip
 refine tail_any (ops:=[.ref a,.ref s3.heap.objs.size]) pl.typeIs cC.lookup ?_ (by with_unfolding_all rfl);have hlen:=rv.length;refine ur pl (gW ..) ?_ (by rw[aW]<;>lia);refine⟨.ref _,_,I4.laid (t':=s3.toks) (o:=.tup xs.reverse) (λb o e=>aR _ e) (aQ _) ⟨by rw[cF];exact hz,its.reverse,rv.reverse,?_⟩,rfl,q _ I4.fresh⟩;exact lU.new _ _
abbrev Us (K:au):V->V->Hp->VK->Prop:=λo i H Q=>∃p xs k v,o=.ref p/\i=.int k/\ny K H p xs/\0<=k/\xs[k.toNat]?=some v/\Q v H
def IK:Sq X (Us X.K):=by
 intro pins s σ H o i ov iv Q I ro ri h;obtain⟨p,xs,k,v,rfl,rfl,hq,h0,hv,q⟩:=h
 cases ro
 obtain⟨t,rfl⟩:=ri;obtain⟨its,r,pl,hz⟩:=I.list hq;obtain⟨u,eu,ru⟩:=r.get hv;have hl:=r.length;have hn:=sQ;have hk:k.toNat<xs.length:=(aM.mp hv).1;exact wpAny_getItem_list pl.isList h0 () (by simpa using eu) ⟨v,H,I,ru,q⟩
end
def zg(elt t1 i1 t2 i2:aE)(f1 f2:List aE)(scope:Scope)(pos:Pos)(it acc:af)(env:Env) :
  compTurn (.ListComp elt [⟨t1,i1,f1,0⟩,⟨t2,i2,f2,0⟩] scope pos) 0 it acc env=(do
   standAt i1.pos
   match <- pyNext it with
   | none=>pure (.done .next)
   | some v=>
    letOwnedTupleGo t1 it v
    assign t1 env v
    let mut ok:=true
    for c in f1 do
     if ok then ok <- isTrue c env (eval c env)
    if ok then
     let x <- eval i2 env
     standAt i2.pos
     let x <- foldedSetIterable i2 env x
     let _ <- runOwn (.compStart (.ListComp elt [⟨t1,i1,f1,0⟩,⟨t2,i2,f2,0⟩] scope pos) 1 (<- holding [x] (pyIter x)) acc env) env
    again (.compLoop (.ListComp elt [⟨t1,i1,f1,0⟩,⟨t2,i2,f2,0⟩] scope pos) 0 it acc env)):=by rfl
def Ai(elt t1 i1 t2 i2:aE)(f1 f2:List aE)(scope:Scope)(pos:Pos)(it acc:af)(env:Env) :
  compTurn (.ListComp elt [⟨t1,i1,f1,0⟩,⟨t2,i2,f2,0⟩] scope pos) 1 it acc env=(do
   standAt i2.pos
   match <- pyNext it with
   | none=>pure (.done .next)
   | some v=>
    letOwnedTupleGo t2 it v
    assign t2 env v
    let mut ok:=true
    for c in f2 do
     if ok then ok <- isTrue c env (eval c env)
    if ok then
     (do let _ <- call (.builtin "list.append") [acc,<- eval elt env])
    again (.compLoop (.ListComp elt [⟨t1,i1,f1,0⟩,⟨t2,i2,f2,0⟩] scope pos) 1 it acc env)):=by rfl
section
variable {prog:aj}{w:ah}{A:aA}{R:Result->aC->Prop}{s:aC}
def qk{f1 f2:List aE}{acc:af}{env:Env}
  (h0:codeAny (model prog w) A (.compLoop (.ListComp elt [⟨t1,i1,f1,0⟩,⟨t2,i2,f2,0⟩] scope pos) 1 it acc env) R s)
  (h:wpAny (model prog w) A (pyIter it) (λit' s'=>codeAny (model prog w) A (.compLoop (.ListComp elt [⟨t1,i1,f1,0⟩,⟨t2,i2,f2,0⟩] scope pos) 1 it' acc env) R s')
   (notedBy (model prog w) A env λx s'=>R (.error x) s') s) :
  codeAny (model prog w) A (.compStart (.ListComp elt [⟨t1,i1,f1,0⟩,⟨t2,i2,f2,0⟩] scope pos) 1 it acc env) R s:=by
 refine codeAny_of_tree ?_
 skip
 refine wpAny_notedAt ?_;unfold compStart
 skip
 refine aH<|wpAny_askSetting<|wpAny_ite ?_;split
 ·first
   | exact aH (aO<|aO<|anI rfl h0)
   | exact aO<|anI rfl h0
 ·first
   | exact aH (dW<|aH<|eY<|aH<|fP h (λit' s' h'=>aO<|anI rfl h') λ_ _ x=>x)
   | (refine aH<|dW ?_;show wpAny _ _ (standAt i2.pos >>= _) _ _ s;exact aH<|eY<|aH<|fP h (λit' s' h'=>aO<|anI rfl h') λ_ _ x=>x)
end
abbrev LJ (g:TG)(tc:TT)(te:TE)(D:ak)(Nn:L2.St->Hp->Prop)(σ:L2.St)(J:It)(H1:Hp):Prop:=
 ∃V:Nat->Nat->L2.St->Hp->Prop,(∃m,V 0 m σ H1)/\∀i m σ' H',V i m σ' H' ->
  (J.stop i H'/\Nn σ' H')\/(J.go i H'/\∀x H2,J.yld i H' x H2->g x σ' H2 λσ3 H3=>tc σ3 H3 λb H4=>
   if b=true then te σ3 H4 λy H5=>∃ys,H5 D=some (.lst ys)/\ys.length<sizeLine/\∃m',m'<m/\V (i+1) m' σ3 (upd H5 D<|.lst<|ys++[y])
   else ∃m',m'<m/\V (i+1) m' σ3 H4)
def C2{Z:Cx}{f1:List aE}{fp:ba}{D:ak}{tn:Nat->aq->Prop}{H:Hp}{s:aC}{g:TG}{tc:TT}{te:TE}{Nn:L2.St->Hp->Prop}
  (hc:Z.calm=true) (hxe:Z.xe=λ_ _=>False) (T:Turn Z.prog Z.w Z.K tg J fp it tn) (I:Inv Z pins σ H s) (st:tn 0 s.heap) (hf:∀b∈fp,qp Z pins H b) (hg:PG Z tg g) (ht:Ob Z ifs tc) (he:PE Z elt te) (goal:LJ g tc te D Nn σ J H) :
  codeAny (model Z.prog Z.w) Z.A (.compLoop (.ListComp elt [⟨t1,i1,f1,0⟩,⟨tg,i2,ifs,0⟩] scope pos) 1 (.ref it) (.ref D) Z.env) (λr s'=>r=.ok .next/\∃σ' H',Inv Z pins σ' H' s'/\Nn σ' H') s:=by
 obtain⟨V,⟨m0,v0⟩,turn⟩:=goal;have stat:∀{H':Hp},(∀b∈fp,H' b=none)->∀b∈fp,qp Z pins H' b:=λhn b hb=>⟨hn b hb,(hf b hb).2⟩;refine codeAny_loop rfl (λn s'=>∃i σ' H',Inv Z pins σ' H' s'/\tn i s'.heap/\(∀b∈fp,H' b=none)/\V i n σ' H') (λn s5 hI=>?_) m0 ⟨0,σ,H,I,st,λb hb=>(hf b hb).1,v0⟩;obtain⟨i,σ5,H5,I5,st5,fr5,w5⟩:=hI
 skip
 refine wpAny_noted ?_;rw[Ai];refine aH (eY<|aH ?_)
 rcases turn i n σ5 H5 w5 with⟨stop,q⟩|⟨go,step⟩
 ·refine jM (T.done Z rfl rfl rfl hc i pins s5 σ5 H5 _ I5 (stat fr5) st5 stop) λr s6 h9=>?_;obtain⟨hr,I6⟩:=h9;subst hr;exact aO ⟨rfl,σ5,H5,I6,q⟩
 ·refine jM (T.item Z rfl rfl rfl hc i pins s5 σ5 H5 _ I5 (stat fr5) st5 go) λr s6 h9=>?_;obtain⟨u,hr,h6⟩:=h9;subst hr;refine aH<|jM h6 λ_ s7 ⟨x,H7,I7,r7,y7,st7,fr7⟩=>?_;have I7':=I7.pinned (stat fr7)<|T.obj _ _ st7;have toF:∀{α:Type} {t:Sem α} {Q Q':α->aC->Prop} {E:af->aC->Prop} {s:aC},wpAny (model Z.prog Z.w) Z.A t Q Z.xe s->(∀a s,Q a s->Q' a s)->wpAny (model Z.prog Z.w) Z.A t Q' E s:=λh hQ=>by
   rw[hxe]at h;exact zY h hQ
  refine aH<|toF (hg _ s7 σ5 H7 x u _ I7' r7<|step x H7 y7) λ_ s8 ⟨σ8,H8,I8,q8⟩=>?_;refine aH<|toF (ht _ s8 σ8 H8 _ I8 q8) λok s9 ⟨H9,I9,q9⟩=>?_;have again:∀{s10:aC} {H10:Hp},Inv Z (pins++sL fp s7.heap) σ8 H10 s10->(∃m',m'<n/\V (i+1) m' σ8 H10) ->
    ∃m,m<n/\∃i σ' H',Inv Z pins σ' H' s10/\tn i s10.heap/\(∀b∈fp,H' b=none)/\V i m σ' H':=λ{s10 H10} I10 h9=>by
   obtain⟨m',hm,w10⟩:=h9;refine⟨m',hm,i+1,σ8,H10,I10.pV,T.keep _ _ _ st7 λb hb o e=>(I10.pin (b,o)<|bA _<|bA _<|kD hb e).1,λb hb=>?_,w10⟩;obtain⟨o,e,d⟩:=T.obj _ _ st7 b hb;exact(I10.pin (b,o)<|bA _<|bA _<|kD hb e).2.1
  cases ok with
  | false=>
   rw[aJ bH]at q9;exact aO ⟨rfl,again I9 q9⟩
  | true=>
   rw[aL rfl]at q9;refine aH<|aH<|toF (he _ s9 σ8 H9 _ I9 q9) λy s10 ⟨v10,H10,I10,r10,ys,hD,hz,w10⟩=>?_;refine aH<|toF (uM _ s10 σ8 H10 (.ref D) [v10] _ [y] (λ_ H'=>H'=upd H10 D (.lst<|ys++[v10])) I10 rfl (.cons r10 .nil) ⟨_,ys,v10,rfl,rfl,hD,hz,rfl⟩) λ_ s11 ⟨_,H11,I11,_,e11⟩=>?_;subst e11;exact aO<|aO ⟨rfl,again I11 w10⟩
abbrev N1 (cap:List<|bj)(g:TG)(tc:TT)(wi2:TI)(g2:TG)(tc2:TT)(te:TE)(σ:L2.St)(Q:VK)(J:It)(H1:Hp):Prop:=∀D,H1 D=none ->
 ∃W:Nat->Nat->L2.St->Hp->Prop,(∃m,W 0 m (cap.map<|OF σ)<|upd H1 D<|.lst [])/\∀i m σ' H',W i m σ' H' ->
  (J.stop i H'/\Q (.ref D) H')\/(J.go i H'/\∀x H2,J.yld i H' x H2->g x σ' H2 λσ3 H3=>tc σ3 H3 λb H4=>
   if b=true then wi2 σ3 H4 (LJ g2 tc2 te D (λσ5 H5=>∃m',m'<m/\W (i+1) m' σ5 H5) σ3)
   else ∃m',m'<m/\W (i+1) m' σ3 H4)
abbrev Wa (cap:List<|bj)(wi:TI)(g:TG)(tc:TT)(wi2:TI)(g2:TG)(tc2:TT)(te:TE):TE:=λσ H Q=>wi σ H<|N1 cap g tc wi2 g2 tc2 te σ Q
def Rv{X:Cx}{iter:aE}{N:ap}{wi wi2:TI}{g g2:TG}{tc tc2:TT}{te:TE}(hc:X.calm=true)(S:CpScope X scope N cap)(hi:PI X tg iter wi)
  (hg:∀C s₀ H₀ ex,PG (jU X scope N C s₀ H₀ ex) tg g) (ht:∀C s₀ H₀ ex,Ob (jU X scope N C s₀ H₀ ex) ifs tc) (hi2:∀C s₀ H₀ ex,PI (jU X scope N C s₀ H₀ ex) tg2 iter2 wi2)
  (hg2:∀C s₀ H₀ ex,PG (jU X scope N C s₀ H₀ ex) tg2 g2) (ht2:∀C s₀ H₀ ex,Ob (jU X scope N C s₀ H₀ ex) ifs2 tc2) (he:∀C s₀ H₀ ex,PE (jU X scope N C s₀ H₀ ex) elt te)
  (hs:∀x,foldedSetIterable iter X.env x=pure x:=by intro _;rfl) (hs2:∀env x,foldedSetIterable iter2 env x=pure x:=by intro _ _;rfl):PE X (.ListComp elt [⟨tg,iter,ifs,0⟩,⟨tg2,iter2,ifs2,0⟩] scope pos) (Wa cap wi g tc wi2 g2 tc2 te):=by
 w_up;kcj_m;rw[eval_ListComp];refine wpAny_comprehension_free (use:=none) rfl hs (xH hfree) S.kind S.nm<|jM (hi pins s σ H _ I h) λxv s1 h1=>jM h1 λitv s2 h2=>?_;obtain⟨it,fp,tn,J,H2,rfl,I2,T,st2,f2,h2⟩:=h2;refine bQ (wpAny_newFunctionEnv S.nocell (by intro y hy;simp at hy) (λh₁ hns₁ hsb₁=>?_) S.kind);obtain⟨W,⟨m0,w0⟩,turn⟩:=h2 s2.heap.objs.size I2.fresh;dsimp only at hns₁ hsb₁ ⊢;have I3:Inv X pins σ (upd H2 s2.heap.objs.size<|.lst []) { s2 with heap:=s2.heap.push {}}:=I2.Iq (t':=s2.toks) (its:=[]) .nil<|cL _;have hfp:∀b∈fp,∃o,s2.heap.get? b=some o:=λb hb=>by
  obtain⟨o,e,_⟩:=T.obj 0 _ st2 b hb;exact⟨o,e⟩
 have neD:∀b∈fp,b≠s2.heap.objs.size:=λb hb=>by
  obtain⟨o,e⟩:=hfp b hb;exact bD<|br e
 have f3:∀b∈fp,qp X pins (upd H2 s2.heap.objs.size<|.lst []) b:=λb hb=>⟨by rw[iR<|neD b hb];exact(f2 b hb).1,(f2 b hb).2⟩;have hDC:s2.heap.objs.size≠(s2.heap.push {}).objs.size:=by rw[fY];exact bD (cO _)
 have old:∀b o,(s2.heap.push {}).get? b=some o->h₁.get? b=some o:=λb o e=>hsb₁.extBut b o (bD<|br e)<|aR _ e;have I4:=Kz (tk:=s2.toks+([]:List<|Str×af).length) (fp:=fp) S I3 f3 (λb hb=>by
  obtain⟨o,e⟩:=hfp b hb;exact⟨o,aR _ e⟩) hns₁ old
 have st4:tn 0 h₁:=T.keep _ _ _ st2 λb hb o e=>old b o<|aR _ e;have stat:∀{H':Hp},(∀b∈fp,H' b=none)->∀b∈fp,qp (jU X scope N (s2.heap.push {}).objs.size { s2 with heap:=s2.heap.push {}} (upd H2 s2.heap.objs.size<|.lst []) fp) [] H' b:=λhn b hb=>by
  have ok:=I4.ok;refine⟨hn b hb,(ok.exf b hb).1,ok.exfs b hb,.inl hb,λx c e=>(ok.exf b hb).2 x c e,λp hp=>nomatch hp⟩
 have loop:∀s4:aC,s4={ s2 with heap:=h₁,toks:=s2.toks+([]:List<|Str×af).length } ->
   codeAny (model X.prog X.w) X.A (.compLoop (.ListComp elt [⟨tg,iter,ifs,0⟩,⟨tg2,iter2,ifs2,0⟩] scope pos) 0 (.ref it) (.ref s2.heap.objs.size)<|compEnvC scope (vh X.env scope.names []) (s2.heap.push {}).objs.size X.env)
    (compPost (model X.prog X.w) X.A X.xe none (EP X pins σ Q) (.ref s2.heap.objs.size) (s2.heap.push {}).objs.size) s4:=by
  rintro s4 rfl;refine codeAny_loop rfl (λn s'=>∃i σ' H',Inv (jU X scope N (s2.heap.push {}).objs.size { s2 with heap:=s2.heap.push {}} (upd H2 s2.heap.objs.size<|.lst []) fp) [] σ' H' s'/\tn i s'.heap/\(∀b∈fp,H' b=none)/\W i n σ' H') (λn s5 hI=>?_) m0 ⟨0,_,_,I4,st4,λb hb=>(f3 b hb).1,w0⟩;obtain⟨i,σ5,H5,I5,st5,fr5,w5⟩:=hI
  skip
  refine wpAny_noted ?_;rw[zg];refine aH (eY<|aH ?_)
  rcases turn i n σ5 H5 w5 with⟨stop,q⟩|⟨go,step⟩
  ·refine jM (T.done (jU X scope N (s2.heap.push {}).objs.size { s2 with heap:=s2.heap.push {}} (upd H2 s2.heap.objs.size<|.lst []) fp) rfl rfl rfl hc i [] s5 σ5 H5 _ I5 (stat fr5) st5 stop) λr s6 h9=>?_;obtain⟨hr,I6⟩:=h9;subst hr;obtain⟨m6,hn6,_⟩:=I6.loc;refine aO ⟨m6,hn6,λh' sb=>?_⟩;have u6:=I6.base;have nC:∀b o,(s2.heap.push {}).get? b=some o->b≠(s2.heap.push {}).objs.size:=λb o e=>bD<|br e;refine⟨.ref s2.heap.objs.size,H5,?_,rfl,q⟩;refine I3.Qe (ch:=fp) I6.os ⟨λb o e n hb hx=>?_,λb o e n hb hx=>?_,λb o e n hx=>?_,λb o e hx=>?_,u6.tups,u6.frzs,u6.tbls⟩ ?_ I6.bare ?_
   ·exact sb.extBut b o (nC b o e) (u6.keep b o e n hb hx)
   ·obtain⟨sl,z⟩:=u6.slot b o e n hb hx;exact⟨sl,sb.extBut b _ (nC b o e) z⟩
   ·exact u6.free b o e n hx
   ·obtain⟨o',z⟩:=u6.there b o e hx;exact⟨o',sb.extBut b _ (nC b o e) z⟩
   ·intro b o e;have hb:∀c v,H5 c=some v->c≠(s2.heap.push {}).objs.size:=λc v e z=>by
     rw[z]at e;have:=I6.free;rw[show H5 (s2.heap.push {}).objs.size=none from this]at e
     cases e
    refine(I6.hok b o e).stay (λc v hc q=>sb.extBut c v ?_ q) (λ_ q=>q) λ_ _ q=>q
    rcases hc with z|z
    ·rw[z];exact hb b o e
    ·exact hb c _ z
   ·intro b hb;obtain⟨_,z1,_,z3,z4,z5⟩:=f3 b hb;exact⟨z3,z1,z4,z5⟩
  ·refine jM (T.item (jU X scope N (s2.heap.push {}).objs.size { s2 with heap:=s2.heap.push {}} (upd H2 s2.heap.objs.size<|.lst []) fp) rfl rfl rfl hc i [] s5 σ5 H5 _ I5 (stat fr5) st5 go) λr s6 h9=>?_;obtain⟨u,hr,h6⟩:=h9;subst hr;refine aH<|jM h6 λ_ s7 ⟨x,H7,I7,r7,y7,st7,fr7⟩=>?_;have I7':=I7.pinned (stat fr7)<|T.obj _ _ st7;refine aH<|zY (hg _ _ _ fp _ s7 σ5 H7 x u _ I7' r7<|step x H7 y7) λ_ s8 ⟨σ8,H8,I8,q8⟩=>?_;refine aH<|zY (ht _ _ _ fp _ s8 σ8 H8 _ I8 q8) λok s9 ⟨H9,I9,q9⟩=>?_;have again:∀{s10:aC} {H10:Hp} {σ10:L2.St},Inv (jU X scope N (s2.heap.push {}).objs.size { s2 with heap:=s2.heap.push {}} (upd H2 s2.heap.objs.size<|.lst []) fp) ([]++sL fp s7.heap) σ10 H10 s10->(∃m',m'<n/\W (i+1) m' σ10 H10) ->
     ∃m,m<n/\∃i σ' H',Inv (jU X scope N (s2.heap.push {}).objs.size { s2 with heap:=s2.heap.push {}} (upd H2 s2.heap.objs.size<|.lst []) fp) [] σ' H' s10/\tn i s10.heap/\(∀b∈fp,H' b=none)/\W i m σ' H':=λ{s10 H10 σ10} I10 h9=>by
    obtain⟨m',hm,w10⟩:=h9;refine⟨m',hm,i+1,σ10,H10,I10.pV,T.keep _ _ _ st7 λb hb o e=>(I10.pin (b,o)<|bA _<|bA _<|kD hb e).1,λb hb=>?_,w10⟩;obtain⟨o,e,d⟩:=T.obj _ _ st7 b hb;exact(I10.pin (b,o)<|bA _<|bA _<|kD hb e).2.1
   cases ok with
   | false=>
    rw[aJ bH]at q9;exact aO ⟨rfl,again I9 q9⟩
   | true=>
    rw[aL rfl]at q9;refine aH<|zY (hi2 _ _ _ fp _ s9 σ8 H9 _ I9 q9) λxv s10 h10=>aH<|eY ?_;rw[hs2];refine aH<|aO<|aH<|dg<|zY h10 λitv s11 h11=>?_;obtain⟨it2,fp2,tn2,J2,H11,rfl,I11,T2,st11,f11,goal⟩:=h11;have hcz:=hc;have loop2:=(λ(Z:Cx) (h1:Z.calm=true) (h2:Z.xe=λ_ _=>False) T2 I11=>C2 (Z:=Z) (t1:=tg) (i1:=iter) (f1:=ifs) (i2:=iter2) (scope:=scope) (pos:=pos) h1 h2 T2 I11) _ (show(jU X scope N _ _ _ fp).calm=true from hcz) rfl T2 I11 st11 f11 (hg2 _ _ _ fp) (ht2 _ _ _ fp) (he _ _ _ fp) goal;refine aH<|wpAny_runOwn<|gS (qk loop2<|T2.self _ 0 _ _ _ st11 loop2) λr s12 hr12=>?_;obtain⟨hr,σ12,H12,I12,n12⟩:=hr12;subst hr;exact aO ⟨rfl,again I12 n12⟩
 exact codeAny_compStart_list (loop _ rfl)<|T.self _ 0 _ _ _ st4<|loop _ rfl
end L2
namespace L2
open PySem PySem.Spec PyProof.Rows
open PySem.SeqAt
open PySem.AutoSeq1 (wpAny_loadPart')
open PySem.MeetsSeq PySem.MeetsSeq2 PySem.MeetsSeq3 PySem.SeqAt
section
variable {X:Cx}
def J3:lQ X (binaryOp .FloorDiv) (rI (λ_ j=>0<j/\j<18446744073709551616) λi j=>.int<|i / j):=V4 λi j _ _ _ _ _ hc q=>by
 have h1:(0:Int)<j:=hc.1;have h2:j<18446744073709551616:=hc.2;refine floordiv_int (by omega) (by rw[Int.fdiv_eq_ediv_of_nonneg i<|by omega];exact q)<|.inl<|PyProof.noPylong_of_log2 ?_;exact bM ((Nat.log2_lt<|by omega).mpr<|show j.natAbs<2 ^ 64 by omega) ⋯
end
end L2
namespace L2
open PySem PySem.Spec PyProof.Rows
abbrev Wx (x:Str):It:=⟨λi _=>i<x.cps.size,λi H v H'=>H'=H/\∃c,x.cps[i]?=some c/\v=.str ⟨#[c]⟩,λi _=>i=x.cps.size⟩
def Jw{P:aj}{w:ah}{K:au}(x:Str)(t:Tok)(it:ak):Turn P w K tg (Wx x) [it] it (λi h=>h.IsStrIter it "str_ascii_iterator" x t i) where
 mem:=by simp
 obj:=λi h st b hb=>by
  have e:b=it:=by simpa using hb
  subst e;obtain⟨o,e,c,d⟩:=st;exact⟨o,e,λv z=>by rw[d]at z;cases z⟩
 keep:=λi h h' st k=>let⟨o,ho,r⟩:=st;⟨o,k it (by simp) o ho,r⟩
 item:=by
  k_ne;subst hP hw hK;gn_on;have W:=Walks.strAscii (prog:=X.prog) (w:=X.w) (I.ok.hd hc) it x t;refine W.item i s _ _ hg st λv h' tk hv st' kk=>?_;obtain⟨c,u,hcx,rfl⟩:=hv;have I1:Inv X pins σ H { s with heap:=h',toks:=tk }:=I.turned (λb o hb e=>kk b o (by simpa using hb) e) f0 f1 f3 f4 f5;obtain⟨o,e,cc,d⟩:=id st';exact⟨_,rfl,FL (s:={ s with heap:=h',toks:=tk }) e cc d ⋯ ⟨.str ⟨#[c]⟩,H,I1,⟨u,rfl⟩,⟨rfl,c,hcx,rfl⟩,st',λb hb=>(hf b hb).1⟩⟩
 done:=by
  k_ne;subst hP hw hK;gn_on;have hg:i=x.cps.size:=hg;subst hg;have W:=Walks.strAscii (prog:=X.prog) (w:=X.w) (I.ok.hd hc) it x t;exact W.done s _ _ st λh' tk kk=>⟨rfl,I.turned (λb o hb e=>kk b o (by simpa using hb) e) f0 f1 f3 f4 f5⟩
 self:=λ_ _ _ _ _ st h=>wpAny_pyIter_striter_ascii st h
section
variable {X:Cx}{tg:aE}
abbrev Xn (tl:TE):TI:=λσ H R=>tl σ H λx H1=>∃y:Str,x=.str y/\y.cps.all (· < 128)=true/\R (Wx y) H1
def SK{tl:TE}(hl:PE X l tl):PI X tg l (Xn tl):=by
 intro pins s σ H R I h;refine jM (hl pins s σ H _ I h) λv s1 h9=>?_;obtain⟨x,H1,I1,r1,q1⟩:=h9;obtain⟨y,e,ha,q⟩:=q1;subst e;obtain⟨t,rfl⟩:=r1;refine wpAny_pyIter_ascii ha ?_;refine⟨s1.heap.objs.size,[s1.heap.objs.size],_,_,H1,rfl,I1.kept (t':=s1.toks) λb o e=>aR _ e,Jw y t _,⟨_,bB _ rfl,rfl,rfl⟩,λb hb=>?_,q⟩;have e:b=s1.heap.objs.size:=by simpa using hb
 subst e;o_rec
def G7:jk X (.type "int") (λxs H Q=>∃(y:Str) (n:Int),xs=[.str y]/\y.length<=640/\PySem.intText? y=some n/\Q (.int n) H):=by
 intro pins s σ H xs us Q I rv h;obtain⟨y,n,rfl,hl,hn,q⟩:=h;obtain⟨w,rfl,rw'⟩:=vals1 rv;obtain⟨u,rfl⟩:=rw';exact PySem.W.KIN.call_text hn hl ⟨.int n,H,I.tok _,⟨_,rfl⟩,q⟩
end
section
variable {κ:Type}[DecidableEq κ]
abbrev sj (kvs:List<|κ×V)(k:κ):Option V:=(kvs.find? λkv=>decide<|kv.1=k).map (·.2)
abbrev putK (kvs:List<|κ×V)(k:κ)(v:V):List (κ×V):=
 if (kvs.any λkv=>decide<|kv.1=k)=true then kvs.map (λkv=>if kv.1=k then(kv.1,v)else kv)else kvs++[(k,v)]
def uh{p:κ×V}{r:List<|κ×V}{k:κ}(e:p.1=k):sj (p::r) k=some p.2:=by simp[sj,cI,e]
def t6{p:κ×V}{r:List<|κ×V}{k:κ}(e:¬p.1=k):sj (p::r) k=sj r k:=by simp[sj,cI,e]
theorem wz(k:κ):∀kvs:List<|κ×V,(kvs.any λkv=>decide<|kv.1=k)=(sj kvs k).isSome
 | []=>rfl
 | p::r=>by
  rw[eZ];by_cases e:p.1=k
  ·dsimp[uh e,aT e,Bool.true_or,isSome_some]
  ·rw[t6 e,aS e,gB];exact wz k r
def qF(kvs:List<|κ×V)(k:κ)(v:V):(putK kvs k v).length<=kvs.length+1:=by
 unfold putK;split
 ·rw[aK];lia
 ·rw[aX,bz,cg];lia
def uG.HS{o:Option V}{u:bb}(r:uG o u):o.isSome=u.isSome:=by
 cases o with
 | none=>cases u with
  | none=>rfl
  | some _=>exact(show False from r).elim
 | some _=>cases u with
  | none=>exact(show False from r).elim
  | some _=>rfl
def uG.getD{o:Option V}{u:bb}{d:V}(r:uG o u)(rd:RelV d d'):RelV (o.getD d) (u.getD d'):=by
 cases o with
 | none=>cases u with
  | none=>exact rd
  | some _=>exact(show False from r).elim
 | some _=>cases u with
  | none=>exact(show False from r).elim
  | some _=>exact r
def KV.val(r:KV kvs vs)(k:κ):uG (sj kvs k) (valueAt vs k):=by
 unfold KV at r
 induction r with
 | nil=>exact True.intro
 | @cons p q ps qs h t ih=>
  obtain⟨h1,h2⟩:=h;by_cases e:p.1=k
  ·have e':q.1=k:=h1.symm.trans e;have b:valueAt (q::qs) k=some q.2:=by simp[valueAt,cI,e']
   rw[uh e,b];exact h2
  ·have e':¬q.1=k:=λz=>e<|h1.trans z;have b:valueAt (q::qs) k=valueAt qs k:=by simp[valueAt,cI,e']
   rw[t6 e,b];exact ih
def KV.any{kvs:List<|κ×V}{vs:List<|κ×af}(r:KV kvs vs)(k:κ):(kvs.any λkv=>decide<|kv.1=k)=vs.any λkv=>decide (kv.1=k):=by
 unfold KV at r
 induction r with
 | nil=>rfl
 | cons h t ih=>rw[eZ,eZ,ih,h.1]
def KV.repl{kvs:List<|κ×V}{vs:List<|κ×af}(r:KV kvs vs)(k:κ)(ry:RelV y u) :
  KV (kvs.map λkv=>if kv.1=k then(kv.1,y)else kv) (vs.map λkv=>if kv.1=k then(kv.1,u)else kv):=by
 unfold KV at r ⊢
 induction r with
 | nil=>exact .nil
 | @cons p q ps qs h t ih=>
  rw[bS,bS];refine .cons ?_ ih;obtain⟨h1,h2⟩:=h;by_cases e:p.1=k
  ·rw[aL e,aL<|h1.symm.trans e];exact⟨h1,ry⟩
  ·rw[aJ e,aJ λz=>e<|h1.trans z];exact⟨h1,h2⟩
def KV.put(r:KV kvs vs)(k:κ)(ry:RelV y u):KV (putK kvs k y) (stored vs k u):=by
 unfold putK stored;rw[r.any k];by_cases e:(vs.any λkv=>decide<|kv.1=k)=true
 ·rw[aL e,aL e];exact r.repl k ry
 ·rw[aJ e,aJ e];exact Paired.snoc r ⟨rfl,ry⟩
def KV.length{kvs:List<|κ×V}{vs:List<|κ×af}(r:KV kvs vs):kvs.length=vs.length:=g9 r
end
def GK{P:aj}{w:ah}{k:Key}(r:RelV (kV k) u):(jn P w).is k u=true:=by
 cases k with
 | inl i=>obtain⟨t,e⟩:=(show ∃t,u=Value.int i t from r);subst e;exact Ck P w i t
 | inr x=>obtain⟨t,e⟩:=(show ∃t,u=Value.str x t from r);subst e;exact BY P w x t
theorem ze{P:aj}{w:ah}:∀{ks:List Key}{us:ar},Vals (ks.map kV) us->ItemsAre (jn P w) ks us
 | [],_,r=>by rw[map_nil]at r;cases r;exact .nil
 | k::ks,_,r=>by
  rw[bS]at r
  cases r with
  | cons h t=>exact .cons (GK h)<|ze t
meta abbrev KT (H:Hp):List (List Key×V)->List (List Key×ak×af)->Prop:=Paired λp q=>p.1=q.1/\H q.2.1=some (.tup<|p.1.map kV)/\RelV p.2 q.2.2
def KT.val{H:Hp}(r:KT H kvs xs)(k:List Key):uG (sj kvs k) ((atKey xs k).map (·.2)):=by
 induction r with
 | nil=>exact True.intro
 | @cons p q ps qs h t ih=>
  obtain⟨h1,_,h2⟩:=h;by_cases e:p.1=k
  ·have e':q.1=k:=h1.symm.trans e;have b:atKey (q::qs) k=some q.2:=by simp[atKey,cI,e']
   rw[uh e,b];exact h2
  ·have e':¬q.1=k:=λz=>e<|h1.trans z;have b:atKey (q::qs) k=atKey qs k:=by simp[atKey,cI,e']
   rw[t6 e,b];exact ih
def KT.repl{H:Hp}{kvs:List<|List Key×V}{xs:List<|List Key×ak×af}(r:KT H kvs xs)(k:List Key)(ry:RelV y u) :
  KT H (kvs.map λkv=>if kv.1=k then(kv.1,y)else kv) (xs.map<|putAt k u):=by
 induction r with
 | nil=>exact .nil
 | @cons p q ps qs h t ih=>
  rw[bS,bS];refine .cons ?_ ih;obtain⟨h1,h2,h3⟩:=h;unfold putAt;by_cases e:p.1=k
  ·rw[aL e,aL<|h1.symm.trans e];exact⟨h1,h2,ry⟩
  ·rw[aJ e,aJ λz=>e<|h1.trans z];exact⟨h1,h2,h3⟩
def KT.put{H:Hp}(r:KT H kvs xs)(k:List Key)(hb:H b=some (.tup<|k.map kV))(ry:RelV y u) :
  KT H (putK kvs k y) (storedH xs k b u):=by
 have e:(kvs.any λkv=>decide<|kv.1=k)=(atKey xs k).isSome:=by
  rw[wz,(r.val k).HS,isSome_map]
 unfold putK storedH;rw[e];by_cases q:(atKey xs k).isSome=true
 ·rw[aL q,aL q];exact r.repl k ry
 ·rw[aJ q,aJ q];exact Paired.snoc r ⟨rfl,hb,ry⟩
def KT.keeps{H H':Hp}(r:KT H kvs xs)(ht:∀b ys,H b=some (.tup ys)->H' b=some (.tup ys)):KT H' kvs xs:=
 Paired.SW r λ_ _ z=>⟨z.1,ht _ _ z.2.1,z.2.2⟩
section
variable {P:aj}{w:ah}{H:Hp}{h:aq}{a:ak}
def Pn(ok:sY P w H h)(e:Rd H a u):jC P w H h a u:=e.ok ok
def GS{kvs:List<|Key×V}(ok:sY P w H h)(e:Rd H a<|.dK kvs):kvs.length<=sizeLine/\(a == sysModules)=false/\∃vs,KV kvs vs/\h.DictOf (jn P w) a vs:=
 show jC P w H h a (.dK kvs)from Pn ok e
def PZ{kvs:List<|Key×V}(ok:sY P w H h)(e:H a=some (.dK kvs)):kvs.length<=sizeLine/\(a == sysModules)=false/\∃vs,KV kvs vs/\h.DictOf (jn P w) a vs:=GS ok<|.inl e
def zu{ks:List Key}(ok:sY P w H h)(e:H a=some (.tup<|ks.map kV)):(tupleKind<|jn P w).is h ks a:=by
 obtain⟨_,its,r,o,h1,h2,_,n,h3⟩:=(show jC P w H h a (.tup<|ks.map kV)from ok a _ e);exact⟨o,its.toArray,n,h1,h2,h3,by simpa using ze r⟩
def Fd{kvs:List<|List Key×V}(ok:sY P w H h)(e:Rd H a<|.dT kvs):kvs.length<=sizeLine/\(a == sysModules)=false /\
  ∃xs,KT H kvs xs/\h.DictOfH (tupleKind<|jn P w) a xs:=by
 obtain⟨z,y,xs,r,o,es,ep,h1,h2,h3,h4,h5⟩:=(show jC P w H h a (.dT kvs)from Pn ok e);refine⟨z,y,xs,r,o,es,ep,h1,h2,h3,h4,λx hx=>?_,h5⟩;have all:∀{l:List<|List Key×V} {m:List<|List Key×ak×af},KT H l m->∀x∈m,(tupleKind<|jn P w).is h x.1 x.2.1:=by
  intro l m q
  induction q with
  | nil=>intro x hx;exact nomatch hx
  | @cons p q ps qs hq t ih=>
   intro x hx
   rcases bJ.mp hx with e|hx
   ·subst e;exact zu ok (by rw[<- hq.1];exact hq.2.1)
   ·exact ih x hx
 exact all r x hx
def UG{kvs:List<|List Key×V}(ok:sY P w H h)(e:H a=some (.dT kvs)):kvs.length<=sizeLine/\(a == sysModules)=false /\
  ∃xs,KT H kvs xs/\h.DictOfH (tupleKind<|jn P w) a xs:=Fd ok<|.inl e
end
abbrev Ag (H:Hp)(a:ak)(y:V)(r:Option V):Prop:=
 (∃kvs k,Rd H a (.dK kvs)/\y=kV k/\r=sj kvs k)\/∃kvs k b,Rd H a (.dT kvs)/\y=.ref b/\H b=some (.tup<|k.map kV)/\r=sj kvs k
abbrev KR (H:Hp)(a:ak)(y v:V)(H':Hp):Prop:=
 (∃kvs k,H a=some (.dK kvs)/\y=kV k/\kvs.length<sizeLine/\H'=upd H a (.dK<|putK kvs k v)) \/
 ∃kvs k b,H a=some (.dT kvs)/\y=.ref b/\H b=some (.tup<|k.map kV)/\kvs.length<sizeLine/\H'=upd H a (.dT<|putK kvs k v)
theorem Ag.k{H:Hp}{a:ak}{k:Key}(e:H a=some (.dK kvs)):Ag H a (kV k) (sj kvs k):=.inl ⟨kvs,k,.inl e,rfl,rfl⟩
theorem KR.k{H:Hp}{a:ak}{kvs:List<|Key×V}{k:Key}{v:V}(e:H a=some (.dK kvs))(hl:kvs.length<sizeLine):KR H a (kV k) v (upd H a<|.dK<|putK kvs k v):=.inl ⟨kvs,k,e,rfl,hl,rfl⟩
section
variable {X:Cx}{pins:bn}{σ:St}{H:Hp}{s:aC}{a:ak}{y v:V}{u r:af}{o:Option V}{A:aA}{E:af->aC->Prop}
def Inv.big(I:Inv X pins σ H s):sysModules<s.heap.objs.size:=by
 have h:mainGlobals<s.heap.objs.size:=(I.mod.glob.keeps I.bk).lt;exact lt_trans ⋯ h
def Hh{Q:af->aC->Prop}(hu:A.units+1<cLine)(I:Inv X pins σ H s)(g:Ag H a y<|some v)(ry:RelV y u)(h:∀w' s',Inv X pins σ H s'->RelV v w'->Q w' s') :
  wpAny (model X.prog X.w) A (getItem (.ref a) u) Q E s:=by
 rcases g with⟨kvs,k,e,ey,l⟩|⟨kvs,k,b,e,ey,eb,l⟩
 ·subst ey;obtain⟨z,hd,vs,rel,dd⟩:=GS I.hok e;obtain⟨w',hw,rw'⟩:=uG.some_of (v:=v) (o:=valueAt vs k) (by rw[l];exact rel.val k);exact wpAny_getItem_of (GK ry) dd.mapOf hw (h w' _ (I.tok _) rw')
 ·subst ey
  cases(show u=Value.ref b from ry)
  obtain⟨z,hd,xs,rel,dd⟩:=Fd I.hok e;obtain⟨w',hw,rw'⟩:=uG.some_of (v:=v) (o:=(atKey xs k).map (·.2)) (by rw[l];exact rel.val k);obtain⟨p,hp,hp2⟩:=bu.mp hw;refine wpAny_getItem_heap (gX hu) (zu I.hok eb) dd hp ?_;rw[hp2];exact h w' _ (I.tok _) rw'
def zl{h':aq}{t':Nat}{ob:HO}(I:Inv X pins σ H s)(mu:UA<|H a)(hs:Heap.SameBut a s.heap h')(he:∃q,h'.get? a=some q)(new:jC X.prog X.w (upd H a ob) h' a ob) :
  Inv X pins σ (upd H a ob) { s with heap:=h',toks:=t' }:=
 I.write (x:=a) (e:=a) mu (.inl rfl) (λb q hb z=>(hs.2 b hb).trans z) he new
def Kr{P:aj}{w:ah}{H':Hp}{h':aq}{kvs:List<|Key×V}(z:kvs.length<=sizeLine)(hd:(a == sysModules)=false)(rel:KV kvs vs)(dd:h'.DictOf (jn P w) a vs) :
  jC P w H' h' a (.dK kvs):=⟨z,hd,vs,rel,dd⟩
def Hl{H':Hp}{Q:Unit->aC->Prop}(hu:A.units+1<cLine)(I:Inv X pins σ H s)(g:KR H a y v H')(ry:RelV y u)(rv:RelV v r)(h:∀s',Inv X pins σ H' s'->Q Unit.unit s') :
  wpAny (model X.prog X.w) A (setItem (.ref a) u r) Q E s:=by
 rcases g with⟨kvs,k,e,ey,l,eH⟩|⟨kvs,k,b,e,ey,eb,l,eH⟩
 ·subst ey eH;obtain⟨z,hd,vs,rel,dd⟩:=PZ I.hok e;have hz:vs.length<=sizeLine:=by rw[<- rel.length];exact z
  have hl:(putK kvs k v).length<=sizeLine:=by have:=qF kvs k v;lia
  refine wpAny_setItem_pairs (hsz:=hz) (GK ry) dd λh' dd' hs=>h _ ?_;have he:∃q,h'.get? a=some q:=let⟨q,_,_,hq,_⟩:=dd';⟨q,hq⟩
  exact zl I (by rw[e];exact True.intro) hs he<|Kr hl hd (rel.put k rv) dd'
 ·subst ey eH
  cases(show u=Value.ref b from ry)
  obtain⟨z,hd,xs,rel,dd⟩:=UG I.hok e;have hz:xs.length<=sizeLine:=by rw[<- g9 rel];exact z
  have hl:(putK kvs k v).length<=sizeLine:=by have:=qF kvs k v;lia
  refine wpAny_setItem_heap (hsz:=hz) (gX hu) (zu I.hok eb) dd λh' dd' hs=>h _ ?_;obtain⟨q,es,ep,hq,h2,h3,h4,_,h5⟩:=dd';refine zl I (by rw[e];exact True.intro) hs ⟨q,hq⟩ ⟨hl,hd,_,(rel.put k eb rv).keeps λc ys ec=>?_,q,es,ep,hq,h2,h3,h4,h5⟩;rw[iR<|Uj ec e λz=>nomatch z];exact ec
end
def BC{X:Cx}{H:Hp}{s:aC}{a:ak}(I:Inv X pins σ H s)(g:Ag H a y o):s.TypeIs (.ref a) "dict" := by
 rcases g with⟨kvs,k,e,_,_⟩|⟨kvs,k,b,e,_,_,_⟩
 ·obtain⟨_,_,vs,_,dd⟩:=GS I.hok e;exact dd.typeIs
 ·obtain⟨_,_,xs,_,dd⟩:=Fd I.hok e;exact dd.typeIs
def MD{P:aj}{w:ah}{H:Hp}(h:aq)(hb:sysModules<h.objs.size):jC P w H (h.push { cls:=.type "dict",data:=.dict #[]}) h.objs.size (.dK []):=
 ⟨cL _,cW.mpr<|dc<|bD hb,[],.nil,Heap.DictOf.new h⟩
abbrev Se:TE:=λ_ H Q=>∀p,H p=none->Q (.ref p) (upd H p<|.dK [])
section
variable {X:Cx}{pos:Pos}
def Ks:PE X (.Dict [] [] pos) Se:=λpins s σ H Q I h=>
 wpAny_Dict_empty ⟨.ref s.heap.objs.size,_,I.laid (a:=s.heap.objs.size) (o:=.dK []) (t':=s.toks) (λ_ _ q=>aR _ q) (aQ _)<|MD s.heap I.big,rfl,h _<|I.hok.fresh<|aQ _⟩
end
structure M1 (X:Cx)(o:aE)(m:Str)(apos:Pos)(e:aE)(cpos:Pos):Prop where
 base:attributeBase o m X.env (eval o X.env)=eval o X.env
 few:((backTo cpos<|starEach [e] X.env).all (λx=>!x.1) && (backToKw cpos<|keywordEach [] X.env).all (λx=>x.1.isSome)
  && decide (([e]:List aE).length+([]:List Keyword).length+(if ([]:List Keyword).isEmpty then 0 else 1)<30))=true
 line:(apos.endLine == cpos.line)=true
 trees:backTo cpos (starEach [e] X.env)=[(false,eval e X.env)]
structure M2 (X:Cx)(o:aE)(m:Str)(apos:Pos)(e f:aE)(cpos:Pos):Prop where
 base:attributeBase o m X.env (eval o X.env)=eval o X.env
 few:((backTo cpos<|starEach [e,f] X.env).all (λx=>!x.1) && (backToKw cpos<|keywordEach [] X.env).all (λx=>x.1.isSome)
  && decide (([e,f]:List aE).length+([]:List Keyword).length+(if ([]:List Keyword).isEmpty then 0 else 1)<30))=true
 line:(apos.endLine == cpos.line)=true
 trees:backTo cpos (starEach [e,f] X.env)=[(false,eval e X.env),(false,eval f X.env)]
section
variable {X:Cx}{pins:bn}{σ:St}{H:Hp}{s:aC}{a:ak}{y d:V}{u r:af}{o:Option V}{A:aA}{E:af->aC->Prop}
def Rk{Q:af->aC->Prop}(hu:A.units+1<cLine)(I:Inv X pins σ H s)(g:Ag H a y o)(ry:RelV y u)(rd:RelV d r)(h:∀w' s',Inv X pins σ H s'->RelV (o.getD d) w'->Q w' s') :
  wpAny (model X.prog X.w) A (call (.builtin "dict.get") [.ref a,u,r]) Q E s:=by
 rcases g with⟨kvs,k,e,ey,l⟩|⟨kvs,k,b,e,ey,eb,l⟩
 ·subst ey;obtain⟨z,hd,vs,rel,dd⟩:=GS I.hok e;refine call_meetsIn ff dd.typeIs PySem.F.entry_dict_get (PySem.F.args_dict_get_3 _ _ _) (meets_dict_get_default (jn X.prog X.w) a (GK ry) hd r) ⟨_,dd.mapOf,h _ _ (I.tok _) ?_⟩;rw[l];exact(rel.val k).getD rd
 ·subst ey
  cases(show u=Value.ref b from ry)
  obtain⟨z,hd,xs,rel,dd⟩:=Fd I.hok e;refine call_meetsIn ff dd.typeIs PySem.F.entry_dict_get (PySem.F.args_dict_get_3 _ _ _) (meetsH_dict_get_default (tupleKind<|jn X.prog X.w) a b hd r) ⟨gX hu,k,xs,zu I.hok eb,dd,h _ _ (I.tok _) ?_⟩;rw[l];exact(rel.val k).getD rd
end
meta abbrev kg:=ae×ae
abbrev pW (x:ae):Int:=reduceHash<|Builtin.Tuple.tupleHashOf<|x.map hashInt
abbrev D8 (k:kg):Int:=reduceHash<|Builtin.Tuple.tupleHashOf [pW k.1,pW k.2]
abbrev Yd (x:(kg×ak×af)):DictEntry:=⟨D8 x.1,.ref x.2.1,x.2.2⟩
abbrev sI (a:ak)(xs:List<|kg×ak×af)(h:aq):Prop:=(a == sysModules)=false/\xs.length<=sizeLine/\∃o es ep,h.get? a=some o/\o.ExactDict/\o.data=.dict es ep/\es.toList=xs.map Yd/\(xs.map (·.1)).Nodup
abbrev pT (H:Hp)(b:ak)(k:kg):Prop:=∃r1 r2,H b=some (.tup [.ref r1,.ref r2])/\H r1=some (.tup<|k.1.map V.int)/\H r2=some (.tup<|k.2.map V.int)
section
variable {P:aj}{w:ah}{A:aA}{E:af->aC->Prop}{s:aC}
meta abbrev TK (h:aq)(x:ae)(a:ak):Prop:=∃o items n,h.get? a=some o/\o.cls=.type "tuple" /\ o.data=.seq items n/\IntsAre items.toList x
theorem wj{P:aj}{w:ah}:∀{x:ae}{vs:ar},IntsAre vs x->ItemsAre (intKind P w) x vs
 | _,_,.nil=>.nil
 | _,_,.cons n t h=>.cons (intKind_is _ _ _ _)<|wj h
def sA{x:ae}{a:ak}:TK h x a->IsTupleKey (intKind P w) h x a:=λ⟨o,its,n,h1,h2,h3,h4⟩=>⟨o,its,n,h1,h2,h3,wj h4⟩
theorem Bb:∀{x y:ae}{vs:ar},IntsAre vs x->IntsAre vs y->x=y
 | _,_,_,.nil,.nil=>rfl
 | _,_,_,.cons n t h,.cons _ _ h'=>by rw[Bb h h']
abbrev rV (h:aq)(k:kg)(a:ak):Prop:=∃o n a1 a2,h.get? a=some o/\o.cls=.type "tuple" /\ o.data=.seq #[.ref a1,.ref a2] n/\TK h k.1 a1/\TK h k.2 a2
def rV.ty{k:kg}{a:ak}(x:rV s.heap k a):s.TypeIs (.ref a) "tuple" := let⟨o,_,_,_,ho,hc,_⟩:=x;⟨o,ho,hc⟩
def TK.inj{a:ak}{x:ae}(hx:TK h x a)(hy:TK h y a):x=y:=by
 obtain⟨o,items,n,ho,_,hd,hi⟩:=hx;obtain⟨o',items',n',ho',_,hd',hi'⟩:=hy;obtain rfl:o=o':=aU<|ho.symm.trans ho';rw[hd]at hd'
 injection hd' with h1 _
 subst h1;exact Bb hi hi'
def rV.inj{a:ak}{x:kg}(hx:rV h x a)(hy:rV h y a):x=y:=by
 obtain⟨o,n,a1,a2,ho,_,hd,h1,h2⟩:=hx;obtain⟨o',n',b1,b2,ho',_,hd',h1',h2'⟩:=hy;obtain rfl:o=o':=aU<|ho.symm.trans ho';rw[hd]at hd'
 injection hd' with e _
 have e:=dj Array.toList e
 injection e with e1 e2
 injection e2 with e2 _
 injection e1 with e1
 injection e2 with e2
 subst e1 e2;exact Prod.ext (h1.inj h1')<|h2.inj h2'
def A_{h:aq}{x:ae}{a d:ak}{o:Obj}{es ep}(k:TK h x a)(ho:h.get? d=some o)(hd:o.data=.dict es ep)(hs:Heap.SameBut d h h'):TK h' x a:=by
 obtain⟨o',items,n,ho',hc,hd',hi⟩:=k;have hne:a≠d:=by
  rintro rfl;obtain rfl:o'=o:=aU<|ho'.symm.trans ho;rw[hd]at hd';exact nomatch hd'
 exact⟨o',items,n,(hs.2 a hne).trans ho',hc,hd',hi⟩
def rV.keeps{h:aq}{k:kg}{a d:ak}{o:Obj}{es ep}(x:rV h k a)(ho:h.get? d=some o)(hd:o.data=.dict es ep)(hs:Heap.SameBut d h h'):rV h' k a:=by
 obtain⟨o',n,a1,a2,ho',hc,hd',h1,h2⟩:=x;have hne:a≠d:=by
  rintro rfl;obtain rfl:o'=o:=aU<|ho'.symm.trans ho;rw[hd]at hd';exact nomatch hd'
 exact⟨o',n,a1,a2,(hs.2 a hne).trans ho',hc,hd',A_ h1 ho hd hs,A_ h2 ho hd hs⟩
def GZ{k:kg}{a:ak}{Q:Int->aC->Prop}(hu:A.units+8<cLine)(hk:rV s.heap k a)(h:Q (D8 k) { s with toks:=s.toks+(k.1.length+1+(k.2.length+1)+1)}) :
  wpAny (model P w) A (pyHash<|.ref a) Q E s:=by
 have hT:=hk.ty;obtain⟨o,n,a1,a2,ho,_,hd,h1,h2⟩:=hk;unfold pyHash
 first|unfold pyHashByItsType|skip
 first|refine aH (wpAny_cRoomFor_or (.inr ()) ?_)|skip
 refine aH<|eV hT f7.lookup ?_;show wpAny _ _ (if (some (Value.builtin "tuple.__hash__") == some Value.none)=true then _ else _) Q E s;rw[aJ<|by rw[beq_builtin_none];exact bH];refine aH<|eV hT f7.lookup ?_;show wpAny _ _ (callSpecialIfBoundUnlessNone? (.ref a) "__hash__" _ >>= _) Q E s;refine aH<|wpAny_callSpecialIfBoundUnlessNone?_slot hT f7<|dR f7 hT F.entry_tuple_hash ?_<|F.args_tuple_hash_1 _;show wpAny _ _ (Builtin.Tuple.tupleItemsOf (.ref a) >>= _) _ _ s;refine aH<|gY ho hd ?_;refine aH ?_;rw[<- gZ];refine gv _
  (λrest (b:Array Int) s'=>(rest=[.ref a1,.ref a2]/\b.toList=[]/\s'=s)\/(rest=[.ref a2]/\b.toList=[pW k.1]/\s'={ s with toks:=s.toks+(k.1.length+1)})\/(rest=[]/\b.toList=[pW k.1,pW k.2]/\s'={ s with toks:=s.toks+(k.1.length+1)+(k.2.length+1)}))
  _ ?_ ?_ _ _ (.inl ⟨rfl,rfl,rfl⟩)
 ·rintro x rest b s' (⟨e,hb,rfl⟩|⟨e,hb,rfl⟩|⟨e,_,_⟩)
  ·cases e
   refine aH (wpAny_pyHash_tuple (knd:=intKind P w) (ks:=k.1) (by simp;lia) (sA h1) ?_)
   first
    | exact aO (.inr<|.inl ⟨rfl,by rw[fh,hb];rfl,rfl⟩)
    | exact aH<|aO<|aO<|.inr<|.inl ⟨rfl,by rw[fh,hb];rfl,rfl⟩
  ·cases e
   refine aH (wpAny_pyHash_tuple (knd:=intKind P w) (ks:=k.2) (by simp;lia) (sA h2) ?_)
   first
    | exact aO (.inr<|.inr ⟨rfl,by rw[fh,hb];rfl,rfl⟩)
    | exact aH<|aO<|aO<|.inr<|.inr ⟨rfl,by rw[fh,hb];rfl,rfl⟩
  ·cases e
 ·rintro b s' (⟨e,_,_⟩|⟨e,_,_⟩|⟨_,hb,rfl⟩)
  ·cases e
  ·cases e
  ·show wpAny _ _ (retInt<|Builtin.Tuple.tupleHashOf b.toList) _ _ _;rw[hb];refine wpAny_ret_mkInt ?_;show wpAny _ _ (if (decide (-(2:Int) ^ 63<=Builtin.Tuple.tupleHashOf [pW k.1,pW k.2]) && decide (Builtin.Tuple.tupleHashOf [pW k.1,pW k.2]<2 ^ 63))=true then _ else _) Q E _;unfold D8 reduceHash at h;by_cases hr:(decide (-(2:Int) ^ 63<=Builtin.Tuple.tupleHashOf [pW k.1,pW k.2]) && decide (Builtin.Tuple.tupleHashOf [pW k.1,pW k.2]<2 ^ 63))=true
   ·rw[aL hr];rw[aL hr]at h;exact aO (by simpa[e9]using h)
   ·rw[aJ hr];rw[aJ hr]at h;exact aH<|dW<|aO<|by simpa[e9]using h
def Af{x:kg}{a:ak}{R:Fin->aC->Prop}(hu:A.units+8<cLine)(hx:rV s.heap x a)(hy:rV s.heap y b)(h:R (.done<|.ret<|.bool<|decide<|x=y) s) :
  wpAny (model P w) A (Builtin.«tuple.__eq__» ⟨[.ref a,.ref b],[]⟩) R E s:=by
 have hTb:=hy.ty;obtain⟨oa,na,a1,a2,hoa,_,hda,h1,h2⟩:=hx;obtain⟨ob,nb,b1,b2,hob,_,hdb,h1',h2'⟩:=hy;show wpAny _ _ (isInstance (.ref b) (.type "tuple") >>= _) _ _ s;refine aH<|wpAny_isInstance hTb gh ?_;dsimp[b_,aZ,bN];refine aH<|gY hoa hda ?_;refine aH<|gY hob hdb ?_;refine aH ?_;refine gv _
  (λrest r s'=>r.1=none/\s'=s/\((rest=[(.ref a1,.ref b1),(.ref a2,.ref b2)])\/(rest=[(.ref a2,.ref b2)]/\x.1=y.1)\/(rest=[]/\x=y)))
  _ ?_ ?_ _ _ ⟨rfl,rfl,.inl rfl⟩
 ·rintro⟨u,v⟩ rest r s' ⟨hr,rfl,e|⟨e,hq⟩|⟨e,_⟩⟩
  ·cases e
   refine aH<|wpAny_eqBool_tuple (knd:=intKind P w) (x:=x.1) (y:=y.1) () (sA h1) (sA h1') ?_;by_cases hk:x.1=y.1
   ·rw[aT hk];dsimp[b_,aZ,bN];exact aO ⟨rfl,rfl,.inr<|.inl ⟨trivial,hk⟩⟩
   ·rw[aS hk];dsimp[dI,cE];rw[aS λz=>hk<|by rw[z]]at h;exact aH<|aO<|aO<|aO h
  ·cases e
   refine aH<|wpAny_eqBool_tuple (knd:=intKind P w) (x:=x.2) (y:=y.2) () (sA h2) (sA h2') ?_;by_cases hk:x.2=y.2
   ·rw[aT hk];dsimp[b_,aZ,bN];exact aO ⟨rfl,rfl,.inr<|.inr ⟨trivial,Prod.ext hq hk⟩⟩
   ·rw[aS hk];dsimp[dI,cE];rw[aS λz=>hk<|by rw[z]]at h;exact aH<|aO<|aO<|aO h
  ·cases e
 ·rintro⟨r1,r2⟩ s' ⟨hr,rfl,e|⟨e,_⟩|⟨_,e⟩⟩
  ·cases e
  ·cases e
  ·simp only at hr;subst hr;refine aO ?_;rw[aT e]at h;exact h
def Ol{x:kg}{a:ak}{Q:Bool->aC->Prop}(hu:A.units+16<cLine)(hx:rV s.heap x a)(hy:rV s.heap y b)(h:Q (decide<|x=y) s):wpAny (model P w) A (eqBool (.ref a)<|.ref b) Q E s:=by
 unfold eqBool
 try with_reducible refine dg ?_
 show wpAny _ _ (if (Value.ref a == Value.ref b)=true then _ else _) Q E s;by_cases hab:(Value.ref a == Value.ref b)=true
 ·rw[aL hab];have e:a=b:=by have:=eq_of_beq hab;injection this
  subst e;obtain rfl:=hx.inj hy;exact aH<|dW<|aO<|by simpa using h
 ·rw[aJ hab];exact aH (wpAny_richCompare_same_room (op:=.Eq) hx.ty hy.ty gK
   (dR gK hx.ty F.entry_tuple_eq (Af (by simp;lia) hx hy ⟨_,rfl,(λe=>nomatch e),cY h⟩)<|F.args_tuple_eq_2 _ _) ())
def K7{n:Nat}{x:ae}{a:ak}{Q:Bool->aC->Prop}(hk:TK s.heap x a)(h:Q true s):wpAny (model P w) A (eqIsQuiet (n+1)<|.ref a) Q E s:=by
 have hk:=sA (P:=P) (w:=w) hk;have hT:=hk.typeIs;obtain⟨o,items,m,ho,_,hd,hi⟩:=hk;unfold eqIsQuiet;refine aH<|eV hT gK.lookup ?_;show wpAny _ _ (isInstance (.ref a) (.type "tuple") >>= _) _ _ s;refine aH<|wpAny_isInstance hT gh ?_;dsimp[b_,aZ,bN];refine aH<|f6 ho hd ?_;refine aH ?_;show wpAny _ _ (forIn items _ _) _ _ s;rw[<- gZ];refine gv _ (λrest r s'=>r.1=none/\s'=s/\∀v∈rest,carriedByValue v=true) _ ?_ ?_ _ _ ⟨rfl,rfl,hi.byValue⟩
 ·rintro v rest r s' ⟨hr,rfl,hall⟩;rw[eqIsQuiet_byValue _<|hall v aN];refine aH<|aO ?_;dsimp[b_,aZ,bN];exact aO ⟨rfl,rfl,λu hu'=>hall u<|aP _ hu'⟩
 ·rintro⟨r1,r2⟩ s' ⟨hr,rfl,_⟩;simp only at hr;subst hr;exact aO h
def Dq{k:kg}{a:ak}{Q:Bool->aC->Prop}(hk:rV s.heap k a)(h:Q true s):wpAny (model P w) A (eqIsQuiet 8<|.ref a) Q E s:=by
 have hT:=hk.ty;obtain⟨o,m,a1,a2,ho,_,hd,h1,h2⟩:=hk;unfold eqIsQuiet;refine aH<|eV hT gK.lookup ?_;show wpAny _ _ (isInstance (.ref a) (.type "tuple") >>= _) _ _ s;refine aH<|wpAny_isInstance hT gh ?_;dsimp[b_,aZ,bN];refine aH<|f6 ho hd ?_;refine aH ?_;show wpAny _ _ (forIn (#[Value.ref a1,.ref a2]:Array af) _ _) _ _ s;rw[<- gZ];refine gv _ (λrest r s'=>r.1=none/\s'=s/\∀v∈rest,∃c x,v=Value.ref c/\TK s.heap x c) _ ?_ ?_ _ _ ⟨rfl,rfl,λv hv=>by
  rcases bJ.mp hv with e|hv
  ·exact⟨a1,k.1,e,h1⟩
  ·exact⟨a2,k.2,by simpa using hv,h2⟩⟩
 ·rintro v rest r s' ⟨hr,rfl,hall⟩;obtain⟨c,x,rfl,hx⟩:=hall v aN;refine aH<|K7 hx ?_;dsimp[b_,aZ,bN];exact aO ⟨rfl,rfl,λu hu'=>hall u<|aP _ hu'⟩
 ·rintro⟨r1,r2⟩ s' ⟨hr,rfl,_⟩;simp only at hr;subst hr;exact aO h
end
abbrev Bx (P:aj)(w:ah):HeapKind P w kg where
 is:=rV
 hash:=D8
 draws:=λk=>k.1.length+1+(k.2.length+1)+1
 room:=λA=>A.units+16<cLine
 inj:=λhx hy=>hx.inj hy
 keeps:=λx ho hd hs=>x.keeps ho hd hs
 pyHash:=λhu hk h=>GZ () hk h
 eqBool:=λhu hx hy h=>Ol hu hx hy h
 quiet:=λhk h=>Dq hk h
section
variable {X:Cx}
def Nq(hu:X.A.units+1<cLine):M_ X (λx y H Q=>∃a v,x=.ref a/\Ag H a y (some v)/\Q v H):=by
 ksr_p;obtain⟨a,z,rfl,g,q⟩:=h
 cases rx
 have hT:=BC I g;unfold subscriptTail;refine aH ?_;rw[getitemInPython_of_ne hT.not_modules];refine aH<|eV hT PySem.F.slot_dict_getitem.lookup ?_;have fin:wpAny (model X.prog X.w) X.A (subscripted slice false (.ref a) u) (λr s₃=>wpAny (model X.prog X.w) X.A (letTemporaryGo value (.ref a) r >>= λ_=>pure r) (EP X pins σ Q) X.xe s₃) X.xe s:=by
  rw[hs];exact wpAny_operating<|Hh hu I g ry λw' s3 I3 rw'=>aH<|wpAny_letTemporaryGo<|aO ⟨z,H,I3,rw',q⟩
 first
  | exact aO (aH fin)
  | exact aH (aO<|aH fin)
  | exact aH fin
def set_dict(hu:X.A.units+1<cLine):Bw X (λo i v H Q=>∃a H',o=.ref a/\KR H a i v H'/\Q H'):=by
 intro pins s σ H o i v ov iv u Q I ro ri rv h;obtain⟨a,H',rfl,g,q⟩:=h
 cases ro
 exact Hl hu I g ri rv λs4 I4=>⟨H',I4,q⟩
end
abbrev C0 (e:ak)(h:aq):Prop:=∃o vs,h.get? e=some o/\o.data=.fields vs/\vs[2]?=some .none/\o.dict=none
structure Fly (l:List Env)(g:aq)(pn:bn)(H:Hp)(e:ak)(cls:af)(h:aq):Prop where
 ex:∃(B:aq) (a0:af),Heap.FlyingW B l e cls a0 h/\(∀a u,H a=some u->∃o,B.get? a=some o)/\(∀b o,g.get? b=some o->b∉frs l->∃o',B.get? b=some o')/\(∀p∈pn,∃o',B.get? p.1=some o')/\C0 e h
structure Made (X:Cx)(H:Hp)(e:ak)(cls:af)(g:aq)(h:aq):Prop where
 ex:∃(g':aq) (vs:ar),Heap.MadeExcOf g' h e cls vs/\g'.FunFrames X.base X.stack/\(∀a u,H a=some u->∃o,g'.get? a=some o)/\(∀b o,g.get? b=some o->∃o',g'.get? b=some o')/\(∀p∈X.pn,∃o',g'.get? p.1=some o')
abbrev QD (X:Cx)(H:Hp)(e:ak)(cls:af)(s':aC):Prop:=Made X H e cls X.s₀.heap s'.heap\/Fly X.stack X.s₀.heap X.pn H e cls s'.heap
section
abbrev EX (X:Cx):XK:=λcls _ H'=>X.ex=[]/\∀pins σ' s' e,Inv X pins σ' H' s'->QD X H' e cls s'->X.xe (.ref e) s'
end
inductive FParts (X:Cx):List aE->List (Str ⊕ TE)->Prop
 | nil:FParts X [] []
 | txt {x:Str} {j pos} {es:List aE} {ps:List<|Str ⊕ TE} (h:FParts X es ps):FParts X (.Constant (.str x) j pos::es) (.inl x::ps)
 | val {e:aE} {pos:Pos} {t:TE} {es:List aE} {ps:List<|Str ⊕ TE} (he:PE X e t) (h:FParts X es ps):FParts X (.FormattedValue e (-1) none pos::es) (.inr t::ps)
abbrev xu:HO:=.ext λ_=>True
structure XO (C:ak)(o:Obj):Prop where
 cls:o.cls=.ref C
 dict:o.dict=none
 ctx:∃vs,o.data=.fields vs/\vs[2]?=some .none
structure Fr0 (X:Cx)(e:ak):Prop where
 no:∀o,X.s₀.heap.get? e≠some o
 tup:∀xs,X.H₀ e≠some (.tup xs)
 frz:∀o u,X.H₀ e≠some (.frz o u)
 tbl:∀ps,X.H₀ e≠some (.tbl ps)
abbrev mroIn (K:au)(C:ak):Option (ar):=match K.lookup C with
 | some ⟨.type "type",_,.cls cd,sl⟩=>(match cd.mro,sl.toList with
  | .ref C'::bm,[_,_,_,_,some<|.builtin _,_]=>if C'=C/\cd.hasDel=false then some bm else none
  | _,_=>none)
 | _=>none
structure ClsAt (h:aq)(C:ak)(bm:ar):Prop where
 ex:∃nm q N bs hdct sn sub ab col dd k0 k1 k2 k3 k5 newId,h.get? C=some (excClassObj nm q C N bs bm hdct sn sub ab col dd k0 k1 k2 k3 k5 newId)
open PySem.W in
structure XCls (K:au)(C:ak):Prop where
 ga:findIn K (.ref C) "__getattribute__" = some (some<|.builtin "BaseException.__getattribute__")
 gt:findIn K (.ref C) "__getattr__" = some none
 fc:findObj K C none "__class__" = some (.bind (.builtin "getset_descriptor.__get__")<|.builtin "object.__class__")
 ob:PySem.W.mroIn K C (.type "object")=some true
 bs:subIn K (.ref C) (.type "BaseException")=some true
abbrev SD (A:aA):aA:={ A with handled:=none }
abbrev Vx (k:Nat)(A:aA):Prop:=Room k<|SD A
structure Hnd (A:aA)(H:Hp)(e:ak)(oe:Obj)(C:ak):Prop where
 hh:A.handled=some (.ref e)
 h0:H e=some (.frz oe xu)
 xo:XO C oe
structure FnOkH (P:aj)(w:ah)(K:au)(mg:Str->bb)(base:aq)(k:Nat)(f:ak)(fd:FuncData)(ps:ap)(sp:Sp):Prop where
 len:∀vs H Q E,sp vs H Q E->vs.length=ps.length
 run:∀(A:aA) (outer:List Env) (s:aC) (H:Hp) (args:Args) (us:ar) (vs:List V) (Q:VK) (e:ak) (oe:Obj) (C:ak),Vx k A->Hnd A H e oe C->Env0 P w K mg base A outer s H->BindsTo s fd args (ps.zip us)->Vals vs us->sp vs H Q E0 ->
  codeAny (model P w) A (.call (.ref f) args) (CR nW outer P w H s Q E0) s
def yS(a b:Int):Builtin.Range.rangeSize a b (-1)=if a>b then a-b else 0:=by
 unfold Builtin.Range.rangeSize;dsimp[show ¬((-1:Int)>0)by decide,bN,Int.neg_neg,ediv_one];split<;>lia
def small_down{a b:Int}(ha:-(2 ^ 62)<=a)(ha':a<2 ^ 62)(hb:-(2 ^ 62)<=b)(hb':b<2 ^ 62):Builtin.Range.small a b (-1)=true:=by
 unfold Builtin.Range.small;rw[yS];dsimp[Builtin.Range.rangeFitsLong,dz,Bool.or_eq_true,fj,beq_iff_eq,show ¬((-1:Int)>0)by decide,bN];split<;>lia
end L2
namespace Sx
open PySem PyProof.Rows
structure Ord where
 lt:Nat->Nat->Bool
 NL:∀i,lt i i=false
 tr:∀i j k,lt i j=true->lt j k=true->lt i k=true
 neg:∀i j k,lt i k=true->lt i j=true\/lt j k=true
abbrev P (o:Ord)(i j:Nat):Prop:=o.lt i j=true\/(o.lt j i=false/\i<j)
def Ord.Wv(o:Ord)(h:o.lt i j=true):o.lt j i=false:=by
 cases e:o.lt j i with
 | false=>rfl
 | true=>have:=o.tr _ _ _ h e;rw[o.NL]at this;cases this
def P.NL(h:P o i i):False:=by
 rcases h with h|⟨_,h⟩
 ·rw[o.NL]at h;cases h
 ·lia
def P.trans{k:Nat}(a:P o i j)(b:P o j k):P o i k:=by
 rcases a with a|⟨a,a'⟩
 ·rcases b with b|⟨b,b'⟩
  ·exact .inl (o.tr _ _ _ a b)
  ·rcases o.neg i k j a with z|z
   ·exact .inl z
   ·rw[b]at z;cases z
 ·rcases b with b|⟨b,b'⟩
  ·rcases o.neg j i k b with z|z
   ·rw[a]at z;cases z
   ·exact .inl z
  ·refine .inr ⟨?_,()⟩
   cases e:o.lt k i with
   | false=>rfl
   | true=>
    rcases o.neg k j i e with z|z
    ·rw[b]at z;cases z
    ·rw[a]at z;cases z
def P.of_lt{o:Ord}(h:o.lt i j=true):P o i j:=.inl h
def P.vc{o:Ord}(h:o.lt j i=false)(hij:i<j):P o i j:=.inr ⟨h,hij⟩
def P.lt{o:Ord}(h:P o i j)(hij:j<i):o.lt i j=true:=by
 rcases h with h|⟨_,h⟩
 ·exact h
 ·lia
def P.ge{o:Ord}(h:P o i j):o.lt j i=false:=by
 rcases h with h|⟨h,_⟩
 ·exact o.Wv h
 ·exact h
abbrev So (o:Ord)(g:Nat->Nat)(a b:Nat):Prop:=∀i j,a<=i->i<j->j<b->P o (g i) (g j)
abbrev Cl (g:Nat->Nat)(a b:Nat):Prop:=∀i,a<=i->i<b->a<=g i/\g i<b
abbrev rev (g:Nat->Nat)(i j:Nat):Nat->Nat:=λk=>if i<=k/\k<j then g (i+j-1-k)else g k
abbrev mv (g:Nat->Nat)(src dst:Nat):Nat->Nat:=λk=>if k=dst then g src else if dst<k/\k<=src then g (k-1)else g k
def w4{g:Nat->Nat}{k:Nat}(h:i<=k)(h2:k<j):rev g i j k=g (i+j-1-k):=aL ⟨h,h2⟩
def ni{g:Nat->Nat}{k:Nat}(h:k<i\/j<=k):rev g i j k=g k:=aJ ()
def K6{g:Nat->Nat}{d:Nat}:mv g s d d=g s:=aL rfl
def A2{g:Nat->Nat}{d k:Nat}(h:d<k)(h2:k<=s):mv g s d k=g (k-1):=by
 unfold mv;rw[aJ (),aL ⟨h,h2⟩]
def z0{g:Nat->Nat}{d k:Nat}(hd:d<=s)(h:k<d\/s<k):mv g s d k=g k:=by
 unfold mv;rw[aJ (),aJ ()]
section
variable {prog:aj}{w:ah}{A:aA}{E:af->aC->Prop}{s:aC}{o:Ord}{N:Nat}{f:Nat->Keyed}{kd:SortKind}{g:Nat->Nat}{p:Array (Nat×Nat×Nat)}{st:SortSt}
abbrev yQ (prog:aj)(w:ah)(A:aA)(s:aC)(o:Ord)(N:Nat)(f:Nat->Keyed)(kd:SortKind):Prop:=
 ∀i j,i<N->j<N->∀(E':af->aC->Prop) (Q:Bool->aC->Prop),Q (o.lt i j) s->wpAny (model prog w) A (keyLt' kd (f i).1 (f j).1) Q E' s
structure Sg (N:Nat)(f:Nat->Keyed)(kd:SortKind)(g:Nat->Nat)(p:Array (Nat×Nat×Nat))(st:SortSt):Prop where
 size:(arrOf st).size=N
 get:∀i,i<N->(arrOf st)[i]?=some (f<|g i)
 lt:∀i,i<N->g i<N
 kind:kindOf st=kd
 failed:failedOf st=none
 pend:pendingOf st=p
def wQ(C:yQ prog w A s o N f kd)(hk:kindOf st=kd)(hi:i<N)(hj:j<N){Q:bi->SortSt->Prop}(q:Q (some<|o.lt i j) st):wpS (model prog w) A E s (lt' (f i)<|f j) Q st:=by
 rw[lt'_eq];refine aV<|f9 ?_;rw[hk];refine aV<|wpS_lift<|wpAny_attempt<|C i j hi hj _ _ ⟨rfl,?_⟩;exact a_ q
def jc{xs:Array Keyed}{i:Nat}{x:Keyed}(e:xs[i]?=some x){Q:Keyed->SortSt->Prop}(q:Q x st):wpS (model prog w) A E s (elem' xs i) Q st:=by
 rw[elem'_eq,e];exact a_ q
def tF(C:yQ prog w A s o N f kd)(h:Sg N f kd g p st)(hi:i<N)(hj:j<N){Q:bi->SortSt->Prop}(q:Q (some<|o.lt (g i)<|g j) st):wpS (model prog w) A E s (ltAt' i j) Q st:=by
 rw[ltAt'_eq];refine aV (f9 ?_)
 skip
 exact aV<|jc (h.get i hi)<|aV<|jc (h.get j hj)<|wQ C h.kind (h.lt i hi) (h.lt j hj) q
def Sg.arr(h:Sg N f kd g p st){xs:Array Keyed}{g':Nat->Nat}(hs:xs.size=N)(hg:∀i,i<N->xs[i]?=some (f<|g' i))(hl:∀i,i<N->g' i<N):Sg N f kd g' p (setArr st xs):=⟨hs,hg,hl,h.kind,h.failed,h.pend⟩
def vA(h:Sg N f kd g p st)(hj:j<=N){Q:Unit->SortSt->Prop}(q:∀st',Sg N f kd (rev g i j) p st'->Q Unit.unit st'):wpS (model prog w) A E s (reverseSlice' i j) Q st:=by
 rw[reverseSlice'_eq];refine eS (q _<|h.arr (by rw[mirror_size];exact h.size) (λk hk=>?_) λk hk=>?_)
 ·rw[getElem?_mirror_all<|by rw[h.size];exact hj];unfold rev;by_cases c:i<=k/\k<j
  ·rw[aL c,aL c];exact h.get _ (by omega)
  ·rw[aJ c,aJ c];exact h.get _ hk
 ·unfold rev;by_cases c:i<=k/\k<j
  ·rw[aL c];exact h.lt _ (by omega)
  ·rw[aJ c];exact h.lt _ hk
def RU(h:Sg N f kd g p st){a:Nat}(ha:a<N)(hb:b<=a){Q:Unit->SortSt->Prop}(q:∀st',Sg N f kd (mv g a b) p st'->Q Unit.unit st'):wpS (model prog w) A E s (moveDown' a b) Q st:=by
 rw[moveDown'_eq];refine eS (q _<|h.arr (by rw[bubble_size];exact h.size) (λk hk=>?_) λk hk=>?_)
 ·rw[getElem?_bubble (by rw[h.size];exact ha) _ (),show a-(a-b)=b by lia];unfold mv;by_cases c:k=b
  ·rw[aL c,aL c];exact h.get _ ha
  ·rw[aJ c,aJ c];by_cases c2:b<k/\k<=a
   ·rw[aL c2,aL c2];exact h.get _ ()
   ·rw[aJ c2,aJ c2];exact h.get _ hk
 ·unfold mv;by_cases c:k=b
  ·rw[aL c];exact h.lt _ ha
  ·rw[aJ c];by_cases c2:b<k/\k<=a
   ·rw[aL c2];exact h.lt _ ()
   ·rw[aJ c2];exact h.lt _ hk
structure Rn (o:Ord)(g0 g:Nat->Nat)(a b:Nat):Prop where
 out:∀i,i<a\/b<=i->g i=g0 i
 cl:Cl g a b
 so:So o g a b
def QK{g0:Nat->Nat}{lo k:Nat}(R:Rn o g0 g lo<|lo+k)(hk:g (lo+k)=lo+k)(hl:l<=k)(h1:∀i,i<l->P o (g<|lo+i) (lo+k))(h2:∀i,l<=i->i<k->P o (lo+k) (g<|lo+i)):Rn o g0 (mv g (lo+k)<|lo+l) lo (lo+(k+1)) where
 out i hi:=by rw[z0 () ()];exact R.out i ()
 cl i a b:=by
  by_cases c:i=lo+l
  ·subst c;rw[K6,hk];lia
  ·by_cases c2:lo+l<i
   ·rw[A2 c2 ()];have:=R.cl (i-1) () ()
    lia
   ·rw[z0 () ()];have:=R.cl i () ()
    lia
 so i j a b d:=by
  by_cases c:i=lo+l
  ·subst c;rw[K6,A2 b (),hk];have:=h2 (j-1-lo) () ()
   rwa [show lo+(j-1-lo)=j-1 by lia]at this
  ·by_cases c2:lo+l<i
   ·rw[A2 c2 (),A2 () ()];exact R.so _ _ () () ()
   ·rw[z0 (k:=i) () ()];by_cases c3:j=lo+l
    ·subst c3;rw[K6,hk];have:=h1 (i-lo) ()
     rwa [show lo+(i-lo)=i by lia]at this
    ·by_cases c4:lo+l<j
     ·rw[A2 c4 ()];exact R.so _ _ () () ()
     ·rw[z0 () ()];exact R.so _ _ () () ()
def TH(C:yQ prog w A s o N f kd){g0:Nat->Nat}{lo n ok:Nat}(h:Sg N f kd g p st)(hn:lo+n<=N)(h1:1<=ok)(hok:ok<=n)(R:Rn o g0 g lo<|lo+ok)(hid:∀i,lo+ok<=i->i<lo+n->g0 i=i)
  {Q:Bool->SortSt->Prop} (q:∀g' st',Sg N f kd g' p st'->Rn o g0 g' lo (lo+n)->Q true st'):wpS (model prog w) A E s (binarySort' lo n ok) Q st:=by
 rw[binarySort'_eq,show max ok 1=ok by lia];refine aV (dP (cG (I:=λk c st'=>c=(none,Unit.unit)/\∃g',Sg N f kd g' p st'/\Rn o g0 g' lo (lo+min k n))
  (Q:=λc st'=>c=(none,Unit.unit)/\∃g',Sg N f kd g' p st'/\Rn o g0 g' lo (lo+n)) ?step ?fin ?init) ?post)
 case post=>
  rintro c st' ⟨rfl,g',h',R'⟩;exact a_<|q g' st' h' R'
 case init=>exact⟨rfl,g,h,by rw[show min ok n=ok by lia];exact R⟩
 case fin=>
  rintro c st' ⟨hc,g',h',R'⟩;exact⟨hc,g',h',by rwa [show min (max ok n) n=n by lia]at R'⟩
 case step=>
  rintro k c st' hak hkn ⟨rfl,g',h',R'⟩;rw[show min k n=k by lia]at R';have gk:g' (lo+k)=lo+k:=by rw[R'.out _ ()];exact hid _ () ()
  refine aV (dP (cG (I:=λx c s2=>s2=st'/\∃u v,c=(none,u,v)/\u<=v/\v<=k/\v-u<=k-x /\
    (∀i,i<u->P o (g'<|lo+i) (lo+k))/\(∀i,v<=i->i<k->P o (lo+k) (g'<|lo+i)))
   (Q:=λc s2=>s2=st'/\∃u v,c=(none,u,v)/\u<=k /\
    (∀i,i<u->P o (g'<|lo+i) (lo+k))/\(∀i,u<=i->i<k->P o (lo+k) (g'<|lo+i))) ?istep ?ifin ?iinit) ?ipost)
  case iinit=>exact⟨rfl,0,k,rfl,(),(),(),λi hi=>(),λi h1 h2=>()⟩
  case ifin=>
   rintro c s2 ⟨rfl,u,v,rfl,huv,hvk,hm,low,top⟩;have:u=v:=()
   subst this;exact⟨rfl,u,u,rfl,hvk,low,top⟩
  case istep=>
   rintro x c s2 _ hxk ⟨rfl,u,v,rfl,huv,hvk,hm,low,top⟩;dsimp only;by_cases hge:u>=v
   ·rw[aL hge];have:u=v:=()
    subst this;exact a_ ⟨rfl,u,u,rfl,hvk,low,top⟩
   ·rw[aJ hge];have hmk:(u+v) / 2<k:=()
    have gm:=R'.cl (lo+(u+v) / 2) () ();refine aV<|tF C h' () () ?_;rw[gk]
    cases hless:o.lt (lo+k) (g'<|lo+(u+v) / 2)
    case true=>
     dsimp[cE];refine a_ ⟨rfl,u,(u+v) / 2,rfl,(),(),(),low,λi h1 h2=>?_⟩;by_cases c:i=(u+v) / 2
     ·subst c;exact .inl hless
     ·exact(P.of_lt hless).trans (R'.so _ _ () () ())
    case false=>
     dsimp[aZ,bN];refine a_ ⟨rfl,(u+v) / 2+1,v,rfl,(),(),(),λi h1=>?_,top⟩;have last:=P.vc hless gm.2;by_cases c:i=(u+v) / 2
     ·subst c;exact last
     ·exact(R'.so _ _ () () ()).trans last
  case ipost=>
   rintro c s2 ⟨rfl,u,v,rfl,huk,low,top⟩;dsimp only;refine aV<|RU h' () () λst3 h3=>?_;refine a_ ⟨rfl,_,h3,?_⟩;rw[show min (k+1) n=k+1 by lia];exact QK R' gk huk low top
end
meta abbrev As:=Option (bj)×Nat
meta abbrev Ds:=Option (bj)×Nat×Nat
abbrev JS (lo a nrem:Nat):StateT SortSt Sem As:=
 forIn [a:nrem] ((none,a):As) λ_ c=>do
  let x <- ltAt' (lo+c.2) (lo+c.2-1)
  match x with
  | some b=>if b=true then pure (ForInStep.done (none,c.2))else pure (ForInStep.yield (none,c.2+1))
  | _=>pure<|ForInStep.done (some none,c.2)
abbrev AZ (lo n nrem:Nat):StateT SortSt Sem (bj):=do
 reverseSlice' lo (lo+n)
 let c <- JS lo n nrem
 match c.1 with
 | some r=>pure r
 | none=>pure<|some c.2
abbrev OT (lo n nrem:Nat):StateT SortSt Sem Ds:=
 forIn [n:nrem] ((none,n,0):Ds) λ_ c=>do
  let x <- ltAt' (lo+c.2.1) (lo+c.2.1-1)
  match x with
  | some b=>
   if b=true then
    if c.2.2>0 then do
     reverseSlice' (lo+c.2.1-(c.2.2+1)) (lo+c.2.1)
     pure (ForInStep.yield (none,c.2.1+1,0))
    else pure (ForInStep.yield (none,c.2.1+1,0))
   else do
    let x <- ltAt' (lo+c.2.1-1) (lo+c.2.1)
    match x with
    | some b=>
     if b=true then pure (ForInStep.done (none,c.2.1,c.2.2))
     else pure (ForInStep.yield (none,c.2.1+1,c.2.2+1))
    | _=>pure<|ForInStep.done (some none,c.2.1,c.2.2)
  | _=>pure<|ForInStep.done (some none,c.2.1,c.2.2)
abbrev IU (lo n nrem:Nat):StateT SortSt Sem (bj):=do
 liftM (rule "list.sort.descending-run")
 let c <- OT lo (n+1) nrem
 match c.1 with
 | some r=>pure r
 | none=>
  if c.2.2>0 then do
   reverseSlice' (lo+c.2.1-(c.2.2+1)) (lo+c.2.1)
   AZ lo c.2.1 nrem
  else AZ lo c.2.1 nrem
def count_eq(lo nrem:Nat):countRun' lo nrem=(do
  let c <- JS lo 1 nrem
  match c.1 with
  | some r=>pure r
  | none=>
   if (c.2 == nrem)=true then pure (some c.2)
   else if c.2>1 then do
    let x <- ltAt' lo (lo+c.2-1)
    match x with
    | some b=>if b=true then pure (some c.2)else do
      reverseSlice' lo (lo+c.2)
      IU lo c.2 nrem
    | _=>pure none
   else IU lo c.2 nrem):=by
 rw[countRun'_eq];dsimp only;unfold IU AZ OT JS;congr 1
 funext c
 obtain⟨r,n⟩:=c
 cases r with
 | some r=>rfl
 | none=>
  dsimp only;split
  ·rfl
  ·split
   ·congr 1
    funext x
    cases x with
    | none=>rfl
    | some b=>
     dsimp only;split
     ·rfl
     ·congr 1
      funext _r
      congr 1
      funext _u
      congr 1;congr 1
      funext s2
      obtain⟨r2,n2,q2⟩:=s2
      cases r2 with
      | some r2=>rfl
      | none=>
       dsimp only;split
       ·congr 1
        funext _v
        congr 1
        funext _w
        congr 1
        funext s3
        obtain⟨r3,n3⟩:=s3
        cases r3<;>rfl
       ·congr 1
        funext _w
        congr 1
        funext s3
        obtain⟨r3,n3⟩:=s3
        cases r3<;>rfl
   ·congr 1
    funext _u
    congr 1;congr 1
    funext s2
    obtain⟨r2,n2,q2⟩:=s2
    cases r2 with
    | some r2=>rfl
    | none=>
     dsimp only;split
     ·congr 1
      funext _v
      congr 1
      funext _w
      congr 1
      funext s3
      obtain⟨r3,n3⟩:=s3
      cases r3<;>rfl
     ·congr 1
      funext _w
      congr 1
      funext s3
      obtain⟨r3,n3⟩:=s3
      cases r3<;>rfl
section
variable {prog:aj}{w:ah}{A:aA}{E:af->aC->Prop}{s:aC}{o:Ord}{N:Nat}{f:Nat->Keyed}{kd:SortKind}{g g0:Nat->Nat}{p:Array (Nat×Nat×Nat)}{st:SortSt}
def Rn.snoc{a:Nat}(R:Rn o g0 g a b)(hab:a<b)(hb:g b=b)(h:o.lt b (g<|b-1)=false):Rn o g0 g a (b+1) where
 out i hi:=R.out i ()
 cl i h1 h2:=by
  by_cases c:i=b
  ·subst c;lia
  ·have:=R.cl i h1 ();lia
 so i j h1 h2 h3:=by
  by_cases c:j=b
  ·subst c;rw[hb];have l:=R.cl (j-1) () ();have last:P o (g<|j-1) j:=P.vc h l.2;by_cases c2:i=j-1
   ·subst c2;exact last
   ·exact(R.so i (j-1) h1 () ()).trans last
  ·exact R.so i j h1 h2 ()
def Jh(C:yQ prog w A s o N f kd){lo a:Nat}(h:Sg N f kd g p st)(hn:lo+nrem<=N)(h1:1<=a)(han:a<=nrem)(R:Rn o g0 g lo<|lo+a)(hid:∀i,lo+a<=i->i<lo+nrem->g0 i=i)
  {Q:As->SortSt->Prop} (q:∀n,a<=n->n<=nrem->Rn o g0 g lo (lo+n)->(n=nrem\/o.lt (lo+n) (g<|lo+n-1)=true)->Q (none,n) st):wpS (model prog w) A E s (JS lo a nrem) Q st:=by
 unfold JS;refine cG (I:=λx c st'=>st'=st/\c=(none,x)/\Rn o g0 g lo (lo+x)) ?step ?fin ⟨rfl,rfl,R⟩
 case fin=>
  rintro c st' ⟨rfl,rfl,R'⟩;rw[show max a nrem=nrem by lia]at R' ⊢;exact q nrem han (aQ _) R'<|.inl rfl
 case step=>
  rintro x c st' hax hxn ⟨rfl,rfl,R'⟩;dsimp only;have gx:g (lo+x)=lo+x:=by rw[R'.out _ ()];exact hid _ () ()
  refine aV<|tF C h () () ?_;rw[gx]
  cases hl:o.lt (lo+x) (g<|lo+x-1)
  case true=>
   dsimp[cE];exact a_<|q x hax () R'<|.inr hl
  case false=>
   dsimp[aZ,bN];exact a_ ⟨rfl,rfl,R'.snoc () gx hl⟩
structure Dc (o:Ord)(g0 g:Nat->Nat)(a b q:Nat):Prop where
 out:∀i,i<a\/b<=i->g i=g0 i
 cl:Cl g a b
 few:a+(q+1)<=b
 dn:∀i j,a<=i->i<j->j<b->i<b-(q+1)->P o (g j) (g i)
 id:∀i,b-(q+1)<=i->i<b->g i=i
 al:∀i j,b-(q+1)<=i->i<b->b-(q+1)<=j->j<b->o.lt i j=false
def Dc.turn{a q:Nat}(D:Dc o g0 g a b q):(∀i,i<a\/b<=i->rev g (b-(q+1)) b i=g0 i)/\Cl (rev g (b-(q+1)) b) a b/\(∀i j,a<=i->i<j->j<b->P o (rev g (b-(q+1)) b j) (rev g (b-(q+1)) b i))/\(∀i,b-(q+1)<=i->i<b->∃k,rev g (b-(q+1)) b i=k/\b-(q+1)<=k/\k<b):=by
 have few:=D.few;have inn:∀i,b-(q+1)<=i->i<b->rev g (b-(q+1)) b i=b-(q+1)+b-1-i:=λi h1 h2=>by
  rw[w4 h1 h2];exact D.id _ (by omega)<|by omega
 refine⟨λi hi=>?_,λi h1 h2=>?_,λi j h1 h2 h3=>?_,λi h1 h2=>⟨_,inn i h1 h2,by omega,by omega⟩⟩
 ·rw[ni<|by omega];exact D.out i hi
 ·by_cases c:i<b-(q+1)
  ·rw[ni<|by omega];exact D.cl i h1 h2
  ·rw[inn i (by omega) h2];omega
 ·by_cases c:i<b-(q+1)
  ·rw[ni (k:=i)<|by omega];by_cases c2:j<b-(q+1)
   ·rw[ni<|by omega];exact D.dn i j h1 h2 h3 c
   ·rw[inn j (by omega) h3];have:=D.dn i (b-(q+1)+b-1-j) h1 (by omega) (by omega) c
    rwa [D.id _ (by omega)<|by omega]at this
  ·rw[inn i (by omega)<|by omega,inn j (by omega) h3];exact P.vc (D.al _ _ (by omega) (by omega) (by omega)<|by omega)<|by omega
abbrev Fin (o:Ord)(g0 g:Nat->Nat)(a b:Nat):Prop:=(∀i,i<a\/b<=i->g i=g0 i)/\Cl g a b/\(∀i j,a<=i->i<j->j<b->P o (g j) (g i))
def Dc.B5{a:Nat}(D:Dc o g0 g a b 0):Fin o g0 g a b:=⟨D.out,D.cl,λi j h1 h2 h3=>D.dn i j h1 h2 h3 ()⟩
def Fin.rn{a:Nat}(D:Fin o g0 g a b):Rn o g0 (rev g a b) a b where
 out i hi:=by rw[ni hi];exact D.1 i hi
 cl i h1 h2:=by
  rw[w4 h1 h2];exact D.2.1 _ () ()
 so i j h1 h2 h3:=by
  rw[w4 h1 (),w4 () h3];exact D.2.2 _ _ () () ()
def Fin.add{a:Nat}(D:Fin o g0 g a b)(hb:g b=b)(hab:a<b)(h:∀i,a<=i->i<b->P o b (g i)):Dc o g0 g a (b+1) 0 where
 out i hi:=D.1 i ()
 cl i h1 h2:=by
  by_cases c:i=b
  ·subst c;lia
  ·have:=D.2.1 i h1 ();lia
 few:=()
 dn i j h1 h2 h3 _:=by
  by_cases c:j=b
  ·subst c;rw[hb];exact h i h1 h2
  ·exact D.2.2 i j h1 h2 ()
 id i h1 h2:=by
  have:i=b:=()
  rw[this,hb]
 al i j h1 h2 h3 h4:=by
  have:i=j:=()
  rw[this];exact o.NL _
def Er(C:yQ prog w A s o N f kd){lo n:Nat}(h:Sg N f kd g p st)(hn:lo+nrem<=N)(h1:1<=n)(han:n<=nrem)(D:Fin o g0 g lo<|lo+n)(hid:∀i,lo<=i->i<lo+nrem->g0 i=i)
  {Q:bj->SortSt->Prop} (q:∀m g' st',Sg N f kd g' p st'->1<=m->m<=nrem->Rn o g0 g' lo (lo+m)->Q (some m) st'):wpS (model prog w) A E s (AZ lo n nrem) Q st:=by
 unfold AZ;refine aV<|vA h () λst2 h2=>?_;exact aV<|Jh C h2 hn h1 han D.rn (λi a b=>hid i () b) λm hm1 hm2 R _=>a_<|q m _ _ h2 () hm2 R
def Sb(C:yQ prog w A s o N f kd){lo n:Nat}(h:Sg N f kd g p st)(hn:lo+nrem<=N)(h1:1<=n)(han:n<=nrem)(D:Dc o g0 g lo (lo+n) 0)(hid:∀i,lo<=i->i<lo+nrem->g0 i=i)
  {Q:Ds->SortSt->Prop} (q:∀m e g' st',Sg N f kd g' p st'->1<=m->m<=nrem->Dc o g0 g' lo (lo+m) e->Q (none,m,e) st'):wpS (model prog w) A E s (OT lo n nrem) Q st:=by
 unfold OT;refine cG (I:=λx c st'=>∃e g',c=(none,x,e)/\Sg N f kd g' p st'/\Dc o g0 g' lo (lo+x) e) ?step ?fin ⟨0,g,rfl,h,D⟩
 case fin=>
  rintro c st' ⟨e,g',rfl,h',D'⟩;rw[show max n nrem=nrem by lia]at D' ⊢;exact q nrem e g' st' h' () (aQ _) D'
 case step=>
  rintro x c st' hax hxn ⟨e,g',rfl,h',D'⟩;dsimp only;have few:=D'.few;have gx:g' (lo+x)=lo+x:=by rw[D'.out _ ()];exact hid _ () ()
  have gy:g' (lo+x-1)=lo+x-1:=D'.id _ () ();refine aV<|tF C h' () () ?_;rw[gx,gy]
  cases hl:o.lt (lo+x) (lo+x-1)
  case true=>
   dsimp[cE];by_cases he:e>0
   ·rw[aL he];obtain⟨t1,t2,t3,t4⟩:=D'.turn;refine aV<|vA h' () λst2 h2=>a_ ⟨0,_,rfl,h2,?_⟩;refine Fin.add (b:=lo+x) ⟨t1,t2,t3⟩ (by rw[ni ()];exact gx) () λi a b=>?_;by_cases c:lo+x-(e+1)<=i
    ·obtain⟨k,ek,k1,k2⟩:=t4 i c b;rw[ek]
     rcases o.neg _ k _ hl with z|z
     ·exact .inl z
     ·rw[D'.al _ _ k1 k2 () ()]at z;cases z
    ·rw[ni ()];have:=D'.dn i (lo+x-1) a () () ();rw[gy]at this;exact(P.of_lt hl).trans this
   ·rw[aJ he];have:e=0:=()
    subst this;refine a_ ⟨0,_,rfl,h',Fin.add (b:=lo+x) D'.B5 gx () λi a b=>?_⟩;by_cases c:i=lo+x-1
    ·subst c;rw[gy];exact .inl hl
    ·have:=D'.dn i (lo+x-1) a () () ();rw[gy]at this;exact(P.of_lt hl).trans this
  case false=>
   dsimp[aZ,bN];refine aV<|tF C h' () () ?_;rw[gx,gy]
   cases hg:o.lt (lo+x-1) (lo+x)
   case true=>
    dsimp[cE];exact a_<|q x e g' st' h' () () D'
   case false=>
    dsimp[aZ,bN];refine a_ ⟨e+1,g',rfl,h',?_⟩;have eq1:∀i,lo+x-(e+1)<=i->i<lo+x->o.lt i (lo+x)=false/\o.lt (lo+x) i=false:=λi a b=>by
     constructor
     ·cases z:o.lt i (lo+x)with
      | false=>rfl
      | true=>
       rcases o.neg _ (lo+x-1) _ z with y|y
       ·rw[D'.al _ _ a b () ()]at y;cases y
       ·rw[hg]at y;cases y
     ·cases z:o.lt (lo+x) i with
      | false=>rfl
      | true=>
       rcases o.neg _ (lo+x-1) _ z with y|y
       ·rw[hl]at y;cases y
       ·rw[D'.al _ _ () () a b]at y;cases y
    exact {
     out:=λi hi=>D'.out i ()
     cl:=λi a b=>by
      by_cases c:i=lo+x
      ·subst c;lia
      ·have:=D'.cl i a ();lia
     few:=()
     dn:=λi j a b c d=>by
      by_cases z:j=lo+x
      ·subst z;rw[gx];have y:=D'.dn i (lo+x-1) a () () ();rw[gy]at y;have gi:=D'.cl i a ()
       rcases y with y|⟨_,y⟩
       ·rcases o.neg _ (lo+x) _ y with v|v
        ·rw[hg]at v;cases v
        ·exact .inl v
       ·lia
      ·exact D'.dn i j a b () ()
     id:=λi a b=>by
      by_cases z:i=lo+x
      ·subst z;exact gx
      ·exact D'.id i () ()
     al:=λi j a b c d=>by
      by_cases z:i=lo+x
      ·subst z;by_cases y:j=lo+x
       ·subst y;exact o.NL _
       ·exact(eq1 j () ()).2
      ·by_cases y:j=lo+x
       ·subst y;exact(eq1 i () ()).1
       ·exact D'.al i j () () () ()}
def D3(C:yQ prog w A s o N f kd){lo n:Nat}(h:Sg N f kd g p st)(hn:lo+nrem<=N)(han:n+1<=nrem)(D:Dc o g0 g lo (lo+(n+1)) 0)(hid:∀i,lo<=i->i<lo+nrem->g0 i=i)
  {Q:bj->SortSt->Prop} (q:∀m g' st',Sg N f kd g' p st'->1<=m->m<=nrem->Rn o g0 g' lo (lo+m)->Q (some m) st'):wpS (model prog w) A E s (IU lo n nrem) Q st:=by
 unfold IU;kl_no;refine aV<|Sb C h hn () han D hid λm e g' st' h' m1 m2 D'=>?_;dsimp only;by_cases he:e>0
 ·rw[aL he];obtain⟨t1,t2,t3,_⟩:=D'.turn;exact aV (vA h' () λst2 h2=>Er C h2 hn m1 m2 ⟨t1,t2,t3⟩ hid q)
 ·rw[aJ he];have:e=0:=()
  subst this;exact Er C h' hn m1 m2 D'.B5 hid q
def Ko(C:yQ prog w A s o N f kd){lo:Nat}(h:Sg N f kd g p st)(hn:lo+nrem<=N)(h1:1<=nrem)(hid:∀i,lo<=i->i<lo+nrem->g i=i)
  {Q:bj->SortSt->Prop} (q:∀m g' st',Sg N f kd g' p st'->1<=m->m<=nrem->Rn o g g' lo (lo+m)->Q (some m) st'):wpS (model prog w) A E s (countRun' lo nrem) Q st:=by
 rw[count_eq];refine aV (Jh C h hn (aQ 1) h1 (g0:=g) ⟨λ_ _=>rfl,λi a b=>?_,λi j a b c=>()⟩ (λi a b=>hid i () b) λn n1 n2 R hor=>?_)
 ·have:i=lo:=()
  subst this;rw[hid i (aQ _) ()];lia
 dsimp only;by_cases hnn:n=nrem
 ·rw[aL<|by simpa using hnn];exact a_ (q n g st h n1 n2 R)
 ·rw[aJ<|by simpa using hnn];have hlt:=hor.resolve_left hnn;rw[hid (lo+n-1) () ()]at hlt;have gn:g (lo+n)=lo+n:=hid _ () ();by_cases hgt:n>1
  ·rw[aL hgt];refine aV<|tF C h () () ?_;rw[hid lo () (),hid (lo+n-1) () ()]
   cases hr:o.lt lo (lo+n-1)
   case true=>
    dsimp[cE];exact a_<|q n g st h n1 n2 R
   case false=>
    dsimp[aZ,bN];have id':∀i,lo<=i->i<lo+n->g i=i:=λi a b=>hid i a ();have pp:∀i j,lo<=i->i<j->j<lo+n->o.lt i j=false/\o.lt j i=false:=λi j a b c=>by
     have r:=R.so i j a b c;rw[id' i a (),id' j () c]at r;refine⟨?_,r.ge⟩
     cases z:o.lt i j with
     | false=>rfl
     | true=>
      rcases o.neg _ lo _ z with y|y
      ·by_cases x:i=lo
       ·subst x;rw[o.NL]at y;cases y
       ·have r2:=R.so lo i () () ();rw[id' i a (),id' lo () ()]at r2;rw[r2.ge]at y;cases y
      ·rcases o.neg _ (lo+n-1) _ y with x|x
       ·rw[hr]at x;cases x
       ·by_cases v:j=lo+n-1
        ·subst v;rw[o.NL]at x;cases x
        ·have r2:=R.so j (lo+n-1) () () ();rw[id' j () c,id' (lo+n-1) () ()]at r2;rw[r2.ge]at x;cases x
    refine aV<|vA h () λst2 h2=>D3 C h2 hn () ?_ hid q;have rin:∀i,lo<=i->i<lo+n->rev g lo (lo+n) i=lo+(lo+n)-1-i:=λi a b=>by rw[w4 a b];exact id' _ () ()
    refine Fin.add (b:=lo+n) ⟨λi hi=>ni hi,λi a b=>by rw[rin i a b];lia,λi j a b c=>?_⟩ (by rw[ni ()];exact gn) () λi a b=>?_
    ·rw[rin i a (),rin j () c];exact P.vc (pp _ _ () () ()).2 ()
    ·rw[rin i a b];by_cases x:lo+(lo+n)-1-i=lo+n-1
     ·rw[x];exact .inl hlt
     ·rcases o.neg _ (lo+(lo+n)-1-i) _ hlt with z|z
      ·exact .inl z
      ·rw[(pp _ _ () () ()).1]at z;cases z
  ·rw[aJ hgt];have:n=1:=()
   subst this;refine D3 C h hn () ?_ hid q;refine Fin.add (b:=lo+1) ⟨λi hi=>rfl,R.cl,λi j a b c=>()⟩ gn () λi a b=>?_;have:i=lo:=()
   subst this;rw[hid i () ()];rw[show i+1-1=i by lia]at hlt;exact .inl hlt
end
abbrev kG:Bool->Keyed->Array Keyed->Nat->Nat->Nat->StateT SortSt Sem (bj):=sortPriv% PySem.Builtin.gallop
abbrev SA (ask:Nat->StateT SortSt Sem (bi))(n at0:Nat):StateT SortSt Sem (bj):=do
 let mut was:=0
 let mut far:=1
 let mut low:=0
 let mut top:=0
 let some yes <- ask at0|return none
 if yes then
  let most:=n-at0
  for _ in [0:n] do
   if far>=most then break
   let some ok <- ask (at0+far)|return none
   if !ok then break
   was:=far
   far:=2 * far+1
  low:=at0+was+1
  top:=at0+min far most
 else
  let most:=at0+1
  for _ in [0:n] do
   if far>=most then break
   let some hit <- ask (at0-far)|return none
   if hit then break
   was:=far
   far:=2 * far+1
  low:=at0+1-min far most
  top:=at0-was
 for _ in [0:n] do
  if low>=top then break
  let m:=low+(top-low) / 2
  let some ok <- ask m|return none
  if ok then low:=m+1 else top:=m
 return some top
def yW(left:Bool)(key:Keyed)(arr:Array Keyed)(base n hint:Nat):kG left key arr base n hint=SA (λi=>do
  let x <- elem' arr (base+i)
  if left then lt' x key else return (<- lt' key x).map (!·)) n hint:=rfl
section
variable {prog:aj}{w:ah}{A:aA}{E:af->aC->Prop}{s:aC}{st:SortSt}
abbrev VX (be:Nat->StateT SortSt Sem (bi))(n l0 h0:Nat):StateT SortSt Sem (bj):=do
 let mut low:=l0
 let mut top:=h0
 for _ in [0:n] do
  if low>=top then break
  let m:=low+(top-low) / 2
  let some ok <- be m|return none
  if ok then low:=m+1 else top:=m
 return some top
def Qg{be:Nat->StateT SortSt Sem (bi)}{n h0:Nat}(b:Nat->Bool)(hbe:∀i,i<n->∀Q:bi->SortSt->Prop,Q (some<|b i) st->wpS (model prog w) A E s (be i) Q st)(hb:∀i j,i<=j->j<n->b j=true->b i=true)
  (hlh:l0<=h0) (hn:h0<=n) (hl:∀i,i<l0->b i=true) (hh:∀i,h0<=i->i<n->b i=false)
  {Q:bj->SortSt->Prop} (q:∀k,k<=n->(∀i,i<k->b i=true)->(∀i,k<=i->i<n->b i=false)->Q (some k) st):wpS (model prog w) A E s (VX be n l0 h0) Q st:=by
 unfold VX;refine aV (dP (cG (I:=λx c st'=>st'=st/\∃lo hi,c=(none,lo,hi)/\lo<=hi/\hi<=n/\hi-lo<=n-x/\(∀i,i<lo->b i=true)/\(∀i,hi<=i->i<n->b i=false))
  (Q:=λc st'=>st'=st/\∃k,c=(none,k,k)/\k<=n/\(∀i,i<k->b i=true)/\(∀i,k<=i->i<n->b i=false)) ?step ?fin ⟨rfl,l0,h0,rfl,hlh,hn,(),hl,hh⟩) ?post)
 case post=>
  rintro c st' ⟨rfl,k,rfl,h1,h2,h3⟩;exact a_<|q k h1 h2 h3
 case fin=>
  rintro c st' ⟨rfl,lo,hi,rfl,h1,h2,h3,h4,h5⟩;have:lo=hi:=()
  subst this;exact⟨rfl,lo,rfl,h2,h4,h5⟩
 case step=>
  rintro x c st' _ hx ⟨rfl,lo,hi,rfl,h1,h2,h3,h4,h5⟩;dsimp only;by_cases hge:lo>=hi
  ·rw[aL hge];have:lo=hi:=()
   subst this;exact a_ ⟨rfl,lo,rfl,h2,h4,h5⟩
  ·rw[aJ hge];have hm:lo+(hi-lo) / 2<hi:=()
   obtain⟨m,hm'⟩:∃m,m=lo+(hi-lo) / 2:=⟨_,rfl⟩;rw[<- hm']at hm ⊢;refine aV (hbe m () _ ?_)
   cases hv:b m
   ·dsimp[aZ,bN];refine a_ ⟨rfl,lo,m,rfl,(),(),(),h4,λi a c=>?_⟩
    cases z:b i with
    | false=>rfl
    | true=>rw[hb m i a c z]at hv;cases hv
   ·dsimp[cE];exact a_ ⟨rfl,m+1,hi,rfl,(),h2,(),λi a=>hb i m () () hv,h5⟩
def GN{be:Nat->StateT SortSt Sem (bi)}{n:Nat}(b:Nat->Bool)(hbe:∀i,i<n->∀Q:bi->SortSt->Prop,Q (some<|b i) st->wpS (model prog w) A E s (be i) Q st)(hb:∀i j,i<=j->j<n->b j=true->b i=true)(hh:hint<n)
  {Q:bj->SortSt->Prop} (q:∀k,k<=n->(∀i,i<k->b i=true)->(∀i,k<=i->i<n->b i=false)->Q (some k) st):wpS (model prog w) A E s (SA be n hint) Q st:=by
 unfold SA;have hb':∀i j,i<=j->j<n->b i=false->b j=false:=λi j a c d=>by
  cases z:b j with
  | false=>rfl
  | true=>rw[hb i j a c z]at d;cases d
 refine aV (hbe hint hh _ ?_)
 cases hr:b hint
 ·dsimp only;dsimp[aZ,bN];refine aV (dP (cG (I:=λx c st'=>st'=st/\∃l u,c=(none,l,u)/\x+1<=u/\l<u/\l<=hint/\b (hint-l)=false)
   (Q:=λc st'=>st'=st/\∃l u,c=(none,l,u)/\l<u/\l<=hint/\b (hint-l)=false/\(u>=hint+1\/b (hint-u)=true)) ?step ?fin ⟨rfl,0,1,rfl,by omega,by omega,by omega,hr⟩) ?post)
  case post=>
   rintro c st' ⟨rfl,l,u,rfl,h1,h2,h3,h4⟩;dsimp only;refine(Qg b hbe hb (l0:=hint+1-min u (hint+1)) (h0:=hint-l) (by omega) (by omega) (λi a=>?_) (λi a c=>hb' _ _ a c h3) q:wpS (model prog w) A E s (VX be n _ _) Q st')
   rcases h4 with h4|h4
   ·omega
   ·exact hb i (hint-u) (by omega) (by omega) h4
  case fin=>
   rintro c st' ⟨rfl,l,u,rfl,h1,h2,h3,h4⟩;exact⟨rfl,l,u,rfl,h2,h3,h4,.inl<|by omega⟩
  case step=>
   rintro x c st' _ hx ⟨rfl,l,u,rfl,h1,h2,h3,h4⟩;dsimp only;by_cases hge:u>=hint+1
   ·rw[aL hge];exact a_ ⟨rfl,l,u,rfl,h2,h3,h4,.inl hge⟩
   ·rw[aJ hge];refine aV (hbe _ (by omega) _ ?_)
    cases hv:b (hint-u)
    ·dsimp[aZ,bN];exact a_ ⟨rfl,u,2 * u+1,rfl,by omega,by omega,by omega,hv⟩
    ·dsimp[cE];exact a_ ⟨rfl,l,u,rfl,h2,h3,h4,.inr hv⟩
 ·dsimp only;dsimp[cE];refine aV (dP (cG (I:=λx c st'=>st'=st/\∃l u,c=(none,l,u)/\x+1<=u/\l<u/\hint+l<n/\b (hint+l)=true)
   (Q:=λc st'=>st'=st/\∃l u,c=(none,l,u)/\l<u/\hint+l<n/\b (hint+l)=true/\(u>=n-hint\/b (hint+u)=false)) ?step2 ?fin2 ⟨rfl,0,1,rfl,by omega,by omega,by omega,hr⟩) ?post2)
  case post2=>
   rintro c st' ⟨rfl,l,u,rfl,h1,h2,h3,h4⟩;dsimp only;refine(Qg b hbe hb (l0:=hint+l+1) (h0:=hint+min u (n-hint)) (by omega) (by omega) (λi a=>hb i _ (by omega) h2 h3) (λi a c=>?_) q:wpS (model prog w) A E s (VX be n _ _) Q st')
   rcases h4 with h4|h4
   ·omega
   ·exact hb' (hint+u) i (by omega) c h4
  case fin2=>
   rintro c st' ⟨rfl,l,u,rfl,h1,h2,h3,h4⟩;exact⟨rfl,l,u,rfl,h2,h3,h4,.inl<|by omega⟩
  case step2=>
   rintro x c st' _ hx ⟨rfl,l,u,rfl,h1,h2,h3,h4⟩;dsimp only;by_cases hge:u>=n-hint
   ·rw[aL hge];exact a_ ⟨rfl,l,u,rfl,h2,h3,h4,.inl hge⟩
   ·rw[aJ hge];refine aV (hbe _ (by omega) _ ?_)
    cases hv:b (hint+u)
    ·dsimp[dI,cE];exact a_ ⟨rfl,l,u,rfl,h2,h3,h4,.inr hv⟩
    ·dsimp[b_,aZ,bN];exact a_ ⟨rfl,u,2 * u+1,rfl,by omega,by omega,by omega,hv⟩
end
section
variable {prog:aj}{w:ah}{A:aA}{E:af->aC->Prop}{s:aC}{o:Ord}{N:Nat}{f:Nat->Keyed}{kd:SortKind}{st:SortSt}
def Jo(C:yQ prog w A s o N f kd)(hk:kindOf st=kd){base n:Nat}{arr:Array Keyed}{h:Nat->Nat}(ha:∀i,i<n->arr[base+i]?=some (f<|h i))(hN:∀i,i<n->h i<key)(hkN:key<N)(so:So o h 0 n)(hh:hint<n)
  {Q:bj->SortSt->Prop} (q:∀k,k<=n->(∀i,i<k->P o (h i) key)->(∀i,k<=i->i<n->P o key (h i))->Q (some k) st):wpS (model prog w) A E s (kG false (f key) arr base n hint) Q st:=by
 rw[yW];refine GN (λi=>!o.lt key (h i)) (λi hi Q' q'=>?_) (λi j a b c=>?_) hh λk h1 h2 h3=>q k h1 (λi a=>?_) λi a b=>?_
 ·refine aV<|jc (ha i hi) ?_;dsimp[aZ,bN];exact aV (wQ C hk hkN (by have:=hN i hi;lia)<|a_ q')
 ·by_cases z:i=j
  ·subst z;exact c
  ·have r:=so i j (cL _) () b;have c':o.lt key (h j)=false:=by simpa using c
   cases e:o.lt key (h i)with
   | false=>rfl
   | true=>
    have:=(P.of_lt e).trans r;rw[this.lt<|hN j b]at c';cases c'
 ·have:=h2 i a;exact P.vc (by simpa using this) (hN i ())
 ·have:=h3 i a b;exact .inl<|by simpa using this
def MH(C:yQ prog w A s o N f kd)(hk:kindOf st=kd){base n:Nat}{arr:Array Keyed}{h:Nat->Nat}(ha:∀i,i<n->arr[base+i]?=some (f<|h i))(hN:∀i,i<n->key<h i/\h i<N)(so:So o h 0 n)(hh:hint<n)
  {Q:bj->SortSt->Prop} (q:∀k,k<=n->(∀i,i<k->P o (h i) key)->(∀i,k<=i->i<n->P o key (h i))->Q (some k) st):wpS (model prog w) A E s (kG true (f key) arr base n hint) Q st:=by
 rw[yW];refine GN (λi=>o.lt (h i) key) (λi hi Q' q'=>?_) (λi j a b c=>?_) hh λk h1 h2 h3=>q k h1 (λi a=>?_) λi a b=>?_
 ·refine aV<|jc (ha i hi) ?_;dsimp[cE];exact wQ C hk (hN i hi).2 (by have:=hN i hi;lia) q'
 ·by_cases z:i=j
  ·subst z;exact c
  ·have r:=so i j (cL _) () b;exact(r.trans<|P.of_lt c).lt (hN i ()).1
 ·exact .inl (h2 i a)
 ·exact P.vc (h3 i a b) (hN i b).1
end
abbrev xX:Array Keyed->Array Keyed->StateT SortSt Sem (Array Keyed):=sortPriv% PySem.Builtin.mergeLo
abbrev xD:Array Keyed->Array Keyed->StateT SortSt Sem (Array Keyed):=sortPriv% PySem.Builtin.mergeHi
abbrev vd:Nat->StateT SortSt Sem Unit:=sortPriv% PySem.Builtin.setMinGallop
def Pe(m:Nat):vd m=modify λs=>SortSt.mk' (kindOf s) (arrOf s) (pendingOf s) m (failedOf s):=rfl
def Cz(a b:Array Keyed):xX a b=(do
 rule "list.sort.merge-lo"
 let all_:=a.size+b.size
 let end1 (acc:Array Keyed) (p q:Nat):=acc++a.extract p a.size++b.extract q b.size
 let end2 (acc:Array Keyed) (p q:Nat):=acc++b.extract q b.size++a.extract p a.size
 let mut acc:Array Keyed:=#[<- elem' b 0]
 let mut p:=0
 let mut q:=1
 if q == b.size then return end1 acc p q
 if p+1 == a.size then return end2 acc p q
 let mut mg:=gallopOf (<- get)
 for _ in [0:all_] do
  let mut ca:=0
  let mut cb:=0
  for _ in [0:all_] do
   let some won <- lt' (<- elem' b q) (<- elem' a p)|return end1 acc p q
   if won then
    acc:=acc.push<|<- elem' b q;q:=q+1;cb:=cb+1;ca:=0
    if q == b.size then return end1 acc p q
    if cb>=mg then break
   else
    acc:=acc.push<|<- elem' a p;p:=p+1;ca:=ca+1;cb:=0
    if p+1 == a.size then return end2 acc p q
    if ca>=mg then break
  rule "list.sort.gallop"
  mg:=mg+1
  for _ in [0:all_] do
   if mg>1 then mg:=mg-1
   vd mg
   let some k <- kG false (<- elem' b q) a p (a.size-p) 0|return end1 acc p q
   ca:=k
   if k>0 then
    acc:=acc++a.extract p (p+k);p:=p+k
    if p+1 == a.size then return end2 acc p q
    if p == a.size then return end1 acc p q
   acc:=acc.push<|<- elem' b q;q:=q+1
   if q == b.size then return end1 acc p q
   let some k <- kG true (<- elem' a p) b q (b.size-q) 0|return end1 acc p q
   cb:=k
   if k>0 then
    acc:=acc++b.extract q (q+k);q:=q+k
    if q == b.size then return end1 acc p q
   acc:=acc.push<|<- elem' a p;p:=p+1
   if p+1 == a.size then return end2 acc p q
   if ca<7 && cb<7 then break
  mg:=mg+1
  vd mg
 unsupported "internal:list.sort.merge-bound"):=rfl
section
variable {o:Ord}{N:Nat}{f:Nat->Keyed}{A B hs:ag}{ia ib:Nat}
abbrev fa (f:Nat->Keyed)(l:ag):Array Keyed:=(l.map f).toArray
def kY(l:ag):(fa f l).size=l.length:=by unfold fa;rw[aW,aK]
def Kg(l:ag)(i:Nat):(fa f l)[i]?=(l[i]?).map f:=by unfold fa;rw[dZ,bh]
def kI{l:ag}{i x:Nat}(h:l[i]?=some x):(fa f l)[i]?=some (f x):=by rw[Kg,h];rfl
def ug(l:ag)(x:Nat):(fa f l).push (f x)=fa f (l++[x]):=by
 unfold fa;rw[List.push_toArray,cj];rfl
def nK(l m:ag):fa f l++fa f m=fa f (l++m):=by
 unfold fa;rw[List.append_toArray,cj]
def uN(l:ag)(i j:Nat):(fa f l).extract i j=fa f ((l.drop i).take<|j-i):=by
 unfold fa;rw[List.extract_toArray,List.extract_eq_take_drop,map_take,map_drop]
def vZ(l:ag)(i:Nat):(fa f l).extract i l.length=fa f (l.drop i):=by
 rw[uN,cU<|by rw[bR];lia]
structure Ab (o:Ord)(N:Nat)(A B:ag):Prop where
 sa:A.Pairwise (P o)
 sb:B.Pairwise (P o)
 lt:∀x∈A,∀y∈B,x<y
 nb:∀y∈B,y<N
 na:∀x∈A,x<N
structure Mg (o:Ord)(A B hs:ag)(ia ib:Nat):Prop where
 la:ia<=A.length
 lb:ib<=B.length
 len:hs.length=ia+ib
 so:hs.Pairwise (P o)
 mem:∀x∈hs,x∈A\/x∈B
 ua:∀x∈hs,∀y∈A.drop ia,P o x y
 ub:∀x∈hs,∀y∈B.drop ib,P o x y
abbrev Res (o:Ord)(f:Nat->Keyed)(A B:ag)(out:Array Keyed):Prop:=∃hs:ag,out=fa f hs/\hs.length=A.length+B.length/\hs.Pairwise (P o)/\∀x∈hs,x∈A\/x∈B
def qv{l:ag}(h:l.Pairwise<|P o){i j x:Nat}(hx:l[i]?=some x)(hy:l[j]?=some y)(hij:i<j):P o x y:=by
 obtain⟨h1,e1⟩:=aM.mp hx;obtain⟨h2,e2⟩:=aM.mp hy;rw[<- e1,<- e2];exact di.mp h i j h1 h2 hij
def tZ{l:ag}{y:Nat}(h:y∈l.drop i):∃j,i<=j/\l[j]?=some y:=by
 obtain⟨k,hk⟩:=gE h;rw[dX]at hk;exact⟨i+k,(),hk⟩
def Mg.u5(ab:Ab o N A B)(m:Mg o A B hs ia ib){x:Nat}(hx:A[ia]?=some x)(h:∀y∈B.drop ib,P o x y):Mg o A B (hs++[x]) (ia+1) ib:=by
 obtain⟨h1,e1⟩:=aM.mp hx;have hd:A.drop ia=x::A.drop (ia+1):=by rw[<- e1];exact bV h1
 refine⟨(),m.lb,by rw[aX,m.len];show ia+ib+1=_;lia,?_,λz hz=>?_,λz hz y hy=>?_,λz hz y hy=>?_⟩
 ·rw[bX];exact⟨m.so,c9 ..,λa ha b hb=>by rw[bI.mp hb];exact m.ua a ha x<|by rw[hd];exact aN ..⟩
 ·rcases bF.mp hz with z'|z'
  ·exact m.mem z z'
  ·rw[bI.mp z'];exact .inl<|aY hx
 ·rcases bF.mp hz with z'|z'
  ·exact m.ua z z' y (by rw[hd];exact aP _ hy)
  ·rw[bI.mp z'];obtain⟨j,hj,ej⟩:=tZ hy;exact qv ab.sa hx ej ()
 ·rcases bF.mp hz with z'|z'
  ·exact m.ub z z' y hy
  ·rw[bI.mp z'];exact h y hy
def Ab.vV(ab:Ab o N A B)(m:Mg o A B hs ia ib){x:Nat}(hx:B[ib]?=some x)(h:∀y∈A.drop ia,P o x y):Mg o A B (hs++[x]) ia (ib+1):=by
 obtain⟨h1,e1⟩:=aM.mp hx;have hd:B.drop ib=x::B.drop (ib+1):=by rw[<- e1];exact bV h1
 refine⟨m.la,(),by rw[aX,m.len];rfl,?_,λz hz=>?_,λz hz y hy=>?_,λz hz y hy=>?_⟩
 ·rw[bX];exact⟨m.so,c9 ..,λa ha b hb=>by rw[bI.mp hb];exact m.ub a ha x<|by rw[hd];exact aN ..⟩
 ·rcases bF.mp hz with z'|z'
  ·exact m.mem z z'
  ·rw[bI.mp z'];exact .inr<|aY hx
 ·rcases bF.mp hz with z'|z'
  ·exact m.ua z z' y hy
  ·rw[bI.mp z'];exact h y hy
 ·rcases bF.mp hz with z'|z'
  ·exact m.ub z z' y (by rw[hd];exact aP _ hy)
  ·rw[bI.mp z'];obtain⟨j,hj,ej⟩:=tZ hy;exact qv ab.sb hx ej ()
def pQ{l:ag}(h:l.Pairwise<|P o){i x:Nat}(hx:l[i]?=some x)(hxy:P o y x):∀z∈l.drop i,P o y z:=λz hz=>by
 obtain⟨j,hj,ej⟩:=tZ hz;by_cases c:j=i
 ·subst c;rw[hx]at ej;cases ej;exact hxy
 ·exact hxy.trans<|qv h hx ej ()
def take_snoc{l:ag}{k x:Nat}(h:l[i+k]?=some x):(l.drop i).take (k+1)=(l.drop i).take k++[x]:=by
 have h':(l.drop i)[k]?=some x:=by rw[dX];exact h
 obtain⟨h1,e1⟩:=aM.mp h';rw[f_ h1,e1]
theorem Mg.xJ(ab:Ab o N A B)(m:Mg o A B hs ia ib)(hy:B[ib]?=some y):∀k,ia+k<=A.length->(∀i x,i<k->A[ia+i]?=some x->P o x y)->Mg o A B (hs++(A.drop ia).take k) (ia+k) ib
 | 0,_,_=>by rw[fy,cN];exact m
 | k+1,hk,h=>by
  have ih:=Mg.xJ ab m hy k () λi x hi=>h i x ();have hx:A[ia+k]?=some (A[ia+k]'()):=aG _;rw[take_snoc hx,<- bG];exact ih.u5 ab hx<|pQ ab.sb hy<|h k _ () hx
theorem Mg.xh(ab:Ab o N A B)(m:Mg o A B hs ia ib)(hy:A[ia]?=some y):∀k,ib+k<=B.length->(∀i x,i<k->B[ib+i]?=some x->P o x y)->Mg o A B (hs++(B.drop ib).take k) ia (ib+k)
 | 0,_,_=>by rw[fy,cN];exact m
 | k+1,hk,h=>by
  have ih:=Mg.xh ab m hy k () λi x hi=>h i x ();have hx:B[ib+k]?=some (B[ib+k]'()):=aG _;rw[take_snoc hx,<- bG];exact ab.vV ih hx<|pQ ab.sa hy<|h k _ () hx
def vU{l:ag}(h:l.Pairwise<|P o)(i:Nat):(l.drop i).Pairwise (P o):=h.sublist<|List.drop_sublist ..
def Mg.fin(ab:Ab o N A B)(m:Mg o A B hs ia ib)(h:∀x∈A.drop ia,∀y∈B.drop ib,P o x y):Res o f A B (fa f hs++(fa f A).extract ia A.length++(fa f B).extract ib B.length):=by
 rw[vZ,vZ,nK,nK];have la:=m.la;have lb:=m.lb;refine⟨_,rfl,by rw[aX,aX,m.len,bR,bR];lia,?_,λx hx=>?_⟩
 ·rw[bX,bX];refine⟨⟨m.so,vU ab.sa _,m.ua⟩,vU ab.sb _,λx hx y hy=>?_⟩
  rcases bF.mp hx with z|z
  ·exact m.ub x z y hy
  ·exact h x z y hy
 ·rcases bF.mp hx with z|z
  ·rcases bF.mp z with z|z
   ·exact m.mem x z
   ·exact .inl<|eE z
  ·exact .inr<|eE z
def Mg.Tv(ab:Ab o N A B)(m:Mg o A B hs ia ib)(h:∀x∈A.drop ia,∀y∈B.drop ib,P o y x):Res o f A B (fa f hs++(fa f B).extract ib B.length++(fa f A).extract ia A.length):=by
 rw[vZ,vZ,nK,nK];have la:=m.la;have lb:=m.lb;refine⟨_,rfl,by rw[aX,aX,m.len,bR,bR];lia,?_,λx hx=>?_⟩
 ·rw[bX,bX];refine⟨⟨m.so,vU ab.sb _,m.ub⟩,vU ab.sa _,λx hx y hy=>?_⟩
  rcases bF.mp hx with z|z
  ·exact m.ua x z y hy
  ·exact h y hy x z
 ·rcases bF.mp hx with z|z
  ·rcases bF.mp z with z|z
   ·exact m.mem x z
   ·exact .inr<|eE z
  ·exact .inl<|eE z
def drop_nil{l:ag}(h:l.length<=i):l.drop i=[]:=List.drop_eq_nil_of_le h
def EN{l:ag}(h:l.Pairwise<|P o)(b n:Nat)(hn:b+n<=l.length):So o (λi=>l.getD (b+i) 0) 0 n:=λi j _ hij hj=>
 qv h (i:=b+i) (j:=b+j) (by show _=some (l.getD (b+i) 0);rw[aI,aG<|show b+i<l.length by lia];rfl) (by show _=some (l.getD (b+j) 0);rw[aI,aG<|show b+j<l.length by lia];rfl) ()
def getD_at{l:ag}{i:Nat}(h:i<l.length):l[i]?=some (l.getD i 0):=by
 rw[aI,aG h];rfl
end
structure Sm (st st':SortSt):Prop where
 a:arrOf st'=arrOf st
 k:kindOf st'=kindOf st
 p:pendingOf st'=pendingOf st
 f:failedOf st'=failedOf st
def Sm.refl{st:SortSt}:Sm st st:=⟨rfl,rfl,rfl,rfl⟩
def Sm.trans{st:SortSt}(a:Sm st st')(b:Sm st' st''):Sm st st'':=⟨b.a.trans a.a,b.k.trans a.k,b.p.trans a.p,b.f.trans a.f⟩
meta abbrev G:=Option (Array Keyed)×Array Keyed×Nat×Nat×Nat×Nat×Nat
abbrev T3 (a b out:Array Keyed)(ia ib mg ac bc:Nat):StateT SortSt Sem (ForInStep G):=do
 let x <- elem' a ia
 if (ia+1+1 == a.size)=true then pure (ForInStep.done (some<|out.push x++b.extract ib b.size++a.extract (ia+1) a.size,out.push x,ia+1,ib,mg,ac,bc))
 else if (decide (ac<7) && decide (bc<7))=true then pure (ForInStep.done (none,out.push x,ia+1,ib,mg,ac,bc))
 else pure (ForInStep.yield (none,out.push x,ia+1,ib,mg,ac,bc))
abbrev T2 (a b out:Array Keyed)(ia ib mg ac bc:Nat):StateT SortSt Sem (ForInStep G):=do
 let x <- elem' b ib
 if (ib+1 == b.size)=true then pure (ForInStep.done (some<|out.push x++a.extract ia a.size++b.extract (ib+1) b.size,out.push x,ia,ib+1,mg,ac,bc))
 else
  let y <- elem' a ia
  let r <- kG true y b (ib+1) (b.size-(ib+1)) 0
  match r with
  | some k=>
   if k>0 then
    if (ib+1+k == b.size)=true then pure (ForInStep.done (some<|out.push x++b.extract (ib+1) (ib+1+k)++a.extract ia a.size++b.extract (ib+1+k) b.size,out.push x++b.extract (ib+1) (ib+1+k),ia,ib+1+k,mg,ac,k))
    else T3 a b (out.push x++b.extract (ib+1) (ib+1+k)) ia (ib+1+k) mg ac k
   else T3 a b (out.push x) ia (ib+1) mg ac k
  | _=>pure<|ForInStep.done (some<|out.push x++a.extract ia a.size++b.extract (ib+1) b.size,out.push x,ia,ib+1,mg,ac,bc)
abbrev T1 (a b out:Array Keyed)(ia ib mg ac bc:Nat):StateT SortSt Sem (ForInStep G):=do
 vd mg
 let x <- elem' b ib
 let r <- kG false x a ia (a.size-ia) 0
 match r with
 | some k=>
  if k>0 then
   if (ia+k+1 == a.size)=true then pure (ForInStep.done (some<|out++a.extract ia (ia+k)++b.extract ib b.size++a.extract (ia+k) a.size,out++a.extract ia (ia+k),ia+k,ib,mg,k,bc))
   else if (ia+k == a.size)=true then pure (ForInStep.done (some<|out++a.extract ia (ia+k)++a.extract (ia+k) a.size++b.extract ib b.size,out++a.extract ia (ia+k),ia+k,ib,mg,k,bc))
   else T2 a b (out++a.extract ia (ia+k)) (ia+k) ib mg k bc
  else T2 a b out ia ib mg k bc
 | _=>pure<|ForInStep.done (some<|out++a.extract ia a.size++b.extract ib b.size,out,ia,ib,mg,ac,bc)
section
variable {prog:aj}{w:ah}{A:aA}{E:af->aC->Prop}{s:aC}{o:Ord}{N:Nat}{f:Nat->Keyed}{kd:SortKind}{st st0:SortSt}{X Y hs:ag}{ia ib:Nat}
def tu(h:Sm st0 st){Q:Unit->SortSt->Prop}(q:∀st',Sm st0 st'->Q Unit.unit st'):wpS (model prog w) A E s (vd m) Q st:=by
 rw[Pe];exact eS<|q _<|h.trans ⟨rfl,rfl,rfl,rfl⟩
abbrev On (o:Ord)(f:Nat->Keyed)(X Y:ag)(n:Nat)(hs:ag)(ia ib:Nat):Prop:=Mg o X Y hs ia ib/\ia+1<X.length/\ib<Y.length/\n<=ia+ib
abbrev G2 (o:Ord)(f:Nat->Keyed)(X Y:ag)(n:Nat)(st0:SortSt):ForInStep G->SortSt->Prop:=λr st'=>Sm st0 st'/\match r with
 | .done c=>(∃r z,c=(some r,z)/\Res o f X Y r)\/∃hs ia ib mg ac bc,c=(none,fa f hs,ia,ib,mg,ac,bc)/\On o f X Y n hs ia ib
 | .yield c=>∃hs ia ib mg ac bc,c=(none,fa f hs,ia,ib,mg,ac,bc)/\On o f X Y n hs ia ib
abbrev Top (o:Ord)(X Y:ag):Prop:=∀i x,X[i]?=some x->i+1=X.length->∀y∈Y,P o y x
def Yq{α β γ κ:Type}{g:α->κ}{O:α->β->γ->Prop}{T:κ->Prop}(k:∀a b c,O a b c->T (g a)):∀q,(∃a b c,q=g a/\O a b c)->T q:=by
 rintro _ ⟨a,b,c,rfl,h⟩;exact k a b c h
def Xu{α β γ δ κ:Type}{S:Prop}{g:α->β->γ->δ->κ}{O:α->β->γ->δ->Prop}{T:κ->Prop}(k:S->∀a b c d,O a b c d->T (g a b c d)):∀q,(S/\∃a b c d,q=g a b c d/\O a b c d)->T q:=by
 rintro q ⟨s,a,b,c,d,rfl,o⟩;exact k s a b c d o
def XI{α β γ δ ε κ:Type}{S:Prop}{g:α->β->γ->δ->ε->κ}{O:α->β->γ->δ->ε->Prop}{T:κ->Prop}(k:S->∀a b c d e,O a b c d e->T (g a b c d e)):∀q,(S/\∃a b c d e,q=g a b c d e/\O a b c d e)->T q:=by
 rintro q ⟨s,a,b,c,d,e,rfl,o⟩;exact k s a b c d e o
def XQ{α β γ δ ε ζ κ:Type}{S:Prop}{g:α->β->γ->δ->ε->ζ->κ}{O:α->β->γ->δ->ε->ζ->Prop}{T:κ->Prop}(k:S->∀a b c d e f,O a b c d e f->T (g a b c d e f)):∀q,(S/\∃a b c d e f,q=g a b c d e f/\O a b c d e f)->T q:=by
 rintro q ⟨s,a,b,c,d,e,f,rfl,o⟩;exact k s a b c d e f o
def XU{α β γ δ ε κ ρ σ:Type}{S:Prop}{j:ρ->σ->κ}{R:ρ->Prop}{g:α->β->γ->δ->ε->κ}{O:α->β->γ->δ->ε->Prop}{T:κ->Prop}(k1:S->∀r z,R r->T (j r z))(k:S->∀a b c d e,O a b c d e->T (g a b c d e)):∀q,(S/\((∃r z,q=j r z/\R r)\/∃a b c d e,q=g a b c d e/\O a b c d e))->T q:=by
 rintro q ⟨s,⟨r,z,rfl,hr⟩|⟨a,b,c,d,e,rfl,o⟩⟩
 ·exact k1 s r z hr
 ·exact k s a b c d e o
def XS{α β γ δ ε ζ κ ρ σ:Type}{S:Prop}{j:ρ->σ->κ}{R:ρ->Prop}{g:α->β->γ->δ->ε->ζ->κ}{O:α->β->γ->δ->ε->ζ->Prop}{T:κ->Prop}(k1:S->∀r z,R r->T (j r z))(k:S->∀a b c d e f,O a b c d e f->T (g a b c d e f)):∀q,(S/\((∃r z,q=j r z/\R r)\/∃a b c d e f,q=g a b c d e f/\O a b c d e f))->T q:=by
 rintro q ⟨s,⟨r,z,rfl,hr⟩|⟨a,b,c,d,e,f,rfl,o⟩⟩
 ·exact k1 s r z hr
 ·exact k s a b c d e f o
def ue(ab:Ab o N X Y)(tp:Top o X Y)(m:Mg o X Y hs ia ib)(h:ia+1=X.length):Res o f X Y (fa f hs++(fa f Y).extract ib Y.length++(fa f X).extract ia X.length):=
 m.Tv ab λx hx y hy=>by
  obtain⟨j,hj,ej⟩:=tZ hx;have:=(aM.mp ej).1;exact tp j x ej () y<|eE hy
def Qn(ab:Ab o N X Y)(tp:Top o X Y)(hm:Sm st0 st){n mg x:Nat}(m:Mg o X Y hs ia ib)(ha:ia+1<X.length)(hb:ib<Y.length)(hn:n<=ia+ib)(hx:X[ia]?=some x)(hy:Y[ib]?=some y)(hxy:P o x y) :
  wpS (model prog w) A E s (T3 (fa f X) (fa f Y) (fa f hs) ia ib mg ac bc) (G2 o f X Y n st0) st:=by
 unfold T3;rw[kY,kY];refine aV<|jc (kI hx) ?_;have m2:=m.u5 ab hx<|pQ ab.sb hy hxy;rw[ug];by_cases c:ia+1+1=X.length
 ·rw[aL<|by rw[c];exact bK _];exact a_ ⟨hm,.inl ⟨_,_,rfl,ue ab tp m2 c⟩⟩
 ·rw[aJ<|by simpa using c];by_cases c2:(decide (ac<7) && decide (bc<7))=true
  ·rw[aL c2];exact a_ ⟨hm,.inr ⟨_,_,_,_,_,_,rfl,m2,(),hb,()⟩⟩
  ·rw[aJ c2];exact a_ ⟨hm,⟨_,_,_,_,_,_,rfl,m2,(),hb,()⟩⟩
def Qv(C:yQ prog w A s o N f kd)(hk:kindOf st=kd)(ab:Ab o N X Y)(tp:Top o X Y)(hm:Sm st0 st){n mg x:Nat}(m:Mg o X Y hs ia ib)(ha:ia+1<X.length)(hb:ib<Y.length)(hn:n<=ia+ib)(hx:X[ia]?=some x)(hy:Y[ib]?=some y)(hxy:P o y x) :
  wpS (model prog w) A E s (T2 (fa f X) (fa f Y) (fa f hs) ia ib mg ac bc) (G2 o f X Y n st0) st:=by
 unfold T2;rw[kY,kY];f_are;have m2:=ab.vV m hy<|pQ ab.sa hx hxy;rw[ug];by_cases c:ib+1=Y.length
 ·rw[aL<|by rw[c];exact bK _];exact a_ ⟨hm,.inl ⟨_,_,rfl,m2.fin ab λx _ y hy=>by rw[drop_nil ()]at hy;cases hy⟩⟩
 ·rw[aJ<|by simpa using c];refine aV<|jc (kI hx) ?_;refine aV (MH C hk (h:=λi=>Y.getD (ib+1+i) 0) (λi hi=>kI<|getD_at ()) (λi hi=>?_) (EN ab.sb _ _ ()) () λk k1 k2 k3=>?_)
  ·have:=aY<|getD_at (l:=Y) (i:=ib+1+i) ();exact⟨ab.lt x (aY hx) _ this,ab.nb _ this⟩
  ·dsimp only;have m3:=m2.xh ab hx k () λi z hi ez=>by
    have:=k2 i hi;rw[aI,ez]at this;exact this
   by_cases c2:k>0
   ·rw[aL c2,uN,show ib+1+k-(ib+1)=k by lia,nK];by_cases c3:ib+1+k=Y.length
    ·rw[aL<|by rw[c3];exact bK _];exact a_ ⟨hm,.inl ⟨_,_,rfl,m3.fin ab λx _ y hy=>by rw[drop_nil ()]at hy;cases hy⟩⟩
    ·rw[aJ<|by simpa using c3];exact Qn ab tp hm m3 ha () () hx (getD_at ())<|k3 k (aQ _) ()
   ·rw[aJ c2];have:k=0:=()
    subst this;exact Qn ab tp hm m2 ha () () hx (getD_at ())<|k3 0 (aQ _) ()
def VQ(C:yQ prog w A s o N f kd)(hk:kindOf st0=kd)(ab:Ab o N X Y)(tp:Top o X Y)(hm:Sm st0 st){n mg:Nat}(m:Mg o X Y hs ia ib)(ha:ia+1<X.length)(hb:ib<Y.length)(hn:n<=ia+ib) :
  wpS (model prog w) A E s (T1 (fa f X) (fa f Y) (fa f hs) ia ib mg ac bc) (G2 o f X Y n st0) st:=by
 unfold T1;rw[kY,kY];refine aV<|tu hm λst1 hm1=>?_;have hy:=getD_at (l:=Y) (i:=ib) hb;have yB:=aY hy;f_are;refine aV (Jo C (by rw[hm1.k];exact hk) (h:=λi=>X.getD (ia+i) 0) (λi hi=>kI<|getD_at ()) (λi hi=>ab.lt _ (aY<|getD_at (l:=X) (i:=ia+i) ()) _ yB) (ab.nb _ yB) (EN ab.sa _ _ ()) () λk k1 k2 k3=>?_);dsimp only;have m3:=m.xJ ab hy k () λi z hi ez=>by
  have:=k2 i hi;rw[aI,ez]at this;exact this
 by_cases c2:k>0
 ·rw[aL c2,uN,show ia+k-ia=k by lia,nK];by_cases c3:ia+k+1=X.length
  ·rw[aL<|by rw[c3];exact bK _];exact a_ ⟨hm1,.inl ⟨_,_,rfl,ue ab tp m3 c3⟩⟩
  ·rw[aJ<|by simpa using c3];by_cases c4:ia+k=X.length
   ·rw[aL<|by rw[c4];exact bK _];exact a_ ⟨hm1,.inl ⟨_,_,rfl,m3.fin ab λx hx y _=>by rw[drop_nil ()]at hx;cases hx⟩⟩
   ·rw[aJ<|by simpa using c4];exact Qv C (by rw[hm1.k];exact hk) ab tp hm1 m3 () hb () (getD_at ()) hy<|k3 k (aQ _) ()
 ·rw[aJ c2];have:k=0:=()
  subst this;exact Qv C (by rw[hm1.k];exact hk) ab tp hm1 m ha hb hn (getD_at ()) hy<|k3 0 (aQ _) ()
def UN(C:yQ prog w A s o N f kd)(hk:kindOf st=kd)(ab:Ab o N X Y)(tp:Top o X Y)(h1:1<=X.length)(hy0:Y[0]?=some y0)(h0:∀x∈X,P o y0 x)
  {Q:Array Keyed->SortSt->Prop} (q:∀out st',Sm st st'->Res o f X Y out->Q out st'):wpS (model prog w) A E s (xX (fa f X)<|fa f Y) Q st:=by
 rw[Cz];kl_no;dsimp only;rw[kY,kY];have hY:=(aM.mp hy0).1;refine aV<|jc (kI hy0) ?_;have m0:Mg o X Y [] 0 0:=⟨cL _,cL _,rfl,List.Pairwise.nil,(nofun),(nofun),(nofun)⟩;have m1:Mg o X Y [y0] 0 1:=ab.vV m0 hy0 h0;have e1:(#[f y0]:Array Keyed)=fa f [y0]:=rfl;rw[e1];by_cases c:1=Y.length
 ·rw[aL<|by rw[<- c];rfl];exact a_ (q _ _ Sm.refl<|m1.fin ab λx _ y hy=>by rw[drop_nil ()]at hy;cases hy)
 ·rw[aJ<|by simpa using c];by_cases c2:0+1=X.length
  ·rw[aL<|by rw[<- c2];rfl];exact a_ (q _ _ Sm.refl<|ue ab tp m1 c2)
  ·rw[aJ<|by simpa using c2];refine aV<|f9 ?_;refine aV (dP (cG (I:=λx c st'=>Sm st st'/\∃hs ia ib mg,c=(none,fa f hs,ia,ib,mg)/\On o f X Y (x+1) hs ia ib)
    (Q:=λc st'=>Sm st st'/\∃r z,c=(some r,z)/\Res o f X Y r) ?step ?fin ⟨Sm.refl,_,_,_,_,rfl,m1,(),(),aQ _⟩) ?post)
   case post=>
    rintro c st' ⟨hm,r,z,rfl,hr⟩;exact a_<|q _ _ hm hr
   case fin=>
    rintro c st' ⟨hm,hs,ia,ib,mg,rfl,m,a1,a2,a3⟩;exfalso
    lia
   case step=>
    intro x c st' _ hx hh;revert hh;revert c;refine Xu λhm hs ia ib mg ho=>?_;have m:=ho.1;have a1:=ho.2.1;have a2:=ho.2.2.1;have a3:=ho.2.2.2;clear ho;dsimp only;refine aV (dP (cG (I:=λx' c st''=>Sm st st''/\∃hs ia ib ac bc,c=(none,fa f hs,ia,ib,ac,bc)/\On o f X Y (x+1+min x' 1) hs ia ib)
     (Q:=λc st''=>Sm st st''/\((∃r z,c=(some r,z)/\Res o f X Y r)\/∃hs ia ib ac bc,c=(none,fa f hs,ia,ib,ac,bc)/\On o f X Y (x+1+1) hs ia ib)) ?istep ?ifin ⟨hm,_,_,_,_,_,rfl,m,a1,a2,a3⟩) ?ipost)
    case ifin=>
     rintro c st'' ⟨hm',hs,ia,ib,ac,bc,rfl,m,a1,a2,a3⟩;exact⟨hm',.inr ⟨_,_,_,_,_,rfl,m,a1,a2,()⟩⟩
    case istep=>
     intro x' c st'' _ hx' hh;revert hh;revert c;refine XI λhm' hs ia ib ac bc ho=>?_;have m:=ho.1;have a1:=ho.2.1;have a2:=ho.2.2.1;have a3:=ho.2.2.2;clear ho;dsimp only;have hy:=getD_at (l:=Y) (i:=ib) a2;have hxx:=getD_at (l:=X) (i:=ia) ();have yB:=aY hy;have xA:=aY hxx;have lt:=ab.lt _ xA _ yB;f_are;refine aV<|jc (kI hxx) ?_;refine aV (wQ C (by rw[hm'.k];exact hk) (ab.nb _ yB) (ab.na _ xA) ?_)
     cases hl:o.lt (Y.getD ib 0) (X.getD ia 0)
     ·dsimp[aZ,bN];refine aV<|jc (kI hxx) ?_;have m2:=m.u5 ab hxx<|pQ ab.sb hy<|P.vc hl lt;rw[ug];by_cases c3:ia+1+1=X.length
      ·rw[aL<|by rw[c3];exact bK _];exact a_ ⟨hm',.inl ⟨_,_,rfl,ue ab tp m2 c3⟩⟩
      ·rw[aJ<|by simpa using c3];by_cases c4:ac+1>=mg
       ·rw[aL c4];exact a_ ⟨hm',.inr ⟨_,_,_,_,_,rfl,m2,(),a2,()⟩⟩
       ·rw[aJ c4];exact a_ ⟨hm',_,_,_,_,_,rfl,m2,(),a2,()⟩
     ·dsimp[cE];f_are;have m2:=ab.vV m hy<|pQ ab.sa hxx<|P.of_lt hl;rw[ug];by_cases c3:ib+1=Y.length
      ·rw[aL<|by rw[c3];exact bK _];exact a_ ⟨hm',.inl ⟨_,_,rfl,m2.fin ab λx _ y hy=>by rw[drop_nil ()]at hy;cases hy⟩⟩
      ·rw[aJ<|by simpa using c3];by_cases c4:bc+1>=mg
       ·rw[aL c4];exact a_ ⟨hm',.inr ⟨_,_,_,_,_,rfl,m2,a1,(),()⟩⟩
       ·rw[aJ c4];exact a_ ⟨hm',_,_,_,_,_,rfl,m2,a1,(),()⟩
    case ipost=>
     intro c st'' hh;revert hh;revert c;refine XU (λhm' r z hr=>?_) λhm' hs ia ib ac bc ho=>?_
     ·dsimp only;exact a_ ⟨hm',r,_,rfl,hr⟩
     ·have m:=ho.1;have a1:=ho.2.1;have a2:=ho.2.2.1;have a3:=ho.2.2.2;clear ho;dsimp only;kl_no;refine aV (dP (cG (I:=λx' c st''=>Sm st st''/\∃hs ia ib mg ac bc,c=(none,fa f hs,ia,ib,mg,ac,bc)/\On o f X Y (x+1+1) hs ia ib)
       (Q:=λc st''=>Sm st st''/\((∃r z,c=(some r,z)/\Res o f X Y r)\/∃hs ia ib mg ac bc,c=(none,fa f hs,ia,ib,mg,ac,bc)/\On o f X Y (x+1+1) hs ia ib)) ?jstep ?jfin ⟨hm',_,_,_,_,_,_,rfl,m,a1,a2,a3⟩) ?jpost)
      case jfin=>
       rintro c st3 ⟨hm3,hh⟩;exact⟨hm3,.inr hh⟩
      case jstep=>
       intro x' c st3 _ hx' hh;revert hh;revert c;refine XQ λhm3 hs ia ib mg ac bc ho=>?_;have m:=ho.1;have a1:=ho.2.1;have a2:=ho.2.2.1;have a3:=ho.2.2.2;clear ho;dsimp only;have t1:=λmg=>VQ (n:=x+1+1) (mg:=mg) (ac:=ac) (bc:=bc) (E:=E) C hk ab tp hm3 m a1 a2 a3;unfold T1 T2 T3 at t1;rw[kY,kY]at t1;refine dP (Q:=G2 o f X Y (x+1+1) st) ?_ ?_
       ·by_cases c3:mg>1
        ·rw[aL c3];exact t1 (mg-1)
        ·rw[aJ c3];exact t1 mg
       ·rintro r st4 ⟨hm4,hr⟩
        cases r with
        | done c=>exact⟨hm4,hr⟩
        | yield c=>exact⟨hm4,hr⟩
      case jpost=>
       intro c st3 hh;revert hh;revert c;refine XS (λhm3 r z hr=>?_) λhm3 hs ia ib mg ac bc ho=>?_
       ·dsimp only;exact a_ ⟨hm3,r,_,rfl,hr⟩
       ·have m:=ho.1;have a1:=ho.2.1;have a2:=ho.2.2.1;have a3:=ho.2.2.2;clear ho;dsimp only;refine aV<|tu hm3 λst4 hm4=>?_;exact a_ ⟨hm4,_,_,_,_,rfl,m,a1,a2,a3⟩
end
def DO(a b:Array Keyed):xD a b=(do
 rule "list.sort.merge-hi"
 let all_:=a.size+b.size
 let end1 (acc:Array Keyed) (p q:Nat):=a.extract 0 p++b.extract 0 q++acc.reverse
 let end2 (acc:Array Keyed) (p q:Nat):=b.extract 0 q++a.extract 0 p++acc.reverse
 let mut p:=a.size-1
 let mut q:=b.size
 let mut acc:Array Keyed:=#[<- elem' a p]
 if p == 0 then return end1 acc p q
 if q == 1 then return end2 acc p q
 let mut mg:=gallopOf (<- get)
 for _ in [0:all_] do
  let mut ca:=0
  let mut cb:=0
  for _ in [0:all_] do
   let some won <- lt' (<- elem' b (q-1)) (<- elem' a (p-1))|return end1 acc p q
   if won then
    p:=p-1;acc:=acc.push<|<- elem' a p;ca:=ca+1;cb:=0
    if p == 0 then return end1 acc p q
    if ca>=mg then break
   else
    q:=q-1;acc:=acc.push<|<- elem' b q;cb:=cb+1;ca:=0
    if q == 1 then return end2 acc p q
    if cb>=mg then break
  rule "list.sort.gallop"
  mg:=mg+1
  for _ in [0:all_] do
   if mg>1 then mg:=mg-1
   vd mg
   let some t <- kG false (<- elem' b (q-1)) a 0 p (p-1)|return end1 acc p q
   let k:=p-t
   ca:=k
   if k>0 then
    acc:=acc++(a.extract t p).reverse;p:=t
    if p == 0 then return end1 acc p q
   q:=q-1;acc:=acc.push (<- elem' b q)
   if q == 1 then return end2 acc p q
   let some t <- kG true (<- elem' a (p-1)) b 0 q (q-1)|return end1 acc p q
   let k:=q-t
   cb:=k
   if k>0 then
    acc:=acc++(b.extract t q).reverse;q:=t
    if q == 1 then return end2 acc p q
    if q == 0 then return end1 acc p q
   p:=p-1;acc:=acc.push (<- elem' a p)
   if p == 0 then return end1 acc p q
   if ca<7 && cb<7 then break
  mg:=mg+1
  vd mg
 unsupported "internal:list.sort.merge-bound"):=rfl
section
variable {o:Ord}{N:Nat}{f:Nat->Keyed}{A B ts:ag}{na nb:Nat}
def KJ(l:ag):(fa f l).reverse=fa f l.reverse:=by
 unfold fa;rw[List.reverse_toArray,List.map_reverse]
def vK(l:ag)(i:Nat):(fa f l).extract 0 i=fa f (l.take i):=by
 rw[uN,iy,Nat.sub_zero]
structure Mh (o:Ord)(A B ts:ag)(na nb:Nat):Prop where
 la:na<=A.length
 lb:nb<=B.length
 len:ts.length+na+nb=A.length+B.length
 so:ts.Pairwise (P o)
 mem:∀x∈ts,x∈A\/x∈B
 ua:∀y∈A.take na,∀x∈ts,P o y x
 ub:∀y∈B.take nb,∀x∈ts,P o y x
def t_{l:ag}{y:Nat}(h:y∈l.take i):∃j,j<i/\l[j]?=some y:=by
 obtain⟨k,hk⟩:=gE h;have:=(aM.mp hk).1;rw[bq]at this;rw[dB ()]at hk;exact⟨k,(),hk⟩
def take_one{l:ag}{i x:Nat}(h:l[i]?=some x):l.take (i+1)=l.take i++[x]:=by
 obtain⟨h1,e1⟩:=aM.mp h;rw[f_ h1,e1]
def Mh.u5(ab:Ab o N A B)(m:Mh o A B ts (na+1) nb){x:Nat}(hx:A[na]?=some x)(h:∀y∈B.take nb,P o y x):Mh o A B (x::ts) na nb:=by
 have la:=m.la;have len:=m.len;have ht:=take_one hx;have xin:x∈A.take (na+1):=by rw[ht];exact bA _ (bI.mpr rfl)
 refine⟨(),m.lb,by rw[bz];lia,bZ.mpr ⟨λy hy=>m.ua x xin y hy,m.so⟩,λz hz=>?_,λy hy z hz=>?_,λy hy z hz=>?_⟩
 ·rcases bJ.mp hz with rfl|z'
  ·exact .inl (aY hx)
  ·exact m.mem z z'
 ·rcases bJ.mp hz with rfl|z'
  ·obtain⟨j,hj,ej⟩:=t_ hy;exact qv ab.sa ej hx hj
  ·exact m.ua y (by rw[ht];exact dG _ hy) z z'
 ·rcases bJ.mp hz with rfl|z'
  ·exact h y hy
  ·exact m.ub y hy z z'
def Mh.Me(ab:Ab o N A B)(m:Mh o A B ts na<|nb+1){x:Nat}(hx:B[nb]?=some x)(h:∀y∈A.take na,P o y x):Mh o A B (x::ts) na nb:=by
 have lb:=m.lb;have len:=m.len;have ht:=take_one hx;have xin:x∈B.take (nb+1):=by rw[ht];exact bA _ (bI.mpr rfl)
 refine⟨m.la,(),by rw[bz];lia,bZ.mpr ⟨λy hy=>m.ub x xin y hy,m.so⟩,λz hz=>?_,λy hy z hz=>?_,λy hy z hz=>?_⟩
 ·rcases bJ.mp hz with rfl|z'
  ·exact .inr (aY hx)
  ·exact m.mem z z'
 ·rcases bJ.mp hz with rfl|z'
  ·exact h y hy
  ·exact m.ua y hy z z'
 ·rcases bJ.mp hz with rfl|z'
  ·obtain⟨j,hj,ej⟩:=t_ hy;exact qv ab.sb ej hx hj
  ·exact m.ub y (by rw[ht];exact dG _ hy) z z'
def pM{l:ag}(h:l.Pairwise<|P o){i x:Nat}(hx:l[i]?=some x)(hxy:P o x y):∀z∈l.take (i+1),P o z y:=λz hz=>by
 obtain⟨j,hj,ej⟩:=t_ hz;by_cases c:j=i
 ·subst c;rw[hx]at ej;cases ej;exact hxy
 ·exact(qv h ej hx ()).trans hxy
theorem Mh.xJ(ab:Ab o N A B){mb:Nat}(hy:B[mb]?=some y):∀(k:Nat) {ts:ag}{at_:Nat},Mh o A B ts (at_+k) (mb+1)->(∀i x,at_<=i->i<at_+k->A[i]?=some x->P o y x)->Mh o A B ((A.drop at_).take k++ts) at_ (mb+1)
 | 0,ts,at_,m,_=>by rw[fy];exact m
 | k+1,ts,at_,m,h=>by
  have la:=m.la;have hx:A[at_+k]?=some (A[at_+k]'()):=aG _;have m2:=Mh.u5 ab (show Mh o A B ts (at_+k+1) (mb+1)from m) hx<|pM ab.sb hy<|h _ _ () () hx;have m3:=Mh.xJ ab hy k m2 λi x h1 h2=>h i x h1 ();rw[take_snoc hx,bG];exact m3
theorem Mh.xh(ab:Ab o N A B){ma:Nat}(hy:A[ma]?=some y):∀(k:Nat) {ts:ag}{at_:Nat},Mh o A B ts (ma+1) (at_+k)->(∀i x,at_<=i->i<at_+k->B[i]?=some x->P o y x)->Mh o A B ((B.drop at_).take k++ts) (ma+1) at_
 | 0,ts,at_,m,_=>by rw[fy];exact m
 | k+1,ts,at_,m,h=>by
  have lb:=m.lb;have hx:B[at_+k]?=some (B[at_+k]'()):=aG _;have m2:=Mh.Me ab (show Mh o A B ts (ma+1) (at_+k+1)from m) hx<|pM ab.sa hy<|h _ _ () () hx;have m3:=Mh.xh ab hy k m2 λi x h1 h2=>h i x h1 ();rw[take_snoc hx,bG];exact m3
def vP{l:ag}(h:l.Pairwise<|P o)(i:Nat):(l.take i).Pairwise (P o):=h.sublist<|List.take_sublist ..
def Mh.fin(ab:Ab o N A B)(m:Mh o A B ts na nb)(h:∀x∈A.take na,∀y∈B.take nb,P o x y):Res o f A B ((fa f A).extract 0 na++(fa f B).extract 0 nb++fa f ts):=by
 rw[vK,vK,nK,nK];have la:=m.la;have lb:=m.lb;have len:=m.len;refine⟨_,rfl,by rw[aX,aX,bq,bq];lia,?_,λx hx=>?_⟩
 ·rw[bX,bX];refine⟨⟨vP ab.sa _,vP ab.sb _,h⟩,m.so,λx hx y hy=>?_⟩
  rcases bF.mp hx with z|z
  ·exact m.ua x z y hy
  ·exact m.ub x z y hy
 ·rcases bF.mp hx with z|z
  ·rcases bF.mp z with z|z
   ·exact .inl (cA z)
   ·exact .inr<|cA z
  ·exact m.mem x z
def Mh.Tv(ab:Ab o N A B)(m:Mh o A B ts na nb)(h:∀x∈A.take na,∀y∈B.take nb,P o y x):Res o f A B ((fa f B).extract 0 nb++(fa f A).extract 0 na++fa f ts):=by
 rw[vK,vK,nK,nK];have la:=m.la;have lb:=m.lb;have len:=m.len;refine⟨_,rfl,by rw[aX,aX,bq,bq];lia,?_,λx hx=>?_⟩
 ·rw[bX,bX];refine⟨⟨vP ab.sb _,vP ab.sa _,λx hx y hy=>h y hy x hx⟩,m.so,λx hx y hy=>?_⟩
  rcases bF.mp hx with z|z
  ·exact m.ub x z y hy
  ·exact m.ua x z y hy
 ·rcases bF.mp hx with z|z
  ·rcases bF.mp z with z|z
   ·exact .inr (cA z)
   ·exact .inl<|cA z
  ·exact m.mem x z
abbrev Ur (o:Ord)(X Y:ag):Prop:=∀y,Y[0]?=some y->∀x∈X,P o y x
def rO(ab:Ab o N A B)(bt:Ur o A B)(m:Mh o A B ts na nb)(h:nb=1):Res o f A B ((fa f B).extract 0 nb++(fa f A).extract 0 na++fa f ts):=
 m.Tv ab λx hx y hy=>by
  obtain⟨j,hj,ej⟩:=t_ hy;have:j=0:=()
  subst this;exact bt y ej x<|cA hx
def Mh.B5(ab:Ab o N A B)(m:Mh o A B ts na nb)(h:na=0\/nb=0):Res o f A B ((fa f A).extract 0 na++(fa f B).extract 0 nb++fa f ts):=
 m.fin ab λx hx y hy=>by
  rcases h with rfl|rfl
  ·rw[fy]at hx;cases hx
  ·rw[fy]at hy;cases hy
def vB(l:ag)(x:Nat):(fa f l.reverse).push (f x)=fa f (x::l).reverse:=by rw[ug,cZ]
def JQ(l m:ag):fa f l.reverse++(fa f m).reverse=fa f (m++l).reverse:=by rw[KJ,nK,List.reverse_append]
def sq(l:ag):(fa f l.reverse).reverse=fa f l:=by rw[KJ,fB]
end
meta abbrev H:=Option (Array Keyed)×Nat×Nat×Array Keyed×Nat×Nat×Nat
abbrev U3 (a b out:Array Keyed)(na nb mg ac bc:Nat):StateT SortSt Sem (ForInStep H):=do
 let x <- elem' a (na-1)
 if (na-1 == 0)=true then pure (ForInStep.done (some<|a.extract 0 (na-1)++b.extract 0 nb++(out.push x).reverse,na-1,nb,out.push x,mg,ac,bc))
 else if (decide (ac<7) && decide (bc<7))=true then pure (ForInStep.done (none,na-1,nb,out.push x,mg,ac,bc))
 else pure (ForInStep.yield (none,na-1,nb,out.push x,mg,ac,bc))
abbrev U2 (a b out:Array Keyed)(na nb mg ac bc:Nat):StateT SortSt Sem (ForInStep H):=do
 let x <- elem' b (nb-1)
 if (nb-1 == 1)=true then pure (ForInStep.done (some<|b.extract 0 (nb-1)++a.extract 0 na++(out.push x).reverse,na,nb-1,out.push x,mg,ac,bc))
 else
  let y <- elem' a (na-1)
  let r <- kG true y b 0 (nb-1) (nb-1-1)
  match r with
  | some t=>
   if nb-1-t>0 then
    if (t == 1)=true then pure (ForInStep.done (some<|b.extract 0 t++a.extract 0 na++(out.push x++(b.extract t<|nb-1).reverse).reverse,na,t,out.push x++(b.extract t<|nb-1).reverse,mg,ac,nb-1-t))
    else if (t == 0)=true then pure (ForInStep.done (some<|a.extract 0 na++b.extract 0 t++(out.push x++(b.extract t<|nb-1).reverse).reverse,na,t,out.push x++(b.extract t<|nb-1).reverse,mg,ac,nb-1-t))
    else U3 a b (out.push x++(b.extract t<|nb-1).reverse) na t mg ac (nb-1-t)
   else U3 a b (out.push x) na (nb-1) mg ac (nb-1-t)
  | _=>pure<|ForInStep.done (some<|a.extract 0 na++b.extract 0 (nb-1)++(out.push x).reverse,na,nb-1,out.push x,mg,ac,bc)
abbrev U1 (a b out:Array Keyed)(na nb mg ac bc:Nat):StateT SortSt Sem (ForInStep H):=do
 vd mg
 let x <- elem' b (nb-1)
 let r <- kG false x a 0 na (na-1)
 match r with
 | some t=>
  if na-t>0 then
   if (t == 0)=true then pure (ForInStep.done (some<|a.extract 0 t++b.extract 0 nb++(out++(a.extract t na).reverse).reverse,t,nb,out++(a.extract t na).reverse,mg,na-t,bc))
   else U2 a b (out++(a.extract t na).reverse) t nb mg (na-t) bc
  else U2 a b out na nb mg (na-t) bc
 | _=>pure<|ForInStep.done (some<|a.extract 0 na++b.extract 0 nb++out.reverse,na,nb,out,mg,ac,bc)
section
variable {prog:aj}{w:ah}{A:aA}{E:af->aC->Prop}{s:aC}{o:Ord}{N:Nat}{f:Nat->Keyed}{kd:SortKind}{st st0:SortSt}{X Y ts:ag}{na nb:Nat}
abbrev Oh (o:Ord)(X Y:ag)(n:Nat)(ts:ag)(na nb:Nat):Prop:=Mh o X Y ts na nb/\1<=na/\2<=nb/\na+nb+n<=X.length+Y.length
abbrev H2 (o:Ord)(f:Nat->Keyed)(X Y:ag)(n:Nat)(st0:SortSt):ForInStep H->SortSt->Prop:=λr st'=>Sm st0 st'/\match r with
 | .done c=>(∃r z,c=(some r,z)/\Res o f X Y r)\/∃ts na nb mg ac bc,c=(none,na,nb,fa f ts.reverse,mg,ac,bc)/\Oh o X Y n ts na nb
 | .yield c=>∃ts na nb mg ac bc,c=(none,na,nb,fa f ts.reverse,mg,ac,bc)/\Oh o X Y n ts na nb
def PD(ab:Ab o N X Y)(hm:Sm st0 st){n mg x:Nat}(m:Mh o X Y ts (na+1)<|nb+1)(hb:1<=nb)(hn:na+1+(nb+1)+n<=X.length+Y.length)(hx:X[na]?=some x)(hy:Y[nb]?=some y)(hxy:P o y x) :
  wpS (model prog w) A E s (U3 (fa f X) (fa f Y) (fa f ts.reverse) (na+1) (nb+1) mg ac bc) (H2 o f X Y n st0) st:=by
 unfold U3;rw[show na+1-1=na by lia];refine aV<|jc (kI hx) ?_;have m2:=m.u5 ab hx<|pM ab.sb hy hxy;rw[vB,sq];by_cases c:na=0
 ·rw[aL<|by rw[c];rfl];exact a_ ⟨hm,.inl ⟨_,_,rfl,m2.B5 ab<|.inl c⟩⟩
 ·rw[aJ<|by simpa using c];by_cases c2:(decide (ac<7) && decide (bc<7))=true
  ·rw[aL c2];exact a_ ⟨hm,.inr ⟨_,_,_,_,_,_,rfl,m2,(),(),()⟩⟩
  ·rw[aJ c2];exact a_ ⟨hm,⟨_,_,_,_,_,_,rfl,m2,(),(),()⟩⟩
def Pq(C:yQ prog w A s o N f kd)(hk:kindOf st=kd)(ab:Ab o N X Y)(bt:Ur o X Y)(hm:Sm st0 st){n mg x:Nat}(m:Mh o X Y ts (na+1)<|nb+1)(hb:1<=nb)(hn:na+1+(nb+1)+n<=X.length+Y.length)(hx:X[na]?=some x)(hy:Y[nb]?=some y)(hxy:P o x y) :
  wpS (model prog w) A E s (U2 (fa f X) (fa f Y) (fa f ts.reverse) (na+1) (nb+1) mg ac bc) (H2 o f X Y n st0) st:=by
 unfold U2;rw[show nb+1-1=nb by lia,show na+1-1=na by lia];f_are;have m2:=m.Me ab hy<|pM ab.sa hx hxy;have lb:=m.lb;rw[vB,sq];by_cases c:nb=1
 ·rw[aL<|by rw[c];rfl];exact a_ ⟨hm,.inl ⟨_,_,rfl,rO ab bt m2 c⟩⟩
 ·rw[aJ<|by simpa using c];refine aV<|jc (kI hx) ?_;refine aV (MH C hk (h:=λi=>Y.getD (0+i) 0) (λi hi=>kI<|getD_at ()) (λi hi=>?_) (EN ab.sb _ _ ()) () λt t1 t2 t3=>?_)
  ·have:=aY<|getD_at (l:=Y) (i:=0+i) ();exact⟨ab.lt x (aY hx) _ this,ab.nb _ this⟩
  ·dsimp only;have m3:=Mh.xh ab hx (nb-t) (at_:=t) (by rw[show t+(nb-t)=nb by lia];exact m2) λi z hi1 hi2 ez=>by
    have:=t3 i hi1 ();rw[eo,aI (l:=Y),ez]at this;exact this
   by_cases c2:nb-t>0
   ·rw[aL c2,uN Y t nb,JQ,sq];by_cases c3:t=1
    ·rw[aL<|by rw[c3];rfl];exact a_ ⟨hm,.inl ⟨_,_,rfl,rO ab bt m3 c3⟩⟩
    ·rw[aJ<|by simpa using c3];by_cases c4:t=0
     ·rw[aL<|by rw[c4];rfl];exact a_ ⟨hm,.inl ⟨_,_,rfl,m3.B5 ab<|.inr c4⟩⟩
     ·rw[aJ<|by simpa using c4];obtain⟨u,rfl⟩:∃u,t=u+1:=⟨t-1,()⟩;have:=t2 u ();rw[eo]at this;exact PD ab hm m3 () () hx (getD_at ()) this
   ·rw[aJ c2];have:t=nb:=()
    subst this;obtain⟨u,rfl⟩:∃u,t=u+1:=⟨t-1,()⟩;have:=t2 u ();rw[eo]at this;exact PD ab hm m2 () () hx (getD_at ()) this
def VC(C:yQ prog w A s o N f kd)(hk:kindOf st0=kd)(ab:Ab o N X Y)(bt:Ur o X Y)(hm:Sm st0 st){n mg:Nat}(m:Mh o X Y ts (na+1)<|nb+1)(hb:1<=nb)(hn:na+1+(nb+1)+n<=X.length+Y.length) :
  wpS (model prog w) A E s (U1 (fa f X) (fa f Y) (fa f ts.reverse) (na+1) (nb+1) mg ac bc) (H2 o f X Y n st0) st:=by
 unfold U1;refine aV<|tu hm λst1 hm1=>?_;have lb:=m.lb;have la:=m.la;rw[show nb+1-1=nb by lia,show na+1-1=na by lia];have hy:=getD_at (l:=Y) (i:=nb) ();have yB:=aY hy;f_are;refine aV (Jo C (by rw[hm1.k];exact hk) (h:=λi=>X.getD (0+i) 0) (λi hi=>kI<|getD_at ()) (λi hi=>ab.lt _ (aY<|getD_at (l:=X) (i:=0+i) ()) _ yB) (ab.nb _ yB) (EN ab.sa _ _ ()) () λt t1 t2 t3=>?_);dsimp only;have m3:=Mh.xJ ab hy (na+1-t) (at_:=t) (by rw[show t+(na+1-t)=na+1 by lia];exact m) λi z hi1 hi2 ez=>by
  have:=t3 i hi1 ();rw[eo,aI (l:=X),ez]at this;exact this
 by_cases c2:na+1-t>0
 ·rw[aL c2,uN X t<|na+1,JQ,sq];by_cases c4:t=0
  ·rw[aL<|by rw[c4];rfl];exact a_ ⟨hm1,.inl ⟨_,_,rfl,m3.B5 ab<|.inl c4⟩⟩
  ·rw[aJ<|by simpa using c4];obtain⟨u,rfl⟩:∃u,t=u+1:=⟨t-1,()⟩;have:=t2 u ();rw[eo]at this;exact Pq C (by rw[hm1.k];exact hk) ab bt hm1 m3 hb () (getD_at ()) hy this
 ·rw[aJ c2];have:t=na+1:=()
  subst this;have:=t2 na ();rw[eo]at this;exact Pq C (by rw[hm1.k];exact hk) ab bt hm1 m hb hn (getD_at ()) hy this
def VL(C:yQ prog w A s o N f kd)(hk:kindOf st=kd)(ab:Ab o N X Y)(tp:Top o X Y)(bt:Ur o X Y)(h1:1<=X.length)(h2:1<=Y.length)
  {Q:Array Keyed->SortSt->Prop} (q:∀out st',Sm st st'->Res o f X Y out->Q out st'):wpS (model prog w) A E s (xD (fa f X)<|fa f Y) Q st:=by
 rw[DO];kl_no;dsimp only;rw[kY,kY];have hx0:=getD_at (l:=X) (i:=X.length-1) ();refine aV<|jc (kI hx0) ?_;have m0:Mh o X Y [] (X.length-1+1) Y.length:=⟨(),aQ _,by rw[cg];lia,List.Pairwise.nil,(nofun),(λ_ _ _ h=>nomatch h),(λ_ _ _ h=>nomatch h)⟩;have m1:=m0.u5 ab hx0 λy hy=>tp _ _ hx0 () y<|cA hy;obtain⟨x0,ex0⟩:∃x0,x0=X.getD (X.length-1) 0:=⟨_,rfl⟩;rw[<- ex0]at m1 ⊢;have e1:(#[f x0]:Array Keyed)=fa f [x0].reverse:=rfl;rw[e1,sq];by_cases c:X.length-1=0
 ·rw[aL<|by rw[c];rfl];exact a_ (q _ _ Sm.refl<|m1.B5 ab<|.inl c)
 ·rw[aJ<|by simpa using c];by_cases c2:Y.length=1
  ·rw[aL<|by rw[c2];rfl];exact a_ (q _ _ Sm.refl<|rO ab bt m1 c2)
  ·rw[aJ<|by simpa using c2];refine aV<|f9 ?_;refine aV (dP (cG (I:=λx c st'=>Sm st st'/\∃ts na nb mg,c=(none,na,nb,fa f ts.reverse,mg)/\Oh o X Y (x+1) ts na nb)
    (Q:=λc st'=>Sm st st'/\∃r z,c=(some r,z)/\Res o f X Y r) ?step ?fin ⟨Sm.refl,_,_,_,_,rfl,m1,(),(),()⟩) ?post)
   case post=>
    rintro c st' ⟨hm,r,z,rfl,hr⟩;exact a_<|q _ _ hm hr
   case fin=>
    rintro c st' ⟨hm,ts,na,nb,mg,rfl,m,a1,a2,a3⟩;exfalso
    lia
   case step=>
    intro x c st' _ hx hh;revert hh;revert c;refine Xu λhm ts na nb mg ho=>?_;have m:=ho.1;have a1:=ho.2.1;have a2:=ho.2.2.1;have a3:=ho.2.2.2;clear ho;dsimp only;refine aV (dP (cG (I:=λx' c st''=>Sm st st''/\∃ts na nb ac bc,c=(none,na,nb,fa f ts.reverse,ac,bc)/\Oh o X Y (x+1+min x' 1) ts na nb)
     (Q:=λc st''=>Sm st st''/\((∃r z,c=(some r,z)/\Res o f X Y r)\/∃ts na nb ac bc,c=(none,na,nb,fa f ts.reverse,ac,bc)/\Oh o X Y (x+1+1) ts na nb)) ?istep ?ifin ⟨hm,_,_,_,_,_,rfl,m,a1,a2,a3⟩) ?ipost)
    case ifin=>
     rintro c st'' ⟨hm',ts,na,nb,ac,bc,rfl,m,a1,a2,a3⟩;exact⟨hm',.inr ⟨_,_,_,_,_,rfl,m,a1,a2,()⟩⟩
    case istep=>
     intro x' c st'' _ hx' hh;revert hh;revert c;refine XI λhm' ts na nb ac bc ho=>?_;have m:=ho.1;have a1:=ho.2.1;have a2:=ho.2.2.1;have a3:=ho.2.2.2;clear ho;dsimp only;obtain⟨u,rfl⟩:∃u,na=u+1:=⟨na-1,()⟩;obtain⟨v,rfl⟩:∃v,nb=v+1:=⟨nb-1,()⟩;have la:=m.la;have lb:=m.lb;rw[show u+1-1=u by lia,show v+1-1=v by lia];have hy:=getD_at (l:=Y) (i:=v) ();have hxx:=getD_at (l:=X) (i:=u) ();have yB:=aY hy;have xA:=aY hxx;have lt:=ab.lt _ xA _ yB;f_are;refine aV<|jc (kI hxx) ?_;refine aV (wQ C (by rw[hm'.k];exact hk) (ab.nb _ yB) (ab.na _ xA) ?_)
     cases hl:o.lt (Y.getD v 0) (X.getD u 0)
     ·dsimp[aZ,bN];f_are;have m2:=m.Me ab hy<|pM ab.sa hxx<|P.vc hl lt;rw[vB,sq];by_cases c3:v=1
      ·rw[aL<|by rw[c3];rfl];exact a_ ⟨hm',.inl ⟨_,_,rfl,rO ab bt m2 c3⟩⟩
      ·rw[aJ<|by simpa using c3];by_cases c4:bc+1>=mg
       ·rw[aL c4];exact a_ ⟨hm',.inr ⟨_,_,_,_,_,rfl,m2,a1,(),()⟩⟩
       ·rw[aJ c4];exact a_ ⟨hm',_,_,_,_,_,rfl,m2,a1,(),()⟩
     ·dsimp[cE];refine aV<|jc (kI hxx) ?_;have m2:=m.u5 ab hxx<|pM ab.sb hy<|P.of_lt hl;rw[vB,sq];by_cases c3:u=0
      ·rw[aL<|by rw[c3];rfl];exact a_ ⟨hm',.inl ⟨_,_,rfl,m2.B5 ab<|.inl c3⟩⟩
      ·rw[aJ<|by simpa using c3];by_cases c4:ac+1>=mg
       ·rw[aL c4];exact a_ ⟨hm',.inr ⟨_,_,_,_,_,rfl,m2,(),a2,()⟩⟩
       ·rw[aJ c4];exact a_ ⟨hm',_,_,_,_,_,rfl,m2,(),a2,()⟩
    case ipost=>
     intro c st'' hh;revert hh;revert c;refine XU (λhm' r z hr=>?_) λhm' ts na nb ac bc ho=>?_
     ·dsimp only;exact a_ ⟨hm',r,_,rfl,hr⟩
     ·have m:=ho.1;have a1:=ho.2.1;have a2:=ho.2.2.1;have a3:=ho.2.2.2;clear ho;dsimp only;kl_no;refine aV (dP (cG (I:=λx' c st''=>Sm st st''/\∃ts na nb mg ac bc,c=(none,na,nb,fa f ts.reverse,mg,ac,bc)/\Oh o X Y (x+1+1) ts na nb)
       (Q:=λc st''=>Sm st st''/\((∃r z,c=(some r,z)/\Res o f X Y r)\/∃ts na nb mg ac bc,c=(none,na,nb,fa f ts.reverse,mg,ac,bc)/\Oh o X Y (x+1+1) ts na nb)) ?jstep ?jfin ⟨hm',_,_,_,_,_,_,rfl,m,a1,a2,a3⟩) ?jpost)
      case jfin=>
       rintro c st3 ⟨hm3,hh⟩;exact⟨hm3,.inr hh⟩
      case jstep=>
       intro x' c st3 _ hx' hh;revert hh;revert c;refine XQ λhm3 ts na nb mg ac bc ho=>?_;have m:=ho.1;have a1:=ho.2.1;have a2:=ho.2.2.1;have a3:=ho.2.2.2;clear ho;dsimp only;obtain⟨u,rfl⟩:∃u,na=u+1:=⟨na-1,()⟩;obtain⟨v,rfl⟩:∃v,nb=v+1:=⟨nb-1,()⟩;have t1:=λmg=>VC (n:=x+1+1) (mg:=mg) (ac:=ac) (bc:=bc) (E:=E) C hk ab bt hm3 m () a3;unfold U1 U2 U3 at t1;refine dP (Q:=H2 o f X Y (x+1+1) st) ?_ ?_
       ·by_cases c3:mg>1
        ·rw[aL c3];exact t1 (mg-1)
        ·rw[aJ c3];exact t1 mg
       ·rintro r st4 ⟨hm4,hr⟩
        cases r with
        | done c=>exact⟨hm4,hr⟩
        | yield c=>exact⟨hm4,hr⟩
      case jpost=>
       intro c st3 hh;revert hh;revert c;refine XS (λhm3 r z hr=>?_) λhm3 ts na nb mg ac bc ho=>?_
       ·dsimp only;exact a_ ⟨hm3,r,_,rfl,hr⟩
       ·have m:=ho.1;have a1:=ho.2.1;have a2:=ho.2.2.1;have a3:=ho.2.2.2;clear ho;dsimp only;refine aV<|tu hm3 λst4 hm4=>?_;exact a_ ⟨hm4,_,_,_,_,rfl,m,a1,a2,a3⟩
end
def Dm(i:Nat):mergeAt' i=(do
 let s <- get
 let(some (a1,n1,pw),some (a2,n2,_)):=((pendingOf s)[i]?,(pendingOf s)[i+1]?)|unsupported "internal:list.sort.pending"
 set (setPending s<|((pendingOf s).setIfInBounds i (a1,n1+n2,pw)).eraseIdxIfInBounds<|i+1)
 let some k <- kG false (<- elem' (arrOf s) a2) (arrOf s) a1 n1 0|return false
 let(a1,n1):=(a1+k,n1-k)
 if n1 == 0 then return true
 let some n2 <- kG true (<- elem' (arrOf s) (a1+n1-1)) (arrOf s) a2 n2 (n2-1)|return false
 if n2 == 0 then return true
 let x:=(arrOf s).extract a1 a2
 let y:=(arrOf s).extract a2 (a2+n2)
 let both <- if n1<=n2 then xX x y else xD x y
 modify λs=>setArr s (both.toList.zipIdx.foldl (λa (p,j)=>a.setIfInBounds (a1+j) p)<|arrOf s)
 return (failedOf<|<- get).isNone):=rfl
abbrev seg (g:Nat->Nat)(a n:Nat):ag:=(List.range n).map λi=>g<|a+i
section
variable {o:Ord}{N:Nat}{f:Nat->Keyed}{g:Nat->Nat}
def mR(g:Nat->Nat)(a n:Nat):(seg g a n).length=n:=by unfold seg;rw[aK,cK]
def p_{a n i:Nat}(h:i<n):(seg g a n)[i]?=some (g<|a+i):=by unfold seg;rw[bh,cQ h];rfl
def n9{a n x:Nat}(h:x∈seg g a n):∃i,i<n/\x=g (a+i):=by
 obtain⟨i,hi,rfl⟩:=bW.mp h;exact⟨i,dF.mp hi,rfl⟩
def MO{a n:Nat}(h:So o g a<|a+n):(seg g a n).Pairwise (P o):=by
 rw[di];intro i j hi hj hij;rw[mR]at hi hj;have e1:=p_ (g:=g) (a:=a) hi;have e2:=p_ (g:=g) (a:=a) hj;rw[aG<|by rw[mR];exact hi]at e1;rw[aG<|by rw[mR];exact hj]at e2;rw[aU e1,aU e2];exact h _ _ () () ()
def GI{arr:Array Keyed}(hs:arr.size=N)(hg:∀i,i<N->arr[i]?=some (f<|g i)){a n:Nat}(h:a+n<=N):arr.extract a (a+n)=fa f (seg g a n):=by
 apply Array.ext_getElem?;intro i;rw[Kg,Array.getElem?_extract];by_cases c:i<n
 ·rw[aL (),p_ c,hg _ ()];rfl
 ·rw[aJ (),bC<|by rw[mR];lia];rfl
theorem yu{α:Type}(b:Nat):∀(l:List α) (n:Nat) (arr:Array α),((l.zipIdx n).foldl (λa (p,j)=>a.setIfInBounds (b+j) p) arr).size=arr.size
 | [],_,_=>rfl
 | x::l,n,arr=>by
  rw[List.zipIdx_cons,d8,yu b l<|n+1];exact Array.size_setIfInBounds ..
theorem Cs{α:Type}(b:Nat):∀(l:List α) (n:Nat) (arr:Array α) (k:Nat),b+n+l.length<=arr.size->((l.zipIdx n).foldl (λa (p,j)=>a.setIfInBounds (b+j) p) arr)[k]?=if b+n<=k/\k<b+n+l.length then l[k-(b+n)]? else arr[k]?
 | [],n,arr,k,h=>by rw[aJ<|by rw[cg];lia];rfl
 | x::l,n,arr,k,h=>by
  rw[bz]at h;rw[List.zipIdx_cons,d8,Cs b l (n+1) _ k<|by rw[Array.size_setIfInBounds];lia,bz];by_cases c:k=b+n
  ·subst c;rw[aJ (),aL (),fH];show(arr.setIfInBounds (b+n) x)[b+n]?=some x;rw[Array.getElem?_setIfInBounds_self_of_lt ()]
  ·by_cases c2:b+n<=k/\k<b+n+(l.length+1)
   ·rw[aL (),aL c2,show k-(b+n)=k-(b+(n+1))+1 by lia,eN]
   ·rw[aJ (),aJ c2]
    skip
    rw[Array.getElem?_setIfInBounds_ne ()]
end
section
variable {prog:aj}{w:ah}{A:aA}{E:af->aC->Prop}{s:aC}{o:Ord}{N:Nat}{f:Nat->Keyed}{kd:SortKind}{g:Nat->Nat}{st:SortSt}
def Of{Q:PUnit->SortSt->Prop}(h:Q ⟨⟩ st'):wpS (model prog w) A E s (set st':StateT SortSt Sem PUnit) Q st:=by
 unfold wpS;rw[StateT.run_set];exact aO ⟨rfl,h⟩
def Vo(C:yQ prog w A s o N f kd){l1:List<|Nat×Nat×Nat}{sa na nb pw pv:Nat}(h:Sg N f kd g (l1++(sa,na,pw)::(sa+na,nb,pv)::l2).toArray st)(ha:1<=na)(hb:1<=nb)(hN:sa+na+nb<=N)
  (c1:Cl g sa<|sa+na) (s1:So o g sa<|sa+na) (c2:Cl g (sa+na)<|sa+na+nb) (s2:So o g (sa+na)<|sa+na+nb)
  {Q:Bool->SortSt->Prop} (q:∀g' st',Sg N f kd g' (l1++(sa,na+nb,pw)::l2).toArray st'->Rn o g g' sa (sa+na+nb)->Q true st'):wpS (model prog w) A E s (mergeAt' l1.length) Q st:=by
 rw[Dm];refine aV<|f9 ?_;have e1:(pendingOf st)[l1.length]?=some (sa,na,pw):=by rw[h.pend];simp
 have e2:(pendingOf st)[l1.length+1]?=some (sa+na,nb,pv):=by rw[h.pend];simp
 have e3:((pendingOf st).setIfInBounds l1.length (sa,na+nb,pw)).eraseIdxIfInBounds (l1.length+1)=(l1++(sa,na+nb,pw)::l2).toArray:=by
  rw[h.pend,List.setIfInBounds_toArray,gg];congr 1;rw[c5 _ _<|aQ _,fH,List.eraseIdx_append_of_length_le (),show l1.length+1-l1.length=1 by lia];rfl
 rw[e1,e2];dsimp only;rw[e3];refine aV<|Of ?_;have h':Sg N f kd g (l1++(sa,na+nb,pw)::l2).toArray (setPending st (l1++(sa,na+nb,pw)::l2).toArray):=⟨h.size,h.get,h.lt,h.kind,h.failed,rfl⟩;obtain⟨st1,hst1⟩:∃st1,st1=setPending st (l1++(sa,na+nb,pw)::l2).toArray:=⟨_,rfl⟩;rw[<- hst1]at h' ⊢;refine aV<|jc (h.get (sa+na) ()) ?_;have b0:=c2 (sa+na) () ();refine aV (Jo C h'.kind (h:=λi=>g<|sa+i) (λi hi=>h.get _ ()) (λi hi=>by have:=c1 (sa+i) () ();lia) () (λi j _ a b=>s1 _ _ () () ()) () λk k1 k2 k3=>?_);dsimp only;by_cases cz:na-k=0
 ·rw[aL<|by rw[cz];rfl];refine a_ (q g st1 h' ⟨λ_ _=>rfl,λi a b=>?_,λi j a b c=>?_⟩)
  ·by_cases d:i<sa+na
   ·have:=c1 i a d;lia
   ·have:=c2 i () b;lia
  ·by_cases d:j<sa+na
   ·exact s1 i j a b d
   ·by_cases d2:sa+na<=i
    ·exact s2 i j d2 b c
    ·have r:=k2 (i-sa) ();rw[show sa+(i-sa)=i by lia]at r;by_cases d3:j=sa+na
     ·subst d3;exact r
     ·exact r.trans<|s2 _ _ () () c
 ·rw[aJ<|by simpa using cz];have hlast:sa+k+(na-k)-1=sa+na-1:=()
  rw[hlast];refine aV<|jc (h.get (sa+na-1) ()) ?_;have a0:=c1 (sa+na-1) () ();refine aV (MH C h'.kind (h:=λi=>g<|sa+na+i) (λi hi=>h.get _ ()) (λi hi=>by have:=c2 (sa+na+i) () ();lia) (λi j _ a b=>s2 _ _ () () ()) () λt t1 t2 t3=>?_);dsimp only;by_cases cy:t=0
  ·rw[aL<|by rw[cy];rfl];subst cy;refine a_ (q g st1 h' ⟨λ_ _=>rfl,λi a b=>?_,λi j a b c=>?_⟩)
   ·by_cases d:i<sa+na
    ·have:=c1 i a d;lia
    ·have:=c2 i () b;lia
   ·by_cases d:j<sa+na
    ·exact s1 i j a b d
    ·by_cases d2:sa+na<=i
     ·exact s2 i j d2 b c
     ·have r:=t3 (j-(sa+na)) () ();rw[show sa+na+(j-(sa+na))=j by lia]at r;by_cases d3:i=sa+na-1
      ·subst d3;exact r
      ·exact(s1 i (sa+na-1) a () ()).trans r
  ·rw[aJ<|by simpa using cy];have x1:(arrOf st).extract (sa+k) (sa+na)=fa f (seg g (sa+k)<|na-k):=by
    have:=GI (f:=f) (g:=g) h.size h.get (a:=sa+k) (n:=na-k) ()
    rwa [show sa+k+(na-k)=sa+na by lia]at this
   have x2:(arrOf st).extract (sa+na) (sa+na+t)=fa f (seg g (sa+na) t):=GI h.size h.get ();rw[x1,x2];have sx:So o g (sa+k) (sa+k+(na-k)):=λi j a b c=>s1 i j () b ();have sy:So o g (sa+na) (sa+na+t):=λi j a b c=>s2 i j a b ();have ab:Ab o N (seg g (sa+k)<|na-k) (seg g (sa+na) t):={
    sa:=MO sx
    sb:=MO sy
    lt:=λx hx y hy=>by
     obtain⟨i,hi,rfl⟩:=n9 hx;obtain⟨j,hj,rfl⟩:=n9 hy;have:=c1 (sa+k+i) () ();have:=c2 (sa+na+j) () ()
     lia
    nb:=λy hy=>by
     obtain⟨j,hj,rfl⟩:=n9 hy;exact h.lt _ ()
    na:=λy hy=>by
     obtain⟨j,hj,rfl⟩:=n9 hy;exact h.lt _ ()}
   have tp:Top o (seg g (sa+k)<|na-k) (seg g (sa+na) t):=λi x hx hi y hy=>by
    rw[mR]at hi;rw[p_ ()]at hx
    cases hx
    obtain⟨j,hj,rfl⟩:=n9 hy;rw[show sa+k+i=sa+na-1 by lia];exact t2 j hj
   have bt:Ur o (seg g (sa+k)<|na-k) (seg g (sa+na) t):=λy hy x hx=>by
    rw[p_ ()]at hy
    cases hy
    obtain⟨i,hi,rfl⟩:=n9 hx;have:=k3 (k+i) () ()
    rwa [<- e9]at this
   have fin:∀out st2,Sm st1 st2->Res o f (seg g (sa+k)<|na-k) (seg g (sa+na) t) out->wpS (model prog w) A E s (do
     modify λs=>setArr s (out.toList.zipIdx.foldl (λa (p,j)=>a.setIfInBounds (sa+k+j) p)<|arrOf s)
     let s <- get
     pure (failedOf s).isNone) Q st2:=by
    rintro out st2 hm ⟨hs,rfl,hlen,hso,hmem⟩;rw[mR,mR]at hlen;refine aV<|eS<|aV<|f9 ?_;have hf:(failedOf st2)=none:=by rw[hm.f];exact h'.failed
    have hmx:∀j x,hs[j]?=some x->(∃i,i<na-k/\x=g (sa+k+i))\/∃i,i<t/\x=g (sa+na+i):=λj x e=>by
     rcases hmem x (aY e)with z|z
     ·exact .inl (n9 z)
     ·exact .inr<|n9 z
    have ez:(fa f hs).toList=hs.map f:=by unfold fa;rfl
    have hsz:sa+k+0+(hs.map f).length<=(arrOf st2).size:=by rw[aK,hlen,hm.a,h'.size];lia
    refine a_ ?_
    skip
    rw[hf];refine q (λi=>if sa+k<=i/\i<sa+k+(na-k+t)then hs.getD (i-(sa+k)) 0 else g i) _ ⟨?_,λi hi=>?_,λi hi=>?_,by rw[show kindOf (setArr st2 _)=kindOf st2 from rfl,hm.k];exact h'.kind,hf,by rw[show pendingOf (setArr st2 _)=pendingOf st2 from rfl,hm.p];exact h'.pend⟩ ?_
    ·have:=yu (sa+k) (fa f hs).toList 0<|arrOf st2;rw[hm.a,h'.size]at this;rw[<- this,<- hm.a]
    ·skip
     rw[ez,Cs _ _ _ _ _ hsz,aK,hlen,hm.a];by_cases d:sa+k<=i/\i<sa+k+(na-k+t)
     ·rw[aL (),aL d,bh,Nat.add_zero,getD_at (l:=hs) ()];rfl
     ·rw[aJ (),aJ d];exact h'.get i hi
    ·by_cases d:sa+k<=i/\i<sa+k+(na-k+t)
     ·rw[aL d]
      rcases hmx _ _ (getD_at (l:=hs) (i:=i-(sa+k)) ())with⟨j,hj,e⟩|⟨j,hj,e⟩
      ·rw[e];exact h.lt _ ()
      ·rw[e];exact h.lt _ ()
     ·rw[aJ d];exact h.lt i hi
    ·have gin:∀i,sa+k<=i->i<sa+na+t->(if sa+k<=i/\i<sa+k+(na-k+t)then hs.getD (i-(sa+k)) 0 else g i)=hs.getD (i-(sa+k)) 0:=λi a b=>aL ();have gout:∀i,i<sa+k\/sa+na+t<=i->(if sa+k<=i/\i<sa+k+(na-k+t)then hs.getD (i-(sa+k)) 0 else g i)=g i:=λi a=>aJ ();refine⟨λi hi=>gout i (),λi a b=>?_,λi j a b c=>?_⟩
     ·by_cases d:sa+k<=i/\i<sa+na+t
      ·skip
       rw[gin i d.1 d.2]
       rcases hmx _ _ (getD_at (l:=hs) (i:=i-(sa+k)) ())with⟨j,hj,e⟩|⟨j,hj,e⟩
       ·rw[e];have:=c1 (sa+k+j) () ();lia
       ·rw[e];have:=c2 (sa+na+j) () ();lia
      ·skip
       rw[gout i ()];by_cases d2:i<sa+na
       ·have:=c1 i a d2;lia
       ·have:=c2 i () b;lia
     ·skip
      by_cases d1:i<sa+k
      ·rw[gout i<|.inl d1];have r:=k2 (i-sa) ();rw[show sa+(i-sa)=i by lia]at r;by_cases d2:j<sa+k
       ·rw[gout j<|.inl d2];exact s1 i j a b ()
       ·by_cases d3:j<sa+na+t
        ·rw[gin j () d3]
         rcases hmx _ _ (getD_at (l:=hs) (i:=j-(sa+k)) ())with⟨v,hv,e⟩|⟨v,hv,e⟩
         ·rw[e];exact s1 _ _ a () ()
         ·rw[e];by_cases d4:v=0
          ·subst d4;exact r
          ·exact r.trans<|s2 _ _ () () ()
        ·rw[gout j ()];exact r.trans<|s2 _ _ () () c
      ·by_cases d2:i<sa+na+t
       ·rw[gin i () d2];by_cases d3:j<sa+na+t
        ·rw[gin j () d3];exact qv hso (getD_at ()) (getD_at ()) ()
        ·rw[gout j ()]
         rcases hmx _ _ (getD_at (l:=hs) (i:=i-(sa+k)) ())with⟨v,hv,e⟩|⟨v,hv,e⟩
         ·rw[e];have r:=t3 (j-(sa+na)) () ();rw[show sa+na+(j-(sa+na))=j by lia]at r;by_cases d4:sa+k+v=sa+na-1
          ·rw[d4];exact r
          ·exact(s1 _ (sa+na-1) () () ()).trans r
         ·rw[e];exact s2 _ _ () () c
       ·rw[gout i (),gout j ()];exact s2 i j () b c
   by_cases cl:na-k<=t
   ·rw[aL cl];exact aV (UN C h'.kind ab tp (by rw[mR];lia) (p_ ()) (bt _<|p_ ()) fin)
   ·rw[aJ cl];exact aV<|VL C h'.kind ab tp bt (by rw[mR];lia) (by rw[mR];lia) fin
end
meta abbrev pr (x:Nat×Nat×Nat):Nat×Nat:=(x.1,x.2.1)
abbrev qi (o:Ord)(g:Nat->Nat):List (Nat×Nat)->Nat->Nat->Prop
 | [],a,b=>a=b
 | x::l,a,b=>x.1=a/\1<=x.2/\Cl g a (a+x.2)/\So o g a (a+x.2)/\qi o g l (a+x.2) b
abbrev PA (o:Ord)(g:Nat->Nat)(p:Array<|Nat×Nat×Nat)(b:Nat):Prop:=qi o g (p.toList.map pr) 0 b
section
variable {o:Ord}{g:Nat->Nat}
def qi.le:∀{l:List<|Nat×Nat}{a b:Nat},qi o g l a b->a+l.length<=b
 | [],a,b,h=>by have h:a=b:=h;rw[cg];lia
 | x::l,a,b,h=>by
  have:=h.2.2.2.2.le;have:=h.2.1;rw[bz];lia
def qi.congr{g':Nat->Nat}:∀{l:List<|Nat×Nat}{a b:Nat},qi o g l a b->(∀i,a<=i->i<b->g' i=g i)->qi o g' l a b
 | [],a,b,h,_=>h
 | x::l,a,b,h,e=>by
  have hb:=h.2.2.2.2.le;refine⟨h.1,h.2.1,λi h1 h2=>?_,λi j h1 h2 h3=>?_,h.2.2.2.2.congr λi h1 h2=>e i () h2⟩
  ·rw[e i h1 ()];exact h.2.2.1 i h1 h2
  ·rw[e i h1 (),e j () ()];exact h.2.2.2.1 i j h1 h2 h3
theorem qi.app:∀{l m:List<|Nat×Nat}{a b:Nat},qi o g (l++m) a b ↔ ∃c,qi o g l a c/\qi o g m c b
 | [],m,a,b=>⟨λh=>⟨a,rfl,h⟩,λ⟨c,h1,h2⟩=>by have h1:a=c:=h1;subst h1;exact h2⟩
 | x::l,m,a,b=>by
  constructor
  ·rintro⟨h1,h2,h3,h4,h5⟩;obtain⟨c,h6,h7⟩:=qi.app.mp h5;exact⟨c,⟨h1,h2,h3,h4,h6⟩,h7⟩
  ·rintro⟨c,⟨h1,h2,h3,h4,h5⟩,h6⟩;exact⟨h1,h2,h3,h4,qi.app.mpr ⟨c,h5,h6⟩⟩
def To{p:Array<|Nat×Nat×Nat}(h:i+1<p.size):∃l1 x y l2,p=(l1++x::y::l2).toArray/\l1.length=i:=by
 have h':i+1<p.toList.length:=h;refine⟨p.toList.take i,p.toList[i],p.toList[i+1],p.toList.drop<|i+2,?_,by rw[bq];lia⟩;apply Array.toList_inj.mp
 skip
 conv=>lhs;rw[<- dm i p.toList,bV<|show i<p.toList.length by lia,bV h']
end
section
variable {prog:aj}{w:ah}{A:aA}{E:af->aC->Prop}{s:aC}{o:Ord}{N:Nat}{f:Nat->Keyed}{kd:SortKind}{g:Nat->Nat}{p:Array (Nat×Nat×Nat)}{st:SortSt}
def CP(C:yQ prog w A s o N f kd)(h:Sg N f kd g p st){lo:Nat}(hp:PA o g p lo)(hlo:lo<=N)(hi:i+1<p.size)
  {Q:Bool->SortSt->Prop} (q:∀g' p' st',Sg N f kd g' p' st'->PA o g' p' lo->p'.size+1=p.size->(∀k,lo<=k->g' k=g k)->Q true st'):wpS (model prog w) A E s (mergeAt' i) Q st:=by
 obtain⟨l1,⟨sa,na,pw⟩,⟨sb,nb,pv⟩,l2,rfl,rfl⟩:=To hi;unfold PA at hp;rw[show(l1++(sa,na,pw)::(sb,nb,pv)::l2).toArray.toList=l1++(sa,na,pw)::(sb,nb,pv)::l2 from rfl,cj]at hp;obtain⟨c,h1,h2⟩:=qi.app.mp hp;obtain⟨e1,n1,cl1,so1,e2,n2,cl2,so2,rest⟩:=h2;have e1:sa=c:=e1;subst e1;have e2:sb=sa+na:=e2;subst e2;have l2b:=rest.le;have n1:1<=na:=n1;have n2:1<=nb:=n2;have l2b:sa+na+nb<=lo:=by
  have:sa+na+nb+(List.map pr l2).length<=lo:=l2b
  lia
 refine Vo C h n1 n2 () cl1 so1 cl2 so2 λg' st' h' R=>q g' _ st' h' ?_ (by simp;lia) λk hk=>R.out k ();unfold PA;rw[show(l1++(sa,na+nb,pw)::l2).toArray.toList=l1++(sa,na+nb,pw)::l2 from rfl,cj];refine qi.app.mpr ⟨sa,h1.congr λi a b=>R.out i (),rfl,by show 1<=na+nb;lia,?_,?_,?_⟩
 ·show Cl g' sa (sa+(na+nb));rw[<- e9];exact R.cl
 ·show So o g' sa (sa+(na+nb));rw[<- e9];exact R.so
 ·skip
  rw[<- e9];exact rest.congr λi a b=>R.out i<|.inr a
def yN{p:Array<|Nat×Nat×Nat}{lo:Nat}{u:Nat×Nat×Nat->Nat×Nat×Nat}(hu:∀x,pr (u x)=pr x)(h:PA o g p lo):PA o g (p.modify i u) lo:=by
 unfold PA at h ⊢;have:(p.modify i u).toList.map pr=p.toList.map pr:=by
  rw[Array.toList_modify];apply bU;intro k;rw[bh,bh,List.getElem?_modify]
  cases p.toList[k]? with
  | none=>rfl
  | some x=>
   show some (pr<|if i=k then u x else x)=some (pr x);by_cases c:i=k
   ·rw[aL c,hu x]
   ·rw[aJ c]
 rw[this];exact h
def vI{p:Array<|Nat×Nat×Nat}{lo n v:Nat}(h:PA o g p lo)(hn:1<=n)(c:Cl g lo<|lo+n)(d:So o g lo<|lo+n):PA o g (p.push (lo,n,v)) (lo+n):=by
 unfold PA at h ⊢;rw[fh,cj];exact qi.app.mpr ⟨lo,h,rfl,hn,c,d,rfl⟩
def Sg.TZ(h:Sg N f kd g p st)(p':Array<|Nat×Nat×Nat):Sg N f kd g p' (setPending st p'):=⟨h.size,h.get,h.lt,h.kind,h.failed,rfl⟩
def NW(C:yQ prog w A s o N f kd)(h:Sg N f kd (λi=>i) #[] st)(hN:1<=N)
  {Q:Unit->SortSt->Prop} (q:∀g' p' st',Sg N f kd g' p' st'->Cl g' 0 N->So o g' 0 N->Q Unit.unit st'):wpS (model prog w) A E s sortRuns' Q st:=by
 rw[sortRuns'_eq];refine aV<|f9 ?_;dsimp only;rw[h.size];refine aV (dP (cG
  (I:=λx c st'=>∃lo g p,c=(none,lo)/\lo<=N/\(x<=lo\/lo=N)/\Sg N f kd g p st'/\PA o g p lo/\(∀i,lo<=i->g i=i))
  (Q:=λc st'=>∃g p,c=(none,N)/\Sg N f kd g p st'/\PA o g p N) ?step ?fin ⟨0,_,_,rfl,cL _,.inl<|aQ _,h,rfl,λ_ _=>rfl⟩) ?post)
 case fin=>
  rintro c st' ⟨lo,g,p,rfl,h1,h2,h3,h4,h5⟩;have:lo=N:=()
  subst this;exact⟨g,p,rfl,h3,h4⟩
 case step=>
  intro x c st' _ hx hh;revert hh;revert c;refine Yq λlo g p hh=>?_;have h1:=hh.1;have h2:=hh.2.1;have h3:=hh.2.2.1;have h4:=hh.2.2.2.1;have h5:=hh.2.2.2.2;clear hh;dsimp only;by_cases hge:lo>=N
  ·rw[aL hge];have:lo=N:=()
   subst this;exact a_ ⟨g,p,rfl,h3,h4⟩
  ·rw[aJ hge];refine aV<|Ko C h3 () () (λi a b=>h5 i a) λm g1 st1 s1 m1 m2 R1=>?_;dsimp only;by_cases c2:m<minRun' N N 0
   ·rw[aL c2];kl_no;refine aV<|TH C s1 () m1 () R1 (λi a b=>h5 i ()) λg2 st2 s2 R2=>?_;rw[aJ ⋯];have n2:1<=min (N-lo) (minRun' N N 0):=()
    have n3:lo+min (N-lo) (minRun' N N 0)<=N:=()
    refine aV<|f9 ?_;rw[s2.pend];have hp2:=qi.congr h4 λi a b=>R2.out i (.inl b)
    cases e:p.back? with
    | none=>
     dsimp only;refine aV (eS<|a_ ⟨_,_,_,rfl,n3,(),s2.TZ _,?_,λi hi=>by rw[R2.out i<|.inr hi,h5 i ()]⟩);rw[s2.pend];exact vI hp2 n2 R2.cl R2.so
    | some y=>
     obtain⟨y1,y2,y3⟩:=y;dsimp only;refine aV (dP (cG (I:=λ_ c st'=>c=(none,Unit.unit)/\∃g' p',Sg N f kd g' p' st'/\PA o g' p' lo/\(∀k,lo<=k->g' k=g2 k)) (Q:=λc st'=>c=(none,Unit.unit)/\∃g' p',Sg N f kd g' p' st'/\PA o g' p' lo/\(∀k,lo<=k->g' k=g2 k)) ?vstep (λ_ _ h=>h) ⟨rfl,_,_,s2,hp2,λ_ _=>rfl⟩) ?vpost)
     case vstep=>
      rintro x c st' _ hx ⟨rfl,g',p',h1,h2,h3⟩;refine aV<|f9 ?_;rw[h1.pend];by_cases c:p'.size>1
      ·rw[aL c]
       cases e:p'[p'.size-2]? with
       | none=>exact a_ ⟨rfl,g',p',h1,h2,h3⟩
       | some y=>
        obtain⟨y1,y2,y3⟩:=y;dsimp only;split
        ·exact a_ ⟨rfl,g',p',h1,h2,h3⟩
        ·refine aV<|CP C h1 h2 () () λg3 p3 st3 s3 q3 _ z3=>?_;exact a_ ⟨rfl,g3,p3,s3,q3,λk hk=>by rw[z3 k hk,h3 k hk]⟩
      ·rw[aJ c];exact a_ ⟨rfl,g',p',h1,h2,h3⟩
     case vpost=>
      rintro c st' ⟨rfl,g',p',h1,h2,h3⟩;dsimp only;refine aV (eS<|aV<|eS<|a_ ⟨_,_,_,rfl,n3,(),(h1.TZ _).TZ _,?_,λi hi=>by rw[h3 i (),R2.out i<|.inr hi,h5 i ()]⟩)
      skip
      rw[h1.pend];exact vI (yN (λ_=>rfl) h2) n2 (λi a b=>by rw[h3 i a];exact R2.cl i a b) λi j a b c=>by rw[h3 i a,h3 j ()];exact R2.so i j a b c
   ·rw[aJ c2];have n3:lo+m<=N:=()
    obtain⟨g2,hg2⟩:∃g2,g2=g1:=⟨_,rfl⟩;rw[<- hg2]at R1 s1;have R2:=R1;have s2:=s1;have n2:=m1;refine aV<|f9 ?_;rw[s2.pend];have hp2:=qi.congr h4 λi a b=>R2.out i (.inl b)
    cases e:p.back? with
    | none=>
     dsimp only;refine aV (eS<|a_ ⟨_,_,_,rfl,n3,(),s2.TZ _,?_,λi hi=>by rw[R2.out i<|.inr hi,h5 i ()]⟩);rw[s2.pend];exact vI hp2 n2 R2.cl R2.so
    | some y=>
     obtain⟨y1,y2,y3⟩:=y;dsimp only;refine aV (dP (cG (I:=λ_ c st'=>c=(none,Unit.unit)/\∃g' p',Sg N f kd g' p' st'/\PA o g' p' lo/\(∀k,lo<=k->g' k=g2 k)) (Q:=λc st'=>c=(none,Unit.unit)/\∃g' p',Sg N f kd g' p' st'/\PA o g' p' lo/\(∀k,lo<=k->g' k=g2 k)) ?vstep (λ_ _ h=>h) ⟨rfl,_,_,s2,hp2,λ_ _=>rfl⟩) ?vpost)
     case vstep=>
      rintro x c st' _ hx ⟨rfl,g',p',h1,h2,h3⟩;refine aV<|f9 ?_;rw[h1.pend];by_cases c:p'.size>1
      ·rw[aL c]
       cases e:p'[p'.size-2]? with
       | none=>exact a_ ⟨rfl,g',p',h1,h2,h3⟩
       | some y=>
        obtain⟨y1,y2,y3⟩:=y;dsimp only;split
        ·exact a_ ⟨rfl,g',p',h1,h2,h3⟩
        ·refine aV<|CP C h1 h2 () () λg3 p3 st3 s3 q3 _ z3=>?_;exact a_ ⟨rfl,g3,p3,s3,q3,λk hk=>by rw[z3 k hk,h3 k hk]⟩
      ·rw[aJ c];exact a_ ⟨rfl,g',p',h1,h2,h3⟩
     case vpost=>
      rintro c st' ⟨rfl,g',p',h1,h2,h3⟩;dsimp only;refine aV (eS<|aV<|eS<|a_ ⟨_,_,_,rfl,n3,(),(h1.TZ _).TZ _,?_,λi hi=>by rw[h3 i (),R2.out i<|.inr hi,h5 i ()]⟩)
      skip
      rw[h1.pend];exact vI (yN (λ_=>rfl) h2) n2 (λi a b=>by rw[h3 i a];exact R2.cl i a b) λi j a b c=>by rw[h3 i a,h3 j ()];exact R2.so i j a b c
 case post=>
  rintro c st' ⟨g,p,rfl,h1,h2⟩;dsimp only;refine aV (dP (cG
   (I:=λx c st''=>c=(none,Unit.unit)/\∃g p,Sg N f kd g p st''/\PA o g p N/\(p.size<=1\/p.size+x<=N))
   (Q:=λc st''=>c=(none,Unit.unit)/\∃g p,Sg N f kd g p st''/\PA o g p N/\p.size<=1) ?fstep ?ffin ⟨rfl,g,p,h1,h2,.inr ?finit⟩) ?fpost)
  case finit=>
   have:=qi.le h2;rw[aK]at this;show p.toList.length+0<=N
   lia
  case ffin=>
   rintro c st'' ⟨rfl,g,p,h1,h2,h3⟩;exact⟨rfl,g,p,h1,h2,()⟩
  case fstep=>
   rintro x c st'' _ hx ⟨rfl,g,p,h1,h2,h3⟩;refine aV<|f9 ?_;rw[h1.pend];by_cases c:p.size<=1
   ·rw[aL c];exact a_ ⟨rfl,g,p,h1,h2,c⟩
   ·rw[aJ c];have il:∀(d:Prop) [Decidable d],(if d then p.size-2-1 else p.size-2)+1<p.size:=λd _=>by
     by_cases hd:d
     ·rw[aL hd];lia
     ·rw[aJ hd];lia
    refine aV<|CP C h1 h2 (aQ _) (il _) λg' p' st3 s3 q3 z3 _=>?_;exact a_ ⟨rfl,g',p',s3,q3,()⟩
  case fpost=>
   rintro c st'' ⟨rfl,g,p,h1,h2,h3⟩;dsimp only;refine a_ ?_;unfold PA at h2;have h3:p.toList.length<=1:=h3
   match hl:p.toList,h3 with
   | [],_=>
    rw[hl]at h2;have:0=N:=h2
    lia
   | [x],_=>
    rw[hl]at h2;obtain⟨e1,e2,e3,e4,e5⟩:=h2;have e5:0+x.2.1=N:=e5;have e3:Cl g 0 (0+x.2.1):=e3;have e4:So o g 0 (0+x.2.1):=e4;rw[e5]at e3 e4;exact q g p st'' h1 e3 e4
end
meta abbrev Nf (h:aq)(a:ak)(vs:ar):aq:=((h.update a<|Obj.mapSeq λ_=>#[]).push<|seqObj "tuple" vs.toArray 0).push<|seqObj "list" #[] 0
meta abbrev vv (vs:ar)(i:Nat):Keyed:=(vs.getD i .none,vs.getD i .none)
def zip_get(vs:ar){i:Nat}(h:i<vs.length):(vs.toArray.zip vs.toArray)[i]?=some (vv vs i):=by
 have e:vs[i]?=some (vs.getD i .none):=by rw[aI,aG h];rfl
 rw[Array.getElem?_zip_eq_some];exact⟨by rw[dZ];exact e,by rw[dZ];exact e⟩
section
variable {prog:aj}{w:ah}{A:aA}{E:af->aC->Prop}{s:aC}{o:Ord}{kd:SortKind}
def Hv{a:ak}{vs:ar}{n:Nat}{P:PySem.Fin->aC->Prop}(hL:s.heap.get? a=some (seqObj "list" vs.toArray n))(hsz:vs.length<=sizeLine)
  (hkk:2<=vs.length->∀Q:SortKind->aC->Prop,Q kd { s with heap:=Nf s.heap a vs }->wpAny (model prog w) A (keyKind' vs.toArray) Q E { s with heap:=Nf s.heap a vs })
  (C:2<=vs.length->yQ prog w A { s with heap:=Nf s.heap a vs } o vs.length (vv vs) kd)
  (h:∀g,Cl g 0 vs.length->So o g 0 vs.length->P (.done<|.ret .none) { s with heap:=sortedHeap s.heap a vs ((List.range vs.length).map λi=>vs.getD (g i) .none).toArray }) :
  wpAny (model prog w) A (Builtin.«list.sort» ⟨[.ref a],[]⟩) P E s:=by
 rw[list_sort_plain];have lta:a<s.heap.objs.size:=br hL;refine aH<|listItems_at hL rfl ?_;refine aH (listUpdate_at hL rfl ?_ (by rw[aW];exact hsz)<|cL _);obtain⟨ep,hL1⟩:∃ep,(s.heap.update a<|Obj.mapSeq λ_=>#[]).get? a=some (seqObj "list" #[] ep):=⟨_,get?_update_seq hL λ_=>#[]⟩;refine aH<|seqEpoch_at hL1 rfl ?_;refine aH<|wpAny_newTuple ?_;refine aH<|wpAny_newList ?_;refine dg ?_;have hL6:(Nf s.heap a vs).get? a=some (seqObj "list" #[] ep):=by
  rw[Heap.get?_push_ne _ _ _<|by rw[size_push',Heap.size_update];exact bD<|Nat.lt_succ_of_lt lta,Heap.get?_push_ne _ _ _<|by rw[Heap.size_update];exact bD lta];exact hL1
 skip
 dsimp only;have hz:vs.toArray.size=vs.length:=by simp
 have getE:∀i,i<vs.length->vs[i]?=some (vs.getD i .none):=λi hi=>by rw[aI,aG hi];rfl
 have SG:∀(arr:Array Keyed) (g:Nat->Nat),arr.size=vs.length->(∀i,i<vs.length->arr[i]?=some (vv vs<|g i))->arr.map (·.2)=((List.range vs.length).map λi=>vs.getD (g i) .none).toArray:=λarr g h1 two=>by
  apply Array.ext_getElem?;intro i;have e0:((List.range vs.length).map λi=>vs.getD (g i) Value.none).toArray[i]?=((List.range vs.length).map λi=>vs.getD (g i) Value.none)[i]?:=dZ ..;rw[Array.getElem?_map,e0,bh];by_cases c:i<vs.length
  ·rw[two i c,cQ c];rfl
  ·rw[Array.getElem?_eq_none (),bC<|by rw[cK];lia];rfl
 by_cases two:vs.toArray.size<2
 ·rw[aL two,aL two];refine aH<|aO ?_;rw[StateT.run_pure];refine aH<|aO ?_;dsimp only;refine aH<|seqEpoch_at hL6 rfl ?_;have oe:=SG (vs.toArray.zip vs.toArray) (λi=>i) (by rw[iz,hz];lia) λi hi=>zip_get vs hi;refine aH (listUpdate_at hL6 rfl ?_ (by simp) (hsz2:=by rw[size_map];show(vs.toArray.zip vs.toArray).size<=_;rw[iz,hz];lia));dsimp[g7,aZ,bN];refine aO ?_;have:=h (λi=>i) (λi a b=>⟨a,b⟩) λi j a b c=>();rw[<- oe]at this;exact this
 ·rw[aJ two,aJ two];have h2':2<=vs.length:=()
  refine aH<|hkk h2' _ ?_;refine aH (fP (NW (f:=vv vs) (N:=vs.length) (C h2') (st:=SortSt.mk' kd (vs.toArray.zip vs.toArray) #[] 7 none)
   (Q:=λ_ st'=>∃g p,Sg vs.length (vv vs) kd g p st'/\Cl g 0 vs.length/\So o g 0 vs.length)
   ⟨by show(vs.toArray.zip vs.toArray).size=_;rw[iz,hz];lia,λi hi=>zip_get vs hi,λi hi=>hi,rfl,rfl,rfl⟩ () λg' p' st' a1 a2 a3=>⟨g',p',a1,a2,a3⟩) ?_ λ_ _ e=>e)
  rintro⟨⟨⟩,st'⟩ s' ⟨rfl,g,p,hS,hc,hso⟩;dsimp only;refine aH<|seqEpoch_at hL6 rfl ?_;have oe:=SG (arrOf st') g hS.size hS.get;refine aH (listUpdate_at hL6 rfl ?_ (by simp) (hsz2:=by have hh:(arrOf st').size=vs.length:=hS.size;show((arrOf st').map (·.2)).size<=_;rw[size_map,hh];lia));rw[hS.failed];dsimp[g7,aZ,bN];have:=h g hc hso;rw[<- oe]at this;exact aO this
end
section
variable {prog:aj}{w:ah}{A:aA}{E:af->aC->Prop}{s:aC}
def OI(b:Bool){x y:Int}{Q:Bool->aC->Prop}(h:Q (decide<|x<y) s):wpAny (model prog w) A (oneLt' b (.int x t)<|.int y u) Q E s:=by
 cases b with
 | true=>exact oneLt_int h
 | false=>
  rw[oneLt'_eq];dsimp[aZ,bN];exact aH<|PySem.P.lt_int<|cY h
end
theorem Gg:∀a:ae,HT.lexLt a a=false
 | []=>HT.ye
 | x::a=>by rw[HT.p9,aL rfl];exact Gg a
end Sx
namespace L2
open PySem PySem.Spec PyProof.Rows
section
theorem yD:∀{rs:ba}{its:ar},Vals (rs.map V.ref) its->its=rs.map Value.ref
 | [],_,r=>by cases r;rfl
 | a::rs,_,r=>by
  cases r with
  | cons h t=>
   have e:_=Value.ref a:=h;rw[e,yD t];rfl
end
end L2
namespace Sx
open PySem PyProof.Rows
open PySem.AutoSeq1 (wpAny_loadPart')
open PySem.MeetsSeq PySem.MeetsSeq2 PySem.MeetsSeq3
theorem vJ:∀{xs:ar}{ns:ae}{i:Nat},IntsAre xs ns->i<ns.length->∃t,xs[i]?=some (.int (ns.getD i 0) t)
 | _,_,i,.nil,h=>absurd h (d9 _)
 | _,_,0,.cons n t h,_=>⟨t,rfl⟩
 | _,_,i+1,.cons n t h,hi=>by
  obtain⟨t',e⟩:=vJ h (i:=i) (by simpa using hi);exact⟨t',by simpa using e⟩
end Sx
namespace Am
open PySem
inductive A where
 | unb|non|bl (b:Bool)|int (i:Int)|str (x:Str)|tup (xs:List A)|frz (xs:List A)|rng (lo hi:Int)|ref (n:Nat)|exn (c:Str)|ty (n:String)|ktu (xs:List A)
@[reducible]def ad:=List A
inductive O where
 | lst (xs:ad)|dct (kvs:List<|ae×A)|pD (kvs:List<|Int×A)|qo (kvs:List<|L2.kg×A)|ins (c:Str) (fs:List<|Str×A)
meta abbrev iH:=List O
inductive R (α:Type) where
 | ok (a:α) (S:iH)|ex (c:Str) (S:iH)|no
abbrev R.bind {α β:Type}(r:R α)(f:α->iH->R β):R β:=match r with
 | .ok a S=>f a S
 | .ex c S=>.ex c S
 | .no=>.no
abbrev R.post {α:Type}(r:R α)(P:α->iH->Prop)(E:Str->iH->Prop):Prop:=match r with
 | .ok a S=>P a S
 | .ex c S=>E c S
 | .no=>False
def iL{α β:Type}{r:R α}{f:α->iH->R β}{P:β->iH->Prop}{E:Str->iH->Prop}(h:(r.bind f).post P E):r.post (λa S=>(f a S).post P E) E:=by
 cases r<;>exact h
def HZ{α:Type}{r:R α}{P P':α->iH->Prop}{E E':Str->iH->Prop}(h:r.post P E)(hp:∀a S,P a S->P' a S)(he:∀c S,E c S->E' c S):r.post P' E':=by
 cases r with
 | ok a S=>exact hp _ _ h
 | ex c S=>exact he _ _ h
 | no=>exact h.elim
abbrev gd {α:Type}(c:Prop)[Decidable c](r:R α):R α:=if c then r else .no
abbrev opt {α β:Type}(o:Option β)(f:β->R α):R α:=match o with
 | some b=>f b
 | none=>.no
def iZ{α:Type}{c:Prop}[Decidable c]{r:R α}{P:α->iH->Prop}{E:Str->iH->Prop}(h:(gd c r).post P E):c/\r.post P E:=by
 unfold gd at h;by_cases hc:c
 ·rw[aL hc]at h;exact⟨hc,h⟩
 ·rw[aJ hc]at h;exact h.elim
def iQ{α β:Type}{o:Option β}{f:β->R α}{P:α->iH->Prop}{E:Str->iH->Prop}(h:(opt o f).post P E):∃b,o=some b/\(f b).post P E:=by
 cases o with
 | none=>exact h.elim
 | some b=>exact⟨b,rfl,h⟩
def Mf{α:Type}{c:Prop}[Decidable c]{r:R α}(h:c):gd c r=r:=aL h
abbrev iG (S:iH)(n:Nat):Option (ad):=match S[n]? with
 | some (.lst xs)=>some xs
 | _=>none
def iU{n:Nat}(h:iG S n=some xs):S[n]?=some (.lst xs):=by
 unfold iG at h;split at h
 ·rename_i e;cases h;exact e
 ·cases h
def qA{S:iH}{n:Nat}(h:S[n]?=some (.lst xs)):iG S n=some xs:=by
 unfold iG;rw[h]
inductive RS where
 | nx (τ:ad) (S:iH)|rt (a:A) (S:iH)|bk (τ:ad) (S:iH)|ct (τ:ad) (S:iH)|ex (c:Str) (S:iH)|no
meta abbrev Ex:=ad->iH->R A
meta abbrev pZ:=ad->iH->R (ad)
meta abbrev Te:=ad->iH->R Bool
meta abbrev Sm:=ad->iH->RS
meta abbrev Tg:=A->ad->iH->R (ad)
end Am
namespace Am
open PySem L2
section
variable (K:au) (ρ:ba) (H:Hp)
abbrev W3 (K:au)(c:Str)(C:ak):Prop:=PySem.W.nsIn K mainGlobals c=some (some<|.ref C)
abbrev Fz (K:au)(H:Hp)(a:ak)(vs:List V):Prop:=
 (∃o,H a=some (.frz o<|.lst vs))\/∃(o:Obj) (its:Array af) (n:Nat),K.lookup a=some o/\o.cls=.type "list" /\ o.dict=none/\o.data=.seq its n/\its.size<=sizeLine/\Vals vs its.toList
abbrev Yn (K:au)(a:ak)(vs:List V):Prop:=∃(o:Obj) (its:Array af) (n:Nat),K.lookup a=some o/\o.cls=.type "tuple" /\ o.dict=none/\o.data=.seq its n/\its.size<=sizeLine/\Vals vs its.toList
mutual
inductive AV:A->V->Prop
 | non:AV .non .non
 | bl (b:Bool):AV (.bl b) (.bl b)
 | int (i:Int):AV (.int i) (.int i)
 | str (x:Str):AV (.str x) (.str x)
 | ty (n:String):AV (.ty n) (.ty n)
 | tup {a:ak} {xs:ad} {vs:List V} (h:H a=some (.tup vs)) (r:AVs xs vs):AV (.tup xs) (.ref a)
 | frz {a:ak} {xs:ad} {vs:List V} (h:Fz K H a vs) (r:AVs xs vs):AV (.frz xs) (.ref a)
 | rng {a:ak} {lo hi:Int} (h:H a=some (.rng lo hi)):AV (.rng lo hi) (.ref a)
 | ref {a:ak} {n:Nat} (h:ρ[n]?=some a):AV (.ref n) (.ref a)
 | exn {a C:ak} {c:Str} {oe:Obj} (n:W3 K c C) (h:H a=some (.frz oe xu)) (x:XO C oe):AV (.exn c) (.ref a)
 | ktu {a:ak} {xs:ad} {vs:List V} (h:Yn K a vs) (r:AVs xs vs):AV (.ktu xs)<|.ref a
inductive AVs:ad->List V->Prop
 | nil:AVs [] []
 | cons {x:A} {v:V} {xs:ad} {vs:List V} (h:AV x v) (t:AVs xs vs):AVs (x::xs) (v::vs)
end
abbrev DV:List (ae×A)->List (List Key×V)->Prop
 | [],[]=>True
 | p::r,q::r'=>(q.1=p.1.map Sum.inl/\AV K ρ H p.2 q.2)/\DV r r'
 | _,_=>False
abbrev DI:List (Int×A)->List (Key×V)->Prop
 | [],[]=>True
 | p::r,q::r'=>(q.1=Sum.inl p.1/\AV K ρ H p.2 q.2)/\DI r r'
 | _,_=>False
abbrev DP:List (L2.kg×A)->List (L2.kg×ak×af)->Prop
 | [],[]=>True
 | p::r,q::r'=>(q.1=p.1/\L2.pT H q.2.1 q.1/\∃v,RelV v q.2.2/\AV K ρ H p.2 v)/\DP r r'
 | _,_=>False
abbrev OR (a:ak):O->Prop
 | .lst xs=>∃vs,H a=some (.lst vs)/\AVs K ρ H xs vs
 | .dct kvs=>∃ks,H a=some (.dT ks)/\DV K ρ H kvs ks
 | .pD kvs=>∃ks,H a=some (.dK ks)/\DI K ρ H kvs ks
 | .qo kvs=>∃xs,H a=some (.ext<|L2.sI a xs)/\DP K ρ H kvs xs
 | .ins _ _=>∃o u,H a=some (.frz o u)
structure Rel (S:iH):Prop where
 len:ρ.length=S.length
 nd:ρ.Nodup
 «at»:∀(n:Nat) (a:ak) (o:O),ρ[n]?=some a->S[n]?=some o->OR K ρ H a o
end
abbrev Yy:HO->Prop
 | .tup _=>True
 | .rng _ _=>True
 | .frz _ _=>True
 | _=>False
structure Ext0 (ρ ρ':ba)(H H':Hp):Prop where
 pre:ρ <+: ρ'
 im:∀a u,Yy u->H a=some u->H' a=some u
structure Ext (ρ ρ':ba)(H H':Hp):Prop extends Ext0 ρ ρ' H H' where
 fr:∀a u,H a=some u->a∉ρ->H' a=some u
 nw:∀a,a∈ρ'->a∈ρ\/H a=none
def Ext.refl{H:Hp}:Ext ρ ρ H H:=⟨⟨dS _,λ_ _ _ h=>h⟩,λ_ _ h _=>h,λ_ h=>.inl h⟩
def Ext.trans{H H1 H2:Hp}(a:Ext ρ ρ1 H H1)(b:Ext ρ1 ρ2 H1 H2):Ext ρ ρ2 H H2:=⟨⟨a.pre.trans b.pre,λx u i h=>b.im x u i<|a.im x u i h⟩,λx u h n=>b.fr x u (a.fr x u h n) λz=>(a.nw x z).elim n λz=>by(rw[z]at h;cases h),λx h=>by
 by_cases hx:x∈ρ
 ·exact .inl hx
 ·right
  cases q:H x with
  | none=>rfl
  | some u=>
   rcases b.nw x h with z|z
   ·exact((a.nw x z).elim hx λz=>by(rw[z]at q;cases q)).elim
   ·rw[a.fr x u q hx]at z;cases z⟩
def Ext0.get{H H':Hp}(e:Ext0 ρ ρ' H H'){n:Nat}{a:ak}(h:ρ[n]?=some a):ρ'[n]?=some a:=by
 obtain⟨t,rfl⟩:=e.pre;rw[bg (aM.mp h).1];exact h
section
variable {K:au}{ρ ρ':ba}{H H':Hp}
def Ext0.VU(e:Ext0 ρ ρ' H H'){a:ak}(h:lO K H a vs):lO K H' a vs:=by
 rcases h with(h|⟨o,h⟩)|h
 ·exact .inl (.inl<|e.im _ _ trivial h)
 ·exact .inl (.inr ⟨o,e.im _ _ trivial h⟩)
 ·exact .inr h
def Ext0.fz(e:Ext0 ρ ρ' H H'){a:ak}(h:Fz K H a vs):Fz K H' a vs:=by
 rcases h with⟨o,h⟩|h
 ·exact .inl ⟨o,e.im _ _ trivial h⟩
 ·exact .inr h
def Fz.M5{a:ak}(h:Fz K H a vs):ny K H a vs:=by
 rcases h with⟨o,h⟩|h
 ·exact .inl (.inr ⟨o,h⟩)
 ·exact .inr h
mutual
theorem AV.j7(e:Ext0 ρ ρ' H H'):∀{x:A}{v:V},AV K ρ H x v->AV K ρ' H' x v
 | _,_,.non=>.non
 | _,_,.bl b=>.bl b
 | _,_,.int i=>.int i
 | _,_,.str x=>.str x
 | _,_,.ty x=>.ty x
 | _,_,.tup h r=>.tup (e.im _ _ trivial h) (AVs.j7 e r)
 | _,_,.frz h r=>.frz (e.fz h) (AVs.j7 e r)
 | _,_,.rng h=>.rng (e.im _ _ trivial h)
 | _,_,.ref h=>.ref (e.get h)
 | _,_,.exn n h x=>.exn n (e.im _ _ trivial h) x
 | _,_,.ktu h r=>.ktu h<|AVs.j7 e r
theorem AVs.j7(e:Ext0 ρ ρ' H H'):∀{xs:ad}{vs:List V},AVs K ρ H xs vs->AVs K ρ' H' xs vs
 | _,_,.nil=>.nil
 | _,_,.cons h t=>.cons (AV.j7 e h)<|AVs.j7 e t
end
theorem DV.j7(e:Ext0 ρ ρ' H H'):∀{xs:List<|ae×A}{vs:List<|List Key×V},DV K ρ H xs vs->DV K ρ' H' xs vs
 | [],[],_=>trivial
 | _::_,_::_,⟨⟨a,b⟩,r⟩=>⟨⟨a,AV.j7 e b⟩,DV.j7 e r⟩
def DV.ext{x:List<|ae×A}{v:List<|List Key×V}(h:DV K ρ H x v)(e:Ext ρ ρ' H H'):DV K ρ' H' x v:=DV.j7 e.toExt0 h
theorem DI.j7(e:Ext0 ρ ρ' H H'):∀{xs:List<|Int×A}{vs:List<|Key×V},DI K ρ H xs vs->DI K ρ' H' xs vs
 | [],[],_=>trivial
 | _::_,_::_,⟨⟨a,b⟩,r⟩=>⟨⟨a,AV.j7 e b⟩,DI.j7 e r⟩
def DI.ext{x:List<|Int×A}{v:List<|Key×V}(h:DI K ρ H x v)(e:Ext ρ ρ' H H'):DI K ρ' H' x v:=DI.j7 e.toExt0 h
def pT.j7{k:L2.kg}(e:Ext0 ρ ρ' H H'):L2.pT H b k->L2.pT H' b k:=λ⟨r1,r2,h1,h2,h3⟩=>⟨r1,r2,e.im _ _ trivial h1,e.im _ _ trivial h2,e.im _ _ trivial h3⟩
theorem DP.j7(e:Ext0 ρ ρ' H H'):∀{xs:List<|L2.kg×A}{vs:List<|L2.kg×ak×af},DP K ρ H xs vs->DP K ρ' H' xs vs
 | [],[],_=>trivial
 | _::_,_::_,⟨⟨a,k,v,c,b⟩,r⟩=>⟨⟨a,pT.j7 e k,v,c,AV.j7 e b⟩,DP.j7 e r⟩
def DP.ext{x:List<|L2.kg×A}{v:List<|L2.kg×ak×af}(h:DP K ρ H x v)(e:Ext ρ ρ' H H'):DP K ρ' H' x v:=DP.j7 e.toExt0 h
def AV.ext{x:A}{v:V}(h:AV K ρ H x v)(e:Ext ρ ρ' H H'):AV K ρ' H' x v:=AV.j7 e.toExt0 h
def AVs.ext{x:ad}{v:List V}(h:AVs K ρ H x v)(e:Ext ρ ρ' H H'):AVs K ρ' H' x v:=AVs.j7 e.toExt0 h
theorem AVs.length:∀{xs:ad}{vs:List V},AVs K ρ H xs vs->xs.length=vs.length
 | _,_,.nil=>rfl
 | _,_,.cons _ t=>dj (·+1)<|AVs.length t
theorem AVs.append:∀{xs ys:ad}{vs ws:List V},AVs K ρ H xs vs->AVs K ρ H ys ws->AVs K ρ H (xs++ys) (vs++ws)
 | _,_,_,_,.nil,s=>s
 | _,_,_,_,.cons h t,s=>.cons h<|AVs.append t s
theorem AVs.take:∀{xs:ad}{vs:List V}(n:Nat),AVs K ρ H xs vs->AVs K ρ H (xs.take n) (vs.take n)
 | _,_,0,_=>.nil
 | _,_,_+1,.nil=>.nil
 | _,_,n+1,.cons h t=>.cons h<|AVs.take n t
theorem AVs.drop:∀{xs:ad}{vs:List V}(n:Nat),AVs K ρ H xs vs->AVs K ρ H (xs.drop n) (vs.drop n)
 | _,_,0,r=>r
 | _,_,_+1,.nil=>.nil
 | _,_,n+1,.cons _ t=>AVs.drop n t
theorem AVs.reverse:∀{xs:ad}{vs:List V},AVs K ρ H xs vs->AVs K ρ H xs.reverse vs.reverse
 | _,_,.nil=>.nil
 | _,_,.cons h t=>by rw[cZ,cZ];exact(AVs.reverse t).append (.cons h .nil)
theorem AVs.get:∀{xs:ad}{vs:List V}{i:Nat}{x:A},AVs K ρ H xs vs->xs[i]?=some x->∃v,vs[i]?=some v/\AV K ρ H x v
 | _,_,_,_,.nil,e=>by simp at e
 | _,_,0,_,.cons h _,e=>by simp at e;subst e;exact⟨_,rfl,h⟩
 | _,_,i+1,x,.cons _ t,e=>by
  obtain⟨u,h1,h2⟩:=AVs.get (i:=i) (x:=x) t (by simpa using e);exact⟨u,by simpa using h1,h2⟩
theorem AVs.set{x:A}{v:V}(h:AV K ρ H x v):∀{xs:ad}{vs:List V}(i:Nat),AVs K ρ H xs vs->AVs K ρ H (xs.set i x) (vs.set i v)
 | _,_,_,.nil=>.nil
 | _,_,0,.cons _ t=>.cons h t
 | _,_,i+1,.cons q t=>.cons q<|AVs.set h i t
def AVs.one{x:A}{v:V}(h:AV K ρ H x v):AVs K ρ H [x] [v]:=.cons h .nil
theorem AVs.eraseIdx:∀{xs:ad}{vs:List V}(i:Nat),AVs K ρ H xs vs->AVs K ρ H (xs.eraseIdx i) (vs.eraseIdx i)
 | _,_,_,.nil=>.nil
 | _,_,0,.cons _ t=>t
 | _,_,i+1,.cons q t=>.cons q<|AVs.eraseIdx i t
theorem qM:∀(ns:ae),AVs K ρ H (ns.map .int) (ns.map .int)
 | []=>.nil
 | n::ns=>.cons (.int n)<|qM ns
def Rel.lay{S:iH}{p:ak}(R:Rel K ρ H S)(hp:H p=none)(r:AVs K ρ H xs vs):Ext ρ (ρ++[p]) H (upd H p<|.lst vs)/\Rel K (ρ++[p]) (upd H p<|.lst vs) (S++[.lst xs])/\(ρ++[p])[S.length]?=some p:=by
 have ex:Ext ρ (ρ++[p]) H (upd H p<|.lst vs):=⟨⟨eT _ _,λa u _ h=>by rw[iR<|iW h hp];exact h⟩,λa u h _=>by rw[iR<|iW h hp];exact h,λa h=>by
  rcases bF.mp h with z|z
  ·exact .inl z
  ·have e:a=p:=by simpa using z
   rw[e];exact .inr hp⟩
 have np:∀(n:Nat) (a:ak),ρ[n]?=some a->a≠p:=by
  intro n a e z;subst z;have hn:n<S.length:=by rw[<- R.len];exact(aM.mp e).1
  have:=R.at n a S[n] e (aG hn)
  cases ho:S[n]with
  | lst xs=>rw[ho]at this;obtain⟨vs,h,_⟩:=this;rw[hp]at h;cases h
  | dct _|pD _|qo _=>rw[ho]at this;obtain⟨vs,h,_⟩:=this;rw[hp]at h;cases h
  | ins _ _=>rw[ho]at this;obtain⟨_,_,h⟩:=this;rw[hp]at h;cases h
 have last:(ρ++[p])[S.length]?=some p:=by rw[<- R.len];simp
 refine⟨ex,⟨by simp[R.len],?_,?_⟩,last⟩
 ·rw[dh];refine⟨R.nd,by simp,λa ha b hb e=>?_⟩;have:b=p:=by simpa using hb
  obtain⟨n,hn,e'⟩:=gF.mp ha;exact np n a (by rw[aG hn,e'])<|e.trans this
 ·intro n a o h1 h2;by_cases hn:n<S.length
  ·rw[bg<|by rw[R.len];exact hn]at h1;rw[bg hn]at h2;have:=R.at n a o h1 h2
   cases o with
   | lst ys=>obtain⟨ws,e,q⟩:=this;exact⟨ws,by rw[iR<|np n a h1];exact e,q.ext ex⟩
   | dct _|pD _|qo _=>obtain⟨ws,e,q⟩:=this;exact⟨ws,by rw[iR<|np n a h1];exact e,q.ext ex⟩
   | ins _ _=>obtain⟨oo,uu,e⟩:=this;exact⟨oo,uu,by rw[iR<|np n a h1];exact e⟩
  ·have e:n=S.length:=by
    have:=(aM.mp h2).1;simp at this
    lia
   subst e;rw[last]at h1
   cases h1
   simp at h2;subst h2;exact⟨vs,jy,r.ext ex⟩
def Rel.im{p:ak}(R:Rel K ρ H S)(hp:H p=none):Ext ρ ρ H (upd H p u)/\Rel K ρ (upd H p u) S:=by
 have ex:Ext ρ ρ H (upd H p u):=⟨⟨dS _,λa u _ h=>by rw[iR<|iW h hp];exact h⟩,λa u h _=>by rw[iR<|iW h hp];exact h,λ_ h=>.inl h⟩;refine⟨ex,R.len,R.nd,λn a o h1 h2=>?_⟩;have:=R.at n a o h1 h2
 cases o with
 | lst ys=>obtain⟨ws,e,q⟩:=this;exact⟨ws,by rw[iR<|iW e hp];exact e,q.ext ex⟩
 | dct _|pD _|qo _=>obtain⟨ws,e,q⟩:=this;exact⟨ws,by rw[iR<|iW e hp];exact e,q.ext ex⟩
 | ins _ _=>obtain⟨oo,uu,e⟩:=this;exact⟨oo,uu,by rw[iR<|iW e hp];exact e⟩
def Rel.put{S:iH}{n:Nat}{a:ak}(R:Rel K ρ H S)(ha:ρ[n]?=some a)(hS:S[n]?=some (.lst xs))(r:AVs K ρ H ys ws):Ext ρ ρ H (upd H a<|.lst ws)/\Rel K ρ (upd H a<|.lst ws) (S.set n<|.lst ys):=by
 obtain⟨vs,e,_⟩:=R.at n a _ ha hS;have ex:Ext ρ ρ H (upd H a<|.lst ws):=⟨⟨dS _,λb u i h=>by
  have:b≠a:=by
   intro z;subst z;rw[e]at h;cases h;exact i
  rw[iR this];exact h⟩,λb u h n=>by
  rw[iR λz=>n<|by rw[z];exact aY ha];exact h,λ_ h=>.inl h⟩
 refine⟨ex,by rw[bO];exact R.len,R.nd,λm b o h1 h2=>?_⟩;by_cases hm:m=n
 ·subst hm;rw[ha]at h1;cases h1;rw[bE (aM.mp hS).1]at h2
  cases h2
  exact⟨ws,jy,r.ext ex⟩
 ·rw[bL<|dc hm]at h2;have nb:b≠a:=λz=>by
   subst z;obtain⟨l1,e1⟩:=aM.mp ha;obtain⟨l2,e2⟩:=aM.mp h1;exact hm<|(c8 R.nd).mp<|e2.trans e1.symm
  have:=R.at m b o h1 h2
  cases o with
  | lst ys=>obtain⟨ws',e',q⟩:=this;exact⟨ws',by rw[iR nb];exact e',q.ext ex⟩
  | dct _|pD _|qo _=>obtain⟨ws',e',q⟩:=this;exact⟨ws',by rw[iR nb];exact e',q.ext ex⟩
  | ins _ _=>obtain⟨oo,uu,e'⟩:=this;exact⟨oo,uu,by rw[iR nb];exact e'⟩
def Rel.lst{n:Nat}{a:ak}(R:Rel K ρ H S)(ha:ρ[n]?=some a)(hS:S[n]?=some (.lst xs)):∃vs,H a=some (.lst vs)/\AVs K ρ H xs vs:=R.at n a _ ha hS
structure SR (K:au)(ρ:ba)(H:Hp)(τ:ad)(σ:St):Prop where
 len:τ.length=σ.length
 «at»:∀(i:Nat) (a:A),τ[i]?=some a->a=.unb\/∃v,σ[i]?=some (some v)/\AV K ρ H a v
def SR.j7(s:SR K ρ H τ σ)(e:Ext0 ρ ρ' H H'):SR K ρ' H' τ σ:=⟨s.len,λi a h=>by
 rcases s.at i a h with z|⟨v,h1,h2⟩
 ·exact .inl z
 ·exact .inr ⟨v,h1,AV.j7 e h2⟩⟩
def SR.ext(s:SR K ρ H τ σ)(e:Ext ρ ρ' H H'):SR K ρ' H' τ σ:=s.j7 e.toExt0
def Rel.out{D:ak}(R:Rel K ρ H S)(hD:H D=some (.lst vs))(hn:D∉ρ):Ext0 ρ ρ H (upd H D<|.lst ws)/\Rel K ρ (upd H D<|.lst ws) S:=by
 have ex:Ext0 ρ ρ H (upd H D<|.lst ws):=⟨dS _,λb u i h=>by
  have:b≠D:=by
   intro z;subst z;rw[hD]at h;cases h;exact i
  rw[iR this];exact h⟩
 refine⟨ex,R.len,R.nd,λn a o h1 h2=>?_⟩;have na:a≠D:=λz=>hn (by rw[<- z];exact aY h1);have:=R.at n a o h1 h2
 cases o with
 | lst ys=>obtain⟨ws',e,q⟩:=this;exact⟨ws',by rw[iR na];exact e,AVs.j7 ex q⟩
 | dct _|pD _|qo _=>obtain⟨ws',e,q⟩:=this;exact⟨ws',by rw[iR na];exact e,q.j7 ex⟩
 | ins _ _=>obtain⟨oo,uu,e⟩:=this;exact⟨oo,uu,by rw[iR na];exact e⟩
def Rel.take{S:iH}{D:ak}(R:Rel K ρ H S)(hD:H D=some (.lst vs))(hn:D∉ρ)(r:AVs K ρ H xs vs):Rel K (ρ++[D]) H (S++[.lst xs])/\(ρ++[D])[S.length]?=some D:=by
 have ex:Ext0 ρ (ρ++[D]) H H:=⟨eT _ _,λ_ _ _ h=>h⟩;have last:(ρ++[D])[S.length]?=some D:=by rw[<- R.len];simp
 refine⟨⟨by simp[R.len],?_,λn a o h1 h2=>?_⟩,last⟩
 ·rw[dh];refine⟨R.nd,by simp,λa ha b hb e=>?_⟩;have:b=D:=by simpa using hb
  exact hn<|by rw[<- this,<- e];exact ha
 ·by_cases hs:n<S.length
  ·rw[bg<|by rw[R.len];exact hs]at h1;rw[bg hs]at h2;have:=R.at n a o h1 h2
   cases o with
   | lst ys=>obtain⟨ws,e,q⟩:=this;exact⟨ws,e,AVs.j7 ex q⟩
   | dct _|pD _|qo _=>obtain⟨ws,e,q⟩:=this;exact⟨ws,e,q.j7 ex⟩
   | ins _ _=>obtain⟨oo,uu,e⟩:=this;exact⟨oo,uu,e⟩
  ·have e:n=S.length:=by
    have:=(aM.mp h2).1;simp at this
    lia
   subst e;rw[last]at h1
   cases h1
   simp at h2;subst h2;exact⟨vs,hD,AVs.j7 ex r⟩
def SR.set{τ:ad}{σ:St}{a:A}{v:V}(s:SR K ρ H τ σ)(h:AV K ρ H a v):SR K ρ H (τ.set i a) (σ.set i<|some v):=by
 refine⟨by simp[s.len],λj b e=>?_⟩;by_cases hj:j=i
 ·subst hj;have hl:j<τ.length:=by
   have:=(aM.mp e).1;simpa using this
  rw[bE hl]at e
  cases e
  exact .inr ⟨v,bE<|by rw[<- s.len];exact hl,h⟩
 ·rw[bL<|dc hj]at e;rw[bL<|dc hj];exact s.at j b e
end
end Am
namespace Am
open PySem PySem.Spec PyProof.Rows L2
abbrev XE (X:Cx)(ρ:ba)(H:Hp):Str->iH->Prop:=λc S'=>∀(C:ak) (ρ':ba) (H':Hp),W3 X.K c C->Ext ρ ρ' H H'->Rel X.K ρ' H' S'->EX X (.ref C) none H'
def XE.ext{X:Cx}{H H':Hp}{c:Str}(h:XE X ρ H c S)(e:Ext ρ ρ' H H'):XE X ρ' H' c S:=λC ρ2 H2 n e2=>h C ρ2 H2 n<|e.trans e2
abbrev vn (X:Cx)(ρ:ba)(H:Hp)(Q:VK):A->iH->Prop:=λa S'=>∀ρ' H' v,Ext ρ ρ' H H'->Rel X.K ρ' H' S'->AV X.K ρ' H' a v->Q v H'
abbrev VS (X:Cx)(ρ:ba)(H:Hp)(Q:Bool->Hp->Prop):Bool->iH->Prop:=λb S'=>∀ρ' H',Ext ρ ρ' H H'->Rel X.K ρ' H' S'->Q b H'
abbrev Yg (X:Cx)(ρ:ba)(H:Hp)(Q:List V->Hp->Prop):ad->iH->Prop:=λas S'=>∀ρ' H' vs,Ext ρ ρ' H H'->Rel X.K ρ' H' S'->AVs X.K ρ' H' as vs->Q vs H'
def vn.ext{X:Cx}{H H':Hp}{Q:VK}{a:A}(h:vn X ρ H Q a S)(e:Ext ρ ρ' H H'):vn X ρ' H' Q a S:=λρ2 H2 v e2=>h ρ2 H2 v<|e.trans e2
def VS.ext{X:Cx}{H H':Hp}{Q:Bool->Hp->Prop}{a:Bool}(h:VS X ρ H Q a S)(e:Ext ρ ρ' H H'):VS X ρ' H' Q a S:=λρ2 H2 e2=>h ρ2 H2<|e.trans e2
def iF{α:Type}{X:Cx}{H H':Hp}{r:R α}{P P':α->iH->Prop}(h:r.post P<|XE X ρ H)(e:Ext ρ ρ' H H')(hp:∀a S,P a S->P' a S):r.post P' (XE X ρ' H'):=HZ h hp λ_ _ z=>z.ext e
abbrev tE (X:Cx)(c:Ex):TE:=λσ H Q=>∃ρ S τ,Rel X.K ρ H S/\SR X.K ρ H τ σ/\(c τ S).post (vn X ρ H Q) (XE X ρ H)
abbrev tT (X:Cx)(c:Te):TT:=λσ H Q=>∃ρ S τ,Rel X.K ρ H S/\SR X.K ρ H τ σ/\(c τ S).post (VS X ρ H Q) (XE X ρ H)
abbrev tL (X:Cx)(c:pZ):TA:=λσ H Q=>∃ρ S τ,Rel X.K ρ H S/\SR X.K ρ H τ σ/\(c τ S).post (Yg X ρ H Q) (XE X ρ H)
abbrev AE (X:Cx)(e:aE)(c:Ex):Prop:=PE X e<|tE X c
abbrev AT (X:Cx)(e:aE)(c:Te):Prop:=PT X e<|tT X c
abbrev AW (X:Cx)(e:aE)(c:Te):Prop:=PW X e<|tT X c
abbrev AL (X:Cx)(es:List aE)(c:pZ):Prop:=PA X es<|tL X c
def PE.imp{X:Cx}{e:aE}{t t':TE}(h:PE X e t)(i:∀σ H Q,t' σ H Q->t σ H Q):PE X e t':=λpins s σ H Q I q=>h pins s σ H Q I<|i σ H Q q
def PT.imp{X:Cx}{e:aE}{t t':TT}(h:PT X e t)(i:∀σ H Q,t' σ H Q->t σ H Q):PT X e t':=λpins s σ H Q I q=>h pins s σ H Q I<|i σ H Q q
def PW.imp{X:Cx}{e:aE}{t t':TT}(h:PW X e t)(i:∀σ H Q,t' σ H Q->t σ H Q):PW X e t':=λw pins s σ H Q I q=>h w pins s σ H Q I<|i σ H Q q
def PA.imp{X:Cx}{e:List aE}{t t':TA}(h:PA X e t)(i:∀σ H Q,t' σ H Q->t σ H Q):PA X e t':=λp pins s σ H Q I q=>h p pins s σ H Q I<|i σ H Q q
def AW.at{X:Cx}{e:aE}{c:Te}(h:AW X e c):AT X e c:=h _
abbrev A.mZ:A->Bool
 | .unb=>true
 | _=>false
abbrev iC (i:Nat):Ex:=λτ S=>if (τ.getD i .unb).mZ then .no else .ok (τ.getD i .unb) S
abbrev eC (a:A):Ex:=λ_ S=>.ok a S
section
variable {X:Cx}{pos:Pos}{a b:aE}
def iB(i:Nat){x:Str}(hN:X.N[i]?=some x:=by rfl)(hv:TY X.env.scope x:=by first|exact Or.inl rfl|exact Or.inr (Or.inl rfl)|exact Or.inr<|Or.inr rfl)(hd:(x == ("__debug__" : Str))=false:=by decide)
  (hcd:(x == ("__classdict__" : Str))=false:=by decide):AE X (.Name x pos) (iC i):=PE.imp (K3 hN hv hd hcd) λσ H Q h9=>by
 z_go;unfold iC at h
 cases hi:τ[i]? with
 | none=>
  rw[aI,hi]at h;exact h.elim
 | some x=>
  rw[aI,hi]at h
  rcases r.at i x hi with z|⟨v,e,q⟩
  ·subst z;exact h.elim
  ·refine⟨v,e,?_⟩
   cases x<;>first|(exact h ρ H v .refl R q)|exact h.elim
def iJ{i:Int}{j pos}:AE X (.Constant (.int i) j pos) (eC<|.int i):=PE.imp CO λσ H Q ⟨ρ,S,τ,R,r,h⟩=>h ρ H _ .refl R<|.int i
def w_{j pos}:AE X (.Constant (.bool i) j pos) (eC<|.bl i):=PE.imp U8 λσ H Q ⟨ρ,S,τ,R,r,h⟩=>h ρ H _ .refl R<|.bl i
def IA{j pos}:AE X (.Constant .none j pos) (eC .non):=PE.imp TN λσ H Q ⟨ρ,S,τ,R,r,h⟩=>h ρ H _ .refl R .non
def wc{x:Str}{i:Int}(hm:X.mg x=some (.int i t))(hg:Gl X x:=by rfl)(hd:(x == ("__debug__" : Str))=false:=by decide):AE X (.Name x pos) (eC<|.int i):=
 PE.imp (ON (v:=.int i) hg hm ⟨t,rfl⟩ hd) λσ H Q ⟨ρ,S,τ,R,r,h⟩=>h ρ H _ .refl R<|.int i
abbrev iI (f:A->A->iH->R A)(ca cb:Ex):Ex:=λτ S=>(ca τ S).bind λa S1=>(cb τ S1).bind λb S2=>f a b S2
abbrev r2 (X:Cx)(f:A->A->iH->R A):R2:=λx y H Q=>∃ρ S a b,Rel X.K ρ H S/\AV X.K ρ H a x/\AV X.K ρ H b y/\(f a b S).post (vn X ρ H Q) (XE X ρ H)
abbrev r1 (X:Cx)(f:A->iH->R A):V->Hp->VK->Prop:=λx H Q=>∃ρ S a,Rel X.K ρ H S/\AV X.K ρ H a x/\(f a S).post (vn X ρ H Q) (XE X ρ H)
abbrev rN (X:Cx)(f:ad->iH->R A):List V->Hp->VK->Prop:=λxs H Q=>∃ρ S as,Rel X.K ρ H S/\AVs X.K ρ H as xs/\(f as S).post (vn X ρ H Q) (XE X ρ H)
def lQ.imp{f:af->af->Sem af}{r r':R2}(h:lQ X f r)(i:∀x y H Q,r' x y H Q->r x y H Q):lQ X f r':=λpins s σ H x y v u Q I rx ry q=>h pins s σ H x y v u Q I rx ry<|i _ _ _ _ q
def jk.imp{f:af}{r r':List V->Hp->VK->Prop}(h:jk X f r)(i:∀x H Q,r' x H Q->r x H Q):jk X f r':=λpins s σ H x v Q I rx q=>h pins s σ H x v Q I rx<|i _ _ _ q
def rE{f:A->A->iH->R A}{ca cb:Ex}{H:Hp}{Q:VK}(h:tE X (iI f ca cb) σ H Q):Uk (r2 X f) (tE X ca) (tE X cb) σ H Q:=by
 kst_p;refine⟨ρ,S,τ,R,r,iF (iL h) .refl λa S1 h1 ρ1 H1 x e1 R1 v1=>⟨ρ1,S1,τ,R1,r.ext e1,iF (iL h1) e1 λb S2 h2 ρ2 H2 y e2 R2 v2=>?_⟩⟩;exact⟨ρ2,S2,a,b,R2,v1.ext e2,v2,iF h2 (e1.trans e2) λc S3 h3=>h3.ext<|e1.trans e2⟩
def iT{f:A->A->iH->R A}{ca cb:Ex}(ho:lQ X (binaryOp op)<|r2 X f)(ha:AE X a ca)(hb:AE X b cb):AE X (.BinOp a op b pos) (iI f ca cb):=
 PE.imp (UQ ho ha hb) λσ H Q h=>rE h
def Dh{op:CmpOp}{f:A->A->iH->R A}{ca cb:Ex}(ho:lQ X (compareOp op)<|r2 X f)(ha:AE X a ca)(hb:AE X b cb)(hm:behindInMarks op b=false:=by first|exact Mu _|with_unfolding_all rfl):AE X (.Compare a [op] [b] pos) (iI f ca cb):=
 PE.imp (Oe ho ha hb hm) λσ H Q h=>rE h
abbrev A.UE:A->iH->bi
 | .non,_=>some false
 | .bl b,_=>some b
 | .int i,_=>some (i != 0)
 | .str x,_=>if x.length<=sizeLine then some ((x.length:Int) != 0)else none
 | .tup xs,_=>some (!xs.isEmpty)
 | .frz xs,_=>some (!xs.isEmpty)
 | .ref n,S=>(iG S n).map λxs=>!xs.isEmpty
 | _,_=>none
abbrev K4 (c:Ex):Te:=λτ S=>(c τ S).bind λa S1=>opt (a.UE S1) λb=>.ok b S1
abbrev mS (c:Ex):Te:=λτ S=>(c τ S).bind λa S1=>match a with
 | .bl b=>.ok b S1
 | _=>.no
def yK{K:au}{H:Hp}{b:Bool}{v:V}(h:AV K ρ H (.bl b) v):v=.bl b:=by cases h;rfl
def jh{op:CmpOp}{f:A->A->iH->R A}{ca cb:Ex}(ho:lQ X (compareOp op)<|r2 X f)(ha:AE X a ca)(hb:AE X b cb)(hm:behindInMarks op b=false:=by first|exact Mu _|with_unfolding_all rfl):AT X (.Compare a [op] [b] pos) (mS<|iI f ca cb):=
 PT.imp (N9 ho ha hb hm) λσ H Q h9=>by
  z_go;refine rE ⟨ρ,S,τ,R,r,iF (iL h) .refl λc S1 h1 ρ1 H1 x e1 R1 v1=>?_⟩
  cases c with
  | bl k=>cases yK v1;exact⟨k,rfl,h1 ρ1 H1 e1 R1⟩
  | _=>exact h1.elim
def QO{K:au}{H:Hp}{x:A}{v:V}{b:Bool}(R:Rel K ρ H S)(h:AV K ρ H x v)(e:x.UE S=some b):QX K v H b:=by
 have emp:∀{xs:ad} {vs:List V},AVs K ρ H xs vs->(!xs.isEmpty)=!vs.isEmpty:=λr=>by cases r<;>rfl
 cases h with
 | non=>exact(aU e).symm
 | bl b=>exact(aU e).symm
 | int i=>exact(aU e).symm
 | str x=>
  by_cases hx:x.length<=sizeLine
  ·exact⟨hx,by have:=(aL hx).symm.trans e;exact(aU this).symm⟩
  ·have:=(aJ hx).symm.trans e;cases this
 | tup h r=>exact .inr (.inl ⟨_,lO.of h,by rw[<- emp r];exact(aU e).symm⟩)
 | frz h r=>exact .inl ⟨_,h.M5,by rw[<- emp r];exact(aU e).symm⟩
 | rng h=>cases e
 | ty n=>cases e
 | exn n h x=>cases e
 | ktu h r=>cases e
 | @ref a n h=>
  have e:(iG S n).map (λxs=>!xs.isEmpty)=some b:=e;obtain⟨xs,hn,e⟩:=bu.mp e;obtain⟨vs,h1,h2⟩:=R.lst h<|iU hn;exact .inl ⟨vs,ny.of h1,by rw[<- emp h2];exact e.symm⟩
def C7{ca:Ex}(ha:AE X a ca)(he:∀whole,isTrue a X.env whole=(do let v <- whole;standAt a.pos;holding [v] (truthy v)):=by intro _;rfl):AT X a (K4 ca):=
 PT.imp (JW ha he) λσ H Q ⟨ρ,S,τ,R,r,h⟩=>⟨ρ,S,τ,R,r,iF (iL h) .refl λc S1 h1 ρ1 H1 x e1 R1 v1=>by
  obtain⟨b,hb,h1⟩:=iQ h1;exact⟨b,QO R1 v1 hb,h1 ρ1 H1 e1 R1⟩⟩
abbrev Lf (c:Te):Te:=λτ S=>(c τ S).bind λb S1=>.ok (!b) S1
abbrev xE (c d:Te):Te:=λτ S=>(c τ S).bind λb S1=>match b with|true=>d τ S1|false=>.ok false S1
abbrev M0 (c d:Te):Te:=λτ S=>(c τ S).bind λb S1=>match b with|true=>.ok true S1|false=>d τ S1
def C5{c:Te}(h:AT X a c):AT X (.UnaryOp .Not a pos) (Lf c):=PT.imp (Q5 h) λσ H Q ⟨ρ,S,τ,R,r,h⟩=>⟨ρ,S,τ,R,r,iF (iL h) .refl λb S1 h1=>h1⟩
def and_imp{c d:Te}{H:Hp}{Q:Bool->Hp->Prop}(h:tT X (xE c d) σ H Q):Vf (tT X c) (tT X d) σ H Q:=by
 kst_p;refine⟨ρ,S,τ,R,r,iF (iL h) .refl λb S1 h1 ρ1 H1 e1 R1=>?_⟩
 cases b with
 | true=>
  rw[aL rfl];exact⟨ρ1,S1,τ,R1,r.ext e1,iF h1 e1 λ_ _ z=>z.ext e1⟩
 | false=>
  rw[aJ bH];exact h1 ρ1 H1 e1 R1
def or_imp{c d:Te}{H:Hp}{Q:Bool->Hp->Prop}(h:tT X (M0 c d) σ H Q):XZ (tT X c) (tT X d) σ H Q:=by
 kst_p;refine⟨ρ,S,τ,R,r,iF (iL h) .refl λb S1 h1 ρ1 H1 e1 R1=>?_⟩
 cases b with
 | false=>
  rw[aJ bH];exact⟨ρ1,S1,τ,R1,r.ext e1,iF h1 e1 λ_ _ z=>z.ext e1⟩
 | true=>
  rw[aL rfl];exact h1 ρ1 H1 e1 R1
variable {rest:List aE}
def vW{c:Te}(h:AT X a c):AW X (.BoolOp .And [a] pos) c:=Ot h
def zz{c:Te}(h:AT X a c):AW X (.BoolOp .Or [a] pos) c:=Tc h
def zX{c d:Te}(h:AT X a c)(h2:AW X (.BoolOp .And (b::rest) pos) d):AW X (.BoolOp .And (a::b::rest) pos) (xE c d):=PW.imp (Sl h h2) λ_ _ _ q=>and_imp q
def A1{c d:Te}(h:AT X a c)(h2:AW X (.BoolOp .Or (b::rest) pos) d):AW X (.BoolOp .Or (a::b::rest) pos) (M0 c d):=PW.imp (Vv h h2) λ_ _ _ q=>or_imp q
abbrev Lm (c d:Ex):Ex:=λτ S=>(c τ S).bind λa S1=>match a with | .bl true=>d τ S1 | .bl false=>.ok (.bl false) S1|_=>.no
abbrev XF (c d:Ex):Ex:=λτ S=>(c τ S).bind λa S1=>match a with | .bl true=>.ok (.bl true) S1 | .bl false=>d τ S1|_=>.no
abbrev Ro (c:Ex):Ex:=λτ S=>(c τ S).bind λa S1=>match a with | .bl b=>.ok (.bl !b) S1|_=>.no
def Lk{op}{c:Ex}(h:AE X a c):AE X (.BoolOp op [a] pos) c:=RE h
def MY{c d:Ex}(h:AE X a c)(h2:AE X (.BoolOp .And (b::rest) pos) d):AE X (.BoolOp .And (a::b::rest) pos) (Lm c d):=PE.imp (Rw h h2) λσ H Q h9=>by
 z_go;refine⟨ρ,S,τ,R,r,iF (iL h) .refl λb S1 h1 ρ1 H1 x e1 R1 v1=>?_⟩
 cases b with
 | bl k=>
  cases yK v1
  refine⟨k,rfl,?_⟩
  cases k with
  | true=>
   rw[aL rfl];exact⟨ρ1,S1,τ,R1,r.ext e1,iF h1 e1 λ_ _ z=>z.ext e1⟩
  | false=>
   rw[aJ bH];exact h1 ρ1 H1 _ e1 R1<|.bl false
 | _=>exact h1.elim
def Q0{c:Ex}(h:AE X a c):AE X (.UnaryOp .Not a pos) (Ro c):=PE.imp (TR h) λσ H Q h9=>by
 z_go;refine⟨ρ,S,τ,R,r,iF (iL h) .refl λb S1 h1 ρ1 H1 x e1 R1 v1=>?_⟩
 cases b with
 | bl k=>
  cases yK v1
  exact⟨k,rfl,h1 ρ1 H1 _ e1 R1<|.bl _⟩
 | _=>exact h1.elim
abbrev Ym (t:Te)(c d:Ex):Ex:=λτ S=>(t τ S).bind λb S1=>match b with|true=>c τ S1|false=>d τ S1
abbrev iO:pZ:=λ_ S=>.ok [] S
abbrev iD (c:Ex)(d:pZ):pZ:=λτ S=>(c τ S).bind λa S1=>(d τ S1).bind λas S2=>.ok (a::as) S2
def iN:AL X [] iO:=PA.imp uy λσ H Q ⟨ρ,S,τ,R,r,h⟩=>h ρ H _ .refl R .nil
def iE{e:aE}{c:Ex}{d:pZ}(ha:AE X e c)(hr:AL X es d)(hs:starEach (e::es) X.env=(false,eval e X.env)::starEach es X.env:=by rfl):AL X (e::es) (iD c d):=
 PA.imp (nj ha hr hs) λσ H Q h9=>by
  z_go;refine⟨ρ,S,τ,R,r,iF (iL h) .refl λa S1 h1 ρ1 H1 x e1 R1 v1=>⟨ρ1,S1,τ,R1,r.ext e1,iF (iL h1) e1 λas S2 h2 ρ2 H2 xs e2 R2 v2=>?_⟩⟩;exact h2 ρ2 H2 _ (e1.trans e2) R2<|.cons (v1.ext e2) v2
abbrev mq (d:pZ):Ex:=λτ S=>(d τ S).bind λas S1=>gd (as.length<=sizeLine)<|.ok (.tup as) S1
abbrev newL (as:ad)(S:iH):R A:=gd (as.length<=sizeLine)<|.ok (.ref S.length)<|S++[.lst as]
abbrev sH (d:pZ):Ex:=λτ S=>(d τ S).bind λas S1=>newL as S1
def nX{H H0:Hp}{Q:VK}(R:Rel X.K ρ H S)(r:AVs X.K ρ H as vs)(e:Ext ρ0 ρ H0 H)(h:vn X ρ0 H0 Q (.tup as) S):∀p,H p=none->Q (.ref p) (upd H p<|.tup vs):=λp hp=>by
 obtain⟨ex,R'⟩:=R.im (u:=.tup vs) hp;exact h ρ _ _ (e.trans ex) R'<|.tup jy<|r.ext ex
def lY{H H0:Hp}{S:iH}{Q:VK}(R:Rel X.K ρ H S)(r:AVs X.K ρ H as vs)(e:Ext ρ0 ρ H0 H)(h:vn X ρ0 H0 Q (.ref S.length)<|S++[.lst as]):∀p,H p=none->Q (.ref p) (upd H p<|.lst vs):=λp hp=>by
 obtain⟨ex,R',g⟩:=R.lay hp r;exact h _ _ _ (e.trans ex) R'<|.ref g
def OG{H H0:Hp}{vs:List V}{Q:VK}(R:Rel X.K ρ H S)(r:AVs X.K ρ H as vs)(e:Ext ρ0 ρ H0 H)(h:(newL as S).post (vn X ρ0 H0 Q)<|XE X ρ0 H0):vs.length<=sizeLine/\∀p,H p=none->Q (.ref p) (upd H p<|.lst vs):=by
 obtain⟨hl,h⟩:=iZ h;exact⟨by rw[<- r.length];exact hl,lY R r e h⟩
def lq{d:pZ}{x1}(h:AL X es d):AE X (.Tuple es x1 pos) (mq d):=PE.imp (Rq h) λσ H Q h9=>by
 z_go;refine⟨ρ,S,τ,R,r,iF (iL h) .refl λas S1 h1 ρ1 H1 xs e1 R1 v1=>?_⟩;obtain⟨hl,h1⟩:=iZ h1;exact⟨by rw[<- v1.length];exact hl,nX R1 v1 e1 h1⟩
def nM{d:pZ}(h:AL X es d):AE X (.List es pos) (sH d):=PE.imp (QL h) λσ H Q ⟨ρ,S,τ,R,r,h⟩=>
 ⟨ρ,S,τ,R,r,iF (iL h) .refl λas S1 h1 ρ1 H1 xs e1 R1 v1=>OG R1 v1 e1 h1⟩
end
section
variable {X:Cx}{pos:Pos}{a b:aE}
abbrev aSub (a b:A)(S:iH):R A:=match a,b with
 | .int i,.int j=>.ok (.int<|i-j) S
 | _,_=>.no
def ow:lQ X (binaryOp .Sub) (r2 X aSub):=lQ.imp Tt λx y H Q h9=>by
 x_go
 cases va<;>first|exact h.elim|(cases vb<;>first|exact h.elim|exact⟨_,_,rfl,rfl,h _ _ _ .refl R<|.int _⟩)
abbrev Ei (i j:Int):Bool:=(decide (-(2 ^ 64)<i) && decide (i<2 ^ 64)) || (decide (-(2 ^ 64)<j) && decide (j<2 ^ 64))
def mulOk_of{i j:Int}(h:Ei i j=true):Pb i j:=by
 unfold Ei at h;dsimp[Bool.or_eq_true,dz,fj]at h;exact h
abbrev uU (a b:A)(S:iH):R A:=match a,b with
 | .int i,.int j=>gd (Ei i j) (.ok (.int<|i * j) S)
 | .ref n,.int k=>opt (iG S n) λxs=>gd (-(2 ^ 63)<=k/\k<2 ^ 63/\xs.length * k.toNat<=sizeLine) (.ok (.ref S.length)<|S++[.lst (List.replicate k.toNat xs).flatten])
 | _,_=>.no
theorem AVs.rep{K:au}{H:Hp}(r:AVs K ρ H xs vs):∀k:Nat,AVs K ρ H (List.replicate k xs).flatten (List.replicate k vs).flatten
 | 0=>.nil
 | k+1=>by rw[cX,cX,dJ,dJ];exact r.append<|AVs.rep r k
def wO:lQ X (binaryOp .Mult) (r2 X uU):=λpins s σ H x y v u Q I rx ry h9=>by
 x_go
 cases va with
 | int i=>
  cases vb with
  | int j=>
   obtain⟨hm,h⟩:=iZ h;exact Tp pins s σ H _ _ v u Q I rx ry ⟨i,j,rfl,rfl,mulOk_of hm,h _ _ _ .refl R<|.int _⟩
  | _=>exact h.elim
 | @ref p n hp=>
  cases vb with
  | int k=>
   kj_on;obtain⟨hc,h⟩:=iZ h;obtain⟨vs,h1,h2⟩:=R.lst hp<|iU hn;exact QY pins s σ H _ _ v u Q I rx ry ⟨p,k,vs,rfl,rfl,h1,hc.1,hc.2.1,by rw[<- h2.length];exact hc.2.2,lY R (h2.rep _) .refl h⟩
  | _=>exact h.elim
 | _=>exact h.elim
abbrev Ez (a b:A)(S:iH):R A:=match a,b with
 | .int i,.int j=>gd (0<j/\j<18446744073709551616) (.ok (.int<|i / j) S)
 | _,_=>.no
def IE:lQ X (binaryOp .FloorDiv) (r2 X Ez):=lQ.imp J3 λx y H Q h9=>by
 x_go
 cases va<;>first|exact h.elim|(cases vb<;>first|exact h.elim|exact⟨_,_,rfl,rfl,(iZ h).1,(iZ h).2 _ _ _ .refl R<|.int _⟩)
abbrev xW (a b:A)(S:iH):R A:=match a,b with
 | .int i,.int j=>gd (0<j) (.ok (.int<|i % j) S)
 | _,_=>.no
def yP:lQ X (binaryOp .Mod) (r2 X xW):=lQ.imp Q3 λx y H Q h9=>by
 x_go
 cases va<;>first|exact h.elim|(cases vb<;>first|exact h.elim|exact⟨_,_,rfl,rfl,(iZ h).1,(iZ h).2 _ _ _ .refl R<|.int _⟩)
abbrev O4 (a b:A)(S:iH):R A:=match a,b with
 | .int i,.int j=>gd (0<=j/\j<=1000000/\i.natAbs<2 ^ 64) (.ok (.int<|i ^ j.toNat) S)
 | _,_=>.no
def Up:lQ X (binaryOp .Pow) (r2 X O4):=lQ.imp Td λx y H Q h9=>by
 x_go
 cases va<;>first|exact h.elim|(cases vb<;>first|exact h.elim|exact⟨_,_,rfl,rfl,(iZ h).1,(iZ h).2 _ _ _ .refl R<|.int _⟩)
abbrev jo (a b:A)(S:iH):R A:=match a,b with
 | .int i,.int j=>.ok (.int<|i+j) S
 | .tup xs,.tup ys=>gd (xs.length+ys.length<=sizeLine) (.ok (.tup<|xs++ys) S)
 | .str x,.str y=>gd (x.length+y.length<=sizeLine) (.ok (.str<|x++y) S)
 | .ref n,.ref m=>opt (iG S n) λxs=>opt (iG S m) λys=>gd (xs.length+ys.length<=sizeLine) (.ok (.ref S.length)<|S++[.lst<|xs++ys])
 | _,_=>.no
def AVs.nil_inv{K:au}{H:Hp}(r:AVs K ρ H xs vs):xs=[] ↔ vs=[]:=by cases r<;>simp
def jI:lQ X (binaryOp .Add) (r2 X jo):=λpins s σ H x y v u Q I rx ry h9=>by
 x_go
 cases va with
 | int i=>
  cases vb with
  | int j=>exact Rm pins s σ H _ _ v u Q I rx ry ⟨i,j,rfl,rfl,h _ _ _ .refl R<|.int _⟩
  | _=>exact h.elim
 | str x=>
  cases vb with
  | str y=>
   obtain⟨hc,h⟩:=iZ h;exact CS pins s σ H _ _ v u Q I rx ry ⟨x,y,rfl,rfl,hc,h _ _ _ .refl R<|.str _⟩
  | _=>exact h.elim
 | @tup p xs vs h1 r1=>
  cases vb with
  | @tup q ys ws h2 r2=>
   obtain⟨hc,h⟩:=iZ h;by_cases hv:vs=[]
   ·have hx:=r1.nil_inv.mpr hv;subst hv hx;exact Mt pins s σ H _ _ v u Q I rx ry ⟨p,q,ws,rfl,rfl,lO.of h1,lO.of h2,h _ _ _ .refl R<|.tup h2 r2⟩
   ·refine O6 pins s σ H _ _ v u Q I rx ry ⟨p,q,vs,ws,rfl,rfl,lO.of h1,lO.of h2,hv,by rw[<- r1.length,<- r2.length];exact hc,λe=>?_,λ_=>nX R (r1.append r2) .refl h⟩;have hy:=r2.nil_inv.mpr e;subst hy;rw[cN]at h;exact h _ _ _ .refl R<|.tup h1 r1
  | _=>exact h.elim
 | @ref p n hp=>
  cases vb with
  | @ref q m hq=>
   kj_on;obtain⟨ys,hm,h⟩:=iQ h;obtain⟨hc,h⟩:=iZ h;obtain⟨vs,h1,h2⟩:=R.lst hp<|iU hn;obtain⟨ws,h3,h4⟩:=R.lst hq<|iU hm;exact QZ pins s σ H _ _ v u Q I rx ry ⟨p,q,vs,ws,rfl,rfl,h1,h3,by rw[<- h2.length,<- h4.length];exact hc,lY R (h2.append h4) .refl h⟩
  | _=>exact h.elim
 | _=>exact h.elim
abbrev A.ints:ad->Option (ae)
 | []=>some []
 | .int i::xs=>(A.ints xs).map (i::·)
 | _=>none
theorem vp{K:au}{H:Hp}:∀{xs:ad}{vs:List V}{bs:ae},AVs K ρ H xs vs->A.ints xs=some bs->vs=bs.map V.int
 | _,_,_,.nil,e=>by cases e;rfl
 | _,_,_,.cons (x:=.int b) h t,e=>by
  obtain⟨cs,e1,rfl⟩:=bu.mp e
  cases h
  rw[vp t e1];rfl
 | _,_,_,.cons (x:=.unb) h t,e=>nomatch e
 | _,_,_,.cons (x:=.non) h t,e=>nomatch e
 | _,_,_,.cons (x:=.bl _) h t,e=>nomatch e
 | _,_,_,.cons (x:=.str _) h t,e=>nomatch e
 | _,_,_,.cons (x:=.tup _) h t,e=>nomatch e
 | _,_,_,.cons (x:=.frz _) h t,e=>nomatch e
 | _,_,_,.cons (x:=.rng _ _) h t,e=>nomatch e
 | _,_,_,.cons (x:=.ref _) h t,e=>nomatch e
 | _,_,_,.cons (x:=.exn _) h t,e=>nomatch e
 | _,_,_,.cons (x:=.ty _) h t,e=>nomatch e
abbrev zU (a b:A)(S:iH):R A:=match a,b with
 | .int i,.int j=>.ok (.bl<|decide<|i<j) S
 | _,_=>.no
def AD(hu:X.A.units+64<cLine):lQ X (compareOp .Lt) (r2 X zU):=λpins s σ H x y v u Q I rx ry h9=>by
 x_go
 cases va with
 | int i=>
  cases vb with
  | int j=>exact VP pins s σ H _ _ v u Q I rx ry ⟨i,j,rfl,rfl,h _ _ _ .refl R<|.bl _⟩
  | _=>exact h.elim
 | _=>exact h.elim
abbrev Rh (a b:A)(S:iH):R A:=match a,b with
 | .int i,.int j=>.ok (.bl<|decide<|i<=j) S
 | _,_=>.no
def N3:lQ X (compareOp .LtE) (r2 X Rh):=lQ.imp Vi λx y H Q h9=>by
 x_go
 cases va<;>first|exact h.elim|(cases vb<;>first|exact h.elim|exact⟨_,_,rfl,rfl,h _ _ _ .refl R<|.bl _⟩)
abbrev DK (a b:A)(S:iH):R A:=match a,b with
 | .int i,.int j=>.ok (.bl<|decide<|j<i) S
 | _,_=>.no
def zG(hu:X.A.units+64<cLine):lQ X (compareOp .Gt) (r2 X DK):=λpins s σ H x y v u Q I rx ry h9=>by
 x_go
 cases va with
 | int i=>
  cases vb with
  | int j=>exact UO pins s σ H _ _ v u Q I rx ry ⟨i,j,rfl,rfl,h _ _ _ .refl R<|.bl _⟩
  | _=>exact h.elim
 | _=>exact h.elim
abbrev V7 (a b:A)(S:iH):R A:=match a,b with
 | .int i,.int j=>.ok (.bl<|decide<|j<=i) S
 | _,_=>.no
def Wh:lQ X (compareOp .GtE) (r2 X V7):=lQ.imp UL λx y H Q h9=>by
 x_go
 cases va<;>first|exact h.elim|(cases vb<;>first|exact h.elim|exact⟨_,_,rfl,rfl,h _ _ _ .refl R<|.bl _⟩)
abbrev G3 (neg:Bool)(a b:A)(S:iH):R A:=match a,b with
 | .bl i,.bl j=>.ok (.bl<|if neg then i != j else i == j) S
 | .non,.non=>.ok (.bl<|!neg) S
 | .unb,.non=>.no
 | .exn _,.non=>.no
 | _,.non=>.ok (.bl neg) S
 | _,_=>.no
def QE{n:Bool}{a b:A}(h1:b≠.non)(h2:∀j,b≠.bl j):G3 n a b S=.no:=by
 unfold G3;split<;>first|rfl|exact absurd rfl h1|exact absurd rfl<|h2 _
def SH{n:Bool}{a b:A}{F:A->iH->Prop}{G:Str->iH->Prop}(h:(G3 n a b S).post F G)(h1:b≠.non)(h2:∀j,b≠.bl j):False:=by
 rw[QE h1 h2]at h;exact h
def Xd:lQ X (compareOp .Is) (r2 X<|G3 false):=λpins s σ H x y v u Q I rx ry h9=>by
 x_go
 cases vb with
 | non=>
  refine Ti pins s σ H _ _ v u Q I rx ry ⟨rfl,?_⟩
  cases va<;>first|exact h _ _ _ .refl R (.bl _)|exact h.elim
 | bl j=>
  cases va with
  | bl i=>exact RJ pins s σ H _ _ v u Q I rx ry ⟨i,j,rfl,rfl,h _ _ _ .refl R<|.bl _⟩
  | _=>exact h.elim
 | _=>
  exact(SH h (λz=>nomatch z) nofun).elim
abbrev M3 (f:A->iH->R A)(c:Ex):Ex:=λτ S=>(c τ S).bind λa S1=>f a S1
abbrev CK (a:A)(S:iH):R A:=match a with
 | .int i=>.ok (.int<|-i) S
 | _=>.no
def Vt:VV X (unaryOp .USub) (r1 X CK):=λpins s σ H x v Q I rx h9=>by
 obtain⟨ρ,S,a,R,va,h⟩:=h9
 cases va with
 | int i=>exact C1 pins s σ H _ v Q I rx ⟨i,rfl,h _ _ _ .refl R<|.int _⟩
 | _=>exact h.elim
def QM{f:A->iH->R A}{c:Ex}{H:Hp}{Q:VK}(h:tE X (M3 f c) σ H Q):Xx (r1 X f) (tE X c) σ H Q:=by
 kst_p;exact⟨ρ,S,τ,R,r,iF (iL h) .refl λa S1 h1 ρ1 H1 x e1 R1 v1=>⟨ρ1,S1,a,R1,v1,iF h1 e1 λc S3 h3=>h3.ext e1⟩⟩
def Ij{c:Ex}(h:AE X a c):AE X (.UnaryOp .USub a pos) (M3 CK c):=PE.imp (Lu Vt h) λ_ _ _ q=>QM q
abbrev pL (a b:A)(S:iH):R A:=match a,b with
 | .tup xs,.int i=>opt (nU xs i) λx=>.ok x S
 | .frz xs,.int i=>opt (nU xs i) λx=>.ok x S
 | .ref n,.int i=>opt (iG S n) λxs=>opt (nU xs i) λx=>.ok x S
 | .str z,.int i=>gd (z.length<=sizeLine) (opt (nU z.cps.toList i) λc=>.ok (.str ⟨#[c]⟩) S)
 | _,_=>.no
def AVs.nU{K:au}{H:Hp}{i:Int}{x:A}(r:AVs K ρ H xs vs)(h:L2.nU xs i=some x):∃v,L2.nU vs i=some v/\AV K ρ H x v:=by
 unfold L2.nU at h ⊢;rw[<- r.length]
 cases hj:yI xs.length i with
 | none=>rw[hj]at h;cases h
 | some j=>
  rw[hj]at h;exact r.get h
def Uo:M_ X (r2 X pL):=λvalue slice pins s σ H x y v u Q I rx ry ⟨ρ,S,a,b,R,va,vb,h⟩ hs=>by
 cases va with
 | @tup p xs vs h1 r1=>
  cases vb with
  | int i=>
   obtain⟨x,hx,h⟩:=iQ h;obtain⟨z,e,q⟩:=r1.nU hx;exact QC value slice pins s σ H _ _ v u Q I rx ry ⟨p,vs,i,z,rfl,rfl,lO.of h1,e,h _ _ _ .refl R q⟩ hs
  | _=>exact h.elim
 | @frz p xs vs h1 r1=>
  cases vb with
  | int i=>
   obtain⟨x,hx,h⟩:=iQ h;obtain⟨z,e,q⟩:=r1.nU hx;exact GC value slice pins s σ H _ _ v u Q I rx ry ⟨p,vs,i,z,rfl,rfl,h1.M5,e,h _ _ _ .refl R q⟩ hs
  | _=>exact h.elim
 | @ref p n hp=>
  cases vb with
  | int i=>
   kj_on;obtain⟨x,hx,h⟩:=iQ h;obtain⟨vs,h1,r1⟩:=R.lst hp<|iU hn;obtain⟨z,e,q⟩:=r1.nU hx;exact GC value slice pins s σ H _ _ v u Q I rx ry ⟨p,vs,i,z,rfl,rfl,ny.of h1,e,h _ _ _ .refl R q⟩ hs
  | _=>exact h.elim
 | str z=>
  cases vb with
  | int i=>
   obtain⟨hz,h⟩:=iZ h;obtain⟨c,hc,h⟩:=iQ h;exact QF value slice pins s σ H _ _ v u Q I rx ry ⟨z,i,c,rfl,rfl,hz,hc,h _ _ _ .refl R<|.str _⟩ hs
  | _=>exact h.elim
 | _=>exact h.elim
def j3{ca cb:Ex}(ha:AE X a ca)(hb:AE X b cb)(hs:vY b:=by exact λ_ _=>rfl):AE X (.Subscript a b pos) (iI pL ca cb):=PE.imp (Jj Uo ha hb hs) λσ H Q h=>rE h
end
abbrev qB (f:A->A->bi):ad->ad->bi
 | [],[]=>some true
 | x::xs,y::ys=>(f x y).bind λp=>(qB f xs ys).map λq=>p && q
 | _,_=>some false
inductive Sh
 | non
 | bl (b:Bool)
 | int (i:Int)
 | str (x:Str)
 | tup (xs:ad)
 | lst
abbrev QU (S:iH):A->Option Sh
 | .non=>some .non
 | .bl b=>some (.bl b)
 | .int i=>some (.int i)
 | .str x=>some (.str x)
 | .tup xs=>some (.tup xs)
 | .ref i=>(iG S i).map λ_=>.lst
 | _=>none
abbrev NK (f:A->A->bi):Sh->Sh->bi
 | .non,.non=>some true
 | .bl x,.bl y=>some (x == y)
 | .bl x,.int y=>some ((if x then 1 else 0) == y)
 | .int x,.bl y=>some (x == (if y then 1 else 0))
 | .int x,.int y=>some (x == y)
 | .str x,.str y=>some (x == y)
 | .tup xs,.tup ys=>qB f xs ys
 | .lst,.lst=>none
 | _,_=>some false
abbrev tV (S:iH):Nat->A->A->bi
 | 0,_,_=>none
 | n+1,a,b=>match a,b with
  | .ref i,.ref j=>(iG S i).bind λxs=>(iG S j).bind λys=>qB (tV S n) xs ys
  | _,_=>(QU S a).bind λx=>(QU S b).bind λy=>NK (tV S n) x y
section
variable {X:Cx}{pins:bn}{σ:L2.St}{H:Hp}{s:aC}{ρ:ba}{S:iH}
inductive KdV (s:aC):Sh->af->Prop
 | non:KdV s .non .none
 | bl (b:Bool):KdV s (.bl b) (.bool b)
 | int (i:Int) (t:Tok):KdV s (.int i) (.int i t)
 | str (x:Str) (t:Tok):KdV s (.str x) (.str x t)
 | tup {p:ak} {us:ar} (xs:ad) (h:s.heap.IsTuple p us.toArray):KdV s (.tup xs) (.ref p)
 | lst {p:ak} {us:ar} (h:s.heap.IsList p us.toArray):KdV s .lst<|.ref p
def Fq{p:ak}(h:s.heap.IsTuple p us)(h':s.heap.IsList p ws):False:=by
 obtain⟨o,e,c,_⟩:=h;obtain⟨o',e',c',_⟩:=h';rw[e]at e'
 cases e'
 exact absurd (c.symm.trans c') ⋯
def DZ(I:Inv X pins σ H s)(R:Rel X.K ρ H S){a:A}{x:V}(ha:AV X.K ρ H a x)(r:RelV x u)(e:QU S a=some h):KdV s h u:=by
 cases ha with
 | non=>cases e;cases(show u=Value.none from r);exact .non
 | bl b=>cases e;cases(show u=Value.bool b from r);exact .bl b
 | int i=>cases e;obtain⟨t,rfl⟩:∃t,u=Value.int i t:=r;exact .int i t
 | str i=>cases e;obtain⟨t,rfl⟩:∃t,u=Value.str i t:=r;exact .str i t
 | tup h1 r1=>cases e;cases(show u=Value.ref _ from r);obtain⟨us,_,p,_⟩:=I.tuple<|lO.of h1;exact .tup _ p
 | ref h1=>
  obtain⟨xs,e1,rfl⟩:=bu.mp e
  cases(show u=Value.ref _ from r)
  obtain⟨vs,h3,r1⟩:=R.lst h1<|iU e1;obtain⟨us,_,p,_⟩:=I.list<|ny.of h3;exact .lst p.isList
 | _=>cases e
abbrev Al (B:aA)(s:aC)(u v:af)(k:Bool):Prop:=SeqAt.RcAt B s u v k/\SeqAt.EqAt B s u v k/\SeqAt.RcNeAt B s u v (!k)
def Vk{B:aA}(hu:B.units<cLine){f:A->A->bi}{v:af}{k:Bool}(d:KdV s h u)(d':KdV s h' v)(nt:∀xs ys,h=.tup xs->h'≠.tup ys)(e:NK f h h'=some k):Al B s u v k:=by
 cases d with
 | non=>cases d' with
  | non=>cases e;exact⟨.none_none,.same _,.none_none⟩
  | bl b=>cases e;exact⟨.none_bool _,.none_bool _,.none_bool _⟩
  | int i t=>cases e;exact⟨.none_int _ _,.none_int _ _,.none_int _ _⟩
  | str x t=>cases e;exact⟨.none_str _ _,.none_str _ _,.none_str _ _⟩
  | tup xs p=>cases e;exact⟨.none_tuple p hu,.none_tuple p hu,.none_tuple p hu⟩
  | lst p=>cases e;exact⟨.none_list p hu,.none_list p hu,.none_list p hu⟩
 | bl c=>cases d' with
  | non=>cases e;exact⟨.bool_none _,.bool_none _,.bool_none _⟩
  | bl b=>cases e;exact⟨.bool_bool _ _,.bool_bool _ _,.bool_bool _ _⟩
  | int i t=>cases e;exact⟨.bool_int _ _ _,.bool_int _ _ _,.bool_int _ _ _⟩
  | str x t=>cases e;exact⟨.bool_str _ _ _,.bool_str _ _ _,.bool_str _ _ _⟩
  | tup xs p=>cases e;exact⟨.bool_tuple _ p hu,.bool_tuple _ p hu,.bool_tuple _ p hu⟩
  | lst p=>cases e;exact⟨.bool_list _ p hu,.bool_list _ p hu,.bool_list _ p hu⟩
 | int c t'=>cases d' with
  | non=>cases e;exact⟨.int_none _ _,.int_none _ _,.int_none _ _⟩
  | bl b=>cases e;exact⟨.int_bool _ _ _,.int_bool _ _ _,.int_bool _ _ _⟩
  | int i t=>cases e;exact⟨.int_int _ _ _ _,.int_int _ _ _ _,.int_int _ _ _ _⟩
  | str x t=>cases e;exact⟨.int_str _ _ _ _,.int_str _ _ _ _,.int_str _ _ _ _⟩
  | tup xs p=>cases e;exact⟨.int_tuple _ _ p hu,.int_tuple _ _ p hu,.int_tuple _ _ p hu⟩
  | lst p=>cases e;exact⟨.int_list _ _ p hu,.int_list _ _ p hu,.int_list _ _ p hu⟩
 | str c t'=>cases d' with
  | non=>cases e;exact⟨.str_none _ _,.str_none _ _,.str_none _ _⟩
  | bl b=>cases e;exact⟨.str_bool _ _ _,.str_bool _ _ _,.str_bool _ _ _⟩
  | int i t=>cases e;exact⟨.str_int _ _ _ _,.str_int _ _ _ _,.str_int _ _ _ _⟩
  | str x t=>cases e;exact⟨.str_str _ _ _ _,.str_str _ _ _ _,.str_str _ _ _ _⟩
  | tup xs p=>cases e;exact⟨.str_tuple _ _ p hu,.str_tuple _ _ p hu,.str_tuple _ _ p hu⟩
  | lst p=>cases e;exact⟨.str_list _ _ p hu,.str_list _ _ p hu,.str_list _ _ p hu⟩
 | tup zs p'=>cases d' with
  | non=>cases e;exact⟨.tuple_none p' hu,.tuple_none p' hu,.tuple_none p' hu⟩
  | bl b=>cases e;exact⟨.tuple_bool _ p' hu,.tuple_bool _ p' hu,.tuple_bool _ p' hu⟩
  | int i t=>cases e;exact⟨.tuple_int _ _ p' hu,.tuple_int _ _ p' hu,.tuple_int _ _ p' hu⟩
  | str x t=>cases e;exact⟨.tuple_str _ _ p' hu,.tuple_str _ _ p' hu,.tuple_str _ _ p' hu⟩
  | tup xs p=>exact absurd rfl (nt _ _ rfl)
  | lst p=>cases e;exact⟨.tuple_list p' p hu,.of_refs (λz=>by subst z;exact Fq p' p)<|.tuple_list p' p hu,.tuple_list p' p hu⟩
 | lst p'=>cases d' with
  | non=>cases e;exact⟨.list_none p' hu,.list_none p' hu,.list_none p' hu⟩
  | bl b=>cases e;exact⟨.list_bool _ p' hu,.list_bool _ p' hu,.list_bool _ p' hu⟩
  | int i t=>cases e;exact⟨.list_int _ _ p' hu,.list_int _ _ p' hu,.list_int _ _ p' hu⟩
  | str x t=>cases e;exact⟨.list_str _ _ p' hu,.list_str _ _ p' hu,.list_str _ _ p' hu⟩
  | tup xs p=>cases e;exact⟨.list_tuple p' p hu,.of_refs (λz=>by subst z;exact Fq p p')<|.list_tuple p' p hu,.list_tuple p' p hu⟩
  | lst p=>cases e
def Ae{a:A}{x:V}(h:AV X.K ρ H a x)(e:QU S a=some (.tup xs)):a=.tup xs/\∃p vs,x=.ref p/\H p=some (.tup vs)/\AVs X.K ρ H xs vs:=by
 cases h with
 | tup h r=>cases e;exact⟨rfl,_,_,rfl,h,r⟩
 | ref h=>obtain⟨_,_,z⟩:=bu.mp e;cases z
 | _=>cases e
def z_{i:Nat}{x:V}(h:AV X.K ρ H (.ref i) x):∃p,x=.ref p/\ρ[i]?=some p:=by
 cases h with
 | ref h=>exact⟨_,rfl,h⟩
def IV{a:A}(e:QU S a=some .lst):∃i,a=.ref i:=by
 cases a with
 | ref i=>exact⟨i,rfl⟩
 | _=>cases e
def Ld{n:Nat}{a:A}{k:Bool}(e:tV S (n+1) a b=some k):(∃i j xs ys,a=.ref i/\b=.ref j/\iG S i=some xs/\iG S j=some ys/\qB (tV S n) xs ys=some k)\/(∃h h',QU S a=some h/\QU S b=some h'/\NK (tV S n) h h'=some k/\(h=.lst->h'≠.lst)):=by
 unfold tV at e;split at e
 ·obtain⟨xs,e1,e⟩:=cJ.mp e;obtain⟨ys,e2,e⟩:=cJ.mp e;exact .inl ⟨_,_,xs,ys,rfl,rfl,e1,e2,e⟩
 ·rename_i nr;obtain⟨h,e1,e⟩:=cJ.mp e;obtain⟨h',e2,e⟩:=cJ.mp e;refine .inr ⟨h,h',e1,e2,e,λz1 z2=>?_⟩;subst z1 z2;obtain⟨i,rfl⟩:=IV e1;obtain⟨j,rfl⟩:=IV e2;exact nr i j rfl rfl
def OW{f:A->A->bi}{k:Bool}(d:KdV s h u)(d':KdV s h' u)(nt:∀xs ys,h=.tup xs->h'≠.tup ys)(e:NK f h h'=some k):k=true:=by
 cases d with
 | non=>cases d';exact(aU e).symm
 | bl b=>cases d';exact(aU e).symm.trans (bK b)
 | int b=>cases d';exact(aU e).symm.trans (bK b)
 | str b=>cases d';exact(aU e).symm.trans (bK b)
 | tup xs p=>cases d' with
  | tup=>exact absurd rfl (nt _ _ rfl)
  | lst q=>exact(Fq p q).elim
 | lst p=>cases d' with
  | tup _ q=>exact(Fq q p).elim
  | lst q=>cases e
def AM{f:A->A->bi}(hf:∀a b x u k,AV X.K ρ H a x->AV X.K ρ H b x->RelV x u->f a b=some k->k=true):∀{xs ys:ad}{vs:List V}{us:ar}{k:Bool},AVs X.K ρ H xs vs->AVs X.K ρ H ys vs->Vals vs us->qB f xs ys=some k->k=true:=by
 intro xs ys vs us k h1 h2 q e
 induction q generalizing xs ys k with
 | nil=>cases h1;cases h2;exact(aU e).symm
 | cons rv _ ih=>
  cases h1 with
  | cons h t=>cases h2 with
   | cons h' t'=>
    obtain⟨p,e1,e⟩:=cJ.mp e;obtain⟨q,e2,e3⟩:=bu.mp e;rw[<- e3,hf _ _ _ _ p h h' rv e1,ih t t' e2];rfl
def Ff(h h':Sh):(∃xs ys,h=.tup xs/\h'=.tup ys)\/(∀xs ys,h=.tup xs->h'≠.tup ys):=by
 cases h with
 | tup xs=>cases h' with
  | tup ys=>exact .inl ⟨xs,ys,rfl,rfl⟩
  | _=>exact .inr λ_ _ _ z=>nomatch z
 | _=>exact .inr λ_ _ z=>nomatch z
theorem zO(I:Inv X pins σ H s)(R:Rel X.K ρ H S):∀(n:Nat) (a b:A) (x:V) (u:af) (k:Bool),AV X.K ρ H a x->AV X.K ρ H b x->RelV x u->tV S n a b=some k->k=true
 | 0,_,_,_,_,_,_,_,_,e=>nomatch e
 | n+1,a,b,x,u,k,ha,hb,ru,e=>by
  rcases Ld e with⟨i,j,xs,ys,rfl,rfl,e1,e2,e⟩|⟨h,h',e1,e2,e,_⟩
  ·obtain⟨p,rfl,h1⟩:=z_ ha;obtain⟨q,z,h2⟩:=z_ hb
   cases z
   obtain⟨vs,h3,r1⟩:=R.lst h1<|iU e1;obtain⟨ws,h4,r2⟩:=R.lst h2<|iU e2;rw[h3]at h4
   cases h4
   obtain⟨us,q,_⟩:=I.list<|ny.of h3;exact AM (λa b x u k=>zO I R n a b x u k) r1 r2 q e
  ·rcases Ff h h' with⟨xs,ys,rfl,rfl⟩|nt
   ·obtain⟨rfl,p,vs,rfl,h3,r1⟩:=Ae ha e1;obtain⟨rfl,q,ws,z,h4,r2⟩:=Ae hb e2
    cases z
    have:=I.uL (lO.of h3)<|lO.of h4;subst this;obtain⟨us,q,_⟩:=I.tuple<|lO.of h3;exact AM (λa b x u k=>zO I R n a b x u k) r1 r2 q e
   ·exact OW (DZ I R ha ru e1) (DZ I R hb ru e2) nt e
abbrev ym (f:A->A->bi)(xs ys:ad)(j:Nat):Bool:=match xs[j]?,ys[j]? with
 | some x,some y=>(f x y).getD true
 | _,_=>true
theorem vL{f:A->A->bi}:∀{xs ys:ad}{k:Bool},qB f xs ys=some k->k=((List.range<|min xs.length ys.length).all (ym f xs ys) && xs.length == ys.length)/\∀j x y,xs[j]?=some x->ys[j]?=some y->f x y=some (ym f xs ys j)
 | [],[],k,e=>⟨(aU e).symm,λj x y h=>by simp at h⟩
 | [],_::_,k,e=>⟨(aU e).symm,λj x y h=>by simp at h⟩
 | _::_,[],k,e=>⟨(aU e).symm,λj x y _ h=>by simp at h⟩
 | x::xs,y::ys,k,e=>by
  unfold qB at e
  cases e1:f x y with
  | none=>rw[e1]at e;cases e
  | some p=>
   rw[e1]at e;obtain⟨q,e2,e3⟩:=bu.mp e;obtain⟨h1,h2⟩:=vL e2;have p0:ym f (x::xs) (y::ys) 0=p:=by simp[ym,e1]
   have ps:∀j,ym f (x::xs) (y::ys) (j+1)=ym f xs ys j:=λj=>by simp[ym]
   refine⟨?_,λj a b ha hb=>?_⟩
   ·rw[<- e3,h1,bz,bz,Nat.succ_min_succ,List.range_succ_eq_map,List.all_cons,List.all_map,p0];have:(ym f (x::xs) (y::ys) ∘ Nat.succ)=ym f xs ys:=funext ps;rw[this,Bool.and_assoc];simp
   ·cases j with
    | zero=>
     simp at ha hb;subst ha hb;rw[p0];exact e1
    | succ j=>rw[ps];exact h2 j a b (by simpa using ha)<|by simpa using hb
def vX{f:A->A->bi}{B:aA}(hf:∀a b x y u v k,AV X.K ρ H a x->AV X.K ρ H b y->RelV x u->RelV y v->f a b=some k->SeqAt.EqAt B s u v k){us ts:ar}{k:Bool}
  (r1:AVs X.K ρ H xs vs) (r2:AVs X.K ρ H ys ws) (q1:Vals vs us) (q2:Vals ws ts) (e:qB f xs ys=some k):∀j (h1:j<us.toArray.size) (h2:j<ts.toArray.size),SeqAt.EqAt B s us.toArray[j] ts.toArray[j] (ym f xs ys j):=by
 intro j h1 h2;have l1:=r1.length;have l2:=r2.length;have l3:=q1.length;have l4:=q2.length;have hx:j<xs.length:=by simp at h1;lia
 have hy:j<ys.length:=by simp at h2;lia
 have e1:xs[j]?=some xs[j]:=aG hx;have e2:ys[j]?=some ys[j]:=aG hy;obtain⟨x,ex,ax⟩:=r1.get e1;obtain⟨y,ey,ay⟩:=r2.get e2;obtain⟨u,eu,ru⟩:=q1.get ex;obtain⟨t,et,rt⟩:=q2.get ey;have a1:us.toArray[j]=u:=by
  have:us[j]?=some us.toArray[j]:=by simp at h1;simp[h1]
  rw[eu]at this;exact(aU this).symm
 have a2:ts.toArray[j]=t:=by
  have:ts[j]?=some ts.toArray[j]:=by simp at h2;simp[h2]
  rw[et]at this;exact(aU this).symm
 rw[a1,a2];exact hf _ _ x y u t _ ax ay ru rt<|(vL e).2 j _ _ e1 e2
def in1_units(B:aA):B.in1.units=B.units+1:=rfl
theorem FO(I:Inv X pins σ H s)(R:Rel X.K ρ H S):∀(n:Nat) (B:aA) (a b:A) (x y:V) (u v:af) (k:Bool),B.units+n<cLine->AV X.K ρ H a x->AV X.K ρ H b y->RelV x u->RelV y v->tV S n a b=some k->Al B s u v k
 | 0,_,_,_,_,_,_,_,_,_,_,_,_,_,e=>nomatch e
 | n+1,B,a,b,x,y,u,v,k,hu,ha,hb,rx,ry,e=>by
  have hu0:B.units<cLine:=()
  have items:∀a b x y u v k,AV X.K ρ H a x->AV X.K ρ H b y->RelV x u->RelV y v->tV S n a b=some k->SeqAt.EqAt B.in1 s u v k:=λa b x y u v k h1 h2 h3 h4 h5=>(FO I R n B.in1 a b x y u v k (by rw[in1_units];lia) h1 h2 h3 h4 h5).2.1;have same:=λ(z:y=x)=>zO I R (n+1) a b x u k ha (z ▸ hb) rx e;have refs:∀{p q:ak},x=.ref p->y=.ref q->u=.ref p->v=.ref q->SeqAt.RcAt B s u v k->SeqAt.EqAt B s u v k:=λ{p q} z1 z2 z3 z4 h=>by
   subst z3 z4;by_cases hp:p=q
   ·subst hp;rw[same<|z2.trans z1.symm];exact .same _
   ·exact .of_refs hp h
  rcases Ld e with⟨i,j,xs,ys,rfl,rfl,e1,e2,e⟩|⟨h,h',e1,e2,e,_⟩
  ·obtain⟨p,rfl,h1⟩:=z_ ha;obtain⟨q,rfl,h2⟩:=z_ hb;obtain⟨vs,h3,r1⟩:=R.lst h1<|iU e1;obtain⟨ws,h4,r2⟩:=R.lst h2<|iU e2;obtain⟨us,q1,p1,_⟩:=I.list<|ny.of h3;obtain⟨ts,q2,p2,_⟩:=I.list<|ny.of h4;have ru:=refs rfl rfl rx ry
   cases(show u=Value.ref p from rx)
   cases(show v=Value.ref q from ry)
   have l1:=r1.length;have l2:=r2.length;have l3:=q1.length;have l4:=q2.length;have ek:=(vL e).1;by_cases hl:xs.length=ys.length
   ·rw[<- hl,Nat.min_self,bK,Bool.and_true]at ek;have eh:us.toArray.size=ts.toArray.size:=by simp;lia
    have z1:=SeqAt.RcAt.lists p1.isList p2.isList eh hu0<|vX items r1 r2 q1 q2 e;have z2:=SeqAt.RcNeAt.lists p1.isList p2.isList eh hu0<|vX items r1 r2 q1 q2 e;rw[aW,<- l3,<- l1,<- ek]at z1 z2;exact⟨z1,ru z1,z2⟩
   ·have:(xs.length == ys.length)=false:=by simpa using hl
    rw[this,iA]at ek;subst ek;have eh:(us.toArray.size != ts.toArray.size)=true:=by simp;lia
    have z1:=SeqAt.RcAt.lists_lengths p1.isList p2.isList eh hu0;exact⟨z1,ru z1,SeqAt.RcNeAt.lists_lengths p1.isList p2.isList eh hu0⟩
  ·rcases Ff h h' with⟨xs,ys,rfl,rfl⟩|nt
   ·obtain⟨rfl,p,vs,rfl,h3,r1⟩:=Ae ha e1;obtain⟨rfl,q,ws,rfl,h4,r2⟩:=Ae hb e2;have ru:=refs rfl rfl rx ry
    cases(show u=Value.ref p from rx)
    cases(show v=Value.ref q from ry)
    obtain⟨us,q1,p1,_⟩:=I.tuple<|lO.of h3;obtain⟨ts,q2,p2,_⟩:=I.tuple<|lO.of h4;have ek:=(vL e).1;have z1:=SeqAt.RcAt.tuples p1 p2 hu0<|vX items r1 r2 q1 q2 e;have z2:=SeqAt.RcNeAt.tuples p1 p2 hu0<|vX items r1 r2 q1 q2 e;rw[aW,aW,<- q1.length,<- q2.length,<- r1.length,<- r2.length,<- ek]at z1 z2;exact⟨z1,ru z1,z2⟩
   ·exact Vk hu0 (DZ I R ha rx e1) (DZ I R hb ry e2) nt e
end
section
variable {X:Cx}
abbrev qm (neg:Bool)(a b:A)(S:iH):R A:=opt (tV S 12 a b) λk=>.ok (.bl<|if neg then !k else k) S
def HW(hu:X.A.units+64<cLine):lQ X (compareOp .Eq) (r2 X<|qm false):=λpins s σ H x y v u Q I rx ry h9=>by
 x_go;obtain⟨k,e,h⟩:=iQ h;exact(FO I R 12 X.A a b x y v u k (by omega) va vb rx ry e).1 _ _ _ _ ⟨.bl _,H,I,rfl,h _ _ _ .refl R<|.bl _⟩
def Br(hu:X.A.units+64<cLine):lQ X (compareOp .NotEq) (r2 X<|qm true):=λpins s σ H x y v u Q I rx ry h9=>by
 x_go;obtain⟨k,e,h⟩:=iQ h;exact(FO I R 12 X.A a b x y v u k () va vb rx ry e).2.2 _ _ _ _ ⟨.bl _,H,I,rfl,h _ _ _ .refl R<|.bl _⟩
end
section
variable {X:Cx}{pos:Pos}{a b:aE}
meta abbrev Pt:=ad->iH->R (bd)
abbrev Gv:Pt:=λ_ S=>.ok none S
abbrev rW (c:Ex):Pt:=λτ S=>(c τ S).bind λa S1=>match a with
 | .int i=>.ok (some i) S1
 | _=>.no
abbrev tO (X:Cx)(c:Pt):TO:=λσ H Q=>∃ρ S τ,Rel X.K ρ H S/\SR X.K ρ H τ σ/\(c τ S).post (λo S'=>∀ρ' H',Ext ρ ρ' H H'->Rel X.K ρ' H' S'->Q o H') (XE X ρ H)
abbrev AO (X:Cx)(e:Option aE)(c:Pt):Prop:=PO X e<|tO X c
def D_:AO X none Gv:=λpins s σ H Q I ⟨ρ,S,τ,R,r,h⟩=>N4 pins s σ H Q I<|h ρ H .refl R
def rF{c:Ex}(ha:AE X a c):AO X (some a) (rW c):=λpins s σ H Q I ⟨ρ,S,τ,R,r,h⟩=>Od ha pins s σ H Q I ⟨ρ,S,τ,R,r,iF (iL h) .refl λx S1 h1 ρ1 H1 v e1 R1 v1=>by
 cases v1<;>first|exact h1.elim|exact⟨_,rfl,h1 ρ1 H1 e1 R1⟩⟩
abbrev uC (xs:ad)(lo hi:bd):ad:=(xs.drop<|HT.kZ xs.length 0 lo).take<|HT.kZ xs.length xs.length hi-HT.kZ xs.length 0 lo
def AVs.cut{K:au}{H:Hp}(r:AVs K ρ H xs vs)(lo hi:bd):AVs K ρ H (uC xs lo hi) (Cg vs lo hi):=by
 unfold uC Cg;rw[r.length];exact(r.drop _).take _
abbrev CI (a:A)(lo hi:bd)(S:iH):R A:=match a with
 | .ref n=>opt (iG S n) λxs=>.ok (.ref S.length) (S++[.lst<|uC xs lo hi])
 | .frz xs=>.ok (.ref S.length) (S++[.lst<|uC xs lo hi])
 | .tup xs=>gd (¬(HT.kZ xs.length 0 lo=0/\HT.kZ xs.length xs.length hi=xs.length)) (.ok (.tup<|uC xs lo hi) S)
 | _=>.no
abbrev Tr (c:Ex)(lo hi:Pt):Ex:=λτ S=>(c τ S).bind λa S1=>(lo τ S1).bind λl S2=>(hi τ S2).bind λu S3=>CI a l u S3
abbrev rS (X:Cx):V->bd->bd->Hp->VK->Prop:=λx lo hi H Q=>∃ρ S a,Rel X.K ρ H S/\AV X.K ρ H a x/\(CI a lo hi S).post (vn X ρ H Q) (XE X ρ H)
def RL:V1 X (rS X):=λpins s σ H x v vl vu lo hi sl Q I rx hs pl pu h9=>by
 obtain⟨ρ,S,a,R,va,h⟩:=h9
 cases va with
 | @tup p xs vs h1 r1=>
  obtain⟨hc,h⟩:=iZ h;exact SN pins s σ H _ v vl vu lo hi sl Q I rx hs pl pu ⟨p,vs,rfl,(lO.of h1),by rw[<- r1.length];exact hc,nX R (r1.cut lo hi) .refl h⟩
 | @frz p xs vs h1 r1=>exact GJ pins s σ H _ v vl vu lo hi sl Q I rx hs pl pu ⟨p,vs,rfl,h1.M5,lY R (r1.cut lo hi) .refl h⟩
 | @ref p n hp=>
  kj_on;obtain⟨vs,h1,r1⟩:=R.lst hp<|iU hn;exact GJ pins s σ H _ v vl vu lo hi sl Q I rx hs pl pu ⟨p,vs,rfl,ny.of h1,lY R (r1.cut lo hi) .refl h⟩
 | _=>exact h.elim
def Eh{e:aE}{lo:Option aE}{c:Ex}{cl ch:Pt}(he:AE X e c)(hl:AO X lo cl)(hh:AO X hi ch):AE X (.Subscript e (.Slice lo hi none p2) pos) (Tr c cl ch):=PE.imp (ID RL he hl hh) λσ H Q h9=>by
 z_go;refine⟨ρ,S,τ,R,r,iF (iL h) .refl λa S1 h1 ρ1 H1 x e1 R1 v1=>⟨ρ1,S1,τ,R1,r.ext e1,iF (iL h1) e1 λl S2 h2 ρ2 H2 e2 R2=>⟨ρ2,S2,τ,R2,r.ext<|e1.trans e2,iF (iL h2) (e1.trans e2) λu S3 h3 ρ3 H3 e3 R3=>?_⟩⟩⟩;exact⟨ρ3,S3,a,R3,v1.ext<|e2.trans e3,iF h3 (e1.trans<|e2.trans e3) λ_ _ z=>z.ext<|e1.trans<|e2.trans e3⟩
abbrev G8 (a:A)(S:iH):R A:=match a with
 | .ref n=>opt (iG S n) λxs=>.ok (.ref S.length) (S++[.lst xs.reverse])
 | .tup xs=>.ok (.tup xs.reverse) S
 | _=>.no
def Mj{e:aE}{up cp:Pos}{kk:Nat}{c:Ex}(he:AE X e c):AE X (.Subscript e (.Slice none none (some<|.UnaryOp .USub (.Constant (.int 1) kk cp) up) p2) pos) (M3 G8 c):=λpins s σ H Q I h9=>by
 z_go;have hb:=iL h
 cases hc:c τ S with
 | no=>rw[hc]at hb;exact hb.elim
 | ex x S1=>
  rw[hc]at hb;exact ET he pins s σ H Q I ⟨ρ,S,τ,R,r,by rw[hc];exact hb⟩
 | ok a S1=>
  rw[hc]at hb;have hb:(G8 a S1).post (vn X ρ H Q) (XE X ρ H):=hb
  cases a with
  | tup xs=>
   refine ET he pins s σ H Q I ⟨ρ,S,τ,R,r,?_⟩;rw[hc];intro ρ1 H1 x e1 R1 v1
   cases v1 with
   | tup h1 r1=>exact⟨_,_,rfl,(lO.of h1),nX R1 r1.reverse e1 hb⟩
  | ref n=>
   refine N_ he pins s σ H Q I ⟨ρ,S,τ,R,r,?_⟩;rw[hc];intro ρ1 H1 x e1 R1 v1;obtain⟨xs,hn,h⟩:=iQ hb
   cases v1 with
   | ref hp=>
    obtain⟨vs,h1,r1⟩:=R1.lst hp<|iU hn;exact⟨_,_,rfl,ny.of h1,lY R1 r1.reverse e1 h⟩
  | _=>exact hb.elim
abbrev je (f:ad->iH->R A)(d:pZ):Ex:=λτ S=>(d τ S).bind λas S1=>f as S1
def B8{f:ad->iH->R A}{d:pZ}{H:Hp}{Q:VK}(h:tE X (je f d) σ H Q):Xf (rN X f) (tL X d) σ H Q:=by
 kst_p;exact⟨ρ,S,τ,R,r,iF (iL h) .refl λas S1 h1 ρ1 H1 vs e1 R1 v1=>⟨ρ1,S1,as,R1,v1,iF h1 e1 λ_ _ z=>z.ext e1⟩⟩
variable {x:Str}{p:Pos}{e:aE}{es:List aE}{id T:String}{f:ad->iH->R A}{d:pZ}
def i6(hc:jk X (.builtin id)<|rN X f)(hm:X.mg x=none)(hv:bootBuiltins x=some (.builtin id))(ha:AL X (e::es) d)(hg:Gl X x:=by rfl)(hn:x ≠ "__name__" := by decide)(hdb:(x == ("__debug__" : Str))=false:=by decide)
  (he:starEach (e::es) X.env=(false,eval e X.env)::starEach es X.env:=by rfl) (hpl:(backTo pos<|starEach es X.env).any (·.1)=false:=by rfl):AE X (.Call (.Name x p) (e::es) [] pos) (je f d):=
 PE.imp (Lp hc hg hm hv ha hn hdb he hpl) λ_ _ _ h=>B8 h
def lZ(hc:jk X (.type T)<|rN X f)(hm:X.mg x=none)(hv:bootBuiltins x=some (.type T))(ha:AL X (e::es) d)(hg:Gl X x:=by rfl)(hn:x ≠ "__name__" := by decide)(hdb:(x == ("__debug__" : Str))=false:=by decide)
  (he:starEach (e::es) X.env=(false,eval e X.env)::starEach es X.env:=by rfl) (hpl:(backTo pos<|starEach es X.env).any (·.1)=false:=by rfl):AE X (.Call (.Name x p) (e::es) [] pos) (je f d):=
 PE.imp (uQ hc hg hm hv ha hn hdb he hpl) λ_ _ _ h=>B8 h
def Pu(hm:X.mg x=none)(hv:bootBuiltins x=some (.type T))(hg:Gl X x:=by rfl)(hn:x ≠ "__name__" := by decide)(hdb:(x == ("__debug__" : Str))=false:=by decide):AE X (.Name x pos) (eC<|.ty T):=
 PE.imp (NH (v:=.ty T) hg hm hv rfl hn hdb) λσ H Q ⟨ρ,S,τ,R,r,h⟩=>h ρ H _ .refl R<|.ty T
abbrev A.seq (S:iH):A->Option (ad)
 | .tup xs=>some xs
 | .frz xs=>some xs
 | .ref n=>iG S n
 | _=>none
def SO{K:au}{H:Hp}{x:A}{v:V}(R:Rel K ρ H S)(h:AV K ρ H x v)(e:x.seq S=some xs):∃p vs,v=.ref p/\(ny K H p vs\/lO K H p vs)/\AVs K ρ H xs vs:=by
 cases h with
 | tup h r=>cases aU e;exact⟨_,_,rfl,.inr<|lO.of h,r⟩
 | frz h r=>cases aU e;exact⟨_,_,rfl,.inl h.M5,r⟩
 | ref h=>
  obtain⟨vs,h1,r1⟩:=R.lst h<|iU e;exact⟨_,vs,rfl,.inl<|ny.of h1,r1⟩
 | _=>cases e
def OP{K:au}{H:Hp}{x:A}(h:AVs K ρ H [x] vs):∃v,vs=[v]/\AV K ρ H x v:=by
 cases h with
 | cons h t=>cases t;exact⟨_,rfl,h⟩
def TF{K:au}{H:Hp}{x:A}(h:AVs K ρ H [x,y] vs):∃v w,vs=[v,w]/\AV K ρ H x v/\AV K ρ H y w:=by
 cases h with
 | cons h t=>obtain⟨w,rfl,h'⟩:=OP t;exact⟨_,_,rfl,h,h'⟩
abbrev f1 (g:A->iH->R A):ad->iH->R A:=λas S=>match as with
 | [x]=>g x S
 | _=>.no
abbrev f2 (g:A->A->iH->R A):ad->iH->R A:=λas S=>match as with
 | [x,y]=>g x y S
 | _=>.no
def Oi{g:A->iH->R A}{P:A->iH->Prop}{E:Str->iH->Prop}(h:(f1 g as S).post P E):∃x,as=[x]/\(g x S).post P E:=by
 match as,h with
 | [],h=>exact h.elim
 | [x],h=>exact⟨x,rfl,h⟩
 | _::_::_,h=>exact h.elim
def M7{g:A->A->iH->R A}{P:A->iH->Prop}{E:Str->iH->Prop}(h:(f2 g as S).post P E):∃x y,as=[x,y]/\(g x y S).post P E:=by
 match as,h with
 | [],h=>exact h.elim
 | [_],h=>exact h.elim
 | [x,y],h=>exact⟨x,y,rfl,h⟩
 | _::_::_::_,h=>exact h.elim
def Rc{g:A->iH->R A}{H:Hp}{Q:VK}(h:rN X (f1 g) vs H Q):∃v,vs=[v]/\∃ρ S x,Rel X.K ρ H S/\AV X.K ρ H x v/\(g x S).post (vn X ρ H Q) (XE X ρ H):=by
 obtain⟨ρ,S,as,R,v,h⟩:=h;obtain⟨x,rfl,h⟩:=Oi h;obtain⟨w,rfl,hv⟩:=OP v;exact⟨w,rfl,ρ,S,x,R,hv,h⟩
def VW{g:A->A->iH->R A}{H:Hp}{Q:VK}(h:rN X (f2 g) vs H Q):∃v w,vs=[v,w]/\∃ρ S x y,Rel X.K ρ H S/\AV X.K ρ H x v/\AV X.K ρ H y w/\(g x y S).post (vn X ρ H Q) (XE X ρ H):=by
 obtain⟨ρ,S,as,R,v,h⟩:=h;obtain⟨x,y,rfl,h⟩:=M7 h;obtain⟨w,w',rfl,hv,hv'⟩:=TF v;exact⟨w,w',rfl,ρ,S,x,y,R,hv,hv',h⟩
abbrev mz (x:A)(S:iH):R A:=match x with
 | .str x=>gd (x.length<=sizeLine) (.ok (.int x.length) S)
 | .tup xs=>.ok (.int xs.length) S
 | .frz xs=>.ok (.int xs.length) S
 | .ref n=>opt (iG S n) λxs=>.ok (.int xs.length) S
 | _=>.no
def kN:jk X (.builtin "len") (rN X<|f1 mz):=jk.imp IT λvs H Q h0=>by
 kpc_g;clear h0
 cases hv with
 | str z=>
  obtain⟨hz,h⟩:=iZ h;exact⟨_,_,rfl,⟨hz,rfl⟩,h _ _ _ .refl R<|.int _⟩
 | @tup p xs us h1 r=>exact⟨_,us.length,rfl,.inr ⟨us,(lO.of h1),rfl⟩,by rw[<- r.length];exact h _ _ _ .refl R<|.int _⟩
 | @frz p xs us h1 r=>exact⟨_,us.length,rfl,.inl ⟨us,h1.M5,rfl⟩,by rw[<- r.length];exact h _ _ _ .refl R<|.int _⟩
 | ref hp=>
  kj_on;obtain⟨us,h1,r⟩:=R.lst hp<|iU hn;exact⟨_,us.length,rfl,.inl ⟨us,ny.of h1,rfl⟩,by rw[<- r.length];exact h _ _ _ .refl R<|.int _⟩
 | _=>exact h.elim
abbrev Xl (x:A)(S:iH):R A:=match x with
 | .int i=>.ok (.int<|if i<0 then -i else i) S
 | _=>.no
abbrev Mc (x y:A)(S:iH):R A:=match x,y with
 | .int i,.int j=>.ok (.int<|if j>i then j else i) S
 | _,_=>.no
def Sj(hc:X.calm=true):jk X (.builtin "max") (rN X<|f2 Mc):=jk.imp (HU hc) λvs H Q h0=>by
 obtain⟨w,w',rfl,ρ,S,x,y,R,hv,hv',h⟩:=VW h0;clear h0
 cases hv<;>first|exact h.elim|(cases hv'<;>first|exact h.elim|exact⟨_,_,rfl,h _ _ _ .refl R<|.int _⟩)
abbrev JG (x y:A)(S:iH):R A:=match x,y with
 | .int i,.int j=>.ok (.int<|if j<i then j else i) S
 | _,_=>.no
def Rb(hc:X.calm=true):jk X (.builtin "min") (rN X<|f2 JG):=jk.imp (Hs hc) λvs H Q h0=>by
 obtain⟨w,w',rfl,ρ,S,x,y,R,hv,hv',h⟩:=VW h0;clear h0
 cases hv<;>first|exact h.elim|(cases hv'<;>first|exact h.elim|exact⟨_,_,rfl,h _ _ _ .refl R<|.int _⟩)
abbrev BW (x:A)(S:iH):R A:=match x with
 | .int i=>.ok (.int i) S
 | .bl k=>.ok (.int<|if k then 1 else 0) S
 | .str y=>opt (PySem.intText? y) λn=>gd (y.length<=640) (.ok (.int n) S)
 | _=>.no
def SJ:jk X (.type "int") (rN X<|f1 BW):=λpins s σ H xs us Q I rv h0=>by
 kpc_g;clear h0
 cases hv with
 | int i=>exact yv pins s σ H _ us Q I rv (.inl ⟨i,rfl,h _ _ _ .refl R<|.int _⟩)
 | bl k=>exact yv pins s σ H _ us Q I rv (.inr ⟨k,rfl,h _ _ _ .refl R<|.int _⟩)
 | str y=>
  obtain⟨n,hn,h⟩:=iQ h;obtain⟨hl,h⟩:=iZ h;exact G7 pins s σ H _ us Q I rv ⟨y,n,rfl,hl,hn,h _ _ _ .refl R<|.int _⟩
 | _=>exact h.elim
abbrev Ac (x y:A)(S:iH):R A:=match x,y with
 | .int i,.int j=>.ok (.rng i j) S
 | _,_=>.no
def JO:jk X (.type "range") (rN X<|f2 Ac):=jk.imp zQ λvs H Q h0=>by
 obtain⟨w,w',rfl,ρ,S,x,y,R,hv,hv',h⟩:=VW h0;clear h0
 cases hv with
 | int i=>
  cases hv' with
  | int j=>
   refine⟨i,j,rfl,λp hp=>?_⟩;obtain⟨ex,R'⟩:=R.im (u:=.rng i j) hp;exact h ρ _ _ ex R'<|.rng jy
  | _=>exact h.elim
 | _=>exact h.elim
abbrev yY (i j:Int):Prop:=(-(2 ^ 62)<=i/\i<2 ^ 62/\-(2 ^ 62)<=j/\j<2 ^ 62)/\(j-i).toNat<=1000
instance (i j:Int):Decidable (yY i j):=by unfold yY;infer_instance
abbrev xU (x:A)(S:iH):R A:=match x with
 | .rng i j=>gd (yY i j) (.ok (.ref S.length)<|S++[.lst<|(i7 i j).map .int])
 | .tup xs=>.ok (.ref S.length) (S++[.lst xs])
 | .frz xs=>.ok (.ref S.length) (S++[.lst xs])
 | .ref n=>opt (iG S n) λxs=>.ok (.ref S.length) (S++[.lst xs])
 | _=>.no
def Jq(hc:X.calm=true):jk X (.type "list") (rN X<|f1 xU):=λpins s σ H vs us Q I rx h0=>by
 kpc_g;clear h0
 cases hv with
 | @rng p i j hp=>
  obtain⟨hc',h⟩:=iZ h;exact yo hc pins s σ H _ us Q I rx ⟨p,i,j,rfl,hp,hc'.1,hc'.2,lY R (qM _) .refl h⟩
 | @tup p xs vs h1 r=>exact p8 pins s σ H _ us Q I rx ⟨p,vs,rfl,.inr<|lO.of h1,lY R r .refl h⟩
 | @frz p xs vs h1 r=>exact p8 pins s σ H _ us Q I rx ⟨p,vs,rfl,.inl h1.M5,lY R r .refl h⟩
 | @ref p n hp=>
  kj_on;obtain⟨vs,h1,r⟩:=R.lst hp<|iU hn;exact p8 pins s σ H _ us Q I rx ⟨p,vs,rfl,.inl<|ny.of h1,lY R r .refl h⟩
 | _=>exact h.elim
abbrev qY (x:A)(S:iH):R A:=match x with
 | .rng i j=>gd (yY i j) (.ok (.tup<|(i7 i j).map .int) S)
 | .tup xs=>.ok (.tup xs) S
 | .frz xs=>.ok (.tup xs) S
 | .ref n=>opt (iG S n) λxs=>.ok (.tup xs) S
 | _=>.no
def vH(hc:X.calm=true):jk X (.type "tuple") (rN X<|f1 qY):=λpins s σ H vs us Q I rx h0=>by
 kpc_g;clear h0
 cases hv with
 | @rng p i j hp=>
  obtain⟨hc',h⟩:=iZ h;exact xO hc pins s σ H _ us Q I rx ⟨p,i,j,rfl,hp,hc'.1,hc'.2,nX R (qM _) .refl h⟩
 | @tup p xs vs h1 r=>exact oX pins s σ H _ us Q I rx ⟨p,vs,rfl,.inr ⟨(lO.of h1),h _ _ _ .refl R<|.tup h1 r⟩⟩
 | @frz p xs vs h1 r=>exact oX pins s σ H _ us Q I rx ⟨p,vs,rfl,.inl ⟨h1.M5,nX R r .refl h⟩⟩
 | @ref p n hp=>
  kj_on;obtain⟨vs,h1,r⟩:=R.lst hp<|iU hn;exact oX pins s σ H _ us Q I rx ⟨p,vs,rfl,.inl ⟨ny.of h1,nX R r .refl h⟩⟩
 | _=>exact h.elim
abbrev A.VT:ad->Option (List Bool)
 | []=>some []
 | .bl b::xs=>(A.VT xs).map (b::·)
 | _=>none
abbrev maxOf:ae->bd
 | []=>none
 | [x]=>some x
 | x::xs=>(maxOf xs).map λm=>if m>x then m else x
theorem xm:∀{ns:ae}{m:Int},maxOf ns=some m->m∈ns/\∀a∈ns,a<=m
 | [],_,e=>nomatch e
 | [x],m,e=>by cases e;exact⟨aN,λa h=>by rw[bI]at h;lia⟩
 | x::y::xs,m,e=>by
  obtain⟨m',e1,rfl⟩:=bu.mp<|show(maxOf (y::xs)).map (λm=>if m>x then m else x)=some m from e;obtain⟨h1,h2⟩:=xm e1;by_cases hx:m'>x
  ·rw[aL hx];exact⟨aP _ h1,λa h=>(bJ.mp h).elim (λz=>())<|h2 a⟩
  ·rw[aJ hx];exact⟨aN,λa h=>(bJ.mp h).elim (λz=>()) λz=>by have:=h2 a z;lia⟩
abbrev Mq (x:A)(S:iH):R A:=match x with
 | .ref n=>opt (iG S n) λxs=>opt (A.ints xs) λns=>opt (maxOf ns) λm=>.ok (.int m) S
 | _=>.no
def SM(hc:X.calm=true):jk X (.builtin "max") (rN X<|f1 Mq):=jk.imp (GV hc) λvs H Q h0=>by
 kpc_g;clear h0
 cases hv with
 | @ref p n hp=>
  kj_on;obtain⟨ns,hb,h⟩:=iQ h;obtain⟨m,hm,h⟩:=iQ h;obtain⟨vs,h1,r⟩:=R.lst hp<|iU hn;rw[vp r hb]at h1;obtain⟨g1,g2⟩:=xm hm;refine⟨p,ns,rfl,ny.of h1,List.length_pos_of_mem g1,λM hM hG=>?_⟩;have:M=m:=gJ (g2 M hM)<|hG m g1;rw[this];exact h _ _ _ .refl R<|.int _
 | _=>exact h.elim
abbrev insI (x:Int):ae->ae
 | []=>[x]
 | y::ys=>if x<=y then x::y::ys else y::insI x ys
abbrev sortI:ae->ae
 | []=>[]
 | x::xs=>insI x<|sortI xs
theorem insI_perm(x:Int):∀ys:ae,(insI x ys).Perm (x::ys)
 | []=>g4 _
 | y::ys=>by
  unfold insI;by_cases h:x<=y
  ·rw[aL h]
  ·rw[aJ h];exact((insI_perm x ys).cons y).trans (List.Perm.swap x y ys)
theorem sortI_perm:∀xs:ae,(sortI xs).Perm xs
 | []=>g4 _
 | x::xs=>(insI_perm x<|sortI xs).trans<|(sortI_perm xs).cons x
theorem Fy(x:Int):∀ys:ae,ys.Pairwise (·<=·)->(insI x ys).Pairwise (·<=·)
 | [],_=>c9 _ _
 | y::ys,h=>by
  unfold insI;obtain⟨h1,h2⟩:=bZ.mp h;by_cases hx:x<=y
  ·rw[aL hx];exact bZ.mpr ⟨λz hz=>(bJ.mp hz).elim (λe=>e ▸ hx) λhz=>Int.le_trans hx<|h1 z hz,h⟩
  ·rw[aJ hx];refine bZ.mpr ⟨λz hz=>?_,Fy x ys h2⟩
   rcases bJ.mp ((insI_perm x ys).mem_iff.mp hz)with e|hz
   ·subst e;lia
   ·exact h1 z hz
theorem xR:∀xs:ae,(sortI xs).Pairwise (·<=·)
 | []=>List.Pairwise.nil
 | x::xs=>Fy x _<|xR xs
abbrev A.kd:A->iH->Option Kd
 | .non,_=>some .non
 | .bl _,_=>some .bl
 | .int _,_=>some .int
 | .str _,_=>some .str
 | .tup _,_=>some .tup
 | .ref n,S=>(iG S n).map λ_=>.lst
 | _,_=>none
def Pa{K:au}(k:Kd):PySem.W.kitOne K k.ty (.type "str")=some (decide<|k=.str):=by cases k<;>rfl
abbrev H_ (k:Kd)(c:String):bi:=if c = "int" then some (decide<|k=.int\/k=.bl)else if c = "bool" then some (decide<|k=.bl)else if c = "tuple" then some (decide<|k=.tup)else if c = "list" then some (decide<|k=.lst)else if c = "str" then some (decide<|k=.str)else none
def E6{K:au}{k:Kd}{c:String}{b:Bool}(h:H_ k c=some b):PySem.W.kitOne K k.ty (.type c)=some b:=by
 unfold H_ at h;split at h
 ·rename_i e;subst e;rw[<- h];exact NS k
 ·split at h
  ·rename_i e;subst e;rw[<- h];exact Kv k
  ·split at h
   ·rename_i e;subst e;rw[<- h];exact kit_tuple k
   ·split at h
    ·rename_i e;subst e;rw[<- h];exact Lc k
    ·split at h
     ·rename_i e;subst e;rw[<- h];exact Pa k
     ·cases h
abbrev Pc (x y:A)(S:iH):R A:=match y with
 | .ty c=>opt (x.kd S) λk=>opt (H_ k c) λb=>.ok (.bl b) S
 | _=>.no
def Uz{K:au}{H:Hp}{x:A}{v:V}{k:Kd}(R:Rel K ρ H S)(h:AV K ρ H x v)(e:x.kd S=some k):(∃p vs,v=.ref p/\lO K H p vs/\k=.tup)\/Rf H v k:=by
 cases h with
 | non=>cases e;exact .inr rfl
 | bl b=>cases e;exact .inr ⟨b,rfl⟩
 | int i=>cases e;exact .inr ⟨i,rfl⟩
 | str i=>cases e;exact .inr ⟨i,rfl⟩
 | tup h r=>cases e;exact .inl ⟨_,_,rfl,(lO.of h),rfl⟩
 | ref h=>
  obtain⟨xs,e1,e2⟩:=bu.mp e;obtain⟨vs,h1,_⟩:=R.lst h (iU e1)
  cases e2
  exact .inr ⟨_,vs,rfl,h1⟩
 | _=>cases e
def Qs:jk X (.builtin "isinstance") (rN X<|f2 Pc):=λpins s σ H vs us Q I rx h0=>by
 obtain⟨w,w',rfl,ρ,S,x,y,R,hv,hv',h⟩:=VW h0;clear h0
 cases hv' with
 | ty c=>
  obtain⟨k,hk,h⟩:=iQ h;obtain⟨b,hb,hq⟩:=iQ h;have hq:vn X ρ H Q (.bl b) S:=hq;clear h
  rcases Uz R hv hk with⟨p,vs,rfl,ht,rfl⟩|hd
  ·obtain⟨u1,u2,rfl,r1,r2⟩:=vals2 rx;obtain⟨its,q,⟨o,h1,h2,_⟩,_⟩:=I.tuple ht
   cases(show _=Value.ref p from r1)
   cases(show _=Value.type c from r2)
   exact cM PySem.W.kitx_tuple I.AH ⟨o,h1,h2⟩ (E6 hb) (λz=>nomatch z) λtk=>⟨.bl b,H,I.tok _,rfl,hq _ _ _ .refl R<|.bl _⟩
  ·exact B_ (c:=c) pins s σ H _ us Q I rx ⟨w,_,b,rfl,hd.WL,E6 hb,hq _ _ _ .refl R<|.bl _⟩
 | _=>exact h.elim
end
abbrev VN (x:ae):List (ae)->List (ae)
 | []=>[x]
 | y::ys=>if HT.lexLt y x=true then y::VN x ys else x::y::ys
abbrev Mp:List (ae)->List (ae)
 | []=>[]
 | x::xs=>VN x<|Mp xs
theorem Xz:∀(N:Nat) (l:ag),l.Nodup->(∀x∈l,x<N)->l.length<=N
 | 0,l,_,h=>by
  cases l with
  | nil=>exact aQ _
  | cons a l=>exact absurd (h a<|aN ..)<|d9 _
 | N+1,l,nd,h=>by
  have h1:=Xz N (l.erase N) (nd.erase N) λx hx=>by
   have:=h x<|List.mem_of_mem_erase hx;have:x≠N:=λz=>by
    subst z;exact(List.Nodup.not_mem_erase nd) hx
   lia
  have:=List.le_length_erase (l:=l) (a:=N)
  lia
def xq{N:Nat}{g:Nat->Nat}(h:∀i,i<N->g i<N)(inj:∀i j,i<j->j<N->g i≠g j):((List.range N).map g).Perm (List.range N):=by
 have nd:((List.range N).map g).Nodup:=by
  unfold List.Nodup;rw[di];intro i j hi hj hij;rw[aK,cK]at hi hj;rw[cV,cV,eU,eU];exact inj i j hij hj
 have lt:∀x∈(List.range N).map g,x<N:=λx hx=>by
  obtain⟨i,hi,rfl⟩:=bW.mp hx;exact h i<|dF.mp hi
 refine(List.perm_ext_iff_of_nodup nd List.nodup_range).mpr λa=>⟨λha=>dF.mpr<|lt a ha,λha=>?_⟩;refine Classical.byContradiction λhn=>?_;have:=Xz N (a::(List.range N).map g) (c7.mpr ⟨hn,nd⟩) λx hx=>by
  rcases bJ.mp hx with rfl|hx
  ·exact dF.mp ha
  ·exact lt x hx
 rw[bz,aK,cK]at this
 lia
def range_getD{α:Type}(l:List α)(d:α):(List.range l.length).map (λi=>l.getD i d)=l:=by
 apply bU;intro i;rw[bh];by_cases c:i<l.length
 ·rw[cQ c];show some (l.getD i d)=_;rw[aI,aG c];rfl
 ·rw[bC<|by rw[cK];lia,bC ()];rfl
theorem JH{K:au}{H:Hp}{α:Type}{f:α->A}{h:α->V}:∀{l:List α},(∀a∈l,AV K ρ H (f a)<|h a)->AVs K ρ H (l.map f) (l.map h)
 | [],_=>.nil
 | a::l,e=>.cons (e a<|aN ..)<|JH λb hb=>e b<|aP _ hb
abbrev RS.post (r:RS)(N:ad->iH->Prop)(T:A->iH->Prop)(B C:ad->iH->Prop)(E:Str->iH->Prop):Prop:=match r with
 | .nx τ S=>N τ S
 | .rt a S=>T a S
 | .bk τ S=>B τ S
 | .ct τ S=>C τ S
 | .ex c S=>E c S
 | .no=>False
abbrev RS.of {α:Type}(r:R α)(f:α->iH->RS):RS:=match r with
 | .ok a S=>f a S
 | .ex c S=>.ex c S
 | .no=>.no
def of_post{α:Type}{r:R α}{f:α->iH->RS}{N B C:ad->iH->Prop}{T:A->iH->Prop}{E:Str->iH->Prop}(h:(RS.of r f).post N T B C E):r.post (λa S=>(f a S).post N T B C E) E:=by
 cases r<;>exact h
def RS.mono{r:RS}{N B C N' B' C':ad->iH->Prop}{T T':A->iH->Prop}{E E':Str->iH->Prop}(h:r.post N T B C E)(hn:∀τ S,N τ S->N' τ S)(ht:∀a S,T a S->T' a S)(hb:∀τ S,B τ S->B' τ S)(hc:∀τ S,C τ S->C' τ S)(he:∀c S,E c S->E' c S):r.post N' T' B' C' E':=by
 cases r with
 | nx τ S=>exact hn _ _ h
 | rt a S=>exact ht _ _ h
 | bk τ S=>exact hb _ _ h
 | ct τ S=>exact hc _ _ h
 | ex c S=>exact he _ _ h
 | no=>exact h.elim
abbrev EJ (X:Cx)(ρ:ba)(H:Hp)(N:L2.St->Hp->Prop):ad->iH->Prop:=λτ' S'=>∀ρ' H' σ',Ext ρ ρ' H H'->Rel X.K ρ' H' S'->SR X.K ρ' H' τ' σ'->N σ' H'
def EJ.ext{X:Cx}{H H':Hp}{N:L2.St->Hp->Prop}(h:EJ X ρ H N τ S)(e:Ext ρ ρ' H H'):EJ X ρ' H' N τ S:=λρ2 H2 σ2 e2=>h ρ2 H2 σ2<|e.trans e2
abbrev zc (X:Cx)(ρ:ba)(H:Hp)(D:Ends)(r:RS):Prop:=r.post (EJ X ρ H D.nx) (vn X ρ H D.rt) (EJ X ρ H D.bk) (EJ X ρ H D.ct)<|XE X ρ H
def zc.ext{X:Cx}{H H':Hp}{D:Ends}{r:RS}(h:zc X ρ H D r)(e:Ext ρ ρ' H H'):zc X ρ' H' D r:=RS.mono h (λ_ _ z=>z.ext e) (λ_ _ z=>z.ext e) (λ_ _ z=>z.ext e) (λ_ _ z=>z.ext e) λ_ _ z=>z.ext e
abbrev tS (X:Cx)(c:Sm):TS:=λD σ H=>∃ρ S τ,Rel X.K ρ H S/\SR X.K ρ H τ σ/\zc X ρ H D (c τ S)
abbrev AS (X:Cx)(st:aF)(c:Sm):Prop:=PS X st<|tS X c
abbrev Nm (X:Cx)(sts:List aF)(c:Sm):Prop:=Av X sts<|tS X c
abbrev tG (X:Cx)(g:Tg):TG:=λv σ H Q=>∃ρ S τ a,Rel X.K ρ H S/\SR X.K ρ H τ σ/\AV X.K ρ H a v/\(g a τ S).post (EJ X ρ H Q) (XE X ρ H)
abbrev AG (X:Cx)(e:aE)(g:Tg):Prop:=PG X e<|tG X g
meta abbrev M6:=ad->ad->iH->R (ad)
abbrev X_ (X:Cx)(g:M6):PY:=λvs σ H Q=>∃ρ S τ as,Rel X.K ρ H S/\SR X.K ρ H τ σ/\AVs X.K ρ H as vs/\(g as τ S).post (EJ X ρ H Q) (XE X ρ H)
abbrev V9 (X:Cx)(es:List aE)(g:M6):Prop:=UT X es<|X_ X g
section
variable {X:Cx}{pos:Pos}{a b e:aE}{st:aF}{rest:List aF}{c d:Sm}
def PS.imp{t t':TS}(h:PS X st t)(i:∀D σ H,t' D σ H->t D σ H):PS X st t':=λpins s σ H D I q=>h pins s σ H D I<|i D σ H q
def Av.imp{t t':TS}(h:Av X rest t)(i:∀D σ H,t' D σ H->t D σ H):Av X rest t':=λpins s σ H D I q=>h pins s σ H D I<|i D σ H q
def PG.imp{t t':TG}(h:PG X e t)(i:∀v σ H Q,t' v σ H Q->t v σ H Q):PG X e t':=λpins s σ H v u Q I r q=>h pins s σ H v u Q I r<|i _ _ _ _ q
abbrev jB (i:Nat):Tg:=λa τ S=>.ok (τ.set i a) S
def i9{i:Nat}{x:Str}(hN:X.N.Nodup)(hi:X.N[i]?=some x:=by rfl)(hx:Loc X.env.scope x:=by first|exact Or.inl rfl|exact Or.inr rfl)(hf:X.fn x=true\/X.env.scope.names.lookup x=some .local:=by first|exact .inl rfl|exact .inr rfl|assumption):AG X (.Name x pos) (jB i):=
 PG.imp (O1 hN hi hx hf) λv σ H Q ⟨ρ,S,τ,a,R,r,va,h⟩=>h ρ H _ .refl R<|r.set va
abbrev Ba:M6:=λas τ S=>match as with
 | []=>.ok τ S
 | _=>.no
abbrev rR (g:Tg)(gs:M6):M6:=λas τ S=>match as with
 | a::as=>(g a τ S).bind λτ1 S1=>gs as τ1 S1
 | []=>.no
def nu:V9 X [] Ba:=λpins s σ H vs us Q I r ⟨ρ,S,τ,as,R,sr,va,h⟩=>NU pins s σ H vs us Q I r (by
 cases va with
 | nil=>exact⟨rfl,h ρ H σ .refl R sr⟩
 | cons _ _=>exact h.elim)
def jl{g:Tg}{gs:M6}(h1:AG X e g)(h2:V9 X es gs)(hs:(assignEach (e::es) X.env).map (·.2)=assign e X.env::(assignEach es X.env).map (·.2):=by rfl):V9 X (e::es) (rR g gs):=
 λpins s σ H vs us Q I r ⟨ρ,S,τ,as,R,sr,va,h⟩=>K9 h1 h2 hs pins s σ H vs us Q I r (by
  cases va with
  | nil=>exact h.elim
  | cons ha hr=>exact⟨_,_,rfl,ρ,S,τ,_,R,sr,ha,iF (iL h) .refl λτ1 S1 h1 ρ1 H1 σ1 e1 R1 sr1=>⟨ρ1,S1,τ1,_,R1,sr1,hr.ext e1,iF h1 e1 λ_ _ z=>z.ext e1⟩⟩)
abbrev AJ (n:Nat)(gs:M6):Tg:=λa τ S=>match a with
 | .tup xs | .ktu xs=>gd (xs.length=n) (gs xs τ S)
 | _=>.no
def qh{k n:Nat}{gs:M6}(hc:X.calm=true)(h:V9 X es gs)(hn:(assignEach es X.env).length=n:=by rfl)(hst:(assignEach es X.env).findIdx? (·.1)=none:=by rfl):AG X (.Tuple es k pos) (AJ n gs):=
 PG.imp (R0 hc h hn hst) λv σ H Q h9=>by
  obtain⟨ρ,S,τ,a,R,r,va,h⟩:=h9
  cases va with
  | tup h1 r1=>
   obtain⟨hl,h⟩:=iZ h;exact⟨_,_,rfl,lO.of h1,by rw[<- r1.length];exact hl,ρ,S,τ,_,R,r,r1,h⟩
  | ktu h1 r1=>
   obtain⟨hl,h⟩:=iZ h;exact⟨_,_,rfl,.inr h1,by rw[<- r1.length];exact hl,ρ,S,τ,_,R,r,r1,h⟩
  | _=>exact h.elim
abbrev BA (o i v:A)(S:iH):R Unit:=match o,i with
 | .ref n,.int k=>opt (iG S n) λxs=>opt (yI xs.length k) λj=>.ok Unit.unit (S.set n<|.lst<|xs.set j v)
 | _,_=>.no
abbrev Yb (X:Cx):B4:=λo i v H Q=>∃ρ S ao ai av,Rel X.K ρ H S/\AV X.K ρ H ao o/\AV X.K ρ H ai i/\AV X.K ρ H av v/\(BA ao ai av S).post (λ_ S'=>∀ρ' H',Ext ρ ρ' H H'->Rel X.K ρ' H' S'->Q H') (XE X ρ H)
def ES:Bw X (Yb X):=λpins s σ H o i v ov iv u Q I ro ri rv h9=>by
 obtain⟨ρ,S,ao,ai,av,R,h1,h2,h3,h⟩:=h9
 cases h1 with
 | @ref p n hp=>
  cases h2 with
  | int k=>
   kj_on;obtain⟨j,hj,h⟩:=iQ h;obtain⟨vs,e,r⟩:=R.lst hp<|iU hn;obtain⟨ex,R'⟩:=R.put hp (iU hn)<|r.set h3 j;exact set_list pins s σ H _ _ v ov iv u Q I ro ri rv ⟨p,vs,k,j,rfl,rfl,e,by rw[<- r.length];exact hj,h _ _ ex R'⟩
  | _=>exact h.elim
 | _=>exact h.elim
abbrev Q6 (co ci:Ex):Tg:=λa τ S=>(co τ S).bind λo S1=>(ci τ S1).bind λi S2=>(BA o i a S2).bind λ_ S3=>.ok τ S3
def wC{co ci:Ex}(ho:AE X o co)(hi:AE X i ci)
  (ha:∀v,assign (.Subscript o i pos) X.env v=(do
   let ov <- holding [v] (eval o X.env)
   let iv <- holding [v,ov] (eval i X.env)
   standAt pos
   holding [v,ov,iv] (setItem ov iv v)
   release [v,ov,iv] []):=by intro _;rfl):AG X (.Subscript o i pos) (Q6 co ci):=PG.imp (CM ho hi ES ha) λv σ H Q h9=>by
 obtain⟨ρ,S,τ,a,R,r,va,h⟩:=h9;gp_on;kcf_m;cb_eq
abbrev mQ:Sm:=λτ S=>.nx τ S
abbrev jd (c d:Sm):Sm:=λτ S=>match c τ S with
 | .nx τ' S'=>d τ' S'
 | r=>r
def ju:Nm X [] mQ:=Av.imp OC λD σ H ⟨ρ,S,τ,R,r,h⟩=>h ρ H σ .refl R r
def Om{D:Ends}{H:Hp}(h:tS X (jd c d) D σ H):U_ (tS X c) (tS X d) D σ H:=by
 kst_p;refine⟨ρ,S,τ,R,r,?_⟩;unfold jd at h
 cases hc:c τ S with
 | nx τ1 S1=>
  rw[hc]at h;exact λρ1 H1 σ1 e1 R1 r1=>⟨ρ1,S1,τ1,R1,r1,zc.ext h e1⟩
 | rt a S1=>rw[hc]at h;exact h
 | bk τ1 S1=>rw[hc]at h;exact h
 | ct τ1 S1=>rw[hc]at h;exact h
 | ex x S1=>rw[hc]at h;exact h
 | no=>rw[hc]at h;exact h
def iK(h1:AS X st c)(h2:Nm X rest d):Nm X (st::rest) (jd c d):=Av.imp (Lz h1 h2) λD σ H h=>Om h
def iM(h1:AS X st c):Nm X [st] c:=N2 h1
abbrev Sy:Sm:=λτ S=>.bk τ S
abbrev Uh:Sm:=λτ S=>.ct τ S
abbrev u7 (e:Ex):Sm:=λτ S=>.of (e τ S) λ_ S1=>.nx τ S1
def rB{f:Ex}(he:AE X e f)(hs:swapsWith e none pos.line X.env=pure false:=by rfl):AS X (.Expr e pos) (u7 f):=PS.imp (O8 he hs) λD σ H ⟨ρ,S,τ,R,r,h⟩=>
 ⟨ρ,S,τ,R,r,iF (of_post h) .refl λa S1 h1 ρ1 H1 x e1 R1 v1=>h1 ρ1 H1 σ e1 R1<|r.ext e1⟩
abbrev jF (e:Ex):Sm:=λτ S=>.of (e τ S) λa S1=>.rt a S1
def ja{f:Ex}(he:AE X e f):AS X (.Return (some e) pos) (jF f):=PS.imp (Q_ he) λD σ H ⟨ρ,S,τ,R,r,h⟩=>⟨ρ,S,τ,R,r,iF (of_post h) .refl λa S1 h1=>h1⟩
abbrev Lq:Sm:=λτ S=>.rt .non S
def Oz:AS X (.Return none pos) Lq:=PS.imp Oj λD σ H ⟨ρ,S,τ,R,r,h⟩=>h ρ H _ .refl R .non
abbrev t7 (t:Te)(c d:Sm):Sm:=λτ S=>.of (t τ S) λb S1=>match b with|true=>c τ S1|false=>d τ S1
def kH{t:Te}(ht:AT X e t)(ha:Nm X ca c)(hb:Nm X cb d):AS X (.If e ca cb pos) (t7 t c d):=PS.imp (Ud ht ha hb) λD σ H h9=>by
 z_go;refine⟨ρ,S,τ,R,r,iF (of_post h) .refl λb S1 h1 ρ1 H1 e1 R1=>?_⟩
 cases b with
 | true=>rw[aL rfl];exact⟨ρ1,S1,τ,R1,r.ext e1,zc.ext h1 e1⟩
 | false=>rw[aJ bH];exact⟨ρ1,S1,τ,R1,r.ext e1,zc.ext h1 e1⟩
abbrev jm (e:Ex)(g:Tg):Sm:=λτ S=>.of (e τ S) λa S1=>.of (g a τ S1) λτ' S2=>.nx τ' S2
def O9{f:Ex}{g:Tg}{D:Ends}{H:Hp}(h:tS X (jm f g) D σ H):Q9 (tE X f) (tG X g) D σ H:=by
 kst_p;exact⟨ρ,S,τ,R,r,iF (of_post h) .refl λa S1 h1 ρ1 H1 x e1 R1 v1=>⟨ρ1,S1,τ,a,R1,r.ext e1,v1,iF (of_post h1) e1 λτ2 S2 h2=>EJ.ext h2 e1⟩⟩
def nI{tg:aE}{f:Ex}{g:Tg}(he:AE X e f)(hg:AG X tg g)(hs:swapsWithSole [tg] e pos.line X.env=pure false:=by rfl)(hw:swappedStores [tg] e X.env=pure none:=by rfl)
  (h1:(assignEach [tg] X.env).map (·.2)=[assign tg X.env]:=by rfl):AS X (.Assign [tg] e pos) (jm f g):=PS.imp (Sf he hg hs hw h1) λD σ H h=>O9 h
def jf{i:Nat}{x:Str}{f:Ex}(hN:X.N.Nodup)(he:AE X e f)(hi:X.N[i]?=some x:=by rfl)(hx:Loc X.env.scope x:=by first|exact Or.inl rfl|exact Or.inr rfl)(hs:swapsWith e (some<|.Name x pos') pos.line X.env=pure false:=by rfl)(hf:X.fn x=true\/X.env.scope.names.lookup x=some .local:=by first|exact .inl rfl|exact .inr rfl|assumption) :
  AS X (.Assign [.Name x pos'] e pos) (jm f<|jB i):=PS.imp (Q7 hN hi hx he hs hf) λD σ H ⟨ρ,S,τ,R,r,h⟩=>
 ⟨ρ,S,τ,R,r,iF (of_post h) .refl λa S1 h1 ρ1 H1 x e1 R1 v1=>h1 ρ1 H1 _ e1 R1<|(r.ext e1).set v1⟩
abbrev WA (i j:Nat)(c:pZ):Sm:=λτ S=>.of (c τ S) λas S1=>match as with
 | [a,b]=>.nx ((τ.set i a).set j b) S1
 | _=>.no
abbrev ip (X:Cx)(f:A->A->iH->R A):RA:=λx y H Q=>∃ρ S a b,Rel X.K ρ H S/\AV X.K ρ H a x/\AV X.K ρ H b y/\(f a b S).post (vn X ρ H Q) (XE X ρ H)
abbrev Hu (a b:A)(S:iH):R A:=match a,b with
 | .int i,.int j=>.ok (.int<|i+j) S
 | _,_=>.no
def Fb:Pp X .Add (ip X Hu):=λpins s σ H x y v u Q I r1 r2 h9=>by
 x_go
 cases va with
 | int i=>
  cases vb with
  | int j=>exact TJ pins s σ H _ _ v u Q I r1 r2 ⟨i,j,rfl,rfl,h _ _ _ .refl R<|.int _⟩
  | _=>exact h.elim
 | _=>exact h.elim
def Nt:Pp X .Sub (ip X aSub):=λpins s σ H x y v u Q I r1 r2 h9=>by
 x_go
 cases va with
 | int i=>
  cases vb with
  | int j=>exact SI pins s σ H _ _ v u Q I r1 r2 ⟨i,j,rfl,rfl,h _ _ _ .refl R<|.int _⟩
  | _=>exact h.elim
 | _=>exact h.elim
abbrev MI (i:Nat)(f:A->A->iH->R A)(e:Ex):Sm:=λτ S=>if (τ.getD i .unb).mZ then .no else .of (e τ S) λb S1=>.of (f (τ.getD i .unb) b S1) λc S2=>.nx (τ.set i c) S2
def RX{i:Nat}{x:Str}{c:Ex}{f:A->A->iH->R A}(hN:X.N.Nodup)(he:AE X e c)(ho:Pp X op<|ip X f)(hi:X.N[i]?=some x:=by rfl)(hx:Loc X.env.scope x:=by first|exact Or.inl rfl|exact Or.inr rfl)(hf:X.fn x=true\/X.env.scope.names.lookup x=some .local:=by first|exact .inl rfl|exact .inr rfl|assumption) :
  AS X (.AugAssign (.Name x pos') op e pos) (MI i f c):=PS.imp (QV hN hi hx he ho hf) λD σ H h9=>by
 z_go;have key:∀x,τ[i]?=some x->x.mZ=false->(RS.of (c τ S) λb S1=>.of (f x b S1) λc S2=>.nx (τ.set i c) S2).post (EJ X ρ H D.nx) (vn X ρ H D.rt) (EJ X ρ H D.bk) (EJ X ρ H D.ct) (XE X ρ H) ->
   ∃x,σ[i]?=some (some x)/\tE X c σ H λy H1=>ip X f x y H1 λz H2=>D.nx (σ.set i<|some z) H2:=by
  intro x hi hx h
  rcases r.at i x hi with z|⟨v,e,q⟩
  ·subst z;cases hx
  ·refine⟨v,e,ρ,S,τ,R,r,iF (of_post h) .refl λb S1 h1 ρ1 H1 y e1 R1 v1=>⟨ρ1,S1,x,b,R1,q.ext e1,v1,iF (of_post h1) e1 λw S2 h2 ρ2 H2 z e2 R2 v2=>?_⟩⟩;exact h2 ρ2 H2 _ (e1.trans e2) R2<|(r.ext<|e1.trans e2).set v2
 unfold MI zc at h;rw[aI]at h
 cases hi:τ[i]? with
 | none=>rw[hi]at h;exact h.elim
 | some x=>
  rw[hi]at h
  cases hx:x.mZ with
  | true=>rw[show(some x).getD .unb=x from rfl,hx]at h;exact h.elim
  | false=>rw[show(some x).getD .unb=x from rfl,hx]at h;exact key x hi hx h
abbrev MU (a b:A)(S:iH):R A:=match a,b with
 | .ref n,.int i=>opt (iG S n) λxs=>gd (0<=i) (opt (xs[i.toNat]?) λx=>.ok x S)
 | _,_=>.no
def NN:Sq X (r2 X MU):=λpins s σ H o i ov iv Q I ro ri h9=>by
 x_go
 cases va with
 | @ref p n hp=>
  cases vb with
  | int k=>
   kj_on;obtain⟨h0,h⟩:=iZ h;obtain⟨x,hx,h⟩:=iQ h;obtain⟨vs,h1,r1⟩:=R.lst hp<|iU hn;obtain⟨z,e,q⟩:=r1.get hx;exact IK pins s σ H _ _ ov iv Q I ro ri ⟨p,vs,k,z,rfl,rfl,ny.of h1,h0,e,h _ _ _ .refl R q⟩
  | _=>exact h.elim
 | _=>exact h.elim
abbrev wW (co ci ce:Ex)(f:A->A->iH->R A):Sm:=λτ S=>.of (co τ S) λo S1=>.of (ci τ S1) λi S2=>.of (MU o i S2) λx S3=>.of (ce τ S3) λy S4=>.of (f x y S4) λz S5=>.of (BA o i z S5) λ_ S6=>.nx τ S6
def F9{co ci ce:Ex}{f:A->A->iH->R A}(ho:AE X o co)(hi:AE X i ci)(he:AE X e ce)(hp:Pp X op<|ip X f)
  (ha:∀ov iv new,augStore i ov iv new=(do holding [new,ov,iv] (setItem ov iv new);release [new,ov,iv] [];pure .next):=by intros;rfl):AS X (.AugAssign (.Subscript o i tpos) op e pos) (wW co ci ce f):=
 PS.imp (Ov ho hi NN he hp ES ha) λD σ H h9=>by
  z_go;refine⟨ρ,S,τ,R,r,iF (of_post h) .refl λao S1 h1 ρ1 H1 vo e1 R1 v1=>⟨ρ1,S1,τ,R1,r.ext e1,iF (of_post h1) e1 λai S2 h2 ρ2 H2 vi e2 R2 v2=>?_⟩⟩;refine⟨ρ2,S2,ao,ai,R2,v1.ext e2,v2,iF (of_post h2) (e1.trans e2) λax S3 h3 ρ3 H3 vx e3 R3 v3=>?_⟩;have e13:=(e1.trans e2).trans e3;refine⟨ρ3,S3,τ,R3,r.ext e13,iF (of_post h3) e13 λay S4 h4 ρ4 H4 vy e4 R4 v4=>?_⟩;refine⟨ρ4,S4,ax,ay,R4,v3.ext e4,v4,iF (of_post h4) (e13.trans e4) λaz S5 h5 ρ5 H5 vz e5 R5 v5=>?_⟩;have e35:=(e3.trans e4).trans e5;refine⟨ρ5,S5,ao,ai,az,R5,v1.ext<|e2.trans e35,v2.ext e35,v5,iF (of_post h5) ((e13.trans e4).trans e5) λ_ S6 h6 ρ6 H6 e6 R6=>?_⟩;have e16:=((e13.trans e4).trans e5).trans e6;exact h6 ρ6 H6 σ e16 R6<|r.ext e16
abbrev lA (t:Te)(c:Sm):Nat->Sm
 | 0=>λ_ _=>.no
 | n+1=>λτ S=>.of (t τ S) λb S1=>match b with
  | false=>.nx τ S1
  | true=>match c τ S1 with
   | .nx τ' S'=>lA t c n τ' S'
   | .ct τ' S'=>lA t c n τ' S'
   | .bk τ' S'=>.nx τ' S'
   | r=>r
def BQ(n:Nat){t:Te}(hp:PassesOwn (model X.prog X.w) X.A X.env X.xe)(ht:AT X e t)(hb:Nm X body c):AS X (.While e body [] pos) (lA t c n):=PS.imp (LC hp ht hb) λD σ H h9=>by
 z_go;refine⟨λm σ' H'=>∃ρ' S' τ',Ext ρ ρ' H H'/\Rel X.K ρ' H' S'/\SR X.K ρ' H' τ' σ'/\zc X ρ' H' D (lA t c m τ' S'),⟨n,ρ,S,τ,.refl,R,r,h⟩,?_⟩;rintro m σ1 H1 ⟨ρ1,S1,τ1,e1,R1,r1,h1⟩
 cases m with
 | zero=>exact h1.elim
 | succ m=>
  refine⟨ρ1,S1,τ1,R1,r1,iF (of_post h1) .refl λb S2 h2 ρ2 H2 e2 R2=>?_⟩
  cases b with
  | false=>rw[aJ bH];exact h2 ρ2 H2 σ1 e2 R2 (r1.ext e2)
  | true=>
   rw[aL rfl];refine⟨λσ' H'=>∃ρ' S' τ',Ext ρ ρ' H H'/\Rel X.K ρ' H' S'/\SR X.K ρ' H' τ' σ'/\zc X ρ' H' D (lA t c m τ' S'),λσ' H' z=>⟨m,cO _,z⟩,ρ2,S2,τ1,R2,r1.ext e2,?_⟩;have h2:zc X ρ1 H1 D (match c τ1 S2 with
    | .nx τ' S'=>lA t c m τ' S'
    | .ct τ' S'=>lA t c m τ' S'
    | .bk τ' S'=>.nx τ' S'
    | r=>r):=h2
   cases hc:c τ1 S2 with
   | nx τ3 S3=>rw[hc]at h2;exact λρ3 H3 σ3 e3 R3 r3=>⟨ρ3,S3,τ3,(e1.trans e2).trans e3,R3,r3,zc.ext h2<|e2.trans e3⟩
   | ct τ3 S3=>rw[hc]at h2;exact λρ3 H3 σ3 e3 R3 r3=>⟨ρ3,S3,τ3,(e1.trans e2).trans e3,R3,r3,zc.ext h2<|e2.trans e3⟩
   | bk τ3 S3=>rw[hc]at h2;exact EJ.ext h2 e2
   | rt a S3=>rw[hc]at h2;exact vn.ext h2 e2
   | ex x S3=>rw[hc]at h2;exact XE.ext h2 e2
   | no=>rw[hc]at h2;exact h2
end
structure Src where
 k:Nat
 get:Nat->iH->Option A
 fin:iH->Bool
structure JR (K:au)(s:Src)(J:It)(ρ0:ba)(H0:Hp):Prop where
 go:∀(i:Nat) (S:iH) (H:Hp) (ρ:ba) (x:A),Ext0 ρ0 ρ H0 H->Rel K ρ H S->s.get i S=some x->J.go i H/\∀v H',J.yld i H v H'->Ext ρ ρ H H'/\Rel K ρ H' S/\AV K ρ H' x v
 stop:∀(S:iH) (H:Hp) (ρ:ba),Ext0 ρ0 ρ H0 H->Rel K ρ H S->s.fin S=true->J.stop s.k H
meta abbrev Ic:=ad->iH->R Src
abbrev tI (X:Cx)(c:Ic):TI:=λσ H Q=>∃ρ S τ,Rel X.K ρ H S/\SR X.K ρ H τ σ/\(c τ S).post (λs S'=>∀ρ' H' J,Ext ρ ρ' H H'->Rel X.K ρ' H' S'->JR X.K s J ρ' H'->Q J H') (XE X ρ H)
abbrev AI (X:Cx)(tg iter:aE)(c:Ic):Prop:=PI X tg iter<|tI X c
abbrev p5 (xs:ad):Src:=⟨xs.length,λi _=>xs[i]?,λ_=>true⟩
abbrev nL (n k:Nat):Src:=⟨k,λi S=>(iG S n).bind (·[i]?),λS=>match iG S n with
 | some ys=>decide (ys.length<=k)
 | none=>false⟩
abbrev jX (lo hi:Int):Src:=⟨(hi-lo).toNat,λi _=>if i<(hi-lo).toNat then some (.int<|lo+i)else none,λ_=>true⟩
abbrev oN (c:Ex):Ic:=λτ S=>(c τ S).bind λa S1=>match a with
 | .tup xs=>.ok (p5 xs) S1
 | .frz xs=>.ok (p5 xs) S1
 | .ref n=>opt (iG S1 n) λxs=>.ok (nL n xs.length) S1
 | .str x=>gd (x.cps.all (· < 128)=true) (.ok (p5<|x.cps.toList.map λc=>.str ⟨#[c]⟩) S1)
 | _=>.no
section
variable {X:Cx}{pos:Pos}{tg e a b:aE}
def Sv{K:au}{H0:Hp}{p:ak}(h:lO K H0 p vs)(r:AVs K ρ0 H0 xs vs):JR K (p5 xs) (Xb K p) ρ0 H0 where
 go:=λi S H ρ x e R g=>by
  obtain⟨v,ev,av⟩:=(AVs.j7 e r).get g;have hs:=e.VU h;refine⟨⟨vs,v,hs,ev⟩,λw H' ⟨e1,y⟩=>?_⟩;subst e1;have:=y vs hs;rw[ev]at this
  cases this
  exact⟨.refl,R,av⟩
 stop:=λS H ρ e R _=>⟨vs,e.VU h,by rw[<- r.length];exact aQ _⟩
def QW{K:au}{H0:Hp}{p:ak}(h:Fz K H0 p vs)(r:AVs K ρ0 H0 xs vs):JR K (p5 xs) (VR K p) ρ0 H0 where
 go:=λi S H ρ x e R g=>by
  obtain⟨v,ev,av⟩:=(AVs.j7 e r).get g;have hs:=(e.fz h).M5;refine⟨⟨vs,v,hs,ev⟩,λw H' ⟨e1,y⟩=>?_⟩;subst e1;have:=y vs hs;rw[ev]at this
  cases this
  exact⟨.refl,R,av⟩
 stop:=λS H ρ e R _=>⟨vs,(e.fz h).M5,by rw[<- r.length];exact aQ _⟩
def Rz{K:au}{ρ0:ba}{H0:Hp}{p:ak}{n k:Nat}(h:ρ0[n]?=some p):JR K (nL n k) (VR K p) ρ0 H0 where
 go:=λi S H ρ x e R g=>by
  obtain⟨ys,hn,hx⟩:=cJ.mp<|show(iG S n).bind (·[i]?)=some x from g;obtain⟨vs,h1,r⟩:=R.lst (e.get h)<|iU hn;obtain⟨v,ev,av⟩:=r.get hx;refine⟨⟨vs,v,ny.of h1,ev⟩,λw H' ⟨e1,y⟩=>?_⟩;subst e1;have:=y vs<|ny.of h1;rw[ev]at this
  cases this
  exact⟨.refl,R,av⟩
 stop:=λS H ρ e R g=>by
  have g:(match iG S n with
   | some ys=>decide (ys.length<=k)
   | none=>false)=true:=g
  cases hn:iG S n with
  | none=>rw[hn]at g;cases g
  | some ys=>
   rw[hn]at g;obtain⟨vs,h1,r⟩:=R.lst (e.get h)<|iU hn;exact⟨vs,ny.of h1,by rw[<- r.length];exact cB g⟩
def Ji{K:au}{H0:Hp}{lo hi:Int}:JR K (jX lo hi) (Vb lo (hi-lo).toNat) ρ0 H0 where
 go:=λi S H ρ x e R g=>by
  have g:(if i<(hi-lo).toNat then some (A.int<|lo+i)else none)=some x:=g;by_cases hi':i<(hi-lo).toNat
  ·rw[aL hi']at g
   cases g
   refine⟨hi',λw H' ⟨e1,y⟩=>?_⟩;subst e1 y;exact⟨.refl,R,.int _⟩
  ·rw[aJ hi']at g;cases g
 stop:=λS H ρ e R _=>aQ _
def RW{K:au}{H0:Hp}{x:Str}:JR K (p5<|x.cps.toList.map λc=>A.str ⟨#[c]⟩) (Wx x) ρ0 H0 where
 go:=λi S H ρ y e R g=>by
  have g:(x.cps.toList.map λc=>A.str ⟨#[c]⟩)[i]?=some y:=g;rw[bh]at g;obtain⟨c,hc,rfl⟩:=bu.mp g;rw[e_]at hc;refine⟨(Array.getElem?_eq_some_iff.mp hc).1,λw H' ⟨e1,c',hc',y'⟩=>?_⟩;rw[hc]at hc'
  cases hc'
  subst e1 y';exact⟨.refl,R,.str _⟩
 stop:=λS H ρ e R _=>by
  show(x.cps.toList.map λc=>A.str ⟨#[c]⟩).length=x.cps.size;rw[aK,cD]
def qz{c:Ex}(he:AE X e c):AI X tg e (oN c):=λpins s σ H Q I h9=>by
 z_go;have hb:=iL h
 cases hc:c τ S with
 | no=>rw[hc]at hb;exact hb.elim
 | ex x S1=>
  rw[hc]at hb;exact K8 he pins s σ H Q I ⟨ρ,S,τ,R,r,by rw[hc];exact hb⟩
 | ok a S1=>
  rw[hc]at hb
  cases a with
  | tup xs=>
   refine K8 he pins s σ H Q I ⟨ρ,S,τ,R,r,?_⟩;rw[hc];intro ρ1 H1 x e1 R1 v1
   cases v1 with
   | tup h1 r1=>exact⟨_,rfl,⟨_,(lO.of h1)⟩,hb ρ1 H1 _ e1 R1<|Sv (lO.of h1) r1⟩
  | frz xs=>
   refine Em he pins s σ H Q I ⟨ρ,S,τ,R,r,?_⟩;rw[hc];intro ρ1 H1 x e1 R1 v1
   cases v1 with
   | frz h1 r1=>exact⟨_,rfl,⟨_,h1.M5⟩,hb ρ1 H1 _ e1 R1<|QW h1 r1⟩
  | ref n=>
   obtain⟨xs,hn,hb⟩:=iQ hb;refine Em he pins s σ H Q I ⟨ρ,S,τ,R,r,?_⟩;rw[hc];intro ρ1 H1 x e1 R1 v1
   cases v1 with
   | ref hp=>
    obtain⟨vs,h1,r1⟩:=R1.lst hp<|iU hn;exact⟨_,rfl,⟨_,ny.of h1⟩,hb ρ1 H1 _ e1 R1<|Rz hp⟩
  | str x=>
   obtain⟨ha,hb⟩:=iZ hb;refine SK he pins s σ H Q I ⟨ρ,S,τ,R,r,?_⟩;rw[hc];intro ρ1 H1 v e1 R1 v1
   cases v1 with
   | str=>exact⟨x,rfl,ha,hb ρ1 H1 _ e1 R1 RW⟩
  | _=>exact hb.elim
abbrev bnd (i:Int):Prop:=-(2 ^ 62)<=i/\i<2 ^ 62
instance (i:Int):Decidable (bnd i):=by unfold bnd;infer_instance
abbrev qR (c:Ex):Ic:=λτ S=>(c τ S).bind λa S1=>match a with
 | .int j=>gd (bnd j) (.ok (jX 0 j) S1)
 | _=>.no
abbrev pU (c d:Ex):Ic:=λτ S=>(c τ S).bind λa S1=>(d τ S1).bind λb S2=>match a,b with
 | .int i,.int j=>gd (bnd i/\bnd j) (.ok (jX i j) S2)
 | _,_=>.no
def nB{p:Pos}{c:Ex}(hm:X.mg "range" = none)(ha:AE X a c)(hg:Gl X "range" := by rfl)(hs:starEach [a] X.env=[(false,eval a X.env)]:=by rfl):AI X tg (.Call (.Name "range" p) [a] [] pos) (qR c):=λpins s σ H Q I h9=>by
 z_go;refine Hx hg hm (nj ha uy hs) hs pins s σ H Q I ⟨ρ,S,τ,R,r,iF (iL h) .refl λx S1 h1 ρ1 H1 v e1 R1 v1=>?_⟩
 cases v1 with
 | int j=>
  obtain⟨hb,h1⟩:=iZ h1;exact⟨_,rfl,hb.1,hb.2,by have:=h1 ρ1 H1 _ e1 R1 Ji;rwa [Int.sub_zero]at this⟩
 | _=>exact h1.elim
def rJ{p:Pos}{c d:Ex}(hm:X.mg "range" = none)(ha:AE X a c)(hb:AE X b d)(hg:Gl X "range" := by rfl)(hs:starEach [a,b] X.env=[(false,eval a X.env),(false,eval b X.env)]:=by rfl)(hs2:starEach [b] X.env=[(false,eval b X.env)]:=by rfl):AI X tg (.Call (.Name "range" p) [a,b] [] pos) (pU c d):=λpins s σ H Q I h9=>by
 z_go;refine Hr hg hm (nj ha (nj hb uy hs2)<|by rw[hs,hs2]) hs hs2 pins s σ H Q I ⟨ρ,S,τ,R,r,iF (iL h) .refl λx S1 h1 ρ1 H1 v e1 R1 v1=>⟨ρ1,S1,τ,R1,r.ext e1,iF (iL h1) e1 λy S2 h2 ρ2 H2 w e2 R2 v2=>?_⟩⟩
 cases v1 with
 | int i=>
  cases v2 with
  | int j=>
   obtain⟨hb,h2⟩:=iZ h2;exact⟨_,_,rfl,⟨hb.1.1,hb.1.2,hb.2.1,hb.2.2⟩,h2 ρ2 H2 _ (e1.trans e2) R2 Ji⟩
  | _=>exact h2.elim
 | _=>exact h2.elim
abbrev Cm (xs:ad):Src:=⟨xs.length,λi _=>(xs[i]?).map λx=>.tup [.int i,x],λ_=>true⟩
abbrev OD (c:Ex):Ic:=λτ S=>(c τ S).bind λa S1=>match a with
 | .tup xs=>.ok (Cm xs) S1
 | _=>.no
def SE{K:au}{H0:Hp}{p:ak}(h:lO K H0 p vs)(r:AVs K ρ0 H0 xs vs):JR K (Cm xs) (Xr K p) ρ0 H0 where
 go:=λi S H ρ x e R g=>by
  obtain⟨y,hy,rfl⟩:=bu.mp<|show(xs[i]?).map (λx=>A.tup [.int i,x])=some x from g;obtain⟨v,ev,av⟩:=(AVs.j7 e r).get hy;have hs:=e.VU h;refine⟨⟨vs,v,hs,ev⟩,λw H' q=>?_⟩;obtain⟨pp,hp,rfl,hz⟩:=q;have hz':=hz vs v hs ev;subst hz';obtain⟨ex,R'⟩:=R.im (u:=.tup [.int i,v]) hp;exact⟨ex,R',.tup jy<|.cons (.int _)<|.cons (av.ext ex) .nil⟩
 stop:=λS H ρ e R _=>⟨vs,e.VU h,by rw[<- r.length];rfl⟩
def RC{p:Pos}{c:Ex}(hm:X.mg "enumerate" = none)(ha:AE X a c)(hg:Gl X "enumerate" := by rfl)(hs:starEach [a] X.env=[(false,eval a X.env)]:=by rfl):AI X (.Tuple elts x1 tpos) (.Call (.Name "enumerate" p) [a] [] pos) (OD c):=λpins s σ H Q I h9=>by
 z_go;refine Jc hg hm (nj ha uy hs) hs pins s σ H Q I ⟨ρ,S,τ,R,r,iF (iL h) .refl λx S1 h1 ρ1 H1 v e1 R1 v1=>?_⟩
 cases v1 with
 | tup h2 r2=>exact⟨_,_,rfl,(lO.of h2),h1 ρ1 H1 _ e1 R1<|SE (lO.of h2) r2⟩
 | _=>exact h1.elim
abbrev nZ (s:Src)(g:Tg)(c:Sm):Nat->Nat->Sm
 | 0,_=>λτ S=>if s.fin S then .nx τ S else .no
 | k+1,i=>λτ S=>match s.get i S with
  | none=>.no
  | some x=>.of (g x τ S) λτ1 S1=>match c τ1 S1 with
   | .nx τ' S'=>nZ s g c k (i+1) τ' S'
   | .ct τ' S'=>nZ s g c k (i+1) τ' S'
   | .bk τ' S'=>.nx τ' S'
   | r=>r
abbrev mh (src:Ic)(g:Tg)(c:Sm):Sm:=λτ S=>.of (src τ S) λs S1=>nZ s g c s.k 0 τ S1
def m5{iter:aE}{src:Ic}{g:Tg}{c:Sm}(hp:PassesOwn (model X.prog X.w) X.A X.env X.xe)(hc:X.calm=true)(hi:AI X tg iter src)(hg:AG X tg g)(hb:Nm X body c)
  (hs:∀x,foldedSetIterable iter X.env x=pure x:=by intro _;rfl):AS X (.For tg iter body [] pos) (mh src g c):=PS.imp (Q2 hp hc hi hg hb hs) λD σ H h9=>by
 z_go;refine⟨ρ,S,τ,R,r,iF (of_post h) .refl λs S1 h1 ρ1 H1 J e1 R1 jr=>?_⟩;refine⟨λi m σ' H'=>m+i=s.k/\∃ρ' S' τ',Ext ρ1 ρ' H1 H'/\Rel X.K ρ' H' S'/\SR X.K ρ' H' τ' σ'/\zc X ρ' H' D (nZ s g c m i τ' S'),⟨s.k,rfl,ρ1,S1,τ,.refl,R1,r.ext e1,zc.ext h1 e1⟩,?_⟩;rintro i m σ2 H2 ⟨hm,ρ2,S2,τ2,e2,R2,r2,h2⟩
 cases m with
 | zero=>
  left;have h2:zc X ρ2 H2 D (if s.fin S2 then .nx τ2 S2 else .no):=h2
  cases hf:s.fin S2 with
  | false=>rw[hf]at h2;exact h2.elim
  | true=>
   rw[hf]at h2;refine⟨by rw[show i=s.k by lia];exact jr.stop S2 H2 ρ2 e2.toExt0 R2 hf,h2 ρ2 H2 σ2 .refl R2 r2⟩
 | succ m=>
  right;have h2:zc X ρ2 H2 D (match s.get i S2 with
   | none=>.no
   | some x=>.of (g x τ2 S2) λτ1 S1=>match c τ1 S1 with
    | .nx τ' S'=>nZ s g c m (i+1) τ' S'
    | .ct τ' S'=>nZ s g c m (i+1) τ' S'
    | .bk τ' S'=>.nx τ' S'
    | r=>r):=h2
  cases hx:s.get i S2 with
  | none=>rw[hx]at h2;exact h2.elim
  | some x=>
   rw[hx]at h2;obtain⟨hgo,hy⟩:=jr.go i S2 H2 ρ2 x e2.toExt0 R2 hx;refine⟨hgo,λσ' H'=>m+(i+1)=s.k/\∃ρ' S' τ',Ext ρ1 ρ' H1 H'/\Rel X.K ρ' H' S'/\SR X.K ρ' H' τ' σ'/\zc X ρ' H' D (nZ s g c m (i+1) τ' S'),λσ' H' z=>⟨m,cO _,z⟩,λv H3 y=>?_⟩;obtain⟨e3,R3,v3⟩:=hy v H3 y;refine⟨ρ2,S2,τ2,x,R3,r2.ext e3,v3,iF (of_post h2) e3 λτ4 S4 h4 ρ4 H4 σ4 e4 R4 r4=>⟨ρ4,S4,τ4,R4,r4,?_⟩⟩;have e24:=e3.trans e4
   cases hcc:c τ4 S4 with
   | nx τ5 S5=>rw[hcc]at h4;exact λρ5 H5 σ5 e5 R5 r5=>⟨(),ρ5,S5,τ5,(e2.trans e24).trans e5,R5,r5,zc.ext h4<|e24.trans e5⟩
   | ct τ5 S5=>rw[hcc]at h4;exact λρ5 H5 σ5 e5 R5 r5=>⟨(),ρ5,S5,τ5,(e2.trans e24).trans e5,R5,r5,zc.ext h4<|e24.trans e5⟩
   | bk τ5 S5=>rw[hcc]at h4;exact EJ.ext h4 e24
   | rt x5 S5=>rw[hcc]at h4;exact vn.ext h4 e24
   | ex x5 S5=>rw[hcc]at h4;exact XE.ext h4 e24
   | no=>rw[hcc]at h4;exact h4
end
abbrev R.l6 {α β:Type}(r:R α)(f:α->iH->R β):R β:=match r with
 | .ok a S=>f a S
 | _=>.no
def jR{α β:Type}{r:R α}{f:α->iH->R β}{b:β}(h:r.l6 f=.ok b S2):∃a S,r=.ok a S/\f a S=.ok b S2:=by
 cases r with
 | ok a S=>exact⟨a,S,rfl,h⟩
 | ex _ _=>cases h
 | no=>cases h
def xN{α β:Type}{r:R α}{f:α->iH->R β}{P:β->iH->Prop}{E:Str->iH->Prop}(h:(r.l6 f).post P E):∃a S,r=.ok a S/\(f a S).post P E:=by
 cases r with
 | ok a S=>exact⟨a,S,rfl,h⟩
 | ex _ _=>exact h.elim
 | no=>exact h.elim
def Dl{α β:Type}{o:Option β}{f:β->R α}{a:α}(h:opt o f=.ok a S):∃b,o=some b/\f b=.ok a S:=by
 cases o with
 | none=>cases h
 | some b=>exact⟨b,rfl,h⟩
abbrev nO (s:Src)(g:Tg)(t:Te)(e:Ex):Nat->Nat->ad->iH->R (ad)
 | 0,_=>λ_ S=>if s.fin S then .ok [] S else .no
 | k+1,i=>λτ S=>opt (s.get i S) λx=>(g x τ S).l6 λτ1 S1=>(t τ1 S1).l6 λb S2=>match b with
  | true=>(e τ1 S2).l6 λy S3=>(nO s g t e k (i+1) τ1 S3).l6 λys S4=>.ok (y::ys) S4
  | false=>nO s g t e k (i+1) τ1 S2
abbrev l_ (cap:List<|bj)(τ:ad):ad:=cap.map λo=>match o with
 | some j=>τ.getD j .unb
 | none=>.unb
abbrev lV (cap:List<|bj)(src:Ic)(g:Tg)(t:Te)(e:Ex):Ex:=λτ S=>(src τ S).bind λs S1=>(nO s g t e s.k 0 (l_ cap τ) S1).l6 λys S2=>newL ys S2
abbrev Ah:Te:=λ_ S=>.ok true S
def BX{s:Src}{g:Tg}{t:Te}{e:Ex}{k:Nat}{T:Prop}(h:nO s g t e (k+1) i τ S=.ok zs S')
  (q:∀x τ1 S1 b S2,s.get i S=some x->g x τ S=.ok τ1 S1->t τ1 S1=.ok b S2->(b=true->∃y S3 ws,e τ1 S2=.ok y S3/\nO s g t e k (i+1) τ1 S3=.ok ws S'/\zs=y::ws)->(b=false->nO s g t e k (i+1) τ1 S2=.ok zs S')->T):T:=by
 obtain⟨x,hx,h⟩:=Dl h;obtain⟨τ1,S1,h1,h⟩:=jR h;obtain⟨b,S2,h2,h⟩:=jR h;refine q x τ1 S1 b S2 hx h1 h2 (λhb=>?_) λhb=>?_
 ·subst hb;obtain⟨y,S3,h3,h⟩:=jR h;obtain⟨ws,S4,h4,h⟩:=jR h
  cases h
  exact⟨y,S3,ws,h3,h4,rfl⟩
 ·subst hb;exact h
structure Out (ρ1:ba)(H1:Hp)(D:ak)(accV:List V)(ρ:ba)(H:Hp):Prop where
 e0:Ext0 ρ1 ρ H1 H
 fr:∀a u,a≠D->H1 a=some u->a∉ρ1->H a=some u
 nw:∀a∈ρ,a∈ρ1\/H1 a=none
 nD:D∉ρ
 hD:H D=some (.lst accV)
def Out.stay{H1 H3 H7:Hp}{D:ak}(o:Out ρ1 H1 D accV ρ3 H3)(hD1:H1 D=none)(e7:Ext ρ3 ρ7 H3 H7):Out ρ1 H1 D accV ρ7 H7:=by
 refine⟨⟨o.e0.pre.trans e7.pre,λa u i h=>e7.im a u i<|o.e0.im a u i h⟩,λa u na hu nr=>e7.fr a u (o.fr a u na hu nr) λz=>(o.nw a z).elim nr λz=>by(rw[z]at hu;cases hu),λa ha=>?_,λz=>(e7.nw D z).elim o.nD λz=>by(rw[o.hD]at z;cases z),e7.fr D _ o.hD o.nD⟩;by_cases hr:a∈ρ1
 ·exact .inl hr
 ·right
  cases q:H1 a with
  | none=>rfl
  | some u=>
   have aD:a≠D:=iW q hD1
   rcases e7.nw a ha with z|z
   ·exact((o.nw a z).elim hr λz=>by(rw[z]at q;cases q)).elim
   ·rw[o.fr a u aD q hr]at z;cases z
def Out.put{H1 H:Hp}{D:ak}(o:Out ρ1 H1 D accV ρ H)(ex:Ext0 ρ ρ H<|upd H D<|.lst vs):Out ρ1 H1 D vs ρ (upd H D<|.lst vs):=
 ⟨⟨o.e0.pre,λa u i h=>ex.im a u i<|o.e0.im a u i h⟩,λa u na hu nr=>by rw[iR na];exact o.fr a u na hu nr,o.nw,o.nD,jy⟩
def Out.end{H1 H:Hp}{D:ak}(o:Out ρ1 H1 D accV ρ H)(hD:H1 D=none):Ext ρ1 (ρ++[D]) H1 H:=by
 refine⟨⟨o.e0.pre.trans<|eT _ _,o.e0.im⟩,λa u hu na=>o.fr a u (iW hu hD) hu na,λa ha=>?_⟩
 rcases bF.mp ha with z|z
 ·exact o.nw a z
 ·have:a=D:=by simpa using z
  rw[this];exact .inr hD
abbrev Cq (K:au)(ρ1:ba)(H1:Hp)(D:ak)(ys:ad)(k:Nat)(E:ba->Hp->Prop)(P:Nat->Nat->ad->iH->ad->Prop)(i m:Nat)(σ:L2.St)(H:Hp):Prop:=
 m+i=k/\∃ρ S τ acc zs accV,Out ρ1 H1 D accV ρ H/\E ρ H/\Rel K ρ H S/\SR K ρ H τ σ/\AVs K ρ H acc accV/\P m i τ S zs/\acc++zs=ys
section
variable {K:au}{ρ1 ρ:ba}{H1 H:Hp}{D:ak}{ys acc zs:ad}{accV:List V}{k i m:Nat}{E:ba->Hp->Prop}{P:Nat->Nat->ad->iH->ad->Prop}{σ:L2.St}{S:iH}{τ:ad}
def Cq.el{T:Prop}(h:Cq K ρ1 H1 D ys k E P i m σ H)(q:∀ρ S τ acc zs accV,m+i=k->Out ρ1 H1 D accV ρ H->E ρ H->Rel K ρ H S->SR K ρ H τ σ->AVs K ρ H acc accV->P m i τ S zs->acc++zs=ys->T):T:=by
 obtain⟨hm,ρ,S,τ,acc,zs,accV,h1,h2,h3,h4,h5,h6,h7⟩:=h;exact q ρ S τ acc zs accV hm h1 h2 h3 h4 h5 h6 h7
def Cq.of(hm:m+i=k)(o:Out ρ1 H1 D accV ρ H)(e:E ρ H)(R:Rel K ρ H S)(r:SR K ρ H τ σ)(v:AVs K ρ H acc accV)(p:P m i τ S zs)(q:acc++zs=ys):Cq K ρ1 H1 D ys k E P i m σ H:=⟨hm,ρ,S,τ,acc,zs,accV,o,e,R,r,v,p,q⟩
end
abbrev V8 (K:au)(c:Ex):TE:=λσ H Q=>∃ρ S τ a S',Rel K ρ H S/\SR K ρ H τ σ/\c τ S=.ok a S'/\∀ρ' H' v,Ext ρ ρ' H H'->Rel K ρ' H' S'->AV K ρ' H' a v->Q v H'
abbrev TX (K:au)(c:Te):TT:=λσ H Q=>∃ρ S τ a S',Rel K ρ H S/\SR K ρ H τ σ/\c τ S=.ok a S'/\∀ρ' H',Ext ρ ρ' H H'->Rel K ρ' H' S'->Q a H'
abbrev Vy (K:au)(g:Tg):TG:=λv σ H Q=>∃ρ S τ a τ' S',Rel K ρ H S/\SR K ρ H τ σ/\AV K ρ H a v/\g a τ S=.ok τ' S'/\∀ρ' H' σ',Ext ρ ρ' H H'->Rel K ρ' H' S'->SR K ρ' H' τ' σ'->Q σ' H'
section
variable {X:Cx}{pos:Pos}{tg iter elt e:aE}{ifs:List aE}{scope:Scope}{N:ap}{cap:List (bj)}{src:Ic}{g:Tg}{t:Te}{c:Ex}
def AE.e0{K:au}(hK:X.K=K)(h:AE X e c):PE X e (V8 K c):=PE.imp h λσ H Q ⟨ρ,S,τ,a,S',R,r,hc,q⟩=>⟨ρ,S,τ,by rw[hK];exact R,by rw[hK];exact r,by rw[hc];exact λρ' H' v e R' v'=>q ρ' H' v e (by rw[<- hK];exact R')<|by rw[<- hK];exact v'⟩
def AT.t0{K:au}(hK:X.K=K)(h:AT X e t):PT X e (TX K t):=PT.imp h λσ H Q ⟨ρ,S,τ,a,S',R,r,hc,q⟩=>⟨ρ,S,τ,by rw[hK];exact R,by rw[hK];exact r,by rw[hc];exact λρ' H' e R'=>q ρ' H' e<|by rw[<- hK];exact R'⟩
def AG.g0{K:au}(hK:X.K=K)(h:AG X e g):PG X e (Vy K g):=PG.imp h λv σ H Q ⟨ρ,S,τ,a,τ',S',R,r,va,hc,q⟩=>⟨ρ,S,τ,a,by rw[hK];exact R,by rw[hK];exact r,by rw[hK];exact va,by rw[hc];exact λρ' H' v e R' v'=>q ρ' H' v e (by rw[<- hK];exact R')<|by rw[<- hK];exact v'⟩
abbrev UJ (X:Cx)(ifs:List aE)(t:Te):Prop:=Ob X ifs<|TX X.K t
def zP:UJ X [] Ah:=λpins s σ H Q I ⟨ρ,S,τ,a,S',R,r,hc,q⟩=>Nj pins s σ H Q I<|by cases hc;exact q ρ H .refl R
def vq(h:AT X e t):UJ X [e] t:=Np<|h.t0 rfl
def Qa{K:au}{H:Hp}(r:SR K ρ H τ σ)(cap:List<|bj):SR K ρ H (l_ cap τ) (cap.map<|OF σ):=by
 refine⟨by simp[l_],λi a h=>?_⟩;unfold l_ at h;rw[bh]at h;obtain⟨o,ho,e⟩:=bu.mp h
 cases o with
 | none=>exact .inl e.symm
 | some j=>
  have e:τ.getD j .unb=a:=e
  cases hj:τ[j]? with
  | none=>rw[aI,hj]at e;exact .inl e.symm
  | some b=>
   rw[aI,hj]at e;have e:b=a:=e;subst e
   rcases r.at j b hj with z|⟨v,h1,h2⟩
   ·exact .inl z
   ·exact .inr ⟨v,by rw[bh,ho];show some ((σ[j]?).getD none)=_;rw[h1];rfl,h2⟩
def Rel.Ed{K:au}{H:Hp}{p:ak}(R:Rel K ρ H S)(hp:H p=none):p∉ρ:=λhm=>by
 obtain⟨n,hn,e⟩:=gF.mp hm;have hl:n<S.length:=by rw[<- R.len];exact hn
 have:=R.at n p S[n] (by rw[aG hn,e]) (aG hl)
 cases ho:S[n]with
 | lst xs=>rw[ho]at this;obtain⟨vs,h,_⟩:=this;rw[hp]at h;cases h
 | dct _|pD _|qo _=>rw[ho]at this;obtain⟨vs,h,_⟩:=this;rw[hp]at h;cases h
 | ins _ _=>rw[ho]at this;obtain⟨_,_,h⟩:=this;rw[hp]at h;cases h
def J4(σ:L2.St)(H:Hp)(Q:VK)(h:tE X (lV cap src g t c) σ H Q):V6 cap (tI X src) (Vy X.K g) (TX X.K t) (V8 X.K c) σ H Q:=by
 kst_p;refine⟨ρ,S,τ,R,r,iF (iL h) .refl λs S1 h1 ρ1 H1 J e1 R1 jr D hD=>?_⟩;obtain⟨ys,S2,hcg,h1⟩:=xN h1;obtain⟨hlen,h1⟩:=iZ h1;have h1:vn X ρ H Q (.ref S2.length) (S2++[.lst ys]):=h1;obtain⟨eD,RD⟩:=R1.im (u:=.lst []) hD;refine⟨Cq X.K ρ1 H1 D ys s.k (λ_ _=>True) λm i τ S zs=>nO s g t c m i τ S=.ok zs S2,⟨s.k,.of rfl ⟨eD.toExt0,λa u na hu _=>by rw[iR na];exact hu,λa ha=>.inl ha,R1.Ed hD,jy⟩ trivial RD (Qa ((r.ext e1).ext eD) cap) .nil hcg rfl⟩,?_⟩;intro i m σ3 H3 hw;refine hw.el λρ3 S3 τ3 acc zs accV hm o3 _ R3 r3 ac3 cg3 eys=>?_;clear hw
 cases m with
 | zero=>
  left;have cg3:(if s.fin S3 then Am.R.ok [] S3 else .no)=.ok zs S2:=cg3
  cases hf:s.fin S3 with
  | false=>rw[hf]at cg3;cases cg3
  | true=>
   rw[hf]at cg3
   cases cg3
   rw[cN]at eys;subst eys;refine⟨by rw[show i=s.k by lia];exact jr.stop _ H3 ρ3 o3.e0 R3 hf,?_⟩;obtain⟨RT,gt⟩:=R3.take o3.hD o3.nD ac3;exact h1 (ρ3++[D]) H3 _ (e1.trans<|o3.end hD) RT<|.ref gt
 | succ m=>
  right;refine BX cg3 λx τ4 S4 b S5 hx hg4 ht5 hT hF=>?_;have jg:=jr.go i S3 H3 ρ3 x o3.e0 R3 hx;refine⟨jg.1,λv H4 y=>?_⟩;obtain⟨e4,R4,v4⟩:=jg.2 v H4 y;refine⟨ρ3,S3,τ3,x,τ4,S4,R4,r3.ext e4,v4,hg4,λρ5 H5 σ5 e5 R5 r5=>⟨ρ5,S4,τ4,b,S5,R5,r5,ht5,λρ6 H6 e6 R6=>?_⟩⟩;have e36:=(e4.trans e5).trans e6
  cases b with
  | false=>
   dsimp only;rw[aJ bH];exact⟨m,cO _,.of () (o3.stay hD e36) trivial R6 (r5.ext e6) (ac3.ext e36) (hF rfl) eys⟩
  | true=>
   dsimp only;rw[aL rfl];obtain⟨y,S6,ws,he6,cg6,ezs⟩:=hT rfl;refine⟨ρ6,S5,τ4,y,S6,R6,r5.ext e6,he6,λρ7 H7 w e7 R7 v7=>?_⟩;have o7:=o3.stay hD<|e36.trans e7;obtain⟨ex8,R8⟩:=R7.out (ws:=accV++[w]) o7.hD o7.nD;have l1:=ac3.length;refine⟨accV,o7.hD,?_,m,cO _,.of () (o7.put ex8) trivial R8 ((r5.ext<|e6.trans e7).j7 ex8) (AVs.j7 ex8<|(ac3.ext<|e36.trans e7).append<|.one v7) cg6 ?_⟩
   ·have:(acc++zs).length<=sizeLine:=by rw[eys];exact hlen
    rw[ezs,aX,bz]at this
    lia
   ·rw[bG,<- eys,ezs];rfl
def sZ(hc:X.calm=true)(Sc:CpScope X scope N cap)(hi:AI X tg iter src)(hg:∀C s₀ H₀ ex,AG (jU X scope N C s₀ H₀ ex) tg g)(ht:∀C s₀ H₀ ex,UJ (jU X scope N C s₀ H₀ ex) ifs t)(he:∀C s₀ H₀ ex,AE (jU X scope N C s₀ H₀ ex) elt c)
  (hs:∀x,foldedSetIterable iter X.env x=pure x:=by intro _;rfl):AE X (.ListComp elt [⟨tg,iter,ifs,0⟩] scope pos) (lV cap src g t c):=
 PE.imp (Vu hc Sc hi (g:=Vy X.K g) (tc:=TX X.K t) (te:=V8 X.K c) (λC s₀ H₀ ex=>(hg C s₀ H₀ ex).g0 rfl) (λC s₀ H₀ ex=>ht C s₀ H₀ ex) (λC s₀ H₀ ex=>(he C s₀ H₀ ex).e0 rfl) hs) J4
end
abbrev A.lst? (S:iH):A->Option (ad)
 | .ref n=>iG S n
 | _=>none
abbrev UW (f:A->ad->iH->R A)(co:Ex)(d:pZ):Ex:=λτ S=>(co τ S).bind λo S1=>opt (o.lst? S1) λ_=>(d τ S1).bind λas S2=>f o as S2
abbrev Xe (f:A->ad->iH->R A)(co:Ex):Ex:=λτ S=>(co τ S).bind λo S1=>opt (o.lst? S1) λ_=>f o [] S1
abbrev rM (X:Cx)(f:A->ad->iH->R A):V->List V->Hp->VK->Prop:=λx vs H Q=>∃ρ S o as,Rel X.K ρ H S/\AV X.K ρ H o x/\AVs X.K ρ H as vs/\(f o as S).post (vn X ρ H Q) (XE X ρ H)
section
variable {X:Cx}{apos cpos:Pos}{o e:aE}{es:List aE}{name:Str}{id:String}{f:A->ad->iH->R A}{co:Ex}{d:pZ}
def lst?_ty{K:au}{H:Hp}{x:A}{v:V}(R:Rel K ρ H S)(h:AV K ρ H x v)(e:x.lst? S=some xs):VZ K "list" v H:=by
 cases h with
 | ref h=>
  obtain⟨vs,h1,_⟩:=R.lst h<|iU e;exact .inl ⟨rfl,vs,ny.of h1⟩
 | _=>cases e
def Ip(slot:Slot "list" name id)(hty:typeOf (.builtin id)=pure (.type "method_descriptor"))(hm:TV X id<|rM X f)(ho:AE X o co)(ha:AL X (e::es) d)
  (hbase:attributeBase o name X.env (eval o X.env)=eval o X.env:=by rfl)
  (hfew:((backTo cpos<|starEach (e::es) X.env).all (λx=>!x.1) && (backToKw cpos<|keywordEach [] X.env).all (λx=>x.1.isSome)
   && decide ((e::es).length+([]:List Keyword).length+(if ([]:List Keyword).isEmpty then 0 else 1)<30))=true:=by rfl)
  (hline:(apos.endLine == cpos.line)=true:=by rfl) (hs:starEach (e::es) X.env=(false,eval e X.env)::starEach es X.env:=by rfl) (hplain:(backTo cpos<|starEach es X.env).any (·.1)=false:=by rfl) :
  AE X (.Call (.Attribute o name apos) (e::es) [] cpos) (UW f co d):=PE.imp (PC PySem.F.plainAttrs_list slot hty hm ho ha hbase hfew hline hs hplain) λσ H Q h9=>by
 z_go;refine⟨ρ,S,τ,R,r,iF (iL h) .refl λx S1 h1 ρ1 H1 v e1 R1 v1=>?_⟩;obtain⟨xs,hx,h1⟩:=iQ h1;refine⟨lst?_ty R1 v1 hx,ρ1,S1,τ,R1,r.ext e1,iF (iL h1) e1 λas S2 h2 ρ2 H2 vs e2 R2 v2=>?_⟩;exact⟨ρ2,S2,x,as,R2,v1.ext e2,v2,iF h2 (e1.trans e2) λ_ _ z=>z.ext<|e1.trans e2⟩
abbrev vj (o:A)(as:ad)(S:iH):R A:=match o,as with
 | .ref n,[x]=>opt (iG S n) λxs=>gd (xs.length<sizeLine) (.ok .non<|S.set n<|.lst<|xs++[x])
 | _,_=>.no
def By:TV X "list.append" (rM X vj):=λpins s σ H x vs v us Q I rx rv h9=>by
 obtain⟨ρ,S,o,as,R,vo,va,h⟩:=h9
 cases vo with
 | @ref p n hp=>
  match as,va,h with
  | [],_,h=>exact h.elim
  | _::_::_,_,h=>exact h.elim
  | [y],va,h=>
   obtain⟨w,rfl,hw⟩:=OP va;kj_on;obtain⟨hl,h⟩:=iZ h;obtain⟨ws,h1,r⟩:=R.lst hp<|iU hn;obtain⟨ex,R'⟩:=R.put hp (iU hn)<|r.append<|.one hw;exact uM pins s σ H _ _ v us Q I rx rv ⟨p,ws,w,rfl,rfl,h1,by rw[<- r.length];exact hl,h _ _ _ ex R' .non⟩
 | _=>exact h.elim
abbrev Dw (o:A)(as:ad)(S:iH):R A:=match o,as with
 | .ref n,[.int i]=>opt (iG S n) λxs=>gd (-(2 ^ 63)<=i/\i<2 ^ 63) (opt (seqIndex? i xs.length) λk=>opt (xs[k]?) λx=>.ok x<|S.set n<|.lst<|xs.eraseIdx k)
 | _,_=>.no
def OM:TV X "list.pop" (rM X Dw):=λpins s σ H x vs v us Q I rx rv h9=>by
 obtain⟨ρ,S,o,as,R,vo,va,h⟩:=h9
 cases vo with
 | @ref p n hp=>
  match as,va,h with
  | [],_,h=>exact h.elim
  | y::_::_,_,h=>exact(by cases y<;>exact h.elim)
  | [y],va,h=>
   obtain⟨w,rfl,hw⟩:=OP va
   cases hw with
   | int i=>
    kj_on;obtain⟨hi,h⟩:=iZ h;obtain⟨k,hk,h⟩:=iQ h;obtain⟨y,hy,h⟩:=iQ h;obtain⟨ws,h1,r⟩:=R.lst hp<|iU hn;obtain⟨w,hw,vw⟩:=r.get hy;obtain⟨ex,R'⟩:=R.put hp (iU hn)<|r.eraseIdx k;exact Lg pins s σ H _ _ v us Q I rx rv ⟨p,ws,i,k,w,rfl,rfl,h1,hi.1,hi.2,by rw[<- r.length];exact hk,hw,h _ _ _ ex R'<|vw.ext ex⟩
   | _=>exact h.elim
 | _=>exact h.elim
end
abbrev jV (N:ap)(m:Sm)(as:ad)(S:iH):R A:=match m (as++List.replicate (N.length-as.length) .unb) S with
 | .rt a S'=>.ok a S'
 | .nx _ S'=>.ok .non S'
 | .ex c S'=>.ex c S'
 | _=>.no
abbrev pP (K:au)(n:Nat)(F:ad->iH->R A):Sp:=λvs H Q _=>vs.length=n/\∃ρ S as a S',Rel K ρ H S/\AVs K ρ H as vs/\F as S=.ok a S'/\∀ρ' H' v,Ext ρ ρ' H H'->Rel K ρ' H' S'->AV K ρ' H' a v->Q v H'
def OX{K:au}{H:Hp}{as:ad}(r:AVs K ρ H as vs)(N:ap):SR K ρ H (as++List.replicate (N.length-as.length) .unb) (L2.start N vs):=by
 have hl:=r.length;refine⟨by unfold L2.start;simp[hl],λi a h=>?_⟩;by_cases hi:i<as.length
 ·rw[bg hi]at h;obtain⟨v,hv,av⟩:=r.get h;exact .inr ⟨v,by unfold L2.start;rw[bg<|by simp;lia,bh,hv];rfl,av⟩
 ·rw[bY (),fU]at h;split at h
  ·exact .inl (aU h).symm
  ·cases h
section
variable {P:aj}{w:ah}{K:au}{mg:Str->bb}{base:aq}
def sU{x:Str}{st:aF}{f:ak}{N ps:ap}{k:Nat}{m:Sm}(F:Fun K x qual st f fd)(Sc:FnScope N ps<|iS st)
  (body:∀(cdv:af) (A:aA) (outer:List Env) (s:aC) (H:Hp) (E:XK),Room k (A.deeper<|envOfC qual (iS st) s.heap.objs.size f cdv)->Nm (CZ nW P w K mg base N qual (iS st) f cdv A outer s H E).U7 (nY st) m) :
  FnOk P w K mg base nW (k+1) f fd ps (pP K ps.length<|jV N m):=by
 refine F.ok Sc (λvs H Q E h=>h.1) λcdv B outer s H vs Q E hr ⟨hl,ρ,S,as,a,S',R,va,hF,q⟩=>⟨_,body cdv B outer s H E hr,ρ,S,_,R,OX va N,?_⟩;unfold jV at hF
 cases hm:m (as++List.replicate (N.length-as.length) .unb) S with
 | rt b S2=>rw[hm]at hF;cases hF;exact q
 | nx τ S2=>rw[hm]at hF;cases hF;exact λρ' H' σ' e R' _=>q ρ' H' _ e R' .non
 | bk τ S2=>rw[hm]at hF;cases hF
 | ct τ S2=>rw[hm]at hF;cases hF
 | ex c S2=>rw[hm]at hF;cases hF
 | no=>rw[hm]at hF;cases hF
end
meta abbrev nA (P:aj)(w:ah)(K:au)(mg:Str->bb)(base:aq)(k:Nat)(x:Str)(ps:ap)(F:ad->iH->R A):Prop:=Kn P w K mg base k x ps<|pP K ps.length F
abbrev eFn (F:ad->iH->R A)(d:pZ):Ex:=λτ S=>(d τ S).bind λas S1=>match F as S1 with
 | .ok a S2=>.ok a S2
 | _=>.no
section
variable {X:Cx}{pos p:Pos}{e:aE}{es:List aE}{x:Str}{ps:ap}{k:Nat}{F:ad->iH->R A}{d:pZ}
def oB(G:nA X.prog X.w X.K X.mg X.base k x ps F)(hr:Room k X.A)(ha:AL X (e::es) d)(hl:∀τ S as S',d τ S=.ok as S'->as.length=ps.length)(hg:Gl X x:=by rfl)(hdb:(x == ("__debug__" : Str))=false:=by decide)
  (hs:starEach (e::es) X.env=(false,eval e X.env)::starEach es X.env:=by rfl) (hplain:(backTo pos<|starEach es X.env).any (·.1)=false:=by rfl):AE X (.Call (.Name x p) (e::es) [] pos) (eFn F d):=
 PE.imp (Vc G hr ha hg hdb hs hplain) λσ H Q h9=>by
  z_go;refine⟨ρ,S,τ,R,r,?_⟩;have hb:=iL h
  cases hd:d τ S with
  | no=>rw[hd]at hb;exact hb
  | ex c S1=>rw[hd]at hb;exact hb
  | ok as S1=>
   rw[hd]at hb;intro ρ1 H1 vs e1 R1 v1;rw[cN];refine⟨by rw[<- v1.length];exact hl τ S as S1 hd,ρ1,S1,as,?_⟩;have hb:Am.R.post (match F as S1 with
    | .ok a S2=>.ok a S2
    | _=>.no) (vn X ρ H Q) (XE X ρ H):=hb
   cases hF:F as S1 with
   | ok a S2=>rw[hF]at hb;exact⟨a,S2,R1,v1,rfl,λρ2 H2 v e2=>hb ρ2 H2 v<|e1.trans e2⟩
   | ex c S2=>rw[hF]at hb;exact hb.elim
   | no=>rw[hF]at hb;exact hb.elim
def j8:∀τ S as S',iO τ S=.ok as S'->as.length=0:=λτ S as S' h=>by cases h;rfl
def iV{c:Ex}{d:pZ}{n:Nat}(h:∀τ S as S',d τ S=.ok as S'->as.length=n):∀τ S as S',iD c d τ S=.ok as S'->as.length=n+1:=λτ S as S' e=>by
 unfold iD at e
 cases hc:c τ S with
 | ok a S1=>
  rw[hc]at e
  cases hd:d τ S1 with
  | ok bs S2=>
   have e:R.bind (d τ S1) (λas S2=>.ok (a::as) S2)=.ok as S':=e;rw[hd]at e;cases e;rw[bz,h τ S1 bs _ hd]
  | ex _ _=>
   have e:R.bind (d τ S1) (λas S2=>.ok (a::as) S2)=.ok as S':=e;rw[hd]at e;cases e
  | no=>
   have e:R.bind (d τ S1) (λas S2=>.ok (a::as) S2)=.ok as S':=e;rw[hd]at e;cases e
 | ex _ _=>rw[hc]at e;cases e
 | no=>rw[hc]at e;cases e
end
section
variable {X:Cx}{pos:Pos}{a b c:aE}
abbrev XW (f':A->A->iH->R A)(cc:Ex)(τ:ad)(b k:A)(S:iH):R A:=match k with
 | .bl true=>(cc τ S).bind λc S4=>f' b c S4
 | .bl false=>.ok (.bl false) S
 | _=>.no
abbrev Kc (f f':A->A->iH->R A)(ca cb cc:Ex):Ex:=λτ S=>(ca τ S).bind λa S1=>(cb τ S1).bind λb S2=>(f a b S2).bind λk S3=>XW f' cc τ b k S3
def MN{f f':A->A->iH->R A}{ca cb cc:Ex}{H:Hp}{Q:VK}(h:tE X (Kc f f' ca cb cc) σ H Q):C4 (r2 X f) (r2 X f') (tE X ca) (tE X cb) (tE X cc) σ H Q:=by
 kst_p;refine⟨ρ,S,τ,R,r,iF (iL h) .refl λa S1 h1 ρ1 H1 x e1 R1 v1=>⟨ρ1,S1,τ,R1,r.ext e1,iF (iL h1) e1 λb S2 h2 ρ2 H2 y e2 R2 v2=>?_⟩⟩;have e12:=e1.trans e2;refine⟨ρ2,S2,a,b,R2,v1.ext e2,v2,iF (iL h2) e12 λk S3 h3 ρ3 H3 z e3 R3 v3=>?_⟩;have e13:=e12.trans e3
 cases k with
 | bl k=>
  cases yK v3
  refine⟨k,rfl,?_⟩
  cases k with
  | true=>
   rw[aL rfl];exact⟨ρ3,S3,τ,R3,r.ext e13,iF (iL h3) e13 λc S4 h4 ρ4 H4 w e4 R4 v4=>⟨ρ4,S4,b,c,R4,v2.ext<|e3.trans e4,v4,iF h4 (e13.trans e4) λ_ _ q=>q.ext<|e13.trans e4⟩⟩
  | false=>
   rw[aJ bH];exact h3 ρ3 H3 _ e13 R3<|.bl false
 | _=>exact h3.elim
def UZ{f f':A->A->iH->R A}{ca cb cc:Ex}(ho:lQ X (compareOp op)<|r2 X f)(ho':lQ X (compareOp op')<|r2 X f')(ha:AE X a ca)(hb:AE X b cb)(hc:AE X c cc)(hm:lastMarks [op,op'] [b,c]=false:=by with_unfolding_all rfl) :
  AE X (.Compare a [op,op'] [b,c] pos) (Kc f f' ca cb cc):=PE.imp (JT ho ho' ha hb hc hm) λ_ _ _ h=>MN h
def UM{f f':A->A->iH->R A}{ca cb cc:Ex}(ho:lQ X (compareOp op)<|r2 X f)(ho':lQ X (compareOp op')<|r2 X f')(ha:AE X a ca)(hb:AE X b cb)(hc:AE X c cc)(hm:lastMarks [op,op'] [b,c]=false:=by with_unfolding_all rfl) :
  AT X (.Compare a [op,op'] [b,c] pos) (mS<|Kc f f' ca cb cc):=PT.imp (LK ho ho' ha hb hc hm) λσ H Q h9=>by
 z_go;refine MN ⟨ρ,S,τ,R,r,iF (iL h) .refl λc S1 h1 ρ1 H1 x e1 R1 v1=>?_⟩
 cases c with
 | bl k=>cases yK v1;exact⟨k,rfl,h1 ρ1 H1 e1 R1⟩
 | _=>exact h1.elim
abbrev Ug (S:iH)(x:A):ad->bi
 | []=>some false
 | z::zs=>(tV S 12 z x).bind λp=>(Ug S x zs).map λq=>p || q
abbrev Wf (neg:Bool)(x y:A)(S:iH):R A:=opt (y.seq S) λys=>opt (Ug S x ys) λb=>.ok (.bl<|if neg then !b else b) S
theorem zD{H:Hp}{x:A}{v:af}(I:Inv X pins σ H s)(R:Rel X.K ρ H S)(hu:X.A.units+64<cLine)(hx:AV X.K ρ H x vx)(rx:RelV vx v) :
  ∀{ys:ad} {us:List V} {its:ar} {b:Bool},AVs X.K ρ H ys us->Vals us its->Ug S x ys=some b->∃e:af->Bool,(∀w∈its,SeqAt.EqAt X.A.in1 s w v<|e w)/\its.any e=b
 | _,_,_,b,.nil,.nil,h=>⟨λ_=>false,(λw hw=>by cases hw),aU h⟩
 | z::zs,u::us,w0::its,b,.cons hz hzs,.cons r rs,h=>by
  classical
  obtain⟨p,hp,h⟩:=cJ.mp h;obtain⟨q,hq,h⟩:=bu.mp h;obtain⟨e,he,ha⟩:=zD I R hu hx rx hzs rs hq;have h0:=(FO I R 12 X.A.in1 z x u vx w0 v p (by rw[in1_units];omega) hz hx r rx hp).2.1;subst h
  cases p with
  | true=>
   refine⟨λw=>if w=w0 then true else e w,λw hw=>?_,?_⟩
   ·by_cases hww:w=w0
    ·dsimp[hww,cE];exact h0
    ·dsimp[hww,bN]
     rcases bJ.mp hw with z|z
     ·exact absurd z hww
     ·exact he w z
   ·simp
  | false=>
   by_cases hm:w0∈its
   ·refine⟨e,λw hw=>?_,?_⟩
    ·rcases bJ.mp hw with z|z
     ·rw[z];exact he w0 hm
     ·exact he w z
    ·rw[eZ,ha,gB]
     cases q with
     | true=>simp
     | false=>
      have:=List.any_eq_false.mp ha w0 hm;simpa using this
   ·refine⟨λw=>if w=w0 then false else e w,λw hw=>?_,?_⟩
    ·by_cases hww:w=w0
     ·dsimp[hww,cE];exact h0
     ·dsimp[hww,bN]
      rcases bJ.mp hw with z|z
      ·exact absurd z hww
      ·exact he w z
    ·rw[eZ,<- ha];dsimp[cE,gB];have:∀l:ar,(∀w∈l,w≠w0)->l.any (λw=>if w=w0 then false else e w)=l.any e:=λl hl=>by
      induction l with
      | nil=>rfl
      | cons c l ih=>rw[eZ,eZ,ih λw hw=>hl w<|aP _ hw,aJ<|hl c<|aN ..]
     exact this its λw hw z=>hm<|z ▸ hw
def Wo(hu:X.A.units+64<cLine):lQ X (compareOp .In) (r2 X<|Wf false):=λpins s σ H x y v u Q I rx ry h9=>by
 x_go;obtain⟨ys,hy,h⟩:=iQ h;obtain⟨k,hk,h⟩:=iQ h;obtain⟨p,us,rfl,hs,r⟩:=SO R vb hy
 cases ry
 rcases hs with hs|hs
 ·obtain⟨its,rv,pl,hz⟩:=I.list hs;obtain⟨e,he,ha⟩:=zD I R hu va rx r rv hk;refine SeqAt.in_listAt e pl.isList (λw hw=>he w<|by simpa using hw) ⟨.bl _,H,I,rfl,?_⟩;rw[show its.toArray.any e=its.any e by simp,ha];exact h _ _ _ .refl R (.bl _)
 ·obtain⟨its,rv,pl,hz⟩:=I.tuple hs;obtain⟨e,he,ha⟩:=zD I R hu va rx r rv hk;refine SeqAt.in_tupleAt e pl (λw hw=>he w<|by simpa using hw) ⟨.bl _,H,I,rfl,?_⟩;rw[show its.toArray.any e=its.any e by simp,ha];exact h _ _ _ .refl R<|.bl _
end
abbrev UD (S:iH)(n:Nat):Option (List<|ae×A):=match S[n]? with
 | some (.dct xs)=>some xs
 | _=>none
abbrev oK (s:Src)(g:Tg)(t:Te)(e:Ex):Nat->Nat->ad->iH->R (ad×ad)
 | 0,_=>λτ S=>if s.fin S then .ok ([],τ) S else .no
 | k+1,i=>λτ S=>opt (s.get i S) λx=>(g x τ S).l6 λτ1 S1=>(t τ1 S1).l6 λb S2=>match b with
  | true=>(e τ1 S2).l6 λy S3=>(oK s g t e k (i+1) τ1 S3).l6 λp S4=>.ok (y::p.1,p.2) S4
  | false=>oK s g t e k (i+1) τ1 S2
abbrev nk (s:Src)(g:Tg)(t:Te)(src2:Ic)(g2:Tg)(t2:Te)(e:Ex):Nat->Nat->ad->iH->R (ad)
 | 0,_=>λ_ S=>if s.fin S then .ok [] S else .no
 | k+1,i=>λτ S=>opt (s.get i S) λx=>(g x τ S).l6 λτ1 S1=>(t τ1 S1).l6 λb S2=>match b with
  | true=>(src2 τ1 S2).l6 λs2 S3=>(oK s2 g2 t2 e s2.k 0 τ1 S3).l6 λp S4=>(nk s g t src2 g2 t2 e k (i+1) p.2 S4).l6 λys S5=>.ok (p.1++ys) S5
  | false=>nk s g t src2 g2 t2 e k (i+1) τ1 S2
abbrev Dg (cap:List<|bj)(src:Ic)(g:Tg)(t:Te)(src2:Ic)(g2:Tg)(t2:Te)(e:Ex):Ex:=λτ S=>(src τ S).bind λs S1=>(nk s g t src2 g2 t2 e s.k 0 (l_ cap τ) S1).l6 λys S2=>newL ys S2
def Bv{s:Src}{g:Tg}{t:Te}{e:Ex}{k:Nat}{T:Prop}(h:oK s g t e (k+1) i τ S=.ok (zs,τ') S')
  (q:∀x τ1 S1 b S2,s.get i S=some x->g x τ S=.ok τ1 S1->t τ1 S1=.ok b S2->(b=true->∃y S3 ws,e τ1 S2=.ok y S3/\oK s g t e k (i+1) τ1 S3=.ok (ws,τ') S'/\zs=y::ws)->(b=false->oK s g t e k (i+1) τ1 S2=.ok (zs,τ') S')->T):T:=by
 obtain⟨x,hx,h⟩:=Dl h;obtain⟨τ1,S1,h1,h⟩:=jR h;obtain⟨b,S2,h2,h⟩:=jR h;refine q x τ1 S1 b S2 hx h1 h2 (λhb=>?_) λhb=>?_
 ·subst hb;obtain⟨y,S3,h3,h⟩:=jR h;obtain⟨⟨ws,τ2⟩,S4,h4,h⟩:=jR h
  cases h
  exact⟨y,S3,ws,h3,h4,rfl⟩
 ·subst hb;exact h
def zC{s:Src}{g:Tg}{t:Te}{src2:Ic}{g2:Tg}{t2:Te}{e:Ex}{k:Nat}{T:Prop}(h:nk s g t src2 g2 t2 e (k+1) i τ S=.ok zs S')
  (q:∀x τ1 S1 b S2,s.get i S=some x->g x τ S=.ok τ1 S1->t τ1 S1=.ok b S2->(b=true->∃s2 S3 ps τ2 S4 ws,src2 τ1 S2=.ok s2 S3/\oK s2 g2 t2 e s2.k 0 τ1 S3=.ok (ps,τ2) S4/\nk s g t src2 g2 t2 e k (i+1) τ2 S4=.ok ws S'/\zs=ps++ws)->(b=false->nk s g t src2 g2 t2 e k (i+1) τ1 S2=.ok zs S')->T):T:=by
 obtain⟨x,hx,h⟩:=Dl h;obtain⟨τ1,S1,h1,h⟩:=jR h;obtain⟨b,S2,h2,h⟩:=jR h;refine q x τ1 S1 b S2 hx h1 h2 (λhb=>?_) λhb=>?_
 ·subst hb;obtain⟨s2,S3,h3,h⟩:=jR h;obtain⟨⟨ps,τ2⟩,S4,h4,h⟩:=jR h;obtain⟨ws,S5,h5,h⟩:=jR h
  cases h
  exact⟨s2,S3,ps,τ2,S4,ws,h3,h4,h5,rfl⟩
 ·subst hb;exact h
abbrev XD (K:au)(c:Ic):TI:=λσ H Q=>∃ρ S τ s S',Rel K ρ H S/\SR K ρ H τ σ/\c τ S=.ok s S'/\∀ρ' H' J,Ext ρ ρ' H H'->Rel K ρ' H' S'->JR K s J ρ' H'->Q J H'
section
variable {X:Cx}{pos:Pos}{tg iter tg2 iter2 elt e:aE}{ifs ifs2:List aE}{scope:Scope}{N:ap}{cap:List (bj)}{src src2:Ic}{g g2:Tg}{t t2:Te}{c:Ex}
def AI.i0{K:au}(hK:X.K=K)(h:AI X tg e src):PI X tg e (XD K src):=λpins s σ H Q I ⟨ρ,S,τ,a,S',R,r,hc,q⟩=>h pins s σ H Q I ⟨ρ,S,τ,by rw[hK];exact R,by rw[hK];exact r,by rw[hc];exact λρ' H' J e R' v'=>q ρ' H' J e (by rw[<- hK];exact R')<|by rw[<- hK];exact v'⟩
def J7(hc:X.calm=true)(Sc:CpScope X scope N cap)(hi:AI X tg iter src)(hg:∀C s₀ H₀ ex,AG (jU X scope N C s₀ H₀ ex) tg g)(ht:∀C s₀ H₀ ex,UJ (jU X scope N C s₀ H₀ ex) ifs t)(hi2:∀C s₀ H₀ ex,AI (jU X scope N C s₀ H₀ ex) tg2 iter2 src2)
  (hg2:∀C s₀ H₀ ex,AG (jU X scope N C s₀ H₀ ex) tg2 g2) (ht2:∀C s₀ H₀ ex,UJ (jU X scope N C s₀ H₀ ex) ifs2 t2) (he:∀C s₀ H₀ ex,AE (jU X scope N C s₀ H₀ ex) elt c)
  (hs:∀x,foldedSetIterable iter X.env x=pure x:=by intro _;rfl) (hs2:∀env x,foldedSetIterable iter2 env x=pure x:=by intro _ _;rfl):AE X (.ListComp elt [⟨tg,iter,ifs,0⟩,⟨tg2,iter2,ifs2,0⟩] scope pos) (Dg cap src g t src2 g2 t2 c):=by
 refine PE.imp (Rv hc Sc hi (g:=Vy X.K g) (tc:=TX X.K t) (wi2:=XD X.K src2) (g2:=Vy X.K g2) (tc2:=TX X.K t2) (te:=V8 X.K c) (λC s₀ H₀ ex=>(hg C s₀ H₀ ex).g0 rfl) (λC s₀ H₀ ex=>ht C s₀ H₀ ex) (λC s₀ H₀ ex=>(hi2 C s₀ H₀ ex).i0 rfl) (λC s₀ H₀ ex=>(hg2 C s₀ H₀ ex).g0 rfl) (λC s₀ H₀ ex=>ht2 C s₀ H₀ ex) (λC s₀ H₀ ex=>(he C s₀ H₀ ex).e0 rfl) hs hs2) λσ H Q h9=>?_;z_go;refine⟨ρ,S,τ,R,r,iF (iL h) .refl λs S1 h1 ρ1 H1 J e1 R1 jr D hD=>?_⟩;obtain⟨ys,S2,hcg,h1⟩:=xN h1;obtain⟨hlen,h1⟩:=iZ h1;have h1:vn X ρ H Q (.ref S2.length) (S2++[.lst ys]):=h1;obtain⟨eD,RD⟩:=R1.im (u:=.lst []) hD;refine⟨Cq X.K ρ1 H1 D ys s.k (λ_ _=>True) λm i τ S zs=>nk s g t src2 g2 t2 c m i τ S=.ok zs S2,⟨s.k,.of rfl ⟨eD.toExt0,λa u na hu _=>by rw[iR na];exact hu,λa ha=>.inl ha,R1.Ed hD,jy⟩ trivial RD (Qa ((r.ext e1).ext eD) cap) .nil hcg rfl⟩,?_⟩;intro i m σ3 H3 hw;refine hw.el λρ3 S3 τ3 acc zs accV hm o3 _ R3 r3 ac3 cg3 eys=>?_;clear hw
 cases m with
 | zero=>
  left;have cg3:(if s.fin S3 then Am.R.ok [] S3 else .no)=.ok zs S2:=cg3
  cases hf:s.fin S3 with
  | false=>rw[hf]at cg3;cases cg3
  | true=>
   rw[hf]at cg3
   cases cg3
   rw[cN]at eys;subst eys;refine⟨by rw[show i=s.k by lia];exact jr.stop _ H3 ρ3 o3.e0 R3 hf,?_⟩;obtain⟨RT,gt⟩:=R3.take o3.hD o3.nD ac3;exact h1 (ρ3++[D]) H3 _ (e1.trans<|o3.end hD) RT<|.ref gt
 | succ m=>
  right;refine zC cg3 λx τ4 S4 b S5 hx hg4 ht5 hT hF=>?_;have jg:=jr.go i S3 H3 ρ3 x o3.e0 R3 hx;refine⟨jg.1,λv H4 y=>?_⟩;obtain⟨e4,R4,v4⟩:=jg.2 v H4 y;refine⟨ρ3,S3,τ3,x,τ4,S4,R4,r3.ext e4,v4,hg4,λρ5 H5 σ5 e5 R5 r5=>⟨ρ5,S4,τ4,b,S5,R5,r5,ht5,λρ6 H6 e6 R6=>?_⟩⟩;have e36:=(e4.trans e5).trans e6
  cases b with
  | false=>
   dsimp only;rw[aJ bH];exact⟨m,cO _,.of () (o3.stay hD e36) trivial R6 (r5.ext e6) (ac3.ext e36) (hF rfl) eys⟩
  | true=>
   dsimp only;rw[aL rfl];obtain⟨s2,S6,ps,τ7,S7,ws,hs6,ci7,co7,ezs⟩:=hT rfl;refine⟨ρ6,S5,τ4,s2,S6,R6,r5.ext e6,hs6,λρ8 H8 J2 e8 R8 jr2=>?_⟩;have e38:=e36.trans e8;refine⟨Cq X.K ρ1 H1 D (acc++ps) s2.k (λρ' H'=>Ext0 ρ8 ρ' H8 H') λm i τ S qs=>oK s2 g2 t2 c m i τ S=.ok (qs,τ7) S7,⟨s2.k,.of rfl (o3.stay hD e38) ⟨dS _,λ_ _ _ h=>h⟩ R8 (r5.ext<|e6.trans e8) (ac3.ext e38) ci7 rfl⟩,?_⟩;intro i2 m2 σ9 H9 hw;refine hw.el λρ9 S9 τ9 acc9 qs accV9 hm2 o9 e89 R9 r9 ac9 ci9 eqs=>?_;clear hw
   cases m2 with
   | zero=>
    left;have ci9:(if s2.fin S9 then Am.R.ok ([],τ9) S9 else .no)=.ok (qs,τ7) S7:=ci9
    cases hf:s2.fin S9 with
    | false=>rw[hf]at ci9;cases ci9
    | true=>
     rw[hf]at ci9
     cases ci9
     rw[cN]at eqs;subst eqs;exact⟨by rw[show i2=s2.k by lia];exact jr2.stop _ H9 ρ9 e89 R9 hf,m,cO _,.of () o9 trivial R9 r9 ac9 co7<|by rw[bG,<- ezs,eys]⟩
   | succ m2=>
    right;refine Bv ci9 λx9 τ10 S10 b10 S11 hx9 hg10 ht11 hT9 hF9=>?_;have jg2:=jr2.go i2 S9 H9 ρ9 x9 e89 R9 hx9;refine⟨jg2.1,λv10 H10 y10=>?_⟩;obtain⟨e10,R10,v10'⟩:=jg2.2 v10 H10 y10;refine⟨ρ9,S9,τ9,x9,τ10,S10,R10,r9.ext e10,v10',hg10,λρ11 H11 σ11 e11 R11 r11=>⟨ρ11,S10,τ10,b10,S11,R11,r11,ht11,λρ12 H12 e12 R12=>?_⟩⟩;have e912:=(e10.trans e11).trans e12;have o12:=o9.stay hD e912;have e812:Ext0 ρ8 ρ12 H8 H12:=⟨e89.pre.trans e912.pre,λa u i h=>e912.im a u i<|e89.im a u i h⟩
    cases b10 with
    | false=>
     dsimp only;rw[aJ bH];exact⟨m2,cO _,.of () o12 e812 R12 (r11.ext e12) (ac9.ext e912) (hF9 rfl) eqs⟩
    | true=>
     dsimp only;rw[aL rfl];obtain⟨y,S13,us,he13,ci13,eus⟩:=hT9 rfl;refine⟨ρ12,S11,τ10,y,S13,R12,r11.ext e12,he13,λρ14 H14 w e14 R14 v14=>?_⟩;have o14:=o12.stay hD e14;obtain⟨ex15,R15⟩:=R14.out (ws:=accV9++[w]) o14.hD o14.nD;have l1:=ac9.length;refine⟨accV9,o14.hD,?_,m2,cO _,.of () (o14.put ex15) ⟨e812.pre.trans e14.pre,λa u i h=>ex15.im a u i<|e14.im a u i<|e812.im a u i h⟩ R15 ((r11.ext<|e12.trans e14).j7 ex15) (AVs.j7 ex15<|(ac9.ext<|e912.trans e14).append<|.one v14) ci13 ?_⟩
     ·have:((acc++ps)++ws).length<=sizeLine:=by rw[bG,<- ezs,eys];exact hlen
      rw[<- eqs,eus,aX,aX,bz]at this
      lia
     ·rw[bG,<- eqs,eus];rfl
end
abbrev WM (F:ad->iH->R A)(d:pZ):Ex:=λτ S=>(d τ S).bind λas S1=>F as S1
abbrev Xy:ar:=[.type "ValueError",.type "Exception",.type "BaseException",.type "object"]
abbrev Na:List (Str ⊕ Ex)->ad->iH->R Unit
 | [],_,S=>.ok Unit.unit S
 | .inl _::ps,τ,S=>Na ps τ S
 | .inr e::ps,τ,S=>(e τ S).bind λv S1=>match v with
  | .int i=>gd (i.natAbs.log2<64) (Na ps τ S1)
  | _=>.no
abbrev Th (c:Str)(ps:List<|Str ⊕ Ex):Sm:=λτ S=>.of (Na ps τ S) λ_ S1=>.ex c S1
abbrev P4 (i:Nat):RS->RS
 | .nx τ S=>.nx (τ.set i .unb) S
 | .bk τ S=>.bk (τ.set i .unb) S
 | .ct τ S=>.ct (τ.set i .unb) S
 | .rt a S=>.rt a S
 | _=>.no
abbrev Uc (i n:Nat)(cs:ap)(c d:Sm):Sm:=λτ S=>match c τ S with
 | .ex x S1=>if x∈cs then P4 i (d ((List.replicate n .unb).set i<|.exn x) S1)else .no
 | r=>r
abbrev Ws (f:Str->bi)(c:Ex):Ex:=λτ S=>(c τ S).bind λv S1=>match v with
 | .exn x=>opt (f x) λb=>.ok (.bl b) S1
 | _=>.no
structure ExcK (K:au)(U:ak)(c:Str)(C:ak):Prop where
 n:W3 K c C
 q:PySem.W.excIn K C Xy "ValueError.__new__" = true
 r:L2.mroIn K C=some (.ref U::Xy)
 x:XCls K C
 cl:(PySem.W.clsIn K C).isSome=true
 v:PySem.W.kitOne K (.ref C) (.type "ValueError")=some true
abbrev Yj (tb:List<|Str×Bool):Str->bi:=λx=>tb.lookup x
abbrev VE (F:ad->iH->R A)(d:pZ):Ex:=λτ S=>match d τ S with
 | .ok as S1=>F as S1
 | _=>.no
section
variable {d:pZ}
abbrev Vs (t:Te)(c d:Sm):Sm:=λτ S=>match t τ S with
 | .ok true S1=>c τ S1
 | .ok false S1=>d τ S1
 | _=>.no
end
abbrev PK (i:Nat)(cs:ap)(c d:Sm):Sm:=λτ S=>match c τ S with
 | .ex x S1=>if x∈cs then P4 i (d (τ.set i<|.exn x) S1)else .no
 | r=>r
abbrev V5:Sm:=λ_ _=>.no
def JD{X:Cx}{st:aF}:AS X st V5:=PS.imp IC λD σ H ⟨ρ,S,τ,R,r,h⟩=>h.elim
def HE{K:au}{H:Hp}{a:ak}{ns:ae}{F:ad->iH->R A}(hO:NX H)(hS:ny K H a<|ns.map V.int)(h:∃S',F [.frz<|ns.map .int] []=.ok (.bl true) S'):pP K 1 F [.ref a] H (λv _=>v=.bl true) λ_ _ _=>False:=by
 obtain⟨S',h⟩:=h;have fz:Fz K H a (ns.map V.int):=by
  rcases hS with(h|⟨o,h⟩)|h
  ·rcases hO a with z|⟨ob,xs,z⟩
   ·rw[h]at z;cases z
   ·rw[h]at z;cases z
  ·exact .inl ⟨o,h⟩
  ·exact .inr h
 exact⟨rfl,[],[],_,_,S',⟨rfl,fC,λn a o h=>by simp at h⟩,.cons (.frz fz<|qM ns) .nil,h,λρ' H' v _ _ hv=>yK hv⟩
section
variable {P:aj}{w:ah}{K:au}{mg:Str->bb}{base:aq}{f:ak}{fd:FuncData}{ps:ap}{k n:Nat}
def Tj(h:n=ps.length):FnOk P w K mg base nW k f fd ps (pP K n λ_ _=>.no):=
 ⟨λ_ _ _ _ z=>z.1.trans h,λ_ _ _ _ _ _ _ _ _ _ _ _ _ z=>by obtain⟨_,_,_,_,_,_,_,_,e,_⟩:=z;cases e⟩
end
def OO{P:ar->Prop}(h:∀a0,P [a0]):∀us:ar,us.length=1->P us
 | [_],_=>h _
def F7{P:ar->Prop}(h:∀a0 a1,P [a0,a1]):∀us:ar,us.length=2->P us
 | [_,_],_=>h _ _
def Bu{n:Nat}{us:ar}(h:us.length=n+1):∃a t,us=a::t/\t.length=n:=by
 cases us with
 | nil=>simp at h
 | cons a t=>exact⟨a,t,rfl,by simpa using h⟩
def T4{P:ar->Prop}(h:∀a0 a1 a2,P [a0,a1,a2]):∀us:ar,us.length=3->P us:=λus e=>by
 obtain⟨a0,t0,rfl,e0⟩:=Bu e;obtain⟨a1,t1,rfl,e1⟩:=Bu e0;obtain⟨a2,t2,rfl,e2⟩:=Bu e1
 cases dM.mp e2
 exact h _ _ _
def Yi{P:ar->Prop}(h:∀a0 a1 a2 a3 a4,P [a0,a1,a2,a3,a4]):∀us:ar,us.length=5->P us:=λus e=>by
 obtain⟨a0,t0,rfl,e0⟩:=Bu e;obtain⟨a1,t1,rfl,e1⟩:=Bu e0;obtain⟨a2,t2,rfl,e2⟩:=Bu e1;obtain⟨a3,t3,rfl,e3⟩:=Bu e2;obtain⟨a4,t4,rfl,e4⟩:=Bu e3
 cases dM.mp e4
 exact h _ _ _ _ _
end Am
namespace Am
open PySem L2
section
variable {α β:Type}{a b:A}{S S1:iH}{τ:ad}{x:α}
@[simp]def R.kX {f:α->iH->R β}:(R.ok x S).bind f=f x S:=rfl
@[simp]def R.Eb {f:α->iH->R β}{c:Str}:(R.ex c S:R α).bind f=.ex c S:=rfl
@[simp]def R.mG {f:α->iH->R β}:(R.ok x S).l6 f=f x S:=rfl
@[simp]def RS.of_ok {f:α->iH->RS}:RS.of (R.ok x S) f=f x S:=rfl
@[simp]def RS.Ph {f:α->iH->RS}{c:Str}:RS.of (R.ex c S:R α) f=.ex c S:=rfl
@[simp]def jL {f:β->R α}{y:β}:opt (some y) f=f y:=rfl
@[simp]def F2 {r:R α}:gd True r=r:=aL trivial
theorem j4{c:Prop}[Decidable c]{r:R α}(h:c):gd c r=r:=aL h
@[simp]def FE {i:Nat}:iC i τ S=bif (τ.getD i .unb).mZ then .no else .ok (τ.getD i .unb) S:=by unfold iC;cases(τ.getD i .unb).mZ<;>rfl
@[simp]def Eo {xs:ad}:A.mZ (.tup xs)=false:=rfl
@[simp]def F4 {xs:ad}:A.mZ (.frz xs)=false:=rfl
@[simp]def E1 {i:Int}:A.mZ (.int i)=false:=rfl
@[simp]def JI {i:Bool}:A.mZ (.bl i)=false:=rfl
@[simp]def GO {i:Str}:A.mZ (.str i)=false:=rfl
@[simp]def DY {i:Nat}:A.mZ (.ref i)=false:=rfl
@[simp]def Ea:A.mZ .non=false:=rfl
@[simp]def EE {i j:Int}:A.mZ (.rng i j)=false:=rfl
@[simp]def FJ {c:Str}:A.mZ (.exn c)=false:=rfl
@[simp]def Qx:eC a τ S=.ok a S:=rfl
abbrev U9 (f:A->A->iH->R A)(cb:Ex)(τ:ad)(a:A)(S:iH):R A:=(cb τ S).bind<|f a
@[simp]def Ey {f:A->A->iH->R A}{cb:Ex}:U9 f cb τ a S=(cb τ S).bind (f a):=rfl
@[simp]def Fl {f:A->A->iH->R A}{ca cb:Ex}:iI f ca cb τ S=(ca τ S).bind (U9 f cb τ):=rfl
@[simp]def Iw {f:A->iH->R A}{ca:Ex}:M3 f ca τ S=(ca τ S).bind f:=rfl
@[simp]def EI {c:Ex}:K4 c τ S=(c τ S).bind λa S1=>opt (a.UE S1) λb=>.ok b S1:=rfl
abbrev aB (a:A)(S:iH):R Bool:=match a with
 | .bl b=>.ok b S
 | _=>.no
@[simp]def Gs {b:Bool}:aB (.bl b) S=.ok b S:=rfl
@[simp]def CB {c:Ex}:mS c τ S=(c τ S).bind aB:=rfl
@[simp]def EO {c:Te}:Lf c τ S=(c τ S).bind λb S1=>.ok (!b) S1:=rfl
abbrev Rp (d:Te)(τ:ad)(b:Bool)(S:iH):R Bool:=match b with|true=>d τ S|false=>.ok false S
abbrev WK (d:Te)(τ:ad)(b:Bool)(S:iH):R Bool:=match b with|true=>.ok true S|false=>d τ S
@[simp]def My {d:Te}:Rp d τ true S=d τ S:=rfl
@[simp]def Ml {d:Te}:Rp d τ false S=.ok false S:=rfl
@[simp]def Pk {d:Te}:WK d τ true S=.ok true S:=rfl
@[simp]def Qt {d:Te}:WK d τ false S=d τ S:=rfl
@[simp]def Fj {c d:Te}:xE c d τ S=(c τ S).bind (Rp d τ):=rfl
@[simp]def MC {c d:Te}:M0 c d τ S=(c τ S).bind (WK d τ):=rfl
@[simp]def Gq:Ah τ S=.ok true S:=rfl
abbrev Lx (d:Ex)(τ:ad)(a:A)(S:iH):R A:=match a with | .bl true=>d τ S | .bl false=>.ok (.bl false) S|_=>.no
abbrev Q8 (d:Ex)(τ:ad)(a:A)(S:iH):R A:=match a with | .bl true=>.ok (.bl true) S | .bl false=>d τ S|_=>.no
@[simp]def FA {d:Ex}:Lx d τ (.bl true) S=d τ S:=rfl
@[simp]def EV {d:Ex}:Lx d τ (.bl false) S=.ok (.bl false) S:=rfl
@[simp]def J6 {d:Ex}:Q8 d τ (.bl true) S=.ok (.bl true) S:=rfl
@[simp]def Jf {d:Ex}:Q8 d τ (.bl false) S=d τ S:=rfl
@[simp]def EF {c d:Ex}:Lm c d τ S=(c τ S).bind (Lx d τ):=by
 unfold Lm
 cases c τ S with
 | ok a S1=>cases a<;>first|rfl|(rename_i b;cases b<;>rfl)
 | _=>rfl
@[simp]def LV {c d:Ex}:XF c d τ S=(c τ S).bind (Q8 d τ):=by
 unfold XF
 cases c τ S with
 | ok a S1=>cases a<;>first|rfl|(rename_i b;cases b<;>rfl)
 | _=>rfl
abbrev Qf (a:A)(S:iH):R A:=match a with | .bl b=>.ok (.bl !b) S|_=>.no
@[simp]def BL {b:Bool}:Qf (.bl b) S=.ok (.bl !b) S:=rfl
@[simp]def GQ {c:Ex}:Ro c τ S=(c τ S).bind Qf:=rfl
abbrev QS (c d:Ex)(τ:ad)(b:Bool)(S:iH):R A:=match b with|true=>c τ S|false=>d τ S
@[simp]def Ka {c d:Ex}:QS c d τ true S=c τ S:=rfl
@[simp]def Jy {c d:Ex}:QS c d τ false S=d τ S:=rfl
@[simp]def Lh {t:Te}{c d:Ex}:Ym t c d τ S=(t τ S).bind (QS c d τ):=rfl
@[simp]def GH:iO τ S=.ok [] S:=rfl
abbrev CD (a:A)(as:ad)(S:iH):R (ad):=.ok (a::as) S
abbrev P6 (d:pZ)(τ:ad)(a:A)(S:iH):R (ad):=(d τ S).bind<|CD a
@[simp]def za {as:ad}:CD a as S=.ok (a::as) S:=rfl
@[simp]def Bt {d:pZ}:P6 d τ a S=(d τ S).bind (CD a):=rfl
@[simp]def Cd {c:Ex}{d:pZ}:iD c d τ S=(c τ S).bind (P6 d τ):=rfl
@[simp]def El {d:pZ}:mq d τ S=(d τ S).bind λas S1=>gd (as.length<=sizeLine) (.ok (.tup as) S1):=rfl
@[simp]def E_ {d:pZ}:sH d τ S=(d τ S).bind newL:=rfl
theorem kc{as:ad}(h:as.length<=16777216):newL as S=.ok (.ref S.length) (S++[.lst as]):=j4<|by rw[cR];exact h
@[simp]def AN {f:ad->iH->R A}{d:pZ}:je f d τ S=(d τ S).bind f:=rfl
abbrev WH (r:R A):R A:=match r with
 | .ok a S=>.ok a S
 | _=>.no
@[simp]def KA:WH (.ok a S)=.ok a S:=rfl
abbrev XT (f:ad->iH->R A)(as:ad)(S:iH):R A:=WH<|f as S
@[simp]def Jt {f:ad->iH->R A}{as:ad}:XT f as S=WH (f as S):=rfl
@[simp]def Ls {f:ad->iH->R A}{d:pZ}:eFn f d τ S=(d τ S).bind (XT f):=rfl
@[simp]def Pz {g:A->iH->R A}:f1 g [a] S=g a S:=rfl
@[simp]def Qi {g:A->A->iH->R A}:f2 g [a,b] S=g a b S:=rfl
abbrev RZ (h:Pt)(τ:ad)(a:A)(l:bd)(S:iH):R A:=(h τ S).bind<|CI a l
abbrev XA (l h:Pt)(τ:ad)(a:A)(S:iH):R A:=(l τ S).bind<|RZ h τ a
@[simp]def E8 {h:Pt}{l:bd}:RZ h τ a l S=(h τ S).bind (CI a l):=rfl
@[simp]def MS {l h:Pt}:XA l h τ a S=(l τ S).bind (RZ h τ a):=rfl
@[simp]def IP {c:Ex}{l h:Pt}:Tr c l h τ S=(c τ S).bind (XA l h τ):=rfl
@[simp]def Cc:Gv τ S=.ok none S:=rfl
abbrev XC (a:A)(S:iH):R (bd):=match a with
 | .int i=>.ok (some i) S
 | _=>.no
@[simp]def Gp {i:Int}:XC (.int i) S=.ok (some i) S:=rfl
@[simp]def BG {c:Ex}:rW c τ S=(c τ S).bind XC:=rfl
abbrev RK (f:A->ad->iH->R A)(d:pZ)(τ:ad)(o:A)(S:iH)(_:ad):R A:=(d τ S).bind<|f o
abbrev Xs (f:A->ad->iH->R A)(d:pZ)(τ:ad)(o:A)(S:iH):R A:=opt (o.lst? S)<|RK f d τ o S
@[simp]def Gb {f:A->ad->iH->R A}{d:pZ}{xs:ad}:RK f d τ a S xs=(d τ S).bind (f a):=rfl
@[simp]def Km {f:A->ad->iH->R A}{d:pZ}:Xs f d τ a S=opt (a.lst? S) (RK f d τ a S):=rfl
@[simp]def Lv {f:A->ad->iH->R A}{c:Ex}{d:pZ}:UW f c d τ S=(c τ S).bind (Xs f d τ):=rfl
@[simp]def E3 {f:A->ad->iH->R A}{c:Ex}:Xe f c τ S=(c τ S).bind λo S1=>opt (o.lst? S1) λ_=>f o [] S1:=rfl
@[simp]def lst?_ref {n:Nat}:A.lst? S (.ref n)=iG S n:=rfl
abbrev RS.seq (r:RS)(d:Sm):RS:=match r with
 | .nx τ S=>d τ S
 | r=>r
@[simp]def RS.KU {d:Sm}:RS.seq (.nx τ S) d=d τ S:=rfl
@[simp]def RS.Jr {d:Sm}:RS.seq (.rt a S) d=.rt a S:=rfl
@[simp]def RS.LR {d:Sm}{c:Str}:RS.seq (.ex c S) d=.ex c S:=rfl
@[simp]def RS.JF {d:Sm}:RS.seq (.bk τ S) d=.bk τ S:=rfl
@[simp]def RS.Mx {d:Sm}:RS.seq (.ct τ S) d=.ct τ S:=rfl
@[simp]def Gy {c d:Sm}:jd c d τ S=RS.seq (c τ S) d:=by unfold jd RS.seq;cases c τ S<;>rfl
@[simp]def GA:mQ τ S=.nx τ S:=rfl
@[simp]def yU:Sy τ S=.bk τ S:=rfl
@[simp]def AY:Uh τ S=.ct τ S:=rfl
@[simp]def Bf {e:Ex}:u7 e τ S=RS.of (e τ S) λ_ S1=>.nx τ S1:=rfl
@[simp]def FP {e:Ex}:jF e τ S=RS.of (e τ S) .rt:=rfl
@[simp]def AQ:Lq τ S=.rt .non S:=rfl
abbrev V2 (c d:Sm)(τ:ad)(b:Bool)(S:iH):RS:=match b with|true=>c τ S|false=>d τ S
@[simp]def QB {c d:Sm}:V2 c d τ true S=c τ S:=rfl
@[simp]def P_ {c d:Sm}:V2 c d τ false S=d τ S:=rfl
@[simp]def Jx {t:Te}{c d:Sm}:t7 t c d τ S=RS.of (t τ S) (V2 c d τ):=rfl
abbrev Vn (g:Tg)(τ:ad)(a:A)(S:iH):RS:=RS.of (g a τ S) .nx
@[simp]def DW {g:Tg}:Vn g τ a S=RS.of (g a τ S) .nx:=rfl
@[simp]def Gm {e:Ex}{g:Tg}:jm e g τ S=RS.of (e τ S) (Vn g τ):=rfl
@[simp]def LH {i:Nat}:jB i a τ S=.ok (τ.set i a) S:=rfl
abbrev TQ (a o:A)(τ:ad)(i:A)(S:iH):R (ad):=(BA o i a S).bind λ_ S3=>.ok τ S3
abbrev X4 (ci:Ex)(τ:ad)(a o:A)(S:iH):R (ad):=(ci τ S).bind<|TQ a o τ
@[simp]def Fv {o i:A}:TQ a o τ i S=(BA o i a S).bind λ_ S3=>.ok τ S3:=rfl
@[simp]def Le {ci:Ex}{o:A}:X4 ci τ a o S=(ci τ S).bind (TQ a o τ):=rfl
@[simp]def JA {co ci:Ex}:Q6 co ci a τ S=(co τ S).bind (X4 ci τ a):=rfl
@[simp]def Mr {n:Nat}{gs:M6}{xs:ad}:AJ n gs (.tup xs) τ S=gd (xs.length=n) (gs xs τ S):=rfl
@[simp]def MM:Ba [] τ S=.ok τ S:=rfl
@[simp]def IY {g:Tg}{gs:M6}{as:ad}:rR g gs (a::as) τ S=(g a τ S).bind (gs as):=rfl
abbrev X0 (i j:Nat)(τ:ad)(as:ad)(S:iH):RS:=match as with
 | [a,b]=>.nx ((τ.set i a).set j b) S
 | _=>.no
@[simp]def MQ {i j:Nat}:X0 i j τ [a,b] S=.nx ((τ.set i a).set j b) S:=rfl
@[simp]def FF {i j:Nat}{c:pZ}:WA i j c τ S=RS.of (c τ S) (X0 i j τ):=rfl
abbrev K1 (i:Nat)(τ:ad)(c:A)(S:iH):RS:=.nx (τ.set i c) S
abbrev U4 (i:Nat)(f:A->A->iH->R A)(τ:ad)(b:A)(S:iH):RS:=.of (f (τ.getD i .unb) b S)<|K1 i τ
@[simp]def A3 {i:Nat}:K1 i τ a S=.nx (τ.set i a) S:=rfl
@[simp]def E9 {i:Nat}{f:A->A->iH->R A}:U4 i f τ a S=.of (f (τ.getD i .unb) a S) (K1 i τ):=rfl
@[simp]def D9 {i:Nat}{f:A->A->iH->R A}{e:Ex}:MI i f e τ S=bif (τ.getD i .unb).mZ then .no else .of (e τ S) (U4 i f τ):=by
 unfold MI;cases(τ.getD i .unb).mZ<;>rfl
abbrev WR (o i:A)(τ:ad)(z:A)(S:iH):RS:=.of (BA o i z S) λ_ S6=>.nx τ S6
abbrev WG (f:A->A->iH->R A)(o i x:A)(τ:ad)(y:A)(S:iH):RS:=.of (f x y S)<|WR o i τ
abbrev V_ (ce:Ex)(f:A->A->iH->R A)(o i:A)(τ:ad)(x:A)(S:iH):RS:=.of (ce τ S)<|WG f o i x τ
abbrev WW (ce:Ex)(f:A->A->iH->R A)(o:A)(τ:ad)(i:A)(S:iH):RS:=.of (MU o i S)<|V_ ce f o i τ
abbrev XM (ci ce:Ex)(f:A->A->iH->R A)(τ:ad)(o:A)(S:iH):RS:=.of (ci τ S)<|WW ce f o τ
@[simp]def IS {o i:A}:WR o i τ a S=.of (BA o i a S) λ_ S6=>.nx τ S6:=rfl
@[simp]def L5 {f:A->A->iH->R A}{o i x:A}:WG f o i x τ a S=.of (f x a S) (WR o i τ):=rfl
@[simp]def Ii {ce:Ex}{f:A->A->iH->R A}{o i:A}:V_ ce f o i τ a S=.of (ce τ S) (WG f o i a τ):=rfl
@[simp]def IM {ce:Ex}{f:A->A->iH->R A}{o:A}:WW ce f o τ a S=.of (MU o a S) (V_ ce f o a τ):=rfl
@[simp]def Ms {ci ce:Ex}{f:A->A->iH->R A}:XM ci ce f τ a S=.of (ci τ S) (WW ce f a τ):=rfl
@[simp]def B0 {co ci ce:Ex}{f:A->A->iH->R A}:wW co ci ce f τ S=RS.of (co τ S) (XM ci ce f τ):=rfl
abbrev RS.end (r:RS):R A:=match r with
 | .rt a S'=>.ok a S'
 | .nx _ S'=>.ok .non S'
 | .ex c S'=>.ex c S'
 | _=>.no
@[simp]def RS.Jz:RS.end (.rt a S)=.ok a S:=rfl
@[simp]def RS.Kh:RS.end (.nx τ S)=.ok .non S:=rfl
@[simp]def RS.LO {c:Str}:RS.end (.ex c S)=.ex c S:=rfl
theorem vF {N:ap}{m:Sm}{as:ad}:jV N m as S=RS.end (m (as++List.replicate (N.length-as.length) .unb) S):=by
 unfold jV RS.end;cases m (as++List.replicate (N.length-as.length) .unb) S<;>rfl
@[simp]def Lo {i j:Int}:jo (.int i) (.int j) S=.ok (.int<|i+j) S:=rfl
@[simp]def Lj {i j:Int}:aSub (.int i) (.int j) S=.ok (.int<|i-j) S:=rfl
@[simp]def KQ {i j:Int}:Hu (.int i) (.int j) S=.ok (.int<|i+j) S:=rfl
theorem D5{i j:Int}(h:-18446744073709551616<i)(h':i<18446744073709551616):uU (.int i) (.int j) S=.ok (.int<|i * j) S:=j4<|by unfold Ei;simp;left;exact⟨by omega,by omega⟩
def LF{i j:Int}(h:0<j)(h':j<1073741824):Ez (.int i) (.int j) S=.ok (.int<|i / j) S:=j4 ⟨h,()⟩
def yz{i j:Int}(h:0<j):xW (.int i) (.int j) S=.ok (.int<|i % j) S:=j4 h
@[simp]def Bk {i j:Int}:zU (.int i) (.int j) S=.ok (.bl<|decide<|i<j) S:=rfl
@[simp]def Qc {i j:Int}:Rh (.int i) (.int j) S=.ok (.bl<|decide<|i<=j) S:=rfl
@[simp]def Ql {i j:Int}:DK (.int i) (.int j) S=.ok (.bl<|decide<|j<i) S:=rfl
@[simp]def Qq {i j:Int}:V7 (.int i) (.int j) S=.ok (.bl<|decide<|j<=i) S:=rfl
@[simp]def P8 {i j:Bool}:G3 false (.bl i) (.bl j) S=.ok (.bl<|i == j) S:=rfl
@[simp]def MJ {i j:Bool}:G3 true (.bl i) (.bl j) S=.ok (.bl<|i != j) S:=rfl
@[simp]def L3 {i:Int}:CK (.int i) S=.ok (.int<|-i) S:=rfl
@[simp]def Mi {xs:ad}:mz (.tup xs) S=.ok (.int xs.length) S:=rfl
@[simp]def LG {xs:ad}:mz (.frz xs) S=.ok (.int xs.length) S:=rfl
@[simp]def KO {n:Nat}:mz (.ref n) S=opt (iG S n) λxs=>.ok (.int xs.length) S:=rfl
@[simp]def Ln {i:Int}:Xl (.int i) S=.ok (.int<|if i<0 then -i else i) S:=rfl
@[simp]def D6 {i j:Int}:Mc (.int i) (.int j) S=.ok (.int<|if j>i then j else i) S:=rfl
@[simp]def EU {i j:Int}:JG (.int i) (.int j) S=.ok (.int<|if j<i then j else i) S:=rfl
@[simp]def Fi {i:Int}:BW (.int i) S=.ok (.int i) S:=rfl
@[simp]def EG {i:Bool}:BW (.bl i) S=.ok (.int<|if i then 1 else 0) S:=rfl
@[simp]def yG {i j:Int}:Ac (.int i) (.int j) S=.ok (.rng i j) S:=rfl
@[simp]def PX {xs:ad}{i:Int}:pL (.tup xs) (.int i) S=opt (nU xs i) λx=>.ok x S:=rfl
@[simp]def Qd {xs:ad}{i:Int}:pL (.frz xs) (.int i) S=opt (nU xs i) λx=>.ok x S:=rfl
@[simp]def Qm {n:Nat}{i:Int}:pL (.ref n) (.int i) S=opt (iG S n) λxs=>opt (nU xs i) λx=>.ok x S:=rfl
@[simp]def Kq {n:Nat}{k:Int}:BA (.ref n) (.int k) a S=opt (iG S n) λxs=>opt (yI xs.length k) λj=>.ok Unit.unit (S.set n<|.lst<|xs.set j a):=rfl
@[simp]def Je {n:Nat}{i:Int}:MU (.ref n) (.int i) S=opt (iG S n) λxs=>gd (0<=i) (opt (xs[i.toNat]?) λx=>.ok x S):=rfl
theorem G6{i j:Int}(h:yY i j):xU (.rng i j) S=.ok (.ref S.length) (S++[.lst<|(i7 i j).map .int]):=j4 h
@[simp]def Ge {xs:ad}:xU (.tup xs) S=.ok (.ref S.length) (S++[.lst xs]):=rfl
@[simp]def EM {xs:ad}:xU (.frz xs) S=.ok (.ref S.length) (S++[.lst xs]):=rfl
@[simp]def FU {n:Nat}:xU (.ref n) S=opt (iG S n) λxs=>.ok (.ref S.length) (S++[.lst xs]):=rfl
@[simp]def BD {xs:ad}:qY (.tup xs) S=.ok (.tup xs) S:=rfl
@[simp]def A8 {n:Nat}:qY (.ref n) S=opt (iG S n) λxs=>.ok (.tup xs) S:=rfl
@[simp]def LL {xs:ad}:G8 (.tup xs) S=.ok (.tup xs.reverse) S:=rfl
@[simp]def J1 {n:Nat}:G8 (.ref n) S=opt (iG S n) λxs=>.ok (.ref S.length) (S++[.lst xs.reverse]):=rfl
@[simp]def P7 {n:Nat}{l u:bd}:CI (.ref n) l u S=opt (iG S n) λxs=>.ok (.ref S.length) (S++[.lst<|uC xs l u]):=rfl
@[simp]def xj {n:Nat}:vj (.ref n) [a] S=opt (iG S n) λxs=>gd (xs.length<sizeLine) (.ok .non<|S.set n<|.lst<|xs++[a]):=rfl
@[simp]def K5 {b:Bool}:A.UE (.bl b) S=some b:=rfl
@[simp]def EZ {i:Int}:A.UE (.int i) S=some (i != 0):=rfl
theorem Mm{o:O}:(S++[o])[S.length]?=some o:=by simp
@[simp]def ji {xs:ad}:iG (S++[.lst xs]) S.length=some xs:=qA Mm
theorem rm{o:O}{n:Nat}(h:iG S n=some xs):iG (S++[o]) n=some xs:=by
 have h':=iU h;exact qA<|by rw[bg (aM.mp h').1];exact h'
def qK{n:Nat}(h:iG S n=some xs):n<S.length:=(aM.mp<|iU h).1
def nv{n:Nat}(h:n<S.length):iG (S.set n<|.lst ys) n=some ys:=qA<|bE h
def nJ{n:Nat}(h:n≠m):iG (S.set n<|.lst ys) m=iG S m:=by unfold iG;rw[bL h]
def zw{xs:ad}{i:Int}{k:Nat}{x:A}(h:i=k)(hx:xs[k]?=some x):nU xs i=some x:=by rw[h];exact M9 hx
def uK{n:Nat}{i:Int}{k:Nat}(h:i=k)(hk:k<n):yI n i=some k:=by
 subst h;unfold yI;rw[aL (),aL ()];simp
end
structure Kp (b:Nat->Prop)(S S':iH):Prop where
 len:S.length<=S'.length
 obj:∀(n:Nat) (o:O),¬b n->S[n]?=some o->S'[n]?=some o
meta abbrev oz:=Kp λ_=>False
def Kp.lst{b:Nat->Prop}(h:Kp b S S')(n:Nat)(xs:ad)(hb:¬b n)(e:iG S n=some xs):iG S' n=some xs:=qA<|h.obj n _ hb<|iU e
def Kp.refl{b:Nat->Prop}:Kp b S S:=⟨aQ _,λ_ _ _ h=>h⟩
def Kp.trans{b:Nat->Prop}(h:Kp b S S1)(h':Kp b S1 S2):Kp b S S2:=⟨bP h.len h'.len,λn xs hb e=>h'.obj n xs hb<|h.obj n xs hb e⟩
def wD{S:iH}{n:Nat}(e:S[n]?=some o):n<S.length:=(aM.mp e).1
def Kp.lay{b:Nat->Prop}{o:O}(h:Kp b S S1):Kp b S (S1++[o]):=⟨bP h.len<|by simp,λn xs hb e=>by
 have:=h.obj n xs hb e;rw[bg<|wD this];exact this⟩
def Kp.LY{b:Nat->Prop}{S S1:iH}(h:Kp b S S1)(hm:b m\/S.length<=m):Kp b S (S1.set m o):=⟨by rw[bO];exact h.len,λn xs hb e=>by
 have:m≠n:=λz=>by
  subst z
  rcases hm with z|z
  ·exact hb z
  ·exact absurd (wD e) ()
 rw[bL this];exact h.obj n xs hb e⟩
def Kp.set{b:Nat->Prop}{S S1:iH}(h:Kp b S S1)(hm:b m\/S.length<=m):Kp b S (S1.set m<|.lst ys):=h.LY hm
def Kp.mono{b c:Nat->Prop}{S:iH}(h:Kp b S S1)(hb:∀n,n<S.length->b n->c n):Kp c S S1:=⟨h.len,λn xs hc e=>h.obj n xs (λz=>hc<|hb n (wD e) z) e⟩
def Kp.of0{b:Nat->Prop}(h:oz S S1):Kp b S S1:=h.mono λ_ _ z=>z.elim
def Kp.old{b c:Nat->Prop}{S:iH}(h:Kp b S S1)(h':Kp c S1 S2)(hc:∀n,n<S.length->¬b n->¬c n):Kp b S S2:=⟨bP h.len h'.len,λn xs hb e=>h'.obj n xs (hc n (wD e) hb)<|h.obj n xs hb e⟩
theorem uf{t:Te}{c:Sm}(Inv:ad->iH->Prop)(μ:ad->iH->Nat)(Post:RS->Prop)
  (h:∀τ S,Inv τ S->(∃S1,t τ S=.ok false S1/\Post (.nx τ S1))\/(∃S1,t τ S=.ok true S1/\((∃τ' S',c τ S1=.nx τ' S'/\Inv τ' S'/\μ τ' S'<μ τ S)\/(∃a S',c τ S1=.rt a S'/\Post (.rt a S'))))) :
  ∀n τ S,Inv τ S->μ τ S<n->Post (lA t c n τ S)
 | 0,_,_,_,hn=>absurd hn (d9 _)
 | n+1,τ,S,hi,hn=>by
  unfold lA
  rcases h τ S hi with⟨S1,e,q⟩|⟨S1,e,⟨τ',S',e2,hi',hm⟩|⟨a,S',e2,q⟩⟩
  ·rw[e];exact q
  ·rw[e];show Post (match c τ S1 with
    | .nx τ' S'=>lA t c n τ' S'
    | .ct τ' S'=>lA t c n τ' S'
    | .bk τ' S'=>.nx τ' S'
    | r=>r)
   rw[e2];exact uf Inv μ Post h n τ' S' hi' ()
  ·rw[e];show Post (match c τ S1 with
    | .nx τ' S'=>lA t c n τ' S'
    | .ct τ' S'=>lA t c n τ' S'
    | .bk τ' S'=>.nx τ' S'
    | r=>r)
   rw[e2];exact q
theorem zV{s:Src}{g:Tg}{c:Sm}(Inv:Nat->ad->iH->Prop)(Post:RS->Prop)
  (step:∀i τ S,i<s.k->Inv i τ S->∃x τ1 S1,s.get i S=some x/\g x τ S=.ok τ1 S1/\((∃τ' S',c τ1 S1=.nx τ' S'/\Inv (i+1) τ' S')\/(∃a S',c τ1 S1=.rt a S'/\Post (.rt a S'))))
  (fin:∀τ S,Inv s.k τ S->s.fin S=true/\Post (.nx τ S)):∀k i τ S,k+i=s.k->Inv i τ S->Post (nZ s g c k i τ S)
 | 0,i,τ,S,hk,hi=>by
  have:i=s.k:=()
  subst this;obtain⟨hf,q⟩:=fin τ S hi;unfold nZ;rw[aL hf];exact q
 | k+1,i,τ,S,hk,hi=>by
  obtain⟨x,τ1,S1,hx,hg,h⟩:=step i τ S () hi;unfold nZ;rw[hx];show Post (RS.of (g x τ S) λτ1 S1=>match c τ1 S1 with
   | .nx τ' S'=>nZ s g c k (i+1) τ' S'
   | .ct τ' S'=>nZ s g c k (i+1) τ' S'
   | .bk τ' S'=>.nx τ' S'
   | r=>r)
  rw[hg];show Post (match c τ1 S1 with
   | .nx τ' S'=>nZ s g c k (i+1) τ' S'
   | .ct τ' S'=>nZ s g c k (i+1) τ' S'
   | .bk τ' S'=>.nx τ' S'
   | r=>r)
  rcases h with⟨τ',S',e,hi'⟩|⟨a,S',e,q⟩
  ·rw[e];exact zV Inv Post step fin k (i+1) τ' S' () hi'
  ·rw[e];exact q
def rC{lo hi:Int}{c:Sm}{src:Ic}{τ:ad}(hs:src τ S=.ok (jX lo hi) S1)(Inv:Nat->ad->iH->Prop)(Post:RS->Prop)(h0:Inv 0 τ S1)
  (step:∀(i:Nat) τ S,(i:Int)<hi-lo->Inv i τ S->(∃τ' S',c (τ.set j<|.int<|lo+i) S=.nx τ' S'/\Inv (i+1) τ' S')\/(∃a S',c (τ.set j<|.int<|lo+i) S=.rt a S'/\Post (.rt a S')))
  (fin:∀τ S,Inv (hi-lo).toNat τ S->Post (.nx τ S)):Post (mh src (jB j) c τ S):=by
 unfold mh;rw[hs];refine zV (s:=jX lo hi) Inv Post (λi τ S hi' h=>?_) (λτ S h=>⟨rfl,fin τ S h⟩) _ 0 τ S1 rfl h0;have hi':i<(hi-lo).toNat:=hi';exact⟨.int<|lo+i,_,S,aL hi',rfl,step i τ S () h⟩
def S_{xs:ad}{g:Tg}{c:Sm}{src:Ic}(hs:src τ S=.ok (Cm xs) S1)(Inv:Nat->ad->iH->Prop)(Post:RS->Prop)(h0:Inv 0 τ S1)
  (step:∀(i:Nat) x τ S,xs[i]?=some x->Inv i τ S->∃τ1 S1,g (.tup [.int i,x]) τ S=.ok τ1 S1/\((∃τ' S',c τ1 S1=.nx τ' S'/\Inv (i+1) τ' S')\/(∃a S',c τ1 S1=.rt a S'/\Post (.rt a S'))))
  (fin:∀τ S,Inv xs.length τ S->Post (.nx τ S)):Post (mh src g c τ S):=by
 unfold mh;rw[hs];refine zV (s:=Cm xs) Inv Post (λi τ S hi' h=>?_) (λτ S h=>⟨rfl,fin τ S h⟩) _ 0 τ S1 rfl h0;have hi':i<xs.length:=hi';obtain⟨τ1,S1,e,q⟩:=step i xs[i] τ S (aG hi') h;exact⟨.tup [.int i,xs[i]],τ1,S1,by show(xs[i]?).map _=_;rw[aG hi'];rfl,e,q⟩
def vt{n:Nat}{xs:ad}{g:Tg}{c:Sm}{src:Ic}(hs:src τ S=.ok (nL n xs.length) S1)(Inv:Nat->ad->iH->Prop)(Post:RS->Prop)(h0:Inv 0 τ S1)(hl:∀i τ S,Inv i τ S->iG S n=some xs)
  (step:∀(i:Nat) x τ S,xs[i]?=some x->Inv i τ S->∃τ1 S1,g x τ S=.ok τ1 S1/\((∃τ' S',c τ1 S1=.nx τ' S'/\Inv (i+1) τ' S')\/(∃a S',c τ1 S1=.rt a S'/\Post (.rt a S'))))
  (fin:∀τ S,Inv xs.length τ S->Post (.nx τ S)):Post (mh src g c τ S):=by
 unfold mh;rw[hs];refine zV (s:=nL n xs.length) Inv Post (λi τ S hi' h=>?_) (λτ S h=>⟨?_,fin τ S h⟩) _ 0 τ S1 rfl h0
 ·have hi':i<xs.length:=hi';obtain⟨τ1,S1,e,q⟩:=step i xs[i] τ S (aG hi') h;exact⟨xs[i],τ1,S1,by show(iG S n).bind _=_;rw[hl i τ S h];exact aG hi',e,q⟩
 ·show(match iG S n with
   | some ys=>decide (ys.length<=xs.length)
   | none=>false)=true
  rw[hl _ τ S h];exact aT<|aQ _
@[simp]def pO {c:Ex}{τ:ad}{S S1:iH}{j:Int}(h:c τ S=.ok (.int j) S1)(hb:bnd j):qR c τ S=.ok (jX 0 j) S1:=by
 unfold qR;rw[h];exact j4 hb
def um{c d:Ex}{i j:Int}(h:c τ S=.ok (.int i) S1)(h':d τ S1=.ok (.int j) S2)(hb:bnd i)(hb':bnd j):pU c d τ S=.ok (jX i j) S2:=by
 unfold pU;rw[h];show(d τ S1).bind _=_;rw[h'];exact j4 ⟨hb,hb'⟩
def MW{c:Ex}(h:c τ S=.ok (.tup xs) S1):oN c τ S=.ok (p5 xs) S1:=by unfold oN;rw[h];rfl
def uE{c:Ex}{n:Nat}{xs:ad}(h:c τ S=.ok (.ref n) S1)(hl:iG S1 n=some xs):oN c τ S=.ok (nL n xs.length) S1:=by
 unfold oN;rw[h];show opt (iG S1 n) _=_;rw[hl];rfl
def Rj{c:Ex}(h:c τ S=.ok (.tup xs) S1):OD c τ S=.ok (Cm xs) S1:=by unfold OD;rw[h];rfl
theorem vD{s:Src}{g:Tg}{t:Te}{e:Ex}{P:iH->Prop}{T:ad->Prop}(it:Nat->A)(p:Nat->Bool)(f:Nat->A)
  (hget:∀i S,i<s.k->P S->s.get i S=some (it i)) (hfin:∀S,P S->s.fin S=true)
  (step:∀i τ S,i<s.k->T τ->P S->∃τ1 S1 S2,g (it i) τ S=.ok τ1 S1/\t τ1 S1=.ok (p i) S2/\T τ1/\(p i=false->P S2)/\(p i=true->∃S3,e τ1 S2=.ok (f i) S3/\P S3)) :
  ∀k i τ S,k+i=s.k->T τ->P S->∃S',nO s g t e k i τ S=.ok (((List.range' i k).filter p).map f) S'/\P S'
 | 0,i,τ,S,hk,hT,hP=>⟨S,by unfold nO;rw[aL<|hfin S hP];rfl,hP⟩
 | k+1,i,τ,S,hk,hT,hP=>by
  obtain⟨τ1,S1,S2,hg,ht,hT1,hF,hTr⟩:=step i τ S (by omega) hT hP;unfold nO;rw[hget i S (by omega) hP,jL,hg,R.mG,ht,R.mG,fG,h_]
  cases hp:p i with
  | false=>
   obtain⟨S',h1,h2⟩:=vD it p f hget hfin step k (i+1) τ1 S2 (by omega) hT1<|hF hp;exact⟨S',by simpa using h1,h2⟩
  | true=>
   obtain⟨S3,he,hP3⟩:=hTr hp;obtain⟨S',h1,h2⟩:=vD it p f hget hfin step k (i+1) τ1 S3 (by omega) hT1 hP3;refine⟨S',?_,h2⟩
   skip
   rw[he,R.mG,h1];rfl
def uO{s:Src}{src:Ic}{t:Te}{e:Ex}{S1:iH}(hs:src τ S=.ok s S1)(it:Nat->A)(p:Nat->Bool)(f:Nat->A)(hget:∀i,i<s.k->s.get i S1=some (it i))(hfin:s.fin S1=true)
  (ht:∀i,i<s.k->t (it i::l_ cap τ) S1=.ok (p i) S1) (he:∀i,i<s.k->p i=true->e (it i::l_ cap τ) S1=.ok (f i) S1) (hl:s.k<=16777216) :
  lV (none::cap) src (jB 0) t e τ S=.ok (.ref S1.length) (S1++[.lst<|((List.range s.k).filter p).map f]):=by
 unfold lV;rw[hs,R.kX];obtain⟨S',h1,h2⟩:=vD (s:=s) (g:=jB 0) (t:=t) (e:=e) (P:=λS=>S=S1) (T:=λτ'=>∃y,τ'=y::l_ cap τ) it p f (λi S hi h=>by subst h;exact hget i hi) (λS h=>by subst h;exact hfin)
  (λi τ' S hi ⟨y,hy⟩ h=>by
   subst h hy;exact⟨it i::l_ cap τ,S,S,rfl,ht i hi,⟨_,rfl⟩,λ_=>rfl,λhp=>⟨S,he i hi hp,rfl⟩⟩) s.k 0 (l_ (none::cap) τ) S1 rfl ⟨_,rfl⟩ rfl
 subst h2;rw[h1,R.mG,dH];refine kc ?_;rw[aK];refine bP (gp _ _) ?_;rw[List.length_range'];exact hl
def mP{α β:Type}(xs:List α)(p:α->Bool)(f:α->β):∀(d:α) ,(((List.range xs.length).filter λi=>p<|xs.getD i d).map λi=>f<|xs.getD i d)=(xs.filter p).map f:=by
 intro d
 induction xs with
 | nil=>rfl
 | cons x xs ih=>
  rw[bz,List.range_succ_eq_map,h_,h_];have e:((List.filter (λi=>p<|(x::xs).getD i d)<|List.map Nat.succ<|List.range xs.length).map λi=>f<|(x::xs).getD i d)=(xs.filter p).map f:=by
   rw[gM,cH];rw[<- ih];rfl
  show List.map _ (if p x=true then _ else _)=List.map f (if p x=true then _ else _);by_cases hp:p x=true
  ·rw[aL hp,aL hp,bS,bS,e];rfl
  ·rw[aJ hp,aJ hp,e]
def BI{xs:ad}{src:Ic}{t:Te}{e:Ex}{S1:iH}(hs:src τ S=.ok (p5 xs) S1)(p:A->Bool)(f:A->A)
  (ht:∀x∈xs,t (x::l_ cap τ) S1=.ok (p x) S1) (he:∀x∈xs,p x=true->e (x::l_ cap τ) S1=.ok (f x) S1) (hl:xs.length<=16777216) :
  lV (none::cap) src (jB 0) t e τ S=.ok (.ref S1.length) (S1++[.lst<|(xs.filter p).map f]):=by
 have hm:∀i,i<xs.length->xs.getD i .unb∈xs:=λi hi=>by
  rw[aI,aG hi];exact c_ hi
 rw[uO hs (λi=>xs.getD i .unb) (λi=>p<|xs.getD i .unb) (λi=>f<|xs.getD i .unb) (λi hi=>by
  have hi:i<xs.length:=hi;show xs[i]?=_;rw[aI,aG hi];rfl) rfl (λi hi=>ht _<|hm i hi) (λi hi=>he _<|hm i hi) hl]
 have:=mP xs p f .unb;show R.ok _ (S1++[O.lst<|((List.range xs.length).filter _).map _])=_;rw[this]
def LM{xs:ad}{src:Ic}{e:Ex}{S1:iH}(hs:src τ S=.ok (p5 xs) S1)(f:A->A)
  (he:∀x∈xs,e (x::l_ cap τ) S1=.ok (f x) S1) (hl:xs.length<=16777216) :
  lV (none::cap) src (jB 0) Ah e τ S=.ok (.ref S1.length) (S1++[.lst<|xs.map f]):=by
 rw[BI hs (λ_=>true) f (λ_ _=>rfl) (λx hx _=>he x hx) hl,List.filter_eq_self.mpr λ_ _=>rfl]
def Js{lo hi:Int}{src:Ic}{t:Te}{e:Ex}{S1:iH}(hs:src τ S=.ok (jX lo hi) S1)(p:Int->Bool)(f:Int->A)
  (ht:∀k,lo<=k->k<hi->t (.int k::l_ cap τ) S1=.ok (p k) S1) (he:∀k,lo<=k->k<hi->p k=true->e (.int k::l_ cap τ) S1=.ok (f k) S1) (hl:(hi-lo).toNat<=16777216) :
  lV (none::cap) src (jB 0) t e τ S=.ok (.ref S1.length) (S1++[.lst<|((i7 lo hi).filter p).map f]):=by
 rw[uO hs (λi=>.int<|lo+i) (λi=>p<|lo+i) (λi=>f<|lo+i) (λi hi'=>aL hi') rfl (λi hi'=>ht _ () (by have:i<(hi-lo).toNat:=hi';lia)) (λi hi'=>he _ () (by have:i<(hi-lo).toNat:=hi';lia)) hl];unfold i7;rw[gM,cH];rfl
@[simp]def Lb {cap:List<|bj}{τ:ad}:l_ (none::cap) τ=.unb::l_ cap τ:=rfl
@[simp]def Ik {cap:List<|bj}{τ:ad}{j:Nat}:l_ (some j::cap) τ=τ.getD j .unb::l_ cap τ:=rfl
@[simp]def BU {τ:ad}:l_ [] τ=[]:=rfl
theorem FH{x:A}:nU (x::xs) 0=some x:=zw (k:=0) rfl rfl
def Qy{x:A}:nU (x::y::xs) 1=some y:=zw (k:=1) rfl rfl
def ud{ns:ae}{i:Int}{k:Nat}{x:Int}(h:i=k)(hx:ns[k]?=some x):nU (ns.map A.int) i=some (.int x):=zw h<|by rw[bh,hx];rfl
def kJ{j:Int}(h:-4611686018427387904<=j)(h':j<4611686018427387904):bnd j:=⟨(),()⟩
def Jb{i j:Int}(h1:-1000000<=i)(h2:i<=1000000)(h3:-1000000<=j)(h4:j<=1000000)(h5:j-i<=1000):yY i j:=⟨⟨(),(),(),()⟩,()⟩
theorem ints_map:∀(ns:ae),A.ints (ns.map .int)=some ns
 | []=>rfl
 | n::ns=>by show(A.ints<|ns.map .int).map (n::·)=_;rw[ints_map ns];rfl
theorem yH{n:Nat}:∀(xs ys:ae),qB (tV S<|n+1) (xs.map .int) (ys.map .int)=some (decide<|xs=ys)
 | [],[]=>rfl
 | [],_::_=>rfl
 | _::_,[]=>rfl
 | x::xs,y::ys=>by
  skip
  skip
  show Option.map _ (qB (tV S<|n+1) (xs.map .int)<|ys.map .int)=_;rw[yH xs ys]
  skip
  by_cases h1:x=y<;>by_cases h2:xs=ys<;>simp[h1,h2]
@[simp]def Qj {S:iH}{x y:Bool}:qm false (.bl x) (.bl y) S=.ok (.bl<|x == y) S:=rfl
@[simp]def PJ {S:iH}{x y:Bool}:qm true (.bl x) (.bl y) S=.ok (.bl<|!(x == y)) S:=rfl
@[simp]def QA {S:iH}{x y:Int}:qm false (.int x) (.int y) S=.ok (.bl<|x == y) S:=rfl
@[simp]def P9 {S:iH}{x y:Int}:qm true (.int x) (.int y) S=.ok (.bl<|!(x == y)) S:=rfl
@[simp]def FW {S:iH}:G3 false .non .non S=.ok (.bl true) S:=rfl
@[simp]def Eg {S:iH}{xs:ad}:G3 false (.tup xs) .non S=.ok (.bl false) S:=rfl
@[simp]def Ep {S:iH}{n:Nat}:G3 false (.ref n) .non S=.ok (.bl false) S:=rfl
@[simp]def Cj {S:iH}:G3 true .non .non S=.ok (.bl false) S:=rfl
@[simp]def AU {S:iH}{xs:ad}:G3 true (.tup xs) .non S=.ok (.bl true) S:=rfl
@[simp]def BS {S:iH}{n:Nat}:G3 true (.ref n) .non S=.ok (.bl true) S:=rfl
@[simp]def Gu {S:iH}{x:A}{c:String}:Pc x (.ty c) S=opt (x.kd S) λk=>opt (H_ k c) λb=>.ok (.bl b) S:=rfl
@[simp]def Pw {S:iH}{b:Bool}:A.kd (.bl b) S=some .bl:=rfl
@[simp]def L4 {S:iH}{b:Int}:A.kd (.int b) S=some .int:=rfl
@[simp]def Jl {S:iH}{b:ad}:A.kd (.tup b) S=some .tup:=rfl
@[simp]def L1 {S:iH}:A.kd .non S=some .non:=rfl
@[simp]def L6 {S:iH}{b:Str}:A.kd (.str b) S=some .str:=rfl
@[simp]def MX {S:iH}{n:Nat}:A.kd (.ref n) S=(iG S n).map λ_=>.lst:=rfl
@[simp]def LP {S:iH}:newL [] S=.ok (.ref S.length) (S++[.lst []]):=kc<|by simp
@[simp]def LS {S:iH}{x0:A}:newL [x0] S=.ok (.ref S.length) (S++[.lst [x0]]):=kc<|by simp
@[simp]def Ky {S:iH}{x0 x1:A}:newL [x0,x1] S=.ok (.ref S.length) (S++[.lst [x0,x1]]):=kc<|by simp
@[simp]def LU {S:iH}{x0 x1 x2:A}:newL [x0,x1,x2] S=.ok (.ref S.length) (S++[.lst [x0,x1,x2]]):=kc<|by simp
@[simp]def Jk {S:iH}{x0 x1 x2 x3:A}:newL [x0,x1,x2,x3] S=.ok (.ref S.length) (S++[.lst [x0,x1,x2,x3]]):=kc<|by simp
@[simp]def JM {S:iH}{x0 x1 x2 x3 x4:A}:newL [x0,x1,x2,x3,x4] S=.ok (.ref S.length) (S++[.lst [x0,x1,x2,x3,x4]]):=kc<|by simp
@[simp]def KC {S:iH}{x0 x1 x2 x3 x4 x5:A}:newL [x0,x1,x2,x3,x4,x5] S=.ok (.ref S.length) (S++[.lst [x0,x1,x2,x3,x4,x5]]):=kc<|by simp
@[simp]def ME {S:iH}{x0 x1 x2 x3 x4 x5 x6:A}:newL [x0,x1,x2,x3,x4,x5,x6] S=.ok (.ref S.length) (S++[.lst [x0,x1,x2,x3,x4,x5,x6]]):=kc<|by simp
@[simp]def MB {S:iH}{x0 x1 x2 x3 x4 x5 x6 x7:A}:newL [x0,x1,x2,x3,x4,x5,x6,x7] S=.ok (.ref S.length) (S++[.lst [x0,x1,x2,x3,x4,x5,x6,x7]]):=kc<|by simp
@[simp]def KH {S:iH}{x0 x1 x2 x3 x4 x5 x6 x7 x8:A}:newL [x0,x1,x2,x3,x4,x5,x6,x7,x8] S=.ok (.ref S.length) (S++[.lst [x0,x1,x2,x3,x4,x5,x6,x7,x8]]):=kc<|by simp
@[simp]def Gk {S:iH}{x0 x1 x2 x3 x4 x5 x6 x7 x8 x9:A}:newL [x0,x1,x2,x3,x4,x5,x6,x7,x8,x9] S=.ok (.ref S.length) (S++[.lst [x0,x1,x2,x3,x4,x5,x6,x7,x8,x9]]):=kc<|by simp
theorem zo{α:Type}{n:Nat}{r:R α}(h:n<=16777216):gd (n<=sizeLine) r=r:=j4<|by rw[cR];exact h
def A7{α:Type}{n:Nat}{r:R α}(h:n<16777216):gd (n<sizeLine) r=r:=j4<|by rw[cR];exact h
def Qz {x:A}{xs:ad}:(x::xs).getD 0 .unb=x:=rfl
def Qk {x:A}{xs:ad}{n:Nat}:(x::xs).getD (n+1) .unb=xs.getD n .unb:=rfl
def T8 {x y:A}{xs:ad}:(x::xs).set 0 y=y::xs:=rfl
def sets {x y:A}{xs:ad}{n:Nat}:(x::xs).set (n+1) y=x::xs.set n y:=rfl
def rep0 {x:A}:List.replicate 0 x=[]:=rfl
def reps {x:A}{n:Nat}:List.replicate (n+1) x=x::List.replicate n x:=rfl
def UH {x:A}{xs ys:ad}:(x::xs)++ys=x::(xs++ys):=rfl
def Vd {ys:ad}:[]++ys=ys:=rfl
def jj:type_of% (anI @R.kX<|anI @R.Eb<|anI @R.mG<|anI @RS.of_ok<|anI @RS.Ph<|anI @jL<|anI @F2<|anI @FE<|anI @Eo<|anI @F4<|anI @E1<|anI @JI<|anI @GO<|anI @DY<|anI @Ea<|anI @EE<|anI @FJ<|anI @Qx<|anI @Fl<|anI @Iw<|anI @EI<|anI @Gs<|anI @CB<|anI @EO<|anI @Fj<|anI @MC<|anI @Gq<|anI @FA<|anI @EV<|anI @J6<|anI @Jf<|anI @EF<|anI @LV<|anI @BL<|anI @GQ<|anI @Lh<|anI @GH<|anI @Cd<|anI @El<|anI @E_<|anI @AN<|anI @KA<|anI @Ls<|anI @Pz<|anI @Qi<|anI @IP<|anI @Cc<|anI @Gp<|anI @BG<|anI @Lv<|anI @E3<|anI @lst?_ref<|anI @RS.KU<|anI @RS.Jr<|anI @RS.LR<|anI @RS.JF<|anI @RS.Mx<|anI @Gy<|anI @GA<|anI @yU<|anI @AY<|anI @Bf<|anI @FP<|anI @AQ<|anI @Jx<|anI @Gm<|anI @LH<|anI @JA<|anI @Mr<|anI @MM<|anI @IY<|anI @MQ<|anI @FF<|anI @D9<|anI @B0<|anI @RS.Jz<|anI @RS.Kh<|anI @RS.LO<|anI @Lo<|anI @Lj<|anI @KQ<|anI @Bk<|anI @Qc<|anI @Ql<|anI @Qq<|anI @P8<|anI @MJ<|anI @L3<|anI @Mi<|anI @LG<|anI @KO<|anI @Ln<|anI @D6<|anI @EU<|anI @Fi<|anI @EG<|anI @yG<|anI @PX<|anI @Qd<|anI @Qm<|anI @Kq<|anI @Je<|anI @Ge<|anI @EM<|anI @FU<|anI @BD<|anI @A8<|anI @LL<|anI @J1<|anI @P7<|anI @xj<|anI @K5<|anI @EZ<|anI @ji<|anI @Lb<|anI @Ik<|anI @BU<|anI @Qj<|anI @PJ<|anI @QA<|anI @P9<|anI @FW<|anI @Eg<|anI @Ep<|anI @Cj<|anI @AU<|anI @BS<|anI @Gu<|anI @Pw<|anI @L4<|anI @Jl<|anI @L1<|anI @L6<|anI @MX<|anI @LP<|anI @LS<|anI @Ky<|anI @LU<|anI @Jk<|anI @JM<|anI @KC<|anI @ME<|anI @MB<|anI @KH<|anI @Gk<|anI @Qz<|anI @Qk<|anI @T8<|anI @sets<|anI @rep0<|anI @reps<|anI @UH<|anI @Vd<|anI @vF<|anI @Ey<|anI @My<|anI @Ml<|anI @Pk<|anI @Qt<|anI @Ka<|anI @Jy<|anI @za<|anI @Bt<|anI @Jt<|anI @E8<|anI @MS<|anI @Gb<|anI @Km<|anI @QB<|anI @P_<|anI @DW<|anI @Fv<|anI @Le<|anI @A3<|anI @E9<|anI @Ms<|anI @IM<|anI @Ii<|anI @L5<|@IS):=anI @R.kX<|anI @R.Eb<|anI @R.mG<|anI @RS.of_ok<|anI @RS.Ph<|anI @jL<|anI @F2<|anI @FE<|anI @Eo<|anI @F4<|anI @E1<|anI @JI<|anI @GO<|anI @DY<|anI @Ea<|anI @EE<|anI @FJ<|anI @Qx<|anI @Fl<|anI @Iw<|anI @EI<|anI @Gs<|anI @CB<|anI @EO<|anI @Fj<|anI @MC<|anI @Gq<|anI @FA<|anI @EV<|anI @J6<|anI @Jf<|anI @EF<|anI @LV<|anI @BL<|anI @GQ<|anI @Lh<|anI @GH<|anI @Cd<|anI @El<|anI @E_<|anI @AN<|anI @KA<|anI @Ls<|anI @Pz<|anI @Qi<|anI @IP<|anI @Cc<|anI @Gp<|anI @BG<|anI @Lv<|anI @E3<|anI @lst?_ref<|anI @RS.KU<|anI @RS.Jr<|anI @RS.LR<|anI @RS.JF<|anI @RS.Mx<|anI @Gy<|anI @GA<|anI @yU<|anI @AY<|anI @Bf<|anI @FP<|anI @AQ<|anI @Jx<|anI @Gm<|anI @LH<|anI @JA<|anI @Mr<|anI @MM<|anI @IY<|anI @MQ<|anI @FF<|anI @D9<|anI @B0<|anI @RS.Jz<|anI @RS.Kh<|anI @RS.LO<|anI @Lo<|anI @Lj<|anI @KQ<|anI @Bk<|anI @Qc<|anI @Ql<|anI @Qq<|anI @P8<|anI @MJ<|anI @L3<|anI @Mi<|anI @LG<|anI @KO<|anI @Ln<|anI @D6<|anI @EU<|anI @Fi<|anI @EG<|anI @yG<|anI @PX<|anI @Qd<|anI @Qm<|anI @Kq<|anI @Je<|anI @Ge<|anI @EM<|anI @FU<|anI @BD<|anI @A8<|anI @LL<|anI @J1<|anI @P7<|anI @xj<|anI @K5<|anI @EZ<|anI @ji<|anI @Lb<|anI @Ik<|anI @BU<|anI @Qj<|anI @PJ<|anI @QA<|anI @P9<|anI @FW<|anI @Eg<|anI @Ep<|anI @Cj<|anI @AU<|anI @BS<|anI @Gu<|anI @Pw<|anI @L4<|anI @Jl<|anI @L1<|anI @L6<|anI @MX<|anI @LP<|anI @LS<|anI @Ky<|anI @LU<|anI @Jk<|anI @JM<|anI @KC<|anI @ME<|anI @MB<|anI @KH<|anI @Gk<|anI @Qz<|anI @Qk<|anI @T8<|anI @sets<|anI @rep0<|anI @reps<|anI @UH<|anI @Vd<|anI @vF<|anI @Ey<|anI @My<|anI @Ml<|anI @Pk<|anI @Qt<|anI @Ka<|anI @Jy<|anI @za<|anI @Bt<|anI @Jt<|anI @E8<|anI @MS<|anI @Gb<|anI @Km<|anI @QB<|anI @P_<|anI @DW<|anI @Fv<|anI @Le<|anI @A3<|anI @E9<|anI @Ms<|anI @IM<|anI @Ii<|anI @L5<|@IS
def bools:(∀b:Bool,cond false b b=b)/\(∀(α:Type) (x y:α),cond false x y=y)/\(∀(α:Type) (x y:α),cond true x y=x):=⟨λ_=>rfl,λ_ _ _=>rfl,λ_ _ _=>rfl⟩
def jD:(∀(x:Str) (xs:ap),(x::xs).length=xs.length+1)/\([]:ap).length=0/\(∀(x:A) (xs:ad),(x::xs).length=xs.length+1)/\([]:ad).length=0:=⟨λ_ _=>rfl,rfl,λ_ _=>rfl,rfl⟩
section
variable {τ:ad}{S:iH}
def GF {f:ad->iH->R A}{d:pZ}:WM f d τ S=(d τ S).bind f:=rfl
abbrev X3 (c:Str):Unit->iH->RS:=λ_ S1=>.ex c S1
def MK {c:Str}{u:Unit}:X3 c u S=.ex c S:=rfl
def y9 {c:Str}{ps:List<|Str ⊕ Ex}:Th c ps τ S=RS.of (Na ps τ S) (X3 c):=rfl
def Fx:Na [] τ S=.ok Unit.unit S:=rfl
def Gi {x:Str}{ps:List<|Str ⊕ Ex}:Na (.inl x::ps) τ S=Na ps τ S:=rfl
abbrev X7 (ps:List<|Str ⊕ Ex)(τ:ad):A->iH->R Unit:=λv S1=>match v with
 | .int i=>gd (i.natAbs.log2<64) (Na ps τ S1)
 | _=>.no
def Fo {e:Ex}{ps:List<|Str ⊕ Ex}:Na (.inr e::ps) τ S=(e τ S).bind (X7 ps τ):=rfl
abbrev RS.try (i n:Nat)(cs:ap)(d:Sm):RS->RS
 | .ex x S1=>if x∈cs then P4 i (d ((List.replicate n .unb).set i<|.exn x) S1)else .no
 | r=>r
def Ec {i n:Nat}{cs:ap}{c d:Sm}:Uc i n cs c d τ S=RS.try i n cs d (c τ S):=by
 unfold Uc RS.try;cases c τ S<;>rfl
def JV {i n:Nat}{cs:ap}{d:Sm}:RS.try i n cs d (.nx τ S)=.nx τ S:=rfl
def Lr {i n:Nat}{cs:ap}{d:Sm}{a:A}:RS.try i n cs d (.rt a S)=.rt a S:=rfl
def Mv {i n:Nat}{x:Str}{cs:ap}{d:Sm}:RS.try i n (x::cs) d (.ex x S)=P4 i (d ((List.replicate n .unb).set i<|.exn x) S):=aL<|.head _
def Il {i:Nat}{a:A}:P4 i (.rt a S)=.rt a S:=rfl
def JK {i:Nat}:P4 i (.nx τ S)=.nx (τ.set i .unb) S:=rfl
abbrev UP (f:Str->bi):A->iH->R A:=λv S1=>match v with
 | .exn x=>opt (f x) λb=>.ok (.bl b) S1
 | _=>.no
def F3 {f:Str->bi}{c:Ex}:Ws f c τ S=(c τ S).bind (UP f):=rfl
def LQ {x:Str}{b:Bool}{tb:List<|Str×Bool}:UP (Yj ((x,b)::tb)) (.exn x) S=.ok (.bl b) S:=by
 show opt (List.lookup x ((x,b)::tb)) _=_;rw[fF,bK];rfl
abbrev R.KY {α β:Type}(r:R α)(f:α->iH->R β):R β:=match r with
 | .ok a S=>f a S
 | _=>.no
def Bh {α β:Type}{a:α}{f:α->iH->R β}:R.KY (.ok a S) f=f a S:=rfl
def Gz {f:ad->iH->R A}{d:pZ}:VE f d τ S=R.KY (d τ S) f:=by unfold VE R.KY;cases d τ S<;>rfl
abbrev RS.WC {α:Type}(r:R α)(f:α->iH->RS):RS:=match r with
 | .ok a S=>f a S
 | _=>.no
def Ll {α:Type}{a:α}{f:α->iH->RS}:RS.WC (.ok a S) f=f a S:=rfl
def Ej {t:Te}{c d:Sm}:Vs t c d τ S=RS.WC (t τ S) (V2 c d τ):=by
 unfold Vs RS.WC
 cases t τ S with
 | ok b S1=>cases b<;>rfl
 | ex _ _=>rfl
 | no=>rfl
abbrev RS.J0 (i:Nat)(cs:ap)(d:Sm)(τ:ad):RS->RS
 | .ex x S1=>if x∈cs then P4 i (d (τ.set i<|.exn x) S1)else .no
 | r=>r
def BO {i:Nat}{cs:ap}{c d:Sm}:PK i cs c d τ S=RS.J0 i cs d τ (c τ S):=by
 unfold PK RS.J0;cases c τ S<;>rfl
def EB {i:Nat}{cs:ap}{d:Sm}{τ':ad}:RS.J0 i cs d τ (.nx τ' S)=.nx τ' S:=rfl
def FY {i:Nat}{cs:ap}{d:Sm}{a:A}:RS.J0 i cs d τ (.rt a S)=.rt a S:=rfl
def E7 {i:Nat}{x:Str}{cs:ap}{d:Sm}:RS.J0 i (x::cs) d τ (.ex x S)=P4 i (d (τ.set i<|.exn x) S):=aL<|.head _
def Co:A.VT []=some []:=rfl
def zb {b:Bool}{xs:ad}:A.VT (.bl b::xs)=(A.VT xs).map (b::·):=rfl
end
def mU:type_of% (anI @GF<|anI @y9<|anI @MK<|anI @Fx<|anI @Gi<|anI @Fo<|anI @Ec<|anI @JV<|anI @Lr<|anI @Mv<|anI @Il<|anI @JK<|anI @F3<|anI @LQ<|anI @Co<|anI @zb<|anI @Bh<|anI @Gz<|anI @Ll<|anI @Ej<|anI @BO<|anI @EB<|anI @FY<|anI @E7<|trivial):=anI @GF<|anI @y9<|anI @MK<|anI @Fx<|anI @Gi<|anI @Fo<|anI @Ec<|anI @JV<|anI @Lr<|anI @Mv<|anI @Il<|anI @JK<|anI @F3<|anI @LQ<|anI @Co<|anI @zb<|anI @Bh<|anI @Gz<|anI @Ll<|anI @Ej<|anI @BO<|anI @EB<|anI @FY<|anI @E7<|trivial
end Am
namespace Am
open PySem PySem.Spec PyProof.Rows L2
abbrev Df (K:au)(x:Str)(st:aF):Prop:=∃(f:ak) (fd:FuncData),PySem.W.nsIn K mainGlobals x=some (some<|.ref f)/\Fun K x x st f fd
inductive En (P:aj) (w:ah) (K:au) (mg:Str->bb) (base:aq):Prop
 | mk (h:aq) (X:K.In h) (G:h.Ns mainGlobals mg)
section
variable {P:aj}{w:ah}{K:au}{mg:Str->bb}{base:aq}{x:Str}{st:aF}{ps:ap}{k:Nat}{F:ad->iH->R A}
def En.at(E:En P w K mg base){f:ak}(h:PySem.W.nsIn K mainGlobals x=some (some<|.ref f)):mg x=some (.ref f):=by
 obtain⟨_,X,G⟩:=E;exact gC X G h
def Df.of{f:ak}{kV pm ct:af}(a:PySem.W.nsIn K mainGlobals x=some (some<|.ref f))(l:K.lookup f=some ⟨oc,od,.func<|PySem.W.fnOf x x (rD st) (nY st) (iS st) .none kV doc pm an cdv ct,osl⟩)(c:PySem.W.codeIn K cdv x=true)(k:PySem.W.keepIn K (.ref f)=true):Df K x st:=⟨f,_,a,Sw l c k⟩
meta abbrev Bi (x:Str)(st:aF)(ps:ap):Prop:=∀us:ar,us.length=ps.length->∀(kV doc pm:af) (an:Option ak) (cdv ct:af),bindArgs (PySem.W.fnOf x x (rD st) (nY st) (iS st) .none kV doc pm an cdv ct) ⟨us,[]⟩=pure (ps.zip us)
def Df.get(d:Df K x st)(E:En P w K mg base)(b:Bi x st ps):∃f fd,Fun K x x st f fd/\mg x=some (.ref f)/\PySem.W.keepIn K (.ref f)=true/\Binds K fd ps []:=by
 obtain⟨f,fd,a,F⟩:=d;exact⟨f,fd,F,E.at a,F.kp,F.binds λkV doc pm an cdv ct us hl=>b us hl kV doc pm an cdv ct⟩
def Df.kA(d:Df K x st)(E:En P w K mg base)(h:∀{f fd},Fun K x x st f fd->FnOk P w K mg base nW k f fd ps (pP K ps.length F))(b:Bi x st ps):nA P w K mg base k x ps F:=by
 obtain⟨f,fd,a,c,e,g⟩:=d.get E b;exact⟨f,fd,h a,c,e,g⟩
def Df.rA(d:Df K x st)(E:En P w K mg base)(h:∀{f fd},Fun K x x st f fd->mg x=some (.ref f)->PySem.W.keepIn K (.ref f)=true->Binds K fd ps []->FnOk P w K mg base nW k f fd ps (pP K ps.length F))(b:Bi x st ps):nA P w K mg base k x ps F:=by
 obtain⟨f,fd,a,c,e,g⟩:=d.get E b;exact⟨f,fd,h a c e g,c,e,g⟩
end
section
variable {X:Cx}{pos p:Pos}{e1 e2 e3:aE}{x p1 p2 p3:Str}{k K0:Nat}{F:ad->iH->R A}{c1 c2 c3:Ex}
def F0(G:nA X.prog X.w X.K X.mg X.base k x [p1] F)(hr:Room K0 X.A)(h1:AE X e1 c1)(hk:k<=K0:=by decide)(hg:Gl X x:=by rfl)(hdb:(x == ("__debug__" : Str))=false:=by decide)(s1:starEach [e1] X.env=(false,eval e1 X.env)::starEach [] X.env:=by rfl)(hp:(backTo pos<|starEach [] X.env).any (·.1)=false:=by rfl):AE X (.Call (.Name x p) [e1] [] pos) (eFn F<|iD c1 iO):=oB G (hr.mono hk) (iE h1 iN s1) (iV j8) hg hdb s1 hp
def yg(G:nA X.prog X.w X.K X.mg X.base k x [p1,p2] F)(hr:Room K0 X.A)(h1:AE X e1 c1)(h2:AE X e2 c2)(hk:k<=K0:=by decide)(hg:Gl X x:=by rfl)(hdb:(x == ("__debug__" : Str))=false:=by decide)(s1:starEach [e1,e2] X.env=(false,eval e1 X.env)::starEach [e2] X.env:=by rfl)(s2:starEach [e2] X.env=(false,eval e2 X.env)::starEach [] X.env:=by rfl)(hp:(backTo pos<|starEach [e2] X.env).any (·.1)=false:=by rfl):AE X (.Call (.Name x p) [e1,e2] [] pos) (eFn F<|iD c1<|iD c2 iO):=oB G (hr.mono hk) (iE h1 (iE h2 iN s2) s1) (iV<|iV j8) hg hdb s1 hp
def VO(G:nA X.prog X.w X.K X.mg X.base k x [p1,p2,p3] F)(hr:Room K0 X.A)(h1:AE X e1 c1)(h2:AE X e2 c2)(h3:AE X e3 c3)(hk:k<=K0:=by decide)(hg:Gl X x:=by rfl)(hdb:(x == ("__debug__" : Str))=false:=by decide)(s1:starEach [e1,e2,e3] X.env=(false,eval e1 X.env)::starEach [e2,e3] X.env:=by rfl)(s2:starEach [e2,e3] X.env=(false,eval e2 X.env)::starEach [e3] X.env:=by rfl)(s3:starEach [e3] X.env=(false,eval e3 X.env)::starEach [] X.env:=by rfl)(hp:(backTo pos<|starEach [e2,e3] X.env).any (·.1)=false:=by rfl):AE X (.Call (.Name x p) [e1,e2,e3] [] pos) (eFn F<|iD c1<|iD c2<|iD c3 iO):=oB G (hr.mono hk) (iE h1 (iE h2 (iE h3 iN s3) s2) s1) (iV<|iV<|iV j8) hg hdb s1 hp
def sJ{N P:ap}{sc:Scope}(a:sc.kind=.function)(b:sc.isCoroutine=false)(c:sc.isGenerator=false)(h:N.Nodup/\N.take P.length=P/\(∀x∈P,sc.names.lookup x=some .local\/sc.names.lookup x=some .cell)/\∀y∈sc.names,y.2≠.free):FnScope N P sc:=⟨a,b,c,h.1,h.2.1,h.2.2.1,h.2.2.2⟩
end
abbrev jQ (S:iH)(n:Nat):Option (List<|Int×A):=match S[n]? with
 | some (.pD xs)=>some xs
 | _=>none
def nh{n:Nat}(h:jQ S n=some xs):S[n]?=some (.pD xs):=by
 unfold jQ at h;split at h
 ·rename_i e;cases h;exact e
 ·cases h
def zq{S:iH}{n:Nat}(h:S[n]?=some (.pD xs)):jQ S n=some xs:=by
 unfold jQ;rw[h]
abbrev kO (kvs:List<|Int×A)(k:Int):Option A:=(kvs.find? λkv=>decide<|kv.1=k).map (·.2)
abbrev uJ (kvs:List<|Int×A)(k:Int)(v:A):List (Int×A):=
 if (kO kvs k).isSome=true then kvs.map (λkv=>if kv.1=k then(kv.1,v)else kv)else kvs++[(k,v)]
section
variable {K:au}{ρ:ba}{H:Hp}
def Hy{p:Int×A}{r:List<|Int×A}{k:Int}(e:p.1=k):kO (p::r) k=some p.2:=by simp[kO,cI,e]
def HQ{p:Int×A}{r:List<|Int×A}{k:Int}(e:¬p.1=k):kO (p::r) k=kO r k:=by simp[kO,cI,e]
def VD{a b:Int}(e:(Sum.inl a:Key)=Sum.inl b):a=b:=by injection e
theorem DI.look:∀{kvs:List<|Int×A}{ks:List<|Key×V}(k:Int),DI K ρ H kvs ks->(kO kvs k).isSome=(sj ks (Sum.inl k:Key)).isSome/\∀x,kO kvs k=some x->∃v,sj ks (Sum.inl k:Key)=some v/\AV K ρ H x v
 | [],[],k,_=>⟨rfl,λx h=>nomatch h⟩
 | p::r,q::r',k,⟨⟨e,a⟩,t⟩=>by
  by_cases c:p.1=k
  ·have c':q.1=(Sum.inl k:Key):=by rw[e,c]
   rw[Hy c,uh c'];exact⟨rfl,λx h=>by cases h;exact⟨_,rfl,a⟩⟩
  ·have c':¬q.1=(Sum.inl k:Key):=λz=>c<|VD<|e.symm.trans z;rw[HQ c,t6 c'];exact DI.look k t
theorem DI.repl{x:A}{v:V}(h:AV K ρ H x v)(k:Int):∀{kvs:List<|Int×A}{ks:List<|Key×V},DI K ρ H kvs ks->DI K ρ H (kvs.map λkv=>if kv.1=k then(kv.1,x)else kv) (ks.map λkv=>if kv.1=(Sum.inl k:Key)then(kv.1,v)else kv)
 | [],[],_=>trivial
 | p::r,q::r',⟨⟨e,a⟩,t⟩=>by
  refine⟨?_,DI.repl h k t⟩;dsimp only;by_cases c:p.1=k
  ·rw[aL c,aL<|by rw[e,c]];exact⟨e,h⟩
  ·rw[aJ c,aJ λz=>c<|VD<|e.symm.trans z];exact⟨e,a⟩
theorem DI.snoc{x:A}{v:V}(h:AV K ρ H x v)(k:Int):∀{kvs:List<|Int×A}{ks:List<|Key×V},DI K ρ H kvs ks->DI K ρ H (kvs++[(k,x)]) (ks++[(Sum.inl k,v)])
 | [],[],_=>⟨⟨rfl,h⟩,trivial⟩
 | p::r,q::r',⟨a,t⟩=>⟨a,DI.snoc h k t⟩
def DI.put{x:A}{v:V}(h:AV K ρ H x v)(k:Int){ks:List<|Key×V}(d:DI K ρ H kvs ks):DI K ρ H (uJ kvs k x) (putK ks (Sum.inl k:Key) v):=by
 unfold uJ putK;rw[wz,<- (d.look k).1];by_cases c:(kO kvs k).isSome=true
 ·rw[aL c,aL c];exact DI.repl h k d
 ·rw[aJ c,aJ c];exact DI.snoc h k d
def DI.length:∀{kvs:List<|Int×A}{ks:List<|Key×V},DI K ρ H kvs ks->kvs.length=ks.length
 | [],[],_=>rfl
 | _::_,_::_,⟨_,t⟩=>dj (·+1) t.length
theorem DI.keys:∀{kvs:List<|Int×A}{ks:List<|Key×V},DI K ρ H kvs ks->ks.map (·.1)=kvs.map λkv=>(Sum.inl kv.1:Key)
 | [],[],_=>rfl
 | _::_,_::_,⟨⟨e,_⟩,t⟩=>by rw[bS,bS,e,DI.keys t]
def Rel.pD{n:Nat}{a:ak}(R:Rel K ρ H S)(ha:ρ[n]?=some a)(hS:S[n]?=some (.pD xs)):∃vs,H a=some (.dK vs)/\DI K ρ H xs vs:=R.at n a _ ha hS
def Rel.VI{S:iH}{p:ak}(R:Rel K ρ H S)(hp:H p=none)(r:DI K ρ H xs vs):Ext ρ (ρ++[p]) H (upd H p<|.dK vs)/\Rel K (ρ++[p]) (upd H p<|.dK vs) (S++[.pD xs])/\(ρ++[p])[S.length]?=some p:=by
 have ex:Ext ρ (ρ++[p]) H (upd H p<|.dK vs):=⟨⟨eT _ _,λa u _ h=>by rw[iR<|iW h hp];exact h⟩,λa u h _=>by rw[iR<|iW h hp];exact h,λa h=>by
  rcases bF.mp h with z|z
  ·exact .inl z
  ·have e:a=p:=by simpa using z
   rw[e];exact .inr hp⟩
 have np:p∉ρ:=R.Ed hp;have last:(ρ++[p])[S.length]?=some p:=by rw[<- R.len];simp
 refine⟨ex,⟨by simp[R.len],?_,?_⟩,last⟩
 ·rw[dh];refine⟨R.nd,by simp,λa ha b hb e=>?_⟩;have:b=p:=by simpa using hb
  exact np<|by rw[<- this,<- e];exact ha
 ·intro n a o h1 h2;by_cases hn:n<S.length
  ·rw[bg<|by rw[R.len];exact hn]at h1;rw[bg hn]at h2;have na:a≠p:=λz=>np (by rw[<- z];exact aY h1);have:=R.at n a o h1 h2
   cases o with
   | lst ys=>obtain⟨ws,e,q⟩:=this;exact⟨ws,by rw[iR na];exact e,q.ext ex⟩
   | dct _|pD _|qo _=>obtain⟨ws,e,q⟩:=this;exact⟨ws,by rw[iR na];exact e,q.ext ex⟩
   | ins _ _=>obtain⟨oo,uu,e⟩:=this;exact⟨oo,uu,by rw[iR na];exact e⟩
  ·have e:n=S.length:=by
    have:=(aM.mp h2).1;simp at this
    lia
   subst e;rw[last]at h1
   cases h1
   simp at h2;subst h2;exact⟨vs,jy,r.ext ex⟩
def Rel.uJ{S:iH}{n:Nat}{a:ak}(R:Rel K ρ H S)(ha:ρ[n]?=some a)(hS:S[n]?=some (.pD xs))(r:DI K ρ H ys ws):Ext ρ ρ H (upd H a<|.dK ws)/\Rel K ρ (upd H a<|.dK ws) (S.set n<|.pD ys):=by
 obtain⟨vs,e,_⟩:=R.at n a _ ha hS;have ex:Ext ρ ρ H (upd H a<|.dK ws):=⟨⟨dS _,λb u i h=>by
  have:b≠a:=by
   intro z;subst z;rw[e]at h;cases h;exact i
  rw[iR this];exact h⟩,λb u h n=>by
  rw[iR λz=>n<|by rw[z];exact aY ha];exact h,λ_ h=>.inl h⟩
 refine⟨ex,by rw[bO];exact R.len,R.nd,λm b o h1 h2=>?_⟩;by_cases hm:m=n
 ·subst hm;rw[ha]at h1;cases h1;rw[bE (aM.mp hS).1]at h2
  cases h2
  exact⟨ws,jy,r.ext ex⟩
 ·rw[bL<|dc hm]at h2;have nb:b≠a:=λz=>by
   subst z;obtain⟨l1,e1⟩:=aM.mp ha;obtain⟨l2,e2⟩:=aM.mp h1;exact hm<|(c8 R.nd).mp<|e2.trans e1.symm
  have:=R.at m b o h1 h2
  cases o with
  | lst ys=>obtain⟨ws',e',q⟩:=this;exact⟨ws',by rw[iR nb];exact e',q.ext ex⟩
  | dct _|pD _|qo _=>obtain⟨ws',e',q⟩:=this;exact⟨ws',by rw[iR nb];exact e',q.ext ex⟩
  | ins _ _=>obtain⟨oo,uu,e'⟩:=this;exact⟨oo,uu,by rw[iR nb];exact e'⟩
end
section
variable {X:Cx}{pos:Pos}{a b:aE}
abbrev wF (x y:A)(S:iH):R A:=match x,y with
 | .ref n,.int k=>opt (jQ S n) λkvs=>opt (kO kvs k) λv=>.ok v S
 | _,_=>.no
def HF{x:A}{P:A->iH->Prop}{E:Str->iH->Prop}(h:(wF x y S).post P E):∃n k kvs v,x=.ref n/\y=.int k/\jQ S n=some kvs/\kO kvs k=some v/\P v S:=by
 unfold wF at h;split at h
 ·obtain⟨kvs,h1,h⟩:=iQ h;obtain⟨v,h2,h⟩:=iQ h;exact⟨_,_,kvs,v,rfl,rfl,h1,h2,h⟩
 ·exact h.elim
def VM(hu:X.A.units+64<cLine):M_ X (r2 X wF):=λvalue slice pins s σ H x y v u Q I rx ry ⟨ρ,S,a,b,R,va,vb,h⟩ hs=>by
 obtain⟨n,k,kvs,z,ha,hb,hn,hz,hP⟩:=HF h;subst ha hb
 cases vb
 cases va with
 | @ref p _ hp=>
  obtain⟨ks,e,d⟩:=R.pD hp<|nh hn;obtain⟨w,hw,aw⟩:=(d.look k).2 z hz;have g:Ag H p (kV<|Sum.inl k) (sj ks<|Sum.inl k):=Ag.k e;rw[hw]at g;exact Nq () value slice pins s σ H _ _ v u Q I rx ry ⟨p,w,rfl,g,hP _ _ _ .refl R aw⟩ hs
def KP(hu:X.A.units+64<cLine){ca cb:Ex}(ha:AE X a ca)(hb:AE X b cb)(hs:vY b:=by exact λ_ _=>rfl):AE X (.Subscript a b pos) (iI wF ca cb):=PE.imp (Jj (VM hu) ha hb hs) λσ H Q h=>rE h
abbrev yy (o i v:A)(S:iH):R Unit:=match o,i with
 | .ref n,.int k=>opt (jQ S n) λkvs=>gd (kvs.length<sizeLine) (.ok Unit.unit<|S.set n<|.pD<|uJ kvs k v)
 | _,_=>.no
def DE{x v:A}{S:iH}{P:Unit->iH->Prop}{E:Str->iH->Prop}(h:(yy x y v S).post P E):∃n k kvs,x=.ref n/\y=.int k/\jQ S n=some kvs/\kvs.length<sizeLine/\P Unit.unit (S.set n<|.pD<|uJ kvs k v):=by
 unfold yy at h;split at h
 ·obtain⟨kvs,h1,h⟩:=iQ h;obtain⟨h2,h⟩:=iZ h;exact⟨_,_,kvs,rfl,rfl,h1,h2,h⟩
 ·exact h.elim
abbrev W6 (X:Cx):B4:=λo i v H Q=>∃ρ S ao ai av,Rel X.K ρ H S/\AV X.K ρ H ao o/\AV X.K ρ H ai i/\AV X.K ρ H av v/\(yy ao ai av S).post (λ_ S'=>∀ρ' H',Ext ρ ρ' H H'->Rel X.K ρ' H' S'->Q H') (XE X ρ H)
def OL(hu:X.A.units+64<cLine):Bw X (W6 X):=λpins s σ H o i v ov iv u Q I ro ri rv h9=>by
 obtain⟨ρ,S,ao,ai,av,R,h1,h2,h3,h⟩:=h9;obtain⟨n,k,kvs,ha,hb,hn,hl,hP⟩:=DE h;subst ha hb
 cases h2
 cases h1 with
 | @ref p _ hp=>
  obtain⟨ks,e,d⟩:=R.pD hp<|nh hn;obtain⟨ex,R'⟩:=R.uJ hp (nh hn)<|d.put h3 k;exact set_dict (by omega) pins s σ H _ _ v ov iv u Q I ro ri rv ⟨p,_,rfl,KR.k (k:=Sum.inl k) e<|by rw[<- d.length];exact hl,hP _ _ ex R'⟩
abbrev HK (co ci:Ex):Tg:=λa τ S=>(co τ S).bind λo S1=>(ci τ S1).bind λi S2=>(yy o i a S2).bind λ_ S3=>.ok τ S3
def DX(hu:X.A.units+64<cLine){co ci:Ex}(ho:AE X o co)(hi:AE X i ci)
  (ha:∀v,assign (.Subscript o i pos) X.env v=(do
   let ov <- holding [v] (eval o X.env)
   let iv <- holding [v,ov] (eval i X.env)
   standAt pos
   holding [v,ov,iv] (setItem ov iv v)
   release [v,ov,iv] []):=by intro _;rfl):AG X (.Subscript o i pos) (HK co ci):=PG.imp (CM ho hi (OL hu) ha) λv σ H Q h9=>by
 obtain⟨ρ,S,τ,a,R,r,va,h⟩:=h9;gp_on;kcf_m;cb_eq
abbrev C6:Ex:=λ_ S=>.ok (.ref S.length)<|S++[.pD []]
def JU:AE X (.Dict [] [] pos) C6:=PE.imp Ks λσ H Q ⟨ρ,S,τ,R,r,h⟩ p hp=>by
 obtain⟨ex,R',hl⟩:=R.VI (xs:=[]) (vs:=[]) hp trivial;exact h _ _ _ ex R'<|.ref hl
abbrev dk? (a:A)(S:iH):Option Unit:=match a with
 | .ref n=>(jQ S n).map λ_=>Unit.unit
 | _=>none
abbrev Hi (f:A->ad->iH->R A)(co:Ex)(d:pZ):Ex:=λτ S=>(co τ S).bind λx S1=>opt (dk? x S1) λ_=>(d τ S1).bind λas S2=>f x as S2
def dk?_ty{K:au}{H:Hp}{x:A}{v:V}(R:Rel K ρ H S)(a:AV K ρ H x v)(e:dk? x S=some u):VZ K "dict" v H:=by
 cases a with
 | @ref p n h=>
  obtain⟨xs,hx,_⟩:=bu.mp e;obtain⟨vs,h1,_⟩:=R.pD h<|nh hx;exact .inr<|.inr<|.inl ⟨rfl,.inl ⟨vs,h1⟩⟩
 | _=>cases e
def MF{e:aE}{id:String}{apos cpos:Pos}{f:A->ad->iH->R A}{co:Ex}{d:pZ}(slot:Slot "dict" name id)(hty:typeOf (.builtin id)=pure (.type "method_descriptor"))(hm:TV X id<|rM X f)(ho:AE X o co)(ha:AL X (e::es) d)
  (hbase:attributeBase o name X.env (eval o X.env)=eval o X.env:=by rfl)
  (hfew:((backTo cpos<|starEach (e::es) X.env).all (λx=>!x.1) && (backToKw cpos<|keywordEach [] X.env).all (λx=>x.1.isSome)
   && decide ((e::es).length+([]:List Keyword).length+(if ([]:List Keyword).isEmpty then 0 else 1)<30))=true:=by rfl)
  (hline:(apos.endLine == cpos.line)=true:=by rfl) (hs:starEach (e::es) X.env=(false,eval e X.env)::starEach es X.env:=by rfl) (hplain:(backTo cpos<|starEach es X.env).any (·.1)=false:=by rfl) :
  AE X (.Call (.Attribute o name apos) (e::es) [] cpos) (Hi f co d):=PE.imp (PC PySem.F.plainAttrs_dict slot hty hm ho ha hbase hfew hline hs hplain) λσ H Q h9=>by
 z_go;refine⟨ρ,S,τ,R,r,iF (iL h) .refl λx S1 h1 ρ1 H1 v e1 R1 v1=>?_⟩;obtain⟨xs,hx,h1⟩:=iQ h1;refine⟨dk?_ty R1 v1 hx,ρ1,S1,τ,R1,r.ext e1,iF (iL h1) e1 λas S2 h2 ρ2 H2 vs e2 R2 v2=>?_⟩;exact⟨ρ2,S2,x,as,R2,v1.ext e2,v2,iF h2 (e1.trans e2) λ_ _ z=>z.ext<|e1.trans e2⟩
abbrev uZ (o:A)(as:ad)(S:iH):R A:=match o,as with
 | .ref n,[.int k,y]=>opt (jQ S n) λkvs=>.ok ((kO kvs k).getD y) S
 | _,_=>.no
def Dr{x:A}{P:A->iH->Prop}{E:Str->iH->Prop}(h:(uZ x as S).post P E):∃n k y kvs,x=.ref n/\as=[.int k,y]/\jQ S n=some kvs/\P ((kO kvs k).getD y) S:=by
 unfold uZ at h;split at h
 ·obtain⟨kvs,h1,h⟩:=iQ h;exact⟨_,_,_,kvs,rfl,rfl,h1,h⟩
 ·exact h.elim
def Jp(hu:X.A.units+64<cLine):TV X "dict.get" (rM X uZ):=λpins s σ H x vs v us Q I rx rv h9=>by
 obtain⟨ρ,S,o,as,R,vo,va,h⟩:=h9;obtain⟨n,k,y,kvs,ho,has,hn,hP⟩:=Dr h;subst ho has;obtain⟨w1,w2,rfl,hz,hy⟩:=TF va
 cases hz
 cases vo with
 | @ref p _ hp=>
  obtain⟨ks,h1,dv⟩:=R.pD hp (nh hn)
  cases rx
  obtain⟨u1,u2,rfl,r1,r2⟩:=vals2 rv;refine Rk () I (Ag.k (k:=Sum.inl k) h1) r1 r2 λw' s' I' rw'=>⟨_,H,I',rw',hP _ _ _ .refl R ?_⟩;obtain⟨l1,l2⟩:=dv.look k
  cases e1:kO kvs k with
  | none=>
   rw[e1]at l1
   cases e2:sj ks (Sum.inl k:Key)with
   | none=>exact hy
   | some _=>rw[e2]at l1;cases l1
  | some x1=>
   obtain⟨v1,e2,a1⟩:=l2 x1 e1;rw[e2];exact a1
end
end Am
namespace L2
open PySem PySem.Spec PyProof.Rows
section
variable {P:aj}{w:ah}{A:aA}{E:af->aC->Prop}{s:aC}
def HD:typeLookup (.type "list") "keys" = pure none:=am_miss_of_fast<|by kernel_rfl
def HJ{a:ak}{o:Obj}{k:Nat}{Q:bb->aC->Prop}(hx:s.heap.get? a=some o)(hc:o.cls=.type "list")(hdat:o.data=.seq xs k)(hd:o.dict=none)(hA:A.handled=none)
  (h:∀h' tk,(∀b ob,s.heap.get? b=some ob->h'.get? b=some ob)->Q none { s with heap:=h',toks:=tk }):wpAny (model P w) A (getAttr? (.ref a) "keys") Q E s:=by
 obtain⟨c,dct,dat,sl⟩:=o;simp only at hc hdat hd;subst hc hdat hd;obtain⟨hp,g,d,tk,os⟩:=s;have hT:∀tk',(⟨hp,g,d,tk',os⟩:aC).TypeIs (.ref a) "list" := λ_=>⟨_,hx,rfl⟩;have f1:=sub_AttributeError;have f3:=fN.lookup;have f4:=fN.bind<|.ref a;have f5:=am_list_getattr_none;unfold getAttr? getAttrBy? getAttrBy
 repeat (any_goals (first|assumption|exact hT _|((with_reducible show wpAny _ _ (call (Value.builtin "list.__getattribute__") _ _) _ _ _);refine ir fN (hT _) am_entry_list_getattribute (F.args_list_getattribute_2 _ _) (meets_getattribute_miss_list a xs k sl "keys" _ HD ⋯ (by size_fits)) ⟨hx,hA,λh' tk' e hx'=>?_⟩)|wp_step))
 obtain⟨t',u',he⟩:=hx'.there
 skip
 unfold getattributeRaised
 repeat (any_goals (first|assumption|wp_step))
 exact h _ _ hx'.keeps
def yr:entryFor table "dict.update.loop" = some Builtin.«dict.update.loop»:=entryFor_of_tree<|by kernel_rfl
def rG:plainId "dict.update.loop" = true:=by decide +kernel
abbrev KS (h:aq)(d I:ak)(its:ar)(ps:List<|Int×af):Prop:=∀(i:Nat) (v:af),its[i]?=some v->∃(b:ak) (p:Int×af) (t:Tok),v=.ref b/\b≠d/\b≠I/\ps[i]?=some p/\IsTup h b #[.int p.1 t,p.2]
def KS.mono{h h':aq}{d:ak}(x:KS h d I its ps)(k:∀b o,b≠d->b≠I->h.get? b=some o->h'.get? b=some o):KS h' d I its ps:=λi v hv=>by
 obtain⟨b,p,t,h1,h2,h3,h4,o,h5,h6⟩:=x i v hv;exact⟨b,p,t,h1,h2,h3,h4,o,k b o h2 h3 h5,h6⟩
abbrev SV (ps:List<|Int×af):List (Key×af):=ps.foldl (λacc p=>stored acc (Sum.inl p.1) p.2) []
def LZ(ps:List<|Int×af)(i:Nat)(p:Int×af)(h:ps[i]?=some p):SV (ps.take<|i+1)=stored (SV<|ps.take i) (Sum.inl p.1) p.2:=by
 unfold SV;rw[gb,h,fm];rfl
theorem EL:∀(ps:List<|Int×af) (acc:List<|Key×af),(ps.foldl (λacc p=>stored acc (Sum.inl p.1) p.2) acc).length<=acc.length+ps.length
 | [],acc=>aQ _
 | p::ps,acc=>by
  have:=EL ps<|stored acc (Sum.inl p.1) p.2;have h:(stored acc (Sum.inl p.1) p.2).length<=acc.length+1:=by
   unfold stored;split
   ·rw[aK];lia
   ·rw[aX];exact aQ _
  rw[d8,bz]
  lia
def KD{R:Result->aC->Prop}{I d:ak}{St:Nat->aq->Prop}{its:ar}{ps:List<|Int×af}(W:Walks P w A.in1 I [I,l] [I] its.length (λi v=>its[i]?=some v) St)(hdI:d≠I)(hdl:d≠l)(hl:ps.length=its.length)(hz:ps.length<=sizeLine) :
  ∀(k i:Nat) (s:aC),its.length-i=k->i<=its.length->St i s.heap->s.heap.DictOf (jn P w) d (SV<|ps.take i)->KS s.heap d I its ps ->
   (∀h' tk,h'.DictOf (jn P w) d (SV ps)->(∀b o,b≠d->b≠I->s.heap.get? b=some o->h'.get? b=some o)->R (.ok<|.ret .none) { s with heap:=h',toks:=tk }) ->
   codeAny (model P w) A (.builtin "dict.update.loop" ⟨[.ref d,.ref I,rawInt i,.none],[]⟩) R s:=by
 intro k
 induction k with
 | zero=>
  intro i s hk hi hst hD hP hR;have hin:i=its.length:=()
  subst hin;refine gI yr ?_;rw[fu rG _]
  skip
  refine aH (W.done s _ _ hst λh' tk hm=>?_)
  skip
  refine aH (aO<|aO<|hR h' tk ?_ λb o _ h2 e=>hm b o (by simpa using h2) e);rw[<- hl,gw]at hD;obtain⟨o,es,ep,ho,rest⟩:=hD;exact⟨o,es,ep,hm d o (by simpa using hdI) ho,rest⟩
 | succ k ih=>
  intro i s hk hi hst hD hP hR;have hlt:i<its.length:=()
  refine gI yr ?_;rw[fu rG _]
  skip
  refine aH<|W.item i s _ _ hlt hst λv h' tk hv hst' hm=>?_;have hP':KS h' d I its ps:=hP.mono λb o h1 h2 e=>hm b o (by simpa using h2) e;obtain⟨b,p,t,rfl,hbd,hbI,hp,o,ho,hc,n,hd⟩:=hP' i v hv;have hD':h'.DictOf (jn P w) d (SV<|ps.take i):=by
   obtain⟨o,es,ep,ho,rest⟩:=hD;exact⟨o,es,ep,hm d o (by simpa using hdI) ho,rest⟩
  have hT:Shared.TypeIs { s with heap:=h',toks:=tk } (.ref b) "tuple" := ⟨o,ho,hc⟩;have hpair:∀(A:aA) (E:af->aC->Prop) (Q:ar->aC->Prop),Q [.int p.1 t,p.2] { s with heap:=h',toks:=tk }->wpAny (model P w) A (Builtin.Dict.pairItems<|.ref b) Q E { s with heap:=h',toks:=tk }:=λA E Q q=>by
   unfold Builtin.Dict.pairItems;refine aH<|fX hT ?_;rw[aL ⋯];refine aH<|f6 ho hd<|aO q
  have hlen:(SV<|ps.take i).length<=sizeLine:=by
   refine bP (EL (ps.take i) []) ?_;rw[bq,cg]
   lia
  refine aH (dg<|aH<|wpAny_tryCatch<|hpair _ _ _ ?_)
  skip
  refine dg (wpAny_dictSet_pairs (hsz:=hlen) (knd:=jn P w) (k:=Sum.inl p.1) (s:={ s with heap:=h',toks:=tk }) (show Value.isInt p.1 (.int p.1 t)=true by simp[Value.isInt]) hD' λh2 hD2 hs=>?_);refine aO ⟨plainId_quiet rG _,?_⟩;have hsame:∀b o,b≠d->b≠I->s.heap.get? b=some o->h2.get? b=some o:=λb o h3 h4 e=>by rw[hs.2 b h3];exact hm b o (by simpa using h4) e
  refine ih (i+1) _ () hlt (W.frame _ _ _ hst' λb hb o e=>?_) (by rw[LZ ps i p hp];exact hD2) (hP.mono hsame) λh3 tk3 hD3 hs3=>hR h3 tk3 hD3 λb o h4 h5 e=>hs3 b o h4 h5<|hsame b o h4 h5 e;have hne:b≠d:=by
   intro z;subst z
   rcases bJ.mp hb with z|z
   ·exact hdI z
   ·exact hdl<|by simpa using z
  skip
  rw[hs.2 b hne];exact e
theorem yL{H:Hp}{X:Cx}(I:Inv X pins σ H s):∀(rs:ba) (ps:List<|Int×V),rs.length=ps.length->(∀(i:Nat) (r:ak) (q:Int×V),rs[i]?=some r->ps[i]?=some q->lO X.K H r [.int q.1,q.2]) ->
  ∃qs:List<|Int×af,KV ps qs/\∀(i:Nat) (r:ak),rs[i]?=some r->∃q t,qs[i]?=some q/\IsTup s.heap r #[.int q.1 t,q.2]
 | [],[],_,_=>⟨[],.nil,λi r h=>by simp at h⟩
 | [],_::_,h,_=>nomatch h
 | _::_,[],h,_=>nomatch h
 | r::rs,p::ps,hl,hh=>by
  obtain⟨qs,h1,h2⟩:=yL I rs ps (by simpa using hl) λi r q e1 e2=>hh (i+1) r q (by simpa using e1) (by simpa using e2);obtain⟨its,rv,tp,_⟩:=I.tuple<|hh 0 r p rfl rfl;obtain⟨u1,u2,rfl,r1,r2⟩:=vals2 rv;obtain⟨t,rfl⟩:∃t,u1=Value.int p.1 t:=r1;refine⟨(p.1,u2)::qs,.cons ⟨rfl,r2⟩ h1,λi r' e=>?_⟩
  cases i with
  | zero=>cases e;exact⟨(p.1,u2),t,rfl,tp⟩
  | succ i=>exact h2 i r'<|by simpa using e
abbrev Wt (ps:List<|Int×V):List (Key×V):=ps.foldl (λacc p=>putK acc (Sum.inl p.1) p.2) []
def Ub:∀{ps:List<|Int×V}{qs:List<|Int×af},KV ps qs->∀{as:List<|Key×V}{bs:List<|Key×af},KV as bs->KV (ps.foldl (λacc p=>putK acc (Sum.inl p.1) p.2) as) (qs.foldl (λacc p=>stored acc (Sum.inl p.1) p.2) bs):=by
 intro ps qs h;unfold KV at h
 induction h with
 | nil=>exact λh=>h
 | @cons p q ps qs h t ih=>
  intro as bs h2;rw[d8,d8];obtain⟨e,r⟩:=h;rw[e];exact ih<|h2.put _ r
theorem FI:∀(ps:List<|Int×V) (acc:List<|Key×V),(ps.foldl (λacc p=>putK acc (Sum.inl p.1) p.2) acc).length<=acc.length+ps.length
 | [],acc=>aQ _
 | p::ps,acc=>by
  have:=FI ps<|putK acc (Sum.inl p.1) p.2;have:=qF acc (Sum.inl p.1) p.2;rw[d8,bz]
  lia
end
section
variable {X:Cx}
def C9(hc:X.calm=true):jk X (.type "dict") (λxs H Q=>∃(p:ak) (rs:ba) (ps:List<|Int×V),xs=[.ref p]/\ny X.K H p (rs.map V.ref)/\rs.length=ps.length /\
  (∀(i:Nat) (r:ak) (q:Int×V),rs[i]?=some r->ps[i]?=some q->lO X.K H r [.int q.1,q.2])/\∀l,H l=none->Q (.ref l) (upd H l<|.dK<|Wt ps)):=by
 kt_k;obtain⟨p,rs,ps,rfl,hq,hlen,hT,q⟩:=h;kpf_c
 cases rx
 obtain⟨its,rv,pl,hz⟩:=I.list hq;have ei:=yD rv;subst ei;rw[aK]at hz;obtain⟨qs,kv,tp⟩:=yL I rs ps hlen hT;have ql:ps.length=qs.length:=kv.length;obtain⟨o,n,ho,hcl,hdn,hd⟩:=pl;have lp:p<s.heap.objs.size:=br ho;refine callType_codes (Q₁:=λobj s₁=>obj=.ref s.heap.objs.size/\s₁={ s with heap:=s.heap.push { cls:=.type "dict",data:=.dict #[]}}) F.kt_called_dict (F.kt_typeCall_dict_1 _) F.entry_dict_init (kt_code_dict_new _ ⟨rfl,rfl⟩) ?_;rintro obj s₁ ⟨rfl,rfl⟩;have hnew:(s.heap.push { cls:=.type "dict",data:=.dict #[]}).DictOf (jn X.prog X.w) s.heap.objs.size []:=Heap.DictOf.new s.heap;have ho':(s.heap.push { cls:=.type "dict",data:=.dict #[]}).get? p=some o:=aR _ ho;have hTy:Shared.TypeIs { s with heap:=s.heap.push { cls:=.type "dict",data:=.dict #[]}} (.ref p) "list" := ⟨o,ho',hcl⟩;refine⟨hnew.typeIs,F.args_dict_init_2 _ _,?_⟩;unfold Builtin.«dict.__init__»;refine aH ?_;unfold Builtin.Dict.selfAndRest;refine aH (wpAny_notOrdered_dict hnew.typeIs ?_)
 skip
 refine aO ?_;show wpAny _ _ (Builtin.Dict.updateFrom "dict.__init__" s.heap.objs.size (.ref p) [] .none) _ _ _;unfold Builtin.Dict.updateFrom;refine aH<|fX hTy ?_;rw[aL ⋯];refine aH<|HJ ho' hcl hd hdn (show X.A.in1.in1.handled=none from I.ok.hd hc) λh' tk hk=>?_;rw[aL<|by rfl];refine aH<|dW ?_;have hl2:h'.IsList p (rs.map Value.ref).toArray:=⟨o,hk p o ho',hcl,n,hd⟩;refine aH<|wpAny_pyIter_list (s:={ s with heap:=h',toks:=tk }) hl2 ?_;refine aO ⟨plainId_quiet rG _,?_⟩;have sz:s.heap.objs.size<h'.objs.size:=br<|hk _ _<|bB _ rfl;have W:Walks X.prog X.w X.A.in1.in1 h'.objs.size [h'.objs.size,p] [h'.objs.size] (rs.map Value.ref).length (λi v=>(rs.map Value.ref)[i]?=some v) (λi h=>h.IsListIter h'.objs.size p i/\h.IsList p (rs.map Value.ref).toArray):=by
  have W:=Walks.list (prog:=X.prog) (w:=X.w) (A:=X.A.in1.in1) (I.ok.hd hc) h'.objs.size p (bD<|br<|hk p o ho') (rs.map Value.ref).toArray;rw[aW]at W;dsimp[dZ]at W;exact W
 refine KD (d:=s.heap.objs.size) (its:=rs.map Value.ref) (ps:=qs) W (bD sz) (dc<|bD lp) (by rw[aK];lia) () (rs.map Value.ref).length 0 _ () (cL _)
  ⟨⟨_,bB _ rfl,rfl,rfl⟩,hl2.push _⟩ ?_ (λi v hv=>?_) λh2 tk2 hD hs=>⟨rfl,.ref s.heap.objs.size,_,I.laid (t':=tk2) (o:=.dK<|Wt ps) (λb ob eb=>?_) (aQ _) ?_,rfl,q _<|I.hok.fresh<|aQ _⟩
 ·obtain⟨o,es,ep,e,rest⟩:=hnew;exact⟨o,es,ep,aR _<|hk _ _ e,rest⟩
 ·rw[bh]at hv;obtain⟨r,hr,rfl⟩:=bu.mp hv;obtain⟨q,t,h1,o2,h2,h3⟩:=tp i r hr;have lr:=br h2;exact⟨r,q,t,rfl,bD lr,bD<|lt_trans lr sz,h1,o2,aR _<|hk _ _<|aR _ h2,h3⟩
 ·have lb:=br eb;exact hs b ob (bD lb) (bD<|lt_trans lb sz) (aR _<|hk _ _<|aR _ eb)
 ·refine Kr (bP (FI ps [])<|by rw[cg];lia) ?_ (Ub kv .nil) hD;exact cW.mpr<|dc<|bD I.big
abbrev NV (ns:ae):Sx.Ord where
 lt i j:=decide (ns.getD i 0<ns.getD j 0)
 NL i:=aS ()
 tr i j k h1 h2:=aT (by have:=cB h1;have:=cB h2;lia)
 neg i j k h:=by
  have:=cB h;by_cases c:ns.getD i 0<ns.getD j 0
  ·exact .inl (aT c)
  ·exact .inr<|aT ()
theorem vJ:∀{vs:ar}{ns:ae},IntsAre vs ns->vs.length=ns.length/\∀i,i<vs.length->∃t,vs.getD i .none=.int (ns.getD i 0) t
 | _,_,.nil=>⟨rfl,λi h=>absurd h<|d9 _⟩
 | _,_,.cons n t h=>by
  obtain⟨h1,h2⟩:=vJ h;refine⟨dj (·+1) h1,λi hi=>?_⟩
  cases i with
  | zero=>exact⟨t,rfl⟩
  | succ i=>exact h2 i<|by simpa using hi
theorem xZ{f:Nat->Int}{h:Nat->af}:∀(l:ag),(∀i∈l,∃t,h i=.int (f i) t)->Vals (l.map λi=>V.int<|f i) (l.map h)
 | [],_=>.nil
 | i::l,e=>.cons (e i<|aN ..)<|xZ l λj hj=>e j<|aP _ hj
def Dk{s:aC}{H:Hp}{Q:VK}{h':aq}{tk:Nat}{vs:ar}{ns:ae}(I1:Inv X pins σ H { s with heap:=h',toks:=tk })(hi:IntsAre vs ns)(hz:vs.length<=sizeLine)
  (q:∀l g,H l=none->Sx.Cl g 0 ns.length->Sx.So (NV ns) g 0 ns.length->Q (.ref l) (upd H l<|.lst<|(List.range ns.length).map λi=>V.int<|ns.getD (g i) 0)) :
  wpAny (model X.prog X.w) X.A.in1 (do
   let l <- newList vs
   let _ <- holding [l] (call (Value.builtin "list.sort") [l] [])
   ret l) (λfin s'=>∃v,fin=Fin.done (Flow.ret v)/\EP X pins σ Q v s') X.xe { s with heap:=h',toks:=tk }:=by
 obtain⟨hN,at_⟩:=vJ hi;refine aH<|wpAny_newList ?_;have hoL:(h'.push<|seqObj "list" vs.toArray 0).get? h'.objs.size=some (seqObj "list" vs.toArray 0):=bB _ rfl
 skip
 refine aH (dg<|dR slot_list_sort ⟨_,hoL,rfl⟩ entry_list_sort (Sx.Hv (o:=NV ns) (kd:=oneType') hoL hz (λh2 Q' q'=>?_) (λh2 i j hi' hj E' Q' q'=>?_) λg hc hs=>⟨_,rfl,?_⟩)<|args_list_sort _)
 ·obtain⟨a,b,r,rfl⟩:∃a b r,vs=a::b::r:=by
   cases vs with
   | nil=>simp at h2
   | cons a vs=>cases vs with
    | nil=>simp at h2
    | cons b r=>exact⟨a,b,r,rfl⟩
  exact wpAny_of_eq (keyKind_ints hi) q'
 ·obtain⟨t,e1⟩:=at_ i hi';obtain⟨u,e2⟩:=at_ j hj;show wpAny _ _ (keyLt' oneType' (vs.getD i .none)<|vs.getD j .none) Q' E' _;rw[e1,e2,keyLt'_oneType];exact Sx.OI true q'
 ·rw[hN]at hc hs ⊢;obtain⟨e,he⟩:=sortedHeap_at (out:=((List.range ns.length).map λi=>vs.getD (g i) .none).toArray) hoL;have old:∀b ob,h'.get? b=some ob->(sortedHeap (h'.push<|seqObj "list" vs.toArray 0) h'.objs.size vs ((List.range ns.length).map λi=>vs.getD (g i) .none).toArray).get? b=some ob:=λb ob eb=>by
   rw[sortedHeap_old (bD<|br eb)<|by rw[fY];exact Nat.lt_succ_of_lt<|br eb];exact aR _ eb
  refine aO ⟨_,rfl,.ref h'.objs.size,_,I1.laid (t':=tk) (o:=.lst<|(List.range ns.length).map λi=>V.int<|ns.getD (g i) 0) old (aQ _) ?_,rfl,q _ g (I1.hok.fresh<|aQ _) hc hs⟩;refine⟨by rw[aK,cK];omega,(List.range ns.length).map λi=>vs.getD (g i) .none,e,xZ _ λi hi=>at_ _ (by have:=(hc i (cL _)<|dF.mp hi).2;omega),he⟩
def Ht{P:aj}{w:ah}{vs:List<|Key×af}:∀{acc:ar}{ns:ae},vs.map (·.1)=ns.map Sum.inl->acc.length=vs.length->(∀(j:Nat) v,acc[j]?=some v->∃k x,vs[j]?=some (k,x)/\(jn P w).is k v=true)->IntsAre acc ns:=by
 intro acc ns hk hl h
 induction acc generalizing vs ns with
 | nil=>cases vs with
  | nil=>cases ns with
   | nil=>exact .nil
   | cons=>cases hk
  | cons=>cases hl
 | cons a acc ih=>cases vs with
  | nil=>cases hl
  | cons v vs=>cases ns with
   | nil=>cases hk
   | cons n ns=>
    rw[bS,bS,List.cons.injEq]at hk;obtain⟨k,x,e1,e2⟩:=h 0 a rfl
    cases e1
    obtain⟨e3,e4⟩:=hk;have e3:k=Sum.inl n:=e3;subst e3;obtain⟨t,rfl⟩:=Value.isInt_shape (k:=n) (v:=a) e2;exact .cons n t<|ih e4 (by simpa using hl) λj v e=>h (j+1) v<|by simpa using e
def zf(hc:X.calm=true):jk X (.builtin "sorted") (λxs H Q=>∃(d:ak) (kvs:List<|Key×V) (ns:ae),xs=[.ref d]/\H d=some (.dK kvs)/\kvs.map (λp=>p.1)=ns.map Sum.inl /\
  ∀l g,H l=none->Sx.Cl g 0 ns.length->Sx.So (NV ns) g 0 ns.length->Q (.ref l) (upd H l<|.lst<|(List.range ns.length).map λi=>V.int<|ns.getD (g i) 0)):=by
 kt_k;obtain⟨d,kvs,ns,rfl,ed,ek,q⟩:=h;kpf_c
 cases rx
 obtain⟨z,hd,vs,rel,dd⟩:=PZ I.hok ed;obtain⟨ep,da⟩:=dd.dictAt;have kl:kvs.length=vs.length:=rel.length;have ke:vs.map (·.1)=kvs.map (·.1):=by
  clear ek z dd da kl ed;unfold KV at rel
  induction rel with
  | nil=>rfl
  | cons h _ ih=>rw[bS,bS,ih,h.1]
 refine Calls.call_function_entry kind_sorted plain_sorted entry_sorted (args_sorted1 _) ?_;unfold Builtin.«sorted»;refine aH (m:=checkCount "sorted" 1 1 _)<|aO ?_;refine aH<|PySem.W.kdu_collect (PySem.W.kdl_dict hd) (show X.A.in1.handled=none from I.ok.hd hc) da () λh' tk acc hk hacc=>?_;have al:acc.toList.length=vs.length:=by rw[cD];exact hacc.1
 exact Dk (s:=s) (I.kept (t':=tk) hk) (Ht (P:=X.prog) (w:=X.w) (ke.trans ek) al λj v e=>hacc.2 j v<|by rw[e_]at e;exact e) () q
end
end L2
namespace Am
open PySem PySem.Spec PyProof.Rows L2
abbrev NP:ad->Option (List<|Int×A)
 | []=>some []
 | .tup [.int k,x]::r=>(NP r).map λps=>(k,x)::ps
 | _=>none
abbrev OY (ps:List<|Int×A):List (Int×A):=ps.foldl (λacc p=>uJ acc p.1 p.2) []
section
variable {K:au}{ρ:ba}{H:Hp}
def Nz{x:A}(r:AVs K ρ H [x,y] vs):∃v w,vs=[v,w]/\AV K ρ H x v/\AV K ρ H y w:=by
 cases r with
 | cons h t=>cases t with
  | cons h' t'=>cases t';exact⟨_,_,rfl,h,h'⟩
def IQ{x:A}(e:NP (x::xs)=some ps):∃k y ps',x=.tup [.int k,y]/\NP xs=some ps'/\ps=(k,y)::ps':=by
 unfold NP at e;split at e
 ·rename_i e2;cases e2
 ·rename_i k y r e2
  cases e2
  obtain⟨ps',h1,h2⟩:=bu.mp e;exact⟨_,_,_,rfl,h1,h2.symm⟩
 ·cases e
def UB:∀{xs:ad}{vs:List V}{ps:List<|Int×A},AVs K ρ H xs vs->NP xs=some ps ->
  ∃(rs:ba) (qs:List<|Int×V),vs=rs.map V.ref/\rs.length=qs.length/\(∀(i:Nat) (r:ak) (q:Int×V),rs[i]?=some r->qs[i]?=some q->lO K H r [.int q.1,q.2]) /\
   ∀as bs,DI K ρ H as bs->DI K ρ H (ps.foldl (λacc p=>uJ acc p.1 p.2) as) (qs.foldl (λacc p=>putK acc (Sum.inl p.1) p.2) bs):=by
 intro xs
 induction xs with
 | nil=>intro vs ps r e;cases r;cases e;exact⟨[],[],rfl,rfl,λi r q h=>by simp at h,λas bs h=>h⟩
 | cons x xs ih=>
  intro vs ps r e;obtain⟨k,y,ps',rfl,e1,rfl⟩:=IQ e
  cases r with
  | cons h t=>
   obtain⟨rs,qs,rfl,hl,hh,hd⟩:=ih t e1
   cases h with
   | @tup a _ us h r=>
    obtain⟨v,w,rfl,h1,h2⟩:=Nz r
    cases h1
    refine⟨a::rs,(k,w)::qs,rfl,by rw[bz,bz,hl],λi r q e1 e2=>?_,λas bs d=>hd _ _<|d.put h2 k⟩
    cases i with
    | zero=>cases e1;cases e2;exact lO.of h
    | succ i=>exact hh i r q (by simpa using e1)<|by simpa using e2
end
section
variable {X:Cx}
abbrev CQ (x:A)(S:iH):R A:=match x with
 | .ref n=>opt (iG S n) λxs=>opt (NP xs) λps=>.ok (.ref S.length) (S++[.pD<|OY ps])
 | _=>.no
def Nx(hc:X.calm=true):jk X (.type "dict") (rN X<|f1 CQ):=jk.imp (C9 hc) λvs H Q h0=>by
 kpc_g;clear h0
 cases hv with
 | ref hp=>
  rename_i p n;kj_on;obtain⟨ps,hb,h⟩:=iQ h;obtain⟨us,h1,r⟩:=R.lst hp<|iU hn;obtain⟨rs,qs,rfl,hl,hh,hd⟩:=UB r hb;refine⟨p,rs,qs,rfl,ny.of h1,hl,hh,λl hl'=>?_⟩;obtain⟨ex,R',hl⟩:=R.VI (xs:=OY ps) (vs:=Wt qs) hl'<|hd [] [] trivial;exact h _ _ _ ex R'<|.ref hl
 | _=>exact h.elim
abbrev wo (x:A)(S:iH):R A:=match x with
 | .ref n=>opt (jQ S n) λkvs=>.ok (.ref S.length) (S++[.lst<|(sortI<|kvs.map Prod.fst).map .int])
 | _=>.no
def O_{ns:ae}{g:Nat->Nat}(c:Sx.Cl g 0 ns.length)(so:Sx.So (NV ns) g 0 ns.length):(List.range ns.length).map (λi=>ns.getD (g i) 0)=sortI ns:=by
 refine O0 ?_ ?_ (xR ns)
 ·refine List.Perm.trans ?_ (sortI_perm ns).symm;have p:=xq (N:=ns.length) (g:=g) (λi hi=>(c i (cL _) hi).2) λi j hij hj z=>by
   have:=so i j (cL _) hij hj;rw[z]at this;exact this.NL
  have:=p.map λi=>ns.getD i 0;rw[cH,range_getD]at this;exact this
 ·rw[di];intro i j hi hj hij;rw[aK,cK]at hi hj;rw[cV,cV,eU,eU];have:=dY (so i j (cL _) hij hj).ge
  lia
def NB(hc:X.calm=true):jk X (.builtin "sorted") (rN X<|f1 wo):=jk.imp (zf hc) λvs H Q h0=>by
 kpc_g;clear h0
 cases hv with
 | ref hp=>
  rename_i p n;obtain⟨kvs,hn,h⟩:=iQ h;obtain⟨ks,g1,dv⟩:=R.pD hp<|nh hn;refine⟨p,ks,kvs.map Prod.fst,rfl,g1,by rw[dv.keys,cH];rfl,λl g hl' hc hs=>?_⟩;have av:AVs X.K ρ H ((sortI<|kvs.map Prod.fst).map .int) ((List.range (kvs.map Prod.fst).length).map λi=>V.int<|(kvs.map Prod.fst).getD (g i) 0):=by
   rw[<- O_ hc hs,cH];exact JH λi _=>.int _
  exact lY R av .refl h l hl'
 | _=>exact h.elim
@[irreducible] noncomputable def big:Nat:=2 ^ 4096
theorem zL:big=2 ^ 4096:=by unfold big;rfl
def Ct{i:Int}(h:i.natAbs<big):Builtin.Int.intBits i<=2 ^ 20:=by
 rw[zL]at h;exact bP (intBits_le h) ⋯
abbrev GD (a b:A)(S:iH):R A:=match a,b with
 | .int i,.int j=>gd (i.natAbs<big/\j.natAbs<big) (.ok (.int<|i * j) S)
 | _,_=>.no
def Tw:lQ X (binaryOp .Mult) (r2 X GD):=λpins s σ H x y v u Q I rx ry h9=>by
 x_go
 cases va with
 | int i=>cases vb with
  | int j=>
   obtain⟨⟨h1,h2⟩,h⟩:=iZ h;obtain⟨t,rfl⟩:∃t,v=Value.int i t:=rx;obtain⟨t',rfl⟩:∃t,u=Value.int j t:=ry;exact mul_int ⟨.int _,H,I.tok _,⟨_,rfl⟩,h _ _ _ .refl R<|.int _⟩<|IntMulOk.of_bits (Ct h1)<|Ct h2
  | _=>exact h.elim
 | _=>exact h.elim
end
def Oo:bootBuiltins "dict" = some (.type "dict"):=by decide +kernel
end Am
namespace L2
open PySem PySem.Spec PyProof.Rows
section
variable {X:Cx}{pins:bn}{σ:St}{H:Hp}{s:aC}{a:ak}{xs:List (kg×ak×af)}
def Qp{r:ak}{x:ae}(I:Inv X pins σ H s)(h:H r=some (.tup<|x.map V.int)):TK s.heap x r:=by
 obtain⟨_,its,rv,o,h1,h2,_,n,h3⟩:=(show jC _ _ H s.heap r (.tup<|x.map V.int)from I.hok r _ h);exact⟨o,its.toArray,n,h1,h2,h3,by simpa using intsAre_of rv⟩
def vG{k:kg}(I:Inv X pins σ H s)(h:pT H b k):rV s.heap k b:=by
 obtain⟨r1,r2,h1,h2,h3⟩:=h;obtain⟨_,its,rv,o,e1,e2,_,n,e3⟩:=(show jC _ _ H s.heap b (.tup [.ref r1,.ref r2])from I.hok b _ h1);obtain⟨u1,u2,rfl,q1,q2⟩:=vals2 rv
 cases q1
 cases q2
 exact⟨o,n,r1,r2,e1,e2,e3,Qp I h2,Qp I h3⟩
def Jg(I:Inv X pins σ H s)(e:H a=some (.ext<|sI a xs))(hk:∀x∈xs,pT H x.2.1 x.1):(a == sysModules)=false/\xs.length<=sizeLine/\s.heap.DictOfH (Bx X.prog X.w) a xs:=by
 obtain⟨⟨h1,h2,o,es,ep,h3,h4,h5,h6,h7⟩,_⟩:=(show jC _ _ H s.heap a (.ext<|sI a xs)from I.hok a _ e);exact⟨h1,h2,o,es,ep,h3,h4,h5,h6,λx hx=>vG I<|hk x hx,h7⟩
def IF{P:aj}{w:ah}{H':Hp}{h':aq}(h1:(a == sysModules)=false)(h2:xs.length<=sizeLine)(dd:h'.DictOfH (Bx P w) a xs):jC P w H' h' a (.ext<|sI a xs):=by
 obtain⟨o,es,ep,h3,h4,h5,h6,_,h7⟩:=dd;refine⟨⟨h1,h2,o,es,ep,h3,h4,h5,h6,h7⟩,⟨o,h3⟩,λg1 g2 φ k=>?_⟩;obtain⟨q1,q2,o,es,ep,h3,q⟩:=φ;exact⟨q1,q2,o,es,ep,k o h3,q⟩
structure DPg (H:Hp)(a b:ak)(xs:List (kg×ak×af))(k:kg):Prop where
 d:H a=some (.ext<|sI a xs)
 ks:∀x∈xs,pT H x.2.1 x.1
 k:pT H b k
def T5(hu:X.A.units+32<cLine):M_ X (λx y H Q=>∃a b xs k p v,x=.ref a/\y=.ref b/\DPg H a b xs k/\atKey xs k=some p/\RelV v p.2/\Q v H):=by
 ksr_p;obtain⟨a,b,xs,k,p,z,rfl,rfl,g,hp,rz,q⟩:=h
 cases rx
 cases ry
 obtain⟨h1,h2,dd⟩:=Jg I g.d g.ks;have hT:=dd.typeIs;unfold subscriptTail;refine aH ?_;rw[getitemInPython_of_ne hT.not_modules];refine aH<|eV hT PySem.F.slot_dict_getitem.lookup ?_;have fin:wpAny (model X.prog X.w) X.A (subscripted slice false (.ref a)<|.ref b) (λr s₃=>wpAny (model X.prog X.w) X.A (letTemporaryGo value (.ref a) r >>= λ_=>pure r) (EP X pins σ Q) X.xe s₃) X.xe s:=by
  rw[hs];exact wpAny_operating<|wpAny_getItem_heap (show X.A.in1.units+16<cLine by simp;lia) (vG I g.k) dd hp<|aH<|wpAny_letTemporaryGo<|aO ⟨z,H,I.tok _,rz,q⟩
 first
  | exact aO (aH fin)
  | exact aH (aO<|aH fin)
  | exact aH fin
def GW(hu:X.A.units+32<cLine):lQ X (compareOp .NotIn) (λy x H Q=>∃a b xs k,x=.ref a/\y=.ref b/\DPg H a b xs k/\Q (.bl<|!(atKey xs k).isSome) H):=by
 intro pins s σ H y x v u Q I ry rx h;obtain⟨a,b,xs,k,rfl,rfl,g,q⟩:=h
 cases rx
 cases ry
 obtain⟨h1,h2,dd⟩:=Jg I g.d g.ks;exact wpAny_notIn_heap (show X.A.in1.units+16<cLine by simp;lia) (vG I g.k) h1 dd ⟨.bl _,H,I.tok _,rfl,q⟩
def Bp{xs:List<|kg×ak×af}{k:kg}:(storedH xs k b u).length<=xs.length+1:=by
 unfold storedH;split
 ·rw[aK];lia
 ·rw[aX];exact aQ _
def QN(hu:X.A.units+32<cLine):Bw X (λo i v H Q=>∃a b xs k,o=.ref a/\i=.ref b/\DPg H a b xs k/\xs.length<sizeLine/\∀u,RelV v u->Q (upd H a<|.ext<|sI a<|storedH xs k b u)):=by
 intro pins s σ H o i v ov iv u Q I ro ri rv h;obtain⟨a,b,xs,k,rfl,rfl,g,hl,q⟩:=h
 cases ro
 cases ri
 obtain⟨h1,h2,dd⟩:=Jg I g.d g.ks;refine wpAny_setItem_heap (hsz:=h2) (show X.A.in1.units+16<cLine by simp;lia) (vG I g.k) dd λh' dd' hs=>⟨_,?_,q u rv⟩;have he:∃q,h'.get? a=some q:=let⟨q,_,_,hq,_⟩:=dd';⟨q,hq⟩
 exact zl I (by rw[g.d];exact True.intro) hs he<|IF h1 (bP Bp hl) dd'
abbrev Tn:TE:=λ_ H Q=>∀p,H p=none->Q (.ref p) (upd H p<|.ext<|sI p [])
def IG:PE X (.Dict [] [] pos) Tn:=λpins s σ H Q I h=>
 wpAny_Dict_empty ⟨.ref s.heap.objs.size,_,I.laid (a:=s.heap.objs.size) (o:=.ext<|sI s.heap.objs.size []) (t':=s.toks) (λ_ _ q=>aR _ q) (aQ _)
  (IF (cW.mpr<|dc<|bD I.big) (cL _) ⟨_,#[],0,bB _ rfl,⟨rfl,rfl,rfl⟩,rfl,rfl,(nofun),fC⟩),rfl,h _<|I.hok.fresh<|aQ _⟩
end
end L2
namespace Am
open PySem PySem.Spec PyProof.Rows L2
abbrev mC (S:iH)(n:Nat):Option (List<|kg×A):=match S[n]? with
 | some (.qo xs)=>some xs
 | _=>none
def nE{n:Nat}(h:mC S n=some xs):S[n]?=some (.qo xs):=by
 unfold mC at h;split at h
 ·rename_i e;cases h;exact e
 ·cases h
def wX{S:iH}{n:Nat}(h:S[n]?=some (.qo xs)):mC S n=some xs:=by
 unfold mC;rw[h]
abbrev lX (kvs:List<|kg×A)(k:kg):Option A:=(kvs.find? λkv=>decide<|kv.1=k).map (·.2)
abbrev qH (kvs:List<|kg×A)(k:kg)(v:A):List (kg×A):=
 if (lX kvs k).isSome=true then kvs.map (λkv=>if kv.1=k then(kv.1,v)else kv)else kvs++[(k,v)]
abbrev yh (x:A):Option kg:=match x with
 | .tup [.tup xs,.tup ys]=>(A.ints xs).bind λns=>(A.ints ys).map λms=>(ns,ms)
 | _=>none
section
variable {K:au}{ρ:ba}{H:Hp}
def rH{p:kg×A}{r:List<|kg×A}{k:kg}(e:p.1=k):lX (p::r) k=some p.2:=by simp[lX,cI,e]
def pY{p:kg×A}{r:List<|kg×A}{k:kg}(e:¬p.1=k):lX (p::r) k=lX r k:=by simp[lX,cI,e]
theorem DP.look:∀{kvs:List<|kg×A}{ks:List<|kg×ak×af}(k:kg),DP K ρ H kvs ks->(lX kvs k).isSome=(atKey ks k).isSome/\∀x,lX kvs k=some x->∃p v,atKey ks k=some p/\RelV v p.2/\AV K ρ H x v
 | [],[],k,_=>⟨rfl,λx h=>nomatch h⟩
 | p::r,q::r',k,⟨⟨e,_,v,rv,a⟩,t⟩=>by
  by_cases c:p.1=k
  ·have c':q.1=k:=by rw[e,c]
   have b:atKey (q::r') k=some q.2:=by simp[atKey,cI,c']
   rw[rH c,b];exact⟨rfl,λx h=>by cases h;exact⟨_,v,rfl,rv,a⟩⟩
  ·have c':¬q.1=k:=λz=>c<|e.symm.trans z;have b:atKey (q::r') k=atKey r' k:=by simp[atKey,cI,c']
   rw[pY c,b];exact DP.look k t
theorem DP.repl{x:A}{v:V}(h:AV K ρ H x v)(rv:RelV v u)(k:kg):∀{kvs:List<|kg×A}{ks:List<|kg×ak×af},DP K ρ H kvs ks->DP K ρ H (kvs.map λkv=>if kv.1=k then(kv.1,x)else kv) (ks.map<|putAt k u)
 | [],[],_=>trivial
 | p::r,q::r',⟨⟨e,ka,z⟩,t⟩=>by
  refine⟨?_,DP.repl h rv k t⟩;dsimp only;unfold putAt;by_cases c:p.1=k
  ·rw[aL c,aL<|by rw[e,c]];exact⟨e,ka,v,rv,h⟩
  ·rw[aJ c,aJ λz=>c<|e.symm.trans z];exact⟨e,ka,z⟩
theorem DP.snoc{x:A}{v:V}(h:AV K ρ H x v)(rv:RelV v u)(k:kg)(hk:pT H b k):∀{kvs:List<|kg×A}{ks:List<|kg×ak×af},DP K ρ H kvs ks->DP K ρ H (kvs++[(k,x)]) (ks++[(k,b,u)])
 | [],[],_=>⟨⟨rfl,hk,v,rv,h⟩,trivial⟩
 | p::r,q::r',⟨a,t⟩=>⟨a,DP.snoc h rv k hk t⟩
def DP.put{x:A}{v:V}(h:AV K ρ H x v)(rv:RelV v u)(k:kg)(hk:pT H b k){ks:List<|kg×ak×af}(d:DP K ρ H kvs ks):DP K ρ H (qH kvs k x) (storedH ks k b u):=by
 unfold qH storedH;rw[<- (d.look k).1];by_cases c:(lX kvs k).isSome=true
 ·rw[aL c,aL c];exact DP.repl h rv k d
 ·rw[aJ c,aJ c];exact DP.snoc h rv k hk d
def DP.length:∀{kvs:List<|kg×A}{ks:List<|kg×ak×af},DP K ρ H kvs ks->kvs.length=ks.length
 | [],[],_=>rfl
 | _::_,_::_,⟨_,t⟩=>dj (·+1) t.length
def DP.keys:∀{kvs:List<|kg×A}{ks:List<|kg×ak×af},DP K ρ H kvs ks->∀x∈ks,pT H x.2.1 x.1
 | [],[],_,x,h=>nomatch h
 | _::_,q::_,⟨⟨_,ka,_⟩,t⟩,x,h=>by
  rcases bJ.mp h with z|z
  ·rw[z];exact ka
  ·exact t.keys x z
def Rel.qo{n:Nat}{a:ak}(R:Rel K ρ H S)(ha:ρ[n]?=some a)(hS:S[n]?=some (.qo xs)):∃vs,H a=some (.ext<|sI a vs)/\DP K ρ H xs vs:=R.at n a _ ha hS
def Rel.Wl{S:iH}{p:ak}(R:Rel K ρ H S)(hp:H p=none):Ext ρ (ρ++[p]) H (upd H p<|.ext<|sI p [])/\Rel K (ρ++[p]) (upd H p<|.ext<|sI p []) (S++[.qo []])/\(ρ++[p])[S.length]?=some p:=by
 have ex:Ext ρ (ρ++[p]) H (upd H p<|.ext<|sI p []):=⟨⟨eT _ _,λa u _ h=>by rw[iR<|iW h hp];exact h⟩,λa u h _=>by rw[iR<|iW h hp];exact h,λa h=>by
  rcases bF.mp h with z|z
  ·exact .inl z
  ·have e:a=p:=by simpa using z
   rw[e];exact .inr hp⟩
 have np:p∉ρ:=R.Ed hp;have last:(ρ++[p])[S.length]?=some p:=by rw[<- R.len];simp
 refine⟨ex,⟨by simp[R.len],?_,?_⟩,last⟩
 ·rw[dh];refine⟨R.nd,by simp,λa ha b hb e=>?_⟩;have:b=p:=by simpa using hb
  exact np<|by rw[<- this,<- e];exact ha
 ·intro n a o h1 h2;by_cases hn:n<S.length
  ·rw[bg<|by rw[R.len];exact hn]at h1;rw[bg hn]at h2;have na:a≠p:=λz=>np (by rw[<- z];exact aY h1);have:=R.at n a o h1 h2
   cases o with
   | lst ys=>obtain⟨ws,e,q⟩:=this;exact⟨ws,by rw[iR na];exact e,q.ext ex⟩
   | dct _|pD _|qo _=>obtain⟨ws,e,q⟩:=this;exact⟨ws,by rw[iR na];exact e,q.ext ex⟩
   | ins _ _=>obtain⟨oo,uu,e⟩:=this;exact⟨oo,uu,by rw[iR na];exact e⟩
  ·have e:n=S.length:=by
    have:=(aM.mp h2).1;simp at this
    lia
   subst e;rw[last]at h1
   cases h1
   simp at h2;subst h2;exact⟨[],jy,trivial⟩
def Rel.qH{S:iH}{n:Nat}{a:ak}(R:Rel K ρ H S)(ha:ρ[n]?=some a)(hS:S[n]?=some (.qo xs))(r:DP K ρ H ys ws):Ext ρ ρ H (upd H a<|.ext<|sI a ws)/\Rel K ρ (upd H a<|.ext<|sI a ws) (S.set n<|.qo ys):=by
 obtain⟨vs,e,_⟩:=R.at n a _ ha hS;have ex:Ext ρ ρ H (upd H a<|.ext<|sI a ws):=⟨⟨dS _,λb u i h=>by
  have:b≠a:=by
   intro z;subst z;rw[e]at h;cases h;exact i
  rw[iR this];exact h⟩,λb u h n=>by
  rw[iR λz=>n<|by rw[z];exact aY ha];exact h,λ_ h=>.inl h⟩
 refine⟨ex,by rw[bO];exact R.len,R.nd,λm b o h1 h2=>?_⟩;by_cases hm:m=n
 ·subst hm;rw[ha]at h1;cases h1;rw[bE (aM.mp hS).1]at h2
  cases h2
  exact⟨ws,jy,r.ext ex⟩
 ·rw[bL<|dc hm]at h2;have nb:b≠a:=λz=>by
   subst z;obtain⟨l1,e1⟩:=aM.mp ha;obtain⟨l2,e2⟩:=aM.mp h1;exact hm<|(c8 R.nd).mp<|e2.trans e1.symm
  have:=R.at m b o h1 h2
  cases o with
  | lst ys=>obtain⟨ws',e',q⟩:=this;exact⟨ws',by rw[iR nb];exact e',q.ext ex⟩
  | dct _|pD _|qo _=>obtain⟨ws',e',q⟩:=this;exact⟨ws',by rw[iR nb];exact e',q.ext ex⟩
  | ins _ _=>obtain⟨oo,uu,e'⟩:=this;exact⟨oo,uu,by rw[iR nb];exact e'⟩
def zM{x:A}{v:V}{k:kg}(a:AV K ρ H x v)(h:yh x=some k):∃b,v=.ref b/\pT H b k:=by
 unfold yh at h;split at h
 ·rename_i xs ys;obtain⟨ns,h1,h⟩:=cJ.mp h;obtain⟨ms,h2,e⟩:=bu.mp h;subst e
  cases a with
  | @tup b _ vs hb r=>
   obtain⟨w1,w2,rfl,z1,z2⟩:=TF r
   cases z1 with
   | @tup c1 _ vs1 g1 r1=>
    cases z2 with
    | @tup c2 _ vs2 g2 r2=>
     have e1:=vp r1 h1;have e2:=vp r2 h2;subst e1 e2;exact⟨b,rfl,c1,c2,hb,g1,g2⟩
 ·cases h
end
section
variable {X:Cx}{pos:Pos}{a b:aE}
abbrev HA (x y:A)(S:iH):R A:=match x with
 | .ref n=>opt (mC S n) λkvs=>opt (yh y) λk=>opt (lX kvs k) λv=>.ok v S
 | _=>.no
def Ut(hu:X.A.units+64<cLine):M_ X (r2 X HA):=λvalue slice pins s σ H x y v u Q I rx ry ⟨ρ,S,a,b,R,va,vb,h⟩ hs=>by
 cases va with
 | @ref p n hp=>
  obtain⟨kvs,hn,h⟩:=iQ h;obtain⟨k,hk,h⟩:=iQ h;obtain⟨z,hz,h⟩:=iQ h;obtain⟨ks,e,d⟩:=R.qo hp<|nE hn;obtain⟨q,rfl,kq⟩:=zM vb hk;obtain⟨pp,w,hw,rw',aw⟩:=(d.look k).2 z hz;exact T5 () value slice pins s σ H _ _ v u Q I rx ry ⟨p,q,ks,k,pp,w,rfl,rfl,⟨e,d.keys,kq⟩,hw,rw',h _ _ _ .refl R aw⟩ hs
 | _=>exact h.elim
def Ss(hu:X.A.units+64<cLine){ca cb:Ex}(ha:AE X a ca)(hb:AE X b cb)(hs:vY b:=by exact λ_ _=>rfl):AE X (.Subscript a b pos) (iI HA ca cb):=PE.imp (Jj (Ut hu) ha hb hs) λσ H Q h=>rE h
abbrev NC (neg:Bool)(x y:A)(S:iH):R A:=match y with
 | .ref n=>opt (mC S n) λkvs=>opt (yh x) λk=>.ok (.bl<|if neg then !(lX kvs k).isSome else(lX kvs k).isSome) S
 | _=>.no
def MA(hu:X.A.units+64<cLine):lQ X (compareOp .NotIn) (r2 X<|NC true):=λpins s σ H x y v u Q I rx ry h9=>by
 x_go
 cases vb with
 | @ref p n hp=>
  obtain⟨kvs,hn,h⟩:=iQ h;obtain⟨k,hk,h⟩:=iQ h;obtain⟨ks,e,d⟩:=R.qo hp<|nE hn;obtain⟨q,rfl,kq⟩:=zM va hk;exact GW () pins s σ H _ _ v u Q I rx ry ⟨p,q,ks,k,rfl,rfl,⟨e,d.keys,kq⟩,by rw[<- (d.look k).1];exact h _ _ _ .refl R<|.bl _⟩
 | _=>exact h.elim
abbrev BV (o i v:A)(S:iH):R Unit:=match o with
 | .ref n=>opt (mC S n) λkvs=>opt (yh i) λk=>gd (kvs.length<sizeLine) (.ok Unit.unit<|S.set n<|.qo<|qH kvs k v)
 | _=>.no
abbrev W5 (X:Cx):B4:=λo i v H Q=>∃ρ S ao ai av,Rel X.K ρ H S/\AV X.K ρ H ao o/\AV X.K ρ H ai i/\AV X.K ρ H av v/\(BV ao ai av S).post (λ_ S'=>∀ρ' H',Ext ρ ρ' H H'->Rel X.K ρ' H' S'->Q H') (XE X ρ H)
def OU(hu:X.A.units+64<cLine):Bw X (W5 X):=λpins s σ H o i v ov iv u Q I ro ri rv h9=>by
 obtain⟨ρ,S,ao,ai,av,R,h1,h2,h3,h⟩:=h9
 cases h1 with
 | @ref p n hp=>
  obtain⟨kvs,hn,h⟩:=iQ h;obtain⟨k,hk,h⟩:=iQ h;obtain⟨hl,h⟩:=iZ h;obtain⟨ks,e,d⟩:=R.qo hp<|nE hn;obtain⟨q,rfl,kq⟩:=zM h2 hk;refine QN () pins s σ H _ _ v ov iv u Q I ro ri rv ⟨p,q,ks,k,rfl,rfl,⟨e,d.keys,kq⟩,by rw[<- d.length];exact hl,λu' ru=>?_⟩;obtain⟨ex,R'⟩:=R.qH hp (nE hn)<|d.put h3 ru k kq;exact h _ _ ex R'
 | _=>exact h.elim
abbrev Im (co ci:Ex):Tg:=λa τ S=>(co τ S).bind λo S1=>(ci τ S1).bind λi S2=>(BV o i a S2).bind λ_ S3=>.ok τ S3
def zW(hu:X.A.units+64<cLine){co ci:Ex}(ho:AE X o co)(hi:AE X i ci)
  (ha:∀v,assign (.Subscript o i pos) X.env v=(do
   let ov <- holding [v] (eval o X.env)
   let iv <- holding [v,ov] (eval i X.env)
   standAt pos
   holding [v,ov,iv] (setItem ov iv v)
   release [v,ov,iv] []):=by intro _;rfl):AG X (.Subscript o i pos) (Im co ci):=PG.imp (CM ho hi (OU hu) ha) λv σ H Q h9=>by
 obtain⟨ρ,S,τ,a,R,r,va,h⟩:=h9;gp_on;kcf_m;cb_eq
abbrev DN:Ex:=λ_ S=>.ok (.ref S.length)<|S++[.qo []]
def MP:AE X (.Dict [] [] pos) DN:=PE.imp IG λσ H Q ⟨ρ,S,τ,R,r,h⟩ p hp=>by
 obtain⟨ex,R',hl⟩:=R.Wl hp;exact h _ _ _ ex R'<|.ref hl
end
end Am
namespace L2
open PySem PySem.Spec PyProof.Rows
section
variable {X:Cx}
abbrev MZ (i j:Int):ae:=(List.range (i-j).toNat).map λk:Nat=>i-(k:Int)
def N7(i j:Int):(MZ i j).length=(i-j).toNat:=by unfold MZ;rw[aK,cK]
theorem xY{f:Nat->Int}{h:Nat->af}:∀(l:ag),(∀i∈l,∃t,h i=.int (f i) t)->Vals (l.map λi=>V.int<|f i) (l.map h)
 | [],_=>.nil
 | i::l,e=>.cons (e i<|aN ..)<|xY l λj hj=>e j<|aP _ hj
def I_{i:Int}{n:Nat}{acc:Array af}(h:ItemsOf (λk v=>∃t,v=Value.int (i+(k:Int) * (-1)) t) acc n):Vals (((List.range n).map λk:Nat=>i-(k:Int)).map V.int) acc.toList:=by
 obtain⟨hs,h⟩:=h;have e:acc.toList=(List.range n).map λk=>acc.toList.getD k .none:=by
  refine fJ (by simp[hs]) λk h1 h2=>?_;rw[cV,eU,aI,aG h1];rfl
 rw[e,cH];refine xY _ λk hk=>?_;have hk:=dF.mp hk;obtain⟨t,ht⟩:=h k (acc.toList.getD k .none) (by rw[<- e_,aI,aG<|by simp[hs];exact hk];rfl);exact⟨t,by rw[ht];congr 1;lia⟩
def xG(l:ak){a b:Int}{v:Tok}{n:Nat}(hsmall:Builtin.Range.small a b (-1)=true)(hn:Builtin.Range.rangeSize a b (-1)=n)(hlen:n<=1000) :
  Meets (Builtin.«tuple.__new__» ⟨[.type "tuple",.ref l],[]⟩)
   (λA R s=>A.handled=none/\IsRange s.heap l a b (-1) t u v/\∀(h':aq) (tk:Nat) (acc':Array af),(∀b o',s.heap.get? b=some o'->h'.get? b=some o')->ItemsOf (λi v=>∃t,v=.int (a+i * (-1)) t) acc' n->R (.ok<|.ret<|.ref h'.objs.size) { s with heap:=h'.push { cls:=.type "tuple",data:=.seq acc' },toks:=tk }):=
 .of_wp λprog w A R s h=>by
  obtain⟨hp,g,d,tk,os⟩:=s;obtain⟨hh,ht,h⟩:=h;have hsub:=sub_tuple_self;have hinit:=init_tuple_lookup;have hmh:=madeHere_tuple;have hT:Shared.TypeIs ⟨hp,g,d,tk,os⟩ (.ref l) "range" := ⟨_,ht,rfl⟩;have hh':A.in1.handled=none:=hh
  wp_walk using c6 ht,fX hT,u_ (A:=A.in1) hh' ht hsmall hn ()
  intro h' tk' acc' hk hacc;show wpAny _ _ (Builtin.Tuple.tupleExact acc'.toList.toArray >>= λv=>ret v) _ _ _;unfold Builtin.Tuple.tupleExact;have e:acc'.toList.toArray=acc':=by simp
  refine aH (bQ ?_<|by show acc'.toList.toArray.size<=sizeLine;rw[e,hacc.1,cR];lia);refine aO ⟨_,rfl,?_⟩;rw[e];exact h h' tk' acc' hk hacc
abbrev Xv (o:Obj)(i j:Int):Prop:=∃t u v:Tok,o={ cls:=.type "range",data:=.fields #[.int i t,.int j u,.int (-1) v]}
def CA:jk X (.type "range") (λxs H Q=>∃i j,xs=[.int i,.int j,.int<|-1]/\∀r o,Xv o i j->H r=none->Q (.ref r) (upd H r<|.frz o<|.own r)):=by
 kt_k;obtain⟨i,j,rfl,q⟩:=h
 cases r with
 | cons r rr=>cases rr with
  | cons r' rr=>cases rr with
   | cons r'' rr=>
    cases rr
    obtain⟨t,rfl⟩:=r;obtain⟨t',rfl⟩:=r';obtain⟨t'',rfl⟩:=r'';have hn:(s.heap.push { cls:=.type "range",data:=.fields #[.int i t,.int j t',.int (-1) t'']}).get? s.heap.objs.size=some { cls:=.type "range",data:=.fields #[.int i t,.int j t',.int (-1) t'']}:=bB _ rfl;exact call_range_3 ⋯ ⟨.ref s.heap.objs.size,_,I.laid (o:=.frz _<|.own s.heap.objs.size) (t':=s.toks) (λb o e=>aR _ e) (aQ _) ⟨hn,_,hn⟩,rfl,q _ _ ⟨_,_,_,rfl⟩ I.fresh⟩
def C3(hc:X.calm=true):jk X (.type "tuple") (λxs H Q=>∃p i j o u,xs=[.ref p]/\H p=some (.frz o u)/\Xv o i j/\(-(2 ^ 62)<=i/\i<2 ^ 62/\-(2 ^ 62)<=j/\j<2 ^ 62)/\(i-j).toNat<=1000/\∀l,H l=none->Q (.ref l) (upd H l<|.tup<|(MZ i j).map V.int)):=by
 kt_k;obtain⟨p,i,j,o,u0,rfl,hp,⟨t,u',v,rfl⟩,⟨b1,b2,b3,b4⟩,hn,q⟩:=h;kpf_c
 cases rx
 have e:=(show jC _ _ H s.heap p (.frz _ u0)from I.hok p _ hp).1;have sz:Builtin.Range.rangeSize i j (-1)=(((i-j).toNat:Nat):Int):=by rw[yS];split<;>lia
 refine callType_new F.called_tuple ⋯ (F.typeCall_tuple_1 _) (F.newCall_tuple_1 _) (λobj=>gD obj _) F.entry_tuple_new
  (xG (n:=(i-j).toNat) p (small_down b1 b2 b3 b4) sz hn) ⟨I.ok.hd hc,e,λh' tk acc' hk hacc=>⟨⟨_,bB _ rfl,rfl⟩,?_⟩⟩
 have I1:Inv X pins σ H { s with heap:=h',toks:=tk }:=I.kept hk;refine⟨.ref h'.objs.size,_,I1.laid (t':=tk) (o:=.tup<|(MZ i j).map V.int) (λb o e=>aR _ e) (aQ _) ⟨?_,acc'.toList,I_ hacc,?_⟩,rfl,q _<|I1.hok.fresh<|aQ _⟩
 ·rw[aK,N7,cR];lia
 ·have e:acc'.toList.toArray=acc':=by simp
  rw[e];exact lU.new _ _
end
end L2
namespace Am
open PySem PySem.Spec PyProof.Rows L2
section
variable {X:Cx}{a b c0:aE}{pos:Pos}
abbrev W7 (a b k:A)(S3:iH):R A:=match a,b,k with
 | .int i,.int j,.int m=>gd (m=-1/\bnd i/\bnd j/\(i-j).toNat<=1000) (.ok (.tup<|(MZ i j).map .int) S3)
 | _,_,_=>.no
def JZ{a b k:A}{P:A->iH->Prop}{E:Str->iH->Prop}(h:(W7 a b k S3).post P E):∃i j,a=.int i/\b=.int j/\k=.int (-1)/\bnd i/\bnd j/\(i-j).toNat<=1000/\P (.tup<|(MZ i j).map .int) S3:=by
 unfold W7 at h;split at h
 ·obtain⟨⟨z,h1,h2,h3⟩,h⟩:=iZ h;exact⟨_,_,rfl,rfl,by rw[z],h1,h2,h3,h⟩
 ·exact h.elim
abbrev Ja (c d e:Ex):Ex:=λτ S=>(c τ S).bind λa S1=>(d τ S1).bind λb S2=>(e τ S2).bind λk S3=>W7 a b k S3
def JL{x:Str}{p pos:Pos}{c d e:Ex}(hcl:X.calm=true)(hm:X.mg x=none)(hv:bootBuiltins x=some (.type "tuple"))(hm':X.mg y=none)(hv':bootBuiltins y=some (.type "range"))(ha:AE X a c)(hb:AE X b d)(hc:AE X c0 e)
  (hg:Gl X x:=by rfl) (hn:x ≠ "__name__" := by decide) (hdb:(x == ("__debug__" : Str))=false:=by decide) (hg':Gl X y:=by rfl) (hn':y ≠ "__name__" := by decide) (hdb':(y == ("__debug__" : Str))=false:=by decide)
  (hs:starEach [a,b,c0] X.env=(false,eval a X.env)::starEach [b,c0] X.env:=by rfl) (hs2:starEach [b,c0] X.env=(false,eval b X.env)::starEach [c0] X.env:=by rfl) (hs3:starEach [c0] X.env=(false,eval c0 X.env)::starEach [] X.env:=by rfl) (hpl':(backTo cpos<|starEach [b,c0] X.env).any (·.1)=false:=by rfl)
  (he:starEach [.Call (.Name y p') [a,b,c0] [] cpos] X.env=(false,eval (.Call (.Name y p') [a,b,c0] [] cpos) X.env)::starEach [] X.env:=by rfl) (hpl:(backTo pos<|starEach [] X.env).any (·.1)=false:=by rfl) :
  AE X (.Call (.Name x p) [.Call (.Name y p') [a,b,c0] [] cpos] [] pos) (Ja c d e):=
 PE.imp (uQ (C3 hcl) hg hm hv (nj (uQ CA hg' hm' hv' (nj ha (nj hb (nj hc uy hs3) hs2) hs) hn' hdb' hs hpl') uy he) hn hdb he hpl) λσ H Q h9=>by
  z_go;refine⟨ρ,S,τ,R,r,iF (iL h) .refl λx S1 h1 ρ1 H1 v e1 R1 v1=>⟨ρ1,S1,τ,R1,r.ext e1,iF (iL h1) e1 λy S2 h2 ρ2 H2 w e2 R2 v2=>⟨ρ2,S2,τ,R2,(r.ext e1).ext e2,iF (iL h2) (e1.trans e2) λz S3 h3 ρ3 H3 u e3 R3 v3=>?_⟩⟩⟩;obtain⟨i,j,hx,hy,hz,hk1,hk2,hk3,h4⟩:=JZ h3;subst hx hy hz
  cases v1
  cases v2
  cases v3
  refine⟨_,_,rfl,λr' o hO hr=>?_⟩;obtain⟨ex,R4⟩:=R3.im (u:=.frz o<|.own r') hr;exact⟨r',_,_,o,_,rfl,jy,hO,⟨hk1.1,hk1.2,hk2.1,hk2.2⟩,hk3,nX R4 (qM _) (((e1.trans e2).trans e3).trans ex) h4⟩
def Nk{c d e:Ex}{i j:Int}(h:c τ S=.ok (.int i) S1)(h':d τ S1=.ok (.int j) S2)(h'':e τ S2=.ok (.int<|-1) S3)(hb:bnd i)(hb':bnd j)(hl:(i-j).toNat<=1000):Ja c d e τ S=.ok (.tup<|(MZ i j).map .int) S3:=by
 unfold Ja;rw[h];show(d τ S1).bind _=_;rw[h'];show(e τ S2).bind _=_;rw[h''];exact aL ⟨rfl,hb,hb',hl⟩
end
end Am
namespace K36
open PySem L2 Am
abbrev top (i:Nat):aF:=PySem.Challenge.pw_undercells_k36_rests_turned_over.main.body.getD i<|.Pass ⟨0,0,0,0⟩
meta abbrev r_:aF:=top 6
meta abbrev sd:ap:=["thing"]
meta abbrev sM:ap:=["thing"]
abbrev sE:Sm:=
 jF (Lm (je (f2 Pc)<|iD (iC 0)<|iD (eC<|.ty "int") iO)<|Ro<|je (f2 Pc)<|iD (iC 0)<|iD (eC<|.ty "bool") iO)
abbrev nG:ad->iH->R A:=jV sd sE
meta abbrev qT:aF:=top 7
meta abbrev qO:ap:=["one", "other"]
meta abbrev oq:ap:=["one", "other"]
abbrev qE:Sm:=
 t7 (mS<|iI (qm true) (je (f1 mz)<|iD (iC 0) iO)<|je (f1 mz)<|iD (iC 1) iO)
 (V5)
 mQ
abbrev kB:ad->iH->R A:=jV qO qE
meta abbrev CH:aF:=top 8
meta abbrev CU:ap:=["order", "places", "at", "thing"]
meta abbrev Dt:ap:=["order"]
abbrev IW:Ic:=
 OD (iC 0)
abbrev Bs:Sm:=
 jm (iI jo (iC 2)<|eC<|.int 1) (Q6 (iC 1)<|iI aSub (iC 3)<|eC<|.int 1)
abbrev DH:Sm:=
 jd (jm (iI uU (sH<|iD (eC<|.int 0) iO)<|je (f1 mz)<|iD (iC 0) iO)<|jB 1)
 (jd (mh IW (AJ 2<|rR (jB 2)<|rR (jB 3) Ba)
 Bs)
 (jF<|je (f1 qY)<|iD (iC 1) iO))
abbrev uI:ad->iH->R A:=jV CU DH
meta abbrev pB:aF:=top 9
meta abbrev pF:ap:=["n", "thing"]
meta abbrev o_:ap:=["n", "thing"]
abbrev o4:Sm:=
 jF (Lm (eFn nG<|iD (iC 1) iO)<|Kc Rh zU (eC<|.int 1) (iC 1)<|iC 0)
abbrev kP:ad->iH->R A:=jV pF o4
meta abbrev lE:aF:=top 10
meta abbrev k_:ap:=["order", "i", "j", "things"]
meta abbrev lG:ap:=["order", "i", "j"]
abbrev lC:Sm:=
 jd (jm (je (f1 xU)<|iD (iC 0) iO)<|jB 3)
 (jd (jm (mq<|iD (iI pL (iC 3)<|iI aSub (iC 2)<|eC<|.int 1)<|iD (iI pL (iC 3)<|iI aSub (iC 1)<|eC<|.int 1) iO)<|AJ 2<|rR (Q6 (iC 3)<|iI aSub (iC 1)<|eC<|.int 1)<|rR (Q6 (iC 3)<|iI aSub (iC 2)<|eC<|.int 1) Ba)
 (jF<|je (f1 qY)<|iD (iC 3) iO))
abbrev jE:ad->iH->R A:=jV k_ lC
meta abbrev qx:aF:=top 11
meta abbrev qq:ap:=["order", "k"]
meta abbrev qU:ap:=["order", "k"]
abbrev qZ:Sm:=
 jd (t7 (Lf<|K4<|eFn kP<|iD (je (f1 mz)<|iD (iC 0) iO)<|iD (iC 1) iO)
 (V5)
 mQ)
 (jF<|eFn jE<|iD (iC 0)<|iD (iC 1)<|iD (iI jo (iC 1)<|eC<|.int 1) iO)
abbrev lH:ad->iH->R A:=jV qq qZ
meta abbrev oQ:aF:=top 12
meta abbrev pC:ap:=["n"]
meta abbrev oM:ap:=["n"]
abbrev oR:Sm:=
 jF (Dg [none,none,some 0] (pU (eC<|.int 1)<|iC 0) (jB 0) Ah (pU (iI jo (iC 0)<|eC<|.int 1)<|iI jo (iC 2)<|eC<|.int 1) (jB 1) Ah<|mq<|iD (iC 0)<|iD (iC 1) iO)
abbrev j5:ad->iH->R A:=jV pC oR
meta abbrev o8:aF:=top 13
meta abbrev oW:ap:=["order"]
meta abbrev oS:ap:=["order"]
abbrev o6:Sm:=
 jF (lV [none,none,some 0] (oN<|eFn j5<|iD (je (f1 mz)<|iD (iC 0) iO) iO) (AJ 2<|rR (jB 0)<|rR (jB 1) Ba) (mS<|iI DK (iI pL (iC 2)<|iI aSub (iC 0)<|eC<|.int 1)<|iI pL (iC 2)<|iI aSub (iC 1)<|eC<|.int 1)<|mq<|iD (iC 0)<|iD (iC 1) iO)
abbrev kM:ad->iH->R A:=jV oW o6
meta abbrev xF:aF:=top 14
meta abbrev v8:ap:=["order"]
meta abbrev tH:ap:=["order"]
abbrev wY:Sm:=
 jF (je (f1 mz)<|iD (eFn kM<|iD (iC 0) iO) iO)
abbrev kQ:ad->iH->R A:=jV v8 wY
meta abbrev Ak:aF:=top 15
meta abbrev zR:ap:=["order"]
meta abbrev zZ:ap:=["order"]
abbrev zI:Sm:=
 jF (lV [none,some 0] (pU (eC<|.int 1)<|je (f1 mz)<|iD (iC 0) iO) (jB 0) (mS<|iI DK (iI pL (iC 1)<|iI aSub (iC 0)<|eC<|.int 1)<|iI pL (iC 1)<|iC 0)<|iC 0)
abbrev rq:ad->iH->R A:=jV zR zI
meta abbrev kF:aF:=top 18
meta abbrev ko:ap:=["numbers", "place"]
meta abbrev ku:ap:=["numbers"]
abbrev lW:Te:=
 mS (iI Rh (iI pL (iC 0)<|iI aSub (iC 1)<|eC<|.int 1)<|eC<|.int 0)
abbrev lT:Sm:=
 MI 1 Hu (eC<|.int 1)
abbrev ki:Sm:=
 jd (jm (eC<|.int 1)<|jB 1)
 (jd (lA lW
 lT 1000000)
 (jF<|iC 1))
abbrev jq:ad->iH->R A:=jV ko ki
meta abbrev IZ:aF:=top 17
meta abbrev Ih:ap:=["one", "other", "more", "at", "j"]
meta abbrev Kl:ap:=["one", "other"]
abbrev E4:Ic:=
 qR (iI pL (iC 0)<|iC 3)
abbrev F8:Sm:=
 wW (iC 2) (iC 4) (eC<|.int 1) Hu
abbrev Gn:Ic:=
 qR (iI pL (iC 1)<|iC 3)
abbrev FG:Sm:=
 wW (iC 2) (iC 4) (eC<|.int 1) aSub
abbrev NO:Ic:=
 qR (je (f1 mz)<|iD (iC 0) iO)
abbrev F5:Sm:=
 jd (mh E4 (jB 4)
 F8)
 (jd (mh Gn (jB 4)
 FG)
 (t7 (mS<|iI DK (je (f1 Mq)<|iD (iC 2) iO)<|eC<|.int 0)
 (jF<|mq<|iD (iI jo (iC 3)<|eC<|.int 1)<|iD (eFn jq<|iD (iC 2) iO) iO)
 mQ))
abbrev KN:Sm:=
 jd (u7<|eFn kB<|iD (iC 0)<|iD (iC 1) iO)
 (jd (jm (iI uU (sH<|iD (eC<|.int 0) iO)<|je (f1 mz)<|iD (iC 0) iO)<|jB 2)
 (jd (mh NO (jB 3)
 F5)
 (jF<|eC .non)))
abbrev yZ:ad->iH->R A:=jV Ih KN
meta abbrev se:aF:=top 19
meta abbrev qd:ap:=["one", "other"]
meta abbrev qg:ap:=["one", "other"]
abbrev p6:Sm:=
 jF (iI (G3 false) (eFn yZ<|iD (iC 0)<|iD (iC 1) iO)<|eC .non)
abbrev lz:ad->iH->R A:=jV qd p6
meta abbrev pG:aF:=top 21
meta abbrev mT:ap:=["one", "other", "free_things", "most_things", "most_pairs"]
meta abbrev oU:ap:=["one", "other", "free_things", "most_things", "most_pairs"]
abbrev mV:Sm:=
 jd (t7 (mS<|iI Rh (je (f1 mz)<|iD (iC 0) iO)<|iC 2)
 (Lq)
 mQ)
 (t7 (M0 (mS<|iI DK (je (f1 mz)<|iD (iC 0) iO)<|iC 3)<|mS<|iI DK (iI aSub (eFn kQ<|iD (iC 1) iO)<|eFn kQ<|iD (iC 0) iO)<|iC 4)
 (V5)
 mQ)
abbrev jP:ad->iH->R A:=jV mT mV
meta abbrev m8:aF:=top 23
meta abbrev m_:ap:=["numbers"]
meta abbrev kW:ap:=["numbers"]
abbrev m7:Sm:=
 jF (lV [none,some 0] (oN<|je (f1 wo)<|iD (iC 0) iO) (jB 0) (mS<|iI (qm true) (iI wF (iC 1)<|iC 0)<|eC<|.int 0)<|mq<|iD (iC 0)<|iD (iI wF (iC 1)<|iC 0) iO)
abbrev jv:ad->iH->R A:=jV m_ m7
meta abbrev DJ:aF:=top 24
meta abbrev Du:ap:=["one", "other", "numbers", "power", "number"]
meta abbrev DG:ap:=["one", "other"]
abbrev tY:Ic:=
 oN (iC 1)
abbrev Cw:Sm:=
 jm (iI jo (Hi uZ (iC 2)<|iD (iC 3)<|iD (eC<|.int 0) iO)<|iC 4) (HK (iC 2)<|iC 3)
abbrev DQ:Sm:=
 jd (jm (je (f1 CQ)<|iD (iC 0) iO)<|jB 2)
 (jd (mh tY (AJ 2<|rR (jB 3)<|rR (jB 4) Ba)
 Cw)
 (jF<|eFn jv<|iD (iC 2) iO))
abbrev wV:ad->iH->R A:=jV Du DQ
meta abbrev Ax:aF:=top 25
meta abbrev zA:ap:=["one", "other", "numbers", "power", "number", "high", "many"]
meta abbrev zK:ap:=["one", "other"]
abbrev HN:Ic:=
 oN (iC 1)
abbrev HC:Sm:=
 jm (iI jo (Hi uZ (iC 2)<|iD (iI jo (iC 3)<|iC 5)<|iD (eC<|.int 0) iO)<|iI GD (iC 4)<|iC 6) (HK (iC 2)<|iI jo (iC 3)<|iC 5)
abbrev yw:Ic:=
 oN (iC 0)
abbrev yO:Sm:=
 mh HN (AJ 2<|rR (jB 5)<|rR (jB 6) Ba)
 HC
abbrev Aj:Sm:=
 jd (jm C6<|jB 2)
 (jd (mh yw (AJ 2<|rR (jB 3)<|rR (jB 4) Ba)
 yO)
 (jF<|eFn jv<|iD (iC 2) iO))
abbrev rK:ad->iH->R A:=jV zA Aj
meta abbrev qS:aF:=top 30
meta abbrev oA:ap:=["one", "other"]
meta abbrev qN:ap:=["one", "other"]
abbrev om:Sm:=
 jd (u7<|eFn kB<|iD (iC 0)<|iD (iC 1) iO)
 (u7<|eFn jP<|iD (iC 0)<|iD (iC 1)<|iD (eC<|.int 5)<|iD (eC<|.int 8)<|iD (eC<|.int 6) iO)
abbrev lI:ad->iH->R A:=jV oA om
meta abbrev nQ:aF:=top 33
meta abbrev jT:ap:=["one", "other", "known", "k", "less", "told"]
meta abbrev kj:ap:=["one", "other", "known"]
abbrev jt (Fs:ad->iH->R A):Sm:=
 jd (jm (iI pL (eFn rq<|iD (iC 1) iO)<|eC<|.int 0)<|jB 3)
 (jd (jm (eFn lH<|iD (iC 1)<|iD (iC 3) iO)<|jB 4)
 (jd (jm (eFn Fs<|iD (eFn lH<|iD (iC 0)<|iD (iC 3) iO)<|iD (iC 4)<|iD (iC 2) iO)<|jB 5)
 (jd (t7 (mS<|iI (Wf false) (iC 3)<|eFn rq<|iD (iC 0) iO)
 (jF<|iC 5)
 mQ)
 (jF<|eFn wV<|iD (iC 5)<|iD (eFn rK<|iD (sH<|iD (mq<|iD (eC<|.int 1)<|iD (eC<|.int 1) iO) iO)<|iD (eFn Fs<|iD (iC 0)<|iD (iC 4)<|iD (iC 2) iO) iO) iO))))
meta abbrev ng:aF:=top 32
meta abbrev l9:ap:=["one", "other", "known", "pair"]
meta abbrev jJ:ap:=["one", "other", "known"]
abbrev lR (Fs:ad->iH->R A):Sm:=
 jd (jm (mq<|iD (iC 0)<|iD (iC 1) iO)<|jB 3)
 (jd (t7 (mS<|iI (NC true) (iC 3)<|iC 2)
 (t7 (mS<|iI (qm false) (iC 0)<|iC 1)
 (jm (sH<|iD (mq<|iD (eC<|.int 0)<|iD (eC<|.int 1) iO) iO)<|Im (iC 2)<|iC 3)
 (t7 (Lf<|K4<|eFn lz<|iD (iC 0)<|iD (iC 1) iO)
 (jm (sH iO)<|Im (iC 2)<|iC 3)
 (jm (eFn (jV jT<|jt Fs)<|iD (iC 0)<|iD (iC 1)<|iD (iC 2) iO)<|Im (iC 2)<|iC 3)))
 mQ)
 (jF<|iI HA (iC 2)<|iC 3))
abbrev kK:Nat->ad->iH->R A
 | 0=>λ_ _=>.no
 | k+1=>jV l9<|lR<|kK k
abbrev qe:ad->iH->R A:=kK 22
meta abbrev DF:aF:=top 31
meta abbrev Dd:ap:=["one", "other"]
meta abbrev zF:ap:=["one", "other"]
abbrev DL:Sm:=
 jd (u7<|eFn lI<|iD (iC 0)<|iD (iC 1) iO)
 (jF<|eFn qe<|iD (iC 0)<|iD (iC 1)<|iD (DN) iO)
abbrev mH:ad->iH->R A:=jV Dd DL
meta abbrev uw:aF:=top 35
meta abbrev uV:ap:=["_law_script", "_law_at", "_law_cell", "_law_great"]
meta abbrev uB:ap:=["_law_script", "_law_at"]
abbrev uz:Sm:=
 jd (jm (eC<|.int 0)<|jB 2)
 (jd (t7 (mS<|iI zU (iC 1)<|je (f1 mz)<|iD (iC 0) iO)
 (jm (iI pL (iC 0)<|iC 1)<|jB 2)
 mQ)
 (jd (jm (eC<|.int 0)<|jB 3)
 (jd (t7 (mS<|iI V7 (iC 2)<|iI O4 (eC<|.int 10)<|eC<|.int 18)
 (jm (iC 2)<|jB 3)
 mQ)
 (jF<|sH<|iD (iC 3)<|iD (iI xW (iI jo (iI jo (iC 2)<|iI uU (eC<|.int 7919)<|iC 1)<|eC<|.int 13)<|eC<|.int 2147483647) iO))))
abbrev pK:ad->iH->R A:=jV uV uz
meta abbrev qL:aF:=top 36
meta abbrev oh:ap:=["_law_bag_here", "_law_many", "_law_found"]
meta abbrev mY:ap:=["_law_bag_here", "_law_many"]
abbrev n_:Sm:=
 jd (t7 (mS<|iI DK (iI pL (iC 0)<|eC<|.int 0)<|eC<|.int 0)
 (jd (jm (iI xW (iI pL (iC 0)<|eC<|.int 0)<|iC 1)<|jB 2)
 (jd (jm (iI Ez (iI pL (iC 0)<|eC<|.int 0)<|iC 1)<|Q6 (iC 0)<|eC<|.int 0)
 (jF<|iC 2)))
 mQ)
 (jd (jm (iI xW (iI jo (iI uU (iI pL (iC 0)<|eC<|.int 1)<|eC<|.int 48271)<|eC<|.int 11)<|eC<|.int 2147483647)<|Q6 (iC 0)<|eC<|.int 1)
 (jF<|iI xW (iI xW (iI uU (iI Ez (iI pL (iC 0)<|eC<|.int 1)<|eC<|.int 8)<|eC<|.int 69621)<|eC<|.int 2147483629)<|iC 1))
abbrev iX:ad->iH->R A:=jV oh n_
meta abbrev q_:aF:=top 37
meta abbrev qC:ap:=["_law_bag_here", "_law_n", "_law_left", "_law_made"]
meta abbrev qD:ap:=["_law_bag_here", "_law_n"]
abbrev oZ:Te:=
 mS (iI DK (je (f1 mz)<|iD (iC 2) iO)<|eC<|.int 0)
abbrev oO:Sm:=
 u7 (UW vj (iC 3)<|iD (UW Dw (iC 2)<|iD (eFn iX<|iD (iC 0)<|iD (je (f1 mz)<|iD (iC 2) iO) iO) iO) iO)
abbrev qG:Sm:=
 jd (jm (je (f1 xU)<|iD (je (f2 Ac)<|iD (eC<|.int 1)<|iD (iI jo (iC 1)<|eC<|.int 1) iO) iO)<|jB 2)
 (jd (jm (sH iO)<|jB 3)
 (jd (lA oZ
 oO 1000000)
 (jF<|je (f1 qY)<|iD (iC 3) iO)))
abbrev lK:ad->iH->R A:=jV qC qG
meta abbrev oJ:aF:=top 38
meta abbrev oY:ap:=["_law_one", "_law_i", "_law_j"]
meta abbrev oH:ap:=["_law_one", "_law_i", "_law_j"]
abbrev oV:Sm:=
 jF (iI jo (iI jo (iI jo (iI jo (Tr (iC 0) Gv<|rW<|iC 1)<|mq<|iD (iI pL (iC 0)<|iC 2) iO)<|Tr (iC 0) (rW<|iI jo (iC 1)<|eC<|.int 1)<|rW<|iC 2)<|mq<|iD (iI pL (iC 0)<|iC 1) iO)<|Tr (iC 0) (rW<|iI jo (iC 2)<|eC<|.int 1) Gv)
abbrev kL:ad->iH->R A:=jV oY oV
meta abbrev mK:aF:=top 39
meta abbrev mD:ap:=["_law_one", "_law_left", "_law_found", "_law_i", "_law_j", "_law_amid"]
meta abbrev mJ:ap:=["_law_one", "_law_left"]
abbrev lD:Ic:=
 pU (iI jo (iC 3)<|eC<|.int 1) (je (f1 mz)<|iD (iC 0) iO)
abbrev jZ:Sm:=
 jd (jm (je (f1 mz)<|iD (lV [none,some 0,some 4,some 3] (oN<|Tr (iC 0) (rW<|iI jo (iC 3)<|eC<|.int 1)<|rW<|iC 4) (jB 0) (mS<|Kc zU zU (iI pL (iC 1)<|iC 2) (iC 0)<|iI pL (iC 1)<|iC 3)<|iC 0) iO)<|jB 5)
 (t7 (xE (mS<|iI DK (iI pL (iC 0)<|iC 3)<|iI pL (iC 0)<|iC 4)<|mS<|iI Rh (iI jo (eC<|.int 1)<|iI uU (eC<|.int 2)<|iC 5)<|iC 1)
 (u7<|UW vj (iC 2)<|iD (mq<|iD (iC 3)<|iD (iC 4)<|iD (iI jo (eC<|.int 1)<|iI uU (eC<|.int 2)<|iC 5) iO) iO)
 mQ)
abbrev lg:Ic:=
 qR (je (f1 mz)<|iD (iC 0) iO)
abbrev nN:Sm:=
 mh lD (jB 4)
 jZ
abbrev mE:Sm:=
 jd (jm (sH iO)<|jB 2)
 (jd (mh lg (jB 3)
 nN)
 (jF<|iC 2))
abbrev jS:ad->iH->R A:=jV mD mE
meta abbrev qX:aF:=top 40
meta abbrev qy:ap:=["_law_bag_here", "_law_other", "_law_left", "_law_one", "_law_k", "_law_some", "_law_i", "_law_j", "_law_more"]
meta abbrev qW:ap:=["_law_bag_here", "_law_other", "_law_left"]
abbrev pH:Ic:=
 qR (eFn iX<|iD (iC 0)<|iD (eC<|.int 7) iO)
abbrev rZ:Sm:=
 jd (jm (eFn jS<|iD (iC 3)<|iD (iC 2) iO)<|jB 5)
 (t7 (mS<|iI (qm true) (iC 5)<|sH iO)
 (jd (jm (iI pL (iC 5)<|eFn iX<|iD (iC 0)<|iD (je (f1 mz)<|iD (iC 5) iO) iO)<|AJ 3<|rR (jB 6)<|rR (jB 7)<|rR (jB 8) Ba)
 (jd (jm (eFn kL<|iD (iC 3)<|iD (iC 6)<|iD (iC 7) iO)<|jB 3)
 (jm (iI aSub (iC 2)<|iC 8)<|jB 2)))
 mQ)
abbrev qV:Sm:=
 jd (jm (iC 1)<|jB 3)
 (jd (mh pH (jB 4)
 rZ)
 (jF<|iC 3))
abbrev lJ:ad->iH->R A:=jV qy qV
meta abbrev sN:aF:=top 41
meta abbrev sR:ap:=["_law_bag_here", "_law_k", "_law_n", "_law_far", "_law_other"]
meta abbrev sS:ap:=["_law_bag_here", "_law_k"]
abbrev sW:Sm:=
 jd (jm (iI jo (eC<|.int 2)<|eFn iX<|iD (iC 0)<|iD (iI pL (sH<|iD (eC<|.int 4)<|iD (eC<|.int 3) iO)<|je (f1 BW)<|iD (iI DK (iC 1)<|eC<|.int 0) iO) iO)<|jB 2)
 (jd (jm (eC<|.int 20)<|jB 3)
 (jd (t7 (xE (mS<|iI (qm false) (iC 1)<|eC<|.int 0)<|mS<|iI (qm false) (eFn iX<|iD (iC 0)<|iD (eC<|.int 4) iO)<|eC<|.int 2)
 (jd (jm (iI jo (eC<|.int 6)<|eFn iX<|iD (iC 0)<|iD (eC<|.int 2) iO)<|jB 2)
 (jm (eC<|.int 6)<|jB 3))
 mQ)
 (jd (jm (eFn lK<|iD (iC 0)<|iD (iC 2) iO)<|jB 4)
 (jd (t7 (xE (mS<|iI (qm false) (eFn iX<|iD (iC 0)<|iD (eC<|.int 8) iO)<|eC<|.int 3)<|mS<|iI zU (iC 2)<|eC<|.int 6)
 (jm (Ja (iC 2) (eC<|.int 0)<|M3 CK<|eC<|.int 1)<|jB 4)
 mQ)
 (jF<|mq<|iD (eFn lJ<|iD (iC 0)<|iD (iC 4)<|iD (iC 3) iO)<|iD (iC 4) iO)))))
abbrev nP:ad->iH->R A:=jV sR sW
meta abbrev sD:aF:=top 42
meta abbrev sX:ap:=["_law_one"]
meta abbrev sC:ap:=["_law_one"]
abbrev sV:Sm:=
 jF (je (f1 qY)<|iD (lV [none,some 0] (oN<|iC 0) (jB 0) Ah<|iI aSub (iI jo (je (f1 mz)<|iD (iC 1) iO)<|eC<|.int 1)<|iC 0) iO)
abbrev mO:ad->iH->R A:=jV sX sV
meta abbrev sG:aF:=top 43
meta abbrev sO:ap:=["_law_one", "_law_other", "_law_due"]
meta abbrev sf:ap:=["_law_one", "_law_other", "_law_due"]
abbrev sF:Sm:=
 jd (t7 (mS<|iI (qm true) (eFn mH<|iD (eFn uI<|iD (iC 0) iO)<|iD (eFn uI<|iD (iC 1) iO) iO)<|iC 2)
 (jF<|eC<|.bl false)
 mQ)
 (jd (t7 (mS<|iI (qm true) (eFn mH<|iD (eFn mO<|iD (iC 1) iO)<|iD (eFn mO<|iD (iC 0) iO) iO)<|iC 2)
 (jF<|eC<|.bl false)
 mQ)
 (jF<|iI (qm false) (eFn mH<|iD (M3 G8<|iC 1)<|iD (M3 G8<|iC 0) iO)<|iC 2))
abbrev nS:ad->iH->R A:=jV sO sF
meta abbrev Jv:aF:=top 44
meta abbrev Jm:ap:=["_law_script", "_law_k", "_law_bag_here", "_law_one", "_law_other", "_law_told", "_law_apart", "_law_power", "_law_number", "_law_more"]
meta abbrev PU:ap:=["_law_script"]
abbrev vM:Ic:=
 oN (iC 5)
abbrev vE:Sm:=
 t7 (M0 (mS<|iI (qm true) (iI xW (iI aSub (iC 6)<|iC 7)<|eC<|.int 2)<|eC<|.int 0)<|M0 (mS<|iI zU (iC 8)<|eC<|.int 1)<|mS<|iI zU (iC 7)<|eC<|.int 0)
 (jF<|eC<|.bl false)
 mQ
abbrev GR:Ic:=
 qR (je (f2 Mc)<|iD (eC<|.int 1)<|iD (je (f2 JG)<|iD (je (f1 mz)<|iD (iC 0) iO)<|iD (eC<|.int 4) iO) iO)
abbrev Ay:Sm:=
 jd (jm (eFn pK<|iD (iC 0)<|iD (iC 1) iO)<|jB 2)
 (jd (jm (eFn nP<|iD (iC 2)<|iD (iC 1) iO)<|AJ 2<|rR (jB 3)<|rR (jB 4) Ba)
 (jd (jm (eFn mH<|iD (iC 3)<|iD (iC 4) iO)<|jB 5)
 (jd (jm (iI aSub (eFn kQ<|iD (iC 4) iO)<|eFn kQ<|iD (iC 3) iO)<|jB 6)
 (jd (t7 (M0 (mS<|iI (qm false) (iC 5)<|sH iO)<|mS<|iI (qm true) (iI pL (iC 5)<|M3 CK<|eC<|.int 1)<|mq<|iD (iC 6)<|iD (eC<|.int 1) iO)
 (jF<|eC<|.bl false)
 mQ)
 (jd (mh vM (AJ 2<|rR (jB 7)<|rR (jB 8) Ba)
 vE)
 (jd (t7 (Lf<|K4<|eFn nS<|iD (iC 3)<|iD (iC 4)<|iD (iC 5) iO)
 (jF<|eC<|.bl false)
 mQ)
 (jd (jm (iI jo (je (f1 mz)<|iD (iC 3) iO)<|eC<|.int 1)<|jB 9)
 (t7 (xE (M0 (mS<|iI zU (iC 9)<|eC<|.int 6)<|mS<|iI zU (iC 6)<|eC<|.int 7)<|mS<|iI (qm true) (eFn mH<|iD (iI jo (iC 3)<|mq<|iD (iC 9) iO)<|iD (iI jo (iC 4)<|mq<|iD (iC 9) iO) iO)<|iC 5)
 (jF<|eC<|.bl false)
 mQ))))))))
abbrev II:Sm:=
 jd (mh GR (jB 1)
 Ay)
 (jF<|eC<|.bl true)
abbrev yV:ad->iH->R A:=jV Jm II
section
variable {P:aj}{w:ah}{K:au}{mg:Str->bb}{base:aq}{f:ak}{fd:FuncData}
def Be:FnScope sd sM (iS r_):=sJ rfl rfl rfl ∅
def Cr(F:Fun K "is_whole" "is_whole" r_ f fd)(YL:mg "isinstance" = none)(YR:mg "bool" = none)(YF:mg "int" = none):FnOk P w K mg base nW 1 f fd sM (pP K 1 nG):=sU (m:=sE) F Be λcdv B outer s H E hr=>
 iM (ja<|MY (i6 Qs YL rY<|iE (iB 0)<|iE (Pu YF IL) iN)<|Lk<|Q0<|i6 Qs YL rY<|iE (iB 0)<|iE (Pu YR OE) iN)
def Aw:FnScope qO oq (iS qT):=sJ rfl rfl rfl ∅
def AA(F:Fun K "need_pair" "need_pair" qT f fd)(Yz:mg "len" = none):FnOk P w K mg base nW 1 f fd oq (pP K 2 kB):=sU (m:=qE) F Aw λcdv B outer s H E hr=>
 iM (kH (jh (Br hr.units) (i6 kN Yz jO<|iE (iB 0) iN)<|i6 kN Yz jO<|iE (iB 1) iN)
 (iM<|JD)
 ju)
def vN:FnScope CU Dt (iS CH):=sJ rfl rfl rfl ∅
def Ng(F:Fun K "back" "back" CH f fd)(Yz:mg "len" = none)(YS:mg "enumerate" = none)(YB:mg "tuple" = none):FnOk P w K mg base nW 1 f fd Dt (pP K 1 uI):=sU (m:=DH) F vN λcdv B outer s H E hr=>
 iK (jf (i:=1) vN.nd<|iT wO (nM<|iE iJ iN)<|i6 kN Yz jO<|iE (iB 0) iN)
 (iK (m5 cu rfl (RC YS<|iB 0) (qh rfl<|jl (i9 (i:=2) vN.nd)<|jl (i9 (i:=3) vN.nd) nu)
 (iM<|nI (iT jI (iB 2) iJ)<|wC (iB 1)<|iT ow (iB 3) iJ))
 (iM<|ja<|lZ (vH rfl) YB qw<|iE (iB 1) iN))
def ya:FnScope pF o_ (iS pB):=sJ rfl rfl rfl ∅
def xx(F:Fun K "is_exchange" "is_exchange" pB f fd)(YT:nA P w K mg base 1 "is_whole" sM nG):FnOk P w K mg base nW 2 f fd o_ (pP K 2 kP):=sU (m:=o4) F ya λcdv B outer s H E hr=>
 iM (ja<|MY (F0 YT hr<|iB 1)<|Lk<|UZ N3 (AD hr.units) iJ (iB 1)<|iB 0)
def nc:FnScope k_ lG (iS lE):=sJ rfl rfl rfl ∅
def rP(F:Fun K "exchanged_places" "exchanged_places" lE f fd)(YG:mg "list" = none)(YB:mg "tuple" = none):FnOk P w K mg base nW 1 f fd lG (pP K 3 jE):=sU (m:=lC) F nc λcdv B outer s H E hr=>
 iK (jf (i:=3) nc.nd<|lZ (Jq rfl) YG Gw<|iE (iB 0) iN)
 (iK (nI (lq<|iE (j3 (iB 3)<|iT ow (iB 2) iJ)<|iE (j3 (iB 3)<|iT ow (iB 1) iJ) iN)<|qh rfl<|jl (wC (iB 3)<|iT ow (iB 1) iJ)<|jl (wC (iB 3)<|iT ow (iB 2) iJ) nu)
 (iM<|ja<|lZ (vH rfl) YB qw<|iE (iB 3) iN))
def AB:FnScope qq qU (iS qx):=sJ rfl rfl rfl ∅
def zH(F:Fun K "exchanged" "exchanged" qx f fd)(Yz:mg "len" = none)(YU:nA P w K mg base 2 "is_exchange" o_ kP)(YV:nA P w K mg base 1 "exchanged_places" lG jE):FnOk P w K mg base nW 3 f fd qU (pP K 2 lH):=sU (m:=qZ) F AB λcdv B outer s H E hr=>
 iK (kH (C5<|C7<|yg YU hr (i6 kN Yz jO<|iE (iB 0) iN)<|iB 1)
 (iM<|JD)
 ju)
 (iM<|ja<|VO YV hr (iB 0) (iB 1)<|iT jI (iB 1) iJ)
def w6:FnScope pC oM (iS oQ):=sJ rfl rfl rfl ∅
def wN(F:Fun K "place_pairs" "place_pairs" oQ f fd)(YA:mg "range" = none):FnOk P w K mg base nW 1 f fd oM (pP K 1 j5):=sU (m:=oR) F w6 λcdv B outer s H E hr=>
 iM (ja<|J7 (N:=["i", "j", "n"]) (cap:=[none,none,some 0]) rfl (y_ ["n"] rfl ∅ ∅ ∅ ∅ ∅ (cT.mpr ⟨by first|exact Or.inl rfl|exact Or.inr rfl,(nofun)⟩) ⟨rfl,by decide +kernel,trivial⟩) (rJ YA iJ<|iB 0) (λ_ _ _ _=>i9 (i:=0) (show(["i", "j", "n"]:ap).Nodup by decide +kernel) rfl (Or.inl rfl)<|.inr rfl) (λ_ _ _ _=>zP) (λ_ _ _ _=>rJ YA (iT jI (iB 0) iJ)<|iT jI (iB 2) iJ) (λ_ _ _ _=>i9 (i:=1) (show(["i", "j", "n"]:ap).Nodup by decide +kernel) rfl (Or.inl rfl)<|.inr rfl) (λ_ _ _ _=>zP) λ_ _ _ _=>lq<|iE (iB 0)<|iE (iB 1) iN)
def xg:FnScope oW oS (iS o8):=sJ rfl rfl rfl ∅
def w9(F:Fun K "wrong_pairs" "wrong_pairs" o8 f fd)(Yz:mg "len" = none)(YW:nA P w K mg base 1 "place_pairs" oM j5):FnOk P w K mg base nW 2 f fd oS (pP K 1 kM):=sU (m:=o6) F xg λcdv B outer s H E hr=>
 iM (ja<|sZ (N:=["i", "j", "order"]) (cap:=[none,none,some 0]) rfl (y_ ["order"] rfl ∅ ∅ ∅ ∅ ∅ (cT.mpr ⟨by first|exact Or.inl rfl|exact Or.inr rfl,(nofun)⟩) ⟨rfl,by decide +kernel,trivial⟩) (qz<|F0 YW hr<|i6 kN Yz jO<|iE (iB 0) iN) (λ_ _ _ _=>qh rfl<|jl (i9 (i:=0) (show(["i", "j", "order"]:ap).Nodup by decide +kernel) rfl (Or.inl rfl)<|.inr rfl)<|jl (i9 (i:=1) (show(["i", "j", "order"]:ap).Nodup by decide +kernel) rfl (Or.inl rfl)<|.inr rfl) nu) (λ_ _ _ _=>vq<|jh (zG hr.units) (j3 (iB 2)<|iT ow (iB 0) iJ)<|j3 (iB 2)<|iT ow (iB 1) iJ) λ_ _ _ _=>lq<|iE (iB 0)<|iE (iB 1) iN)
def GY:FnScope v8 tH (iS xF):=sJ rfl rfl rfl ∅
def HY(F:Fun K "length" "length" xF f fd)(Yz:mg "len" = none)(YX:nA P w K mg base 2 "wrong_pairs" oS kM):FnOk P w K mg base nW 3 f fd tH (pP K 1 kQ):=sU (m:=wY) F GY λcdv B outer s H E hr=>
 iM (ja<|i6 kN Yz jO<|iE (F0 YX hr<|iB 0) iN)
def ML:FnScope zR zZ (iS Ak):=sJ rfl rfl rfl ∅
def JE(F:Fun K "falls" "falls" Ak f fd)(YA:mg "range" = none)(Yz:mg "len" = none):FnOk P w K mg base nW 1 f fd zZ (pP K 1 rq):=sU (m:=zI) F ML λcdv B outer s H E hr=>
 iM (ja<|sZ (N:=["k", "order"]) (cap:=[none,some 0]) rfl (y_ ["order"] rfl ∅ ∅ ∅ ∅ ∅ (cT.mpr ⟨by first|exact Or.inl rfl|exact Or.inr rfl,(nofun)⟩) ⟨rfl,by decide +kernel,trivial⟩) (rJ YA iJ<|i6 kN Yz jO<|iE (iB 0) iN) (λ_ _ _ _=>i9 (i:=0) (show(["k", "order"]:ap).Nodup by decide +kernel) rfl (Or.inl rfl)<|.inr rfl) (λ_ _ _ _=>vq<|jh (zG hr.units) (j3 (iB 1)<|iT ow (iB 0) iJ)<|j3 (iB 1)<|iB 0) λ_ _ _ _=>iB 0)
def j6:FnScope ko ku (iS kF):=sJ rfl rfl rfl ∅
def qj(F:Fun K "first_above_nought" "first_above_nought" kF f fd):FnOk P w K mg base nW 1 f fd ku (pP K 1 jq):=sU (m:=ki) F j6 λcdv B outer s H E hr=>
 iK (jf (i:=1) j6.nd iJ)
 (iK (BQ 1000000 cu (jh N3 (j3 (iB 0)<|iT ow (iB 1) iJ) iJ)
 (iM<|RX (i:=1) j6.nd iJ Fb))
 (iM<|ja<|iB 1))
def xM:FnScope Ih Kl (iS IZ):=sJ rfl rfl rfl ∅
def RI(F:Fun K "bar" "bar" IZ f fd)(Yz:mg "len" = none)(YA:mg "range" = none)(YH:mg "max" = none)(YI:nA P w K mg base 1 "need_pair" oq kB)(YY:nA P w K mg base 1 "first_above_nought" ku jq):FnOk P w K mg base nW 2 f fd Kl (pP K 2 yZ):=sU (m:=KN) F xM λcdv B outer s H E hr=>
 iK (rB<|yg YI hr (iB 0)<|iB 1)
 (iK (jf (i:=2) xM.nd<|iT wO (nM<|iE iJ iN)<|i6 kN Yz jO<|iE (iB 0) iN)
 (iK (m5 cu rfl (nB YA<|i6 kN Yz jO<|iE (iB 0) iN) (i9 (i:=3) xM.nd)
 (iK (m5 cu rfl (nB YA<|j3 (iB 0)<|iB 3) (i9 (i:=4) xM.nd)
 (iM<|F9 (iB 2) (iB 4) iJ Fb))
 (iK (m5 cu rfl (nB YA<|j3 (iB 1)<|iB 3) (i9 (i:=4) xM.nd)
 (iM<|F9 (iB 2) (iB 4) iJ Nt))
 (iM (kH (jh (zG hr.units) (i6 (SM rfl) YH Kx<|iE (iB 2) iN) iJ)
 (iM<|ja<|lq<|iE (iT jI (iB 3) iJ)<|iE (F0 YY hr<|iB 2) iN)
 ju)))))
 (iM<|ja<|IA)))
def A9:FnScope qd qg (iS se):=sJ rfl rfl rfl ∅
def BK(F:Fun K "is_below" "is_below" se f fd)(YZ:nA P w K mg base 2 "bar" Kl yZ):FnOk P w K mg base nW 3 f fd qg (pP K 2 lz):=sU (m:=p6) F A9 λcdv B outer s H E hr=>
 iM (ja<|Dh Xd (yg YZ hr (iB 0)<|iB 1)<|IA)
def wI:FnScope mT oU (iS pG):=sJ rfl rfl rfl ∅
def we(F:Fun K "need_bounds" "need_bounds" pG f fd)(Yz:mg "len" = none)(YE:nA P w K mg base 3 "length" tH kQ):FnOk P w K mg base nW 4 f fd oU (pP K 5 jP):=sU (m:=mV) F wI λcdv B outer s H E hr=>
 iK (kH (jh N3 (i6 kN Yz jO<|iE (iB 0) iN)<|iB 2)
 (iM<|Oz)
 ju)
 (iM (kH (AW.at<|A1 (jh (zG hr.units) (i6 kN Yz jO<|iE (iB 0) iN)<|iB 3)<|zz<|jh (zG hr.units) (iT ow (F0 YE hr<|iB 1)<|F0 YE hr<|iB 0)<|iB 4)
 (iM<|JD)
 ju))
def uS:FnScope m_ kW (iS m8):=sJ rfl rfl rfl ∅
def ux(F:Fun K "as_polynomial" "as_polynomial" m8 f fd)(Y0:mg "sorted" = none):FnOk P w K mg base nW 1 f fd kW (pP K 1 jv):=sU (m:=m7) F uS λcdv B outer s H E hr=>
 iM (ja<|sZ (N:=["power", "numbers"]) (cap:=[none,some 0]) rfl (y_ ["numbers"] rfl ∅ ∅ ∅ ∅ ∅ (cT.mpr ⟨by first|exact Or.inl rfl|exact Or.inr rfl,(nofun)⟩) ⟨rfl,by decide +kernel,trivial⟩) (qz<|i6 (NB rfl) Y0 G1<|iE (iB 0) iN) (λ_ _ _ _=>i9 (i:=0) (show(["power", "numbers"]:ap).Nodup by decide +kernel) rfl (Or.inl rfl)<|.inr rfl) (λ_ _ _ _=>vq<|jh (Br hr.units) (KP hr.units (iB 1)<|iB 0) iJ) λ_ _ _ _=>lq<|iE (iB 0)<|iE (KP hr.units (iB 1)<|iB 0) iN)
def vQ:FnScope Du DG (iS DJ):=sJ rfl rfl rfl ∅
def Oa(F:Fun K "plus" "plus" DJ f fd)(Y3:mg "dict" = none)(YJ:nA P w K mg base 1 "as_polynomial" kW jv):FnOk P w K mg base nW 2 f fd DG (pP K 2 wV):=sU (m:=DQ) F vQ λcdv B outer s H E hr=>
 iK (jf (i:=2) vQ.nd<|lZ (Nx rfl) Y3 Oo<|iE (iB 0) iN)
 (iK (m5 cu rfl (qz<|iB 1) (qh rfl<|jl (i9 (i:=3) vQ.nd)<|jl (i9 (i:=4) vQ.nd) nu)
 (iM<|nI (iT jI (MF ff PySem.F.type_dict_get (Jp hr.units) (iB 2)<|iE (iB 3)<|iE iJ iN)<|iB 4)<|DX hr.units (iB 2)<|iB 3))
 (iM<|ja<|F0 YJ hr<|iB 2))
def pJ:FnScope zA zK (iS Ax):=sJ rfl rfl rfl ∅
def IB(F:Fun K "times" "times" Ax f fd)(YJ:nA P w K mg base 1 "as_polynomial" kW jv):FnOk P w K mg base nW 2 f fd zK (pP K 2 rK):=sU (m:=Aj) F pJ λcdv B outer s H E hr=>
 iK (jf (i:=2) pJ.nd JU)
 (iK (m5 cu rfl (qz<|iB 0) (qh rfl<|jl (i9 (i:=3) pJ.nd)<|jl (i9 (i:=4) pJ.nd) nu)
 (iM (m5 cu rfl (qz<|iB 1) (qh rfl<|jl (i9 (i:=5) pJ.nd)<|jl (i9 (i:=6) pJ.nd) nu)
 (iM<|nI (iT jI (MF ff PySem.F.type_dict_get (Jp hr.units) (iB 2)<|iE (iT jI (iB 3)<|iB 5)<|iE iJ iN)<|iT Tw (iB 4)<|iB 6)<|DX hr.units (iB 2)<|iT jI (iB 3)<|iB 5))))
 (iM<|ja<|F0 YJ hr<|iB 2))
def zE:FnScope oA qN (iS qS):=sJ rfl rfl rfl ∅
def zh(F:Fun K "need_rest" "need_rest" qS f fd)(Y4:∃t,mg "MOST_PAIRS" = some (.int 6 t))(Y5:∃t,mg "MOST_THINGS" = some (.int 8 t))(Y6:∃t,mg "FREE_THINGS" = some (.int 5 t))(YI:nA P w K mg base 1 "need_pair" oq kB)(Y7:nA P w K mg base 4 "need_bounds" oU jP):FnOk P w K mg base nW 5 f fd qN (pP K 2 lI):=sU (m:=om) F zE λcdv B outer s H E hr=>
 iK (rB<|yg YI hr (iB 0)<|iB 1)
 (iM<|rB<|oB Y7 (hr.mono ⋯) (iE (iB 0)<|iE (iB 1)<|iE (wc Y6.choose_spec)<|iE (wc Y5.choose_spec)<|iE (wc Y4.choose_spec) iN)<|iV<|iV<|iV<|iV<|iV j8)
def kU:FnScope jT kj (iS nQ):=sJ rfl rfl rfl ∅
def vf{Fs:ad->iH->R A}(F:Fun K "rest_by_fall" "rest_by_fall" nQ f fd)(YM:nA P w K mg base 1 "falls" zZ rq)(YN:nA P w K mg base 3 "exchanged" qU lH)(Y8:nA P w K mg base 2 "plus" DG wV)(Y9:nA P w K mg base 2 "times" zK rK)(Zj:nA P w K mg base (4+2 * kr) "found_rest" jJ Fs):FnOk P w K mg base nW (4+2 * kr+1) f fd kj (pP K 3<|jV jT<|jt Fs):=sU (m:=jt Fs) F kU λcdv B outer s H E hr=>
 iK (jf (i:=3) kU.nd<|j3 (oB YM (hr.mono ()) (iE (iB 1) iN)<|iV j8) iJ)
 (iK (jf (i:=4) kU.nd<|oB YN (hr.mono ()) (iE (iB 1)<|iE (iB 3) iN)<|iV<|iV j8)
 (iK (jf (i:=5) kU.nd<|oB Zj (hr.mono ()) (iE (oB YN (hr.mono ()) (iE (iB 0)<|iE (iB 3) iN)<|iV<|iV j8)<|iE (iB 4)<|iE (iB 2) iN)<|iV<|iV<|iV j8)
 (iK (kH (jh (Wo hr.units) (iB 3)<|oB YM (hr.mono ()) (iE (iB 0) iN)<|iV j8)
 (iM<|ja<|iB 5)
 ju)
 (iM<|ja<|oB Y8 (hr.mono ()) (iE (iB 5)<|iE (oB Y9 (hr.mono ()) (iE (nM<|iE (lq<|iE iJ<|iE iJ iN) iN)<|iE (oB Zj (hr.mono ()) (iE (iB 0)<|iE (iB 4)<|iE (iB 2) iN)<|iV<|iV<|iV j8) iN)<|iV<|iV j8) iN)<|iV<|iV j8))))
def rX:FnScope l9 jJ (iS ng):=sJ rfl rfl rfl ∅
def yf{Fs:ad->iH->R A}(F:Fun K "found_rest" "found_rest" ng f fd)(YK:nA P w K mg base 3 "is_below" qg lz)(Zn:nA P w K mg base (4+2 * kr+1) "rest_by_fall" kj<|jV jT<|jt Fs):FnOk P w K mg base nW (4+2 * kr+2) f fd jJ (pP K 3<|jV l9<|lR Fs):=sU (m:=lR Fs) F rX λcdv B outer s H E hr=>
 iK (jf (i:=3) rX.nd<|lq<|iE (iB 0)<|iE (iB 1) iN)
 (iK (kH (jh (MA hr.units) (iB 3)<|iB 2)
 (iM (kH (jh (HW hr.units) (iB 0)<|iB 1)
 (iM<|nI (nM<|iE (lq<|iE iJ<|iE iJ iN) iN)<|zW hr.units (iB 2)<|iB 3)
 (iM (kH (C5<|C7<|oB YK (hr.mono ()) (iE (iB 0)<|iE (iB 1) iN)<|iV<|iV j8)
 (iM<|nI (nM iN)<|zW hr.units (iB 2)<|iB 3)
 (iM<|nI (oB Zn (hr.mono ()) (iE (iB 0)<|iE (iB 1)<|iE (iB 2) iN)<|iV<|iV<|iV j8)<|zW hr.units (iB 2)<|iB 3)))))
 ju)
 (iM<|ja<|Ss hr.units (iB 2)<|iB 3))
theorem qQ(F:Fun K "found_rest" "found_rest" ng f fd)(YK:nA P w K mg base 3 "is_below" qg lz)(M_rest_by_fall:∀{Fs:ad->iH->R A} {kr:Nat},nA P w K mg base (4+2 * kr) "found_rest" jJ Fs->nA P w K mg base (4+2 * kr+1) "rest_by_fall" kj (jV jT<|jt Fs))(hm:mg "found_rest" = some (.ref f))(hk:PySem.W.keepIn K (.ref f)=true)(hb:Binds K fd jJ []):∀kr,FnOk P w K mg base nW (4+2 * kr) f fd jJ (pP K 3<|kK kr)
 | 0=>Tj rfl
 | kr+1=>yf F YK<|M_rest_by_fall ⟨f,fd,qQ F YK M_rest_by_fall hm hk hb kr,hm,hk,hb⟩
def Nv:FnScope Dd zF (iS DF):=sJ rfl rfl rfl ∅
def NF(F:Fun K "rest" "rest" DF f fd)(Y_:nA P w K mg base 5 "need_rest" qN lI)(Za:nA P w K mg base 48 "found_rest" jJ qe):FnOk P w K mg base nW 49 f fd zF (pP K 2 mH):=sU (m:=DL) F Nv λcdv B outer s H E hr=>
 iK (rB<|yg Y_ hr (iB 0)<|iB 1)
 (iM<|ja<|VO Za hr (iB 0) (iB 1)<|MP)
def nH:FnScope uV uB (iS uw):=sJ rfl rfl rfl ∅
def DR(F:Fun K "_law_bag" "_law_bag" uw f fd)(Yz:mg "len" = none):FnOk P w K mg base nW 1 f fd uB (pP K 2 pK):=sU (m:=uz) F nH λcdv B outer s H E hr=>
 iK (jf (i:=2) nH.nd iJ)
 (iK (kH (jh (AD hr.units) (iB 1)<|i6 kN Yz jO<|iE (iB 0) iN)
 (iM<|jf (i:=2) nH.nd<|j3 (iB 0)<|iB 1)
 ju)
 (iK (jf (i:=3) nH.nd iJ)
 (iK (kH (jh Wh (iB 2)<|iT Up iJ iJ)
 (iM<|jf (i:=3) nH.nd<|iB 2)
 ju)
 (iM<|ja<|nM<|iE (iB 3)<|iE (iT yP (iT jI (iT jI (iB 2)<|iT wO iJ<|iB 1) iJ) iJ) iN))))
def tW:FnScope oh mY (iS qL):=sJ rfl rfl rfl ∅
def Ad(F:Fun K "_law_digit" "_law_digit" qL f fd):FnOk P w K mg base nW 1 f fd mY (pP K 2 iX):=sU (m:=n_) F tW λcdv B outer s H E hr=>
 iK (kH (jh (zG hr.units) (j3 (iB 0) iJ) iJ)
 (iK (jf (i:=2) tW.nd<|iT yP (j3 (iB 0) iJ)<|iB 1)
 (iK (nI (iT IE (j3 (iB 0) iJ)<|iB 1)<|wC (iB 0) iJ)
 (iM<|ja<|iB 2)))
 ju)
 (iK (nI (iT yP (iT jI (iT wO (j3 (iB 0) iJ) iJ) iJ) iJ)<|wC (iB 0) iJ)
 (iM<|ja<|iT yP (iT yP (iT wO (iT IE (j3 (iB 0) iJ) iJ) iJ) iJ)<|iB 1))
def qf:FnScope qC qD (iS q_):=sJ rfl rfl rfl ∅
def zB(F:Fun K "_law_order" "_law_order" q_ f fd)(YG:mg "list" = none)(YA:mg "range" = none)(Yz:mg "len" = none)(YB:mg "tuple" = none)(YC:nA P w K mg base 1 "_law_digit" mY iX):FnOk P w K mg base nW 2 f fd qD (pP K 2 lK):=sU (m:=qG) F qf λcdv B outer s H E hr=>
 iK (jf (i:=2) qf.nd<|lZ (Jq rfl) YG Gw<|iE (lZ JO YA A0<|iE iJ<|iE (iT jI (iB 1) iJ) iN) iN)
 (iK (jf (i:=3) qf.nd<|nM iN)
 (iK (BQ 1000000 cu (jh (zG hr.units) (i6 kN Yz jO<|iE (iB 2) iN) iJ)
 (iM<|rB<|Ip PySem.F.slot_list_append PySem.F.type_list_append By (iB 3)<|iE (Ip PySem.F.slot_list_pop PySem.F.type_list_pop OM (iB 2)<|iE (yg YC hr (iB 0)<|i6 kN Yz jO<|iE (iB 2) iN) iN) iN))
 (iM<|ja<|lZ (vH rfl) YB qw<|iE (iB 3) iN)))
def wK:FnScope oY oH (iS oJ):=sJ rfl rfl rfl ∅
def x_(F:Fun K "_law_swapped" "_law_swapped" oJ f fd):FnOk P w K mg base nW 1 f fd oH (pP K 3 kL):=sU (m:=oV) F wK λcdv B outer s H E hr=>
 iM (ja<|iT jI (iT jI (iT jI (iT jI (Eh (iB 0) D_<|rF<|iB 1)<|lq<|iE (j3 (iB 0)<|iB 2) iN)<|Eh (iB 0) (rF<|iT jI (iB 1) iJ)<|rF<|iB 2)<|lq<|iE (j3 (iB 0)<|iB 1) iN)<|Eh (iB 0) (rF<|iT jI (iB 2) iJ) D_)
def jN:FnScope mD mJ (iS mK):=sJ rfl rfl rfl ∅
def tU(F:Fun K "_law_pairs_less" "_law_pairs_less" mK f fd)(YA:mg "range" = none)(Yz:mg "len" = none):FnOk P w K mg base nW 1 f fd mJ (pP K 2 jS):=sU (m:=mE) F jN λcdv B outer s H E hr=>
 iK (jf (i:=2) jN.nd<|nM iN)
 (iK (m5 cu rfl (nB YA<|i6 kN Yz jO<|iE (iB 0) iN) (i9 (i:=3) jN.nd)
 (iM (m5 cu rfl (rJ YA (iT jI (iB 3) iJ)<|i6 kN Yz jO<|iE (iB 0) iN) (i9 (i:=4) jN.nd)
 (iK (jf (i:=5) jN.nd<|i6 kN Yz jO<|iE (sZ (N:=["_law_thing", "_law_one", "_law_j", "_law_i"]) (cap:=[none,some 0,some 4,some 3]) rfl (y_ ["_law_one", "_law_j", "_law_i"] rfl ∅ ∅ ∅ ∅ ∅ (cT.mpr ⟨by first|exact Or.inl rfl|exact Or.inr rfl,(cT.mpr ⟨by first|exact Or.inl rfl|exact Or.inr rfl,(cT.mpr ⟨by first|exact Or.inl rfl|exact Or.inr rfl,(nofun)⟩)⟩)⟩) ⟨rfl,by decide +kernel,⟨rfl,by decide +kernel,⟨rfl,by decide +kernel,trivial⟩⟩⟩) (qz<|Eh (iB 0) (rF<|iT jI (iB 3) iJ)<|rF<|iB 4) (λ_ _ _ _=>i9 (i:=0) (show(["_law_thing", "_law_one", "_law_j", "_law_i"]:ap).Nodup by decide +kernel) rfl (Or.inl rfl)<|.inr rfl) (λ_ _ _ _=>vq<|UM (AD hr.units) (AD hr.units) (j3 (iB 1)<|iB 2) (iB 0)<|j3 (iB 1)<|iB 3) λ_ _ _ _=>iB 0) iN)
 (iM (kH (AW.at<|zX (jh (zG hr.units) (j3 (iB 0)<|iB 3)<|j3 (iB 0)<|iB 4)<|vW<|jh N3 (iT jI iJ<|iT wO iJ<|iB 5)<|iB 1)
 (iM<|rB<|Ip PySem.F.slot_list_append PySem.F.type_list_append By (iB 2)<|iE (lq<|iE (iB 3)<|iE (iB 4)<|iE (iT jI iJ<|iT wO iJ<|iB 5) iN) iN)
 ju))))))
 (iM<|ja<|iB 2))
def jA:FnScope qy qW (iS qX):=sJ rfl rfl rfl ∅
def zk(F:Fun K "_law_under" "_law_under" qX f fd)(YA:mg "range" = none)(Yz:mg "len" = none)(YC:nA P w K mg base 1 "_law_digit" mY iX)(Zb:nA P w K mg base 1 "_law_pairs_less" mJ jS)(Zc:nA P w K mg base 1 "_law_swapped" oH kL):FnOk P w K mg base nW 2 f fd qW (pP K 3 lJ):=sU (m:=qV) F jA λcdv B outer s H E hr=>
 iK (jf (i:=3) jA.nd<|iB 1)
 (iK (m5 cu rfl (nB YA<|yg YC hr (iB 0) iJ) (i9 (i:=4) jA.nd)
 (iK (jf (i:=5) jA.nd<|yg Zb hr (iB 3)<|iB 2)
 (iM (kH (jh (Br hr.units) (iB 5)<|nM iN)
 (iK (nI (j3 (iB 5)<|yg YC hr (iB 0)<|i6 kN Yz jO<|iE (iB 5) iN)<|qh rfl<|jl (i9 (i:=6) jA.nd)<|jl (i9 (i:=7) jA.nd)<|jl (i9 (i:=8) jA.nd) nu)
 (iK (jf (i:=3) jA.nd<|VO Zc hr (iB 3) (iB 6)<|iB 7)
 (iM<|jf (i:=2) jA.nd<|iT ow (iB 2)<|iB 8)))
 ju))))
 (iM<|ja<|iB 3))
def kE:FnScope sR sS (iS sN):=sJ rfl rfl rfl ∅
def A4(F:Fun K "_law_case" "_law_case" sN f fd)(YF:mg "int" = none)(YB:mg "tuple" = none)(YA:mg "range" = none)(YC:nA P w K mg base 1 "_law_digit" mY iX)(Zd:nA P w K mg base 2 "_law_order" qD lK)(Ze:nA P w K mg base 2 "_law_under" qW lJ):FnOk P w K mg base nW 3 f fd sS (pP K 2 nP):=sU (m:=sW) F kE λcdv B outer s H E hr=>
 iK (jf (i:=2) kE.nd<|iT jI iJ<|yg YC hr (iB 0)<|j3 (nM<|iE iJ<|iE iJ iN)<|lZ SJ YF IL<|iE (Dh (zG hr.units) (iB 1) iJ) iN)
 (iK (jf (i:=3) kE.nd iJ)
 (iK (kH (AW.at<|zX (jh (HW hr.units) (iB 1) iJ)<|vW<|jh (HW hr.units) (yg YC hr (iB 0) iJ) iJ)
 (iK (jf (i:=2) kE.nd<|iT jI iJ<|yg YC hr (iB 0) iJ)
 (iM<|jf (i:=3) kE.nd iJ))
 ju)
 (iK (jf (i:=4) kE.nd<|yg Zd hr (iB 0)<|iB 2)
 (iK (kH (AW.at<|zX (jh (HW hr.units) (yg YC hr (iB 0) iJ) iJ)<|vW<|jh (AD hr.units) (iB 2) iJ)
 (iM<|jf (i:=4) kE.nd<|JL rfl YB qw YA A0 (iB 2) iJ<|Ij iJ)
 ju)
 (iM<|ja<|lq<|iE (VO Ze hr (iB 0) (iB 4)<|iB 3)<|iE (iB 4) iN)))))
def BZ:FnScope sX sC (iS sD):=sJ rfl rfl rfl ∅
def B6(F:Fun K "_law_over" "_law_over" sD f fd)(YB:mg "tuple" = none)(Yz:mg "len" = none):FnOk P w K mg base nW 1 f fd sC (pP K 1 mO):=sU (m:=sV) F BZ λcdv B outer s H E hr=>
 iM (ja<|lZ (vH rfl) YB qw<|iE (sZ (N:=["_law_thing", "_law_one"]) (cap:=[none,some 0]) rfl (y_ ["_law_one"] rfl ∅ ∅ ∅ ∅ ∅ (cT.mpr ⟨by first|exact Or.inl rfl|exact Or.inr rfl,(nofun)⟩) ⟨rfl,by decide +kernel,trivial⟩) (qz<|iB 0) (λ_ _ _ _=>i9 (i:=0) (show(["_law_thing", "_law_one"]:ap).Nodup by decide +kernel) rfl (Or.inl rfl)<|.inr rfl) (λ_ _ _ _=>zP) λ_ _ _ _=>iT ow (iT jI (i6 kN Yz jO<|iE (iB 1) iN) iJ)<|iB 0) iN)
def Bm:FnScope sO sf (iS sG):=sJ rfl rfl rfl ∅
def A5(F:Fun K "_law_like" "_law_like" sG f fd)(YD:nA P w K mg base 49 "rest" zF mH)(YO:nA P w K mg base 1 "back" Dt uI)(YQ:nA P w K mg base 1 "_law_over" sC mO):FnOk P w K mg base nW 50 f fd sf (pP K 3 nS):=sU (m:=sF) F Bm λcdv B outer s H E hr=>
 iK (kH (jh (Br hr.units) (yg YD hr (F0 YO hr<|iB 0)<|F0 YO hr<|iB 1)<|iB 2)
 (iM<|ja w_)
 ju)
 (iK (kH (jh (Br hr.units) (yg YD hr (F0 YQ hr<|iB 1)<|F0 YQ hr<|iB 0)<|iB 2)
 (iM<|ja w_)
 ju)
 (iM<|ja<|Dh (HW hr.units) (yg YD hr (Mj<|iB 1)<|Mj<|iB 0)<|iB 2))
def pI:FnScope Jm PU (iS Jv):=sJ rfl rfl rfl ∅
set_option smartUnfolding false in
theorem Si(F:Fun K "law" "law" Jv f fd)(YA:mg "range" = none)(YH:mg "max" = none)(Zf:mg "min" = none)(Yz:mg "len" = none)(Zg:nA P w K mg base 1 "_law_bag" uB pK)(Zh:nA P w K mg base 3 "_law_case" sS nP)(YD:nA P w K mg base 49 "rest" zF mH)(YE:nA P w K mg base 3 "length" tH kQ)(Zi:nA P w K mg base 50 "_law_like" sf nS):FnOk P w K mg base nW 51 f fd PU (pP K 1 yV):=sU (m:=II) F pI λcdv B outer s H E hr=>
 iK (m5 cu rfl (nB YA<|i6 (Sj rfl) YH Kx<|iE iJ<|iE (i6 (Rb rfl) Zf Tf<|iE (i6 kN Yz jO<|iE (iB 0) iN)<|iE iJ iN) iN) (i9 (i:=1) pI.nd)
 (iK (jf (i:=2) pI.nd<|yg Zg hr (iB 0)<|iB 1)
 (iK (nI (yg Zh hr (iB 2)<|iB 1)<|qh rfl<|jl (i9 (i:=3) pI.nd)<|jl (i9 (i:=4) pI.nd) nu)
 (iK (jf (i:=5) pI.nd<|yg YD hr (iB 3)<|iB 4)
 (iK (jf (i:=6) pI.nd<|iT ow (F0 YE hr<|iB 4)<|F0 YE hr<|iB 3)
 (iK (kH (AW.at<|A1 (jh (HW hr.units) (iB 5)<|nM iN)<|zz<|jh (Br hr.units) (j3 (iB 5)<|Ij iJ)<|lq<|iE (iB 6)<|iE iJ iN)
 (iM<|ja w_)
 ju)
 (iK (m5 cu rfl (qz<|iB 5) (qh rfl<|jl (i9 (i:=7) pI.nd)<|jl (i9 (i:=8) pI.nd) nu)
 (iM (kH (AW.at<|A1 (jh (Br hr.units) (iT yP (iT ow (iB 6)<|iB 7) iJ) iJ)<|A1 (jh (AD hr.units) (iB 8) iJ)<|zz<|jh (AD hr.units) (iB 7) iJ)
 (iM<|ja w_)
 ju)))
 (iK (kH (C5<|C7<|VO Zi hr (iB 3) (iB 4)<|iB 5)
 (iM<|ja w_)
 ju)
 (iK (jf (i:=9) pI.nd<|iT jI (i6 kN Yz jO<|iE (iB 3) iN) iJ)
 (iM (kH (AW.at<|zX (AW.at<|A1 (jh (AD hr.units) (iB 9) iJ)<|zz<|jh (AD hr.units) (iB 6) iJ)<|vW<|jh (Br hr.units) (yg YD hr (iT jI (iB 3)<|lq<|iE (iB 9) iN)<|iT jI (iB 4)<|lq<|iE (iB 9) iN)<|iB 5)
 (iM<|ja w_)
 ju)))))))))))
 (iM<|ja w_)
end
end K36
namespace Po
open Am
meta abbrev Pl:=List<|Int×Int
abbrev val (d:Pl)(k:Int):Int:=((d.find? λp=>decide<|p.1=k).map (·.2)).getD 0
abbrev has (d:Pl)(k:Int):Bool:=d.any λp=>decide<|p.1=k
abbrev put (d:Pl)(k v:Int):Pl:=if has d k=true then d.map (λp=>if p.1=k then(p.1,v)else p)else d++[(k,v)]
abbrev acc (d:Pl)(k v:Int):Pl:=put d k<|val d k+v
abbrev cf:Pl->Int->Int
 | [],_=>0
 | p::l,k=>(if p.1=k then p.2 else 0)+cf l k
def nR{p:Int×Int}{d:Pl}{k:Int}:val (p::d) k=if p.1=k then p.2 else val d k:=by
 unfold val;rw[cI];by_cases h:p.1=k
 ·rw[aT h,aL h];rfl
 ·rw[aS h,aJ h]
def v_{p:Int×Int}{d:Pl}{k:Int}:has (p::d) k=(decide (p.1=k) || has d k):=rfl
def s_{d:Pl}{k:Int}:has d k=true ↔ k∈d.map Prod.fst:=by
 unfold has;rw[ie,bW];constructor
 ·rintro⟨p,h1,h2⟩;exact⟨p,h1,cB h2⟩
 ·rintro⟨p,h1,h2⟩;exact⟨p,h1,aT h2⟩
def L_{d:Pl}{k:Int}(h:has d k=false):val d k=0:=by
 induction d with
 | nil=>rfl
 | cons p d ih=>
  rw[v_,Bool.or_eq_false_iff]at h;rw[nR,aJ<|dY h.1,ih h.2]
def NY{d:Pl}{k v j:Int}(h:has d k=false):val (d++[(k,v)]) j=if j=k then v else val d j:=by
 induction d with
 | nil=>
  show val [(k,v)] j=_;rw[nR];by_cases c:k=j
  ·rw[aL c,aL c.symm]
  ·rw[aJ c,aJ λz=>c z.symm]
 | cons p d ih=>
  rw[v_,Bool.or_eq_false_iff]at h;have:=dY h.1;rw[gz,nR,nR,ih h.2];by_cases c:p.1=j
  ·rw[aL c,aL c,aJ λz=>this<|c.trans z]
  ·rw[aJ c,aJ c]
def Nd{d:Pl}{k v j:Int}:val (d.map λp=>if p.1=k then(p.1,v)else p) j=if j=k/\has d k=true then v else val d j:=by
 induction d with
 | nil=>
  rw[aJ λz=>by cases z.2];rfl
 | cons p d ih=>
  rw[bS,nR,nR,ih,v_];by_cases c:p.1=k
  ·rw[aL c,aT c,Bool.true_or];by_cases e:j=k
   ·rw[aL<|show p.1=j by lia,aL ⟨e,rfl⟩]
   ·rw[aJ<|show ¬p.1=j by lia,aJ λz=>e z.1,aJ λz=>e z.1,aJ<|show ¬p.1=j by lia]
  ·rw[aJ c,aS c,gB];by_cases e:p.1=j
   ·rw[aL e,aL e,aJ λz=>c<|e.trans z.1]
   ·rw[aJ e,aJ e]
def Og{d:Pl}{k v j:Int}:val (put d k v) j=if j=k then v else val d j:=by
 unfold put
 cases h:has d k with
 | true=>
  rw[aL rfl,Nd,h];by_cases c:j=k
  ·rw[aL ⟨c,rfl⟩,aL c]
  ·rw[aJ λz=>c z.1,aJ c]
 | false=>rw[aJ<|by simp,NY h]
def OZ{d:Pl}{k v j:Int}:val (acc d k v) j=val d j+if k=j then v else 0:=by
 unfold acc;rw[Og];by_cases c:j=k
 ·subst c;rw[aL rfl,aL rfl]
 ·rw[aJ c,aJ λz=>c z.symm,eF]
def KW{d:Pl}{k v:Int}:(put d k v).map Prod.fst=if has d k=true then d.map Prod.fst else d.map Prod.fst++[k]:=by
 unfold put;split
 ·rw[cH];apply gR;intro p _;show(if p.1=k then(p.1,v)else p).1=p.1;split<;>rfl
 ·rw[cj];rfl
def RH{d:Pl}{k v:Int}(h:(d.map Prod.fst).Nodup):((put d k v).map Prod.fst).Nodup:=by
 rw[KW];split
 ·exact h
 ·rename_i c;rw[dh];refine⟨h,c9 _ _,λa ha b hb z=>c ?_⟩;rw[bI]at hb;rw[s_,<- hb,<- z];exact ha
def M8{d:Pl}{k v:Int}:(put d k v).length<=d.length+1:=by
 unfold put;split
 ·rw[aK];lia
 ·rw[aX];exact aQ _
abbrev Bd (c:Nat)(d:Pl):Prop:=∀p∈d,p.2.natAbs<=c
abbrev nV (d ps:Pl):Pl:=ps.foldl (λd p=>acc d p.1 p.2) d
def LA(d:Pl):nV d []=d:=rfl
def xr(d ps qs:Pl):nV d (ps++qs)=nV (nV d ps) qs:=by unfold nV;rw[fm]
def tR(ps:Pl):∀(d:Pl) (k:Int),val (nV d ps) k=val d k+cf ps k:=by
 induction ps with
 | nil=>intro d k;rw[LA];show _=_+0;rw[eF]
 | cons p ps ih=>
  intro d k;show val (nV (acc d p.1 p.2) ps) k=_;rw[ih,OZ];show _=_+(_+_);rw[add_assoc]
def tN(ps:Pl):∀{d:Pl},(d.map Prod.fst).Nodup->((nV d ps).map Prod.fst).Nodup:=by
 induction ps with
 | nil=>intro d h;exact h
 | cons p ps ih=>intro d h;exact ih<|RH h
def pS(ps:Pl):∀(d:Pl),(nV d ps).length<=d.length+ps.length:=by
 induction ps with
 | nil=>intro d;exact aQ _
 | cons p ps ih=>
  intro d;have h1:=ih<|acc d p.1 p.2;have h2:(acc d p.1 p.2).length<=d.length+1:=M8;show(nV (acc d p.1 p.2) ps).length<=_;rw[bz]
  lia
structure Ok (l:Pl):Prop where
 up:l.Pairwise λp q=>p.1<q.1
 nz:∀p∈l,p.2≠0
def Ok.tail{p:Int×Int}(h:Ok (p::l)):Ok l:=⟨(bZ.mp h.up).2,λq hq=>h.nz q<|aP _ hq⟩
def BR{l:Pl}{k:Int}(h:∀p∈l,k<p.1):cf l k=0:=by
 induction l with
 | nil=>rfl
 | cons p l ih=>
  show(if p.1=k then p.2 else 0)+cf l k=0;have:=h p<|aN ..;rw[aJ (),ih λq hq=>h q<|aP _ hq];rfl
def Ok.head{p:Int×Int}(h:Ok (p::l)):cf (p::l) p.1=p.2:=by
 show(if p.1=p.1 then p.2 else 0)+cf l p.1=p.2;rw[aL rfl,BR (bZ.mp h.up).1,eF]
def Ok.low{p:Int×Int}(h:Ok (p::l)){k:Int}(hk:k<p.1):cf (p::l) k=0:=BR λq hq=>by
 rcases bJ.mp hq with rfl|z
 ·exact hk
 ·have:=(bZ.mp h.up).1 q z;lia
theorem uniq:∀{l m:Pl},Ok l->Ok m->(∀k,cf l k=cf m k)->l=m
 | [],[],_,_,_=>rfl
 | [],q::m,_,h,e=>by
  have:=e q.1;rw[h.head]at this;exact absurd this.symm<|h.nz q<|aN ..
 | p::l,[],h,_,e=>by
  have:=e p.1;rw[h.head]at this;exact absurd this<|h.nz p<|aN ..
 | p::l,q::m,h,h',e=>by
  have n1:=h.nz p<|aN ..;have n2:=h'.nz q<|aN ..;have e1:p.1=q.1:=by
   rcases Int.lt_trichotomy p.1 q.1 with c|c|c
   ·have:=e p.1;rw[h.head,h'.low c]at this;exact absurd this n1
   ·exact c
   ·have:=e q.1;rw[h'.head,h.low c]at this;exact absurd this.symm n2
  have e2:p.2=q.2:=by
   have:=e p.1;rw[h.head,e1,h'.head]at this;exact this
  have e3:p=q:=Prod.ext e1 e2;subst e3;rw[uniq h.tail h'.tail λk=>by
   have:(if p.1=k then p.2 else 0)+cf l k=(if p.1=k then p.2 else 0)+cf m k:=e k
   lia]
abbrev ED (d:Pl):Pl:=((sortI<|d.map Prod.fst).filter λk=>val d k != 0).map λk=>(k,val d k)
def OH{ks:ae}(h:ks.Nodup):(sortI ks).Pairwise (· < ·):=by
 have p:=xR ks;have n:(sortI ks).Nodup:=(sortI_perm ks).nodup_iff.mpr h;have:(sortI ks).Pairwise λa b=>a<=b/\a≠b:=p.and n;exact this.imp λ⟨a,b⟩=>()
def C_{d:Pl}(h:(d.map Prod.fst).Nodup):Ok (ED d):=by
 refine⟨?_,λp hp=>?_⟩
 ·unfold ED;rw[eB];exact(OH h).filter _
 ·obtain⟨k,hk,rfl⟩:=bW.mp hp;have:=(dN.mp hk).2;simpa using this
theorem I0{d:Pl}{k:Int}:∀{ks:ae},ks.Nodup->cf (ks.map λj=>(j,val d j)) k=if k∈ks then val d k else 0
 | [],_=>by rw[aJ<|by simp];rfl
 | j::ks,h=>by
  obtain⟨h1,h2⟩:=c7.mp h;show(if j=k then val d j else 0)+cf (ks.map λj=>(j,val d j)) k=_;rw[I0 h2];by_cases c:j=k
  ·subst c;rw[aL rfl,aJ h1,aL<|aN ..,eF]
  ·rw[aJ c,dD];by_cases e:k∈ks
   ·rw[aL e,aL<|aP _ e]
   ·rw[aJ e,aJ λz=>(bJ.mp z).elim (λz=>c z.symm) e]
def zy{d:Pl}(h:(d.map Prod.fst).Nodup)(k:Int):cf (ED d) k=val d k:=by
 unfold ED;rw[I0<|((sortI_perm _).nodup_iff.mpr h).filter _];split
 ·rfl
 ·rename_i c
  cases e:has d k with
  | false=>exact(L_ e).symm
  | true=>
   by_cases z:val d k=0
   ·exact z.symm
   ·exact absurd (dN.mpr ⟨(sortI_perm _).mem_iff.mpr<|s_.mp e,by simpa using z⟩) c
def RY{d e:Pl}(h:(d.map Prod.fst).Nodup)(h':(e.map Prod.fst).Nodup)(hv:∀k,val d k=val e k):ED d=ED e:=
 uniq (C_ h) (C_ h') λk=>by rw[zy h,zy h',hv]
def Ok.nd{l:Pl}(h:Ok l):(l.map Prod.fst).Nodup:=by
 unfold List.Nodup;rw[eB];exact h.up.imp λa=>()
def Rr{l:Pl}(h:(l.map Prod.fst).Nodup)(k:Int):val l k=cf l k:=by
 induction l with
 | nil=>rfl
 | cons p l ih=>
  obtain⟨h1,h2⟩:=c7.mp h;rw[nR];show _=(if p.1=k then p.2 else 0)+cf l k;rw[<- ih h2];by_cases c:p.1=k
  ·have:has l k=false:=by
    cases e:has l k with
    | false=>rfl
    | true=>exact absurd (s_.mp e)<|by rw[<- c];exact h1
   rw[aL c,aL c,L_ this,eF]
  ·rw[aJ c,aJ c,dD]
abbrev Li (d ps:Pl):Pl:=ps.foldl (λd p=>put d p.1 p.2) d
theorem EY:∀(ps d:Pl),((d++ps).map Prod.fst).Nodup->Li d ps=d++ps
 | [],d,_=>by rw[cN];rfl
 | p::ps,d,h=>by
  have hn:has d p.1=false:=by
   cases e:has d p.1 with
   | false=>rfl
   | true=>
    rw[cj,dh]at h;exact absurd rfl<|h.2.2 _ (s_.mp e) p.1<|List.mem_map_of_mem<|aN ..
  have e:put d p.1 p.2=d++[p]:=by unfold put;rw[hn];rfl
  show Li (put d p.1 p.2) ps=_;rw[e,EY ps (d++[p])<|by rw[bG];exact h,bG];rfl
def NI(h:Ok l):Li [] l=l:=EY l [] h.nd
abbrev plus (a b:Pl):Pl:=ED<|nV a b
abbrev xC (a b:Pl):Pl:=ED<|nV []<|a++b
def Ow{a:Pl}(h:Ok a):plus a b=xC a b:=by
 refine RY (tN _ h.nd) (tN _ fC) λk=>?_;rw[tR,tR,Rr h.nd];have:∀(a b:Pl),cf (a++b) k=cf a k+cf b k:=λa b=>by
  induction a with
  | nil=>exact(dD _).symm
  | cons p a ih=>
   show _+cf (a++b) k=_+_+_;rw[ih,add_assoc]
 rw[this];show _=0+_;rw[dD]
def J5(a b:Pl):Ok (xC a b):=C_<|tN _ fC
abbrev HB (a b:Pl):Pl:=a.flatMap λp=>b.map λq=>(p.1+q.1,p.2 * q.2)
abbrev times (a b:Pl):Pl:=ED<|nV []<|HB a b
theorem Ma(a:Pl)(p:Int×Int)(b:Pl):HB (a++[p]) b=HB a b++b.map λq=>(p.1+q.1,p.2 * q.2):=by
 unfold HB;rw[List.flatMap_append,fq,List.flatMap_nil,cN]
def Aa(a b:Pl):(HB a b).length=a.length * b.length:=by
 induction a with
 | nil=>simp[HB]
 | cons p a ih=>
  show((b.map _)++HB a b).length=_;rw[aX,aK,ih,bz,succ_mul]
  lia
def Nb(d:Pl):(ED d).length<=d.length:=by
 unfold Po.ED;rw[aK];refine bP (gp _ _) ?_;rw[(sortI_perm _).length_eq,aK];exact aQ _
abbrev turn (a:Pl):Pl:=a.reverse.map λp=>(-p.1,p.2)
abbrev iv (d:Pl):List (Int×A):=d.map λp=>(p.1,.int p.2)
abbrev pA (p:Int×Int):A:=.tup [.int p.1,.int p.2]
abbrev pl (l:Pl):ad:=l.map pA
def zp(d:Pl)(k:Int):kO (iv d) k=(d.find? λp=>decide<|p.1=k).map λp=>.int p.2:=by
 unfold kO iv;rw[List.find?_map,Option.map_map];rfl
def KL(d:Pl)(k:Int):(kO (iv d) k).getD (.int 0)=.int (val d k):=by
 rw[zp];unfold val
 cases d.find? λp=>decide (p.1=k)<;>rfl
def Cf{d:Pl}{k:Int}(h:k∈d.map Prod.fst):kO (iv d) k=some (.int<|val d k):=by
 have:=s_.mpr h;unfold has at this;rw[zp];unfold val
 cases e:d.find? λp=>decide (p.1=k)with
 | some p=>rfl
 | none=>
  obtain⟨p,hp,hd⟩:=ie.mp this;exact absurd hd<|List.find?_eq_none.mp e p hp
def CF(d:Pl)(k v:Int):uJ (iv d) k (.int v)=iv (put d k v):=by
 have e:(kO (iv d) k).isSome=has d k:=by
  rw[zp,isSome_map];unfold has;rw[Bool.eq_iff_iff,List.find?_isSome,ie]
 unfold uJ put;rw[e];unfold iv;split
 ·rw[cH,cH];apply gR;intro p _;show(if p.1=k then(p.1,A.int v)else(p.1,.int p.2))=_;show _=((if p.1=k then(p.1,v)else p).1,A.int (if p.1=k then(p.1,v)else p).2);split<;>rfl
 ·rw[cj];rfl
def N5(d:Pl):(iv d).map Prod.fst=d.map Prod.fst:=by
 unfold iv;rw[cH];rfl
theorem Pj:∀l:Pl,NP (pl l)=some (iv l)
 | []=>rfl
 | p::l=>by
  show(NP<|pl l).map _=_;rw[Pj l];rfl
def Oc(l:Pl):OY (iv l)=iv (Li [] l):=by
 have:∀(l d:Pl),(iv l).foldl (λacc p=>uJ acc p.1 p.2) (iv d)=iv (Li d l):=by
  intro l
  induction l with
  | nil=>intro d;rfl
  | cons p l ih=>
   intro d;show(iv l).foldl _ (uJ (iv d) p.1<|.int p.2)=_;rw[CF,ih];rfl
 exact this l []
end Po
namespace Tb
abbrev fg (r:ae)(x:Int):Nat:=r.findIdx λy=>decide<|x<y
abbrev put:List (ae)->Int->List (ae)
 | [],x=>[[x]]
 | r::rs,x=>if fg r x=r.length then(r++[x])::rs else r.set (fg r x) x::put rs (r.getD (fg r x) 0)
abbrev row:List (ae)->Int->Nat
 | [],_=>0
 | r::rs,x=>if fg r x=r.length then 0 else row rs (r.getD (fg r x) 0)+1
abbrev add:List (ae)->Nat->Int->List (ae)
 | [],_,k=>[[k]]
 | q::qs,0,k=>(q++[k])::qs
 | q::qs,i+1,k=>q::add qs i k
abbrev gs (r:ae)(x:Int):ag:=(List.range r.length).filter λk=>decide<|x<r.getD k 0
end Tb
namespace Am
open PySem L2
abbrev Rows (S:iH):ag->List (ae)->Prop
 | [],[]=>True
 | r::rs,x::T=>iG S r=some (x.map .int)/\Rows S rs T
 | _,_=>False
structure Tab (S:iH)(n:Nat)(rs:ag)(T:List (ae)):Prop where
 top:iG S n=some (rs.map .ref)
 rows:Rows S rs T
 nd:(n::rs).Nodup
def eq_nil{a:Nat}{xs:ad}(h:iG S a=some xs)(h':iG S b=some []):tV S 12 (.ref a) (.ref b)=some xs.isEmpty:=by
 show(iG S a).bind (λxs=>(iG S b).bind λys=>qB (tV S 11) xs ys)=_;rw[h,gA,h',gA]
 cases xs<;>rfl
def DC{a:A}{k:Bool}(h:tV S 12 a b=some k):qm false a b S=.ok (.bl k) S:=by unfold qm;rw[h];rfl
def zx{a:A}{k:Bool}(h:tV S 12 a b=some k):qm true a b S=.ok (.bl<|!k) S:=by unfold qm;rw[h];rfl
def Ke{xs:ad}{n:Nat}{src:Ic}{t:Te}{e:Ex}{S:iH}(hs:src τ S=.ok (nL n xs.length) S)(hx:iG S n=some xs)(p:A->Bool)(f:A->A)
  (ht:∀x∈xs,t (x::l_ cap τ) S=.ok (p x) S) (he:∀x∈xs,p x=true->e (x::l_ cap τ) S=.ok (f x) S) (hl:xs.length<=16777216) :
  lV (none::cap) src (jB 0) t e τ S=.ok (.ref S.length) (S++[.lst<|(xs.filter p).map f]):=by
 have hm:∀i,i<xs.length->xs.getD i .unb∈xs:=λi hi=>by
  rw[aI,aG hi];exact c_ hi
 rw[uO hs (λi=>xs.getD i .unb) (λi=>p<|xs.getD i .unb) (λi=>f<|xs.getD i .unb) (λi hi=>by
  have hi:i<xs.length:=hi;show(iG S n).bind _=_;rw[hx,gA,aI,aG hi];rfl) (by
   show(match iG S n with
    | some ys=>decide (ys.length<=xs.length)
    | none=>false)=true
   rw[hx];simp) (λi hi=>ht _<|hm i hi) (λi hi=>he _<|hm i hi) hl]
 have:=mP xs p f .unb;show R.ok _ (S++[O.lst<|((List.range xs.length).filter _).map _])=_;rw[this]
def getD_at{r:ae}{k:Nat}(h:k<r.length):r[k]?=some (r.getD k 0):=by rw[aI,aG h];rfl
end Am
namespace Am
open PySem L2 Po
def Mz(l:Pl):(pl l).length=l.length:=aK ..
def G4{xs:ad}{n:Nat}{src:Ic}{t:Te}{e:Ex}{S1:iH}(hs:src τ S=.ok (nL n xs.length) S1)(hx:iG S1 n=some xs)(p:A->Bool)(f:A->A)
  (ht:∀x∈xs,t (x::l_ cap τ) S1=.ok (p x) S1) (he:∀x∈xs,p x=true->e (x::l_ cap τ) S1=.ok (f x) S1) (hl:xs.length<=16777216) :
  lV (none::cap) src (jB 0) t e τ S=.ok (.ref S1.length) (S1++[.lst<|(xs.filter p).map f]):=by
 have:=Ke (S:=S1) (src:=λ_ _=>.ok (nL n xs.length) S1) (τ:=τ) rfl hx p f ht he hl;unfold lV at this ⊢;rw[hs];exact this
def Jd{S:iH}{d:List<|Int×A}:jQ (S++[.pD d]) S.length=some d:=zq Mm
def QH{o:O}{n:Nat}{d:List<|Int×A}(h:jQ S n=some d):jQ (S++[o]) n=some d:=by
 have h':=nh h;exact zq<|by rw[bg (aM.mp h').1];exact h'
def P5{S:iH}{n:Nat}{d:List<|Int×A}(h:jQ S n=some d):n<S.length:=(aM.mp<|nh h).1
def JN{S:iH}{n:Nat}{d:List<|Int×A}(h:n<S.length):jQ (S.set n<|.pD d) n=some d:=zq<|bE h
def Gj{n:Nat}{d:List<|Int×A}(h:jQ S n=some d)(h':iG S m=some xs):n≠m:=λz=>by
 subst z;have e1:=nh h;rw[iU h']at e1
 cases e1
def D7{f:A->ad->iH->R A}{co:Ex}{d:pZ}:Hi f co d τ S=(co τ S).bind λx S1=>opt (dk? x S1) λ_=>(d τ S1).bind λas S2=>f x as S2:=rfl
def K_{n:Nat}:dk? (.ref n) S=(jQ S n).map λ_=>Unit.unit:=rfl
def BP{n:Nat}{k:Int}:uZ (.ref n) [.int k,y] S=opt (jQ S n) λkvs=>.ok ((kO kvs k).getD y) S:=rfl
def EA{co ci:Ex}{a:A}:HK co ci a τ S=(co τ S).bind λo S1=>(ci τ S1).bind λi S2=>(yy o i a S2).bind λ_ S3=>.ok τ S3:=rfl
def Cu{n:Nat}{k:Int}{v:A}{S:iH}:yy (.ref n) (.int k) v S=opt (jQ S n) λkvs=>gd (kvs.length<sizeLine) (.ok Unit.unit<|S.set n<|.pD<|uJ kvs k v):=rfl
def EW{n:Nat}{k:Int}:wF (.ref n) (.int k) S=opt (jQ S n) λkvs=>opt (kO kvs k) λv=>.ok v S:=rfl
def G9{S:iH}:C6 τ S=.ok (.ref S.length) (S++[.pD []]):=rfl
def HH{n:Nat}{S:iH}:wo (.ref n) S=opt (jQ S n) λkvs=>.ok (.ref S.length) (S++[.lst<|(sortI<|kvs.map Prod.fst).map .int]):=rfl
def HM{n:Nat}{S:iH}:CQ (.ref n) S=opt (iG S n) λxs=>opt (NP xs) λps=>.ok (.ref S.length) (S++[.pD<|OY ps]):=rfl
def Xi{i j:Int}(h:i.natAbs<big)(h':j.natAbs<big):GD (.int i) (.int j) S=.ok (.int<|i * j) S:=j4 ⟨h,h'⟩
def IX(d:Pl):(iv d).length=d.length:=aK ..
meta abbrev Rg:Sm:=jm (iI jo (Hi uZ (iC 2)<|iD (iC 3)<|iD (eC<|.int 0)<|iO)<|iC 4)<|HK (iC 2)<|iC 3
def acc_step{S:iH}{d:Nat}{D:Pl}{k v:Int}(hd:jQ S d=some (iv D))(hl:D.length<16777216):Rg [x0,x1,.ref d,.int k,.int v] S=.nx [x0,x1,.ref d,.int k,.int v] (S.set d<|.pD<|iv<|acc D k v):=by
 unfold Rg;dsimp[jj,bools,D7,K_,hd,dO,BP,KL,EA,Cu,A7<|show(iv D).length<16777216 by rw[IX];exact hl,CF];rfl
meta abbrev TU:Tg:=AJ 2<|rR (jB 3)<|rR (jB 4) Ba
def O2{d n:Nat}{D l:Pl}{src:Ic}(hs:src [x0,x1,.ref d,x3,x4] S=.ok (nL n (pl l).length) S1)(hn:iG S1 n=some (pl l))(hd:jQ S1 d=some (iv D))(hl:D.length+l.length<16777216) :
  ∃y3 y4 S',mh src TU Rg [x0,x1,.ref d,x3,x4] S=.nx [x0,x1,.ref d,y3,y4] S'/\jQ S' d=some (iv<|nV D l)/\Kp (·=d) S1 S':=by
 have nd:=Gj hd hn;refine vt (n:=n) (xs:=pl l) hs (λi τ T=>(∃y3 y4,τ=[x0,x1,.ref d,y3,y4])/\jQ T d=some (iv<|nV D<|l.take i)/\Kp (·=d) S1 T)
  (λr=>∃y3 y4 S',r=.nx [x0,x1,.ref d,y3,y4] S'/\jQ S' d=some (iv<|nV D l)/\Kp (·=d) S1 S') ⟨⟨_,_,rfl⟩,hd,Kp.refl⟩ (λi τ T h=>h.2.2.lst _ _ (dc nd) hn) ?_ ?_
 ·rintro i z τ T hz ⟨⟨y3,y4,rfl⟩,hD,kp⟩;unfold pl at hz;rw[bh]at hz;obtain⟨p,hp,rfl⟩:=bu.mp hz;refine⟨[x0,x1,.ref d,.int p.1,.int p.2],T,rfl,.inl ?_⟩;have hlen:=pS (l.take i) D;have hi:=(aM.mp hp).1;rw[bq]at hlen;refine⟨_,_,acc_step hD (),⟨_,_,rfl⟩,?_,kp.LY<|.inl rfl⟩;rw[JN<|P5 hD,gb,hp,xr];rfl
 ·rintro τ T ⟨⟨y3,y4,rfl⟩,hD,kp⟩;rw[Mz,gw]at hD;exact⟨y3,y4,T,rfl,hD,kp⟩
meta abbrev OQ:Sm:=jm (iI jo (Hi uZ (iC 2)<|iD (iI jo (iC 3)<|iC 5)<|iD (eC<|.int 0)<|iO)<|iI GD (iC 4)<|iC 6)<|HK (iC 2)<|iI jo (iC 3)<|iC 5
meta abbrev XG:Tg:=AJ 2<|rR (jB 5)<|rR (jB 6) Ba
def MV{S:iH}{d:Nat}{D:Pl}{k v j u:Int}(hd:jQ S d=some (iv D))(hl:D.length<16777216)(hv:v.natAbs<big)(hu:u.natAbs<big):OQ [x0,x1,.ref d,.int k,.int v,.int j,.int u] S=.nx [x0,x1,.ref d,.int k,.int v,.int j,.int u] (S.set d<|.pD<|iv<|acc D (k+j)<|v * u):=by
 unfold OQ;dsimp[jj,bools,D7,K_,hd,dO,BP,KL,Xi hv hu,EA,Cu,A7<|show(iv D).length<16777216 by rw[IX];exact hl,CF];rfl
def Nl{d n:Nat}{D l:Pl}{k v:Int}(hn:iG S n=some (pl l))(hd:jQ S d=some (iv D))(hl:D.length+l.length<16777216)(hv:v.natAbs<big)(hu:∀p∈l,p.2.natAbs<big) :
  ∃y5 y6 S',mh (oN<|iC 1) XG OQ [x0,.ref n,.ref d,.int k,.int v,x5,x6] S=.nx [x0,.ref n,.ref d,.int k,.int v,y5,y6] S'/\jQ S' d=some (iv<|nV D<|l.map λq=>(k+q.1,v * q.2))/\Kp (·=d) S S':=by
 have nd:=Gj hd hn;refine vt (n:=n) (xs:=pl l) (S1:=S) (uE (by dsimp[jj,bools]) hn) (λi τ T=>(∃y5 y6,τ=[x0,.ref n,.ref d,.int k,.int v,y5,y6])/\jQ T d=some (iv<|nV D<|(l.take i).map λq=>(k+q.1,v * q.2))/\Kp (·=d) S T)
  (λr=>∃y5 y6 S',r=.nx [x0,.ref n,.ref d,.int k,.int v,y5,y6] S'/\jQ S' d=some (iv<|nV D<|l.map λq=>(k+q.1,v * q.2))/\Kp (·=d) S S') ⟨⟨_,_,rfl⟩,hd,Kp.refl⟩ (λi τ T h=>h.2.2.lst _ _ (dc nd) hn) ?_ ?_
 ·rintro i z τ T hz ⟨⟨y5,y6,rfl⟩,hD,kp⟩;unfold pl at hz;rw[bh]at hz;obtain⟨p,hp,rfl⟩:=bu.mp hz;refine⟨[x0,.ref n,.ref d,.int k,.int v,.int p.1,.int p.2],T,rfl,.inl ?_⟩;have hlen:=pS ((l.take i).map λq=>(k+q.1,v * q.2)) D;have hi:=(aM.mp hp).1;rw[aK,bq]at hlen;refine⟨_,_,MV hD () hv<|hu p<|aY hp,⟨_,_,rfl⟩,?_,kp.LY<|.inl rfl⟩;rw[JN<|P5 hD,gb,hp,cj,xr];rfl
 ·rintro τ T ⟨⟨y5,y6,rfl⟩,hD,kp⟩;rw[Mz,gw]at hD;exact⟨y5,y6,T,rfl,hD,kp⟩
meta abbrev QG:Sm:=mh (oN<|iC 1) XG OQ
def Dy(f:Int×Int->A)(hf:∀p τ S,TU (f p) τ S=TU (pA p) τ S){d n:Nat}{a b:Pl}(hn:iG S n=some (a.map f))(hm:iG S m=some (pl b))(hd:jQ S d=some [])(hl:a.length * b.length<16777216)(ha:∀p∈a,p.2.natAbs<big)(hb:∀p∈b,p.2.natAbs<big) :
  ∃y3 y4 y5 y6 S',mh (oN<|iC 0) TU QG [.ref n,.ref m,.ref d,x3,x4,x5,x6] S=.nx [.ref n,.ref m,.ref d,y3,y4,y5,y6] S'/\jQ S' d=some (iv<|nV []<|HB a b)/\Kp (·=d) S S':=by
 have nd:=Gj hd hn;have md:=Gj hd hm;refine vt (n:=n) (xs:=a.map f) (S1:=S) (uE (by dsimp[jj,bools]) hn) (λi τ T=>(∃y3 y4 y5 y6,τ=[.ref n,.ref m,.ref d,y3,y4,y5,y6])/\jQ T d=some (iv<|nV []<|HB (a.take i) b)/\Kp (·=d) S T)
  (λr=>∃y3 y4 y5 y6 S',r=.nx [.ref n,.ref m,.ref d,y3,y4,y5,y6] S'/\jQ S' d=some (iv<|nV []<|HB a b)/\Kp (·=d) S S') ⟨⟨_,_,_,_,rfl⟩,hd,Kp.refl⟩ (λi τ T h=>h.2.2.lst _ _ (dc nd) hn) ?_ ?_
 ·rintro i z τ T hz ⟨⟨y3,y4,y5,y6,rfl⟩,hD,kp⟩;rw[bh]at hz;obtain⟨p,hp,rfl⟩:=bu.mp hz;refine⟨[.ref n,.ref m,.ref d,.int p.1,.int p.2,y5,y6],T,hf _ _ _,.inl ?_⟩;have hlen:=pS (HB (a.take i) b) [];have hi:=(aM.mp hp).1;rw[Aa,bq,eW<|ig hi,cg,eo]at hlen;have hmul:i * b.length+b.length<=a.length * b.length:=by rw[<- succ_mul];exact gG _ hi
  obtain⟨z5,z6,T',e,hD',kp'⟩:=Nl (x0:=.ref n) (x5:=y5) (x6:=y6) (k:=p.1) (v:=p.2) (kp.lst _ _ (dc md) hm) hD () (ha p<|aY hp) hb;refine⟨_,_,e,⟨_,_,_,_,rfl⟩,?_,kp.trans kp'⟩;rw[hD',gb,hp,Option.toList_some,Ma,xr]
 ·rintro τ T ⟨⟨y3,y4,y5,y6,rfl⟩,hD,kp⟩;rw[aK,gw]at hD;exact⟨y3,y4,y5,y6,T,rfl,hD,kp⟩
meta abbrev WU:Ex:=lV [none,some 0] (oN<|je (f1 wo)<|iD (iC 0)<|iO) (jB 0) (mS<|iI (qm true) (iI wF (iC 1)<|iC 0)<|eC<|.int 0)<|mq<|iD (iC 0)<|iD (iI wF (iC 1)<|iC 0)<|iO
def Sk{S:iH}{d:Nat}{D:Pl}(hd:jQ S d=some (iv D))(hl:D.length<=16777216):∃S',WU [.ref d] S=.ok (.ref<|S.length+1) S'/\iG S' (S.length+1)=some (pl<|ED D)/\oz S S':=by
 have hd1:jQ (S++[.lst<|(sortI<|D.map Prod.fst).map .int]) d=some (iv D):=QH hd;have ls:(S++[O.lst<|(sortI<|D.map Prod.fst).map A.int]).length=S.length+1:=by simp
 have cc:=G4 (n:=S.length) (xs:=(sortI<|D.map Prod.fst).map A.int) (cap:=[some 0]) (src:=oN<|je (f1 wo)<|iD (iC 0)<|iO) (t:=mS<|iI (qm true) (iI wF (iC 1)<|iC 0)<|eC<|.int 0) (e:=mq<|iD (iC 0)<|iD (iI wF (iC 1)<|iC 0)<|iO) (τ:=[.ref d]) (S:=S) (S1:=S++[.lst<|(sortI<|D.map Prod.fst).map .int])
  (uE (by dsimp[jj,bools,HH,hd,N5]) ji) ji (λx=>match x with | .int k=>val D k != 0|_=>false) (λx=>match x with | .int k=>pA (k,val D k)|_=>.non) (λx hx=>by
   obtain⟨k,hk,rfl⟩:=bW.mp hx;have hk:=(sortI_perm _).mem_iff.mp hk;dsimp[jj,bools,EW,hd1,Cf hk];rfl) (λx hx _=>by
   obtain⟨k,hk,rfl⟩:=bW.mp hx;have hk:=(sortI_perm _).mem_iff.mp hk;dsimp[jj,bools,EW,hd1,Cf hk];exact zo<|show 2<=16777216 by decide) (by rw[aK,(sortI_perm _).length_eq,aK];exact hl)
 refine⟨_,cc.trans<|by rw[ls],?_,Kp.refl.lay.lay⟩;rw[<- ls,ji];congr 1;unfold pl ED;rw[cH,gM,cH];rfl
end Am
namespace Su
open Am Po PySem L2
meta abbrev En:=ae×Nat×Pl
meta abbrev Es:=List En
abbrev kv (e:En):ae×A:=(e.1,.ref e.2.1)
abbrev At (S:iH)(es:Es):Prop:=∀e∈es,iG S e.2.1=some (pl e.2.2)
meta abbrev Ps:=List<|ae×Pl
abbrev sm (es:Es):Ps:=es.map λe=>(e.1,e.2.2)
abbrev vS (D:Ps)(o:ae):Pl:=((D.find? λe=>decide<|e.1=o).map (·.2)).getD []
abbrev hS (D:Ps)(o:ae):Bool:=D.any λe=>decide<|e.1=o
abbrev WE (D:Ps)(o:ae)(p:Pl):Ps:=if hS D o=true then D.map (λe=>if e.1=o then(e.1,p)else e)else D++[(o,p)]
abbrev Xk (D:Ps)(o:ae)(p:Pl):Ps:=WE D o<|xC (vS D o) p
abbrev adds (D l:Ps):Ps:=l.foldl (λD e=>Xk D e.1 e.2) D
abbrev toS (D:Ps):Ps:=((Mp<|D.map Prod.fst).filter λo=>!(vS D o).isEmpty).map λo=>(o,vS D o)
abbrev fE (D:Es)(o:ae):Option En:=D.find? λe=>decide<|e.1=o
abbrev Vl (k b:Nat)(D:Es):Prop:=∀e∈D,Ok e.2.2/\e.2.2.length<=k/\b<=e.2.1
def HG(a b:Pl):(times a b).length<=a.length * b.length:=by
 refine bP (Nb _)<|bP (pS _ _) ?_;rw[Aa,cg];lia
abbrev SG (D:Es)(p:Pl->Bool):Es:=((Mp<|D.map Prod.fst).filter λo=>p<|vS (sm D) o).map λo=>(o,((fE D o).map λe=>e.2.1).getD 0,vS (sm D) o)
abbrev Ap (D:Es):Prop:=D.Pairwise λe f=>e.1≠f.1/\e.2.1≠f.2.1
structure Fil (T:iH)(d b i j:Nat)(P:Ps)(D:Es):Prop where
 dd:UD T d=some (D.map kv)
 aa:At T D
 ss:sm D=P
 vv:Vl (i * j) b D
 kk:∀e∈D,e.1≠[]
 ll:D.length<=i
 pw:Ap D
end Su
namespace Bl
open L2
abbrev cnt:ae->Int->Int
 | [],_=>0
 | x::l,j=>(if j<=x then 1 else 0)+cnt l j
abbrev Below (xs ys:ae):Prop:=∀(i:Nat) (j:Int),cnt (xs.take i) j<=cnt (ys.take i) j
def Below.refl(xs:ae):Below xs xs:=λ_ _=>fD _
def Below.trans{a c:ae}(h:Below a b)(k:Below b c):Below a c:=λi j=>Int.le_trans (h i j)<|k i j
def cnt_append(a b:ae)(j:Int):cnt (a++b) j=cnt a j+cnt b j:=by
 induction a with
 | nil=>simp[cnt]
 | cons x a ih=>rw[gz,cnt,cnt,ih];lia
def pR{a:ae}(p:a.Perm b)(j:Int):cnt a j=cnt b j:=by
 induction p with
 | nil=>rfl
 | cons x _ ih=>rw[cnt,cnt,ih]
 | swap x y l=>rw[cnt,cnt,cnt,cnt];lia
 | trans _ _ h1 h2=>exact h1.trans h2
def take_snoc{l:ae}{i:Nat}(h:i<l.length):l.take (i+1)=l.take i++[l[i]]:=by
 rw[List.take_succ,aG h];rfl
def jx{l:ae}{i:Nat}(h:i<l.length)(j:Int):cnt (l.take<|i+1) j=cnt (l.take i) j+(if j<=l[i]then 1 else 0):=by
 rw[take_snoc h,cnt_append,cnt,cnt];lia
def Below.antisymm{a b:ae}(hl:a.length=b.length)(h:Below a b)(k:Below b a):a=b:=by
 apply fJ hl;intro i h1 h2;have e:∀(i:Nat) (j:Int),cnt (a.take i) j=cnt (b.take i) j:=λi j=>gJ (h i j)<|k i j;have q:∀j:Int,(if j<=a[i]then(1:Int)else 0)=(if j<=b[i]then 1 else 0):=λj=>by
  have:=e (i+1) j;rw[jx h1,jx h2,e i j]at this
  lia
 have qa:=q a[i];have qb:=q b[i];rw[aL<|fD _]at qa qb;by_cases z:a[i]<=b[i]
 ·by_cases z2:b[i]<=a[i]
  ·lia
  ·rw[aJ z2]at qb;lia
 ·rw[aJ z]at qa;lia
def vm{l:ae}{p:Nat}(h:p<l.length)(v:Int)(i:Nat)(j:Int) :
  cnt ((l.set p v).take i) j=cnt (l.take i) j+(if p<i then(if j<=v then 1 else 0)-(if j<=l[p]then 1 else 0)else 0):=by
 induction l generalizing p i with
 | nil=>cases h
 | cons x l ih=>
  cases i with
  | zero=>simp[cnt]
  | succ i=>
   cases p with
   | zero=>
    show(if j<=v then 1 else 0)+cnt (l.take i) j=(if j<=x then 1 else 0)+cnt (l.take i) j+_;rw[aL<|Nat.succ_pos _];show _=(if j<=x then 1 else 0)+cnt (l.take i) j+((if j<=v then 1 else 0)-(if j<=x then 1 else 0))
    lia
   | succ p=>
    show(if j<=x then 1 else 0)+cnt ((l.set p v).take i) j=(if j<=x then 1 else 0)+cnt (l.take i) j+_;have hp:p<l.length:=gc h;rw[ih hp];by_cases z:p<i
    ·rw[aL z,aL<|Nat.succ_lt_succ z];show _=(if j<=x then 1 else 0)+cnt (l.take i) j+((if j<=v then 1 else 0)-(if j<=l[p]then 1 else 0))
     lia
    ·rw[aJ z,aJ λy=>z<|gc y]
     lia
def qP{l:ae}{p q:Nat}(hp:p<l.length)(hq:q<l.length)(hpq:p<q)(h:l[p]<l[q]):Below l ((l.set p l[q]).set q l[p]):=by
 intro i j;have hq':q<(l.set p l[q]).length:=by rw[bO];exact hq
 rw[vm hq',vm hp];have e:(l.set p l[q])[q]=l[q]:=by rw[List.getElem_set_ne<|bD hpq]
 rw[e]
 (repeat' split)<;>lia
def IJ(l:ae)(i:Nat)(j:Int):cnt (l.drop i) j=cnt l j-cnt (l.take i) j:=by
 have:=cnt_append (l.take i) (l.drop i) j;rw[dm]at this
 lia
def NZ(l:ae)(j:Int):cnt l.reverse j=cnt l j:=pR (g8 l) j
def oE(l:ae)(i:Nat)(j:Int):cnt (l.reverse.take i) j=cnt l j-cnt (l.take<|l.length-i) j:=by
 rw[List.take_reverse,NZ,IJ]
def GX{a b:ae}(p:a.Perm b):Below b.reverse a.reverse ↔ Below a b:=by
 have hl:=p.length_eq;constructor
 ·intro h i j;by_cases hi:i<=a.length
  ·have:=h (a.length-i) j;rw[oE,oE,<- hl,show a.length-(a.length-i)=i by lia,pR p]at this
   lia
  ·rw[cU (),cU (),pR p];exact fD _
 ·intro h i j;rw[oE,oE,<- hl,pR p];have:=h (a.length-i) j
  lia
abbrev nF (a b:ae):Prop:=a.length=b.length/\∀(p:Nat) (h:p<a.length),b[(a[p]-1).toNat]?=some ((p:Int)+1)
def Hj{x y:ae}{n:Nat}(px:x.Perm<|i7 1<|n+1)(py:y.Perm<|i7 1<|n+1):(∀(i q:Nat),i<n->q<n->cnt (x.take<|i+1) ((q:Int)+1)<=cnt (y.take<|i+1) ((q:Int)+1)) ↔ Below x y:=by
 have lx:x.length=n:=by rw[px.length_eq,j0];lia
 have ly:y.length=n:=by rw[py.length_eq,j0];lia
 constructor
 ·intro h i j;have rx:∀z∈x,1<=z/\z<(n:Int)+1:=λz hz=>jz.mp<|px.mem_iff.mp hz;have ry:∀z∈y,1<=z/\z<(n:Int)+1:=λz hz=>jz.mp<|py.mem_iff.mp hz;have low:∀(l:ae),(∀z∈l,j<=z)->cnt l j=l.length:=λl=>by
   induction l with
   | nil=>intro _;rfl
   | cons z l ih=>intro hh;rw[cnt,aL<|hh z aN,ih λy hy=>hh y<|aP _ hy,bz];lia
  have high:∀(l:ae),(∀z∈l,z<j)->cnt l j=0:=λl=>by
   induction l with
   | nil=>intro _;rfl
   | cons z l ih=>intro hh;rw[cnt,aJ (by have:=hh z aN;lia),ih λy hy=>hh y<|aP _ hy];rfl
  by_cases z1:j<=1
  ·rw[low _ λz hz=>by have:=(rx z<|cA hz).1;lia,low _ λz hz=>by have:=(ry z<|cA hz).1;lia,bq,bq,lx,ly];exact fD _
  ·by_cases z2:(n:Int)+1<=j
   ·rw[high _ λz hz=>by have:=(rx z<|cA hz).2;lia,high _ λz hz=>by have:=(ry z<|cA hz).2;lia];exact fD _
   ·obtain⟨q,rfl⟩:∃q:Nat,j=(q:Int)+1:=⟨(j-1).toNat,()⟩;by_cases hi:i<=n
    ·cases i with
     | zero=>simp[cnt]
     | succ i=>exact h i q () ()
    ·rw[cU (),cU (),pR px,pR py];exact fD _
 ·exact λh i q _ _=>h (i+1)<|(q:Int)+1
end Bl
namespace Wd
open Bl L2
abbrev ex (l:ae)(k:Nat):ae:=(l.set (k-1)<|l.getD k 0).set k<|l.getD (k-1) 0
abbrev led (l:ae)(w:ag):ae:=w.foldl ex l
def i_{l:ae}{k:Nat}(h:k<l.length):l.getD k 0=l[k]:=by rw[aI,aG h];rfl
def u9{l:ae}{k:Nat}(h0:1<=k)(h:k<l.length):ex l k=(l.set (k-1) l[k]).set k (l[k-1]'()):=by
 unfold ex;rw[i_ h,i_<|show k-1<l.length by lia]
def jw(l:ae)(k:Nat):(ex l k).length=l.length:=by unfold ex;rw[bO,bO]
theorem E5:∀(w:ag) (l:ae),(led l w).length=l.length
 | [],_=>rfl
 | k::w,l=>by show(led (ex l k) w).length=_;rw[E5 w,jw]
def z8{l:ae}{k:Nat}(h0:1<=k)(h:k<l.length):(ex l k).Perm l:=by
 rw[u9 h0 h];exact List.set_set_perm () h
def vO(a b:ag)(l:ae):led l (a++b)=led (led l a) b:=fm
def uF{l:ae}{k:Nat}(h0:1<=k)(h:k<l.length)(i:Nat)(j:Int) :
  cnt ((ex l k).take i) j=cnt (l.take i) j+(if i=k then(if j<=l[k]then 1 else 0)-(if j<=l[k-1]'()then 1 else 0)else 0):=by
 rw[u9 h0 h];have hq':k<(l.set (k-1) l[k]).length:=by rw[bO];exact h
 rw[vm hq',vm<|show k-1<l.length by lia];have e:(l.set (k-1) l[k])[k]=l[k]:=by rw[List.getElem_set_ne ()]
 rw[e];by_cases h1:i=k
 ·rw[aL h1,aL<|show k-1<i by lia,aJ<|show ¬k<i by lia];lia
 ·by_cases h2:k<i
  ·rw[aJ h1,aL<|show k-1<i by lia,aL h2];lia
  ·rw[aJ h1,aJ<|show ¬k-1<i by lia,aJ h2];lia
def up{l:ae}{k:Nat}(h0:1<=k)(h:k<l.length)(hr:l[k-1]'()<l[k]):Below l (ex l k):=by
 rw[u9 h0 h];exact qP () h () hr
def lift{u w:ae}{k:Nat}(hl:u.length=w.length)(h0:1<=k)(h:k<w.length)(hr:w[k-1]'()<w[k])(hb:Below u w):Below (ex u k) (ex w k):=by
 have hu:k<u.length:=()
 intro i j;rw[uF h0 hu,uF h0 h];by_cases hi:i=k
 ·subst hi;rw[aL rfl,aL rfl];have b1:=hb (i-1) j;have b2:=hb i j;have b3:=hb (i+1) j;have c1:=jx (l:=u) (i:=i-1) () j;have c2:=jx (l:=w) (i:=i-1) () j;have c3:=jx (l:=u) (i:=i) hu j;have c4:=jx (l:=w) (i:=i) h j;rw[show i-1+1=i by lia]at c1 c2;rw[c3,c4]at b3;rw[c1,c2]at b2 b3;rw[c1,c2];revert b1 b2 b3
  (repeat' split)<;>intros<;>lia
 ·rw[aJ hi,aJ hi];have:=hb i j
  lia
abbrev iY:ae->ag->Prop
 | _,[]=>True
 | l,k::w=>1<=k/\k<l.length/\l.getD (k-1) 0<l.getD k 0/\iY (ex l k) w
theorem iY.snoc:∀{w:ag}{l:ae}{k:Nat},iY l w->1<=k->k<l.length->(led l w).getD (k-1) 0<(led l w).getD k 0->iY l (w++[k])
 | [],l,k,_,h0,h1,h2=>⟨h0,h1,h2,trivial⟩
 | m::w,l,k,h,h0,h1,h2=>⟨h.1,h.2.1,h.2.2.1,iY.snoc h.2.2.2 h0 (by rw[jw];exact h1) h2⟩
theorem iY.valid:∀{w:ag}{l:ae},iY l w->∀k∈w,1<=k/\k<l.length
 | [],_,_,k,hk=>by cases hk
 | m::w,l,h,k,hk=>by
  rcases bJ.mp hk with z|z
  ·rw[z];exact⟨h.1,h.2.1⟩
  ·have:=iY.valid h.2.2.2 k z;rw[jw]at this;exact this
abbrev sw (k:Nat)(x:Int):Int:=if x=k then(k:Int)+1 else if x=(k:Int)+1 then k else x
def ex_map(f:Int->Int){l:ae}{k:Nat}(h0:1<=k)(h:k<l.length):ex (l.map f) k=(ex l k).map f:=by
 rw[u9 h0 h,u9 h0<|by rw[aK];exact h,gf,gf,cV,cV]
theorem Gf(f:Int->Int):∀{w:ag}{l:ae},(∀k∈w,1<=k/\k<l.length)->led (l.map f) w=(led l w).map f
 | [],_,_=>rfl
 | k::w,l,h=>by
  have hk:=h k<|aN ..;show led (ex (l.map f) k) w=(led (ex l k) w).map f;rw[ex_map f hk.1 hk.2,Gf f λm hm=>by rw[jw];exact h m<|aP _ hm]
def oi{n p:Nat}(h:p<n):(i7 1<|(n:Int)+1)[p]?=some ((p:Int)+1):=by
 unfold i7;rw[bh,cQ ()];simp;lia
def iP(n:Nat):(i7 1<|(n:Int)+1).length=n:=by rw[j0];lia
def lB{l:ae}{k:Nat}(h0:1<=k)(h:k<l.length)(p:Nat):(ex l k)[p]?=if p=k then l[k-1]? else if p=k-1 then l[k]? else l[p]?:=by
 rw[u9 h0 h,List.getElem?_set];by_cases h1:k=p
 ·rw[aL h1,aL h1.symm,aL<|by rw[bO];lia,aG]
 ·rw[aJ h1,aJ λz=>h1 z.symm,List.getElem?_set];by_cases h2:k-1=p
  ·rw[aL h2,aL h2.symm,aL (),aG]
  ·rw[aJ h2,aJ λz=>h2 z.symm]
def DT{n k:Nat}(h0:1<=k)(h:k<n):ex (i7 1<|(n:Int)+1) k=(i7 1<|(n:Int)+1).map (sw k):=by
 apply bU;intro p;rw[lB h0<|by rw[iP];exact h,bh];by_cases hp:p<n
 ·rw[oi hp,oi h,oi<|show k-1<n by lia];show _=some (sw k<|(p:Int)+1);unfold sw;by_cases h1:p=k
  ·rw[aL h1,aJ (),aL ()];congr 1;lia
  ·rw[aJ h1];by_cases h2:p=k-1
   ·rw[aL h2,aL ()]
   ·rw[aJ h2,aJ (),aJ ()]
 ·have e:(i7 1<|(n:Int)+1)[p]?=none:=bC (by rw[iP];lia);rw[aJ (),aJ (),e];rfl
def yJ{A B:ae}{k:Nat}(h0:1<=k)(h:k<A.length)(hb:nF A B):nF (ex A k) (B.map<|sw k):=by
 refine⟨by rw[jw,aK];exact hb.1,λp hp=>?_⟩;rw[jw]at hp;have hg:(ex A k)[p]'(by rw[jw];exact hp)=if p=k then A[k-1]'()else if p=k-1 then A[k]else A[p]:=by
  have:=lB h0 h p;rw[aG<|by rw[jw];exact hp]at this;by_cases h1:p=k
  ·rw[aL h1,aG<|show k-1<A.length by lia]at this;rw[aL h1];exact aU this
  ·rw[aJ h1]at this;rw[aJ h1];by_cases h2:p=k-1
   ·rw[aL h2,aG h]at this;rw[aL h2];exact aU this
   ·rw[aJ h2,aG hp]at this;rw[aJ h2];exact aU this
 rw[hg,bh];by_cases h1:p=k
 ·rw[aL h1,hb.2 (k-1) ()];show some (sw k _)=_;unfold sw;rw[aL ()];congr 1;lia
 ·rw[aJ h1];by_cases h2:p=k-1
  ·rw[aL h2,hb.2 k h];show some (sw k _)=_;unfold sw;rw[aJ (),aL ()];congr 1;lia
  ·rw[aJ h2,hb.2 p hp];show some (sw k _)=_;unfold sw;rw[aJ (),aJ ()]
theorem kC{n:Nat}:∀(w:ag),(∀k∈w,1<=k/\k<n)->nF (led (i7 1<|(n:Int)+1) w.reverse) (led (i7 1<|(n:Int)+1) w)
 | [],_=>⟨rfl,λp hp=>by
  have hp:p<n:=by rw[show([]:ag).reverse=[]from rfl]at hp;have:p<(i7 1<|(n:Int)+1).length:=hp;rw[iP]at this;exact this
  have e:(i7 1<|(n:Int)+1)[p]'(by rw[iP];exact hp)=(p:Int)+1:=by
   have:=oi hp;rw[aG<|by rw[iP];exact hp]at this;exact aU this
  show(i7 1<|(n:Int)+1)[(((i7 1<|(n:Int)+1)[p]'(by rw[iP];exact hp))-1).toNat]?=_;rw[e,show((p:Int)+1-1).toNat=p by lia];exact oi hp⟩
 | k::w,h=>by
  have hk:=h k<|aN ..;have hw:=λm hm=>h m<|aP k hm;have ih:=kC w hw;rw[cZ,vO];show nF (ex (led (i7 1<|(n:Int)+1) w.reverse) k) (led (ex (i7 1<|(n:Int)+1) k) w);rw[DT hk.1 hk.2,Gf (sw k) λm hm=>by rw[iP];exact hw m hm];exact yJ hk.1 (by rw[E5,iP];exact hk.2) ih
end Wd
namespace Iv
open L2 Bl
abbrev inv:ae->Nat
 | []=>0
 | x::l=>l.countP (λy=>decide<|y<x)+inv l
abbrev jG (a b:ae):Nat:=(a.map λx=>b.countP λy=>decide<|y<x).sum
def mF(x:Int)(a b:ae):jG (x::a) b=b.countP (λy=>decide<|y<x)+jG a b:=rfl
theorem jb:∀(a b:ae),inv (a++b)=inv a+inv b+jG a b
 | [],b=>by show inv b=0+inv b+0;lia
 | x::a,b=>by
  show(a++b).countP _+inv (a++b)=(a.countP _+inv a)+inv b+jG (x::a) b;rw[List.countP_append,jb a b,mF];lia
theorem tD:∀{a b:ag},a.Perm b->a.sum=b.sum
 | _,_,.nil=>rfl
 | _,_,.cons x h=>by rw[fO,fO,tD h]
 | _,_,.swap x y l=>by rw[fO,fO,fO,fO];lia
 | _,_,.trans h k=>(tD h).trans<|tD k
def Ef{a:ae}(b:ae)(h:a.Perm a'):jG a b=jG a' b:=tD<|h.map _
def Fc(a:ae){b:ae}(h:b.Perm b'):jG a b=jG a b':=by
 unfold jG;congr 1;refine gR λx _=>h.countP_eq _
def zS{M:ae}{x y:Int}(h:∀m∈M,m<x\/y<m)(hxy:x<y):M.countP (λm=>decide<|m<x)=M.countP (λm=>decide<|m<y):=by
 refine List.countP_congr λm hm=>?_;rw[decide_eq_true_iff,decide_eq_true_iff]
 rcases h m hm with z|z<;>omega
theorem uY:∀{M:ae}{x y:Int},(∀m∈M,m<x\/y<m)->x<y->jG M [x]=jG M [y]
 | [],_,_,_,_=>rfl
 | m::M,x,y,h,hxy=>by
  rw[mF,mF,uY (λm' hm=>h m'<|aP _ hm) hxy];congr 1;have:=h m<|aN ..;dsimp[cP,List.countP_nil];by_cases c:x<m
  ·rw[aT c,aT<|show y<m by omega]
  ·rw[aS c,aS<|show ¬y<m by omega]
def mid{M:ae}{x y:Int}(h:∀m∈M,m<x\/y<m)(hxy:x<y):inv ([y]++M++[x])=inv ([x]++M++[y])+1:=by
 rw[jb,jb,jb<|[x]++M,jb [x]];have e1:jG [y] M=jG [x] M:=by
  show M.countP _+0=M.countP _+0;rw[zS h hxy]
 have e2:jG ([y]++M) [x]=1+jG M [x]:=by
  show[x].countP _+jG M [x]=_;rw[cP,aT hxy];rfl
 have e3:jG ([x]++M) [y]=jG M [y]:=by
  show[y].countP _+jG M [y]=_;rw[cP,aS (by lia:¬y<x)];simp
 rw[e1,e2,e3,uY h hxy]
 skip
 lia
def xB(M:ae)(x y:Int):([y]++M++[x]).Perm ([x]++M++[y]):=by
 refine(List.perm_append_comm (l₁:=[y]++M) (l₂:=[x])).trans ?_
 skip
 exact .cons x<|List.perm_append_comm (l₁:=[y]) (l₂:=M)
def step{P M R:ae}{x y:Int}(h:∀m∈M,m<x\/y<m)(hxy:x<y):inv (P++([y]++M++[x])++R)=inv (P++([x]++M++[y])++R)+1:=by
 have p:=xB M x y;rw[jb,jb P,jb<|P++([x]++M++[y]),jb P,mid h hxy,Fc P p,Ef R<|p.append_left P]
 lia
abbrev sw (a:ae)(i j:Nat):ae:=(a.set i<|a.getD j 0).set j<|a.getD i 0
def zT(a:ae)(i j:Nat):(sw a i j).length=a.length:=by unfold sw;rw[bO,bO]
def split{a:ae}(hij:i<j)(hj:j<a.length):∃P M R:ae,a=P++([a.getD i 0]++M++[a.getD j 0])++R/\P=a.take i/\(∀m∈M,∃k,i<k/\k<j/\a[k]?=some m)/\sw a i j=P++([a.getD j 0]++M++[a.getD i 0])++R:=by
 have gi:a.getD i 0=a[i]:=by rw[aI,aG ()];rfl
 have gj:a.getD j 0=a[j]:=by rw[aI,aG hj];rfl
 obtain⟨M,hM⟩:∃M,M=(a.drop<|i+1).take (j-i-1):=⟨_,rfl⟩;have lM:M.length=j-i-1:=by rw[hM,bq,bR];lia
 have ea:a=a.take i++([a.getD i 0]++M++[a.getD j 0])++a.drop (j+1):=by
  have h1:a.drop i=a[i]::a.drop (i+1):=bV ();have h2:a.drop (i+1)=M++a.drop j:=by
   rw[hM];have:=dm (j-i-1)<|a.drop<|i+1;rw[List.drop_drop,show i+1+(j-i-1)=j by lia]at this;exact this.symm
  have h3:a.drop j=a[j]::a.drop (j+1):=bV hj
  conv=>lhs;rw[<- dm i a,h1,h2,h3]
  rw[gi,gj];simp
 refine⟨a.take i,M,a.drop<|j+1,ea,rfl,λm hm=>?_,?_⟩
 ·rw[hM]at hm;obtain⟨k,hk⟩:=gE hm;have hlt:k<j-i-1:=by
   have:=(aM.mp hk).1;rw[bq]at this;lia
  rw[dB hlt,dX]at hk;exact⟨i+1+k,(),(),hk⟩
 ·have key:∀(P R:ae) (x y x' y':Int),P.length=i->((P++([x]++M++[y])++R).set i y').set j x'=P++([y']++M++[x'])++R:=λP R x y x' y' lP=>by
   rw[bG,c5 _ _ (),lP,fH];show(P++(y'::((M++[y])++R))).set j x'=_;rw[c5 _ _ (),lP,show j-i=(j-i-1)+1 by lia,List.set_cons_succ,bG,c5 _ _ (),lM,fH];simp
  have:=key (a.take i) (a.drop<|j+1) (a.getD i 0) (a.getD j 0) (a.getD i 0) (a.getD j 0) (by rw[bq];lia);rw[<- ea]at this;exact this
def qc{a:ae}{i:Nat}(h:i<a.length):a[i]?=some (a.getD i 0):=by rw[aI,aG h];rfl
def De{a:ae}(hij:i<j)(hj:j<a.length)(p:Nat):(sw a i j).getD p 0=if p=j then a.getD i 0 else if p=i then a.getD j 0 else a.getD p 0:=by
 unfold sw;rw[aI];by_cases c:p=j
 ·subst c;rw[aL rfl,bE<|by rw[bO];exact hj];rfl
 ·rw[aJ c,bL<|dc c];by_cases d:p=i
  ·subst d;rw[aL rfl,bE ()];rfl
  ·rw[aJ d,bL<|dc d,<- aI]
end Iv
namespace Fw
open PySem L2 Bl
open Wd (ex led)
meta abbrev rg (n:Nat):ae:=i7 1<|(n:Int)+1
def mX{l:ae}{k:Nat}(h0:1<=k)(h:k<l.length):ex (ex l k) k=l:=by
 apply bU;intro p;have h':k<(ex l k).length:=by rw[Wd.jw];exact h
 rw[Wd.lB h0 h',Wd.lB h0 h,Wd.lB h0 h,Wd.lB h0 h];by_cases c3:p=k
 ·rw[aL c3,aJ (),aL rfl,c3]
 ·rw[aJ c3];by_cases c2:p=k-1
  ·rw[aL c2,aL rfl,c2]
  ·rw[aJ c2,aJ c3,aJ c2]
def BE{l:ae}{k:Nat}(h0:1<=k)(h:k<l.length):(ex l k).getD k 0=l.getD (k-1) 0:=by
 rw[aI,Wd.lB h0 h,aL rfl,aI]
def B7{l:ae}{k:Nat}(h0:1<=k)(h:k<l.length):(ex l k).getD (k-1) 0=l.getD k 0:=by
 rw[aI,Wd.lB h0 h,aJ (),aL rfl,aI]
def wM{l:ae}{k:Nat}(h0:1<=k)(h:k<l.length)(hr:l.getD (k-1) 0<l.getD k 0):Iv.inv (ex l k)=Iv.inv l+1:=by
 obtain⟨P,M,R,e,_,hM,es⟩:=Iv.split (a:=l) (i:=k-1) (j:=k) () h;have:=Iv.step (P:=P) (M:=M) (R:=R) (x:=l.getD (k-1) 0) (y:=l.getD k 0) (λm hm=>by obtain⟨_,_,_,_⟩:=hM m hm;lia) hr;rw[<- es,<- e]at this;exact this
def o5{l:ae}{k:Nat}(h0:1<=k)(h:k<l.length)(hr:l.getD k 0<l.getD (k-1) 0):Iv.inv l=Iv.inv (ex l k)+1:=by
 have:=wM (l:=ex l k) h0 (by rw[Wd.jw];exact h) (by rw[BE h0 h,B7 h0 h];exact hr);rw[mX h0 h]at this;exact this
abbrev Va (n:Nat)(w:ag):Prop:=∀k∈w,1<=k/\k<n
def Va.tail{n k:Nat}{w:ag}(h:Va n (k::w)):Va n w:=λj hj=>h j<|aP _ hj
def Va.head{n k:Nat}{w:ag}(h:Va n (k::w)):1<=k/\k<n:=h k<|aN ..
theorem wJ:∀{w:ag}{l:ae},Va l.length w->led (led l w) w.reverse=l
 | [],l,_=>rfl
 | k::w,l,h=>by
  rw[cZ,Wd.vO];show led (led (led (ex l k) w) w.reverse) [k]=l;rw[wJ (w:=w) (l:=ex l k)<|by rw[Wd.jw];exact h.tail];exact mX h.head.1 h.head.2
theorem DB:∀{l:ae},l.Pairwise (·<=·)->Iv.inv l=0
 | [],_=>rfl
 | x::l,h=>by
  show l.countP (λy=>decide<|y<x)+Iv.inv l=0;rw[DB (bZ.mp h).2,List.countP_eq_zero.mpr λa ha z=>by have:=cB z;have:=(bZ.mp h).1 a ha;lia]
def Di(n:Nat):Iv.inv (rg n)=0:=DB<|E2 _ _
abbrev wH (l:ae)(k:Nat):Prop:=1<=k/\k<l.length/\l.getD k 0<l.getD (k-1) 0
def PF{l:ae}(h:∀k,¬wH l k):l.Pairwise (·<=·):=by
 have key:∀d i,i+d<l.length->l.getD i 0<=l.getD (i+d) 0:=by
  intro d
  induction d with
  | zero=>intro i _;exact fD _
  | succ d ih=>
   intro i hi;have h1:=ih i ();have h2:¬l.getD (i+d+1) 0<l.getD (i+d) 0:=λz=>h (i+d+1) ⟨(),hi,z⟩;rw[<- e9];lia
 rw[di];intro i j hi hj hij;have:=key (j-i) i ();rw[show i+(j-i)=j by lia,Wd.i_ hi,Wd.i_ hj]at this;exact this
def Bq{l:ae}{n:Nat}(p:l.Perm<|rg n)(h:∀k,¬wH l k):l=rg n:=
 List.Perm.eq_of_pairwise (λx y _ _ h1 h2=>gJ h1 h2) (PF h) (E2 _ _) p
def Fp(h:0<Iv.inv l):∃k,wH l k:=by
 refine Classical.byContradiction λz=>?_;rw[DB<|PF λk hk=>z ⟨k,hk⟩]at h;exact absurd h<|eX _
abbrev Dn:ae->ag->Prop
 | l,[]=>∀k,¬wH l k
 | l,k::ks=>(wH l k/\∀j,wH l j->k<=j)/\Dn (ex l k) ks
def jW{l:ae}{n k:Nat}(p:l.Perm<|rg n)(h0:1<=k)(h:k<l.length):(ex l k).Perm (rg n):=(Wd.z8 h0 h).trans p
def Dn.va:∀{ks:ag}{l:ae},Dn l ks->Va l.length ks
 | [],l,_=>λk hk=>absurd hk (by simp)
 | k::ks,l,h=>λj hj=>by
  rcases bJ.mp hj with rfl|z
  ·exact⟨h.1.1.1,h.1.1.2.1⟩
  ·have:=h.2.va j z
   rwa [Wd.jw]at this
theorem Dn.led:∀{ks:ag}{l:ae}{n:Nat},Dn l ks->l.Perm (rg n)->led l ks=rg n
 | [],l,n,h,p=>Bq p h
 | k::ks,l,n,h,p=>Dn.led (ks:=ks) h.2<|jW p h.1.1.1 h.1.1.2.1
theorem AR:∀(m:Nat) (l:ae),Iv.inv l<=m->∃ks,Dn l ks
 | 0,l,h=>⟨[],λk hk=>by have:=o5 hk.1 hk.2.1 hk.2.2;lia⟩
 | m+1,l,h=>by
  by_cases c:∃k,wH l k
  ·obtain⟨k,hk,hmin⟩:∃k,wH l k/\∀j,wH l j->k<=j:=by
    obtain⟨k,hk⟩:=c
    induction k using Nat.strongRecOn with
    | ind k ih=>
     by_cases z:∃j,wH l j/\j<k
     ·obtain⟨j,hj,hlt⟩:=z;exact ih j hlt hj
     ·exact⟨k,hk,λj hj=>Nat.le_of_not_lt λy=>z ⟨j,hj,y⟩⟩
   have:=o5 hk.1 hk.2.1 hk.2.2;obtain⟨ks,hks⟩:=AR m (ex l k) ();exact⟨k::ks,⟨hk,hmin⟩,hks⟩
  ·exact⟨[],λk hk=>c ⟨k,hk⟩⟩
def tP{l:ae}{n k:Nat}(p:l.Perm<|rg n)(h0:1<=k)(h:k<l.length):l.getD (k-1) 0≠l.getD k 0:=λz=>by
 have nd:l.Nodup:=p.nodup_iff.mpr<|kh _ _;rw[Wd.i_ h,Wd.i_<|show k-1<l.length by lia]at z;have:=(c8 nd).mp z
 lia
def Ho{a c:ae}{n:Nat}(pa:a.Perm<|rg n)(h1:nF a b)(h2:nF b c):a=c:=by
 have l1:=h1.1;have l2:=h2.1;refine fJ () λq hq hq'=>?_;have e1:=h1.2 q hq;have hm:=(jz.mp<|pa.mem_iff.mp<|c_ hq);obtain⟨hb,eb⟩:=aM.mp e1;have e2:=h2.2 _ hb;rw[eb,show((q:Int)+1-1).toNat=q by lia,aG hq']at e2;have:=aU e2
 lia
structure Two (n:Nat)(o u:ae):Prop where
 po:o.Perm (rg n)
 pu:u.Perm (rg n)
 ou:nF o u
def Two.lu{n:Nat}{u:ae}(t:Two n o u):u.length=n:=by rw[t.pu.length_eq,Wd.iP]
def Two.lo{n:Nat}{o:ae}(t:Two n o u):o.length=n:=by rw[t.po.length_eq,Wd.iP]
def Two.led{n:Nat}{ks:ag}(t:Two n o u)(h:Dn u ks):Wd.led (rg n) ks=o:=by
 have v:Va n ks:=by have:=h.va;rwa [t.lu]at this
 have e:=h.led t.pu;have e2:u=Wd.led (rg n) ks.reverse:=by rw[<- e,wJ<|by rw[t.lu];exact v]
 have b:=Wd.kC ks v;rw[<- show u=Wd.led (i7 1<|(n:Int)+1) ks.reverse from e2]at b;exact(Ho t.po t.ou b).symm
def Two.uo{n:Nat}(t:Two n o u):nF u o:=by
 obtain⟨ks,h⟩:=AR _ u<|aQ _;have v:Va n ks:=by have:=h.va;rwa [t.lu]at this
 have e:=h.led t.pu;have e2:u=Wd.led (rg n) ks.reverse:=by rw[<- e,wJ<|by rw[t.lu];exact v]
 have b:=Wd.kC ks v;rw[<- show u=Wd.led (i7 1<|(n:Int)+1) ks.reverse from e2,show Wd.led (i7 1<|(n:Int)+1) ks=o from t.led h]at b;exact b
def Two.flip{n:Nat}(t:Two n o u):Two n u o:=⟨t.pu,t.po,t.uo⟩
def Two.step{n k:Nat}{o:ae}(t:Two n o u)(h0:1<=k)(h:k<n):Two n (o.map<|Wd.sw k) (ex u k):=by
 have lu:=t.lu;have b:=Wd.yJ h0 () t.uo;have p1:=jW t.pu h0 ();have p2:(o.map<|Wd.sw k).Perm (rg n):=(t.po.map _).trans (by rw[<- Wd.DT h0 h];exact Wd.z8 h0<|by rw[Wd.iP];exact h);exact(Two.mk p1 p2 b).flip
end Fw
namespace Su
open Am Po PySem L2
abbrev cS (l:Ps)(o:ae)(t:Int):Int:=match l with
 | []=>0
 | e::l=>(if e.1=o then cf e.2 t else 0)+cS l o t
def Ju(a b:Pl)(k:Int):cf (a++b) k=cf a k+cf b k:=by
 induction a with
 | nil=>exact(dD _).symm
 | cons p a ih=>
  show _+cf (a++b) k=_+_+_;rw[ih,add_assoc]
def L7(a b:Pl)(k:Int):cf (xC a b) k=cf a k+cf b k:=by
 unfold xC;rw[zy<|tN _ (d:=[]) fC,tR,Ju];show 0+_=_;rw[dD]
def LW(a b:Pl)(k:Int):cf (times a b) k=cf (HB a b) k:=by
 unfold times;rw[zy<|tN _ (d:=[]) fC,tR];show 0+_=_;rw[dD]
theorem P1(s:Int):∀(b:Pl) (k c:Int),cf (b.map λq=>(c+q.1,s * q.2)) k=s * cf b (k-c)
 | [],k,c=>(Int.mul_zero s).symm
 | q::b,k,c=>by
  show(if c+q.1=k then s * q.2 else 0)+cf (b.map λq=>(c+q.1,s * q.2)) k=s * ((if q.1=k-c then q.2 else 0)+cf b (k-c));rw[P1 s b k c,Int.mul_add];by_cases h:c+q.1=k
  ·rw[aL h,aL ()]
  ·rw[aJ h,aJ (),Int.mul_zero]
meta abbrev AF:Pl:=[((-1:Int),(1:Int)),((1:Int),(-1:Int))]
structure Gd (D:Ps):Prop where
 nd:(D.map Prod.fst).Nodup
 ok:∀e∈D,Ok e.2
abbrev j9 (o:ae)(k:Nat):Bool:=decide<|o.getD (k-1) 0>o.getD k 0
abbrev Yp (k:Nat)(l:Ps):Ps:=l.flatMap λe=>(Wd.ex e.1 k,e.2)::(if j9 e.1 k=true then[(e.1,times AF e.2)]else[])
abbrev bx (k:Nat)(l:Ps):Ps:=toS<|adds []<|Yp k l
def Ue{k:Nat}{o:ae}(h1:1<=k)(h2:k<o.length):(Wd.ex o k).getD (k-1) 0=o.getD k 0/\(Wd.ex o k).getD k 0=o.getD (k-1) 0:=by
 constructor
 ·rw[aI,Wd.lB h1 h2,aJ (),aL rfl,aI]
 ·rw[aI,Wd.lB h1 h2,aL rfl,aI]
end Su
namespace He
open PySem L2 Am
open Fw (Two rg wH)
open Bl (nF)
open Su (j9)
meta abbrev Fn:=ae->Int->Int
abbrev dl (g:Int->Int)(t:Int):Int:=g (t+1)-g (t-1)
abbrev X (k:Nat)(f:Fn):Fn:=λo t=>f (Wd.ex o k) t+if j9 o k=true then dl (f o) t else 0
def jH{n:Nat}{v:ae}(h:Two n o u)(h':Two n o v):u=v:=by
 have l1:=h.lu;have l2:=h'.lu;have l3:=h.lo;apply bU;intro q;by_cases hq:q<n
 ·obtain⟨p,hp,ep⟩:∃p,∃hp:p<o.length,o[p]=(q:Int)+1:=by
   have:(q:Int)+1∈o:=h.po.mem_iff.mpr<|jz.mpr ⟨(),()⟩;obtain⟨p,hp,ep⟩:=List.getElem_of_mem this;exact⟨p,hp,ep⟩
  have a1:=h.ou.2 p hp;have a2:=h'.ou.2 p hp;rw[ep,show((q:Int)+1-1).toNat=q by lia]at a1 a2;rw[a1,a2]
 ·rw[bC (),bC ()]
abbrev bk (o:ae):ae:=(List.range o.length).map λi:Nat=>((o.idxOf ((i:Int)+1):Nat):Int)+1
def jY{n:Nat}{o:ae}(h:o.Perm<|rg n):Two n o (bk o):=by
 have lo:o.length=n:=by rw[h.length_eq,Wd.iP]
 have nd:o.Nodup:=h.nodup_iff.mpr<|kh _ _;have mem:∀i,i<n->(i:Int)+1∈o:=λi hi=>h.mem_iff.mpr<|jz.mpr ⟨(),()⟩;have ix:∀i,i<n->o.idxOf ((i:Int)+1)<n:=λi hi=>by rw[<- lo];exact List.idxOf_lt_length_iff.mpr (mem i hi)
 have get:∀i (hi:i<n),o[o.idxOf<|(i:Int)+1]'(by rw[lo];exact ix i hi)=(i:Int)+1:=λi hi=>List.getElem_idxOf _;refine⟨h,?_,?_,λp hp=>?_⟩
 ·have p:=Am.xq (N:=n) (g:=λi=>o.idxOf<|(i:Int)+1) ix λi j hij hj z=>by
   have a:=get i ();have b:=get j hj;dsimp[z]at a;rw[b]at a
   lia
  have p2:=p.map λi:Nat=>(i:Int)+1;rw[cH]at p2;unfold bk;rw[lo];refine List.Perm.trans p2 ?_;have:(List.range n).map (λi:Nat=>(i:Int)+1)=rg n:=by
   apply bU;intro q;rw[bh];by_cases c:q<n
   ·rw[cQ c,Wd.oi c];rfl
   ·rw[bC<|by rw[cK];lia,bC<|by rw[Wd.iP];lia];rfl
  rw[this]
 ·unfold bk;rw[aK,cK]
 ·have m:=jz.mp<|h.mem_iff.mp<|c_ hp;have hq:(o[p]-1).toNat<o.length:=()
  unfold bk;rw[bh,cQ hq];show some (((o.idxOf (((o[p]-1).toNat:Int)+1):Nat):Int)+1)=_;rw[show((o[p]-1).toNat:Int)+1=o[p]by lia,nd.idxOf_getElem]
def yx{n:Nat}{o:ae}(h:o.Perm<|rg n):bk (bk o)=o:=jH (jY (jY h).pu) (jY h).flip
def mW{n:Nat}{o:ae}(h:o.Perm<|rg n):(bk o).Perm (rg n):=(jY h).pu
def JP{n k:Nat}{o:ae}(h:o.Perm<|rg n)(h0:1<=k)(h1:k<n):bk (o.map<|Wd.sw k)=Wd.ex (bk o) k:=by
 have t:=(jY h).step h0 h1;exact jH (jY t.po) t
def Cp{n k:Nat}{o:ae}(h:o.Perm<|rg n)(h0:1<=k)(h1:k<n):bk (Wd.ex o k)=(bk o).map (Wd.sw k):=by
 have t:=((jY h).flip.step h0 h1).flip;exact jH (jY t.po) t
theorem rf{n k p:Nat}{o u:ae}(t:Two n o u)(h1:1<=k)(h2:k<=n)(hp:o.getD p 0=(k:Int))(hpn:p<n):u.getD (k-1) 0=(p:Int)+1:=by
 have lo:=t.lo;have lp:p<o.length:=()
 have:=t.ou.2 p lp;rw[Wd.i_ lp]at hp;rw[hp,show((k:Int)-1).toNat=k-1 by lia]at this;rw[aI,this];rfl
def nb{n k:Nat}{o:ae}(h:o.Perm<|rg n)(h0:1<=k)(h1:k<n):o.getD (k-1) 0≠o.getD k 0:=λz=>by
 have lo:o.length=n:=by rw[h.length_eq,Wd.iP]
 have nd:o.Nodup:=h.nodup_iff.mpr<|kh _ _;rw[Wd.i_ (),Wd.i_ ()]at z;have:=(c8 nd).mp z
 lia
abbrev Pr (o:ae)(k j:Nat):Prop:=(o.getD (k-1) 0=j/\o.getD k 0=(j:Int)+1)\/(o.getD (k-1) 0=(j:Int)+1/\o.getD k 0=j)
def uP{n k:Nat}{u:ae}(h:u.Perm<|rg n)(h0:1<=j)(h1:j<n):(Pr u j k->j9 (u.map<|Wd.sw k) j=!j9 u j)/\(¬Pr u j k->j9 (u.map<|Wd.sw k) j=j9 u j):=by
 have lu:u.length=n:=by rw[h.length_eq,Wd.iP]
 have ne:=nb h h0 h1;have e1:(u.map<|Wd.sw k).getD (j-1) 0=Wd.sw k (u.getD (j-1) 0):=by
  rw[Wd.i_<|by rw[aK];lia,Wd.i_ (),cV]
 have e2:(u.map<|Wd.sw k).getD j 0=Wd.sw k (u.getD j 0):=by
  rw[Wd.i_<|by rw[aK];lia,Wd.i_ (),cV]
 unfold j9 Pr;rw[e1,e2];generalize u.getD (j-1) 0=a at *
 generalize u.getD j 0=b at *
 constructor
 ·rintro(⟨z1,z2⟩|⟨z1,z2⟩)
  ·subst z1;subst z2;unfold Wd.sw;rw[aL rfl,aJ (),aL rfl,aT (),aS ()];rfl
  ·subst z1;subst z2;unfold Wd.sw;rw[aJ (),aL rfl,aL rfl,aS (),aT ()];rfl
 ·intro z;rw[fK];unfold Wd.sw;split<;>split<;>(try split)<;>(try split)<;>lia
def oF{n k:Nat}(t:Two n o u)(h0:1<=k)(h1:k<n)(h2:1<=j)(h3:j<n)(h:Pr o k j):Pr u j k:=by
 rcases h with⟨z1,z2⟩|⟨z1,z2⟩
 ·have a:=rf t h2 () z1 ();have b:=rf t (k:=j+1) () () (by rw[z2];lia) h1;rw[g5]at b;exact .inl ⟨by rw[a];lia,by rw[b]⟩
 ·have a:=rf t (k:=j+1) () () (by rw[z1];lia) (show k-1<n by lia);have b:=rf t h2 () z2 h1;rw[g5]at a;exact .inr ⟨by rw[b],by rw[a];lia⟩
def z7{n k:Nat}(t:Two n o u)(h0:1<=k)(h1:k<n)(h2:1<=j)(h3:j<n)(h:Pr o k j):j9 u j=j9 o k:=by
 have a:∀x y:ae,∀i m:Nat,x.getD (i-1) 0=(m:Int)->x.getD i 0=(m:Int)+1->j9 x i=false:=λx y i m p q=>by
  unfold j9;rw[p,q];exact aS ()
 have b:∀x y:ae,∀i m:Nat,x.getD (i-1) 0=(m:Int)+1->x.getD i 0=(m:Int)->j9 x i=true:=λx y i m p q=>by
  unfold j9;rw[p,q];exact aT ()
 rcases h with⟨z1,z2⟩|⟨z1,z2⟩
 ·rw[a o [] k j z1 z2]
  rcases oF t h0 h1 h2 h3 (.inl ⟨z1,z2⟩)with⟨y1,y2⟩|⟨y1,y2⟩
  ·exact a u [] j k y1 y2
  ·have:=rf t h2 () z1 ();lia
 ·rw[b o [] k j z1 z2]
  rcases oF t h0 h1 h2 h3 (.inr ⟨z1,z2⟩)with⟨y1,y2⟩|⟨y1,y2⟩
  ·have:=rf t h2 () z2 h1;lia
  ·exact b u [] j k y1 y2
abbrev L (j:Nat)(f:Fn):Fn:=λo t=>f (o.map<|Wd.sw j) t+if j9 (bk o) j=true then dl (f o) t else 0
def vC{n k:Nat}{o:ae}(h:o.Perm<|rg n)(h0:1<=k)(h1:k<n)(hp:Pr o k j):o.map (Wd.sw j)=Wd.ex o k:=by
 have lo:o.length=n:=by rw[h.length_eq,Wd.iP]
 have nd:o.Nodup:=h.nodup_iff.mpr<|kh _ _;apply bU;intro p;rw[Wd.lB h0 (),bh];unfold Pr at hp;rw[Wd.i_ (),Wd.i_ ()]at hp;by_cases c1:p=k
 ·subst c1;rw[aL rfl,aG (),aG (),dO];congr 1;unfold Wd.sw
  rcases hp with⟨z1,z2⟩|⟨z1,z2⟩
  ·rw[z1,z2,aJ (),aL rfl]
  ·rw[z1,z2,aL rfl]
 ·rw[aJ c1];by_cases c2:p=k-1
  ·subst c2;rw[aL rfl,aG (),aG (),dO];congr 1;unfold Wd.sw
   rcases hp with⟨z1,z2⟩|⟨z1,z2⟩
   ·rw[z1,z2,aL rfl]
   ·rw[z1,z2,aJ (),aL rfl]
  ·rw[aJ c2];by_cases c3:p<o.length
   ·rw[aG c3,dO];congr 1;have n1:o[p]≠o[k]:=λz=>c1<|(c8 nd).mp z;have n2:o[p]≠o[k-1]:=λz=>c2<|(c8 nd).mp z;unfold Wd.sw
    rcases hp with⟨z1,z2⟩|⟨z1,z2⟩
    ·rw[aJ<|by rw[<- z1];exact n2,aJ<|by rw[<- z2];exact n1]
    ·rw[aJ<|by rw[<- z2];exact n1,aJ<|by rw[<- z1];exact n2]
   ·rw[bC ()];rfl
theorem ve(j:Nat)(o:ae):(o.map<|Wd.sw j).map (Wd.sw j)=o:=by
 rw[cH];have:(Wd.sw j ∘ Wd.sw j)=id:=funext λx=>by
  show Wd.sw j (Wd.sw j x)=x;unfold Wd.sw;split<;>(try split)<;>(try split)<;>lia
 rw[this,List.map_id]
abbrev mw (n:Nat)(f g:Fn):Prop:=∀o:ae,o.Perm (rg n)->∀t,f o t=g o t
def mw.refl{n:Nat}{f:Fn}:mw n f f:=λ_ _ _=>rfl
def mw.symm{n:Nat}{f g:Fn}(h:mw n f g):mw n g f:=λo p t=>(h o p t).symm
def mw.trans{n:Nat}{f g e:Fn}(h:mw n f g)(h':mw n g e):mw n f e:=λo p t=>(h o p t).trans<|h' o p t
def jW{n k:Nat}{o:ae}(h:o.Perm<|rg n)(h0:1<=k)(h1:k<n):(Wd.ex o k).Perm (rg n):=(Wd.z8 h0<|by rw[h.length_eq,Wd.iP];exact h1).trans h
def FD{n k:Nat}{o:ae}(h:o.Perm<|rg n)(h0:1<=k)(h1:k<n):(o.map<|Wd.sw k).Perm (rg n):=((jY h).step h0 h1).po
abbrev Va (n:Nat)(w:ag):Prop:=∀k∈w,1<=k/\k<n
abbrev Xw (w:ag)(f:Fn):Fn:=w.foldl (λf k=>X k f) f
abbrev Lw (w:ag)(f:Fn):Fn:=w.foldl (λf k=>L k f) f
abbrev D (u:ae)(g:Int->Int):Fn:=λo t=>if o=u then g t else 0
def tK{l:ae}{k:Nat}(h:l.getD (k-1) 0<l.getD k 0):j9 l k=false:=aS ()
def j_(n:Nat):(rg n).Perm (rg n):=.refl _
theorem lN{n:Nat}:∀(m:Nat) {u:ae},u.Perm (rg n)->Iv.inv u=m->∃w,Wd.iY (rg n) w/\Wd.led (rg n) w=u
 | 0,u,hu,hm=>by
  refine⟨[],trivial,(Fw.Bq hu λk hk=>?_).symm⟩;have:=Fw.o5 hk.1 hk.2.1 hk.2.2
  lia
 | m+1,u,hu,hm=>by
  obtain⟨k,hk⟩:=Fw.Fp (l:=u) ();have lu:u.length=n:=by rw[hu.length_eq,Wd.iP]
  have hd:=Fw.o5 hk.1 hk.2.1 hk.2.2;obtain⟨w,h1,h2⟩:=lN m (jW hu hk.1<|by rw[<- lu];exact hk.2.1) ();obtain⟨e1,e2⟩:=Su.Ue (o:=u) hk.1 hk.2.1;refine⟨w++[k],Wd.iY.snoc h1 hk.1 (by rw[Wd.iP,<- lu];exact hk.2.1)<|by rw[h2,e1,e2];exact hk.2.2,?_⟩;rw[Wd.vO,h2];exact Fw.mX hk.1 hk.2.1
def xw(n:Nat):bk (rg n)=rg n:=by
 refine jH (jY<|j_ n) ⟨j_ n,j_ n,rfl,λp hp=>?_⟩;have hp':p<n:=by rw[Wd.iP]at hp;exact hp
 have e:=Wd.oi hp';rw[aG hp]at e;have e:=aU e;rw[show((rg n)[p]-1).toNat=p by rw[e];lia];exact Wd.oi hp'
abbrev add (f g:Fn):Fn:=λo t=>f o t+g o t
end He
namespace He
open PySem L2 Am Po
open Fw (Two rg wH)
open Su (j9 Ps cS)
abbrev cv:Pl->(Int->Int)->Int->Int
 | [],_,_=>0
 | q::p,g,t=>q.2 * g (t-q.1)+cv p g t
abbrev Xa (p:Pl)(f:Fn):Fn:=λo t=>cv p (f o) t
abbrev sw (n:Nat)(o:ae):ag:=by
 classical
 exact if h:o.Perm (rg n)then(lN _ h rfl).choose else[]
def wm{n:Nat}{o:ae}(h:o.Perm<|rg n):Wd.iY (rg n) (sw n o)/\Wd.led (rg n) (sw n o)=o:=by
 unfold sw;rw[dif_pos h];exact(lN _ h rfl).choose_spec
def VB{n:Nat}{o:ae}(h:o.Perm<|rg n):Va n (sw n o):=λk hk=>by have:=Wd.iY.valid (wm h).1 k hk;rwa [Wd.iP]at this
abbrev RG (G:ae->Fn):Ps->Fn
 | []=>λ_ _=>0
 | e::m=>add (Xa e.2<|G e.1)<|RG G m
abbrev R (n:Nat)(m:Ps)(f:Fn):Fn:=RG (λo=>Xw (sw n o) f) m
abbrev Yx (p:Pl)(l:Ps):Ps:=l.map λx=>(x.1,times p x.2)
abbrev B (f:Fn):Fn:=λo=>f<|bk o
abbrev d0:Int->Int:=λt=>if t=0 then 1 else 0
abbrev wb (l:Ps):Ps:=l.map λe=>(bk e.1,e.2)
end He
namespace He
open PySem L2 Am Po
open Fw (Two rg wH)
open Su (j9 Ps cS Gd vS toS adds bx)
structure Cn (l:Ps):Prop where
 gd:Gd l
 eq:toS l=l
abbrev WI (l m:Ps):Ps:=toS<|adds []<|l++m
abbrev one (n:Nat):Ps:=[(rg n,[((0:Int),(1:Int))])]
end He
namespace He
open PySem L2 Am Po
open Fw (Two rg wH)
open Su (j9 Ps cS Gd vS toS adds bx)
abbrev arr:Nat->ae->List (ae)
 | 0,_=>[[]]
 | m+1,l=>l.flatMap λx=>(arr m<|l.erase x).map (x::·)
structure FB (n P C:Nat)(f:Fn):Prop where
 c:∀o,o.Perm (rg n)->∀t,(f o t).natAbs<=C
 p:∀o,o.Perm (rg n)->∀t:Int,P<t.natAbs->f o t=0
structure PB (Q c:Nat)(p:Pl):Prop where
 c:∀q∈p,q.2.natAbs<=c
 p:∀q∈p,q.1.natAbs<=Q
theorem su:∀{w:ag}{l:ae},Wd.iY l w->Iv.inv (Wd.led l w)=Iv.inv l+w.length
 | [],_,_=>rfl
 | k::w,l,h=>by
  have:=su h.2.2.2;rw[Fw.wM h.1 h.2.1 h.2.2.1]at this;show Iv.inv (Wd.led (Wd.ex l k) w)=_+(w.length+1)
  lia
def zT{n:Nat}{o:ae}(h:o.Perm<|rg n):(sw n o).length=Iv.inv o:=by
 obtain⟨a,b⟩:=wm h;have:=su a;rw[b,Fw.Di]at this
 lia
structure Sz (n P C:Nat)(l:Ps):Prop where
 cn:Cn l
 pm:∀x∈l,x.1.Perm (rg n)
 fb:FB n P C<|cS l
end He
namespace He
open PySem L2 Am Po
open Fw (Two rg wH)
open Su (j9 Ps cS Gd vS toS adds bx)
theorem Ao{n:Nat}:∀{w:ag}{l:ae},l.Perm (rg n)->Va n w->Iv.inv (Wd.led l w)<=Iv.inv l+w.length/\(Iv.inv (Wd.led l w)=Iv.inv l+w.length->Wd.iY l w)
 | [],l,_,_=>⟨aQ _,λ_=>trivial⟩
 | k::w,l,p,v=>by
  have v1:=v k<|aN ..;have ll:l.length=n:=by rw[p.length_eq,Wd.iP]
  obtain⟨i1,i2⟩:=Ao (w:=w) (jW p v1.1 v1.2) λj hj=>v j<|aP _ hj;have i1:Iv.inv (Wd.led l (k::w))<=Iv.inv (Wd.ex l k)+w.length:=i1;have i2:Iv.inv (Wd.led l (k::w))=Iv.inv (Wd.ex l k)+w.length->Wd.iY (Wd.ex l k) w:=i2;rw[bz]
  rcases lt_or_ge 0 0 with z|_
  ·lia
  ·by_cases c:l.getD (k-1) 0<l.getD k 0
   ·have u:=Fw.wM v1.1 () c;exact⟨(),λh=>⟨v1.1,(),c,i2 ()⟩⟩
   ·have ne:=nb p v1.1 v1.2;have u:=Fw.o5 v1.1 () (show l.getD k 0<l.getD (k-1) 0 by lia);exact⟨(),λh=>absurd h ()⟩
theorem yj{n:Nat}:∀{w:ag}{l:ae},l.Perm (rg n)->Va n w->(Wd.led l w).Perm (rg n)
 | [],_,p,_=>p
 | k::w,l,p,v=>yj (w:=w) (jW p (v k<|aN ..).1 (v k<|aN ..).2) λj hj=>v j<|aP _ hj
end He
namespace He
open PySem L2 Am Po
open Fw (Two rg wH)
open Su (j9 Ps cS Gd vS toS adds bx)
def tB{n:Nat}{w:ag}(h:Wd.iY (rg n) w):Wd.iY (rg n) w.reverse:=by
 have va:Va n w:=λk hk=>by have:=Wd.iY.valid h k hk;rwa [Wd.iP]at this
 have var:Va n w.reverse:=λk hk=>va k<|eO.mp hk;have pr:=yj (j_ n) var;obtain⟨z1,z2⟩:=wm pr;have vz:=VB pr;have vzr:Va n (sw n<|Wd.led (rg n) w.reverse).reverse:=λk hk=>vz k<|eO.mp hk;have b1:=Wd.kC (sw n<|Wd.led (rg n) w.reverse).reverse vzr;rw[fB,z2]at b1;have e:=jH ⟨pr,yj (j_ n) vzr,b1⟩ ⟨pr,yj (j_ n) va,Wd.kC w va⟩;have l1:=(Ao (j_ n) vzr).1;rw[e,Fw.Di,cF,zT pr]at l1;have l2:=su h;have l3:=(Ao (j_ n) var).1;refine(Ao (j_ n) var).2 ?_;rw[Fw.Di,cF]at *
 lia
abbrev Y (k:Nat)(f:Fn):Fn:=λo t=>X k f o t-dl (f o) t
abbrev Yw (w:ag)(f:Fn):Fn:=w.foldl (λf k=>Y k f) f
abbrev LB:Pl:=[((-1:Int),(-1:Int)),((1:Int),(1:Int))]
abbrev Yk (p:Pl)(l:Ps):Ps:=toS<|adds []<|Yx p l
abbrev yb (k:Nat)(l:Ps):Ps:=WI (bx k l)<|Yk LB l
abbrev Ys (w:ag)(l:Ps):Ps:=w.foldl (λl k=>yb k l) l
abbrev bT (n:Nat)(o:ae):Fn:=Yw (sw n o)<|cS<|one n
abbrev tO (n:Nat)(w:ag):Ps:=Ys w<|one n
structure Fwd (n:Nat)(W:ae->ag):Prop where
 r:∀o,o.Perm (rg n)->Wd.iY (rg n) (W o)
 e:∀o,o.Perm (rg n)->Wd.led (rg n) (W o)=o
end He
namespace Nu
open PySem L2
abbrev Ui:Nat->Nat
 | 0=>1
 | n+1=>(n+1) * Ui n
abbrev XX:Nat->ae->Nat->ae
 | 0,_,_=>[]
 | n+1,l,m=>l.getD (m / Ui n) 0::XX n (l.eraseIdx<|m / Ui n) (m % Ui n)
def Rx(i j:Int):(i7 i j).Pairwise (· < ·):=by
 unfold i7;rw[eB];exact fZ.imp λh=>()
end Nu
namespace Stp
open PySem L2 Iv
abbrev mm (a:ae)(i j:Nat):ae:=(a.drop<|i+1).take<|j-i-1
abbrev X6 (x y m:Int):Bool:=decide (x<m) && decide (m<y)
def parts{a:ae}(hij:i<j)(hj:j<a.length):a=a.take i++([a.getD i 0]++mm a i j++[a.getD j 0])++a.drop (j+1):=by
 have gi:a.getD i 0=a[i]:=by rw[aI,aG ()];rfl
 have gj:a.getD j 0=a[j]:=by rw[aI,aG hj];rfl
 have h1:a.drop i=a[i]::a.drop (i+1):=bV ();have h2:a.drop (i+1)=mm a i j++a.drop j:=by
  have:=dm (j-i-1)<|a.drop<|i+1;rw[List.drop_drop,show i+1+(j-i-1)=j by lia]at this;exact this.symm
 have h3:a.drop j=a[j]::a.drop (j+1):=bV hj
 conv=>lhs;rw[<- dm i a,h1,h2,h3]
 rw[gi,gj];simp
def Wi{a:ae}(hij:i<j)(hj:j<a.length):sw a i j=a.take i++([a.getD j 0]++mm a i j++[a.getD i 0])++a.drop (j+1):=by
 have lM:(mm a i j).length=j-i-1:=by unfold mm;rw[bq,bR];lia
 have key:∀(P R:ae) (x y x' y':Int),P.length=i->((P++([x]++mm a i j++[y])++R).set i y').set j x'=P++([y']++mm a i j++[x'])++R:=λP R x y x' y' lP=>by
  rw[bG,c5 _ _ (),lP,fH];show(P++(y'::((mm a i j++[y])++R))).set j x'=_;rw[c5 _ _ (),lP,show j-i=(j-i-1)+1 by lia,List.set_cons_succ,bG,c5 _ _ (),lM,fH];simp
 have:=key (a.take i) (a.drop<|j+1) (a.getD i 0) (a.getD j 0) (a.getD i 0) (a.getD j 0) (by rw[bq];lia);rw[<- parts hij hj]at this;exact this
abbrev Yc (a:ae)(i j:Nat):Bool:=!(mm a i j).any λm=>X6 (if a.getD j 0<a.getD i 0 then a.getD j 0 else a.getD i 0) (if a.getD j 0>a.getD i 0 then a.getD j 0 else a.getD i 0) m
def NT{a:ae}(hij:i<j)(hj:j<a.length):(sw a i j).Perm a:=by
 have e:=parts hij hj;rw[Wi hij hj]
 conv=>rhs;rw[e]
 exact((xB _ _ _).append_left _).append_right _
def Xq{a:ae}(hij:i<j)(hj:j<a.length):(sw a i j).getD i 0=a.getD j 0:=by
 unfold sw;rw[aI,bL (),bE ()];rfl
def Xh{a:ae}(hij:i<j)(hj:j<a.length):(sw a i j).getD j 0=a.getD i 0:=by
 unfold sw;rw[aI,bE<|by rw[bO];exact hj];rfl
theorem ve{a:ae}(hij:i<j)(hj:j<a.length):sw (sw a i j) i j=a:=by
 have h1:=Xq hij hj;have h2:=Xh hij hj;unfold sw at h1 h2 ⊢;rw[h1,h2];apply bU;intro k;by_cases c:k=j
 ·subst c;rw[bE<|by dsimp[bO];exact hj,Iv.qc hj]
 ·rw[bL ()];by_cases c2:k=i
  ·subst c2;rw[bE<|by dsimp[bO];lia,Iv.qc ()]
  ·rw[bL (),bL (),bL ()]
end Stp
namespace Eu
open PySem L2 Bl
open Wd (ex uF)
open Fw (rg wH)
def i_{l:ae}{k:Nat}(h:k<l.length):l.getD k 0=l[k]:=by rw[aI,aG h];rfl
theorem low{a b:ae}{k:Nat}(hl:a.length=b.length)(h0:1<=k)(h:k<b.length)(hb:b.getD k 0<b.getD (k-1) 0)(ha:a.getD (k-1) 0<=a.getD k 0)(hab:Below a b):Below a (ex b k):=by
 have hu:k<a.length:=()
 rw[i_ h,i_<|show k-1<b.length by lia]at hb;rw[i_ hu,i_<|show k-1<a.length by lia]at ha;intro i j;rw[uF h0 h];by_cases hi:i=k
 ·subst hi;rw[aL rfl];have b1:=hab (i-1) j;have b3:=hab (i+1) j;have c1:=jx (l:=a) (i:=i-1) () j;have c2:=jx (l:=b) (i:=i-1) () j;have c3:=jx (l:=a) (i:=i) hu j;have c4:=jx (l:=b) (i:=i) h j;rw[show i-1+1=i by lia]at c1 c2;rw[c3,c4,c1,c2]at b3;rw[c1,c2];revert b1 b3
  (repeat' split)<;>intros<;>lia
 ·rw[aJ hi];have:=hab i j
  lia
def WT{a b:ae}{k:Nat}(hl:a.length=b.length)(h0:1<=k)(h:k<b.length)(hb:b.getD k 0<b.getD (k-1) 0)(ha:a.getD k 0<=a.getD (k-1) 0)(hab:Below a b):Below (ex a k) (ex b k):=by
 have hu:k<a.length:=()
 rw[i_ h,i_<|show k-1<b.length by lia]at hb;rw[i_ hu,i_<|show k-1<a.length by lia]at ha;intro i j;rw[uF h0 h,uF h0 hu];by_cases hi:i=k
 ·subst hi;rw[aL rfl,aL rfl];have b1:=hab (i-1) j;have b3:=hab (i+1) j;have c1:=jx (l:=a) (i:=i-1) () j;have c2:=jx (l:=b) (i:=i-1) () j;have c3:=jx (l:=a) (i:=i) hu j;have c4:=jx (l:=b) (i:=i) h j;rw[show i-1+1=i by lia]at c1 c2;rw[c3,c4,c1,c2]at b3;rw[c1,c2];revert b1 b3
  (repeat' split)<;>intros<;>lia
 ·rw[aJ hi,aJ hi];have:=hab i j
  lia
section
variable {n:Nat}
def ln{z:ae}(p:z.Perm<|rg n):z.length=n:=by rw[p.length_eq,Wd.iP]
end
abbrev al (n:Nat):List (ae):=(List.range<|Nu.Ui n).map<|Nu.XX n<|rg n
abbrev sg (z:ae):Int:=if Iv.inv z % 2=1 then -1 else 1
open Classical in
abbrev sm (n:Nat)(P:ae->Prop):Int:=((al n).map λz=>if P z then sg z else 0).sum
end Eu
namespace Gr
open PySem L2 Bl Fw
open Wd (ex led jw u9 lift kC)
abbrev gk:ae->ag->ag
 | _,[]=>[]
 | l,k::ks=>if l.getD (k-1) 0>l.getD k 0 then k::gk (ex l k) ks else gk l ks
def v9{k:Nat}(f:wH l k):Below (ex l k) l:=by
 obtain⟨h0,h,hr⟩:=f;have e:=mX h0 h;have hl:(ex l k).length=l.length:=jw l k;have:=lift (u:=ex l k) (w:=ex l k) (k:=k) rfl h0 (by rw[hl];exact h);have a1:=BE h0 h;have a2:=B7 h0 h;rw[Eu.i_<|show k<(ex l k).length by lia]at a1;rw[Eu.i_<|show k-1<(ex l k).length by lia]at a2;have hr':(ex l k)[k-1]'()<(ex l k)[k]'():=by rw[a1,a2];exact hr
 have:=qP (l:=ex l k) (p:=k-1) (q:=k) () () () hr';rw[<- u9 h0 (),e]at this;exact this
theorem t8:∀(ks:ag) {n:Nat}{y:ae},y.Perm (rg n)->Dn y ks->Below (rg n) y
 | [],n,y,py,h=>by rw[Bq py h];exact Below.refl _
 | k::ks,n,y,py,h=>(t8 ks (jW py h.1.1.1 h.1.1.2.1) h.2).trans<|v9 h.1.1
end Gr
namespace Eu
open PySem L2 Bl Am
open Fw (rg)
structure Done (n:Nat)(u w:ae)(es:List (ae×Bool)):Prop where
 nd:(es.map (·.1)).Nodup
 pm:∀e∈es,e.1.Perm (rg n)
 up:∀e∈es,Below u e.1
 fl:∀e∈es,(e.2=true ↔ Below e.1 w)
 st:u∈es.map (·.1)
 cl:∀e∈es,e.2=true->∀i j,i<j->j<n->e.1.getD i 0<e.1.getD j 0->Stp.Yc e.1 i j=true->Iv.sw e.1 i j∈es.map (·.1)
abbrev ext (n:Nat)(p:ae):List (ae):=((rg n).filter λt=>decide<|t∉p).map λt=>p++[t]
abbrev inj (n:Nat):Nat->List (ae)
 | 0=>[[]]
 | k+1=>(inj n k).flatMap<|ext n
theorem t9{n:Nat}:∀{k:Nat}{p:ae},p∈inj n k ↔ p.length=k/\p.Nodup/\∀t∈p,t∈rg n
 | 0,p=>by
  unfold inj;rw[bI];constructor
  ·rintro rfl;simp
  ·rintro⟨h,_⟩;exact dM.mp h
 | k+1,p=>by
  unfold inj;rw[List.mem_flatMap];constructor
  ·rintro⟨q,hq,hp⟩;obtain⟨t,ht,rfl⟩:=bW.mp hp;obtain⟨h1,h2⟩:=dN.mp ht;obtain⟨a,b,c⟩:=t9.mp hq;have h2:t∉q:=cB h2;refine⟨by simp[a],?_,λx hx=>?_⟩
   ·rw[dh];refine⟨b,by simp,λx hx y hy z=>h2 ?_⟩;have:y=t:=by simpa using hy
    rw[<- this,<- z];exact hx
   ·rcases bF.mp hx with z|z
    ·exact c x z
    ·have:x=t:=by simpa using z
     rw[this];exact h1
  ·rintro⟨h1,h2,h3⟩
   rcases gq p with c|⟨q,t,c⟩
   ·rw[c]at h1;simp at h1
   ·rw[gr]at c;subst c;rw[dh]at h2;refine⟨q,t9.mpr ⟨by simpa using h1,h2.1,λx hx=>h3 x<|dG _ hx⟩,bW.mpr ⟨t,dN.mpr ⟨h3 t<|by simp,aT λz=>h2.2.2 t z t (by simp) rfl⟩,rfl⟩⟩
def EH{n:Nat}{p:ae}:p∈inj n n ↔ p.Perm (rg n):=by
 rw[t9];constructor
 ·rintro⟨h1,h2,h3⟩;exact qJ h2 h3 (by rw[h1,Wd.iP];exact aQ _)
 ·intro p';exact⟨ln p',p'.nodup_iff.mpr<|kh _ _,λt ht=>p'.mem_iff.mp ht⟩
theorem Ek:∀{a b:ae}(x y:ae),a.length=b.length->HT.lexLt a b=true->HT.lexLt (a++x) (b++y)=true
 | [],[],_,_,_,h=>by cases h
 | [],_::_,_,_,h,_=>by simp at h
 | _::_,[],_,_,h,_=>by simp at h
 | p::a,q::b,x,y,hl,h=>by
  show HT.lexLt (p::(a++x)) (q::(b++y))=true;rw[HT.p9]at h ⊢;by_cases c:p=q
  ·rw[aL c]at h ⊢;exact Ek x y (by simpa using hl) h
  ·rw[aJ c]at h ⊢;exact h
theorem A6:∀(p:ae) {s t:Int},s<t->HT.lexLt (p++[s]) (p++[t])=true
 | [],s,t,h=>by
  show HT.lexLt [s] [t]=true;rw[HT.p9,aJ (),aT h]
 | x::p,s,t,h=>by
  show HT.lexLt (x::(p++[s])) (x::(p++[t]))=true;rw[HT.p9,aL rfl];exact A6 p h
theorem JC{n:Nat}:∀(k:Nat),(inj n k).Pairwise λa b=>HT.lexLt a b=true
 | 0=>c9 _ _
 | k+1=>by
  unfold inj;rw[List.pairwise_flatMap];refine⟨λp hp=>?_,List.Pairwise.imp_of_mem (λ{a b} ha hb hab x hx y hy=>?_)<|JC k⟩
  ·unfold ext;rw[eB];refine List.Pairwise.imp (λ{a b} hab=>A6 p hab) ?_;exact(Nu.Rx _ _).sublist List.filter_sublist
  ·obtain⟨s,_,rfl⟩:=bW.mp hx;obtain⟨t,_,rfl⟩:=bW.mp hy;exact Ek [s] [t] (by rw[(t9.mp ha).1,(t9.mp hb).1]) hab
end Eu
namespace Hz
open PySem L2 Bl Am
open Fw (rg wH)
open Su (j9)
open He (Fn mw bk jY mW yx Cp JP xw jW FD Va D Pr oF vC z7 uP ve j_ lN tK)
abbrev dl (g:Int->Int)(t:Int):Int:=- g (t-1)
abbrev X (k:Nat)(f:Fn):Fn:=λo t=>f (Wd.ex o k) t+if j9 o k=true then dl (f o) t else 0
abbrev L (j:Nat)(f:Fn):Fn:=λo t=>f (o.map<|Wd.sw j) t+if j9 (bk o) j=true then dl (f o) t else 0
def comm{n k:Nat}(f:Fn){o:ae}(h:o.Perm<|rg n)(h0:1<=k)(h1:k<n)(h2:1<=j)(h3:j<n)(t:Int):X k (L j f) o t=L j (X k f) o t:=by
 have lo:o.length=n:=by rw[h.length_eq,Wd.iP]
 have tw:=jY h;have e1:(Wd.ex o k).map (Wd.sw j)=Wd.ex (o.map<|Wd.sw j) k:=(Wd.ex_map _ h0 ()).symm;have e2:=Cp h h0 h1;have f1:=uP (k:=j) h h0 h1;have f2:=uP (k:=k) tw.pu h2 h3;unfold X L dl;dsimp only;rw[e1,e2];by_cases c:Pr o k j
 ·have c':=oF tw h0 h1 h2 h3 c;have e3:=vC h h0 h1 c;rw[f1.1 c,f2.1 c',z7 tw h0 h1 h2 h3 c,<- e3]
 ·have c':¬Pr (bk o) j k:=λz=>c<|oF tw.flip h2 h3 h0 h1 z;rw[f1.2 c,f2.2 c']
  cases j9 o k<;>cases j9 (bk o) j
  ·dsimp[aZ,bN]
  ·dsimp[aZ,cE,bN];lia
  ·dsimp[aZ,cE,bN];lia
  ·dsimp[cE];lia
def T7{n k:Nat}{f g:Fn}(h:mw n f g)(h0:1<=k)(h1:k<n):mw n (X k f) (X k g):=λo p t=>by
 unfold X dl;rw[h _<|jW p h0 h1,h o p]
def WQ{n k:Nat}{f g:Fn}(h:mw n f g)(h0:1<=k)(h1:k<n):mw n (L k f) (L k g):=λo p t=>by
 unfold L dl;rw[h _<|FD p h0 h1,h o p]
abbrev Xw (w:ag)(f:Fn):Fn:=w.foldl (λf k=>X k f) f
abbrev Lw (w:ag)(f:Fn):Fn:=w.foldl (λf k=>L k f) f
theorem yT{n:Nat}:∀{w:ag}{f g:Fn},Va n w->mw n f g->mw n (Xw w f) (Xw w g)
 | [],_,_,_,h=>h
 | k::w,_,_,v,h=>yT (w:=w) (λj hj=>v j<|aP _ hj)<|T7 h (v k<|aN ..).1 (v k<|aN ..).2
theorem D4{n:Nat}:∀{w:ag}{f g:Fn},Va n w->mw n f g->mw n (Lw w f) (Lw w g)
 | [],_,_,_,h=>h
 | k::w,_,_,v,h=>D4 (w:=w) (λj hj=>v j<|aP _ hj)<|WQ h (v k<|aN ..).1 (v k<|aN ..).2
theorem VF{n:Nat}(h2:1<=j)(h3:j<n):∀{w:ag}{f:Fn},Va n w->mw n (Xw w<|L j f) (L j<|Xw w f)
 | [],_,_=>.refl
 | k::w,f,v=>by
  have v1:=v k<|aN ..;have v2:Va n w:=λj hj=>v j (aP _ hj)
  skip
  exact(yT v2 λo p t=>comm f p v1.1 v1.2 h2 h3 t).trans (VF h2 h3 v2)
theorem Qu{n:Nat}{w:ag}(v:Va n w):∀{u:ag}{f:Fn},Va n u->mw n (Xw w<|Lw u f) (Lw u<|Xw w f)
 | [],_,_=>.refl
 | j::u,f,vu=>by
  have v1:=vu j<|aN ..;have v2:Va n u:=λi hi=>vu i (aP _ hi)
  skip
  exact(Qu v v2).trans (D4 v2<|VF v1.1 v1.2 v)
def Yu{n k:Nat}{u:ae}(g:Int->Int)(hu:u.Perm<|rg n)(h0:1<=k)(h1:k<n):mw n (X k<|D u g) λo t=>D (Wd.ex u k) g o t+if j9 u k=true then D u (dl g) o t else 0:=λo p t=>by
 have lo:o.length=n:=by rw[p.length_eq,Wd.iP]
 have lu:u.length=n:=by rw[hu.length_eq,Wd.iP]
 have iff:Wd.ex o k=u ↔ o=Wd.ex u k:=⟨λz=>by rw[<- z,Fw.mX h0 ()],λz=>by rw[z,Fw.mX h0 ()]⟩;unfold X D dl;dsimp only;by_cases c:o=u
 ·subst c;rw[aL rfl,aL rfl];congr 1;by_cases c2:Wd.ex o k=o
  ·rw[aL c2,aL c2.symm]
  ·rw[aJ c2,aJ λz=>c2 z.symm]
 ·rw[aJ c,aJ c];congr 1
  ·by_cases c2:Wd.ex o k=u
   ·rw[aL c2,aL<|iff.mp c2]
   ·rw[aJ c2,aJ λz=>c2<|iff.mpr z]
  ·split<;>split<;>rfl
def X5{n k:Nat}{u:ae}(g:Int->Int)(hu:u.Perm<|rg n)(h0:1<=k)(h1:k<n):mw n (L k<|D u g) λo t=>D (u.map<|Wd.sw k) g o t+if j9 (bk u) k=true then D u (dl g) o t else 0:=λo p t=>by
 have iff:o.map (Wd.sw k)=u ↔ o=u.map (Wd.sw k):=⟨λz=>by rw[<- z,ve],λz=>by rw[z,ve]⟩;unfold L D dl;dsimp only;by_cases c:o=u
 ·subst c;rw[aL rfl,aL rfl];congr 1;by_cases c2:o.map (Wd.sw k)=o
  ·rw[aL c2,aL c2.symm]
  ·rw[aJ c2,aJ λz=>c2 z.symm]
 ·rw[aJ c,aJ c];congr 1
  ·by_cases c2:o.map (Wd.sw k)=u
   ·rw[aL c2,aL<|iff.mp c2]
   ·rw[aJ c2,aJ λz=>c2<|iff.mpr z]
  ·split<;>split<;>rfl
theorem Ux{n:Nat}{g:Int->Int}:∀{w:ag}{u:ae},u.Perm (rg n)->Wd.iY u w->mw n (Xw w<|D u g) (D (Wd.led u w) g)
 | [],_,_,_=>.refl
 | k::w,u,hu,h=>by
  obtain⟨h1,h2,h3,h4⟩:=h;have lu:u.length=n:=by rw[hu.length_eq,Wd.iP]
  have pu:=jW hu h1 ();have e:mw n (X k<|D u g) (D (Wd.ex u k) g):=(Yu g hu h1 ()).trans λo p t=>by
   dsimp only;rw[tK h3,aJ<|by simp,eF]
  have v:Va n w:=λj hj=>by
   have:=Wd.iY.valid h4 j hj;rw[Wd.jw,lu]at this;exact this
  skip
  exact(yT v e).trans (Ux pu h4)
theorem VG{n:Nat}{g:Int->Int}:∀{w:ag}{u:ae},u.Perm (rg n)->Wd.iY (bk u) w->∃v:ae,v.Perm (rg n)/\bk v=Wd.led (bk u) w/\mw n (Lw w<|D u g) (D v g)
 | [],u,hu,_=>⟨u,hu,rfl,.refl⟩
 | k::w,u,hu,h=>by
  obtain⟨h1,h2,h3,h4⟩:=h;have lb:(bk u).length=n:=by rw[(mW hu).length_eq,Wd.iP]
  have pu:=FD hu h1 ();have eb:bk (u.map<|Wd.sw k)=Wd.ex (bk u) k:=JP hu h1 ();have e:mw n (L k<|D u g) (D (u.map<|Wd.sw k) g):=(X5 g hu h1 ()).trans λo p t=>by
   dsimp only;rw[tK h3,aJ<|by simp,eF]
  have v:Va n w:=λj hj=>by
   have:=Wd.iY.valid h4 j hj;rw[Wd.jw,lb]at this;exact this
  rw[<- eb]at h4;obtain⟨x,x1,x2,x3⟩:=VG (g:=g) pu h4;refine⟨x,x1,?_,(D4 v e).trans x3⟩;rw[x2,eb];rfl
def O3{n:Nat}{u:ae}(hu:u.Perm<|rg n):∃v,Va n v/\∀g,mw n (Lw v<|D (rg n) g) (D u g):=by
 obtain⟨w,h1,h2⟩:=lN _ (mW hu) rfl;have v:Va n w:=λk hk=>by have:=Wd.iY.valid h1 k hk;rwa [Wd.iP]at this
 refine⟨w,v,λg=>?_⟩;have h1':Wd.iY (bk<|rg n) w:=by rw[xw];exact h1
 obtain⟨x,x1,x2,x3⟩:=VG (g:=g) (j_ n) h1';rw[xw,h2]at x2;have:x=u:=by rw[<- yx x1,x2,yx hu]
 rw[<- this];exact x3
def Rt{n:Nat}{w:ag}(h:Wd.iY (rg n) w)(h':Wd.iY (rg n) w')(e:Wd.led (rg n) w=Wd.led (rg n) w'){u:ae}(hu:u.Perm<|rg n)(g:Int->Int):mw n (Xw w<|D u g) (Xw w'<|D u g):=by
 obtain⟨v,v1,v2⟩:=O3 hu;have a:∀{w:ag},Wd.iY (rg n) w->mw n (Xw w<|D u g) (Lw v<|D (Wd.led (rg n) w) g):=λ{w} h=>by
  have vw:Va n w:=λk hk=>by have:=Wd.iY.valid h k hk;rwa [Wd.iP]at this
  exact(yT vw (v2 g).symm).trans ((Qu vw v1).trans<|D4 v1<|Ux (j_ n) h)
 refine(a h).trans ?_;rw[e];exact(a h').symm
open He (add)
def T9(k:Nat)(f g:Fn):X k (add f g)=add (X k f) (X k g):=by
 funext o t
 unfold X add dl;dsimp only;split<;>lia
theorem CW:∀(w:ag) (f g:Fn),Xw w (add f g)=add (Xw w f) (Xw w g)
 | [],_,_=>rfl
 | k::w,f,g=>by
  show Xw w (X k<|add f g)=add (Xw w<|X k f) (Xw w<|X k g);rw[T9,CW w]
def RV(k:Nat):X k (λ_ _=>0)=λ_ _=>0:=by
 funext o t
 unfold X dl;split<;>rfl
theorem Ar:∀w:ag,Xw w (λ_ _=>0)=λ_ _=>0
 | []=>rfl
 | k::w=>by
  show Xw w (X k λ_ _=>0)=_;rw[RV,Ar w]
abbrev yi (f:Fn):List (ae)->Fn
 | []=>λ_ _=>0
 | u::us=>add (D u<|f u)<|yi f us
theorem Ga(f:Fn)(t:Int):∀{us:List<|ae},o∉us->yi f us o t=0
 | [],_=>rfl
 | u::us,h=>by
  show(if o=u then f u t else 0)+yi f us o t=0;rw[aJ λz=>h<|by rw[z];exact aN ..,Ga f t λz=>h<|aP _ z];rfl
theorem EC(f:Fn){o:ae}(t:Int):∀{us:List<|ae},us.Nodup->o∈us->yi f us o t=f o t
 | u::us,nd,h=>by
  show(if o=u then f u t else 0)+yi f us o t=_;by_cases c:o=u
  ·subst c;rw[aL rfl,Ga f t (c7.mp nd).1,eF]
  ·rw[aJ c,EC f t (c7.mp nd).2<|(bJ.mp h).resolve_left c,dD]
def BB(n:Nat)(f:Fn):mw n f (yi f<|Eu.inj n n):=λo p t=>by
 refine(EC f t ?_<|Eu.EH.mpr p).symm;refine(Eu.JC n).imp λ{a b} h z=>?_;rw[z,Sx.Gg]at h
 cases h
theorem Ci{n:Nat}{w:ag}(h:Wd.iY (rg n) w)(h':Wd.iY (rg n) w')(e:Wd.led (rg n) w=Wd.led (rg n) w')(f:Fn):∀{us:List<|ae},(∀u∈us,u.Perm<|rg n)->mw n (Xw w<|yi f us) (Xw w'<|yi f us)
 | [],_=>by
  show mw n (Xw w λ_ _=>0) (Xw w' λ_ _=>0);rw[Ar,Ar];exact .refl
 | u::us,hu=>by
  show mw n (Xw w<|add (D u<|f u)<|yi f us) (Xw w'<|add (D u<|f u)<|yi f us);rw[CW,CW];intro o p t;show _+_=_+_;rw[Rt h h' e (hu u<|aN ..) (f u) o p t,Ci h h' e f (λv hv=>hu v<|aP _ hv) o p t]
def R_{n:Nat}{w:ag}(h:Wd.iY (rg n) w)(h':Wd.iY (rg n) w')(e:Wd.led (rg n) w=Wd.led (rg n) w')(f:Fn):mw n (Xw w f) (Xw w' f):=by
 have va:Va n w:=λk hk=>by have:=Wd.iY.valid h k hk;rwa [Wd.iP]at this
 have va':Va n w':=λk hk=>by have:=Wd.iY.valid h' k hk;rwa [Wd.iP]at this
 exact(yT va<|BB n f).trans ((Ci h h' e f λu hu=>Eu.EH.mp hu).trans (yT va'<|BB n f).symm)
abbrev Z (k:Nat)(f:Fn):Fn:=λo t=>f (Wd.ex o k) t+if j9 o k=true then 0 else f o (t-1)
abbrev Zw (w:ag)(f:Fn):Fn:=w.foldl (λf k=>Z k f) f
def Vm{n k:Nat}{f g:Fn}(h:mw n f g)(h0:1<=k)(h1:k<n):mw n (Z k f) (Z k g):=λo p t=>by
 unfold Z;rw[h _<|jW p h0 h1,h o p]
theorem Bo{n:Nat}:∀{w:ag}{f g:Fn},Va n w->mw n f g->mw n (Zw w f) (Zw w g)
 | [],_,_,_,h=>h
 | k::w,_,_,v,h=>Bo (w:=w) (λj hj=>v j<|aP _ hj)<|Vm h (v k<|aN ..).1 (v k<|aN ..).2
def uA{n k:Nat}{o:ae}(p:o.Perm<|rg n)(h0:1<=k)(h1:k<n):j9 (Wd.ex o k) k=!j9 o k:=by
 have lo:o.length=n:=by rw[p.length_eq,Wd.iP]
 have ne:=Fw.tP p h0 ();unfold Su.j9;rw[Fw.BE h0 (),Fw.B7 h0 (),<- decide_not];exact fK.mpr ⟨λz=>(),λz=>()⟩
def Yv{n k:Nat}(h0:1<=k)(h1:k<n)(f:Fn):mw n (X k<|Z k f) f:=λo p t=>by
 have lo:o.length=n:=by rw[p.length_eq,Wd.iP]
 unfold X Z dl;dsimp only;rw[uA p h0 h1,Fw.mX h0 ()]
 cases j9 o k<;>simp<;>lia
def Yh{n k:Nat}(h0:1<=k)(h1:k<n)(f:Fn):mw n (Z k<|X k f) f:=λo p t=>by
 have lo:o.length=n:=by rw[p.length_eq,Wd.iP]
 unfold X Z dl;dsimp only;rw[uA p h0 h1,Fw.mX h0 ()]
 cases j9 o k<;>simp<;>lia
def Gx(w:ag)(k:Nat)(f:Fn):Zw (w++[k]) f=Z k (Zw w f):=by unfold Zw;rw[fm];rfl
def Ft(w:ag)(k:Nat)(f:Fn):Xw (w++[k]) f=X k (Xw w f):=by unfold Xw;rw[fm];rfl
theorem UK{n:Nat}:∀{w:ag}{f:Fn},Va n w->mw n (Xw w.reverse<|Zw w f) f
 | [],_,_=>.refl
 | k::w,f,v=>by
  have v1:=v k<|aN ..;have v2:Va n w:=λj hj=>v j<|aP _ hj;rw[cZ,Ft];show mw n (X k<|Xw w.reverse<|Zw w<|Z k f) f;exact(T7 (UK v2) v1.1 v1.2).trans (Yv v1.1 v1.2 f)
def F6(k:Nat)(w:ag)(f:Fn):Zw (k::w) f=Zw w (Z k f):=rfl
theorem U0{n:Nat}:∀{w:ag}{f:Fn},Va n w->mw n (Zw w<|Xw w.reverse f) f
 | [],_,_=>.refl
 | k::w,f,v=>by
  have v1:=v k<|aN ..;have v2:Va n w:=λj hj=>v j<|aP _ hj;rw[cZ,Ft,F6];exact(Bo v2<|Yh v1.1 v1.2 _).trans (U0 v2)
open He (tB jH yj)
abbrev d1 (t:Int):Int:=if t=0 then 1 else 0
def UC{n:Nat}{w:ag}(h:Wd.iY (rg n) w)(h':Wd.iY (rg n) w')(e:Wd.led (rg n) w=Wd.led (rg n) w')(f:Fn):mw n (Zw w f) (Zw w' f):=by
 have va:Va n w:=λk hk=>by have:=Wd.iY.valid h k hk;rwa [Wd.iP]at this
 have va':Va n w':=λk hk=>by have:=Wd.iY.valid h' k hk;rwa [Wd.iP]at this
 have var:Va n w.reverse:=λk hk=>va k<|eO.mp hk;have var':Va n w'.reverse:=λk hk=>va' k<|eO.mp hk;have b1:=Wd.kC w va;have b2:=Wd.kC w' va';have er:Wd.led (rg n) w.reverse=Wd.led (rg n) w'.reverse:=by
  have p:=yj (j_ n) va;have c1:=Wd.kC w.reverse var;have c2:=Wd.kC w'.reverse var';rw[fB]at c1 c2;rw[<- e]at c2;exact jH ⟨p,yj (j_ n) var,c1⟩ ⟨p,yj (j_ n) var',c2⟩
 have s:mw n (Xw w.reverse<|Zw w' f) f:=(R_ (tB h) (tB h') er _).trans<|UK va';exact(Bo va s.symm).trans (U0 va)
abbrev sw (n:Nat)(o:ae):ag:=open Classical in if h:o.Perm (rg n)then(lN (Iv.inv o) h rfl).choose else[]
def wm{n:Nat}{o:ae}(h:o.Perm<|rg n):Wd.iY (rg n) (sw n o)/\Wd.led (rg n) (sw n o)=o:=by
 unfold sw;rw[dif_pos h];exact(lN (Iv.inv o) h rfl).choose_spec
abbrev rT (n:Nat)(o:ae):Fn:=Zw (sw n o)<|D (rg n) d1
def zN{n:Nat}{o:ae}{w:ag}(po:o.Perm<|rg n)(h:Wd.iY (rg n) w)(e:Wd.led (rg n) w=o):mw n (rT n o) (Zw w<|D (rg n) d1):=by
 obtain⟨a,b⟩:=wm po;exact UC a h (b.trans e.symm) _
def Qh{n k:Nat}{o:ae}(po:o.Perm<|rg n)(h0:1<=k)(h1:k<n)(hf:j9 o k=false):mw n (rT n<|Wd.ex o k) (Z k<|rT n o):=by
 obtain⟨a1,a2⟩:=wm po;have lo:o.length=n:=by rw[po.length_eq,Wd.iP]
 have ne:=Fw.tP po h0 ();have hr:(Wd.led (rg n)<|sw n o).getD (k-1) 0<(Wd.led (rg n)<|sw n o).getD k 0:=by
  rw[a2];have:=dY hf
  lia
 have c1:Wd.iY (rg n) (sw n o++[k]):=Wd.iY.snoc a1 h0 (by rw[Wd.iP];exact h1) hr;have c2:Wd.led (rg n) (sw n o++[k])=Wd.ex o k:=by rw[Wd.vO,a2];rfl
 have:=zN (jW po h0 h1) c1 c2;rw[Gx]at this;exact this
def tQ{n k:Nat}{o:ae}(po:o.Perm<|rg n)(h0:1<=k)(h1:k<n)(hf:j9 o k=true):mw n (rT n o) (Z k<|rT n<|Wd.ex o k):=by
 have lo:o.length=n:=by rw[po.length_eq,Wd.iP]
 have:=Qh (jW po h0 h1) h0 h1 (by rw[uA po h0 h1,hf];rfl);rw[Fw.mX h0 ()]at this;exact this
def Bg(n:Nat):mw n (rT n<|rg n) (D (rg n) d1):=zN (j_ n) (w:=[]) trivial rfl
theorem qu{n:Nat}{P:ae->Prop}(h0:P<|rg n)(hs:∀o k,o.Perm (rg n)->1<=k->k<n->j9 o k=true->P (Wd.ex o k)->P o):∀(m:Nat) {o:ae},Iv.inv o=m->o.Perm (rg n)->P o
 | 0,o,hm,po=>by rw[Fw.Bq po λk hk=>by have:=Fw.o5 hk.1 hk.2.1 hk.2.2;lia];exact h0
 | m+1,o,hm,po=>by
  obtain⟨k,hk⟩:=Fw.Fp (l:=o) ();have lo:o.length=n:=by rw[po.length_eq,Wd.iP]
  have hd:=Fw.o5 hk.1 hk.2.1 hk.2.2;have h1:k<n:=by rw[<- lo];exact hk.2.1
  exact hs o k po hk.1 h1 (aT hk.2.2)<|qu h0 hs m ()<|jW po hk.1 h1
structure Top (n:Nat)(w:ae)(f:Fn):Prop where
 at_:∀x:ae,x.Perm (rg n)->Below x w->f x ((Iv.inv w:Int)-Iv.inv x)=1
 up:∀x:ae,x.Perm (rg n)->Below x w->∀t,(Iv.inv w:Int)-Iv.inv x<t->f x t=0
 no:∀x:ae,x.Perm (rg n)->¬Below x w->∀t,f x t=0
 me:∀t,f w t=d1 t
 nn:∀x:ae,x.Perm (rg n)->∀t,0<=f x t
 lo:∀x:ae,x.Perm (rg n)->∀t,t<0->f x t=0
 ev:∀x:ae,x.Perm (rg n)->∀t,f x t≠0->((Iv.inv w:Int)-Iv.inv x-t) % 2=0
def Fe{k:Nat}{f:Fn}(h:j9 o k=true)(t:Int):Z k f o t=f (Wd.ex o k) t:=by
 unfold Z;rw[aL h,eF]
def Ia{k:Nat}{f:Fn}(h:j9 o k=false)(t:Int):Z k f o t=f (Wd.ex o k) t+f o (t-1):=by
 unfold Z;rw[h,aJ bH]
def Top.congr{n:Nat}{w:ae}{f g:Fn}(h:Top n w f)(pw:w.Perm<|rg n)(e:mw n g f):Top n w g:=
 ⟨λx p b=>by rw[e x p];exact h.at_ x p b,λx p b t ht=>by rw[e x p];exact h.up x p b t ht,λx p b t=>by rw[e x p];exact h.no x p b t,λt=>by rw[e w pw];exact h.me t,λx p t=>by rw[e x p];exact h.nn x p t,λx p t ht=>by rw[e x p];exact h.lo x p t ht,λx p t ht=>by rw[e x p]at ht;exact h.ev x p t ht⟩
def Top.step{n k:Nat}{w:ae}{f:Fn}(h:Top n w f)(pw:w.Perm<|rg n)(h0:1<=k)(h1:k<n)(hf:j9 w k=false):Top n (Wd.ex w k) (Z k f):=by
 have lw:w.length=n:=by rw[pw.length_eq,Wd.iP]
 have nw:=Fw.tP pw h0 ();have hf:w.getD (k-1) 0<w.getD k 0:=by have:=dY hf;lia
 have iw:=Fw.wM h0 (show k<w.length by lia) hf;have lw':(Wd.ex w k).length=n:=by rw[Wd.jw];exact lw
 have e1:=Fw.BE h0 (show k<w.length by lia);have e2:=Fw.B7 h0 (show k<w.length by lia);have ee:Wd.ex (Wd.ex w k) k=w:=Fw.mX h0 ();have fw:wH (Wd.ex w k) k:=⟨h0,(),by rw[e1,e2];exact hf⟩;have bw:Below w (Wd.ex w k):=by have:=Gr.v9 fw;rwa [ee]at this
 have hel:w[k-1]'()<w[k]'():=by
  rw[Eu.i_<|show k<w.length by lia,Eu.i_<|show k-1<w.length by lia]at hf;exact hf
 have bt:∀x:ae,x.Perm (rg n)->j9 x k=true->(Below x (Wd.ex w k) ↔ Below (Wd.ex x k) w)/\Iv.inv x=Iv.inv (Wd.ex x k)+1:=λx px hx=>by
  have lx:x.length=n:=by rw[px.length_eq,Wd.iP]
  have hx:=cB hx;refine⟨⟨λb=>?_,λb=>?_⟩,Fw.o5 h0 () hx⟩
  ·have:=Eu.WT () h0 () fw.2.2 () b
   rwa [ee]at this
  ·have:=Wd.lift (u:=Wd.ex x k) (w:=w) (k:=k) (by rw[Wd.jw];lia) h0 () hel b
   rwa [Fw.mX h0 ()]at this
 have bf:∀x:ae,x.Perm (rg n)->j9 x k=false->(Below x (Wd.ex w k) ↔ Below x w)/\Iv.inv (Wd.ex x k)=Iv.inv x+1/\Below x (Wd.ex x k):=λx px hx=>by
  have lx:x.length=n:=by rw[px.length_eq,Wd.iP]
  have hx:=dY hx;have ne:=Fw.tP px h0 ();have hx:x.getD (k-1) 0<x.getD k 0:=()
  refine⟨⟨λb=>?_,λb=>b.trans bw⟩,Fw.wM h0 () hx,?_⟩
  ·have:=Eu.low () h0 () fw.2.2 () b
   rwa [ee]at this
  ·have fx:wH (Wd.ex x k) k:=⟨h0,by rw[Wd.jw];lia,by rw[Fw.BE h0 (),Fw.B7 h0 ()];exact hx⟩;have:=Gr.v9 fx
   rwa [Fw.mX h0 ()]at this
 have pe:∀x:ae,x.Perm (rg n)->(Wd.ex x k).Perm (rg n):=λx px=>jW px h0 h1;refine⟨λx px b=>?_,λx px b t ht=>?_,λx px b t=>?_,λt=>by rw[Fe<|aT fw.2.2,ee];exact h.me t,λx px t=>?_,λx px t ht=>?_,λx px t ht=>?_⟩
 ·cases hx:j9 x k with
  | true=>
   obtain⟨q1,q2⟩:=bt x px hx;rw[Fe hx,<- h.at_ _ (pe x px) (q1.mp b)];congr 1
   lia
  | false=>
   obtain⟨q1,q2,q3⟩:=bf x px hx;have b':=q1.mp b;rw[Ia hx,show(Iv.inv (Wd.ex w k):Int)-Iv.inv x-1=(Iv.inv w:Int)-Iv.inv x by lia,h.at_ x px b'];by_cases c:Below (Wd.ex x k) w
   ·rw[h.up _ (pe x px) c _ ()];rfl
   ·rw[h.no _ (pe x px) c];rfl
 ·cases hx:j9 x k with
  | true=>
   obtain⟨q1,q2⟩:=bt x px hx;rw[Fe hx];exact h.up _ (pe x px) (q1.mp b) _ ()
  | false=>
   obtain⟨q1,q2,q3⟩:=bf x px hx;have b':=q1.mp b;rw[Ia hx,h.up x px b' _ ()];by_cases c:Below (Wd.ex x k) w
   ·rw[h.up _ (pe x px) c _ ()];rfl
   ·rw[h.no _ (pe x px) c];rfl
 ·cases hx:j9 x k with
  | true=>
   obtain⟨q1,q2⟩:=bt x px hx;rw[Fe hx];exact h.no _ (pe x px) (λz=>b<|q1.mpr z) _
  | false=>
   obtain⟨q1,q2,q3⟩:=bf x px hx;have b':¬Below x w:=λz=>b<|q1.mpr z;rw[Ia hx,h.no x px b',h.no _ (pe x px) λz=>b'<|q3.trans z];rfl
 ·cases hx:j9 x k with
  | true=>rw[Fe hx];exact h.nn _ (pe x px) t
  | false=>rw[Ia hx];exact Int.add_nonneg (h.nn _ (pe x px) t)<|h.nn x px _
 ·cases hx:j9 x k with
  | true=>rw[Fe hx];exact h.lo _ (pe x px) t ht
  | false=>rw[Ia hx,h.lo _ (pe x px) t ht,h.lo x px _ ()];rfl
 ·cases hx:j9 x k with
  | true=>
   obtain⟨q1,q2⟩:=bt x px hx;rw[Fe hx]at ht;have:=h.ev _ (pe x px) t ht
   lia
  | false=>
   obtain⟨q1,q2,q3⟩:=bf x px hx;rw[Ia hx]at ht;by_cases c:f (Wd.ex x k) t=0
   ·rw[c,dD]at ht;have:=h.ev x px _ ht
    lia
   ·have:=h.ev _ (pe x px) t c
    lia
def RN(n:Nat):Top n (rg n) (D (rg n) d1):=by
 have key:∀x:ae,x.Perm (rg n)->Below x (rg n)->x=rg n:=λx px b=>by
  obtain⟨js,hj⟩:=Fw.AR _ x<|aQ _;exact Below.antisymm px.length_eq b<|Gr.t8 js px hj
 have ce:∀x t,D (rg n) d1 x t=if x=rg n then(if t=0 then(1:Int)else 0)else 0:=λx t=>rfl
 refine⟨λx px b=>?_,λx px b t ht=>?_,λx px b t=>?_,λt=>by rw[ce,aL rfl];rfl,λx px t=>?_,λx px t ht=>?_,λx px t ht=>?_⟩
 ·rw[key x px b,ce,aL rfl,Int.sub_self,aL rfl]
 ·rw[key x px b]at ht ⊢;rw[ce,aL rfl,aJ ()]
 ·rw[ce,aJ λz=>b<|by rw[z];exact Below.refl _]
 ·rw[ce];split
  ·split<;>decide
  ·decide
 ·rw[ce,aJ<|show ¬t=0 by lia];split<;>rfl
 ·rw[ce]at ht;by_cases c:x=rg n
  ·subst c;rw[aL rfl]at ht;by_cases d:t=0
   ·subst d;simp
   ·rw[aJ d]at ht;exact absurd rfl ht
  ·rw[aJ c]at ht;exact absurd rfl ht
def sP{n:Nat}{o:ae}(po:o.Perm<|rg n):Top n o (rT n o):=by
 refine qu (n:=n) (P:=λo=>Top n o<|rT n o) ((RN n).congr (j_ n)<|Bg n) (λo k po h0 h1 hf h=>?_) _ rfl po;have lo:o.length=n:=by rw[po.length_eq,Wd.iP]
 have:=h.step (jW po h0 h1) h0 h1 (by rw[uA po h0 h1,hf];rfl);rw[Fw.mX h0 ()]at this;exact this.congr po<|tQ po h0 h1 hf
end Hz
namespace Hz
open PySem L2 Bl Am
open Fw (rg wH)
open Su (j9)
open He (Fn mw bk jY mW yx Cp JP xw jW FD Va D Pr oF vC z7 uP ve j_ lN tK tB jH yj)
abbrev W (j:Nat)(f:Fn):Fn:=λo t=>f (o.map<|Wd.sw j) t+if j9 (bk o) j=true then 0 else f o (t-1)
def Vj{n k:Nat}(f:Fn){o:ae}(h:o.Perm<|rg n)(h0:1<=k)(h1:k<n)(h2:1<=j)(h3:j<n)(t:Int):Z k (W j f) o t=W j (Z k f) o t:=by
 have lo:o.length=n:=by rw[h.length_eq,Wd.iP]
 have tw:=jY h;have e1:(Wd.ex o k).map (Wd.sw j)=Wd.ex (o.map<|Wd.sw j) k:=(Wd.ex_map _ h0 ()).symm;have e2:=Cp h h0 h1;have f1:=uP (k:=j) h h0 h1;have f2:=uP (k:=k) tw.pu h2 h3;unfold Z W;dsimp only;rw[e1,e2];by_cases c:Pr o k j
 ·have c':=oF tw h0 h1 h2 h3 c;have e3:=vC h h0 h1 c;rw[f1.1 c,f2.1 c',z7 tw h0 h1 h2 h3 c,<- e3]
 ·have c':¬Pr (bk o) j k:=λz=>c<|oF tw.flip h2 h3 h0 h1 z;rw[f1.2 c,f2.2 c']
  cases j9 o k<;>cases j9 (bk o) j
  ·dsimp[aZ,bN];lia
  ·dsimp[aZ,cE,bN];lia
  ·dsimp[aZ,cE,bN];lia
  ·dsimp[cE]
theorem Vq{n:Nat}(h2:1<=j)(h3:j<n):∀{w:ag}{f:Fn},Va n w->mw n (Zw w<|W j f) (W j<|Zw w f)
 | [],_,_=>.refl
 | k::w,f,v=>by
  have v1:=v k<|aN ..;have v2:Va n w:=λj hj=>v j<|aP _ hj;show mw n (Zw w<|Z k<|W j f) (W j<|Zw w<|Z k f);exact(Bo v2 λo p t=>Vj f p v1.1 v1.2 h2 h3 t).trans (Vq h2 h3 v2)
def X8{n k:Nat}(h0:1<=k)(h1:k<n):mw n (W k<|D (rg n) d1) (Z k<|D (rg n) d1):=λo p t=>by
 have lo:o.length=n:=by rw[p.length_eq,Wd.iP]
 have er:=Wd.DT h0 h1;have iff:Wd.ex o k=rg n ↔ o.map (Wd.sw k)=rg n:=by
  constructor
  ·intro z;have:o=Wd.ex (rg n) k:=by rw[<- z,Fw.mX h0 ()]
   rw[this,show Wd.ex (rg n) k=(rg n).map (Wd.sw k)from er,ve]
  ·intro z;have:o=(rg n).map (Wd.sw k):=by rw[<- z,ve]
   rw[this,<- show Wd.ex (rg n) k=(rg n).map (Wd.sw k)from er,Fw.mX h0<|by rw[Wd.iP];exact h1]
 unfold W Z D;congr 1
 ·by_cases c:Wd.ex o k=rg n
  ·rw[aL c,aL<|iff.mp c]
  ·rw[aJ c,aJ λz=>c<|iff.mpr z]
 ·by_cases c:o=rg n
  ·subst c;rw[xw]
  ·rw[aJ c];split<;>split<;>rfl
abbrev fb (f:Fn):Fn:=λo t=>f (bk o) t
def Wr{n k:Nat}(h0:1<=k)(h1:k<n)(f:Fn):mw n (Z k<|fb f) (fb<|W k f):=λo p t=>by
 unfold Z fb W;rw[Cp p h0 h1,yx p]
theorem Cv{n:Nat}:∀(m:Nat) {u:ag},u.length=m->Va n u->mw n (Zw u<|D (rg n) d1) (fb<|Zw u.reverse<|D (rg n) d1)
 | 0,u,hl,_=>by
  rw[dM.mp hl];intro o p t;show(if o=rg n then d1 t else 0)=if bk o=rg n then d1 t else 0
  by_cases c:o=rg n
  ·rw[aL c,aL<|by rw[c,xw]]
  ·rw[aJ c,aJ λz=>c<|by rw[<- yx p,z,xw]]
 | m+1,u,hl,v=>by
  obtain⟨w,k,rfl⟩:∃v k,u=v++[k]:=by
   rcases gq u with z|⟨v,k,z⟩
   ·rw[z]at hl;cases hl
   ·exact⟨v,k,by rw[z,gr]⟩
  have vk:=v k (by simp);have vw:Va n w:=λj hj=>v j<|dG _ hj;have vr:Va n w.reverse:=λj hj=>vw j<|eO.mp hj;rw[Gx,List.reverse_append,List.reverse_singleton,gu,F6];refine(Vm (Cv m (by simpa using hl) vw) vk.1 vk.2).trans ((Wr vk.1 vk.2 _).trans λo p t=>?_);exact((Vq vk.1 vk.2 vr).symm.trans<|Bo vr<|X8 vk.1 vk.2) (bk o) (mW p) t
def Mb{n:Nat}{w x:ae}(pw:w.Perm<|rg n)(px:x.Perm<|rg n)(t:Int):rT n (bk w) (bk x) t=rT n w x t:=by
 obtain⟨a1,a2⟩:=wm pw;have va:Va n (sw n w):=λk hk=>by have:=Wd.iY.valid a1 k hk;rwa [Wd.iP]at this
 have vr:Va n (sw n w).reverse:=λj hj=>va j<|eO.mp hj;have b:=Wd.kC (sw n w).reverse vr;rw[fB,show Wd.led (i7 1<|(n:Int)+1) (sw n w)=w from a2]at b;have e:Wd.led (rg n) (sw n w).reverse=bk w:=jH ⟨pw,yj (j_ n) vr,b⟩<|jY pw;rw[zN (mW pw) (tB a1) e (bk x) (mW px) t];exact(Cv _ rfl va x px t).symm
def MR{n k:Nat}{o:ae}(lo:o.length=n)(h0:1<=k)(h1:k<n):(Wd.ex o k).reverse=Wd.ex o.reverse (n-k):=by
 have lr:o.reverse.length=n:=by rw[cF];exact lo
 refine bU λp=>?_;rw[Wd.lB () ()];by_cases hp:p<n
 ·rw[dw<|by rw[Wd.jw];lia,Wd.jw,Wd.lB h0 (),dw (),dw (),dw (),lo];by_cases c1:p=n-k
  ·rw[aL c1,aJ (),aL ()];congr 1;lia
  ·rw[aJ c1];by_cases c2:p=n-k-1
   ·rw[aL c2,aL ()];congr 1;lia
   ·rw[aJ c2,aJ (),aJ ()]
 ·rw[bC<|by rw[cF,Wd.jw];lia,aJ (),aJ (),bC ()]
def Fg{n k:Nat}{o:ae}(po:o.Perm<|rg n)(h0:1<=k)(h1:k<n):j9 o.reverse (n-k)=!j9 o k:=by
 have lo:o.length=n:=by rw[po.length_eq,Wd.iP]
 have ne:=Fw.tP po h0 ();have g:∀p,p<n->o.reverse.getD p 0=o.getD (n-1-p) 0:=λp hp=>by
  rw[aI,dw (),aI,lo]
 unfold Su.j9;rw[g _ (),g _ (),show n-1-(n-k-1)=k by lia,show n-1-(n-k)=k-1 by lia,<- decide_not];exact fK.mpr ⟨λz=>(),λz=>()⟩
def oG{n:Nat}{o:ae}(h:o.Perm<|rg n):o.reverse.Perm (rg n):=(g8 o).trans h
def JY{n:Nat}{w:ae}(pw:w.Perm<|rg n):∀x:ae,x.Perm (rg n)->∀t,rT n w x t=rT n x.reverse w.reverse t:=by
 refine qu (n:=n) (P:=λw=>∀x:ae,x.Perm (rg n)->∀t,rT n w x t=rT n x.reverse w.reverse t) (λx px t=>?_) (λw k pw h0 h1 hf ih x px t=>?_) _ rfl pw
 ·by_cases c:x=rg n
  ·subst c;rw[(sP<|j_ n).me,(sP<|oG<|j_ n).me]
  ·rw[Bg n x px t,show D (rg n) d1 x t=0 from aJ c];refine((sP<|oG px).no _ (oG<|j_ n) (λz=>c ?_) t).symm;have z:=(GX px).mp z;obtain⟨js,hj⟩:=Fw.AR _ x<|aQ _;exact Below.antisymm px.length_eq z<|Gr.t8 js px hj
 ·have lw:w.length=n:=by rw[pw.length_eq,Wd.iP]
  have lx:x.length=n:=by rw[px.length_eq,Wd.iP]
  have k0:1<=n-k:=()
  have k1:n-k<n:=()
  have pe:=jW px h0 h1;have er:=MR lx h0 h1;have ew:=MR lw h0 h1;have fw:j9 w.reverse (n-k)=false:=by rw[Fg pw h0 h1,hf];rfl
  have fx:=Fg px h0 h1;have prx:=oG px;have prw:=oG pw;rw[tQ pw h0 h1 hf x px t]
  cases hx:j9 x k with
  | true=>
   rw[hx]at fx;rw[Fe hx,ih _ pe t,er,ew,Qh prx k0 k1 fx _ (jW prw k0 k1) t,Fe<|by rw[uA prw k0 k1,fw];rfl,Fw.mX k0<|by rw[cF];lia]
  | false=>
   rw[hx]at fx;have fx:j9 x.reverse (n-k)=true:=fx;rw[Ia hx,ih _ pe t,ih _ px<|t-1,er,ew,tQ prx k0 k1 fx _ prw t,Ia fw,tQ prx k0 k1 fx _ (jW prw k0 k1)<|t-1,Fe<|by rw[uA prw k0 k1,fw];rfl,Fw.mX k0<|by rw[cF];lia]
abbrev ov (n:Nat)(o:ae):ae:=o.map λv=>(n:Int)+1-v
def wU{n:Nat}{o:ae}(po:o.Perm<|rg n):(ov n o).Perm (rg n):=by
 refine(po.map _).trans ?_;refine .trans (.of_eq ?_)<|oG<|j_ n;unfold rg i7;refine fJ (by simp) λi h1 h2=>?_;simp at h1;simp
 lia
def Py{n:Nat}{o:ae}(po:o.Perm<|rg n):bk (ov n o)=(bk o).reverse:=by
 have tw:=jY po;have lo:=tw.lo;have lu:=tw.lu;refine jH (jY<|wU po) ⟨wU po,oG<|mW po,by rw[cF,lu];unfold ov;rw[aK,lo],λp hp=>?_⟩;have hp':p<o.length:=by unfold ov at hp;rwa [aK]at hp
 have e:(ov n o)[p]=(n:Int)+1-o[p]:=cV ..;have mo:=jz.mp<|po.mem_iff.mp<|c_ hp';have:=tw.ou.2 p hp';rw[e,dw (),lu,show n-1-((n:Int)+1-o[p]-1).toNat=(o[p]-1).toNat by lia];exact this
def U5{n:Nat}{w x:ae}(pw:w.Perm<|rg n)(px:x.Perm<|rg n)(t:Int):rT n (ov n x) (ov n w) t=rT n w x t:=by
 rw[<- Mb (wU px) (wU pw) t,Py px,Py pw,<- JY (mW pw) _ (mW px) t,Mb pw px t]
def DA{n k:Nat}{o:ae}(lo:o.length=n)(h0:1<=k)(h1:k<n)(v:Int):Wd.ex (o++[v]) k=Wd.ex o k++[v]:=by
 have la:(o++[v]).length=n+1:=by simp[lo]
 refine bU λp=>?_;rw[Wd.lB h0 ()];by_cases hp:p<n
 ·have g:∀q,q<n->(o++[v])[q]?=o[q]?:=λq hq=>bg ();rw[bg (l₁:=Wd.ex o k)<|by rw[Wd.jw];lia,Wd.lB h0 (),g _ h1,g _ (),g _ hp]
 ·rw[aJ (),aJ (),bY (l₁:=o) (),bY (l₁:=Wd.ex o k)<|by rw[Wd.jw];lia,Wd.jw]
def zJ{n k:Nat}{o:ae}(lo:o.length=n)(h0:1<=k)(h1:k<n)(v:Int):j9 (o++[v]) k=j9 o k:=by
 unfold Su.j9;rw[aI,bg (),aI,bg (),aI,aI]
def Aq(n:Nat):rg n++[(n:Int)+1]=rg (n+1):=by
 unfold rg i7;rw[show(((n+1:Nat):Int)+1-1).toNat=((n:Int)+1-1).toNat+1 by lia,List.range_succ,cj,List.map_singleton];congr 2
 lia
def xS{n:Nat}{o:ae}(po:o.Perm<|rg n):(o++[(n:Int)+1]).Perm (rg<|n+1):=by
 rw[<- Aq];exact po.append_right _
def Sd{n:Nat}{w:ae}(pw:w.Perm<|rg n):∀x:ae,x.Perm (rg n)->∀t,rT (n+1) (w++[(n:Int)+1]) (x++[(n:Int)+1]) t=rT n w x t:=by
 refine qu (n:=n) (P:=λw=>∀x:ae,x.Perm (rg n)->∀t,rT (n+1) (w++[(n:Int)+1]) (x++[(n:Int)+1]) t=rT n w x t) (λx px t=>?_) (λw k pw h0 h1 hf ih x px t=>?_) _ rfl pw
 ·rw[Bg n x px t,Aq,Bg (n+1) _ (xS px) t];show(if x++[(n:Int)+1]=rg (n+1)then d1 t else 0)=if x=rg n then d1 t else 0
  rw[<- Aq];by_cases c:x=rg n
  ·rw[aL c,aL<|by rw[c]]
  ·rw[aJ c,aJ λz=>c<|List.append_cancel_right z]
 ·have lw:w.length=n:=by rw[pw.length_eq,Wd.iP]
  have lx:x.length=n:=by rw[px.length_eq,Wd.iP]
  rw[tQ pw h0 h1 hf x px t,tQ (xS pw) h0 () (by rw[zJ lw h0 h1];exact hf) _ (xS px) t,DA lw h0 h1]
  cases hx:j9 x k with
  | true=>rw[Fe hx,Fe<|by rw[zJ lx h0 h1];exact hx,DA lx h0 h1,ih _ (jW px h0 h1) t]
  | false=>rw[Ia hx,Ia<|by rw[zJ lx h0 h1];exact hx,DA lx h0 h1,ih _ (jW px h0 h1) t,ih x px<|t-1]
end Hz
namespace Hz
open PySem L2 Bl Am
open Fw (rg wH)
open Su (j9)
open He (Fn mw jW j_)
open Po (Pl Ok)
def Vr{n:Nat}{w:ae}(pw:w.Perm<|rg n):∀x:ae,x.Perm (rg n)->∀t,rT n w x t<=((2 ^ Iv.inv w:Nat):Int):=by
 refine qu (n:=n) (P:=λw=>∀x:ae,x.Perm (rg n)->∀t,rT n w x t<=((2 ^ Iv.inv w:Nat):Int)) (λx px t=>?_) (λw k pw h0 h1 hf ih x px t=>?_) _ rfl pw
 ·rw[Bg n x px t];have:(1:Int)<=((2 ^ Iv.inv (rg n):Nat):Int):=by exact_mod_cast Nat.one_le_two_pow
  show(if x=rg n then(if t=0 then(1:Int)else 0)else 0)<=_;split
  ·split<;>lia
  ·lia
 ·have lw:w.length=n:=by rw[pw.length_eq,Wd.iP]
  have hd:=Fw.o5 h0 ()<|cB hf;rw[tQ pw h0 h1 hf x px t,hd,pow_succ];have a1:=ih _ (jW px h0 h1) t;have a2:=ih _ px<|t-1;have a3:(0:Int)<=((2 ^ Iv.inv (Wd.ex w k):Nat):Int):=Int.natCast_nonneg _
  cases hx:j9 x k with
  | true=>rw[Fe hx];lia
  | false=>rw[Ia hx];lia
structure IsR (n:Nat)(x w:ae)(l:Pl):Prop where
 ok:Ok l
 cf:∀t,Po.cf l t=rT n w x t
def IsR.eq{n:Nat}{x w:ae}(h:IsR n x w l)(k:IsR n x w m):l=m:=Po.uniq h.ok k.ok λt=>by rw[h.cf,k.cf]
theorem CL:∀{l:Pl}{p:Int×Int},Ok l->p∈l->Po.cf l p.1=p.2
 | q::l,p,h,hp=>by
  rcases bJ.mp hp with z|z
  ·rw[z];exact h.head
  ·have lt:=(bZ.mp h.up).1 _ z;show(if q.1=p.1 then q.2 else 0)+Po.cf l p.1=p.2;rw[aJ (),dD];exact CL h.tail z
def IsR.at_{n:Nat}{x w:ae}{l:Pl}(h:IsR n x w l){p:Int×Int}(hp:p∈l):rT n w x p.1=p.2:=by rw[<- h.cf];exact CL h.ok hp
theorem EK:∀(l:Pl) (a b:Int),l.Pairwise (λp q=>p.1<q.1)->(∀p∈l,a<=p.1/\p.1<=b)->l≠[]->(l.length:Int)<=b-a+1
 | [],_,_,_,_,h=>absurd rfl h
 | [p],a,b,_,h,_=>by have:=h p<|aN ..;show((1:Nat):Int)<=_;lia
 | p::q::l,a,b,u,h,_=>by
  have u1:=bZ.mp u;have:=EK (q::l) (p.1+1) b u1.2 (λr hr=>⟨by have:=u1.1 r hr;lia,(h r<|aP _ hr).2⟩)<|List.cons_ne_nil _ _;have hp:=h p<|aN ..;rw[bz]
  lia
def IsR.keys{n:Nat}{x w:ae}{l:Pl}(h:IsR n x w l)(px:x.Perm<|rg n)(pw:w.Perm<|rg n){p:Int×Int}(hp:p∈l):0<=p.1/\p.1<=(Iv.inv w:Int)-Iv.inv x/\1<=p.2/\p.2<=((2 ^ Iv.inv w:Nat):Int)/\((Iv.inv w:Int)-Iv.inv x-p.1) % 2=0:=by
 have T:=sP pw;have e:=h.at_ hp;have nz:rT n w x p.1≠0:=by rw[e];exact h.ok.nz p hp
 have nn:=T.nn x px p.1;have up:=Vr pw x px p.1;refine⟨?_,?_,(),by rw[<- e];exact up,T.ev x px _ nz⟩
 ·by_cases c:p.1<0
  ·exact absurd (T.lo x px _ c) nz
  ·lia
 ·by_cases c:(Iv.inv w:Int)-Iv.inv x<p.1
  ·by_cases b:Below x w
   ·exact absurd (T.up x px b _ c) nz
   ·exact absurd (T.no x px b _) nz
  ·lia
def IsR.len{n:Nat}{x w:ae}{l:Pl}(h:IsR n x w l)(px:x.Perm<|rg n)(pw:w.Perm<|rg n):l.length<=Iv.inv w+1:=by
 cases l with
 | nil=>exact cL _
 | cons p l=>
  have:=EK (p::l) 0 _ h.ok.up (λq hq=>⟨(h.keys px pw hq).1,(h.keys px pw hq).2.1⟩) (List.cons_ne_nil _ _)
  lia
def Ig{n:Nat}{w:ae}(pw:w.Perm<|rg n):IsR n w w [(0,1)]:=by
 refine⟨⟨c9 _ _,λp hp=>by rw[bI.mp hp];decide⟩,λt=>?_⟩;rw[(sP pw).me];show(if (0:Int)=t then(1:Int)else 0)+0=if t=0 then 1 else 0
 by_cases c:t=0
 ·rw[aL c,aL c.symm];rfl
 ·rw[aJ c,aJ λz=>c z.symm];rfl
def C8{n:Nat}{x w:ae}(px:x.Perm<|rg n)(pw:w.Perm<|rg n)(h:¬Below x w):IsR n x w []:=⟨⟨List.Pairwise.nil,nofun⟩,λt=>((sP pw).no x px h t).symm⟩
def Vp{n k:Nat}{x w:ae}(px:x.Perm<|rg n)(pw:w.Perm<|rg n)(h0:1<=k)(h1:k<n)(hf:j9 w k=true)(hx:j9 x k=true)(h:IsR n (Wd.ex x k) (Wd.ex w k) l):IsR n x w l:=⟨h.ok,λt=>by rw[h.cf,tQ pw h0 h1 hf x px t,Fe hx]⟩
def Ua{n k:Nat}{x w:ae}(px:x.Perm<|rg n)(pw:w.Perm<|rg n)(h0:1<=k)(h1:k<n)(hf:j9 w k=true)(hx:j9 x k=false)(h:IsR n (Wd.ex x k) (Wd.ex w k) l)(h':IsR n x (Wd.ex w k) m):IsR n x w (Po.xC l<|Po.times [(1,1)] m):=⟨Po.J5 _ _,λt=>by
 rw[Su.L7,h.cf,tQ pw h0 h1 hf x px t,Ia hx,<- h'.cf,Su.LW];congr 1;show Po.cf (m.map (λq=>((1:Int)+q.1,(1:Int) * q.2))++[]) t=_;rw[cN,Su.P1,Int.one_mul]⟩
def IsR.last{n:Nat}{x w:ae}(h:IsR n x w l)(px:x.Perm<|rg n)(pw:w.Perm<|rg n)(b:Below x w):∃m,l=m++[((Iv.inv w:Int)-Iv.inv x,1)]:=by
 have T:=sP pw;have a:=T.at_ x px b;have key:∀(l:Pl) (d:Int),Ok l->(∀p∈l,p.1<=d)->Po.cf l d=1->∃m,l=m++[(d,(1:Int))]:=by
  intro l d ho hk hc
  rcases gq l with z|⟨m,p,z⟩
  ·rw[z]at hc;exact absurd hc (show ¬(0:Int)=1 by decide)
  ·rw[gr]at z;subst z;have hp:p∈m++[p]:=bA _<|bI.mpr rfl;have e:=CL ho hp;by_cases c:p.1=d
   ·refine⟨m,?_⟩;congr 1;rw[c]at e;rw[hc]at e;show[p]=_;rw[show p=(p.1,p.2)from rfl,c,<- e]
   ·exfalso;have hu:=ho.up;rw[bX]at hu;have lo:=hk p hp;have:Po.cf (m++[p]) d=0:=by
     rw[Su.Ju];have z1:∀(q:Pl),(∀r∈q,r.1<d)->Po.cf q d=0:=by
      intro q
      induction q with
      | nil=>intro _;rfl
      | cons r q ih=>
       intro hr;show(if r.1=d then r.2 else 0)+Po.cf q d=0;rw[aJ (by have:=hr r<|aN ..;lia),ih λs hs=>hr s<|aP _ hs];rfl
     rw[z1 m (λr hr=>by have:=hu.2.2 r hr p<|bI.mpr rfl;lia),z1 [p] λr hr=>by rw[bI.mp hr];lia];rfl
    lia
 exact key l _ h.ok (λp hp=>(h.keys px pw hp).2.1)<|by rw[h.cf];exact a
def IsR.bk{n:Nat}{x w:ae}(h:IsR n x w l)(px:x.Perm<|rg n)(pw:w.Perm<|rg n):IsR n (He.bk x) (He.bk w) l:=⟨h.ok,λt=>by rw[h.cf,Mb pw px]⟩
theorem IsR.ov{n:Nat}{x w:ae}(h:IsR n x w l)(px:x.Perm<|rg n)(pw:w.Perm<|rg n):IsR n (ov n w) (ov n x) l:=⟨h.ok,λt=>by rw[h.cf,U5 pw px]⟩
def IsR.rev{n:Nat}{x w:ae}(h:IsR n x w l)(px:x.Perm<|rg n)(pw:w.Perm<|rg n):IsR n w.reverse x.reverse l:=⟨h.ok,λt=>by rw[h.cf,JY pw x px]⟩
def IsR.app{n:Nat}{x w:ae}(h:IsR n x w l)(px:x.Perm<|rg n)(pw:w.Perm<|rg n):IsR (n+1) (x++[(n:Int)+1]) (w++[(n:Int)+1]) l:=⟨h.ok,λt=>by rw[h.cf,Sd pw x px]⟩
abbrev am (a:ae)(i j:Nat):Nat:=((a.drop<|i+1).take<|j-i-1).countP λm=>decide (a.getD j 0<m) && decide (m<a.getD i 0)
theorem GG(x y:Int)(hxy:x<y):∀(M:ae),(∀m∈M,m≠x/\m≠y)->M.countP (λm=>decide<|m<y)=M.countP (λm=>decide<|m<x)+M.countP (λm=>decide (x<m) && decide (m<y))/\Iv.jG M [x]=Iv.jG M [y]+M.countP (λm=>decide (x<m) && decide (m<y))
 | [],_=>⟨rfl,rfl⟩
 | m::M,h=>by
  obtain⟨e1,e2⟩:=GG x y hxy M λk hk=>h k<|aP _ hk;obtain⟨n1,n2⟩:=h m<|aN ..;rw[cP,cP,cP,Iv.mF,Iv.mF,e1,e2,cP,cP,List.countP_nil];by_cases c1:m<x
  ·dsimp[aT c1,aT<|show m<y by lia,aS<|show ¬x<m by lia,aS<|show ¬y<m by lia,gT,aZ,cE,bN];lia
  ·by_cases c2:m<y
   ·dsimp[aS c1,aT c2,aT<|show x<m by lia,aS<|show ¬y<m by lia,Bool.and_self,aZ,cE,bN];lia
   ·dsimp[aS c1,aS c2,aT<|show x<m by lia,aT<|show y<m by lia,iA,aZ,cE,bN];lia
def Wk{M:ae}{x y:Int}(h:∀m∈M,m≠x/\m≠y)(hxy:x<y):Iv.inv ([y]++M++[x])=Iv.inv ([x]++M++[y])+(1+2 * M.countP (λm=>decide (x<m) && decide (m<y))):=by
 obtain⟨q1,q2⟩:=GG x y hxy M h;rw[Iv.jb,Iv.jb,Iv.jb<|[x]++M,Iv.jb [x]];have e1:Iv.jG [y] M=Iv.jG [x] M+M.countP (λm=>decide (x<m) && decide (m<y)):=by
  show M.countP _+0=M.countP _+0+_;rw[q1];lia
 have e2:Iv.jG ([y]++M) [x]=1+Iv.jG M [x]:=by
  show[x].countP _+Iv.jG M [x]=_;rw[cP,aT hxy];rfl
 have e3:Iv.jG ([x]++M) [y]=Iv.jG M [y]:=by
  show[y].countP _+Iv.jG M [y]=_;rw[cP,aS (by lia:¬y<x)];simp
 rw[e1,e2,e3,q2];show 0+Iv.inv M+_+0+_=0+Iv.inv M+_+0+_+_
 lia
def Ye{n:Nat}{a:ae}(pa:a.Perm<|rg n)(hij:i<j)(hj:j<n)(h:a.getD j 0<a.getD i 0):Iv.inv a=Iv.inv (Iv.sw a i j)+(1+2 * am a i j)/\(Iv.sw a i j).Perm (rg n)/\Below (Iv.sw a i j) a:=by
 have la:a.length=n:=by rw[pa.length_eq,Wd.iP]
 have nd:a.Nodup:=pa.nodup_iff.mpr<|kh _ _;have ge:∀k,k<n->a[k]?=some (a.getD k 0):=λk hk=>Iv.qc ();have inj:∀k l,k<n->l<n->a.getD k 0=a.getD l 0->k=l:=λk l hk hl e=>by
  have h1:=ge k hk;have h2:=ge l hl;rw[e,<- h2]at h1;exact(List.getElem?_inj () nd).mp h1
 obtain⟨P,M,R,ea,hP,hM,es⟩:=Iv.split hij (by lia:j<a.length);have lP:P.length=i:=by rw[hP,bq];lia
 have lM:(a.drop<|i+1).take (j-i-1)=M:=by
  have l0:P.length+(1+M.length+1)+R.length=n:=by
   have:=dj List.length ea;rw[la]at this;simp at this
   lia
  have ml:M.length=j-i-1:=by
   have hj1:=ge j hj;by_cases c:M.length=j-i-1
   ·exact c
   ·exfalso;have ej:a[i+1+M.length]?=some (a.getD j 0):=by
     conv=>lhs;rw[ea]
     rw[bG,bY (),lP,show i+1+M.length-i=M.length+1 by lia];show((a.getD i 0::(M++[a.getD j 0]))++R)[M.length+1]?=_;rw[gz,eN,bG,bY<|aQ _,fH];rfl
    rw[<- ge j hj]at ej;have:=(List.getElem?_inj () nd).mp ej
    lia
  have ed:a.drop (i+1)=(M++[a.getD j 0])++R:=by
   conv=>lhs;rw[ea]
   rw[bG,List.drop_append,List.drop_of_length_le (),lP,show i+1-i=1 by lia];rfl
  rw[ed,bG,List.take_append_of_le_length (),cU ()]
 have hne:∀m∈M,m≠a.getD j 0/\m≠a.getD i 0:=λm hm=>by
  obtain⟨k,k1,k2,k3⟩:=hM m hm;rw[ge k ()]at k3;have k3:=aU k3;exact⟨λz=>by have:=inj k j () hj (by rw[k3,z]);lia,λz=>by have:=inj k i () () (by rw[k3,z]);lia⟩
 have pb:(Iv.sw a i j).Perm (rg n):=(Stp.NT hij ()).trans pa;refine⟨?_,pb,?_⟩
 ·have p:=Iv.xB M (a.getD j 0)<|a.getD i 0;have e:Iv.inv (P++([a.getD i 0]++M++[a.getD j 0])++R)=Iv.inv (P++([a.getD j 0]++M++[a.getD i 0])++R)+(1+2 * M.countP (λm=>decide (a.getD j 0<m) && decide (m<a.getD i 0))):=by
   rw[Iv.jb,Iv.jb P,Iv.jb<|P++([a.getD j 0]++M++[a.getD i 0]),Iv.jb P,Wk hne h,Iv.Fc P p,Iv.Ef R<|p.append_left P]
   lia
  rw[<- ea,<- es]at e;unfold am;rw[lM];exact e
 ·have ls:(Iv.sw a i j).length=n:=by rw[Iv.zT,la]
  have hb:(Iv.sw a i j).getD i 0<(Iv.sw a i j).getD j 0:=by
   rw[Iv.De hij (),Iv.De hij (),aJ (),aL rfl,aL rfl];exact h
  have ss:=Stp.ve hij (show j<a.length by lia);have key:∀b:ae,b.length=n->b.getD i 0<b.getD j 0->Below b (Iv.sw b i j):=λb lb hb=>by
   unfold Iv.sw;rw[Eu.i_<|show i<b.length by lia,Eu.i_<|show j<b.length by lia]at hb ⊢;exact qP () () hij hb
  have:=key _ ls hb
  rwa [ss]at this
theorem F1:∀(l:ae),2 * Iv.inv l<=l.length * (l.length-1)
 | []=>aQ _
 | x::l=>by
  have h1:l.countP (λy=>decide<|y<x)<=l.length:=List.countP_le_length;have h2:=F1 l;show 2 * (l.countP (λy=>decide<|y<x)+Iv.inv l)<=(l.length+1) * l.length
  cases hl:l.length with
  | zero=>rw[hl]at h1 h2;lia
  | succ m=>
   rw[hl]at h1 h2;have:(m+1) * (m+1-1)+2 * (m+1)=(m+1+1) * (m+1):=by
    rw[g5,Nat.add_mul (m+1) 1<|m+1,Nat.one_mul,Nat.mul_add (m+1) m 1];lia
   lia
def xy{n:Nat}{l:ae}(p:l.Perm<|rg n)(hn:n<=7):Iv.inv l<=21:=by
 have h:=F1 l;rw[p.length_eq,Wd.iP]at h;have:n * (n-1)<=7 * 6:=Nat.mul_le_mul hn ()
 lia
def Nr{l:ae}{v:Int}(h:∀x∈l,x<v):Iv.inv (l++[v])=Iv.inv l:=by
 rw[Iv.jb];have:∀l:ae,(∀x∈l,x<v)->Iv.jG l [v]=0:=by
  intro l
  induction l with
  | nil=>intro _;rfl
  | cons x l ih=>
   intro h;rw[Iv.mF,ih λy hy=>h y<|aP _ hy,cP,aS (by have:=h x<|aN ..;lia)];rfl
 rw[this l h];rfl
end Hz
namespace Am
open PySem L2 Bl
abbrev kR:Nat->Int->ae->ae
 | 0,_,ms=>ms
 | _+1,_,[]=>[]
 | x+1,d,m::ms=>(m+d)::kR x d ms
theorem uR:∀(x:Nat) (d:Int) (ms:ae),(kR x d ms).length=ms.length
 | 0,_,_=>rfl
 | _+1,_,[]=>rfl
 | x+1,d,m::ms=>dj (·+1)<|uR x d ms
theorem rj:∀(x:Nat) (d:Int) (ms:ae) (j:Nat),(kR x d ms)[j]?=(ms[j]?).map λm=>if j<x then m+d else m
 | 0,d,ms,j=>by simp[kR]
 | _+1,_,[],j=>by simp[kR]
 | x+1,d,m::ms,0=>by simp[kR]
 | x+1,d,m::ms,j+1=>by
  show(kR x d ms)[j]?=_;rw[rj x d ms j];simp
theorem wA:∀(x:Nat) (d:Int) (ms:ae) (m:Int),ms[x]?=some m->(kR x d ms).set x (m+d)=kR (x+1) d ms
 | 0,d,[],m,h=>by simp at h
 | 0,d,k::ms,m,h=>by simp at h;subst h;rfl
 | x+1,d,[],m,h=>by simp at h
 | x+1,d,k::ms,m,h=>by
  show(k+d)::(kR x d ms).set x (m+d)=(k+d)::kR (x+1) d ms;rw[wA x d ms m<|by simpa using h]
abbrev pX (n:Nat)(xs ys:ae)(t:Nat):ae:=(List.range n).map λ(j:Nat)=>cnt (xs.take t) ((j:Int)+1)-cnt (ys.take t) ((j:Int)+1)
def mL{n:Nat}:(pX n xs ys t).length=n:=by simp[pX]
def pN{n:Nat}{xs ys:ae}{j:Nat}(h:j<n):(pX n xs ys t)[j]?=some (cnt (xs.take t) ((j:Int)+1)-cnt (ys.take t) ((j:Int)+1)):=by
 unfold pX;rw[bh,cQ h];rfl
def Ox{n:Nat}:pX n xs ys 0=List.replicate n 0:=by
 unfold pX;refine bU λj=>?_;rw[bh,fU];by_cases hj:j<n
 ·rw[cQ hj,aL hj];simp[cnt]
 ·rw[bC<|by simpa using hj,aJ hj];rfl
def CC{n:Nat}{xs ys:ae}{t:Nat}(hx:t<xs.length)(hy:t<ys.length):kR ys[t].toNat (-1) (kR xs[t].toNat 1 (pX n xs ys t))=pX n xs ys (t+1):=by
 refine bU λj=>?_;rw[rj,rj];by_cases hj:j<n
 ·rw[pN hj,pN hj,jx hx,jx hy,dO,dO];congr 1;have e1:(j<xs[t].toNat)=((j:Int)+1<=xs[t]):=by apply propext;lia
  have e2:(j<ys[t].toNat)=((j:Int)+1<=ys[t]):=by apply propext;lia
  dsimp[e1,e2];split<;>split<;>lia
 ·rw[bC<|by rw[mL];lia,bC<|by rw[mL];lia];rfl
theorem xV:∀{ns:ae},ns≠[]->∃m,maxOf ns=some m
 | [],h=>absurd rfl h
 | [x],_=>⟨x,rfl⟩
 | x::y::ys,_=>by
  obtain⟨m,e⟩:=xV (ns:=y::ys) (by simp);exact⟨if m>x then m else x,by show(maxOf (y::ys)).map _=_;rw[e];rfl⟩
def J_{n:Nat}{ns:ae}(h:iG S n=some (ns.map .int))(h0:ns≠[]):∃m,Mq (.ref n) S=.ok (.int m) S/\m∈ns/\∀a∈ns,a<=m:=by
 obtain⟨m,e⟩:=xV h0;refine⟨m,?_,xm e⟩;show opt (iG S n) _=_;rw[h,jL,ints_map,jL,e,jL]
def Qw{S:iH}{n:Nat}{x:A}{k:Nat}(h:iG S n=some [x])(hk:k<=16777216):uU (.ref n) (.int k) S=.ok (.ref S.length) (S++[.lst<|List.replicate k x]):=by
 show opt (iG S n) _=_;rw[h,jL];have e:(List.replicate k [x]).flatten=List.replicate k x:=by
  induction k with
  | zero=>rfl
  | succ k ih=>rw[cX,dJ,ih ()];rfl
 rw[j4 ⟨(),(),by rw[cR,d_];simpa using hk⟩,d_,e]
def xQ{xs:ae}{n:Int}(h:xs.Perm<|i7 1<|n+1)(hn:0<=n):(xs.length:Int)=n:=by
 rw[h.length_eq,j0];lia
def tX{xs:ae}{n x:Int}(h:xs.Perm<|i7 1<|n+1)(hx:x∈xs):1<=x/\x<=n:=by
 have:=jz.mp (h.mem_iff.mp hx)
 lia
end Am
namespace K36
open PySem L2 Am
abbrev yR (S:iH)(b:Nat):Prop:=∃g st:Int,iG S b=some [.int g,.int st]/\0<=g/\0<=st/\st<4294967296
def yR.kp{c:Nat->Prop}(h:yR S b)(k:Kp c S S')(hb:¬c b):yR S' b:=by
 obtain⟨g,st,e,q⟩:=h;exact⟨g,st,k.lst b _ hb e,q⟩
def yR.lt{S:iH}(h:yR S b):b<S.length:=by obtain⟨_,_,e,_⟩:=h;exact qK e
def Ni{S:iH}{ns:ae}{k:Int}(h0:0<=k)(h1:k<=100):∃S',pK [.frz<|ns.map .int,.int k] S=.ok (.ref S.length) S'/\yR S' S.length/\oz S S':=by
 have e3:O4 (.int 10) (.int 18)=λS=>R.ok (.int 1000000000000000000) S:=by
  funext S;exact j4 ⟨by decide,by decide,by decide⟩
 have m1:∀x:Int,xW (.int x) (.int 2147483647)=λS=>R.ok (.int<|x % 2147483647) S:=λx=>by funext S;exact yz ⋯
 have m3:∀x:Int,uU (.int 7919) (.int x)=λS=>R.ok (.int<|7919 * x) S:=λx=>by funext S;exact D5 ⋯ ⋯
 have s0:∀x:Int,0<=x % 2147483647:=λx=>gO _ ⋯;have s1:∀x:Int,x % 2147483647<4294967296:=λx=>by have:=fR x (show(0:Int)<2147483647 by decide);lia
 have go:∀cell:Int,∃S',((RS.seq (.nx [A.frz<|ns.map .int,.int k,.int cell,.unb] S) (jd (jm (eC<|.int 0)<|jB 3)
  (jd (t7 (mS<|iI V7 (iC 2)<|iI O4 (eC<|.int 10)<|eC<|.int 18) (jm (iC 2)<|jB 3)<|mQ)
  (jF<|sH<|iD (iC 3)<|iD (iI xW (iI jo (iI jo (iC 2)<|iI uU (eC<|.int 7919)<|iC 1)<|eC<|.int 13)<|eC<|.int 2147483647)<|iO)))).end=.ok (.ref S.length) S')/\yR S' S.length/\oz S S':=by
  intro cell;by_cases hc:1000000000000000000<=cell
  ·dsimp[jj,bools,e3,m1,m3,aT hc];exact⟨_,rfl,⟨_,_,ji,(),s0 _,s1 _⟩,Kp.refl.lay⟩
  ·dsimp[jj,bools,e3,m1,m3,aS hc];exact⟨_,rfl,⟨_,_,ji,fD 0,s0 _,s1 _⟩,Kp.refl.lay⟩
 unfold pK uz uV;dsimp[jj,bools,jD,Nat.reduceAdd,Nat.reduceSub,aK];by_cases hk:k<(ns.length:Int)
 ·have hn:k.toNat<ns.length:=()
  have ha:nU (ns.map A.int) k=some (.int ns[k.toNat]):=ud (k:=k.toNat) ()<|aG hn;rw[aT hk];dsimp[jj,bools,ha];have:=go ns[k.toNat];simpa only [jj,bools]using this
 ·rw[aS hk];dsimp[jj,bools];have:=go 0;simpa only [jj,bools]using this
def digit{m:Int}(h:yR S b)(h1:1<=m)(h2:m<1073741824):∃d S',iX [.ref b,.int m] S=.ok (.int d) S'/\0<=d/\d<m/\yR S' b/\Kp (·=b) S S':=by
 obtain⟨g,st,hl,hg,hs,hs2⟩:=h;have hb:=qK hl;have i0:yI 2 0=some 0:=uK rfl ⋯;have i1:yI 2 1=some 1:=uK rfl ⋯;have fin:∀d g' st':Int,0<=d->d<m->0<=g'->0<=st'->st'<4294967296->iX [.ref b,.int m] S=.ok (.int d) (S.set b<|.lst [.int g',.int st'])->∃d S',iX [.ref b,.int m] S=.ok (.int d) S'/\0<=d/\d<m/\yR S' b/\Kp (·=b) S S':=
  λd g' st' a1 a2 a3 a4 a5 e=>⟨d,_,e,a1,a2,⟨g',st',nv hb,a3,a4,a5⟩,Kp.refl.set<|.inl rfl⟩
 by_cases hg0:0<g
 ·refine fin (g % m) (g / m) st (gO _ ()) (fR _ ()) (Int.ediv_nonneg hg ()) hs hs2 ?_;unfold iX n_ oh;rw[vF];simp[hl,FH,Qy,hg0,yz<|show 0<m by lia,LF (show 0<m by lia) h2,i0]
 ·have e1:0<=(st * 48271+11) % 2147483647:=gO _ ⋯;have e2:(st * 48271+11) % 2147483647<2147483647:=fR _ ⋯;have e3:0<=(st * 48271+11) % 2147483647 / 8:=()
  refine fin ((st * 48271+11) % 2147483647 / 8 * 69621 % 2147483629 % m) g ((st * 48271+11) % 2147483647) (gO _ ()) (fR _ ()) hg e1 () ?_;unfold iX n_ oh;rw[vF];simp[hl,FH,Qy,hg0,i1,D5 (show -18446744073709551616<st by lia) (),yz<|show(0:Int)<2147483647 by decide,nv hb,LF (show(0:Int)<8 by decide) ⋯,D5 (show -18446744073709551616<(st * 48271+11) % 2147483647 / 8 by lia) (),yz<|show(0:Int)<2147483629 by decide,yz<|show 0<m by lia]
open Po (Pl Ok Bd)
def JB{S:iH}{d:Nat}{D:Pl}(hd:jQ S d=some (Po.iv D))(hl:D.length<=16777216):∃S',jv [.ref d] S=.ok (.ref<|S.length+1) S'/\iG S' (S.length+1)=some (Po.pl<|Po.ED D)/\oz S S':=by
 obtain⟨S',e,h1,h2⟩:=Sk hd hl;refine⟨S',?_,h1,h2⟩;unfold jv m7 m_;dsimp[jj,bools,jD,Nat.reduceAdd,Nat.reduceSub];rw[show lV [none,some 0] _ _ _ _ _ _=_ from e];rfl
def NG{S:iH}{n:Nat}{a b:Pl}(hn:iG S n=some (Po.pl a))(hm:iG S m=some (Po.pl b))(ha:Ok a)(hl:a.length+b.length<16777216) :
  ∃(L:Nat) (S':iH),wV [.ref n,.ref m] S=.ok (.ref L) S'/\iG S' L=some (Po.pl<|Po.xC a b)/\S.length<=L/\oz S S':=by
 have hd:jQ (S++[.pD<|Po.iv a]) S.length=some (Po.iv a):=Jd;obtain⟨y3,y4,T,e,hD,kp⟩:=O2 (S:=S++[.pD<|Po.iv a]) (S1:=S++[.pD<|Po.iv a]) (x0:=.ref n) (x1:=.ref m) (x3:=.unb) (x4:=.unb) (src:=tY) (l:=b) (show tY _ _=_ from uE (by dsimp[jj,bools])<|rm hm) (rm hm) hd hl;have ln:=Po.pS b a;obtain⟨S',e2,h1,h2⟩:=JB hD ();have k1:oz S T:=(Kp.refl.lay (o:=.pD<|Po.iv a)).old kp λq hq _ z=>()
 refine⟨T.length+1,S',?_,by rw[h1,<- Po.Ow ha];rfl,by have:=k1.len;lia,k1.trans h2⟩;unfold wV DQ Du;dsimp[jj,bools,jD,Nat.reduceAdd,Nat.reduceSub,HM,hn,Po.Pj,Po.Oc,Po.NI ha];rw[show mh tY _ Cw _ _=_ from e];dsimp[jj,bools,e2]
def GU(f:Int×Int->A)(hf:∀p τ S,TU (f p) τ S=TU (Po.pA p) τ S){S:iH}{n:Nat}{a b:Pl}(hn:iG S n=some (a.map f))(hm:iG S m=some (Po.pl b))(hl:a.length * b.length<16777216)(ha:∀p∈a,p.2.natAbs<big)(hb:∀p∈b,p.2.natAbs<big) :
  ∃(L:Nat) (S':iH),rK [.ref n,.ref m] S=.ok (.ref L) S'/\iG S' L=some (Po.pl<|Po.times a b)/\S.length<=L/\oz S S':=by
 have hd:jQ (S++[.pD []]) S.length=some []:=Jd;obtain⟨y3,y4,y5,y6,T,e,hD,kp⟩:=Dy f hf (S:=S++[.pD []]) (x3:=.unb) (x4:=.unb) (x5:=.unb) (x6:=.unb) (rm hn) (rm hm) hd hl ha hb;have ln:=Po.pS (Po.HB a b) [];rw[Po.Aa,cg,eo]at ln;obtain⟨S',e2,h1,h2⟩:=JB hD ();have k1:oz S T:=(Kp.refl.lay (o:=.pD [])).old kp λq hq _ z=>()
 refine⟨T.length+1,S',?_,h1,by have:=k1.len;lia,k1.trans h2⟩;unfold rK Aj zA;dsimp[jj,bools,jD,Nat.reduceAdd,Nat.reduceSub,G9];rw[show mh yw _ yO _ _=_ from e];dsimp[jj,bools,e2]
def KZ{S:iH}{n:Nat}{a b:Pl}(hn:iG S n=some (Po.pl a))(hm:iG S m=some (Po.pl b))(hl:a.length * b.length<16777216)(ha:∀p∈a,p.2.natAbs<big)(hb:∀p∈b,p.2.natAbs<big) :
  ∃(L:Nat) (S':iH),rK [.ref n,.ref m] S=.ok (.ref L) S'/\iG S' L=some (Po.pl<|Po.times a b)/\S.length<=L/\oz S S':=GU Po.pA (λ_ _ _=>rfl) hn hm hl ha hb
def RQ{l:ae}{k:Nat}{i:Int}(h:i=k)(hk:k<l.length):nU (l.map A.int) i=some (.int<|l.getD k 0):=ud h<|by rw[aI,aG hk];rfl
def OJ{l:ae}{k:Nat}:((l.map A.int).set (k-1)<|.int<|l.getD k 0).set k (.int<|l.getD (k-1) 0)=(Wd.ex l k).map A.int:=by
 unfold Wd.ex;rw[gf,gf]
def Uv{f g:A->A->iH->R A}{ca cb cc:Ex}{a c:A}(h1:ca τ S=.ok a S)(h2:cb τ S=.ok b S)(h3:f a b S=.ok (.bl true) S)(h4:cc τ S=.ok c S):Kc f g ca cb cc τ S=g b c S:=by
 unfold Kc;rw[h1,R.kX,h2,R.kX,h3,R.kX];unfold XW;show(cc τ S).bind _=_;rw[h4];rfl
def Xp{f g:A->A->iH->R A}{ca cb cc:Ex}{a:A}(h1:ca τ S=.ok a S)(h2:cb τ S=.ok b S)(h3:f a b S=.ok (.bl false) S):Kc f g ca cb cc τ S=.ok (.bl false) S:=by
 unfold Kc;rw[h1,R.kX,h2,R.kX,h3,R.kX];rfl
def SS{i:Int}:nG [.int i] S=.ok (.bl true) S:=by
 unfold nG sE sd;dsimp[jj,bools,jD,Nat.reduceAdd,Nat.reduceSub,show H_ .int "int" = some true from rfl,show H_ .int "bool" = some false from rfl,dI]
def WZ{n k:Int}(h1:1<=k)(h2:k<n):kP [.int n,.int k] S=.ok (.bl true) S:=by
 unfold kP o4 pF;have c:Kc Rh zU (eC<|.int 1) (iC 1) (iC 0) [.int n,.int k] S=.ok (.bl true) S:=by
  rw[Uv (a:=.int 1) (b:=.int k) (c:=.int n) rfl rfl (by dsimp[jj,aT h1]) rfl];dsimp[jj,aT h2]
 dsimp[jj,bools,jD,Nat.reduceAdd,Nat.reduceSub,SS,c]
def Ew{xs:ae}{k:Nat}(h1:1<=k)(h2:k<xs.length)(hl:xs.length<=1000):∃S',lH [.tup<|xs.map .int,.int k] S=.ok (.tup<|(Wd.ex xs k).map .int) S'/\oz S S':=by
 have e1:=WZ (S:=S) (n:=(xs.length:Int)) (k:=(k:Int)) () ();have a1:nU (xs.map A.int) (k:Int)=some (.int<|xs.getD k 0):=RQ rfl ();have a2:nU (xs.map A.int) ((k:Int)-1)=some (.int<|xs.getD (k-1) 0):=RQ (k:=k-1) () ();have x1:yI xs.length ((k:Int)-1)=some (k-1):=uK () ();have x2:yI xs.length (k:Int)=some k:=uK rfl ();have hL:iG (S++[O.lst<|xs.map .int]) S.length=some (xs.map .int):=ji;have lS:∀ys,iG ((S++[O.lst<|xs.map .int]).set S.length<|.lst ys) S.length=some ys:=λys=>nv (by simp);have e2:jE [.tup<|xs.map .int,.int k,.int<|(k:Int)+1] S=.ok (.tup<|(Wd.ex xs k).map .int) (((S++[O.lst<|xs.map .int]).set S.length<|.lst<|(xs.map A.int).set (k-1)<|.int<|xs.getD k 0).set S.length<|.lst<|(Wd.ex xs k).map .int):=by
  unfold jE lC k_;dsimp[jj,bools,jD,Nat.reduceAdd,Nat.reduceSub,hL,show(k:Int)+1-1=k by lia,a1,a2,j4<|show 2<=sizeLine by decide,j4<|show 2=2 from rfl,aK,x1,lS,bO,x2,OJ];rw[nv<|by simp];dsimp[jj,bools]
 unfold lH qZ qq;dsimp[jj,mU,bools,jD,Nat.reduceAdd,Nat.reduceSub,aK,e1,b_,e2];exact⟨_,rfl,((Kp.refl.lay).set<|.inr<|aQ _).set<|.inr<|aQ _⟩
def VY{xs:ae}{i:Int}(h1:0<=i)(h2:i<xs.length):nU (xs.map A.int) i=some (.int<|xs.getD i.toNat 0):=RQ (k:=i.toNat) () ()
abbrev fl (xs:ae)(n:Nat):ae:=(i7 1 (n:Int)).filter λk=>decide<|xs.getD (k-1).toNat 0>xs.getD k.toNat 0
def AX{S:iH}{n:Nat}{xs:ae}(hlen:xs.length=n)(h2:n<=20):rq [.tup<|xs.map .int] S=.ok (.ref S.length) (S++[.lst<|(fl xs n).map .int]):=by
 have ec:=Js (lo:=1) (hi:=(n:Int)) (cap:=[some 0]) (src:=pU (eC<|.int 1)<|je (f1 mz)<|iD (iC 0)<|iO) (t:=mS<|iI DK (iI pL (iC 1)<|iI aSub (iC 0)<|eC<|.int 1)<|iI pL (iC 1)<|iC 0) (e:=iC 0) (τ:=[.tup<|xs.map .int]) (S:=S) (S1:=S)
  (um (S1:=S) (by dsimp[jj,bools]) (by dsimp[jj,bools,aK,hlen]) (kJ () ())<|kJ () ())
  (λk=>decide<|xs.getD (k-1).toNat 0>xs.getD k.toNat 0) (λk=>.int k) (λk h1 h2=>by
   have x1:nU (xs.map A.int) (k-1)=some (.int<|xs.getD (k-1).toNat 0):=VY () ();have x2:nU (xs.map A.int) k=some (.int<|xs.getD k.toNat 0):=VY () ();dsimp[jj,bools,x1,x2]) (λk _ _ _=>by dsimp[jj,bools]) ()
 unfold rq zI zR;dsimp[jj,bools,jD,Nat.reduceAdd,Nat.reduceSub,ec];rfl
theorem FZ{t:Int}:∀(p:ae),Ug S (.int t) (p.map .int)=some (decide<|t∈p)
 | []=>rfl
 | x::p=>by
  show(tV S 12 (.int x)<|.int t).bind (λa=>(Ug S (.int t)<|p.map .int).map λb=>a || b)=_;rw[FZ p];show some ((x == t) || decide (t∈p))=_;by_cases c:x=t
  ·subst c;rw[bK,aT (show x∈x::p from aN ..)];rfl
  ·rw[cW.mpr c];congr 1;rw[gB,fK];constructor
   ·exact λz=>aP _ z
   ·intro z
    rcases bJ.mp z with z|z
    ·exact absurd z.symm c
    ·exact z
abbrev prs (n:Int):ad:=(i7 1 n).flatMap λi=>(i7 (i+1)<|n+1).map λj=>.tup [.int i,.int j]
def OV{n:Int}{x:A}:x∈prs n ↔ ∃i j:Int,1<=i/\i<j/\j<=n/\x=.tup [.int i,.int j]:=by
 unfold prs;rw[List.mem_flatMap];constructor
 ·rintro⟨i,hi,hx⟩;obtain⟨j,hj,rfl⟩:=bW.mp hx;rw[jz]at hi hj;exact⟨i,j,(),(),(),rfl⟩
 ·rintro⟨i,j,h1,h2,h3,rfl⟩;exact⟨i,jz.mpr ⟨h1,()⟩,bW.mpr ⟨j,jz.mpr ⟨(),()⟩,rfl⟩⟩
theorem BN{α β:Type}{f:α->List β}{B:Nat}:∀(l:List α),(∀x∈l,(f x).length<=B)->(l.flatMap f).length<=l.length * B
 | [],_=>cL _
 | x::l,h=>by
  rw[fq,aX,bz,Nat.add_mul,Nat.one_mul];have:=BN l λy hy=>h y<|aP _ hy;have:=h x (aN ..)
  lia
def GP{n:Int}(h0:0<=n)(h1:n<=1000):(prs n).length<=16777216:=by
 have:=BN (B:=1000) (f:=λi=>(i7 (i+1)<|n+1).map λj=>A.tup [.int i,.int j]) (i7 1 n) λx hx=>by
  rw[jz]at hx;rw[aK,j0];lia
 rw[j0]at this;have h2:(n-1).toNat * 1000<=1000 * 1000:=gG _ ();unfold prs
 lia
theorem PM{i n lo hi:Int}:∀(k t:Nat) (x1:A),k+t=(hi-lo).toNat->∃x1',oK (jX lo hi) (jB 1) Ah (mq<|iD (iC 0)<|iD (iC 1)<|iO) k t [.int i,x1,.int n] S=.ok ((List.range' t k).map λq:Nat=>A.tup [.int i,.int<|lo+q],[.int i,x1',.int n]) S
 | 0,t,x1,_=>⟨x1,rfl⟩
 | k+1,t,x1,h=>by
  obtain⟨x1',e⟩:=PM (S:=S) (i:=i) (n:=n) (lo:=lo) (hi:=hi) k (t+1) (.int<|lo+t) ();refine⟨x1',?_⟩;unfold oK;have hg:(jX lo hi).get t S=some (.int<|lo+t):=aL ();dsimp[jj,bools,hg,zo<|show([_,_]:ad).length<=16777216 by simp,e,fG,bS]
theorem Io{n:Int}(h0:0<=n)(h1:n<=1000):∀(k t:Nat) (x0 x1:A),k+t=(n-1).toNat->nk (jX 1 n) (jB 0) Ah (pU (iI jo (iC 0)<|eC<|.int 1)<|iI jo (iC 2)<|eC<|.int 1) (jB 1) Ah (mq<|iD (iC 0)<|iD (iC 1)<|iO) k t [x0,x1,.int n] S=.ok ((List.range' t k).flatMap λq:Nat=>(i7 (1+q+1)<|n+1).map λj=>A.tup [.int<|1+q,.int j]) S
 | 0,t,x0,x1,_=>rfl
 | k+1,t,x0,x1,h=>by
  have hg:(jX 1 n).get t S=some (.int<|1+t):=aL ();obtain⟨x1',e⟩:=PM (S:=S) (i:=1+t) (n:=n) (lo:=1+t+1) (hi:=n+1) (jX (1+t+1)<|n+1).k 0 x1 rfl;have hr:((List.range' 0 (jX (1+(t:Int)+1)<|n+1).k).map λq:Nat=>A.tup [.int<|1+t,.int<|1+t+1+q])=(i7 (1+t+1)<|n+1).map λj=>A.tup [.int<|1+t,.int j]:=by
   unfold i7;rw[cH,dH];rfl
  rw[hr]at e;have e2:=Io (S:=S) h0 h1 k (t+1) (.int<|1+t) x1' ();have hs:pU (iI jo (iC 0)<|eC<|.int 1) (iI jo (iC 2)<|eC<|.int 1) [.int<|1+t,x1,.int n] S=.ok (jX (1+t+1)<|n+1) S:=
   um (S1:=S) (by dsimp[jj,bools]) (by dsimp[jj,bools]) (kJ () ()) (kJ () ())
  unfold nk;dsimp[jj,bools,hg,hs,e,e2,fG,fq]
def LN{S:iH}{n:Int}(h0:0<=n)(h1:n<=1000):j5 [.int n] S=.ok (.ref S.length) (S++[.lst<|prs n]):=by
 have hs:pU (eC<|.int 1) (iC 0) [.int n] S=.ok (jX 1 n) S:=um (S1:=S) (by dsimp[jj,bools]) (by dsimp[jj,bools]) (kJ () ())<|kJ () ();have e:=Io (S:=S) h0 h1 (jX 1 n).k 0 .unb .unb rfl;have hp:((List.range' 0 (jX 1 n).k).flatMap λq:Nat=>(i7 (1+q+1)<|n+1).map λj=>A.tup [.int<|1+q,.int j])=prs n:=by
  unfold prs i7;rw[List.flatMap_map,<- dH];rfl
 rw[hp]at e;unfold j5 oR pC Dg;dsimp[jj,bools,jD,Nat.reduceAdd,Nat.reduceSub,hs,e,kc<|GP h0 h1]
abbrev wg (xs:ae)(q:A):Bool:=match q with
 | .tup [.int i,.int j]=>decide (xs.getD (i-1).toNat 0>xs.getD (j-1).toNat 0)
 | _=>false
def UR{S:iH}{n:Nat}{xs:ae}(hlen:xs.length=n)(h2:n<=20) :
  ∃(P:Nat) (S':iH),kM [.tup<|xs.map .int] S=.ok (.ref P) S'/\iG S' P=some ((prs n).filter<|wg xs)/\oz S S'/\S.length<=P:=by
 have eq:=LN (S:=S) (n:=(n:Int)) () ();have hL:iG (S++[O.lst<|prs n]) S.length=some (prs n):=ji;obtain⟨S',g1,g2⟩:=vD (s:=nL S.length (prs n).length) (g:=AJ 2<|rR (jB 0)<|rR (jB 1)<|Ba) (t:=mS<|iI DK (iI pL (iC 2)<|iI aSub (iC 0)<|eC<|.int 1)<|iI pL (iC 2)<|iI aSub (iC 1)<|eC<|.int 1) (e:=mq<|iD (iC 0)<|iD (iC 1)<|iO)
  (P:=λS1=>S1=S++[O.lst<|prs n]) (T:=λτ'=>∃y z,τ'=[y,z,.tup<|xs.map .int])
  (λi=>(prs n).getD i .unb) (λi=>wg xs<|(prs n).getD i .unb) (λi=>(prs n).getD i .unb)
  (λi S1 hi k=>by
   have hi:i<(prs n).length:=hi;show(iG S1 S.length).bind _=_;rw[k,hL,gA,aI,aG hi];rfl)
  (λS1 k=>by
   show(match iG S1 S.length with
    | some ys=>decide (ys.length<=(prs n).length)
    | none=>false)=true
   rw[k,hL];simp)
  (λi τ' S1 hi ⟨y,z,hy⟩ k=>by
   have hi:i<(prs n).length:=hi;subst hy k;have hm:(prs n).getD i .unb∈prs n:=by rw[aI,aG hi];exact c_ hi
   obtain⟨a,c,q1,q2,q3,eac⟩:=OV.mp hm;rw[eac];have x1:nU (xs.map A.int) (a-1)=some (.int<|xs.getD (a-1).toNat 0):=VY () ();have x2:nU (xs.map A.int) (c-1)=some (.int<|xs.getD (c-1).toNat 0):=VY () ();refine⟨[.int a,.int c,.tup<|xs.map .int],S++[O.lst<|prs n],S++[O.lst<|prs n],by dsimp[jj,bools,j4<|show([_,_]:ad).length=2 from rfl],by dsimp[jj,bools,x1,x2];rfl,⟨_,_,rfl⟩,λ_=>rfl,λ_=>⟨_,by dsimp[jj,bools,zo<|show([_,_]:ad).length<=16777216 by simp],rfl⟩⟩)
  (prs n).length 0 (l_ [none,none,some 0] [.tup<|xs.map .int]) (S++[O.lst<|prs n]) rfl ⟨_,_,rfl⟩ rfl
 subst g2;have ef:=mP (prs n) (wg xs) (λq=>q) .unb;rw[dH,List.map_id']at ef;rw[ef]at g1;have ll:=GP (n:=(n:Int)) () ();refine⟨_,(S++[O.lst<|prs n])++[.lst<|(prs n).filter<|wg xs],?_,ji,Kp.refl.lay.lay,by rw[aX];lia⟩;have ec:lV [none,none,some 0] (oN<|eFn j5<|iD (je (f1 mz)<|iD (iC 0)<|iO)<|iO) (AJ 2<|rR (jB 0)<|rR (jB 1)<|Ba) (mS<|iI DK (iI pL (iC 2)<|iI aSub (iC 0)<|eC<|.int 1)<|iI pL (iC 2)<|iI aSub (iC 1)<|eC<|.int 1) (mq<|iD (iC 0)<|iD (iC 1)<|iO) [.tup<|xs.map .int] S=.ok (.ref (S++[O.lst<|prs n]).length) ((S++[O.lst<|prs n])++[.lst<|(prs n).filter<|wg xs]):=by
  unfold lV;rw[uE (S1:=S++[O.lst<|prs n]) (by dsimp[jj,bools,aK,hlen,eq]) hL,R.kX];show R.l6 (nO (nL S.length (prs n).length) _ _ _ (prs n).length 0 _ _) _=_;rw[g1,R.mG,kc<|bP (gp _ _) ll]
 unfold kM o6 oW;dsimp[jj,bools,jD,Nat.reduceAdd,Nat.reduceSub,ec]
def S0{n:Nat}{xs:ae}(hlen:xs.length=n)(h2:n<=20):∃S',kQ [.tup<|xs.map .int] S=.ok (.int (((prs n).filter<|wg xs).length:Int)) S'/\oz S S':=by
 obtain⟨P,S1,e1,g1,k1,_⟩:=UR (S:=S) hlen h2;unfold kQ wY v8;dsimp[jj,bools,jD,Nat.reduceAdd,Nat.reduceSub,e1,g1];exact⟨_,rfl,k1⟩
abbrev BJ (i hi:Int):ad:=(i7 (i+1) hi).map λj=>.tup [.int i,.int j]
def J8(n:Nat):prs n=(i7 1 (n:Int)).flatMap λi=>BJ i ((n:Int)+1):=rfl
open Bl
def Ie{xs:ae}{i:Nat}(h:i<=xs.length):(i7 ((i:Int)+1)<|(xs.length:Int)+1).map (λj=>xs.getD (j-1).toNat 0)=xs.drop i:=by
 apply bU;intro p;rw[bh,dX];by_cases c:i+p<xs.length
 ·have:(i7 ((i:Int)+1)<|(xs.length:Int)+1)[p]?=some ((i:Int)+1+p):=by
   unfold i7;rw[bh,cQ ()];rfl
  rw[this];show some (xs.getD ((i:Int)+1+p-1).toNat 0)=_;rw[show((i:Int)+1+p-1).toNat=i+p by lia,<- Iv.qc c]
 ·rw[bC<|by rw[j0];lia,bC ()];rfl
def NJ{xs:ae}{i:Nat}(h:i<xs.length):((BJ ((i:Int)+1)<|(xs.length:Int)+1).filter<|wg xs).length=(xs.drop<|i+1).countP λy=>decide (y<xs.getD i 0):=by
 rw[<- Ie (xs:=xs) (i:=i+1) (),List.countP_map,<- gP];unfold BJ;rw[List.countP_map,show(((i+1:Nat):Int))=(i:Int)+1 by lia];refine List.countP_congr λj _=>?_;show wg xs (.tup [.int<|(i:Int)+1,.int j])=true ↔ decide (xs.getD (j-1).toNat 0<xs.getD i 0)=true;show decide (xs.getD ((i:Int)+1-1).toNat 0>xs.getD (j-1).toNat 0)=true ↔ _;rw[show((i:Int)+1-1).toNat=i by lia]
theorem Bj{xs:ae}:∀(k i:Nat),i+k=xs.length->(((List.range' i k).flatMap λq:Nat=>BJ ((q:Int)+1)<|(xs.length:Int)+1).filter<|wg xs).length=Iv.inv (xs.drop i)
 | 0,i,h=>by rw[List.drop_of_length_le ()];rfl
 | k+1,i,h=>by
  have hi:i<xs.length:=()
  rw[fG,fq,List.filter_append,aX,NJ hi,Bj k (i+1) ()];have:xs.drop i=xs.getD i 0::xs.drop (i+1):=by
   rw[bV hi];congr 1;have:=Iv.qc hi;rw[aG hi]at this;exact aU this
  rw[this];rfl
def Ry{xs:ae}{n:Nat}(hl:xs.length=n)(h1:1<=n):((prs n).filter<|wg xs).length=Iv.inv xs:=by
 have h:=Bj (xs:=xs) n 0 ();rw[iy]at h;rw[<- h,J8,hl];have e:(i7 1 (n:Int)).flatMap (λi=>BJ i<|(n:Int)+1)=(List.range' 0 n).flatMap λq:Nat=>BJ ((q:Int)+1) ((n:Int)+1):=by
  obtain⟨m,rfl⟩:∃m,n=m+1:=⟨n-1,()⟩;rw[List.range'_concat,List.flatMap_append];have z:BJ (((0+1 * m:Nat):Int)+1) (((m+1:Nat):Int)+1)=[]:=by
   unfold BJ i7;rw[show(((m+1:Nat):Int)+1-((((0+1 * m:Nat):Int)+1)+1)).toNat=0 by lia];rfl
  rw[fq,z];unfold i7;rw[show(((m+1:Nat):Int)-1).toNat=m by lia,List.flatMap_map,dH];dsimp[List.flatMap_nil,cN];congr 1
  funext q
  rw[Int.add_comm]
 rw[e]
end K36
namespace K36
open PySem L2 Am
open Bl
def tM{xs ys:ae}(h:xs.length=ys.length):kB [.tup<|xs.map .int,.tup<|ys.map .int] S=.ok .non S:=by
 unfold kB qE qO;dsimp[jj,bools,jD,Nat.reduceAdd,Nat.reduceSub,aK,h,bK,b_]
def Mw{L:Nat}{ms:ae}(hL:iG S L=some (ms.map .int))(hp:∃m∈ms,0<m)(hms:ms.length<=1000):∃j:Nat,jq [.ref L] S=.ok (.int<|(j:Int)+1) S/\(∃m,ms[j]?=some m/\0<m)/\∀(k:Nat) (m:Int),k<j->ms[k]?=some m->m<=0:=by
 unfold jq ki ko;dsimp[jj,bools,jD,Nat.reduceAdd,Nat.reduceSub];refine uf (λτ S'=>S'=S/\∃p:Nat,p<ms.length/\τ=[.ref L,.int<|(p:Int)+1]/\∀(k:Nat) (m:Int),k<p->ms[k]?=some m->m<=0)
  (λτ _=>match τ with
   | [_,.int i]=>(ms.length+1)-i.toNat
   | _=>0)
  (λr=>∃j:Nat,RS.end (RS.seq r _)=.ok (.int<|(j:Int)+1) S/\(∃m,ms[j]?=some m/\0<m)/\∀(k:Nat) (m:Int),k<j->ms[k]?=some m->m<=0) ?_ 1000000 _ _ ⟨rfl,0,?_,rfl,λk m hk=>absurd hk<|d9 _⟩ ?_
 ·rintro τ S' ⟨rfl,p,hpl,rfl,hall⟩;have ha:nU (ms.map A.int) ((p:Int)+1-1)=some (.int ms[p]):=ud (k:=p) ()<|aG hpl;unfold lW lT;dsimp[jj,bools,hL,ha];by_cases h0:ms[p]<=0
  ·right;refine⟨S',by rw[aT h0],.inl ⟨_,_,rfl,⟨rfl,p+1,?_,dj (λz=>[A.ref L,A.int z]) (),λk m hk hm=>?_⟩,?_⟩⟩
   ·obtain⟨m,hm,hm0⟩:=hp;obtain⟨k,hk,e⟩:=gF.mp hm;have:¬k<=p:=λhkp=>by
     rcases lt_or_ge k p with h|h
     ·have:=hall k m h (by rw[aG hk,e])
      lia
     ·have:k=p:=()
      subst this
      lia
    lia
   ·rcases lt_or_ge k p with h|h
    ·exact hall k m h hm
    ·have:k=p:=()
     subst this;rw[aG hpl]at hm
     cases hm
     exact h0
   ·show ms.length+1-((p:Int)+1+1).toNat<ms.length+1-((p:Int)+1).toNat
    lia
  ·left;refine⟨S',by rw[aS h0],p,by dsimp[jj,bools],⟨ms[p],aG hpl,()⟩,hall⟩
 ·obtain⟨m,hm,_⟩:=hp;exact List.length_pos_of_mem hm
 ·show ms.length+1-(1:Int).toNat<1000000
  lia
def Ca{f:A->A->iH->R A}{d:Int}(hf:∀(m:Int) S,f (.int m) (.int 1) S=.ok (.int<|m+d) S){src:Ic}{L:Nat}{ms:ae}{x:Int}{Post:RS->Prop}(hx0:0<=x)(hx:x<=ms.length)
  (hsrc:src [a0,a1,.ref L,a3,a4] S=.ok (jX 0 x) S) (hL:iG S L=some (ms.map .int)) (fin:∀a4' S',iG S' L=some ((kR x.toNat d ms).map .int)->Kp (·=L) S S'->Post (.nx [a0,a1,.ref L,a3,a4'] S')) :
  Post (mh src (jB 4) (wW (iC 2) (iC 4) (eC<|.int 1) f) [a0,a1,.ref L,a3,a4] S):=by
 refine rC (lo:=0) (hi:=x) hsrc (λi τ S'=>∃a4',τ=[a0,a1,.ref L,a3,a4']/\iG S' L=some ((kR i d ms).map .int)/\Kp (·=L) S S') Post ⟨a4,rfl,hL,Kp.refl⟩ ?_ ?_
 ·rintro i τ S' hi ⟨a4',rfl,hL',hk⟩;left;have hi':i<ms.length:=()
  have e1:((kR i d ms).map A.int)[((0:Int)+(i:Int)).toNat]?=some (.int ms[i]):=by
   rw[show((0:Int)+(i:Int)).toNat=i by lia,bh,rj,aG hi'];simp
  have e2:yI (kR i d ms).length (0+(i:Int))=some i:=uK () (by rw[uR];exact hi');have lL:=qK hL';dsimp[jj,bools,hL',j4<|show(0:Int)<=0+(i:Int)by lia,e1,hf,aK,e2];refine⟨_,_,rfl,_,rfl,?_,hk.set<|.inl rfl⟩;rw[nv lL,<- wA i d ms ms[i] (aG hi'),gf]
 ·rintro τ S' ⟨a4',rfl,hL',hk⟩;exact fin a4' S' (by rw[Int.sub_zero]at hL';exact hL') hk
abbrev PV (xs ys:ae)(i j:Nat):Prop:=cnt (ys.take i) j<cnt (xs.take i) j/\(∀i' j':Nat,i'<i->1<=j'->j'<=xs.length->cnt (xs.take i') j'<=cnt (ys.take i') j')/\∀j':Nat,1<=j'->j'<j->cnt (xs.take i) j'<=cnt (ys.take i) j'
def Tu{xs ys:ae}{n:Nat}(px:xs.Perm<|i7 1<|(n:Int)+1)(py:ys.Perm<|i7 1<|(n:Int)+1)(h1:1<=n)(h2:n<=20):∃S',((yZ [.tup<|xs.map .int,.tup<|ys.map .int] S=.ok .non S'/\Below xs ys) \/
  ∃i j:Nat,yZ [.tup<|xs.map .int,.tup<|ys.map .int] S=.ok (.tup [.int i,.int j]) S'/\1<=i/\i<=n/\1<=j/\j<=n/\PV xs ys i j)/\oz S S':=by
 have lx:xs.length=n:=by have:=xQ px ();lia
 have ly:ys.length=n:=by have:=xQ py ();lia
 unfold yZ KN Ih;dsimp[jj,bools,jD,Nat.reduceAdd,Nat.reduceSub,tM (S:=S)<|lx.trans ly.symm,aK,lx];rw[Qw (k:=n) ji ()];dsimp[jj,bools];have hlen:(S++[O.lst [.int 0]]).length=S.length+1:=by simp
 rw[hlen];refine rC (lo:=0) (hi:=(n:Int)) (S1:=S++[O.lst [.int 0]]++[O.lst<|List.replicate n<|.int 0]) ?_
  (λt τ S'=>∃a3 a4,τ=[.tup<|xs.map .int,.tup<|ys.map .int,.ref<|S.length+1,a3,a4]/\iG S' (S.length+1)=some ((pX n xs ys t).map .int)/\oz S S'/\∀i' j':Nat,i'<=t->1<=j'->j'<=n->cnt (xs.take i') j'<=cnt (ys.take i') j')
  (λr=>∃S',((RS.end (RS.seq r _)=.ok .non S'/\Below xs ys)\/∃i j:Nat,RS.end (RS.seq r _)=.ok (.tup [.int i,.int j]) S'/\1<=i/\i<=n/\1<=j/\j<=n/\PV xs ys i j)/\oz S S') ⟨.unb,.unb,rfl,?_,Kp.refl.lay.lay,?_⟩ ?_ ?_
 ·refine pO ?_<|kJ () ();dsimp[jj,bools,aK,lx]
 ·rw[Ox,List.map_replicate,<- hlen];exact ji
 ·intro i' j' hi _ _;have:i'=0:=()
  subst this;simp[cnt]
 ·rintro t τ S' ht ⟨a3,a4,rfl,hL,hk,hok⟩;have ht':t<n:=()
  have hx:t<xs.length:=()
  have hy:t<ys.length:=()
  have mx:=tX px<|c_ hx;have my:=tX py<|c_ hy;have ax:nU (xs.map A.int) (0+(t:Int))=some (.int xs[t]):=ud (k:=t) ()<|aG hx;have ay:nU (ys.map A.int) (0+(t:Int))=some (.int ys[t]):=ud (k:=t) ()<|aG hy;unfold F5;dsimp[jj,bools];obtain⟨a4',S2,e2,hL2,hk2⟩:=Ca (f:=Hu) (d:=1) (ms:=pX n xs ys t) (x:=xs[t]) (src:=E4) (a0:=.tup<|xs.map .int) (a1:=.tup<|ys.map .int) (a3:=.int<|0+(t:Int)) (a4:=a4) (Post:=λr=>∃a4' S2,r=.nx [.tup<|xs.map .int,.tup<|ys.map .int,.ref<|S.length+1,.int<|0+(t:Int),a4'] S2/\iG S2 (S.length+1)=some ((kR xs[t].toNat 1 (pX n xs ys t)).map .int)/\Kp (·=S.length+1) S' S2) (λ_ _=>rfl) () (by rw[mL];lia)
   (pO (by dsimp[jj,bools,ax])<|kJ () ()) hL (λa4' S2 h1 h2=>⟨a4',S2,rfl,h1,h2⟩)
  obtain⟨a4'',S3,e3,hL3,hk3⟩:=Ca (f:=aSub) (d:=-1) (ms:=kR xs[t].toNat 1 (pX n xs ys t)) (x:=ys[t]) (src:=Gn) (a0:=.tup<|xs.map .int) (a1:=.tup<|ys.map .int) (a3:=.int<|0+(t:Int)) (a4:=a4') (Post:=λr=>∃a4'' S3,r=.nx [.tup<|xs.map .int,.tup<|ys.map .int,.ref<|S.length+1,.int<|0+(t:Int),a4''] S3/\iG S3 (S.length+1)=some ((kR ys[t].toNat (-1) (kR xs[t].toNat 1 (pX n xs ys t))).map .int)/\Kp (·=S.length+1) S2 S3) (λ_ _=>rfl) () (by rw[uR,mL];lia)
   (pO (by dsimp[jj,bools,ay])<|kJ () ()) hL2 (λa4' S2 h1 h2=>⟨a4',S2,rfl,h1,h2⟩)
  rw[CC hx hy]at hL3;have hk':oz S S3:=(hk.old hk2 λn hn _=>()).old hk3 λn hn _=>()
  obtain⟨m,em,m1,m2⟩:=J_ hL3 (by intro z;have:=dj List.length z;rw[mL]at this;simp at this;lia);dsimp[show F8=wW (iC 2) (iC 4) (eC<|.int 1) Hu from rfl,show FG=wW (iC 2) (iC 4) (eC<|.int 1) aSub from rfl,e2,e3,jj,bools,em];by_cases hm:0<m
  ·right;rw[aT hm];obtain⟨j,ej,⟨mj,hj1,hj2⟩,hj3⟩:=Mw hL3 ⟨m,m1,hm⟩ (by rw[mL];lia);dsimp[jj,bools,ej,zo<|show([_,_]:ad).length<=16777216 by simp];have hjn:j<n:=by
    have:=(aM.mp hj1).1
    rwa [mL]at this
   refine⟨_,_,rfl,S3,.inr ⟨t+1,j+1,?_,(),(),(),(),?_,?_,?_⟩,hk'⟩
   ·have e5:(0:Int)+(t:Int)+1=((t+1:Nat):Int):=()
    have e6:(j:Int)+1=((j+1:Nat):Int):=()
    rw[e5,e6]
   ·rw[pN hjn]at hj1
    cases hj1
    have:((j+1:Nat):Int)=(j:Int)+1:=()
    rw[this]
    lia
   ·intro i' j' hi' h1' h2';exact hok i' j' () h1' ()
   ·intro j' h1' h2';have:=hj3 (j'-1) _ ()<|pN ();rw[show(((j'-1:Nat):Int)+1)=(j':Int)by lia]at this
    lia
  ·left;rw[aS hm];dsimp[jj,bools];refine⟨_,_,rfl,_,_,rfl,hL3,hk',λi' j' hi' h1' h2'=>?_⟩;by_cases hi:i'<=t
   ·exact hok i' j' hi h1' h2'
   ·have:i'=t+1:=()
    subst this;have:=m2 _<|aY<|pN (n:=n) (xs:=xs) (ys:=ys) (t:=t+1) (j:=j'-1) ();rw[show(((j'-1:Nat):Int)+1)=(j':Int)by lia]at this
    lia
 ·rintro τ S' ⟨a3,a4,rfl,hL,hk,hok⟩;refine⟨S',.inl ⟨by dsimp[jj,bools],?_⟩,hk⟩;refine(Hj px py).mp λi q hi hq=>?_;have:=hok (i+1) (q+1) () () ();exact this
def L8{xs ys:ae}{n:Nat}(px:xs.Perm<|i7 1<|(n:Int)+1)(py:ys.Perm<|i7 1<|(n:Int)+1)(h1:1<=n)(h2:n<=20):∃(k:Bool) (S':iH),lz [.tup<|xs.map .int,.tup<|ys.map .int] S=.ok (.bl k) S'/\(k=true ↔ Below xs ys)/\oz S S':=by
 obtain⟨S',h|⟨i,j,e,i1,i2,j1,j2,h,_⟩,hk⟩:=Tu (S:=S) px py h1 h2
 ·refine⟨true,S',?_,⟨λ_=>h.2,λ_=>rfl⟩,hk⟩;unfold lz p6 qd;dsimp[jj,bools,jD,Nat.reduceAdd,Nat.reduceSub,h.1]
 ·refine⟨false,S',?_,⟨λz=>absurd z bH,λz=>?_⟩,hk⟩
  ·unfold lz p6 qd;dsimp[jj,bools,jD,Nat.reduceAdd,Nat.reduceSub,e]
  ·have:=z i j
   lia
theorem xK:∀(l:ae) (j:Nat) (h:j<l.length),(l[j]::l.eraseIdx j).Perm l
 | x::l,0,_=>g4 _
 | x::l,j+1,h=>(List.Perm.swap x _ _).trans<|List.Perm.cons x<|xK l j<|gc h
def G_{ls fs:ae}{j:Nat}(h:j<ls.length):((fs++[ls[j]])++ls.eraseIdx j).Perm (fs++ls):=by
 rw[bG];refine List.Perm.append_left fs ?_
 skip
 exact xK ls j h
def LX{d:Int}{n:Nat}(h0:0<=d)(h:d.toNat<n):seqIndex? d n=some d.toNat:=by
 unfold seqIndex?;simp
 lia
theorem uD{α β:Type}(f:α->β):∀(l:List α) (k:Nat),(l.map f).eraseIdx k=(l.eraseIdx k).map f
 | [],_=>rfl
 | _::_,0=>rfl
 | x::l,k+1=>dj (f x::·)<|uD f l k
def Ir{n:Int}(h:yR S b)(h1:1<=n)(h2:n<=20):∃(xs:ae) (S':iH),lK [.ref b,.int n] S=.ok (.tup<|xs.map .int) S'/\xs.Perm (i7 1<|n+1)/\yR S' b/\Kp (·=b) S S':=by
 have hbS:b<S.length:=by obtain⟨_,_,e,_⟩:=h;exact qK e
 unfold lK qG qC;dsimp[jj,bools,jD,Nat.reduceAdd,Nat.reduceSub,G6<|Jb (show(-1000000:Int)<=1 by decide) ⋯ (show -1000000<=n+1 by lia) () (),aX];have key:=uf (t:=oZ) (c:=oO)
  (λτ S1=>∃(ls fs:ae),τ=[.ref b,.int n,.ref S.length,.ref<|S.length+1]/\iG S1 S.length=some (ls.map .int)/\iG S1 (S.length+1)=some (fs.map .int)/\(fs++ls).Perm (i7 1<|n+1)/\yR S1 b/\Kp (·=b) S S1)
  (λτ S1=>((iG S1 S.length).getD []).length)
  (λr=>∃(xs:ae) (S':iH),RS.end (RS.seq r<|jF<|je (f1 qY)<|iD (iC 3) iO)=.ok (.tup<|xs.map .int) S'/\xs.Perm (i7 1<|n+1)/\yR S' b/\Kp (·=b) S S') ?_ 1000000
 ·refine key _ _ ⟨i7 1<|n+1,[],rfl,rm ji,?_,g4 _,h.kp (c:=λ_=>False) (Kp.refl.lay.lay) λz=>z,Kp.refl.lay.lay⟩ ?_
  ·have:iG (S++[.lst<|(i7 1<|n+1).map .int]++[.lst []]) (S++[O.lst<|(i7 1<|n+1).map .int]).length=some []:=ji;simpa using this
  ·rw[rm ji,eL,aK,j0]
   lia
 ·rintro τ S1 ⟨ls,fs,rfl,hL,hF,hp,hb,hk⟩;have hlen:fs.length+ls.length<=20:=by
   have:=hp.length_eq;rw[aX,j0]at this
   lia
  unfold oZ oO;dsimp[jj,bools,hL,aK];by_cases h0:ls=[]
  ·subst h0;left;exact⟨S1,rfl,fs,S1,by dsimp[jj,bools,hF],by simpa using hp,hb,hk⟩
  ·right;have hpos:0<ls.length:=List.length_pos_iff.mpr h0;refine⟨S1,by rw[aT<|show(0:Int)<(ls.length:Int)by lia],.inl ?_⟩;obtain⟨d,S2,e2,d0,d1,hb2,hk2⟩:=digit (m:=(ls.length:Int)) hb () ();have hL2:=hk2.lst S.length _ () hL;have hF2:=hk2.lst (S.length+1) _ () hF;have hd:d.toNat<ls.length:=()
   have lF:=qK hF2;have lL:=qK hL2;have hsq:seqIndex? d ls.length=some d.toNat:=LX d0 hd;have hF3:iG (S2.set S.length<|.lst<|(ls.map A.int).eraseIdx d.toNat) (S.length+1)=some (fs.map .int):=by rw[nJ ()];exact hF2
   dsimp[jj,bools,hL,hF,aK,e2,hL2,Dw,j4<|show -(2 ^ 63:Int)<=d/\d<2 ^ 63 by lia,hsq,bh,aG hd,dO,hF3,A7<|show fs.length<16777216 by lia];refine⟨_,_,rfl,⟨ls.eraseIdx d.toNat,fs++[ls[d.toNat]],rfl,?_,?_,(G_ hd).trans hp,?_,?_⟩,?_⟩
   ·rw[nJ (),nv lL,uD]
   ·rw[nv<|by rw[bO];exact lF,cj];rfl
   ·obtain⟨g,st,e,q⟩:=hb2;exact⟨g,st,by rw[nJ (),nJ ()];exact e,q⟩
   ·exact((hk.trans hk2).set<|.inr<|aQ _).set (.inr ())
   ·rw[nJ (),nv lL,eL,eL,uD,aK,aK,List.length_eraseIdx_of_lt hd];lia
def B3{xs:ae}{n:Nat}(px:xs.Perm<|i7 1<|(n:Int)+1):xs.length=n:=by have:=xQ px ();lia
def DM{xs:ae}{n:Int}(px:xs.Perm<|i7 1<|n+1):xs.Nodup:=px.nodup_iff.mpr<|kh _ _
def FT{xs:ae}{n:Nat}(px:xs.Perm<|i7 1<|(n:Int)+1)(h2:n<=1000):∃(ys:ae) (S':iH),uI [.tup<|xs.map .int] S=.ok (.tup<|ys.map .int) S'/\Bl.nF xs ys/\ys.Perm (i7 1<|(n:Int)+1)/\oz S S':=by
 have lx:=B3 px;unfold uI DH CU;dsimp[jj,bools,jD,Nat.reduceAdd,Nat.reduceSub,aK,lx];rw[Qw (k:=n) ji ()];dsimp[jj,bools];have hlen:(S++[O.lst [.int 0]]).length=S.length+1:=by simp
 rw[hlen];refine S_ (xs:=xs.map .int) (S1:=S++[O.lst [.int 0]]++[O.lst<|List.replicate n<|.int 0]) (Rj<|by dsimp[jj,bools])
  (λt τ S'=>∃(a2 a3:A) (ps:ae),τ=[.tup<|xs.map .int,.ref<|S.length+1,a2,a3]/\iG S' (S.length+1)=some (ps.map .int)/\ps.length=n/\(∀(p:Nat) (h:p<xs.length),p<t->ps[(xs[p]-1).toNat]?=some ((p:Int)+1))/\oz S S')
  (λr=>∃(ys:ae) (S':iH),RS.end (RS.seq r _)=.ok (.tup<|ys.map .int) S'/\Bl.nF xs ys/\ys.Perm (i7 1<|(n:Int)+1)/\oz S S') ⟨.unb,.unb,List.replicate n 0,rfl,?_,by simp,λ_ _ h=>absurd h<|d9 _,Kp.refl.lay.lay⟩ ?_ ?_
 ·rw[List.map_replicate,<- hlen];exact ji
 ·rintro t x τ S' hx ⟨a2,a3,ps,rfl,hL,hl,hps,hk⟩;rw[bh]at hx;obtain⟨v,hv,rfl⟩:=bu.mp hx;obtain⟨ht,ev⟩:=aM.mp hv;have mv:=tX px<|aY hv;refine⟨_,_,by dsimp[jj,bools,j4<|show([_,_]:ad).length=2 from rfl];rfl,.inl ?_⟩;have hi:yI ps.length (v-1)=some (v-1).toNat:=uK () ();have lL:=qK hL;unfold Bs;dsimp[jj,bools,hL,aK,hi];refine⟨_,_,rfl,_,_,ps.set (v-1).toNat<|(t:Int)+1,rfl,?_,by rw[bO];exact hl,λp hp hpt=>?_,hk.set<|.inr ()⟩
  ·rw[nv lL,gf]
  ·by_cases e:p=t
   ·subst e;rw[ev,bE ()]
   ·have ne:(xs[p]-1).toNat≠(v-1).toNat:=λz=>by
     have mp:=tX px<|c_ hp;have:xs[p]=xs[t]:=by rw[ev];lia
     exact e<|(c8<|DM px).mp this
    rw[bL<|dc ne];exact hps p hp ()
 ·rintro τ S' ⟨a2,a3,ps,rfl,hL,hl,hps,hk⟩;rw[aK]at hps;refine⟨ps,S',by dsimp[jj,bools,hL],⟨(),λp h=>hps p h h⟩,?_,hk⟩;refine(qJ (kh _ _) (λv hv=>?_)<|by rw[j0];lia).symm;have:=jz.mp hv;have hp:(v-1).toNat<xs.length:=()
  have:=aY (hps (v-1).toNat hp hp)
  rwa [show(((v-1).toNat:Nat):Int)+1=v by lia]at this
def We(xs:ad)(j:Nat)(h:j<=xs.length):uC xs none (some (j:Int))=xs.take j:=by
 unfold uC;rw[HT.p7,HT.B9,iy,eW (),Nat.sub_zero]
def Yr{us:ae}{t:Nat}(h:t<us.length):CI (.tup<|us.map .int) none (some (t:Int)) S=.ok (.tup<|(us.take t).map .int) S:=by
 have hg:¬(HT.kZ (us.map A.int).length 0 none=0/\HT.kZ (us.map A.int).length (us.map A.int).length (some (t:Int))=(us.map A.int).length):=by
  rw[HT.p7,aK]
  lia
 have hs:CI (.tup<|us.map .int) none (some (t:Int)) S=.ok (.tup<|uC (us.map .int) none<|some (t:Int)) S:=j4 hg;rw[hs,We _ t<|by rw[aK];lia,map_take]
def Yl{us:ae}{t:Nat}(h0:1<=t)(h:t<=us.length):CI (.tup<|us.map .int) (some (t:Int)) none S=.ok (.tup<|(us.drop t).map .int) S:=by
 have hg:¬(HT.kZ (us.map A.int).length 0 (some (t:Int))=0/\HT.kZ (us.map A.int).length (us.map A.int).length none=(us.map A.int).length):=by
  rw[HT.p7,aK]
  lia
 have hs:CI (.tup<|us.map .int) (some (t:Int)) none S=.ok (.tup<|uC (us.map .int) (some (t:Int)) none) S:=j4 hg;rw[hs];congr 2;unfold uC;rw[HT.p7,HT.B9,aK,eW (),cU<|by simp,map_drop]
end K36
namespace K36
open PySem L2 Am
open Bl
open Po (Pl Ok)
open Hz (IsR)
open Fw (rg)
def Cy{N k:Nat}(h1:1<=k)(h2:k<N):decide ((k:Int)∈fl o N)=Su.j9 o k:=by
 unfold fl Su.j9;rw[fK,dN,jz,fj,show((k:Int)-1).toNat=k-1 by lia,d_];constructor
 ·exact λh=>h.2
 ·exact λh=>⟨⟨(),()⟩,h⟩
def m9{N:Nat}{o:ae}(h:o.Perm<|rg N):o.length=N:=by rw[h.length_eq,Wd.iP]
def KG{k:kg}{v:A}:∀{kvs:List<|kg×A},lX (qH kvs k v) k=some v:=by
 intro kvs;unfold qH;split
 ·rename_i h;revert h
  induction kvs with
  | nil=>intro h;exact absurd h (show ¬(none:Option A).isSome=true by simp)
  | cons p r ih=>
   intro h;rw[bS];by_cases c:p.1=k
   ·rw[aL c,rH (p:=(p.1,v)) c]
   ·rw[aJ c,pY c];rw[pY c]at h;exact ih h
 ·rename_i h
  induction kvs with
  | nil=>exact rH rfl
  | cons p r ih=>
   by_cases c:p.1=k
   ·rw[rH c]at h;exact absurd rfl h
   ·rw[gz,pY c];rw[pY c]at h;exact ih h
def Iz{k:kg}{v:A}{kvs:List<|kg×A}{p:kg×A}(h:p∈qH kvs k v):p∈kvs\/p=(k,v):=by
 unfold qH at h;split at h
 ·obtain⟨q,hq,rfl⟩:=bW.mp h;by_cases c:q.1=k
  ·rw[aL c,c];exact .inr rfl
  ·rw[aJ c];exact .inl hq
 ·rcases bF.mp h with z|z
  ·exact .inl z
  ·exact .inr<|bI.mp z
def Ku{k:kg}{v:A}{kvs:List<|kg×A}:(qH kvs k v).length<=kvs.length+1:=by
 unfold qH;split
 ·rw[aK];lia
 ·rw[aX];exact aQ _
def JX{k:kg}{v:A}{kvs:List<|kg×A}(h:lX kvs k=some v):(k,v)∈kvs:=by
 unfold lX at h;obtain⟨p,hp,e⟩:=bu.mp h;have h1:=List.mem_of_find?_eq_some hp;have h2:=List.find?_some hp;have h2:=cB h2;rw[<- h2,<- e];exact h1
def DS{n:Nat}{d:List<|kg×A}(h:mC S n=some d)(h':iG S m=some xs):n≠m:=λz=>by
 subst z;have e1:=nE h;rw[iU h']at e1
 cases e1
def Kp.qo{b:Nat->Prop}(h:Kp b S S')(n:Nat)(d:List<|kg×A)(hb:¬b n)(e:mC S n=some d):mC S' n=some d:=wX<|h.obj n _ hb<|nE e
def z9(x w:ae):yh (.tup [.tup<|x.map .int,.tup<|w.map .int])=some (x,w):=by
 unfold yh;dsimp only;rw[ints_map,ints_map];rfl
def SX{d:Nat}{x w:ae}:NC true (.tup [.tup<|x.map .int,.tup<|w.map .int]) (.ref d) S=opt (mC S d) λkvs=>.ok (.bl<|!(lX kvs (x,w)).isSome) S:=by
 show opt (mC S d) (λkvs=>opt (yh _) _)=_;rw[z9];rfl
def Ib{d:Nat}{x w:ae}:HA (.ref d) (.tup [.tup<|x.map .int,.tup<|w.map .int]) S=opt (mC S d) λkvs=>opt (lX kvs (x,w)) λv=>.ok v S:=by
 show opt (mC S d) (λkvs=>opt (yh _) _)=_;rw[z9];rfl
def Nc{d:Nat}{S:iH}{x w:ae}{v:A}:BV (.ref d) (.tup [.tup<|x.map .int,.tup<|w.map .int]) v S=opt (mC S d) λkvs=>gd (kvs.length<sizeLine) (.ok Unit.unit<|S.set d<|.qo<|qH kvs (x,w) v):=by
 show opt (mC S d) (λkvs=>opt (yh _) _)=_;rw[z9];rfl
def rL{co ci:Ex}{a:A}:Im co ci a τ S=(co τ S).bind λo S1=>(ci τ S1).bind λi S2=>(BV o i a S2).bind λ_ S3=>.ok τ S3:=rfl
structure Kn (n:Nat)(S:iH)(d:Nat)(kvs:List (kg×A)):Prop where
 dd:mC S d=some kvs
 at_:∀p∈kvs,∃(r:Nat) (l:Pl),p.2=.ref r/\iG S r=some (Po.pl l)/\IsR n p.1.1 p.1.2 l
def Kn.kp{n d:Nat}(h:Kn n S d kvs)(k:oz S S'):Kn n S' d kvs:=⟨Kp.qo k _ _ (λz=>z) h.dd,λp hp=>by obtain⟨r,l,a,b,c⟩:=h.at_ p hp;exact⟨r,l,a,k.lst _ _ (λz=>z) b,c⟩⟩
def Kn.put{n d r:Nat}{kvs:List<|kg×A}{x w:ae}(h:Kn n S d kvs)(hl:kvs.length<16777216)(hr:iG S r=some (Po.pl l))(hi:IsR n x w l) :
  ∃(S':iH) (kvs':List<|kg×A),BV (.ref d) (.tup [.tup<|x.map .int,.tup<|w.map .int]) (.ref r) S=.ok Unit.unit S'/\HA (.ref d) (.tup [.tup<|x.map .int,.tup<|w.map .int]) S'=.ok (.ref r) S'/\Kn n S' d kvs'/\iG S' r=some (Po.pl l)/\kvs'.length<=kvs.length+1/\Kp (·=d) S S':=by
 have k:Kp (·=d) S (S.set d<|.qo<|qH kvs (x,w)<|.ref r):=Kp.refl.LY<|.inl rfl;have dd:mC (S.set d<|.qo<|qH kvs (x,w)<|.ref r) d=some (qH kvs (x,w)<|.ref r):=wX<|bE<|wD<|nE h.dd;have kl:∀(q:Nat) (xs:ad),iG S q=some xs->iG (S.set d<|.qo<|qH kvs (x,w)<|.ref r) q=some xs:=λq xs hq=>k.lst _ _ (λz=>DS h.dd hq z.symm) hq;refine⟨_,qH kvs (x,w)<|.ref r,?_,?_,⟨dd,λp hp=>?_⟩,kl _ _ hr,Ku,k⟩
 ·rw[Nc,h.dd,jL];exact A7 hl
 ·rw[Ib,dd,jL,KG,jL]
 ·rcases Iz hp with z|z
  ·obtain⟨q,m,a,b,c⟩:=h.at_ p z;exact⟨q,m,a,kl _ _ b,c⟩
  ·rw[z];exact⟨r,l,rfl,kl _ _ hr,hi⟩
def Nh:∀p∈[((1:Int),(1:Int))],p.2.natAbs<big:=λp hp=>by
 rw[bI.mp hp,zL];exact show 1<2 ^ 4096 by decide +kernel
def OS{n:Nat}{x w:ae}{l:Pl}(h:IsR n x w l)(px:x.Perm<|rg n)(pw:w.Perm<|rg n)(hi:Iv.inv w<=100):∀p∈l,p.2.natAbs<big:=λp hp=>by
 obtain⟨_,_,a,b,_⟩:=h.keys px pw hp;have:(2:Nat) ^ Iv.inv w<=2 ^ 100:=Nat.pow_le_pow_right ⋯ hi;have b1:(2:Nat) ^ 100<big:=by rw[zL];exact Nat.pow_lt_pow_right ⋯ ⋯
 lia
def Px{x w:ae}:qm false (.tup<|x.map .int) (.tup<|w.map .int) S=.ok (.bl<|decide<|x=w) S:=DC (by
 show qB (tV S 11) (x.map .int) (w.map .int)=_;exact yH x w)
def wL{α:Type}{x:R α}:gd (2<=sizeLine) x=x:=j4 ⋯
theorem xP{n d:Nat}(h1:1<=n)(h2:n<=8):∀(f:Nat) {S:iH}{kvs:List<|kg×A}{x w:ae},Iv.inv w<f->f<=22->x.Perm (rg n)->w.Perm (rg n)->Kn n S d kvs->kvs.length+2 ^ (Iv.inv w+1)<=8388608 ->
  ∃(r:Nat) (S':iH) (kvs':List<|kg×A) (l:Pl),kK f [.tup<|x.map .int,.tup<|w.map .int,.ref d] S=.ok (.ref r) S'/\Kn n S' d kvs'/\iG S' r=some (Po.pl l)/\IsR n x w l/\kvs'.length+1<=kvs.length+2 ^ (Iv.inv w+1)/\Kp (·=d) S S'
 | 0,S,kvs,x,w,hf,_,_,_,_,_=>absurd hf (d9 _)
 | f+1,S,kvs,x,w,hf,hf2,px,pw,hK,hb=>by
  have lx:=m9 px;have lw:=m9 pw;show ∃(r:Nat) (S':iH) (kvs':List<|kg×A) (l:Pl),jV l9 (lR<|kK f) [.tup<|x.map .int,.tup<|w.map .int,.ref d] S=.ok (.ref r) S'/\_;have two:2<=2 ^ (Iv.inv w+1):=by rw[pow_succ];have:=Nat.one_le_two_pow (n:=Iv.inv w);lia
  have i1:NC true (.tup [.tup<|x.map .int,.tup<|w.map .int]) (.ref d) S=.ok (.bl<|!(lX kvs (x,w)).isSome) S:=by rw[SX,hK.dd,jL]
  unfold lR l9
  cases hL:lX kvs (x,w)with
  | some v=>
   obtain⟨r,l,rfl,b,c⟩:=hK.at_ _<|JX hL;have x1:HA (.ref d) (.tup [.tup<|x.map .int,.tup<|w.map .int]) S=.ok (.ref r) S:=by rw[Ib,hK.dd,jL,hL,jL]
   rw[hL]at i1;refine⟨r,S,kvs,l,?_,hK,b,c,(),Kp.refl⟩;dsimp[jj,mU,bools,jD,Nat.reduceAdd,Nat.reduceSub,wL,i1,isSome_some,b_,x1]
  | none=>
   rw[hL]at i1;by_cases e:x=w
   ·subst e;have k1:oz S (S++[O.lst<|Po.pl [(0,1)]]):=Kp.refl.lay;obtain⟨S',kvs',e1,x1,n1,l1,b1,kp⟩:=(hK.kp k1).put (x:=x) (w:=x) (r:=S.length) () ji<|Hz.Ig px;refine⟨S.length,S',kvs',_,?_,n1,l1,Hz.Ig px,(),k1.of0.trans kp⟩;have eq:=Px (S:=S) (x:=x) (w:=x);rw[aT rfl]at eq;rw[show Po.pl [((0:Int),(1:Int))]=[A.tup [.int 0,.int 1]]from rfl]at e1;dsimp[jj,mU,bools,jD,Nat.reduceAdd,Nat.reduceSub,wL,i1,fS,dI,eq,rL,e1,x1]
   ·have eq:=Px (S:=S) (x:=x) (w:=w);rw[aS e]at eq;obtain⟨k,S1,e1,hk,k1⟩:=L8 (S:=S) px pw h1 ();have i2:=i1;by_cases hbl:Below x w
    ·rw[hk.mpr hbl]at e1;have fo:=AX (S:=S1) (xs:=w) (n:=n) lw ();obtain⟨c,t,ft⟩:∃c t,fl w n=c::t:=by
      cases hfl:fl w n with
      | cons c t=>exact⟨c,t,rfl⟩
      | nil=>
       exfalso;have wr:w=rg n:=Fw.Bq pw λk hk=>by
        have:=Cy (o:=w) (N:=n) (k:=k) hk.1 (by rw[<- lw];exact hk.2.1);rw[hfl]at this;have f1:Su.j9 w k=true:=aT hk.2.2;rw[f1]at this;exact absurd (cB this)<|by simp
       subst wr;obtain⟨js,hj⟩:=Fw.AR _ x<|aQ _;exact e<|Below.antisymm px.length_eq hbl<|Gr.t8 js px hj
     obtain⟨k,rfl,c1,c2,c3⟩:∃k:Nat,c=(k:Int)/\1<=k/\k<n/\Su.j9 w k=true:=by
      have hc:c∈fl w n:=by rw[ft];exact aN ..
      have hr:=jz.mp (dN.mp hc).1;have ek:c=(c.toNat:Int):=()
      refine⟨c.toNat,ek,(),(),?_⟩;rw[<- Cy (N:=n) () (),<- ek];exact aT hc
     obtain⟨S2,hS2⟩:∃S2,S2=S1++[O.lst<|(fl w n).map .int]:=⟨_,rfl⟩;have k2:oz S1 S2:=by rw[hS2];exact Kp.refl.lay
     have l2:iG S2 S1.length=some (A.int k::t.map .int):=by rw[hS2,ji,ft];rfl
     rw[<- hS2]at fo;have hd:=Fw.o5 c1 (show k<w.length by lia)<|cB c3;obtain⟨S3,x3,k3⟩:=Ew (S:=S2) (xs:=w) (k:=k) c1 () ();obtain⟨S4,x4,k4⟩:=Ew (S:=S3) (xs:=x) (k:=k) c1 () ();have k04:oz S S4:=((k1.trans k2).trans k3).trans k4;have pe:=He.jW px c1 c2;have pw':=He.jW pw c1 c2;have pw2:2 ^ (Iv.inv w+1)=2 ^ (Iv.inv (Wd.ex w k)+1)+2 ^ (Iv.inv (Wd.ex w k)+1):=by rw[hd,pow_succ 2<|Iv.inv (Wd.ex w k)+1];lia
     obtain⟨r5,S5,kv5,l5,x5,n5,a5,q5,b5,k5⟩:=xP h1 h2 f (S:=S4) (kvs:=kvs) (x:=Wd.ex x k) (w:=Wd.ex w k) () () pe pw' (hK.kp k04) ();have fo6:=AX (S:=S5) (xs:=x) (n:=n) lx ();obtain⟨S6,hS6⟩:∃S6,S6=S5++[O.lst<|(fl x n).map .int]:=⟨_,rfl⟩;have k6:oz S5 S6:=by rw[hS6];exact Kp.refl.lay
     have in6:Wf false (.int k) (.ref S5.length) S6=.ok (.bl<|Su.j9 x k) S6:=by
      show opt (iG _ _) _=_;rw[hS6,ji,jL,FZ,Cy c1 c2];rfl
     rw[<- hS6]at fo6;have k06:Kp (·=d) S S6:=(k04.of0.trans k5).trans k6.of0
     cases hx:Su.j9 x k with
     | true=>
      rw[hx]at in6;have iq:=Hz.Vp px pw c1 c2 c3 hx q5;obtain⟨S',kvs',e7,x7,n7,l7,b7,kp⟩:=(n5.kp k6).put (x:=x) (w:=w) () (k6.lst _ _ (λz=>z) a5) iq;refine⟨r5,S',kvs',l5,?_,n7,l7,iq,(),k06.trans kp⟩;dsimp[jj,mU,bools,jD,Nat.reduceAdd,Nat.reduceSub,wL,i1,fS,dI,b_,eq,e1,rL];unfold jt;dsimp[jj,mU,bools,jD,Nat.reduceAdd,Nat.reduceSub,wL,fo,l2,FH,x3,x4,x5,fo6,in6,rL,e7,x7]
     | false=>
      rw[hx]at in6;obtain⟨S7,hS7⟩:∃S7,S7=S6++[O.lst<|Po.pl [(1,1)]]:=⟨_,rfl⟩;have k7:oz S6 S7:=by rw[hS7];exact Kp.refl.lay
      have l7:iG S7 S6.length=some (Po.pl [(1,1)]):=by rw[hS7];exact ji
      have k67:=k6.trans k7;obtain⟨r8,S8,kv8,l8,x8,n8,a8,q8,b8,k8⟩:=xP h1 h2 f (S:=S7) (kvs:=kv5) (x:=x) (w:=Wd.ex w k) () () px pw' (n5.kp k67) ();have len8:=q8.len px pw';have len5:=q5.len pe pw';have hd7:=(n5.kp k67).dd;have l7':iG S8 S6.length=some (Po.pl [(1,1)]):=k8.lst _ _ (λz=>DS hd7 l7 z.symm) l7;have a5':iG S8 r5=some (Po.pl l5):=by
       have q:=k67.lst _ _ (λz=>z) a5;exact k8.lst _ _ (λz=>DS hd7 q z.symm) q
      obtain⟨L9,S9,x9,a9,_,k9⟩:=KZ l7' a8 (by show 1 * l8.length<_;lia) Nh<|OS q8 px pw' ();have tl:(Po.times [(1,1)] l8).length<=l8.length:=bP (Su.HG _ _)<|Nat.le_of_eq<|Nat.one_mul _;obtain⟨La,Sa,xa,aa,_,ka⟩:=NG (k9.lst _ _ (λz=>z) a5') a9 q5.ok ();have k9a:=k9.trans ka;have iq:=Hz.Ua px pw c1 c2 c3 hx q5 q8;obtain⟨S',kvs',e7,x7,n7,l7,b7,kp⟩:=(n8.kp k9a).put (x:=x) (w:=w) () aa iq;refine⟨La,S',kvs',_,?_,n7,l7,iq,(),(((k06.trans k7.of0).trans k8).trans k9a.of0).trans kp⟩;dsimp[jj,mU,bools,jD,Nat.reduceAdd,Nat.reduceSub,wL,i1,fS,dI,b_,eq,e1,rL];unfold jt;rw[show Po.pl [((1:Int),(1:Int))]=[A.tup [.int 1,.int 1]]from rfl]at hS7;dsimp[jj,mU,bools,jD,Nat.reduceAdd,Nat.reduceSub,wL,fo,l2,FH,x3,x4,x5,fo6,in6];rw[<- hS7];dsimp[jj,mU,bools,x8,x9,xa,rL,e7,x7]
    ·have kf:k=false:=by cases k with|false=>rfl|true=>exact absurd (hk.mp rfl) hbl
     rw[kf]at e1;have k2:oz S (S1++[O.lst []]):=k1.lay;obtain⟨S',kvs',e2,x2,n2,l2,b2,kp⟩:=(hK.kp k2).put (x:=x) (w:=w) (r:=S1.length) (l:=[]) () ji<|Hz.C8 px pw hbl;refine⟨S1.length,S',kvs',_,?_,n2,l2,Hz.C8 px pw hbl,(),k2.of0.trans kp⟩;dsimp[jj,mU,bools,jD,Nat.reduceAdd,Nat.reduceSub,wL,i1,fS,dI,b_,eq,e1,rL,e2,x2]
def vR{n:Nat}{x:ae}(h1:1<=n)(h2:n<=8)(px:x.Perm<|rg n):∃S',kQ [.tup<|x.map .int] S=.ok (.int (Iv.inv x:Int)) S'/\oz S S':=by
 obtain⟨S',e,k⟩:=S0 (S:=S) (n:=n) (m9 px) ();rw[Ry (m9 px) h1]at e;exact⟨S',e,k⟩
def F_{n:Nat}{x w:ae}(h1:1<=n)(h2:n<=8)(px:x.Perm<|rg n)(pw:w.Perm<|rg n)(hi:Iv.inv w<=21)(hd:n<=5\/(Iv.inv w:Int)-Iv.inv x<=6):∃(r:Nat) (S':iH) (l:Pl),mH [.tup<|x.map .int,.tup<|w.map .int] S=.ok (.ref r) S'/\iG S' r=some (Po.pl l)/\IsR n x w l/\oz S S':=by
 have lx:=m9 px;have lw:=m9 pw;have np:=tM (S:=S) (xs:=x) (ys:=w) ();obtain⟨S1,e1,k1⟩:∃S1,lI [.tup<|x.map .int,.tup<|w.map .int] S=.ok .non S1/\oz S S1:=by
  by_cases c:n<=5
  ·refine⟨S,?_,Kp.refl⟩;have:jP [.tup<|x.map .int,.tup<|w.map .int,.int 5,.int 8,.int 6] S=.ok .non S:=by
    unfold jP mV mT;dsimp[jj,mU,bools,jD,Nat.reduceAdd,Nat.reduceSub,aK,lx,aT<|show(n:Int)<=5 by lia]
   unfold lI om oA;dsimp[jj,mU,bools,jD,Nat.reduceAdd,Nat.reduceSub,np,this]
  ·obtain⟨S1,a1,k1⟩:=vR (S:=S) h1 h2 pw;obtain⟨S2,a2,k2⟩:=vR (S:=S1) h1 h2 px;refine⟨S2,?_,k1.trans k2⟩;have hd:(Iv.inv w:Int)-Iv.inv x<=6:=by rcases hd with z|z;exact absurd z c;exact z
   have:jP [.tup<|x.map .int,.tup<|w.map .int,.int 5,.int 8,.int 6] S=.ok .non S2:=by
    unfold jP mV mT;dsimp[jj,mU,bools,jD,Nat.reduceAdd,Nat.reduceSub,aK,lx,aS<|show ¬(n:Int)<=5 by lia,aS<|show ¬(n:Int)>8 by lia,a1,a2,aS<|show ¬(Iv.inv w:Int)-Iv.inv x>6 by lia]
   unfold lI om oA;dsimp[jj,mU,bools,jD,Nat.reduceAdd,Nat.reduceSub,np,this]
 have hK:Kn n (S1++[.qo []]) S1.length []:=⟨wX<|by simp,λp hp=>nomatch hp⟩;have pw2:2 ^ (Iv.inv w+1)<=2 ^ 22:=Nat.pow_le_pow_right ⋯ ();obtain⟨r,S',kvs',l,x2,n2,a2,q2,b2,k2⟩:=xP h1 h2 22 (S:=S1++[.qo []]) (kvs:=[]) () (aQ _) px pw hK (by dsimp[cg];lia);refine⟨r,S',l,?_,a2,q2,(k1.lay (o:=.qo [])).old k2 λq hq _ z=>by have:=k1.len;lia⟩;have x2:qe [.tup<|x.map .int,.tup<|w.map .int,.ref S1.length] (S1++[.qo []])=.ok (.ref r) S':=x2;have dn:∀τ,DN τ S1=.ok (.ref S1.length) (S1++[.qo []]):=λ_=>rfl;unfold mH DL Dd;dsimp[jj,mU,bools,jD,Nat.reduceAdd,Nat.reduceSub,e1,dn,x2]
end K36
namespace K36
open PySem L2 Am
def wB{xs ys:ae}(h:xs.length+ys.length<=16777216):jo (.tup<|xs.map .int) (.tup<|ys.map .int) S=.ok (.tup<|(xs++ys).map .int) S:=by
 rw[cj];exact Mf<|by rw[aK,aK];exact h
def XY{us:ae}{a b:Nat}(h0:1<=a)(h1:a<=b)(h2:b<=us.length):CI (.tup<|us.map .int) (some (a:Int)) (some (b:Int)) S=.ok (.tup<|((us.drop a).take<|b-a).map .int) S:=by
 have hg:¬(HT.kZ (us.map A.int).length 0 (some (a:Int))=0/\HT.kZ (us.map A.int).length (us.map A.int).length (some (b:Int))=(us.map A.int).length):=by
  rw[HT.p7,aK]
  lia
 have hs:CI (.tup<|us.map .int) (some (a:Int)) (some (b:Int)) S=.ok (.tup<|uC (us.map .int) (some (a:Int))<|some (b:Int)) S:=j4 hg;rw[hs];congr 2;unfold uC;rw[HT.p7,HT.p7,aK,eW (),eW (),map_take,map_drop]
def SQ{xs:ae}(hij:i<j)(hj:j<xs.length):xs.take i++[xs.getD j 0]++(xs.drop<|i+1).take (j-(i+1))++[xs.getD i 0]++xs.drop (j+1)=Iv.sw xs i j:=by
 obtain⟨P,M,R,ea,hP,hM,es⟩:=Iv.split hij hj;have lP:P.length=i:=by rw[hP,bq];lia
 refine bU λp=>?_;have g:∀q,q<xs.length->xs[q]?=some (xs.getD q 0):=λq hq=>Iv.qc hq;have ls:(Iv.sw xs i j).length=xs.length:=Iv.zT ..;by_cases hp:p<xs.length
 ·have rhs:(Iv.sw xs i j)[p]?=some (if p=j then xs.getD i 0 else if p=i then xs.getD j 0 else xs.getD p 0):=by
   rw[<- Iv.De hij hj p];exact Iv.qc ()
  rw[rhs,bG,bG,bG];by_cases c1:p<i
  ·rw[bg<|by rw[bq];lia,dB c1,g p hp,aJ (),aJ ()]
  ·rw[bY<|by rw[bq];lia,bq,eW ()];by_cases c2:p=i
   ·rw[aJ (),aL c2,show p-i=0 by lia];rfl
   ·rw[aJ c2,show p-i=(p-(i+1))+1 by lia,gu,eN];have lm:((xs.drop<|i+1).take<|j-(i+1)).length=j-(i+1):=by rw[bq,bR];lia
    by_cases c3:p<j
    ·rw[bg (),dB (),dX,show i+1+(p-(i+1))=p by lia,g p hp,aJ ()]
    ·rw[bY (),lm];by_cases c4:p=j
     ·rw[aL c4,show p-(i+1)-(j-(i+1))=0 by lia];rfl
     ·rw[aJ c4,show p-(i+1)-(j-(i+1))=(p-(j+1))+1 by lia,gu,eN,dX,show j+1+(p-(j+1))=p by lia,g p hp]
 ·rw[bC<|by dsimp[aX,bq,bR,bz,cg];lia,bC ()]
def N8{xs:ae}(hij:i<j)(hj:j<xs.length)(hl:xs.length<=1000):kL [.tup<|xs.map .int,.int i,.int j] S=.ok (.tup<|(Iv.sw xs i j).map .int) S:=by
 have s1:CI (.tup<|xs.map .int) none (some (i:Int)) S=.ok (.tup<|(xs.take i).map .int) S:=Yr ();have s2:CI (.tup<|xs.map .int) (some<|(i:Int)+1) (some (j:Int)) S=.ok (.tup<|((xs.drop<|i+1).take<|j-(i+1)).map .int) S:=by
  rw[show(i:Int)+1=((i+1:Nat):Int)by lia];exact XY () () ()
 have s3:CI (.tup<|xs.map .int) (some<|(j:Int)+1) none S=.ok (.tup<|(xs.drop<|j+1).map .int) S:=by
  rw[show(j:Int)+1=((j+1:Nat):Int)by lia];exact Yl () ()
 have x1:nU (xs.map A.int) (i:Int)=some (.int<|xs.getD i 0):=RQ rfl ();have x2:nU (xs.map A.int) (j:Int)=some (.int<|xs.getD j 0):=RQ rfl ();have d1:jo (.tup<|(xs.take i).map .int) (.tup [.int<|xs.getD j 0]) S=.ok (.tup<|(xs.take i++[xs.getD j 0]).map .int) S:=
  wB (ys:=[xs.getD j 0]) (by rw[bq];show _+1<=_;lia)
 have d2:jo (.tup<|(xs.take i++[xs.getD j 0]).map .int) (.tup<|((xs.drop<|i+1).take<|j-(i+1)).map .int) S=.ok (.tup<|(xs.take i++[xs.getD j 0]++(xs.drop<|i+1).take (j-(i+1))).map .int) S:=
  wB (by dsimp[aX,bq,bR,bz,cg];lia)
 have d3:jo (.tup<|(xs.take i++[xs.getD j 0]++(xs.drop<|i+1).take (j-(i+1))).map .int) (.tup [.int<|xs.getD i 0]) S=.ok (.tup<|(xs.take i++[xs.getD j 0]++(xs.drop<|i+1).take (j-(i+1))++[xs.getD i 0]).map .int) S:=
  wB (ys:=[xs.getD i 0]) (by dsimp[aX,bq,bR,bz,cg];lia)
 have d4:jo (.tup<|(xs.take i++[xs.getD j 0]++(xs.drop<|i+1).take (j-(i+1))++[xs.getD i 0]).map .int) (.tup<|(xs.drop<|j+1).map .int) S=.ok (.tup<|(Iv.sw xs i j).map .int) S:=by
  rw[wB<|by dsimp[aX,bq,bR,bz,cg];lia,SQ hij hj]
 unfold kL oV oY;dsimp[jj,mU,bools,jD,Nat.reduceAdd,Nat.reduceSub,s1,x1,x2,Mf<|show 1<=sizeLine by rw[cR];decide,d1,s2,d2,d3,s3,d4]
abbrev pq (xs:ae)(i j:Nat)(x:A):Bool:=match x with
 | .int m=>decide (xs.getD j 0<m) && decide (m<xs.getD i 0)
 | _=>false
abbrev cd (xs:ae)(i j:Nat)(left:Int):Bool:=decide (xs.getD i 0>xs.getD j 0) && decide (1+2 * (Hz.am xs i j:Int)<=left)
abbrev qt (xs:ae)(i j:Nat):A:=.tup [.int i,.int j,.int<|1+2 * (Hz.am xs i j:Int)]
def OA{n V:Nat}{xs:ae}{L:ad}{left:Int}(lx:xs.length=n)(h8:n<=8)(hij:i<j)(hj:j<n)(hV:iG S V=some L)(hL:L.length<=1000) :
  ∃S',jZ [.tup<|xs.map .int,.int left,.ref V,.int i,.int j,x5] S=.nx [.tup<|xs.map .int,.int left,.ref V,.int i,.int j,.int (Hz.am xs i j:Int)] S'/\iG S' V=some (if cd xs i j left=true then L++[qt xs i j]else L)/\Kp (·=V) S S':=by
 have s2:CI (.tup<|xs.map .int) (some<|(i:Int)+1) (some (j:Int)) S=.ok (.tup<|((xs.drop<|i+1).take<|j-(i+1)).map .int) S:=by
  rw[show(i:Int)+1=((i+1:Nat):Int)by lia];exact XY () () ()
 have x1:nU (xs.map A.int) (i:Int)=some (.int<|xs.getD i 0):=RQ rfl ();have x2:nU (xs.map A.int) (j:Int)=some (.int<|xs.getD j 0):=RQ rfl ();obtain⟨M,hM⟩:∃M,M=(xs.drop<|i+1).take (j-(i+1)):=⟨_,rfl⟩;rw[<- hM]at s2;have lM:M.length<=8:=by rw[hM,bq,bR];lia
 have cm:=BI (cap:=[some 0,some 4,some 3]) (src:=oN<|Tr (iC 0) (rW<|iI jo (iC 3)<|eC<|.int 1)<|rW<|iC 4) (t:=mS<|Kc zU zU (iI pL (iC 1)<|iC 2) (iC 0)<|iI pL (iC 1)<|iC 3) (e:=iC 0) (τ:=[.tup<|xs.map .int,.int left,.ref V,.int i,.int j,x5]) (S:=S) (S1:=S) (xs:=M.map .int)
  (MW<|by dsimp[jj,mU,bools,s2]) (pq xs i j) (λx=>x) (λx hx=>by
   obtain⟨m,_,rfl⟩:=bW.mp hx;have c1:iI pL (iC 1) (iC 2) (.int m::l_ [some 0,some 4,some 3] [.tup<|xs.map .int,.int left,.ref V,.int i,.int j,x5]) S=.ok (.int<|xs.getD j 0) S:=by dsimp[jj,mU,bools,x2]
   have c2:iC 0 (.int m::l_ [some 0,some 4,some 3] [.tup<|xs.map .int,.int left,.ref V,.int i,.int j,x5]) S=.ok (.int m) S:=by dsimp[jj,mU,bools]
   have c3:iI pL (iC 1) (iC 3) (.int m::l_ [some 0,some 4,some 3] [.tup<|xs.map .int,.int left,.ref V,.int i,.int j,x5]) S=.ok (.int<|xs.getD i 0) S:=by dsimp[jj,mU,bools,x1]
   rw[CB];by_cases c:xs.getD j 0<m
   ·rw[Uv c1 c2 (by rw[Bk,aT c]) c3,Bk,R.kX,Gs];show _=R.ok (decide (xs.getD j 0<m) && decide (m<xs.getD i 0)) S;rw[aT c,Bool.true_and]
   ·rw[Xp c1 c2<|by rw[Bk,aS c],R.kX,Gs];show _=R.ok (decide (xs.getD j 0<m) && decide (m<xs.getD i 0)) S;rw[aS c,gT]) (λx hx _=>by
   obtain⟨m,_,rfl⟩:=bW.mp hx;dsimp[jj,mU,bools]) (by rw[aK];lia)
 have ln:(((M.map A.int).filter<|pq xs i j).map λx=>x).length=Hz.am xs i j:=by
  rw[aK,gM,aK,<- gP];unfold Hz.am;rw[hM,show j-i-1=j-(i+1)by lia];rfl
 have amle:Hz.am xs i j<=8:=by
  unfold Hz.am;refine bP List.countP_le_length ?_;rw[bq,bR];lia
 obtain⟨S1,hS1⟩:∃S1,S1=S++[O.lst<|((M.map A.int).filter<|pq xs i j).map λx=>x]:=⟨_,rfl⟩;have k1:oz S S1:=by rw[hS1];exact Kp.refl.lay
 have l1:iG S1 S.length=some (((M.map A.int).filter<|pq xs i j).map λx=>x):=by rw[hS1];exact ji
 have hV1:=k1.lst _ _ (λz=>z) hV;rw[<- hS1]at cm;have m2:uU (.int 2) (.int (Hz.am xs i j:Int))=λS=>R.ok (.int<|2 * (Hz.am xs i j:Int)) S:=by funext S;exact D5 ⋯ ⋯
 unfold jZ;dsimp[jj,mU,bools,cm,l1,ln,x1,x2,m2];unfold cd;by_cases c1:xs.getD i 0>xs.getD j 0
 ·by_cases c2:1+2 * (Hz.am xs i j:Int)<=left
  ·refine⟨S1.set V<|.lst<|L++[qt xs i j],?_,?_,(k1.of0).LY<|.inl rfl⟩
   ·dsimp[jj,mU,bools,m2,aT c1,aT c2,hV1,jD,Nat.reduceAdd,Mf<|show 3<=sizeLine by rw[cR];decide,A7<|show L.length<16777216 by lia];rfl
   ·rw[aT c1,aT c2,aL<|by rfl];exact qA<|bE<|qK hV1
  ·refine⟨S1,?_,?_,k1.of0⟩
   ·dsimp[jj,mU,bools,m2,aT c1,aS c2]
   ·rw[aS c2,iA,aJ<|by simp];exact hV1
 ·refine⟨S1,?_,?_,k1.of0⟩
  ·dsimp[jj,mU,bools,aS c1]
  ·rw[aS c1,gT,aJ<|by simp];exact hV1
abbrev PL (xs:ae)(n:Nat)(left:Int)(q:A):Prop:=∃i j:Nat,i<j/\j<n/\xs.getD j 0<xs.getD i 0/\1+2 * (Hz.am xs i j:Int)<=left/\q=qt xs i j
def Vw{n:Nat}{xs:ae}{left:Int}(lx:xs.length=n)(h8:n<=8):∃(V:Nat) (S':iH) (L:ad),jS [.tup<|xs.map .int,.int left] S=.ok (.ref V) S'/\iG S' V=some L/\L.length<=100/\(∀q∈L,PL xs n left q)/\oz S S':=by
 have k0:oz S (S++[O.lst []]):=Kp.refl.lay;unfold jS mE mD;dsimp[jj,mU,bools,jD,Nat.reduceAdd,Nat.reduceSub];refine rC (lo:=0) (hi:=n) (S1:=S++[O.lst []]) (src:=lg) (show lg _ _=_ from pO (by dsimp[jj,mU,bools,aK,lx])<|kJ () ())
  (λi τ T=>(∃x3 x4 x5,τ=[.tup<|xs.map .int,.int left,.ref S.length,x3,x4,x5])/\(∃L,iG T S.length=some L/\L.length<=i * 8/\∀q∈L,PL xs n left q)/\oz S T)
  (λr=>∃(V:Nat) (S':iH) (L:ad),(r.seq<|jF<|iC 2).end=.ok (.ref V) S'/\iG S' V=some L/\L.length<=100/\(∀q∈L,PL xs n left q)/\oz S S')
  ⟨⟨_,_,_,rfl⟩,⟨[],ji,cL _,nofun⟩,k0⟩ ?_ ?_
 ·rintro i τ T hi ⟨⟨x3,x4,x5,rfl⟩,⟨L,hT,lL,gL⟩,kT⟩;left;unfold nN;dsimp[jj];rw[dD];refine rC (lo:=(i:Int)+1) (hi:=n) (S1:=T) (src:=lD) (show lD _ _=_ from um (S1:=T) (by dsimp[jj,mU,bools]) (by dsimp[jj,mU,bools,aK,lx]) (kJ () ())<|kJ () ())
   (λt τ' T'=>(∃x4 x5,τ'=[.tup<|xs.map .int,.int left,.ref S.length,.int i,x4,x5])/\(∃L',iG T' S.length=some L'/\L'.length<=i * 8+t/\∀q∈L',PL xs n left q)/\oz S T')
   (λr=>∃τ' S',r=.nx τ' S'/\(∃x3 x4 x5,τ'=[.tup<|xs.map .int,.int left,.ref S.length,x3,x4,x5])/\(∃L,iG S' S.length=some L/\L.length<=(i+1) * 8/\∀q∈L,PL xs n left q)/\oz S S')
   ⟨⟨_,_,rfl⟩,⟨L,hT,lL,gL⟩,kT⟩ ?_ ?_
  ·rintro t τ' T' ht ⟨⟨x4,x5,rfl⟩,⟨L',hT',lL',gL'⟩,kT'⟩;left;have i8:i * 8<=7 * 8:=gG _ ();obtain⟨S',e,l',k'⟩:=OA (S:=T') (V:=S.length) (i:=i) (j:=i+1+t) (L:=L') (left:=left) (x5:=x5) lx h8 () () hT' ();refine⟨[.tup<|xs.map .int,.int left,.ref S.length,.int i,.int ((i+1+t:Nat):Int),.int (Hz.am xs i (i+1+t):Int)],S',?_,⟨_,_,rfl⟩,⟨_,l',?_,?_⟩,kT'.old k' λq hq _ z=>()⟩
   ·show jZ [.tup<|xs.map .int,.int left,.ref S.length,.int i,.int<|(i:Int)+1+t,x5] T'=_;rw[show(i:Int)+1+(t:Int)=((i+1+t:Nat):Int)by lia];exact e
   ·split
    ·rw[aX];show _+1<=_;lia
    ·lia
   ·intro q hq;split at hq
    ·rename_i hc
     rcases bF.mp hq with z|z
     ·exact gL' q z
     ·unfold cd at hc;rw[dz,fj,fj]at hc;exact⟨i,i+1+t,(),(),hc.1,hc.2,bI.mp z⟩
    ·exact gL' q hq
  ·rintro τ' T' ⟨⟨x4,x5,rfl⟩,⟨L',hT',lL',gL'⟩,kT'⟩;exact⟨_,_,rfl,⟨_,_,_,rfl⟩,⟨L',hT',(),gL'⟩,kT'⟩
 ·rintro τ T ⟨⟨x3,x4,x5,rfl⟩,⟨L,hT,lL,gL⟩,kT⟩;exact⟨S.length,T,L,by dsimp[jj,mU,bools],hT,(),gL,kT⟩
end K36
namespace K36
open PySem L2 Am
open Bl
open Po (Pl Ok)
open Hz (IsR)
open Fw (rg)
def zx{a:A}{k:Bool}(h:tV S 12 a b=some k):qm true a b S=.ok (.bl<|!k) S:=by unfold qm;rw[h];rfl
def Et{V r:Nat}{L:ad}(h:iG S V=some L)(hr:iG S r=some []):tV S 12 (.ref V) (.ref r)=some L.isEmpty:=by
 show(iG S V).bind (λxs=>(iG S r).bind λys=>qB (tV S 11) xs ys)=_;rw[h,hr]
 cases L<;>rfl
def LD{n:Nat}{w:ae}{far:Int}(h:yR S b)(hn:n<=8)(pw:w.Perm<|rg n)(h0:0<=far) :
  ∃(x:ae) (S':iH),lJ [.ref b,.tup<|w.map .int,.int far] S=.ok (.tup<|x.map .int) S'/\x.Perm (rg n)/\Below x w/\(Iv.inv w:Int)-Iv.inv x<=far/\yR S' b/\Kp (·=b) S S':=by
 obtain⟨dd,S1,e1,d1,d2,b1,k1⟩:=digit h (show(1:Int)<=7 by decide) ⋯;unfold lJ qV qy;dsimp[jj,mU,bools,jD,Nat.reduceAdd,Nat.reduceSub];refine rC (lo:=0) (hi:=dd) (S1:=S1) (src:=pH) (show pH _ _=_ from pO (by dsimp[jj,mU,bools,e1])<|kJ () ())
  (λ_ τ T=>∃(x:ae) (left:Int),(∃x4 x5 x6 x7 x8,τ=[.ref b,.tup<|w.map .int,.int left,.tup<|x.map .int,x4,x5,x6,x7,x8])/\x.Perm (rg n)/\Below x w/\0<=left/\left+((Iv.inv w:Int)-Iv.inv x)=far/\yR T b/\Kp (·=b) S T)
  (λr=>∃(x:ae) (S':iH),(r.seq<|jF<|iC 3).end=.ok (.tup<|x.map .int) S'/\x.Perm (rg n)/\Below x w/\(Iv.inv w:Int)-Iv.inv x<=far/\yR S' b/\Kp (·=b) S S')
  ⟨w,far,⟨_,_,_,_,_,rfl⟩,pw,Below.refl _,h0,(),b1,k1⟩ ?_ ?_
 ·rintro i τ T hi ⟨x,left,⟨x4,x5,x6,x7,x8,rfl⟩,px,bx,l0,lf,bT,kT⟩;left;have lx:=m9 px;obtain⟨V,T1,L,e2,hV,lL,gL,k2⟩:=Vw (S:=T) (left:=left) lx hn;have bT1:=bT.kp k2 λz=>z;have k3:oz T1 (T1++[O.lst []]):=Kp.refl.lay;have bT2:=bT1.kp k3 λz=>z;have hV2:=k3.lst _ _ (λz=>z) hV;have ne:=zx<|Et hV2 (r:=T1.length) ji;unfold rZ
  cases L with
  | nil=>
   refine⟨[.ref b,.tup<|w.map .int,.int left,.tup<|x.map .int,.int<|0+(i:Int),.ref V,x6,x7,x8],T1++[O.lst []],?_,x,left,⟨_,_,_,_,_,rfl⟩,px,bx,l0,lf,bT2,(kT.trans k2.of0).trans k3.of0⟩;dsimp[jj,mU,bools,e2,ne,List.isEmpty_nil,b_]
  | cons q0 L0=>
   obtain⟨L,hL⟩:∃L,L=q0::L0:=⟨_,rfl⟩;have lp:1<=L.length:=by rw[hL,bz];lia
   rw[<- hL]at hV hV2 lL gL ne;have em:L.isEmpty=false:=by rw[hL];rfl
   rw[em]at ne;obtain⟨d,T3,e4,q1,q2,bT3,k4⟩:=digit bT2 (show(1:Int)<=(L.length:Int)by lia) ();have vb:V≠b:=λz=>by
    have:=bT.lt;obtain⟨g,st,z1,_⟩:=bT1;rw[z]at hV;rw[hV]at z1;have z1:=aU z1;obtain⟨_,_,_,_,_,_,z2⟩:=gL (.int g) (by rw[z1];exact aN ..);unfold qt at z2
    cases z2
   have hV3:=k4.lst _ _ vb hV2;obtain⟨q,hq⟩:∃q,L[d.toNat]?=some q:=⟨_,aG ()⟩;obtain⟨i',j',h1,h2,h3,h4,rfl⟩:=gL q<|aY hq;have at_:nU L d=some (qt x i' j'):=zw (k:=d.toNat) () hq;obtain⟨s1,s2,s3⟩:=Hz.Ye px h1 h2 h3;have sw:=N8 (S:=T3) (xs:=x) h1 () ();refine⟨[.ref b,.tup<|w.map .int,.int<|left-(1+2 * (Hz.am x i' j':Int)),.tup<|(Iv.sw x i' j').map .int,.int<|0+(i:Int),.ref V,.int i',.int j',.int<|1+2 * (Hz.am x i' j':Int)],T3,?_,Iv.sw x i' j',_,⟨_,_,_,_,_,rfl⟩,s2,s3.trans bx,(),(),bT3,((kT.trans k2.of0).trans k3.of0).trans k4⟩;unfold qt at at_;dsimp[jj,mU,bools,e2,ne,dI,hV2,e4,hV3,at_,j4<|show([_,_,_]:ad).length=3 from rfl,sw]
 ·rintro τ T ⟨x,left,⟨x4,x5,x6,x7,x8,rfl⟩,px,bx,l0,lf,bT,kT⟩;exact⟨x,T,by dsimp[jj,mU,bools],px,bx,(),bT,kT⟩
def FN{n:Nat}{x:ae}(lx:x.length=n)(hn:n<=8):∃S',mO [.tup<|x.map .int] S=.ok (.tup<|(Hz.ov n x).map .int) S'/\oz S S':=by
 have cm:=LM (cap:=[some 0]) (src:=oN<|iC 0) (e:=iI aSub (iI jo (je (f1 mz)<|iD (iC 1) iO)<|eC<|.int 1)<|iC 0) (τ:=[.tup<|x.map .int]) (S:=S) (S1:=S) (xs:=x.map .int)
  (MW<|by dsimp[jj,mU,bools]) (λa=>match a with | .int v=>.int ((n:Int)+1-v)|_=>.unb) (λa ha=>by
   obtain⟨v,_,rfl⟩:=bW.mp ha;dsimp[jj,mU,bools,aK,lx]) (by rw[aK];lia)
 rw[cH]at cm;have e:x.map ((λa=>match a with | .int v=>A.int ((n:Int)+1-v)|_=>.unb) ∘ A.int)=(Hz.ov n x).map .int:=by unfold Hz.ov;rw[cH];rfl
 rw[e]at cm;refine⟨S++[O.lst<|(Hz.ov n x).map .int],?_,Kp.refl.lay⟩;unfold mO sV sX;dsimp[jj,mU,bools,jD,Nat.reduceAdd,Nat.reduceSub,cm]
end K36
namespace K36
open PySem L2 Am
open Bl
open Po (Pl Ok)
open Hz (IsR)
open Fw (rg)
def UI{k:Nat}{a b c d:Int}:tV S (k+2) (.tup [.int a,.int b]) (.tup [.int c,.int d])=some (decide<|(a,b)=(c,d)):=by
 show((some<|a == c).bind λp=>((some<|b == d).bind λq=>(some true).map λr=>q && r).map λq=>p && q)=_;by_cases h1:a=c
 ·by_cases h2:b=d
  ·subst h1 h2;simp
  ·subst h1;simp[h2]
 ·simp[h1]
theorem AK{k:Nat}:∀l m:Pl,qB (tV S<|k+2) (Po.pl l) (Po.pl m)=some (decide<|l=m)
 | [],[]=>rfl
 | [],_::_=>rfl
 | _::_,[]=>rfl
 | p::l,q::m=>by
  show(tV S (k+2) (.tup [.int p.1,.int p.2])<|.tup [.int q.1,.int q.2]).bind (λa=>(qB (tV S<|k+2) (Po.pl l)<|Po.pl m).map λb=>a && b)=_;rw[UI,AK l m];show some (decide (p=q) && decide (l=m))=_;by_cases h1:p=q
  ·by_cases h2:l=m
   ·subst h1 h2;simp
   ·simp[h2]
  ·simp[h1]
def ER(N:Nat):(L2.MZ (N:Int) 0).Perm (rg N):=by
 have e:(List.range ((N:Int)-0).toNat).map (λk:Nat=>(N:Int)-(k:Int))=((List.range ((N:Int)+1-1).toNat).map λk:Nat=>1+(k:Int)).reverse:=by
  refine fJ (by simp) λi h1 h2=>?_;simp at h1;simp
  lia
 show((List.range ((N:Int)-0).toNat).map λk:Nat=>(N:Int)-(k:Int)).Perm ((List.range ((N:Int)+1-1).toNat).map λk:Nat=>1+(k:Int));rw[e];exact g8 _
abbrev V3:Sm:=jd (jm (eFn lK<|iD (iC 0)<|iD (iC 2) iO)<|jB 4)
 (jd (t7 (xE (mS<|iI (qm false) (eFn iX<|iD (iC 0)<|iD (eC<|.int 8) iO)<|eC<|.int 3)<|mS<|iI zU (iC 2)<|eC<|.int 6)
 (jm (Ja (iC 2) (eC<|.int 0)<|M3 CK<|eC<|.int 1)<|jB 4)
 mQ)
 (jF<|mq<|iD (eFn lJ<|iD (iC 0)<|iD (iC 4)<|iD (iC 3) iO)<|iD (iC 4) iO))
def MG{n:Nat}{k far:Int}(h:yR S b)(h1:1<=n)(h7:n<=7)(f0:0<=far) :
  ∃(x w:ae) (S':iH),(V3 [.ref b,.int k,.int n,.int far,.unb] S).end=.ok (.tup [.tup<|x.map .int,.tup<|w.map .int]) S'/\x.Perm (rg n)/\w.Perm (rg n)/\Below x w/\(Iv.inv w:Int)-Iv.inv x<=far:=by
 obtain⟨o1,S4,e4,po1,b4,k4⟩:=Ir (n:=(n:Int)) h () ();obtain⟨t,S5,e5,_,_,b5,k5⟩:=digit (m:=8) b4 ⋯ ⋯;unfold V3;dsimp[jj,mU,bools,e4,e5];by_cases c:t=3
 ·by_cases c2:(n:Int)<6
  ·have td:=Nk (c:=iC 2) (d:=eC<|.int 0) (e:=M3 CK<|eC<|.int 1) (τ:=[.ref b,.int k,.int n,.int far,.tup<|o1.map .int]) (S:=S5) (S1:=S5) (S2:=S5) (S3:=S5) (i:=(n:Int)) (j:=0) (by dsimp[jj,bools]) (by dsimp[jj,bools]) (by dsimp[jj,bools]) (kJ () ()) (kJ ⋯ ⋯) ();obtain⟨x,S6,e6,px,bx,fx,b6,k6⟩:=LD (S:=S5) (b:=b) (n:=n) (w:=L2.MZ (n:Int) 0) (far:=far) b5 () (ER n) f0;refine⟨x,L2.MZ (n:Int) 0,S6,?_,px,ER n,bx,fx⟩;rw[c,bK];dsimp[jj,mU,bools,aT c2,td,e6,jD,Nat.reduceAdd,wL]
  ·obtain⟨x,S6,e6,px,bx,fx,b6,k6⟩:=LD (S:=S5) (b:=b) (n:=n) (w:=o1) (far:=far) b5 () po1 f0;refine⟨x,o1,S6,?_,px,po1,bx,fx⟩;rw[c,bK];dsimp[jj,mU,bools,aS c2,e6,jD,Nat.reduceAdd,wL]
 ·obtain⟨x,S6,e6,px,bx,fx,b6,k6⟩:=LD (S:=S5) (b:=b) (n:=n) (w:=o1) (far:=far) b5 () po1 f0;refine⟨x,o1,S6,?_,px,po1,bx,fx⟩;rw[cW.mpr c];dsimp[jj,mU,bools,e6,jD,Nat.reduceAdd,wL]
def Pf{k:Int}(h:yR S b)(h0:0<=k) :
  ∃(n:Nat) (x w:ae) (S':iH),nP [.ref b,.int k] S=.ok (.tup [.tup<|x.map .int,.tup<|w.map .int]) S'/\1<=n/\n<=7/\x.Perm (rg n)/\w.Perm (rg n)/\Below x w/\(n<=5\/(Iv.inv w:Int)-Iv.inv x<=6):=by
 have k2:oz S (S++[O.lst [.int 4,.int 3]]):=Kp.refl.lay;obtain⟨v,hv,v3,v4⟩:∃v:Int,nU ([.int 4,.int 3]:ad) (if decide ((0:Int)<k)=true then 1 else 0)=some (.int v)/\3<=v/\v<=4:=by
  by_cases c:(0:Int)<k
  ·rw[aT c];exact⟨3,rfl,by decide,by decide⟩
  ·rw[aS c];exact⟨4,rfl,by decide,by decide⟩
 obtain⟨d,S3,e3,d0,d1,b3,k3⟩:=digit (S:=S++[O.lst [.int 4,.int 3]]) (m:=v) (h.kp k2 λz=>z) () ();obtain⟨N,hN⟩:∃N:Nat,(N:Int)=2+d:=⟨(2+d).toNat,()⟩;have hm:sW=jd (jm (iI jo (eC<|.int 2)<|eFn iX<|iD (iC 0)<|iD (iI pL (sH<|iD (eC<|.int 4)<|iD (eC<|.int 3) iO)<|je (f1 BW)<|iD (iI DK (iC 1)<|eC<|.int 0) iO) iO)<|jB 2)
  (jd (jm (eC<|.int 20)<|jB 3)
  (jd (t7 (xE (mS<|iI (qm false) (iC 1)<|eC<|.int 0)<|mS<|iI (qm false) (eFn iX<|iD (iC 0)<|iD (eC<|.int 4) iO)<|eC<|.int 2)
  (jd (jm (iI jo (eC<|.int 6)<|eFn iX<|iD (iC 0)<|iD (eC<|.int 2) iO)<|jB 2)
  (jm (eC<|.int 6)<|jB 3))
  mQ) V3)):=rfl
 unfold nP sR;rw[hm];obtain⟨c,hc⟩:∃c,c=V3:=⟨_,rfl⟩;rw[<- hc];by_cases ck:k=0
 ·subst ck;obtain⟨d2,S4,e4,_,_,b4,k4⟩:=digit (m:=4) b3 ⋯ ⋯;by_cases c2:d2=2
  ·obtain⟨d5,S5,e5,d50,d51,b5,k5⟩:=digit (m:=2) b4 ⋯ ⋯;obtain⟨M,hM⟩:∃M:Nat,(M:Int)=6+d5:=⟨(6+d5).toNat,()⟩;obtain⟨x,w,S',e,px,pw,bx,fx⟩:=MG (S:=S5) (b:=b) (n:=M) (k:=0) (far:=6) b5 () () ⋯;refine⟨M,x,w,S',?_,(),(),px,pw,bx,.inr fx⟩;rw[<- hc]at e;dsimp[jj,mU,bools,jD,Nat.reduceAdd,Nat.reduceSub,hv,e3,<- hN,bK,e4,c2,e5,<- hM];exact e
  ·obtain⟨x,w,S',e,px,pw,bx,fx⟩:=MG (S:=S4) (b:=b) (n:=N) (k:=0) (far:=20) b4 () () ⋯;refine⟨N,x,w,S',?_,(),(),px,pw,bx,.inl ()⟩;rw[<- hc]at e;dsimp[jj,mU,bools,jD,Nat.reduceAdd,Nat.reduceSub,hv,e3,<- hN,bK,e4,cW.mpr c2];exact e
 ·obtain⟨x,w,S',e,px,pw,bx,fx⟩:=MG (S:=S3) (b:=b) (n:=N) (k:=k) (far:=20) b3 () () ⋯;refine⟨N,x,w,S',?_,(),(),px,pw,bx,.inl ()⟩;rw[<- hc]at e;dsimp[jj,mU,bools,jD,Nat.reduceAdd,Nat.reduceSub,hv,e3,<- hN,cW.mpr ck];exact e
def T_{a:Nat}(ha:iG S a=some (Po.pl l))(hb:iG S b=some (Po.pl l)):tV S 12 (.ref a) (.ref b)=some true:=by
 show(iG S a).bind (λxs=>(iG S b).bind λys=>qB (tV S 11) xs ys)=_;rw[ha,hb];show qB (tV S 11) (Po.pl l) (Po.pl l)=_;rw[AK,aT rfl]
def diff{n:Nat}{x w y z:ae}(h:IsR n x w l)(px:x.Perm<|rg n)(pw:w.Perm<|rg n)(b:Below x w)(h':IsR m y z l)(py:y.Perm<|rg m)(pz:z.Perm<|rg m):Below y z/\(Iv.inv z:Int)-Iv.inv y=(Iv.inv w:Int)-Iv.inv x:=by
 obtain⟨a,ha⟩:=h.last px pw b;have b':Below y z:=by
  by_cases c:Below y z
  ·exact c
  ·have:=h'.eq<|Hz.C8 py pz c;rw[this]at ha;exact absurd ha<|by simp
 obtain⟨a',ha'⟩:=h'.last py pz b';rw[ha]at ha';have:=List.append_inj' ha' rfl;have e:=List.cons.inj this.2;have e1:=dj Prod.fst e.1;exact⟨b',e1.symm⟩
def again{n r:Nat}{x w y z:ae}(h:IsR n x w l)(px:x.Perm<|rg n)(pw:w.Perm<|rg n)(b:Below x w)(hr:iG S r=some (Po.pl l))(h':IsR m y z l)(py:y.Perm<|rg m)(pz:z.Perm<|rg m)(h1:1<=m)(h8:m<=8)(hi:Iv.inv z<=21)(hd:m<=5\/(Iv.inv w:Int)-Iv.inv x<=6) :
  ∃(r':Nat) (S':iH),mH [.tup<|y.map .int,.tup<|z.map .int] S=.ok (.ref r') S'/\qm false (.ref r') (.ref r) S'=.ok (.bl true) S'/\qm true (.ref r') (.ref r) S'=.ok (.bl false) S'/\oz S S':=by
 obtain⟨_,e⟩:=diff h px pw b h' py pz;obtain⟨r',S',l',e1,a1,q1,k1⟩:=F_ (S:=S) h1 h8 py pz hi (by rw[e];exact hd);have el:=q1.eq h';subst el;have eq:=T_ a1<|k1.lst _ _ (λz=>z) hr;exact⟨r',S',e1,DC eq,zx eq,k1⟩
def Pg{x:ae}:(x.map A.int).reverse=x.reverse.map A.int:=List.map_reverse.symm
def Ny{n r:Nat}{x w:ae}(h1:1<=n)(h7:n<=7)(px:x.Perm<|rg n)(pw:w.Perm<|rg n)(b:Below x w)(hd:n<=5\/(Iv.inv w:Int)-Iv.inv x<=6)(hr:iG S r=some (Po.pl l))(h:IsR n x w l) :
  ∃S',nS [.tup<|x.map .int,.tup<|w.map .int,.ref r] S=.ok (.bl true) S'/\oz S S':=by
 obtain⟨xb,S1,e1,q1,px1,k1⟩:=FT (S:=S) px ();obtain⟨wb,S2,e2,q2,pw2,k2⟩:=FT (S:=S1) pw ();have ex:xb=He.bk x:=He.jH ⟨px,px1,q1⟩<|He.jY px;have ew:wb=He.bk w:=He.jH ⟨pw,pw2,q2⟩<|He.jY pw;subst ex ew;have k02:=k1.trans k2;obtain⟨r3,S3,e3,_,n3,k3⟩:=again h px pw b (k02.lst _ _ (λz=>z) hr) (h.bk px pw) px1 pw2 h1 () (Hz.xy pw2 h7) hd;have k03:=k02.trans k3;obtain⟨S4,e4,k4⟩:=FN (S:=S3) (m9 pw) ();obtain⟨S5,e5,k5⟩:=FN (S:=S4) (m9 px) ();have k05:=(k03.trans k4).trans k5;obtain⟨r6,S6,e6,_,n6,k6⟩:=again h px pw b (k05.lst _ _ (λz=>z) hr) (h.ov px pw) (Hz.wU pw) (Hz.wU px) h1 () (Hz.xy (Hz.wU px) h7) hd;have k06:=k05.trans k6;obtain⟨r7,S7,e7,n7,_,k7⟩:=again h px pw b (k06.lst _ _ (λz=>z) hr) (h.rev px pw) (Hz.oG pw) (Hz.oG px) h1 () (Hz.xy (Hz.oG px) h7) hd;refine⟨S7,?_,k06.trans k7⟩;unfold nS sF sO;dsimp[jj,mU,bools,jD,Nat.reduceAdd,Nat.reduceSub,e1,e2,e3,n3,e4,e5,e6,n6,Pg,e7,n7]
def RO(ns:ae)(hl:ns.length<=63):∃S',yV [.frz<|ns.map .int] []=.ok (.bl true) S':=by
 unfold yV II Jm;dsimp[jj,bools,jD,Nat.reduceAdd,Nat.reduceSub];refine rC (lo:=0) (hi:=if (if 4<(ns.length:Int)then 4 else(ns.length:Int))>1 then(if 4<(ns.length:Int)then 4 else(ns.length:Int))else 1) (S1:=[]) (show GR _ _=_ from pO (by dsimp[jj,bools,aK])<|kJ (by split<;>split<;>lia)<|by split<;>split<;>lia)
  (λ_ τ _=>∃a1 a2 a3 a4 a5 a6 a7 a8 a9:A,τ=[.frz<|ns.map .int,a1,a2,a3,a4,a5,a6,a7,a8,a9]) (λr=>∃S',RS.end (RS.seq r _)=.ok (.bl true) S') ⟨_,_,_,_,_,_,_,_,_,rfl⟩ ?_ ?_
 ·rintro i τ S hi ⟨a1,a2,a3,a4,a5,a6,a7,a8,a9,rfl⟩;left;have hi4:(i:Int)<4:=by split at hi<;>split at hi<;>lia
  obtain⟨S1,e1,b1,kp1⟩:=Ni (S:=S) (ns:=ns) (k:=0+(i:Int)) () ();obtain⟨n,x,w,S2,e2,n1,n7,px,pw,bx,hd⟩:=Pf (k:=0+(i:Int)) b1 ();have lx:=m9 px;obtain⟨r,S3,l,e3,hr,hR,k3⟩:=F_ (S:=S2) n1 () px pw (Hz.xy pw n7) hd;obtain⟨S4,e4,k4⟩:=vR (S:=S3) n1 () pw;obtain⟨S5,e5,k5⟩:=vR (S:=S4) n1 () px;have hr5:=(k4.trans k5).lst _ _ (λz=>z) hr;obtain⟨m,hm⟩:=hR.last px pw bx;obtain⟨S6,hS6⟩:∃S6,S6=S5++[O.lst []]:=⟨_,rfl⟩;have k6:oz S5 S6:=by rw[hS6];exact Kp.refl.lay
  have hr6:=k6.lst _ _ (λz=>z) hr5;have ne:(Po.pl l).isEmpty=false:=by rw[hm];unfold Po.pl;rw[cj];cases(m.map Po.pA)<;>rfl
  have eq6:=DC (Et hr6 (r:=S5.length)<|by rw[hS6];exact ji);rw[ne]at eq6;have la:nU (Po.pl l) (-1)=some (.tup [.int<|(Iv.inv w:Int)-Iv.inv x,.int 1]):=by
   have ll:(Po.pl l).length=m.length+1:=by unfold Po.pl;rw[aK,hm,aX];rfl
   rw[hm];unfold Po.pl;rw[cj];exact Kf _ _
  have nq:qm true (.tup [.int<|(Iv.inv w:Int)-Iv.inv x,.int 1]) (.tup [.int<|(Iv.inv w:Int)-Iv.inv x,.int 1]) S6=.ok (.bl false) S6:=by
   rw[zx (k:=true)<|by rw[UI,aT rfl]];rfl
  have lp:∃y7 y8,mh vM (AJ 2<|rR (jB 7)<|rR (jB 8) Ba) vE [.frz<|ns.map .int,.int<|0+(i:Int),.ref S.length,.tup<|x.map .int,.tup<|w.map .int,.ref r,.int<|(Iv.inv w:Int)-Iv.inv x,a7,a8,a9] S6=.nx [.frz<|ns.map .int,.int<|0+(i:Int),.ref S.length,.tup<|x.map .int,.tup<|w.map .int,.ref r,.int<|(Iv.inv w:Int)-Iv.inv x,y7,y8,a9] S6:=by
   refine vt (n:=r) (xs:=Po.pl l) (S1:=S6) (show vM _ _=_ from uE (by dsimp[jj,mU,bools]) hr6)
    (λ_ τ T=>T=S6/\∃y7 y8,τ=[.frz<|ns.map .int,.int<|0+(i:Int),.ref S.length,.tup<|x.map .int,.tup<|w.map .int,.ref r,.int<|(Iv.inv w:Int)-Iv.inv x,y7,y8,a9])
    (λq=>∃y7 y8,q=.nx [.frz<|ns.map .int,.int<|0+(i:Int),.ref S.length,.tup<|x.map .int,.tup<|w.map .int,.ref r,.int<|(Iv.inv w:Int)-Iv.inv x,y7,y8,a9] S6) ⟨rfl,_,_,rfl⟩ (λ_ _ _ z=>by rw[z.1];exact hr6) ?_ ?_
   ·rintro t q τ T hq ⟨rfl,y7,y8,rfl⟩;obtain⟨p,hp,rfl⟩:=bW.mp<|aY hq;obtain⟨p0,p1,p2,p3,p4⟩:=hR.keys px pw hp;refine⟨[.frz<|ns.map .int,.int<|0+(i:Int),.ref S.length,.tup<|x.map .int,.tup<|w.map .int,.ref r,.int<|(Iv.inv w:Int)-Iv.inv x,.int p.1,.int p.2,a9],T,?_,.inl ⟨_,T,?_,rfl,.int p.1,.int p.2,rfl⟩⟩
    ·show AJ 2 _ (.tup [.int p.1,.int p.2]) _ _=_;dsimp[jj,mU,bools,j4<|show([_,_]:ad).length=2 from rfl]
    ·have md:xW (.int<|(Iv.inv w:Int)-Iv.inv x-p.1) (.int 2) T=.ok (.int 0) T:=by rw[yz ⋯,p4]
     unfold vE;dsimp[jj,mU,bools,md,aS<|show ¬p.2<1 by lia,aS<|show ¬p.1<0 by lia,g7,bK,b_]
   ·rintro τ T ⟨rfl,y7,y8,rfl⟩;exact⟨y7,y8,rfl⟩
  obtain⟨y7,y8,lp⟩:=lp;obtain⟨S7,e7,k7⟩:=Ny (S:=S6) n1 n7 px pw bx hd hr6 hR;have hr7:=k7.lst _ _ (λz=>z) hr6;have more:∃S8,t7 (xE (M0 (mS<|iI zU (iC 9)<|eC<|.int 6)<|mS<|iI zU (iC 6)<|eC<|.int 7)<|mS<|iI (qm true) (eFn mH<|iD (iI jo (iC 3)<|mq<|iD (iC 9) iO)<|iD (iI jo (iC 4)<|mq<|iD (iC 9) iO) iO)<|iC 5) (jF<|eC<|.bl false) mQ [.frz<|ns.map .int,.int<|0+(i:Int),.ref S.length,.tup<|x.map .int,.tup<|w.map .int,.ref r,.int<|(Iv.inv w:Int)-Iv.inv x,y7,y8,.int<|(n:Int)+1] S7=.nx [.frz<|ns.map .int,.int<|0+(i:Int),.ref S.length,.tup<|x.map .int,.tup<|w.map .int,.ref r,.int<|(Iv.inv w:Int)-Iv.inv x,y7,y8,.int<|(n:Int)+1] S8:=by
   by_cases c:(n:Int)+1<6\/(Iv.inv w:Int)-Iv.inv x<7
   ·have iw:Iv.inv (w++[(n:Int)+1])=Iv.inv w:=Hz.Nr λv hv=>by have:=jz.mp<|pw.mem_iff.mp hv;lia
    obtain⟨r8,S8,e8,_,n8,k8⟩:=again hR px pw bx hr7 (hR.app px pw) (Hz.xS px) (Hz.xS pw) () () (by rw[iw];exact Hz.xy pw n7) ();have d1:∀{o:ae},o.length=n->jo (.tup<|o.map .int) (.tup [.int<|(n:Int)+1]) S7=.ok (.tup<|(o++[(n:Int)+1]).map .int) S7:=λ{o} lo=>wB (ys:=[(n:Int)+1]) (by show o.length+1<=_;lia);refine⟨S8,?_⟩;by_cases c1:(n:Int)+1<6
    ·dsimp[jj,mU,bools,aT c1,Mf<|show 1<=sizeLine by rw[cR];decide,jD,Nat.reduceAdd,d1 lx,d1<|m9 pw,e8,n8]
    ·have c2:(Iv.inv w:Int)-Iv.inv x<7:=()
     dsimp[jj,mU,bools,aS c1,aT c2,Mf<|show 1<=sizeLine by rw[cR];decide,jD,Nat.reduceAdd,d1 lx,d1<|m9 pw,e8,n8]
   ·have c1:¬(n:Int)+1<6:=λz=>c<|.inl z;have c2:¬(Iv.inv w:Int)-Iv.inv x<7:=λz=>c<|.inr z;refine⟨S7,?_⟩;dsimp[jj,mU,bools,aS c1,aS c2]
  obtain⟨S8,more⟩:=more;have step:Ay [.frz<|ns.map .int,.int<|0+(i:Int),a2,a3,a4,a5,a6,a7,a8,a9] S=.nx [.frz<|ns.map .int,.int<|0+(i:Int),.ref S.length,.tup<|x.map .int,.tup<|w.map .int,.ref r,.int<|(Iv.inv w:Int)-Iv.inv x,y7,y8,.int<|(n:Int)+1] S8:=by
   unfold Ay;obtain⟨c1,hc1⟩:∃c,c=mh vM (AJ 2<|rR (jB 7)<|rR (jB 8) Ba) vE:=⟨_,rfl⟩;obtain⟨c2,hc2⟩:∃c,c=t7 (xE (M0 (mS<|iI zU (iC 9)<|eC<|.int 6)<|mS<|iI zU (iC 6)<|eC<|.int 7)<|mS<|iI (qm true) (eFn mH<|iD (iI jo (iC 3)<|mq<|iD (iC 9) iO)<|iD (iI jo (iC 4)<|mq<|iD (iC 9) iO) iO)<|iC 5) (jF<|eC<|.bl false) mQ:=⟨_,rfl⟩;rw[<- hc1,<- hc2];rw[<- hc1]at lp;rw[<- hc2]at more;dsimp[jj,mU,bools,e1,e2,j4<|show([_,_]:ad).length=2 from rfl,e3,e4,e5];rw[<- hS6];dsimp[jj,mU,bools,eq6,hr6,la,jD,Nat.reduceAdd,wL,nq,lp,e7,b_,aK,lx,more]
  exact⟨_,S8,step,_,_,_,_,_,_,_,_,_,rfl⟩
 ·rintro τ S ⟨a1,a2,a3,a4,a5,a6,a7,a8,a9,rfl⟩;exact⟨S,by dsimp[jj,mU,bools]⟩
end K36
namespace K36
open PySem L2 Am
def all_mk{l:PySem.W.OpenLaw}{w:ah}{K:au}{h:aq}{mg:Str->bb}{fa:ak}(X:K.In h)(G:h.Ns mainGlobals mg)(hfa:mg "law" = some (.ref fa))
  (a1:Df K "is_whole" r_)
  (a2:Df K "need_pair" qT)
  (a3:Df K "back" CH)
  (a4:Df K "is_exchange" pB)
  (a5:Df K "exchanged_places" lE)
  (a6:Df K "exchanged" qx)
  (a7:Df K "place_pairs" oQ)
  (a8:Df K "wrong_pairs" o8)
  (a9:Df K "length" xF)
  (a10:Df K "falls" Ak)
  (a11:Df K "first_above_nought" kF)
  (a12:Df K "bar" IZ)
  (a13:Df K "is_below" se)
  (a14:Df K "need_bounds" pG)
  (a15:Df K "as_polynomial" m8)
  (a16:Df K "plus" DJ)
  (a17:Df K "times" Ax)
  (a18:Df K "need_rest" qS)
  (a19:Df K "rest_by_fall" nQ)
  (a20:Df K "found_rest" ng)
  (a21:Df K "rest" DF)
  (a22:Df K "_law_bag" uw)
  (a23:Df K "_law_digit" qL)
  (a24:Df K "_law_order" q_)
  (a25:Df K "_law_swapped" oJ)
  (a26:Df K "_law_pairs_less" mK)
  (a27:Df K "_law_under" qX)
  (a28:Df K "_law_case" sN)
  (a29:Df K "_law_over" sD)
  (a30:Df K "_law_like" sG)
  (a31:Df K "law" Jv)
  (Zo:PySem.W.nsIn K mainGlobals "isinstance" = some none)
  (Zp:PySem.W.nsIn K mainGlobals "bool" = some none)
  (Zq:PySem.W.nsIn K mainGlobals "int" = some none)
  (Zr:PySem.W.nsIn K mainGlobals "len" = some none)
  (Zs:PySem.W.nsIn K mainGlobals "enumerate" = some none)
  (Zt:PySem.W.nsIn K mainGlobals "tuple" = some none)
  (Zu:PySem.W.nsIn K mainGlobals "list" = some none)
  (Zv:PySem.W.nsIn K mainGlobals "range" = some none)
  (Zx:PySem.W.nsIn K mainGlobals "max" = some none)
  (Zy:PySem.W.nsIn K mainGlobals "sorted" = some none)
  (Zz:PySem.W.nsIn K mainGlobals "dict" = some none)
  (ZA:PySem.W.nsIn K mainGlobals "min" = some none)
  {Zk:Tok} (ZC:PySem.W.nsIn K mainGlobals "MOST_PAIRS" = some (some<|.int 6 Zk))
  {Zl:Tok} (ZD:PySem.W.nsIn K mainGlobals "MOST_THINGS" = some (some<|.int 8 Zl))
  {Zm:Tok} (ZE:PySem.W.nsIn K mainGlobals "FREE_THINGS" = some (some<|.int 5 Zm))
  : ∃fd:FuncData,(∀(s:aC) (v:af),BindsTo s fd ⟨[v],[]⟩ [("_law_script",v)])/\∀base:aq,K.In base->base.Ns mainGlobals mg->FnOk l.prog w K mg base nW 51 fa fd ["_law_script"] (pP K 1 yV):=by
 obtain⟨f,fd,a,F⟩:=a31;have e:=hfa.symm.trans (gC X G a)
 cases e
 have YL:=b9 X G Zo;have YR:=b9 X G Zp;have YF:=b9 X G Zq;have Yz:=b9 X G Zr;have YS:=b9 X G Zs;have YB:=b9 X G Zt;have YG:=b9 X G Zu;have YA:=b9 X G Zv;have YH:=b9 X G Zx;have Y0:=b9 X G Zy;have Y3:=b9 X G Zz;have Zf:=b9 X G ZA;have Y4:∃t,mg "MOST_PAIRS" = some (.int 6 t):=⟨Zk,gC X G ZC⟩;have Y5:∃t,mg "MOST_THINGS" = some (.int 8 t):=⟨Zl,gC X G ZD⟩;have Y6:∃t,mg "FREE_THINGS" = some (.int 5 t):=⟨Zm,gC X G ZE⟩;refine⟨fd,λs v=>(by obtain⟨_,_,_,_,_,_,_,_,_,rfl,_,_⟩:=F.ex;exact .of_eq rfl),λbase _ _=>?_⟩;have E:En l.prog w K mg base:=⟨h,X,G⟩;have YT:=a1.kA E (λF=>Cr F YL YR YF)<|OO λ_ _ _ _ _ _ _=>rfl;have YI:=a2.kA E (λF=>AA F Yz)<|F7 λ_ _ _ _ _ _ _ _=>rfl;have YO:=a3.kA E (λF=>Ng F Yz YS YB)<|OO λ_ _ _ _ _ _ _=>rfl;have YU:=a4.kA E (λF=>xx F YT)<|F7 λ_ _ _ _ _ _ _ _=>rfl;have YV:=a5.kA E (λF=>rP F YG YB)<|T4 λ_ _ _ _ _ _ _ _ _=>rfl;have YN:=a6.kA E (λF=>zH F Yz YU YV)<|F7 λ_ _ _ _ _ _ _ _=>rfl;have YW:=a7.kA E (λF=>wN F YA)<|OO λ_ _ _ _ _ _ _=>rfl;have YX:=a8.kA E (λF=>w9 F Yz YW)<|OO λ_ _ _ _ _ _ _=>rfl;have YE:=a9.kA E (λF=>HY F Yz YX)<|OO λ_ _ _ _ _ _ _=>rfl;have YM:=a10.kA E (λF=>JE F YA Yz)<|OO λ_ _ _ _ _ _ _=>rfl;have YY:=a11.kA E (λF=>qj F)<|OO λ_ _ _ _ _ _ _=>rfl;have YZ:=a12.kA E (λF=>RI F Yz YA YH YI YY)<|F7 λ_ _ _ _ _ _ _ _=>rfl;have YK:=a13.kA E (λF=>BK F YZ)<|F7 λ_ _ _ _ _ _ _ _=>rfl;have Y7:=a14.kA E (λF=>we F Yz YE)<|Yi λ_ _ _ _ _ _ _ _ _ _ _=>rfl;have YJ:=a15.kA E (λF=>ux F Y0)<|OO λ_ _ _ _ _ _ _=>rfl;have Y8:=a16.kA E (λF=>Oa F Y3 YJ)<|F7 λ_ _ _ _ _ _ _ _=>rfl;have Y9:=a17.kA E (λF=>IB F YJ)<|F7 λ_ _ _ _ _ _ _ _=>rfl;have Y_:=a18.kA E (λF=>zh F Y4 Y5 Y6 YI Y7)<|F7 λ_ _ _ _ _ _ _ _=>rfl;have M_rest_by_fall:∀{Fs:ad->iH->R A} {kr:Nat},nA l.prog w K mg base (4+2 * kr) "found_rest" jJ Fs->nA l.prog w K mg base (4+2 * kr+1) "rest_by_fall" kj (jV jT<|jt Fs):=λG=>a19.kA E (λF=>vf F YM YN Y8 Y9 G)<|T4 λ_ _ _ _ _ _ _ _ _=>rfl;have Za:=a20.rA E (λF hm hk hb=>qQ F YK M_rest_by_fall hm hk hb 22)<|T4 λ_ _ _ _ _ _ _ _ _=>rfl;have YD:=a21.kA E (λF=>NF F Y_ Za)<|F7 λ_ _ _ _ _ _ _ _=>rfl;have Zg:=a22.kA E (λF=>DR F Yz)<|F7 λ_ _ _ _ _ _ _ _=>rfl;have YC:=a23.kA E (λF=>Ad F)<|F7 λ_ _ _ _ _ _ _ _=>rfl;have Zd:=a24.kA E (λF=>zB F YG YA Yz YB YC)<|F7 λ_ _ _ _ _ _ _ _=>rfl;have Zc:=a25.kA E (λF=>x_ F)<|T4 λ_ _ _ _ _ _ _ _ _=>rfl;have Zb:=a26.kA E (λF=>tU F YA Yz)<|F7 λ_ _ _ _ _ _ _ _=>rfl;have Ze:=a27.kA E (λF=>zk F YA Yz YC Zb Zc)<|T4 λ_ _ _ _ _ _ _ _ _=>rfl;have Zh:=a28.kA E (λF=>A4 F YF YB YA YC Zd Ze)<|F7 λ_ _ _ _ _ _ _ _=>rfl;have YQ:=a29.kA E (λF=>B6 F YB Yz)<|OO λ_ _ _ _ _ _ _=>rfl;have Zi:=a30.kA E (λF=>A5 F YD YO YQ)<|T4 λ_ _ _ _ _ _ _ _ _=>rfl;exact Si F YA YH Zf Yz Zg Zh YD YE Zi
def walk{l:PySem.W.OpenLaw}{q:aj}{XP:(Str->bb)->aq->Prop}{YP:ah->aq->Prop}{d:DefRec}{K:Params->au}(hn:l.most=some 63)(hdf:d.params.defaults=[])
  (hY:∀(w:ah) (h:aq),YP w h->(K w.params).In h)
  (F:∀(w:ah) (mg:Str->bb) (fa:ak) (h:aq),(K w.params).In h->h.Ns mainGlobals mg->mg d.name=some (.ref fa) ->
   ∃fd:FuncData,(∀(s:aC) (u:af),BindsTo s fd ⟨[u],[]⟩ [("_law_script",u)])/\∀base:aq,(K w.params).In base->base.Ns mainGlobals mg->FnOk l.prog w (K w.params) mg base nW 51 fa fd ["_law_script"] (pP (K w.params) 1 yV)) :
  PySem.W.WalkO q loose XP YP l.row.toRowW d [] (λf vs=>PySem.call f vs):=
 L2.N6 (n:=63) (k:=51) (x := "_law_script") (CX:=λ_=>nW) (sp:=λw=>pP (K w.params) 1 yV) hn ⋯ hdf ⟨rfl,by decide,by decide⟩ hY F (λ_ H a ns hl hO hS=>HE hO hS<|RO ns hl) λ_ _ _ _ _ z=>z
end K36
open PySem PySem.W PyProof.Rows
namespace PySem.W.Fast
def tw8380041117413170219:=Nat
def tw7000793343711114677:=Nat
def tw11120381617939280268:=Nat
def tw8085157814660076417:=Nat
def tw12161159286174506329:=Nat
def tw7285001893658372048:=Nat
def tw13907298597081240077:=Nat
def tw12600818584030287891:=Nat
def tw16041952907731048399:=Nat
def tw10781171884590752751:=Nat
def tw3677083460080660025:=Nat
def tw5350110065397694952:=Nat
def tw14948409884672739372:=Nat
def tw10896763867761578196:=Nat
def tw13159482805560550882:=Nat
def tw8815846607713740385:=Nat
def tw4276459637023576181:=Nat
def tw15834726359350787534:=Nat
def tw5379755480132957996:=Nat
def tw5490012992052334623:=Nat
def tw5963869977060788788:=Nat
def tw8321694686719111577:=Nat
def tw14961711342258936244:=Nat
def tw11752981873603283413:=Nat
def tw17165153543031533793:=Nat
def tw1115660332532405396:=Nat
def tw10344927784570610715:=Nat
def tw1001882906005599560:=Nat
def tw9988020878836791670:=Nat
def tw3155187288837132286:=Nat
def tw4748591496368536143:=Nat
def tw2940842079671849247:=Nat
def tw8188920456299902676:=Nat
def tw16888952441676071966:=Nat
def tw5128774044201849406:=Nat
def tw12626409133341129961:=Nat
def tw15281972348950936079:=Nat
def tw3011295469572504750:=Nat
def tw14617564358529246210:=Nat
def tw4307474071031232704:=Nat
def tw8428415513849134484:=Nat
def tw2902589674046285545:=Nat
def tw17650075298972453741:=Nat
def tw7191476460696873146:=Nat
def tw8441635669868795606:=Nat
def tw432464588326015288:=Nat
def tw4565170194709743539:=Nat
def tw1127306153774203438:=Nat
def tw17300142263507155546:=Nat
def tw7979959067080490528:=Nat
def tw7744334714188265329:=Nat
def tw17511247251250563564:=Nat
def tw1672390800351666675:=Nat
def tw5497344436633979365:=Nat
def tw14923130939626479421:=Nat
def tw11564799716813478361:=Nat
def tw17465738674916276746:=Nat
def tw10116777938320851484:=Nat
def tw4867365858443588872:=Nat
def tw15386676048436982892:=Nat
def tw15970536169752000067:=Nat
def tw2062340806329911840:=Nat
def tw10560265749462595970:=Nat
def tw4616994434378726810:=Nat
def tw5045675910926981390:=Nat
def tw9436368739504948947:=Nat
def tw3149007533604242139:=Nat
def tw6601796846404024244:=Nat
def tw8209573814569289189:=Nat
def tw14217201379447708947:=Nat
def tw3829022502822600383:=Nat
def tw2239924342412906126:=Nat
def tw10299768151705311168:=Nat
def tw11690498898722506180:=Nat
def tw5034914175514409376:=Nat
def tw3552328930034532992:=Nat
def tw12319358204543193460:=Nat
def tw3269566131817180681:=Nat
def tw15488791633719624070:=Nat
def tw15455129667891626426:=Nat
def tw2717657751858022010:=Nat
def tw15922139468704587846:=Nat
def tw17303926520068112350:=Nat
def tw16430387393298531522:=Nat
def tw10473164398903979767:=Nat
def tw1585826041967693853:=Nat
def tw8473080556897397064:=Nat
def tw7519742228656861380:=Nat
def tw17373348055816261768:=Nat
def tw9439923216323748741:=Nat
def tw12075591226531742065:=Nat
def tw7171730572451244049:=Nat
def tw11779025896899033222:=Nat
def tw12322846756142434667:=Nat
def tw1034905867532580005:=Nat
def tw12244855897911103461:=Nat
def tw14964406725289123465:=Nat
def tw5268861782929248412:=Nat
def tw11280068549127723380:=Nat
def tw826311410520811090:=Nat
def tw11405050678142883184:=Nat
def tw632545818068020895:=Nat
def tw11371718972548202295:=Nat
def tw13093930992919707308:=Nat
def tw7565253327683801280:=Nat
def tw12905134019931334705:=Nat
def tw14580859561221288750:=Nat
def tw7323555835188216174:=Nat
def tw16005999204248872808:=Nat
def tw13699679170238625686:=Nat
def tw5157006765603078324:=Nat
def tw5047697614451281426:=Nat
def tw14277026066009893777:=Nat
def tw4229961430999852950:=Nat
def tw12808968044482818030:=Nat
def tw12203007594386828309:=Nat
def tw17412511845920110013:=Nat
def tw16357702603100145703:=Nat
def tw15587636294459050381:=Nat
def tw5302029199604739503:=Nat
def tw3481087518282289519:=Nat
def tw1717964567294012530:=Nat
def tw2968150123752362196:=Nat
def tw5930848647694811997:=Nat
def tw12272525416316424941:=Nat
def tw13881169885682431223:=Nat
def tw14279330508041161361:=Nat
def tw7571665152611361900:=Nat
def tw7019260494800847906:=Nat
def tw17637050905244538624:=Nat
def tw7144198155304187656:=Nat
def tw13649882278392907640:=Nat
def tw97127211211505144:=Nat
def tw4176572920121395234:=Nat
def tw1372599093452326073:=Nat
def tw6029810959348717044:=Nat
def tw7576321664819579610:=Nat
def tw5191819709651015051:=Nat
def tw2811133472023734658:=Nat
def tw11300589717146717491:=Nat
end PySem.W.Fast
set_option maxRecDepth 100000 in
set_option maxHeartbeats 0 in
theorem PySem.Challenge.cw_undercells_k36_rests_turned_over_holds : PySem.Challenge.rw_undercells_k36_rests_turned_over.Holds := by
 w_on;o_law;k_head;(case hw=>w_witness2)
 k_fill
 refine K36.walk (l:=PySem.Challenge.rw_undercells_k36_rests_turned_over) rfl rfl (fun w h Y=>PySem.W.kIn_of Y) ?F
 case F=>
  intro w mg fa h KX G hmg;refine' K36.all_mk KX G hmg (.of ?_ ?_ ?_ ?_) (.of ?_ ?_ ?_ ?_) (.of ?_ ?_ ?_ ?_) (.of ?_ ?_ ?_ ?_) (.of ?_ ?_ ?_ ?_) (.of ?_ ?_ ?_ ?_) (.of ?_ ?_ ?_ ?_) (.of ?_ ?_ ?_ ?_) (.of ?_ ?_ ?_ ?_) (.of ?_ ?_ ?_ ?_) (.of ?_ ?_ ?_ ?_) (.of ?_ ?_ ?_ ?_) (.of ?_ ?_ ?_ ?_) (.of ?_ ?_ ?_ ?_) (.of ?_ ?_ ?_ ?_) (.of ?_ ?_ ?_ ?_) (.of ?_ ?_ ?_ ?_) (.of ?_ ?_ ?_ ?_) (.of ?_ ?_ ?_ ?_) (.of ?_ ?_ ?_ ?_) (.of ?_ ?_ ?_ ?_) (.of ?_ ?_ ?_ ?_) (.of ?_ ?_ ?_ ?_) (.of ?_ ?_ ?_ ?_) (.of ?_ ?_ ?_ ?_) (.of ?_ ?_ ?_ ?_) (.of ?_ ?_ ?_ ?_) (.of ?_ ?_ ?_ ?_) (.of ?_ ?_ ?_ ?_) (.of ?_ ?_ ?_ ?_) (.of ?_ ?_ ?_ ?_) ?_ ?_ ?_ ?_ ?_ ?_ ?_ ?_ ?_ ?_ ?_ ?_ ?_ ?_ ?_
  any_goals first|k_is|kernel_rfl
