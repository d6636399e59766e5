import PyProof.Rows.All
import Wide.All
import OpenK.AllK
import Wide.FinOn
import Lean
import PyProof.EqAt
import PyProof.EqKinds
import PyProof.TupleCall
import PySem.Challenge.RW_undercells_k36_rests_turned_over
set_option autoImplicit true
set_option relaxedAutoImplicit true
set_option Elab.async false
set_option linter.all false
set_option maxRecDepth 100000
set_option maxHeartbeats 4000000
local macro_rules|`(command|abbrev $n:declId $s:optDeclSig $v:declVal)=>`(command|noncomputable def $n:declId $s:optDeclSig $v:declVal)|`(command|meta abbrev $n:declId $s:optDeclSig $v:declVal)=>`(command|@[reducible]noncomputable def $n:declId $s:optDeclSig $v:declVal)
local macro_rules|`(∅)=>`(by decide +kernel)
local macro_rules|`(⋯)=>`(by decide)
local macro_rules|`(tactic|dsimp[$l,*])=>`(tactic|simp only[$l,*])|`(tactic|dsimp[$l,*]$o:location)=>`(tactic|simp only[$l,*]$o:location)
local macro_rules(kind:=Lean.Parser.Term.structInst)|`({})=>`({cls:=.type "list",data:=.seq ([]:List PySem.Value).toArray})
set_option hygiene false
local macro_rules|`(tactic|z_go)=>`(tactic|obtain⟨ρ,S,τ,R,r,h⟩:=h9)
local macro_rules|`(tactic|x_go)=>`(tactic|obtain⟨ρ,S,a,b,R,va,vb,h⟩:=h9)
local macro_rules|`(tactic|w_up)=>`(tactic|intro pins s σ H Q I h)
local macro_rules|`(tactic|k_ne)=>`(tactic|intro X hP hw hK hc i pins s σ H E I hf st hg)
local macro_rules|`(tactic|kt_k)=>`(tactic|intro pins s σ H xs us Q I r h)
local macro_rules|`(tactic|kd_p)=>`(tactic|intro pins s σ H x y v u Q I rx ry h)
local macro_rules|`(tactic|gn_on)=>`(tactic|obtain⟨f0,f1,f2,f3,f4,f5⟩:=hf it (by simp))
local macro_rules|`(tactic|gp_on)=>`(tactic|refine⟨ρ,S,τ,R,r,iG (iM h) .refl λo S1 h1 ρ1 H1 x e1 R1 v1=>⟨ρ1,S1,τ,R1,r.ext e1,iG (iM h1) e1 λi S2 h2 ρ2 H2 y e2 R2 v2=>?_⟩⟩)
local macro_rules|`(tactic|kj_on)=>`(tactic|obtain⟨xs,hn,h⟩:=iR h)
local macro_rules|`(tactic|kcf_m)=>`(tactic|refine⟨ρ2,S2,o,i,a,R2,v1.ext e2,v2,va.ext (e1.trans e2),iG (iM h2) (e1.trans e2) λ_ S3 h3 ρ3 H3 e3 R3=>?_⟩)
local macro_rules|`(tactic|kcj_m)=>`(tactic|have hfree:∀y∈scope.names,y.2=.free->∃c,X.env.cells.lookup y.1=some c:=λy hy e=>I.ok.has _ (S.fr y hy e))
local macro_rules|`(tactic|kpc_g)=>`(tactic|obtain⟨w,rfl,ρ,S,x,R,hv,h⟩:=RP h0)
local macro_rules|`(tactic|kpf_c)=>`(tactic|obtain⟨u,rfl,rx⟩:=vals1 r)
local macro_rules|`(tactic|ksr_p)=>`(tactic|intro value slice pins s σ H x y v u Q I rx ry h hs)
local macro_rules|`(tactic|kst_p)=>`(tactic|obtain⟨ρ,S,τ,R,r,h⟩:=h)
local macro_rules|`(tactic|kln_w)=>`(tactic|intro pins s σ H D I h)
local macro_rules|`(tactic|kl_no)=>`(tactic|refine aV (wpS_lift (dX ⟨rfl,?_⟩)))
local macro_rules|`(tactic|mg_lt)=>`(tactic|obtain⟨t,rfl⟩:=rx)
local macro_rules|`(tactic|cb_eq)=>`(tactic|exact h3 ρ3 H3 σ ((e1.trans e2).trans e3) R3 (r.ext ((e1.trans e2).trans e3)))
local macro_rules|`(tactic|o_rec)=>`(tactic|exact I1.C6 (aQ _) (I1.hok.fresh (aQ _)))
local macro_rules|`(tactic|f_are)=>`(tactic|refine aV (jd (kJ hy) ?_))
set_option hygiene true
local macro_rules|`(())=>`(by lia)
@[reducible]def ae:=List Int
@[reducible]def ag:=List Nat
@[reducible]def ap:=List PySem.Str
@[reducible]def ar:=List PySem.Value
@[reducible]def ba:=List PySem.Addr
@[reducible]def bb:=Option PySem.Value
@[reducible]def bd:=Option Int
@[reducible]def bi:=Option Bool
@[reducible]def bj:=Option Nat
@[reducible]def bn:=List<|PySem.Addr×PySem.Obj
def aG:=@List.getElem?_eq_getElem
def aH:=@PySem.wpAny_bind
def aI:=@List.getD_eq_getElem?_getD
def aJ:=@if_neg
def aK:=@if_pos
def aL:=@List.length_map
def aM:=@List.getElem?_eq_some_iff
def aN:=@List.mem_cons_self
def aO:=@PySem.wpAny_pure
def aP:=@List.mem_cons_of_mem
def aQ:=@Nat.le_refl
def aR:=@PySem.Heap.get?_push_of_some
def aS:=@decide_eq_false
def aT:=@decide_eq_true
def aU:=@Option.some.inj
def aV:=@PyProof.Rows.wpS_bind
def aW:=@List.size_toArray
def aX:=@List.length_append
def aY:=@List.mem_of_getElem?
def aZ:=@Bool.false_eq_true
def a_:=@List.getElem?_map
def bg:=@PyProof.Rows.wpS_pure
def bh:=@List.getElem?_append_left
def bq:=@List.length_take
def br:=@PySem.Heap.lt_size
def bu:=@Option.map_eq_some_iff
def bz:=@List.length_cons
def bA:=@List.mem_append_right
def bB:=@PySem.Heap.get?_push_size
def bC:=@List.getElem?_eq_none
def bD:=@Nat.ne_of_lt
def bE:=@List.getElem?_set_self
def bF:=@List.mem_append
def bG:=@List.append_assoc
def bH:=@Bool.false_ne_true
def bI:=@List.mem_singleton
def bJ:=@List.mem_cons
def bK:=@beq_self_eq_true
def bL:=@List.getElem?_set_ne
def bM:=@Nat.lt_of_lt_of_le
def bN:=@if_false
def bO:=@List.length_set
def bP:=@Nat.le_trans
def bQ:=@PySem.wpAny_newObj_type
def bR:=@List.ext_getElem?
def bS:=@List.length_drop
def bU:=@List.map_cons
def bV:=@List.mem_map
def bW:=@List.drop_eq_getElem_cons
def bX:=@List.pairwise_append
def bY:=@List.getElem?_append_right
def bZ:=@List.pairwise_cons
def b9:=@PySem.W.mg_none_of
def b_:=@Bool.not_true
def cg:=@List.length_nil
def cj:=@List.map_append
def cu:=@PySem.PassesOwn.never
def cA:=@List.mem_of_mem_take
def cB:=@of_decide_eq_true
def cC:=@PyProof.Rows.slot_tuple_getitem
def cD:=@Array.length_toList
def cE:=@if_true
def cF:=@List.length_reverse
def cG:=@PyProof.Rows.wpS_forRange
def cH:=@List.map_map
def cI:=@List.find?_cons
def cJ:=@Option.bind_eq_some_iff
def cK:=@List.length_range
def cL:=@Nat.zero_le
def cM:=@PySem.W.kia_one
def cN:=@List.append_nil
def cO:=@Nat.lt_succ_self
def cP:=@List.countP_cons
def cQ:=@List.getElem?_range
def cR:=@PySem.sizeLine_eq
def cT:=@List.forall_mem_cons
def cU:=@List.take_of_length_le
def cV:=@List.getElem_map
def cW:=@beq_eq_false_iff_ne
def cX:=@List.replicate_succ
def cY:=@PySem.wpAny_truthy_bool
def cZ:=@List.reverse_cons
def c5:=@List.set_append_right
def c6:=@PySem.AutoSeq1.wpAny_loadPart'
def c7:=@List.nodup_cons
def c8:=@List.getElem_inj
def c9:=@List.length_eq_zero_iff
def c_:=@List.pairwise_singleton
def dc:=@List.getElem_mem
def dg:=@Ne.symm
def dh:=@PySem.wpAny_holding
def di:=@List.nodup_append
def dj:=@List.pairwise_iff_getElem
def dm:=@congrArg
def dw:=@List.take_append_drop
def dz:=@List.getElem?_reverse
def dB:=@Bool.and_eq_true
def dD:=@List.getElem?_take_of_lt
def dF:=@Int.zero_add
def dG:=@List.mem_range
def dH:=@List.mem_append_left
def dI:=@List.range_eq_range'
def dJ:=@Bool.not_false
def dM:=@List.flatten_cons
def dN:=@List.mem_filter
def dO:=@Option.map_some
def dP:=@PyProof.Rows.wpS_mono
def dQ:=@PyProof.Rows.callWith_type1
def dR:=@Int.add_zero
def dS:=@PySem.wpAny_call_entry
def dU:=@List.prefix_refl
def dW:=@PySem.F.slot_tuple_iterator_next
def dX:=@PySem.wpAny_rule
def dY:=@List.getElem?_drop
def dZ:=@of_decide_eq_false
def d7:=@List.getElem?_toArray
def d8:=@PySem.wpAny_passesOwn
def d9:=@List.foldl_cons
def d_:=@Nat.not_lt_zero
def eg:=@Int.toNat_natCast
def eo:=@PySem.wpAny_field
def eB:=@Nat.zero_add
def eE:=@List.pairwise_map
def eF:=@List.mem_of_mem_drop
def eG:=@List.foldl_append
def eK:=@PySem.mem_of_lookup
def eL:=@PySem.wpAny_callSpecial?_slot
def eN:=@Option.getD_some
def eO:=@List.getElem?_cons_succ
def eS:=@List.mem_reverse
def eT:=@PyProof.Rows.wpS_modify
def eU:=@List.prefix_append
def eV:=@List.getElem_range
def eW:=@PySem.wpAny_specialOf
def eX:=@Nat.min_eq_left
def eY:=@Nat.lt_irrefl
def eZ:=@PySem.wpAny_standAt
def e9:=@List.any_cons
def e_:=@Nat.add_assoc
def ff:=@Array.getElem?_toList
def fh:=@PySem.F.slot_dict_get
def fj:=@Array.toList_push
def fm:=@decide_eq_true_eq
def fq:=@List.flatMap_cons
def fu:=@PySem.Around.under_plainId
def fy:=@List.take_zero
def fB:=@List.reverse_reverse
def fC:=@List.nodup_nil
def fD:=@Int.le_refl
def fF:=@List.lookup_cons
def fG:=@List.range'_succ
def fH:=@Nat.sub_self
def fJ:=@List.ext_getElem
def fK:=@decide_eq_decide
def fL:=@Option.isSome_iff_exists
def fM:=@PySem.F.args_tuple_add_2
def fN:=@PySem.F.slot_list_getattribute
def fO:=@List.sum_cons
def fP:=@PySem.wpAny_mono
def fQ:=@PySem.wpAny_pyIter_tuple
def fR:=@Int.emod_lt_of_pos
def fS:=@Option.isSome_none
def fU:=@List.getElem?_replicate
def fV:=@PySem.F.entry_tuple_add
def fW:=@PySem.F.slot_tuple_add
def fX:=@PySem.wpAny_typeOf
def fY:=@PySem.Heap.size_push
def fZ:=@List.pairwise_lt_range
def f6:=@PySem.wpAny_seqItems
def f7:=@PySem.F.slot_tuple_hash
def f9:=@PyProof.Rows.wpS_get
def f_:=@List.take_succ_eq_append_getElem
def gb:=@List.take_add_one
def gc:=@Nat.lt_of_succ_lt_succ
def gf:=@List.map_set
def gg:=@List.eraseIdxIfInBounds_toArray
def gh:=@PySem.isSubtype_tuple_tuple
def gp:=@List.length_filter_le
def gq:=@List.eq_nil_or_concat
def gr:=@List.concat_eq_append
def gu:=@List.singleton_append
def gv:=@PySem.wpAny_forIn_list
def gw:=@List.take_length
def gz:=@List.cons_append
def gA:=@Option.bind_some
def gB:=@Bool.false_or
def gC:=@PySem.W.mg_of
def gD:=@PySem.F.args_object_init_2
def gE:=@List.getElem?_of_mem
def gF:=@List.mem_iff_getElem
def gG:=@Nat.mul_le_mul_right
def gH:=@PySem.wpAny_execs_nil
def gI:=@PySem.codeAny_builtin
def gJ:=@Int.le_antisymm
def gK:=@PySem.F.slot_tuple_eq
def gM:=@List.filter_map
def gO:=@Int.emod_nonneg
def gP:=@List.countP_eq_length_filter
def gQ:=@List.filterMap_cons
def gR:=@List.map_congr_left
def gS:=@PySem.codeAny_mono
def gT:=@Bool.false_and
def gU:=@PySem.wpAny_Call_Name_kw
def gW:=@PySem.Heap.IsSliceOf.new
def gX:=@PySem.tupleKind_room_in1
def gY:=@PySem.wpAny_tupleItemsOf
def gZ:=@Array.forIn_toList
def g4:=@List.Perm.refl
def g5:=@Nat.add_sub_cancel
def g6:=@PySem.slot_list_getitem
def g7:=@bne_self_eq_false
def g8:=@List.reverse_perm
def g9:=@PySem.Paired.length
def g_:=@PySem.evalPart_none
def h_:=@List.filter_cons
def ie:=@List.any_eq_true
def ig:=@List.mem_flatMap
def ir:=@Nat.le_of_lt
def iu:=@PySem.call_meets
def iy:=@List.of_mem_zip
def iz:=@List.drop_zero
def iA:=@Array.size_zip
def iB:=@Bool.and_false
@[reducible]def af:=PySem.Value
@[reducible]def ah:=PySem.World
@[reducible]def aj:=PySem.Program
@[reducible]def ak:=PySem.Addr
@[reducible]def aq:=PySem.Heap
@[reducible]def au:=PySem.W.Frag
@[reducible]def aA:=PySem.Around
@[reducible]def aC:=PySem.Shared
@[reducible]def aE:=PySem.Expr
@[reducible]def aF:=PySem.Stmt
def anI{a b:Prop}(h:a)(k:b):a/\b:=⟨h,k⟩
open Array (size_map)
open Int (add_assoc ediv_one)
open List (map_drop map_nil map_take)
open Nat (lt_or_ge lt_trans ne_of_gt pow_succ succ_mul)
open Option (getD_none isSome_map isSome_some)
namespace L2
open PySem PySem.Spec PyProof.Rows
meta abbrev Key:=Sum Int Str
abbrev yv:Key->af->Bool
 | .inl k,v=>Value.isInt k v
 | .inr x,v=>Value.isStrOf x v
abbrev Wk (w:ah):Key->Int
 | .inl k=>hashInt k
 | .inr x=>hashStr w x
def jM:∀{k:Key}{v:af},yv k v=true->(∃i t,k=Sum.inl i/\v=Value.int i t)\/(∃x t,k=Sum.inr x/\v=Value.str x t)
 | .inl i,v,h=>by
  obtain⟨t,e⟩:=Value.isInt_shape (k:=i) (v:=v) h;exact .inl ⟨i,t,rfl,e⟩
 | .inr x,v,h=>by
  obtain⟨t,e⟩:=Value.isStrOf_shape (x:=x) (v:=v) h;exact .inr ⟨x,t,rfl,e⟩
def HS(i:Int)(t:Tok):yv (.inl i) (.int i t)=true:=by simp[yv,Value.isInt]
def Hj(x:Str)(t:Tok):yv (.inr x) (.str x t)=true:=by simp[yv,Value.isStrOf]
def Tw(a b:Int):decide ((Sum.inl a:Key)=Sum.inl b)=(a == b):=by
 by_cases e:a=b
 ·subst e;simp
 ·have h:¬(Sum.inl a:Key)=Sum.inl b:=λq=>e<|Sum.inl.inj q;rw[aS h];exact(cW.mpr e).symm
def Q_(a b:Str):decide ((Sum.inr a:Key)=Sum.inr b)=decide (a=b):=by
 by_cases e:a=b
 ·subst e;simp
 ·have h:¬(Sum.inr a:Key)=Sum.inr b:=λq=>e<|Sum.inr.inj q;rw[aS h,aS e]
def Rg(a:Int)(b:Str):decide ((Sum.inl a:Key)=Sum.inr b)=false:=aS λq=>nomatch q
def Ti(a:Str)(b:Int):decide ((Sum.inr a:Key)=Sum.inl b)=false:=aS λq=>nomatch q
abbrev jo (prog:aj)(w:ah):PySem.KeyKind prog w Key where
 is:=yv
 hash:=Wk w
 inj:=λv a b ha hb=>by
  rcases jM ha with⟨i,t,rfl,rfl⟩|⟨x,t,rfl,rfl⟩
  ·rcases jM hb with⟨j,u,rfl,e⟩|⟨y,u,rfl,e⟩
   ·injection e with e1 _;rw[e1]
   ·exact nomatch e
  ·rcases jM hb with⟨j,u,rfl,e⟩|⟨y,u,rfl,e⟩
   ·exact nomatch e
   ·injection e with e1 _;rw[e1]
 byValue:=λk v h=>by
  rcases jM h with⟨i,t,rfl,rfl⟩|⟨x,t,rfl,rfl⟩<;>rfl
 pyHash:=λhv h=>by
  rcases jM hv with⟨i,t,rfl,rfl⟩|⟨x,t,rfl,rfl⟩
  ·exact wpAny_pyHash_int h
  ·exact wpAny_pyHash_str h
 eqBool:=λhu hv h=>by
  rcases jM hu with⟨i,t,rfl,rfl⟩|⟨x,t,rfl,rfl⟩
  ·rcases jM hv with⟨j,u,rfl,rfl⟩|⟨y,u,rfl,rfl⟩
   ·rw[Tw]at h;exact wpAny_eqBool_int h
   ·rw[Rg]at h;exact SeqAt.EqAt.int_str i t y u _ _ _ _ h
  ·rcases jM hv with⟨j,u,rfl,rfl⟩|⟨y,u,rfl,rfl⟩
   ·rw[Ti]at h;exact SeqAt.EqAt.str_int x t j u _ _ _ _ h
   ·rw[Q_]at h;exact wpAny_eqBool_str h
 «strs»:=λk x t v h=>by
  rcases jM h with⟨i,u,rfl,e⟩|⟨y,u,rfl,e⟩
  ·exact nomatch e
  ·injection e with e1 _
   subst e1
   cases v<;>rfl
def BN(prog:aj)(w:ah)(i:Int)(t:Tok):(jo prog w).is (.inl i) (.int i t)=true:=HS i t
def BQ(prog:aj)(w:ah)(x:Str)(t:Tok):(jo prog w).is (.inr x) (.str x t)=true:=Hj x t
inductive V where
 | non|bl (b:Bool)|int (i:Int)|str (x:Str)|byt (b:Array UInt8)|flt (b:UInt64)|ref (a:ak)|ty (n:String)
 deriving DecidableEq
abbrev RelV:V->af->Prop
 | .non,u=>u=Value.none
 | .bl b,u=>u=Value.bool b
 | .int i,u=>∃t,u=Value.int i t
 | .str x,u=>∃t,u=Value.str x t
 | .byt b,u=>∃t,u=Value.bytes b t
 | .flt b,u=>∃t,u=Value.float b t
 | .ref a,u=>u=Value.ref a
 | .ty n,u=>u=Value.type n
meta abbrev Vals:List V->ar->Prop:=Paired RelV
def Vals.length{xs:List V}{us:ar}(r:Vals xs us):xs.length=us.length:=g9 r
theorem Vals.get:∀{xs:List V}{us:ar}{i:Nat}{x:V},Vals xs us->xs[i]?=some x->∃u,us[i]?=some u/\RelV x u
 | _,_,_,_,.nil,e=>by simp at e
 | _,_,0,_,.cons r _,e=>by simp at e;subst e;exact⟨_,rfl,r⟩
 | _,_,i+1,x,.cons _ t,e=>by
  obtain⟨u,h1,h2⟩:=Vals.get (i:=i) (x:=x) t (by simpa using e);exact⟨u,by simpa using h1,h2⟩
theorem Vals.set{x:V}(r:RelV x u):∀{xs:List V}{us:ar}(i:Nat),Vals xs us->Vals (xs.set i x) (us.set i u)
 | _,_,_,.nil=>.nil
 | _,_,0,.cons _ t=>.cons r t
 | _,_,i+1,.cons q t=>.cons q<|Vals.set r i t
theorem Vals.append:∀{xs ys:List V}{us ws:ar},Vals xs us->Vals ys ws->Vals (xs++ys) (us++ws)
 | _,_,_,_,.nil,s=>s
 | _,_,_,_,.cons r t,s=>.cons r<|Vals.append t s
theorem Vals.take:∀{xs:List V}{us:ar}(n:Nat),Vals xs us->Vals (xs.take n) (us.take n)
 | _,_,0,_=>.nil
 | _,_,_+1,.nil=>.nil
 | _,_,n+1,.cons r t=>.cons r<|Vals.take n t
theorem Vals.drop:∀{xs:List V}{us:ar}(n:Nat),Vals xs us->Vals (xs.drop n) (us.drop n)
 | _,_,0,r=>r
 | _,_,_+1,.nil=>.nil
 | _,_,n+1,.cons _ t=>Vals.drop n t
abbrev uM:Option V->bb->Prop
 | some v,some u=>RelV v u
 | none,none=>True
 | _,_=>False
abbrev KV {κ:Type}:List (κ×V)->List (κ×af)->Prop:=Paired λ(p:κ×V) (q:κ×af)=>p.1=q.1/\RelV p.2 q.2
abbrev kV:Key->V
 | .inl i=>.int i
 | .inr x=>.str x
inductive HO where
 | lst (xs:List V)
 | tup (xs:List V)
 | dK (kvs:List<|Key×V)|dT (kvs:List<|List Key×V)
 | set (S:Int->Bool) (n:Nat)
 | ins (C dx:ak) (fs:List<|Str×V)
 | own (x:ak)
 | xd (fs:List<|Str×V)
 | met (f x:ak)
 | rng (lo hi:Int)
 | frz (o:Obj) (u:HO)
 | tbl (ps:Array af)
 | ext (φ:aq->Prop)
meta abbrev Hp:=ak->Option HO
abbrev upd (H:Hp)(a:ak)(o:HO):Hp:=λb=>if b=a then some o else H b
def jA{H:Hp}{a:ak}:upd H a o a=some o:=by unfold upd;rw[aK rfl]
def iS{H:Hp}{a:ak}(h:b≠a):upd H a o b=H b:=by unfold upd;rw[aJ h]
def Vx{H:Hp}{a:ak}(h:H a=some o)(h':H b=some u)(d:o≠u):a≠b:=by
 intro e;subst e;rw[h]at h';exact d<|aU h'
def iX{H:Hp}{a:ak}(h:H a=some o)(h':H b=none):a≠b:=by
 intro e;subst e;rw[h]at h';cases h'
abbrev lW (h:aq)(a:ak)(items:Array af):Prop:=∃o,h.get? a=some o/\o.cls=.type "tuple" /\ o.dict=none/\∃n,o.data=.seq items n
def lW.tup{a:ak}:lW h a items->IsTup h a items:=λ⟨o,e,c,_,n,d⟩=>⟨o,e,c,n,d⟩
def lW.new(h:aq)(items:Array af):lW (h.push { cls:=.type "tuple",data:=.seq items }) h.objs.size items:=⟨_,bB _ rfl,rfl,rfl,_,rfl⟩
def lW.lt{h:aq}{a:ak}(x:lW h a items):a<h.objs.size:=let⟨_,ho,_⟩:=x;br ho
section
variable (P:aj) (w:ah)
abbrev jD (H:Hp)(h:aq)(a:ak):HO->Prop
 | .lst xs=>xs.length<=sizeLine/\∃(its:ar) (n:Nat),Vals xs its/\h.get? a=some { cls:=.type "list",data:=.seq its.toArray n }
 | .tup xs=>xs.length<=sizeLine/\∃its:ar,Vals xs its/\lW h a its.toArray
 | .dK kvs=>kvs.length<=sizeLine/\(a == sysModules)=false/\∃vs,KV kvs vs/\h.DictOf (jo P w) a vs
 | .dT kvs=>kvs.length<=sizeLine/\(a == sysModules)=false/\∃xs:List<|List Key×ak×af,
   Paired (λ(p:List Key×V) (q:List Key×ak×af)=>p.1=q.1/\H q.2.1=some (.tup<|p.1.map kV)/\RelV p.2 q.2.2) kvs xs /\
   ∃o es ep,h.get? a=some o/\o.ExactDict/\o.data=.dict es ep/\es.toList=xs.map (entryOfKey<|tupleKind<|jo P w)/\(xs.map (·.1)).Nodup
 | .set S n=>h.SetOf (intKind P w) a S n
 | .ins C dx fs=>H dx=some (.own a)/\fs.length<=1000/\dx≠a/\h.get? a=some (PySem.W.instObj C dx) /\
   ∃mA,h.Ns1 dx mA/\(∀f,uM (fs.lookup f)<|mA f)/\PySem.Within mA (fs.map (·.1))
 | .own _=>∃o,h.get? a=some o
 | .xd fs=>∃mA,h.Ns1 a mA/\∀f,uM (fs.lookup f) (mA f)
 | .rng lo hi=>∃t u v,h.get? a=some { cls:=.type "range",data:=.fields #[.int lo t,.int hi u,.int 1 v]}
 | .frz o u=>h.get? a=some o/\jD H h a u
 | .tbl ps=>h.get? a=some { cls:=.none,data:=.fields ps }
 | .met f x=>h.get? a=some (PySem.W.methodObj (.ref f)<|.ref x)
 | .ext φ=>φ h/\(∃o,h.get? a=some o)/\∀h1 h2:aq,φ h1->(∀o,h1.get? a=some o->h2.get? a=some o)->φ h2
abbrev tu (H:Hp)(h:aq):Prop:=∀a o,H a=some o->jD P w H h a o
end
section
variable {P:aj}{w:ah}{H H':Hp}{h h':aq}{a:ak}{o:HO}
def jD.lt(x:jD P w H h a o):a<h.objs.size:=by
 cases o with
 | lst xs=>obtain⟨_,_,_,_,e⟩:=x;exact br e
 | tup xs=>obtain⟨_,_,_,p⟩:=x;exact lW.lt p
 | dK kvs=>obtain⟨_,_,_,_,o,_,_,e,_⟩:=x;exact br e
 | dT kvs=>obtain⟨_,_,_,_,o,_,_,e,_⟩:=x;exact br e
 | set S n=>obtain⟨o,_,_,_,e,_⟩:=x;exact br e
 | ins C dx fs=>obtain⟨_,_,_,e,_⟩:=x;exact br e
 | own y=>obtain⟨_,e⟩:=x;exact br e
 | xd fs=>obtain⟨_,⟨_,_,_,e,_⟩,_⟩:=x;exact br e
 | rng lo hi=>obtain⟨_,_,_,e⟩:=x;exact br e
 | frz ob u=>obtain⟨e,_⟩:=x;exact br e
 | tbl ps=>exact br (show h.get? a=some _ from x)
 | met f y=>exact br (show h.get? a=some _ from x)
 | ext φ=>obtain⟨_,⟨_,e⟩,_⟩:=x;exact br e
theorem Paired.S0{α β:Type}{F G:α->β->Prop}:∀{l₁:List α}{l₂:List β},Paired F l₁ l₂->(∀a b,F a b->G a b)->Paired G l₁ l₂
 | _,_,.nil,_=>.nil
 | _,_,.cons r t,f=>.cons (f _ _ r)<|Paired.S0 t f
def jD.stay(x:jD P w H h a o)(k:∀b u,(b=a\/H b=some (.own a))->h.get? b=some u->h'.get? b=some u)
  (ho:∀b,H b=some (.own a)->H' b=some (.own a)) (ht:∀b xs,H b=some (.tup xs)->H' b=some (.tup xs)):jD P w H' h' a o:=by
 induction o with
 | lst xs=>obtain⟨z,its,n,r,e⟩:=x;exact⟨z,its,n,r,k _ _ (.inl rfl) e⟩
 | tup xs=>obtain⟨z,its,r,ob,e,c⟩:=x;exact⟨z,its,r,ob,k _ _ (.inl rfl) e,c⟩
 | dK kvs=>obtain⟨z,y,vs,r,ob,es,ep,e,c⟩:=x;exact⟨z,y,vs,r,ob,es,ep,k _ _ (.inl rfl) e,c⟩
 | dT kvs=>
  obtain⟨z,y,xs,r,ob,es,ep,e,c⟩:=x;exact⟨z,y,xs,Paired.S0 r λp q z=>⟨z.1,ht _ _ z.2.1,z.2.2⟩,ob,es,ep,k _ _ (.inl rfl) e,c⟩
 | set S n=>obtain⟨ob,es,ep,t,e,c⟩:=x;exact⟨ob,es,ep,t,k _ _ (.inl rfl) e,c⟩
 | ins C dx fs=>
  obtain⟨d,z,ne,e,mA,⟨od,es,ep,e2,c⟩,r⟩:=x;exact⟨ho _ d,z,ne,k _ _ (.inl rfl) e,mA,⟨od,es,ep,k _ _ (.inr d) e2,c⟩,r⟩
 | own y=>obtain⟨ob,e⟩:=x;exact⟨ob,k _ _ (.inl rfl) e⟩
 | xd fs=>obtain⟨mA,⟨od,es,ep,e,c⟩,r⟩:=x;exact⟨mA,⟨od,es,ep,k _ _ (.inl rfl) e,c⟩,r⟩
 | rng lo hi=>obtain⟨t,u,v,e⟩:=x;exact⟨t,u,v,k _ _ (.inl rfl) e⟩
 | frz ob u ih=>obtain⟨e,q⟩:=x;exact⟨k _ _ (.inl rfl) e,ih q⟩
 | tbl ps=>
  have e:h.get? a=some { cls:=.none,data:=.fields ps }:=x
  skip
  exact k a _ (.inl rfl) e
 | met f y=>
  have e:h.get? a=some (PySem.W.methodObj (.ref f)<|.ref y):=x
  skip
  exact k a _ (.inl rfl) e
 | ext φ=>obtain⟨p,⟨o,e⟩,st⟩:=x;exact⟨st _ _ p λo q=>k _ _ (.inl rfl) q,⟨o,k _ _ (.inl rfl) e⟩,st⟩
def tu.lt(x:tu P w H h)(e:H a=some o):a<h.objs.size:=(x a o e).lt
def tu.fresh(x:tu P w H h)(e:h.objs.size<=a):H a=none:=by
 cases q:H a with
 | none=>rfl
 | some u=>exact absurd (bM (x.lt q) e)<|eY _
def tu.kept(x:tu P w H h)(k:∀b u,h.get? b=some u->h'.get? b=some u):tu P w H h':=λa o e=>
 (x a o e).stay (λb u _ q=>k b u q) (λ_ q=>q) λ_ _ q=>q
def tu.laid(x:tu P w H h)(k:∀b u,h.get? b=some u->h'.get? b=some u)(hp:h.objs.size<=a)(new:jD P w (upd H a o) h' a o):tu P w (upd H a o) h':=λb u e=>by
 have hn:=x.fresh hp;by_cases hb:b=a
 ·subst hb;rw[jA]at e;cases e;exact new
 ·rw[iS hb]at e;exact(x b u e).stay (λc v _ q=>k c v q) (λc q=>by rw[iS<|iX q hn];exact q) λc xs q=>by rw[iS<|iX q hn];exact q
end
abbrev Rd (H:Hp)(a:ak)(u:HO):Prop:=H a=some u\/∃o,H a=some (.frz o u)
def Rd.ok{P:aj}{w:ah}{H:Hp}{a:ak}(r:Rd H a u)(x:tu P w H h):jD P w H h a u:=by
 rcases r with r|⟨o,r⟩
 ·exact x a u r
 ·obtain⟨_,q⟩:=x a _ r;exact q
abbrev Uq:Option HO->Prop
 | some (.lst _)=>True
 | some (.dK _)=>True
 | some (.dT _)=>True
 | some (.set _ _)=>True
 | some (.ins _ _ _)=>True
 | some (.ext _)=>True
 | _=>False
section
variable {P:aj}{w:ah}{H:Hp}{h h':aq}{x e:ak}{o':HO}
def tu.write(ok:tu P w H h)(mu:Uq<|H x)(he:e=x\/H e=some (.own x))(k:∀b u,b≠e->h.get? b=some u->h'.get? b=some u)(heo:∃u,h'.get? e=some u)
  (new:jD P w (upd H x o') h' x o'):tu P w (upd H x o') h':=λb u q=>by
 have nown:∀c y,H c=some (.own y)->c≠x:=λc y r z=>by subst z;rw[r]at mu;exact mu
 have ntup:∀c xs,H c=some (.tup xs)->c≠x:=λc xs r z=>by subst z;rw[r]at mu;exact mu
 by_cases hb:b=x
 ·subst hb;rw[jA]at q;cases q;exact new
 ·rw[iS hb]at q;by_cases hbe:b=e
  ·have q':H b=some (.own x):=by
    rcases he with z|z
    ·exact absurd (hbe.trans z) hb
    ·rw[hbe];exact z
   rw[q]at q';cases q';obtain⟨v,hv⟩:=heo;exact⟨v,by rw[hbe];exact hv⟩
  ·refine(ok b u q).stay (λc v hc r=>k c v ?_ r) (λc r=>by rw[iS<|nown c b r];exact r) λc xs r=>by rw[iS<|ntup c xs r];exact r
   rcases hc with rfl|hc
   ·exact hbe
   ·rintro rfl
    rcases he with z|z
    ·exact nown c b hc z
    ·rw[hc]at z;cases z;exact hb rfl
end
structure Un (fs ex:ba)(H H':Hp)(h h':aq):Prop where
 keep:∀b o,h.get? b=some o->H b=none->b∉fs->b∉ex->h'.get? b=some o
 slot:∀b o,h.get? b=some o->H b=none->b∈fs->b∉ex->∃sl,h'.get? b=some { o with slots:=sl }
 free:∀b o,h.get? b=some o->H b=none->b∉ex->H' b=none
 there:∀b o,h.get? b=some o->b∉ex->∃o',h'.get? b=some o'
 tups:∀b xs,H b=some (.tup xs)->H' b=some (.tup xs)
 frzs:∀b o u,H b=some (.frz o u)->H' b=some (.frz o u)
 tbls:∀b ps,H b=some (.tbl ps)->∃more,H' b=some (.tbl<|ps++more)
section
variable {fs ex:ba}{H H1:Hp}{h h1 h':aq}{a x e:ak}{o:HO}
def Un.any(u:Un fs ex H H1 h h1){ob:Obj}(q:h.get? b=some ob)(n:H b=none)(hx:b∉ex):∃sl,h1.get? b=some { ob with slots:=sl }:=by
 by_cases hb:b∈fs
 ·exact u.slot b ob q n hb hx
 ·exact⟨ob.slots,u.keep b ob q n hb hx⟩
def Un.kept(k:∀b u,h.get? b=some u->h'.get? b=some u):Un fs ex H H h h':=
 ⟨λb ob q _ _ _=>k b ob q,λb ob q _ _ _=>⟨ob.slots,k b ob q⟩,λ_ _ _ n _=>n,λb ob q _=>⟨ob,k b ob q⟩,λ_ _ q=>q,λ_ _ _ q=>q,λ_ ps q=>⟨#[],by rw[q];simp⟩⟩
def Un.refl:Un fs ex H H h h:=Un.kept λ_ _ q=>q
def Un.laid(k:∀b u,h.get? b=some u->h'.get? b=some u)(hp:h.objs.size<=a)(hn:H a=none):Un fs ex H (upd H a o) h h' where
 keep:=λb u q _ _ _=>k b u q
 slot:=λb u q _ _ _=>⟨u.slots,k b u q⟩
 free:=λb u q n _=>by rw[iS<|bD<|bM (br q) hp];exact n
 there:=λb u q _=>⟨u,k b u q⟩
 tups:=λb xs q=>by rw[iS<|iX q hn];exact q
 frzs:=λb u xs q=>by rw[iS<|iX q hn];exact q
 tbls:=λb ps q=>⟨#[],by rw[iS<|iX q hn,q];simp⟩
def Un.write(mu:Uq<|H x)(he:e=x\/H e=some (.own x))(k:∀b u,b≠e->h.get? b=some u->h'.get? b=some u)(heo:∃u,h'.get? e=some u):Un fs ex H (upd H x o) h h':=by
 have hx:∀b,H b=none->b≠x:=λb n z=>by subst z;rw[n]at mu;exact mu
 have hb:∀b,H b=none->b≠e:=λb n z=>by
  subst z
  rcases he with r|r
  ·exact hx b n r
  ·rw[n]at r;cases r
 have hm:∀b u,H b=some u->¬Uq (some u)->b≠x:=λb u q nm z=>by subst z;rw[q]at mu;exact nm mu
 refine⟨λb u q n _ _=>k b u (hb b n) q,λb u q n _ _=>⟨u.slots,k b u (hb b n) q⟩,λb u q n _=>by rw[iS<|hx b n];exact n,λb u q _=>?_,
  λb xs q=>by rw[iS<|hm b _ q λz=>z];exact q,λb u xs q=>by rw[iS<|hm b _ q λz=>z];exact q,λb ps q=>⟨#[],by rw[iS<|hm b _ q λz=>z,q];simp⟩⟩
 by_cases hbe:b=e
 ·subst hbe;exact heo
 ·exact⟨u,k b u hbe q⟩
end
abbrev V4 (h:aq)(H:Hp):ba:=(List.range h.objs.size).filter λa=>(H a).isSome
abbrev zl (h:aq)(H:Hp):aq:=PySem.W.hideAll h<|V4 h H
def HW(h:aq)(H:Hp):(zl h H).objs.size=h.objs.size:=PySem.W.hideAll_size _ _
def J6{h:aq}{H:Hp}(e:h.get? b=some o)(n:H b=none):(zl h H).get? b=some o:=
 PySem.W.hideAll_get _ e λhm=>by
  have q:(H b).isSome=true:=(dN.mp hm).2;rw[n]at q;simp at q
def OL{h:aq}{H:Hp}(e:(zl h H).get? b=some o):h.get? b=some o/\H b=none:=by
 have e':h.get? b=some o:=PySem.W.of_hideAll (V4 h H) e;refine⟨e',?_⟩
 cases q:H b with
 | none=>rfl
 | some x=>
  have hm:b∈V4 h H:=dN.mpr ⟨dG.mpr<|br e',by simp[q]⟩;have z:(zl h H).get? b=none:=PySem.W.hideAll_none (V4 h H) hm;rw[z]at e;cases e
abbrev Oa (g h:aq)(L:ak):bn:=(List.range h.objs.size).filterMap λa=>if a=L\/(g.get? a).isSome=true then none else(h.get? a).map λo=>(a,o)
abbrev rest (g h:aq)(L d:ak):bn:=(Oa g h L).filter λp=>decide<|p.1≠d
structure Mod (K:au)(mg:Str->bb)(base:aq):Prop where
 kin:K.In base
 glob:base.Ns mainGlobals mg
 blt:∃mb,base.Ns builtinsNs mb/\∀x:Str,x ≠ "__name__" -> mb x=bootBuiltins x
 nolimit:base.NoLimit
structure Cx where
 prog:aj
 w:ah
 K:au
 mg:Str->bb
 base:aq
 A:aA
 N:ap
 s₀:aC
 H₀:Hp
 env:Env
 outer:List Env
 stack:List Env
 ex:ba
 fn:Str->Bool
 calm:Bool
 pn:bn
 xe:af->aC->Prop
abbrev frs (l:List Env):ba:=l.filterMap (·.frame)
meta abbrev Cx.fs (X:Cx):ba:=frs X.outer
abbrev T8 (sc:Scope)(x:Str):Prop:=sc.names.lookup x=some .local\/sc.names.lookup x=some .cell\/sc.names.lookup x=some .free
abbrev Loc (sc:Scope)(x:Str):Prop:=sc.names.lookup x=some .local\/sc.names.lookup x=some .cell
abbrev Look (env:Env)(h:aq)(m:Str->bb)(x:Str)(u:af):Prop:=
 (env.kindOf x=some .local/\m x=some u)\/((env.kindOf x=some .cell\/env.kindOf x=some .free)/\∃c,env.cells.lookup x=some c/\h.IsCell c (some u))
structure Cx.Ok (X:Cx):Prop where
 mod:Mod X.K X.mg X.base
 kind:X.env.scope.kind=.function
 glob:X.env.globals=mainGlobals
 blt:X.env.builtins=builtinsNs
 above:X.s₀.heap.objs.size<=X.env.locals
 inj:∀x y c,X.env.cells.lookup x=some c->X.env.cells.lookup y=some c->x=y
 has:∀x,(X.env.kindOf x=some .cell\/X.env.kindOf x=some .free)->∃c,X.env.cells.lookup x=some c
 cab:∀x c,X.fn x=true->X.env.cells.lookup x=some c->X.s₀.heap.objs.size<=c
 hd:X.calm=true->X.A.handled=none
 frames:X.A.frames=some X.stack
 stk:X.stack=X.outer\/(X.stack=X.env::X.outer/\X.env.frame=some X.env.locals)
 exf:∀b∈X.ex,b≠X.env.locals/\∀x c,X.env.cells.lookup x=some c->c≠b
 bs:∀b o,X.base.get? b=some o->X.s₀.heap.get? b=some o/\X.H₀ b=none
 bsz:X.base.objs.size<=X.s₀.heap.objs.size
 noex:∀b o,X.base.get? b=some o->b∉X.ex
 exfs:∀b∈X.ex,b∉X.fs
 xP:X.s₀.heap.FunFrames X.base X.outer
 frf:∀b∈X.fs,X.H₀ b=none
structure Inv (X:Cx)(pins:bn)(σ:List (Option V))(H:Hp)(s:aC):Prop where
 ok:X.Ok
 os:s.os=X.s₀.os
 bare:AllBare s.gens
 base:Un X.fs X.ex X.H₀ H X.s₀.heap s.heap
 loc:∃m,s.heap.Ns X.env.locals m/\∀(i:Nat) (x:Str) (v:V),X.N[i]?=some x->σ[i]?=some (some v)->T8 X.env.scope x->∃u,RelV v u/\Look X.env s.heap m x u
 cell:∀x c,X.env.cells.lookup x=some c->∃v,s.heap.IsCell c v
 free:H X.env.locals=none
 freeC:∀x c,X.env.cells.lookup x=some c->H c=none
 pin:∀p∈X.pn++pins,s.heap.get? p.1=some p.2/\H p.1=none/\p.1≠X.env.locals/\p.1∉X.fs/\∀v,p.2.data≠.cell v
 hok:tu X.prog X.w H s.heap
 len:σ.length=X.N.length
section
variable {X:Cx}{pins:bn}{σ:List (Option V)}{H H':Hp}{s:aC}{h':aq}
def Cx.Ok.WT(ok:X.Ok)(e:X.base.get? b=some o):b∉X.fs:=λhb=>by
 have:=(ok.xP.mem hb).1;rw[e]at this;cases this
def Inv.bs(I:Inv X pins σ H s):∀b o,X.base.get? b=some o->s.heap.get? b=some o/\H b=none:=λb o e=>
 ⟨I.base.keep b o (I.ok.bs b o e).1 (I.ok.bs b o e).2 (I.ok.WT e)<|I.ok.noex b o e,I.base.free b o (I.ok.bs b o e).1 (I.ok.bs b o e).2<|I.ok.noex b o e⟩
def Inv.bk(I:Inv X pins σ H s):∀b o,X.base.get? b=some o->s.heap.get? b=some o:=λb o e=>(I.bs b o e).1
def Inv.mod(I:Inv X pins σ H s):Mod X.K X.mg X.base:=I.ok.mod
def Inv.AN(I:Inv X pins σ H s):X.K.In s.heap:=I.ok.mod.kin.keeps I.bk
def Inv.lt(I:Inv X pins σ H s):X.env.locals<s.heap.objs.size:=let⟨_,hn,_⟩:=I.loc;hn.lt
def Inv.sz(I:Inv X pins σ H s):X.s₀.heap.objs.size<=s.heap.objs.size:=bP I.ok.above<|ir I.lt
def Inv.W5(I:Inv X pins σ H s){a:ak}(h:s.heap.objs.size<=a):a∉X.fs:=λhb=>by
 obtain⟨_,o,ho,_⟩:=I.ok.xP.mem hb;exact absurd (bM (br ho)<|bP I.sz h)<|eY _
def Inv.QL(I:Inv X pins σ H s):∀x c,X.env.cells.lookup x=some c->c≠X.env.locals:=λx c e z=>by
 obtain⟨v,o,ho,hd⟩:=I.cell x c e;obtain⟨m,⟨o',es,ep,ho',hd',_⟩,_⟩:=I.loc;rw[z,ho']at ho;cases ho;rw[hd']at hd;cases hd
def Inv.xP(I:Inv X pins σ H s):s.heap.FunFrames X.base X.outer:=by
 have all:∀(l:List Env),(∀b∈frs l,b∈X.fs)->X.s₀.heap.FunFrames X.base l->s.heap.FunFrames X.base l:=by
  intro l
  induction l with
  | nil=>intro _ _;trivial
  | cons env r ih=>
   intro hs hl;obtain⟨hk,⟨L,o,hf,hn,ho,hd⟩,hr⟩:=hl;have hL:L∈X.fs:=hs L (by unfold frs;rw[gQ,hf];exact aN);obtain⟨sl,e⟩:=I.base.slot L o ho (I.ok.frf L hL) hL λz=>I.ok.exfs L z hL;exact⟨hk,⟨L,_,hf,hn,e,hd⟩,ih (λb hb=>hs b<|by unfold frs;rw[gQ,hf];exact aP _ hb) hr⟩
 exact all X.outer (λ_ hb=>hb) I.ok.xP
def Inv.stack(I:Inv X pins σ H s):s.heap.FunFrames X.base X.stack:=by
 rcases I.ok.stk with e|⟨e,hf⟩
 ·rw[e];exact I.xP
 ·rw[e];obtain⟨m,hn,_⟩:=I.loc;refine .cons (by rw[I.ok.kind];decide) hf hn ?_ I.xP;exact Heap.get?_none_of_le<|bP I.ok.bsz I.ok.above
def Inv.CP(I:Inv X pins σ H s):∀b∈frs X.stack,b∈X.env.locals::X.fs:=λb hb=>by
 rcases I.ok.stk with e|⟨e,hf⟩
 ·rw[e]at hb;exact aP _ hb
 ·rw[e]at hb;unfold frs at hb;rw[gQ,hf]at hb;exact hb
def Inv.Gg(I:Inv X pins σ H s):∀b∈frs X.stack,H b=none:=λb hb=>by
 rcases bJ.mp (I.CP b hb)with e|hb
 ·rw[e];exact I.free
 ·obtain⟨_,o,ho,_⟩:=I.ok.xP.mem hb;exact I.base.free b o ho (I.ok.frf b hb) λz=>I.ok.exfs b z hb
def Inv.step{g':Array GenState}{t':Nat}{d':Drawn}{ch:ba}(I:Inv X pins σ H s)
  (hch:∀b∈ch,(b∈X.ex\/X.s₀.heap.objs.size<=b)/\b≠X.env.locals/\(∀x c,X.env.cells.lookup x=some c->c≠b)/\∀p∈X.pn++pins,p.1≠b)
  (keep:∀b o,b≠X.env.locals->b∉X.fs->b∉ch->s.heap.get? b=some o->H b=none->h'.get? b=some o)
  (slot:∀b o,b≠X.env.locals->b∈X.fs->b∉ch->s.heap.get? b=some o->H b=none->∃sl,h'.get? b=some { o with slots:=sl }) (free:∀b o,b∉ch->s.heap.get? b=some o->H b=none->H' b=none)
  (there:∀b o,b∉ch->s.heap.get? b=some o->∃o',h'.get? b=some o')
  (tups:∀b xs,H b=some (.tup xs)->H' b=some (.tup xs)) (frzs:∀b o u,H b=some (.frz o u)->H' b=some (.frz o u)) (tbls:∀b ps,H b=some (.tbl ps)->∃more,H' b=some (.tbl<|ps++more))
  (ns:∀m,s.heap.Ns X.env.locals m->h'.Ns X.env.locals m) (hok:tu X.prog X.w H' h') (hg:AllBare g') :
  Inv X pins σ H' { s with heap:=h',gens:=g',drawn:=d',toks:=t' }:=by
 have neL:∀b o,X.s₀.heap.get? b=some o->b≠X.env.locals:=λb o e=>bD<|bM (br e) I.ok.above;have neC:∀b o,X.s₀.heap.get? b=some o->b∉X.ex->b∉ch:=λb o e hx hb=>by
  rcases(hch b hb).1 with z|z
  ·exact hx z
  ·exact absurd (bM (br e) z)<|eY _
 have cellK:∀x c,X.env.cells.lookup x=some c->∀v,s.heap.IsCell c v->h'.IsCell c v:=λx c e v ⟨o,ho,hd⟩=>by
  have nch:c∉ch:=λz=>(hch c z).2.2.1 x c e rfl;by_cases hc:c∈X.fs
  ·obtain⟨sl,q⟩:=slot c o (I.QL x c e) hc nch ho<|I.freeC x c e;exact⟨_,q,hd⟩
  ·exact⟨o,keep c o (I.QL x c e) hc nch ho<|I.freeC x c e,hd⟩
 refine⟨I.ok,I.os,hg,⟨λb o e n hb hx=>?_,λb o e n hb hx=>?_,λb o e n hx=>?_,λb o e hx=>?_,λb xs e=>tups b xs<|I.base.tups b xs e,λb o xs e=>frzs b o xs<|I.base.frzs b o xs e,λb ps e=>?_⟩,?_,λx c e=>?_,?_,λx c e=>?_,λp hp=>?_,hok,I.len⟩
 ·exact keep b o (neL b o e) hb (neC b o e hx) (I.base.keep b o e n hb hx) (I.base.free b o e n hx)
 ·obtain⟨sl,e1⟩:=I.base.slot b o e n hb hx;obtain⟨sl',e2⟩:=slot b _ (neL b o e) hb (neC b o e hx) e1<|I.base.free b o e n hx;exact⟨sl',e2⟩
 ·obtain⟨o',e1⟩:=I.base.there b o e hx;exact free b o' (neC b o e hx) e1 (I.base.free b o e n hx)
 ·obtain⟨o',e1⟩:=I.base.there b o e hx;exact there b o' (neC b o e hx) e1
 ·obtain⟨m1,e1⟩:=I.base.tbls b ps e;obtain⟨m2,e2⟩:=tbls b _ e1;exact⟨m1++m2,by rw[e2,Array.append_assoc]⟩
 ·obtain⟨m,hn,hl⟩:=I.loc;refine⟨m,ns m hn,λi x v e1 e2 e3=>?_⟩;obtain⟨u,r,l⟩:=hl i x v e1 e2 e3;refine⟨u,r,?_⟩
  rcases l with l|⟨k,c,e,z⟩
  ·exact .inl l
  ·exact .inr ⟨k,c,e,cellK x c e _ z⟩
 ·obtain⟨v,z⟩:=I.cell x c e;exact⟨v,cellK x c e v z⟩
 ·obtain⟨m,⟨o,_,_,ho,_⟩,_⟩:=I.loc;exact free _ o (λz=>(hch _ z).2.1 rfl) ho I.free
 ·obtain⟨v,o,ho,hd⟩:=I.cell x c e;exact free c o (λz=>(hch c z).2.2.1 x c e rfl) ho (I.freeC x c e)
 ·obtain⟨e,n,ne,nf,d⟩:=I.pin p hp;have nch:p.1∉ch:=λz=>(hch p.1 z).2.2.2 p hp rfl;exact⟨keep p.1 p.2 ne nf nch e n,free p.1 p.2 nch e n,ne,nf,d⟩
def Inv.un{t':Nat}(I:Inv X pins σ H s)(u:Un X.fs [] H H' s.heap h')(hok:tu X.prog X.w H' h'):Inv X pins σ H' { s with heap:=h',toks:=t' }:=by
 obtain⟨m,⟨o,es,ep,ho,r⟩,_⟩:=id I.loc;obtain⟨sl,hL⟩:=u.any ho I.free (by simp);exact I.step (g':=s.gens) (d':=s.drawn) (ch:=[]) (nofun) (λb o _ hb _ e n=>u.keep b o e n hb<|by simp) (λb o _ hb _ e n=>u.slot b o e n hb<|by simp) (λb o _ e n=>u.free b o e n<|by simp) (λb o _ e=>u.there b o e<|by simp) u.tups u.frzs u.tbls (λm' hm=>by
  obtain⟨o',es',ep',ho',r'⟩:=hm;rw[ho]at ho';cases ho';exact⟨_,es',ep',hL,r'⟩) hok I.bare
def Inv.call{g':Array GenState}{t':Nat}{d':Drawn}{ch:ba}(I:Inv X pins σ H s)(u:Un (frs X.stack) ch H H' s.heap h')(hok:tu X.prog X.w H' h')(hg:AllBare g')
  (hch:∀b∈ch,(b∈X.ex\/X.s₀.heap.objs.size<=b)/\b≠X.env.locals/\(∀x c,X.env.cells.lookup x=some c->c≠b)/\∀p∈X.pn++pins,p.1≠b) :
  Inv X pins σ H' { s with heap:=h',gens:=g',drawn:=d',toks:=t' }:=by
 obtain⟨m,⟨o,es,ep,ho,r⟩,_⟩:=id I.loc;obtain⟨sl,hL⟩:=u.any ho I.free λz=>(hch _ z).2.1 rfl;exact I.step (ch:=ch) hch (λb o hL hb hc e n=>u.keep b o e n (λz=>(bJ.mp<|I.CP b z).elim hL hb) hc) (λb o _ _ hc e n=>u.any e n hc) (λb o hc e n=>u.free b o e n hc) (λb o hc e=>u.there b o e hc) u.tups u.frzs u.tbls (λm' hm=>by
  obtain⟨o',es',ep',ho',r'⟩:=hm;rw[ho]at ho';cases ho';exact⟨_,es',ep',hL,r'⟩) hok hg
def Inv.turned{t':Nat}{it:ak}(I:Inv X pins σ H s)(k:∀b o,b≠it->s.heap.get? b=some o->h'.get? b=some o)(hn:H it=none)(hL:it≠X.env.locals)
  (h1:it∈X.ex\/X.s₀.heap.objs.size<=it) (h2:∀x c,X.env.cells.lookup x=some c->c≠it) (h3:∀p∈X.pn++pins,p.1≠it):Inv X pins σ H { s with heap:=h',toks:=t' }:=by
 have nit:∀b u,H b=some u->b≠it:=λb u e z=>by rw[z,hn]at e;cases e
 refine I.step (g':=s.gens) (d':=s.drawn) (ch:=[it]) (λb hb=>?_) (λb o _ _ hc e _=>k b o (λz=>hc<|by simp[z]) e) (λb o _ _ hc e _=>⟨o.slots,k b o (λz=>hc<|by simp[z]) e⟩) (λ_ _ _ _ n=>n)
  (λb o hc e=>⟨o,k b o (λz=>hc<|by simp[z]) e⟩) (λ_ _ e=>e) (λ_ _ _ e=>e) (λb ps e=>⟨#[],by rw[e];simp⟩) (λm hm=>?_) (λb u e=>?_) I.bare
 ·have e:b=it:=by simpa using hb
  subst e;exact⟨h1,hL,h2,h3⟩
 ·obtain⟨o,es,ep,ho,r⟩:=hm;exact⟨o,es,ep,k _ o (dg hL) ho,r⟩
 ·refine(I.hok b u e).stay (λc v hc q=>k c v ?_ q) (λ_ q=>q) λ_ _ q=>q
  rcases hc with z|z
  ·rw[z];exact nit b u e
  ·exact nit c _ z
def Inv.tok(I:Inv X pins σ H s)(t:Nat):Inv X pins σ H { s with toks:=t }:=I.un (h':=s.heap) (t':=t) Un.refl I.hok
def Inv.kept{t':Nat}(I:Inv X pins σ H s)(k:∀b u,s.heap.get? b=some u->h'.get? b=some u):Inv X pins σ H { s with heap:=h',toks:=t' }:=I.un (Un.kept k)<|I.hok.kept k
def Inv.laid{a:ak}{t':Nat}(I:Inv X pins σ H s)(k:∀b u,s.heap.get? b=some u->h'.get? b=some u)(hp:s.heap.objs.size<=a)(new:jD X.prog X.w (upd H a o) h' a o) :
  Inv X pins σ (upd H a o) { s with heap:=h',toks:=t' }:=I.un (Un.laid k hp<|I.hok.fresh hp)<|I.hok.laid k hp new
def Inv.write{x e:ak}{t':Nat}(I:Inv X pins σ H s)(mu:Uq<|H x)(he:e=x\/H e=some (.own x))(k:∀b u,b≠e->s.heap.get? b=some u->h'.get? b=some u)(heo:∃u,h'.get? e=some u)
  (new:jD X.prog X.w (upd H x o) h' x o):Inv X pins σ (upd H x o) { s with heap:=h',toks:=t' }:=I.un (Un.write mu he k heo)<|I.hok.write mu he k heo new
def Inv.GN{pins':bn}(I:Inv X pins σ H s)(h:∀p∈pins',s.heap.get? p.1=some p.2/\H p.1=none/\p.1≠X.env.locals/\p.1∉X.fs/\∀v,p.2.data≠.cell v):Inv X pins' σ H s:=
 ⟨I.ok,I.os,I.bare,I.base,I.loc,I.cell,I.free,I.freeC,λp hp=>(bF.mp hp).elim (λz=>I.pin p<|dH _ z)<|h p,I.hok,I.len⟩
def A1{N:ap}(hN:N.Nodup){i j:Nat}{x:Str}(a:N[i]?=some x)(b:N[j]?=some x):i=j:=by
 obtain⟨h1,e1⟩:=aM.mp a;obtain⟨h2,e2⟩:=aM.mp b;exact(c8 hN).mp (e1.trans e2.symm)
def G0{A:aA}{E:af->aC->Prop}{i:Nat}{x:Str}{v:V}{Q:Unit->aC->Prop}(I:Inv X pins σ H s)(hN:X.N.Nodup)(hi:X.N[i]?=some x)(hx:Loc X.env.scope x)(r:RelV v u)
  (h:∀s',Inv X pins (σ.set i<|some v) H s'->(∃a,Heap.SameBut a s.heap s'.heap/\(a=X.env.locals\/X.env.cells.lookup x=some a))->Q Unit.unit s') (hf:X.fn x=true\/X.env.scope.names.lookup x=some .local:=by first|exact .inl rfl|exact .inr rfl|assumption):wpAny M A (storeName X.env x u) Q E s:=by
 obtain⟨m,hn,hl⟩:=id I.loc;have hcls:(X.env.scope.kind == .class || (X.env.scope.kind == .module && X.env.locals != X.env.globals))=false:=by rw[I.ok.kind];rfl
 have hiσ:i<σ.length:=by rw[I.len];exact(aM.mp hi).1
 have QL:=I.QL;have tracked:∀{a:ak} {h':aq},(∃o,s.heap.get? a=some o/\H a=none)->Heap.SameBut a s.heap h'->tu X.prog X.w H h':=λ{a h'} ha hs b ob e=>by
  obtain⟨_,_,hfree⟩:=ha;refine(I.hok b ob e).stay (λc w' hc q=>(hs.2 c ?_).trans q) (λ_ q=>q) λ_ _ q=>q;rintro rfl
  rcases hc with rfl|hc
  ·rw[hfree]at e;cases e
  ·rw[hfree]at hc;cases hc
 rcases hx with hk|hk
 ·refine wpAny_storeName_local hk hn (λh' hn' hs=>?_) hcls;obtain⟨oL,_,_,hoL,_⟩:=id hn;refine h _ ⟨I.ok,I.os,I.bare,⟨λb o e n hb hx=>?_,λb o e n hb hx=>?_,I.base.free,λb o e hx=>?_,I.base.tups,I.base.frzs,I.base.tbls⟩,⟨_,hn',λj y v' e1 e2 e3=>?_⟩,λy c e=>?_,I.free,I.freeC,λp hp=>?_,tracked ⟨oL,hoL,I.free⟩ hs,by simpa using I.len⟩ ⟨_,hs,.inl rfl⟩
  ·exact(hs.2 b<|bD<|bM (br e) I.ok.above).trans (I.base.keep b o e n hb hx)
  ·obtain⟨sl,e1⟩:=I.base.slot b o e n hb hx;exact⟨sl,(hs.2 b<|bD<|bM (br e) I.ok.above).trans e1⟩
  ·obtain⟨o',e1⟩:=I.base.there b o e hx;exact⟨o',(hs.2 b<|bD<|bM (br e) I.ok.above).trans e1⟩
  ·by_cases hj:j=i
   ·subst hj;rw[hi]at e1;cases e1;rw[bE hiσ]at e2
    cases e2
    exact⟨u,r,.inl ⟨hk,by simp⟩⟩
   ·rw[bL<|dg hj]at e2;obtain⟨u',r',q⟩:=hl j y v' e1 e2 e3;refine⟨u',r',?_⟩
    rcases q with⟨k,e⟩|⟨k,c,e,z⟩
    ·refine .inl ⟨k,?_⟩;have:y≠x:=λe=>hj<|A1 hN e1<|e ▸ hi;simp[this,e]
    ·exact .inr ⟨k,c,e,z.sameBut hs<|QL y c e⟩
  ·obtain⟨w',z⟩:=I.cell y c e;exact⟨w',z.sameBut hs<|QL y c e⟩
  ·obtain⟨e,n,ne,nf,d⟩:=I.pin p hp;exact⟨(hs.2 p.1 ne).trans e,n,ne,nf,d⟩
 ·have hfn:X.fn x=true:=by
   rcases hf with z|z
   ·exact z
   ·rw[z]at hk;cases hk
  obtain⟨c,hc⟩:=I.ok.has x<|.inl hk;obtain⟨w',z⟩:=I.cell x c hc;refine wpAny_storeName_cell I.ok.kind hk hc z λh' hc' hs=>?_;obtain⟨oc,hoc,hocd⟩:=id z;refine h { s with heap:=h' } ⟨I.ok,I.os,I.bare,⟨λb o e n hb hx=>?_,λb o e n hb hx=>?_,I.base.free,λb o e hx=>?_,I.base.tups,I.base.frzs,I.base.tbls⟩,⟨m,hn.sameBut hs<|dg<|QL x c hc,λj y v' e1 e2 e3=>?_⟩,λy c' e=>?_,I.free,I.freeC,λp hp=>?_,tracked ⟨oc,hoc,I.freeC x c hc⟩ hs,by simpa using I.len⟩ ⟨c,hs,.inr hc⟩
  ·exact(hs.2 b<|bD<|bM (br e)<|I.ok.cab x c hfn hc).trans (I.base.keep b o e n hb hx)
  ·obtain⟨sl,e1⟩:=I.base.slot b o e n hb hx;exact⟨sl,(hs.2 b<|bD<|bM (br e)<|I.ok.cab x c hfn hc).trans e1⟩
  ·obtain⟨o',e1⟩:=I.base.there b o e hx;exact⟨o',(hs.2 b<|bD<|bM (br e)<|I.ok.cab x c hfn hc).trans e1⟩
  ·by_cases hj:j=i
   ·subst hj;rw[hi]at e1;cases e1;rw[bE hiσ]at e2
    cases e2
    exact⟨u,r,.inr ⟨.inl hk,c,hc,hc'⟩⟩
   ·rw[bL<|dg hj]at e2;obtain⟨u',r',q⟩:=hl j y v' e1 e2 e3;refine⟨u',r',?_⟩
    rcases q with q|⟨k,c',e,z'⟩
    ·exact .inl q
    ·refine .inr ⟨k,c',e,z'.sameBut hs ?_⟩;rintro rfl;exact hj<|A1 hN e1<|I.ok.inj _ _ _ e hc ▸ hi
  ·by_cases hcc:c'=c
   ·subst hcc;exact⟨_,hc'⟩
   ·obtain⟨w2,z2⟩:=I.cell y c' e;exact⟨w2,z2.sameBut hs hcc⟩
  ·obtain⟨e,n,ne,nf,d⟩:=I.pin p hp;refine⟨(hs.2 p.1 ?_).trans e,n,ne,nf,d⟩;intro q;rw[q,hoc]at e;have q':oc=p.2:=aU e;exact d w'<|by rw[<- q'];exact hocd
def wk{A:aA}{E:af->aC->Prop}{i:Nat}{x:Str}{v:V}{Q:Unit->aC->Prop}(I:Inv X pins σ H s)(hN:X.N.Nodup)(hi:X.N[i]?=some x)(hx:Loc X.env.scope x)(r:RelV v u)
  (h:∀s',Inv X pins (σ.set i<|some v) H s'->Q Unit.unit s') (hf:X.fn x=true\/X.env.scope.names.lookup x=some .local:=by first|exact .inl rfl|exact .inr rfl|assumption):wpAny M A (storeName X.env x u) Q E s:=
 G0 I hN hi hx r (λs' I' _=>h s' I') hf
def Inv.QA{s':aC}{ch:ba}(I:Inv X pins σ H s)(ho:s'.os=s.os)(u:Un (frs X.stack) ch H H' s.heap s'.heap)(hok:tu X.prog X.w H' s'.heap)(hg:AllBare s'.gens)
  (hch:∀b∈ch,(b∈X.ex\/X.s₀.heap.objs.size<=b)/\b≠X.env.locals/\(∀x c,X.env.cells.lookup x=some c->c≠b)/\∀p∈X.pn++pins,p.1≠b):Inv X pins σ H' s':=by
 obtain⟨h',g',d',t',o'⟩:=s';have e:o'=s.os:=ho;subst e;exact I.call (g':=g') (t':=t') (d':=d') u hok hg hch
end
meta abbrev XK:=af->Option ak->Hp->Prop
meta abbrev St:=List<|Option V
meta abbrev VK:=V->Hp->Prop
meta abbrev TE:=St->Hp->VK->Prop
meta abbrev TT:=St->Hp->(Bool->Hp->Prop)->Prop
meta abbrev TA:=St->Hp->(List V->Hp->Prop)->Prop
structure Ends where
 nx:St->Hp->Prop
 rt:VK
 bk:St->Hp->Prop:=λ_ _=>False
 ct:St->Hp->Prop:=λ_ _=>False
meta abbrev TS:=Ends->St->Hp->Prop
abbrev EP (X:Cx)(pins:bn)(σ:St)(Q:VK)(u:af)(s':aC):Prop:=∃v H',Inv X pins σ H' s'/\RelV v u/\Q v H'
abbrev TP (X:Cx)(pins:bn)(σ:St)(Q:Bool->Hp->Prop)(b:Bool)(s':aC):Prop:=∃H',Inv X pins σ H' s'/\Q b H'
abbrev AP (X:Cx)(pins:bn)(σ:St)(Q:List V->Hp->Prop)(us:ar)(s':aC):Prop:=∃vs H',Inv X pins σ H' s'/\Vals vs us/\Q vs H'
abbrev SP (X:Cx)(pins:bn)(D:Ends)(f:Flow)(s':aC):Prop:=
 match f with
 | .next=>∃σ' H',Inv X pins σ' H' s'/\D.nx σ' H'
 | .brk=>∃σ' H',Inv X pins σ' H' s'/\D.bk σ' H'
 | .cont=>∃σ' H',Inv X pins σ' H' s'/\D.ct σ' H'
 | .ret u=>∃v σ' H',Inv X pins σ' H' s'/\RelV v u/\D.rt v H'
abbrev PE (X:Cx)(e:aE)(t:TE):Prop:=
 ∀(pins:bn) (s:aC) (σ:St) (H:Hp) (Q:VK),Inv X pins σ H s->t σ H Q->wpAny (model X.prog X.w) X.A (eval e X.env) (EP X pins σ Q) X.xe s
abbrev PT (X:Cx)(e:aE)(t:TT):Prop:=
 ∀(pins:bn) (s:aC) (σ:St) (H:Hp) (Q:Bool->Hp->Prop),Inv X pins σ H s->t σ H Q->wpAny (model X.prog X.w) X.A (isTrue e X.env<|eval e X.env) (TP X pins σ Q) X.xe s
abbrev PW (X:Cx)(e:aE)(t:TT):Prop:=
 ∀(whole:Sem af) (pins:bn) (s:aC) (σ:St) (H:Hp) (Q:Bool->Hp->Prop),Inv X pins σ H s->t σ H Q->wpAny (model X.prog X.w) X.A (isTrue e X.env whole) (TP X pins σ Q) X.xe s
abbrev PA (X:Cx)(es:List aE)(t:TA):Prop:=
 ∀(pos:Pos) (pins:bn) (s:aC) (σ:St) (H:Hp) (Q:List V->Hp->Prop),Inv X pins σ H s->t σ H Q->wpAny (model X.prog X.w) X.A (spliced<|backTo pos<|starEach es X.env) (AP X pins σ Q) X.xe s
abbrev PS (X:Cx)(st:aF)(t:TS):Prop:=
 ∀(pins:bn) (s:aC) (σ:St) (H:Hp) (D:Ends),Inv X pins σ H s->t D σ H->wpAny (model X.prog X.w) X.A (exec st X.env) (SP X pins D) X.xe s
abbrev zJ (X:Cx)(st:List aF)(t:TS):Prop:=
 ∀(pins:bn) (s:aC) (σ:St) (H:Hp) (D:Ends),Inv X pins σ H s->t D σ H->wpAny (model X.prog X.w) X.A (execs st X.env) (SP X pins D) X.xe s
def jN{α:Type}{t:Sem α}{Q Q':α->aC->Prop}{A:aA}{E:af->aC->Prop}(h:wpAny M A t Q E s)(hQ:∀a s,Q a s->Q' a s):wpAny M A t Q' E s:=fP h hQ λ_ _ x=>x
section
variable {X:Cx}
abbrev UQ (i:Nat):TE:=λσ H Q=>∃v,σ[i]?=some (some v)/\Q v H
abbrev tC (v:V):TE:=λ_ H Q=>Q v H
def MK{i:Nat}{x:Str}(hN:X.N[i]?=some x)(hv:T8 X.env.scope x)(hd:(x == ("__debug__" : Str))=false:=by decide)(hcd:(x == ("__classdict__" : Str))=false:=by decide):PE X (.Name x pos) (UQ i):=by
 w_up;obtain⟨v,e,h⟩:=h;obtain⟨m,hn,hl⟩:=I.loc;obtain⟨u,r,l⟩:=hl i x v hN e hv;have fin:EP X pins σ Q u s:=⟨v,H,I,r,h⟩
 rcases l with⟨hk,hm⟩|⟨hk,c,hc,hcell⟩
 ·exact wpAny_Name (wpAny_loadName_local I.ok.kind hk hn hm fin) hd
 ·rcases hk with hk|hk
  ·exact wpAny_Name (wpAny_loadName_cell I.ok.kind hk hc hcell fin) hd
  ·exact wpAny_Name (wpAny_loadName_free I.ok.kind hk hc hcell fin hcd) hd
def CG{i j pos}:PE X (.Constant (.int i) j pos) (tC<|.int i):=λ_ _ _ H _ I h=>wpAny_Constant_int ⟨.int i,H,I.tok _,⟨_,rfl⟩,h⟩
def UI{b j pos}:PE X (.Constant (.bool b) j pos) (tC<|.bl b):=λ_ _ _ H _ I h=>Constant_bool ⟨.bl b,H,I,rfl,h⟩
def Rj{j pos}:PE X (.Constant .none j pos) (tC .non):=λ_ _ _ H _ I h=>Constant_none ⟨.non,H,I,rfl,h⟩
abbrev Gl (X:Cx)(x:Str):Prop:=X.env.kindOf x=some .globalImplicit
def ED{E:af->aC->Prop}{H:Hp}{x:Str}{Q:af->aC->Prop}(I:Inv X pins σ H s)(hg:Gl X x)(hm:X.mg x=some u)(h:Q u s)
  (hd:(x == ("__debug__" : Str))=false:=by decide):wpAny (model X.prog X.w) X.A (eval (.Name x pos) X.env) Q E s:=
 Calls.Name_function_global I.ok.kind hg (Calls.loadGlobal_global (by rw[I.ok.glob];exact I.mod.glob.keeps I.bk) hm h) hd
def uW{E:af->aC->Prop}{H:Hp}{x:Str}{Q:af->aC->Prop}(I:Inv X pins σ H s)(hg:Gl X x)(hm:X.mg x=none)(hv:bootBuiltins x=some u)(h:Q u s)
  (hn:x ≠ "__name__" := by decide) (hd:(x == ("__debug__" : Str))=false:=by decide):wpAny (model X.prog X.w) X.A (eval (.Name x pos) X.env) Q E s:=by
 obtain⟨mb,h1,h2⟩:=I.mod.blt;exact Calls.Name_function_global I.ok.kind hg (Calls.loadGlobal_builtin (by rw[I.ok.glob];exact I.mod.glob.keeps I.bk) hm (by rw[I.ok.blt];exact h1.keeps I.bk) ((h2 x hn).trans hv) h) hd
def Pc{x:Str}{v:V}(hg:Gl X x)(hm:X.mg x=some u)(r:RelV v u)(hd:(x == ("__debug__" : Str))=false:=by decide):PE X (.Name x pos) (tC v):=
 λ_ _ _ H _ I h=>ED I hg hm ⟨v,H,I,r,h⟩ hd
def Ox{x:Str}{v:V}(hg:Gl X x)(hm:X.mg x=none)(hv:bootBuiltins x=some u)(r:RelV v u)(hn:x ≠ "__name__" := by decide)(hd:(x == ("__debug__" : Str))=false:=by decide):PE X (.Name x pos) (tC v):=
 λ_ _ _ H _ I h=>uW I hg hm hv ⟨v,H,I,r,h⟩ hn hd
variable {a b:aE}{ta tb:TE}{pos:Pos}
variable {tA tB':TT}{rest:List aE}
abbrev VH (t u:TT):TT:=λσ H Q=>t σ H λc H1=>if c=true then u σ H1 Q else Q false H1
abbrev XH (t u:TT):TT:=λσ H Q=>t σ H λc H1=>if c=true then Q true H1 else u σ H1 Q
abbrev Wy (t:TT):TT:=λσ H Q=>t σ H λc H1=>Q (!c) H1
def N4(ha:PT X a tA):PW X (.BoolOp .And [a] pos) tA:=by
 intro wh pins s σ H Q I h;refine isTrue_and (jN (ha pins s σ H Q I h) λc s1 e=>?_)
 cases c with
 | true=>exact isTrue_and_nil e
 | false=>exact e
def Tq(ha:PT X a tA):PW X (.BoolOp .Or [a] pos) tA:=by
 intro wh pins s σ H Q I h;refine isTrue_or (jN (ha pins s σ H Q I h) λc s1 e=>?_)
 cases c with
 | false=>exact isTrue_or_nil e
 | true=>exact e
def Tp(ha:PT X a tA)(hb:PW X (.BoolOp .And (b::rest) pos) tB'):PW X (.BoolOp .And (a::b::rest) pos) (VH tA tB'):=by
 intro wh pins s σ H Q I h;refine isTrue_and (jN (ha pins s σ H _ I h) λc s1 ⟨H1,I1,q1⟩=>?_)
 cases c with
 | true=>exact hb wh pins s1 σ H1 Q I1 q1
 | false=>exact⟨H1,I1,q1⟩
def Vc(ha:PT X a tA)(hb:PW X (.BoolOp .Or (b::rest) pos) tB'):PW X (.BoolOp .Or (a::b::rest) pos) (XH tA tB'):=by
 intro wh pins s σ H Q I h;refine isTrue_or (jN (ha pins s σ H _ I h) λc s1 ⟨H1,I1,q1⟩=>?_)
 cases c with
 | true=>exact⟨H1,I1,q1⟩
 | false=>exact hb wh pins s1 σ H1 Q I1 q1
def Tz(ha:PT X a tA):PT X (.UnaryOp .Not a pos) (Wy tA):=by
 w_up;exact isTrue_not<|ha pins s σ H (λc H1=>Q (!c) H1) I h
abbrev Uh (ta tb:TE):TE:=λσ H Q=>ta σ H λx H1=>∃c,x=.bl c/\if c=true then tb σ H1 Q else Q (.bl false) H1
abbrev U7 (ta:TE):TE:=λσ H Q=>ta σ H λx H1=>∃c,x=.bl c/\Q (.bl<|!c) H1
def RJ{op}{t:TE}(h:PE X a t):PE X (.BoolOp op [a] pos) t:=λpins s σ H Q I hw=>BoolOp_one<|h pins s σ H Q I hw
def QV(ha:PE X a ta)(hb:PE X (.BoolOp .And (b::rest) pos) tb):PE X (.BoolOp .And (a::b::rest) pos) (Uh ta tb):=by
 w_up;refine BoolOp_and<|jN (ha pins s σ H _ I h) λv s1 ⟨x,H1,I1,r1,q1⟩=>?_;obtain⟨c,rfl,q1⟩:=q1
 cases r1
 refine cY ?_
 cases c with
 | true=>exact hb pins s1 σ H1 Q I1 q1
 | false=>exact⟨.bl false,H1,I1,rfl,q1⟩
def QZ(ha:PE X a ta):PE X (.UnaryOp .Not a pos) (U7 ta):=by
 w_up;refine UnaryOp_<|jN (ha pins s σ H _ I h) λv s1 ⟨x,H1,I1,r1,q1⟩=>?_;obtain⟨c,rfl,q1⟩:=q1
 cases r1
 exact not_of<|cY ⟨.bl<|!c,H1,I1,rfl,q1⟩
end
abbrev nE (K:au)(H:Hp)(a:ak)(xs:List V):Prop:=
 Rd H a (.lst xs) \/
  ∃(o:Obj) (its:Array af) (n:Nat),K.lookup a=some o/\o.cls=.type "list" /\ o.dict=none/\o.data=.seq its n/\its.size<=sizeLine/\Vals xs its.toList
abbrev lR (K:au)(H:Hp)(a:ak)(xs:List V):Prop:=
 Rd H a (.tup xs) \/
  ∃(o:Obj) (its:Array af) (n:Nat),K.lookup a=some o/\o.cls=.type "tuple" /\ o.dict=none/\o.data=.seq its n/\its.size<=sizeLine/\Vals xs its.toList
abbrev W4:af->Option V
 | .none=>some .non
 | .bool b=>some (.bl b)
 | .int i _=>some (.int i)
 | .str x _=>some (.str x)
 | .bytes b _=>some (.byt b)
 | .float b _=>some (.flt b)
 | .ref a=>some (.ref a)
 | .type n=>some (.ty n)
 | _=>none
def RelV.abs{x:V}(r:RelV x u):W4 u=some x:=by
 cases x with
 | non=>cases r;rfl
 | bl _=>cases r;rfl
 | int _=>obtain⟨t,rfl⟩:=r;rfl
 | str _=>obtain⟨t,rfl⟩:=r;rfl
 | byt _=>obtain⟨t,rfl⟩:=r;rfl
 | flt _=>obtain⟨t,rfl⟩:=r;rfl
 | ref _=>cases r;rfl
 | ty _=>cases r;rfl
def RelV.inj{x:V}(r:RelV x u)(q:RelV y u):x=y:=aU<|r.abs.symm.trans q.abs
theorem Vals.inj:∀{xs ys:List V}{us:ar},Vals xs us->Vals ys us->xs=ys
 | _,_,_,.nil,.nil=>rfl
 | _,_,_,.cons r t,.cons r' t'=>by rw[r.inj r',Vals.inj t t']
section
variable {X:Cx}{pins:bn}{σ:St}{H:Hp}{s:aC}{a:ak}{xs ys:List V}
def nE.of{K:au}(h:H a=some (.lst xs)):nE K H a xs:=.inl<|.inl h
def lR.of{K:au}(h:H a=some (.tup xs)):lR K H a xs:=.inl<|.inl h
def Inv.list(I:Inv X pins σ H s)(h:nE X.K H a xs):∃its:ar,Vals xs its/\PlainL s.heap a its.toArray/\xs.length<=sizeLine:=by
 rcases h with h|⟨o,its,n,hk,hc,hd,hs,hz,r⟩
 ·obtain⟨z,its,n,r,e⟩:=h.ok I.hok;exact⟨its,r,⟨_,n,e,rfl,rfl,rfl⟩,z⟩
 ·refine⟨its.toList,r,⟨o,n,I.AN a o hk,hc,hd,by simpa using hs⟩,?_⟩;have e:=r.length;dsimp[cD]at e
  lia
def Inv.tuple(I:Inv X pins σ H s)(h:lR X.K H a xs):∃its:ar,Vals xs its/\IsTup s.heap a its.toArray/\xs.length<=sizeLine:=by
 rcases h with h|⟨o,its,n,hk,hc,_,hs,hz,r⟩
 ·obtain⟨z,its,r,p⟩:=h.ok I.hok;exact⟨its,r,p.tup,z⟩
 ·refine⟨its.toList,r,⟨o,I.AN a o hk,hc,n,by simpa using hs⟩,?_⟩;have e:=r.length;dsimp[cD]at e
  lia
def Inv.JA(I:Inv X pins σ H s)(h:nE X.K H a xs)(h':nE X.K H a ys):xs=ys:=by
 obtain⟨its,r,⟨o,n,e,_,_,d⟩,_⟩:=I.list h;obtain⟨its',r',⟨o',n',e',_,_,d'⟩,_⟩:=I.list h';rw[e]at e';cases e';rw[d]at d'
 injection d' with d1 _
 have:its=its':=by simpa using dm Array.toList d1
 subst this;exact r.inj r'
def Inv.uC(I:Inv X pins σ H s)(h:lR X.K H a xs)(h':lR X.K H a ys):xs=ys:=by
 obtain⟨its,r,⟨o,e,_,n,d⟩,_⟩:=I.tuple h;obtain⟨its',r',⟨o',e',_,n',d'⟩,_⟩:=I.tuple h';rw[e]at e';cases e';rw[d]at d'
 injection d' with d1 _
 have:its=its':=by simpa using dm Array.toList d1
 subst this;exact r.inj r'
end
meta abbrev Cx.yi (X:Cx)(E:af->aC->Prop):Cx:={ X with xe:=E }
meta abbrev Cx.Uj (X:Cx):Cx:=X.yi λ_ _=>False
def Cx.Ok.yi{X:Cx}(ok:X.Ok)(E:af->aC->Prop):(X.yi E).Ok:=
 ⟨ok.mod,ok.kind,ok.glob,ok.blt,ok.above,ok.inj,ok.has,ok.cab,ok.hd,ok.frames,ok.stk,ok.exf,ok.bs,ok.bsz,ok.noex,ok.exfs,ok.xP,ok.frf⟩
def Cx.Ok.rj{X:Cx}{E:af->aC->Prop}(ok:(X.yi E).Ok):X.Ok:=
 ⟨ok.mod,ok.kind,ok.glob,ok.blt,ok.above,ok.inj,ok.has,ok.cab,ok.hd,ok.frames,ok.stk,ok.exf,ok.bs,ok.bsz,ok.noex,ok.exfs,ok.xP,ok.frf⟩
section
variable {X:Cx}{pins:bn}{σ:St}{H:Hp}{s:aC}{E:af->aC->Prop}
def Inv.yi(I:Inv X pins σ H s)(E:af->aC->Prop):Inv (X.yi E) pins σ H s:=⟨I.ok.yi E,I.os,I.bare,I.base,I.loc,I.cell,I.free,I.freeC,I.pin,I.hok,I.len⟩
def Inv.rj(I:Inv (X.yi E) pins σ H s):Inv X pins σ H s:=⟨I.ok.rj,I.os,I.bare,I.base,I.loc,I.cell,I.free,I.freeC,I.pin,I.hok,I.len⟩
def SP.rj{D:Ends}{f:Flow}(h:SP (X.yi E) pins D f s'):SP X pins D f s':=by
 cases f with
 | next=>obtain⟨σ',H',I,q⟩:=h;exact⟨σ',H',I.rj,q⟩
 | brk=>obtain⟨σ',H',I,q⟩:=h;exact⟨σ',H',I.rj,q⟩
 | cont=>obtain⟨σ',H',I,q⟩:=h;exact⟨σ',H',I.rj,q⟩
 | ret u=>obtain⟨v,σ',H',I,r,q⟩:=h;exact⟨v,σ',H',I.rj,r,q⟩
def zJ.Uj{st:List aF}{t:TS}(h:zJ X.Uj st t):zJ X st t:=λpins s σ H D I hw=>
 fP (h pins s σ H D (I.yi _) hw) (λ_ _ q=>q.rj) λ_ _ z=>False.elim z
end
section
variable {X:Cx}{st:aF}{rest:List aF}{t u:TS}{e:aE}{te:TE}{pos:Pos}
abbrev Vu:TS:=λD σ H=>D.nx σ H
abbrev UP (t u:TS):TS:=λD σ H=>t { D with nx:=u D } σ H
def OP:zJ X [] Vu:=λ_ _ σ H _ I h=>gH ⟨σ,H,I,h⟩
def Le(h1:PS X st t)(h2:zJ X rest u):zJ X (st::rest) (UP t u):=by
 kln_w;refine wpAny_execs_cons (jN (h1 pins s σ H { D with nx:=u D } I h) λf s1 q=>?_)
 cases f with
 | next=>
  obtain⟨σ',H',I',q⟩:=q;exact h2 pins s1 σ' H' D I' q
 | ret v=>exact q
 | brk=>exact q
 | cont=>exact q
def Nt(h1:PS X st t):zJ X [st] t:=by
 kln_w;refine wpAny_execs_cons (jN (h1 pins s σ H D I h) λf s1 q=>?_)
 cases f with
 | next=>exact gH q
 | ret v=>exact q
 | brk=>exact q
 | cont=>exact q
def Inv.quiet{H:Hp}(I:Inv X pins σ H s):interactive X.env=false:=by simp[interactive,I.ok.kind]
abbrev Ui (te:TE):TS:=λD σ H=>te σ H λ_ H1=>D.nx σ H1
def OS(he:PE X e te)(hs:swapsWith e none pos.line X.env=pure false:=by rfl):PS X (.Expr e pos) (Ui te):=by
 kln_w;exact wpAny_Expr_any (jN (he pins s σ H _ I h) λv s1 ⟨x,H1,I1,r1,q1⟩=>⟨σ,H1,I1,q1⟩) I.quiet hs
abbrev W9 (te:TE):TS:=λD σ H=>te σ H D.rt
def SH(he:PE X e te):PS X (.Return (some e) pos) (W9 te):=by
 kln_w;exact wpAny_Return_some<|jN (he pins s σ H _ I h) λv s1 ⟨x,H1,I1,r1,q1⟩=>⟨x,σ,H1,I1,r1,q1⟩
abbrev Ur:TS:=λD _ H=>D.rt .non H
def Of:PS X (.Return none pos) Ur:=λ_ _ σ H _ I h=>wpAny_Return_none ⟨.non,σ,H,I,rfl,h⟩
abbrev WE (c:TT)(t u:TS):TS:=λD σ H=>c σ H λb H1=>if b=true then t D σ H1 else u D σ H1
def UE{c:aE}{a:List aF}{tc:TT}(hc:PT X c tc)(ha:zJ X a t)(hb:zJ X b u):PS X (.If c a b pos) (WE tc t u):=by
 kln_w;refine wpAny_If (jN (hc pins s σ H _ I h) λd s1 ⟨H1,I1,q1⟩=>?_)
 cases d with
 | true=>exact ha pins s1 σ H1 D I1 q1
 | false=>exact hb pins s1 σ H1 D I1 q1
abbrev TL:TS:=λ_ _ _=>False
def K1:PS X st TL:=λ_ _ _ _ _ _ h=>h.elim
end
meta abbrev TG:=V->St->Hp->(St->Hp->Prop)->Prop
meta abbrev P5:=List V->St->Hp->(St->Hp->Prop)->Prop
abbrev PG (X:Cx)(target:aE)(t:TG):Prop:=
 ∀(pins:bn) (s:aC) (σ:St) (H:Hp) (v:V) (u:af) (Q:St->Hp->Prop),Inv X pins σ H s->RelV v u->t v σ H Q ->
  wpAny (model X.prog X.w) X.A (assign target X.env u) (λ_ s'=>∃σ' H',Inv X pins σ' H' s'/\Q σ' H') X.xe s
abbrev UJ (X:Cx)(ts:List aE)(t:P5):Prop:=
 ∀(pins:bn) (s:aC) (σ:St) (H:Hp) (vs:List V) (us:ar) (Q:St->Hp->Prop),Inv X pins σ H s->Vals vs us->t vs σ H Q ->
  wpAny (model X.prog X.w) X.A (assignInOrder ((assignEach ts X.env).map (·.2)) us) (λ_ s'=>∃σ' H',Inv X pins σ' H' s'/\Q σ' H') X.xe s
meta abbrev Cf:=V->V->V->Hp->(Hp->Prop)->Prop
abbrev Bh (X:Cx)(t:Cf):Prop:=
 ∀(pins:bn) (s:aC) (σ:St) (H:Hp) (o i v:V) (ov iv u:af) (Q:Hp->Prop),Inv X pins σ H s->RelV o ov->RelV i iv->RelV v u->t o i v H Q ->
  wpAny (model X.prog X.w) X.A (setItem ov iv u) (λ_ s'=>∃H',Inv X pins σ H' s'/\Q H') X.xe s
meta abbrev TR:=V->V->Hp->VK->Prop
abbrev PK (X:Cx)(op:Operator)(t:TR):Prop:=
 ∀(pins:bn) (s:aC) (σ:St) (H:Hp) (x y:V) (v u:af) (Q:VK),Inv X pins σ H s->RelV x v->RelV y u->t x y H Q ->
  wpAny (model X.prog X.w) X.A (inplaceOp op v u) (EP X pins σ Q) X.xe s
section
variable {X:Cx}{pos:Pos}
abbrev PY (i:Nat):TG:=λv σ H Q=>Q (σ.set i<|some v) H
def Pe{i:Nat}{x:Str}(hN:X.N.Nodup)(hi:X.N[i]?=some x)(hx:Loc X.env.scope x)(hf:X.fn x=true\/X.env.scope.names.lookup x=some .local:=by first|exact .inl rfl|exact .inr rfl|assumption):PG X (.Name x pos) (PY i):=by
 intro pins s σ H v u Q I r h;exact wpAny_assign_Name<|wk I hN hi hx r (λs' I'=>⟨_,H,I',h⟩) hf
abbrev Xf:P5:=λvs σ H Q=>vs=[]/\Q σ H
abbrev U0 (t:TG)(u:P5):P5:=λvs σ H Q=>∃v r,vs=v::r/\t v σ H λσ' H'=>u r σ' H' Q
def NJ:UJ X [] Xf:=by
 intro pins s σ H vs us Q I r h;obtain⟨e,h⟩:=h;subst e
 cases r
 exact assignInOrder_nil ⟨σ,H,I,h⟩
def JT{e:aE}{t:TG}{u:P5}(h1:PG X e t)(h2:UJ X es u)
  (hs:(assignEach (e::es) X.env).map (·.2)=assign e X.env::(assignEach es X.env).map (·.2):=by rfl):UJ X (e::es) (U0 t u):=by
 intro pins s σ H vs us Q I r h;obtain⟨v,vr,e1,h⟩:=h;subst e1
 cases r with
 | cons r rr=>
  rw[hs];refine assignInOrder_cons<|jN (h1 pins s σ H _ _ _ I r h) λ_ s1 ⟨σ1,H1,I1,q1⟩=>?_;exact h2 pins s1 σ1 H1 _ _ Q I1 rr q1
abbrev Xq (K:au)(n:Nat)(t:P5):TG:=λv σ H Q=>∃a xs,v=.ref a/\lR K H a xs/\xs.length=n/\t xs σ H Q
def TH{k:Nat}{t:P5}{n:Nat}(hc:X.calm=true)(h:UJ X es t)
  (hn:(assignEach es X.env).length=n:=by rfl) (hst:(assignEach es X.env).findIdx? (·.1)=none:=by rfl):PG X (.Tuple es k pos) (Xq X.K n t):=by
 intro pins s σ H v u Q I r hw;obtain⟨a,xs,e1,hq,hl,hw⟩:=hw;subst e1
 cases r
 obtain⟨its,rv,ht,hz⟩:=I.tuple hq;refine assign_Tuple_tuple (I.ok.hd hc) ht (by simp[hn,<- hl,rv.length]) hst λh' hx=>?_;have I1:Inv X pins σ H { s with heap:=h' }:=I.kept (t':=s.toks) λb o e=>hx b o (bD<|br e) e;exact h pins _ σ H xs _ Q I1 (by simpa using rv) hw
abbrev Xa (to ti:TE)(t:Cf):TG:=λv σ H Q=>to σ H λo H1=>ti σ H1 λi H2=>t o i v H2 λH3=>Q σ H3
def DE{to ti:TE}{t:Cf}(ho:PE X o to)(hi:PE X i ti)(hs:Bh X t)
  (ha:∀v,assign (.Subscript o i pos) X.env v=(do
   let ov <- holding [v] (eval o X.env)
   let iv <- holding [v,ov] (eval i X.env)
   standAt pos
   holding [v,ov,iv] (setItem ov iv v)
   release [v,ov,iv] []):=by intro _;rfl):PG X (.Subscript o i pos) (Xa to ti t):=by
 intro pins s σ H v u Q I r h;rw[ha];refine aH<|dh<|jN (ho pins s σ H _ I h) λov s1 ⟨x,H1,I1,r1,q1⟩=>?_;refine aH<|dh<|jN (hi pins s1 σ H1 _ I1 q1) λiv s2 ⟨y,H2,I2,r2,q2⟩=>?_;refine aH<|eZ<|aH<|dh<|jN (hs pins s2 σ H2 x y v ov iv u _ I2 r1 r2 r q2) λ_ s3 ⟨H3,I3,q3⟩=>?_;exact wpAny_release ⟨σ,H3,I3,q3⟩
abbrev QT (te:TE)(g:TG):TS:=λD σ H=>te σ H λx H1=>g x σ H1 D.nx
def SQ{tg e:aE}{te:TE}{g:TG}(he:PE X e te)(hg:PG X tg g)(hs:swapsWithSole [tg] e pos.line X.env=pure false:=by rfl)(hw:swappedStores [tg] e X.env=pure none:=by rfl)
  (h1:(assignEach [tg] X.env).map (·.2)=[assign tg X.env]:=by rfl):PS X (.Assign [tg] e pos) (QT te g):=by
 kln_w;refine wpAny_Assign_stores (jN (he pins s σ H _ I h) λv s1 ⟨x,H1,I1,r1,q1⟩=>?_) hs hw;rw[h1];exact jN (hg pins s1 σ H1 x v _ I1 r1 q1) λ_ s2 q=>q
def Rt{i:Nat}{x:Str}{e:aE}{te:TE}(hN:X.N.Nodup)(hi:X.N[i]?=some x)(hx:Loc X.env.scope x)(he:PE X e te)(hs:swapsWith e (some<|.Name x pos') pos.line X.env=pure false:=by rfl)(hf:X.fn x=true\/X.env.scope.names.lookup x=some .local:=by first|exact .inl rfl|exact .inr rfl|assumption) :
  PS X (.Assign [.Name x pos'] e pos) (QT te<|PY i):=by
 kln_w;refine wpAny_Assign_Name (jN (he pins s σ H _ I h) λv s1 ⟨y,H1,I1,r1,q1⟩=>?_) hs;exact wk I1 hN hi hx r1 (λs2 I2=>⟨_,H1,I2,q1⟩) hf
abbrev Wt (i:Nat)(te:TE)(ti:TR):TS:=λD σ H=>∃x,σ[i]?=some (some x)/\te σ H λy H1=>ti x y H1 λz H2=>D.nx (σ.set i<|some z) H2
def Rb{i:Nat}{x:Str}{e:aE}{te:TE}{ti:TR}(hN:X.N.Nodup)(hi:X.N[i]?=some x)(hx:Loc X.env.scope x)(he:PE X e te)(ho:PK X op ti)(hf:X.fn x=true\/X.env.scope.names.lookup x=some .local:=by first|exact .inl rfl|exact .inr rfl|assumption) :
  PS X (.AugAssign (.Name x pos') op e pos) (Wt i te ti):=by
 kln_w;obtain⟨v,e1,h⟩:=h;obtain⟨m,hn,hl⟩:=I.loc;have vis:T8 X.env.scope x:=by rcases hx with k|k;exact .inl k;exact .inr (.inl k)
 obtain⟨u,r,l⟩:=hl i x v hi e1 vis;refine wpAny_AugAssign_Name ?_;have go:wpAny (model X.prog X.w) X.A (eval e X.env) (λw s₂=>wpAny (model X.prog X.w) X.A (inplaceOp op u w) (λr s₃=>wpAny (model X.prog X.w) X.A (storeName X.env x r) (λ_=>SP X pins D .next) X.xe s₃) X.xe s₂) X.xe s:=by
  refine jN (he pins s σ H _ I h) λw s1 ⟨y,H1,I1,r1,q1⟩=>?_;refine jN (ho pins s1 σ H1 v y u w _ I1 r r1 q1) λz s2 ⟨zv,H2,I2,r2,q2⟩=>?_;exact wk I2 hN hi hx r2 (λs3 I3=>⟨_,H2,I3,q2⟩) hf
 rcases l with⟨hk,hm⟩|⟨hk,c,hc,hcell⟩
 ·exact wpAny_loadName_local I.ok.kind hk hn hm go
 ·rcases hk with hk|hk
  ·exact wpAny_loadName_cell I.ok.kind hk hc hcell go
  ·rcases hx with k|k
   ·have:X.env.scope.names.lookup x=some .free:=hk;rw[k]at this;cases this
   ·have:X.env.scope.names.lookup x=some .free:=hk;rw[k]at this;cases this
abbrev VF (to ti te:TE)(tget:V->V->Hp->VK->Prop)(tip:TR)(tset:Cf):TS:=λD σ H=>to σ H λo H1=>ti σ H1 λi H2=>tget o i H2 λx H3=>te σ H3 λy H4=>tip x y H4 λz H5=>tset o i z H5 λH6=>D.nx σ H6
abbrev RZ (X:Cx)(t:V->V->Hp->VK->Prop):Prop:=
 ∀(pins:bn) (s:aC) (σ:St) (H:Hp) (o i:V) (ov iv:af) (Q:VK),Inv X pins σ H s->RelV o ov->RelV i iv->t o i H Q ->
  wpAny (model X.prog X.w) X.A (getItem ov iv) (EP X pins σ Q) X.xe s
def N5{e:aE}{to ti te:TE}{tget:V->V->Hp->VK->Prop}{tip:TR}{tset:Cf}(ho:PE X o to)(hi:PE X i ti)(hg:RZ X tget)(he:PE X e te)(hp:PK X op tip)(hs:Bh X tset)
  (ha:∀ov iv new,augStore i ov iv new=(do holding [new,ov,iv] (setItem ov iv new);release [new,ov,iv] [];pure .next):=by intros;rfl):PS X (.AugAssign (.Subscript o i tpos) op e pos) (VF to ti te tget tip tset):=by
 kln_w;refine wpAny_AugAssign_SubscriptAny (jN (ho pins s σ H _ I h) λov s1 ⟨x1,H1,I1,r1,q1⟩=>?_) ha;refine jN (hi pins s1 σ H1 _ I1 q1) λiv s2 ⟨x2,H2,I2,r2,q2⟩=>?_;refine jN (hg pins s2 σ H2 x1 x2 ov iv _ I2 r1 r2 q2) λold s3 ⟨x3,H3,I3,r3,q3⟩=>?_;refine jN (he pins s3 σ H3 _ I3 q3) λv s4 ⟨x4,H4,I4,r4,q4⟩=>?_;refine jN (hp pins s4 σ H4 x3 x4 old v _ I4 r3 r4 q4) λnew s5 ⟨x5,H5,I5,r5,q5⟩=>?_;exact jN (hs pins s5 σ H5 x1 x2 x5 ov iv new _ I5 r1 r2 r5 q5) λ_ s6 ⟨H6,I6,q6⟩=>⟨σ,H6,I6,q6⟩
abbrev XU (f:Int->Int->Int):TR:=λx y H Q=>∃i j,x=.int i/\y=.int j/\Q (.int<|f i j) H
def RX:PK X .Add (XU λi j=>i+j):=by
 intro pins s σ H x y v u Q I r1 r2 h;obtain⟨i,j,e1,e2,q⟩:=h;subst e1;subst e2;obtain⟨t,rfl⟩:=r1;obtain⟨t',rfl⟩:=r2;exact iadd_int ⟨.int _,H,I.tok _,⟨_,rfl⟩,q⟩
def Rl:PK X .Sub (XU λi j=>i-j):=by
 intro pins s σ H x y v u Q I r1 r2 h;obtain⟨i,j,e1,e2,q⟩:=h;subst e1;subst e2;obtain⟨t,rfl⟩:=r1;obtain⟨t',rfl⟩:=r2;exact isub_int ⟨.int _,H,I.tok _,⟨_,rfl⟩,q⟩
end
section
variable {X:Cx}{pos:Pos}
abbrev MT (c:TT)(tb:TS):TS:=λD σ H=>∃W:Nat->St->Hp->Prop,(∃m,W m σ H)/\∀m σ H,W m σ H ->
 c σ H λb H1=>if b=true then ∃N:St->Hp->Prop,(∀σ' H',N σ' H'->∃m',m'<m/\W m' σ' H')/\tb { D with nx:=N,ct:=N,bk:=D.nx } σ H1 else D.nx σ H1
def Ll{c:aE}{tc:TT}{tb:TS}(hp:PassesOwn (model X.prog X.w) X.A X.env X.xe)(hc:PT X c tc)(hb:zJ X body tb):PS X (.While c body [] pos) (MT tc tb):=by
 kln_w;obtain⟨W,⟨m0,w0⟩,turn⟩:=h;refine wpAny_While<|codeAny_whileLoop (λn s'=>∃σ' H',Inv X pins σ' H' s'/\W n σ' H') ?_ m0 ⟨σ,H,I,w0⟩;rintro n s1 ⟨σ1,H1,I1,w1⟩;refine d8 hp (jN (hc pins s1 σ1 H1 _ I1<|turn n σ1 H1 w1) λb s2 ⟨H2,I2,q2⟩=>?_)
 cases b with
 | true=>
  obtain⟨N,hN,q2⟩:=q2;rw[aK rfl];refine d8 hp (jN (hb pins s2 σ1 H2 _ I2 q2) λf s3 q3=>?_)
  cases f with
  | next=>
   obtain⟨σ3,H3,I3,n3⟩:=q3;obtain⟨m',hm,w3⟩:=hN σ3 H3 n3;exact⟨m',hm,σ3,H3,I3,w3⟩
  | cont=>
   obtain⟨σ3,H3,I3,n3⟩:=q3;obtain⟨m',hm,w3⟩:=hN σ3 H3 n3;exact⟨m',hm,σ3,H3,I3,w3⟩
  | brk=>exact q3
  | ret v=>exact q3
 | false=>
  rw[aJ bH];exact gH ⟨σ1,H2,I2,q2⟩
end
structure It where
 go:Nat->Hp->Prop
 yld:Nat->Hp->V->Hp->Prop
 stop:Nat->Hp->Prop
abbrev qG (X:Cx)(pins:bn)(H:Hp)(b:ak):Prop:=
 H b=none/\b≠X.env.locals/\b∉X.fs/\(b∈X.ex\/X.s₀.heap.objs.size<=b)/\(∀x c,X.env.cells.lookup x=some c->c≠b)/\∀p∈X.pn++pins,p.1≠b
def Inv.C6{X:Cx}{H H':Hp}{s:aC}(I:Inv X pins σ H s)(hb:s.heap.objs.size<=b)(hn:H' b=none):qG X pins H' b:=by
 refine⟨hn,ne_of_gt<|bM I.lt hb,I.W5 hb,.inr<|bP I.sz hb,λx c e z=>?_,λp hp z=>?_⟩
 ·obtain⟨v,q⟩:=I.cell x c e;exact absurd (bM q.lt<|by rw[z];exact hb) (eY _)
 ·exact absurd (bM (br (I.pin p hp).1)<|by rw[z];exact hb)<|eY _
structure Turn (P:aj)(w:ah)(K:au)(tg:aE)(J:It)(fp:ba)(it:ak)(tn:Nat->aq->Prop):Prop where
 mem:it∈fp
 obj:∀i h,tn i h->∀b∈fp,∃o,h.get? b=some o/\∀v,o.data≠.cell v
 keep:∀i h h',tn i h->(∀b∈fp,∀o,h.get? b=some o->h'.get? b=some o)->tn i h'
 item:∀(X:Cx),X.prog=P->X.w=w->X.K=K->X.calm=true->∀(i:Nat) (pins:bn) (s:aC) (σ:St) (H:Hp) (E:af->aC->Prop),Inv X pins σ H s->(∀b∈fp,qG X pins H b)->tn i s.heap->J.go i H ->
  wpAny (model P w) X.A (pyNext<|.ref it) (λr s1=>∃u,r=some u /\
   wpAny (model P w) X.A (letOwnedTupleGo tg (.ref it) u) (λ_ s2=>∃x H',Inv X pins σ H' s2/\RelV x u/\J.yld i H x H'/\tn (i+1) s2.heap/\∀b∈fp,H' b=none) E s1) E s
 done:∀(X:Cx),X.prog=P->X.w=w->X.K=K->X.calm=true->∀(i:Nat) (pins:bn) (s:aC) (σ:St) (H:Hp) (E:af->aC->Prop),Inv X pins σ H s->(∀b∈fp,qG X pins H b)->tn i s.heap->J.stop i H ->
  wpAny (model P w) X.A (pyNext<|.ref it) (λr s1=>r=none/\Inv X pins σ H s1) E s
 self:∀(A:aA) (i:Nat) (s:aC) (Q:af->aC->Prop) (E:af->aC->Prop),tn i s.heap->Q (.ref it) s->wpAny (model P w) A (pyIter<|.ref it) Q E s
meta abbrev TI:=St->Hp->(It->Hp->Prop)->Prop
abbrev XQ (X:Cx)(pins:bn)(σ:St)(tg:aE)(R:It->Hp->Prop)(itv:af)(s2:aC):Prop:=
 ∃(it:ak) (fp:ba) (tn:Nat->aq->Prop) (J:It) (H':Hp),itv=.ref it/\Inv X pins σ H' s2/\Turn X.prog X.w X.K tg J fp it tn/\tn 0 s2.heap/\(∀b∈fp,qG X pins H' b)/\R J H'
abbrev PI (X:Cx)(tg iter:aE)(wi:TI):Prop:=
 ∀(pins:bn) (s:aC) (σ:St) (H:Hp) (R:It->Hp->Prop),Inv X pins σ H s->wi σ H R ->
  wpAny (model X.prog X.w) X.A (eval iter X.env) (λv s1=>wpAny (model X.prog X.w) X.A (pyIter v) (XQ X pins σ tg R) X.xe s1) X.xe s
def FH{A:aA}{E:af->aC->Prop}{s:aC}{o:Obj}{n:String}{Q:Unit->aC->Prop}(ho:s.heap.get? it=some o)(hc:o.cls=.type n)(hd:o.data=.fields vs)
  (hn:["enumerate", "zip", "dict_itemiterator", "dict_reverseitemiterator", "odict_iterator", "itertools.zip_longest", "itertools.pairwise"].contains n=false) (hQ:Q Unit.unit s):wpAny M A (letOwnedTupleGo tg (.ref it) u) Q E s:=by
 unfold letOwnedTupleGo
 cases tg<;>first
  | exact aO hQ
  | (cases u<;>first
    | exact aO hQ
    | (refine aH (wpAny_load ho ?_)
       rw[hc,hd];show wpAny M A (if (["enumerate", "zip", "dict_itemiterator", "dict_reverseitemiterator", "odict_iterator", "itertools.zip_longest", "itertools.pairwise"].contains n && vs[0]? == some (rawInt _))=true then _ else _) Q E s;rw[aJ<|by intro h;rw[hn,gT]at h;cases h];exact aO hQ))
abbrev VW (K:au)(a:ak):It:=
 ⟨λi H=>∃xs x,nE K H a xs/\xs[i]?=some x,λi H x H'=>H'=H/\∀xs,nE K H a xs->xs[i]?=some x,λi H=>∃xs,nE K H a xs/\xs.length<=i⟩
abbrev Ws (K:au)(a:ak):It:=
 ⟨λi H=>∃xs x,lR K H a xs/\xs[i]?=some x,λi H x H'=>H'=H/\∀xs,lR K H a xs->xs[i]?=some x,λi H=>∃xs,lR K H a xs/\xs.length<=i⟩
abbrev Vw (lo:Int)(n:Nat):It:=⟨λi _=>i<n,λi H x H'=>H'=H/\x=.int (lo+i),λi _=>n<=i⟩
def HP{P:aj}{w:ah}{K:au}(a it:ak):Turn P w K tg (VW K a) [it] it (λi h=>h.IsListIter it a i) where
 mem:=by simp
 obj:=λi h st b hb=>by
  have e:b=it:=by simpa using hb
  subst e;obtain⟨o,e,c,d⟩:=st;exact⟨o,e,λv z=>by rw[d]at z;cases z⟩
 keep:=λi h h' st k=>st.at λo e=>k it (by simp) o e
 item:=by
  k_ne;subst hP hw hK;obtain⟨xs,x,hq,hx⟩:=hg;obtain⟨its,rv,p,hz⟩:=I.list hq;obtain⟨u,hu,ru⟩:=rv.get hx;gn_on;refine wpAny_pyNext_list_item st p.isList (x:=u) (by simpa using hu) λh' st' sb=>?_;have I1:Inv X pins σ H { s with heap:=h' }:=I.turned (t':=s.toks) (λb o hb e=>(sb.2 b hb).trans e) f0 f1 f3 f4 f5;obtain⟨o,e,c,d⟩:=id st';exact⟨u,rfl,FH (s:={ s with heap:=h' }) e c d ⋯ ⟨x,H,I1,ru,⟨rfl,λys hy=>by rw[I.JA hy hq];exact hx⟩,st',λb hb=>(hf b hb).1⟩⟩
 done:=by
  k_ne;subst hP hw hK;obtain⟨xs,hq,hx⟩:=hg;obtain⟨its,rv,p,hz⟩:=I.list hq;gn_on;have hl:=rv.length;exact wpAny_pyNext_list_end (I.ok.hd hc) st p.isList (by simp;omega) λh' eb=>⟨rfl,I.turned (t':=s.toks) (λb o hb e=>eb b o hb e) f0 f1 f3 f4 f5⟩
 self:=λ_ _ _ _ _ st h=>wpAny_pyIter_listiter st h
def Dd{P:aj}{w:ah}{K:au}(a it:ak):Turn P w K tg (Ws K a) [it] it (λi h=>h.IsTupleIter it a i) where
 mem:=by simp
 obj:=λi h st b hb=>by
  have e:b=it:=by simpa using hb
  subst e;obtain⟨o,e,c,d⟩:=st;exact⟨o,e,λv z=>by rw[d]at z;cases z⟩
 keep:=λi h h' st k=>st.at λo e=>k it (by simp) o e
 item:=by
  k_ne;subst hP hw hK;obtain⟨xs,x,hq,hx⟩:=hg;obtain⟨its,rv,p,hz⟩:=I.tuple hq;obtain⟨u,hu,ru⟩:=rv.get hx;gn_on;refine wpAny_pyNext_tuple_item st (show s.heap.IsTuple a its.toArray from p) (x:=u) (by simpa using hu) λh' st' sb=>?_;have I1:Inv X pins σ H { s with heap:=h' }:=I.turned (t':=s.toks) (λb o hb e=>(sb.2 b hb).trans e) f0 f1 f3 f4 f5;obtain⟨o,e,c,d⟩:=id st';exact⟨u,rfl,FH (s:={ s with heap:=h' }) e c d ⋯ ⟨x,H,I1,ru,⟨rfl,λys hy=>by rw[I.uC hy hq];exact hx⟩,st',λb hb=>(hf b hb).1⟩⟩
 done:=by
  k_ne;subst hP hw hK;obtain⟨xs,hq,hx⟩:=hg;obtain⟨its,rv,p,hz⟩:=I.tuple hq;gn_on;have hl:=rv.length;exact wpAny_pyNext_tuple_end (I.ok.hd hc) st (show s.heap.IsTuple a its.toArray from p) (by simp;lia) λh' eb=>⟨rfl,I.turned (t':=s.toks) (λb o hb e=>eb b o hb e) f0 f1 f3 f4 f5⟩
 self:=λ_ _ _ _ _ st h=>wpAny_pyIter_tupleiter st h
def DU{P:aj}{w:ah}{K:au}(it:ak)(lo:Int)(n:Nat):Turn P w K tg (Vw lo n) [it] it (λi h=>IsRangeIter h it (lo+(i:Nat) * 1) ((n:Int)-(i:Nat)) 1) where
 mem:=by simp
 obj:=λi h st b hb=>by
  have e:b=it:=by simpa using hb
  subst e;exact⟨_,st,λv z=>by
   have z':Data.fields _=Data.cell v:=z
   cases z'⟩
 keep:=λi h h' st k=>k it (by simp) _ st
 item:=by
  k_ne;subst hP hw hK;gn_on;have W:=Walks.range (prog:=X.prog) (w:=X.w) (I.ok.hd hc) it lo 1 n;refine W.item i s _ _ hg st λv h' tk hv st' kk=>?_;obtain⟨t,rfl⟩:=hv;have I1:Inv X pins σ H { s with heap:=h',toks:=tk }:=I.turned (λb o hb e=>kk b o (by simpa using hb) e) f0 f1 f3 f4 f5;refine⟨_,rfl,FH (s:={ s with heap:=h',toks:=tk }) (n := "range_iterator") st' rfl rfl ⋯ ⟨.int<|lo+i,H,I1,⟨t,?_⟩,⟨rfl,rfl⟩,st',λb hb=>(hf b hb).1⟩⟩;rw[Int.mul_one]
 done:=by
  k_ne;subst hP hw hK;gn_on;exact wpAny_pyNext_range_end (I.ok.hd hc) st (by have:n<=i:=hg;lia) λh' eb=>⟨rfl,I.turned (t':=s.toks) (λb o hb e=>eb b o hb e) f0 f1 f3 f4 f5⟩
 self:=λ_ _ _ _ _ st h=>wpAny_pyIter_rangeiter st h
section
variable {X:Cx}{tg:aE}
abbrev Vp (K:au)(tl:TE):TI:=λσ H R=>tl σ H λx H1=>∃a,x=.ref a/\(∃xs,nE K H1 a xs)/\R (VW K a) H1
abbrev WN (K:au)(tl:TE):TI:=λσ H R=>tl σ H λx H1=>∃a,x=.ref a/\(∃xs,lR K H1 a xs)/\R (Ws K a) H1
def FG{tl:TE}(hl:PE X l tl):PI X tg l (Vp X.K tl):=by
 intro pins s σ H R I h;refine jN (hl pins s σ H _ I h) λv s1 ⟨x,H1,I1,r1,q1⟩=>?_;obtain⟨a,e,⟨xs,hq⟩,q⟩:=q1;subst e
 cases r1
 obtain⟨its,rv,p,hz⟩:=I1.list hq;refine wpAny_pyIter_list p.isList ?_;refine⟨s1.heap.objs.size,[s1.heap.objs.size],_,_,H1,rfl,I1.kept (t':=s1.toks) λb o e=>aR _ e,HP a _,⟨_,bB _ rfl,rfl,rfl⟩,λb hb=>?_,q⟩;have e:b=s1.heap.objs.size:=by simpa using hb
 subst e;o_rec
def I0{tl:TE}(hl:PE X l tl):PI X tg l (WN X.K tl):=by
 intro pins s σ H R I h;refine jN (hl pins s σ H _ I h) λv s1 ⟨x,H1,I1,r1,q1⟩=>?_;obtain⟨a,e,⟨xs,hq⟩,q⟩:=q1;subst e
 cases r1
 obtain⟨its,rv,p,hz⟩:=I1.tuple hq;refine fQ (show s1.heap.IsTuple a its.toArray from p) ?_;refine⟨s1.heap.objs.size,[s1.heap.objs.size],_,_,H1,rfl,I1.kept (t':=s1.toks) λb o e=>aR _ e,Dd a _,⟨_,bB _ rfl,rfl,rfl⟩,λb hb=>?_,q⟩;have e:b=s1.heap.objs.size:=by simpa using hb
 subst e;o_rec
def B8{H:Hp}{s:aC}{R:It->Hp->Prop}{E:af->aC->Prop}{lo hi:Int}{v:Tok}{tk:Nat}(I:Inv X pins σ H s)(h1:-(2 ^ 62)<=lo)(h2:lo<2 ^ 62)(h3:-(2 ^ 62)<=hi)(h4:hi<2 ^ 62)
  (q:R (Vw lo (hi-lo).toNat) H):wpAny (model X.prog X.w) X.A (pyIter<|.ref s.heap.objs.size) (XQ X pins σ tg R) E { s with heap:=s.heap.push { cls:=.type "range",data:=.fields #[.int lo t,.int hi u,.int 1 v]},toks:=tk }:=by
 refine wpAny_pyIter_range (IsRange.new ..) (small_one h1 h2 h3 h4) ?_;have I1:Inv X pins σ H { s with heap:=s.heap.push { cls:=.type "range",data:=.fields #[.int lo t,.int hi u,.int 1 v]},toks:=tk }:=I.kept λb o e=>aR _ e;refine⟨(s.heap.push { cls:=.type "range",data:=.fields #[.int lo t,.int hi u,.int 1 v]}).objs.size,[(s.heap.push { cls:=.type "range",data:=.fields #[.int lo t,.int hi u,.int 1 v]}).objs.size],_,_,H,rfl,
  I1.kept (t':=tk) λb o e=>aR _ e,DU _ lo (hi-lo).toNat,?_,λb hb=>?_,q⟩
 ·have e1:lo+((0:Nat):Int) * 1=lo:=by simp
  have e2:(((hi-lo).toNat:Nat):Int)-((0:Nat):Int)=Builtin.Range.rangeSize lo hi 1:=by rw[rangeSize_one];split<;>lia
  skip
  rw[e1,e2];exact bB _ rfl
 ·have e:b=(s.heap.push { cls:=.type "range",data:=.fields #[.int lo t,.int hi u,.int 1 v]}).objs.size:=by simpa using hb
  subst e;o_rec
abbrev qS (ta:TA):TI:=λσ H R=>ta σ H λvs H1=>∃j:Int,vs=[.int j]/\-(2 ^ 62)<=j/\j<2 ^ 62/\R (Vw 0 j.toNat) H1
abbrev pN (ta:TA):TI:=λσ H R=>ta σ H λvs H1=>∃i j:Int,vs=[.int i,.int j]/\(-(2 ^ 62)<=i/\i<2 ^ 62/\-(2 ^ 62)<=j/\j<2 ^ 62)/\R (Vw i (j-i).toNat) H1
def H_{a:aE}{ta:TA}{p:Pos}(hg:Gl X "range")(hm:X.mg "range" = none)(ha:PA X [a] ta)(hs:starEach [a] X.env=[(false,eval a X.env)]:=by rfl):PI X tg (.Call (.Name "range" p) [a] [] pos) (qS ta):=by
 intro pins s σ H R I h;refine Call_<|uW I hg hm boot_range<|dQ (jN (ha pos pins s σ H _ I h) λus s1 ⟨vs,H1,I1,r1,q1⟩=>?_) hs rfl;obtain⟨j,e,q1,q2,q⟩:=q1;subst e
 cases r1 with
 | cons r rr=>
  cases rr
  obtain⟨t,rfl⟩:=r;exact call_range_1<|B8 I1 () () q1 q2<|by simpa using q
def Hf{a b:aE}{ta:TA}{p:Pos}(hg:Gl X "range")(hm:X.mg "range" = none)(ha:PA X [a,b] ta)(hs:starEach [a,b] X.env=[(false,eval a X.env),(false,eval b X.env)]:=by rfl)(hs2:starEach [b] X.env=[(false,eval b X.env)]:=by rfl) :
  PI X tg (.Call (.Name "range" p) [a,b] [] pos) (pN ta):=by
 intro pins s σ H R I h;refine Call_ (uW I hg hm boot_range<|dQ (jN (ha pos pins s σ H _ I h) λus s1 ⟨vs,H1,I1,r1,q1⟩=>?_) (by rw[hs,hs2])<|by rw[hs2];rfl);obtain⟨i,j,e,⟨q1,q2,q3,q4⟩,q⟩:=q1;subst e
 cases r1 with
 | cons r rr=>
  cases rr with
  | cons r' rr=>
   cases rr
   obtain⟨t,rfl⟩:=r;obtain⟨t',rfl⟩:=r';exact call_range_2<|B8 I1 q1 q2 q3 q4 q
abbrev Xd (wi:TI)(g:TG)(tb:TS):TS:=λD σ H=>wi σ H λJ H1=>∃W:Nat->Nat->St->Hp->Prop,(∃m,W 0 m σ H1)/\∀i m σ H,W i m σ H ->
 (J.stop i H/\D.nx σ H)\/(J.go i H/\∃N:St->Hp->Prop,(∀σ' H',N σ' H'->∃m',m'<m/\W (i+1) m' σ' H')/\∀x H',J.yld i H x H'->g x σ H' λσ2 H2=>tb { D with nx:=N,ct:=N,bk:=D.nx } σ2 H2)
abbrev sA (fp:ba)(h:aq):bn:=fp.filterMap λb=>(h.get? b).map λo=>(b,o)
def kF{fp:ba}{h:aq}{b:ak}(hb:b∈fp)(e:h.get? b=some o):(b,o)∈sA fp h:=List.mem_filterMap.mpr ⟨b,hb,by rw[e];rfl⟩
def GZ{fp:ba}{h:aq}{p:ak×Obj}(hp:p∈sA fp h):p.1∈fp/\h.get? p.1=some p.2:=by
 obtain⟨b,hb,e⟩:=List.mem_filterMap.mp hp
 cases q:h.get? b with
 | none=>rw[q]at e;cases e
 | some o=>
  rw[q]at e;have e':(b,o)=p:=aU e;subst e';exact⟨hb,q⟩
def Inv.pinned{H:Hp}{s:aC}{fp:ba}(I:Inv X pins σ H s)(hf:∀b∈fp,qG X pins H b)(ho:∀b∈fp,∃o,s.heap.get? b=some o/\∀v,o.data≠.cell v):Inv X (pins++sA fp s.heap) σ H s:=
 I.GN λp hp=>(bF.mp hp).elim (λz=>I.pin p<|bA _ z) λz=>by
  obtain⟨hb,e⟩:=GZ z;obtain⟨f0,f1,f2,_⟩:=hf p.1 hb;obtain⟨o,e',d⟩:=ho p.1 hb;rw[e]at e';cases e';exact⟨e,f0,f1,f2,d⟩
def Inv.pK{pl:bn}{H:Hp}(I:Inv X (pins++pl) σ H s):Inv X pins σ H s:=I.GN λp hp=>I.pin p<|bA _<|dH _ hp
def RK{iter:aE}{wi:TI}{g:TG}{tb:TS}(hp:PassesOwn (model X.prog X.w) X.A X.env X.xe)(hc:X.calm=true)(hi:PI X tg iter wi)(hg:PG X tg g)(hb:zJ X body tb)
  (hs:∀x,foldedSetIterable iter X.env x=pure x:=by intro _;rfl):PS X (.For tg iter body [] pos) (Xd wi g tb):=by
 kln_w;refine wpAny_For (jN (hi pins s σ H _ I h) λv s1 h1=>jN h1 λitv s2 h2=>?_) hs;obtain⟨it,fp,tn,J,H2,e,I2,T,st2,f2,W,⟨m0,w0⟩,turn⟩:=h2;subst e;have stat:∀{H':Hp},(∀b∈fp,H' b=none)->∀b∈fp,qG X pins H' b:=λhn b hb=>⟨hn b hb,(f2 b hb).2⟩;refine codeAny_forLoop_any (λn s'=>∃i σ' H',Inv X pins σ' H' s'/\tn i s'.heap/\(∀b∈fp,H' b=none)/\W i n σ' H') ?_ m0 ⟨0,σ,H2,I2,st2,λb hb=>(f2 b hb).1,w0⟩;rintro n s3 ⟨i,σ3,H3,I3,st3,fr3,w3⟩
 rcases turn i n σ3 H3 w3 with⟨stop,qn⟩|⟨go,N,hN,step⟩
 ·refine d8 hp<|jN (T.done X rfl rfl rfl hc i pins s3 σ3 H3 X.xe I3 (stat fr3) st3 stop) λr s4 ⟨hr,I4⟩=>?_;subst hr;exact gH ⟨σ3,H3,I4,qn⟩
 ·refine d8 hp<|jN (T.item X rfl rfl rfl hc i pins s3 σ3 H3 X.xe I3 (stat fr3) st3 go) λr s4 ⟨u,hr,h4⟩=>?_;subst hr;refine d8 hp<|jN h4 λ_ s5 ⟨x,H5,I5,r5,y5,st5,fr5⟩=>?_;have I5':=I5.pinned (stat fr5)<|T.obj _ _ st5;refine d8 hp<|jN (hg _ s5 σ3 H5 x u _ I5' r5<|step x H5 y5) λ_ s6 ⟨σ6,H6,I6,q6⟩=>?_;refine d8 hp<|jN (hb _ s6 σ6 H6 _ I6 q6) λf s7 q7=>?_;have again:∀{σ7:St} {H7:Hp},Inv X (pins++sA fp s5.heap) σ7 H7 s7->N σ7 H7->∃m,m<n/\∃i σ' H',Inv X pins σ' H' s7/\tn i s7.heap/\(∀b∈fp,H' b=none)/\W i m σ' H':=λ{σ7 H7} I7 n7=>by
   obtain⟨m',hm,w7⟩:=hN σ7 H7 n7;refine⟨m',hm,i+1,σ7,H7,I7.pK,T.keep _ _ _ st5 λb hb o e=>(I7.pin (b,o)<|bA _<|bA _<|kF hb e).1,λb hb=>?_,w7⟩;obtain⟨o,e,d⟩:=T.obj _ _ st5 b hb;exact(I7.pin (b,o)<|bA _<|bA _<|kF hb e).2.1
  cases f with
  | next=>obtain⟨σ7,H7,I7,n7⟩:=q7;exact again I7 n7
  | cont=>obtain⟨σ7,H7,I7,n7⟩:=q7;exact again I7 n7
  | brk=>obtain⟨σ7,H7,I7,q7⟩:=q7;exact⟨σ7,H7,I7.pK,q7⟩
  | ret v=>obtain⟨x7,σ7,H7,I7,r7,q7⟩:=q7;exact⟨x7,σ7,H7,I7.pK,r7,q7⟩
end
def ug{c:TT}{tb:TS}{D:Ends}{H:Hp}(Pv:St->Hp->Prop)(μ:St->Hp->Nat)(h0:Pv σ H)
  (hs:∀σ H,Pv σ H->c σ H λb H1=>if b=true then tb { D with nx:=λσ' H'=>Pv σ' H'/\μ σ' H'<μ σ H,ct:=λσ' H'=>Pv σ' H'/\μ σ' H'<μ σ H,bk:=D.nx } σ H1 else D.nx σ H1)
  (mono:∀σ H Q Q',(∀b H1,Q b H1->Q' b H1)->c σ H Q->c σ H Q'):MT c tb D σ H:=by
 refine⟨λm σ H=>m=μ σ H/\Pv σ H,⟨_,rfl,h0⟩,?_⟩;rintro m σ H ⟨rfl,p⟩;refine mono σ H _ _ (λb H1 q=>?_) (hs σ H p)
 cases b with
 | true=>exact⟨_,λσ' H' ⟨p',l⟩=>⟨_,l,rfl,p'⟩,q⟩
 | false=>exact q
meta abbrev R2:=V->V->Hp->VK->Prop
abbrev lT (X:Cx)(f:af->af->Sem af)(r:R2):Prop:=
 ∀(pins:bn) (s:aC) (σ:St) (H:Hp) (x y:V) (v u:af) (Q:VK),Inv X pins σ H s->RelV x v->RelV y u->r x y H Q ->
  wpAny (model X.prog X.w) X.A (f v u) (EP X pins σ Q) X.xe s
abbrev VU (X:Cx)(f:af->Sem af)(r:V->Hp->VK->Prop):Prop:=
 ∀(pins:bn) (s:aC) (σ:St) (H:Hp) (x:V) (v:af) (Q:VK),Inv X pins σ H s->RelV x v->r x H Q ->
  wpAny (model X.prog X.w) X.A (f v) (EP X pins σ Q) X.xe s
abbrev jl (X:Cx)(f:af)(r:List V->Hp->VK->Prop):Prop:=
 ∀(pins:bn) (s:aC) (σ:St) (H:Hp) (xs:List V) (us:ar) (Q:VK),Inv X pins σ H s->Vals xs us->r xs H Q ->
  wpAny (model X.prog X.w) X.A (call f us) (EP X pins σ Q) X.xe s
abbrev WA (X:Cx)(r:V->Hp->(Bool->Hp->Prop)->Prop):Prop:=
 ∀(pins:bn) (s:aC) (σ:St) (H:Hp) (x:V) (v:af) (Q:Bool->Hp->Prop),Inv X pins σ H s->RelV x v->r x H Q ->
  wpAny (model X.prog X.w) X.A (truthy v) (TP X pins σ Q) X.xe s
abbrev Ue (r:R2)(ta tb:TE):TE:=λσ H Q=>ta σ H λx H1=>tb σ H1 λy H2=>r x y H2 Q
abbrev X5 (r:V->Hp->VK->Prop)(ta:TE):TE:=λσ H Q=>ta σ H λx H1=>r x H1 Q
abbrev rI (C:Int->Int->Prop)(g:Int->Int->V):R2:=λx y H Q=>∃i j,x=.int i/\y=.int j/\C i j/\Q (g i j) H
abbrev Qi (g:Int->Int->V):R2:=λx y H Q=>∃i j,x=.int i/\y=.int j/\Q (g i j) H
abbrev rU (g:Int->V):V->Hp->VK->Prop:=λx H Q=>∃i,x=.int i/\Q (g i) H
section
variable {X:Cx}{a b:aE}{ta tb:TE}{pos:Pos}
def SS(ha:PE X a ta)(hb:PE X b tb){H:Hp}{R:V->V->Hp->Prop}(I:Inv X pins σ H s)
  (h:ta σ H λx H1=>tb σ H1 λy H2=>R x y H2) {Q:af->aC->Prop} {f:af->af->Sem af}
  (hf:∀v u s2 x y H2,Inv X pins σ H2 s2->RelV x v->RelV y u->R x y H2->wpAny (model X.prog X.w) X.A (f v u) Q X.xe s2) :
  wpAny (model X.prog X.w) X.A (eval a X.env) (λv s₁=>wpAny (model X.prog X.w) X.A (eval b X.env) (λu s₂=>wpAny (model X.prog X.w) X.A (f v u) Q X.xe s₂) X.xe s₁) X.xe s:=by
 refine jN (ha pins s σ H _ I h) λv s1 ⟨x,H1,I1,r1,q1⟩=>?_;refine jN (hb pins s1 σ H1 _ I1 q1) λu s2 ⟨y,H2,I2,r2,q2⟩=>?_;exact hf v u s2 x y H2 I2 r1 r2 q2
def VS{r:R2}(ho:lT X (binaryOp op) r)(ha:PE X a ta)(hb:PE X b tb):PE X (.BinOp a op b pos) (Ue r ta tb):=by
 w_up;exact wpAny_BinOp<|SS ha hb I h λv u s2 x y H2 I2 rx ry q=>ho pins s2 σ H2 x y v u Q I2 rx ry q
def IB{r:V->Hp->VK->Prop}(ho:VU X (unaryOp op) r)(ha:PE X a ta):PE X (.UnaryOp op a pos) (X5 r ta):=by
 w_up;exact UnaryOp_<|jN (ha pins s σ H _ I h) λv s1 ⟨x,H1,I1,r1,q1⟩=>ho pins s1 σ H1 x v Q I1 r1 q1
def V_{f:af->af->Sem af}{C:Int->Int->Prop}{g:Int->Int->Int}
  (rule:∀(i j:Int) (t u:Tok) (s:aC) (Q:af->aC->Prop) (E:af->aC->Prop),C i j->Q (.int (g i j) s.toks) { s with toks:=s.toks+1 }->wpAny (model X.prog X.w) X.A (f (.int i t)<|.int j u) Q E s) :
  lT X f (rI C λi j=>.int<|g i j):=by
 kd_p;obtain⟨i,j,rfl,rfl,hc,q⟩:=h;mg_lt;obtain⟨t',rfl⟩:=ry;exact rule i j t t' s _ _ hc ⟨.int<|g i j,H,I.tok _,⟨_,rfl⟩,q⟩
def Ve{f:af->af->Sem af}{g:Int->Int->Int}
  (rule:∀(i j:Int) (t u:Tok) (s:aC) (Q:af->aC->Prop) (E:af->aC->Prop),Q (.int (g i j) s.toks) { s with toks:=s.toks+1 }->wpAny (model X.prog X.w) X.A (f (.int i t)<|.int j u) Q E s) :
  lT X f (Qi λi j=>.int<|g i j):=by
 kd_p;obtain⟨i,j,rfl,rfl,q⟩:=h;mg_lt;obtain⟨t',rfl⟩:=ry;exact rule i j t t' s _ _ ⟨.int<|g i j,H,I.tok _,⟨_,rfl⟩,q⟩
def NZ{f:af->af->Sem af}{g:Int->Int->Bool}
  (rule:∀(i j:Int) (t u:Tok) (s:aC) (Q:af->aC->Prop) (E:af->aC->Prop),Q (.bool<|g i j) s->wpAny (model X.prog X.w) X.A (f (.int i t)<|.int j u) Q E s) :
  lT X f (Qi λi j=>.bl<|g i j):=by
 kd_p;obtain⟨i,j,rfl,rfl,q⟩:=h;mg_lt;obtain⟨t',rfl⟩:=ry;exact rule i j t t' s _ _ ⟨.bl<|g i j,H,I,rfl,q⟩
abbrev Xp (i j:Int):Prop:=0<=j/\j<=1000000/\i.natAbs<2 ^ 64
abbrev NC (i j:Int):Prop:=(-(2 ^ 64)<i/\i<2 ^ 64)\/(-(2 ^ 64)<j/\j<2 ^ 64)
def NC.ok{i j:Int}(h:NC i j):IntMulOk i j:=by
 rcases h with⟨h1,h2⟩|⟨h1,h2⟩
 ·exact .of_left (intBits_le_64 h1 h2)
 ·exact .of_right<|intBits_le_64 h1 h2
def Q0:lT X (binaryOp .Add) (Qi λi j=>.int<|i+j):=Ve λ_ _ _ _ _ _ _ q=>add_int q
def Sn:lT X (binaryOp .Sub) (Qi λi j=>.int<|i-j):=Ve λ_ _ _ _ _ _ _ q=>sub_int q
def QU:lT X (binaryOp .Mult) (rI NC λi j=>.int<|i * j):=V_ λ_ _ _ _ _ _ _ hc q=>mul_int q hc.ok
def QH:lT X (binaryOp .Mod) (rI (λ_ j=>0<j) λi j=>.int<|i % j):=V_ λi j _ _ _ _ _ hc q=>by
 have h1:(0:Int)<j:=hc;exact mod_int' ()<|by rw[Int.fmod_eq_emod_of_nonneg i ()];exact q
def Rc:lT X (binaryOp .Pow) (rI Xp λi j=>.int<|i ^ j.toNat):=V_ λ_ _ _ _ _ _ _ hc q=>pow_int_small hc.1 hc.2.1 hc.2.2 q
def Yt{f:af->Sem af}{g:Int->Int}
  (rule:∀(i:Int) (t:Tok) (s:aC) (Q:af->aC->Prop) (E:af->aC->Prop),Q (.int (g i) s.toks) { s with toks:=s.toks+1 }->wpAny (model X.prog X.w) X.A (f<|.int i t) Q E s) :
  VU X f (rU λi=>.int<|g i):=by
 intro pins s σ H x v Q I rx h;obtain⟨i,rfl,q⟩:=h;mg_lt;exact rule i t s _ _ ⟨.int<|g i,H,I.tok _,⟨_,rfl⟩,q⟩
def DC:VU X (unaryOp .USub) (rU λi=>.int<|-i):=Yt λ_ _ _ _ _ q=>neg_int q
end
section
variable {X:Cx}{a b c:aE}{ta tb tc:TE}{pos:Pos}
def Q3{H:Hp}{Q:VK}{k:Bool}(I:Inv X pins σ H s)(q:Q (.bl k) H)(e:k=k'):EP X pins σ Q (.bool k') s:=by
 subst e;exact⟨.bl k,H,I,rfl,q⟩
def UG:lT X (compareOp .Lt) (Qi λi j=>.bl<|decide<|i<j):=NZ λ_ _ _ _ _ _ _ q=>lt_int q
def Vo:lT X (compareOp .LtE) (Qi λi j=>.bl<|decide<|i<=j):=NZ λ_ _ _ _ _ _ _ q=>le_int q
def Uz:lT X (compareOp .Gt) (Qi λi j=>.bl<|decide<|j<i):=NZ λ_ _ _ _ _ _ _ q=>gt_int q
def T_:lT X (compareOp .GtE) (Qi λi j=>.bl<|decide<|j<=i):=NZ λ_ _ _ _ _ _ _ q=>ge_int q
def Q4:lT X (compareOp .Is) (λx y H Q=>y=.non/\Q (.bl<|decide<|x=.non) H):=by
 kd_p;obtain⟨rfl,q⟩:=h
 cases ry
 refine is_none_gen (Q3 I q ?_)
 cases x<;>first
  | (cases rx;rfl)
  | (obtain⟨t,rfl⟩:=rx;rfl)
def Jw(b:aE)(h:op≠.In:=by decide)(h2:op≠.NotIn:=by decide):behindInMarks op b=false:=by
 have e1:(op == CmpOp.In)=false:=by cases op<;>first|rfl|exact absurd rfl h
 have e2:(op == CmpOp.NotIn)=false:=by cases op<;>first|rfl|exact absurd rfl h2
 cases b<;>simp[behindInMarks,e1,e2]
def O8{op:CmpOp}{r:R2}(ho:lT X (compareOp op) r)(ha:PE X a ta)(hb:PE X b tb)(hm:behindInMarks op b=false):PE X (.Compare a [op] [b] pos) (Ue r ta tb):=by
 w_up;exact wpAny_Compare1 (SS ha hb I h λv u s2 x y H2 I2 rx ry q=>ho pins s2 σ H2 x y v u Q I2 rx ry q) hm
abbrev Qw (t:TE):TT:=λσ H Q=>t σ H λx H'=>∃k,x=.bl k/\Q k H'
def Nj{op:CmpOp}{r:R2}(ho:lT X (compareOp op) r)(ha:PE X a ta)(hb:PE X b tb)(hm:behindInMarks op b=false):PT X (.Compare a [op] [b] pos) (Qw<|Ue r ta tb):=by
 w_up;refine wpAny_isTrue_Compare1 (jN (ha pins s σ H _ I h) λv s1 ⟨x,H1,I1,r1,q1⟩=>jN (hb pins s1 σ H1 _ I1 q1) λu s2 ⟨y,H2,I2,r2,q2⟩=>
  jN (ho pins s2 σ H2 x y v u _ I2 r1 r2 q2) λc s3 ⟨z,H3,I3,r3,k,e,q3⟩=>?_) hm
 subst e
 cases r3
 exact cY ⟨H3,I3,q3⟩
abbrev CN (r r':R2)(ta tb tc:TE):TE:=λσ H Q=>ta σ H λx H1=>tb σ H1 λy H2=>r x y H2 λz H3=>∃k,z=.bl k /\
 (if k=true then tc σ H3 λw' H4=>r' y w' H4 Q else Q (.bl false) H3)
def IQ{r r':R2}(ho:lT X (compareOp op) r)(ho':lT X (compareOp op') r')(ha:PE X a ta)(hb:PE X b tb)(hc:PE X c tc)
  (hm:lastMarks [op,op'] [b,c]=false:=by with_unfolding_all rfl):PE X (.Compare a [op,op'] [b,c] pos) (CN r r' ta tb tc):=by
 w_up;refine Compare_chain (jN (ha pins s σ H _ I h) λv s1 ⟨x,H1,I1,r1,q1⟩=>chain_link (jN (hb pins s1 σ H1 _ I1 q1) λu s2 ⟨y,H2,I2,r2,q2⟩=>
  jN (ho pins s2 σ H2 x y v u _ I2 r1 r2 q2) λd s3 ⟨z,H3,I3,r3,k,e,q3⟩=>?_)) hm
 subst e
 cases r3
 refine cY ?_
 cases k with
 | false=>exact ite_ff ⟨.bl false,H3,I3,rfl,q3⟩
 | true=>exact ite_tt<|chain_last<|jN (hc pins s3 σ H3 _ I3 q3) λw' s4 ⟨z',H4,I4,r4,q4⟩=>ho' pins s4 σ H4 y z' u w' Q I4 r2 r4 q4
def K5{r r':R2}(ho:lT X (compareOp op) r)(ho':lT X (compareOp op') r')(ha:PE X a ta)(hb:PE X b tb)(hc:PE X c tc)
  (hm:lastMarks [op,op'] [b,c]=false:=by with_unfolding_all rfl):PT X (.Compare a [op,op'] [b,c] pos) (Qw<|CN r r' ta tb tc):=by
 w_up;refine isTrue_chain (jN (ha pins s σ H _ I h) λv s1 ⟨x,H1,I1,r1,q1⟩=>test_link (jN (hb pins s1 σ H1 _ I1 q1) λu s2 ⟨y,H2,I2,r2,q2⟩=>
  jN (ho pins s2 σ H2 x y v u _ I2 r1 r2 q2) λd s3 ⟨z,H3,I3,r3,k,e,q3⟩=>?_)) hm
 subst e
 cases r3
 refine cY ?_
 cases k with
 | false=>
  obtain⟨k',e',q'⟩:=q3
  cases e'
  exact ite_ff ⟨H3,I3,q'⟩
 | true=>
  refine ite_tt<|test_last<|jN (hc pins s3 σ H3 _ I3 q3) λw' s4 ⟨z',H4,I4,r4,q4⟩=>jN (ho' pins s4 σ H4 y z' u w' _ I4 r2 r4 q4) λd' s5 ⟨z2,H5,I5,r5,k2,e2,q5⟩=>?_;subst e2
  cases r5
  exact cY ⟨H5,I5,q5⟩
abbrev QJ (K:au)(x:V)(H:Hp)(k:Bool):Prop:=
 match x with
 | .non=>k=false
 | .bl b=>k=b
 | .int i=>k=(i != 0)
 | .str y=>y.length<=sizeLine/\k=((y.length:Int) != 0)
 | .byt y=>y.size<=sizeLine/\k=((y.size:Int) != 0)
 | .ref p=>(∃xs,nE K H p xs/\k=!xs.isEmpty)\/(∃xs,lR K H p xs/\k=!xs.isEmpty)\/∃kvs,H p=some (.dK kvs)/\k=!kvs.isEmpty
 | _=>False
def CF{κ:Type}{kvs:List<|κ×V}{vs:List<|κ×af}(r:KV kvs vs):(!vs.isEmpty)=!kvs.isEmpty:=by
 cases r<;>rfl
def xq{xs:List V}{its:ar}(r:Vals xs its):(!its.toArray.isEmpty)=!xs.isEmpty:=by
 cases r<;>simp
def sH:(sizeLine:Nat)<2 ^ 63:=by rw[cR];decide
def Tu:WA X (λx H Q=>∃k,QJ X.K x H k/\Q k H):=by
 intro pins s σ H x v Q I rx h;obtain⟨k,e,q⟩:=h;have hl:=sH;have hs:sizeLine=16777216:=cR
 cases x with
 | non=>
  cases rx
  have e':k=false:=e;subst e';exact truthy_none ⟨H,I,q⟩
 | bl b=>
  cases rx
  have e':k=b:=e;subst e';exact cY ⟨H,I,q⟩
 | int i=>
  mg_lt;have e':k=(i != 0):=e;subst e';exact PySem.P.truthy_int ⟨H,I,q⟩
 | str y=>
  mg_lt;obtain⟨hy,e'⟩:y.length<=sizeLine/\k=((y.length:Int) != 0):=e;subst e';exact PySem.P.truthy_str () ⟨H,I.tok _,q⟩
 | byt y=>
  mg_lt;obtain⟨hy,e'⟩:y.size<=sizeLine/\k=((y.size:Int) != 0):=e;subst e';exact PySem.W.truthy_bytes () ⟨H,I.tok _,q⟩
 | ref p=>
  cases rx
  have e':(∃xs,nE X.K H p xs/\k=!xs.isEmpty)\/(∃xs,lR X.K H p xs/\k=!xs.isEmpty)\/∃kvs,H p=some (.dK kvs)/\k=!kvs.isEmpty:=e
  rcases e' with⟨xs,hx,e'⟩|⟨xs,hx,e'⟩|⟨kvs,hx,e'⟩
  ·subst e';obtain⟨its,r,pl,hz⟩:=I.list hx;have hlen:=r.length;exact wpAny_truthy_list pl.isList (by dsimp[aW];lia) ⟨H,I.tok _,by rw[xq r];exact q⟩
  ·subst e';obtain⟨its,r,pl,hz⟩:=I.tuple hx;have hlen:=r.length;exact truthy_tuple pl (by dsimp[aW];lia) ⟨H,I.tok _,by rw[xq r];exact q⟩
  ·subst e';obtain⟨hz,hS,vs,r,m⟩:kvs.length<=sizeLine/\(p == sysModules)=false/\∃vs,KV kvs vs/\s.heap.DictOf (jo X.prog X.w) p vs:=I.hok p _ hx;have hlen:kvs.length=vs.length:=g9 r;exact wpAny_truthy_dict hS m () ⟨H,I.tok _,by rw[CF r];exact q⟩
 | _=>exact(show False from e).elim
def LD(ha:PE X a ta)(he:∀whole,isTrue a X.env whole=(do let v <- whole;standAt a.pos;holding [v] (truthy v))) :
  PT X a (λσ H Q=>ta σ H λx H'=>∃k,QJ X.K x H' k/\Q k H'):=by
 w_up;exact isTrue_plain (jN (ha pins s σ H _ I h) λv s1 ⟨x,H1,I1,r1,q1⟩=>Tu pins s1 σ H1 x v Q I1 r1 q1)<|he _
def Dp:lT X (binaryOp .Add) (λx y H Q=>∃i j,x=.str i/\y=.str j/\i.length+j.length<=sizeLine/\Q (.str<|i++j) H):=by
 kd_p;obtain⟨i,j,rfl,rfl,hz,q⟩:=h;mg_lt;obtain⟨t',rfl⟩:=ry;exact add_str (λt' tk=>⟨.str<|i++j,H,I.tok _,⟨_,rfl⟩,q⟩) hz
def vals1{x:V}(r:Vals [x] us):∃u,us=[u]/\RelV x u:=by
 cases r with
 | cons r1 r2=>cases r2;exact⟨_,rfl,r1⟩
def vals2{x:V}(r:Vals [x,y] us):∃u w',us=[u,w']/\RelV x u/\RelV y w':=by
 cases r with
 | cons r1 r2=>
  cases r2 with
  | cons r3 r4=>cases r4;exact⟨_,_,rfl,r1,r3⟩
def HM(hc:X.calm=true):jl X (.builtin "max") (λxs H Q=>∃i j,xs=[.int i,.int j]/\Q (.int<|if j>i then j else i) H):=by
 kt_k;obtain⟨i,j,rfl,q⟩:=h;obtain⟨u,w',rfl,⟨t,rfl⟩,⟨t',rfl⟩⟩:=vals2 r;refine max_two_ints (I.ok.hd hc) λh' tk k=>⟨_,H,I.kept k,?_,q⟩;by_cases hj:j>i
 ·rw[aK hj,aK hj];exact⟨_,rfl⟩
 ·rw[aJ hj,aJ hj];exact⟨_,rfl⟩
def Ia(hc:X.calm=true):jl X (.builtin "min") (λxs H Q=>∃i j,xs=[.int i,.int j]/\Q (.int<|if j<i then j else i) H):=by
 kt_k;obtain⟨i,j,rfl,q⟩:=h;obtain⟨u,w',rfl,⟨t,rfl⟩,⟨t',rfl⟩⟩:=vals2 r;refine min_two_ints (I.ok.hd hc) λh' tk k=>⟨_,H,I.kept k,?_,q⟩;by_cases hj:j<i
 ·rw[aK hj,aK hj];exact⟨_,rfl⟩
 ·rw[aJ hj,aJ hj];exact⟨_,rfl⟩
def yE:jl X (.type "int") (λxs H Q=>(∃i,xs=[.int i]/\Q (.int i) H)\/∃k,xs=[.bl k]/\Q (.int<|if k then 1 else 0) H):=by
 kt_k
 rcases h with⟨i,rfl,q⟩|⟨k,rfl,q⟩
 ·obtain⟨u,rfl,t,rfl⟩:=vals1 r;exact call_int_int ⟨.int i,H,I,⟨_,rfl⟩,q⟩
 ·obtain⟨u,rfl,r1⟩:=vals1 r
  cases r1
  exact call_int_bool ⟨.int<|if k then 1 else 0,H,I.tok _,⟨_,rfl⟩,q⟩
abbrev WB (K:au)(x:V)(H:Hp)(n:Nat):Prop:=
 match x with
 | .str y=>y.length<=sizeLine/\n=y.length
 | .byt y=>y.size<=sizeLine/\n=y.size
 | .ref p=>(∃xs,nE K H p xs/\n=xs.length)\/∃xs,lR K H p xs/\n=xs.length
 | _=>False
def Ij:jl X (.builtin "len") (λxs H Q=>∃x n,xs=[x]/\WB X.K x H n/\Q (.int n) H):=by
 kt_k;obtain⟨x,n,rfl,e,q⟩:=h;kpf_c;have hl:=sH;have hs:sizeLine=16777216:=cR
 cases x with
 | str y=>
  mg_lt;obtain⟨hy,e'⟩:y.length<=sizeLine/\n=y.length:=e;subst e';exact len_str () ⟨.int _,H,I.tok _,⟨_,rfl⟩,q⟩
 | byt y=>
  mg_lt;obtain⟨hy,e'⟩:y.size<=sizeLine/\n=y.size:=e;subst e';exact PySem.W.len_bytes () ⟨.int _,H,I.tok _,⟨_,rfl⟩,q⟩
 | ref p=>
  cases rx
  have e':(∃xs,nE X.K H p xs/\n=xs.length)\/∃xs,lR X.K H p xs/\n=xs.length:=e
  rcases e' with⟨xs,hx,e'⟩|⟨xs,hx,e'⟩
  ·subst e';obtain⟨its,r',pl,hz⟩:=I.list hx;have hlen:=r'.length;exact Calls.call_len_list pl.isList (by dsimp[aW];lia) ⟨.int xs.length,H,I.tok _,⟨_,by dsimp[aW];rw[hlen]⟩,q⟩
  ·subst e';obtain⟨its,r',pl,hz⟩:=I.tuple hx;have hlen:=r'.length;exact len_tuple pl (by dsimp[aW];lia) ⟨.int xs.length,H,I.tok _,⟨_,by dsimp[aW];rw[hlen]⟩,q⟩
 | _=>exact(show False from e).elim
end
structure ObjM (h:aq)(x dx C:ak)(mA:Str->bb):Prop where
 obj:h.get? x=some (PySem.W.instObj C dx)
 ns:h.Ns1 dx mA
 ne:dx≠x
def HG{h:aq}{mA:Str->bb}(n:h.Ns1 dx mA):∃od,h.get? dx=some od/\∀name,PySem.W.lookIn name od=some (mA name):=by
 obtain⟨o,es,ep,ho,hd,hk,_,hm⟩:=n;refine⟨o,ho,λname=>?_⟩;have e:=hm name;unfold nsFind findBy at e;rw[<- Array.find?_toList]at e;unfold PySem.W.lookIn;rw[hd];dsimp only;split
 ·rename_i y q;rw[q]at e;exact dm some e
 ·rename_i q;rw[q]at e;have a:es.toList.any (·.refKey)=false:=by
   rw[List.any_eq_false];intro y hy;obtain⟨z,t,hkey⟩:=hk y<|Array.mem_toList_iff.mp hy;simp[DictEntry.refKey,hkey]
  have a':¬es.toList.any (·.refKey)=true:=by rw[a];exact bH
  rw[aJ a'];exact dm some e
def ObjM.look{x:ak}{mA:Str->bb}(I:ObjM h x dx C mA):∃od,PySem.W.InstAt h x (PySem.W.instObj C dx) C (some od)/\∀name,PySem.W.lookIn name od=some (mA name):=
 let⟨od,ho,hl⟩:=HG I.ns
 ⟨od,⟨I.obj,rfl,rfl,ho⟩,hl⟩
def uM.some_of{v:V}(r:uM (some v) o):∃u,o=some u/\RelV v u:=by
 cases o with
 | none=>exact(show False from r).elim
 | some u=>exact⟨u,rfl,r⟩
section
variable {P:aj}{w:ah}{H:Hp}{h:aq}{a C dx:ak}{fs:List (Str×V)}
def Nc(hok:tu P w H h)(e:H a=some (.ins C dx fs)):∃mA,ObjM h a dx C mA/\(∀f,uM (fs.lookup f)<|mA f)/\PySem.Within mA (fs.map (·.1))/\fs.length<=1000/\H dx=some (.own a):=by
 obtain⟨d,z,ne,ob,mA,n,r,q⟩:=(show jD P w H h a (.ins C dx fs)from hok a _ e);exact⟨mA,⟨ob,n,ne⟩,r,q,z,d⟩
end
structure Cls (K:au)(C:ak):Prop where
 pg:PySem.W.plainGet K C Str.empty=true
 hd:PySem.W.hasDictIn K C=true
 po:PySem.W.plainOver K C=true
 sa:PySem.W.findIn K (.ref C) "__setattr__" = some (some<|.builtin "object.__setattr__")
def Cls.get{K:au}(c:Cls K C)(f:Str):PySem.W.plainGet K C f=true:=c.pg
structure Con (K:au)(C:ak)(f:Str)(v:V)(u:af):Prop where
 at_:PySem.W.findIn K (.ref C) f=some (some u)
 rel:RelV v u
 get:PySem.W.specialIn K u "__get__" = some none
 cp:PySem.W.copiedNames.contains f=false
structure Meth (K:au)(C:ak)(m:Str)(f:ak):Prop where
 at_:PySem.W.findIn K (.ref C) m=some (some<|.ref f)
 fn:PySem.W.isFn K (.ref f)=true
 kp:PySem.W.keepIn K (.ref f)=true
section
variable {X:Cx}{pins:bn}{σ:St}{H:Hp}{s:aC}{A:aA}{E:af->aC->Prop}{Q:af->aC->Prop}{c:af}{b:Bool}
inductive TyOf (K:au) (H:Hp):V->af->Prop where
 | non:TyOf K H .non (.type "NoneType")
 | bl (x:Bool):TyOf K H (.bl x) (.type "bool")
 | int (i:Int):TyOf K H (.int i) (.type "int")
 | str (x:Str):TyOf K H (.str x) (.type "str")
 | flt (x:UInt64):TyOf K H (.flt x) (.type "float")
 | lst {a:ak} {xs:List V} (e:H a=some (.lst xs)):TyOf K H (.ref a) (.type "list")
 | frz {a:ak} {o:Obj} {xs:List V} (e:H a=some (.frz o<|.lst xs)):TyOf K H (.ref a) (.type "list")
 | tup {a:ak} {xs:List V} (e:H a=some (.tup xs)):TyOf K H (.ref a) (.type "tuple")
 | dK {a:ak} {kvs:List<|Key×V} (e:H a=some (.dK kvs)):TyOf K H (.ref a) (.type "dict")
 | dT {a:ak} {kvs:List<|List Key×V} (e:H a=some (.dT kvs)):TyOf K H (.ref a) (.type "dict")
 | ins {a C dx:ak} {fs:List<|Str×V} (e:H a=some (.ins C dx fs)) (cl:Cls K C) (ha:PySem.W.findIn K (.ref C) "__class__" = some (some<|.builtin "object.__class__"))
   (hn:PySem.W.specialIn K (.builtin "object.__class__") "__get__" = some (some<|.builtin "getset_descriptor.__get__")) (htk:PySem.W.takesIn K (.builtin "object.__class__")=some true)
   (hm:PySem.W.mroIn K C (.type "object")=some true):TyOf K H (.ref a)<|.ref C
def Hq{x:V}(I:Inv X pins σ H s)(rx:RelV x u)(ty:TyOf X.K H x t)(e:PySem.W.kitOne X.K t c=some b)(h:∀tk,Q (.bool b) { s with toks:=tk }) :
  wpAny (model X.prog X.w) A (call (.builtin "isinstance") [u,c]) Q E s:=by
 cases ty with
 | non=>cases(show u=Value.none from rx);exact cM PySem.W.kitx_none I.AN True.intro e (λz=>nomatch z) h
 | bl y=>cases(show u=Value.bool y from rx);exact cM PySem.W.kitx_bool I.AN True.intro e (λz=>nomatch z) h
 | int i=>obtain⟨t,q⟩:=(show ∃t,u=Value.int i t from rx);cases q;exact cM PySem.W.kitx_int I.AN True.intro e (λz=>nomatch z) h
 | str y=>obtain⟨t,q⟩:=(show ∃t,u=Value.str y t from rx);cases q;exact cM PySem.W.kitx_str I.AN True.intro e (λz=>nomatch z) h
 | flt y=>obtain⟨t,q⟩:=(show ∃t,u=Value.float y t from rx);cases q;exact cM PySem.W.kitx_float I.AN True.intro e (λz=>nomatch z) h
 | @lst a xs ea=>
  cases(show u=Value.ref a from rx)
  obtain⟨_,_,n,_,h1⟩:=(show jD X.prog X.w H s.heap a (.lst xs)from I.hok a _ ea);exact cM PySem.W.kitx_list I.AN ⟨_,h1,rfl⟩ e (λz=>nomatch z) h
 | @frz a ob xs ea=>
  cases(show u=Value.ref a from rx)
  obtain⟨_,_,_,n,_,h1⟩:=(show jD X.prog X.w H s.heap a (.frz ob<|.lst xs)from I.hok a _ ea);exact cM PySem.W.kitx_list I.AN ⟨_,h1,rfl⟩ e (λz=>nomatch z) h
 | @tup a xs ea=>
  cases(show u=Value.ref a from rx)
  obtain⟨_,_,_,p⟩:=(show jD X.prog X.w H s.heap a (.tup xs)from I.hok a _ ea);obtain⟨o,h1,h2,_⟩:=p;exact cM PySem.W.kitx_tuple I.AN ⟨o,h1,h2⟩ e (λz=>nomatch z) h
 | @dK a kvs ea=>
  cases(show u=Value.ref a from rx)
  obtain⟨_,_,vs,_,p⟩:=(show jD X.prog X.w H s.heap a (.dK kvs)from I.hok a _ ea);obtain⟨o,es,ep,h1,h2,_⟩:=p;exact cM PySem.W.kitx_dict I.AN ⟨o,h1,h2.1⟩ e (λz=>nomatch z) h
 | @dT a kvs ea=>
  cases(show u=Value.ref a from rx)
  obtain⟨_,_,xs,_,o,es,ep,h1,h2,_⟩:=(show jD X.prog X.w H s.heap a (.dT kvs)from I.hok a _ ea);exact cM PySem.W.kitx_dict I.AN ⟨o,h1,h2.1⟩ e (λz=>nomatch z) h
 | @ins a C dx fs ea cl ha hn htk hm=>
  cases(show u=Value.ref a from rx)
  obtain⟨mA,O,_⟩:=Nc I.hok ea;obtain⟨od,J,_⟩:=O.look;exact cM (PySem.W.kitx_own (cl.get _) cl.hd ha hn htk hm) I.AN J e (λz=>nomatch z) h
end
structure Room (k:Nat)(A:aA):Prop where
 hd:A.handled=none
 dp:A.depth+3 * k+5<recursionLimit
 un:A.units+16 * k+200<cLine
def Room.mono{k:Nat}{A:aA}(r:Room k A)(h:j<=k):Room j A:=⟨r.hd,by have:=r.dp;lia,by have:=r.un;lia⟩
def Room.deeper{k:Nat}{A:aA}(r:Room (k+1) A)(env:Env):Room k (A.deeper env):=
 ⟨r.hd,by have:=r.dp;show A.depth+1+3 * k+5<_;lia,by have:=r.un;show A.units+3+16 * k+200<_;lia⟩
def Room.depth{k:Nat}{A:aA}(r:Room k A):A.depth<recursionLimit:=by have:=r.dp;lia
def Room.units{k:Nat}{A:aA}(r:Room k A):A.units+64<cLine:=by have:=r.un;lia
abbrev Xh:TA:=λ_ H Q=>Q [] H
abbrev Uv (ta:TE)(tr:TA):TA:=λσ H Q=>ta σ H λx H1=>tr σ H1 λxs H2=>Q (x::xs) H2
section
variable {X:Cx}{e:aE}{es:List aE}{te:TE}{t:TA}{pos:Pos}
def uH:PA X [] Xh:=λ_ _ _ _ H Q I h=>Calls.spliced_nil ⟨[],H,I,.nil,h⟩
def ny(ha:PE X e te)(hr:PA X es t)(hs:starEach (e::es) X.env=(false,eval e X.env)::starEach es X.env:=by rfl):PA X (e::es) (Uv te t):=by
 intro pos pins s σ H Q I h;rw[hs]
 skip
 refine Calls.spliced_cons<|jN (ha pins s σ H _ I h) λu s1 ⟨x,H1,I1,r1,q1⟩=>?_;exact jN (hr pos pins s1 σ H1 _ I1 q1) λus s2 ⟨xs,H2,I2,r2,q2⟩=>⟨x::xs,H2,I2,.cons r1 r2,q2⟩
abbrev WH (t:TA):TE:=λσ H Q=>t σ H λxs H1=>xs.length<=sizeLine/\∀p,H1 p=none->Q (.ref p) (upd H1 p<|.tup xs)
abbrev Wj (t:TA):TE:=λσ H Q=>t σ H λxs H1=>xs.length<=sizeLine/\∀p,H1 p=none->Q (.ref p) (upd H1 p<|.lst xs)
def SJ{x1}(h:PA X es t):PE X (.Tuple es x1 pos) (WH t):=by
 intro pins s σ H Q I hq;refine wpAny_Tuple_spliced (jN (h pos pins s σ H _ I hq) λus s1 ⟨xs,H1,I1,r,z,q⟩=>⟨by rw[<- r.length];exact z,?_⟩);have hf:H1 s1.heap.objs.size=none:=I1.hok.fresh<|aQ _;refine⟨.ref s1.heap.objs.size,upd H1 s1.heap.objs.size<|.tup xs,I1.laid (t':=s1.toks) (λb u e=>aR _ e) (aQ _) ?_,rfl,q _ hf⟩;exact⟨z,us,r,⟨_,bB _ rfl,rfl,rfl,_,rfl⟩⟩
def TM(h:PA X es t):PE X (.List es pos) (Wj t):=by
 intro pins s σ H Q I hq;refine wpAny_List_spliced (jN (h pos pins s σ H _ I hq) λus s1 ⟨xs,H1,I1,r,z,q⟩=>⟨by rw[<- r.length];exact z,?_⟩);have hf:H1 s1.heap.objs.size=none:=I1.hok.fresh<|aQ _;refine⟨.ref s1.heap.objs.size,upd H1 s1.heap.objs.size<|.lst xs,I1.laid (t':=s1.toks) (λb u e=>aR _ e) (aQ _) ?_,rfl,q _ hf⟩;exact⟨z,us,0,r,bB _ rfl⟩
end
meta abbrev Sp:=List V->Hp->VK->XK->Prop
meta abbrev M3:=List Env->Hp->aC->XK->af->aC->Prop
structure Env0 (P:aj)(w:ah)(K:au)(mg:Str->bb)(base:aq)(A:aA)(outer:List Env)(s:aC)(H:Hp):Prop where
 frames:A.frames=some outer
 mod:Mod K mg base
 bs:∀b o,base.get? b=some o->s.heap.get? b=some o/\H b=none
 bsz:base.objs.size<=s.heap.objs.size
 xP:s.heap.FunFrames base outer
 frf:∀b∈frs outer,H b=none
 hok:tu P w H s.heap
 bare:AllBare s.gens
abbrev CE (outer:List Env)(P:aj)(w:ah)(H:Hp)(s:aC)(Q:VK)(u:af)(s':aC):Prop:=
 ∃v H',s'.os=s.os/\AllBare s'.gens/\Un (frs outer) [] H H' s.heap s'.heap/\tu P w H' s'.heap/\RelV v u/\Q v H'
abbrev CR (CX:M3)(outer:List Env)(P:aj)(w:ah)(H:Hp)(s:aC)(Q:VK)(E:XK)(r:Result)(s':aC):Prop:=
 match r with
 | .ok (.ret u)=>CE outer P w H s Q u s'
 | .ok _=>False
 | .error e=>CX outer H s E e s'
structure FnOk (P:aj)(w:ah)(K:au)(mg:Str->bb)(base:aq)(CX:M3)(k:Nat)(f:ak)(fd:FuncData)(ps:ap)(sp:Sp):Prop where
 len:∀vs H Q E,sp vs H Q E->vs.length=ps.length
 run:∀(A:aA) (outer:List Env) (s:aC) (H:Hp) (args:Args) (us:ar) (vs:List V) (Q:VK) (E:XK),Room k A->Env0 P w K mg base A outer s H->BindsTo s fd args (ps.zip us)->Vals vs us->sp vs H Q E ->
  codeAny (model P w) A (.call (.ref f) args) (CR CX outer P w H s Q E) s
section
variable {X:Cx}{pins:bn}{σ:St}{H:Hp}{s s':aC}
def Inv.W3(I:Inv X pins σ H s):Env0 X.prog X.w X.K X.mg X.base X.A X.stack s H:=
 ⟨I.ok.frames,I.ok.mod,I.bs,bP I.ok.bsz I.sz,I.stack,I.Gg,I.hok,I.bare⟩
def Inv.after{Q:VK}(I:Inv X pins σ H s)(h:CE X.stack X.prog X.w H s Q u s'):EP X pins σ Q u s':=by
 obtain⟨v,H',os,bare,un,hok,r,q⟩:=h;obtain⟨hh,g,d,t,os'⟩:=s';obtain rfl:os'=s.os:=os;exact⟨v,H',I.call (h':=hh) (g':=g) (d':=d) (t':=t) (ch:=[]) un hok bare λb z=>absurd z<|by simp,r,q⟩
end
abbrev Qf (sp:Sp)(dvs:List V)(E:XK)(t:TA):TE:=λσ H Q=>t σ H λvs H1=>sp (vs++dvs) H1 Q E
abbrev Binds (K:au)(fd:FuncData)(ps:ap)(ds:ar):Prop:=
 ∀(s:aC) (us:ar),K.In s.heap->(us++ds).length=ps.length->BindsTo s fd ⟨us,[]⟩ (ps.zip<|us++ds)
def Binds.all{K:au}{ps:ap}(h:∀us:ar,us.length=ps.length->bindArgs fd ⟨us,[]⟩=pure (ps.zip us)):Binds K fd ps []:=λs us _ hl=>by
 rw[cN]at hl ⊢;exact .of_eq<|h us hl
abbrev Passes (CX:M3)(X:Cx)(E:XK):Prop:=∀(pins:bn) (σ:St) (H:Hp) (s:aC) (e:af) (s':aC),Inv X pins σ H s->CX X.stack H s E e s'->X.xe e s'
section
variable {X:Cx}{CX:M3}{k:Nat}{f C:ak}{fd:FuncData}{ps:ap}{sp:Sp}{dvs:List V}{ds:ar}{E:XK}{x:Str}{p pos:Pos}{e:aE}{es:List aE}{t:TA}
def QI{H:Hp}{Q:VK}(F:FnOk X.prog X.w X.K X.mg X.base CX k f fd ps sp)(hr:Room k X.A)(hb:Binds X.K fd ps ds)(hd:Vals dvs ds)(hx:Passes CX X E)
  (I:Inv X pins σ H s) (r:Vals vs us) (h:sp (vs++dvs) H Q E):wpAny (model X.prog X.w) X.A (call (.ref f) us) (EP X pins σ Q) X.xe s:=by
 have r2:Vals (vs++dvs) (us++ds):=r.append hd;have hl:(us++ds).length=ps.length:=by rw[<- r2.length];exact F.len _ _ _ _ h
 refine wpAny_call (gS (F.run X.A X.stack s H ⟨us,[]⟩ (us++ds) (vs++dvs) Q E hr I.W3 (hb s us I.AN hl) r2 h) λr s' hq=>?_)
 cases r with
 | error e=>exact hx pins σ H s e s' I hq
 | ok fl=>
  cases fl with
  | ret u=>exact I.after hq
  | next=>exact False.elim hq
  | brk=>exact False.elim hq
  | cont=>exact False.elim hq
def NT(F:FnOk X.prog X.w X.K X.mg X.base CX k f fd ps sp)(hr:Room k X.A)(hg:Gl X x)(hm:X.mg x=some (.ref f))(hk:PySem.W.keepIn X.K (.ref f)=true)(hb:Binds X.K fd ps ds)(hd:Vals dvs ds)(hx:Passes CX X E)
  (ha:PA X (e::es) t) (hdb:(x == ("__debug__" : Str))=false:=by decide) (he:starEach (e::es) X.env=(false,eval e X.env)::starEach es X.env:=by rfl) (hpl:(backTo pos<|starEach es X.env).any (·.1)=false:=by rfl) :
  PE X (.Call (.Name x p) (e::es) [] pos) (Qf sp dvs E t):=by
 w_up;refine gU<|ED I hg hm ?_ hdb;refine PySem.W.callWith_K (h₀:=X.base) I.ok.mod.kin hk (jN (ha pos pins s σ H _ I h) λus s1 ⟨vs,H1,I1,r,q⟩=>⟨I1.AN,?_⟩) he hpl;exact QI F hr hb hd hx I1 r q
structure Mk (K:au)(C f:ak):Prop where
 makes:PySem.W.makesIn K C=true
 init:PySem.W.findIn K (.ref C) "__init__" = some (some<|.ref f)
 fn:PySem.W.isFn K (.ref f)=true
 kp:PySem.W.keepIn K (.ref C)=true
end
section
variable {fd:FuncData}{ps ks:ap}
structure KBinds (K:au)(fd:FuncData)(ps ks:ap)(g:ar->ar->ar)(gV:List V->List V->List V):Prop where
 to:∀(s:aC) (us ws:ar),K.In s.heap->(g us ws).length=ps.length->BindsTo s fd ⟨us,ks.zip ws⟩ (ps.zip<|g us ws)
 rel:∀{vs:List V} {us:ar} {zs:List V} {ws:ar},Vals vs us->Vals zs ws->Vals (gV vs zs) (g us ws)
end
structure FnScope (N P:ap)(sc:Scope):Prop where
 kind:sc.kind=.function
 co:sc.isCoroutine=false
 gen:sc.isGenerator=false
 nd:N.Nodup
 pre:N.take P.length=P
 par:∀x∈P,sc.names.lookup x=some .local\/sc.names.lookup x=some .cell
 nofree:∀y∈sc.names,y.2≠.free
theorem yX{kindOf:Str->Option NameKind}{x:Str}:∀{binds:List<|Str×af}{m:Str->bb},(∀v,(x,v)∉binds)->bindL kindOf binds m x=m x
 | [],_,_=>rfl
 | (n,v)::r,m,h=>by
  unfold bindL;rw[yX λw hw=>h w<|aP _ hw];split
  ·have:x≠n:=by rintro rfl;exact h v aN
   simp[this]
  ·rfl
theorem yC{kindOf:Str->Option NameKind}{x:Str}:∀{binds:List<|Str×af}{m:Str->bb},(∀v,(x,v)∉binds)->bindC kindOf binds m x=m x
 | [],_,_=>rfl
 | (n,v)::r,m,h=>by
  unfold bindC;rw[yC λw hw=>h w<|aP _ hw];split
  ·rfl
  ·have:x≠n:=by rintro rfl;exact h v aN
   simp[this]
theorem yJ{kindOf:Str->Option NameKind}{x:Str}{v:af}:∀{P:ap}{vs:ar}{i:Nat}{m:Str->bb},P.Nodup->P[i]?=some x->vs[i]?=some v->kindOf x=some .local ->
  bindL kindOf (P.zip vs) m x=some v
 | [],_,_,_,_,h,_,_=>by simp at h
 | _::_,[],_,_,_,_,h,_=>by simp at h
 | p::P,w::vs,0,m,nd,h1,h2,hk=>by
  simp at h1 h2;subst h1;subst h2;show bindL kindOf ((p,w)::P.zip vs) m p=_;unfold bindL;rw[yX λv hv=>(c7.mp nd).1 (iy hv).1,aK hk];simp
 | p::P,w::vs,i+1,m,nd,h1,h2,hk=>by
  skip
  unfold bindL;exact yJ (i:=i) (c7.mp nd).2 (by simpa using h1) (by simpa using h2) hk
theorem zf{kindOf:Str->Option NameKind}{x:Str}{v:af}:∀{P:ap}{vs:ar}{i:Nat}{m:Str->bb},P.Nodup->P[i]?=some x->vs[i]?=some v->kindOf x≠some .local ->
  bindC kindOf (P.zip vs) m x=some v
 | [],_,_,_,_,h,_,_=>by simp at h
 | _::_,[],_,_,_,_,h,_=>by simp at h
 | p::P,w::vs,0,m,nd,h1,h2,hk=>by
  simp at h1 h2;subst h1;subst h2;show bindC kindOf ((p,w)::P.zip vs) m p=_;unfold bindC;rw[yC λv hv=>(c7.mp nd).1 (iy hv).1,aJ hk];simp
 | p::P,w::vs,i+1,m,nd,h1,h2,hk=>by
  skip
  unfold bindC;exact zf (i:=i) (c7.mp nd).2 (by simpa using h1) (by simpa using h2) hk
abbrev start (N:ap)(vs:List V):St:=vs.map some++List.replicate (N.length-vs.length) none
abbrev DY (CX:M3)(P:aj)(w:ah)(K:au)(mg:Str->bb)(base:aq)(N:ap)(qual:Str)(scope:Scope)(f:ak)(cd:af)(A:aA)(outer:List Env)(s:aC)(H:Hp)(E:XK):Cx where
 prog:=P
 w:=w
 K:=K
 mg:=mg
 base:=base
 A:=A.deeper (envOfC qual scope s.heap.objs.size f cd)
 N:=N
 s₀:=s
 H₀:=H
 env:=envOfC qual scope s.heap.objs.size f cd
 outer:=outer
 stack:=envOfC qual scope s.heap.objs.size f cd::outer
 ex:=[]
 calm:=true
 fn:=λ_=>true
 pn:=[]
 xe:=λe s'=>wpAny (model P w) (A.deeper<|envOfC qual scope s.heap.objs.size f cd) (leaving (envOfC qual scope s.heap.objs.size f cd) e) (λ_ s''=>CX outer H s E e s'') (λe' s''=>CX outer H s E e' s'') s'
def BH{sc:Scope}{n:Nat}{x:Str}(h:sc.names.lookup x=some .cell):∃c,(cellsFrom n sc.names []).lookup x=some c:=by
 have q:=PySem.W.cellsFrom_some sc.names n []<|.inl h;exact fL.mp q
def Hr{CX:M3}{P:aj}{w:ah}{K:au}{mg:Str->bb}{base:aq}{N ps:ap}{scope:Scope}{f:ak}{cd:af}{A:aA}{outer:List Env}{s:aC}{H:Hp}{E:XK}{vs:List V}
  (S:FnScope N ps scope) (hd:A.handled=none) (e0:Env0 P w K mg base A outer s H) (hl:vs.length=ps.length) (r:Vals vs us)
  (x:InCallC s s.heap.objs.size (bindL (envOfC qual scope s.heap.objs.size f cd).kindOf (ps.zip us) λ_=>none) (cellsFrom (s.heap.objs.size+1) scope.names []) (bindC (envOfC qual scope s.heap.objs.size f cd).kindOf (ps.zip us) λ_=>none) s1) :
  Inv (DY CX P w K mg base N qual scope f cd A outer s H E) [] (start N vs) H s1:=by
 have hpl:ps.length<=N.length:=by have:=dm List.length S.pre;rw[bq]at this;lia
 obtain⟨h1,tk,rfl,hk⟩:=x.done;have noA:∀b:ak,b∉(DY CX P w K mg base N qual scope f cd A outer s H E).ex:=λb z=>absurd (show b∈([]:ba)from z) (by simp);refine⟨⟨e0.mod,S.kind,rfl,rfl,aQ _,λy z c h1 h2=>?_,λy hy=>?_,λy c _ h=>?_,λ_=>hd,Around.frames_deeper e0.frames,.inr ⟨rfl,rfl⟩,λb z=>absurd z<|noA b,e0.bs,e0.bsz,λb _ _=>noA b,λb z=>absurd z<|noA b,e0.xP,e0.frf⟩,
  rfl,e0.bare,Un.kept hk,⟨_,x.toInCall.ns,λi y v h1 h2 h3=>?_⟩,λy c h=>⟨_,x.cell y c h⟩,e0.hok.fresh<|aQ _,λy c h=>?_,λp hp=>absurd (show p∈([]:bn)from hp)<|by simp,e0.hok.kept hk,?_⟩
 ·exact name_of_addr x.apart (eK h1) (eK h2)
 ·have hy:scope.names.lookup y=some .cell\/scope.names.lookup y=some .free:=hy
  rcases hy with hy|hy
  ·exact BH hy
  ·exact absurd rfl<|S.nofree _<|eK hy
 ·exact ir (x.above y c<|eK h)
 ·have hi:i<vs.length:=by
   unfold start at h2;by_cases hi:i<vs.length
   ·exact hi
   ·rw[bY<|by simpa using hi]at h2;rw[fU]at h2;split at h2<;>cases h2
  have ha:vs[i]?=some v:=by
   unfold start at h2;rw[bh<|by simpa using hi,a_]at h2
   cases e:vs[i]? with
   | none=>rw[e]at h2;cases h2
   | some a=>rw[e]at h2;cases h2;rfl
  obtain⟨u,hu,rv⟩:=r.get ha;have hp:ps[i]?=some y:=by
   rw[<- S.pre,dD ()];exact h1
  have ndP:ps.Nodup:=by rw[<- S.pre];exact S.nd.sublist (List.take_sublist _ _)
  refine⟨u,rv,?_⟩
  rcases S.par y (aY hp)with k|k
  ·exact .inl ⟨k,yJ ndP hp hu k⟩
  ·obtain⟨c,e⟩:=BH (n:=s.heap.objs.size+1) k;refine .inr ⟨.inl k,c,e,?_⟩;have q:=x.cell y c e;rw[zf ndP hp hu<|by show scope.names.lookup y≠_;rw[k];decide]at q;exact q
 ·exact e0.hok.fresh (ir<|x.above y c<|eK h)
 ·unfold start;show _=N.length;rw[aX,aL,List.length_replicate]
  lia
def US{CX:M3}{P:aj}{w:ah}{K:au}{mg:Str->bb}{base:aq}{k:Nat}{f:ak}{kV pm ct:af}
  {osl:Array<|bb} {N ps:ap} {sp:Sp} (lk:K.lookup f=some ⟨oc,od,.func<|PySem.W.fnOf name qual params body scope dV kV doc pm an cdv ct,osl⟩) (hcd:PySem.W.codeIn K cdv qual=true) (S:FnScope N ps scope)
  (len:∀vs H Q E,sp vs H Q E->vs.length=ps.length)
  (hbody:∀(A:aA) (outer:List Env) (s:aC) (H:Hp) (vs:List V) (Q:VK) (E:XK),Room k (A.deeper<|envOfC qual scope s.heap.objs.size f cdv)->sp vs H Q E ->
   ∃t,zJ (DY CX P w K mg base N qual scope f cdv A outer s H E) body t/\t { nx:=λ_ H'=>Q .non H',rt:=Q } (start N vs) H) :
  FnOk P w K mg base CX (k+1) f (PySem.W.fnOf name qual params body scope dV kV doc pm an cdv ct) ps sp:=by
 refine⟨len,λA outer s H args us vs Q E hr e0 hb r hsp=>?_⟩;have hl:=len _ _ _ _ hsp;have KX:K.In s.heap:=e0.mod.kin.keeps λb o e=>(e0.bs b o e).1;have lim:s.heap.NoLimit:=e0.mod.nolimit.keeps λb o e=>(e0.bs b o e).1;have hkind:∀y∈ps.zip us,scope.names.lookup y.1=some .local\/(scope.names.lookup y.1=some .cell/\((cellsFrom (s.heap.objs.size+1) scope.names []).lookup y.1).isSome=true):=λ⟨n,v⟩ hy=>by
  rcases S.par n (iy hy).1 with q|q
  ·exact .inl q
  ·exact .inr ⟨q,PySem.W.cellsFrom_some _ _ _<|.inl q⟩
 refine codeAny_call_function hr.depth (KX _ _ lk) rfl S.co S.gen rfl (PySem.W.codeRec_of KX hcd)<|hb _ _ _ _ ?_;refine wpAny_newFunctionEnv_cells S.kind hkind λenv he s1 x=>?_;subst he;refine⟨lim.keeps x.toInCall.keep,codeAny_func ?_⟩;obtain⟨t,ht,hq⟩:=hbody A outer s H vs Q E (hr.deeper _) hsp;have I:Inv (DY CX P w K mg base N qual scope f cdv A outer s H E) [] (start N vs) H s1:=Hr S hr.hd e0 hl r x;refine fP (ht [] s1 (start N vs) H _ I hq) (λfl s' hs=>?_) λe s' hs=>hs;have fin:∀{σ':St} {H':Hp} {v:V} {u:af},Inv (DY CX P w K mg base N qual scope f cdv A outer s H E) [] σ' H' s'->RelV v u->Q v H'->CE outer P w H s Q u s':=
  λ{σ' H' v u} J rv q=>⟨v,H',J.os,J.bare,J.base,J.hok,rv,q⟩
 cases fl with
 | ret u=>
  obtain⟨v,σ',H',J,rv,q⟩:=hs;exact fin J rv q
 | next=>
  obtain⟨σ',H',J,q⟩:=hs;exact fin (v:=V.non) (u:=Value.none) J rfl q
 | brk=>
  obtain⟨_,_,_,q⟩:=hs;exact False.elim q
 | cont=>
  obtain⟨_,_,_,q⟩:=hs;exact False.elim q
section
variable {X:Cx}{x:Str}{p pos:Pos}{e:aE}{es:List aE}{t:TA}{id T:String}{r:List V->Hp->VK->Prop}
abbrev WI (r:List V->Hp->VK->Prop)(t:TA):TE:=λσ H Q=>t σ H λvs H1=>r vs H1 Q
def IV(hc:jl X (.builtin id) r)(hg:Gl X x)(hm:X.mg x=none)(hv:bootBuiltins x=some (.builtin id))(ha:PA X (e::es) t)(hn:x ≠ "__name__" := by decide)(hdb:(x == ("__debug__" : Str))=false:=by decide)
  (he:starEach (e::es) X.env=(false,eval e X.env)::starEach es X.env:=by rfl) (hpl:(backTo pos<|starEach es X.env).any (·.1)=false:=by rfl):PE X (.Call (.Name x p) (e::es) [] pos) (WI r t):=by
 w_up;refine gU<|uW I hg hm hv ?_ hn hdb;exact PyProof.Rows.callWith_builtin1 (jN (ha pos pins s σ H _ I h) λus s1 ⟨vs,H1,I1,r1,q1⟩=>hc pins s1 σ H1 vs us Q I1 r1 q1) he hpl
def uV(hc:jl X (.type T) r)(hg:Gl X x)(hm:X.mg x=none)(hv:bootBuiltins x=some (.type T))(ha:PA X (e::es) t)(hn:x ≠ "__name__" := by decide)(hdb:(x == ("__debug__" : Str))=false:=by decide)
  (he:starEach (e::es) X.env=(false,eval e X.env)::starEach es X.env:=by rfl) (hpl:(backTo pos<|starEach es X.env).any (·.1)=false:=by rfl):PE X (.Call (.Name x p) (e::es) [] pos) (WI r t):=by
 w_up;refine gU<|uW I hg hm hv ?_ hn hdb;exact dQ (jN (ha pos pins s σ H _ I h) λus s1 ⟨vs,H1,I1,r1,q1⟩=>hc pins s1 σ H1 vs us Q I1 r1 q1) he hpl
end
end L2
namespace HT
open PySem PyProof.Rows
abbrev lexLt:ae->ae->Bool
 | [],[]=>false
 | [],_::_=>true
 | _::_,[]=>false
 | x::xs,y::ys=>if x=y then lexLt xs ys else decide (x<y)
def qe(x y:Int)(xs ys:ae):lexLt (x::xs) (y::ys)=if x=y then lexLt xs ys else decide (x<y):=rfl
def yg:lexLt [] []=false:=rfl
section
variable {prog:aj}{w:ah}{A:aA}{E:af->aC->Prop}{s:aC}
def OC{vs ws:ar}{Q:af->aC->Prop}(ht:IsTup s.heap t vs.toArray)(hb:IsTup s.heap b ws.toArray)(hv:vs≠[])
  (h1:ws=[]->Q (.ref t) s) (h2:ws≠[]->Q (.ref s.heap.objs.size) { s with heap:=s.heap.push { cls:=.type "tuple",data:=.seq (vs++ws).toArray }})
  (hsz:vs.length+ws.length<=sizeLine):wpAny (model prog w) A (binaryOp .Add (.ref t)<|.ref b) Q E s:=by
 obtain⟨⟨cls,dd,data,sl⟩,ho,hc,n,hd⟩:=id ht;obtain⟨⟨cls2,dd2,data2,sl2⟩,ho2,hc2,n2,hd2⟩:=id hb;simp only at hc hd hc2 hd2;subst hc hd hc2 hd2;have e:vs.toArray++ws.toArray=(vs++ws).toArray:=by simp
 by_cases hw:ws=[]
 ·exact concat_meets ⟨_,ho,rfl⟩ ⟨_,ho2,rfl⟩ noFill_tuple_add seq_tuple_add fW fV (fM _ _)
   (tuple_addW1 t b vs.toArray ws.toArray n n2 dd dd2 sl sl2 (by simpa using hv)<|by simp[hw]) ⟨ho,ho2,h1 hw⟩
 ·refine concat_meets ⟨_,ho,rfl⟩ ⟨_,ho2,rfl⟩ noFill_tuple_add seq_tuple_add fW fV (fM _ _)
   (tuple_addW2 t b vs.toArray ws.toArray n n2 dd dd2 sl sl2 (by simpa using hv) (by simpa using hw)<|by rw[aW,aW];exact hsz) ⟨ho,ho2,?_⟩
  rw[e];exact h2 hw
abbrev lg (n d:Nat):bd->Nat
 | none=>d
 | some v=>if v<0 then(v+(n:Int)).toNat else min v.toNat n
def B6(n d:Nat):lg n d none=d:=rfl
def p9(n d k:Nat):lg n d (some (k:Int))=min k n:=by
 show(if (k:Int)<0 then((k:Int)+(n:Int)).toNat else min (k:Int).toNat n)=min k n;rw[aJ (),eg]
def Ri(n d:Nat)(hd:d<=n)(o:bd):lg n d o<=n:=by
 cases o with
 | none=>exact hd
 | some v=>
  show(if v<0 then(v+(n:Int)).toNat else min v.toNat n)<=n;by_cases hv:v<0
  ·rw[aK hv];lia
  ·rw[aJ hv];exact Nat.min_le_right _ _
def Fi(v:Int)(n d:Nat):(if v<0 then max (v+(n:Int)) 0 else min v (n:Int))=((lg n d (some v):Nat):Int):=by
 show(if v<0 then max (v+(n:Int)) 0 else min v (n:Int))=(((if v<0 then(v+(n:Int)).toNat else min v.toNat n):Nat):Int);by_cases hv:v<0
 ·dsimp[aK hv];lia
 ·dsimp[aJ hv];lia
def CV(lo hi:bd)(n:Nat):Builtin.Slice.sliceAdjust lo hi 1 (n:Int)=(((lg n 0 lo:Nat):Int),((lg n n hi:Nat):Int)):=by
 have h1:¬((1:Int)<0):=()
 unfold Builtin.Slice.sliceAdjust;dsimp[h1,bN];refine Prod.ext ?_ ?_
 ·cases lo with
  | none=>rfl
  | some v=>exact Fi v n 0
 ·cases hi with
  | none=>rfl
  | some v=>exact Fi v n n
def CH(i j:Nat):Builtin.Slice.slicePlaces (i:Int) (j:Int) 1=j-i:=by
 unfold Builtin.Slice.slicePlaces;have h1:(1:Int)>0:=()
 dsimp[h1,cE,ediv_one];split<;>lia
def xm{v:af}{Q:bd->aC->Prop}(p:IsPart v o)(h:Q o s):wpAny (model prog w) A (Builtin.Slice.slicePartIndex v) Q E s:=by
 cases p with
 | none=>exact slicePart_none h
 | int i t=>exact slicePart_int h
def uU{lo:bd}{n:Nat}{Q:Int×Int×Nat->aC->Prop}(hs:s.heap.IsSliceOf sl vl vu .none)(pl:IsPart vl lo)(pu:IsPart vu hi)
  (h:Q (((lg n 0 lo:Nat):Int),1,lg n n hi-lg n 0 lo) s):wpAny (model prog w) A (Builtin.Slice.sliceApplied (.ref sl)<|pure (n:Int)) Q E s:=by
 obtain⟨os,hos,hcs,hds⟩:=id hs;unfold Builtin.Slice.sliceApplied Builtin.Slice.sliceFields;refine aH<|aH<|eo hos hds (x:=vl) rfl<|aH<|eo hos hds (x:=vu) rfl<|aH<|eo hos hds (x:=.none) rfl<|aO ?_;refine aH (slicePart_none ?_)
 skip
 rw[aJ ⋯];refine aH<|xm pl<|aH<|xm pu<|aH<|aO ?_;show wpAny _ _ (match Builtin.Slice.sliceAdjust lo hi 1 (n:Int)with|(lo,hi)=>pure (lo,(1:Int),Builtin.Slice.slicePlaces lo hi 1)) _ _ s;rw[CV lo hi n];show wpAny _ _ (pure (((lg n 0 lo:Nat):Int),(1:Int),Builtin.Slice.slicePlaces ((lg n 0 lo:Nat):Int) ((lg n n hi:Nat):Int) 1)) _ _ s;rw[CH];exact aO h
def JS(xs:Array af)(i k:Nat):((List.range k).filterMap λ(m:Nat)=>xs[((i:Int)+(m:Int) * 1).toNat]?).toArray=((xs.toList.drop i).take k).toArray:=by
 have e:(λ(m:Nat)=>xs[((i:Int)+(m:Int) * 1).toNat]?)=λm=>xs[i+m]?:=by
  funext m
  have:((i:Int)+(m:Int) * 1).toNat=i+m:=()
  rw[this]
 rw[e];have:=pick_run xs i k;rw[List.filterMap_map]at this;have e2:((λx=>xs[x]?) ∘ λx=>i+x)=λm=>xs[i+m]?:=rfl;rw[e2]at this;rw[this]
def ud{items:Array af}{lo:bd}{Q:af->aC->Prop}(ht:IsTup s.heap t items)(hs:s.heap.IsSliceOf sl vl vu .none)(pl:IsPart vl lo)(pu:IsPart vu hi)
  (hw:¬(lg items.size 0 lo=0/\lg items.size items.size hi=items.size))
  (h:Q (.ref s.heap.objs.size) { s with heap:=s.heap.push { cls:=.type "tuple",data:=.seq ((items.toList.drop<|lg items.size 0 lo).take<|lg items.size items.size hi-lg items.size 0 lo).toArray }})
  (hsz:items.size<=sizeLine):wpAny (model prog w) A (getItem (.ref t)<|.ref sl) Q E s:=by
 have htake:sizeOk (.seq ((items.toList.drop<|lg items.size 0 lo).take<|lg items.size items.size hi-lg items.size 0 lo).toArray):=by
  show((items.toList.drop<|lg items.size 0 lo).take<|lg items.size items.size hi-lg items.size 0 lo).toArray.size<=sizeLine;rw[aW,bq,bS,cD];omega
 have hj:lg items.size items.size hi<=items.size:=Ri _ _ (aQ _) hi;obtain⟨os,hos,hcs,hds⟩:=id hs;have hTs:s.TypeIs (.ref sl) "slice" := ⟨os,hos,hcs⟩;unfold getItem
 try with_reducible refine dh ?_
 first|refine aH (aO ?_)|skip
 refine aH<|wpAny_sequenceKey ht.typeIs ⋯ ?_;refine aH (eL (name:=Str.ofString "__getitem__") ht.typeIs cC
  (dS cC ht.typeIs entry_tuple_getitem ?_<|args_tuple_getitem _ _))
 show wpAny _ _ (Builtin.Tuple.tupleItemsOf (.ref t) >>= _) _ _ s;refine aH<|tupleItemsOf_ ht ?_;refine aH<|fX hTs ?_;rw[aK ⋯];refine aH<|uU hs pl pu ?_;have hno:¬((((lg items.size 0 lo:Nat):Int) == 0 && (1:Int) == 1 && (lg items.size items.size hi-lg items.size 0 lo) == items.size)=true):=by
  intro q;rw[dB,dB]at q;have q1:((lg items.size 0 lo:Nat):Int)=0:=eq_of_beq q.1.1;have q2:lg items.size items.size hi-lg items.size 0 lo=items.size:=eq_of_beq q.2;exact hw ⟨by omega,by omega⟩
 show wpAny _ _ (if (((lg items.size 0 lo:Nat):Int) == 0 && (1:Int) == 1 && (lg items.size items.size hi-lg items.size 0 lo) == items.size)=true then _ else _) _ _ s;rw[aJ hno,JS]
 first
  | exact aH (m:=Builtin.Tuple.tupleExact _) (bQ (aO ⟨_,rfl,aO h⟩) htake)
  | exact aH (m:=Builtin.Tuple.tupleExact _) (bQ (aH<|aO<|aO ⟨_,rfl,aO h⟩) htake)
  | exact aH (aH (m:=Builtin.Tuple.tupleExact _)<|bQ (aO<|aO ⟨_,rfl,aO h⟩) htake)
  | exact aH<|aH (m:=Builtin.Tuple.tupleExact _)<|bQ (aO ⟨_,rfl,aO h⟩) htake
end
end HT
namespace L2
open PySem PySem.Spec PyProof.Rows
meta abbrev TO:=St->Hp->(bd->Hp->Prop)->Prop
abbrev PO (X:Cx)(e:Option aE)(t:TO):Prop:=
 ∀(pins:bn) (s:aC) (σ:St) (H:Hp) (Q:bd->Hp->Prop),Inv X pins σ H s->t σ H Q ->
  wpAny (model X.prog X.w) X.A (evalPart e X.env) (λu s'=>∃o H',Inv X pins σ H' s'/\IsPart u o/\Q o H') X.xe s
abbrev NI:TO:=λ_ H Q=>Q none H
abbrev VM (t:TE):TO:=λσ H Q=>t σ H λx H1=>∃i,x=.int i/\Q (some i) H1
def intsAre_of{ns:ae}:∀{us:ar},Vals (ns.map V.int) us->IntsAre us ns:=by
 induction ns with
 | nil=>intro us r;rw[map_nil]at r;cases r;exact .nil
 | cons n ns ih=>
  intro us r;rw[bU]at r
  cases r with
  | cons r1 r2=>
   obtain⟨t,e⟩:=r1;subst e;exact .cons n t<|ih r2
section
variable {X:Cx}{e:aE}{te:TE}{lo hi:Option aE}{tl th:TO}{pos p2:Pos}
def Oo:PO X none NI:=by
 w_up;rw[g_];exact aO ⟨none,H,I,.none,h⟩
def Nx(h:PE X e te):PO X (some e) (VM te):=by
 intro pins s σ H Q I hw;rw[evalPart_some];refine jN (h pins s σ H _ I hw) λu s1 ⟨x,H1,I1,r1,q1⟩=>?_;obtain⟨i,rfl,q⟩:=q1;obtain⟨t,rfl⟩:=r1;exact⟨some i,H1,I1,.int i t,q⟩
abbrev V6 (X:Cx)(r:V->bd->bd->Hp->VK->Prop):Prop:=
 ∀(pins:bn) (s:aC) (σ:St) (H:Hp) (x:V) (v vl vu:af) (lo hi:bd) (sl:ak) (Q:VK),Inv X pins σ H s->RelV x v->s.heap.IsSliceOf sl vl vu .none->IsPart vl lo->IsPart vu hi->r x lo hi H Q ->
  ∃T id,typeLookup (.type T) "__getitem__" = pure (some<|.builtin id)/\s.TypeIs v T/\wpAny (model X.prog X.w) X.A (getItem v<|.ref sl) (EP X pins σ Q) X.xe s
abbrev Ys (r:V->bd->bd->Hp->VK->Prop)(te:TE)(tl th:TO):TE:=λσ H Q=>te σ H λx H1=>tl σ H1 λl H2=>th σ H2 λu H3=>r x l u H3 Q
def JY{r:V->bd->bd->Hp->VK->Prop}(hr:V6 X r)(he:PE X e te)(hl:PO X lo tl)(hu:PO X hi th):PE X (.Subscript e (.Slice lo hi none p2) pos) (Ys r te tl th):=by
 w_up;refine Subscript_<|jN (he pins s σ H _ I h) λv s1 ⟨x,H1,I1,r1,q1⟩=>?_;refine wpAny_Slice<|jN (hl pins s1 σ H1 _ I1 q1) λvl s2 ⟨l,H2,I2,pl,q2⟩=>jN (hu pins s2 σ H2 _ I2 q2) λvu s3 ⟨u,H3,I3,pu,q3⟩=>?_;rw[g_];refine aO ?_;have I4:Inv X pins σ H3 { s3 with heap:=s3.heap.push { cls:=.type "slice",data:=.fields #[vl,vu,.none]}}:=I3.kept (t':=s3.toks) λb ob q=>aR _ q;obtain⟨T,id,hT,ht,hg⟩:=hr pins { s3 with heap:=s3.heap.push { cls:=.type "slice",data:=.fields #[vl,vu,.none]}} σ H3 x v vl vu l u s3.heap.objs.size Q I4 r1 (gW ..) pl pu q3
 skip
 exact tail_any (ops:=[.ref s3.heap.objs.size,v]) ht hT hg<|by with_unfolding_all rfl
abbrev AZ (xs:List V)(lo hi:bd):List V:=(xs.drop<|HT.lg xs.length 0 lo).take<|HT.lg xs.length xs.length hi-HT.lg xs.length 0 lo
def ve(xs:List V)(lo hi:bd):(AZ xs lo hi).length<=xs.length:=by
 unfold AZ;rw[bq,bS]
 lia
abbrev Xv (K:au):V->bd->bd->Hp->VK->Prop:=λx lo hi H Q=>∃a xs,x=.ref a/\lR K H a xs /\
 ¬(HT.lg xs.length 0 lo=0/\HT.lg xs.length xs.length hi=xs.length)/\∀p,H p=none->Q (.ref p) (upd H p<|.tup<|AZ xs lo hi)
def Q7:V6 X (Xv X.K):=by
 intro pins s σ H x v vl vu lo hi sl Q I rx hs pl pu h;obtain⟨a,xs,rfl,hx,hw,q⟩:=h
 cases rx
 obtain⟨its,r,ht,hz⟩:=I.tuple hx;have hlen:its.toArray.size=xs.length:=by rw[aW];exact r.length.symm
 refine⟨"tuple",_,cC.lookup,ht.typeIs,?_⟩;refine HT.ud ht hs pl pu (by rw[hlen];exact hw) ?_ (by rw[hlen];exact hz);rw[hlen];refine⟨.ref s.heap.objs.size,_,I.laid (t':=s.toks) (o:=.tup<|AZ xs lo hi) (λb ob q=>aR _ q) (aQ _) ?_,rfl,q _<|I.hok.fresh<|aQ _⟩;exact⟨bP (ve xs lo hi) hz,_,(r.drop<|HT.lg xs.length 0 lo).take<|HT.lg xs.length xs.length hi-HT.lg xs.length 0 lo,lW.new _ _⟩
abbrev UZ (K:au):R2:=λx y H Q=>∃a b xs ys,x=.ref a/\y=.ref b/\lR K H a xs/\lR K H b ys/\xs≠[]/\xs.length+ys.length<=sizeLine /\
 (ys=[]->Q (.ref a) H)/\(ys≠[]->∀p,H p=none->Q (.ref p) (upd H p<|.tup<|xs++ys))
def Vals.zG(r:Vals xs us):us=[] ↔ xs=[]:=by
 cases r with
 | nil=>simp
 | cons _ _=>simp
def NH:lT X (binaryOp .Add) (UZ X.K):=by
 kd_p;obtain⟨a,b,xs,ys,rfl,rfl,ha,hb,hx,hz,q1,q2⟩:=h
 cases rx
 cases ry
 obtain⟨its,r1,p1,_⟩:=I.tuple ha;obtain⟨its2,r2,p2,_⟩:=I.tuple hb;refine HT.OC p1 p2 (λz=>hx<|r1.zG.mp z) (λz=>⟨.ref a,H,I,rfl,q1<|r2.zG.mp z⟩) (λz=>?_) (by rw[<- r1.length,<- r2.length];exact hz);refine⟨.ref s.heap.objs.size,_,I.laid (t':=s.toks) (o:=.tup<|xs++ys) (λb ob q=>aR _ q) (aQ _) ?_,rfl,q2 (λw=>z<|r2.zG.mpr w) _<|I.hok.fresh<|aQ _⟩;exact⟨by rw[aX];exact hz,_,r1.append r2,lW.new _ _⟩
end
abbrev yx (n:Nat)(i:Int):bj:=if 0<=i then(if i<n then some i.toNat else none)else if -(n:Int)<=i then some (i+n).toNat else none
abbrev nV {α:Type}(xs:List α)(i:Int):Option α:=(yx xs.length i).bind λj=>xs[j]?
def F4{n:Nat}{i:Int}(h:yx n i=some j):seqIndex? i n=some j/\j<n/\-(n:Int)<=i/\i<n:=by
 unfold yx at h;by_cases h0:0<=i
 ·rw[aK h0]at h;by_cases h1:i<n
  ·rw[aK h1]at h;have e:i.toNat=j:=aU h;exact⟨by rw[seqIndex_of h0 h1,e],(),(),h1⟩
  ·rw[aJ h1]at h;cases h
 ·rw[aJ h0]at h;by_cases h1:-(n:Int)<=i
  ·rw[aK h1]at h;have e:(i+n).toNat=j:=aU h;exact⟨by rw[seqIndex_neg () h1,e],(),h1,()⟩
  ·rw[aJ h1]at h;cases h
def zu{α:Type}{xs:List α}{i:Int}{v:α}(h:nV xs i=some v):∃j,seqIndex? i xs.length=some j/\xs[j]?=some v/\j<xs.length/\-(xs.length:Int)<=i/\i<xs.length:=by
 unfold nV at h
 cases e:yx xs.length i with
 | none=>rw[e]at h;cases h
 | some j=>
  rw[e]at h;obtain⟨h1,h2,h3,h4⟩:=F4 e;exact⟨j,h1,h,h2,h3,h4⟩
def NQ{α:Type}{xs:List α}{j:Nat}{v:α}(h:xs[j]?=some v):nV xs (j:Int)=some v:=by
 have hj:j<xs.length:=(aM.mp h).1;have e:yx xs.length (j:Int)=some j:=by
  unfold yx;rw[aK (),aK ()];simp
 unfold nV;rw[e];exact h
def Ip{α:Type}(xs:List α)(v:α):nV (xs++[v]) (-1)=some v:=by
 have hl:(xs++[v]).length=xs.length+1:=by simp
 have e:yx (xs++[v]).length (-1)=some xs.length:=by
  unfold yx;rw[hl,aJ ⋯,aK ()];congr 1
  lia
 unfold nV;rw[e]
 skip
 simp
abbrev vn (b:aE):Prop:=∀o i,subscripted b false o i=operate [o,i] (getItem o i)
abbrev NW (X:Cx)(r:R2):Prop:=
 ∀(value slice:aE) (pins:bn) (s:aC) (σ:St) (H:Hp) (x y:V) (v u:af) (Q:VK),Inv X pins σ H s->RelV x v->RelV y u->r x y H Q ->
  subscripted slice false v u=operate [v,u] (getItem v u)->wpAny (model X.prog X.w) X.A (subscriptTail value slice v u) (EP X pins σ Q) X.xe s
abbrev T5 (X:Cx)(id:String)(r:V->List V->Hp->VK->Prop):Prop:=
 ∀(pins:bn) (s:aC) (σ:St) (H:Hp) (x:V) (xs:List V) (v:af) (us:ar) (Q:VK),Inv X pins σ H s->RelV x v->Vals xs us->r x xs H Q ->
  wpAny (model X.prog X.w) X.A (call (.builtin id) (v::us)) (EP X pins σ Q) X.xe s
section
variable {X:Cx}{a b:aE}{ta tb:TE}{pos:Pos}
def Kq{r:R2}(hr:NW X r)(ha:PE X a ta)(hb:PE X b tb)(hs:vn b):PE X (.Subscript a b pos) (Ue r ta tb):=by
 w_up;exact Subscript_<|SS ha hb I h λv u s2 x y H2 I2 rx ry q=>hr a b pins s2 σ H2 x y v u Q I2 rx ry q<|hs _ _
abbrev WM (K:au):R2:=λx y H Q=>∃p xs i v,x=.ref p/\y=.int i/\nE K H p xs/\nV xs i=some v/\Q v H
abbrev WL (K:au):R2:=λx y H Q=>∃p xs i v,x=.ref p/\y=.int i/\lR K H p xs/\nV xs i=some v/\Q v H
abbrev WX:R2:=λx y H Q=>∃z i c,x=.str z/\y=.int i/\z.length<=sizeLine/\nV z.cps.toList i=some c/\Q (.str ⟨#[c]⟩) H
def EE:NW X (WM X.K):=by
 ksr_p;obtain⟨p,xs,i,z,rfl,rfl,hq,he,q⟩:=h
 cases rx
 obtain⟨t,rfl⟩:=ry;obtain⟨its,r,pl,hz⟩:=I.list hq;obtain⟨j,h1,h2,h3,h4,h5⟩:=zu he;obtain⟨w,ew,rw'⟩:=r.get h2;have hl:=r.length;have hn:=sH;have fin:EP X pins σ Q w s:=⟨z,H,I,rw',q⟩;by_cases h0:0<=i
 ·have hj:i.toNat=j:=by
   rw[seqIndex_of h0 h5]at h1;exact aU h1
  exact item_listR pl.isList h0 () (by rw[hj];simpa using ew) fin hs
 ·have hj:(i+(its.toArray.size:Int)).toNat=j:=by
   rw[seqIndex_neg () h4]at h1;rw[aW,<- hl];exact aU h1
  exact subscriptTail_builtinR (x:=w) pl.isList.typeIs g6.lookup
   (wpAny_getItem_list_neg (Q:=λr s'=>r=w/\EP X pins σ Q r s') pl.isList () (by rw[aW]<;>lia) () (by rw[hj];simpa using ew) ⟨rfl,fin⟩) hs
def Ru:NW X (WL X.K):=by
 ksr_p;obtain⟨p,xs,i,z,rfl,rfl,hq,he,q⟩:=h
 cases rx
 obtain⟨t,rfl⟩:=ry;obtain⟨its,r,pl,hz⟩:=I.tuple hq;obtain⟨j,h1,h2,h3,h4,h5⟩:=zu he;obtain⟨w,ew,rw'⟩:=r.get h2;have hl:=r.length;have hn:=sH;have fin:EP X pins σ Q w s:=⟨z,H,I,rw',q⟩;exact subscriptTail_builtinR (x:=w) pl.typeIs slot_tuple_getitem.lookup
  (getItem_tuple (j:=j) (Q:=λr s'=>r=w/\EP X pins σ Q r s') pl () () (by rw[aW,<- hl];exact h1) (by simpa using ew) ⟨rfl,fin⟩) hs
def S_:NW X WX:=by
 ksr_p;obtain⟨z,i,c,rfl,rfl,hz,he,q⟩:=h;mg_lt;obtain⟨t',rfl⟩:=ry;obtain⟨j,h1,h2,h3,h4,h5⟩:=zu he;have hl:z.cps.toList.length=z.length:=by simp[Str.length]
 rw[hl]at h1 h4 h5;have hn:=sH;exact tail_any (typeIs_str s z t) slot_str_getitem.lookup (getItem_str (c:=c) (by
  have e1:decide (i < -(2 ^ 63:Int))=false:=aS ();have e2:decide (i>=2 ^ 63)=false:=aS ();rw[e1,e2,Bool.or_false]) (by rw[h1];simpa using h2) ⟨.str ⟨#[c]⟩,H,I.tok _,⟨_,rfl⟩,q⟩) hs
def C1(its:ar)(n j:Nat)(u:af):Obj.mapSeq (·.setIfInBounds j u) { cls:=.type "list",data:=.seq its.toArray n }={ cls:=.type "list",data:=.seq (its.set j u).toArray n }:=by
 simp[Obj.mapSeq]
def Inv.lst{H:Hp}{s:aC}{p:ak}{xs:List V}(I:Inv X pins σ H s)(h:H p=some (.lst xs)) :
  ∃(its:ar) (n:Nat),Vals xs its/\s.heap.get? p=some { cls:=.type "list",data:=.seq its.toArray n }/\xs.length<=sizeLine:=by
 obtain⟨z,its,n,r,e⟩:=I.hok p _ h;exact⟨its,n,r,e,z⟩
def Inv.Rp{H:Hp}{s:aC}{p:ak}{ys:List V}{its its':ar}{n:Nat}{f:Obj->Obj}(I:Inv X pins σ H s)(h:H p=some (.lst xs))
  (ho:s.heap.get? p=some { cls:=.type "list",data:=.seq its.toArray n }) (hf:f { cls:=.type "list",data:=.seq its.toArray n }={ cls:=.type "list",data:=.seq its'.toArray n' }) (r:Vals ys its') (hz:ys.length<=sizeLine) (t:Nat) :
  Inv X pins σ (upd H p<|.lst ys) { s with heap:=s.heap.update p f,toks:=t }:=by
 have e:(s.heap.update p f).get? p=some { cls:=.type "list",data:=.seq its'.toArray n' }:=by
  rw[Heap.get?_update_self f ho<|by rw[hf]<;>rfl,hf]
 refine I.write (x:=p) (e:=p) (by rw[h];trivial) (.inl rfl) (λb u hb q=>(Heap.get?_update_other _ _<|dg hb).trans q) ⟨_,e⟩ ?_;exact⟨hz,its',n',r,e⟩
abbrev Ul:V->V->V->Hp->(Hp->Prop)->Prop:=λo i v H Q=>∃p xs k j,o=.ref p/\i=.int k/\H p=some (.lst xs)/\yx xs.length k=some j/\Q (upd H p<|.lst<|xs.set j v)
def set_list:Bh X Ul:=by
 intro pins s σ H o i v ov iv u Q I ro ri rv h;obtain⟨p,xs,k,j,rfl,rfl,hp,hj,q⟩:=h
 cases ro
 obtain⟨t,rfl⟩:=ri;obtain⟨its,n,r,ho,hz⟩:=I.lst hp;obtain⟨h1,h2,h3,h4⟩:=F4 hj;have hl:=r.length;have hn:=sH;have I':Inv X pins σ (upd H p<|.lst<|xs.set j v) { s with heap:=s.heap.update p<|Obj.mapSeq (·.setIfInBounds j u)}:=
  I.Rp hp ho (C1 its n j u) (r.set rv j) (by rw[bO];exact hz) s.toks
 by_cases h0:0<=k
 ·have hk:k.toNat=j:=by
   rw[seqIndex_of h0 h4]at h1;exact aU h1
  exact PySem.W.ki_setAt ho h0 () (by rw[aW,<- hl];exact h4)<|by rw[hk];exact⟨_,I',q⟩
 ·have hk:(k+(its.toArray.size:Int)).toNat=j:=by
   rw[seqIndex_neg () h3]at h1;rw[aW,<- hl];exact aU h1
  exact PySem.W.ki_setBack ho () (by rw[aW,<- hl];exact h3) ()<|by rw[hk];exact⟨_,I',q⟩
def zM(lo hi:bd)(n:Nat):(sliceBounds lo hi none n).1=((HT.lg n 0 lo:Nat):Int)/\(sliceBounds lo hi none n).2.1=((HT.lg n n hi:Nat):Int)/\(sliceBounds lo hi none n).2.2=1:=by
 refine⟨?_,?_,rfl⟩
 ·cases lo with
  | none=>simp[sliceBounds,HT.lg]
  | some i=>
   dsimp[sliceBounds,HT.lg,getD_none,show(1:Int)>0 by decide,cE];by_cases h:i<0
   ·dsimp[h,cE]<;>lia
   ·dsimp[h,bN]<;>lia
 ·cases hi with
  | none=>simp[sliceBounds,HT.lg]
  | some i=>
   dsimp[sliceBounds,HT.lg,getD_none,show(1:Int)>0 by decide,cE];by_cases h:i<0
   ·dsimp[h,cE]<;>lia
   ·dsimp[h,bN]<;>lia
def yo(its:ar)(lo hi:bd):slicePick its.toArray lo hi none=((its.drop<|HT.lg its.length 0 lo).take<|HT.lg its.length its.length hi-HT.lg its.length 0 lo).toArray:=by
 obtain⟨h1,h2,h3⟩:=zM lo hi its.toArray.size;unfold slicePick;rw[h1,h2,h3];dsimp[sliceRange_one,pick_run,aW]<;>rfl
abbrev W8 (K:au):V->bd->bd->Hp->VK->Prop:=λx lo hi H Q=>∃a xs,x=.ref a/\nE K H a xs/\∀p,H p=none->Q (.ref p) (upd H p<|.lst<|AZ xs lo hi)
def Ew:V6 X (W8 X.K):=by
 intro pins s σ H x v vl vu lo hi sl Q I rx hs pl pu h;obtain⟨a,xs,rfl,hx,q⟩:=h
 cases rx
 obtain⟨its,r,ht,hz⟩:=I.list hx;have hlen:=r.length;refine⟨"list",_,g6.lookup,ht.isList.typeIs,?_⟩;refine wpAny_getItem_list_slice ht.isList hs pl pu .none (by simp) ?_ (by rw[aW]<;>lia);rw[yo,<- hlen];refine⟨.ref s.heap.objs.size,_,I.laid (t':=s.toks) (o:=.lst<|AZ xs lo hi) (λb ob q=>aR _ q) (aQ _) ?_,rfl,q _<|I.hok.fresh<|aQ _⟩;exact⟨bP (ve xs lo hi) hz,_,0,(r.drop<|HT.lg xs.length 0 lo).take<|HT.lg xs.length xs.length hi-HT.lg xs.length 0 lo,bB _ rfl⟩
def p8:jl X (.type "list") (λxs H Q=>∃p ys,xs=[.ref p]/\(nE X.K H p ys\/lR X.K H p ys)/\∀l,H l=none->Q (.ref l) (upd H l<|.lst ys)):=by
 kt_k;obtain⟨p,ys,rfl,hq,q⟩:=h;kpf_c
 cases rx
 have fin:∀(its:ar),Vals ys its->ys.length<=sizeLine->∀(h':aq) (c':Nat),(∀b o',s.heap.get? b=some o'->h'.get? b=some o') ->
   h'.get? s.heap.objs.size=some { cls:=.type "list",dict:=none,data:=.seq its.toArray c',slots:=#[]}->EP X pins σ Q (.ref s.heap.objs.size) { s with heap:=h' }:=λits r' hz h' c' kp e=>
  ⟨.ref s.heap.objs.size,_,I.laid (t':=s.toks) kp (aQ _)<|show jD X.prog X.w _ h' _ (.lst ys)from⟨hz,its,c',r',e⟩,rfl,q _<|I.hok.fresh<|aQ _⟩
 rcases hq with hq|hq
 ·obtain⟨its,r',pl,hz⟩:=I.list hq;have hlen:=r'.length;obtain⟨o,ho,hc,n,hd⟩:=pl.isList;exact call_list_seq p (.inl rfl) ho hc hd (λh' c' kp e=>fin its r' hz h' c' kp e) (by dsimp[aW]<;>lia)
 ·obtain⟨its,r',pl,hz⟩:=I.tuple hq;have hlen:=r'.length;obtain⟨o,ho,hc,n,hd⟩:=pl;exact call_list_seq p (.inr rfl) ho hc hd (λh' c' kp e=>fin its r' hz h' c' kp e)<|by dsimp[aW]<;>lia
def o6:jl X (.type "tuple") (λxs H Q=>∃p ys,xs=[.ref p]/\((nE X.K H p ys/\∀l,H l=none->Q (.ref l) (upd H l<|.tup ys))\/(lR X.K H p ys/\Q (.ref p) H))):=by
 kt_k;obtain⟨p,ys,rfl,h⟩:=h;kpf_c
 cases rx
 rcases h with⟨hq,q⟩|⟨hq,q⟩
 ·obtain⟨its,r',pl,hz⟩:=I.list hq;have hlen:=r'.length;refine call_tuple_list pl.isList (λh' kp=>?_) (by dsimp[aW]<;>lia);have I1:Inv X pins σ H { s with heap:=h' }:=I.kept (t':=s.toks) kp;have I2:Inv X pins σ (upd H h'.objs.size<|.tup ys) { s with heap:=h'.push { cls:=.type "tuple",data:=.seq its.toArray }}:=
   I1.laid (t':=s.toks) (λb o e=>aR _ e) (aQ _) (show jD X.prog X.w _ _ _ (.tup ys)from⟨hz,its,r',lW.new _ _⟩)
  exact⟨.ref h'.objs.size,_,I2,rfl,q _<|I1.hok.fresh<|aQ _⟩
 ·obtain⟨its,r',pl,hz⟩:=I.tuple hq;exact call_tuple_same pl ⟨.ref p,H,I,rfl,q⟩
abbrev V2 (K:au)(T:String)(x:V)(H:Hp):Prop:=match x with
 | .str _=>T = "str"
 | .int _=>T = "int"
 | .ref p=>(T = "list" /\ ∃xs,nE K H p xs)\/(T = "tuple" /\ ∃o,K.lookup p=some o/\o.cls=.type "tuple" /\ o.dict=none) \/
   (T = "dict" /\ ((∃kvs,H p=some (.dK kvs))\/∃kvs,H p=some (.dT kvs)))\/(T = "set" /\ ∃S n,H p=some (.set S n))
 | _=>False
def TY{H:Hp}{s:aC}{x:V}{v:af}(I:Inv X pins σ H s)(r:RelV x v)(ty:V2 X.K T x H) :
  s.TypeIs v T/\∀a,v=.ref a->∃ob,s.heap.get? a=some ob/\ob.dict=none:=by
 cases x with
 | str z=>
  obtain⟨t,rfl⟩:=r
  cases(show T = "str" from ty)
  exact⟨typeIs_str s z t,nofun⟩
 | int i=>
  obtain⟨t,rfl⟩:=r
  cases(show T = "int" from ty)
  exact⟨typeIs_int s i t,nofun⟩
 | ref p=>
  cases r
  rcases ty with⟨rfl,xs,hq⟩|⟨rfl,o,hk,hc,hd⟩|⟨rfl,hk⟩|⟨rfl,S,n,hk⟩
  ·obtain⟨its,_,pl,_⟩:=I.list hq;refine⟨pl.isList.typeIs,λa e=>?_⟩
   cases e
   obtain⟨o,n,e,c,hd,_⟩:=pl;exact⟨o,e,hd⟩
  ·refine⟨⟨o,I.AN p o hk,hc⟩,λa e=>?_⟩
   cases e
   exact⟨o,I.AN _ o hk,hd⟩
  ·have z:∃o,s.heap.get? p=some o/\o.ExactDict:=by
    rcases hk with⟨kvs,hk⟩|⟨kvs,hk⟩
    ·obtain⟨_,_,_,_,o,_,_,e,ex,_⟩:=I.hok p _ hk;exact⟨o,e,ex⟩
    ·obtain⟨_,_,_,_,o,_,_,e,ex,_⟩:=I.hok p _ hk;exact⟨o,e,ex⟩
   obtain⟨o,e,ex⟩:=z;refine⟨⟨o,e,ex.1⟩,λa e2=>?_⟩
   cases e2
   exact⟨o,e,ex.2.1⟩
  ·obtain⟨o,_,_,_,e,ex,_⟩:=I.hok p _ hk;refine⟨⟨o,e,ex.1⟩,λa e2=>?_⟩
   cases e2
   exact⟨o,e,ex.2.1⟩
 | _=>exact False.elim ty
abbrev Ye (K:au)(T:String)(r:V->List V->Hp->VK->Prop)(to:TE)(t:TA):TE:=λσ H Q=>to σ H λx H1=>V2 K T x H1/\t σ H1 λxs H2=>r x xs H2 Q
variable {o e:aE}{es:List aE}{to:TE}{t:TA}{name:Str}{apos cpos:Pos}{T id:String}{r:V->List V->Hp->VK->Prop}
def PR(pa:PlainAttrs T)(slot:Slot T name id)(hty:typeOf (.builtin id)=pure (.type "method_descriptor"))(hm:T5 X id r)(ho:PE X o to)(ha:PA X (e::es) t)
  (hbase:attributeBase o name X.env (eval o X.env)=eval o X.env:=by rfl)
  (hfew:((backTo cpos<|starEach (e::es) X.env).all (λx=>!x.1) && (backToKw cpos<|keywordEach [] X.env).all (λx=>x.1.isSome)
   && decide ((e::es).length+([]:List Keyword).length+(if ([]:List Keyword).isEmpty then 0 else 1)<30))=true:=by rfl)
  (hline:(apos.endLine == cpos.line)=true:=by rfl) (hs:starEach (e::es) X.env=(false,eval e X.env)::starEach es X.env:=by rfl) (hplain:(backTo cpos<|starEach es X.env).any (·.1)=false:=by rfl) :
  PE X (.Call (.Attribute o name apos) (e::es) [] cpos) (Ye X.K T r to t):=by
 w_up;refine wpAny_Call_method_late hbase hfew hline rfl<|jN (ho pins s σ H _ I h) λv s1 ⟨x,H1,I1,r1,ty,q1⟩=>?_;obtain⟨h1,h2⟩:=TY I1 r1 ty;refine⟨T,id,pa,slot,hty,h1,h2,?_⟩;have hA:=ha cpos pins s1 σ H1 _ I1 q1;rw[hs]at hA ⊢;refine Calls.callWith_builtin (by show(false || (backTo cpos<|starEach es X.env).any (·.1))=false;rw[hplain]<;>rfl)<|Calls.evalArgs_plain ?_;exact jN hA λus s2 ⟨vs,H2,I2,r2,q2⟩=>hm pins s2 σ H2 x vs v us Q I2 r1 r2 q2
end
abbrev X8 (X:Cx)(id:String)(r:V->List V->Hp->VK->Prop):Prop:=
 ∀(pins:bn) (s:aC) (σ:St) (H:Hp) (x:V) (xs:List V) (v:af) (us:ar) (Q:VK),Inv X pins σ H s->RelV x v->Vals xs us->r x xs H Q ->
  wpAny (model X.prog X.w) X.A (call (.builtin id) (v::us)) (EP X pins σ Q) X.xe s
def Vals.one:∀{x:V}{us:ar},Vals [x] us->∃u,us=[u]/\RelV x u
 | _,_,.cons r .nil=>⟨_,rfl,r⟩
theorem Vals.eraseIdx:∀{xs:List V}{us:ar}(i:Nat),Vals xs us->Vals (xs.eraseIdx i) (us.eraseIdx i)
 | _,_,_,.nil=>.nil
 | _,_,0,.cons _ t=>t
 | _,_,i+1,.cons r t=>.cons r<|Vals.eraseIdx i t
def Vals.reverse{xs:List V}{us:ar}(h:Vals xs us):Vals xs.reverse us.reverse:=by
 induction h with
 | nil=>exact .nil
 | cons r t ih=>rw[cZ,cZ];exact Vals.append ih<|.cons r .nil
theorem Vals.rep(h:Vals xs us):∀k:Nat,Vals (List.replicate k xs).flatten (List.replicate k us).flatten
 | 0=>.nil
 | k+1=>by
  rw[cX,cX,dM,dM];exact Vals.append h<|Vals.rep h k
theorem yF{α:Type}:∀(l:List α) (i:Nat),(l.eraseIdx i).length<=l.length
 | [],_=>aQ _
 | _::_,0=>Nat.le_succ _
 | _::r,i+1=>Nat.succ_le_succ<|yF r i
theorem foldl_rep(its:ar):∀(k:Nat) (acc:ar),
  List.foldl (λx1 x2=>x1++x2) acc.toArray (List.replicate k its.toArray)=(acc++(List.replicate k its).flatten).toArray
 | 0,acc=>by simp
 | k+1,acc=>by
  have e:acc.toArray++its.toArray=(acc++its).toArray:=by simp
  have e2:(acc++its)++(List.replicate k its).flatten=acc++(List.replicate (k+1) its).flatten:=by
   rw[cX,dM,bG]
  rw[<- e2,<- foldl_rep its k (acc++its),<- e,cX,d9]
section
variable {X:Cx}{pins:bn}{σ:St}{H:Hp}{s:aC}{l:ak}{xs ys:List V}
def Inv.Vq{its its':ar}{n:Nat}{f:Array af->Array af}{t':Nat}(I:Inv X pins σ H s)(hH:H l=some (.lst xs))
  (e:s.heap.get? l=some { cls:=.type "list",data:=.seq its.toArray n }) (hf:f its.toArray=its'.toArray) (hv:Vals ys its') (hz:ys.length<=sizeLine) :
  Inv X pins σ (upd H l<|.lst ys) { s with heap:=s.heap.update l<|Obj.mapSeq f,toks:=t' }:=by
 have q:=PySem.IsL.update e f;rw[hf]at q;refine I.write (x:=l) (e:=l) (by rw[hH];exact trivial) (.inl rfl) (λb' u hb hu=>(Heap.get?_update_other s.heap (Obj.mapSeq f)<|dg hb).trans hu) ⟨_,q⟩ ?_;exact⟨hz,its',_,hv,q⟩
def Inv.Mw{its:ar}{t':Nat}(I:Inv X pins σ H s)(hv:Vals ys its)(hz:ys.length<=sizeLine) :
  Inv X pins σ (upd H s.heap.objs.size<|.lst ys) { s with heap:=s.heap.push { cls:=.type "list",data:=.seq its.toArray },toks:=t' }:=
 I.laid (λ_ _ q=>aR _ q) (aQ _) ⟨hz,its,0,hv,bB _ rfl⟩
def Inv.fresh(I:Inv X pins σ H s):H s.heap.objs.size=none:=I.hok.fresh<|aQ _
def Inv.Kf(I:Inv X pins σ H s)(hH:H l=some (.lst xs)):xs.length<=sizeLine/\∃(its:ar) (n:Nat),Vals xs its/\xs.length=its.length/\s.heap.get? l=some { cls:=.type "list",data:=.seq its.toArray n }:=by
 obtain⟨z,its,n,r,e⟩:=I.hok l _ hH;exact⟨z,its,n,r,r.length,e⟩
def MG{n:Nat}(h:n<=sizeLine):Builtin.List.listTooLong n=false:=by
 unfold Builtin.List.listTooLong;exact aS ()
end
section
variable {X:Cx}
abbrev N6:V->List V->Hp->VK->Prop:=λx vs H Q=>∃l xs y,x=.ref l/\vs=[y]/\H l=some (.lst xs)/\xs.length<sizeLine/\Q .non (upd H l<|.lst<|xs++[y])
def uy:X8 X "list.append" N6:=by
 intro pins s σ H x vs v us Q I rx rv h;obtain⟨l,xs,y,rfl,rfl,hH,hz,q⟩:=h
 cases rx
 obtain⟨u,rfl,ru⟩:=rv.one;obtain⟨z,its,n,r,hl,e⟩:=I.Kf hH;refine iu F.slot_list_append ⟨_,e,rfl⟩ F.entry_list_append (F.args_list_append_2 _ _) (PySem.list_append l its.toArray n u<|by rw[aW];lia) ⟨e,?_⟩;refine⟨.non,_,I.Vq (its':=its++[u]) hH e (by simp) (r.append<|.cons ru .nil) ?_,rfl,q⟩;rw[aX,List.length_singleton]
 lia
abbrev Tc:V->List V->Hp->VK->Prop:=λx vs H Q=>∃l xs i k y,x=.ref l/\vs=[.int i]/\H l=some (.lst xs)/\-(2 ^ 63)<=i/\i<2 ^ 63/\seqIndex? i xs.length=some k/\xs[k]?=some y/\Q y (upd H l<|.lst<|xs.eraseIdx k)
def KP:X8 X "list.pop" Tc:=by
 intro pins s σ H x vs v us Q I rx rv h;obtain⟨l,xs,i,k,y,rfl,rfl,hH,h1,h2,hk,hy,q⟩:=h
 cases rx
 obtain⟨u,rfl,ru⟩:=rv.one;obtain⟨t,rfl⟩:=ru;obtain⟨z,its,n,r,hl,e⟩:=I.Kf hH;obtain⟨w,hw,rw'⟩:=r.get hy;refine iu F.slot_list_pop ⟨_,e,rfl⟩ F.entry_list_pop (F.args_list_pop_2 _ _)
  (MeetsSeq.list_pop_at l its.toArray n i t k w (fitsIndex_both h1 h2) (by rw[aW,<- hl];exact hk) (by rw[<- ff];exact hw)<|by rw[aW];lia) ⟨e,?_⟩
 refine⟨y,_,I.Vq (its':=its.eraseIdx k) hH e ?_ (r.eraseIdx k) ?_,rw',q⟩
 ·skip
  rw[gg]
 ·have:=yF xs k
  lia
abbrev Wg:R2:=λx y H Q=>∃l b xs zs,x=.ref l/\y=.ref b/\H l=some (.lst xs)/\H b=some (.lst zs)/\xs.length+zs.length<=sizeLine/\∀p,H p=none->Q (.ref p) (upd H p<|.lst<|xs++zs)
def RV:lT X (binaryOp .Add) Wg:=by
 kd_p;obtain⟨l,b,xs,zs,rfl,rfl,hH,hB,hz,q⟩:=h
 cases rx
 cases ry
 obtain⟨z,its,n,r,hl,e⟩:=I.Kf hH;obtain⟨z2,its2,n2,r2,hl2,e2⟩:=I.Kf hB;refine PySem.P.add_list e e2 ?_ (by rw[aW,aW];lia);have ea:its.toArray++its2.toArray=(its++its2).toArray:=by simp
 rw[ea];exact⟨.ref _,_,I.Mw (t':=s.toks) (r.append r2)<|by rw[aX];lia,rfl,q _ I.fresh⟩
abbrev Wh:R2:=λx y H Q=>∃l k xs,x=.ref l/\y=.int k/\H l=some (.lst xs)/\-(2 ^ 63)<=k/\k<2 ^ 63/\xs.length * k.toNat<=sizeLine /\
 ∀p,H p=none->Q (.ref p) (upd H p<|.lst (List.replicate k.toNat xs).flatten)
def len_rep{α:Type}(xs:List α)(k:Nat):(List.replicate k xs).flatten.length=k * xs.length:=by
 induction k with
 | zero=>simp
 | succ k ih=>rw[cX,dM,aX,ih,succ_mul,Nat.add_comm]
def Rh:lT X (binaryOp .Mult) Wh:=by
 kd_p;obtain⟨l,k,xs,rfl,rfl,hH,h1,h2,hz,q⟩:=h
 cases rx
 obtain⟨t,rfl⟩:=ry;obtain⟨z,its,n,r,hl,e⟩:=I.Kf hH;have hlen:its.toArray.size * k.toNat<=sizeLine:=by rw[aW,<- hl];exact hz
 have hcap:¬its.toArray.size * k.toNat>(2 ^ 63-1) / 8:=by
  have:(sizeLine:Nat)<=(2 ^ 63-1) / 8:=by decide
  omega
 have hfit:¬(!Builtin.List.listFitsIndex k)=true:=by
  rw[fitsIndex_both h1 h2];exact bH
 have hlong:¬Builtin.List.listTooLong (its.toArray.size * k.toNat)=true:=by
  rw[MG hlen];exact bH
 have hnew:List.foldl (λx1 x2=>x1++x2) #[] (List.replicate (if its.toArray.isEmpty=true then 0 else k.toNat) its.toArray)=(List.replicate k.toNat its).flatten.toArray:=by
  have f0:∀m:Nat,List.foldl (λx1 x2=>x1++x2) #[] (List.replicate m its.toArray)=(List.replicate m its).flatten.toArray:=λm=>by
   have:=foldl_rep its m [];rw[List.nil_append]at this;exact this
  rw[f0]
  cases its with
  | nil=>simp
  | cons a r'=>rw[aJ<|by simp]
 refine wpAny_binaryOp_repeat_ref (T := "list") (U := "int") ⋯ ⟨_,e,rfl⟩ (λs'=>typeIs_int s' k t) noFill_list_mul F.fills_int_mul F.slot_int_rmul repeat_list F.slot_int_index.lookup
  (iu F.slot_int_rmul (typeIs_int s k t) F.entry_int_rmul (F.args_int_rmul_2 _ _) (int___rmul___int_list k t l its.toArray n)
   ⟨e,rfl,⟨_,e,rfl⟩,iu F.slot_list_mul ⟨_,e,rfl⟩ F.entry_list_mul (F.args_list_mul_2 _ _) (AutoListH.list___mul___list_int_3 l its.toArray n k t hfit hcap hlong) ⟨e,?_⟩⟩)
 rw[hnew];exact⟨.ref _,_,I.Mw (t':=s.toks) (r.rep k.toNat)<|by rw[len_rep,Nat.mul_comm];exact hz,rfl,q _ I.fresh⟩
end
end L2
namespace Att
open PySem PySem.W PySem.Calls PyProof.Rows
def vh{P:Params}:∀(ns:ae) (vs:ar),WellAll P h vs (ns.map WData.int)->IntsAre vs ns:=by
 intro ns
 induction ns with
 | nil=>
  intro vs w;rw[map_nil]at w
  cases w
  exact .nil
 | cons n ns ih=>
  intro vs w;rw[bU]at w
  cases w with
  | cons a b=>
   cases a
   exact .cons _ _<|ih _ b
def HN{l:OpenLaw}{n:Nat}(hn:l.most=some n){P:Params}{h:aq}
  (hpre:l.row.toRowW.claim.pre args=true) (hwl:WellAll P h vals args) :
  ∃a vs ns,vals=[Value.ref a]/\args=[WData.list<|ns.map WData.int]/\h.get? a=some { cls:=.type "list",data:=.seq vs.toArray }/\IntsAre vs ns/\ns.length<=n:=by
 have hsh:WShape.hasAll [] args [.list .int]=true:=(pre_splitW hpre).1;have hc:l.pre.holds [] { args:=args }=true:=(pre_splitW hpre).2;obtain⟨d,r,rfl,h1,h2⟩:=hasAllW_cons hsh;obtain rfl:=hasAllW_nil h2;obtain⟨xs,rfl,h3⟩:=hasW_list h1;obtain⟨ns,rfl⟩:=items_int h3;have hlen:ns.length<=n:=by
  unfold OpenLaw.pre at hc;have h4:(WTm.not<|.lt (.lit<|.int (n:Int))<|.len<|.arg 0).holds [] { args:=[.list<|ns.map .int]}=true:=by
   have h4:=(holds_andW hc).1;rw[hn]at h4;exact h4
  have h5:=condW_of h4<|w_not<|w_lt w_lit<|w_len_list<|w_arg rfl;rw[aL]at h5;refine Nat.le_of_not_lt λq=>?_;have q':(n:Int)<((ns.length:Nat):Int):=by omega
  first
   | (rw[aT q']at h5;exact absurd h5 ⋯)
   | (simp at h5;omega)
 cases hwl with
 | cons w1 w2=>
  cases w2
  cases w1 with
  | list ho hall=>exact⟨_,_,ns,rfl,rfl,ho,vh ns _ hall,hlen⟩
def Hw(l:OpenLaw)(args:List WData):l.row.toRowW.claim.post args (.bool true) args=true:=
 postW_of (r:=l.row.toRowW) (X:=(true == true))
  (show WShape.has [] (.bool true) .bool=true by first|rfl|decide|simp[WShape.has,WShape.arms,WShape.armsAll])
  (show(WTm.eq .res<|.lit<|.bool true).value [] { args:=args,res:=some<|.bool true,after:=args }=some (.bool<|true == true)from w_eq_bool (w_res rfl) w_lit) rfl
def A4{l:OpenLaw}{n:Nat}{q:aj}{XP:(Str->bb)->aq->Prop}{YP:ah->aq->Prop}{d:DefRec}
  (hn:l.most=some n) (hdf:d.params.defaults=[])
  (call:∀(w:ah) (s₀ s₁:aC) (mg mb:Str->bb) (fa:ak) (o:Obj) (pm cd doc:af) (a:ak) (vs:ar) (ns:ae),
   Ground q loose [] XP w s₀ mg mb s₁.heap->YP w s₁.heap ->
   s₁.heap.get? fa=some o->o.data=.func (docDef d.name d.params d.body d.scope pm cd doc)->s₁.heap.CodeRec cd d.name->mg d.name=some (.ref fa) ->
   s₁.heap.get? a=some { cls:=.type "list",data:=.seq vs.toArray }->IntsAre vs ns->ns.length<=n->s₁.gens=#[] ->
   codeAny (model l.prog w) callerA (.call (.ref fa) ⟨[.ref a],[]⟩) (λr s'=>r=.ok (.ret<|.bool true)/\OldK s₁.heap s'.heap/\s'.os=s₁.os/\AllBare s'.gens) s₁) :
  WalkO q loose XP YP l.row.toRowW d [] (λf vs=>PySem.call f vs):=by
 intro w s₀ s₁ mg mb G Y fa o pm cd doc dV kV ho hd hcd hD hmg hg args vals as hpre hlay hrd hwl hlo;obtain rfl:dV=.none:=Dflts.none hD hdf;obtain rfl:kV=.none:=Dflts.noKw hD;obtain⟨a,vs,ns,rfl,rfl,hobj,hints,hlen⟩:=HN hn hpre hwl;refine enter_call<|gS (call w s₀ s₁ mg mb fa o pm cd doc a vs ns G Y ho (fd_plain hd) hcd hmg hobj hints hlen hg) λr s' hq=>?_;obtain⟨rfl,h2,h3,h4⟩:=hq;exact⟨.inl ⟨.bool true,.bool true,[],rfl,λ_=>rfl,.bool true,Hw l _,λ_=>⟨List.Pairwise.nil,λ_ hm=>(nomatch hm)⟩⟩,h2,h3,h4⟩
end Att
namespace L2
open PySem PySem.Spec PyProof.Rows
theorem yQ:∀{vs:ar}{ns:ae},IntsAre vs ns->Vals (ns.map V.int) vs
 | _,_,.nil=>.nil
 | _,_,.cons n t h=>.cons ⟨t,rfl⟩<|yQ h
abbrev N1 (H:Hp):Prop:=∀b,H b=none\/∃o xs,H b=some (.frz o<|.lst xs)
def JF{P:aj}{w:ah}{K:au}{mg mb:Str->bb}{CX:M3}{k:Nat}{fa a:ak}{x:Str}{sp:Sp}{s₁:aC}{vs:ar}{ns:ae}
  (KX:K.In s₁.heap) (hns:s₁.heap.Ns mainGlobals mg) (hb:s₁.heap.Ns builtinsNs mb) (hbb:∀x:Str,x ≠ "__name__" -> mb x=bootBuiltins x) (hlim:s₁.heap.NoLimit) (hg:s₁.gens=#[])
  (ha:s₁.heap.get? a=some { cls:=.type "list",data:=.seq vs.toArray }) (hi:IntsAre vs ns) (hl:ns.length<=sizeLine) (hr:Room k callerA)
  (F:∀base:aq,K.In base->base.Ns mainGlobals mg->FnOk P w K mg base CX k fa fd [x] sp) (hbind:∀(s:aC) (u:af),BindsTo s fd ⟨[u],[]⟩ [(x,u)])
  (hsp:∀H:Hp,N1 H->nE K H a (ns.map V.int)->sp [.ref a] H (λv _=>v=.bl true) λ_ _ _=>False)
  (hCX:∀H e s',CX [] H s₁ (λ_ _ _=>False) e s'->False) :
  codeAny (model P w) callerA (.call (.ref fa) ⟨[.ref a],[]⟩) (λr s'=>r=.ok (.ret<|.bool true)/\OldK s₁.heap s'.heap/\s'.os=s₁.os/\AllBare s'.gens) s₁:=by
 have rv:=yQ hi;have lenV:=hi.length;have core:∀H:Hp,N1 H->nE K H a (ns.map V.int)->tu P w H s₁.heap->(∀b,H b≠none->b=a)->(H a≠none->K.lookup a=none) ->
   codeAny (model P w) callerA (.call (.ref fa) ⟨[.ref a],[]⟩) (λr s'=>r=.ok (.ret<|.bool true)/\OldK s₁.heap s'.heap/\s'.os=s₁.os/\AllBare s'.gens) s₁:=by
  intro H hO hS hok hA hK;have base_of:∀{b:ak} {o:Obj},s₁.heap.get? b=some o->H b=none->(zl s₁.heap H).get? b=some o:=λe n=>J6 e n;have noA:∀{b:ak} {o:Obj} {es:Array DictEntry} {ep:Nat},s₁.heap.get? b=some o->o.data=.dict es ep->H b=none:=λ{b o es ep} e d=>by
   cases q:H b with
   | none=>rfl
   | some u=>
    have e':b=a:=hA b (by rw[q];simp);subst e';rw[ha]at e;cases e;have d':Data.seq vs.toArray _=Data.dict es ep:=d
    cases d'
  have nsK:∀{b:ak} {m:Str->bb},s₁.heap.Ns b m->(zl s₁.heap H).Ns b m:=λ{b m} ⟨o,es,ep,e,d,r⟩=>⟨o,es,ep,base_of e<|noA e d,d,r⟩;have hKb:K.In (zl s₁.heap H):=λb o e=>base_of (KX b o e) (by
   cases q:H b with
   | none=>rfl
   | some u=>
    have e':b=a:=hA b (by rw[q];simp);subst e';rw[hK<|by rw[q];simp]at e;cases e)
  have hM:Mod K mg (zl s₁.heap H):=⟨hKb,nsK hns,⟨mb,nsK hb,hbb⟩,let⟨mc,h1,h2⟩:=hlim;⟨mc,nsK h1,h2⟩⟩;have e0:Env0 P w K mg (zl s₁.heap H) callerA [] s₁ H:=⟨rfl,hM,λb o e=>OL e,Nat.le_of_eq<|HW _ _,trivial,λb hb=>absurd (show b∈([]:ba)from hb)<|by simp,hok,.of_eq hg⟩;refine gS ((F _ hKb<|nsK hns).run callerA [] s₁ H ⟨[.ref a],[]⟩ [.ref a] [.ref a] _ _ hr e0 (hbind s₁<|.ref a) (.cons rfl .nil)<|hsp H hO hS) λr s' h=>?_
  cases r with
  | error e=>exact(hCX H e s' h).elim
  | ok fl=>
   cases fl with
   | next=>exact False.elim h
   | brk=>exact False.elim h
   | cont=>exact False.elim h
   | ret u=>
    obtain⟨v,H',os,bare,un,hok',r',q⟩:=h;have q':v=.bl true:=q;subst q';obtain rfl:u=Value.bool true:=r';refine⟨rfl,OldK.of_keep λb o e=>?_,os,bare⟩
    cases q:H b with
    | none=>exact un.keep b o e q (by intro z;exact absurd (show b∈([]:ba)from z)<|by simp) (by simp)
    | some u=>
     rcases hO b with z|⟨ob,xs,z⟩
     ·rw[q]at z;cases z
     ·have z2:=un.frzs b ob _ z;obtain⟨e1,_⟩:=hok b _ z;obtain⟨e2,_⟩:=hok' b _ z2;rw[e]at e1;cases e1;exact e2
 cases hk:K.lookup a with
 | some o=>
  have e:=KX a o hk;rw[ha]at e
  cases e
  refine core (λ_=>none) (λ_=>.inl rfl) (.inr ⟨_,vs.toArray,_,hk,rfl,rfl,rfl,by rw[aW,lenV];exact hl,by simpa using rv⟩) (λb u z=>by have z':(none:Option HO)=some u:=z;cases z') (λb z=>absurd rfl z) λz=>absurd rfl z
 | none=>
  refine core (λb=>if b=a then some (.frz { cls:=.type "list",data:=.seq vs.toArray } (.lst<|ns.map V.int))else none) (λb=>?_) (.inl<|.inr ⟨{ cls:=.type "list",data:=.seq vs.toArray },aK rfl⟩) (λb u z=>?_) (λb z=>?_) λ_=>hk
  ·by_cases hb:b=a
   ·exact .inr ⟨_,_,aK hb⟩
   ·exact .inl<|aJ hb
  ·by_cases hb:b=a
   ·have z':=(aK hb).symm.trans z
    cases z'
    subst hb;exact⟨ha,by rw[aL];exact hl,vs,_,rv,ha⟩
   ·have z':=(aJ hb).symm.trans z
    cases z'
  ·by_cases hb:b=a
   ·exact hb
   ·exact absurd (aJ hb) z
def O2{l:PySem.W.OpenLaw}{n k:Nat}{q:aj}{XP:(Str->bb)->aq->Prop}{YP:ah->aq->Prop}{d:DefRec}{K:Params->au}{CX:ah->M3}{sp:ah->Sp}{x:Str}
  (hn:l.most=some n) (hn2:n<=sizeLine) (hdf:d.params.defaults=[]) (hr:Room k callerA)
  (hY:∀(w:ah) (h:aq),YP w h->(K w.params).In h)
  (F:∀(w:ah) (mg:Str->bb) (fa:ak) (h:aq),(K w.params).In h->h.Ns mainGlobals mg->mg d.name=some (.ref fa) ->
   ∃fd:FuncData,(∀(s:aC) (u:af),BindsTo s fd ⟨[u],[]⟩ [(x,u)]) /\
    ∀base:aq,(K w.params).In base->base.Ns mainGlobals mg->FnOk l.prog w (K w.params) mg base (CX w) k fa fd [x] (sp w))
  (hsp:∀(w:ah) (H:Hp) (a:ak) (ns:ae),ns.length<=n->N1 H->nE (K w.params) H a (ns.map V.int)->sp w [.ref a] H (λv _=>v=.bl true) λ_ _ _=>False)
  (hCX:∀(w:ah) (H:Hp) (s:aC) (e:af) (s':aC),CX w [] H s (λ_ _ _=>False) e s'->False) :
  PySem.W.WalkO q loose XP YP l.row.toRowW d [] (λf vs=>PySem.call f vs):=by
 refine Att.A4 hn hdf λw s₀ s₁ mg mb fa o pm cd doc a vs ns G Y ho hd hcd hmg hobj hints hlen hg=>?_;have KX:=hY w _ Y;obtain⟨fd,hb,hF⟩:=F w mg fa _ KX G.T.g hmg;exact JF KX G.T.g G.T.b G.T.builtins G.T.nolimit hg hobj hints (bP hlen hn2) hr hF hb (λH hO hS=>hsp w H a ns hlen hO hS) λH e s'=>hCX w H s₁ e s'
abbrev rD (s:aF):Arguments:=match s with
 | .FunctionDef _ a _ _ _ _ _ _ _ _=>a
 | _=>{ posonlyargs:=[],args:=[],vararg:=none,kwonlyargs:=[],kw_defaults:=[],kwarg:=none,defaults:=[]}
abbrev oz (s:aF):List aF:=match s with
 | .FunctionDef _ _ b _ _ _ _ _ _ _=>b
 | _=>[]
abbrev iT (s:aF):Scope:=match s with
 | .FunctionDef _ _ _ _ _ _ sc _ _ _=>sc
 | _=>{ kind:=.function,names:=[],isGenerator:=false,isCoroutine:=false }
meta abbrev nX:M3:=λ_ _ _ _ _ _=>False
meta abbrev E0:XK:=λ_ _ _=>False
def Vf{X:Cx}:Passes nX X E0:=λ_ _ _ _ _ _ _ h=>h.elim
structure Fun (K:au)(x qual:Str)(st:aF)(f:ak)(fd:FuncData):Prop where
 ex:∃(oc:af) (od:Option ak) (kV doc pm:af) (an:Option ak) (cdv ct:af) (osl:Array<|bb),
  fd=PySem.W.fnOf x qual (rD st) (oz st) (iT st) .none kV doc pm an cdv ct/\K.lookup f=some ⟨oc,od,.func fd,osl⟩/\PySem.W.codeIn K cdv qual=true
 kp:PySem.W.keepIn K (.ref f)=true
section
variable {P:aj}{w:ah}{K:au}{mg:Str->bb}{base:aq}
def Fun.ok{x:Str}{st:aF}{f:ak}{N ps:ap}{k:Nat}{sp:Sp}(F:Fun K x qual st f fd)(S:FnScope N ps<|iT st)(len:∀vs H Q E,sp vs H Q E->vs.length=ps.length)
  (hbody:∀(cdv:af) (A:aA) (outer:List Env) (s:aC) (H:Hp) (vs:List V) (Q:VK) (E:XK),Room k (A.deeper<|envOfC qual (iT st) s.heap.objs.size f cdv)->sp vs H Q E ->
   ∃t,zJ (DY nX P w K mg base N qual (iT st) f cdv A outer s H E).Uj (oz st) t/\t { nx:=λ_ H'=>Q .non H',rt:=Q } (start N vs) H):FnOk P w K mg base nX (k+1) f fd ps sp:=by
 obtain⟨oc,od,kV,doc,pm,an,cdv,ct,osl,rfl,lk,hcd⟩:=F.ex;refine US lk hcd S len λA outer s H vs Q E hr hsp=>?_;obtain⟨t,h,q⟩:=hbody cdv A outer s H vs Q E hr hsp;exact⟨t,h.Uj,q⟩
def Fun.binds{x:Str}{st:aF}{f:ak}{ps:ap}(F:Fun K x qual st f fd)
  (h:∀(kV doc pm:af) (an:Option ak) (cdv ct:af) (us:ar),us.length=ps.length->bindArgs (PySem.W.fnOf x qual (rD st) (oz st) (iT st) .none kV doc pm an cdv ct) ⟨us,[]⟩=pure (ps.zip us)):Binds K fd ps []:=by
 obtain⟨oc,od,kV,doc,pm,an,cdv,ct,osl,rfl,lk,hcd⟩:=F.ex;exact .all<|h kV doc pm an cdv ct
def SV{x:Str}{st:aF}{f:ak}{kV pm ct:af}(l:K.lookup f=some ⟨oc,od,.func<|PySem.W.fnOf x qual (rD st) (oz st) (iT st) .none kV doc pm an cdv ct,osl⟩)
  (c:PySem.W.codeIn K cdv qual=true) (k:PySem.W.keepIn K (.ref f)=true):Fun K x qual st f (PySem.W.fnOf x qual (rD st) (oz st) (iT st) .none kV doc pm an cdv ct):=⟨⟨oc,od,kV,doc,pm,an,cdv,ct,osl,rfl,l,c⟩,k⟩
end
section
variable {X:Cx}
def pv(i:Nat){x:Str}(hN:X.N[i]?=some x:=by rfl)(hv:T8 X.env.scope x:=by first|exact Or.inl rfl|exact Or.inr (Or.inl rfl)|exact Or.inr<|Or.inr rfl)(hd:(x == ("__debug__" : Str))=false:=by decide)
  (hcd:(x == ("__classdict__" : Str))=false:=by decide):PE X (.Name x pos) (UQ i):=MK hN hv hd hcd
end
set_option maxHeartbeats 4000000
abbrev OB (σ:St):bj->Option V
 | some j=>(σ[j]?).getD none
 | none=>none
abbrev vj (env:Env):List (Str×NameKind)->List (Str×ak)->List (Str×ak)
 | [],cs=>cs
 | (n,k)::r,cs=>vj env r (if k == .free then(n,(env.cells.lookup n).getD 0)::cs else cs)
def wQ{scope:Scope}{env:Env}(h:∀y∈scope.names,y.2=.free->∃c,env.cells.lookup y.1=some c):closureFor scope env=pure (vj env scope.names []):=by
 have key:∀(l:List<|Str×NameKind) (cs:List<|Str×ak),(∀y∈l,y.2=.free->∃c,env.cells.lookup y.1=some c) ->
   (forIn l cs (λ(x:Str×NameKind) (r:List<|Str×ak)=>(match x with
    | (name,kind)=>if (kind == NameKind.free)=true then(do let c <- cellOf env name;pure (ForInStep.yield ((name,c)::r)))else pure (ForInStep.yield r):Sem<|ForInStep<|List<|Str×ak)))=(pure (vj env l cs):Sem<|List<|Str×ak):=by
  intro l
  induction l with
  | nil=>intro cs _;rfl
  | cons y r ih=>
   intro cs hl;obtain⟨n,k⟩:=y;rw[List.forIn_cons];by_cases hk:k=.free
   ·subst hk;obtain⟨c,hc⟩:=hl (n,.free) aN rfl;have e1:cellOf env n=pure c:=by
     unfold cellOf;rw[hc]
    dsimp[bK,cE,e1,pure_bind];rw[ih _ λz hz=>hl z<|aP _ hz];dsimp[vj,bK,cE,hc,eN]
   ·have hb:(k == NameKind.free)=false:=by simpa using hk
    dsimp[hb,aZ,bN,pure_bind];rw[ih _ λz hz=>hl z<|aP _ hz];dsimp[vj,hb,aZ,bN]
 have:=key scope.names [] h;exact(dm (λz=>z >>= λcs=>(pure cs:Sem<|List<|Str×ak)) this).trans (pure_bind _ _)
theorem wO:∀{l:List<|Str×NameKind}{x:Str}{k:NameKind},l.lookup x=some k->(x,k)∈l
 | [],_,_,h=>nomatch h
 | (n,k')::r,x,k,h=>by
  rw[fF]at h
  cases hx:x == n with
  | true=>
   rw[hx]at h;have e:x=n:=by simpa using hx
   subst e
   cases h
   exact aN
  | false=>rw[hx]at h;exact aP _<|wO h
theorem y9{env:Env}{x:Str}{c:ak}:∀{l:List<|Str×NameKind}{cs:List<|Str×ak},(∀y∈l,y.2=.free->∃c,env.cells.lookup y.1=some c)->(vj env l cs).lookup x=some c->env.cells.lookup x=some c\/cs.lookup x=some c
 | [],cs,_,h=>.inr h
 | (n,k)::r,cs,hl,h=>by
  have h':=y9 (l:=r) (λz hz=>hl z<|aP _ hz) h
  rcases h' with h'|h'
  ·exact .inl h'
  ·by_cases hk:k=.free
   ·subst hk;dsimp[bK,cE]at h';obtain⟨c',hc⟩:=hl (n,.free) aN rfl;rw[hc,eN,fF]at h'
    cases hx:x == n with
    | true=>
     rw[hx]at h';have e:x=n:=by simpa using hx
     subst e;left;rw[hc];exact h'
    | false=>rw[hx]at h';exact .inr h'
   ·have hb:(k == NameKind.free)=false:=by simpa using hk
    dsimp[hb,aZ,bN]at h';exact .inr h'
theorem yO{env:Env}{x:Str}:∀{l:List<|Str×NameKind}{cs:List<|Str×ak},(cs.lookup x).isSome=true->((vj env l cs).lookup x).isSome=true
 | [],cs,h=>h
 | (n,k)::r,cs,h=>by
  skip
  refine yO (l:=r) ?_;by_cases hk:(k == NameKind.free)=true
  ·rw[aK hk,fF]
   cases hx:x == n with
   | true=>rfl
   | false=>exact h
  ·rw[aJ hk];exact h
theorem wU{env:Env}{x:Str}:∀{l:List<|Str×NameKind}{cs:List<|Str×ak},(x,NameKind.free)∈l->((vj env l cs).lookup x).isSome=true
 | [],_,h=>nomatch h
 | (n,k)::r,cs,h=>by
  rcases bJ.mp h with e|h
  ·cases e
   skip
   refine yO (l:=r) ?_;rw[aK<|by rfl,fF];simp
  ·exact wU (l:=r) h
abbrev jU (X:Cx)(scope:Scope)(N:ap)(C:ak)(s₀:aC)(H₀:Hp)(ex:ba):Cx where
 prog:=X.prog
 w:=X.w
 K:=X.K
 mg:=X.mg
 base:=X.base
 A:=X.A
 N:=N
 s₀:=s₀
 H₀:=H₀
 env:=compEnvC scope (vj X.env scope.names []) C X.env
 outer:=X.stack
 stack:=X.stack
 ex:=ex
 fn:=λ_=>false
 calm:=X.calm
 pn:=[]
 xe:=λ_ _=>False
structure CpScope (X:Cx)(scope:Scope)(N:ap)(cap:List (bj)):Prop where
 kind:scope.kind=.function
 nocell:∀y∈scope.names,y.2≠.cell
 nm:∀y∈scope.names,y.2=.local->scope.names.lookup y.1=some .local
 fr:∀y∈scope.names,y.2=.free->X.env.kindOf y.1=some .cell\/X.env.kindOf y.1=some .free
 rl:∀y,((relabel scope X.env).names.lookup y=some .cell\/(relabel scope X.env).names.lookup y=some .free)->(y,NameKind.free)∈scope.names
 len:cap.length=N.length
 nolf:∀x,(x,NameKind.free)∈scope.names->scope.names.lookup x≠some .local
 cp:∀(i j:Nat) (x:Str),N[i]?=some x->cap[i]?=some (some j)->X.N[j]?=some x/\(x,NameKind.free)∈scope.names
def Ku{X:Cx}{N:ap}{cap:List<|bj}{H:Hp}{s:aC}{fp:ba}{h₁:aq}{m:Str->bb}{tk:Nat}(S:CpScope X scope N cap)(I:Inv X pins σ H s)
  (hf:∀b∈fp,qG X pins H b) (ho:∀b∈fp,∃o,s.heap.get? b=some o) (hn:h₁.Ns s.heap.objs.size m) (hk:∀b o,s.heap.get? b=some o->h₁.get? b=some o) :
  Inv (jU X scope N s.heap.objs.size s H fp) [] (cap.map<|OB σ) H { s with heap:=h₁,toks:=tk }:=by
 kcj_m;have lk:∀x c,(vj X.env scope.names []).lookup x=some c->X.env.cells.lookup x=some c:=λx c e=>by
  rcases y9 hfree e with z|z
  ·exact z
  ·cases z
 have lt:∀b o,s.heap.get? b=some o->b≠s.heap.objs.size:=λb o e=>bD<|br e;refine⟨⟨I.ok.mod,?_,I.ok.glob,I.ok.blt,aQ _,?_,?_,?_,I.ok.hd,I.ok.frames,.inl rfl,?_,I.bs,bP I.ok.bsz I.sz,?_,?_,I.stack,I.Gg⟩,rfl,I.bare,Un.kept hk,?_,?_,I.hok.fresh<|aQ _,?_,?_,I.hok.kept hk,?_⟩
 ·exact S.kind
 ·intro x y c e1 e2;exact I.ok.inj x y c (lk x c e1) (lk y c e2)
 ·intro x e;have hm:=S.rl x e;have:=wU (env:=X.env) (cs:=[]) hm;exact fL.mp this
 ·intro x c e _;exact absurd e (by simp[jU])
 ·intro b hb;obtain⟨o,e⟩:=ho b hb;refine⟨lt b o e,λx c e2=>(hf b hb).2.2.2.2.1 x c<|lk x c e2⟩
 ·intro b o e hb;obtain⟨_,_,_,h3,_⟩:=hf b hb
  rcases h3 with z|z
  ·exact I.ok.noex b o e z
  ·exact absurd (bM (br (I.ok.bs b o e).1) z)<|eY _
 ·intro b hb hz;obtain⟨_,h1,h2,_⟩:=hf b hb
  rcases bJ.mp (I.CP b hz)with z|z
  ·exact h1 z
  ·exact h2 z
 ·refine⟨m,hn,λi x v e1 e2 e3=>?_⟩;rw[a_]at e2
  cases hc:cap[i]? with
  | none=>rw[hc]at e2;cases e2
  | some oj=>
   rw[hc]at e2
   cases oj with
   | none=>cases e2
   | some j=>
    have e2':(σ[j]?).getD none=some v:=aU e2;obtain⟨hj,hm⟩:=S.cp i j x e1 hc;obtain⟨m0,hn0,hl0⟩:=I.loc;have hσ:σ[j]?=some (some v):=by
     cases h:σ[j]? with
     | none=>rw[h]at e2';cases e2'
     | some z=>rw[h,eN]at e2';rw[e2']
    have hkd:=S.fr (x,.free) hm rfl;have hv:T8 X.env.scope x:=.inr hkd;obtain⟨u,ru,lo⟩:=hl0 j x v hj hσ hv;refine⟨u,ru,?_⟩
    rcases lo with⟨lo,_⟩|⟨_,c,ec,ic⟩
    ·rcases hkd with z|z<;>(rw[z]at lo;cases lo)
    ·have h2:=wU (env:=X.env) (cs:=[]) hm;obtain⟨c',hc'⟩:=fL.mp h2;have:c'=c:=aU<|(lk x c' hc').symm.trans ec;subst this;refine .inr ⟨?_,c',hc',?_⟩
     ·rcases e3 with z|z|z
      ·exfalso;have:(relabel scope X.env).names.lookup x=some .local:=z;have hloc:scope.names.lookup x=some .local:=by
        have hmem:∃k,(x,k)∈(relabel scope X.env).names/\k=.local:=by
         clear hc' h2;have:=wO this;exact⟨_,this,rfl⟩
        obtain⟨k,hk1,rfl⟩:=hmem;obtain⟨⟨n',k'⟩,hm1,hm2⟩:=bV.mp hk1;dsimp only at hm2;split at hm2
        ·cases hm2
        ·cases hm2
         exact S.nm (x,.local) hm1 rfl
       exact False.elim<|S.nolf x hm hloc
      ·exact .inl z
      ·exact .inr z
     ·obtain⟨o,ho',hd⟩:=ic;exact⟨o,hk _ _ ho',hd⟩
 ·intro x c e;obtain⟨v,o,ho',hd⟩:=I.cell x c<|lk x c e;exact⟨v,o,hk _ _ ho',hd⟩
 ·intro x c e;exact I.freeC x c (lk x c e)
 ·intro p hp
  cases hp
 ·rw[aL,S.len];rfl
abbrev N9 (X:Cx)(ifs:List aE)(t:TT):Prop:=
 ∀(pins:bn) (s:aC) (σ:St) (H:Hp) (Q:Bool->Hp->Prop),Inv X pins σ H s->t σ H Q ->
  wpAny (model X.prog X.w) X.A (forIn ifs true λc r=>if r=true then do let ok <- isTrue c X.env (eval c X.env);pure (ForInStep.yield ok)else pure (ForInStep.yield r)) (TP X pins σ Q) X.xe s
abbrev WQ:TT:=λ_ H Q=>Q true H
def NO{X:Cx}:N9 X [] WQ:=λ_ _ _ H _ I h=>wpAny_tests_nil ⟨H,I,h⟩
def Np{X:Cx}{c:aE}{t:TT}(h:PT X c t):N9 X [c] t:=λpins s σ H Q I q=>wpAny_tests_one<|h pins s σ H Q I q
abbrev Sd (cap:List<|bj)(g:TG)(tc:TT)(te:TE)(σ:St)(Q:VK)(J:It)(H1:Hp):Prop:=∀D,H1 D=none ->
 ∃W:Nat->Nat->St->Hp->Prop,(∃m,W 0 m (cap.map<|OB σ)<|upd H1 D<|.lst [])/\∀i m σ' H',W i m σ' H' ->
  (J.stop i H'/\Q (.ref D) H')\/(J.go i H'/\∀x H2,J.yld i H' x H2->g x σ' H2 λσ3 H3=>tc σ3 H3 λb H4=>
   if b=true then te σ3 H4 λy H5=>∃ys,H5 D=some (.lst ys)/\ys.length<sizeLine/\∃m',m'<m/\W (i+1) m' σ3 (upd H5 D<|.lst<|ys++[y])
   else ∃m',m'<m/\W (i+1) m' σ3 H4)
abbrev V3 (cap:List<|bj)(wi:TI)(g:TG)(tc:TT)(te:TE):TE:=λσ H Q=>wi σ H<|Sd cap g tc te σ Q
def zB{α:Type}{t:Sem α}{Q Q':α->aC->Prop}{A:aA}{E:af->aC->Prop}(h:wpAny M A t Q (λ_ _=>False) s)(hQ:∀a s,Q a s->Q' a s):wpAny M A t Q' E s:=
 fP h hQ λ_ _ f=>f.elim
structure TurnG (ok:Cx->Prop)(P:aj)(w:ah)(K:au)(tg:aE)(J:It)(fp:ba)(it:ak)(tn:Nat->aq->Prop):Prop where
 obj:∀i h,tn i h->∀b∈fp,∃o,h.get? b=some o/\∀v,o.data≠.cell v
 keep:∀i h h',tn i h->(∀b∈fp,∀o,h.get? b=some o->h'.get? b=some o)->tn i h'
 item:∀(X:Cx),X.prog=P->X.w=w->X.K=K->ok X->∀(i:Nat) (pins:bn) (s:aC) (σ:St) (H:Hp) (E:af->aC->Prop),Inv X pins σ H s->(∀b∈fp,qG X pins H b)->tn i s.heap->J.go i H ->
  wpAny (model P w) X.A (pyNext<|.ref it) (λr s1=>∃u,r=some u /\
   wpAny (model P w) X.A (letOwnedTupleGo tg (.ref it) u) (λ_ s2=>∃x H',Inv X pins σ H' s2/\RelV x u/\J.yld i H x H'/\tn (i+1) s2.heap/\∀b∈fp,H' b=none) E s1) E s
 done:∀(X:Cx),X.prog=P->X.w=w->X.K=K->ok X->∀(i:Nat) (pins:bn) (s:aC) (σ:St) (H:Hp) (E:af->aC->Prop),Inv X pins σ H s->(∀b∈fp,qG X pins H b)->tn i s.heap->J.stop i H ->
  wpAny (model P w) X.A (pyNext<|.ref it) (λr s1=>r=none/\Inv X pins σ H s1) E s
 self:∀(A:aA) (i:Nat) (s:aC) (Q:af->aC->Prop) (E:af->aC->Prop),tn i s.heap->Q (.ref it) s->wpAny (model P w) A (pyIter<|.ref it) Q E s
abbrev Xb (ok:Cx->Prop)(X:Cx)(pins:bn)(σ:St)(tg:aE)(R:It->Hp->Prop)(itv:af)(s2:aC):Prop:=
 ∃(it:ak) (fp:ba) (tn:Nat->aq->Prop) (J:It) (H':Hp),itv=.ref it/\Inv X pins σ H' s2/\TurnG ok X.prog X.w X.K tg J fp it tn/\tn 0 s2.heap/\(∀b∈fp,qG X pins H' b)/\R J H'
abbrev Wm (ok:Cx->Prop)(X:Cx)(tg iter:aE)(wi:TI):Prop:=
 ∀(pins:bn) (s:aC) (σ:St) (H:Hp) (R:It->Hp->Prop),Inv X pins σ H s->wi σ H R ->
  wpAny (model X.prog X.w) X.A (eval iter X.env) (λv s1=>wpAny (model X.prog X.w) X.A (pyIter v) (Xb ok X pins σ tg R) X.xe s1) X.xe s
def PI.g{X:Cx}{iter:aE}{wi:TI}(h:PI X tg iter wi):Wm (λY=>Y.calm=true) X tg iter wi:=λpins s σ H R I q=>
 jN (h pins s σ H R I q) λv s1 h1=>jN h1 λitv s2 ⟨it,fp,tn,J,H',e,I',T,a,b,c⟩=>⟨it,fp,tn,J,H',e,I',⟨T.obj,T.keep,T.item,T.done,T.self⟩,a,b,c⟩
def Nv{ok:Cx->Prop}{X:Cx}{use:Option<|af->Sem Unit}{Q':af->aC->Prop}{iter:aE}{N:ap}{wi:TI}{g:TG}{tc:TT}{te:TE}(S:CpScope X scope N cap)(hok:∀C s₀ H₀ ex,(∀a o u,X.H₀ a=some (.frz o u)->H₀ a=some (.frz o u))->ok (jU X scope N C s₀ H₀ ex))(hi:Wm ok X tg iter wi)
  (hg:∀C s₀ H₀ ex,PG (jU X scope N C s₀ H₀ ex) tg g) (ht:∀C s₀ H₀ ex,N9 (jU X scope N C s₀ H₀ ex) ifs tc) (he:∀C s₀ H₀ ex,PE (jU X scope N C s₀ H₀ ex) elt te)
  (hs:∀x,foldedSetIterable iter X.env x=pure x:=by intro _;rfl):∀(pins:bn) (s:aC) (σ:St) (H:Hp) (Q:VK),Inv X pins σ H s->V3 cap wi g tc te σ H Q ->
  (∀(s6:aC) (C D:ak) (H5:Hp) (m:Str->bb),s6.heap.Ns C m->qG X pins H5 C->(∀h',Heap.SameBut C s6.heap h'->Inv X pins σ H5 { s6 with heap:=h' })->Q (.ref D) H5->∀v,compPost (model X.prog X.w) X.A X.xe use Q' (.ref D) C (.ok v) s6) ->
  wpAny (model X.prog X.w) X.A (comprehension (.ListComp elt [⟨tg,iter,ifs,0⟩] scope pos) scope X.env (firstIterPos [⟨tg,iter,ifs,0⟩] pos) (newList []) (firstAsync [⟨tg,iter,ifs,0⟩]) (firstIter [⟨tg,iter,ifs,0⟩] X.env) use) Q' X.xe s:=by
 intro pins s σ H Q I h hfin;kcj_m;refine wpAny_comprehension_free (use:=use) rfl hs (wQ hfree) S.kind S.nm<|jN (hi pins s σ H _ I h) λxv s1 h1=>jN h1 λitv s2 h2=>?_;obtain⟨it,fp,tn,J,H2,rfl,I2,T,st2,f2,h2⟩:=h2;refine bQ (wpAny_newFunctionEnv S.nocell (by intro y hy;simp at hy) (λh₁ hns₁ hsb₁=>?_) S.kind);obtain⟨W,⟨m0,w0⟩,turn⟩:=h2 s2.heap.objs.size I2.fresh;dsimp only at hns₁ hsb₁ ⊢;have I3:Inv X pins σ (upd H2 s2.heap.objs.size<|.lst []) { s2 with heap:=s2.heap.push {}}:=I2.Mw (t':=s2.toks) (its:=[]) .nil<|cL _;have hfp:∀b∈fp,∃o,s2.heap.get? b=some o:=λb hb=>by
  obtain⟨o,e,_⟩:=T.obj 0 _ st2 b hb;exact⟨o,e⟩
 have neD:∀b∈fp,b≠s2.heap.objs.size:=λb hb=>by
  obtain⟨o,e⟩:=hfp b hb;exact bD<|br e
 have f3:∀b∈fp,qG X pins (upd H2 s2.heap.objs.size<|.lst []) b:=λb hb=>⟨by rw[iS<|neD b hb];exact(f2 b hb).1,(f2 b hb).2⟩;have hDC:s2.heap.objs.size≠(s2.heap.push {}).objs.size:=by rw[fY];exact bD (cO _)
 have old:∀b o,(s2.heap.push {}).get? b=some o->h₁.get? b=some o:=λb o e=>hsb₁.extBut b o (bD<|br e)<|aR _ e;have I4:=Ku (tk:=s2.toks+([]:List<|Str×af).length) (fp:=fp) S I3 f3 (λb hb=>by
  obtain⟨o,e⟩:=hfp b hb;exact⟨o,aR _ e⟩) hns₁ old
 have st4:tn 0 h₁:=T.keep _ _ _ st2 λb hb o e=>old b o<|aR _ e;have hc:=hok (s2.heap.push {}).objs.size { s2 with heap:=s2.heap.push {}} (upd H2 s2.heap.objs.size<|.lst []) fp λa o u e=>by
  have z:=I2.base.frzs a o u e;rw[iS λq=>by rw[q,I2.fresh]at z;cases z];exact z
 have stat:∀{H':Hp},(∀b∈fp,H' b=none)->∀b∈fp,qG (jU X scope N (s2.heap.push {}).objs.size { s2 with heap:=s2.heap.push {}} (upd H2 s2.heap.objs.size<|.lst []) fp) [] H' b:=λhn b hb=>by
  have ok:=I4.ok;refine⟨hn b hb,(ok.exf b hb).1,ok.exfs b hb,.inl hb,λx c e=>(ok.exf b hb).2 x c e,λp hp=>nomatch hp⟩
 have loop:∀s4:aC,s4={ s2 with heap:=h₁,toks:=s2.toks+([]:List<|Str×af).length } ->
   codeAny (model X.prog X.w) X.A (.compLoop (.ListComp elt [⟨tg,iter,ifs,0⟩] scope pos) 0 (.ref it) (.ref s2.heap.objs.size)<|compEnvC scope (vj X.env scope.names []) (s2.heap.push {}).objs.size X.env)
    (compPost (model X.prog X.w) X.A X.xe use Q' (.ref s2.heap.objs.size) (s2.heap.push {}).objs.size) s4:=by
  rintro s4 rfl;refine codeAny_loop rfl (λn s'=>∃i σ' H',Inv (jU X scope N (s2.heap.push {}).objs.size { s2 with heap:=s2.heap.push {}} (upd H2 s2.heap.objs.size<|.lst []) fp) [] σ' H' s'/\tn i s'.heap/\(∀b∈fp,H' b=none)/\W i n σ' H') (λn s5 hI=>?_) m0 ⟨0,_,_,I4,st4,λb hb=>(f3 b hb).1,w0⟩;obtain⟨i,σ5,H5,I5,st5,fr5,w5⟩:=hI
  skip
  refine wpAny_noted ?_;rw[compTurn_list];refine aH (eZ<|aH ?_)
  rcases turn i n σ5 H5 w5 with⟨stop,q⟩|⟨go,step⟩
  ·refine jN (T.done (jU X scope N (s2.heap.push {}).objs.size { s2 with heap:=s2.heap.push {}} (upd H2 s2.heap.objs.size<|.lst []) fp) rfl rfl rfl hc i [] s5 σ5 H5 _ I5 (stat fr5) st5 stop) λr s6 h9=>?_;obtain⟨hr,I6⟩:=h9;subst hr;obtain⟨m6,hn6,_⟩:=I6.loc;refine aO<|hfin s6 _ _ H5 m6 hn6 (I3.C6 (aQ _) I6.free) (λh' sb=>?_) q _;have u6:=I6.base;have nC:∀b o,(s2.heap.push {}).get? b=some o->b≠(s2.heap.push {}).objs.size:=λb o e=>bD<|br e;refine I3.QA (ch:=fp) I6.os ⟨λb o e n hb hx=>?_,λb o e n hb hx=>?_,λb o e n hx=>?_,λb o e hx=>?_,u6.tups,u6.frzs,u6.tbls⟩ ?_ I6.bare ?_
   ·exact sb.extBut b o (nC b o e) (u6.keep b o e n hb hx)
   ·obtain⟨sl,z⟩:=u6.slot b o e n hb hx;exact⟨sl,sb.extBut b _ (nC b o e) z⟩
   ·exact u6.free b o e n hx
   ·obtain⟨o',z⟩:=u6.there b o e hx;exact⟨o',sb.extBut b _ (nC b o e) z⟩
   ·intro b o e;have hb:∀c v,H5 c=some v->c≠(s2.heap.push {}).objs.size:=λc v e z=>by
     rw[z]at e;have:=I6.free;rw[show H5 (s2.heap.push {}).objs.size=none from this]at e
     cases e
    refine(I6.hok b o e).stay (λc v hc q=>sb.extBut c v ?_ q) (λ_ q=>q) λ_ _ q=>q
    rcases hc with z|z
    ·rw[z];exact hb b o e
    ·exact hb c _ z
   ·intro b hb;obtain⟨_,z1,_,z3,z4,z5⟩:=f3 b hb;exact⟨z3,z1,z4,z5⟩
  ·refine jN (T.item (jU X scope N (s2.heap.push {}).objs.size { s2 with heap:=s2.heap.push {}} (upd H2 s2.heap.objs.size<|.lst []) fp) rfl rfl rfl hc i [] s5 σ5 H5 _ I5 (stat fr5) st5 go) λr s6 h9=>?_;obtain⟨u,hr,h6⟩:=h9;subst hr;refine aH<|jN h6 λ_ s7 ⟨x,H7,I7,r7,y7,st7,fr7⟩=>?_;have I7':=I7.pinned (stat fr7)<|T.obj _ _ st7;refine aH<|zB (hg _ _ _ fp _ s7 σ5 H7 x u _ I7' r7<|step x H7 y7) λ_ s8 ⟨σ8,H8,I8,q8⟩=>?_;refine aH<|zB (ht _ _ _ fp _ s8 σ8 H8 _ I8 q8) λok s9 ⟨H9,I9,q9⟩=>?_;have again:∀{s10:aC} {H10:Hp},Inv (jU X scope N (s2.heap.push {}).objs.size { s2 with heap:=s2.heap.push {}} (upd H2 s2.heap.objs.size<|.lst []) fp) ([]++sA fp s7.heap) σ8 H10 s10->(∃m',m'<n/\W (i+1) m' σ8 H10) ->
     ∃m,m<n/\∃i σ' H',Inv (jU X scope N (s2.heap.push {}).objs.size { s2 with heap:=s2.heap.push {}} (upd H2 s2.heap.objs.size<|.lst []) fp) [] σ' H' s10/\tn i s10.heap/\(∀b∈fp,H' b=none)/\W i m σ' H':=λ{s10 H10} I10 h9=>by
    obtain⟨m',hm,w10⟩:=h9;refine⟨m',hm,i+1,σ8,H10,I10.pK,T.keep _ _ _ st7 λb hb o e=>(I10.pin (b,o)<|bA _<|bA _<|kF hb e).1,λb hb=>?_,w10⟩;obtain⟨o,e,d⟩:=T.obj _ _ st7 b hb;exact(I10.pin (b,o)<|bA _<|bA _<|kF hb e).2.1
   cases ok with
   | false=>
    rw[aJ bH]at q9;exact aO ⟨rfl,again I9 q9⟩
   | true=>
    rw[aK rfl]at q9;refine aH<|aH<|zB (he _ _ _ fp _ s9 σ8 H9 _ I9 q9) λy s10 ⟨v10,H10,I10,r10,ys,hD,hz,w10⟩=>?_;refine aH<|zB (uy _ s10 σ8 H10 (.ref s2.heap.objs.size) [v10] _ [y] (λ_ H'=>H'=upd H10 s2.heap.objs.size (.lst<|ys++[v10])) I10 rfl (.cons r10 .nil) ⟨_,ys,v10,rfl,rfl,hD,hz,rfl⟩) λ_ s11 ⟨_,H11,I11,_,e11⟩=>?_;subst e11;exact aO<|aO ⟨rfl,again I11 w10⟩
 exact codeAny_compStart_list (loop _ rfl)<|T.self _ 0 _ _ _ st4<|loop _ rfl
def QN{ok:Cx->Prop}{X:Cx}{iter:aE}{N:ap}{wi:TI}{g:TG}{tc:TT}{te:TE}(S:CpScope X scope N cap)(hok:∀C s₀ H₀ ex,(∀a o u,X.H₀ a=some (.frz o u)->H₀ a=some (.frz o u))->ok (jU X scope N C s₀ H₀ ex))(hi:Wm ok X tg iter wi)
  (hg:∀C s₀ H₀ ex,PG (jU X scope N C s₀ H₀ ex) tg g) (ht:∀C s₀ H₀ ex,N9 (jU X scope N C s₀ H₀ ex) ifs tc) (he:∀C s₀ H₀ ex,PE (jU X scope N C s₀ H₀ ex) elt te)
  (hs:∀x,foldedSetIterable iter X.env x=pure x:=by intro _;rfl):PE X (.ListComp elt [⟨tg,iter,ifs,0⟩] scope pos) (V3 cap wi g tc te):=by
 w_up;rw[eval_ListComp];exact Nv (use:=none) (Q':=EP X pins σ Q) S hok hi hg ht he hs pins s σ H Q I h λs6 C D H5 m hn fk inv q v=>⟨m,hn,λh' sb=>⟨.ref D,H5,inv h' sb,rfl,q⟩⟩
def T9{X:Cx}{iter:aE}{N:ap}{wi:TI}{g:TG}{tc:TT}{te:TE}(hc:X.calm=true)(S:CpScope X scope N cap)(hi:PI X tg iter wi)
  (hg:∀C s₀ H₀ ex,PG (jU X scope N C s₀ H₀ ex) tg g) (ht:∀C s₀ H₀ ex,N9 (jU X scope N C s₀ H₀ ex) ifs tc) (he:∀C s₀ H₀ ex,PE (jU X scope N C s₀ H₀ ex) elt te)
  (hs:∀x,foldedSetIterable iter X.env x=pure x:=by intro _;rfl):PE X (.ListComp elt [⟨tg,iter,ifs,0⟩] scope pos) (V3 cap wi g tc te):=
 QN S (λ_ _ _ _ _=>hc) hi.g hg ht he hs
section
variable {X:Cx}
def Rv:lT X (compareOp .Is) (λx y H Q=>∃a b,x=.bl a/\y=.bl b/\Q (.bl<|a == b) H):=by
 kd_p;obtain⟨a,b,rfl,rfl,q⟩:=h
 cases rx;cases ry
 exact is_bool ⟨.bl _,H,I,rfl,q⟩
def zR:jl X (.type "range") (λxs H Q=>∃i j,xs=[.int i,.int j]/\∀p,H p=none->Q (.ref p) (upd H p<|.rng i j)):=by
 kt_k;obtain⟨i,j,rfl,q⟩:=h;obtain⟨u,w',rfl,⟨t,rfl⟩,⟨t',rfl⟩⟩:=vals2 r;refine call_range_2 ⟨.ref s.heap.objs.size,_,I.laid (o:=.rng i j) (λb o e=>aR _ e) (aQ _) ?_,rfl,q _ I.fresh⟩;exact⟨t,t',s.toks,bB _ rfl⟩
abbrev i9 (i j:Int):ae:=(List.range (j-i).toNat).map λk:Nat=>i+(k:Int)
def j5(i j:Int):(i9 i j).length=(j-i).toNat:=by unfold i9;rw[aL,cK]
def xJ{i:Int}{n:Nat}{acc:Array af}(h:ItemsOf (λk v=>∃t,v=Value.int (i+(k:Int) * 1) t) acc n):Vals (((List.range n).map λk:Nat=>i+(k:Int)).map V.int) acc.toList:=by
 obtain⟨hs,hv⟩:=h;have gen:∀(l:ar) (b:Nat),(∀j v,l[j]?=some v->∃t,v=Value.int (i+((b+j:Nat):Int)) t)->Vals (((List.range' b l.length).map λk:Nat=>i+(k:Int)).map V.int) l:=by
  intro l
  induction l with
  | nil=>intro b _;exact .nil
  | cons v l ih=>
   intro b hb;rw[bz,fG,bU,bU];refine .cons ?_ ?_
   ·obtain⟨t,e⟩:=hb 0 v rfl;exact⟨t,by rw[e];simp⟩
   ·refine ih (b+1) λj w hw=>?_;obtain⟨t,e⟩:=hb (j+1) w hw;exact⟨t,by rw[e,show b+(j+1)=b+1+j by lia]⟩
 have:=gen acc.toList 0 λj v hj=>by
  obtain⟨t,e⟩:=hv j v (by simpa using hj);exact⟨t,by rw[e,eB,Int.mul_one]⟩
 rw[cD,hs,<- dI]at this;exact this
def Lc{i j:Int}:Builtin.Range.rangeSize i j 1=(((j-i).toNat:Nat):Int):=by rw[rangeSize_one];split<;>omega
def yj(hc:X.calm=true):jl X (.type "list") (λxs H Q=>∃p i j,xs=[.ref p]/\H p=some (.rng i j)/\(-(2 ^ 62)<=i/\i<2 ^ 62/\-(2 ^ 62)<=j/\j<2 ^ 62)/\(j-i).toNat<=1000/\∀l,H l=none->Q (.ref l) (upd H l<|.lst<|(i9 i j).map V.int)):=by
 kt_k;obtain⟨p,i,j,rfl,hp,⟨b1,b2,b3,b4⟩,hn,q⟩:=h;kpf_c
 cases rx
 obtain⟨t,u',v,e⟩:=I.hok p _ hp;refine call_list_range (n:=(j-i).toNat) (I.ok.hd hc) e (small_one b1 b2 b3 b4) Lc () λh' tk acc' c' hk hS hacc=>?_;refine⟨.ref s.heap.objs.size,_,I.laid (o:=.lst<|(i9 i j).map V.int) hk (aQ _) ⟨?_,acc'.toList,c',xJ hacc,by rw[hS]⟩,rfl,q _ I.fresh⟩;rw[aL,j5,cR];lia
end
section
variable {X:Cx}
def u5{prog:aj}{w:ah}{A:aA}{E:af->aC->Prop}{s:aC}{Q:ar->aC->Prop}{r:ak}{a b c:Int}{v:Tok}{n:Nat}(hh:A.handled=none)(hr:IsRange s.heap r a b c t u v)(hsmall:Builtin.Range.small a b c=true)
  (hn:Builtin.Range.rangeSize a b c=n) (hlen:n<=2 ^ 24)
  (hQ:∀h' tk (acc':Array af),(∀b o,s.heap.get? b=some o->h'.get? b=some o)->ItemsOf (λi v=>∃t,v=.int (a+i * c) t) acc' n->Q acc'.toList { s with heap:=h',toks:=tk }) :
  wpAny (model prog w) A (collect<|.ref r) Q E s:=by
 unfold collect;refine aH<|wpAny_runValue<|gI F.entry_proto_collect ?_;rw[fu F.plain_proto_collect _]
 skip
 refine aH<|bQ ?_;refine aO ⟨plainId_quiet F.plain_list_iadd _,gI F.entry_list_iadd ?_⟩;rw[fu F.plain_list_iadd _]
 skip
 have hS:(s.heap.push {}).get? s.heap.objs.size=some { cls:=.type "list",data:=.seq #[] 0 }:=bB _ rfl;have fin':∀(h':aq) (tk:Nat) (acc':Array af) (c':Nat),(∀b o,b≠s.heap.objs.size->(s.heap.push {}).get? b=some o->h'.get? b=some o) ->
   h'.get? s.heap.objs.size=some { cls:=.type "list",dict:=none,data:=.seq acc' c',slots:=#[]}->ItemsOf (λi v=>∃t,v=.int (a+i * c) t) acc' n ->
   wpAny (model prog w) A (match Value.ref s.heap.objs.size with
   | Value.ref a=>do
    match (<- load a).data with
     | Data.seq xs _=>pure xs.toList
     | _=>unsupported "internal:collect"
   | _=>unsupported "internal:collect") Q E { s with heap:=h',toks:=tk }:=by
  intro h' tk acc' c' hk hS' hacc
  skip
  refine aH<|wpAny_load hS' ?_;refine aO ?_;exact hQ h' tk acc' (λb o e=>hk b o (bD<|br e)<|aR _ e) hacc
 refine fP (wpAny_extend_range (A:=A) (R:=λrr s'=>rr=.ok (.ret<|.ref s.heap.objs.size)/\∃h' tk acc' c',s'={ s with heap:=h',toks:=tk }/\(∀b o,b≠s.heap.objs.size->(s.heap.push {}).get? b=some o->h'.get? b=some o) /\
   h'.get? s.heap.objs.size=some { cls:=.type "list",dict:=none,data:=.seq acc' c',slots:=#[]}/\ItemsOf (λi v=>∃t,v=.int (a+i * c) t) acc' n)
  (s:={ s with heap:=s.heap.push {}}) hh (aR _ hr) hsmall hn hlen s.heap.objs.size (.ref s.heap.objs.size) 0 hS
  (λh' tk acc' c' hk hS' hacc=>⟨rfl,h',tk,acc',c',rfl,hk,hS',hacc⟩)) (λfin s' h=>?_) λe s' h=>?_
 ·cases fin with
  | done f=>
   obtain⟨e,h',tk,acc',c',rfl,hk,hS',hacc⟩:=h
   cases e
   exact fin' h' tk acc' c' hk hS' hacc
  | again c'=>exact⟨h.1,gS h.2 λr s'' hr=>by
    obtain⟨rfl,h',tk,acc',c',rfl,hk,hS',hacc⟩:=hr;exact fin' h' tk acc' c' hk hS' hacc⟩
 ·exact absurd h.1<|by simp
def rW(l:ak){a b:Int}{v:Tok}{n:Nat}(hsmall:Builtin.Range.small a b 1=true)
  (hn:Builtin.Range.rangeSize a b 1=n) (hlen:n<=1000) :
  Meets (Builtin.«tuple.__new__» ⟨[.type "tuple",.ref l],[]⟩)
   (λA R s=>A.handled=none/\IsRange s.heap l a b 1 t u v/\∀(h':aq) (tk:Nat) (acc':Array af),(∀b o',s.heap.get? b=some o'->h'.get? b=some o')->ItemsOf (λi v=>∃t,v=.int (a+i * 1) t) acc' n->R (.ok<|.ret<|.ref h'.objs.size) { s with heap:=h'.push { cls:=.type "tuple",data:=.seq acc' },toks:=tk }):=
 .of_wp λprog w A R s h=>by
  obtain⟨hp,g,d,tk,os⟩:=s;obtain⟨hh,ht,h⟩:=h;have hsub:=sub_tuple_self;have hinit:=init_tuple_lookup;have hmh:=madeHere_tuple;have hT:Shared.TypeIs ⟨hp,g,d,tk,os⟩ (.ref l) "range" := ⟨_,ht,rfl⟩;have hh':A.in1.handled=none:=hh
  wp_walk using c6 ht,fX hT,u5 (A:=A.in1) hh' ht hsmall hn (by omega)
  intro h' tk' acc' hk hacc;show wpAny _ _ (Builtin.Tuple.tupleExact acc'.toList.toArray >>= λv=>ret v) _ _ _;unfold Builtin.Tuple.tupleExact;have e:acc'.toList.toArray=acc':=by simp
  refine aH (bQ ?_<|by show acc'.toList.toArray.size<=sizeLine;rw[e,hacc.1,cR];omega);refine aO ⟨_,rfl,?_⟩;rw[e];exact h h' tk' acc' hk hacc
def xY(hc:X.calm=true):jl X (.type "tuple") (λxs H Q=>∃p i j,xs=[.ref p]/\H p=some (.rng i j)/\(-(2 ^ 62)<=i/\i<2 ^ 62/\-(2 ^ 62)<=j/\j<2 ^ 62)/\(j-i).toNat<=1000/\∀l,H l=none->Q (.ref l) (upd H l<|.tup<|(i9 i j).map V.int)):=by
 kt_k;obtain⟨p,i,j,rfl,hp,⟨b1,b2,b3,b4⟩,hn,q⟩:=h;kpf_c
 cases rx
 obtain⟨t,u',v,e⟩:=I.hok p _ hp;refine callType_new F.called_tuple ⋯ (F.typeCall_tuple_1 _) (F.newCall_tuple_1 _) (λobj=>gD obj _) F.entry_tuple_new
  (rW (n:=(j-i).toNat) p (small_one b1 b2 b3 b4) Lc hn) ⟨I.ok.hd hc,e,λh' tk acc' hk hacc=>⟨⟨_,bB _ rfl,rfl⟩,?_⟩⟩
 have I1:Inv X pins σ H { s with heap:=h',toks:=tk }:=I.kept hk;refine⟨.ref h'.objs.size,_,I1.laid (t':=tk) (o:=.tup<|(i9 i j).map V.int) (λb o e=>aR _ e) (aQ _) ⟨?_,acc'.toList,xJ hacc,?_⟩,rfl,q _<|I1.hok.fresh<|aQ _⟩
 ·rw[aL,j5,cR];lia
 ·have e:acc'.toList.toArray=acc':=by simp
  rw[e];exact lW.new _ _
abbrev Wo (K:au)(te:TE):TE:=λσ H Q=>te σ H λx H1=>∃a xs,x=.ref a/\nE K H1 a xs/\∀p,H1 p=none->Q (.ref p) (upd H1 p<|.lst xs.reverse)
def N_{e:aE}{te:TE}{up cp:Pos}{kk:Nat}(he:PE X e te):PE X (.Subscript e (.Slice none none (some<|.UnaryOp .USub (.Constant (.int 1) kk cp) up) p2) pos) (Wo X.K te):=by
 w_up;refine Subscript_<|jN (he pins s σ H _ I h) λv s1 ⟨x,H1,I1,r1,a,xs,ex,hq,q⟩=>?_;subst ex
 cases r1
 refine wpAny_Slice ?_;rw[g_];refine aO ?_;refine aO ?_;rw[evalPart_some];refine jN ((IB (a:=.Constant (.int 1) kk cp) DC CG) pins s1 σ H1 (λv H'=>v=.int (-1)/\H'=H1) I1 ⟨1,rfl,rfl,rfl⟩) λvs s3 h9=>?_;obtain⟨y,H3,I3,r3,ey,eH⟩:=h9;subst ey eH;obtain⟨t,rfl⟩:=r3;have I4:Inv X pins σ H3 { s3 with heap:=s3.heap.push { cls:=.type "slice",data:=.fields #[.none,.none,.int (-1) t]}}:=I3.kept (t':=s3.toks) λb ob q=>aR _ q;obtain⟨its,rv,pl,hz⟩:=I4.list hq
 skip
 refine tail_any (ops:=[.ref a,.ref s3.heap.objs.size]) pl.isList.typeIs g6.lookup ?_ (by with_unfolding_all rfl);have hlen:=rv.length;refine wpAny_getItem_list_slice pl.isList (gW ..) .none .none (.int (-1) t) ⋯ ?_ (by rw[aW]<;>lia);rw[PySem.W.krv_pick];refine⟨.ref _,_,I4.Mw (t':=s3.toks) (ys:=xs.reverse) (its:=its.reverse) rv.reverse<|by rw[cF];exact hz,rfl,q _ I4.fresh⟩
def Bv{c:String}:jl X (.builtin "isinstance") (λxs H Q=>∃x t b,xs=[x,.ty c]/\TyOf X.K H x t/\PySem.W.kitOne X.K t (.type c)=some b/\Q (.bl b) H):=by
 kt_k;obtain⟨x,t,b,rfl,ty,e,q⟩:=h;obtain⟨u,w',rfl,rx,rc⟩:=vals2 r
 cases rc
 exact Hq I rx ty e λtk=>⟨.bl b,H,I.tok tk,rfl,q⟩
abbrev QM (K:au):R2:=λx y H Q=>∃a b ys,x=.ref a/\y=.ref b/\lR K H a []/\lR K H b ys/\Q (.ref b) H
def IS:lT X (binaryOp .Add) (QM X.K):=by
 kd_p;obtain⟨a,b,ys,rfl,rfl,h1,h2,q⟩:=h
 cases rx
 cases ry
 obtain⟨us,r1,p1,_⟩:=I.tuple h1;obtain⟨ws,r2,p2,_⟩:=I.tuple h2
 cases r1
 obtain⟨⟨cls,dd,data,sl⟩,ho,hc,n,hd⟩:=id p1;obtain⟨⟨cls2,dd2,data2,sl2⟩,ho2,hc2,n2,hd2⟩:=id p2;simp only at hc hd hc2 hd2;subst hc hd hc2 hd2;exact concat_meets ⟨_,ho,rfl⟩ ⟨_,ho2,rfl⟩ noFill_tuple_add seq_tuple_add fW fV (fM _ _)
   (tuple_addW0 a b _ ws.toArray n n2 dd dd2 sl sl2<|by simp) ⟨ho,ho2,⟨.ref b,H,I,rfl,q⟩⟩
end
def jP:bootBuiltins "len" = some (.builtin "len"):=by decide +kernel
def L5:bootBuiltins "max" = some (.builtin "max"):=by decide +kernel
def Se:bootBuiltins "min" = some (.builtin "min"):=by decide +kernel
def HK:bootBuiltins "sorted" = some (.builtin "sorted"):=by decide +kernel
def rZ:bootBuiltins "isinstance" = some (.builtin "isinstance"):=by decide +kernel
def IF:bootBuiltins "int" = some (.type "int"):=by decide +kernel
def NG:bootBuiltins "bool" = some (.type "bool"):=by decide +kernel
def Em:bootBuiltins "list" = some (.type "list"):=by decide +kernel
def qV:bootBuiltins "tuple" = some (.type "tuple"):=by decide +kernel
def BO:bootBuiltins "range" = some (.type "range"):=by decide +kernel
structure Blt (mg:Str->bb):Prop where
 len:mg "len" = none
 abs:mg "abs" = none
 all:mg "all" = none
 any:mg "any" = none
 max:mg "max" = none
 min:mg "min" = none
 sorted:mg "sorted" = none
 isinstance:mg "isinstance" = none
 int:mg "int" = none
 bool:mg "bool" = none
 str:mg "str" = none
 list:mg "list" = none
 tuple:mg "tuple" = none
 range:mg "range" = none
def ON:∀{a b:ae},a.Perm b->a.Pairwise (·<=·)->b.Pairwise (·<=·)->a=b:=λp ha hb=>
 List.Perm.eq_of_pairwise (λx y _ _ h1 h2=>gJ h1 h2) ha hb p
def Ea(i j:Int):(i9 i j).Pairwise (·<=·):=by
 unfold i9;rw[eE];exact fZ.imp λh=>()
def kH(i j:Int):(i9 i j).Nodup:=by
 unfold i9;rw[List.Nodup,eE];exact fZ.imp λh=>()
def jz{i j k:Int}:k∈i9 i j ↔ i<=k/\k<j:=by
 unfold i9;rw[bV];constructor
 ·rintro⟨a,ha,rfl⟩;have:=dG.mp ha
  lia
 ·rintro⟨h1,h2⟩;exact⟨(k-i).toNat,dG.mpr (),()⟩
theorem rf:∀{l m:ae},l.Nodup->(∀x∈l,x∈m)->m.length<=l.length->l.Perm m
 | [],m,_,_,h=>by
  have:m=[]:=c9.mp<|Nat.le_zero.mp h;rw[this]
 | a::l,m,nd,hs,hl=>by
  have ha:a∈m:=hs a aN;have nd':=c7.mp nd;have pm:m.Perm (a::m.erase a):=List.perm_cons_erase ha;have ih:=rf (l:=l) (m:=m.erase a) nd'.2 (λx hx=>by
   have hxa:x≠a:=λe=>nd'.1<|e ▸ hx;exact(List.mem_erase_of_ne hxa).mpr (hs x<|aP _ hx)) (by
   rw[List.length_erase_of_mem ha];dsimp[bz]at hl
   lia)
  exact(List.Perm.cons a ih).trans pm.symm
abbrev Kn (P:aj)(w:ah)(K:au)(mg:Str->bb)(base:aq)(k:Nat)(x:Str)(ps:ap)(sp:Sp):Prop:=
 ∃(f:ak) (fd:FuncData),FnOk P w K mg base nX k f fd ps sp/\mg x=some (.ref f)/\PySem.W.keepIn K (.ref f)=true/\Binds K fd ps []
def UK{X:Cx}{k:Nat}{x:Str}{sp:Sp}{e:aE}{t:TA}{p:Pos}(G:Kn X.prog X.w X.K X.mg X.base k x ps sp)(hr:Room k X.A)(ha:PA X (e::es) t)(hg:Gl X x:=by rfl)
  (hdb:(x == ("__debug__" : Str))=false:=by decide) (hs:starEach (e::es) X.env=(false,eval e X.env)::starEach es X.env:=by rfl) (hplain:(backTo pos<|starEach es X.env).any (·.1)=false:=by rfl) :
  PE X (.Call (.Name x p) (e::es) [] pos) (Qf sp [] E0 t):=by
 obtain⟨f,fd,F,hm,hk,hb⟩:=G;exact NT F hr hg hm hk hb .nil Vf ha hdb hs hplain
abbrev xr (XN fs:ap):ap->List (bj)->Prop
 | [],[]=>True
 | _::N,none::c=>xr XN fs N c
 | x::N,some j::c=>XN[j]?=some x/\x∈fs/\xr XN fs N c
 | _,_=>False
theorem xr.len{fs:ap}:∀{N:ap}{c:List<|bj},xr XN fs N c->c.length=N.length
 | [],[],_=>rfl
 | _::N,none::c,h=>dm (·+1) (xr.len (N:=N) (c:=c) h)
 | _::N,some j::c,h=>dm (·+1) (xr.len (N:=N) (c:=c) h.2.2)
 | [],_::_,h=>h.elim
 | _::_,[],h=>h.elim
theorem xr.cp{fs:ap}:∀{N:ap}{c:List<|bj},xr XN fs N c->∀(i j:Nat) (x:Str),N[i]?=some x->c[i]?=some (some j)->XN[j]?=some x/\x∈fs
 | [],[],_,i,j,x,h1,_=>by simp at h1
 | y::N,none::c,h,i,j,x,h1,h2=>by
  cases i with
  | zero=>simp at h2
  | succ i=>exact xr.cp (N:=N) (c:=c) h i j x (by simpa using h1)<|by simpa using h2
 | y::N,some k::c,h,i,j,x,h1,h2=>by
  cases i with
  | zero=>
   simp at h1 h2;subst h1 h2;exact⟨h.1,h.2.1⟩
  | succ i=>exact xr.cp (N:=N) (c:=c) h.2.2 i j x (by simpa using h1)<|by simpa using h2
 | [],_::_,h,_,_,_,_,_=>h.elim
 | _::_,[],h,_,_,_,_,_=>h.elim
def zb{X:Cx}{scope:Scope}{N:ap}(fs:ap)(kind:scope.kind=.function)(nocell:∀y∈scope.names,y.2≠.cell)(nm:∀y∈scope.names,y.2=.local->scope.names.lookup y.1=some .local)
  (nolf:∀y∈scope.names,y.2=.free->scope.names.lookup y.1≠some .local) (hf:∀y∈scope.names,y.2=.free->y.1∈fs) (hfs:∀x∈fs,(x,NameKind.free)∈scope.names) (hk:∀x∈fs,X.env.kindOf x=some .cell\/X.env.kindOf x=some .free) (cp:xr X.N fs N cap):CpScope X scope N cap where
 kind:=kind
 nocell:=nocell
 nm:=nm
 fr:=λy hy e=>hk _ (hf y hy e)
 rl:=λy h=>by
  have go:∀k,(k=NameKind.cell\/k=NameKind.free)->(relabel scope X.env).names.lookup y=some k->(y,NameKind.free)∈scope.names:=λk hk e=>by
   obtain⟨⟨n',k'⟩,hm1,hm2⟩:=bV.mp<|wO e;dsimp only at hm2;split at hm2
   ·rename_i hc
    cases hm2
    have:k'=.free:=by
     dsimp[dB]at hc;simpa using hc.1.1
    subst this;exact hm1
   ·cases hm2
    rcases hk with rfl|rfl
    ·exact absurd rfl (nocell _ hm1)
    ·exact hm1
  rcases h with h|h
  ·exact go _ (.inl rfl) h
  ·exact go _ (.inr rfl) h
 len:=cp.len
 nolf:=λx hx=>nolf (x,.free) hx rfl
 cp:=λi j x h1 h2=>by
  obtain⟨a,b⟩:=cp.cp i j x h1 h2;exact⟨a,hfs x b⟩
inductive Kd where
 | non|bl|int|str|lst|tup
 deriving DecidableEq
abbrev Kd.ty:Kd->af
 | .non=>.type "NoneType" | .bl=>.type "bool" | .int=>.type "int" | .str=>.type "str" | .lst=>.type "list" | .tup=>.type "tuple"
abbrev Sj (H:Hp)(x:V):Kd->Prop
 | .non=>x=.non
 | .bl=>∃b,x=.bl b
 | .int=>∃i,x=.int i
 | .str=>∃s,x=.str s
 | .lst=>∃a xs,x=.ref a/\H a=some (.lst xs)
 | .tup=>∃a xs,x=.ref a/\H a=some (.tup xs)
def Sj.Xn{K:au}{H:Hp}{x:V}{k:Kd}(h:Sj H x k):TyOf K H x k.ty:=by
 cases k with
 | non=>cases h;exact .non
 | bl=>obtain⟨b,rfl⟩:=h;exact .bl b
 | int=>obtain⟨b,rfl⟩:=h;exact .int b
 | str=>obtain⟨b,rfl⟩:=h;exact .str b
 | lst=>obtain⟨a,xs,rfl,e⟩:=h;exact .lst e
 | tup=>obtain⟨a,xs,rfl,e⟩:=h;exact .tup e
def O1{K:au}(k:Kd):PySem.W.kitOne K k.ty (.type "int")=some (decide<|k=.int\/k=.bl):=by cases k<;>rfl
def Ko{K:au}(k:Kd):PySem.W.kitOne K k.ty (.type "bool")=some (decide<|k=.bl):=by cases k<;>rfl
def kit_tuple{K:au}(k:Kd):PySem.W.kitOne K k.ty (.type "tuple")=some (decide<|k=.tup):=by cases k<;>rfl
def MV{K:au}(k:Kd):PySem.W.kitOne K k.ty (.type "list")=some (decide<|k=.lst):=by cases k<;>rfl
section
variable {prog:aj}{w:ah}{A:aA}{E:af->aC->Prop}{s:aC}
def uv{i:Nat}{x:af}{Q:af->aC->Prop}(hit:s.heap.IsTupleIter it t i)
  (ht:s.heap.IsTuple t items) (hx:items[i]?=some x) (hQ:∀h',h'.IsTupleIter it t (i+1)->Heap.SameBut it s.heap h'->Q x { s with heap:=h' }) :
  wpAny (model prog w) A (Builtin.SmallTypes.nextOf<|.ref it) Q E s:=by
 obtain⟨o,ho,hc,hd⟩:=id hit;obtain⟨ol,hol,_,nl,hdl⟩:=ht;unfold Builtin.SmallTypes.nextOf;refine aH (eL (name:=Str.ofString "__next__") hit.typeIs dW
  (dS dW hit.typeIs F.entry_tuple_iterator_next ?_<|F.args_tuple_iterator_next_1 _))
 show wpAny _ _ (field (.ref it) 0 >>= _) _ _ s;refine aH (eo ho hd (x:=.ref t) rfl ?_)
 skip
 rw[aJ<|show ¬((Value.ref t == Value.none)=true)from bH]
 skip
 refine aH (eo ho hd (x:=.int i 0) rfl ?_)
 skip
 refine aH<|f6 hol hdl ?_;dsimp[eg,hx];refine aH (wpAny_setField ho hd (by simp)<|aO ⟨x,rfl,aO<|hQ _ ?_<|Heap.SameBut.update ..⟩);exact⟨_,Heap.get?_update_self _ ho<|Obj.isFreed_of_fields<|Obj.data_mapFields hd _,(Obj.cls_mapFields ..).trans hc,by
  rw[Obj.data_mapFields hd];simp[rawInt]⟩
def uS{i:Nat}{Q:af->aC->Prop}(hh:A.handled=none)
  (hit:s.heap.IsTupleIter it t i) (ht:s.heap.IsTuple t items) (hx:items[i]?=none)
  (hE:∀h' e,Heap.ExtBut it s.heap h'->(∃o,h'.get? e=some o/\o.cls=.type "StopIteration")->E (.ref e) { s with heap:=h' }) :
  wpAny (model prog w) A (Builtin.SmallTypes.nextOf<|.ref it) Q E s:=by
 obtain⟨o,ho,hc,hd⟩:=id hit;obtain⟨ol,hol,_,nl,hdl⟩:=ht;unfold Builtin.SmallTypes.nextOf;refine aH (eL (name:=Str.ofString "__next__") hit.typeIs dW
  (dS dW hit.typeIs F.entry_tuple_iterator_next ?_<|F.args_tuple_iterator_next_1 _))
 show wpAny _ _ (field (.ref it) 0 >>= _) _ _ s;refine aH (eo ho hd (x:=.ref t) rfl ?_)
 skip
 rw[aJ<|show ¬((Value.ref t == Value.none)=true)from bH]
 skip
 refine aH (eo ho hd (x:=.int i 0) rfl ?_)
 skip
 refine aH<|f6 hol hdl ?_;dsimp[eg,hx];refine aH (dX<|aH<|wpAny_setField ho hd (by simp) ?_)
 skip
 refine aH ?_;dsimp[newExc,newTuple];refine aH (bQ ?_<|by size_fits);refine aH (m:=firstArgMember _ _) (wpAny_of_eq (a:=Value.none) (by first|rfl|(dsimp[firstArgMember];rfl)) ?_);refine bQ ?_ (by size_fits);dsimp[raiseNew];refine aH (wpAny_handled ?_)
 first|rw[show A.in1.handled=none from hh]|rw[hh]
 refine aH<|aO<|wpAny_throw ?_;exact hE _ _ (((Heap.SameBut.update ..).extBut.push _).push _) ⟨_,bB _ rfl,rfl⟩
end
def Jz{prog:aj}{w:ah}{A:aA}(hh:A.handled=none)(it l:ak)(hne:l≠it)(items:Array af) :
  Draws prog w A it [it,l] items.size (λi v=>items[i]?=some v) (λi h=>h.IsTupleIter it l i/\h.IsTuple l items) where
 live:=λ_ _ st=>let⟨o,ho,_⟩:=st.1;⟨o,ho⟩
 frame:=λ_ _ _ st hk=>⟨st.1.at λo e=>hk it (by simp) o e,let⟨o,ho,r⟩:=st.2;⟨o,hk l (by simp) o ho,r⟩⟩
 item:=λi s Q E hi st hQ=>by
  refine uv st.1 st.2 (x:=items[i]) (by simp[hi]) λh' hit' hs'=>?_;exact hQ _ h' s.toks (by simp[hi]) ⟨hit',let⟨o,ho,r⟩:=st.2;⟨o,hs'.extBut l o hne ho,r⟩⟩ hs'
 done:=λs Q E st hE=>uS hh st.1 st.2 (by simp) hE
def BC(l:ak)(items:Array af) :
  Meets (Builtin.«enumerate.__new__» ⟨[.type "enumerate",.ref l],[]⟩) (λ_ R s=>s.heap.IsTuple l items /\
   R (.ok<|.ret<|.ref (s.heap.push { cls:=.type "tuple_iterator",data:=.fields #[.ref l,.int 0 0]}).objs.size)
    { s with heap:=(s.heap.push { cls:=.type "tuple_iterator",data:=.fields #[.ref l,.int 0 0]}).push { cls:=.type "enumerate",data:=.fields #[.none,.bool false,.ref s.heap.objs.size,rawInt 0,.none,.none]}}):=
 .of_wp λprog w A R s h=>by
  obtain⟨hp,g,d,tk,os⟩:=s;obtain⟨hl,h⟩:=h;have hsub:=sub_enumerate;obtain⟨ol,hol,hcl,nl,hdl⟩:=id hl
  wp_walk using c6 hol
  refine wpAny_stack_any λst=>aO ?_;split
  ·rename_i c _ _ _ _ _
   cases(c == Value.type "enumerate")
   ·wp_walk using c6 hol,fQ hl
    exact⟨_,rfl,h⟩
   ·wp_walk using c6 hol,fQ hl
    exact⟨_,rfl,h⟩
  ·wp_walk using c6 hol,fQ hl
   exact⟨_,rfl,h⟩
abbrev Xk (K:au)(a:ak):It:=
 ⟨λi H=>∃xs x,lR K H a xs/\xs[i]?=some x,λi H x H'=>∃T,H T=none/\x=.ref T/\∀xs y,lR K H a xs->xs[i]?=some y->H'=upd H T (.tup [.int i,y]),λi H=>∃xs,lR K H a xs/\xs.length=i⟩
def DK{P:aj}{w:ah}{K:au}(a e it:ak)(hei:e≠it):Turn P w K (.Tuple elts x1 tpos) (Xk K a) [e,it] e (λi h=>(∃old,IsEnum h e it i old)/\h.IsTupleIter it a i) where
 mem:=by simp
 obj:=λi h st b hb=>by
  obtain⟨⟨old,st1⟩,st2⟩:=st;have hb':b=e\/b=it:=by simpa using hb
  rcases hb' with rfl|rfl
  ·exact⟨_,st1,λv z=>by cases z⟩
  ·obtain⟨o,e,c,d⟩:=st2;exact⟨o,e,λv z=>by rw[d]at z;cases z⟩
 keep:=λi h h' st k=>by
  obtain⟨⟨old,st1⟩,st2⟩:=st;exact⟨⟨old,k e (by simp) _ st1⟩,st2.at λo ho=>k it (by simp) o ho⟩
 item:=by
  k_ne;subst hP hw hK;obtain⟨⟨old,st1⟩,st2⟩:=st;obtain⟨xs,x,hq,hx⟩:=hg;obtain⟨its,rv,p,hz⟩:=I.tuple hq;obtain⟨u,hu,ru⟩:=rv.get hx;have hia:a≠it:=by
   obtain⟨o,ho,hc1,_⟩:=p;obtain⟨o2,ho2,hc2,_⟩:=st2;intro z;rw[z,ho2]at ho
   cases ho
   rw[hc1]at hc2;exact absurd (Value.type.inj hc2) ⋯
  have hea:e≠a:=by
   obtain⟨o,ho,hc1,_⟩:=p;intro z;rw[<- z,st1]at ho
   cases ho
   exact absurd (Value.type.inj hc1) ⋯
  have hlt:i<its.toArray.size:=by
   rw[aW];exact(aM.mp hu).1
  refine wpAny_pyNext_enum_itemD (Jz (A:=X.A.in1) (I.ok.hd hc) it a hia its.toArray) st1 ⟨st2,p⟩ hlt hei (by simp[hei,hea]) λx' h' tk hP hout hst hT hsz hk=>?_;have ex:x'=u:=by
   have:its.toArray[i]?=some u:=by simpa using hu
   rw[this]at hP;exact(aU hP).symm
  subst ex;refine⟨_,rfl,wpAny_letOwnedTupleGo_enum hout λh2 he2 hs2=>?_⟩;have fT:H s.heap.objs.size=none:=I.hok.fresh<|aQ _;have hel:e<s.heap.objs.size:=br st1;have hil:it<s.heap.objs.size:=by obtain⟨o,ho,_⟩:=st2;exact br ho
  have k2:∀b o,b≠e->b≠it->s.heap.get? b=some o->h2.get? b=some o:=λb o h1 h3 q=>hs2.extBut b o h1<|hk b o h1 h3 q;have hT2:h2.get? s.heap.objs.size=some { cls:=.type "tuple",data:=.seq #[.int i tk,x']}:=hs2.extBut _ _ (ne_of_gt hel) hT;obtain⟨e0,e1,e2,e3,e4,e5⟩:=hf e (by simp);obtain⟨i0,i1,i2,i3,i4,i5⟩:=hf it (by simp);have nT:∀b o,s.heap.get? b=some o->b≠s.heap.objs.size:=λb o q=>bD<|br q;have ne_tr:∀c v,H c=some v->c≠e/\c≠it:=λc v q=>⟨(λz=>by rw[z,e0]at q;cases q),(λz=>by rw[z,i0]at q;cases q)⟩;have I2:Inv X pins σ (upd H s.heap.objs.size<|.tup [.int i,x]) { s with heap:=h2,toks:=tk+1 }:=by
   refine I.step (g':=s.gens) (d':=s.drawn) (ch:=[e,it]) (λb hb=>?_) (λb o _ _ hch q _=>?_) (λb o _ _ hch q _=>?_) (λb o hch q n=>?_) (λb o hch q=>?_) (λb ys q=>?_) (λb o u' q=>?_) (λb ps q=>?_) (λm hm=>?_) (λb u' q=>?_) I.bare
   ·have hb':b=e\/b=it:=by simpa using hb
    rcases hb' with rfl|rfl
    ·exact⟨e3,e1,e4,e5⟩
    ·exact⟨i3,i1,i4,i5⟩
   ·exact k2 b o (λz=>hch<|by simp[z]) (λz=>hch<|by simp[z]) q
   ·exact⟨o.slots,k2 b o (λz=>hch<|by simp[z]) (λz=>hch<|by simp[z]) q⟩
   ·rw[iS<|nT b o q];exact n
   ·exact⟨o,k2 b o (λz=>hch<|by simp[z]) (λz=>hch<|by simp[z]) q⟩
   ·rw[iS<|iX q fT];exact q
   ·rw[iS<|iX q fT];exact q
   ·exact⟨#[],by rw[iS<|iX q fT,q];simp⟩
   ·obtain⟨o,es,ep,ho,r⟩:=hm;exact⟨o,es,ep,k2 _ o (dg e1) (dg i1) ho,r⟩
   ·by_cases z:b=s.heap.objs.size
    ·subst z;rw[jA]at q
     cases q
     exact⟨by show 2<=sizeLine;decide,[.int i tk,x'],.cons ⟨tk,rfl⟩<|.cons ru .nil,⟨_,hT2,rfl,rfl,0,rfl⟩⟩
    ·rw[iS z]at q;refine(I.hok b u' q).stay (λc v hc q'=>k2 c v ?_ ?_ q') (λc q'=>?_) λc ys q'=>?_
     ·rcases hc with z|z
      ·rw[z];exact(ne_tr b u' q).1
      ·exact(ne_tr c _ z).1
     ·rcases hc with z|z
      ·rw[z];exact(ne_tr b u' q).2
      ·exact(ne_tr c _ z).2
     ·rw[iS<|iX q' fT];exact q'
     ·rw[iS<|iX q' fT];exact q'
  refine⟨.ref s.heap.objs.size,_,I2,rfl,⟨s.heap.objs.size,fT,rfl,λys y hy hyi=>?_⟩,⟨⟨x',by simpa using he2⟩,?_⟩,λb hb=>?_⟩
  ·rw[I.uC hy hq]at hyi;rw[hx]at hyi
   cases hyi
   rfl
  ·exact hst.1.at λo ho=>hs2.extBut it o (dg hei) ho
  ·have hb':b=e\/b=it:=by simpa using hb
   rcases hb' with rfl|rfl
   ·rw[iS<|bD hel];exact e0
   ·rw[iS<|bD hil];exact i0
 done:=by
  k_ne;subst hP hw hK;obtain⟨⟨old,st1⟩,st2⟩:=st;obtain⟨xs,hq,hx⟩:=hg;obtain⟨its,rv,p,hz⟩:=I.tuple hq;obtain⟨i0,i1,i2,i3,i4,i5⟩:=hf it (by simp);have hia:a≠it:=by
   obtain⟨o,ho,hc1,_⟩:=p;obtain⟨o2,ho2,hc2,_⟩:=st2;intro z;rw[z,ho2]at ho
   cases ho
   rw[hc1]at hc2;exact absurd (Value.type.inj hc2) ⋯
  have hl:=rv.length;have ei:its.toArray.size=i:=by rw[aW,<- hl,hx]
  exact wpAny_pyNext_enum_endD (Jz (A:=X.A.in1) (I.ok.hd hc) it a hia its.toArray) st1 ⟨by rw[ei];exact st2,p⟩ λh' eb=>⟨rfl,I.turned (t':=s.toks) (λb o hb q=>eb b o hb q) i0 i1 i3 i4 i5⟩
 self:=λ_ _ _ _ _ st h=>let⟨⟨_,st1⟩,_⟩:=st;wpAny_pyIter_enum st1 h
def zo:bootBuiltins "enumerate" = some (.type "enumerate"):=by decide +kernel
section
variable {X:Cx}
abbrev U5 (K:au)(ta:TA):TI:=λσ H R=>ta σ H λvs H1=>∃a xs,vs=[.ref a]/\lR K H1 a xs/\R (Xk K a) H1
def IC{a:aE}{ta:TA}{p:Pos}(hg:Gl X "enumerate")(hm:X.mg "enumerate" = none)(ha:PA X [a] ta)(hs:starEach [a] X.env=[(false,eval a X.env)]:=by rfl):PI X (.Tuple elts x1 tpos) (.Call (.Name "enumerate" p) [a] [] pos) (U5 X.K ta):=by
 intro pins s σ H R I h;refine Call_<|uW I hg hm zo<|dQ (jN (ha pos pins s σ H _ I h) λus s1 ⟨vs,H1,I1,r1,q1⟩=>?_) hs rfl;obtain⟨t,xs,e,hq,q⟩:=q1;subst e;obtain⟨u,rfl,rx⟩:=vals1 r1
 cases rx
 obtain⟨its,rv,pt,hz⟩:=I1.tuple hq;refine callType_new F.called_enumerate ⋯ (F.typeCall_enumerate_1 _) (F.newCall_enumerate_1 _) (λobj=>gD obj _) F.entry_enumerate_new (BC t its.toArray) ⟨pt,⟨_,bB _ rfl,rfl⟩,?_⟩;have I2:Inv X pins σ H1 { s1 with heap:=s1.heap.push { cls:=.type "tuple_iterator",data:=.fields #[.ref t,.int 0 0]}}:=I1.kept (t':=s1.toks) λb o e=>aR _ e;have I3:Inv X pins σ H1 { s1 with heap:=(s1.heap.push { cls:=.type "tuple_iterator",data:=.fields #[.ref t,.int 0 0]}).push { cls:=.type "enumerate",data:=.fields #[.none,.bool false,.ref s1.heap.objs.size,rawInt 0,.none,.none]}}:=I2.kept (t':=s1.toks) λb o e=>aR _ e;have he:IsEnum ((s1.heap.push { cls:=.type "tuple_iterator",data:=.fields #[.ref t,.int 0 0]}).push { cls:=.type "enumerate",data:=.fields #[.none,.bool false,.ref s1.heap.objs.size,rawInt 0,.none,.none]}) (s1.heap.push { cls:=.type "tuple_iterator",data:=.fields #[.ref t,.int 0 0]}).objs.size s1.heap.objs.size 0 .none:=bB _ rfl;have hit:((s1.heap.push { cls:=.type "tuple_iterator",data:=.fields #[.ref t,.int 0 0]}).push { cls:=.type "enumerate",data:=.fields #[.none,.bool false,.ref s1.heap.objs.size,rawInt 0,.none,.none]}).IsTupleIter s1.heap.objs.size t 0:=⟨_,aR _<|bB _ rfl,rfl,rfl⟩;have hne:(s1.heap.push { cls:=.type "tuple_iterator",data:=.fields #[.ref t,.int 0 0]}).objs.size≠s1.heap.objs.size:=by rw[fY];exact ne_of_gt (cO _)
 refine wpAny_pyIter_enum he ⟨_,[_,s1.heap.objs.size],_,_,H1,rfl,I3,DK t _ s1.heap.objs.size hne,⟨⟨.none,he⟩,hit⟩,λb hb=>?_,q⟩;have hb':b=(s1.heap.push { cls:=.type "tuple_iterator",data:=.fields #[.ref t,.int 0 0]}).objs.size\/b=s1.heap.objs.size:=by simpa using hb
 rcases hb' with rfl|rfl
 ·exact I1.C6 (by rw[fY];exact Nat.le_succ _) (I2.hok.fresh<|aQ _)
 ·o_rec
def HY(hc:X.calm=true):jl X (.builtin "max") (λxs H Q=>∃(p:ak) (ns:ae),xs=[.ref p]/\nE X.K H p (ns.map V.int)/\0<ns.length/\∀M,M∈ns->(∀a∈ns,a<=M)->Q (.int M) H):=by
 kt_k;obtain⟨p,ns,rfl,hq,hne,q⟩:=h;kpf_c
 cases rx
 obtain⟨its,rv,pl,hz⟩:=I.list hq;have hi:=intsAre_of rv;have hl:=pl.isList;obtain⟨ys,e⟩:=hi.allInts.items;have hns:ns=ys.toList.map (·.1):=by
  rw[<- hi.numsOf,<- nums_intItems,<- e]
 have hsz:0<ys.size:=by
  have h3:=hne;rw[hns,aL,cD]at h3;exact h3
 rw[e]at hl;refine max_intList (I.ok.hd hc) hl hsz λv h' tk hv hk=>?_;obtain⟨t,rfl⟩:=intItems_at hv;obtain⟨h1,h2⟩:=argBest_gt (numAt ys)<|ys.size-1;refine⟨.int _,H,I.kept hk,⟨t,rfl⟩,q _ ?_ λa ha=>?_⟩
 ·rw[hns,numAt_eq];exact getD_mem (by rw[aL,cD];lia)
 ·rw[hns]at ha;obtain⟨j,hj,rfl⟩:=mem_getD ha;rw[aL,cD]at hj;rw[<- numAt_eq];exact h2 j ()
end
section
variable {prog:aj}{w:ah}{A:aA}{E:af->aC->Prop}{s:aC}
def CT(n:Nat):Builtin.Slice.sliceAdjust none none (-1) (n:Int)=((n:Int)-1,-1):=by
 unfold Builtin.Slice.sliceAdjust;rfl
def Dr(n:Nat):Builtin.Slice.slicePlaces ((n:Int)-1) (-1) (-1)=n:=by
 unfold Builtin.Slice.slicePlaces;have h1:¬((-1:Int)>0):=by decide
 dsimp[h1,bN];by_cases h:n=0
 ·subst h;simp
 ·rw[aK ()];rw[show(- -1:Int)=1 by decide,ediv_one]
  lia
def ux{n:Nat}{Q:Int×Int×Nat->aC->Prop}(hs:s.heap.IsSliceOf sl .none .none<|.int (-1) t)
  (h:Q ((n:Int)-1,-1,n) s):wpAny (model prog w) A (Builtin.Slice.sliceApplied (.ref sl)<|pure (n:Int)) Q E s:=by
 obtain⟨os,hos,hcs,hds⟩:=id hs;unfold Builtin.Slice.sliceApplied Builtin.Slice.sliceFields;refine aH<|aH<|eo hos hds (x:=.none) rfl<|aH<|eo hos hds (x:=.none) rfl<|aH<|eo hos hds (x:=.int (-1) t) rfl<|aO ?_;refine aH (slicePart_int ?_)
 skip
 rw[aJ ⋯];refine aH<|slicePart_none<|aH<|slicePart_none<|aH<|aO ?_;show wpAny _ _ (match Builtin.Slice.sliceAdjust none none (-1) (n:Int)with|(lo,hi)=>pure (lo,(-1:Int),Builtin.Slice.slicePlaces lo hi<|-1)) _ _ s;rw[CT n];show wpAny _ _ (pure ((n:Int)-1,(-1:Int),Builtin.Slice.slicePlaces ((n:Int)-1) (-1)<|-1)) _ _ s;rw[Dr];exact aO h
def KO(xs:Array af):((List.range xs.size).filterMap λ(m:Nat)=>xs[((xs.size:Int)-1+(m:Int) * (-1)).toNat]?).toArray=xs.toList.reverse.toArray:=by
 have e:(λ(m:Nat)=>xs[((xs.size:Int)-1+(m:Int) * (-1)).toNat]?)=(λx=>xs[x]?) ∘ λk=>xs.size-1-k:=by
  funext m
  have:((xs.size:Int)-1+(m:Int) * (-1)).toNat=xs.size-1-m:=()
  show xs[((xs.size:Int)-1+(m:Int) * (-1)).toNat]?=xs[xs.size-1-m]?;rw[this]
 rw[e,<- List.filterMap_map,PySem.W.krv_range,List.filterMap_reverse,PySem.W.krv_all]
def tU{items:Array af}{Q:af->aC->Prop}(ht:IsTup s.heap t items)(hs:s.heap.IsSliceOf sl .none .none<|.int (-1) tk)
  (h:Q (.ref s.heap.objs.size) { s with heap:=s.heap.push { cls:=.type "tuple",data:=.seq items.toList.reverse.toArray }})
  (hsz:items.size<=sizeLine):wpAny (model prog w) A (getItem (.ref t)<|.ref sl) Q E s:=by
 have htake:sizeOk (.seq items.toList.reverse.toArray):=by
  show items.toList.reverse.toArray.size<=sizeLine;rw[aW,cF,cD];exact hsz
 obtain⟨os,hos,hcs,hds⟩:=id hs;have hTs:s.TypeIs (.ref sl) "slice" := ⟨os,hos,hcs⟩;unfold getItem
 try with_reducible refine dh ?_
 first|refine aH (aO ?_)|skip
 refine aH<|wpAny_sequenceKey ht.typeIs ⋯ ?_;refine aH (eL (name:=Str.ofString "__getitem__") ht.typeIs cC
  (dS cC ht.typeIs entry_tuple_getitem ?_<|args_tuple_getitem _ _))
 show wpAny _ _ (Builtin.Tuple.tupleItemsOf (.ref t) >>= _) _ _ s;refine aH<|tupleItemsOf_ ht ?_;refine aH<|fX hTs ?_;rw[aK ⋯];refine aH<|ux hs ?_;have hno:¬((((items.size:Int)-1) == 0 && (-1:Int) == 1 && items.size == items.size)=true):=by
  intro q;rw[dB,dB]at q;exact absurd q.1.2 ⋯
 show wpAny _ _ (if (((items.size:Int)-1) == 0 && (-1:Int) == 1 && items.size == items.size)=true then _ else _) _ _ s;rw[aJ hno,KO]
 first
  | exact aH (m:=Builtin.Tuple.tupleExact _) (bQ (aO ⟨_,rfl,aO h⟩) htake)
  | exact aH (m:=Builtin.Tuple.tupleExact _) (bQ (aH<|aO<|aO ⟨_,rfl,aO h⟩) htake)
  | exact aH (aH (m:=Builtin.Tuple.tupleExact _)<|bQ (aO<|aO ⟨_,rfl,aO h⟩) htake)
  | exact aH<|aH (m:=Builtin.Tuple.tupleExact _)<|bQ (aO ⟨_,rfl,aO h⟩) htake
end
section
variable {X:Cx}
abbrev UB (K:au)(te:TE):TE:=λσ H Q=>te σ H λx H1=>∃a xs,x=.ref a/\lR K H1 a xs/\∀p,H1 p=none->Q (.ref p) (upd H1 p<|.tup xs.reverse)
def ET{e:aE}{te:TE}{up cp:Pos}{kk:Nat}(he:PE X e te):PE X (.Subscript e (.Slice none none (some<|.UnaryOp .USub (.Constant (.int 1) kk cp) up) p2) pos) (UB X.K te):=by
 w_up;refine Subscript_<|jN (he pins s σ H _ I h) λv s1 ⟨x,H1,I1,r1,a,xs,ex,hq,q⟩=>?_;subst ex
 cases r1
 refine wpAny_Slice ?_;rw[g_];refine aO ?_;refine aO ?_;rw[evalPart_some];refine jN ((IB (a:=.Constant (.int 1) kk cp) DC CG) pins s1 σ H1 (λv H'=>v=.int (-1)/\H'=H1) I1 ⟨1,rfl,rfl,rfl⟩) λvs s3 h9=>?_;obtain⟨y,H3,I3,r3,ey,eH⟩:=h9;subst ey eH;obtain⟨t,rfl⟩:=r3;have I4:Inv X pins σ H3 { s3 with heap:=s3.heap.push { cls:=.type "slice",data:=.fields #[.none,.none,.int (-1) t]}}:=I3.kept (t':=s3.toks) λb ob q=>aR _ q;obtain⟨its,rv,pl,hz⟩:=I4.tuple hq
 skip
 refine tail_any (ops:=[.ref a,.ref s3.heap.objs.size]) pl.typeIs cC.lookup ?_ (by with_unfolding_all rfl);have hlen:=rv.length;refine tU pl (gW ..) ?_ (by rw[aW]<;>lia);refine⟨.ref _,_,I4.laid (t':=s3.toks) (o:=.tup xs.reverse) (λb o e=>aR _ e) (aQ _) ⟨by rw[cF];exact hz,its.reverse,rv.reverse,?_⟩,rfl,q _ I4.fresh⟩;exact lW.new _ _
abbrev Vd (K:au):V->V->Hp->VK->Prop:=λo i H Q=>∃p xs k v,o=.ref p/\i=.int k/\nE K H p xs/\0<=k/\xs[k.toNat]?=some v/\Q v H
def KZ:RZ X (Vd X.K):=by
 intro pins s σ H o i ov iv Q I ro ri h;obtain⟨p,xs,k,v,rfl,rfl,hq,h0,hv,q⟩:=h
 cases ro
 obtain⟨t,rfl⟩:=ri;obtain⟨its,r,pl,hz⟩:=I.list hq;obtain⟨u,eu,ru⟩:=r.get hv;have hl:=r.length;have hn:=sH;have hk:k.toNat<xs.length:=(aM.mp hv).1;exact wpAny_getItem_list pl.isList h0 () (by simpa using eu) ⟨v,H,I,ru,q⟩
end
def zF(elt t1 i1 t2 i2:aE)(f1 f2:List aE)(scope:Scope)(pos:Pos)(it acc:af)(env:Env) :
  compTurn (.ListComp elt [⟨t1,i1,f1,0⟩,⟨t2,i2,f2,0⟩] scope pos) 0 it acc env=(do
   standAt i1.pos
   match <- pyNext it with
   | none=>pure (.done .next)
   | some v=>
    letOwnedTupleGo t1 it v
    assign t1 env v
    let mut ok:=true
    for c in f1 do
     if ok then ok <- isTrue c env (eval c env)
    if ok then
     let x <- eval i2 env
     standAt i2.pos
     let x <- foldedSetIterable i2 env x
     let _ <- runOwn (.compStart (.ListComp elt [⟨t1,i1,f1,0⟩,⟨t2,i2,f2,0⟩] scope pos) 1 (<- holding [x] (pyIter x)) acc env) env
    again (.compLoop (.ListComp elt [⟨t1,i1,f1,0⟩,⟨t2,i2,f2,0⟩] scope pos) 0 it acc env)):=by rfl
def AD(elt t1 i1 t2 i2:aE)(f1 f2:List aE)(scope:Scope)(pos:Pos)(it acc:af)(env:Env) :
  compTurn (.ListComp elt [⟨t1,i1,f1,0⟩,⟨t2,i2,f2,0⟩] scope pos) 1 it acc env=(do
   standAt i2.pos
   match <- pyNext it with
   | none=>pure (.done .next)
   | some v=>
    letOwnedTupleGo t2 it v
    assign t2 env v
    let mut ok:=true
    for c in f2 do
     if ok then ok <- isTrue c env (eval c env)
    if ok then
     (do let _ <- call (.builtin "list.append") [acc,<- eval elt env])
    again (.compLoop (.ListComp elt [⟨t1,i1,f1,0⟩,⟨t2,i2,f2,0⟩] scope pos) 1 it acc env)):=by rfl
section
variable {prog:aj}{w:ah}{A:aA}{R:Result->aC->Prop}{s:aC}
def qk{f1 f2:List aE}{acc:af}{env:Env}
  (h0:codeAny (model prog w) A (.compLoop (.ListComp elt [⟨t1,i1,f1,0⟩,⟨t2,i2,f2,0⟩] scope pos) 1 it acc env) R s)
  (h:wpAny (model prog w) A (pyIter it) (λit' s'=>codeAny (model prog w) A (.compLoop (.ListComp elt [⟨t1,i1,f1,0⟩,⟨t2,i2,f2,0⟩] scope pos) 1 it' acc env) R s')
   (notedBy (model prog w) A env λx s'=>R (.error x) s') s) :
  codeAny (model prog w) A (.compStart (.ListComp elt [⟨t1,i1,f1,0⟩,⟨t2,i2,f2,0⟩] scope pos) 1 it acc env) R s:=by
 refine codeAny_of_tree ?_
 skip
 refine wpAny_notedAt ?_;unfold compStart
 skip
 refine aH<|wpAny_askSetting<|wpAny_ite ?_;split
 ·first
   | exact aH (aO<|aO<|anI rfl h0)
   | exact aO<|anI rfl h0
 ·first
   | exact aH (dX<|aH<|eZ<|aH<|fP h (λit' s' h'=>aO<|anI rfl h') λ_ _ x=>x)
   | (refine aH<|dX ?_;show wpAny _ _ (standAt i2.pos >>= _) _ _ s;exact aH<|eZ<|aH<|fP h (λit' s' h'=>aO<|anI rfl h') λ_ _ x=>x)
end
abbrev KU (g:TG)(tc:TT)(te:TE)(D:ak)(Nn:L2.St->Hp->Prop)(σ:L2.St)(J:It)(H1:Hp):Prop:=
 ∃V:Nat->Nat->L2.St->Hp->Prop,(∃m,V 0 m σ H1)/\∀i m σ' H',V i m σ' H' ->
  (J.stop i H'/\Nn σ' H')\/(J.go i H'/\∀x H2,J.yld i H' x H2->g x σ' H2 λσ3 H3=>tc σ3 H3 λb H4=>
   if b=true then te σ3 H4 λy H5=>∃ys,H5 D=some (.lst ys)/\ys.length<sizeLine/\∃m',m'<m/\V (i+1) m' σ3 (upd H5 D<|.lst<|ys++[y])
   else ∃m',m'<m/\V (i+1) m' σ3 H4)
def Dm{Z:Cx}{f1:List aE}{fp:ba}{D:ak}{tn:Nat->aq->Prop}{H:Hp}{s:aC}{g:TG}{tc:TT}{te:TE}{Nn:L2.St->Hp->Prop}
  (hc:Z.calm=true) (hxe:Z.xe=λ_ _=>False) (T:Turn Z.prog Z.w Z.K tg J fp it tn) (I:Inv Z pins σ H s) (st:tn 0 s.heap) (hf:∀b∈fp,qG Z pins H b) (hg:PG Z tg g) (ht:N9 Z ifs tc) (he:PE Z elt te) (goal:KU g tc te D Nn σ J H) :
  codeAny (model Z.prog Z.w) Z.A (.compLoop (.ListComp elt [⟨t1,i1,f1,0⟩,⟨tg,i2,ifs,0⟩] scope pos) 1 (.ref it) (.ref D) Z.env) (λr s'=>r=.ok .next/\∃σ' H',Inv Z pins σ' H' s'/\Nn σ' H') s:=by
 obtain⟨V,⟨m0,v0⟩,turn⟩:=goal;have stat:∀{H':Hp},(∀b∈fp,H' b=none)->∀b∈fp,qG Z pins H' b:=λhn b hb=>⟨hn b hb,(hf b hb).2⟩;refine codeAny_loop rfl (λn s'=>∃i σ' H',Inv Z pins σ' H' s'/\tn i s'.heap/\(∀b∈fp,H' b=none)/\V i n σ' H') (λn s5 hI=>?_) m0 ⟨0,σ,H,I,st,λb hb=>(hf b hb).1,v0⟩;obtain⟨i,σ5,H5,I5,st5,fr5,w5⟩:=hI
 skip
 refine wpAny_noted ?_;rw[AD];refine aH (eZ<|aH ?_)
 rcases turn i n σ5 H5 w5 with⟨stop,q⟩|⟨go,step⟩
 ·refine jN (T.done Z rfl rfl rfl hc i pins s5 σ5 H5 _ I5 (stat fr5) st5 stop) λr s6 h9=>?_;obtain⟨hr,I6⟩:=h9;subst hr;exact aO ⟨rfl,σ5,H5,I6,q⟩
 ·refine jN (T.item Z rfl rfl rfl hc i pins s5 σ5 H5 _ I5 (stat fr5) st5 go) λr s6 h9=>?_;obtain⟨u,hr,h6⟩:=h9;subst hr;refine aH<|jN h6 λ_ s7 ⟨x,H7,I7,r7,y7,st7,fr7⟩=>?_;have I7':=I7.pinned (stat fr7)<|T.obj _ _ st7;have toF:∀{α:Type} {t:Sem α} {Q Q':α->aC->Prop} {E:af->aC->Prop} {s:aC},wpAny (model Z.prog Z.w) Z.A t Q Z.xe s->(∀a s,Q a s->Q' a s)->wpAny (model Z.prog Z.w) Z.A t Q' E s:=λh hQ=>by
   rw[hxe]at h;exact zB h hQ
  refine aH<|toF (hg _ s7 σ5 H7 x u _ I7' r7<|step x H7 y7) λ_ s8 ⟨σ8,H8,I8,q8⟩=>?_;refine aH<|toF (ht _ s8 σ8 H8 _ I8 q8) λok s9 ⟨H9,I9,q9⟩=>?_;have again:∀{s10:aC} {H10:Hp},Inv Z (pins++sA fp s7.heap) σ8 H10 s10->(∃m',m'<n/\V (i+1) m' σ8 H10) ->
    ∃m,m<n/\∃i σ' H',Inv Z pins σ' H' s10/\tn i s10.heap/\(∀b∈fp,H' b=none)/\V i m σ' H':=λ{s10 H10} I10 h9=>by
   obtain⟨m',hm,w10⟩:=h9;refine⟨m',hm,i+1,σ8,H10,I10.pK,T.keep _ _ _ st7 λb hb o e=>(I10.pin (b,o)<|bA _<|bA _<|kF hb e).1,λb hb=>?_,w10⟩;obtain⟨o,e,d⟩:=T.obj _ _ st7 b hb;exact(I10.pin (b,o)<|bA _<|bA _<|kF hb e).2.1
  cases ok with
  | false=>
   rw[aJ bH]at q9;exact aO ⟨rfl,again I9 q9⟩
  | true=>
   rw[aK rfl]at q9;refine aH<|aH<|toF (he _ s9 σ8 H9 _ I9 q9) λy s10 ⟨v10,H10,I10,r10,ys,hD,hz,w10⟩=>?_;refine aH<|toF (uy _ s10 σ8 H10 (.ref D) [v10] _ [y] (λ_ H'=>H'=upd H10 D (.lst<|ys++[v10])) I10 rfl (.cons r10 .nil) ⟨_,ys,v10,rfl,rfl,hD,hz,rfl⟩) λ_ s11 ⟨_,H11,I11,_,e11⟩=>?_;subst e11;exact aO<|aO ⟨rfl,again I11 w10⟩
abbrev Ng (cap:List<|bj)(g:TG)(tc:TT)(wi2:TI)(g2:TG)(tc2:TT)(te:TE)(σ:L2.St)(Q:VK)(J:It)(H1:Hp):Prop:=∀D,H1 D=none ->
 ∃W:Nat->Nat->L2.St->Hp->Prop,(∃m,W 0 m (cap.map<|OB σ)<|upd H1 D<|.lst [])/\∀i m σ' H',W i m σ' H' ->
  (J.stop i H'/\Q (.ref D) H')\/(J.go i H'/\∀x H2,J.yld i H' x H2->g x σ' H2 λσ3 H3=>tc σ3 H3 λb H4=>
   if b=true then wi2 σ3 H4 (KU g2 tc2 te D (λσ5 H5=>∃m',m'<m/\W (i+1) m' σ5 H5) σ3)
   else ∃m',m'<m/\W (i+1) m' σ3 H4)
abbrev WZ (cap:List<|bj)(wi:TI)(g:TG)(tc:TT)(wi2:TI)(g2:TG)(tc2:TT)(te:TE):TE:=λσ H Q=>wi σ H<|Ng cap g tc wi2 g2 tc2 te σ Q
def Rm{X:Cx}{iter:aE}{N:ap}{wi wi2:TI}{g g2:TG}{tc tc2:TT}{te:TE}(hc:X.calm=true)(S:CpScope X scope N cap)(hi:PI X tg iter wi)
  (hg:∀C s₀ H₀ ex,PG (jU X scope N C s₀ H₀ ex) tg g) (ht:∀C s₀ H₀ ex,N9 (jU X scope N C s₀ H₀ ex) ifs tc) (hi2:∀C s₀ H₀ ex,PI (jU X scope N C s₀ H₀ ex) tg2 iter2 wi2)
  (hg2:∀C s₀ H₀ ex,PG (jU X scope N C s₀ H₀ ex) tg2 g2) (ht2:∀C s₀ H₀ ex,N9 (jU X scope N C s₀ H₀ ex) ifs2 tc2) (he:∀C s₀ H₀ ex,PE (jU X scope N C s₀ H₀ ex) elt te)
  (hs:∀x,foldedSetIterable iter X.env x=pure x:=by intro _;rfl) (hs2:∀env x,foldedSetIterable iter2 env x=pure x:=by intro _ _;rfl):PE X (.ListComp elt [⟨tg,iter,ifs,0⟩,⟨tg2,iter2,ifs2,0⟩] scope pos) (WZ cap wi g tc wi2 g2 tc2 te):=by
 w_up;kcj_m;rw[eval_ListComp];refine wpAny_comprehension_free (use:=none) rfl hs (wQ hfree) S.kind S.nm<|jN (hi pins s σ H _ I h) λxv s1 h1=>jN h1 λitv s2 h2=>?_;obtain⟨it,fp,tn,J,H2,rfl,I2,T,st2,f2,h2⟩:=h2;refine bQ (wpAny_newFunctionEnv S.nocell (by intro y hy;simp at hy) (λh₁ hns₁ hsb₁=>?_) S.kind);obtain⟨W,⟨m0,w0⟩,turn⟩:=h2 s2.heap.objs.size I2.fresh;dsimp only at hns₁ hsb₁ ⊢;have I3:Inv X pins σ (upd H2 s2.heap.objs.size<|.lst []) { s2 with heap:=s2.heap.push {}}:=I2.Mw (t':=s2.toks) (its:=[]) .nil<|cL _;have hfp:∀b∈fp,∃o,s2.heap.get? b=some o:=λb hb=>by
  obtain⟨o,e,_⟩:=T.obj 0 _ st2 b hb;exact⟨o,e⟩
 have neD:∀b∈fp,b≠s2.heap.objs.size:=λb hb=>by
  obtain⟨o,e⟩:=hfp b hb;exact bD<|br e
 have f3:∀b∈fp,qG X pins (upd H2 s2.heap.objs.size<|.lst []) b:=λb hb=>⟨by rw[iS<|neD b hb];exact(f2 b hb).1,(f2 b hb).2⟩;have hDC:s2.heap.objs.size≠(s2.heap.push {}).objs.size:=by rw[fY];exact bD (cO _)
 have old:∀b o,(s2.heap.push {}).get? b=some o->h₁.get? b=some o:=λb o e=>hsb₁.extBut b o (bD<|br e)<|aR _ e;have I4:=Ku (tk:=s2.toks+([]:List<|Str×af).length) (fp:=fp) S I3 f3 (λb hb=>by
  obtain⟨o,e⟩:=hfp b hb;exact⟨o,aR _ e⟩) hns₁ old
 have st4:tn 0 h₁:=T.keep _ _ _ st2 λb hb o e=>old b o<|aR _ e;have stat:∀{H':Hp},(∀b∈fp,H' b=none)->∀b∈fp,qG (jU X scope N (s2.heap.push {}).objs.size { s2 with heap:=s2.heap.push {}} (upd H2 s2.heap.objs.size<|.lst []) fp) [] H' b:=λhn b hb=>by
  have ok:=I4.ok;refine⟨hn b hb,(ok.exf b hb).1,ok.exfs b hb,.inl hb,λx c e=>(ok.exf b hb).2 x c e,λp hp=>nomatch hp⟩
 have loop:∀s4:aC,s4={ s2 with heap:=h₁,toks:=s2.toks+([]:List<|Str×af).length } ->
   codeAny (model X.prog X.w) X.A (.compLoop (.ListComp elt [⟨tg,iter,ifs,0⟩,⟨tg2,iter2,ifs2,0⟩] scope pos) 0 (.ref it) (.ref s2.heap.objs.size)<|compEnvC scope (vj X.env scope.names []) (s2.heap.push {}).objs.size X.env)
    (compPost (model X.prog X.w) X.A X.xe none (EP X pins σ Q) (.ref s2.heap.objs.size) (s2.heap.push {}).objs.size) s4:=by
  rintro s4 rfl;refine codeAny_loop rfl (λn s'=>∃i σ' H',Inv (jU X scope N (s2.heap.push {}).objs.size { s2 with heap:=s2.heap.push {}} (upd H2 s2.heap.objs.size<|.lst []) fp) [] σ' H' s'/\tn i s'.heap/\(∀b∈fp,H' b=none)/\W i n σ' H') (λn s5 hI=>?_) m0 ⟨0,_,_,I4,st4,λb hb=>(f3 b hb).1,w0⟩;obtain⟨i,σ5,H5,I5,st5,fr5,w5⟩:=hI
  skip
  refine wpAny_noted ?_;rw[zF];refine aH (eZ<|aH ?_)
  rcases turn i n σ5 H5 w5 with⟨stop,q⟩|⟨go,step⟩
  ·refine jN (T.done (jU X scope N (s2.heap.push {}).objs.size { s2 with heap:=s2.heap.push {}} (upd H2 s2.heap.objs.size<|.lst []) fp) rfl rfl rfl hc i [] s5 σ5 H5 _ I5 (stat fr5) st5 stop) λr s6 h9=>?_;obtain⟨hr,I6⟩:=h9;subst hr;obtain⟨m6,hn6,_⟩:=I6.loc;refine aO ⟨m6,hn6,λh' sb=>?_⟩;have u6:=I6.base;have nC:∀b o,(s2.heap.push {}).get? b=some o->b≠(s2.heap.push {}).objs.size:=λb o e=>bD<|br e;refine⟨.ref s2.heap.objs.size,H5,?_,rfl,q⟩;refine I3.QA (ch:=fp) I6.os ⟨λb o e n hb hx=>?_,λb o e n hb hx=>?_,λb o e n hx=>?_,λb o e hx=>?_,u6.tups,u6.frzs,u6.tbls⟩ ?_ I6.bare ?_
   ·exact sb.extBut b o (nC b o e) (u6.keep b o e n hb hx)
   ·obtain⟨sl,z⟩:=u6.slot b o e n hb hx;exact⟨sl,sb.extBut b _ (nC b o e) z⟩
   ·exact u6.free b o e n hx
   ·obtain⟨o',z⟩:=u6.there b o e hx;exact⟨o',sb.extBut b _ (nC b o e) z⟩
   ·intro b o e;have hb:∀c v,H5 c=some v->c≠(s2.heap.push {}).objs.size:=λc v e z=>by
     rw[z]at e;have:=I6.free;rw[show H5 (s2.heap.push {}).objs.size=none from this]at e
     cases e
    refine(I6.hok b o e).stay (λc v hc q=>sb.extBut c v ?_ q) (λ_ q=>q) λ_ _ q=>q
    rcases hc with z|z
    ·rw[z];exact hb b o e
    ·exact hb c _ z
   ·intro b hb;obtain⟨_,z1,_,z3,z4,z5⟩:=f3 b hb;exact⟨z3,z1,z4,z5⟩
  ·refine jN (T.item (jU X scope N (s2.heap.push {}).objs.size { s2 with heap:=s2.heap.push {}} (upd H2 s2.heap.objs.size<|.lst []) fp) rfl rfl rfl hc i [] s5 σ5 H5 _ I5 (stat fr5) st5 go) λr s6 h9=>?_;obtain⟨u,hr,h6⟩:=h9;subst hr;refine aH<|jN h6 λ_ s7 ⟨x,H7,I7,r7,y7,st7,fr7⟩=>?_;have I7':=I7.pinned (stat fr7)<|T.obj _ _ st7;refine aH<|zB (hg _ _ _ fp _ s7 σ5 H7 x u _ I7' r7<|step x H7 y7) λ_ s8 ⟨σ8,H8,I8,q8⟩=>?_;refine aH<|zB (ht _ _ _ fp _ s8 σ8 H8 _ I8 q8) λok s9 ⟨H9,I9,q9⟩=>?_;have again:∀{s10:aC} {H10:Hp} {σ10:L2.St},Inv (jU X scope N (s2.heap.push {}).objs.size { s2 with heap:=s2.heap.push {}} (upd H2 s2.heap.objs.size<|.lst []) fp) ([]++sA fp s7.heap) σ10 H10 s10->(∃m',m'<n/\W (i+1) m' σ10 H10) ->
     ∃m,m<n/\∃i σ' H',Inv (jU X scope N (s2.heap.push {}).objs.size { s2 with heap:=s2.heap.push {}} (upd H2 s2.heap.objs.size<|.lst []) fp) [] σ' H' s10/\tn i s10.heap/\(∀b∈fp,H' b=none)/\W i m σ' H':=λ{s10 H10 σ10} I10 h9=>by
    obtain⟨m',hm,w10⟩:=h9;refine⟨m',hm,i+1,σ10,H10,I10.pK,T.keep _ _ _ st7 λb hb o e=>(I10.pin (b,o)<|bA _<|bA _<|kF hb e).1,λb hb=>?_,w10⟩;obtain⟨o,e,d⟩:=T.obj _ _ st7 b hb;exact(I10.pin (b,o)<|bA _<|bA _<|kF hb e).2.1
   cases ok with
   | false=>
    rw[aJ bH]at q9;exact aO ⟨rfl,again I9 q9⟩
   | true=>
    rw[aK rfl]at q9;refine aH<|zB (hi2 _ _ _ fp _ s9 σ8 H9 _ I9 q9) λxv s10 h10=>aH<|eZ ?_;rw[hs2];refine aH<|aO<|aH<|dh<|zB h10 λitv s11 h11=>?_;obtain⟨it2,fp2,tn2,J2,H11,rfl,I11,T2,st11,f11,goal⟩:=h11;have hcz:=hc;have loop2:=(λ(Z:Cx) (h1:Z.calm=true) (h2:Z.xe=λ_ _=>False) T2 I11=>Dm (Z:=Z) (t1:=tg) (i1:=iter) (f1:=ifs) (i2:=iter2) (scope:=scope) (pos:=pos) h1 h2 T2 I11) _ (show(jU X scope N _ _ _ fp).calm=true from hcz) rfl T2 I11 st11 f11 (hg2 _ _ _ fp) (ht2 _ _ _ fp) (he _ _ _ fp) goal;refine aH<|wpAny_runOwn<|gS (qk loop2<|T2.self _ 0 _ _ _ st11 loop2) λr s12 hr12=>?_;obtain⟨hr,σ12,H12,I12,n12⟩:=hr12;subst hr;exact aO ⟨rfl,again I12 n12⟩
 exact codeAny_compStart_list (loop _ rfl)<|T.self _ 0 _ _ _ st4<|loop _ rfl
end L2
namespace L2
open PySem PySem.Spec PyProof.Rows
open PySem.SeqAt
open PySem.AutoSeq1 (wpAny_loadPart')
open PySem.MeetsSeq PySem.MeetsSeq2 PySem.MeetsSeq3 PySem.SeqAt
section
variable {X:Cx}
def Iu:lT X (binaryOp .FloorDiv) (rI (λ_ j=>0<j/\j<18446744073709551616) λi j=>.int<|i / j):=V_ λi j _ _ _ _ _ hc q=>by
 have h1:(0:Int)<j:=hc.1;have h2:j<18446744073709551616:=hc.2;refine floordiv_int (by omega) (by rw[Int.fdiv_eq_ediv_of_nonneg i<|by omega];exact q)<|.inl<|PyProof.noPylong_of_log2 ?_;exact bM ((Nat.log2_lt<|by omega).mpr<|show j.natAbs<2 ^ 64 by omega) ⋯
end
end L2
namespace L2
open PySem PySem.Spec PyProof.Rows
abbrev Xo (x:Str):It:=⟨λi _=>i<x.cps.size,λi H v H'=>H'=H/\∃c,x.cps[i]?=some c/\v=.str ⟨#[c]⟩,λi _=>i=x.cps.size⟩
def JX{P:aj}{w:ah}{K:au}(x:Str)(t:Tok)(it:ak):Turn P w K tg (Xo x) [it] it (λi h=>h.IsStrIter it "str_ascii_iterator" x t i) where
 mem:=by simp
 obj:=λi h st b hb=>by
  have e:b=it:=by simpa using hb
  subst e;obtain⟨o,e,c,d⟩:=st;exact⟨o,e,λv z=>by rw[d]at z;cases z⟩
 keep:=λi h h' st k=>let⟨o,ho,r⟩:=st;⟨o,k it (by simp) o ho,r⟩
 item:=by
  k_ne;subst hP hw hK;gn_on;have W:=Walks.strAscii (prog:=X.prog) (w:=X.w) (I.ok.hd hc) it x t;refine W.item i s _ _ hg st λv h' tk hv st' kk=>?_;obtain⟨c,u,hcx,rfl⟩:=hv;have I1:Inv X pins σ H { s with heap:=h',toks:=tk }:=I.turned (λb o hb e=>kk b o (by simpa using hb) e) f0 f1 f3 f4 f5;obtain⟨o,e,cc,d⟩:=id st';exact⟨_,rfl,FH (s:={ s with heap:=h',toks:=tk }) e cc d ⋯ ⟨.str ⟨#[c]⟩,H,I1,⟨u,rfl⟩,⟨rfl,c,hcx,rfl⟩,st',λb hb=>(hf b hb).1⟩⟩
 done:=by
  k_ne;subst hP hw hK;gn_on;have hg:i=x.cps.size:=hg;subst hg;have W:=Walks.strAscii (prog:=X.prog) (w:=X.w) (I.ok.hd hc) it x t;exact W.done s _ _ st λh' tk kk=>⟨rfl,I.turned (λb o hb e=>kk b o (by simpa using hb) e) f0 f1 f3 f4 f5⟩
 self:=λ_ _ _ _ _ st h=>wpAny_pyIter_striter_ascii st h
section
variable {X:Cx}{tg:aE}
abbrev Wi (tl:TE):TI:=λσ H R=>tl σ H λx H1=>∃y:Str,x=.str y/\y.cps.all (· < 128)=true/\R (Xo y) H1
def SD{tl:TE}(hl:PE X l tl):PI X tg l (Wi tl):=by
 intro pins s σ H R I h;refine jN (hl pins s σ H _ I h) λv s1 h9=>?_;obtain⟨x,H1,I1,r1,q1⟩:=h9;obtain⟨y,e,ha,q⟩:=q1;subst e;obtain⟨t,rfl⟩:=r1;refine wpAny_pyIter_ascii ha ?_;refine⟨s1.heap.objs.size,[s1.heap.objs.size],_,_,H1,rfl,I1.kept (t':=s1.toks) λb o e=>aR _ e,JX y t _,⟨_,bB _ rfl,rfl,rfl⟩,λb hb=>?_,q⟩;have e:b=s1.heap.objs.size:=by simpa using hb
 subst e;o_rec
def HB:jl X (.type "int") (λxs H Q=>∃(y:Str) (n:Int),xs=[.str y]/\y.length<=640/\PySem.intText? y=some n/\Q (.int n) H):=by
 intro pins s σ H xs us Q I rv h;obtain⟨y,n,rfl,hl,hn,q⟩:=h;obtain⟨w,rfl,rw'⟩:=vals1 rv;obtain⟨u,rfl⟩:=rw';exact PySem.W.KIN.call_text hn hl ⟨.int n,H,I.tok _,⟨_,rfl⟩,q⟩
end
section
variable {κ:Type}[DecidableEq κ]
abbrev sL (kvs:List<|κ×V)(k:κ):Option V:=(kvs.find? λkv=>decide<|kv.1=k).map (·.2)
abbrev putK (kvs:List<|κ×V)(k:κ)(v:V):List (κ×V):=
 if (kvs.any λkv=>decide<|kv.1=k)=true then kvs.map (λkv=>if kv.1=k then(kv.1,v)else kv)else kvs++[(k,v)]
def tW{p:κ×V}{r:List<|κ×V}{k:κ}(e:p.1=k):sL (p::r) k=some p.2:=by simp[sL,cI,e]
def t6{p:κ×V}{r:List<|κ×V}{k:κ}(e:¬p.1=k):sL (p::r) k=sL r k:=by simp[sL,cI,e]
theorem xT(k:κ):∀kvs:List<|κ×V,(kvs.any λkv=>decide<|kv.1=k)=(sL kvs k).isSome
 | []=>rfl
 | p::r=>by
  rw[e9];by_cases e:p.1=k
  ·dsimp[tW e,aT e,Bool.true_or,isSome_some]
  ·rw[t6 e,aS e,gB];exact xT k r
def qI(kvs:List<|κ×V)(k:κ)(v:V):(putK kvs k v).length<=kvs.length+1:=by
 unfold putK;split
 ·rw[aL];lia
 ·rw[aX,bz,cg];lia
def uM.HQ{o:Option V}{u:bb}(r:uM o u):o.isSome=u.isSome:=by
 cases o with
 | none=>cases u with
  | none=>rfl
  | some _=>exact(show False from r).elim
 | some _=>cases u with
  | none=>exact(show False from r).elim
  | some _=>rfl
def uM.getD{o:Option V}{u:bb}{d:V}(r:uM o u)(rd:RelV d d'):RelV (o.getD d) (u.getD d'):=by
 cases o with
 | none=>cases u with
  | none=>exact rd
  | some _=>exact(show False from r).elim
 | some _=>cases u with
  | none=>exact(show False from r).elim
  | some _=>exact r
def KV.val(r:KV kvs vs)(k:κ):uM (sL kvs k) (valueAt vs k):=by
 unfold KV at r
 induction r with
 | nil=>exact True.intro
 | @cons p q ps qs h t ih=>
  obtain⟨h1,h2⟩:=h;by_cases e:p.1=k
  ·have e':q.1=k:=h1.symm.trans e;have b:valueAt (q::qs) k=some q.2:=by simp[valueAt,cI,e']
   rw[tW e,b];exact h2
  ·have e':¬q.1=k:=λz=>e<|h1.trans z;have b:valueAt (q::qs) k=valueAt qs k:=by simp[valueAt,cI,e']
   rw[t6 e,b];exact ih
def KV.any{kvs:List<|κ×V}{vs:List<|κ×af}(r:KV kvs vs)(k:κ):(kvs.any λkv=>decide<|kv.1=k)=vs.any λkv=>decide (kv.1=k):=by
 unfold KV at r
 induction r with
 | nil=>rfl
 | cons h t ih=>rw[e9,e9,ih,h.1]
def KV.repl{kvs:List<|κ×V}{vs:List<|κ×af}(r:KV kvs vs)(k:κ)(ry:RelV y u) :
  KV (kvs.map λkv=>if kv.1=k then(kv.1,y)else kv) (vs.map λkv=>if kv.1=k then(kv.1,u)else kv):=by
 unfold KV at r ⊢
 induction r with
 | nil=>exact .nil
 | @cons p q ps qs h t ih=>
  rw[bU,bU];refine .cons ?_ ih;obtain⟨h1,h2⟩:=h;by_cases e:p.1=k
  ·rw[aK e,aK<|h1.symm.trans e];exact⟨h1,ry⟩
  ·rw[aJ e,aJ λz=>e<|h1.trans z];exact⟨h1,h2⟩
def KV.put(r:KV kvs vs)(k:κ)(ry:RelV y u):KV (putK kvs k y) (stored vs k u):=by
 unfold putK stored;rw[r.any k];by_cases e:(vs.any λkv=>decide<|kv.1=k)=true
 ·rw[aK e,aK e];exact r.repl k ry
 ·rw[aJ e,aJ e];exact Paired.snoc r ⟨rfl,ry⟩
def KV.length{kvs:List<|κ×V}{vs:List<|κ×af}(r:KV kvs vs):kvs.length=vs.length:=g9 r
end
def EA{P:aj}{w:ah}{k:Key}(r:RelV (kV k) u):(jo P w).is k u=true:=by
 cases k with
 | inl i=>obtain⟨t,e⟩:=(show ∃t,u=Value.int i t from r);subst e;exact BN P w i t
 | inr x=>obtain⟨t,e⟩:=(show ∃t,u=Value.str x t from r);subst e;exact BQ P w x t
theorem yS{P:aj}{w:ah}:∀{ks:List Key}{us:ar},Vals (ks.map kV) us->ItemsAre (jo P w) ks us
 | [],_,r=>by rw[map_nil]at r;cases r;exact .nil
 | k::ks,_,r=>by
  rw[bU]at r
  cases r with
  | cons h t=>exact .cons (EA h)<|yS t
meta abbrev KT (H:Hp):List (List Key×V)->List (List Key×ak×af)->Prop:=Paired λp q=>p.1=q.1/\H q.2.1=some (.tup<|p.1.map kV)/\RelV p.2 q.2.2
def KT.val{H:Hp}(r:KT H kvs xs)(k:List Key):uM (sL kvs k) ((atKey xs k).map (·.2)):=by
 induction r with
 | nil=>exact True.intro
 | @cons p q ps qs h t ih=>
  obtain⟨h1,_,h2⟩:=h;by_cases e:p.1=k
  ·have e':q.1=k:=h1.symm.trans e;have b:atKey (q::qs) k=some q.2:=by simp[atKey,cI,e']
   rw[tW e,b];exact h2
  ·have e':¬q.1=k:=λz=>e<|h1.trans z;have b:atKey (q::qs) k=atKey qs k:=by simp[atKey,cI,e']
   rw[t6 e,b];exact ih
def KT.repl{H:Hp}{kvs:List<|List Key×V}{xs:List<|List Key×ak×af}(r:KT H kvs xs)(k:List Key)(ry:RelV y u) :
  KT H (kvs.map λkv=>if kv.1=k then(kv.1,y)else kv) (xs.map<|putAt k u):=by
 induction r with
 | nil=>exact .nil
 | @cons p q ps qs h t ih=>
  rw[bU,bU];refine .cons ?_ ih;obtain⟨h1,h2,h3⟩:=h;unfold putAt;by_cases e:p.1=k
  ·rw[aK e,aK<|h1.symm.trans e];exact⟨h1,h2,ry⟩
  ·rw[aJ e,aJ λz=>e<|h1.trans z];exact⟨h1,h2,h3⟩
def KT.put{H:Hp}(r:KT H kvs xs)(k:List Key)(hb:H b=some (.tup<|k.map kV))(ry:RelV y u) :
  KT H (putK kvs k y) (storedH xs k b u):=by
 have e:(kvs.any λkv=>decide<|kv.1=k)=(atKey xs k).isSome:=by
  rw[xT,(r.val k).HQ,isSome_map]
 unfold putK storedH;rw[e];by_cases q:(atKey xs k).isSome=true
 ·rw[aK q,aK q];exact r.repl k ry
 ·rw[aJ q,aJ q];exact Paired.snoc r ⟨rfl,hb,ry⟩
def KT.keeps{H H':Hp}(r:KT H kvs xs)(ht:∀b ys,H b=some (.tup ys)->H' b=some (.tup ys)):KT H' kvs xs:=
 Paired.S0 r λ_ _ z=>⟨z.1,ht _ _ z.2.1,z.2.2⟩
section
variable {P:aj}{w:ah}{H:Hp}{h:aq}{a:ak}
def P7(ok:tu P w H h)(e:Rd H a u):jD P w H h a u:=e.ok ok
def GQ{kvs:List<|Key×V}(ok:tu P w H h)(e:Rd H a<|.dK kvs):kvs.length<=sizeLine/\(a == sysModules)=false/\∃vs,KV kvs vs/\h.DictOf (jo P w) a vs:=
 show jD P w H h a (.dK kvs)from P7 ok e
def Qn{kvs:List<|Key×V}(ok:tu P w H h)(e:H a=some (.dK kvs)):kvs.length<=sizeLine/\(a == sysModules)=false/\∃vs,KV kvs vs/\h.DictOf (jo P w) a vs:=GQ ok<|.inl e
def zE{ks:List Key}(ok:tu P w H h)(e:H a=some (.tup<|ks.map kV)):(tupleKind<|jo P w).is h ks a:=by
 obtain⟨_,its,r,o,h1,h2,_,n,h3⟩:=(show jD P w H h a (.tup<|ks.map kV)from ok a _ e);exact⟨o,its.toArray,n,h1,h2,h3,by simpa using yS r⟩
def F3{kvs:List<|List Key×V}(ok:tu P w H h)(e:Rd H a<|.dT kvs):kvs.length<=sizeLine/\(a == sysModules)=false /\
  ∃xs,KT H kvs xs/\h.DictOfH (tupleKind<|jo P w) a xs:=by
 obtain⟨z,y,xs,r,o,es,ep,h1,h2,h3,h4,h5⟩:=(show jD P w H h a (.dT kvs)from P7 ok e);refine⟨z,y,xs,r,o,es,ep,h1,h2,h3,h4,λx hx=>?_,h5⟩;have all:∀{l:List<|List Key×V} {m:List<|List Key×ak×af},KT H l m->∀x∈m,(tupleKind<|jo P w).is h x.1 x.2.1:=by
  intro l m q
  induction q with
  | nil=>intro x hx;exact nomatch hx
  | @cons p q ps qs hq t ih=>
   intro x hx
   rcases bJ.mp hx with e|hx
   ·subst e;exact zE ok (by rw[<- hq.1];exact hq.2.1)
   ·exact ih x hx
 exact all r x hx
def UM{kvs:List<|List Key×V}(ok:tu P w H h)(e:H a=some (.dT kvs)):kvs.length<=sizeLine/\(a == sysModules)=false /\
  ∃xs,KT H kvs xs/\h.DictOfH (tupleKind<|jo P w) a xs:=F3 ok<|.inl e
end
abbrev Ak (H:Hp)(a:ak)(y:V)(r:Option V):Prop:=
 (∃kvs k,Rd H a (.dK kvs)/\y=kV k/\r=sL kvs k)\/∃kvs k b,Rd H a (.dT kvs)/\y=.ref b/\H b=some (.tup<|k.map kV)/\r=sL kvs k
abbrev KS (H:Hp)(a:ak)(y v:V)(H':Hp):Prop:=
 (∃kvs k,H a=some (.dK kvs)/\y=kV k/\kvs.length<sizeLine/\H'=upd H a (.dK<|putK kvs k v)) \/
 ∃kvs k b,H a=some (.dT kvs)/\y=.ref b/\H b=some (.tup<|k.map kV)/\kvs.length<sizeLine/\H'=upd H a (.dT<|putK kvs k v)
theorem Ak.k{H:Hp}{a:ak}{k:Key}(e:H a=some (.dK kvs)):Ak H a (kV k) (sL kvs k):=.inl ⟨kvs,k,.inl e,rfl,rfl⟩
theorem KS.k{H:Hp}{a:ak}{kvs:List<|Key×V}{k:Key}{v:V}(e:H a=some (.dK kvs))(hl:kvs.length<sizeLine):KS H a (kV k) v (upd H a<|.dK<|putK kvs k v):=.inl ⟨kvs,k,e,rfl,hl,rfl⟩
section
variable {X:Cx}{pins:bn}{σ:St}{H:Hp}{s:aC}{a:ak}{y v:V}{u r:af}{o:Option V}{A:aA}{E:af->aC->Prop}
def Inv.big(I:Inv X pins σ H s):sysModules<s.heap.objs.size:=by
 have h:mainGlobals<s.heap.objs.size:=(I.mod.glob.keeps I.bk).lt;exact lt_trans ⋯ h
def HD{Q:af->aC->Prop}(hu:A.units+1<cLine)(I:Inv X pins σ H s)(g:Ak H a y<|some v)(ry:RelV y u)(h:∀w' s',Inv X pins σ H s'->RelV v w'->Q w' s') :
  wpAny (model X.prog X.w) A (getItem (.ref a) u) Q E s:=by
 rcases g with⟨kvs,k,e,ey,l⟩|⟨kvs,k,b,e,ey,eb,l⟩
 ·subst ey;obtain⟨z,hd,vs,rel,dd⟩:=GQ I.hok e;obtain⟨w',hw,rw'⟩:=uM.some_of (v:=v) (o:=valueAt vs k) (by rw[l];exact rel.val k);exact wpAny_getItem_of (EA ry) dd.mapOf hw (h w' _ (I.tok _) rw')
 ·subst ey
  cases(show u=Value.ref b from ry)
  obtain⟨z,hd,xs,rel,dd⟩:=F3 I.hok e;obtain⟨w',hw,rw'⟩:=uM.some_of (v:=v) (o:=(atKey xs k).map (·.2)) (by rw[l];exact rel.val k);obtain⟨p,hp,hp2⟩:=bu.mp hw;refine wpAny_getItem_heap (gX hu) (zE I.hok eb) dd hp ?_;rw[hp2];exact h w' _ (I.tok _) rw'
def Ax{h':aq}{t':Nat}{ob:HO}(I:Inv X pins σ H s)(mu:Uq<|H a)(hs:Heap.SameBut a s.heap h')(he:∃q,h'.get? a=some q)(new:jD X.prog X.w (upd H a ob) h' a ob) :
  Inv X pins σ (upd H a ob) { s with heap:=h',toks:=t' }:=
 I.write (x:=a) (e:=a) mu (.inl rfl) (λb q hb z=>(hs.2 b hb).trans z) he new
def Mv{P:aj}{w:ah}{H':Hp}{h':aq}{kvs:List<|Key×V}(z:kvs.length<=sizeLine)(hd:(a == sysModules)=false)(rel:KV kvs vs)(dd:h'.DictOf (jo P w) a vs) :
  jD P w H' h' a (.dK kvs):=⟨z,hd,vs,rel,dd⟩
def G4{H':Hp}{Q:Unit->aC->Prop}(hu:A.units+1<cLine)(I:Inv X pins σ H s)(g:KS H a y v H')(ry:RelV y u)(rv:RelV v r)(h:∀s',Inv X pins σ H' s'->Q Unit.unit s') :
  wpAny (model X.prog X.w) A (setItem (.ref a) u r) Q E s:=by
 rcases g with⟨kvs,k,e,ey,l,eH⟩|⟨kvs,k,b,e,ey,eb,l,eH⟩
 ·subst ey eH;obtain⟨z,hd,vs,rel,dd⟩:=Qn I.hok e;have hz:vs.length<=sizeLine:=by rw[<- rel.length];exact z
  have hl:(putK kvs k v).length<=sizeLine:=by have:=qI kvs k v;lia
  refine wpAny_setItem_pairs (hsz:=hz) (EA ry) dd λh' dd' hs=>h _ ?_;have he:∃q,h'.get? a=some q:=let⟨q,_,_,hq,_⟩:=dd';⟨q,hq⟩
  exact Ax I (by rw[e];exact True.intro) hs he<|Mv hl hd (rel.put k rv) dd'
 ·subst ey eH
  cases(show u=Value.ref b from ry)
  obtain⟨z,hd,xs,rel,dd⟩:=UM I.hok e;have hz:xs.length<=sizeLine:=by rw[<- g9 rel];exact z
  have hl:(putK kvs k v).length<=sizeLine:=by have:=qI kvs k v;lia
  refine wpAny_setItem_heap (hsz:=hz) (gX hu) (zE I.hok eb) dd λh' dd' hs=>h _ ?_;obtain⟨q,es,ep,hq,h2,h3,h4,_,h5⟩:=dd';refine Ax I (by rw[e];exact True.intro) hs ⟨q,hq⟩ ⟨hl,hd,_,(rel.put k eb rv).keeps λc ys ec=>?_,q,es,ep,hq,h2,h3,h4,h5⟩;rw[iS<|Vx ec e λz=>nomatch z];exact ec
end
def By{X:Cx}{H:Hp}{s:aC}{a:ak}(I:Inv X pins σ H s)(g:Ak H a y o):s.TypeIs (.ref a) "dict" := by
 rcases g with⟨kvs,k,e,_,_⟩|⟨kvs,k,b,e,_,_,_⟩
 ·obtain⟨_,_,vs,_,dd⟩:=GQ I.hok e;exact dd.typeIs
 ·obtain⟨_,_,xs,_,dd⟩:=F3 I.hok e;exact dd.typeIs
def Ly{P:aj}{w:ah}{H:Hp}(h:aq)(hb:sysModules<h.objs.size):jD P w H (h.push { cls:=.type "dict",data:=.dict #[]}) h.objs.size (.dK []):=
 ⟨cL _,cW.mpr<|dg<|bD hb,[],.nil,Heap.DictOf.new h⟩
abbrev Ss:TE:=λ_ H Q=>∀p,H p=none->Q (.ref p) (upd H p<|.dK [])
section
variable {X:Cx}{pos:Pos}
def JE:PE X (.Dict [] [] pos) Ss:=λpins s σ H Q I h=>
 wpAny_Dict_empty ⟨.ref s.heap.objs.size,_,I.laid (a:=s.heap.objs.size) (o:=.dK []) (t':=s.toks) (λ_ _ q=>aR _ q) (aQ _)<|Ly s.heap I.big,rfl,h _<|I.hok.fresh<|aQ _⟩
end
structure M1 (X:Cx)(o:aE)(m:Str)(apos:Pos)(e:aE)(cpos:Pos):Prop where
 base:attributeBase o m X.env (eval o X.env)=eval o X.env
 few:((backTo cpos<|starEach [e] X.env).all (λx=>!x.1) && (backToKw cpos<|keywordEach [] X.env).all (λx=>x.1.isSome)
  && decide (([e]:List aE).length+([]:List Keyword).length+(if ([]:List Keyword).isEmpty then 0 else 1)<30))=true
 line:(apos.endLine == cpos.line)=true
 trees:backTo cpos (starEach [e] X.env)=[(false,eval e X.env)]
structure M2 (X:Cx)(o:aE)(m:Str)(apos:Pos)(e f:aE)(cpos:Pos):Prop where
 base:attributeBase o m X.env (eval o X.env)=eval o X.env
 few:((backTo cpos<|starEach [e,f] X.env).all (λx=>!x.1) && (backToKw cpos<|keywordEach [] X.env).all (λx=>x.1.isSome)
  && decide (([e,f]:List aE).length+([]:List Keyword).length+(if ([]:List Keyword).isEmpty then 0 else 1)<30))=true
 line:(apos.endLine == cpos.line)=true
 trees:backTo cpos (starEach [e,f] X.env)=[(false,eval e X.env),(false,eval f X.env)]
section
variable {X:Cx}{pins:bn}{σ:St}{H:Hp}{s:aC}{a:ak}{y d:V}{u r:af}{o:Option V}{A:aA}{E:af->aC->Prop}
def SW{Q:af->aC->Prop}(hu:A.units+1<cLine)(I:Inv X pins σ H s)(g:Ak H a y o)(ry:RelV y u)(rd:RelV d r)(h:∀w' s',Inv X pins σ H s'->RelV (o.getD d) w'->Q w' s') :
  wpAny (model X.prog X.w) A (call (.builtin "dict.get") [.ref a,u,r]) Q E s:=by
 rcases g with⟨kvs,k,e,ey,l⟩|⟨kvs,k,b,e,ey,eb,l⟩
 ·subst ey;obtain⟨z,hd,vs,rel,dd⟩:=GQ I.hok e;refine call_meetsIn fh dd.typeIs PySem.F.entry_dict_get (PySem.F.args_dict_get_3 _ _ _) (meets_dict_get_default (jo X.prog X.w) a (EA ry) hd r) ⟨_,dd.mapOf,h _ _ (I.tok _) ?_⟩;rw[l];exact(rel.val k).getD rd
 ·subst ey
  cases(show u=Value.ref b from ry)
  obtain⟨z,hd,xs,rel,dd⟩:=F3 I.hok e;refine call_meetsIn fh dd.typeIs PySem.F.entry_dict_get (PySem.F.args_dict_get_3 _ _ _) (meetsH_dict_get_default (tupleKind<|jo X.prog X.w) a b hd r) ⟨gX hu,k,xs,zE I.hok eb,dd,h _ _ (I.tok _) ?_⟩;rw[l];exact(rel.val k).getD rd
end
meta abbrev kh:=ae×ae
abbrev pT (x:ae):Int:=reduceHash<|Builtin.Tuple.tupleHashOf<|x.map hashInt
abbrev D3 (k:kh):Int:=reduceHash<|Builtin.Tuple.tupleHashOf [pT k.1,pT k.2]
abbrev Yk (x:(kh×ak×af)):DictEntry:=⟨D3 x.1,.ref x.2.1,x.2.2⟩
abbrev sM (a:ak)(xs:List<|kh×ak×af)(h:aq):Prop:=(a == sysModules)=false/\xs.length<=sizeLine/\∃o es ep,h.get? a=some o/\o.ExactDict/\o.data=.dict es ep/\es.toList=xs.map Yk/\(xs.map (·.1)).Nodup
abbrev pU (H:Hp)(b:ak)(k:kh):Prop:=∃r1 r2,H b=some (.tup [.ref r1,.ref r2])/\H r1=some (.tup<|k.1.map V.int)/\H r2=some (.tup<|k.2.map V.int)
section
variable {P:aj}{w:ah}{A:aA}{E:af->aC->Prop}{s:aC}
meta abbrev TK (h:aq)(x:ae)(a:ak):Prop:=∃o items n,h.get? a=some o/\o.cls=.type "tuple" /\ o.data=.seq items n/\IntsAre items.toList x
theorem wV{P:aj}{w:ah}:∀{x:ae}{vs:ar},IntsAre vs x->ItemsAre (intKind P w) x vs
 | _,_,.nil=>.nil
 | _,_,.cons n t h=>.cons (intKind_is _ _ _ _)<|wV h
def sO{x:ae}{a:ak}:TK h x a->IsTupleKey (intKind P w) h x a:=λ⟨o,its,n,h1,h2,h3,h4⟩=>⟨o,its,n,h1,h2,h3,wV h4⟩
theorem BX:∀{x y:ae}{vs:ar},IntsAre vs x->IntsAre vs y->x=y
 | _,_,_,.nil,.nil=>rfl
 | _,_,_,.cons n t h,.cons _ _ h'=>by rw[BX h h']
abbrev rX (h:aq)(k:kh)(a:ak):Prop:=∃o n a1 a2,h.get? a=some o/\o.cls=.type "tuple" /\ o.data=.seq #[.ref a1,.ref a2] n/\TK h k.1 a1/\TK h k.2 a2
def rX.ty{k:kh}{a:ak}(x:rX s.heap k a):s.TypeIs (.ref a) "tuple" := let⟨o,_,_,_,ho,hc,_⟩:=x;⟨o,ho,hc⟩
def TK.inj{a:ak}{x:ae}(hx:TK h x a)(hy:TK h y a):x=y:=by
 obtain⟨o,items,n,ho,_,hd,hi⟩:=hx;obtain⟨o',items',n',ho',_,hd',hi'⟩:=hy;obtain rfl:o=o':=aU<|ho.symm.trans ho';rw[hd]at hd'
 injection hd' with h1 _
 subst h1;exact BX hi hi'
def rX.inj{a:ak}{x:kh}(hx:rX h x a)(hy:rX h y a):x=y:=by
 obtain⟨o,n,a1,a2,ho,_,hd,h1,h2⟩:=hx;obtain⟨o',n',b1,b2,ho',_,hd',h1',h2'⟩:=hy;obtain rfl:o=o':=aU<|ho.symm.trans ho';rw[hd]at hd'
 injection hd' with e _
 have e:=dm Array.toList e
 injection e with e1 e2
 injection e2 with e2 _
 injection e1 with e1
 injection e2 with e2
 subst e1 e2;exact Prod.ext (h1.inj h1')<|h2.inj h2'
def BU{h:aq}{x:ae}{a d:ak}{o:Obj}{es ep}(k:TK h x a)(ho:h.get? d=some o)(hd:o.data=.dict es ep)(hs:Heap.SameBut d h h'):TK h' x a:=by
 obtain⟨o',items,n,ho',hc,hd',hi⟩:=k;have hne:a≠d:=by
  rintro rfl;obtain rfl:o'=o:=aU<|ho'.symm.trans ho;rw[hd]at hd';exact nomatch hd'
 exact⟨o',items,n,(hs.2 a hne).trans ho',hc,hd',hi⟩
def rX.keeps{h:aq}{k:kh}{a d:ak}{o:Obj}{es ep}(x:rX h k a)(ho:h.get? d=some o)(hd:o.data=.dict es ep)(hs:Heap.SameBut d h h'):rX h' k a:=by
 obtain⟨o',n,a1,a2,ho',hc,hd',h1,h2⟩:=x;have hne:a≠d:=by
  rintro rfl;obtain rfl:o'=o:=aU<|ho'.symm.trans ho;rw[hd]at hd';exact nomatch hd'
 exact⟨o',n,a1,a2,(hs.2 a hne).trans ho',hc,hd',BU h1 ho hd hs,BU h2 ho hd hs⟩
def HX{k:kh}{a:ak}{Q:Int->aC->Prop}(hu:A.units+8<cLine)(hk:rX s.heap k a)(h:Q (D3 k) { s with toks:=s.toks+(k.1.length+1+(k.2.length+1)+1)}) :
  wpAny (model P w) A (pyHash<|.ref a) Q E s:=by
 have hT:=hk.ty;obtain⟨o,n,a1,a2,ho,_,hd,h1,h2⟩:=hk;unfold pyHash
 first|unfold pyHashByItsType|skip
 first|refine aH (wpAny_cRoomFor_or (.inr ()) ?_)|skip
 refine aH<|eW hT f7.lookup ?_;show wpAny _ _ (if (some (Value.builtin "tuple.__hash__") == some Value.none)=true then _ else _) Q E s;rw[aJ<|by rw[beq_builtin_none];exact bH];refine aH<|eW hT f7.lookup ?_;show wpAny _ _ (callSpecialIfBoundUnlessNone? (.ref a) "__hash__" _ >>= _) Q E s;refine aH<|wpAny_callSpecialIfBoundUnlessNone?_slot hT f7<|dS f7 hT F.entry_tuple_hash ?_<|F.args_tuple_hash_1 _;show wpAny _ _ (Builtin.Tuple.tupleItemsOf (.ref a) >>= _) _ _ s;refine aH<|gY ho hd ?_;refine aH ?_;rw[<- gZ];refine gv _
  (λrest (b:Array Int) s'=>(rest=[.ref a1,.ref a2]/\b.toList=[]/\s'=s)\/(rest=[.ref a2]/\b.toList=[pT k.1]/\s'={ s with toks:=s.toks+(k.1.length+1)})\/(rest=[]/\b.toList=[pT k.1,pT k.2]/\s'={ s with toks:=s.toks+(k.1.length+1)+(k.2.length+1)}))
  _ ?_ ?_ _ _ (.inl ⟨rfl,rfl,rfl⟩)
 ·rintro x rest b s' (⟨e,hb,rfl⟩|⟨e,hb,rfl⟩|⟨e,_,_⟩)
  ·cases e
   refine aH (wpAny_pyHash_tuple (knd:=intKind P w) (ks:=k.1) (by simp;lia) (sO h1) ?_)
   first
    | exact aO (.inr<|.inl ⟨rfl,by rw[fj,hb];rfl,rfl⟩)
    | exact aH<|aO<|aO<|.inr<|.inl ⟨rfl,by rw[fj,hb];rfl,rfl⟩
  ·cases e
   refine aH (wpAny_pyHash_tuple (knd:=intKind P w) (ks:=k.2) (by simp;lia) (sO h2) ?_)
   first
    | exact aO (.inr<|.inr ⟨rfl,by rw[fj,hb];rfl,rfl⟩)
    | exact aH<|aO<|aO<|.inr<|.inr ⟨rfl,by rw[fj,hb];rfl,rfl⟩
  ·cases e
 ·rintro b s' (⟨e,_,_⟩|⟨e,_,_⟩|⟨_,hb,rfl⟩)
  ·cases e
  ·cases e
  ·show wpAny _ _ (retInt<|Builtin.Tuple.tupleHashOf b.toList) _ _ _;rw[hb];refine wpAny_ret_mkInt ?_;show wpAny _ _ (if (decide (-(2:Int) ^ 63<=Builtin.Tuple.tupleHashOf [pT k.1,pT k.2]) && decide (Builtin.Tuple.tupleHashOf [pT k.1,pT k.2]<2 ^ 63))=true then _ else _) Q E _;unfold D3 reduceHash at h;by_cases hr:(decide (-(2:Int) ^ 63<=Builtin.Tuple.tupleHashOf [pT k.1,pT k.2]) && decide (Builtin.Tuple.tupleHashOf [pT k.1,pT k.2]<2 ^ 63))=true
   ·rw[aK hr];rw[aK hr]at h;exact aO (by simpa[e_]using h)
   ·rw[aJ hr];rw[aJ hr]at h;exact aH<|dX<|aO<|by simpa[e_]using h
def z0{x:kh}{a:ak}{R:Fin->aC->Prop}(hu:A.units+8<cLine)(hx:rX s.heap x a)(hy:rX s.heap y b)(h:R (.done<|.ret<|.bool<|decide<|x=y) s) :
  wpAny (model P w) A (Builtin.«tuple.__eq__» ⟨[.ref a,.ref b],[]⟩) R E s:=by
 have hTb:=hy.ty;obtain⟨oa,na,a1,a2,hoa,_,hda,h1,h2⟩:=hx;obtain⟨ob,nb,b1,b2,hob,_,hdb,h1',h2'⟩:=hy;show wpAny _ _ (isInstance (.ref b) (.type "tuple") >>= _) _ _ s;refine aH<|wpAny_isInstance hTb gh ?_;dsimp[b_,aZ,bN];refine aH<|gY hoa hda ?_;refine aH<|gY hob hdb ?_;refine aH ?_;refine gv _
  (λrest r s'=>r.1=none/\s'=s/\((rest=[(.ref a1,.ref b1),(.ref a2,.ref b2)])\/(rest=[(.ref a2,.ref b2)]/\x.1=y.1)\/(rest=[]/\x=y)))
  _ ?_ ?_ _ _ ⟨rfl,rfl,.inl rfl⟩
 ·rintro⟨u,v⟩ rest r s' ⟨hr,rfl,e|⟨e,hq⟩|⟨e,_⟩⟩
  ·cases e
   refine aH<|wpAny_eqBool_tuple (knd:=intKind P w) (x:=x.1) (y:=y.1) () (sO h1) (sO h1') ?_;by_cases hk:x.1=y.1
   ·rw[aT hk];dsimp[b_,aZ,bN];exact aO ⟨rfl,rfl,.inr<|.inl ⟨trivial,hk⟩⟩
   ·rw[aS hk];dsimp[dJ,cE];rw[aS λz=>hk<|by rw[z]]at h;exact aH<|aO<|aO<|aO h
  ·cases e
   refine aH<|wpAny_eqBool_tuple (knd:=intKind P w) (x:=x.2) (y:=y.2) () (sO h2) (sO h2') ?_;by_cases hk:x.2=y.2
   ·rw[aT hk];dsimp[b_,aZ,bN];exact aO ⟨rfl,rfl,.inr<|.inr ⟨trivial,Prod.ext hq hk⟩⟩
   ·rw[aS hk];dsimp[dJ,cE];rw[aS λz=>hk<|by rw[z]]at h;exact aH<|aO<|aO<|aO h
  ·cases e
 ·rintro⟨r1,r2⟩ s' ⟨hr,rfl,e|⟨e,_⟩|⟨_,e⟩⟩
  ·cases e
  ·cases e
  ·simp only at hr;subst hr;refine aO ?_;rw[aT e]at h;exact h
def NN{x:kh}{a:ak}{Q:Bool->aC->Prop}(hu:A.units+16<cLine)(hx:rX s.heap x a)(hy:rX s.heap y b)(h:Q (decide<|x=y) s):wpAny (model P w) A (eqBool (.ref a)<|.ref b) Q E s:=by
 unfold eqBool
 try with_reducible refine dh ?_
 show wpAny _ _ (if (Value.ref a == Value.ref b)=true then _ else _) Q E s;by_cases hab:(Value.ref a == Value.ref b)=true
 ·rw[aK hab];have e:a=b:=by have:=eq_of_beq hab;injection this
  subst e;obtain rfl:=hx.inj hy;exact aH<|dX<|aO<|by simpa using h
 ·rw[aJ hab];exact aH (wpAny_richCompare_same_room (op:=.Eq) hx.ty hy.ty gK
   (dS gK hx.ty F.entry_tuple_eq (z0 (by simp;lia) hx hy ⟨_,rfl,(λe=>nomatch e),cY h⟩)<|F.args_tuple_eq_2 _ _) ())
def Ks{n:Nat}{x:ae}{a:ak}{Q:Bool->aC->Prop}(hk:TK s.heap x a)(h:Q true s):wpAny (model P w) A (eqIsQuiet (n+1)<|.ref a) Q E s:=by
 have hk:=sO (P:=P) (w:=w) hk;have hT:=hk.typeIs;obtain⟨o,items,m,ho,_,hd,hi⟩:=hk;unfold eqIsQuiet;refine aH<|eW hT gK.lookup ?_;show wpAny _ _ (isInstance (.ref a) (.type "tuple") >>= _) _ _ s;refine aH<|wpAny_isInstance hT gh ?_;dsimp[b_,aZ,bN];refine aH<|f6 ho hd ?_;refine aH ?_;show wpAny _ _ (forIn items _ _) _ _ s;rw[<- gZ];refine gv _ (λrest r s'=>r.1=none/\s'=s/\∀v∈rest,carriedByValue v=true) _ ?_ ?_ _ _ ⟨rfl,rfl,hi.byValue⟩
 ·rintro v rest r s' ⟨hr,rfl,hall⟩;rw[eqIsQuiet_byValue _<|hall v aN];refine aH<|aO ?_;dsimp[b_,aZ,bN];exact aO ⟨rfl,rfl,λu hu'=>hall u<|aP _ hu'⟩
 ·rintro⟨r1,r2⟩ s' ⟨hr,rfl,_⟩;simp only at hr;subst hr;exact aO h
def Dw{k:kh}{a:ak}{Q:Bool->aC->Prop}(hk:rX s.heap k a)(h:Q true s):wpAny (model P w) A (eqIsQuiet 8<|.ref a) Q E s:=by
 have hT:=hk.ty;obtain⟨o,m,a1,a2,ho,_,hd,h1,h2⟩:=hk;unfold eqIsQuiet;refine aH<|eW hT gK.lookup ?_;show wpAny _ _ (isInstance (.ref a) (.type "tuple") >>= _) _ _ s;refine aH<|wpAny_isInstance hT gh ?_;dsimp[b_,aZ,bN];refine aH<|f6 ho hd ?_;refine aH ?_;show wpAny _ _ (forIn (#[Value.ref a1,.ref a2]:Array af) _ _) _ _ s;rw[<- gZ];refine gv _ (λrest r s'=>r.1=none/\s'=s/\∀v∈rest,∃c x,v=Value.ref c/\TK s.heap x c) _ ?_ ?_ _ _ ⟨rfl,rfl,λv hv=>by
  rcases bJ.mp hv with e|hv
  ·exact⟨a1,k.1,e,h1⟩
  ·exact⟨a2,k.2,by simpa using hv,h2⟩⟩
 ·rintro v rest r s' ⟨hr,rfl,hall⟩;obtain⟨c,x,rfl,hx⟩:=hall v aN;refine aH<|Ks hx ?_;dsimp[b_,aZ,bN];exact aO ⟨rfl,rfl,λu hu'=>hall u<|aP _ hu'⟩
 ·rintro⟨r1,r2⟩ s' ⟨hr,rfl,_⟩;simp only at hr;subst hr;exact aO h
end
abbrev B0 (P:aj)(w:ah):HeapKind P w kh where
 is:=rX
 hash:=D3
 draws:=λk=>k.1.length+1+(k.2.length+1)+1
 room:=λA=>A.units+16<cLine
 inj:=λhx hy=>hx.inj hy
 keeps:=λx ho hd hs=>x.keeps ho hd hs
 pyHash:=λhu hk h=>HX () hk h
 eqBool:=λhu hx hy h=>NN hu hx hy h
 quiet:=λhk h=>Dw hk h
section
variable {X:Cx}
def OQ(hu:X.A.units+1<cLine):NW X (λx y H Q=>∃a v,x=.ref a/\Ak H a y (some v)/\Q v H):=by
 ksr_p;obtain⟨a,z,rfl,g,q⟩:=h
 cases rx
 have hT:=By I g;unfold subscriptTail;refine aH ?_;rw[getitemInPython_of_ne hT.not_modules];refine aH<|eW hT PySem.F.slot_dict_getitem.lookup ?_;have fin:wpAny (model X.prog X.w) X.A (subscripted slice false (.ref a) u) (λr s₃=>wpAny (model X.prog X.w) X.A (letTemporaryGo value (.ref a) r >>= λ_=>pure r) (EP X pins σ Q) X.xe s₃) X.xe s:=by
  rw[hs];exact wpAny_operating<|HD hu I g ry λw' s3 I3 rw'=>aH<|wpAny_letTemporaryGo<|aO ⟨z,H,I3,rw',q⟩
 first
  | exact aO (aH fin)
  | exact aH (aO<|aH fin)
  | exact aH fin
def set_dict(hu:X.A.units+1<cLine):Bh X (λo i v H Q=>∃a H',o=.ref a/\KS H a i v H'/\Q H'):=by
 intro pins s σ H o i v ov iv u Q I ro ri rv h;obtain⟨a,H',rfl,g,q⟩:=h
 cases ro
 exact G4 hu I g ri rv λs4 I4=>⟨H',I4,q⟩
end
abbrev C0 (e:ak)(h:aq):Prop:=∃o vs,h.get? e=some o/\o.data=.fields vs/\vs[2]?=some .none/\o.dict=none
structure Fly (l:List Env)(g:aq)(pn:bn)(H:Hp)(e:ak)(cls:af)(h:aq):Prop where
 ex:∃(B:aq) (a0:af),Heap.FlyingW B l e cls a0 h/\(∀a u,H a=some u->∃o,B.get? a=some o)/\(∀b o,g.get? b=some o->b∉frs l->∃o',B.get? b=some o')/\(∀p∈pn,∃o',B.get? p.1=some o')/\C0 e h
structure Made (X:Cx)(H:Hp)(e:ak)(cls:af)(g:aq)(h:aq):Prop where
 ex:∃(g':aq) (vs:ar),Heap.MadeExcOf g' h e cls vs/\g'.FunFrames X.base X.stack/\(∀a u,H a=some u->∃o,g'.get? a=some o)/\(∀b o,g.get? b=some o->∃o',g'.get? b=some o')/\(∀p∈X.pn,∃o',g'.get? p.1=some o')
abbrev QS (X:Cx)(H:Hp)(e:ak)(cls:af)(s':aC):Prop:=Made X H e cls X.s₀.heap s'.heap\/Fly X.stack X.s₀.heap X.pn H e cls s'.heap
section
abbrev EX (X:Cx):XK:=λcls _ H'=>X.ex=[]/\∀pins σ' s' e,Inv X pins σ' H' s'->QS X H' e cls s'->X.xe (.ref e) s'
end
inductive FParts (X:Cx):List aE->List (Str ⊕ TE)->Prop
 | nil:FParts X [] []
 | txt {x:Str} {j pos} {es:List aE} {ps:List<|Str ⊕ TE} (h:FParts X es ps):FParts X (.Constant (.str x) j pos::es) (.inl x::ps)
 | val {e:aE} {pos:Pos} {t:TE} {es:List aE} {ps:List<|Str ⊕ TE} (he:PE X e t) (h:FParts X es ps):FParts X (.FormattedValue e (-1) none pos::es) (.inr t::ps)
abbrev xu:HO:=.ext λ_=>True
structure XO (C:ak)(o:Obj):Prop where
 cls:o.cls=.ref C
 dict:o.dict=none
 ctx:∃vs,o.data=.fields vs/\vs[2]?=some .none
structure Fr0 (X:Cx)(e:ak):Prop where
 no:∀o,X.s₀.heap.get? e≠some o
 tup:∀xs,X.H₀ e≠some (.tup xs)
 frz:∀o u,X.H₀ e≠some (.frz o u)
 tbl:∀ps,X.H₀ e≠some (.tbl ps)
abbrev mroIn (K:au)(C:ak):Option (ar):=match K.lookup C with
 | some ⟨.type "type",_,.cls cd,sl⟩=>(match cd.mro,sl.toList with
  | .ref C'::bm,[_,_,_,_,some<|.builtin _,_]=>if C'=C/\cd.hasDel=false then some bm else none
  | _,_=>none)
 | _=>none
structure ClsAt (h:aq)(C:ak)(bm:ar):Prop where
 ex:∃nm q N bs hdct sn sub ab col dd k0 k1 k2 k3 k5 newId,h.get? C=some (excClassObj nm q C N bs bm hdct sn sub ab col dd k0 k1 k2 k3 k5 newId)
open PySem.W in
structure XCls (K:au)(C:ak):Prop where
 ga:findIn K (.ref C) "__getattribute__" = some (some<|.builtin "BaseException.__getattribute__")
 gt:findIn K (.ref C) "__getattr__" = some none
 fc:findObj K C none "__class__" = some (.bind (.builtin "getset_descriptor.__get__")<|.builtin "object.__class__")
 ob:PySem.W.mroIn K C (.type "object")=some true
 bs:subIn K (.ref C) (.type "BaseException")=some true
abbrev SE (A:aA):aA:={ A with handled:=none }
abbrev Uy (k:Nat)(A:aA):Prop:=Room k<|SE A
structure Hnd (A:aA)(H:Hp)(e:ak)(oe:Obj)(C:ak):Prop where
 hh:A.handled=some (.ref e)
 h0:H e=some (.frz oe xu)
 xo:XO C oe
structure FnOkH (P:aj)(w:ah)(K:au)(mg:Str->bb)(base:aq)(k:Nat)(f:ak)(fd:FuncData)(ps:ap)(sp:Sp):Prop where
 len:∀vs H Q E,sp vs H Q E->vs.length=ps.length
 run:∀(A:aA) (outer:List Env) (s:aC) (H:Hp) (args:Args) (us:ar) (vs:List V) (Q:VK) (e:ak) (oe:Obj) (C:ak),Uy k A->Hnd A H e oe C->Env0 P w K mg base A outer s H->BindsTo s fd args (ps.zip us)->Vals vs us->sp vs H Q E0 ->
  codeAny (model P w) A (.call (.ref f) args) (CR nX outer P w H s Q E0) s
def yK(a b:Int):Builtin.Range.rangeSize a b (-1)=if a>b then a-b else 0:=by
 unfold Builtin.Range.rangeSize;dsimp[show ¬((-1:Int)>0)by decide,bN,Int.neg_neg,ediv_one];split<;>lia
def small_down{a b:Int}(ha:-(2 ^ 62)<=a)(ha':a<2 ^ 62)(hb:-(2 ^ 62)<=b)(hb':b<2 ^ 62):Builtin.Range.small a b (-1)=true:=by
 unfold Builtin.Range.small;rw[yK];dsimp[Builtin.Range.rangeFitsLong,dB,Bool.or_eq_true,fm,beq_iff_eq,show ¬((-1:Int)>0)by decide,bN];split<;>lia
end L2
namespace Sx
open PySem PyProof.Rows
structure Ord where
 lt:Nat->Nat->Bool
 Ot:∀i,lt i i=false
 tr:∀i j k,lt i j=true->lt j k=true->lt i k=true
 neg:∀i j k,lt i k=true->lt i j=true\/lt j k=true
abbrev P (o:Ord)(i j:Nat):Prop:=o.lt i j=true\/(o.lt j i=false/\i<j)
def Ord.Wx(o:Ord)(h:o.lt i j=true):o.lt j i=false:=by
 cases e:o.lt j i with
 | false=>rfl
 | true=>have:=o.tr _ _ _ h e;rw[o.Ot]at this;cases this
def P.Ot(h:P o i i):False:=by
 rcases h with h|⟨_,h⟩
 ·rw[o.Ot]at h;cases h
 ·lia
def P.trans{k:Nat}(a:P o i j)(b:P o j k):P o i k:=by
 rcases a with a|⟨a,a'⟩
 ·rcases b with b|⟨b,b'⟩
  ·exact .inl (o.tr _ _ _ a b)
  ·rcases o.neg i k j a with z|z
   ·exact .inl z
   ·rw[b]at z;cases z
 ·rcases b with b|⟨b,b'⟩
  ·rcases o.neg j i k b with z|z
   ·rw[a]at z;cases z
   ·exact .inl z
  ·refine .inr ⟨?_,()⟩
   cases e:o.lt k i with
   | false=>rfl
   | true=>
    rcases o.neg k j i e with z|z
    ·rw[b]at z;cases z
    ·rw[a]at z;cases z
def P.of_lt{o:Ord}(h:o.lt i j=true):P o i j:=.inl h
def P.vd{o:Ord}(h:o.lt j i=false)(hij:i<j):P o i j:=.inr ⟨h,hij⟩
def P.lt{o:Ord}(h:P o i j)(hij:j<i):o.lt i j=true:=by
 rcases h with h|⟨_,h⟩
 ·exact h
 ·lia
def P.ge{o:Ord}(h:P o i j):o.lt j i=false:=by
 rcases h with h|⟨h,_⟩
 ·exact o.Wx h
 ·exact h
abbrev So (o:Ord)(g:Nat->Nat)(a b:Nat):Prop:=∀i j,a<=i->i<j->j<b->P o (g i) (g j)
abbrev Cl (g:Nat->Nat)(a b:Nat):Prop:=∀i,a<=i->i<b->a<=g i/\g i<b
abbrev rev (g:Nat->Nat)(i j:Nat):Nat->Nat:=λk=>if i<=k/\k<j then g (i+j-1-k)else g k
abbrev mv (g:Nat->Nat)(src dst:Nat):Nat->Nat:=λk=>if k=dst then g src else if dst<k/\k<=src then g (k-1)else g k
def xx{g:Nat->Nat}{k:Nat}(h:i<=k)(h2:k<j):rev g i j k=g (i+j-1-k):=aK ⟨h,h2⟩
def ni{g:Nat->Nat}{k:Nat}(h:k<i\/j<=k):rev g i j k=g k:=aJ ()
def LR{g:Nat->Nat}{d:Nat}:mv g s d d=g s:=aK rfl
def Bc{g:Nat->Nat}{d k:Nat}(h:d<k)(h2:k<=s):mv g s d k=g (k-1):=by
 unfold mv;rw[aJ (),aK ⟨h,h2⟩]
def zp{g:Nat->Nat}{d k:Nat}(hd:d<=s)(h:k<d\/s<k):mv g s d k=g k:=by
 unfold mv;rw[aJ (),aJ ()]
section
variable {prog:aj}{w:ah}{A:aA}{E:af->aC->Prop}{s:aC}{o:Ord}{N:Nat}{f:Nat->Keyed}{kd:SortKind}{g:Nat->Nat}{p:Array (Nat×Nat×Nat)}{st:SortSt}
abbrev yN (prog:aj)(w:ah)(A:aA)(s:aC)(o:Ord)(N:Nat)(f:Nat->Keyed)(kd:SortKind):Prop:=
 ∀i j,i<N->j<N->∀(E':af->aC->Prop) (Q:Bool->aC->Prop),Q (o.lt i j) s->wpAny (model prog w) A (keyLt' kd (f i).1 (f j).1) Q E' s
structure Sg (N:Nat)(f:Nat->Keyed)(kd:SortKind)(g:Nat->Nat)(p:Array (Nat×Nat×Nat))(st:SortSt):Prop where
 size:(arrOf st).size=N
 get:∀i,i<N->(arrOf st)[i]?=some (f<|g i)
 lt:∀i,i<N->g i<N
 kind:kindOf st=kd
 failed:failedOf st=none
 pend:pendingOf st=p
def w6(C:yN prog w A s o N f kd)(hk:kindOf st=kd)(hi:i<N)(hj:j<N){Q:bi->SortSt->Prop}(q:Q (some<|o.lt i j) st):wpS (model prog w) A E s (lt' (f i)<|f j) Q st:=by
 rw[lt'_eq];refine aV<|f9 ?_;rw[hk];refine aV<|wpS_lift<|wpAny_attempt<|C i j hi hj _ _ ⟨rfl,?_⟩;exact bg q
def jd{xs:Array Keyed}{i:Nat}{x:Keyed}(e:xs[i]?=some x){Q:Keyed->SortSt->Prop}(q:Q x st):wpS (model prog w) A E s (elem' xs i) Q st:=by
 rw[elem'_eq,e];exact bg q
def t9(C:yN prog w A s o N f kd)(h:Sg N f kd g p st)(hi:i<N)(hj:j<N){Q:bi->SortSt->Prop}(q:Q (some<|o.lt (g i)<|g j) st):wpS (model prog w) A E s (ltAt' i j) Q st:=by
 rw[ltAt'_eq];refine aV (f9 ?_)
 skip
 exact aV<|jd (h.get i hi)<|aV<|jd (h.get j hj)<|w6 C h.kind (h.lt i hi) (h.lt j hj) q
def Sg.arr(h:Sg N f kd g p st){xs:Array Keyed}{g':Nat->Nat}(hs:xs.size=N)(hg:∀i,i<N->xs[i]?=some (f<|g' i))(hl:∀i,i<N->g' i<N):Sg N f kd g' p (setArr st xs):=⟨hs,hg,hl,h.kind,h.failed,h.pend⟩
def vC(h:Sg N f kd g p st)(hj:j<=N){Q:Unit->SortSt->Prop}(q:∀st',Sg N f kd (rev g i j) p st'->Q Unit.unit st'):wpS (model prog w) A E s (reverseSlice' i j) Q st:=by
 rw[reverseSlice'_eq];refine eT (q _<|h.arr (by rw[mirror_size];exact h.size) (λk hk=>?_) λk hk=>?_)
 ·rw[getElem?_mirror_all<|by rw[h.size];exact hj];unfold rev;by_cases c:i<=k/\k<j
  ·rw[aK c,aK c];exact h.get _ (by omega)
  ·rw[aJ c,aJ c];exact h.get _ hk
 ·unfold rev;by_cases c:i<=k/\k<j
  ·rw[aK c];exact h.lt _ (by omega)
  ·rw[aJ c];exact h.lt _ hk
def Q8(h:Sg N f kd g p st){a:Nat}(ha:a<N)(hb:b<=a){Q:Unit->SortSt->Prop}(q:∀st',Sg N f kd (mv g a b) p st'->Q Unit.unit st'):wpS (model prog w) A E s (moveDown' a b) Q st:=by
 rw[moveDown'_eq];refine eT (q _<|h.arr (by rw[bubble_size];exact h.size) (λk hk=>?_) λk hk=>?_)
 ·rw[getElem?_bubble (by rw[h.size];exact ha) _ (),show a-(a-b)=b by lia];unfold mv;by_cases c:k=b
  ·rw[aK c,aK c];exact h.get _ ha
  ·rw[aJ c,aJ c];by_cases c2:b<k/\k<=a
   ·rw[aK c2,aK c2];exact h.get _ ()
   ·rw[aJ c2,aJ c2];exact h.get _ hk
 ·unfold mv;by_cases c:k=b
  ·rw[aK c];exact h.lt _ ha
  ·rw[aJ c];by_cases c2:b<k/\k<=a
   ·rw[aK c2];exact h.lt _ ()
   ·rw[aJ c2];exact h.lt _ hk
structure Rn (o:Ord)(g0 g:Nat->Nat)(a b:Nat):Prop where
 out:∀i,i<a\/b<=i->g i=g0 i
 cl:Cl g a b
 so:So o g a b
def TQ{g0:Nat->Nat}{lo k:Nat}(R:Rn o g0 g lo<|lo+k)(hk:g (lo+k)=lo+k)(hl:l<=k)(h1:∀i,i<l->P o (g<|lo+i) (lo+k))(h2:∀i,l<=i->i<k->P o (lo+k) (g<|lo+i)):Rn o g0 (mv g (lo+k)<|lo+l) lo (lo+(k+1)) where
 out i hi:=by rw[zp () ()];exact R.out i ()
 cl i a b:=by
  by_cases c:i=lo+l
  ·subst c;rw[LR,hk];lia
  ·by_cases c2:lo+l<i
   ·rw[Bc c2 ()];have:=R.cl (i-1) () ()
    lia
   ·rw[zp () ()];have:=R.cl i () ()
    lia
 so i j a b d:=by
  by_cases c:i=lo+l
  ·subst c;rw[LR,Bc b (),hk];have:=h2 (j-1-lo) () ()
   rwa [show lo+(j-1-lo)=j-1 by lia]at this
  ·by_cases c2:lo+l<i
   ·rw[Bc c2 (),Bc () ()];exact R.so _ _ () () ()
   ·rw[zp (k:=i) () ()];by_cases c3:j=lo+l
    ·subst c3;rw[LR,hk];have:=h1 (i-lo) ()
     rwa [show lo+(i-lo)=i by lia]at this
    ·by_cases c4:lo+l<j
     ·rw[Bc c4 ()];exact R.so _ _ () () ()
     ·rw[zp () ()];exact R.so _ _ () () ()
def Td(C:yN prog w A s o N f kd){g0:Nat->Nat}{lo n ok:Nat}(h:Sg N f kd g p st)(hn:lo+n<=N)(h1:1<=ok)(hok:ok<=n)(R:Rn o g0 g lo<|lo+ok)(hid:∀i,lo+ok<=i->i<lo+n->g0 i=i)
  {Q:Bool->SortSt->Prop} (q:∀g' st',Sg N f kd g' p st'->Rn o g0 g' lo (lo+n)->Q true st'):wpS (model prog w) A E s (binarySort' lo n ok) Q st:=by
 rw[binarySort'_eq,show max ok 1=ok by lia];refine aV (dP (cG (I:=λk c st'=>c=(none,Unit.unit)/\∃g',Sg N f kd g' p st'/\Rn o g0 g' lo (lo+min k n))
  (Q:=λc st'=>c=(none,Unit.unit)/\∃g',Sg N f kd g' p st'/\Rn o g0 g' lo (lo+n)) ?step ?fin ?init) ?post)
 case post=>
  rintro c st' ⟨rfl,g',h',R'⟩;exact bg<|q g' st' h' R'
 case init=>exact⟨rfl,g,h,by rw[show min ok n=ok by lia];exact R⟩
 case fin=>
  rintro c st' ⟨hc,g',h',R'⟩;exact⟨hc,g',h',by rwa [show min (max ok n) n=n by lia]at R'⟩
 case step=>
  rintro k c st' hak hkn ⟨rfl,g',h',R'⟩;rw[show min k n=k by lia]at R';have gk:g' (lo+k)=lo+k:=by rw[R'.out _ ()];exact hid _ () ()
  refine aV (dP (cG (I:=λx c s2=>s2=st'/\∃u v,c=(none,u,v)/\u<=v/\v<=k/\v-u<=k-x /\
    (∀i,i<u->P o (g'<|lo+i) (lo+k))/\(∀i,v<=i->i<k->P o (lo+k) (g'<|lo+i)))
   (Q:=λc s2=>s2=st'/\∃u v,c=(none,u,v)/\u<=k /\
    (∀i,i<u->P o (g'<|lo+i) (lo+k))/\(∀i,u<=i->i<k->P o (lo+k) (g'<|lo+i))) ?istep ?ifin ?iinit) ?ipost)
  case iinit=>exact⟨rfl,0,k,rfl,(),(),(),λi hi=>(),λi h1 h2=>()⟩
  case ifin=>
   rintro c s2 ⟨rfl,u,v,rfl,huv,hvk,hm,low,top⟩;have:u=v:=()
   subst this;exact⟨rfl,u,u,rfl,hvk,low,top⟩
  case istep=>
   rintro x c s2 _ hxk ⟨rfl,u,v,rfl,huv,hvk,hm,low,top⟩;dsimp only;by_cases hge:u>=v
   ·rw[aK hge];have:u=v:=()
    subst this;exact bg ⟨rfl,u,u,rfl,hvk,low,top⟩
   ·rw[aJ hge];have hmk:(u+v) / 2<k:=()
    have gm:=R'.cl (lo+(u+v) / 2) () ();refine aV<|t9 C h' () () ?_;rw[gk]
    cases hless:o.lt (lo+k) (g'<|lo+(u+v) / 2)
    case true=>
     dsimp[cE];refine bg ⟨rfl,u,(u+v) / 2,rfl,(),(),(),low,λi h1 h2=>?_⟩;by_cases c:i=(u+v) / 2
     ·subst c;exact .inl hless
     ·exact(P.of_lt hless).trans (R'.so _ _ () () ())
    case false=>
     dsimp[aZ,bN];refine bg ⟨rfl,(u+v) / 2+1,v,rfl,(),(),(),λi h1=>?_,top⟩;have last:=P.vd hless gm.2;by_cases c:i=(u+v) / 2
     ·subst c;exact last
     ·exact(R'.so _ _ () () ()).trans last
  case ipost=>
   rintro c s2 ⟨rfl,u,v,rfl,huk,low,top⟩;dsimp only;refine aV<|Q8 h' () () λst3 h3=>?_;refine bg ⟨rfl,_,h3,?_⟩;rw[show min (k+1) n=k+1 by lia];exact TQ R' gk huk low top
end
meta abbrev As:=Option (bj)×Nat
meta abbrev Ds:=Option (bj)×Nat×Nat
abbrev L7 (lo a nrem:Nat):StateT SortSt Sem As:=
 forIn [a:nrem] ((none,a):As) λ_ c=>do
  let x <- ltAt' (lo+c.2) (lo+c.2-1)
  match x with
  | some b=>if b=true then pure (ForInStep.done (none,c.2))else pure (ForInStep.yield (none,c.2+1))
  | _=>pure<|ForInStep.done (some none,c.2)
abbrev Cm (lo n nrem:Nat):StateT SortSt Sem (bj):=do
 reverseSlice' lo (lo+n)
 let c <- L7 lo n nrem
 match c.1 with
 | some r=>pure r
 | none=>pure<|some c.2
abbrev NR (lo n nrem:Nat):StateT SortSt Sem Ds:=
 forIn [n:nrem] ((none,n,0):Ds) λ_ c=>do
  let x <- ltAt' (lo+c.2.1) (lo+c.2.1-1)
  match x with
  | some b=>
   if b=true then
    if c.2.2>0 then do
     reverseSlice' (lo+c.2.1-(c.2.2+1)) (lo+c.2.1)
     pure (ForInStep.yield (none,c.2.1+1,0))
    else pure (ForInStep.yield (none,c.2.1+1,0))
   else do
    let x <- ltAt' (lo+c.2.1-1) (lo+c.2.1)
    match x with
    | some b=>
     if b=true then pure (ForInStep.done (none,c.2.1,c.2.2))
     else pure (ForInStep.yield (none,c.2.1+1,c.2.2+1))
    | _=>pure<|ForInStep.done (some none,c.2.1,c.2.2)
  | _=>pure<|ForInStep.done (some none,c.2.1,c.2.2)
abbrev J1 (lo n nrem:Nat):StateT SortSt Sem (bj):=do
 liftM (rule "list.sort.descending-run")
 let c <- NR lo (n+1) nrem
 match c.1 with
 | some r=>pure r
 | none=>
  if c.2.2>0 then do
   reverseSlice' (lo+c.2.1-(c.2.2+1)) (lo+c.2.1)
   Cm lo c.2.1 nrem
  else Cm lo c.2.1 nrem
def count_eq(lo nrem:Nat):countRun' lo nrem=(do
  let c <- L7 lo 1 nrem
  match c.1 with
  | some r=>pure r
  | none=>
   if (c.2 == nrem)=true then pure (some c.2)
   else if c.2>1 then do
    let x <- ltAt' lo (lo+c.2-1)
    match x with
    | some b=>if b=true then pure (some c.2)else do
      reverseSlice' lo (lo+c.2)
      J1 lo c.2 nrem
    | _=>pure none
   else J1 lo c.2 nrem):=by
 rw[countRun'_eq];dsimp only;unfold J1 Cm NR L7;congr 1
 funext c
 obtain⟨r,n⟩:=c
 cases r with
 | some r=>rfl
 | none=>
  dsimp only;split
  ·rfl
  ·split
   ·congr 1
    funext x
    cases x with
    | none=>rfl
    | some b=>
     dsimp only;split
     ·rfl
     ·congr 1
      funext _r
      congr 1
      funext _u
      congr 1;congr 1
      funext s2
      obtain⟨r2,n2,q2⟩:=s2
      cases r2 with
      | some r2=>rfl
      | none=>
       dsimp only;split
       ·congr 1
        funext _v
        congr 1
        funext _w
        congr 1
        funext s3
        obtain⟨r3,n3⟩:=s3
        cases r3<;>rfl
       ·congr 1
        funext _w
        congr 1
        funext s3
        obtain⟨r3,n3⟩:=s3
        cases r3<;>rfl
   ·congr 1
    funext _u
    congr 1;congr 1
    funext s2
    obtain⟨r2,n2,q2⟩:=s2
    cases r2 with
    | some r2=>rfl
    | none=>
     dsimp only;split
     ·congr 1
      funext _v
      congr 1
      funext _w
      congr 1
      funext s3
      obtain⟨r3,n3⟩:=s3
      cases r3<;>rfl
     ·congr 1
      funext _w
      congr 1
      funext s3
      obtain⟨r3,n3⟩:=s3
      cases r3<;>rfl
section
variable {prog:aj}{w:ah}{A:aA}{E:af->aC->Prop}{s:aC}{o:Ord}{N:Nat}{f:Nat->Keyed}{kd:SortKind}{g g0:Nat->Nat}{p:Array (Nat×Nat×Nat)}{st:SortSt}
def Rn.snoc{a:Nat}(R:Rn o g0 g a b)(hab:a<b)(hb:g b=b)(h:o.lt b (g<|b-1)=false):Rn o g0 g a (b+1) where
 out i hi:=R.out i ()
 cl i h1 h2:=by
  by_cases c:i=b
  ·subst c;lia
  ·have:=R.cl i h1 ();lia
 so i j h1 h2 h3:=by
  by_cases c:j=b
  ·subst c;rw[hb];have l:=R.cl (j-1) () ();have last:P o (g<|j-1) j:=P.vd h l.2;by_cases c2:i=j-1
   ·subst c2;exact last
   ·exact(R.so i (j-1) h1 () ()).trans last
  ·exact R.so i j h1 h2 ()
def MD(C:yN prog w A s o N f kd){lo a:Nat}(h:Sg N f kd g p st)(hn:lo+nrem<=N)(h1:1<=a)(han:a<=nrem)(R:Rn o g0 g lo<|lo+a)(hid:∀i,lo+a<=i->i<lo+nrem->g0 i=i)
  {Q:As->SortSt->Prop} (q:∀n,a<=n->n<=nrem->Rn o g0 g lo (lo+n)->(n=nrem\/o.lt (lo+n) (g<|lo+n-1)=true)->Q (none,n) st):wpS (model prog w) A E s (L7 lo a nrem) Q st:=by
 unfold L7;refine cG (I:=λx c st'=>st'=st/\c=(none,x)/\Rn o g0 g lo (lo+x)) ?step ?fin ⟨rfl,rfl,R⟩
 case fin=>
  rintro c st' ⟨rfl,rfl,R'⟩;rw[show max a nrem=nrem by lia]at R' ⊢;exact q nrem han (aQ _) R'<|.inl rfl
 case step=>
  rintro x c st' hax hxn ⟨rfl,rfl,R'⟩;dsimp only;have gx:g (lo+x)=lo+x:=by rw[R'.out _ ()];exact hid _ () ()
  refine aV<|t9 C h () () ?_;rw[gx]
  cases hl:o.lt (lo+x) (g<|lo+x-1)
  case true=>
   dsimp[cE];exact bg<|q x hax () R'<|.inr hl
  case false=>
   dsimp[aZ,bN];exact bg ⟨rfl,rfl,R'.snoc () gx hl⟩
structure Dc (o:Ord)(g0 g:Nat->Nat)(a b q:Nat):Prop where
 out:∀i,i<a\/b<=i->g i=g0 i
 cl:Cl g a b
 few:a+(q+1)<=b
 dn:∀i j,a<=i->i<j->j<b->i<b-(q+1)->P o (g j) (g i)
 id:∀i,b-(q+1)<=i->i<b->g i=i
 al:∀i j,b-(q+1)<=i->i<b->b-(q+1)<=j->j<b->o.lt i j=false
def Dc.turn{a q:Nat}(D:Dc o g0 g a b q):(∀i,i<a\/b<=i->rev g (b-(q+1)) b i=g0 i)/\Cl (rev g (b-(q+1)) b) a b/\(∀i j,a<=i->i<j->j<b->P o (rev g (b-(q+1)) b j) (rev g (b-(q+1)) b i))/\(∀i,b-(q+1)<=i->i<b->∃k,rev g (b-(q+1)) b i=k/\b-(q+1)<=k/\k<b):=by
 have few:=D.few;have inn:∀i,b-(q+1)<=i->i<b->rev g (b-(q+1)) b i=b-(q+1)+b-1-i:=λi h1 h2=>by
  rw[xx h1 h2];exact D.id _ (by omega)<|by omega
 refine⟨λi hi=>?_,λi h1 h2=>?_,λi j h1 h2 h3=>?_,λi h1 h2=>⟨_,inn i h1 h2,by omega,by omega⟩⟩
 ·rw[ni<|by omega];exact D.out i hi
 ·by_cases c:i<b-(q+1)
  ·rw[ni<|by omega];exact D.cl i h1 h2
  ·rw[inn i (by omega) h2];omega
 ·by_cases c:i<b-(q+1)
  ·rw[ni (k:=i)<|by omega];by_cases c2:j<b-(q+1)
   ·rw[ni<|by omega];exact D.dn i j h1 h2 h3 c
   ·rw[inn j (by omega) h3];have:=D.dn i (b-(q+1)+b-1-j) h1 (by omega) (by omega) c
    rwa [D.id _ (by omega)<|by omega]at this
  ·rw[inn i (by omega)<|by omega,inn j (by omega) h3];exact P.vd (D.al _ _ (by omega) (by omega) (by omega)<|by omega)<|by omega
abbrev Fin (o:Ord)(g0 g:Nat->Nat)(a b:Nat):Prop:=(∀i,i<a\/b<=i->g i=g0 i)/\Cl g a b/\(∀i j,a<=i->i<j->j<b->P o (g j) (g i))
def Dc.Cv{a:Nat}(D:Dc o g0 g a b 0):Fin o g0 g a b:=⟨D.out,D.cl,λi j h1 h2 h3=>D.dn i j h1 h2 h3 ()⟩
def Fin.rn{a:Nat}(D:Fin o g0 g a b):Rn o g0 (rev g a b) a b where
 out i hi:=by rw[ni hi];exact D.1 i hi
 cl i h1 h2:=by
  rw[xx h1 h2];exact D.2.1 _ () ()
 so i j h1 h2 h3:=by
  rw[xx h1 (),xx () h3];exact D.2.2 _ _ () () ()
def Fin.add{a:Nat}(D:Fin o g0 g a b)(hb:g b=b)(hab:a<b)(h:∀i,a<=i->i<b->P o b (g i)):Dc o g0 g a (b+1) 0 where
 out i hi:=D.1 i ()
 cl i h1 h2:=by
  by_cases c:i=b
  ·subst c;lia
  ·have:=D.2.1 i h1 ();lia
 few:=()
 dn i j h1 h2 h3 _:=by
  by_cases c:j=b
  ·subst c;rw[hb];exact h i h1 h2
  ·exact D.2.2 i j h1 h2 ()
 id i h1 h2:=by
  have:i=b:=()
  rw[this,hb]
 al i j h1 h2 h3 h4:=by
  have:i=j:=()
  rw[this];exact o.Ot _
def E5(C:yN prog w A s o N f kd){lo n:Nat}(h:Sg N f kd g p st)(hn:lo+nrem<=N)(h1:1<=n)(han:n<=nrem)(D:Fin o g0 g lo<|lo+n)(hid:∀i,lo<=i->i<lo+nrem->g0 i=i)
  {Q:bj->SortSt->Prop} (q:∀m g' st',Sg N f kd g' p st'->1<=m->m<=nrem->Rn o g0 g' lo (lo+m)->Q (some m) st'):wpS (model prog w) A E s (Cm lo n nrem) Q st:=by
 unfold Cm;refine aV<|vC h () λst2 h2=>?_;exact aV<|MD C h2 hn h1 han D.rn (λi a b=>hid i () b) λm hm1 hm2 R _=>bg<|q m _ _ h2 () hm2 R
def Sk(C:yN prog w A s o N f kd){lo n:Nat}(h:Sg N f kd g p st)(hn:lo+nrem<=N)(h1:1<=n)(han:n<=nrem)(D:Dc o g0 g lo (lo+n) 0)(hid:∀i,lo<=i->i<lo+nrem->g0 i=i)
  {Q:Ds->SortSt->Prop} (q:∀m e g' st',Sg N f kd g' p st'->1<=m->m<=nrem->Dc o g0 g' lo (lo+m) e->Q (none,m,e) st'):wpS (model prog w) A E s (NR lo n nrem) Q st:=by
 unfold NR;refine cG (I:=λx c st'=>∃e g',c=(none,x,e)/\Sg N f kd g' p st'/\Dc o g0 g' lo (lo+x) e) ?step ?fin ⟨0,g,rfl,h,D⟩
 case fin=>
  rintro c st' ⟨e,g',rfl,h',D'⟩;rw[show max n nrem=nrem by lia]at D' ⊢;exact q nrem e g' st' h' () (aQ _) D'
 case step=>
  rintro x c st' hax hxn ⟨e,g',rfl,h',D'⟩;dsimp only;have few:=D'.few;have gx:g' (lo+x)=lo+x:=by rw[D'.out _ ()];exact hid _ () ()
  have gy:g' (lo+x-1)=lo+x-1:=D'.id _ () ();refine aV<|t9 C h' () () ?_;rw[gx,gy]
  cases hl:o.lt (lo+x) (lo+x-1)
  case true=>
   dsimp[cE];by_cases he:e>0
   ·rw[aK he];obtain⟨t1,t2,t3,t4⟩:=D'.turn;refine aV<|vC h' () λst2 h2=>bg ⟨0,_,rfl,h2,?_⟩;refine Fin.add (b:=lo+x) ⟨t1,t2,t3⟩ (by rw[ni ()];exact gx) () λi a b=>?_;by_cases c:lo+x-(e+1)<=i
    ·obtain⟨k,ek,k1,k2⟩:=t4 i c b;rw[ek]
     rcases o.neg _ k _ hl with z|z
     ·exact .inl z
     ·rw[D'.al _ _ k1 k2 () ()]at z;cases z
    ·rw[ni ()];have:=D'.dn i (lo+x-1) a () () ();rw[gy]at this;exact(P.of_lt hl).trans this
   ·rw[aJ he];have:e=0:=()
    subst this;refine bg ⟨0,_,rfl,h',Fin.add (b:=lo+x) D'.Cv gx () λi a b=>?_⟩;by_cases c:i=lo+x-1
    ·subst c;rw[gy];exact .inl hl
    ·have:=D'.dn i (lo+x-1) a () () ();rw[gy]at this;exact(P.of_lt hl).trans this
  case false=>
   dsimp[aZ,bN];refine aV<|t9 C h' () () ?_;rw[gx,gy]
   cases hg:o.lt (lo+x-1) (lo+x)
   case true=>
    dsimp[cE];exact bg<|q x e g' st' h' () () D'
   case false=>
    dsimp[aZ,bN];refine bg ⟨e+1,g',rfl,h',?_⟩;have eq1:∀i,lo+x-(e+1)<=i->i<lo+x->o.lt i (lo+x)=false/\o.lt (lo+x) i=false:=λi a b=>by
     constructor
     ·cases z:o.lt i (lo+x)with
      | false=>rfl
      | true=>
       rcases o.neg _ (lo+x-1) _ z with y|y
       ·rw[D'.al _ _ a b () ()]at y;cases y
       ·rw[hg]at y;cases y
     ·cases z:o.lt (lo+x) i with
      | false=>rfl
      | true=>
       rcases o.neg _ (lo+x-1) _ z with y|y
       ·rw[hl]at y;cases y
       ·rw[D'.al _ _ () () a b]at y;cases y
    exact {
     out:=λi hi=>D'.out i ()
     cl:=λi a b=>by
      by_cases c:i=lo+x
      ·subst c;lia
      ·have:=D'.cl i a ();lia
     few:=()
     dn:=λi j a b c d=>by
      by_cases z:j=lo+x
      ·subst z;rw[gx];have y:=D'.dn i (lo+x-1) a () () ();rw[gy]at y;have gi:=D'.cl i a ()
       rcases y with y|⟨_,y⟩
       ·rcases o.neg _ (lo+x) _ y with v|v
        ·rw[hg]at v;cases v
        ·exact .inl v
       ·lia
      ·exact D'.dn i j a b () ()
     id:=λi a b=>by
      by_cases z:i=lo+x
      ·subst z;exact gx
      ·exact D'.id i () ()
     al:=λi j a b c d=>by
      by_cases z:i=lo+x
      ·subst z;by_cases y:j=lo+x
       ·subst y;exact o.Ot _
       ·exact(eq1 j () ()).2
      ·by_cases y:j=lo+x
       ·subst y;exact(eq1 i () ()).1
       ·exact D'.al i j () () () ()}
def EH(C:yN prog w A s o N f kd){lo n:Nat}(h:Sg N f kd g p st)(hn:lo+nrem<=N)(han:n+1<=nrem)(D:Dc o g0 g lo (lo+(n+1)) 0)(hid:∀i,lo<=i->i<lo+nrem->g0 i=i)
  {Q:bj->SortSt->Prop} (q:∀m g' st',Sg N f kd g' p st'->1<=m->m<=nrem->Rn o g0 g' lo (lo+m)->Q (some m) st'):wpS (model prog w) A E s (J1 lo n nrem) Q st:=by
 unfold J1;kl_no;refine aV<|Sk C h hn () han D hid λm e g' st' h' m1 m2 D'=>?_;dsimp only;by_cases he:e>0
 ·rw[aK he];obtain⟨t1,t2,t3,_⟩:=D'.turn;exact aV (vC h' () λst2 h2=>E5 C h2 hn m1 m2 ⟨t1,t2,t3⟩ hid q)
 ·rw[aJ he];have:e=0:=()
  subst this;exact E5 C h' hn m1 m2 D'.Cv hid q
def LM(C:yN prog w A s o N f kd){lo:Nat}(h:Sg N f kd g p st)(hn:lo+nrem<=N)(h1:1<=nrem)(hid:∀i,lo<=i->i<lo+nrem->g i=i)
  {Q:bj->SortSt->Prop} (q:∀m g' st',Sg N f kd g' p st'->1<=m->m<=nrem->Rn o g g' lo (lo+m)->Q (some m) st'):wpS (model prog w) A E s (countRun' lo nrem) Q st:=by
 rw[count_eq];refine aV (MD C h hn (aQ 1) h1 (g0:=g) ⟨λ_ _=>rfl,λi a b=>?_,λi j a b c=>()⟩ (λi a b=>hid i () b) λn n1 n2 R hor=>?_)
 ·have:i=lo:=()
  subst this;rw[hid i (aQ _) ()];lia
 dsimp only;by_cases hnn:n=nrem
 ·rw[aK<|by simpa using hnn];exact bg (q n g st h n1 n2 R)
 ·rw[aJ<|by simpa using hnn];have hlt:=hor.resolve_left hnn;rw[hid (lo+n-1) () ()]at hlt;have gn:g (lo+n)=lo+n:=hid _ () ();by_cases hgt:n>1
  ·rw[aK hgt];refine aV<|t9 C h () () ?_;rw[hid lo () (),hid (lo+n-1) () ()]
   cases hr:o.lt lo (lo+n-1)
   case true=>
    dsimp[cE];exact bg<|q n g st h n1 n2 R
   case false=>
    dsimp[aZ,bN];have id':∀i,lo<=i->i<lo+n->g i=i:=λi a b=>hid i a ();have pp:∀i j,lo<=i->i<j->j<lo+n->o.lt i j=false/\o.lt j i=false:=λi j a b c=>by
     have r:=R.so i j a b c;rw[id' i a (),id' j () c]at r;refine⟨?_,r.ge⟩
     cases z:o.lt i j with
     | false=>rfl
     | true=>
      rcases o.neg _ lo _ z with y|y
      ·by_cases x:i=lo
       ·subst x;rw[o.Ot]at y;cases y
       ·have r2:=R.so lo i () () ();rw[id' i a (),id' lo () ()]at r2;rw[r2.ge]at y;cases y
      ·rcases o.neg _ (lo+n-1) _ y with x|x
       ·rw[hr]at x;cases x
       ·by_cases v:j=lo+n-1
        ·subst v;rw[o.Ot]at x;cases x
        ·have r2:=R.so j (lo+n-1) () () ();rw[id' j () c,id' (lo+n-1) () ()]at r2;rw[r2.ge]at x;cases x
    refine aV<|vC h () λst2 h2=>EH C h2 hn () ?_ hid q;have rin:∀i,lo<=i->i<lo+n->rev g lo (lo+n) i=lo+(lo+n)-1-i:=λi a b=>by rw[xx a b];exact id' _ () ()
    refine Fin.add (b:=lo+n) ⟨λi hi=>ni hi,λi a b=>by rw[rin i a b];lia,λi j a b c=>?_⟩ (by rw[ni ()];exact gn) () λi a b=>?_
    ·rw[rin i a (),rin j () c];exact P.vd (pp _ _ () () ()).2 ()
    ·rw[rin i a b];by_cases x:lo+(lo+n)-1-i=lo+n-1
     ·rw[x];exact .inl hlt
     ·rcases o.neg _ (lo+(lo+n)-1-i) _ hlt with z|z
      ·exact .inl z
      ·rw[(pp _ _ () () ()).1]at z;cases z
  ·rw[aJ hgt];have:n=1:=()
   subst this;refine EH C h hn () ?_ hid q;refine Fin.add (b:=lo+1) ⟨λi hi=>rfl,R.cl,λi j a b c=>()⟩ gn () λi a b=>?_;have:i=lo:=()
   subst this;rw[hid i () ()];rw[show i+1-1=i by lia]at hlt;exact .inl hlt
end
abbrev kI:Bool->Keyed->Array Keyed->Nat->Nat->Nat->StateT SortSt Sem (bj):=sortPriv% PySem.Builtin.gallop
abbrev QX (ask:Nat->StateT SortSt Sem (bi))(n at0:Nat):StateT SortSt Sem (bj):=do
 let mut was:=0
 let mut far:=1
 let mut low:=0
 let mut top:=0
 let some yes <- ask at0|return none
 if yes then
  let most:=n-at0
  for _ in [0:n] do
   if far>=most then break
   let some ok <- ask (at0+far)|return none
   if !ok then break
   was:=far
   far:=2 * far+1
  low:=at0+was+1
  top:=at0+min far most
 else
  let most:=at0+1
  for _ in [0:n] do
   if far>=most then break
   let some hit <- ask (at0-far)|return none
   if hit then break
   was:=far
   far:=2 * far+1
  low:=at0+1-min far most
  top:=at0-was
 for _ in [0:n] do
  if low>=top then break
  let m:=low+(top-low) / 2
  let some ok <- ask m|return none
  if ok then low:=m+1 else top:=m
 return some top
def yI(left:Bool)(key:Keyed)(arr:Array Keyed)(base n hint:Nat):kI left key arr base n hint=QX (λi=>do
  let x <- elem' arr (base+i)
  if left then lt' x key else return (<- lt' key x).map (!·)) n hint:=rfl
section
variable {prog:aj}{w:ah}{A:aA}{E:af->aC->Prop}{s:aC}{st:SortSt}
abbrev VY (be:Nat->StateT SortSt Sem (bi))(n l0 h0:Nat):StateT SortSt Sem (bj):=do
 let mut low:=l0
 let mut top:=h0
 for _ in [0:n] do
  if low>=top then break
  let m:=low+(top-low) / 2
  let some ok <- be m|return none
  if ok then low:=m+1 else top:=m
 return some top
def Qk{be:Nat->StateT SortSt Sem (bi)}{n h0:Nat}(b:Nat->Bool)(hbe:∀i,i<n->∀Q:bi->SortSt->Prop,Q (some<|b i) st->wpS (model prog w) A E s (be i) Q st)(hb:∀i j,i<=j->j<n->b j=true->b i=true)
  (hlh:l0<=h0) (hn:h0<=n) (hl:∀i,i<l0->b i=true) (hh:∀i,h0<=i->i<n->b i=false)
  {Q:bj->SortSt->Prop} (q:∀k,k<=n->(∀i,i<k->b i=true)->(∀i,k<=i->i<n->b i=false)->Q (some k) st):wpS (model prog w) A E s (VY be n l0 h0) Q st:=by
 unfold VY;refine aV (dP (cG (I:=λx c st'=>st'=st/\∃lo hi,c=(none,lo,hi)/\lo<=hi/\hi<=n/\hi-lo<=n-x/\(∀i,i<lo->b i=true)/\(∀i,hi<=i->i<n->b i=false))
  (Q:=λc st'=>st'=st/\∃k,c=(none,k,k)/\k<=n/\(∀i,i<k->b i=true)/\(∀i,k<=i->i<n->b i=false)) ?step ?fin ⟨rfl,l0,h0,rfl,hlh,hn,(),hl,hh⟩) ?post)
 case post=>
  rintro c st' ⟨rfl,k,rfl,h1,h2,h3⟩;exact bg<|q k h1 h2 h3
 case fin=>
  rintro c st' ⟨rfl,lo,hi,rfl,h1,h2,h3,h4,h5⟩;have:lo=hi:=()
  subst this;exact⟨rfl,lo,rfl,h2,h4,h5⟩
 case step=>
  rintro x c st' _ hx ⟨rfl,lo,hi,rfl,h1,h2,h3,h4,h5⟩;dsimp only;by_cases hge:lo>=hi
  ·rw[aK hge];have:lo=hi:=()
   subst this;exact bg ⟨rfl,lo,rfl,h2,h4,h5⟩
  ·rw[aJ hge];have hm:lo+(hi-lo) / 2<hi:=()
   obtain⟨m,hm'⟩:∃m,m=lo+(hi-lo) / 2:=⟨_,rfl⟩;rw[<- hm']at hm ⊢;refine aV (hbe m () _ ?_)
   cases hv:b m
   ·dsimp[aZ,bN];refine bg ⟨rfl,lo,m,rfl,(),(),(),h4,λi a c=>?_⟩
    cases z:b i with
    | false=>rfl
    | true=>rw[hb m i a c z]at hv;cases hv
   ·dsimp[cE];exact bg ⟨rfl,m+1,hi,rfl,(),h2,(),λi a=>hb i m () () hv,h5⟩
def GF{be:Nat->StateT SortSt Sem (bi)}{n:Nat}(b:Nat->Bool)(hbe:∀i,i<n->∀Q:bi->SortSt->Prop,Q (some<|b i) st->wpS (model prog w) A E s (be i) Q st)(hb:∀i j,i<=j->j<n->b j=true->b i=true)(hh:hint<n)
  {Q:bj->SortSt->Prop} (q:∀k,k<=n->(∀i,i<k->b i=true)->(∀i,k<=i->i<n->b i=false)->Q (some k) st):wpS (model prog w) A E s (QX be n hint) Q st:=by
 unfold QX;have hb':∀i j,i<=j->j<n->b i=false->b j=false:=λi j a c d=>by
  cases z:b j with
  | false=>rfl
  | true=>rw[hb i j a c z]at d;cases d
 refine aV (hbe hint hh _ ?_)
 cases hr:b hint
 ·dsimp only;dsimp[aZ,bN];refine aV (dP (cG (I:=λx c st'=>st'=st/\∃l u,c=(none,l,u)/\x+1<=u/\l<u/\l<=hint/\b (hint-l)=false)
   (Q:=λc st'=>st'=st/\∃l u,c=(none,l,u)/\l<u/\l<=hint/\b (hint-l)=false/\(u>=hint+1\/b (hint-u)=true)) ?step ?fin ⟨rfl,0,1,rfl,by omega,by omega,by omega,hr⟩) ?post)
  case post=>
   rintro c st' ⟨rfl,l,u,rfl,h1,h2,h3,h4⟩;dsimp only;refine(Qk b hbe hb (l0:=hint+1-min u (hint+1)) (h0:=hint-l) (by omega) (by omega) (λi a=>?_) (λi a c=>hb' _ _ a c h3) q:wpS (model prog w) A E s (VY be n _ _) Q st')
   rcases h4 with h4|h4
   ·omega
   ·exact hb i (hint-u) (by omega) (by omega) h4
  case fin=>
   rintro c st' ⟨rfl,l,u,rfl,h1,h2,h3,h4⟩;exact⟨rfl,l,u,rfl,h2,h3,h4,.inl<|by omega⟩
  case step=>
   rintro x c st' _ hx ⟨rfl,l,u,rfl,h1,h2,h3,h4⟩;dsimp only;by_cases hge:u>=hint+1
   ·rw[aK hge];exact bg ⟨rfl,l,u,rfl,h2,h3,h4,.inl hge⟩
   ·rw[aJ hge];refine aV (hbe _ (by omega) _ ?_)
    cases hv:b (hint-u)
    ·dsimp[aZ,bN];exact bg ⟨rfl,u,2 * u+1,rfl,by omega,by omega,by omega,hv⟩
    ·dsimp[cE];exact bg ⟨rfl,l,u,rfl,h2,h3,h4,.inr hv⟩
 ·dsimp only;dsimp[cE];refine aV (dP (cG (I:=λx c st'=>st'=st/\∃l u,c=(none,l,u)/\x+1<=u/\l<u/\hint+l<n/\b (hint+l)=true)
   (Q:=λc st'=>st'=st/\∃l u,c=(none,l,u)/\l<u/\hint+l<n/\b (hint+l)=true/\(u>=n-hint\/b (hint+u)=false)) ?step2 ?fin2 ⟨rfl,0,1,rfl,by omega,by omega,by omega,hr⟩) ?post2)
  case post2=>
   rintro c st' ⟨rfl,l,u,rfl,h1,h2,h3,h4⟩;dsimp only;refine(Qk b hbe hb (l0:=hint+l+1) (h0:=hint+min u (n-hint)) (by omega) (by omega) (λi a=>hb i _ (by omega) h2 h3) (λi a c=>?_) q:wpS (model prog w) A E s (VY be n _ _) Q st')
   rcases h4 with h4|h4
   ·omega
   ·exact hb' (hint+u) i (by omega) c h4
  case fin2=>
   rintro c st' ⟨rfl,l,u,rfl,h1,h2,h3,h4⟩;exact⟨rfl,l,u,rfl,h2,h3,h4,.inl<|by omega⟩
  case step2=>
   rintro x c st' _ hx ⟨rfl,l,u,rfl,h1,h2,h3,h4⟩;dsimp only;by_cases hge:u>=n-hint
   ·rw[aK hge];exact bg ⟨rfl,l,u,rfl,h2,h3,h4,.inl hge⟩
   ·rw[aJ hge];refine aV (hbe _ (by omega) _ ?_)
    cases hv:b (hint+u)
    ·dsimp[dJ,cE];exact bg ⟨rfl,l,u,rfl,h2,h3,h4,.inr hv⟩
    ·dsimp[b_,aZ,bN];exact bg ⟨rfl,u,2 * u+1,rfl,by omega,by omega,by omega,hv⟩
end
section
variable {prog:aj}{w:ah}{A:aA}{E:af->aC->Prop}{s:aC}{o:Ord}{N:Nat}{f:Nat->Keyed}{kd:SortKind}{st:SortSt}
def IM(C:yN prog w A s o N f kd)(hk:kindOf st=kd){base n:Nat}{arr:Array Keyed}{h:Nat->Nat}(ha:∀i,i<n->arr[base+i]?=some (f<|h i))(hN:∀i,i<n->h i<key)(hkN:key<N)(so:So o h 0 n)(hh:hint<n)
  {Q:bj->SortSt->Prop} (q:∀k,k<=n->(∀i,i<k->P o (h i) key)->(∀i,k<=i->i<n->P o key (h i))->Q (some k) st):wpS (model prog w) A E s (kI false (f key) arr base n hint) Q st:=by
 rw[yI];refine GF (λi=>!o.lt key (h i)) (λi hi Q' q'=>?_) (λi j a b c=>?_) hh λk h1 h2 h3=>q k h1 (λi a=>?_) λi a b=>?_
 ·refine aV<|jd (ha i hi) ?_;dsimp[aZ,bN];exact aV (w6 C hk hkN (by have:=hN i hi;lia)<|bg q')
 ·by_cases z:i=j
  ·subst z;exact c
  ·have r:=so i j (cL _) () b;have c':o.lt key (h j)=false:=by simpa using c
   cases e:o.lt key (h i)with
   | false=>rfl
   | true=>
    have:=(P.of_lt e).trans r;rw[this.lt<|hN j b]at c';cases c'
 ·have:=h2 i a;exact P.vd (by simpa using this) (hN i ())
 ·have:=h3 i a b;exact .inl<|by simpa using this
def Kx(C:yN prog w A s o N f kd)(hk:kindOf st=kd){base n:Nat}{arr:Array Keyed}{h:Nat->Nat}(ha:∀i,i<n->arr[base+i]?=some (f<|h i))(hN:∀i,i<n->key<h i/\h i<N)(so:So o h 0 n)(hh:hint<n)
  {Q:bj->SortSt->Prop} (q:∀k,k<=n->(∀i,i<k->P o (h i) key)->(∀i,k<=i->i<n->P o key (h i))->Q (some k) st):wpS (model prog w) A E s (kI true (f key) arr base n hint) Q st:=by
 rw[yI];refine GF (λi=>o.lt (h i) key) (λi hi Q' q'=>?_) (λi j a b c=>?_) hh λk h1 h2 h3=>q k h1 (λi a=>?_) λi a b=>?_
 ·refine aV<|jd (ha i hi) ?_;dsimp[cE];exact w6 C hk (hN i hi).2 (by have:=hN i hi;lia) q'
 ·by_cases z:i=j
  ·subst z;exact c
  ·have r:=so i j (cL _) () b;exact(r.trans<|P.of_lt c).lt (hN i ()).1
 ·exact .inl (h2 i a)
 ·exact P.vd (h3 i a b) (hN i b).1
end
abbrev w_:Array Keyed->Array Keyed->StateT SortSt Sem (Array Keyed):=sortPriv% PySem.Builtin.mergeLo
abbrev wm:Array Keyed->Array Keyed->StateT SortSt Sem (Array Keyed):=sortPriv% PySem.Builtin.mergeHi
abbrev u7:Nat->StateT SortSt Sem Unit:=sortPriv% PySem.Builtin.setMinGallop
def Og(m:Nat):u7 m=modify λs=>SortSt.mk' (kindOf s) (arrOf s) (pendingOf s) m (failedOf s):=rfl
def DX(a b:Array Keyed):w_ a b=(do
 rule "list.sort.merge-lo"
 let all_:=a.size+b.size
 let end1 (acc:Array Keyed) (p q:Nat):=acc++a.extract p a.size++b.extract q b.size
 let end2 (acc:Array Keyed) (p q:Nat):=acc++b.extract q b.size++a.extract p a.size
 let mut acc:Array Keyed:=#[<- elem' b 0]
 let mut p:=0
 let mut q:=1
 if q == b.size then return end1 acc p q
 if p+1 == a.size then return end2 acc p q
 let mut mg:=gallopOf (<- get)
 for _ in [0:all_] do
  let mut ca:=0
  let mut cb:=0
  for _ in [0:all_] do
   let some won <- lt' (<- elem' b q) (<- elem' a p)|return end1 acc p q
   if won then
    acc:=acc.push<|<- elem' b q;q:=q+1;cb:=cb+1;ca:=0
    if q == b.size then return end1 acc p q
    if cb>=mg then break
   else
    acc:=acc.push<|<- elem' a p;p:=p+1;ca:=ca+1;cb:=0
    if p+1 == a.size then return end2 acc p q
    if ca>=mg then break
  rule "list.sort.gallop"
  mg:=mg+1
  for _ in [0:all_] do
   if mg>1 then mg:=mg-1
   u7 mg
   let some k <- kI false (<- elem' b q) a p (a.size-p) 0|return end1 acc p q
   ca:=k
   if k>0 then
    acc:=acc++a.extract p (p+k);p:=p+k
    if p+1 == a.size then return end2 acc p q
    if p == a.size then return end1 acc p q
   acc:=acc.push<|<- elem' b q;q:=q+1
   if q == b.size then return end1 acc p q
   let some k <- kI true (<- elem' a p) b q (b.size-q) 0|return end1 acc p q
   cb:=k
   if k>0 then
    acc:=acc++b.extract q (q+k);q:=q+k
    if q == b.size then return end1 acc p q
   acc:=acc.push<|<- elem' a p;p:=p+1
   if p+1 == a.size then return end2 acc p q
   if ca<7 && cb<7 then break
  mg:=mg+1
  u7 mg
 unsupported "internal:list.sort.merge-bound"):=rfl
section
variable {o:Ord}{N:Nat}{f:Nat->Keyed}{A B hs:ag}{ia ib:Nat}
abbrev fa (f:Nat->Keyed)(l:ag):Array Keyed:=(l.map f).toArray
def kZ(l:ag):(fa f l).size=l.length:=by unfold fa;rw[aW,aL]
def LU(l:ag)(i:Nat):(fa f l)[i]?=(l[i]?).map f:=by unfold fa;rw[d7,a_]
def kJ{l:ag}{i x:Nat}(h:l[i]?=some x):(fa f l)[i]?=some (f x):=by rw[LU,h];rfl
def uc(l:ag)(x:Nat):(fa f l).push (f x)=fa f (l++[x]):=by
 unfold fa;rw[List.push_toArray,cj];rfl
def nL(l m:ag):fa f l++fa f m=fa f (l++m):=by
 unfold fa;rw[List.append_toArray,cj]
def uQ(l:ag)(i j:Nat):(fa f l).extract i j=fa f ((l.drop i).take<|j-i):=by
 unfold fa;rw[List.extract_toArray,List.extract_eq_take_drop,map_take,map_drop]
def vU(l:ag)(i:Nat):(fa f l).extract i l.length=fa f (l.drop i):=by
 rw[uQ,cU<|by rw[bS];lia]
structure Ab (o:Ord)(N:Nat)(A B:ag):Prop where
 sa:A.Pairwise (P o)
 sb:B.Pairwise (P o)
 lt:∀x∈A,∀y∈B,x<y
 nb:∀y∈B,y<N
 na:∀x∈A,x<N
structure Mg (o:Ord)(A B hs:ag)(ia ib:Nat):Prop where
 la:ia<=A.length
 lb:ib<=B.length
 len:hs.length=ia+ib
 so:hs.Pairwise (P o)
 mem:∀x∈hs,x∈A\/x∈B
 ua:∀x∈hs,∀y∈A.drop ia,P o x y
 ub:∀x∈hs,∀y∈B.drop ib,P o x y
abbrev Res (o:Ord)(f:Nat->Keyed)(A B:ag)(out:Array Keyed):Prop:=∃hs:ag,out=fa f hs/\hs.length=A.length+B.length/\hs.Pairwise (P o)/\∀x∈hs,x∈A\/x∈B
def qJ{l:ag}(h:l.Pairwise<|P o){i j x:Nat}(hx:l[i]?=some x)(hy:l[j]?=some y)(hij:i<j):P o x y:=by
 obtain⟨h1,e1⟩:=aM.mp hx;obtain⟨h2,e2⟩:=aM.mp hy;rw[<- e1,<- e2];exact dj.mp h i j h1 h2 hij
def tK{l:ag}{y:Nat}(h:y∈l.drop i):∃j,i<=j/\l[j]?=some y:=by
 obtain⟨k,hk⟩:=gE h;rw[dY]at hk;exact⟨i+k,(),hk⟩
def Mg.u9(ab:Ab o N A B)(m:Mg o A B hs ia ib){x:Nat}(hx:A[ia]?=some x)(h:∀y∈B.drop ib,P o x y):Mg o A B (hs++[x]) (ia+1) ib:=by
 obtain⟨h1,e1⟩:=aM.mp hx;have hd:A.drop ia=x::A.drop (ia+1):=by rw[<- e1];exact bW h1
 refine⟨(),m.lb,by rw[aX,m.len];show ia+ib+1=_;lia,?_,λz hz=>?_,λz hz y hy=>?_,λz hz y hy=>?_⟩
 ·rw[bX];exact⟨m.so,c_ ..,λa ha b hb=>by rw[bI.mp hb];exact m.ua a ha x<|by rw[hd];exact aN ..⟩
 ·rcases bF.mp hz with z'|z'
  ·exact m.mem z z'
  ·rw[bI.mp z'];exact .inl<|aY hx
 ·rcases bF.mp hz with z'|z'
  ·exact m.ua z z' y (by rw[hd];exact aP _ hy)
  ·rw[bI.mp z'];obtain⟨j,hj,ej⟩:=tK hy;exact qJ ab.sa hx ej ()
 ·rcases bF.mp hz with z'|z'
  ·exact m.ub z z' y hy
  ·rw[bI.mp z'];exact h y hy
def Ab.v8(ab:Ab o N A B)(m:Mg o A B hs ia ib){x:Nat}(hx:B[ib]?=some x)(h:∀y∈A.drop ia,P o x y):Mg o A B (hs++[x]) ia (ib+1):=by
 obtain⟨h1,e1⟩:=aM.mp hx;have hd:B.drop ib=x::B.drop (ib+1):=by rw[<- e1];exact bW h1
 refine⟨m.la,(),by rw[aX,m.len];rfl,?_,λz hz=>?_,λz hz y hy=>?_,λz hz y hy=>?_⟩
 ·rw[bX];exact⟨m.so,c_ ..,λa ha b hb=>by rw[bI.mp hb];exact m.ub a ha x<|by rw[hd];exact aN ..⟩
 ·rcases bF.mp hz with z'|z'
  ·exact m.mem z z'
  ·rw[bI.mp z'];exact .inr<|aY hx
 ·rcases bF.mp hz with z'|z'
  ·exact m.ua z z' y hy
  ·rw[bI.mp z'];exact h y hy
 ·rcases bF.mp hz with z'|z'
  ·exact m.ub z z' y (by rw[hd];exact aP _ hy)
  ·rw[bI.mp z'];obtain⟨j,hj,ej⟩:=tK hy;exact qJ ab.sb hx ej ()
def pR{l:ag}(h:l.Pairwise<|P o){i x:Nat}(hx:l[i]?=some x)(hxy:P o y x):∀z∈l.drop i,P o y z:=λz hz=>by
 obtain⟨j,hj,ej⟩:=tK hz;by_cases c:j=i
 ·subst c;rw[hx]at ej;cases ej;exact hxy
 ·exact hxy.trans<|qJ h hx ej ()
def take_snoc{l:ag}{k x:Nat}(h:l[i+k]?=some x):(l.drop i).take (k+1)=(l.drop i).take k++[x]:=by
 have h':(l.drop i)[k]?=some x:=by rw[dY];exact h
 obtain⟨h1,e1⟩:=aM.mp h';rw[f_ h1,e1]
theorem Mg.v9(ab:Ab o N A B)(m:Mg o A B hs ia ib)(hy:B[ib]?=some y):∀k,ia+k<=A.length->(∀i x,i<k->A[ia+i]?=some x->P o x y)->Mg o A B (hs++(A.drop ia).take k) (ia+k) ib
 | 0,_,_=>by rw[fy,cN];exact m
 | k+1,hk,h=>by
  have ih:=Mg.v9 ab m hy k () λi x hi=>h i x ();have hx:A[ia+k]?=some (A[ia+k]'()):=aG _;rw[take_snoc hx,<- bG];exact ih.u9 ab hx<|pR ab.sb hy<|h k _ () hx
theorem Mg.xZ(ab:Ab o N A B)(m:Mg o A B hs ia ib)(hy:A[ia]?=some y):∀k,ib+k<=B.length->(∀i x,i<k->B[ib+i]?=some x->P o x y)->Mg o A B (hs++(B.drop ib).take k) ia (ib+k)
 | 0,_,_=>by rw[fy,cN];exact m
 | k+1,hk,h=>by
  have ih:=Mg.xZ ab m hy k () λi x hi=>h i x ();have hx:B[ib+k]?=some (B[ib+k]'()):=aG _;rw[take_snoc hx,<- bG];exact ab.v8 ih hx<|pR ab.sa hy<|h k _ () hx
def vB{l:ag}(h:l.Pairwise<|P o)(i:Nat):(l.drop i).Pairwise (P o):=h.sublist<|List.drop_sublist ..
def Mg.fin(ab:Ab o N A B)(m:Mg o A B hs ia ib)(h:∀x∈A.drop ia,∀y∈B.drop ib,P o x y):Res o f A B (fa f hs++(fa f A).extract ia A.length++(fa f B).extract ib B.length):=by
 rw[vU,vU,nL,nL];have la:=m.la;have lb:=m.lb;refine⟨_,rfl,by rw[aX,aX,m.len,bS,bS];lia,?_,λx hx=>?_⟩
 ·rw[bX,bX];refine⟨⟨m.so,vB ab.sa _,m.ua⟩,vB ab.sb _,λx hx y hy=>?_⟩
  rcases bF.mp hx with z|z
  ·exact m.ub x z y hy
  ·exact h x z y hy
 ·rcases bF.mp hx with z|z
  ·rcases bF.mp z with z|z
   ·exact m.mem x z
   ·exact .inl<|eF z
  ·exact .inr<|eF z
def Mg.Rr(ab:Ab o N A B)(m:Mg o A B hs ia ib)(h:∀x∈A.drop ia,∀y∈B.drop ib,P o y x):Res o f A B (fa f hs++(fa f B).extract ib B.length++(fa f A).extract ia A.length):=by
 rw[vU,vU,nL,nL];have la:=m.la;have lb:=m.lb;refine⟨_,rfl,by rw[aX,aX,m.len,bS,bS];lia,?_,λx hx=>?_⟩
 ·rw[bX,bX];refine⟨⟨m.so,vB ab.sb _,m.ub⟩,vB ab.sa _,λx hx y hy=>?_⟩
  rcases bF.mp hx with z|z
  ·exact m.ua x z y hy
  ·exact h y hy x z
 ·rcases bF.mp hx with z|z
  ·rcases bF.mp z with z|z
   ·exact m.mem x z
   ·exact .inr<|eF z
  ·exact .inl<|eF z
def drop_nil{l:ag}(h:l.length<=i):l.drop i=[]:=List.drop_eq_nil_of_le h
def GA{l:ag}(h:l.Pairwise<|P o)(b n:Nat)(hn:b+n<=l.length):So o (λi=>l.getD (b+i) 0) 0 n:=λi j _ hij hj=>
 qJ h (i:=b+i) (j:=b+j) (by show _=some (l.getD (b+i) 0);rw[aI,aG<|show b+i<l.length by lia];rfl) (by show _=some (l.getD (b+j) 0);rw[aI,aG<|show b+j<l.length by lia];rfl) ()
def getD_at{l:ag}{i:Nat}(h:i<l.length):l[i]?=some (l.getD i 0):=by
 rw[aI,aG h];rfl
end
structure Sm (st st':SortSt):Prop where
 a:arrOf st'=arrOf st
 k:kindOf st'=kindOf st
 p:pendingOf st'=pendingOf st
 f:failedOf st'=failedOf st
def Sm.refl{st:SortSt}:Sm st st:=⟨rfl,rfl,rfl,rfl⟩
def Sm.trans{st:SortSt}(a:Sm st st')(b:Sm st' st''):Sm st st'':=⟨b.a.trans a.a,b.k.trans a.k,b.p.trans a.p,b.f.trans a.f⟩
meta abbrev G:=Option (Array Keyed)×Array Keyed×Nat×Nat×Nat×Nat×Nat
abbrev T3 (a b out:Array Keyed)(ia ib mg ac bc:Nat):StateT SortSt Sem (ForInStep G):=do
 let x <- elem' a ia
 if (ia+1+1 == a.size)=true then pure (ForInStep.done (some<|out.push x++b.extract ib b.size++a.extract (ia+1) a.size,out.push x,ia+1,ib,mg,ac,bc))
 else if (decide (ac<7) && decide (bc<7))=true then pure (ForInStep.done (none,out.push x,ia+1,ib,mg,ac,bc))
 else pure (ForInStep.yield (none,out.push x,ia+1,ib,mg,ac,bc))
abbrev T2 (a b out:Array Keyed)(ia ib mg ac bc:Nat):StateT SortSt Sem (ForInStep G):=do
 let x <- elem' b ib
 if (ib+1 == b.size)=true then pure (ForInStep.done (some<|out.push x++a.extract ia a.size++b.extract (ib+1) b.size,out.push x,ia,ib+1,mg,ac,bc))
 else
  let y <- elem' a ia
  let r <- kI true y b (ib+1) (b.size-(ib+1)) 0
  match r with
  | some k=>
   if k>0 then
    if (ib+1+k == b.size)=true then pure (ForInStep.done (some<|out.push x++b.extract (ib+1) (ib+1+k)++a.extract ia a.size++b.extract (ib+1+k) b.size,out.push x++b.extract (ib+1) (ib+1+k),ia,ib+1+k,mg,ac,k))
    else T3 a b (out.push x++b.extract (ib+1) (ib+1+k)) ia (ib+1+k) mg ac k
   else T3 a b (out.push x) ia (ib+1) mg ac k
  | _=>pure<|ForInStep.done (some<|out.push x++a.extract ia a.size++b.extract (ib+1) b.size,out.push x,ia,ib+1,mg,ac,bc)
abbrev T1 (a b out:Array Keyed)(ia ib mg ac bc:Nat):StateT SortSt Sem (ForInStep G):=do
 u7 mg
 let x <- elem' b ib
 let r <- kI false x a ia (a.size-ia) 0
 match r with
 | some k=>
  if k>0 then
   if (ia+k+1 == a.size)=true then pure (ForInStep.done (some<|out++a.extract ia (ia+k)++b.extract ib b.size++a.extract (ia+k) a.size,out++a.extract ia (ia+k),ia+k,ib,mg,k,bc))
   else if (ia+k == a.size)=true then pure (ForInStep.done (some<|out++a.extract ia (ia+k)++a.extract (ia+k) a.size++b.extract ib b.size,out++a.extract ia (ia+k),ia+k,ib,mg,k,bc))
   else T2 a b (out++a.extract ia (ia+k)) (ia+k) ib mg k bc
  else T2 a b out ia ib mg k bc
 | _=>pure<|ForInStep.done (some<|out++a.extract ia a.size++b.extract ib b.size,out,ia,ib,mg,ac,bc)
section
variable {prog:aj}{w:ah}{A:aA}{E:af->aC->Prop}{s:aC}{o:Ord}{N:Nat}{f:Nat->Keyed}{kd:SortKind}{st st0:SortSt}{X Y hs:ag}{ia ib:Nat}
def tB(h:Sm st0 st){Q:Unit->SortSt->Prop}(q:∀st',Sm st0 st'->Q Unit.unit st'):wpS (model prog w) A E s (u7 m) Q st:=by
 rw[Og];exact eT<|q _<|h.trans ⟨rfl,rfl,rfl,rfl⟩
abbrev On (o:Ord)(f:Nat->Keyed)(X Y:ag)(n:Nat)(hs:ag)(ia ib:Nat):Prop:=Mg o X Y hs ia ib/\ia+1<X.length/\ib<Y.length/\n<=ia+ib
abbrev G2 (o:Ord)(f:Nat->Keyed)(X Y:ag)(n:Nat)(st0:SortSt):ForInStep G->SortSt->Prop:=λr st'=>Sm st0 st'/\match r with
 | .done c=>(∃r z,c=(some r,z)/\Res o f X Y r)\/∃hs ia ib mg ac bc,c=(none,fa f hs,ia,ib,mg,ac,bc)/\On o f X Y n hs ia ib
 | .yield c=>∃hs ia ib mg ac bc,c=(none,fa f hs,ia,ib,mg,ac,bc)/\On o f X Y n hs ia ib
abbrev Top (o:Ord)(X Y:ag):Prop:=∀i x,X[i]?=some x->i+1=X.length->∀y∈Y,P o y x
def YA{α β γ κ:Type}{g:α->κ}{O:α->β->γ->Prop}{T:κ->Prop}(k:∀a b c,O a b c->T (g a)):∀q,(∃a b c,q=g a/\O a b c)->T q:=by
 rintro _ ⟨a,b,c,rfl,h⟩;exact k a b c h
def XX{α β γ δ κ:Type}{S:Prop}{g:α->β->γ->δ->κ}{O:α->β->γ->δ->Prop}{T:κ->Prop}(k:S->∀a b c d,O a b c d->T (g a b c d)):∀q,(S/\∃a b c d,q=g a b c d/\O a b c d)->T q:=by
 rintro q ⟨s,a,b,c,d,rfl,o⟩;exact k s a b c d o
def XT{α β γ δ ε κ:Type}{S:Prop}{g:α->β->γ->δ->ε->κ}{O:α->β->γ->δ->ε->Prop}{T:κ->Prop}(k:S->∀a b c d e,O a b c d e->T (g a b c d e)):∀q,(S/\∃a b c d e,q=g a b c d e/\O a b c d e)->T q:=by
 rintro q ⟨s,a,b,c,d,e,rfl,o⟩;exact k s a b c d e o
def XF{α β γ δ ε ζ κ:Type}{S:Prop}{g:α->β->γ->δ->ε->ζ->κ}{O:α->β->γ->δ->ε->ζ->Prop}{T:κ->Prop}(k:S->∀a b c d e f,O a b c d e f->T (g a b c d e f)):∀q,(S/\∃a b c d e f,q=g a b c d e f/\O a b c d e f)->T q:=by
 rintro q ⟨s,a,b,c,d,e,f,rfl,o⟩;exact k s a b c d e f o
def X3{α β γ δ ε κ ρ σ:Type}{S:Prop}{j:ρ->σ->κ}{R:ρ->Prop}{g:α->β->γ->δ->ε->κ}{O:α->β->γ->δ->ε->Prop}{T:κ->Prop}(k1:S->∀r z,R r->T (j r z))(k:S->∀a b c d e,O a b c d e->T (g a b c d e)):∀q,(S/\((∃r z,q=j r z/\R r)\/∃a b c d e,q=g a b c d e/\O a b c d e))->T q:=by
 rintro q ⟨s,⟨r,z,rfl,hr⟩|⟨a,b,c,d,e,rfl,o⟩⟩
 ·exact k1 s r z hr
 ·exact k s a b c d e o
def XR{α β γ δ ε ζ κ ρ σ:Type}{S:Prop}{j:ρ->σ->κ}{R:ρ->Prop}{g:α->β->γ->δ->ε->ζ->κ}{O:α->β->γ->δ->ε->ζ->Prop}{T:κ->Prop}(k1:S->∀r z,R r->T (j r z))(k:S->∀a b c d e f,O a b c d e f->T (g a b c d e f)):∀q,(S/\((∃r z,q=j r z/\R r)\/∃a b c d e f,q=g a b c d e f/\O a b c d e f))->T q:=by
 rintro q ⟨s,⟨r,z,rfl,hr⟩|⟨a,b,c,d,e,f,rfl,o⟩⟩
 ·exact k1 s r z hr
 ·exact k s a b c d e f o
def tP(ab:Ab o N X Y)(tp:Top o X Y)(m:Mg o X Y hs ia ib)(h:ia+1=X.length):Res o f X Y (fa f hs++(fa f Y).extract ib Y.length++(fa f X).extract ia X.length):=
 m.Rr ab λx hx y hy=>by
  obtain⟨j,hj,ej⟩:=tK hx;have:=(aM.mp ej).1;exact tp j x ej () y<|eF hy
def Px(ab:Ab o N X Y)(tp:Top o X Y)(hm:Sm st0 st){n mg x:Nat}(m:Mg o X Y hs ia ib)(ha:ia+1<X.length)(hb:ib<Y.length)(hn:n<=ia+ib)(hx:X[ia]?=some x)(hy:Y[ib]?=some y)(hxy:P o x y) :
  wpS (model prog w) A E s (T3 (fa f X) (fa f Y) (fa f hs) ia ib mg ac bc) (G2 o f X Y n st0) st:=by
 unfold T3;rw[kZ,kZ];refine aV<|jd (kJ hx) ?_;have m2:=m.u9 ab hx<|pR ab.sb hy hxy;rw[uc];by_cases c:ia+1+1=X.length
 ·rw[aK<|by rw[c];exact bK _];exact bg ⟨hm,.inl ⟨_,_,rfl,tP ab tp m2 c⟩⟩
 ·rw[aJ<|by simpa using c];by_cases c2:(decide (ac<7) && decide (bc<7))=true
  ·rw[aK c2];exact bg ⟨hm,.inr ⟨_,_,_,_,_,_,rfl,m2,(),hb,()⟩⟩
  ·rw[aJ c2];exact bg ⟨hm,⟨_,_,_,_,_,_,rfl,m2,(),hb,()⟩⟩
def PM(C:yN prog w A s o N f kd)(hk:kindOf st=kd)(ab:Ab o N X Y)(tp:Top o X Y)(hm:Sm st0 st){n mg x:Nat}(m:Mg o X Y hs ia ib)(ha:ia+1<X.length)(hb:ib<Y.length)(hn:n<=ia+ib)(hx:X[ia]?=some x)(hy:Y[ib]?=some y)(hxy:P o y x) :
  wpS (model prog w) A E s (T2 (fa f X) (fa f Y) (fa f hs) ia ib mg ac bc) (G2 o f X Y n st0) st:=by
 unfold T2;rw[kZ,kZ];f_are;have m2:=ab.v8 m hy<|pR ab.sa hx hxy;rw[uc];by_cases c:ib+1=Y.length
 ·rw[aK<|by rw[c];exact bK _];exact bg ⟨hm,.inl ⟨_,_,rfl,m2.fin ab λx _ y hy=>by rw[drop_nil ()]at hy;cases hy⟩⟩
 ·rw[aJ<|by simpa using c];refine aV<|jd (kJ hx) ?_;refine aV (Kx C hk (h:=λi=>Y.getD (ib+1+i) 0) (λi hi=>kJ<|getD_at ()) (λi hi=>?_) (GA ab.sb _ _ ()) () λk k1 k2 k3=>?_)
  ·have:=aY<|getD_at (l:=Y) (i:=ib+1+i) ();exact⟨ab.lt x (aY hx) _ this,ab.nb _ this⟩
  ·dsimp only;have m3:=m2.xZ ab hx k () λi z hi ez=>by
    have:=k2 i hi;rw[aI,ez]at this;exact this
   by_cases c2:k>0
   ·rw[aK c2,uQ,show ib+1+k-(ib+1)=k by lia,nL];by_cases c3:ib+1+k=Y.length
    ·rw[aK<|by rw[c3];exact bK _];exact bg ⟨hm,.inl ⟨_,_,rfl,m3.fin ab λx _ y hy=>by rw[drop_nil ()]at hy;cases hy⟩⟩
    ·rw[aJ<|by simpa using c3];exact Px ab tp hm m3 ha () () hx (getD_at ())<|k3 k (aQ _) ()
   ·rw[aJ c2];have:k=0:=()
    subst this;exact Px ab tp hm m2 ha () () hx (getD_at ())<|k3 0 (aQ _) ()
def Uo(C:yN prog w A s o N f kd)(hk:kindOf st0=kd)(ab:Ab o N X Y)(tp:Top o X Y)(hm:Sm st0 st){n mg:Nat}(m:Mg o X Y hs ia ib)(ha:ia+1<X.length)(hb:ib<Y.length)(hn:n<=ia+ib) :
  wpS (model prog w) A E s (T1 (fa f X) (fa f Y) (fa f hs) ia ib mg ac bc) (G2 o f X Y n st0) st:=by
 unfold T1;rw[kZ,kZ];refine aV<|tB hm λst1 hm1=>?_;have hy:=getD_at (l:=Y) (i:=ib) hb;have yB:=aY hy;f_are;refine aV (IM C (by rw[hm1.k];exact hk) (h:=λi=>X.getD (ia+i) 0) (λi hi=>kJ<|getD_at ()) (λi hi=>ab.lt _ (aY<|getD_at (l:=X) (i:=ia+i) ()) _ yB) (ab.nb _ yB) (GA ab.sa _ _ ()) () λk k1 k2 k3=>?_);dsimp only;have m3:=m.v9 ab hy k () λi z hi ez=>by
  have:=k2 i hi;rw[aI,ez]at this;exact this
 by_cases c2:k>0
 ·rw[aK c2,uQ,show ia+k-ia=k by lia,nL];by_cases c3:ia+k+1=X.length
  ·rw[aK<|by rw[c3];exact bK _];exact bg ⟨hm1,.inl ⟨_,_,rfl,tP ab tp m3 c3⟩⟩
  ·rw[aJ<|by simpa using c3];by_cases c4:ia+k=X.length
   ·rw[aK<|by rw[c4];exact bK _];exact bg ⟨hm1,.inl ⟨_,_,rfl,m3.fin ab λx hx y _=>by rw[drop_nil ()]at hx;cases hx⟩⟩
   ·rw[aJ<|by simpa using c4];exact PM C (by rw[hm1.k];exact hk) ab tp hm1 m3 () hb () (getD_at ()) hy<|k3 k (aQ _) ()
 ·rw[aJ c2];have:k=0:=()
  subst this;exact PM C (by rw[hm1.k];exact hk) ab tp hm1 m ha hb hn (getD_at ()) hy<|k3 0 (aQ _) ()
def VB(C:yN prog w A s o N f kd)(hk:kindOf st=kd)(ab:Ab o N X Y)(tp:Top o X Y)(h1:1<=X.length)(hy0:Y[0]?=some y0)(h0:∀x∈X,P o y0 x)
  {Q:Array Keyed->SortSt->Prop} (q:∀out st',Sm st st'->Res o f X Y out->Q out st'):wpS (model prog w) A E s (w_ (fa f X)<|fa f Y) Q st:=by
 rw[DX];kl_no;dsimp only;rw[kZ,kZ];have hY:=(aM.mp hy0).1;refine aV<|jd (kJ hy0) ?_;have m0:Mg o X Y [] 0 0:=⟨cL _,cL _,rfl,List.Pairwise.nil,(nofun),(nofun),(nofun)⟩;have m1:Mg o X Y [y0] 0 1:=ab.v8 m0 hy0 h0;have e1:(#[f y0]:Array Keyed)=fa f [y0]:=rfl;rw[e1];by_cases c:1=Y.length
 ·rw[aK<|by rw[<- c];rfl];exact bg (q _ _ Sm.refl<|m1.fin ab λx _ y hy=>by rw[drop_nil ()]at hy;cases hy)
 ·rw[aJ<|by simpa using c];by_cases c2:0+1=X.length
  ·rw[aK<|by rw[<- c2];rfl];exact bg (q _ _ Sm.refl<|tP ab tp m1 c2)
  ·rw[aJ<|by simpa using c2];refine aV<|f9 ?_;refine aV (dP (cG (I:=λx c st'=>Sm st st'/\∃hs ia ib mg,c=(none,fa f hs,ia,ib,mg)/\On o f X Y (x+1) hs ia ib)
    (Q:=λc st'=>Sm st st'/\∃r z,c=(some r,z)/\Res o f X Y r) ?step ?fin ⟨Sm.refl,_,_,_,_,rfl,m1,(),(),aQ _⟩) ?post)
   case post=>
    rintro c st' ⟨hm,r,z,rfl,hr⟩;exact bg<|q _ _ hm hr
   case fin=>
    rintro c st' ⟨hm,hs,ia,ib,mg,rfl,m,a1,a2,a3⟩;exfalso
    lia
   case step=>
    intro x c st' _ hx hh;revert hh;revert c;refine XX λhm hs ia ib mg ho=>?_;have m:=ho.1;have a1:=ho.2.1;have a2:=ho.2.2.1;have a3:=ho.2.2.2;clear ho;dsimp only;refine aV (dP (cG (I:=λx' c st''=>Sm st st''/\∃hs ia ib ac bc,c=(none,fa f hs,ia,ib,ac,bc)/\On o f X Y (x+1+min x' 1) hs ia ib)
     (Q:=λc st''=>Sm st st''/\((∃r z,c=(some r,z)/\Res o f X Y r)\/∃hs ia ib ac bc,c=(none,fa f hs,ia,ib,ac,bc)/\On o f X Y (x+1+1) hs ia ib)) ?istep ?ifin ⟨hm,_,_,_,_,_,rfl,m,a1,a2,a3⟩) ?ipost)
    case ifin=>
     rintro c st'' ⟨hm',hs,ia,ib,ac,bc,rfl,m,a1,a2,a3⟩;exact⟨hm',.inr ⟨_,_,_,_,_,rfl,m,a1,a2,()⟩⟩
    case istep=>
     intro x' c st'' _ hx' hh;revert hh;revert c;refine XT λhm' hs ia ib ac bc ho=>?_;have m:=ho.1;have a1:=ho.2.1;have a2:=ho.2.2.1;have a3:=ho.2.2.2;clear ho;dsimp only;have hy:=getD_at (l:=Y) (i:=ib) a2;have hxx:=getD_at (l:=X) (i:=ia) ();have yB:=aY hy;have xA:=aY hxx;have lt:=ab.lt _ xA _ yB;f_are;refine aV<|jd (kJ hxx) ?_;refine aV (w6 C (by rw[hm'.k];exact hk) (ab.nb _ yB) (ab.na _ xA) ?_)
     cases hl:o.lt (Y.getD ib 0) (X.getD ia 0)
     ·dsimp[aZ,bN];refine aV<|jd (kJ hxx) ?_;have m2:=m.u9 ab hxx<|pR ab.sb hy<|P.vd hl lt;rw[uc];by_cases c3:ia+1+1=X.length
      ·rw[aK<|by rw[c3];exact bK _];exact bg ⟨hm',.inl ⟨_,_,rfl,tP ab tp m2 c3⟩⟩
      ·rw[aJ<|by simpa using c3];by_cases c4:ac+1>=mg
       ·rw[aK c4];exact bg ⟨hm',.inr ⟨_,_,_,_,_,rfl,m2,(),a2,()⟩⟩
       ·rw[aJ c4];exact bg ⟨hm',_,_,_,_,_,rfl,m2,(),a2,()⟩
     ·dsimp[cE];f_are;have m2:=ab.v8 m hy<|pR ab.sa hxx<|P.of_lt hl;rw[uc];by_cases c3:ib+1=Y.length
      ·rw[aK<|by rw[c3];exact bK _];exact bg ⟨hm',.inl ⟨_,_,rfl,m2.fin ab λx _ y hy=>by rw[drop_nil ()]at hy;cases hy⟩⟩
      ·rw[aJ<|by simpa using c3];by_cases c4:bc+1>=mg
       ·rw[aK c4];exact bg ⟨hm',.inr ⟨_,_,_,_,_,rfl,m2,a1,(),()⟩⟩
       ·rw[aJ c4];exact bg ⟨hm',_,_,_,_,_,rfl,m2,a1,(),()⟩
    case ipost=>
     intro c st'' hh;revert hh;revert c;refine X3 (λhm' r z hr=>?_) λhm' hs ia ib ac bc ho=>?_
     ·dsimp only;exact bg ⟨hm',r,_,rfl,hr⟩
     ·have m:=ho.1;have a1:=ho.2.1;have a2:=ho.2.2.1;have a3:=ho.2.2.2;clear ho;dsimp only;kl_no;refine aV (dP (cG (I:=λx' c st''=>Sm st st''/\∃hs ia ib mg ac bc,c=(none,fa f hs,ia,ib,mg,ac,bc)/\On o f X Y (x+1+1) hs ia ib)
       (Q:=λc st''=>Sm st st''/\((∃r z,c=(some r,z)/\Res o f X Y r)\/∃hs ia ib mg ac bc,c=(none,fa f hs,ia,ib,mg,ac,bc)/\On o f X Y (x+1+1) hs ia ib)) ?jstep ?jfin ⟨hm',_,_,_,_,_,_,rfl,m,a1,a2,a3⟩) ?jpost)
      case jfin=>
       rintro c st3 ⟨hm3,hh⟩;exact⟨hm3,.inr hh⟩
      case jstep=>
       intro x' c st3 _ hx' hh;revert hh;revert c;refine XF λhm3 hs ia ib mg ac bc ho=>?_;have m:=ho.1;have a1:=ho.2.1;have a2:=ho.2.2.1;have a3:=ho.2.2.2;clear ho;dsimp only;have t1:=λmg=>Uo (n:=x+1+1) (mg:=mg) (ac:=ac) (bc:=bc) (E:=E) C hk ab tp hm3 m a1 a2 a3;unfold T1 T2 T3 at t1;rw[kZ,kZ]at t1;refine dP (Q:=G2 o f X Y (x+1+1) st) ?_ ?_
       ·by_cases c3:mg>1
        ·rw[aK c3];exact t1 (mg-1)
        ·rw[aJ c3];exact t1 mg
       ·rintro r st4 ⟨hm4,hr⟩
        cases r with
        | done c=>exact⟨hm4,hr⟩
        | yield c=>exact⟨hm4,hr⟩
      case jpost=>
       intro c st3 hh;revert hh;revert c;refine XR (λhm3 r z hr=>?_) λhm3 hs ia ib mg ac bc ho=>?_
       ·dsimp only;exact bg ⟨hm3,r,_,rfl,hr⟩
       ·have m:=ho.1;have a1:=ho.2.1;have a2:=ho.2.2.1;have a3:=ho.2.2.2;clear ho;dsimp only;refine aV<|tB hm3 λst4 hm4=>?_;exact bg ⟨hm4,_,_,_,_,rfl,m,a1,a2,a3⟩
end
def DJ(a b:Array Keyed):wm a b=(do
 rule "list.sort.merge-hi"
 let all_:=a.size+b.size
 let end1 (acc:Array Keyed) (p q:Nat):=a.extract 0 p++b.extract 0 q++acc.reverse
 let end2 (acc:Array Keyed) (p q:Nat):=b.extract 0 q++a.extract 0 p++acc.reverse
 let mut p:=a.size-1
 let mut q:=b.size
 let mut acc:Array Keyed:=#[<- elem' a p]
 if p == 0 then return end1 acc p q
 if q == 1 then return end2 acc p q
 let mut mg:=gallopOf (<- get)
 for _ in [0:all_] do
  let mut ca:=0
  let mut cb:=0
  for _ in [0:all_] do
   let some won <- lt' (<- elem' b (q-1)) (<- elem' a (p-1))|return end1 acc p q
   if won then
    p:=p-1;acc:=acc.push<|<- elem' a p;ca:=ca+1;cb:=0
    if p == 0 then return end1 acc p q
    if ca>=mg then break
   else
    q:=q-1;acc:=acc.push<|<- elem' b q;cb:=cb+1;ca:=0
    if q == 1 then return end2 acc p q
    if cb>=mg then break
  rule "list.sort.gallop"
  mg:=mg+1
  for _ in [0:all_] do
   if mg>1 then mg:=mg-1
   u7 mg
   let some t <- kI false (<- elem' b (q-1)) a 0 p (p-1)|return end1 acc p q
   let k:=p-t
   ca:=k
   if k>0 then
    acc:=acc++(a.extract t p).reverse;p:=t
    if p == 0 then return end1 acc p q
   q:=q-1;acc:=acc.push (<- elem' b q)
   if q == 1 then return end2 acc p q
   let some t <- kI true (<- elem' a (p-1)) b 0 q (q-1)|return end1 acc p q
   let k:=q-t
   cb:=k
   if k>0 then
    acc:=acc++(b.extract t q).reverse;q:=t
    if q == 1 then return end2 acc p q
    if q == 0 then return end1 acc p q
   p:=p-1;acc:=acc.push (<- elem' a p)
   if p == 0 then return end1 acc p q
   if ca<7 && cb<7 then break
  mg:=mg+1
  u7 mg
 unsupported "internal:list.sort.merge-bound"):=rfl
section
variable {o:Ord}{N:Nat}{f:Nat->Keyed}{A B ts:ag}{na nb:Nat}
def Jx(l:ag):(fa f l).reverse=fa f l.reverse:=by
 unfold fa;rw[List.reverse_toArray,List.map_reverse]
def vL(l:ag)(i:Nat):(fa f l).extract 0 i=fa f (l.take i):=by
 rw[uQ,iz,Nat.sub_zero]
structure Mh (o:Ord)(A B ts:ag)(na nb:Nat):Prop where
 la:na<=A.length
 lb:nb<=B.length
 len:ts.length+na+nb=A.length+B.length
 so:ts.Pairwise (P o)
 mem:∀x∈ts,x∈A\/x∈B
 ua:∀y∈A.take na,∀x∈ts,P o y x
 ub:∀y∈B.take nb,∀x∈ts,P o y x
def t8{l:ag}{y:Nat}(h:y∈l.take i):∃j,j<i/\l[j]?=some y:=by
 obtain⟨k,hk⟩:=gE h;have:=(aM.mp hk).1;rw[bq]at this;rw[dD ()]at hk;exact⟨k,(),hk⟩
def take_one{l:ag}{i x:Nat}(h:l[i]?=some x):l.take (i+1)=l.take i++[x]:=by
 obtain⟨h1,e1⟩:=aM.mp h;rw[f_ h1,e1]
def Mh.u9(ab:Ab o N A B)(m:Mh o A B ts (na+1) nb){x:Nat}(hx:A[na]?=some x)(h:∀y∈B.take nb,P o y x):Mh o A B (x::ts) na nb:=by
 have la:=m.la;have len:=m.len;have ht:=take_one hx;have xin:x∈A.take (na+1):=by rw[ht];exact bA _ (bI.mpr rfl)
 refine⟨(),m.lb,by rw[bz];lia,bZ.mpr ⟨λy hy=>m.ua x xin y hy,m.so⟩,λz hz=>?_,λy hy z hz=>?_,λy hy z hz=>?_⟩
 ·rcases bJ.mp hz with rfl|z'
  ·exact .inl (aY hx)
  ·exact m.mem z z'
 ·rcases bJ.mp hz with rfl|z'
  ·obtain⟨j,hj,ej⟩:=t8 hy;exact qJ ab.sa ej hx hj
  ·exact m.ua y (by rw[ht];exact dH _ hy) z z'
 ·rcases bJ.mp hz with rfl|z'
  ·exact h y hy
  ·exact m.ub y hy z z'
def Mh.LJ(ab:Ab o N A B)(m:Mh o A B ts na<|nb+1){x:Nat}(hx:B[nb]?=some x)(h:∀y∈A.take na,P o y x):Mh o A B (x::ts) na nb:=by
 have lb:=m.lb;have len:=m.len;have ht:=take_one hx;have xin:x∈B.take (nb+1):=by rw[ht];exact bA _ (bI.mpr rfl)
 refine⟨m.la,(),by rw[bz];lia,bZ.mpr ⟨λy hy=>m.ub x xin y hy,m.so⟩,λz hz=>?_,λy hy z hz=>?_,λy hy z hz=>?_⟩
 ·rcases bJ.mp hz with rfl|z'
  ·exact .inr (aY hx)
  ·exact m.mem z z'
 ·rcases bJ.mp hz with rfl|z'
  ·exact h y hy
  ·exact m.ua y hy z z'
 ·rcases bJ.mp hz with rfl|z'
  ·obtain⟨j,hj,ej⟩:=t8 hy;exact qJ ab.sb ej hx hj
  ·exact m.ub y (by rw[ht];exact dH _ hy) z z'
def pY{l:ag}(h:l.Pairwise<|P o){i x:Nat}(hx:l[i]?=some x)(hxy:P o x y):∀z∈l.take (i+1),P o z y:=λz hz=>by
 obtain⟨j,hj,ej⟩:=t8 hz;by_cases c:j=i
 ·subst c;rw[hx]at ej;cases ej;exact hxy
 ·exact(qJ h ej hx ()).trans hxy
theorem Mh.v9(ab:Ab o N A B){mb:Nat}(hy:B[mb]?=some y):∀(k:Nat) {ts:ag}{at_:Nat},Mh o A B ts (at_+k) (mb+1)->(∀i x,at_<=i->i<at_+k->A[i]?=some x->P o y x)->Mh o A B ((A.drop at_).take k++ts) at_ (mb+1)
 | 0,ts,at_,m,_=>by rw[fy];exact m
 | k+1,ts,at_,m,h=>by
  have la:=m.la;have hx:A[at_+k]?=some (A[at_+k]'()):=aG _;have m2:=Mh.u9 ab (show Mh o A B ts (at_+k+1) (mb+1)from m) hx<|pY ab.sb hy<|h _ _ () () hx;have m3:=Mh.v9 ab hy k m2 λi x h1 h2=>h i x h1 ();rw[take_snoc hx,bG];exact m3
theorem Mh.xZ(ab:Ab o N A B){ma:Nat}(hy:A[ma]?=some y):∀(k:Nat) {ts:ag}{at_:Nat},Mh o A B ts (ma+1) (at_+k)->(∀i x,at_<=i->i<at_+k->B[i]?=some x->P o y x)->Mh o A B ((B.drop at_).take k++ts) (ma+1) at_
 | 0,ts,at_,m,_=>by rw[fy];exact m
 | k+1,ts,at_,m,h=>by
  have lb:=m.lb;have hx:B[at_+k]?=some (B[at_+k]'()):=aG _;have m2:=Mh.LJ ab (show Mh o A B ts (ma+1) (at_+k+1)from m) hx<|pY ab.sa hy<|h _ _ () () hx;have m3:=Mh.xZ ab hy k m2 λi x h1 h2=>h i x h1 ();rw[take_snoc hx,bG];exact m3
def vp{l:ag}(h:l.Pairwise<|P o)(i:Nat):(l.take i).Pairwise (P o):=h.sublist<|List.take_sublist ..
def Mh.fin(ab:Ab o N A B)(m:Mh o A B ts na nb)(h:∀x∈A.take na,∀y∈B.take nb,P o x y):Res o f A B ((fa f A).extract 0 na++(fa f B).extract 0 nb++fa f ts):=by
 rw[vL,vL,nL,nL];have la:=m.la;have lb:=m.lb;have len:=m.len;refine⟨_,rfl,by rw[aX,aX,bq,bq];lia,?_,λx hx=>?_⟩
 ·rw[bX,bX];refine⟨⟨vp ab.sa _,vp ab.sb _,h⟩,m.so,λx hx y hy=>?_⟩
  rcases bF.mp hx with z|z
  ·exact m.ua x z y hy
  ·exact m.ub x z y hy
 ·rcases bF.mp hx with z|z
  ·rcases bF.mp z with z|z
   ·exact .inl (cA z)
   ·exact .inr<|cA z
  ·exact m.mem x z
def Mh.Rr(ab:Ab o N A B)(m:Mh o A B ts na nb)(h:∀x∈A.take na,∀y∈B.take nb,P o y x):Res o f A B ((fa f B).extract 0 nb++(fa f A).extract 0 na++fa f ts):=by
 rw[vL,vL,nL,nL];have la:=m.la;have lb:=m.lb;have len:=m.len;refine⟨_,rfl,by rw[aX,aX,bq,bq];lia,?_,λx hx=>?_⟩
 ·rw[bX,bX];refine⟨⟨vp ab.sb _,vp ab.sa _,λx hx y hy=>h y hy x hx⟩,m.so,λx hx y hy=>?_⟩
  rcases bF.mp hx with z|z
  ·exact m.ub x z y hy
  ·exact m.ua x z y hy
 ·rcases bF.mp hx with z|z
  ·rcases bF.mp z with z|z
   ·exact .inr (cA z)
   ·exact .inl<|cA z
  ·exact m.mem x z
abbrev Um (o:Ord)(X Y:ag):Prop:=∀y,Y[0]?=some y->∀x∈X,P o y x
def rC(ab:Ab o N A B)(bt:Um o A B)(m:Mh o A B ts na nb)(h:nb=1):Res o f A B ((fa f B).extract 0 nb++(fa f A).extract 0 na++fa f ts):=
 m.Rr ab λx hx y hy=>by
  obtain⟨j,hj,ej⟩:=t8 hy;have:j=0:=()
  subst this;exact bt y ej x<|cA hx
def Mh.Cv(ab:Ab o N A B)(m:Mh o A B ts na nb)(h:na=0\/nb=0):Res o f A B ((fa f A).extract 0 na++(fa f B).extract 0 nb++fa f ts):=
 m.fin ab λx hx y hy=>by
  rcases h with rfl|rfl
  ·rw[fy]at hx;cases hx
  ·rw[fy]at hy;cases hy
def vY(l:ag)(x:Nat):(fa f l.reverse).push (f x)=fa f (x::l).reverse:=by rw[uc,cZ]
def Lf(l m:ag):fa f l.reverse++(fa f m).reverse=fa f (m++l).reverse:=by rw[Jx,nL,List.reverse_append]
def sN(l:ag):(fa f l.reverse).reverse=fa f l:=by rw[Jx,fB]
end
meta abbrev H:=Option (Array Keyed)×Nat×Nat×Array Keyed×Nat×Nat×Nat
abbrev U3 (a b out:Array Keyed)(na nb mg ac bc:Nat):StateT SortSt Sem (ForInStep H):=do
 let x <- elem' a (na-1)
 if (na-1 == 0)=true then pure (ForInStep.done (some<|a.extract 0 (na-1)++b.extract 0 nb++(out.push x).reverse,na-1,nb,out.push x,mg,ac,bc))
 else if (decide (ac<7) && decide (bc<7))=true then pure (ForInStep.done (none,na-1,nb,out.push x,mg,ac,bc))
 else pure (ForInStep.yield (none,na-1,nb,out.push x,mg,ac,bc))
abbrev U2 (a b out:Array Keyed)(na nb mg ac bc:Nat):StateT SortSt Sem (ForInStep H):=do
 let x <- elem' b (nb-1)
 if (nb-1 == 1)=true then pure (ForInStep.done (some<|b.extract 0 (nb-1)++a.extract 0 na++(out.push x).reverse,na,nb-1,out.push x,mg,ac,bc))
 else
  let y <- elem' a (na-1)
  let r <- kI true y b 0 (nb-1) (nb-1-1)
  match r with
  | some t=>
   if nb-1-t>0 then
    if (t == 1)=true then pure (ForInStep.done (some<|b.extract 0 t++a.extract 0 na++(out.push x++(b.extract t<|nb-1).reverse).reverse,na,t,out.push x++(b.extract t<|nb-1).reverse,mg,ac,nb-1-t))
    else if (t == 0)=true then pure (ForInStep.done (some<|a.extract 0 na++b.extract 0 t++(out.push x++(b.extract t<|nb-1).reverse).reverse,na,t,out.push x++(b.extract t<|nb-1).reverse,mg,ac,nb-1-t))
    else U3 a b (out.push x++(b.extract t<|nb-1).reverse) na t mg ac (nb-1-t)
   else U3 a b (out.push x) na (nb-1) mg ac (nb-1-t)
  | _=>pure<|ForInStep.done (some<|a.extract 0 na++b.extract 0 (nb-1)++(out.push x).reverse,na,nb-1,out.push x,mg,ac,bc)
abbrev U1 (a b out:Array Keyed)(na nb mg ac bc:Nat):StateT SortSt Sem (ForInStep H):=do
 u7 mg
 let x <- elem' b (nb-1)
 let r <- kI false x a 0 na (na-1)
 match r with
 | some t=>
  if na-t>0 then
   if (t == 0)=true then pure (ForInStep.done (some<|a.extract 0 t++b.extract 0 nb++(out++(a.extract t na).reverse).reverse,t,nb,out++(a.extract t na).reverse,mg,na-t,bc))
   else U2 a b (out++(a.extract t na).reverse) t nb mg (na-t) bc
  else U2 a b out na nb mg (na-t) bc
 | _=>pure<|ForInStep.done (some<|a.extract 0 na++b.extract 0 nb++out.reverse,na,nb,out,mg,ac,bc)
section
variable {prog:aj}{w:ah}{A:aA}{E:af->aC->Prop}{s:aC}{o:Ord}{N:Nat}{f:Nat->Keyed}{kd:SortKind}{st st0:SortSt}{X Y ts:ag}{na nb:Nat}
abbrev Oh (o:Ord)(X Y:ag)(n:Nat)(ts:ag)(na nb:Nat):Prop:=Mh o X Y ts na nb/\1<=na/\2<=nb/\na+nb+n<=X.length+Y.length
abbrev H2 (o:Ord)(f:Nat->Keyed)(X Y:ag)(n:Nat)(st0:SortSt):ForInStep H->SortSt->Prop:=λr st'=>Sm st0 st'/\match r with
 | .done c=>(∃r z,c=(some r,z)/\Res o f X Y r)\/∃ts na nb mg ac bc,c=(none,na,nb,fa f ts.reverse,mg,ac,bc)/\Oh o X Y n ts na nb
 | .yield c=>∃ts na nb mg ac bc,c=(none,na,nb,fa f ts.reverse,mg,ac,bc)/\Oh o X Y n ts na nb
def Qh(ab:Ab o N X Y)(hm:Sm st0 st){n mg x:Nat}(m:Mh o X Y ts (na+1)<|nb+1)(hb:1<=nb)(hn:na+1+(nb+1)+n<=X.length+Y.length)(hx:X[na]?=some x)(hy:Y[nb]?=some y)(hxy:P o y x) :
  wpS (model prog w) A E s (U3 (fa f X) (fa f Y) (fa f ts.reverse) (na+1) (nb+1) mg ac bc) (H2 o f X Y n st0) st:=by
 unfold U3;rw[show na+1-1=na by lia];refine aV<|jd (kJ hx) ?_;have m2:=m.u9 ab hx<|pY ab.sb hy hxy;rw[vY,sN];by_cases c:na=0
 ·rw[aK<|by rw[c];rfl];exact bg ⟨hm,.inl ⟨_,_,rfl,m2.Cv ab<|.inl c⟩⟩
 ·rw[aJ<|by simpa using c];by_cases c2:(decide (ac<7) && decide (bc<7))=true
  ·rw[aK c2];exact bg ⟨hm,.inr ⟨_,_,_,_,_,_,rfl,m2,(),(),()⟩⟩
  ·rw[aJ c2];exact bg ⟨hm,⟨_,_,_,_,_,_,rfl,m2,(),(),()⟩⟩
def Qo(C:yN prog w A s o N f kd)(hk:kindOf st=kd)(ab:Ab o N X Y)(bt:Um o X Y)(hm:Sm st0 st){n mg x:Nat}(m:Mh o X Y ts (na+1)<|nb+1)(hb:1<=nb)(hn:na+1+(nb+1)+n<=X.length+Y.length)(hx:X[na]?=some x)(hy:Y[nb]?=some y)(hxy:P o x y) :
  wpS (model prog w) A E s (U2 (fa f X) (fa f Y) (fa f ts.reverse) (na+1) (nb+1) mg ac bc) (H2 o f X Y n st0) st:=by
 unfold U2;rw[show nb+1-1=nb by lia,show na+1-1=na by lia];f_are;have m2:=m.LJ ab hy<|pY ab.sa hx hxy;have lb:=m.lb;rw[vY,sN];by_cases c:nb=1
 ·rw[aK<|by rw[c];rfl];exact bg ⟨hm,.inl ⟨_,_,rfl,rC ab bt m2 c⟩⟩
 ·rw[aJ<|by simpa using c];refine aV<|jd (kJ hx) ?_;refine aV (Kx C hk (h:=λi=>Y.getD (0+i) 0) (λi hi=>kJ<|getD_at ()) (λi hi=>?_) (GA ab.sb _ _ ()) () λt t1 t2 t3=>?_)
  ·have:=aY<|getD_at (l:=Y) (i:=0+i) ();exact⟨ab.lt x (aY hx) _ this,ab.nb _ this⟩
  ·dsimp only;have m3:=Mh.xZ ab hx (nb-t) (at_:=t) (by rw[show t+(nb-t)=nb by lia];exact m2) λi z hi1 hi2 ez=>by
    have:=t3 i hi1 ();rw[eB,aI (l:=Y),ez]at this;exact this
   by_cases c2:nb-t>0
   ·rw[aK c2,uQ Y t nb,Lf,sN];by_cases c3:t=1
    ·rw[aK<|by rw[c3];rfl];exact bg ⟨hm,.inl ⟨_,_,rfl,rC ab bt m3 c3⟩⟩
    ·rw[aJ<|by simpa using c3];by_cases c4:t=0
     ·rw[aK<|by rw[c4];rfl];exact bg ⟨hm,.inl ⟨_,_,rfl,m3.Cv ab<|.inr c4⟩⟩
     ·rw[aJ<|by simpa using c4];obtain⟨u,rfl⟩:∃u,t=u+1:=⟨t-1,()⟩;have:=t2 u ();rw[eB]at this;exact Qh ab hm m3 () () hx (getD_at ()) this
   ·rw[aJ c2];have:t=nb:=()
    subst this;obtain⟨u,rfl⟩:∃u,t=u+1:=⟨t-1,()⟩;have:=t2 u ();rw[eB]at this;exact Qh ab hm m2 () () hx (getD_at ()) this
def U4(C:yN prog w A s o N f kd)(hk:kindOf st0=kd)(ab:Ab o N X Y)(bt:Um o X Y)(hm:Sm st0 st){n mg:Nat}(m:Mh o X Y ts (na+1)<|nb+1)(hb:1<=nb)(hn:na+1+(nb+1)+n<=X.length+Y.length) :
  wpS (model prog w) A E s (U1 (fa f X) (fa f Y) (fa f ts.reverse) (na+1) (nb+1) mg ac bc) (H2 o f X Y n st0) st:=by
 unfold U1;refine aV<|tB hm λst1 hm1=>?_;have lb:=m.lb;have la:=m.la;rw[show nb+1-1=nb by lia,show na+1-1=na by lia];have hy:=getD_at (l:=Y) (i:=nb) ();have yB:=aY hy;f_are;refine aV (IM C (by rw[hm1.k];exact hk) (h:=λi=>X.getD (0+i) 0) (λi hi=>kJ<|getD_at ()) (λi hi=>ab.lt _ (aY<|getD_at (l:=X) (i:=0+i) ()) _ yB) (ab.nb _ yB) (GA ab.sa _ _ ()) () λt t1 t2 t3=>?_);dsimp only;have m3:=Mh.v9 ab hy (na+1-t) (at_:=t) (by rw[show t+(na+1-t)=na+1 by lia];exact m) λi z hi1 hi2 ez=>by
  have:=t3 i hi1 ();rw[eB,aI (l:=X),ez]at this;exact this
 by_cases c2:na+1-t>0
 ·rw[aK c2,uQ X t<|na+1,Lf,sN];by_cases c4:t=0
  ·rw[aK<|by rw[c4];rfl];exact bg ⟨hm1,.inl ⟨_,_,rfl,m3.Cv ab<|.inl c4⟩⟩
  ·rw[aJ<|by simpa using c4];obtain⟨u,rfl⟩:∃u,t=u+1:=⟨t-1,()⟩;have:=t2 u ();rw[eB]at this;exact Qo C (by rw[hm1.k];exact hk) ab bt hm1 m3 hb () (getD_at ()) hy this
 ·rw[aJ c2];have:t=na+1:=()
  subst this;have:=t2 na ();rw[eB]at this;exact Qo C (by rw[hm1.k];exact hk) ab bt hm1 m hb hn (getD_at ()) hy this
def Vk(C:yN prog w A s o N f kd)(hk:kindOf st=kd)(ab:Ab o N X Y)(tp:Top o X Y)(bt:Um o X Y)(h1:1<=X.length)(h2:1<=Y.length)
  {Q:Array Keyed->SortSt->Prop} (q:∀out st',Sm st st'->Res o f X Y out->Q out st'):wpS (model prog w) A E s (wm (fa f X)<|fa f Y) Q st:=by
 rw[DJ];kl_no;dsimp only;rw[kZ,kZ];have hx0:=getD_at (l:=X) (i:=X.length-1) ();refine aV<|jd (kJ hx0) ?_;have m0:Mh o X Y [] (X.length-1+1) Y.length:=⟨(),aQ _,by rw[cg];lia,List.Pairwise.nil,(nofun),(λ_ _ _ h=>nomatch h),(λ_ _ _ h=>nomatch h)⟩;have m1:=m0.u9 ab hx0 λy hy=>tp _ _ hx0 () y<|cA hy;obtain⟨x0,ex0⟩:∃x0,x0=X.getD (X.length-1) 0:=⟨_,rfl⟩;rw[<- ex0]at m1 ⊢;have e1:(#[f x0]:Array Keyed)=fa f [x0].reverse:=rfl;rw[e1,sN];by_cases c:X.length-1=0
 ·rw[aK<|by rw[c];rfl];exact bg (q _ _ Sm.refl<|m1.Cv ab<|.inl c)
 ·rw[aJ<|by simpa using c];by_cases c2:Y.length=1
  ·rw[aK<|by rw[c2];rfl];exact bg (q _ _ Sm.refl<|rC ab bt m1 c2)
  ·rw[aJ<|by simpa using c2];refine aV<|f9 ?_;refine aV (dP (cG (I:=λx c st'=>Sm st st'/\∃ts na nb mg,c=(none,na,nb,fa f ts.reverse,mg)/\Oh o X Y (x+1) ts na nb)
    (Q:=λc st'=>Sm st st'/\∃r z,c=(some r,z)/\Res o f X Y r) ?step ?fin ⟨Sm.refl,_,_,_,_,rfl,m1,(),(),()⟩) ?post)
   case post=>
    rintro c st' ⟨hm,r,z,rfl,hr⟩;exact bg<|q _ _ hm hr
   case fin=>
    rintro c st' ⟨hm,ts,na,nb,mg,rfl,m,a1,a2,a3⟩;exfalso
    lia
   case step=>
    intro x c st' _ hx hh;revert hh;revert c;refine XX λhm ts na nb mg ho=>?_;have m:=ho.1;have a1:=ho.2.1;have a2:=ho.2.2.1;have a3:=ho.2.2.2;clear ho;dsimp only;refine aV (dP (cG (I:=λx' c st''=>Sm st st''/\∃ts na nb ac bc,c=(none,na,nb,fa f ts.reverse,ac,bc)/\Oh o X Y (x+1+min x' 1) ts na nb)
     (Q:=λc st''=>Sm st st''/\((∃r z,c=(some r,z)/\Res o f X Y r)\/∃ts na nb ac bc,c=(none,na,nb,fa f ts.reverse,ac,bc)/\Oh o X Y (x+1+1) ts na nb)) ?istep ?ifin ⟨hm,_,_,_,_,_,rfl,m,a1,a2,a3⟩) ?ipost)
    case ifin=>
     rintro c st'' ⟨hm',ts,na,nb,ac,bc,rfl,m,a1,a2,a3⟩;exact⟨hm',.inr ⟨_,_,_,_,_,rfl,m,a1,a2,()⟩⟩
    case istep=>
     intro x' c st'' _ hx' hh;revert hh;revert c;refine XT λhm' ts na nb ac bc ho=>?_;have m:=ho.1;have a1:=ho.2.1;have a2:=ho.2.2.1;have a3:=ho.2.2.2;clear ho;dsimp only;obtain⟨u,rfl⟩:∃u,na=u+1:=⟨na-1,()⟩;obtain⟨v,rfl⟩:∃v,nb=v+1:=⟨nb-1,()⟩;have la:=m.la;have lb:=m.lb;rw[show u+1-1=u by lia,show v+1-1=v by lia];have hy:=getD_at (l:=Y) (i:=v) ();have hxx:=getD_at (l:=X) (i:=u) ();have yB:=aY hy;have xA:=aY hxx;have lt:=ab.lt _ xA _ yB;f_are;refine aV<|jd (kJ hxx) ?_;refine aV (w6 C (by rw[hm'.k];exact hk) (ab.nb _ yB) (ab.na _ xA) ?_)
     cases hl:o.lt (Y.getD v 0) (X.getD u 0)
     ·dsimp[aZ,bN];f_are;have m2:=m.LJ ab hy<|pY ab.sa hxx<|P.vd hl lt;rw[vY,sN];by_cases c3:v=1
      ·rw[aK<|by rw[c3];rfl];exact bg ⟨hm',.inl ⟨_,_,rfl,rC ab bt m2 c3⟩⟩
      ·rw[aJ<|by simpa using c3];by_cases c4:bc+1>=mg
       ·rw[aK c4];exact bg ⟨hm',.inr ⟨_,_,_,_,_,rfl,m2,a1,(),()⟩⟩
       ·rw[aJ c4];exact bg ⟨hm',_,_,_,_,_,rfl,m2,a1,(),()⟩
     ·dsimp[cE];refine aV<|jd (kJ hxx) ?_;have m2:=m.u9 ab hxx<|pY ab.sb hy<|P.of_lt hl;rw[vY,sN];by_cases c3:u=0
      ·rw[aK<|by rw[c3];rfl];exact bg ⟨hm',.inl ⟨_,_,rfl,m2.Cv ab<|.inl c3⟩⟩
      ·rw[aJ<|by simpa using c3];by_cases c4:ac+1>=mg
       ·rw[aK c4];exact bg ⟨hm',.inr ⟨_,_,_,_,_,rfl,m2,(),a2,()⟩⟩
       ·rw[aJ c4];exact bg ⟨hm',_,_,_,_,_,rfl,m2,(),a2,()⟩
    case ipost=>
     intro c st'' hh;revert hh;revert c;refine X3 (λhm' r z hr=>?_) λhm' ts na nb ac bc ho=>?_
     ·dsimp only;exact bg ⟨hm',r,_,rfl,hr⟩
     ·have m:=ho.1;have a1:=ho.2.1;have a2:=ho.2.2.1;have a3:=ho.2.2.2;clear ho;dsimp only;kl_no;refine aV (dP (cG (I:=λx' c st''=>Sm st st''/\∃ts na nb mg ac bc,c=(none,na,nb,fa f ts.reverse,mg,ac,bc)/\Oh o X Y (x+1+1) ts na nb)
       (Q:=λc st''=>Sm st st''/\((∃r z,c=(some r,z)/\Res o f X Y r)\/∃ts na nb mg ac bc,c=(none,na,nb,fa f ts.reverse,mg,ac,bc)/\Oh o X Y (x+1+1) ts na nb)) ?jstep ?jfin ⟨hm',_,_,_,_,_,_,rfl,m,a1,a2,a3⟩) ?jpost)
      case jfin=>
       rintro c st3 ⟨hm3,hh⟩;exact⟨hm3,.inr hh⟩
      case jstep=>
       intro x' c st3 _ hx' hh;revert hh;revert c;refine XF λhm3 ts na nb mg ac bc ho=>?_;have m:=ho.1;have a1:=ho.2.1;have a2:=ho.2.2.1;have a3:=ho.2.2.2;clear ho;dsimp only;obtain⟨u,rfl⟩:∃u,na=u+1:=⟨na-1,()⟩;obtain⟨v,rfl⟩:∃v,nb=v+1:=⟨nb-1,()⟩;have t1:=λmg=>U4 (n:=x+1+1) (mg:=mg) (ac:=ac) (bc:=bc) (E:=E) C hk ab bt hm3 m () a3;unfold U1 U2 U3 at t1;refine dP (Q:=H2 o f X Y (x+1+1) st) ?_ ?_
       ·by_cases c3:mg>1
        ·rw[aK c3];exact t1 (mg-1)
        ·rw[aJ c3];exact t1 mg
       ·rintro r st4 ⟨hm4,hr⟩
        cases r with
        | done c=>exact⟨hm4,hr⟩
        | yield c=>exact⟨hm4,hr⟩
      case jpost=>
       intro c st3 hh;revert hh;revert c;refine XR (λhm3 r z hr=>?_) λhm3 ts na nb mg ac bc ho=>?_
       ·dsimp only;exact bg ⟨hm3,r,_,rfl,hr⟩
       ·have m:=ho.1;have a1:=ho.2.1;have a2:=ho.2.2.1;have a3:=ho.2.2.2;clear ho;dsimp only;refine aV<|tB hm3 λst4 hm4=>?_;exact bg ⟨hm4,_,_,_,_,rfl,m,a1,a2,a3⟩
end
def Dv(i:Nat):mergeAt' i=(do
 let s <- get
 let(some (a1,n1,pw),some (a2,n2,_)):=((pendingOf s)[i]?,(pendingOf s)[i+1]?)|unsupported "internal:list.sort.pending"
 set (setPending s<|((pendingOf s).setIfInBounds i (a1,n1+n2,pw)).eraseIdxIfInBounds<|i+1)
 let some k <- kI false (<- elem' (arrOf s) a2) (arrOf s) a1 n1 0|return false
 let(a1,n1):=(a1+k,n1-k)
 if n1 == 0 then return true
 let some n2 <- kI true (<- elem' (arrOf s) (a1+n1-1)) (arrOf s) a2 n2 (n2-1)|return false
 if n2 == 0 then return true
 let x:=(arrOf s).extract a1 a2
 let y:=(arrOf s).extract a2 (a2+n2)
 let both <- if n1<=n2 then w_ x y else wm x y
 modify λs=>setArr s (both.toList.zipIdx.foldl (λa (p,j)=>a.setIfInBounds (a1+j) p)<|arrOf s)
 return (failedOf<|<- get).isNone):=rfl
abbrev seg (g:Nat->Nat)(a n:Nat):ag:=(List.range n).map λi=>g<|a+i
section
variable {o:Ord}{N:Nat}{f:Nat->Keyed}{g:Nat->Nat}
def mW(g:Nat->Nat)(a n:Nat):(seg g a n).length=n:=by unfold seg;rw[aL,cK]
def qj{a n i:Nat}(h:i<n):(seg g a n)[i]?=some (g<|a+i):=by unfold seg;rw[a_,cQ h];rfl
def oi{a n x:Nat}(h:x∈seg g a n):∃i,i<n/\x=g (a+i):=by
 obtain⟨i,hi,rfl⟩:=bV.mp h;exact⟨i,dG.mp hi,rfl⟩
def IK{a n:Nat}(h:So o g a<|a+n):(seg g a n).Pairwise (P o):=by
 rw[dj];intro i j hi hj hij;rw[mW]at hi hj;have e1:=qj (g:=g) (a:=a) hi;have e2:=qj (g:=g) (a:=a) hj;rw[aG<|by rw[mW];exact hi]at e1;rw[aG<|by rw[mW];exact hj]at e2;rw[aU e1,aU e2];exact h _ _ () () ()
def Eh{arr:Array Keyed}(hs:arr.size=N)(hg:∀i,i<N->arr[i]?=some (f<|g i)){a n:Nat}(h:a+n<=N):arr.extract a (a+n)=fa f (seg g a n):=by
 apply Array.ext_getElem?;intro i;rw[LU,Array.getElem?_extract];by_cases c:i<n
 ·rw[aK (),qj c,hg _ ()];rfl
 ·rw[aJ (),bC<|by rw[mW];lia];rfl
theorem y_{α:Type}(b:Nat):∀(l:List α) (n:Nat) (arr:Array α),((l.zipIdx n).foldl (λa (p,j)=>a.setIfInBounds (b+j) p) arr).size=arr.size
 | [],_,_=>rfl
 | x::l,n,arr=>by
  rw[List.zipIdx_cons,d9,y_ b l<|n+1];exact Array.size_setIfInBounds ..
theorem Bk{α:Type}(b:Nat):∀(l:List α) (n:Nat) (arr:Array α) (k:Nat),b+n+l.length<=arr.size->((l.zipIdx n).foldl (λa (p,j)=>a.setIfInBounds (b+j) p) arr)[k]?=if b+n<=k/\k<b+n+l.length then l[k-(b+n)]? else arr[k]?
 | [],n,arr,k,h=>by rw[aJ<|by rw[cg];lia];rfl
 | x::l,n,arr,k,h=>by
  rw[bz]at h;rw[List.zipIdx_cons,d9,Bk b l (n+1) _ k<|by rw[Array.size_setIfInBounds];lia,bz];by_cases c:k=b+n
  ·subst c;rw[aJ (),aK (),fH];show(arr.setIfInBounds (b+n) x)[b+n]?=some x;rw[Array.getElem?_setIfInBounds_self_of_lt ()]
  ·by_cases c2:b+n<=k/\k<b+n+(l.length+1)
   ·rw[aK (),aK c2,show k-(b+n)=k-(b+(n+1))+1 by lia,eO]
   ·rw[aJ (),aJ c2]
    skip
    rw[Array.getElem?_setIfInBounds_ne ()]
end
section
variable {prog:aj}{w:ah}{A:aA}{E:af->aC->Prop}{s:aC}{o:Ord}{N:Nat}{f:Nat->Keyed}{kd:SortKind}{g:Nat->Nat}{st:SortSt}
def Ni{Q:PUnit->SortSt->Prop}(h:Q ⟨⟩ st'):wpS (model prog w) A E s (set st':StateT SortSt Sem PUnit) Q st:=by
 unfold wpS;rw[StateT.run_set];exact aO ⟨rfl,h⟩
def UW(C:yN prog w A s o N f kd){l1:List<|Nat×Nat×Nat}{sa na nb pw pv:Nat}(h:Sg N f kd g (l1++(sa,na,pw)::(sa+na,nb,pv)::l2).toArray st)(ha:1<=na)(hb:1<=nb)(hN:sa+na+nb<=N)
  (c1:Cl g sa<|sa+na) (s1:So o g sa<|sa+na) (c2:Cl g (sa+na)<|sa+na+nb) (s2:So o g (sa+na)<|sa+na+nb)
  {Q:Bool->SortSt->Prop} (q:∀g' st',Sg N f kd g' (l1++(sa,na+nb,pw)::l2).toArray st'->Rn o g g' sa (sa+na+nb)->Q true st'):wpS (model prog w) A E s (mergeAt' l1.length) Q st:=by
 rw[Dv];refine aV<|f9 ?_;have e1:(pendingOf st)[l1.length]?=some (sa,na,pw):=by rw[h.pend];simp
 have e2:(pendingOf st)[l1.length+1]?=some (sa+na,nb,pv):=by rw[h.pend];simp
 have e3:((pendingOf st).setIfInBounds l1.length (sa,na+nb,pw)).eraseIdxIfInBounds (l1.length+1)=(l1++(sa,na+nb,pw)::l2).toArray:=by
  rw[h.pend,List.setIfInBounds_toArray,gg];congr 1;rw[c5 _ _<|aQ _,fH,List.eraseIdx_append_of_length_le (),show l1.length+1-l1.length=1 by lia];rfl
 rw[e1,e2];dsimp only;rw[e3];refine aV<|Ni ?_;have h':Sg N f kd g (l1++(sa,na+nb,pw)::l2).toArray (setPending st (l1++(sa,na+nb,pw)::l2).toArray):=⟨h.size,h.get,h.lt,h.kind,h.failed,rfl⟩;obtain⟨st1,hst1⟩:∃st1,st1=setPending st (l1++(sa,na+nb,pw)::l2).toArray:=⟨_,rfl⟩;rw[<- hst1]at h' ⊢;refine aV<|jd (h.get (sa+na) ()) ?_;have b0:=c2 (sa+na) () ();refine aV (IM C h'.kind (h:=λi=>g<|sa+i) (λi hi=>h.get _ ()) (λi hi=>by have:=c1 (sa+i) () ();lia) () (λi j _ a b=>s1 _ _ () () ()) () λk k1 k2 k3=>?_);dsimp only;by_cases cz:na-k=0
 ·rw[aK<|by rw[cz];rfl];refine bg (q g st1 h' ⟨λ_ _=>rfl,λi a b=>?_,λi j a b c=>?_⟩)
  ·by_cases d:i<sa+na
   ·have:=c1 i a d;lia
   ·have:=c2 i () b;lia
  ·by_cases d:j<sa+na
   ·exact s1 i j a b d
   ·by_cases d2:sa+na<=i
    ·exact s2 i j d2 b c
    ·have r:=k2 (i-sa) ();rw[show sa+(i-sa)=i by lia]at r;by_cases d3:j=sa+na
     ·subst d3;exact r
     ·exact r.trans<|s2 _ _ () () c
 ·rw[aJ<|by simpa using cz];have hlast:sa+k+(na-k)-1=sa+na-1:=()
  rw[hlast];refine aV<|jd (h.get (sa+na-1) ()) ?_;have a0:=c1 (sa+na-1) () ();refine aV (Kx C h'.kind (h:=λi=>g<|sa+na+i) (λi hi=>h.get _ ()) (λi hi=>by have:=c2 (sa+na+i) () ();lia) (λi j _ a b=>s2 _ _ () () ()) () λt t1 t2 t3=>?_);dsimp only;by_cases cy:t=0
  ·rw[aK<|by rw[cy];rfl];subst cy;refine bg (q g st1 h' ⟨λ_ _=>rfl,λi a b=>?_,λi j a b c=>?_⟩)
   ·by_cases d:i<sa+na
    ·have:=c1 i a d;lia
    ·have:=c2 i () b;lia
   ·by_cases d:j<sa+na
    ·exact s1 i j a b d
    ·by_cases d2:sa+na<=i
     ·exact s2 i j d2 b c
     ·have r:=t3 (j-(sa+na)) () ();rw[show sa+na+(j-(sa+na))=j by lia]at r;by_cases d3:i=sa+na-1
      ·subst d3;exact r
      ·exact(s1 i (sa+na-1) a () ()).trans r
  ·rw[aJ<|by simpa using cy];have x1:(arrOf st).extract (sa+k) (sa+na)=fa f (seg g (sa+k)<|na-k):=by
    have:=Eh (f:=f) (g:=g) h.size h.get (a:=sa+k) (n:=na-k) ()
    rwa [show sa+k+(na-k)=sa+na by lia]at this
   have x2:(arrOf st).extract (sa+na) (sa+na+t)=fa f (seg g (sa+na) t):=Eh h.size h.get ();rw[x1,x2];have sx:So o g (sa+k) (sa+k+(na-k)):=λi j a b c=>s1 i j () b ();have sy:So o g (sa+na) (sa+na+t):=λi j a b c=>s2 i j a b ();have ab:Ab o N (seg g (sa+k)<|na-k) (seg g (sa+na) t):={
    sa:=IK sx
    sb:=IK sy
    lt:=λx hx y hy=>by
     obtain⟨i,hi,rfl⟩:=oi hx;obtain⟨j,hj,rfl⟩:=oi hy;have:=c1 (sa+k+i) () ();have:=c2 (sa+na+j) () ()
     lia
    nb:=λy hy=>by
     obtain⟨j,hj,rfl⟩:=oi hy;exact h.lt _ ()
    na:=λy hy=>by
     obtain⟨j,hj,rfl⟩:=oi hy;exact h.lt _ ()}
   have tp:Top o (seg g (sa+k)<|na-k) (seg g (sa+na) t):=λi x hx hi y hy=>by
    rw[mW]at hi;rw[qj ()]at hx
    cases hx
    obtain⟨j,hj,rfl⟩:=oi hy;rw[show sa+k+i=sa+na-1 by lia];exact t2 j hj
   have bt:Um o (seg g (sa+k)<|na-k) (seg g (sa+na) t):=λy hy x hx=>by
    rw[qj ()]at hy
    cases hy
    obtain⟨i,hi,rfl⟩:=oi hx;have:=k3 (k+i) () ()
    rwa [<- e_]at this
   have fin:∀out st2,Sm st1 st2->Res o f (seg g (sa+k)<|na-k) (seg g (sa+na) t) out->wpS (model prog w) A E s (do
     modify λs=>setArr s (out.toList.zipIdx.foldl (λa (p,j)=>a.setIfInBounds (sa+k+j) p)<|arrOf s)
     let s <- get
     pure (failedOf s).isNone) Q st2:=by
    rintro out st2 hm ⟨hs,rfl,hlen,hso,hmem⟩;rw[mW,mW]at hlen;refine aV<|eT<|aV<|f9 ?_;have hf:(failedOf st2)=none:=by rw[hm.f];exact h'.failed
    have hmx:∀j x,hs[j]?=some x->(∃i,i<na-k/\x=g (sa+k+i))\/∃i,i<t/\x=g (sa+na+i):=λj x e=>by
     rcases hmem x (aY e)with z|z
     ·exact .inl (oi z)
     ·exact .inr<|oi z
    have ez:(fa f hs).toList=hs.map f:=by unfold fa;rfl
    have hsz:sa+k+0+(hs.map f).length<=(arrOf st2).size:=by rw[aL,hlen,hm.a,h'.size];lia
    refine bg ?_
    skip
    rw[hf];refine q (λi=>if sa+k<=i/\i<sa+k+(na-k+t)then hs.getD (i-(sa+k)) 0 else g i) _ ⟨?_,λi hi=>?_,λi hi=>?_,by rw[show kindOf (setArr st2 _)=kindOf st2 from rfl,hm.k];exact h'.kind,hf,by rw[show pendingOf (setArr st2 _)=pendingOf st2 from rfl,hm.p];exact h'.pend⟩ ?_
    ·have:=y_ (sa+k) (fa f hs).toList 0<|arrOf st2;rw[hm.a,h'.size]at this;rw[<- this,<- hm.a]
    ·skip
     rw[ez,Bk _ _ _ _ _ hsz,aL,hlen,hm.a];by_cases d:sa+k<=i/\i<sa+k+(na-k+t)
     ·rw[aK (),aK d,a_,Nat.add_zero,getD_at (l:=hs) ()];rfl
     ·rw[aJ (),aJ d];exact h'.get i hi
    ·by_cases d:sa+k<=i/\i<sa+k+(na-k+t)
     ·rw[aK d]
      rcases hmx _ _ (getD_at (l:=hs) (i:=i-(sa+k)) ())with⟨j,hj,e⟩|⟨j,hj,e⟩
      ·rw[e];exact h.lt _ ()
      ·rw[e];exact h.lt _ ()
     ·rw[aJ d];exact h.lt i hi
    ·have gin:∀i,sa+k<=i->i<sa+na+t->(if sa+k<=i/\i<sa+k+(na-k+t)then hs.getD (i-(sa+k)) 0 else g i)=hs.getD (i-(sa+k)) 0:=λi a b=>aK ();have gout:∀i,i<sa+k\/sa+na+t<=i->(if sa+k<=i/\i<sa+k+(na-k+t)then hs.getD (i-(sa+k)) 0 else g i)=g i:=λi a=>aJ ();refine⟨λi hi=>gout i (),λi a b=>?_,λi j a b c=>?_⟩
     ·by_cases d:sa+k<=i/\i<sa+na+t
      ·skip
       rw[gin i d.1 d.2]
       rcases hmx _ _ (getD_at (l:=hs) (i:=i-(sa+k)) ())with⟨j,hj,e⟩|⟨j,hj,e⟩
       ·rw[e];have:=c1 (sa+k+j) () ();lia
       ·rw[e];have:=c2 (sa+na+j) () ();lia
      ·skip
       rw[gout i ()];by_cases d2:i<sa+na
       ·have:=c1 i a d2;lia
       ·have:=c2 i () b;lia
     ·skip
      by_cases d1:i<sa+k
      ·rw[gout i<|.inl d1];have r:=k2 (i-sa) ();rw[show sa+(i-sa)=i by lia]at r;by_cases d2:j<sa+k
       ·rw[gout j<|.inl d2];exact s1 i j a b ()
       ·by_cases d3:j<sa+na+t
        ·rw[gin j () d3]
         rcases hmx _ _ (getD_at (l:=hs) (i:=j-(sa+k)) ())with⟨v,hv,e⟩|⟨v,hv,e⟩
         ·rw[e];exact s1 _ _ a () ()
         ·rw[e];by_cases d4:v=0
          ·subst d4;exact r
          ·exact r.trans<|s2 _ _ () () ()
        ·rw[gout j ()];exact r.trans<|s2 _ _ () () c
      ·by_cases d2:i<sa+na+t
       ·rw[gin i () d2];by_cases d3:j<sa+na+t
        ·rw[gin j () d3];exact qJ hso (getD_at ()) (getD_at ()) ()
        ·rw[gout j ()]
         rcases hmx _ _ (getD_at (l:=hs) (i:=i-(sa+k)) ())with⟨v,hv,e⟩|⟨v,hv,e⟩
         ·rw[e];have r:=t3 (j-(sa+na)) () ();rw[show sa+na+(j-(sa+na))=j by lia]at r;by_cases d4:sa+k+v=sa+na-1
          ·rw[d4];exact r
          ·exact(s1 _ (sa+na-1) () () ()).trans r
         ·rw[e];exact s2 _ _ () () c
       ·rw[gout i (),gout j ()];exact s2 i j () b c
   by_cases cl:na-k<=t
   ·rw[aK cl];exact aV (VB C h'.kind ab tp (by rw[mW];lia) (qj ()) (bt _<|qj ()) fin)
   ·rw[aJ cl];exact aV<|Vk C h'.kind ab tp bt (by rw[mW];lia) (by rw[mW];lia) fin
end
meta abbrev pr (x:Nat×Nat×Nat):Nat×Nat:=(x.1,x.2.1)
abbrev p_ (o:Ord)(g:Nat->Nat):List (Nat×Nat)->Nat->Nat->Prop
 | [],a,b=>a=b
 | x::l,a,b=>x.1=a/\1<=x.2/\Cl g a (a+x.2)/\So o g a (a+x.2)/\p_ o g l (a+x.2) b
abbrev PA (o:Ord)(g:Nat->Nat)(p:Array<|Nat×Nat×Nat)(b:Nat):Prop:=p_ o g (p.toList.map pr) 0 b
section
variable {o:Ord}{g:Nat->Nat}
def p_.le:∀{l:List<|Nat×Nat}{a b:Nat},p_ o g l a b->a+l.length<=b
 | [],a,b,h=>by have h:a=b:=h;rw[cg];lia
 | x::l,a,b,h=>by
  have:=h.2.2.2.2.le;have:=h.2.1;rw[bz];lia
def p_.congr{g':Nat->Nat}:∀{l:List<|Nat×Nat}{a b:Nat},p_ o g l a b->(∀i,a<=i->i<b->g' i=g i)->p_ o g' l a b
 | [],a,b,h,_=>h
 | x::l,a,b,h,e=>by
  have hb:=h.2.2.2.2.le;refine⟨h.1,h.2.1,λi h1 h2=>?_,λi j h1 h2 h3=>?_,h.2.2.2.2.congr λi h1 h2=>e i () h2⟩
  ·rw[e i h1 ()];exact h.2.2.1 i h1 h2
  ·rw[e i h1 (),e j () ()];exact h.2.2.2.1 i j h1 h2 h3
theorem p_.app:∀{l m:List<|Nat×Nat}{a b:Nat},p_ o g (l++m) a b ↔ ∃c,p_ o g l a c/\p_ o g m c b
 | [],m,a,b=>⟨λh=>⟨a,rfl,h⟩,λ⟨c,h1,h2⟩=>by have h1:a=c:=h1;subst h1;exact h2⟩
 | x::l,m,a,b=>by
  constructor
  ·rintro⟨h1,h2,h3,h4,h5⟩;obtain⟨c,h6,h7⟩:=p_.app.mp h5;exact⟨c,⟨h1,h2,h3,h4,h6⟩,h7⟩
  ·rintro⟨c,⟨h1,h2,h3,h4,h5⟩,h6⟩;exact⟨h1,h2,h3,h4,p_.app.mpr ⟨c,h5,h6⟩⟩
def QK{p:Array<|Nat×Nat×Nat}(h:i+1<p.size):∃l1 x y l2,p=(l1++x::y::l2).toArray/\l1.length=i:=by
 have h':i+1<p.toList.length:=h;refine⟨p.toList.take i,p.toList[i],p.toList[i+1],p.toList.drop<|i+2,?_,by rw[bq];lia⟩;apply Array.toList_inj.mp
 skip
 conv=>lhs;rw[<- dw i p.toList,bW<|show i<p.toList.length by lia,bW h']
end
section
variable {prog:aj}{w:ah}{A:aA}{E:af->aC->Prop}{s:aC}{o:Ord}{N:Nat}{f:Nat->Keyed}{kd:SortKind}{g:Nat->Nat}{p:Array (Nat×Nat×Nat)}{st:SortSt}
def CD(C:yN prog w A s o N f kd)(h:Sg N f kd g p st){lo:Nat}(hp:PA o g p lo)(hlo:lo<=N)(hi:i+1<p.size)
  {Q:Bool->SortSt->Prop} (q:∀g' p' st',Sg N f kd g' p' st'->PA o g' p' lo->p'.size+1=p.size->(∀k,lo<=k->g' k=g k)->Q true st'):wpS (model prog w) A E s (mergeAt' i) Q st:=by
 obtain⟨l1,⟨sa,na,pw⟩,⟨sb,nb,pv⟩,l2,rfl,rfl⟩:=QK hi;unfold PA at hp;rw[show(l1++(sa,na,pw)::(sb,nb,pv)::l2).toArray.toList=l1++(sa,na,pw)::(sb,nb,pv)::l2 from rfl,cj]at hp;obtain⟨c,h1,h2⟩:=p_.app.mp hp;obtain⟨e1,n1,cl1,so1,e2,n2,cl2,so2,rest⟩:=h2;have e1:sa=c:=e1;subst e1;have e2:sb=sa+na:=e2;subst e2;have l2b:=rest.le;have n1:1<=na:=n1;have n2:1<=nb:=n2;have l2b:sa+na+nb<=lo:=by
  have:sa+na+nb+(List.map pr l2).length<=lo:=l2b
  lia
 refine UW C h n1 n2 () cl1 so1 cl2 so2 λg' st' h' R=>q g' _ st' h' ?_ (by simp;lia) λk hk=>R.out k ();unfold PA;rw[show(l1++(sa,na+nb,pw)::l2).toArray.toList=l1++(sa,na+nb,pw)::l2 from rfl,cj];refine p_.app.mpr ⟨sa,h1.congr λi a b=>R.out i (),rfl,by show 1<=na+nb;lia,?_,?_,?_⟩
 ·show Cl g' sa (sa+(na+nb));rw[<- e_];exact R.cl
 ·show So o g' sa (sa+(na+nb));rw[<- e_];exact R.so
 ·skip
  rw[<- e_];exact rest.congr λi a b=>R.out i<|.inr a
def yu{p:Array<|Nat×Nat×Nat}{lo:Nat}{u:Nat×Nat×Nat->Nat×Nat×Nat}(hu:∀x,pr (u x)=pr x)(h:PA o g p lo):PA o g (p.modify i u) lo:=by
 unfold PA at h ⊢;have:(p.modify i u).toList.map pr=p.toList.map pr:=by
  rw[Array.toList_modify];apply bR;intro k;rw[a_,a_,List.getElem?_modify]
  cases p.toList[k]? with
  | none=>rfl
  | some x=>
   show some (pr<|if i=k then u x else x)=some (pr x);by_cases c:i=k
   ·rw[aK c,hu x]
   ·rw[aJ c]
 rw[this];exact h
def vM{p:Array<|Nat×Nat×Nat}{lo n v:Nat}(h:PA o g p lo)(hn:1<=n)(c:Cl g lo<|lo+n)(d:So o g lo<|lo+n):PA o g (p.push (lo,n,v)) (lo+n):=by
 unfold PA at h ⊢;rw[fj,cj];exact p_.app.mpr ⟨lo,h,rfl,hn,c,d,rfl⟩
def Sg.T6(h:Sg N f kd g p st)(p':Array<|Nat×Nat×Nat):Sg N f kd g p' (setPending st p'):=⟨h.size,h.get,h.lt,h.kind,h.failed,rfl⟩
def OX(C:yN prog w A s o N f kd)(h:Sg N f kd (λi=>i) #[] st)(hN:1<=N)
  {Q:Unit->SortSt->Prop} (q:∀g' p' st',Sg N f kd g' p' st'->Cl g' 0 N->So o g' 0 N->Q Unit.unit st'):wpS (model prog w) A E s sortRuns' Q st:=by
 rw[sortRuns'_eq];refine aV<|f9 ?_;dsimp only;rw[h.size];refine aV (dP (cG
  (I:=λx c st'=>∃lo g p,c=(none,lo)/\lo<=N/\(x<=lo\/lo=N)/\Sg N f kd g p st'/\PA o g p lo/\(∀i,lo<=i->g i=i))
  (Q:=λc st'=>∃g p,c=(none,N)/\Sg N f kd g p st'/\PA o g p N) ?step ?fin ⟨0,_,_,rfl,cL _,.inl<|aQ _,h,rfl,λ_ _=>rfl⟩) ?post)
 case fin=>
  rintro c st' ⟨lo,g,p,rfl,h1,h2,h3,h4,h5⟩;have:lo=N:=()
  subst this;exact⟨g,p,rfl,h3,h4⟩
 case step=>
  intro x c st' _ hx hh;revert hh;revert c;refine YA λlo g p hh=>?_;have h1:=hh.1;have h2:=hh.2.1;have h3:=hh.2.2.1;have h4:=hh.2.2.2.1;have h5:=hh.2.2.2.2;clear hh;dsimp only;by_cases hge:lo>=N
  ·rw[aK hge];have:lo=N:=()
   subst this;exact bg ⟨g,p,rfl,h3,h4⟩
  ·rw[aJ hge];refine aV<|LM C h3 () () (λi a b=>h5 i a) λm g1 st1 s1 m1 m2 R1=>?_;dsimp only;by_cases c2:m<minRun' N N 0
   ·rw[aK c2];kl_no;refine aV<|Td C s1 () m1 () R1 (λi a b=>h5 i ()) λg2 st2 s2 R2=>?_;rw[aJ ⋯];have n2:1<=min (N-lo) (minRun' N N 0):=()
    have n3:lo+min (N-lo) (minRun' N N 0)<=N:=()
    refine aV<|f9 ?_;rw[s2.pend];have hp2:=p_.congr h4 λi a b=>R2.out i (.inl b)
    cases e:p.back? with
    | none=>
     dsimp only;refine aV (eT<|bg ⟨_,_,_,rfl,n3,(),s2.T6 _,?_,λi hi=>by rw[R2.out i<|.inr hi,h5 i ()]⟩);rw[s2.pend];exact vM hp2 n2 R2.cl R2.so
    | some y=>
     obtain⟨y1,y2,y3⟩:=y;dsimp only;refine aV (dP (cG (I:=λ_ c st'=>c=(none,Unit.unit)/\∃g' p',Sg N f kd g' p' st'/\PA o g' p' lo/\(∀k,lo<=k->g' k=g2 k)) (Q:=λc st'=>c=(none,Unit.unit)/\∃g' p',Sg N f kd g' p' st'/\PA o g' p' lo/\(∀k,lo<=k->g' k=g2 k)) ?vstep (λ_ _ h=>h) ⟨rfl,_,_,s2,hp2,λ_ _=>rfl⟩) ?vpost)
     case vstep=>
      rintro x c st' _ hx ⟨rfl,g',p',h1,h2,h3⟩;refine aV<|f9 ?_;rw[h1.pend];by_cases c:p'.size>1
      ·rw[aK c]
       cases e:p'[p'.size-2]? with
       | none=>exact bg ⟨rfl,g',p',h1,h2,h3⟩
       | some y=>
        obtain⟨y1,y2,y3⟩:=y;dsimp only;split
        ·exact bg ⟨rfl,g',p',h1,h2,h3⟩
        ·refine aV<|CD C h1 h2 () () λg3 p3 st3 s3 q3 _ z3=>?_;exact bg ⟨rfl,g3,p3,s3,q3,λk hk=>by rw[z3 k hk,h3 k hk]⟩
      ·rw[aJ c];exact bg ⟨rfl,g',p',h1,h2,h3⟩
     case vpost=>
      rintro c st' ⟨rfl,g',p',h1,h2,h3⟩;dsimp only;refine aV (eT<|aV<|eT<|bg ⟨_,_,_,rfl,n3,(),(h1.T6 _).T6 _,?_,λi hi=>by rw[h3 i (),R2.out i<|.inr hi,h5 i ()]⟩)
      skip
      rw[h1.pend];exact vM (yu (λ_=>rfl) h2) n2 (λi a b=>by rw[h3 i a];exact R2.cl i a b) λi j a b c=>by rw[h3 i a,h3 j ()];exact R2.so i j a b c
   ·rw[aJ c2];have n3:lo+m<=N:=()
    obtain⟨g2,hg2⟩:∃g2,g2=g1:=⟨_,rfl⟩;rw[<- hg2]at R1 s1;have R2:=R1;have s2:=s1;have n2:=m1;refine aV<|f9 ?_;rw[s2.pend];have hp2:=p_.congr h4 λi a b=>R2.out i (.inl b)
    cases e:p.back? with
    | none=>
     dsimp only;refine aV (eT<|bg ⟨_,_,_,rfl,n3,(),s2.T6 _,?_,λi hi=>by rw[R2.out i<|.inr hi,h5 i ()]⟩);rw[s2.pend];exact vM hp2 n2 R2.cl R2.so
    | some y=>
     obtain⟨y1,y2,y3⟩:=y;dsimp only;refine aV (dP (cG (I:=λ_ c st'=>c=(none,Unit.unit)/\∃g' p',Sg N f kd g' p' st'/\PA o g' p' lo/\(∀k,lo<=k->g' k=g2 k)) (Q:=λc st'=>c=(none,Unit.unit)/\∃g' p',Sg N f kd g' p' st'/\PA o g' p' lo/\(∀k,lo<=k->g' k=g2 k)) ?vstep (λ_ _ h=>h) ⟨rfl,_,_,s2,hp2,λ_ _=>rfl⟩) ?vpost)
     case vstep=>
      rintro x c st' _ hx ⟨rfl,g',p',h1,h2,h3⟩;refine aV<|f9 ?_;rw[h1.pend];by_cases c:p'.size>1
      ·rw[aK c]
       cases e:p'[p'.size-2]? with
       | none=>exact bg ⟨rfl,g',p',h1,h2,h3⟩
       | some y=>
        obtain⟨y1,y2,y3⟩:=y;dsimp only;split
        ·exact bg ⟨rfl,g',p',h1,h2,h3⟩
        ·refine aV<|CD C h1 h2 () () λg3 p3 st3 s3 q3 _ z3=>?_;exact bg ⟨rfl,g3,p3,s3,q3,λk hk=>by rw[z3 k hk,h3 k hk]⟩
      ·rw[aJ c];exact bg ⟨rfl,g',p',h1,h2,h3⟩
     case vpost=>
      rintro c st' ⟨rfl,g',p',h1,h2,h3⟩;dsimp only;refine aV (eT<|aV<|eT<|bg ⟨_,_,_,rfl,n3,(),(h1.T6 _).T6 _,?_,λi hi=>by rw[h3 i (),R2.out i<|.inr hi,h5 i ()]⟩)
      skip
      rw[h1.pend];exact vM (yu (λ_=>rfl) h2) n2 (λi a b=>by rw[h3 i a];exact R2.cl i a b) λi j a b c=>by rw[h3 i a,h3 j ()];exact R2.so i j a b c
 case post=>
  rintro c st' ⟨g,p,rfl,h1,h2⟩;dsimp only;refine aV (dP (cG
   (I:=λx c st''=>c=(none,Unit.unit)/\∃g p,Sg N f kd g p st''/\PA o g p N/\(p.size<=1\/p.size+x<=N))
   (Q:=λc st''=>c=(none,Unit.unit)/\∃g p,Sg N f kd g p st''/\PA o g p N/\p.size<=1) ?fstep ?ffin ⟨rfl,g,p,h1,h2,.inr ?finit⟩) ?fpost)
  case finit=>
   have:=p_.le h2;rw[aL]at this;show p.toList.length+0<=N
   lia
  case ffin=>
   rintro c st'' ⟨rfl,g,p,h1,h2,h3⟩;exact⟨rfl,g,p,h1,h2,()⟩
  case fstep=>
   rintro x c st'' _ hx ⟨rfl,g,p,h1,h2,h3⟩;refine aV<|f9 ?_;rw[h1.pend];by_cases c:p.size<=1
   ·rw[aK c];exact bg ⟨rfl,g,p,h1,h2,c⟩
   ·rw[aJ c];have il:∀(d:Prop) [Decidable d],(if d then p.size-2-1 else p.size-2)+1<p.size:=λd _=>by
     by_cases hd:d
     ·rw[aK hd];lia
     ·rw[aJ hd];lia
    refine aV<|CD C h1 h2 (aQ _) (il _) λg' p' st3 s3 q3 z3 _=>?_;exact bg ⟨rfl,g',p',s3,q3,()⟩
  case fpost=>
   rintro c st'' ⟨rfl,g,p,h1,h2,h3⟩;dsimp only;refine bg ?_;unfold PA at h2;have h3:p.toList.length<=1:=h3
   match hl:p.toList,h3 with
   | [],_=>
    rw[hl]at h2;have:0=N:=h2
    lia
   | [x],_=>
    rw[hl]at h2;obtain⟨e1,e2,e3,e4,e5⟩:=h2;have e5:0+x.2.1=N:=e5;have e3:Cl g 0 (0+x.2.1):=e3;have e4:So o g 0 (0+x.2.1):=e4;rw[e5]at e3 e4;exact q g p st'' h1 e3 e4
end
meta abbrev OE (h:aq)(a:ak)(vs:ar):aq:=((h.update a<|Obj.mapSeq λ_=>#[]).push<|seqObj "tuple" vs.toArray 0).push<|seqObj "list" #[] 0
meta abbrev vv (vs:ar)(i:Nat):Keyed:=(vs.getD i .none,vs.getD i .none)
def zip_get(vs:ar){i:Nat}(h:i<vs.length):(vs.toArray.zip vs.toArray)[i]?=some (vv vs i):=by
 have e:vs[i]?=some (vs.getD i .none):=by rw[aI,aG h];rfl
 rw[Array.getElem?_zip_eq_some];exact⟨by rw[d7];exact e,by rw[d7];exact e⟩
section
variable {prog:aj}{w:ah}{A:aA}{E:af->aC->Prop}{s:aC}{o:Ord}{kd:SortKind}
def HL{a:ak}{vs:ar}{n:Nat}{P:PySem.Fin->aC->Prop}(hL:s.heap.get? a=some (seqObj "list" vs.toArray n))(hsz:vs.length<=sizeLine)
  (hkk:2<=vs.length->∀Q:SortKind->aC->Prop,Q kd { s with heap:=OE s.heap a vs }->wpAny (model prog w) A (keyKind' vs.toArray) Q E { s with heap:=OE s.heap a vs })
  (C:2<=vs.length->yN prog w A { s with heap:=OE s.heap a vs } o vs.length (vv vs) kd)
  (h:∀g,Cl g 0 vs.length->So o g 0 vs.length->P (.done<|.ret .none) { s with heap:=sortedHeap s.heap a vs ((List.range vs.length).map λi=>vs.getD (g i) .none).toArray }) :
  wpAny (model prog w) A (Builtin.«list.sort» ⟨[.ref a],[]⟩) P E s:=by
 rw[list_sort_plain];have lta:a<s.heap.objs.size:=br hL;refine aH<|listItems_at hL rfl ?_;refine aH (listUpdate_at hL rfl ?_ (by rw[aW];exact hsz)<|cL _);obtain⟨ep,hL1⟩:∃ep,(s.heap.update a<|Obj.mapSeq λ_=>#[]).get? a=some (seqObj "list" #[] ep):=⟨_,get?_update_seq hL λ_=>#[]⟩;refine aH<|seqEpoch_at hL1 rfl ?_;refine aH<|wpAny_newTuple ?_;refine aH<|wpAny_newList ?_;refine dh ?_;have hL6:(OE s.heap a vs).get? a=some (seqObj "list" #[] ep):=by
  rw[Heap.get?_push_ne _ _ _<|by rw[size_push',Heap.size_update];exact bD<|Nat.lt_succ_of_lt lta,Heap.get?_push_ne _ _ _<|by rw[Heap.size_update];exact bD lta];exact hL1
 skip
 dsimp only;have hz:vs.toArray.size=vs.length:=by simp
 have getE:∀i,i<vs.length->vs[i]?=some (vs.getD i .none):=λi hi=>by rw[aI,aG hi];rfl
 have Q2:∀(arr:Array Keyed) (g:Nat->Nat),arr.size=vs.length->(∀i,i<vs.length->arr[i]?=some (vv vs<|g i))->arr.map (·.2)=((List.range vs.length).map λi=>vs.getD (g i) .none).toArray:=λarr g h1 two=>by
  apply Array.ext_getElem?;intro i;have e0:((List.range vs.length).map λi=>vs.getD (g i) Value.none).toArray[i]?=((List.range vs.length).map λi=>vs.getD (g i) Value.none)[i]?:=d7 ..;rw[Array.getElem?_map,e0,a_];by_cases c:i<vs.length
  ·rw[two i c,cQ c];rfl
  ·rw[Array.getElem?_eq_none (),bC<|by rw[cK];lia];rfl
 by_cases two:vs.toArray.size<2
 ·rw[aK two,aK two];refine aH<|aO ?_;rw[StateT.run_pure];refine aH<|aO ?_;dsimp only;refine aH<|seqEpoch_at hL6 rfl ?_;have oe:=Q2 (vs.toArray.zip vs.toArray) (λi=>i) (by rw[iA,hz];lia) λi hi=>zip_get vs hi;refine aH (listUpdate_at hL6 rfl ?_ (by simp) (hsz2:=by rw[size_map];show(vs.toArray.zip vs.toArray).size<=_;rw[iA,hz];lia));dsimp[g7,aZ,bN];refine aO ?_;have:=h (λi=>i) (λi a b=>⟨a,b⟩) λi j a b c=>();rw[<- oe]at this;exact this
 ·rw[aJ two,aJ two];have h2':2<=vs.length:=()
  refine aH<|hkk h2' _ ?_;refine aH (fP (OX (f:=vv vs) (N:=vs.length) (C h2') (st:=SortSt.mk' kd (vs.toArray.zip vs.toArray) #[] 7 none)
   (Q:=λ_ st'=>∃g p,Sg vs.length (vv vs) kd g p st'/\Cl g 0 vs.length/\So o g 0 vs.length)
   ⟨by show(vs.toArray.zip vs.toArray).size=_;rw[iA,hz];lia,λi hi=>zip_get vs hi,λi hi=>hi,rfl,rfl,rfl⟩ () λg' p' st' a1 a2 a3=>⟨g',p',a1,a2,a3⟩) ?_ λ_ _ e=>e)
  rintro⟨⟨⟩,st'⟩ s' ⟨rfl,g,p,hS,hc,hso⟩;dsimp only;refine aH<|seqEpoch_at hL6 rfl ?_;have oe:=Q2 (arrOf st') g hS.size hS.get;refine aH (listUpdate_at hL6 rfl ?_ (by simp) (hsz2:=by have hh:(arrOf st').size=vs.length:=hS.size;show((arrOf st').map (·.2)).size<=_;rw[size_map,hh];lia));rw[hS.failed];dsimp[g7,aZ,bN];have:=h g hc hso;rw[<- oe]at this;exact aO this
end
section
variable {prog:aj}{w:ah}{A:aA}{E:af->aC->Prop}{s:aC}
def NU(b:Bool){x y:Int}{Q:Bool->aC->Prop}(h:Q (decide<|x<y) s):wpAny (model prog w) A (oneLt' b (.int x t)<|.int y u) Q E s:=by
 cases b with
 | true=>exact oneLt_int h
 | false=>
  rw[oneLt'_eq];dsimp[aZ,bN];exact aH<|PySem.P.lt_int<|cY h
end
theorem Gv:∀a:ae,HT.lexLt a a=false
 | []=>HT.yg
 | x::a=>by rw[HT.qe,aK rfl];exact Gv a
end Sx
namespace L2
open PySem PySem.Spec PyProof.Rows
section
theorem yL:∀{rs:ba}{its:ar},Vals (rs.map V.ref) its->its=rs.map Value.ref
 | [],_,r=>by cases r;rfl
 | a::rs,_,r=>by
  cases r with
  | cons h t=>
   have e:_=Value.ref a:=h;rw[e,yL t];rfl
end
end L2
namespace Sx
open PySem PyProof.Rows
open PySem.AutoSeq1 (wpAny_loadPart')
open PySem.MeetsSeq PySem.MeetsSeq2 PySem.MeetsSeq3
theorem vH:∀{xs:ar}{ns:ae}{i:Nat},IntsAre xs ns->i<ns.length->∃t,xs[i]?=some (.int (ns.getD i 0) t)
 | _,_,i,.nil,h=>absurd h (d_ _)
 | _,_,0,.cons n t h,_=>⟨t,rfl⟩
 | _,_,i+1,.cons n t h,hi=>by
  obtain⟨t',e⟩:=vH h (i:=i) (by simpa using hi);exact⟨t',by simpa using e⟩
end Sx
namespace Am
open PySem
inductive A where
 | unb|non|bl (b:Bool)|int (i:Int)|str (x:Str)|tup (xs:List A)|frz (xs:List A)|rng (lo hi:Int)|ref (n:Nat)|exn (c:Str)|ty (n:String)|ktu (xs:List A)
@[reducible]def ad:=List A
inductive O where
 | lst (xs:ad)|dct (kvs:List<|ae×A)|o5 (kvs:List<|Int×A)|qp (kvs:List<|L2.kh×A)|ins (c:Str) (fs:List<|Str×A)
meta abbrev iI:=List O
inductive R (α:Type) where
 | ok (a:α) (S:iI)|ex (c:Str) (S:iI)|no
abbrev R.bind {α β:Type}(r:R α)(f:α->iI->R β):R β:=match r with
 | .ok a S=>f a S
 | .ex c S=>.ex c S
 | .no=>.no
abbrev R.post {α:Type}(r:R α)(P:α->iI->Prop)(E:Str->iI->Prop):Prop:=match r with
 | .ok a S=>P a S
 | .ex c S=>E c S
 | .no=>False
def iM{α β:Type}{r:R α}{f:α->iI->R β}{P:β->iI->Prop}{E:Str->iI->Prop}(h:(r.bind f).post P E):r.post (λa S=>(f a S).post P E) E:=by
 cases r<;>exact h
def G6{α:Type}{r:R α}{P P':α->iI->Prop}{E E':Str->iI->Prop}(h:r.post P E)(hp:∀a S,P a S->P' a S)(he:∀c S,E c S->E' c S):r.post P' E':=by
 cases r with
 | ok a S=>exact hp _ _ h
 | ex c S=>exact he _ _ h
 | no=>exact h.elim
abbrev gd {α:Type}(c:Prop)[Decidable c](r:R α):R α:=if c then r else .no
abbrev opt {α β:Type}(o:Option β)(f:β->R α):R α:=match o with
 | some b=>f b
 | none=>.no
def i6{α:Type}{c:Prop}[Decidable c]{r:R α}{P:α->iI->Prop}{E:Str->iI->Prop}(h:(gd c r).post P E):c/\r.post P E:=by
 unfold gd at h;by_cases hc:c
 ·rw[aK hc]at h;exact⟨hc,h⟩
 ·rw[aJ hc]at h;exact h.elim
def iR{α β:Type}{o:Option β}{f:β->R α}{P:α->iI->Prop}{E:Str->iI->Prop}(h:(opt o f).post P E):∃b,o=some b/\(f b).post P E:=by
 cases o with
 | none=>exact h.elim
 | some b=>exact⟨b,rfl,h⟩
def IW{α:Type}{c:Prop}[Decidable c]{r:R α}(h:c):gd c r=r:=aK h
abbrev iH (S:iI)(n:Nat):Option (ad):=match S[n]? with
 | some (.lst xs)=>some xs
 | _=>none
def iV{n:Nat}(h:iH S n=some xs):S[n]?=some (.lst xs):=by
 unfold iH at h;split at h
 ·rename_i e;cases h;exact e
 ·cases h
def qL{S:iI}{n:Nat}(h:S[n]?=some (.lst xs)):iH S n=some xs:=by
 unfold iH;rw[h]
inductive RS where
 | nx (τ:ad) (S:iI)|rt (a:A) (S:iI)|bk (τ:ad) (S:iI)|ct (τ:ad) (S:iI)|ex (c:Str) (S:iI)|no
meta abbrev Ex:=ad->iI->R A
meta abbrev p5:=ad->iI->R (ad)
meta abbrev Te:=ad->iI->R Bool
meta abbrev Sm:=ad->iI->RS
meta abbrev Tg:=A->ad->iI->R (ad)
end Am
namespace Am
open PySem L2
section
variable (K:au) (ρ:ba) (H:Hp)
abbrev Wv (K:au)(c:Str)(C:ak):Prop:=PySem.W.nsIn K mainGlobals c=some (some<|.ref C)
abbrev Fz (K:au)(H:Hp)(a:ak)(vs:List V):Prop:=
 (∃o,H a=some (.frz o<|.lst vs))\/∃(o:Obj) (its:Array af) (n:Nat),K.lookup a=some o/\o.cls=.type "list" /\ o.dict=none/\o.data=.seq its n/\its.size<=sizeLine/\Vals vs its.toList
abbrev Yq (K:au)(a:ak)(vs:List V):Prop:=∃(o:Obj) (its:Array af) (n:Nat),K.lookup a=some o/\o.cls=.type "tuple" /\ o.dict=none/\o.data=.seq its n/\its.size<=sizeLine/\Vals vs its.toList
mutual
inductive AV:A->V->Prop
 | non:AV .non .non
 | bl (b:Bool):AV (.bl b) (.bl b)
 | int (i:Int):AV (.int i) (.int i)
 | str (x:Str):AV (.str x) (.str x)
 | ty (n:String):AV (.ty n) (.ty n)
 | tup {a:ak} {xs:ad} {vs:List V} (h:H a=some (.tup vs)) (r:AVs xs vs):AV (.tup xs) (.ref a)
 | frz {a:ak} {xs:ad} {vs:List V} (h:Fz K H a vs) (r:AVs xs vs):AV (.frz xs) (.ref a)
 | rng {a:ak} {lo hi:Int} (h:H a=some (.rng lo hi)):AV (.rng lo hi) (.ref a)
 | ref {a:ak} {n:Nat} (h:ρ[n]?=some a):AV (.ref n) (.ref a)
 | exn {a C:ak} {c:Str} {oe:Obj} (n:Wv K c C) (h:H a=some (.frz oe xu)) (x:XO C oe):AV (.exn c) (.ref a)
 | ktu {a:ak} {xs:ad} {vs:List V} (h:Yq K a vs) (r:AVs xs vs):AV (.ktu xs)<|.ref a
inductive AVs:ad->List V->Prop
 | nil:AVs [] []
 | cons {x:A} {v:V} {xs:ad} {vs:List V} (h:AV x v) (t:AVs xs vs):AVs (x::xs) (v::vs)
end
abbrev DV:List (ae×A)->List (List Key×V)->Prop
 | [],[]=>True
 | p::r,q::r'=>(q.1=p.1.map Sum.inl/\AV K ρ H p.2 q.2)/\DV r r'
 | _,_=>False
abbrev DI:List (Int×A)->List (Key×V)->Prop
 | [],[]=>True
 | p::r,q::r'=>(q.1=Sum.inl p.1/\AV K ρ H p.2 q.2)/\DI r r'
 | _,_=>False
abbrev DP:List (L2.kh×A)->List (L2.kh×ak×af)->Prop
 | [],[]=>True
 | p::r,q::r'=>(q.1=p.1/\L2.pU H q.2.1 q.1/\∃v,RelV v q.2.2/\AV K ρ H p.2 v)/\DP r r'
 | _,_=>False
abbrev OR (a:ak):O->Prop
 | .lst xs=>∃vs,H a=some (.lst vs)/\AVs K ρ H xs vs
 | .dct kvs=>∃ks,H a=some (.dT ks)/\DV K ρ H kvs ks
 | .o5 kvs=>∃ks,H a=some (.dK ks)/\DI K ρ H kvs ks
 | .qp kvs=>∃xs,H a=some (.ext<|L2.sM a xs)/\DP K ρ H kvs xs
 | .ins _ _=>∃o u,H a=some (.frz o u)
structure Rel (S:iI):Prop where
 len:ρ.length=S.length
 nd:ρ.Nodup
 «at»:∀(n:Nat) (a:ak) (o:O),ρ[n]?=some a->S[n]?=some o->OR K ρ H a o
end
abbrev Yi:HO->Prop
 | .tup _=>True
 | .rng _ _=>True
 | .frz _ _=>True
 | _=>False
structure Ext0 (ρ ρ':ba)(H H':Hp):Prop where
 pre:ρ <+: ρ'
 im:∀a u,Yi u->H a=some u->H' a=some u
structure Ext (ρ ρ':ba)(H H':Hp):Prop extends Ext0 ρ ρ' H H' where
 fr:∀a u,H a=some u->a∉ρ->H' a=some u
 nw:∀a,a∈ρ'->a∈ρ\/H a=none
def Ext.refl{H:Hp}:Ext ρ ρ H H:=⟨⟨dU _,λ_ _ _ h=>h⟩,λ_ _ h _=>h,λ_ h=>.inl h⟩
def Ext.trans{H H1 H2:Hp}(a:Ext ρ ρ1 H H1)(b:Ext ρ1 ρ2 H1 H2):Ext ρ ρ2 H H2:=⟨⟨a.pre.trans b.pre,λx u i h=>b.im x u i<|a.im x u i h⟩,λx u h n=>b.fr x u (a.fr x u h n) λz=>(a.nw x z).elim n λz=>by(rw[z]at h;cases h),λx h=>by
 by_cases hx:x∈ρ
 ·exact .inl hx
 ·right
  cases q:H x with
  | none=>rfl
  | some u=>
   rcases b.nw x h with z|z
   ·exact((a.nw x z).elim hx λz=>by(rw[z]at q;cases q)).elim
   ·rw[a.fr x u q hx]at z;cases z⟩
def Ext0.get{H H':Hp}(e:Ext0 ρ ρ' H H'){n:Nat}{a:ak}(h:ρ[n]?=some a):ρ'[n]?=some a:=by
 obtain⟨t,rfl⟩:=e.pre;rw[bh (aM.mp h).1];exact h
section
variable {K:au}{ρ ρ':ba}{H H':Hp}
def Ext0.V5(e:Ext0 ρ ρ' H H'){a:ak}(h:lR K H a vs):lR K H' a vs:=by
 rcases h with(h|⟨o,h⟩)|h
 ·exact .inl (.inl<|e.im _ _ trivial h)
 ·exact .inl (.inr ⟨o,e.im _ _ trivial h⟩)
 ·exact .inr h
def Ext0.fz(e:Ext0 ρ ρ' H H'){a:ak}(h:Fz K H a vs):Fz K H' a vs:=by
 rcases h with⟨o,h⟩|h
 ·exact .inl ⟨o,e.im _ _ trivial h⟩
 ·exact .inr h
def Fz.M7{a:ak}(h:Fz K H a vs):nE K H a vs:=by
 rcases h with⟨o,h⟩|h
 ·exact .inl (.inr ⟨o,h⟩)
 ·exact .inr h
mutual
theorem AV.j8(e:Ext0 ρ ρ' H H'):∀{x:A}{v:V},AV K ρ H x v->AV K ρ' H' x v
 | _,_,.non=>.non
 | _,_,.bl b=>.bl b
 | _,_,.int i=>.int i
 | _,_,.str x=>.str x
 | _,_,.ty x=>.ty x
 | _,_,.tup h r=>.tup (e.im _ _ trivial h) (AVs.j8 e r)
 | _,_,.frz h r=>.frz (e.fz h) (AVs.j8 e r)
 | _,_,.rng h=>.rng (e.im _ _ trivial h)
 | _,_,.ref h=>.ref (e.get h)
 | _,_,.exn n h x=>.exn n (e.im _ _ trivial h) x
 | _,_,.ktu h r=>.ktu h<|AVs.j8 e r
theorem AVs.j8(e:Ext0 ρ ρ' H H'):∀{xs:ad}{vs:List V},AVs K ρ H xs vs->AVs K ρ' H' xs vs
 | _,_,.nil=>.nil
 | _,_,.cons h t=>.cons (AV.j8 e h)<|AVs.j8 e t
end
theorem DV.j8(e:Ext0 ρ ρ' H H'):∀{xs:List<|ae×A}{vs:List<|List Key×V},DV K ρ H xs vs->DV K ρ' H' xs vs
 | [],[],_=>trivial
 | _::_,_::_,⟨⟨a,b⟩,r⟩=>⟨⟨a,AV.j8 e b⟩,DV.j8 e r⟩
def DV.ext{x:List<|ae×A}{v:List<|List Key×V}(h:DV K ρ H x v)(e:Ext ρ ρ' H H'):DV K ρ' H' x v:=DV.j8 e.toExt0 h
theorem DI.j8(e:Ext0 ρ ρ' H H'):∀{xs:List<|Int×A}{vs:List<|Key×V},DI K ρ H xs vs->DI K ρ' H' xs vs
 | [],[],_=>trivial
 | _::_,_::_,⟨⟨a,b⟩,r⟩=>⟨⟨a,AV.j8 e b⟩,DI.j8 e r⟩
def DI.ext{x:List<|Int×A}{v:List<|Key×V}(h:DI K ρ H x v)(e:Ext ρ ρ' H H'):DI K ρ' H' x v:=DI.j8 e.toExt0 h
def pU.j8{k:L2.kh}(e:Ext0 ρ ρ' H H'):L2.pU H b k->L2.pU H' b k:=λ⟨r1,r2,h1,h2,h3⟩=>⟨r1,r2,e.im _ _ trivial h1,e.im _ _ trivial h2,e.im _ _ trivial h3⟩
theorem DP.j8(e:Ext0 ρ ρ' H H'):∀{xs:List<|L2.kh×A}{vs:List<|L2.kh×ak×af},DP K ρ H xs vs->DP K ρ' H' xs vs
 | [],[],_=>trivial
 | _::_,_::_,⟨⟨a,k,v,c,b⟩,r⟩=>⟨⟨a,pU.j8 e k,v,c,AV.j8 e b⟩,DP.j8 e r⟩
def DP.ext{x:List<|L2.kh×A}{v:List<|L2.kh×ak×af}(h:DP K ρ H x v)(e:Ext ρ ρ' H H'):DP K ρ' H' x v:=DP.j8 e.toExt0 h
def AV.ext{x:A}{v:V}(h:AV K ρ H x v)(e:Ext ρ ρ' H H'):AV K ρ' H' x v:=AV.j8 e.toExt0 h
def AVs.ext{x:ad}{v:List V}(h:AVs K ρ H x v)(e:Ext ρ ρ' H H'):AVs K ρ' H' x v:=AVs.j8 e.toExt0 h
theorem AVs.length:∀{xs:ad}{vs:List V},AVs K ρ H xs vs->xs.length=vs.length
 | _,_,.nil=>rfl
 | _,_,.cons _ t=>dm (·+1)<|AVs.length t
theorem AVs.append:∀{xs ys:ad}{vs ws:List V},AVs K ρ H xs vs->AVs K ρ H ys ws->AVs K ρ H (xs++ys) (vs++ws)
 | _,_,_,_,.nil,s=>s
 | _,_,_,_,.cons h t,s=>.cons h<|AVs.append t s
theorem AVs.take:∀{xs:ad}{vs:List V}(n:Nat),AVs K ρ H xs vs->AVs K ρ H (xs.take n) (vs.take n)
 | _,_,0,_=>.nil
 | _,_,_+1,.nil=>.nil
 | _,_,n+1,.cons h t=>.cons h<|AVs.take n t
theorem AVs.drop:∀{xs:ad}{vs:List V}(n:Nat),AVs K ρ H xs vs->AVs K ρ H (xs.drop n) (vs.drop n)
 | _,_,0,r=>r
 | _,_,_+1,.nil=>.nil
 | _,_,n+1,.cons _ t=>AVs.drop n t
theorem AVs.reverse:∀{xs:ad}{vs:List V},AVs K ρ H xs vs->AVs K ρ H xs.reverse vs.reverse
 | _,_,.nil=>.nil
 | _,_,.cons h t=>by rw[cZ,cZ];exact(AVs.reverse t).append (.cons h .nil)
theorem AVs.get:∀{xs:ad}{vs:List V}{i:Nat}{x:A},AVs K ρ H xs vs->xs[i]?=some x->∃v,vs[i]?=some v/\AV K ρ H x v
 | _,_,_,_,.nil,e=>by simp at e
 | _,_,0,_,.cons h _,e=>by simp at e;subst e;exact⟨_,rfl,h⟩
 | _,_,i+1,x,.cons _ t,e=>by
  obtain⟨u,h1,h2⟩:=AVs.get (i:=i) (x:=x) t (by simpa using e);exact⟨u,by simpa using h1,h2⟩
theorem AVs.set{x:A}{v:V}(h:AV K ρ H x v):∀{xs:ad}{vs:List V}(i:Nat),AVs K ρ H xs vs->AVs K ρ H (xs.set i x) (vs.set i v)
 | _,_,_,.nil=>.nil
 | _,_,0,.cons _ t=>.cons h t
 | _,_,i+1,.cons q t=>.cons q<|AVs.set h i t
def AVs.one{x:A}{v:V}(h:AV K ρ H x v):AVs K ρ H [x] [v]:=.cons h .nil
theorem AVs.eraseIdx:∀{xs:ad}{vs:List V}(i:Nat),AVs K ρ H xs vs->AVs K ρ H (xs.eraseIdx i) (vs.eraseIdx i)
 | _,_,_,.nil=>.nil
 | _,_,0,.cons _ t=>t
 | _,_,i+1,.cons q t=>.cons q<|AVs.eraseIdx i t
theorem qw:∀(ns:ae),AVs K ρ H (ns.map .int) (ns.map .int)
 | []=>.nil
 | n::ns=>.cons (.int n)<|qw ns
def Rel.lay{S:iI}{p:ak}(R:Rel K ρ H S)(hp:H p=none)(r:AVs K ρ H xs vs):Ext ρ (ρ++[p]) H (upd H p<|.lst vs)/\Rel K (ρ++[p]) (upd H p<|.lst vs) (S++[.lst xs])/\(ρ++[p])[S.length]?=some p:=by
 have ex:Ext ρ (ρ++[p]) H (upd H p<|.lst vs):=⟨⟨eU _ _,λa u _ h=>by rw[iS<|iX h hp];exact h⟩,λa u h _=>by rw[iS<|iX h hp];exact h,λa h=>by
  rcases bF.mp h with z|z
  ·exact .inl z
  ·have e:a=p:=by simpa using z
   rw[e];exact .inr hp⟩
 have np:∀(n:Nat) (a:ak),ρ[n]?=some a->a≠p:=by
  intro n a e z;subst z;have hn:n<S.length:=by rw[<- R.len];exact(aM.mp e).1
  have:=R.at n a S[n] e (aG hn)
  cases ho:S[n]with
  | lst xs=>rw[ho]at this;obtain⟨vs,h,_⟩:=this;rw[hp]at h;cases h
  | dct _|o5 _|qp _=>rw[ho]at this;obtain⟨vs,h,_⟩:=this;rw[hp]at h;cases h
  | ins _ _=>rw[ho]at this;obtain⟨_,_,h⟩:=this;rw[hp]at h;cases h
 have last:(ρ++[p])[S.length]?=some p:=by rw[<- R.len];simp
 refine⟨ex,⟨by simp[R.len],?_,?_⟩,last⟩
 ·rw[di];refine⟨R.nd,by simp,λa ha b hb e=>?_⟩;have:b=p:=by simpa using hb
  obtain⟨n,hn,e'⟩:=gF.mp ha;exact np n a (by rw[aG hn,e'])<|e.trans this
 ·intro n a o h1 h2;by_cases hn:n<S.length
  ·rw[bh<|by rw[R.len];exact hn]at h1;rw[bh hn]at h2;have:=R.at n a o h1 h2
   cases o with
   | lst ys=>obtain⟨ws,e,q⟩:=this;exact⟨ws,by rw[iS<|np n a h1];exact e,q.ext ex⟩
   | dct _|o5 _|qp _=>obtain⟨ws,e,q⟩:=this;exact⟨ws,by rw[iS<|np n a h1];exact e,q.ext ex⟩
   | ins _ _=>obtain⟨oo,uu,e⟩:=this;exact⟨oo,uu,by rw[iS<|np n a h1];exact e⟩
  ·have e:n=S.length:=by
    have:=(aM.mp h2).1;simp at this
    lia
   subst e;rw[last]at h1
   cases h1
   simp at h2;subst h2;exact⟨vs,jA,r.ext ex⟩
def Rel.im{p:ak}(R:Rel K ρ H S)(hp:H p=none):Ext ρ ρ H (upd H p u)/\Rel K ρ (upd H p u) S:=by
 have ex:Ext ρ ρ H (upd H p u):=⟨⟨dU _,λa u _ h=>by rw[iS<|iX h hp];exact h⟩,λa u h _=>by rw[iS<|iX h hp];exact h,λ_ h=>.inl h⟩;refine⟨ex,R.len,R.nd,λn a o h1 h2=>?_⟩;have:=R.at n a o h1 h2
 cases o with
 | lst ys=>obtain⟨ws,e,q⟩:=this;exact⟨ws,by rw[iS<|iX e hp];exact e,q.ext ex⟩
 | dct _|o5 _|qp _=>obtain⟨ws,e,q⟩:=this;exact⟨ws,by rw[iS<|iX e hp];exact e,q.ext ex⟩
 | ins _ _=>obtain⟨oo,uu,e⟩:=this;exact⟨oo,uu,by rw[iS<|iX e hp];exact e⟩
def Rel.put{S:iI}{n:Nat}{a:ak}(R:Rel K ρ H S)(ha:ρ[n]?=some a)(hS:S[n]?=some (.lst xs))(r:AVs K ρ H ys ws):Ext ρ ρ H (upd H a<|.lst ws)/\Rel K ρ (upd H a<|.lst ws) (S.set n<|.lst ys):=by
 obtain⟨vs,e,_⟩:=R.at n a _ ha hS;have ex:Ext ρ ρ H (upd H a<|.lst ws):=⟨⟨dU _,λb u i h=>by
  have:b≠a:=by
   intro z;subst z;rw[e]at h;cases h;exact i
  rw[iS this];exact h⟩,λb u h n=>by
  rw[iS λz=>n<|by rw[z];exact aY ha];exact h,λ_ h=>.inl h⟩
 refine⟨ex,by rw[bO];exact R.len,R.nd,λm b o h1 h2=>?_⟩;by_cases hm:m=n
 ·subst hm;rw[ha]at h1;cases h1;rw[bE (aM.mp hS).1]at h2
  cases h2
  exact⟨ws,jA,r.ext ex⟩
 ·rw[bL<|dg hm]at h2;have nb:b≠a:=λz=>by
   subst z;obtain⟨l1,e1⟩:=aM.mp ha;obtain⟨l2,e2⟩:=aM.mp h1;exact hm<|(c8 R.nd).mp<|e2.trans e1.symm
  have:=R.at m b o h1 h2
  cases o with
  | lst ys=>obtain⟨ws',e',q⟩:=this;exact⟨ws',by rw[iS nb];exact e',q.ext ex⟩
  | dct _|o5 _|qp _=>obtain⟨ws',e',q⟩:=this;exact⟨ws',by rw[iS nb];exact e',q.ext ex⟩
  | ins _ _=>obtain⟨oo,uu,e'⟩:=this;exact⟨oo,uu,by rw[iS nb];exact e'⟩
def Rel.lst{n:Nat}{a:ak}(R:Rel K ρ H S)(ha:ρ[n]?=some a)(hS:S[n]?=some (.lst xs)):∃vs,H a=some (.lst vs)/\AVs K ρ H xs vs:=R.at n a _ ha hS
structure SR (K:au)(ρ:ba)(H:Hp)(τ:ad)(σ:St):Prop where
 len:τ.length=σ.length
 «at»:∀(i:Nat) (a:A),τ[i]?=some a->a=.unb\/∃v,σ[i]?=some (some v)/\AV K ρ H a v
def SR.j8(s:SR K ρ H τ σ)(e:Ext0 ρ ρ' H H'):SR K ρ' H' τ σ:=⟨s.len,λi a h=>by
 rcases s.at i a h with z|⟨v,h1,h2⟩
 ·exact .inl z
 ·exact .inr ⟨v,h1,AV.j8 e h2⟩⟩
def SR.ext(s:SR K ρ H τ σ)(e:Ext ρ ρ' H H'):SR K ρ' H' τ σ:=s.j8 e.toExt0
def Rel.out{D:ak}(R:Rel K ρ H S)(hD:H D=some (.lst vs))(hn:D∉ρ):Ext0 ρ ρ H (upd H D<|.lst ws)/\Rel K ρ (upd H D<|.lst ws) S:=by
 have ex:Ext0 ρ ρ H (upd H D<|.lst ws):=⟨dU _,λb u i h=>by
  have:b≠D:=by
   intro z;subst z;rw[hD]at h;cases h;exact i
  rw[iS this];exact h⟩
 refine⟨ex,R.len,R.nd,λn a o h1 h2=>?_⟩;have na:a≠D:=λz=>hn (by rw[<- z];exact aY h1);have:=R.at n a o h1 h2
 cases o with
 | lst ys=>obtain⟨ws',e,q⟩:=this;exact⟨ws',by rw[iS na];exact e,AVs.j8 ex q⟩
 | dct _|o5 _|qp _=>obtain⟨ws',e,q⟩:=this;exact⟨ws',by rw[iS na];exact e,q.j8 ex⟩
 | ins _ _=>obtain⟨oo,uu,e⟩:=this;exact⟨oo,uu,by rw[iS na];exact e⟩
def Rel.take{S:iI}{D:ak}(R:Rel K ρ H S)(hD:H D=some (.lst vs))(hn:D∉ρ)(r:AVs K ρ H xs vs):Rel K (ρ++[D]) H (S++[.lst xs])/\(ρ++[D])[S.length]?=some D:=by
 have ex:Ext0 ρ (ρ++[D]) H H:=⟨eU _ _,λ_ _ _ h=>h⟩;have last:(ρ++[D])[S.length]?=some D:=by rw[<- R.len];simp
 refine⟨⟨by simp[R.len],?_,λn a o h1 h2=>?_⟩,last⟩
 ·rw[di];refine⟨R.nd,by simp,λa ha b hb e=>?_⟩;have:b=D:=by simpa using hb
  exact hn<|by rw[<- this,<- e];exact ha
 ·by_cases hs:n<S.length
  ·rw[bh<|by rw[R.len];exact hs]at h1;rw[bh hs]at h2;have:=R.at n a o h1 h2
   cases o with
   | lst ys=>obtain⟨ws,e,q⟩:=this;exact⟨ws,e,AVs.j8 ex q⟩
   | dct _|o5 _|qp _=>obtain⟨ws,e,q⟩:=this;exact⟨ws,e,q.j8 ex⟩
   | ins _ _=>obtain⟨oo,uu,e⟩:=this;exact⟨oo,uu,e⟩
  ·have e:n=S.length:=by
    have:=(aM.mp h2).1;simp at this
    lia
   subst e;rw[last]at h1
   cases h1
   simp at h2;subst h2;exact⟨vs,hD,AVs.j8 ex r⟩
def SR.set{τ:ad}{σ:St}{a:A}{v:V}(s:SR K ρ H τ σ)(h:AV K ρ H a v):SR K ρ H (τ.set i a) (σ.set i<|some v):=by
 refine⟨by simp[s.len],λj b e=>?_⟩;by_cases hj:j=i
 ·subst hj;have hl:j<τ.length:=by
   have:=(aM.mp e).1;simpa using this
  rw[bE hl]at e
  cases e
  exact .inr ⟨v,bE<|by rw[<- s.len];exact hl,h⟩
 ·rw[bL<|dg hj]at e;rw[bL<|dg hj];exact s.at j b e
end
end Am
namespace Am
open PySem PySem.Spec PyProof.Rows L2
abbrev XE (X:Cx)(ρ:ba)(H:Hp):Str->iI->Prop:=λc S'=>∀(C:ak) (ρ':ba) (H':Hp),Wv X.K c C->Ext ρ ρ' H H'->Rel X.K ρ' H' S'->EX X (.ref C) none H'
def XE.ext{X:Cx}{H H':Hp}{c:Str}(h:XE X ρ H c S)(e:Ext ρ ρ' H H'):XE X ρ' H' c S:=λC ρ2 H2 n e2=>h C ρ2 H2 n<|e.trans e2
abbrev vX (X:Cx)(ρ:ba)(H:Hp)(Q:VK):A->iI->Prop:=λa S'=>∀ρ' H' v,Ext ρ ρ' H H'->Rel X.K ρ' H' S'->AV X.K ρ' H' a v->Q v H'
abbrev VV (X:Cx)(ρ:ba)(H:Hp)(Q:Bool->Hp->Prop):Bool->iI->Prop:=λb S'=>∀ρ' H',Ext ρ ρ' H H'->Rel X.K ρ' H' S'->Q b H'
abbrev Yd (X:Cx)(ρ:ba)(H:Hp)(Q:List V->Hp->Prop):ad->iI->Prop:=λas S'=>∀ρ' H' vs,Ext ρ ρ' H H'->Rel X.K ρ' H' S'->AVs X.K ρ' H' as vs->Q vs H'
def vX.ext{X:Cx}{H H':Hp}{Q:VK}{a:A}(h:vX X ρ H Q a S)(e:Ext ρ ρ' H H'):vX X ρ' H' Q a S:=λρ2 H2 v e2=>h ρ2 H2 v<|e.trans e2
def VV.ext{X:Cx}{H H':Hp}{Q:Bool->Hp->Prop}{a:Bool}(h:VV X ρ H Q a S)(e:Ext ρ ρ' H H'):VV X ρ' H' Q a S:=λρ2 H2 e2=>h ρ2 H2<|e.trans e2
def iG{α:Type}{X:Cx}{H H':Hp}{r:R α}{P P':α->iI->Prop}(h:r.post P<|XE X ρ H)(e:Ext ρ ρ' H H')(hp:∀a S,P a S->P' a S):r.post P' (XE X ρ' H'):=G6 h hp λ_ _ z=>z.ext e
abbrev tE (X:Cx)(c:Ex):TE:=λσ H Q=>∃ρ S τ,Rel X.K ρ H S/\SR X.K ρ H τ σ/\(c τ S).post (vX X ρ H Q) (XE X ρ H)
abbrev tT (X:Cx)(c:Te):TT:=λσ H Q=>∃ρ S τ,Rel X.K ρ H S/\SR X.K ρ H τ σ/\(c τ S).post (VV X ρ H Q) (XE X ρ H)
abbrev tL (X:Cx)(c:p5):TA:=λσ H Q=>∃ρ S τ,Rel X.K ρ H S/\SR X.K ρ H τ σ/\(c τ S).post (Yd X ρ H Q) (XE X ρ H)
abbrev AE (X:Cx)(e:aE)(c:Ex):Prop:=PE X e<|tE X c
abbrev AT (X:Cx)(e:aE)(c:Te):Prop:=PT X e<|tT X c
abbrev AW (X:Cx)(e:aE)(c:Te):Prop:=PW X e<|tT X c
abbrev AL (X:Cx)(es:List aE)(c:p5):Prop:=PA X es<|tL X c
def PE.imp{X:Cx}{e:aE}{t t':TE}(h:PE X e t)(i:∀σ H Q,t' σ H Q->t σ H Q):PE X e t':=λpins s σ H Q I q=>h pins s σ H Q I<|i σ H Q q
def PT.imp{X:Cx}{e:aE}{t t':TT}(h:PT X e t)(i:∀σ H Q,t' σ H Q->t σ H Q):PT X e t':=λpins s σ H Q I q=>h pins s σ H Q I<|i σ H Q q
def PW.imp{X:Cx}{e:aE}{t t':TT}(h:PW X e t)(i:∀σ H Q,t' σ H Q->t σ H Q):PW X e t':=λw pins s σ H Q I q=>h w pins s σ H Q I<|i σ H Q q
def PA.imp{X:Cx}{e:List aE}{t t':TA}(h:PA X e t)(i:∀σ H Q,t' σ H Q->t σ H Q):PA X e t':=λp pins s σ H Q I q=>h p pins s σ H Q I<|i σ H Q q
def AW.at{X:Cx}{e:aE}{c:Te}(h:AW X e c):AT X e c:=h _
abbrev A.m5:A->Bool
 | .unb=>true
 | _=>false
abbrev iD (i:Nat):Ex:=λτ S=>if (τ.getD i .unb).m5 then .no else .ok (τ.getD i .unb) S
abbrev eC (a:A):Ex:=λ_ S=>.ok a S
section
variable {X:Cx}{pos:Pos}{a b:aE}
def iC(i:Nat){x:Str}(hN:X.N[i]?=some x:=by rfl)(hv:T8 X.env.scope x:=by first|exact Or.inl rfl|exact Or.inr (Or.inl rfl)|exact Or.inr<|Or.inr rfl)(hd:(x == ("__debug__" : Str))=false:=by decide)
  (hcd:(x == ("__classdict__" : Str))=false:=by decide):AE X (.Name x pos) (iD i):=PE.imp (MK hN hv hd hcd) λσ H Q h9=>by
 z_go;unfold iD at h
 cases hi:τ[i]? with
 | none=>
  rw[aI,hi]at h;exact h.elim
 | some x=>
  rw[aI,hi]at h
  rcases r.at i x hi with z|⟨v,e,q⟩
  ·subst z;exact h.elim
  ·refine⟨v,e,?_⟩
   cases x<;>first|(exact h ρ H v .refl R q)|exact h.elim
def iK{i:Int}{j pos}:AE X (.Constant (.int i) j pos) (eC<|.int i):=PE.imp CG λσ H Q ⟨ρ,S,τ,R,r,h⟩=>h ρ H _ .refl R<|.int i
def xR{j pos}:AE X (.Constant (.bool i) j pos) (eC<|.bl i):=PE.imp UI λσ H Q ⟨ρ,S,τ,R,r,h⟩=>h ρ H _ .refl R<|.bl i
def J4{j pos}:AE X (.Constant .none j pos) (eC .non):=PE.imp Rj λσ H Q ⟨ρ,S,τ,R,r,h⟩=>h ρ H _ .refl R .non
def wz{x:Str}{i:Int}(hm:X.mg x=some (.int i t))(hg:Gl X x:=by rfl)(hd:(x == ("__debug__" : Str))=false:=by decide):AE X (.Name x pos) (eC<|.int i):=
 PE.imp (Pc (v:=.int i) hg hm ⟨t,rfl⟩ hd) λσ H Q ⟨ρ,S,τ,R,r,h⟩=>h ρ H _ .refl R<|.int i
abbrev iJ (f:A->A->iI->R A)(ca cb:Ex):Ex:=λτ S=>(ca τ S).bind λa S1=>(cb τ S1).bind λb S2=>f a b S2
abbrev r2 (X:Cx)(f:A->A->iI->R A):R2:=λx y H Q=>∃ρ S a b,Rel X.K ρ H S/\AV X.K ρ H a x/\AV X.K ρ H b y/\(f a b S).post (vX X ρ H Q) (XE X ρ H)
abbrev r1 (X:Cx)(f:A->iI->R A):V->Hp->VK->Prop:=λx H Q=>∃ρ S a,Rel X.K ρ H S/\AV X.K ρ H a x/\(f a S).post (vX X ρ H Q) (XE X ρ H)
abbrev rN (X:Cx)(f:ad->iI->R A):List V->Hp->VK->Prop:=λxs H Q=>∃ρ S as,Rel X.K ρ H S/\AVs X.K ρ H as xs/\(f as S).post (vX X ρ H Q) (XE X ρ H)
def lT.imp{f:af->af->Sem af}{r r':R2}(h:lT X f r)(i:∀x y H Q,r' x y H Q->r x y H Q):lT X f r':=λpins s σ H x y v u Q I rx ry q=>h pins s σ H x y v u Q I rx ry<|i _ _ _ _ q
def jl.imp{f:af}{r r':List V->Hp->VK->Prop}(h:jl X f r)(i:∀x H Q,r' x H Q->r x H Q):jl X f r':=λpins s σ H x v Q I rx q=>h pins s σ H x v Q I rx<|i _ _ _ q
def rK{f:A->A->iI->R A}{ca cb:Ex}{H:Hp}{Q:VK}(h:tE X (iJ f ca cb) σ H Q):Ue (r2 X f) (tE X ca) (tE X cb) σ H Q:=by
 kst_p;refine⟨ρ,S,τ,R,r,iG (iM h) .refl λa S1 h1 ρ1 H1 x e1 R1 v1=>⟨ρ1,S1,τ,R1,r.ext e1,iG (iM h1) e1 λb S2 h2 ρ2 H2 y e2 R2 v2=>?_⟩⟩;exact⟨ρ2,S2,a,b,R2,v1.ext e2,v2,iG h2 (e1.trans e2) λc S3 h3=>h3.ext<|e1.trans e2⟩
def iU{f:A->A->iI->R A}{ca cb:Ex}(ho:lT X (binaryOp op)<|r2 X f)(ha:AE X a ca)(hb:AE X b cb):AE X (.BinOp a op b pos) (iJ f ca cb):=
 PE.imp (VS ho ha hb) λσ H Q h=>rK h
def Di{op:CmpOp}{f:A->A->iI->R A}{ca cb:Ex}(ho:lT X (compareOp op)<|r2 X f)(ha:AE X a ca)(hb:AE X b cb)(hm:behindInMarks op b=false:=by first|exact Jw _|with_unfolding_all rfl):AE X (.Compare a [op] [b] pos) (iJ f ca cb):=
 PE.imp (O8 ho ha hb hm) λσ H Q h=>rK h
abbrev A.Ub:A->iI->bi
 | .non,_=>some false
 | .bl b,_=>some b
 | .int i,_=>some (i != 0)
 | .str x,_=>if x.length<=sizeLine then some ((x.length:Int) != 0)else none
 | .tup xs,_=>some (!xs.isEmpty)
 | .frz xs,_=>some (!xs.isEmpty)
 | .ref n,S=>(iH S n).map λxs=>!xs.isEmpty
 | _,_=>none
abbrev K4 (c:Ex):Te:=λτ S=>(c τ S).bind λa S1=>opt (a.Ub S1) λb=>.ok b S1
abbrev mX (c:Ex):Te:=λτ S=>(c τ S).bind λa S1=>match a with
 | .bl b=>.ok b S1
 | _=>.no
def yR{K:au}{H:Hp}{b:Bool}{v:V}(h:AV K ρ H (.bl b) v):v=.bl b:=by cases h;rfl
def jh{op:CmpOp}{f:A->A->iI->R A}{ca cb:Ex}(ho:lT X (compareOp op)<|r2 X f)(ha:AE X a ca)(hb:AE X b cb)(hm:behindInMarks op b=false:=by first|exact Jw _|with_unfolding_all rfl):AT X (.Compare a [op] [b] pos) (mX<|iJ f ca cb):=
 PT.imp (Nj ho ha hb hm) λσ H Q h9=>by
  z_go;refine rK ⟨ρ,S,τ,R,r,iG (iM h) .refl λc S1 h1 ρ1 H1 x e1 R1 v1=>?_⟩
  cases c with
  | bl k=>cases yR v1;exact⟨k,rfl,h1 ρ1 H1 e1 R1⟩
  | _=>exact h1.elim
def SK{K:au}{H:Hp}{x:A}{v:V}{b:Bool}(R:Rel K ρ H S)(h:AV K ρ H x v)(e:x.Ub S=some b):QJ K v H b:=by
 have emp:∀{xs:ad} {vs:List V},AVs K ρ H xs vs->(!xs.isEmpty)=!vs.isEmpty:=λr=>by cases r<;>rfl
 cases h with
 | non=>exact(aU e).symm
 | bl b=>exact(aU e).symm
 | int i=>exact(aU e).symm
 | str x=>
  by_cases hx:x.length<=sizeLine
  ·exact⟨hx,by have:=(aK hx).symm.trans e;exact(aU this).symm⟩
  ·have:=(aJ hx).symm.trans e;cases this
 | tup h r=>exact .inr (.inl ⟨_,lR.of h,by rw[<- emp r];exact(aU e).symm⟩)
 | frz h r=>exact .inl ⟨_,h.M7,by rw[<- emp r];exact(aU e).symm⟩
 | rng h=>cases e
 | ty n=>cases e
 | exn n h x=>cases e
 | ktu h r=>cases e
 | @ref a n h=>
  have e:(iH S n).map (λxs=>!xs.isEmpty)=some b:=e;obtain⟨xs,hn,e⟩:=bu.mp e;obtain⟨vs,h1,h2⟩:=R.lst h<|iV hn;exact .inl ⟨vs,nE.of h1,by rw[<- emp h2];exact e.symm⟩
def CS{ca:Ex}(ha:AE X a ca)(he:∀whole,isTrue a X.env whole=(do let v <- whole;standAt a.pos;holding [v] (truthy v)):=by intro _;rfl):AT X a (K4 ca):=
 PT.imp (LD ha he) λσ H Q ⟨ρ,S,τ,R,r,h⟩=>⟨ρ,S,τ,R,r,iG (iM h) .refl λc S1 h1 ρ1 H1 x e1 R1 v1=>by
  obtain⟨b,hb,h1⟩:=iR h1;exact⟨b,SK R1 v1 hb,h1 ρ1 H1 e1 R1⟩⟩
abbrev Iw (c:Te):Te:=λτ S=>(c τ S).bind λb S1=>.ok (!b) S1
abbrev v_ (c d:Te):Te:=λτ S=>(c τ S).bind λb S1=>match b with|true=>d τ S1|false=>.ok false S1
abbrev M5 (c d:Te):Te:=λτ S=>(c τ S).bind λb S1=>match b with|true=>.ok true S1|false=>d τ S1
def C4{c:Te}(h:AT X a c):AT X (.UnaryOp .Not a pos) (Iw c):=PT.imp (Tz h) λσ H Q ⟨ρ,S,τ,R,r,h⟩=>⟨ρ,S,τ,R,r,iG (iM h) .refl λb S1 h1=>h1⟩
def and_imp{c d:Te}{H:Hp}{Q:Bool->Hp->Prop}(h:tT X (v_ c d) σ H Q):VH (tT X c) (tT X d) σ H Q:=by
 kst_p;refine⟨ρ,S,τ,R,r,iG (iM h) .refl λb S1 h1 ρ1 H1 e1 R1=>?_⟩
 cases b with
 | true=>
  rw[aK rfl];exact⟨ρ1,S1,τ,R1,r.ext e1,iG h1 e1 λ_ _ z=>z.ext e1⟩
 | false=>
  rw[aJ bH];exact h1 ρ1 H1 e1 R1
def or_imp{c d:Te}{H:Hp}{Q:Bool->Hp->Prop}(h:tT X (M5 c d) σ H Q):XH (tT X c) (tT X d) σ H Q:=by
 kst_p;refine⟨ρ,S,τ,R,r,iG (iM h) .refl λb S1 h1 ρ1 H1 e1 R1=>?_⟩
 cases b with
 | false=>
  rw[aJ bH];exact⟨ρ1,S1,τ,R1,r.ext e1,iG h1 e1 λ_ _ z=>z.ext e1⟩
 | true=>
  rw[aK rfl];exact h1 ρ1 H1 e1 R1
variable {rest:List aE}
def vR{c:Te}(h:AT X a c):AW X (.BoolOp .And [a] pos) c:=N4 h
def Ai{c:Te}(h:AT X a c):AW X (.BoolOp .Or [a] pos) c:=Tq h
def Ag{c d:Te}(h:AT X a c)(h2:AW X (.BoolOp .And (b::rest) pos) d):AW X (.BoolOp .And (a::b::rest) pos) (v_ c d):=PW.imp (Tp h h2) λ_ _ _ q=>and_imp q
def A_{c d:Te}(h:AT X a c)(h2:AW X (.BoolOp .Or (b::rest) pos) d):AW X (.BoolOp .Or (a::b::rest) pos) (M5 c d):=PW.imp (Vc h h2) λ_ _ _ q=>or_imp q
abbrev JO (c d:Ex):Ex:=λτ S=>(c τ S).bind λa S1=>match a with | .bl true=>d τ S1 | .bl false=>.ok (.bl false) S1|_=>.no
abbrev XZ (c d:Ex):Ex:=λτ S=>(c τ S).bind λa S1=>match a with | .bl true=>.ok (.bl true) S1 | .bl false=>d τ S1|_=>.no
abbrev R0 (c:Ex):Ex:=λτ S=>(c τ S).bind λa S1=>match a with | .bl b=>.ok (.bl !b) S1|_=>.no
def MH{op}{c:Ex}(h:AE X a c):AE X (.BoolOp op [a] pos) c:=RJ h
def Ih{c d:Ex}(h:AE X a c)(h2:AE X (.BoolOp .And (b::rest) pos) d):AE X (.BoolOp .And (a::b::rest) pos) (JO c d):=PE.imp (QV h h2) λσ H Q h9=>by
 z_go;refine⟨ρ,S,τ,R,r,iG (iM h) .refl λb S1 h1 ρ1 H1 x e1 R1 v1=>?_⟩
 cases b with
 | bl k=>
  cases yR v1
  refine⟨k,rfl,?_⟩
  cases k with
  | true=>
   rw[aK rfl];exact⟨ρ1,S1,τ,R1,r.ext e1,iG h1 e1 λ_ _ z=>z.ext e1⟩
  | false=>
   rw[aJ bH];exact h1 ρ1 H1 _ e1 R1<|.bl false
 | _=>exact h1.elim
def Th{c:Ex}(h:AE X a c):AE X (.UnaryOp .Not a pos) (R0 c):=PE.imp (QZ h) λσ H Q h9=>by
 z_go;refine⟨ρ,S,τ,R,r,iG (iM h) .refl λb S1 h1 ρ1 H1 x e1 R1 v1=>?_⟩
 cases b with
 | bl k=>
  cases yR v1
  exact⟨k,rfl,h1 ρ1 H1 _ e1 R1<|.bl _⟩
 | _=>exact h1.elim
abbrev Yy (t:Te)(c d:Ex):Ex:=λτ S=>(t τ S).bind λb S1=>match b with|true=>c τ S1|false=>d τ S1
abbrev iQ:p5:=λ_ S=>.ok [] S
abbrev iE (c:Ex)(d:p5):p5:=λτ S=>(c τ S).bind λa S1=>(d τ S1).bind λas S2=>.ok (a::as) S2
def iO:AL X [] iQ:=PA.imp uH λσ H Q ⟨ρ,S,τ,R,r,h⟩=>h ρ H _ .refl R .nil
def iF{e:aE}{c:Ex}{d:p5}(ha:AE X e c)(hr:AL X es d)(hs:starEach (e::es) X.env=(false,eval e X.env)::starEach es X.env:=by rfl):AL X (e::es) (iE c d):=
 PA.imp (ny ha hr hs) λσ H Q h9=>by
  z_go;refine⟨ρ,S,τ,R,r,iG (iM h) .refl λa S1 h1 ρ1 H1 x e1 R1 v1=>⟨ρ1,S1,τ,R1,r.ext e1,iG (iM h1) e1 λas S2 h2 ρ2 H2 xs e2 R2 v2=>?_⟩⟩;exact h2 ρ2 H2 _ (e1.trans e2) R2<|.cons (v1.ext e2) v2
abbrev mD (d:p5):Ex:=λτ S=>(d τ S).bind λas S1=>gd (as.length<=sizeLine)<|.ok (.tup as) S1
abbrev newL (as:ad)(S:iI):R A:=gd (as.length<=sizeLine)<|.ok (.ref S.length)<|S++[.lst as]
abbrev sW (d:p5):Ex:=λτ S=>(d τ S).bind λas S1=>newL as S1
def ow{H H0:Hp}{Q:VK}(R:Rel X.K ρ H S)(r:AVs X.K ρ H as vs)(e:Ext ρ0 ρ H0 H)(h:vX X ρ0 H0 Q (.tup as) S):∀p,H p=none->Q (.ref p) (upd H p<|.tup vs):=λp hp=>by
 obtain⟨ex,R'⟩:=R.im (u:=.tup vs) hp;exact h ρ _ _ (e.trans ex) R'<|.tup jA<|r.ext ex
def mh{H H0:Hp}{S:iI}{Q:VK}(R:Rel X.K ρ H S)(r:AVs X.K ρ H as vs)(e:Ext ρ0 ρ H0 H)(h:vX X ρ0 H0 Q (.ref S.length)<|S++[.lst as]):∀p,H p=none->Q (.ref p) (upd H p<|.lst vs):=λp hp=>by
 obtain⟨ex,R',g⟩:=R.lay hp r;exact h _ _ _ (e.trans ex) R'<|.ref g
def NY{H H0:Hp}{vs:List V}{Q:VK}(R:Rel X.K ρ H S)(r:AVs X.K ρ H as vs)(e:Ext ρ0 ρ H0 H)(h:(newL as S).post (vX X ρ0 H0 Q)<|XE X ρ0 H0):vs.length<=sizeLine/\∀p,H p=none->Q (.ref p) (upd H p<|.lst vs):=by
 obtain⟨hl,h⟩:=i6 h;exact⟨by rw[<- r.length];exact hl,mh R r e h⟩
def lD{d:p5}{x1}(h:AL X es d):AE X (.Tuple es x1 pos) (mD d):=PE.imp (SJ h) λσ H Q h9=>by
 z_go;refine⟨ρ,S,τ,R,r,iG (iM h) .refl λas S1 h1 ρ1 H1 xs e1 R1 v1=>?_⟩;obtain⟨hl,h1⟩:=i6 h1;exact⟨by rw[<- v1.length];exact hl,ow R1 v1 e1 h1⟩
def nJ{d:p5}(h:AL X es d):AE X (.List es pos) (sW d):=PE.imp (TM h) λσ H Q ⟨ρ,S,τ,R,r,h⟩=>
 ⟨ρ,S,τ,R,r,iG (iM h) .refl λas S1 h1 ρ1 H1 xs e1 R1 v1=>NY R1 v1 e1 h1⟩
end
section
variable {X:Cx}{pos:Pos}{a b:aE}
abbrev aSub (a b:A)(S:iI):R A:=match a,b with
 | .int i,.int j=>.ok (.int<|i-j) S
 | _,_=>.no
def nY:lT X (binaryOp .Sub) (r2 X aSub):=lT.imp Sn λx y H Q h9=>by
 x_go
 cases va<;>first|exact h.elim|(cases vb<;>first|exact h.elim|exact⟨_,_,rfl,rfl,h _ _ _ .refl R<|.int _⟩)
abbrev FI (i j:Int):Bool:=(decide (-(2 ^ 64)<i) && decide (i<2 ^ 64)) || (decide (-(2 ^ 64)<j) && decide (j<2 ^ 64))
def mulOk_of{i j:Int}(h:FI i j=true):NC i j:=by
 unfold FI at h;dsimp[Bool.or_eq_true,dB,fm]at h;exact h
abbrev uz (a b:A)(S:iI):R A:=match a,b with
 | .int i,.int j=>gd (FI i j) (.ok (.int<|i * j) S)
 | .ref n,.int k=>opt (iH S n) λxs=>gd (-(2 ^ 63)<=k/\k<2 ^ 63/\xs.length * k.toNat<=sizeLine) (.ok (.ref S.length)<|S++[.lst (List.replicate k.toNat xs).flatten])
 | _,_=>.no
theorem AVs.rep{K:au}{H:Hp}(r:AVs K ρ H xs vs):∀k:Nat,AVs K ρ H (List.replicate k xs).flatten (List.replicate k vs).flatten
 | 0=>.nil
 | k+1=>by rw[cX,cX,dM,dM];exact r.append<|AVs.rep r k
def xh:lT X (binaryOp .Mult) (r2 X uz):=λpins s σ H x y v u Q I rx ry h9=>by
 x_go
 cases va with
 | int i=>
  cases vb with
  | int j=>
   obtain⟨hm,h⟩:=i6 h;exact QU pins s σ H _ _ v u Q I rx ry ⟨i,j,rfl,rfl,mulOk_of hm,h _ _ _ .refl R<|.int _⟩
  | _=>exact h.elim
 | @ref p n hp=>
  cases vb with
  | int k=>
   kj_on;obtain⟨hc,h⟩:=i6 h;obtain⟨vs,h1,h2⟩:=R.lst hp<|iV hn;exact Rh pins s σ H _ _ v u Q I rx ry ⟨p,k,vs,rfl,rfl,h1,hc.1,hc.2.1,by rw[<- h2.length];exact hc.2.2,mh R (h2.rep _) .refl h⟩
  | _=>exact h.elim
 | _=>exact h.elim
abbrev Gu (a b:A)(S:iI):R A:=match a,b with
 | .int i,.int j=>gd (0<j/\j<18446744073709551616) (.ok (.int<|i / j) S)
 | _,_=>.no
def Lp:lT X (binaryOp .FloorDiv) (r2 X Gu):=lT.imp Iu λx y H Q h9=>by
 x_go
 cases va<;>first|exact h.elim|(cases vb<;>first|exact h.elim|exact⟨_,_,rfl,rfl,(i6 h).1,(i6 h).2 _ _ _ .refl R<|.int _⟩)
abbrev x_ (a b:A)(S:iI):R A:=match a,b with
 | .int i,.int j=>gd (0<j) (.ok (.int<|i % j) S)
 | _,_=>.no
def yG:lT X (binaryOp .Mod) (r2 X x_):=lT.imp QH λx y H Q h9=>by
 x_go
 cases va<;>first|exact h.elim|(cases vb<;>first|exact h.elim|exact⟨_,_,rfl,rfl,(i6 h).1,(i6 h).2 _ _ _ .refl R<|.int _⟩)
abbrev NF (a b:A)(S:iI):R A:=match a,b with
 | .int i,.int j=>gd (0<=j/\j<=1000000/\i.natAbs<2 ^ 64) (.ok (.int<|i ^ j.toNat) S)
 | _,_=>.no
def Vg:lT X (binaryOp .Pow) (r2 X NF):=lT.imp Rc λx y H Q h9=>by
 x_go
 cases va<;>first|exact h.elim|(cases vb<;>first|exact h.elim|exact⟨_,_,rfl,rfl,(i6 h).1,(i6 h).2 _ _ _ .refl R<|.int _⟩)
abbrev jq (a b:A)(S:iI):R A:=match a,b with
 | .int i,.int j=>.ok (.int<|i+j) S
 | .tup xs,.tup ys=>gd (xs.length+ys.length<=sizeLine) (.ok (.tup<|xs++ys) S)
 | .str x,.str y=>gd (x.length+y.length<=sizeLine) (.ok (.str<|x++y) S)
 | .ref n,.ref m=>opt (iH S n) λxs=>opt (iH S m) λys=>gd (xs.length+ys.length<=sizeLine) (.ok (.ref S.length)<|S++[.lst<|xs++ys])
 | _,_=>.no
def AVs.nil_inv{K:au}{H:Hp}(r:AVs K ρ H xs vs):xs=[] ↔ vs=[]:=by cases r<;>simp
def jL:lT X (binaryOp .Add) (r2 X jq):=λpins s σ H x y v u Q I rx ry h9=>by
 x_go
 cases va with
 | int i=>
  cases vb with
  | int j=>exact Q0 pins s σ H _ _ v u Q I rx ry ⟨i,j,rfl,rfl,h _ _ _ .refl R<|.int _⟩
  | _=>exact h.elim
 | str x=>
  cases vb with
  | str y=>
   obtain⟨hc,h⟩:=i6 h;exact Dp pins s σ H _ _ v u Q I rx ry ⟨x,y,rfl,rfl,hc,h _ _ _ .refl R<|.str _⟩
  | _=>exact h.elim
 | @tup p xs vs h1 r1=>
  cases vb with
  | @tup q ys ws h2 r2=>
   obtain⟨hc,h⟩:=i6 h;by_cases hv:vs=[]
   ·have hx:=r1.nil_inv.mpr hv;subst hv hx;exact IS pins s σ H _ _ v u Q I rx ry ⟨p,q,ws,rfl,rfl,lR.of h1,lR.of h2,h _ _ _ .refl R<|.tup h2 r2⟩
   ·refine NH pins s σ H _ _ v u Q I rx ry ⟨p,q,vs,ws,rfl,rfl,lR.of h1,lR.of h2,hv,by rw[<- r1.length,<- r2.length];exact hc,λe=>?_,λ_=>ow R (r1.append r2) .refl h⟩;have hy:=r2.nil_inv.mpr e;subst hy;rw[cN]at h;exact h _ _ _ .refl R<|.tup h1 r1
  | _=>exact h.elim
 | @ref p n hp=>
  cases vb with
  | @ref q m hq=>
   kj_on;obtain⟨ys,hm,h⟩:=iR h;obtain⟨hc,h⟩:=i6 h;obtain⟨vs,h1,h2⟩:=R.lst hp<|iV hn;obtain⟨ws,h3,h4⟩:=R.lst hq<|iV hm;exact RV pins s σ H _ _ v u Q I rx ry ⟨p,q,vs,ws,rfl,rfl,h1,h3,by rw[<- h2.length,<- h4.length];exact hc,mh R (h2.append h4) .refl h⟩
  | _=>exact h.elim
 | _=>exact h.elim
abbrev A.ints:ad->Option (ae)
 | []=>some []
 | .int i::xs=>(A.ints xs).map (i::·)
 | _=>none
theorem vO{K:au}{H:Hp}:∀{xs:ad}{vs:List V}{bs:ae},AVs K ρ H xs vs->A.ints xs=some bs->vs=bs.map V.int
 | _,_,_,.nil,e=>by cases e;rfl
 | _,_,_,.cons (x:=.int b) h t,e=>by
  obtain⟨cs,e1,rfl⟩:=bu.mp e
  cases h
  rw[vO t e1];rfl
 | _,_,_,.cons (x:=.unb) h t,e=>nomatch e
 | _,_,_,.cons (x:=.non) h t,e=>nomatch e
 | _,_,_,.cons (x:=.bl _) h t,e=>nomatch e
 | _,_,_,.cons (x:=.str _) h t,e=>nomatch e
 | _,_,_,.cons (x:=.tup _) h t,e=>nomatch e
 | _,_,_,.cons (x:=.frz _) h t,e=>nomatch e
 | _,_,_,.cons (x:=.rng _ _) h t,e=>nomatch e
 | _,_,_,.cons (x:=.ref _) h t,e=>nomatch e
 | _,_,_,.cons (x:=.exn _) h t,e=>nomatch e
 | _,_,_,.cons (x:=.ty _) h t,e=>nomatch e
abbrev Au (a b:A)(S:iI):R A:=match a,b with
 | .int i,.int j=>.ok (.bl<|decide<|i<j) S
 | _,_=>.no
def Ar(hu:X.A.units+64<cLine):lT X (compareOp .Lt) (r2 X Au):=λpins s σ H x y v u Q I rx ry h9=>by
 x_go
 cases va with
 | int i=>
  cases vb with
  | int j=>exact UG pins s σ H _ _ v u Q I rx ry ⟨i,j,rfl,rfl,h _ _ _ .refl R<|.bl _⟩
  | _=>exact h.elim
 | _=>exact h.elim
abbrev Sy (a b:A)(S:iI):R A:=match a,b with
 | .int i,.int j=>.ok (.bl<|decide<|i<=j) S
 | _,_=>.no
def N3:lT X (compareOp .LtE) (r2 X Sy):=lT.imp Vo λx y H Q h9=>by
 x_go
 cases va<;>first|exact h.elim|(cases vb<;>first|exact h.elim|exact⟨_,_,rfl,rfl,h _ _ _ .refl R<|.bl _⟩)
abbrev Dl (a b:A)(S:iI):R A:=match a,b with
 | .int i,.int j=>.ok (.bl<|decide<|j<i) S
 | _,_=>.no
def Ad(hu:X.A.units+64<cLine):lT X (compareOp .Gt) (r2 X Dl):=λpins s σ H x y v u Q I rx ry h9=>by
 x_go
 cases va with
 | int i=>
  cases vb with
  | int j=>exact Uz pins s σ H _ _ v u Q I rx ry ⟨i,j,rfl,rfl,h _ _ _ .refl R<|.bl _⟩
  | _=>exact h.elim
 | _=>exact h.elim
abbrev V0 (a b:A)(S:iI):R A:=match a,b with
 | .int i,.int j=>.ok (.bl<|decide<|j<=i) S
 | _,_=>.no
def WW:lT X (compareOp .GtE) (r2 X V0):=lT.imp T_ λx y H Q h9=>by
 x_go
 cases va<;>first|exact h.elim|(cases vb<;>first|exact h.elim|exact⟨_,_,rfl,rfl,h _ _ _ .refl R<|.bl _⟩)
abbrev Ib (neg:Bool)(a b:A)(S:iI):R A:=match a,b with
 | .bl i,.bl j=>.ok (.bl<|if neg then i != j else i == j) S
 | .non,.non=>.ok (.bl<|!neg) S
 | .unb,.non=>.no
 | .exn _,.non=>.no
 | _,.non=>.ok (.bl neg) S
 | _,_=>.no
def Ry{n:Bool}{a b:A}(h1:b≠.non)(h2:∀j,b≠.bl j):Ib n a b S=.no:=by
 unfold Ib;split<;>first|rfl|exact absurd rfl h1|exact absurd rfl<|h2 _
def Tv{n:Bool}{a b:A}{F:A->iI->Prop}{G:Str->iI->Prop}(h:(Ib n a b S).post F G)(h1:b≠.non)(h2:∀j,b≠.bl j):False:=by
 rw[Ry h1 h2]at h;exact h
def Wr:lT X (compareOp .Is) (r2 X<|Ib false):=λpins s σ H x y v u Q I rx ry h9=>by
 x_go
 cases vb with
 | non=>
  refine Q4 pins s σ H _ _ v u Q I rx ry ⟨rfl,?_⟩
  cases va<;>first|exact h _ _ _ .refl R (.bl _)|exact h.elim
 | bl j=>
  cases va with
  | bl i=>exact Rv pins s σ H _ _ v u Q I rx ry ⟨i,j,rfl,rfl,h _ _ _ .refl R<|.bl _⟩
  | _=>exact h.elim
 | _=>
  exact(Tv h (λz=>nomatch z) nofun).elim
abbrev M4 (f:A->iI->R A)(c:Ex):Ex:=λτ S=>(c τ S).bind λa S1=>f a S1
abbrev CQ (a:A)(S:iI):R A:=match a with
 | .int i=>.ok (.int<|-i) S
 | _=>.no
def VN:VU X (unaryOp .USub) (r1 X CQ):=λpins s σ H x v Q I rx h9=>by
 obtain⟨ρ,S,a,R,va,h⟩:=h9
 cases va with
 | int i=>exact DC pins s σ H _ v Q I rx ⟨i,rfl,h _ _ _ .refl R<|.int _⟩
 | _=>exact h.elim
def Sw{f:A->iI->R A}{c:Ex}{H:Hp}{Q:VK}(h:tE X (M4 f c) σ H Q):X5 (r1 X f) (tE X c) σ H Q:=by
 kst_p;exact⟨ρ,S,τ,R,r,iG (iM h) .refl λa S1 h1 ρ1 H1 x e1 R1 v1=>⟨ρ1,S1,a,R1,v1,iG h1 e1 λc S3 h3=>h3.ext e1⟩⟩
def Jm{c:Ex}(h:AE X a c):AE X (.UnaryOp .USub a pos) (M4 CQ c):=PE.imp (IB VN h) λ_ _ _ q=>Sw q
abbrev pP (a b:A)(S:iI):R A:=match a,b with
 | .tup xs,.int i=>opt (nV xs i) λx=>.ok x S
 | .frz xs,.int i=>opt (nV xs i) λx=>.ok x S
 | .ref n,.int i=>opt (iH S n) λxs=>opt (nV xs i) λx=>.ok x S
 | .str z,.int i=>gd (z.length<=sizeLine) (opt (nV z.cps.toList i) λc=>.ok (.str ⟨#[c]⟩) S)
 | _,_=>.no
def AVs.nV{K:au}{H:Hp}{i:Int}{x:A}(r:AVs K ρ H xs vs)(h:L2.nV xs i=some x):∃v,L2.nV vs i=some v/\AV K ρ H x v:=by
 unfold L2.nV at h ⊢;rw[<- r.length]
 cases hj:yx xs.length i with
 | none=>rw[hj]at h;cases h
 | some j=>
  rw[hj]at h;exact r.get h
def VQ:NW X (r2 X pP):=λvalue slice pins s σ H x y v u Q I rx ry ⟨ρ,S,a,b,R,va,vb,h⟩ hs=>by
 cases va with
 | @tup p xs vs h1 r1=>
  cases vb with
  | int i=>
   obtain⟨x,hx,h⟩:=iR h;obtain⟨z,e,q⟩:=r1.nV hx;exact Ru value slice pins s σ H _ _ v u Q I rx ry ⟨p,vs,i,z,rfl,rfl,lR.of h1,e,h _ _ _ .refl R q⟩ hs
  | _=>exact h.elim
 | @frz p xs vs h1 r1=>
  cases vb with
  | int i=>
   obtain⟨x,hx,h⟩:=iR h;obtain⟨z,e,q⟩:=r1.nV hx;exact EE value slice pins s σ H _ _ v u Q I rx ry ⟨p,vs,i,z,rfl,rfl,h1.M7,e,h _ _ _ .refl R q⟩ hs
  | _=>exact h.elim
 | @ref p n hp=>
  cases vb with
  | int i=>
   kj_on;obtain⟨x,hx,h⟩:=iR h;obtain⟨vs,h1,r1⟩:=R.lst hp<|iV hn;obtain⟨z,e,q⟩:=r1.nV hx;exact EE value slice pins s σ H _ _ v u Q I rx ry ⟨p,vs,i,z,rfl,rfl,nE.of h1,e,h _ _ _ .refl R q⟩ hs
  | _=>exact h.elim
 | str z=>
  cases vb with
  | int i=>
   obtain⟨hz,h⟩:=i6 h;obtain⟨c,hc,h⟩:=iR h;exact S_ value slice pins s σ H _ _ v u Q I rx ry ⟨z,i,c,rfl,rfl,hz,hc,h _ _ _ .refl R<|.str _⟩ hs
  | _=>exact h.elim
 | _=>exact h.elim
def j3{ca cb:Ex}(ha:AE X a ca)(hb:AE X b cb)(hs:vn b:=by exact λ_ _=>rfl):AE X (.Subscript a b pos) (iJ pP ca cb):=PE.imp (Kq VQ ha hb hs) λσ H Q h=>rK h
end
abbrev qE (f:A->A->bi):ad->ad->bi
 | [],[]=>some true
 | x::xs,y::ys=>(f x y).bind λp=>(qE f xs ys).map λq=>p && q
 | _,_=>some false
inductive Sh
 | non
 | bl (b:Bool)
 | int (i:Int)
 | str (x:Str)
 | tup (xs:ad)
 | lst
abbrev SX (S:iI):A->Option Sh
 | .non=>some .non
 | .bl b=>some (.bl b)
 | .int i=>some (.int i)
 | .str x=>some (.str x)
 | .tup xs=>some (.tup xs)
 | .ref i=>(iH S i).map λ_=>.lst
 | _=>none
abbrev Nr (f:A->A->bi):Sh->Sh->bi
 | .non,.non=>some true
 | .bl x,.bl y=>some (x == y)
 | .bl x,.int y=>some ((if x then 1 else 0) == y)
 | .int x,.bl y=>some (x == (if y then 1 else 0))
 | .int x,.int y=>some (x == y)
 | .str x,.str y=>some (x == y)
 | .tup xs,.tup ys=>qE f xs ys
 | .lst,.lst=>none
 | _,_=>some false
abbrev tV (S:iI):Nat->A->A->bi
 | 0,_,_=>none
 | n+1,a,b=>match a,b with
  | .ref i,.ref j=>(iH S i).bind λxs=>(iH S j).bind λys=>qE (tV S n) xs ys
  | _,_=>(SX S a).bind λx=>(SX S b).bind λy=>Nr (tV S n) x y
section
variable {X:Cx}{pins:bn}{σ:L2.St}{H:Hp}{s:aC}{ρ:ba}{S:iI}
inductive KdV (s:aC):Sh->af->Prop
 | non:KdV s .non .none
 | bl (b:Bool):KdV s (.bl b) (.bool b)
 | int (i:Int) (t:Tok):KdV s (.int i) (.int i t)
 | str (x:Str) (t:Tok):KdV s (.str x) (.str x t)
 | tup {p:ak} {us:ar} (xs:ad) (h:s.heap.IsTuple p us.toArray):KdV s (.tup xs) (.ref p)
 | lst {p:ak} {us:ar} (h:s.heap.IsList p us.toArray):KdV s .lst<|.ref p
def FZ{p:ak}(h:s.heap.IsTuple p us)(h':s.heap.IsList p ws):False:=by
 obtain⟨o,e,c,_⟩:=h;obtain⟨o',e',c',_⟩:=h';rw[e]at e'
 cases e'
 exact absurd (c.symm.trans c') ⋯
def Gf(I:Inv X pins σ H s)(R:Rel X.K ρ H S){a:A}{x:V}(ha:AV X.K ρ H a x)(r:RelV x u)(e:SX S a=some h):KdV s h u:=by
 cases ha with
 | non=>cases e;cases(show u=Value.none from r);exact .non
 | bl b=>cases e;cases(show u=Value.bool b from r);exact .bl b
 | int i=>cases e;obtain⟨t,rfl⟩:∃t,u=Value.int i t:=r;exact .int i t
 | str i=>cases e;obtain⟨t,rfl⟩:∃t,u=Value.str i t:=r;exact .str i t
 | tup h1 r1=>cases e;cases(show u=Value.ref _ from r);obtain⟨us,_,p,_⟩:=I.tuple<|lR.of h1;exact .tup _ p
 | ref h1=>
  obtain⟨xs,e1,rfl⟩:=bu.mp e
  cases(show u=Value.ref _ from r)
  obtain⟨vs,h3,r1⟩:=R.lst h1<|iV e1;obtain⟨us,_,p,_⟩:=I.list<|nE.of h3;exact .lst p.isList
 | _=>cases e
abbrev Al (B:aA)(s:aC)(u v:af)(k:Bool):Prop:=SeqAt.RcAt B s u v k/\SeqAt.EqAt B s u v k/\SeqAt.RcNeAt B s u v (!k)
def VR{B:aA}(hu:B.units<cLine){f:A->A->bi}{v:af}{k:Bool}(d:KdV s h u)(d':KdV s h' v)(nt:∀xs ys,h=.tup xs->h'≠.tup ys)(e:Nr f h h'=some k):Al B s u v k:=by
 cases d with
 | non=>cases d' with
  | non=>cases e;exact⟨.none_none,.same _,.none_none⟩
  | bl b=>cases e;exact⟨.none_bool _,.none_bool _,.none_bool _⟩
  | int i t=>cases e;exact⟨.none_int _ _,.none_int _ _,.none_int _ _⟩
  | str x t=>cases e;exact⟨.none_str _ _,.none_str _ _,.none_str _ _⟩
  | tup xs p=>cases e;exact⟨.none_tuple p hu,.none_tuple p hu,.none_tuple p hu⟩
  | lst p=>cases e;exact⟨.none_list p hu,.none_list p hu,.none_list p hu⟩
 | bl c=>cases d' with
  | non=>cases e;exact⟨.bool_none _,.bool_none _,.bool_none _⟩
  | bl b=>cases e;exact⟨.bool_bool _ _,.bool_bool _ _,.bool_bool _ _⟩
  | int i t=>cases e;exact⟨.bool_int _ _ _,.bool_int _ _ _,.bool_int _ _ _⟩
  | str x t=>cases e;exact⟨.bool_str _ _ _,.bool_str _ _ _,.bool_str _ _ _⟩
  | tup xs p=>cases e;exact⟨.bool_tuple _ p hu,.bool_tuple _ p hu,.bool_tuple _ p hu⟩
  | lst p=>cases e;exact⟨.bool_list _ p hu,.bool_list _ p hu,.bool_list _ p hu⟩
 | int c t'=>cases d' with
  | non=>cases e;exact⟨.int_none _ _,.int_none _ _,.int_none _ _⟩
  | bl b=>cases e;exact⟨.int_bool _ _ _,.int_bool _ _ _,.int_bool _ _ _⟩
  | int i t=>cases e;exact⟨.int_int _ _ _ _,.int_int _ _ _ _,.int_int _ _ _ _⟩
  | str x t=>cases e;exact⟨.int_str _ _ _ _,.int_str _ _ _ _,.int_str _ _ _ _⟩
  | tup xs p=>cases e;exact⟨.int_tuple _ _ p hu,.int_tuple _ _ p hu,.int_tuple _ _ p hu⟩
  | lst p=>cases e;exact⟨.int_list _ _ p hu,.int_list _ _ p hu,.int_list _ _ p hu⟩
 | str c t'=>cases d' with
  | non=>cases e;exact⟨.str_none _ _,.str_none _ _,.str_none _ _⟩
  | bl b=>cases e;exact⟨.str_bool _ _ _,.str_bool _ _ _,.str_bool _ _ _⟩
  | int i t=>cases e;exact⟨.str_int _ _ _ _,.str_int _ _ _ _,.str_int _ _ _ _⟩
  | str x t=>cases e;exact⟨.str_str _ _ _ _,.str_str _ _ _ _,.str_str _ _ _ _⟩
  | tup xs p=>cases e;exact⟨.str_tuple _ _ p hu,.str_tuple _ _ p hu,.str_tuple _ _ p hu⟩
  | lst p=>cases e;exact⟨.str_list _ _ p hu,.str_list _ _ p hu,.str_list _ _ p hu⟩
 | tup zs p'=>cases d' with
  | non=>cases e;exact⟨.tuple_none p' hu,.tuple_none p' hu,.tuple_none p' hu⟩
  | bl b=>cases e;exact⟨.tuple_bool _ p' hu,.tuple_bool _ p' hu,.tuple_bool _ p' hu⟩
  | int i t=>cases e;exact⟨.tuple_int _ _ p' hu,.tuple_int _ _ p' hu,.tuple_int _ _ p' hu⟩
  | str x t=>cases e;exact⟨.tuple_str _ _ p' hu,.tuple_str _ _ p' hu,.tuple_str _ _ p' hu⟩
  | tup xs p=>exact absurd rfl (nt _ _ rfl)
  | lst p=>cases e;exact⟨.tuple_list p' p hu,.of_refs (λz=>by subst z;exact FZ p' p)<|.tuple_list p' p hu,.tuple_list p' p hu⟩
 | lst p'=>cases d' with
  | non=>cases e;exact⟨.list_none p' hu,.list_none p' hu,.list_none p' hu⟩
  | bl b=>cases e;exact⟨.list_bool _ p' hu,.list_bool _ p' hu,.list_bool _ p' hu⟩
  | int i t=>cases e;exact⟨.list_int _ _ p' hu,.list_int _ _ p' hu,.list_int _ _ p' hu⟩
  | str x t=>cases e;exact⟨.list_str _ _ p' hu,.list_str _ _ p' hu,.list_str _ _ p' hu⟩
  | tup xs p=>cases e;exact⟨.list_tuple p' p hu,.of_refs (λz=>by subst z;exact FZ p p')<|.list_tuple p' p hu,.list_tuple p' p hu⟩
  | lst p=>cases e
def z_{a:A}{x:V}(h:AV X.K ρ H a x)(e:SX S a=some (.tup xs)):a=.tup xs/\∃p vs,x=.ref p/\H p=some (.tup vs)/\AVs X.K ρ H xs vs:=by
 cases h with
 | tup h r=>cases e;exact⟨rfl,_,_,rfl,h,r⟩
 | ref h=>obtain⟨_,_,z⟩:=bu.mp e;cases z
 | _=>cases e
def zX{i:Nat}{x:V}(h:AV X.K ρ H (.ref i) x):∃p,x=.ref p/\ρ[i]?=some p:=by
 cases h with
 | ref h=>exact⟨_,rfl,h⟩
def Kz{a:A}(e:SX S a=some .lst):∃i,a=.ref i:=by
 cases a with
 | ref i=>exact⟨i,rfl⟩
 | _=>cases e
def JJ{n:Nat}{a:A}{k:Bool}(e:tV S (n+1) a b=some k):(∃i j xs ys,a=.ref i/\b=.ref j/\iH S i=some xs/\iH S j=some ys/\qE (tV S n) xs ys=some k)\/(∃h h',SX S a=some h/\SX S b=some h'/\Nr (tV S n) h h'=some k/\(h=.lst->h'≠.lst)):=by
 unfold tV at e;split at e
 ·obtain⟨xs,e1,e⟩:=cJ.mp e;obtain⟨ys,e2,e⟩:=cJ.mp e;exact .inl ⟨_,_,xs,ys,rfl,rfl,e1,e2,e⟩
 ·rename_i nr;obtain⟨h,e1,e⟩:=cJ.mp e;obtain⟨h',e2,e⟩:=cJ.mp e;refine .inr ⟨h,h',e1,e2,e,λz1 z2=>?_⟩;subst z1 z2;obtain⟨i,rfl⟩:=Kz e1;obtain⟨j,rfl⟩:=Kz e2;exact nr i j rfl rfl
def Oi{f:A->A->bi}{k:Bool}(d:KdV s h u)(d':KdV s h' u)(nt:∀xs ys,h=.tup xs->h'≠.tup ys)(e:Nr f h h'=some k):k=true:=by
 cases d with
 | non=>cases d';exact(aU e).symm
 | bl b=>cases d';exact(aU e).symm.trans (bK b)
 | int b=>cases d';exact(aU e).symm.trans (bK b)
 | str b=>cases d';exact(aU e).symm.trans (bK b)
 | tup xs p=>cases d' with
  | tup=>exact absurd rfl (nt _ _ rfl)
  | lst q=>exact(FZ p q).elim
 | lst p=>cases d' with
  | tup _ q=>exact(FZ q p).elim
  | lst q=>cases e
def Bg{f:A->A->bi}(hf:∀a b x u k,AV X.K ρ H a x->AV X.K ρ H b x->RelV x u->f a b=some k->k=true):∀{xs ys:ad}{vs:List V}{us:ar}{k:Bool},AVs X.K ρ H xs vs->AVs X.K ρ H ys vs->Vals vs us->qE f xs ys=some k->k=true:=by
 intro xs ys vs us k h1 h2 q e
 induction q generalizing xs ys k with
 | nil=>cases h1;cases h2;exact(aU e).symm
 | cons rv _ ih=>
  cases h1 with
  | cons h t=>cases h2 with
   | cons h' t'=>
    obtain⟨p,e1,e⟩:=cJ.mp e;obtain⟨q,e2,e3⟩:=bu.mp e;rw[<- e3,hf _ _ _ _ p h h' rv e1,ih t t' e2];rfl
def FF(h h':Sh):(∃xs ys,h=.tup xs/\h'=.tup ys)\/(∀xs ys,h=.tup xs->h'≠.tup ys):=by
 cases h with
 | tup xs=>cases h' with
  | tup ys=>exact .inl ⟨xs,ys,rfl,rfl⟩
  | _=>exact .inr λ_ _ _ z=>nomatch z
 | _=>exact .inr λ_ _ z=>nomatch z
theorem zH(I:Inv X pins σ H s)(R:Rel X.K ρ H S):∀(n:Nat) (a b:A) (x:V) (u:af) (k:Bool),AV X.K ρ H a x->AV X.K ρ H b x->RelV x u->tV S n a b=some k->k=true
 | 0,_,_,_,_,_,_,_,_,e=>nomatch e
 | n+1,a,b,x,u,k,ha,hb,ru,e=>by
  rcases JJ e with⟨i,j,xs,ys,rfl,rfl,e1,e2,e⟩|⟨h,h',e1,e2,e,_⟩
  ·obtain⟨p,rfl,h1⟩:=zX ha;obtain⟨q,z,h2⟩:=zX hb
   cases z
   obtain⟨vs,h3,r1⟩:=R.lst h1<|iV e1;obtain⟨ws,h4,r2⟩:=R.lst h2<|iV e2;rw[h3]at h4
   cases h4
   obtain⟨us,q,_⟩:=I.list<|nE.of h3;exact Bg (λa b x u k=>zH I R n a b x u k) r1 r2 q e
  ·rcases FF h h' with⟨xs,ys,rfl,rfl⟩|nt
   ·obtain⟨rfl,p,vs,rfl,h3,r1⟩:=z_ ha e1;obtain⟨rfl,q,ws,z,h4,r2⟩:=z_ hb e2
    cases z
    have:=I.uC (lR.of h3)<|lR.of h4;subst this;obtain⟨us,q,_⟩:=I.tuple<|lR.of h3;exact Bg (λa b x u k=>zH I R n a b x u k) r1 r2 q e
   ·exact Oi (Gf I R ha ru e1) (Gf I R hb ru e2) nt e
abbrev yq (f:A->A->bi)(xs ys:ad)(j:Nat):Bool:=match xs[j]?,ys[j]? with
 | some x,some y=>(f x y).getD true
 | _,_=>true
theorem vD{f:A->A->bi}:∀{xs ys:ad}{k:Bool},qE f xs ys=some k->k=((List.range<|min xs.length ys.length).all (yq f xs ys) && xs.length == ys.length)/\∀j x y,xs[j]?=some x->ys[j]?=some y->f x y=some (yq f xs ys j)
 | [],[],k,e=>⟨(aU e).symm,λj x y h=>by simp at h⟩
 | [],_::_,k,e=>⟨(aU e).symm,λj x y h=>by simp at h⟩
 | _::_,[],k,e=>⟨(aU e).symm,λj x y _ h=>by simp at h⟩
 | x::xs,y::ys,k,e=>by
  unfold qE at e
  cases e1:f x y with
  | none=>rw[e1]at e;cases e
  | some p=>
   rw[e1]at e;obtain⟨q,e2,e3⟩:=bu.mp e;obtain⟨h1,h2⟩:=vD e2;have p0:yq f (x::xs) (y::ys) 0=p:=by simp[yq,e1]
   have ps:∀j,yq f (x::xs) (y::ys) (j+1)=yq f xs ys j:=λj=>by simp[yq]
   refine⟨?_,λj a b ha hb=>?_⟩
   ·rw[<- e3,h1,bz,bz,Nat.succ_min_succ,List.range_succ_eq_map,List.all_cons,List.all_map,p0];have:(yq f (x::xs) (y::ys) ∘ Nat.succ)=yq f xs ys:=funext ps;rw[this,Bool.and_assoc];simp
   ·cases j with
    | zero=>
     simp at ha hb;subst ha hb;rw[p0];exact e1
    | succ j=>rw[ps];exact h2 j a b (by simpa using ha)<|by simpa using hb
def vZ{f:A->A->bi}{B:aA}(hf:∀a b x y u v k,AV X.K ρ H a x->AV X.K ρ H b y->RelV x u->RelV y v->f a b=some k->SeqAt.EqAt B s u v k){us ts:ar}{k:Bool}
  (r1:AVs X.K ρ H xs vs) (r2:AVs X.K ρ H ys ws) (q1:Vals vs us) (q2:Vals ws ts) (e:qE f xs ys=some k):∀j (h1:j<us.toArray.size) (h2:j<ts.toArray.size),SeqAt.EqAt B s us.toArray[j] ts.toArray[j] (yq f xs ys j):=by
 intro j h1 h2;have l1:=r1.length;have l2:=r2.length;have l3:=q1.length;have l4:=q2.length;have hx:j<xs.length:=by simp at h1;lia
 have hy:j<ys.length:=by simp at h2;lia
 have e1:xs[j]?=some xs[j]:=aG hx;have e2:ys[j]?=some ys[j]:=aG hy;obtain⟨x,ex,ax⟩:=r1.get e1;obtain⟨y,ey,ay⟩:=r2.get e2;obtain⟨u,eu,ru⟩:=q1.get ex;obtain⟨t,et,rt⟩:=q2.get ey;have a1:us.toArray[j]=u:=by
  have:us[j]?=some us.toArray[j]:=by simp at h1;simp[h1]
  rw[eu]at this;exact(aU this).symm
 have a2:ts.toArray[j]=t:=by
  have:ts[j]?=some ts.toArray[j]:=by simp at h2;simp[h2]
  rw[et]at this;exact(aU this).symm
 rw[a1,a2];exact hf _ _ x y u t _ ax ay ru rt<|(vD e).2 j _ _ e1 e2
def in1_units(B:aA):B.in1.units=B.units+1:=rfl
theorem Ge(I:Inv X pins σ H s)(R:Rel X.K ρ H S):∀(n:Nat) (B:aA) (a b:A) (x y:V) (u v:af) (k:Bool),B.units+n<cLine->AV X.K ρ H a x->AV X.K ρ H b y->RelV x u->RelV y v->tV S n a b=some k->Al B s u v k
 | 0,_,_,_,_,_,_,_,_,_,_,_,_,_,e=>nomatch e
 | n+1,B,a,b,x,y,u,v,k,hu,ha,hb,rx,ry,e=>by
  have hu0:B.units<cLine:=()
  have items:∀a b x y u v k,AV X.K ρ H a x->AV X.K ρ H b y->RelV x u->RelV y v->tV S n a b=some k->SeqAt.EqAt B.in1 s u v k:=λa b x y u v k h1 h2 h3 h4 h5=>(Ge I R n B.in1 a b x y u v k (by rw[in1_units];lia) h1 h2 h3 h4 h5).2.1;have same:=λ(z:y=x)=>zH I R (n+1) a b x u k ha (z ▸ hb) rx e;have refs:∀{p q:ak},x=.ref p->y=.ref q->u=.ref p->v=.ref q->SeqAt.RcAt B s u v k->SeqAt.EqAt B s u v k:=λ{p q} z1 z2 z3 z4 h=>by
   subst z3 z4;by_cases hp:p=q
   ·subst hp;rw[same<|z2.trans z1.symm];exact .same _
   ·exact .of_refs hp h
  rcases JJ e with⟨i,j,xs,ys,rfl,rfl,e1,e2,e⟩|⟨h,h',e1,e2,e,_⟩
  ·obtain⟨p,rfl,h1⟩:=zX ha;obtain⟨q,rfl,h2⟩:=zX hb;obtain⟨vs,h3,r1⟩:=R.lst h1<|iV e1;obtain⟨ws,h4,r2⟩:=R.lst h2<|iV e2;obtain⟨us,q1,p1,_⟩:=I.list<|nE.of h3;obtain⟨ts,q2,p2,_⟩:=I.list<|nE.of h4;have ru:=refs rfl rfl rx ry
   cases(show u=Value.ref p from rx)
   cases(show v=Value.ref q from ry)
   have l1:=r1.length;have l2:=r2.length;have l3:=q1.length;have l4:=q2.length;have ek:=(vD e).1;by_cases hl:xs.length=ys.length
   ·rw[<- hl,Nat.min_self,bK,Bool.and_true]at ek;have eh:us.toArray.size=ts.toArray.size:=by simp;lia
    have z1:=SeqAt.RcAt.lists p1.isList p2.isList eh hu0<|vZ items r1 r2 q1 q2 e;have z2:=SeqAt.RcNeAt.lists p1.isList p2.isList eh hu0<|vZ items r1 r2 q1 q2 e;rw[aW,<- l3,<- l1,<- ek]at z1 z2;exact⟨z1,ru z1,z2⟩
   ·have:(xs.length == ys.length)=false:=by simpa using hl
    rw[this,iB]at ek;subst ek;have eh:(us.toArray.size != ts.toArray.size)=true:=by simp;lia
    have z1:=SeqAt.RcAt.lists_lengths p1.isList p2.isList eh hu0;exact⟨z1,ru z1,SeqAt.RcNeAt.lists_lengths p1.isList p2.isList eh hu0⟩
  ·rcases FF h h' with⟨xs,ys,rfl,rfl⟩|nt
   ·obtain⟨rfl,p,vs,rfl,h3,r1⟩:=z_ ha e1;obtain⟨rfl,q,ws,rfl,h4,r2⟩:=z_ hb e2;have ru:=refs rfl rfl rx ry
    cases(show u=Value.ref p from rx)
    cases(show v=Value.ref q from ry)
    obtain⟨us,q1,p1,_⟩:=I.tuple<|lR.of h3;obtain⟨ts,q2,p2,_⟩:=I.tuple<|lR.of h4;have ek:=(vD e).1;have z1:=SeqAt.RcAt.tuples p1 p2 hu0<|vZ items r1 r2 q1 q2 e;have z2:=SeqAt.RcNeAt.tuples p1 p2 hu0<|vZ items r1 r2 q1 q2 e;rw[aW,aW,<- q1.length,<- q2.length,<- r1.length,<- r2.length,<- ek]at z1 z2;exact⟨z1,ru z1,z2⟩
   ·exact VR hu0 (Gf I R ha rx e1) (Gf I R hb ry e2) nt e
end
section
variable {X:Cx}
abbrev qo (neg:Bool)(a b:A)(S:iI):R A:=opt (tV S 12 a b) λk=>.ok (.bl<|if neg then !k else k) S
def HA(hu:X.A.units+64<cLine):lT X (compareOp .Eq) (r2 X<|qo false):=λpins s σ H x y v u Q I rx ry h9=>by
 x_go;obtain⟨k,e,h⟩:=iR h;exact(Ge I R 12 X.A a b x y v u k (by omega) va vb rx ry e).1 _ _ _ _ ⟨.bl _,H,I,rfl,h _ _ _ .refl R<|.bl _⟩
def Cp(hu:X.A.units+64<cLine):lT X (compareOp .NotEq) (r2 X<|qo true):=λpins s σ H x y v u Q I rx ry h9=>by
 x_go;obtain⟨k,e,h⟩:=iR h;exact(Ge I R 12 X.A a b x y v u k () va vb rx ry e).2.2 _ _ _ _ ⟨.bl _,H,I,rfl,h _ _ _ .refl R<|.bl _⟩
end
section
variable {X:Cx}{pos:Pos}{a b:aE}
meta abbrev Pt:=ad->iI->R (bd)
abbrev EK:Pt:=λ_ S=>.ok none S
abbrev se (c:Ex):Pt:=λτ S=>(c τ S).bind λa S1=>match a with
 | .int i=>.ok (some i) S1
 | _=>.no
abbrev tO (X:Cx)(c:Pt):TO:=λσ H Q=>∃ρ S τ,Rel X.K ρ H S/\SR X.K ρ H τ σ/\(c τ S).post (λo S'=>∀ρ' H',Ext ρ ρ' H H'->Rel X.K ρ' H' S'->Q o H') (XE X ρ H)
abbrev AO (X:Cx)(e:Option aE)(c:Pt):Prop:=PO X e<|tO X c
def Ej:AO X none EK:=λpins s σ H Q I ⟨ρ,S,τ,R,r,h⟩=>Oo pins s σ H Q I<|h ρ H .refl R
def rJ{c:Ex}(ha:AE X a c):AO X (some a) (se c):=λpins s σ H Q I ⟨ρ,S,τ,R,r,h⟩=>Nx ha pins s σ H Q I ⟨ρ,S,τ,R,r,iG (iM h) .refl λx S1 h1 ρ1 H1 v e1 R1 v1=>by
 cases v1<;>first|exact h1.elim|exact⟨_,rfl,h1 ρ1 H1 e1 R1⟩⟩
abbrev uY (xs:ad)(lo hi:bd):ad:=(xs.drop<|HT.lg xs.length 0 lo).take<|HT.lg xs.length xs.length hi-HT.lg xs.length 0 lo
def AVs.cut{K:au}{H:Hp}(r:AVs K ρ H xs vs)(lo hi:bd):AVs K ρ H (uY xs lo hi) (AZ vs lo hi):=by
 unfold uY AZ;rw[r.length];exact(r.drop _).take _
abbrev CL (a:A)(lo hi:bd)(S:iI):R A:=match a with
 | .ref n=>opt (iH S n) λxs=>.ok (.ref S.length) (S++[.lst<|uY xs lo hi])
 | .frz xs=>.ok (.ref S.length) (S++[.lst<|uY xs lo hi])
 | .tup xs=>gd (¬(HT.lg xs.length 0 lo=0/\HT.lg xs.length xs.length hi=xs.length)) (.ok (.tup<|uY xs lo hi) S)
 | _=>.no
abbrev RI (c:Ex)(lo hi:Pt):Ex:=λτ S=>(c τ S).bind λa S1=>(lo τ S1).bind λl S2=>(hi τ S2).bind λu S3=>CL a l u S3
abbrev rS (X:Cx):V->bd->bd->Hp->VK->Prop:=λx lo hi H Q=>∃ρ S a,Rel X.K ρ H S/\AV X.K ρ H a x/\(CL a lo hi S).post (vX X ρ H Q) (XE X ρ H)
def QO:V6 X (rS X):=λpins s σ H x v vl vu lo hi sl Q I rx hs pl pu h9=>by
 obtain⟨ρ,S,a,R,va,h⟩:=h9
 cases va with
 | @tup p xs vs h1 r1=>
  obtain⟨hc,h⟩:=i6 h;exact Q7 pins s σ H _ v vl vu lo hi sl Q I rx hs pl pu ⟨p,vs,rfl,(lR.of h1),by rw[<- r1.length];exact hc,ow R (r1.cut lo hi) .refl h⟩
 | @frz p xs vs h1 r1=>exact Ew pins s σ H _ v vl vu lo hi sl Q I rx hs pl pu ⟨p,vs,rfl,h1.M7,mh R (r1.cut lo hi) .refl h⟩
 | @ref p n hp=>
  kj_on;obtain⟨vs,h1,r1⟩:=R.lst hp<|iV hn;exact Ew pins s σ H _ v vl vu lo hi sl Q I rx hs pl pu ⟨p,vs,rfl,nE.of h1,mh R (r1.cut lo hi) .refl h⟩
 | _=>exact h.elim
def ES{e:aE}{lo:Option aE}{c:Ex}{cl ch:Pt}(he:AE X e c)(hl:AO X lo cl)(hh:AO X hi ch):AE X (.Subscript e (.Slice lo hi none p2) pos) (RI c cl ch):=PE.imp (JY QO he hl hh) λσ H Q h9=>by
 z_go;refine⟨ρ,S,τ,R,r,iG (iM h) .refl λa S1 h1 ρ1 H1 x e1 R1 v1=>⟨ρ1,S1,τ,R1,r.ext e1,iG (iM h1) e1 λl S2 h2 ρ2 H2 e2 R2=>⟨ρ2,S2,τ,R2,r.ext<|e1.trans e2,iG (iM h2) (e1.trans e2) λu S3 h3 ρ3 H3 e3 R3=>?_⟩⟩⟩;exact⟨ρ3,S3,a,R3,v1.ext<|e2.trans e3,iG h3 (e1.trans<|e2.trans e3) λ_ _ z=>z.ext<|e1.trans<|e2.trans e3⟩
abbrev Hl (a:A)(S:iI):R A:=match a with
 | .ref n=>opt (iH S n) λxs=>.ok (.ref S.length) (S++[.lst xs.reverse])
 | .tup xs=>.ok (.tup xs.reverse) S
 | _=>.no
def LN{e:aE}{up cp:Pos}{kk:Nat}{c:Ex}(he:AE X e c):AE X (.Subscript e (.Slice none none (some<|.UnaryOp .USub (.Constant (.int 1) kk cp) up) p2) pos) (M4 Hl c):=λpins s σ H Q I h9=>by
 z_go;have hb:=iM h
 cases hc:c τ S with
 | no=>rw[hc]at hb;exact hb.elim
 | ex x S1=>
  rw[hc]at hb;exact ET he pins s σ H Q I ⟨ρ,S,τ,R,r,by rw[hc];exact hb⟩
 | ok a S1=>
  rw[hc]at hb;have hb:(Hl a S1).post (vX X ρ H Q) (XE X ρ H):=hb
  cases a with
  | tup xs=>
   refine ET he pins s σ H Q I ⟨ρ,S,τ,R,r,?_⟩;rw[hc];intro ρ1 H1 x e1 R1 v1
   cases v1 with
   | tup h1 r1=>exact⟨_,_,rfl,(lR.of h1),ow R1 r1.reverse e1 hb⟩
  | ref n=>
   refine N_ he pins s σ H Q I ⟨ρ,S,τ,R,r,?_⟩;rw[hc];intro ρ1 H1 x e1 R1 v1;obtain⟨xs,hn,h⟩:=iR hb
   cases v1 with
   | ref hp=>
    obtain⟨vs,h1,r1⟩:=R1.lst hp<|iV hn;exact⟨_,_,rfl,nE.of h1,mh R1 r1.reverse e1 h⟩
  | _=>exact hb.elim
abbrev jf (f:ad->iI->R A)(d:p5):Ex:=λτ S=>(d τ S).bind λas S1=>f as S1
def AU{f:ad->iI->R A}{d:p5}{H:Hp}{Q:VK}(h:tE X (jf f d) σ H Q):WI (rN X f) (tL X d) σ H Q:=by
 kst_p;exact⟨ρ,S,τ,R,r,iG (iM h) .refl λas S1 h1 ρ1 H1 vs e1 R1 v1=>⟨ρ1,S1,as,R1,v1,iG h1 e1 λ_ _ z=>z.ext e1⟩⟩
variable {x:Str}{p:Pos}{e:aE}{es:List aE}{id T:String}{f:ad->iI->R A}{d:p5}
def i7(hc:jl X (.builtin id)<|rN X f)(hm:X.mg x=none)(hv:bootBuiltins x=some (.builtin id))(ha:AL X (e::es) d)(hg:Gl X x:=by rfl)(hn:x ≠ "__name__" := by decide)(hdb:(x == ("__debug__" : Str))=false:=by decide)
  (he:starEach (e::es) X.env=(false,eval e X.env)::starEach es X.env:=by rfl) (hpl:(backTo pos<|starEach es X.env).any (·.1)=false:=by rfl):AE X (.Call (.Name x p) (e::es) [] pos) (jf f d):=
 PE.imp (IV hc hg hm hv ha hn hdb he hpl) λ_ _ _ h=>AU h
def mq(hc:jl X (.type T)<|rN X f)(hm:X.mg x=none)(hv:bootBuiltins x=some (.type T))(ha:AL X (e::es) d)(hg:Gl X x:=by rfl)(hn:x ≠ "__name__" := by decide)(hdb:(x == ("__debug__" : Str))=false:=by decide)
  (he:starEach (e::es) X.env=(false,eval e X.env)::starEach es X.env:=by rfl) (hpl:(backTo pos<|starEach es X.env).any (·.1)=false:=by rfl):AE X (.Call (.Name x p) (e::es) [] pos) (jf f d):=
 PE.imp (uV hc hg hm hv ha hn hdb he hpl) λ_ _ _ h=>AU h
def Qq(hm:X.mg x=none)(hv:bootBuiltins x=some (.type T))(hg:Gl X x:=by rfl)(hn:x ≠ "__name__" := by decide)(hdb:(x == ("__debug__" : Str))=false:=by decide):AE X (.Name x pos) (eC<|.ty T):=
 PE.imp (Ox (v:=.ty T) hg hm hv rfl hn hdb) λσ H Q ⟨ρ,S,τ,R,r,h⟩=>h ρ H _ .refl R<|.ty T
abbrev A.seq (S:iI):A->Option (ad)
 | .tup xs=>some xs
 | .frz xs=>some xs
 | .ref n=>iH S n
 | _=>none
def Sq{K:au}{H:Hp}{x:A}{v:V}(R:Rel K ρ H S)(h:AV K ρ H x v)(e:x.seq S=some xs):∃p vs,v=.ref p/\(nE K H p vs\/lR K H p vs)/\AVs K ρ H xs vs:=by
 cases h with
 | tup h r=>cases aU e;exact⟨_,_,rfl,.inr<|lR.of h,r⟩
 | frz h r=>cases aU e;exact⟨_,_,rfl,.inl h.M7,r⟩
 | ref h=>
  obtain⟨vs,h1,r1⟩:=R.lst h<|iV e;exact⟨_,vs,rfl,.inl<|nE.of h1,r1⟩
 | _=>cases e
def OH{K:au}{H:Hp}{x:A}(h:AVs K ρ H [x] vs):∃v,vs=[v]/\AV K ρ H x v:=by
 cases h with
 | cons h t=>cases t;exact⟨_,rfl,h⟩
def TX{K:au}{H:Hp}{x:A}(h:AVs K ρ H [x,y] vs):∃v w,vs=[v,w]/\AV K ρ H x v/\AV K ρ H y w:=by
 cases h with
 | cons h t=>obtain⟨w,rfl,h'⟩:=OH t;exact⟨_,_,rfl,h,h'⟩
abbrev f1 (g:A->iI->R A):ad->iI->R A:=λas S=>match as with
 | [x]=>g x S
 | _=>.no
abbrev f2 (g:A->A->iI->R A):ad->iI->R A:=λas S=>match as with
 | [x,y]=>g x y S
 | _=>.no
def Ny{g:A->iI->R A}{P:A->iI->Prop}{E:Str->iI->Prop}(h:(f1 g as S).post P E):∃x,as=[x]/\(g x S).post P E:=by
 match as,h with
 | [],h=>exact h.elim
 | [x],h=>exact⟨x,rfl,h⟩
 | _::_::_,h=>exact h.elim
def O0{g:A->A->iI->R A}{P:A->iI->Prop}{E:Str->iI->Prop}(h:(f2 g as S).post P E):∃x y,as=[x,y]/\(g x y S).post P E:=by
 match as,h with
 | [],h=>exact h.elim
 | [_],h=>exact h.elim
 | [x,y],h=>exact⟨x,y,rfl,h⟩
 | _::_::_::_,h=>exact h.elim
def RP{g:A->iI->R A}{H:Hp}{Q:VK}(h:rN X (f1 g) vs H Q):∃v,vs=[v]/\∃ρ S x,Rel X.K ρ H S/\AV X.K ρ H x v/\(g x S).post (vX X ρ H Q) (XE X ρ H):=by
 obtain⟨ρ,S,as,R,v,h⟩:=h;obtain⟨x,rfl,h⟩:=Ny h;obtain⟨w,rfl,hv⟩:=OH v;exact⟨w,rfl,ρ,S,x,R,hv,h⟩
def VT{g:A->A->iI->R A}{H:Hp}{Q:VK}(h:rN X (f2 g) vs H Q):∃v w,vs=[v,w]/\∃ρ S x y,Rel X.K ρ H S/\AV X.K ρ H x v/\AV X.K ρ H y w/\(g x y S).post (vX X ρ H Q) (XE X ρ H):=by
 obtain⟨ρ,S,as,R,v,h⟩:=h;obtain⟨x,y,rfl,h⟩:=O0 h;obtain⟨w,w',rfl,hv,hv'⟩:=TX v;exact⟨w,w',rfl,ρ,S,x,y,R,hv,hv',h⟩
abbrev mz (x:A)(S:iI):R A:=match x with
 | .str x=>gd (x.length<=sizeLine) (.ok (.int x.length) S)
 | .tup xs=>.ok (.int xs.length) S
 | .frz xs=>.ok (.int xs.length) S
 | .ref n=>opt (iH S n) λxs=>.ok (.int xs.length) S
 | _=>.no
def kQ:jl X (.builtin "len") (rN X<|f1 mz):=jl.imp Ij λvs H Q h0=>by
 kpc_g;clear h0
 cases hv with
 | str z=>
  obtain⟨hz,h⟩:=i6 h;exact⟨_,_,rfl,⟨hz,rfl⟩,h _ _ _ .refl R<|.int _⟩
 | @tup p xs us h1 r=>exact⟨_,us.length,rfl,.inr ⟨us,(lR.of h1),rfl⟩,by rw[<- r.length];exact h _ _ _ .refl R<|.int _⟩
 | @frz p xs us h1 r=>exact⟨_,us.length,rfl,.inl ⟨us,h1.M7,rfl⟩,by rw[<- r.length];exact h _ _ _ .refl R<|.int _⟩
 | ref hp=>
  kj_on;obtain⟨us,h1,r⟩:=R.lst hp<|iV hn;exact⟨_,us.length,rfl,.inl ⟨us,nE.of h1,rfl⟩,by rw[<- r.length];exact h _ _ _ .refl R<|.int _⟩
 | _=>exact h.elim
abbrev WK (x:A)(S:iI):R A:=match x with
 | .int i=>.ok (.int<|if i<0 then -i else i) S
 | _=>.no
abbrev KJ (x y:A)(S:iI):R A:=match x,y with
 | .int i,.int j=>.ok (.int<|if j>i then j else i) S
 | _,_=>.no
def RM(hc:X.calm=true):jl X (.builtin "max") (rN X<|f2 KJ):=jl.imp (HM hc) λvs H Q h0=>by
 obtain⟨w,w',rfl,ρ,S,x,y,R,hv,hv',h⟩:=VT h0;clear h0
 cases hv<;>first|exact h.elim|(cases hv'<;>first|exact h.elim|exact⟨_,_,rfl,h _ _ _ .refl R<|.int _⟩)
abbrev IT (x y:A)(S:iI):R A:=match x,y with
 | .int i,.int j=>.ok (.int<|if j<i then j else i) S
 | _,_=>.no
def Rx(hc:X.calm=true):jl X (.builtin "min") (rN X<|f2 IT):=jl.imp (Ia hc) λvs H Q h0=>by
 obtain⟨w,w',rfl,ρ,S,x,y,R,hv,hv',h⟩:=VT h0;clear h0
 cases hv<;>first|exact h.elim|(cases hv'<;>first|exact h.elim|exact⟨_,_,rfl,h _ _ _ .refl R<|.int _⟩)
abbrev CC (x:A)(S:iI):R A:=match x with
 | .int i=>.ok (.int i) S
 | .bl k=>.ok (.int<|if k then 1 else 0) S
 | .str y=>opt (PySem.intText? y) λn=>gd (y.length<=640) (.ok (.int n) S)
 | _=>.no
def Tf:jl X (.type "int") (rN X<|f1 CC):=λpins s σ H xs us Q I rv h0=>by
 kpc_g;clear h0
 cases hv with
 | int i=>exact yE pins s σ H _ us Q I rv (.inl ⟨i,rfl,h _ _ _ .refl R<|.int _⟩)
 | bl k=>exact yE pins s σ H _ us Q I rv (.inr ⟨k,rfl,h _ _ _ .refl R<|.int _⟩)
 | str y=>
  obtain⟨n,hn,h⟩:=iR h;obtain⟨hl,h⟩:=i6 h;exact HB pins s σ H _ us Q I rv ⟨y,n,rfl,hl,hn,h _ _ _ .refl R<|.int _⟩
 | _=>exact h.elim
abbrev zS (x y:A)(S:iI):R A:=match x,y with
 | .int i,.int j=>.ok (.rng i j) S
 | _,_=>.no
def Jy:jl X (.type "range") (rN X<|f2 zS):=jl.imp zR λvs H Q h0=>by
 obtain⟨w,w',rfl,ρ,S,x,y,R,hv,hv',h⟩:=VT h0;clear h0
 cases hv with
 | int i=>
  cases hv' with
  | int j=>
   refine⟨i,j,rfl,λp hp=>?_⟩;obtain⟨ex,R'⟩:=R.im (u:=.rng i j) hp;exact h ρ _ _ ex R'<|.rng jA
  | _=>exact h.elim
 | _=>exact h.elim
abbrev yH (i j:Int):Prop:=(-(2 ^ 62)<=i/\i<2 ^ 62/\-(2 ^ 62)<=j/\j<2 ^ 62)/\(j-i).toNat<=1000
instance (i j:Int):Decidable (yH i j):=by unfold yH;infer_instance
abbrev wc (x:A)(S:iI):R A:=match x with
 | .rng i j=>gd (yH i j) (.ok (.ref S.length)<|S++[.lst<|(i9 i j).map .int])
 | .tup xs=>.ok (.ref S.length) (S++[.lst xs])
 | .frz xs=>.ok (.ref S.length) (S++[.lst xs])
 | .ref n=>opt (iH S n) λxs=>.ok (.ref S.length) (S++[.lst xs])
 | _=>.no
def Mc(hc:X.calm=true):jl X (.type "list") (rN X<|f1 wc):=λpins s σ H vs us Q I rx h0=>by
 kpc_g;clear h0
 cases hv with
 | @rng p i j hp=>
  obtain⟨hc',h⟩:=i6 h;exact yj hc pins s σ H _ us Q I rx ⟨p,i,j,rfl,hp,hc'.1,hc'.2,mh R (qw _) .refl h⟩
 | @tup p xs vs h1 r=>exact p8 pins s σ H _ us Q I rx ⟨p,vs,rfl,.inr<|lR.of h1,mh R r .refl h⟩
 | @frz p xs vs h1 r=>exact p8 pins s σ H _ us Q I rx ⟨p,vs,rfl,.inl h1.M7,mh R r .refl h⟩
 | @ref p n hp=>
  kj_on;obtain⟨vs,h1,r⟩:=R.lst hp<|iV hn;exact p8 pins s σ H _ us Q I rx ⟨p,vs,rfl,.inl<|nE.of h1,mh R r .refl h⟩
 | _=>exact h.elim
abbrev qP (x:A)(S:iI):R A:=match x with
 | .rng i j=>gd (yH i j) (.ok (.tup<|(i9 i j).map .int) S)
 | .tup xs=>.ok (.tup xs) S
 | .frz xs=>.ok (.tup xs) S
 | .ref n=>opt (iH S n) λxs=>.ok (.tup xs) S
 | _=>.no
def vN(hc:X.calm=true):jl X (.type "tuple") (rN X<|f1 qP):=λpins s σ H vs us Q I rx h0=>by
 kpc_g;clear h0
 cases hv with
 | @rng p i j hp=>
  obtain⟨hc',h⟩:=i6 h;exact xY hc pins s σ H _ us Q I rx ⟨p,i,j,rfl,hp,hc'.1,hc'.2,ow R (qw _) .refl h⟩
 | @tup p xs vs h1 r=>exact o6 pins s σ H _ us Q I rx ⟨p,vs,rfl,.inr ⟨(lR.of h1),h _ _ _ .refl R<|.tup h1 r⟩⟩
 | @frz p xs vs h1 r=>exact o6 pins s σ H _ us Q I rx ⟨p,vs,rfl,.inl ⟨h1.M7,ow R r .refl h⟩⟩
 | @ref p n hp=>
  kj_on;obtain⟨vs,h1,r⟩:=R.lst hp<|iV hn;exact o6 pins s σ H _ us Q I rx ⟨p,vs,rfl,.inl ⟨nE.of h1,ow R r .refl h⟩⟩
 | _=>exact h.elim
abbrev A.VZ:ad->Option (List Bool)
 | []=>some []
 | .bl b::xs=>(A.VZ xs).map (b::·)
 | _=>none
abbrev maxOf:ae->bd
 | []=>none
 | [x]=>some x
 | x::xs=>(maxOf xs).map λm=>if m>x then m else x
theorem wj:∀{ns:ae}{m:Int},maxOf ns=some m->m∈ns/\∀a∈ns,a<=m
 | [],_,e=>nomatch e
 | [x],m,e=>by cases e;exact⟨aN,λa h=>by rw[bI]at h;lia⟩
 | x::y::xs,m,e=>by
  obtain⟨m',e1,rfl⟩:=bu.mp<|show(maxOf (y::xs)).map (λm=>if m>x then m else x)=some m from e;obtain⟨h1,h2⟩:=wj e1;by_cases hx:m'>x
  ·rw[aK hx];exact⟨aP _ h1,λa h=>(bJ.mp h).elim (λz=>())<|h2 a⟩
  ·rw[aJ hx];exact⟨aN,λa h=>(bJ.mp h).elim (λz=>()) λz=>by have:=h2 a z;lia⟩
abbrev Jc (x:A)(S:iI):R A:=match x with
 | .ref n=>opt (iH S n) λxs=>opt (A.ints xs) λns=>opt (maxOf ns) λm=>.ok (.int m) S
 | _=>.no
def Sb(hc:X.calm=true):jl X (.builtin "max") (rN X<|f1 Jc):=jl.imp (HY hc) λvs H Q h0=>by
 kpc_g;clear h0
 cases hv with
 | @ref p n hp=>
  kj_on;obtain⟨ns,hb,h⟩:=iR h;obtain⟨m,hm,h⟩:=iR h;obtain⟨vs,h1,r⟩:=R.lst hp<|iV hn;rw[vO r hb]at h1;obtain⟨g1,g2⟩:=wj hm;refine⟨p,ns,rfl,nE.of h1,List.length_pos_of_mem g1,λM hM hG=>?_⟩;have:M=m:=gJ (g2 M hM)<|hG m g1;rw[this];exact h _ _ _ .refl R<|.int _
 | _=>exact h.elim
abbrev insI (x:Int):ae->ae
 | []=>[x]
 | y::ys=>if x<=y then x::y::ys else y::insI x ys
abbrev sortI:ae->ae
 | []=>[]
 | x::xs=>insI x<|sortI xs
theorem insI_perm(x:Int):∀ys:ae,(insI x ys).Perm (x::ys)
 | []=>g4 _
 | y::ys=>by
  unfold insI;by_cases h:x<=y
  ·rw[aK h]
  ·rw[aJ h];exact((insI_perm x ys).cons y).trans (List.Perm.swap x y ys)
theorem sortI_perm:∀xs:ae,(sortI xs).Perm xs
 | []=>g4 _
 | x::xs=>(insI_perm x<|sortI xs).trans<|(sortI_perm xs).cons x
theorem GV(x:Int):∀ys:ae,ys.Pairwise (·<=·)->(insI x ys).Pairwise (·<=·)
 | [],_=>c_ _ _
 | y::ys,h=>by
  unfold insI;obtain⟨h1,h2⟩:=bZ.mp h;by_cases hx:x<=y
  ·rw[aK hx];exact bZ.mpr ⟨λz hz=>(bJ.mp hz).elim (λe=>e ▸ hx) λhz=>Int.le_trans hx<|h1 z hz,h⟩
  ·rw[aJ hx];refine bZ.mpr ⟨λz hz=>?_,GV x ys h2⟩
   rcases bJ.mp ((insI_perm x ys).mem_iff.mp hz)with e|hz
   ·subst e;lia
   ·exact h1 z hz
theorem wJ:∀xs:ae,(sortI xs).Pairwise (·<=·)
 | []=>List.Pairwise.nil
 | x::xs=>GV x _<|wJ xs
abbrev A.kd:A->iI->Option Kd
 | .non,_=>some .non
 | .bl _,_=>some .bl
 | .int _,_=>some .int
 | .str _,_=>some .str
 | .tup _,_=>some .tup
 | .ref n,S=>(iH S n).map λ_=>.lst
 | _,_=>none
def Pa{K:au}(k:Kd):PySem.W.kitOne K k.ty (.type "str")=some (decide<|k=.str):=by cases k<;>rfl
abbrev HF (k:Kd)(c:String):bi:=if c = "int" then some (decide<|k=.int\/k=.bl)else if c = "bool" then some (decide<|k=.bl)else if c = "tuple" then some (decide<|k=.tup)else if c = "list" then some (decide<|k=.lst)else if c = "str" then some (decide<|k=.str)else none
def Fx{K:au}{k:Kd}{c:String}{b:Bool}(h:HF k c=some b):PySem.W.kitOne K k.ty (.type c)=some b:=by
 unfold HF at h;split at h
 ·rename_i e;subst e;rw[<- h];exact O1 k
 ·split at h
  ·rename_i e;subst e;rw[<- h];exact Ko k
  ·split at h
   ·rename_i e;subst e;rw[<- h];exact kit_tuple k
   ·split at h
    ·rename_i e;subst e;rw[<- h];exact MV k
    ·split at h
     ·rename_i e;subst e;rw[<- h];exact Pa k
     ·cases h
abbrev Ol (x y:A)(S:iI):R A:=match y with
 | .ty c=>opt (x.kd S) λk=>opt (HF k c) λb=>.ok (.bl b) S
 | _=>.no
def Uw{K:au}{H:Hp}{x:A}{v:V}{k:Kd}(R:Rel K ρ H S)(h:AV K ρ H x v)(e:x.kd S=some k):(∃p vs,v=.ref p/\lR K H p vs/\k=.tup)\/Sj H v k:=by
 cases h with
 | non=>cases e;exact .inr rfl
 | bl b=>cases e;exact .inr ⟨b,rfl⟩
 | int i=>cases e;exact .inr ⟨i,rfl⟩
 | str i=>cases e;exact .inr ⟨i,rfl⟩
 | tup h r=>cases e;exact .inl ⟨_,_,rfl,(lR.of h),rfl⟩
 | ref h=>
  obtain⟨xs,e1,e2⟩:=bu.mp e;obtain⟨vs,h1,_⟩:=R.lst h (iV e1)
  cases e2
  exact .inr ⟨_,vs,rfl,h1⟩
 | _=>cases e
def QE:jl X (.builtin "isinstance") (rN X<|f2 Ol):=λpins s σ H vs us Q I rx h0=>by
 obtain⟨w,w',rfl,ρ,S,x,y,R,hv,hv',h⟩:=VT h0;clear h0
 cases hv' with
 | ty c=>
  obtain⟨k,hk,h⟩:=iR h;obtain⟨b,hb,hq⟩:=iR h;have hq:vX X ρ H Q (.bl b) S:=hq;clear h
  rcases Uw R hv hk with⟨p,vs,rfl,ht,rfl⟩|hd
  ·obtain⟨u1,u2,rfl,r1,r2⟩:=vals2 rx;obtain⟨its,q,⟨o,h1,h2,_⟩,_⟩:=I.tuple ht
   cases(show _=Value.ref p from r1)
   cases(show _=Value.type c from r2)
   exact cM PySem.W.kitx_tuple I.AN ⟨o,h1,h2⟩ (Fx hb) (λz=>nomatch z) λtk=>⟨.bl b,H,I.tok _,rfl,hq _ _ _ .refl R<|.bl _⟩
  ·exact Bv (c:=c) pins s σ H _ us Q I rx ⟨w,_,b,rfl,hd.Xn,Fx hb,hq _ _ _ .refl R<|.bl _⟩
 | _=>exact h.elim
end
abbrev UC (x:ae):List (ae)->List (ae)
 | []=>[x]
 | y::ys=>if HT.lexLt y x=true then y::UC x ys else x::y::ys
abbrev My:List (ae)->List (ae)
 | []=>[]
 | x::xs=>UC x<|My xs
theorem XI:∀(N:Nat) (l:ag),l.Nodup->(∀x∈l,x<N)->l.length<=N
 | 0,l,_,h=>by
  cases l with
  | nil=>exact aQ _
  | cons a l=>exact absurd (h a<|aN ..)<|d_ _
 | N+1,l,nd,h=>by
  have h1:=XI N (l.erase N) (nd.erase N) λx hx=>by
   have:=h x<|List.mem_of_mem_erase hx;have:x≠N:=λz=>by
    subst z;exact(List.Nodup.not_mem_erase nd) hx
   lia
  have:=List.le_length_erase (l:=l) (a:=N)
  lia
def xQ{N:Nat}{g:Nat->Nat}(h:∀i,i<N->g i<N)(inj:∀i j,i<j->j<N->g i≠g j):((List.range N).map g).Perm (List.range N):=by
 have nd:((List.range N).map g).Nodup:=by
  unfold List.Nodup;rw[dj];intro i j hi hj hij;rw[aL,cK]at hi hj;rw[cV,cV,eV,eV];exact inj i j hij hj
 have lt:∀x∈(List.range N).map g,x<N:=λx hx=>by
  obtain⟨i,hi,rfl⟩:=bV.mp hx;exact h i<|dG.mp hi
 refine(List.perm_ext_iff_of_nodup nd List.nodup_range).mpr λa=>⟨λha=>dG.mpr<|lt a ha,λha=>?_⟩;refine Classical.byContradiction λhn=>?_;have:=XI N (a::(List.range N).map g) (c7.mpr ⟨hn,nd⟩) λx hx=>by
  rcases bJ.mp hx with rfl|hx
  ·exact dG.mp ha
  ·exact lt x hx
 rw[bz,aL,cK]at this
 lia
def range_getD{α:Type}(l:List α)(d:α):(List.range l.length).map (λi=>l.getD i d)=l:=by
 apply bR;intro i;rw[a_];by_cases c:i<l.length
 ·rw[cQ c];show some (l.getD i d)=_;rw[aI,aG c];rfl
 ·rw[bC<|by rw[cK];lia,bC ()];rfl
theorem Jq{K:au}{H:Hp}{α:Type}{f:α->A}{h:α->V}:∀{l:List α},(∀a∈l,AV K ρ H (f a)<|h a)->AVs K ρ H (l.map f) (l.map h)
 | [],_=>.nil
 | a::l,e=>.cons (e a<|aN ..)<|Jq λb hb=>e b<|aP _ hb
abbrev RS.post (r:RS)(N:ad->iI->Prop)(T:A->iI->Prop)(B C:ad->iI->Prop)(E:Str->iI->Prop):Prop:=match r with
 | .nx τ S=>N τ S
 | .rt a S=>T a S
 | .bk τ S=>B τ S
 | .ct τ S=>C τ S
 | .ex c S=>E c S
 | .no=>False
abbrev RS.of {α:Type}(r:R α)(f:α->iI->RS):RS:=match r with
 | .ok a S=>f a S
 | .ex c S=>.ex c S
 | .no=>.no
def of_post{α:Type}{r:R α}{f:α->iI->RS}{N B C:ad->iI->Prop}{T:A->iI->Prop}{E:Str->iI->Prop}(h:(RS.of r f).post N T B C E):r.post (λa S=>(f a S).post N T B C E) E:=by
 cases r<;>exact h
def RS.mono{r:RS}{N B C N' B' C':ad->iI->Prop}{T T':A->iI->Prop}{E E':Str->iI->Prop}(h:r.post N T B C E)(hn:∀τ S,N τ S->N' τ S)(ht:∀a S,T a S->T' a S)(hb:∀τ S,B τ S->B' τ S)(hc:∀τ S,C τ S->C' τ S)(he:∀c S,E c S->E' c S):r.post N' T' B' C' E':=by
 cases r with
 | nx τ S=>exact hn _ _ h
 | rt a S=>exact ht _ _ h
 | bk τ S=>exact hb _ _ h
 | ct τ S=>exact hc _ _ h
 | ex c S=>exact he _ _ h
 | no=>exact h.elim
abbrev F7 (X:Cx)(ρ:ba)(H:Hp)(N:L2.St->Hp->Prop):ad->iI->Prop:=λτ' S'=>∀ρ' H' σ',Ext ρ ρ' H H'->Rel X.K ρ' H' S'->SR X.K ρ' H' τ' σ'->N σ' H'
def F7.ext{X:Cx}{H H':Hp}{N:L2.St->Hp->Prop}(h:F7 X ρ H N τ S)(e:Ext ρ ρ' H H'):F7 X ρ' H' N τ S:=λρ2 H2 σ2 e2=>h ρ2 H2 σ2<|e.trans e2
abbrev yw (X:Cx)(ρ:ba)(H:Hp)(D:Ends)(r:RS):Prop:=r.post (F7 X ρ H D.nx) (vX X ρ H D.rt) (F7 X ρ H D.bk) (F7 X ρ H D.ct)<|XE X ρ H
def yw.ext{X:Cx}{H H':Hp}{D:Ends}{r:RS}(h:yw X ρ H D r)(e:Ext ρ ρ' H H'):yw X ρ' H' D r:=RS.mono h (λ_ _ z=>z.ext e) (λ_ _ z=>z.ext e) (λ_ _ z=>z.ext e) (λ_ _ z=>z.ext e) λ_ _ z=>z.ext e
abbrev tS (X:Cx)(c:Sm):TS:=λD σ H=>∃ρ S τ,Rel X.K ρ H S/\SR X.K ρ H τ σ/\yw X ρ H D (c τ S)
abbrev AS (X:Cx)(st:aF)(c:Sm):Prop:=PS X st<|tS X c
abbrev Nq (X:Cx)(sts:List aF)(c:Sm):Prop:=zJ X sts<|tS X c
abbrev tG (X:Cx)(g:Tg):TG:=λv σ H Q=>∃ρ S τ a,Rel X.K ρ H S/\SR X.K ρ H τ σ/\AV X.K ρ H a v/\(g a τ S).post (F7 X ρ H Q) (XE X ρ H)
abbrev AG (X:Cx)(e:aE)(g:Tg):Prop:=PG X e<|tG X g
meta abbrev M8:=ad->ad->iI->R (ad)
abbrev Yj (X:Cx)(g:M8):P5:=λvs σ H Q=>∃ρ S τ as,Rel X.K ρ H S/\SR X.K ρ H τ σ/\AVs X.K ρ H as vs/\(g as τ S).post (F7 X ρ H Q) (XE X ρ H)
abbrev V1 (X:Cx)(es:List aE)(g:M8):Prop:=UJ X es<|Yj X g
section
variable {X:Cx}{pos:Pos}{a b e:aE}{st:aF}{rest:List aF}{c d:Sm}
def PS.imp{t t':TS}(h:PS X st t)(i:∀D σ H,t' D σ H->t D σ H):PS X st t':=λpins s σ H D I q=>h pins s σ H D I<|i D σ H q
def zJ.imp{t t':TS}(h:zJ X rest t)(i:∀D σ H,t' D σ H->t D σ H):zJ X rest t':=λpins s σ H D I q=>h pins s σ H D I<|i D σ H q
def PG.imp{t t':TG}(h:PG X e t)(i:∀v σ H Q,t' v σ H Q->t v σ H Q):PG X e t':=λpins s σ H v u Q I r q=>h pins s σ H v u Q I r<|i _ _ _ _ q
abbrev jB (i:Nat):Tg:=λa τ S=>.ok (τ.set i a) S
def ja{i:Nat}{x:Str}(hN:X.N.Nodup)(hi:X.N[i]?=some x:=by rfl)(hx:Loc X.env.scope x:=by first|exact Or.inl rfl|exact Or.inr rfl)(hf:X.fn x=true\/X.env.scope.names.lookup x=some .local:=by first|exact .inl rfl|exact .inr rfl|assumption):AG X (.Name x pos) (jB i):=
 PG.imp (Pe hN hi hx hf) λv σ H Q ⟨ρ,S,τ,a,R,r,va,h⟩=>h ρ H _ .refl R<|r.set va
abbrev Bx:M8:=λas τ S=>match as with
 | []=>.ok τ S
 | _=>.no
abbrev rV (g:Tg)(gs:M8):M8:=λas τ S=>match as with
 | a::as=>(g a τ S).bind λτ1 S1=>gs as τ1 S1
 | []=>.no
def nv:V1 X [] Bx:=λpins s σ H vs us Q I r ⟨ρ,S,τ,as,R,sr,va,h⟩=>NJ pins s σ H vs us Q I r (by
 cases va with
 | nil=>exact⟨rfl,h ρ H σ .refl R sr⟩
 | cons _ _=>exact h.elim)
def jm{g:Tg}{gs:M8}(h1:AG X e g)(h2:V1 X es gs)(hs:(assignEach (e::es) X.env).map (·.2)=assign e X.env::(assignEach es X.env).map (·.2):=by rfl):V1 X (e::es) (rV g gs):=
 λpins s σ H vs us Q I r ⟨ρ,S,τ,as,R,sr,va,h⟩=>JT h1 h2 hs pins s σ H vs us Q I r (by
  cases va with
  | nil=>exact h.elim
  | cons ha hr=>exact⟨_,_,rfl,ρ,S,τ,_,R,sr,ha,iG (iM h) .refl λτ1 S1 h1 ρ1 H1 σ1 e1 R1 sr1=>⟨ρ1,S1,τ1,_,R1,sr1,hr.ext e1,iG h1 e1 λ_ _ z=>z.ext e1⟩⟩)
abbrev AM (n:Nat)(gs:M8):Tg:=λa τ S=>match a with
 | .tup xs | .ktu xs=>gd (xs.length=n) (gs xs τ S)
 | _=>.no
def p7{k n:Nat}{gs:M8}(hc:X.calm=true)(h:V1 X es gs)(hn:(assignEach es X.env).length=n:=by rfl)(hst:(assignEach es X.env).findIdx? (·.1)=none:=by rfl):AG X (.Tuple es k pos) (AM n gs):=
 PG.imp (TH hc h hn hst) λv σ H Q h9=>by
  obtain⟨ρ,S,τ,a,R,r,va,h⟩:=h9
  cases va with
  | tup h1 r1=>
   obtain⟨hl,h⟩:=i6 h;exact⟨_,_,rfl,lR.of h1,by rw[<- r1.length];exact hl,ρ,S,τ,_,R,r,r1,h⟩
  | ktu h1 r1=>
   obtain⟨hl,h⟩:=i6 h;exact⟨_,_,rfl,.inr h1,by rw[<- r1.length];exact hl,ρ,S,τ,_,R,r,r1,h⟩
  | _=>exact h.elim
abbrev BJ (o i v:A)(S:iI):R Unit:=match o,i with
 | .ref n,.int k=>opt (iH S n) λxs=>opt (yx xs.length k) λj=>.ok Unit.unit (S.set n<|.lst<|xs.set j v)
 | _,_=>.no
abbrev Yo (X:Cx):Cf:=λo i v H Q=>∃ρ S ao ai av,Rel X.K ρ H S/\AV X.K ρ H ao o/\AV X.K ρ H ai i/\AV X.K ρ H av v/\(BJ ao ai av S).post (λ_ S'=>∀ρ' H',Ext ρ ρ' H H'->Rel X.K ρ' H' S'->Q H') (XE X ρ H)
def GU:Bh X (Yo X):=λpins s σ H o i v ov iv u Q I ro ri rv h9=>by
 obtain⟨ρ,S,ao,ai,av,R,h1,h2,h3,h⟩:=h9
 cases h1 with
 | @ref p n hp=>
  cases h2 with
  | int k=>
   kj_on;obtain⟨j,hj,h⟩:=iR h;obtain⟨vs,e,r⟩:=R.lst hp<|iV hn;obtain⟨ex,R'⟩:=R.put hp (iV hn)<|r.set h3 j;exact set_list pins s σ H _ _ v ov iv u Q I ro ri rv ⟨p,vs,k,j,rfl,rfl,e,by rw[<- r.length];exact hj,h _ _ ex R'⟩
  | _=>exact h.elim
 | _=>exact h.elim
abbrev SO (co ci:Ex):Tg:=λa τ S=>(co τ S).bind λo S1=>(ci τ S1).bind λi S2=>(BJ o i a S2).bind λ_ S3=>.ok τ S3
def xW{co ci:Ex}(ho:AE X o co)(hi:AE X i ci)
  (ha:∀v,assign (.Subscript o i pos) X.env v=(do
   let ov <- holding [v] (eval o X.env)
   let iv <- holding [v,ov] (eval i X.env)
   standAt pos
   holding [v,ov,iv] (setItem ov iv v)
   release [v,ov,iv] []):=by intro _;rfl):AG X (.Subscript o i pos) (SO co ci):=PG.imp (DE ho hi GU ha) λv σ H Q h9=>by
 obtain⟨ρ,S,τ,a,R,r,va,h⟩:=h9;gp_on;kcf_m;cb_eq
abbrev mK:Sm:=λτ S=>.nx τ S
abbrev je (c d:Sm):Sm:=λτ S=>match c τ S with
 | .nx τ' S'=>d τ' S'
 | r=>r
def jw:Nq X [] mK:=zJ.imp OP λD σ H ⟨ρ,S,τ,R,r,h⟩=>h ρ H σ .refl R r
def OM{D:Ends}{H:Hp}(h:tS X (je c d) D σ H):UP (tS X c) (tS X d) D σ H:=by
 kst_p;refine⟨ρ,S,τ,R,r,?_⟩;unfold je at h
 cases hc:c τ S with
 | nx τ1 S1=>
  rw[hc]at h;exact λρ1 H1 σ1 e1 R1 r1=>⟨ρ1,S1,τ1,R1,r1,yw.ext h e1⟩
 | rt a S1=>rw[hc]at h;exact h
 | bk τ1 S1=>rw[hc]at h;exact h
 | ct τ1 S1=>rw[hc]at h;exact h
 | ex x S1=>rw[hc]at h;exact h
 | no=>rw[hc]at h;exact h
def iL(h1:AS X st c)(h2:Nq X rest d):Nq X (st::rest) (je c d):=zJ.imp (Le h1 h2) λD σ H h=>OM h
def iN(h1:AS X st c):Nq X [st] c:=Nt h1
abbrev SI:Sm:=λτ S=>.bk τ S
abbrev Vs:Sm:=λτ S=>.ct τ S
abbrev vf (e:Ex):Sm:=λτ S=>.of (e τ S) λ_ S1=>.nx τ S1
def rL{f:Ex}(he:AE X e f)(hs:swapsWith e none pos.line X.env=pure false:=by rfl):AS X (.Expr e pos) (vf f):=PS.imp (OS he hs) λD σ H ⟨ρ,S,τ,R,r,h⟩=>
 ⟨ρ,S,τ,R,r,iG (of_post h) .refl λa S1 h1 ρ1 H1 x e1 R1 v1=>h1 ρ1 H1 σ e1 R1<|r.ext e1⟩
abbrev jG (e:Ex):Sm:=λτ S=>.of (e τ S) λa S1=>.rt a S1
def jc{f:Ex}(he:AE X e f):AS X (.Return (some e) pos) (jG f):=PS.imp (SH he) λD σ H ⟨ρ,S,τ,R,r,h⟩=>⟨ρ,S,τ,R,r,iG (of_post h) .refl λa S1 h1=>h1⟩
abbrev IZ:Sm:=λτ S=>.rt .non S
def Nm:AS X (.Return none pos) IZ:=PS.imp Of λD σ H ⟨ρ,S,τ,R,r,h⟩=>h ρ H _ .refl R .non
abbrev tR (t:Te)(c d:Sm):Sm:=λτ S=>.of (t τ S) λb S1=>match b with|true=>c τ S1|false=>d τ S1
def kK{t:Te}(ht:AT X e t)(ha:Nq X ca c)(hb:Nq X cb d):AS X (.If e ca cb pos) (tR t c d):=PS.imp (UE ht ha hb) λD σ H h9=>by
 z_go;refine⟨ρ,S,τ,R,r,iG (of_post h) .refl λb S1 h1 ρ1 H1 e1 R1=>?_⟩
 cases b with
 | true=>rw[aK rfl];exact⟨ρ1,S1,τ,R1,r.ext e1,yw.ext h1 e1⟩
 | false=>rw[aJ bH];exact⟨ρ1,S1,τ,R1,r.ext e1,yw.ext h1 e1⟩
abbrev jn (e:Ex)(g:Tg):Sm:=λτ S=>.of (e τ S) λa S1=>.of (g a τ S1) λτ' S2=>.nx τ' S2
def OW{f:Ex}{g:Tg}{D:Ends}{H:Hp}(h:tS X (jn f g) D σ H):QT (tE X f) (tG X g) D σ H:=by
 kst_p;exact⟨ρ,S,τ,R,r,iG (of_post h) .refl λa S1 h1 ρ1 H1 x e1 R1 v1=>⟨ρ1,S1,τ,a,R1,r.ext e1,v1,iG (of_post h1) e1 λτ2 S2 h2=>F7.ext h2 e1⟩⟩
def nH{tg:aE}{f:Ex}{g:Tg}(he:AE X e f)(hg:AG X tg g)(hs:swapsWithSole [tg] e pos.line X.env=pure false:=by rfl)(hw:swappedStores [tg] e X.env=pure none:=by rfl)
  (h1:(assignEach [tg] X.env).map (·.2)=[assign tg X.env]:=by rfl):AS X (.Assign [tg] e pos) (jn f g):=PS.imp (SQ he hg hs hw h1) λD σ H h=>OW h
def ji{i:Nat}{x:Str}{f:Ex}(hN:X.N.Nodup)(he:AE X e f)(hi:X.N[i]?=some x:=by rfl)(hx:Loc X.env.scope x:=by first|exact Or.inl rfl|exact Or.inr rfl)(hs:swapsWith e (some<|.Name x pos') pos.line X.env=pure false:=by rfl)(hf:X.fn x=true\/X.env.scope.names.lookup x=some .local:=by first|exact .inl rfl|exact .inr rfl|assumption) :
  AS X (.Assign [.Name x pos'] e pos) (jn f<|jB i):=PS.imp (Rt hN hi hx he hs hf) λD σ H ⟨ρ,S,τ,R,r,h⟩=>
 ⟨ρ,S,τ,R,r,iG (of_post h) .refl λa S1 h1 ρ1 H1 x e1 R1 v1=>h1 ρ1 H1 _ e1 R1<|(r.ext e1).set v1⟩
abbrev Xc (i j:Nat)(c:p5):Sm:=λτ S=>.of (c τ S) λas S1=>match as with
 | [a,b]=>.nx ((τ.set i a).set j b) S1
 | _=>.no
abbrev ip (X:Cx)(f:A->A->iI->R A):TR:=λx y H Q=>∃ρ S a b,Rel X.K ρ H S/\AV X.K ρ H a x/\AV X.K ρ H b y/\(f a b S).post (vX X ρ H Q) (XE X ρ H)
abbrev Ht (a b:A)(S:iI):R A:=match a,b with
 | .int i,.int j=>.ok (.int<|i+j) S
 | _,_=>.no
def EY:PK X .Add (ip X Ht):=λpins s σ H x y v u Q I r1 r2 h9=>by
 x_go
 cases va with
 | int i=>
  cases vb with
  | int j=>exact RX pins s σ H _ _ v u Q I r1 r2 ⟨i,j,rfl,rfl,h _ _ _ .refl R<|.int _⟩
  | _=>exact h.elim
 | _=>exact h.elim
def OU:PK X .Sub (ip X aSub):=λpins s σ H x y v u Q I r1 r2 h9=>by
 x_go
 cases va with
 | int i=>
  cases vb with
  | int j=>exact Rl pins s σ H _ _ v u Q I r1 r2 ⟨i,j,rfl,rfl,h _ _ _ .refl R<|.int _⟩
  | _=>exact h.elim
 | _=>exact h.elim
abbrev Im (i:Nat)(f:A->A->iI->R A)(e:Ex):Sm:=λτ S=>if (τ.getD i .unb).m5 then .no else .of (e τ S) λb S1=>.of (f (τ.getD i .unb) b S1) λc S2=>.nx (τ.set i c) S2
def Sl{i:Nat}{x:Str}{c:Ex}{f:A->A->iI->R A}(hN:X.N.Nodup)(he:AE X e c)(ho:PK X op<|ip X f)(hi:X.N[i]?=some x:=by rfl)(hx:Loc X.env.scope x:=by first|exact Or.inl rfl|exact Or.inr rfl)(hf:X.fn x=true\/X.env.scope.names.lookup x=some .local:=by first|exact .inl rfl|exact .inr rfl|assumption) :
  AS X (.AugAssign (.Name x pos') op e pos) (Im i f c):=PS.imp (Rb hN hi hx he ho hf) λD σ H h9=>by
 z_go;have key:∀x,τ[i]?=some x->x.m5=false->(RS.of (c τ S) λb S1=>.of (f x b S1) λc S2=>.nx (τ.set i c) S2).post (F7 X ρ H D.nx) (vX X ρ H D.rt) (F7 X ρ H D.bk) (F7 X ρ H D.ct) (XE X ρ H) ->
   ∃x,σ[i]?=some (some x)/\tE X c σ H λy H1=>ip X f x y H1 λz H2=>D.nx (σ.set i<|some z) H2:=by
  intro x hi hx h
  rcases r.at i x hi with z|⟨v,e,q⟩
  ·subst z;cases hx
  ·refine⟨v,e,ρ,S,τ,R,r,iG (of_post h) .refl λb S1 h1 ρ1 H1 y e1 R1 v1=>⟨ρ1,S1,x,b,R1,q.ext e1,v1,iG (of_post h1) e1 λw S2 h2 ρ2 H2 z e2 R2 v2=>?_⟩⟩;exact h2 ρ2 H2 _ (e1.trans e2) R2<|(r.ext<|e1.trans e2).set v2
 unfold Im yw at h;rw[aI]at h
 cases hi:τ[i]? with
 | none=>rw[hi]at h;exact h.elim
 | some x=>
  rw[hi]at h
  cases hx:x.m5 with
  | true=>rw[show(some x).getD .unb=x from rfl,hx]at h;exact h.elim
  | false=>rw[show(some x).getD .unb=x from rfl,hx]at h;exact key x hi hx h
abbrev J5 (a b:A)(S:iI):R A:=match a,b with
 | .ref n,.int i=>opt (iH S n) λxs=>gd (0<=i) (opt (xs[i.toNat]?) λx=>.ok x S)
 | _,_=>.no
def Nl:RZ X (r2 X J5):=λpins s σ H o i ov iv Q I ro ri h9=>by
 x_go
 cases va with
 | @ref p n hp=>
  cases vb with
  | int k=>
   kj_on;obtain⟨h0,h⟩:=i6 h;obtain⟨x,hx,h⟩:=iR h;obtain⟨vs,h1,r1⟩:=R.lst hp<|iV hn;obtain⟨z,e,q⟩:=r1.get hx;exact KZ pins s σ H _ _ ov iv Q I ro ri ⟨p,vs,k,z,rfl,rfl,nE.of h1,h0,e,h _ _ _ .refl R q⟩
  | _=>exact h.elim
 | _=>exact h.elim
abbrev wB (co ci ce:Ex)(f:A->A->iI->R A):Sm:=λτ S=>.of (co τ S) λo S1=>.of (ci τ S1) λi S2=>.of (J5 o i S2) λx S3=>.of (ce τ S3) λy S4=>.of (f x y S4) λz S5=>.of (BJ o i z S5) λ_ S6=>.nx τ S6
def Fl{co ci ce:Ex}{f:A->A->iI->R A}(ho:AE X o co)(hi:AE X i ci)(he:AE X e ce)(hp:PK X op<|ip X f)
  (ha:∀ov iv new,augStore i ov iv new=(do holding [new,ov,iv] (setItem ov iv new);release [new,ov,iv] [];pure .next):=by intros;rfl):AS X (.AugAssign (.Subscript o i tpos) op e pos) (wB co ci ce f):=
 PS.imp (N5 ho hi Nl he hp GU ha) λD σ H h9=>by
  z_go;refine⟨ρ,S,τ,R,r,iG (of_post h) .refl λao S1 h1 ρ1 H1 vo e1 R1 v1=>⟨ρ1,S1,τ,R1,r.ext e1,iG (of_post h1) e1 λai S2 h2 ρ2 H2 vi e2 R2 v2=>?_⟩⟩;refine⟨ρ2,S2,ao,ai,R2,v1.ext e2,v2,iG (of_post h2) (e1.trans e2) λax S3 h3 ρ3 H3 vx e3 R3 v3=>?_⟩;have e13:=(e1.trans e2).trans e3;refine⟨ρ3,S3,τ,R3,r.ext e13,iG (of_post h3) e13 λay S4 h4 ρ4 H4 vy e4 R4 v4=>?_⟩;refine⟨ρ4,S4,ax,ay,R4,v3.ext e4,v4,iG (of_post h4) (e13.trans e4) λaz S5 h5 ρ5 H5 vz e5 R5 v5=>?_⟩;have e35:=(e3.trans e4).trans e5;refine⟨ρ5,S5,ao,ai,az,R5,v1.ext<|e2.trans e35,v2.ext e35,v5,iG (of_post h5) ((e13.trans e4).trans e5) λ_ S6 h6 ρ6 H6 e6 R6=>?_⟩;have e16:=((e13.trans e4).trans e5).trans e6;exact h6 ρ6 H6 σ e16 R6<|r.ext e16
abbrev lG (t:Te)(c:Sm):Nat->Sm
 | 0=>λ_ _=>.no
 | n+1=>λτ S=>.of (t τ S) λb S1=>match b with
  | false=>.nx τ S1
  | true=>match c τ S1 with
   | .nx τ' S'=>lG t c n τ' S'
   | .ct τ' S'=>lG t c n τ' S'
   | .bk τ' S'=>.nx τ' S'
   | r=>r
def Bt(n:Nat){t:Te}(hp:PassesOwn (model X.prog X.w) X.A X.env X.xe)(ht:AT X e t)(hb:Nq X body c):AS X (.While e body [] pos) (lG t c n):=PS.imp (Ll hp ht hb) λD σ H h9=>by
 z_go;refine⟨λm σ' H'=>∃ρ' S' τ',Ext ρ ρ' H H'/\Rel X.K ρ' H' S'/\SR X.K ρ' H' τ' σ'/\yw X ρ' H' D (lG t c m τ' S'),⟨n,ρ,S,τ,.refl,R,r,h⟩,?_⟩;rintro m σ1 H1 ⟨ρ1,S1,τ1,e1,R1,r1,h1⟩
 cases m with
 | zero=>exact h1.elim
 | succ m=>
  refine⟨ρ1,S1,τ1,R1,r1,iG (of_post h1) .refl λb S2 h2 ρ2 H2 e2 R2=>?_⟩
  cases b with
  | false=>rw[aJ bH];exact h2 ρ2 H2 σ1 e2 R2 (r1.ext e2)
  | true=>
   rw[aK rfl];refine⟨λσ' H'=>∃ρ' S' τ',Ext ρ ρ' H H'/\Rel X.K ρ' H' S'/\SR X.K ρ' H' τ' σ'/\yw X ρ' H' D (lG t c m τ' S'),λσ' H' z=>⟨m,cO _,z⟩,ρ2,S2,τ1,R2,r1.ext e2,?_⟩;have h2:yw X ρ1 H1 D (match c τ1 S2 with
    | .nx τ' S'=>lG t c m τ' S'
    | .ct τ' S'=>lG t c m τ' S'
    | .bk τ' S'=>.nx τ' S'
    | r=>r):=h2
   cases hc:c τ1 S2 with
   | nx τ3 S3=>rw[hc]at h2;exact λρ3 H3 σ3 e3 R3 r3=>⟨ρ3,S3,τ3,(e1.trans e2).trans e3,R3,r3,yw.ext h2<|e2.trans e3⟩
   | ct τ3 S3=>rw[hc]at h2;exact λρ3 H3 σ3 e3 R3 r3=>⟨ρ3,S3,τ3,(e1.trans e2).trans e3,R3,r3,yw.ext h2<|e2.trans e3⟩
   | bk τ3 S3=>rw[hc]at h2;exact F7.ext h2 e2
   | rt a S3=>rw[hc]at h2;exact vX.ext h2 e2
   | ex x S3=>rw[hc]at h2;exact XE.ext h2 e2
   | no=>rw[hc]at h2;exact h2
end
structure Src where
 k:Nat
 get:Nat->iI->Option A
 fin:iI->Bool
structure JR (K:au)(s:Src)(J:It)(ρ0:ba)(H0:Hp):Prop where
 go:∀(i:Nat) (S:iI) (H:Hp) (ρ:ba) (x:A),Ext0 ρ0 ρ H0 H->Rel K ρ H S->s.get i S=some x->J.go i H/\∀v H',J.yld i H v H'->Ext ρ ρ H H'/\Rel K ρ H' S/\AV K ρ H' x v
 stop:∀(S:iI) (H:Hp) (ρ:ba),Ext0 ρ0 ρ H0 H->Rel K ρ H S->s.fin S=true->J.stop s.k H
meta abbrev Ic:=ad->iI->R Src
abbrev tI (X:Cx)(c:Ic):TI:=λσ H Q=>∃ρ S τ,Rel X.K ρ H S/\SR X.K ρ H τ σ/\(c τ S).post (λs S'=>∀ρ' H' J,Ext ρ ρ' H H'->Rel X.K ρ' H' S'->JR X.K s J ρ' H'->Q J H') (XE X ρ H)
abbrev AI (X:Cx)(tg iter:aE)(c:Ic):Prop:=PI X tg iter<|tI X c
abbrev qi (xs:ad):Src:=⟨xs.length,λi _=>xs[i]?,λ_=>true⟩
abbrev nI (n k:Nat):Src:=⟨k,λi S=>(iH S n).bind (·[i]?),λS=>match iH S n with
 | some ys=>decide (ys.length<=k)
 | none=>false⟩
abbrev j0 (lo hi:Int):Src:=⟨(hi-lo).toNat,λi _=>if i<(hi-lo).toNat then some (.int<|lo+i)else none,λ_=>true⟩
abbrev oY (c:Ex):Ic:=λτ S=>(c τ S).bind λa S1=>match a with
 | .tup xs=>.ok (qi xs) S1
 | .frz xs=>.ok (qi xs) S1
 | .ref n=>opt (iH S1 n) λxs=>.ok (nI n xs.length) S1
 | .str x=>gd (x.cps.all (· < 128)=true) (.ok (qi<|x.cps.toList.map λc=>.str ⟨#[c]⟩) S1)
 | _=>.no
section
variable {X:Cx}{pos:Pos}{tg e a b:aE}
def RE{K:au}{H0:Hp}{p:ak}(h:lR K H0 p vs)(r:AVs K ρ0 H0 xs vs):JR K (qi xs) (Ws K p) ρ0 H0 where
 go:=λi S H ρ x e R g=>by
  obtain⟨v,ev,av⟩:=(AVs.j8 e r).get g;have hs:=e.V5 h;refine⟨⟨vs,v,hs,ev⟩,λw H' ⟨e1,y⟩=>?_⟩;subst e1;have:=y vs hs;rw[ev]at this
  cases this
  exact⟨.refl,R,av⟩
 stop:=λS H ρ e R _=>⟨vs,e.V5 h,by rw[<- r.length];exact aQ _⟩
def Rz{K:au}{H0:Hp}{p:ak}(h:Fz K H0 p vs)(r:AVs K ρ0 H0 xs vs):JR K (qi xs) (VW K p) ρ0 H0 where
 go:=λi S H ρ x e R g=>by
  obtain⟨v,ev,av⟩:=(AVs.j8 e r).get g;have hs:=(e.fz h).M7;refine⟨⟨vs,v,hs,ev⟩,λw H' ⟨e1,y⟩=>?_⟩;subst e1;have:=y vs hs;rw[ev]at this
  cases this
  exact⟨.refl,R,av⟩
 stop:=λS H ρ e R _=>⟨vs,(e.fz h).M7,by rw[<- r.length];exact aQ _⟩
def TJ{K:au}{ρ0:ba}{H0:Hp}{p:ak}{n k:Nat}(h:ρ0[n]?=some p):JR K (nI n k) (VW K p) ρ0 H0 where
 go:=λi S H ρ x e R g=>by
  obtain⟨ys,hn,hx⟩:=cJ.mp<|show(iH S n).bind (·[i]?)=some x from g;obtain⟨vs,h1,r⟩:=R.lst (e.get h)<|iV hn;obtain⟨v,ev,av⟩:=r.get hx;refine⟨⟨vs,v,nE.of h1,ev⟩,λw H' ⟨e1,y⟩=>?_⟩;subst e1;have:=y vs<|nE.of h1;rw[ev]at this
  cases this
  exact⟨.refl,R,av⟩
 stop:=λS H ρ e R g=>by
  have g:(match iH S n with
   | some ys=>decide (ys.length<=k)
   | none=>false)=true:=g
  cases hn:iH S n with
  | none=>rw[hn]at g;cases g
  | some ys=>
   rw[hn]at g;obtain⟨vs,h1,r⟩:=R.lst (e.get h)<|iV hn;exact⟨vs,nE.of h1,by rw[<- r.length];exact cB g⟩
def Ke{K:au}{H0:Hp}{lo hi:Int}:JR K (j0 lo hi) (Vw lo (hi-lo).toNat) ρ0 H0 where
 go:=λi S H ρ x e R g=>by
  have g:(if i<(hi-lo).toNat then some (A.int<|lo+i)else none)=some x:=g;by_cases hi':i<(hi-lo).toNat
  ·rw[aK hi']at g
   cases g
   refine⟨hi',λw H' ⟨e1,y⟩=>?_⟩;subst e1 y;exact⟨.refl,R,.int _⟩
  ·rw[aJ hi']at g;cases g
 stop:=λS H ρ e R _=>aQ _
def SM{K:au}{H0:Hp}{x:Str}:JR K (qi<|x.cps.toList.map λc=>A.str ⟨#[c]⟩) (Xo x) ρ0 H0 where
 go:=λi S H ρ y e R g=>by
  have g:(x.cps.toList.map λc=>A.str ⟨#[c]⟩)[i]?=some y:=g;rw[a_]at g;obtain⟨c,hc,rfl⟩:=bu.mp g;rw[ff]at hc;refine⟨(Array.getElem?_eq_some_iff.mp hc).1,λw H' ⟨e1,c',hc',y'⟩=>?_⟩;rw[hc]at hc'
  cases hc'
  subst e1 y';exact⟨.refl,R,.str _⟩
 stop:=λS H ρ e R _=>by
  show(x.cps.toList.map λc=>A.str ⟨#[c]⟩).length=x.cps.size;rw[aL,cD]
def qU{c:Ex}(he:AE X e c):AI X tg e (oY c):=λpins s σ H Q I h9=>by
 z_go;have hb:=iM h
 cases hc:c τ S with
 | no=>rw[hc]at hb;exact hb.elim
 | ex x S1=>
  rw[hc]at hb;exact I0 he pins s σ H Q I ⟨ρ,S,τ,R,r,by rw[hc];exact hb⟩
 | ok a S1=>
  rw[hc]at hb
  cases a with
  | tup xs=>
   refine I0 he pins s σ H Q I ⟨ρ,S,τ,R,r,?_⟩;rw[hc];intro ρ1 H1 x e1 R1 v1
   cases v1 with
   | tup h1 r1=>exact⟨_,rfl,⟨_,(lR.of h1)⟩,hb ρ1 H1 _ e1 R1<|RE (lR.of h1) r1⟩
  | frz xs=>
   refine FG he pins s σ H Q I ⟨ρ,S,τ,R,r,?_⟩;rw[hc];intro ρ1 H1 x e1 R1 v1
   cases v1 with
   | frz h1 r1=>exact⟨_,rfl,⟨_,h1.M7⟩,hb ρ1 H1 _ e1 R1<|Rz h1 r1⟩
  | ref n=>
   obtain⟨xs,hn,hb⟩:=iR hb;refine FG he pins s σ H Q I ⟨ρ,S,τ,R,r,?_⟩;rw[hc];intro ρ1 H1 x e1 R1 v1
   cases v1 with
   | ref hp=>
    obtain⟨vs,h1,r1⟩:=R1.lst hp<|iV hn;exact⟨_,rfl,⟨_,nE.of h1⟩,hb ρ1 H1 _ e1 R1<|TJ hp⟩
  | str x=>
   obtain⟨ha,hb⟩:=i6 hb;refine SD he pins s σ H Q I ⟨ρ,S,τ,R,r,?_⟩;rw[hc];intro ρ1 H1 v e1 R1 v1
   cases v1 with
   | str=>exact⟨x,rfl,ha,hb ρ1 H1 _ e1 R1 SM⟩
  | _=>exact hb.elim
abbrev bnd (i:Int):Prop:=-(2 ^ 62)<=i/\i<2 ^ 62
instance (i:Int):Decidable (bnd i):=by unfold bnd;infer_instance
abbrev qS (c:Ex):Ic:=λτ S=>(c τ S).bind λa S1=>match a with
 | .int j=>gd (bnd j) (.ok (j0 0 j) S1)
 | _=>.no
abbrev pN (c d:Ex):Ic:=λτ S=>(c τ S).bind λa S1=>(d τ S1).bind λb S2=>match a,b with
 | .int i,.int j=>gd (bnd i/\bnd j) (.ok (j0 i j) S2)
 | _,_=>.no
def nB{p:Pos}{c:Ex}(hm:X.mg "range" = none)(ha:AE X a c)(hg:Gl X "range" := by rfl)(hs:starEach [a] X.env=[(false,eval a X.env)]:=by rfl):AI X tg (.Call (.Name "range" p) [a] [] pos) (qS c):=λpins s σ H Q I h9=>by
 z_go;refine H_ hg hm (ny ha uH hs) hs pins s σ H Q I ⟨ρ,S,τ,R,r,iG (iM h) .refl λx S1 h1 ρ1 H1 v e1 R1 v1=>?_⟩
 cases v1 with
 | int j=>
  obtain⟨hb,h1⟩:=i6 h1;exact⟨_,rfl,hb.1,hb.2,by have:=h1 ρ1 H1 _ e1 R1 Ke;rwa [Int.sub_zero]at this⟩
 | _=>exact h1.elim
def rF{p:Pos}{c d:Ex}(hm:X.mg "range" = none)(ha:AE X a c)(hb:AE X b d)(hg:Gl X "range" := by rfl)(hs:starEach [a,b] X.env=[(false,eval a X.env),(false,eval b X.env)]:=by rfl)(hs2:starEach [b] X.env=[(false,eval b X.env)]:=by rfl):AI X tg (.Call (.Name "range" p) [a,b] [] pos) (pN c d):=λpins s σ H Q I h9=>by
 z_go;refine Hf hg hm (ny ha (ny hb uH hs2)<|by rw[hs,hs2]) hs hs2 pins s σ H Q I ⟨ρ,S,τ,R,r,iG (iM h) .refl λx S1 h1 ρ1 H1 v e1 R1 v1=>⟨ρ1,S1,τ,R1,r.ext e1,iG (iM h1) e1 λy S2 h2 ρ2 H2 w e2 R2 v2=>?_⟩⟩
 cases v1 with
 | int i=>
  cases v2 with
  | int j=>
   obtain⟨hb,h2⟩:=i6 h2;exact⟨_,_,rfl,⟨hb.1.1,hb.1.2,hb.2.1,hb.2.2⟩,h2 ρ2 H2 _ (e1.trans e2) R2 Ke⟩
  | _=>exact h2.elim
 | _=>exact h2.elim
abbrev AR (xs:ad):Src:=⟨xs.length,λi _=>(xs[i]?).map λx=>.tup [.int i,x],λ_=>true⟩
abbrev Nk (c:Ex):Ic:=λτ S=>(c τ S).bind λa S1=>match a with
 | .tup xs=>.ok (AR xs) S1
 | _=>.no
def RY{K:au}{H0:Hp}{p:ak}(h:lR K H0 p vs)(r:AVs K ρ0 H0 xs vs):JR K (AR xs) (Xk K p) ρ0 H0 where
 go:=λi S H ρ x e R g=>by
  obtain⟨y,hy,rfl⟩:=bu.mp<|show(xs[i]?).map (λx=>A.tup [.int i,x])=some x from g;obtain⟨v,ev,av⟩:=(AVs.j8 e r).get hy;have hs:=e.V5 h;refine⟨⟨vs,v,hs,ev⟩,λw H' q=>?_⟩;obtain⟨pp,hp,rfl,hz⟩:=q;have hz':=hz vs v hs ev;subst hz';obtain⟨ex,R'⟩:=R.im (u:=.tup [.int i,v]) hp;exact⟨ex,R',.tup jA<|.cons (.int _)<|.cons (av.ext ex) .nil⟩
 stop:=λS H ρ e R _=>⟨vs,e.V5 h,by rw[<- r.length];rfl⟩
def QY{p:Pos}{c:Ex}(hm:X.mg "enumerate" = none)(ha:AE X a c)(hg:Gl X "enumerate" := by rfl)(hs:starEach [a] X.env=[(false,eval a X.env)]:=by rfl):AI X (.Tuple elts x1 tpos) (.Call (.Name "enumerate" p) [a] [] pos) (Nk c):=λpins s σ H Q I h9=>by
 z_go;refine IC hg hm (ny ha uH hs) hs pins s σ H Q I ⟨ρ,S,τ,R,r,iG (iM h) .refl λx S1 h1 ρ1 H1 v e1 R1 v1=>?_⟩
 cases v1 with
 | tup h2 r2=>exact⟨_,_,rfl,(lR.of h2),h1 ρ1 H1 _ e1 R1<|RY (lR.of h2) r2⟩
 | _=>exact h1.elim
abbrev oA (s:Src)(g:Tg)(c:Sm):Nat->Nat->Sm
 | 0,_=>λτ S=>if s.fin S then .nx τ S else .no
 | k+1,i=>λτ S=>match s.get i S with
  | none=>.no
  | some x=>.of (g x τ S) λτ1 S1=>match c τ1 S1 with
   | .nx τ' S'=>oA s g c k (i+1) τ' S'
   | .ct τ' S'=>oA s g c k (i+1) τ' S'
   | .bk τ' S'=>.nx τ' S'
   | r=>r
abbrev mE (src:Ic)(g:Tg)(c:Sm):Sm:=λτ S=>.of (src τ S) λs S1=>oA s g c s.k 0 τ S1
def nc{iter:aE}{src:Ic}{g:Tg}{c:Sm}(hp:PassesOwn (model X.prog X.w) X.A X.env X.xe)(hc:X.calm=true)(hi:AI X tg iter src)(hg:AG X tg g)(hb:Nq X body c)
  (hs:∀x,foldedSetIterable iter X.env x=pure x:=by intro _;rfl):AS X (.For tg iter body [] pos) (mE src g c):=PS.imp (RK hp hc hi hg hb hs) λD σ H h9=>by
 z_go;refine⟨ρ,S,τ,R,r,iG (of_post h) .refl λs S1 h1 ρ1 H1 J e1 R1 jr=>?_⟩;refine⟨λi m σ' H'=>m+i=s.k/\∃ρ' S' τ',Ext ρ1 ρ' H1 H'/\Rel X.K ρ' H' S'/\SR X.K ρ' H' τ' σ'/\yw X ρ' H' D (oA s g c m i τ' S'),⟨s.k,rfl,ρ1,S1,τ,.refl,R1,r.ext e1,yw.ext h1 e1⟩,?_⟩;rintro i m σ2 H2 ⟨hm,ρ2,S2,τ2,e2,R2,r2,h2⟩
 cases m with
 | zero=>
  left;have h2:yw X ρ2 H2 D (if s.fin S2 then .nx τ2 S2 else .no):=h2
  cases hf:s.fin S2 with
  | false=>rw[hf]at h2;exact h2.elim
  | true=>
   rw[hf]at h2;refine⟨by rw[show i=s.k by lia];exact jr.stop S2 H2 ρ2 e2.toExt0 R2 hf,h2 ρ2 H2 σ2 .refl R2 r2⟩
 | succ m=>
  right;have h2:yw X ρ2 H2 D (match s.get i S2 with
   | none=>.no
   | some x=>.of (g x τ2 S2) λτ1 S1=>match c τ1 S1 with
    | .nx τ' S'=>oA s g c m (i+1) τ' S'
    | .ct τ' S'=>oA s g c m (i+1) τ' S'
    | .bk τ' S'=>.nx τ' S'
    | r=>r):=h2
  cases hx:s.get i S2 with
  | none=>rw[hx]at h2;exact h2.elim
  | some x=>
   rw[hx]at h2;obtain⟨hgo,hy⟩:=jr.go i S2 H2 ρ2 x e2.toExt0 R2 hx;refine⟨hgo,λσ' H'=>m+(i+1)=s.k/\∃ρ' S' τ',Ext ρ1 ρ' H1 H'/\Rel X.K ρ' H' S'/\SR X.K ρ' H' τ' σ'/\yw X ρ' H' D (oA s g c m (i+1) τ' S'),λσ' H' z=>⟨m,cO _,z⟩,λv H3 y=>?_⟩;obtain⟨e3,R3,v3⟩:=hy v H3 y;refine⟨ρ2,S2,τ2,x,R3,r2.ext e3,v3,iG (of_post h2) e3 λτ4 S4 h4 ρ4 H4 σ4 e4 R4 r4=>⟨ρ4,S4,τ4,R4,r4,?_⟩⟩;have e24:=e3.trans e4
   cases hcc:c τ4 S4 with
   | nx τ5 S5=>rw[hcc]at h4;exact λρ5 H5 σ5 e5 R5 r5=>⟨(),ρ5,S5,τ5,(e2.trans e24).trans e5,R5,r5,yw.ext h4<|e24.trans e5⟩
   | ct τ5 S5=>rw[hcc]at h4;exact λρ5 H5 σ5 e5 R5 r5=>⟨(),ρ5,S5,τ5,(e2.trans e24).trans e5,R5,r5,yw.ext h4<|e24.trans e5⟩
   | bk τ5 S5=>rw[hcc]at h4;exact F7.ext h4 e24
   | rt x5 S5=>rw[hcc]at h4;exact vX.ext h4 e24
   | ex x5 S5=>rw[hcc]at h4;exact XE.ext h4 e24
   | no=>rw[hcc]at h4;exact h4
end
abbrev R.lU {α β:Type}(r:R α)(f:α->iI->R β):R β:=match r with
 | .ok a S=>f a S
 | _=>.no
def jS{α β:Type}{r:R α}{f:α->iI->R β}{b:β}(h:r.lU f=.ok b S2):∃a S,r=.ok a S/\f a S=.ok b S2:=by
 cases r with
 | ok a S=>exact⟨a,S,rfl,h⟩
 | ex _ _=>cases h
 | no=>cases h
def xO{α β:Type}{r:R α}{f:α->iI->R β}{P:β->iI->Prop}{E:Str->iI->Prop}(h:(r.lU f).post P E):∃a S,r=.ok a S/\(f a S).post P E:=by
 cases r with
 | ok a S=>exact⟨a,S,rfl,h⟩
 | ex _ _=>exact h.elim
 | no=>exact h.elim
def Dz{α β:Type}{o:Option β}{f:β->R α}{a:α}(h:opt o f=.ok a S):∃b,o=some b/\f b=.ok a S:=by
 cases o with
 | none=>cases h
 | some b=>exact⟨b,rfl,h⟩
abbrev nN (s:Src)(g:Tg)(t:Te)(e:Ex):Nat->Nat->ad->iI->R (ad)
 | 0,_=>λ_ S=>if s.fin S then .ok [] S else .no
 | k+1,i=>λτ S=>opt (s.get i S) λx=>(g x τ S).lU λτ1 S1=>(t τ1 S1).lU λb S2=>match b with
  | true=>(e τ1 S2).lU λy S3=>(nN s g t e k (i+1) τ1 S3).lU λys S4=>.ok (y::ys) S4
  | false=>nN s g t e k (i+1) τ1 S2
abbrev mC (cap:List<|bj)(τ:ad):ad:=cap.map λo=>match o with
 | some j=>τ.getD j .unb
 | none=>.unb
abbrev lZ (cap:List<|bj)(src:Ic)(g:Tg)(t:Te)(e:Ex):Ex:=λτ S=>(src τ S).bind λs S1=>(nN s g t e s.k 0 (mC cap τ) S1).lU λys S2=>newL ys S2
abbrev zQ:Te:=λ_ S=>.ok true S
def Cr{s:Src}{g:Tg}{t:Te}{e:Ex}{k:Nat}{T:Prop}(h:nN s g t e (k+1) i τ S=.ok zs S')
  (q:∀x τ1 S1 b S2,s.get i S=some x->g x τ S=.ok τ1 S1->t τ1 S1=.ok b S2->(b=true->∃y S3 ws,e τ1 S2=.ok y S3/\nN s g t e k (i+1) τ1 S3=.ok ws S'/\zs=y::ws)->(b=false->nN s g t e k (i+1) τ1 S2=.ok zs S')->T):T:=by
 obtain⟨x,hx,h⟩:=Dz h;obtain⟨τ1,S1,h1,h⟩:=jS h;obtain⟨b,S2,h2,h⟩:=jS h;refine q x τ1 S1 b S2 hx h1 h2 (λhb=>?_) λhb=>?_
 ·subst hb;obtain⟨y,S3,h3,h⟩:=jS h;obtain⟨ws,S4,h4,h⟩:=jS h
  cases h
  exact⟨y,S3,ws,h3,h4,rfl⟩
 ·subst hb;exact h
structure Out (ρ1:ba)(H1:Hp)(D:ak)(accV:List V)(ρ:ba)(H:Hp):Prop where
 e0:Ext0 ρ1 ρ H1 H
 fr:∀a u,a≠D->H1 a=some u->a∉ρ1->H a=some u
 nw:∀a∈ρ,a∈ρ1\/H1 a=none
 nD:D∉ρ
 hD:H D=some (.lst accV)
def Out.stay{H1 H3 H7:Hp}{D:ak}(o:Out ρ1 H1 D accV ρ3 H3)(hD1:H1 D=none)(e7:Ext ρ3 ρ7 H3 H7):Out ρ1 H1 D accV ρ7 H7:=by
 refine⟨⟨o.e0.pre.trans e7.pre,λa u i h=>e7.im a u i<|o.e0.im a u i h⟩,λa u na hu nr=>e7.fr a u (o.fr a u na hu nr) λz=>(o.nw a z).elim nr λz=>by(rw[z]at hu;cases hu),λa ha=>?_,λz=>(e7.nw D z).elim o.nD λz=>by(rw[o.hD]at z;cases z),e7.fr D _ o.hD o.nD⟩;by_cases hr:a∈ρ1
 ·exact .inl hr
 ·right
  cases q:H1 a with
  | none=>rfl
  | some u=>
   have aD:a≠D:=iX q hD1
   rcases e7.nw a ha with z|z
   ·exact((o.nw a z).elim hr λz=>by(rw[z]at q;cases q)).elim
   ·rw[o.fr a u aD q hr]at z;cases z
def Out.put{H1 H:Hp}{D:ak}(o:Out ρ1 H1 D accV ρ H)(ex:Ext0 ρ ρ H<|upd H D<|.lst vs):Out ρ1 H1 D vs ρ (upd H D<|.lst vs):=
 ⟨⟨o.e0.pre,λa u i h=>ex.im a u i<|o.e0.im a u i h⟩,λa u na hu nr=>by rw[iS na];exact o.fr a u na hu nr,o.nw,o.nD,jA⟩
def Out.end{H1 H:Hp}{D:ak}(o:Out ρ1 H1 D accV ρ H)(hD:H1 D=none):Ext ρ1 (ρ++[D]) H1 H:=by
 refine⟨⟨o.e0.pre.trans<|eU _ _,o.e0.im⟩,λa u hu na=>o.fr a u (iX hu hD) hu na,λa ha=>?_⟩
 rcases bF.mp ha with z|z
 ·exact o.nw a z
 ·have:a=D:=by simpa using z
  rw[this];exact .inr hD
abbrev Cq (K:au)(ρ1:ba)(H1:Hp)(D:ak)(ys:ad)(k:Nat)(E:ba->Hp->Prop)(P:Nat->Nat->ad->iI->ad->Prop)(i m:Nat)(σ:L2.St)(H:Hp):Prop:=
 m+i=k/\∃ρ S τ acc zs accV,Out ρ1 H1 D accV ρ H/\E ρ H/\Rel K ρ H S/\SR K ρ H τ σ/\AVs K ρ H acc accV/\P m i τ S zs/\acc++zs=ys
section
variable {K:au}{ρ1 ρ:ba}{H1 H:Hp}{D:ak}{ys acc zs:ad}{accV:List V}{k i m:Nat}{E:ba->Hp->Prop}{P:Nat->Nat->ad->iI->ad->Prop}{σ:L2.St}{S:iI}{τ:ad}
def Cq.el{T:Prop}(h:Cq K ρ1 H1 D ys k E P i m σ H)(q:∀ρ S τ acc zs accV,m+i=k->Out ρ1 H1 D accV ρ H->E ρ H->Rel K ρ H S->SR K ρ H τ σ->AVs K ρ H acc accV->P m i τ S zs->acc++zs=ys->T):T:=by
 obtain⟨hm,ρ,S,τ,acc,zs,accV,h1,h2,h3,h4,h5,h6,h7⟩:=h;exact q ρ S τ acc zs accV hm h1 h2 h3 h4 h5 h6 h7
def Cq.of(hm:m+i=k)(o:Out ρ1 H1 D accV ρ H)(e:E ρ H)(R:Rel K ρ H S)(r:SR K ρ H τ σ)(v:AVs K ρ H acc accV)(p:P m i τ S zs)(q:acc++zs=ys):Cq K ρ1 H1 D ys k E P i m σ H:=⟨hm,ρ,S,τ,acc,zs,accV,o,e,R,r,v,p,q⟩
end
abbrev V8 (K:au)(c:Ex):TE:=λσ H Q=>∃ρ S τ a S',Rel K ρ H S/\SR K ρ H τ σ/\c τ S=.ok a S'/\∀ρ' H' v,Ext ρ ρ' H H'->Rel K ρ' H' S'->AV K ρ' H' a v->Q v H'
abbrev T7 (K:au)(c:Te):TT:=λσ H Q=>∃ρ S τ a S',Rel K ρ H S/\SR K ρ H τ σ/\c τ S=.ok a S'/\∀ρ' H',Ext ρ ρ' H H'->Rel K ρ' H' S'->Q a H'
abbrev VC (K:au)(g:Tg):TG:=λv σ H Q=>∃ρ S τ a τ' S',Rel K ρ H S/\SR K ρ H τ σ/\AV K ρ H a v/\g a τ S=.ok τ' S'/\∀ρ' H' σ',Ext ρ ρ' H H'->Rel K ρ' H' S'->SR K ρ' H' τ' σ'->Q σ' H'
section
variable {X:Cx}{pos:Pos}{tg iter elt e:aE}{ifs:List aE}{scope:Scope}{N:ap}{cap:List (bj)}{src:Ic}{g:Tg}{t:Te}{c:Ex}
def AE.e0{K:au}(hK:X.K=K)(h:AE X e c):PE X e (V8 K c):=PE.imp h λσ H Q ⟨ρ,S,τ,a,S',R,r,hc,q⟩=>⟨ρ,S,τ,by rw[hK];exact R,by rw[hK];exact r,by rw[hc];exact λρ' H' v e R' v'=>q ρ' H' v e (by rw[<- hK];exact R')<|by rw[<- hK];exact v'⟩
def AT.t0{K:au}(hK:X.K=K)(h:AT X e t):PT X e (T7 K t):=PT.imp h λσ H Q ⟨ρ,S,τ,a,S',R,r,hc,q⟩=>⟨ρ,S,τ,by rw[hK];exact R,by rw[hK];exact r,by rw[hc];exact λρ' H' e R'=>q ρ' H' e<|by rw[<- hK];exact R'⟩
def AG.g0{K:au}(hK:X.K=K)(h:AG X e g):PG X e (VC K g):=PG.imp h λv σ H Q ⟨ρ,S,τ,a,τ',S',R,r,va,hc,q⟩=>⟨ρ,S,τ,a,by rw[hK];exact R,by rw[hK];exact r,by rw[hK];exact va,by rw[hc];exact λρ' H' v e R' v'=>q ρ' H' v e (by rw[<- hK];exact R')<|by rw[<- hK];exact v'⟩
abbrev UD (X:Cx)(ifs:List aE)(t:Te):Prop:=N9 X ifs<|T7 X.K t
def zI:UD X [] zQ:=λpins s σ H Q I ⟨ρ,S,τ,a,S',R,r,hc,q⟩=>NO pins s σ H Q I<|by cases hc;exact q ρ H .refl R
def vG(h:AT X e t):UD X [e] t:=Np<|h.t0 rfl
def Qg{K:au}{H:Hp}(r:SR K ρ H τ σ)(cap:List<|bj):SR K ρ H (mC cap τ) (cap.map<|OB σ):=by
 refine⟨by simp[mC],λi a h=>?_⟩;unfold mC at h;rw[a_]at h;obtain⟨o,ho,e⟩:=bu.mp h
 cases o with
 | none=>exact .inl e.symm
 | some j=>
  have e:τ.getD j .unb=a:=e
  cases hj:τ[j]? with
  | none=>rw[aI,hj]at e;exact .inl e.symm
  | some b=>
   rw[aI,hj]at e;have e:b=a:=e;subst e
   rcases r.at j b hj with z|⟨v,h1,h2⟩
   ·exact .inl z
   ·exact .inr ⟨v,by rw[a_,ho];show some ((σ[j]?).getD none)=_;rw[h1];rfl,h2⟩
def Rel.EV{K:au}{H:Hp}{p:ak}(R:Rel K ρ H S)(hp:H p=none):p∉ρ:=λhm=>by
 obtain⟨n,hn,e⟩:=gF.mp hm;have hl:n<S.length:=by rw[<- R.len];exact hn
 have:=R.at n p S[n] (by rw[aG hn,e]) (aG hl)
 cases ho:S[n]with
 | lst xs=>rw[ho]at this;obtain⟨vs,h,_⟩:=this;rw[hp]at h;cases h
 | dct _|o5 _|qp _=>rw[ho]at this;obtain⟨vs,h,_⟩:=this;rw[hp]at h;cases h
 | ins _ _=>rw[ho]at this;obtain⟨_,_,h⟩:=this;rw[hp]at h;cases h
def Jj(σ:L2.St)(H:Hp)(Q:VK)(h:tE X (lZ cap src g t c) σ H Q):V3 cap (tI X src) (VC X.K g) (T7 X.K t) (V8 X.K c) σ H Q:=by
 kst_p;refine⟨ρ,S,τ,R,r,iG (iM h) .refl λs S1 h1 ρ1 H1 J e1 R1 jr D hD=>?_⟩;obtain⟨ys,S2,hcg,h1⟩:=xO h1;obtain⟨hlen,h1⟩:=i6 h1;have h1:vX X ρ H Q (.ref S2.length) (S2++[.lst ys]):=h1;obtain⟨eD,RD⟩:=R1.im (u:=.lst []) hD;refine⟨Cq X.K ρ1 H1 D ys s.k (λ_ _=>True) λm i τ S zs=>nN s g t c m i τ S=.ok zs S2,⟨s.k,.of rfl ⟨eD.toExt0,λa u na hu _=>by rw[iS na];exact hu,λa ha=>.inl ha,R1.EV hD,jA⟩ trivial RD (Qg ((r.ext e1).ext eD) cap) .nil hcg rfl⟩,?_⟩;intro i m σ3 H3 hw;refine hw.el λρ3 S3 τ3 acc zs accV hm o3 _ R3 r3 ac3 cg3 eys=>?_;clear hw
 cases m with
 | zero=>
  left;have cg3:(if s.fin S3 then Am.R.ok [] S3 else .no)=.ok zs S2:=cg3
  cases hf:s.fin S3 with
  | false=>rw[hf]at cg3;cases cg3
  | true=>
   rw[hf]at cg3
   cases cg3
   rw[cN]at eys;subst eys;refine⟨by rw[show i=s.k by lia];exact jr.stop _ H3 ρ3 o3.e0 R3 hf,?_⟩;obtain⟨RT,gt⟩:=R3.take o3.hD o3.nD ac3;exact h1 (ρ3++[D]) H3 _ (e1.trans<|o3.end hD) RT<|.ref gt
 | succ m=>
  right;refine Cr cg3 λx τ4 S4 b S5 hx hg4 ht5 hT hF=>?_;have jg:=jr.go i S3 H3 ρ3 x o3.e0 R3 hx;refine⟨jg.1,λv H4 y=>?_⟩;obtain⟨e4,R4,v4⟩:=jg.2 v H4 y;refine⟨ρ3,S3,τ3,x,τ4,S4,R4,r3.ext e4,v4,hg4,λρ5 H5 σ5 e5 R5 r5=>⟨ρ5,S4,τ4,b,S5,R5,r5,ht5,λρ6 H6 e6 R6=>?_⟩⟩;have e36:=(e4.trans e5).trans e6
  cases b with
  | false=>
   dsimp only;rw[aJ bH];exact⟨m,cO _,.of () (o3.stay hD e36) trivial R6 (r5.ext e6) (ac3.ext e36) (hF rfl) eys⟩
  | true=>
   dsimp only;rw[aK rfl];obtain⟨y,S6,ws,he6,cg6,ezs⟩:=hT rfl;refine⟨ρ6,S5,τ4,y,S6,R6,r5.ext e6,he6,λρ7 H7 w e7 R7 v7=>?_⟩;have o7:=o3.stay hD<|e36.trans e7;obtain⟨ex8,R8⟩:=R7.out (ws:=accV++[w]) o7.hD o7.nD;have l1:=ac3.length;refine⟨accV,o7.hD,?_,m,cO _,.of () (o7.put ex8) trivial R8 ((r5.ext<|e6.trans e7).j8 ex8) (AVs.j8 ex8<|(ac3.ext<|e36.trans e7).append<|.one v7) cg6 ?_⟩
   ·have:(acc++zs).length<=sizeLine:=by rw[eys];exact hlen
    rw[ezs,aX,bz]at this
    lia
   ·rw[bG,<- eys,ezs];rfl
def um(hc:X.calm=true)(Sc:CpScope X scope N cap)(hi:AI X tg iter src)(hg:∀C s₀ H₀ ex,AG (jU X scope N C s₀ H₀ ex) tg g)(ht:∀C s₀ H₀ ex,UD (jU X scope N C s₀ H₀ ex) ifs t)(he:∀C s₀ H₀ ex,AE (jU X scope N C s₀ H₀ ex) elt c)
  (hs:∀x,foldedSetIterable iter X.env x=pure x:=by intro _;rfl):AE X (.ListComp elt [⟨tg,iter,ifs,0⟩] scope pos) (lZ cap src g t c):=
 PE.imp (T9 hc Sc hi (g:=VC X.K g) (tc:=T7 X.K t) (te:=V8 X.K c) (λC s₀ H₀ ex=>(hg C s₀ H₀ ex).g0 rfl) (λC s₀ H₀ ex=>ht C s₀ H₀ ex) (λC s₀ H₀ ex=>(he C s₀ H₀ ex).e0 rfl) hs) Jj
end
abbrev A.lst? (S:iI):A->Option (ad)
 | .ref n=>iH S n
 | _=>none
abbrev VA (f:A->ad->iI->R A)(co:Ex)(d:p5):Ex:=λτ S=>(co τ S).bind λo S1=>opt (o.lst? S1) λ_=>(d τ S1).bind λas S2=>f o as S2
abbrev WU (f:A->ad->iI->R A)(co:Ex):Ex:=λτ S=>(co τ S).bind λo S1=>opt (o.lst? S1) λ_=>f o [] S1
abbrev rM (X:Cx)(f:A->ad->iI->R A):V->List V->Hp->VK->Prop:=λx vs H Q=>∃ρ S o as,Rel X.K ρ H S/\AV X.K ρ H o x/\AVs X.K ρ H as vs/\(f o as S).post (vX X ρ H Q) (XE X ρ H)
section
variable {X:Cx}{apos cpos:Pos}{o e:aE}{es:List aE}{name:Str}{id:String}{f:A->ad->iI->R A}{co:Ex}{d:p5}
def lst?_ty{K:au}{H:Hp}{x:A}{v:V}(R:Rel K ρ H S)(h:AV K ρ H x v)(e:x.lst? S=some xs):V2 K "list" v H:=by
 cases h with
 | ref h=>
  obtain⟨vs,h1,_⟩:=R.lst h<|iV e;exact .inl ⟨rfl,vs,nE.of h1⟩
 | _=>cases e
def Iz(slot:Slot "list" name id)(hty:typeOf (.builtin id)=pure (.type "method_descriptor"))(hm:T5 X id<|rM X f)(ho:AE X o co)(ha:AL X (e::es) d)
  (hbase:attributeBase o name X.env (eval o X.env)=eval o X.env:=by rfl)
  (hfew:((backTo cpos<|starEach (e::es) X.env).all (λx=>!x.1) && (backToKw cpos<|keywordEach [] X.env).all (λx=>x.1.isSome)
   && decide ((e::es).length+([]:List Keyword).length+(if ([]:List Keyword).isEmpty then 0 else 1)<30))=true:=by rfl)
  (hline:(apos.endLine == cpos.line)=true:=by rfl) (hs:starEach (e::es) X.env=(false,eval e X.env)::starEach es X.env:=by rfl) (hplain:(backTo cpos<|starEach es X.env).any (·.1)=false:=by rfl) :
  AE X (.Call (.Attribute o name apos) (e::es) [] cpos) (VA f co d):=PE.imp (PR PySem.F.plainAttrs_list slot hty hm ho ha hbase hfew hline hs hplain) λσ H Q h9=>by
 z_go;refine⟨ρ,S,τ,R,r,iG (iM h) .refl λx S1 h1 ρ1 H1 v e1 R1 v1=>?_⟩;obtain⟨xs,hx,h1⟩:=iR h1;refine⟨lst?_ty R1 v1 hx,ρ1,S1,τ,R1,r.ext e1,iG (iM h1) e1 λas S2 h2 ρ2 H2 vs e2 R2 v2=>?_⟩;exact⟨ρ2,S2,x,as,R2,v1.ext e2,v2,iG h2 (e1.trans e2) λ_ _ z=>z.ext<|e1.trans e2⟩
abbrev vW (o:A)(as:ad)(S:iI):R A:=match o,as with
 | .ref n,[x]=>opt (iH S n) λxs=>gd (xs.length<sizeLine) (.ok .non<|S.set n<|.lst<|xs++[x])
 | _,_=>.no
def Bm:T5 X "list.append" (rM X vW):=λpins s σ H x vs v us Q I rx rv h9=>by
 obtain⟨ρ,S,o,as,R,vo,va,h⟩:=h9
 cases vo with
 | @ref p n hp=>
  match as,va,h with
  | [],_,h=>exact h.elim
  | _::_::_,_,h=>exact h.elim
  | [y],va,h=>
   obtain⟨w,rfl,hw⟩:=OH va;kj_on;obtain⟨hl,h⟩:=i6 h;obtain⟨ws,h1,r⟩:=R.lst hp<|iV hn;obtain⟨ex,R'⟩:=R.put hp (iV hn)<|r.append<|.one hw;exact uy pins s σ H _ _ v us Q I rx rv ⟨p,ws,w,rfl,rfl,h1,by rw[<- r.length];exact hl,h _ _ _ ex R' .non⟩
 | _=>exact h.elim
abbrev DL (o:A)(as:ad)(S:iI):R A:=match o,as with
 | .ref n,[.int i]=>opt (iH S n) λxs=>gd (-(2 ^ 63)<=i/\i<2 ^ 63) (opt (seqIndex? i xs.length) λk=>opt (xs[k]?) λx=>.ok x<|S.set n<|.lst<|xs.eraseIdx k)
 | _,_=>.no
def O5:T5 X "list.pop" (rM X DL):=λpins s σ H x vs v us Q I rx rv h9=>by
 obtain⟨ρ,S,o,as,R,vo,va,h⟩:=h9
 cases vo with
 | @ref p n hp=>
  match as,va,h with
  | [],_,h=>exact h.elim
  | y::_::_,_,h=>exact(by cases y<;>exact h.elim)
  | [y],va,h=>
   obtain⟨w,rfl,hw⟩:=OH va
   cases hw with
   | int i=>
    kj_on;obtain⟨hi,h⟩:=i6 h;obtain⟨k,hk,h⟩:=iR h;obtain⟨y,hy,h⟩:=iR h;obtain⟨ws,h1,r⟩:=R.lst hp<|iV hn;obtain⟨w,hw,vw⟩:=r.get hy;obtain⟨ex,R'⟩:=R.put hp (iV hn)<|r.eraseIdx k;exact KP pins s σ H _ _ v us Q I rx rv ⟨p,ws,i,k,w,rfl,rfl,h1,hi.1,hi.2,by rw[<- r.length];exact hk,hw,h _ _ _ ex R'<|vw.ext ex⟩
   | _=>exact h.elim
 | _=>exact h.elim
end
abbrev jT (N:ap)(m:Sm)(as:ad)(S:iI):R A:=match m (as++List.replicate (N.length-as.length) .unb) S with
 | .rt a S'=>.ok a S'
 | .nx _ S'=>.ok .non S'
 | .ex c S'=>.ex c S'
 | _=>.no
abbrev pV (K:au)(n:Nat)(F:ad->iI->R A):Sp:=λvs H Q _=>vs.length=n/\∃ρ S as a S',Rel K ρ H S/\AVs K ρ H as vs/\F as S=.ok a S'/\∀ρ' H' v,Ext ρ ρ' H H'->Rel K ρ' H' S'->AV K ρ' H' a v->Q v H'
def NS{K:au}{H:Hp}{as:ad}(r:AVs K ρ H as vs)(N:ap):SR K ρ H (as++List.replicate (N.length-as.length) .unb) (L2.start N vs):=by
 have hl:=r.length;refine⟨by unfold L2.start;simp[hl],λi a h=>?_⟩;by_cases hi:i<as.length
 ·rw[bh hi]at h;obtain⟨v,hv,av⟩:=r.get h;exact .inr ⟨v,by unfold L2.start;rw[bh<|by simp;lia,a_,hv];rfl,av⟩
 ·rw[bY (),fU]at h;split at h
  ·exact .inl (aU h).symm
  ·cases h
section
variable {P:aj}{w:ah}{K:au}{mg:Str->bb}{base:aq}
def su{x:Str}{st:aF}{f:ak}{N ps:ap}{k:Nat}{m:Sm}(F:Fun K x qual st f fd)(Sc:FnScope N ps<|iT st)
  (body:∀(cdv:af) (A:aA) (outer:List Env) (s:aC) (H:Hp) (E:XK),Room k (A.deeper<|envOfC qual (iT st) s.heap.objs.size f cdv)->Nq (DY nX P w K mg base N qual (iT st) f cdv A outer s H E).Uj (oz st) m) :
  FnOk P w K mg base nX (k+1) f fd ps (pV K ps.length<|jT N m):=by
 refine F.ok Sc (λvs H Q E h=>h.1) λcdv B outer s H vs Q E hr ⟨hl,ρ,S,as,a,S',R,va,hF,q⟩=>⟨_,body cdv B outer s H E hr,ρ,S,_,R,NS va N,?_⟩;unfold jT at hF
 cases hm:m (as++List.replicate (N.length-as.length) .unb) S with
 | rt b S2=>rw[hm]at hF;cases hF;exact q
 | nx τ S2=>rw[hm]at hF;cases hF;exact λρ' H' σ' e R' _=>q ρ' H' _ e R' .non
 | bk τ S2=>rw[hm]at hF;cases hF
 | ct τ S2=>rw[hm]at hF;cases hF
 | ex c S2=>rw[hm]at hF;cases hF
 | no=>rw[hm]at hF;cases hF
end
meta abbrev nA (P:aj)(w:ah)(K:au)(mg:Str->bb)(base:aq)(k:Nat)(x:Str)(ps:ap)(F:ad->iI->R A):Prop:=Kn P w K mg base k x ps<|pV K ps.length F
abbrev eFn (F:ad->iI->R A)(d:p5):Ex:=λτ S=>(d τ S).bind λas S1=>match F as S1 with
 | .ok a S2=>.ok a S2
 | _=>.no
section
variable {X:Cx}{pos p:Pos}{e:aE}{es:List aE}{x:Str}{ps:ap}{k:Nat}{F:ad->iI->R A}{d:p5}
theorem om(G:nA X.prog X.w X.K X.mg X.base k x ps F)(hr:Room k X.A)(ha:AL X (e::es) d)(hl:∀τ S as S',d τ S=.ok as S'->as.length=ps.length)(hg:Gl X x:=by rfl)(hdb:(x == ("__debug__" : Str))=false:=by decide)
  (hs:starEach (e::es) X.env=(false,eval e X.env)::starEach es X.env:=by rfl) (hplain:(backTo pos<|starEach es X.env).any (·.1)=false:=by rfl):AE X (.Call (.Name x p) (e::es) [] pos) (eFn F d):=
 PE.imp (UK G hr ha hg hdb hs hplain) λσ H Q h9=>by
  z_go;refine⟨ρ,S,τ,R,r,?_⟩;have hb:=iM h
  cases hd:d τ S with
  | no=>rw[hd]at hb;exact hb
  | ex c S1=>rw[hd]at hb;exact hb
  | ok as S1=>
   rw[hd]at hb;intro ρ1 H1 vs e1 R1 v1;rw[cN];refine⟨by rw[<- v1.length];exact hl τ S as S1 hd,ρ1,S1,as,?_⟩;have hb:Am.R.post (match F as S1 with
    | .ok a S2=>.ok a S2
    | _=>.no) (vX X ρ H Q) (XE X ρ H):=hb
   cases hF:F as S1 with
   | ok a S2=>rw[hF]at hb;exact⟨a,S2,R1,v1,rfl,λρ2 H2 v e2=>hb ρ2 H2 v<|e1.trans e2⟩
   | ex c S2=>rw[hF]at hb;exact hb.elim
   | no=>rw[hF]at hb;exact hb.elim
def kc:∀τ S as S',iQ τ S=.ok as S'->as.length=0:=λτ S as S' h=>by cases h;rfl
def iW{c:Ex}{d:p5}{n:Nat}(h:∀τ S as S',d τ S=.ok as S'->as.length=n):∀τ S as S',iE c d τ S=.ok as S'->as.length=n+1:=λτ S as S' e=>by
 unfold iE at e
 cases hc:c τ S with
 | ok a S1=>
  rw[hc]at e
  cases hd:d τ S1 with
  | ok bs S2=>
   have e:R.bind (d τ S1) (λas S2=>.ok (a::as) S2)=.ok as S':=e;rw[hd]at e;cases e;rw[bz,h τ S1 bs _ hd]
  | ex _ _=>
   have e:R.bind (d τ S1) (λas S2=>.ok (a::as) S2)=.ok as S':=e;rw[hd]at e;cases e
  | no=>
   have e:R.bind (d τ S1) (λas S2=>.ok (a::as) S2)=.ok as S':=e;rw[hd]at e;cases e
 | ex _ _=>rw[hc]at e;cases e
 | no=>rw[hc]at e;cases e
end
section
variable {X:Cx}{pos:Pos}{a b c:aE}
abbrev X6 (f':A->A->iI->R A)(cc:Ex)(τ:ad)(b k:A)(S:iI):R A:=match k with
 | .bl true=>(cc τ S).bind λc S4=>f' b c S4
 | .bl false=>.ok (.bl false) S
 | _=>.no
abbrev II (f f':A->A->iI->R A)(ca cb cc:Ex):Ex:=λτ S=>(ca τ S).bind λa S1=>(cb τ S1).bind λb S2=>(f a b S2).bind λk S3=>X6 f' cc τ b k S3
def Ml{f f':A->A->iI->R A}{ca cb cc:Ex}{H:Hp}{Q:VK}(h:tE X (II f f' ca cb cc) σ H Q):CN (r2 X f) (r2 X f') (tE X ca) (tE X cb) (tE X cc) σ H Q:=by
 kst_p;refine⟨ρ,S,τ,R,r,iG (iM h) .refl λa S1 h1 ρ1 H1 x e1 R1 v1=>⟨ρ1,S1,τ,R1,r.ext e1,iG (iM h1) e1 λb S2 h2 ρ2 H2 y e2 R2 v2=>?_⟩⟩;have e12:=e1.trans e2;refine⟨ρ2,S2,a,b,R2,v1.ext e2,v2,iG (iM h2) e12 λk S3 h3 ρ3 H3 z e3 R3 v3=>?_⟩;have e13:=e12.trans e3
 cases k with
 | bl k=>
  cases yR v3
  refine⟨k,rfl,?_⟩
  cases k with
  | true=>
   rw[aK rfl];exact⟨ρ3,S3,τ,R3,r.ext e13,iG (iM h3) e13 λc S4 h4 ρ4 H4 w e4 R4 v4=>⟨ρ4,S4,b,c,R4,v2.ext<|e3.trans e4,v4,iG h4 (e13.trans e4) λ_ _ q=>q.ext<|e13.trans e4⟩⟩
  | false=>
   rw[aJ bH];exact h3 ρ3 H3 _ e13 R3<|.bl false
 | _=>exact h3.elim
def U9{f f':A->A->iI->R A}{ca cb cc:Ex}(ho:lT X (compareOp op)<|r2 X f)(ho':lT X (compareOp op')<|r2 X f')(ha:AE X a ca)(hb:AE X b cb)(hc:AE X c cc)(hm:lastMarks [op,op'] [b,c]=false:=by with_unfolding_all rfl) :
  AE X (.Compare a [op,op'] [b,c] pos) (II f f' ca cb cc):=PE.imp (IQ ho ho' ha hb hc hm) λ_ _ _ h=>Ml h
def VE{f f':A->A->iI->R A}{ca cb cc:Ex}(ho:lT X (compareOp op)<|r2 X f)(ho':lT X (compareOp op')<|r2 X f')(ha:AE X a ca)(hb:AE X b cb)(hc:AE X c cc)(hm:lastMarks [op,op'] [b,c]=false:=by with_unfolding_all rfl) :
  AT X (.Compare a [op,op'] [b,c] pos) (mX<|II f f' ca cb cc):=PT.imp (K5 ho ho' ha hb hc hm) λσ H Q h9=>by
 z_go;refine Ml ⟨ρ,S,τ,R,r,iG (iM h) .refl λc S1 h1 ρ1 H1 x e1 R1 v1=>?_⟩
 cases c with
 | bl k=>cases yR v1;exact⟨k,rfl,h1 ρ1 H1 e1 R1⟩
 | _=>exact h1.elim
abbrev Vj (S:iI)(x:A):ad->bi
 | []=>some false
 | z::zs=>(tV S 12 z x).bind λp=>(Vj S x zs).map λq=>p || q
abbrev WD (neg:Bool)(x y:A)(S:iI):R A:=opt (y.seq S) λys=>opt (Vj S x ys) λb=>.ok (.bl<|if neg then !b else b) S
theorem AA{H:Hp}{x:A}{v:af}(I:Inv X pins σ H s)(R:Rel X.K ρ H S)(hu:X.A.units+64<cLine)(hx:AV X.K ρ H x vx)(rx:RelV vx v) :
  ∀{ys:ad} {us:List V} {its:ar} {b:Bool},AVs X.K ρ H ys us->Vals us its->Vj S x ys=some b->∃e:af->Bool,(∀w∈its,SeqAt.EqAt X.A.in1 s w v<|e w)/\its.any e=b
 | _,_,_,b,.nil,.nil,h=>⟨λ_=>false,(λw hw=>by cases hw),aU h⟩
 | z::zs,u::us,w0::its,b,.cons hz hzs,.cons r rs,h=>by
  classical
  obtain⟨p,hp,h⟩:=cJ.mp h;obtain⟨q,hq,h⟩:=bu.mp h;obtain⟨e,he,ha⟩:=AA I R hu hx rx hzs rs hq;have h0:=(Ge I R 12 X.A.in1 z x u vx w0 v p (by rw[in1_units];omega) hz hx r rx hp).2.1;subst h
  cases p with
  | true=>
   refine⟨λw=>if w=w0 then true else e w,λw hw=>?_,?_⟩
   ·by_cases hww:w=w0
    ·dsimp[hww,cE];exact h0
    ·dsimp[hww,bN]
     rcases bJ.mp hw with z|z
     ·exact absurd z hww
     ·exact he w z
   ·simp
  | false=>
   by_cases hm:w0∈its
   ·refine⟨e,λw hw=>?_,?_⟩
    ·rcases bJ.mp hw with z|z
     ·rw[z];exact he w0 hm
     ·exact he w z
    ·rw[e9,ha,gB]
     cases q with
     | true=>simp
     | false=>
      have:=List.any_eq_false.mp ha w0 hm;simpa using this
   ·refine⟨λw=>if w=w0 then false else e w,λw hw=>?_,?_⟩
    ·by_cases hww:w=w0
     ·dsimp[hww,cE];exact h0
     ·dsimp[hww,bN]
      rcases bJ.mp hw with z|z
      ·exact absurd z hww
      ·exact he w z
    ·rw[e9,<- ha];dsimp[cE,gB];have:∀l:ar,(∀w∈l,w≠w0)->l.any (λw=>if w=w0 then false else e w)=l.any e:=λl hl=>by
      induction l with
      | nil=>rfl
      | cons c l ih=>rw[e9,e9,ih λw hw=>hl w<|aP _ hw,aJ<|hl c<|aN ..]
     exact this its λw hw z=>hm<|z ▸ hw
def Xi(hu:X.A.units+64<cLine):lT X (compareOp .In) (r2 X<|WD false):=λpins s σ H x y v u Q I rx ry h9=>by
 x_go;obtain⟨ys,hy,h⟩:=iR h;obtain⟨k,hk,h⟩:=iR h;obtain⟨p,us,rfl,hs,r⟩:=Sq R vb hy
 cases ry
 rcases hs with hs|hs
 ·obtain⟨its,rv,pl,hz⟩:=I.list hs;obtain⟨e,he,ha⟩:=AA I R hu va rx r rv hk;refine SeqAt.in_listAt e pl.isList (λw hw=>he w<|by simpa using hw) ⟨.bl _,H,I,rfl,?_⟩;rw[show its.toArray.any e=its.any e by simp,ha];exact h _ _ _ .refl R (.bl _)
 ·obtain⟨its,rv,pl,hz⟩:=I.tuple hs;obtain⟨e,he,ha⟩:=AA I R hu va rx r rv hk;refine SeqAt.in_tupleAt e pl (λw hw=>he w<|by simpa using hw) ⟨.bl _,H,I,rfl,?_⟩;rw[show its.toArray.any e=its.any e by simp,ha];exact h _ _ _ .refl R<|.bl _
end
abbrev VG (S:iI)(n:Nat):Option (List<|ae×A):=match S[n]? with
 | some (.dct xs)=>some xs
 | _=>none
abbrev pJ (s:Src)(g:Tg)(t:Te)(e:Ex):Nat->Nat->ad->iI->R (ad×ad)
 | 0,_=>λτ S=>if s.fin S then .ok ([],τ) S else .no
 | k+1,i=>λτ S=>opt (s.get i S) λx=>(g x τ S).lU λτ1 S1=>(t τ1 S1).lU λb S2=>match b with
  | true=>(e τ1 S2).lU λy S3=>(pJ s g t e k (i+1) τ1 S3).lU λp S4=>.ok (y::p.1,p.2) S4
  | false=>pJ s g t e k (i+1) τ1 S2
abbrev nk (s:Src)(g:Tg)(t:Te)(src2:Ic)(g2:Tg)(t2:Te)(e:Ex):Nat->Nat->ad->iI->R (ad)
 | 0,_=>λ_ S=>if s.fin S then .ok [] S else .no
 | k+1,i=>λτ S=>opt (s.get i S) λx=>(g x τ S).lU λτ1 S1=>(t τ1 S1).lU λb S2=>match b with
  | true=>(src2 τ1 S2).lU λs2 S3=>(pJ s2 g2 t2 e s2.k 0 τ1 S3).lU λp S4=>(nk s g t src2 g2 t2 e k (i+1) p.2 S4).lU λys S5=>.ok (p.1++ys) S5
  | false=>nk s g t src2 g2 t2 e k (i+1) τ1 S2
abbrev DH (cap:List<|bj)(src:Ic)(g:Tg)(t:Te)(src2:Ic)(g2:Tg)(t2:Te)(e:Ex):Ex:=λτ S=>(src τ S).bind λs S1=>(nk s g t src2 g2 t2 e s.k 0 (mC cap τ) S1).lU λys S2=>newL ys S2
def BS{s:Src}{g:Tg}{t:Te}{e:Ex}{k:Nat}{T:Prop}(h:pJ s g t e (k+1) i τ S=.ok (zs,τ') S')
  (q:∀x τ1 S1 b S2,s.get i S=some x->g x τ S=.ok τ1 S1->t τ1 S1=.ok b S2->(b=true->∃y S3 ws,e τ1 S2=.ok y S3/\pJ s g t e k (i+1) τ1 S3=.ok (ws,τ') S'/\zs=y::ws)->(b=false->pJ s g t e k (i+1) τ1 S2=.ok (zs,τ') S')->T):T:=by
 obtain⟨x,hx,h⟩:=Dz h;obtain⟨τ1,S1,h1,h⟩:=jS h;obtain⟨b,S2,h2,h⟩:=jS h;refine q x τ1 S1 b S2 hx h1 h2 (λhb=>?_) λhb=>?_
 ·subst hb;obtain⟨y,S3,h3,h⟩:=jS h;obtain⟨⟨ws,τ2⟩,S4,h4,h⟩:=jS h
  cases h
  exact⟨y,S3,ws,h3,h4,rfl⟩
 ·subst hb;exact h
def zy{s:Src}{g:Tg}{t:Te}{src2:Ic}{g2:Tg}{t2:Te}{e:Ex}{k:Nat}{T:Prop}(h:nk s g t src2 g2 t2 e (k+1) i τ S=.ok zs S')
  (q:∀x τ1 S1 b S2,s.get i S=some x->g x τ S=.ok τ1 S1->t τ1 S1=.ok b S2->(b=true->∃s2 S3 ps τ2 S4 ws,src2 τ1 S2=.ok s2 S3/\pJ s2 g2 t2 e s2.k 0 τ1 S3=.ok (ps,τ2) S4/\nk s g t src2 g2 t2 e k (i+1) τ2 S4=.ok ws S'/\zs=ps++ws)->(b=false->nk s g t src2 g2 t2 e k (i+1) τ1 S2=.ok zs S')->T):T:=by
 obtain⟨x,hx,h⟩:=Dz h;obtain⟨τ1,S1,h1,h⟩:=jS h;obtain⟨b,S2,h2,h⟩:=jS h;refine q x τ1 S1 b S2 hx h1 h2 (λhb=>?_) λhb=>?_
 ·subst hb;obtain⟨s2,S3,h3,h⟩:=jS h;obtain⟨⟨ps,τ2⟩,S4,h4,h⟩:=jS h;obtain⟨ws,S5,h5,h⟩:=jS h
  cases h
  exact⟨s2,S3,ps,τ2,S4,ws,h3,h4,h5,rfl⟩
 ·subst hb;exact h
abbrev X0 (K:au)(c:Ic):TI:=λσ H Q=>∃ρ S τ s S',Rel K ρ H S/\SR K ρ H τ σ/\c τ S=.ok s S'/\∀ρ' H' J,Ext ρ ρ' H H'->Rel K ρ' H' S'->JR K s J ρ' H'->Q J H'
section
variable {X:Cx}{pos:Pos}{tg iter tg2 iter2 elt e:aE}{ifs ifs2:List aE}{scope:Scope}{N:ap}{cap:List (bj)}{src src2:Ic}{g g2:Tg}{t t2:Te}{c:Ex}
def AI.i0{K:au}(hK:X.K=K)(h:AI X tg e src):PI X tg e (X0 K src):=λpins s σ H Q I ⟨ρ,S,τ,a,S',R,r,hc,q⟩=>h pins s σ H Q I ⟨ρ,S,τ,by rw[hK];exact R,by rw[hK];exact r,by rw[hc];exact λρ' H' J e R' v'=>q ρ' H' J e (by rw[<- hK];exact R')<|by rw[<- hK];exact v'⟩
def KA(hc:X.calm=true)(Sc:CpScope X scope N cap)(hi:AI X tg iter src)(hg:∀C s₀ H₀ ex,AG (jU X scope N C s₀ H₀ ex) tg g)(ht:∀C s₀ H₀ ex,UD (jU X scope N C s₀ H₀ ex) ifs t)(hi2:∀C s₀ H₀ ex,AI (jU X scope N C s₀ H₀ ex) tg2 iter2 src2)
  (hg2:∀C s₀ H₀ ex,AG (jU X scope N C s₀ H₀ ex) tg2 g2) (ht2:∀C s₀ H₀ ex,UD (jU X scope N C s₀ H₀ ex) ifs2 t2) (he:∀C s₀ H₀ ex,AE (jU X scope N C s₀ H₀ ex) elt c)
  (hs:∀x,foldedSetIterable iter X.env x=pure x:=by intro _;rfl) (hs2:∀env x,foldedSetIterable iter2 env x=pure x:=by intro _ _;rfl):AE X (.ListComp elt [⟨tg,iter,ifs,0⟩,⟨tg2,iter2,ifs2,0⟩] scope pos) (DH cap src g t src2 g2 t2 c):=by
 refine PE.imp (Rm hc Sc hi (g:=VC X.K g) (tc:=T7 X.K t) (wi2:=X0 X.K src2) (g2:=VC X.K g2) (tc2:=T7 X.K t2) (te:=V8 X.K c) (λC s₀ H₀ ex=>(hg C s₀ H₀ ex).g0 rfl) (λC s₀ H₀ ex=>ht C s₀ H₀ ex) (λC s₀ H₀ ex=>(hi2 C s₀ H₀ ex).i0 rfl) (λC s₀ H₀ ex=>(hg2 C s₀ H₀ ex).g0 rfl) (λC s₀ H₀ ex=>ht2 C s₀ H₀ ex) (λC s₀ H₀ ex=>(he C s₀ H₀ ex).e0 rfl) hs hs2) λσ H Q h9=>?_;z_go;refine⟨ρ,S,τ,R,r,iG (iM h) .refl λs S1 h1 ρ1 H1 J e1 R1 jr D hD=>?_⟩;obtain⟨ys,S2,hcg,h1⟩:=xO h1;obtain⟨hlen,h1⟩:=i6 h1;have h1:vX X ρ H Q (.ref S2.length) (S2++[.lst ys]):=h1;obtain⟨eD,RD⟩:=R1.im (u:=.lst []) hD;refine⟨Cq X.K ρ1 H1 D ys s.k (λ_ _=>True) λm i τ S zs=>nk s g t src2 g2 t2 c m i τ S=.ok zs S2,⟨s.k,.of rfl ⟨eD.toExt0,λa u na hu _=>by rw[iS na];exact hu,λa ha=>.inl ha,R1.EV hD,jA⟩ trivial RD (Qg ((r.ext e1).ext eD) cap) .nil hcg rfl⟩,?_⟩;intro i m σ3 H3 hw;refine hw.el λρ3 S3 τ3 acc zs accV hm o3 _ R3 r3 ac3 cg3 eys=>?_;clear hw
 cases m with
 | zero=>
  left;have cg3:(if s.fin S3 then Am.R.ok [] S3 else .no)=.ok zs S2:=cg3
  cases hf:s.fin S3 with
  | false=>rw[hf]at cg3;cases cg3
  | true=>
   rw[hf]at cg3
   cases cg3
   rw[cN]at eys;subst eys;refine⟨by rw[show i=s.k by lia];exact jr.stop _ H3 ρ3 o3.e0 R3 hf,?_⟩;obtain⟨RT,gt⟩:=R3.take o3.hD o3.nD ac3;exact h1 (ρ3++[D]) H3 _ (e1.trans<|o3.end hD) RT<|.ref gt
 | succ m=>
  right;refine zy cg3 λx τ4 S4 b S5 hx hg4 ht5 hT hF=>?_;have jg:=jr.go i S3 H3 ρ3 x o3.e0 R3 hx;refine⟨jg.1,λv H4 y=>?_⟩;obtain⟨e4,R4,v4⟩:=jg.2 v H4 y;refine⟨ρ3,S3,τ3,x,τ4,S4,R4,r3.ext e4,v4,hg4,λρ5 H5 σ5 e5 R5 r5=>⟨ρ5,S4,τ4,b,S5,R5,r5,ht5,λρ6 H6 e6 R6=>?_⟩⟩;have e36:=(e4.trans e5).trans e6
  cases b with
  | false=>
   dsimp only;rw[aJ bH];exact⟨m,cO _,.of () (o3.stay hD e36) trivial R6 (r5.ext e6) (ac3.ext e36) (hF rfl) eys⟩
  | true=>
   dsimp only;rw[aK rfl];obtain⟨s2,S6,ps,τ7,S7,ws,hs6,ci7,co7,ezs⟩:=hT rfl;refine⟨ρ6,S5,τ4,s2,S6,R6,r5.ext e6,hs6,λρ8 H8 J2 e8 R8 jr2=>?_⟩;have e38:=e36.trans e8;refine⟨Cq X.K ρ1 H1 D (acc++ps) s2.k (λρ' H'=>Ext0 ρ8 ρ' H8 H') λm i τ S qs=>pJ s2 g2 t2 c m i τ S=.ok (qs,τ7) S7,⟨s2.k,.of rfl (o3.stay hD e38) ⟨dU _,λ_ _ _ h=>h⟩ R8 (r5.ext<|e6.trans e8) (ac3.ext e38) ci7 rfl⟩,?_⟩;intro i2 m2 σ9 H9 hw;refine hw.el λρ9 S9 τ9 acc9 qs accV9 hm2 o9 e89 R9 r9 ac9 ci9 eqs=>?_;clear hw
   cases m2 with
   | zero=>
    left;have ci9:(if s2.fin S9 then Am.R.ok ([],τ9) S9 else .no)=.ok (qs,τ7) S7:=ci9
    cases hf:s2.fin S9 with
    | false=>rw[hf]at ci9;cases ci9
    | true=>
     rw[hf]at ci9
     cases ci9
     rw[cN]at eqs;subst eqs;exact⟨by rw[show i2=s2.k by lia];exact jr2.stop _ H9 ρ9 e89 R9 hf,m,cO _,.of () o9 trivial R9 r9 ac9 co7<|by rw[bG,<- ezs,eys]⟩
   | succ m2=>
    right;refine BS ci9 λx9 τ10 S10 b10 S11 hx9 hg10 ht11 hT9 hF9=>?_;have jg2:=jr2.go i2 S9 H9 ρ9 x9 e89 R9 hx9;refine⟨jg2.1,λv10 H10 y10=>?_⟩;obtain⟨e10,R10,v10'⟩:=jg2.2 v10 H10 y10;refine⟨ρ9,S9,τ9,x9,τ10,S10,R10,r9.ext e10,v10',hg10,λρ11 H11 σ11 e11 R11 r11=>⟨ρ11,S10,τ10,b10,S11,R11,r11,ht11,λρ12 H12 e12 R12=>?_⟩⟩;have e912:=(e10.trans e11).trans e12;have o12:=o9.stay hD e912;have e812:Ext0 ρ8 ρ12 H8 H12:=⟨e89.pre.trans e912.pre,λa u i h=>e912.im a u i<|e89.im a u i h⟩
    cases b10 with
    | false=>
     dsimp only;rw[aJ bH];exact⟨m2,cO _,.of () o12 e812 R12 (r11.ext e12) (ac9.ext e912) (hF9 rfl) eqs⟩
    | true=>
     dsimp only;rw[aK rfl];obtain⟨y,S13,us,he13,ci13,eus⟩:=hT9 rfl;refine⟨ρ12,S11,τ10,y,S13,R12,r11.ext e12,he13,λρ14 H14 w e14 R14 v14=>?_⟩;have o14:=o12.stay hD e14;obtain⟨ex15,R15⟩:=R14.out (ws:=accV9++[w]) o14.hD o14.nD;have l1:=ac9.length;refine⟨accV9,o14.hD,?_,m2,cO _,.of () (o14.put ex15) ⟨e812.pre.trans e14.pre,λa u i h=>ex15.im a u i<|e14.im a u i<|e812.im a u i h⟩ R15 ((r11.ext<|e12.trans e14).j8 ex15) (AVs.j8 ex15<|(ac9.ext<|e912.trans e14).append<|.one v14) ci13 ?_⟩
     ·have:((acc++ps)++ws).length<=sizeLine:=by rw[bG,<- ezs,eys];exact hlen
      rw[<- eqs,eus,aX,aX,bz]at this
      lia
     ·rw[bG,<- eqs,eus];rfl
end
abbrev WC (F:ad->iI->R A)(d:p5):Ex:=λτ S=>(d τ S).bind λas S1=>F as S1
abbrev Xx:ar:=[.type "ValueError",.type "Exception",.type "BaseException",.type "object"]
abbrev Nf:List (Str ⊕ Ex)->ad->iI->R Unit
 | [],_,S=>.ok Unit.unit S
 | .inl _::ps,τ,S=>Nf ps τ S
 | .inr e::ps,τ,S=>(e τ S).bind λv S1=>match v with
  | .int i=>gd (i.natAbs.log2<64) (Nf ps τ S1)
  | _=>.no
abbrev Ra (c:Str)(ps:List<|Str ⊕ Ex):Sm:=λτ S=>.of (Nf ps τ S) λ_ S1=>.ex c S1
abbrev Qy (i:Nat):RS->RS
 | .nx τ S=>.nx (τ.set i .unb) S
 | .bk τ S=>.bk (τ.set i .unb) S
 | .ct τ S=>.ct (τ.set i .unb) S
 | .rt a S=>.rt a S
 | _=>.no
abbrev Vz (i n:Nat)(cs:ap)(c d:Sm):Sm:=λτ S=>match c τ S with
 | .ex x S1=>if x∈cs then Qy i (d ((List.replicate n .unb).set i<|.exn x) S1)else .no
 | r=>r
abbrev Xs (f:Str->bi)(c:Ex):Ex:=λτ S=>(c τ S).bind λv S1=>match v with
 | .exn x=>opt (f x) λb=>.ok (.bl b) S1
 | _=>.no
structure ExcK (K:au)(U:ak)(c:Str)(C:ak):Prop where
 n:Wv K c C
 q:PySem.W.excIn K C Xx "ValueError.__new__" = true
 r:L2.mroIn K C=some (.ref U::Xx)
 x:XCls K C
 cl:(PySem.W.clsIn K C).isSome=true
 v:PySem.W.kitOne K (.ref C) (.type "ValueError")=some true
abbrev Yl (tb:List<|Str×Bool):Str->bi:=λx=>tb.lookup x
abbrev Vy (F:ad->iI->R A)(d:p5):Ex:=λτ S=>match d τ S with
 | .ok as S1=>F as S1
 | _=>.no
section
variable {d:p5}
abbrev Vt (t:Te)(c d:Sm):Sm:=λτ S=>match t τ S with
 | .ok true S1=>c τ S1
 | .ok false S1=>d τ S1
 | _=>.no
end
abbrev QC (i:Nat)(cs:ap)(c d:Sm):Sm:=λτ S=>match c τ S with
 | .ex x S1=>if x∈cs then Qy i (d (τ.set i<|.exn x) S1)else .no
 | r=>r
abbrev V9:Sm:=λ_ _=>.no
def KW{X:Cx}{st:aF}:AS X st V9:=PS.imp K1 λD σ H ⟨ρ,S,τ,R,r,h⟩=>h.elim
def G1{K:au}{H:Hp}{a:ak}{ns:ae}{F:ad->iI->R A}(hO:N1 H)(hS:nE K H a<|ns.map V.int)(h:∃S',F [.frz<|ns.map .int] []=.ok (.bl true) S'):pV K 1 F [.ref a] H (λv _=>v=.bl true) λ_ _ _=>False:=by
 obtain⟨S',h⟩:=h;have fz:Fz K H a (ns.map V.int):=by
  rcases hS with(h|⟨o,h⟩)|h
  ·rcases hO a with z|⟨ob,xs,z⟩
   ·rw[h]at z;cases z
   ·rw[h]at z;cases z
  ·exact .inl ⟨o,h⟩
  ·exact .inr h
 exact⟨rfl,[],[],_,_,S',⟨rfl,fC,λn a o h=>by simp at h⟩,.cons (.frz fz<|qw ns) .nil,h,λρ' H' v _ _ hv=>yR hv⟩
section
variable {P:aj}{w:ah}{K:au}{mg:Str->bb}{base:aq}{f:ak}{fd:FuncData}{ps:ap}{k n:Nat}
def RB(h:n=ps.length):FnOk P w K mg base nX k f fd ps (pV K n λ_ _=>.no):=
 ⟨λ_ _ _ _ z=>z.1.trans h,λ_ _ _ _ _ _ _ _ _ _ _ _ _ z=>by obtain⟨_,_,_,_,_,_,_,_,e,_⟩:=z;cases e⟩
end
def Pj{P:ar->Prop}(h:∀a0,P [a0]):∀us:ar,us.length=1->P us
 | [_],_=>h _
def EG{P:ar->Prop}(h:∀a0 a1,P [a0,a1]):∀us:ar,us.length=2->P us
 | [_,_],_=>h _ _
def Cd{n:Nat}{us:ar}(h:us.length=n+1):∃a t,us=a::t/\t.length=n:=by
 cases us with
 | nil=>simp at h
 | cons a t=>exact⟨a,t,rfl,by simpa using h⟩
def TZ{P:ar->Prop}(h:∀a0 a1 a2,P [a0,a1,a2]):∀us:ar,us.length=3->P us:=λus e=>by
 obtain⟨a0,t0,rfl,e0⟩:=Cd e;obtain⟨a1,t1,rfl,e1⟩:=Cd e0;obtain⟨a2,t2,rfl,e2⟩:=Cd e1
 cases c9.mp e2
 exact h _ _ _
def Yh{P:ar->Prop}(h:∀a0 a1 a2 a3 a4,P [a0,a1,a2,a3,a4]):∀us:ar,us.length=5->P us:=λus e=>by
 obtain⟨a0,t0,rfl,e0⟩:=Cd e;obtain⟨a1,t1,rfl,e1⟩:=Cd e0;obtain⟨a2,t2,rfl,e2⟩:=Cd e1;obtain⟨a3,t3,rfl,e3⟩:=Cd e2;obtain⟨a4,t4,rfl,e4⟩:=Cd e3
 cases c9.mp e4
 exact h _ _ _ _ _
end Am
namespace Am
open PySem L2
section
variable {α β:Type}{a b:A}{S S1:iI}{τ:ad}{x:α}
@[simp]def R.kX {f:α->iI->R β}:(R.ok x S).bind f=f x S:=rfl
@[simp]def R.Eb {f:α->iI->R β}{c:Str}:(R.ex c S:R α).bind f=.ex c S:=rfl
@[simp]def R.mJ {f:α->iI->R β}:(R.ok x S).lU f=f x S:=rfl
@[simp]def RS.of_ok {f:α->iI->RS}:RS.of (R.ok x S) f=f x S:=rfl
@[simp]def RS.Qe {f:α->iI->RS}{c:Str}:RS.of (R.ex c S:R α) f=.ex c S:=rfl
@[simp]def jK {f:β->R α}{y:β}:opt (some y) f=f y:=rfl
@[simp]def Ek {r:R α}:gd True r=r:=aK trivial
theorem j4{c:Prop}[Decidable c]{r:R α}(h:c):gd c r=r:=aK h
@[simp]def E7 {i:Nat}:iD i τ S=bif (τ.getD i .unb).m5 then .no else .ok (τ.getD i .unb) S:=by unfold iD;cases(τ.getD i .unb).m5<;>rfl
@[simp]def GB {xs:ad}:A.m5 (.tup xs)=false:=rfl
@[simp]def Gh {xs:ad}:A.m5 (.frz xs)=false:=rfl
@[simp]def Gi {i:Int}:A.m5 (.int i)=false:=rfl
@[simp]def KI {i:Bool}:A.m5 (.bl i)=false:=rfl
@[simp]def Er {i:Str}:A.m5 (.str i)=false:=rfl
@[simp]def EC {i:Nat}:A.m5 (.ref i)=false:=rfl
@[simp]def GC:A.m5 .non=false:=rfl
@[simp]def FL {i j:Int}:A.m5 (.rng i j)=false:=rfl
@[simp]def FP {c:Str}:A.m5 (.exn c)=false:=rfl
@[simp]def Qx:eC a τ S=.ok a S:=rfl
abbrev Ug (f:A->A->iI->R A)(cb:Ex)(τ:ad)(a:A)(S:iI):R A:=(cb τ S).bind<|f a
@[simp]def D5 {f:A->A->iI->R A}{cb:Ex}:Ug f cb τ a S=(cb τ S).bind (f a):=rfl
@[simp]def F_ {f:A->A->iI->R A}{ca cb:Ex}:iJ f ca cb τ S=(ca τ S).bind (Ug f cb τ):=rfl
@[simp]def I_ {f:A->iI->R A}{ca:Ex}:M4 f ca τ S=(ca τ S).bind f:=rfl
@[simp]def E_ {c:Ex}:K4 c τ S=(c τ S).bind λa S1=>opt (a.Ub S1) λb=>.ok b S1:=rfl
abbrev aB (a:A)(S:iI):R Bool:=match a with
 | .bl b=>.ok b S
 | _=>.no
@[simp]def F6 {b:Bool}:aB (.bl b) S=.ok b S:=rfl
@[simp]def DB {c:Ex}:mX c τ S=(c τ S).bind aB:=rfl
@[simp]def D_ {c:Te}:Iw c τ S=(c τ S).bind λb S1=>.ok (!b) S1:=rfl
abbrev Rq (d:Te)(τ:ad)(b:Bool)(S:iI):R Bool:=match b with|true=>d τ S|false=>.ok false S
abbrev W0 (d:Te)(τ:ad)(b:Bool)(S:iI):R Bool:=match b with|true=>.ok true S|false=>d τ S
@[simp]def Ja {d:Te}:Rq d τ true S=d τ S:=rfl
@[simp]def Mz {d:Te}:Rq d τ false S=.ok false S:=rfl
@[simp]def Pw {d:Te}:W0 d τ true S=.ok true S:=rfl
@[simp]def Pz {d:Te}:W0 d τ false S=d τ S:=rfl
@[simp]def Gy {c d:Te}:v_ c d τ S=(c τ S).bind (Rq d τ):=rfl
@[simp]def Lu {c d:Te}:M5 c d τ S=(c τ S).bind (W0 d τ):=rfl
@[simp]def Ga:zQ τ S=.ok true S:=rfl
abbrev Jl (d:Ex)(τ:ad)(a:A)(S:iI):R A:=match a with | .bl true=>d τ S | .bl false=>.ok (.bl false) S|_=>.no
abbrev TV (d:Ex)(τ:ad)(a:A)(S:iI):R A:=match a with | .bl true=>.ok (.bl true) S | .bl false=>d τ S|_=>.no
@[simp]def Ed {d:Ex}:Jl d τ (.bl true) S=d τ S:=rfl
@[simp]def Ey {d:Ex}:Jl d τ (.bl false) S=.ok (.bl false) S:=rfl
@[simp]def Ms {d:Ex}:TV d τ (.bl true) S=.ok (.bl true) S:=rfl
@[simp]def MC {d:Ex}:TV d τ (.bl false) S=d τ S:=rfl
@[simp]def EM {c d:Ex}:JO c d τ S=(c τ S).bind (Jl d τ):=by
 unfold JO
 cases c τ S with
 | ok a S1=>cases a<;>first|rfl|(rename_i b;cases b<;>rfl)
 | _=>rfl
@[simp]def Ls {c d:Ex}:XZ c d τ S=(c τ S).bind (TV d τ):=by
 unfold XZ
 cases c τ S with
 | ok a S1=>cases a<;>first|rfl|(rename_i b;cases b<;>rfl)
 | _=>rfl
abbrev Qz (a:A)(S:iI):R A:=match a with | .bl b=>.ok (.bl !b) S|_=>.no
@[simp]def A6 {b:Bool}:Qz (.bl b) S=.ok (.bl !b) S:=rfl
@[simp]def Et {c:Ex}:R0 c τ S=(c τ S).bind Qz:=rfl
abbrev Si (c d:Ex)(τ:ad)(b:Bool)(S:iI):R A:=match b with|true=>c τ S|false=>d τ S
@[simp]def LO {c d:Ex}:Si c d τ true S=c τ S:=rfl
@[simp]def LK {c d:Ex}:Si c d τ false S=d τ S:=rfl
@[simp]def Kv {t:Te}{c d:Ex}:Yy t c d τ S=(t τ S).bind (Si c d τ):=rfl
@[simp]def Fc:iQ τ S=.ok [] S:=rfl
abbrev CZ (a:A)(as:ad)(S:iI):R (ad):=.ok (a::as) S
abbrev P8 (d:p5)(τ:ad)(a:A)(S:iI):R (ad):=(d τ S).bind<|CZ a
@[simp]def yD {as:ad}:CZ a as S=.ok (a::as) S:=rfl
@[simp]def A5 {d:p5}:P8 d τ a S=(d τ S).bind (CZ a):=rfl
@[simp]def CB {c:Ex}{d:p5}:iE c d τ S=(c τ S).bind (P8 d τ):=rfl
@[simp]def FJ {d:p5}:mD d τ S=(d τ S).bind λas S1=>gd (as.length<=sizeLine) (.ok (.tup as) S1):=rfl
@[simp]def FQ {d:p5}:sW d τ S=(d τ S).bind newL:=rfl
theorem kg{as:ad}(h:as.length<=16777216):newL as S=.ok (.ref S.length) (S++[.lst as]):=j4<|by rw[cR];exact h
@[simp]def Bq {f:ad->iI->R A}{d:p5}:jf f d τ S=(d τ S).bind f:=rfl
abbrev WY (r:R A):R A:=match r with
 | .ok a S=>.ok a S
 | _=>.no
@[simp]def Kw:WY (.ok a S)=.ok a S:=rfl
abbrev X4 (f:ad->iI->R A)(as:ad)(S:iI):R A:=WY<|f as S
@[simp]def LW {f:ad->iI->R A}{as:ad}:X4 f as S=WY (f as S):=rfl
@[simp]def JL {f:ad->iI->R A}{d:p5}:eFn f d τ S=(d τ S).bind (X4 f):=rfl
@[simp]def Pp {g:A->iI->R A}:f1 g [a] S=g a S:=rfl
@[simp]def P1 {g:A->A->iI->R A}:f2 g [a,b] S=g a b S:=rfl
abbrev Ro (h:Pt)(τ:ad)(a:A)(l:bd)(S:iI):R A:=(h τ S).bind<|CL a l
abbrev XG (l h:Pt)(τ:ad)(a:A)(S:iI):R A:=(l τ S).bind<|Ro h τ a
@[simp]def Ft {h:Pt}{l:bd}:Ro h τ a l S=(h τ S).bind (CL a l):=rfl
@[simp]def Mp {l h:Pt}:XG l h τ a S=(l τ S).bind (Ro h τ a):=rfl
@[simp]def LI {c:Ex}{l h:Pt}:RI c l h τ S=(c τ S).bind (XG l h τ):=rfl
@[simp]def Cu:EK τ S=.ok none S:=rfl
abbrev Xy (a:A)(S:iI):R (bd):=match a with
 | .int i=>.ok (some i) S
 | _=>.no
@[simp]def Ef {i:Int}:Xy (.int i) S=.ok (some i) S:=rfl
@[simp]def BL {c:Ex}:se c τ S=(c τ S).bind Xy:=rfl
abbrev RA (f:A->ad->iI->R A)(d:p5)(τ:ad)(o:A)(S:iI)(_:ad):R A:=(d τ S).bind<|f o
abbrev XJ (f:A->ad->iI->R A)(d:p5)(τ:ad)(o:A)(S:iI):R A:=opt (o.lst? S)<|RA f d τ o S
@[simp]def D9 {f:A->ad->iI->R A}{d:p5}{xs:ad}:RA f d τ a S xs=(d τ S).bind (f a):=rfl
@[simp]def Lh {f:A->ad->iI->R A}{d:p5}:XJ f d τ a S=opt (a.lst? S) (RA f d τ a S):=rfl
@[simp]def K9 {f:A->ad->iI->R A}{c:Ex}{d:p5}:VA f c d τ S=(c τ S).bind (XJ f d τ):=rfl
@[simp]def Fb {f:A->ad->iI->R A}{c:Ex}:WU f c τ S=(c τ S).bind λo S1=>opt (o.lst? S1) λ_=>f o [] S1:=rfl
@[simp]def lst?_ref {n:Nat}:A.lst? S (.ref n)=iH S n:=rfl
abbrev RS.seq (r:RS)(d:Sm):RS:=match r with
 | .nx τ S=>d τ S
 | r=>r
@[simp]def RS.J8 {d:Sm}:RS.seq (.nx τ S) d=d τ S:=rfl
@[simp]def RS.L6 {d:Sm}:RS.seq (.rt a S) d=.rt a S:=rfl
@[simp]def RS.JQ {d:Sm}{c:Str}:RS.seq (.ex c S) d=.ex c S:=rfl
@[simp]def RS.KN {d:Sm}:RS.seq (.bk τ S) d=.bk τ S:=rfl
@[simp]def RS.Kc {d:Sm}:RS.seq (.ct τ S) d=.ct τ S:=rfl
@[simp]def GP {c d:Sm}:je c d τ S=RS.seq (c τ S) d:=by unfold je RS.seq;cases c τ S<;>rfl
@[simp]def Gk:mK τ S=.nx τ S:=rfl
@[simp]def zc:SI τ S=.bk τ S:=rfl
@[simp]def A3:Vs τ S=.ct τ S:=rfl
@[simp]def Br {e:Ex}:vf e τ S=RS.of (e τ S) λ_ S1=>.nx τ S1:=rfl
@[simp]def GD {e:Ex}:jG e τ S=RS.of (e τ S) .rt:=rfl
@[simp]def BR:IZ τ S=.rt .non S:=rfl
abbrev V7 (c d:Sm)(τ:ad)(b:Bool)(S:iI):RS:=match b with|true=>c τ S|false=>d τ S
@[simp]def PV {c d:Sm}:V7 c d τ true S=c τ S:=rfl
@[simp]def Ql {c d:Sm}:V7 c d τ false S=d τ S:=rfl
@[simp]def Ii {t:Te}{c d:Sm}:tR t c d τ S=RS.of (t τ S) (V7 c d τ):=rfl
abbrev UX (g:Tg)(τ:ad)(a:A)(S:iI):RS:=RS.of (g a τ S) .nx
@[simp]def Fj {g:Tg}:UX g τ a S=RS.of (g a τ S) .nx:=rfl
@[simp]def GS {e:Ex}{g:Tg}:jn e g τ S=RS.of (e τ S) (UX g τ):=rfl
@[simp]def MY {i:Nat}:jB i a τ S=.ok (τ.set i a) S:=rfl
abbrev RH (a o:A)(τ:ad)(i:A)(S:iI):R (ad):=(BJ o i a S).bind λ_ S3=>.ok τ S3
abbrev X7 (ci:Ex)(τ:ad)(a o:A)(S:iI):R (ad):=(ci τ S).bind<|RH a o τ
@[simp]def FE {o i:A}:RH a o τ i S=(BJ o i a S).bind λ_ S3=>.ok τ S3:=rfl
@[simp]def K6 {ci:Ex}{o:A}:X7 ci τ a o S=(ci τ S).bind (RH a o τ):=rfl
@[simp]def JW {co ci:Ex}:SO co ci a τ S=(co τ S).bind (X7 ci τ a):=rfl
@[simp]def LA {n:Nat}{gs:M8}{xs:ad}:AM n gs (.tup xs) τ S=gd (xs.length=n) (gs xs τ S):=rfl
@[simp]def Ky:Bx [] τ S=.ok τ S:=rfl
@[simp]def IG {g:Tg}{gs:M8}{as:ad}:rV g gs (a::as) τ S=(g a τ S).bind (gs as):=rfl
abbrev XS (i j:Nat)(τ:ad)(as:ad)(S:iI):RS:=match as with
 | [a,b]=>.nx ((τ.set i a).set j b) S
 | _=>.no
@[simp]def JP {i j:Nat}:XS i j τ [a,b] S=.nx ((τ.set i a).set j b) S:=rfl
@[simp]def FA {i j:Nat}{c:p5}:Xc i j c τ S=RS.of (c τ S) (XS i j τ):=rfl
abbrev Mq (i:Nat)(τ:ad)(c:A)(S:iI):RS:=.nx (τ.set i c) S
abbrev UR (i:Nat)(f:A->A->iI->R A)(τ:ad)(b:A)(S:iI):RS:=.of (f (τ.getD i .unb) b S)<|Mq i τ
@[simp]def A8 {i:Nat}:Mq i τ a S=.nx (τ.set i a) S:=rfl
@[simp]def F8 {i:Nat}{f:A->A->iI->R A}:UR i f τ a S=.of (f (τ.getD i .unb) a S) (Mq i τ):=rfl
@[simp]def EF {i:Nat}{f:A->A->iI->R A}{e:Ex}:Im i f e τ S=bif (τ.getD i .unb).m5 then .no else .of (e τ S) (UR i f τ):=by
 unfold Im;cases(τ.getD i .unb).m5<;>rfl
abbrev WS (o i:A)(τ:ad)(z:A)(S:iI):RS:=.of (BJ o i z S) λ_ S6=>.nx τ S6
abbrev We (f:A->A->iI->R A)(o i x:A)(τ:ad)(y:A)(S:iI):RS:=.of (f x y S)<|WS o i τ
abbrev WO (ce:Ex)(f:A->A->iI->R A)(o i:A)(τ:ad)(x:A)(S:iI):RS:=.of (ce τ S)<|We f o i x τ
abbrev Xg (ce:Ex)(f:A->A->iI->R A)(o:A)(τ:ad)(i:A)(S:iI):RS:=.of (J5 o i S)<|WO ce f o i τ
abbrev XD (ci ce:Ex)(f:A->A->iI->R A)(τ:ad)(o:A)(S:iI):RS:=.of (ci τ S)<|Xg ce f o τ
@[simp]def MN {o i:A}:WS o i τ a S=.of (BJ o i a S) λ_ S6=>.nx τ S6:=rfl
@[simp]def L3 {f:A->A->iI->R A}{o i x:A}:We f o i x τ a S=.of (f x a S) (WS o i τ):=rfl
@[simp]def Jh {ce:Ex}{f:A->A->iI->R A}{o i:A}:WO ce f o i τ a S=.of (ce τ S) (We f o i a τ):=rfl
@[simp]def MZ {ce:Ex}{f:A->A->iI->R A}{o:A}:Xg ce f o τ a S=.of (J5 o a S) (WO ce f o a τ):=rfl
@[simp]def MJ {ci ce:Ex}{f:A->A->iI->R A}:XD ci ce f τ a S=.of (ci τ S) (Xg ce f a τ):=rfl
@[simp]def Ba {co ci ce:Ex}{f:A->A->iI->R A}:wB co ci ce f τ S=RS.of (co τ S) (XD ci ce f τ):=rfl
abbrev RS.end (r:RS):R A:=match r with
 | .rt a S'=>.ok a S'
 | .nx _ S'=>.ok .non S'
 | .ex c S'=>.ex c S'
 | _=>.no
@[simp]def RS.KH:RS.end (.rt a S)=.ok a S:=rfl
@[simp]def RS.LV:RS.end (.nx τ S)=.ok .non S:=rfl
@[simp]def RS.J_ {c:Str}:RS.end (.ex c S)=.ex c S:=rfl
theorem vq {N:ap}{m:Sm}{as:ad}:jT N m as S=RS.end (m (as++List.replicate (N.length-as.length) .unb) S):=by
 unfold jT RS.end;cases m (as++List.replicate (N.length-as.length) .unb) S<;>rfl
@[simp]def Ig {i j:Int}:jq (.int i) (.int j) S=.ok (.int<|i+j) S:=rfl
@[simp]def J0 {i j:Int}:aSub (.int i) (.int j) S=.ok (.int<|i-j) S:=rfl
@[simp]def J7 {i j:Int}:Ht (.int i) (.int j) S=.ok (.int<|i+j) S:=rfl
theorem FT{i j:Int}(h:-18446744073709551616<i)(h':i<18446744073709551616):uz (.int i) (.int j) S=.ok (.int<|i * j) S:=j4<|by unfold FI;simp;left;exact⟨by omega,by omega⟩
def Mn{i j:Int}(h:0<j)(h':j<1073741824):Gu (.int i) (.int j) S=.ok (.int<|i / j) S:=j4 ⟨h,()⟩
def zd{i j:Int}(h:0<j):x_ (.int i) (.int j) S=.ok (.int<|i % j) S:=j4 h
@[simp]def BI {i j:Int}:Au (.int i) (.int j) S=.ok (.bl<|decide<|i<j) S:=rfl
@[simp]def Qu {i j:Int}:Sy (.int i) (.int j) S=.ok (.bl<|decide<|i<=j) S:=rfl
@[simp]def Qp {i j:Int}:Dl (.int i) (.int j) S=.ok (.bl<|decide<|j<i) S:=rfl
@[simp]def PD {i j:Int}:V0 (.int i) (.int j) S=.ok (.bl<|decide<|j<=i) S:=rfl
@[simp]def QD {i j:Bool}:Ib false (.bl i) (.bl j) S=.ok (.bl<|i == j) S:=rfl
@[simp]def JK {i j:Bool}:Ib true (.bl i) (.bl j) S=.ok (.bl<|i != j) S:=rfl
@[simp]def Km {i:Int}:CQ (.int i) S=.ok (.int<|-i) S:=rfl
@[simp]def Mu {xs:ad}:mz (.tup xs) S=.ok (.int xs.length) S:=rfl
@[simp]def Lz {xs:ad}:mz (.frz xs) S=.ok (.int xs.length) S:=rfl
@[simp]def Mt {n:Nat}:mz (.ref n) S=opt (iH S n) λxs=>.ok (.int xs.length) S:=rfl
@[simp]def MM {i:Int}:WK (.int i) S=.ok (.int<|if i<0 then -i else i) S:=rfl
@[simp]def GK {i j:Int}:KJ (.int i) (.int j) S=.ok (.int<|if j>i then j else i) S:=rfl
@[simp]def EL {i j:Int}:IT (.int i) (.int j) S=.ok (.int<|if j<i then j else i) S:=rfl
@[simp]def Ec {i:Int}:CC (.int i) S=.ok (.int i) S:=rfl
@[simp]def GO {i:Bool}:CC (.bl i) S=.ok (.int<|if i then 1 else 0) S:=rfl
@[simp]def yY {i j:Int}:zS (.int i) (.int j) S=.ok (.rng i j) S:=rfl
@[simp]def Qs {xs:ad}{i:Int}:pP (.tup xs) (.int i) S=opt (nV xs i) λx=>.ok x S:=rfl
@[simp]def PN {xs:ad}{i:Int}:pP (.frz xs) (.int i) S=opt (nV xs i) λx=>.ok x S:=rfl
@[simp]def P6 {n:Nat}{i:Int}:pP (.ref n) (.int i) S=opt (iH S n) λxs=>opt (nV xs i) λx=>.ok x S:=rfl
@[simp]def L_ {n:Nat}{k:Int}:BJ (.ref n) (.int k) a S=opt (iH S n) λxs=>opt (yx xs.length k) λj=>.ok Unit.unit (S.set n<|.lst<|xs.set j a):=rfl
@[simp]def JB {n:Nat}{i:Int}:J5 (.ref n) (.int i) S=opt (iH S n) λxs=>gd (0<=i) (opt (xs[i.toNat]?) λx=>.ok x S):=rfl
theorem Hi{i j:Int}(h:yH i j):wc (.rng i j) S=.ok (.ref S.length) (S++[.lst<|(i9 i j).map .int]):=j4 h
@[simp]def E8 {xs:ad}:wc (.tup xs) S=.ok (.ref S.length) (S++[.lst xs]):=rfl
@[simp]def D4 {xs:ad}:wc (.frz xs) S=.ok (.ref S.length) (S++[.lst xs]):=rfl
@[simp]def E2 {n:Nat}:wc (.ref n) S=opt (iH S n) λxs=>.ok (.ref S.length) (S++[.lst xs]):=rfl
@[simp]def Ca {xs:ad}:qP (.tup xs) S=.ok (.tup xs) S:=rfl
@[simp]def Co {n:Nat}:qP (.ref n) S=opt (iH S n) λxs=>.ok (.tup xs) S:=rfl
@[simp]def Lr {xs:ad}:Hl (.tup xs) S=.ok (.tup xs.reverse) S:=rfl
@[simp]def L8 {n:Nat}:Hl (.ref n) S=opt (iH S n) λxs=>.ok (.ref S.length) (S++[.lst xs.reverse]):=rfl
@[simp]def PZ {n:Nat}{l u:bd}:CL (.ref n) l u S=opt (iH S n) λxs=>.ok (.ref S.length) (S++[.lst<|uY xs l u]):=rfl
@[simp]def xD {n:Nat}:vW (.ref n) [a] S=opt (iH S n) λxs=>gd (xs.length<sizeLine) (.ok .non<|S.set n<|.lst<|xs++[a]):=rfl
@[simp]def L4 {b:Bool}:A.Ub (.bl b) S=some b:=rfl
@[simp]def Fv {i:Int}:A.Ub (.int i) S=some (i != 0):=rfl
theorem LF{o:O}:(S++[o])[S.length]?=some o:=by simp
@[simp]def jj {xs:ad}:iH (S++[.lst xs]) S.length=some xs:=qL LF
theorem rQ{o:O}{n:Nat}(h:iH S n=some xs):iH (S++[o]) n=some xs:=by
 have h':=iV h;exact qL<|by rw[bh (aM.mp h').1];exact h'
def qZ{n:Nat}(h:iH S n=some xs):n<S.length:=(aM.mp<|iV h).1
def nh{n:Nat}(h:n<S.length):iH (S.set n<|.lst ys) n=some ys:=qL<|bE h
def nQ{n:Nat}(h:n≠m):iH (S.set n<|.lst ys) m=iH S m:=by unfold iH;rw[bL h]
def Aq{xs:ad}{i:Int}{k:Nat}{x:A}(h:i=k)(hx:xs[k]?=some x):nV xs i=some x:=by rw[h];exact NQ hx
def uN{n:Nat}{i:Int}{k:Nat}(h:i=k)(hk:k<n):yx n i=some k:=by
 subst h;unfold yx;rw[aK (),aK ()];simp
end
structure Kp (b:Nat->Prop)(S S':iI):Prop where
 len:S.length<=S'.length
 obj:∀(n:Nat) (o:O),¬b n->S[n]?=some o->S'[n]?=some o
meta abbrev oq:=Kp λ_=>False
def Kp.lst{b:Nat->Prop}(h:Kp b S S')(n:Nat)(xs:ad)(hb:¬b n)(e:iH S n=some xs):iH S' n=some xs:=qL<|h.obj n _ hb<|iV e
def Kp.refl{b:Nat->Prop}:Kp b S S:=⟨aQ _,λ_ _ _ h=>h⟩
def Kp.trans{b:Nat->Prop}(h:Kp b S S1)(h':Kp b S1 S2):Kp b S S2:=⟨bP h.len h'.len,λn xs hb e=>h'.obj n xs hb<|h.obj n xs hb e⟩
def wW{S:iI}{n:Nat}(e:S[n]?=some o):n<S.length:=(aM.mp e).1
def Kp.lay{b:Nat->Prop}{o:O}(h:Kp b S S1):Kp b S (S1++[o]):=⟨bP h.len<|by simp,λn xs hb e=>by
 have:=h.obj n xs hb e;rw[bh<|wW this];exact this⟩
def Kp.Mr{b:Nat->Prop}{S S1:iI}(h:Kp b S S1)(hm:b m\/S.length<=m):Kp b S (S1.set m o):=⟨by rw[bO];exact h.len,λn xs hb e=>by
 have:m≠n:=λz=>by
  subst z
  rcases hm with z|z
  ·exact hb z
  ·exact absurd (wW e) ()
 rw[bL this];exact h.obj n xs hb e⟩
def Kp.set{b:Nat->Prop}{S S1:iI}(h:Kp b S S1)(hm:b m\/S.length<=m):Kp b S (S1.set m<|.lst ys):=h.Mr hm
def Kp.mono{b c:Nat->Prop}{S:iI}(h:Kp b S S1)(hb:∀n,n<S.length->b n->c n):Kp c S S1:=⟨h.len,λn xs hc e=>h.obj n xs (λz=>hc<|hb n (wW e) z) e⟩
def Kp.of0{b:Nat->Prop}(h:oq S S1):Kp b S S1:=h.mono λ_ _ z=>z.elim
def Kp.old{b c:Nat->Prop}{S:iI}(h:Kp b S S1)(h':Kp c S1 S2)(hc:∀n,n<S.length->¬b n->¬c n):Kp b S S2:=⟨bP h.len h'.len,λn xs hb e=>h'.obj n xs (hc n (wW e) hb)<|h.obj n xs hb e⟩
theorem ug{t:Te}{c:Sm}(Inv:ad->iI->Prop)(μ:ad->iI->Nat)(Post:RS->Prop)
  (h:∀τ S,Inv τ S->(∃S1,t τ S=.ok false S1/\Post (.nx τ S1))\/(∃S1,t τ S=.ok true S1/\((∃τ' S',c τ S1=.nx τ' S'/\Inv τ' S'/\μ τ' S'<μ τ S)\/(∃a S',c τ S1=.rt a S'/\Post (.rt a S'))))) :
  ∀n τ S,Inv τ S->μ τ S<n->Post (lG t c n τ S)
 | 0,_,_,_,hn=>absurd hn (d_ _)
 | n+1,τ,S,hi,hn=>by
  unfold lG
  rcases h τ S hi with⟨S1,e,q⟩|⟨S1,e,⟨τ',S',e2,hi',hm⟩|⟨a,S',e2,q⟩⟩
  ·rw[e];exact q
  ·rw[e];show Post (match c τ S1 with
    | .nx τ' S'=>lG t c n τ' S'
    | .ct τ' S'=>lG t c n τ' S'
    | .bk τ' S'=>.nx τ' S'
    | r=>r)
   rw[e2];exact ug Inv μ Post h n τ' S' hi' ()
  ·rw[e];show Post (match c τ S1 with
    | .nx τ' S'=>lG t c n τ' S'
    | .ct τ' S'=>lG t c n τ' S'
    | .bk τ' S'=>.nx τ' S'
    | r=>r)
   rw[e2];exact q
theorem z9{s:Src}{g:Tg}{c:Sm}(Inv:Nat->ad->iI->Prop)(Post:RS->Prop)
  (step:∀i τ S,i<s.k->Inv i τ S->∃x τ1 S1,s.get i S=some x/\g x τ S=.ok τ1 S1/\((∃τ' S',c τ1 S1=.nx τ' S'/\Inv (i+1) τ' S')\/(∃a S',c τ1 S1=.rt a S'/\Post (.rt a S'))))
  (fin:∀τ S,Inv s.k τ S->s.fin S=true/\Post (.nx τ S)):∀k i τ S,k+i=s.k->Inv i τ S->Post (oA s g c k i τ S)
 | 0,i,τ,S,hk,hi=>by
  have:i=s.k:=()
  subst this;obtain⟨hf,q⟩:=fin τ S hi;unfold oA;rw[aK hf];exact q
 | k+1,i,τ,S,hk,hi=>by
  obtain⟨x,τ1,S1,hx,hg,h⟩:=step i τ S () hi;unfold oA;rw[hx];show Post (RS.of (g x τ S) λτ1 S1=>match c τ1 S1 with
   | .nx τ' S'=>oA s g c k (i+1) τ' S'
   | .ct τ' S'=>oA s g c k (i+1) τ' S'
   | .bk τ' S'=>.nx τ' S'
   | r=>r)
  rw[hg];show Post (match c τ1 S1 with
   | .nx τ' S'=>oA s g c k (i+1) τ' S'
   | .ct τ' S'=>oA s g c k (i+1) τ' S'
   | .bk τ' S'=>.nx τ' S'
   | r=>r)
  rcases h with⟨τ',S',e,hi'⟩|⟨a,S',e,q⟩
  ·rw[e];exact z9 Inv Post step fin k (i+1) τ' S' () hi'
  ·rw[e];exact q
def rH{lo hi:Int}{c:Sm}{src:Ic}{τ:ad}(hs:src τ S=.ok (j0 lo hi) S1)(Inv:Nat->ad->iI->Prop)(Post:RS->Prop)(h0:Inv 0 τ S1)
  (step:∀(i:Nat) τ S,(i:Int)<hi-lo->Inv i τ S->(∃τ' S',c (τ.set j<|.int<|lo+i) S=.nx τ' S'/\Inv (i+1) τ' S')\/(∃a S',c (τ.set j<|.int<|lo+i) S=.rt a S'/\Post (.rt a S')))
  (fin:∀τ S,Inv (hi-lo).toNat τ S->Post (.nx τ S)):Post (mE src (jB j) c τ S):=by
 unfold mE;rw[hs];refine z9 (s:=j0 lo hi) Inv Post (λi τ S hi' h=>?_) (λτ S h=>⟨rfl,fin τ S h⟩) _ 0 τ S1 rfl h0;have hi':i<(hi-lo).toNat:=hi';exact⟨.int<|lo+i,_,S,aK hi',rfl,step i τ S () h⟩
def RL{xs:ad}{g:Tg}{c:Sm}{src:Ic}(hs:src τ S=.ok (AR xs) S1)(Inv:Nat->ad->iI->Prop)(Post:RS->Prop)(h0:Inv 0 τ S1)
  (step:∀(i:Nat) x τ S,xs[i]?=some x->Inv i τ S->∃τ1 S1,g (.tup [.int i,x]) τ S=.ok τ1 S1/\((∃τ' S',c τ1 S1=.nx τ' S'/\Inv (i+1) τ' S')\/(∃a S',c τ1 S1=.rt a S'/\Post (.rt a S'))))
  (fin:∀τ S,Inv xs.length τ S->Post (.nx τ S)):Post (mE src g c τ S):=by
 unfold mE;rw[hs];refine z9 (s:=AR xs) Inv Post (λi τ S hi' h=>?_) (λτ S h=>⟨rfl,fin τ S h⟩) _ 0 τ S1 rfl h0;have hi':i<xs.length:=hi';obtain⟨τ1,S1,e,q⟩:=step i xs[i] τ S (aG hi') h;exact⟨.tup [.int i,xs[i]],τ1,S1,by show(xs[i]?).map _=_;rw[aG hi'];rfl,e,q⟩
def vI{n:Nat}{xs:ad}{g:Tg}{c:Sm}{src:Ic}(hs:src τ S=.ok (nI n xs.length) S1)(Inv:Nat->ad->iI->Prop)(Post:RS->Prop)(h0:Inv 0 τ S1)(hl:∀i τ S,Inv i τ S->iH S n=some xs)
  (step:∀(i:Nat) x τ S,xs[i]?=some x->Inv i τ S->∃τ1 S1,g x τ S=.ok τ1 S1/\((∃τ' S',c τ1 S1=.nx τ' S'/\Inv (i+1) τ' S')\/(∃a S',c τ1 S1=.rt a S'/\Post (.rt a S'))))
  (fin:∀τ S,Inv xs.length τ S->Post (.nx τ S)):Post (mE src g c τ S):=by
 unfold mE;rw[hs];refine z9 (s:=nI n xs.length) Inv Post (λi τ S hi' h=>?_) (λτ S h=>⟨?_,fin τ S h⟩) _ 0 τ S1 rfl h0
 ·have hi':i<xs.length:=hi';obtain⟨τ1,S1,e,q⟩:=step i xs[i] τ S (aG hi') h;exact⟨xs[i],τ1,S1,by show(iH S n).bind _=_;rw[hl i τ S h];exact aG hi',e,q⟩
 ·show(match iH S n with
   | some ys=>decide (ys.length<=xs.length)
   | none=>false)=true
  rw[hl _ τ S h];exact aT<|aQ _
@[simp]def pZ {c:Ex}{τ:ad}{S S1:iI}{j:Int}(h:c τ S=.ok (.int j) S1)(hb:bnd j):qS c τ S=.ok (j0 0 j) S1:=by
 unfold qS;rw[h];exact j4 hb
def tH{c d:Ex}{i j:Int}(h:c τ S=.ok (.int i) S1)(h':d τ S1=.ok (.int j) S2)(hb:bnd i)(hb':bnd j):pN c d τ S=.ok (j0 i j) S2:=by
 unfold pN;rw[h];show(d τ S1).bind _=_;rw[h'];exact j4 ⟨hb,hb'⟩
def KD{c:Ex}(h:c τ S=.ok (.tup xs) S1):oY c τ S=.ok (qi xs) S1:=by unfold oY;rw[h];rfl
def uO{c:Ex}{n:Nat}{xs:ad}(h:c τ S=.ok (.ref n) S1)(hl:iH S1 n=some xs):oY c τ S=.ok (nI n xs.length) S1:=by
 unfold oY;rw[h];show opt (iH S1 n) _=_;rw[hl];rfl
def SG{c:Ex}(h:c τ S=.ok (.tup xs) S1):Nk c τ S=.ok (AR xs) S1:=by unfold Nk;rw[h];rfl
theorem vA{s:Src}{g:Tg}{t:Te}{e:Ex}{P:iI->Prop}{T:ad->Prop}(it:Nat->A)(p:Nat->Bool)(f:Nat->A)
  (hget:∀i S,i<s.k->P S->s.get i S=some (it i)) (hfin:∀S,P S->s.fin S=true)
  (step:∀i τ S,i<s.k->T τ->P S->∃τ1 S1 S2,g (it i) τ S=.ok τ1 S1/\t τ1 S1=.ok (p i) S2/\T τ1/\(p i=false->P S2)/\(p i=true->∃S3,e τ1 S2=.ok (f i) S3/\P S3)) :
  ∀k i τ S,k+i=s.k->T τ->P S->∃S',nN s g t e k i τ S=.ok (((List.range' i k).filter p).map f) S'/\P S'
 | 0,i,τ,S,hk,hT,hP=>⟨S,by unfold nN;rw[aK<|hfin S hP];rfl,hP⟩
 | k+1,i,τ,S,hk,hT,hP=>by
  obtain⟨τ1,S1,S2,hg,ht,hT1,hF,hTr⟩:=step i τ S (by omega) hT hP;unfold nN;rw[hget i S (by omega) hP,jK,hg,R.mJ,ht,R.mJ,fG,h_]
  cases hp:p i with
  | false=>
   obtain⟨S',h1,h2⟩:=vA it p f hget hfin step k (i+1) τ1 S2 (by omega) hT1<|hF hp;exact⟨S',by simpa using h1,h2⟩
  | true=>
   obtain⟨S3,he,hP3⟩:=hTr hp;obtain⟨S',h1,h2⟩:=vA it p f hget hfin step k (i+1) τ1 S3 (by omega) hT1 hP3;refine⟨S',?_,h2⟩
   skip
   rw[he,R.mJ,h1];rfl
def uD{s:Src}{src:Ic}{t:Te}{e:Ex}{S1:iI}(hs:src τ S=.ok s S1)(it:Nat->A)(p:Nat->Bool)(f:Nat->A)(hget:∀i,i<s.k->s.get i S1=some (it i))(hfin:s.fin S1=true)
  (ht:∀i,i<s.k->t (it i::mC cap τ) S1=.ok (p i) S1) (he:∀i,i<s.k->p i=true->e (it i::mC cap τ) S1=.ok (f i) S1) (hl:s.k<=16777216) :
  lZ (none::cap) src (jB 0) t e τ S=.ok (.ref S1.length) (S1++[.lst<|((List.range s.k).filter p).map f]):=by
 unfold lZ;rw[hs,R.kX];obtain⟨S',h1,h2⟩:=vA (s:=s) (g:=jB 0) (t:=t) (e:=e) (P:=λS=>S=S1) (T:=λτ'=>∃y,τ'=y::mC cap τ) it p f (λi S hi h=>by subst h;exact hget i hi) (λS h=>by subst h;exact hfin)
  (λi τ' S hi ⟨y,hy⟩ h=>by
   subst h hy;exact⟨it i::mC cap τ,S,S,rfl,ht i hi,⟨_,rfl⟩,λ_=>rfl,λhp=>⟨S,he i hi hp,rfl⟩⟩) s.k 0 (mC (none::cap) τ) S1 rfl ⟨_,rfl⟩ rfl
 subst h2;rw[h1,R.mJ,dI];refine kg ?_;rw[aL];refine bP (gp _ _) ?_;rw[List.length_range'];exact hl
def mH{α β:Type}(xs:List α)(p:α->Bool)(f:α->β):∀(d:α) ,(((List.range xs.length).filter λi=>p<|xs.getD i d).map λi=>f<|xs.getD i d)=(xs.filter p).map f:=by
 intro d
 induction xs with
 | nil=>rfl
 | cons x xs ih=>
  rw[bz,List.range_succ_eq_map,h_,h_];have e:((List.filter (λi=>p<|(x::xs).getD i d)<|List.map Nat.succ<|List.range xs.length).map λi=>f<|(x::xs).getD i d)=(xs.filter p).map f:=by
   rw[gM,cH];rw[<- ih];rfl
  show List.map _ (if p x=true then _ else _)=List.map f (if p x=true then _ else _);by_cases hp:p x=true
  ·rw[aK hp,aK hp,bU,bU,e];rfl
  ·rw[aJ hp,aJ hp,e]
def CA{xs:ad}{src:Ic}{t:Te}{e:Ex}{S1:iI}(hs:src τ S=.ok (qi xs) S1)(p:A->Bool)(f:A->A)
  (ht:∀x∈xs,t (x::mC cap τ) S1=.ok (p x) S1) (he:∀x∈xs,p x=true->e (x::mC cap τ) S1=.ok (f x) S1) (hl:xs.length<=16777216) :
  lZ (none::cap) src (jB 0) t e τ S=.ok (.ref S1.length) (S1++[.lst<|(xs.filter p).map f]):=by
 have hm:∀i,i<xs.length->xs.getD i .unb∈xs:=λi hi=>by
  rw[aI,aG hi];exact dc hi
 rw[uD hs (λi=>xs.getD i .unb) (λi=>p<|xs.getD i .unb) (λi=>f<|xs.getD i .unb) (λi hi=>by
  have hi:i<xs.length:=hi;show xs[i]?=_;rw[aI,aG hi];rfl) rfl (λi hi=>ht _<|hm i hi) (λi hi=>he _<|hm i hi) hl]
 have:=mH xs p f .unb;show R.ok _ (S1++[O.lst<|((List.range xs.length).filter _).map _])=_;rw[this]
def Ju{xs:ad}{src:Ic}{e:Ex}{S1:iI}(hs:src τ S=.ok (qi xs) S1)(f:A->A)
  (he:∀x∈xs,e (x::mC cap τ) S1=.ok (f x) S1) (hl:xs.length<=16777216) :
  lZ (none::cap) src (jB 0) zQ e τ S=.ok (.ref S1.length) (S1++[.lst<|xs.map f]):=by
 rw[CA hs (λ_=>true) f (λ_ _=>rfl) (λx hx _=>he x hx) hl,List.filter_eq_self.mpr λ_ _=>rfl]
def K8{lo hi:Int}{src:Ic}{t:Te}{e:Ex}{S1:iI}(hs:src τ S=.ok (j0 lo hi) S1)(p:Int->Bool)(f:Int->A)
  (ht:∀k,lo<=k->k<hi->t (.int k::mC cap τ) S1=.ok (p k) S1) (he:∀k,lo<=k->k<hi->p k=true->e (.int k::mC cap τ) S1=.ok (f k) S1) (hl:(hi-lo).toNat<=16777216) :
  lZ (none::cap) src (jB 0) t e τ S=.ok (.ref S1.length) (S1++[.lst<|((i9 lo hi).filter p).map f]):=by
 rw[uD hs (λi=>.int<|lo+i) (λi=>p<|lo+i) (λi=>f<|lo+i) (λi hi'=>aK hi') rfl (λi hi'=>ht _ () (by have:i<(hi-lo).toNat:=hi';lia)) (λi hi'=>he _ () (by have:i<(hi-lo).toNat:=hi';lia)) hl];unfold i9;rw[gM,cH];rfl
@[simp]def MP {cap:List<|bj}{τ:ad}:mC (none::cap) τ=.unb::mC cap τ:=rfl
@[simp]def Ld {cap:List<|bj}{τ:ad}{j:Nat}:mC (some j::cap) τ=τ.getD j .unb::mC cap τ:=rfl
@[simp]def Ci {τ:ad}:mC [] τ=[]:=rfl
theorem Gx{x:A}:nV (x::xs) 0=some x:=Aq (k:=0) rfl rfl
def Pu{x:A}:nV (x::y::xs) 1=some y:=Aq (k:=1) rfl rfl
def tX{ns:ae}{i:Int}{k:Nat}{x:Int}(h:i=k)(hx:ns[k]?=some x):nV (ns.map A.int) i=some (.int x):=Aq h<|by rw[a_,hx];rfl
def kL{j:Int}(h:-4611686018427387904<=j)(h':j<4611686018427387904):bnd j:=⟨(),()⟩
def ME{i j:Int}(h1:-1000000<=i)(h2:i<=1000000)(h3:-1000000<=j)(h4:j<=1000000)(h5:j-i<=1000):yH i j:=⟨⟨(),(),(),()⟩,()⟩
theorem ints_map:∀(ns:ae),A.ints (ns.map .int)=some ns
 | []=>rfl
 | n::ns=>by show(A.ints<|ns.map .int).map (n::·)=_;rw[ints_map ns];rfl
theorem za{n:Nat}:∀(xs ys:ae),qE (tV S<|n+1) (xs.map .int) (ys.map .int)=some (decide<|xs=ys)
 | [],[]=>rfl
 | [],_::_=>rfl
 | _::_,[]=>rfl
 | x::xs,y::ys=>by
  skip
  skip
  show Option.map _ (qE (tV S<|n+1) (xs.map .int)<|ys.map .int)=_;rw[za xs ys]
  skip
  by_cases h1:x=y<;>by_cases h2:xs=ys<;>simp[h1,h2]
@[simp]def Pq {S:iI}{x y:Bool}:qo false (.bl x) (.bl y) S=.ok (.bl<|x == y) S:=rfl
@[simp]def Qm {S:iI}{x y:Bool}:qo true (.bl x) (.bl y) S=.ok (.bl<|!(x == y)) S:=rfl
@[simp]def PU {S:iI}{x y:Int}:qo false (.int x) (.int y) S=.ok (.bl<|x == y) S:=rfl
@[simp]def QF {S:iI}{x y:Int}:qo true (.int x) (.int y) S=.ok (.bl<|!(x == y)) S:=rfl
@[simp]def EI {S:iI}:Ib false .non .non S=.ok (.bl true) S:=rfl
@[simp]def GL {S:iI}{xs:ad}:Ib false (.tup xs) .non S=.ok (.bl false) S:=rfl
@[simp]def EJ {S:iI}{n:Nat}:Ib false (.ref n) .non S=.ok (.bl false) S:=rfl
@[simp]def B4 {S:iI}:Ib true .non .non S=.ok (.bl false) S:=rfl
@[simp]def Cc {S:iI}{xs:ad}:Ib true (.tup xs) .non S=.ok (.bl true) S:=rfl
@[simp]def Bw {S:iI}{n:Nat}:Ib true (.ref n) .non S=.ok (.bl true) S:=rfl
@[simp]def EU {S:iI}{x:A}{c:String}:Ol x (.ty c) S=opt (x.kd S) λk=>opt (HF k c) λb=>.ok (.bl b) S:=rfl
@[simp]def Qa {S:iI}{b:Bool}:A.kd (.bl b) S=some .bl:=rfl
@[simp]def K3 {S:iI}{b:Int}:A.kd (.int b) S=some .int:=rfl
@[simp]def Lm {S:iI}{b:ad}:A.kd (.tup b) S=some .tup:=rfl
@[simp]def Me {S:iI}:A.kd .non S=some .non:=rfl
@[simp]def KC {S:iI}{b:Str}:A.kd (.str b) S=some .str:=rfl
@[simp]def Li {S:iI}{n:Nat}:A.kd (.ref n) S=(iH S n).map λ_=>.lst:=rfl
@[simp]def Ir {S:iI}:newL [] S=.ok (.ref S.length) (S++[.lst []]):=kg<|by simp
@[simp]def MO {S:iI}{x0:A}:newL [x0] S=.ok (.ref S.length) (S++[.lst [x0]]):=kg<|by simp
@[simp]def LZ {S:iI}{x0 x1:A}:newL [x0,x1] S=.ok (.ref S.length) (S++[.lst [x0,x1]]):=kg<|by simp
@[simp]def KG {S:iI}{x0 x1 x2:A}:newL [x0,x1,x2] S=.ok (.ref S.length) (S++[.lst [x0,x1,x2]]):=kg<|by simp
@[simp]def Mj {S:iI}{x0 x1 x2 x3:A}:newL [x0,x1,x2,x3] S=.ok (.ref S.length) (S++[.lst [x0,x1,x2,x3]]):=kg<|by simp
@[simp]def K2 {S:iI}{x0 x1 x2 x3 x4:A}:newL [x0,x1,x2,x3,x4] S=.ok (.ref S.length) (S++[.lst [x0,x1,x2,x3,x4]]):=kg<|by simp
@[simp]def LL {S:iI}{x0 x1 x2 x3 x4 x5:A}:newL [x0,x1,x2,x3,x4,x5] S=.ok (.ref S.length) (S++[.lst [x0,x1,x2,x3,x4,x5]]):=kg<|by simp
@[simp]def Mi {S:iI}{x0 x1 x2 x3 x4 x5 x6:A}:newL [x0,x1,x2,x3,x4,x5,x6] S=.ok (.ref S.length) (S++[.lst [x0,x1,x2,x3,x4,x5,x6]]):=kg<|by simp
@[simp]def Kh {S:iI}{x0 x1 x2 x3 x4 x5 x6 x7:A}:newL [x0,x1,x2,x3,x4,x5,x6,x7] S=.ok (.ref S.length) (S++[.lst [x0,x1,x2,x3,x4,x5,x6,x7]]):=kg<|by simp
@[simp]def IJ {S:iI}{x0 x1 x2 x3 x4 x5 x6 x7 x8:A}:newL [x0,x1,x2,x3,x4,x5,x6,x7,x8] S=.ok (.ref S.length) (S++[.lst [x0,x1,x2,x3,x4,x5,x6,x7,x8]]):=kg<|by simp
@[simp]def Eo {S:iI}{x0 x1 x2 x3 x4 x5 x6 x7 x8 x9:A}:newL [x0,x1,x2,x3,x4,x5,x6,x7,x8,x9] S=.ok (.ref S.length) (S++[.lst [x0,x1,x2,x3,x4,x5,x6,x7,x8,x9]]):=kg<|by simp
theorem zm{α:Type}{n:Nat}{r:R α}(h:n<=16777216):gd (n<=sizeLine) r=r:=j4<|by rw[cR];exact h
def BA{α:Type}{n:Nat}{r:R α}(h:n<16777216):gd (n<sizeLine) r=r:=j4<|by rw[cR];exact h
def PC {x:A}{xs:ad}:(x::xs).getD 0 .unb=x:=rfl
def P9 {x:A}{xs:ad}{n:Nat}:(x::xs).getD (n+1) .unb=xs.getD n .unb:=rfl
def U8 {x y:A}{xs:ad}:(x::xs).set 0 y=y::xs:=rfl
def sets {x y:A}{xs:ad}{n:Nat}:(x::xs).set (n+1) y=x::xs.set n y:=rfl
def rep0 {x:A}:List.replicate 0 x=[]:=rfl
def reps {x:A}{n:Nat}:List.replicate (n+1) x=x::List.replicate n x:=rfl
def UL {x:A}{xs ys:ad}:(x::xs)++ys=x::(xs++ys):=rfl
def VO {ys:ad}:[]++ys=ys:=rfl
def jk:type_of% (anI @R.kX<|anI @R.Eb<|anI @R.mJ<|anI @RS.of_ok<|anI @RS.Qe<|anI @jK<|anI @Ek<|anI @E7<|anI @GB<|anI @Gh<|anI @Gi<|anI @KI<|anI @Er<|anI @EC<|anI @GC<|anI @FL<|anI @FP<|anI @Qx<|anI @F_<|anI @I_<|anI @E_<|anI @F6<|anI @DB<|anI @D_<|anI @Gy<|anI @Lu<|anI @Ga<|anI @Ed<|anI @Ey<|anI @Ms<|anI @MC<|anI @EM<|anI @Ls<|anI @A6<|anI @Et<|anI @Kv<|anI @Fc<|anI @CB<|anI @FJ<|anI @FQ<|anI @Bq<|anI @Kw<|anI @JL<|anI @Pp<|anI @P1<|anI @LI<|anI @Cu<|anI @Ef<|anI @BL<|anI @K9<|anI @Fb<|anI @lst?_ref<|anI @RS.J8<|anI @RS.L6<|anI @RS.JQ<|anI @RS.KN<|anI @RS.Kc<|anI @GP<|anI @Gk<|anI @zc<|anI @A3<|anI @Br<|anI @GD<|anI @BR<|anI @Ii<|anI @GS<|anI @MY<|anI @JW<|anI @LA<|anI @Ky<|anI @IG<|anI @JP<|anI @FA<|anI @EF<|anI @Ba<|anI @RS.KH<|anI @RS.LV<|anI @RS.J_<|anI @Ig<|anI @J0<|anI @J7<|anI @BI<|anI @Qu<|anI @Qp<|anI @PD<|anI @QD<|anI @JK<|anI @Km<|anI @Mu<|anI @Lz<|anI @Mt<|anI @MM<|anI @GK<|anI @EL<|anI @Ec<|anI @GO<|anI @yY<|anI @Qs<|anI @PN<|anI @P6<|anI @L_<|anI @JB<|anI @E8<|anI @D4<|anI @E2<|anI @Ca<|anI @Co<|anI @Lr<|anI @L8<|anI @PZ<|anI @xD<|anI @L4<|anI @Fv<|anI @jj<|anI @MP<|anI @Ld<|anI @Ci<|anI @Pq<|anI @Qm<|anI @PU<|anI @QF<|anI @EI<|anI @GL<|anI @EJ<|anI @B4<|anI @Cc<|anI @Bw<|anI @EU<|anI @Qa<|anI @K3<|anI @Lm<|anI @Me<|anI @KC<|anI @Li<|anI @Ir<|anI @MO<|anI @LZ<|anI @KG<|anI @Mj<|anI @K2<|anI @LL<|anI @Mi<|anI @Kh<|anI @IJ<|anI @Eo<|anI @PC<|anI @P9<|anI @U8<|anI @sets<|anI @rep0<|anI @reps<|anI @UL<|anI @VO<|anI @vq<|anI @D5<|anI @Ja<|anI @Mz<|anI @Pw<|anI @Pz<|anI @LO<|anI @LK<|anI @yD<|anI @A5<|anI @LW<|anI @Ft<|anI @Mp<|anI @D9<|anI @Lh<|anI @PV<|anI @Ql<|anI @Fj<|anI @FE<|anI @K6<|anI @A8<|anI @F8<|anI @MJ<|anI @MZ<|anI @Jh<|anI @L3<|@MN):=anI @R.kX<|anI @R.Eb<|anI @R.mJ<|anI @RS.of_ok<|anI @RS.Qe<|anI @jK<|anI @Ek<|anI @E7<|anI @GB<|anI @Gh<|anI @Gi<|anI @KI<|anI @Er<|anI @EC<|anI @GC<|anI @FL<|anI @FP<|anI @Qx<|anI @F_<|anI @I_<|anI @E_<|anI @F6<|anI @DB<|anI @D_<|anI @Gy<|anI @Lu<|anI @Ga<|anI @Ed<|anI @Ey<|anI @Ms<|anI @MC<|anI @EM<|anI @Ls<|anI @A6<|anI @Et<|anI @Kv<|anI @Fc<|anI @CB<|anI @FJ<|anI @FQ<|anI @Bq<|anI @Kw<|anI @JL<|anI @Pp<|anI @P1<|anI @LI<|anI @Cu<|anI @Ef<|anI @BL<|anI @K9<|anI @Fb<|anI @lst?_ref<|anI @RS.J8<|anI @RS.L6<|anI @RS.JQ<|anI @RS.KN<|anI @RS.Kc<|anI @GP<|anI @Gk<|anI @zc<|anI @A3<|anI @Br<|anI @GD<|anI @BR<|anI @Ii<|anI @GS<|anI @MY<|anI @JW<|anI @LA<|anI @Ky<|anI @IG<|anI @JP<|anI @FA<|anI @EF<|anI @Ba<|anI @RS.KH<|anI @RS.LV<|anI @RS.J_<|anI @Ig<|anI @J0<|anI @J7<|anI @BI<|anI @Qu<|anI @Qp<|anI @PD<|anI @QD<|anI @JK<|anI @Km<|anI @Mu<|anI @Lz<|anI @Mt<|anI @MM<|anI @GK<|anI @EL<|anI @Ec<|anI @GO<|anI @yY<|anI @Qs<|anI @PN<|anI @P6<|anI @L_<|anI @JB<|anI @E8<|anI @D4<|anI @E2<|anI @Ca<|anI @Co<|anI @Lr<|anI @L8<|anI @PZ<|anI @xD<|anI @L4<|anI @Fv<|anI @jj<|anI @MP<|anI @Ld<|anI @Ci<|anI @Pq<|anI @Qm<|anI @PU<|anI @QF<|anI @EI<|anI @GL<|anI @EJ<|anI @B4<|anI @Cc<|anI @Bw<|anI @EU<|anI @Qa<|anI @K3<|anI @Lm<|anI @Me<|anI @KC<|anI @Li<|anI @Ir<|anI @MO<|anI @LZ<|anI @KG<|anI @Mj<|anI @K2<|anI @LL<|anI @Mi<|anI @Kh<|anI @IJ<|anI @Eo<|anI @PC<|anI @P9<|anI @U8<|anI @sets<|anI @rep0<|anI @reps<|anI @UL<|anI @VO<|anI @vq<|anI @D5<|anI @Ja<|anI @Mz<|anI @Pw<|anI @Pz<|anI @LO<|anI @LK<|anI @yD<|anI @A5<|anI @LW<|anI @Ft<|anI @Mp<|anI @D9<|anI @Lh<|anI @PV<|anI @Ql<|anI @Fj<|anI @FE<|anI @K6<|anI @A8<|anI @F8<|anI @MJ<|anI @MZ<|anI @Jh<|anI @L3<|@MN
def bools:(∀b:Bool,cond false b b=b)/\(∀(α:Type) (x y:α),cond false x y=y)/\(∀(α:Type) (x y:α),cond true x y=x):=⟨λ_=>rfl,λ_ _ _=>rfl,λ_ _ _=>rfl⟩
def jF:(∀(x:Str) (xs:ap),(x::xs).length=xs.length+1)/\([]:ap).length=0/\(∀(x:A) (xs:ad),(x::xs).length=xs.length+1)/\([]:ad).length=0:=⟨λ_ _=>rfl,rfl,λ_ _=>rfl,rfl⟩
section
variable {τ:ad}{S:iI}
def E9 {f:ad->iI->R A}{d:p5}:WC f d τ S=(d τ S).bind f:=rfl
abbrev XW (c:Str):Unit->iI->RS:=λ_ S1=>.ex c S1
def Jr {c:Str}{u:Unit}:XW c u S=.ex c S:=rfl
def yz {c:Str}{ps:List<|Str ⊕ Ex}:Ra c ps τ S=RS.of (Nf ps τ S) (XW c):=rfl
def El:Nf [] τ S=.ok Unit.unit S:=rfl
def Fd {x:Str}{ps:List<|Str ⊕ Ex}:Nf (.inl x::ps) τ S=Nf ps τ S:=rfl
abbrev Yg (ps:List<|Str ⊕ Ex)(τ:ad):A->iI->R Unit:=λv S1=>match v with
 | .int i=>gd (i.natAbs.log2<64) (Nf ps τ S1)
 | _=>.no
def GI {e:Ex}{ps:List<|Str ⊕ Ex}:Nf (.inr e::ps) τ S=(e τ S).bind (Yg ps τ):=rfl
abbrev RS.try (i n:Nat)(cs:ap)(d:Sm):RS->RS
 | .ex x S1=>if x∈cs then Qy i (d ((List.replicate n .unb).set i<|.exn x) S1)else .no
 | r=>r
def D0 {i n:Nat}{cs:ap}{c d:Sm}:Vz i n cs c d τ S=RS.try i n cs d (c τ S):=by
 unfold Vz RS.try;cases c τ S<;>rfl
def K_ {i n:Nat}{cs:ap}{d:Sm}:RS.try i n cs d (.nx τ S)=.nx τ S:=rfl
def JI {i n:Nat}{cs:ap}{d:Sm}{a:A}:RS.try i n cs d (.rt a S)=.rt a S:=rfl
def MB {i n:Nat}{x:Str}{cs:ap}{d:Sm}:RS.try i n (x::cs) d (.ex x S)=Qy i (d ((List.replicate n .unb).set i<|.exn x) S):=aK<|.head _
def Jv {i:Nat}{a:A}:Qy i (.rt a S)=.rt a S:=rfl
def Jf {i:Nat}:Qy i (.nx τ S)=.nx (τ.set i .unb) S:=rfl
abbrev UU (f:Str->bi):A->iI->R A:=λv S1=>match v with
 | .exn x=>opt (f x) λb=>.ok (.bl b) S1
 | _=>.no
def EO {f:Str->bi}{c:Ex}:Xs f c τ S=(c τ S).bind (UU f):=rfl
def Lk {x:Str}{b:Bool}{tb:List<|Str×Bool}:UU (Yl ((x,b)::tb)) (.exn x) S=.ok (.bl b) S:=by
 show opt (List.lookup x ((x,b)::tb)) _=_;rw[fF,bK];rfl
abbrev R.Iq {α β:Type}(r:R α)(f:α->iI->R β):R β:=match r with
 | .ok a S=>f a S
 | _=>.no
def Cg {α β:Type}{a:α}{f:α->iI->R β}:R.Iq (.ok a S) f=f a S:=rfl
def Fg {f:ad->iI->R A}{d:p5}:Vy f d τ S=R.Iq (d τ S) f:=by unfold Vy R.Iq;cases d τ S<;>rfl
abbrev RS.Wf {α:Type}(r:R α)(f:α->iI->RS):RS:=match r with
 | .ok a S=>f a S
 | _=>.no
def MX {α:Type}{a:α}{f:α->iI->RS}:RS.Wf (.ok a S) f=f a S:=rfl
def FY {t:Te}{c d:Sm}:Vt t c d τ S=RS.Wf (t τ S) (V7 c d τ):=by
 unfold Vt RS.Wf
 cases t τ S with
 | ok b S1=>cases b<;>rfl
 | ex _ _=>rfl
 | no=>rfl
abbrev RS.JN (i:Nat)(cs:ap)(d:Sm)(τ:ad):RS->RS
 | .ex x S1=>if x∈cs then Qy i (d (τ.set i<|.exn x) S1)else .no
 | r=>r
def BZ {i:Nat}{cs:ap}{c d:Sm}:QC i cs c d τ S=RS.JN i cs d τ (c τ S):=by
 unfold QC RS.JN;cases c τ S<;>rfl
def Gw {i:Nat}{cs:ap}{d:Sm}{τ':ad}:RS.JN i cs d τ (.nx τ' S)=.nx τ' S:=rfl
def E1 {i:Nat}{cs:ap}{d:Sm}{a:A}:RS.JN i cs d τ (.rt a S)=.rt a S:=rfl
def Gs {i:Nat}{x:Str}{cs:ap}{d:Sm}:RS.JN i (x::cs) d τ (.ex x S)=Qy i (d (τ.set i<|.exn x) S):=aK<|.head _
def Cs:A.VZ []=some []:=rfl
def yT {b:Bool}{xs:ad}:A.VZ (.bl b::xs)=(A.VZ xs).map (b::·):=rfl
end
def mY:type_of% (anI @E9<|anI @yz<|anI @Jr<|anI @El<|anI @Fd<|anI @GI<|anI @D0<|anI @K_<|anI @JI<|anI @MB<|anI @Jv<|anI @Jf<|anI @EO<|anI @Lk<|anI @Cs<|anI @yT<|anI @Cg<|anI @Fg<|anI @MX<|anI @FY<|anI @BZ<|anI @Gw<|anI @E1<|anI @Gs<|trivial):=anI @E9<|anI @yz<|anI @Jr<|anI @El<|anI @Fd<|anI @GI<|anI @D0<|anI @K_<|anI @JI<|anI @MB<|anI @Jv<|anI @Jf<|anI @EO<|anI @Lk<|anI @Cs<|anI @yT<|anI @Cg<|anI @Fg<|anI @MX<|anI @FY<|anI @BZ<|anI @Gw<|anI @E1<|anI @Gs<|trivial
end Am
namespace Am
open PySem PySem.Spec PyProof.Rows L2
abbrev Df (K:au)(x:Str)(st:aF):Prop:=∃(f:ak) (fd:FuncData),PySem.W.nsIn K mainGlobals x=some (some<|.ref f)/\Fun K x x st f fd
inductive En (P:aj) (w:ah) (K:au) (mg:Str->bb) (base:aq):Prop
 | mk (h:aq) (X:K.In h) (G:h.Ns mainGlobals mg)
section
variable {P:aj}{w:ah}{K:au}{mg:Str->bb}{base:aq}{x:Str}{st:aF}{ps:ap}{k:Nat}{F:ad->iI->R A}
def En.at(E:En P w K mg base){f:ak}(h:PySem.W.nsIn K mainGlobals x=some (some<|.ref f)):mg x=some (.ref f):=by
 obtain⟨_,X,G⟩:=E;exact gC X G h
def Df.of{f:ak}{kV pm ct:af}(a:PySem.W.nsIn K mainGlobals x=some (some<|.ref f))(l:K.lookup f=some ⟨oc,od,.func<|PySem.W.fnOf x x (rD st) (oz st) (iT st) .none kV doc pm an cdv ct,osl⟩)(c:PySem.W.codeIn K cdv x=true)(k:PySem.W.keepIn K (.ref f)=true):Df K x st:=⟨f,_,a,SV l c k⟩
meta abbrev Bi (x:Str)(st:aF)(ps:ap):Prop:=∀us:ar,us.length=ps.length->∀(kV doc pm:af) (an:Option ak) (cdv ct:af),bindArgs (PySem.W.fnOf x x (rD st) (oz st) (iT st) .none kV doc pm an cdv ct) ⟨us,[]⟩=pure (ps.zip us)
def Df.get(d:Df K x st)(E:En P w K mg base)(b:Bi x st ps):∃f fd,Fun K x x st f fd/\mg x=some (.ref f)/\PySem.W.keepIn K (.ref f)=true/\Binds K fd ps []:=by
 obtain⟨f,fd,a,F⟩:=d;exact⟨f,fd,F,E.at a,F.kp,F.binds λkV doc pm an cdv ct us hl=>b us hl kV doc pm an cdv ct⟩
def Df.kA(d:Df K x st)(E:En P w K mg base)(h:∀{f fd},Fun K x x st f fd->FnOk P w K mg base nX k f fd ps (pV K ps.length F))(b:Bi x st ps):nA P w K mg base k x ps F:=by
 obtain⟨f,fd,a,c,e,g⟩:=d.get E b;exact⟨f,fd,h a,c,e,g⟩
def Df.rA(d:Df K x st)(E:En P w K mg base)(h:∀{f fd},Fun K x x st f fd->mg x=some (.ref f)->PySem.W.keepIn K (.ref f)=true->Binds K fd ps []->FnOk P w K mg base nX k f fd ps (pV K ps.length F))(b:Bi x st ps):nA P w K mg base k x ps F:=by
 obtain⟨f,fd,a,c,e,g⟩:=d.get E b;exact⟨f,fd,h a c e g,c,e,g⟩
end
section
variable {X:Cx}{pos p:Pos}{e1 e2 e3:aE}{x p1 p2 p3:Str}{k K0:Nat}{F:ad->iI->R A}{c1 c2 c3:Ex}
def F0(G:nA X.prog X.w X.K X.mg X.base k x [p1] F)(hr:Room K0 X.A)(h1:AE X e1 c1)(hk:k<=K0:=by decide)(hg:Gl X x:=by rfl)(hdb:(x == ("__debug__" : Str))=false:=by decide)(s1:starEach [e1] X.env=(false,eval e1 X.env)::starEach [] X.env:=by rfl)(hp:(backTo pos<|starEach [] X.env).any (·.1)=false:=by rfl):AE X (.Call (.Name x p) [e1] [] pos) (eFn F<|iE c1 iQ):=om G (hr.mono hk) (iF h1 iO s1) (iW kc) hg hdb s1 hp
def yp(G:nA X.prog X.w X.K X.mg X.base k x [p1,p2] F)(hr:Room K0 X.A)(h1:AE X e1 c1)(h2:AE X e2 c2)(hk:k<=K0:=by decide)(hg:Gl X x:=by rfl)(hdb:(x == ("__debug__" : Str))=false:=by decide)(s1:starEach [e1,e2] X.env=(false,eval e1 X.env)::starEach [e2] X.env:=by rfl)(s2:starEach [e2] X.env=(false,eval e2 X.env)::starEach [] X.env:=by rfl)(hp:(backTo pos<|starEach [e2] X.env).any (·.1)=false:=by rfl):AE X (.Call (.Name x p) [e1,e2] [] pos) (eFn F<|iE c1<|iE c2 iQ):=om G (hr.mono hk) (iF h1 (iF h2 iO s2) s1) (iW<|iW kc) hg hdb s1 hp
def VP(G:nA X.prog X.w X.K X.mg X.base k x [p1,p2,p3] F)(hr:Room K0 X.A)(h1:AE X e1 c1)(h2:AE X e2 c2)(h3:AE X e3 c3)(hk:k<=K0:=by decide)(hg:Gl X x:=by rfl)(hdb:(x == ("__debug__" : Str))=false:=by decide)(s1:starEach [e1,e2,e3] X.env=(false,eval e1 X.env)::starEach [e2,e3] X.env:=by rfl)(s2:starEach [e2,e3] X.env=(false,eval e2 X.env)::starEach [e3] X.env:=by rfl)(s3:starEach [e3] X.env=(false,eval e3 X.env)::starEach [] X.env:=by rfl)(hp:(backTo pos<|starEach [e2,e3] X.env).any (·.1)=false:=by rfl):AE X (.Call (.Name x p) [e1,e2,e3] [] pos) (eFn F<|iE c1<|iE c2<|iE c3 iQ):=om G (hr.mono hk) (iF h1 (iF h2 (iF h3 iO s3) s2) s1) (iW<|iW<|iW kc) hg hdb s1 hp
def sD{N P:ap}{sc:Scope}(a:sc.kind=.function)(b:sc.isCoroutine=false)(c:sc.isGenerator=false)(h:N.Nodup/\N.take P.length=P/\(∀x∈P,sc.names.lookup x=some .local\/sc.names.lookup x=some .cell)/\∀y∈sc.names,y.2≠.free):FnScope N P sc:=⟨a,b,c,h.1,h.2.1,h.2.2.1,h.2.2.2⟩
end
abbrev jR (S:iI)(n:Nat):Option (List<|Int×A):=match S[n]? with
 | some (.o5 xs)=>some xs
 | _=>none
def nj{n:Nat}(h:jR S n=some xs):S[n]?=some (.o5 xs):=by
 unfold jR at h;split at h
 ·rename_i e;cases h;exact e
 ·cases h
def Ao{S:iI}{n:Nat}(h:S[n]?=some (.o5 xs)):jR S n=some xs:=by
 unfold jR;rw[h]
abbrev kM (kvs:List<|Int×A)(k:Int):Option A:=(kvs.find? λkv=>decide<|kv.1=k).map (·.2)
abbrev uG (kvs:List<|Int×A)(k:Int)(v:A):List (Int×A):=
 if (kM kvs k).isSome=true then kvs.map (λkv=>if kv.1=k then(kv.1,v)else kv)else kvs++[(k,v)]
section
variable {K:au}{ρ:ba}{H:Hp}
def Ho{p:Int×A}{r:List<|Int×A}{k:Int}(e:p.1=k):kM (p::r) k=some p.2:=by simp[kM,cI,e]
def HV{p:Int×A}{r:List<|Int×A}{k:Int}(e:¬p.1=k):kM (p::r) k=kM r k:=by simp[kM,cI,e]
def Vn{a b:Int}(e:(Sum.inl a:Key)=Sum.inl b):a=b:=by injection e
theorem DI.look:∀{kvs:List<|Int×A}{ks:List<|Key×V}(k:Int),DI K ρ H kvs ks->(kM kvs k).isSome=(sL ks (Sum.inl k:Key)).isSome/\∀x,kM kvs k=some x->∃v,sL ks (Sum.inl k:Key)=some v/\AV K ρ H x v
 | [],[],k,_=>⟨rfl,λx h=>nomatch h⟩
 | p::r,q::r',k,⟨⟨e,a⟩,t⟩=>by
  by_cases c:p.1=k
  ·have c':q.1=(Sum.inl k:Key):=by rw[e,c]
   rw[Ho c,tW c'];exact⟨rfl,λx h=>by cases h;exact⟨_,rfl,a⟩⟩
  ·have c':¬q.1=(Sum.inl k:Key):=λz=>c<|Vn<|e.symm.trans z;rw[HV c,t6 c'];exact DI.look k t
theorem DI.repl{x:A}{v:V}(h:AV K ρ H x v)(k:Int):∀{kvs:List<|Int×A}{ks:List<|Key×V},DI K ρ H kvs ks->DI K ρ H (kvs.map λkv=>if kv.1=k then(kv.1,x)else kv) (ks.map λkv=>if kv.1=(Sum.inl k:Key)then(kv.1,v)else kv)
 | [],[],_=>trivial
 | p::r,q::r',⟨⟨e,a⟩,t⟩=>by
  refine⟨?_,DI.repl h k t⟩;dsimp only;by_cases c:p.1=k
  ·rw[aK c,aK<|by rw[e,c]];exact⟨e,h⟩
  ·rw[aJ c,aJ λz=>c<|Vn<|e.symm.trans z];exact⟨e,a⟩
theorem DI.snoc{x:A}{v:V}(h:AV K ρ H x v)(k:Int):∀{kvs:List<|Int×A}{ks:List<|Key×V},DI K ρ H kvs ks->DI K ρ H (kvs++[(k,x)]) (ks++[(Sum.inl k,v)])
 | [],[],_=>⟨⟨rfl,h⟩,trivial⟩
 | p::r,q::r',⟨a,t⟩=>⟨a,DI.snoc h k t⟩
def DI.put{x:A}{v:V}(h:AV K ρ H x v)(k:Int){ks:List<|Key×V}(d:DI K ρ H kvs ks):DI K ρ H (uG kvs k x) (putK ks (Sum.inl k:Key) v):=by
 unfold uG putK;rw[xT,<- (d.look k).1];by_cases c:(kM kvs k).isSome=true
 ·rw[aK c,aK c];exact DI.repl h k d
 ·rw[aJ c,aJ c];exact DI.snoc h k d
def DI.length:∀{kvs:List<|Int×A}{ks:List<|Key×V},DI K ρ H kvs ks->kvs.length=ks.length
 | [],[],_=>rfl
 | _::_,_::_,⟨_,t⟩=>dm (·+1) t.length
theorem DI.keys:∀{kvs:List<|Int×A}{ks:List<|Key×V},DI K ρ H kvs ks->ks.map (·.1)=kvs.map λkv=>(Sum.inl kv.1:Key)
 | [],[],_=>rfl
 | _::_,_::_,⟨⟨e,_⟩,t⟩=>by rw[bU,bU,e,DI.keys t]
def Rel.o5{n:Nat}{a:ak}(R:Rel K ρ H S)(ha:ρ[n]?=some a)(hS:S[n]?=some (.o5 xs)):∃vs,H a=some (.dK vs)/\DI K ρ H xs vs:=R.at n a _ ha hS
def Rel.Uc{S:iI}{p:ak}(R:Rel K ρ H S)(hp:H p=none)(r:DI K ρ H xs vs):Ext ρ (ρ++[p]) H (upd H p<|.dK vs)/\Rel K (ρ++[p]) (upd H p<|.dK vs) (S++[.o5 xs])/\(ρ++[p])[S.length]?=some p:=by
 have ex:Ext ρ (ρ++[p]) H (upd H p<|.dK vs):=⟨⟨eU _ _,λa u _ h=>by rw[iS<|iX h hp];exact h⟩,λa u h _=>by rw[iS<|iX h hp];exact h,λa h=>by
  rcases bF.mp h with z|z
  ·exact .inl z
  ·have e:a=p:=by simpa using z
   rw[e];exact .inr hp⟩
 have np:p∉ρ:=R.EV hp;have last:(ρ++[p])[S.length]?=some p:=by rw[<- R.len];simp
 refine⟨ex,⟨by simp[R.len],?_,?_⟩,last⟩
 ·rw[di];refine⟨R.nd,by simp,λa ha b hb e=>?_⟩;have:b=p:=by simpa using hb
  exact np<|by rw[<- this,<- e];exact ha
 ·intro n a o h1 h2;by_cases hn:n<S.length
  ·rw[bh<|by rw[R.len];exact hn]at h1;rw[bh hn]at h2;have na:a≠p:=λz=>np (by rw[<- z];exact aY h1);have:=R.at n a o h1 h2
   cases o with
   | lst ys=>obtain⟨ws,e,q⟩:=this;exact⟨ws,by rw[iS na];exact e,q.ext ex⟩
   | dct _|o5 _|qp _=>obtain⟨ws,e,q⟩:=this;exact⟨ws,by rw[iS na];exact e,q.ext ex⟩
   | ins _ _=>obtain⟨oo,uu,e⟩:=this;exact⟨oo,uu,by rw[iS na];exact e⟩
  ·have e:n=S.length:=by
    have:=(aM.mp h2).1;simp at this
    lia
   subst e;rw[last]at h1
   cases h1
   simp at h2;subst h2;exact⟨vs,jA,r.ext ex⟩
def Rel.uG{S:iI}{n:Nat}{a:ak}(R:Rel K ρ H S)(ha:ρ[n]?=some a)(hS:S[n]?=some (.o5 xs))(r:DI K ρ H ys ws):Ext ρ ρ H (upd H a<|.dK ws)/\Rel K ρ (upd H a<|.dK ws) (S.set n<|.o5 ys):=by
 obtain⟨vs,e,_⟩:=R.at n a _ ha hS;have ex:Ext ρ ρ H (upd H a<|.dK ws):=⟨⟨dU _,λb u i h=>by
  have:b≠a:=by
   intro z;subst z;rw[e]at h;cases h;exact i
  rw[iS this];exact h⟩,λb u h n=>by
  rw[iS λz=>n<|by rw[z];exact aY ha];exact h,λ_ h=>.inl h⟩
 refine⟨ex,by rw[bO];exact R.len,R.nd,λm b o h1 h2=>?_⟩;by_cases hm:m=n
 ·subst hm;rw[ha]at h1;cases h1;rw[bE (aM.mp hS).1]at h2
  cases h2
  exact⟨ws,jA,r.ext ex⟩
 ·rw[bL<|dg hm]at h2;have nb:b≠a:=λz=>by
   subst z;obtain⟨l1,e1⟩:=aM.mp ha;obtain⟨l2,e2⟩:=aM.mp h1;exact hm<|(c8 R.nd).mp<|e2.trans e1.symm
  have:=R.at m b o h1 h2
  cases o with
  | lst ys=>obtain⟨ws',e',q⟩:=this;exact⟨ws',by rw[iS nb];exact e',q.ext ex⟩
  | dct _|o5 _|qp _=>obtain⟨ws',e',q⟩:=this;exact⟨ws',by rw[iS nb];exact e',q.ext ex⟩
  | ins _ _=>obtain⟨oo,uu,e'⟩:=this;exact⟨oo,uu,by rw[iS nb];exact e'⟩
end
section
variable {X:Cx}{pos:Pos}{a b:aE}
abbrev wu (x y:A)(S:iI):R A:=match x,y with
 | .ref n,.int k=>opt (jR S n) λkvs=>opt (kM kvs k) λv=>.ok v S
 | _,_=>.no
def GY{x:A}{P:A->iI->Prop}{E:Str->iI->Prop}(h:(wu x y S).post P E):∃n k kvs v,x=.ref n/\y=.int k/\jR S n=some kvs/\kM kvs k=some v/\P v S:=by
 unfold wu at h;split at h
 ·obtain⟨kvs,h1,h⟩:=iR h;obtain⟨v,h2,h⟩:=iR h;exact⟨_,_,kvs,v,rfl,rfl,h1,h2,h⟩
 ·exact h.elim
def Ud(hu:X.A.units+64<cLine):NW X (r2 X wu):=λvalue slice pins s σ H x y v u Q I rx ry ⟨ρ,S,a,b,R,va,vb,h⟩ hs=>by
 obtain⟨n,k,kvs,z,ha,hb,hn,hz,hP⟩:=GY h;subst ha hb
 cases vb
 cases va with
 | @ref p _ hp=>
  obtain⟨ks,e,d⟩:=R.o5 hp<|nj hn;obtain⟨w,hw,aw⟩:=(d.look k).2 z hz;have g:Ak H p (kV<|Sum.inl k) (sL ks<|Sum.inl k):=Ak.k e;rw[hw]at g;exact OQ () value slice pins s σ H _ _ v u Q I rx ry ⟨p,w,rfl,g,hP _ _ _ .refl R aw⟩ hs
def LY(hu:X.A.units+64<cLine){ca cb:Ex}(ha:AE X a ca)(hb:AE X b cb)(hs:vn b:=by exact λ_ _=>rfl):AE X (.Subscript a b pos) (iJ wu ca cb):=PE.imp (Kq (Ud hu) ha hb hs) λσ H Q h=>rK h
abbrev yt (o i v:A)(S:iI):R Unit:=match o,i with
 | .ref n,.int k=>opt (jR S n) λkvs=>gd (kvs.length<sizeLine) (.ok Unit.unit<|S.set n<|.o5<|uG kvs k v)
 | _,_=>.no
def CK{x v:A}{S:iI}{P:Unit->iI->Prop}{E:Str->iI->Prop}(h:(yt x y v S).post P E):∃n k kvs,x=.ref n/\y=.int k/\jR S n=some kvs/\kvs.length<sizeLine/\P Unit.unit (S.set n<|.o5<|uG kvs k v):=by
 unfold yt at h;split at h
 ·obtain⟨kvs,h1,h⟩:=iR h;obtain⟨h2,h⟩:=i6 h;exact⟨_,_,kvs,rfl,rfl,h1,h2,h⟩
 ·exact h.elim
abbrev Wb (X:Cx):Cf:=λo i v H Q=>∃ρ S ao ai av,Rel X.K ρ H S/\AV X.K ρ H ao o/\AV X.K ρ H ai i/\AV X.K ρ H av v/\(yt ao ai av S).post (λ_ S'=>∀ρ' H',Ext ρ ρ' H H'->Rel X.K ρ' H' S'->Q H') (XE X ρ H)
def Pf(hu:X.A.units+64<cLine):Bh X (Wb X):=λpins s σ H o i v ov iv u Q I ro ri rv h9=>by
 obtain⟨ρ,S,ao,ai,av,R,h1,h2,h3,h⟩:=h9;obtain⟨n,k,kvs,ha,hb,hn,hl,hP⟩:=CK h;subst ha hb
 cases h2
 cases h1 with
 | @ref p _ hp=>
  obtain⟨ks,e,d⟩:=R.o5 hp<|nj hn;obtain⟨ex,R'⟩:=R.uG hp (nj hn)<|d.put h3 k;exact set_dict (by omega) pins s σ H _ _ v ov iv u Q I ro ri rv ⟨p,_,rfl,KS.k (k:=Sum.inl k) e<|by rw[<- d.length];exact hl,hP _ _ ex R'⟩
abbrev Hg (co ci:Ex):Tg:=λa τ S=>(co τ S).bind λo S1=>(ci τ S1).bind λi S2=>(yt o i a S2).bind λ_ S3=>.ok τ S3
def D6(hu:X.A.units+64<cLine){co ci:Ex}(ho:AE X o co)(hi:AE X i ci)
  (ha:∀v,assign (.Subscript o i pos) X.env v=(do
   let ov <- holding [v] (eval o X.env)
   let iv <- holding [v,ov] (eval i X.env)
   standAt pos
   holding [v,ov,iv] (setItem ov iv v)
   release [v,ov,iv] []):=by intro _;rfl):AG X (.Subscript o i pos) (Hg co ci):=PG.imp (DE ho hi (Pf hu) ha) λv σ H Q h9=>by
 obtain⟨ρ,S,τ,a,R,r,va,h⟩:=h9;gp_on;kcf_m;cb_eq
abbrev DS:Ex:=λ_ S=>.ok (.ref S.length)<|S++[.o5 []]
def Jd:AE X (.Dict [] [] pos) DS:=PE.imp JE λσ H Q ⟨ρ,S,τ,R,r,h⟩ p hp=>by
 obtain⟨ex,R',hl⟩:=R.Uc (xs:=[]) (vs:=[]) hp trivial;exact h _ _ _ ex R'<|.ref hl
abbrev dk? (a:A)(S:iI):Option Unit:=match a with
 | .ref n=>(jR S n).map λ_=>Unit.unit
 | _=>none
abbrev HE (f:A->ad->iI->R A)(co:Ex)(d:p5):Ex:=λτ S=>(co τ S).bind λx S1=>opt (dk? x S1) λ_=>(d τ S1).bind λas S2=>f x as S2
def dk?_ty{K:au}{H:Hp}{x:A}{v:V}(R:Rel K ρ H S)(a:AV K ρ H x v)(e:dk? x S=some u):V2 K "dict" v H:=by
 cases a with
 | @ref p n h=>
  obtain⟨xs,hx,_⟩:=bu.mp e;obtain⟨vs,h1,_⟩:=R.o5 h<|nj hx;exact .inr<|.inr<|.inl ⟨rfl,.inl ⟨vs,h1⟩⟩
 | _=>cases e
def JM{e:aE}{id:String}{apos cpos:Pos}{f:A->ad->iI->R A}{co:Ex}{d:p5}(slot:Slot "dict" name id)(hty:typeOf (.builtin id)=pure (.type "method_descriptor"))(hm:T5 X id<|rM X f)(ho:AE X o co)(ha:AL X (e::es) d)
  (hbase:attributeBase o name X.env (eval o X.env)=eval o X.env:=by rfl)
  (hfew:((backTo cpos<|starEach (e::es) X.env).all (λx=>!x.1) && (backToKw cpos<|keywordEach [] X.env).all (λx=>x.1.isSome)
   && decide ((e::es).length+([]:List Keyword).length+(if ([]:List Keyword).isEmpty then 0 else 1)<30))=true:=by rfl)
  (hline:(apos.endLine == cpos.line)=true:=by rfl) (hs:starEach (e::es) X.env=(false,eval e X.env)::starEach es X.env:=by rfl) (hplain:(backTo cpos<|starEach es X.env).any (·.1)=false:=by rfl) :
  AE X (.Call (.Attribute o name apos) (e::es) [] cpos) (HE f co d):=PE.imp (PR PySem.F.plainAttrs_dict slot hty hm ho ha hbase hfew hline hs hplain) λσ H Q h9=>by
 z_go;refine⟨ρ,S,τ,R,r,iG (iM h) .refl λx S1 h1 ρ1 H1 v e1 R1 v1=>?_⟩;obtain⟨xs,hx,h1⟩:=iR h1;refine⟨dk?_ty R1 v1 hx,ρ1,S1,τ,R1,r.ext e1,iG (iM h1) e1 λas S2 h2 ρ2 H2 vs e2 R2 v2=>?_⟩;exact⟨ρ2,S2,x,as,R2,v1.ext e2,v2,iG h2 (e1.trans e2) λ_ _ z=>z.ext<|e1.trans e2⟩
abbrev u_ (o:A)(as:ad)(S:iI):R A:=match o,as with
 | .ref n,[.int k,y]=>opt (jR S n) λkvs=>.ok ((kM kvs k).getD y) S
 | _,_=>.no
def Dh{x:A}{P:A->iI->Prop}{E:Str->iI->Prop}(h:(u_ x as S).post P E):∃n k y kvs,x=.ref n/\as=[.int k,y]/\jR S n=some kvs/\P ((kM kvs k).getD y) S:=by
 unfold u_ at h;split at h
 ·obtain⟨kvs,h1,h⟩:=iR h;exact⟨_,_,_,kvs,rfl,rfl,h1,h⟩
 ·exact h.elim
def LS(hu:X.A.units+64<cLine):T5 X "dict.get" (rM X u_):=λpins s σ H x vs v us Q I rx rv h9=>by
 obtain⟨ρ,S,o,as,R,vo,va,h⟩:=h9;obtain⟨n,k,y,kvs,ho,has,hn,hP⟩:=Dh h;subst ho has;obtain⟨w1,w2,rfl,hz,hy⟩:=TX va
 cases hz
 cases vo with
 | @ref p _ hp=>
  obtain⟨ks,h1,dv⟩:=R.o5 hp (nj hn)
  cases rx
  obtain⟨u1,u2,rfl,r1,r2⟩:=vals2 rv;refine SW () I (Ak.k (k:=Sum.inl k) h1) r1 r2 λw' s' I' rw'=>⟨_,H,I',rw',hP _ _ _ .refl R ?_⟩;obtain⟨l1,l2⟩:=dv.look k
  cases e1:kM kvs k with
  | none=>
   rw[e1]at l1
   cases e2:sL ks (Sum.inl k:Key)with
   | none=>exact hy
   | some _=>rw[e2]at l1;cases l1
  | some x1=>
   obtain⟨v1,e2,a1⟩:=l2 x1 e1;rw[e2];exact a1
end
end Am
namespace L2
open PySem PySem.Spec PyProof.Rows
section
variable {P:aj}{w:ah}{A:aA}{E:af->aC->Prop}{s:aC}
def G5:typeLookup (.type "list") "keys" = pure none:=am_miss_of_fast<|by kernel_rfl
def GX{a:ak}{o:Obj}{k:Nat}{Q:bb->aC->Prop}(hx:s.heap.get? a=some o)(hc:o.cls=.type "list")(hdat:o.data=.seq xs k)(hd:o.dict=none)(hA:A.handled=none)
  (h:∀h' tk,(∀b ob,s.heap.get? b=some ob->h'.get? b=some ob)->Q none { s with heap:=h',toks:=tk }):wpAny (model P w) A (getAttr? (.ref a) "keys") Q E s:=by
 obtain⟨c,dct,dat,sl⟩:=o;simp only at hc hdat hd;subst hc hdat hd;obtain⟨hp,g,d,tk,os⟩:=s;have hT:∀tk',(⟨hp,g,d,tk',os⟩:aC).TypeIs (.ref a) "list" := λ_=>⟨_,hx,rfl⟩;have f1:=sub_AttributeError;have f3:=fN.lookup;have f4:=fN.bind<|.ref a;have f5:=am_list_getattr_none;unfold getAttr? getAttrBy? getAttrBy
 repeat (any_goals (first|assumption|exact hT _|((with_reducible show wpAny _ _ (call (Value.builtin "list.__getattribute__") _ _) _ _ _);refine iu fN (hT _) am_entry_list_getattribute (F.args_list_getattribute_2 _ _) (meets_getattribute_miss_list a xs k sl "keys" _ G5 ⋯ (by size_fits)) ⟨hx,hA,λh' tk' e hx'=>?_⟩)|wp_step))
 obtain⟨t',u',he⟩:=hx'.there
 skip
 unfold getattributeRaised
 repeat (any_goals (first|assumption|wp_step))
 exact h _ _ hx'.keeps
def yW:entryFor table "dict.update.loop" = some Builtin.«dict.update.loop»:=entryFor_of_tree<|by kernel_rfl
def rE:plainId "dict.update.loop" = true:=by decide +kernel
abbrev Kg (h:aq)(d I:ak)(its:ar)(ps:List<|Int×af):Prop:=∀(i:Nat) (v:af),its[i]?=some v->∃(b:ak) (p:Int×af) (t:Tok),v=.ref b/\b≠d/\b≠I/\ps[i]?=some p/\IsTup h b #[.int p.1 t,p.2]
def Kg.mono{h h':aq}{d:ak}(x:Kg h d I its ps)(k:∀b o,b≠d->b≠I->h.get? b=some o->h'.get? b=some o):Kg h' d I its ps:=λi v hv=>by
 obtain⟨b,p,t,h1,h2,h3,h4,o,h5,h6⟩:=x i v hv;exact⟨b,p,t,h1,h2,h3,h4,o,k b o h2 h3 h5,h6⟩
abbrev Sf (ps:List<|Int×af):List (Key×af):=ps.foldl (λacc p=>stored acc (Sum.inl p.1) p.2) []
def Jp(ps:List<|Int×af)(i:Nat)(p:Int×af)(h:ps[i]?=some p):Sf (ps.take<|i+1)=stored (Sf<|ps.take i) (Sum.inl p.1) p.2:=by
 unfold Sf;rw[gb,h,eG];rfl
theorem F2:∀(ps:List<|Int×af) (acc:List<|Key×af),(ps.foldl (λacc p=>stored acc (Sum.inl p.1) p.2) acc).length<=acc.length+ps.length
 | [],acc=>aQ _
 | p::ps,acc=>by
  have:=F2 ps<|stored acc (Sum.inl p.1) p.2;have h:(stored acc (Sum.inl p.1) p.2).length<=acc.length+1:=by
   unfold stored;split
   ·rw[aL];lia
   ·rw[aX];exact aQ _
  rw[d9,bz]
  lia
def MU{R:Result->aC->Prop}{I d:ak}{St:Nat->aq->Prop}{its:ar}{ps:List<|Int×af}(W:Walks P w A.in1 I [I,l] [I] its.length (λi v=>its[i]?=some v) St)(hdI:d≠I)(hdl:d≠l)(hl:ps.length=its.length)(hz:ps.length<=sizeLine) :
  ∀(k i:Nat) (s:aC),its.length-i=k->i<=its.length->St i s.heap->s.heap.DictOf (jo P w) d (Sf<|ps.take i)->Kg s.heap d I its ps ->
   (∀h' tk,h'.DictOf (jo P w) d (Sf ps)->(∀b o,b≠d->b≠I->s.heap.get? b=some o->h'.get? b=some o)->R (.ok<|.ret .none) { s with heap:=h',toks:=tk }) ->
   codeAny (model P w) A (.builtin "dict.update.loop" ⟨[.ref d,.ref I,rawInt i,.none],[]⟩) R s:=by
 intro k
 induction k with
 | zero=>
  intro i s hk hi hst hD hP hR;have hin:i=its.length:=()
  subst hin;refine gI yW ?_;rw[fu rE _]
  skip
  refine aH (W.done s _ _ hst λh' tk hm=>?_)
  skip
  refine aH (aO<|aO<|hR h' tk ?_ λb o _ h2 e=>hm b o (by simpa using h2) e);rw[<- hl,gw]at hD;obtain⟨o,es,ep,ho,rest⟩:=hD;exact⟨o,es,ep,hm d o (by simpa using hdI) ho,rest⟩
 | succ k ih=>
  intro i s hk hi hst hD hP hR;have hlt:i<its.length:=()
  refine gI yW ?_;rw[fu rE _]
  skip
  refine aH<|W.item i s _ _ hlt hst λv h' tk hv hst' hm=>?_;have hP':Kg h' d I its ps:=hP.mono λb o h1 h2 e=>hm b o (by simpa using h2) e;obtain⟨b,p,t,rfl,hbd,hbI,hp,o,ho,hc,n,hd⟩:=hP' i v hv;have hD':h'.DictOf (jo P w) d (Sf<|ps.take i):=by
   obtain⟨o,es,ep,ho,rest⟩:=hD;exact⟨o,es,ep,hm d o (by simpa using hdI) ho,rest⟩
  have hT:Shared.TypeIs { s with heap:=h',toks:=tk } (.ref b) "tuple" := ⟨o,ho,hc⟩;have hpair:∀(A:aA) (E:af->aC->Prop) (Q:ar->aC->Prop),Q [.int p.1 t,p.2] { s with heap:=h',toks:=tk }->wpAny (model P w) A (Builtin.Dict.pairItems<|.ref b) Q E { s with heap:=h',toks:=tk }:=λA E Q q=>by
   unfold Builtin.Dict.pairItems;refine aH<|fX hT ?_;rw[aK ⋯];refine aH<|f6 ho hd<|aO q
  have hlen:(Sf<|ps.take i).length<=sizeLine:=by
   refine bP (F2 (ps.take i) []) ?_;rw[bq,cg]
   lia
  refine aH (dh<|aH<|wpAny_tryCatch<|hpair _ _ _ ?_)
  skip
  refine dh (wpAny_dictSet_pairs (hsz:=hlen) (knd:=jo P w) (k:=Sum.inl p.1) (s:={ s with heap:=h',toks:=tk }) (show Value.isInt p.1 (.int p.1 t)=true by simp[Value.isInt]) hD' λh2 hD2 hs=>?_);refine aO ⟨plainId_quiet rE _,?_⟩;have hsame:∀b o,b≠d->b≠I->s.heap.get? b=some o->h2.get? b=some o:=λb o h3 h4 e=>by rw[hs.2 b h3];exact hm b o (by simpa using h4) e
  refine ih (i+1) _ () hlt (W.frame _ _ _ hst' λb hb o e=>?_) (by rw[Jp ps i p hp];exact hD2) (hP.mono hsame) λh3 tk3 hD3 hs3=>hR h3 tk3 hD3 λb o h4 h5 e=>hs3 b o h4 h5<|hsame b o h4 h5 e;have hne:b≠d:=by
   intro z;subst z
   rcases bJ.mp hb with z|z
   ·exact hdI z
   ·exact hdl<|by simpa using z
  skip
  rw[hs.2 b hne];exact e
theorem yP{H:Hp}{X:Cx}(I:Inv X pins σ H s):∀(rs:ba) (ps:List<|Int×V),rs.length=ps.length->(∀(i:Nat) (r:ak) (q:Int×V),rs[i]?=some r->ps[i]?=some q->lR X.K H r [.int q.1,q.2]) ->
  ∃qs:List<|Int×af,KV ps qs/\∀(i:Nat) (r:ak),rs[i]?=some r->∃q t,qs[i]?=some q/\IsTup s.heap r #[.int q.1 t,q.2]
 | [],[],_,_=>⟨[],.nil,λi r h=>by simp at h⟩
 | [],_::_,h,_=>nomatch h
 | _::_,[],h,_=>nomatch h
 | r::rs,p::ps,hl,hh=>by
  obtain⟨qs,h1,h2⟩:=yP I rs ps (by simpa using hl) λi r q e1 e2=>hh (i+1) r q (by simpa using e1) (by simpa using e2);obtain⟨its,rv,tp,_⟩:=I.tuple<|hh 0 r p rfl rfl;obtain⟨u1,u2,rfl,r1,r2⟩:=vals2 rv;obtain⟨t,rfl⟩:∃t,u1=Value.int p.1 t:=r1;refine⟨(p.1,u2)::qs,.cons ⟨rfl,r2⟩ h1,λi r' e=>?_⟩
  cases i with
  | zero=>cases e;exact⟨(p.1,u2),t,rfl,tp⟩
  | succ i=>exact h2 i r'<|by simpa using e
abbrev WJ (ps:List<|Int×V):List (Key×V):=ps.foldl (λacc p=>putK acc (Sum.inl p.1) p.2) []
def Ua:∀{ps:List<|Int×V}{qs:List<|Int×af},KV ps qs->∀{as:List<|Key×V}{bs:List<|Key×af},KV as bs->KV (ps.foldl (λacc p=>putK acc (Sum.inl p.1) p.2) as) (qs.foldl (λacc p=>stored acc (Sum.inl p.1) p.2) bs):=by
 intro ps qs h;unfold KV at h
 induction h with
 | nil=>exact λh=>h
 | @cons p q ps qs h t ih=>
  intro as bs h2;rw[d9,d9];obtain⟨e,r⟩:=h;rw[e];exact ih<|h2.put _ r
theorem Gn:∀(ps:List<|Int×V) (acc:List<|Key×V),(ps.foldl (λacc p=>putK acc (Sum.inl p.1) p.2) acc).length<=acc.length+ps.length
 | [],acc=>aQ _
 | p::ps,acc=>by
  have:=Gn ps<|putK acc (Sum.inl p.1) p.2;have:=qI acc (Sum.inl p.1) p.2;rw[d9,bz]
  lia
end
section
variable {X:Cx}
def Dq(hc:X.calm=true):jl X (.type "dict") (λxs H Q=>∃(p:ak) (rs:ba) (ps:List<|Int×V),xs=[.ref p]/\nE X.K H p (rs.map V.ref)/\rs.length=ps.length /\
  (∀(i:Nat) (r:ak) (q:Int×V),rs[i]?=some r->ps[i]?=some q->lR X.K H r [.int q.1,q.2])/\∀l,H l=none->Q (.ref l) (upd H l<|.dK<|WJ ps)):=by
 kt_k;obtain⟨p,rs,ps,rfl,hq,hlen,hT,q⟩:=h;kpf_c
 cases rx
 obtain⟨its,rv,pl,hz⟩:=I.list hq;have ei:=yL rv;subst ei;rw[aL]at hz;obtain⟨qs,kv,tp⟩:=yP I rs ps hlen hT;have ql:ps.length=qs.length:=kv.length;obtain⟨o,n,ho,hcl,hdn,hd⟩:=pl;have lp:p<s.heap.objs.size:=br ho;refine callType_codes (Q₁:=λobj s₁=>obj=.ref s.heap.objs.size/\s₁={ s with heap:=s.heap.push { cls:=.type "dict",data:=.dict #[]}}) F.kt_called_dict (F.kt_typeCall_dict_1 _) F.entry_dict_init (kt_code_dict_new _ ⟨rfl,rfl⟩) ?_;rintro obj s₁ ⟨rfl,rfl⟩;have hnew:(s.heap.push { cls:=.type "dict",data:=.dict #[]}).DictOf (jo X.prog X.w) s.heap.objs.size []:=Heap.DictOf.new s.heap;have ho':(s.heap.push { cls:=.type "dict",data:=.dict #[]}).get? p=some o:=aR _ ho;have hTy:Shared.TypeIs { s with heap:=s.heap.push { cls:=.type "dict",data:=.dict #[]}} (.ref p) "list" := ⟨o,ho',hcl⟩;refine⟨hnew.typeIs,F.args_dict_init_2 _ _,?_⟩;unfold Builtin.«dict.__init__»;refine aH ?_;unfold Builtin.Dict.selfAndRest;refine aH (wpAny_notOrdered_dict hnew.typeIs ?_)
 skip
 refine aO ?_;show wpAny _ _ (Builtin.Dict.updateFrom "dict.__init__" s.heap.objs.size (.ref p) [] .none) _ _ _;unfold Builtin.Dict.updateFrom;refine aH<|fX hTy ?_;rw[aK ⋯];refine aH<|GX ho' hcl hd hdn (show X.A.in1.in1.handled=none from I.ok.hd hc) λh' tk hk=>?_;rw[aK<|by rfl];refine aH<|dX ?_;have hl2:h'.IsList p (rs.map Value.ref).toArray:=⟨o,hk p o ho',hcl,n,hd⟩;refine aH<|wpAny_pyIter_list (s:={ s with heap:=h',toks:=tk }) hl2 ?_;refine aO ⟨plainId_quiet rE _,?_⟩;have sz:s.heap.objs.size<h'.objs.size:=br<|hk _ _<|bB _ rfl;have W:Walks X.prog X.w X.A.in1.in1 h'.objs.size [h'.objs.size,p] [h'.objs.size] (rs.map Value.ref).length (λi v=>(rs.map Value.ref)[i]?=some v) (λi h=>h.IsListIter h'.objs.size p i/\h.IsList p (rs.map Value.ref).toArray):=by
  have W:=Walks.list (prog:=X.prog) (w:=X.w) (A:=X.A.in1.in1) (I.ok.hd hc) h'.objs.size p (bD<|br<|hk p o ho') (rs.map Value.ref).toArray;rw[aW]at W;dsimp[d7]at W;exact W
 refine MU (d:=s.heap.objs.size) (its:=rs.map Value.ref) (ps:=qs) W (bD sz) (dg<|bD lp) (by rw[aL];lia) () (rs.map Value.ref).length 0 _ () (cL _)
  ⟨⟨_,bB _ rfl,rfl,rfl⟩,hl2.push _⟩ ?_ (λi v hv=>?_) λh2 tk2 hD hs=>⟨rfl,.ref s.heap.objs.size,_,I.laid (t':=tk2) (o:=.dK<|WJ ps) (λb ob eb=>?_) (aQ _) ?_,rfl,q _<|I.hok.fresh<|aQ _⟩
 ·obtain⟨o,es,ep,e,rest⟩:=hnew;exact⟨o,es,ep,aR _<|hk _ _ e,rest⟩
 ·rw[a_]at hv;obtain⟨r,hr,rfl⟩:=bu.mp hv;obtain⟨q,t,h1,o2,h2,h3⟩:=tp i r hr;have lr:=br h2;exact⟨r,q,t,rfl,bD lr,bD<|lt_trans lr sz,h1,o2,aR _<|hk _ _<|aR _ h2,h3⟩
 ·have lb:=br eb;exact hs b ob (bD lb) (bD<|lt_trans lb sz) (aR _<|hk _ _<|aR _ eb)
 ·refine Mv (bP (Gn ps [])<|by rw[cg];lia) ?_ (Ua kv .nil) hD;exact cW.mpr<|dg<|bD I.big
abbrev Ob (ns:ae):Sx.Ord where
 lt i j:=decide (ns.getD i 0<ns.getD j 0)
 Ot i:=aS ()
 tr i j k h1 h2:=aT (by have:=cB h1;have:=cB h2;lia)
 neg i j k h:=by
  have:=cB h;by_cases c:ns.getD i 0<ns.getD j 0
  ·exact .inl (aT c)
  ·exact .inr<|aT ()
theorem vH:∀{vs:ar}{ns:ae},IntsAre vs ns->vs.length=ns.length/\∀i,i<vs.length->∃t,vs.getD i .none=.int (ns.getD i 0) t
 | _,_,.nil=>⟨rfl,λi h=>absurd h<|d_ _⟩
 | _,_,.cons n t h=>by
  obtain⟨h1,h2⟩:=vH h;refine⟨dm (·+1) h1,λi hi=>?_⟩
  cases i with
  | zero=>exact⟨t,rfl⟩
  | succ i=>exact h2 i<|by simpa using hi
theorem wM{f:Nat->Int}{h:Nat->af}:∀(l:ag),(∀i∈l,∃t,h i=.int (f i) t)->Vals (l.map λi=>V.int<|f i) (l.map h)
 | [],_=>.nil
 | i::l,e=>.cons (e i<|aN ..)<|wM l λj hj=>e j<|aP _ hj
def C2{s:aC}{H:Hp}{Q:VK}{h':aq}{tk:Nat}{vs:ar}{ns:ae}(I1:Inv X pins σ H { s with heap:=h',toks:=tk })(hi:IntsAre vs ns)(hz:vs.length<=sizeLine)
  (q:∀l g,H l=none->Sx.Cl g 0 ns.length->Sx.So (Ob ns) g 0 ns.length->Q (.ref l) (upd H l<|.lst<|(List.range ns.length).map λi=>V.int<|ns.getD (g i) 0)) :
  wpAny (model X.prog X.w) X.A.in1 (do
   let l <- newList vs
   let _ <- holding [l] (call (Value.builtin "list.sort") [l] [])
   ret l) (λfin s'=>∃v,fin=Fin.done (Flow.ret v)/\EP X pins σ Q v s') X.xe { s with heap:=h',toks:=tk }:=by
 obtain⟨hN,at_⟩:=vH hi;refine aH<|wpAny_newList ?_;have hoL:(h'.push<|seqObj "list" vs.toArray 0).get? h'.objs.size=some (seqObj "list" vs.toArray 0):=bB _ rfl
 skip
 refine aH (dh<|dS slot_list_sort ⟨_,hoL,rfl⟩ entry_list_sort (Sx.HL (o:=Ob ns) (kd:=oneType') hoL hz (λh2 Q' q'=>?_) (λh2 i j hi' hj E' Q' q'=>?_) λg hc hs=>⟨_,rfl,?_⟩)<|args_list_sort _)
 ·obtain⟨a,b,r,rfl⟩:∃a b r,vs=a::b::r:=by
   cases vs with
   | nil=>simp at h2
   | cons a vs=>cases vs with
    | nil=>simp at h2
    | cons b r=>exact⟨a,b,r,rfl⟩
  exact wpAny_of_eq (keyKind_ints hi) q'
 ·obtain⟨t,e1⟩:=at_ i hi';obtain⟨u,e2⟩:=at_ j hj;show wpAny _ _ (keyLt' oneType' (vs.getD i .none)<|vs.getD j .none) Q' E' _;rw[e1,e2,keyLt'_oneType];exact Sx.NU true q'
 ·rw[hN]at hc hs ⊢;obtain⟨e,he⟩:=sortedHeap_at (out:=((List.range ns.length).map λi=>vs.getD (g i) .none).toArray) hoL;have old:∀b ob,h'.get? b=some ob->(sortedHeap (h'.push<|seqObj "list" vs.toArray 0) h'.objs.size vs ((List.range ns.length).map λi=>vs.getD (g i) .none).toArray).get? b=some ob:=λb ob eb=>by
   rw[sortedHeap_old (bD<|br eb)<|by rw[fY];exact Nat.lt_succ_of_lt<|br eb];exact aR _ eb
  refine aO ⟨_,rfl,.ref h'.objs.size,_,I1.laid (t':=tk) (o:=.lst<|(List.range ns.length).map λi=>V.int<|ns.getD (g i) 0) old (aQ _) ?_,rfl,q _ g (I1.hok.fresh<|aQ _) hc hs⟩;refine⟨by rw[aL,cK];omega,(List.range ns.length).map λi=>vs.getD (g i) .none,e,wM _ λi hi=>at_ _ (by have:=(hc i (cL _)<|dG.mp hi).2;omega),he⟩
def Hv{P:aj}{w:ah}{vs:List<|Key×af}:∀{acc:ar}{ns:ae},vs.map (·.1)=ns.map Sum.inl->acc.length=vs.length->(∀(j:Nat) v,acc[j]?=some v->∃k x,vs[j]?=some (k,x)/\(jo P w).is k v=true)->IntsAre acc ns:=by
 intro acc ns hk hl h
 induction acc generalizing vs ns with
 | nil=>cases vs with
  | nil=>cases ns with
   | nil=>exact .nil
   | cons=>cases hk
  | cons=>cases hl
 | cons a acc ih=>cases vs with
  | nil=>cases hl
  | cons v vs=>cases ns with
   | nil=>cases hk
   | cons n ns=>
    rw[bU,bU,List.cons.injEq]at hk;obtain⟨k,x,e1,e2⟩:=h 0 a rfl
    cases e1
    obtain⟨e3,e4⟩:=hk;have e3:k=Sum.inl n:=e3;subst e3;obtain⟨t,rfl⟩:=Value.isInt_shape (k:=n) (v:=a) e2;exact .cons n t<|ih e4 (by simpa using hl) λj v e=>h (j+1) v<|by simpa using e
def AB(hc:X.calm=true):jl X (.builtin "sorted") (λxs H Q=>∃(d:ak) (kvs:List<|Key×V) (ns:ae),xs=[.ref d]/\H d=some (.dK kvs)/\kvs.map (λp=>p.1)=ns.map Sum.inl /\
  ∀l g,H l=none->Sx.Cl g 0 ns.length->Sx.So (Ob ns) g 0 ns.length->Q (.ref l) (upd H l<|.lst<|(List.range ns.length).map λi=>V.int<|ns.getD (g i) 0)):=by
 kt_k;obtain⟨d,kvs,ns,rfl,ed,ek,q⟩:=h;kpf_c
 cases rx
 obtain⟨z,hd,vs,rel,dd⟩:=Qn I.hok ed;obtain⟨ep,da⟩:=dd.dictAt;have kl:kvs.length=vs.length:=rel.length;have ke:vs.map (·.1)=kvs.map (·.1):=by
  clear ek z dd da kl ed;unfold KV at rel
  induction rel with
  | nil=>rfl
  | cons h _ ih=>rw[bU,bU,ih,h.1]
 refine Calls.call_function_entry kind_sorted plain_sorted entry_sorted (args_sorted1 _) ?_;unfold Builtin.«sorted»;refine aH (m:=checkCount "sorted" 1 1 _)<|aO ?_;refine aH<|PySem.W.kdu_collect (PySem.W.kdl_dict hd) (show X.A.in1.handled=none from I.ok.hd hc) da () λh' tk acc hk hacc=>?_;have al:acc.toList.length=vs.length:=by rw[cD];exact hacc.1
 exact C2 (s:=s) (I.kept (t':=tk) hk) (Hv (P:=X.prog) (w:=X.w) (ke.trans ek) al λj v e=>hacc.2 j v<|by rw[ff]at e;exact e) () q
end
end L2
namespace Am
open PySem PySem.Spec PyProof.Rows L2
abbrev OG:ad->Option (List<|Int×A)
 | []=>some []
 | .tup [.int k,x]::r=>(OG r).map λps=>(k,x)::ps
 | _=>none
abbrev O7 (ps:List<|Int×A):List (Int×A):=ps.foldl (λacc p=>uG acc p.1 p.2) []
section
variable {K:au}{ρ:ba}{H:Hp}
def O3{x:A}(r:AVs K ρ H [x,y] vs):∃v w,vs=[v,w]/\AV K ρ H x v/\AV K ρ H y w:=by
 cases r with
 | cons h t=>cases t with
  | cons h' t'=>cases t';exact⟨_,_,rfl,h,h'⟩
def MF{x:A}(e:OG (x::xs)=some ps):∃k y ps',x=.tup [.int k,y]/\OG xs=some ps'/\ps=(k,y)::ps':=by
 unfold OG at e;split at e
 ·rename_i e2;cases e2
 ·rename_i k y r e2
  cases e2
  obtain⟨ps',h1,h2⟩:=bu.mp e;exact⟨_,_,_,rfl,h1,h2.symm⟩
 ·cases e
def Vh:∀{xs:ad}{vs:List V}{ps:List<|Int×A},AVs K ρ H xs vs->OG xs=some ps ->
  ∃(rs:ba) (qs:List<|Int×V),vs=rs.map V.ref/\rs.length=qs.length/\(∀(i:Nat) (r:ak) (q:Int×V),rs[i]?=some r->qs[i]?=some q->lR K H r [.int q.1,q.2]) /\
   ∀as bs,DI K ρ H as bs->DI K ρ H (ps.foldl (λacc p=>uG acc p.1 p.2) as) (qs.foldl (λacc p=>putK acc (Sum.inl p.1) p.2) bs):=by
 intro xs
 induction xs with
 | nil=>intro vs ps r e;cases r;cases e;exact⟨[],[],rfl,rfl,λi r q h=>by simp at h,λas bs h=>h⟩
 | cons x xs ih=>
  intro vs ps r e;obtain⟨k,y,ps',rfl,e1,rfl⟩:=MF e
  cases r with
  | cons h t=>
   obtain⟨rs,qs,rfl,hl,hh,hd⟩:=ih t e1
   cases h with
   | @tup a _ us h r=>
    obtain⟨v,w,rfl,h1,h2⟩:=O3 r
    cases h1
    refine⟨a::rs,(k,w)::qs,rfl,by rw[bz,bz,hl],λi r q e1 e2=>?_,λas bs d=>hd _ _<|d.put h2 k⟩
    cases i with
    | zero=>cases e1;cases e2;exact lR.of h
    | succ i=>exact hh i r q (by simpa using e1)<|by simpa using e2
end
section
variable {X:Cx}
abbrev CJ (x:A)(S:iI):R A:=match x with
 | .ref n=>opt (iH S n) λxs=>opt (OG xs) λps=>.ok (.ref S.length) (S++[.o5<|O7 ps])
 | _=>.no
def Ov(hc:X.calm=true):jl X (.type "dict") (rN X<|f1 CJ):=jl.imp (Dq hc) λvs H Q h0=>by
 kpc_g;clear h0
 cases hv with
 | ref hp=>
  rename_i p n;kj_on;obtain⟨ps,hb,h⟩:=iR h;obtain⟨us,h1,r⟩:=R.lst hp<|iV hn;obtain⟨rs,qs,rfl,hl,hh,hd⟩:=Vh r hb;refine⟨p,rs,qs,rfl,nE.of h1,hl,hh,λl hl'=>?_⟩;obtain⟨ex,R',hl⟩:=R.Uc (xs:=O7 ps) (vs:=WJ qs) hl'<|hd [] [] trivial;exact h _ _ _ ex R'<|.ref hl
 | _=>exact h.elim
abbrev yf (x:A)(S:iI):R A:=match x with
 | .ref n=>opt (jR S n) λkvs=>.ok (.ref S.length) (S++[.lst<|(sortI<|kvs.map Prod.fst).map .int])
 | _=>.no
def OJ{ns:ae}{g:Nat->Nat}(c:Sx.Cl g 0 ns.length)(so:Sx.So (Ob ns) g 0 ns.length):(List.range ns.length).map (λi=>ns.getD (g i) 0)=sortI ns:=by
 refine ON ?_ ?_ (wJ ns)
 ·refine List.Perm.trans ?_ (sortI_perm ns).symm;have p:=xQ (N:=ns.length) (g:=g) (λi hi=>(c i (cL _) hi).2) λi j hij hj z=>by
   have:=so i j (cL _) hij hj;rw[z]at this;exact this.Ot
  have:=p.map λi=>ns.getD i 0;rw[cH,range_getD]at this;exact this
 ·rw[dj];intro i j hi hj hij;rw[aL,cK]at hi hj;rw[cV,cV,eV,eV];have:=dZ (so i j (cL _) hij hj).ge
  lia
def Nb(hc:X.calm=true):jl X (.builtin "sorted") (rN X<|f1 yf):=jl.imp (AB hc) λvs H Q h0=>by
 kpc_g;clear h0
 cases hv with
 | ref hp=>
  rename_i p n;obtain⟨kvs,hn,h⟩:=iR h;obtain⟨ks,g1,dv⟩:=R.o5 hp<|nj hn;refine⟨p,ks,kvs.map Prod.fst,rfl,g1,by rw[dv.keys,cH];rfl,λl g hl' hc hs=>?_⟩;have av:AVs X.K ρ H ((sortI<|kvs.map Prod.fst).map .int) ((List.range (kvs.map Prod.fst).length).map λi=>V.int<|(kvs.map Prod.fst).getD (g i) 0):=by
   rw[<- OJ hc hs,cH];exact Jq λi _=>.int _
  exact mh R av .refl h l hl'
 | _=>exact h.elim
@[irreducible] noncomputable def big:Nat:=2 ^ 4096
theorem Ae:big=2 ^ 4096:=by unfold big;rfl
theorem Bu{i:Int}(h:i.natAbs<big):Builtin.Int.intBits i<=2 ^ 20:=by
 rw[Ae]at h;exact bP (intBits_le h) ⋯
abbrev E4 (a b:A)(S:iI):R A:=match a,b with
 | .int i,.int j=>gd (i.natAbs<big/\j.natAbs<big) (.ok (.int<|i * j) S)
 | _,_=>.no
def RO:lT X (binaryOp .Mult) (r2 X E4):=λpins s σ H x y v u Q I rx ry h9=>by
 x_go
 cases va with
 | int i=>cases vb with
  | int j=>
   obtain⟨⟨h1,h2⟩,h⟩:=i6 h;obtain⟨t,rfl⟩:∃t,v=Value.int i t:=rx;obtain⟨t',rfl⟩:∃t,u=Value.int j t:=ry;exact mul_int ⟨.int _,H,I.tok _,⟨_,rfl⟩,h _ _ _ .refl R<|.int _⟩<|IntMulOk.of_bits (Bu h1)<|Bu h2
  | _=>exact h.elim
 | _=>exact h.elim
end
def OF:bootBuiltins "dict" = some (.type "dict"):=by decide +kernel
end Am
namespace L2
open PySem PySem.Spec PyProof.Rows
section
variable {X:Cx}{pins:bn}{σ:St}{H:Hp}{s:aC}{a:ak}{xs:List (kh×ak×af)}
def P_{r:ak}{x:ae}(I:Inv X pins σ H s)(h:H r=some (.tup<|x.map V.int)):TK s.heap x r:=by
 obtain⟨_,its,rv,o,h1,h2,_,n,h3⟩:=(show jD _ _ H s.heap r (.tup<|x.map V.int)from I.hok r _ h);exact⟨o,its.toArray,n,h1,h2,h3,by simpa using intsAre_of rv⟩
def vt{k:kh}(I:Inv X pins σ H s)(h:pU H b k):rX s.heap k b:=by
 obtain⟨r1,r2,h1,h2,h3⟩:=h;obtain⟨_,its,rv,o,e1,e2,_,n,e3⟩:=(show jD _ _ H s.heap b (.tup [.ref r1,.ref r2])from I.hok b _ h1);obtain⟨u1,u2,rfl,q1,q2⟩:=vals2 rv
 cases q1
 cases q2
 exact⟨o,n,r1,r2,e1,e2,e3,P_ I h2,P_ I h3⟩
def Lo(I:Inv X pins σ H s)(e:H a=some (.ext<|sM a xs))(hk:∀x∈xs,pU H x.2.1 x.1):(a == sysModules)=false/\xs.length<=sizeLine/\s.heap.DictOfH (B0 X.prog X.w) a xs:=by
 obtain⟨⟨h1,h2,o,es,ep,h3,h4,h5,h6,h7⟩,_⟩:=(show jD _ _ H s.heap a (.ext<|sM a xs)from I.hok a _ e);exact⟨h1,h2,o,es,ep,h3,h4,h5,h6,λx hx=>vt I<|hk x hx,h7⟩
def IX{P:aj}{w:ah}{H':Hp}{h':aq}(h1:(a == sysModules)=false)(h2:xs.length<=sizeLine)(dd:h'.DictOfH (B0 P w) a xs):jD P w H' h' a (.ext<|sM a xs):=by
 obtain⟨o,es,ep,h3,h4,h5,h6,_,h7⟩:=dd;refine⟨⟨h1,h2,o,es,ep,h3,h4,h5,h6,h7⟩,⟨o,h3⟩,λg1 g2 φ k=>?_⟩;obtain⟨q1,q2,o,es,ep,h3,q⟩:=φ;exact⟨q1,q2,o,es,ep,k o h3,q⟩
structure DPg (H:Hp)(a b:ak)(xs:List (kh×ak×af))(k:kh):Prop where
 d:H a=some (.ext<|sM a xs)
 ks:∀x∈xs,pU H x.2.1 x.1
 k:pU H b k
def Uu(hu:X.A.units+32<cLine):NW X (λx y H Q=>∃a b xs k p v,x=.ref a/\y=.ref b/\DPg H a b xs k/\atKey xs k=some p/\RelV v p.2/\Q v H):=by
 ksr_p;obtain⟨a,b,xs,k,p,z,rfl,rfl,g,hp,rz,q⟩:=h
 cases rx
 cases ry
 obtain⟨h1,h2,dd⟩:=Lo I g.d g.ks;have hT:=dd.typeIs;unfold subscriptTail;refine aH ?_;rw[getitemInPython_of_ne hT.not_modules];refine aH<|eW hT PySem.F.slot_dict_getitem.lookup ?_;have fin:wpAny (model X.prog X.w) X.A (subscripted slice false (.ref a)<|.ref b) (λr s₃=>wpAny (model X.prog X.w) X.A (letTemporaryGo value (.ref a) r >>= λ_=>pure r) (EP X pins σ Q) X.xe s₃) X.xe s:=by
  rw[hs];exact wpAny_operating<|wpAny_getItem_heap (show X.A.in1.units+16<cLine by simp;lia) (vt I g.k) dd hp<|aH<|wpAny_letTemporaryGo<|aO ⟨z,H,I.tok _,rz,q⟩
 first
  | exact aO (aH fin)
  | exact aH (aO<|aH fin)
  | exact aH fin
def G8(hu:X.A.units+32<cLine):lT X (compareOp .NotIn) (λy x H Q=>∃a b xs k,x=.ref a/\y=.ref b/\DPg H a b xs k/\Q (.bl<|!(atKey xs k).isSome) H):=by
 intro pins s σ H y x v u Q I ry rx h;obtain⟨a,b,xs,k,rfl,rfl,g,q⟩:=h
 cases rx
 cases ry
 obtain⟨h1,h2,dd⟩:=Lo I g.d g.ks;exact wpAny_notIn_heap (show X.A.in1.units+16<cLine by simp;lia) (vt I g.k) h1 dd ⟨.bl _,H,I.tok _,rfl,q⟩
def BB{xs:List<|kh×ak×af}{k:kh}:(storedH xs k b u).length<=xs.length+1:=by
 unfold storedH;split
 ·rw[aL];lia
 ·rw[aX];exact aQ _
def Q9(hu:X.A.units+32<cLine):Bh X (λo i v H Q=>∃a b xs k,o=.ref a/\i=.ref b/\DPg H a b xs k/\xs.length<sizeLine/\∀u,RelV v u->Q (upd H a<|.ext<|sM a<|storedH xs k b u)):=by
 intro pins s σ H o i v ov iv u Q I ro ri rv h;obtain⟨a,b,xs,k,rfl,rfl,g,hl,q⟩:=h
 cases ro
 cases ri
 obtain⟨h1,h2,dd⟩:=Lo I g.d g.ks;refine wpAny_setItem_heap (hsz:=h2) (show X.A.in1.units+16<cLine by simp;lia) (vt I g.k) dd λh' dd' hs=>⟨_,?_,q u rv⟩;have he:∃q,h'.get? a=some q:=let⟨q,_,_,hq,_⟩:=dd';⟨q,hq⟩
 exact Ax I (by rw[g.d];exact True.intro) hs he<|IX h1 (bP BB hl) dd'
abbrev Q5:TE:=λ_ H Q=>∀p,H p=none->Q (.ref p) (upd H p<|.ext<|sM p [])
def MW:PE X (.Dict [] [] pos) Q5:=λpins s σ H Q I h=>
 wpAny_Dict_empty ⟨.ref s.heap.objs.size,_,I.laid (a:=s.heap.objs.size) (o:=.ext<|sM s.heap.objs.size []) (t':=s.toks) (λ_ _ q=>aR _ q) (aQ _)
  (IX (cW.mpr<|dg<|bD I.big) (cL _) ⟨_,#[],0,bB _ rfl,⟨rfl,rfl,rfl⟩,rfl,rfl,(nofun),fC⟩),rfl,h _<|I.hok.fresh<|aQ _⟩
end
end L2
namespace Am
open PySem PySem.Spec PyProof.Rows L2
abbrev mF (S:iI)(n:Nat):Option (List<|kh×A):=match S[n]? with
 | some (.qp xs)=>some xs
 | _=>none
def nM{n:Nat}(h:mF S n=some xs):S[n]?=some (.qp xs):=by
 unfold mF at h;split at h
 ·rename_i e;cases h;exact e
 ·cases h
def xB{S:iI}{n:Nat}(h:S[n]?=some (.qp xs)):mF S n=some xs:=by
 unfold mF;rw[h]
abbrev lV (kvs:List<|kh×A)(k:kh):Option A:=(kvs.find? λkv=>decide<|kv.1=k).map (·.2)
abbrev qN (kvs:List<|kh×A)(k:kh)(v:A):List (kh×A):=
 if (lV kvs k).isSome=true then kvs.map (λkv=>if kv.1=k then(kv.1,v)else kv)else kvs++[(k,v)]
abbrev yl (x:A):Option kh:=match x with
 | .tup [.tup xs,.tup ys]=>(A.ints xs).bind λns=>(A.ints ys).map λms=>(ns,ms)
 | _=>none
section
variable {K:au}{ρ:ba}{H:Hp}
def rm{p:kh×A}{r:List<|kh×A}{k:kh}(e:p.1=k):lV (p::r) k=some p.2:=by simp[lV,cI,e]
def pS{p:kh×A}{r:List<|kh×A}{k:kh}(e:¬p.1=k):lV (p::r) k=lV r k:=by simp[lV,cI,e]
theorem DP.look:∀{kvs:List<|kh×A}{ks:List<|kh×ak×af}(k:kh),DP K ρ H kvs ks->(lV kvs k).isSome=(atKey ks k).isSome/\∀x,lV kvs k=some x->∃p v,atKey ks k=some p/\RelV v p.2/\AV K ρ H x v
 | [],[],k,_=>⟨rfl,λx h=>nomatch h⟩
 | p::r,q::r',k,⟨⟨e,_,v,rv,a⟩,t⟩=>by
  by_cases c:p.1=k
  ·have c':q.1=k:=by rw[e,c]
   have b:atKey (q::r') k=some q.2:=by simp[atKey,cI,c']
   rw[rm c,b];exact⟨rfl,λx h=>by cases h;exact⟨_,v,rfl,rv,a⟩⟩
  ·have c':¬q.1=k:=λz=>c<|e.symm.trans z;have b:atKey (q::r') k=atKey r' k:=by simp[atKey,cI,c']
   rw[pS c,b];exact DP.look k t
theorem DP.repl{x:A}{v:V}(h:AV K ρ H x v)(rv:RelV v u)(k:kh):∀{kvs:List<|kh×A}{ks:List<|kh×ak×af},DP K ρ H kvs ks->DP K ρ H (kvs.map λkv=>if kv.1=k then(kv.1,x)else kv) (ks.map<|putAt k u)
 | [],[],_=>trivial
 | p::r,q::r',⟨⟨e,ka,z⟩,t⟩=>by
  refine⟨?_,DP.repl h rv k t⟩;dsimp only;unfold putAt;by_cases c:p.1=k
  ·rw[aK c,aK<|by rw[e,c]];exact⟨e,ka,v,rv,h⟩
  ·rw[aJ c,aJ λz=>c<|e.symm.trans z];exact⟨e,ka,z⟩
theorem DP.snoc{x:A}{v:V}(h:AV K ρ H x v)(rv:RelV v u)(k:kh)(hk:pU H b k):∀{kvs:List<|kh×A}{ks:List<|kh×ak×af},DP K ρ H kvs ks->DP K ρ H (kvs++[(k,x)]) (ks++[(k,b,u)])
 | [],[],_=>⟨⟨rfl,hk,v,rv,h⟩,trivial⟩
 | p::r,q::r',⟨a,t⟩=>⟨a,DP.snoc h rv k hk t⟩
def DP.put{x:A}{v:V}(h:AV K ρ H x v)(rv:RelV v u)(k:kh)(hk:pU H b k){ks:List<|kh×ak×af}(d:DP K ρ H kvs ks):DP K ρ H (qN kvs k x) (storedH ks k b u):=by
 unfold qN storedH;rw[<- (d.look k).1];by_cases c:(lV kvs k).isSome=true
 ·rw[aK c,aK c];exact DP.repl h rv k d
 ·rw[aJ c,aJ c];exact DP.snoc h rv k hk d
def DP.length:∀{kvs:List<|kh×A}{ks:List<|kh×ak×af},DP K ρ H kvs ks->kvs.length=ks.length
 | [],[],_=>rfl
 | _::_,_::_,⟨_,t⟩=>dm (·+1) t.length
def DP.keys:∀{kvs:List<|kh×A}{ks:List<|kh×ak×af},DP K ρ H kvs ks->∀x∈ks,pU H x.2.1 x.1
 | [],[],_,x,h=>nomatch h
 | _::_,q::_,⟨⟨_,ka,_⟩,t⟩,x,h=>by
  rcases bJ.mp h with z|z
  ·rw[z];exact ka
  ·exact t.keys x z
def Rel.qp{n:Nat}{a:ak}(R:Rel K ρ H S)(ha:ρ[n]?=some a)(hS:S[n]?=some (.qp xs)):∃vs,H a=some (.ext<|sM a vs)/\DP K ρ H xs vs:=R.at n a _ ha hS
def Rel.WR{S:iI}{p:ak}(R:Rel K ρ H S)(hp:H p=none):Ext ρ (ρ++[p]) H (upd H p<|.ext<|sM p [])/\Rel K (ρ++[p]) (upd H p<|.ext<|sM p []) (S++[.qp []])/\(ρ++[p])[S.length]?=some p:=by
 have ex:Ext ρ (ρ++[p]) H (upd H p<|.ext<|sM p []):=⟨⟨eU _ _,λa u _ h=>by rw[iS<|iX h hp];exact h⟩,λa u h _=>by rw[iS<|iX h hp];exact h,λa h=>by
  rcases bF.mp h with z|z
  ·exact .inl z
  ·have e:a=p:=by simpa using z
   rw[e];exact .inr hp⟩
 have np:p∉ρ:=R.EV hp;have last:(ρ++[p])[S.length]?=some p:=by rw[<- R.len];simp
 refine⟨ex,⟨by simp[R.len],?_,?_⟩,last⟩
 ·rw[di];refine⟨R.nd,by simp,λa ha b hb e=>?_⟩;have:b=p:=by simpa using hb
  exact np<|by rw[<- this,<- e];exact ha
 ·intro n a o h1 h2;by_cases hn:n<S.length
  ·rw[bh<|by rw[R.len];exact hn]at h1;rw[bh hn]at h2;have na:a≠p:=λz=>np (by rw[<- z];exact aY h1);have:=R.at n a o h1 h2
   cases o with
   | lst ys=>obtain⟨ws,e,q⟩:=this;exact⟨ws,by rw[iS na];exact e,q.ext ex⟩
   | dct _|o5 _|qp _=>obtain⟨ws,e,q⟩:=this;exact⟨ws,by rw[iS na];exact e,q.ext ex⟩
   | ins _ _=>obtain⟨oo,uu,e⟩:=this;exact⟨oo,uu,by rw[iS na];exact e⟩
  ·have e:n=S.length:=by
    have:=(aM.mp h2).1;simp at this
    lia
   subst e;rw[last]at h1
   cases h1
   simp at h2;subst h2;exact⟨[],jA,trivial⟩
def Rel.qN{S:iI}{n:Nat}{a:ak}(R:Rel K ρ H S)(ha:ρ[n]?=some a)(hS:S[n]?=some (.qp xs))(r:DP K ρ H ys ws):Ext ρ ρ H (upd H a<|.ext<|sM a ws)/\Rel K ρ (upd H a<|.ext<|sM a ws) (S.set n<|.qp ys):=by
 obtain⟨vs,e,_⟩:=R.at n a _ ha hS;have ex:Ext ρ ρ H (upd H a<|.ext<|sM a ws):=⟨⟨dU _,λb u i h=>by
  have:b≠a:=by
   intro z;subst z;rw[e]at h;cases h;exact i
  rw[iS this];exact h⟩,λb u h n=>by
  rw[iS λz=>n<|by rw[z];exact aY ha];exact h,λ_ h=>.inl h⟩
 refine⟨ex,by rw[bO];exact R.len,R.nd,λm b o h1 h2=>?_⟩;by_cases hm:m=n
 ·subst hm;rw[ha]at h1;cases h1;rw[bE (aM.mp hS).1]at h2
  cases h2
  exact⟨ws,jA,r.ext ex⟩
 ·rw[bL<|dg hm]at h2;have nb:b≠a:=λz=>by
   subst z;obtain⟨l1,e1⟩:=aM.mp ha;obtain⟨l2,e2⟩:=aM.mp h1;exact hm<|(c8 R.nd).mp<|e2.trans e1.symm
  have:=R.at m b o h1 h2
  cases o with
  | lst ys=>obtain⟨ws',e',q⟩:=this;exact⟨ws',by rw[iS nb];exact e',q.ext ex⟩
  | dct _|o5 _|qp _=>obtain⟨ws',e',q⟩:=this;exact⟨ws',by rw[iS nb];exact e',q.ext ex⟩
  | ins _ _=>obtain⟨oo,uu,e'⟩:=this;exact⟨oo,uu,by rw[iS nb];exact e'⟩
def zT{x:A}{v:V}{k:kh}(a:AV K ρ H x v)(h:yl x=some k):∃b,v=.ref b/\pU H b k:=by
 unfold yl at h;split at h
 ·rename_i xs ys;obtain⟨ns,h1,h⟩:=cJ.mp h;obtain⟨ms,h2,e⟩:=bu.mp h;subst e
  cases a with
  | @tup b _ vs hb r=>
   obtain⟨w1,w2,rfl,z1,z2⟩:=TX r
   cases z1 with
   | @tup c1 _ vs1 g1 r1=>
    cases z2 with
    | @tup c2 _ vs2 g2 r2=>
     have e1:=vO r1 h1;have e2:=vO r2 h2;subst e1 e2;exact⟨b,rfl,c1,c2,hb,g1,g2⟩
 ·cases h
end
section
variable {X:Cx}{pos:Pos}{a b:aE}
abbrev HH (x y:A)(S:iI):R A:=match x with
 | .ref n=>opt (mF S n) λkvs=>opt (yl y) λk=>opt (lV kvs k) λv=>.ok v S
 | _=>.no
def VI(hu:X.A.units+64<cLine):NW X (r2 X HH):=λvalue slice pins s σ H x y v u Q I rx ry ⟨ρ,S,a,b,R,va,vb,h⟩ hs=>by
 cases va with
 | @ref p n hp=>
  obtain⟨kvs,hn,h⟩:=iR h;obtain⟨k,hk,h⟩:=iR h;obtain⟨z,hz,h⟩:=iR h;obtain⟨ks,e,d⟩:=R.qp hp<|nM hn;obtain⟨q,rfl,kq⟩:=zT vb hk;obtain⟨pp,w,hw,rw',aw⟩:=(d.look k).2 z hz;exact Uu () value slice pins s σ H _ _ v u Q I rx ry ⟨p,q,ks,k,pp,w,rfl,rfl,⟨e,d.keys,kq⟩,hw,rw',h _ _ _ .refl R aw⟩ hs
 | _=>exact h.elim
def Q6(hu:X.A.units+64<cLine){ca cb:Ex}(ha:AE X a ca)(hb:AE X b cb)(hs:vn b:=by exact λ_ _=>rfl):AE X (.Subscript a b pos) (iJ HH ca cb):=PE.imp (Kq (VI hu) ha hb hs) λσ H Q h=>rK h
abbrev Oq (neg:Bool)(x y:A)(S:iI):R A:=match y with
 | .ref n=>opt (mF S n) λkvs=>opt (yl x) λk=>.ok (.bl<|if neg then !(lV kvs k).isSome else(lV kvs k).isSome) S
 | _=>.no
def Kr(hu:X.A.units+64<cLine):lT X (compareOp .NotIn) (r2 X<|Oq true):=λpins s σ H x y v u Q I rx ry h9=>by
 x_go
 cases vb with
 | @ref p n hp=>
  obtain⟨kvs,hn,h⟩:=iR h;obtain⟨k,hk,h⟩:=iR h;obtain⟨ks,e,d⟩:=R.qp hp<|nM hn;obtain⟨q,rfl,kq⟩:=zT va hk;exact G8 () pins s σ H _ _ v u Q I rx ry ⟨p,q,ks,k,rfl,rfl,⟨e,d.keys,kq⟩,by rw[<- (d.look k).1];exact h _ _ _ .refl R<|.bl _⟩
 | _=>exact h.elim
abbrev Bo (o i v:A)(S:iI):R Unit:=match o with
 | .ref n=>opt (mF S n) λkvs=>opt (yl i) λk=>gd (kvs.length<sizeLine) (.ok Unit.unit<|S.set n<|.qp<|qN kvs k v)
 | _=>.no
abbrev Xm (X:Cx):Cf:=λo i v H Q=>∃ρ S ao ai av,Rel X.K ρ H S/\AV X.K ρ H ao o/\AV X.K ρ H ai i/\AV X.K ρ H av v/\(Bo ao ai av S).post (λ_ S'=>∀ρ' H',Ext ρ ρ' H H'->Rel X.K ρ' H' S'->Q H') (XE X ρ H)
def Ph(hu:X.A.units+64<cLine):Bh X (Xm X):=λpins s σ H o i v ov iv u Q I ro ri rv h9=>by
 obtain⟨ρ,S,ao,ai,av,R,h1,h2,h3,h⟩:=h9
 cases h1 with
 | @ref p n hp=>
  obtain⟨kvs,hn,h⟩:=iR h;obtain⟨k,hk,h⟩:=iR h;obtain⟨hl,h⟩:=i6 h;obtain⟨ks,e,d⟩:=R.qp hp<|nM hn;obtain⟨q,rfl,kq⟩:=zT h2 hk;refine Q9 () pins s σ H _ _ v ov iv u Q I ro ri rv ⟨p,q,ks,k,rfl,rfl,⟨e,d.keys,kq⟩,by rw[<- d.length];exact hl,λu' ru=>?_⟩;obtain⟨ex,R'⟩:=R.qN hp (nM hn)<|d.put h3 ru k kq;exact h _ _ ex R'
 | _=>exact h.elim
abbrev MS (co ci:Ex):Tg:=λa τ S=>(co τ S).bind λo S1=>(ci τ S1).bind λi S2=>(Bo o i a S2).bind λ_ S3=>.ok τ S3
def Ac(hu:X.A.units+64<cLine){co ci:Ex}(ho:AE X o co)(hi:AE X i ci)
  (ha:∀v,assign (.Subscript o i pos) X.env v=(do
   let ov <- holding [v] (eval o X.env)
   let iv <- holding [v,ov] (eval i X.env)
   standAt pos
   holding [v,ov,iv] (setItem ov iv v)
   release [v,ov,iv] []):=by intro _;rfl):AG X (.Subscript o i pos) (MS co ci):=PG.imp (DE ho hi (Ph hu) ha) λv σ H Q h9=>by
 obtain⟨ρ,S,τ,a,R,r,va,h⟩:=h9;gp_on;kcf_m;cb_eq
abbrev DF:Ex:=λ_ S=>.ok (.ref S.length)<|S++[.qp []]
def Jg:AE X (.Dict [] [] pos) DF:=PE.imp MW λσ H Q ⟨ρ,S,τ,R,r,h⟩ p hp=>by
 obtain⟨ex,R',hl⟩:=R.WR hp;exact h _ _ _ ex R'<|.ref hl
end
end Am
namespace L2
open PySem PySem.Spec PyProof.Rows
section
variable {X:Cx}
abbrev M6 (i j:Int):ae:=(List.range (i-j).toNat).map λk:Nat=>i-(k:Int)
def NX(i j:Int):(M6 i j).length=(i-j).toNat:=by unfold M6;rw[aL,cK]
theorem xM{f:Nat->Int}{h:Nat->af}:∀(l:ag),(∀i∈l,∃t,h i=.int (f i) t)->Vals (l.map λi=>V.int<|f i) (l.map h)
 | [],_=>.nil
 | i::l,e=>.cons (e i<|aN ..)<|xM l λj hj=>e j<|aP _ hj
def J3{i:Int}{n:Nat}{acc:Array af}(h:ItemsOf (λk v=>∃t,v=Value.int (i+(k:Int) * (-1)) t) acc n):Vals (((List.range n).map λk:Nat=>i-(k:Int)).map V.int) acc.toList:=by
 obtain⟨hs,h⟩:=h;have e:acc.toList=(List.range n).map λk=>acc.toList.getD k .none:=by
  refine fJ (by simp[hs]) λk h1 h2=>?_;rw[cV,eV,aI,aG h1];rfl
 rw[e,cH];refine xM _ λk hk=>?_;have hk:=dG.mp hk;obtain⟨t,ht⟩:=h k (acc.toList.getD k .none) (by rw[<- ff,aI,aG<|by simp[hs];exact hk];rfl);exact⟨t,by rw[ht];congr 1;lia⟩
def wZ(l:ak){a b:Int}{v:Tok}{n:Nat}(hsmall:Builtin.Range.small a b (-1)=true)(hn:Builtin.Range.rangeSize a b (-1)=n)(hlen:n<=1000) :
  Meets (Builtin.«tuple.__new__» ⟨[.type "tuple",.ref l],[]⟩)
   (λA R s=>A.handled=none/\IsRange s.heap l a b (-1) t u v/\∀(h':aq) (tk:Nat) (acc':Array af),(∀b o',s.heap.get? b=some o'->h'.get? b=some o')->ItemsOf (λi v=>∃t,v=.int (a+i * (-1)) t) acc' n->R (.ok<|.ret<|.ref h'.objs.size) { s with heap:=h'.push { cls:=.type "tuple",data:=.seq acc' },toks:=tk }):=
 .of_wp λprog w A R s h=>by
  obtain⟨hp,g,d,tk,os⟩:=s;obtain⟨hh,ht,h⟩:=h;have hsub:=sub_tuple_self;have hinit:=init_tuple_lookup;have hmh:=madeHere_tuple;have hT:Shared.TypeIs ⟨hp,g,d,tk,os⟩ (.ref l) "range" := ⟨_,ht,rfl⟩;have hh':A.in1.handled=none:=hh
  wp_walk using c6 ht,fX hT,u5 (A:=A.in1) hh' ht hsmall hn ()
  intro h' tk' acc' hk hacc;show wpAny _ _ (Builtin.Tuple.tupleExact acc'.toList.toArray >>= λv=>ret v) _ _ _;unfold Builtin.Tuple.tupleExact;have e:acc'.toList.toArray=acc':=by simp
  refine aH (bQ ?_<|by show acc'.toList.toArray.size<=sizeLine;rw[e,hacc.1,cR];lia);refine aO ⟨_,rfl,?_⟩;rw[e];exact h h' tk' acc' hk hacc
abbrev XA (o:Obj)(i j:Int):Prop:=∃t u v:Tok,o={ cls:=.type "range",data:=.fields #[.int i t,.int j u,.int (-1) v]}
def C5:jl X (.type "range") (λxs H Q=>∃i j,xs=[.int i,.int j,.int<|-1]/\∀r o,XA o i j->H r=none->Q (.ref r) (upd H r<|.frz o<|.own r)):=by
 kt_k;obtain⟨i,j,rfl,q⟩:=h
 cases r with
 | cons r rr=>cases rr with
  | cons r' rr=>cases rr with
   | cons r'' rr=>
    cases rr
    obtain⟨t,rfl⟩:=r;obtain⟨t',rfl⟩:=r';obtain⟨t'',rfl⟩:=r'';have hn:(s.heap.push { cls:=.type "range",data:=.fields #[.int i t,.int j t',.int (-1) t'']}).get? s.heap.objs.size=some { cls:=.type "range",data:=.fields #[.int i t,.int j t',.int (-1) t'']}:=bB _ rfl;exact call_range_3 ⋯ ⟨.ref s.heap.objs.size,_,I.laid (o:=.frz _<|.own s.heap.objs.size) (t':=s.toks) (λb o e=>aR _ e) (aQ _) ⟨hn,_,hn⟩,rfl,q _ _ ⟨_,_,_,rfl⟩ I.fresh⟩
def DT(hc:X.calm=true):jl X (.type "tuple") (λxs H Q=>∃p i j o u,xs=[.ref p]/\H p=some (.frz o u)/\XA o i j/\(-(2 ^ 62)<=i/\i<2 ^ 62/\-(2 ^ 62)<=j/\j<2 ^ 62)/\(i-j).toNat<=1000/\∀l,H l=none->Q (.ref l) (upd H l<|.tup<|(M6 i j).map V.int)):=by
 kt_k;obtain⟨p,i,j,o,u0,rfl,hp,⟨t,u',v,rfl⟩,⟨b1,b2,b3,b4⟩,hn,q⟩:=h;kpf_c
 cases rx
 have e:=(show jD _ _ H s.heap p (.frz _ u0)from I.hok p _ hp).1;have sz:Builtin.Range.rangeSize i j (-1)=(((i-j).toNat:Nat):Int):=by rw[yK];split<;>lia
 refine callType_new F.called_tuple ⋯ (F.typeCall_tuple_1 _) (F.newCall_tuple_1 _) (λobj=>gD obj _) F.entry_tuple_new
  (wZ (n:=(i-j).toNat) p (small_down b1 b2 b3 b4) sz hn) ⟨I.ok.hd hc,e,λh' tk acc' hk hacc=>⟨⟨_,bB _ rfl,rfl⟩,?_⟩⟩
 have I1:Inv X pins σ H { s with heap:=h',toks:=tk }:=I.kept hk;refine⟨.ref h'.objs.size,_,I1.laid (t':=tk) (o:=.tup<|(M6 i j).map V.int) (λb o e=>aR _ e) (aQ _) ⟨?_,acc'.toList,J3 hacc,?_⟩,rfl,q _<|I1.hok.fresh<|aQ _⟩
 ·rw[aL,NX,cR];lia
 ·have e:acc'.toList.toArray=acc':=by simp
  rw[e];exact lW.new _ _
end
end L2
namespace Am
open PySem PySem.Spec PyProof.Rows L2
section
variable {X:Cx}{a b c0:aE}{pos:Pos}
abbrev Wl (a b k:A)(S3:iI):R A:=match a,b,k with
 | .int i,.int j,.int m=>gd (m=-1/\bnd i/\bnd j/\(i-j).toNat<=1000) (.ok (.tup<|(M6 i j).map .int) S3)
 | _,_,_=>.no
def Kl{a b k:A}{P:A->iI->Prop}{E:Str->iI->Prop}(h:(Wl a b k S3).post P E):∃i j,a=.int i/\b=.int j/\k=.int (-1)/\bnd i/\bnd j/\(i-j).toNat<=1000/\P (.tup<|(M6 i j).map .int) S3:=by
 unfold Wl at h;split at h
 ·obtain⟨⟨z,h1,h2,h3⟩,h⟩:=i6 h;exact⟨_,_,rfl,rfl,by rw[z],h1,h2,h3,h⟩
 ·exact h.elim
abbrev LP (c d e:Ex):Ex:=λτ S=>(c τ S).bind λa S1=>(d τ S1).bind λb S2=>(e τ S2).bind λk S3=>Wl a b k S3
def LC{x:Str}{p pos:Pos}{c d e:Ex}(hcl:X.calm=true)(hm:X.mg x=none)(hv:bootBuiltins x=some (.type "tuple"))(hm':X.mg y=none)(hv':bootBuiltins y=some (.type "range"))(ha:AE X a c)(hb:AE X b d)(hc:AE X c0 e)
  (hg:Gl X x:=by rfl) (hn:x ≠ "__name__" := by decide) (hdb:(x == ("__debug__" : Str))=false:=by decide) (hg':Gl X y:=by rfl) (hn':y ≠ "__name__" := by decide) (hdb':(y == ("__debug__" : Str))=false:=by decide)
  (hs:starEach [a,b,c0] X.env=(false,eval a X.env)::starEach [b,c0] X.env:=by rfl) (hs2:starEach [b,c0] X.env=(false,eval b X.env)::starEach [c0] X.env:=by rfl) (hs3:starEach [c0] X.env=(false,eval c0 X.env)::starEach [] X.env:=by rfl) (hpl':(backTo cpos<|starEach [b,c0] X.env).any (·.1)=false:=by rfl)
  (he:starEach [.Call (.Name y p') [a,b,c0] [] cpos] X.env=(false,eval (.Call (.Name y p') [a,b,c0] [] cpos) X.env)::starEach [] X.env:=by rfl) (hpl:(backTo pos<|starEach [] X.env).any (·.1)=false:=by rfl) :
  AE X (.Call (.Name x p) [.Call (.Name y p') [a,b,c0] [] cpos] [] pos) (LP c d e):=
 PE.imp (uV (DT hcl) hg hm hv (ny (uV C5 hg' hm' hv' (ny ha (ny hb (ny hc uH hs3) hs2) hs) hn' hdb' hs hpl') uH he) hn hdb he hpl) λσ H Q h9=>by
  z_go;refine⟨ρ,S,τ,R,r,iG (iM h) .refl λx S1 h1 ρ1 H1 v e1 R1 v1=>⟨ρ1,S1,τ,R1,r.ext e1,iG (iM h1) e1 λy S2 h2 ρ2 H2 w e2 R2 v2=>⟨ρ2,S2,τ,R2,(r.ext e1).ext e2,iG (iM h2) (e1.trans e2) λz S3 h3 ρ3 H3 u e3 R3 v3=>?_⟩⟩⟩;obtain⟨i,j,hx,hy,hz,hk1,hk2,hk3,h4⟩:=Kl h3;subst hx hy hz
  cases v1
  cases v2
  cases v3
  refine⟨_,_,rfl,λr' o hO hr=>?_⟩;obtain⟨ex,R4⟩:=R3.im (u:=.frz o<|.own r') hr;exact⟨r',_,_,o,_,rfl,jA,hO,⟨hk1.1,hk1.2,hk2.1,hk2.2⟩,hk3,ow R4 (qw _) (((e1.trans e2).trans e3).trans ex) h4⟩
def OO{c d e:Ex}{i j:Int}(h:c τ S=.ok (.int i) S1)(h':d τ S1=.ok (.int j) S2)(h'':e τ S2=.ok (.int<|-1) S3)(hb:bnd i)(hb':bnd j)(hl:(i-j).toNat<=1000):LP c d e τ S=.ok (.tup<|(M6 i j).map .int) S3:=by
 unfold LP;rw[h];show(d τ S1).bind _=_;rw[h'];show(e τ S2).bind _=_;rw[h''];exact aK ⟨rfl,hb,hb',hl⟩
end
end Am
namespace K36
open PySem L2 Am
abbrev top (i:Nat):aF:=PySem.Challenge.pw_undercells_k36_rests_turned_over.main.body.getD i<|.Pass ⟨0,0,0,0⟩
meta abbrev sJ:aF:=top 6
meta abbrev sq:ap:=["thing"]
meta abbrev sE:ap:=["thing"]
abbrev s_:Sm:=
 jG (JO (jf (f2 Ol)<|iE (iD 0)<|iE (eC<|.ty "int") iQ)<|R0<|jf (f2 Ol)<|iE (iD 0)<|iE (eC<|.ty "bool") iQ)
abbrev nK:ad->iI->R A:=jT sq s_
meta abbrev qY:aF:=top 7
meta abbrev qX:ap:=["one", "other"]
meta abbrev nZ:ap:=["one", "other"]
abbrev qx:Sm:=
 tR (mX<|iJ (qo true) (jf (f1 mz)<|iE (iD 0) iQ)<|jf (f1 mz)<|iE (iD 1) iQ)
 (V9)
 mK
abbrev ku:ad->iI->R A:=jT qX qx
meta abbrev CM:aF:=top 8
meta abbrev DQ:ap:=["order", "places", "at", "thing"]
meta abbrev C8:ap:=["order"]
abbrev Lq:Ic:=
 Nk (iD 0)
abbrev BG:Sm:=
 jn (iJ jq (iD 2)<|eC<|.int 1) (SO (iD 1)<|iJ aSub (iD 3)<|eC<|.int 1)
abbrev DZ:Sm:=
 je (jn (iJ uz (sW<|iE (eC<|.int 0) iQ)<|jf (f1 mz)<|iE (iD 0) iQ)<|jB 1)
 (je (mE Lq (AM 2<|rV (jB 2)<|rV (jB 3) Bx)
 BG)
 (jG<|jf (f1 qP)<|iE (iD 1) iQ))
abbrev uB:ad->iI->R A:=jT DQ DZ
meta abbrev oV:aF:=top 9
meta abbrev pF:ap:=["n", "thing"]
meta abbrev oK:ap:=["n", "thing"]
abbrev oN:Sm:=
 jG (JO (eFn nK<|iE (iD 1) iQ)<|II Sy Au (eC<|.int 1) (iD 1)<|iD 0)
abbrev kO:ad->iI->R A:=jT pF oN
meta abbrev lE:aF:=top 10
meta abbrev lH:ap:=["order", "i", "j", "things"]
meta abbrev lC:ap:=["order", "i", "j"]
abbrev lA:Sm:=
 je (jn (jf (f1 wc)<|iE (iD 0) iQ)<|jB 3)
 (je (jn (mD<|iE (iJ pP (iD 3)<|iJ aSub (iD 2)<|eC<|.int 1)<|iE (iJ pP (iD 3)<|iJ aSub (iD 1)<|eC<|.int 1) iQ)<|AM 2<|rV (SO (iD 3)<|iJ aSub (iD 1)<|eC<|.int 1)<|rV (SO (iD 3)<|iJ aSub (iD 2)<|eC<|.int 1) Bx)
 (jG<|jf (f1 qP)<|iE (iD 3) iQ))
abbrev jE:ad->iI->R A:=jT lH lA
meta abbrev qy:aF:=top 11
meta abbrev qD:ap:=["order", "k"]
meta abbrev qT:ap:=["order", "k"]
abbrev qu:Sm:=
 je (tR (Iw<|K4<|eFn kO<|iE (jf (f1 mz)<|iE (iD 0) iQ)<|iE (iD 1) iQ)
 (V9)
 mK)
 (jG<|eFn jE<|iE (iD 0)<|iE (iD 1)<|iE (iJ jq (iD 1)<|eC<|.int 1) iQ)
abbrev lN:ad->iI->R A:=jT qD qu
meta abbrev pG:aF:=top 12
meta abbrev oM:ap:=["n"]
meta abbrev oS:ap:=["n"]
abbrev pI:Sm:=
 jG (DH [none,none,some 0] (pN (eC<|.int 1)<|iD 0) (jB 0) zQ (pN (iJ jq (iD 0)<|eC<|.int 1)<|iJ jq (iD 2)<|eC<|.int 1) (jB 1) zQ<|mD<|iE (iD 0)<|iE (iD 1) iQ)
abbrev j6:ad->iI->R A:=jT oM pI
meta abbrev o8:aF:=top 13
meta abbrev oR:ap:=["order"]
meta abbrev oZ:ap:=["order"]
abbrev pD:Sm:=
 jG (lZ [none,none,some 0] (oY<|eFn j6<|iE (jf (f1 mz)<|iE (iD 0) iQ) iQ) (AM 2<|rV (jB 0)<|rV (jB 1) Bx) (mX<|iJ Dl (iJ pP (iD 2)<|iJ aSub (iD 0)<|eC<|.int 1)<|iJ pP (iD 2)<|iJ aSub (iD 1)<|eC<|.int 1)<|mD<|iE (iD 0)<|iE (iD 1) iQ)
abbrev kW:ad->iI->R A:=jT oR pD
meta abbrev xX:aF:=top 14
meta abbrev xj:ap:=["order"]
meta abbrev uq:ap:=["order"]
abbrev xH:Sm:=
 jG (jf (f1 mz)<|iE (eFn kW<|iE (iD 0) iQ) iQ)
abbrev kP:ad->iI->R A:=jT xj xH
meta abbrev zN:aF:=top 15
meta abbrev zh:ap:=["order"]
meta abbrev zP:ap:=["order"]
abbrev z8:Sm:=
 jG (lZ [none,some 0] (pN (eC<|.int 1)<|jf (f1 mz)<|iE (iD 0) iQ) (jB 0) (mX<|iJ Dl (iJ pP (iD 1)<|iJ aSub (iD 0)<|eC<|.int 1)<|iJ pP (iD 1)<|iD 0)<|iD 0)
abbrev rq:ad->iI->R A:=jT zh z8
meta abbrev kB:aF:=top 18
meta abbrev ko:ap:=["numbers", "place"]
meta abbrev kC:ap:=["numbers"]
abbrev l9:Te:=
 mX (iJ Sy (iJ pP (iD 0)<|iJ aSub (iD 1)<|eC<|.int 1)<|eC<|.int 0)
abbrev l6:Sm:=
 Im 1 Ht (eC<|.int 1)
abbrev kE:Sm:=
 je (jn (eC<|.int 1)<|jB 1)
 (je (lG l9
 l6 1000000)
 (jG<|iD 1))
abbrev ju:ad->iI->R A:=jT ko kE
meta abbrev JD:aF:=top 17
meta abbrev Lb:ap:=["one", "other", "more", "at", "j"]
meta abbrev JG:ap:=["one", "other"]
abbrev D8:Ic:=
 qS (iJ pP (iD 0)<|iD 3)
abbrev GJ:Sm:=
 wB (iD 2) (iD 4) (eC<|.int 1) Ht
abbrev GH:Ic:=
 qS (iJ pP (iD 1)<|iD 3)
abbrev Fq:Sm:=
 wB (iD 2) (iD 4) (eC<|.int 1) aSub
abbrev Nd:Ic:=
 qS (jf (f1 mz)<|iE (iD 0) iQ)
abbrev EB:Sm:=
 je (mE D8 (jB 4)
 GJ)
 (je (mE GH (jB 4)
 Fq)
 (tR (mX<|iJ Dl (jf (f1 Jc)<|iE (iD 2) iQ)<|eC<|.int 0)
 (jG<|mD<|iE (iJ jq (iD 3)<|eC<|.int 1)<|iE (eFn ju<|iE (iD 2) iQ) iQ)
 mK))
abbrev JV:Sm:=
 je (vf<|eFn ku<|iE (iD 0)<|iE (iD 1) iQ)
 (je (jn (iJ uz (sW<|iE (eC<|.int 0) iQ)<|jf (f1 mz)<|iE (iD 0) iQ)<|jB 2)
 (je (mE Nd (jB 3)
 EB)
 (jG<|eC .non)))
abbrev zg:ad->iI->R A:=jT Lb JV
meta abbrev sY:aF:=top 19
meta abbrev qc:ap:=["one", "other"]
meta abbrev qg:ap:=["one", "other"]
abbrev qd:Sm:=
 jG (iJ (Ib false) (eFn zg<|iE (iD 0)<|iE (iD 1) iQ)<|eC .non)
abbrev lB:ad->iI->R A:=jT qc qd
meta abbrev oO:aF:=top 21
meta abbrev mU:ap:=["one", "other", "free_things", "most_things", "most_pairs"]
meta abbrev pC:ap:=["one", "other", "free_things", "most_things", "most_pairs"]
abbrev mV:Sm:=
 je (tR (mX<|iJ Sy (jf (f1 mz)<|iE (iD 0) iQ)<|iD 2)
 (IZ)
 mK)
 (tR (M5 (mX<|iJ Dl (jf (f1 mz)<|iE (iD 0) iQ)<|iD 3)<|mX<|iJ Dl (iJ aSub (eFn kP<|iE (iD 1) iQ)<|eFn kP<|iE (iD 0) iQ)<|iD 4)
 (V9)
 mK)
abbrev jQ:ad->iI->R A:=jT mU mV
meta abbrev m7:aF:=top 23
meta abbrev m_:ap:=["numbers"]
meta abbrev k_:ap:=["numbers"]
abbrev m8:Sm:=
 jG (lZ [none,some 0] (oY<|jf (f1 yf)<|iE (iD 0) iQ) (jB 0) (mX<|iJ (qo true) (iJ wu (iD 1)<|iD 0)<|eC<|.int 0)<|mD<|iE (iD 0)<|iE (iJ wu (iD 1)<|iD 0) iQ)
abbrev jx:ad->iI->R A:=jT m_ m8
meta abbrev CW:aF:=top 24
meta abbrev CO:ap:=["one", "other", "numbers", "power", "number"]
meta abbrev Dk:ap:=["one", "other"]
abbrev tQ:Ic:=
 oY (iD 1)
abbrev B7:Sm:=
 jn (iJ jq (HE u_ (iD 2)<|iE (iD 3)<|iE (eC<|.int 0) iQ)<|iD 4) (Hg (iD 2)<|iD 3)
abbrev Du:Sm:=
 je (jn (jf (f1 CJ)<|iE (iD 0) iQ)<|jB 2)
 (je (mE tQ (AM 2<|rV (jB 3)<|rV (jB 4) Bx)
 B7)
 (jG<|eFn jx<|iE (iD 2) iQ))
abbrev xE:ad->iI->R A:=jT CO Du
meta abbrev zZ:aF:=top 25
meta abbrev zq:ap:=["one", "other", "numbers", "power", "number", "high", "many"]
meta abbrev zj:ap:=["one", "other"]
abbrev HJ:Ic:=
 oY (iD 1)
abbrev HU:Sm:=
 jn (iJ jq (HE u_ (iD 2)<|iE (iJ jq (iD 3)<|iD 5)<|iE (eC<|.int 0) iQ)<|iJ E4 (iD 4)<|iD 6) (Hg (iD 2)<|iJ jq (iD 3)<|iD 5)
abbrev ze:Ic:=
 oY (iD 0)
abbrev yU:Sm:=
 mE HJ (AM 2<|rV (jB 5)<|rV (jB 6) Bx)
 HU
abbrev Ah:Sm:=
 je (jn DS<|jB 2)
 (je (mE ze (AM 2<|rV (jB 3)<|rV (jB 4) Bx)
 yU)
 (jG<|eFn jx<|iE (iD 2) iQ))
abbrev rG:ad->iI->R A:=jT zq Ah
meta abbrev qz:aF:=top 30
meta abbrev oF:ap:=["one", "other"]
meta abbrev qQ:ap:=["one", "other"]
abbrev n_:Sm:=
 je (vf<|eFn ku<|iE (iD 0)<|iE (iD 1) iQ)
 (vf<|eFn jQ<|iE (iD 0)<|iE (iD 1)<|iE (eC<|.int 5)<|iE (eC<|.int 8)<|iE (eC<|.int 6) iQ)
abbrev lO:ad->iI->R A:=jT oF n_
meta abbrev nU:aF:=top 33
meta abbrev jV:ap:=["one", "other", "known", "k", "less", "told"]
meta abbrev ki:ap:=["one", "other", "known"]
abbrev jv (Fs:ad->iI->R A):Sm:=
 je (jn (iJ pP (eFn rq<|iE (iD 1) iQ)<|eC<|.int 0)<|jB 3)
 (je (jn (eFn lN<|iE (iD 1)<|iE (iD 3) iQ)<|jB 4)
 (je (jn (eFn Fs<|iE (eFn lN<|iE (iD 0)<|iE (iD 3) iQ)<|iE (iD 4)<|iE (iD 2) iQ)<|jB 5)
 (je (tR (mX<|iJ (WD false) (iD 3)<|eFn rq<|iE (iD 0) iQ)
 (jG<|iD 5)
 mK)
 (jG<|eFn xE<|iE (iD 5)<|iE (eFn rG<|iE (sW<|iE (mD<|iE (eC<|.int 1)<|iE (eC<|.int 1) iQ) iQ)<|iE (eFn Fs<|iE (iD 0)<|iE (iD 4)<|iE (iD 2) iQ) iQ) iQ))))
meta abbrev nu:aF:=top 32
meta abbrev lY:ap:=["one", "other", "known", "pair"]
meta abbrev jJ:ap:=["one", "other", "known"]
abbrev lX (Fs:ad->iI->R A):Sm:=
 je (jn (mD<|iE (iD 0)<|iE (iD 1) iQ)<|jB 3)
 (je (tR (mX<|iJ (Oq true) (iD 3)<|iD 2)
 (tR (mX<|iJ (qo false) (iD 0)<|iD 1)
 (jn (sW<|iE (mD<|iE (eC<|.int 0)<|iE (eC<|.int 1) iQ) iQ)<|MS (iD 2)<|iD 3)
 (tR (Iw<|K4<|eFn lB<|iE (iD 0)<|iE (iD 1) iQ)
 (jn (sW iQ)<|MS (iD 2)<|iD 3)
 (jn (eFn (jT jV<|jv Fs)<|iE (iD 0)<|iE (iD 1)<|iE (iD 2) iQ)<|MS (iD 2)<|iD 3)))
 mK)
 (jG<|iJ HH (iD 2)<|iD 3))
abbrev kR:Nat->ad->iI->R A
 | 0=>λ_ _=>.no
 | k+1=>jT lY<|lX<|kR k
abbrev qf:ad->iI->R A:=kR 22
meta abbrev C_:aF:=top 31
meta abbrev DG:ap:=["one", "other"]
meta abbrev Af:ap:=["one", "other"]
abbrev C9:Sm:=
 je (vf<|eFn lO<|iE (iD 0)<|iE (iD 1) iQ)
 (jG<|eFn qf<|iE (iD 0)<|iE (iD 1)<|iE (DF) iQ)
abbrev mQ:ad->iI->R A:=jT DG C9
meta abbrev uT:aF:=top 35
meta abbrev uP:ap:=["_law_script", "_law_at", "_law_cell", "_law_great"]
meta abbrev uL:ap:=["_law_script", "_law_at"]
abbrev uX:Sm:=
 je (jn (eC<|.int 0)<|jB 2)
 (je (tR (mX<|iJ Au (iD 1)<|jf (f1 mz)<|iE (iD 0) iQ)
 (jn (iJ pP (iD 0)<|iD 1)<|jB 2)
 mK)
 (je (jn (eC<|.int 0)<|jB 3)
 (je (tR (mX<|iJ V0 (iD 2)<|iJ NF (eC<|.int 10)<|eC<|.int 18)
 (jn (iD 2)<|jB 3)
 mK)
 (jG<|sW<|iE (iD 3)<|iE (iJ x_ (iJ jq (iJ jq (iD 2)<|iJ uz (eC<|.int 7919)<|iD 1)<|eC<|.int 13)<|eC<|.int 2147483647) iQ))))
abbrev pO:ad->iI->R A:=jT uP uX
meta abbrev q_:aF:=top 36
meta abbrev oG:ap:=["_law_bag_here", "_law_many", "_law_found"]
meta abbrev mZ:ap:=["_law_bag_here", "_law_many"]
abbrev oB:Sm:=
 je (tR (mX<|iJ Dl (iJ pP (iD 0)<|eC<|.int 0)<|eC<|.int 0)
 (je (jn (iJ x_ (iJ pP (iD 0)<|eC<|.int 0)<|iD 1)<|jB 2)
 (je (jn (iJ Gu (iJ pP (iD 0)<|eC<|.int 0)<|iD 1)<|SO (iD 0)<|eC<|.int 0)
 (jG<|iD 2)))
 mK)
 (je (jn (iJ x_ (iJ jq (iJ uz (iJ pP (iD 0)<|eC<|.int 1)<|eC<|.int 48271)<|eC<|.int 11)<|eC<|.int 2147483647)<|SO (iD 0)<|eC<|.int 1)
 (jG<|iJ x_ (iJ x_ (iJ uz (iJ Gu (iJ pP (iD 0)<|eC<|.int 1)<|eC<|.int 8)<|eC<|.int 69621)<|eC<|.int 2147483629)<|iD 1))
abbrev iY:ad->iI->R A:=jT oG oB
meta abbrev qW:aF:=top 37
meta abbrev qR:ap:=["_law_bag_here", "_law_n", "_law_left", "_law_made"]
meta abbrev qC:ap:=["_law_bag_here", "_law_n"]
abbrev pB:Te:=
 mX (iJ Dl (jf (f1 mz)<|iE (iD 2) iQ)<|eC<|.int 0)
abbrev oU:Sm:=
 vf (VA vW (iD 3)<|iE (VA DL (iD 2)<|iE (eFn iY<|iE (iD 0)<|iE (jf (f1 mz)<|iE (iD 2) iQ) iQ) iQ) iQ)
abbrev qq:Sm:=
 je (jn (jf (f1 wc)<|iE (jf (f2 zS)<|iE (eC<|.int 1)<|iE (iJ jq (iD 1)<|eC<|.int 1) iQ) iQ)<|jB 2)
 (je (jn (sW iQ)<|jB 3)
 (je (lG pB
 oU 1000000)
 (jG<|jf (f1 qP)<|iE (iD 3) iQ)))
abbrev lK:ad->iI->R A:=jT qR qq
meta abbrev pH:aF:=top 38
meta abbrev oX:ap:=["_law_one", "_law_i", "_law_j"]
meta abbrev o4:ap:=["_law_one", "_law_i", "_law_j"]
abbrev oQ:Sm:=
 jG (iJ jq (iJ jq (iJ jq (iJ jq (RI (iD 0) EK<|se<|iD 1)<|mD<|iE (iJ pP (iD 0)<|iD 2) iQ)<|RI (iD 0) (se<|iJ jq (iD 1)<|eC<|.int 1)<|se<|iD 2)<|mD<|iE (iJ pP (iD 0)<|iD 1) iQ)<|RI (iD 0) (se<|iJ jq (iD 2)<|eC<|.int 1) EK)
abbrev kU:ad->iI->R A:=jT oX oQ
meta abbrev mL:aF:=top 39
meta abbrev mT:ap:=["_law_one", "_law_left", "_law_found", "_law_i", "_law_j", "_law_amid"]
meta abbrev mO:ap:=["_law_one", "_law_left"]
abbrev lz:Ic:=
 pN (iJ jq (iD 3)<|eC<|.int 1) (jf (f1 mz)<|iE (iD 0) iQ)
abbrev jY:Sm:=
 je (jn (jf (f1 mz)<|iE (lZ [none,some 0,some 4,some 3] (oY<|RI (iD 0) (se<|iJ jq (iD 3)<|eC<|.int 1)<|se<|iD 4) (jB 0) (mX<|II Au Au (iJ pP (iD 1)<|iD 2) (iD 0)<|iJ pP (iD 1)<|iD 3)<|iD 0) iQ)<|jB 5)
 (tR (v_ (mX<|iJ Dl (iJ pP (iD 0)<|iD 3)<|iJ pP (iD 0)<|iD 4)<|mX<|iJ Sy (iJ jq (eC<|.int 1)<|iJ uz (eC<|.int 2)<|iD 5)<|iD 1)
 (vf<|VA vW (iD 2)<|iE (mD<|iE (iD 3)<|iE (iD 4)<|iE (iJ jq (eC<|.int 1)<|iJ uz (eC<|.int 2)<|iD 5) iQ) iQ)
 mK)
abbrev lq:Ic:=
 qS (jf (f1 mz)<|iE (iD 0) iQ)
abbrev nP:Sm:=
 mE lz (jB 4)
 jY
abbrev mR:Sm:=
 je (jn (sW iQ)<|jB 2)
 (je (mE lq (jB 3)
 nP)
 (jG<|iD 2))
abbrev jW:ad->iI->R A:=jT mT mR
meta abbrev qH:aF:=top 40
meta abbrev qF:ap:=["_law_bag_here", "_law_other", "_law_left", "_law_one", "_law_k", "_law_some", "_law_i", "_law_j", "_law_more"]
meta abbrev qv:ap:=["_law_bag_here", "_law_other", "_law_left"]
abbrev oJ:Ic:=
 qS (eFn iY<|iE (iD 0)<|iE (eC<|.int 7) iQ)
abbrev sd:Sm:=
 je (jn (eFn jW<|iE (iD 3)<|iE (iD 2) iQ)<|jB 5)
 (tR (mX<|iJ (qo true) (iD 5)<|sW iQ)
 (je (jn (iJ pP (iD 5)<|eFn iY<|iE (iD 0)<|iE (jf (f1 mz)<|iE (iD 5) iQ) iQ)<|AM 3<|rV (jB 6)<|rV (jB 7)<|rV (jB 8) Bx)
 (je (jn (eFn kU<|iE (iD 3)<|iE (iD 6)<|iE (iD 7) iQ)<|jB 3)
 (jn (iJ aSub (iD 2)<|iD 8)<|jB 2)))
 mK)
abbrev qM:Sm:=
 je (jn (iD 1)<|jB 3)
 (je (mE oJ (jB 4)
 sd)
 (jG<|iD 3))
abbrev lJ:ad->iI->R A:=jT qF qM
meta abbrev sC:aF:=top 41
meta abbrev sU:ap:=["_law_bag_here", "_law_k", "_law_n", "_law_far", "_law_other"]
meta abbrev sV:ap:=["_law_bag_here", "_law_k"]
abbrev sQ:Sm:=
 je (jn (iJ jq (eC<|.int 2)<|eFn iY<|iE (iD 0)<|iE (iJ pP (sW<|iE (eC<|.int 4)<|iE (eC<|.int 3) iQ)<|jf (f1 CC)<|iE (iJ Dl (iD 1)<|eC<|.int 0) iQ) iQ)<|jB 2)
 (je (jn (eC<|.int 20)<|jB 3)
 (je (tR (v_ (mX<|iJ (qo false) (iD 1)<|eC<|.int 0)<|mX<|iJ (qo false) (eFn iY<|iE (iD 0)<|iE (eC<|.int 4) iQ)<|eC<|.int 2)
 (je (jn (iJ jq (eC<|.int 6)<|eFn iY<|iE (iD 0)<|iE (eC<|.int 2) iQ)<|jB 2)
 (jn (eC<|.int 6)<|jB 3))
 mK)
 (je (jn (eFn lK<|iE (iD 0)<|iE (iD 2) iQ)<|jB 4)
 (je (tR (v_ (mX<|iJ (qo false) (eFn iY<|iE (iD 0)<|iE (eC<|.int 8) iQ)<|eC<|.int 3)<|mX<|iJ Au (iD 2)<|eC<|.int 6)
 (jn (LP (iD 2) (eC<|.int 0)<|M4 CQ<|eC<|.int 1)<|jB 4)
 mK)
 (jG<|mD<|iE (eFn lJ<|iE (iD 0)<|iE (iD 4)<|iE (iD 3) iQ)<|iE (iD 4) iQ)))))
abbrev nG:ad->iI->R A:=jT sU sQ
meta abbrev sS:aF:=top 42
meta abbrev sf:ap:=["_law_one"]
meta abbrev sj:ap:=["_law_one"]
abbrev sZ:Sm:=
 jG (jf (f1 qP)<|iE (lZ [none,some 0] (oY<|iD 0) (jB 0) zQ<|iJ aSub (iJ jq (jf (f1 mz)<|iE (iD 1) iQ)<|eC<|.int 1)<|iD 0) iQ)
abbrev mS:ad->iI->R A:=jT sf sZ
meta abbrev sF:aF:=top 43
meta abbrev sX:ap:=["_law_one", "_law_other", "_law_due"]
meta abbrev sP:ap:=["_law_one", "_law_other", "_law_due"]
abbrev sG:Sm:=
 je (tR (mX<|iJ (qo true) (eFn mQ<|iE (eFn uB<|iE (iD 0) iQ)<|iE (eFn uB<|iE (iD 1) iQ) iQ)<|iD 2)
 (jG<|eC<|.bl false)
 mK)
 (je (tR (mX<|iJ (qo true) (eFn mQ<|iE (eFn mS<|iE (iD 1) iQ)<|iE (eFn mS<|iE (iD 0) iQ) iQ)<|iD 2)
 (jG<|eC<|.bl false)
 mK)
 (jG<|iJ (qo false) (eFn mQ<|iE (M4 Hl<|iD 1)<|iE (M4 Hl<|iD 0) iQ)<|iD 2))
abbrev nR:ad->iI->R A:=jT sX sG
meta abbrev KY:aF:=top 44
meta abbrev IU:ap:=["_law_script", "_law_k", "_law_bag_here", "_law_one", "_law_other", "_law_told", "_law_apart", "_law_power", "_law_number", "_law_more"]
meta abbrev Qt:ap:=["_law_script"]
abbrev vE:Ic:=
 oY (iD 5)
abbrev vJ:Sm:=
 tR (M5 (mX<|iJ (qo true) (iJ x_ (iJ aSub (iD 6)<|iD 7)<|eC<|.int 2)<|eC<|.int 0)<|M5 (mX<|iJ Au (iD 8)<|eC<|.int 1)<|mX<|iJ Au (iD 7)<|eC<|.int 0)
 (jG<|eC<|.bl false)
 mK
abbrev Fp:Ic:=
 qS (jf (f2 KJ)<|iE (eC<|.int 1)<|iE (jf (f2 IT)<|iE (jf (f1 mz)<|iE (iD 0) iQ)<|iE (eC<|.int 4) iQ) iQ)
abbrev An:Sm:=
 je (jn (eFn pO<|iE (iD 0)<|iE (iD 1) iQ)<|jB 2)
 (je (jn (eFn nG<|iE (iD 2)<|iE (iD 1) iQ)<|AM 2<|rV (jB 3)<|rV (jB 4) Bx)
 (je (jn (eFn mQ<|iE (iD 3)<|iE (iD 4) iQ)<|jB 5)
 (je (jn (iJ aSub (eFn kP<|iE (iD 4) iQ)<|eFn kP<|iE (iD 3) iQ)<|jB 6)
 (je (tR (M5 (mX<|iJ (qo false) (iD 5)<|sW iQ)<|mX<|iJ (qo true) (iJ pP (iD 5)<|M4 CQ<|eC<|.int 1)<|mD<|iE (iD 6)<|iE (eC<|.int 1) iQ)
 (jG<|eC<|.bl false)
 mK)
 (je (mE vE (AM 2<|rV (jB 7)<|rV (jB 8) Bx)
 vJ)
 (je (tR (Iw<|K4<|eFn nR<|iE (iD 3)<|iE (iD 4)<|iE (iD 5) iQ)
 (jG<|eC<|.bl false)
 mK)
 (je (jn (iJ jq (jf (f1 mz)<|iE (iD 3) iQ)<|eC<|.int 1)<|jB 9)
 (tR (v_ (M5 (mX<|iJ Au (iD 9)<|eC<|.int 6)<|mX<|iJ Au (iD 6)<|eC<|.int 7)<|mX<|iJ (qo true) (eFn mQ<|iE (iJ jq (iD 3)<|mD<|iE (iD 9) iQ)<|iE (iJ jq (iD 4)<|mD<|iE (iD 9) iQ) iQ)<|iD 5)
 (jG<|eC<|.bl false)
 mK))))))))
abbrev ML:Sm:=
 je (mE Fp (jB 1)
 An)
 (jG<|eC<|.bl true)
abbrev yr:ad->iI->R A:=jT IU ML
section
variable {P:aj}{w:ah}{K:au}{mg:Str->bb}{base:aq}{f:ak}{fd:FuncData}
def Bf:FnScope sq sE (iT sJ):=sD rfl rfl rfl ∅
def Cw(F:Fun K "is_whole" "is_whole" sJ f fd)(YN:mg "isinstance" = none)(YT:mg "bool" = none)(YH:mg "int" = none):FnOk P w K mg base nX 1 f fd sE (pV K 1 nK):=su (m:=s_) F Bf λcdv B outer s H E hr=>
 iN (jc<|Ih (i7 QE YN rZ<|iF (iC 0)<|iF (Qq YH IF) iO)<|MH<|Th<|i7 QE YN rZ<|iF (iC 0)<|iF (Qq YT NG) iO)
def zz:FnScope qX nZ (iT qY):=sD rfl rfl rfl ∅
def zU(F:Fun K "need_pair" "need_pair" qY f fd)(YB:mg "len" = none):FnOk P w K mg base nX 1 f fd nZ (pV K 2 ku):=su (m:=qx) F zz λcdv B outer s H E hr=>
 iN (kK (jh (Cp hr.units) (i7 kQ YB jP<|iF (iC 0) iO)<|i7 kQ YB jP<|iF (iC 1) iO)
 (iN<|KW)
 jw)
def vP:FnScope DQ C8 (iT CM):=sD rfl rfl rfl ∅
def N8(F:Fun K "back" "back" CM f fd)(YB:mg "len" = none)(YU:mg "enumerate" = none)(YD:mg "tuple" = none):FnOk P w K mg base nX 1 f fd C8 (pV K 1 uB):=su (m:=DZ) F vP λcdv B outer s H E hr=>
 iL (ji (i:=1) vP.nd<|iU xh (nJ<|iF iK iO)<|i7 kQ YB jP<|iF (iC 0) iO)
 (iL (nc cu rfl (QY YU<|iC 0) (p7 rfl<|jm (ja (i:=2) vP.nd)<|jm (ja (i:=3) vP.nd) nv)
 (iN<|nH (iU jL (iC 2) iK)<|xW (iC 1)<|iU nY (iC 3) iK))
 (iN<|jc<|mq (vN rfl) YD qV<|iF (iC 1) iO))
def wo:FnScope pF oK (iT oV):=sD rfl rfl rfl ∅
def we(F:Fun K "is_exchange" "is_exchange" oV f fd)(YV:nA P w K mg base 1 "is_whole" sE nK):FnOk P w K mg base nX 2 f fd oK (pV K 2 kO):=su (m:=oN) F wo λcdv B outer s H E hr=>
 iN (jc<|Ih (F0 YV hr<|iC 1)<|MH<|U9 N3 (Ar hr.units) iK (iC 1)<|iC 0)
def ng:FnScope lH lC (iT lE):=sD rfl rfl rfl ∅
def rR(F:Fun K "exchanged_places" "exchanged_places" lE f fd)(YI:mg "list" = none)(YD:mg "tuple" = none):FnOk P w K mg base nX 1 f fd lC (pV K 3 jE):=su (m:=lA) F ng λcdv B outer s H E hr=>
 iL (ji (i:=3) ng.nd<|mq (Mc rfl) YI Em<|iF (iC 0) iO)
 (iL (nH (lD<|iF (j3 (iC 3)<|iU nY (iC 2) iK)<|iF (j3 (iC 3)<|iU nY (iC 1) iK) iO)<|p7 rfl<|jm (xW (iC 3)<|iU nY (iC 1) iK)<|jm (xW (iC 3)<|iU nY (iC 2) iK) nv)
 (iN<|jc<|mq (vN rfl) YD qV<|iF (iC 3) iO))
def zK:FnScope qD qT (iT qy):=sD rfl rfl rfl ∅
def zV(F:Fun K "exchanged" "exchanged" qy f fd)(YB:mg "len" = none)(YW:nA P w K mg base 2 "is_exchange" oK kO)(YX:nA P w K mg base 1 "exchanged_places" lC jE):FnOk P w K mg base nX 3 f fd qT (pV K 2 lN):=su (m:=qu) F zK λcdv B outer s H E hr=>
 iL (kK (C4<|CS<|yp YW hr (i7 kQ YB jP<|iF (iC 0) iO)<|iC 1)
 (iN<|KW)
 jw)
 (iN<|jc<|VP YX hr (iC 0) (iC 1)<|iU jL (iC 1) iK)
def xS:FnScope oM oS (iT pG):=sD rfl rfl rfl ∅
def xg(F:Fun K "place_pairs" "place_pairs" pG f fd)(YC:mg "range" = none):FnOk P w K mg base nX 1 f fd oS (pV K 1 j6):=su (m:=pI) F xS λcdv B outer s H E hr=>
 iN (jc<|KA (N:=["i", "j", "n"]) (cap:=[none,none,some 0]) rfl (zb ["n"] rfl ∅ ∅ ∅ ∅ ∅ (cT.mpr ⟨by first|exact Or.inl rfl|exact Or.inr rfl,(nofun)⟩) ⟨rfl,by decide +kernel,trivial⟩) (rF YC iK<|iC 0) (λ_ _ _ _=>ja (i:=0) (show(["i", "j", "n"]:ap).Nodup by decide +kernel) rfl (Or.inl rfl)<|.inr rfl) (λ_ _ _ _=>zI) (λ_ _ _ _=>rF YC (iU jL (iC 0) iK)<|iU jL (iC 2) iK) (λ_ _ _ _=>ja (i:=1) (show(["i", "j", "n"]:ap).Nodup by decide +kernel) rfl (Or.inl rfl)<|.inr rfl) (λ_ _ _ _=>zI) λ_ _ _ _=>lD<|iF (iC 0)<|iF (iC 1) iO)
def wD:FnScope oR oZ (iT o8):=sD rfl rfl rfl ∅
def xw(F:Fun K "wrong_pairs" "wrong_pairs" o8 f fd)(YB:mg "len" = none)(YY:nA P w K mg base 1 "place_pairs" oS j6):FnOk P w K mg base nX 2 f fd oZ (pV K 1 kW):=su (m:=pD) F wD λcdv B outer s H E hr=>
 iN (jc<|um (N:=["i", "j", "order"]) (cap:=[none,none,some 0]) rfl (zb ["order"] rfl ∅ ∅ ∅ ∅ ∅ (cT.mpr ⟨by first|exact Or.inl rfl|exact Or.inr rfl,(nofun)⟩) ⟨rfl,by decide +kernel,trivial⟩) (qU<|F0 YY hr<|i7 kQ YB jP<|iF (iC 0) iO) (λ_ _ _ _=>p7 rfl<|jm (ja (i:=0) (show(["i", "j", "order"]:ap).Nodup by decide +kernel) rfl (Or.inl rfl)<|.inr rfl)<|jm (ja (i:=1) (show(["i", "j", "order"]:ap).Nodup by decide +kernel) rfl (Or.inl rfl)<|.inr rfl) nv) (λ_ _ _ _=>vG<|jh (Ad hr.units) (j3 (iC 2)<|iU nY (iC 0) iK)<|j3 (iC 2)<|iU nY (iC 1) iK) λ_ _ _ _=>lD<|iF (iC 0)<|iF (iC 1) iO)
def G_:FnScope xj uq (iT xX):=sD rfl rfl rfl ∅
def HR(F:Fun K "length" "length" xX f fd)(YB:mg "len" = none)(YZ:nA P w K mg base 2 "wrong_pairs" oZ kW):FnOk P w K mg base nX 3 f fd uq (pV K 1 kP):=su (m:=xH) F G_ λcdv B outer s H E hr=>
 iN (jc<|i7 kQ YB jP<|iF (F0 YZ hr<|iC 0) iO)
def Ji:FnScope zh zP (iT zN):=sD rfl rfl rfl ∅
def Jo(F:Fun K "falls" "falls" zN f fd)(YC:mg "range" = none)(YB:mg "len" = none):FnOk P w K mg base nX 1 f fd zP (pV K 1 rq):=su (m:=z8) F Ji λcdv B outer s H E hr=>
 iN (jc<|um (N:=["k", "order"]) (cap:=[none,some 0]) rfl (zb ["order"] rfl ∅ ∅ ∅ ∅ ∅ (cT.mpr ⟨by first|exact Or.inl rfl|exact Or.inr rfl,(nofun)⟩) ⟨rfl,by decide +kernel,trivial⟩) (rF YC iK<|i7 kQ YB jP<|iF (iC 0) iO) (λ_ _ _ _=>ja (i:=0) (show(["k", "order"]:ap).Nodup by decide +kernel) rfl (Or.inl rfl)<|.inr rfl) (λ_ _ _ _=>vG<|jh (Ad hr.units) (j3 (iC 1)<|iU nY (iC 0) iK)<|j3 (iC 1)<|iC 0) λ_ _ _ _=>iC 0)
def j9:FnScope ko kC (iT kB):=sD rfl rfl rfl ∅
def qm(F:Fun K "first_above_nought" "first_above_nought" kB f fd):FnOk P w K mg base nX 1 f fd kC (pV K 1 ju):=su (m:=kE) F j9 λcdv B outer s H E hr=>
 iL (ji (i:=1) j9.nd iK)
 (iL (Bt 1000000 cu (jh N3 (j3 (iC 0)<|iU nY (iC 1) iK) iK)
 (iN<|Sl (i:=1) j9.nd iK EY))
 (iN<|jc<|iC 1))
def xG:FnScope Lb JG (iT JD):=sD rfl rfl rfl ∅
def SA(F:Fun K "bar" "bar" JD f fd)(YB:mg "len" = none)(YC:mg "range" = none)(YJ:mg "max" = none)(YK:nA P w K mg base 1 "need_pair" nZ ku)(Y0:nA P w K mg base 1 "first_above_nought" kC ju):FnOk P w K mg base nX 2 f fd JG (pV K 2 zg):=su (m:=JV) F xG λcdv B outer s H E hr=>
 iL (rL<|yp YK hr (iC 0)<|iC 1)
 (iL (ji (i:=2) xG.nd<|iU xh (nJ<|iF iK iO)<|i7 kQ YB jP<|iF (iC 0) iO)
 (iL (nc cu rfl (nB YC<|i7 kQ YB jP<|iF (iC 0) iO) (ja (i:=3) xG.nd)
 (iL (nc cu rfl (nB YC<|j3 (iC 0)<|iC 3) (ja (i:=4) xG.nd)
 (iN<|Fl (iC 2) (iC 4) iK EY))
 (iL (nc cu rfl (nB YC<|j3 (iC 1)<|iC 3) (ja (i:=4) xG.nd)
 (iN<|Fl (iC 2) (iC 4) iK OU))
 (iN (kK (jh (Ad hr.units) (i7 (Sb rfl) YJ L5<|iF (iC 2) iO) iK)
 (iN<|jc<|lD<|iF (iU jL (iC 3) iK)<|iF (F0 Y0 hr<|iC 2) iO)
 jw)))))
 (iN<|jc<|J4)))
def BE:FnScope qc qg (iT sY):=sD rfl rfl rfl ∅
def A7(F:Fun K "is_below" "is_below" sY f fd)(Y3:nA P w K mg base 2 "bar" JG zg):FnOk P w K mg base nX 3 f fd qg (pV K 2 lB):=su (m:=qd) F BE λcdv B outer s H E hr=>
 iN (jc<|Di Wr (yp Y3 hr (iC 0)<|iC 1)<|J4)
def wF:FnScope mU pC (iT oO):=sD rfl rfl rfl ∅
def w9(F:Fun K "need_bounds" "need_bounds" oO f fd)(YB:mg "len" = none)(YG:nA P w K mg base 3 "length" uq kP):FnOk P w K mg base nX 4 f fd pC (pV K 5 jQ):=su (m:=mV) F wF λcdv B outer s H E hr=>
 iL (kK (jh N3 (i7 kQ YB jP<|iF (iC 0) iO)<|iC 2)
 (iN<|Nm)
 jw)
 (iN (kK (AW.at<|A_ (jh (Ad hr.units) (i7 kQ YB jP<|iF (iC 0) iO)<|iC 3)<|Ai<|jh (Ad hr.units) (iU nY (F0 YG hr<|iC 1)<|F0 YG hr<|iC 0)<|iC 4)
 (iN<|KW)
 jw))
def uF:FnScope m_ k_ (iT m7):=sD rfl rfl rfl ∅
def uK(F:Fun K "as_polynomial" "as_polynomial" m7 f fd)(Y4:mg "sorted" = none):FnOk P w K mg base nX 1 f fd k_ (pV K 1 jx):=su (m:=m8) F uF λcdv B outer s H E hr=>
 iN (jc<|um (N:=["power", "numbers"]) (cap:=[none,some 0]) rfl (zb ["numbers"] rfl ∅ ∅ ∅ ∅ ∅ (cT.mpr ⟨by first|exact Or.inl rfl|exact Or.inr rfl,(nofun)⟩) ⟨rfl,by decide +kernel,trivial⟩) (qU<|i7 (Nb rfl) Y4 HK<|iF (iC 0) iO) (λ_ _ _ _=>ja (i:=0) (show(["power", "numbers"]:ap).Nodup by decide +kernel) rfl (Or.inl rfl)<|.inr rfl) (λ_ _ _ _=>vG<|jh (Cp hr.units) (LY hr.units (iC 1)<|iC 0) iK) λ_ _ _ _=>lD<|iF (iC 0)<|iF (LY hr.units (iC 1)<|iC 0) iO)
def vm:FnScope CO Dk (iT CW):=sD rfl rfl rfl ∅
def OZ(F:Fun K "plus" "plus" CW f fd)(Y5:mg "dict" = none)(YL:nA P w K mg base 1 "as_polynomial" k_ jx):FnOk P w K mg base nX 2 f fd Dk (pV K 2 xE):=su (m:=Du) F vm λcdv B outer s H E hr=>
 iL (ji (i:=2) vm.nd<|mq (Ov rfl) Y5 OF<|iF (iC 0) iO)
 (iL (nc cu rfl (qU<|iC 1) (p7 rfl<|jm (ja (i:=3) vm.nd)<|jm (ja (i:=4) vm.nd) nv)
 (iN<|nH (iU jL (JM fh PySem.F.type_dict_get (LS hr.units) (iC 2)<|iF (iC 3)<|iF iK iO)<|iC 4)<|D6 hr.units (iC 2)<|iC 3))
 (iN<|jc<|F0 YL hr<|iC 2))
def pQ:FnScope zq zj (iT zZ):=sD rfl rfl rfl ∅
def JC(F:Fun K "times" "times" zZ f fd)(YL:nA P w K mg base 1 "as_polynomial" k_ jx):FnOk P w K mg base nX 2 f fd zj (pV K 2 rG):=su (m:=Ah) F pQ λcdv B outer s H E hr=>
 iL (ji (i:=2) pQ.nd Jd)
 (iL (nc cu rfl (qU<|iC 0) (p7 rfl<|jm (ja (i:=3) pQ.nd)<|jm (ja (i:=4) pQ.nd) nv)
 (iN (nc cu rfl (qU<|iC 1) (p7 rfl<|jm (ja (i:=5) pQ.nd)<|jm (ja (i:=6) pQ.nd) nv)
 (iN<|nH (iU jL (JM fh PySem.F.type_dict_get (LS hr.units) (iC 2)<|iF (iU jL (iC 3)<|iC 5)<|iF iK iO)<|iU RO (iC 4)<|iC 6)<|D6 hr.units (iC 2)<|iU jL (iC 3)<|iC 5))))
 (iN<|jc<|F0 YL hr<|iC 2))
def AK:FnScope oF qQ (iT qz):=sD rfl rfl rfl ∅
def Aa(F:Fun K "need_rest" "need_rest" qz f fd)(Y6:∃t,mg "MOST_PAIRS" = some (.int 6 t))(Y7:∃t,mg "MOST_THINGS" = some (.int 8 t))(Y8:∃t,mg "FREE_THINGS" = some (.int 5 t))(YK:nA P w K mg base 1 "need_pair" nZ ku)(Y9:nA P w K mg base 4 "need_bounds" pC jQ):FnOk P w K mg base nX 5 f fd qQ (pV K 2 lO):=su (m:=n_) F AK λcdv B outer s H E hr=>
 iL (rL<|yp YK hr (iC 0)<|iC 1)
 (iN<|rL<|om Y9 (hr.mono ⋯) (iF (iC 0)<|iF (iC 1)<|iF (wz Y8.choose_spec)<|iF (wz Y7.choose_spec)<|iF (wz Y6.choose_spec) iO)<|iW<|iW<|iW<|iW<|iW kc)
def kY:FnScope jV ki (iT nU):=sD rfl rfl rfl ∅
def vg{Fs:ad->iI->R A}(F:Fun K "rest_by_fall" "rest_by_fall" nU f fd)(YO:nA P w K mg base 1 "falls" zP rq)(YQ:nA P w K mg base 3 "exchanged" qT lN)(Y_:nA P w K mg base 2 "plus" Dk xE)(Za:nA P w K mg base 2 "times" zj rG)(Zl:nA P w K mg base (4+2 * kr) "found_rest" jJ Fs):FnOk P w K mg base nX (4+2 * kr+1) f fd ki (pV K 3<|jT jV<|jv Fs):=su (m:=jv Fs) F kY λcdv B outer s H E hr=>
 iL (ji (i:=3) kY.nd<|j3 (om YO (hr.mono ()) (iF (iC 1) iO)<|iW kc) iK)
 (iL (ji (i:=4) kY.nd<|om YQ (hr.mono ()) (iF (iC 1)<|iF (iC 3) iO)<|iW<|iW kc)
 (iL (ji (i:=5) kY.nd<|om Zl (hr.mono ()) (iF (om YQ (hr.mono ()) (iF (iC 0)<|iF (iC 3) iO)<|iW<|iW kc)<|iF (iC 4)<|iF (iC 2) iO)<|iW<|iW<|iW kc)
 (iL (kK (jh (Xi hr.units) (iC 3)<|om YO (hr.mono ()) (iF (iC 0) iO)<|iW kc)
 (iN<|jc<|iC 5)
 jw)
 (iN<|jc<|om Y_ (hr.mono ()) (iF (iC 5)<|iF (om Za (hr.mono ()) (iF (nJ<|iF (lD<|iF iK<|iF iK iO) iO)<|iF (om Zl (hr.mono ()) (iF (iC 0)<|iF (iC 4)<|iF (iC 2) iO)<|iW<|iW<|iW kc) iO)<|iW<|iW kc) iO)<|iW<|iW kc))))
def r_:FnScope lY jJ (iT nu):=sD rfl rfl rfl ∅
def yk{Fs:ad->iI->R A}(F:Fun K "found_rest" "found_rest" nu f fd)(YM:nA P w K mg base 3 "is_below" qg lB)(Zp:nA P w K mg base (4+2 * kr+1) "rest_by_fall" ki<|jT jV<|jv Fs):FnOk P w K mg base nX (4+2 * kr+2) f fd jJ (pV K 3<|jT lY<|lX Fs):=su (m:=lX Fs) F r_ λcdv B outer s H E hr=>
 iL (ji (i:=3) r_.nd<|lD<|iF (iC 0)<|iF (iC 1) iO)
 (iL (kK (jh (Kr hr.units) (iC 3)<|iC 2)
 (iN (kK (jh (HA hr.units) (iC 0)<|iC 1)
 (iN<|nH (nJ<|iF (lD<|iF iK<|iF iK iO) iO)<|Ac hr.units (iC 2)<|iC 3)
 (iN (kK (C4<|CS<|om YM (hr.mono ()) (iF (iC 0)<|iF (iC 1) iO)<|iW<|iW kc)
 (iN<|nH (nJ iO)<|Ac hr.units (iC 2)<|iC 3)
 (iN<|nH (om Zp (hr.mono ()) (iF (iC 0)<|iF (iC 1)<|iF (iC 2) iO)<|iW<|iW<|iW kc)<|Ac hr.units (iC 2)<|iC 3)))))
 jw)
 (iN<|jc<|Q6 hr.units (iC 2)<|iC 3))
theorem qK(F:Fun K "found_rest" "found_rest" nu f fd)(YM:nA P w K mg base 3 "is_below" qg lB)(M_rest_by_fall:∀{Fs:ad->iI->R A} {kr:Nat},nA P w K mg base (4+2 * kr) "found_rest" jJ Fs->nA P w K mg base (4+2 * kr+1) "rest_by_fall" ki (jT jV<|jv Fs))(hm:mg "found_rest" = some (.ref f))(hk:PySem.W.keepIn K (.ref f)=true)(hb:Binds K fd jJ []):∀kr,FnOk P w K mg base nX (4+2 * kr) f fd jJ (pV K 3<|kR kr)
 | 0=>RB rfl
 | kr+1=>yk F YM<|M_rest_by_fall ⟨f,fd,qK F YM M_rest_by_fall hm hk hb kr,hm,hk,hb⟩
def NL:FnScope DG Af (iT C_):=sD rfl rfl rfl ∅
def Pb(F:Fun K "rest" "rest" C_ f fd)(Zb:nA P w K mg base 5 "need_rest" qQ lO)(Zc:nA P w K mg base 48 "found_rest" jJ qf):FnOk P w K mg base nX 49 f fd Af (pV K 2 mQ):=su (m:=C9) F NL λcdv B outer s H E hr=>
 iL (rL<|yp Zb hr (iC 0)<|iC 1)
 (iN<|jc<|VP Zc hr (iC 0) (iC 1)<|Jg)
def nO:FnScope uP uL (iT uT):=sD rfl rfl rfl ∅
def DN(F:Fun K "_law_bag" "_law_bag" uT f fd)(YB:mg "len" = none):FnOk P w K mg base nX 1 f fd uL (pV K 2 pO):=su (m:=uX) F nO λcdv B outer s H E hr=>
 iL (ji (i:=2) nO.nd iK)
 (iL (kK (jh (Ar hr.units) (iC 1)<|i7 kQ YB jP<|iF (iC 0) iO)
 (iN<|ji (i:=2) nO.nd<|j3 (iC 0)<|iC 1)
 jw)
 (iL (ji (i:=3) nO.nd iK)
 (iL (kK (jh WW (iC 2)<|iU Vg iK iK)
 (iN<|ji (i:=3) nO.nd<|iC 2)
 jw)
 (iN<|jc<|nJ<|iF (iC 3)<|iF (iU yG (iU jL (iU jL (iC 2)<|iU xh iK<|iC 1) iK) iK) iO))))
def tF:FnScope oG mZ (iT q_):=sD rfl rfl rfl ∅
def zA(F:Fun K "_law_digit" "_law_digit" q_ f fd):FnOk P w K mg base nX 1 f fd mZ (pV K 2 iY):=su (m:=oB) F tF λcdv B outer s H E hr=>
 iL (kK (jh (Ad hr.units) (j3 (iC 0) iK) iK)
 (iL (ji (i:=2) tF.nd<|iU yG (j3 (iC 0) iK)<|iC 1)
 (iL (nH (iU Lp (j3 (iC 0) iK)<|iC 1)<|xW (iC 0) iK)
 (iN<|jc<|iC 2)))
 jw)
 (iL (nH (iU yG (iU jL (iU xh (j3 (iC 0) iK) iK) iK) iK)<|xW (iC 0) iK)
 (iN<|jc<|iU yG (iU yG (iU xh (iU Lp (j3 (iC 0) iK) iK) iK) iK)<|iC 1))
def p6:FnScope qR qC (iT qW):=sD rfl rfl rfl ∅
def Az(F:Fun K "_law_order" "_law_order" qW f fd)(YI:mg "list" = none)(YC:mg "range" = none)(YB:mg "len" = none)(YD:mg "tuple" = none)(YE:nA P w K mg base 1 "_law_digit" mZ iY):FnOk P w K mg base nX 2 f fd qC (pV K 2 lK):=su (m:=qq) F p6 λcdv B outer s H E hr=>
 iL (ji (i:=2) p6.nd<|mq (Mc rfl) YI Em<|iF (mq Jy YC BO<|iF iK<|iF (iU jL (iC 1) iK) iO) iO)
 (iL (ji (i:=3) p6.nd<|nJ iO)
 (iL (Bt 1000000 cu (jh (Ad hr.units) (i7 kQ YB jP<|iF (iC 2) iO) iK)
 (iN<|rL<|Iz PySem.F.slot_list_append PySem.F.type_list_append Bm (iC 3)<|iF (Iz PySem.F.slot_list_pop PySem.F.type_list_pop O5 (iC 2)<|iF (yp YE hr (iC 0)<|i7 kQ YB jP<|iF (iC 2) iO) iO) iO))
 (iN<|jc<|mq (vN rfl) YD qV<|iF (iC 3) iO)))
def wH:FnScope oX o4 (iT pH):=sD rfl rfl rfl ∅
def ye(F:Fun K "_law_swapped" "_law_swapped" pH f fd):FnOk P w K mg base nX 1 f fd o4 (pV K 3 kU):=su (m:=oQ) F wH λcdv B outer s H E hr=>
 iN (jc<|iU jL (iU jL (iU jL (iU jL (ES (iC 0) Ej<|rJ<|iC 1)<|lD<|iF (j3 (iC 0)<|iC 2) iO)<|ES (iC 0) (rJ<|iU jL (iC 1) iK)<|rJ<|iC 2)<|lD<|iF (j3 (iC 0)<|iC 1) iO)<|ES (iC 0) (rJ<|iU jL (iC 2) iK) Ej)
def jO:FnScope mT mO (iT mL):=sD rfl rfl rfl ∅
theorem t_(F:Fun K "_law_pairs_less" "_law_pairs_less" mL f fd)(YC:mg "range" = none)(YB:mg "len" = none):FnOk P w K mg base nX 1 f fd mO (pV K 2 jW):=su (m:=mR) F jO λcdv B outer s H E hr=>
 iL (ji (i:=2) jO.nd<|nJ iO)
 (iL (nc cu rfl (nB YC<|i7 kQ YB jP<|iF (iC 0) iO) (ja (i:=3) jO.nd)
 (iN (nc cu rfl (rF YC (iU jL (iC 3) iK)<|i7 kQ YB jP<|iF (iC 0) iO) (ja (i:=4) jO.nd)
 (iL (ji (i:=5) jO.nd<|i7 kQ YB jP<|iF (um (N:=["_law_thing", "_law_one", "_law_j", "_law_i"]) (cap:=[none,some 0,some 4,some 3]) rfl (zb ["_law_one", "_law_j", "_law_i"] rfl ∅ ∅ ∅ ∅ ∅ (cT.mpr ⟨by first|exact Or.inl rfl|exact Or.inr rfl,(cT.mpr ⟨by first|exact Or.inl rfl|exact Or.inr rfl,(cT.mpr ⟨by first|exact Or.inl rfl|exact Or.inr rfl,(nofun)⟩)⟩)⟩) ⟨rfl,by decide +kernel,⟨rfl,by decide +kernel,⟨rfl,by decide +kernel,trivial⟩⟩⟩) (qU<|ES (iC 0) (rJ<|iU jL (iC 3) iK)<|rJ<|iC 4) (λ_ _ _ _=>ja (i:=0) (show(["_law_thing", "_law_one", "_law_j", "_law_i"]:ap).Nodup by decide +kernel) rfl (Or.inl rfl)<|.inr rfl) (λ_ _ _ _=>vG<|VE (Ar hr.units) (Ar hr.units) (j3 (iC 1)<|iC 2) (iC 0)<|j3 (iC 1)<|iC 3) λ_ _ _ _=>iC 0) iO)
 (iN (kK (AW.at<|Ag (jh (Ad hr.units) (j3 (iC 0)<|iC 3)<|j3 (iC 0)<|iC 4)<|vR<|jh N3 (iU jL iK<|iU xh iK<|iC 5)<|iC 1)
 (iN<|rL<|Iz PySem.F.slot_list_append PySem.F.type_list_append Bm (iC 2)<|iF (lD<|iF (iC 3)<|iF (iC 4)<|iF (iU jL iK<|iU xh iK<|iC 5) iO) iO)
 jw))))))
 (iN<|jc<|iC 2))
def jC:FnScope qF qv (iT qH):=sD rfl rfl rfl ∅
def zO(F:Fun K "_law_under" "_law_under" qH f fd)(YC:mg "range" = none)(YB:mg "len" = none)(YE:nA P w K mg base 1 "_law_digit" mZ iY)(Zd:nA P w K mg base 1 "_law_pairs_less" mO jW)(Ze:nA P w K mg base 1 "_law_swapped" o4 kU):FnOk P w K mg base nX 2 f fd qv (pV K 3 lJ):=su (m:=qM) F jC λcdv B outer s H E hr=>
 iL (ji (i:=3) jC.nd<|iC 1)
 (iL (nc cu rfl (nB YC<|yp YE hr (iC 0) iK) (ja (i:=4) jC.nd)
 (iL (ji (i:=5) jC.nd<|yp Zd hr (iC 3)<|iC 2)
 (iN (kK (jh (Cp hr.units) (iC 5)<|nJ iO)
 (iL (nH (j3 (iC 5)<|yp YE hr (iC 0)<|i7 kQ YB jP<|iF (iC 5) iO)<|p7 rfl<|jm (ja (i:=6) jC.nd)<|jm (ja (i:=7) jC.nd)<|jm (ja (i:=8) jC.nd) nv)
 (iL (ji (i:=3) jC.nd<|VP Ze hr (iC 3) (iC 6)<|iC 7)
 (iN<|ji (i:=2) jC.nd<|iU nY (iC 2)<|iC 8)))
 jw))))
 (iN<|jc<|iC 3))
def kj:FnScope sU sV (iT sC):=sD rfl rfl rfl ∅
def Ct(F:Fun K "_law_case" "_law_case" sC f fd)(YH:mg "int" = none)(YD:mg "tuple" = none)(YC:mg "range" = none)(YE:nA P w K mg base 1 "_law_digit" mZ iY)(Zf:nA P w K mg base 2 "_law_order" qC lK)(Zg:nA P w K mg base 2 "_law_under" qv lJ):FnOk P w K mg base nX 3 f fd sV (pV K 2 nG):=su (m:=sQ) F kj λcdv B outer s H E hr=>
 iL (ji (i:=2) kj.nd<|iU jL iK<|yp YE hr (iC 0)<|j3 (nJ<|iF iK<|iF iK iO)<|mq Tf YH IF<|iF (Di (Ad hr.units) (iC 1) iK) iO)
 (iL (ji (i:=3) kj.nd iK)
 (iL (kK (AW.at<|Ag (jh (HA hr.units) (iC 1) iK)<|vR<|jh (HA hr.units) (yp YE hr (iC 0) iK) iK)
 (iL (ji (i:=2) kj.nd<|iU jL iK<|yp YE hr (iC 0) iK)
 (iN<|ji (i:=3) kj.nd iK))
 jw)
 (iL (ji (i:=4) kj.nd<|yp Zf hr (iC 0)<|iC 2)
 (iL (kK (AW.at<|Ag (jh (HA hr.units) (yp YE hr (iC 0) iK) iK)<|vR<|jh (Ar hr.units) (iC 2) iK)
 (iN<|ji (i:=4) kj.nd<|LC rfl YD qV YC BO (iC 2) iK<|Jm iK)
 jw)
 (iN<|jc<|lD<|iF (VP Zg hr (iC 0) (iC 4)<|iC 3)<|iF (iC 4) iO)))))
def BF:FnScope sf sj (iT sS):=sD rfl rfl rfl ∅
def AQ(F:Fun K "_law_over" "_law_over" sS f fd)(YD:mg "tuple" = none)(YB:mg "len" = none):FnOk P w K mg base nX 1 f fd sj (pV K 1 mS):=su (m:=sZ) F BF λcdv B outer s H E hr=>
 iN (jc<|mq (vN rfl) YD qV<|iF (um (N:=["_law_thing", "_law_one"]) (cap:=[none,some 0]) rfl (zb ["_law_one"] rfl ∅ ∅ ∅ ∅ ∅ (cT.mpr ⟨by first|exact Or.inl rfl|exact Or.inr rfl,(nofun)⟩) ⟨rfl,by decide +kernel,trivial⟩) (qU<|iC 0) (λ_ _ _ _=>ja (i:=0) (show(["_law_thing", "_law_one"]:ap).Nodup by decide +kernel) rfl (Or.inl rfl)<|.inr rfl) (λ_ _ _ _=>zI) λ_ _ _ _=>iU nY (iU jL (i7 kQ YB jP<|iF (iC 1) iO) iK)<|iC 0) iO)
def Bs:FnScope sX sP (iT sF):=sD rfl rfl rfl ∅
def Bj(F:Fun K "_law_like" "_law_like" sF f fd)(YF:nA P w K mg base 49 "rest" Af mQ)(YR:nA P w K mg base 1 "back" C8 uB)(YS:nA P w K mg base 1 "_law_over" sj mS):FnOk P w K mg base nX 50 f fd sP (pV K 3 nR):=su (m:=sG) F Bs λcdv B outer s H E hr=>
 iL (kK (jh (Cp hr.units) (yp YF hr (F0 YR hr<|iC 0)<|F0 YR hr<|iC 1)<|iC 2)
 (iN<|jc xR)
 jw)
 (iL (kK (jh (Cp hr.units) (yp YF hr (F0 YS hr<|iC 1)<|F0 YS hr<|iC 0)<|iC 2)
 (iN<|jc xR)
 jw)
 (iN<|jc<|Di (HA hr.units) (yp YF hr (LN<|iC 1)<|LN<|iC 0)<|iC 2))
def o_:FnScope IU Qt (iT KY):=sD rfl rfl rfl ∅
set_option smartUnfolding false in
theorem Rk(F:Fun K "law" "law" KY f fd)(YC:mg "range" = none)(YJ:mg "max" = none)(Zh:mg "min" = none)(YB:mg "len" = none)(Zi:nA P w K mg base 1 "_law_bag" uL pO)(Zj:nA P w K mg base 3 "_law_case" sV nG)(YF:nA P w K mg base 49 "rest" Af mQ)(YG:nA P w K mg base 3 "length" uq kP)(Zk:nA P w K mg base 50 "_law_like" sP nR):FnOk P w K mg base nX 51 f fd Qt (pV K 1 yr):=su (m:=ML) F o_ λcdv B outer s H E hr=>
 iL (nc cu rfl (nB YC<|i7 (RM rfl) YJ L5<|iF iK<|iF (i7 (Rx rfl) Zh Se<|iF (i7 kQ YB jP<|iF (iC 0) iO)<|iF iK iO) iO) (ja (i:=1) o_.nd)
 (iL (ji (i:=2) o_.nd<|yp Zi hr (iC 0)<|iC 1)
 (iL (nH (yp Zj hr (iC 2)<|iC 1)<|p7 rfl<|jm (ja (i:=3) o_.nd)<|jm (ja (i:=4) o_.nd) nv)
 (iL (ji (i:=5) o_.nd<|yp YF hr (iC 3)<|iC 4)
 (iL (ji (i:=6) o_.nd<|iU nY (F0 YG hr<|iC 4)<|F0 YG hr<|iC 3)
 (iL (kK (AW.at<|A_ (jh (HA hr.units) (iC 5)<|nJ iO)<|Ai<|jh (Cp hr.units) (j3 (iC 5)<|Jm iK)<|lD<|iF (iC 6)<|iF iK iO)
 (iN<|jc xR)
 jw)
 (iL (nc cu rfl (qU<|iC 5) (p7 rfl<|jm (ja (i:=7) o_.nd)<|jm (ja (i:=8) o_.nd) nv)
 (iN (kK (AW.at<|A_ (jh (Cp hr.units) (iU yG (iU nY (iC 6)<|iC 7) iK) iK)<|A_ (jh (Ar hr.units) (iC 8) iK)<|Ai<|jh (Ar hr.units) (iC 7) iK)
 (iN<|jc xR)
 jw)))
 (iL (kK (C4<|CS<|VP Zk hr (iC 3) (iC 4)<|iC 5)
 (iN<|jc xR)
 jw)
 (iL (ji (i:=9) o_.nd<|iU jL (i7 kQ YB jP<|iF (iC 3) iO) iK)
 (iN (kK (AW.at<|Ag (AW.at<|A_ (jh (Ar hr.units) (iC 9) iK)<|Ai<|jh (Ar hr.units) (iC 6) iK)<|vR<|jh (Cp hr.units) (yp YF hr (iU jL (iC 3)<|lD<|iF (iC 9) iO)<|iU jL (iC 4)<|lD<|iF (iC 9) iO)<|iC 5)
 (iN<|jc xR)
 jw)))))))))))
 (iN<|jc xR)
end
end K36
namespace Po
open Am
meta abbrev Pl:=List<|Int×Int
abbrev val (d:Pl)(k:Int):Int:=((d.find? λp=>decide<|p.1=k).map (·.2)).getD 0
abbrev has (d:Pl)(k:Int):Bool:=d.any λp=>decide<|p.1=k
abbrev put (d:Pl)(k v:Int):Pl:=if has d k=true then d.map (λp=>if p.1=k then(p.1,v)else p)else d++[(k,v)]
abbrev acc (d:Pl)(k v:Int):Pl:=put d k<|val d k+v
abbrev cf:Pl->Int->Int
 | [],_=>0
 | p::l,k=>(if p.1=k then p.2 else 0)+cf l k
def nS{p:Int×Int}{d:Pl}{k:Int}:val (p::d) k=if p.1=k then p.2 else val d k:=by
 unfold val;rw[cI];by_cases h:p.1=k
 ·rw[aT h,aK h];rfl
 ·rw[aS h,aJ h]
def wX{p:Int×Int}{d:Pl}{k:Int}:has (p::d) k=(decide (p.1=k) || has d k):=rfl
def ur{d:Pl}{k:Int}:has d k=true ↔ k∈d.map Prod.fst:=by
 unfold has;rw[ie,bV];constructor
 ·rintro⟨p,h1,h2⟩;exact⟨p,h1,cB h2⟩
 ·rintro⟨p,h1,h2⟩;exact⟨p,h1,aT h2⟩
def Je{d:Pl}{k:Int}(h:has d k=false):val d k=0:=by
 induction d with
 | nil=>rfl
 | cons p d ih=>
  rw[wX,Bool.or_eq_false_iff]at h;rw[nS,aJ<|dZ h.1,ih h.2]
def Pd{d:Pl}{k v j:Int}(h:has d k=false):val (d++[(k,v)]) j=if j=k then v else val d j:=by
 induction d with
 | nil=>
  show val [(k,v)] j=_;rw[nS];by_cases c:k=j
  ·rw[aK c,aK c.symm]
  ·rw[aJ c,aJ λz=>c z.symm]
 | cons p d ih=>
  rw[wX,Bool.or_eq_false_iff]at h;have:=dZ h.1;rw[gz,nS,nS,ih h.2];by_cases c:p.1=j
  ·rw[aK c,aK c,aJ λz=>this<|c.trans z]
  ·rw[aJ c,aJ c]
def Od{d:Pl}{k v j:Int}:val (d.map λp=>if p.1=k then(p.1,v)else p) j=if j=k/\has d k=true then v else val d j:=by
 induction d with
 | nil=>
  rw[aJ λz=>by cases z.2];rfl
 | cons p d ih=>
  rw[bU,nS,nS,ih,wX];by_cases c:p.1=k
  ·rw[aK c,aT c,Bool.true_or];by_cases e:j=k
   ·rw[aK<|show p.1=j by lia,aK ⟨e,rfl⟩]
   ·rw[aJ<|show ¬p.1=j by lia,aJ λz=>e z.1,aJ λz=>e z.1,aJ<|show ¬p.1=j by lia]
  ·rw[aJ c,aS c,gB];by_cases e:p.1=j
   ·rw[aK e,aK e,aJ λz=>c<|e.trans z.1]
   ·rw[aJ e,aJ e]
def M9{d:Pl}{k v j:Int}:val (put d k v) j=if j=k then v else val d j:=by
 unfold put
 cases h:has d k with
 | true=>
  rw[aK rfl,Od,h];by_cases c:j=k
  ·rw[aK ⟨c,rfl⟩,aK c]
  ·rw[aJ λz=>c z.1,aJ c]
 | false=>rw[aJ<|by simp,Pd h]
def Pg{d:Pl}{k v j:Int}:val (acc d k v) j=val d j+if k=j then v else 0:=by
 unfold acc;rw[M9];by_cases c:j=k
 ·subst c;rw[aK rfl,aK rfl]
 ·rw[aJ c,aJ λz=>c z.symm,dR]
def Lg{d:Pl}{k v:Int}:(put d k v).map Prod.fst=if has d k=true then d.map Prod.fst else d.map Prod.fst++[k]:=by
 unfold put;split
 ·rw[cH];apply gR;intro p _;show(if p.1=k then(p.1,v)else p).1=p.1;split<;>rfl
 ·rw[cj];rfl
def Sv{d:Pl}{k v:Int}(h:(d.map Prod.fst).Nodup):((put d k v).map Prod.fst).Nodup:=by
 rw[Lg];split
 ·exact h
 ·rename_i c;rw[di];refine⟨h,c_ _ _,λa ha b hb z=>c ?_⟩;rw[bI]at hb;rw[ur,<- hb,<- z];exact ha
def NB{d:Pl}{k v:Int}:(put d k v).length<=d.length+1:=by
 unfold put;split
 ·rw[aL];lia
 ·rw[aX];exact aQ _
abbrev Bd (c:Nat)(d:Pl):Prop:=∀p∈d,p.2.natAbs<=c
abbrev nW (d ps:Pl):Pl:=ps.foldl (λd p=>acc d p.1 p.2) d
def L1(d:Pl):nW d []=d:=rfl
def wN(d ps qs:Pl):nW d (ps++qs)=nW (nW d ps) qs:=by unfold nW;rw[eG]
def tM(ps:Pl):∀(d:Pl) (k:Int),val (nW d ps) k=val d k+cf ps k:=by
 induction ps with
 | nil=>intro d k;rw[L1];show _=_+0;rw[dR]
 | cons p ps ih=>
  intro d k;show val (nW (acc d p.1 p.2) ps) k=_;rw[ih,Pg];show _=_+(_+_);rw[add_assoc]
def uh(ps:Pl):∀{d:Pl},(d.map Prod.fst).Nodup->((nW d ps).map Prod.fst).Nodup:=by
 induction ps with
 | nil=>intro d h;exact h
 | cons p ps ih=>intro d h;exact ih<|Sv h
def pX(ps:Pl):∀(d:Pl),(nW d ps).length<=d.length+ps.length:=by
 induction ps with
 | nil=>intro d;exact aQ _
 | cons p ps ih=>
  intro d;have h1:=ih<|acc d p.1 p.2;have h2:(acc d p.1 p.2).length<=d.length+1:=NB;show(nW (acc d p.1 p.2) ps).length<=_;rw[bz]
  lia
structure Ok (l:Pl):Prop where
 up:l.Pairwise λp q=>p.1<q.1
 nz:∀p∈l,p.2≠0
def Ok.tail{p:Int×Int}(h:Ok (p::l)):Ok l:=⟨(bZ.mp h.up).2,λq hq=>h.nz q<|aP _ hq⟩
def Be{l:Pl}{k:Int}(h:∀p∈l,k<p.1):cf l k=0:=by
 induction l with
 | nil=>rfl
 | cons p l ih=>
  show(if p.1=k then p.2 else 0)+cf l k=0;have:=h p<|aN ..;rw[aJ (),ih λq hq=>h q<|aP _ hq];rfl
def Ok.head{p:Int×Int}(h:Ok (p::l)):cf (p::l) p.1=p.2:=by
 show(if p.1=p.1 then p.2 else 0)+cf l p.1=p.2;rw[aK rfl,Be (bZ.mp h.up).1,dR]
def Ok.low{p:Int×Int}(h:Ok (p::l)){k:Int}(hk:k<p.1):cf (p::l) k=0:=Be λq hq=>by
 rcases bJ.mp hq with rfl|z
 ·exact hk
 ·have:=(bZ.mp h.up).1 q z;lia
theorem uniq:∀{l m:Pl},Ok l->Ok m->(∀k,cf l k=cf m k)->l=m
 | [],[],_,_,_=>rfl
 | [],q::m,_,h,e=>by
  have:=e q.1;rw[h.head]at this;exact absurd this.symm<|h.nz q<|aN ..
 | p::l,[],h,_,e=>by
  have:=e p.1;rw[h.head]at this;exact absurd this<|h.nz p<|aN ..
 | p::l,q::m,h,h',e=>by
  have n1:=h.nz p<|aN ..;have n2:=h'.nz q<|aN ..;have e1:p.1=q.1:=by
   rcases Int.lt_trichotomy p.1 q.1 with c|c|c
   ·have:=e p.1;rw[h.head,h'.low c]at this;exact absurd this n1
   ·exact c
   ·have:=e q.1;rw[h'.head,h.low c]at this;exact absurd this.symm n2
  have e2:p.2=q.2:=by
   have:=e p.1;rw[h.head,e1,h'.head]at this;exact this
  have e3:p=q:=Prod.ext e1 e2;subst e3;rw[uniq h.tail h'.tail λk=>by
   have:(if p.1=k then p.2 else 0)+cf l k=(if p.1=k then p.2 else 0)+cf m k:=e k
   lia]
abbrev FU (d:Pl):Pl:=((sortI<|d.map Prod.fst).filter λk=>val d k != 0).map λk=>(k,val d k)
def OI{ks:ae}(h:ks.Nodup):(sortI ks).Pairwise (· < ·):=by
 have p:=wJ ks;have n:(sortI ks).Nodup:=(sortI_perm ks).nodup_iff.mpr h;have:(sortI ks).Pairwise λa b=>a<=b/\a≠b:=p.and n;exact this.imp λ⟨a,b⟩=>()
def CY{d:Pl}(h:(d.map Prod.fst).Nodup):Ok (FU d):=by
 refine⟨?_,λp hp=>?_⟩
 ·unfold FU;rw[eE];exact(OI h).filter _
 ·obtain⟨k,hk,rfl⟩:=bV.mp hp;have:=(dN.mp hk).2;simpa using this
theorem Jk{d:Pl}{k:Int}:∀{ks:ae},ks.Nodup->cf (ks.map λj=>(j,val d j)) k=if k∈ks then val d k else 0
 | [],_=>by rw[aJ<|by simp];rfl
 | j::ks,h=>by
  obtain⟨h1,h2⟩:=c7.mp h;show(if j=k then val d j else 0)+cf (ks.map λj=>(j,val d j)) k=_;rw[Jk h2];by_cases c:j=k
  ·subst c;rw[aK rfl,aJ h1,aK<|aN ..,dR]
  ·rw[aJ c,dF];by_cases e:k∈ks
   ·rw[aK e,aK<|aP _ e]
   ·rw[aJ e,aJ λz=>(bJ.mp z).elim (λz=>c z.symm) e]
def zC{d:Pl}(h:(d.map Prod.fst).Nodup)(k:Int):cf (FU d) k=val d k:=by
 unfold FU;rw[Jk<|((sortI_perm _).nodup_iff.mpr h).filter _];split
 ·rfl
 ·rename_i c
  cases e:has d k with
  | false=>exact(Je e).symm
  | true=>
   by_cases z:val d k=0
   ·exact z.symm
   ·exact absurd (dN.mpr ⟨(sortI_perm _).mem_iff.mpr<|ur.mp e,by simpa using z⟩) c
def Tt{d e:Pl}(h:(d.map Prod.fst).Nodup)(h':(e.map Prod.fst).Nodup)(hv:∀k,val d k=val e k):FU d=FU e:=
 uniq (CY h) (CY h') λk=>by rw[zC h,zC h',hv]
def Ok.nd{l:Pl}(h:Ok l):(l.map Prod.fst).Nodup:=by
 unfold List.Nodup;rw[eE];exact h.up.imp λa=>()
def To{l:Pl}(h:(l.map Prod.fst).Nodup)(k:Int):val l k=cf l k:=by
 induction l with
 | nil=>rfl
 | cons p l ih=>
  obtain⟨h1,h2⟩:=c7.mp h;rw[nS];show _=(if p.1=k then p.2 else 0)+cf l k;rw[<- ih h2];by_cases c:p.1=k
  ·have:has l k=false:=by
    cases e:has l k with
    | false=>rfl
    | true=>exact absurd (ur.mp e)<|by rw[<- c];exact h1
   rw[aK c,aK c,Je this,dR]
  ·rw[aJ c,aJ c,dF]
abbrev Js (d ps:Pl):Pl:=ps.foldl (λd p=>put d p.1 p.2) d
theorem D7:∀(ps d:Pl),((d++ps).map Prod.fst).Nodup->Js d ps=d++ps
 | [],d,_=>by rw[cN];rfl
 | p::ps,d,h=>by
  have hn:has d p.1=false:=by
   cases e:has d p.1 with
   | false=>rfl
   | true=>
    rw[cj,di]at h;exact absurd rfl<|h.2.2 _ (ur.mp e) p.1<|List.mem_map_of_mem<|aN ..
  have e:put d p.1 p.2=d++[p]:=by unfold put;rw[hn];rfl
  show Js (put d p.1 p.2) ps=_;rw[e,D7 ps (d++[p])<|by rw[bG];exact h,bG];rfl
def O4(h:Ok l):Js [] l=l:=D7 l [] h.nd
abbrev plus (a b:Pl):Pl:=FU<|nW a b
abbrev wL (a b:Pl):Pl:=FU<|nW []<|a++b
def Pk{a:Pl}(h:Ok a):plus a b=wL a b:=by
 refine Tt (uh _ h.nd) (uh _ fC) λk=>?_;rw[tM,tM,To h.nd];have:∀(a b:Pl),cf (a++b) k=cf a k+cf b k:=λa b=>by
  induction a with
  | nil=>exact(dF _).symm
  | cons p a ih=>
   show _+cf (a++b) k=_+_+_;rw[ih,add_assoc]
 rw[this];show _=0+_;rw[dF]
def Lx(a b:Pl):Ok (wL a b):=CY<|uh _ fC
abbrev G3 (a b:Pl):Pl:=a.flatMap λp=>b.map λq=>(p.1+q.1,p.2 * q.2)
abbrev times (a b:Pl):Pl:=FU<|nW []<|G3 a b
def IL(a:Pl)(p:Int×Int)(b:Pl):G3 (a++[p]) b=G3 a b++b.map λq=>(p.1+q.1,p.2 * q.2):=by
 unfold G3;rw[List.flatMap_append,fq,List.flatMap_nil,cN]
def zx(a b:Pl):(G3 a b).length=a.length * b.length:=by
 induction a with
 | nil=>simp[G3]
 | cons p a ih=>
  show((b.map _)++G3 a b).length=_;rw[aX,aL,ih,bz,succ_mul]
  lia
def OY(d:Pl):(FU d).length<=d.length:=by
 unfold Po.FU;rw[aL];refine bP (gp _ _) ?_;rw[(sortI_perm _).length_eq,aL];exact aQ _
abbrev turn (a:Pl):Pl:=a.reverse.map λp=>(-p.1,p.2)
abbrev iv (d:Pl):List (Int×A):=d.map λp=>(p.1,.int p.2)
abbrev pA (p:Int×Int):A:=.tup [.int p.1,.int p.2]
abbrev pl (l:Pl):ad:=l.map pA
def zY(d:Pl)(k:Int):kM (iv d) k=(d.find? λp=>decide<|p.1=k).map λp=>.int p.2:=by
 unfold kM iv;rw[List.find?_map,Option.map_map];rfl
def Mx(d:Pl)(k:Int):(kM (iv d) k).getD (.int 0)=.int (val d k):=by
 rw[zY];unfold val
 cases d.find? λp=>decide (p.1=k)<;>rfl
def Cb{d:Pl}{k:Int}(h:k∈d.map Prod.fst):kM (iv d) k=some (.int<|val d k):=by
 have:=ur.mpr h;unfold has at this;rw[zY];unfold val
 cases e:d.find? λp=>decide (p.1=k)with
 | some p=>rfl
 | none=>
  obtain⟨p,hp,hd⟩:=ie.mp this;exact absurd hd<|List.find?_eq_none.mp e p hp
def CI(d:Pl)(k v:Int):uG (iv d) k (.int v)=iv (put d k v):=by
 have e:(kM (iv d) k).isSome=has d k:=by
  rw[zY,isSome_map];unfold has;rw[Bool.eq_iff_iff,List.find?_isSome,ie]
 unfold uG put;rw[e];unfold iv;split
 ·rw[cH,cH];apply gR;intro p _;show(if p.1=k then(p.1,A.int v)else(p.1,.int p.2))=_;show _=((if p.1=k then(p.1,v)else p).1,A.int (if p.1=k then(p.1,v)else p).2);split<;>rfl
 ·rw[cj];rfl
def Oz(d:Pl):(iv d).map Prod.fst=d.map Prod.fst:=by
 unfold iv;rw[cH];rfl
theorem Qv:∀l:Pl,OG (pl l)=some (iv l)
 | []=>rfl
 | p::l=>by
  show(OG<|pl l).map _=_;rw[Qv l];rfl
def NK(l:Pl):O7 (iv l)=iv (Js [] l):=by
 have:∀(l d:Pl),(iv l).foldl (λacc p=>uG acc p.1 p.2) (iv d)=iv (Js d l):=by
  intro l
  induction l with
  | nil=>intro d;rfl
  | cons p l ih=>
   intro d;show(iv l).foldl _ (uG (iv d) p.1<|.int p.2)=_;rw[CI,ih];rfl
 exact this l []
end Po
namespace Tb
abbrev fg (r:ae)(x:Int):Nat:=r.findIdx λy=>decide<|x<y
abbrev put:List (ae)->Int->List (ae)
 | [],x=>[[x]]
 | r::rs,x=>if fg r x=r.length then(r++[x])::rs else r.set (fg r x) x::put rs (r.getD (fg r x) 0)
abbrev row:List (ae)->Int->Nat
 | [],_=>0
 | r::rs,x=>if fg r x=r.length then 0 else row rs (r.getD (fg r x) 0)+1
abbrev add:List (ae)->Nat->Int->List (ae)
 | [],_,k=>[[k]]
 | q::qs,0,k=>(q++[k])::qs
 | q::qs,i+1,k=>q::add qs i k
abbrev gs (r:ae)(x:Int):ag:=(List.range r.length).filter λk=>decide<|x<r.getD k 0
end Tb
namespace Am
open PySem L2
abbrev Rows (S:iI):ag->List (ae)->Prop
 | [],[]=>True
 | r::rs,x::T=>iH S r=some (x.map .int)/\Rows S rs T
 | _,_=>False
structure Tab (S:iI)(n:Nat)(rs:ag)(T:List (ae)):Prop where
 top:iH S n=some (rs.map .ref)
 rows:Rows S rs T
 nd:(n::rs).Nodup
def eq_nil{a:Nat}{xs:ad}(h:iH S a=some xs)(h':iH S b=some []):tV S 12 (.ref a) (.ref b)=some xs.isEmpty:=by
 show(iH S a).bind (λxs=>(iH S b).bind λys=>qE (tV S 11) xs ys)=_;rw[h,gA,h',gA]
 cases xs<;>rfl
def Dg{a:A}{k:Bool}(h:tV S 12 a b=some k):qo false a b S=.ok (.bl k) S:=by unfold qo;rw[h];rfl
def zL{a:A}{k:Bool}(h:tV S 12 a b=some k):qo true a b S=.ok (.bl<|!k) S:=by unfold qo;rw[h];rfl
def Ka{xs:ad}{n:Nat}{src:Ic}{t:Te}{e:Ex}{S:iI}(hs:src τ S=.ok (nI n xs.length) S)(hx:iH S n=some xs)(p:A->Bool)(f:A->A)
  (ht:∀x∈xs,t (x::mC cap τ) S=.ok (p x) S) (he:∀x∈xs,p x=true->e (x::mC cap τ) S=.ok (f x) S) (hl:xs.length<=16777216) :
  lZ (none::cap) src (jB 0) t e τ S=.ok (.ref S.length) (S++[.lst<|(xs.filter p).map f]):=by
 have hm:∀i,i<xs.length->xs.getD i .unb∈xs:=λi hi=>by
  rw[aI,aG hi];exact dc hi
 rw[uD hs (λi=>xs.getD i .unb) (λi=>p<|xs.getD i .unb) (λi=>f<|xs.getD i .unb) (λi hi=>by
  have hi:i<xs.length:=hi;show(iH S n).bind _=_;rw[hx,gA,aI,aG hi];rfl) (by
   show(match iH S n with
    | some ys=>decide (ys.length<=xs.length)
    | none=>false)=true
   rw[hx];simp) (λi hi=>ht _<|hm i hi) (λi hi=>he _<|hm i hi) hl]
 have:=mH xs p f .unb;show R.ok _ (S++[O.lst<|((List.range xs.length).filter _).map _])=_;rw[this]
def getD_at{r:ae}{k:Nat}(h:k<r.length):r[k]?=some (r.getD k 0):=by rw[aI,aG h];rfl
end Am
namespace Am
open PySem L2 Po
def LQ(l:Pl):(pl l).length=l.length:=aL ..
def Hh{xs:ad}{n:Nat}{src:Ic}{t:Te}{e:Ex}{S1:iI}(hs:src τ S=.ok (nI n xs.length) S1)(hx:iH S1 n=some xs)(p:A->Bool)(f:A->A)
  (ht:∀x∈xs,t (x::mC cap τ) S1=.ok (p x) S1) (he:∀x∈xs,p x=true->e (x::mC cap τ) S1=.ok (f x) S1) (hl:xs.length<=16777216) :
  lZ (none::cap) src (jB 0) t e τ S=.ok (.ref S1.length) (S1++[.lst<|(xs.filter p).map f]):=by
 have:=Ka (S:=S1) (src:=λ_ _=>.ok (nI n xs.length) S1) (τ:=τ) rfl hx p f ht he hl;unfold lZ at this ⊢;rw[hs];exact this
def MA{S:iI}{d:List<|Int×A}:jR (S++[.o5 d]) S.length=some d:=Ao LF
def RW{o:O}{n:Nat}{d:List<|Int×A}(h:jR S n=some d):jR (S++[o]) n=some d:=by
 have h':=nj h;exact Ao<|by rw[bh (aM.mp h').1];exact h'
def P4{S:iI}{n:Nat}{d:List<|Int×A}(h:jR S n=some d):n<S.length:=(aM.mp<|nj h).1
def Jb{S:iI}{n:Nat}{d:List<|Int×A}(h:n<S.length):jR (S.set n<|.o5 d) n=some d:=Ao<|bE h
def Ep{n:Nat}{d:List<|Int×A}(h:jR S n=some d)(h':iH S m=some xs):n≠m:=λz=>by
 subst z;have e1:=nj h;rw[iV h']at e1
 cases e1
def F1{f:A->ad->iI->R A}{co:Ex}{d:p5}:HE f co d τ S=(co τ S).bind λx S1=>opt (dk? x S1) λ_=>(d τ S1).bind λas S2=>f x as S2:=rfl
def Ik{n:Nat}:dk? (.ref n) S=(jR S n).map λ_=>Unit.unit:=rfl
def Cy{n:Nat}{k:Int}:u_ (.ref n) [.int k,y] S=opt (jR S n) λkvs=>.ok ((kM kvs k).getD y) S:=rfl
def Gz{co ci:Ex}{a:A}:Hg co ci a τ S=(co τ S).bind λo S1=>(ci τ S1).bind λi S2=>(yt o i a S2).bind λ_ S3=>.ok τ S3:=rfl
def Cj{n:Nat}{k:Int}{v:A}{S:iI}:yt (.ref n) (.int k) v S=opt (jR S n) λkvs=>gd (kvs.length<sizeLine) (.ok Unit.unit<|S.set n<|.o5<|uG kvs k v):=rfl
def Ez{n:Nat}{k:Int}:wu (.ref n) (.int k) S=opt (jR S n) λkvs=>opt (kM kvs k) λv=>.ok v S:=rfl
def HC{S:iI}:DS τ S=.ok (.ref S.length) (S++[.o5 []]):=rfl
def Hy{n:Nat}{S:iI}:yf (.ref n) S=opt (jR S n) λkvs=>.ok (.ref S.length) (S++[.lst<|(sortI<|kvs.map Prod.fst).map .int]):=rfl
def Hu{n:Nat}{S:iI}:CJ (.ref n) S=opt (iH S n) λxs=>opt (OG xs) λps=>.ok (.ref S.length) (S++[.o5<|O7 ps]):=rfl
def WV{i j:Int}(h:i.natAbs<big)(h':j.natAbs<big):E4 (.int i) (.int j) S=.ok (.int<|i * j) S:=j4 ⟨h,h'⟩
def ID(d:Pl):(iv d).length=d.length:=aL ..
meta abbrev Tr:Sm:=jn (iJ jq (HE u_ (iD 2)<|iE (iD 3)<|iE (eC<|.int 0)<|iQ)<|iD 4)<|Hg (iD 2)<|iD 3
def acc_step{S:iI}{d:Nat}{D:Pl}{k v:Int}(hd:jR S d=some (iv D))(hl:D.length<16777216):Tr [x0,x1,.ref d,.int k,.int v] S=.nx [x0,x1,.ref d,.int k,.int v] (S.set d<|.o5<|iv<|acc D k v):=by
 unfold Tr;dsimp[jk,bools,F1,Ik,hd,dO,Cy,Mx,Gz,Cj,BA<|show(iv D).length<16777216 by rw[ID];exact hl,CI];rfl
meta abbrev T4:Tg:=AM 2<|rV (jB 3)<|rV (jB 4) Bx
def Ou{d n:Nat}{D l:Pl}{src:Ic}(hs:src [x0,x1,.ref d,x3,x4] S=.ok (nI n (pl l).length) S1)(hn:iH S1 n=some (pl l))(hd:jR S1 d=some (iv D))(hl:D.length+l.length<16777216) :
  ∃y3 y4 S',mE src T4 Tr [x0,x1,.ref d,x3,x4] S=.nx [x0,x1,.ref d,y3,y4] S'/\jR S' d=some (iv<|nW D l)/\Kp (·=d) S1 S':=by
 have nd:=Ep hd hn;refine vI (n:=n) (xs:=pl l) hs (λi τ T=>(∃y3 y4,τ=[x0,x1,.ref d,y3,y4])/\jR T d=some (iv<|nW D<|l.take i)/\Kp (·=d) S1 T)
  (λr=>∃y3 y4 S',r=.nx [x0,x1,.ref d,y3,y4] S'/\jR S' d=some (iv<|nW D l)/\Kp (·=d) S1 S') ⟨⟨_,_,rfl⟩,hd,Kp.refl⟩ (λi τ T h=>h.2.2.lst _ _ (dg nd) hn) ?_ ?_
 ·rintro i z τ T hz ⟨⟨y3,y4,rfl⟩,hD,kp⟩;unfold pl at hz;rw[a_]at hz;obtain⟨p,hp,rfl⟩:=bu.mp hz;refine⟨[x0,x1,.ref d,.int p.1,.int p.2],T,rfl,.inl ?_⟩;have hlen:=pX (l.take i) D;have hi:=(aM.mp hp).1;rw[bq]at hlen;refine⟨_,_,acc_step hD (),⟨_,_,rfl⟩,?_,kp.Mr<|.inl rfl⟩;rw[Jb<|P4 hD,gb,hp,wN];rfl
 ·rintro τ T ⟨⟨y3,y4,rfl⟩,hD,kp⟩;rw[LQ,gw]at hD;exact⟨y3,y4,T,rfl,hD,kp⟩
meta abbrev N7:Sm:=jn (iJ jq (HE u_ (iD 2)<|iE (iJ jq (iD 3)<|iD 5)<|iE (eC<|.int 0)<|iQ)<|iJ E4 (iD 4)<|iD 6)<|Hg (iD 2)<|iJ jq (iD 3)<|iD 5
meta abbrev Xz:Tg:=AM 2<|rV (jB 5)<|rV (jB 6) Bx
def Jt{S:iI}{d:Nat}{D:Pl}{k v j u:Int}(hd:jR S d=some (iv D))(hl:D.length<16777216)(hv:v.natAbs<big)(hu:u.natAbs<big):N7 [x0,x1,.ref d,.int k,.int v,.int j,.int u] S=.nx [x0,x1,.ref d,.int k,.int v,.int j,.int u] (S.set d<|.o5<|iv<|acc D (k+j)<|v * u):=by
 unfold N7;dsimp[jk,bools,F1,Ik,hd,dO,Cy,Mx,WV hv hu,Gz,Cj,BA<|show(iv D).length<16777216 by rw[ID];exact hl,CI];rfl
def Ow{d n:Nat}{D l:Pl}{k v:Int}(hn:iH S n=some (pl l))(hd:jR S d=some (iv D))(hl:D.length+l.length<16777216)(hv:v.natAbs<big)(hu:∀p∈l,p.2.natAbs<big) :
  ∃y5 y6 S',mE (oY<|iD 1) Xz N7 [x0,.ref n,.ref d,.int k,.int v,x5,x6] S=.nx [x0,.ref n,.ref d,.int k,.int v,y5,y6] S'/\jR S' d=some (iv<|nW D<|l.map λq=>(k+q.1,v * q.2))/\Kp (·=d) S S':=by
 have nd:=Ep hd hn;refine vI (n:=n) (xs:=pl l) (S1:=S) (uO (by dsimp[jk,bools]) hn) (λi τ T=>(∃y5 y6,τ=[x0,.ref n,.ref d,.int k,.int v,y5,y6])/\jR T d=some (iv<|nW D<|(l.take i).map λq=>(k+q.1,v * q.2))/\Kp (·=d) S T)
  (λr=>∃y5 y6 S',r=.nx [x0,.ref n,.ref d,.int k,.int v,y5,y6] S'/\jR S' d=some (iv<|nW D<|l.map λq=>(k+q.1,v * q.2))/\Kp (·=d) S S') ⟨⟨_,_,rfl⟩,hd,Kp.refl⟩ (λi τ T h=>h.2.2.lst _ _ (dg nd) hn) ?_ ?_
 ·rintro i z τ T hz ⟨⟨y5,y6,rfl⟩,hD,kp⟩;unfold pl at hz;rw[a_]at hz;obtain⟨p,hp,rfl⟩:=bu.mp hz;refine⟨[x0,.ref n,.ref d,.int k,.int v,.int p.1,.int p.2],T,rfl,.inl ?_⟩;have hlen:=pX ((l.take i).map λq=>(k+q.1,v * q.2)) D;have hi:=(aM.mp hp).1;rw[aL,bq]at hlen;refine⟨_,_,Jt hD () hv<|hu p<|aY hp,⟨_,_,rfl⟩,?_,kp.Mr<|.inl rfl⟩;rw[Jb<|P4 hD,gb,hp,cj,wN];rfl
 ·rintro τ T ⟨⟨y5,y6,rfl⟩,hD,kp⟩;rw[LQ,gw]at hD;exact⟨y5,y6,T,rfl,hD,kp⟩
meta abbrev TU:Sm:=mE (oY<|iD 1) Xz N7
def Dt(f:Int×Int->A)(hf:∀p τ S,T4 (f p) τ S=T4 (pA p) τ S){d n:Nat}{a b:Pl}(hn:iH S n=some (a.map f))(hm:iH S m=some (pl b))(hd:jR S d=some [])(hl:a.length * b.length<16777216)(ha:∀p∈a,p.2.natAbs<big)(hb:∀p∈b,p.2.natAbs<big) :
  ∃y3 y4 y5 y6 S',mE (oY<|iD 0) T4 TU [.ref n,.ref m,.ref d,x3,x4,x5,x6] S=.nx [.ref n,.ref m,.ref d,y3,y4,y5,y6] S'/\jR S' d=some (iv<|nW []<|G3 a b)/\Kp (·=d) S S':=by
 have nd:=Ep hd hn;have md:=Ep hd hm;refine vI (n:=n) (xs:=a.map f) (S1:=S) (uO (by dsimp[jk,bools]) hn) (λi τ T=>(∃y3 y4 y5 y6,τ=[.ref n,.ref m,.ref d,y3,y4,y5,y6])/\jR T d=some (iv<|nW []<|G3 (a.take i) b)/\Kp (·=d) S T)
  (λr=>∃y3 y4 y5 y6 S',r=.nx [.ref n,.ref m,.ref d,y3,y4,y5,y6] S'/\jR S' d=some (iv<|nW []<|G3 a b)/\Kp (·=d) S S') ⟨⟨_,_,_,_,rfl⟩,hd,Kp.refl⟩ (λi τ T h=>h.2.2.lst _ _ (dg nd) hn) ?_ ?_
 ·rintro i z τ T hz ⟨⟨y3,y4,y5,y6,rfl⟩,hD,kp⟩;rw[a_]at hz;obtain⟨p,hp,rfl⟩:=bu.mp hz;refine⟨[.ref n,.ref m,.ref d,.int p.1,.int p.2,y5,y6],T,hf _ _ _,.inl ?_⟩;have hlen:=pX (G3 (a.take i) b) [];have hi:=(aM.mp hp).1;rw[zx,bq,eX<|ir hi,cg,eB]at hlen;have hmul:i * b.length+b.length<=a.length * b.length:=by rw[<- succ_mul];exact gG _ hi
  obtain⟨z5,z6,T',e,hD',kp'⟩:=Ow (x0:=.ref n) (x5:=y5) (x6:=y6) (k:=p.1) (v:=p.2) (kp.lst _ _ (dg md) hm) hD () (ha p<|aY hp) hb;refine⟨_,_,e,⟨_,_,_,_,rfl⟩,?_,kp.trans kp'⟩;rw[hD',gb,hp,Option.toList_some,IL,wN]
 ·rintro τ T ⟨⟨y3,y4,y5,y6,rfl⟩,hD,kp⟩;rw[aL,gw]at hD;exact⟨y3,y4,y5,y6,T,rfl,hD,kp⟩
meta abbrev Wc:Ex:=lZ [none,some 0] (oY<|jf (f1 yf)<|iE (iD 0)<|iQ) (jB 0) (mX<|iJ (qo true) (iJ wu (iD 1)<|iD 0)<|eC<|.int 0)<|mD<|iE (iD 0)<|iE (iJ wu (iD 1)<|iD 0)<|iQ
def RN{S:iI}{d:Nat}{D:Pl}(hd:jR S d=some (iv D))(hl:D.length<=16777216):∃S',Wc [.ref d] S=.ok (.ref<|S.length+1) S'/\iH S' (S.length+1)=some (pl<|FU D)/\oq S S':=by
 have hd1:jR (S++[.lst<|(sortI<|D.map Prod.fst).map .int]) d=some (iv D):=RW hd;have ls:(S++[O.lst<|(sortI<|D.map Prod.fst).map A.int]).length=S.length+1:=by simp
 have cc:=Hh (n:=S.length) (xs:=(sortI<|D.map Prod.fst).map A.int) (cap:=[some 0]) (src:=oY<|jf (f1 yf)<|iE (iD 0)<|iQ) (t:=mX<|iJ (qo true) (iJ wu (iD 1)<|iD 0)<|eC<|.int 0) (e:=mD<|iE (iD 0)<|iE (iJ wu (iD 1)<|iD 0)<|iQ) (τ:=[.ref d]) (S:=S) (S1:=S++[.lst<|(sortI<|D.map Prod.fst).map .int])
  (uO (by dsimp[jk,bools,Hy,hd,Oz]) jj) jj (λx=>match x with | .int k=>val D k != 0|_=>false) (λx=>match x with | .int k=>pA (k,val D k)|_=>.non) (λx hx=>by
   obtain⟨k,hk,rfl⟩:=bV.mp hx;have hk:=(sortI_perm _).mem_iff.mp hk;dsimp[jk,bools,Ez,hd1,Cb hk];rfl) (λx hx _=>by
   obtain⟨k,hk,rfl⟩:=bV.mp hx;have hk:=(sortI_perm _).mem_iff.mp hk;dsimp[jk,bools,Ez,hd1,Cb hk];exact zm<|show 2<=16777216 by decide) (by rw[aL,(sortI_perm _).length_eq,aL];exact hl)
 refine⟨_,cc.trans<|by rw[ls],?_,Kp.refl.lay.lay⟩;rw[<- ls,jj];congr 1;unfold pl FU;rw[cH,gM,cH];rfl
end Am
namespace Su
open Am Po PySem L2
meta abbrev En:=ae×Nat×Pl
meta abbrev Es:=List En
abbrev kv (e:En):ae×A:=(e.1,.ref e.2.1)
abbrev At (S:iI)(es:Es):Prop:=∀e∈es,iH S e.2.1=some (pl e.2.2)
meta abbrev Ps:=List<|ae×Pl
abbrev sm (es:Es):Ps:=es.map λe=>(e.1,e.2.2)
abbrev vS (D:Ps)(o:ae):Pl:=((D.find? λe=>decide<|e.1=o).map (·.2)).getD []
abbrev hS (D:Ps)(o:ae):Bool:=D.any λe=>decide<|e.1=o
abbrev Wq (D:Ps)(o:ae)(p:Pl):Ps:=if hS D o=true then D.map (λe=>if e.1=o then(e.1,p)else e)else D++[(o,p)]
abbrev W2 (D:Ps)(o:ae)(p:Pl):Ps:=Wq D o<|wL (vS D o) p
abbrev adds (D l:Ps):Ps:=l.foldl (λD e=>W2 D e.1 e.2) D
abbrev toS (D:Ps):Ps:=((My<|D.map Prod.fst).filter λo=>!(vS D o).isEmpty).map λo=>(o,vS D o)
abbrev fE (D:Es)(o:ae):Option En:=D.find? λe=>decide<|e.1=o
abbrev Vl (k b:Nat)(D:Es):Prop:=∀e∈D,Ok e.2.2/\e.2.2.length<=k/\b<=e.2.1
def GW(a b:Pl):(times a b).length<=a.length * b.length:=by
 refine bP (OY _)<|bP (pX _ _) ?_;rw[zx,cg];lia
abbrev Q2 (D:Es)(p:Pl->Bool):Es:=((My<|D.map Prod.fst).filter λo=>p<|vS (sm D) o).map λo=>(o,((fE D o).map λe=>e.2.1).getD 0,vS (sm D) o)
abbrev Ap (D:Es):Prop:=D.Pairwise λe f=>e.1≠f.1/\e.2.1≠f.2.1
structure Fil (T:iI)(d b i j:Nat)(P:Ps)(D:Es):Prop where
 dd:VG T d=some (D.map kv)
 aa:At T D
 ss:sm D=P
 vv:Vl (i * j) b D
 kk:∀e∈D,e.1≠[]
 ll:D.length<=i
 pw:Ap D
end Su
namespace Bl
open L2
abbrev cnt:ae->Int->Int
 | [],_=>0
 | x::l,j=>(if j<=x then 1 else 0)+cnt l j
abbrev Below (xs ys:ae):Prop:=∀(i:Nat) (j:Int),cnt (xs.take i) j<=cnt (ys.take i) j
def Below.refl(xs:ae):Below xs xs:=λ_ _=>fD _
def Below.trans{a c:ae}(h:Below a b)(k:Below b c):Below a c:=λi j=>Int.le_trans (h i j)<|k i j
def cnt_append(a b:ae)(j:Int):cnt (a++b) j=cnt a j+cnt b j:=by
 induction a with
 | nil=>simp[cnt]
 | cons x a ih=>rw[gz,cnt,cnt,ih];lia
def pM{a:ae}(p:a.Perm b)(j:Int):cnt a j=cnt b j:=by
 induction p with
 | nil=>rfl
 | cons x _ ih=>rw[cnt,cnt,ih]
 | swap x y l=>rw[cnt,cnt,cnt,cnt];lia
 | trans _ _ h1 h2=>exact h1.trans h2
def take_snoc{l:ae}{i:Nat}(h:i<l.length):l.take (i+1)=l.take i++[l[i]]:=by
 rw[List.take_succ,aG h];rfl
def jy{l:ae}{i:Nat}(h:i<l.length)(j:Int):cnt (l.take<|i+1) j=cnt (l.take i) j+(if j<=l[i]then 1 else 0):=by
 rw[take_snoc h,cnt_append,cnt,cnt];lia
def Below.antisymm{a b:ae}(hl:a.length=b.length)(h:Below a b)(k:Below b a):a=b:=by
 apply fJ hl;intro i h1 h2;have e:∀(i:Nat) (j:Int),cnt (a.take i) j=cnt (b.take i) j:=λi j=>gJ (h i j)<|k i j;have q:∀j:Int,(if j<=a[i]then(1:Int)else 0)=(if j<=b[i]then 1 else 0):=λj=>by
  have:=e (i+1) j;rw[jy h1,jy h2,e i j]at this
  lia
 have qa:=q a[i];have qb:=q b[i];rw[aK<|fD _]at qa qb;by_cases z:a[i]<=b[i]
 ·by_cases z2:b[i]<=a[i]
  ·lia
  ·rw[aJ z2]at qb;lia
 ·rw[aJ z]at qa;lia
def vK{l:ae}{p:Nat}(h:p<l.length)(v:Int)(i:Nat)(j:Int) :
  cnt ((l.set p v).take i) j=cnt (l.take i) j+(if p<i then(if j<=v then 1 else 0)-(if j<=l[p]then 1 else 0)else 0):=by
 induction l generalizing p i with
 | nil=>cases h
 | cons x l ih=>
  cases i with
  | zero=>simp[cnt]
  | succ i=>
   cases p with
   | zero=>
    show(if j<=v then 1 else 0)+cnt (l.take i) j=(if j<=x then 1 else 0)+cnt (l.take i) j+_;rw[aK<|Nat.succ_pos _];show _=(if j<=x then 1 else 0)+cnt (l.take i) j+((if j<=v then 1 else 0)-(if j<=x then 1 else 0))
    lia
   | succ p=>
    show(if j<=x then 1 else 0)+cnt ((l.set p v).take i) j=(if j<=x then 1 else 0)+cnt (l.take i) j+_;have hp:p<l.length:=gc h;rw[ih hp];by_cases z:p<i
    ·rw[aK z,aK<|Nat.succ_lt_succ z];show _=(if j<=x then 1 else 0)+cnt (l.take i) j+((if j<=v then 1 else 0)-(if j<=l[p]then 1 else 0))
     lia
    ·rw[aJ z,aJ λy=>z<|gc y]
     lia
def qB{l:ae}{p q:Nat}(hp:p<l.length)(hq:q<l.length)(hpq:p<q)(h:l[p]<l[q]):Below l ((l.set p l[q]).set q l[p]):=by
 intro i j;have hq':q<(l.set p l[q]).length:=by rw[bO];exact hq
 rw[vK hq',vK hp];have e:(l.set p l[q])[q]=l[q]:=by rw[List.getElem_set_ne<|bD hpq]
 rw[e]
 (repeat' split)<;>lia
def Lj(l:ae)(i:Nat)(j:Int):cnt (l.drop i) j=cnt l j-cnt (l.take i) j:=by
 have:=cnt_append (l.take i) (l.drop i) j;rw[dw]at this
 lia
def Nh(l:ae)(j:Int):cnt l.reverse j=cnt l j:=pM (g8 l) j
def oh(l:ae)(i:Nat)(j:Int):cnt (l.reverse.take i) j=cnt l j-cnt (l.take<|l.length-i) j:=by
 rw[List.take_reverse,Nh,Lj]
def G7{a b:ae}(p:a.Perm b):Below b.reverse a.reverse ↔ Below a b:=by
 have hl:=p.length_eq;constructor
 ·intro h i j;by_cases hi:i<=a.length
  ·have:=h (a.length-i) j;rw[oh,oh,<- hl,show a.length-(a.length-i)=i by lia,pM p]at this
   lia
  ·rw[cU (),cU (),pM p];exact fD _
 ·intro h i j;rw[oh,oh,<- hl,pM p];have:=h (a.length-i) j
  lia
abbrev nF (a b:ae):Prop:=a.length=b.length/\∀(p:Nat) (h:p<a.length),b[(a[p]-1).toNat]?=some ((p:Int)+1)
def HZ{x y:ae}{n:Nat}(px:x.Perm<|i9 1<|n+1)(py:y.Perm<|i9 1<|n+1):(∀(i q:Nat),i<n->q<n->cnt (x.take<|i+1) ((q:Int)+1)<=cnt (y.take<|i+1) ((q:Int)+1)) ↔ Below x y:=by
 have lx:x.length=n:=by rw[px.length_eq,j5];lia
 have ly:y.length=n:=by rw[py.length_eq,j5];lia
 constructor
 ·intro h i j;have rx:∀z∈x,1<=z/\z<(n:Int)+1:=λz hz=>jz.mp<|px.mem_iff.mp hz;have ry:∀z∈y,1<=z/\z<(n:Int)+1:=λz hz=>jz.mp<|py.mem_iff.mp hz;have low:∀(l:ae),(∀z∈l,j<=z)->cnt l j=l.length:=λl=>by
   induction l with
   | nil=>intro _;rfl
   | cons z l ih=>intro hh;rw[cnt,aK<|hh z aN,ih λy hy=>hh y<|aP _ hy,bz];lia
  have high:∀(l:ae),(∀z∈l,z<j)->cnt l j=0:=λl=>by
   induction l with
   | nil=>intro _;rfl
   | cons z l ih=>intro hh;rw[cnt,aJ (by have:=hh z aN;lia),ih λy hy=>hh y<|aP _ hy];rfl
  by_cases z1:j<=1
  ·rw[low _ λz hz=>by have:=(rx z<|cA hz).1;lia,low _ λz hz=>by have:=(ry z<|cA hz).1;lia,bq,bq,lx,ly];exact fD _
  ·by_cases z2:(n:Int)+1<=j
   ·rw[high _ λz hz=>by have:=(rx z<|cA hz).2;lia,high _ λz hz=>by have:=(ry z<|cA hz).2;lia];exact fD _
   ·obtain⟨q,rfl⟩:∃q:Nat,j=(q:Int)+1:=⟨(j-1).toNat,()⟩;by_cases hi:i<=n
    ·cases i with
     | zero=>simp[cnt]
     | succ i=>exact h i q () ()
    ·rw[cU (),cU (),pM px,pM py];exact fD _
 ·exact λh i q _ _=>h (i+1)<|(q:Int)+1
end Bl
namespace Wd
open Bl L2
abbrev ex (l:ae)(k:Nat):ae:=(l.set (k-1)<|l.getD k 0).set k<|l.getD (k-1) 0
abbrev led (l:ae)(w:ag):ae:=w.foldl ex l
def i_{l:ae}{k:Nat}(h:k<l.length):l.getD k 0=l[k]:=by rw[aI,aG h];rfl
def uZ{l:ae}{k:Nat}(h0:1<=k)(h:k<l.length):ex l k=(l.set (k-1) l[k]).set k (l[k-1]'()):=by
 unfold ex;rw[i_ h,i_<|show k-1<l.length by lia]
def jt(l:ae)(k:Nat):(ex l k).length=l.length:=by unfold ex;rw[bO,bO]
theorem E3:∀(w:ag) (l:ae),(led l w).length=l.length
 | [],_=>rfl
 | k::w,l=>by show(led (ex l k) w).length=_;rw[E3 w,jt]
def Av{l:ae}{k:Nat}(h0:1<=k)(h:k<l.length):(ex l k).Perm l:=by
 rw[uZ h0 h];exact List.set_set_perm () h
def vF(a b:ag)(l:ae):led l (a++b)=led (led l a) b:=eG
def uI{l:ae}{k:Nat}(h0:1<=k)(h:k<l.length)(i:Nat)(j:Int) :
  cnt ((ex l k).take i) j=cnt (l.take i) j+(if i=k then(if j<=l[k]then 1 else 0)-(if j<=l[k-1]'()then 1 else 0)else 0):=by
 rw[uZ h0 h];have hq':k<(l.set (k-1) l[k]).length:=by rw[bO];exact h
 rw[vK hq',vK<|show k-1<l.length by lia];have e:(l.set (k-1) l[k])[k]=l[k]:=by rw[List.getElem_set_ne ()]
 rw[e];by_cases h1:i=k
 ·rw[aK h1,aK<|show k-1<i by lia,aJ<|show ¬k<i by lia];lia
 ·by_cases h2:k<i
  ·rw[aJ h1,aK<|show k-1<i by lia,aK h2];lia
  ·rw[aJ h1,aJ<|show ¬k-1<i by lia,aJ h2];lia
def up{l:ae}{k:Nat}(h0:1<=k)(h:k<l.length)(hr:l[k-1]'()<l[k]):Below l (ex l k):=by
 rw[uZ h0 h];exact qB () h () hr
def lift{u w:ae}{k:Nat}(hl:u.length=w.length)(h0:1<=k)(h:k<w.length)(hr:w[k-1]'()<w[k])(hb:Below u w):Below (ex u k) (ex w k):=by
 have hu:k<u.length:=()
 intro i j;rw[uI h0 hu,uI h0 h];by_cases hi:i=k
 ·subst hi;rw[aK rfl,aK rfl];have b1:=hb (i-1) j;have b2:=hb i j;have b3:=hb (i+1) j;have c1:=jy (l:=u) (i:=i-1) () j;have c2:=jy (l:=w) (i:=i-1) () j;have c3:=jy (l:=u) (i:=i) hu j;have c4:=jy (l:=w) (i:=i) h j;rw[show i-1+1=i by lia]at c1 c2;rw[c3,c4]at b3;rw[c1,c2]at b2 b3;rw[c1,c2];revert b1 b2 b3
  (repeat' split)<;>intros<;>lia
 ·rw[aJ hi,aJ hi];have:=hb i j
  lia
abbrev iZ:ae->ag->Prop
 | _,[]=>True
 | l,k::w=>1<=k/\k<l.length/\l.getD (k-1) 0<l.getD k 0/\iZ (ex l k) w
theorem iZ.snoc:∀{w:ag}{l:ae}{k:Nat},iZ l w->1<=k->k<l.length->(led l w).getD (k-1) 0<(led l w).getD k 0->iZ l (w++[k])
 | [],l,k,_,h0,h1,h2=>⟨h0,h1,h2,trivial⟩
 | m::w,l,k,h,h0,h1,h2=>⟨h.1,h.2.1,h.2.2.1,iZ.snoc h.2.2.2 h0 (by rw[jt];exact h1) h2⟩
theorem iZ.valid:∀{w:ag}{l:ae},iZ l w->∀k∈w,1<=k/\k<l.length
 | [],_,_,k,hk=>by cases hk
 | m::w,l,h,k,hk=>by
  rcases bJ.mp hk with z|z
  ·rw[z];exact⟨h.1,h.2.1⟩
  ·have:=iZ.valid h.2.2.2 k z;rw[jt]at this;exact this
abbrev sw (k:Nat)(x:Int):Int:=if x=k then(k:Int)+1 else if x=(k:Int)+1 then k else x
def ex_map(f:Int->Int){l:ae}{k:Nat}(h0:1<=k)(h:k<l.length):ex (l.map f) k=(ex l k).map f:=by
 rw[uZ h0 h,uZ h0<|by rw[aL];exact h,gf,gf,cV,cV]
theorem Gb(f:Int->Int):∀{w:ag}{l:ae},(∀k∈w,1<=k/\k<l.length)->led (l.map f) w=(led l w).map f
 | [],_,_=>rfl
 | k::w,l,h=>by
  have hk:=h k<|aN ..;show led (ex (l.map f) k) w=(led (ex l k) w).map f;rw[ex_map f hk.1 hk.2,Gb f λm hm=>by rw[jt];exact h m<|aP _ hm]
def oE{n p:Nat}(h:p<n):(i9 1<|(n:Int)+1)[p]?=some ((p:Int)+1):=by
 unfold i9;rw[a_,cQ ()];simp;lia
def iP(n:Nat):(i9 1<|(n:Int)+1).length=n:=by rw[j5];lia
def kG{l:ae}{k:Nat}(h0:1<=k)(h:k<l.length)(p:Nat):(ex l k)[p]?=if p=k then l[k-1]? else if p=k-1 then l[k]? else l[p]?:=by
 rw[uZ h0 h,List.getElem?_set];by_cases h1:k=p
 ·rw[aK h1,aK h1.symm,aK<|by rw[bO];lia,aG]
 ·rw[aJ h1,aJ λz=>h1 z.symm,List.getElem?_set];by_cases h2:k-1=p
  ·rw[aK h2,aK h2.symm,aK (),aG]
  ·rw[aJ h2,aJ λz=>h2 z.symm]
def DM{n k:Nat}(h0:1<=k)(h:k<n):ex (i9 1<|(n:Int)+1) k=(i9 1<|(n:Int)+1).map (sw k):=by
 apply bR;intro p;rw[kG h0<|by rw[iP];exact h,a_];by_cases hp:p<n
 ·rw[oE hp,oE h,oE<|show k-1<n by lia];show _=some (sw k<|(p:Int)+1);unfold sw;by_cases h1:p=k
  ·rw[aK h1,aJ (),aK ()];congr 1;lia
  ·rw[aJ h1];by_cases h2:p=k-1
   ·rw[aK h2,aK ()]
   ·rw[aJ h2,aJ (),aJ ()]
 ·have e:(i9 1<|(n:Int)+1)[p]?=none:=bC (by rw[iP];lia);rw[aJ (),aJ (),e];rfl
def yy{A B:ae}{k:Nat}(h0:1<=k)(h:k<A.length)(hb:nF A B):nF (ex A k) (B.map<|sw k):=by
 refine⟨by rw[jt,aL];exact hb.1,λp hp=>?_⟩;rw[jt]at hp;have hg:(ex A k)[p]'(by rw[jt];exact hp)=if p=k then A[k-1]'()else if p=k-1 then A[k]else A[p]:=by
  have:=kG h0 h p;rw[aG<|by rw[jt];exact hp]at this;by_cases h1:p=k
  ·rw[aK h1,aG<|show k-1<A.length by lia]at this;rw[aK h1];exact aU this
  ·rw[aJ h1]at this;rw[aJ h1];by_cases h2:p=k-1
   ·rw[aK h2,aG h]at this;rw[aK h2];exact aU this
   ·rw[aJ h2,aG hp]at this;rw[aJ h2];exact aU this
 rw[hg,a_];by_cases h1:p=k
 ·rw[aK h1,hb.2 (k-1) ()];show some (sw k _)=_;unfold sw;rw[aK ()];congr 1;lia
 ·rw[aJ h1];by_cases h2:p=k-1
  ·rw[aK h2,hb.2 k h];show some (sw k _)=_;unfold sw;rw[aJ (),aK ()];congr 1;lia
  ·rw[aJ h2,hb.2 p hp];show some (sw k _)=_;unfold sw;rw[aJ (),aJ ()]
theorem kD{n:Nat}:∀(w:ag),(∀k∈w,1<=k/\k<n)->nF (led (i9 1<|(n:Int)+1) w.reverse) (led (i9 1<|(n:Int)+1) w)
 | [],_=>⟨rfl,λp hp=>by
  have hp:p<n:=by rw[show([]:ag).reverse=[]from rfl]at hp;have:p<(i9 1<|(n:Int)+1).length:=hp;rw[iP]at this;exact this
  have e:(i9 1<|(n:Int)+1)[p]'(by rw[iP];exact hp)=(p:Int)+1:=by
   have:=oE hp;rw[aG<|by rw[iP];exact hp]at this;exact aU this
  show(i9 1<|(n:Int)+1)[(((i9 1<|(n:Int)+1)[p]'(by rw[iP];exact hp))-1).toNat]?=_;rw[e,show((p:Int)+1-1).toNat=p by lia];exact oE hp⟩
 | k::w,h=>by
  have hk:=h k<|aN ..;have hw:=λm hm=>h m<|aP k hm;have ih:=kD w hw;rw[cZ,vF];show nF (ex (led (i9 1<|(n:Int)+1) w.reverse) k) (led (ex (i9 1<|(n:Int)+1) k) w);rw[DM hk.1 hk.2,Gb (sw k) λm hm=>by rw[iP];exact hw m hm];exact yy hk.1 (by rw[E3,iP];exact hk.2) ih
end Wd
namespace Iv
open L2 Bl
abbrev inv:ae->Nat
 | []=>0
 | x::l=>l.countP (λy=>decide<|y<x)+inv l
abbrev jH (a b:ae):Nat:=(a.map λx=>b.countP λy=>decide<|y<x).sum
def mG(x:Int)(a b:ae):jH (x::a) b=b.countP (λy=>decide<|y<x)+jH a b:=rfl
theorem jb:∀(a b:ae),inv (a++b)=inv a+inv b+jH a b
 | [],b=>by show inv b=0+inv b+0;lia
 | x::a,b=>by
  show(a++b).countP _+inv (a++b)=(a.countP _+inv a)+inv b+jH (x::a) b;rw[List.countP_append,jb a b,mG];lia
theorem uw:∀{a b:ag},a.Perm b->a.sum=b.sum
 | _,_,.nil=>rfl
 | _,_,.cons x h=>by rw[fO,fO,uw h]
 | _,_,.swap x y l=>by rw[fO,fO,fO,fO];lia
 | _,_,.trans h k=>(uw h).trans<|uw k
def FD{a:ae}(b:ae)(h:a.Perm a'):jH a b=jH a' b:=uw<|h.map _
def FN(a:ae){b:ae}(h:b.Perm b'):jH a b=jH a b':=by
 unfold jH;congr 1;refine gR λx _=>h.countP_eq _
def Aw{M:ae}{x y:Int}(h:∀m∈M,m<x\/y<m)(hxy:x<y):M.countP (λm=>decide<|m<x)=M.countP (λm=>decide<|m<y):=by
 refine List.countP_congr λm hm=>?_;rw[decide_eq_true_iff,decide_eq_true_iff]
 rcases h m hm with z|z<;>omega
theorem vc:∀{M:ae}{x y:Int},(∀m∈M,m<x\/y<m)->x<y->jH M [x]=jH M [y]
 | [],_,_,_,_=>rfl
 | m::M,x,y,h,hxy=>by
  rw[mG,mG,vc (λm' hm=>h m'<|aP _ hm) hxy];congr 1;have:=h m<|aN ..;dsimp[cP,List.countP_nil];by_cases c:x<m
  ·rw[aT c,aT<|show y<m by omega]
  ·rw[aS c,aS<|show ¬y<m by omega]
def mid{M:ae}{x y:Int}(h:∀m∈M,m<x\/y<m)(hxy:x<y):inv ([y]++M++[x])=inv ([x]++M++[y])+1:=by
 rw[jb,jb,jb<|[x]++M,jb [x]];have e1:jH [y] M=jH [x] M:=by
  show M.countP _+0=M.countP _+0;rw[Aw h hxy]
 have e2:jH ([y]++M) [x]=1+jH M [x]:=by
  show[x].countP _+jH M [x]=_;rw[cP,aT hxy];rfl
 have e3:jH ([x]++M) [y]=jH M [y]:=by
  show[y].countP _+jH M [y]=_;rw[cP,aS (by lia:¬y<x)];simp
 rw[e1,e2,e3,vc h hxy]
 skip
 lia
def xN(M:ae)(x y:Int):([y]++M++[x]).Perm ([x]++M++[y]):=by
 refine(List.perm_append_comm (l₁:=[y]++M) (l₂:=[x])).trans ?_
 skip
 exact .cons x<|List.perm_append_comm (l₁:=[y]) (l₂:=M)
def step{P M R:ae}{x y:Int}(h:∀m∈M,m<x\/y<m)(hxy:x<y):inv (P++([y]++M++[x])++R)=inv (P++([x]++M++[y])++R)+1:=by
 have p:=xN M x y;rw[jb,jb P,jb<|P++([x]++M++[y]),jb P,mid h hxy,FN P p,FD R<|p.append_left P]
 lia
abbrev sw (a:ae)(i j:Nat):ae:=(a.set i<|a.getD j 0).set j<|a.getD i 0
def zD(a:ae)(i j:Nat):(sw a i j).length=a.length:=by unfold sw;rw[bO,bO]
def split{a:ae}(hij:i<j)(hj:j<a.length):∃P M R:ae,a=P++([a.getD i 0]++M++[a.getD j 0])++R/\P=a.take i/\(∀m∈M,∃k,i<k/\k<j/\a[k]?=some m)/\sw a i j=P++([a.getD j 0]++M++[a.getD i 0])++R:=by
 have gi:a.getD i 0=a[i]:=by rw[aI,aG ()];rfl
 have gj:a.getD j 0=a[j]:=by rw[aI,aG hj];rfl
 obtain⟨M,hM⟩:∃M,M=(a.drop<|i+1).take (j-i-1):=⟨_,rfl⟩;have lM:M.length=j-i-1:=by rw[hM,bq,bS];lia
 have ea:a=a.take i++([a.getD i 0]++M++[a.getD j 0])++a.drop (j+1):=by
  have h1:a.drop i=a[i]::a.drop (i+1):=bW ();have h2:a.drop (i+1)=M++a.drop j:=by
   rw[hM];have:=dw (j-i-1)<|a.drop<|i+1;rw[List.drop_drop,show i+1+(j-i-1)=j by lia]at this;exact this.symm
  have h3:a.drop j=a[j]::a.drop (j+1):=bW hj
  conv=>lhs;rw[<- dw i a,h1,h2,h3]
  rw[gi,gj];simp
 refine⟨a.take i,M,a.drop<|j+1,ea,rfl,λm hm=>?_,?_⟩
 ·rw[hM]at hm;obtain⟨k,hk⟩:=gE hm;have hlt:k<j-i-1:=by
   have:=(aM.mp hk).1;rw[bq]at this;lia
  rw[dD hlt,dY]at hk;exact⟨i+1+k,(),(),hk⟩
 ·have key:∀(P R:ae) (x y x' y':Int),P.length=i->((P++([x]++M++[y])++R).set i y').set j x'=P++([y']++M++[x'])++R:=λP R x y x' y' lP=>by
   rw[bG,c5 _ _ (),lP,fH];show(P++(y'::((M++[y])++R))).set j x'=_;rw[c5 _ _ (),lP,show j-i=(j-i-1)+1 by lia,List.set_cons_succ,bG,c5 _ _ (),lM,fH];simp
  have:=key (a.take i) (a.drop<|j+1) (a.getD i 0) (a.getD j 0) (a.getD i 0) (a.getD j 0) (by rw[bq];lia);rw[<- ea]at this;exact this
def qh{a:ae}{i:Nat}(h:i<a.length):a[i]?=some (a.getD i 0):=by rw[aI,aG h];rfl
def C7{a:ae}(hij:i<j)(hj:j<a.length)(p:Nat):(sw a i j).getD p 0=if p=j then a.getD i 0 else if p=i then a.getD j 0 else a.getD p 0:=by
 unfold sw;rw[aI];by_cases c:p=j
 ·subst c;rw[aK rfl,bE<|by rw[bO];exact hj];rfl
 ·rw[aJ c,bL<|dg c];by_cases d:p=i
  ·subst d;rw[aK rfl,bE ()];rfl
  ·rw[aJ d,bL<|dg d,<- aI]
end Iv
namespace Fw
open PySem L2 Bl
open Wd (ex led)
meta abbrev rg (n:Nat):ae:=i9 1<|(n:Int)+1
def mw{l:ae}{k:Nat}(h0:1<=k)(h:k<l.length):ex (ex l k) k=l:=by
 apply bR;intro p;have h':k<(ex l k).length:=by rw[Wd.jt];exact h
 rw[Wd.kG h0 h',Wd.kG h0 h,Wd.kG h0 h,Wd.kG h0 h];by_cases c3:p=k
 ·rw[aK c3,aJ (),aK rfl,c3]
 ·rw[aJ c3];by_cases c2:p=k-1
  ·rw[aK c2,aK rfl,c2]
  ·rw[aJ c2,aJ c3,aJ c2]
def Ce{l:ae}{k:Nat}(h0:1<=k)(h:k<l.length):(ex l k).getD k 0=l.getD (k-1) 0:=by
 rw[aI,Wd.kG h0 h,aK rfl,aI]
def B5{l:ae}{k:Nat}(h0:1<=k)(h:k<l.length):(ex l k).getD (k-1) 0=l.getD k 0:=by
 rw[aI,Wd.kG h0 h,aJ (),aK rfl,aI]
def wR{l:ae}{k:Nat}(h0:1<=k)(h:k<l.length)(hr:l.getD (k-1) 0<l.getD k 0):Iv.inv (ex l k)=Iv.inv l+1:=by
 obtain⟨P,M,R,e,_,hM,es⟩:=Iv.split (a:=l) (i:=k-1) (j:=k) () h;have:=Iv.step (P:=P) (M:=M) (R:=R) (x:=l.getD (k-1) 0) (y:=l.getD k 0) (λm hm=>by obtain⟨_,_,_,_⟩:=hM m hm;lia) hr;rw[<- es,<- e]at this;exact this
def oH{l:ae}{k:Nat}(h0:1<=k)(h:k<l.length)(hr:l.getD k 0<l.getD (k-1) 0):Iv.inv l=Iv.inv (ex l k)+1:=by
 have:=wR (l:=ex l k) h0 (by rw[Wd.jt];exact h) (by rw[Ce h0 h,B5 h0 h];exact hr);rw[mw h0 h]at this;exact this
abbrev Va (n:Nat)(w:ag):Prop:=∀k∈w,1<=k/\k<n
def Va.tail{n k:Nat}{w:ag}(h:Va n (k::w)):Va n w:=λj hj=>h j<|aP _ hj
def Va.head{n k:Nat}{w:ag}(h:Va n (k::w)):1<=k/\k<n:=h k<|aN ..
theorem w4:∀{w:ag}{l:ae},Va l.length w->led (led l w) w.reverse=l
 | [],l,_=>rfl
 | k::w,l,h=>by
  rw[cZ,Wd.vF];show led (led (led (ex l k) w) w.reverse) [k]=l;rw[w4 (w:=w) (l:=ex l k)<|by rw[Wd.jt];exact h.tail];exact mw h.head.1 h.head.2
theorem CU:∀{l:ae},l.Pairwise (·<=·)->Iv.inv l=0
 | [],_=>rfl
 | x::l,h=>by
  show l.countP (λy=>decide<|y<x)+Iv.inv l=0;rw[CU (bZ.mp h).2,List.countP_eq_zero.mpr λa ha z=>by have:=cB z;have:=(bZ.mp h).1 a ha;lia]
def C3(n:Nat):Iv.inv (rg n)=0:=CU<|Ea _ _
abbrev xU (l:ae)(k:Nat):Prop:=1<=k/\k<l.length/\l.getD k 0<l.getD (k-1) 0
def Py{l:ae}(h:∀k,¬xU l k):l.Pairwise (·<=·):=by
 have key:∀d i,i+d<l.length->l.getD i 0<=l.getD (i+d) 0:=by
  intro d
  induction d with
  | zero=>intro i _;exact fD _
  | succ d ih=>
   intro i hi;have h1:=ih i ();have h2:¬l.getD (i+d+1) 0<l.getD (i+d) 0:=λz=>h (i+d+1) ⟨(),hi,z⟩;rw[<- e_];lia
 rw[dj];intro i j hi hj hij;have:=key (j-i) i ();rw[show i+(j-i)=j by lia,Wd.i_ hi,Wd.i_ hj]at this;exact this
def AY{l:ae}{n:Nat}(p:l.Perm<|rg n)(h:∀k,¬xU l k):l=rg n:=
 List.Perm.eq_of_pairwise (λx y _ _ h1 h2=>gJ h1 h2) (Py h) (Ea _ _) p
def GG(h:0<Iv.inv l):∃k,xU l k:=by
 refine Classical.byContradiction λz=>?_;rw[CU<|Py λk hk=>z ⟨k,hk⟩]at h;exact absurd h<|eY _
abbrev Dn:ae->ag->Prop
 | l,[]=>∀k,¬xU l k
 | l,k::ks=>(xU l k/\∀j,xU l j->k<=j)/\Dn (ex l k) ks
def jX{l:ae}{n k:Nat}(p:l.Perm<|rg n)(h0:1<=k)(h:k<l.length):(ex l k).Perm (rg n):=(Wd.Av h0 h).trans p
def Dn.va:∀{ks:ag}{l:ae},Dn l ks->Va l.length ks
 | [],l,_=>λk hk=>absurd hk (by simp)
 | k::ks,l,h=>λj hj=>by
  rcases bJ.mp hj with rfl|z
  ·exact⟨h.1.1.1,h.1.1.2.1⟩
  ·have:=h.2.va j z
   rwa [Wd.jt]at this
theorem Dn.led:∀{ks:ag}{l:ae}{n:Nat},Dn l ks->l.Perm (rg n)->led l ks=rg n
 | [],l,n,h,p=>AY p h
 | k::ks,l,n,h,p=>Dn.led (ks:=ks) h.2<|jX p h.1.1.1 h.1.1.2.1
theorem BY:∀(m:Nat) (l:ae),Iv.inv l<=m->∃ks,Dn l ks
 | 0,l,h=>⟨[],λk hk=>by have:=oH hk.1 hk.2.1 hk.2.2;lia⟩
 | m+1,l,h=>by
  by_cases c:∃k,xU l k
  ·obtain⟨k,hk,hmin⟩:∃k,xU l k/\∀j,xU l j->k<=j:=by
    obtain⟨k,hk⟩:=c
    induction k using Nat.strongRecOn with
    | ind k ih=>
     by_cases z:∃j,xU l j/\j<k
     ·obtain⟨j,hj,hlt⟩:=z;exact ih j hlt hj
     ·exact⟨k,hk,λj hj=>Nat.le_of_not_lt λy=>z ⟨j,hj,y⟩⟩
   have:=oH hk.1 hk.2.1 hk.2.2;obtain⟨ks,hks⟩:=BY m (ex l k) ();exact⟨k::ks,⟨hk,hmin⟩,hks⟩
  ·exact⟨[],λk hk=>c ⟨k,hk⟩⟩
def tN{l:ae}{n k:Nat}(p:l.Perm<|rg n)(h0:1<=k)(h:k<l.length):l.getD (k-1) 0≠l.getD k 0:=λz=>by
 have nd:l.Nodup:=p.nodup_iff.mpr<|kH _ _;rw[Wd.i_ h,Wd.i_<|show k-1<l.length by lia]at z;have:=(c8 nd).mp z
 lia
def Hs{a c:ae}{n:Nat}(pa:a.Perm<|rg n)(h1:nF a b)(h2:nF b c):a=c:=by
 have l1:=h1.1;have l2:=h2.1;refine fJ () λq hq hq'=>?_;have e1:=h1.2 q hq;have hm:=(jz.mp<|pa.mem_iff.mp<|dc hq);obtain⟨hb,eb⟩:=aM.mp e1;have e2:=h2.2 _ hb;rw[eb,show((q:Int)+1-1).toNat=q by lia,aG hq']at e2;have:=aU e2
 lia
structure Two (n:Nat)(o u:ae):Prop where
 po:o.Perm (rg n)
 pu:u.Perm (rg n)
 ou:nF o u
def Two.lu{n:Nat}{u:ae}(t:Two n o u):u.length=n:=by rw[t.pu.length_eq,Wd.iP]
def Two.lo{n:Nat}{o:ae}(t:Two n o u):o.length=n:=by rw[t.po.length_eq,Wd.iP]
def Two.led{n:Nat}{ks:ag}(t:Two n o u)(h:Dn u ks):Wd.led (rg n) ks=o:=by
 have v:Va n ks:=by have:=h.va;rwa [t.lu]at this
 have e:=h.led t.pu;have e2:u=Wd.led (rg n) ks.reverse:=by rw[<- e,w4<|by rw[t.lu];exact v]
 have b:=Wd.kD ks v;rw[<- show u=Wd.led (i9 1<|(n:Int)+1) ks.reverse from e2]at b;exact(Hs t.po t.ou b).symm
def Two.uo{n:Nat}(t:Two n o u):nF u o:=by
 obtain⟨ks,h⟩:=BY _ u<|aQ _;have v:Va n ks:=by have:=h.va;rwa [t.lu]at this
 have e:=h.led t.pu;have e2:u=Wd.led (rg n) ks.reverse:=by rw[<- e,w4<|by rw[t.lu];exact v]
 have b:=Wd.kD ks v;rw[<- show u=Wd.led (i9 1<|(n:Int)+1) ks.reverse from e2,show Wd.led (i9 1<|(n:Int)+1) ks=o from t.led h]at b;exact b
def Two.flip{n:Nat}(t:Two n o u):Two n u o:=⟨t.pu,t.po,t.uo⟩
def Two.step{n k:Nat}{o:ae}(t:Two n o u)(h0:1<=k)(h:k<n):Two n (o.map<|Wd.sw k) (ex u k):=by
 have lu:=t.lu;have b:=Wd.yy h0 () t.uo;have p1:=jX t.pu h0 ();have p2:(o.map<|Wd.sw k).Perm (rg n):=(t.po.map _).trans (by rw[<- Wd.DM h0 h];exact Wd.Av h0<|by rw[Wd.iP];exact h);exact(Two.mk p1 p2 b).flip
end Fw
namespace Su
open Am Po PySem L2
abbrev cS (l:Ps)(o:ae)(t:Int):Int:=match l with
 | []=>0
 | e::l=>(if e.1=o then cf e.2 t else 0)+cS l o t
def Ln(a b:Pl)(k:Int):cf (a++b) k=cf a k+cf b k:=by
 induction a with
 | nil=>exact(dF _).symm
 | cons p a ih=>
  show _+cf (a++b) k=_+_+_;rw[ih,add_assoc]
def KR(a b:Pl)(k:Int):cf (wL a b) k=cf a k+cf b k:=by
 unfold wL;rw[zC<|uh _ (d:=[]) fC,tM,Ln];show 0+_=_;rw[dF]
def M0(a b:Pl)(k:Int):cf (times a b) k=cf (G3 a b) k:=by
 unfold times;rw[zC<|uh _ (d:=[]) fC,tM];show 0+_=_;rw[dF]
theorem PJ(s:Int):∀(b:Pl) (k c:Int),cf (b.map λq=>(c+q.1,s * q.2)) k=s * cf b (k-c)
 | [],k,c=>(Int.mul_zero s).symm
 | q::b,k,c=>by
  show(if c+q.1=k then s * q.2 else 0)+cf (b.map λq=>(c+q.1,s * q.2)) k=s * ((if q.1=k-c then q.2 else 0)+cf b (k-c));rw[PJ s b k c,Int.mul_add];by_cases h:c+q.1=k
  ·rw[aK h,aK ()]
  ·rw[aJ h,aJ (),Int.mul_zero]
meta abbrev AF:Pl:=[((-1:Int),(1:Int)),((1:Int),(-1:Int))]
structure Gd (D:Ps):Prop where
 nd:(D.map Prod.fst).Nodup
 ok:∀e∈D,Ok e.2
abbrev j7 (o:ae)(k:Nat):Bool:=decide<|o.getD (k-1) 0>o.getD k 0
abbrev Yc (k:Nat)(l:Ps):Ps:=l.flatMap λe=>(Wd.ex e.1 k,e.2)::(if j7 e.1 k=true then[(e.1,times AF e.2)]else[])
abbrev bx (k:Nat)(l:Ps):Ps:=toS<|adds []<|Yc k l
def VD{k:Nat}{o:ae}(h1:1<=k)(h2:k<o.length):(Wd.ex o k).getD (k-1) 0=o.getD k 0/\(Wd.ex o k).getD k 0=o.getD (k-1) 0:=by
 constructor
 ·rw[aI,Wd.kG h1 h2,aJ (),aK rfl,aI]
 ·rw[aI,Wd.kG h1 h2,aK rfl,aI]
end Su
namespace He
open PySem L2 Am
open Fw (Two rg xU)
open Bl (nF)
open Su (j7)
meta abbrev Fn:=ae->Int->Int
abbrev dl (g:Int->Int)(t:Int):Int:=g (t+1)-g (t-1)
abbrev X (k:Nat)(f:Fn):Fn:=λo t=>f (Wd.ex o k) t+if j7 o k=true then dl (f o) t else 0
def jI{n:Nat}{v:ae}(h:Two n o u)(h':Two n o v):u=v:=by
 have l1:=h.lu;have l2:=h'.lu;have l3:=h.lo;apply bR;intro q;by_cases hq:q<n
 ·obtain⟨p,hp,ep⟩:∃p,∃hp:p<o.length,o[p]=(q:Int)+1:=by
   have:(q:Int)+1∈o:=h.po.mem_iff.mpr<|jz.mpr ⟨(),()⟩;obtain⟨p,hp,ep⟩:=List.getElem_of_mem this;exact⟨p,hp,ep⟩
  have a1:=h.ou.2 p hp;have a2:=h'.ou.2 p hp;rw[ep,show((q:Int)+1-1).toNat=q by lia]at a1 a2;rw[a1,a2]
 ·rw[bC (),bC ()]
abbrev bk (o:ae):ae:=(List.range o.length).map λi:Nat=>((o.idxOf ((i:Int)+1):Nat):Int)+1
def jZ{n:Nat}{o:ae}(h:o.Perm<|rg n):Two n o (bk o):=by
 have lo:o.length=n:=by rw[h.length_eq,Wd.iP]
 have nd:o.Nodup:=h.nodup_iff.mpr<|kH _ _;have mem:∀i,i<n->(i:Int)+1∈o:=λi hi=>h.mem_iff.mpr<|jz.mpr ⟨(),()⟩;have ix:∀i,i<n->o.idxOf ((i:Int)+1)<n:=λi hi=>by rw[<- lo];exact List.idxOf_lt_length_iff.mpr (mem i hi)
 have get:∀i (hi:i<n),o[o.idxOf<|(i:Int)+1]'(by rw[lo];exact ix i hi)=(i:Int)+1:=λi hi=>List.getElem_idxOf _;refine⟨h,?_,?_,λp hp=>?_⟩
 ·have p:=Am.xQ (N:=n) (g:=λi=>o.idxOf<|(i:Int)+1) ix λi j hij hj z=>by
   have a:=get i ();have b:=get j hj;dsimp[z]at a;rw[b]at a
   lia
  have p2:=p.map λi:Nat=>(i:Int)+1;rw[cH]at p2;unfold bk;rw[lo];refine List.Perm.trans p2 ?_;have:(List.range n).map (λi:Nat=>(i:Int)+1)=rg n:=by
   apply bR;intro q;rw[a_];by_cases c:q<n
   ·rw[cQ c,Wd.oE c];rfl
   ·rw[bC<|by rw[cK];lia,bC<|by rw[Wd.iP];lia];rfl
  rw[this]
 ·unfold bk;rw[aL,cK]
 ·have m:=jz.mp<|h.mem_iff.mp<|dc hp;have hq:(o[p]-1).toNat<o.length:=()
  unfold bk;rw[a_,cQ hq];show some (((o.idxOf (((o[p]-1).toNat:Int)+1):Nat):Int)+1)=_;rw[show((o[p]-1).toNat:Int)+1=o[p]by lia,nd.idxOf_getElem]
def yM{n:Nat}{o:ae}(h:o.Perm<|rg n):bk (bk o)=o:=jI (jZ (jZ h).pu) (jZ h).flip
def l_{n:Nat}{o:ae}(h:o.Perm<|rg n):(bk o).Perm (rg n):=(jZ h).pu
def Gj{n k:Nat}{o:ae}(h:o.Perm<|rg n)(h0:1<=k)(h1:k<n):bk (o.map<|Wd.sw k)=Wd.ex (bk o) k:=by
 have t:=(jZ h).step h0 h1;exact jI (jZ t.po) t
def AX{n k:Nat}{o:ae}(h:o.Perm<|rg n)(h0:1<=k)(h1:k<n):bk (Wd.ex o k)=(bk o).map (Wd.sw k):=by
 have t:=((jZ h).flip.step h0 h1).flip;exact jI (jZ t.po) t
def rB{n k p:Nat}{o u:ae}(t:Two n o u)(h1:1<=k)(h2:k<=n)(hp:o.getD p 0=(k:Int))(hpn:p<n):u.getD (k-1) 0=(p:Int)+1:=by
 have lo:=t.lo;have lp:p<o.length:=()
 have:=t.ou.2 p lp;rw[Wd.i_ lp]at hp;rw[hp,show((k:Int)-1).toNat=k-1 by lia]at this;rw[aI,this];rfl
def nb{n k:Nat}{o:ae}(h:o.Perm<|rg n)(h0:1<=k)(h1:k<n):o.getD (k-1) 0≠o.getD k 0:=λz=>by
 have lo:o.length=n:=by rw[h.length_eq,Wd.iP]
 have nd:o.Nodup:=h.nodup_iff.mpr<|kH _ _;rw[Wd.i_ (),Wd.i_ ()]at z;have:=(c8 nd).mp z
 lia
abbrev Pr (o:ae)(k j:Nat):Prop:=(o.getD (k-1) 0=j/\o.getD k 0=(j:Int)+1)\/(o.getD (k-1) 0=(j:Int)+1/\o.getD k 0=j)
def uJ{n k:Nat}{u:ae}(h:u.Perm<|rg n)(h0:1<=j)(h1:j<n):(Pr u j k->j7 (u.map<|Wd.sw k) j=!j7 u j)/\(¬Pr u j k->j7 (u.map<|Wd.sw k) j=j7 u j):=by
 have lu:u.length=n:=by rw[h.length_eq,Wd.iP]
 have ne:=nb h h0 h1;have e1:(u.map<|Wd.sw k).getD (j-1) 0=Wd.sw k (u.getD (j-1) 0):=by
  rw[Wd.i_<|by rw[aL];lia,Wd.i_ (),cV]
 have e2:(u.map<|Wd.sw k).getD j 0=Wd.sw k (u.getD j 0):=by
  rw[Wd.i_<|by rw[aL];lia,Wd.i_ (),cV]
 unfold j7 Pr;rw[e1,e2];generalize u.getD (j-1) 0=a at *
 generalize u.getD j 0=b at *
 constructor
 ·rintro(⟨z1,z2⟩|⟨z1,z2⟩)
  ·subst z1;subst z2;unfold Wd.sw;rw[aK rfl,aJ (),aK rfl,aT (),aS ()];rfl
  ·subst z1;subst z2;unfold Wd.sw;rw[aJ (),aK rfl,aK rfl,aS (),aT ()];rfl
 ·intro z;rw[fK];unfold Wd.sw;split<;>split<;>(try split)<;>(try split)<;>lia
def n9{n k:Nat}(t:Two n o u)(h0:1<=k)(h1:k<n)(h2:1<=j)(h3:j<n)(h:Pr o k j):Pr u j k:=by
 rcases h with⟨z1,z2⟩|⟨z1,z2⟩
 ·have a:=rB t h2 () z1 ();have b:=rB t (k:=j+1) () () (by rw[z2];lia) h1;rw[g5]at b;exact .inl ⟨by rw[a];lia,by rw[b]⟩
 ·have a:=rB t (k:=j+1) () () (by rw[z1];lia) (show k-1<n by lia);have b:=rB t h2 () z2 h1;rw[g5]at a;exact .inr ⟨by rw[b],by rw[a];lia⟩
def z7{n k:Nat}(t:Two n o u)(h0:1<=k)(h1:k<n)(h2:1<=j)(h3:j<n)(h:Pr o k j):j7 u j=j7 o k:=by
 have a:∀x y:ae,∀i m:Nat,x.getD (i-1) 0=(m:Int)->x.getD i 0=(m:Int)+1->j7 x i=false:=λx y i m p q=>by
  unfold j7;rw[p,q];exact aS ()
 have b:∀x y:ae,∀i m:Nat,x.getD (i-1) 0=(m:Int)+1->x.getD i 0=(m:Int)->j7 x i=true:=λx y i m p q=>by
  unfold j7;rw[p,q];exact aT ()
 rcases h with⟨z1,z2⟩|⟨z1,z2⟩
 ·rw[a o [] k j z1 z2]
  rcases n9 t h0 h1 h2 h3 (.inl ⟨z1,z2⟩)with⟨y1,y2⟩|⟨y1,y2⟩
  ·exact a u [] j k y1 y2
  ·have:=rB t h2 () z1 ();lia
 ·rw[b o [] k j z1 z2]
  rcases n9 t h0 h1 h2 h3 (.inr ⟨z1,z2⟩)with⟨y1,y2⟩|⟨y1,y2⟩
  ·have:=rB t h2 () z2 h1;lia
  ·exact b u [] j k y1 y2
abbrev L (j:Nat)(f:Fn):Fn:=λo t=>f (o.map<|Wd.sw j) t+if j7 (bk o) j=true then dl (f o) t else 0
def vV{n k:Nat}{o:ae}(h:o.Perm<|rg n)(h0:1<=k)(h1:k<n)(hp:Pr o k j):o.map (Wd.sw j)=Wd.ex o k:=by
 have lo:o.length=n:=by rw[h.length_eq,Wd.iP]
 have nd:o.Nodup:=h.nodup_iff.mpr<|kH _ _;apply bR;intro p;rw[Wd.kG h0 (),a_];unfold Pr at hp;rw[Wd.i_ (),Wd.i_ ()]at hp;by_cases c1:p=k
 ·subst c1;rw[aK rfl,aG (),aG (),dO];congr 1;unfold Wd.sw
  rcases hp with⟨z1,z2⟩|⟨z1,z2⟩
  ·rw[z1,z2,aJ (),aK rfl]
  ·rw[z1,z2,aK rfl]
 ·rw[aJ c1];by_cases c2:p=k-1
  ·subst c2;rw[aK rfl,aG (),aG (),dO];congr 1;unfold Wd.sw
   rcases hp with⟨z1,z2⟩|⟨z1,z2⟩
   ·rw[z1,z2,aK rfl]
   ·rw[z1,z2,aJ (),aK rfl]
  ·rw[aJ c2];by_cases c3:p<o.length
   ·rw[aG c3,dO];congr 1;have n1:o[p]≠o[k]:=λz=>c1<|(c8 nd).mp z;have n2:o[p]≠o[k-1]:=λz=>c2<|(c8 nd).mp z;unfold Wd.sw
    rcases hp with⟨z1,z2⟩|⟨z1,z2⟩
    ·rw[aJ<|by rw[<- z1];exact n2,aJ<|by rw[<- z2];exact n1]
    ·rw[aJ<|by rw[<- z2];exact n1,aJ<|by rw[<- z1];exact n2]
   ·rw[bC ()];rfl
def rY(j:Nat)(o:ae):(o.map<|Wd.sw j).map (Wd.sw j)=o:=by
 rw[cH];have:(Wd.sw j ∘ Wd.sw j)=id:=funext λx=>by
  show Wd.sw j (Wd.sw j x)=x;unfold Wd.sw;split<;>(try split)<;>(try split)<;>lia
 rw[this,List.map_id]
abbrev lQ (n:Nat)(f g:Fn):Prop:=∀o:ae,o.Perm (rg n)->∀t,f o t=g o t
def lQ.refl{n:Nat}{f:Fn}:lQ n f f:=λ_ _ _=>rfl
def lQ.symm{n:Nat}{f g:Fn}(h:lQ n f g):lQ n g f:=λo p t=>(h o p t).symm
def lQ.trans{n:Nat}{f g e:Fn}(h:lQ n f g)(h':lQ n g e):lQ n f e:=λo p t=>(h o p t).trans<|h' o p t
def jX{n k:Nat}{o:ae}(h:o.Perm<|rg n)(h0:1<=k)(h1:k<n):(Wd.ex o k).Perm (rg n):=(Wd.Av h0<|by rw[h.length_eq,Wd.iP];exact h1).trans h
def Cz{n k:Nat}{o:ae}(h:o.Perm<|rg n)(h0:1<=k)(h1:k<n):(o.map<|Wd.sw k).Perm (rg n):=((jZ h).step h0 h1).po
abbrev Va (n:Nat)(w:ag):Prop:=∀k∈w,1<=k/\k<n
abbrev Xw (w:ag)(f:Fn):Fn:=w.foldl (λf k=>X k f) f
abbrev Lw (w:ag)(f:Fn):Fn:=w.foldl (λf k=>L k f) f
abbrev D (u:ae)(g:Int->Int):Fn:=λo t=>if o=u then g t else 0
def XC{n k:Nat}{u:ae}(g:Int->Int)(hu:u.Perm<|rg n)(h0:1<=k)(h1:k<n):lQ n (X k<|D u g) λo t=>D (Wd.ex u k) g o t+if j7 u k=true then D u (dl g) o t else 0:=λo p t=>by
 have lo:o.length=n:=by rw[p.length_eq,Wd.iP]
 have lu:u.length=n:=by rw[hu.length_eq,Wd.iP]
 have iff:Wd.ex o k=u ↔ o=Wd.ex u k:=⟨λz=>by rw[<- z,Fw.mw h0 ()],λz=>by rw[z,Fw.mw h0 ()]⟩;unfold X D dl;dsimp only;by_cases c:o=u
 ·subst c;rw[aK rfl,aK rfl,aK rfl];congr 1;by_cases c2:Wd.ex o k=o
  ·rw[aK c2,aK c2.symm]
  ·rw[aJ c2,aJ λz=>c2 z.symm]
 ·rw[aJ c,aJ c,aJ c];congr 1
  ·by_cases c2:Wd.ex o k=u
   ·rw[aK c2,aK<|iff.mp c2]
   ·rw[aJ c2,aJ λz=>c2<|iff.mpr z]
  ·split<;>split<;>rfl
def Wu{n k:Nat}{u:ae}(g:Int->Int)(hu:u.Perm<|rg n)(h0:1<=k)(h1:k<n):lQ n (L k<|D u g) λo t=>D (u.map<|Wd.sw k) g o t+if j7 (bk u) k=true then D u (dl g) o t else 0:=λo p t=>by
 have iff:o.map (Wd.sw k)=u ↔ o=u.map (Wd.sw k):=⟨λz=>by rw[<- z,rY],λz=>by rw[z,rY]⟩;unfold L D dl;dsimp only;by_cases c:o=u
 ·subst c;rw[aK rfl,aK rfl,aK rfl];congr 1;by_cases c2:o.map (Wd.sw k)=o
  ·rw[aK c2,aK c2.symm]
  ·rw[aJ c2,aJ λz=>c2 z.symm]
 ·rw[aJ c,aJ c,aJ c];congr 1
  ·by_cases c2:o.map (Wd.sw k)=u
   ·rw[aK c2,aK<|iff.mp c2]
   ·rw[aJ c2,aJ λz=>c2<|iff.mpr z]
  ·split<;>split<;>rfl
def qO{l:ae}{k:Nat}(h:l.getD (k-1) 0<l.getD k 0):j7 l k=false:=aS ()
theorem OT{n:Nat}{g:Int->Int}:∀{w:ag}{u:ae},u.Perm (rg n)->Wd.iZ (bk u) w->∃v:ae,v.Perm (rg n)/\bk v=Wd.led (bk u) w/\lQ n (Lw w<|D u g) (D v g)
 | [],u,hu,_=>⟨u,hu,rfl,.refl⟩
 | k::w,u,hu,h=>by
  obtain⟨h1,h2,h3,h4⟩:=h;have lb:(bk u).length=n:=by rw[(l_ hu).length_eq,Wd.iP]
  have pu:=Cz hu h1 ();have eb:bk (u.map<|Wd.sw k)=Wd.ex (bk u) k:=Gj hu h1 ();have e:lQ n (L k<|D u g) (D (u.map<|Wd.sw k) g):=(Wu g hu h1 ()).trans λo p t=>by
   dsimp only;rw[qO h3,aJ<|by simp,dR]
  have v:Va n w:=λj hj=>by
   have:=Wd.iZ.valid h4 j hj;rw[Wd.jt,lb]at this;exact this
  rw[<- eb]at h4;obtain⟨x,x1,x2,x3⟩:=OT (g:=g) pu h4;refine⟨x,x1,?_,(A9 v e).trans x3⟩;rw[x2,eb];rfl
def j_(n:Nat):(rg n).Perm (rg n):=.refl _
theorem lI{n:Nat}:∀(m:Nat) {u:ae},u.Perm (rg n)->Iv.inv u=m->∃w,Wd.iZ (rg n) w/\Wd.led (rg n) w=u
 | 0,u,hu,hm=>by
  refine⟨[],trivial,(Fw.AY hu λk hk=>?_).symm⟩;have:=Fw.oH hk.1 hk.2.1 hk.2.2
  lia
 | m+1,u,hu,hm=>by
  obtain⟨k,hk⟩:=Fw.GG (l:=u) ();have lu:u.length=n:=by rw[hu.length_eq,Wd.iP]
  have hd:=Fw.oH hk.1 hk.2.1 hk.2.2;obtain⟨w,h1,h2⟩:=lI m (jX hu hk.1<|by rw[<- lu];exact hk.2.1) ();obtain⟨e1,e2⟩:=Su.VD (o:=u) hk.1 hk.2.1;refine⟨w++[k],Wd.iZ.snoc h1 hk.1 (by rw[Wd.iP,<- lu];exact hk.2.1)<|by rw[h2,e1,e2];exact hk.2.2,?_⟩;rw[Wd.vF,h2];exact Fw.mw hk.1 hk.2.1
def yc(n:Nat):bk (rg n)=rg n:=by
 refine jI (jZ<|j_ n) ⟨j_ n,j_ n,rfl,λp hp=>?_⟩;have hp':p<n:=by rw[Wd.iP]at hp;exact hp
 have e:=Wd.oE hp';rw[aG hp]at e;have e:=aU e;rw[show((rg n)[p]-1).toNat=p by rw[e];lia];exact Wd.oE hp'
abbrev add (f g:Fn):Fn:=λo t=>f o t+g o t
theorem xF:∀(w:ag) (f g:Fn),Xw w (add f g)=add (Xw w f) (Xw w g)
 | [],_,_=>rfl
 | k::w,f,g=>by
  show Xw w (X k<|add f g)=_;rw[QB,xF w];rfl
def KL(k:Nat):X k (λ_ _=>0)=λ_ _=>0:=by
 funext o t
 unfold X dl;split<;>rfl
end He
namespace He
open PySem L2 Am Po
open Fw (Two rg xU)
open Su (j7 Ps cS)
abbrev cv:Pl->(Int->Int)->Int->Int
 | [],_,_=>0
 | q::p,g,t=>q.2 * g (t-q.1)+cv p g t
abbrev Xe (p:Pl)(f:Fn):Fn:=λo t=>cv p (f o) t
abbrev sw (n:Nat)(o:ae):ag:=by
 classical
 exact if h:o.Perm (rg n)then(lI _ h rfl).choose else[]
def xy{n:Nat}{o:ae}(h:o.Perm<|rg n):Wd.iZ (rg n) (sw n o)/\Wd.led (rg n) (sw n o)=o:=by
 unfold sw;rw[dif_pos h];exact(lI _ h rfl).choose_spec
def Vm{n:Nat}{o:ae}(h:o.Perm<|rg n):Va n (sw n o):=λk hk=>by have:=Wd.iZ.valid (xy h).1 k hk;rwa [Wd.iP]at this
abbrev RG (G:ae->Fn):Ps->Fn
 | []=>λ_ _=>0
 | e::m=>add (Xe e.2<|G e.1)<|RG G m
abbrev R (n:Nat)(m:Ps)(f:Fn):Fn:=RG (λo=>Xw (sw n o) f) m
abbrev X_ (p:Pl)(l:Ps):Ps:=l.map λx=>(x.1,times p x.2)
abbrev B (f:Fn):Fn:=λo=>f<|bk o
abbrev d0:Int->Int:=λt=>if t=0 then 1 else 0
abbrev wb (l:Ps):Ps:=l.map λe=>(bk e.1,e.2)
end He
namespace He
open PySem L2 Am Po
open Fw (Two rg xU)
open Su (j7 Ps cS Gd vS toS adds bx)
structure Cn (l:Ps):Prop where
 gd:Gd l
 eq:toS l=l
abbrev Xr (l m:Ps):Ps:=toS<|adds []<|l++m
abbrev one (n:Nat):Ps:=[(rg n,[((0:Int),(1:Int))])]
end He
namespace He
open PySem L2 Am Po
open Fw (Two rg xU)
open Su (j7 Ps cS Gd vS toS adds bx)
abbrev arr:Nat->ae->List (ae)
 | 0,_=>[[]]
 | m+1,l=>l.flatMap λx=>(arr m<|l.erase x).map (x::·)
theorem N2:∀{m:Nat}{l o:ae},o.Perm l->l.length=m->o∈arr m l
 | 0,l,o,p,h=>by
  have:l=[]:=c9.mp h;subst this;rw[p.eq_nil];exact bI.mpr rfl
 | m+1,l,[],p,h=>by rw[<- p.length_eq]at h;cases h
 | m+1,l,x::o,p,h=>by
  obtain⟨h1,h2⟩:=List.cons_perm_iff_perm_erase.mp p;refine ig.mpr ⟨x,h1,bV.mpr ⟨o,N2 h2 ?_,rfl⟩⟩;rw[List.length_erase_of_mem h1,h];rfl
structure FB (n P C:Nat)(f:Fn):Prop where
 c:∀o,o.Perm (rg n)->∀t,(f o t).natAbs<=C
 p:∀o,o.Perm (rg n)->∀t:Int,P<t.natAbs->f o t=0
structure PB (Q c:Nat)(p:Pl):Prop where
 c:∀q∈p,q.2.natAbs<=c
 p:∀q∈p,q.1.natAbs<=Q
theorem sR:∀{w:ag}{l:ae},Wd.iZ l w->Iv.inv (Wd.led l w)=Iv.inv l+w.length
 | [],_,_=>rfl
 | k::w,l,h=>by
  have:=sR h.2.2.2;rw[Fw.wR h.1 h.2.1 h.2.2.1]at this;show Iv.inv (Wd.led (Wd.ex l k) w)=_+(w.length+1)
  lia
def zD{n:Nat}{o:ae}(h:o.Perm<|rg n):(sw n o).length=Iv.inv o:=by
 obtain⟨a,b⟩:=xy h;have:=sR a;rw[b,Fw.C3]at this
 lia
structure Sz (n P C:Nat)(l:Ps):Prop where
 cn:Cn l
 pm:∀x∈l,x.1.Perm (rg n)
 fb:FB n P C<|cS l
end He
namespace He
open PySem L2 Am Po
open Fw (Two rg xU)
open Su (j7 Ps cS Gd vS toS adds bx)
def ex_map(f:Int->Int){o:ae}{k:Nat}(h0:1<=k)(h1:k<o.length):Wd.ex (o.map f) k=(Wd.ex o k).map f:=by
 apply bR;intro p;rw[Wd.kG h0<|by rw[aL];exact h1,a_,a_,a_,a_,Wd.kG h0 h1];split
 ·rfl
 ·split<;>rfl
theorem zw{n:Nat}:∀{w:ag}{l:ae},l.Perm (rg n)->Va n w->Iv.inv (Wd.led l w)<=Iv.inv l+w.length/\(Iv.inv (Wd.led l w)=Iv.inv l+w.length->Wd.iZ l w)
 | [],l,_,_=>⟨aQ _,λ_=>trivial⟩
 | k::w,l,p,v=>by
  have v1:=v k<|aN ..;have ll:l.length=n:=by rw[p.length_eq,Wd.iP]
  obtain⟨i1,i2⟩:=zw (w:=w) (jX p v1.1 v1.2) λj hj=>v j<|aP _ hj;have i1:Iv.inv (Wd.led l (k::w))<=Iv.inv (Wd.ex l k)+w.length:=i1;have i2:Iv.inv (Wd.led l (k::w))=Iv.inv (Wd.ex l k)+w.length->Wd.iZ (Wd.ex l k) w:=i2;rw[bz]
  rcases lt_or_ge 0 0 with z|_
  ·lia
  ·by_cases c:l.getD (k-1) 0<l.getD k 0
   ·have u:=Fw.wR v1.1 () c;exact⟨(),λh=>⟨v1.1,(),c,i2 ()⟩⟩
   ·have ne:=nb p v1.1 v1.2;have u:=Fw.oH v1.1 () (show l.getD k 0<l.getD (k-1) 0 by lia);exact⟨(),λh=>absurd h ()⟩
theorem yh{n:Nat}:∀{w:ag}{l:ae},l.Perm (rg n)->Va n w->(Wd.led l w).Perm (rg n)
 | [],_,p,_=>p
 | k::w,l,p,v=>yh (w:=w) (jX p (v k<|aN ..).1 (v k<|aN ..).2) λj hj=>v j<|aP _ hj
end He
namespace He
open PySem L2 Am Po
open Fw (Two rg xU)
open Su (j7 Ps cS Gd vS toS adds bx)
def tY{n:Nat}{w:ag}(h:Wd.iZ (rg n) w):Wd.iZ (rg n) w.reverse:=by
 have va:Va n w:=λk hk=>by have:=Wd.iZ.valid h k hk;rwa [Wd.iP]at this
 have var:Va n w.reverse:=λk hk=>va k<|eS.mp hk;have pr:=yh (j_ n) var;obtain⟨z1,z2⟩:=xy pr;have vz:=Vm pr;have vzr:Va n (sw n<|Wd.led (rg n) w.reverse).reverse:=λk hk=>vz k<|eS.mp hk;have b1:=Wd.kD (sw n<|Wd.led (rg n) w.reverse).reverse vzr;rw[fB,z2]at b1;have e:=jI ⟨pr,yh (j_ n) vzr,b1⟩ ⟨pr,yh (j_ n) va,Wd.kD w va⟩;have l1:=(zw (j_ n) vzr).1;rw[e,Fw.C3,cF,zD pr]at l1;have l2:=sR h;have l3:=(zw (j_ n) var).1;refine(zw (j_ n) var).2 ?_;rw[Fw.C3,cF]at *
 lia
abbrev Y (k:Nat)(f:Fn):Fn:=λo t=>X k f o t-dl (f o) t
abbrev Yw (w:ag)(f:Fn):Fn:=w.foldl (λf k=>Y k f) f
def AH(w:ag)(k:Nat)(f:Fn):Xw (w++[k]) f=X k (Xw w f):=by unfold Xw;rw[eG];rfl
abbrev LB:Pl:=[((-1:Int),(-1:Int)),((1:Int),(1:Int))]
abbrev X9 (p:Pl)(l:Ps):Ps:=toS<|adds []<|X_ p l
abbrev yb (k:Nat)(l:Ps):Ps:=Xr (bx k l)<|X9 LB l
abbrev Yn (w:ag)(l:Ps):Ps:=w.foldl (λl k=>yb k l) l
abbrev bT (n:Nat)(o:ae):Fn:=Yw (sw n o)<|cS<|one n
abbrev tO (n:Nat)(w:ag):Ps:=Yn w<|one n
structure Fwd (n:Nat)(W:ae->ag):Prop where
 r:∀o,o.Perm (rg n)->Wd.iZ (rg n) (W o)
 e:∀o,o.Perm (rg n)->Wd.led (rg n) (W o)=o
end He
namespace Nu
open PySem L2
abbrev Vb:Nat->Nat
 | 0=>1
 | n+1=>(n+1) * Vb n
abbrev XY:Nat->ae->Nat->ae
 | 0,_,_=>[]
 | n+1,l,m=>l.getD (m / Vb n) 0::XY n (l.eraseIdx<|m / Vb n) (m % Vb n)
def RC(i j:Int):(i9 i j).Pairwise (· < ·):=by
 unfold i9;rw[eE];exact fZ.imp λh=>()
end Nu
namespace Stp
open PySem L2 Iv
abbrev mm (a:ae)(i j:Nat):ae:=(a.drop<|i+1).take<|j-i-1
abbrev Yb (x y m:Int):Bool:=decide (x<m) && decide (m<y)
def parts{a:ae}(hij:i<j)(hj:j<a.length):a=a.take i++([a.getD i 0]++mm a i j++[a.getD j 0])++a.drop (j+1):=by
 have gi:a.getD i 0=a[i]:=by rw[aI,aG ()];rfl
 have gj:a.getD j 0=a[j]:=by rw[aI,aG hj];rfl
 have h1:a.drop i=a[i]::a.drop (i+1):=bW ();have h2:a.drop (i+1)=mm a i j++a.drop j:=by
  have:=dw (j-i-1)<|a.drop<|i+1;rw[List.drop_drop,show i+1+(j-i-1)=j by lia]at this;exact this.symm
 have h3:a.drop j=a[j]::a.drop (j+1):=bW hj
 conv=>lhs;rw[<- dw i a,h1,h2,h3]
 rw[gi,gj];simp
def Wz{a:ae}(hij:i<j)(hj:j<a.length):sw a i j=a.take i++([a.getD j 0]++mm a i j++[a.getD i 0])++a.drop (j+1):=by
 have lM:(mm a i j).length=j-i-1:=by unfold mm;rw[bq,bS];lia
 have key:∀(P R:ae) (x y x' y':Int),P.length=i->((P++([x]++mm a i j++[y])++R).set i y').set j x'=P++([y']++mm a i j++[x'])++R:=λP R x y x' y' lP=>by
  rw[bG,c5 _ _ (),lP,fH];show(P++(y'::((mm a i j++[y])++R))).set j x'=_;rw[c5 _ _ (),lP,show j-i=(j-i-1)+1 by lia,List.set_cons_succ,bG,c5 _ _ (),lM,fH];simp
 have:=key (a.take i) (a.drop<|j+1) (a.getD i 0) (a.getD j 0) (a.getD i 0) (a.getD j 0) (by rw[bq];lia);rw[<- parts hij hj]at this;exact this
abbrev Yz (a:ae)(i j:Nat):Bool:=!(mm a i j).any λm=>Yb (if a.getD j 0<a.getD i 0 then a.getD j 0 else a.getD i 0) (if a.getD j 0>a.getD i 0 then a.getD j 0 else a.getD i 0) m
def Oc{a:ae}(hij:i<j)(hj:j<a.length):(sw a i j).Perm a:=by
 have e:=parts hij hj;rw[Wz hij hj]
 conv=>rhs;rw[e]
 exact((xN _ _ _).append_left _).append_right _
def Wn{a:ae}(hij:i<j)(hj:j<a.length):(sw a i j).getD i 0=a.getD j 0:=by
 unfold sw;rw[aI,bL (),bE ()];rfl
def W6{a:ae}(hij:i<j)(hj:j<a.length):(sw a i j).getD j 0=a.getD i 0:=by
 unfold sw;rw[aI,bE<|by rw[bO];exact hj];rfl
def rY{a:ae}(hij:i<j)(hj:j<a.length):sw (sw a i j) i j=a:=by
 have h1:=Wn hij hj;have h2:=W6 hij hj;unfold sw at h1 h2 ⊢;rw[h1,h2];apply bR;intro k;by_cases c:k=j
 ·subst c;rw[bE<|by dsimp[bO];exact hj,Iv.qh hj]
 ·rw[bL ()];by_cases c2:k=i
  ·subst c2;rw[bE<|by dsimp[bO];lia,Iv.qh ()]
  ·rw[bL (),bL (),bL ()]
end Stp
namespace Eu
open PySem L2 Bl
open Wd (ex uI)
open Fw (rg xU)
def i_{l:ae}{k:Nat}(h:k<l.length):l.getD k 0=l[k]:=by rw[aI,aG h];rfl
theorem low{a b:ae}{k:Nat}(hl:a.length=b.length)(h0:1<=k)(h:k<b.length)(hb:b.getD k 0<b.getD (k-1) 0)(ha:a.getD (k-1) 0<=a.getD k 0)(hab:Below a b):Below a (ex b k):=by
 have hu:k<a.length:=()
 rw[i_ h,i_<|show k-1<b.length by lia]at hb;rw[i_ hu,i_<|show k-1<a.length by lia]at ha;intro i j;rw[uI h0 h];by_cases hi:i=k
 ·subst hi;rw[aK rfl];have b1:=hab (i-1) j;have b3:=hab (i+1) j;have c1:=jy (l:=a) (i:=i-1) () j;have c2:=jy (l:=b) (i:=i-1) () j;have c3:=jy (l:=a) (i:=i) hu j;have c4:=jy (l:=b) (i:=i) h j;rw[show i-1+1=i by lia]at c1 c2;rw[c3,c4,c1,c2]at b3;rw[c1,c2];revert b1 b3
  (repeat' split)<;>intros<;>lia
 ·rw[aJ hi];have:=hab i j
  lia
def W_{a b:ae}{k:Nat}(hl:a.length=b.length)(h0:1<=k)(h:k<b.length)(hb:b.getD k 0<b.getD (k-1) 0)(ha:a.getD k 0<=a.getD (k-1) 0)(hab:Below a b):Below (ex a k) (ex b k):=by
 have hu:k<a.length:=()
 rw[i_ h,i_<|show k-1<b.length by lia]at hb;rw[i_ hu,i_<|show k-1<a.length by lia]at ha;intro i j;rw[uI h0 h,uI h0 hu];by_cases hi:i=k
 ·subst hi;rw[aK rfl,aK rfl];have b1:=hab (i-1) j;have b3:=hab (i+1) j;have c1:=jy (l:=a) (i:=i-1) () j;have c2:=jy (l:=b) (i:=i-1) () j;have c3:=jy (l:=a) (i:=i) hu j;have c4:=jy (l:=b) (i:=i) h j;rw[show i-1+1=i by lia]at c1 c2;rw[c3,c4,c1,c2]at b3;rw[c1,c2];revert b1 b3
  (repeat' split)<;>intros<;>lia
 ·rw[aJ hi,aJ hi];have:=hab i j
  lia
section
variable {n:Nat}
def ln{z:ae}(p:z.Perm<|rg n):z.length=n:=by rw[p.length_eq,Wd.iP]
end
abbrev al (n:Nat):List (ae):=(List.range<|Nu.Vb n).map<|Nu.XY n<|rg n
abbrev sg (z:ae):Int:=if Iv.inv z % 2=1 then -1 else 1
open Classical in
abbrev sm (n:Nat)(P:ae->Prop):Int:=((al n).map λz=>if P z then sg z else 0).sum
end Eu
namespace Gr
open PySem L2 Bl Fw
open Wd (ex led jt uZ lift kD)
abbrev gk:ae->ag->ag
 | _,[]=>[]
 | l,k::ks=>if l.getD (k-1) 0>l.getD k 0 then k::gk (ex l k) ks else gk l ks
def xV{k:Nat}(f:xU l k):Below (ex l k) l:=by
 obtain⟨h0,h,hr⟩:=f;have e:=mw h0 h;have hl:(ex l k).length=l.length:=jt l k;have:=lift (u:=ex l k) (w:=ex l k) (k:=k) rfl h0 (by rw[hl];exact h);have a1:=Ce h0 h;have a2:=B5 h0 h;rw[Eu.i_<|show k<(ex l k).length by lia]at a1;rw[Eu.i_<|show k-1<(ex l k).length by lia]at a2;have hr':(ex l k)[k-1]'()<(ex l k)[k]'():=by rw[a1,a2];exact hr
 have:=qB (l:=ex l k) (p:=k-1) (q:=k) () () () hr';rw[<- uZ h0 (),e]at this;exact this
theorem ue:∀(ks:ag) {n:Nat}{y:ae},y.Perm (rg n)->Dn y ks->Below (rg n) y
 | [],n,y,py,h=>by rw[AY py h];exact Below.refl _
 | k::ks,n,y,py,h=>(ue ks (jX py h.1.1.1 h.1.1.2.1) h.2).trans<|xV h.1.1
end Gr
namespace Eu
open PySem L2 Bl Am
open Fw (rg)
structure Done (n:Nat)(u w:ae)(es:List (ae×Bool)):Prop where
 nd:(es.map (·.1)).Nodup
 pm:∀e∈es,e.1.Perm (rg n)
 up:∀e∈es,Below u e.1
 fl:∀e∈es,(e.2=true ↔ Below e.1 w)
 st:u∈es.map (·.1)
 cl:∀e∈es,e.2=true->∀i j,i<j->j<n->e.1.getD i 0<e.1.getD j 0->Stp.Yz e.1 i j=true->Iv.sw e.1 i j∈es.map (·.1)
abbrev ext (n:Nat)(p:ae):List (ae):=((rg n).filter λt=>decide<|t∉p).map λt=>p++[t]
abbrev inj (n:Nat):Nat->List (ae)
 | 0=>[[]]
 | k+1=>(inj n k).flatMap<|ext n
theorem tZ{n:Nat}:∀{k:Nat}{p:ae},p∈inj n k ↔ p.length=k/\p.Nodup/\∀t∈p,t∈rg n
 | 0,p=>by
  unfold inj;rw[bI];constructor
  ·rintro rfl;simp
  ·rintro⟨h,_⟩;exact c9.mp h
 | k+1,p=>by
  unfold inj;rw[ig];constructor
  ·rintro⟨q,hq,hp⟩;obtain⟨t,ht,rfl⟩:=bV.mp hp;obtain⟨h1,h2⟩:=dN.mp ht;obtain⟨a,b,c⟩:=tZ.mp hq;have h2:t∉q:=cB h2;refine⟨by simp[a],?_,λx hx=>?_⟩
   ·rw[di];refine⟨b,by simp,λx hx y hy z=>h2 ?_⟩;have:y=t:=by simpa using hy
    rw[<- this,<- z];exact hx
   ·rcases bF.mp hx with z|z
    ·exact c x z
    ·have:x=t:=by simpa using z
     rw[this];exact h1
  ·rintro⟨h1,h2,h3⟩
   rcases gq p with c|⟨q,t,c⟩
   ·rw[c]at h1;simp at h1
   ·rw[gr]at c;subst c;rw[di]at h2;refine⟨q,tZ.mpr ⟨by simpa using h1,h2.1,λx hx=>h3 x<|dH _ hx⟩,bV.mpr ⟨t,dN.mpr ⟨h3 t<|by simp,aT λz=>h2.2.2 t z t (by simp) rfl⟩,rfl⟩⟩
def Gm{n:Nat}{p:ae}:p∈inj n n ↔ p.Perm (rg n):=by
 rw[tZ];constructor
 ·rintro⟨h1,h2,h3⟩;exact rf h2 h3 (by rw[h1,Wd.iP];exact aQ _)
 ·intro p';exact⟨ln p',p'.nodup_iff.mpr<|kH _ _,λt ht=>p'.mem_iff.mp ht⟩
theorem Gq:∀{a b:ae}(x y:ae),a.length=b.length->HT.lexLt a b=true->HT.lexLt (a++x) (b++y)=true
 | [],[],_,_,_,h=>by cases h
 | [],_::_,_,_,h,_=>by simp at h
 | _::_,[],_,_,h,_=>by simp at h
 | p::a,q::b,x,y,hl,h=>by
  show HT.lexLt (p::(a++x)) (q::(b++y))=true;rw[HT.qe]at h ⊢;by_cases c:p=q
  ·rw[aK c]at h ⊢;exact Gq x y (by simpa using hl) h
  ·rw[aJ c]at h ⊢;exact h
theorem A2:∀(p:ae) {s t:Int},s<t->HT.lexLt (p++[s]) (p++[t])=true
 | [],s,t,h=>by
  show HT.lexLt [s] [t]=true;rw[HT.qe,aJ (),aT h]
 | x::p,s,t,h=>by
  show HT.lexLt (x::(p++[s])) (x::(p++[t]))=true;rw[HT.qe,aK rfl];exact A2 p h
theorem Lv{n:Nat}:∀(k:Nat),(inj n k).Pairwise λa b=>HT.lexLt a b=true
 | 0=>c_ _ _
 | k+1=>by
  unfold inj;rw[List.pairwise_flatMap];refine⟨λp hp=>?_,List.Pairwise.imp_of_mem (λ{a b} ha hb hab x hx y hy=>?_)<|Lv k⟩
  ·unfold ext;rw[eE];refine List.Pairwise.imp (λ{a b} hab=>A2 p hab) ?_;exact(Nu.RC _ _).sublist List.filter_sublist
  ·obtain⟨s,_,rfl⟩:=bV.mp hx;obtain⟨t,_,rfl⟩:=bV.mp hy;exact Gq [s] [t] (by rw[(tZ.mp ha).1,(tZ.mp hb).1]) hab
end Eu
namespace Hz
open PySem L2 Bl Am
open Fw (rg xU)
open Su (j7)
open He (Fn lQ bk jZ l_ yM AX Gj yc jX Cz Va D Pr n9 vV z7 uJ rY j_ lI qO)
abbrev dl (g:Int->Int)(t:Int):Int:=- g (t-1)
abbrev X (k:Nat)(f:Fn):Fn:=λo t=>f (Wd.ex o k) t+if j7 o k=true then dl (f o) t else 0
abbrev L (j:Nat)(f:Fn):Fn:=λo t=>f (o.map<|Wd.sw j) t+if j7 (bk o) j=true then dl (f o) t else 0
def comm{n k:Nat}(f:Fn){o:ae}(h:o.Perm<|rg n)(h0:1<=k)(h1:k<n)(h2:1<=j)(h3:j<n)(t:Int):X k (L j f) o t=L j (X k f) o t:=by
 have lo:o.length=n:=by rw[h.length_eq,Wd.iP]
 have tw:=jZ h;have e1:(Wd.ex o k).map (Wd.sw j)=Wd.ex (o.map<|Wd.sw j) k:=(Wd.ex_map _ h0 ()).symm;have e2:=AX h h0 h1;have f1:=uJ (k:=j) h h0 h1;have f2:=uJ (k:=k) tw.pu h2 h3;unfold X L dl;dsimp only;rw[e1,e2];by_cases c:Pr o k j
 ·have c':=n9 tw h0 h1 h2 h3 c;have e3:=vV h h0 h1 c;rw[f1.1 c,f2.1 c',z7 tw h0 h1 h2 h3 c,<- e3]
 ·have c':¬Pr (bk o) j k:=λz=>c<|n9 tw.flip h2 h3 h0 h1 z;rw[f1.2 c,f2.2 c']
  cases j7 o k<;>cases j7 (bk o) j
  ·dsimp[aZ,bN]
  ·dsimp[aZ,cE,bN];lia
  ·dsimp[aZ,cE,bN];lia
  ·dsimp[cE];lia
def Us{n k:Nat}{f g:Fn}(h:lQ n f g)(h0:1<=k)(h1:k<n):lQ n (X k f) (X k g):=λo p t=>by
 unfold X dl;rw[h _<|jX p h0 h1,h o p]
def Xu{n k:Nat}{f g:Fn}(h:lQ n f g)(h0:1<=k)(h1:k<n):lQ n (L k f) (L k g):=λo p t=>by
 unfold L dl;rw[h _<|Cz p h0 h1,h o p]
abbrev Xw (w:ag)(f:Fn):Fn:=w.foldl (λf k=>X k f) f
abbrev Lw (w:ag)(f:Fn):Fn:=w.foldl (λf k=>L k f) f
theorem yZ{n:Nat}:∀{w:ag}{f g:Fn},Va n w->lQ n f g->lQ n (Xw w f) (Xw w g)
 | [],_,_,_,h=>h
 | k::w,_,_,v,h=>yZ (w:=w) (λj hj=>v j<|aP _ hj)<|Us h (v k<|aN ..).1 (v k<|aN ..).2
theorem A9{n:Nat}:∀{w:ag}{f g:Fn},Va n w->lQ n f g->lQ n (Lw w f) (Lw w g)
 | [],_,_,_,h=>h
 | k::w,_,_,v,h=>A9 (w:=w) (λj hj=>v j<|aP _ hj)<|Xu h (v k<|aN ..).1 (v k<|aN ..).2
theorem UT{n:Nat}(h2:1<=j)(h3:j<n):∀{w:ag}{f:Fn},Va n w->lQ n (Xw w<|L j f) (L j<|Xw w f)
 | [],_,_=>.refl
 | k::w,f,v=>by
  have v1:=v k<|aN ..;have v2:Va n w:=λj hj=>v j (aP _ hj)
  skip
  exact(yZ v2 λo p t=>comm f p v1.1 v1.2 h2 h3 t).trans (UT h2 h3 v2)
theorem PF{n:Nat}{w:ag}(v:Va n w):∀{u:ag}{f:Fn},Va n u->lQ n (Xw w<|Lw u f) (Lw u<|Xw w f)
 | [],_,_=>.refl
 | j::u,f,vu=>by
  have v1:=vu j<|aN ..;have v2:Va n u:=λi hi=>vu i (aP _ hi)
  skip
  exact(PF v v2).trans (A9 v2<|UT v1.1 v1.2 v)
def XC{n k:Nat}{u:ae}(g:Int->Int)(hu:u.Perm<|rg n)(h0:1<=k)(h1:k<n):lQ n (X k<|D u g) λo t=>D (Wd.ex u k) g o t+if j7 u k=true then D u (dl g) o t else 0:=λo p t=>by
 have lo:o.length=n:=by rw[p.length_eq,Wd.iP]
 have lu:u.length=n:=by rw[hu.length_eq,Wd.iP]
 have iff:Wd.ex o k=u ↔ o=Wd.ex u k:=⟨λz=>by rw[<- z,Fw.mw h0 ()],λz=>by rw[z,Fw.mw h0 ()]⟩;unfold X D dl;dsimp only;by_cases c:o=u
 ·subst c;rw[aK rfl,aK rfl];congr 1;by_cases c2:Wd.ex o k=o
  ·rw[aK c2,aK c2.symm]
  ·rw[aJ c2,aJ λz=>c2 z.symm]
 ·rw[aJ c,aJ c];congr 1
  ·by_cases c2:Wd.ex o k=u
   ·rw[aK c2,aK<|iff.mp c2]
   ·rw[aJ c2,aJ λz=>c2<|iff.mpr z]
  ·split<;>split<;>rfl
def Wu{n k:Nat}{u:ae}(g:Int->Int)(hu:u.Perm<|rg n)(h0:1<=k)(h1:k<n):lQ n (L k<|D u g) λo t=>D (u.map<|Wd.sw k) g o t+if j7 (bk u) k=true then D u (dl g) o t else 0:=λo p t=>by
 have iff:o.map (Wd.sw k)=u ↔ o=u.map (Wd.sw k):=⟨λz=>by rw[<- z,rY],λz=>by rw[z,rY]⟩;unfold L D dl;dsimp only;by_cases c:o=u
 ·subst c;rw[aK rfl,aK rfl];congr 1;by_cases c2:o.map (Wd.sw k)=o
  ·rw[aK c2,aK c2.symm]
  ·rw[aJ c2,aJ λz=>c2 z.symm]
 ·rw[aJ c,aJ c];congr 1
  ·by_cases c2:o.map (Wd.sw k)=u
   ·rw[aK c2,aK<|iff.mp c2]
   ·rw[aJ c2,aJ λz=>c2<|iff.mpr z]
  ·split<;>split<;>rfl
theorem UY{n:Nat}{g:Int->Int}:∀{w:ag}{u:ae},u.Perm (rg n)->Wd.iZ u w->lQ n (Xw w<|D u g) (D (Wd.led u w) g)
 | [],_,_,_=>.refl
 | k::w,u,hu,h=>by
  obtain⟨h1,h2,h3,h4⟩:=h;have lu:u.length=n:=by rw[hu.length_eq,Wd.iP]
  have pu:=jX hu h1 ();have e:lQ n (X k<|D u g) (D (Wd.ex u k) g):=(XC g hu h1 ()).trans λo p t=>by
   dsimp only;rw[qO h3,aJ<|by simp,dR]
  have v:Va n w:=λj hj=>by
   have:=Wd.iZ.valid h4 j hj;rw[Wd.jt,lu]at this;exact this
  skip
  exact(yZ v e).trans (UY pu h4)
theorem OT{n:Nat}{g:Int->Int}:∀{w:ag}{u:ae},u.Perm (rg n)->Wd.iZ (bk u) w->∃v:ae,v.Perm (rg n)/\bk v=Wd.led (bk u) w/\lQ n (Lw w<|D u g) (D v g)
 | [],u,hu,_=>⟨u,hu,rfl,.refl⟩
 | k::w,u,hu,h=>by
  obtain⟨h1,h2,h3,h4⟩:=h;have lb:(bk u).length=n:=by rw[(l_ hu).length_eq,Wd.iP]
  have pu:=Cz hu h1 ();have eb:bk (u.map<|Wd.sw k)=Wd.ex (bk u) k:=Gj hu h1 ();have e:lQ n (L k<|D u g) (D (u.map<|Wd.sw k) g):=(Wu g hu h1 ()).trans λo p t=>by
   dsimp only;rw[qO h3,aJ<|by simp,dR]
  have v:Va n w:=λj hj=>by
   have:=Wd.iZ.valid h4 j hj;rw[Wd.jt,lb]at this;exact this
  rw[<- eb]at h4;obtain⟨x,x1,x2,x3⟩:=OT (g:=g) pu h4;refine⟨x,x1,?_,(A9 v e).trans x3⟩;rw[x2,eb];rfl
def ND{n:Nat}{u:ae}(hu:u.Perm<|rg n):∃v,Va n v/\∀g,lQ n (Lw v<|D (rg n) g) (D u g):=by
 obtain⟨w,h1,h2⟩:=lI _ (l_ hu) rfl;have v:Va n w:=λk hk=>by have:=Wd.iZ.valid h1 k hk;rwa [Wd.iP]at this
 refine⟨w,v,λg=>?_⟩;have h1':Wd.iZ (bk<|rg n) w:=by rw[yc];exact h1
 obtain⟨x,x1,x2,x3⟩:=OT (g:=g) (j_ n) h1';rw[yc,h2]at x2;have:x=u:=by rw[<- yM x1,x2,yM hu]
 rw[<- this];exact x3
def Rf{n:Nat}{w:ag}(h:Wd.iZ (rg n) w)(h':Wd.iZ (rg n) w')(e:Wd.led (rg n) w=Wd.led (rg n) w'){u:ae}(hu:u.Perm<|rg n)(g:Int->Int):lQ n (Xw w<|D u g) (Xw w'<|D u g):=by
 obtain⟨v,v1,v2⟩:=ND hu;have a:∀{w:ag},Wd.iZ (rg n) w->lQ n (Xw w<|D u g) (Lw v<|D (Wd.led (rg n) w) g):=λ{w} h=>by
  have vw:Va n w:=λk hk=>by have:=Wd.iZ.valid h k hk;rwa [Wd.iP]at this
  exact(yZ vw (v2 g).symm).trans ((PF vw v1).trans<|A9 v1<|UY (j_ n) h)
 refine(a h).trans ?_;rw[e];exact(a h').symm
open He (add)
def QB(k:Nat)(f g:Fn):X k (add f g)=add (X k f) (X k g):=by
 funext o t
 unfold X add dl;dsimp only;split<;>lia
theorem xF:∀(w:ag) (f g:Fn),Xw w (add f g)=add (Xw w f) (Xw w g)
 | [],_,_=>rfl
 | k::w,f,g=>by
  show Xw w (X k<|add f g)=add (Xw w<|X k f) (Xw w<|X k g);rw[QB,xF w]
def KL(k:Nat):X k (λ_ _=>0)=λ_ _=>0:=by
 funext o t
 unfold X dl;split<;>rfl
theorem Ay:∀w:ag,Xw w (λ_ _=>0)=λ_ _=>0
 | []=>rfl
 | k::w=>by
  show Xw w (X k λ_ _=>0)=_;rw[KL,Ay w]
abbrev ym (f:Fn):List (ae)->Fn
 | []=>λ_ _=>0
 | u::us=>add (D u<|f u)<|ym f us
theorem E6(f:Fn)(t:Int):∀{us:List<|ae},o∉us->ym f us o t=0
 | [],_=>rfl
 | u::us,h=>by
  show(if o=u then f u t else 0)+ym f us o t=0;rw[aJ λz=>h<|by rw[z];exact aN ..,E6 f t λz=>h<|aP _ z];rfl
theorem Fe(f:Fn){o:ae}(t:Int):∀{us:List<|ae},us.Nodup->o∈us->ym f us o t=f o t
 | u::us,nd,h=>by
  show(if o=u then f u t else 0)+ym f us o t=_;by_cases c:o=u
  ·subst c;rw[aK rfl,E6 f t (c7.mp nd).1,dR]
  ·rw[aJ c,Fe f t (c7.mp nd).2<|(bJ.mp h).resolve_left c,dF]
def Ck(n:Nat)(f:Fn):lQ n f (ym f<|Eu.inj n n):=λo p t=>by
 refine(Fe f t ?_<|Eu.Gm.mpr p).symm;refine(Eu.Lv n).imp λ{a b} h z=>?_;rw[z,Sx.Gv]at h
 cases h
theorem BP{n:Nat}{w:ag}(h:Wd.iZ (rg n) w)(h':Wd.iZ (rg n) w')(e:Wd.led (rg n) w=Wd.led (rg n) w')(f:Fn):∀{us:List<|ae},(∀u∈us,u.Perm<|rg n)->lQ n (Xw w<|ym f us) (Xw w'<|ym f us)
 | [],_=>by
  show lQ n (Xw w λ_ _=>0) (Xw w' λ_ _=>0);rw[Ay,Ay];exact .refl
 | u::us,hu=>by
  show lQ n (Xw w<|add (D u<|f u)<|ym f us) (Xw w'<|add (D u<|f u)<|ym f us);rw[xF,xF];intro o p t;show _+_=_+_;rw[Rf h h' e (hu u<|aN ..) (f u) o p t,BP h h' e f (λv hv=>hu v<|aP _ hv) o p t]
def R_{n:Nat}{w:ag}(h:Wd.iZ (rg n) w)(h':Wd.iZ (rg n) w')(e:Wd.led (rg n) w=Wd.led (rg n) w')(f:Fn):lQ n (Xw w f) (Xw w' f):=by
 have va:Va n w:=λk hk=>by have:=Wd.iZ.valid h k hk;rwa [Wd.iP]at this
 have va':Va n w':=λk hk=>by have:=Wd.iZ.valid h' k hk;rwa [Wd.iP]at this
 exact(yZ va<|Ck n f).trans ((BP h h' e f λu hu=>Eu.Gm.mp hu).trans (yZ va'<|Ck n f).symm)
abbrev Z (k:Nat)(f:Fn):Fn:=λo t=>f (Wd.ex o k) t+if j7 o k=true then 0 else f o (t-1)
abbrev Zw (w:ag)(f:Fn):Fn:=w.foldl (λf k=>Z k f) f
def VJ{n k:Nat}{f g:Fn}(h:lQ n f g)(h0:1<=k)(h1:k<n):lQ n (Z k f) (Z k g):=λo p t=>by
 unfold Z;rw[h _<|jX p h0 h1,h o p]
theorem B3{n:Nat}:∀{w:ag}{f g:Fn},Va n w->lQ n f g->lQ n (Zw w f) (Zw w g)
 | [],_,_,_,h=>h
 | k::w,_,_,v,h=>B3 (w:=w) (λj hj=>v j<|aP _ hj)<|VJ h (v k<|aN ..).1 (v k<|aN ..).2
def uE{n k:Nat}{o:ae}(p:o.Perm<|rg n)(h0:1<=k)(h1:k<n):j7 (Wd.ex o k) k=!j7 o k:=by
 have lo:o.length=n:=by rw[p.length_eq,Wd.iP]
 have ne:=Fw.tN p h0 ();unfold Su.j7;rw[Fw.Ce h0 (),Fw.B5 h0 (),<- decide_not];exact fK.mpr ⟨λz=>(),λz=>()⟩
def Yr{n k:Nat}(h0:1<=k)(h1:k<n)(f:Fn):lQ n (X k<|Z k f) f:=λo p t=>by
 have lo:o.length=n:=by rw[p.length_eq,Wd.iP]
 unfold X Z dl;dsimp only;rw[uE p h0 h1,Fw.mw h0 ()]
 cases j7 o k<;>simp<;>lia
def Ym{n k:Nat}(h0:1<=k)(h1:k<n)(f:Fn):lQ n (Z k<|X k f) f:=λo p t=>by
 have lo:o.length=n:=by rw[p.length_eq,Wd.iP]
 unfold X Z dl;dsimp only;rw[uE p h0 h1,Fw.mw h0 ()]
 cases j7 o k<;>simp<;>lia
def GR(w:ag)(k:Nat)(f:Fn):Zw (w++[k]) f=Z k (Zw w f):=by unfold Zw;rw[eG];rfl
def AH(w:ag)(k:Nat)(f:Fn):Xw (w++[k]) f=X k (Xw w f):=by unfold Xw;rw[eG];rfl
theorem UH{n:Nat}:∀{w:ag}{f:Fn},Va n w->lQ n (Xw w.reverse<|Zw w f) f
 | [],_,_=>.refl
 | k::w,f,v=>by
  have v1:=v k<|aN ..;have v2:Va n w:=λj hj=>v j<|aP _ hj;rw[cZ,AH];show lQ n (X k<|Xw w.reverse<|Zw w<|Z k f) f;exact(Us (UH v2) v1.1 v1.2).trans (Yr v1.1 v1.2 f)
def EW(k:Nat)(w:ag)(f:Fn):Zw (k::w) f=Zw w (Z k f):=rfl
theorem Vr{n:Nat}:∀{w:ag}{f:Fn},Va n w->lQ n (Zw w<|Xw w.reverse f) f
 | [],_,_=>.refl
 | k::w,f,v=>by
  have v1:=v k<|aN ..;have v2:Va n w:=λj hj=>v j<|aP _ hj;rw[cZ,AH,EW];exact(B3 v2<|Ym v1.1 v1.2 _).trans (Vr v2)
open He (tY jI yh)
abbrev d1 (t:Int):Int:=if t=0 then 1 else 0
def U_{n:Nat}{w:ag}(h:Wd.iZ (rg n) w)(h':Wd.iZ (rg n) w')(e:Wd.led (rg n) w=Wd.led (rg n) w')(f:Fn):lQ n (Zw w f) (Zw w' f):=by
 have va:Va n w:=λk hk=>by have:=Wd.iZ.valid h k hk;rwa [Wd.iP]at this
 have va':Va n w':=λk hk=>by have:=Wd.iZ.valid h' k hk;rwa [Wd.iP]at this
 have var:Va n w.reverse:=λk hk=>va k<|eS.mp hk;have var':Va n w'.reverse:=λk hk=>va' k<|eS.mp hk;have b1:=Wd.kD w va;have b2:=Wd.kD w' va';have er:Wd.led (rg n) w.reverse=Wd.led (rg n) w'.reverse:=by
  have p:=yh (j_ n) va;have c1:=Wd.kD w.reverse var;have c2:=Wd.kD w'.reverse var';rw[fB]at c1 c2;rw[<- e]at c2;exact jI ⟨p,yh (j_ n) var,c1⟩ ⟨p,yh (j_ n) var',c2⟩
 have s:lQ n (Xw w.reverse<|Zw w' f) f:=(R_ (tY h) (tY h') er _).trans<|UH va';exact(B3 va s.symm).trans (Vr va)
abbrev sw (n:Nat)(o:ae):ag:=open Classical in if h:o.Perm (rg n)then(lI (Iv.inv o) h rfl).choose else[]
def xy{n:Nat}{o:ae}(h:o.Perm<|rg n):Wd.iZ (rg n) (sw n o)/\Wd.led (rg n) (sw n o)=o:=by
 unfold sw;rw[dif_pos h];exact(lI (Iv.inv o) h rfl).choose_spec
abbrev rT (n:Nat)(o:ae):Fn:=Zw (sw n o)<|D (rg n) d1
def AJ{n:Nat}{o:ae}{w:ag}(po:o.Perm<|rg n)(h:Wd.iZ (rg n) w)(e:Wd.led (rg n) w=o):lQ n (rT n o) (Zw w<|D (rg n) d1):=by
 obtain⟨a,b⟩:=xy po;exact U_ a h (b.trans e.symm) _
def Qd{n k:Nat}{o:ae}(po:o.Perm<|rg n)(h0:1<=k)(h1:k<n)(hf:j7 o k=false):lQ n (rT n<|Wd.ex o k) (Z k<|rT n o):=by
 obtain⟨a1,a2⟩:=xy po;have lo:o.length=n:=by rw[po.length_eq,Wd.iP]
 have ne:=Fw.tN po h0 ();have hr:(Wd.led (rg n)<|sw n o).getD (k-1) 0<(Wd.led (rg n)<|sw n o).getD k 0:=by
  rw[a2];have:=dZ hf
  lia
 have c1:Wd.iZ (rg n) (sw n o++[k]):=Wd.iZ.snoc a1 h0 (by rw[Wd.iP];exact h1) hr;have c2:Wd.led (rg n) (sw n o++[k])=Wd.ex o k:=by rw[Wd.vF,a2];rfl
 have:=AJ (jX po h0 h1) c1 c2;rw[GR]at this;exact this
def tD{n k:Nat}{o:ae}(po:o.Perm<|rg n)(h0:1<=k)(h1:k<n)(hf:j7 o k=true):lQ n (rT n o) (Z k<|rT n<|Wd.ex o k):=by
 have lo:o.length=n:=by rw[po.length_eq,Wd.iP]
 have:=Qd (jX po h0 h1) h0 h1 (by rw[uE po h0 h1,hf];rfl);rw[Fw.mw h0 ()]at this;exact this
def BD(n:Nat):lQ n (rT n<|rg n) (D (rg n) d1):=AJ (j_ n) (w:=[]) trivial rfl
theorem qA{n:Nat}{P:ae->Prop}(h0:P<|rg n)(hs:∀o k,o.Perm (rg n)->1<=k->k<n->j7 o k=true->P (Wd.ex o k)->P o):∀(m:Nat) {o:ae},Iv.inv o=m->o.Perm (rg n)->P o
 | 0,o,hm,po=>by rw[Fw.AY po λk hk=>by have:=Fw.oH hk.1 hk.2.1 hk.2.2;lia];exact h0
 | m+1,o,hm,po=>by
  obtain⟨k,hk⟩:=Fw.GG (l:=o) ();have lo:o.length=n:=by rw[po.length_eq,Wd.iP]
  have hd:=Fw.oH hk.1 hk.2.1 hk.2.2;have h1:k<n:=by rw[<- lo];exact hk.2.1
  exact hs o k po hk.1 h1 (aT hk.2.2)<|qA h0 hs m ()<|jX po hk.1 h1
structure Top (n:Nat)(w:ae)(f:Fn):Prop where
 at_:∀x:ae,x.Perm (rg n)->Below x w->f x ((Iv.inv w:Int)-Iv.inv x)=1
 up:∀x:ae,x.Perm (rg n)->Below x w->∀t,(Iv.inv w:Int)-Iv.inv x<t->f x t=0
 no:∀x:ae,x.Perm (rg n)->¬Below x w->∀t,f x t=0
 me:∀t,f w t=d1 t
 nn:∀x:ae,x.Perm (rg n)->∀t,0<=f x t
 lo:∀x:ae,x.Perm (rg n)->∀t,t<0->f x t=0
 ev:∀x:ae,x.Perm (rg n)->∀t,f x t≠0->((Iv.inv w:Int)-Iv.inv x-t) % 2=0
def Fo{k:Nat}{f:Fn}(h:j7 o k=true)(t:Int):Z k f o t=f (Wd.ex o k) t:=by
 unfold Z;rw[aK h,dR]
def Ie{k:Nat}{f:Fn}(h:j7 o k=false)(t:Int):Z k f o t=f (Wd.ex o k) t+f o (t-1):=by
 unfold Z;rw[h,aJ bH]
def Top.congr{n:Nat}{w:ae}{f g:Fn}(h:Top n w f)(pw:w.Perm<|rg n)(e:lQ n g f):Top n w g:=
 ⟨λx p b=>by rw[e x p];exact h.at_ x p b,λx p b t ht=>by rw[e x p];exact h.up x p b t ht,λx p b t=>by rw[e x p];exact h.no x p b t,λt=>by rw[e w pw];exact h.me t,λx p t=>by rw[e x p];exact h.nn x p t,λx p t ht=>by rw[e x p];exact h.lo x p t ht,λx p t ht=>by rw[e x p]at ht;exact h.ev x p t ht⟩
def Top.step{n k:Nat}{w:ae}{f:Fn}(h:Top n w f)(pw:w.Perm<|rg n)(h0:1<=k)(h1:k<n)(hf:j7 w k=false):Top n (Wd.ex w k) (Z k f):=by
 have lw:w.length=n:=by rw[pw.length_eq,Wd.iP]
 have nw:=Fw.tN pw h0 ();have hf:w.getD (k-1) 0<w.getD k 0:=by have:=dZ hf;lia
 have iw:=Fw.wR h0 (show k<w.length by lia) hf;have lw':(Wd.ex w k).length=n:=by rw[Wd.jt];exact lw
 have e1:=Fw.Ce h0 (show k<w.length by lia);have e2:=Fw.B5 h0 (show k<w.length by lia);have ee:Wd.ex (Wd.ex w k) k=w:=Fw.mw h0 ();have fw:xU (Wd.ex w k) k:=⟨h0,(),by rw[e1,e2];exact hf⟩;have bw:Below w (Wd.ex w k):=by have:=Gr.xV fw;rwa [ee]at this
 have hel:w[k-1]'()<w[k]'():=by
  rw[Eu.i_<|show k<w.length by lia,Eu.i_<|show k-1<w.length by lia]at hf;exact hf
 have bt:∀x:ae,x.Perm (rg n)->j7 x k=true->(Below x (Wd.ex w k) ↔ Below (Wd.ex x k) w)/\Iv.inv x=Iv.inv (Wd.ex x k)+1:=λx px hx=>by
  have lx:x.length=n:=by rw[px.length_eq,Wd.iP]
  have hx:=cB hx;refine⟨⟨λb=>?_,λb=>?_⟩,Fw.oH h0 () hx⟩
  ·have:=Eu.W_ () h0 () fw.2.2 () b
   rwa [ee]at this
  ·have:=Wd.lift (u:=Wd.ex x k) (w:=w) (k:=k) (by rw[Wd.jt];lia) h0 () hel b
   rwa [Fw.mw h0 ()]at this
 have bf:∀x:ae,x.Perm (rg n)->j7 x k=false->(Below x (Wd.ex w k) ↔ Below x w)/\Iv.inv (Wd.ex x k)=Iv.inv x+1/\Below x (Wd.ex x k):=λx px hx=>by
  have lx:x.length=n:=by rw[px.length_eq,Wd.iP]
  have hx:=dZ hx;have ne:=Fw.tN px h0 ();have hx:x.getD (k-1) 0<x.getD k 0:=()
  refine⟨⟨λb=>?_,λb=>b.trans bw⟩,Fw.wR h0 () hx,?_⟩
  ·have:=Eu.low () h0 () fw.2.2 () b
   rwa [ee]at this
  ·have fx:xU (Wd.ex x k) k:=⟨h0,by rw[Wd.jt];lia,by rw[Fw.Ce h0 (),Fw.B5 h0 ()];exact hx⟩;have:=Gr.xV fx
   rwa [Fw.mw h0 ()]at this
 have pe:∀x:ae,x.Perm (rg n)->(Wd.ex x k).Perm (rg n):=λx px=>jX px h0 h1;refine⟨λx px b=>?_,λx px b t ht=>?_,λx px b t=>?_,λt=>by rw[Fo<|aT fw.2.2,ee];exact h.me t,λx px t=>?_,λx px t ht=>?_,λx px t ht=>?_⟩
 ·cases hx:j7 x k with
  | true=>
   obtain⟨q1,q2⟩:=bt x px hx;rw[Fo hx,<- h.at_ _ (pe x px) (q1.mp b)];congr 1
   lia
  | false=>
   obtain⟨q1,q2,q3⟩:=bf x px hx;have b':=q1.mp b;rw[Ie hx,show(Iv.inv (Wd.ex w k):Int)-Iv.inv x-1=(Iv.inv w:Int)-Iv.inv x by lia,h.at_ x px b'];by_cases c:Below (Wd.ex x k) w
   ·rw[h.up _ (pe x px) c _ ()];rfl
   ·rw[h.no _ (pe x px) c];rfl
 ·cases hx:j7 x k with
  | true=>
   obtain⟨q1,q2⟩:=bt x px hx;rw[Fo hx];exact h.up _ (pe x px) (q1.mp b) _ ()
  | false=>
   obtain⟨q1,q2,q3⟩:=bf x px hx;have b':=q1.mp b;rw[Ie hx,h.up x px b' _ ()];by_cases c:Below (Wd.ex x k) w
   ·rw[h.up _ (pe x px) c _ ()];rfl
   ·rw[h.no _ (pe x px) c];rfl
 ·cases hx:j7 x k with
  | true=>
   obtain⟨q1,q2⟩:=bt x px hx;rw[Fo hx];exact h.no _ (pe x px) (λz=>b<|q1.mpr z) _
  | false=>
   obtain⟨q1,q2,q3⟩:=bf x px hx;have b':¬Below x w:=λz=>b<|q1.mpr z;rw[Ie hx,h.no x px b',h.no _ (pe x px) λz=>b'<|q3.trans z];rfl
 ·cases hx:j7 x k with
  | true=>rw[Fo hx];exact h.nn _ (pe x px) t
  | false=>rw[Ie hx];exact Int.add_nonneg (h.nn _ (pe x px) t)<|h.nn x px _
 ·cases hx:j7 x k with
  | true=>rw[Fo hx];exact h.lo _ (pe x px) t ht
  | false=>rw[Ie hx,h.lo _ (pe x px) t ht,h.lo x px _ ()];rfl
 ·cases hx:j7 x k with
  | true=>
   obtain⟨q1,q2⟩:=bt x px hx;rw[Fo hx]at ht;have:=h.ev _ (pe x px) t ht
   lia
  | false=>
   obtain⟨q1,q2,q3⟩:=bf x px hx;rw[Ie hx]at ht;by_cases c:f (Wd.ex x k) t=0
   ·rw[c,dF]at ht;have:=h.ev x px _ ht
    lia
   ·have:=h.ev _ (pe x px) t c
    lia
def RQ(n:Nat):Top n (rg n) (D (rg n) d1):=by
 have key:∀x:ae,x.Perm (rg n)->Below x (rg n)->x=rg n:=λx px b=>by
  obtain⟨js,hj⟩:=Fw.BY _ x<|aQ _;exact Below.antisymm px.length_eq b<|Gr.ue js px hj
 have ce:∀x t,D (rg n) d1 x t=if x=rg n then(if t=0 then(1:Int)else 0)else 0:=λx t=>rfl
 refine⟨λx px b=>?_,λx px b t ht=>?_,λx px b t=>?_,λt=>by rw[ce,aK rfl];rfl,λx px t=>?_,λx px t ht=>?_,λx px t ht=>?_⟩
 ·rw[key x px b,ce,aK rfl,Int.sub_self,aK rfl]
 ·rw[key x px b]at ht ⊢;rw[ce,aK rfl,aJ ()]
 ·rw[ce,aJ λz=>b<|by rw[z];exact Below.refl _]
 ·rw[ce];split
  ·split<;>decide
  ·decide
 ·rw[ce,aJ<|show ¬t=0 by lia];split<;>rfl
 ·rw[ce]at ht;by_cases c:x=rg n
  ·subst c;rw[aK rfl]at ht;by_cases d:t=0
   ·subst d;simp
   ·rw[aJ d]at ht;exact absurd rfl ht
  ·rw[aJ c]at ht;exact absurd rfl ht
def sI{n:Nat}{o:ae}(po:o.Perm<|rg n):Top n o (rT n o):=by
 refine qA (n:=n) (P:=λo=>Top n o<|rT n o) ((RQ n).congr (j_ n)<|BD n) (λo k po h0 h1 hf h=>?_) _ rfl po;have lo:o.length=n:=by rw[po.length_eq,Wd.iP]
 have:=h.step (jX po h0 h1) h0 h1 (by rw[uE po h0 h1,hf];rfl);rw[Fw.mw h0 ()]at this;exact this.congr po<|tD po h0 h1 hf
end Hz
namespace Hz
open PySem L2 Bl Am
open Fw (rg xU)
open Su (j7)
open He (Fn lQ bk jZ l_ yM AX Gj yc jX Cz Va D Pr n9 vV z7 uJ rY j_ lI qO tY jI yh)
abbrev W (j:Nat)(f:Fn):Fn:=λo t=>f (o.map<|Wd.sw j) t+if j7 (bk o) j=true then 0 else f o (t-1)
def Up{n k:Nat}(f:Fn){o:ae}(h:o.Perm<|rg n)(h0:1<=k)(h1:k<n)(h2:1<=j)(h3:j<n)(t:Int):Z k (W j f) o t=W j (Z k f) o t:=by
 have lo:o.length=n:=by rw[h.length_eq,Wd.iP]
 have tw:=jZ h;have e1:(Wd.ex o k).map (Wd.sw j)=Wd.ex (o.map<|Wd.sw j) k:=(Wd.ex_map _ h0 ()).symm;have e2:=AX h h0 h1;have f1:=uJ (k:=j) h h0 h1;have f2:=uJ (k:=k) tw.pu h2 h3;unfold Z W;dsimp only;rw[e1,e2];by_cases c:Pr o k j
 ·have c':=n9 tw h0 h1 h2 h3 c;have e3:=vV h h0 h1 c;rw[f1.1 c,f2.1 c',z7 tw h0 h1 h2 h3 c,<- e3]
 ·have c':¬Pr (bk o) j k:=λz=>c<|n9 tw.flip h2 h3 h0 h1 z;rw[f1.2 c,f2.2 c']
  cases j7 o k<;>cases j7 (bk o) j
  ·dsimp[aZ,bN];lia
  ·dsimp[aZ,cE,bN];lia
  ·dsimp[aZ,cE,bN];lia
  ·dsimp[cE]
theorem UO{n:Nat}(h2:1<=j)(h3:j<n):∀{w:ag}{f:Fn},Va n w->lQ n (Zw w<|W j f) (W j<|Zw w f)
 | [],_,_=>.refl
 | k::w,f,v=>by
  have v1:=v k<|aN ..;have v2:Va n w:=λj hj=>v j<|aP _ hj;show lQ n (Zw w<|Z k<|W j f) (W j<|Zw w<|Z k f);exact(B3 v2 λo p t=>Up f p v1.1 v1.2 h2 h3 t).trans (UO h2 h3 v2)
def Yv{n k:Nat}(h0:1<=k)(h1:k<n):lQ n (W k<|D (rg n) d1) (Z k<|D (rg n) d1):=λo p t=>by
 have lo:o.length=n:=by rw[p.length_eq,Wd.iP]
 have er:=Wd.DM h0 h1;have iff:Wd.ex o k=rg n ↔ o.map (Wd.sw k)=rg n:=by
  constructor
  ·intro z;have:o=Wd.ex (rg n) k:=by rw[<- z,Fw.mw h0 ()]
   rw[this,show Wd.ex (rg n) k=(rg n).map (Wd.sw k)from er,rY]
  ·intro z;have:o=(rg n).map (Wd.sw k):=by rw[<- z,rY]
   rw[this,<- show Wd.ex (rg n) k=(rg n).map (Wd.sw k)from er,Fw.mw h0<|by rw[Wd.iP];exact h1]
 unfold W Z D;congr 1
 ·by_cases c:Wd.ex o k=rg n
  ·rw[aK c,aK<|iff.mp c]
  ·rw[aJ c,aJ λz=>c<|iff.mpr z]
 ·by_cases c:o=rg n
  ·subst c;rw[yc]
  ·rw[aJ c];split<;>split<;>rfl
abbrev fb (f:Fn):Fn:=λo t=>f (bk o) t
def Xl{n k:Nat}(h0:1<=k)(h1:k<n)(f:Fn):lQ n (Z k<|fb f) (fb<|W k f):=λo p t=>by
 unfold Z fb W;rw[AX p h0 h1,yM p]
theorem Bp{n:Nat}:∀(m:Nat) {u:ag},u.length=m->Va n u->lQ n (Zw u<|D (rg n) d1) (fb<|Zw u.reverse<|D (rg n) d1)
 | 0,u,hl,_=>by
  rw[c9.mp hl];intro o p t;show(if o=rg n then d1 t else 0)=if bk o=rg n then d1 t else 0
  by_cases c:o=rg n
  ·rw[aK c,aK<|by rw[c,yc]]
  ·rw[aJ c,aJ λz=>c<|by rw[<- yM p,z,yc]]
 | m+1,u,hl,v=>by
  obtain⟨w,k,rfl⟩:∃v k,u=v++[k]:=by
   rcases gq u with z|⟨v,k,z⟩
   ·rw[z]at hl;cases hl
   ·exact⟨v,k,by rw[z,gr]⟩
  have vk:=v k (by simp);have vw:Va n w:=λj hj=>v j<|dH _ hj;have vr:Va n w.reverse:=λj hj=>vw j<|eS.mp hj;rw[GR,List.reverse_append,List.reverse_singleton,gu,EW];refine(VJ (Bp m (by simpa using hl) vw) vk.1 vk.2).trans ((Xl vk.1 vk.2 _).trans λo p t=>?_);exact((UO vk.1 vk.2 vr).symm.trans<|B3 vr<|Yv vk.1 vk.2) (bk o) (l_ p) t
def MQ{n:Nat}{w x:ae}(pw:w.Perm<|rg n)(px:x.Perm<|rg n)(t:Int):rT n (bk w) (bk x) t=rT n w x t:=by
 obtain⟨a1,a2⟩:=xy pw;have va:Va n (sw n w):=λk hk=>by have:=Wd.iZ.valid a1 k hk;rwa [Wd.iP]at this
 have vr:Va n (sw n w).reverse:=λj hj=>va j<|eS.mp hj;have b:=Wd.kD (sw n w).reverse vr;rw[fB,show Wd.led (i9 1<|(n:Int)+1) (sw n w)=w from a2]at b;have e:Wd.led (rg n) (sw n w).reverse=bk w:=jI ⟨pw,yh (j_ n) vr,b⟩<|jZ pw;rw[AJ (l_ pw) (tY a1) e (bk x) (l_ px) t];exact(Bp _ rfl va x px t).symm
def Ma{n k:Nat}{o:ae}(lo:o.length=n)(h0:1<=k)(h1:k<n):(Wd.ex o k).reverse=Wd.ex o.reverse (n-k):=by
 have lr:o.reverse.length=n:=by rw[cF];exact lo
 refine bR λp=>?_;rw[Wd.kG () ()];by_cases hp:p<n
 ·rw[dz<|by rw[Wd.jt];lia,Wd.jt,Wd.kG h0 (),dz (),dz (),dz (),lo];by_cases c1:p=n-k
  ·rw[aK c1,aJ (),aK ()];congr 1;lia
  ·rw[aJ c1];by_cases c2:p=n-k-1
   ·rw[aK c2,aK ()];congr 1;lia
   ·rw[aJ c2,aJ (),aJ ()]
 ·rw[bC<|by rw[cF,Wd.jt];lia,aJ (),aJ (),bC ()]
def Ff{n k:Nat}{o:ae}(po:o.Perm<|rg n)(h0:1<=k)(h1:k<n):j7 o.reverse (n-k)=!j7 o k:=by
 have lo:o.length=n:=by rw[po.length_eq,Wd.iP]
 have ne:=Fw.tN po h0 ();have g:∀p,p<n->o.reverse.getD p 0=o.getD (n-1-p) 0:=λp hp=>by
  rw[aI,dz (),aI,lo]
 unfold Su.j7;rw[g _ (),g _ (),show n-1-(n-k-1)=k by lia,show n-1-(n-k)=k-1 by lia,<- decide_not];exact fK.mpr ⟨λz=>(),λz=>()⟩
def oW{n:Nat}{o:ae}(h:o.Perm<|rg n):o.reverse.Perm (rg n):=(g8 o).trans h
def Il{n:Nat}{w:ae}(pw:w.Perm<|rg n):∀x:ae,x.Perm (rg n)->∀t,rT n w x t=rT n x.reverse w.reverse t:=by
 refine qA (n:=n) (P:=λw=>∀x:ae,x.Perm (rg n)->∀t,rT n w x t=rT n x.reverse w.reverse t) (λx px t=>?_) (λw k pw h0 h1 hf ih x px t=>?_) _ rfl pw
 ·by_cases c:x=rg n
  ·subst c;rw[(sI<|j_ n).me,(sI<|oW<|j_ n).me]
  ·rw[BD n x px t,show D (rg n) d1 x t=0 from aJ c];refine((sI<|oW px).no _ (oW<|j_ n) (λz=>c ?_) t).symm;have z:=(G7 px).mp z;obtain⟨js,hj⟩:=Fw.BY _ x<|aQ _;exact Below.antisymm px.length_eq z<|Gr.ue js px hj
 ·have lw:w.length=n:=by rw[pw.length_eq,Wd.iP]
  have lx:x.length=n:=by rw[px.length_eq,Wd.iP]
  have k0:1<=n-k:=()
  have k1:n-k<n:=()
  have pe:=jX px h0 h1;have er:=Ma lx h0 h1;have ew:=Ma lw h0 h1;have fw:j7 w.reverse (n-k)=false:=by rw[Ff pw h0 h1,hf];rfl
  have fx:=Ff px h0 h1;have prx:=oW px;have prw:=oW pw;rw[tD pw h0 h1 hf x px t]
  cases hx:j7 x k with
  | true=>
   rw[hx]at fx;rw[Fo hx,ih _ pe t,er,ew,Qd prx k0 k1 fx _ (jX prw k0 k1) t,Fo<|by rw[uE prw k0 k1,fw];rfl,Fw.mw k0<|by rw[cF];lia]
  | false=>
   rw[hx]at fx;have fx:j7 x.reverse (n-k)=true:=fx;rw[Ie hx,ih _ pe t,ih _ px<|t-1,er,ew,tD prx k0 k1 fx _ prw t,Ie fw,tD prx k0 k1 fx _ (jX prw k0 k1)<|t-1,Fo<|by rw[uE prw k0 k1,fw];rfl,Fw.mw k0<|by rw[cF];lia]
abbrev ov (n:Nat)(o:ae):ae:=o.map λv=>(n:Int)+1-v
def wI{n:Nat}{o:ae}(po:o.Perm<|rg n):(ov n o).Perm (rg n):=by
 refine(po.map _).trans ?_;refine .trans (.of_eq ?_)<|oW<|j_ n;unfold rg i9;refine fJ (by simp) λi h1 h2=>?_;simp at h1;simp
 lia
def PX{n:Nat}{o:ae}(po:o.Perm<|rg n):bk (ov n o)=(bk o).reverse:=by
 have tw:=jZ po;have lo:=tw.lo;have lu:=tw.lu;refine jI (jZ<|wI po) ⟨wI po,oW<|l_ po,by rw[cF,lu];unfold ov;rw[aL,lo],λp hp=>?_⟩;have hp':p<o.length:=by unfold ov at hp;rwa [aL]at hp
 have e:(ov n o)[p]=(n:Int)+1-o[p]:=cV ..;have mo:=jz.mp<|po.mem_iff.mp<|dc hp';have:=tw.ou.2 p hp';rw[e,dz (),lu,show n-1-((n:Int)+1-o[p]-1).toNat=(o[p]-1).toNat by lia];exact this
def U6{n:Nat}{w x:ae}(pw:w.Perm<|rg n)(px:x.Perm<|rg n)(t:Int):rT n (ov n x) (ov n w) t=rT n w x t:=by
 rw[<- MQ (wI px) (wI pw) t,PX px,PX pw,<- Il (l_ pw) _ (l_ px) t,MQ pw px t]
def Dy{n k:Nat}{o:ae}(lo:o.length=n)(h0:1<=k)(h1:k<n)(v:Int):Wd.ex (o++[v]) k=Wd.ex o k++[v]:=by
 have la:(o++[v]).length=n+1:=by simp[lo]
 refine bR λp=>?_;rw[Wd.kG h0 ()];by_cases hp:p<n
 ·have g:∀q,q<n->(o++[v])[q]?=o[q]?:=λq hq=>bh ();rw[bh (l₁:=Wd.ex o k)<|by rw[Wd.jt];lia,Wd.kG h0 (),g _ h1,g _ (),g _ hp]
 ·rw[aJ (),aJ (),bY (l₁:=o) (),bY (l₁:=Wd.ex o k)<|by rw[Wd.jt];lia,Wd.jt]
def Aj{n k:Nat}{o:ae}(lo:o.length=n)(h0:1<=k)(h1:k<n)(v:Int):j7 (o++[v]) k=j7 o k:=by
 unfold Su.j7;rw[aI,bh (),aI,bh (),aI,aI]
def zk(n:Nat):rg n++[(n:Int)+1]=rg (n+1):=by
 unfold rg i9;rw[show(((n+1:Nat):Int)+1-1).toNat=((n:Int)+1-1).toNat+1 by lia,List.range_succ,cj,List.map_singleton];congr 2
 lia
def wG{n:Nat}{o:ae}(po:o.Perm<|rg n):(o++[(n:Int)+1]).Perm (rg<|n+1):=by
 rw[<- zk];exact po.append_right _
def Rw{n:Nat}{w:ae}(pw:w.Perm<|rg n):∀x:ae,x.Perm (rg n)->∀t,rT (n+1) (w++[(n:Int)+1]) (x++[(n:Int)+1]) t=rT n w x t:=by
 refine qA (n:=n) (P:=λw=>∀x:ae,x.Perm (rg n)->∀t,rT (n+1) (w++[(n:Int)+1]) (x++[(n:Int)+1]) t=rT n w x t) (λx px t=>?_) (λw k pw h0 h1 hf ih x px t=>?_) _ rfl pw
 ·rw[BD n x px t,zk,BD (n+1) _ (wG px) t];show(if x++[(n:Int)+1]=rg (n+1)then d1 t else 0)=if x=rg n then d1 t else 0
  rw[<- zk];by_cases c:x=rg n
  ·rw[aK c,aK<|by rw[c]]
  ·rw[aJ c,aJ λz=>c<|List.append_cancel_right z]
 ·have lw:w.length=n:=by rw[pw.length_eq,Wd.iP]
  have lx:x.length=n:=by rw[px.length_eq,Wd.iP]
  rw[tD pw h0 h1 hf x px t,tD (wG pw) h0 () (by rw[Aj lw h0 h1];exact hf) _ (wG px) t,Dy lw h0 h1]
  cases hx:j7 x k with
  | true=>rw[Fo hx,Fo<|by rw[Aj lx h0 h1];exact hx,Dy lx h0 h1,ih _ (jX px h0 h1) t]
  | false=>rw[Ie hx,Ie<|by rw[Aj lx h0 h1];exact hx,Dy lx h0 h1,ih _ (jX px h0 h1) t,ih x px<|t-1]
end Hz
namespace Hz
open PySem L2 Bl Am
open Fw (rg xU)
open Su (j7)
open He (Fn lQ jX j_)
open Po (Pl Ok)
def UA{n:Nat}{w:ae}(pw:w.Perm<|rg n):∀x:ae,x.Perm (rg n)->∀t,rT n w x t<=((2 ^ Iv.inv w:Nat):Int):=by
 refine qA (n:=n) (P:=λw=>∀x:ae,x.Perm (rg n)->∀t,rT n w x t<=((2 ^ Iv.inv w:Nat):Int)) (λx px t=>?_) (λw k pw h0 h1 hf ih x px t=>?_) _ rfl pw
 ·rw[BD n x px t];have:(1:Int)<=((2 ^ Iv.inv (rg n):Nat):Int):=by exact_mod_cast Nat.one_le_two_pow
  show(if x=rg n then(if t=0 then(1:Int)else 0)else 0)<=_;split
  ·split<;>lia
  ·lia
 ·have lw:w.length=n:=by rw[pw.length_eq,Wd.iP]
  have hd:=Fw.oH h0 ()<|cB hf;rw[tD pw h0 h1 hf x px t,hd,pow_succ];have a1:=ih _ (jX px h0 h1) t;have a2:=ih _ px<|t-1;have a3:(0:Int)<=((2 ^ Iv.inv (Wd.ex w k):Nat):Int):=Int.natCast_nonneg _
  cases hx:j7 x k with
  | true=>rw[Fo hx];lia
  | false=>rw[Ie hx];lia
structure IsR (n:Nat)(x w:ae)(l:Pl):Prop where
 ok:Ok l
 cf:∀t,Po.cf l t=rT n w x t
def IsR.eq{n:Nat}{x w:ae}(h:IsR n x w l)(k:IsR n x w m):l=m:=Po.uniq h.ok k.ok λt=>by rw[h.cf,k.cf]
theorem DA:∀{l:Pl}{p:Int×Int},Ok l->p∈l->Po.cf l p.1=p.2
 | q::l,p,h,hp=>by
  rcases bJ.mp hp with z|z
  ·rw[z];exact h.head
  ·have lt:=(bZ.mp h.up).1 _ z;show(if q.1=p.1 then q.2 else 0)+Po.cf l p.1=p.2;rw[aJ (),dF];exact DA h.tail z
def IsR.at_{n:Nat}{x w:ae}{l:Pl}(h:IsR n x w l){p:Int×Int}(hp:p∈l):rT n w x p.1=p.2:=by rw[<- h.cf];exact DA h.ok hp
theorem Gp:∀(l:Pl) (a b:Int),l.Pairwise (λp q=>p.1<q.1)->(∀p∈l,a<=p.1/\p.1<=b)->l≠[]->(l.length:Int)<=b-a+1
 | [],_,_,_,_,h=>absurd rfl h
 | [p],a,b,_,h,_=>by have:=h p<|aN ..;show((1:Nat):Int)<=_;lia
 | p::q::l,a,b,u,h,_=>by
  have u1:=bZ.mp u;have:=Gp (q::l) (p.1+1) b u1.2 (λr hr=>⟨by have:=u1.1 r hr;lia,(h r<|aP _ hr).2⟩)<|List.cons_ne_nil _ _;have hp:=h p<|aN ..;rw[bz]
  lia
def IsR.keys{n:Nat}{x w:ae}{l:Pl}(h:IsR n x w l)(px:x.Perm<|rg n)(pw:w.Perm<|rg n){p:Int×Int}(hp:p∈l):0<=p.1/\p.1<=(Iv.inv w:Int)-Iv.inv x/\1<=p.2/\p.2<=((2 ^ Iv.inv w:Nat):Int)/\((Iv.inv w:Int)-Iv.inv x-p.1) % 2=0:=by
 have T:=sI pw;have e:=h.at_ hp;have nz:rT n w x p.1≠0:=by rw[e];exact h.ok.nz p hp
 have nn:=T.nn x px p.1;have up:=UA pw x px p.1;refine⟨?_,?_,(),by rw[<- e];exact up,T.ev x px _ nz⟩
 ·by_cases c:p.1<0
  ·exact absurd (T.lo x px _ c) nz
  ·lia
 ·by_cases c:(Iv.inv w:Int)-Iv.inv x<p.1
  ·by_cases b:Below x w
   ·exact absurd (T.up x px b _ c) nz
   ·exact absurd (T.no x px b _) nz
  ·lia
def IsR.len{n:Nat}{x w:ae}{l:Pl}(h:IsR n x w l)(px:x.Perm<|rg n)(pw:w.Perm<|rg n):l.length<=Iv.inv w+1:=by
 cases l with
 | nil=>exact cL _
 | cons p l=>
  have:=Gp (p::l) 0 _ h.ok.up (λq hq=>⟨(h.keys px pw hq).1,(h.keys px pw hq).2.1⟩) (List.cons_ne_nil _ _)
  lia
def Mm{n:Nat}{w:ae}(pw:w.Perm<|rg n):IsR n w w [(0,1)]:=by
 refine⟨⟨c_ _ _,λp hp=>by rw[bI.mp hp];decide⟩,λt=>?_⟩;rw[(sI pw).me];show(if (0:Int)=t then(1:Int)else 0)+0=if t=0 then 1 else 0
 by_cases c:t=0
 ·rw[aK c,aK c.symm];rfl
 ·rw[aJ c,aJ λz=>c z.symm];rfl
def DW{n:Nat}{x w:ae}(px:x.Perm<|rg n)(pw:w.Perm<|rg n)(h:¬Below x w):IsR n x w []:=⟨⟨List.Pairwise.nil,nofun⟩,λt=>((sI pw).no x px h t).symm⟩
def VL{n k:Nat}{x w:ae}(px:x.Perm<|rg n)(pw:w.Perm<|rg n)(h0:1<=k)(h1:k<n)(hf:j7 w k=true)(hx:j7 x k=true)(h:IsR n (Wd.ex x k) (Wd.ex w k) l):IsR n x w l:=⟨h.ok,λt=>by rw[h.cf,tD pw h0 h1 hf x px t,Fo hx]⟩
def Vi{n k:Nat}{x w:ae}(px:x.Perm<|rg n)(pw:w.Perm<|rg n)(h0:1<=k)(h1:k<n)(hf:j7 w k=true)(hx:j7 x k=false)(h:IsR n (Wd.ex x k) (Wd.ex w k) l)(h':IsR n x (Wd.ex w k) m):IsR n x w (Po.wL l<|Po.times [(1,1)] m):=⟨Po.Lx _ _,λt=>by
 rw[Su.KR,h.cf,tD pw h0 h1 hf x px t,Ie hx,<- h'.cf,Su.M0];congr 1;show Po.cf (m.map (λq=>((1:Int)+q.1,(1:Int) * q.2))++[]) t=_;rw[cN,Su.PJ,Int.one_mul]⟩
def IsR.last{n:Nat}{x w:ae}(h:IsR n x w l)(px:x.Perm<|rg n)(pw:w.Perm<|rg n)(b:Below x w):∃m,l=m++[((Iv.inv w:Int)-Iv.inv x,1)]:=by
 have T:=sI pw;have a:=T.at_ x px b;have key:∀(l:Pl) (d:Int),Ok l->(∀p∈l,p.1<=d)->Po.cf l d=1->∃m,l=m++[(d,(1:Int))]:=by
  intro l d ho hk hc
  rcases gq l with z|⟨m,p,z⟩
  ·rw[z]at hc;exact absurd hc (show ¬(0:Int)=1 by decide)
  ·rw[gr]at z;subst z;have hp:p∈m++[p]:=bA _<|bI.mpr rfl;have e:=DA ho hp;by_cases c:p.1=d
   ·refine⟨m,?_⟩;congr 1;rw[c]at e;rw[hc]at e;show[p]=_;rw[show p=(p.1,p.2)from rfl,c,<- e]
   ·exfalso;have hu:=ho.up;rw[bX]at hu;have lo:=hk p hp;have:Po.cf (m++[p]) d=0:=by
     rw[Su.Ln];have z1:∀(q:Pl),(∀r∈q,r.1<d)->Po.cf q d=0:=by
      intro q
      induction q with
      | nil=>intro _;rfl
      | cons r q ih=>
       intro hr;show(if r.1=d then r.2 else 0)+Po.cf q d=0;rw[aJ (by have:=hr r<|aN ..;lia),ih λs hs=>hr s<|aP _ hs];rfl
     rw[z1 m (λr hr=>by have:=hu.2.2 r hr p<|bI.mpr rfl;lia),z1 [p] λr hr=>by rw[bI.mp hr];lia];rfl
    lia
 exact key l _ h.ok (λp hp=>(h.keys px pw hp).2.1)<|by rw[h.cf];exact a
def IsR.bk{n:Nat}{x w:ae}(h:IsR n x w l)(px:x.Perm<|rg n)(pw:w.Perm<|rg n):IsR n (He.bk x) (He.bk w) l:=⟨h.ok,λt=>by rw[h.cf,MQ pw px]⟩
theorem IsR.ov{n:Nat}{x w:ae}(h:IsR n x w l)(px:x.Perm<|rg n)(pw:w.Perm<|rg n):IsR n (ov n w) (ov n x) l:=⟨h.ok,λt=>by rw[h.cf,U6 pw px]⟩
def IsR.rev{n:Nat}{x w:ae}(h:IsR n x w l)(px:x.Perm<|rg n)(pw:w.Perm<|rg n):IsR n w.reverse x.reverse l:=⟨h.ok,λt=>by rw[h.cf,Il pw x px]⟩
def IsR.app{n:Nat}{x w:ae}(h:IsR n x w l)(px:x.Perm<|rg n)(pw:w.Perm<|rg n):IsR (n+1) (x++[(n:Int)+1]) (w++[(n:Int)+1]) l:=⟨h.ok,λt=>by rw[h.cf,Rw pw x px]⟩
abbrev am (a:ae)(i j:Nat):Nat:=((a.drop<|i+1).take<|j-i-1).countP λm=>decide (a.getD j 0<m) && decide (m<a.getD i 0)
theorem EN(x y:Int)(hxy:x<y):∀(M:ae),(∀m∈M,m≠x/\m≠y)->M.countP (λm=>decide<|m<y)=M.countP (λm=>decide<|m<x)+M.countP (λm=>decide (x<m) && decide (m<y))/\Iv.jH M [x]=Iv.jH M [y]+M.countP (λm=>decide (x<m) && decide (m<y))
 | [],_=>⟨rfl,rfl⟩
 | m::M,h=>by
  obtain⟨e1,e2⟩:=EN x y hxy M λk hk=>h k<|aP _ hk;obtain⟨n1,n2⟩:=h m<|aN ..;rw[cP,cP,cP,Iv.mG,Iv.mG,e1,e2,cP,cP,List.countP_nil];by_cases c1:m<x
  ·dsimp[aT c1,aT<|show m<y by lia,aS<|show ¬x<m by lia,aS<|show ¬y<m by lia,gT,aZ,cE,bN];lia
  ·by_cases c2:m<y
   ·dsimp[aS c1,aT c2,aT<|show x<m by lia,aS<|show ¬y<m by lia,Bool.and_self,aZ,cE,bN];lia
   ·dsimp[aS c1,aS c2,aT<|show x<m by lia,aT<|show y<m by lia,iB,aZ,cE,bN];lia
def WG{M:ae}{x y:Int}(h:∀m∈M,m≠x/\m≠y)(hxy:x<y):Iv.inv ([y]++M++[x])=Iv.inv ([x]++M++[y])+(1+2 * M.countP (λm=>decide (x<m) && decide (m<y))):=by
 obtain⟨q1,q2⟩:=EN x y hxy M h;rw[Iv.jb,Iv.jb,Iv.jb<|[x]++M,Iv.jb [x]];have e1:Iv.jH [y] M=Iv.jH [x] M+M.countP (λm=>decide (x<m) && decide (m<y)):=by
  show M.countP _+0=M.countP _+0+_;rw[q1];lia
 have e2:Iv.jH ([y]++M) [x]=1+Iv.jH M [x]:=by
  show[x].countP _+Iv.jH M [x]=_;rw[cP,aT hxy];rfl
 have e3:Iv.jH ([x]++M) [y]=Iv.jH M [y]:=by
  show[y].countP _+Iv.jH M [y]=_;rw[cP,aS (by lia:¬y<x)];simp
 rw[e1,e2,e3,q2];show 0+Iv.inv M+_+0+_=0+Iv.inv M+_+0+_+_
 lia
def Yx{n:Nat}{a:ae}(pa:a.Perm<|rg n)(hij:i<j)(hj:j<n)(h:a.getD j 0<a.getD i 0):Iv.inv a=Iv.inv (Iv.sw a i j)+(1+2 * am a i j)/\(Iv.sw a i j).Perm (rg n)/\Below (Iv.sw a i j) a:=by
 have la:a.length=n:=by rw[pa.length_eq,Wd.iP]
 have nd:a.Nodup:=pa.nodup_iff.mpr<|kH _ _;have ge:∀k,k<n->a[k]?=some (a.getD k 0):=λk hk=>Iv.qh ();have inj:∀k l,k<n->l<n->a.getD k 0=a.getD l 0->k=l:=λk l hk hl e=>by
  have h1:=ge k hk;have h2:=ge l hl;rw[e,<- h2]at h1;exact(List.getElem?_inj () nd).mp h1
 obtain⟨P,M,R,ea,hP,hM,es⟩:=Iv.split hij (by lia:j<a.length);have lP:P.length=i:=by rw[hP,bq];lia
 have lM:(a.drop<|i+1).take (j-i-1)=M:=by
  have l0:P.length+(1+M.length+1)+R.length=n:=by
   have:=dm List.length ea;rw[la]at this;simp at this
   lia
  have ml:M.length=j-i-1:=by
   have hj1:=ge j hj;by_cases c:M.length=j-i-1
   ·exact c
   ·exfalso;have ej:a[i+1+M.length]?=some (a.getD j 0):=by
     conv=>lhs;rw[ea]
     rw[bG,bY (),lP,show i+1+M.length-i=M.length+1 by lia];show((a.getD i 0::(M++[a.getD j 0]))++R)[M.length+1]?=_;rw[gz,eO,bG,bY<|aQ _,fH];rfl
    rw[<- ge j hj]at ej;have:=(List.getElem?_inj () nd).mp ej
    lia
  have ed:a.drop (i+1)=(M++[a.getD j 0])++R:=by
   conv=>lhs;rw[ea]
   rw[bG,List.drop_append,List.drop_of_length_le (),lP,show i+1-i=1 by lia];rfl
  rw[ed,bG,List.take_append_of_le_length (),cU ()]
 have hne:∀m∈M,m≠a.getD j 0/\m≠a.getD i 0:=λm hm=>by
  obtain⟨k,k1,k2,k3⟩:=hM m hm;rw[ge k ()]at k3;have k3:=aU k3;exact⟨λz=>by have:=inj k j () hj (by rw[k3,z]);lia,λz=>by have:=inj k i () () (by rw[k3,z]);lia⟩
 have pb:(Iv.sw a i j).Perm (rg n):=(Stp.Oc hij ()).trans pa;refine⟨?_,pb,?_⟩
 ·have p:=Iv.xN M (a.getD j 0)<|a.getD i 0;have e:Iv.inv (P++([a.getD i 0]++M++[a.getD j 0])++R)=Iv.inv (P++([a.getD j 0]++M++[a.getD i 0])++R)+(1+2 * M.countP (λm=>decide (a.getD j 0<m) && decide (m<a.getD i 0))):=by
   rw[Iv.jb,Iv.jb P,Iv.jb<|P++([a.getD j 0]++M++[a.getD i 0]),Iv.jb P,WG hne h,Iv.FN P p,Iv.FD R<|p.append_left P]
   lia
  rw[<- ea,<- es]at e;unfold am;rw[lM];exact e
 ·have ls:(Iv.sw a i j).length=n:=by rw[Iv.zD,la]
  have hb:(Iv.sw a i j).getD i 0<(Iv.sw a i j).getD j 0:=by
   rw[Iv.C7 hij (),Iv.C7 hij (),aJ (),aK rfl,aK rfl];exact h
  have ss:=Stp.rY hij (show j<a.length by lia);have key:∀b:ae,b.length=n->b.getD i 0<b.getD j 0->Below b (Iv.sw b i j):=λb lb hb=>by
   unfold Iv.sw;rw[Eu.i_<|show i<b.length by lia,Eu.i_<|show j<b.length by lia]at hb ⊢;exact qB () () hij hb
  have:=key _ ls hb
  rwa [ss]at this
theorem F9:∀(l:ae),2 * Iv.inv l<=l.length * (l.length-1)
 | []=>aQ _
 | x::l=>by
  have h1:l.countP (λy=>decide<|y<x)<=l.length:=List.countP_le_length;have h2:=F9 l;show 2 * (l.countP (λy=>decide<|y<x)+Iv.inv l)<=(l.length+1) * l.length
  cases hl:l.length with
  | zero=>rw[hl]at h1 h2;lia
  | succ m=>
   rw[hl]at h1 h2;have:(m+1) * (m+1-1)+2 * (m+1)=(m+1+1) * (m+1):=by
    rw[g5,Nat.add_mul (m+1) 1<|m+1,Nat.one_mul,Nat.mul_add (m+1) m 1];lia
   lia
def wA{n:Nat}{l:ae}(p:l.Perm<|rg n)(hn:n<=7):Iv.inv l<=21:=by
 have h:=F9 l;rw[p.length_eq,Wd.iP]at h;have:n * (n-1)<=7 * 6:=Nat.mul_le_mul hn ()
 lia
def OA{l:ae}{v:Int}(h:∀x∈l,x<v):Iv.inv (l++[v])=Iv.inv l:=by
 rw[Iv.jb];have:∀l:ae,(∀x∈l,x<v)->Iv.jH l [v]=0:=by
  intro l
  induction l with
  | nil=>intro _;rfl
  | cons x l ih=>
   intro h;rw[Iv.mG,ih λy hy=>h y<|aP _ hy,cP,aS (by have:=h x<|aN ..;lia)];rfl
 rw[this l h];rfl
end Hz
namespace Am
open PySem L2 Bl
abbrev kN:Nat->Int->ae->ae
 | 0,_,ms=>ms
 | _+1,_,[]=>[]
 | x+1,d,m::ms=>(m+d)::kN x d ms
theorem uA:∀(x:Nat) (d:Int) (ms:ae),(kN x d ms).length=ms.length
 | 0,_,_=>rfl
 | _+1,_,[]=>rfl
 | x+1,d,m::ms=>dm (·+1)<|uA x d ms
theorem rO:∀(x:Nat) (d:Int) (ms:ae) (j:Nat),(kN x d ms)[j]?=(ms[j]?).map λm=>if j<x then m+d else m
 | 0,d,ms,j=>by simp[kN]
 | _+1,_,[],j=>by simp[kN]
 | x+1,d,m::ms,0=>by simp[kN]
 | x+1,d,m::ms,j+1=>by
  show(kN x d ms)[j]?=_;rw[rO x d ms j];simp
theorem wC:∀(x:Nat) (d:Int) (ms:ae) (m:Int),ms[x]?=some m->(kN x d ms).set x (m+d)=kN (x+1) d ms
 | 0,d,[],m,h=>by simp at h
 | 0,d,k::ms,m,h=>by simp at h;subst h;rfl
 | x+1,d,[],m,h=>by simp at h
 | x+1,d,k::ms,m,h=>by
  show(k+d)::(kN x d ms).set x (m+d)=(k+d)::kN (x+1) d ms;rw[wC x d ms m<|by simpa using h]
abbrev pW (n:Nat)(xs ys:ae)(t:Nat):ae:=(List.range n).map λ(j:Nat)=>cnt (xs.take t) ((j:Int)+1)-cnt (ys.take t) ((j:Int)+1)
def mP{n:Nat}:(pW n xs ys t).length=n:=by simp[pW]
def pL{n:Nat}{xs ys:ae}{j:Nat}(h:j<n):(pW n xs ys t)[j]?=some (cnt (xs.take t) ((j:Int)+1)-cnt (ys.take t) ((j:Int)+1)):=by
 unfold pW;rw[a_,cQ h];rfl
def NV{n:Nat}:pW n xs ys 0=List.replicate n 0:=by
 unfold pW;refine bR λj=>?_;rw[a_,fU];by_cases hj:j<n
 ·rw[cQ hj,aK hj];simp[cnt]
 ·rw[bC<|by simpa using hj,aJ hj];rfl
def DO{n:Nat}{xs ys:ae}{t:Nat}(hx:t<xs.length)(hy:t<ys.length):kN ys[t].toNat (-1) (kN xs[t].toNat 1 (pW n xs ys t))=pW n xs ys (t+1):=by
 refine bR λj=>?_;rw[rO,rO];by_cases hj:j<n
 ·rw[pL hj,pL hj,jy hx,jy hy,dO,dO];congr 1;have e1:(j<xs[t].toNat)=((j:Int)+1<=xs[t]):=by apply propext;lia
  have e2:(j<ys[t].toNat)=((j:Int)+1<=ys[t]):=by apply propext;lia
  dsimp[e1,e2];split<;>split<;>lia
 ·rw[bC<|by rw[mP];lia,bC<|by rw[mP];lia];rfl
theorem xC:∀{ns:ae},ns≠[]->∃m,maxOf ns=some m
 | [],h=>absurd rfl h
 | [x],_=>⟨x,rfl⟩
 | x::y::ys,_=>by
  obtain⟨m,e⟩:=xC (ns:=y::ys) (by simp);exact⟨if m>x then m else x,by show(maxOf (y::ys)).map _=_;rw[e];rfl⟩
def JH{n:Nat}{ns:ae}(h:iH S n=some (ns.map .int))(h0:ns≠[]):∃m,Jc (.ref n) S=.ok (.int m) S/\m∈ns/\∀a∈ns,a<=m:=by
 obtain⟨m,e⟩:=xC h0;refine⟨m,?_,wj e⟩;show opt (iH S n) _=_;rw[h,jK,ints_map,jK,e,jK]
def P0{S:iI}{n:Nat}{x:A}{k:Nat}(h:iH S n=some [x])(hk:k<=16777216):uz (.ref n) (.int k) S=.ok (.ref S.length) (S++[.lst<|List.replicate k x]):=by
 show opt (iH S n) _=_;rw[h,jK];have e:(List.replicate k [x]).flatten=List.replicate k x:=by
  induction k with
  | zero=>rfl
  | succ k ih=>rw[cX,dM,ih ()];rfl
 rw[j4 ⟨(),(),by rw[cR,eg];simpa using hk⟩,eg,e]
def wY{xs:ae}{n:Int}(h:xs.Perm<|i9 1<|n+1)(hn:0<=n):(xs.length:Int)=n:=by
 rw[h.length_eq,j5];lia
def uf{xs:ae}{n x:Int}(h:xs.Perm<|i9 1<|n+1)(hx:x∈xs):1<=x/\x<=n:=by
 have:=jz.mp (h.mem_iff.mp hx)
 lia
end Am
namespace K36
open PySem L2 Am
abbrev yV (S:iI)(b:Nat):Prop:=∃g st:Int,iH S b=some [.int g,.int st]/\0<=g/\0<=st/\st<4294967296
def yV.kp{c:Nat->Prop}(h:yV S b)(k:Kp c S S')(hb:¬c b):yV S' b:=by
 obtain⟨g,st,e,q⟩:=h;exact⟨g,st,k.lst b _ hb e,q⟩
def yV.lt{S:iI}(h:yV S b):b<S.length:=by obtain⟨_,_,e,_⟩:=h;exact qZ e
def NP{S:iI}{ns:ae}{k:Int}(h0:0<=k)(h1:k<=100):∃S',pO [.frz<|ns.map .int,.int k] S=.ok (.ref S.length) S'/\yV S' S.length/\oq S S':=by
 have e3:NF (.int 10) (.int 18)=λS=>R.ok (.int 1000000000000000000) S:=by
  funext S;exact j4 ⟨by decide,by decide,by decide⟩
 have m1:∀x:Int,x_ (.int x) (.int 2147483647)=λS=>R.ok (.int<|x % 2147483647) S:=λx=>by funext S;exact zd ⋯
 have m3:∀x:Int,uz (.int 7919) (.int x)=λS=>R.ok (.int<|7919 * x) S:=λx=>by funext S;exact FT ⋯ ⋯
 have s0:∀x:Int,0<=x % 2147483647:=λx=>gO _ ⋯;have s1:∀x:Int,x % 2147483647<4294967296:=λx=>by have:=fR x (show(0:Int)<2147483647 by decide);lia
 have go:∀cell:Int,∃S',((RS.seq (.nx [A.frz<|ns.map .int,.int k,.int cell,.unb] S) (je (jn (eC<|.int 0)<|jB 3)
  (je (tR (mX<|iJ V0 (iD 2)<|iJ NF (eC<|.int 10)<|eC<|.int 18) (jn (iD 2)<|jB 3)<|mK)
  (jG<|sW<|iE (iD 3)<|iE (iJ x_ (iJ jq (iJ jq (iD 2)<|iJ uz (eC<|.int 7919)<|iD 1)<|eC<|.int 13)<|eC<|.int 2147483647)<|iQ)))).end=.ok (.ref S.length) S')/\yV S' S.length/\oq S S':=by
  intro cell;by_cases hc:1000000000000000000<=cell
  ·dsimp[jk,bools,e3,m1,m3,aT hc];exact⟨_,rfl,⟨_,_,jj,(),s0 _,s1 _⟩,Kp.refl.lay⟩
  ·dsimp[jk,bools,e3,m1,m3,aS hc];exact⟨_,rfl,⟨_,_,jj,fD 0,s0 _,s1 _⟩,Kp.refl.lay⟩
 unfold pO uX uP;dsimp[jk,bools,jF,Nat.reduceAdd,Nat.reduceSub,aL];by_cases hk:k<(ns.length:Int)
 ·have hn:k.toNat<ns.length:=()
  have ha:nV (ns.map A.int) k=some (.int ns[k.toNat]):=tX (k:=k.toNat) ()<|aG hn;rw[aT hk];dsimp[jk,bools,ha];have:=go ns[k.toNat];simpa only [jk,bools]using this
 ·rw[aS hk];dsimp[jk,bools];have:=go 0;simpa only [jk,bools]using this
def digit{m:Int}(h:yV S b)(h1:1<=m)(h2:m<1073741824):∃d S',iY [.ref b,.int m] S=.ok (.int d) S'/\0<=d/\d<m/\yV S' b/\Kp (·=b) S S':=by
 obtain⟨g,st,hl,hg,hs,hs2⟩:=h;have hb:=qZ hl;have i0:yx 2 0=some 0:=uN rfl ⋯;have i1:yx 2 1=some 1:=uN rfl ⋯;have fin:∀d g' st':Int,0<=d->d<m->0<=g'->0<=st'->st'<4294967296->iY [.ref b,.int m] S=.ok (.int d) (S.set b<|.lst [.int g',.int st'])->∃d S',iY [.ref b,.int m] S=.ok (.int d) S'/\0<=d/\d<m/\yV S' b/\Kp (·=b) S S':=
  λd g' st' a1 a2 a3 a4 a5 e=>⟨d,_,e,a1,a2,⟨g',st',nh hb,a3,a4,a5⟩,Kp.refl.set<|.inl rfl⟩
 by_cases hg0:0<g
 ·refine fin (g % m) (g / m) st (gO _ ()) (fR _ ()) (Int.ediv_nonneg hg ()) hs hs2 ?_;unfold iY oB oG;rw[vq];simp[hl,Gx,Pu,hg0,zd<|show 0<m by lia,Mn (show 0<m by lia) h2,i0]
 ·have e1:0<=(st * 48271+11) % 2147483647:=gO _ ⋯;have e2:(st * 48271+11) % 2147483647<2147483647:=fR _ ⋯;have e3:0<=(st * 48271+11) % 2147483647 / 8:=()
  refine fin ((st * 48271+11) % 2147483647 / 8 * 69621 % 2147483629 % m) g ((st * 48271+11) % 2147483647) (gO _ ()) (fR _ ()) hg e1 () ?_;unfold iY oB oG;rw[vq];simp[hl,Gx,Pu,hg0,i1,FT (show -18446744073709551616<st by lia) (),zd<|show(0:Int)<2147483647 by decide,nh hb,Mn (show(0:Int)<8 by decide) ⋯,FT (show -18446744073709551616<(st * 48271+11) % 2147483647 / 8 by lia) (),zd<|show(0:Int)<2147483629 by decide,zd<|show 0<m by lia]
open Po (Pl Ok Bd)
def K7{S:iI}{d:Nat}{D:Pl}(hd:jR S d=some (Po.iv D))(hl:D.length<=16777216):∃S',jx [.ref d] S=.ok (.ref<|S.length+1) S'/\iH S' (S.length+1)=some (Po.pl<|Po.FU D)/\oq S S':=by
 obtain⟨S',e,h1,h2⟩:=RN hd hl;refine⟨S',?_,h1,h2⟩;unfold jx m8 m_;dsimp[jk,bools,jF,Nat.reduceAdd,Nat.reduceSub];rw[show lZ [none,some 0] _ _ _ _ _ _=_ from e];rfl
def Oj{S:iI}{n:Nat}{a b:Pl}(hn:iH S n=some (Po.pl a))(hm:iH S m=some (Po.pl b))(ha:Ok a)(hl:a.length+b.length<16777216) :
  ∃(L:Nat) (S':iI),xE [.ref n,.ref m] S=.ok (.ref L) S'/\iH S' L=some (Po.pl<|Po.wL a b)/\S.length<=L/\oq S S':=by
 have hd:jR (S++[.o5<|Po.iv a]) S.length=some (Po.iv a):=MA;obtain⟨y3,y4,T,e,hD,kp⟩:=Ou (S:=S++[.o5<|Po.iv a]) (S1:=S++[.o5<|Po.iv a]) (x0:=.ref n) (x1:=.ref m) (x3:=.unb) (x4:=.unb) (src:=tQ) (l:=b) (show tQ _ _=_ from uO (by dsimp[jk,bools])<|rQ hm) (rQ hm) hd hl;have ln:=Po.pX b a;obtain⟨S',e2,h1,h2⟩:=K7 hD ();have k1:oq S T:=(Kp.refl.lay (o:=.o5<|Po.iv a)).old kp λq hq _ z=>()
 refine⟨T.length+1,S',?_,by rw[h1,<- Po.Pk ha];rfl,by have:=k1.len;lia,k1.trans h2⟩;unfold xE Du CO;dsimp[jk,bools,jF,Nat.reduceAdd,Nat.reduceSub,Hu,hn,Po.Qv,Po.NK,Po.O4 ha];rw[show mE tQ _ B7 _ _=_ from e];dsimp[jk,bools,e2]
def Hx(f:Int×Int->A)(hf:∀p τ S,T4 (f p) τ S=T4 (Po.pA p) τ S){S:iI}{n:Nat}{a b:Pl}(hn:iH S n=some (a.map f))(hm:iH S m=some (Po.pl b))(hl:a.length * b.length<16777216)(ha:∀p∈a,p.2.natAbs<big)(hb:∀p∈b,p.2.natAbs<big) :
  ∃(L:Nat) (S':iI),rG [.ref n,.ref m] S=.ok (.ref L) S'/\iH S' L=some (Po.pl<|Po.times a b)/\S.length<=L/\oq S S':=by
 have hd:jR (S++[.o5 []]) S.length=some []:=MA;obtain⟨y3,y4,y5,y6,T,e,hD,kp⟩:=Dt f hf (S:=S++[.o5 []]) (x3:=.unb) (x4:=.unb) (x5:=.unb) (x6:=.unb) (rQ hn) (rQ hm) hd hl ha hb;have ln:=Po.pX (Po.G3 a b) [];rw[Po.zx,cg,eB]at ln;obtain⟨S',e2,h1,h2⟩:=K7 hD ();have k1:oq S T:=(Kp.refl.lay (o:=.o5 [])).old kp λq hq _ z=>()
 refine⟨T.length+1,S',?_,h1,by have:=k1.len;lia,k1.trans h2⟩;unfold rG Ah zq;dsimp[jk,bools,jF,Nat.reduceAdd,Nat.reduceSub,HC];rw[show mE ze _ yU _ _=_ from e];dsimp[jk,bools,e2]
def IE{S:iI}{n:Nat}{a b:Pl}(hn:iH S n=some (Po.pl a))(hm:iH S m=some (Po.pl b))(hl:a.length * b.length<16777216)(ha:∀p∈a,p.2.natAbs<big)(hb:∀p∈b,p.2.natAbs<big) :
  ∃(L:Nat) (S':iI),rG [.ref n,.ref m] S=.ok (.ref L) S'/\iH S' L=some (Po.pl<|Po.times a b)/\S.length<=L/\oq S S':=Hx Po.pA (λ_ _ _=>rfl) hn hm hl ha hb
def Tj{l:ae}{k:Nat}{i:Int}(h:i=k)(hk:k<l.length):nV (l.map A.int) i=some (.int<|l.getD k 0):=tX h<|by rw[aI,aG hk];rfl
def Oe{l:ae}{k:Nat}:((l.map A.int).set (k-1)<|.int<|l.getD k 0).set k (.int<|l.getD (k-1) 0)=(Wd.ex l k).map A.int:=by
 unfold Wd.ex;rw[gf,gf]
def Ut{f g:A->A->iI->R A}{ca cb cc:Ex}{a c:A}(h1:ca τ S=.ok a S)(h2:cb τ S=.ok b S)(h3:f a b S=.ok (.bl true) S)(h4:cc τ S=.ok c S):II f g ca cb cc τ S=g b c S:=by
 unfold II;rw[h1,R.kX,h2,R.kX,h3,R.kX];unfold X6;show(cc τ S).bind _=_;rw[h4];rfl
def Ww{f g:A->A->iI->R A}{ca cb cc:Ex}{a:A}(h1:ca τ S=.ok a S)(h2:cb τ S=.ok b S)(h3:f a b S=.ok (.bl false) S):II f g ca cb cc τ S=.ok (.bl false) S:=by
 unfold II;rw[h1,R.kX,h2,R.kX,h3,R.kX];rfl
def SN{i:Int}:nK [.int i] S=.ok (.bl true) S:=by
 unfold nK s_ sq;dsimp[jk,bools,jF,Nat.reduceAdd,Nat.reduceSub,show HF .int "int" = some true from rfl,show HF .int "bool" = some false from rfl,dJ]
def Xj{n k:Int}(h1:1<=k)(h2:k<n):kO [.int n,.int k] S=.ok (.bl true) S:=by
 unfold kO oN pF;have c:II Sy Au (eC<|.int 1) (iD 1) (iD 0) [.int n,.int k] S=.ok (.bl true) S:=by
  rw[Ut (a:=.int 1) (b:=.int k) (c:=.int n) rfl rfl (by dsimp[jk,aT h1]) rfl];dsimp[jk,aT h2]
 dsimp[jk,bools,jF,Nat.reduceAdd,Nat.reduceSub,SN,c]
def FO{xs:ae}{k:Nat}(h1:1<=k)(h2:k<xs.length)(hl:xs.length<=1000):∃S',lN [.tup<|xs.map .int,.int k] S=.ok (.tup<|(Wd.ex xs k).map .int) S'/\oq S S':=by
 have e1:=Xj (S:=S) (n:=(xs.length:Int)) (k:=(k:Int)) () ();have a1:nV (xs.map A.int) (k:Int)=some (.int<|xs.getD k 0):=Tj rfl ();have a2:nV (xs.map A.int) ((k:Int)-1)=some (.int<|xs.getD (k-1) 0):=Tj (k:=k-1) () ();have x1:yx xs.length ((k:Int)-1)=some (k-1):=uN () ();have x2:yx xs.length (k:Int)=some k:=uN rfl ();have hL:iH (S++[O.lst<|xs.map .int]) S.length=some (xs.map .int):=jj;have lS:∀ys,iH ((S++[O.lst<|xs.map .int]).set S.length<|.lst ys) S.length=some ys:=λys=>nh (by simp);have e2:jE [.tup<|xs.map .int,.int k,.int<|(k:Int)+1] S=.ok (.tup<|(Wd.ex xs k).map .int) (((S++[O.lst<|xs.map .int]).set S.length<|.lst<|(xs.map A.int).set (k-1)<|.int<|xs.getD k 0).set S.length<|.lst<|(Wd.ex xs k).map .int):=by
  unfold jE lA lH;dsimp[jk,bools,jF,Nat.reduceAdd,Nat.reduceSub,hL,show(k:Int)+1-1=k by lia,a1,a2,j4<|show 2<=sizeLine by decide,j4<|show 2=2 from rfl,aL,x1,lS,bO,x2,Oe];rw[nh<|by simp];dsimp[jk,bools]
 unfold lN qu qD;dsimp[jk,mY,bools,jF,Nat.reduceAdd,Nat.reduceSub,aL,e1,b_,e2];exact⟨_,rfl,((Kp.refl.lay).set<|.inr<|aQ _).set<|.inr<|aQ _⟩
def Wa{xs:ae}{i:Int}(h1:0<=i)(h2:i<xs.length):nV (xs.map A.int) i=some (.int<|xs.getD i.toNat 0):=Tj (k:=i.toNat) () ()
abbrev fl (xs:ae)(n:Nat):ae:=(i9 1 (n:Int)).filter λk=>decide<|xs.getD (k-1).toNat 0>xs.getD k.toNat 0
def BW{S:iI}{n:Nat}{xs:ae}(hlen:xs.length=n)(h2:n<=20):rq [.tup<|xs.map .int] S=.ok (.ref S.length) (S++[.lst<|(fl xs n).map .int]):=by
 have ec:=K8 (lo:=1) (hi:=(n:Int)) (cap:=[some 0]) (src:=pN (eC<|.int 1)<|jf (f1 mz)<|iE (iD 0)<|iQ) (t:=mX<|iJ Dl (iJ pP (iD 1)<|iJ aSub (iD 0)<|eC<|.int 1)<|iJ pP (iD 1)<|iD 0) (e:=iD 0) (τ:=[.tup<|xs.map .int]) (S:=S) (S1:=S)
  (tH (S1:=S) (by dsimp[jk,bools]) (by dsimp[jk,bools,aL,hlen]) (kL () ())<|kL () ())
  (λk=>decide<|xs.getD (k-1).toNat 0>xs.getD k.toNat 0) (λk=>.int k) (λk h1 h2=>by
   have x1:nV (xs.map A.int) (k-1)=some (.int<|xs.getD (k-1).toNat 0):=Wa () ();have x2:nV (xs.map A.int) k=some (.int<|xs.getD k.toNat 0):=Wa () ();dsimp[jk,bools,x1,x2]) (λk _ _ _=>by dsimp[jk,bools]) ()
 unfold rq z8 zh;dsimp[jk,bools,jF,Nat.reduceAdd,Nat.reduceSub,ec];rfl
theorem Ei{t:Int}:∀(p:ae),Vj S (.int t) (p.map .int)=some (decide<|t∈p)
 | []=>rfl
 | x::p=>by
  show(tV S 12 (.int x)<|.int t).bind (λa=>(Vj S (.int t)<|p.map .int).map λb=>a || b)=_;rw[Ei p];show some ((x == t) || decide (t∈p))=_;by_cases c:x=t
  ·subst c;rw[bK,aT (show x∈x::p from aN ..)];rfl
  ·rw[cW.mpr c];congr 1;rw[gB,fK];constructor
   ·exact λz=>aP _ z
   ·intro z
    rcases bJ.mp z with z|z
    ·exact absurd z.symm c
    ·exact z
abbrev prs (n:Int):ad:=(i9 1 n).flatMap λi=>(i9 (i+1)<|n+1).map λj=>.tup [.int i,.int j]
def Om{n:Int}{x:A}:x∈prs n ↔ ∃i j:Int,1<=i/\i<j/\j<=n/\x=.tup [.int i,.int j]:=by
 unfold prs;rw[ig];constructor
 ·rintro⟨i,hi,hx⟩;obtain⟨j,hj,rfl⟩:=bV.mp hx;rw[jz]at hi hj;exact⟨i,j,(),(),(),rfl⟩
 ·rintro⟨i,j,h1,h2,h3,rfl⟩;exact⟨i,jz.mpr ⟨h1,()⟩,bV.mpr ⟨j,jz.mpr ⟨(),()⟩,rfl⟩⟩
theorem B_{α β:Type}{f:α->List β}{B:Nat}:∀(l:List α),(∀x∈l,(f x).length<=B)->(l.flatMap f).length<=l.length * B
 | [],_=>cL _
 | x::l,h=>by
  rw[fq,aX,bz,Nat.add_mul,Nat.one_mul];have:=B_ l λy hy=>h y<|aP _ hy;have:=h x (aN ..)
  lia
def FW{n:Int}(h0:0<=n)(h1:n<=1000):(prs n).length<=16777216:=by
 have:=B_ (B:=1000) (f:=λi=>(i9 (i+1)<|n+1).map λj=>A.tup [.int i,.int j]) (i9 1 n) λx hx=>by
  rw[jz]at hx;rw[aL,j5];lia
 rw[j5]at this;have h2:(n-1).toNat * 1000<=1000 * 1000:=gG _ ();unfold prs
 lia
theorem QG{i n lo hi:Int}:∀(k t:Nat) (x1:A),k+t=(hi-lo).toNat->∃x1',pJ (j0 lo hi) (jB 1) zQ (mD<|iE (iD 0)<|iE (iD 1)<|iQ) k t [.int i,x1,.int n] S=.ok ((List.range' t k).map λq:Nat=>A.tup [.int i,.int<|lo+q],[.int i,x1',.int n]) S
 | 0,t,x1,_=>⟨x1,rfl⟩
 | k+1,t,x1,h=>by
  obtain⟨x1',e⟩:=QG (S:=S) (i:=i) (n:=n) (lo:=lo) (hi:=hi) k (t+1) (.int<|lo+t) ();refine⟨x1',?_⟩;unfold pJ;have hg:(j0 lo hi).get t S=some (.int<|lo+t):=aK ();dsimp[jk,bools,hg,zm<|show([_,_]:ad).length<=16777216 by simp,e,fG,bU]
theorem Mf{n:Int}(h0:0<=n)(h1:n<=1000):∀(k t:Nat) (x0 x1:A),k+t=(n-1).toNat->nk (j0 1 n) (jB 0) zQ (pN (iJ jq (iD 0)<|eC<|.int 1)<|iJ jq (iD 2)<|eC<|.int 1) (jB 1) zQ (mD<|iE (iD 0)<|iE (iD 1)<|iQ) k t [x0,x1,.int n] S=.ok ((List.range' t k).flatMap λq:Nat=>(i9 (1+q+1)<|n+1).map λj=>A.tup [.int<|1+q,.int j]) S
 | 0,t,x0,x1,_=>rfl
 | k+1,t,x0,x1,h=>by
  have hg:(j0 1 n).get t S=some (.int<|1+t):=aK ();obtain⟨x1',e⟩:=QG (S:=S) (i:=1+t) (n:=n) (lo:=1+t+1) (hi:=n+1) (j0 (1+t+1)<|n+1).k 0 x1 rfl;have hr:((List.range' 0 (j0 (1+(t:Int)+1)<|n+1).k).map λq:Nat=>A.tup [.int<|1+t,.int<|1+t+1+q])=(i9 (1+t+1)<|n+1).map λj=>A.tup [.int<|1+t,.int j]:=by
   unfold i9;rw[cH,dI];rfl
  rw[hr]at e;have e2:=Mf (S:=S) h0 h1 k (t+1) (.int<|1+t) x1' ();have hs:pN (iJ jq (iD 0)<|eC<|.int 1) (iJ jq (iD 2)<|eC<|.int 1) [.int<|1+t,x1,.int n] S=.ok (j0 (1+t+1)<|n+1) S:=
   tH (S1:=S) (by dsimp[jk,bools]) (by dsimp[jk,bools]) (kL () ()) (kL () ())
  unfold nk;dsimp[jk,bools,hg,hs,e,e2,fG,fq]
def IP{S:iI}{n:Int}(h0:0<=n)(h1:n<=1000):j6 [.int n] S=.ok (.ref S.length) (S++[.lst<|prs n]):=by
 have hs:pN (eC<|.int 1) (iD 0) [.int n] S=.ok (j0 1 n) S:=tH (S1:=S) (by dsimp[jk,bools]) (by dsimp[jk,bools]) (kL () ())<|kL () ();have e:=Mf (S:=S) h0 h1 (j0 1 n).k 0 .unb .unb rfl;have hp:((List.range' 0 (j0 1 n).k).flatMap λq:Nat=>(i9 (1+q+1)<|n+1).map λj=>A.tup [.int<|1+q,.int j])=prs n:=by
  unfold prs i9;rw[List.flatMap_map,<- dI];rfl
 rw[hp]at e;unfold j6 pI oM DH;dsimp[jk,bools,jF,Nat.reduceAdd,Nat.reduceSub,hs,e,kg<|FW h0 h1]
abbrev wg (xs:ae)(q:A):Bool:=match q with
 | .tup [.int i,.int j]=>decide (xs.getD (i-1).toNat 0>xs.getD (j-1).toNat 0)
 | _=>false
def Ux{S:iI}{n:Nat}{xs:ae}(hlen:xs.length=n)(h2:n<=20) :
  ∃(P:Nat) (S':iI),kW [.tup<|xs.map .int] S=.ok (.ref P) S'/\iH S' P=some ((prs n).filter<|wg xs)/\oq S S'/\S.length<=P:=by
 have eq:=IP (S:=S) (n:=(n:Int)) () ();have hL:iH (S++[O.lst<|prs n]) S.length=some (prs n):=jj;obtain⟨S',g1,g2⟩:=vA (s:=nI S.length (prs n).length) (g:=AM 2<|rV (jB 0)<|rV (jB 1)<|Bx) (t:=mX<|iJ Dl (iJ pP (iD 2)<|iJ aSub (iD 0)<|eC<|.int 1)<|iJ pP (iD 2)<|iJ aSub (iD 1)<|eC<|.int 1) (e:=mD<|iE (iD 0)<|iE (iD 1)<|iQ)
  (P:=λS1=>S1=S++[O.lst<|prs n]) (T:=λτ'=>∃y z,τ'=[y,z,.tup<|xs.map .int])
  (λi=>(prs n).getD i .unb) (λi=>wg xs<|(prs n).getD i .unb) (λi=>(prs n).getD i .unb)
  (λi S1 hi k=>by
   have hi:i<(prs n).length:=hi;show(iH S1 S.length).bind _=_;rw[k,hL,gA,aI,aG hi];rfl)
  (λS1 k=>by
   show(match iH S1 S.length with
    | some ys=>decide (ys.length<=(prs n).length)
    | none=>false)=true
   rw[k,hL];simp)
  (λi τ' S1 hi ⟨y,z,hy⟩ k=>by
   have hi:i<(prs n).length:=hi;subst hy k;have hm:(prs n).getD i .unb∈prs n:=by rw[aI,aG hi];exact dc hi
   obtain⟨a,c,q1,q2,q3,eac⟩:=Om.mp hm;rw[eac];have x1:nV (xs.map A.int) (a-1)=some (.int<|xs.getD (a-1).toNat 0):=Wa () ();have x2:nV (xs.map A.int) (c-1)=some (.int<|xs.getD (c-1).toNat 0):=Wa () ();refine⟨[.int a,.int c,.tup<|xs.map .int],S++[O.lst<|prs n],S++[O.lst<|prs n],by dsimp[jk,bools,j4<|show([_,_]:ad).length=2 from rfl],by dsimp[jk,bools,x1,x2];rfl,⟨_,_,rfl⟩,λ_=>rfl,λ_=>⟨_,by dsimp[jk,bools,zm<|show([_,_]:ad).length<=16777216 by simp],rfl⟩⟩)
  (prs n).length 0 (mC [none,none,some 0] [.tup<|xs.map .int]) (S++[O.lst<|prs n]) rfl ⟨_,_,rfl⟩ rfl
 subst g2;have ef:=mH (prs n) (wg xs) (λq=>q) .unb;rw[dI,List.map_id']at ef;rw[ef]at g1;have ll:=FW (n:=(n:Int)) () ();refine⟨_,(S++[O.lst<|prs n])++[.lst<|(prs n).filter<|wg xs],?_,jj,Kp.refl.lay.lay,by rw[aX];lia⟩;have ec:lZ [none,none,some 0] (oY<|eFn j6<|iE (jf (f1 mz)<|iE (iD 0)<|iQ)<|iQ) (AM 2<|rV (jB 0)<|rV (jB 1)<|Bx) (mX<|iJ Dl (iJ pP (iD 2)<|iJ aSub (iD 0)<|eC<|.int 1)<|iJ pP (iD 2)<|iJ aSub (iD 1)<|eC<|.int 1) (mD<|iE (iD 0)<|iE (iD 1)<|iQ) [.tup<|xs.map .int] S=.ok (.ref (S++[O.lst<|prs n]).length) ((S++[O.lst<|prs n])++[.lst<|(prs n).filter<|wg xs]):=by
  unfold lZ;rw[uO (S1:=S++[O.lst<|prs n]) (by dsimp[jk,bools,aL,hlen,eq]) hL,R.kX];show R.lU (nN (nI S.length (prs n).length) _ _ _ (prs n).length 0 _ _) _=_;rw[g1,R.mJ,kg<|bP (gp _ _) ll]
 unfold kW pD oR;dsimp[jk,bools,jF,Nat.reduceAdd,Nat.reduceSub,ec]
def QW{n:Nat}{xs:ae}(hlen:xs.length=n)(h2:n<=20):∃S',kP [.tup<|xs.map .int] S=.ok (.int (((prs n).filter<|wg xs).length:Int)) S'/\oq S S':=by
 obtain⟨P,S1,e1,g1,k1,_⟩:=Ux (S:=S) hlen h2;unfold kP xH xj;dsimp[jk,bools,jF,Nat.reduceAdd,Nat.reduceSub,e1,g1];exact⟨_,rfl,k1⟩
abbrev BK (i hi:Int):ad:=(i9 (i+1) hi).map λj=>.tup [.int i,.int j]
def IA(n:Nat):prs n=(i9 1 (n:Int)).flatMap λi=>BK i ((n:Int)+1):=rfl
open Bl
def JU{xs:ae}{i:Nat}(h:i<=xs.length):(i9 ((i:Int)+1)<|(xs.length:Int)+1).map (λj=>xs.getD (j-1).toNat 0)=xs.drop i:=by
 apply bR;intro p;rw[a_,dY];by_cases c:i+p<xs.length
 ·have:(i9 ((i:Int)+1)<|(xs.length:Int)+1)[p]?=some ((i:Int)+1+p):=by
   unfold i9;rw[a_,cQ ()];rfl
  rw[this];show some (xs.getD ((i:Int)+1+p-1).toNat 0)=_;rw[show((i:Int)+1+p-1).toNat=i+p by lia,<- Iv.qh c]
 ·rw[bC<|by rw[j5];lia,bC ()];rfl
def Nz{xs:ae}{i:Nat}(h:i<xs.length):((BK ((i:Int)+1)<|(xs.length:Int)+1).filter<|wg xs).length=(xs.drop<|i+1).countP λy=>decide (y<xs.getD i 0):=by
 rw[<- JU (xs:=xs) (i:=i+1) (),List.countP_map,<- gP];unfold BK;rw[List.countP_map,show(((i+1:Nat):Int))=(i:Int)+1 by lia];refine List.countP_congr λj _=>?_;show wg xs (.tup [.int<|(i:Int)+1,.int j])=true ↔ decide (xs.getD (j-1).toNat 0<xs.getD i 0)=true;show decide (xs.getD ((i:Int)+1-1).toNat 0>xs.getD (j-1).toNat 0)=true ↔ _;rw[show((i:Int)+1-1).toNat=i by lia]
theorem Bb{xs:ae}:∀(k i:Nat),i+k=xs.length->(((List.range' i k).flatMap λq:Nat=>BK ((q:Int)+1)<|(xs.length:Int)+1).filter<|wg xs).length=Iv.inv (xs.drop i)
 | 0,i,h=>by rw[List.drop_of_length_le ()];rfl
 | k+1,i,h=>by
  have hi:i<xs.length:=()
  rw[fG,fq,List.filter_append,aX,Nz hi,Bb k (i+1) ()];have:xs.drop i=xs.getD i 0::xs.drop (i+1):=by
   rw[bW hi];congr 1;have:=Iv.qh hi;rw[aG hi]at this;exact aU this
  rw[this];rfl
def TN{xs:ae}{n:Nat}(hl:xs.length=n)(h1:1<=n):((prs n).filter<|wg xs).length=Iv.inv xs:=by
 have h:=Bb (xs:=xs) n 0 ();rw[iz]at h;rw[<- h,IA,hl];have e:(i9 1 (n:Int)).flatMap (λi=>BK i<|(n:Int)+1)=(List.range' 0 n).flatMap λq:Nat=>BK ((q:Int)+1) ((n:Int)+1):=by
  obtain⟨m,rfl⟩:∃m,n=m+1:=⟨n-1,()⟩;rw[List.range'_concat,List.flatMap_append];have z:BK (((0+1 * m:Nat):Int)+1) (((m+1:Nat):Int)+1)=[]:=by
   unfold BK i9;rw[show(((m+1:Nat):Int)+1-((((0+1 * m:Nat):Int)+1)+1)).toNat=0 by lia];rfl
  rw[fq,z];unfold i9;rw[show(((m+1:Nat):Int)-1).toNat=m by lia,List.flatMap_map,dI];dsimp[List.flatMap_nil,cN];congr 1
  funext q
  rw[Int.add_comm]
 rw[e]
end K36
namespace K36
open PySem L2 Am
open Bl
def t7{xs ys:ae}(h:xs.length=ys.length):ku [.tup<|xs.map .int,.tup<|ys.map .int] S=.ok .non S:=by
 unfold ku qx qX;dsimp[jk,bools,jF,Nat.reduceAdd,Nat.reduceSub,aL,h,bK,b_]
def Io{L:Nat}{ms:ae}(hL:iH S L=some (ms.map .int))(hp:∃m∈ms,0<m)(hms:ms.length<=1000):∃j:Nat,ju [.ref L] S=.ok (.int<|(j:Int)+1) S/\(∃m,ms[j]?=some m/\0<m)/\∀(k:Nat) (m:Int),k<j->ms[k]?=some m->m<=0:=by
 unfold ju kE ko;dsimp[jk,bools,jF,Nat.reduceAdd,Nat.reduceSub];refine ug (λτ S'=>S'=S/\∃p:Nat,p<ms.length/\τ=[.ref L,.int<|(p:Int)+1]/\∀(k:Nat) (m:Int),k<p->ms[k]?=some m->m<=0)
  (λτ _=>match τ with
   | [_,.int i]=>(ms.length+1)-i.toNat
   | _=>0)
  (λr=>∃j:Nat,RS.end (RS.seq r _)=.ok (.int<|(j:Int)+1) S/\(∃m,ms[j]?=some m/\0<m)/\∀(k:Nat) (m:Int),k<j->ms[k]?=some m->m<=0) ?_ 1000000 _ _ ⟨rfl,0,?_,rfl,λk m hk=>absurd hk<|d_ _⟩ ?_
 ·rintro τ S' ⟨rfl,p,hpl,rfl,hall⟩;have ha:nV (ms.map A.int) ((p:Int)+1-1)=some (.int ms[p]):=tX (k:=p) ()<|aG hpl;unfold l9 l6;dsimp[jk,bools,hL,ha];by_cases h0:ms[p]<=0
  ·right;refine⟨S',by rw[aT h0],.inl ⟨_,_,rfl,⟨rfl,p+1,?_,dm (λz=>[A.ref L,A.int z]) (),λk m hk hm=>?_⟩,?_⟩⟩
   ·obtain⟨m,hm,hm0⟩:=hp;obtain⟨k,hk,e⟩:=gF.mp hm;have:¬k<=p:=λhkp=>by
     rcases lt_or_ge k p with h|h
     ·have:=hall k m h (by rw[aG hk,e])
      lia
     ·have:k=p:=()
      subst this
      lia
    lia
   ·rcases lt_or_ge k p with h|h
    ·exact hall k m h hm
    ·have:k=p:=()
     subst this;rw[aG hpl]at hm
     cases hm
     exact h0
   ·show ms.length+1-((p:Int)+1+1).toNat<ms.length+1-((p:Int)+1).toNat
    lia
  ·left;refine⟨S',by rw[aS h0],p,by dsimp[jk,bools],⟨ms[p],aG hpl,()⟩,hall⟩
 ·obtain⟨m,hm,_⟩:=hp;exact List.length_pos_of_mem hm
 ·show ms.length+1-(1:Int).toNat<1000000
  lia
def BV{f:A->A->iI->R A}{d:Int}(hf:∀(m:Int) S,f (.int m) (.int 1) S=.ok (.int<|m+d) S){src:Ic}{L:Nat}{ms:ae}{x:Int}{Post:RS->Prop}(hx0:0<=x)(hx:x<=ms.length)
  (hsrc:src [a0,a1,.ref L,a3,a4] S=.ok (j0 0 x) S) (hL:iH S L=some (ms.map .int)) (fin:∀a4' S',iH S' L=some ((kN x.toNat d ms).map .int)->Kp (·=L) S S'->Post (.nx [a0,a1,.ref L,a3,a4'] S')) :
  Post (mE src (jB 4) (wB (iD 2) (iD 4) (eC<|.int 1) f) [a0,a1,.ref L,a3,a4] S):=by
 refine rH (lo:=0) (hi:=x) hsrc (λi τ S'=>∃a4',τ=[a0,a1,.ref L,a3,a4']/\iH S' L=some ((kN i d ms).map .int)/\Kp (·=L) S S') Post ⟨a4,rfl,hL,Kp.refl⟩ ?_ ?_
 ·rintro i τ S' hi ⟨a4',rfl,hL',hk⟩;left;have hi':i<ms.length:=()
  have e1:((kN i d ms).map A.int)[((0:Int)+(i:Int)).toNat]?=some (.int ms[i]):=by
   rw[show((0:Int)+(i:Int)).toNat=i by lia,a_,rO,aG hi'];simp
  have e2:yx (kN i d ms).length (0+(i:Int))=some i:=uN () (by rw[uA];exact hi');have lL:=qZ hL';dsimp[jk,bools,hL',j4<|show(0:Int)<=0+(i:Int)by lia,e1,hf,aL,e2];refine⟨_,_,rfl,_,rfl,?_,hk.set<|.inl rfl⟩;rw[nh lL,<- wC i d ms ms[i] (aG hi'),gf]
 ·rintro τ S' ⟨a4',rfl,hL',hk⟩;exact fin a4' S' (by rw[Int.sub_zero]at hL';exact hL') hk
abbrev Qc (xs ys:ae)(i j:Nat):Prop:=cnt (ys.take i) j<cnt (xs.take i) j/\(∀i' j':Nat,i'<i->1<=j'->j'<=xs.length->cnt (xs.take i') j'<=cnt (ys.take i') j')/\∀j':Nat,1<=j'->j'<j->cnt (xs.take i) j'<=cnt (ys.take i) j'
def RU{xs ys:ae}{n:Nat}(px:xs.Perm<|i9 1<|(n:Int)+1)(py:ys.Perm<|i9 1<|(n:Int)+1)(h1:1<=n)(h2:n<=20):∃S',((zg [.tup<|xs.map .int,.tup<|ys.map .int] S=.ok .non S'/\Below xs ys) \/
  ∃i j:Nat,zg [.tup<|xs.map .int,.tup<|ys.map .int] S=.ok (.tup [.int i,.int j]) S'/\1<=i/\i<=n/\1<=j/\j<=n/\Qc xs ys i j)/\oq S S':=by
 have lx:xs.length=n:=by have:=wY px ();lia
 have ly:ys.length=n:=by have:=wY py ();lia
 unfold zg JV Lb;dsimp[jk,bools,jF,Nat.reduceAdd,Nat.reduceSub,t7 (S:=S)<|lx.trans ly.symm,aL,lx];rw[P0 (k:=n) jj ()];dsimp[jk,bools];have hlen:(S++[O.lst [.int 0]]).length=S.length+1:=by simp
 rw[hlen];refine rH (lo:=0) (hi:=(n:Int)) (S1:=S++[O.lst [.int 0]]++[O.lst<|List.replicate n<|.int 0]) ?_
  (λt τ S'=>∃a3 a4,τ=[.tup<|xs.map .int,.tup<|ys.map .int,.ref<|S.length+1,a3,a4]/\iH S' (S.length+1)=some ((pW n xs ys t).map .int)/\oq S S'/\∀i' j':Nat,i'<=t->1<=j'->j'<=n->cnt (xs.take i') j'<=cnt (ys.take i') j')
  (λr=>∃S',((RS.end (RS.seq r _)=.ok .non S'/\Below xs ys)\/∃i j:Nat,RS.end (RS.seq r _)=.ok (.tup [.int i,.int j]) S'/\1<=i/\i<=n/\1<=j/\j<=n/\Qc xs ys i j)/\oq S S') ⟨.unb,.unb,rfl,?_,Kp.refl.lay.lay,?_⟩ ?_ ?_
 ·refine pZ ?_<|kL () ();dsimp[jk,bools,aL,lx]
 ·rw[NV,List.map_replicate,<- hlen];exact jj
 ·intro i' j' hi _ _;have:i'=0:=()
  subst this;simp[cnt]
 ·rintro t τ S' ht ⟨a3,a4,rfl,hL,hk,hok⟩;have ht':t<n:=()
  have hx:t<xs.length:=()
  have hy:t<ys.length:=()
  have mx:=uf px<|dc hx;have my:=uf py<|dc hy;have ax:nV (xs.map A.int) (0+(t:Int))=some (.int xs[t]):=tX (k:=t) ()<|aG hx;have ay:nV (ys.map A.int) (0+(t:Int))=some (.int ys[t]):=tX (k:=t) ()<|aG hy;unfold EB;dsimp[jk,bools];obtain⟨a4',S2,e2,hL2,hk2⟩:=BV (f:=Ht) (d:=1) (ms:=pW n xs ys t) (x:=xs[t]) (src:=D8) (a0:=.tup<|xs.map .int) (a1:=.tup<|ys.map .int) (a3:=.int<|0+(t:Int)) (a4:=a4) (Post:=λr=>∃a4' S2,r=.nx [.tup<|xs.map .int,.tup<|ys.map .int,.ref<|S.length+1,.int<|0+(t:Int),a4'] S2/\iH S2 (S.length+1)=some ((kN xs[t].toNat 1 (pW n xs ys t)).map .int)/\Kp (·=S.length+1) S' S2) (λ_ _=>rfl) () (by rw[mP];lia)
   (pZ (by dsimp[jk,bools,ax])<|kL () ()) hL (λa4' S2 h1 h2=>⟨a4',S2,rfl,h1,h2⟩)
  obtain⟨a4'',S3,e3,hL3,hk3⟩:=BV (f:=aSub) (d:=-1) (ms:=kN xs[t].toNat 1 (pW n xs ys t)) (x:=ys[t]) (src:=GH) (a0:=.tup<|xs.map .int) (a1:=.tup<|ys.map .int) (a3:=.int<|0+(t:Int)) (a4:=a4') (Post:=λr=>∃a4'' S3,r=.nx [.tup<|xs.map .int,.tup<|ys.map .int,.ref<|S.length+1,.int<|0+(t:Int),a4''] S3/\iH S3 (S.length+1)=some ((kN ys[t].toNat (-1) (kN xs[t].toNat 1 (pW n xs ys t))).map .int)/\Kp (·=S.length+1) S2 S3) (λ_ _=>rfl) () (by rw[uA,mP];lia)
   (pZ (by dsimp[jk,bools,ay])<|kL () ()) hL2 (λa4' S2 h1 h2=>⟨a4',S2,rfl,h1,h2⟩)
  rw[DO hx hy]at hL3;have hk':oq S S3:=(hk.old hk2 λn hn _=>()).old hk3 λn hn _=>()
  obtain⟨m,em,m1,m2⟩:=JH hL3 (by intro z;have:=dm List.length z;rw[mP]at this;simp at this;lia);dsimp[show GJ=wB (iD 2) (iD 4) (eC<|.int 1) Ht from rfl,show Fq=wB (iD 2) (iD 4) (eC<|.int 1) aSub from rfl,e2,e3,jk,bools,em];by_cases hm:0<m
  ·right;rw[aT hm];obtain⟨j,ej,⟨mj,hj1,hj2⟩,hj3⟩:=Io hL3 ⟨m,m1,hm⟩ (by rw[mP];lia);dsimp[jk,bools,ej,zm<|show([_,_]:ad).length<=16777216 by simp];have hjn:j<n:=by
    have:=(aM.mp hj1).1
    rwa [mP]at this
   refine⟨_,_,rfl,S3,.inr ⟨t+1,j+1,?_,(),(),(),(),?_,?_,?_⟩,hk'⟩
   ·have e5:(0:Int)+(t:Int)+1=((t+1:Nat):Int):=()
    have e6:(j:Int)+1=((j+1:Nat):Int):=()
    rw[e5,e6]
   ·rw[pL hjn]at hj1
    cases hj1
    have:((j+1:Nat):Int)=(j:Int)+1:=()
    rw[this]
    lia
   ·intro i' j' hi' h1' h2';exact hok i' j' () h1' ()
   ·intro j' h1' h2';have:=hj3 (j'-1) _ ()<|pL ();rw[show(((j'-1:Nat):Int)+1)=(j':Int)by lia]at this
    lia
  ·left;rw[aS hm];dsimp[jk,bools];refine⟨_,_,rfl,_,_,rfl,hL3,hk',λi' j' hi' h1' h2'=>?_⟩;by_cases hi:i'<=t
   ·exact hok i' j' hi h1' h2'
   ·have:i'=t+1:=()
    subst this;have:=m2 _<|aY<|pL (n:=n) (xs:=xs) (ys:=ys) (t:=t+1) (j:=j'-1) ();rw[show(((j'-1:Nat):Int)+1)=(j':Int)by lia]at this
    lia
 ·rintro τ S' ⟨a3,a4,rfl,hL,hk,hok⟩;refine⟨S',.inl ⟨by dsimp[jk,bools],?_⟩,hk⟩;refine(HZ px py).mp λi q hi hq=>?_;have:=hok (i+1) (q+1) () () ();exact this
def MR{xs ys:ae}{n:Nat}(px:xs.Perm<|i9 1<|(n:Int)+1)(py:ys.Perm<|i9 1<|(n:Int)+1)(h1:1<=n)(h2:n<=20):∃(k:Bool) (S':iI),lB [.tup<|xs.map .int,.tup<|ys.map .int] S=.ok (.bl k) S'/\(k=true ↔ Below xs ys)/\oq S S':=by
 obtain⟨S',h|⟨i,j,e,i1,i2,j1,j2,h,_⟩,hk⟩:=RU (S:=S) px py h1 h2
 ·refine⟨true,S',?_,⟨λ_=>h.2,λ_=>rfl⟩,hk⟩;unfold lB qd qc;dsimp[jk,bools,jF,Nat.reduceAdd,Nat.reduceSub,h.1]
 ·refine⟨false,S',?_,⟨λz=>absurd z bH,λz=>?_⟩,hk⟩
  ·unfold lB qd qc;dsimp[jk,bools,jF,Nat.reduceAdd,Nat.reduceSub,e]
  ·have:=z i j
   lia
theorem xK:∀(l:ae) (j:Nat) (h:j<l.length),(l[j]::l.eraseIdx j).Perm l
 | x::l,0,_=>g4 _
 | x::l,j+1,h=>(List.Perm.swap x _ _).trans<|List.Perm.cons x<|xK l j<|gc h
def G9{ls fs:ae}{j:Nat}(h:j<ls.length):((fs++[ls[j]])++ls.eraseIdx j).Perm (fs++ls):=by
 rw[bG];refine List.Perm.append_left fs ?_
 skip
 exact xK ls j h
def KQ{d:Int}{n:Nat}(h0:0<=d)(h:d.toNat<n):seqIndex? d n=some d.toNat:=by
 unfold seqIndex?;simp
 lia
theorem uR{α β:Type}(f:α->β):∀(l:List α) (k:Nat),(l.map f).eraseIdx k=(l.eraseIdx k).map f
 | [],_=>rfl
 | _::_,0=>rfl
 | x::l,k+1=>dm (f x::·)<|uR f l k
def LX{n:Int}(h:yV S b)(h1:1<=n)(h2:n<=20):∃(xs:ae) (S':iI),lK [.ref b,.int n] S=.ok (.tup<|xs.map .int) S'/\xs.Perm (i9 1<|n+1)/\yV S' b/\Kp (·=b) S S':=by
 have hbS:b<S.length:=by obtain⟨_,_,e,_⟩:=h;exact qZ e
 unfold lK qq qR;dsimp[jk,bools,jF,Nat.reduceAdd,Nat.reduceSub,Hi<|ME (show(-1000000:Int)<=1 by decide) ⋯ (show -1000000<=n+1 by lia) () (),aX];have key:=ug (t:=pB) (c:=oU)
  (λτ S1=>∃(ls fs:ae),τ=[.ref b,.int n,.ref S.length,.ref<|S.length+1]/\iH S1 S.length=some (ls.map .int)/\iH S1 (S.length+1)=some (fs.map .int)/\(fs++ls).Perm (i9 1<|n+1)/\yV S1 b/\Kp (·=b) S S1)
  (λτ S1=>((iH S1 S.length).getD []).length)
  (λr=>∃(xs:ae) (S':iI),RS.end (RS.seq r<|jG<|jf (f1 qP)<|iE (iD 3) iQ)=.ok (.tup<|xs.map .int) S'/\xs.Perm (i9 1<|n+1)/\yV S' b/\Kp (·=b) S S') ?_ 1000000
 ·refine key _ _ ⟨i9 1<|n+1,[],rfl,rQ jj,?_,g4 _,h.kp (c:=λ_=>False) (Kp.refl.lay.lay) λz=>z,Kp.refl.lay.lay⟩ ?_
  ·have:iH (S++[.lst<|(i9 1<|n+1).map .int]++[.lst []]) (S++[O.lst<|(i9 1<|n+1).map .int]).length=some []:=jj;simpa using this
  ·rw[rQ jj,eN,aL,j5]
   lia
 ·rintro τ S1 ⟨ls,fs,rfl,hL,hF,hp,hb,hk⟩;have hlen:fs.length+ls.length<=20:=by
   have:=hp.length_eq;rw[aX,j5]at this
   lia
  unfold pB oU;dsimp[jk,bools,hL,aL];by_cases h0:ls=[]
  ·subst h0;left;exact⟨S1,rfl,fs,S1,by dsimp[jk,bools,hF],by simpa using hp,hb,hk⟩
  ·right;have hpos:0<ls.length:=List.length_pos_iff.mpr h0;refine⟨S1,by rw[aT<|show(0:Int)<(ls.length:Int)by lia],.inl ?_⟩;obtain⟨d,S2,e2,d0,d1,hb2,hk2⟩:=digit (m:=(ls.length:Int)) hb () ();have hL2:=hk2.lst S.length _ () hL;have hF2:=hk2.lst (S.length+1) _ () hF;have hd:d.toNat<ls.length:=()
   have lF:=qZ hF2;have lL:=qZ hL2;have hsq:seqIndex? d ls.length=some d.toNat:=KQ d0 hd;have hF3:iH (S2.set S.length<|.lst<|(ls.map A.int).eraseIdx d.toNat) (S.length+1)=some (fs.map .int):=by rw[nQ ()];exact hF2
   dsimp[jk,bools,hL,hF,aL,e2,hL2,DL,j4<|show -(2 ^ 63:Int)<=d/\d<2 ^ 63 by lia,hsq,a_,aG hd,dO,hF3,BA<|show fs.length<16777216 by lia];refine⟨_,_,rfl,⟨ls.eraseIdx d.toNat,fs++[ls[d.toNat]],rfl,?_,?_,(G9 hd).trans hp,?_,?_⟩,?_⟩
   ·rw[nQ (),nh lL,uR]
   ·rw[nh<|by rw[bO];exact lF,cj];rfl
   ·obtain⟨g,st,e,q⟩:=hb2;exact⟨g,st,by rw[nQ (),nQ ()];exact e,q⟩
   ·exact((hk.trans hk2).set<|.inr<|aQ _).set (.inr ())
   ·rw[nQ (),nh lL,eN,eN,uR,aL,aL,List.length_eraseIdx_of_lt hd];lia
def B9{xs:ae}{n:Nat}(px:xs.Perm<|i9 1<|(n:Int)+1):xs.length=n:=by have:=wY px ();lia
def DR{xs:ae}{n:Int}(px:xs.Perm<|i9 1<|n+1):xs.Nodup:=px.nodup_iff.mpr<|kH _ _
def Eg{xs:ae}{n:Nat}(px:xs.Perm<|i9 1<|(n:Int)+1)(h2:n<=1000):∃(ys:ae) (S':iI),uB [.tup<|xs.map .int] S=.ok (.tup<|ys.map .int) S'/\Bl.nF xs ys/\ys.Perm (i9 1<|(n:Int)+1)/\oq S S':=by
 have lx:=B9 px;unfold uB DZ DQ;dsimp[jk,bools,jF,Nat.reduceAdd,Nat.reduceSub,aL,lx];rw[P0 (k:=n) jj ()];dsimp[jk,bools];have hlen:(S++[O.lst [.int 0]]).length=S.length+1:=by simp
 rw[hlen];refine RL (xs:=xs.map .int) (S1:=S++[O.lst [.int 0]]++[O.lst<|List.replicate n<|.int 0]) (SG<|by dsimp[jk,bools])
  (λt τ S'=>∃(a2 a3:A) (ps:ae),τ=[.tup<|xs.map .int,.ref<|S.length+1,a2,a3]/\iH S' (S.length+1)=some (ps.map .int)/\ps.length=n/\(∀(p:Nat) (h:p<xs.length),p<t->ps[(xs[p]-1).toNat]?=some ((p:Int)+1))/\oq S S')
  (λr=>∃(ys:ae) (S':iI),RS.end (RS.seq r _)=.ok (.tup<|ys.map .int) S'/\Bl.nF xs ys/\ys.Perm (i9 1<|(n:Int)+1)/\oq S S') ⟨.unb,.unb,List.replicate n 0,rfl,?_,by simp,λ_ _ h=>absurd h<|d_ _,Kp.refl.lay.lay⟩ ?_ ?_
 ·rw[List.map_replicate,<- hlen];exact jj
 ·rintro t x τ S' hx ⟨a2,a3,ps,rfl,hL,hl,hps,hk⟩;rw[a_]at hx;obtain⟨v,hv,rfl⟩:=bu.mp hx;obtain⟨ht,ev⟩:=aM.mp hv;have mv:=uf px<|aY hv;refine⟨_,_,by dsimp[jk,bools,j4<|show([_,_]:ad).length=2 from rfl];rfl,.inl ?_⟩;have hi:yx ps.length (v-1)=some (v-1).toNat:=uN () ();have lL:=qZ hL;unfold BG;dsimp[jk,bools,hL,aL,hi];refine⟨_,_,rfl,_,_,ps.set (v-1).toNat<|(t:Int)+1,rfl,?_,by rw[bO];exact hl,λp hp hpt=>?_,hk.set<|.inr ()⟩
  ·rw[nh lL,gf]
  ·by_cases e:p=t
   ·subst e;rw[ev,bE ()]
   ·have ne:(xs[p]-1).toNat≠(v-1).toNat:=λz=>by
     have mp:=uf px<|dc hp;have:xs[p]=xs[t]:=by rw[ev];lia
     exact e<|(c8<|DR px).mp this
    rw[bL<|dg ne];exact hps p hp ()
 ·rintro τ S' ⟨a2,a3,ps,rfl,hL,hl,hps,hk⟩;rw[aL]at hps;refine⟨ps,S',by dsimp[jk,bools,hL],⟨(),λp h=>hps p h h⟩,?_,hk⟩;refine(rf (kH _ _) (λv hv=>?_)<|by rw[j5];lia).symm;have:=jz.mp hv;have hp:(v-1).toNat<xs.length:=()
  have:=aY (hps (v-1).toNat hp hp)
  rwa [show(((v-1).toNat:Nat):Int)+1=v by lia]at this
def W7(xs:ad)(j:Nat)(h:j<=xs.length):uY xs none (some (j:Int))=xs.take j:=by
 unfold uY;rw[HT.p9,HT.B6,iz,eX (),Nat.sub_zero]
def Yp{us:ae}{t:Nat}(h:t<us.length):CL (.tup<|us.map .int) none (some (t:Int)) S=.ok (.tup<|(us.take t).map .int) S:=by
 have hg:¬(HT.lg (us.map A.int).length 0 none=0/\HT.lg (us.map A.int).length (us.map A.int).length (some (t:Int))=(us.map A.int).length):=by
  rw[HT.p9,aL]
  lia
 have hs:CL (.tup<|us.map .int) none (some (t:Int)) S=.ok (.tup<|uY (us.map .int) none<|some (t:Int)) S:=j4 hg;rw[hs,W7 _ t<|by rw[aL];lia,map_take]
def Yu{us:ae}{t:Nat}(h0:1<=t)(h:t<=us.length):CL (.tup<|us.map .int) (some (t:Int)) none S=.ok (.tup<|(us.drop t).map .int) S:=by
 have hg:¬(HT.lg (us.map A.int).length 0 (some (t:Int))=0/\HT.lg (us.map A.int).length (us.map A.int).length none=(us.map A.int).length):=by
  rw[HT.p9,aL]
  lia
 have hs:CL (.tup<|us.map .int) (some (t:Int)) none S=.ok (.tup<|uY (us.map .int) (some (t:Int)) none) S:=j4 hg;rw[hs];congr 2;unfold uY;rw[HT.p9,HT.B6,aL,eX (),cU<|by simp,map_drop]
end K36
namespace K36
open PySem L2 Am
open Bl
open Po (Pl Ok)
open Hz (IsR)
open Fw (rg)
def Dj{N k:Nat}(h1:1<=k)(h2:k<N):decide ((k:Int)∈fl o N)=Su.j7 o k:=by
 unfold fl Su.j7;rw[fK,dN,jz,fm,show((k:Int)-1).toNat=k-1 by lia,eg];constructor
 ·exact λh=>h.2
 ·exact λh=>⟨⟨(),()⟩,h⟩
def m9{N:Nat}{o:ae}(h:o.Perm<|rg N):o.length=N:=by rw[h.length_eq,Wd.iP]
def Mb{k:kh}{v:A}:∀{kvs:List<|kh×A},lV (qN kvs k v) k=some v:=by
 intro kvs;unfold qN;split
 ·rename_i h;revert h
  induction kvs with
  | nil=>intro h;exact absurd h (show ¬(none:Option A).isSome=true by simp)
  | cons p r ih=>
   intro h;rw[bU];by_cases c:p.1=k
   ·rw[aK c,rm (p:=(p.1,v)) c]
   ·rw[aJ c,pS c];rw[pS c]at h;exact ih h
 ·rename_i h
  induction kvs with
  | nil=>exact rm rfl
  | cons p r ih=>
   by_cases c:p.1=k
   ·rw[rm c]at h;exact absurd rfl h
   ·rw[gz,pS c];rw[pS c]at h;exact ih h
def MI{k:kh}{v:A}{kvs:List<|kh×A}{p:kh×A}(h:p∈qN kvs k v):p∈kvs\/p=(k,v):=by
 unfold qN at h;split at h
 ·obtain⟨q,hq,rfl⟩:=bV.mp h;by_cases c:q.1=k
  ·rw[aK c,c];exact .inr rfl
  ·rw[aJ c];exact .inl hq
 ·rcases bF.mp h with z|z
  ·exact .inl z
  ·exact .inr<|bI.mp z
def J9{k:kh}{v:A}{kvs:List<|kh×A}:(qN kvs k v).length<=kvs.length+1:=by
 unfold qN;split
 ·rw[aL];lia
 ·rw[aX];exact aQ _
def JZ{k:kh}{v:A}{kvs:List<|kh×A}(h:lV kvs k=some v):(k,v)∈kvs:=by
 unfold lV at h;obtain⟨p,hp,e⟩:=bu.mp h;have h1:=List.mem_of_find?_eq_some hp;have h2:=List.find?_some hp;have h2:=cB h2;rw[<- h2,<- e];exact h1
def De{n:Nat}{d:List<|kh×A}(h:mF S n=some d)(h':iH S m=some xs):n≠m:=λz=>by
 subst z;have e1:=nM h;rw[iV h']at e1
 cases e1
def Kp.qp{b:Nat->Prop}(h:Kp b S S')(n:Nat)(d:List<|kh×A)(hb:¬b n)(e:mF S n=some d):mF S' n=some d:=xB<|h.obj n _ hb<|nM e
def zW(x w:ae):yl (.tup [.tup<|x.map .int,.tup<|w.map .int])=some (x,w):=by
 unfold yl;dsimp only;rw[ints_map,ints_map];rfl
def Tn{d:Nat}{x w:ae}:Oq true (.tup [.tup<|x.map .int,.tup<|w.map .int]) (.ref d) S=opt (mF S d) λkvs=>.ok (.bl<|!(lV kvs (x,w)).isSome) S:=by
 show opt (mF S d) (λkvs=>opt (yl _) _)=_;rw[zW];rfl
def IY{d:Nat}{x w:ae}:HH (.ref d) (.tup [.tup<|x.map .int,.tup<|w.map .int]) S=opt (mF S d) λkvs=>opt (lV kvs (x,w)) λv=>.ok v S:=by
 show opt (mF S d) (λkvs=>opt (yl _) _)=_;rw[zW];rfl
theorem Na{d:Nat}{S:iI}{x w:ae}{v:A}:Bo (.ref d) (.tup [.tup<|x.map .int,.tup<|w.map .int]) v S=opt (mF S d) λkvs=>gd (kvs.length<sizeLine) (.ok Unit.unit<|S.set d<|.qp<|qN kvs (x,w) v):=by
 show opt (mF S d) (λkvs=>opt (yl _) _)=_;rw[zW];rfl
def rP{co ci:Ex}{a:A}:MS co ci a τ S=(co τ S).bind λo S1=>(ci τ S1).bind λi S2=>(Bo o i a S2).bind λ_ S3=>.ok τ S3:=rfl
structure Kn (n:Nat)(S:iI)(d:Nat)(kvs:List (kh×A)):Prop where
 dd:mF S d=some kvs
 at_:∀p∈kvs,∃(r:Nat) (l:Pl),p.2=.ref r/\iH S r=some (Po.pl l)/\IsR n p.1.1 p.1.2 l
def Kn.kp{n d:Nat}(h:Kn n S d kvs)(k:oq S S'):Kn n S' d kvs:=⟨Kp.qp k _ _ (λz=>z) h.dd,λp hp=>by obtain⟨r,l,a,b,c⟩:=h.at_ p hp;exact⟨r,l,a,k.lst _ _ (λz=>z) b,c⟩⟩
def Kn.put{n d r:Nat}{kvs:List<|kh×A}{x w:ae}(h:Kn n S d kvs)(hl:kvs.length<16777216)(hr:iH S r=some (Po.pl l))(hi:IsR n x w l) :
  ∃(S':iI) (kvs':List<|kh×A),Bo (.ref d) (.tup [.tup<|x.map .int,.tup<|w.map .int]) (.ref r) S=.ok Unit.unit S'/\HH (.ref d) (.tup [.tup<|x.map .int,.tup<|w.map .int]) S'=.ok (.ref r) S'/\Kn n S' d kvs'/\iH S' r=some (Po.pl l)/\kvs'.length<=kvs.length+1/\Kp (·=d) S S':=by
 have k:Kp (·=d) S (S.set d<|.qp<|qN kvs (x,w)<|.ref r):=Kp.refl.Mr<|.inl rfl;have dd:mF (S.set d<|.qp<|qN kvs (x,w)<|.ref r) d=some (qN kvs (x,w)<|.ref r):=xB<|bE<|wW<|nM h.dd;have kl:∀(q:Nat) (xs:ad),iH S q=some xs->iH (S.set d<|.qp<|qN kvs (x,w)<|.ref r) q=some xs:=λq xs hq=>k.lst _ _ (λz=>De h.dd hq z.symm) hq;refine⟨_,qN kvs (x,w)<|.ref r,?_,?_,⟨dd,λp hp=>?_⟩,kl _ _ hr,J9,k⟩
 ·rw[Na,h.dd,jK];exact BA hl
 ·rw[IY,dd,jK,Mb,jK]
 ·rcases MI hp with z|z
  ·obtain⟨q,m,a,b,c⟩:=h.at_ p z;exact⟨q,m,a,kl _ _ b,c⟩
  ·rw[z];exact⟨r,l,rfl,kl _ _ hr,hi⟩
def M_:∀p∈[((1:Int),(1:Int))],p.2.natAbs<big:=λp hp=>by
 rw[bI.mp hp,Ae];exact show 1<2 ^ 4096 by decide +kernel
def Pn{n:Nat}{x w:ae}{l:Pl}(h:IsR n x w l)(px:x.Perm<|rg n)(pw:w.Perm<|rg n)(hi:Iv.inv w<=100):∀p∈l,p.2.natAbs<big:=λp hp=>by
 obtain⟨_,_,a,b,_⟩:=h.keys px pw hp;have:(2:Nat) ^ Iv.inv w<=2 ^ 100:=Nat.pow_le_pow_right ⋯ hi;have b1:(2:Nat) ^ 100<big:=by rw[Ae];exact Nat.pow_lt_pow_right ⋯ ⋯
 lia
def Qj{x w:ae}:qo false (.tup<|x.map .int) (.tup<|w.map .int) S=.ok (.bl<|decide<|x=w) S:=Dg (by
 show qE (tV S 11) (x.map .int) (w.map .int)=_;exact za x w)
def wK{α:Type}{x:R α}:gd (2<=sizeLine) x=x:=j4 ⋯
theorem yd{n d:Nat}(h1:1<=n)(h2:n<=8):∀(f:Nat) {S:iI}{kvs:List<|kh×A}{x w:ae},Iv.inv w<f->f<=22->x.Perm (rg n)->w.Perm (rg n)->Kn n S d kvs->kvs.length+2 ^ (Iv.inv w+1)<=8388608 ->
  ∃(r:Nat) (S':iI) (kvs':List<|kh×A) (l:Pl),kR f [.tup<|x.map .int,.tup<|w.map .int,.ref d] S=.ok (.ref r) S'/\Kn n S' d kvs'/\iH S' r=some (Po.pl l)/\IsR n x w l/\kvs'.length+1<=kvs.length+2 ^ (Iv.inv w+1)/\Kp (·=d) S S'
 | 0,S,kvs,x,w,hf,_,_,_,_,_=>absurd hf (d_ _)
 | f+1,S,kvs,x,w,hf,hf2,px,pw,hK,hb=>by
  have lx:=m9 px;have lw:=m9 pw;show ∃(r:Nat) (S':iI) (kvs':List<|kh×A) (l:Pl),jT lY (lX<|kR f) [.tup<|x.map .int,.tup<|w.map .int,.ref d] S=.ok (.ref r) S'/\_;have two:2<=2 ^ (Iv.inv w+1):=by rw[pow_succ];have:=Nat.one_le_two_pow (n:=Iv.inv w);lia
  have i1:Oq true (.tup [.tup<|x.map .int,.tup<|w.map .int]) (.ref d) S=.ok (.bl<|!(lV kvs (x,w)).isSome) S:=by rw[Tn,hK.dd,jK]
  unfold lX lY
  cases hL:lV kvs (x,w)with
  | some v=>
   obtain⟨r,l,rfl,b,c⟩:=hK.at_ _<|JZ hL;have x1:HH (.ref d) (.tup [.tup<|x.map .int,.tup<|w.map .int]) S=.ok (.ref r) S:=by rw[IY,hK.dd,jK,hL,jK]
   rw[hL]at i1;refine⟨r,S,kvs,l,?_,hK,b,c,(),Kp.refl⟩;dsimp[jk,mY,bools,jF,Nat.reduceAdd,Nat.reduceSub,wK,i1,isSome_some,b_,x1]
  | none=>
   rw[hL]at i1;by_cases e:x=w
   ·subst e;have k1:oq S (S++[O.lst<|Po.pl [(0,1)]]):=Kp.refl.lay;obtain⟨S',kvs',e1,x1,n1,l1,b1,kp⟩:=(hK.kp k1).put (x:=x) (w:=x) (r:=S.length) () jj<|Hz.Mm px;refine⟨S.length,S',kvs',_,?_,n1,l1,Hz.Mm px,(),k1.of0.trans kp⟩;have eq:=Qj (S:=S) (x:=x) (w:=x);rw[aT rfl]at eq;rw[show Po.pl [((0:Int),(1:Int))]=[A.tup [.int 0,.int 1]]from rfl]at e1;dsimp[jk,mY,bools,jF,Nat.reduceAdd,Nat.reduceSub,wK,i1,fS,dJ,eq,rP,e1,x1]
   ·have eq:=Qj (S:=S) (x:=x) (w:=w);rw[aS e]at eq;obtain⟨k,S1,e1,hk,k1⟩:=MR (S:=S) px pw h1 ();have i2:=i1;by_cases hbl:Below x w
    ·rw[hk.mpr hbl]at e1;have fo:=BW (S:=S1) (xs:=w) (n:=n) lw ();obtain⟨c,t,ft⟩:∃c t,fl w n=c::t:=by
      cases hfl:fl w n with
      | cons c t=>exact⟨c,t,rfl⟩
      | nil=>
       exfalso;have wr:w=rg n:=Fw.AY pw λk hk=>by
        have:=Dj (o:=w) (N:=n) (k:=k) hk.1 (by rw[<- lw];exact hk.2.1);rw[hfl]at this;have f1:Su.j7 w k=true:=aT hk.2.2;rw[f1]at this;exact absurd (cB this)<|by simp
       subst wr;obtain⟨js,hj⟩:=Fw.BY _ x<|aQ _;exact e<|Below.antisymm px.length_eq hbl<|Gr.ue js px hj
     obtain⟨k,rfl,c1,c2,c3⟩:∃k:Nat,c=(k:Int)/\1<=k/\k<n/\Su.j7 w k=true:=by
      have hc:c∈fl w n:=by rw[ft];exact aN ..
      have hr:=jz.mp (dN.mp hc).1;have ek:c=(c.toNat:Int):=()
      refine⟨c.toNat,ek,(),(),?_⟩;rw[<- Dj (N:=n) () (),<- ek];exact aT hc
     obtain⟨S2,hS2⟩:∃S2,S2=S1++[O.lst<|(fl w n).map .int]:=⟨_,rfl⟩;have k2:oq S1 S2:=by rw[hS2];exact Kp.refl.lay
     have l2:iH S2 S1.length=some (A.int k::t.map .int):=by rw[hS2,jj,ft];rfl
     rw[<- hS2]at fo;have hd:=Fw.oH c1 (show k<w.length by lia)<|cB c3;obtain⟨S3,x3,k3⟩:=FO (S:=S2) (xs:=w) (k:=k) c1 () ();obtain⟨S4,x4,k4⟩:=FO (S:=S3) (xs:=x) (k:=k) c1 () ();have k04:oq S S4:=((k1.trans k2).trans k3).trans k4;have pe:=He.jX px c1 c2;have pw':=He.jX pw c1 c2;have pw2:2 ^ (Iv.inv w+1)=2 ^ (Iv.inv (Wd.ex w k)+1)+2 ^ (Iv.inv (Wd.ex w k)+1):=by rw[hd,pow_succ 2<|Iv.inv (Wd.ex w k)+1];lia
     obtain⟨r5,S5,kv5,l5,x5,n5,a5,q5,b5,k5⟩:=yd h1 h2 f (S:=S4) (kvs:=kvs) (x:=Wd.ex x k) (w:=Wd.ex w k) () () pe pw' (hK.kp k04) ();have fo6:=BW (S:=S5) (xs:=x) (n:=n) lx ();obtain⟨S6,hS6⟩:∃S6,S6=S5++[O.lst<|(fl x n).map .int]:=⟨_,rfl⟩;have k6:oq S5 S6:=by rw[hS6];exact Kp.refl.lay
     have in6:WD false (.int k) (.ref S5.length) S6=.ok (.bl<|Su.j7 x k) S6:=by
      show opt (iH _ _) _=_;rw[hS6,jj,jK,Ei,Dj c1 c2];rfl
     rw[<- hS6]at fo6;have k06:Kp (·=d) S S6:=(k04.of0.trans k5).trans k6.of0
     cases hx:Su.j7 x k with
     | true=>
      rw[hx]at in6;have iq:=Hz.VL px pw c1 c2 c3 hx q5;obtain⟨S',kvs',e7,x7,n7,l7,b7,kp⟩:=(n5.kp k6).put (x:=x) (w:=w) () (k6.lst _ _ (λz=>z) a5) iq;refine⟨r5,S',kvs',l5,?_,n7,l7,iq,(),k06.trans kp⟩;dsimp[jk,mY,bools,jF,Nat.reduceAdd,Nat.reduceSub,wK,i1,fS,dJ,b_,eq,e1,rP];unfold jv;dsimp[jk,mY,bools,jF,Nat.reduceAdd,Nat.reduceSub,wK,fo,l2,Gx,x3,x4,x5,fo6,in6,rP,e7,x7]
     | false=>
      rw[hx]at in6;obtain⟨S7,hS7⟩:∃S7,S7=S6++[O.lst<|Po.pl [(1,1)]]:=⟨_,rfl⟩;have k7:oq S6 S7:=by rw[hS7];exact Kp.refl.lay
      have l7:iH S7 S6.length=some (Po.pl [(1,1)]):=by rw[hS7];exact jj
      have k67:=k6.trans k7;obtain⟨r8,S8,kv8,l8,x8,n8,a8,q8,b8,k8⟩:=yd h1 h2 f (S:=S7) (kvs:=kv5) (x:=x) (w:=Wd.ex w k) () () px pw' (n5.kp k67) ();have len8:=q8.len px pw';have len5:=q5.len pe pw';have hd7:=(n5.kp k67).dd;have l7':iH S8 S6.length=some (Po.pl [(1,1)]):=k8.lst _ _ (λz=>De hd7 l7 z.symm) l7;have a5':iH S8 r5=some (Po.pl l5):=by
       have q:=k67.lst _ _ (λz=>z) a5;exact k8.lst _ _ (λz=>De hd7 q z.symm) q
      obtain⟨L9,S9,x9,a9,_,k9⟩:=IE l7' a8 (by show 1 * l8.length<_;lia) M_<|Pn q8 px pw' ();have tl:(Po.times [(1,1)] l8).length<=l8.length:=bP (Su.GW _ _)<|Nat.le_of_eq<|Nat.one_mul _;obtain⟨La,Sa,xa,aa,_,ka⟩:=Oj (k9.lst _ _ (λz=>z) a5') a9 q5.ok ();have k9a:=k9.trans ka;have iq:=Hz.Vi px pw c1 c2 c3 hx q5 q8;obtain⟨S',kvs',e7,x7,n7,l7,b7,kp⟩:=(n8.kp k9a).put (x:=x) (w:=w) () aa iq;refine⟨La,S',kvs',_,?_,n7,l7,iq,(),(((k06.trans k7.of0).trans k8).trans k9a.of0).trans kp⟩;dsimp[jk,mY,bools,jF,Nat.reduceAdd,Nat.reduceSub,wK,i1,fS,dJ,b_,eq,e1,rP];unfold jv;rw[show Po.pl [((1:Int),(1:Int))]=[A.tup [.int 1,.int 1]]from rfl]at hS7;dsimp[jk,mY,bools,jF,Nat.reduceAdd,Nat.reduceSub,wK,fo,l2,Gx,x3,x4,x5,fo6,in6];rw[<- hS7];dsimp[jk,mY,bools,x8,x9,xa,rP,e7,x7]
    ·have kf:k=false:=by cases k with|false=>rfl|true=>exact absurd (hk.mp rfl) hbl
     rw[kf]at e1;have k2:oq S (S1++[O.lst []]):=k1.lay;obtain⟨S',kvs',e2,x2,n2,l2,b2,kp⟩:=(hK.kp k2).put (x:=x) (w:=w) (r:=S1.length) (l:=[]) () jj<|Hz.DW px pw hbl;refine⟨S1.length,S',kvs',_,?_,n2,l2,Hz.DW px pw hbl,(),k2.of0.trans kp⟩;dsimp[jk,mY,bools,jF,Nat.reduceAdd,Nat.reduceSub,wK,i1,fS,dJ,b_,eq,e1,rP,e2,x2]
def vQ{n:Nat}{x:ae}(h1:1<=n)(h2:n<=8)(px:x.Perm<|rg n):∃S',kP [.tup<|x.map .int] S=.ok (.int (Iv.inv x:Int)) S'/\oq S S':=by
 obtain⟨S',e,k⟩:=QW (S:=S) (n:=n) (m9 px) ();rw[TN (m9 px) h1]at e;exact⟨S',e,k⟩
def EZ{n:Nat}{x w:ae}(h1:1<=n)(h2:n<=8)(px:x.Perm<|rg n)(pw:w.Perm<|rg n)(hi:Iv.inv w<=21)(hd:n<=5\/(Iv.inv w:Int)-Iv.inv x<=6):∃(r:Nat) (S':iI) (l:Pl),mQ [.tup<|x.map .int,.tup<|w.map .int] S=.ok (.ref r) S'/\iH S' r=some (Po.pl l)/\IsR n x w l/\oq S S':=by
 have lx:=m9 px;have lw:=m9 pw;have np:=t7 (S:=S) (xs:=x) (ys:=w) ();obtain⟨S1,e1,k1⟩:∃S1,lO [.tup<|x.map .int,.tup<|w.map .int] S=.ok .non S1/\oq S S1:=by
  by_cases c:n<=5
  ·refine⟨S,?_,Kp.refl⟩;have:jQ [.tup<|x.map .int,.tup<|w.map .int,.int 5,.int 8,.int 6] S=.ok .non S:=by
    unfold jQ mV mU;dsimp[jk,mY,bools,jF,Nat.reduceAdd,Nat.reduceSub,aL,lx,aT<|show(n:Int)<=5 by lia]
   unfold lO n_ oF;dsimp[jk,mY,bools,jF,Nat.reduceAdd,Nat.reduceSub,np,this]
  ·obtain⟨S1,a1,k1⟩:=vQ (S:=S) h1 h2 pw;obtain⟨S2,a2,k2⟩:=vQ (S:=S1) h1 h2 px;refine⟨S2,?_,k1.trans k2⟩;have hd:(Iv.inv w:Int)-Iv.inv x<=6:=by rcases hd with z|z;exact absurd z c;exact z
   have:jQ [.tup<|x.map .int,.tup<|w.map .int,.int 5,.int 8,.int 6] S=.ok .non S2:=by
    unfold jQ mV mU;dsimp[jk,mY,bools,jF,Nat.reduceAdd,Nat.reduceSub,aL,lx,aS<|show ¬(n:Int)<=5 by lia,aS<|show ¬(n:Int)>8 by lia,a1,a2,aS<|show ¬(Iv.inv w:Int)-Iv.inv x>6 by lia]
   unfold lO n_ oF;dsimp[jk,mY,bools,jF,Nat.reduceAdd,Nat.reduceSub,np,this]
 have hK:Kn n (S1++[.qp []]) S1.length []:=⟨xB<|by simp,λp hp=>nomatch hp⟩;have pw2:2 ^ (Iv.inv w+1)<=2 ^ 22:=Nat.pow_le_pow_right ⋯ ();obtain⟨r,S',kvs',l,x2,n2,a2,q2,b2,k2⟩:=yd h1 h2 22 (S:=S1++[.qp []]) (kvs:=[]) () (aQ _) px pw hK (by dsimp[cg];lia);refine⟨r,S',l,?_,a2,q2,(k1.lay (o:=.qp [])).old k2 λq hq _ z=>by have:=k1.len;lia⟩;have x2:qf [.tup<|x.map .int,.tup<|w.map .int,.ref S1.length] (S1++[.qp []])=.ok (.ref r) S':=x2;have dn:∀τ,DF τ S1=.ok (.ref S1.length) (S1++[.qp []]):=λ_=>rfl;unfold mQ C9 DG;dsimp[jk,mY,bools,jF,Nat.reduceAdd,Nat.reduceSub,e1,dn,x2]
end K36
namespace K36
open PySem L2 Am
def ya{xs ys:ae}(h:xs.length+ys.length<=16777216):jq (.tup<|xs.map .int) (.tup<|ys.map .int) S=.ok (.tup<|(xs++ys).map .int) S:=by
 rw[cj];exact IW<|by rw[aL,aL];exact h
def XM{us:ae}{a b:Nat}(h0:1<=a)(h1:a<=b)(h2:b<=us.length):CL (.tup<|us.map .int) (some (a:Int)) (some (b:Int)) S=.ok (.tup<|((us.drop a).take<|b-a).map .int) S:=by
 have hg:¬(HT.lg (us.map A.int).length 0 (some (a:Int))=0/\HT.lg (us.map A.int).length (us.map A.int).length (some (b:Int))=(us.map A.int).length):=by
  rw[HT.p9,aL]
  lia
 have hs:CL (.tup<|us.map .int) (some (a:Int)) (some (b:Int)) S=.ok (.tup<|uY (us.map .int) (some (a:Int))<|some (b:Int)) S:=j4 hg;rw[hs];congr 2;unfold uY;rw[HT.p9,HT.p9,aL,eX (),eX (),map_take,map_drop]
def TF{xs:ae}(hij:i<j)(hj:j<xs.length):xs.take i++[xs.getD j 0]++(xs.drop<|i+1).take (j-(i+1))++[xs.getD i 0]++xs.drop (j+1)=Iv.sw xs i j:=by
 obtain⟨P,M,R,ea,hP,hM,es⟩:=Iv.split hij hj;have lP:P.length=i:=by rw[hP,bq];lia
 refine bR λp=>?_;have g:∀q,q<xs.length->xs[q]?=some (xs.getD q 0):=λq hq=>Iv.qh hq;have ls:(Iv.sw xs i j).length=xs.length:=Iv.zD ..;by_cases hp:p<xs.length
 ·have rhs:(Iv.sw xs i j)[p]?=some (if p=j then xs.getD i 0 else if p=i then xs.getD j 0 else xs.getD p 0):=by
   rw[<- Iv.C7 hij hj p];exact Iv.qh ()
  rw[rhs,bG,bG,bG];by_cases c1:p<i
  ·rw[bh<|by rw[bq];lia,dD c1,g p hp,aJ (),aJ ()]
  ·rw[bY<|by rw[bq];lia,bq,eX ()];by_cases c2:p=i
   ·rw[aJ (),aK c2,show p-i=0 by lia];rfl
   ·rw[aJ c2,show p-i=(p-(i+1))+1 by lia,gu,eO];have lm:((xs.drop<|i+1).take<|j-(i+1)).length=j-(i+1):=by rw[bq,bS];lia
    by_cases c3:p<j
    ·rw[bh (),dD (),dY,show i+1+(p-(i+1))=p by lia,g p hp,aJ ()]
    ·rw[bY (),lm];by_cases c4:p=j
     ·rw[aK c4,show p-(i+1)-(j-(i+1))=0 by lia];rfl
     ·rw[aJ c4,show p-(i+1)-(j-(i+1))=(p-(j+1))+1 by lia,gu,eO,dY,show j+1+(p-(j+1))=p by lia,g p hp]
 ·rw[bC<|by dsimp[aX,bq,bS,bz,cg];lia,bC ()]
def O9{xs:ae}(hij:i<j)(hj:j<xs.length)(hl:xs.length<=1000):kU [.tup<|xs.map .int,.int i,.int j] S=.ok (.tup<|(Iv.sw xs i j).map .int) S:=by
 have s1:CL (.tup<|xs.map .int) none (some (i:Int)) S=.ok (.tup<|(xs.take i).map .int) S:=Yp ();have s2:CL (.tup<|xs.map .int) (some<|(i:Int)+1) (some (j:Int)) S=.ok (.tup<|((xs.drop<|i+1).take<|j-(i+1)).map .int) S:=by
  rw[show(i:Int)+1=((i+1:Nat):Int)by lia];exact XM () () ()
 have s3:CL (.tup<|xs.map .int) (some<|(j:Int)+1) none S=.ok (.tup<|(xs.drop<|j+1).map .int) S:=by
  rw[show(j:Int)+1=((j+1:Nat):Int)by lia];exact Yu () ()
 have x1:nV (xs.map A.int) (i:Int)=some (.int<|xs.getD i 0):=Tj rfl ();have x2:nV (xs.map A.int) (j:Int)=some (.int<|xs.getD j 0):=Tj rfl ();have d1:jq (.tup<|(xs.take i).map .int) (.tup [.int<|xs.getD j 0]) S=.ok (.tup<|(xs.take i++[xs.getD j 0]).map .int) S:=
  ya (ys:=[xs.getD j 0]) (by rw[bq];show _+1<=_;lia)
 have d2:jq (.tup<|(xs.take i++[xs.getD j 0]).map .int) (.tup<|((xs.drop<|i+1).take<|j-(i+1)).map .int) S=.ok (.tup<|(xs.take i++[xs.getD j 0]++(xs.drop<|i+1).take (j-(i+1))).map .int) S:=
  ya (by dsimp[aX,bq,bS,bz,cg];lia)
 have d3:jq (.tup<|(xs.take i++[xs.getD j 0]++(xs.drop<|i+1).take (j-(i+1))).map .int) (.tup [.int<|xs.getD i 0]) S=.ok (.tup<|(xs.take i++[xs.getD j 0]++(xs.drop<|i+1).take (j-(i+1))++[xs.getD i 0]).map .int) S:=
  ya (ys:=[xs.getD i 0]) (by dsimp[aX,bq,bS,bz,cg];lia)
 have d4:jq (.tup<|(xs.take i++[xs.getD j 0]++(xs.drop<|i+1).take (j-(i+1))++[xs.getD i 0]).map .int) (.tup<|(xs.drop<|j+1).map .int) S=.ok (.tup<|(Iv.sw xs i j).map .int) S:=by
  rw[ya<|by dsimp[aX,bq,bS,bz,cg];lia,TF hij hj]
 unfold kU oQ oX;dsimp[jk,mY,bools,jF,Nat.reduceAdd,Nat.reduceSub,s1,x1,x2,IW<|show 1<=sizeLine by rw[cR];decide,d1,s2,d2,d3,s3,d4]
abbrev pq (xs:ae)(i j:Nat)(x:A):Bool:=match x with
 | .int m=>decide (xs.getD j 0<m) && decide (m<xs.getD i 0)
 | _=>false
abbrev cd (xs:ae)(i j:Nat)(left:Int):Bool:=decide (xs.getD i 0>xs.getD j 0) && decide (1+2 * (Hz.am xs i j:Int)<=left)
abbrev qt (xs:ae)(i j:Nat):A:=.tup [.int i,.int j,.int<|1+2 * (Hz.am xs i j:Int)]
def O_{n V:Nat}{xs:ae}{L:ad}{left:Int}(lx:xs.length=n)(h8:n<=8)(hij:i<j)(hj:j<n)(hV:iH S V=some L)(hL:L.length<=1000) :
  ∃S',jY [.tup<|xs.map .int,.int left,.ref V,.int i,.int j,x5] S=.nx [.tup<|xs.map .int,.int left,.ref V,.int i,.int j,.int (Hz.am xs i j:Int)] S'/\iH S' V=some (if cd xs i j left=true then L++[qt xs i j]else L)/\Kp (·=V) S S':=by
 have s2:CL (.tup<|xs.map .int) (some<|(i:Int)+1) (some (j:Int)) S=.ok (.tup<|((xs.drop<|i+1).take<|j-(i+1)).map .int) S:=by
  rw[show(i:Int)+1=((i+1:Nat):Int)by lia];exact XM () () ()
 have x1:nV (xs.map A.int) (i:Int)=some (.int<|xs.getD i 0):=Tj rfl ();have x2:nV (xs.map A.int) (j:Int)=some (.int<|xs.getD j 0):=Tj rfl ();obtain⟨M,hM⟩:∃M,M=(xs.drop<|i+1).take (j-(i+1)):=⟨_,rfl⟩;rw[<- hM]at s2;have lM:M.length<=8:=by rw[hM,bq,bS];lia
 have cm:=CA (cap:=[some 0,some 4,some 3]) (src:=oY<|RI (iD 0) (se<|iJ jq (iD 3)<|eC<|.int 1)<|se<|iD 4) (t:=mX<|II Au Au (iJ pP (iD 1)<|iD 2) (iD 0)<|iJ pP (iD 1)<|iD 3) (e:=iD 0) (τ:=[.tup<|xs.map .int,.int left,.ref V,.int i,.int j,x5]) (S:=S) (S1:=S) (xs:=M.map .int)
  (KD<|by dsimp[jk,mY,bools,s2]) (pq xs i j) (λx=>x) (λx hx=>by
   obtain⟨m,_,rfl⟩:=bV.mp hx;have c1:iJ pP (iD 1) (iD 2) (.int m::mC [some 0,some 4,some 3] [.tup<|xs.map .int,.int left,.ref V,.int i,.int j,x5]) S=.ok (.int<|xs.getD j 0) S:=by dsimp[jk,mY,bools,x2]
   have c2:iD 0 (.int m::mC [some 0,some 4,some 3] [.tup<|xs.map .int,.int left,.ref V,.int i,.int j,x5]) S=.ok (.int m) S:=by dsimp[jk,mY,bools]
   have c3:iJ pP (iD 1) (iD 3) (.int m::mC [some 0,some 4,some 3] [.tup<|xs.map .int,.int left,.ref V,.int i,.int j,x5]) S=.ok (.int<|xs.getD i 0) S:=by dsimp[jk,mY,bools,x1]
   rw[DB];by_cases c:xs.getD j 0<m
   ·rw[Ut c1 c2 (by rw[BI,aT c]) c3,BI,R.kX,F6];show _=R.ok (decide (xs.getD j 0<m) && decide (m<xs.getD i 0)) S;rw[aT c,Bool.true_and]
   ·rw[Ww c1 c2<|by rw[BI,aS c],R.kX,F6];show _=R.ok (decide (xs.getD j 0<m) && decide (m<xs.getD i 0)) S;rw[aS c,gT]) (λx hx _=>by
   obtain⟨m,_,rfl⟩:=bV.mp hx;dsimp[jk,mY,bools]) (by rw[aL];lia)
 have ln:(((M.map A.int).filter<|pq xs i j).map λx=>x).length=Hz.am xs i j:=by
  rw[aL,gM,aL,<- gP];unfold Hz.am;rw[hM,show j-i-1=j-(i+1)by lia];rfl
 have amle:Hz.am xs i j<=8:=by
  unfold Hz.am;refine bP List.countP_le_length ?_;rw[bq,bS];lia
 obtain⟨S1,hS1⟩:∃S1,S1=S++[O.lst<|((M.map A.int).filter<|pq xs i j).map λx=>x]:=⟨_,rfl⟩;have k1:oq S S1:=by rw[hS1];exact Kp.refl.lay
 have l1:iH S1 S.length=some (((M.map A.int).filter<|pq xs i j).map λx=>x):=by rw[hS1];exact jj
 have hV1:=k1.lst _ _ (λz=>z) hV;rw[<- hS1]at cm;have m2:uz (.int 2) (.int (Hz.am xs i j:Int))=λS=>R.ok (.int<|2 * (Hz.am xs i j:Int)) S:=by funext S;exact FT ⋯ ⋯
 unfold jY;dsimp[jk,mY,bools,cm,l1,ln,x1,x2,m2];unfold cd;by_cases c1:xs.getD i 0>xs.getD j 0
 ·by_cases c2:1+2 * (Hz.am xs i j:Int)<=left
  ·refine⟨S1.set V<|.lst<|L++[qt xs i j],?_,?_,(k1.of0).Mr<|.inl rfl⟩
   ·dsimp[jk,mY,bools,m2,aT c1,aT c2,hV1,jF,Nat.reduceAdd,IW<|show 3<=sizeLine by rw[cR];decide,BA<|show L.length<16777216 by lia];rfl
   ·rw[aT c1,aT c2,aK<|by rfl];exact qL<|bE<|qZ hV1
  ·refine⟨S1,?_,?_,k1.of0⟩
   ·dsimp[jk,mY,bools,m2,aT c1,aS c2]
   ·rw[aS c2,iB,aJ<|by simp];exact hV1
 ·refine⟨S1,?_,?_,k1.of0⟩
  ·dsimp[jk,mY,bools,aS c1]
  ·rw[aS c1,gT,aJ<|by simp];exact hV1
abbrev PL (xs:ae)(n:Nat)(left:Int)(q:A):Prop:=∃i j:Nat,i<j/\j<n/\xs.getD j 0<xs.getD i 0/\1+2 * (Hz.am xs i j:Int)<=left/\q=qt xs i j
def Uk{n:Nat}{xs:ae}{left:Int}(lx:xs.length=n)(h8:n<=8):∃(V:Nat) (S':iI) (L:ad),jW [.tup<|xs.map .int,.int left] S=.ok (.ref V) S'/\iH S' V=some L/\L.length<=100/\(∀q∈L,PL xs n left q)/\oq S S':=by
 have k0:oq S (S++[O.lst []]):=Kp.refl.lay;unfold jW mR mT;dsimp[jk,mY,bools,jF,Nat.reduceAdd,Nat.reduceSub];refine rH (lo:=0) (hi:=n) (S1:=S++[O.lst []]) (src:=lq) (show lq _ _=_ from pZ (by dsimp[jk,mY,bools,aL,lx])<|kL () ())
  (λi τ T=>(∃x3 x4 x5,τ=[.tup<|xs.map .int,.int left,.ref S.length,x3,x4,x5])/\(∃L,iH T S.length=some L/\L.length<=i * 8/\∀q∈L,PL xs n left q)/\oq S T)
  (λr=>∃(V:Nat) (S':iI) (L:ad),(r.seq<|jG<|iD 2).end=.ok (.ref V) S'/\iH S' V=some L/\L.length<=100/\(∀q∈L,PL xs n left q)/\oq S S')
  ⟨⟨_,_,_,rfl⟩,⟨[],jj,cL _,nofun⟩,k0⟩ ?_ ?_
 ·rintro i τ T hi ⟨⟨x3,x4,x5,rfl⟩,⟨L,hT,lL,gL⟩,kT⟩;left;unfold nP;dsimp[jk];rw[dF];refine rH (lo:=(i:Int)+1) (hi:=n) (S1:=T) (src:=lz) (show lz _ _=_ from tH (S1:=T) (by dsimp[jk,mY,bools]) (by dsimp[jk,mY,bools,aL,lx]) (kL () ())<|kL () ())
   (λt τ' T'=>(∃x4 x5,τ'=[.tup<|xs.map .int,.int left,.ref S.length,.int i,x4,x5])/\(∃L',iH T' S.length=some L'/\L'.length<=i * 8+t/\∀q∈L',PL xs n left q)/\oq S T')
   (λr=>∃τ' S',r=.nx τ' S'/\(∃x3 x4 x5,τ'=[.tup<|xs.map .int,.int left,.ref S.length,x3,x4,x5])/\(∃L,iH S' S.length=some L/\L.length<=(i+1) * 8/\∀q∈L,PL xs n left q)/\oq S S')
   ⟨⟨_,_,rfl⟩,⟨L,hT,lL,gL⟩,kT⟩ ?_ ?_
  ·rintro t τ' T' ht ⟨⟨x4,x5,rfl⟩,⟨L',hT',lL',gL'⟩,kT'⟩;left;have i8:i * 8<=7 * 8:=gG _ ();obtain⟨S',e,l',k'⟩:=O_ (S:=T') (V:=S.length) (i:=i) (j:=i+1+t) (L:=L') (left:=left) (x5:=x5) lx h8 () () hT' ();refine⟨[.tup<|xs.map .int,.int left,.ref S.length,.int i,.int ((i+1+t:Nat):Int),.int (Hz.am xs i (i+1+t):Int)],S',?_,⟨_,_,rfl⟩,⟨_,l',?_,?_⟩,kT'.old k' λq hq _ z=>()⟩
   ·show jY [.tup<|xs.map .int,.int left,.ref S.length,.int i,.int<|(i:Int)+1+t,x5] T'=_;rw[show(i:Int)+1+(t:Int)=((i+1+t:Nat):Int)by lia];exact e
   ·split
    ·rw[aX];show _+1<=_;lia
    ·lia
   ·intro q hq;split at hq
    ·rename_i hc
     rcases bF.mp hq with z|z
     ·exact gL' q z
     ·unfold cd at hc;rw[dB,fm,fm]at hc;exact⟨i,i+1+t,(),(),hc.1,hc.2,bI.mp z⟩
    ·exact gL' q hq
  ·rintro τ' T' ⟨⟨x4,x5,rfl⟩,⟨L',hT',lL',gL'⟩,kT'⟩;exact⟨_,_,rfl,⟨_,_,_,rfl⟩,⟨L',hT',(),gL'⟩,kT'⟩
 ·rintro τ T ⟨⟨x3,x4,x5,rfl⟩,⟨L,hT,lL,gL⟩,kT⟩;exact⟨S.length,T,L,by dsimp[jk,mY,bools],hT,(),gL,kT⟩
end K36
namespace K36
open PySem L2 Am
open Bl
open Po (Pl Ok)
open Hz (IsR)
open Fw (rg)
def zL{a:A}{k:Bool}(h:tV S 12 a b=some k):qo true a b S=.ok (.bl<|!k) S:=by unfold qo;rw[h];rfl
def F5{V r:Nat}{L:ad}(h:iH S V=some L)(hr:iH S r=some []):tV S 12 (.ref V) (.ref r)=some L.isEmpty:=by
 show(iH S V).bind (λxs=>(iH S r).bind λys=>qE (tV S 11) xs ys)=_;rw[h,hr]
 cases L<;>rfl
def LH{n:Nat}{w:ae}{far:Int}(h:yV S b)(hn:n<=8)(pw:w.Perm<|rg n)(h0:0<=far) :
  ∃(x:ae) (S':iI),lJ [.ref b,.tup<|w.map .int,.int far] S=.ok (.tup<|x.map .int) S'/\x.Perm (rg n)/\Below x w/\(Iv.inv w:Int)-Iv.inv x<=far/\yV S' b/\Kp (·=b) S S':=by
 obtain⟨dd,S1,e1,d1,d2,b1,k1⟩:=digit h (show(1:Int)<=7 by decide) ⋯;unfold lJ qM qF;dsimp[jk,mY,bools,jF,Nat.reduceAdd,Nat.reduceSub];refine rH (lo:=0) (hi:=dd) (S1:=S1) (src:=oJ) (show oJ _ _=_ from pZ (by dsimp[jk,mY,bools,e1])<|kL () ())
  (λ_ τ T=>∃(x:ae) (left:Int),(∃x4 x5 x6 x7 x8,τ=[.ref b,.tup<|w.map .int,.int left,.tup<|x.map .int,x4,x5,x6,x7,x8])/\x.Perm (rg n)/\Below x w/\0<=left/\left+((Iv.inv w:Int)-Iv.inv x)=far/\yV T b/\Kp (·=b) S T)
  (λr=>∃(x:ae) (S':iI),(r.seq<|jG<|iD 3).end=.ok (.tup<|x.map .int) S'/\x.Perm (rg n)/\Below x w/\(Iv.inv w:Int)-Iv.inv x<=far/\yV S' b/\Kp (·=b) S S')
  ⟨w,far,⟨_,_,_,_,_,rfl⟩,pw,Below.refl _,h0,(),b1,k1⟩ ?_ ?_
 ·rintro i τ T hi ⟨x,left,⟨x4,x5,x6,x7,x8,rfl⟩,px,bx,l0,lf,bT,kT⟩;left;have lx:=m9 px;obtain⟨V,T1,L,e2,hV,lL,gL,k2⟩:=Uk (S:=T) (left:=left) lx hn;have bT1:=bT.kp k2 λz=>z;have k3:oq T1 (T1++[O.lst []]):=Kp.refl.lay;have bT2:=bT1.kp k3 λz=>z;have hV2:=k3.lst _ _ (λz=>z) hV;have ne:=zL<|F5 hV2 (r:=T1.length) jj;unfold sd
  cases L with
  | nil=>
   refine⟨[.ref b,.tup<|w.map .int,.int left,.tup<|x.map .int,.int<|0+(i:Int),.ref V,x6,x7,x8],T1++[O.lst []],?_,x,left,⟨_,_,_,_,_,rfl⟩,px,bx,l0,lf,bT2,(kT.trans k2.of0).trans k3.of0⟩;dsimp[jk,mY,bools,e2,ne,List.isEmpty_nil,b_]
  | cons q0 L0=>
   obtain⟨L,hL⟩:∃L,L=q0::L0:=⟨_,rfl⟩;have lp:1<=L.length:=by rw[hL,bz];lia
   rw[<- hL]at hV hV2 lL gL ne;have em:L.isEmpty=false:=by rw[hL];rfl
   rw[em]at ne;obtain⟨d,T3,e4,q1,q2,bT3,k4⟩:=digit bT2 (show(1:Int)<=(L.length:Int)by lia) ();have vb:V≠b:=λz=>by
    have:=bT.lt;obtain⟨g,st,z1,_⟩:=bT1;rw[z]at hV;rw[hV]at z1;have z1:=aU z1;obtain⟨_,_,_,_,_,_,z2⟩:=gL (.int g) (by rw[z1];exact aN ..);unfold qt at z2
    cases z2
   have hV3:=k4.lst _ _ vb hV2;obtain⟨q,hq⟩:∃q,L[d.toNat]?=some q:=⟨_,aG ()⟩;obtain⟨i',j',h1,h2,h3,h4,rfl⟩:=gL q<|aY hq;have at_:nV L d=some (qt x i' j'):=Aq (k:=d.toNat) () hq;obtain⟨s1,s2,s3⟩:=Hz.Yx px h1 h2 h3;have sw:=O9 (S:=T3) (xs:=x) h1 () ();refine⟨[.ref b,.tup<|w.map .int,.int<|left-(1+2 * (Hz.am x i' j':Int)),.tup<|(Iv.sw x i' j').map .int,.int<|0+(i:Int),.ref V,.int i',.int j',.int<|1+2 * (Hz.am x i' j':Int)],T3,?_,Iv.sw x i' j',_,⟨_,_,_,_,_,rfl⟩,s2,s3.trans bx,(),(),bT3,((kT.trans k2.of0).trans k3.of0).trans k4⟩;unfold qt at at_;dsimp[jk,mY,bools,e2,ne,dJ,hV2,e4,hV3,at_,j4<|show([_,_,_]:ad).length=3 from rfl,sw]
 ·rintro τ T ⟨x,left,⟨x4,x5,x6,x7,x8,rfl⟩,px,bx,l0,lf,bT,kT⟩;exact⟨x,T,by dsimp[jk,mY,bools],px,bx,(),bT,kT⟩
def ER{n:Nat}{x:ae}(lx:x.length=n)(hn:n<=8):∃S',mS [.tup<|x.map .int] S=.ok (.tup<|(Hz.ov n x).map .int) S'/\oq S S':=by
 have cm:=Ju (cap:=[some 0]) (src:=oY<|iD 0) (e:=iJ aSub (iJ jq (jf (f1 mz)<|iE (iD 1) iQ)<|eC<|.int 1)<|iD 0) (τ:=[.tup<|x.map .int]) (S:=S) (S1:=S) (xs:=x.map .int)
  (KD<|by dsimp[jk,mY,bools]) (λa=>match a with | .int v=>.int ((n:Int)+1-v)|_=>.unb) (λa ha=>by
   obtain⟨v,_,rfl⟩:=bV.mp ha;dsimp[jk,mY,bools,aL,lx]) (by rw[aL];lia)
 rw[cH]at cm;have e:x.map ((λa=>match a with | .int v=>A.int ((n:Int)+1-v)|_=>.unb) ∘ A.int)=(Hz.ov n x).map .int:=by unfold Hz.ov;rw[cH];rfl
 rw[e]at cm;refine⟨S++[O.lst<|(Hz.ov n x).map .int],?_,Kp.refl.lay⟩;unfold mS sZ sf;dsimp[jk,mY,bools,jF,Nat.reduceAdd,Nat.reduceSub,cm]
end K36
namespace K36
open PySem L2 Am
open Bl
open Po (Pl Ok)
open Hz (IsR)
open Fw (rg)
def Vv{k:Nat}{a b c d:Int}:tV S (k+2) (.tup [.int a,.int b]) (.tup [.int c,.int d])=some (decide<|(a,b)=(c,d)):=by
 show((some<|a == c).bind λp=>((some<|b == d).bind λq=>(some true).map λr=>q && r).map λq=>p && q)=_;by_cases h1:a=c
 ·by_cases h2:b=d
  ·subst h1 h2;simp
  ·subst h1;simp[h2]
 ·simp[h1]
theorem A0{k:Nat}:∀l m:Pl,qE (tV S<|k+2) (Po.pl l) (Po.pl m)=some (decide<|l=m)
 | [],[]=>rfl
 | [],_::_=>rfl
 | _::_,[]=>rfl
 | p::l,q::m=>by
  show(tV S (k+2) (.tup [.int p.1,.int p.2])<|.tup [.int q.1,.int q.2]).bind (λa=>(qE (tV S<|k+2) (Po.pl l)<|Po.pl m).map λb=>a && b)=_;rw[Vv,A0 l m];show some (decide (p=q) && decide (l=m))=_;by_cases h1:p=q
  ·by_cases h2:l=m
   ·subst h1 h2;simp
   ·simp[h2]
  ·simp[h1]
def Fy(N:Nat):(L2.M6 (N:Int) 0).Perm (rg N):=by
 have e:(List.range ((N:Int)-0).toNat).map (λk:Nat=>(N:Int)-(k:Int))=((List.range ((N:Int)+1-1).toNat).map λk:Nat=>1+(k:Int)).reverse:=by
  refine fJ (by simp) λi h1 h2=>?_;simp at h1;simp
  lia
 show((List.range ((N:Int)-0).toNat).map λk:Nat=>(N:Int)-(k:Int)).Perm ((List.range ((N:Int)+1-1).toNat).map λk:Nat=>1+(k:Int));rw[e];exact g8 _
abbrev VX:Sm:=je (jn (eFn lK<|iE (iD 0)<|iE (iD 2) iQ)<|jB 4)
 (je (tR (v_ (mX<|iJ (qo false) (eFn iY<|iE (iD 0)<|iE (eC<|.int 8) iQ)<|eC<|.int 3)<|mX<|iJ Au (iD 2)<|eC<|.int 6)
 (jn (LP (iD 2) (eC<|.int 0)<|M4 CQ<|eC<|.int 1)<|jB 4)
 mK)
 (jG<|mD<|iE (eFn lJ<|iE (iD 0)<|iE (iD 4)<|iE (iD 3) iQ)<|iE (iD 4) iQ))
def LG{n:Nat}{k far:Int}(h:yV S b)(h1:1<=n)(h7:n<=7)(f0:0<=far) :
  ∃(x w:ae) (S':iI),(VX [.ref b,.int k,.int n,.int far,.unb] S).end=.ok (.tup [.tup<|x.map .int,.tup<|w.map .int]) S'/\x.Perm (rg n)/\w.Perm (rg n)/\Below x w/\(Iv.inv w:Int)-Iv.inv x<=far:=by
 obtain⟨o1,S4,e4,po1,b4,k4⟩:=LX (n:=(n:Int)) h () ();obtain⟨t,S5,e5,_,_,b5,k5⟩:=digit (m:=8) b4 ⋯ ⋯;unfold VX;dsimp[jk,mY,bools,e4,e5];by_cases c:t=3
 ·by_cases c2:(n:Int)<6
  ·have td:=OO (c:=iD 2) (d:=eC<|.int 0) (e:=M4 CQ<|eC<|.int 1) (τ:=[.ref b,.int k,.int n,.int far,.tup<|o1.map .int]) (S:=S5) (S1:=S5) (S2:=S5) (S3:=S5) (i:=(n:Int)) (j:=0) (by dsimp[jk,bools]) (by dsimp[jk,bools]) (by dsimp[jk,bools]) (kL () ()) (kL ⋯ ⋯) ();obtain⟨x,S6,e6,px,bx,fx,b6,k6⟩:=LH (S:=S5) (b:=b) (n:=n) (w:=L2.M6 (n:Int) 0) (far:=far) b5 () (Fy n) f0;refine⟨x,L2.M6 (n:Int) 0,S6,?_,px,Fy n,bx,fx⟩;rw[c,bK];dsimp[jk,mY,bools,aT c2,td,e6,jF,Nat.reduceAdd,wK]
  ·obtain⟨x,S6,e6,px,bx,fx,b6,k6⟩:=LH (S:=S5) (b:=b) (n:=n) (w:=o1) (far:=far) b5 () po1 f0;refine⟨x,o1,S6,?_,px,po1,bx,fx⟩;rw[c,bK];dsimp[jk,mY,bools,aS c2,e6,jF,Nat.reduceAdd,wK]
 ·obtain⟨x,S6,e6,px,bx,fx,b6,k6⟩:=LH (S:=S5) (b:=b) (n:=n) (w:=o1) (far:=far) b5 () po1 f0;refine⟨x,o1,S6,?_,px,po1,bx,fx⟩;rw[cW.mpr c];dsimp[jk,mY,bools,e6,jF,Nat.reduceAdd,wK]
def OV{k:Int}(h:yV S b)(h0:0<=k) :
  ∃(n:Nat) (x w:ae) (S':iI),nG [.ref b,.int k] S=.ok (.tup [.tup<|x.map .int,.tup<|w.map .int]) S'/\1<=n/\n<=7/\x.Perm (rg n)/\w.Perm (rg n)/\Below x w/\(n<=5\/(Iv.inv w:Int)-Iv.inv x<=6):=by
 have k2:oq S (S++[O.lst [.int 4,.int 3]]):=Kp.refl.lay;obtain⟨v,hv,v3,v4⟩:∃v:Int,nV ([.int 4,.int 3]:ad) (if decide ((0:Int)<k)=true then 1 else 0)=some (.int v)/\3<=v/\v<=4:=by
  by_cases c:(0:Int)<k
  ·rw[aT c];exact⟨3,rfl,by decide,by decide⟩
  ·rw[aS c];exact⟨4,rfl,by decide,by decide⟩
 obtain⟨d,S3,e3,d0,d1,b3,k3⟩:=digit (S:=S++[O.lst [.int 4,.int 3]]) (m:=v) (h.kp k2 λz=>z) () ();obtain⟨N,hN⟩:∃N:Nat,(N:Int)=2+d:=⟨(2+d).toNat,()⟩;have hm:sQ=je (jn (iJ jq (eC<|.int 2)<|eFn iY<|iE (iD 0)<|iE (iJ pP (sW<|iE (eC<|.int 4)<|iE (eC<|.int 3) iQ)<|jf (f1 CC)<|iE (iJ Dl (iD 1)<|eC<|.int 0) iQ) iQ)<|jB 2)
  (je (jn (eC<|.int 20)<|jB 3)
  (je (tR (v_ (mX<|iJ (qo false) (iD 1)<|eC<|.int 0)<|mX<|iJ (qo false) (eFn iY<|iE (iD 0)<|iE (eC<|.int 4) iQ)<|eC<|.int 2)
  (je (jn (iJ jq (eC<|.int 6)<|eFn iY<|iE (iD 0)<|iE (eC<|.int 2) iQ)<|jB 2)
  (jn (eC<|.int 6)<|jB 3))
  mK) VX)):=rfl
 unfold nG sU;rw[hm];obtain⟨c,hc⟩:∃c,c=VX:=⟨_,rfl⟩;rw[<- hc];by_cases ck:k=0
 ·subst ck;obtain⟨d2,S4,e4,_,_,b4,k4⟩:=digit (m:=4) b3 ⋯ ⋯;by_cases c2:d2=2
  ·obtain⟨d5,S5,e5,d50,d51,b5,k5⟩:=digit (m:=2) b4 ⋯ ⋯;obtain⟨M,hM⟩:∃M:Nat,(M:Int)=6+d5:=⟨(6+d5).toNat,()⟩;obtain⟨x,w,S',e,px,pw,bx,fx⟩:=LG (S:=S5) (b:=b) (n:=M) (k:=0) (far:=6) b5 () () ⋯;refine⟨M,x,w,S',?_,(),(),px,pw,bx,.inr fx⟩;rw[<- hc]at e;dsimp[jk,mY,bools,jF,Nat.reduceAdd,Nat.reduceSub,hv,e3,<- hN,bK,e4,c2,e5,<- hM];exact e
  ·obtain⟨x,w,S',e,px,pw,bx,fx⟩:=LG (S:=S4) (b:=b) (n:=N) (k:=0) (far:=20) b4 () () ⋯;refine⟨N,x,w,S',?_,(),(),px,pw,bx,.inl ()⟩;rw[<- hc]at e;dsimp[jk,mY,bools,jF,Nat.reduceAdd,Nat.reduceSub,hv,e3,<- hN,bK,e4,cW.mpr c2];exact e
 ·obtain⟨x,w,S',e,px,pw,bx,fx⟩:=LG (S:=S3) (b:=b) (n:=N) (k:=k) (far:=20) b3 () () ⋯;refine⟨N,x,w,S',?_,(),(),px,pw,bx,.inl ()⟩;rw[<- hc]at e;dsimp[jk,mY,bools,jF,Nat.reduceAdd,Nat.reduceSub,hv,e3,<- hN,cW.mpr ck];exact e
def UN{a:Nat}(ha:iH S a=some (Po.pl l))(hb:iH S b=some (Po.pl l)):tV S 12 (.ref a) (.ref b)=some true:=by
 show(iH S a).bind (λxs=>(iH S b).bind λys=>qE (tV S 11) xs ys)=_;rw[ha,hb];show qE (tV S 11) (Po.pl l) (Po.pl l)=_;rw[A0,aT rfl]
def diff{n:Nat}{x w y z:ae}(h:IsR n x w l)(px:x.Perm<|rg n)(pw:w.Perm<|rg n)(b:Below x w)(h':IsR m y z l)(py:y.Perm<|rg m)(pz:z.Perm<|rg m):Below y z/\(Iv.inv z:Int)-Iv.inv y=(Iv.inv w:Int)-Iv.inv x:=by
 obtain⟨a,ha⟩:=h.last px pw b;have b':Below y z:=by
  by_cases c:Below y z
  ·exact c
  ·have:=h'.eq<|Hz.DW py pz c;rw[this]at ha;exact absurd ha<|by simp
 obtain⟨a',ha'⟩:=h'.last py pz b';rw[ha]at ha';have:=List.append_inj' ha' rfl;have e:=List.cons.inj this.2;have e1:=dm Prod.fst e.1;exact⟨b',e1.symm⟩
def again{n r:Nat}{x w y z:ae}(h:IsR n x w l)(px:x.Perm<|rg n)(pw:w.Perm<|rg n)(b:Below x w)(hr:iH S r=some (Po.pl l))(h':IsR m y z l)(py:y.Perm<|rg m)(pz:z.Perm<|rg m)(h1:1<=m)(h8:m<=8)(hi:Iv.inv z<=21)(hd:m<=5\/(Iv.inv w:Int)-Iv.inv x<=6) :
  ∃(r':Nat) (S':iI),mQ [.tup<|y.map .int,.tup<|z.map .int] S=.ok (.ref r') S'/\qo false (.ref r') (.ref r) S'=.ok (.bl true) S'/\qo true (.ref r') (.ref r) S'=.ok (.bl false) S'/\oq S S':=by
 obtain⟨_,e⟩:=diff h px pw b h' py pz;obtain⟨r',S',l',e1,a1,q1,k1⟩:=EZ (S:=S) h1 h8 py pz hi (by rw[e];exact hd);have el:=q1.eq h';subst el;have eq:=UN a1<|k1.lst _ _ (λz=>z) hr;exact⟨r',S',e1,Dg eq,zL eq,k1⟩
def O6{x:ae}:(x.map A.int).reverse=x.reverse.map A.int:=List.map_reverse.symm
def OD{n r:Nat}{x w:ae}(h1:1<=n)(h7:n<=7)(px:x.Perm<|rg n)(pw:w.Perm<|rg n)(b:Below x w)(hd:n<=5\/(Iv.inv w:Int)-Iv.inv x<=6)(hr:iH S r=some (Po.pl l))(h:IsR n x w l) :
  ∃S',nR [.tup<|x.map .int,.tup<|w.map .int,.ref r] S=.ok (.bl true) S'/\oq S S':=by
 obtain⟨xb,S1,e1,q1,px1,k1⟩:=Eg (S:=S) px ();obtain⟨wb,S2,e2,q2,pw2,k2⟩:=Eg (S:=S1) pw ();have ex:xb=He.bk x:=He.jI ⟨px,px1,q1⟩<|He.jZ px;have ew:wb=He.bk w:=He.jI ⟨pw,pw2,q2⟩<|He.jZ pw;subst ex ew;have k02:=k1.trans k2;obtain⟨r3,S3,e3,_,n3,k3⟩:=again h px pw b (k02.lst _ _ (λz=>z) hr) (h.bk px pw) px1 pw2 h1 () (Hz.wA pw2 h7) hd;have k03:=k02.trans k3;obtain⟨S4,e4,k4⟩:=ER (S:=S3) (m9 pw) ();obtain⟨S5,e5,k5⟩:=ER (S:=S4) (m9 px) ();have k05:=(k03.trans k4).trans k5;obtain⟨r6,S6,e6,_,n6,k6⟩:=again h px pw b (k05.lst _ _ (λz=>z) hr) (h.ov px pw) (Hz.wI pw) (Hz.wI px) h1 () (Hz.wA (Hz.wI px) h7) hd;have k06:=k05.trans k6;obtain⟨r7,S7,e7,n7,_,k7⟩:=again h px pw b (k06.lst _ _ (λz=>z) hr) (h.rev px pw) (Hz.oW pw) (Hz.oW px) h1 () (Hz.wA (Hz.oW px) h7) hd;refine⟨S7,?_,k06.trans k7⟩;unfold nR sG sX;dsimp[jk,mY,bools,jF,Nat.reduceAdd,Nat.reduceSub,e1,e2,e3,n3,e4,e5,e6,n6,O6,e7,n7]
def SY(ns:ae)(hl:ns.length<=63):∃S',yr [.frz<|ns.map .int] []=.ok (.bl true) S':=by
 unfold yr ML IU;dsimp[jk,bools,jF,Nat.reduceAdd,Nat.reduceSub];refine rH (lo:=0) (hi:=if (if 4<(ns.length:Int)then 4 else(ns.length:Int))>1 then(if 4<(ns.length:Int)then 4 else(ns.length:Int))else 1) (S1:=[]) (show Fp _ _=_ from pZ (by dsimp[jk,bools,aL])<|kL (by split<;>split<;>lia)<|by split<;>split<;>lia)
  (λ_ τ _=>∃a1 a2 a3 a4 a5 a6 a7 a8 a9:A,τ=[.frz<|ns.map .int,a1,a2,a3,a4,a5,a6,a7,a8,a9]) (λr=>∃S',RS.end (RS.seq r _)=.ok (.bl true) S') ⟨_,_,_,_,_,_,_,_,_,rfl⟩ ?_ ?_
 ·rintro i τ S hi ⟨a1,a2,a3,a4,a5,a6,a7,a8,a9,rfl⟩;left;have hi4:(i:Int)<4:=by split at hi<;>split at hi<;>lia
  obtain⟨S1,e1,b1,kp1⟩:=NP (S:=S) (ns:=ns) (k:=0+(i:Int)) () ();obtain⟨n,x,w,S2,e2,n1,n7,px,pw,bx,hd⟩:=OV (k:=0+(i:Int)) b1 ();have lx:=m9 px;obtain⟨r,S3,l,e3,hr,hR,k3⟩:=EZ (S:=S2) n1 () px pw (Hz.wA pw n7) hd;obtain⟨S4,e4,k4⟩:=vQ (S:=S3) n1 () pw;obtain⟨S5,e5,k5⟩:=vQ (S:=S4) n1 () px;have hr5:=(k4.trans k5).lst _ _ (λz=>z) hr;obtain⟨m,hm⟩:=hR.last px pw bx;obtain⟨S6,hS6⟩:∃S6,S6=S5++[O.lst []]:=⟨_,rfl⟩;have k6:oq S5 S6:=by rw[hS6];exact Kp.refl.lay
  have hr6:=k6.lst _ _ (λz=>z) hr5;have ne:(Po.pl l).isEmpty=false:=by rw[hm];unfold Po.pl;rw[cj];cases(m.map Po.pA)<;>rfl
  have eq6:=Dg (F5 hr6 (r:=S5.length)<|by rw[hS6];exact jj);rw[ne]at eq6;have la:nV (Po.pl l) (-1)=some (.tup [.int<|(Iv.inv w:Int)-Iv.inv x,.int 1]):=by
   have ll:(Po.pl l).length=m.length+1:=by unfold Po.pl;rw[aL,hm,aX];rfl
   rw[hm];unfold Po.pl;rw[cj];exact Ip _ _
  have nq:qo true (.tup [.int<|(Iv.inv w:Int)-Iv.inv x,.int 1]) (.tup [.int<|(Iv.inv w:Int)-Iv.inv x,.int 1]) S6=.ok (.bl false) S6:=by
   rw[zL (k:=true)<|by rw[Vv,aT rfl]];rfl
  have lp:∃y7 y8,mE vE (AM 2<|rV (jB 7)<|rV (jB 8) Bx) vJ [.frz<|ns.map .int,.int<|0+(i:Int),.ref S.length,.tup<|x.map .int,.tup<|w.map .int,.ref r,.int<|(Iv.inv w:Int)-Iv.inv x,a7,a8,a9] S6=.nx [.frz<|ns.map .int,.int<|0+(i:Int),.ref S.length,.tup<|x.map .int,.tup<|w.map .int,.ref r,.int<|(Iv.inv w:Int)-Iv.inv x,y7,y8,a9] S6:=by
   refine vI (n:=r) (xs:=Po.pl l) (S1:=S6) (show vE _ _=_ from uO (by dsimp[jk,mY,bools]) hr6)
    (λ_ τ T=>T=S6/\∃y7 y8,τ=[.frz<|ns.map .int,.int<|0+(i:Int),.ref S.length,.tup<|x.map .int,.tup<|w.map .int,.ref r,.int<|(Iv.inv w:Int)-Iv.inv x,y7,y8,a9])
    (λq=>∃y7 y8,q=.nx [.frz<|ns.map .int,.int<|0+(i:Int),.ref S.length,.tup<|x.map .int,.tup<|w.map .int,.ref r,.int<|(Iv.inv w:Int)-Iv.inv x,y7,y8,a9] S6) ⟨rfl,_,_,rfl⟩ (λ_ _ _ z=>by rw[z.1];exact hr6) ?_ ?_
   ·rintro t q τ T hq ⟨rfl,y7,y8,rfl⟩;obtain⟨p,hp,rfl⟩:=bV.mp<|aY hq;obtain⟨p0,p1,p2,p3,p4⟩:=hR.keys px pw hp;refine⟨[.frz<|ns.map .int,.int<|0+(i:Int),.ref S.length,.tup<|x.map .int,.tup<|w.map .int,.ref r,.int<|(Iv.inv w:Int)-Iv.inv x,.int p.1,.int p.2,a9],T,?_,.inl ⟨_,T,?_,rfl,.int p.1,.int p.2,rfl⟩⟩
    ·show AM 2 _ (.tup [.int p.1,.int p.2]) _ _=_;dsimp[jk,mY,bools,j4<|show([_,_]:ad).length=2 from rfl]
    ·have md:x_ (.int<|(Iv.inv w:Int)-Iv.inv x-p.1) (.int 2) T=.ok (.int 0) T:=by rw[zd ⋯,p4]
     unfold vJ;dsimp[jk,mY,bools,md,aS<|show ¬p.2<1 by lia,aS<|show ¬p.1<0 by lia,g7,bK,b_]
   ·rintro τ T ⟨rfl,y7,y8,rfl⟩;exact⟨y7,y8,rfl⟩
  obtain⟨y7,y8,lp⟩:=lp;obtain⟨S7,e7,k7⟩:=OD (S:=S6) n1 n7 px pw bx hd hr6 hR;have hr7:=k7.lst _ _ (λz=>z) hr6;have more:∃S8,tR (v_ (M5 (mX<|iJ Au (iD 9)<|eC<|.int 6)<|mX<|iJ Au (iD 6)<|eC<|.int 7)<|mX<|iJ (qo true) (eFn mQ<|iE (iJ jq (iD 3)<|mD<|iE (iD 9) iQ)<|iE (iJ jq (iD 4)<|mD<|iE (iD 9) iQ) iQ)<|iD 5) (jG<|eC<|.bl false) mK [.frz<|ns.map .int,.int<|0+(i:Int),.ref S.length,.tup<|x.map .int,.tup<|w.map .int,.ref r,.int<|(Iv.inv w:Int)-Iv.inv x,y7,y8,.int<|(n:Int)+1] S7=.nx [.frz<|ns.map .int,.int<|0+(i:Int),.ref S.length,.tup<|x.map .int,.tup<|w.map .int,.ref r,.int<|(Iv.inv w:Int)-Iv.inv x,y7,y8,.int<|(n:Int)+1] S8:=by
   by_cases c:(n:Int)+1<6\/(Iv.inv w:Int)-Iv.inv x<7
   ·have iw:Iv.inv (w++[(n:Int)+1])=Iv.inv w:=Hz.OA λv hv=>by have:=jz.mp<|pw.mem_iff.mp hv;lia
    obtain⟨r8,S8,e8,_,n8,k8⟩:=again hR px pw bx hr7 (hR.app px pw) (Hz.wG px) (Hz.wG pw) () () (by rw[iw];exact Hz.wA pw n7) ();have d1:∀{o:ae},o.length=n->jq (.tup<|o.map .int) (.tup [.int<|(n:Int)+1]) S7=.ok (.tup<|(o++[(n:Int)+1]).map .int) S7:=λ{o} lo=>ya (ys:=[(n:Int)+1]) (by show o.length+1<=_;lia);refine⟨S8,?_⟩;by_cases c1:(n:Int)+1<6
    ·dsimp[jk,mY,bools,aT c1,IW<|show 1<=sizeLine by rw[cR];decide,jF,Nat.reduceAdd,d1 lx,d1<|m9 pw,e8,n8]
    ·have c2:(Iv.inv w:Int)-Iv.inv x<7:=()
     dsimp[jk,mY,bools,aS c1,aT c2,IW<|show 1<=sizeLine by rw[cR];decide,jF,Nat.reduceAdd,d1 lx,d1<|m9 pw,e8,n8]
   ·have c1:¬(n:Int)+1<6:=λz=>c<|.inl z;have c2:¬(Iv.inv w:Int)-Iv.inv x<7:=λz=>c<|.inr z;refine⟨S7,?_⟩;dsimp[jk,mY,bools,aS c1,aS c2]
  obtain⟨S8,more⟩:=more;have step:An [.frz<|ns.map .int,.int<|0+(i:Int),a2,a3,a4,a5,a6,a7,a8,a9] S=.nx [.frz<|ns.map .int,.int<|0+(i:Int),.ref S.length,.tup<|x.map .int,.tup<|w.map .int,.ref r,.int<|(Iv.inv w:Int)-Iv.inv x,y7,y8,.int<|(n:Int)+1] S8:=by
   unfold An;obtain⟨c1,hc1⟩:∃c,c=mE vE (AM 2<|rV (jB 7)<|rV (jB 8) Bx) vJ:=⟨_,rfl⟩;obtain⟨c2,hc2⟩:∃c,c=tR (v_ (M5 (mX<|iJ Au (iD 9)<|eC<|.int 6)<|mX<|iJ Au (iD 6)<|eC<|.int 7)<|mX<|iJ (qo true) (eFn mQ<|iE (iJ jq (iD 3)<|mD<|iE (iD 9) iQ)<|iE (iJ jq (iD 4)<|mD<|iE (iD 9) iQ) iQ)<|iD 5) (jG<|eC<|.bl false) mK:=⟨_,rfl⟩;rw[<- hc1,<- hc2];rw[<- hc1]at lp;rw[<- hc2]at more;dsimp[jk,mY,bools,e1,e2,j4<|show([_,_]:ad).length=2 from rfl,e3,e4,e5];rw[<- hS6];dsimp[jk,mY,bools,eq6,hr6,la,jF,Nat.reduceAdd,wK,nq,lp,e7,b_,aL,lx,more]
  exact⟨_,S8,step,_,_,_,_,_,_,_,_,_,rfl⟩
 ·rintro τ S ⟨a1,a2,a3,a4,a5,a6,a7,a8,a9,rfl⟩;exact⟨S,by dsimp[jk,mY,bools]⟩
end K36
namespace K36
open PySem L2 Am
def all_mk{l:PySem.W.OpenLaw}{w:ah}{K:au}{h:aq}{mg:Str->bb}{fa:ak}(X:K.In h)(G:h.Ns mainGlobals mg)(hfa:mg "law" = some (.ref fa))
  (a1:Df K "is_whole" sJ)
  (a2:Df K "need_pair" qY)
  (a3:Df K "back" CM)
  (a4:Df K "is_exchange" oV)
  (a5:Df K "exchanged_places" lE)
  (a6:Df K "exchanged" qy)
  (a7:Df K "place_pairs" pG)
  (a8:Df K "wrong_pairs" o8)
  (a9:Df K "length" xX)
  (a10:Df K "falls" zN)
  (a11:Df K "first_above_nought" kB)
  (a12:Df K "bar" JD)
  (a13:Df K "is_below" sY)
  (a14:Df K "need_bounds" oO)
  (a15:Df K "as_polynomial" m7)
  (a16:Df K "plus" CW)
  (a17:Df K "times" zZ)
  (a18:Df K "need_rest" qz)
  (a19:Df K "rest_by_fall" nU)
  (a20:Df K "found_rest" nu)
  (a21:Df K "rest" C_)
  (a22:Df K "_law_bag" uT)
  (a23:Df K "_law_digit" q_)
  (a24:Df K "_law_order" qW)
  (a25:Df K "_law_swapped" pH)
  (a26:Df K "_law_pairs_less" mL)
  (a27:Df K "_law_under" qH)
  (a28:Df K "_law_case" sC)
  (a29:Df K "_law_over" sS)
  (a30:Df K "_law_like" sF)
  (a31:Df K "law" KY)
  (Zq:PySem.W.nsIn K mainGlobals "isinstance" = some none)
  (Zr:PySem.W.nsIn K mainGlobals "bool" = some none)
  (Zs:PySem.W.nsIn K mainGlobals "int" = some none)
  (Zt:PySem.W.nsIn K mainGlobals "len" = some none)
  (Zu:PySem.W.nsIn K mainGlobals "enumerate" = some none)
  (Zv:PySem.W.nsIn K mainGlobals "tuple" = some none)
  (Zx:PySem.W.nsIn K mainGlobals "list" = some none)
  (Zy:PySem.W.nsIn K mainGlobals "range" = some none)
  (Zz:PySem.W.nsIn K mainGlobals "max" = some none)
  (ZA:PySem.W.nsIn K mainGlobals "sorted" = some none)
  (ZC:PySem.W.nsIn K mainGlobals "dict" = some none)
  (ZD:PySem.W.nsIn K mainGlobals "min" = some none)
  {Zm:Tok} (ZE:PySem.W.nsIn K mainGlobals "MOST_PAIRS" = some (some<|.int 6 Zm))
  {Zn:Tok} (ZF:PySem.W.nsIn K mainGlobals "MOST_THINGS" = some (some<|.int 8 Zn))
  {Zo:Tok} (ZG:PySem.W.nsIn K mainGlobals "FREE_THINGS" = some (some<|.int 5 Zo))
  : ∃fd:FuncData,(∀(s:aC) (v:af),BindsTo s fd ⟨[v],[]⟩ [("_law_script",v)])/\∀base:aq,K.In base->base.Ns mainGlobals mg->FnOk l.prog w K mg base nX 51 fa fd ["_law_script"] (pV K 1 yr):=by
 obtain⟨f,fd,a,F⟩:=a31;have e:=hfa.symm.trans (gC X G a)
 cases e
 have YN:=b9 X G Zq;have YT:=b9 X G Zr;have YH:=b9 X G Zs;have YB:=b9 X G Zt;have YU:=b9 X G Zu;have YD:=b9 X G Zv;have YI:=b9 X G Zx;have YC:=b9 X G Zy;have YJ:=b9 X G Zz;have Y4:=b9 X G ZA;have Y5:=b9 X G ZC;have Zh:=b9 X G ZD;have Y6:∃t,mg "MOST_PAIRS" = some (.int 6 t):=⟨Zm,gC X G ZE⟩;have Y7:∃t,mg "MOST_THINGS" = some (.int 8 t):=⟨Zn,gC X G ZF⟩;have Y8:∃t,mg "FREE_THINGS" = some (.int 5 t):=⟨Zo,gC X G ZG⟩;refine⟨fd,λs v=>(by obtain⟨_,_,_,_,_,_,_,_,_,rfl,_,_⟩:=F.ex;exact .of_eq rfl),λbase _ _=>?_⟩;have E:En l.prog w K mg base:=⟨h,X,G⟩;have YV:=a1.kA E (λF=>Cw F YN YT YH)<|Pj λ_ _ _ _ _ _ _=>rfl;have YK:=a2.kA E (λF=>zU F YB)<|EG λ_ _ _ _ _ _ _ _=>rfl;have YR:=a3.kA E (λF=>N8 F YB YU YD)<|Pj λ_ _ _ _ _ _ _=>rfl;have YW:=a4.kA E (λF=>we F YV)<|EG λ_ _ _ _ _ _ _ _=>rfl;have YX:=a5.kA E (λF=>rR F YI YD)<|TZ λ_ _ _ _ _ _ _ _ _=>rfl;have YQ:=a6.kA E (λF=>zV F YB YW YX)<|EG λ_ _ _ _ _ _ _ _=>rfl;have YY:=a7.kA E (λF=>xg F YC)<|Pj λ_ _ _ _ _ _ _=>rfl;have YZ:=a8.kA E (λF=>xw F YB YY)<|Pj λ_ _ _ _ _ _ _=>rfl;have YG:=a9.kA E (λF=>HR F YB YZ)<|Pj λ_ _ _ _ _ _ _=>rfl;have YO:=a10.kA E (λF=>Jo F YC YB)<|Pj λ_ _ _ _ _ _ _=>rfl;have Y0:=a11.kA E (λF=>qm F)<|Pj λ_ _ _ _ _ _ _=>rfl;have Y3:=a12.kA E (λF=>SA F YB YC YJ YK Y0)<|EG λ_ _ _ _ _ _ _ _=>rfl;have YM:=a13.kA E (λF=>A7 F Y3)<|EG λ_ _ _ _ _ _ _ _=>rfl;have Y9:=a14.kA E (λF=>w9 F YB YG)<|Yh λ_ _ _ _ _ _ _ _ _ _ _=>rfl;have YL:=a15.kA E (λF=>uK F Y4)<|Pj λ_ _ _ _ _ _ _=>rfl;have Y_:=a16.kA E (λF=>OZ F Y5 YL)<|EG λ_ _ _ _ _ _ _ _=>rfl;have Za:=a17.kA E (λF=>JC F YL)<|EG λ_ _ _ _ _ _ _ _=>rfl;have Zb:=a18.kA E (λF=>Aa F Y6 Y7 Y8 YK Y9)<|EG λ_ _ _ _ _ _ _ _=>rfl;have M_rest_by_fall:∀{Fs:ad->iI->R A} {kr:Nat},nA l.prog w K mg base (4+2 * kr) "found_rest" jJ Fs->nA l.prog w K mg base (4+2 * kr+1) "rest_by_fall" ki (jT jV<|jv Fs):=λG=>a19.kA E (λF=>vg F YO YQ Y_ Za G)<|TZ λ_ _ _ _ _ _ _ _ _=>rfl;have Zc:=a20.rA E (λF hm hk hb=>qK F YM M_rest_by_fall hm hk hb 22)<|TZ λ_ _ _ _ _ _ _ _ _=>rfl;have YF:=a21.kA E (λF=>Pb F Zb Zc)<|EG λ_ _ _ _ _ _ _ _=>rfl;have Zi:=a22.kA E (λF=>DN F YB)<|EG λ_ _ _ _ _ _ _ _=>rfl;have YE:=a23.kA E (λF=>zA F)<|EG λ_ _ _ _ _ _ _ _=>rfl;have Zf:=a24.kA E (λF=>Az F YI YC YB YD YE)<|EG λ_ _ _ _ _ _ _ _=>rfl;have Ze:=a25.kA E (λF=>ye F)<|TZ λ_ _ _ _ _ _ _ _ _=>rfl;have Zd:=a26.kA E (λF=>t_ F YC YB)<|EG λ_ _ _ _ _ _ _ _=>rfl;have Zg:=a27.kA E (λF=>zO F YC YB YE Zd Ze)<|TZ λ_ _ _ _ _ _ _ _ _=>rfl;have Zj:=a28.kA E (λF=>Ct F YH YD YC YE Zf Zg)<|EG λ_ _ _ _ _ _ _ _=>rfl;have YS:=a29.kA E (λF=>AQ F YD YB)<|Pj λ_ _ _ _ _ _ _=>rfl;have Zk:=a30.kA E (λF=>Bj F YF YR YS)<|TZ λ_ _ _ _ _ _ _ _ _=>rfl;exact Rk F YC YJ Zh YB Zi Zj YF YG Zk
def walk{l:PySem.W.OpenLaw}{q:aj}{XP:(Str->bb)->aq->Prop}{YP:ah->aq->Prop}{d:DefRec}{K:Params->au}(hn:l.most=some 63)(hdf:d.params.defaults=[])
  (hY:∀(w:ah) (h:aq),YP w h->(K w.params).In h)
  (F:∀(w:ah) (mg:Str->bb) (fa:ak) (h:aq),(K w.params).In h->h.Ns mainGlobals mg->mg d.name=some (.ref fa) ->
   ∃fd:FuncData,(∀(s:aC) (u:af),BindsTo s fd ⟨[u],[]⟩ [("_law_script",u)])/\∀base:aq,(K w.params).In base->base.Ns mainGlobals mg->FnOk l.prog w (K w.params) mg base nX 51 fa fd ["_law_script"] (pV (K w.params) 1 yr)) :
  PySem.W.WalkO q loose XP YP l.row.toRowW d [] (λf vs=>PySem.call f vs):=
 L2.O2 (n:=63) (k:=51) (x := "_law_script") (CX:=λ_=>nX) (sp:=λw=>pV (K w.params) 1 yr) hn ⋯ hdf ⟨rfl,by decide,by decide⟩ hY F (λ_ H a ns hl hO hS=>G1 hO hS<|SY ns hl) λ_ _ _ _ _ z=>z
end K36
open PySem PySem.W PyProof.Rows
namespace PySem.W.Fast
def tw8380041117413170219:=Nat
def tw7000793343711114677:=Nat
def tw11120381617939280268:=Nat
def tw8085157814660076417:=Nat
def tw12161159286174506329:=Nat
def tw7285001893658372048:=Nat
def tw13907298597081240077:=Nat
def tw12600818584030287891:=Nat
def tw16041952907731048399:=Nat
def tw10781171884590752751:=Nat
def tw3677083460080660025:=Nat
def tw5350110065397694952:=Nat
def tw14948409884672739372:=Nat
def tw10896763867761578196:=Nat
def tw13159482805560550882:=Nat
def tw8815846607713740385:=Nat
def tw4276459637023576181:=Nat
def tw15834726359350787534:=Nat
def tw5379755480132957996:=Nat
def tw5490012992052334623:=Nat
def tw5963869977060788788:=Nat
def tw8321694686719111577:=Nat
def tw14961711342258936244:=Nat
def tw11752981873603283413:=Nat
def tw17165153543031533793:=Nat
def tw1115660332532405396:=Nat
def tw10344927784570610715:=Nat
def tw1001882906005599560:=Nat
def tw9988020878836791670:=Nat
def tw3155187288837132286:=Nat
def tw4748591496368536143:=Nat
def tw2940842079671849247:=Nat
def tw8188920456299902676:=Nat
def tw16888952441676071966:=Nat
def tw5128774044201849406:=Nat
def tw12626409133341129961:=Nat
def tw15281972348950936079:=Nat
def tw3011295469572504750:=Nat
def tw14617564358529246210:=Nat
def tw4307474071031232704:=Nat
def tw8428415513849134484:=Nat
def tw2902589674046285545:=Nat
def tw17650075298972453741:=Nat
def tw7191476460696873146:=Nat
def tw8441635669868795606:=Nat
def tw432464588326015288:=Nat
def tw4565170194709743539:=Nat
def tw1127306153774203438:=Nat
def tw17300142263507155546:=Nat
def tw7979959067080490528:=Nat
def tw7744334714188265329:=Nat
def tw17511247251250563564:=Nat
def tw1672390800351666675:=Nat
def tw5497344436633979365:=Nat
def tw14923130939626479421:=Nat
def tw11564799716813478361:=Nat
def tw17465738674916276746:=Nat
def tw10116777938320851484:=Nat
def tw4867365858443588872:=Nat
def tw15386676048436982892:=Nat
def tw15970536169752000067:=Nat
def tw2062340806329911840:=Nat
def tw10560265749462595970:=Nat
def tw4616994434378726810:=Nat
def tw5045675910926981390:=Nat
def tw9436368739504948947:=Nat
def tw3149007533604242139:=Nat
def tw6601796846404024244:=Nat
def tw8209573814569289189:=Nat
def tw14217201379447708947:=Nat
def tw3829022502822600383:=Nat
def tw2239924342412906126:=Nat
def tw10299768151705311168:=Nat
def tw11690498898722506180:=Nat
def tw5034914175514409376:=Nat
def tw3552328930034532992:=Nat
def tw12319358204543193460:=Nat
def tw3269566131817180681:=Nat
def tw15488791633719624070:=Nat
def tw15455129667891626426:=Nat
def tw2717657751858022010:=Nat
def tw15922139468704587846:=Nat
def tw17303926520068112350:=Nat
def tw16430387393298531522:=Nat
def tw10473164398903979767:=Nat
def tw1585826041967693853:=Nat
def tw8473080556897397064:=Nat
def tw7519742228656861380:=Nat
def tw17373348055816261768:=Nat
def tw9439923216323748741:=Nat
def tw12075591226531742065:=Nat
def tw7171730572451244049:=Nat
def tw11779025896899033222:=Nat
def tw12322846756142434667:=Nat
def tw1034905867532580005:=Nat
def tw12244855897911103461:=Nat
def tw14964406725289123465:=Nat
def tw5268861782929248412:=Nat
def tw11280068549127723380:=Nat
def tw826311410520811090:=Nat
def tw11405050678142883184:=Nat
def tw632545818068020895:=Nat
def tw11371718972548202295:=Nat
def tw13093930992919707308:=Nat
def tw7565253327683801280:=Nat
def tw12905134019931334705:=Nat
def tw14580859561221288750:=Nat
def tw7323555835188216174:=Nat
def tw16005999204248872808:=Nat
def tw13699679170238625686:=Nat
def tw5157006765603078324:=Nat
def tw5047697614451281426:=Nat
def tw14277026066009893777:=Nat
def tw4229961430999852950:=Nat
def tw12808968044482818030:=Nat
def tw12203007594386828309:=Nat
def tw17412511845920110013:=Nat
def tw16357702603100145703:=Nat
def tw15587636294459050381:=Nat
def tw5302029199604739503:=Nat
def tw3481087518282289519:=Nat
def tw1717964567294012530:=Nat
def tw2968150123752362196:=Nat
def tw5930848647694811997:=Nat
def tw12272525416316424941:=Nat
def tw13881169885682431223:=Nat
def tw14279330508041161361:=Nat
def tw7571665152611361900:=Nat
def tw7019260494800847906:=Nat
def tw17637050905244538624:=Nat
def tw7144198155304187656:=Nat
def tw13649882278392907640:=Nat
def tw97127211211505144:=Nat
def tw4176572920121395234:=Nat
def tw1372599093452326073:=Nat
def tw6029810959348717044:=Nat
def tw7576321664819579610:=Nat
def tw5191819709651015051:=Nat
def tw2811133472023734658:=Nat
def tw11300589717146717491:=Nat
end PySem.W.Fast
set_option maxRecDepth 100000 in
set_option maxHeartbeats 0 in
theorem PySem.Challenge.cw_undercells_k36_rests_turned_over_holds : PySem.Challenge.rw_undercells_k36_rests_turned_over.Holds := by
 w_on;o_law;k_head;(case hw=>w_witness2)
 k_fill
 refine K36.walk (l:=PySem.Challenge.rw_undercells_k36_rests_turned_over) rfl rfl (fun w h Y=>PySem.W.kIn_of Y) ?F
 case F=>
  intro w mg fa h KX G hmg;refine' K36.all_mk KX G hmg (.of ?_ ?_ ?_ ?_) (.of ?_ ?_ ?_ ?_) (.of ?_ ?_ ?_ ?_) (.of ?_ ?_ ?_ ?_) (.of ?_ ?_ ?_ ?_) (.of ?_ ?_ ?_ ?_) (.of ?_ ?_ ?_ ?_) (.of ?_ ?_ ?_ ?_) (.of ?_ ?_ ?_ ?_) (.of ?_ ?_ ?_ ?_) (.of ?_ ?_ ?_ ?_) (.of ?_ ?_ ?_ ?_) (.of ?_ ?_ ?_ ?_) (.of ?_ ?_ ?_ ?_) (.of ?_ ?_ ?_ ?_) (.of ?_ ?_ ?_ ?_) (.of ?_ ?_ ?_ ?_) (.of ?_ ?_ ?_ ?_) (.of ?_ ?_ ?_ ?_) (.of ?_ ?_ ?_ ?_) (.of ?_ ?_ ?_ ?_) (.of ?_ ?_ ?_ ?_) (.of ?_ ?_ ?_ ?_) (.of ?_ ?_ ?_ ?_) (.of ?_ ?_ ?_ ?_) (.of ?_ ?_ ?_ ?_) (.of ?_ ?_ ?_ ?_) (.of ?_ ?_ ?_ ?_) (.of ?_ ?_ ?_ ?_) (.of ?_ ?_ ?_ ?_) (.of ?_ ?_ ?_ ?_) ?_ ?_ ?_ ?_ ?_ ?_ ?_ ?_ ?_ ?_ ?_ ?_ ?_ ?_ ?_
  any_goals first|k_is|kernel_rfl
