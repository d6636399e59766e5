import PyProof.Rows.All
import Wide.All
import OpenK.AllK
import Wide.FinOn
import Lean
import PyProof.EqAt
import PyProof.EqKinds
import PyProof.TupleCall
import PySem.Challenge.RW_undercells_k33_rests_by_any_fall
set_option autoImplicit true
set_option relaxedAutoImplicit true
set_option Elab.async false
set_option linter.all false
set_option maxRecDepth 100000
set_option compiler.extract_closed false
set_option maxHeartbeats 4000000
local macro_rules|`(command|abbrev $n:declId $s:optDeclSig $v:declVal)=>`(command|noncomputable def $n:declId $s:optDeclSig $v:declVal)|`(command|meta abbrev $n:declId $s:optDeclSig $v:declVal)=>`(command|@[reducible]noncomputable def $n:declId $s:optDeclSig $v:declVal)
local macro_rules|`(∅)=>`(by decide +kernel)
local macro_rules|`(⋯)=>`(by decide)
local macro_rules|`(tactic|dsimp[$l,*])=>`(tactic|simp only[$l,*])|`(tactic|dsimp[$l,*]$o:location)=>`(tactic|simp only[$l,*]$o:location)
local macro_rules(kind:=Lean.Parser.Term.structInst)|`({})=>`({cls:=.type "list",data:=.seq ([]:List PySem.Value).toArray})
set_option hygiene false
local macro_rules|`(tactic|z_go)=>`(tactic|obtain⟨ρ,S,τ,R,r,h⟩:=h9)
local macro_rules|`(tactic|x_go)=>`(tactic|obtain⟨ρ,S,a,b,R,va,vb,h⟩:=h9)
local macro_rules|`(tactic|w_up)=>`(tactic|intro pins s σ H xs us Q I r h)
local macro_rules|`(tactic|k_ne)=>`(tactic|intro X hP hw hK hc i pins s σ H E I hf st hg)
local macro_rules|`(tactic|kt_k)=>`(tactic|intro pins s σ H Q I h)
local macro_rules|`(tactic|kd_p)=>`(tactic|obtain⟨w,rfl,ρ,S,x,R,hv,h⟩:=MC h0)
local macro_rules|`(tactic|gn_on)=>`(tactic|obtain⟨xs,hn,h⟩:=iX h)
local macro_rules|`(tactic|gp_on)=>`(tactic|intro pins s σ H x y v u Q I rx ry h)
local macro_rules|`(tactic|kj_on)=>`(tactic|obtain⟨u,rfl,rx⟩:=vals1 r)
local macro_rules|`(tactic|kcf_m)=>`(tactic|obtain⟨f0,f1,f2,f3,f4,f5⟩:=hf it (by simp))
local macro_rules|`(tactic|kcj_m)=>`(tactic|refine⟨ρ,S,τ,R,r,iO (iV h) .refl λo S1 h1 ρ1 H1 x e1 R1 v1=>⟨ρ1,S1,τ,R1,r.ext e1,iO (iV h1) e1 λi S2 h2 ρ2 H2 y e2 R2 v2=>?_⟩⟩)
local macro_rules|`(tactic|kpc_g)=>`(tactic|refine⟨ρ2,S2,o,i,a,R2,v1.ext e2,v2,va.ext (e1.trans e2),iO (iV h2) (e1.trans e2) λ_ S3 h3 ρ3 H3 e3 R3=>?_⟩)
local macro_rules|`(tactic|kpf_c)=>`(tactic|have hfree:∀y∈scope.names,y.2=.free->∃c,X.env.cells.lookup y.1=some c:=λy hy e=>I.ok.has _ (S.fr y hy e))
local macro_rules|`(tactic|ksr_p)=>`(tactic|intro pins s σ H D I h)
local macro_rules|`(tactic|kst_p)=>`(tactic|intro value slice pins s σ H x y v u Q I rx ry h hs)
local macro_rules|`(tactic|kln_w)=>`(tactic|obtain⟨ρ,S,τ,R,r,h⟩:=h)
local macro_rules|`(tactic|kl_no)=>`(tactic|refine aV (wpS_lift (dW ⟨rfl,?_⟩)))
local macro_rules|`(tactic|mg_lt)=>`(tactic|obtain⟨t,rfl⟩:=rx)
local macro_rules|`(tactic|cb_eq)=>`(tactic|obtain⟨vs,h1,r⟩:=R.lst hp (i9 hn))
local macro_rules|`(tactic|o_rec)=>`(tactic|obtain⟨its,rv,pl,hz⟩:=I.list hq)
local macro_rules|`(tactic|f_are)=>`(tactic|exact h3 ρ3 H3 σ ((e1.trans e2).trans e3) R3 (r.ext ((e1.trans e2).trans e3)))
set_option hygiene true
local macro_rules|`(())=>`(by lia)
@[reducible]def ag:=List Int
@[reducible]def ap:=List Nat
@[reducible]def ar:=List PySem.Str
@[reducible]def ba:=List PySem.Value
@[reducible]def bb:=List PySem.Addr
@[reducible]def bd:=Option PySem.Value
@[reducible]def bi:=Option Int
@[reducible]def bj:=Option Bool
@[reducible]def bn:=Option Nat
@[reducible]def bo:=List<|PySem.Addr×PySem.Obj
def aG:=@List.getElem?_eq_getElem
def aH:=@List.length_map
def aI:=@PySem.wpAny_bind
def aJ:=@List.getD_eq_getElem?_getD
def aK:=@if_neg
def aL:=@if_pos
def aM:=@List.mem_cons_self
def aN:=@List.getElem?_eq_some_iff
def aO:=@List.mem_cons_of_mem
def aP:=@decide_eq_true
def aQ:=@Nat.le_refl
def aR:=@PySem.wpAny_pure
def aS:=@decide_eq_false
def aT:=@PySem.Heap.get?_push_of_some
def aU:=@Option.some.inj
def aV:=@PyProof.Rows.wpS_bind
def aW:=@List.length_take
def aX:=@List.mem_of_getElem?
def aY:=@List.length_append
def aZ:=@List.size_toArray
def a_:=@Option.map_eq_some_iff
def bg:=@PySem.Heap.lt_size
def bh:=@List.getElem?_map
def bq:=@List.length_cons
def br:=@PyProof.Rows.wpS_pure
def bu:=@Bool.false_eq_true
def bz:=@List.mem_append_right
def bA:=@List.mem_singleton
def bB:=@List.getElem?_append_left
def bC:=@Nat.ne_of_lt
def bD:=@List.append_assoc
def bE:=@List.mem_cons
def bF:=@List.mem_append
def bG:=@PySem.Heap.get?_push_size
def bH:=@List.getElem?_set_self
def bI:=@beq_self_eq_true
def bJ:=@List.getElem?_eq_none
def bK:=@Bool.false_ne_true
def bL:=@List.getElem?_set_ne
def bM:=@List.map_cons
def bN:=@List.length_drop
def bO:=@PySem.PassesOwn.never
def bP:=@Nat.le_trans
def bQ:=@Nat.lt_of_lt_of_le
def bR:=@List.pairwise_cons
def bS:=@of_decide_eq_true
def bU:=@List.forall_mem_cons
def bV:=@List.length_set
def bW:=@Bool.not_true
def bX:=@Option.bind_eq_some_iff
def bY:=@List.mem_map
def bZ:=@if_false
def b6:=@PySem.W.mg_none_of
def b7:=@List.pairwise_append
def b8:=@List.length_nil
def b9:=@List.drop_eq_getElem_cons
def b_:=@Array.length_toList
def cg:=@List.take_of_length_le
def cj:=@List.map_map
def cu:=@List.length_range
def cA:=@List.ext_getElem?
def cB:=@List.pairwise_iff_getElem
def cC:=@List.mem_of_mem_take
def cD:=@PyProof.Rows.slot_tuple_getitem
def cE:=@Nat.zero_le
def cF:=@List.take_append_drop
def cG:=@beq_eq_false_iff_ne
def cH:=@PyProof.Rows.wpS_forRange
def cI:=@List.getElem?_range
def cJ:=@List.append_nil
def cK:=@List.find?_cons
def cL:=@List.map_append
def cM:=@List.getElem?_append_right
def cN:=@if_true
def cO:=@PySem.W.kia_one
def cP:=@Ne.symm
def cQ:=@List.countP_cons
def cR:=@PySem.sizeLine_eq
def cT:=@PySem.mem_of_lookup
def cU:=@PySem.wpAny_truthy_bool
def cV:=@List.pairwise_singleton
def cW:=@List.range_eq_range'
def cX:=@List.mem_filter
def cY:=@List.nodup_cons
def cZ:=@Nat.lt_succ_self
def c6:=@List.replicate_succ
def c7:=@PySem.wpAny_newObj_type
def c8:=@List.nodup_append
def c9:=@List.set_append_right
def c_:=@PySem.wpAny_holding
def dc:=@List.getElem?_take_of_lt
def dg:=@List.getElem_map
def dh:=@Nat.zero_add
def di:=@Bool.not_false
def dj:=@Option.map_some
def dm:=@PySem.F.slot_dict_get
def dw:=@List.getElem_inj
def dz:=@List.getElem?_drop
def dB:=@Option.bind_some
def dD:=@Int.zero_add
def dF:=@List.mem_range
def dG:=@congrArg
def dH:=@List.flatten_cons
def dI:=@List.pairwise_map
def dJ:=@decide_eq_true_eq
def dM:=@Nat.not_lt_zero
def dN:=@PyProof.Rows.wpS_mono
def dO:=@PyProof.Rows.callWith_type1
def dP:=@Int.le_refl
def dQ:=@Option.getD_some
def dR:=@List.lookup_cons
def dS:=@List.prefix_refl
def dU:=@List.getElem_mem
def dW:=@PySem.wpAny_rule
def dX:=@of_decide_eq_false
def dY:=@List.getElem?_toArray
def dZ:=@List.getElem?_eq_none_iff
def d7:=@PySem.wpAny_passesOwn
def d8:=@List.foldl_cons
def d9:=@Nat.min_eq_left
def d_:=@List.mem_append_left
def eg:=@Int.toNat_natCast
def eo:=@List.mem_of_mem_drop
def eB:=@List.mem_iff_getElem
def eE:=@Int.add_zero
def eF:=@PySem.wpAny_standAt
def eG:=@Option.isSome_iff_exists
def eK:=@PySem.wpAny_call_entry
def eL:=@Bool.and_eq_true
def eN:=@PySem.Heap.size_push
def eO:=@List.length_eq_zero_iff
def eS:=@List.getElem?_cons_succ
def eT:=@List.nodup_nil
def eU:=@Nat.le_of_lt
def eV:=@PySem.W.cellsFrom_some
def eW:=@PyProof.Rows.wpS_modify
def eX:=@Nat.sub_self
def eY:=@List.prefix_append
def eZ:=@List.length_pos_of_mem
def e_:=@List.getElem_range
def ff:=@PySem.wpAny_specialOf
def fh:=@Nat.lt_irrefl
def fj:=@List.any_cons
def fm:=@Nat.add_assoc
def fq:=@List.sum_cons
def fu:=@Array.getElem?_toList
def fy:=@List.length_filter_le
def fB:=@PySem.F.type_dict_get
def fC:=@Array.toList_push
def fD:=@List.reverse_cons
def fF:=@List.foldl_append
def fG:=@List.flatMap_cons
def fH:=@PySem.wpAny_mono
def fJ:=@PySem.Around.under_plainId
def fK:=@List.take_zero
def fL:=@Nat.mul_le_mul_right
def fM:=@PySem.wpAny_typeOf
def fN:=@List.cons_append
def fO:=@List.range'_succ
def fP:=@List.take_length
def fQ:=@Classical.byContradiction
def fR:=@PySem.F.args_tuple_add_2
def fS:=@PySem.F.slot_list_getattribute
def fU:=@PySem.F.slot_list_append
def fV:=@PySem.F.type_list_append
def fW:=@Int.le_antisymm
def fX:=@Nat.add_sub_cancel
def fY:=@Int.emod_lt_of_pos
def fZ:=@Option.isSome_none
def f6:=@List.getElem?_replicate
def f7:=@PySem.F.entry_tuple_add
def f9:=@PySem.F.slot_tuple_add
def f_:=@Nat.succ_mul
def gf:=@List.pairwise_lt_range
def gg:=@PySem.F.slot_tuple_hash
def gh:=@PyProof.Rows.wpS_get
def gp:=@List.take_succ_eq_append_getElem
def gq:=@List.range_succ_eq_map
def gr:=@List.Perm.refl
def gu:=@List.take_add_one
def gv:=@Nat.lt_of_succ_lt_succ
def gw:=@List.eraseIdxIfInBounds_toArray
def gz:=@List.eraseIdx_eq_take_drop_succ
def gA:=@PySem.isSubtype_tuple_tuple
def gB:=@PySem.wpAny_forIn_list
def gC:=@List.filter_cons
def gD:=@List.ext_getElem
def gE:=@decide_eq_decide
def gF:=@List.mem_reverse
def gG:=@Bool.false_or
def gH:=@PySem.W.mg_of
def gI:=@List.getElem?_of_mem
def gJ:=@List.reverse_reverse
def gK:=@PySem.wpAny_execs_nil
def gM:=@PySem.codeAny_builtin
def gO:=@PySem.F.slot_tuple_eq
def gP:=@List.filter_map
def gQ:=@Int.emod_nonneg
def gR:=@List.countP_eq_length_filter
def gS:=@List.filterMap_cons
def gT:=@List.map_congr_left
def gU:=@PySem.codeAny_mono
def gW:=@List.map_set
def gX:=@Bool.false_and
def gY:=@PySem.wpAny_Call_Name_kw
def gZ:=@Option.isSome_some
def g4:=@PySem.tupleKind_room_in1
def g5:=@PySem.wpAny_tupleItemsOf
def g6:=@Array.forIn_toList
def g7:=@List.drop_zero
def g8:=@decide_eq_true_iff
def g9:=@PySem.wpAny_pyIter_list
def g_:=@Nat.lt_succ_of_lt
def h_:=@Option.isSome_map
def ie:=@List.getElem?_inj
def ig:=@PySem.Paired.length
def ir:=@List.map_take
def iu:=@List.any_eq_true
def iy:=@List.map_nil
def iz:=@PySem.call_meets
def iA:=@Nat.mul_comm
def iB:=@Nat.lt_trans
def iC:=@Nat.lt_or_ge
def iD:=@List.of_mem_zip
def iE:=@Bool.or_eq_true
def iF:=@Array.size_zip
def iG:=@Bool.and_false
def iH:=@Nat.one_mul
def iI:=@Prod.ext
@[reducible]def af:=PySem.Value
@[reducible]def ah:=PySem.World
@[reducible]def aj:=PySem.Program
@[reducible]def ak:=PySem.Addr
@[reducible]def aq:=PySem.Heap
@[reducible]def au:=PySem.W.Frag
@[reducible]def aA:=PySem.Around
@[reducible]def aC:=PySem.Shared
@[reducible]def aE:=PySem.Expr
@[reducible]def aF:=PySem.Stmt
def anI{a b:Prop}(h:a)(k:b):a/\b:=⟨h,k⟩
open Array (size_map)
open Int (add_assoc)
open List (map_drop map_id')
open Nat (le_of_eq ne_of_gt not_lt succ_pos)
open Option (getD_none)
namespace L2
open PySem PySem.Spec PyProof.Rows
meta abbrev Key:=Sum Int Str
abbrev Bw:Key->af->Bool
 | .inl k,v=>Value.isInt k v
 | .inr x,v=>Value.isStrOf x v
abbrev ZK (w:ah):Key->Int
 | .inl k=>hashInt k
 | .inr x=>hashStr w x
def kg:∀{k:Key}{v:af},Bw k v=true->(∃i t,k=Sum.inl i/\v=Value.int i t)\/(∃x t,k=Sum.inr x/\v=Value.str x t)
 | .inl i,v,h=>by
  obtain⟨t,e⟩:=Value.isInt_shape (k:=i) (v:=v) h;exact .inl ⟨i,t,rfl,e⟩
 | .inr x,v,h=>by
  obtain⟨t,e⟩:=Value.isStrOf_shape (x:=x) (v:=v) h;exact .inr ⟨x,t,rfl,e⟩
def JS(i:Int)(t:Tok):Bw (.inl i) (.int i t)=true:=by simp[Bw,Value.isInt]
def JQ(x:Str)(t:Tok):Bw (.inr x) (.str x t)=true:=by simp[Bw,Value.isStrOf]
def VU(a b:Int):decide ((Sum.inl a:Key)=Sum.inl b)=(a == b):=by
 by_cases e:a=b
 ·subst e;simp
 ·have h:¬(Sum.inl a:Key)=Sum.inl b:=λq=>e<|Sum.inl.inj q;rw[aS h];exact(cG.mpr e).symm
def UP(a b:Str):decide ((Sum.inr a:Key)=Sum.inr b)=decide (a=b):=by
 by_cases e:a=b
 ·subst e;simp
 ·have h:¬(Sum.inr a:Key)=Sum.inr b:=λq=>e<|Sum.inr.inj q;rw[aS h,aS e]
def Vz(a:Int)(b:Str):decide ((Sum.inl a:Key)=Sum.inr b)=false:=aS λq=>nomatch q
def UZ(a:Str)(b:Int):decide ((Sum.inr a:Key)=Sum.inl b)=false:=aS λq=>nomatch q
abbrev jH (prog:aj)(w:ah):PySem.KeyKind prog w Key where
 is:=Bw
 hash:=ZK w
 inj:=λv a b f d=>by
  rcases kg f with⟨i,t,rfl,rfl⟩|⟨x,t,rfl,rfl⟩
  ·rcases kg d with⟨j,u,rfl,e⟩|⟨y,u,rfl,e⟩
   ·injection e with e1 _;rw[e1]
   ·exact nomatch e
  ·rcases kg d with⟨j,u,rfl,e⟩|⟨y,u,rfl,e⟩
   ·exact nomatch e
   ·injection e with e1 _;rw[e1]
 byValue:=λk v h=>by
  rcases kg h with⟨i,t,rfl,rfl⟩|⟨x,t,rfl,rfl⟩<;>rfl
 pyHash:=λhv h=>by
  rcases kg hv with⟨i,t,rfl,rfl⟩|⟨x,t,rfl,rfl⟩
  ·exact wpAny_pyHash_int h
  ·exact wpAny_pyHash_str h
 eqBool:=λg hv h=>by
  rcases kg g with⟨i,t,rfl,rfl⟩|⟨x,t,rfl,rfl⟩
  ·rcases kg hv with⟨j,u,rfl,rfl⟩|⟨y,u,rfl,rfl⟩
   ·rw[VU]at h;exact wpAny_eqBool_int h
   ·rw[Vz]at h;exact SeqAt.EqAt.int_str i t y u _ _ _ _ h
  ·rcases kg hv with⟨j,u,rfl,rfl⟩|⟨y,u,rfl,rfl⟩
   ·rw[UZ]at h;exact SeqAt.EqAt.str_int x t j u _ _ _ _ h
   ·rw[UP]at h;exact wpAny_eqBool_str h
 «strs»:=λk x t v h=>by
  rcases kg h with⟨i,u,rfl,e⟩|⟨y,u,rfl,e⟩
  ·exact nomatch e
  ·injection e with e1 _
   subst e1
   cases v<;>rfl
def DH(prog:aj)(w:ah)(i:Int)(t:Tok):(jH prog w).is (.inl i) (.int i t)=true:=JS i t
def EM(prog:aj)(w:ah)(x:Str)(t:Tok):(jH prog w).is (.inr x) (.str x t)=true:=JQ x t
inductive V where
 | non|bl (b:Bool)|int (i:Int)|str (x:Str)|byt (b:Array UInt8)|flt (b:UInt64)|ref (a:ak)|ty (n:String)
 deriving DecidableEq
abbrev RelV:V->af->Prop
 | .non,u=>u=Value.none
 | .bl b,u=>u=Value.bool b
 | .int i,u=>∃t,u=Value.int i t
 | .str x,u=>∃t,u=Value.str x t
 | .byt b,u=>∃t,u=Value.bytes b t
 | .flt b,u=>∃t,u=Value.float b t
 | .ref a,u=>u=Value.ref a
 | .ty n,u=>u=Value.type n
meta abbrev Vals:List V->ba->Prop:=Paired RelV
def Vals.length{xs:List V}{us:ba}(r:Vals xs us):xs.length=us.length:=ig r
theorem Vals.get:∀{xs:List V}{us:ba}{i:Nat}{x:V},Vals xs us->xs[i]?=some x->∃u,us[i]?=some u/\RelV x u
 | _,_,_,_,.nil,e=>by simp at e
 | _,_,0,_,.cons r _,e=>by simp at e;subst e;exact⟨_,rfl,r⟩
 | _,_,i+1,x,.cons _ t,e=>by
  obtain⟨u,h1,h2⟩:=Vals.get (i:=i) (x:=x) t (by simpa using e);exact⟨u,by simpa using h1,h2⟩
theorem Vals.set{x:V}(r:RelV x u):∀{xs:List V}{us:ba}(i:Nat),Vals xs us->Vals (xs.set i x) (us.set i u)
 | _,_,_,.nil=>.nil
 | _,_,0,.cons _ t=>.cons r t
 | _,_,i+1,.cons q t=>.cons q<|Vals.set r i t
theorem Vals.append:∀{xs ys:List V}{us ws:ba},Vals xs us->Vals ys ws->Vals (xs++ys) (us++ws)
 | _,_,_,_,.nil,s=>s
 | _,_,_,_,.cons r t,s=>.cons r<|Vals.append t s
theorem Vals.take:∀{xs:List V}{us:ba}(n:Nat),Vals xs us->Vals (xs.take n) (us.take n)
 | _,_,0,_=>.nil
 | _,_,_+1,.nil=>.nil
 | _,_,n+1,.cons r t=>.cons r<|Vals.take n t
theorem Vals.drop:∀{xs:List V}{us:ba}(n:Nat),Vals xs us->Vals (xs.drop n) (us.drop n)
 | _,_,0,r=>r
 | _,_,_+1,.nil=>.nil
 | _,_,n+1,.cons _ t=>Vals.drop n t
abbrev xq:Option V->bd->Prop
 | some v,some u=>RelV v u
 | none,none=>True
 | _,_=>False
abbrev KV {κ:Type}:List (κ×V)->List (κ×af)->Prop:=Paired λ(p:κ×V) (q:κ×af)=>p.1=q.1/\RelV p.2 q.2
abbrev kV:Key->V
 | .inl i=>.int i
 | .inr x=>.str x
inductive HO where
 | lst (xs:List V)
 | tup (xs:List V)
 | dK (kvs:List<|Key×V)|dT (kvs:List<|List Key×V)
 | set (S:Int->Bool) (n:Nat)
 | ins (C dx:ak) (fs:List<|Str×V)
 | own (x:ak)
 | xd (fs:List<|Str×V)
 | met (f x:ak)
 | rng (lo hi:Int)
 | frz (o:Obj) (u:HO)
 | tbl (ps:Array af)
 | ext (φ:aq->Prop)
meta abbrev Hp:=ak->Option HO
abbrev upd (H:Hp)(a:ak)(o:HO):Hp:=λb=>if b=a then some o else H b
def jT{H:Hp}{a:ak}:upd H a o a=some o:=by unfold upd;rw[aL rfl]
def iZ{H:Hp}{a:ak}(h:b≠a):upd H a o b=H b:=by unfold upd;rw[aK h]
def YA{H:Hp}{a:ak}(h:H a=some o)(h':H b=some u)(d:o≠u):a≠b:=by
 intro e;subst e;rw[h]at h';exact d<|aU h'
def je{H:Hp}{a:ak}(h:H a=some o)(h':H b=none):a≠b:=by
 intro e;subst e;rw[h]at h';cases h'
abbrev nM (h:aq)(a:ak)(items:Array af):Prop:=∃o,h.get? a=some o/\o.cls=.type "tuple" /\ o.dict=none/\∃n,o.data=.seq items n
def nM.tup{a:ak}:nM h a items->IsTup h a items:=λ⟨o,e,c,_,n,d⟩=>⟨o,e,c,n,d⟩
def nM.new(h:aq)(items:Array af):nM (h.push { cls:=.type "tuple",data:=.seq items }) h.objs.size items:=⟨_,bG _ rfl,rfl,rfl,_,rfl⟩
def nM.lt{h:aq}{a:ak}(x:nM h a items):a<h.objs.size:=let⟨_,ho,_⟩:=x;bg ho
section
variable (P:aj) (w:ah)
abbrev jW (H:Hp)(h:aq)(a:ak):HO->Prop
 | .lst xs=>xs.length<=sizeLine/\∃(its:ba) (n:Nat),Vals xs its/\h.get? a=some { cls:=.type "list",data:=.seq its.toArray n }
 | .tup xs=>xs.length<=sizeLine/\∃its:ba,Vals xs its/\nM h a its.toArray
 | .dK d=>d.length<=sizeLine/\(a == sysModules)=false/\∃vs,KV d vs/\h.DictOf (jH P w) a vs
 | .dT d=>d.length<=sizeLine/\(a == sysModules)=false/\∃xs:List<|List Key×ak×af,
   Paired (λ(p:List Key×V) (q:List Key×ak×af)=>p.1=q.1/\H q.2.1=some (.tup<|p.1.map kV)/\RelV p.2 q.2.2) d xs /\
   ∃o es k,h.get? a=some o/\o.ExactDict/\o.data=.dict es k/\es.toList=xs.map (entryOfKey<|tupleKind<|jH P w)/\(xs.map (·.1)).Nodup
 | .set S n=>h.SetOf (intKind P w) a S n
 | .ins C dx fs=>H dx=some (.own a)/\fs.length<=1000/\dx≠a/\h.get? a=some (PySem.W.instObj C dx) /\
   ∃g,h.Ns1 dx g/\(∀f,xq (fs.lookup f)<|g f)/\PySem.Within g (fs.map (·.1))
 | .own _=>∃o,h.get? a=some o
 | .xd fs=>∃g,h.Ns1 a g/\∀f,xq (fs.lookup f) (g f)
 | .rng lo hi=>∃t u v,h.get? a=some { cls:=.type "range",data:=.fields #[.int lo t,.int hi u,.int 1 v]}
 | .frz o u=>h.get? a=some o/\jW H h a u
 | .tbl ps=>h.get? a=some { cls:=.none,data:=.fields ps }
 | .met f x=>h.get? a=some (PySem.W.methodObj (.ref f)<|.ref x)
 | .ext j=>j h/\(∃o,h.get? a=some o)/\∀h1 h2:aq,j h1->(∀o,h1.get? a=some o->h2.get? a=some o)->j h2
abbrev vO (H:Hp)(h:aq):Prop:=∀a o,H a=some o->jW P w H h a o
end
section
variable {P:aj}{w:ah}{H H':Hp}{h h':aq}{a:ak}{o:HO}
def jW.lt(x:jW P w H h a o):a<h.objs.size:=by
 cases o with
 | lst xs=>obtain⟨_,_,_,_,e⟩:=x;exact bg e
 | tup xs=>obtain⟨_,_,_,p⟩:=x;exact nM.lt p
 | dK d=>obtain⟨_,_,_,_,o,_,_,e,_⟩:=x;exact bg e
 | dT d=>obtain⟨_,_,_,_,o,_,_,e,_⟩:=x;exact bg e
 | set S n=>obtain⟨o,_,_,_,e,_⟩:=x;exact bg e
 | ins C dx fs=>obtain⟨_,_,_,e,_⟩:=x;exact bg e
 | own y=>obtain⟨_,e⟩:=x;exact bg e
 | xd fs=>obtain⟨_,⟨_,_,_,e,_⟩,_⟩:=x;exact bg e
 | rng lo hi=>obtain⟨_,_,_,e⟩:=x;exact bg e
 | frz g u=>obtain⟨e,_⟩:=x;exact bg e
 | tbl ps=>exact bg (show h.get? a=some _ from x)
 | met f y=>exact bg (show h.get? a=some _ from x)
 | ext j=>obtain⟨_,⟨_,e⟩,_⟩:=x;exact bg e
theorem Paired.Uk{α β:Type}{F G:α->β->Prop}:∀{l₁:List α}{l₂:List β},Paired F l₁ l₂->(∀a b,F a b->G a b)->Paired G l₁ l₂
 | _,_,.nil,_=>.nil
 | _,_,.cons r t,f=>.cons (f _ _ r)<|Paired.Uk t f
def jW.stay(x:jW P w H h a o)(k:∀b u,(b=a\/H b=some (.own a))->h.get? b=some u->h'.get? b=some u)
  (ho:∀b,H b=some (.own a)->H' b=some (.own a)) (ht:∀b xs,H b=some (.tup xs)->H' b=some (.tup xs)):jW P w H' h' a o:=by
 induction o with
 | lst xs=>obtain⟨z,its,n,r,e⟩:=x;exact⟨z,its,n,r,k _ _ (.inl rfl) e⟩
 | tup xs=>obtain⟨z,its,r,g,e,c⟩:=x;exact⟨z,its,r,g,k _ _ (.inl rfl) e,c⟩
 | dK m=>obtain⟨z,y,vs,r,g,es,j,e,c⟩:=x;exact⟨z,y,vs,r,g,es,j,k _ _ (.inl rfl) e,c⟩
 | dT m=>
  obtain⟨z,y,xs,r,g,es,j,e,c⟩:=x;exact⟨z,y,xs,Paired.Uk r λp q z=>⟨z.1,ht _ _ z.2.1,z.2.2⟩,g,es,j,k _ _ (.inl rfl) e,c⟩
 | set S n=>obtain⟨g,es,j,t,e,c⟩:=x;exact⟨g,es,j,t,k _ _ (.inl rfl) e,c⟩
 | ins C dx fs=>
  obtain⟨d,z,J,e,F,⟨B,es,j,e2,c⟩,r⟩:=x;exact⟨ho _ d,z,J,k _ _ (.inl rfl) e,F,⟨B,es,j,k _ _ (.inr d) e2,c⟩,r⟩
 | own y=>obtain⟨g,e⟩:=x;exact⟨g,k _ _ (.inl rfl) e⟩
 | xd fs=>obtain⟨F,⟨B,es,j,e,c⟩,r⟩:=x;exact⟨F,⟨B,es,j,k _ _ (.inl rfl) e,c⟩,r⟩
 | rng lo hi=>obtain⟨t,u,v,e⟩:=x;exact⟨t,u,v,k _ _ (.inl rfl) e⟩
 | frz g u G=>obtain⟨e,q⟩:=x;exact⟨k _ _ (.inl rfl) e,G q⟩
 | tbl ps=>
  have e:h.get? a=some { cls:=.none,data:=.fields ps }:=x
  skip
  exact k a _ (.inl rfl) e
 | met f y=>
  have e:h.get? a=some (PySem.W.methodObj (.ref f)<|.ref y):=x
  skip
  exact k a _ (.inl rfl) e
 | ext K=>obtain⟨p,⟨o,e⟩,st⟩:=x;exact⟨st _ _ p λo q=>k _ _ (.inl rfl) q,⟨o,k _ _ (.inl rfl) e⟩,st⟩
def vO.lt(x:vO P w H h)(e:H a=some o):a<h.objs.size:=(x a o e).lt
def vO.fresh(x:vO P w H h)(e:h.objs.size<=a):H a=none:=by
 cases q:H a with
 | none=>rfl
 | some u=>exact absurd (bQ (x.lt q) e)<|fh _
def vO.kept(x:vO P w H h)(k:∀b u,h.get? b=some u->h'.get? b=some u):vO P w H h':=λa o e=>
 (x a o e).stay (λb u _ q=>k b u q) (λ_ q=>q) λ_ _ q=>q
def vO.laid(x:vO P w H h)(k:∀b u,h.get? b=some u->h'.get? b=some u)(hp:h.objs.size<=a)(new:jW P w (upd H a o) h' a o):vO P w (upd H a o) h':=λb u e=>by
 have hn:=x.fresh hp;by_cases d:b=a
 ·subst d;rw[jT]at e;cases e;exact new
 ·rw[iZ d]at e;exact(x b u e).stay (λc v _ q=>k c v q) (λc q=>by rw[iZ<|je q hn];exact q) λc xs q=>by rw[iZ<|je q hn];exact q
end
abbrev Rd (H:Hp)(a:ak)(u:HO):Prop:=H a=some u\/∃o,H a=some (.frz o u)
def Rd.ok{P:aj}{w:ah}{H:Hp}{a:ak}(r:Rd H a u)(x:vO P w H h):jW P w H h a u:=by
 rcases r with r|⟨o,r⟩
 ·exact x a u r
 ·obtain⟨_,q⟩:=x a _ r;exact q
abbrev WX:Option HO->Prop
 | some (.lst _)=>True
 | some (.dK _)=>True
 | some (.dT _)=>True
 | some (.set _ _)=>True
 | some (.ins _ _ _)=>True
 | some (.ext _)=>True
 | _=>False
section
variable {P:aj}{w:ah}{H:Hp}{h h':aq}{x e:ak}{o':HO}
def vO.write(ok:vO P w H h)(mu:WX<|H x)(he:e=x\/H e=some (.own x))(k:∀b u,b≠e->h.get? b=some u->h'.get? b=some u)(heo:∃u,h'.get? e=some u)
  (new:jW P w (upd H x o') h' x o'):vO P w (upd H x o') h':=λb u q=>by
 have f:∀c y,H c=some (.own y)->c≠x:=λc y r z=>by subst z;rw[r]at mu;exact mu
 have g:∀c xs,H c=some (.tup xs)->c≠x:=λc xs r z=>by subst z;rw[r]at mu;exact mu
 by_cases j:b=x
 ·subst j;rw[jT]at q;cases q;exact new
 ·rw[iZ j]at q;by_cases d:b=e
  ·have m:H b=some (.own x):=by
    rcases he with z|z
    ·exact absurd (d.trans z) j
    ·rw[d];exact z
   rw[q]at m;cases m;obtain⟨v,hv⟩:=heo;exact⟨v,by rw[d];exact hv⟩
  ·refine(ok b u q).stay (λc v hc r=>k c v ?_ r) (λc r=>by rw[iZ<|f c b r];exact r) λc xs r=>by rw[iZ<|g c xs r];exact r
   rcases hc with rfl|hc
   ·exact d
   ·rintro rfl
    rcases he with z|z
    ·exact f c b hc z
    ·rw[hc]at z;cases z;exact j rfl
end
structure Un (fs ex:bb)(H H':Hp)(h h':aq):Prop where
 keep:∀b o,h.get? b=some o->H b=none->b∉fs->b∉ex->h'.get? b=some o
 slot:∀b o,h.get? b=some o->H b=none->b∈fs->b∉ex->∃sl,h'.get? b=some { o with slots:=sl }
 free:∀b o,h.get? b=some o->H b=none->b∉ex->H' b=none
 there:∀b o,h.get? b=some o->b∉ex->∃o',h'.get? b=some o'
 tups:∀b xs,H b=some (.tup xs)->H' b=some (.tup xs)
 frzs:∀b o u,H b=some (.frz o u)->H' b=some (.frz o u)
 tbls:∀b ps,H b=some (.tbl ps)->∃more,H' b=some (.tbl<|ps++more)
section
variable {fs ex:bb}{H H1:Hp}{h h1 h':aq}{a x e:ak}{o:HO}
def Un.any(u:Un fs ex H H1 h h1){ob:Obj}(q:h.get? b=some ob)(n:H b=none)(hx:b∉ex):∃sl,h1.get? b=some { ob with slots:=sl }:=by
 by_cases d:b∈fs
 ·exact u.slot b ob q n d hx
 ·exact⟨ob.slots,u.keep b ob q n d hx⟩
def Un.kept(k:∀b u,h.get? b=some u->h'.get? b=some u):Un fs ex H H h h':=
 ⟨λb d q _ _ _=>k b d q,λb d q _ _ _=>⟨d.slots,k b d q⟩,λ_ _ _ n _=>n,λb d q _=>⟨d,k b d q⟩,λ_ _ q=>q,λ_ _ _ q=>q,λ_ ps q=>⟨#[],by rw[q];simp⟩⟩
def Un.refl:Un fs ex H H h h:=Un.kept λ_ _ q=>q
def Un.laid(k:∀b u,h.get? b=some u->h'.get? b=some u)(hp:h.objs.size<=a)(hn:H a=none):Un fs ex H (upd H a o) h h' where
 keep:=λb u q _ _ _=>k b u q
 slot:=λb u q _ _ _=>⟨u.slots,k b u q⟩
 free:=λb u q n _=>by rw[iZ<|bC<|bQ (bg q) hp];exact n
 there:=λb u q _=>⟨u,k b u q⟩
 tups:=λb xs q=>by rw[iZ<|je q hn];exact q
 frzs:=λb u xs q=>by rw[iZ<|je q hn];exact q
 tbls:=λb ps q=>⟨#[],by rw[iZ<|je q hn,q];simp⟩
def Un.write(mu:WX<|H x)(he:e=x\/H e=some (.own x))(k:∀b u,b≠e->h.get? b=some u->h'.get? b=some u)(heo:∃u,h'.get? e=some u):Un fs ex H (upd H x o) h h':=by
 have j:∀b,H b=none->b≠x:=λb n z=>by subst z;rw[n]at mu;exact mu
 have g:∀b,H b=none->b≠e:=λb n z=>by
  subst z
  rcases he with r|r
  ·exact j b n r
  ·rw[n]at r;cases r
 have f:∀b u,H b=some u->¬WX (some u)->b≠x:=λb u q m z=>by subst z;rw[q]at mu;exact m mu
 refine⟨λb u q n _ _=>k b u (g b n) q,λb u q n _ _=>⟨u.slots,k b u (g b n) q⟩,λb u q n _=>by rw[iZ<|j b n];exact n,λb u q _=>?_,
  λb xs q=>by rw[iZ<|f b _ q λz=>z];exact q,λb u xs q=>by rw[iZ<|f b _ q λz=>z];exact q,λb ps q=>⟨#[],by rw[iZ<|f b _ q λz=>z,q];simp⟩⟩
 by_cases d:b=e
 ·subst d;exact heo
 ·exact⟨u,k b u d q⟩
end
abbrev YO (h:aq)(H:Hp):bb:=(List.range h.objs.size).filter λa=>(H a).isSome
abbrev CM (h:aq)(H:Hp):aq:=PySem.W.hideAll h<|YO h H
def KG(h:aq)(H:Hp):(CM h H).objs.size=h.objs.size:=PySem.W.hideAll_size _ _
def OX{h:aq}{H:Hp}(e:h.get? b=some o)(n:H b=none):(CM h H).get? b=some o:=
 PySem.W.hideAll_get _ e λd=>by
  have q:(H b).isSome=true:=(cX.mp d).2;rw[n]at q;simp at q
def QO{h:aq}{H:Hp}(e:(CM h H).get? b=some o):h.get? b=some o/\H b=none:=by
 have d:h.get? b=some o:=PySem.W.of_hideAll (YO h H) e;refine⟨d,?_⟩
 cases q:H b with
 | none=>rfl
 | some x=>
  have f:b∈YO h H:=cX.mpr ⟨dF.mpr<|bg d,by simp[q]⟩;have z:(CM h H).get? b=none:=PySem.W.hideAll_none (YO h H) f;rw[z]at e;cases e
abbrev Q8 (g h:aq)(L:ak):bo:=(List.range h.objs.size).filterMap λa=>if a=L\/(g.get? a).isSome=true then none else(h.get? a).map λo=>(a,o)
abbrev rest (g h:aq)(L d:ak):bo:=(Q8 g h L).filter λp=>decide<|p.1≠d
structure Mod (K:au)(mg:Str->bd)(base:aq):Prop where
 kin:K.In base
 glob:base.Ns mainGlobals mg
 blt:∃mb,base.Ns builtinsNs mb/\∀x:Str,x ≠ "__name__" -> mb x=bootBuiltins x
 nolimit:base.NoLimit
structure Cx where
 prog:aj
 w:ah
 K:au
 mg:Str->bd
 base:aq
 A:aA
 N:ar
 s₀:aC
 H₀:Hp
 env:Env
 outer:List Env
 stack:List Env
 ex:bb
 fn:Str->Bool
 calm:Bool
 pn:bo
 xe:af->aC->Prop
abbrev frs (l:List Env):bb:=l.filterMap (·.frame)
meta abbrev Cx.fs (X:Cx):bb:=frs X.outer
abbrev WJ (sc:Scope)(x:Str):Prop:=sc.names.lookup x=some .local\/sc.names.lookup x=some .cell\/sc.names.lookup x=some .free
abbrev Loc (sc:Scope)(x:Str):Prop:=sc.names.lookup x=some .local\/sc.names.lookup x=some .cell
abbrev Look (env:Env)(h:aq)(m:Str->bd)(x:Str)(u:af):Prop:=
 (env.kindOf x=some .local/\m x=some u)\/((env.kindOf x=some .cell\/env.kindOf x=some .free)/\∃c,env.cells.lookup x=some c/\h.IsCell c (some u))
structure Cx.Ok (X:Cx):Prop where
 mod:Mod X.K X.mg X.base
 kind:X.env.scope.kind=.function
 glob:X.env.globals=mainGlobals
 blt:X.env.builtins=builtinsNs
 above:X.s₀.heap.objs.size<=X.env.locals
 inj:∀x y c,X.env.cells.lookup x=some c->X.env.cells.lookup y=some c->x=y
 has:∀x,(X.env.kindOf x=some .cell\/X.env.kindOf x=some .free)->∃c,X.env.cells.lookup x=some c
 cab:∀x c,X.fn x=true->X.env.cells.lookup x=some c->X.s₀.heap.objs.size<=c
 hd:X.calm=true->X.A.handled=none
 frames:X.A.frames=some X.stack
 stk:X.stack=X.outer\/(X.stack=X.env::X.outer/\X.env.frame=some X.env.locals)
 exf:∀b∈X.ex,b≠X.env.locals/\∀x c,X.env.cells.lookup x=some c->c≠b
 bs:∀b o,X.base.get? b=some o->X.s₀.heap.get? b=some o/\X.H₀ b=none
 bsz:X.base.objs.size<=X.s₀.heap.objs.size
 noex:∀b o,X.base.get? b=some o->b∉X.ex
 exfs:∀b∈X.ex,b∉X.fs
 zw:X.s₀.heap.FunFrames X.base X.outer
 frf:∀b∈X.fs,X.H₀ b=none
structure Inv (X:Cx)(pins:bo)(σ:List (Option V))(H:Hp)(s:aC):Prop where
 ok:X.Ok
 os:s.os=X.s₀.os
 bare:AllBare s.gens
 base:Un X.fs X.ex X.H₀ H X.s₀.heap s.heap
 loc:∃m,s.heap.Ns X.env.locals m/\∀(i:Nat) (x:Str) (v:V),X.N[i]?=some x->σ[i]?=some (some v)->WJ X.env.scope x->∃u,RelV v u/\Look X.env s.heap m x u
 cell:∀x c,X.env.cells.lookup x=some c->∃v,s.heap.IsCell c v
 free:H X.env.locals=none
 freeC:∀x c,X.env.cells.lookup x=some c->H c=none
 pin:∀p∈X.pn++pins,s.heap.get? p.1=some p.2/\H p.1=none/\p.1≠X.env.locals/\p.1∉X.fs/\∀v,p.2.data≠.cell v
 hok:vO X.prog X.w H s.heap
 len:σ.length=X.N.length
section
variable {X:Cx}{pins:bo}{σ:List (Option V)}{H H':Hp}{s:aC}{h':aq}
def Cx.Ok.Y0(ok:X.Ok)(e:X.base.get? b=some o):b∉X.fs:=λd=>by
 have:=(ok.zw.mem d).1;rw[e]at this;cases this
def Inv.bs(I:Inv X pins σ H s):∀b o,X.base.get? b=some o->s.heap.get? b=some o/\H b=none:=λb o e=>
 ⟨I.base.keep b o (I.ok.bs b o e).1 (I.ok.bs b o e).2 (I.ok.Y0 e)<|I.ok.noex b o e,I.base.free b o (I.ok.bs b o e).1 (I.ok.bs b o e).2<|I.ok.noex b o e⟩
def Inv.bk(I:Inv X pins σ H s):∀b o,X.base.get? b=some o->s.heap.get? b=some o:=λb o e=>(I.bs b o e).1
def Inv.mod(I:Inv X pins σ H s):Mod X.K X.mg X.base:=I.ok.mod
def Inv.C4(I:Inv X pins σ H s):X.K.In s.heap:=I.ok.mod.kin.keeps I.bk
def Inv.lt(I:Inv X pins σ H s):X.env.locals<s.heap.objs.size:=let⟨_,hn,_⟩:=I.loc;hn.lt
def Inv.sz(I:Inv X pins σ H s):X.s₀.heap.objs.size<=s.heap.objs.size:=bP I.ok.above<|eU I.lt
def Inv.Zd(I:Inv X pins σ H s){a:ak}(h:s.heap.objs.size<=a):a∉X.fs:=λd=>by
 obtain⟨_,o,f,_⟩:=I.ok.zw.mem d;exact absurd (bQ (bg f)<|bP I.sz h)<|fh _
def Inv.Uo(I:Inv X pins σ H s):∀x c,X.env.cells.lookup x=some c->c≠X.env.locals:=λx c e z=>by
 obtain⟨v,o,g,j⟩:=I.cell x c e;obtain⟨m,⟨o',es,k,d,f,_⟩,_⟩:=I.loc;rw[z,d]at g;cases g;rw[f]at j;cases j
def Inv.zw(I:Inv X pins σ H s):s.heap.FunFrames X.base X.outer:=by
 have all:∀(l:List Env),(∀b∈frs l,b∈X.fs)->X.s₀.heap.FunFrames X.base l->s.heap.FunFrames X.base l:=by
  intro l
  induction l with
  | nil=>intro _ _;trivial
  | cons env r g=>
   intro hs j;obtain⟨q,⟨L,o,hf,hn,p,k⟩,m⟩:=j;have f:L∈X.fs:=hs L (by unfold frs;rw[gS,hf];exact aM);obtain⟨B,e⟩:=I.base.slot L o p (I.ok.frf L f) f λz=>I.ok.exfs L z f;exact⟨q,⟨L,_,hf,hn,e,k⟩,g (λb d=>hs b<|by unfold frs;rw[gS,hf];exact aO _ d) m⟩
 exact all X.outer (λ_ d=>d) I.ok.zw
def Inv.stack(I:Inv X pins σ H s):s.heap.FunFrames X.base X.stack:=by
 rcases I.ok.stk with e|⟨e,hf⟩
 ·rw[e];exact I.zw
 ·rw[e];obtain⟨m,hn,_⟩:=I.loc;refine .cons (by rw[I.ok.kind];decide) hf hn ?_ I.zw;exact Heap.get?_none_of_le<|bP I.ok.bsz I.ok.above
def Inv.F6(I:Inv X pins σ H s):∀b∈frs X.stack,b∈X.env.locals::X.fs:=λb d=>by
 rcases I.ok.stk with e|⟨e,hf⟩
 ·rw[e]at d;exact aO _ d
 ·rw[e]at d;unfold frs at d;rw[gS,hf]at d;exact d
def Inv.HX(I:Inv X pins σ H s):∀b∈frs X.stack,H b=none:=λb d=>by
 rcases bE.mp (I.F6 b d)with e|d
 ·rw[e];exact I.free
 ·obtain⟨_,o,f,_⟩:=I.ok.zw.mem d;exact I.base.free b o f (I.ok.frf b d) λz=>I.ok.exfs b z d
def Inv.step{g':Array GenState}{t':Nat}{d':Drawn}{ch:bb}(I:Inv X pins σ H s)
  (hch:∀b∈ch,(b∈X.ex\/X.s₀.heap.objs.size<=b)/\b≠X.env.locals/\(∀x c,X.env.cells.lookup x=some c->c≠b)/\∀p∈X.pn++pins,p.1≠b)
  (keep:∀b o,b≠X.env.locals->b∉X.fs->b∉ch->s.heap.get? b=some o->H b=none->h'.get? b=some o)
  (slot:∀b o,b≠X.env.locals->b∈X.fs->b∉ch->s.heap.get? b=some o->H b=none->∃sl,h'.get? b=some { o with slots:=sl }) (free:∀b o,b∉ch->s.heap.get? b=some o->H b=none->H' b=none)
  (there:∀b o,b∉ch->s.heap.get? b=some o->∃o',h'.get? b=some o')
  (tups:∀b xs,H b=some (.tup xs)->H' b=some (.tup xs)) (frzs:∀b o u,H b=some (.frz o u)->H' b=some (.frz o u)) (tbls:∀b ps,H b=some (.tbl ps)->∃more,H' b=some (.tbl<|ps++more))
  (ns:∀m,s.heap.Ns X.env.locals m->h'.Ns X.env.locals m) (hok:vO X.prog X.w H' h') (hg:AllBare g') :
  Inv X pins σ H' { s with heap:=h',gens:=g',drawn:=d',toks:=t' }:=by
 have G:∀b o,X.s₀.heap.get? b=some o->b≠X.env.locals:=λb o e=>bC<|bQ (bg e) I.ok.above;have B:∀b o,X.s₀.heap.get? b=some o->b∉X.ex->b∉ch:=λb o e f C=>by
  rcases(hch b C).1 with z|z
  ·exact f z
  ·exact absurd (bQ (bg e) z)<|fh _
 have g:∀x c,X.env.cells.lookup x=some c->∀v,s.heap.IsCell c v->h'.IsCell c v:=λx c e v ⟨o,F,J⟩=>by
  have j:c∉ch:=λz=>(hch c z).2.2.1 x c e rfl;by_cases hc:c∈X.fs
  ·obtain⟨sl,q⟩:=slot c o (I.Uo x c e) hc j F<|I.freeC x c e;exact⟨_,q,J⟩
  ·exact⟨o,keep c o (I.Uo x c e) hc j F<|I.freeC x c e,J⟩
 refine⟨I.ok,I.os,hg,⟨λb o e n C f=>?_,λb o e n C f=>?_,λb o e n f=>?_,λb o e f=>?_,λb xs e=>tups b xs<|I.base.tups b xs e,λb o xs e=>frzs b o xs<|I.base.frzs b o xs e,λb ps e=>?_⟩,?_,λx c e=>?_,?_,λx c e=>?_,λp hp=>?_,hok,I.len⟩
 ·exact keep b o (G b o e) C (B b o e f) (I.base.keep b o e n C f) (I.base.free b o e n f)
 ·obtain⟨sl,e1⟩:=I.base.slot b o e n C f;obtain⟨K,e2⟩:=slot b _ (G b o e) C (B b o e f) e1<|I.base.free b o e n f;exact⟨K,e2⟩
 ·obtain⟨o',e1⟩:=I.base.there b o e f;exact free b o' (B b o e f) e1 (I.base.free b o e n f)
 ·obtain⟨o',e1⟩:=I.base.there b o e f;exact there b o' (B b o e f) e1
 ·obtain⟨O,e1⟩:=I.base.tbls b ps e;obtain⟨P,e2⟩:=tbls b _ e1;exact⟨O++P,by rw[e2,Array.append_assoc]⟩
 ·obtain⟨m,hn,N⟩:=I.loc;refine⟨m,ns m hn,λi x v e1 e2 e3=>?_⟩;obtain⟨u,r,l⟩:=N i x v e1 e2 e3;refine⟨u,r,?_⟩
  rcases l with l|⟨k,c,e,z⟩
  ·exact .inl l
  ·exact .inr ⟨k,c,e,g x c e _ z⟩
 ·obtain⟨v,z⟩:=I.cell x c e;exact⟨v,g x c e v z⟩
 ·obtain⟨m,⟨o,_,_,F,_⟩,_⟩:=I.loc;exact free _ o (λz=>(hch _ z).2.1 rfl) F I.free
 ·obtain⟨v,o,F,J⟩:=I.cell x c e;exact free c o (λz=>(hch c z).2.2.1 x c e rfl) F (I.freeC x c e)
 ·obtain⟨e,n,L,M,d⟩:=I.pin p hp;have j:p.1∉ch:=λz=>(hch p.1 z).2.2.2 p hp rfl;exact⟨keep p.1 p.2 L M j e n,free p.1 p.2 j e n,L,M,d⟩
def Inv.un{t':Nat}(I:Inv X pins σ H s)(u:Un X.fs [] H H' s.heap h')(hok:vO X.prog X.w H' h'):Inv X pins σ H' { s with heap:=h',toks:=t' }:=by
 obtain⟨m,⟨o,es,C,k,r⟩,_⟩:=id I.loc;obtain⟨B,z⟩:=u.any k I.free (by simp);exact I.step (g':=s.gens) (d':=s.drawn) (ch:=[]) (nofun) (λb o _ f _ e n=>u.keep b o e n f<|by simp) (λb o _ f _ e n=>u.slot b o e n f<|by simp) (λb o _ e n=>u.free b o e n<|by simp) (λb o _ e=>u.there b o e<|by simp) u.tups u.frzs u.tbls (λF q=>by
  obtain⟨o',j,g,d,p⟩:=q;rw[k]at d;cases d;exact⟨_,j,g,z,p⟩) hok I.bare
def Inv.call{g':Array GenState}{t':Nat}{d':Drawn}{ch:bb}(I:Inv X pins σ H s)(u:Un (frs X.stack) ch H H' s.heap h')(hok:vO X.prog X.w H' h')(hg:AllBare g')
  (hch:∀b∈ch,(b∈X.ex\/X.s₀.heap.objs.size<=b)/\b≠X.env.locals/\(∀x c,X.env.cells.lookup x=some c->c≠b)/\∀p∈X.pn++pins,p.1≠b) :
  Inv X pins σ H' { s with heap:=h',gens:=g',drawn:=d',toks:=t' }:=by
 obtain⟨m,⟨o,es,G,k,r⟩,_⟩:=id I.loc;obtain⟨F,j⟩:=u.any k I.free λz=>(hch _ z).2.1 rfl;exact I.step (ch:=ch) hch (λb o j q hc e n=>u.keep b o e n (λz=>(bE.mp<|I.F6 b z).elim j q) hc) (λb o _ _ hc e n=>u.any e n hc) (λb o hc e n=>u.free b o e n hc) (λb o hc e=>u.there b o e hc) u.tups u.frzs u.tbls (λJ C=>by
  obtain⟨o',g,f,d,B⟩:=C;rw[k]at d;cases d;exact⟨_,g,f,j,B⟩) hok hg
def Inv.turned{t':Nat}{it:ak}(I:Inv X pins σ H s)(k:∀b o,b≠it->s.heap.get? b=some o->h'.get? b=some o)(hn:H it=none)(hL:it≠X.env.locals)
  (h1:it∈X.ex\/X.s₀.heap.objs.size<=it) (h2:∀x c,X.env.cells.lookup x=some c->c≠it) (h3:∀p∈X.pn++pins,p.1≠it):Inv X pins σ H { s with heap:=h',toks:=t' }:=by
 have d:∀b u,H b=some u->b≠it:=λb u e z=>by rw[z,hn]at e;cases e
 refine I.step (g':=s.gens) (d':=s.drawn) (ch:=[it]) (λb f=>?_) (λb o _ _ hc e _=>k b o (λz=>hc<|by simp[z]) e) (λb o _ _ hc e _=>⟨o.slots,k b o (λz=>hc<|by simp[z]) e⟩) (λ_ _ _ _ n=>n)
  (λb o hc e=>⟨o,k b o (λz=>hc<|by simp[z]) e⟩) (λ_ _ e=>e) (λ_ _ _ e=>e) (λb ps e=>⟨#[],by rw[e];simp⟩) (λm g=>?_) (λb u e=>?_) I.bare
 ·have e:b=it:=by simpa using f
  subst e;exact⟨h1,hL,h2,h3⟩
 ·obtain⟨o,es,B,j,r⟩:=g;exact⟨o,es,B,k _ o (cP hL) j,r⟩
 ·refine(I.hok b u e).stay (λc v hc q=>k c v ?_ q) (λ_ q=>q) λ_ _ q=>q
  rcases hc with z|z
  ·rw[z];exact d b u e
  ·exact d c _ z
def Inv.tok(I:Inv X pins σ H s)(t:Nat):Inv X pins σ H { s with toks:=t }:=I.un (h':=s.heap) (t':=t) Un.refl I.hok
def Inv.kept{t':Nat}(I:Inv X pins σ H s)(k:∀b u,s.heap.get? b=some u->h'.get? b=some u):Inv X pins σ H { s with heap:=h',toks:=t' }:=I.un (Un.kept k)<|I.hok.kept k
def Inv.laid{a:ak}{t':Nat}(I:Inv X pins σ H s)(k:∀b u,s.heap.get? b=some u->h'.get? b=some u)(hp:s.heap.objs.size<=a)(new:jW X.prog X.w (upd H a o) h' a o) :
  Inv X pins σ (upd H a o) { s with heap:=h',toks:=t' }:=I.un (Un.laid k hp<|I.hok.fresh hp)<|I.hok.laid k hp new
def Inv.write{x e:ak}{t':Nat}(I:Inv X pins σ H s)(mu:WX<|H x)(he:e=x\/H e=some (.own x))(k:∀b u,b≠e->s.heap.get? b=some u->h'.get? b=some u)(heo:∃u,h'.get? e=some u)
  (new:jW X.prog X.w (upd H x o) h' x o):Inv X pins σ (upd H x o) { s with heap:=h',toks:=t' }:=I.un (Un.write mu he k heo)<|I.hok.write mu he k heo new
def Inv.Il{pins':bo}(I:Inv X pins σ H s)(h:∀p∈pins',s.heap.get? p.1=some p.2/\H p.1=none/\p.1≠X.env.locals/\p.1∉X.fs/\∀v,p.2.data≠.cell v):Inv X pins' σ H s:=
 ⟨I.ok,I.os,I.bare,I.base,I.loc,I.cell,I.free,I.freeC,λp hp=>(bF.mp hp).elim (λz=>I.pin p<|d_ _ z)<|h p,I.hok,I.len⟩
def DF{N:ar}(hN:N.Nodup){i j:Nat}{x:Str}(a:N[i]?=some x)(b:N[j]?=some x):i=j:=by
 obtain⟨h1,e1⟩:=aN.mp a;obtain⟨h2,e2⟩:=aN.mp b;exact(dw hN).mp (e1.trans e2.symm)
def J9{A:aA}{E:af->aC->Prop}{i:Nat}{x:Str}{v:V}{Q:Unit->aC->Prop}(I:Inv X pins σ H s)(hN:X.N.Nodup)(hi:X.N[i]?=some x)(hx:Loc X.env.scope x)(r:RelV v u)
  (h:∀s',Inv X pins (σ.set i<|some v) H s'->(∃a,Heap.SameBut a s.heap s'.heap/\(a=X.env.locals\/X.env.cells.lookup x=some a))->Q Unit.unit s') (hf:X.fn x=true\/X.env.scope.names.lookup x=some .local:=by first|exact .inl rfl|exact .inr rfl|assumption):wpAny M A (storeName X.env x u) Q E s:=by
 obtain⟨m,hn,hl⟩:=id I.loc;have J:(X.env.scope.kind == .class || (X.env.scope.kind == .module && X.env.locals != X.env.globals))=false:=by rw[I.ok.kind];rfl
 have g:i<σ.length:=by rw[I.len];exact(aN.mp hi).1
 have Uo:=I.Uo;have f:∀{a:ak} {h':aq},(∃o,s.heap.get? a=some o/\H a=none)->Heap.SameBut a s.heap h'->vO X.prog X.w H h':=λ{a h'} ha hs b ob e=>by
  obtain⟨_,_,hfree⟩:=ha;refine(I.hok b ob e).stay (λc W hc q=>(hs.2 c ?_).trans q) (λ_ q=>q) λ_ _ q=>q;rintro rfl
  rcases hc with rfl|hc
  ·rw[hfree]at e;cases e
  ·rw[hfree]at hc;cases hc
 rcases hx with B|B
 ·refine wpAny_storeName_local B hn (λh' hn' hs=>?_) J;obtain⟨oL,_,_,hoL,_⟩:=id hn;refine h _ ⟨I.ok,I.os,I.bare,⟨λb o e n C hx=>?_,λb o e n C hx=>?_,I.base.free,λb o e hx=>?_,I.base.tups,I.base.frzs,I.base.tbls⟩,⟨_,hn',λj y v' e1 e2 e3=>?_⟩,λy c e=>?_,I.free,I.freeC,λp hp=>?_,f ⟨oL,hoL,I.free⟩ hs,by simpa using I.len⟩ ⟨_,hs,.inl rfl⟩
  ·exact(hs.2 b<|bC<|bQ (bg e) I.ok.above).trans (I.base.keep b o e n C hx)
  ·obtain⟨Y,e1⟩:=I.base.slot b o e n C hx;exact⟨Y,(hs.2 b<|bC<|bQ (bg e) I.ok.above).trans e1⟩
  ·obtain⟨o',e1⟩:=I.base.there b o e hx;exact⟨o',(hs.2 b<|bC<|bQ (bg e) I.ok.above).trans e1⟩
  ·by_cases F:j=i
   ·subst F;rw[hi]at e1;cases e1;rw[bH g]at e2
    cases e2
    exact⟨u,r,.inl ⟨B,by simp⟩⟩
   ·rw[bL<|cP F]at e2;obtain⟨u',Z,q⟩:=hl j y v' e1 e2 e3;refine⟨u',Z,?_⟩
    rcases q with⟨k,e⟩|⟨k,c,e,z⟩
    ·refine .inl ⟨k,?_⟩;have:y≠x:=λe=>F<|DF hN e1<|e ▸ hi;simp[this,e]
    ·exact .inr ⟨k,c,e,z.sameBut hs<|Uo y c e⟩
  ·obtain⟨W,z⟩:=I.cell y c e;exact⟨W,z.sameBut hs<|Uo y c e⟩
  ·obtain⟨e,n,T,nf,d⟩:=I.pin p hp;exact⟨(hs.2 p.1 T).trans e,n,T,nf,d⟩
 ·have G:X.fn x=true:=by
   rcases hf with z|z
   ·exact z
   ·rw[z]at B;cases B
  obtain⟨c,hc⟩:=I.ok.has x<|.inl B;obtain⟨W,z⟩:=I.cell x c hc;refine wpAny_storeName_cell I.ok.kind B hc z λh' L hs=>?_;obtain⟨oc,O,P⟩:=id z;refine h { s with heap:=h' } ⟨I.ok,I.os,I.bare,⟨λb o e n C hx=>?_,λb o e n C hx=>?_,I.base.free,λb o e hx=>?_,I.base.tups,I.base.frzs,I.base.tbls⟩,⟨m,hn.sameBut hs<|cP<|Uo x c hc,λj y v' e1 e2 e3=>?_⟩,λy U e=>?_,I.free,I.freeC,λp hp=>?_,f ⟨oc,O,I.freeC x c hc⟩ hs,by simpa using I.len⟩ ⟨c,hs,.inr hc⟩
  ·exact(hs.2 b<|bC<|bQ (bg e)<|I.ok.cab x c G hc).trans (I.base.keep b o e n C hx)
  ·obtain⟨Y,e1⟩:=I.base.slot b o e n C hx;exact⟨Y,(hs.2 b<|bC<|bQ (bg e)<|I.ok.cab x c G hc).trans e1⟩
  ·obtain⟨o',e1⟩:=I.base.there b o e hx;exact⟨o',(hs.2 b<|bC<|bQ (bg e)<|I.ok.cab x c G hc).trans e1⟩
  ·by_cases F:j=i
   ·subst F;rw[hi]at e1;cases e1;rw[bH g]at e2
    cases e2
    exact⟨u,r,.inr ⟨.inl B,c,hc,L⟩⟩
   ·rw[bL<|cP F]at e2;obtain⟨u',Z,q⟩:=hl j y v' e1 e2 e3;refine⟨u',Z,?_⟩
    rcases q with q|⟨k,U,e,z'⟩
    ·exact .inl q
    ·refine .inr ⟨k,U,e,z'.sameBut hs ?_⟩;rintro rfl;exact F<|DF hN e1<|I.ok.inj _ _ _ e hc ▸ hi
  ·by_cases K:U=c
   ·subst K;exact⟨_,L⟩
   ·obtain⟨w2,z2⟩:=I.cell y U e;exact⟨w2,z2.sameBut hs K⟩
  ·obtain⟨e,n,T,nf,d⟩:=I.pin p hp;refine⟨(hs.2 p.1 ?_).trans e,n,T,nf,d⟩;intro q;rw[q,O]at e;have q':oc=p.2:=aU e;exact d W<|by rw[<- q'];exact P
def Aj{A:aA}{E:af->aC->Prop}{i:Nat}{x:Str}{v:V}{Q:Unit->aC->Prop}(I:Inv X pins σ H s)(hN:X.N.Nodup)(hi:X.N[i]?=some x)(hx:Loc X.env.scope x)(r:RelV v u)
  (h:∀s',Inv X pins (σ.set i<|some v) H s'->Q Unit.unit s') (hf:X.fn x=true\/X.env.scope.names.lookup x=some .local:=by first|exact .inl rfl|exact .inr rfl|assumption):wpAny M A (storeName X.env x u) Q E s:=
 J9 I hN hi hx r (λs' d _=>h s' d) hf
def Inv.Lm{s':aC}{ch:bb}(I:Inv X pins σ H s)(ho:s'.os=s.os)(u:Un (frs X.stack) ch H H' s.heap s'.heap)(hok:vO X.prog X.w H' s'.heap)(hg:AllBare s'.gens)
  (hch:∀b∈ch,(b∈X.ex\/X.s₀.heap.objs.size<=b)/\b≠X.env.locals/\(∀x c,X.env.cells.lookup x=some c->c≠b)/\∀p∈X.pn++pins,p.1≠b):Inv X pins σ H' s':=by
 obtain⟨h',g',d',t',o'⟩:=s';have e:o'=s.os:=ho;subst e;exact I.call (g':=g') (t':=t') (d':=d') u hok hg hch
end
meta abbrev XK:=af->Option ak->Hp->Prop
meta abbrev St:=List<|Option V
meta abbrev VK:=V->Hp->Prop
meta abbrev TE:=St->Hp->VK->Prop
meta abbrev TT:=St->Hp->(Bool->Hp->Prop)->Prop
meta abbrev TA:=St->Hp->(List V->Hp->Prop)->Prop
structure Ends where
 nx:St->Hp->Prop
 rt:VK
 bk:St->Hp->Prop:=λ_ _=>False
 ct:St->Hp->Prop:=λ_ _=>False
meta abbrev TS:=Ends->St->Hp->Prop
abbrev EP (X:Cx)(pins:bo)(σ:St)(Q:VK)(u:af)(s':aC):Prop:=∃v H',Inv X pins σ H' s'/\RelV v u/\Q v H'
abbrev TP (X:Cx)(pins:bo)(σ:St)(Q:Bool->Hp->Prop)(b:Bool)(s':aC):Prop:=∃H',Inv X pins σ H' s'/\Q b H'
abbrev AP (X:Cx)(pins:bo)(σ:St)(Q:List V->Hp->Prop)(us:ba)(s':aC):Prop:=∃vs H',Inv X pins σ H' s'/\Vals vs us/\Q vs H'
abbrev SP (X:Cx)(pins:bo)(D:Ends)(f:Flow)(s':aC):Prop:=
 match f with
 | .next=>∃d H',Inv X pins d H' s'/\D.nx d H'
 | .brk=>∃d H',Inv X pins d H' s'/\D.bk d H'
 | .cont=>∃d H',Inv X pins d H' s'/\D.ct d H'
 | .ret u=>∃v d H',Inv X pins d H' s'/\RelV v u/\D.rt v H'
abbrev PE (X:Cx)(e:aE)(t:TE):Prop:=
 ∀(pins:bo) (s:aC) (σ:St) (H:Hp) (Q:VK),Inv X pins σ H s->t σ H Q->wpAny (model X.prog X.w) X.A (eval e X.env) (EP X pins σ Q) X.xe s
abbrev PT (X:Cx)(e:aE)(t:TT):Prop:=
 ∀(pins:bo) (s:aC) (σ:St) (H:Hp) (Q:Bool->Hp->Prop),Inv X pins σ H s->t σ H Q->wpAny (model X.prog X.w) X.A (isTrue e X.env<|eval e X.env) (TP X pins σ Q) X.xe s
abbrev PW (X:Cx)(e:aE)(t:TT):Prop:=
 ∀(d:Sem af) (pins:bo) (s:aC) (σ:St) (H:Hp) (Q:Bool->Hp->Prop),Inv X pins σ H s->t σ H Q->wpAny (model X.prog X.w) X.A (isTrue e X.env d) (TP X pins σ Q) X.xe s
abbrev PA (X:Cx)(es:List aE)(t:TA):Prop:=
 ∀(pos:Pos) (pins:bo) (s:aC) (σ:St) (H:Hp) (Q:List V->Hp->Prop),Inv X pins σ H s->t σ H Q->wpAny (model X.prog X.w) X.A (spliced<|backTo pos<|starEach es X.env) (AP X pins σ Q) X.xe s
abbrev PS (X:Cx)(st:aF)(t:TS):Prop:=
 ∀(pins:bo) (s:aC) (σ:St) (H:Hp) (D:Ends),Inv X pins σ H s->t D σ H->wpAny (model X.prog X.w) X.A (exec st X.env) (SP X pins D) X.xe s
abbrev Cc (X:Cx)(st:List aF)(t:TS):Prop:=
 ∀(pins:bo) (s:aC) (σ:St) (H:Hp) (D:Ends),Inv X pins σ H s->t D σ H->wpAny (model X.prog X.w) X.A (execs st X.env) (SP X pins D) X.xe s
def kj{α:Type}{t:Sem α}{Q Q':α->aC->Prop}{A:aA}{E:af->aC->Prop}(h:wpAny M A t Q E s)(hQ:∀a s,Q a s->Q' a s):wpAny M A t Q' E s:=fH h hQ λ_ _ x=>x
section
variable {X:Cx}
abbrev Yy (i:Nat):TE:=λσ H Q=>∃v,σ[i]?=some (some v)/\Q v H
abbrev tC (v:V):TE:=λ_ H Q=>Q v H
def Lv{i:Nat}{x:Str}(hN:X.N[i]?=some x)(hv:WJ X.env.scope x)(hd:(x == ("__debug__" : Str))=false:=by decide)(hcd:(x == ("__classdict__" : Str))=false:=by decide):PE X (.Name x pos) (Yy i):=by
 kt_k;obtain⟨v,e,h⟩:=h;obtain⟨m,hn,g⟩:=I.loc;obtain⟨u,r,l⟩:=g i x v hN e hv;have fin:EP X pins σ Q u s:=⟨v,H,I,r,h⟩
 rcases l with⟨f,j⟩|⟨f,c,hc,d⟩
 ·exact wpAny_Name (wpAny_loadName_local I.ok.kind f hn j fin) hd
 ·rcases f with f|f
  ·exact wpAny_Name (wpAny_loadName_cell I.ok.kind f hc d fin) hd
  ·exact wpAny_Name (wpAny_loadName_free I.ok.kind f hc d fin hcd) hd
def Wq{i j pos}:PE X (.Constant (.int i) j pos) (tC<|.int i):=λ_ _ _ H _ I h=>wpAny_Constant_int ⟨.int i,H,I.tok _,⟨_,rfl⟩,h⟩
def XU{b j pos}:PE X (.Constant (.bool b) j pos) (tC<|.bl b):=λ_ _ _ H _ I h=>Constant_bool ⟨.bl b,H,I,rfl,h⟩
def Uq{j pos}:PE X (.Constant .none j pos) (tC .non):=λ_ _ _ H _ I h=>Constant_none ⟨.non,H,I,rfl,h⟩
abbrev Gl (X:Cx)(x:Str):Prop:=X.env.kindOf x=some .globalImplicit
def G3{E:af->aC->Prop}{H:Hp}{x:Str}{Q:af->aC->Prop}(I:Inv X pins σ H s)(hg:Gl X x)(hm:X.mg x=some u)(h:Q u s)
  (hd:(x == ("__debug__" : Str))=false:=by decide):wpAny (model X.prog X.w) X.A (eval (.Name x pos) X.env) Q E s:=
 Calls.Name_function_global I.ok.kind hg (Calls.loadGlobal_global (by rw[I.ok.glob];exact I.mod.glob.keeps I.bk) hm h) hd
def xm{E:af->aC->Prop}{H:Hp}{x:Str}{Q:af->aC->Prop}(I:Inv X pins σ H s)(hg:Gl X x)(hm:X.mg x=none)(hv:bootBuiltins x=some u)(h:Q u s)
  (hn:x ≠ "__name__" := by decide) (hd:(x == ("__debug__" : Str))=false:=by decide):wpAny (model X.prog X.w) X.A (eval (.Name x pos) X.env) Q E s:=by
 obtain⟨d,h1,h2⟩:=I.mod.blt;exact Calls.Name_function_global I.ok.kind hg (Calls.loadGlobal_builtin (by rw[I.ok.glob];exact I.mod.glob.keeps I.bk) hm (by rw[I.ok.blt];exact h1.keeps I.bk) ((h2 x hn).trans hv) h) hd
def Q_{x:Str}{v:V}(hg:Gl X x)(hm:X.mg x=some u)(r:RelV v u)(hd:(x == ("__debug__" : Str))=false:=by decide):PE X (.Name x pos) (tC v):=
 λ_ _ _ H _ I h=>G3 I hg hm ⟨v,H,I,r,h⟩ hd
def RK{x:Str}{v:V}(hg:Gl X x)(hm:X.mg x=none)(hv:bootBuiltins x=some u)(r:RelV v u)(hn:x ≠ "__name__" := by decide)(hd:(x == ("__debug__" : Str))=false:=by decide):PE X (.Name x pos) (tC v):=
 λ_ _ _ H _ I h=>xm I hg hm hv ⟨v,H,I,r,h⟩ hn hd
variable {a b:aE}{ta tb:TE}{pos:Pos}
variable {tA tB':TT}{rest:List aE}
abbrev WZ (t u:TT):TT:=λσ H Q=>t σ H λc H1=>if c=true then u σ H1 Q else Q false H1
abbrev tOr (t u:TT):TT:=λσ H Q=>t σ H λc H1=>if c=true then Q true H1 else u σ H1 Q
abbrev ZZ (t:TT):TT:=λσ H Q=>t σ H λc H1=>Q (!c) H1
def Ql(ha:PT X a tA):PW X (.BoolOp .And [a] pos) tA:=by
 intro d pins s σ H Q I h;refine isTrue_and (kj (ha pins s σ H Q I h) λc f e=>?_)
 cases c with
 | true=>exact isTrue_and_nil e
 | false=>exact e
def VW(ha:PT X a tA):PW X (.BoolOp .Or [a] pos) tA:=by
 intro d pins s σ H Q I h;refine isTrue_or (kj (ha pins s σ H Q I h) λc f e=>?_)
 cases c with
 | false=>exact isTrue_or_nil e
 | true=>exact e
def UU(ha:PT X a tA)(hb:PW X (.BoolOp .And (b::rest) pos) tB'):PW X (.BoolOp .And (a::b::rest) pos) (WZ tA tB'):=by
 intro g pins s σ H Q I h;refine isTrue_and (kj (ha pins s σ H _ I h) λc j ⟨H1,d,f⟩=>?_)
 cases c with
 | true=>exact hb g pins j σ H1 Q d f
 | false=>exact⟨H1,d,f⟩
def Yr(ha:PT X a tA)(hb:PW X (.BoolOp .Or (b::rest) pos) tB'):PW X (.BoolOp .Or (a::b::rest) pos) (tOr tA tB'):=by
 intro g pins s σ H Q I h;refine isTrue_or (kj (ha pins s σ H _ I h) λc j ⟨H1,d,f⟩=>?_)
 cases c with
 | true=>exact⟨H1,d,f⟩
 | false=>exact hb g pins j σ H1 Q d f
def UR(ha:PT X a tA):PT X (.UnaryOp .Not a pos) (ZZ tA):=by
 kt_k;exact isTrue_not<|ha pins s σ H (λc H1=>Q (!c) H1) I h
abbrev X8 (ta tb:TE):TE:=λσ H Q=>ta σ H λx H1=>∃c,x=.bl c/\if c=true then tb σ H1 Q else Q (.bl false) H1
abbrev Xx (ta:TE):TE:=λσ H Q=>ta σ H λx H1=>∃c,x=.bl c/\Q (.bl<|!c) H1
def Vv{op}{t:TE}(h:PE X a t):PE X (.BoolOp op [a] pos) t:=λpins s σ H Q I hw=>BoolOp_one<|h pins s σ H Q I hw
def VH(ha:PE X a ta)(hb:PE X (.BoolOp .And (b::rest) pos) tb):PE X (.BoolOp .And (a::b::rest) pos) (X8 ta tb):=by
 kt_k;refine BoolOp_and<|kj (ha pins s σ H _ I h) λv g ⟨x,H1,f,r1,d⟩=>?_;obtain⟨c,rfl,d⟩:=d
 cases r1
 refine cU ?_
 cases c with
 | true=>exact hb pins g σ H1 Q f d
 | false=>exact⟨.bl false,H1,f,rfl,d⟩
def Up(ha:PE X a ta):PE X (.UnaryOp .Not a pos) (Xx ta):=by
 kt_k;refine UnaryOp_<|kj (ha pins s σ H _ I h) λv g ⟨x,H1,f,r1,d⟩=>?_;obtain⟨c,rfl,d⟩:=d
 cases r1
 exact not_of<|cU ⟨.bl<|!c,H1,f,rfl,d⟩
end
abbrev lT (K:au)(H:Hp)(a:ak)(xs:List V):Prop:=
 Rd H a (.lst xs) \/
  ∃(o:Obj) (its:Array af) (n:Nat),K.lookup a=some o/\o.cls=.type "list" /\ o.dict=none/\o.data=.seq its n/\its.size<=sizeLine/\Vals xs its.toList
abbrev nG (K:au)(H:Hp)(a:ak)(xs:List V):Prop:=
 Rd H a (.tup xs) \/
  ∃(o:Obj) (its:Array af) (n:Nat),K.lookup a=some o/\o.cls=.type "tuple" /\ o.dict=none/\o.data=.seq its n/\its.size<=sizeLine/\Vals xs its.toList
abbrev Zy:af->Option V
 | .none=>some .non
 | .bool b=>some (.bl b)
 | .int i _=>some (.int i)
 | .str x _=>some (.str x)
 | .bytes b _=>some (.byt b)
 | .float b _=>some (.flt b)
 | .ref a=>some (.ref a)
 | .type n=>some (.ty n)
 | _=>none
def RelV.abs{x:V}(r:RelV x u):Zy u=some x:=by
 cases x with
 | non=>cases r;rfl
 | bl _=>cases r;rfl
 | int _=>obtain⟨t,rfl⟩:=r;rfl
 | str _=>obtain⟨t,rfl⟩:=r;rfl
 | byt _=>obtain⟨t,rfl⟩:=r;rfl
 | flt _=>obtain⟨t,rfl⟩:=r;rfl
 | ref _=>cases r;rfl
 | ty _=>cases r;rfl
def RelV.inj{x:V}(r:RelV x u)(q:RelV y u):x=y:=aU<|r.abs.symm.trans q.abs
theorem Vals.inj:∀{xs ys:List V}{us:ba},Vals xs us->Vals ys us->xs=ys
 | _,_,_,.nil,.nil=>rfl
 | _,_,_,.cons r t,.cons f d=>by rw[r.inj f,Vals.inj t d]
section
variable {X:Cx}{pins:bo}{σ:St}{H:Hp}{s:aC}{a:ak}{xs ys:List V}
def lT.of{K:au}(h:H a=some (.lst xs)):lT K H a xs:=.inl<|.inl h
def nG.of{K:au}(h:H a=some (.tup xs)):nG K H a xs:=.inl<|.inl h
def Inv.list(I:Inv X pins σ H s)(h:lT X.K H a xs):∃its:ba,Vals xs its/\PlainL s.heap a its.toArray/\xs.length<=sizeLine:=by
 rcases h with h|⟨o,its,n,f,hc,d,hs,hz,r⟩
 ·obtain⟨z,its,n,r,e⟩:=h.ok I.hok;exact⟨its,r,⟨_,n,e,rfl,rfl,rfl⟩,z⟩
 ·refine⟨its.toList,r,⟨o,n,I.C4 a o f,hc,d,by simpa using hs⟩,?_⟩;have e:=r.length;dsimp[b_]at e
  lia
def Inv.tuple(I:Inv X pins σ H s)(h:nG X.K H a xs):∃its:ba,Vals xs its/\IsTup s.heap a its.toArray/\xs.length<=sizeLine:=by
 rcases h with h|⟨o,its,n,d,hc,_,hs,hz,r⟩
 ·obtain⟨z,its,r,p⟩:=h.ok I.hok;exact⟨its,r,p.tup,z⟩
 ·refine⟨its.toList,r,⟨o,I.C4 a o d,hc,n,by simpa using hs⟩,?_⟩;have e:=r.length;dsimp[b_]at e
  lia
def Inv.y_(I:Inv X pins σ H s)(h:lT X.K H a xs)(h':lT X.K H a ys):xs=ys:=by
 obtain⟨its,r,⟨o,n,e,_,_,d⟩,_⟩:=I.list h;obtain⟨f,k,⟨o',m,j,_,_,g⟩,_⟩:=I.list h';rw[e]at j;cases j;rw[d]at g
 injection g with d1 _
 have:its=f:=by simpa using dG Array.toList d1
 subst this;exact r.inj k
def Inv.A3(I:Inv X pins σ H s)(h:nG X.K H a xs)(h':nG X.K H a ys):xs=ys:=by
 obtain⟨its,r,⟨o,e,_,n,d⟩,_⟩:=I.tuple h;obtain⟨f,k,⟨o',j,_,m,g⟩,_⟩:=I.tuple h';rw[e]at j;cases j;rw[d]at g
 injection g with d1 _
 have:its=f:=by simpa using dG Array.toList d1
 subst this;exact r.inj k
end
meta abbrev Cx.AB (X:Cx)(E:af->aC->Prop):Cx:={ X with xe:=E }
meta abbrev Cx.XM (X:Cx):Cx:=X.AB λ_ _=>False
def Cx.Ok.AB{X:Cx}(ok:X.Ok)(E:af->aC->Prop):(X.AB E).Ok:=
 ⟨ok.mod,ok.kind,ok.glob,ok.blt,ok.above,ok.inj,ok.has,ok.cab,ok.hd,ok.frames,ok.stk,ok.exf,ok.bs,ok.bsz,ok.noex,ok.exfs,ok.zw,ok.frf⟩
def Cx.Ok.tP{X:Cx}{E:af->aC->Prop}(ok:(X.AB E).Ok):X.Ok:=
 ⟨ok.mod,ok.kind,ok.glob,ok.blt,ok.above,ok.inj,ok.has,ok.cab,ok.hd,ok.frames,ok.stk,ok.exf,ok.bs,ok.bsz,ok.noex,ok.exfs,ok.zw,ok.frf⟩
section
variable {X:Cx}{pins:bo}{σ:St}{H:Hp}{s:aC}{E:af->aC->Prop}
def Inv.AB(I:Inv X pins σ H s)(E:af->aC->Prop):Inv (X.AB E) pins σ H s:=⟨I.ok.AB E,I.os,I.bare,I.base,I.loc,I.cell,I.free,I.freeC,I.pin,I.hok,I.len⟩
def Inv.tP(I:Inv (X.AB E) pins σ H s):Inv X pins σ H s:=⟨I.ok.tP,I.os,I.bare,I.base,I.loc,I.cell,I.free,I.freeC,I.pin,I.hok,I.len⟩
def SP.tP{D:Ends}{f:Flow}(h:SP (X.AB E) pins D f s'):SP X pins D f s':=by
 cases f with
 | next=>obtain⟨d,H',I,q⟩:=h;exact⟨d,H',I.tP,q⟩
 | brk=>obtain⟨d,H',I,q⟩:=h;exact⟨d,H',I.tP,q⟩
 | cont=>obtain⟨d,H',I,q⟩:=h;exact⟨d,H',I.tP,q⟩
 | ret u=>obtain⟨v,d,H',I,r,q⟩:=h;exact⟨v,d,H',I.tP,r,q⟩
def Cc.XM{st:List aF}{t:TS}(h:Cc X.XM st t):Cc X st t:=λpins s σ H D I hw=>
 fH (h pins s σ H D (I.AB _) hw) (λ_ _ q=>q.tP) λ_ _ z=>False.elim z
end
section
variable {X:Cx}{st:aF}{rest:List aF}{t u:TS}{e:aE}{te:TE}{pos:Pos}
abbrev W7:TS:=λD σ H=>D.nx σ H
abbrev W3 (t u:TS):TS:=λD σ H=>t { D with nx:=u D } σ H
def Qu:Cc X [] W7:=λ_ _ σ H _ I h=>gK ⟨σ,H,I,h⟩
def Pn(h1:PS X st t)(h2:Cc X rest u):Cc X (st::rest) (W3 t u):=by
 ksr_p;refine wpAny_execs_cons (kj (h1 pins s σ H { D with nx:=u D } I h) λf g q=>?_)
 cases f with
 | next=>
  obtain⟨d,H',j,q⟩:=q;exact h2 pins g d H' D j q
 | ret v=>exact q
 | brk=>exact q
 | cont=>exact q
def P4(h1:PS X st t):Cc X [st] t:=by
 ksr_p;refine wpAny_execs_cons (kj (h1 pins s σ H D I h) λf d q=>?_)
 cases f with
 | next=>exact gK q
 | ret v=>exact q
 | brk=>exact q
 | cont=>exact q
def Inv.quiet{H:Hp}(I:Inv X pins σ H s):interactive X.env=false:=by simp[interactive,I.ok.kind]
abbrev WO (te:TE):TS:=λD σ H=>te σ H λ_ H1=>D.nx σ H1
def QD(he:PE X e te)(hs:swapsWith e none pos.line X.env=pure false:=by rfl):PS X (.Expr e pos) (WO te):=by
 ksr_p;exact wpAny_Expr_any (kj (he pins s σ H _ I h) λv g ⟨x,H1,f,r1,d⟩=>⟨σ,H1,f,d⟩) I.quiet hs
abbrev Zv (te:TE):TS:=λD σ H=>te σ H D.rt
def VP(he:PE X e te):PS X (.Return (some e) pos) (Zv te):=by
 ksr_p;exact wpAny_Return_some<|kj (he pins s σ H _ I h) λv g ⟨x,H1,f,r1,d⟩=>⟨x,σ,H1,f,r1,d⟩
abbrev Yn:TS:=λD _ H=>D.rt .non H
def Qw:PS X (.Return none pos) Yn:=λ_ _ σ H _ I h=>wpAny_Return_none ⟨.non,σ,H,I,rfl,h⟩
abbrev YY (c:TT)(t u:TS):TS:=λD σ H=>c σ H λb H1=>if b=true then t D σ H1 else u D σ H1
def Xc{c:aE}{a:List aF}{tc:TT}(hc:PT X c tc)(ha:Cc X a t)(hb:Cc X b u):PS X (.If c a b pos) (YY tc t u):=by
 ksr_p;refine wpAny_If (kj (hc pins s σ H _ I h) λd f ⟨H1,j,g⟩=>?_)
 cases d with
 | true=>exact ha pins f σ H1 D j g
 | false=>exact hb pins f σ H1 D j g
abbrev Wl:TS:=λ_ _ _=>False
def Nk:PS X st Wl:=λ_ _ _ _ _ _ h=>h.elim
end
meta abbrev TG:=V->St->Hp->(St->Hp->Prop)->Prop
meta abbrev TJ:=List V->St->Hp->(St->Hp->Prop)->Prop
abbrev PG (X:Cx)(target:aE)(t:TG):Prop:=
 ∀(pins:bo) (s:aC) (σ:St) (H:Hp) (v:V) (u:af) (Q:St->Hp->Prop),Inv X pins σ H s->RelV v u->t v σ H Q ->
  wpAny (model X.prog X.w) X.A (assign target X.env u) (λ_ s'=>∃d H',Inv X pins d H' s'/\Q d H') X.xe s
abbrev Xn (X:Cx)(ts:List aE)(t:TJ):Prop:=
 ∀(pins:bo) (s:aC) (σ:St) (H:Hp) (vs:List V) (us:ba) (Q:St->Hp->Prop),Inv X pins σ H s->Vals vs us->t vs σ H Q ->
  wpAny (model X.prog X.w) X.A (assignInOrder ((assignEach ts X.env).map (·.2)) us) (λ_ s'=>∃d H',Inv X pins d H' s'/\Q d H') X.xe s
meta abbrev DJ:=V->V->V->Hp->(Hp->Prop)->Prop
abbrev DU (X:Cx)(t:DJ):Prop:=
 ∀(pins:bo) (s:aC) (σ:St) (H:Hp) (o i v:V) (ov iv u:af) (Q:Hp->Prop),Inv X pins σ H s->RelV o ov->RelV i iv->RelV v u->t o i v H Q ->
  wpAny (model X.prog X.w) X.A (setItem ov iv u) (λ_ s'=>∃H',Inv X pins σ H' s'/\Q H') X.xe s
meta abbrev Vo:=V->V->Hp->VK->Prop
abbrev Tv (X:Cx)(op:Operator)(t:Vo):Prop:=
 ∀(pins:bo) (s:aC) (σ:St) (H:Hp) (x y:V) (v u:af) (Q:VK),Inv X pins σ H s->RelV x v->RelV y u->t x y H Q ->
  wpAny (model X.prog X.w) X.A (inplaceOp op v u) (EP X pins σ Q) X.xe s
section
variable {X:Cx}{pos:Pos}
abbrev OG (i:Nat):TG:=λv σ H Q=>Q (σ.set i<|some v) H
def JB{i:Nat}{x:Str}(hN:X.N.Nodup)(hi:X.N[i]?=some x)(hx:Loc X.env.scope x)(hf:X.fn x=true\/X.env.scope.names.lookup x=some .local:=by first|exact .inl rfl|exact .inr rfl|assumption):PG X (.Name x pos) (OG i):=by
 intro pins s σ H v u Q I r h;exact wpAny_assign_Name<|Aj I hN hi hx r (λs' d=>⟨_,H,d,h⟩) hf
abbrev Zr:TJ:=λvs σ H Q=>vs=[]/\Q σ H
abbrev XX (t:TG)(u:TJ):TJ:=λvs σ H Q=>∃v r,vs=v::r/\t v σ H λd H'=>u r d H' Q
def QE:Xn X [] Zr:=by
 intro pins s σ H vs us Q I r h;obtain⟨e,h⟩:=h;subst e
 cases r
 exact assignInOrder_nil ⟨σ,H,I,h⟩
def LI{e:aE}{t:TG}{u:TJ}(h1:PG X e t)(h2:Xn X es u)
  (hs:(assignEach (e::es) X.env).map (·.2)=assign e X.env::(assignEach es X.env).map (·.2):=by rfl):Xn X (e::es) (XX t u):=by
 intro pins s σ H vs us Q I r h;obtain⟨v,m,e1,h⟩:=h;subst e1
 cases r with
 | cons r k=>
  rw[hs];refine assignInOrder_cons<|kj (h1 pins s σ H _ _ _ I r h) λ_ f ⟨d,H1,j,g⟩=>?_;exact h2 pins f d H1 _ _ Q j k g
abbrev ZF (K:au)(n:Nat)(t:TJ):TG:=λv σ H Q=>∃a xs,v=.ref a/\nG K H a xs/\xs.length=n/\t xs σ H Q
def Vp{k:Nat}{t:TJ}{n:Nat}(hc:X.calm=true)(h:Xn X es t)
  (hn:(assignEach es X.env).length=n:=by rfl) (hst:(assignEach es X.env).findIdx? (·.1)=none:=by rfl):PG X (.Tuple es k pos) (ZF X.K n t):=by
 intro pins s σ H v u Q I r hw;obtain⟨a,xs,e1,hq,d,hw⟩:=hw;subst e1
 cases r
 obtain⟨its,rv,g,hz⟩:=I.tuple hq;refine assign_Tuple_tuple (I.ok.hd hc) g (by simp[hn,<- d,rv.length]) hst λh' j=>?_;have f:Inv X pins σ H { s with heap:=h' }:=I.kept (t':=s.toks) λb o e=>j b o (bC<|bg e) e;exact h pins _ σ H xs _ Q f (by simpa using rv) hw
abbrev ZQ (to ti:TE)(t:DJ):TG:=λv σ H Q=>to σ H λo H1=>ti σ H1 λi H2=>t o i v H2 λH3=>Q σ H3
def F0{to ti:TE}{t:DJ}(ho:PE X o to)(hi:PE X i ti)(hs:DU X t)
  (ha:∀v,assign (.Subscript o i pos) X.env v=(do
   let ov <- holding [v] (eval o X.env)
   let iv <- holding [v,ov] (eval i X.env)
   standAt pos
   holding [v,ov,iv] (setItem ov iv v)
   release [v,ov,iv] []):=by intro _;rfl):PG X (.Subscript o i pos) (ZQ to ti t):=by
 intro pins s σ H v u Q I r h;rw[ha];refine aI<|c_<|kj (ho pins s σ H _ I h) λov d ⟨x,H1,g,r1,f⟩=>?_;refine aI<|c_<|kj (hi pins d σ H1 _ g f) λiv j ⟨y,H2,k,r2,p⟩=>?_;refine aI<|eF<|aI<|c_<|kj (hs pins j σ H2 x y v ov iv u _ k r1 r2 r p) λ_ z ⟨H3,q,m⟩=>?_;exact wpAny_release ⟨σ,H3,q,m⟩
abbrev QT (te:TE)(g:TG):TS:=λD σ H=>te σ H λx H1=>g x σ H1 D.nx
def VC{tg e:aE}{te:TE}{g:TG}(he:PE X e te)(hg:PG X tg g)(hs:swapsWithSole [tg] e pos.line X.env=pure false:=by rfl)(hw:swappedStores [tg] e X.env=pure none:=by rfl)
  (h1:(assignEach [tg] X.env).map (·.2)=[assign tg X.env]:=by rfl):PS X (.Assign [tg] e pos) (QT te g):=by
 ksr_p;refine wpAny_Assign_stores (kj (he pins s σ H _ I h) λv d ⟨x,H1,j,r1,f⟩=>?_) hs hw;rw[h1];exact kj (hg pins d σ H1 x v _ j r1 f) λ_ k q=>q
def UE{i:Nat}{x:Str}{e:aE}{te:TE}(hN:X.N.Nodup)(hi:X.N[i]?=some x)(hx:Loc X.env.scope x)(he:PE X e te)(hs:swapsWith e (some<|.Name x pos') pos.line X.env=pure false:=by rfl)(hf:X.fn x=true\/X.env.scope.names.lookup x=some .local:=by first|exact .inl rfl|exact .inr rfl|assumption) :
  PS X (.Assign [.Name x pos'] e pos) (QT te<|OG i):=by
 ksr_p;refine wpAny_Assign_Name (kj (he pins s σ H _ I h) λv j ⟨y,H1,g,r1,d⟩=>?_) hs;exact Aj g hN hi hx r1 (λk f=>⟨_,H1,f,d⟩) hf
abbrev ZA (i:Nat)(te:TE)(ti:Vo):TS:=λD σ H=>∃x,σ[i]?=some (some x)/\te σ H λy H1=>ti x y H1 λz H2=>D.nx (σ.set i<|some z) H2
def Uv{i:Nat}{x:Str}{e:aE}{te:TE}{ti:Vo}(hN:X.N.Nodup)(hi:X.N[i]?=some x)(hx:Loc X.env.scope x)(he:PE X e te)(ho:Tv X op ti)(hf:X.fn x=true\/X.env.scope.names.lookup x=some .local:=by first|exact .inl rfl|exact .inr rfl|assumption) :
  PS X (.AugAssign (.Name x pos') op e pos) (ZA i te ti):=by
 ksr_p;obtain⟨v,e1,h⟩:=h;obtain⟨m,hn,B⟩:=I.loc;have p:WJ X.env.scope x:=by rcases hx with k|k;exact .inl k;exact .inr (.inl k)
 obtain⟨u,r,l⟩:=B i x v hi e1 p;refine wpAny_AugAssign_Name ?_;have q:wpAny (model X.prog X.w) X.A (eval e X.env) (λw g=>wpAny (model X.prog X.w) X.A (inplaceOp op u w) (λr j=>wpAny (model X.prog X.w) X.A (storeName X.env x r) (λ_=>SP X pins D .next) X.xe j) X.xe g) X.xe s:=by
  refine kj (he pins s σ H _ I h) λw C ⟨y,H1,G,r1,F⟩=>?_;refine kj (ho pins C σ H1 v y u w _ G r r1 F) λz O ⟨P,H2,K,r2,L⟩=>?_;exact Aj K hN hi hx r2 (λT M=>⟨_,H2,M,L⟩) hf
 rcases l with⟨d,J⟩|⟨d,c,hc,f⟩
 ·exact wpAny_loadName_local I.ok.kind d hn J q
 ·rcases d with d|d
  ·exact wpAny_loadName_cell I.ok.kind d hc f q
  ·rcases hx with k|k
   ·have:X.env.scope.names.lookup x=some .free:=d;rw[k]at this;cases this
   ·have:X.env.scope.names.lookup x=some .free:=d;rw[k]at this;cases this
abbrev YC (to ti te:TE)(tget:V->V->Hp->VK->Prop)(tip:Vo)(tset:DJ):TS:=λD σ H=>to σ H λo H1=>ti σ H1 λi H2=>tget o i H2 λx H3=>te σ H3 λy f=>tip x y f λz d=>tset o i z d λg=>D.nx σ g
abbrev UD (X:Cx)(t:V->V->Hp->VK->Prop):Prop:=
 ∀(pins:bo) (s:aC) (σ:St) (H:Hp) (o i:V) (ov iv:af) (Q:VK),Inv X pins σ H s->RelV o ov->RelV i iv->t o i H Q ->
  wpAny (model X.prog X.w) X.A (getItem ov iv) (EP X pins σ Q) X.xe s
def Q7{e:aE}{to ti te:TE}{tget:V->V->Hp->VK->Prop}{tip:Vo}{tset:DJ}(ho:PE X o to)(hi:PE X i ti)(hg:UD X tget)(he:PE X e te)(hp:Tv X op tip)(hs:DU X tset)
  (ha:∀ov iv new,augStore i ov iv new=(do holding [new,ov,iv] (setItem ov iv new);release [new,ov,iv] [];pure .next):=by intros;rfl):PS X (.AugAssign (.Subscript o i tpos) op e pos) (YC to ti te tget tip tset):=by
 ksr_p;refine wpAny_AugAssign_SubscriptAny (kj (ho pins s σ H _ I h) λov g ⟨d,H1,p,r1,k⟩=>?_) ha;refine kj (hi pins g σ H1 _ p k) λiv G ⟨f,H2,K,r2,Z⟩=>?_;refine kj (hg pins G σ H2 d f ov iv _ K r1 r2 Z) λold P ⟨z,H3,I3,B,O⟩=>?_;refine kj (he pins P σ H3 _ I3 O) λv q ⟨m,J,Y,F,C⟩=>?_;refine kj (hp pins q σ J z m old v _ Y B F C) λnew L ⟨T,j,I5,U,N⟩=>?_;exact kj (hs pins L σ j d f T ov iv new _ I5 r1 r2 U N) λ_ s6 ⟨H6,W,M⟩=>⟨σ,H6,W,M⟩
abbrev ipI (f:Int->Int->Int):Vo:=λx y H Q=>∃i j,x=.int i/\y=.int j/\Q (.int<|f i j) H
def UA:Tv X .Add (ipI λi j=>i+j):=by
 intro pins s σ H x y v u Q I r1 r2 h;obtain⟨i,j,e1,e2,q⟩:=h;subst e1;subst e2;obtain⟨t,rfl⟩:=r1;obtain⟨d,rfl⟩:=r2;exact iadd_int ⟨.int _,H,I.tok _,⟨_,rfl⟩,q⟩
def Vd:Tv X .Sub (ipI λi j=>i-j):=by
 intro pins s σ H x y v u Q I r1 r2 h;obtain⟨i,j,e1,e2,q⟩:=h;subst e1;subst e2;obtain⟨t,rfl⟩:=r1;obtain⟨d,rfl⟩:=r2;exact isub_int ⟨.int _,H,I.tok _,⟨_,rfl⟩,q⟩
end
section
variable {X:Cx}{pos:Pos}
abbrev My (c:TT)(tb:TS):TS:=λD σ H=>∃W:Nat->St->Hp->Prop,(∃m,W m σ H)/\∀m σ H,W m σ H ->
 c σ H λb H1=>if b=true then ∃N:St->Hp->Prop,(∀d H',N d H'->∃f,f<m/\W f d H')/\tb { D with nx:=N,ct:=N,bk:=D.nx } σ H1 else D.nx σ H1
def LK{c:aE}{tc:TT}{tb:TS}(hp:PassesOwn (model X.prog X.w) X.A X.env X.xe)(hc:PT X c tc)(hb:Cc X body tb):PS X (.While c body [] pos) (My tc tb):=by
 ksr_p;obtain⟨W,⟨M,P⟩,turn⟩:=h;refine wpAny_While<|codeAny_whileLoop (λn s'=>∃j H',Inv X pins j H' s'/\W n j H') ?_ M ⟨σ,H,I,P⟩;rintro n J ⟨g,H1,L,K⟩;refine d7 hp (kj (hc pins J g H1 _ L<|turn n g H1 K) λb O ⟨H2,G,m⟩=>?_)
 cases b with
 | true=>
  obtain⟨N,F,m⟩:=m;rw[aL rfl];refine d7 hp (kj (hb pins O g H2 _ G m) λf T k=>?_)
  cases f with
  | next=>
   obtain⟨d,H3,z,q⟩:=k;obtain⟨C,B,p⟩:=F d H3 q;exact⟨C,B,d,H3,z,p⟩
  | cont=>
   obtain⟨d,H3,z,q⟩:=k;obtain⟨C,B,p⟩:=F d H3 q;exact⟨C,B,d,H3,z,p⟩
  | brk=>exact k
  | ret v=>exact k
 | false=>
  rw[aK bK];exact gK ⟨g,H2,G,m⟩
end
structure It where
 go:Nat->Hp->Prop
 yld:Nat->Hp->V->Hp->Prop
 stop:Nat->Hp->Prop
abbrev uB (X:Cx)(pins:bo)(H:Hp)(b:ak):Prop:=
 H b=none/\b≠X.env.locals/\b∉X.fs/\(b∈X.ex\/X.s₀.heap.objs.size<=b)/\(∀x c,X.env.cells.lookup x=some c->c≠b)/\∀p∈X.pn++pins,p.1≠b
def Inv.JO{X:Cx}{H H':Hp}{s:aC}(I:Inv X pins σ H s)(hb:s.heap.objs.size<=b)(hn:H' b=none):uB X pins H' b:=by
 refine⟨hn,ne_of_gt<|bQ I.lt hb,I.Zd hb,.inr<|bP I.sz hb,λx c e z=>?_,λp hp z=>?_⟩
 ·obtain⟨v,q⟩:=I.cell x c e;exact absurd (bQ q.lt<|by rw[z];exact hb) (fh _)
 ·exact absurd (bQ (bg (I.pin p hp).1)<|by rw[z];exact hb)<|fh _
structure Turn (P:aj)(w:ah)(K:au)(tg:aE)(J:It)(fp:bb)(it:ak)(tn:Nat->aq->Prop):Prop where
 mem:it∈fp
 obj:∀i h,tn i h->∀b∈fp,∃o,h.get? b=some o/\∀v,o.data≠.cell v
 keep:∀i h h',tn i h->(∀b∈fp,∀o,h.get? b=some o->h'.get? b=some o)->tn i h'
 item:∀(X:Cx),X.prog=P->X.w=w->X.K=K->X.calm=true->∀(i:Nat) (pins:bo) (s:aC) (σ:St) (H:Hp) (E:af->aC->Prop),Inv X pins σ H s->(∀b∈fp,uB X pins H b)->tn i s.heap->J.go i H ->
  wpAny (model P w) X.A (pyNext<|.ref it) (λr s1=>∃u,r=some u /\
   wpAny (model P w) X.A (letOwnedTupleGo tg (.ref it) u) (λ_ s2=>∃x H',Inv X pins σ H' s2/\RelV x u/\J.yld i H x H'/\tn (i+1) s2.heap/\∀b∈fp,H' b=none) E s1) E s
 done:∀(X:Cx),X.prog=P->X.w=w->X.K=K->X.calm=true->∀(i:Nat) (pins:bo) (s:aC) (σ:St) (H:Hp) (E:af->aC->Prop),Inv X pins σ H s->(∀b∈fp,uB X pins H b)->tn i s.heap->J.stop i H ->
  wpAny (model P w) X.A (pyNext<|.ref it) (λr s1=>r=none/\Inv X pins σ H s1) E s
 self:∀(A:aA) (i:Nat) (s:aC) (Q:af->aC->Prop) (E:af->aC->Prop),tn i s.heap->Q (.ref it) s->wpAny (model P w) A (pyIter<|.ref it) Q E s
meta abbrev TI:=St->Hp->(It->Hp->Prop)->Prop
abbrev PIE (X:Cx)(pins:bo)(σ:St)(tg:aE)(R:It->Hp->Prop)(itv:af)(s2:aC):Prop:=
 ∃(it:ak) (d:bb) (f:Nat->aq->Prop) (J:It) (H':Hp),itv=.ref it/\Inv X pins σ H' s2/\Turn X.prog X.w X.K tg J d it f/\f 0 s2.heap/\(∀b∈d,uB X pins H' b)/\R J H'
abbrev PI (X:Cx)(tg iter:aE)(wi:TI):Prop:=
 ∀(pins:bo) (s:aC) (σ:St) (H:Hp) (R:It->Hp->Prop),Inv X pins σ H s->wi σ H R ->
  wpAny (model X.prog X.w) X.A (eval iter X.env) (λv d=>wpAny (model X.prog X.w) X.A (pyIter v) (PIE X pins σ tg R) X.xe d) X.xe s
def GB{A:aA}{E:af->aC->Prop}{s:aC}{o:Obj}{n:String}{Q:Unit->aC->Prop}(ho:s.heap.get? it=some o)(hc:o.cls=.type n)(hd:o.data=.fields vs)
  (hn:["enumerate", "zip", "dict_itemiterator", "dict_reverseitemiterator", "odict_iterator", "itertools.zip_longest", "itertools.pairwise"].contains n=false) (hQ:Q Unit.unit s):wpAny M A (letOwnedTupleGo tg (.ref it) u) Q E s:=by
 unfold letOwnedTupleGo
 cases tg<;>first
  | exact aR hQ
  | (cases u<;>first
    | exact aR hQ
    | (refine aI (wpAny_load ho ?_)
       rw[hc,hd];show wpAny M A (if (["enumerate", "zip", "dict_itemiterator", "dict_reverseitemiterator", "odict_iterator", "itertools.zip_longest", "itertools.pairwise"].contains n && vs[0]? == some (rawInt _))=true then _ else _) Q E s;rw[aK<|by intro h;rw[hn,gX]at h;cases h];exact aR hQ))
abbrev YN (K:au)(a:ak):It:=
 ⟨λi H=>∃xs x,lT K H a xs/\xs[i]?=some x,λi H x H'=>H'=H/\∀xs,lT K H a xs->xs[i]?=some x,λi H=>∃xs,lT K H a xs/\xs.length<=i⟩
abbrev WG (K:au)(a:ak):It:=
 ⟨λi H=>∃xs x,nG K H a xs/\xs[i]?=some x,λi H x H'=>H'=H/\∀xs,nG K H a xs->xs[i]?=some x,λi H=>∃xs,nG K H a xs/\xs.length<=i⟩
abbrev XD (lo:Int)(n:Nat):It:=⟨λi _=>i<n,λi H x H'=>H'=H/\x=.int (lo+i),λi _=>n<=i⟩
def JJ{P:aj}{w:ah}{K:au}(a it:ak):Turn P w K tg (YN K a) [it] it (λi h=>h.IsListIter it a i) where
 mem:=by simp
 obj:=λi h st b f=>by
  have e:b=it:=by simpa using f
  subst e;obtain⟨o,e,c,d⟩:=st;exact⟨o,e,λv z=>by rw[d]at z;cases z⟩
 keep:=λi h h' st k=>st.at λo e=>k it (by simp) o e
 item:=by
  k_ne;subst hP hw hK;obtain⟨xs,x,hq,j⟩:=hg;obtain⟨its,rv,p,hz⟩:=I.list hq;obtain⟨u,C,q⟩:=rv.get j;kcf_m;refine wpAny_pyNext_list_item st p.isList (x:=u) (by simpa using C) λh' g B=>?_;have m:Inv X pins σ H { s with heap:=h' }:=I.turned (t':=s.toks) (λb o f e=>(B.2 b f).trans e) f0 f1 f3 f4 f5;obtain⟨o,e,c,d⟩:=id g;exact⟨u,rfl,GB (s:={ s with heap:=h' }) e c d ⋯ ⟨x,H,m,q,⟨rfl,λys hy=>by rw[I.y_ hy hq];exact j⟩,g,λb f=>(hf b f).1⟩⟩
 done:=by
  k_ne;subst hP hw hK;obtain⟨xs,hq,j⟩:=hg;obtain⟨its,rv,p,hz⟩:=I.list hq;kcf_m;have G:=rv.length;exact wpAny_pyNext_list_end (I.ok.hd hc) st p.isList (by simp;omega) λh' F=>⟨rfl,I.turned (t':=s.toks) (λb o f e=>F b o f e) f0 f1 f3 f4 f5⟩
 self:=λ_ _ _ _ _ st h=>wpAny_pyIter_listiter st h
def Fp{P:aj}{w:ah}{K:au}(a it:ak):Turn P w K tg (WG K a) [it] it (λi h=>h.IsTupleIter it a i) where
 mem:=by simp
 obj:=λi h st b f=>by
  have e:b=it:=by simpa using f
  subst e;obtain⟨o,e,c,d⟩:=st;exact⟨o,e,λv z=>by rw[d]at z;cases z⟩
 keep:=λi h h' st k=>st.at λo e=>k it (by simp) o e
 item:=by
  k_ne;subst hP hw hK;obtain⟨xs,x,hq,j⟩:=hg;obtain⟨its,rv,p,hz⟩:=I.tuple hq;obtain⟨u,C,q⟩:=rv.get j;kcf_m;refine wpAny_pyNext_tuple_item st (show s.heap.IsTuple a its.toArray from p) (x:=u) (by simpa using C) λh' g B=>?_;have m:Inv X pins σ H { s with heap:=h' }:=I.turned (t':=s.toks) (λb o f e=>(B.2 b f).trans e) f0 f1 f3 f4 f5;obtain⟨o,e,c,d⟩:=id g;exact⟨u,rfl,GB (s:={ s with heap:=h' }) e c d ⋯ ⟨x,H,m,q,⟨rfl,λys hy=>by rw[I.A3 hy hq];exact j⟩,g,λb f=>(hf b f).1⟩⟩
 done:=by
  k_ne;subst hP hw hK;obtain⟨xs,hq,j⟩:=hg;obtain⟨its,rv,p,hz⟩:=I.tuple hq;kcf_m;have G:=rv.length;exact wpAny_pyNext_tuple_end (I.ok.hd hc) st (show s.heap.IsTuple a its.toArray from p) (by simp;omega) λh' F=>⟨rfl,I.turned (t':=s.toks) (λb o f e=>F b o f e) f0 f1 f3 f4 f5⟩
 self:=λ_ _ _ _ _ st h=>wpAny_pyIter_tupleiter st h
def E7{P:aj}{w:ah}{K:au}(it:ak)(lo:Int)(n:Nat):Turn P w K tg (XD lo n) [it] it (λi h=>IsRangeIter h it (lo+(i:Nat) * 1) ((n:Int)-(i:Nat)) 1) where
 mem:=by simp
 obj:=λi h st b d=>by
  have e:b=it:=by simpa using d
  subst e;exact⟨_,st,λv z=>by
   have m:Data.fields _=Data.cell v:=z
   cases m⟩
 keep:=λi h h' st k=>k it (by simp) _ st
 item:=by
  k_ne;subst hP hw hK;kcf_m;have W:=Walks.range (prog:=X.prog) (w:=X.w) (I.ok.hd hc) it lo 1 n;refine W.item i s _ _ hg st λv h' g hv f q=>?_;obtain⟨t,rfl⟩:=hv;have j:Inv X pins σ H { s with heap:=h',toks:=g }:=I.turned (λb o d e=>q b o (by simpa using d) e) f0 f1 f3 f4 f5;refine⟨_,rfl,GB (s:={ s with heap:=h',toks:=g }) (n := "range_iterator") f rfl rfl ⋯ ⟨.int<|lo+i,H,j,⟨t,?_⟩,⟨rfl,rfl⟩,f,λb d=>(hf b d).1⟩⟩;rw[Int.mul_one]
 done:=by
  k_ne;subst hP hw hK;kcf_m;exact wpAny_pyNext_range_end (I.ok.hd hc) st (by have:n<=i:=hg;lia) λh' p=>⟨rfl,I.turned (t':=s.toks) (λb o d e=>p b o d e) f0 f1 f3 f4 f5⟩
 self:=λ_ _ _ _ _ st h=>wpAny_pyIter_rangeiter st h
section
variable {X:Cx}{tg:aE}
abbrev W2 (K:au)(tl:TE):TI:=λσ H R=>tl σ H λx H1=>∃a,x=.ref a/\(∃xs,lT K H1 a xs)/\R (YN K a) H1
abbrev Zq (K:au)(tl:TE):TI:=λσ H R=>tl σ H λx H1=>∃a,x=.ref a/\(∃xs,nG K H1 a xs)/\R (WG K a) H1
def Ib{tl:TE}(hl:PE X l tl):PI X tg l (W2 X.K tl):=by
 intro pins s σ H R I h;refine kj (hl pins s σ H _ I h) λv d ⟨x,H1,I1,r1,g⟩=>?_;obtain⟨a,e,⟨xs,hq⟩,q⟩:=g;subst e
 cases r1
 obtain⟨its,rv,p,hz⟩:=I1.list hq;refine g9 p.isList ?_;refine⟨d.heap.objs.size,[d.heap.objs.size],_,_,H1,rfl,I1.kept (t':=d.toks) λb o e=>aT _ e,JJ a _,⟨_,bG _ rfl,rfl,rfl⟩,λb f=>?_,q⟩;have e:b=d.heap.objs.size:=by simpa using f
 subst e;exact I1.JO (aQ _)<|I1.hok.fresh<|aQ _
def Lh{tl:TE}(hl:PE X l tl):PI X tg l (Zq X.K tl):=by
 intro pins s σ H R I h;refine kj (hl pins s σ H _ I h) λv d ⟨x,H1,I1,r1,g⟩=>?_;obtain⟨a,e,⟨xs,hq⟩,q⟩:=g;subst e
 cases r1
 obtain⟨its,rv,p,hz⟩:=I1.tuple hq;refine wpAny_pyIter_tuple (show d.heap.IsTuple a its.toArray from p) ?_;refine⟨d.heap.objs.size,[d.heap.objs.size],_,_,H1,rfl,I1.kept (t':=d.toks) λb o e=>aT _ e,Fp a _,⟨_,bG _ rfl,rfl,rfl⟩,λb f=>?_,q⟩;have e:b=d.heap.objs.size:=by simpa using f
 subst e;exact I1.JO (aQ _)<|I1.hok.fresh<|aQ _
def Eg{H:Hp}{s:aC}{R:It->Hp->Prop}{E:af->aC->Prop}{lo hi:Int}{v:Tok}{tk:Nat}(I:Inv X pins σ H s)(h1:-(2 ^ 62)<=lo)(h2:lo<2 ^ 62)(h3:-(2 ^ 62)<=hi)(h4:hi<2 ^ 62)
  (q:R (XD lo (hi-lo).toNat) H):wpAny (model X.prog X.w) X.A (pyIter<|.ref s.heap.objs.size) (PIE X pins σ tg R) E { s with heap:=s.heap.push { cls:=.type "range",data:=.fields #[.int lo t,.int hi u,.int 1 v]},toks:=tk }:=by
 refine wpAny_pyIter_range (IsRange.new ..) (small_one h1 h2 h3 h4) ?_;have I1:Inv X pins σ H { s with heap:=s.heap.push { cls:=.type "range",data:=.fields #[.int lo t,.int hi u,.int 1 v]},toks:=tk }:=I.kept λb o e=>aT _ e;refine⟨(s.heap.push { cls:=.type "range",data:=.fields #[.int lo t,.int hi u,.int 1 v]}).objs.size,[(s.heap.push { cls:=.type "range",data:=.fields #[.int lo t,.int hi u,.int 1 v]}).objs.size],_,_,H,rfl,
  I1.kept (t':=tk) λb o e=>aT _ e,E7 _ lo (hi-lo).toNat,?_,λb d=>?_,q⟩
 ·have e1:lo+((0:Nat):Int) * 1=lo:=by simp
  have e2:(((hi-lo).toNat:Nat):Int)-((0:Nat):Int)=Builtin.Range.rangeSize lo hi 1:=by rw[rangeSize_one];split<;>lia
  skip
  rw[e1,e2];exact bG _ rfl
 ·have e:b=(s.heap.push { cls:=.type "range",data:=.fields #[.int lo t,.int hi u,.int 1 v]}).objs.size:=by simpa using d
  subst e;exact I1.JO (aQ _)<|I1.hok.fresh<|aQ _
abbrev nJ (ta:TA):TI:=λσ H R=>ta σ H λvs H1=>∃j:Int,vs=[.int j]/\-(2 ^ 62)<=j/\j<2 ^ 62/\R (XD 0 j.toNat) H1
abbrev oZ (ta:TA):TI:=λσ H R=>ta σ H λvs H1=>∃i j:Int,vs=[.int i,.int j]/\(-(2 ^ 62)<=i/\i<2 ^ 62/\-(2 ^ 62)<=j/\j<2 ^ 62)/\R (XD i (j-i).toNat) H1
def Kc{a:aE}{ta:TA}{p:Pos}(hg:Gl X "range")(hm:X.mg "range" = none)(ha:PA X [a] ta)(hs:starEach [a] X.env=[(false,eval a X.env)]:=by rfl):PI X tg (.Call (.Name "range" p) [a] [] pos) (nJ ta):=by
 intro pins s σ H R I h;refine Call_<|xm I hg hm boot_range<|dO (kj (ha pos pins s σ H _ I h) λus m ⟨vs,H1,f,r1,d⟩=>?_) hs rfl;obtain⟨j,e,d,g,q⟩:=d;subst e
 cases r1 with
 | cons r k=>
  cases k
  obtain⟨t,rfl⟩:=r;exact call_range_1<|Eg f () () d g<|by simpa using q
def JZ{a b:aE}{ta:TA}{p:Pos}(hg:Gl X "range")(hm:X.mg "range" = none)(ha:PA X [a,b] ta)(hs:starEach [a,b] X.env=[(false,eval a X.env),(false,eval b X.env)]:=by rfl)(hs2:starEach [b] X.env=[(false,eval b X.env)]:=by rfl) :
  PI X tg (.Call (.Name "range" p) [a,b] [] pos) (oZ ta):=by
 intro pins s σ H R I h;refine Call_ (xm I hg hm boot_range<|dO (kj (ha pos pins s σ H _ I h) λus C ⟨vs,H1,k,r1,d⟩=>?_) (by rw[hs,hs2])<|by rw[hs2];rfl);obtain⟨i,j,e,⟨d,B,z,m⟩,q⟩:=d;subst e
 cases r1 with
 | cons r f=>
  cases f with
  | cons g f=>
   cases f
   obtain⟨t,rfl⟩:=r;obtain⟨F,rfl⟩:=g;exact call_range_2<|Eg k d B z m q
abbrev Zp (wi:TI)(g:TG)(tb:TS):TS:=λD σ H=>wi σ H λJ H1=>∃W:Nat->Nat->St->Hp->Prop,(∃m,W 0 m σ H1)/\∀i m σ H,W i m σ H ->
 (J.stop i H/\D.nx σ H)\/(J.go i H/\∃N:St->Hp->Prop,(∀d H',N d H'->∃j,j<m/\W (i+1) j d H')/\∀x H',J.yld i H x H'->g x σ H' λf H2=>tb { D with nx:=N,ct:=N,bk:=D.nx } f H2)
abbrev vq (fp:bb)(h:aq):bo:=fp.filterMap λb=>(h.get? b).map λo=>(b,o)
def kL{fp:bb}{h:aq}{b:ak}(hb:b∈fp)(e:h.get? b=some o):(b,o)∈vq fp h:=List.mem_filterMap.mpr ⟨b,hb,by rw[e];rfl⟩
def J1{fp:bb}{h:aq}{p:ak×Obj}(hp:p∈vq fp h):p.1∈fp/\h.get? p.1=some p.2:=by
 obtain⟨b,d,e⟩:=List.mem_filterMap.mp hp
 cases q:h.get? b with
 | none=>rw[q]at e;cases e
 | some o=>
  rw[q]at e;have f:(b,o)=p:=aU e;subst f;exact⟨d,q⟩
def Inv.pinned{H:Hp}{s:aC}{fp:bb}(I:Inv X pins σ H s)(hf:∀b∈fp,uB X pins H b)(ho:∀b∈fp,∃o,s.heap.get? b=some o/\∀v,o.data≠.cell v):Inv X (pins++vq fp s.heap) σ H s:=
 I.Il λp hp=>(bF.mp hp).elim (λz=>I.pin p<|bz _ z) λz=>by
  obtain⟨f,e⟩:=J1 z;obtain⟨f0,f1,f2,_⟩:=hf p.1 f;obtain⟨o,g,d⟩:=ho p.1 f;rw[e]at g;cases g;exact⟨e,f0,f1,f2,d⟩
def Inv.pP{pl:bo}{H:Hp}(I:Inv X (pins++pl) σ H s):Inv X pins σ H s:=I.Il λp hp=>I.pin p<|bz _<|d_ _ hp
def VM{iter:aE}{wi:TI}{g:TG}{tb:TS}(hp:PassesOwn (model X.prog X.w) X.A X.env X.xe)(hc:X.calm=true)(hi:PI X tg iter wi)(hg:PG X tg g)(hb:Cc X body tb)
  (hs:∀x,foldedSetIterable iter X.env x=pure x:=by intro _;rfl):PS X (.For tg iter body [] pos) (Zp wi g tb):=by
 ksr_p;refine wpAny_For (kj (hi pins s σ H _ I h) λv s1 h1=>kj h1 λitv s2 h2=>?_) hs;obtain⟨it,K,tn,J,H2,e,I2,T,Y,f2,W,⟨m0,w0⟩,turn⟩:=h2;subst e;have k:∀{H':Hp},(∀b∈K,H' b=none)->∀b∈K,uB X pins H' b:=λhn b hb=>⟨hn b hb,(f2 b hb).2⟩;refine codeAny_forLoop_any (λn s'=>∃i q H',Inv X pins q H' s'/\tn i s'.heap/\(∀b∈K,H' b=none)/\W i n q H') ?_ m0 ⟨0,σ,H2,I2,Y,λb hb=>(f2 b hb).1,w0⟩;rintro n s3 ⟨i,B,H3,I3,G,M,w3⟩
 rcases turn i n B H3 w3 with⟨O,qn⟩|⟨go,N,hN,step⟩
 ·refine d7 hp<|kj (T.done X rfl rfl rfl hc i pins s3 B H3 X.xe I3 (k M) G O) λr s4 ⟨P,I4⟩=>?_;subst P;exact gK ⟨B,H3,I4,qn⟩
 ·refine d7 hp<|kj (T.item X rfl rfl rfl hc i pins s3 B H3 X.xe I3 (k M) G go) λr s4 ⟨u,P,h4⟩=>?_;subst P;refine d7 hp<|kj h4 λ_ s5 ⟨x,H5,I5,r5,y5,F,V⟩=>?_;have U:=I5.pinned (k V)<|T.obj _ _ F;refine d7 hp<|kj (hg _ s5 B H5 x u _ U r5<|step x H5 y5) λ_ s6 ⟨Z,H6,I6,q6⟩=>?_;refine d7 hp<|kj (hb _ s6 Z H6 _ I6 q6) λf s7 C=>?_;have again:∀{j:St} {p:Hp},Inv X (pins++vq K s5.heap) j p s7->N j p->∃m,m<n/\∃i q H',Inv X pins q H' s7/\tn i s7.heap/\(∀b∈K,H' b=none)/\W i m q H':=λ{j p} z L=>by
   obtain⟨m',hm,w7⟩:=hN j p L;refine⟨m',hm,i+1,j,p,z.pP,T.keep _ _ _ F λb hb o e=>(z.pin (b,o)<|bz _<|bz _<|kL hb e).1,λb hb=>?_,w7⟩;obtain⟨o,e,d⟩:=T.obj _ _ F b hb;exact(z.pin (b,o)<|bz _<|bz _<|kL hb e).2.1
  cases f with
  | next=>obtain⟨j,p,z,L⟩:=C;exact again z L
  | cont=>obtain⟨j,p,z,L⟩:=C;exact again z L
  | brk=>obtain⟨j,p,z,C⟩:=C;exact⟨j,p,z.pP,C⟩
  | ret v=>obtain⟨x7,j,p,z,r7,C⟩:=C;exact⟨x7,j,p,z.pP,r7,C⟩
end
def HM{K:au}{a:ak}{xs:List V}{g:TG}{tb:TS}{D:Ends}{H:Hp}(Pv:Nat->St->Hp->Prop)(h0:Pv 0 σ H)(hl:∀i σ H,i<=xs.length->Pv i σ H->nG K H a xs)
  (hs:∀i x σ H,xs[i]?=some x->Pv i σ H->g x σ H λσ2 H2=>tb { D with nx:=Pv<|i+1,ct:=Pv<|i+1,bk:=D.nx } σ2 H2) (hd:∀σ H,Pv xs.length σ H->D.nx σ H) :
  ∃W:Nat->Nat->St->Hp->Prop,(∃m,W 0 m σ H)/\∀i m σ H,W i m σ H ->
   ((WG K a).stop i H/\D.nx σ H)\/((WG K a).go i H/\∃N:St->Hp->Prop,(∀σ' H',N σ' H'->∃m',m'<m/\W (i+1) m' σ' H')/\∀x H',(WG K a).yld i H x H'->g x σ H' λσ2 H2=>tb { D with nx:=N,ct:=N,bk:=D.nx } σ2 H2):=by
 refine⟨λi m σ H=>m=xs.length-i/\i<=xs.length/\Pv i σ H,⟨xs.length,by simp,cE _,h0⟩,?_⟩;rintro i m σ H ⟨rfl,hi,p⟩;have q:=hl i σ H hi p;by_cases d:i<xs.length
 ·refine .inr ⟨⟨xs,xs[i],q,by simp[d]⟩,Pv<|i+1,λσ' H' f=>⟨xs.length-(i+1),(),rfl,d,f⟩,λx H' y=>?_⟩;obtain⟨e,y⟩:=y;subst e;exact hs i x σ _ (y xs q) p
 ·have e:i=xs.length:=()
  subst e;exact .inl ⟨⟨xs,q,aQ _⟩,hd σ H p⟩
def ux{c:TT}{tb:TS}{D:Ends}{H:Hp}(Pv:St->Hp->Prop)(μ:St->Hp->Nat)(h0:Pv σ H)
  (hs:∀σ H,Pv σ H->c σ H λb H1=>if b=true then tb { D with nx:=λσ' H'=>Pv σ' H'/\μ σ' H'<μ σ H,ct:=λσ' H'=>Pv σ' H'/\μ σ' H'<μ σ H,bk:=D.nx } σ H1 else D.nx σ H1)
  (mono:∀σ H Q Q',(∀b H1,Q b H1->Q' b H1)->c σ H Q->c σ H Q'):My c tb D σ H:=by
 refine⟨λm σ H=>m=μ σ H/\Pv σ H,⟨_,rfl,h0⟩,?_⟩;rintro m σ H ⟨rfl,p⟩;refine mono σ H _ _ (λb H1 q=>?_) (hs σ H p)
 cases b with
 | true=>exact⟨_,λσ' H' ⟨d,l⟩=>⟨_,l,rfl,d⟩,q⟩
 | false=>exact q
meta abbrev R2:=V->V->Hp->VK->Prop
abbrev nj (X:Cx)(f:af->af->Sem af)(r:R2):Prop:=
 ∀(pins:bo) (s:aC) (σ:St) (H:Hp) (x y:V) (v u:af) (Q:VK),Inv X pins σ H s->RelV x v->RelV y u->r x y H Q ->
  wpAny (model X.prog X.w) X.A (f v u) (EP X pins σ Q) X.xe s
abbrev YQ (X:Cx)(f:af->Sem af)(r:V->Hp->VK->Prop):Prop:=
 ∀(pins:bo) (s:aC) (σ:St) (H:Hp) (x:V) (v:af) (Q:VK),Inv X pins σ H s->RelV x v->r x H Q ->
  wpAny (model X.prog X.w) X.A (f v) (EP X pins σ Q) X.xe s
abbrev jo (X:Cx)(f:af)(r:List V->Hp->VK->Prop):Prop:=
 ∀(pins:bo) (s:aC) (σ:St) (H:Hp) (xs:List V) (us:ba) (Q:VK),Inv X pins σ H s->Vals xs us->r xs H Q ->
  wpAny (model X.prog X.w) X.A (call f us) (EP X pins σ Q) X.xe s
abbrev Z9 (X:Cx)(r:V->Hp->(Bool->Hp->Prop)->Prop):Prop:=
 ∀(pins:bo) (s:aC) (σ:St) (H:Hp) (x:V) (v:af) (Q:Bool->Hp->Prop),Inv X pins σ H s->RelV x v->r x H Q ->
  wpAny (model X.prog X.w) X.A (truthy v) (TP X pins σ Q) X.xe s
abbrev WS (r:R2)(ta tb:TE):TE:=λσ H Q=>ta σ H λx H1=>tb σ H1 λy H2=>r x y H2 Q
abbrev tUn (r:V->Hp->VK->Prop)(ta:TE):TE:=λσ H Q=>ta σ H λx H1=>r x H1 Q
abbrev rI (C:Int->Int->Prop)(g:Int->Int->V):R2:=λx y H Q=>∃i j,x=.int i/\y=.int j/\C i j/\Q (g i j) H
abbrev Sv (g:Int->Int->V):R2:=λx y H Q=>∃i j,x=.int i/\y=.int j/\Q (g i j) H
abbrev rU (g:Int->V):V->Hp->VK->Prop:=λx H Q=>∃i,x=.int i/\Q (g i) H
section
variable {X:Cx}{a b:aE}{ta tb:TE}{pos:Pos}
def US(ha:PE X a ta)(hb:PE X b tb){H:Hp}{R:V->V->Hp->Prop}(I:Inv X pins σ H s)
  (h:ta σ H λx H1=>tb σ H1 λy H2=>R x y H2) {Q:af->aC->Prop} {f:af->af->Sem af}
  (hf:∀v u s2 x y H2,Inv X pins σ H2 s2->RelV x v->RelV y u->R x y H2->wpAny (model X.prog X.w) X.A (f v u) Q X.xe s2) :
  wpAny (model X.prog X.w) X.A (eval a X.env) (λv s₁=>wpAny (model X.prog X.w) X.A (eval b X.env) (λu s₂=>wpAny (model X.prog X.w) X.A (f v u) Q X.xe s₂) X.xe s₁) X.xe s:=by
 refine kj (ha pins s σ H _ I h) λv d ⟨x,H1,k,r1,g⟩=>?_;refine kj (hb pins d σ H1 _ k g) λu s2 ⟨y,H2,j,r2,m⟩=>?_;exact hf v u s2 x y H2 j r1 r2 m
def Xo{r:R2}(ho:nj X (binaryOp op) r)(ha:PE X a ta)(hb:PE X b tb):PE X (.BinOp a op b pos) (WS r ta tb):=by
 kt_k;exact wpAny_BinOp<|US ha hb I h λv u d x y H2 f rx ry q=>ho pins d σ H2 x y v u Q f rx ry q
def W0{r:V->Hp->VK->Prop}(ho:YQ X (unaryOp op) r)(ha:PE X a ta):PE X (.UnaryOp op a pos) (tUn r ta):=by
 kt_k;exact UnaryOp_<|kj (ha pins s σ H _ I h) λv d ⟨x,H1,g,r1,f⟩=>ho pins d σ H1 x v Q g r1 f
def YM{f:af->af->Sem af}{C:Int->Int->Prop}{g:Int->Int->Int}
  (rule:∀(i j:Int) (t u:Tok) (s:aC) (Q:af->aC->Prop) (E:af->aC->Prop),C i j->Q (.int (g i j) s.toks) { s with toks:=s.toks+1 }->wpAny (model X.prog X.w) X.A (f (.int i t)<|.int j u) Q E s) :
  nj X f (rI C λi j=>.int<|g i j):=by
 gp_on;obtain⟨i,j,rfl,rfl,hc,q⟩:=h;mg_lt;obtain⟨d,rfl⟩:=ry;exact rule i j t d s _ _ hc ⟨.int<|g i j,H,I.tok _,⟨_,rfl⟩,q⟩
def Yx{f:af->af->Sem af}{g:Int->Int->Int}
  (rule:∀(i j:Int) (t u:Tok) (s:aC) (Q:af->aC->Prop) (E:af->aC->Prop),Q (.int (g i j) s.toks) { s with toks:=s.toks+1 }->wpAny (model X.prog X.w) X.A (f (.int i t)<|.int j u) Q E s) :
  nj X f (Sv λi j=>.int<|g i j):=by
 gp_on;obtain⟨i,j,rfl,rfl,q⟩:=h;mg_lt;obtain⟨d,rfl⟩:=ry;exact rule i j t d s _ _ ⟨.int<|g i j,H,I.tok _,⟨_,rfl⟩,q⟩
def Rb{f:af->af->Sem af}{g:Int->Int->Bool}
  (rule:∀(i j:Int) (t u:Tok) (s:aC) (Q:af->aC->Prop) (E:af->aC->Prop),Q (.bool<|g i j) s->wpAny (model X.prog X.w) X.A (f (.int i t)<|.int j u) Q E s) :
  nj X f (Sv λi j=>.bl<|g i j):=by
 gp_on;obtain⟨i,j,rfl,rfl,q⟩:=h;mg_lt;obtain⟨d,rfl⟩:=ry;exact rule i j t d s _ _ ⟨.bl<|g i j,H,I,rfl,q⟩
abbrev Y9 (i j:Int):Prop:=0<=j/\j<=1000000/\i.natAbs<2 ^ 64
abbrev QU (i j:Int):Prop:=(-(2 ^ 64)<i/\i<2 ^ 64)\/(-(2 ^ 64)<j/\j<2 ^ 64)
def QU.ok{i j:Int}(h:QU i j):IntMulOk i j:=by
 rcases h with⟨h1,h2⟩|⟨h1,h2⟩
 ·exact .of_left (intBits_le_64 h1 h2)
 ·exact .of_right<|intBits_le_64 h1 h2
def Wm:nj X (binaryOp .Add) (Sv λi j=>.int<|i+j):=Yx λ_ _ _ _ _ _ _ q=>add_int q
def UI:nj X (binaryOp .Sub) (Sv λi j=>.int<|i-j):=Yx λ_ _ _ _ _ _ _ q=>sub_int q
def UK:nj X (binaryOp .Mult) (rI QU λi j=>.int<|i * j):=YM λ_ _ _ _ _ _ _ hc q=>mul_int q hc.ok
def UJ:nj X (binaryOp .Mod) (rI (λ_ j=>0<j) λi j=>.int<|i % j):=YM λi j _ _ _ _ _ hc q=>by
 have h1:(0:Int)<j:=hc;exact mod_int' ()<|by rw[Int.fmod_eq_emod_of_nonneg i ()];exact q
def UC:nj X (binaryOp .Pow) (rI Y9 λi j=>.int<|i ^ j.toNat):=YM λ_ _ _ _ _ _ _ hc q=>pow_int_small hc.1 hc.2.1 hc.2.2 q
def unI{f:af->Sem af}{g:Int->Int}
  (rule:∀(i:Int) (t:Tok) (s:aC) (Q:af->aC->Prop) (E:af->aC->Prop),Q (.int (g i) s.toks) { s with toks:=s.toks+1 }->wpAny (model X.prog X.w) X.A (f<|.int i t) Q E s) :
  YQ X f (rU λi=>.int<|g i):=by
 intro pins s σ H x v Q I rx h;obtain⟨i,rfl,q⟩:=h;mg_lt;exact rule i t s _ _ ⟨.int<|g i,H,I.tok _,⟨_,rfl⟩,q⟩
def V7:YQ X (unaryOp .USub) (rU λi=>.int<|-i):=unI λ_ _ _ _ _ q=>neg_int q
end
section
variable {X:Cx}{a b c:aE}{ta tb tc:TE}{pos:Pos}
def Vc{H:Hp}{Q:VK}{k:Bool}(I:Inv X pins σ H s)(q:Q (.bl k) H)(e:k=k'):EP X pins σ Q (.bool k') s:=by
 subst e;exact⟨.bl k,H,I,rfl,q⟩
def Xa:nj X (compareOp .Lt) (Sv λi j=>.bl<|decide<|i<j):=Rb λ_ _ _ _ _ _ _ q=>lt_int q
def Yz:nj X (compareOp .LtE) (Sv λi j=>.bl<|decide<|i<=j):=Rb λ_ _ _ _ _ _ _ q=>le_int q
def Yb:nj X (compareOp .Gt) (Sv λi j=>.bl<|decide<|j<i):=Rb λ_ _ _ _ _ _ _ q=>gt_int q
def Yj:nj X (compareOp .GtE) (Sv λi j=>.bl<|decide<|j<=i):=Rb λ_ _ _ _ _ _ _ q=>ge_int q
def U_:nj X (compareOp .Is) (λx y H Q=>y=.non/\Q (.bl<|decide<|x=.non) H):=by
 gp_on;obtain⟨rfl,q⟩:=h
 cases ry
 refine is_none_gen (Vc I q ?_)
 cases x<;>first
  | (cases rx;rfl)
  | (obtain⟨t,rfl⟩:=rx;rfl)
def K8(b:aE)(h:op≠.In:=by decide)(h2:op≠.NotIn:=by decide):behindInMarks op b=false:=by
 have e1:(op == CmpOp.In)=false:=by cases op<;>first|rfl|exact absurd rfl h
 have e2:(op == CmpOp.NotIn)=false:=by cases op<;>first|rfl|exact absurd rfl h2
 cases b<;>simp[behindInMarks,e1,e2]
def Qh{op:CmpOp}{r:R2}(ho:nj X (compareOp op) r)(ha:PE X a ta)(hb:PE X b tb)(hm:behindInMarks op b=false):PE X (.Compare a [op] [b] pos) (WS r ta tb):=by
 kt_k;exact wpAny_Compare1 (US ha hb I h λv u d x y H2 f rx ry q=>ho pins d σ H2 x y v u Q f rx ry q) hm
abbrev Tp (t:TE):TT:=λσ H Q=>t σ H λx H'=>∃k,x=.bl k/\Q k H'
def P_{op:CmpOp}{r:R2}(ho:nj X (compareOp op) r)(ha:PE X a ta)(hb:PE X b tb)(hm:behindInMarks op b=false):PT X (.Compare a [op] [b] pos) (Tp<|WS r ta tb):=by
 kt_k;refine wpAny_isTrue_Compare1 (kj (ha pins s σ H _ I h) λv d ⟨x,H1,g,r1,f⟩=>kj (hb pins d σ H1 _ g f) λu m ⟨y,H2,p,r2,B⟩=>
  kj (ho pins m σ H2 x y v u _ p r1 r2 B) λc F ⟨z,H3,C,j,k,e,q⟩=>?_) hm
 subst e
 cases j
 exact cU ⟨H3,C,q⟩
abbrev F3 (r r':R2)(ta tb tc:TE):TE:=λσ H Q=>ta σ H λx H1=>tb σ H1 λy H2=>r x y H2 λz H3=>∃k,z=.bl k /\
 (if k=true then tc σ H3 λd f=>r' y d f Q else Q (.bl false) H3)
def Nr{r r':R2}(ho:nj X (compareOp op) r)(ho':nj X (compareOp op') r')(ha:PE X a ta)(hb:PE X b tb)(hc:PE X c tc)
  (hm:lastMarks [op,op'] [b,c]=false:=by with_unfolding_all rfl):PE X (.Compare a [op,op'] [b,c] pos) (F3 r r' ta tb tc):=by
 kt_k;refine Compare_chain (kj (ha pins s σ H _ I h) λv j ⟨x,H1,p,r1,m⟩=>chain_link (kj (hb pins j σ H1 _ p m) λu J ⟨y,H2,L,r2,P⟩=>
  kj (ho pins J σ H2 x y v u _ L r1 r2 P) λd N ⟨z,H3,g,B,k,e,f⟩=>?_)) hm
 subst e
 cases B
 refine cU ?_
 cases k with
 | false=>exact ite_ff ⟨.bl false,H3,g,rfl,f⟩
 | true=>exact ite_tt<|chain_last<|kj (hc pins N σ H3 _ g f) λF q ⟨M,K,O,G,C⟩=>ho' pins q σ K y M u F Q O r2 G C
def L7{r r':R2}(ho:nj X (compareOp op) r)(ho':nj X (compareOp op') r')(ha:PE X a ta)(hb:PE X b tb)(hc:PE X c tc)
  (hm:lastMarks [op,op'] [b,c]=false:=by with_unfolding_all rfl):PT X (.Compare a [op,op'] [b,c] pos) (Tp<|F3 r r' ta tb tc):=by
 kt_k;refine isTrue_chain (kj (ha pins s σ H _ I h) λv j ⟨x,H1,q,r1,p⟩=>test_link (kj (hb pins j σ H1 _ q p) λu L ⟨y,H2,N,r2,Y⟩=>
  kj (ho pins L σ H2 x y v u _ N r1 r2 Y) λd U ⟨z,H3,g,C,k,e,f⟩=>?_)) hm
 subst e
 cases C
 refine cU ?_
 cases k with
 | false=>
  obtain⟨k',O,B⟩:=f
  cases O
  exact ite_ff ⟨H3,g,B⟩
 | true=>
  refine ite_tt<|test_last<|kj (hc pins U σ H3 _ g f) λJ F ⟨P,M,W,K,G⟩=>kj (ho' pins F σ M y P u J _ W r2 K G) λd' s5 ⟨z2,m,Z,V,k2,e2,T⟩=>?_;subst e2
  cases V
  exact cU ⟨m,Z,T⟩
abbrev U8 (K:au)(x:V)(H:Hp)(k:Bool):Prop:=
 match x with
 | .non=>k=false
 | .bl b=>k=b
 | .int i=>k=(i != 0)
 | .str y=>y.length<=sizeLine/\k=((y.length:Int) != 0)
 | .byt y=>y.size<=sizeLine/\k=((y.size:Int) != 0)
 | .ref p=>(∃xs,lT K H p xs/\k=!xs.isEmpty)\/(∃xs,nG K H p xs/\k=!xs.isEmpty)\/∃d,H p=some (.dK d)/\k=!d.isEmpty
 | _=>False
def Gf{κ:Type}{kvs:List<|κ×V}{vs:List<|κ×af}(r:KV kvs vs):(!vs.isEmpty)=!kvs.isEmpty:=by
 cases r<;>rfl
def Ac{xs:List V}{its:ba}(r:Vals xs its):(!its.toArray.isEmpty)=!xs.isEmpty:=by
 cases r<;>simp
def ve:(sizeLine:Nat)<2 ^ 63:=by rw[cR];decide
def UN:Z9 X (λx H Q=>∃k,U8 X.K x H k/\Q k H):=by
 intro pins s σ H x v Q I rx h;obtain⟨k,e,q⟩:=h;have z:=ve;have hs:sizeLine=16777216:=cR
 cases x with
 | non=>
  cases rx
  have d:k=false:=e;subst d;exact truthy_none ⟨H,I,q⟩
 | bl b=>
  cases rx
  have d:k=b:=e;subst d;exact cU ⟨H,I,q⟩
 | int i=>
  mg_lt;have d:k=(i != 0):=e;subst d;exact PySem.P.truthy_int ⟨H,I,q⟩
 | str y=>
  mg_lt;obtain⟨hy,d⟩:y.length<=sizeLine/\k=((y.length:Int) != 0):=e;subst d;exact PySem.P.truthy_str () ⟨H,I.tok _,q⟩
 | byt y=>
  mg_lt;obtain⟨hy,d⟩:y.size<=sizeLine/\k=((y.size:Int) != 0):=e;subst d;exact PySem.W.truthy_bytes () ⟨H,I.tok _,q⟩
 | ref p=>
  cases rx
  have d:(∃xs,lT X.K H p xs/\k=!xs.isEmpty)\/(∃xs,nG X.K H p xs/\k=!xs.isEmpty)\/∃f,H p=some (.dK f)/\k=!f.isEmpty:=e
  rcases d with⟨xs,j,d⟩|⟨xs,j,d⟩|⟨f,j,d⟩
  ·subst d;obtain⟨its,r,pl,hz⟩:=I.list j;have g:=r.length;exact wpAny_truthy_list pl.isList (by dsimp[aZ];lia) ⟨H,I.tok _,by rw[Ac r];exact q⟩
  ·subst d;obtain⟨its,r,pl,hz⟩:=I.tuple j;have g:=r.length;exact truthy_tuple pl (by dsimp[aZ];lia) ⟨H,I.tok _,by rw[Ac r];exact q⟩
  ·subst d;obtain⟨hz,hS,vs,r,m⟩:f.length<=sizeLine/\(p == sysModules)=false/\∃vs,KV f vs/\s.heap.DictOf (jH X.prog X.w) p vs:=I.hok p _ j;have g:f.length=vs.length:=ig r;exact wpAny_truthy_dict hS m () ⟨H,I.tok _,by rw[Gf r];exact q⟩
 | _=>exact(show False from e).elim
def Ll(ha:PE X a ta)(he:∀whole,isTrue a X.env whole=(do let v <- whole;standAt a.pos;holding [v] (truthy v))) :
  PT X a (λσ H Q=>ta σ H λx H'=>∃k,U8 X.K x H' k/\Q k H'):=by
 kt_k;exact isTrue_plain (kj (ha pins s σ H _ I h) λv d ⟨x,H1,g,r1,f⟩=>UN pins d σ H1 x v Q g r1 f)<|he _
def FO:nj X (binaryOp .Add) (λx y H Q=>∃i j,x=.str i/\y=.str j/\i.length+j.length<=sizeLine/\Q (.str<|i++j) H):=by
 gp_on;obtain⟨i,j,rfl,rfl,hz,q⟩:=h;mg_lt;obtain⟨d,rfl⟩:=ry;exact add_str (λd f=>⟨.str<|i++j,H,I.tok _,⟨_,rfl⟩,q⟩) hz
def vals1{x:V}(r:Vals [x] us):∃u,us=[u]/\RelV x u:=by
 cases r with
 | cons r1 r2=>cases r2;exact⟨_,rfl,r1⟩
def vals2{x:V}(r:Vals [x,y] us):∃u w',us=[u,w']/\RelV x u/\RelV y w':=by
 cases r with
 | cons r1 r2=>
  cases r2 with
  | cons f d=>cases d;exact⟨_,_,rfl,r1,f⟩
def J7(hc:X.calm=true):jo X (.builtin "max") (λxs H Q=>∃i j,xs=[.int i,.int j]/\Q (.int<|if j>i then j else i) H):=by
 w_up;obtain⟨i,j,rfl,q⟩:=h;obtain⟨u,f,rfl,⟨t,rfl⟩,⟨m,rfl⟩⟩:=vals2 r;refine max_two_ints (I.ok.hd hc) λh' g k=>⟨_,H,I.kept k,?_,q⟩;by_cases d:j>i
 ·rw[aL d,aL d];exact⟨_,rfl⟩
 ·rw[aK d,aK d];exact⟨_,rfl⟩
def JK(hc:X.calm=true):jo X (.builtin "min") (λxs H Q=>∃i j,xs=[.int i,.int j]/\Q (.int<|if j<i then j else i) H):=by
 w_up;obtain⟨i,j,rfl,q⟩:=h;obtain⟨u,f,rfl,⟨t,rfl⟩,⟨m,rfl⟩⟩:=vals2 r;refine min_two_ints (I.ok.hd hc) λh' g k=>⟨_,H,I.kept k,?_,q⟩;by_cases d:j<i
 ·rw[aL d,aL d];exact⟨_,rfl⟩
 ·rw[aK d,aK d];exact⟨_,rfl⟩
def Br:jo X (.type "int") (λxs H Q=>(∃i,xs=[.int i]/\Q (.int i) H)\/∃k,xs=[.bl k]/\Q (.int<|if k then 1 else 0) H):=by
 w_up
 rcases h with⟨i,rfl,q⟩|⟨k,rfl,q⟩
 ·obtain⟨u,rfl,t,rfl⟩:=vals1 r;exact call_int_int ⟨.int i,H,I,⟨_,rfl⟩,q⟩
 ·obtain⟨u,rfl,r1⟩:=vals1 r
  cases r1
  exact call_int_bool ⟨.int<|if k then 1 else 0,H,I.tok _,⟨_,rfl⟩,q⟩
abbrev ZE (K:au)(x:V)(H:Hp)(n:Nat):Prop:=
 match x with
 | .str y=>y.length<=sizeLine/\n=y.length
 | .byt y=>y.size<=sizeLine/\n=y.size
 | .ref p=>(∃xs,lT K H p xs/\n=xs.length)\/∃xs,nG K H p xs/\n=xs.length
 | _=>False
def Pb:jo X (.builtin "len") (λxs H Q=>∃x n,xs=[x]/\ZE X.K x H n/\Q (.int n) H):=by
 w_up;obtain⟨x,n,rfl,e,q⟩:=h;kj_on;have k:=ve;have hs:sizeLine=16777216:=cR
 cases x with
 | str y=>
  mg_lt;obtain⟨hy,f⟩:y.length<=sizeLine/\n=y.length:=e;subst f;exact len_str () ⟨.int _,H,I.tok _,⟨_,rfl⟩,q⟩
 | byt y=>
  mg_lt;obtain⟨hy,f⟩:y.size<=sizeLine/\n=y.size:=e;subst f;exact PySem.W.len_bytes () ⟨.int _,H,I.tok _,⟨_,rfl⟩,q⟩
 | ref p=>
  cases rx
  have f:(∃xs,lT X.K H p xs/\n=xs.length)\/∃xs,nG X.K H p xs/\n=xs.length:=e
  rcases f with⟨xs,j,f⟩|⟨xs,j,f⟩
  ·subst f;obtain⟨its,g,pl,hz⟩:=I.list j;have d:=g.length;exact Calls.call_len_list pl.isList (by dsimp[aZ];lia) ⟨.int xs.length,H,I.tok _,⟨_,by dsimp[aZ];rw[d]⟩,q⟩
  ·subst f;obtain⟨its,g,pl,hz⟩:=I.tuple j;have d:=g.length;exact len_tuple pl (by dsimp[aZ];lia) ⟨.int xs.length,H,I.tok _,⟨_,by dsimp[aZ];rw[d]⟩,q⟩
 | _=>exact(show False from e).elim
end
structure ObjM (h:aq)(x dx C:ak)(mA:Str->bd):Prop where
 obj:h.get? x=some (PySem.W.instObj C dx)
 ns:h.Ns1 dx mA
 ne:dx≠x
def J8{h:aq}{mA:Str->bd}(n:h.Ns1 dx mA):∃od,h.get? dx=some od/\∀name,PySem.W.lookIn name od=some (mA name):=by
 obtain⟨o,es,p,g,j,k,_,f⟩:=n;refine⟨o,g,λname=>?_⟩;have e:=f name;unfold nsFind findBy at e;rw[<- Array.find?_toList]at e;unfold PySem.W.lookIn;rw[j];dsimp only;split
 ·rename_i y q;rw[q]at e;exact dG some e
 ·rename_i q;rw[q]at e;have a:es.toList.any (·.refKey)=false:=by
   rw[List.any_eq_false];intro y hy;obtain⟨z,t,d⟩:=k y<|Array.mem_toList_iff.mp hy;simp[DictEntry.refKey,d]
  have m:¬es.toList.any (·.refKey)=true:=by rw[a];exact bK
  rw[aK m];exact dG some e
def ObjM.look{x:ak}{mA:Str->bd}(I:ObjM h x dx C mA):∃od,PySem.W.InstAt h x (PySem.W.instObj C dx) C (some od)/\∀name,PySem.W.lookIn name od=some (mA name):=
 let⟨od,ho,hl⟩:=J8 I.ns
 ⟨od,⟨I.obj,rfl,rfl,ho⟩,hl⟩
def xq.some_of{v:V}(r:xq (some v) o):∃u,o=some u/\RelV v u:=by
 cases o with
 | none=>exact(show False from r).elim
 | some u=>exact⟨u,rfl,r⟩
section
variable {P:aj}{w:ah}{H:Hp}{h:aq}{a C dx:ak}{fs:List (Str×V)}
def P8(hok:vO P w H h)(e:H a=some (.ins C dx fs)):∃mA,ObjM h a dx C mA/\(∀f,xq (fs.lookup f)<|mA f)/\PySem.Within mA (fs.map (·.1))/\fs.length<=1000/\H dx=some (.own a):=by
 obtain⟨d,z,g,j,mA,n,r,q⟩:=(show jW P w H h a (.ins C dx fs)from hok a _ e);exact⟨mA,⟨j,n,g⟩,r,q,z,d⟩
end
structure Cls (K:au)(C:ak):Prop where
 pg:PySem.W.plainGet K C Str.empty=true
 hd:PySem.W.hasDictIn K C=true
 po:PySem.W.plainOver K C=true
 sa:PySem.W.findIn K (.ref C) "__setattr__" = some (some<|.builtin "object.__setattr__")
def Cls.get{K:au}(c:Cls K C)(f:Str):PySem.W.plainGet K C f=true:=c.pg
structure Con (K:au)(C:ak)(f:Str)(v:V)(u:af):Prop where
 at_:PySem.W.findIn K (.ref C) f=some (some u)
 rel:RelV v u
 get:PySem.W.specialIn K u "__get__" = some none
 cp:PySem.W.copiedNames.contains f=false
structure Meth (K:au)(C:ak)(m:Str)(f:ak):Prop where
 at_:PySem.W.findIn K (.ref C) m=some (some<|.ref f)
 fn:PySem.W.isFn K (.ref f)=true
 kp:PySem.W.keepIn K (.ref f)=true
section
variable {X:Cx}{pins:bo}{σ:St}{H:Hp}{s:aC}{A:aA}{E:af->aC->Prop}{Q:af->aC->Prop}{c:af}{b:Bool}
inductive TyOf (K:au) (H:Hp):V->af->Prop where
 | non:TyOf K H .non (.type "NoneType")
 | bl (x:Bool):TyOf K H (.bl x) (.type "bool")
 | int (i:Int):TyOf K H (.int i) (.type "int")
 | str (x:Str):TyOf K H (.str x) (.type "str")
 | flt (x:UInt64):TyOf K H (.flt x) (.type "float")
 | lst {a:ak} {xs:List V} (e:H a=some (.lst xs)):TyOf K H (.ref a) (.type "list")
 | frz {a:ak} {o:Obj} {xs:List V} (e:H a=some (.frz o<|.lst xs)):TyOf K H (.ref a) (.type "list")
 | tup {a:ak} {xs:List V} (e:H a=some (.tup xs)):TyOf K H (.ref a) (.type "tuple")
 | dK {a:ak} {kvs:List<|Key×V} (e:H a=some (.dK kvs)):TyOf K H (.ref a) (.type "dict")
 | dT {a:ak} {kvs:List<|List Key×V} (e:H a=some (.dT kvs)):TyOf K H (.ref a) (.type "dict")
 | ins {a C dx:ak} {fs:List<|Str×V} (e:H a=some (.ins C dx fs)) (cl:Cls K C) (ha:PySem.W.findIn K (.ref C) "__class__" = some (some<|.builtin "object.__class__"))
   (hn:PySem.W.specialIn K (.builtin "object.__class__") "__get__" = some (some<|.builtin "getset_descriptor.__get__")) (htk:PySem.W.takesIn K (.builtin "object.__class__")=some true)
   (hm:PySem.W.mroIn K C (.type "object")=some true):TyOf K H (.ref a)<|.ref C
def Kg{x:V}(I:Inv X pins σ H s)(rx:RelV x u)(ty:TyOf X.K H x t)(e:PySem.W.kitOne X.K t c=some b)(h:∀tk,Q (.bool b) { s with toks:=tk }) :
  wpAny (model X.prog X.w) A (call (.builtin "isinstance") [u,c]) Q E s:=by
 cases ty with
 | non=>cases(show u=Value.none from rx);exact cO PySem.W.kitx_none I.C4 True.intro e (λz=>nomatch z) h
 | bl y=>cases(show u=Value.bool y from rx);exact cO PySem.W.kitx_bool I.C4 True.intro e (λz=>nomatch z) h
 | int i=>obtain⟨t,q⟩:=(show ∃t,u=Value.int i t from rx);cases q;exact cO PySem.W.kitx_int I.C4 True.intro e (λz=>nomatch z) h
 | str y=>obtain⟨t,q⟩:=(show ∃t,u=Value.str y t from rx);cases q;exact cO PySem.W.kitx_str I.C4 True.intro e (λz=>nomatch z) h
 | flt y=>obtain⟨t,q⟩:=(show ∃t,u=Value.float y t from rx);cases q;exact cO PySem.W.kitx_float I.C4 True.intro e (λz=>nomatch z) h
 | @lst a xs d=>
  cases(show u=Value.ref a from rx)
  obtain⟨_,_,n,_,h1⟩:=(show jW X.prog X.w H s.heap a (.lst xs)from I.hok a _ d);exact cO PySem.W.kitx_list I.C4 ⟨_,h1,rfl⟩ e (λz=>nomatch z) h
 | @frz a k xs d=>
  cases(show u=Value.ref a from rx)
  obtain⟨_,_,_,n,_,h1⟩:=(show jW X.prog X.w H s.heap a (.frz k<|.lst xs)from I.hok a _ d);exact cO PySem.W.kitx_list I.C4 ⟨_,h1,rfl⟩ e (λz=>nomatch z) h
 | @tup a xs d=>
  cases(show u=Value.ref a from rx)
  obtain⟨_,_,_,p⟩:=(show jW X.prog X.w H s.heap a (.tup xs)from I.hok a _ d);obtain⟨o,h1,h2,_⟩:=p;exact cO PySem.W.kitx_tuple I.C4 ⟨o,h1,h2⟩ e (λz=>nomatch z) h
 | @dK a f d=>
  cases(show u=Value.ref a from rx)
  obtain⟨_,_,vs,_,p⟩:=(show jW X.prog X.w H s.heap a (.dK f)from I.hok a _ d);obtain⟨o,es,F,h1,h2,_⟩:=p;exact cO PySem.W.kitx_dict I.C4 ⟨o,h1,h2.1⟩ e (λz=>nomatch z) h
 | @dT a f d=>
  cases(show u=Value.ref a from rx)
  obtain⟨_,_,xs,_,o,es,F,h1,h2,_⟩:=(show jW X.prog X.w H s.heap a (.dT f)from I.hok a _ d);exact cO PySem.W.kitx_dict I.C4 ⟨o,h1,h2.1⟩ e (λz=>nomatch z) h
 | @ins a C dx fs d j B hn g m=>
  cases(show u=Value.ref a from rx)
  obtain⟨L,O,_⟩:=P8 I.hok d;obtain⟨G,J,_⟩:=O.look;exact cO (PySem.W.kitx_own (j.get _) j.hd B hn g m) I.C4 J e (λz=>nomatch z) h
end
structure Room (k:Nat)(A:aA):Prop where
 hd:A.handled=none
 dp:A.depth+3 * k+5<recursionLimit
 un:A.units+16 * k+200<cLine
def Room.mono{k:Nat}{A:aA}(r:Room k A)(h:j<=k):Room j A:=⟨r.hd,by have:=r.dp;lia,by have:=r.un;lia⟩
def Room.deeper{k:Nat}{A:aA}(r:Room (k+1) A)(env:Env):Room k (A.deeper env):=
 ⟨r.hd,by have:=r.dp;show A.depth+1+3 * k+5<_;lia,by have:=r.un;show A.units+3+16 * k+200<_;lia⟩
def Room.depth{k:Nat}{A:aA}(r:Room k A):A.depth<recursionLimit:=by have:=r.dp;lia
def Room.units{k:Nat}{A:aA}(r:Room k A):A.units+64<cLine:=by have:=r.un;lia
abbrev aaa:TA:=λ_ H Q=>Q [] H
abbrev XJ (ta:TE)(tr:TA):TA:=λσ H Q=>ta σ H λx H1=>tr σ H1 λxs H2=>Q (x::xs) H2
section
variable {X:Cx}{e:aE}{es:List aE}{te:TE}{t:TA}{pos:Pos}
def xG:PA X [] aaa:=λ_ _ _ _ H Q I h=>Calls.spliced_nil ⟨[],H,I,.nil,h⟩
def oh(ha:PE X e te)(hr:PA X es t)(hs:starEach (e::es) X.env=(false,eval e X.env)::starEach es X.env:=by rfl):PA X (e::es) (XJ te t):=by
 intro pos pins s σ H Q I h;rw[hs]
 skip
 refine Calls.spliced_cons<|kj (ha pins s σ H _ I h) λu d ⟨x,H1,g,r1,f⟩=>?_;exact kj (hr pos pins d σ H1 _ g f) λus m ⟨xs,H2,j,r2,k⟩=>⟨x::xs,H2,j,.cons r1 r2,k⟩
abbrev ZU (t:TA):TE:=λσ H Q=>t σ H λxs H1=>xs.length<=sizeLine/\∀p,H1 p=none->Q (.ref p) (upd H1 p<|.tup xs)
abbrev Y_ (t:TA):TE:=λσ H Q=>t σ H λxs H1=>xs.length<=sizeLine/\∀p,H1 p=none->Q (.ref p) (upd H1 p<|.lst xs)
def U0{x1}(h:PA X es t):PE X (.Tuple es x1 pos) (ZU t):=by
 intro pins s σ H Q I hq;refine wpAny_Tuple_spliced (kj (h pos pins s σ H _ I hq) λus d ⟨xs,H1,f,r,z,q⟩=>⟨by rw[<- r.length];exact z,?_⟩);have hf:H1 d.heap.objs.size=none:=f.hok.fresh<|aQ _;refine⟨.ref d.heap.objs.size,upd H1 d.heap.objs.size<|.tup xs,f.laid (t':=d.toks) (λb u e=>aT _ e) (aQ _) ?_,rfl,q _ hf⟩;exact⟨z,us,r,⟨_,bG _ rfl,rfl,rfl,_,rfl⟩⟩
def Vh(h:PA X es t):PE X (.List es pos) (Y_ t):=by
 intro pins s σ H Q I hq;refine wpAny_List_spliced (kj (h pos pins s σ H _ I hq) λus d ⟨xs,H1,f,r,z,q⟩=>⟨by rw[<- r.length];exact z,?_⟩);have hf:H1 d.heap.objs.size=none:=f.hok.fresh<|aQ _;refine⟨.ref d.heap.objs.size,upd H1 d.heap.objs.size<|.lst xs,f.laid (t':=d.toks) (λb u e=>aT _ e) (aQ _) ?_,rfl,q _ hf⟩;exact⟨z,us,0,r,bG _ rfl⟩
end
meta abbrev Sp:=List V->Hp->VK->XK->Prop
meta abbrev PV:=List Env->Hp->aC->XK->af->aC->Prop
structure Env0 (P:aj)(w:ah)(K:au)(mg:Str->bd)(base:aq)(A:aA)(outer:List Env)(s:aC)(H:Hp):Prop where
 frames:A.frames=some outer
 mod:Mod K mg base
 bs:∀b o,base.get? b=some o->s.heap.get? b=some o/\H b=none
 bsz:base.objs.size<=s.heap.objs.size
 zw:s.heap.FunFrames base outer
 frf:∀b∈frs outer,H b=none
 hok:vO P w H s.heap
 bare:AllBare s.gens
abbrev CE (outer:List Env)(P:aj)(w:ah)(H:Hp)(s:aC)(Q:VK)(u:af)(s':aC):Prop:=
 ∃v H',s'.os=s.os/\AllBare s'.gens/\Un (frs outer) [] H H' s.heap s'.heap/\vO P w H' s'.heap/\RelV v u/\Q v H'
abbrev CR (CX:PV)(outer:List Env)(P:aj)(w:ah)(H:Hp)(s:aC)(Q:VK)(E:XK)(r:Result)(s':aC):Prop:=
 match r with
 | .ok (.ret u)=>CE outer P w H s Q u s'
 | .ok _=>False
 | .error e=>CX outer H s E e s'
structure FnOk (P:aj)(w:ah)(K:au)(mg:Str->bd)(base:aq)(CX:PV)(k:Nat)(f:ak)(fd:FuncData)(ps:ar)(sp:Sp):Prop where
 len:∀vs H Q E,sp vs H Q E->vs.length=ps.length
 run:∀(A:aA) (outer:List Env) (s:aC) (H:Hp) (args:Args) (us:ba) (vs:List V) (Q:VK) (E:XK),Room k A->Env0 P w K mg base A outer s H->BindsTo s fd args (ps.zip us)->Vals vs us->sp vs H Q E ->
  codeAny (model P w) A (.call (.ref f) args) (CR CX outer P w H s Q E) s
section
variable {X:Cx}{pins:bo}{σ:St}{H:Hp}{s s':aC}
def Inv.Ze(I:Inv X pins σ H s):Env0 X.prog X.w X.K X.mg X.base X.A X.stack s H:=
 ⟨I.ok.frames,I.ok.mod,I.bs,bP I.ok.bsz I.sz,I.stack,I.HX,I.hok,I.bare⟩
def Inv.after{Q:VK}(I:Inv X pins σ H s)(h:CE X.stack X.prog X.w H s Q u s'):EP X pins σ Q u s':=by
 obtain⟨v,H',os,f,un,j,r,q⟩:=h;obtain⟨m,g,d,t,k⟩:=s';obtain rfl:k=s.os:=os;exact⟨v,H',I.call (h':=m) (g':=g) (d':=d) (t':=t) (ch:=[]) un j f λb z=>absurd z<|by simp,r,q⟩
end
abbrev Th (sp:Sp)(dvs:List V)(E:XK)(t:TA):TE:=λσ H Q=>t σ H λvs H1=>sp (vs++dvs) H1 Q E
abbrev Binds (K:au)(fd:FuncData)(ps:ar)(ds:ba):Prop:=
 ∀(s:aC) (us:ba),K.In s.heap->(us++ds).length=ps.length->BindsTo s fd ⟨us,[]⟩ (ps.zip<|us++ds)
def Binds.all{K:au}{ps:ar}(h:∀us:ba,us.length=ps.length->bindArgs fd ⟨us,[]⟩=pure (ps.zip us)):Binds K fd ps []:=λs us _ d=>by
 rw[cJ]at d ⊢;exact .of_eq<|h us d
abbrev Passes (CX:PV)(X:Cx)(E:XK):Prop:=∀(pins:bo) (σ:St) (H:Hp) (s:aC) (e:af) (s':aC),Inv X pins σ H s->CX X.stack H s E e s'->X.xe e s'
section
variable {X:Cx}{CX:PV}{k:Nat}{f C:ak}{fd:FuncData}{ps:ar}{sp:Sp}{dvs:List V}{ds:ba}{E:XK}{x:Str}{p pos:Pos}{e:aE}{es:List aE}{t:TA}
def VV{H:Hp}{Q:VK}(F:FnOk X.prog X.w X.K X.mg X.base CX k f fd ps sp)(hr:Room k X.A)(hb:Binds X.K fd ps ds)(hd:Vals dvs ds)(hx:Passes CX X E)
  (I:Inv X pins σ H s) (r:Vals vs us) (h:sp (vs++dvs) H Q E):wpAny (model X.prog X.w) X.A (call (.ref f) us) (EP X pins σ Q) X.xe s:=by
 have r2:Vals (vs++dvs) (us++ds):=r.append hd;have d:(us++ds).length=ps.length:=by rw[<- r2.length];exact F.len _ _ _ _ h
 refine wpAny_call (gU (F.run X.A X.stack s H ⟨us,[]⟩ (us++ds) (vs++dvs) Q E hr I.Ze (hb s us I.C4 d) r2 h) λr s' hq=>?_)
 cases r with
 | error e=>exact hx pins σ H s e s' I hq
 | ok fl=>
  cases fl with
  | ret u=>exact I.after hq
  | next=>exact False.elim hq
  | brk=>exact False.elim hq
  | cont=>exact False.elim hq
def QM(F:FnOk X.prog X.w X.K X.mg X.base CX k f fd ps sp)(hr:Room k X.A)(hg:Gl X x)(hm:X.mg x=some (.ref f))(hk:PySem.W.keepIn X.K (.ref f)=true)(hb:Binds X.K fd ps ds)(hd:Vals dvs ds)(hx:Passes CX X E)
  (ha:PA X (e::es) t) (hdb:(x == ("__debug__" : Str))=false:=by decide) (he:starEach (e::es) X.env=(false,eval e X.env)::starEach es X.env:=by rfl) (hpl:(backTo pos<|starEach es X.env).any (·.1)=false:=by rfl) :
  PE X (.Call (.Name x p) (e::es) [] pos) (Th sp dvs E t):=by
 kt_k;refine gY<|G3 I hg hm ?_ hdb;refine PySem.W.callWith_K (h₀:=X.base) I.ok.mod.kin hk (kj (ha pos pins s σ H _ I h) λus d ⟨vs,H1,I1,r,q⟩=>⟨I1.C4,?_⟩) he hpl;exact VV F hr hb hd hx I1 r q
structure Mk (K:au)(C f:ak):Prop where
 makes:PySem.W.makesIn K C=true
 init:PySem.W.findIn K (.ref C) "__init__" = some (some<|.ref f)
 fn:PySem.W.isFn K (.ref f)=true
 kp:PySem.W.keepIn K (.ref C)=true
end
section
variable {fd:FuncData}{ps ks:ar}
structure KBinds (K:au)(fd:FuncData)(ps ks:ar)(g:ba->ba->ba)(gV:List V->List V->List V):Prop where
 to:∀(s:aC) (us ws:ba),K.In s.heap->(g us ws).length=ps.length->BindsTo s fd ⟨us,ks.zip ws⟩ (ps.zip<|g us ws)
 rel:∀{vs:List V} {us:ba} {zs:List V} {ws:ba},Vals vs us->Vals zs ws->Vals (gV vs zs) (g us ws)
end
structure FnScope (N P:ar)(sc:Scope):Prop where
 kind:sc.kind=.function
 co:sc.isCoroutine=false
 gen:sc.isGenerator=false
 nd:N.Nodup
 pre:N.take P.length=P
 par:∀x∈P,sc.names.lookup x=some .local\/sc.names.lookup x=some .cell
 nofree:∀y∈sc.names,y.2≠.free
theorem AN{kindOf:Str->Option NameKind}{x:Str}:∀{binds:List<|Str×af}{m:Str->bd},(∀v,(x,v)∉binds)->bindL kindOf binds m x=m x
 | [],_,_=>rfl
 | (n,v)::r,m,h=>by
  unfold bindL;rw[AN λw hw=>h w<|aO _ hw];split
  ·have:x≠n:=by rintro rfl;exact h v aM
   simp[this]
  ·rfl
theorem Bp{kindOf:Str->Option NameKind}{x:Str}:∀{binds:List<|Str×af}{m:Str->bd},(∀v,(x,v)∉binds)->bindC kindOf binds m x=m x
 | [],_,_=>rfl
 | (n,v)::r,m,h=>by
  unfold bindC;rw[Bp λw hw=>h w<|aO _ hw];split
  ·rfl
  ·have:x≠n:=by rintro rfl;exact h v aM
   simp[this]
theorem AZ{kindOf:Str->Option NameKind}{x:Str}{v:af}:∀{P:ar}{vs:ba}{i:Nat}{m:Str->bd},P.Nodup->P[i]?=some x->vs[i]?=some v->kindOf x=some .local ->
  bindL kindOf (P.zip vs) m x=some v
 | [],_,_,_,_,h,_,_=>by simp at h
 | _::_,[],_,_,_,_,h,_=>by simp at h
 | p::P,w::vs,0,m,nd,h1,h2,hk=>by
  simp at h1 h2;subst h1;subst h2;show bindL kindOf ((p,w)::P.zip vs) m p=_;unfold bindL;rw[AN λv hv=>(cY.mp nd).1 (iD hv).1,aL hk];simp
 | p::P,w::vs,i+1,m,nd,h1,h2,hk=>by
  skip
  unfold bindL;exact AZ (i:=i) (cY.mp nd).2 (by simpa using h1) (by simpa using h2) hk
theorem Bb{kindOf:Str->Option NameKind}{x:Str}{v:af}:∀{P:ar}{vs:ba}{i:Nat}{m:Str->bd},P.Nodup->P[i]?=some x->vs[i]?=some v->kindOf x≠some .local ->
  bindC kindOf (P.zip vs) m x=some v
 | [],_,_,_,_,h,_,_=>by simp at h
 | _::_,[],_,_,_,_,h,_=>by simp at h
 | p::P,w::vs,0,m,nd,h1,h2,hk=>by
  simp at h1 h2;subst h1;subst h2;show bindC kindOf ((p,w)::P.zip vs) m p=_;unfold bindC;rw[Bp λv hv=>(cY.mp nd).1 (iD hv).1,aK hk];simp
 | p::P,w::vs,i+1,m,nd,h1,h2,hk=>by
  skip
  unfold bindC;exact Bb (i:=i) (cY.mp nd).2 (by simpa using h1) (by simpa using h2) hk
abbrev start (N:ar)(vs:List V):St:=vs.map some++List.replicate (N.length-vs.length) none
abbrev Fo (CX:PV)(P:aj)(w:ah)(K:au)(mg:Str->bd)(base:aq)(N:ar)(qual:Str)(scope:Scope)(f:ak)(cd:af)(A:aA)(outer:List Env)(s:aC)(H:Hp)(E:XK):Cx where
 prog:=P
 w:=w
 K:=K
 mg:=mg
 base:=base
 A:=A.deeper (envOfC qual scope s.heap.objs.size f cd)
 N:=N
 s₀:=s
 H₀:=H
 env:=envOfC qual scope s.heap.objs.size f cd
 outer:=outer
 stack:=envOfC qual scope s.heap.objs.size f cd::outer
 ex:=[]
 calm:=true
 fn:=λ_=>true
 pn:=[]
 xe:=λe s'=>wpAny (model P w) (A.deeper<|envOfC qual scope s.heap.objs.size f cd) (leaving (envOfC qual scope s.heap.objs.size f cd) e) (λ_ d=>CX outer H s E e d) (λg d=>CX outer H s E g d) s'
def Em{sc:Scope}{n:Nat}{x:Str}(h:sc.names.lookup x=some .cell):∃c,(cellsFrom n sc.names []).lookup x=some c:=by
 have q:=eV sc.names n []<|.inl h;exact eG.mp q
def JT{CX:PV}{P:aj}{w:ah}{K:au}{mg:Str->bd}{base:aq}{N ps:ar}{scope:Scope}{f:ak}{cd:af}{A:aA}{outer:List Env}{s:aC}{H:Hp}{E:XK}{vs:List V}
  (S:FnScope N ps scope) (hd:A.handled=none) (e0:Env0 P w K mg base A outer s H) (hl:vs.length=ps.length) (r:Vals vs us)
  (x:InCallC s s.heap.objs.size (bindL (envOfC qual scope s.heap.objs.size f cd).kindOf (ps.zip us) λ_=>none) (cellsFrom (s.heap.objs.size+1) scope.names []) (bindC (envOfC qual scope s.heap.objs.size f cd).kindOf (ps.zip us) λ_=>none) s1) :
  Inv (Fo CX P w K mg base N qual scope f cd A outer s H E) [] (start N vs) H s1:=by
 have C:ps.length<=N.length:=by have:=dG List.length S.pre;rw[aW]at this;lia
 obtain⟨h1,F,rfl,m⟩:=x.done;have d:∀b:ak,b∉(Fo CX P w K mg base N qual scope f cd A outer s H E).ex:=λb z=>absurd (show b∈([]:bb)from z) (by simp);refine⟨⟨e0.mod,S.kind,rfl,rfl,aQ _,λy z c h1 h2=>?_,λy hy=>?_,λy c _ h=>?_,λ_=>hd,Around.frames_deeper e0.frames,.inr ⟨rfl,rfl⟩,λb z=>absurd z<|d b,e0.bs,e0.bsz,λb _ _=>d b,λb z=>absurd z<|d b,e0.zw,e0.frf⟩,
  rfl,e0.bare,Un.kept m,⟨_,x.toInCall.ns,λi y v h1 h2 h3=>?_⟩,λy c h=>⟨_,x.cell y c h⟩,e0.hok.fresh<|aQ _,λy c h=>?_,λp hp=>absurd (show p∈([]:bo)from hp)<|by simp,e0.hok.kept m,?_⟩
 ·exact name_of_addr x.apart (cT h1) (cT h2)
 ·have hy:scope.names.lookup y=some .cell\/scope.names.lookup y=some .free:=hy
  rcases hy with hy|hy
  ·exact Em hy
  ·exact absurd rfl<|S.nofree _<|cT hy
 ·exact eU (x.above y c<|cT h)
 ·have hi:i<vs.length:=by
   unfold start at h2;by_cases hi:i<vs.length
   ·exact hi
   ·rw[cM<|by simpa using hi]at h2;rw[f6]at h2;split at h2<;>cases h2
  have B:vs[i]?=some v:=by
   unfold start at h2;rw[bB<|by simpa using hi,bh]at h2
   cases e:vs[i]? with
   | none=>rw[e]at h2;cases h2
   | some a=>rw[e]at h2;cases h2;rfl
  obtain⟨u,j,rv⟩:=r.get B;have hp:ps[i]?=some y:=by
   rw[<- S.pre,dc ()];exact h1
  have g:ps.Nodup:=by rw[<- S.pre];exact S.nd.sublist (List.take_sublist _ _)
  refine⟨u,rv,?_⟩
  rcases S.par y (aX hp)with k|k
  ·exact .inl ⟨k,AZ g hp j k⟩
  ·obtain⟨c,e⟩:=Em (n:=s.heap.objs.size+1) k;refine .inr ⟨.inl k,c,e,?_⟩;have q:=x.cell y c e;rw[Bb g hp j<|by show scope.names.lookup y≠_;rw[k];decide]at q;exact q
 ·exact e0.hok.fresh (eU<|x.above y c<|cT h)
 ·unfold start;show _=N.length;rw[aY,aH,List.length_replicate]
  lia
def Xj{CX:PV}{P:aj}{w:ah}{K:au}{mg:Str->bd}{base:aq}{k:Nat}{f:ak}{kV pm ct:af}
  {osl:Array<|bd} {N ps:ar} {sp:Sp} (lk:K.lookup f=some ⟨oc,od,.func<|PySem.W.fnOf name qual params body scope dV kV doc pm an cdv ct,osl⟩) (hcd:PySem.W.codeIn K cdv qual=true) (S:FnScope N ps scope)
  (len:∀vs H Q E,sp vs H Q E->vs.length=ps.length)
  (hbody:∀(A:aA) (outer:List Env) (s:aC) (H:Hp) (vs:List V) (Q:VK) (E:XK),Room k (A.deeper<|envOfC qual scope s.heap.objs.size f cdv)->sp vs H Q E ->
   ∃t,Cc (Fo CX P w K mg base N qual scope f cdv A outer s H E) body t/\t { nx:=λ_ H'=>Q .non H',rt:=Q } (start N vs) H) :
  FnOk P w K mg base CX (k+1) f (PySem.W.fnOf name qual params body scope dV kV doc pm an cdv ct) ps sp:=by
 refine⟨len,λA outer s H B us vs Q E p e0 G r j=>?_⟩;have F:=len _ _ _ _ j;have C:K.In s.heap:=e0.mod.kin.keeps λb o e=>(e0.bs b o e).1;have m:s.heap.NoLimit:=e0.mod.nolimit.keeps λb o e=>(e0.bs b o e).1;have g:∀y∈ps.zip us,scope.names.lookup y.1=some .local\/(scope.names.lookup y.1=some .cell/\((cellsFrom (s.heap.objs.size+1) scope.names []).lookup y.1).isSome=true):=λ⟨n,v⟩ hy=>by
  rcases S.par n (iD hy).1 with q|q
  ·exact .inl q
  ·exact .inr ⟨q,eV _ _ _<|.inl q⟩
 refine codeAny_call_function p.depth (C _ _ lk) rfl S.co S.gen rfl (PySem.W.codeRec_of C hcd)<|G _ _ _ _ ?_;refine wpAny_newFunctionEnv_cells S.kind g λenv L z x=>?_;subst L;refine⟨m.keeps x.toInCall.keep,codeAny_func ?_⟩;obtain⟨t,M,hq⟩:=hbody A outer s H vs Q E (p.deeper _) j;have I:Inv (Fo CX P w K mg base N qual scope f cdv A outer s H E) [] (start N vs) H z:=JT S p.hd e0 F r x;refine fH (M [] z (start N vs) H _ I hq) (λfl s' hs=>?_) λe s' hs=>hs;have fin:∀{d:St} {H':Hp} {v:V} {u:af},Inv (Fo CX P w K mg base N qual scope f cdv A outer s H E) [] d H' s'->RelV v u->Q v H'->CE outer P w H s Q u s':=
  λ{d H' v u} J rv q=>⟨v,H',J.os,J.bare,J.base,J.hok,rv,q⟩
 cases fl with
 | ret u=>
  obtain⟨v,d,H',J,rv,q⟩:=hs;exact fin J rv q
 | next=>
  obtain⟨d,H',J,q⟩:=hs;exact fin (v:=V.non) (u:=Value.none) J rfl q
 | brk=>
  obtain⟨_,_,_,q⟩:=hs;exact False.elim q
 | cont=>
  obtain⟨_,_,_,q⟩:=hs;exact False.elim q
section
variable {X:Cx}{x:Str}{p pos:Pos}{e:aE}{es:List aE}{t:TA}{id T:String}{r:List V->Hp->VK->Prop}
abbrev tCB (r:List V->Hp->VK->Prop)(t:TA):TE:=λσ H Q=>t σ H λvs H1=>r vs H1 Q
def Mn(hc:jo X (.builtin id) r)(hg:Gl X x)(hm:X.mg x=none)(hv:bootBuiltins x=some (.builtin id))(ha:PA X (e::es) t)(hn:x ≠ "__name__" := by decide)(hdb:(x == ("__debug__" : Str))=false:=by decide)
  (he:starEach (e::es) X.env=(false,eval e X.env)::starEach es X.env:=by rfl) (hpl:(backTo pos<|starEach es X.env).any (·.1)=false:=by rfl):PE X (.Call (.Name x p) (e::es) [] pos) (tCB r t):=by
 kt_k;refine gY<|xm I hg hm hv ?_ hn hdb;exact PyProof.Rows.callWith_builtin1 (kj (ha pos pins s σ H _ I h) λus d ⟨vs,H1,g,r1,f⟩=>hc pins d σ H1 vs us Q g r1 f) he hpl
def xB(hc:jo X (.type T) r)(hg:Gl X x)(hm:X.mg x=none)(hv:bootBuiltins x=some (.type T))(ha:PA X (e::es) t)(hn:x ≠ "__name__" := by decide)(hdb:(x == ("__debug__" : Str))=false:=by decide)
  (he:starEach (e::es) X.env=(false,eval e X.env)::starEach es X.env:=by rfl) (hpl:(backTo pos<|starEach es X.env).any (·.1)=false:=by rfl):PE X (.Call (.Name x p) (e::es) [] pos) (tCB r t):=by
 kt_k;refine gY<|xm I hg hm hv ?_ hn hdb;exact dO (kj (ha pos pins s σ H _ I h) λus d ⟨vs,H1,g,r1,f⟩=>hc pins d σ H1 vs us Q g r1 f) he hpl
end
end L2
namespace HT
open PySem PyProof.Rows
abbrev lexLt:ag->ag->Bool
 | [],[]=>false
 | [],_::_=>true
 | _::_,[]=>false
 | x::xs,y::ys=>if x=y then lexLt xs ys else decide (x<y)
def sf(x y:Int)(xs ys:ag):lexLt (x::xs) (y::ys)=if x=y then lexLt xs ys else decide (x<y):=rfl
def Az:lexLt [] []=false:=rfl
section
variable {prog:aj}{w:ah}{A:aA}{E:af->aC->Prop}{s:aC}
def Rt{vs ws:ba}{Q:af->aC->Prop}(ht:IsTup s.heap t vs.toArray)(hb:IsTup s.heap b ws.toArray)(hv:vs≠[])
  (h1:ws=[]->Q (.ref t) s) (h2:ws≠[]->Q (.ref s.heap.objs.size) { s with heap:=s.heap.push { cls:=.type "tuple",data:=.seq (vs++ws).toArray }})
  (hsz:vs.length+ws.length<=sizeLine):wpAny (model prog w) A (binaryOp .Add (.ref t)<|.ref b) Q E s:=by
 obtain⟨⟨cls,z,data,q⟩,m,hc,n,B⟩:=id ht;obtain⟨⟨F,f,p,g⟩,d,k,C,j⟩:=id hb;simp only at hc B k j;subst hc B k j;have e:vs.toArray++ws.toArray=(vs++ws).toArray:=by simp
 by_cases hw:ws=[]
 ·exact concat_meets ⟨_,m,rfl⟩ ⟨_,d,rfl⟩ noFill_tuple_add seq_tuple_add f9 f7 (fR _ _)
   (tuple_addW1 t b vs.toArray ws.toArray n C z f q g (by simpa using hv)<|by simp[hw]) ⟨m,d,h1 hw⟩
 ·refine concat_meets ⟨_,m,rfl⟩ ⟨_,d,rfl⟩ noFill_tuple_add seq_tuple_add f9 f7 (fR _ _)
   (tuple_addW2 t b vs.toArray ws.toArray n C z f q g (by simpa using hv) (by simpa using hw)<|by rw[aZ,aZ];exact hsz) ⟨m,d,?_⟩
  rw[e];exact h2 hw
abbrev kX (n d:Nat):bi->Nat
 | none=>d
 | some v=>if v<0 then(v+(n:Int)).toNat else min v.toNat n
def ET(n d:Nat):kX n d none=d:=rfl
def sU(n d k:Nat):kX n d (some (k:Int))=min k n:=by
 show(if (k:Int)<0 then((k:Int)+(n:Int)).toNat else min (k:Int).toNat n)=min k n;rw[aK (),eg]
def Vx(n d:Nat)(hd:d<=n)(o:bi):kX n d o<=n:=by
 cases o with
 | none=>exact hd
 | some v=>
  show(if v<0 then(v+(n:Int)).toNat else min v.toNat n)<=n;by_cases hv:v<0
  ·rw[aL hv];lia
  ·rw[aK hv];exact Nat.min_le_right _ _
def G8(v:Int)(n d:Nat):(if v<0 then max (v+(n:Int)) 0 else min v (n:Int))=((kX n d (some v):Nat):Int):=by
 show(if v<0 then max (v+(n:Int)) 0 else min v (n:Int))=(((if v<0 then(v+(n:Int)).toNat else min v.toNat n):Nat):Int);by_cases hv:v<0
 ·dsimp[aL hv];lia
 ·dsimp[aK hv];lia
def E4(lo hi:bi)(n:Nat):Builtin.Slice.sliceAdjust lo hi 1 (n:Int)=(((kX n 0 lo:Nat):Int),((kX n n hi:Nat):Int)):=by
 have h1:¬((1:Int)<0):=()
 unfold Builtin.Slice.sliceAdjust;dsimp[h1,bZ];refine iI ?_ ?_
 ·cases lo with
  | none=>rfl
  | some v=>exact G8 v n 0
 ·cases hi with
  | none=>rfl
  | some v=>exact G8 v n n
def E3(i j:Nat):Builtin.Slice.slicePlaces (i:Int) (j:Int) 1=j-i:=by
 unfold Builtin.Slice.slicePlaces;have h1:(1:Int)>0:=()
 dsimp[h1,cN,Int.ediv_one];split<;>lia
def zz{v:af}{Q:bi->aC->Prop}(p:IsPart v o)(h:Q o s):wpAny (model prog w) A (Builtin.Slice.slicePartIndex v) Q E s:=by
 cases p with
 | none=>exact slicePart_none h
 | int i t=>exact slicePart_int h
def rH{lo:bi}{n:Nat}{Q:Int×Int×Nat->aC->Prop}(hs:s.heap.IsSliceOf sl vl vu .none)(pl:IsPart vl lo)(pu:IsPart vu hi)
  (h:Q (((kX n 0 lo:Nat):Int),1,kX n n hi-kX n 0 lo) s):wpAny (model prog w) A (Builtin.Slice.sliceApplied (.ref sl)<|pure (n:Int)) Q E s:=by
 obtain⟨j,d,g,f⟩:=id hs;unfold Builtin.Slice.sliceApplied Builtin.Slice.sliceFields;refine aI<|aI<|wpAny_field d f (x:=vl) rfl<|aI<|wpAny_field d f (x:=vu) rfl<|aI<|wpAny_field d f (x:=.none) rfl<|aR ?_;refine aI (slicePart_none ?_)
 skip
 rw[aK ⋯];refine aI<|zz pl<|aI<|zz pu<|aI<|aR ?_;show wpAny _ _ (match Builtin.Slice.sliceAdjust lo hi 1 (n:Int)with|(lo,hi)=>pure (lo,(1:Int),Builtin.Slice.slicePlaces lo hi 1)) _ _ s;rw[E4 lo hi n];show wpAny _ _ (pure (((kX n 0 lo:Nat):Int),(1:Int),Builtin.Slice.slicePlaces ((kX n 0 lo:Nat):Int) ((kX n n hi:Nat):Int) 1)) _ _ s;rw[E3];exact aR h
def MZ(xs:Array af)(i k:Nat):((List.range k).filterMap λ(m:Nat)=>xs[((i:Int)+(m:Int) * 1).toNat]?).toArray=((xs.toList.drop i).take k).toArray:=by
 have e:(λ(m:Nat)=>xs[((i:Int)+(m:Int) * 1).toNat]?)=λm=>xs[i+m]?:=by
  funext m
  have:((i:Int)+(m:Int) * 1).toNat=i+m:=()
  rw[this]
 rw[e];have:=pick_run xs i k;rw[List.filterMap_map]at this;have e2:((λx=>xs[x]?) ∘ λx=>i+x)=λm=>xs[i+m]?:=rfl;rw[e2]at this;rw[this]
def wj{items:Array af}{lo:bi}{Q:af->aC->Prop}(ht:IsTup s.heap t items)(hs:s.heap.IsSliceOf sl vl vu .none)(pl:IsPart vl lo)(pu:IsPart vu hi)
  (hw:¬(kX items.size 0 lo=0/\kX items.size items.size hi=items.size))
  (h:Q (.ref s.heap.objs.size) { s with heap:=s.heap.push { cls:=.type "tuple",data:=.seq ((items.toList.drop<|kX items.size 0 lo).take<|kX items.size items.size hi-kX items.size 0 lo).toArray }})
  (hsz:items.size<=sizeLine):wpAny (model prog w) A (getItem (.ref t)<|.ref sl) Q E s:=by
 have d:sizeOk (.seq ((items.toList.drop<|kX items.size 0 lo).take<|kX items.size items.size hi-kX items.size 0 lo).toArray):=by
  show((items.toList.drop<|kX items.size 0 lo).take<|kX items.size items.size hi-kX items.size 0 lo).toArray.size<=sizeLine;rw[aZ,aW,bN,b_];omega
 have B:kX items.size items.size hi<=items.size:=Vx _ _ (aQ _) hi;obtain⟨z,f,j,p⟩:=id hs;have g:s.TypeIs (.ref sl) "slice" := ⟨z,f,j⟩;unfold getItem
 try with_reducible refine c_ ?_
 first|refine aI (aR ?_)|skip
 refine aI<|wpAny_sequenceKey ht.typeIs ⋯ ?_;refine aI (wpAny_callSpecial?_slot (name:=Str.ofString "__getitem__") ht.typeIs cD
  (eK cD ht.typeIs entry_tuple_getitem ?_<|args_tuple_getitem _ _))
 show wpAny _ _ (Builtin.Tuple.tupleItemsOf (.ref t) >>= _) _ _ s;refine aI<|tupleItemsOf_ ht ?_;refine aI<|fM g ?_;rw[aL ⋯];refine aI<|rH hs pl pu ?_;have k:¬((((kX items.size 0 lo:Nat):Int) == 0 && (1:Int) == 1 && (kX items.size items.size hi-kX items.size 0 lo) == items.size)=true):=by
  intro q;rw[eL,eL]at q;have C:((kX items.size 0 lo:Nat):Int)=0:=eq_of_beq q.1.1;have F:kX items.size items.size hi-kX items.size 0 lo=items.size:=eq_of_beq q.2;exact hw ⟨by omega,by omega⟩
 show wpAny _ _ (if (((kX items.size 0 lo:Nat):Int) == 0 && (1:Int) == 1 && (kX items.size items.size hi-kX items.size 0 lo) == items.size)=true then _ else _) _ _ s;rw[aK k,MZ]
 first
  | exact aI (m:=Builtin.Tuple.tupleExact _) (c7 (aR ⟨_,rfl,aR h⟩) d)
  | exact aI (m:=Builtin.Tuple.tupleExact _) (c7 (aI<|aR<|aR ⟨_,rfl,aR h⟩) d)
  | exact aI (aI (m:=Builtin.Tuple.tupleExact _)<|c7 (aR<|aR ⟨_,rfl,aR h⟩) d)
  | exact aI<|aI (m:=Builtin.Tuple.tupleExact _)<|c7 (aR ⟨_,rfl,aR h⟩) d
end
end HT
namespace L2
open PySem PySem.Spec PyProof.Rows
meta abbrev TO:=St->Hp->(bi->Hp->Prop)->Prop
abbrev PO (X:Cx)(e:Option aE)(t:TO):Prop:=
 ∀(pins:bo) (s:aC) (σ:St) (H:Hp) (Q:bi->Hp->Prop),Inv X pins σ H s->t σ H Q ->
  wpAny (model X.prog X.w) X.A (evalPart e X.env) (λu s'=>∃o H',Inv X pins σ H' s'/\IsPart u o/\Q o H') X.xe s
abbrev RW:TO:=λ_ H Q=>Q none H
abbrev W6 (t:TE):TO:=λσ H Q=>t σ H λx H1=>∃i,x=.int i/\Q (some i) H1
def intsAre_of{ns:ag}:∀{us:ba},Vals (ns.map V.int) us->IntsAre us ns:=by
 induction ns with
 | nil=>intro us r;rw[iy]at r;cases r;exact .nil
 | cons n ns d=>
  intro us r;rw[bM]at r
  cases r with
  | cons r1 r2=>
   obtain⟨t,e⟩:=r1;subst e;exact .cons n t<|d r2
section
variable {X:Cx}{e:aE}{te:TE}{lo hi:Option aE}{tl th:TO}{pos p2:Pos}
def Rc:PO X none RW:=by
 kt_k;rw[evalPart_none];exact aR ⟨none,H,I,.none,h⟩
def QJ(h:PE X e te):PO X (some e) (W6 te):=by
 intro pins s σ H Q I hw;rw[evalPart_some];refine kj (h pins s σ H _ I hw) λu g ⟨x,H1,d,r1,f⟩=>?_;obtain⟨i,rfl,q⟩:=f;obtain⟨t,rfl⟩:=r1;exact⟨some i,H1,d,.int i t,q⟩
abbrev WH (X:Cx)(r:V->bi->bi->Hp->VK->Prop):Prop:=
 ∀(pins:bo) (s:aC) (σ:St) (H:Hp) (x:V) (v g f:af) (lo hi:bi) (d:ak) (Q:VK),Inv X pins σ H s->RelV x v->s.heap.IsSliceOf d g f .none->IsPart g lo->IsPart f hi->r x lo hi H Q ->
  ∃T id,typeLookup (.type T) "__getitem__" = pure (some<|.builtin id)/\s.TypeIs v T/\wpAny (model X.prog X.w) X.A (getItem v<|.ref d) (EP X pins σ Q) X.xe s
abbrev tSl (r:V->bi->bi->Hp->VK->Prop)(te:TE)(tl th:TO):TE:=λσ H Q=>te σ H λx H1=>tl σ H1 λl H2=>th σ H2 λu H3=>r x l u H3 Q
def DL{r:V->bi->bi->Hp->VK->Prop}(hr:WH X r)(he:PE X e te)(hl:PO X lo tl)(hu:PO X hi th):PE X (.Subscript e (.Slice lo hi none p2) pos) (tSl r te tl th):=by
 kt_k;refine Subscript_<|kj (he pins s σ H _ I h) λv j ⟨x,H1,m,r1,k⟩=>?_;refine wpAny_Slice<|kj (hl pins j σ H1 _ m k) λf p ⟨l,H2,z,pl,G⟩=>kj (hu pins p σ H2 _ z G) λg d ⟨u,H3,J,F,B⟩=>?_;rw[evalPart_none];refine aR ?_;have C:Inv X pins σ H3 { d with heap:=d.heap.push { cls:=.type "slice",data:=.fields #[f,g,.none]}}:=J.kept (t':=d.toks) λb K q=>aT _ q;obtain⟨T,id,hT,ht,hg⟩:=hr pins { d with heap:=d.heap.push { cls:=.type "slice",data:=.fields #[f,g,.none]}} σ H3 x v f g l u d.heap.objs.size Q C r1 (Heap.IsSliceOf.new ..) pl F B
 skip
 exact tail_any (ops:=[.ref d.heap.objs.size,v]) ht hT hg<|by with_unfolding_all rfl
abbrev EI (xs:List V)(lo hi:bi):List V:=(xs.drop<|HT.kX xs.length 0 lo).take<|HT.kX xs.length xs.length hi-HT.kX xs.length 0 lo
def xX(xs:List V)(lo hi:bi):(EI xs lo hi).length<=xs.length:=by
 unfold EI;rw[aW,bN]
 lia
abbrev YZ (K:au):V->bi->bi->Hp->VK->Prop:=λx lo hi H Q=>∃a xs,x=.ref a/\nG K H a xs /\
 ¬(HT.kX xs.length 0 lo=0/\HT.kX xs.length xs.length hi=xs.length)/\∀p,H p=none->Q (.ref p) (upd H p<|.tup<|EI xs lo hi)
def NF:WH X (YZ X.K):=by
 intro pins s σ H x v p z lo hi k Q I rx hs pl g h;obtain⟨a,xs,rfl,j,hw,q⟩:=h
 cases rx
 obtain⟨its,r,f,hz⟩:=I.tuple j;have d:its.toArray.size=xs.length:=by rw[aZ];exact r.length.symm
 refine⟨"tuple",_,cD.lookup,f.typeIs,?_⟩;refine HT.wj f hs pl g (by rw[d];exact hw) ?_ (by rw[d];exact hz);rw[d];refine⟨.ref s.heap.objs.size,_,I.laid (t':=s.toks) (o:=.tup<|EI xs lo hi) (λb m q=>aT _ q) (aQ _) ?_,rfl,q _<|I.hok.fresh<|aQ _⟩;exact⟨bP (xX xs lo hi) hz,_,(r.drop<|HT.kX xs.length 0 lo).take<|HT.kX xs.length xs.length hi-HT.kX xs.length 0 lo,nM.new _ _⟩
abbrev Yp (K:au):R2:=λx y H Q=>∃a b xs ys,x=.ref a/\y=.ref b/\nG K H a xs/\nG K H b ys/\xs≠[]/\xs.length+ys.length<=sizeLine /\
 (ys=[]->Q (.ref a) H)/\(ys≠[]->∀p,H p=none->Q (.ref p) (upd H p<|.tup<|xs++ys))
def Vals.Cd(r:Vals xs us):us=[] ↔ xs=[]:=by
 cases r with
 | nil=>simp
 | cons _ _=>simp
def Ru:nj X (binaryOp .Add) (Yp X.K):=by
 gp_on;obtain⟨a,b,xs,ys,rfl,rfl,j,f,m,hz,g,k⟩:=h
 cases rx
 cases ry
 obtain⟨its,r1,p1,_⟩:=I.tuple j;obtain⟨d,r2,p2,_⟩:=I.tuple f;refine HT.Rt p1 p2 (λz=>m<|r1.Cd.mp z) (λz=>⟨.ref a,H,I,rfl,g<|r2.Cd.mp z⟩) (λz=>?_) (by rw[<- r1.length,<- r2.length];exact hz);refine⟨.ref s.heap.objs.size,_,I.laid (t':=s.toks) (o:=.tup<|xs++ys) (λb p q=>aT _ q) (aQ _) ?_,rfl,k (λw=>z<|r2.Cd.mpr w) _<|I.hok.fresh<|aQ _⟩;exact⟨by rw[aY];exact hz,_,r1.append r2,nM.new _ _⟩
end
abbrev C_ (n:Nat)(i:Int):bn:=if 0<=i then(if i<n then some i.toNat else none)else if -(n:Int)<=i then some (i+n).toNat else none
abbrev om {α:Type}(xs:List α)(i:Int):Option α:=(C_ xs.length i).bind λj=>xs[j]?
def GN{n:Nat}{i:Int}(h:C_ n i=some j):seqIndex? i n=some j/\j<n/\-(n:Int)<=i/\i<n:=by
 unfold C_ at h;by_cases h0:0<=i
 ·rw[aL h0]at h;by_cases h1:i<n
  ·rw[aL h1]at h;have e:i.toNat=j:=aU h;exact⟨by rw[seqIndex_of h0 h1,e],(),(),h1⟩
  ·rw[aK h1]at h;cases h
 ·rw[aK h0]at h;by_cases h1:-(n:Int)<=i
  ·rw[aL h1]at h;have e:(i+n).toNat=j:=aU h;exact⟨by rw[seqIndex_neg () h1,e],(),h1,()⟩
  ·rw[aK h1]at h;cases h
def Cp{α:Type}{xs:List α}{i:Int}{v:α}(h:om xs i=some v):∃j,seqIndex? i xs.length=some j/\xs[j]?=some v/\j<xs.length/\-(xs.length:Int)<=i/\i<xs.length:=by
 unfold om at h
 cases e:C_ xs.length i with
 | none=>rw[e]at h;cases h
 | some j=>
  rw[e]at h;obtain⟨h1,h2,h3,d⟩:=GN e;exact⟨j,h1,h,h2,h3,d⟩
def RZ{α:Type}{xs:List α}{j:Nat}{v:α}(h:xs[j]?=some v):om xs (j:Int)=some v:=by
 have d:j<xs.length:=(aN.mp h).1;have e:C_ xs.length (j:Int)=some j:=by
  unfold C_;rw[aL (),aL ()];simp
 unfold om;rw[e];exact h
abbrev yH (b:aE):Prop:=∀o i,subscripted b false o i=operate [o,i] (getItem o i)
abbrev QK (X:Cx)(r:R2):Prop:=
 ∀(value slice:aE) (pins:bo) (s:aC) (σ:St) (H:Hp) (x y:V) (v u:af) (Q:VK),Inv X pins σ H s->RelV x v->RelV y u->r x y H Q ->
  subscripted slice false v u=operate [v,u] (getItem v u)->wpAny (model X.prog X.w) X.A (subscriptTail value slice v u) (EP X pins σ Q) X.xe s
abbrev WL (X:Cx)(id:String)(r:V->List V->Hp->VK->Prop):Prop:=
 ∀(pins:bo) (s:aC) (σ:St) (H:Hp) (x:V) (xs:List V) (v:af) (us:ba) (Q:VK),Inv X pins σ H s->RelV x v->Vals xs us->r x xs H Q ->
  wpAny (model X.prog X.w) X.A (call (.builtin id) (v::us)) (EP X pins σ Q) X.xe s
section
variable {X:Cx}{a b:aE}{ta tb:TE}{pos:Pos}
def Lg{r:R2}(hr:QK X r)(ha:PE X a ta)(hb:PE X b tb)(hs:yH b):PE X (.Subscript a b pos) (WS r ta tb):=by
 kt_k;exact Subscript_<|US ha hb I h λv u d x y H2 f rx ry q=>hr a b pins d σ H2 x y v u Q f rx ry q<|hs _ _
abbrev Y8 (K:au):R2:=λx y H Q=>∃p xs i v,x=.ref p/\y=.int i/\lT K H p xs/\om xs i=some v/\Q v H
abbrev YW (K:au):R2:=λx y H Q=>∃p xs i v,x=.ref p/\y=.int i/\nG K H p xs/\om xs i=some v/\Q v H
abbrev Zs:R2:=λx y H Q=>∃z i c,x=.str z/\y=.int i/\z.length<=sizeLine/\om z.cps.toList i=some c/\Q (.str ⟨#[c]⟩) H
def HR:QK X (Y8 X.K):=by
 kst_p;obtain⟨p,xs,i,z,rfl,rfl,hq,B,q⟩:=h
 cases rx
 obtain⟨t,rfl⟩:=ry;obtain⟨its,r,pl,hz⟩:=I.list hq;obtain⟨j,h1,h2,h3,C,m⟩:=Cp B;obtain⟨w,g,f⟩:=r.get h2;have k:=r.length;have hn:=ve;have fin:EP X pins σ Q w s:=⟨z,H,I,f,q⟩;by_cases h0:0<=i
 ·have d:i.toNat=j:=by
   rw[seqIndex_of h0 m]at h1;exact aU h1
  exact item_listR pl.isList h0 () (by rw[d];simpa using g) fin hs
 ·have d:(i+(its.toArray.size:Int)).toNat=j:=by
   rw[seqIndex_neg () C]at h1;rw[aZ,<- k];exact aU h1
  exact subscriptTail_builtinR (x:=w) pl.isList.typeIs slot_list_getitem.lookup
   (wpAny_getItem_list_neg (Q:=λr s'=>r=w/\EP X pins σ Q r s') pl.isList () (by rw[aZ]<;>lia) () (by rw[d];simpa using g) ⟨rfl,fin⟩) hs
def VQ:QK X (YW X.K):=by
 kst_p;obtain⟨p,xs,i,z,rfl,rfl,hq,k,q⟩:=h
 cases rx
 obtain⟨t,rfl⟩:=ry;obtain⟨its,r,pl,hz⟩:=I.tuple hq;obtain⟨j,h1,h2,h3,B,m⟩:=Cp k;obtain⟨w,g,d⟩:=r.get h2;have f:=r.length;have hn:=ve;have fin:EP X pins σ Q w s:=⟨z,H,I,d,q⟩;exact subscriptTail_builtinR (x:=w) pl.typeIs slot_tuple_getitem.lookup
  (getItem_tuple (j:=j) (Q:=λr s'=>r=w/\EP X pins σ Q r s') pl () () (by rw[aZ,<- f];exact h1) (by simpa using g) ⟨rfl,fin⟩) hs
def V6:QK X Zs:=by
 kst_p;obtain⟨z,i,c,rfl,rfl,hz,g,q⟩:=h;mg_lt;obtain⟨m,rfl⟩:=ry;obtain⟨j,h1,h2,h3,f,k⟩:=Cp g;have d:z.cps.toList.length=z.length:=by simp[Str.length]
 rw[d]at h1 f k;have hn:=ve;exact tail_any (typeIs_str s z t) slot_str_getitem.lookup (getItem_str (c:=c) (by
  have e1:decide (i < -(2 ^ 63:Int))=false:=aS ();have e2:decide (i>=2 ^ 63)=false:=aS ();rw[e1,e2,Bool.or_false]) (by rw[h1];simpa using h2) ⟨.str ⟨#[c]⟩,H,I.tok _,⟨_,rfl⟩,q⟩) hs
def Fx(its:ba)(n j:Nat)(u:af):Obj.mapSeq (·.setIfInBounds j u) { cls:=.type "list",data:=.seq its.toArray n }={ cls:=.type "list",data:=.seq (its.set j u).toArray n }:=by
 simp[Obj.mapSeq]
def Inv.lst{H:Hp}{s:aC}{p:ak}{xs:List V}(I:Inv X pins σ H s)(h:H p=some (.lst xs)) :
  ∃(its:ba) (n:Nat),Vals xs its/\s.heap.get? p=some { cls:=.type "list",data:=.seq its.toArray n }/\xs.length<=sizeLine:=by
 obtain⟨z,its,n,r,e⟩:=I.hok p _ h;exact⟨its,n,r,e,z⟩
def Inv.Vt{H:Hp}{s:aC}{p:ak}{ys:List V}{its its':ba}{n:Nat}{f:Obj->Obj}(I:Inv X pins σ H s)(h:H p=some (.lst xs))
  (ho:s.heap.get? p=some { cls:=.type "list",data:=.seq its.toArray n }) (hf:f { cls:=.type "list",data:=.seq its.toArray n }={ cls:=.type "list",data:=.seq its'.toArray n' }) (r:Vals ys its') (hz:ys.length<=sizeLine) (t:Nat) :
  Inv X pins σ (upd H p<|.lst ys) { s with heap:=s.heap.update p f,toks:=t }:=by
 have e:(s.heap.update p f).get? p=some { cls:=.type "list",data:=.seq its'.toArray n' }:=by
  rw[Heap.get?_update_self f ho<|by rw[hf]<;>rfl,hf]
 refine I.write (x:=p) (e:=p) (by rw[h];trivial) (.inl rfl) (λb u d q=>(Heap.get?_update_other _ _<|cP d).trans q) ⟨_,e⟩ ?_;exact⟨hz,its',n',r,e⟩
abbrev Yu:V->V->V->Hp->(Hp->Prop)->Prop:=λo i v H Q=>∃p xs k j,o=.ref p/\i=.int k/\H p=some (.lst xs)/\C_ xs.length k=some j/\Q (upd H p<|.lst<|xs.set j v)
def set_list:DU X Yu:=by
 intro pins s σ H o i v ov iv u Q I F C rv h;obtain⟨p,xs,k,j,rfl,rfl,hp,B,q⟩:=h
 cases F
 obtain⟨t,rfl⟩:=C;obtain⟨its,n,r,f,hz⟩:=I.lst hp;obtain⟨h1,h2,h3,z⟩:=GN B;have d:=r.length;have hn:=ve;have m:Inv X pins σ (upd H p<|.lst<|xs.set j v) { s with heap:=s.heap.update p<|Obj.mapSeq (·.setIfInBounds j u)}:=
  I.Vt hp f (Fx its n j u) (r.set rv j) (by rw[bV];exact hz) s.toks
 by_cases h0:0<=k
 ·have g:k.toNat=j:=by
   rw[seqIndex_of h0 z]at h1;exact aU h1
  exact PySem.W.ki_setAt f h0 () (by rw[aZ,<- d];exact z)<|by rw[g];exact⟨_,m,q⟩
 ·have g:(k+(its.toArray.size:Int)).toNat=j:=by
   rw[seqIndex_neg () h3]at h1;rw[aZ,<- d];exact aU h1
  exact PySem.W.ki_setBack f () (by rw[aZ,<- d];exact h3) ()<|by rw[g];exact⟨_,m,q⟩
def CB(lo hi:bi)(n:Nat):(sliceBounds lo hi none n).1=((HT.kX n 0 lo:Nat):Int)/\(sliceBounds lo hi none n).2.1=((HT.kX n n hi:Nat):Int)/\(sliceBounds lo hi none n).2.2=1:=by
 refine⟨?_,?_,rfl⟩
 ·cases lo with
  | none=>simp[sliceBounds,HT.kX]
  | some i=>
   dsimp[sliceBounds,HT.kX,getD_none,show(1:Int)>0 by decide,cN];by_cases h:i<0
   ·dsimp[h,cN]<;>lia
   ·dsimp[h,bZ]<;>lia
 ·cases hi with
  | none=>simp[sliceBounds,HT.kX]
  | some i=>
   dsimp[sliceBounds,HT.kX,getD_none,show(1:Int)>0 by decide,cN];by_cases h:i<0
   ·dsimp[h,cN]<;>lia
   ·dsimp[h,bZ]<;>lia
def Aw(its:ba)(lo hi:bi):slicePick its.toArray lo hi none=((its.drop<|HT.kX its.length 0 lo).take<|HT.kX its.length its.length hi-HT.kX its.length 0 lo).toArray:=by
 obtain⟨h1,h2,h3⟩:=CB lo hi its.toArray.size;unfold slicePick;rw[h1,h2,h3];dsimp[sliceRange_one,pick_run,aZ]<;>rfl
abbrev aae (K:au):V->bi->bi->Hp->VK->Prop:=λx lo hi H Q=>∃a xs,x=.ref a/\lT K H a xs/\∀p,H p=none->Q (.ref p) (upd H p<|.lst<|EI xs lo hi)
def Jm:WH X (aae X.K):=by
 intro pins s σ H x v p z lo hi k Q I rx hs pl g h;obtain⟨a,xs,rfl,j,q⟩:=h
 cases rx
 obtain⟨its,r,f,hz⟩:=I.list j;have d:=r.length;refine⟨"list",_,slot_list_getitem.lookup,f.isList.typeIs,?_⟩;refine wpAny_getItem_list_slice f.isList hs pl g .none (by simp) ?_ (by rw[aZ]<;>lia);rw[Aw,<- d];refine⟨.ref s.heap.objs.size,_,I.laid (t':=s.toks) (o:=.lst<|EI xs lo hi) (λb m q=>aT _ q) (aQ _) ?_,rfl,q _<|I.hok.fresh<|aQ _⟩;exact⟨bP (xX xs lo hi) hz,_,0,(r.drop<|HT.kX xs.length 0 lo).take<|HT.kX xs.length xs.length hi-HT.kX xs.length 0 lo,bG _ rfl⟩
def sQ:jo X (.type "list") (λxs H Q=>∃p ys,xs=[.ref p]/\(lT X.K H p ys\/nG X.K H p ys)/\∀l,H l=none->Q (.ref l) (upd H l<|.lst ys)):=by
 w_up;obtain⟨p,ys,rfl,hq,q⟩:=h;kj_on
 cases rx
 have fin:∀(its:ba),Vals ys its->ys.length<=sizeLine->∀(h':aq) (f:Nat),(∀b o',s.heap.get? b=some o'->h'.get? b=some o') ->
   h'.get? s.heap.objs.size=some { cls:=.type "list",dict:=none,data:=.seq its.toArray f,slots:=#[]}->EP X pins σ Q (.ref s.heap.objs.size) { s with heap:=h' }:=λits d hz h' f kp e=>
  ⟨.ref s.heap.objs.size,_,I.laid (t':=s.toks) kp (aQ _)<|show jW X.prog X.w _ h' _ (.lst ys)from⟨hz,its,f,d,e⟩,rfl,q _<|I.hok.fresh<|aQ _⟩
 rcases hq with hq|hq
 ·obtain⟨its,d,pl,hz⟩:=I.list hq;have g:=d.length;obtain⟨o,k,hc,n,j⟩:=pl.isList;exact call_list_seq p (.inl rfl) k hc j (λh' f kp e=>fin its d hz h' f kp e) (by dsimp[aZ]<;>lia)
 ·obtain⟨its,d,pl,hz⟩:=I.tuple hq;have g:=d.length;obtain⟨o,k,hc,n,j⟩:=pl;exact call_list_seq p (.inr rfl) k hc j (λh' f kp e=>fin its d hz h' f kp e)<|by dsimp[aZ]<;>lia
def qA:jo X (.type "tuple") (λxs H Q=>∃p ys,xs=[.ref p]/\((lT X.K H p ys/\∀l,H l=none->Q (.ref l) (upd H l<|.tup ys))\/(nG X.K H p ys/\Q (.ref p) H))):=by
 w_up;obtain⟨p,ys,rfl,h⟩:=h;kj_on
 cases rx
 rcases h with⟨hq,q⟩|⟨hq,q⟩
 ·obtain⟨its,d,pl,hz⟩:=I.list hq;have f:=d.length;refine call_tuple_list pl.isList (λh' kp=>?_) (by dsimp[aZ]<;>lia);have g:Inv X pins σ H { s with heap:=h' }:=I.kept (t':=s.toks) kp;have j:Inv X pins σ (upd H h'.objs.size<|.tup ys) { s with heap:=h'.push { cls:=.type "tuple",data:=.seq its.toArray }}:=
   g.laid (t':=s.toks) (λb o e=>aT _ e) (aQ _) (show jW X.prog X.w _ _ _ (.tup ys)from⟨hz,its,d,nM.new _ _⟩)
  exact⟨.ref h'.objs.size,_,j,rfl,q _<|g.hok.fresh<|aQ _⟩
 ·obtain⟨its,d,pl,hz⟩:=I.tuple hq;exact call_tuple_same pl ⟨.ref p,H,I,rfl,q⟩
abbrev YU (K:au)(T:String)(x:V)(H:Hp):Prop:=match x with
 | .str _=>T = "str"
 | .int _=>T = "int"
 | .ref p=>(T = "list" /\ ∃xs,lT K H p xs)\/(T = "tuple" /\ ∃o,K.lookup p=some o/\o.cls=.type "tuple" /\ o.dict=none) \/
   (T = "dict" /\ ((∃d,H p=some (.dK d))\/∃d,H p=some (.dT d)))\/(T = "set" /\ ∃S n,H p=some (.set S n))
 | _=>False
def Vg{H:Hp}{s:aC}{x:V}{v:af}(I:Inv X pins σ H s)(r:RelV x v)(ty:YU X.K T x H) :
  s.TypeIs v T/\∀a,v=.ref a->∃ob,s.heap.get? a=some ob/\ob.dict=none:=by
 cases x with
 | str z=>
  obtain⟨t,rfl⟩:=r
  cases(show T = "str" from ty)
  exact⟨typeIs_str s z t,nofun⟩
 | int i=>
  obtain⟨t,rfl⟩:=r
  cases(show T = "int" from ty)
  exact⟨typeIs_int s i t,nofun⟩
 | ref p=>
  cases r
  rcases ty with⟨rfl,xs,hq⟩|⟨rfl,o,d,hc,g⟩|⟨rfl,d⟩|⟨rfl,S,n,d⟩
  ·obtain⟨its,_,pl,_⟩:=I.list hq;refine⟨pl.isList.typeIs,λa e=>?_⟩
   cases e
   obtain⟨o,n,e,c,g,_⟩:=pl;exact⟨o,e,g⟩
  ·refine⟨⟨o,I.C4 p o d,hc⟩,λa e=>?_⟩
   cases e
   exact⟨o,I.C4 _ o d,g⟩
  ·have z:∃o,s.heap.get? p=some o/\o.ExactDict:=by
    rcases d with⟨f,d⟩|⟨f,d⟩
    ·obtain⟨_,_,_,_,o,_,_,e,ex,_⟩:=I.hok p _ d;exact⟨o,e,ex⟩
    ·obtain⟨_,_,_,_,o,_,_,e,ex,_⟩:=I.hok p _ d;exact⟨o,e,ex⟩
   obtain⟨o,e,ex⟩:=z;refine⟨⟨o,e,ex.1⟩,λa e2=>?_⟩
   cases e2
   exact⟨o,e,ex.2.1⟩
  ·obtain⟨o,_,_,_,e,ex,_⟩:=I.hok p _ d;refine⟨⟨o,e,ex.1⟩,λa e2=>?_⟩
   cases e2
   exact⟨o,e,ex.2.1⟩
 | _=>exact False.elim ty
abbrev tBM (K:au)(T:String)(r:V->List V->Hp->VK->Prop)(to:TE)(t:TA):TE:=λσ H Q=>to σ H λx H1=>YU K T x H1/\t σ H1 λxs H2=>r x xs H2 Q
variable {o e:aE}{es:List aE}{to:TE}{t:TA}{name:Str}{apos cpos:Pos}{T id:String}{r:V->List V->Hp->VK->Prop}
def SJ(pa:PlainAttrs T)(slot:Slot T name id)(hty:typeOf (.builtin id)=pure (.type "method_descriptor"))(hm:WL X id r)(ho:PE X o to)(ha:PA X (e::es) t)
  (hbase:attributeBase o name X.env (eval o X.env)=eval o X.env:=by rfl)
  (hfew:((backTo cpos<|starEach (e::es) X.env).all (λx=>!x.1) && (backToKw cpos<|keywordEach [] X.env).all (λx=>x.1.isSome)
   && decide ((e::es).length+([]:List Keyword).length+(if ([]:List Keyword).isEmpty then 0 else 1)<30))=true:=by rfl)
  (hline:(apos.endLine == cpos.line)=true:=by rfl) (hs:starEach (e::es) X.env=(false,eval e X.env)::starEach es X.env:=by rfl) (hplain:(backTo cpos<|starEach es X.env).any (·.1)=false:=by rfl) :
  PE X (.Call (.Attribute o name apos) (e::es) [] cpos) (tBM X.K T r to t):=by
 kt_k;refine wpAny_Call_method_late hbase hfew hline rfl<|kj (ho pins s σ H _ I h) λv g ⟨x,H1,f,r1,ty,j⟩=>?_;obtain⟨h1,h2⟩:=Vg f r1 ty;refine⟨T,id,pa,slot,hty,h1,h2,?_⟩;have d:=ha cpos pins g σ H1 _ f j;rw[hs]at d ⊢;refine Calls.callWith_builtin (by show(false || (backTo cpos<|starEach es X.env).any (·.1))=false;rw[hplain]<;>rfl)<|Calls.evalArgs_plain ?_;exact kj d λus k ⟨vs,H2,m,r2,p⟩=>hm pins k σ H2 x vs v us Q m r1 r2 p
end
abbrev MtM (X:Cx)(id:String)(r:V->List V->Hp->VK->Prop):Prop:=
 ∀(pins:bo) (s:aC) (σ:St) (H:Hp) (x:V) (xs:List V) (v:af) (us:ba) (Q:VK),Inv X pins σ H s->RelV x v->Vals xs us->r x xs H Q ->
  wpAny (model X.prog X.w) X.A (call (.builtin id) (v::us)) (EP X pins σ Q) X.xe s
def Vals.one:∀{x:V}{us:ba},Vals [x] us->∃u,us=[u]/\RelV x u
 | _,_,.cons r .nil=>⟨_,rfl,r⟩
theorem Vals.eraseIdx:∀{xs:List V}{us:ba}(i:Nat),Vals xs us->Vals (xs.eraseIdx i) (us.eraseIdx i)
 | _,_,_,.nil=>.nil
 | _,_,0,.cons _ t=>t
 | _,_,i+1,.cons r t=>.cons r<|Vals.eraseIdx i t
theorem Vals.rep(h:Vals xs us):∀k:Nat,Vals (List.replicate k xs).flatten (List.replicate k us).flatten
 | 0=>.nil
 | k+1=>by
  rw[c6,c6,dH,dH];exact Vals.append h<|Vals.rep h k
theorem Bt{α:Type}:∀(l:List α) (i:Nat),(l.eraseIdx i).length<=l.length
 | [],_=>aQ _
 | _::_,0=>Nat.le_succ _
 | _::r,i+1=>Nat.succ_le_succ<|Bt r i
theorem foldl_rep(its:ba):∀(k:Nat) (acc:ba),
  List.foldl (λx1 x2=>x1++x2) acc.toArray (List.replicate k its.toArray)=(acc++(List.replicate k its).flatten).toArray
 | 0,acc=>by simp
 | k+1,acc=>by
  have e:acc.toArray++its.toArray=(acc++its).toArray:=by simp
  have e2:(acc++its)++(List.replicate k its).flatten=acc++(List.replicate (k+1) its).flatten:=by
   rw[c6,dH,bD]
  rw[<- e2,<- foldl_rep its k (acc++its),<- e,c6,d8]
section
variable {X:Cx}{pins:bo}{σ:St}{H:Hp}{s:aC}{l:ak}{xs ys:List V}
def Inv.Yg{its its':ba}{n:Nat}{f:Array af->Array af}{t':Nat}(I:Inv X pins σ H s)(hH:H l=some (.lst xs))
  (e:s.heap.get? l=some { cls:=.type "list",data:=.seq its.toArray n }) (hf:f its.toArray=its'.toArray) (hv:Vals ys its') (hz:ys.length<=sizeLine) :
  Inv X pins σ (upd H l<|.lst ys) { s with heap:=s.heap.update l<|Obj.mapSeq f,toks:=t' }:=by
 have q:=PySem.IsL.update e f;rw[hf]at q;refine I.write (x:=l) (e:=l) (by rw[hH];exact trivial) (.inl rfl) (λj u d g=>(Heap.get?_update_other s.heap (Obj.mapSeq f)<|cP d).trans g) ⟨_,q⟩ ?_;exact⟨hz,its',_,hv,q⟩
def Inv.RP{its:ba}{t':Nat}(I:Inv X pins σ H s)(hv:Vals ys its)(hz:ys.length<=sizeLine) :
  Inv X pins σ (upd H s.heap.objs.size<|.lst ys) { s with heap:=s.heap.push { cls:=.type "list",data:=.seq its.toArray },toks:=t' }:=
 I.laid (λ_ _ q=>aT _ q) (aQ _) ⟨hz,its,0,hv,bG _ rfl⟩
def Inv.fresh(I:Inv X pins σ H s):H s.heap.objs.size=none:=I.hok.fresh<|aQ _
def Inv.M7(I:Inv X pins σ H s)(hH:H l=some (.lst xs)):xs.length<=sizeLine/\∃(its:ba) (n:Nat),Vals xs its/\xs.length=its.length/\s.heap.get? l=some { cls:=.type "list",data:=.seq its.toArray n }:=by
 obtain⟨z,its,n,r,e⟩:=I.hok l _ hH;exact⟨z,its,n,r,r.length,e⟩
def LF{n:Nat}(h:n<=sizeLine):Builtin.List.listTooLong n=false:=by
 unfold Builtin.List.listTooLong;exact aS ()
end
section
variable {X:Cx}
abbrev Q9:V->List V->Hp->VK->Prop:=λx vs H Q=>∃l xs y,x=.ref l/\vs=[y]/\H l=some (.lst xs)/\xs.length<sizeLine/\Q .non (upd H l<|.lst<|xs++[y])
def wX:MtM X "list.append" Q9:=by
 intro pins s σ H x vs v us Q I rx rv h;obtain⟨l,xs,y,rfl,rfl,d,hz,q⟩:=h
 cases rx
 obtain⟨u,rfl,f⟩:=rv.one;obtain⟨z,its,n,r,g,e⟩:=I.M7 d;refine iz F.slot_list_append ⟨_,e,rfl⟩ F.entry_list_append (F.args_list_append_2 _ _) (PySem.list_append l its.toArray n u<|by rw[aZ];lia) ⟨e,?_⟩;refine⟨.non,_,I.Yg (its':=its++[u]) d e (by simp) (r.append<|.cons f .nil) ?_,rfl,q⟩;rw[aY,List.length_singleton]
 lia
abbrev Ww:V->List V->Hp->VK->Prop:=λx vs H Q=>∃l xs i k y,x=.ref l/\vs=[.int i]/\H l=some (.lst xs)/\-(2 ^ 63)<=i/\i<2 ^ 63/\seqIndex? i xs.length=some k/\xs[k]?=some y/\Q y (upd H l<|.lst<|xs.eraseIdx k)
def N2:MtM X "list.pop" Ww:=by
 intro pins s σ H x vs v us Q I rx rv h;obtain⟨l,xs,i,k,y,rfl,rfl,f,h1,h2,m,hy,q⟩:=h
 cases rx
 obtain⟨u,rfl,j⟩:=rv.one;obtain⟨t,rfl⟩:=j;obtain⟨z,its,n,r,g,e⟩:=I.M7 f;obtain⟨w,hw,d⟩:=r.get hy;refine iz F.slot_list_pop ⟨_,e,rfl⟩ F.entry_list_pop (F.args_list_pop_2 _ _)
  (MeetsSeq.list_pop_at l its.toArray n i t k w (fitsIndex_both h1 h2) (by rw[aZ,<- g];exact m) (by rw[<- fu];exact hw)<|by rw[aZ];lia) ⟨e,?_⟩
 refine⟨y,_,I.Yg (its':=its.eraseIdx k) f e ?_ (r.eraseIdx k) ?_,d,q⟩
 ·skip
  rw[gw]
 ·have:=Bt xs k
  lia
abbrev Zh:R2:=λx y H Q=>∃l b xs zs,x=.ref l/\y=.ref b/\H l=some (.lst xs)/\H b=some (.lst zs)/\xs.length+zs.length<=sizeLine/\∀p,H p=none->Q (.ref p) (upd H p<|.lst<|xs++zs)
def Uj:nj X (binaryOp .Add) Zh:=by
 gp_on;obtain⟨l,b,xs,zs,rfl,rfl,f,j,hz,q⟩:=h
 cases rx
 cases ry
 obtain⟨z,its,n,r,m,e⟩:=I.M7 f;obtain⟨B,d,p,r2,k,e2⟩:=I.M7 j;refine PySem.P.add_list e e2 ?_ (by rw[aZ,aZ];lia);have g:its.toArray++d.toArray=(its++d).toArray:=by simp
 rw[g];exact⟨.ref _,_,I.RP (t':=s.toks) (r.append r2)<|by rw[aY];lia,rfl,q _ I.fresh⟩
abbrev Zx:R2:=λx y H Q=>∃l k xs,x=.ref l/\y=.int k/\H l=some (.lst xs)/\-(2 ^ 63)<=k/\k<2 ^ 63/\xs.length * k.toNat<=sizeLine /\
 ∀p,H p=none->Q (.ref p) (upd H p<|.lst (List.replicate k.toNat xs).flatten)
def len_rep{α:Type}(xs:List α)(k:Nat):(List.replicate k xs).flatten.length=k * xs.length:=by
 induction k with
 | zero=>simp
 | succ k d=>rw[c6,dH,aY,d,f_,Nat.add_comm]
def WB:nj X (binaryOp .Mult) Zx:=by
 gp_on;obtain⟨l,k,xs,rfl,rfl,J,h1,h2,hz,q⟩:=h
 cases rx
 obtain⟨t,rfl⟩:=ry;obtain⟨z,its,n,r,G,e⟩:=I.M7 J;have f:its.toArray.size * k.toNat<=sizeLine:=by rw[aZ,<- G];exact hz
 have j:¬its.toArray.size * k.toNat>(2 ^ 63-1) / 8:=by
  have:(sizeLine:Nat)<=(2 ^ 63-1) / 8:=by decide
  omega
 have p:¬(!Builtin.List.listFitsIndex k)=true:=by
  rw[fitsIndex_both h1 h2];exact bK
 have d:¬Builtin.List.listTooLong (its.toArray.size * k.toNat)=true:=by
  rw[LF f];exact bK
 have g:List.foldl (λB C=>B++C) #[] (List.replicate (if its.toArray.isEmpty=true then 0 else k.toNat) its.toArray)=(List.replicate k.toNat its).flatten.toArray:=by
  have f0:∀m:Nat,List.foldl (λB C=>B++C) #[] (List.replicate m its.toArray)=(List.replicate m its).flatten.toArray:=λm=>by
   have:=foldl_rep its m [];rw[List.nil_append]at this;exact this
  rw[f0]
  cases its with
  | nil=>simp
  | cons a K=>rw[aK<|by simp]
 refine wpAny_binaryOp_repeat_ref (T := "list") (U := "int") ⋯ ⟨_,e,rfl⟩ (λs'=>typeIs_int s' k t) noFill_list_mul F.fills_int_mul F.slot_int_rmul repeat_list F.slot_int_index.lookup
  (iz F.slot_int_rmul (typeIs_int s k t) F.entry_int_rmul (F.args_int_rmul_2 _ _) (int___rmul___int_list k t l its.toArray n)
   ⟨e,rfl,⟨_,e,rfl⟩,iz F.slot_list_mul ⟨_,e,rfl⟩ F.entry_list_mul (F.args_list_mul_2 _ _) (AutoListH.list___mul___list_int_3 l its.toArray n k t p j d) ⟨e,?_⟩⟩)
 rw[g];exact⟨.ref _,_,I.RP (t':=s.toks) (r.rep k.toNat)<|by rw[len_rep,iA];exact hz,rfl,q _ I.fresh⟩
end
end L2
namespace Att
open PySem PySem.W PySem.Calls PyProof.Rows
def ye{P:Params}:∀(ns:ag) (vs:ba),WellAll P h vs (ns.map WData.int)->IntsAre vs ns:=by
 intro ns
 induction ns with
 | nil=>
  intro vs w;rw[iy]at w
  cases w
  exact .nil
 | cons n ns d=>
  intro vs w;rw[bM]at w
  cases w with
  | cons a b=>
   cases a
   exact .cons _ _<|d _ b
def JI{l:OpenLaw}{n:Nat}(hn:l.most=some n){P:Params}{h:aq}
  (hpre:l.row.toRowW.claim.pre args=true) (hwl:WellAll P h vals args) :
  ∃a vs ns,vals=[Value.ref a]/\args=[WData.list<|ns.map WData.int]/\h.get? a=some { cls:=.type "list",data:=.seq vs.toArray }/\IntsAre vs ns/\ns.length<=n:=by
 have m:WShape.hasAll [] args [.list .int]=true:=(pre_splitW hpre).1;have hc:l.pre.holds [] { args:=args }=true:=(pre_splitW hpre).2;obtain⟨d,r,rfl,h1,h2⟩:=hasAllW_cons m;obtain rfl:=hasAllW_nil h2;obtain⟨xs,rfl,h3⟩:=hasW_list h1;obtain⟨ns,rfl⟩:=items_int h3;have f:ns.length<=n:=by
  unfold OpenLaw.pre at hc;have j:(WTm.not<|.lt (.lit<|.int (n:Int))<|.len<|.arg 0).holds [] { args:=[.list<|ns.map .int]}=true:=by
   have j:=(holds_andW hc).1;rw[hn]at j;exact j
  have k:=condW_of j<|w_not<|w_lt w_lit<|w_len_list<|w_arg rfl;rw[aH]at k;refine Nat.le_of_not_lt λq=>?_;have C:(n:Int)<((ns.length:Nat):Int):=by omega
  first
   | (rw[aP C]at k;exact absurd k ⋯)
   | (simp at k;omega)
 cases hwl with
 | cons p B=>
  cases B
  cases p with
  | list z g=>exact⟨_,_,ns,rfl,rfl,z,ye ns _ g,f⟩
def Ks(l:OpenLaw)(args:List WData):l.row.toRowW.claim.post args (.bool true) args=true:=
 postW_of (r:=l.row.toRowW) (X:=(true == true))
  (show WShape.has [] (.bool true) .bool=true by first|rfl|decide|simp[WShape.has,WShape.arms,WShape.armsAll])
  (show(WTm.eq .res<|.lit<|.bool true).value [] { args:=args,res:=some<|.bool true,after:=args }=some (.bool<|true == true)from w_eq_bool (w_res rfl) w_lit) rfl
def Dp{l:OpenLaw}{n:Nat}{q:aj}{XP:(Str->bd)->aq->Prop}{YP:ah->aq->Prop}{d:DefRec}
  (hn:l.most=some n) (hdf:d.params.defaults=[])
  (call:∀(w:ah) (s₀ s₁:aC) (mg mb:Str->bd) (fa:ak) (o:Obj) (pm cd doc:af) (a:ak) (vs:ba) (ns:ag),
   Ground q loose [] XP w s₀ mg mb s₁.heap->YP w s₁.heap ->
   s₁.heap.get? fa=some o->o.data=.func (docDef d.name d.params d.body d.scope pm cd doc)->s₁.heap.CodeRec cd d.name->mg d.name=some (.ref fa) ->
   s₁.heap.get? a=some { cls:=.type "list",data:=.seq vs.toArray }->IntsAre vs ns->ns.length<=n->s₁.gens=#[] ->
   codeAny (model l.prog w) callerA (.call (.ref fa) ⟨[.ref a],[]⟩) (λr s'=>r=.ok (.ret<|.bool true)/\OldK s₁.heap s'.heap/\s'.os=s₁.os/\AllBare s'.gens) s₁) :
  WalkO q loose XP YP l.row.toRowW d [] (λf vs=>PySem.call f vs):=by
 intro w s₀ s₁ mg mb G Y fa o pm cd doc T kV P M p J z hg C F V k K N B U;obtain rfl:T=.none:=Dflts.none J hdf;obtain rfl:kV=.none:=Dflts.noKw J;obtain⟨a,vs,ns,rfl,rfl,m,g,j⟩:=JI hn k B;refine enter_call<|gU (call w s₀ s₁ mg mb fa o pm cd doc a vs ns G Y P (fd_plain M) p z m g j hg) λr s' hq=>?_;obtain⟨rfl,h2,h3,O⟩:=hq;exact⟨.inl ⟨.bool true,.bool true,[],rfl,λ_=>rfl,.bool true,Ks l _,λ_=>⟨List.Pairwise.nil,λ_ L=>(nomatch L)⟩⟩,h2,h3,O⟩
end Att
namespace L2
open PySem PySem.Spec PyProof.Rows
theorem xM:∀{vs:ba}{ns:ag},IntsAre vs ns->Vals (ns.map V.int) vs
 | _,_,.nil=>.nil
 | _,_,.cons n t h=>.cons ⟨t,rfl⟩<|xM h
abbrev RJ (H:Hp):Prop:=∀b,H b=none\/∃o xs,H b=some (.frz o<|.lst xs)
def LR{P:aj}{w:ah}{K:au}{mg mb:Str->bd}{CX:PV}{k:Nat}{fa a:ak}{x:Str}{sp:Sp}{s₁:aC}{vs:ba}{ns:ag}
  (KX:K.In s₁.heap) (hns:s₁.heap.Ns mainGlobals mg) (hb:s₁.heap.Ns builtinsNs mb) (hbb:∀x:Str,x ≠ "__name__" -> mb x=bootBuiltins x) (hlim:s₁.heap.NoLimit) (hg:s₁.gens=#[])
  (ha:s₁.heap.get? a=some { cls:=.type "list",data:=.seq vs.toArray }) (hi:IntsAre vs ns) (hl:ns.length<=sizeLine) (hr:Room k callerA)
  (F:∀base:aq,K.In base->base.Ns mainGlobals mg->FnOk P w K mg base CX k fa fd [x] sp) (hbind:∀(s:aC) (u:af),BindsTo s fd ⟨[u],[]⟩ [(x,u)])
  (hsp:∀H:Hp,RJ H->lT K H a (ns.map V.int)->sp [.ref a] H (λv _=>v=.bl true) λ_ _ _=>False)
  (hCX:∀H e s',CX [] H s₁ (λ_ _ _=>False) e s'->False) :
  codeAny (model P w) callerA (.call (.ref fa) ⟨[.ref a],[]⟩) (λr s'=>r=.ok (.ret<|.bool true)/\OldK s₁.heap s'.heap/\s'.os=s₁.os/\AllBare s'.gens) s₁:=by
 have rv:=xM hi;have C:=hi.length;have j:∀H:Hp,RJ H->lT K H a (ns.map V.int)->vO P w H s₁.heap->(∀b,H b≠none->b=a)->(H a≠none->K.lookup a=none) ->
   codeAny (model P w) callerA (.call (.ref fa) ⟨[.ref a],[]⟩) (λr s'=>r=.ok (.ret<|.bool true)/\OldK s₁.heap s'.heap/\s'.os=s₁.os/\AllBare s'.gens) s₁:=by
  intro H U hS L W hK;have f:∀{b:ak} {o:Obj},s₁.heap.get? b=some o->H b=none->(CM s₁.heap H).get? b=some o:=λe n=>OX e n;have N:∀{b:ak} {o:Obj} {es:Array DictEntry} {J:Nat},s₁.heap.get? b=some o->o.data=.dict es J->H b=none:=λ{b o es J} e d=>by
   cases q:H b with
   | none=>rfl
   | some u=>
    have O:b=a:=W b (by rw[q];simp);subst O;rw[ha]at e;cases e;have d':Data.seq vs.toArray _=Data.dict es J:=d
    cases d'
  have g:∀{b:ak} {m:Str->bd},s₁.heap.Ns b m->(CM s₁.heap H).Ns b m:=λ{b m} ⟨o,es,J,e,d,r⟩=>⟨o,es,J,f e<|N e d,d,r⟩;have p:K.In (CM s₁.heap H):=λb o e=>f (KX b o e) (by
   cases q:H b with
   | none=>rfl
   | some u=>
    have O:b=a:=W b (by rw[q];simp);subst O;rw[hK<|by rw[q];simp]at e;cases e)
  have hM:Mod K mg (CM s₁.heap H):=⟨p,g hns,⟨mb,g hb,hbb⟩,let⟨mc,h1,h2⟩:=hlim;⟨mc,g h1,h2⟩⟩;have e0:Env0 P w K mg (CM s₁.heap H) callerA [] s₁ H:=⟨rfl,hM,λb o e=>QO e,le_of_eq<|KG _ _,trivial,λb hb=>absurd (show b∈([]:bb)from hb)<|by simp,L,.of_eq hg⟩;refine gU ((F _ p<|g hns).run callerA [] s₁ H ⟨[.ref a],[]⟩ [.ref a] [.ref a] _ _ hr e0 (hbind s₁<|.ref a) (.cons rfl .nil)<|hsp H U hS) λr s' h=>?_
  cases r with
  | error e=>exact(hCX H e s' h).elim
  | ok fl=>
   cases fl with
   | next=>exact False.elim h
   | brk=>exact False.elim h
   | cont=>exact False.elim h
   | ret u=>
    obtain⟨v,H',os,M,un,G,Y,q⟩:=h;have q':v=.bl true:=q;subst q';obtain rfl:u=Value.bool true:=Y;refine⟨rfl,OldK.of_keep λb o e=>?_,os,M⟩
    cases q:H b with
    | none=>exact un.keep b o e q (by intro z;exact absurd (show b∈([]:bb)from z)<|by simp) (by simp)
    | some u=>
     rcases U b with z|⟨Z,xs,z⟩
     ·rw[q]at z;cases z
     ·have z2:=un.frzs b Z _ z;obtain⟨e1,_⟩:=L b _ z;obtain⟨e2,_⟩:=G b _ z2;rw[e]at e1;cases e1;exact e2
 cases T:K.lookup a with
 | some o=>
  have e:=KX a o T;rw[ha]at e
  cases e
  refine j (λ_=>none) (λ_=>.inl rfl) (.inr ⟨_,vs.toArray,_,T,rfl,rfl,rfl,by rw[aZ,C];exact hl,by simpa using rv⟩) (λb u z=>by have B:(none:Option HO)=some u:=z;cases B) (λb z=>absurd rfl z) λz=>absurd rfl z
 | none=>
  refine j (λb=>if b=a then some (.frz { cls:=.type "list",data:=.seq vs.toArray } (.lst<|ns.map V.int))else none) (λb=>?_) (.inl<|.inr ⟨{ cls:=.type "list",data:=.seq vs.toArray },aL rfl⟩) (λb u z=>?_) (λb z=>?_) λ_=>T
  ·by_cases hb:b=a
   ·exact .inr ⟨_,_,aL hb⟩
   ·exact .inl<|aK hb
  ·by_cases hb:b=a
   ·have B:=(aL hb).symm.trans z
    cases B
    subst hb;exact⟨ha,by rw[aH];exact hl,vs,_,rv,ha⟩
   ·have B:=(aK hb).symm.trans z
    cases B
  ·by_cases hb:b=a
   ·exact hb
   ·exact absurd (aK hb) z
def Q3{l:PySem.W.OpenLaw}{n k:Nat}{q:aj}{XP:(Str->bd)->aq->Prop}{YP:ah->aq->Prop}{d:DefRec}{K:Params->au}{CX:ah->PV}{sp:ah->Sp}{x:Str}
  (hn:l.most=some n) (hn2:n<=sizeLine) (hdf:d.params.defaults=[]) (hr:Room k callerA)
  (hY:∀(w:ah) (h:aq),YP w h->(K w.params).In h)
  (F:∀(w:ah) (mg:Str->bd) (fa:ak) (h:aq),(K w.params).In h->h.Ns mainGlobals mg->mg d.name=some (.ref fa) ->
   ∃fd:FuncData,(∀(s:aC) (u:af),BindsTo s fd ⟨[u],[]⟩ [(x,u)]) /\
    ∀base:aq,(K w.params).In base->base.Ns mainGlobals mg->FnOk l.prog w (K w.params) mg base (CX w) k fa fd [x] (sp w))
  (hsp:∀(w:ah) (H:Hp) (a:ak) (ns:ag),ns.length<=n->RJ H->lT (K w.params) H a (ns.map V.int)->sp w [.ref a] H (λv _=>v=.bl true) λ_ _ _=>False)
  (hCX:∀(w:ah) (H:Hp) (s:aC) (e:af) (s':aC),CX w [] H s (λ_ _ _=>False) e s'->False) :
  PySem.W.WalkO q loose XP YP l.row.toRowW d [] (λf vs=>PySem.call f vs):=by
 refine Att.Dp hn hdf λw J p mg U fa o Z cd O a vs ns G Y ho hd M B z m j hg=>?_;have C:=hY w _ Y;obtain⟨fd,L,P⟩:=F w mg fa _ C G.T.g B;exact LR C G.T.g G.T.b G.T.builtins G.T.nolimit hg z m (bP j hn2) hr P L (λH N hS=>hsp w H a ns j N hS) λH e s'=>hCX w H p e s'
abbrev uO (s:aF):Arguments:=match s with
 | .FunctionDef _ a _ _ _ _ _ _ _ _=>a
 | _=>{ posonlyargs:=[],args:=[],vararg:=none,kwonlyargs:=[],kw_defaults:=[],kwarg:=none,defaults:=[]}
abbrev qm (s:aF):List aF:=match s with
 | .FunctionDef _ _ b _ _ _ _ _ _ _=>b
 | _=>[]
abbrev iY (s:aF):Scope:=match s with
 | .FunctionDef _ _ _ _ _ _ d _ _ _=>d
 | _=>{ kind:=.function,names:=[],isGenerator:=false,isCoroutine:=false }
meta abbrev oW:PV:=λ_ _ _ _ _ _=>False
meta abbrev E0:XK:=λ_ _ _=>False
def X0{X:Cx}:Passes oW X E0:=λ_ _ _ _ _ _ _ h=>h.elim
structure Fun (K:au)(x qual:Str)(st:aF)(f:ak)(fd:FuncData):Prop where
 ex:∃(oc:af) (od:Option ak) (kV doc pm:af) (an:Option ak) (cdv ct:af) (osl:Array<|bd),
  fd=PySem.W.fnOf x qual (uO st) (qm st) (iY st) .none kV doc pm an cdv ct/\K.lookup f=some ⟨oc,od,.func fd,osl⟩/\PySem.W.codeIn K cdv qual=true
 kp:PySem.W.keepIn K (.ref f)=true
section
variable {P:aj}{w:ah}{K:au}{mg:Str->bd}{base:aq}
def Fun.ok{x:Str}{st:aF}{f:ak}{N ps:ar}{k:Nat}{sp:Sp}(F:Fun K x qual st f fd)(S:FnScope N ps<|iY st)(len:∀vs H Q E,sp vs H Q E->vs.length=ps.length)
  (hbody:∀(cdv:af) (A:aA) (outer:List Env) (s:aC) (H:Hp) (vs:List V) (Q:VK) (E:XK),Room k (A.deeper<|envOfC qual (iY st) s.heap.objs.size f cdv)->sp vs H Q E ->
   ∃t,Cc (Fo oW P w K mg base N qual (iY st) f cdv A outer s H E).XM (qm st) t/\t { nx:=λ_ H'=>Q .non H',rt:=Q } (start N vs) H):FnOk P w K mg base oW (k+1) f fd ps sp:=by
 obtain⟨C,J,kV,j,B,G,cdv,ct,z,rfl,p,d⟩:=F.ex;refine Xj p d S len λA outer s H vs Q E m g=>?_;obtain⟨t,h,q⟩:=hbody cdv A outer s H vs Q E m g;exact⟨t,h.XM,q⟩
def Fun.binds{x:Str}{st:aF}{f:ak}{ps:ar}(F:Fun K x qual st f fd)
  (h:∀(kV doc pm:af) (an:Option ak) (cdv ct:af) (us:ba),us.length=ps.length->bindArgs (PySem.W.fnOf x qual (uO st) (qm st) (iY st) .none kV doc pm an cdv ct) ⟨us,[]⟩=pure (ps.zip us)):Binds K fd ps []:=by
 obtain⟨j,m,kV,doc,pm,an,cdv,ct,g,rfl,k,d⟩:=F.ex;exact .all<|h kV doc pm an cdv ct
def Wc{x:Str}{st:aF}{f:ak}{kV pm ct:af}(l:K.lookup f=some ⟨oc,od,.func<|PySem.W.fnOf x qual (uO st) (qm st) (iY st) .none kV doc pm an cdv ct,osl⟩)
  (c:PySem.W.codeIn K cdv qual=true) (k:PySem.W.keepIn K (.ref f)=true):Fun K x qual st f (PySem.W.fnOf x qual (uO st) (qm st) (iY st) .none kV doc pm an cdv ct):=⟨⟨oc,od,kV,doc,pm,an,cdv,ct,osl,rfl,l,c⟩,k⟩
end
section
variable {X:Cx}
def pv(i:Nat){x:Str}(hN:X.N[i]?=some x:=by rfl)(hv:WJ X.env.scope x:=by first|exact Or.inl rfl|exact Or.inr (Or.inl rfl)|exact Or.inr<|Or.inr rfl)(hd:(x == ("__debug__" : Str))=false:=by decide)
  (hcd:(x == ("__classdict__" : Str))=false:=by decide):PE X (.Name x pos) (Yy i):=Lv hN hv hd hcd
end
set_option maxHeartbeats 4000000
abbrev QA (σ:St):bn->Option V
 | some j=>(σ[j]?).getD none
 | none=>none
abbrev uX (env:Env):List (Str×NameKind)->List (Str×ak)->List (Str×ak)
 | [],cs=>cs
 | (n,k)::r,cs=>uX env r (if k == .free then(n,(env.cells.lookup n).getD 0)::cs else cs)
def z7{scope:Scope}{env:Env}(h:∀y∈scope.names,y.2=.free->∃c,env.cells.lookup y.1=some c):closureFor scope env=pure (uX env scope.names []):=by
 have g:∀(l:List<|Str×NameKind) (d:List<|Str×ak),(∀y∈l,y.2=.free->∃c,env.cells.lookup y.1=some c) ->
   (forIn l d (λ(x:Str×NameKind) (r:List<|Str×ak)=>(match x with
    | (name,kind)=>if (kind == NameKind.free)=true then(do let c <- cellOf env name;pure (ForInStep.yield ((name,c)::r)))else pure (ForInStep.yield r):Sem<|ForInStep<|List<|Str×ak)))=(pure (uX env l d):Sem<|List<|Str×ak):=by
  intro l
  induction l with
  | nil=>intro d _;rfl
  | cons y r j=>
   intro d f;obtain⟨n,k⟩:=y;rw[List.forIn_cons];by_cases p:k=.free
   ·subst p;obtain⟨c,hc⟩:=f (n,.free) aM rfl;have e1:cellOf env n=pure c:=by
     unfold cellOf;rw[hc]
    dsimp[bI,cN,e1,pure_bind];rw[j _ λz hz=>f z<|aO _ hz];dsimp[uX,bI,cN,hc,dQ]
   ·have m:(k == NameKind.free)=false:=by simpa using p
    dsimp[m,bu,bZ,pure_bind];rw[j _ λz hz=>f z<|aO _ hz];dsimp[uX,m,bu,bZ]
 have:=g scope.names [] h;exact(dG (λz=>z >>= λd=>(pure d:Sem<|List<|Str×ak)) this).trans (pure_bind _ _)
theorem zf:∀{l:List<|Str×NameKind}{x:Str}{k:NameKind},l.lookup x=some k->(x,k)∈l
 | [],_,_,h=>nomatch h
 | (n,k')::r,x,k,h=>by
  rw[dR]at h
  cases d:x == n with
  | true=>
   rw[d]at h;have e:x=n:=by simpa using d
   subst e
   cases h
   exact aM
  | false=>rw[d]at h;exact aO _<|zf h
theorem Bg{env:Env}{x:Str}{c:ak}:∀{l:List<|Str×NameKind}{cs:List<|Str×ak},(∀y∈l,y.2=.free->∃c,env.cells.lookup y.1=some c)->(uX env l cs).lookup x=some c->env.cells.lookup x=some c\/cs.lookup x=some c
 | [],cs,_,h=>.inr h
 | (n,k)::r,cs,hl,h=>by
  have h':=Bg (l:=r) (λz hz=>hl z<|aO _ hz) h
  rcases h' with h'|h'
  ·exact .inl h'
  ·by_cases f:k=.free
   ·subst f;dsimp[bI,cN]at h';obtain⟨j,hc⟩:=hl (n,.free) aM rfl;rw[hc,dQ,dR]at h'
    cases d:x == n with
    | true=>
     rw[d]at h';have e:x=n:=by simpa using d
     subst e;left;rw[hc];exact h'
    | false=>rw[d]at h';exact .inr h'
   ·have g:(k == NameKind.free)=false:=by simpa using f
    dsimp[g,bu,bZ]at h';exact .inr h'
theorem Bm{env:Env}{x:Str}:∀{l:List<|Str×NameKind}{cs:List<|Str×ak},(cs.lookup x).isSome=true->((uX env l cs).lookup x).isSome=true
 | [],cs,h=>h
 | (n,k)::r,cs,h=>by
  skip
  refine Bm (l:=r) ?_;by_cases d:(k == NameKind.free)=true
  ·rw[aL d,dR]
   cases f:x == n with
   | true=>rfl
   | false=>exact h
  ·rw[aK d];exact h
theorem z0{env:Env}{x:Str}:∀{l:List<|Str×NameKind}{cs:List<|Str×ak},(x,NameKind.free)∈l->((uX env l cs).lookup x).isSome=true
 | [],_,h=>nomatch h
 | (n,k)::r,cs,h=>by
  rcases bE.mp h with e|h
  ·cases e
   skip
   refine Bm (l:=r) ?_;rw[aL<|by rfl,dR];simp
  ·exact z0 (l:=r) h
theorem qB:∀(names:List<|Str×NameKind) (n:Nat) (acc:List<|Str×ak),cellsFrom n names acc=cellsFrom n names []++acc
 | [],_,_=>rfl
 | (x,k)::r,n,acc=>by
  unfold cellsFrom;split
  ·rw[qB r (n+1) ((x,n)::acc),qB r (n+1) [(x,n)],bD];rfl
  ·exact qB r n acc
theorem Fb:∀(names:List<|Str×NameKind) (n:Nat) {x:Str}{c:ak},(x,c)∈cellsFrom n names []->(x,NameKind.cell)∈names
 | [],_,_,_,h=>nomatch h
 | (y,k)::r,n,x,c,h=>by
  unfold cellsFrom at h;split at h
  ·rename_i d;rw[qB]at h
   rcases bF.mp h with z|z
   ·exact aO _ (Fb r _ z)
   ·rw[bA]at z
    cases z
    have:k=.cell:=by simpa using d
    rw[this];exact aM
  ·exact aO _<|Fb r _ h
theorem v8{α:Type}{x:Str}:∀{l m:List<|Str×α},(l++m).lookup x=match l.lookup x with|some c=>some c|none=>m.lookup x
 | [],_=>rfl
 | (y,c)::l,m=>by
  rw[fN,dR,dR]
  cases x == y with
  | true=>rfl
  | false=>exact v8
def Qd{n:Nat}{acc:List<|Str×ak}{x:Str}{c:ak}(h:(cellsFrom n names acc).lookup x=some c):(cellsFrom n names []).lookup x=some c\/((cellsFrom n names []).lookup x=none/\acc.lookup x=some c):=by
 rw[qB,v8]at h
 cases e:(cellsFrom n names []).lookup x with
 | some d=>rw[e]at h;exact .inl h
 | none=>rw[e]at h;exact .inr ⟨rfl,h⟩
def Vb{n:Nat}{acc:List<|Str×ak}{x:Str}(h:(x,NameKind.cell)∉names):(cellsFrom n names acc).lookup x=acc.lookup x:=by
 rw[qB,v8]
 cases e:(cellsFrom n names []).lookup x with
 | some d=>exact absurd (Fb names n<|cT e) h
 | none=>rfl
def GV{A:aA}{E:af->aC->Prop}{s:aC}{scope:Scope}{globals:ak}{cl:List<|Str×ak}{env:Env}{Q:Env->aC->Prop}
  (hQ:∀h':aq,h'.Ns s.heap.objs.size (λ_=>none)->(∀b o,s.heap.get? b=some o->h'.get? b=some o)->CellsOk h' (s.heap.objs.size+1) (cellsFrom (s.heap.objs.size+1) scope.names []) ->
   Q (newEnv scope s.heap.objs.size globals (cellsFrom (s.heap.objs.size+1) scope.names cl) qual none .none (some env) builtinsNs) { s with heap:=h',toks:=s.toks+([]:List<|Str×af).length }) :
  wpAny M A (newFunctionEnv scope globals cl [] qual none .none<|some env) Q E s:=by
 dsimp[newFunctionEnv,gZ,cN];refine aI<|wpAny_alloc ?_;refine aI (wpAny_layCells _ (λname kind cells=>by cases d:kind == NameKind.cell<;>simp[d]) _ _ _ _ ?_);have ok:=cellsFrom_ok scope.names (s.heap.push { cls:=.type "dict",data:=.dict #[]}) (s.heap.objs.size+1) [] ⟨λ_ _ f=>(nomatch f),List.Pairwise.nil⟩ (by rw[eN];exact aQ _);rw[eN]at ok;rw[show({ s with heap:=s.heap.push { cls:=.type "dict",data:=.dict #[]}}:aC).heap.objs.size=s.heap.objs.size+1 from eN ..];rw[List.forIn_nil];refine aI<|aR<|aR ?_;exact hQ _ ((Heap.Ns.new s.heap<|.type "dict").keeps<|pushCells_keeps _ _) (λb o e=>pushCells_keeps _ _ b o<|aT _ e) ok
abbrev j4 (X:Cx)(scope:Scope)(N:ar)(C:ak)(s₀:aC)(H₀:Hp)(ex:bb):Cx where
 prog:=X.prog
 w:=X.w
 K:=X.K
 mg:=X.mg
 base:=X.base
 A:=X.A
 N:=N
 s₀:=s₀
 H₀:=H₀
 env:=compEnvC scope (cellsFrom (C+1) scope.names<|uX X.env scope.names []) C X.env
 outer:=X.stack
 stack:=X.stack
 ex:=ex
 fn:=λx=>scope.names.lookup x == some .cell
 calm:=X.calm
 pn:=[]
 xe:=λ_ _=>False
structure CpScope (X:Cx)(scope:Scope)(N:ar)(cap:List (bn)):Prop where
 kind:scope.kind=.function
 nocf:∀x,(x,NameKind.free)∈scope.names->(x,NameKind.cell)∉scope.names
 nm:∀y∈scope.names,y.2=.local->scope.names.lookup y.1=some .local
 fr:∀y∈scope.names,y.2=.free->X.env.kindOf y.1=some .cell\/X.env.kindOf y.1=some .free
 rl:∀y,((relabel scope X.env).names.lookup y=some .cell\/(relabel scope X.env).names.lookup y=some .free)->(y,NameKind.free)∈scope.names\/scope.names.lookup y=some .cell
 len:cap.length=N.length
 nolf:∀x,(x,NameKind.free)∈scope.names->scope.names.lookup x≠some .local
 cp:∀(i j:Nat) (x:Str),N[i]?=some x->cap[i]?=some (some j)->X.N[j]?=some x/\(x,NameKind.free)∈scope.names
def MD{X:Cx}{scope:Scope}{N:ar}{cap:List<|bn}{H:Hp}{s:aC}{fp:bb}{h₁:aq}{m:Str->bd}{tk:Nat}(S:CpScope X scope N cap)(I:Inv X pins σ H s)
  (hf:∀b∈fp,uB X pins H b) (ho:∀b∈fp,∃o,s.heap.get? b=some o) (hn:h₁.Ns s.heap.objs.size m) (hC:CellsOk h₁ (s.heap.objs.size+1)<|cellsFrom (s.heap.objs.size+1) scope.names []) (hk:∀b o,s.heap.get? b=some o->h₁.get? b=some o) :
  Inv (j4 X scope N s.heap.objs.size s H fp) [] (cap.map<|QA σ) H { s with heap:=h₁,toks:=tk }:=by
 kpf_c;have W:∀x c,(uX X.env scope.names []).lookup x=some c->X.env.cells.lookup x=some c:=λx c e=>by
  rcases Bg hfree e with z|z
  ·exact z
  ·cases z
 have f:∀x c,(cellsFrom (s.heap.objs.size+1) scope.names<|uX X.env scope.names []).lookup x=some c->((x,c)∈cellsFrom (s.heap.objs.size+1) scope.names []/\h₁.IsCell c none/\s.heap.objs.size+1<=c)\/X.env.cells.lookup x=some c:=λx c e=>by
  rcases Qd e with z|z
  ·exact .inl ⟨cT z,hC.empty x c<|cT z⟩
  ·exact .inr<|W x c z.2
 have old:∀x c,X.env.cells.lookup x=some c->c<s.heap.objs.size:=λx c e=>by
  obtain⟨v,z⟩:=I.cell x c e;exact z.lt
 have lt:∀b o,s.heap.get? b=some o->b≠s.heap.objs.size:=λb o e=>bC<|bg e;refine⟨⟨I.ok.mod,?_,I.ok.glob,I.ok.blt,aQ _,?_,?_,?_,I.ok.hd,I.ok.frames,.inl rfl,?_,I.bs,bP I.ok.bsz I.sz,?_,?_,I.stack,I.HX⟩,rfl,I.bare,Un.kept hk,?_,?_,I.hok.fresh<|aQ _,?_,?_,I.hok.kept hk,?_⟩
 ·exact S.kind
 ·intro x y c e1 e2
  rcases f x c e1 with a|a
  ·rcases f y c e2 with b|b
   ·exact name_of_addr hC.apart a.1 b.1
   ·exact absurd (old y c b)<|not_lt.mpr<|eU a.2.2
  ·rcases f y c e2 with b|b
   ·exact absurd (old x c a) (not_lt.mpr<|eU b.2.2)
   ·exact I.ok.inj x y c a b
 ·intro x e;refine eG.mp (eV _ _ _ ?_)
  rcases S.rl x e with B|B
  ·exact .inr (z0 (env:=X.env) (cs:=[]) B)
  ·exact .inl B
 ·intro x c e J;have e:scope.names.lookup x=some .cell:=by
   have e:(scope.names.lookup x == some .cell)=true:=e;simpa using e
  obtain⟨d,hd⟩:=eG.mp<|eV scope.names (s.heap.objs.size+1) []<|.inl e;have J:(cellsFrom (s.heap.objs.size+1) scope.names<|uX X.env scope.names []).lookup x=some c:=J;rw[qB,v8,hd]at J
  cases J
  exact eU (hC.empty x c<|cT hd).2
 ·intro b G;obtain⟨o,e⟩:=ho b G;refine⟨lt b o e,λx c e2=>?_⟩
  rcases f x c e2 with z|z
  ·exact ne_of_gt (iB (bg e) z.2.2)
  ·exact(hf b G).2.2.2.2.1 x c z
 ·intro b o e G;obtain⟨_,_,_,h3,_⟩:=hf b G
  rcases h3 with z|z
  ·exact I.ok.noex b o e z
  ·exact absurd (bQ (bg (I.ok.bs b o e).1) z)<|fh _
 ·intro b G hz;obtain⟨_,h1,h2,_⟩:=hf b G
  rcases bE.mp (I.F6 b hz)with z|z
  ·exact h1 z
  ·exact h2 z
 ·refine⟨m,hn,λi x v e1 e2 e3=>?_⟩;rw[bh]at e2
  cases hc:cap[i]? with
  | none=>rw[hc]at e2;cases e2
  | some oj=>
   rw[hc]at e2
   cases oj with
   | none=>cases e2
   | some j=>
    have q:(σ[j]?).getD none=some v:=aU e2;obtain⟨Z,B⟩:=S.cp i j x e1 hc;obtain⟨m0,hn0,O⟩:=I.loc;have T:σ[j]?=some (some v):=by
     cases h:σ[j]? with
     | none=>rw[h]at q;cases q
     | some z=>rw[h,dQ]at q;rw[q]
    have L:=S.fr (x,.free) B rfl;have hv:WJ X.env.scope x:=.inr L;obtain⟨u,Y,lo⟩:=O j x v Z T hv;refine⟨u,Y,?_⟩
    rcases lo with⟨lo,_⟩|⟨_,c,J,ic⟩
    ·rcases L with z|z<;>(rw[z]at lo;cases lo)
    ·have h2:=z0 (env:=X.env) (cs:=[]) B;obtain⟨P,C⟩:=eG.mp h2;have:P=c:=aU<|(W x P C).symm.trans J;subst this;refine .inr ⟨?_,P,(Vb<|S.nocf x B).trans C,?_⟩
     ·rcases e3 with z|z|z
      ·exfalso;have:(relabel scope X.env).names.lookup x=some .local:=z;have K:scope.names.lookup x=some .local:=by
        have M:∃k,(x,k)∈(relabel scope X.env).names/\k=.local:=by
         clear C h2;have:=zf this;exact⟨_,this,rfl⟩
        obtain⟨k,U,rfl⟩:=M;obtain⟨⟨n',k'⟩,V,g⟩:=bY.mp U;dsimp only at g;split at g
        ·cases g
        ·cases g
         exact S.nm (x,.local) V rfl
       exact False.elim<|S.nolf x B K
      ·exact .inl z
      ·exact .inr z
     ·obtain⟨o,F,hd⟩:=ic;exact⟨o,hk _ _ F,hd⟩
 ·intro x c e
  rcases f x c e with z|z
  ·exact⟨_,z.2.1⟩
  ·obtain⟨v,o,F,hd⟩:=I.cell x c z;exact⟨v,o,hk _ _ F,hd⟩
 ·intro x c e
  rcases f x c e with z|z
  ·exact I.hok.fresh (eU z.2.2)
  ·exact I.freeC x c z
 ·intro p hp
  cases hp
 ·rw[aH,S.len];rfl
abbrev PR (X:Cx)(ifs:List aE)(t:TT):Prop:=
 ∀(pins:bo) (s:aC) (σ:St) (H:Hp) (Q:Bool->Hp->Prop),Inv X pins σ H s->t σ H Q ->
  wpAny (model X.prog X.w) X.A (forIn ifs true λc r=>if r=true then do let ok <- isTrue c X.env (eval c X.env);pure (ForInStep.yield ok)else pure (ForInStep.yield r)) (TP X pins σ Q) X.xe s
abbrev aac:TT:=λ_ H Q=>Q true H
def Ro{X:Cx}:PR X [] aac:=λ_ _ _ H _ I h=>wpAny_tests_nil ⟨H,I,h⟩
def Rv{X:Cx}{c:aE}{t:TT}(h:PT X c t):PR X [c] t:=λpins s σ H Q I q=>wpAny_tests_one<|h pins s σ H Q I q
abbrev Uz (cap:List<|bn)(g:TG)(tc:TT)(te:TE)(σ:St)(Q:VK)(J:It)(H1:Hp):Prop:=∀D,H1 D=none ->
 ∃W:Nat->Nat->St->Hp->Prop,(∃m,W 0 m (cap.map<|QA σ)<|upd H1 D<|.lst [])/\∀i m j H',W i m j H' ->
  (J.stop i H'/\Q (.ref D) H')\/(J.go i H'/\∀x H2,J.yld i H' x H2->g x j H2 λd H3=>tc d H3 λb p=>
   if b=true then te d p λy k=>∃ys,k D=some (.lst ys)/\ys.length<sizeLine/\∃f,f<m/\W (i+1) f d (upd k D<|.lst<|ys++[y])
   else ∃f,f<m/\W (i+1) f d p)
abbrev Xs (cap:List<|bn)(wi:TI)(g:TG)(tc:TT)(te:TE):TE:=λσ H Q=>wi σ H<|Uz cap g tc te σ Q
def CK{α:Type}{t:Sem α}{Q Q':α->aC->Prop}{A:aA}{E:af->aC->Prop}(h:wpAny M A t Q (λ_ _=>False) s)(hQ:∀a s,Q a s->Q' a s):wpAny M A t Q' E s:=
 fH h hQ λ_ _ f=>f.elim
structure TurnG (ok:Cx->Prop)(P:aj)(w:ah)(K:au)(tg:aE)(J:It)(fp:bb)(it:ak)(tn:Nat->aq->Prop):Prop where
 obj:∀i h,tn i h->∀b∈fp,∃o,h.get? b=some o/\∀v,o.data≠.cell v
 keep:∀i h h',tn i h->(∀b∈fp,∀o,h.get? b=some o->h'.get? b=some o)->tn i h'
 item:∀(X:Cx),X.prog=P->X.w=w->X.K=K->ok X->∀(i:Nat) (pins:bo) (s:aC) (σ:St) (H:Hp) (E:af->aC->Prop),Inv X pins σ H s->(∀b∈fp,uB X pins H b)->tn i s.heap->J.go i H ->
  wpAny (model P w) X.A (pyNext<|.ref it) (λr s1=>∃u,r=some u /\
   wpAny (model P w) X.A (letOwnedTupleGo tg (.ref it) u) (λ_ s2=>∃x H',Inv X pins σ H' s2/\RelV x u/\J.yld i H x H'/\tn (i+1) s2.heap/\∀b∈fp,H' b=none) E s1) E s
 done:∀(X:Cx),X.prog=P->X.w=w->X.K=K->ok X->∀(i:Nat) (pins:bo) (s:aC) (σ:St) (H:Hp) (E:af->aC->Prop),Inv X pins σ H s->(∀b∈fp,uB X pins H b)->tn i s.heap->J.stop i H ->
  wpAny (model P w) X.A (pyNext<|.ref it) (λr s1=>r=none/\Inv X pins σ H s1) E s
 self:∀(A:aA) (i:Nat) (s:aC) (Q:af->aC->Prop) (E:af->aC->Prop),tn i s.heap->Q (.ref it) s->wpAny (model P w) A (pyIter<|.ref it) Q E s
abbrev YX (ok:Cx->Prop)(X:Cx)(pins:bo)(σ:St)(tg:aE)(R:It->Hp->Prop)(itv:af)(s2:aC):Prop:=
 ∃(it:ak) (d:bb) (f:Nat->aq->Prop) (J:It) (H':Hp),itv=.ref it/\Inv X pins σ H' s2/\TurnG ok X.prog X.w X.K tg J d it f/\f 0 s2.heap/\(∀b∈d,uB X pins H' b)/\R J H'
abbrev ZI (ok:Cx->Prop)(X:Cx)(tg iter:aE)(wi:TI):Prop:=
 ∀(pins:bo) (s:aC) (σ:St) (H:Hp) (R:It->Hp->Prop),Inv X pins σ H s->wi σ H R ->
  wpAny (model X.prog X.w) X.A (eval iter X.env) (λv d=>wpAny (model X.prog X.w) X.A (pyIter v) (YX ok X pins σ tg R) X.xe d) X.xe s
def PI.g{X:Cx}{iter:aE}{wi:TI}(h:PI X tg iter wi):ZI (λY=>Y.calm=true) X tg iter wi:=λpins s σ H R I q=>
 kj (h pins s σ H R I q) λv m h1=>kj h1 λj p ⟨it,k,f,J,H',e,d,T,a,b,c⟩=>⟨it,k,f,J,H',e,d,⟨T.obj,T.keep,T.item,T.done,T.self⟩,a,b,c⟩
def Ht{ok:Cx->Prop}{X:Cx}{use:Option<|af->Sem Unit}{Q':af->aC->Prop}{iter:aE}{N:ar}{wi:TI}{g:TG}{tc:TT}{te:TE}(S:CpScope X scope N cap)(hok:∀C s₀ H₀ ex,(∀a o u,X.H₀ a=some (.frz o u)->H₀ a=some (.frz o u))->ok (j4 X scope N C s₀ H₀ ex))(hi:ZI ok X tg iter wi)
  (hg:∀C s₀ H₀ ex,PG (j4 X scope N C s₀ H₀ ex) tg g) (ht:∀C s₀ H₀ ex,PR (j4 X scope N C s₀ H₀ ex) ifs tc) (he:∀C s₀ H₀ ex,PE (j4 X scope N C s₀ H₀ ex) elt te)
  (hs:∀x,foldedSetIterable iter X.env x=pure x:=by intro _;rfl):∀(pins:bo) (s:aC) (σ:St) (H:Hp) (Q:VK),Inv X pins σ H s->Xs cap wi g tc te σ H Q ->
  (∀(s6:aC) (C D:ak) (H5:Hp) (m:Str->bd),s6.heap.Ns C m->uB X pins H5 C->(∀h',Heap.SameBut C s6.heap h'->Inv X pins σ H5 { s6 with heap:=h' })->Q (.ref D) H5->∀v,compPost (model X.prog X.w) X.A X.xe use Q' (.ref D) C (.ok v) s6) ->
  wpAny (model X.prog X.w) X.A (comprehension (.ListComp elt [⟨tg,iter,ifs,0⟩] scope pos) scope X.env (firstIterPos [⟨tg,iter,ifs,0⟩] pos) (newList []) (firstAsync [⟨tg,iter,ifs,0⟩]) (firstIter [⟨tg,iter,ifs,0⟩] X.env) use) Q' X.xe s:=by
 intro pins s σ H Q I h hfin;kpf_c;refine wpAny_comprehension_free (use:=use) rfl hs (z7 hfree) S.kind S.nm<|kj (hi pins s σ H _ I h) λxv s1 h1=>kj h1 λitv f h2=>?_;obtain⟨it,fp,tn,J,H2,rfl,I2,T,st2,f2,h2⟩:=h2;refine c7<|GV λU B old F=>?_;obtain⟨W,⟨m0,w0⟩,turn⟩:=h2 f.heap.objs.size I2.fresh;dsimp only at B old F ⊢;have I3:Inv X pins σ (upd H2 f.heap.objs.size<|.lst []) { f with heap:=f.heap.push {}}:=I2.RP (t':=f.toks) (its:=[]) .nil<|cE _;have hfp:∀b∈fp,∃o,f.heap.get? b=some o:=λb j=>by
  obtain⟨o,e,_⟩:=T.obj 0 _ st2 b j;exact⟨o,e⟩
 have neD:∀b∈fp,b≠f.heap.objs.size:=λb j=>by
  obtain⟨o,e⟩:=hfp b j;exact bC<|bg e
 have f3:∀b∈fp,uB X pins (upd H2 f.heap.objs.size<|.lst []) b:=λb j=>⟨by rw[iZ<|neD b j];exact(f2 b j).1,(f2 b j).2⟩;have hDC:f.heap.objs.size≠(f.heap.push {}).objs.size:=by rw[eN];exact bC (cZ _)
 have I4:=MD (tk:=f.toks+([]:List<|Str×af).length) (fp:=fp) S I3 f3 (λb j=>by
  obtain⟨o,e⟩:=hfp b j;exact⟨o,aT _ e⟩) B F old
 have st4:tn 0 U:=T.keep _ _ _ st2 λb j o e=>old b o<|aT _ e;have hc:=hok (f.heap.push {}).objs.size { f with heap:=f.heap.push {}} (upd H2 f.heap.objs.size<|.lst []) fp λa o u e=>by
  have z:=I2.base.frzs a o u e;rw[iZ λq=>by rw[q,I2.fresh]at z;cases z];exact z
 have L:∀{H':Hp},(∀b∈fp,H' b=none)->∀b∈fp,uB (j4 X scope N (f.heap.push {}).objs.size { f with heap:=f.heap.push {}} (upd H2 f.heap.objs.size<|.lst []) fp) [] H' b:=λhn b j=>by
  have ok:=I4.ok;refine⟨hn b j,(ok.exf b j).1,ok.exfs b j,.inl j,λx c e=>(ok.exf b j).2 x c e,λp hp=>nomatch hp⟩
 have V:∀s4:aC,s4={ f with heap:=U,toks:=f.toks+([]:List<|Str×af).length } ->
   codeAny (model X.prog X.w) X.A (.compLoop (.ListComp elt [⟨tg,iter,ifs,0⟩] scope pos) 0 (.ref it) (.ref f.heap.objs.size)<|compEnvC scope (cellsFrom ((f.heap.push {}).objs.size+1) scope.names<|uX X.env scope.names []) (f.heap.push {}).objs.size X.env)
    (compPost (model X.prog X.w) X.A X.xe use Q' (.ref f.heap.objs.size) (f.heap.push {}).objs.size) s4:=by
  rintro s4 rfl;refine codeAny_loop rfl (λn s'=>∃i M H',Inv (j4 X scope N (f.heap.push {}).objs.size { f with heap:=f.heap.push {}} (upd H2 f.heap.objs.size<|.lst []) fp) [] M H' s'/\tn i s'.heap/\(∀b∈fp,H' b=none)/\W i n M H') (λn s5 hI=>?_) m0 ⟨0,_,_,I4,st4,λb j=>(f3 b j).1,w0⟩;obtain⟨i,P,H5,I5,st5,fr5,w5⟩:=hI;show wpAny _ X.A ((compTurn (.ListComp elt [⟨tg,iter,ifs,0⟩] scope pos) 0 (.ref it) (.ref f.heap.objs.size)<|compEnvC scope (cellsFrom ((f.heap.push {}).objs.size+1) scope.names<|uX X.env scope.names []) (f.heap.push {}).objs.size X.env).onRaise λx=>do noteFrame x _;theTreesLotGoes x) _ _ s5;refine wpAny_noted ?_;rw[compTurn_list];refine aI (eF<|aI ?_)
  rcases turn i n P H5 w5 with⟨stop,q⟩|⟨go,step⟩
  ·refine kj (T.done (j4 X scope N (f.heap.push {}).objs.size { f with heap:=f.heap.push {}} (upd H2 f.heap.objs.size<|.lst []) fp) rfl rfl rfl hc i [] s5 P H5 _ I5 (L fr5) st5 stop) λr s6 h9=>?_;obtain⟨hr,Z⟩:=h9;subst hr;obtain⟨m6,hn6,_⟩:=Z.loc;refine aR<|hfin s6 _ _ H5 m6 hn6 (I3.JO (aQ _) Z.free) (λh' sb=>?_) q _;have Y:=Z.base;have nC:∀b o,(f.heap.push {}).get? b=some o->b≠(f.heap.push {}).objs.size:=λb o e=>bC<|bg e;refine I3.Lm (ch:=fp) Z.os ⟨λb o e n j hx=>?_,λb o e n j hx=>?_,λb o e n hx=>?_,λb o e hx=>?_,Y.tups,Y.frzs,Y.tbls⟩ ?_ Z.bare ?_
   ·exact sb.extBut b o (nC b o e) (Y.keep b o e n j hx)
   ·obtain⟨sl,z⟩:=Y.slot b o e n j hx;exact⟨sl,sb.extBut b _ (nC b o e) z⟩
   ·exact Y.free b o e n hx
   ·obtain⟨o',z⟩:=Y.there b o e hx;exact⟨o',sb.extBut b _ (nC b o e) z⟩
   ·intro b o e;have j:∀c v,H5 c=some v->c≠(f.heap.push {}).objs.size:=λc v e z=>by
     rw[z]at e;have:=Z.free;rw[show H5 (f.heap.push {}).objs.size=none from this]at e
     cases e
    refine(Z.hok b o e).stay (λc v hc q=>sb.extBut c v ?_ q) (λ_ q=>q) λ_ _ q=>q
    rcases hc with z|z
    ·rw[z];exact j b o e
    ·exact j c _ z
   ·intro b j;obtain⟨_,z1,_,z3,z4,z5⟩:=f3 b j;exact⟨z3,z1,z4,z5⟩
  ·refine kj (T.item (j4 X scope N (f.heap.push {}).objs.size { f with heap:=f.heap.push {}} (upd H2 f.heap.objs.size<|.lst []) fp) rfl rfl rfl hc i [] s5 P H5 _ I5 (L fr5) st5 go) λr s6 h9=>?_;obtain⟨u,hr,h6⟩:=h9;subst hr;refine aI<|kj h6 λ_ s7 ⟨x,H7,I7,r7,y7,st7,fr7⟩=>?_;have I7':=I7.pinned (L fr7)<|T.obj _ _ st7;refine aI<|CK (hg _ _ _ fp _ s7 P H7 x u _ I7' r7<|step x H7 y7) λ_ s8 ⟨G,H8,I8,q8⟩=>?_;refine aI<|CK (ht _ _ _ fp _ s8 G H8 _ I8 q8) λok s9 ⟨H9,I9,q9⟩=>?_;have again:∀{K:aC} {k:Hp},Inv (j4 X scope N (f.heap.push {}).objs.size { f with heap:=f.heap.push {}} (upd H2 f.heap.objs.size<|.lst []) fp) ([]++vq fp s7.heap) G k K->(∃m',m'<n/\W (i+1) m' G k) ->
     ∃m,m<n/\∃i M H',Inv (j4 X scope N (f.heap.push {}).objs.size { f with heap:=f.heap.push {}} (upd H2 f.heap.objs.size<|.lst []) fp) [] M H' K/\tn i K.heap/\(∀b∈fp,H' b=none)/\W i m M H':=λ{K k} O h9=>by
    obtain⟨m',hm,w10⟩:=h9;refine⟨m',hm,i+1,G,k,O.pP,T.keep _ _ _ st7 λb j o e=>(O.pin (b,o)<|bz _<|bz _<|kL j e).1,λb j=>?_,w10⟩;obtain⟨o,e,d⟩:=T.obj _ _ st7 b j;exact(O.pin (b,o)<|bz _<|bz _<|kL j e).2.1
   cases ok with
   | false=>
    rw[aK bK]at q9;exact aR ⟨rfl,again I9 q9⟩
   | true=>
    rw[aL rfl]at q9;refine aI<|aI<|CK (he _ _ _ fp _ s9 G H9 _ I9 q9) λy K ⟨v10,k,O,r10,ys,hD,hz,w10⟩=>?_;refine aI<|CK (wX _ K G k (.ref f.heap.objs.size) [v10] _ [y] (λ_ H'=>H'=upd k f.heap.objs.size (.lst<|ys++[v10])) O rfl (.cons r10 .nil) ⟨_,ys,v10,rfl,rfl,hD,hz,rfl⟩) λ_ s11 ⟨_,H11,I11,_,e11⟩=>?_;subst e11;exact aR<|aR ⟨rfl,again I11 w10⟩
 exact codeAny_compStart_list (V _ rfl)<|T.self _ 0 _ _ _ st4<|V _ rfl
def Vm{ok:Cx->Prop}{X:Cx}{iter:aE}{N:ar}{wi:TI}{g:TG}{tc:TT}{te:TE}(S:CpScope X scope N cap)(hok:∀C s₀ H₀ ex,(∀a o u,X.H₀ a=some (.frz o u)->H₀ a=some (.frz o u))->ok (j4 X scope N C s₀ H₀ ex))(hi:ZI ok X tg iter wi)
  (hg:∀C s₀ H₀ ex,PG (j4 X scope N C s₀ H₀ ex) tg g) (ht:∀C s₀ H₀ ex,PR (j4 X scope N C s₀ H₀ ex) ifs tc) (he:∀C s₀ H₀ ex,PE (j4 X scope N C s₀ H₀ ex) elt te)
  (hs:∀x,foldedSetIterable iter X.env x=pure x:=by intro _;rfl):PE X (.ListComp elt [⟨tg,iter,ifs,0⟩] scope pos) (Xs cap wi g tc te):=by
 kt_k;rw[eval_ListComp];exact Ht (use:=none) (Q':=EP X pins σ Q) S hok hi hg ht he hs pins s σ H Q I h λk C D f m hn j inv q v=>⟨m,hn,λh' d=>⟨.ref D,f,inv h' d,rfl,q⟩⟩
def W5{X:Cx}{iter:aE}{N:ar}{wi:TI}{g:TG}{tc:TT}{te:TE}(hc:X.calm=true)(S:CpScope X scope N cap)(hi:PI X tg iter wi)
  (hg:∀C s₀ H₀ ex,PG (j4 X scope N C s₀ H₀ ex) tg g) (ht:∀C s₀ H₀ ex,PR (j4 X scope N C s₀ H₀ ex) ifs tc) (he:∀C s₀ H₀ ex,PE (j4 X scope N C s₀ H₀ ex) elt te)
  (hs:∀x,foldedSetIterable iter X.env x=pure x:=by intro _;rfl):PE X (.ListComp elt [⟨tg,iter,ifs,0⟩] scope pos) (Xs cap wi g tc te):=
 Vm S (λ_ _ _ _ _=>hc) hi.g hg ht he hs
section
variable {X:Cx}
def Nl{bs:List Bool}:∀{us:ba},Vals (bs.map V.bl) us->LSm.BoolsAre us bs:=by
 induction bs with
 | nil=>intro us r;cases r;exact .nil
 | cons b bs d=>
  intro us r
  cases r with
  | cons h t=>
   have e:_=Value.bool b:=h;subst e;exact .cons b<|d t
def KR(hc:X.calm=true):jo X (.builtin "all") (λxs H Q=>∃(p:ak) (bs:List Bool),xs=[.ref p]/\lT X.K H p (bs.map V.bl)/\Q (.bl<|bs.all id) H):=by
 w_up;obtain⟨p,bs,rfl,hq,q⟩:=h;kj_on
 cases rx
 o_rec;have g:=Nl rv;have d:=pl.isList;have f:p<s.heap.objs.size:=by obtain⟨_,e,_⟩:=d;exact bg e
 refine call_all_walk<|g9 d ?_;refine⟨s.heap.objs.size,[s.heap.objs.size,p],[s.heap.objs.size],its.toArray.size,_,_,λi=>(bs[i]?).getD true,rfl,Walks.list (A:=X.A.in1) (I.ok.hd hc) _ p (bC f) its.toArray,
  ⟨⟨_,bG _ rfl,rfl,rfl⟩,d.push _⟩,λi v s' z B hP j=>?_,λh' m k=>?_⟩
 ·obtain⟨b,e,rfl⟩:=g.get i v (by simpa using hP);dsimp[e,dQ]at j;exact cU j
 ·have e:((List.range its.toArray.size).all λi=>(bs[i]?).getD true)=bs.all id:=by
   rw[aZ,g.length];exact LSm.range_all bs
  rw[e];exact⟨.bl _,H,I.kept<|LSm.kept_iter k,rfl,q⟩
def B8:jo X (.builtin "sorted") (λxs H Q=>∃(p:ak) (ns:ag),xs=[.ref p]/\(lT X.K H p (ns.map V.int)\/nG X.K H p (ns.map V.int))/\ns.length<64 /\
  ∀l (ns':ag),H l=none->ns'.Perm ns->ns'.Pairwise (·<=·)->Q (.ref l) (upd H l<|.lst<|ns'.map V.int)):=by
 w_up;obtain⟨p,ns,rfl,hq,N,q⟩:=h;kj_on
 cases rx
 have G:∀(its:ba) (T:String) (o:Obj) (n:Nat),(T = "list" \/ T = "tuple")->s.heap.get? p=some o->o.cls=.type T->o.data=.seq its.toArray n->Vals (ns.map V.int) its ->
   wpAny (model X.prog X.w) X.A (call (.builtin "sorted") [.ref p]) (EP X pins σ Q) X.xe s:=by
  intro its T o n O k d j rv;have U:=intsAre_of rv;have g:its.length=ns.length:=by have:=rv.length;rw[aH]at this;exact this.symm
  refine Calls.call_function_entry kind_sorted plain_sorted entry_sorted (args_sorted1 _) ?_;unfold Builtin.«sorted»;refine aI (m:=checkCount "sorted" 1 1 _)<|aR ?_;refine aI (wpAny_collect_seq p O k d j (λh' W=>?_)<|by rw[aZ,g,cR];lia);refine aI<|wpAny_newList ?_;have f:(h'.push<|seqObj "list" its.toArray 0).get? h'.objs.size=some (seqObj "list" its.toArray 0):=bG _ rfl
  skip
  refine aI<|c_<|eK slot_list_sort ⟨_,f,rfl⟩ entry_list_sort (list_sort_tree f U () λout ns' M J L=>⟨_,rfl,?_⟩)<|args_list_sort _;obtain⟨e,P⟩:=sortedHeap_at (out:=out) f;have z:ns'.length=ns.length:=J.length_eq;have F:Inv X pins σ H { s with heap:=h' }:=I.kept (t':=s.toks) W;have old:∀b B,h'.get? b=some B->(sortedHeap (h'.push<|seqObj "list" its.toArray 0) h'.objs.size its out).get? b=some B:=λb B C=>by
   rw[sortedHeap_old (bC<|bg C)<|by rw[eN];exact g_<|bg C];exact aT _ C
  refine aR ⟨_,rfl,.ref h'.objs.size,_,F.laid (t':=s.toks) (o:=.lst<|ns'.map V.int) old (aQ _) ?_,rfl,q _ ns' (F.hok.fresh<|aQ _) J L⟩;refine⟨by rw[aH,z,cR];lia,out.toList,e,xM M,?_⟩;rw[P]
 rcases hq with hq|hq
 ·o_rec;obtain⟨o,k,d,n,j⟩:=pl.isList;exact G its "list" o n (.inl rfl) k d j rv
 ·obtain⟨its,rv,pl,hz⟩:=I.tuple hq;obtain⟨o,k,d,n,j⟩:=pl;exact G its "tuple" o n (.inr rfl) k d j rv
def Ub:nj X (compareOp .Is) (λx y H Q=>∃a b,x=.bl a/\y=.bl b/\Q (.bl<|a == b) H):=by
 gp_on;obtain⟨a,b,rfl,rfl,q⟩:=h
 cases rx;cases ry
 exact is_bool ⟨.bl _,H,I,rfl,q⟩
def BV:jo X (.type "range") (λxs H Q=>∃i j,xs=[.int i,.int j]/\∀p,H p=none->Q (.ref p) (upd H p<|.rng i j)):=by
 w_up;obtain⟨i,j,rfl,q⟩:=h;obtain⟨u,f,rfl,⟨t,rfl⟩,⟨d,rfl⟩⟩:=vals2 r;refine call_range_2 ⟨.ref s.heap.objs.size,_,I.laid (o:=.rng i j) (λb o e=>aT _ e) (aQ _) ?_,rfl,q _ I.fresh⟩;exact⟨t,d,s.toks,bG _ rfl⟩
abbrev jt (i j:Int):ag:=(List.range (j-i).toNat).map λk:Nat=>i+(k:Int)
def kO(i j:Int):(jt i j).length=(j-i).toNat:=by unfold jt;rw[aH,cu]
def yZ{i:Int}{n:Nat}{acc:Array af}(h:ItemsOf (λk v=>∃t,v=Value.int (i+(k:Int) * 1) t) acc n):Vals (((List.range n).map λk:Nat=>i+(k:Int)).map V.int) acc.toList:=by
 obtain⟨hs,hv⟩:=h;have d:∀(l:ba) (b:Nat),(∀j v,l[j]?=some v->∃t,v=Value.int (i+((b+j:Nat):Int)) t)->Vals (((List.range' b l.length).map λk:Nat=>i+(k:Int)).map V.int) l:=by
  intro l
  induction l with
  | nil=>intro b _;exact .nil
  | cons v l g=>
   intro b f;rw[bq,fO,bM,bM];refine .cons ?_ ?_
   ·obtain⟨t,e⟩:=f 0 v rfl;exact⟨t,by rw[e];simp⟩
   ·refine g (b+1) λj w hw=>?_;obtain⟨t,e⟩:=f (j+1) w hw;exact⟨t,by rw[e,show b+(j+1)=b+1+j by lia]⟩
 have:=d acc.toList 0 λj v m=>by
  obtain⟨t,e⟩:=hv j v (by simpa using m);exact⟨t,by rw[e,dh,Int.mul_one]⟩
 rw[b_,hs,<- cW]at this;exact this
def MF{i j:Int}:Builtin.Range.rangeSize i j 1=(((j-i).toNat:Nat):Int):=by rw[rangeSize_one];split<;>omega
def AA(hc:X.calm=true):jo X (.type "list") (λxs H Q=>∃p i j,xs=[.ref p]/\H p=some (.rng i j)/\(-(2 ^ 62)<=i/\i<2 ^ 62/\-(2 ^ 62)<=j/\j<2 ^ 62)/\(j-i).toNat<=1000/\∀l,H l=none->Q (.ref l) (upd H l<|.lst<|(jt i j).map V.int)):=by
 w_up;obtain⟨p,i,j,rfl,hp,⟨z,g,B,k⟩,hn,q⟩:=h;kj_on
 cases rx
 obtain⟨t,F,v,e⟩:=I.hok p _ hp;refine call_list_range (n:=(j-i).toNat) (I.ok.hd hc) e (small_one z g B k) MF () λh' G f m C hS d=>?_;refine⟨.ref s.heap.objs.size,_,I.laid (o:=.lst<|(jt i j).map V.int) C (aQ _) ⟨?_,f.toList,m,yZ d,by rw[hS]⟩,rfl,q _ I.fresh⟩;rw[aH,kO,cR];lia
end
section
variable {X:Cx}
def xY{prog:aj}{w:ah}{A:aA}{E:af->aC->Prop}{s:aC}{Q:ba->aC->Prop}{r:ak}{a b c:Int}{v:Tok}{n:Nat}(hh:A.handled=none)(hr:IsRange s.heap r a b c t u v)(hsmall:Builtin.Range.small a b c=true)
  (hn:Builtin.Range.rangeSize a b c=n) (hlen:n<=2 ^ 24)
  (hQ:∀h' tk (acc':Array af),(∀b o,s.heap.get? b=some o->h'.get? b=some o)->ItemsOf (λi v=>∃t,v=.int (a+i * c) t) acc' n->Q acc'.toList { s with heap:=h',toks:=tk }) :
  wpAny (model prog w) A (collect<|.ref r) Q E s:=by
 unfold collect;refine aI<|wpAny_runValue<|gM F.entry_proto_collect ?_;rw[fJ F.plain_proto_collect _]
 skip
 refine aI<|c7 ?_;refine aR ⟨plainId_quiet F.plain_list_iadd _,gM F.entry_list_iadd ?_⟩;rw[fJ F.plain_list_iadd _]
 skip
 have hS:(s.heap.push {}).get? s.heap.objs.size=some { cls:=.type "list",data:=.seq #[] 0 }:=bG _ rfl;have k:∀(h':aq) (tk:Nat) (acc':Array af) (j:Nat),(∀b o,b≠s.heap.objs.size->(s.heap.push {}).get? b=some o->h'.get? b=some o) ->
   h'.get? s.heap.objs.size=some { cls:=.type "list",dict:=none,data:=.seq acc' j,slots:=#[]}->ItemsOf (λi v=>∃t,v=.int (a+i * c) t) acc' n ->
   wpAny (model prog w) A (match Value.ref s.heap.objs.size with
   | Value.ref a=>do
    match (<- load a).data with
     | Data.seq xs _=>pure xs.toList
     | _=>unsupported "internal:collect"
   | _=>unsupported "internal:collect") Q E { s with heap:=h',toks:=tk }:=by
  intro h' tk acc' j m g d
  skip
  refine aI<|wpAny_load g ?_;refine aR ?_;exact hQ h' tk acc' (λb o e=>m b o (bC<|bg e)<|aT _ e) d
 refine fH (wpAny_extend_range (A:=A) (R:=λq s'=>q=.ok (.ret<|.ref s.heap.objs.size)/\∃h' tk acc' j,s'={ s with heap:=h',toks:=tk }/\(∀b o,b≠s.heap.objs.size->(s.heap.push {}).get? b=some o->h'.get? b=some o) /\
   h'.get? s.heap.objs.size=some { cls:=.type "list",dict:=none,data:=.seq acc' j,slots:=#[]}/\ItemsOf (λi v=>∃t,v=.int (a+i * c) t) acc' n)
  (s:={ s with heap:=s.heap.push {}}) hh (aT _ hr) hsmall hn hlen s.heap.objs.size (.ref s.heap.objs.size) 0 hS
  (λh' tk acc' j m g d=>⟨rfl,h',tk,acc',j,rfl,m,g,d⟩)) (λfin s' h=>?_) λe s' h=>?_
 ·cases fin with
  | done f=>
   obtain⟨e,h',tk,acc',j,rfl,m,g,d⟩:=h
   cases e
   exact k h' tk acc' j m g d
  | again j=>exact⟨h.1,gU h.2 λr p hr=>by
    obtain⟨rfl,h',tk,acc',j,rfl,m,g,d⟩:=hr;exact k h' tk acc' j m g d⟩
 ·exact absurd h.1<|by simp
def uZ(l:ak){a b:Int}{v:Tok}{n:Nat}(hsmall:Builtin.Range.small a b 1=true)
  (hn:Builtin.Range.rangeSize a b 1=n) (hlen:n<=1000) :
  Meets (Builtin.«tuple.__new__» ⟨[.type "tuple",.ref l],[]⟩)
   (λA R s=>A.handled=none/\IsRange s.heap l a b 1 t u v/\∀(h':aq) (tk:Nat) (acc':Array af),(∀b o',s.heap.get? b=some o'->h'.get? b=some o')->ItemsOf (λi v=>∃t,v=.int (a+i * 1) t) acc' n->R (.ok<|.ret<|.ref h'.objs.size) { s with heap:=h'.push { cls:=.type "tuple",data:=.seq acc' },toks:=tk }):=
 .of_wp λprog w A R s h=>by
  obtain⟨hp,g,d,tk,z⟩:=s;obtain⟨C,p,h⟩:=h;have q:=sub_tuple_self;have k:=init_tuple_lookup;have F:=madeHere_tuple;have B:Shared.TypeIs ⟨hp,g,d,tk,z⟩ (.ref l) "range" := ⟨_,p,rfl⟩;have j:A.in1.handled=none:=C
  wp_walk using AutoSeq1.wpAny_loadPart' p,fM B,xY (A:=A.in1) j p hsmall hn (by omega)
  intro h' m acc' G f;show wpAny _ _ (Builtin.Tuple.tupleExact acc'.toList.toArray >>= λv=>ret v) _ _ _;unfold Builtin.Tuple.tupleExact;have e:acc'.toList.toArray=acc':=by simp
  refine aI (c7 ?_<|by show acc'.toList.toArray.size<=sizeLine;rw[e,f.1,cR];omega);refine aR ⟨_,rfl,?_⟩;rw[e];exact h h' m acc' G f
def Aa(hc:X.calm=true):jo X (.type "tuple") (λxs H Q=>∃p i j,xs=[.ref p]/\H p=some (.rng i j)/\(-(2 ^ 62)<=i/\i<2 ^ 62/\-(2 ^ 62)<=j/\j<2 ^ 62)/\(j-i).toNat<=1000/\∀l,H l=none->Q (.ref l) (upd H l<|.tup<|(jt i j).map V.int)):=by
 w_up;obtain⟨p,i,j,rfl,hp,⟨C,z,G,B⟩,hn,q⟩:=h;kj_on
 cases rx
 obtain⟨t,K,v,e⟩:=I.hok p _ hp;refine callType_new F.called_tuple ⋯ (F.typeCall_tuple_1 _) (F.newCall_tuple_1 _) (λg=>F.args_object_init_2 g _) F.entry_tuple_new
  (uZ (n:=(j-i).toNat) p (small_one C z G B) MF hn) ⟨I.ok.hd hc,e,λh' m d J f=>⟨⟨_,bG _ rfl,rfl⟩,?_⟩⟩
 have k:Inv X pins σ H { s with heap:=h',toks:=m }:=I.kept J;refine⟨.ref h'.objs.size,_,k.laid (t':=m) (o:=.tup<|(jt i j).map V.int) (λb o e=>aT _ e) (aQ _) ⟨?_,d.toList,yZ f,?_⟩,rfl,q _<|k.hok.fresh<|aQ _⟩
 ·rw[aH,kO,cR];lia
 ·have e:d.toList.toArray=d:=by simp
  rw[e];exact nM.new _ _
def El{c:String}:jo X (.builtin "isinstance") (λxs H Q=>∃x t b,xs=[x,.ty c]/\TyOf X.K H x t/\PySem.W.kitOne X.K t (.type c)=some b/\Q (.bl b) H):=by
 w_up;obtain⟨x,t,b,rfl,ty,e,q⟩:=h;obtain⟨u,g,rfl,rx,f⟩:=vals2 r
 cases f
 exact Kg I rx ty e λd=>⟨.bl b,H,I.tok d,rfl,q⟩
abbrev Wi (K:au):R2:=λx y H Q=>∃a b ys,x=.ref a/\y=.ref b/\nG K H a []/\nG K H b ys/\Q (.ref b) H
def Py:nj X (binaryOp .Add) (Wi X.K):=by
 gp_on;obtain⟨a,b,ys,rfl,rfl,h1,h2,q⟩:=h
 cases rx
 cases ry
 obtain⟨us,r1,p1,_⟩:=I.tuple h1;obtain⟨F,r2,p2,_⟩:=I.tuple h2
 cases r1
 obtain⟨⟨cls,G,data,C⟩,z,hc,n,p⟩:=id p1;obtain⟨⟨B,k,j,m⟩,d,g,J,f⟩:=id p2;simp only at hc p g f;subst hc p g f;exact concat_meets ⟨_,z,rfl⟩ ⟨_,d,rfl⟩ noFill_tuple_add seq_tuple_add f9 f7 (fR _ _)
   (tuple_addW0 a b _ F.toArray n J G k C m<|by simp) ⟨z,d,⟨.ref b,H,I,rfl,q⟩⟩
end
def jI:bootBuiltins "len" = some (.builtin "len"):=by decide +kernel
def V9:bootBuiltins "all" = some (.builtin "all"):=by decide +kernel
def Lb:bootBuiltins "max" = some (.builtin "max"):=by decide +kernel
def PD:bootBuiltins "min" = some (.builtin "min"):=by decide +kernel
def uS:bootBuiltins "sorted" = some (.builtin "sorted"):=by decide +kernel
def kQ:bootBuiltins "isinstance" = some (.builtin "isinstance"):=by decide +kernel
def F9:bootBuiltins "int" = some (.type "int"):=by decide +kernel
def Im:bootBuiltins "bool" = some (.type "bool"):=by decide +kernel
def yG:bootBuiltins "list" = some (.type "list"):=by decide +kernel
def we:bootBuiltins "tuple" = some (.type "tuple"):=by decide +kernel
def Dl:bootBuiltins "range" = some (.type "range"):=by decide +kernel
structure Blt (mg:Str->bd):Prop where
 len:mg "len" = none
 abs:mg "abs" = none
 all:mg "all" = none
 any:mg "any" = none
 max:mg "max" = none
 min:mg "min" = none
 sorted:mg "sorted" = none
 isinstance:mg "isinstance" = none
 int:mg "int" = none
 bool:mg "bool" = none
 str:mg "str" = none
 list:mg "list" = none
 tuple:mg "tuple" = none
 range:mg "range" = none
def G0:∀{a b:ag},a.Perm b->a.Pairwise (·<=·)->b.Pairwise (·<=·)->a=b:=λp f d=>
 List.Perm.eq_of_pairwise (λx y _ _ h1 h2=>fW h1 h2) f d p
def Hs(i j:Int):(jt i j).Pairwise (·<=·):=by
 unfold jt;rw[dI];exact gf.imp λh=>()
def lI(i j:Int):(jt i j).Nodup:=by
 unfold jt;rw[List.Nodup,dI];exact gf.imp λh=>()
def jR{i j k:Int}:k∈jt i j ↔ i<=k/\k<j:=by
 unfold jt;rw[bY];constructor
 ·rintro⟨a,d,rfl⟩;have:=dF.mp d;omega
 ·rintro⟨h1,h2⟩;exact⟨(k-i).toNat,dF.mpr<|by omega,by omega⟩
theorem xT:∀{l m:ag},l.Nodup->(∀x∈l,x∈m)->m.length<=l.length->l.Perm m
 | [],m,_,_,h=>by
  have:m=[]:=eO.mp<|Nat.le_zero.mp h;rw[this]
 | a::l,m,nd,hs,hl=>by
  have j:a∈m:=hs a aM;have d:=cY.mp nd;have p:m.Perm (a::m.erase a):=List.perm_cons_erase j;have k:=xT (l:=l) (m:=m.erase a) d.2 (λx g=>by
   have f:x≠a:=λe=>d.1<|e ▸ g;exact(List.mem_erase_of_ne f).mpr (hs x<|aO _ g)) (by
   rw[List.length_erase_of_mem j];dsimp[bq]at hl;omega)
  exact(List.Perm.cons a k).trans p.symm
abbrev Kn (P:aj)(w:ah)(K:au)(mg:Str->bd)(base:aq)(k:Nat)(x:Str)(ps:ar)(sp:Sp):Prop:=
 ∃(f:ak) (fd:FuncData),FnOk P w K mg base oW k f fd ps sp/\mg x=some (.ref f)/\PySem.W.keepIn K (.ref f)=true/\Binds K fd ps []
def Yl{X:Cx}{k:Nat}{x:Str}{sp:Sp}{e:aE}{t:TA}{p:Pos}(G:Kn X.prog X.w X.K X.mg X.base k x ps sp)(hr:Room k X.A)(ha:PA X (e::es) t)(hg:Gl X x:=by rfl)
  (hdb:(x == ("__debug__" : Str))=false:=by decide) (hs:starEach (e::es) X.env=(false,eval e X.env)::starEach es X.env:=by rfl) (hplain:(backTo pos<|starEach es X.env).any (·.1)=false:=by rfl) :
  PE X (.Call (.Name x p) (e::es) [] pos) (Th sp [] E0 t):=by
 obtain⟨f,fd,F,g,j,d⟩:=G;exact QM F hr hg g j d .nil X0 ha hdb hs hplain
abbrev zL (XN fs:ar):ar->List (bn)->Prop
 | [],[]=>True
 | _::N,none::c=>zL XN fs N c
 | x::N,some j::c=>XN[j]?=some x/\x∈fs/\zL XN fs N c
 | _,_=>False
theorem zL.len{fs:ar}:∀{N:ar}{c:List<|bn},zL XN fs N c->c.length=N.length
 | [],[],_=>rfl
 | _::N,none::c,h=>dG (·+1) (zL.len (N:=N) (c:=c) h)
 | _::N,some j::c,h=>dG (·+1) (zL.len (N:=N) (c:=c) h.2.2)
 | [],_::_,h=>h.elim
 | _::_,[],h=>h.elim
theorem zL.cp{fs:ar}:∀{N:ar}{c:List<|bn},zL XN fs N c->∀(i j:Nat) (x:Str),N[i]?=some x->c[i]?=some (some j)->XN[j]?=some x/\x∈fs
 | [],[],_,i,j,x,h1,_=>by simp at h1
 | y::N,none::c,h,i,j,x,h1,h2=>by
  cases i with
  | zero=>simp at h2
  | succ i=>exact zL.cp (N:=N) (c:=c) h i j x (by simpa using h1)<|by simpa using h2
 | y::N,some k::c,h,i,j,x,h1,h2=>by
  cases i with
  | zero=>
   simp at h1 h2;subst h1 h2;exact⟨h.1,h.2.1⟩
  | succ i=>exact zL.cp (N:=N) (c:=c) h.2.2 i j x (by simpa using h1)<|by simpa using h2
 | [],_::_,h,_,_,_,_,_=>h.elim
 | _::_,[],h,_,_,_,_,_=>h.elim
def sZ{X:Cx}{scope:Scope}{N:ar}(fs:ar)(kind:scope.kind=.function)(nocf:∀y∈scope.names,y.2=.cell->scope.names.lookup y.1=some .cell/\(y.1,NameKind.free)∉scope.names)(nm:∀y∈scope.names,y.2=.local->scope.names.lookup y.1=some .local)
  (nolf:∀y∈scope.names,y.2=.free->scope.names.lookup y.1≠some .local) (hf:∀y∈scope.names,y.2=.free->y.1∈fs) (hfs:∀x∈fs,(x,NameKind.free)∈scope.names) (hk:∀x∈fs,X.env.kindOf x=some .cell\/X.env.kindOf x=some .free) (cp:zL X.N fs N cap):CpScope X scope N cap where
 kind:=kind
 nocf:=λx hf hc=>(nocf (x,.cell) hc rfl).2 hf
 nm:=nm
 fr:=λy hy e=>hk _ (hf y hy e)
 rl:=λy h=>by
  have g:∀k,(k=NameKind.cell\/k=NameKind.free)->(relabel scope X.env).names.lookup y=some k->(y,NameKind.free)∈scope.names\/scope.names.lookup y=some .cell:=λk hk e=>by
   obtain⟨⟨q,m⟩,f,d⟩:=bY.mp<|zf e;dsimp only at d;split at d
   ·rename_i hc
    cases d
    have:m=.free:=by
     dsimp[eL]at hc;simpa using hc.1.1
    subst this;exact .inl f
   ·cases d
    rcases hk with rfl|rfl
    ·exact .inr (nocf _ f rfl).1
    ·exact .inl f
  rcases h with h|h
  ·exact g _ (.inl rfl) h
  ·exact g _ (.inr rfl) h
 len:=cp.len
 nolf:=λx p=>nolf (x,.free) p rfl
 cp:=λi j x h1 h2=>by
  obtain⟨a,b⟩:=cp.cp i j x h1 h2;exact⟨a,hfs x b⟩
inductive Kd where
 | non|bl|int|str|lst|tup
 deriving DecidableEq
abbrev Kd.ty:Kd->af
 | .non=>.type "NoneType" | .bl=>.type "bool" | .int=>.type "int" | .str=>.type "str" | .lst=>.type "list" | .tup=>.type "tuple"
abbrev Wu (H:Hp)(x:V):Kd->Prop
 | .non=>x=.non
 | .bl=>∃b,x=.bl b
 | .int=>∃i,x=.int i
 | .str=>∃s,x=.str s
 | .lst=>∃a xs,x=.ref a/\H a=some (.lst xs)
 | .tup=>∃a xs,x=.ref a/\H a=some (.tup xs)
def Wu.ZD{K:au}{H:Hp}{x:V}{k:Kd}(h:Wu H x k):TyOf K H x k.ty:=by
 cases k with
 | non=>cases h;exact .non
 | bl=>obtain⟨b,rfl⟩:=h;exact .bl b
 | int=>obtain⟨b,rfl⟩:=h;exact .int b
 | str=>obtain⟨b,rfl⟩:=h;exact .str b
 | lst=>obtain⟨a,xs,rfl,e⟩:=h;exact .lst e
 | tup=>obtain⟨a,xs,rfl,e⟩:=h;exact .tup e
def Qg{K:au}(k:Kd):PySem.W.kitOne K k.ty (.type "int")=some (decide<|k=.int\/k=.bl):=by cases k<;>rfl
def NI{K:au}(k:Kd):PySem.W.kitOne K k.ty (.type "bool")=some (decide<|k=.bl):=by cases k<;>rfl
def kit_tuple{K:au}(k:Kd):PySem.W.kitOne K k.ty (.type "tuple")=some (decide<|k=.tup):=by cases k<;>rfl
def Ol{K:au}(k:Kd):PySem.W.kitOne K k.ty (.type "list")=some (decide<|k=.lst):=by cases k<;>rfl
section
variable {X:Cx}
def KN(hc:X.calm=true):jo X (.builtin "max") (λxs H Q=>∃(p:ak) (ns:ag),xs=[.ref p]/\lT X.K H p (ns.map V.int)/\0<ns.length/\∀M,M∈ns->(∀a∈ns,a<=M)->Q (.int M) H):=by
 w_up;obtain⟨p,ns,rfl,hq,g,q⟩:=h;kj_on
 cases rx
 o_rec;have hi:=intsAre_of rv;have k:=pl.isList;obtain⟨ys,e⟩:=hi.allInts.items;have d:ns=ys.toList.map (·.1):=by
  rw[<- hi.numsOf,<- nums_intItems,<- e]
 have f:0<ys.size:=by
  have h3:=g;rw[d,aH,b_]at h3;exact h3
 rw[e]at k;refine max_intList (I.ok.hd hc) k f λv h' C hv B=>?_;obtain⟨t,rfl⟩:=intItems_at hv;obtain⟨h1,h2⟩:=argBest_gt (numAt ys)<|ys.size-1;refine⟨.int _,H,I.kept B,⟨t,rfl⟩,q _ ?_ λa m=>?_⟩
 ·rw[d,numAt_eq];exact getD_mem (by rw[aH,b_];lia)
 ·rw[d]at m;obtain⟨j,z,rfl⟩:=mem_getD m;rw[aH,b_]at z;rw[<- numAt_eq];exact h2 j ()
end
section
variable {X:Cx}
abbrev Yv (K:au):V->V->Hp->VK->Prop:=λo i H Q=>∃p xs k v,o=.ref p/\i=.int k/\lT K H p xs/\0<=k/\xs[k.toNat]?=some v/\Q v H
def Ph:UD X (Yv X.K):=by
 intro pins s σ H o i ov iv Q I j f h;obtain⟨p,xs,k,v,rfl,rfl,hq,h0,hv,q⟩:=h
 cases j
 obtain⟨t,rfl⟩:=f;obtain⟨its,r,pl,hz⟩:=I.list hq;obtain⟨u,g,d⟩:=r.get hv;have m:=r.length;have hn:=ve;have z:k.toNat<xs.length:=(aN.mp hv).1;exact wpAny_getItem_list pl.isList h0 () (by simpa using g) ⟨v,H,I,d,q⟩
end
def BJ(elt t1 i1 t2 i2:aE)(f1 f2:List aE)(scope:Scope)(pos:Pos)(it acc:af)(env:Env) :
  compTurn (.ListComp elt [⟨t1,i1,f1,0⟩,⟨t2,i2,f2,0⟩] scope pos) 0 it acc env=(do
   standAt i1.pos
   match <- pyNext it with
   | none=>pure (.done .next)
   | some v=>
    letOwnedTupleGo t1 it v
    assign t1 env v
    let mut ok:=true
    for c in f1 do
     if ok then ok <- isTrue c env (eval c env)
    if ok then
     let x <- eval i2 env
     standAt i2.pos
     let x <- foldedSetIterable i2 env x
     let _ <- runOwn (.compStart (.ListComp elt [⟨t1,i1,f1,0⟩,⟨t2,i2,f2,0⟩] scope pos) 1 (<- holding [x] (pyIter x)) acc env) env
    again (.compLoop (.ListComp elt [⟨t1,i1,f1,0⟩,⟨t2,i2,f2,0⟩] scope pos) 0 it acc env)):=by rfl
def BK(elt t1 i1 t2 i2:aE)(f1 f2:List aE)(scope:Scope)(pos:Pos)(it acc:af)(env:Env) :
  compTurn (.ListComp elt [⟨t1,i1,f1,0⟩,⟨t2,i2,f2,0⟩] scope pos) 1 it acc env=(do
   standAt i2.pos
   match <- pyNext it with
   | none=>pure (.done .next)
   | some v=>
    letOwnedTupleGo t2 it v
    assign t2 env v
    let mut ok:=true
    for c in f2 do
     if ok then ok <- isTrue c env (eval c env)
    if ok then
     (do let _ <- call (.builtin "list.append") [acc,<- eval elt env])
    again (.compLoop (.ListComp elt [⟨t1,i1,f1,0⟩,⟨t2,i2,f2,0⟩] scope pos) 1 it acc env)):=by rfl
section
variable {prog:aj}{w:ah}{A:aA}{R:Result->aC->Prop}{s:aC}
def tF{f1 f2:List aE}{acc:af}{env:Env}
  (h0:codeAny (model prog w) A (.compLoop (.ListComp elt [⟨t1,i1,f1,0⟩,⟨t2,i2,f2,0⟩] scope pos) 1 it acc env) R s)
  (h:wpAny (model prog w) A (pyIter it) (λit' s'=>codeAny (model prog w) A (.compLoop (.ListComp elt [⟨t1,i1,f1,0⟩,⟨t2,i2,f2,0⟩] scope pos) 1 it' acc env) R s')
   (notedBy (model prog w) A env λx s'=>R (.error x) s') s) :
  codeAny (model prog w) A (.compStart (.ListComp elt [⟨t1,i1,f1,0⟩,⟨t2,i2,f2,0⟩] scope pos) 1 it acc env) R s:=by
 refine codeAny_of_tree ?_
 skip
 refine wpAny_notedAt ?_;unfold compStart
 skip
 refine aI<|wpAny_askSetting<|wpAny_ite ?_;split
 ·first
   | exact aI (aR<|aR<|anI rfl h0)
   | exact aR<|anI rfl h0
 ·first
   | exact aI (dW<|aI<|eF<|aI<|fH h (λit' s' h'=>aR<|anI rfl h') λ_ _ x=>x)
   | (refine aI<|dW ?_;show wpAny _ _ (standAt i2.pos >>= _) _ _ s;exact aI<|eF<|aI<|fH h (λit' s' h'=>aR<|anI rfl h') λ_ _ x=>x)
end
abbrev NS (g:TG)(tc:TT)(te:TE)(D:ak)(Nn:L2.St->Hp->Prop)(σ:L2.St)(J:It)(H1:Hp):Prop:=
 ∃V:Nat->Nat->L2.St->Hp->Prop,(∃m,V 0 m σ H1)/\∀i m f H',V i m f H' ->
  (J.stop i H'/\Nn f H')\/(J.go i H'/\∀x H2,J.yld i H' x H2->g x f H2 λd H3=>tc d H3 λb p=>
   if b=true then te d p λy k=>∃ys,k D=some (.lst ys)/\ys.length<sizeLine/\∃j,j<m/\V (i+1) j d (upd k D<|.lst<|ys++[y])
   else ∃j,j<m/\V (i+1) j d p)
def E5{Z:Cx}{f1:List aE}{fp:bb}{D:ak}{tn:Nat->aq->Prop}{H:Hp}{s:aC}{g:TG}{tc:TT}{te:TE}{Nn:L2.St->Hp->Prop}
  (hc:Z.calm=true) (hxe:Z.xe=λ_ _=>False) (T:Turn Z.prog Z.w Z.K tg J fp it tn) (I:Inv Z pins σ H s) (st:tn 0 s.heap) (hf:∀b∈fp,uB Z pins H b) (hg:PG Z tg g) (ht:PR Z ifs tc) (he:PE Z elt te) (goal:NS g tc te D Nn σ J H) :
  codeAny (model Z.prog Z.w) Z.A (.compLoop (.ListComp elt [⟨t1,i1,f1,0⟩,⟨tg,i2,ifs,0⟩] scope pos) 1 (.ref it) (.ref D) Z.env) (λr s'=>r=.ok .next/\∃σ' H',Inv Z pins σ' H' s'/\Nn σ' H') s:=by
 obtain⟨V,⟨m0,v0⟩,turn⟩:=goal;have p:∀{H':Hp},(∀b∈fp,H' b=none)->∀b∈fp,uB Z pins H' b:=λhn b C=>⟨hn b C,(hf b C).2⟩;refine codeAny_loop rfl (λn s'=>∃i σ' H',Inv Z pins σ' H' s'/\tn i s'.heap/\(∀b∈fp,H' b=none)/\V i n σ' H') (λn s5 hI=>?_) m0 ⟨0,σ,H,I,st,λb C=>(hf b C).1,v0⟩;obtain⟨i,B,W,I5,O,N,w5⟩:=hI
 skip
 refine wpAny_noted ?_;rw[BK];refine aI (eF<|aI ?_)
 rcases turn i n B W w5 with⟨P,q⟩|⟨go,step⟩
 ·refine kj (T.done Z rfl rfl rfl hc i pins s5 B W _ I5 (p N) O P) λr s6 h9=>?_;obtain⟨hr,I6⟩:=h9;subst hr;exact aR ⟨rfl,B,W,I6,q⟩
 ·refine kj (T.item Z rfl rfl rfl hc i pins s5 B W _ I5 (p N) O go) λr s6 h9=>?_;obtain⟨u,hr,h6⟩:=h9;subst hr;refine aI<|kj h6 λ_ s7 ⟨x,H7,I7,r7,y7,G,fr7⟩=>?_;have I7':=I7.pinned (p fr7)<|T.obj _ _ G;have F:∀{α:Type} {t:Sem α} {Q Q':α->aC->Prop} {E:af->aC->Prop} {s:aC},wpAny (model Z.prog Z.w) Z.A t Q Z.xe s->(∀a s,Q a s->Q' a s)->wpAny (model Z.prog Z.w) Z.A t Q' E s:=λh hQ=>by
   rw[hxe]at h;exact CK h hQ
  refine aI<|F (hg _ s7 B H7 x u _ I7' r7<|step x H7 y7) λ_ s8 ⟨j,H8,I8,q8⟩=>?_;refine aI<|F (ht _ s8 j H8 _ I8 q8) λok s9 ⟨H9,I9,U⟩=>?_;have again:∀{k:aC} {f:Hp},Inv Z (pins++vq fp s7.heap) j f k->(∃Y,Y<n/\V (i+1) Y j f) ->
    ∃m,m<n/\∃i σ' H',Inv Z pins σ' H' k/\tn i k.heap/\(∀b∈fp,H' b=none)/\V i m σ' H':=λ{k f} z h9=>by
   obtain⟨Y,hm,M⟩:=h9;refine⟨Y,hm,i+1,j,f,z.pP,T.keep _ _ _ G λb C o e=>(z.pin (b,o)<|bz _<|bz _<|kL C e).1,λb C=>?_,M⟩;obtain⟨o,e,d⟩:=T.obj _ _ G b C;exact(z.pin (b,o)<|bz _<|bz _<|kL C e).2.1
  cases ok with
  | false=>
   rw[aK bK]at U;exact aR ⟨rfl,again I9 U⟩
  | true=>
   rw[aL rfl]at U;refine aI<|aI<|F (he _ s9 j H9 _ I9 U) λy k ⟨L,f,z,r10,ys,hD,hz,M⟩=>?_;refine aI<|F (wX _ k j f (.ref D) [L] _ [y] (λ_ H'=>H'=upd f D (.lst<|ys++[L])) z rfl (.cons r10 .nil) ⟨_,ys,L,rfl,rfl,hD,hz,rfl⟩) λ_ s11 ⟨_,H11,I11,_,e11⟩=>?_;subst e11;exact aR<|aR ⟨rfl,again I11 M⟩
abbrev Ry (cap:List<|bn)(g:TG)(tc:TT)(wi2:TI)(g2:TG)(tc2:TT)(te:TE)(σ:L2.St)(Q:VK)(J:It)(H1:Hp):Prop:=∀D,H1 D=none ->
 ∃W:Nat->Nat->L2.St->Hp->Prop,(∃m,W 0 m (cap.map<|QA σ)<|upd H1 D<|.lst [])/\∀i m j H',W i m j H' ->
  (J.stop i H'/\Q (.ref D) H')\/(J.go i H'/\∀x H2,J.yld i H' x H2->g x j H2 λd H3=>tc d H3 λb p=>
   if b=true then wi2 d p (NS g2 tc2 te D (λk q=>∃f,f<m/\W (i+1) f k q) d)
   else ∃f,f<m/\W (i+1) f d p)
abbrev ZH (cap:List<|bn)(wi:TI)(g:TG)(tc:TT)(wi2:TI)(g2:TG)(tc2:TT)(te:TE):TE:=λσ H Q=>wi σ H<|Ry cap g tc wi2 g2 tc2 te σ Q
def Vw{X:Cx}{iter:aE}{N:ar}{wi wi2:TI}{g g2:TG}{tc tc2:TT}{te:TE}(hc:X.calm=true)(S:CpScope X scope N cap)(hi:PI X tg iter wi)
  (hg:∀C s₀ H₀ ex,PG (j4 X scope N C s₀ H₀ ex) tg g) (ht:∀C s₀ H₀ ex,PR (j4 X scope N C s₀ H₀ ex) ifs tc) (hi2:∀C s₀ H₀ ex,PI (j4 X scope N C s₀ H₀ ex) tg2 iter2 wi2)
  (hg2:∀C s₀ H₀ ex,PG (j4 X scope N C s₀ H₀ ex) tg2 g2) (ht2:∀C s₀ H₀ ex,PR (j4 X scope N C s₀ H₀ ex) ifs2 tc2) (he:∀C s₀ H₀ ex,PE (j4 X scope N C s₀ H₀ ex) elt te)
  (hs:∀x,foldedSetIterable iter X.env x=pure x:=by intro _;rfl) (hs2:∀env x,foldedSetIterable iter2 env x=pure x:=by intro _ _;rfl):PE X (.ListComp elt [⟨tg,iter,ifs,0⟩,⟨tg2,iter2,ifs2,0⟩] scope pos) (ZH cap wi g tc wi2 g2 tc2 te):=by
 kt_k;kpf_c;rw[eval_ListComp];refine wpAny_comprehension_free (use:=none) rfl hs (z7 hfree) S.kind S.nm<|kj (hi pins s σ H _ I h) λxv s1 h1=>kj h1 λitv f h2=>?_;obtain⟨it,fp,tn,J,H2,rfl,I2,T,st2,f2,h2⟩:=h2;refine c7<|GV λU B old F=>?_;obtain⟨W,⟨m0,w0⟩,turn⟩:=h2 f.heap.objs.size I2.fresh;dsimp only at B old F ⊢;have I3:Inv X pins σ (upd H2 f.heap.objs.size<|.lst []) { f with heap:=f.heap.push {}}:=I2.RP (t':=f.toks) (its:=[]) .nil<|cE _;have hfp:∀b∈fp,∃o,f.heap.get? b=some o:=λb j=>by
  obtain⟨o,e,_⟩:=T.obj 0 _ st2 b j;exact⟨o,e⟩
 have neD:∀b∈fp,b≠f.heap.objs.size:=λb j=>by
  obtain⟨o,e⟩:=hfp b j;exact bC<|bg e
 have f3:∀b∈fp,uB X pins (upd H2 f.heap.objs.size<|.lst []) b:=λb j=>⟨by rw[iZ<|neD b j];exact(f2 b j).1,(f2 b j).2⟩;have hDC:f.heap.objs.size≠(f.heap.push {}).objs.size:=by rw[eN];exact bC (cZ _)
 have I4:=MD (tk:=f.toks+([]:List<|Str×af).length) (fp:=fp) S I3 f3 (λb j=>by
  obtain⟨o,e⟩:=hfp b j;exact⟨o,aT _ e⟩) B F old
 have st4:tn 0 U:=T.keep _ _ _ st2 λb j o e=>old b o<|aT _ e;have G:∀{H':Hp},(∀b∈fp,H' b=none)->∀b∈fp,uB (j4 X scope N (f.heap.push {}).objs.size { f with heap:=f.heap.push {}} (upd H2 f.heap.objs.size<|.lst []) fp) [] H' b:=λhn b j=>by
  have ok:=I4.ok;refine⟨hn b j,(ok.exf b j).1,ok.exfs b j,.inl j,λx c e=>(ok.exf b j).2 x c e,λp hp=>nomatch hp⟩
 have Y:∀s4:aC,s4={ f with heap:=U,toks:=f.toks+([]:List<|Str×af).length } ->
   codeAny (model X.prog X.w) X.A (.compLoop (.ListComp elt [⟨tg,iter,ifs,0⟩,⟨tg2,iter2,ifs2,0⟩] scope pos) 0 (.ref it) (.ref f.heap.objs.size)<|compEnvC scope (cellsFrom ((f.heap.push {}).objs.size+1) scope.names<|uX X.env scope.names []) (f.heap.push {}).objs.size X.env)
    (compPost (model X.prog X.w) X.A X.xe none (EP X pins σ Q) (.ref f.heap.objs.size) (f.heap.push {}).objs.size) s4:=by
  rintro s4 rfl;refine codeAny_loop rfl (λn s'=>∃i K H',Inv (j4 X scope N (f.heap.push {}).objs.size { f with heap:=f.heap.push {}} (upd H2 f.heap.objs.size<|.lst []) fp) [] K H' s'/\tn i s'.heap/\(∀b∈fp,H' b=none)/\W i n K H') (λn s5 hI=>?_) m0 ⟨0,_,_,I4,st4,λb j=>(f3 b j).1,w0⟩;obtain⟨i,P,H5,I5,st5,fr5,w5⟩:=hI;show wpAny _ X.A ((compTurn (.ListComp elt [⟨tg,iter,ifs,0⟩,⟨tg2,iter2,ifs2,0⟩] scope pos) 0 (.ref it) (.ref f.heap.objs.size)<|compEnvC scope (cellsFrom ((f.heap.push {}).objs.size+1) scope.names<|uX X.env scope.names []) (f.heap.push {}).objs.size X.env).onRaise λx=>do noteFrame x _;theTreesLotGoes x) _ _ s5;refine wpAny_noted ?_;rw[BJ];refine aI (eF<|aI ?_)
  rcases turn i n P H5 w5 with⟨stop,q⟩|⟨go,step⟩
  ·refine kj (T.done (j4 X scope N (f.heap.push {}).objs.size { f with heap:=f.heap.push {}} (upd H2 f.heap.objs.size<|.lst []) fp) rfl rfl rfl hc i [] s5 P H5 _ I5 (G fr5) st5 stop) λr s6 h9=>?_;obtain⟨hr,I6⟩:=h9;subst hr;obtain⟨m6,hn6,_⟩:=I6.loc;refine aR ⟨m6,hn6,λh' sb=>?_⟩;have u6:=I6.base;have nC:∀b o,(f.heap.push {}).get? b=some o->b≠(f.heap.push {}).objs.size:=λb o e=>bC<|bg e;refine⟨.ref f.heap.objs.size,H5,?_,rfl,q⟩;refine I3.Lm (ch:=fp) I6.os ⟨λb o e n j hx=>?_,λb o e n j hx=>?_,λb o e n hx=>?_,λb o e hx=>?_,u6.tups,u6.frzs,u6.tbls⟩ ?_ I6.bare ?_
   ·exact sb.extBut b o (nC b o e) (u6.keep b o e n j hx)
   ·obtain⟨sl,z⟩:=u6.slot b o e n j hx;exact⟨sl,sb.extBut b _ (nC b o e) z⟩
   ·exact u6.free b o e n hx
   ·obtain⟨o',z⟩:=u6.there b o e hx;exact⟨o',sb.extBut b _ (nC b o e) z⟩
   ·intro b o e;have j:∀c v,H5 c=some v->c≠(f.heap.push {}).objs.size:=λc v e z=>by
     rw[z]at e;have:=I6.free;rw[show H5 (f.heap.push {}).objs.size=none from this]at e
     cases e
    refine(I6.hok b o e).stay (λc v hc q=>sb.extBut c v ?_ q) (λ_ q=>q) λ_ _ q=>q
    rcases hc with z|z
    ·rw[z];exact j b o e
    ·exact j c _ z
   ·intro b j;obtain⟨_,z1,_,z3,z4,z5⟩:=f3 b j;exact⟨z3,z1,z4,z5⟩
  ·refine kj (T.item (j4 X scope N (f.heap.push {}).objs.size { f with heap:=f.heap.push {}} (upd H2 f.heap.objs.size<|.lst []) fp) rfl rfl rfl hc i [] s5 P H5 _ I5 (G fr5) st5 go) λr s6 h9=>?_;obtain⟨u,hr,h6⟩:=h9;subst hr;refine aI<|kj h6 λ_ s7 ⟨x,H7,I7,r7,y7,st7,fr7⟩=>?_;have I7':=I7.pinned (G fr7)<|T.obj _ _ st7;refine aI<|CK (hg _ _ _ fp _ s7 P H7 x u _ I7' r7<|step x H7 y7) λ_ s8 ⟨σ8,H8,I8,q8⟩=>?_;refine aI<|CK (ht _ _ _ fp _ s8 σ8 H8 _ I8 q8) λok s9 ⟨H9,I9,q9⟩=>?_;have again:∀{L:aC} {O:Hp} {k:L2.St},Inv (j4 X scope N (f.heap.push {}).objs.size { f with heap:=f.heap.push {}} (upd H2 f.heap.objs.size<|.lst []) fp) ([]++vq fp s7.heap) k O L->(∃m',m'<n/\W (i+1) m' k O) ->
     ∃m,m<n/\∃i K H',Inv (j4 X scope N (f.heap.push {}).objs.size { f with heap:=f.heap.push {}} (upd H2 f.heap.objs.size<|.lst []) fp) [] K H' L/\tn i L.heap/\(∀b∈fp,H' b=none)/\W i m K H':=λ{L O k} I10 h9=>by
    obtain⟨m',hm,w10⟩:=h9;refine⟨m',hm,i+1,k,O,I10.pP,T.keep _ _ _ st7 λb j o e=>(I10.pin (b,o)<|bz _<|bz _<|kL j e).1,λb j=>?_,w10⟩;obtain⟨o,e,d⟩:=T.obj _ _ st7 b j;exact(I10.pin (b,o)<|bz _<|bz _<|kL j e).2.1
   cases ok with
   | false=>
    rw[aK bK]at q9;exact aR ⟨rfl,again I9 q9⟩
   | true=>
    rw[aL rfl]at q9;refine aI<|CK (hi2 _ _ _ fp _ s9 σ8 H9 _ I9 q9) λxv L h10=>aI<|eF ?_;rw[hs2];refine aI<|aR<|aI<|c_<|CK h10 λitv s11 h11=>?_;obtain⟨it2,fp2,tn2,J2,H11,rfl,I11,T2,V,f11,goal⟩:=h11;have hcz:=hc;have M:=(λ(Z:Cx) (h1:Z.calm=true) (h2:Z.xe=λ_ _=>False) T2 I11=>E5 (Z:=Z) (t1:=tg) (i1:=iter) (f1:=ifs) (i2:=iter2) (scope:=scope) (pos:=pos) h1 h2 T2 I11) _ (show(j4 X scope N _ _ _ fp).calm=true from hcz) rfl T2 I11 V f11 (hg2 _ _ _ fp) (ht2 _ _ _ fp) (he _ _ _ fp) goal;refine aI<|wpAny_runOwn<|gU (tF M<|T2.self _ 0 _ _ _ V M) λr s12 hr12=>?_;obtain⟨hr,σ12,H12,I12,n12⟩:=hr12;subst hr;exact aR ⟨rfl,again I12 n12⟩
 exact codeAny_compStart_list (Y _ rfl)<|T.self _ 0 _ _ _ st4<|Y _ rfl
end L2
namespace L2
open PySem PySem.Spec PyProof.Rows
open PySem.SeqAt
open PySem.AutoSeq1 (wpAny_loadPart')
open PySem.MeetsSeq PySem.MeetsSeq2 PySem.MeetsSeq3 PySem.SeqAt
section
variable {X:Cx}
def Oo:nj X (binaryOp .FloorDiv) (rI (λ_ j=>0<j/\j<18446744073709551616) λi j=>.int<|i / j):=YM λi j _ _ _ _ _ hc q=>by
 have h1:(0:Int)<j:=hc.1;have h2:j<18446744073709551616:=hc.2;refine floordiv_int (by omega) (by rw[Int.fdiv_eq_ediv_of_nonneg i<|by omega];exact q)<|.inl<|PyProof.noPylong_of_log2 ?_;exact bQ ((Nat.log2_lt<|by omega).mpr<|show j.natAbs<2 ^ 64 by omega) ⋯
end
end L2
namespace L2
open PySem PySem.Spec PyProof.Rows
abbrev Y7 (x:Str):It:=⟨λi _=>i<x.cps.size,λi H v H'=>H'=H/\∃c,x.cps[i]?=some c/\v=.str ⟨#[c]⟩,λi _=>i=x.cps.size⟩
def MB{P:aj}{w:ah}{K:au}(x:Str)(t:Tok)(it:ak):Turn P w K tg (Y7 x) [it] it (λi h=>h.IsStrIter it "str_ascii_iterator" x t i) where
 mem:=by simp
 obj:=λi h st b f=>by
  have e:b=it:=by simpa using f
  subst e;obtain⟨o,e,c,d⟩:=st;exact⟨o,e,λv z=>by rw[d]at z;cases z⟩
 keep:=λi h h' st k=>let⟨o,ho,r⟩:=st;⟨o,k it (by simp) o ho,r⟩
 item:=by
  k_ne;subst hP hw hK;kcf_m;have W:=Walks.strAscii (prog:=X.prog) (w:=X.w) (I.ok.hd hc) it x t;refine W.item i s _ _ hg st λv h' m hv g p=>?_;obtain⟨c,u,j,rfl⟩:=hv;have q:Inv X pins σ H { s with heap:=h',toks:=m }:=I.turned (λb o f e=>p b o (by simpa using f) e) f0 f1 f3 f4 f5;obtain⟨o,e,B,d⟩:=id g;exact⟨_,rfl,GB (s:={ s with heap:=h',toks:=m }) e B d ⋯ ⟨.str ⟨#[c]⟩,H,q,⟨u,rfl⟩,⟨rfl,c,j,rfl⟩,g,λb f=>(hf b f).1⟩⟩
 done:=by
  k_ne;subst hP hw hK;kcf_m;have hg:i=x.cps.size:=hg;subst hg;have W:=Walks.strAscii (prog:=X.prog) (w:=X.w) (I.ok.hd hc) it x t;exact W.done s _ _ st λh' m p=>⟨rfl,I.turned (λb o f e=>p b o (by simpa using f) e) f0 f1 f3 f4 f5⟩
 self:=λ_ _ _ _ _ st h=>wpAny_pyIter_striter_ascii st h
section
variable {X:Cx}{tg:aE}
abbrev ZV (tl:TE):TI:=λσ H R=>tl σ H λx H1=>∃y:Str,x=.str y/\y.cps.all (· < 128)=true/\R (Y7 y) H1
def VG{tl:TE}(hl:PE X l tl):PI X tg l (ZV tl):=by
 intro pins s σ H R I h;refine kj (hl pins s σ H _ I h) λv d h9=>?_;obtain⟨x,H1,I1,r1,g⟩:=h9;obtain⟨y,e,j,q⟩:=g;subst e;obtain⟨t,rfl⟩:=r1;refine wpAny_pyIter_ascii j ?_;refine⟨d.heap.objs.size,[d.heap.objs.size],_,_,H1,rfl,I1.kept (t':=d.toks) λb o e=>aT _ e,MB y t _,⟨_,bG _ rfl,rfl,rfl⟩,λb f=>?_,q⟩;have e:b=d.heap.objs.size:=by simpa using f
 subst e;exact I1.JO (aQ _)<|I1.hok.fresh<|aQ _
def Kh:jo X (.type "int") (λxs H Q=>∃(y:Str) (n:Int),xs=[.str y]/\y.length<=640/\PySem.intText? y=some n/\Q (.int n) H):=by
 intro pins s σ H xs us Q I rv h;obtain⟨y,n,rfl,f,hn,q⟩:=h;obtain⟨w,rfl,d⟩:=vals1 rv;obtain⟨u,rfl⟩:=d;exact PySem.W.KIN.call_text hn f ⟨.int n,H,I.tok _,⟨_,rfl⟩,q⟩
end
section
variable {κ:Type}[DecidableEq κ]
abbrev vj (kvs:List<|κ×V)(k:κ):Option V:=(kvs.find? λkv=>decide<|kv.1=k).map (·.2)
abbrev putK (kvs:List<|κ×V)(k:κ)(v:V):List (κ×V):=
 if (kvs.any λkv=>decide<|kv.1=k)=true then kvs.map (λkv=>if kv.1=k then(kv.1,v)else kv)else kvs++[(k,v)]
def v9{p:κ×V}{r:List<|κ×V}{k:κ}(e:p.1=k):vj (p::r) k=some p.2:=by simp[vj,cK,e]
def wR{p:κ×V}{r:List<|κ×V}{k:κ}(e:¬p.1=k):vj (p::r) k=vj r k:=by simp[vj,cK,e]
theorem zu(k:κ):∀kvs:List<|κ×V,(kvs.any λkv=>decide<|kv.1=k)=(vj kvs k).isSome
 | []=>rfl
 | p::r=>by
  rw[fj];by_cases e:p.1=k
  ·dsimp[v9 e,aP e,Bool.true_or,gZ]
  ·rw[wR e,aS e,gG];exact zu k r
def uv(kvs:List<|κ×V)(k:κ)(v:V):(putK kvs k v).length<=kvs.length+1:=by
 unfold putK;split
 ·rw[aH];lia
 ·rw[aY,bq,b8];lia
def xq.Kl{o:Option V}{u:bd}(r:xq o u):o.isSome=u.isSome:=by
 cases o with
 | none=>cases u with
  | none=>rfl
  | some _=>exact(show False from r).elim
 | some _=>cases u with
  | none=>exact(show False from r).elim
  | some _=>rfl
def xq.getD{o:Option V}{u:bd}{d:V}(r:xq o u)(rd:RelV d d'):RelV (o.getD d) (u.getD d'):=by
 cases o with
 | none=>cases u with
  | none=>exact rd
  | some _=>exact(show False from r).elim
 | some _=>cases u with
  | none=>exact(show False from r).elim
  | some _=>exact r
def KV.val(r:KV kvs vs)(k:κ):xq (vj kvs k) (valueAt vs k):=by
 unfold KV at r
 induction r with
 | nil=>exact True.intro
 | @cons p q ps d h t g=>
  obtain⟨h1,h2⟩:=h;by_cases e:p.1=k
  ·have f:q.1=k:=h1.symm.trans e;have b:valueAt (q::d) k=some q.2:=by simp[valueAt,cK,f]
   rw[v9 e,b];exact h2
  ·have f:¬q.1=k:=λz=>e<|h1.trans z;have b:valueAt (q::d) k=valueAt d k:=by simp[valueAt,cK,f]
   rw[wR e,b];exact g
def KV.any{kvs:List<|κ×V}{vs:List<|κ×af}(r:KV kvs vs)(k:κ):(kvs.any λkv=>decide<|kv.1=k)=vs.any λkv=>decide (kv.1=k):=by
 unfold KV at r
 induction r with
 | nil=>rfl
 | cons h t d=>rw[fj,fj,d,h.1]
def KV.repl{kvs:List<|κ×V}{vs:List<|κ×af}(r:KV kvs vs)(k:κ)(ry:RelV y u) :
  KV (kvs.map λkv=>if kv.1=k then(kv.1,y)else kv) (vs.map λkv=>if kv.1=k then(kv.1,u)else kv):=by
 unfold KV at r ⊢
 induction r with
 | nil=>exact .nil
 | @cons p q ps f h t d=>
  rw[bM,bM];refine .cons ?_ d;obtain⟨h1,h2⟩:=h;by_cases e:p.1=k
  ·rw[aL e,aL<|h1.symm.trans e];exact⟨h1,ry⟩
  ·rw[aK e,aK λz=>e<|h1.trans z];exact⟨h1,h2⟩
def KV.put(r:KV kvs vs)(k:κ)(ry:RelV y u):KV (putK kvs k y) (stored vs k u):=by
 unfold putK stored;rw[r.any k];by_cases e:(vs.any λkv=>decide<|kv.1=k)=true
 ·rw[aL e,aL e];exact r.repl k ry
 ·rw[aK e,aK e];exact Paired.snoc r ⟨rfl,ry⟩
def KV.length{kvs:List<|κ×V}{vs:List<|κ×af}(r:KV kvs vs):kvs.length=vs.length:=ig r
end
def JF{P:aj}{w:ah}{k:Key}(r:RelV (kV k) u):(jH P w).is k u=true:=by
 cases k with
 | inl i=>obtain⟨t,e⟩:=(show ∃t,u=Value.int i t from r);subst e;exact DH P w i t
 | inr x=>obtain⟨t,e⟩:=(show ∃t,u=Value.str x t from r);subst e;exact EM P w x t
theorem A_{P:aj}{w:ah}:∀{ks:List Key}{us:ba},Vals (ks.map kV) us->ItemsAre (jH P w) ks us
 | [],_,r=>by rw[iy]at r;cases r;exact .nil
 | k::ks,_,r=>by
  rw[bM]at r
  cases r with
  | cons h t=>exact .cons (JF h)<|A_ t
meta abbrev KT (H:Hp):List (List Key×V)->List (List Key×ak×af)->Prop:=Paired λp q=>p.1=q.1/\H q.2.1=some (.tup<|p.1.map kV)/\RelV p.2 q.2.2
def KT.val{H:Hp}(r:KT H kvs xs)(k:List Key):xq (vj kvs k) ((atKey xs k).map (·.2)):=by
 induction r with
 | nil=>exact True.intro
 | @cons p q ps d h t g=>
  obtain⟨h1,_,h2⟩:=h;by_cases e:p.1=k
  ·have f:q.1=k:=h1.symm.trans e;have b:atKey (q::d) k=some q.2:=by simp[atKey,cK,f]
   rw[v9 e,b];exact h2
  ·have f:¬q.1=k:=λz=>e<|h1.trans z;have b:atKey (q::d) k=atKey d k:=by simp[atKey,cK,f]
   rw[wR e,b];exact g
def KT.repl{H:Hp}{kvs:List<|List Key×V}{xs:List<|List Key×ak×af}(r:KT H kvs xs)(k:List Key)(ry:RelV y u) :
  KT H (kvs.map λkv=>if kv.1=k then(kv.1,y)else kv) (xs.map<|putAt k u):=by
 induction r with
 | nil=>exact .nil
 | @cons p q ps f h t d=>
  rw[bM,bM];refine .cons ?_ d;obtain⟨h1,h2,h3⟩:=h;unfold putAt;by_cases e:p.1=k
  ·rw[aL e,aL<|h1.symm.trans e];exact⟨h1,h2,ry⟩
  ·rw[aK e,aK λz=>e<|h1.trans z];exact⟨h1,h2,h3⟩
def KT.put{H:Hp}(r:KT H kvs xs)(k:List Key)(hb:H b=some (.tup<|k.map kV))(ry:RelV y u) :
  KT H (putK kvs k y) (storedH xs k b u):=by
 have e:(kvs.any λkv=>decide<|kv.1=k)=(atKey xs k).isSome:=by
  rw[zu,(r.val k).Kl,h_]
 unfold putK storedH;rw[e];by_cases q:(atKey xs k).isSome=true
 ·rw[aL q,aL q];exact r.repl k ry
 ·rw[aK q,aK q];exact Paired.snoc r ⟨rfl,hb,ry⟩
def KT.keeps{H H':Hp}(r:KT H kvs xs)(ht:∀b ys,H b=some (.tup ys)->H' b=some (.tup ys)):KT H' kvs xs:=
 Paired.Uk r λ_ _ z=>⟨z.1,ht _ _ z.2.1,z.2.2⟩
section
variable {P:aj}{w:ah}{H:Hp}{h:aq}{a:ak}
def Td(ok:vO P w H h)(e:Rd H a u):jW P w H h a u:=e.ok ok
def Gg{kvs:List<|Key×V}(ok:vO P w H h)(e:Rd H a<|.dK kvs):kvs.length<=sizeLine/\(a == sysModules)=false/\∃vs,KV kvs vs/\h.DictOf (jH P w) a vs:=
 show jW P w H h a (.dK kvs)from Td ok e
def TY{kvs:List<|Key×V}(ok:vO P w H h)(e:H a=some (.dK kvs)):kvs.length<=sizeLine/\(a == sysModules)=false/\∃vs,KV kvs vs/\h.DictOf (jH P w) a vs:=Gg ok<|.inl e
def CP{ks:List Key}(ok:vO P w H h)(e:H a=some (.tup<|ks.map kV)):(tupleKind<|jH P w).is h ks a:=by
 obtain⟨_,its,r,o,h1,h2,_,n,h3⟩:=(show jW P w H h a (.tup<|ks.map kV)from ok a _ e);exact⟨o,its.toArray,n,h1,h2,h3,by simpa using A_ r⟩
def HJ{kvs:List<|List Key×V}(ok:vO P w H h)(e:Rd H a<|.dT kvs):kvs.length<=sizeLine/\(a == sysModules)=false /\
  ∃xs,KT H kvs xs/\h.DictOfH (tupleKind<|jH P w) a xs:=by
 obtain⟨z,y,xs,r,o,es,k,h1,h2,h3,g,j⟩:=(show jW P w H h a (.dT kvs)from Td ok e);refine⟨z,y,xs,r,o,es,k,h1,h2,h3,g,λx d=>?_,j⟩;have all:∀{l:List<|List Key×V} {m:List<|List Key×ak×af},KT H l m->∀x∈m,(tupleKind<|jH P w).is h x.1 x.2.1:=by
  intro l m q
  induction q with
  | nil=>intro x d;exact nomatch d
  | @cons p q ps B hq t f=>
   intro x d
   rcases bE.mp d with e|d
   ·subst e;exact CP ok (by rw[<- hq.1];exact hq.2.1)
   ·exact f x d
 exact all r x d
def W8{kvs:List<|List Key×V}(ok:vO P w H h)(e:H a=some (.dT kvs)):kvs.length<=sizeLine/\(a == sysModules)=false /\
  ∃xs,KT H kvs xs/\h.DictOfH (tupleKind<|jH P w) a xs:=HJ ok<|.inl e
end
abbrev Co (H:Hp)(a:ak)(y:V)(r:Option V):Prop:=
 (∃d k,Rd H a (.dK d)/\y=kV k/\r=vj d k)\/∃d k b,Rd H a (.dT d)/\y=.ref b/\H b=some (.tup<|k.map kV)/\r=vj d k
abbrev LA (H:Hp)(a:ak)(y v:V)(H':Hp):Prop:=
 (∃d k,H a=some (.dK d)/\y=kV k/\d.length<sizeLine/\H'=upd H a (.dK<|putK d k v)) \/
 ∃d k b,H a=some (.dT d)/\y=.ref b/\H b=some (.tup<|k.map kV)/\d.length<sizeLine/\H'=upd H a (.dT<|putK d k v)
theorem Co.k{H:Hp}{a:ak}{k:Key}(e:H a=some (.dK kvs)):Co H a (kV k) (vj kvs k):=.inl ⟨kvs,k,.inl e,rfl,rfl⟩
theorem LA.k{H:Hp}{a:ak}{kvs:List<|Key×V}{k:Key}{v:V}(e:H a=some (.dK kvs))(hl:kvs.length<sizeLine):LA H a (kV k) v (upd H a<|.dK<|putK kvs k v):=.inl ⟨kvs,k,e,rfl,hl,rfl⟩
section
variable {X:Cx}{pins:bo}{σ:St}{H:Hp}{s:aC}{a:ak}{y v:V}{u r:af}{o:Option V}{A:aA}{E:af->aC->Prop}
def Inv.big(I:Inv X pins σ H s):sysModules<s.heap.objs.size:=by
 have h:mainGlobals<s.heap.objs.size:=(I.mod.glob.keeps I.bk).lt;exact iB ⋯ h
def KL{Q:af->aC->Prop}(hu:A.units+1<cLine)(I:Inv X pins σ H s)(g:Co H a y<|some v)(ry:RelV y u)(h:∀w' s',Inv X pins σ H s'->RelV v w'->Q w' s') :
  wpAny (model X.prog X.w) A (getItem (.ref a) u) Q E s:=by
 rcases g with⟨B,k,e,j,l⟩|⟨B,k,b,e,j,F,l⟩
 ·subst j;obtain⟨z,C,vs,d,m⟩:=Gg I.hok e;obtain⟨w',hw,f⟩:=xq.some_of (v:=v) (o:=valueAt vs k) (by rw[l];exact d.val k);exact wpAny_getItem_of (JF ry) m.mapOf hw (h w' _ (I.tok _) f)
 ·subst j
  cases(show u=Value.ref b from ry)
  obtain⟨z,C,xs,d,m⟩:=HJ I.hok e;obtain⟨w',hw,f⟩:=xq.some_of (v:=v) (o:=(atKey xs k).map (·.2)) (by rw[l];exact d.val k);obtain⟨p,hp,q⟩:=a_.mp hw;refine wpAny_getItem_heap (g4 hu) (CP I.hok F) m hp ?_;rw[q];exact h w' _ (I.tok _) f
def B5{h':aq}{t':Nat}{ob:HO}(I:Inv X pins σ H s)(mu:WX<|H a)(hs:Heap.SameBut a s.heap h')(he:∃q,h'.get? a=some q)(new:jW X.prog X.w (upd H a ob) h' a ob) :
  Inv X pins σ (upd H a ob) { s with heap:=h',toks:=t' }:=
 I.write (x:=a) (e:=a) mu (.inl rfl) (λb q d z=>(hs.2 b d).trans z) he new
def MP{P:aj}{w:ah}{H':Hp}{h':aq}{kvs:List<|Key×V}(z:kvs.length<=sizeLine)(hd:(a == sysModules)=false)(rel:KV kvs vs)(dd:h'.DictOf (jH P w) a vs) :
  jW P w H' h' a (.dK kvs):=⟨z,hd,vs,rel,dd⟩
def JX{H':Hp}{Q:Unit->aC->Prop}(hu:A.units+1<cLine)(I:Inv X pins σ H s)(g:LA H a y v H')(ry:RelV y u)(rv:RelV v r)(h:∀s',Inv X pins σ H' s'->Q Unit.unit s') :
  wpAny (model X.prog X.w) A (setItem (.ref a) u r) Q E s:=by
 rcases g with⟨f,k,e,p,l,F⟩|⟨f,k,b,e,p,J,l,F⟩
 ·subst p F;obtain⟨z,C,vs,d,B⟩:=TY I.hok e;have hz:vs.length<=sizeLine:=by rw[<- d.length];exact z
  have m:(putK f k v).length<=sizeLine:=by have:=uv f k v;lia
  refine wpAny_setItem_pairs (hsz:=hz) (JF ry) B λh' j hs=>h _ ?_;have L:∃q,h'.get? a=some q:=let⟨q,_,_,hq,_⟩:=j;⟨q,hq⟩
  exact B5 I (by rw[e];exact True.intro) hs L<|MP m C (d.put k rv) j
 ·subst p F
  cases(show u=Value.ref b from ry)
  obtain⟨z,C,xs,d,B⟩:=W8 I.hok e;have hz:xs.length<=sizeLine:=by rw[<- ig d];exact z
  have m:(putK f k v).length<=sizeLine:=by have:=uv f k v;lia
  refine wpAny_setItem_heap (hsz:=hz) (g4 hu) (CP I.hok J) B λh' j hs=>h _ ?_;obtain⟨q,es,N,hq,h2,h3,M,_,K⟩:=j;refine B5 I (by rw[e];exact True.intro) hs ⟨q,hq⟩ ⟨m,C,_,(d.put k J rv).keeps λc ys G=>?_,q,es,N,hq,h2,h3,M,K⟩;rw[iZ<|YA G e λz=>nomatch z];exact G
end
def Dy{X:Cx}{H:Hp}{s:aC}{a:ak}(I:Inv X pins σ H s)(g:Co H a y o):s.TypeIs (.ref a) "dict" := by
 rcases g with⟨f,k,e,_,_⟩|⟨f,k,b,e,_,_,_⟩
 ·obtain⟨_,_,vs,_,d⟩:=Gg I.hok e;exact d.typeIs
 ·obtain⟨_,_,xs,_,d⟩:=HJ I.hok e;exact d.typeIs
def Pg{P:aj}{w:ah}{H:Hp}(h:aq)(hb:sysModules<h.objs.size):jW P w H (h.push { cls:=.type "dict",data:=.dict #[]}) h.objs.size (.dK []):=
 ⟨cE _,cG.mpr<|cP<|bC hb,[],.nil,Heap.DictOf.new h⟩
abbrev Wr:TE:=λ_ H Q=>∀p,H p=none->Q (.ref p) (upd H p<|.dK [])
section
variable {X:Cx}{pos:Pos}
def LG:PE X (.Dict [] [] pos) Wr:=λpins s σ H Q I h=>
 wpAny_Dict_empty ⟨.ref s.heap.objs.size,_,I.laid (a:=s.heap.objs.size) (o:=.dK []) (t':=s.toks) (λ_ _ q=>aT _ q) (aQ _)<|Pg s.heap I.big,rfl,h _<|I.hok.fresh<|aQ _⟩
end
structure M1 (X:Cx)(o:aE)(m:Str)(apos:Pos)(e:aE)(cpos:Pos):Prop where
 base:attributeBase o m X.env (eval o X.env)=eval o X.env
 few:((backTo cpos<|starEach [e] X.env).all (λx=>!x.1) && (backToKw cpos<|keywordEach [] X.env).all (λx=>x.1.isSome)
  && decide (([e]:List aE).length+([]:List Keyword).length+(if ([]:List Keyword).isEmpty then 0 else 1)<30))=true
 line:(apos.endLine == cpos.line)=true
 trees:backTo cpos (starEach [e] X.env)=[(false,eval e X.env)]
structure M2 (X:Cx)(o:aE)(m:Str)(apos:Pos)(e f:aE)(cpos:Pos):Prop where
 base:attributeBase o m X.env (eval o X.env)=eval o X.env
 few:((backTo cpos<|starEach [e,f] X.env).all (λx=>!x.1) && (backToKw cpos<|keywordEach [] X.env).all (λx=>x.1.isSome)
  && decide (([e,f]:List aE).length+([]:List Keyword).length+(if ([]:List Keyword).isEmpty then 0 else 1)<30))=true
 line:(apos.endLine == cpos.line)=true
 trees:backTo cpos (starEach [e,f] X.env)=[(false,eval e X.env),(false,eval f X.env)]
section
variable {X:Cx}{pins:bo}{σ:St}{H:Hp}{s:aC}{a:ak}{y d:V}{u r:af}{o:Option V}{A:aA}{E:af->aC->Prop}
def Ws{Q:af->aC->Prop}(hu:A.units+1<cLine)(I:Inv X pins σ H s)(g:Co H a y o)(ry:RelV y u)(rd:RelV d r)(h:∀w' s',Inv X pins σ H s'->RelV (o.getD d) w'->Q w' s') :
  wpAny (model X.prog X.w) A (call (.builtin "dict.get") [.ref a,u,r]) Q E s:=by
 rcases g with⟨q,k,e,m,l⟩|⟨q,k,b,e,m,B,l⟩
 ·subst m;obtain⟨z,p,vs,f,j⟩:=Gg I.hok e;refine call_meetsIn dm j.typeIs PySem.F.entry_dict_get (PySem.F.args_dict_get_3 _ _ _) (meets_dict_get_default (jH X.prog X.w) a (JF ry) p r) ⟨_,j.mapOf,h _ _ (I.tok _) ?_⟩;rw[l];exact(f.val k).getD rd
 ·subst m
  cases(show u=Value.ref b from ry)
  obtain⟨z,p,xs,f,j⟩:=HJ I.hok e;refine call_meetsIn dm j.typeIs PySem.F.entry_dict_get (PySem.F.args_dict_get_3 _ _ _) (meetsH_dict_get_default (tupleKind<|jH X.prog X.w) a b p r) ⟨g4 hu,k,xs,CP I.hok B,j,h _ _ (I.tok _) ?_⟩;rw[l];exact(f.val k).getD rd
end
meta abbrev kI:=ag×ag
abbrev rD (x:ag):Int:=reduceHash<|Builtin.Tuple.tupleHashOf<|x.map hashInt
abbrev JG (k:kI):Int:=reduceHash<|Builtin.Tuple.tupleHashOf [rD k.1,rD k.2]
abbrev dpE (x:(kI×ak×af)):DictEntry:=⟨JG x.1,.ref x.2.1,x.2.2⟩
abbrev vA (a:ak)(xs:List<|kI×ak×af)(h:aq):Prop:=(a == sysModules)=false/\xs.length<=sizeLine/\∃o es d,h.get? a=some o/\o.ExactDict/\o.data=.dict es d/\es.toList=xs.map dpE/\(xs.map (·.1)).Nodup
abbrev rR (H:Hp)(b:ak)(k:kI):Prop:=∃r1 r2,H b=some (.tup [.ref r1,.ref r2])/\H r1=some (.tup<|k.1.map V.int)/\H r2=some (.tup<|k.2.map V.int)
section
variable {P:aj}{w:ah}{A:aA}{E:af->aC->Prop}{s:aC}
meta abbrev TK (h:aq)(x:ag)(a:ak):Prop:=∃o d n,h.get? a=some o/\o.cls=.type "tuple" /\ o.data=.seq d n/\IntsAre d.toList x
theorem Ag{P:aj}{w:ah}:∀{x:ag}{vs:ba},IntsAre vs x->ItemsAre (intKind P w) x vs
 | _,_,.nil=>.nil
 | _,_,.cons n t h=>.cons (intKind_is _ _ _ _)<|Ag h
def vH{x:ag}{a:ak}:TK h x a->IsTupleKey (intKind P w) h x a:=λ⟨o,its,n,h1,h2,h3,d⟩=>⟨o,its,n,h1,h2,h3,Ag d⟩
theorem DQ:∀{x y:ag}{vs:ba},IntsAre vs x->IntsAre vs y->x=y
 | _,_,_,.nil,.nil=>rfl
 | _,_,_,.cons n t h,.cons _ _ h'=>by rw[DQ h h']
abbrev uU (h:aq)(k:kI)(a:ak):Prop:=∃o n f d,h.get? a=some o/\o.cls=.type "tuple" /\ o.data=.seq #[.ref f,.ref d] n/\TK h k.1 f/\TK h k.2 d
def uU.ty{k:kI}{a:ak}(x:uU s.heap k a):s.TypeIs (.ref a) "tuple" := let⟨o,_,_,_,ho,hc,_⟩:=x;⟨o,ho,hc⟩
def TK.inj{a:ak}{x:ag}(hx:TK h x a)(hy:TK h y a):x=y:=by
 obtain⟨o,k,n,m,_,p,hi⟩:=hx;obtain⟨o',f,q,j,_,d,g⟩:=hy;obtain rfl:o=o':=aU<|m.symm.trans j;rw[p]at d
 injection d with h1 _
 subst h1;exact DQ hi g
def uU.inj{a:ak}{x:kI}(hx:uU h x a)(hy:uU h y a):x=y:=by
 obtain⟨o,n,q,z,m,_,k,h1,h2⟩:=hx;obtain⟨o',C,B,p,j,_,d,g,f⟩:=hy;obtain rfl:o=o':=aU<|m.symm.trans j;rw[k]at d
 injection d with e _
 have e:=dG Array.toList e
 injection e with e1 e2
 injection e2 with e2 _
 injection e1 with e1
 injection e2 with e2
 subst e1 e2;exact iI (h1.inj g)<|h2.inj f
def DX{h:aq}{x:ag}{a d:ak}{o:Obj}{es ep}(k:TK h x a)(ho:h.get? d=some o)(hd:o.data=.dict es ep)(hs:Heap.SameBut d h h'):TK h' x a:=by
 obtain⟨o',g,n,j,hc,f,hi⟩:=k;have m:a≠d:=by
  rintro rfl;obtain rfl:o'=o:=aU<|j.symm.trans ho;rw[hd]at f;exact nomatch f
 exact⟨o',g,n,(hs.2 a m).trans j,hc,f,hi⟩
def uU.keeps{h:aq}{k:kI}{a d:ak}{o:Obj}{es ep}(x:uU h k a)(ho:h.get? d=some o)(hd:o.data=.dict es ep)(hs:Heap.SameBut d h h'):uU h' k a:=by
 obtain⟨o',n,p,m,g,hc,f,h1,h2⟩:=x;have j:a≠d:=by
  rintro rfl;obtain rfl:o'=o:=aU<|g.symm.trans ho;rw[hd]at f;exact nomatch f
 exact⟨o',n,p,m,(hs.2 a j).trans g,hc,f,DX h1 ho hd hs,DX h2 ho hd hs⟩
def J5{k:kI}{a:ak}{Q:Int->aC->Prop}(hu:A.units+8<cLine)(hk:uU s.heap k a)(h:Q (JG k) { s with toks:=s.toks+(k.1.length+1+(k.2.length+1)+1)}) :
  wpAny (model P w) A (pyHash<|.ref a) Q E s:=by
 have f:=hk.ty;obtain⟨o,n,m,j,q,_,p,h1,h2⟩:=hk;unfold pyHash
 first|unfold pyHashByItsType|skip
 first|refine aI (wpAny_cRoomFor_or (.inr<|by omega) ?_)|skip
 refine aI<|ff f gg.lookup ?_;show wpAny _ _ (if (some (Value.builtin "tuple.__hash__") == some Value.none)=true then _ else _) Q E s;rw[aK<|by rw[beq_builtin_none];exact bK];refine aI<|ff f gg.lookup ?_;show wpAny _ _ (callSpecialIfBoundUnlessNone? (.ref a) "__hash__" _ >>= _) Q E s;refine aI<|wpAny_callSpecialIfBoundUnlessNone?_slot f gg<|eK gg f F.entry_tuple_hash ?_<|F.args_tuple_hash_1 _;show wpAny _ _ (Builtin.Tuple.tupleItemsOf (.ref a) >>= _) _ _ s;refine aI<|g5 q p ?_;refine aI ?_;rw[<- g6];refine gB _
  (λrest (b:Array Int) s'=>(rest=[.ref m,.ref j]/\b.toList=[]/\s'=s)\/(rest=[.ref j]/\b.toList=[rD k.1]/\s'={ s with toks:=s.toks+(k.1.length+1)})\/(rest=[]/\b.toList=[rD k.1,rD k.2]/\s'={ s with toks:=s.toks+(k.1.length+1)+(k.2.length+1)}))
  _ ?_ ?_ _ _ (.inl ⟨rfl,rfl,rfl⟩)
 ·rintro x rest b s' (⟨e,d,rfl⟩|⟨e,d,rfl⟩|⟨e,_,_⟩)
  ·cases e
   refine aI (wpAny_pyHash_tuple (knd:=intKind P w) (ks:=k.1) (by simp;omega) (vH h1) ?_)
   first
    | exact aR (.inr<|.inl ⟨rfl,by rw[fC,d];rfl,rfl⟩)
    | exact aI<|aR<|aR<|.inr<|.inl ⟨rfl,by rw[fC,d];rfl,rfl⟩
  ·cases e
   refine aI (wpAny_pyHash_tuple (knd:=intKind P w) (ks:=k.2) (by simp;omega) (vH h2) ?_)
   first
    | exact aR (.inr<|.inr ⟨rfl,by rw[fC,d];rfl,rfl⟩)
    | exact aI<|aR<|aR<|.inr<|.inr ⟨rfl,by rw[fC,d];rfl,rfl⟩
  ·cases e
 ·rintro b s' (⟨e,_,_⟩|⟨e,_,_⟩|⟨_,d,rfl⟩)
  ·cases e
  ·cases e
  ·show wpAny _ _ (retInt<|Builtin.Tuple.tupleHashOf b.toList) _ _ _;rw[d];refine wpAny_ret_mkInt ?_;show wpAny _ _ (if (decide (-(2:Int) ^ 63<=Builtin.Tuple.tupleHashOf [rD k.1,rD k.2]) && decide (Builtin.Tuple.tupleHashOf [rD k.1,rD k.2]<2 ^ 63))=true then _ else _) Q E _;unfold JG reduceHash at h;by_cases g:(decide (-(2:Int) ^ 63<=Builtin.Tuple.tupleHashOf [rD k.1,rD k.2]) && decide (Builtin.Tuple.tupleHashOf [rD k.1,rD k.2]<2 ^ 63))=true
   ·rw[aL g];rw[aL g]at h;exact aR (by simpa[fm]using h)
   ·rw[aK g];rw[aK g]at h;exact aI<|dW<|aR<|by simpa[fm]using h
def BP{x:kI}{a:ak}{R:Fin->aC->Prop}(hu:A.units+8<cLine)(hx:uU s.heap x a)(hy:uU s.heap y b)(h:R (.done<|.ret<|.bool<|decide<|x=y) s) :
  wpAny (model P w) A (Builtin.«tuple.__eq__» ⟨[.ref a,.ref b],[]⟩) R E s:=by
 have p:=hy.ty;obtain⟨L,na,G,F,k,_,q,h1,h2⟩:=hx;obtain⟨K,nb,J,C,B,_,f,m,g⟩:=hy;show wpAny _ _ (isInstance (.ref b) (.type "tuple") >>= _) _ _ s;refine aI<|wpAny_isInstance p gA ?_;dsimp[bW,bu,bZ];refine aI<|g5 k q ?_;refine aI<|g5 B f ?_;refine aI ?_;refine gB _
  (λrest r s'=>r.1=none/\s'=s/\((rest=[(.ref G,.ref J),(.ref F,.ref C)])\/(rest=[(.ref F,.ref C)]/\x.1=y.1)\/(rest=[]/\x=y)))
  _ ?_ ?_ _ _ ⟨rfl,rfl,.inl rfl⟩
 ·rintro⟨u,v⟩ rest r s' ⟨j,rfl,e|⟨e,hq⟩|⟨e,_⟩⟩
  ·cases e
   refine aI<|wpAny_eqBool_tuple (knd:=intKind P w) (x:=x.1) (y:=y.1) () (vH h1) (vH m) ?_;by_cases d:x.1=y.1
   ·rw[aP d];dsimp[bW,bu,bZ];exact aR ⟨rfl,rfl,.inr<|.inl ⟨trivial,d⟩⟩
   ·rw[aS d];dsimp[di,cN];rw[aS λz=>d<|by rw[z]]at h;exact aI<|aR<|aR<|aR h
  ·cases e
   refine aI<|wpAny_eqBool_tuple (knd:=intKind P w) (x:=x.2) (y:=y.2) () (vH h2) (vH g) ?_;by_cases d:x.2=y.2
   ·rw[aP d];dsimp[bW,bu,bZ];exact aR ⟨rfl,rfl,.inr<|.inr ⟨trivial,iI hq d⟩⟩
   ·rw[aS d];dsimp[di,cN];rw[aS λz=>d<|by rw[z]]at h;exact aI<|aR<|aR<|aR h
  ·cases e
 ·rintro⟨r1,r2⟩ s' ⟨j,rfl,e|⟨e,_⟩|⟨_,e⟩⟩
  ·cases e
  ·cases e
  ·simp only at j;subst j;refine aR ?_;rw[aP e]at h;exact h
def Qj{x:kI}{a:ak}{Q:Bool->aC->Prop}(hu:A.units+16<cLine)(hx:uU s.heap x a)(hy:uU s.heap y b)(h:Q (decide<|x=y) s):wpAny (model P w) A (eqBool (.ref a)<|.ref b) Q E s:=by
 unfold eqBool
 try with_reducible refine c_ ?_
 show wpAny _ _ (if (Value.ref a == Value.ref b)=true then _ else _) Q E s;by_cases d:(Value.ref a == Value.ref b)=true
 ·rw[aL d];have e:a=b:=by have:=eq_of_beq d;injection this
  subst e;obtain rfl:=hx.inj hy;exact aI<|dW<|aR<|by simpa using h
 ·rw[aK d];exact aI (wpAny_richCompare_same_room (op:=.Eq) hx.ty hy.ty gO
   (eK gO hx.ty F.entry_tuple_eq (BP (by simp;lia) hx hy ⟨_,rfl,(λe=>nomatch e),cU h⟩)<|F.args_tuple_eq_2 _ _) ())
def ND{n:Nat}{x:ag}{a:ak}{Q:Bool->aC->Prop}(hk:TK s.heap x a)(h:Q true s):wpAny (model P w) A (eqIsQuiet (n+1)<|.ref a) Q E s:=by
 have hk:=vH (P:=P) (w:=w) hk;have k:=hk.typeIs;obtain⟨o,f,m,q,_,p,hi⟩:=hk;unfold eqIsQuiet;refine aI<|ff k gO.lookup ?_;show wpAny _ _ (isInstance (.ref a) (.type "tuple") >>= _) _ _ s;refine aI<|wpAny_isInstance k gA ?_;dsimp[bW,bu,bZ];refine aI<|wpAny_seqItems q p ?_;refine aI ?_;show wpAny _ _ (forIn f _ _) _ _ s;rw[<- g6];refine gB _ (λrest r s'=>r.1=none/\s'=s/\∀v∈rest,carriedByValue v=true) _ ?_ ?_ _ _ ⟨rfl,rfl,hi.byValue⟩
 ·rintro v rest r s' ⟨g,rfl,d⟩;rw[eqIsQuiet_byValue _<|d v aM];refine aI<|aR ?_;dsimp[bW,bu,bZ];exact aR ⟨rfl,rfl,λu j=>d u<|aO _ j⟩
 ·rintro⟨r1,r2⟩ s' ⟨g,rfl,_⟩;simp only at g;subst g;exact aR h
def F7{k:kI}{a:ak}{Q:Bool->aC->Prop}(hk:uU s.heap k a)(h:Q true s):wpAny (model P w) A (eqIsQuiet 8<|.ref a) Q E s:=by
 have p:=hk.ty;obtain⟨o,m,j,q,B,_,z,h1,h2⟩:=hk;unfold eqIsQuiet;refine aI<|ff p gO.lookup ?_;show wpAny _ _ (isInstance (.ref a) (.type "tuple") >>= _) _ _ s;refine aI<|wpAny_isInstance p gA ?_;dsimp[bW,bu,bZ];refine aI<|wpAny_seqItems B z ?_;refine aI ?_;show wpAny _ _ (forIn (#[Value.ref j,.ref q]:Array af) _ _) _ _ s;rw[<- g6];refine gB _ (λrest r s'=>r.1=none/\s'=s/\∀v∈rest,∃c x,v=Value.ref c/\TK s.heap x c) _ ?_ ?_ _ _ ⟨rfl,rfl,λv hv=>by
  rcases bE.mp hv with e|hv
  ·exact⟨j,k.1,e,h1⟩
  ·exact⟨q,k.2,by simpa using hv,h2⟩⟩
 ·rintro v rest r s' ⟨f,rfl,d⟩;obtain⟨c,x,rfl,C⟩:=d v aM;refine aI<|ND C ?_;dsimp[bW,bu,bZ];exact aR ⟨rfl,rfl,λu g=>d u<|aO _ g⟩
 ·rintro⟨r1,r2⟩ s' ⟨f,rfl,_⟩;simp only at f;subst f;exact aR h
end
abbrev DZ (P:aj)(w:ah):HeapKind P w kI where
 is:=uU
 hash:=JG
 draws:=λk=>k.1.length+1+(k.2.length+1)+1
 room:=λA=>A.units+16<cLine
 inj:=λd hy=>d.inj hy
 keeps:=λx j m hs=>x.keeps j m hs
 pyHash:=λg f h=>J5 () f h
 eqBool:=λg d hy h=>Qj g d hy h
 quiet:=λf h=>F7 f h
section
variable {X:Cx}
def Q6(hu:X.A.units+1<cLine):QK X (λx y H Q=>∃a v,x=.ref a/\Co H a y (some v)/\Q v H):=by
 kst_p;obtain⟨a,z,rfl,g,q⟩:=h
 cases rx
 have j:=Dy I g;unfold subscriptTail;refine aI ?_;rw[getitemInPython_of_ne j.not_modules];refine aI<|ff j PySem.F.slot_dict_getitem.lookup ?_;have fin:wpAny (model X.prog X.w) X.A (subscripted slice false (.ref a) u) (λr d=>wpAny (model X.prog X.w) X.A (letTemporaryGo value (.ref a) r >>= λ_=>pure r) (EP X pins σ Q) X.xe d) X.xe s:=by
  rw[hs];exact wpAny_operating<|KL hu I g ry λm p k f=>aI<|wpAny_letTemporaryGo<|aR ⟨z,H,k,f,q⟩
 first
  | exact aR (aI fin)
  | exact aI (aR<|aI fin)
  | exact aI fin
def set_dict(hu:X.A.units+1<cLine):DU X (λo i v H Q=>∃a H',o=.ref a/\LA H a i v H'/\Q H'):=by
 intro pins s σ H o i v ov iv u Q I j d rv h;obtain⟨a,H',rfl,g,q⟩:=h
 cases j
 exact JX hu I g d rv λk f=>⟨H',f,q⟩
end
abbrev C0 (e:ak)(h:aq):Prop:=∃o vs,h.get? e=some o/\o.data=.fields vs/\vs[2]?=some .none/\o.dict=none
structure Fly (l:List Env)(g:aq)(pn:bo)(H:Hp)(e:ak)(cls:af)(h:aq):Prop where
 ex:∃(B:aq) (a0:af),Heap.FlyingW B l e cls a0 h/\(∀a u,H a=some u->∃o,B.get? a=some o)/\(∀b o,g.get? b=some o->b∉frs l->∃o',B.get? b=some o')/\(∀p∈pn,∃o',B.get? p.1=some o')/\C0 e h
structure Made (X:Cx)(H:Hp)(e:ak)(cls:af)(g:aq)(h:aq):Prop where
 ex:∃(g':aq) (vs:ba),Heap.MadeExcOf g' h e cls vs/\g'.FunFrames X.base X.stack/\(∀a u,H a=some u->∃o,g'.get? a=some o)/\(∀b o,g.get? b=some o->∃o',g'.get? b=some o')/\(∀p∈X.pn,∃o',g'.get? p.1=some o')
abbrev UX (X:Cx)(H:Hp)(e:ak)(cls:af)(s':aC):Prop:=Made X H e cls X.s₀.heap s'.heap\/Fly X.stack X.s₀.heap X.pn H e cls s'.heap
section
abbrev EX (X:Cx):XK:=λcls _ H'=>X.ex=[]/\∀pins d s' e,Inv X pins d H' s'->UX X H' e cls s'->X.xe (.ref e) s'
end
inductive FParts (X:Cx):List aE->List (Str ⊕ TE)->Prop
 | nil:FParts X [] []
 | txt {x:Str} {j pos} {es:List aE} {ps:List<|Str ⊕ TE} (h:FParts X es ps):FParts X (.Constant (.str x) j pos::es) (.inl x::ps)
 | val {e:aE} {pos:Pos} {t:TE} {es:List aE} {ps:List<|Str ⊕ TE} (he:PE X e t) (h:FParts X es ps):FParts X (.FormattedValue e (-1) none pos::es) (.inr t::ps)
abbrev xu:HO:=.ext λ_=>True
structure XO (C:ak)(o:Obj):Prop where
 cls:o.cls=.ref C
 dict:o.dict=none
 ctx:∃vs,o.data=.fields vs/\vs[2]?=some .none
structure Fr0 (X:Cx)(e:ak):Prop where
 no:∀o,X.s₀.heap.get? e≠some o
 tup:∀xs,X.H₀ e≠some (.tup xs)
 frz:∀o u,X.H₀ e≠some (.frz o u)
 tbl:∀ps,X.H₀ e≠some (.tbl ps)
abbrev mroIn (K:au)(C:ak):Option (ba):=match K.lookup C with
 | some ⟨.type "type",_,.cls cd,sl⟩=>(match cd.mro,sl.toList with
  | .ref C'::bm,[_,_,_,_,some<|.builtin _,_]=>if C'=C/\cd.hasDel=false then some bm else none
  | _,_=>none)
 | _=>none
structure ClsAt (h:aq)(C:ak)(bm:ba):Prop where
 ex:∃nm q N bs hdct sn sub ab col dd k0 k1 k2 k3 k5 newId,h.get? C=some (excClassObj nm q C N bs bm hdct sn sub ab col dd k0 k1 k2 k3 k5 newId)
open PySem.W in
structure XCls (K:au)(C:ak):Prop where
 ga:findIn K (.ref C) "__getattribute__" = some (some<|.builtin "BaseException.__getattribute__")
 gt:findIn K (.ref C) "__getattr__" = some none
 fc:findObj K C none "__class__" = some (.bind (.builtin "getset_descriptor.__get__")<|.builtin "object.__class__")
 ob:PySem.W.mroIn K C (.type "object")=some true
 bs:subIn K (.ref C) (.type "BaseException")=some true
abbrev UY (A:aA):aA:={ A with handled:=none }
abbrev WR (k:Nat)(A:aA):Prop:=Room k<|UY A
structure Hnd (A:aA)(H:Hp)(e:ak)(oe:Obj)(C:ak):Prop where
 hh:A.handled=some (.ref e)
 h0:H e=some (.frz oe xu)
 xo:XO C oe
structure FnOkH (P:aj)(w:ah)(K:au)(mg:Str->bd)(base:aq)(k:Nat)(f:ak)(fd:FuncData)(ps:ar)(sp:Sp):Prop where
 len:∀vs H Q E,sp vs H Q E->vs.length=ps.length
 run:∀(A:aA) (outer:List Env) (s:aC) (H:Hp) (args:Args) (us:ba) (vs:List V) (Q:VK) (e:ak) (oe:Obj) (C:ak),WR k A->Hnd A H e oe C->Env0 P w K mg base A outer s H->BindsTo s fd args (ps.zip us)->Vals vs us->sp vs H Q E0 ->
  codeAny (model P w) A (.call (.ref f) args) (CR oW outer P w H s Q E0) s
end L2
namespace L2
open PySem PySem.Spec PyProof.Rows PySem.SeqAt
def Vy:bootBuiltins "sum" = some (.builtin "sum"):=by decide +kernel
def Vu:bootBuiltins "zip" = some (.type "zip"):=by decide +kernel
section
variable {X:Cx}
def Kf(hc:X.calm=true):jo X (.builtin "sum") (λxs H Q=>∃(p:ak) (ns:ag),xs=[.ref p]/\lT X.K H p (ns.map V.int)/\Q (.int ns.sum) H):=by
 w_up;obtain⟨p,ns,rfl,hq,q⟩:=h;kj_on
 cases rx
 o_rec;have hi:=intsAre_of rv;have f:=pl.isList;obtain⟨ys,e⟩:=hi.allInts.items;have d:ns=ys.toList.map (·.1):=by
  rw[<- hi.numsOf,<- nums_intItems,<- e]
 rw[e]at f;refine sum_intListG (I.ok.hd hc) f λh' k g j=>?_;refine⟨.int _,H,I.kept j,⟨g,rfl⟩,?_⟩;rw[preSum_eq,cg<|by simp,<- d];exact q
end
abbrev Z1 (K:au)(l1 l2:ak):It:=
 ⟨λi H=>∃xs ys x y,lT K H l1 xs/\lT K H l2 ys/\xs[i]?=some x/\ys[i]?=some y,
  λi H v H'=>∃T,H T=none/\v=.ref T/\∀xs ys x y,lT K H l1 xs->lT K H l2 ys->xs[i]?=some x->ys[i]?=some y->H'=upd H T (.tup [x,y]),
  λi H=>∃xs ys,lT K H l1 xs/\lT K H l2 ys/\(xs[i]?=none\/ys[i]?=none)⟩
def Nt{P:aj}{w:ah}{K:au}{TI TO:ak}(D:ZipApart z TI TO i1 i2 l1 l2) :
  Turn P w K (.Tuple elts x1 tpos) (Z1 K l1 l2) [z,TI,TO,i1,i2] z (λi h=>IsZip h z TI TO .none/\IsPair h TI (.ref i1) (.ref i2)/\(∃a b,IsPair h TO a b)/\h.IsListIter i1 l1 i/\h.IsListIter i2 l2 i) where
 mem:=by simp
 obj:=λi h st b J=>by
  obtain⟨Z,V,⟨a,b',s3⟩,⟨o4,e4,c4,d4⟩,⟨o5,e5,c5,d5⟩⟩:=st;have F:b=z\/b=TI\/b=TO\/b=i1\/b=i2:=by simpa using J
  rcases F with rfl|rfl|rfl|rfl|rfl
  ·exact⟨_,Z,λv z=>by cases z⟩
  ·exact⟨_,V,λv z=>by cases z⟩
  ·exact⟨_,s3,λv z=>by cases z⟩
  ·exact⟨o4,e4,λv z=>by rw[d4]at z;cases z⟩
  ·exact⟨o5,e5,λv z=>by rw[d5]at z;cases z⟩
 keep:=λi h h' st k=>by
  obtain⟨Z,V,⟨a,b',s3⟩,s4,s5⟩:=st;exact⟨k z (by simp) _ Z,k TI (by simp) _ V,⟨a,b',k TO (by simp) _ s3⟩,s4.at λo C=>k i1 (by simp) o C,s5.at λo C=>k i2 (by simp) o C⟩
 item:=by
  k_ne;subst hP hw hK;obtain⟨Z,V,⟨a,b',s3⟩,s4,s5⟩:=st;obtain⟨xs,ys,x,y,U,W,hx,hy⟩:=hg;obtain⟨its1,rv1,p1,hz1⟩:=I.list U;obtain⟨its2,rv2,p2,hz2⟩:=I.list W;obtain⟨u1,hu1,ru1⟩:=rv1.get hx;obtain⟨u2,hu2,ru2⟩:=rv2.get hy;refine wpAny_pyNext_zip_item D Z V s3 s4 s5 p1.isList p2.isList (x:=u1) (y:=u2) (by simpa using hu1) (by simpa using hu2) λh' hz' hTO' h1' h2' hT hsz hk=>?_;refine⟨_,rfl,wpAny_letOwnedTupleGo_zip hz' λh2 he2 T=>?_⟩;have fT:H s.heap.objs.size=none:=I.hok.fresh<|aQ _;have lz:z<s.heap.objs.size:=bg Z;have lTI:TI<s.heap.objs.size:=bg V;have lTO:TO<s.heap.objs.size:=bg s3;have li1:i1<s.heap.objs.size:=by obtain⟨o,C,_⟩:=s4;exact bg C
  have li2:i2<s.heap.objs.size:=by obtain⟨o,C,_⟩:=s5;exact bg C
  have k2:∀b o,b≠z->b≠TO->b≠i1->b≠i2->s.heap.get? b=some o->h2.get? b=some o:=λb o G N O L q=>T.extBut b o G<|hk b o G N O L q;have hT2:IsPair h2 s.heap.objs.size u1 u2:=T.extBut _ _ (ne_of_gt lz) hT;have fz:=hf z (by simp);have fTI:=hf TI (by simp);have d:=hf TO (by simp);have f:=hf i1 (by simp);have g:=hf i2 (by simp);have nT:∀b o,s.heap.get? b=some o->b≠s.heap.objs.size:=λb o q=>bC<|bg q;have p:∀c v,H c=some v->c≠z/\c≠TO/\c≠i1/\c≠i2:=λc v q=>⟨(λw=>by rw[w,fz.1]at q;cases q),(λw=>by rw[w,d.1]at q;cases q),(λw=>by rw[w,f.1]at q;cases q),(λw=>by rw[w,g.1]at q;cases q)⟩;have B:∀b,b∉[z,TO,i1,i2]->b≠z/\b≠TO/\b≠i1/\b≠i2:=λb J=>by simpa using J
  have I2:Inv X pins σ (upd H s.heap.objs.size<|.tup [x,y]) { s with heap:=h2,toks:=s.toks }:=by
   refine I.step (g':=s.gens) (d':=s.drawn) (ch:=[z,TO,i1,i2]) (λb J=>?_) (λb o _ _ j q _=>?_) (λb o _ _ j q _=>?_) (λb o j q n=>?_) (λb o j q=>?_) (λb ys q=>?_) (λb o u' q=>?_) (λb ps q=>?_) (λm hm=>?_) (λb u' q=>?_) I.bare
   ·have F:b=z\/b=TO\/b=i1\/b=i2:=by simpa using J
    rcases F with rfl|rfl|rfl|rfl
    ·exact⟨fz.2.2.2.1,fz.2.1,fz.2.2.2.2.1,fz.2.2.2.2.2⟩
    ·exact⟨d.2.2.2.1,d.2.1,d.2.2.2.2.1,d.2.2.2.2.2⟩
    ·exact⟨f.2.2.2.1,f.2.1,f.2.2.2.2.1,f.2.2.2.2.2⟩
    ·exact⟨g.2.2.2.1,g.2.1,g.2.2.2.2.1,g.2.2.2.2.2⟩
   ·obtain⟨G,N,O,L⟩:=B b j;exact k2 b o G N O L q
   ·obtain⟨G,N,O,L⟩:=B b j;exact⟨o.slots,k2 b o G N O L q⟩
   ·rw[iZ<|nT b o q];exact n
   ·obtain⟨G,N,O,L⟩:=B b j;exact⟨o,k2 b o G N O L q⟩
   ·rw[iZ<|je q fT];exact q
   ·rw[iZ<|je q fT];exact q
   ·exact⟨#[],by rw[iZ<|je q fT,q];simp⟩
   ·obtain⟨o,es,ep,C,r⟩:=hm;exact⟨o,es,ep,k2 _ o (cP fz.2.1) (cP d.2.1) (cP f.2.1) (cP g.2.1) C,r⟩
   ·by_cases J:b=s.heap.objs.size
    ·subst J;rw[jT]at q
     cases q
     exact⟨by show 2<=sizeLine;decide,[u1,u2],.cons ru1<|.cons ru2 .nil,⟨_,hT2,rfl,rfl,0,rfl⟩⟩
    ·rw[iZ J]at q;refine(I.hok b u' q).stay (λc v hc M=>?_) (λc M=>?_) λc ys M=>?_
     ·have Y:c≠z/\c≠TO/\c≠i1/\c≠i2:=by
       rcases hc with w|w
       ·rw[w];exact p b u' q
       ·exact p c _ w
      exact k2 c v Y.1 Y.2.1 Y.2.2.1 Y.2.2.2 M
     ·rw[iZ<|je M fT];exact M
     ·rw[iZ<|je M fT];exact M
  refine⟨.ref s.heap.objs.size,_,I2,rfl,⟨s.heap.objs.size,fT,rfl,λxs' ys' x' y' hy1 hy2 e1 e2=>?_⟩,⟨he2,?_,⟨u1,u2,?_⟩,?_,?_⟩,λb J=>?_⟩
  ·rw[I.y_ hy1 U,hx]at e1;rw[I.y_ hy2 W,hy]at e2
   cases e1;cases e2;rfl
  ·exact k2 TI _ D.TIz D.TITO D.TIi1 D.TIi2 V
  ·exact T.extBut TO _ D.TOz hTO'
  ·exact h1'.at λo C=>T.extBut i1 o D.i1z C
  ·exact h2'.at λo C=>T.extBut i2 o D.i2z C
  ·have F:b=z\/b=TI\/b=TO\/b=i1\/b=i2:=by simpa using J
   rcases F with rfl|rfl|rfl|rfl|rfl
   ·rw[iZ<|bC lz];exact fz.1
   ·rw[iZ<|bC lTI];exact fTI.1
   ·rw[iZ<|bC lTO];exact d.1
   ·rw[iZ<|bC li1];exact f.1
   ·rw[iZ<|bC li2];exact g.1
 done:=by
  k_ne;subst hP hw hK;obtain⟨Z,V,⟨a,b',s3⟩,s4,s5⟩:=st;obtain⟨xs,ys,U,W,hend⟩:=hg;obtain⟨its1,rv1,p1,hz1⟩:=I.list U;obtain⟨its2,rv2,p2,hz2⟩:=I.list W;have hl1:=rv1.length;have hl2:=rv2.length;have fz:=hf z (by simp);have d:=hf TO (by simp);have f:=hf i1 (by simp);have g:=hf i2 (by simp);have hend':its1.toArray[i]?=none\/its2.toArray[i]?=none:=by
   rcases hend with q|q
   ·left;rw[dZ]at q;simp;lia
   ·right;rw[dZ]at q;simp;lia
  refine wpAny_pyNext_zip_end (I.ok.hd hc) D Z V s3 s4 s5 p1.isList p2.isList hend' λh' hk=>⟨rfl,?_⟩;have B:∀b,b∉[z,TO,i1,i2]->b≠z/\b≠TO/\b≠i1/\b≠i2:=λb J=>by simpa using J
  have p:∀c v,H c=some v->c≠z/\c≠TO/\c≠i1/\c≠i2:=λc v q=>⟨(λw=>by rw[w,fz.1]at q;cases q),(λw=>by rw[w,d.1]at q;cases q),(λw=>by rw[w,f.1]at q;cases q),(λw=>by rw[w,g.1]at q;cases q)⟩;refine I.step (g':=s.gens) (d':=s.drawn) (t':=s.toks) (ch:=[z,TO,i1,i2]) (λb J=>?_) (λb o _ _ j q _=>?_) (λb o _ _ j q _=>?_) (λb o j q n=>n) (λb o j q=>?_) (λb ys q=>q) (λb o u' q=>q) (λb ps q=>⟨#[],by rw[q];simp⟩) (λm hm=>?_) (λb u' q=>?_) I.bare
  ·have F:b=z\/b=TO\/b=i1\/b=i2:=by simpa using J
   rcases F with rfl|rfl|rfl|rfl
   ·exact⟨fz.2.2.2.1,fz.2.1,fz.2.2.2.2.1,fz.2.2.2.2.2⟩
   ·exact⟨d.2.2.2.1,d.2.1,d.2.2.2.2.1,d.2.2.2.2.2⟩
   ·exact⟨f.2.2.2.1,f.2.1,f.2.2.2.2.1,f.2.2.2.2.2⟩
   ·exact⟨g.2.2.2.1,g.2.1,g.2.2.2.2.1,g.2.2.2.2.2⟩
  ·obtain⟨G,N,O,L⟩:=B b j;exact hk b o G N O L q
  ·obtain⟨G,N,O,L⟩:=B b j;exact⟨o.slots,hk b o G N O L q⟩
  ·obtain⟨G,N,O,L⟩:=B b j;exact⟨o,hk b o G N O L q⟩
  ·obtain⟨o,es,ep,C,r⟩:=hm;exact⟨o,es,ep,hk _ o (cP fz.2.1) (cP d.2.1) (cP f.2.1) (cP g.2.1) C,r⟩
  ·refine(I.hok b u' q).stay (λc v hc M=>?_) (λc M=>M) λc ys M=>M;have Y:c≠z/\c≠TO/\c≠i1/\c≠i2:=by
    rcases hc with w|w
    ·rw[w];exact p b u' q
    ·exact p c _ w
   exact hk c v Y.1 Y.2.1 Y.2.2.1 Y.2.2.2 M
 self:=λ_ _ _ _ _ st h=>wpAny_pyIter_zip st.1 h
section
variable {X:Cx}
abbrev ZP (K:au)(ta:TA):TI:=λσ H R=>ta σ H λvs H1=>∃a b xs ys,vs=[.ref a,.ref b]/\lT K H1 a xs/\lT K H1 b ys/\R (Z1 K a b) H1
def VY{a b:aE}{ta:TA}{p:Pos}(hg:Gl X "zip")(hm:X.mg "zip" = none)(ha:PA X [a,b] ta)(hs:starEach [a,b] X.env=(false,eval a X.env)::starEach [b] X.env:=by rfl)(hpl:(backTo pos<|starEach [b] X.env).any (·.1)=false:=by rfl):PI X (.Tuple elts x1 tpos) (.Call (.Name "zip" p) [a,b] [] pos) (ZP X.K ta):=by
 intro pins s σ H R I h;refine Call_<|xm I hg hm Vu<|dO (kj (ha pos pins s σ H _ I h) λus d ⟨vs,H1,I1,r1,V⟩=>?_) hs hpl;obtain⟨U,t2,xs,ys,e,j,g,q⟩:=V;subst e;obtain⟨u1,f,rfl,C,r2⟩:∃u f,us=u::f/\RelV (.ref U) u/\Vals [.ref t2] f:=by
  cases r1 with|cons h t=>exact⟨_,_,rfl,h,t⟩
 obtain⟨u2,rfl,m⟩:=vals1 r2
 cases C
 cases m
 obtain⟨O,rv1,p1,Z⟩:=I1.list j;obtain⟨T,rv2,p2,W⟩:=I1.list g;refine call_zip_2 p1.isList p2.isList λh' hz z G J M hsz hk=>?_;have Y:Inv X pins σ H1 { d with heap:=h' }:=I1.kept (t':=d.toks) hk;have N:U<d.heap.objs.size:=by obtain⟨o,F,_⟩:=p1.isList;exact bg F
 have B:t2<d.heap.objs.size:=by obtain⟨o,F,_⟩:=p2.isList;exact bg F
 have fr:∀k,H1 (d.heap.objs.size+k)=none:=λk=>I1.hok.fresh<|Nat.le_add_right _ k;refine wpAny_pyIter_zip hz ⟨_,[d.heap.objs.size+4,d.heap.objs.size+2,d.heap.objs.size+3,d.heap.objs.size,d.heap.objs.size+1],_,_,H1,rfl,Y,Nt<|zipApart_new N B,⟨hz,z,⟨_,_,G⟩,J,M⟩,λb P=>?_,q⟩;have L:∃k,b=d.heap.objs.size+k:=by
  dsimp[bE,List.not_mem_nil,or_false]at P
  rcases P with rfl|rfl|rfl|rfl|rfl
  ·exact⟨4,rfl⟩
  ·exact⟨2,rfl⟩
  ·exact⟨3,rfl⟩
  ·exact⟨0,rfl⟩
  ·exact⟨1,rfl⟩
 obtain⟨k,rfl⟩:=L;exact I1.JO (Nat.le_add_right _ k)<|fr k
end
end L2
namespace L2
open PySem PySem.Spec PyProof.Rows
def Lf{X:Cx}{i:Nat}{spos:Pos}{iter:aE}{N:ar}{wi:TI}{g:TG}{tc:TT}{te:TE}
  (hN:X.N.Nodup) (hi':X.N[i]?=some y) (hx:Loc X.env.scope y) (hc:X.calm=true) (S:CpScope X scope N cap) (hi:PI X tg iter wi)
  (hg:∀C s₀ H₀ ex,PG (j4 X scope N C s₀ H₀ ex) tg g) (ht:∀C s₀ H₀ ex,PR (j4 X scope N C s₀ H₀ ex) ifs tc) (he:∀C s₀ H₀ ex,PE (j4 X scope N C s₀ H₀ ex) elt te)
  (hsw:swapsWith (.ListComp elt [⟨tg,iter,ifs,0⟩] scope pos) (some<|.Name y py) spos.line X.env=pure true)
  (hf:X.fn y=true\/X.env.scope.names.lookup y=some .local) (hs:∀x,foldedSetIterable iter X.env x=pure x:=by intro _;rfl) :
  PS X (.Assign [.Name y py] (.ListComp elt [⟨tg,iter,ifs,0⟩] scope pos) spos) (QT (Xs cap wi g tc te)<|OG i):=by
 ksr_p;rw[exec_Assign_Name_used _ _ _ _ hsw];refine aI (eF<|aI ?_)
 skip
 refine aI<|fH (Ht (ok:=λY=>Y.calm=true) (Q':=λ_ s'=>SP X pins D .next s') S (λ_ _ _ _ _=>hc) (PI.g hi) hg ht he hs pins s σ H _ I h ?_) (λ_ s' hq=>aR<|aR hq) λ_ _ e=>e;intro G C M O m hn k inv q v;have T:=inv G.heap<|Heap.SameBut.refl _ _;obtain⟨L,j⟩:∃o,G.heap.get? C=some o/\∀v,o.data≠.cell v:=by
  obtain⟨o,es,W,e,d,_⟩:=hn;exact⟨o,e,λv z=>by rw[d]at z;cases z⟩
 have U:=T.pinned (fp:=[C]) (λb f=>by rw[bA]at f;rw[f];exact k) (λb f=>by rw[bA]at f;rw[f];exact⟨L,j⟩)
 skip
 refine kj (JB hN hi' hx hf _ G σ O (.ref M) (.ref M) _ U rfl q) λ_ V h9=>?_;obtain⟨F,J,p,P⟩:=h9;have hp:=p.pin (C,L)<|bz _<|bz _<|kL (bA.mpr rfl) j.1;refine⟨m,hn.at' λo e=>by rw[j.1]at e;cases e;exact hp.1,λh' B=>?_⟩;have K:∀c v,J c=some v->c≠C:=λc v e z=>by rw[z,hp.2.1]at e;cases e
 refine⟨F,J,?_,P⟩;refine p.pP.Lm (ch:=[C]) rfl ⟨λb o e n f hx=>?_,λb o e n f hx=>?_,λb o e n hx=>n,λb o e hx=>?_,λ_ _ e=>e,λ_ _ _ e=>e,λ_ _ e=>⟨#[],by rw[Array.append_empty];exact e⟩⟩ ?_ p.bare ?_
 ·exact B.extBut b o (by simpa using hx) e
 ·exact⟨o.slots,B.extBut b o (by simpa using hx) e⟩
 ·exact⟨o,B.extBut b o (by simpa using hx) e⟩
 ·intro b o e;refine(p.hok b o e).stay (λc v hc q=>B.extBut c v ?_ q) (λ_ q=>q) λ_ _ q=>q
  rcases hc with z|z
  ·rw[z];exact K b o e
  ·exact K c _ z
 ·intro b f;rw[bA]at f;rw[f];exact⟨k.2.2.2.1,k.2.1,k.2.2.2.2.1,k.2.2.2.2.2⟩
def Bc(a b:Int):Builtin.Range.rangeSize a b (-1)=if a>b then a-b else 0:=by
 unfold Builtin.Range.rangeSize;dsimp[show ¬((-1:Int)>0)by decide,bZ,Int.neg_neg,Int.ediv_one];split<;>lia
def small_down{a b:Int}(ha:-(2 ^ 62)<=a)(ha':a<2 ^ 62)(hb:-(2 ^ 62)<=b)(hb':b<2 ^ 62):Builtin.Range.small a b (-1)=true:=by
 unfold Builtin.Range.small;rw[Bc];dsimp[Builtin.Range.rangeFitsLong,eL,iE,dJ,beq_iff_eq,show ¬((-1:Int)>0)by decide,bZ];split<;>lia
end L2
namespace Sx
open PySem PyProof.Rows
structure Ord where
 lt:Nat->Nat->Bool
 Rz:∀i,lt i i=false
 tr:∀i j k,lt i j=true->lt j k=true->lt i k=true
 neg:∀i j k,lt i k=true->lt i j=true\/lt j k=true
abbrev P (o:Ord)(i j:Nat):Prop:=o.lt i j=true\/(o.lt j i=false/\i<j)
def Ord.Zl(o:Ord)(h:o.lt i j=true):o.lt j i=false:=by
 cases e:o.lt j i with
 | false=>rfl
 | true=>have:=o.tr _ _ _ h e;rw[o.Rz]at this;cases this
def P.Rz(h:P o i i):False:=by
 rcases h with h|⟨_,h⟩
 ·rw[o.Rz]at h;cases h
 ·lia
def P.trans{k:Nat}(a:P o i j)(b:P o j k):P o i k:=by
 rcases a with a|⟨a,f⟩
 ·rcases b with b|⟨b,d⟩
  ·exact .inl (o.tr _ _ _ a b)
  ·rcases o.neg i k j a with z|z
   ·exact .inl z
   ·rw[b]at z;cases z
 ·rcases b with b|⟨b,d⟩
  ·rcases o.neg j i k b with z|z
   ·rw[a]at z;cases z
   ·exact .inl z
  ·refine .inr ⟨?_,()⟩
   cases e:o.lt k i with
   | false=>rfl
   | true=>
    rcases o.neg k j i e with z|z
    ·rw[b]at z;cases z
    ·rw[a]at z;cases z
def P.of_lt{o:Ord}(h:o.lt i j=true):P o i j:=.inl h
def P.xZ{o:Ord}(h:o.lt j i=false)(hij:i<j):P o i j:=.inr ⟨h,hij⟩
def P.lt{o:Ord}(h:P o i j)(hij:j<i):o.lt i j=true:=by
 rcases h with h|⟨_,h⟩
 ·exact h
 ·lia
def P.ge{o:Ord}(h:P o i j):o.lt j i=false:=by
 rcases h with h|⟨h,_⟩
 ·exact o.Zl h
 ·exact h
abbrev So (o:Ord)(g:Nat->Nat)(a b:Nat):Prop:=∀i j,a<=i->i<j->j<b->P o (g i) (g j)
abbrev Cl (g:Nat->Nat)(a b:Nat):Prop:=∀i,a<=i->i<b->a<=g i/\g i<b
abbrev rev (g:Nat->Nat)(i j:Nat):Nat->Nat:=λk=>if i<=k/\k<j then g (i+j-1-k)else g k
abbrev mv (g:Nat->Nat)(src dst:Nat):Nat->Nat:=λk=>if k=dst then g src else if dst<k/\k<=src then g (k-1)else g k
def zS{g:Nat->Nat}{k:Nat}(h:i<=k)(h2:k<j):rev g i j k=g (i+j-1-k):=aL ⟨h,h2⟩
def o_{g:Nat->Nat}{k:Nat}(h:k<i\/j<=k):rev g i j k=g k:=aK ()
def Lu{g:Nat->Nat}{d:Nat}:mv g s d d=g s:=aL rfl
def Ek{g:Nat->Nat}{d k:Nat}(h:d<k)(h2:k<=s):mv g s d k=g (k-1):=by
 unfold mv;rw[aK (),aL ⟨h,h2⟩]
def Cs{g:Nat->Nat}{d k:Nat}(hd:d<=s)(h:k<d\/s<k):mv g s d k=g k:=by
 unfold mv;rw[aK (),aK ()]
section
variable {prog:aj}{w:ah}{A:aA}{E:af->aC->Prop}{s:aC}{o:Ord}{N:Nat}{f:Nat->Keyed}{kd:SortKind}{g:Nat->Nat}{p:Array (Nat×Nat×Nat)}{st:SortSt}
abbrev AQ (prog:aj)(w:ah)(A:aA)(s:aC)(o:Ord)(N:Nat)(f:Nat->Keyed)(kd:SortKind):Prop:=
 ∀i j,i<N->j<N->∀(d:af->aC->Prop) (Q:Bool->aC->Prop),Q (o.lt i j) s->wpAny (model prog w) A (keyLt' kd (f i).1 (f j).1) Q d s
structure Sg (N:Nat)(f:Nat->Keyed)(kd:SortKind)(g:Nat->Nat)(p:Array (Nat×Nat×Nat))(st:SortSt):Prop where
 size:(arrOf st).size=N
 get:∀i,i<N->(arrOf st)[i]?=some (f<|g i)
 lt:∀i,i<N->g i<N
 kind:kindOf st=kd
 failed:failedOf st=none
 pend:pendingOf st=p
def zl(C:AQ prog w A s o N f kd)(hk:kindOf st=kd)(hi:i<N)(hj:j<N){Q:bj->SortSt->Prop}(q:Q (some<|o.lt i j) st):wpS (model prog w) A E s (lt' (f i)<|f j) Q st:=by
 rw[lt'_eq];refine aV<|gh ?_;rw[hk];refine aV<|wpS_lift<|wpAny_attempt<|C i j hi hj _ _ ⟨rfl,?_⟩;exact br q
def jv{xs:Array Keyed}{i:Nat}{x:Keyed}(e:xs[i]?=some x){Q:Keyed->SortSt->Prop}(q:Q x st):wpS (model prog w) A E s (elem' xs i) Q st:=by
 rw[elem'_eq,e];exact br q
def wV(C:AQ prog w A s o N f kd)(h:Sg N f kd g p st)(hi:i<N)(hj:j<N){Q:bj->SortSt->Prop}(q:Q (some<|o.lt (g i)<|g j) st):wpS (model prog w) A E s (ltAt' i j) Q st:=by
 rw[ltAt'_eq];refine aV (gh ?_)
 skip
 exact aV<|jv (h.get i hi)<|aV<|jv (h.get j hj)<|zl C h.kind (h.lt i hi) (h.lt j hj) q
def Sg.arr(h:Sg N f kd g p st){xs:Array Keyed}{g':Nat->Nat}(hs:xs.size=N)(hg:∀i,i<N->xs[i]?=some (f<|g' i))(hl:∀i,i<N->g' i<N):Sg N f kd g' p (setArr st xs):=⟨hs,hg,hl,h.kind,h.failed,h.pend⟩
def yr(h:Sg N f kd g p st)(hj:j<=N){Q:Unit->SortSt->Prop}(q:∀st',Sg N f kd (rev g i j) p st'->Q Unit.unit st'):wpS (model prog w) A E s (reverseSlice' i j) Q st:=by
 rw[reverseSlice'_eq];refine eW (q _<|h.arr (by rw[mirror_size];exact h.size) (λk d=>?_) λk d=>?_)
 ·rw[getElem?_mirror_all<|by rw[h.size];exact hj];unfold rev;by_cases c:i<=k/\k<j
  ·rw[aL c,aL c];exact h.get _ (by omega)
  ·rw[aK c,aK c];exact h.get _ d
 ·unfold rev;by_cases c:i<=k/\k<j
  ·rw[aL c];exact h.lt _ (by omega)
  ·rw[aK c];exact h.lt _ d
def Vn(h:Sg N f kd g p st){a:Nat}(ha:a<N)(hb:b<=a){Q:Unit->SortSt->Prop}(q:∀st',Sg N f kd (mv g a b) p st'->Q Unit.unit st'):wpS (model prog w) A E s (moveDown' a b) Q st:=by
 rw[moveDown'_eq];refine eW (q _<|h.arr (by rw[bubble_size];exact h.size) (λk d=>?_) λk d=>?_)
 ·rw[getElem?_bubble (by rw[h.size];exact ha) _ (),show a-(a-b)=b by lia];unfold mv;by_cases c:k=b
  ·rw[aL c,aL c];exact h.get _ ha
  ·rw[aK c,aK c];by_cases c2:b<k/\k<=a
   ·rw[aL c2,aL c2];exact h.get _ ()
   ·rw[aK c2,aK c2];exact h.get _ d
 ·unfold mv;by_cases c:k=b
  ·rw[aL c];exact h.lt _ ha
  ·rw[aK c];by_cases c2:b<k/\k<=a
   ·rw[aL c2];exact h.lt _ ()
   ·rw[aK c2];exact h.lt _ d
structure Rn (o:Ord)(g0 g:Nat->Nat)(a b:Nat):Prop where
 out:∀i,i<a\/b<=i->g i=g0 i
 cl:Cl g a b
 so:So o g a b
def Uw{g0:Nat->Nat}{lo k:Nat}(R:Rn o g0 g lo<|lo+k)(hk:g (lo+k)=lo+k)(hl:l<=k)(h1:∀i,i<l->P o (g<|lo+i) (lo+k))(h2:∀i,l<=i->i<k->P o (lo+k) (g<|lo+i)):Rn o g0 (mv g (lo+k)<|lo+l) lo (lo+(k+1)) where
 out i hi:=by rw[Cs () ()];exact R.out i ()
 cl i a b:=by
  by_cases c:i=lo+l
  ·subst c;rw[Lu,hk];lia
  ·by_cases c2:lo+l<i
   ·rw[Ek c2 ()];have:=R.cl (i-1) () ()
    lia
   ·rw[Cs () ()];have:=R.cl i () ()
    lia
 so i j a b d:=by
  by_cases c:i=lo+l
  ·subst c;rw[Lu,Ek b (),hk];have:=h2 (j-1-lo) () ()
   rwa [show lo+(j-1-lo)=j-1 by lia]at this
  ·by_cases c2:lo+l<i
   ·rw[Ek c2 (),Ek () ()];exact R.so _ _ () () ()
   ·rw[Cs (k:=i) () ()];by_cases c3:j=lo+l
    ·subst c3;rw[Lu,hk];have:=h1 (i-lo) ()
     rwa [show lo+(i-lo)=i by lia]at this
    ·by_cases f:lo+l<j
     ·rw[Ek f ()];exact R.so _ _ () () ()
     ·rw[Cs () ()];exact R.so _ _ () () ()
def V4(C:AQ prog w A s o N f kd){g0:Nat->Nat}{lo n ok:Nat}(h:Sg N f kd g p st)(hn:lo+n<=N)(h1:1<=ok)(hok:ok<=n)(R:Rn o g0 g lo<|lo+ok)(hid:∀i,lo+ok<=i->i<lo+n->g0 i=i)
  {Q:Bool->SortSt->Prop} (q:∀g' st',Sg N f kd g' p st'->Rn o g0 g' lo (lo+n)->Q true st'):wpS (model prog w) A E s (binarySort' lo n ok) Q st:=by
 rw[binarySort'_eq,show max ok 1=ok by lia];refine aV (dN (cH (I:=λk c st'=>c=(none,Unit.unit)/\∃g',Sg N f kd g' p st'/\Rn o g0 g' lo (lo+min k n))
  (Q:=λc st'=>c=(none,Unit.unit)/\∃g',Sg N f kd g' p st'/\Rn o g0 g' lo (lo+n)) ?step ?fin ?init) ?post)
 case post=>
  rintro c st' ⟨rfl,g',h',j⟩;exact br<|q g' st' h' j
 case init=>exact⟨rfl,g,h,by rw[show min ok n=ok by lia];exact R⟩
 case fin=>
  rintro c st' ⟨hc,g',h',j⟩;exact⟨hc,g',h',by rwa [show min (max ok n) n=n by lia]at j⟩
 case step=>
  rintro k c st' J M ⟨rfl,g',h',j⟩;rw[show min k n=k by lia]at j;have gk:g' (lo+k)=lo+k:=by rw[j.out _ ()];exact hid _ () ()
  refine aV (dN (cH (I:=λx c z=>z=st'/\∃u v,c=(none,u,v)/\u<=v/\v<=k/\v-u<=k-x /\
    (∀i,i<u->P o (g'<|lo+i) (lo+k))/\(∀i,v<=i->i<k->P o (lo+k) (g'<|lo+i)))
   (Q:=λc z=>z=st'/\∃u v,c=(none,u,v)/\u<=k /\
    (∀i,i<u->P o (g'<|lo+i) (lo+k))/\(∀i,u<=i->i<k->P o (lo+k) (g'<|lo+i))) ?istep ?ifin ?iinit) ?ipost)
  case iinit=>exact⟨rfl,0,k,rfl,(),(),(),λi hi=>(),λi h1 h2=>()⟩
  case ifin=>
   rintro c z ⟨rfl,u,v,rfl,G,m,K,low,top⟩;have:u=v:=()
   subst this;exact⟨rfl,u,u,rfl,m,low,top⟩
  case istep=>
   rintro x c z _ T ⟨rfl,u,v,rfl,G,m,K,low,top⟩;dsimp only;by_cases B:u>=v
   ·rw[aL B];have:u=v:=()
    subst this;exact br ⟨rfl,u,u,rfl,m,low,top⟩
   ·rw[aK B];have O:(u+v) / 2<k:=()
    have U:=j.cl (lo+(u+v) / 2) () ();refine aV<|wV C h' () () ?_;rw[gk]
    cases d:o.lt (lo+k) (g'<|lo+(u+v) / 2)
    case true=>
     dsimp[cN];refine br ⟨rfl,u,(u+v) / 2,rfl,(),(),(),low,λi h1 h2=>?_⟩;by_cases c:i=(u+v) / 2
     ·subst c;exact .inl d
     ·exact(P.of_lt d).trans (j.so _ _ () () ())
    case false=>
     dsimp[bu,bZ];refine br ⟨rfl,(u+v) / 2+1,v,rfl,(),(),(),λi h1=>?_,top⟩;have last:=P.xZ d U.2;by_cases c:i=(u+v) / 2
     ·subst c;exact last
     ·exact(j.so _ _ () () ()).trans last
  case ipost=>
   rintro c z ⟨rfl,u,v,rfl,F,low,top⟩;dsimp only;refine aV<|Vn h' () () λL h3=>?_;refine br ⟨rfl,_,h3,?_⟩;rw[show min (k+1) n=k+1 by lia];exact Uw j gk F low top
end
meta abbrev As:=Option (bn)×Nat
meta abbrev Ds:=Option (bn)×Nat×Nat
abbrev K9 (lo a nrem:Nat):StateT SortSt Sem As:=
 forIn [a:nrem] ((none,a):As) λ_ c=>do
  let x <- ltAt' (lo+c.2) (lo+c.2-1)
  match x with
  | some b=>if b=true then pure (ForInStep.done (none,c.2))else pure (ForInStep.yield (none,c.2+1))
  | _=>pure<|ForInStep.done (some none,c.2)
abbrev EJ (lo n nrem:Nat):StateT SortSt Sem (bn):=do
 reverseSlice' lo (lo+n)
 let c <- K9 lo n nrem
 match c.1 with
 | some r=>pure r
 | none=>pure<|some c.2
abbrev Q0 (lo n nrem:Nat):StateT SortSt Sem Ds:=
 forIn [n:nrem] ((none,n,0):Ds) λ_ c=>do
  let x <- ltAt' (lo+c.2.1) (lo+c.2.1-1)
  match x with
  | some b=>
   if b=true then
    if c.2.2>0 then do
     reverseSlice' (lo+c.2.1-(c.2.2+1)) (lo+c.2.1)
     pure (ForInStep.yield (none,c.2.1+1,0))
    else pure (ForInStep.yield (none,c.2.1+1,0))
   else do
    let x <- ltAt' (lo+c.2.1-1) (lo+c.2.1)
    match x with
    | some b=>
     if b=true then pure (ForInStep.done (none,c.2.1,c.2.2))
     else pure (ForInStep.yield (none,c.2.1+1,c.2.2+1))
    | _=>pure<|ForInStep.done (some none,c.2.1,c.2.2)
  | _=>pure<|ForInStep.done (some none,c.2.1,c.2.2)
abbrev OH (lo n nrem:Nat):StateT SortSt Sem (bn):=do
 liftM (rule "list.sort.descending-run")
 let c <- Q0 lo (n+1) nrem
 match c.1 with
 | some r=>pure r
 | none=>
  if c.2.2>0 then do
   reverseSlice' (lo+c.2.1-(c.2.2+1)) (lo+c.2.1)
   EJ lo c.2.1 nrem
  else EJ lo c.2.1 nrem
def count_eq(lo nrem:Nat):countRun' lo nrem=(do
  let c <- K9 lo 1 nrem
  match c.1 with
  | some r=>pure r
  | none=>
   if (c.2 == nrem)=true then pure (some c.2)
   else if c.2>1 then do
    let x <- ltAt' lo (lo+c.2-1)
    match x with
    | some b=>if b=true then pure (some c.2)else do
      reverseSlice' lo (lo+c.2)
      OH lo c.2 nrem
    | _=>pure none
   else OH lo c.2 nrem):=by
 rw[countRun'_eq];dsimp only;unfold OH EJ Q0 K9;congr 1
 funext c
 obtain⟨r,n⟩:=c
 cases r with
 | some r=>rfl
 | none=>
  dsimp only;split
  ·rfl
  ·split
   ·congr 1
    funext x
    cases x with
    | none=>rfl
    | some b=>
     dsimp only;split
     ·rfl
     ·congr 1
      funext _r
      congr 1
      funext _u
      congr 1;congr 1
      funext s2
      obtain⟨r2,g,j⟩:=s2
      cases r2 with
      | some r2=>rfl
      | none=>
       dsimp only;split
       ·congr 1
        funext _v
        congr 1
        funext _w
        congr 1
        funext s3
        obtain⟨d,f⟩:=s3
        cases d<;>rfl
       ·congr 1
        funext _w
        congr 1
        funext s3
        obtain⟨d,f⟩:=s3
        cases d<;>rfl
   ·congr 1
    funext _u
    congr 1;congr 1
    funext s2
    obtain⟨r2,g,j⟩:=s2
    cases r2 with
    | some r2=>rfl
    | none=>
     dsimp only;split
     ·congr 1
      funext _v
      congr 1
      funext _w
      congr 1
      funext s3
      obtain⟨d,f⟩:=s3
      cases d<;>rfl
     ·congr 1
      funext _w
      congr 1
      funext s3
      obtain⟨d,f⟩:=s3
      cases d<;>rfl
section
variable {prog:aj}{w:ah}{A:aA}{E:af->aC->Prop}{s:aC}{o:Ord}{N:Nat}{f:Nat->Keyed}{kd:SortKind}{g g0:Nat->Nat}{p:Array (Nat×Nat×Nat)}{st:SortSt}
def Rn.snoc{a:Nat}(R:Rn o g0 g a b)(hab:a<b)(hb:g b=b)(h:o.lt b (g<|b-1)=false):Rn o g0 g a (b+1) where
 out i hi:=R.out i ()
 cl i h1 h2:=by
  by_cases c:i=b
  ·subst c;lia
  ·have:=R.cl i h1 ();lia
 so i j h1 h2 h3:=by
  by_cases c:j=b
  ·subst c;rw[hb];have l:=R.cl (j-1) () ();have last:P o (g<|j-1) j:=P.xZ h l.2;by_cases c2:i=j-1
   ·subst c2;exact last
   ·exact(R.so i (j-1) h1 () ()).trans last
  ·exact R.so i j h1 h2 ()
def LZ(C:AQ prog w A s o N f kd){lo a:Nat}(h:Sg N f kd g p st)(hn:lo+nrem<=N)(h1:1<=a)(han:a<=nrem)(R:Rn o g0 g lo<|lo+a)(hid:∀i,lo+a<=i->i<lo+nrem->g0 i=i)
  {Q:As->SortSt->Prop} (q:∀n,a<=n->n<=nrem->Rn o g0 g lo (lo+n)->(n=nrem\/o.lt (lo+n) (g<|lo+n-1)=true)->Q (none,n) st):wpS (model prog w) A E s (K9 lo a nrem) Q st:=by
 unfold K9;refine cH (I:=λx c d=>d=st/\c=(none,x)/\Rn o g0 g lo (lo+x)) ?step ?fin ⟨rfl,rfl,R⟩
 case fin=>
  rintro c d ⟨rfl,rfl,j⟩;rw[show max a nrem=nrem by lia]at j ⊢;exact q nrem han (aQ _) j<|.inl rfl
 case step=>
  rintro x c d k B ⟨rfl,rfl,j⟩;dsimp only;have z:g (lo+x)=lo+x:=by rw[j.out _ ()];exact hid _ () ()
  refine aV<|wV C h () () ?_;rw[z]
  cases m:o.lt (lo+x) (g<|lo+x-1)
  case true=>
   dsimp[cN];exact br<|q x k () j<|.inr m
  case false=>
   dsimp[bu,bZ];exact br ⟨rfl,rfl,j.snoc () z m⟩
structure Dc (o:Ord)(g0 g:Nat->Nat)(a b q:Nat):Prop where
 out:∀i,i<a\/b<=i->g i=g0 i
 cl:Cl g a b
 few:a+(q+1)<=b
 dn:∀i j,a<=i->i<j->j<b->i<b-(q+1)->P o (g j) (g i)
 id:∀i,b-(q+1)<=i->i<b->g i=i
 al:∀i j,b-(q+1)<=i->i<b->b-(q+1)<=j->j<b->o.lt i j=false
def Dc.turn{a q:Nat}(D:Dc o g0 g a b q):(∀i,i<a\/b<=i->rev g (b-(q+1)) b i=g0 i)/\Cl (rev g (b-(q+1)) b) a b/\(∀i j,a<=i->i<j->j<b->P o (rev g (b-(q+1)) b j) (rev g (b-(q+1)) b i))/\(∀i,b-(q+1)<=i->i<b->∃k,rev g (b-(q+1)) b i=k/\b-(q+1)<=k/\k<b):=by
 have few:=D.few;have d:∀i,b-(q+1)<=i->i<b->rev g (b-(q+1)) b i=b-(q+1)+b-1-i:=λi h1 h2=>by
  rw[zS h1 h2];exact D.id _ (by omega)<|by omega
 refine⟨λi hi=>?_,λi h1 h2=>?_,λi j h1 h2 h3=>?_,λi h1 h2=>⟨_,d i h1 h2,by omega,by omega⟩⟩
 ·rw[o_<|by omega];exact D.out i hi
 ·by_cases c:i<b-(q+1)
  ·rw[o_<|by omega];exact D.cl i h1 h2
  ·rw[d i (by omega) h2];omega
 ·by_cases c:i<b-(q+1)
  ·rw[o_ (k:=i)<|by omega];by_cases c2:j<b-(q+1)
   ·rw[o_<|by omega];exact D.dn i j h1 h2 h3 c
   ·rw[d j (by omega) h3];have:=D.dn i (b-(q+1)+b-1-j) h1 (by omega) (by omega) c
    rwa [D.id _ (by omega)<|by omega]at this
  ·rw[d i (by omega)<|by omega,d j (by omega) h3];exact P.xZ (D.al _ _ (by omega) (by omega) (by omega)<|by omega)<|by omega
abbrev Fin (o:Ord)(g0 g:Nat->Nat)(a b:Nat):Prop:=(∀i,i<a\/b<=i->g i=g0 i)/\Cl g a b/\(∀i j,a<=i->i<j->j<b->P o (g j) (g i))
def Dc.ED{a:Nat}(D:Dc o g0 g a b 0):Fin o g0 g a b:=⟨D.out,D.cl,λi j h1 h2 h3=>D.dn i j h1 h2 h3 ()⟩
def Fin.rn{a:Nat}(D:Fin o g0 g a b):Rn o g0 (rev g a b) a b where
 out i hi:=by rw[o_ hi];exact D.1 i hi
 cl i h1 h2:=by
  rw[zS h1 h2];exact D.2.1 _ () ()
 so i j h1 h2 h3:=by
  rw[zS h1 (),zS () h3];exact D.2.2 _ _ () () ()
def Fin.add{a:Nat}(D:Fin o g0 g a b)(hb:g b=b)(hab:a<b)(h:∀i,a<=i->i<b->P o b (g i)):Dc o g0 g a (b+1) 0 where
 out i hi:=D.1 i ()
 cl i h1 h2:=by
  by_cases c:i=b
  ·subst c;lia
  ·have:=D.2.1 i h1 ();lia
 few:=()
 dn i j h1 h2 h3 _:=by
  by_cases c:j=b
  ·subst c;rw[hb];exact h i h1 h2
  ·exact D.2.2 i j h1 h2 ()
 id i h1 h2:=by
  have:i=b:=()
  rw[this,hb]
 al i j h1 h2 h3 h4:=by
  have:i=j:=()
  rw[this];exact o.Rz _
def Hj(C:AQ prog w A s o N f kd){lo n:Nat}(h:Sg N f kd g p st)(hn:lo+nrem<=N)(h1:1<=n)(han:n<=nrem)(D:Fin o g0 g lo<|lo+n)(hid:∀i,lo<=i->i<lo+nrem->g0 i=i)
  {Q:bn->SortSt->Prop} (q:∀m g' st',Sg N f kd g' p st'->1<=m->m<=nrem->Rn o g0 g' lo (lo+m)->Q (some m) st'):wpS (model prog w) A E s (EJ lo n nrem) Q st:=by
 unfold EJ;refine aV<|yr h () λk h2=>?_;exact aV<|LZ C h2 hn h1 han D.rn (λi a b=>hid i () b) λm j d R _=>br<|q m _ _ h2 () d R
def Wv(C:AQ prog w A s o N f kd){lo n:Nat}(h:Sg N f kd g p st)(hn:lo+nrem<=N)(h1:1<=n)(han:n<=nrem)(D:Dc o g0 g lo (lo+n) 0)(hid:∀i,lo<=i->i<lo+nrem->g0 i=i)
  {Q:Ds->SortSt->Prop} (q:∀m e g' st',Sg N f kd g' p st'->1<=m->m<=nrem->Dc o g0 g' lo (lo+m) e->Q (none,m,e) st'):wpS (model prog w) A E s (Q0 lo n nrem) Q st:=by
 unfold Q0;refine cH (I:=λx c st'=>∃e g',c=(none,x,e)/\Sg N f kd g' p st'/\Dc o g0 g' lo (lo+x) e) ?step ?fin ⟨0,g,rfl,h,D⟩
 case fin=>
  rintro c st' ⟨e,g',rfl,h',D'⟩;rw[show max n nrem=nrem by lia]at D' ⊢;exact q nrem e g' st' h' () (aQ _) D'
 case step=>
  rintro x c st' O W ⟨e,g',rfl,h',D'⟩;dsimp only;have few:=D'.few;have B:g' (lo+x)=lo+x:=by rw[D'.out _ ()];exact hid _ () ()
  have F:g' (lo+x-1)=lo+x-1:=D'.id _ () ();refine aV<|wV C h' () () ?_;rw[B,F]
  cases G:o.lt (lo+x) (lo+x-1)
  case true=>
   dsimp[cN];by_cases K:e>0
   ·rw[aL K];obtain⟨Y,t2,T,U⟩:=D'.turn;refine aV<|yr h' () λZ h2=>br ⟨0,_,rfl,h2,?_⟩;refine Fin.add (b:=lo+x) ⟨Y,t2,T⟩ (by rw[o_ ()];exact B) () λi a b=>?_;by_cases c:lo+x-(e+1)<=i
    ·obtain⟨k,M,L,V⟩:=U i c b;rw[M]
     rcases o.neg _ k _ G with z|z
     ·exact .inl z
     ·rw[D'.al _ _ L V () ()]at z;cases z
    ·rw[o_ ()];have:=D'.dn i (lo+x-1) a () () ();rw[F]at this;exact(P.of_lt G).trans this
   ·rw[aK K];have:e=0:=()
    subst this;refine br ⟨0,_,rfl,h',Fin.add (b:=lo+x) D'.ED B () λi a b=>?_⟩;by_cases c:i=lo+x-1
    ·subst c;rw[F];exact .inl G
    ·have:=D'.dn i (lo+x-1) a () () ();rw[F]at this;exact(P.of_lt G).trans this
  case false=>
   dsimp[bu,bZ];refine aV<|wV C h' () () ?_;rw[B,F]
   cases hg:o.lt (lo+x-1) (lo+x)
   case true=>
    dsimp[cN];exact br<|q x e g' st' h' () () D'
   case false=>
    dsimp[bu,bZ];refine br ⟨e+1,g',rfl,h',?_⟩;have J:∀i,lo+x-(e+1)<=i->i<lo+x->o.lt i (lo+x)=false/\o.lt (lo+x) i=false:=λi a b=>by
     constructor
     ·cases z:o.lt i (lo+x)with
      | false=>rfl
      | true=>
       rcases o.neg _ (lo+x-1) _ z with y|y
       ·rw[D'.al _ _ a b () ()]at y;cases y
       ·rw[hg]at y;cases y
     ·cases z:o.lt (lo+x) i with
      | false=>rfl
      | true=>
       rcases o.neg _ (lo+x-1) _ z with y|y
       ·rw[G]at y;cases y
       ·rw[D'.al _ _ () () a b]at y;cases y
    exact {
     out:=λi hi=>D'.out i ()
     cl:=λi a b=>by
      by_cases c:i=lo+x
      ·subst c;lia
      ·have:=D'.cl i a ();lia
     few:=()
     dn:=λi j a b c d=>by
      by_cases z:j=lo+x
      ·subst z;rw[B];have y:=D'.dn i (lo+x-1) a () () ();rw[F]at y;have gi:=D'.cl i a ()
       rcases y with y|⟨_,y⟩
       ·rcases o.neg _ (lo+x) _ y with v|v
        ·rw[hg]at v;cases v
        ·exact .inl v
       ·lia
      ·exact D'.dn i j a b () ()
     id:=λi a b=>by
      by_cases z:i=lo+x
      ·subst z;exact B
      ·exact D'.id i () ()
     al:=λi j a b c d=>by
      by_cases z:i=lo+x
      ·subst z;by_cases y:j=lo+x
       ·subst y;exact o.Rz _
       ·exact(J j () ()).2
      ·by_cases y:j=lo+x
       ·subst y;exact(J i () ()).1
       ·exact D'.al i j () () () ()}
def Je(C:AQ prog w A s o N f kd){lo n:Nat}(h:Sg N f kd g p st)(hn:lo+nrem<=N)(han:n+1<=nrem)(D:Dc o g0 g lo (lo+(n+1)) 0)(hid:∀i,lo<=i->i<lo+nrem->g0 i=i)
  {Q:bn->SortSt->Prop} (q:∀m g' st',Sg N f kd g' p st'->1<=m->m<=nrem->Rn o g0 g' lo (lo+m)->Q (some m) st'):wpS (model prog w) A E s (OH lo n nrem) Q st:=by
 unfold OH;kl_no;refine aV<|Wv C h hn () han D hid λm e g' st' h' k d D'=>?_;dsimp only;by_cases j:e>0
 ·rw[aL j];obtain⟨F,t2,z,_⟩:=D'.turn;exact aV (yr h' () λB h2=>Hj C h2 hn k d ⟨F,t2,z⟩ hid q)
 ·rw[aK j];have:e=0:=()
  subst this;exact Hj C h' hn k d D'.ED hid q
def NU(C:AQ prog w A s o N f kd){lo:Nat}(h:Sg N f kd g p st)(hn:lo+nrem<=N)(h1:1<=nrem)(hid:∀i,lo<=i->i<lo+nrem->g i=i)
  {Q:bn->SortSt->Prop} (q:∀m g' st',Sg N f kd g' p st'->1<=m->m<=nrem->Rn o g g' lo (lo+m)->Q (some m) st'):wpS (model prog w) A E s (countRun' lo nrem) Q st:=by
 rw[count_eq];refine aV (LZ C h hn (aQ 1) h1 (g0:=g) ⟨λ_ _=>rfl,λi a b=>?_,λi j a b c=>()⟩ (λi a b=>hid i () b) λn O M R J=>?_)
 ·have:i=lo:=()
  subst this;rw[hid i (aQ _) ()];lia
 dsimp only;by_cases F:n=nrem
 ·rw[aL<|by simpa using F];exact br (q n g st h O M R)
 ·rw[aK<|by simpa using F];have k:=J.resolve_left F;rw[hid (lo+n-1) () ()]at k;have K:g (lo+n)=lo+n:=hid _ () ();by_cases G:n>1
  ·rw[aL G];refine aV<|wV C h () () ?_;rw[hid lo () (),hid (lo+n-1) () ()]
   cases T:o.lt lo (lo+n-1)
   case true=>
    dsimp[cN];exact br<|q n g st h O M R
   case false=>
    dsimp[bu,bZ];have d:∀i,lo<=i->i<lo+n->g i=i:=λi a b=>hid i a ();have L:∀i j,lo<=i->i<j->j<lo+n->o.lt i j=false/\o.lt j i=false:=λi j a b c=>by
     have r:=R.so i j a b c;rw[d i a (),d j () c]at r;refine⟨?_,r.ge⟩
     cases z:o.lt i j with
     | false=>rfl
     | true=>
      rcases o.neg _ lo _ z with y|y
      ·by_cases x:i=lo
       ·subst x;rw[o.Rz]at y;cases y
       ·have r2:=R.so lo i () () ();rw[d i a (),d lo () ()]at r2;rw[r2.ge]at y;cases y
      ·rcases o.neg _ (lo+n-1) _ y with x|x
       ·rw[T]at x;cases x
       ·by_cases v:j=lo+n-1
        ·subst v;rw[o.Rz]at x;cases x
        ·have r2:=R.so j (lo+n-1) () () ();rw[d j () c,d (lo+n-1) () ()]at r2;rw[r2.ge]at x;cases x
    refine aV<|yr h () λU h2=>Je C h2 hn () ?_ hid q;have B:∀i,lo<=i->i<lo+n->rev g lo (lo+n) i=lo+(lo+n)-1-i:=λi a b=>by rw[zS a b];exact d _ () ()
    refine Fin.add (b:=lo+n) ⟨λi hi=>o_ hi,λi a b=>by rw[B i a b];lia,λi j a b c=>?_⟩ (by rw[o_ ()];exact K) () λi a b=>?_
    ·rw[B i a (),B j () c];exact P.xZ (L _ _ () () ()).2 ()
    ·rw[B i a b];by_cases x:lo+(lo+n)-1-i=lo+n-1
     ·rw[x];exact .inl k
     ·rcases o.neg _ (lo+(lo+n)-1-i) _ k with z|z
      ·exact .inl z
      ·rw[(L _ _ () () ()).1]at z;cases z
  ·rw[aK G];have:n=1:=()
   subst this;refine Je C h hn () ?_ hid q;refine Fin.add (b:=lo+1) ⟨λi hi=>rfl,R.cl,λi j a b c=>()⟩ K () λi a b=>?_;have:i=lo:=()
   subst this;rw[hid i () ()];rw[show i+1-1=i by lia]at k;exact .inl k
end
abbrev lW:Bool->Keyed->Array Keyed->Nat->Nat->Nat->StateT SortSt Sem (bn):=sortPriv% PySem.Builtin.gallop
abbrev V8 (ask:Nat->StateT SortSt Sem (bj))(n at0:Nat):StateT SortSt Sem (bn):=do
 let mut was:=0
 let mut far:=1
 let mut low:=0
 let mut top:=0
 let some yes <- ask at0|return none
 if yes then
  let d:=n-at0
  for _ in [0:n] do
   if far>=d then break
   let some ok <- ask (at0+far)|return none
   if !ok then break
   was:=far
   far:=2 * far+1
  low:=at0+was+1
  top:=at0+min far d
 else
  let d:=at0+1
  for _ in [0:n] do
   if far>=d then break
   let some hit <- ask (at0-far)|return none
   if hit then break
   was:=far
   far:=2 * far+1
  low:=at0+1-min far d
  top:=at0-was
 for _ in [0:n] do
  if low>=top then break
  let m:=low+(top-low) / 2
  let some ok <- ask m|return none
  if ok then low:=m+1 else top:=m
 return some top
def Be(left:Bool)(key:Keyed)(arr:Array Keyed)(base n hint:Nat):lW left key arr base n hint=V8 (λi=>do
  let x <- elem' arr (base+i)
  if left then lt' x key else return (<- lt' key x).map (!·)) n hint:=rfl
section
variable {prog:aj}{w:ah}{A:aA}{E:af->aC->Prop}{s:aC}{st:SortSt}
abbrev YJ (be:Nat->StateT SortSt Sem (bj))(n l0 h0:Nat):StateT SortSt Sem (bn):=do
 let mut low:=l0
 let mut top:=h0
 for _ in [0:n] do
  if low>=top then break
  let m:=low+(top-low) / 2
  let some ok <- be m|return none
  if ok then low:=m+1 else top:=m
 return some top
def Tw{be:Nat->StateT SortSt Sem (bj)}{n h0:Nat}(b:Nat->Bool)(hbe:∀i,i<n->∀Q:bj->SortSt->Prop,Q (some<|b i) st->wpS (model prog w) A E s (be i) Q st)(hb:∀i j,i<=j->j<n->b j=true->b i=true)
  (hlh:l0<=h0) (hn:h0<=n) (hl:∀i,i<l0->b i=true) (hh:∀i,h0<=i->i<n->b i=false)
  {Q:bn->SortSt->Prop} (q:∀k,k<=n->(∀i,i<k->b i=true)->(∀i,k<=i->i<n->b i=false)->Q (some k) st):wpS (model prog w) A E s (YJ be n l0 h0) Q st:=by
 unfold YJ;refine aV (dN (cH (I:=λx c d=>d=st/\∃lo hi,c=(none,lo,hi)/\lo<=hi/\hi<=n/\hi-lo<=n-x/\(∀i,i<lo->b i=true)/\(∀i,hi<=i->i<n->b i=false))
  (Q:=λc d=>d=st/\∃k,c=(none,k,k)/\k<=n/\(∀i,i<k->b i=true)/\(∀i,k<=i->i<n->b i=false)) ?step ?fin ⟨rfl,l0,h0,rfl,hlh,hn,(),hl,hh⟩) ?post)
 case post=>
  rintro c d ⟨rfl,k,rfl,h1,h2,h3⟩;exact br<|q k h1 h2 h3
 case fin=>
  rintro c d ⟨rfl,lo,hi,rfl,h1,h2,h3,p,g⟩;have:lo=hi:=()
  subst this;exact⟨rfl,lo,rfl,h2,p,g⟩
 case step=>
  rintro x c d _ F ⟨rfl,lo,hi,rfl,h1,h2,h3,p,g⟩;dsimp only;by_cases f:lo>=hi
  ·rw[aL f];have:lo=hi:=()
   subst this;exact br ⟨rfl,lo,rfl,h2,p,g⟩
  ·rw[aK f];have C:lo+(hi-lo) / 2<hi:=()
   obtain⟨m,B⟩:∃m,m=lo+(hi-lo) / 2:=⟨_,rfl⟩;rw[<- B]at C ⊢;refine aV (hbe m () _ ?_)
   cases hv:b m
   ·dsimp[bu,bZ];refine br ⟨rfl,lo,m,rfl,(),(),(),p,λi a c=>?_⟩
    cases z:b i with
    | false=>rfl
    | true=>rw[hb m i a c z]at hv;cases hv
   ·dsimp[cN];exact br ⟨rfl,m+1,hi,rfl,(),h2,(),λi a=>hb i m () () hv,g⟩
def IB{be:Nat->StateT SortSt Sem (bj)}{n:Nat}(b:Nat->Bool)(hbe:∀i,i<n->∀Q:bj->SortSt->Prop,Q (some<|b i) st->wpS (model prog w) A E s (be i) Q st)(hb:∀i j,i<=j->j<n->b j=true->b i=true)(hh:hint<n)
  {Q:bn->SortSt->Prop} (q:∀k,k<=n->(∀i,i<k->b i=true)->(∀i,k<=i->i<n->b i=false)->Q (some k) st):wpS (model prog w) A E s (V8 be n hint) Q st:=by
 unfold V8;have p:∀i j,i<=j->j<n->b i=false->b j=false:=λi j a c d=>by
  cases z:b j with
  | false=>rfl
  | true=>rw[hb i j a c z]at d;cases d
 refine aV (hbe hint hh _ ?_)
 cases B:b hint
 ·dsimp only;dsimp[bu,bZ];refine aV (dN (cH (I:=λx c f=>f=st/\∃l u,c=(none,l,u)/\x+1<=u/\l<u/\l<=hint/\b (hint-l)=false)
   (Q:=λc f=>f=st/\∃l u,c=(none,l,u)/\l<u/\l<=hint/\b (hint-l)=false/\(u>=hint+1\/b (hint-u)=true)) ?step ?fin ⟨rfl,0,1,rfl,by omega,by omega,by omega,B⟩) ?post)
  case post=>
   rintro c f ⟨rfl,l,u,rfl,h1,h2,h3,g⟩;dsimp only;refine(Tw b hbe hb (l0:=hint+1-min u (hint+1)) (h0:=hint-l) (by omega) (by omega) (λi a=>?_) (λi a c=>p _ _ a c h3) q:wpS (model prog w) A E s (YJ be n _ _) Q f)
   rcases g with g|g
   ·omega
   ·exact hb i (hint-u) (by omega) (by omega) g
  case fin=>
   rintro c f ⟨rfl,l,u,rfl,h1,h2,h3,g⟩;exact⟨rfl,l,u,rfl,h2,h3,g,.inl<|by omega⟩
  case step=>
   rintro x c f _ C ⟨rfl,l,u,rfl,h1,h2,h3,g⟩;dsimp only;by_cases m:u>=hint+1
   ·rw[aL m];exact br ⟨rfl,l,u,rfl,h2,h3,g,.inl m⟩
   ·rw[aK m];refine aV (hbe _ (by omega) _ ?_)
    cases hv:b (hint-u)
    ·dsimp[bu,bZ];exact br ⟨rfl,u,2 * u+1,rfl,by omega,by omega,by omega,hv⟩
    ·dsimp[cN];exact br ⟨rfl,l,u,rfl,h2,h3,g,.inr hv⟩
 ·dsimp only;dsimp[cN];refine aV (dN (cH (I:=λx c f=>f=st/\∃l u,c=(none,l,u)/\x+1<=u/\l<u/\hint+l<n/\b (hint+l)=true)
   (Q:=λc f=>f=st/\∃l u,c=(none,l,u)/\l<u/\hint+l<n/\b (hint+l)=true/\(u>=n-hint\/b (hint+u)=false)) ?step2 ?fin2 ⟨rfl,0,1,rfl,by omega,by omega,by omega,B⟩) ?post2)
  case post2=>
   rintro c f ⟨rfl,l,u,rfl,h1,h2,h3,g⟩;dsimp only;refine(Tw b hbe hb (l0:=hint+l+1) (h0:=hint+min u (n-hint)) (by omega) (by omega) (λi a=>hb i _ (by omega) h2 h3) (λi a c=>?_) q:wpS (model prog w) A E s (YJ be n _ _) Q f)
   rcases g with g|g
   ·omega
   ·exact p (hint+u) i (by omega) c g
  case fin2=>
   rintro c f ⟨rfl,l,u,rfl,h1,h2,h3,g⟩;exact⟨rfl,l,u,rfl,h2,h3,g,.inl<|by omega⟩
  case step2=>
   rintro x c f _ C ⟨rfl,l,u,rfl,h1,h2,h3,g⟩;dsimp only;by_cases m:u>=n-hint
   ·rw[aL m];exact br ⟨rfl,l,u,rfl,h2,h3,g,.inl m⟩
   ·rw[aK m];refine aV (hbe _ (by omega) _ ?_)
    cases hv:b (hint+u)
    ·dsimp[di,cN];exact br ⟨rfl,l,u,rfl,h2,h3,g,.inr hv⟩
    ·dsimp[bW,bu,bZ];exact br ⟨rfl,u,2 * u+1,rfl,by omega,by omega,by omega,hv⟩
end
section
variable {prog:aj}{w:ah}{A:aA}{E:af->aC->Prop}{s:aC}{o:Ord}{N:Nat}{f:Nat->Keyed}{kd:SortKind}{st:SortSt}
def MT(C:AQ prog w A s o N f kd)(hk:kindOf st=kd){base n:Nat}{arr:Array Keyed}{h:Nat->Nat}(ha:∀i,i<n->arr[base+i]?=some (f<|h i))(hN:∀i,i<n->h i<key)(hkN:key<N)(so:So o h 0 n)(hh:hint<n)
  {Q:bn->SortSt->Prop} (q:∀k,k<=n->(∀i,i<k->P o (h i) key)->(∀i,k<=i->i<n->P o key (h i))->Q (some k) st):wpS (model prog w) A E s (lW false (f key) arr base n hint) Q st:=by
 rw[Be];refine IB (λi=>!o.lt key (h i)) (λi hi m g=>?_) (λi j a b c=>?_) hh λk h1 h2 h3=>q k h1 (λi a=>?_) λi a b=>?_
 ·refine aV<|jv (ha i hi) ?_;dsimp[bu,bZ];exact aV (zl C hk hkN (by have:=hN i hi;lia)<|br g)
 ·by_cases z:i=j
  ·subst z;exact c
  ·have r:=so i j (cE _) () b;have d:o.lt key (h j)=false:=by simpa using c
   cases e:o.lt key (h i)with
   | false=>rfl
   | true=>
    have:=(P.of_lt e).trans r;rw[this.lt<|hN j b]at d;cases d
 ·have:=h2 i a;exact P.xZ (by simpa using this) (hN i ())
 ·have:=h3 i a b;exact .inl<|by simpa using this
def Nf(C:AQ prog w A s o N f kd)(hk:kindOf st=kd){base n:Nat}{arr:Array Keyed}{h:Nat->Nat}(ha:∀i,i<n->arr[base+i]?=some (f<|h i))(hN:∀i,i<n->key<h i/\h i<N)(so:So o h 0 n)(hh:hint<n)
  {Q:bn->SortSt->Prop} (q:∀k,k<=n->(∀i,i<k->P o (h i) key)->(∀i,k<=i->i<n->P o key (h i))->Q (some k) st):wpS (model prog w) A E s (lW true (f key) arr base n hint) Q st:=by
 rw[Be];refine IB (λi=>o.lt (h i) key) (λi hi g d=>?_) (λi j a b c=>?_) hh λk h1 h2 h3=>q k h1 (λi a=>?_) λi a b=>?_
 ·refine aV<|jv (ha i hi) ?_;dsimp[cN];exact zl C hk (hN i hi).2 (by have:=hN i hi;lia) d
 ·by_cases z:i=j
  ·subst z;exact c
  ·have r:=so i j (cE _) () b;exact(r.trans<|P.of_lt c).lt (hN i ()).1
 ·exact .inl (h2 i a)
 ·exact P.xZ (h3 i a b) (hN i b).1
end
abbrev zV:Array Keyed->Array Keyed->StateT SortSt Sem (Array Keyed):=sortPriv% PySem.Builtin.mergeLo
abbrev zj:Array Keyed->Array Keyed->StateT SortSt Sem (Array Keyed):=sortPriv% PySem.Builtin.mergeHi
abbrev xV:Nat->StateT SortSt Sem Unit:=sortPriv% PySem.Builtin.setMinGallop
def RI(m:Nat):xV m=modify λs=>SortSt.mk' (kindOf s) (arrOf s) (pendingOf s) m (failedOf s):=rfl
def FA(a b:Array Keyed):zV a b=(do
 rule "list.sort.merge-lo"
 let all_:=a.size+b.size
 let end1 (acc:Array Keyed) (p q:Nat):=acc++a.extract p a.size++b.extract q b.size
 let end2 (acc:Array Keyed) (p q:Nat):=acc++b.extract q b.size++a.extract p a.size
 let mut acc:Array Keyed:=#[<- elem' b 0]
 let mut p:=0
 let mut q:=1
 if q == b.size then return end1 acc p q
 if p+1 == a.size then return end2 acc p q
 let mut mg:=gallopOf (<- get)
 for _ in [0:all_] do
  let mut ca:=0
  let mut cb:=0
  for _ in [0:all_] do
   let some won <- lt' (<- elem' b q) (<- elem' a p)|return end1 acc p q
   if won then
    acc:=acc.push<|<- elem' b q;q:=q+1;cb:=cb+1;ca:=0
    if q == b.size then return end1 acc p q
    if cb>=mg then break
   else
    acc:=acc.push<|<- elem' a p;p:=p+1;ca:=ca+1;cb:=0
    if p+1 == a.size then return end2 acc p q
    if ca>=mg then break
  rule "list.sort.gallop"
  mg:=mg+1
  for _ in [0:all_] do
   if mg>1 then mg:=mg-1
   xV mg
   let some k <- lW false (<- elem' b q) a p (a.size-p) 0|return end1 acc p q
   ca:=k
   if k>0 then
    acc:=acc++a.extract p (p+k);p:=p+k
    if p+1 == a.size then return end2 acc p q
    if p == a.size then return end1 acc p q
   acc:=acc.push<|<- elem' b q;q:=q+1
   if q == b.size then return end1 acc p q
   let some k <- lW true (<- elem' a p) b q (b.size-q) 0|return end1 acc p q
   cb:=k
   if k>0 then
    acc:=acc++b.extract q (q+k);q:=q+k
    if q == b.size then return end1 acc p q
   acc:=acc.push<|<- elem' a p;p:=p+1
   if p+1 == a.size then return end2 acc p q
   if ca<7 && cb<7 then break
  mg:=mg+1
  xV mg
 unsupported "internal:list.sort.merge-bound"):=rfl
section
variable {o:Ord}{N:Nat}{f:Nat->Keyed}{A B hs:ap}{ia ib:Nat}
abbrev fa (f:Nat->Keyed)(l:ap):Array Keyed:=(l.map f).toArray
def mJ(l:ap):(fa f l).size=l.length:=by unfold fa;rw[aZ,aH]
def Mi(l:ap)(i:Nat):(fa f l)[i]?=(l[i]?).map f:=by unfold fa;rw[dY,bh]
def lY{l:ap}{i x:Nat}(h:l[i]?=some x):(fa f l)[i]?=some (f x):=by rw[Mi,h];rfl
def vY(l:ap)(x:Nat):(fa f l).push (f x)=fa f (l++[x]):=by
 unfold fa;rw[List.push_toArray,cL];rfl
def pY(l m:ap):fa f l++fa f m=fa f (l++m):=by
 unfold fa;rw[List.append_toArray,cL]
def xO(l:ap)(i j:Nat):(fa f l).extract i j=fa f ((l.drop i).take<|j-i):=by
 unfold fa;rw[List.extract_toArray,List.extract_eq_take_drop,ir,map_drop]
def yw(l:ap)(i:Nat):(fa f l).extract i l.length=fa f (l.drop i):=by
 rw[xO,cg<|by rw[bN];lia]
structure Ab (o:Ord)(N:Nat)(A B:ap):Prop where
 sa:A.Pairwise (P o)
 sb:B.Pairwise (P o)
 lt:∀x∈A,∀y∈B,x<y
 nb:∀y∈B,y<N
 na:∀x∈A,x<N
structure Mg (o:Ord)(A B hs:ap)(ia ib:Nat):Prop where
 la:ia<=A.length
 lb:ib<=B.length
 len:hs.length=ia+ib
 so:hs.Pairwise (P o)
 mem:∀x∈hs,x∈A\/x∈B
 ua:∀x∈hs,∀y∈A.drop ia,P o x y
 ub:∀x∈hs,∀y∈B.drop ib,P o x y
abbrev Res (o:Ord)(f:Nat->Keyed)(A B:ap)(out:Array Keyed):Prop:=∃hs:ap,out=fa f hs/\hs.length=A.length+B.length/\hs.Pairwise (P o)/\∀x∈hs,x∈A\/x∈B
def uc{l:ap}(h:l.Pairwise<|P o){i j x:Nat}(hx:l[i]?=some x)(hy:l[j]?=some y)(hij:i<j):P o x y:=by
 obtain⟨h1,e1⟩:=aN.mp hx;obtain⟨h2,e2⟩:=aN.mp hy;rw[<- e1,<- e2];exact cB.mp h i j h1 h2 hij
def wO{l:ap}{y:Nat}(h:y∈l.drop i):∃j,i<=j/\l[j]?=some y:=by
 obtain⟨k,d⟩:=gI h;rw[dz]at d;exact⟨i+k,(),d⟩
def Mg.xS(ab:Ab o N A B)(m:Mg o A B hs ia ib){x:Nat}(hx:A[ia]?=some x)(h:∀y∈B.drop ib,P o x y):Mg o A B (hs++[x]) (ia+1) ib:=by
 obtain⟨h1,e1⟩:=aN.mp hx;have f:A.drop ia=x::A.drop (ia+1):=by rw[<- e1];exact b9 h1
 refine⟨(),m.lb,by rw[aY,m.len];show ia+ib+1=_;lia,?_,λz hz=>?_,λz hz y hy=>?_,λz hz y hy=>?_⟩
 ·rw[b7];exact⟨m.so,cV ..,λa k b g=>by rw[bA.mp g];exact m.ua a k x<|by rw[f];exact aM ..⟩
 ·rcases bF.mp hz with d|d
  ·exact m.mem z d
  ·rw[bA.mp d];exact .inl<|aX hx
 ·rcases bF.mp hz with d|d
  ·exact m.ua z d y (by rw[f];exact aO _ hy)
  ·rw[bA.mp d];obtain⟨j,q,p⟩:=wO hy;exact uc ab.sa hx p ()
 ·rcases bF.mp hz with d|d
  ·exact m.ub z d y hy
  ·rw[bA.mp d];exact h y hy
def Ab.yO(ab:Ab o N A B)(m:Mg o A B hs ia ib){x:Nat}(hx:B[ib]?=some x)(h:∀y∈A.drop ia,P o x y):Mg o A B (hs++[x]) ia (ib+1):=by
 obtain⟨h1,e1⟩:=aN.mp hx;have f:B.drop ib=x::B.drop (ib+1):=by rw[<- e1];exact b9 h1
 refine⟨m.la,(),by rw[aY,m.len];rfl,?_,λz hz=>?_,λz hz y hy=>?_,λz hz y hy=>?_⟩
 ·rw[b7];exact⟨m.so,cV ..,λa k b g=>by rw[bA.mp g];exact m.ub a k x<|by rw[f];exact aM ..⟩
 ·rcases bF.mp hz with d|d
  ·exact m.mem z d
  ·rw[bA.mp d];exact .inr<|aX hx
 ·rcases bF.mp hz with d|d
  ·exact m.ua z d y hy
  ·rw[bA.mp d];exact h y hy
 ·rcases bF.mp hz with d|d
  ·exact m.ub z d y (by rw[f];exact aO _ hy)
  ·rw[bA.mp d];obtain⟨j,q,p⟩:=wO hy;exact uc ab.sb hx p ()
def rV{l:ap}(h:l.Pairwise<|P o){i x:Nat}(hx:l[i]?=some x)(hxy:P o y x):∀z∈l.drop i,P o y z:=λz hz=>by
 obtain⟨j,f,d⟩:=wO hz;by_cases c:j=i
 ·subst c;rw[hx]at d;cases d;exact hxy
 ·exact hxy.trans<|uc h hx d ()
def take_snoc{l:ap}{k x:Nat}(h:l[i+k]?=some x):(l.drop i).take (k+1)=(l.drop i).take k++[x]:=by
 have h':(l.drop i)[k]?=some x:=by rw[dz];exact h
 obtain⟨h1,e1⟩:=aN.mp h';rw[gp h1,e1]
theorem Mg.zI(ab:Ab o N A B)(m:Mg o A B hs ia ib)(hy:B[ib]?=some y):∀k,ia+k<=A.length->(∀i x,i<k->A[ia+i]?=some x->P o x y)->Mg o A B (hs++(A.drop ia).take k) (ia+k) ib
 | 0,_,_=>by rw[fK,cJ];exact m
 | k+1,hk,h=>by
  have f:=Mg.zI ab m hy k () λi x hi=>h i x ();have d:A[ia+k]?=some (A[ia+k]'()):=aG _;rw[take_snoc d,<- bD];exact f.xS ab d<|rV ab.sb hy<|h k _ () d
theorem Mg.zq(ab:Ab o N A B)(m:Mg o A B hs ia ib)(hy:A[ia]?=some y):∀k,ib+k<=B.length->(∀i x,i<k->B[ib+i]?=some x->P o x y)->Mg o A B (hs++(B.drop ib).take k) ia (ib+k)
 | 0,_,_=>by rw[fK,cJ];exact m
 | k+1,hk,h=>by
  have f:=Mg.zq ab m hy k () λi x hi=>h i x ();have d:B[ib+k]?=some (B[ib+k]'()):=aG _;rw[take_snoc d,<- bD];exact ab.yO f d<|rV ab.sa hy<|h k _ () d
def yt{l:ap}(h:l.Pairwise<|P o)(i:Nat):(l.drop i).Pairwise (P o):=h.sublist<|List.drop_sublist ..
def Mg.fin(ab:Ab o N A B)(m:Mg o A B hs ia ib)(h:∀x∈A.drop ia,∀y∈B.drop ib,P o x y):Res o f A B (fa f hs++(fa f A).extract ia A.length++(fa f B).extract ib B.length):=by
 rw[yw,yw,pY,pY];have la:=m.la;have lb:=m.lb;refine⟨_,rfl,by rw[aY,aY,m.len,bN,bN];lia,?_,λx d=>?_⟩
 ·rw[b7,b7];refine⟨⟨m.so,yt ab.sa _,m.ua⟩,yt ab.sb _,λx d y hy=>?_⟩
  rcases bF.mp d with z|z
  ·exact m.ub x z y hy
  ·exact h x z y hy
 ·rcases bF.mp d with z|z
  ·rcases bF.mp z with z|z
   ·exact m.mem x z
   ·exact .inl<|eo z
  ·exact .inr<|eo z
def Mg.UL(ab:Ab o N A B)(m:Mg o A B hs ia ib)(h:∀x∈A.drop ia,∀y∈B.drop ib,P o y x):Res o f A B (fa f hs++(fa f B).extract ib B.length++(fa f A).extract ia A.length):=by
 rw[yw,yw,pY,pY];have la:=m.la;have lb:=m.lb;refine⟨_,rfl,by rw[aY,aY,m.len,bN,bN];omega,?_,λx d=>?_⟩
 ·rw[b7,b7];refine⟨⟨m.so,yt ab.sb _,m.ub⟩,yt ab.sa _,λx d y hy=>?_⟩
  rcases bF.mp d with z|z
  ·exact m.ua x z y hy
  ·exact h y hy x z
 ·rcases bF.mp d with z|z
  ·rcases bF.mp z with z|z
   ·exact m.mem x z
   ·exact .inr<|eo z
  ·exact .inl<|eo z
def drop_nil{l:ap}(h:l.length<=i):l.drop i=[]:=List.drop_eq_nil_of_le h
def Hi{l:ap}(h:l.Pairwise<|P o)(b n:Nat)(hn:b+n<=l.length):So o (λi=>l.getD (b+i) 0) 0 n:=λi j _ d f=>
 uc h (i:=b+i) (j:=b+j) (by show _=some (l.getD (b+i) 0);rw[aJ,aG<|show b+i<l.length by lia];rfl) (by show _=some (l.getD (b+j) 0);rw[aJ,aG<|show b+j<l.length by lia];rfl) ()
def getD_at{l:ap}{i:Nat}(h:i<l.length):l[i]?=some (l.getD i 0):=by
 rw[aJ,aG h];rfl
end
structure Sm (st st':SortSt):Prop where
 a:arrOf st'=arrOf st
 k:kindOf st'=kindOf st
 p:pendingOf st'=pendingOf st
 f:failedOf st'=failedOf st
def Sm.refl{st:SortSt}:Sm st st:=⟨rfl,rfl,rfl,rfl⟩
def Sm.trans{st:SortSt}(a:Sm st st')(b:Sm st' st''):Sm st st'':=⟨b.a.trans a.a,b.k.trans a.k,b.p.trans a.p,b.f.trans a.f⟩
meta abbrev G:=Option (Array Keyed)×Array Keyed×Nat×Nat×Nat×Nat×Nat
abbrev T3 (a b out:Array Keyed)(ia ib mg ac bc:Nat):StateT SortSt Sem (ForInStep G):=do
 let x <- elem' a ia
 if (ia+1+1 == a.size)=true then pure (ForInStep.done (some<|out.push x++b.extract ib b.size++a.extract (ia+1) a.size,out.push x,ia+1,ib,mg,ac,bc))
 else if (decide (ac<7) && decide (bc<7))=true then pure (ForInStep.done (none,out.push x,ia+1,ib,mg,ac,bc))
 else pure (ForInStep.yield (none,out.push x,ia+1,ib,mg,ac,bc))
abbrev T2 (a b out:Array Keyed)(ia ib mg ac bc:Nat):StateT SortSt Sem (ForInStep G):=do
 let x <- elem' b ib
 if (ib+1 == b.size)=true then pure (ForInStep.done (some<|out.push x++a.extract ia a.size++b.extract (ib+1) b.size,out.push x,ia,ib+1,mg,ac,bc))
 else
  let y <- elem' a ia
  let r <- lW true y b (ib+1) (b.size-(ib+1)) 0
  match r with
  | some k=>
   if k>0 then
    if (ib+1+k == b.size)=true then pure (ForInStep.done (some<|out.push x++b.extract (ib+1) (ib+1+k)++a.extract ia a.size++b.extract (ib+1+k) b.size,out.push x++b.extract (ib+1) (ib+1+k),ia,ib+1+k,mg,ac,k))
    else T3 a b (out.push x++b.extract (ib+1) (ib+1+k)) ia (ib+1+k) mg ac k
   else T3 a b (out.push x) ia (ib+1) mg ac k
  | _=>pure<|ForInStep.done (some<|out.push x++a.extract ia a.size++b.extract (ib+1) b.size,out.push x,ia,ib+1,mg,ac,bc)
abbrev T1 (a b out:Array Keyed)(ia ib mg ac bc:Nat):StateT SortSt Sem (ForInStep G):=do
 xV mg
 let x <- elem' b ib
 let r <- lW false x a ia (a.size-ia) 0
 match r with
 | some k=>
  if k>0 then
   if (ia+k+1 == a.size)=true then pure (ForInStep.done (some<|out++a.extract ia (ia+k)++b.extract ib b.size++a.extract (ia+k) a.size,out++a.extract ia (ia+k),ia+k,ib,mg,k,bc))
   else if (ia+k == a.size)=true then pure (ForInStep.done (some<|out++a.extract ia (ia+k)++a.extract (ia+k) a.size++b.extract ib b.size,out++a.extract ia (ia+k),ia+k,ib,mg,k,bc))
   else T2 a b (out++a.extract ia (ia+k)) (ia+k) ib mg k bc
  else T2 a b out ia ib mg k bc
 | _=>pure<|ForInStep.done (some<|out++a.extract ia a.size++b.extract ib b.size,out,ia,ib,mg,ac,bc)
section
variable {prog:aj}{w:ah}{A:aA}{E:af->aC->Prop}{s:aC}{o:Ord}{N:Nat}{f:Nat->Keyed}{kd:SortKind}{st st0:SortSt}{X Y hs:ap}{ia ib:Nat}
def wJ(h:Sm st0 st){Q:Unit->SortSt->Prop}(q:∀st',Sm st0 st'->Q Unit.unit st'):wpS (model prog w) A E s (xV m) Q st:=by
 rw[RI];exact eW<|q _<|h.trans ⟨rfl,rfl,rfl,rfl⟩
abbrev On (o:Ord)(f:Nat->Keyed)(X Y:ap)(n:Nat)(hs:ap)(ia ib:Nat):Prop:=Mg o X Y hs ia ib/\ia+1<X.length/\ib<Y.length/\n<=ia+ib
abbrev G2 (o:Ord)(f:Nat->Keyed)(X Y:ap)(n:Nat)(st0:SortSt):ForInStep G->SortSt->Prop:=λr d=>Sm st0 d/\match r with
 | .done c=>(∃r z,c=(some r,z)/\Res o f X Y r)\/∃hs ia ib mg g j,c=(none,fa f hs,ia,ib,mg,g,j)/\On o f X Y n hs ia ib
 | .yield c=>∃hs ia ib mg g j,c=(none,fa f hs,ia,ib,mg,g,j)/\On o f X Y n hs ia ib
abbrev Top (o:Ord)(X Y:ap):Prop:=∀i x,X[i]?=some x->i+1=X.length->∀y∈Y,P o y x
def un3{α β γ κ:Type}{g:α->κ}{O:α->β->γ->Prop}{T:κ->Prop}(k:∀a b c,O a b c->T (g a)):∀q,(∃a b c,q=g a/\O a b c)->T q:=by
 rintro _ ⟨a,b,c,rfl,h⟩;exact k a b c h
def un4{α β γ δ κ:Type}{S:Prop}{g:α->β->γ->δ->κ}{O:α->β->γ->δ->Prop}{T:κ->Prop}(k:S->∀a b c d,O a b c d->T (g a b c d)):∀q,(S/\∃a b c d,q=g a b c d/\O a b c d)->T q:=by
 rintro q ⟨s,a,b,c,d,rfl,o⟩;exact k s a b c d o
def un5{α β γ δ ε κ:Type}{S:Prop}{g:α->β->γ->δ->ε->κ}{O:α->β->γ->δ->ε->Prop}{T:κ->Prop}(k:S->∀a b c d e,O a b c d e->T (g a b c d e)):∀q,(S/\∃a b c d e,q=g a b c d e/\O a b c d e)->T q:=by
 rintro q ⟨s,a,b,c,d,e,rfl,o⟩;exact k s a b c d e o
def un6{α β γ δ ε ζ κ:Type}{S:Prop}{g:α->β->γ->δ->ε->ζ->κ}{O:α->β->γ->δ->ε->ζ->Prop}{T:κ->Prop}(k:S->∀a b c d e f,O a b c d e f->T (g a b c d e f)):∀q,(S/\∃a b c d e f,q=g a b c d e f/\O a b c d e f)->T q:=by
 rintro q ⟨s,a,b,c,d,e,f,rfl,o⟩;exact k s a b c d e f o
def uo5{α β γ δ ε κ ρ σ:Type}{S:Prop}{j:ρ->σ->κ}{R:ρ->Prop}{g:α->β->γ->δ->ε->κ}{O:α->β->γ->δ->ε->Prop}{T:κ->Prop}(k1:S->∀r z,R r->T (j r z))(k:S->∀a b c d e,O a b c d e->T (g a b c d e)):∀q,(S/\((∃r z,q=j r z/\R r)\/∃a b c d e,q=g a b c d e/\O a b c d e))->T q:=by
 rintro q ⟨s,⟨r,z,rfl,f⟩|⟨a,b,c,d,e,rfl,o⟩⟩
 ·exact k1 s r z f
 ·exact k s a b c d e o
def uo6{α β γ δ ε ζ κ ρ σ:Type}{S:Prop}{j:ρ->σ->κ}{R:ρ->Prop}{g:α->β->γ->δ->ε->ζ->κ}{O:α->β->γ->δ->ε->ζ->Prop}{T:κ->Prop}(k1:S->∀r z,R r->T (j r z))(k:S->∀a b c d e f,O a b c d e f->T (g a b c d e f)):∀q,(S/\((∃r z,q=j r z/\R r)\/∃a b c d e f,q=g a b c d e f/\O a b c d e f))->T q:=by
 rintro q ⟨s,⟨r,z,rfl,m⟩|⟨a,b,c,d,e,f,rfl,o⟩⟩
 ·exact k1 s r z m
 ·exact k s a b c d e f o
def wB(ab:Ab o N X Y)(tp:Top o X Y)(m:Mg o X Y hs ia ib)(h:ia+1=X.length):Res o f X Y (fa f hs++(fa f Y).extract ib Y.length++(fa f X).extract ia X.length):=
 m.UL ab λx g y hy=>by
  obtain⟨j,k,d⟩:=wO g;have:=(aN.mp d).1;exact tp j x d () y<|eo hy
def Tq(ab:Ab o N X Y)(tp:Top o X Y)(hm:Sm st0 st){n mg x:Nat}(m:Mg o X Y hs ia ib)(ha:ia+1<X.length)(hb:ib<Y.length)(hn:n<=ia+ib)(hx:X[ia]?=some x)(hy:Y[ib]?=some y)(hxy:P o x y) :
  wpS (model prog w) A E s (T3 (fa f X) (fa f Y) (fa f hs) ia ib mg ac bc) (G2 o f X Y n st0) st:=by
 unfold T3;rw[mJ,mJ];refine aV<|jv (lY hx) ?_;have d:=m.xS ab hx<|rV ab.sb hy hxy;rw[vY];by_cases c:ia+1+1=X.length
 ·rw[aL<|by rw[c];exact bI _];exact br ⟨hm,.inl ⟨_,_,rfl,wB ab tp d c⟩⟩
 ·rw[aK<|by simpa using c];by_cases c2:(decide (ac<7) && decide (bc<7))=true
  ·rw[aL c2];exact br ⟨hm,.inr ⟨_,_,_,_,_,_,rfl,d,(),hb,()⟩⟩
  ·rw[aK c2];exact br ⟨hm,⟨_,_,_,_,_,_,rfl,d,(),hb,()⟩⟩
def SG(C:AQ prog w A s o N f kd)(hk:kindOf st=kd)(ab:Ab o N X Y)(tp:Top o X Y)(hm:Sm st0 st){n mg x:Nat}(m:Mg o X Y hs ia ib)(ha:ia+1<X.length)(hb:ib<Y.length)(hn:n<=ia+ib)(hx:X[ia]?=some x)(hy:Y[ib]?=some y)(hxy:P o y x) :
  wpS (model prog w) A E s (T2 (fa f X) (fa f Y) (fa f hs) ia ib mg ac bc) (G2 o f X Y n st0) st:=by
 unfold T2;rw[mJ,mJ];refine aV<|jv (lY hy) ?_;have d:=ab.yO m hy<|rV ab.sa hx hxy;rw[vY];by_cases c:ib+1=Y.length
 ·rw[aL<|by rw[c];exact bI _];exact br ⟨hm,.inl ⟨_,_,rfl,d.fin ab λx _ y hy=>by rw[drop_nil ()]at hy;cases hy⟩⟩
 ·rw[aK<|by simpa using c];refine aV<|jv (lY hx) ?_;refine aV (Nf C hk (h:=λi=>Y.getD (ib+1+i) 0) (λi hi=>lY<|getD_at ()) (λi hi=>?_) (Hi ab.sb _ _ ()) () λk B p g=>?_)
  ·have:=aX<|getD_at (l:=Y) (i:=ib+1+i) ();exact⟨ab.lt x (aX hx) _ this,ab.nb _ this⟩
  ·dsimp only;have j:=d.zq ab hx k () λi z hi q=>by
    have:=p i hi;rw[aJ,q]at this;exact this
   by_cases c2:k>0
   ·rw[aL c2,xO,show ib+1+k-(ib+1)=k by lia,pY];by_cases c3:ib+1+k=Y.length
    ·rw[aL<|by rw[c3];exact bI _];exact br ⟨hm,.inl ⟨_,_,rfl,j.fin ab λx _ y hy=>by rw[drop_nil ()]at hy;cases hy⟩⟩
    ·rw[aK<|by simpa using c3];exact Tq ab tp hm j ha () () hx (getD_at ())<|g k (aQ _) ()
   ·rw[aK c2];have:k=0:=()
    subst this;exact Tq ab tp hm d ha () () hx (getD_at ())<|g 0 (aQ _) ()
def XF(C:AQ prog w A s o N f kd)(hk:kindOf st0=kd)(ab:Ab o N X Y)(tp:Top o X Y)(hm:Sm st0 st){n mg:Nat}(m:Mg o X Y hs ia ib)(ha:ia+1<X.length)(hb:ib<Y.length)(hn:n<=ia+ib) :
  wpS (model prog w) A E s (T1 (fa f X) (fa f Y) (fa f hs) ia ib mg ac bc) (G2 o f X Y n st0) st:=by
 unfold T1;rw[mJ,mJ];refine aV<|wJ hm λF d=>?_;have hy:=getD_at (l:=Y) (i:=ib) hb;have p:=aX hy;refine aV<|jv (lY hy) ?_;refine aV (MT C (by rw[d.k];exact hk) (h:=λi=>X.getD (ia+i) 0) (λi hi=>lY<|getD_at ()) (λi hi=>ab.lt _ (aX<|getD_at (l:=X) (i:=ia+i) ()) _ p) (ab.nb _ p) (Hi ab.sa _ _ ()) () λk K J q=>?_);dsimp only;have g:=m.zI ab hy k () λi z hi G=>by
  have:=J i hi;rw[aJ,G]at this;exact this
 by_cases c2:k>0
 ·rw[aL c2,xO,show ia+k-ia=k by lia,pY];by_cases c3:ia+k+1=X.length
  ·rw[aL<|by rw[c3];exact bI _];exact br ⟨d,.inl ⟨_,_,rfl,wB ab tp g c3⟩⟩
  ·rw[aK<|by simpa using c3];by_cases j:ia+k=X.length
   ·rw[aL<|by rw[j];exact bI _];exact br ⟨d,.inl ⟨_,_,rfl,g.fin ab λx B y _=>by rw[drop_nil ()]at B;cases B⟩⟩
   ·rw[aK<|by simpa using j];exact SG C (by rw[d.k];exact hk) ab tp d g () hb () (getD_at ()) hy<|q k (aQ _) ()
 ·rw[aK c2];have:k=0:=()
  subst this;exact SG C (by rw[d.k];exact hk) ab tp d m ha hb hn (getD_at ()) hy<|q 0 (aQ _) ()
def WY(C:AQ prog w A s o N f kd)(hk:kindOf st=kd)(ab:Ab o N X Y)(tp:Top o X Y)(h1:1<=X.length)(hy0:Y[0]?=some y0)(h0:∀x∈X,P o y0 x)
  {Q:Array Keyed->SortSt->Prop} (q:∀out st',Sm st st'->Res o f X Y out->Q out st'):wpS (model prog w) A E s (zV (fa f X)<|fa f Y) Q st:=by
 rw[FA];kl_no;dsimp only;rw[mJ,mJ];have hY:=(aN.mp hy0).1;refine aV<|jv (lY hy0) ?_;have m0:Mg o X Y [] 0 0:=⟨cE _,cE _,rfl,List.Pairwise.nil,(nofun),(nofun),(nofun)⟩;have m1:Mg o X Y [y0] 0 1:=ab.yO m0 hy0 h0;have e1:(#[f y0]:Array Keyed)=fa f [y0]:=rfl;rw[e1];by_cases c:1=Y.length
 ·rw[aL<|by rw[<- c];rfl];exact br (q _ _ Sm.refl<|m1.fin ab λx _ y hy=>by rw[drop_nil ()]at hy;cases hy)
 ·rw[aK<|by simpa using c];by_cases c2:0+1=X.length
  ·rw[aL<|by rw[<- c2];rfl];exact br (q _ _ Sm.refl<|wB ab tp m1 c2)
  ·rw[aK<|by simpa using c2];refine aV<|gh ?_;refine aV (dN (cH (I:=λx c st'=>Sm st st'/\∃hs ia ib mg,c=(none,fa f hs,ia,ib,mg)/\On o f X Y (x+1) hs ia ib)
    (Q:=λc st'=>Sm st st'/\∃r z,c=(some r,z)/\Res o f X Y r) ?step ?fin ⟨Sm.refl,_,_,_,_,rfl,m1,(),(),aQ _⟩) ?post)
   case post=>
    rintro c st' ⟨W,r,z,rfl,M⟩;exact br<|q _ _ W M
   case fin=>
    rintro c st' ⟨W,hs,ia,ib,mg,rfl,m,F,B,K⟩;exfalso
    lia
   case step=>
    intro x c st' _ hx J;revert J;revert c;refine un4 λW hs ia ib mg g=>?_;have m:=g.1;have F:=g.2.1;have B:=g.2.2.1;have K:=g.2.2.2;clear g;dsimp only;refine aV (dN (cH (I:=λV c d=>Sm st d/\∃hs ia ib ac bc,c=(none,fa f hs,ia,ib,ac,bc)/\On o f X Y (x+1+min V 1) hs ia ib)
     (Q:=λc d=>Sm st d/\((∃r z,c=(some r,z)/\Res o f X Y r)\/∃hs ia ib ac bc,c=(none,fa f hs,ia,ib,ac,bc)/\On o f X Y (x+1+1) hs ia ib)) ?istep ?ifin ⟨W,_,_,_,_,_,rfl,m,F,B,K⟩) ?ipost)
    case ifin=>
     rintro c d ⟨j,hs,ia,ib,ac,bc,rfl,m,F,B,K⟩;exact⟨j,.inr ⟨_,_,_,_,_,rfl,m,F,B,()⟩⟩
    case istep=>
     intro V c d _ hx' J;revert J;revert c;refine un5 λj hs ia ib ac bc g=>?_;have m:=g.1;have F:=g.2.1;have B:=g.2.2.1;have K:=g.2.2.2;clear g;dsimp only;have hy:=getD_at (l:=Y) (i:=ib) B;have G:=getD_at (l:=X) (i:=ia) ();have yB:=aX hy;have xA:=aX G;have lt:=ab.lt _ xA _ yB;refine aV<|jv (lY hy) ?_;refine aV<|jv (lY G) ?_;refine aV (zl C (by rw[j.k];exact hk) (ab.nb _ yB) (ab.na _ xA) ?_)
     cases hl:o.lt (Y.getD ib 0) (X.getD ia 0)
     ·dsimp[bu,bZ];refine aV<|jv (lY G) ?_;have O:=m.xS ab G<|rV ab.sb hy<|P.xZ hl lt;rw[vY];by_cases c3:ia+1+1=X.length
      ·rw[aL<|by rw[c3];exact bI _];exact br ⟨j,.inl ⟨_,_,rfl,wB ab tp O c3⟩⟩
      ·rw[aK<|by simpa using c3];by_cases T:ac+1>=mg
       ·rw[aL T];exact br ⟨j,.inr ⟨_,_,_,_,_,rfl,O,(),B,()⟩⟩
       ·rw[aK T];exact br ⟨j,_,_,_,_,_,rfl,O,(),B,()⟩
     ·dsimp[cN];refine aV<|jv (lY hy) ?_;have O:=ab.yO m hy<|rV ab.sa G<|P.of_lt hl;rw[vY];by_cases c3:ib+1=Y.length
      ·rw[aL<|by rw[c3];exact bI _];exact br ⟨j,.inl ⟨_,_,rfl,O.fin ab λx _ y hy=>by rw[drop_nil ()]at hy;cases hy⟩⟩
      ·rw[aK<|by simpa using c3];by_cases T:bc+1>=mg
       ·rw[aL T];exact br ⟨j,.inr ⟨_,_,_,_,_,rfl,O,F,(),()⟩⟩
       ·rw[aK T];exact br ⟨j,_,_,_,_,_,rfl,O,F,(),()⟩
    case ipost=>
     intro c d J;revert J;revert c;refine uo5 (λj r z M=>?_) λj hs ia ib ac bc g=>?_
     ·dsimp only;exact br ⟨j,r,_,rfl,M⟩
     ·have m:=g.1;have F:=g.2.1;have B:=g.2.2.1;have K:=g.2.2.2;clear g;dsimp only;kl_no;refine aV (dN (cH (I:=λV c d=>Sm st d/\∃hs ia ib mg ac bc,c=(none,fa f hs,ia,ib,mg,ac,bc)/\On o f X Y (x+1+1) hs ia ib)
       (Q:=λc d=>Sm st d/\((∃r z,c=(some r,z)/\Res o f X Y r)\/∃hs ia ib mg ac bc,c=(none,fa f hs,ia,ib,mg,ac,bc)/\On o f X Y (x+1+1) hs ia ib)) ?jstep ?jfin ⟨j,_,_,_,_,_,_,rfl,m,F,B,K⟩) ?jpost)
      case jfin=>
       rintro c U ⟨p,J⟩;exact⟨p,.inr J⟩
      case jstep=>
       intro V c U _ hx' J;revert J;revert c;refine un6 λp hs ia ib mg ac bc g=>?_;have m:=g.1;have F:=g.2.1;have B:=g.2.2.1;have K:=g.2.2.2;clear g;dsimp only;have Z:=λmg=>XF (n:=x+1+1) (mg:=mg) (ac:=ac) (bc:=bc) (E:=E) C hk ab tp p m F B K;unfold T1 T2 T3 at Z;rw[mJ,mJ]at Z;refine dN (Q:=G2 o f X Y (x+1+1) st) ?_ ?_
       ·by_cases c3:mg>1
        ·rw[aL c3];exact Z (mg-1)
        ·rw[aK c3];exact Z mg
       ·rintro r st4 ⟨L,M⟩
        cases r with
        | done c=>exact⟨L,M⟩
        | yield c=>exact⟨L,M⟩
      case jpost=>
       intro c U J;revert J;revert c;refine uo6 (λp r z M=>?_) λp hs ia ib mg ac bc g=>?_
       ·dsimp only;exact br ⟨p,r,_,rfl,M⟩
       ·have m:=g.1;have F:=g.2.1;have B:=g.2.2.1;have K:=g.2.2.2;clear g;dsimp only;refine aV<|wJ p λst4 L=>?_;exact br ⟨L,_,_,_,_,rfl,m,F,B,K⟩
end
def E1(a b:Array Keyed):zj a b=(do
 rule "list.sort.merge-hi"
 let all_:=a.size+b.size
 let end1 (acc:Array Keyed) (p q:Nat):=a.extract 0 p++b.extract 0 q++acc.reverse
 let end2 (acc:Array Keyed) (p q:Nat):=b.extract 0 q++a.extract 0 p++acc.reverse
 let mut p:=a.size-1
 let mut q:=b.size
 let mut acc:Array Keyed:=#[<- elem' a p]
 if p == 0 then return end1 acc p q
 if q == 1 then return end2 acc p q
 let mut mg:=gallopOf (<- get)
 for _ in [0:all_] do
  let mut ca:=0
  let mut cb:=0
  for _ in [0:all_] do
   let some won <- lt' (<- elem' b (q-1)) (<- elem' a (p-1))|return end1 acc p q
   if won then
    p:=p-1;acc:=acc.push<|<- elem' a p;ca:=ca+1;cb:=0
    if p == 0 then return end1 acc p q
    if ca>=mg then break
   else
    q:=q-1;acc:=acc.push<|<- elem' b q;cb:=cb+1;ca:=0
    if q == 1 then return end2 acc p q
    if cb>=mg then break
  rule "list.sort.gallop"
  mg:=mg+1
  for _ in [0:all_] do
   if mg>1 then mg:=mg-1
   xV mg
   let some t <- lW false (<- elem' b (q-1)) a 0 p (p-1)|return end1 acc p q
   let k:=p-t
   ca:=k
   if k>0 then
    acc:=acc++(a.extract t p).reverse;p:=t
    if p == 0 then return end1 acc p q
   q:=q-1;acc:=acc.push (<- elem' b q)
   if q == 1 then return end2 acc p q
   let some t <- lW true (<- elem' a (p-1)) b 0 q (q-1)|return end1 acc p q
   let k:=q-t
   cb:=k
   if k>0 then
    acc:=acc++(b.extract t q).reverse;q:=t
    if q == 1 then return end2 acc p q
    if q == 0 then return end1 acc p q
   p:=p-1;acc:=acc.push (<- elem' a p)
   if p == 0 then return end1 acc p q
   if ca<7 && cb<7 then break
  mg:=mg+1
  xV mg
 unsupported "internal:list.sort.merge-bound"):=rfl
section
variable {o:Ord}{N:Nat}{f:Nat->Keyed}{A B ts:ap}{na nb:Nat}
def OU(l:ap):(fa f l).reverse=fa f l.reverse:=by
 unfold fa;rw[List.reverse_toArray,List.map_reverse]
def yy(l:ap)(i:Nat):(fa f l).extract 0 i=fa f (l.take i):=by
 rw[xO,g7,Nat.sub_zero]
structure Mh (o:Ord)(A B ts:ap)(na nb:Nat):Prop where
 la:na<=A.length
 lb:nb<=B.length
 len:ts.length+na+nb=A.length+B.length
 so:ts.Pairwise (P o)
 mem:∀x∈ts,x∈A\/x∈B
 ua:∀y∈A.take na,∀x∈ts,P o y x
 ub:∀y∈B.take nb,∀x∈ts,P o y x
def wA{l:ap}{y:Nat}(h:y∈l.take i):∃j,j<i/\l[j]?=some y:=by
 obtain⟨k,d⟩:=gI h;have:=(aN.mp d).1;rw[aW]at this;rw[dc ()]at d;exact⟨k,(),d⟩
def take_one{l:ap}{i x:Nat}(h:l[i]?=some x):l.take (i+1)=l.take i++[x]:=by
 obtain⟨h1,e1⟩:=aN.mp h;rw[gp h1,e1]
def Mh.xS(ab:Ab o N A B)(m:Mh o A B ts (na+1) nb){x:Nat}(hx:A[na]?=some x)(h:∀y∈B.take nb,P o y x):Mh o A B (x::ts) na nb:=by
 have la:=m.la;have len:=m.len;have g:=take_one hx;have f:x∈A.take (na+1):=by rw[g];exact bz _ (bA.mpr rfl)
 refine⟨(),m.lb,by rw[bq];lia,bR.mpr ⟨λy hy=>m.ua x f y hy,m.so⟩,λz hz=>?_,λy hy z hz=>?_,λy hy z hz=>?_⟩
 ·rcases bE.mp hz with rfl|d
  ·exact .inl (aX hx)
  ·exact m.mem z d
 ·rcases bE.mp hz with rfl|d
  ·obtain⟨j,k,p⟩:=wA hy;exact uc ab.sa p hx k
  ·exact m.ua y (by rw[g];exact d_ _ hy) z d
 ·rcases bE.mp hz with rfl|d
  ·exact h y hy
  ·exact m.ub y hy z d
def Mh.OP(ab:Ab o N A B)(m:Mh o A B ts na<|nb+1){x:Nat}(hx:B[nb]?=some x)(h:∀y∈A.take na,P o y x):Mh o A B (x::ts) na nb:=by
 have lb:=m.lb;have len:=m.len;have g:=take_one hx;have f:x∈B.take (nb+1):=by rw[g];exact bz _ (bA.mpr rfl)
 refine⟨m.la,(),by rw[bq];lia,bR.mpr ⟨λy hy=>m.ub x f y hy,m.so⟩,λz hz=>?_,λy hy z hz=>?_,λy hy z hz=>?_⟩
 ·rcases bE.mp hz with rfl|d
  ·exact .inr (aX hx)
  ·exact m.mem z d
 ·rcases bE.mp hz with rfl|d
  ·exact h y hy
  ·exact m.ua y hy z d
 ·rcases bE.mp hz with rfl|d
  ·obtain⟨j,k,p⟩:=wA hy;exact uc ab.sb p hx k
  ·exact m.ub y (by rw[g];exact d_ _ hy) z d
def rW{l:ap}(h:l.Pairwise<|P o){i x:Nat}(hx:l[i]?=some x)(hxy:P o x y):∀z∈l.take (i+1),P o z y:=λz hz=>by
 obtain⟨j,f,d⟩:=wA hz;by_cases c:j=i
 ·subst c;rw[hx]at d;cases d;exact hxy
 ·exact(uc h d hx ()).trans hxy
theorem Mh.zI(ab:Ab o N A B){mb:Nat}(hy:B[mb]?=some y):∀(k:Nat) {ts:ap}{at_:Nat},Mh o A B ts (at_+k) (mb+1)->(∀i x,at_<=i->i<at_+k->A[i]?=some x->P o y x)->Mh o A B ((A.drop at_).take k++ts) at_ (mb+1)
 | 0,ts,at_,m,_=>by rw[fK];exact m
 | k+1,ts,at_,m,h=>by
  have la:=m.la;have d:A[at_+k]?=some (A[at_+k]'()):=aG _;have f:=Mh.xS ab (show Mh o A B ts (at_+k+1) (mb+1)from m) d<|rW ab.sb hy<|h _ _ () () d;have g:=Mh.zI ab hy k f λi x h1 h2=>h i x h1 ();rw[take_snoc d,bD];exact g
theorem Mh.zq(ab:Ab o N A B){ma:Nat}(hy:A[ma]?=some y):∀(k:Nat) {ts:ap}{at_:Nat},Mh o A B ts (ma+1) (at_+k)->(∀i x,at_<=i->i<at_+k->B[i]?=some x->P o y x)->Mh o A B ((B.drop at_).take k++ts) (ma+1) at_
 | 0,ts,at_,m,_=>by rw[fK];exact m
 | k+1,ts,at_,m,h=>by
  have lb:=m.lb;have d:B[at_+k]?=some (B[at_+k]'()):=aG _;have f:=Mh.OP ab (show Mh o A B ts (ma+1) (at_+k+1)from m) d<|rW ab.sa hy<|h _ _ () () d;have g:=Mh.zq ab hy k f λi x h1 h2=>h i x h1 ();rw[take_snoc d,bD];exact g
def yC{l:ap}(h:l.Pairwise<|P o)(i:Nat):(l.take i).Pairwise (P o):=h.sublist<|List.take_sublist ..
def Mh.fin(ab:Ab o N A B)(m:Mh o A B ts na nb)(h:∀x∈A.take na,∀y∈B.take nb,P o x y):Res o f A B ((fa f A).extract 0 na++(fa f B).extract 0 nb++fa f ts):=by
 rw[yy,yy,pY,pY];have la:=m.la;have lb:=m.lb;have len:=m.len;refine⟨_,rfl,by rw[aY,aY,aW,aW];lia,?_,λx d=>?_⟩
 ·rw[b7,b7];refine⟨⟨yC ab.sa _,yC ab.sb _,h⟩,m.so,λx d y hy=>?_⟩
  rcases bF.mp d with z|z
  ·exact m.ua x z y hy
  ·exact m.ub x z y hy
 ·rcases bF.mp d with z|z
  ·rcases bF.mp z with z|z
   ·exact .inl (cC z)
   ·exact .inr<|cC z
  ·exact m.mem x z
def Mh.UL(ab:Ab o N A B)(m:Mh o A B ts na nb)(h:∀x∈A.take na,∀y∈B.take nb,P o y x):Res o f A B ((fa f B).extract 0 nb++(fa f A).extract 0 na++fa f ts):=by
 rw[yy,yy,pY,pY];have la:=m.la;have lb:=m.lb;have len:=m.len;refine⟨_,rfl,by rw[aY,aY,aW,aW];lia,?_,λx d=>?_⟩
 ·rw[b7,b7];refine⟨⟨yC ab.sb _,yC ab.sa _,λx d y hy=>h y hy x d⟩,m.so,λx d y hy=>?_⟩
  rcases bF.mp d with z|z
  ·exact m.ub x z y hy
  ·exact m.ua x z y hy
 ·rcases bF.mp d with z|z
  ·rcases bF.mp z with z|z
   ·exact .inr (cC z)
   ·exact .inl<|cC z
  ·exact m.mem x z
abbrev WV (o:Ord)(X Y:ap):Prop:=∀y,Y[0]?=some y->∀x∈X,P o y x
def uP(ab:Ab o N A B)(bt:WV o A B)(m:Mh o A B ts na nb)(h:nb=1):Res o f A B ((fa f B).extract 0 nb++(fa f A).extract 0 na++fa f ts):=
 m.UL ab λx d y hy=>by
  obtain⟨j,k,g⟩:=wA hy;have:j=0:=()
  subst this;exact bt y g x<|cC d
def Mh.ED(ab:Ab o N A B)(m:Mh o A B ts na nb)(h:na=0\/nb=0):Res o f A B ((fa f A).extract 0 na++(fa f B).extract 0 nb++fa f ts):=
 m.fin ab λx d y hy=>by
  rcases h with rfl|rfl
  ·rw[fK]at d;cases d
  ·rw[fK]at hy;cases hy
def yN(l:ap)(x:Nat):(fa f l.reverse).push (f x)=fa f (x::l).reverse:=by rw[vY,fD]
def Ot(l m:ap):fa f l.reverse++(fa f m).reverse=fa f (m++l).reverse:=by rw[OU,pY,List.reverse_append]
def vC(l:ap):(fa f l.reverse).reverse=fa f l:=by rw[OU,gJ]
end
meta abbrev H:=Option (Array Keyed)×Nat×Nat×Array Keyed×Nat×Nat×Nat
abbrev U3 (a b out:Array Keyed)(na nb mg ac bc:Nat):StateT SortSt Sem (ForInStep H):=do
 let x <- elem' a (na-1)
 if (na-1 == 0)=true then pure (ForInStep.done (some<|a.extract 0 (na-1)++b.extract 0 nb++(out.push x).reverse,na-1,nb,out.push x,mg,ac,bc))
 else if (decide (ac<7) && decide (bc<7))=true then pure (ForInStep.done (none,na-1,nb,out.push x,mg,ac,bc))
 else pure (ForInStep.yield (none,na-1,nb,out.push x,mg,ac,bc))
abbrev U2 (a b out:Array Keyed)(na nb mg ac bc:Nat):StateT SortSt Sem (ForInStep H):=do
 let x <- elem' b (nb-1)
 if (nb-1 == 1)=true then pure (ForInStep.done (some<|b.extract 0 (nb-1)++a.extract 0 na++(out.push x).reverse,na,nb-1,out.push x,mg,ac,bc))
 else
  let y <- elem' a (na-1)
  let r <- lW true y b 0 (nb-1) (nb-1-1)
  match r with
  | some t=>
   if nb-1-t>0 then
    if (t == 1)=true then pure (ForInStep.done (some<|b.extract 0 t++a.extract 0 na++(out.push x++(b.extract t<|nb-1).reverse).reverse,na,t,out.push x++(b.extract t<|nb-1).reverse,mg,ac,nb-1-t))
    else if (t == 0)=true then pure (ForInStep.done (some<|a.extract 0 na++b.extract 0 t++(out.push x++(b.extract t<|nb-1).reverse).reverse,na,t,out.push x++(b.extract t<|nb-1).reverse,mg,ac,nb-1-t))
    else U3 a b (out.push x++(b.extract t<|nb-1).reverse) na t mg ac (nb-1-t)
   else U3 a b (out.push x) na (nb-1) mg ac (nb-1-t)
  | _=>pure<|ForInStep.done (some<|a.extract 0 na++b.extract 0 (nb-1)++(out.push x).reverse,na,nb-1,out.push x,mg,ac,bc)
abbrev U1 (a b out:Array Keyed)(na nb mg ac bc:Nat):StateT SortSt Sem (ForInStep H):=do
 xV mg
 let x <- elem' b (nb-1)
 let r <- lW false x a 0 na (na-1)
 match r with
 | some t=>
  if na-t>0 then
   if (t == 0)=true then pure (ForInStep.done (some<|a.extract 0 t++b.extract 0 nb++(out++(a.extract t na).reverse).reverse,t,nb,out++(a.extract t na).reverse,mg,na-t,bc))
   else U2 a b (out++(a.extract t na).reverse) t nb mg (na-t) bc
  else U2 a b out na nb mg (na-t) bc
 | _=>pure<|ForInStep.done (some<|a.extract 0 na++b.extract 0 nb++out.reverse,na,nb,out,mg,ac,bc)
section
variable {prog:aj}{w:ah}{A:aA}{E:af->aC->Prop}{s:aC}{o:Ord}{N:Nat}{f:Nat->Keyed}{kd:SortKind}{st st0:SortSt}{X Y ts:ap}{na nb:Nat}
abbrev Oh (o:Ord)(X Y:ap)(n:Nat)(ts:ap)(na nb:Nat):Prop:=Mh o X Y ts na nb/\1<=na/\2<=nb/\na+nb+n<=X.length+Y.length
abbrev H2 (o:Ord)(f:Nat->Keyed)(X Y:ap)(n:Nat)(st0:SortSt):ForInStep H->SortSt->Prop:=λr d=>Sm st0 d/\match r with
 | .done c=>(∃r z,c=(some r,z)/\Res o f X Y r)\/∃ts na nb mg g j,c=(none,na,nb,fa f ts.reverse,mg,g,j)/\Oh o X Y n ts na nb
 | .yield c=>∃ts na nb mg g j,c=(none,na,nb,fa f ts.reverse,mg,g,j)/\Oh o X Y n ts na nb
def Tt(ab:Ab o N X Y)(hm:Sm st0 st){n mg x:Nat}(m:Mh o X Y ts (na+1)<|nb+1)(hb:1<=nb)(hn:na+1+(nb+1)+n<=X.length+Y.length)(hx:X[na]?=some x)(hy:Y[nb]?=some y)(hxy:P o y x) :
  wpS (model prog w) A E s (U3 (fa f X) (fa f Y) (fa f ts.reverse) (na+1) (nb+1) mg ac bc) (H2 o f X Y n st0) st:=by
 unfold U3;rw[show na+1-1=na by lia];refine aV<|jv (lY hx) ?_;have m2:=m.xS ab hx<|rW ab.sb hy hxy;rw[yN,vC];by_cases c:na=0
 ·rw[aL<|by rw[c];rfl];exact br ⟨hm,.inl ⟨_,_,rfl,m2.ED ab<|.inl c⟩⟩
 ·rw[aK<|by simpa using c];by_cases c2:(decide (ac<7) && decide (bc<7))=true
  ·rw[aL c2];exact br ⟨hm,.inr ⟨_,_,_,_,_,_,rfl,m2,(),(),()⟩⟩
  ·rw[aK c2];exact br ⟨hm,⟨_,_,_,_,_,_,rfl,m2,(),(),()⟩⟩
def SX(C:AQ prog w A s o N f kd)(hk:kindOf st=kd)(ab:Ab o N X Y)(bt:WV o X Y)(hm:Sm st0 st){n mg x:Nat}(m:Mh o X Y ts (na+1)<|nb+1)(hb:1<=nb)(hn:na+1+(nb+1)+n<=X.length+Y.length)(hx:X[na]?=some x)(hy:Y[nb]?=some y)(hxy:P o x y) :
  wpS (model prog w) A E s (U2 (fa f X) (fa f Y) (fa f ts.reverse) (na+1) (nb+1) mg ac bc) (H2 o f X Y n st0) st:=by
 unfold U2;rw[show nb+1-1=nb by lia,show na+1-1=na by lia];refine aV<|jv (lY hy) ?_;have j:=m.OP ab hy<|rW ab.sa hx hxy;have lb:=m.lb;rw[yN,vC];by_cases c:nb=1
 ·rw[aL<|by rw[c];rfl];exact br ⟨hm,.inl ⟨_,_,rfl,uP ab bt j c⟩⟩
 ·rw[aK<|by simpa using c];refine aV<|jv (lY hx) ?_;refine aV (Nf C hk (h:=λi=>Y.getD (0+i) 0) (λi hi=>lY<|getD_at ()) (λi hi=>?_) (Hi ab.sb _ _ ()) () λt B t2 p=>?_)
  ·have:=aX<|getD_at (l:=Y) (i:=0+i) ();exact⟨ab.lt x (aX hx) _ this,ab.nb _ this⟩
  ·dsimp only;have m3:=Mh.zq ab hx (nb-t) (at_:=t) (by rw[show t+(nb-t)=nb by lia];exact j) λi z g q k=>by
    have:=p i g ();rw[dh,aJ (l:=Y),k]at this;exact this
   by_cases c2:nb-t>0
   ·rw[aL c2,xO Y t nb,Ot,vC];by_cases c3:t=1
    ·rw[aL<|by rw[c3];rfl];exact br ⟨hm,.inl ⟨_,_,rfl,uP ab bt m3 c3⟩⟩
    ·rw[aK<|by simpa using c3];by_cases d:t=0
     ·rw[aL<|by rw[d];rfl];exact br ⟨hm,.inl ⟨_,_,rfl,m3.ED ab<|.inr d⟩⟩
     ·rw[aK<|by simpa using d];obtain⟨u,rfl⟩:∃u,t=u+1:=⟨t-1,()⟩;have:=t2 u ();rw[dh]at this;exact Tt ab hm m3 () () hx (getD_at ()) this
   ·rw[aK c2];have:t=nb:=()
    subst this;obtain⟨u,rfl⟩:∃u,t=u+1:=⟨t-1,()⟩;have:=t2 u ();rw[dh]at this;exact Tt ab hm j () () hx (getD_at ()) this
def W9(C:AQ prog w A s o N f kd)(hk:kindOf st0=kd)(ab:Ab o N X Y)(bt:WV o X Y)(hm:Sm st0 st){n mg:Nat}(m:Mh o X Y ts (na+1)<|nb+1)(hb:1<=nb)(hn:na+1+(nb+1)+n<=X.length+Y.length) :
  wpS (model prog w) A E s (U1 (fa f X) (fa f Y) (fa f ts.reverse) (na+1) (nb+1) mg ac bc) (H2 o f X Y n st0) st:=by
 unfold U1;refine aV<|wJ hm λq d=>?_;have lb:=m.lb;have la:=m.la;rw[show nb+1-1=nb by lia,show na+1-1=na by lia];have hy:=getD_at (l:=Y) (i:=nb) ();have p:=aX hy;refine aV<|jv (lY hy) ?_;refine aV (MT C (by rw[d.k];exact hk) (h:=λi=>X.getD (0+i) 0) (λi hi=>lY<|getD_at ()) (λi hi=>ab.lt _ (aX<|getD_at (l:=X) (i:=0+i) ()) _ p) (ab.nb _ p) (Hi ab.sa _ _ ()) () λt J t2 F=>?_);dsimp only;have m3:=Mh.zI ab hy (na+1-t) (at_:=t) (by rw[show t+(na+1-t)=na+1 by lia];exact m) λi z j G B=>by
  have:=F i j ();rw[dh,aJ (l:=X),B]at this;exact this
 by_cases c2:na+1-t>0
 ·rw[aL c2,xO X t<|na+1,Ot,vC];by_cases g:t=0
  ·rw[aL<|by rw[g];rfl];exact br ⟨d,.inl ⟨_,_,rfl,m3.ED ab<|.inl g⟩⟩
  ·rw[aK<|by simpa using g];obtain⟨u,rfl⟩:∃u,t=u+1:=⟨t-1,()⟩;have:=t2 u ();rw[dh]at this;exact SX C (by rw[d.k];exact hk) ab bt d m3 hb () (getD_at ()) hy this
 ·rw[aK c2];have:t=na+1:=()
  subst this;have:=t2 na ();rw[dh]at this;exact SX C (by rw[d.k];exact hk) ab bt d m hb hn (getD_at ()) hy this
def W_(C:AQ prog w A s o N f kd)(hk:kindOf st=kd)(ab:Ab o N X Y)(tp:Top o X Y)(bt:WV o X Y)(h1:1<=X.length)(h2:1<=Y.length)
  {Q:Array Keyed->SortSt->Prop} (q:∀out st',Sm st st'->Res o f X Y out->Q out st'):wpS (model prog w) A E s (zj (fa f X)<|fa f Y) Q st:=by
 rw[E1];kl_no;dsimp only;rw[mJ,mJ];have O:=getD_at (l:=X) (i:=X.length-1) ();refine aV<|jv (lY O) ?_;have m0:Mh o X Y [] (X.length-1+1) Y.length:=⟨(),aQ _,by rw[b8];lia,List.Pairwise.nil,(nofun),(λ_ _ _ h=>nomatch h),(λ_ _ _ h=>nomatch h)⟩;have m1:=m0.xS ab O λy hy=>tp _ _ O () y<|cC hy;obtain⟨Z,ex0⟩:∃Z,Z=X.getD (X.length-1) 0:=⟨_,rfl⟩;rw[<- ex0]at m1 ⊢;have e1:(#[f Z]:Array Keyed)=fa f [Z].reverse:=rfl;rw[e1,vC];by_cases c:X.length-1=0
 ·rw[aL<|by rw[c];rfl];exact br (q _ _ Sm.refl<|m1.ED ab<|.inl c)
 ·rw[aK<|by simpa using c];by_cases c2:Y.length=1
  ·rw[aL<|by rw[c2];rfl];exact br (q _ _ Sm.refl<|uP ab bt m1 c2)
  ·rw[aK<|by simpa using c2];refine aV<|gh ?_;refine aV (dN (cH (I:=λx c st'=>Sm st st'/\∃ts na nb mg,c=(none,na,nb,fa f ts.reverse,mg)/\Oh o X Y (x+1) ts na nb)
    (Q:=λc st'=>Sm st st'/\∃r z,c=(some r,z)/\Res o f X Y r) ?step ?fin ⟨Sm.refl,_,_,_,_,rfl,m1,(),(),()⟩) ?post)
   case post=>
    rintro c st' ⟨W,r,z,rfl,M⟩;exact br<|q _ _ W M
   case fin=>
    rintro c st' ⟨W,ts,na,nb,mg,rfl,m,B,F,K⟩;exfalso
    lia
   case step=>
    intro x c st' _ hx J;revert J;revert c;refine un4 λW ts na nb mg g=>?_;have m:=g.1;have B:=g.2.1;have F:=g.2.2.1;have K:=g.2.2.2;clear g;dsimp only;refine aV (dN (cH (I:=λV c d=>Sm st d/\∃ts na nb ac bc,c=(none,na,nb,fa f ts.reverse,ac,bc)/\Oh o X Y (x+1+min V 1) ts na nb)
     (Q:=λc d=>Sm st d/\((∃r z,c=(some r,z)/\Res o f X Y r)\/∃ts na nb ac bc,c=(none,na,nb,fa f ts.reverse,ac,bc)/\Oh o X Y (x+1+1) ts na nb)) ?istep ?ifin ⟨W,_,_,_,_,_,rfl,m,B,F,K⟩) ?ipost)
    case ifin=>
     rintro c d ⟨j,ts,na,nb,ac,bc,rfl,m,B,F,K⟩;exact⟨j,.inr ⟨_,_,_,_,_,rfl,m,B,F,()⟩⟩
    case istep=>
     intro V c d _ hx' J;revert J;revert c;refine un5 λj ts na nb ac bc g=>?_;have m:=g.1;have B:=g.2.1;have F:=g.2.2.1;have K:=g.2.2.2;clear g;dsimp only;obtain⟨u,rfl⟩:∃u,na=u+1:=⟨na-1,()⟩;obtain⟨v,rfl⟩:∃v,nb=v+1:=⟨nb-1,()⟩;have la:=m.la;have lb:=m.lb;rw[show u+1-1=u by lia,show v+1-1=v by lia];have hy:=getD_at (l:=Y) (i:=v) ();have G:=getD_at (l:=X) (i:=u) ();have yB:=aX hy;have xA:=aX G;have lt:=ab.lt _ xA _ yB;refine aV<|jv (lY hy) ?_;refine aV<|jv (lY G) ?_;refine aV (zl C (by rw[j.k];exact hk) (ab.nb _ yB) (ab.na _ xA) ?_)
     cases hl:o.lt (Y.getD v 0) (X.getD u 0)
     ·dsimp[bu,bZ];refine aV<|jv (lY hy) ?_;have m2:=m.OP ab hy<|rW ab.sa G<|P.xZ hl lt;rw[yN,vC];by_cases c3:v=1
      ·rw[aL<|by rw[c3];rfl];exact br ⟨j,.inl ⟨_,_,rfl,uP ab bt m2 c3⟩⟩
      ·rw[aK<|by simpa using c3];by_cases T:bc+1>=mg
       ·rw[aL T];exact br ⟨j,.inr ⟨_,_,_,_,_,rfl,m2,B,(),()⟩⟩
       ·rw[aK T];exact br ⟨j,_,_,_,_,_,rfl,m2,B,(),()⟩
     ·dsimp[cN];refine aV<|jv (lY G) ?_;have m2:=m.xS ab G<|rW ab.sb hy<|P.of_lt hl;rw[yN,vC];by_cases c3:u=0
      ·rw[aL<|by rw[c3];rfl];exact br ⟨j,.inl ⟨_,_,rfl,m2.ED ab<|.inl c3⟩⟩
      ·rw[aK<|by simpa using c3];by_cases T:ac+1>=mg
       ·rw[aL T];exact br ⟨j,.inr ⟨_,_,_,_,_,rfl,m2,(),F,()⟩⟩
       ·rw[aK T];exact br ⟨j,_,_,_,_,_,rfl,m2,(),F,()⟩
    case ipost=>
     intro c d J;revert J;revert c;refine uo5 (λj r z M=>?_) λj ts na nb ac bc g=>?_
     ·dsimp only;exact br ⟨j,r,_,rfl,M⟩
     ·have m:=g.1;have B:=g.2.1;have F:=g.2.2.1;have K:=g.2.2.2;clear g;dsimp only;kl_no;refine aV (dN (cH (I:=λV c d=>Sm st d/\∃ts na nb mg ac bc,c=(none,na,nb,fa f ts.reverse,mg,ac,bc)/\Oh o X Y (x+1+1) ts na nb)
       (Q:=λc d=>Sm st d/\((∃r z,c=(some r,z)/\Res o f X Y r)\/∃ts na nb mg ac bc,c=(none,na,nb,fa f ts.reverse,mg,ac,bc)/\Oh o X Y (x+1+1) ts na nb)) ?jstep ?jfin ⟨j,_,_,_,_,_,_,rfl,m,B,F,K⟩) ?jpost)
      case jfin=>
       rintro c U ⟨p,J⟩;exact⟨p,.inr J⟩
      case jstep=>
       intro V c U _ hx' J;revert J;revert c;refine un6 λp ts na nb mg ac bc g=>?_;have m:=g.1;have B:=g.2.1;have F:=g.2.2.1;have K:=g.2.2.2;clear g;dsimp only;obtain⟨u,rfl⟩:∃u,na=u+1:=⟨na-1,()⟩;obtain⟨v,rfl⟩:∃v,nb=v+1:=⟨nb-1,()⟩;have t1:=λmg=>W9 (n:=x+1+1) (mg:=mg) (ac:=ac) (bc:=bc) (E:=E) C hk ab bt p m () K;unfold U1 U2 U3 at t1;refine dN (Q:=H2 o f X Y (x+1+1) st) ?_ ?_
       ·by_cases c3:mg>1
        ·rw[aL c3];exact t1 (mg-1)
        ·rw[aK c3];exact t1 mg
       ·rintro r st4 ⟨L,M⟩
        cases r with
        | done c=>exact⟨L,M⟩
        | yield c=>exact⟨L,M⟩
      case jpost=>
       intro c U J;revert J;revert c;refine uo6 (λp r z M=>?_) λp ts na nb mg ac bc g=>?_
       ·dsimp only;exact br ⟨p,r,_,rfl,M⟩
       ·have m:=g.1;have B:=g.2.1;have F:=g.2.2.1;have K:=g.2.2.2;clear g;dsimp only;refine aV<|wJ p λst4 L=>?_;exact br ⟨L,_,_,_,_,rfl,m,B,F,K⟩
end
def FQ(i:Nat):mergeAt' i=(do
 let s <- get
 let(some (a1,n1,pw),some (a2,n2,_)):=((pendingOf s)[i]?,(pendingOf s)[i+1]?)|unsupported "internal:list.sort.pending"
 set (setPending s<|((pendingOf s).setIfInBounds i (a1,n1+n2,pw)).eraseIdxIfInBounds<|i+1)
 let some k <- lW false (<- elem' (arrOf s) a2) (arrOf s) a1 n1 0|return false
 let(a1,n1):=(a1+k,n1-k)
 if n1 == 0 then return true
 let some n2 <- lW true (<- elem' (arrOf s) (a1+n1-1)) (arrOf s) a2 n2 (n2-1)|return false
 if n2 == 0 then return true
 let x:=(arrOf s).extract a1 a2
 let y:=(arrOf s).extract a2 (a2+n2)
 let both <- if n1<=n2 then zV x y else zj x y
 modify λs=>setArr s (both.toList.zipIdx.foldl (λa (p,j)=>a.setIfInBounds (a1+j) p)<|arrOf s)
 return (failedOf<|<- get).isNone):=rfl
abbrev seg (g:Nat->Nat)(a n:Nat):ap:=(List.range n).map λi=>g<|a+i
section
variable {o:Ord}{N:Nat}{f:Nat->Keyed}{g:Nat->Nat}
def n_(g:Nat->Nat)(a n:Nat):(seg g a n).length=n:=by unfold seg;rw[aH,cu]
def sA{a n i:Nat}(h:i<n):(seg g a n)[i]?=some (g<|a+i):=by unfold seg;rw[bh,cI h];rfl
def qj{a n x:Nat}(h:x∈seg g a n):∃i,i<n/\x=g (a+i):=by
 obtain⟨i,hi,rfl⟩:=bY.mp h;exact⟨i,dF.mp hi,rfl⟩
def MK{a n:Nat}(h:So o g a<|a+n):(seg g a n).Pairwise (P o):=by
 rw[cB];intro i j hi d f;rw[n_]at hi d;have e1:=sA (g:=g) (a:=a) hi;have e2:=sA (g:=g) (a:=a) d;rw[aG<|by rw[n_];exact hi]at e1;rw[aG<|by rw[n_];exact d]at e2;rw[aU e1,aU e2];exact h _ _ () () ()
def Jz{arr:Array Keyed}(hs:arr.size=N)(hg:∀i,i<N->arr[i]?=some (f<|g i)){a n:Nat}(h:a+n<=N):arr.extract a (a+n)=fa f (seg g a n):=by
 apply Array.ext_getElem?;intro i;rw[Mi,Array.getElem?_extract];by_cases c:i<n
 ·rw[aL (),sA c,hg _ ()];rfl
 ·rw[aK (),bJ<|by rw[n_];lia];rfl
theorem AK{α:Type}(b:Nat):∀(l:List α) (n:Nat) (arr:Array α),((l.zipIdx n).foldl (λa (p,j)=>a.setIfInBounds (b+j) p) arr).size=arr.size
 | [],_,_=>rfl
 | x::l,n,arr=>by
  rw[List.zipIdx_cons,d8,AK b l<|n+1];exact Array.size_setIfInBounds ..
theorem EV{α:Type}(b:Nat):∀(l:List α) (n:Nat) (arr:Array α) (k:Nat),b+n+l.length<=arr.size->((l.zipIdx n).foldl (λa (p,j)=>a.setIfInBounds (b+j) p) arr)[k]?=if b+n<=k/\k<b+n+l.length then l[k-(b+n)]? else arr[k]?
 | [],n,arr,k,h=>by rw[aK<|by rw[b8];lia];rfl
 | x::l,n,arr,k,h=>by
  rw[bq]at h;rw[List.zipIdx_cons,d8,EV b l (n+1) _ k<|by rw[Array.size_setIfInBounds];lia,bq];by_cases c:k=b+n
  ·subst c;rw[aK (),aL (),eX];show(arr.setIfInBounds (b+n) x)[b+n]?=some x;rw[Array.getElem?_setIfInBounds_self_of_lt ()]
  ·by_cases c2:b+n<=k/\k<b+n+(l.length+1)
   ·rw[aL (),aL c2,show k-(b+n)=k-(b+(n+1))+1 by lia,eS]
   ·rw[aK (),aK c2]
    skip
    rw[Array.getElem?_setIfInBounds_ne ()]
end
section
variable {prog:aj}{w:ah}{A:aA}{E:af->aC->Prop}{s:aC}{o:Ord}{N:Nat}{f:Nat->Keyed}{kd:SortKind}{g:Nat->Nat}{st:SortSt}
def Qa{Q:PUnit->SortSt->Prop}(h:Q ⟨⟩ st'):wpS (model prog w) A E s (set st':StateT SortSt Sem PUnit) Q st:=by
 unfold wpS;rw[StateT.run_set];exact aR ⟨rfl,h⟩
def Yi(C:AQ prog w A s o N f kd){l1:List<|Nat×Nat×Nat}{sa na nb pw pv:Nat}(h:Sg N f kd g (l1++(sa,na,pw)::(sa+na,nb,pv)::l2).toArray st)(ha:1<=na)(hb:1<=nb)(hN:sa+na+nb<=N)
  (c1:Cl g sa<|sa+na) (s1:So o g sa<|sa+na) (c2:Cl g (sa+na)<|sa+na+nb) (s2:So o g (sa+na)<|sa+na+nb)
  {Q:Bool->SortSt->Prop} (q:∀g' st',Sg N f kd g' (l1++(sa,na+nb,pw)::l2).toArray st'->Rn o g g' sa (sa+na+nb)->Q true st'):wpS (model prog w) A E s (mergeAt' l1.length) Q st:=by
 rw[FQ];refine aV<|gh ?_;have e1:(pendingOf st)[l1.length]?=some (sa,na,pw):=by rw[h.pend];simp
 have e2:(pendingOf st)[l1.length+1]?=some (sa+na,nb,pv):=by rw[h.pend];simp
 have e3:((pendingOf st).setIfInBounds l1.length (sa,na+nb,pw)).eraseIdxIfInBounds (l1.length+1)=(l1++(sa,na+nb,pw)::l2).toArray:=by
  rw[h.pend,List.setIfInBounds_toArray,gw];congr 1;rw[c9 _ _<|aQ _,eX,List.eraseIdx_append_of_length_le (),show l1.length+1-l1.length=1 by lia];rfl
 rw[e1,e2];dsimp only;rw[e3];refine aV<|Qa ?_;have h':Sg N f kd g (l1++(sa,na+nb,pw)::l2).toArray (setPending st (l1++(sa,na+nb,pw)::l2).toArray):=⟨h.size,h.get,h.lt,h.kind,h.failed,rfl⟩;obtain⟨F,W⟩:∃F,F=setPending st (l1++(sa,na+nb,pw)::l2).toArray:=⟨_,rfl⟩;rw[<- W]at h' ⊢;refine aV<|jv (h.get (sa+na) ()) ?_;have b0:=c2 (sa+na) () ();refine aV (MT C h'.kind (h:=λi=>g<|sa+i) (λi hi=>h.get _ ()) (λi hi=>by have:=c1 (sa+i) () ();lia) () (λi j _ a b=>s1 _ _ () () ()) () λk k1 k2 k3=>?_);dsimp only;by_cases cz:na-k=0
 ·rw[aL<|by rw[cz];rfl];refine br (q g F h' ⟨λ_ _=>rfl,λi a b=>?_,λi j a b c=>?_⟩)
  ·by_cases d:i<sa+na
   ·have:=c1 i a d;lia
   ·have:=c2 i () b;lia
  ·by_cases d:j<sa+na
   ·exact s1 i j a b d
   ·by_cases K:sa+na<=i
    ·exact s2 i j K b c
    ·have r:=k2 (i-sa) ();rw[show sa+(i-sa)=i by lia]at r;by_cases P:j=sa+na
     ·subst P;exact r
     ·exact r.trans<|s2 _ _ () () c
 ·rw[aK<|by simpa using cz];have T:sa+k+(na-k)-1=sa+na-1:=()
  rw[T];refine aV<|jv (h.get (sa+na-1) ()) ?_;have a0:=c1 (sa+na-1) () ();refine aV (Nf C h'.kind (h:=λi=>g<|sa+na+i) (λi hi=>h.get _ ()) (λi hi=>by have:=c2 (sa+na+i) () ();lia) (λi j _ a b=>s2 _ _ () () ()) () λt t1 t2 t3=>?_);dsimp only;by_cases Y:t=0
  ·rw[aL<|by rw[Y];rfl];subst Y;refine br (q g F h' ⟨λ_ _=>rfl,λi a b=>?_,λi j a b c=>?_⟩)
   ·by_cases d:i<sa+na
    ·have:=c1 i a d;lia
    ·have:=c2 i () b;lia
   ·by_cases d:j<sa+na
    ·exact s1 i j a b d
    ·by_cases K:sa+na<=i
     ·exact s2 i j K b c
     ·have r:=t3 (j-(sa+na)) () ();rw[show sa+na+(j-(sa+na))=j by lia]at r;by_cases P:i=sa+na-1
      ·subst P;exact r
      ·exact(s1 i (sa+na-1) a () ()).trans r
  ·rw[aK<|by simpa using Y];have x1:(arrOf st).extract (sa+k) (sa+na)=fa f (seg g (sa+k)<|na-k):=by
    have:=Jz (f:=f) (g:=g) h.size h.get (a:=sa+k) (n:=na-k) ()
    rwa [show sa+k+(na-k)=sa+na by lia]at this
   have x2:(arrOf st).extract (sa+na) (sa+na+t)=fa f (seg g (sa+na) t):=Jz h.size h.get ();rw[x1,x2];have sx:So o g (sa+k) (sa+k+(na-k)):=λi j a b c=>s1 i j () b ();have sy:So o g (sa+na) (sa+na+t):=λi j a b c=>s2 i j a b ();have ab:Ab o N (seg g (sa+k)<|na-k) (seg g (sa+na) t):={
    sa:=MK sx
    sb:=MK sy
    lt:=λx U y hy=>by
     obtain⟨i,hi,rfl⟩:=qj U;obtain⟨j,M,rfl⟩:=qj hy;have:=c1 (sa+k+i) () ();have:=c2 (sa+na+j) () ()
     lia
    nb:=λy hy=>by
     obtain⟨j,M,rfl⟩:=qj hy;exact h.lt _ ()
    na:=λy hy=>by
     obtain⟨j,M,rfl⟩:=qj hy;exact h.lt _ ()}
   have tp:Top o (seg g (sa+k)<|na-k) (seg g (sa+na) t):=λi x U hi y hy=>by
    rw[n_]at hi;rw[sA ()]at U
    cases U
    obtain⟨j,M,rfl⟩:=qj hy;rw[show sa+k+i=sa+na-1 by lia];exact t2 j M
   have bt:WV o (seg g (sa+k)<|na-k) (seg g (sa+na) t):=λy hy x U=>by
    rw[sA ()]at hy
    cases hy
    obtain⟨i,hi,rfl⟩:=qj U;have:=k3 (k+i) () ()
    rwa [<- fm]at this
   have fin:∀out B,Sm F B->Res o f (seg g (sa+k)<|na-k) (seg g (sa+na) t) out->wpS (model prog w) A E s (do
     modify λs=>setArr s (out.toList.zipIdx.foldl (λa (p,j)=>a.setIfInBounds (sa+k+j) p)<|arrOf s)
     let s <- get
     pure (failedOf s).isNone) Q B:=by
    rintro out B O ⟨hs,rfl,G,hso,V⟩;rw[n_,n_]at G;refine aV<|eW<|aV<|gh ?_;have hf:(failedOf B)=none:=by rw[O.f];exact h'.failed
    have J:∀j x,hs[j]?=some x->(∃i,i<na-k/\x=g (sa+k+i))\/∃i,i<t/\x=g (sa+na+i):=λj x e=>by
     rcases V x (aX e)with z|z
     ·exact .inl (qj z)
     ·exact .inr<|qj z
    have ez:(fa f hs).toList=hs.map f:=by unfold fa;rfl
    have hsz:sa+k+0+(hs.map f).length<=(arrOf B).size:=by rw[aH,G,O.a,h'.size];lia
    refine br ?_
    skip
    rw[hf];refine q (λi=>if sa+k<=i/\i<sa+k+(na-k+t)then hs.getD (i-(sa+k)) 0 else g i) _ ⟨?_,λi hi=>?_,λi hi=>?_,by rw[show kindOf (setArr B _)=kindOf B from rfl,O.k];exact h'.kind,hf,by rw[show pendingOf (setArr B _)=pendingOf B from rfl,O.p];exact h'.pend⟩ ?_
    ·have:=AK (sa+k) (fa f hs).toList 0<|arrOf B;rw[O.a,h'.size]at this;rw[<- this,<- O.a]
    ·skip
     rw[ez,EV _ _ _ _ _ hsz,aH,G,O.a];by_cases d:sa+k<=i/\i<sa+k+(na-k+t)
     ·rw[aL (),aL d,bh,Nat.add_zero,getD_at (l:=hs) ()];rfl
     ·rw[aK (),aK d];exact h'.get i hi
    ·by_cases d:sa+k<=i/\i<sa+k+(na-k+t)
     ·rw[aL d]
      rcases J _ _ (getD_at (l:=hs) (i:=i-(sa+k)) ())with⟨j,M,e⟩|⟨j,M,e⟩
      ·rw[e];exact h.lt _ ()
      ·rw[e];exact h.lt _ ()
     ·rw[aK d];exact h.lt i hi
    ·have L:∀i,sa+k<=i->i<sa+na+t->(if sa+k<=i/\i<sa+k+(na-k+t)then hs.getD (i-(sa+k)) 0 else g i)=hs.getD (i-(sa+k)) 0:=λi a b=>aL ();have m:∀i,i<sa+k\/sa+na+t<=i->(if sa+k<=i/\i<sa+k+(na-k+t)then hs.getD (i-(sa+k)) 0 else g i)=g i:=λi a=>aK ();refine⟨λi hi=>m i (),λi a b=>?_,λi j a b c=>?_⟩
     ·by_cases d:sa+k<=i/\i<sa+na+t
      ·skip
       rw[L i d.1 d.2]
       rcases J _ _ (getD_at (l:=hs) (i:=i-(sa+k)) ())with⟨j,M,e⟩|⟨j,M,e⟩
       ·rw[e];have:=c1 (sa+k+j) () ();lia
       ·rw[e];have:=c2 (sa+na+j) () ();lia
      ·skip
       rw[m i ()];by_cases K:i<sa+na
       ·have:=c1 i a K;lia
       ·have:=c2 i () b;lia
     ·skip
      by_cases d1:i<sa+k
      ·rw[m i<|.inl d1];have r:=k2 (i-sa) ();rw[show sa+(i-sa)=i by lia]at r;by_cases K:j<sa+k
       ·rw[m j<|.inl K];exact s1 i j a b ()
       ·by_cases P:j<sa+na+t
        ·rw[L j () P]
         rcases J _ _ (getD_at (l:=hs) (i:=j-(sa+k)) ())with⟨v,hv,e⟩|⟨v,hv,e⟩
         ·rw[e];exact s1 _ _ a () ()
         ·rw[e];by_cases Z:v=0
          ·subst Z;exact r
          ·exact r.trans<|s2 _ _ () () ()
        ·rw[m j ()];exact r.trans<|s2 _ _ () () c
      ·by_cases K:i<sa+na+t
       ·rw[L i () K];by_cases P:j<sa+na+t
        ·rw[L j () P];exact uc hso (getD_at ()) (getD_at ()) ()
        ·rw[m j ()]
         rcases J _ _ (getD_at (l:=hs) (i:=i-(sa+k)) ())with⟨v,hv,e⟩|⟨v,hv,e⟩
         ·rw[e];have r:=t3 (j-(sa+na)) () ();rw[show sa+na+(j-(sa+na))=j by lia]at r;by_cases Z:sa+k+v=sa+na-1
          ·rw[Z];exact r
          ·exact(s1 _ (sa+na-1) () () ()).trans r
         ·rw[e];exact s2 _ _ () () c
       ·rw[m i (),m j ()];exact s2 i j () b c
   by_cases cl:na-k<=t
   ·rw[aL cl];exact aV (WY C h'.kind ab tp (by rw[n_];lia) (sA ()) (bt _<|sA ()) fin)
   ·rw[aK cl];exact aV<|W_ C h'.kind ab tp bt (by rw[n_];lia) (by rw[n_];lia) fin
end
meta abbrev pr (x:Nat×Nat×Nat):Nat×Nat:=(x.1,x.2.1)
abbrev sS (o:Ord)(g:Nat->Nat):List (Nat×Nat)->Nat->Nat->Prop
 | [],a,b=>a=b
 | x::l,a,b=>x.1=a/\1<=x.2/\Cl g a (a+x.2)/\So o g a (a+x.2)/\sS o g l (a+x.2) b
abbrev PA (o:Ord)(g:Nat->Nat)(p:Array<|Nat×Nat×Nat)(b:Nat):Prop:=sS o g (p.toList.map pr) 0 b
section
variable {o:Ord}{g:Nat->Nat}
def sS.le:∀{l:List<|Nat×Nat}{a b:Nat},sS o g l a b->a+l.length<=b
 | [],a,b,h=>by have h:a=b:=h;rw[b8];lia
 | x::l,a,b,h=>by
  have:=h.2.2.2.2.le;have:=h.2.1;rw[bq];lia
def sS.congr{g':Nat->Nat}:∀{l:List<|Nat×Nat}{a b:Nat},sS o g l a b->(∀i,a<=i->i<b->g' i=g i)->sS o g' l a b
 | [],a,b,h,_=>h
 | x::l,a,b,h,e=>by
  have d:=h.2.2.2.2.le;refine⟨h.1,h.2.1,λi h1 h2=>?_,λi j h1 h2 h3=>?_,h.2.2.2.2.congr λi h1 h2=>e i () h2⟩
  ·rw[e i h1 ()];exact h.2.2.1 i h1 h2
  ·rw[e i h1 (),e j () ()];exact h.2.2.2.1 i j h1 h2 h3
theorem sS.app:∀{l m:List<|Nat×Nat}{a b:Nat},sS o g (l++m) a b ↔ ∃c,sS o g l a c/\sS o g m c b
 | [],m,a,b=>⟨λh=>⟨a,rfl,h⟩,λ⟨c,h1,h2⟩=>by have h1:a=c:=h1;subst h1;exact h2⟩
 | x::l,m,a,b=>by
  constructor
  ·rintro⟨h1,h2,h3,d,j⟩;obtain⟨c,f,k⟩:=sS.app.mp j;exact⟨c,⟨h1,h2,h3,d,f⟩,k⟩
  ·rintro⟨c,⟨h1,h2,h3,d,j⟩,f⟩;exact⟨h1,h2,h3,d,sS.app.mpr ⟨c,j,f⟩⟩
def Uy{p:Array<|Nat×Nat×Nat}(h:i+1<p.size):∃l1 x y l2,p=(l1++x::y::l2).toArray/\l1.length=i:=by
 have h':i+1<p.toList.length:=h;refine⟨p.toList.take i,p.toList[i],p.toList[i+1],p.toList.drop<|i+2,?_,by rw[aW];lia⟩;apply Array.toList_inj.mp
 skip
 conv=>lhs;rw[<- cF i p.toList,b9<|show i<p.toList.length by lia,b9 h']
end
section
variable {prog:aj}{w:ah}{A:aA}{E:af->aC->Prop}{s:aC}{o:Ord}{N:Nat}{f:Nat->Keyed}{kd:SortKind}{g:Nat->Nat}{p:Array (Nat×Nat×Nat)}{st:SortSt}
def FD(C:AQ prog w A s o N f kd)(h:Sg N f kd g p st){lo:Nat}(hp:PA o g p lo)(hlo:lo<=N)(hi:i+1<p.size)
  {Q:Bool->SortSt->Prop} (q:∀g' p' st',Sg N f kd g' p' st'->PA o g' p' lo->p'.size+1=p.size->(∀k,lo<=k->g' k=g k)->Q true st'):wpS (model prog w) A E s (mergeAt' i) Q st:=by
 obtain⟨B,⟨d,na,z⟩,⟨J,nb,pv⟩,j,rfl,rfl⟩:=Uy hi;unfold PA at hp;rw[show(B++(d,na,z)::(J,nb,pv)::j).toArray.toList=B++(d,na,z)::(J,nb,pv)::j from rfl,cL]at hp;obtain⟨c,h1,h2⟩:=sS.app.mp hp;obtain⟨e1,O,L,M,e2,G,K,F,rest⟩:=h2;have e1:d=c:=e1;subst e1;have e2:J=d+na:=e2;subst e2;have m:=rest.le;have O:1<=na:=O;have G:1<=nb:=G;have m:d+na+nb<=lo:=by
  have:d+na+nb+(List.map pr j).length<=lo:=m
  lia
 refine Yi C h O G () L M K F λg' st' h' R=>q g' _ st' h' ?_ (by simp;lia) λk P=>R.out k ();unfold PA;rw[show(B++(d,na+nb,z)::j).toArray.toList=B++(d,na+nb,z)::j from rfl,cL];refine sS.app.mpr ⟨d,h1.congr λi a b=>R.out i (),rfl,by show 1<=na+nb;lia,?_,?_,?_⟩
 ·show Cl g' d (d+(na+nb));rw[<- fm];exact R.cl
 ·show So o g' d (d+(na+nb));rw[<- fm];exact R.so
 ·skip
  rw[<- fm];exact rest.congr λi a b=>R.out i<|.inr a
def AX{p:Array<|Nat×Nat×Nat}{lo:Nat}{u:Nat×Nat×Nat->Nat×Nat×Nat}(hu:∀x,pr (u x)=pr x)(h:PA o g p lo):PA o g (p.modify i u) lo:=by
 unfold PA at h ⊢;have:(p.modify i u).toList.map pr=p.toList.map pr:=by
  rw[Array.toList_modify];apply cA;intro k;rw[bh,bh,List.getElem?_modify]
  cases p.toList[k]? with
  | none=>rfl
  | some x=>
   show some (pr<|if i=k then u x else x)=some (pr x);by_cases c:i=k
   ·rw[aL c,hu x]
   ·rw[aK c]
 rw[this];exact h
def yI{p:Array<|Nat×Nat×Nat}{lo n v:Nat}(h:PA o g p lo)(hn:1<=n)(c:Cl g lo<|lo+n)(d:So o g lo<|lo+n):PA o g (p.push (lo,n,v)) (lo+n):=by
 unfold PA at h ⊢;rw[fC,cL];exact sS.app.mpr ⟨lo,h,rfl,hn,c,d,rfl⟩
def Sg.WD(h:Sg N f kd g p st)(p':Array<|Nat×Nat×Nat):Sg N f kd g p' (setPending st p'):=⟨h.size,h.get,h.lt,h.kind,h.failed,rfl⟩
def P9(C:AQ prog w A s o N f kd)(h:Sg N f kd (λi=>i) #[] st)(hN:1<=N)
  {Q:Unit->SortSt->Prop} (q:∀g' p' st',Sg N f kd g' p' st'->Cl g' 0 N->So o g' 0 N->Q Unit.unit st'):wpS (model prog w) A E s sortRuns' Q st:=by
 rw[sortRuns'_eq];refine aV<|gh ?_;dsimp only;rw[h.size];refine aV (dN (cH
  (I:=λx c st'=>∃lo g p,c=(none,lo)/\lo<=N/\(x<=lo\/lo=N)/\Sg N f kd g p st'/\PA o g p lo/\(∀i,lo<=i->g i=i))
  (Q:=λc st'=>∃g p,c=(none,N)/\Sg N f kd g p st'/\PA o g p N) ?step ?fin ⟨0,_,_,rfl,cE _,.inl<|aQ _,h,rfl,λ_ _=>rfl⟩) ?post)
 case fin=>
  rintro c st' ⟨lo,g,p,rfl,h1,h2,h3,P,G⟩;have:lo=N:=()
  subst this;exact⟨g,p,rfl,h3,P⟩
 case step=>
  intro x c st' _ hx F;revert F;revert c;refine un3 λlo g p F=>?_;have h1:=F.1;have h2:=F.2.1;have h3:=F.2.2.1;have P:=F.2.2.2.1;have G:=F.2.2.2.2;clear F;dsimp only;by_cases J:lo>=N
  ·rw[aL J];have:lo=N:=()
   subst this;exact br ⟨g,p,rfl,h3,P⟩
  ·rw[aK J];refine aV<|NU C h3 () () (λi a b=>G i a) λm g1 st1 Y m1 m2 R1=>?_;dsimp only;by_cases c2:m<minRun' N N 0
   ·rw[aL c2];kl_no;refine aV<|V4 C Y () m1 () R1 (λi a b=>G i ()) λg2 st2 s2 R2=>?_;rw[aK ⋯];have M:1<=min (N-lo) (minRun' N N 0):=()
    have K:lo+min (N-lo) (minRun' N N 0)<=N:=()
    refine aV<|gh ?_;rw[s2.pend];have B:=sS.congr P λi a b=>R2.out i (.inl b)
    cases e:p.back? with
    | none=>
     dsimp only;refine aV (eW<|br ⟨_,_,_,rfl,K,(),s2.WD _,?_,λi hi=>by rw[R2.out i<|.inr hi,G i ()]⟩);rw[s2.pend];exact yI B M R2.cl R2.so
    | some y=>
     obtain⟨Z,y2,y3⟩:=y;dsimp only;refine aV (dN (cH (I:=λ_ c st'=>c=(none,Unit.unit)/\∃g' p',Sg N f kd g' p' st'/\PA o g' p' lo/\(∀k,lo<=k->g' k=g2 k)) (Q:=λc st'=>c=(none,Unit.unit)/\∃g' p',Sg N f kd g' p' st'/\PA o g' p' lo/\(∀k,lo<=k->g' k=g2 k)) ?vstep (λ_ _ h=>h) ⟨rfl,_,_,s2,B,λ_ _=>rfl⟩) ?vpost)
     case vstep=>
      rintro x c st' _ hx ⟨rfl,g',p',h1,h2,h3⟩;refine aV<|gh ?_;rw[h1.pend];by_cases c:p'.size>1
      ·rw[aL c]
       cases e:p'[p'.size-2]? with
       | none=>exact br ⟨rfl,g',p',h1,h2,h3⟩
       | some y=>
        obtain⟨Z,y2,y3⟩:=y;dsimp only;split
        ·exact br ⟨rfl,g',p',h1,h2,h3⟩
        ·refine aV<|FD C h1 h2 () () λg3 p3 L T O _ W=>?_;exact br ⟨rfl,g3,p3,T,O,λk U=>by rw[W k U,h3 k U]⟩
      ·rw[aK c];exact br ⟨rfl,g',p',h1,h2,h3⟩
     case vpost=>
      rintro c st' ⟨rfl,g',p',h1,h2,h3⟩;dsimp only;refine aV (eW<|aV<|eW<|br ⟨_,_,_,rfl,K,(),(h1.WD _).WD _,?_,λi hi=>by rw[h3 i (),R2.out i<|.inr hi,G i ()]⟩)
      skip
      rw[h1.pend];exact yI (AX (λ_=>rfl) h2) M (λi a b=>by rw[h3 i a];exact R2.cl i a b) λi j a b c=>by rw[h3 i a,h3 j ()];exact R2.so i j a b c
   ·rw[aK c2];have K:lo+m<=N:=()
    obtain⟨g2,hg2⟩:∃g2,g2=g1:=⟨_,rfl⟩;rw[<- hg2]at R1 Y;have R2:=R1;have s2:=Y;have M:=m1;refine aV<|gh ?_;rw[s2.pend];have B:=sS.congr P λi a b=>R2.out i (.inl b)
    cases e:p.back? with
    | none=>
     dsimp only;refine aV (eW<|br ⟨_,_,_,rfl,K,(),s2.WD _,?_,λi hi=>by rw[R2.out i<|.inr hi,G i ()]⟩);rw[s2.pend];exact yI B M R2.cl R2.so
    | some y=>
     obtain⟨Z,y2,y3⟩:=y;dsimp only;refine aV (dN (cH (I:=λ_ c st'=>c=(none,Unit.unit)/\∃g' p',Sg N f kd g' p' st'/\PA o g' p' lo/\(∀k,lo<=k->g' k=g2 k)) (Q:=λc st'=>c=(none,Unit.unit)/\∃g' p',Sg N f kd g' p' st'/\PA o g' p' lo/\(∀k,lo<=k->g' k=g2 k)) ?vstep (λ_ _ h=>h) ⟨rfl,_,_,s2,B,λ_ _=>rfl⟩) ?vpost)
     case vstep=>
      rintro x c st' _ hx ⟨rfl,g',p',h1,h2,h3⟩;refine aV<|gh ?_;rw[h1.pend];by_cases c:p'.size>1
      ·rw[aL c]
       cases e:p'[p'.size-2]? with
       | none=>exact br ⟨rfl,g',p',h1,h2,h3⟩
       | some y=>
        obtain⟨Z,y2,y3⟩:=y;dsimp only;split
        ·exact br ⟨rfl,g',p',h1,h2,h3⟩
        ·refine aV<|FD C h1 h2 () () λg3 p3 L T O _ W=>?_;exact br ⟨rfl,g3,p3,T,O,λk U=>by rw[W k U,h3 k U]⟩
      ·rw[aK c];exact br ⟨rfl,g',p',h1,h2,h3⟩
     case vpost=>
      rintro c st' ⟨rfl,g',p',h1,h2,h3⟩;dsimp only;refine aV (eW<|aV<|eW<|br ⟨_,_,_,rfl,K,(),(h1.WD _).WD _,?_,λi hi=>by rw[h3 i (),R2.out i<|.inr hi,G i ()]⟩)
      skip
      rw[h1.pend];exact yI (AX (λ_=>rfl) h2) M (λi a b=>by rw[h3 i a];exact R2.cl i a b) λi j a b c=>by rw[h3 i a,h3 j ()];exact R2.so i j a b c
 case post=>
  rintro c st' ⟨g,p,rfl,h1,h2⟩;dsimp only;refine aV (dN (cH
   (I:=λx c z=>c=(none,Unit.unit)/\∃g p,Sg N f kd g p z/\PA o g p N/\(p.size<=1\/p.size+x<=N))
   (Q:=λc z=>c=(none,Unit.unit)/\∃g p,Sg N f kd g p z/\PA o g p N/\p.size<=1) ?fstep ?ffin ⟨rfl,g,p,h1,h2,.inr ?finit⟩) ?fpost)
  case finit=>
   have:=sS.le h2;rw[aH]at this;show p.toList.length+0<=N
   lia
  case ffin=>
   rintro c z ⟨rfl,g,p,h1,h2,h3⟩;exact⟨rfl,g,p,h1,h2,()⟩
  case fstep=>
   rintro x c z _ hx ⟨rfl,g,p,h1,h2,h3⟩;refine aV<|gh ?_;rw[h1.pend];by_cases c:p.size<=1
   ·rw[aL c];exact br ⟨rfl,g,p,h1,h2,c⟩
   ·rw[aK c];have il:∀(d:Prop) [Decidable d],(if d then p.size-2-1 else p.size-2)+1<p.size:=λd _=>by
     by_cases hd:d
     ·rw[aL hd];lia
     ·rw[aK hd];lia
    refine aV<|FD C h1 h2 (aQ _) (il _) λg' p' L T O W _=>?_;exact br ⟨rfl,g',p',T,O,()⟩
  case fpost=>
   rintro c z ⟨rfl,g,p,h1,h2,h3⟩;dsimp only;refine br ?_;unfold PA at h2;have h3:p.toList.length<=1:=h3
   match hl:p.toList,h3 with
   | [],_=>
    rw[hl]at h2;have:0=N:=h2
    lia
   | [x],_=>
    rw[hl]at h2;obtain⟨e1,e2,e3,V,e5⟩:=h2;have e5:0+x.2.1=N:=e5;have e3:Cl g 0 (0+x.2.1):=e3;have V:So o g 0 (0+x.2.1):=V;rw[e5]at e3 V;exact q g p z h1 e3 V
end
meta abbrev RU (h:aq)(a:ak)(vs:ba):aq:=((h.update a<|Obj.mapSeq λ_=>#[]).push<|seqObj "tuple" vs.toArray 0).push<|seqObj "list" #[] 0
meta abbrev vv (vs:ba)(i:Nat):Keyed:=(vs.getD i .none,vs.getD i .none)
def zip_get(vs:ba){i:Nat}(h:i<vs.length):(vs.toArray.zip vs.toArray)[i]?=some (vv vs i):=by
 have e:vs[i]?=some (vs.getD i .none):=by rw[aJ,aG h];rfl
 rw[Array.getElem?_zip_eq_some];exact⟨by rw[dY];exact e,by rw[dY];exact e⟩
section
variable {prog:aj}{w:ah}{A:aA}{E:af->aC->Prop}{s:aC}{o:Ord}{kd:SortKind}
def JV{a:ak}{vs:ba}{n:Nat}{P:PySem.Fin->aC->Prop}(hL:s.heap.get? a=some (seqObj "list" vs.toArray n))(hsz:vs.length<=sizeLine)
  (hkk:2<=vs.length->∀Q:SortKind->aC->Prop,Q kd { s with heap:=RU s.heap a vs }->wpAny (model prog w) A (keyKind' vs.toArray) Q E { s with heap:=RU s.heap a vs })
  (C:2<=vs.length->AQ prog w A { s with heap:=RU s.heap a vs } o vs.length (vv vs) kd)
  (h:∀g,Cl g 0 vs.length->So o g 0 vs.length->P (.done<|.ret .none) { s with heap:=sortedHeap s.heap a vs ((List.range vs.length).map λi=>vs.getD (g i) .none).toArray }) :
  wpAny (model prog w) A (Builtin.«list.sort» ⟨[.ref a],[]⟩) P E s:=by
 rw[list_sort_plain];have z:a<s.heap.objs.size:=bg hL;refine aI<|listItems_at hL rfl ?_;refine aI (listUpdate_at hL rfl ?_ (by rw[aZ];exact hsz)<|cE _);obtain⟨G,q⟩:∃G,(s.heap.update a<|Obj.mapSeq λ_=>#[]).get? a=some (seqObj "list" #[] G):=⟨_,get?_update_seq hL λ_=>#[]⟩;refine aI<|seqEpoch_at q rfl ?_;refine aI<|wpAny_newTuple ?_;refine aI<|wpAny_newList ?_;refine c_ ?_;have k:(RU s.heap a vs).get? a=some (seqObj "list" #[] G):=by
  rw[Heap.get?_push_ne _ _ _<|by rw[size_push',Heap.size_update];exact bC<|g_ z,Heap.get?_push_ne _ _ _<|by rw[Heap.size_update];exact bC z];exact q
 skip
 dsimp only;have hz:vs.toArray.size=vs.length:=by simp
 have J:∀i,i<vs.length->vs[i]?=some (vs.getD i .none):=λi hi=>by rw[aJ,aG hi];rfl
 have VL:∀(arr:Array Keyed) (g:Nat->Nat),arr.size=vs.length->(∀i,i<vs.length->arr[i]?=some (vv vs<|g i))->arr.map (·.2)=((List.range vs.length).map λi=>vs.getD (g i) .none).toArray:=λarr g h1 two=>by
  apply Array.ext_getElem?;intro i;have e0:((List.range vs.length).map λi=>vs.getD (g i) Value.none).toArray[i]?=((List.range vs.length).map λi=>vs.getD (g i) Value.none)[i]?:=dY ..;rw[Array.getElem?_map,e0,bh];by_cases c:i<vs.length
  ·rw[two i c,cI c];rfl
  ·rw[Array.getElem?_eq_none (),bJ<|by rw[cu];lia];rfl
 by_cases two:vs.toArray.size<2
 ·rw[aL two,aL two];refine aI<|aR ?_;rw[StateT.run_pure];refine aI<|aR ?_;dsimp only;refine aI<|seqEpoch_at k rfl ?_;have B:=VL (vs.toArray.zip vs.toArray) (λi=>i) (by rw[iF,hz];lia) λi hi=>zip_get vs hi;refine aI (listUpdate_at k rfl ?_ (by simp) (hsz2:=by rw[size_map];show(vs.toArray.zip vs.toArray).size<=_;rw[iF,hz];lia));dsimp[bne_self_eq_false,bu,bZ];refine aR ?_;have:=h (λi=>i) (λi a b=>⟨a,b⟩) λi j a b c=>();rw[<- B]at this;exact this
 ·rw[aK two,aK two];have m:2<=vs.length:=()
  refine aI<|hkk m _ ?_;refine aI (fH (P9 (f:=vv vs) (N:=vs.length) (C m) (st:=SortSt.mk' kd (vs.toArray.zip vs.toArray) #[] 7 none)
   (Q:=λ_ d=>∃g p,Sg vs.length (vv vs) kd g p d/\Cl g 0 vs.length/\So o g 0 vs.length)
   ⟨by show(vs.toArray.zip vs.toArray).size=_;rw[iF,hz];lia,λi hi=>zip_get vs hi,λi hi=>hi,rfl,rfl,rfl⟩ () λT U d L O K=>⟨T,U,L,O,K⟩) ?_ λ_ _ e=>e)
  rintro⟨⟨⟩,d⟩ s' ⟨rfl,g,p,hS,hc,F⟩;dsimp only;refine aI<|seqEpoch_at k rfl ?_;have B:=VL (arrOf d) g hS.size hS.get;refine aI (listUpdate_at k rfl ?_ (by simp) (hsz2:=by have M:(arrOf d).size=vs.length:=hS.size;show((arrOf d).map (·.2)).size<=_;rw[size_map,M];lia));rw[hS.failed];dsimp[bne_self_eq_false,bu,bZ];have:=h g hc F;rw[<- B]at this;exact aR this
end
section
variable {prog:aj}{w:ah}{A:aA}{E:af->aC->Prop}{s:aC}
def QF(b:Bool){x y:Int}{Q:Bool->aC->Prop}(h:Q (decide<|x<y) s):wpAny (model prog w) A (oneLt' b (.int x t)<|.int y u) Q E s:=by
 cases b with
 | true=>exact oneLt_int h
 | false=>
  rw[oneLt'_eq];dsimp[bu,bZ];exact aI<|PySem.P.lt_int<|cU h
end
theorem IG:∀a:ag,HT.lexLt a a=false
 | []=>HT.Az
 | x::a=>by rw[HT.sf,aL rfl];exact IG a
end Sx
namespace L2
open PySem PySem.Spec PyProof.Rows
section
theorem BC:∀{rs:bb}{its:ba},Vals (rs.map V.ref) its->its=rs.map Value.ref
 | [],_,r=>by cases r;rfl
 | a::rs,_,r=>by
  cases r with
  | cons h t=>
   have e:_=Value.ref a:=h;rw[e,BC t];rfl
end
end L2
namespace Sx
open PySem PyProof.Rows
open PySem.AutoSeq1 (wpAny_loadPart')
open PySem.MeetsSeq PySem.MeetsSeq2 PySem.MeetsSeq3
theorem yx:∀{xs:ba}{ns:ag}{i:Nat},IntsAre xs ns->i<ns.length->∃t,xs[i]?=some (.int (ns.getD i 0) t)
 | _,_,i,.nil,h=>absurd h (dM _)
 | _,_,0,.cons n t h,_=>⟨t,rfl⟩
 | _,_,i+1,.cons n t h,hi=>by
  obtain⟨d,e⟩:=yx h (i:=i) (by simpa using hi);exact⟨d,by simpa using e⟩
end Sx
namespace Am
open PySem
inductive A where
 | unb|non|bl (b:Bool)|int (i:Int)|str (x:Str)|tup (xs:List A)|frz (xs:List A)|rng (lo hi:Int)|ref (n:Nat)|exn (c:Str)|ty (n:String)|ktu (xs:List A)
@[reducible]def ae:=List A
inductive O where
 | lst (xs:ae)|dct (kvs:List<|ag×A)|nV (kvs:List<|Int×A)|tH (kvs:List<|L2.kI×A)|ins (c:Str) (fs:List<|Str×A)
meta abbrev iQ:=List O
inductive R (α:Type) where
 | ok (a:α) (S:iQ)|ex (c:Str) (S:iQ)|no
abbrev R.bind {α β:Type}(r:R α)(f:α->iQ->R β):R β:=match r with
 | .ok a S=>f a S
 | .ex c S=>.ex c S
 | .no=>.no
abbrev R.post {α:Type}(r:R α)(P:α->iQ->Prop)(E:Str->iQ->Prop):Prop:=match r with
 | .ok a S=>P a S
 | .ex c S=>E c S
 | .no=>False
def iV{α β:Type}{r:R α}{f:α->iQ->R β}{P:β->iQ->Prop}{E:Str->iQ->Prop}(h:(r.bind f).post P E):r.post (λa S=>(f a S).post P E) E:=by
 cases r<;>exact h
def Ku{α:Type}{r:R α}{P P':α->iQ->Prop}{E E':Str->iQ->Prop}(h:r.post P E)(hp:∀a S,P a S->P' a S)(he:∀c S,E c S->E' c S):r.post P' E':=by
 cases r with
 | ok a S=>exact hp _ _ h
 | ex c S=>exact he _ _ h
 | no=>exact h.elim
abbrev gd {α:Type}(c:Prop)[Decidable c](r:R α):R α:=if c then r else .no
abbrev opt {α β:Type}(o:Option β)(f:β->R α):R α:=match o with
 | some b=>f b
 | none=>.no
def jm{α:Type}{c:Prop}[Decidable c]{r:R α}{P:α->iQ->Prop}{E:Str->iQ->Prop}(h:(gd c r).post P E):c/\r.post P E:=by
 unfold gd at h;by_cases hc:c
 ·rw[aL hc]at h;exact⟨hc,h⟩
 ·rw[aK hc]at h;exact h.elim
def iX{α β:Type}{o:Option β}{f:β->R α}{P:α->iQ->Prop}{E:Str->iQ->Prop}(h:(opt o f).post P E):∃b,o=some b/\(f b).post P E:=by
 cases o with
 | none=>exact h.elim
 | some b=>exact⟨b,rfl,h⟩
def Q5{α:Type}{c:Prop}[Decidable c]{r:R α}(h:c):gd c r=r:=aL h
abbrev iN (S:iQ)(n:Nat):Option (ae):=match S[n]? with
 | some (.lst xs)=>some xs
 | _=>none
def i9{n:Nat}(h:iN S n=some xs):S[n]?=some (.lst xs):=by
 unfold iN at h;split at h
 ·rename_i e;cases h;exact e
 ·cases h
def uC{S:iQ}{n:Nat}(h:S[n]?=some (.lst xs)):iN S n=some xs:=by
 unfold iN;rw[h]
inductive RS where
 | nx (τ:ae) (S:iQ)|rt (a:A) (S:iQ)|bk (τ:ae) (S:iQ)|ct (τ:ae) (S:iQ)|ex (c:Str) (S:iQ)|no
meta abbrev Ex:=ae->iQ->R A
meta abbrev se:=ae->iQ->R (ae)
meta abbrev Te:=ae->iQ->R Bool
meta abbrev Sm:=ae->iQ->RS
meta abbrev Tg:=A->ae->iQ->R (ae)
end Am
namespace Am
open PySem L2
section
variable (K:au) (ρ:bb) (H:Hp)
abbrev ClN (K:au)(c:Str)(C:ak):Prop:=PySem.W.nsIn K mainGlobals c=some (some<|.ref C)
abbrev Fz (K:au)(H:Hp)(a:ak)(vs:List V):Prop:=
 (∃o,H a=some (.frz o<|.lst vs))\/∃(o:Obj) (its:Array af) (n:Nat),K.lookup a=some o/\o.cls=.type "list" /\ o.dict=none/\o.data=.seq its n/\its.size<=sizeLine/\Vals vs its.toList
abbrev KTp (K:au)(a:ak)(vs:List V):Prop:=∃(o:Obj) (its:Array af) (n:Nat),K.lookup a=some o/\o.cls=.type "tuple" /\ o.dict=none/\o.data=.seq its n/\its.size<=sizeLine/\Vals vs its.toList
mutual
inductive AV:A->V->Prop
 | non:AV .non .non
 | bl (b:Bool):AV (.bl b) (.bl b)
 | int (i:Int):AV (.int i) (.int i)
 | str (x:Str):AV (.str x) (.str x)
 | ty (n:String):AV (.ty n) (.ty n)
 | tup {a:ak} {xs:ae} {vs:List V} (h:H a=some (.tup vs)) (r:AVs xs vs):AV (.tup xs) (.ref a)
 | frz {a:ak} {xs:ae} {vs:List V} (h:Fz K H a vs) (r:AVs xs vs):AV (.frz xs) (.ref a)
 | rng {a:ak} {lo hi:Int} (h:H a=some (.rng lo hi)):AV (.rng lo hi) (.ref a)
 | ref {a:ak} {n:Nat} (h:ρ[n]?=some a):AV (.ref n) (.ref a)
 | exn {a C:ak} {c:Str} {oe:Obj} (n:ClN K c C) (h:H a=some (.frz oe xu)) (x:XO C oe):AV (.exn c) (.ref a)
 | ktu {a:ak} {xs:ae} {vs:List V} (h:KTp K a vs) (r:AVs xs vs):AV (.ktu xs)<|.ref a
inductive AVs:ae->List V->Prop
 | nil:AVs [] []
 | cons {x:A} {v:V} {xs:ae} {vs:List V} (h:AV x v) (t:AVs xs vs):AVs (x::xs) (v::vs)
end
abbrev DV:List (ag×A)->List (List Key×V)->Prop
 | [],[]=>True
 | p::r,q::r'=>(q.1=p.1.map Sum.inl/\AV K ρ H p.2 q.2)/\DV r r'
 | _,_=>False
abbrev DI:List (Int×A)->List (Key×V)->Prop
 | [],[]=>True
 | p::r,q::r'=>(q.1=Sum.inl p.1/\AV K ρ H p.2 q.2)/\DI r r'
 | _,_=>False
abbrev DP:List (L2.kI×A)->List (L2.kI×ak×af)->Prop
 | [],[]=>True
 | p::r,q::r'=>(q.1=p.1/\L2.rR H q.2.1 q.1/\∃v,RelV v q.2.2/\AV K ρ H p.2 v)/\DP r r'
 | _,_=>False
abbrev OR (a:ak):O->Prop
 | .lst xs=>∃vs,H a=some (.lst vs)/\AVs K ρ H xs vs
 | .dct d=>∃ks,H a=some (.dT ks)/\DV K ρ H d ks
 | .nV d=>∃ks,H a=some (.dK ks)/\DI K ρ H d ks
 | .tH d=>∃xs,H a=some (.ext<|L2.vA a xs)/\DP K ρ H d xs
 | .ins _ _=>∃o u,H a=some (.frz o u)
structure Rel (S:iQ):Prop where
 len:ρ.length=S.length
 nd:ρ.Nodup
 «at»:∀(n:Nat) (a:ak) (o:O),ρ[n]?=some a->S[n]?=some o->OR K ρ H a o
end
abbrev Imm:HO->Prop
 | .tup _=>True
 | .rng _ _=>True
 | .frz _ _=>True
 | _=>False
structure Ext0 (ρ ρ':bb)(H H':Hp):Prop where
 pre:ρ <+: ρ'
 im:∀a u,Imm u->H a=some u->H' a=some u
structure Ext (ρ ρ':bb)(H H':Hp):Prop extends Ext0 ρ ρ' H H' where
 fr:∀a u,H a=some u->a∉ρ->H' a=some u
 nw:∀a,a∈ρ'->a∈ρ\/H a=none
def Ext.refl{H:Hp}:Ext ρ ρ H H:=⟨⟨dS _,λ_ _ _ h=>h⟩,λ_ _ h _=>h,λ_ h=>.inl h⟩
def Ext.trans{H H1 H2:Hp}(a:Ext ρ ρ1 H H1)(b:Ext ρ1 ρ2 H1 H2):Ext ρ ρ2 H H2:=⟨⟨a.pre.trans b.pre,λx u i h=>b.im x u i<|a.im x u i h⟩,λx u h n=>b.fr x u (a.fr x u h n) λz=>(a.nw x z).elim n λz=>by(rw[z]at h;cases h),λx h=>by
 by_cases d:x∈ρ
 ·exact .inl d
 ·right
  cases q:H x with
  | none=>rfl
  | some u=>
   rcases b.nw x h with z|z
   ·exact((a.nw x z).elim d λz=>by(rw[z]at q;cases q)).elim
   ·rw[a.fr x u q d]at z;cases z⟩
def Ext0.get{H H':Hp}(e:Ext0 ρ ρ' H H'){n:Nat}{a:ak}(h:ρ[n]?=some a):ρ'[n]?=some a:=by
 obtain⟨t,rfl⟩:=e.pre;rw[bB (aN.mp h).1];exact h
section
variable {K:au}{ρ ρ':bb}{H H':Hp}
def Ext0.sqT(e:Ext0 ρ ρ' H H'){a:ak}(h:nG K H a vs):nG K H' a vs:=by
 rcases h with(h|⟨o,h⟩)|h
 ·exact .inl (.inl<|e.im _ _ trivial h)
 ·exact .inl (.inr ⟨o,e.im _ _ trivial h⟩)
 ·exact .inr h
def Ext0.fz(e:Ext0 ρ ρ' H H'){a:ak}(h:Fz K H a vs):Fz K H' a vs:=by
 rcases h with⟨o,h⟩|h
 ·exact .inl ⟨o,e.im _ _ trivial h⟩
 ·exact .inr h
def Fz.PM{a:ak}(h:Fz K H a vs):lT K H a vs:=by
 rcases h with⟨o,h⟩|h
 ·exact .inl (.inr ⟨o,h⟩)
 ·exact .inr h
mutual
theorem AV.lq(e:Ext0 ρ ρ' H H'):∀{x:A}{v:V},AV K ρ H x v->AV K ρ' H' x v
 | _,_,.non=>.non
 | _,_,.bl b=>.bl b
 | _,_,.int i=>.int i
 | _,_,.str x=>.str x
 | _,_,.ty x=>.ty x
 | _,_,.tup h r=>.tup (e.im _ _ trivial h) (AVs.lq e r)
 | _,_,.frz h r=>.frz (e.fz h) (AVs.lq e r)
 | _,_,.rng h=>.rng (e.im _ _ trivial h)
 | _,_,.ref h=>.ref (e.get h)
 | _,_,.exn n h x=>.exn n (e.im _ _ trivial h) x
 | _,_,.ktu h r=>.ktu h<|AVs.lq e r
theorem AVs.lq(e:Ext0 ρ ρ' H H'):∀{xs:ae}{vs:List V},AVs K ρ H xs vs->AVs K ρ' H' xs vs
 | _,_,.nil=>.nil
 | _,_,.cons h t=>.cons (AV.lq e h)<|AVs.lq e t
end
theorem DV.lq(e:Ext0 ρ ρ' H H'):∀{xs:List<|ag×A}{vs:List<|List Key×V},DV K ρ H xs vs->DV K ρ' H' xs vs
 | [],[],_=>trivial
 | _::_,_::_,⟨⟨a,b⟩,r⟩=>⟨⟨a,AV.lq e b⟩,DV.lq e r⟩
def DV.ext{x:List<|ag×A}{v:List<|List Key×V}(h:DV K ρ H x v)(e:Ext ρ ρ' H H'):DV K ρ' H' x v:=DV.lq e.toExt0 h
theorem DI.lq(e:Ext0 ρ ρ' H H'):∀{xs:List<|Int×A}{vs:List<|Key×V},DI K ρ H xs vs->DI K ρ' H' xs vs
 | [],[],_=>trivial
 | _::_,_::_,⟨⟨a,b⟩,r⟩=>⟨⟨a,AV.lq e b⟩,DI.lq e r⟩
def DI.ext{x:List<|Int×A}{v:List<|Key×V}(h:DI K ρ H x v)(e:Ext ρ ρ' H H'):DI K ρ' H' x v:=DI.lq e.toExt0 h
def rR.lq{k:L2.kI}(e:Ext0 ρ ρ' H H'):L2.rR H b k->L2.rR H' b k:=λ⟨r1,r2,h1,h2,h3⟩=>⟨r1,r2,e.im _ _ trivial h1,e.im _ _ trivial h2,e.im _ _ trivial h3⟩
theorem DP.lq(e:Ext0 ρ ρ' H H'):∀{xs:List<|L2.kI×A}{vs:List<|L2.kI×ak×af},DP K ρ H xs vs->DP K ρ' H' xs vs
 | [],[],_=>trivial
 | _::_,_::_,⟨⟨a,k,v,c,b⟩,r⟩=>⟨⟨a,rR.lq e k,v,c,AV.lq e b⟩,DP.lq e r⟩
def DP.ext{x:List<|L2.kI×A}{v:List<|L2.kI×ak×af}(h:DP K ρ H x v)(e:Ext ρ ρ' H H'):DP K ρ' H' x v:=DP.lq e.toExt0 h
def AV.ext{x:A}{v:V}(h:AV K ρ H x v)(e:Ext ρ ρ' H H'):AV K ρ' H' x v:=AV.lq e.toExt0 h
def AVs.ext{x:ae}{v:List V}(h:AVs K ρ H x v)(e:Ext ρ ρ' H H'):AVs K ρ' H' x v:=AVs.lq e.toExt0 h
theorem AVs.length:∀{xs:ae}{vs:List V},AVs K ρ H xs vs->xs.length=vs.length
 | _,_,.nil=>rfl
 | _,_,.cons _ t=>dG (·+1)<|AVs.length t
theorem AVs.append:∀{xs ys:ae}{vs ws:List V},AVs K ρ H xs vs->AVs K ρ H ys ws->AVs K ρ H (xs++ys) (vs++ws)
 | _,_,_,_,.nil,s=>s
 | _,_,_,_,.cons h t,s=>.cons h<|AVs.append t s
theorem AVs.take:∀{xs:ae}{vs:List V}(n:Nat),AVs K ρ H xs vs->AVs K ρ H (xs.take n) (vs.take n)
 | _,_,0,_=>.nil
 | _,_,_+1,.nil=>.nil
 | _,_,n+1,.cons h t=>.cons h<|AVs.take n t
theorem AVs.drop:∀{xs:ae}{vs:List V}(n:Nat),AVs K ρ H xs vs->AVs K ρ H (xs.drop n) (vs.drop n)
 | _,_,0,r=>r
 | _,_,_+1,.nil=>.nil
 | _,_,n+1,.cons _ t=>AVs.drop n t
theorem AVs.get:∀{xs:ae}{vs:List V}{i:Nat}{x:A},AVs K ρ H xs vs->xs[i]?=some x->∃v,vs[i]?=some v/\AV K ρ H x v
 | _,_,_,_,.nil,e=>by simp at e
 | _,_,0,_,.cons h _,e=>by simp at e;subst e;exact⟨_,rfl,h⟩
 | _,_,i+1,x,.cons _ t,e=>by
  obtain⟨u,h1,h2⟩:=AVs.get (i:=i) (x:=x) t (by simpa using e);exact⟨u,by simpa using h1,h2⟩
theorem AVs.set{x:A}{v:V}(h:AV K ρ H x v):∀{xs:ae}{vs:List V}(i:Nat),AVs K ρ H xs vs->AVs K ρ H (xs.set i x) (vs.set i v)
 | _,_,_,.nil=>.nil
 | _,_,0,.cons _ t=>.cons h t
 | _,_,i+1,.cons q t=>.cons q<|AVs.set h i t
def AVs.one{x:A}{v:V}(h:AV K ρ H x v):AVs K ρ H [x] [v]:=.cons h .nil
theorem AVs.eraseIdx:∀{xs:ae}{vs:List V}(i:Nat),AVs K ρ H xs vs->AVs K ρ H (xs.eraseIdx i) (vs.eraseIdx i)
 | _,_,_,.nil=>.nil
 | _,_,0,.cons _ t=>t
 | _,_,i+1,.cons q t=>.cons q<|AVs.eraseIdx i t
theorem rL:∀(ns:ag),AVs K ρ H (ns.map .int) (ns.map .int)
 | []=>.nil
 | n::ns=>.cons (.int n)<|rL ns
def Rel.lay{S:iQ}{p:ak}(R:Rel K ρ H S)(hp:H p=none)(r:AVs K ρ H xs vs):Ext ρ (ρ++[p]) H (upd H p<|.lst vs)/\Rel K (ρ++[p]) (upd H p<|.lst vs) (S++[.lst xs])/\(ρ++[p])[S.length]?=some p:=by
 have ex:Ext ρ (ρ++[p]) H (upd H p<|.lst vs):=⟨⟨eY _ _,λa u _ h=>by rw[iZ<|je h hp];exact h⟩,λa u h _=>by rw[iZ<|je h hp];exact h,λa h=>by
  rcases bF.mp h with z|z
  ·exact .inl z
  ·have e:a=p:=by simpa using z
   rw[e];exact .inr hp⟩
 have d:∀(n:Nat) (a:ak),ρ[n]?=some a->a≠p:=by
  intro n a e z;subst z;have hn:n<S.length:=by rw[<- R.len];exact(aN.mp e).1
  have:=R.at n a S[n] e (aG hn)
  cases g:S[n]with
  | lst xs=>rw[g]at this;obtain⟨vs,h,_⟩:=this;rw[hp]at h;cases h
  | dct _|nV _|tH _=>rw[g]at this;obtain⟨vs,h,_⟩:=this;rw[hp]at h;cases h
  | ins _ _=>rw[g]at this;obtain⟨_,_,h⟩:=this;rw[hp]at h;cases h
 have last:(ρ++[p])[S.length]?=some p:=by rw[<- R.len];simp
 refine⟨ex,⟨by simp[R.len],?_,?_⟩,last⟩
 ·rw[c8];refine⟨R.nd,by simp,λa m b j e=>?_⟩;have:b=p:=by simpa using j
  obtain⟨n,hn,k⟩:=eB.mp m;exact d n a (by rw[aG hn,k])<|e.trans this
 ·intro n a o h1 h2;by_cases hn:n<S.length
  ·rw[bB<|by rw[R.len];exact hn]at h1;rw[bB hn]at h2;have:=R.at n a o h1 h2
   cases o with
   | lst ys=>obtain⟨f,e,q⟩:=this;exact⟨f,by rw[iZ<|d n a h1];exact e,q.ext ex⟩
   | dct _|nV _|tH _=>obtain⟨f,e,q⟩:=this;exact⟨f,by rw[iZ<|d n a h1];exact e,q.ext ex⟩
   | ins _ _=>obtain⟨C,B,e⟩:=this;exact⟨C,B,by rw[iZ<|d n a h1];exact e⟩
  ·have e:n=S.length:=by
    have:=(aN.mp h2).1;simp at this
    lia
   subst e;rw[last]at h1
   cases h1
   simp at h2;subst h2;exact⟨vs,jT,r.ext ex⟩
def Rel.im{p:ak}(R:Rel K ρ H S)(hp:H p=none):Ext ρ ρ H (upd H p u)/\Rel K ρ (upd H p u) S:=by
 have ex:Ext ρ ρ H (upd H p u):=⟨⟨dS _,λa u _ h=>by rw[iZ<|je h hp];exact h⟩,λa u h _=>by rw[iZ<|je h hp];exact h,λ_ h=>.inl h⟩;refine⟨ex,R.len,R.nd,λn a o h1 h2=>?_⟩;have:=R.at n a o h1 h2
 cases o with
 | lst ys=>obtain⟨d,e,q⟩:=this;exact⟨d,by rw[iZ<|je e hp];exact e,q.ext ex⟩
 | dct _|nV _|tH _=>obtain⟨d,e,q⟩:=this;exact⟨d,by rw[iZ<|je e hp];exact e,q.ext ex⟩
 | ins _ _=>obtain⟨g,f,e⟩:=this;exact⟨g,f,by rw[iZ<|je e hp];exact e⟩
def Rel.put{S:iQ}{n:Nat}{a:ak}(R:Rel K ρ H S)(ha:ρ[n]?=some a)(hS:S[n]?=some (.lst xs))(r:AVs K ρ H ys ws):Ext ρ ρ H (upd H a<|.lst ws)/\Rel K ρ (upd H a<|.lst ws) (S.set n<|.lst ys):=by
 obtain⟨vs,e,_⟩:=R.at n a _ ha hS;have ex:Ext ρ ρ H (upd H a<|.lst ws):=⟨⟨dS _,λb u i h=>by
  have:b≠a:=by
   intro z;subst z;rw[e]at h;cases h;exact i
  rw[iZ this];exact h⟩,λb u h n=>by
  rw[iZ λz=>n<|by rw[z];exact aX ha];exact h,λ_ h=>.inl h⟩
 refine⟨ex,by rw[bV];exact R.len,R.nd,λm b o h1 h2=>?_⟩;by_cases g:m=n
 ·subst g;rw[ha]at h1;cases h1;rw[bH (aN.mp hS).1]at h2
  cases h2
  exact⟨ws,jT,r.ext ex⟩
 ·rw[bL<|cP g]at h2;have nb:b≠a:=λz=>by
   subst z;obtain⟨B,e1⟩:=aN.mp ha;obtain⟨p,e2⟩:=aN.mp h1;exact g<|(dw R.nd).mp<|e2.trans e1.symm
  have:=R.at m b o h1 h2
  cases o with
  | lst ys=>obtain⟨d,f,q⟩:=this;exact⟨d,by rw[iZ nb];exact f,q.ext ex⟩
  | dct _|nV _|tH _=>obtain⟨d,f,q⟩:=this;exact⟨d,by rw[iZ nb];exact f,q.ext ex⟩
  | ins _ _=>obtain⟨k,j,f⟩:=this;exact⟨k,j,by rw[iZ nb];exact f⟩
def Rel.lst{n:Nat}{a:ak}(R:Rel K ρ H S)(ha:ρ[n]?=some a)(hS:S[n]?=some (.lst xs)):∃vs,H a=some (.lst vs)/\AVs K ρ H xs vs:=R.at n a _ ha hS
structure SR (K:au)(ρ:bb)(H:Hp)(τ:ae)(σ:St):Prop where
 len:τ.length=σ.length
 «at»:∀(i:Nat) (a:A),τ[i]?=some a->a=.unb\/∃v,σ[i]?=some (some v)/\AV K ρ H a v
def SR.lq(s:SR K ρ H τ σ)(e:Ext0 ρ ρ' H H'):SR K ρ' H' τ σ:=⟨s.len,λi a h=>by
 rcases s.at i a h with z|⟨v,h1,h2⟩
 ·exact .inl z
 ·exact .inr ⟨v,h1,AV.lq e h2⟩⟩
def SR.ext(s:SR K ρ H τ σ)(e:Ext ρ ρ' H H'):SR K ρ' H' τ σ:=s.lq e.toExt0
def Rel.out{D:ak}(R:Rel K ρ H S)(hD:H D=some (.lst vs))(hn:D∉ρ):Ext0 ρ ρ H (upd H D<|.lst ws)/\Rel K ρ (upd H D<|.lst ws) S:=by
 have ex:Ext0 ρ ρ H (upd H D<|.lst ws):=⟨dS _,λb u i h=>by
  have:b≠D:=by
   intro z;subst z;rw[hD]at h;cases h;exact i
  rw[iZ this];exact h⟩
 refine⟨ex,R.len,R.nd,λn a o h1 h2=>?_⟩;have na:a≠D:=λz=>hn (by rw[<- z];exact aX h1);have:=R.at n a o h1 h2
 cases o with
 | lst ys=>obtain⟨d,e,q⟩:=this;exact⟨d,by rw[iZ na];exact e,AVs.lq ex q⟩
 | dct _|nV _|tH _=>obtain⟨d,e,q⟩:=this;exact⟨d,by rw[iZ na];exact e,q.lq ex⟩
 | ins _ _=>obtain⟨g,f,e⟩:=this;exact⟨g,f,by rw[iZ na];exact e⟩
def Rel.take{S:iQ}{D:ak}(R:Rel K ρ H S)(hD:H D=some (.lst vs))(hn:D∉ρ)(r:AVs K ρ H xs vs):Rel K (ρ++[D]) H (S++[.lst xs])/\(ρ++[D])[S.length]?=some D:=by
 have ex:Ext0 ρ (ρ++[D]) H H:=⟨eY _ _,λ_ _ _ h=>h⟩;have last:(ρ++[D])[S.length]?=some D:=by rw[<- R.len];simp
 refine⟨⟨by simp[R.len],?_,λn a o h1 h2=>?_⟩,last⟩
 ·rw[c8];refine⟨R.nd,by simp,λa k b f e=>?_⟩;have:b=D:=by simpa using f
  exact hn<|by rw[<- this,<- e];exact k
 ·by_cases hs:n<S.length
  ·rw[bB<|by rw[R.len];exact hs]at h1;rw[bB hs]at h2;have:=R.at n a o h1 h2
   cases o with
   | lst ys=>obtain⟨d,e,q⟩:=this;exact⟨d,e,AVs.lq ex q⟩
   | dct _|nV _|tH _=>obtain⟨d,e,q⟩:=this;exact⟨d,e,q.lq ex⟩
   | ins _ _=>obtain⟨j,g,e⟩:=this;exact⟨j,g,e⟩
  ·have e:n=S.length:=by
    have:=(aN.mp h2).1;simp at this
    lia
   subst e;rw[last]at h1
   cases h1
   simp at h2;subst h2;exact⟨vs,hD,AVs.lq ex r⟩
def SR.set{τ:ae}{σ:St}{a:A}{v:V}(s:SR K ρ H τ σ)(h:AV K ρ H a v):SR K ρ H (τ.set i a) (σ.set i<|some v):=by
 refine⟨by simp[s.len],λj b e=>?_⟩;by_cases d:j=i
 ·subst d;have f:j<τ.length:=by
   have:=(aN.mp e).1;simpa using this
  rw[bH f]at e
  cases e
  exact .inr ⟨v,bH<|by rw[<- s.len];exact f,h⟩
 ·rw[bL<|cP d]at e;rw[bL<|cP d];exact s.at j b e
end
end Am
namespace Am
open PySem PySem.Spec PyProof.Rows L2
abbrev XE (X:Cx)(ρ:bb)(H:Hp):Str->iQ->Prop:=λc d=>∀(C:ak) (ρ':bb) (H':Hp),ClN X.K c C->Ext ρ ρ' H H'->Rel X.K ρ' H' d->EX X (.ref C) none H'
def XE.ext{X:Cx}{H H':Hp}{c:Str}(h:XE X ρ H c S)(e:Ext ρ ρ' H H'):XE X ρ' H' c S:=λC ρ2 H2 n e2=>h C ρ2 H2 n<|e.trans e2
abbrev yi (X:Cx)(ρ:bb)(H:Hp)(Q:VK):A->iQ->Prop:=λa d=>∀ρ' H' v,Ext ρ ρ' H H'->Rel X.K ρ' H' d->AV X.K ρ' H' a v->Q v H'
abbrev YT (X:Cx)(ρ:bb)(H:Hp)(Q:Bool->Hp->Prop):Bool->iQ->Prop:=λb d=>∀ρ' H',Ext ρ ρ' H H'->Rel X.K ρ' H' d->Q b H'
abbrev okL (X:Cx)(ρ:bb)(H:Hp)(Q:List V->Hp->Prop):ae->iQ->Prop:=λf d=>∀ρ' H' vs,Ext ρ ρ' H H'->Rel X.K ρ' H' d->AVs X.K ρ' H' f vs->Q vs H'
def yi.ext{X:Cx}{H H':Hp}{Q:VK}{a:A}(h:yi X ρ H Q a S)(e:Ext ρ ρ' H H'):yi X ρ' H' Q a S:=λρ2 H2 v e2=>h ρ2 H2 v<|e.trans e2
def YT.ext{X:Cx}{H H':Hp}{Q:Bool->Hp->Prop}{a:Bool}(h:YT X ρ H Q a S)(e:Ext ρ ρ' H H'):YT X ρ' H' Q a S:=λρ2 H2 e2=>h ρ2 H2<|e.trans e2
def iO{α:Type}{X:Cx}{H H':Hp}{r:R α}{P P':α->iQ->Prop}(h:r.post P<|XE X ρ H)(e:Ext ρ ρ' H H')(hp:∀a S,P a S->P' a S):r.post P' (XE X ρ' H'):=Ku h hp λ_ _ z=>z.ext e
abbrev tE (X:Cx)(c:Ex):TE:=λσ H Q=>∃ρ S τ,Rel X.K ρ H S/\SR X.K ρ H τ σ/\(c τ S).post (yi X ρ H Q) (XE X ρ H)
abbrev tT (X:Cx)(c:Te):TT:=λσ H Q=>∃ρ S τ,Rel X.K ρ H S/\SR X.K ρ H τ σ/\(c τ S).post (YT X ρ H Q) (XE X ρ H)
abbrev tL (X:Cx)(c:se):TA:=λσ H Q=>∃ρ S τ,Rel X.K ρ H S/\SR X.K ρ H τ σ/\(c τ S).post (okL X ρ H Q) (XE X ρ H)
abbrev AE (X:Cx)(e:aE)(c:Ex):Prop:=PE X e<|tE X c
abbrev AT (X:Cx)(e:aE)(c:Te):Prop:=PT X e<|tT X c
abbrev AW (X:Cx)(e:aE)(c:Te):Prop:=PW X e<|tT X c
abbrev AL (X:Cx)(es:List aE)(c:se):Prop:=PA X es<|tL X c
def PE.imp{X:Cx}{e:aE}{t t':TE}(h:PE X e t)(i:∀σ H Q,t' σ H Q->t σ H Q):PE X e t':=λpins s σ H Q I q=>h pins s σ H Q I<|i σ H Q q
def PT.imp{X:Cx}{e:aE}{t t':TT}(h:PT X e t)(i:∀σ H Q,t' σ H Q->t σ H Q):PT X e t':=λpins s σ H Q I q=>h pins s σ H Q I<|i σ H Q q
def PW.imp{X:Cx}{e:aE}{t t':TT}(h:PW X e t)(i:∀σ H Q,t' σ H Q->t σ H Q):PW X e t':=λw pins s σ H Q I q=>h w pins s σ H Q I<|i σ H Q q
def PA.imp{X:Cx}{e:List aE}{t t':TA}(h:PA X e t)(i:∀σ H Q,t' σ H Q->t σ H Q):PA X e t':=λp pins s σ H Q I q=>h p pins s σ H Q I<|i σ H Q q
def AW.at{X:Cx}{e:aE}{c:Te}(h:AW X e c):AT X e c:=h _
abbrev A.nI:A->Bool
 | .unb=>true
 | _=>false
abbrev iK (i:Nat):Ex:=λτ S=>if (τ.getD i .unb).nI then .no else .ok (τ.getD i .unb) S
abbrev eC (a:A):Ex:=λ_ S=>.ok a S
section
variable {X:Cx}{pos:Pos}{a b:aE}
def iJ(i:Nat){x:Str}(hN:X.N[i]?=some x:=by rfl)(hv:WJ X.env.scope x:=by first|exact Or.inl rfl|exact Or.inr (Or.inl rfl)|exact Or.inr<|Or.inr rfl)(hd:(x == ("__debug__" : Str))=false:=by decide)
  (hcd:(x == ("__classdict__" : Str))=false:=by decide):AE X (.Name x pos) (iK i):=PE.imp (Lv hN hv hd hcd) λσ H Q h9=>by
 z_go;unfold iK at h
 cases hi:τ[i]? with
 | none=>
  rw[aJ,hi]at h;exact h.elim
 | some x=>
  rw[aJ,hi]at h
  rcases r.at i x hi with z|⟨v,e,q⟩
  ·subst z;exact h.elim
  ·refine⟨v,e,?_⟩
   cases x<;>first|(exact h ρ H v .refl R q)|exact h.elim
def iP{i:Int}{j pos}:AE X (.Constant (.int i) j pos) (eC<|.int i):=PE.imp Wq λσ H Q ⟨ρ,S,τ,R,r,h⟩=>h ρ H _ .refl R<|.int i
def u9{j pos}:AE X (.Constant (.bool i) j pos) (eC<|.bl i):=PE.imp XU λσ H Q ⟨ρ,S,τ,R,r,h⟩=>h ρ H _ .refl R<|.bl i
def Lx{j pos}:AE X (.Constant .none j pos) (eC .non):=PE.imp Uq λσ H Q ⟨ρ,S,τ,R,r,h⟩=>h ρ H _ .refl R .non
def y9{x:Str}{i:Int}(hm:X.mg x=some (.int i t))(hg:Gl X x:=by rfl)(hd:(x == ("__debug__" : Str))=false:=by decide):AE X (.Name x pos) (eC<|.int i):=
 PE.imp (Q_ (v:=.int i) hg hm ⟨t,rfl⟩ hd) λσ H Q ⟨ρ,S,τ,R,r,h⟩=>h ρ H _ .refl R<|.int i
abbrev iR (f:A->A->iQ->R A)(ca cb:Ex):Ex:=λτ S=>(ca τ S).bind λa S1=>(cb τ S1).bind λb S2=>f a b S2
abbrev r2 (X:Cx)(f:A->A->iQ->R A):R2:=λx y H Q=>∃ρ S a b,Rel X.K ρ H S/\AV X.K ρ H a x/\AV X.K ρ H b y/\(f a b S).post (yi X ρ H Q) (XE X ρ H)
abbrev r1 (X:Cx)(f:A->iQ->R A):V->Hp->VK->Prop:=λx H Q=>∃ρ S a,Rel X.K ρ H S/\AV X.K ρ H a x/\(f a S).post (yi X ρ H Q) (XE X ρ H)
abbrev rN (X:Cx)(f:ae->iQ->R A):List V->Hp->VK->Prop:=λxs H Q=>∃ρ S d,Rel X.K ρ H S/\AVs X.K ρ H d xs/\(f d S).post (yi X ρ H Q) (XE X ρ H)
def nj.imp{f:af->af->Sem af}{r r':R2}(h:nj X f r)(i:∀x y H Q,r' x y H Q->r x y H Q):nj X f r':=λpins s σ H x y v u Q I rx ry q=>h pins s σ H x y v u Q I rx ry<|i _ _ _ _ q
def jo.imp{f:af}{r r':List V->Hp->VK->Prop}(h:jo X f r)(i:∀x H Q,r' x H Q->r x H Q):jo X f r':=λpins s σ H x v Q I rx q=>h pins s σ H x v Q I rx<|i _ _ _ q
def uT{f:A->A->iQ->R A}{ca cb:Ex}{H:Hp}{Q:VK}(h:tE X (iR f ca cb) σ H Q):WS (r2 X f) (tE X ca) (tE X cb) σ H Q:=by
 kln_w;refine⟨ρ,S,τ,R,r,iO (iV h) .refl λa S1 h1 ρ1 H1 x e1 R1 v1=>⟨ρ1,S1,τ,R1,r.ext e1,iO (iV h1) e1 λb S2 h2 ρ2 H2 y e2 R2 v2=>?_⟩⟩;exact⟨ρ2,S2,a,b,R2,v1.ext e2,v2,iO h2 (e1.trans e2) λc S3 h3=>h3.ext<|e1.trans e2⟩
def i6{f:A->A->iQ->R A}{ca cb:Ex}(ho:nj X (binaryOp op)<|r2 X f)(ha:AE X a ca)(hb:AE X b cb):AE X (.BinOp a op b pos) (iR f ca cb):=
 PE.imp (Xo ho ha hb) λσ H Q h=>uT h
def CG{op:CmpOp}{f:A->A->iQ->R A}{ca cb:Ex}(ho:nj X (compareOp op)<|r2 X f)(ha:AE X a ca)(hb:AE X b cb)(hm:behindInMarks op b=false:=by first|exact K8 _|with_unfolding_all rfl):AE X (.Compare a [op] [b] pos) (iR f ca cb):=
 PE.imp (Qh ho ha hb hm) λσ H Q h=>uT h
abbrev A.X6:A->iQ->bj
 | .non,_=>some false
 | .bl b,_=>some b
 | .int i,_=>some (i != 0)
 | .str x,_=>if x.length<=sizeLine then some ((x.length:Int) != 0)else none
 | .tup xs,_=>some (!xs.isEmpty)
 | .frz xs,_=>some (!xs.isEmpty)
 | .ref n,S=>(iN S n).map λxs=>!xs.isEmpty
 | _,_=>none
abbrev CO (c:Ex):Te:=λτ S=>(c τ S).bind λa S1=>opt (a.X6 S1) λb=>.ok b S1
abbrev ni (c:Ex):Te:=λτ S=>(c τ S).bind λa S1=>match a with
 | .bl b=>.ok b S1
 | _=>.no
def Bk{K:au}{H:Hp}{b:Bool}{v:V}(h:AV K ρ H (.bl b) v):v=.bl b:=by cases h;rfl
def jj{op:CmpOp}{f:A->A->iQ->R A}{ca cb:Ex}(ho:nj X (compareOp op)<|r2 X f)(ha:AE X a ca)(hb:AE X b cb)(hm:behindInMarks op b=false:=by first|exact K8 _|with_unfolding_all rfl):AT X (.Compare a [op] [b] pos) (ni<|iR f ca cb):=
 PT.imp (P_ ho ha hb hm) λσ H Q h9=>by
  z_go;refine uT ⟨ρ,S,τ,R,r,iO (iV h) .refl λc S1 h1 ρ1 H1 x e1 R1 v1=>?_⟩
  cases c with
  | bl k=>cases Bk v1;exact⟨k,rfl,h1 ρ1 H1 e1 R1⟩
  | _=>exact h1.elim
def UQ{K:au}{H:Hp}{x:A}{v:V}{b:Bool}(R:Rel K ρ H S)(h:AV K ρ H x v)(e:x.X6 S=some b):U8 K v H b:=by
 have d:∀{xs:ae} {vs:List V},AVs K ρ H xs vs->(!xs.isEmpty)=!vs.isEmpty:=λr=>by cases r<;>rfl
 cases h with
 | non=>exact(aU e).symm
 | bl b=>exact(aU e).symm
 | int i=>exact(aU e).symm
 | str x=>
  by_cases f:x.length<=sizeLine
  ·exact⟨f,by have:=(aL f).symm.trans e;exact(aU this).symm⟩
  ·have:=(aK f).symm.trans e;cases this
 | tup h r=>exact .inr (.inl ⟨_,nG.of h,by rw[<- d r];exact(aU e).symm⟩)
 | frz h r=>exact .inl ⟨_,h.PM,by rw[<- d r];exact(aU e).symm⟩
 | rng h=>cases e
 | ty n=>cases e
 | exn n h x=>cases e
 | ktu h r=>cases e
 | @ref a n h=>
  have e:(iN S n).map (λxs=>!xs.isEmpty)=some b:=e;obtain⟨xs,hn,e⟩:=a_.mp e;obtain⟨vs,h1,h2⟩:=R.lst h<|i9 hn;exact .inl ⟨vs,lT.of h1,by rw[<- d h2];exact e.symm⟩
def vK{ca:Ex}(ha:AE X a ca)(he:∀whole,isTrue a X.env whole=(do let v <- whole;standAt a.pos;holding [v] (truthy v)):=by intro _;rfl):AT X a (CO ca):=
 PT.imp (Ll ha he) λσ H Q ⟨ρ,S,τ,R,r,h⟩=>⟨ρ,S,τ,R,r,iO (iV h) .refl λc S1 h1 ρ1 H1 x e1 R1 v1=>by
  obtain⟨b,d,h1⟩:=iX h1;exact⟨b,UQ R1 v1 d,h1 ρ1 H1 e1 R1⟩⟩
abbrev Dr (c:Te):Te:=λτ S=>(c τ S).bind λb S1=>.ok (!b) S1
abbrev Cr (c d:Te):Te:=λτ S=>(c τ S).bind λb S1=>match b with|true=>d τ S1|false=>.ok false S1
abbrev PN (c d:Te):Te:=λτ S=>(c τ S).bind λb S1=>match b with|true=>.ok true S1|false=>d τ S1
def xJ{c:Te}(h:AT X a c):AT X (.UnaryOp .Not a pos) (Dr c):=PT.imp (UR h) λσ H Q ⟨ρ,S,τ,R,r,h⟩=>⟨ρ,S,τ,R,r,iO (iV h) .refl λb S1 h1=>h1⟩
def and_imp{c d:Te}{H:Hp}{Q:Bool->Hp->Prop}(h:tT X (Cr c d) σ H Q):WZ (tT X c) (tT X d) σ H Q:=by
 kln_w;refine⟨ρ,S,τ,R,r,iO (iV h) .refl λb S1 h1 ρ1 H1 e1 R1=>?_⟩
 cases b with
 | true=>
  rw[aL rfl];exact⟨ρ1,S1,τ,R1,r.ext e1,iO h1 e1 λ_ _ z=>z.ext e1⟩
 | false=>
  rw[aK bK];exact h1 ρ1 H1 e1 R1
def or_imp{c d:Te}{H:Hp}{Q:Bool->Hp->Prop}(h:tT X (PN c d) σ H Q):tOr (tT X c) (tT X d) σ H Q:=by
 kln_w;refine⟨ρ,S,τ,R,r,iO (iV h) .refl λb S1 h1 ρ1 H1 e1 R1=>?_⟩
 cases b with
 | false=>
  rw[aK bK];exact⟨ρ1,S1,τ,R1,r.ext e1,iO h1 e1 λ_ _ z=>z.ext e1⟩
 | true=>
  rw[aL rfl];exact h1 ρ1 H1 e1 R1
variable {rest:List aE}
def uE{c:Te}(h:AT X a c):AW X (.BoolOp .And [a] pos) c:=Ql h
def xg{c:Te}(h:AT X a c):AW X (.BoolOp .Or [a] pos) c:=VW h
def xy{c d:Te}(h:AT X a c)(h2:AW X (.BoolOp .And (b::rest) pos) d):AW X (.BoolOp .And (a::b::rest) pos) (Cr c d):=PW.imp (UU h h2) λ_ _ _ q=>and_imp q
def yW{c d:Te}(h:AT X a c)(h2:AW X (.BoolOp .Or (b::rest) pos) d):AW X (.BoolOp .Or (a::b::rest) pos) (PN c d):=PW.imp (Yr h h2) λ_ _ _ q=>or_imp q
abbrev L1 (c d:Ex):Ex:=λτ S=>(c τ S).bind λa S1=>match a with | .bl true=>d τ S1 | .bl false=>.ok (.bl false) S1|_=>.no
abbrev eOr (c d:Ex):Ex:=λτ S=>(c τ S).bind λa S1=>match a with | .bl true=>.ok (.bl true) S1 | .bl false=>d τ S1|_=>.no
abbrev Ud (c:Ex):Ex:=λτ S=>(c τ S).bind λa S1=>match a with | .bl b=>.ok (.bl !b) S1|_=>.no
def Pa{op}{c:Ex}(h:AE X a c):AE X (.BoolOp op [a] pos) c:=Vv h
def NB{c d:Ex}(h:AE X a c)(h2:AE X (.BoolOp .And (b::rest) pos) d):AE X (.BoolOp .And (a::b::rest) pos) (L1 c d):=PE.imp (VH h h2) λσ H Q h9=>by
 z_go;refine⟨ρ,S,τ,R,r,iO (iV h) .refl λb S1 h1 ρ1 H1 x e1 R1 v1=>?_⟩
 cases b with
 | bl k=>
  cases Bk v1
  refine⟨k,rfl,?_⟩
  cases k with
  | true=>
   rw[aL rfl];exact⟨ρ1,S1,τ,R1,r.ext e1,iO h1 e1 λ_ _ z=>z.ext e1⟩
  | false=>
   rw[aK bK];exact h1 ρ1 H1 _ e1 R1<|.bl false
 | _=>exact h1.elim
def Wn{c:Ex}(h:AE X a c):AE X (.UnaryOp .Not a pos) (Ud c):=PE.imp (Up h) λσ H Q h9=>by
 z_go;refine⟨ρ,S,τ,R,r,iO (iV h) .refl λb S1 h1 ρ1 H1 x e1 R1 v1=>?_⟩
 cases b with
 | bl k=>
  cases Bk v1
  exact⟨k,rfl,h1 ρ1 H1 _ e1 R1<|.bl _⟩
 | _=>exact h1.elim
abbrev eIf (t:Te)(c d:Ex):Ex:=λτ S=>(t τ S).bind λb S1=>match b with|true=>c τ S1|false=>d τ S1
abbrev iW:se:=λ_ S=>.ok [] S
abbrev iL (c:Ex)(d:se):se:=λτ S=>(c τ S).bind λa S1=>(d τ S1).bind λf S2=>.ok (a::f) S2
def iU:AL X [] iW:=PA.imp xG λσ H Q ⟨ρ,S,τ,R,r,h⟩=>h ρ H _ .refl R .nil
def iM{e:aE}{c:Ex}{d:se}(ha:AE X e c)(hr:AL X es d)(hs:starEach (e::es) X.env=(false,eval e X.env)::starEach es X.env:=by rfl):AL X (e::es) (iL c d):=
 PA.imp (oh ha hr hs) λσ H Q h9=>by
  z_go;refine⟨ρ,S,τ,R,r,iO (iV h) .refl λa S1 h1 ρ1 H1 x e1 R1 v1=>⟨ρ1,S1,τ,R1,r.ext e1,iO (iV h1) e1 λf S2 h2 ρ2 H2 xs e2 R2 v2=>?_⟩⟩;exact h2 ρ2 H2 _ (e1.trans e2) R2<|.cons (v1.ext e2) v2
abbrev oU (d:se):Ex:=λτ S=>(d τ S).bind λf S1=>gd (f.length<=sizeLine)<|.ok (.tup f) S1
abbrev newL (as:ae)(S:iQ):R A:=gd (as.length<=sizeLine)<|.ok (.ref S.length)<|S++[.lst as]
abbrev rP (d:se):Ex:=λτ S=>(d τ S).bind λf S1=>newL f S1
def qg{H H0:Hp}{Q:VK}(R:Rel X.K ρ H S)(r:AVs X.K ρ H as vs)(e:Ext ρ0 ρ H0 H)(h:yi X ρ0 H0 Q (.tup as) S):∀p,H p=none->Q (.ref p) (upd H p<|.tup vs):=λp hp=>by
 obtain⟨ex,d⟩:=R.im (u:=.tup vs) hp;exact h ρ _ _ (e.trans ex) d<|.tup jT<|r.ext ex
def nA{H H0:Hp}{S:iQ}{Q:VK}(R:Rel X.K ρ H S)(r:AVs X.K ρ H as vs)(e:Ext ρ0 ρ H0 H)(h:yi X ρ0 H0 Q (.ref S.length)<|S++[.lst as]):∀p,H p=none->Q (.ref p) (upd H p<|.lst vs):=λp hp=>by
 obtain⟨ex,d,g⟩:=R.lay hp r;exact h _ _ _ (e.trans ex) d<|.ref g
def Qt{H H0:Hp}{vs:List V}{Q:VK}(R:Rel X.K ρ H S)(r:AVs X.K ρ H as vs)(e:Ext ρ0 ρ H0 H)(h:(newL as S).post (yi X ρ0 H0 Q)<|XE X ρ0 H0):vs.length<=sizeLine/\∀p,H p=none->Q (.ref p) (upd H p<|.lst vs):=by
 obtain⟨d,h⟩:=jm h;exact⟨by rw[<- r.length];exact d,nA R r e h⟩
def lJ{d:se}{x1}(h:AL X es d):AE X (.Tuple es x1 pos) (oU d):=PE.imp (U0 h) λσ H Q h9=>by
 z_go;refine⟨ρ,S,τ,R,r,iO (iV h) .refl λg S1 h1 ρ1 H1 xs e1 R1 v1=>?_⟩;obtain⟨f,h1⟩:=jm h1;exact⟨by rw[<- v1.length];exact f,qg R1 v1 e1 h1⟩
def lA{d:se}(h:AL X es d):AE X (.List es pos) (rP d):=PE.imp (Vh h) λσ H Q ⟨ρ,S,τ,R,r,h⟩=>
 ⟨ρ,S,τ,R,r,iO (iV h) .refl λf S1 h1 ρ1 H1 xs e1 R1 v1=>Qt R1 v1 e1 h1⟩
end
section
variable {X:Cx}{pos:Pos}{a b:aE}
abbrev aSub (a b:A)(S:iQ):R A:=match a,b with
 | .int i,.int j=>.ok (.int<|i-j) S
 | _,_=>.no
def oi:nj X (binaryOp .Sub) (r2 X aSub):=nj.imp UI λx y H Q h9=>by
 x_go
 cases va<;>first|exact h.elim|(cases vb<;>first|exact h.elim|exact⟨_,_,rfl,rfl,h _ _ _ .refl R<|.int _⟩)
abbrev HD (i j:Int):Bool:=(decide (-(2 ^ 64)<i) && decide (i<2 ^ 64)) || (decide (-(2 ^ 64)<j) && decide (j<2 ^ 64))
def mulOk_of{i j:Int}(h:HD i j=true):QU i j:=by
 unfold HD at h;dsimp[iE,eL,dJ]at h;exact h
abbrev yd (a b:A)(S:iQ):R A:=match a,b with
 | .int i,.int j=>gd (HD i j) (.ok (.int<|i * j) S)
 | .ref n,.int k=>opt (iN S n) λxs=>gd (-(2 ^ 63)<=k/\k<2 ^ 63/\xs.length * k.toNat<=sizeLine) (.ok (.ref S.length)<|S++[.lst (List.replicate k.toNat xs).flatten])
 | _,_=>.no
theorem AVs.rep{K:au}{H:Hp}(r:AVs K ρ H xs vs):∀k:Nat,AVs K ρ H (List.replicate k xs).flatten (List.replicate k vs).flatten
 | 0=>.nil
 | k+1=>by rw[c6,c6,dH,dH];exact r.append<|AVs.rep r k
def AY:nj X (binaryOp .Mult) (r2 X yd):=λpins s σ H x y v u Q I rx ry h9=>by
 x_go
 cases va with
 | int i=>
  cases vb with
  | int j=>
   obtain⟨d,h⟩:=jm h;exact UK pins s σ H _ _ v u Q I rx ry ⟨i,j,rfl,rfl,mulOk_of d,h _ _ _ .refl R<|.int _⟩
  | _=>exact h.elim
 | @ref p n hp=>
  cases vb with
  | int k=>
   gn_on;obtain⟨hc,h⟩:=jm h;obtain⟨vs,h1,h2⟩:=R.lst hp<|i9 hn;exact WB pins s σ H _ _ v u Q I rx ry ⟨p,k,vs,rfl,rfl,h1,hc.1,hc.2.1,by rw[<- h2.length];exact hc.2.2,nA R (h2.rep _) .refl h⟩
  | _=>exact h.elim
 | _=>exact h.elim
abbrev Gv (a b:A)(S:iQ):R A:=match a,b with
 | .int i,.int j=>gd (0<j/\j<18446744073709551616) (.ok (.int<|i / j) S)
 | _,_=>.no
def NJ:nj X (binaryOp .FloorDiv) (r2 X Gv):=nj.imp Oo λx y H Q h9=>by
 x_go
 cases va<;>first|exact h.elim|(cases vb<;>first|exact h.elim|exact⟨_,_,rfl,rfl,(jm h).1,(jm h).2 _ _ _ .refl R<|.int _⟩)
abbrev CA (a b:A)(S:iQ):R A:=match a,b with
 | .int i,.int j=>gd (0<j) (.ok (.int<|i % j) S)
 | _,_=>.no
def DC:nj X (binaryOp .Mod) (r2 X CA):=nj.imp UJ λx y H Q h9=>by
 x_go
 cases va<;>first|exact h.elim|(cases vb<;>first|exact h.elim|exact⟨_,_,rfl,rfl,(jm h).1,(jm h).2 _ _ _ .refl R<|.int _⟩)
abbrev QB (a b:A)(S:iQ):R A:=match a,b with
 | .int i,.int j=>gd (0<=j/\j<=1000000/\i.natAbs<2 ^ 64) (.ok (.int<|i ^ j.toNat) S)
 | _,_=>.no
def YE:nj X (binaryOp .Pow) (r2 X QB):=nj.imp UC λx y H Q h9=>by
 x_go
 cases va<;>first|exact h.elim|(cases vb<;>first|exact h.elim|exact⟨_,_,rfl,rfl,(jm h).1,(jm h).2 _ _ _ .refl R<|.int _⟩)
abbrev jE (a b:A)(S:iQ):R A:=match a,b with
 | .int i,.int j=>.ok (.int<|i+j) S
 | .tup xs,.tup ys=>gd (xs.length+ys.length<=sizeLine) (.ok (.tup<|xs++ys) S)
 | .str x,.str y=>gd (x.length+y.length<=sizeLine) (.ok (.str<|x++y) S)
 | .ref n,.ref m=>opt (iN S n) λxs=>opt (iN S m) λys=>gd (xs.length+ys.length<=sizeLine) (.ok (.ref S.length)<|S++[.lst<|xs++ys])
 | _,_=>.no
def AVs.nil_inv{K:au}{H:Hp}(r:AVs K ρ H xs vs):xs=[] ↔ vs=[]:=by cases r<;>simp
def jG:nj X (binaryOp .Add) (r2 X jE):=λpins s σ H x y v u Q I rx ry h9=>by
 x_go
 cases va with
 | int i=>
  cases vb with
  | int j=>exact Wm pins s σ H _ _ v u Q I rx ry ⟨i,j,rfl,rfl,h _ _ _ .refl R<|.int _⟩
  | _=>exact h.elim
 | str x=>
  cases vb with
  | str y=>
   obtain⟨hc,h⟩:=jm h;exact FO pins s σ H _ _ v u Q I rx ry ⟨x,y,rfl,rfl,hc,h _ _ _ .refl R<|.str _⟩
  | _=>exact h.elim
 | @tup p xs vs h1 r1=>
  cases vb with
  | @tup q ys d h2 r2=>
   obtain⟨hc,h⟩:=jm h;by_cases hv:vs=[]
   ·have k:=r1.nil_inv.mpr hv;subst hv k;exact Py pins s σ H _ _ v u Q I rx ry ⟨p,q,d,rfl,rfl,nG.of h1,nG.of h2,h _ _ _ .refl R<|.tup h2 r2⟩
   ·refine Ru pins s σ H _ _ v u Q I rx ry ⟨p,q,vs,d,rfl,rfl,nG.of h1,nG.of h2,hv,by rw[<- r1.length,<- r2.length];exact hc,λe=>?_,λ_=>qg R (r1.append r2) .refl h⟩;have hy:=r2.nil_inv.mpr e;subst hy;rw[cJ]at h;exact h _ _ _ .refl R<|.tup h1 r1
  | _=>exact h.elim
 | @ref p n hp=>
  cases vb with
  | @ref q m hq=>
   gn_on;obtain⟨ys,g,h⟩:=iX h;obtain⟨hc,h⟩:=jm h;obtain⟨vs,h1,h2⟩:=R.lst hp<|i9 hn;obtain⟨d,h3,f⟩:=R.lst hq<|i9 g;exact Uj pins s σ H _ _ v u Q I rx ry ⟨p,q,vs,d,rfl,rfl,h1,h3,by rw[<- h2.length,<- f.length];exact hc,nA R (h2.append f) .refl h⟩
  | _=>exact h.elim
 | _=>exact h.elim
abbrev A.ints:ae->Option (ag)
 | []=>some []
 | .int i::xs=>(A.ints xs).map (i::·)
 | _=>none
def We{x:A}{bs:ag}(e:A.ints (x::xs)=some bs):∃b cs,x=.int b/\A.ints xs=some cs/\bs=b::cs:=by
 unfold A.ints at e;split at e
 ·rename_i z;cases z
 ·rename_i i ys z
  cases z
  obtain⟨cs,h1,h2⟩:=a_.mp e;exact⟨i,cs,rfl,h1,h2.symm⟩
 ·cases e
def uK{K:au}{H:Hp}:∀{xs:ae}{vs:List V}{bs:ag},AVs K ρ H xs vs->A.ints xs=some bs->vs=bs.map V.int:=by
 intro xs
 induction xs with
 | nil=>
  intro vs bs h e
  cases h
  cases e
  rfl
 | cons x xs d=>
  intro vs bs h e;obtain⟨b,f,rfl,e1,rfl⟩:=We e
  cases h with
  | cons h t=>
   cases h
   rw[d t e1];rfl
abbrev Av (a b:A)(S:iQ):R A:=match a,b with
 | .int i,.int j=>.ok (.bl<|decide<|i<j) S
 | _,_=>.no
def zm(hu:X.A.units+64<cLine):nj X (compareOp .Lt) (r2 X Av):=λpins s σ H x y v u Q I rx ry h9=>by
 x_go
 cases va with
 | int i=>
  cases vb with
  | int j=>exact Xa pins s σ H _ _ v u Q I rx ry ⟨i,j,rfl,rfl,h _ _ _ .refl R<|.bl _⟩
  | _=>exact h.elim
 | _=>exact h.elim
abbrev Wt (a b:A)(S:iQ):R A:=match a,b with
 | .int i,.int j=>.ok (.bl<|decide<|i<=j) S
 | _,_=>.no
def RB:nj X (compareOp .LtE) (r2 X Wt):=nj.imp Yz λx y H Q h9=>by
 x_go
 cases va<;>first|exact h.elim|(cases vb<;>first|exact h.elim|exact⟨_,_,rfl,rfl,h _ _ _ .refl R<|.bl _⟩)
abbrev A7 (a b:A)(S:iQ):R A:=match a,b with
 | .int i,.int j=>.ok (.bl<|decide<|j<i) S
 | _,_=>.no
def vR(hu:X.A.units+64<cLine):nj X (compareOp .Gt) (r2 X A7):=λpins s σ H x y v u Q I rx ry h9=>by
 x_go
 cases va with
 | int i=>
  cases vb with
  | int j=>exact Yb pins s σ H _ _ v u Q I rx ry ⟨i,j,rfl,rfl,h _ _ _ .refl R<|.bl _⟩
  | _=>exact h.elim
 | _=>exact h.elim
abbrev YS (a b:A)(S:iQ):R A:=match a,b with
 | .int i,.int j=>.ok (.bl<|decide<|j<=i) S
 | _,_=>.no
def ZJ:nj X (compareOp .GtE) (r2 X YS):=nj.imp Yj λx y H Q h9=>by
 x_go
 cases va<;>first|exact h.elim|(cases vb<;>first|exact h.elim|exact⟨_,_,rfl,rfl,h _ _ _ .refl R<|.bl _⟩)
abbrev KD (neg:Bool)(a b:A)(S:iQ):R A:=match a,b with
 | .bl i,.bl j=>.ok (.bl<|if neg then i != j else i == j) S
 | .non,.non=>.ok (.bl<|!neg) S
 | .unb,.non=>.no
 | .exn _,.non=>.no
 | _,.non=>.ok (.bl neg) S
 | _,_=>.no
def Us{n:Bool}{a b:A}(h1:b≠.non)(h2:∀j,b≠.bl j):KD n a b S=.no:=by
 unfold KD;split<;>first|rfl|exact absurd rfl h1|exact absurd rfl<|h2 _
def U4{n:Bool}{a b:A}{F:A->iQ->Prop}{G:Str->iQ->Prop}(h:(KD n a b S).post F G)(h1:b≠.non)(h2:∀j,b≠.bl j):False:=by
 rw[Us h1 h2]at h;exact h
def ZC:nj X (compareOp .Is) (r2 X<|KD false):=λpins s σ H x y v u Q I rx ry h9=>by
 x_go
 cases vb with
 | non=>
  refine U_ pins s σ H _ _ v u Q I rx ry ⟨rfl,?_⟩
  cases va<;>first|exact h _ _ _ .refl R (.bl _)|exact h.elim
 | bl j=>
  cases va with
  | bl i=>exact Ub pins s σ H _ _ v u Q I rx ry ⟨i,j,rfl,rfl,h _ _ _ .refl R<|.bl _⟩
  | _=>exact h.elim
 | _=>
  exact(U4 h (λz=>nomatch z) nofun).elim
abbrev WQ (f:A->iQ->R A)(c:Ex):Ex:=λτ S=>(c τ S).bind λa S1=>f a S1
abbrev OB (a:A)(S:iQ):R A:=match a with
 | .int i=>.ok (.int<|-i) S
 | _=>.no
def X4:YQ X (unaryOp .USub) (r1 X OB):=λpins s σ H x v Q I rx h9=>by
 obtain⟨ρ,S,a,R,va,h⟩:=h9
 cases va with
 | int i=>exact V7 pins s σ H _ v Q I rx ⟨i,rfl,h _ _ _ .refl R<|.int _⟩
 | _=>exact h.elim
def Wh{f:A->iQ->R A}{c:Ex}{H:Hp}{Q:VK}(h:tE X (WQ f c) σ H Q):tUn (r1 X f) (tE X c) σ H Q:=by
 kln_w;exact⟨ρ,S,τ,R,r,iO (iV h) .refl λa S1 h1 ρ1 H1 x e1 R1 v1=>⟨ρ1,S1,a,R1,v1,iO h1 e1 λc S3 h3=>h3.ext e1⟩⟩
def Wb{c:Ex}(h:AE X a c):AE X (.UnaryOp .USub a pos) (WQ OB c):=PE.imp (W0 X4 h) λ_ _ _ q=>Wh q
abbrev mh (a b:A)(S:iQ):R A:=match a,b with
 | .tup xs,.int i=>opt (om xs i) λx=>.ok x S
 | .frz xs,.int i=>opt (om xs i) λx=>.ok x S
 | .ref n,.int i=>opt (iN S n) λxs=>opt (om xs i) λx=>.ok x S
 | .str z,.int i=>gd (z.length<=sizeLine) (opt (om z.cps.toList i) λc=>.ok (.str ⟨#[c]⟩) S)
 | _,_=>.no
def AVs.om{K:au}{H:Hp}{i:Int}{x:A}(r:AVs K ρ H xs vs)(h:L2.om xs i=some x):∃v,L2.om vs i=some v/\AV K ρ H x v:=by
 unfold L2.om at h ⊢;rw[<- r.length]
 cases d:C_ xs.length i with
 | none=>rw[d]at h;cases h
 | some j=>
  rw[d]at h;exact r.get h
def X7:QK X (r2 X mh):=λvalue slice pins s σ H x y v u Q I rx ry ⟨ρ,S,a,b,R,va,vb,h⟩ hs=>by
 cases va with
 | @tup p xs vs h1 r1=>
  cases vb with
  | int i=>
   obtain⟨x,d,h⟩:=iX h;obtain⟨z,e,q⟩:=r1.om d;exact VQ value slice pins s σ H _ _ v u Q I rx ry ⟨p,vs,i,z,rfl,rfl,nG.of h1,e,h _ _ _ .refl R q⟩ hs
  | _=>exact h.elim
 | @frz p xs vs h1 r1=>
  cases vb with
  | int i=>
   obtain⟨x,d,h⟩:=iX h;obtain⟨z,e,q⟩:=r1.om d;exact HR value slice pins s σ H _ _ v u Q I rx ry ⟨p,vs,i,z,rfl,rfl,h1.PM,e,h _ _ _ .refl R q⟩ hs
  | _=>exact h.elim
 | @ref p n hp=>
  cases vb with
  | int i=>
   gn_on;obtain⟨x,d,h⟩:=iX h;obtain⟨vs,h1,r1⟩:=R.lst hp<|i9 hn;obtain⟨z,e,q⟩:=r1.om d;exact HR value slice pins s σ H _ _ v u Q I rx ry ⟨p,vs,i,z,rfl,rfl,lT.of h1,e,h _ _ _ .refl R q⟩ hs
  | _=>exact h.elim
 | str z=>
  cases vb with
  | int i=>
   obtain⟨hz,h⟩:=jm h;obtain⟨c,hc,h⟩:=iX h;exact V6 value slice pins s σ H _ _ v u Q I rx ry ⟨z,i,c,rfl,rfl,hz,hc,h _ _ _ .refl R<|.str _⟩ hs
  | _=>exact h.elim
 | _=>exact h.elim
def jF{ca cb:Ex}(ha:AE X a ca)(hb:AE X b cb)(hs:yH b:=by exact λ_ _=>rfl):AE X (.Subscript a b pos) (iR mh ca cb):=PE.imp (Lg X7 ha hb hs) λσ H Q h=>uT h
end
abbrev uA (f:A->A->bj):ae->ae->bj
 | [],[]=>some true
 | x::xs,y::ys=>(f x y).bind λp=>(uA f xs ys).map λq=>p && q
 | _,_=>some false
inductive Sh
 | non
 | bl (b:Bool)
 | int (i:Int)
 | str (x:Str)
 | tup (xs:ae)
 | lst
abbrev Wo (S:iQ):A->Option Sh
 | .non=>some .non
 | .bl b=>some (.bl b)
 | .int i=>some (.int i)
 | .str x=>some (.str x)
 | .tup xs=>some (.tup xs)
 | .ref i=>(iN S i).map λ_=>.lst
 | _=>none
abbrev Si (f:A->A->bj):Sh->Sh->bj
 | .non,.non=>some true
 | .bl x,.bl y=>some (x == y)
 | .bl x,.int y=>some ((if x then 1 else 0) == y)
 | .int x,.bl y=>some (x == (if y then 1 else 0))
 | .int x,.int y=>some (x == y)
 | .str x,.str y=>some (x == y)
 | .tup xs,.tup ys=>uA f xs ys
 | .lst,.lst=>none
 | _,_=>some false
abbrev wW (S:iQ):Nat->A->A->bj
 | 0,_,_=>none
 | n+1,a,b=>match a,b with
  | .ref i,.ref j=>(iN S i).bind λxs=>(iN S j).bind λys=>uA (wW S n) xs ys
  | _,_=>(Wo S a).bind λx=>(Wo S b).bind λy=>Si (wW S n) x y
section
variable {X:Cx}{pins:bo}{σ:L2.St}{H:Hp}{s:aC}{ρ:bb}{S:iQ}
inductive KdV (s:aC):Sh->af->Prop
 | non:KdV s .non .none
 | bl (b:Bool):KdV s (.bl b) (.bool b)
 | int (i:Int) (t:Tok):KdV s (.int i) (.int i t)
 | str (x:Str) (t:Tok):KdV s (.str x) (.str x t)
 | tup {p:ak} {us:ba} (xs:ae) (h:s.heap.IsTuple p us.toArray):KdV s (.tup xs) (.ref p)
 | lst {p:ak} {us:ba} (h:s.heap.IsList p us.toArray):KdV s .lst<|.ref p
def Ig{p:ak}(h:s.heap.IsTuple p us)(h':s.heap.IsList p ws):False:=by
 obtain⟨o,e,c,_⟩:=h;obtain⟨o',d,f,_⟩:=h';rw[e]at d
 cases d
 exact absurd (c.symm.trans f) ⋯
def Gh(I:Inv X pins σ H s)(R:Rel X.K ρ H S){a:A}{x:V}(ha:AV X.K ρ H a x)(r:RelV x u)(e:Wo S a=some h):KdV s h u:=by
 cases ha with
 | non=>cases e;cases(show u=Value.none from r);exact .non
 | bl b=>cases e;cases(show u=Value.bool b from r);exact .bl b
 | int i=>cases e;obtain⟨t,rfl⟩:∃t,u=Value.int i t:=r;exact .int i t
 | str i=>cases e;obtain⟨t,rfl⟩:∃t,u=Value.str i t:=r;exact .str i t
 | tup h1 r1=>cases e;cases(show u=Value.ref _ from r);obtain⟨us,_,p,_⟩:=I.tuple<|nG.of h1;exact .tup _ p
 | ref h1=>
  obtain⟨xs,e1,rfl⟩:=a_.mp e
  cases(show u=Value.ref _ from r)
  obtain⟨vs,h3,r1⟩:=R.lst h1<|i9 e1;obtain⟨us,_,p,_⟩:=I.list<|lT.of h3;exact .lst p.isList
 | _=>cases e
abbrev Al (B:aA)(s:aC)(u v:af)(k:Bool):Prop:=SeqAt.RcAt B s u v k/\SeqAt.EqAt B s u v k/\SeqAt.RcNeAt B s u v (!k)
def YF{B:aA}(hu:B.units<cLine){f:A->A->bj}{v:af}{k:Bool}(d:KdV s h u)(d':KdV s h' v)(nt:∀xs ys,h=.tup xs->h'≠.tup ys)(e:Si f h h'=some k):Al B s u v k:=by
 cases d with
 | non=>cases d' with
  | non=>cases e;exact⟨.none_none,.same _,.none_none⟩
  | bl b=>cases e;exact⟨.none_bool _,.none_bool _,.none_bool _⟩
  | int i t=>cases e;exact⟨.none_int _ _,.none_int _ _,.none_int _ _⟩
  | str x t=>cases e;exact⟨.none_str _ _,.none_str _ _,.none_str _ _⟩
  | tup xs p=>cases e;exact⟨.none_tuple p hu,.none_tuple p hu,.none_tuple p hu⟩
  | lst p=>cases e;exact⟨.none_list p hu,.none_list p hu,.none_list p hu⟩
 | bl c=>cases d' with
  | non=>cases e;exact⟨.bool_none _,.bool_none _,.bool_none _⟩
  | bl b=>cases e;exact⟨.bool_bool _ _,.bool_bool _ _,.bool_bool _ _⟩
  | int i t=>cases e;exact⟨.bool_int _ _ _,.bool_int _ _ _,.bool_int _ _ _⟩
  | str x t=>cases e;exact⟨.bool_str _ _ _,.bool_str _ _ _,.bool_str _ _ _⟩
  | tup xs p=>cases e;exact⟨.bool_tuple _ p hu,.bool_tuple _ p hu,.bool_tuple _ p hu⟩
  | lst p=>cases e;exact⟨.bool_list _ p hu,.bool_list _ p hu,.bool_list _ p hu⟩
 | int c j=>cases d' with
  | non=>cases e;exact⟨.int_none _ _,.int_none _ _,.int_none _ _⟩
  | bl b=>cases e;exact⟨.int_bool _ _ _,.int_bool _ _ _,.int_bool _ _ _⟩
  | int i t=>cases e;exact⟨.int_int _ _ _ _,.int_int _ _ _ _,.int_int _ _ _ _⟩
  | str x t=>cases e;exact⟨.int_str _ _ _ _,.int_str _ _ _ _,.int_str _ _ _ _⟩
  | tup xs p=>cases e;exact⟨.int_tuple _ _ p hu,.int_tuple _ _ p hu,.int_tuple _ _ p hu⟩
  | lst p=>cases e;exact⟨.int_list _ _ p hu,.int_list _ _ p hu,.int_list _ _ p hu⟩
 | str c j=>cases d' with
  | non=>cases e;exact⟨.str_none _ _,.str_none _ _,.str_none _ _⟩
  | bl b=>cases e;exact⟨.str_bool _ _ _,.str_bool _ _ _,.str_bool _ _ _⟩
  | int i t=>cases e;exact⟨.str_int _ _ _ _,.str_int _ _ _ _,.str_int _ _ _ _⟩
  | str x t=>cases e;exact⟨.str_str _ _ _ _,.str_str _ _ _ _,.str_str _ _ _ _⟩
  | tup xs p=>cases e;exact⟨.str_tuple _ _ p hu,.str_tuple _ _ p hu,.str_tuple _ _ p hu⟩
  | lst p=>cases e;exact⟨.str_list _ _ p hu,.str_list _ _ p hu,.str_list _ _ p hu⟩
 | tup zs g=>cases d' with
  | non=>cases e;exact⟨.tuple_none g hu,.tuple_none g hu,.tuple_none g hu⟩
  | bl b=>cases e;exact⟨.tuple_bool _ g hu,.tuple_bool _ g hu,.tuple_bool _ g hu⟩
  | int i t=>cases e;exact⟨.tuple_int _ _ g hu,.tuple_int _ _ g hu,.tuple_int _ _ g hu⟩
  | str x t=>cases e;exact⟨.tuple_str _ _ g hu,.tuple_str _ _ g hu,.tuple_str _ _ g hu⟩
  | tup xs p=>exact absurd rfl (nt _ _ rfl)
  | lst p=>cases e;exact⟨.tuple_list g p hu,.of_refs (λz=>by subst z;exact Ig g p)<|.tuple_list g p hu,.tuple_list g p hu⟩
 | lst g=>cases d' with
  | non=>cases e;exact⟨.list_none g hu,.list_none g hu,.list_none g hu⟩
  | bl b=>cases e;exact⟨.list_bool _ g hu,.list_bool _ g hu,.list_bool _ g hu⟩
  | int i t=>cases e;exact⟨.list_int _ _ g hu,.list_int _ _ g hu,.list_int _ _ g hu⟩
  | str x t=>cases e;exact⟨.list_str _ _ g hu,.list_str _ _ g hu,.list_str _ _ g hu⟩
  | tup xs p=>cases e;exact⟨.list_tuple g p hu,.of_refs (λz=>by subst z;exact Ig p g)<|.list_tuple g p hu,.list_tuple g p hu⟩
  | lst p=>cases e
def BI{a:A}{x:V}(h:AV X.K ρ H a x)(e:Wo S a=some (.tup xs)):a=.tup xs/\∃p vs,x=.ref p/\H p=some (.tup vs)/\AVs X.K ρ H xs vs:=by
 cases h with
 | tup h r=>cases e;exact⟨rfl,_,_,rfl,h,r⟩
 | ref h=>obtain⟨_,_,z⟩:=a_.mp e;cases z
 | _=>cases e
def CZ{i:Nat}{x:V}(h:AV X.K ρ H (.ref i) x):∃p,x=.ref p/\ρ[i]?=some p:=by
 cases h with
 | ref h=>exact⟨_,rfl,h⟩
def L_{a:A}(e:Wo S a=some .lst):∃i,a=.ref i:=by
 cases a with
 | ref i=>exact⟨i,rfl⟩
 | _=>cases e
def NN{n:Nat}{a:A}{k:Bool}(e:wW S (n+1) a b=some k):(∃i j xs ys,a=.ref i/\b=.ref j/\iN S i=some xs/\iN S j=some ys/\uA (wW S n) xs ys=some k)\/(∃h h',Wo S a=some h/\Wo S b=some h'/\Si (wW S n) h h'=some k/\(h=.lst->h'≠.lst)):=by
 unfold wW at e;split at e
 ·obtain⟨xs,e1,e⟩:=bX.mp e;obtain⟨ys,e2,e⟩:=bX.mp e;exact .inl ⟨_,_,xs,ys,rfl,rfl,e1,e2,e⟩
 ·rename_i g;obtain⟨h,e1,e⟩:=bX.mp e;obtain⟨h',e2,e⟩:=bX.mp e;refine .inr ⟨h,h',e1,e2,e,λf d=>?_⟩;subst f d;obtain⟨i,rfl⟩:=L_ e1;obtain⟨j,rfl⟩:=L_ e2;exact g i j rfl rfl
def QL{f:A->A->bj}{k:Bool}(d:KdV s h u)(d':KdV s h' u)(nt:∀xs ys,h=.tup xs->h'≠.tup ys)(e:Si f h h'=some k):k=true:=by
 cases d with
 | non=>cases d';exact(aU e).symm
 | bl b=>cases d';exact(aU e).symm.trans (bI b)
 | int b=>cases d';exact(aU e).symm.trans (bI b)
 | str b=>cases d';exact(aU e).symm.trans (bI b)
 | tup xs p=>cases d' with
  | tup=>exact absurd rfl (nt _ _ rfl)
  | lst q=>exact(Ig p q).elim
 | lst p=>cases d' with
  | tup _ q=>exact(Ig q p).elim
  | lst q=>cases e
def Et{f:A->A->bj}(hf:∀a b x u k,AV X.K ρ H a x->AV X.K ρ H b x->RelV x u->f a b=some k->k=true):∀{xs ys:ae}{vs:List V}{us:ba}{k:Bool},AVs X.K ρ H xs vs->AVs X.K ρ H ys vs->Vals vs us->uA f xs ys=some k->k=true:=by
 intro xs ys vs us k h1 h2 q e
 induction q generalizing xs ys k with
 | nil=>cases h1;cases h2;exact(aU e).symm
 | cons rv _ d=>
  cases h1 with
  | cons h t=>cases h2 with
   | cons h' g=>
    obtain⟨p,e1,e⟩:=bX.mp e;obtain⟨q,e2,e3⟩:=a_.mp e;rw[<- e3,hf _ _ _ _ p h h' rv e1,d t g e2];rfl
def Ju(h h':Sh):(∃xs ys,h=.tup xs/\h'=.tup ys)\/(∀xs ys,h=.tup xs->h'≠.tup ys):=by
 cases h with
 | tup xs=>cases h' with
  | tup ys=>exact .inl ⟨xs,ys,rfl,rfl⟩
  | _=>exact .inr λ_ _ _ z=>nomatch z
 | _=>exact .inr λ_ _ z=>nomatch z
theorem CN(I:Inv X pins σ H s)(R:Rel X.K ρ H S):∀(n:Nat) (a b:A) (x:V) (u:af) (k:Bool),AV X.K ρ H a x->AV X.K ρ H b x->RelV x u->wW S n a b=some k->k=true
 | 0,_,_,_,_,_,_,_,_,e=>nomatch e
 | n+1,a,b,x,u,k,ha,hb,ru,e=>by
  rcases NN e with⟨i,j,xs,ys,rfl,rfl,e1,e2,e⟩|⟨h,h',e1,e2,e,_⟩
  ·obtain⟨p,rfl,h1⟩:=CZ ha;obtain⟨q,z,h2⟩:=CZ hb
   cases z
   obtain⟨vs,h3,r1⟩:=R.lst h1<|i9 e1;obtain⟨f,d,r2⟩:=R.lst h2<|i9 e2;rw[h3]at d
   cases d
   obtain⟨us,q,_⟩:=I.list<|lT.of h3;exact Et (λa b x u k=>CN I R n a b x u k) r1 r2 q e
  ·rcases Ju h h' with⟨xs,ys,rfl,rfl⟩|g
   ·obtain⟨rfl,p,vs,rfl,h3,r1⟩:=BI ha e1;obtain⟨rfl,q,f,z,d,r2⟩:=BI hb e2
    cases z
    have:=I.A3 (nG.of h3)<|nG.of d;subst this;obtain⟨us,q,_⟩:=I.tuple<|nG.of h3;exact Et (λa b x u k=>CN I R n a b x u k) r1 r2 q e
   ·exact QL (Gh I R ha ru e1) (Gh I R hb ru e2) g e
abbrev Ax (f:A->A->bj)(xs ys:ae)(j:Nat):Bool:=match xs[j]?,ys[j]? with
 | some x,some y=>(f x y).getD true
 | _,_=>true
theorem yP{f:A->A->bj}:∀{xs ys:ae}{k:Bool},uA f xs ys=some k->k=((List.range<|min xs.length ys.length).all (Ax f xs ys) && xs.length == ys.length)/\∀j x y,xs[j]?=some x->ys[j]?=some y->f x y=some (Ax f xs ys j)
 | [],[],k,e=>⟨(aU e).symm,λj x y h=>by simp at h⟩
 | [],_::_,k,e=>⟨(aU e).symm,λj x y h=>by simp at h⟩
 | _::_,[],k,e=>⟨(aU e).symm,λj x y _ h=>by simp at h⟩
 | x::xs,y::ys,k,e=>by
  unfold uA at e
  cases e1:f x y with
  | none=>rw[e1]at e;cases e
  | some p=>
   rw[e1]at e;obtain⟨q,e2,e3⟩:=a_.mp e;obtain⟨h1,h2⟩:=yP e2;have m:Ax f (x::xs) (y::ys) 0=p:=by simp[Ax,e1]
   have ps:∀j,Ax f (x::xs) (y::ys) (j+1)=Ax f xs ys j:=λj=>by simp[Ax]
   refine⟨?_,λj a b g d=>?_⟩
   ·rw[<- e3,h1,bq,bq,Nat.succ_min_succ,gq,List.all_cons,List.all_map,m];have:(Ax f (x::xs) (y::ys) ∘ Nat.succ)=Ax f xs ys:=funext ps;rw[this,Bool.and_assoc];simp
   ·cases j with
    | zero=>
     simp at g d;subst g d;rw[m];exact e1
    | succ j=>rw[ps];exact h2 j a b (by simpa using g)<|by simpa using d
def yD{f:A->A->bj}{B:aA}(hf:∀a b x y u v k,AV X.K ρ H a x->AV X.K ρ H b y->RelV x u->RelV y v->f a b=some k->SeqAt.EqAt B s u v k){us ts:ba}{k:Bool}
  (r1:AVs X.K ρ H xs vs) (r2:AVs X.K ρ H ys ws) (q1:Vals vs us) (q2:Vals ws ts) (e:uA f xs ys=some k):∀j (h1:j<us.toArray.size) (h2:j<ts.toArray.size),SeqAt.EqAt B s us.toArray[j] ts.toArray[j] (Ax f xs ys j):=by
 intro j h1 h2;have N:=r1.length;have J:=r2.length;have L:=q1.length;have M:=q2.length;have G:j<xs.length:=by simp at h1;lia
 have hy:j<ys.length:=by simp at h2;lia
 have e1:xs[j]?=some xs[j]:=aG G;have e2:ys[j]?=some ys[j]:=aG hy;obtain⟨x,ex,C⟩:=r1.get e1;obtain⟨y,g,d⟩:=r2.get e2;obtain⟨u,z,p⟩:=q1.get ex;obtain⟨t,F,rt⟩:=q2.get g;have m:us.toArray[j]=u:=by
  have:us[j]?=some us.toArray[j]:=by simp at h1;simp[h1]
  rw[z]at this;exact(aU this).symm
 have q:ts.toArray[j]=t:=by
  have:ts[j]?=some ts.toArray[j]:=by simp at h2;simp[h2]
  rw[F]at this;exact(aU this).symm
 rw[m,q];exact hf _ _ x y u t _ C d p rt<|(yP e).2 j _ _ e1 e2
def in1_units(B:aA):B.in1.units=B.units+1:=rfl
theorem HQ(I:Inv X pins σ H s)(R:Rel X.K ρ H S):∀(n:Nat) (B:aA) (a b:A) (x y:V) (u v:af) (k:Bool),B.units+n<cLine->AV X.K ρ H a x->AV X.K ρ H b y->RelV x u->RelV y v->wW S n a b=some k->Al B s u v k
 | 0,_,_,_,_,_,_,_,_,_,_,_,_,_,e=>nomatch e
 | n+1,B,a,b,x,y,u,v,k,hu,ha,hb,rx,ry,e=>by
  have f:B.units<cLine:=()
  have d:∀a b x y u v k,AV X.K ρ H a x->AV X.K ρ H b y->RelV x u->RelV y v->wW S n a b=some k->SeqAt.EqAt B.in1 s u v k:=λa b x y u v k h1 h2 h3 L P=>(HQ I R n B.in1 a b x y u v k (by rw[in1_units];lia) h1 h2 h3 L P).2.1;have same:=λ(z:y=x)=>CN I R (n+1) a b x u k ha (z ▸ hb) rx e;have m:∀{p q:ak},x=.ref p->y=.ref q->u=.ref p->v=.ref q->SeqAt.RcAt B s u v k->SeqAt.EqAt B s u v k:=λ{p q} g G z3 z4 h=>by
   subst z3 z4;by_cases hp:p=q
   ·subst hp;rw[same<|G.trans g.symm];exact .same _
   ·exact .of_refs hp h
  rcases NN e with⟨i,j,xs,ys,rfl,rfl,e1,e2,e⟩|⟨h,h',e1,e2,e,_⟩
  ·obtain⟨p,rfl,h1⟩:=CZ ha;obtain⟨q,rfl,h2⟩:=CZ hb;obtain⟨vs,h3,r1⟩:=R.lst h1<|i9 e1;obtain⟨W,L,r2⟩:=R.lst h2<|i9 e2;obtain⟨us,C,p1,_⟩:=I.list<|lT.of h3;obtain⟨ts,F,p2,_⟩:=I.list<|lT.of L;have N:=m rfl rfl rx ry
   cases(show u=Value.ref p from rx)
   cases(show v=Value.ref q from ry)
   have U:=r1.length;have Z:=r2.length;have Y:=C.length;have l4:=F.length;have J:=(yP e).1;by_cases O:xs.length=ys.length
   ·rw[<- O,Nat.min_self,bI,Bool.and_true]at J;have M:us.toArray.size=ts.toArray.size:=by simp;lia
    have g:=SeqAt.RcAt.lists p1.isList p2.isList M f<|yD d r1 r2 C F e;have G:=SeqAt.RcNeAt.lists p1.isList p2.isList M f<|yD d r1 r2 C F e;rw[aZ,<- Y,<- U,<- J]at g G;exact⟨g,N g,G⟩
   ·have:(xs.length == ys.length)=false:=by simpa using O
    rw[this,iG]at J;subst J;have M:(us.toArray.size != ts.toArray.size)=true:=by simp;lia
    have g:=SeqAt.RcAt.lists_lengths p1.isList p2.isList M f;exact⟨g,N g,SeqAt.RcNeAt.lists_lengths p1.isList p2.isList M f⟩
  ·rcases Ju h h' with⟨xs,ys,rfl,rfl⟩|T
   ·obtain⟨rfl,p,vs,rfl,h3,r1⟩:=BI ha e1;obtain⟨rfl,q,W,rfl,L,r2⟩:=BI hb e2;have N:=m rfl rfl rx ry
    cases(show u=Value.ref p from rx)
    cases(show v=Value.ref q from ry)
    obtain⟨us,C,p1,_⟩:=I.tuple<|nG.of h3;obtain⟨ts,F,p2,_⟩:=I.tuple<|nG.of L;have J:=(yP e).1;have g:=SeqAt.RcAt.tuples p1 p2 f<|yD d r1 r2 C F e;have G:=SeqAt.RcNeAt.tuples p1 p2 f<|yD d r1 r2 C F e;rw[aZ,aZ,<- C.length,<- F.length,<- r1.length,<- r2.length,<- J]at g G;exact⟨g,N g,G⟩
   ·exact YF f (Gh I R ha rx e1) (Gh I R hb ry e2) T e
end
section
variable {X:Cx}
abbrev tK (neg:Bool)(a b:A)(S:iQ):R A:=opt (wW S 12 a b) λk=>.ok (.bl<|if neg then !k else k) S
def B_(hu:X.A.units+64<cLine):nj X (compareOp .Eq) (r2 X<|tK false):=λpins s σ H x y v u Q I rx ry h9=>by
 x_go;obtain⟨k,e,h⟩:=iX h;exact(HQ I R 12 X.A a b x y v u k (by omega) va vb rx ry e).1 _ _ _ _ ⟨.bl _,H,I,rfl,h _ _ _ .refl R<|.bl _⟩
def Af(hu:X.A.units+64<cLine):nj X (compareOp .NotEq) (r2 X<|tK true):=λpins s σ H x y v u Q I rx ry h9=>by
 x_go;obtain⟨k,e,h⟩:=iX h;exact(HQ I R 12 X.A a b x y v u k (by omega) va vb rx ry e).2.2 _ _ _ _ ⟨.bl _,H,I,rfl,h _ _ _ .refl R<|.bl _⟩
end
section
variable {X:Cx}{pos:Pos}{a b:aE}
meta abbrev Pt:=ae->iQ->R (bi)
abbrev qf:Pt:=λ_ S=>.ok none S
abbrev m5 (c:Ex):Pt:=λτ S=>(c τ S).bind λa S1=>match a with
 | .int i=>.ok (some i) S1
 | _=>.no
abbrev tO (X:Cx)(c:Pt):TO:=λσ H Q=>∃ρ S τ,Rel X.K ρ H S/\SR X.K ρ H τ σ/\(c τ S).post (λo d=>∀ρ' H',Ext ρ ρ' H H'->Rel X.K ρ' H' d->Q o H') (XE X ρ H)
abbrev AO (X:Cx)(e:Option aE)(c:Pt):Prop:=PO X e<|tO X c
def sP:AO X none qf:=λpins s σ H Q I ⟨ρ,S,τ,R,r,h⟩=>Rc pins s σ H Q I<|h ρ H .refl R
def nE{c:Ex}(ha:AE X a c):AO X (some a) (m5 c):=λpins s σ H Q I ⟨ρ,S,τ,R,r,h⟩=>QJ ha pins s σ H Q I ⟨ρ,S,τ,R,r,iO (iV h) .refl λx S1 h1 ρ1 H1 v e1 R1 v1=>by
 cases v1<;>first|exact h1.elim|exact⟨_,rfl,h1 ρ1 H1 e1 R1⟩⟩
abbrev s_ (xs:ae)(lo hi:bi):ae:=(xs.drop<|HT.kX xs.length 0 lo).take<|HT.kX xs.length xs.length hi-HT.kX xs.length 0 lo
def AVs.cut{K:au}{H:Hp}(r:AVs K ρ H xs vs)(lo hi:bi):AVs K ρ H (s_ xs lo hi) (EI vs lo hi):=by
 unfold s_ EI;rw[r.length];exact(r.drop _).take _
abbrev C6 (a:A)(lo hi:bi)(S:iQ):R A:=match a with
 | .ref n=>opt (iN S n) λxs=>.ok (.ref S.length) (S++[.lst<|s_ xs lo hi])
 | .frz xs=>.ok (.ref S.length) (S++[.lst<|s_ xs lo hi])
 | .tup xs=>gd (¬(HT.kX xs.length 0 lo=0/\HT.kX xs.length xs.length hi=xs.length)) (.ok (.tup<|s_ xs lo hi) S)
 | _=>.no
abbrev KP (c:Ex)(lo hi:Pt):Ex:=λτ S=>(c τ S).bind λa S1=>(lo τ S1).bind λl S2=>(hi τ S2).bind λu S3=>C6 a l u S3
abbrev rS (X:Cx):V->bi->bi->Hp->VK->Prop:=λx lo hi H Q=>∃ρ S a,Rel X.K ρ H S/\AV X.K ρ H a x/\(C6 a lo hi S).post (yi X ρ H Q) (XE X ρ H)
def Wy:WH X (rS X):=λpins s σ H x v f g lo hi d Q I rx hs pl j h9=>by
 obtain⟨ρ,S,a,R,va,h⟩:=h9
 cases va with
 | @tup p xs vs h1 r1=>
  obtain⟨hc,h⟩:=jm h;exact NF pins s σ H _ v f g lo hi d Q I rx hs pl j ⟨p,vs,rfl,(nG.of h1),by rw[<- r1.length];exact hc,qg R (r1.cut lo hi) .refl h⟩
 | @frz p xs vs h1 r1=>exact Jm pins s σ H _ v f g lo hi d Q I rx hs pl j ⟨p,vs,rfl,h1.PM,nA R (r1.cut lo hi) .refl h⟩
 | @ref p n hp=>
  gn_on;obtain⟨vs,h1,r1⟩:=R.lst hp<|i9 hn;exact Jm pins s σ H _ v f g lo hi d Q I rx hs pl j ⟨p,vs,rfl,lT.of h1,nA R (r1.cut lo hi) .refl h⟩
 | _=>exact h.elim
def zc{e:aE}{lo:Option aE}{c:Ex}{cl ch:Pt}(he:AE X e c)(hl:AO X lo cl)(hh:AO X hi ch):AE X (.Subscript e (.Slice lo hi none p2) pos) (KP c cl ch):=PE.imp (DL Wy he hl hh) λσ H Q h9=>by
 z_go;refine⟨ρ,S,τ,R,r,iO (iV h) .refl λa S1 h1 ρ1 H1 x e1 R1 v1=>⟨ρ1,S1,τ,R1,r.ext e1,iO (iV h1) e1 λl S2 h2 ρ2 H2 e2 R2=>⟨ρ2,S2,τ,R2,r.ext<|e1.trans e2,iO (iV h2) (e1.trans e2) λu S3 h3 ρ3 H3 e3 R3=>?_⟩⟩⟩;exact⟨ρ3,S3,a,R3,v1.ext<|e2.trans e3,iO h3 (e1.trans<|e2.trans e3) λ_ _ z=>z.ext<|e1.trans<|e2.trans e3⟩
abbrev XA (a:A)(S:iQ):R A:=match a with
 | .ref n=>opt (iN S n) λxs=>.ok (.ref S.length) (S++[.lst xs.reverse])
 | .tup xs=>.ok (.tup xs.reverse) S
 | _=>.no
abbrev jc (f:ae->iQ->R A)(d:se):Ex:=λτ S=>(d τ S).bind λg S1=>f g S1
def D5{f:ae->iQ->R A}{d:se}{H:Hp}{Q:VK}(h:tE X (jc f d) σ H Q):tCB (rN X f) (tL X d) σ H Q:=by
 kln_w;exact⟨ρ,S,τ,R,r,iO (iV h) .refl λg S1 h1 ρ1 H1 vs e1 R1 v1=>⟨ρ1,S1,g,R1,v1,iO h1 e1 λ_ _ z=>z.ext e1⟩⟩
variable {x:Str}{p:Pos}{e:aE}{es:List aE}{id T:String}{f:ae->iQ->R A}{d:se}
def i_(hc:jo X (.builtin id)<|rN X f)(hm:X.mg x=none)(hv:bootBuiltins x=some (.builtin id))(ha:AL X (e::es) d)(hg:Gl X x:=by rfl)(hn:x ≠ "__name__" := by decide)(hdb:(x == ("__debug__" : Str))=false:=by decide)
  (he:starEach (e::es) X.env=(false,eval e X.env)::starEach es X.env:=by rfl) (hpl:(backTo pos<|starEach es X.env).any (·.1)=false:=by rfl):AE X (.Call (.Name x p) (e::es) [] pos) (jc f d):=
 PE.imp (Mn hc hg hm hv ha hn hdb he hpl) λ_ _ _ h=>D5 h
def ow(hc:jo X (.type T)<|rN X f)(hm:X.mg x=none)(hv:bootBuiltins x=some (.type T))(ha:AL X (e::es) d)(hg:Gl X x:=by rfl)(hn:x ≠ "__name__" := by decide)(hdb:(x == ("__debug__" : Str))=false:=by decide)
  (he:starEach (e::es) X.env=(false,eval e X.env)::starEach es X.env:=by rfl) (hpl:(backTo pos<|starEach es X.env).any (·.1)=false:=by rfl):AE X (.Call (.Name x p) (e::es) [] pos) (jc f d):=
 PE.imp (xB hc hg hm hv ha hn hdb he hpl) λ_ _ _ h=>D5 h
def AM(hm:X.mg x=none)(hv:bootBuiltins x=some (.type T))(hg:Gl X x:=by rfl)(hn:x ≠ "__name__" := by decide)(hdb:(x == ("__debug__" : Str))=false:=by decide):AE X (.Name x pos) (eC<|.ty T):=
 PE.imp (RK (v:=.ty T) hg hm hv rfl hn hdb) λσ H Q ⟨ρ,S,τ,R,r,h⟩=>h ρ H _ .refl R<|.ty T
abbrev A.seq (S:iQ):A->Option (ae)
 | .tup xs=>some xs
 | .frz xs=>some xs
 | .ref n=>iN S n
 | _=>none
def OQ{K:au}{H:Hp}{x:A}{v:V}(R:Rel K ρ H S)(h:AV K ρ H x v)(e:x.seq S=some xs):∃p vs,v=.ref p/\(lT K H p vs\/nG K H p vs)/\AVs K ρ H xs vs:=by
 cases h with
 | tup h r=>cases aU e;exact⟨_,_,rfl,.inr<|nG.of h,r⟩
 | frz h r=>cases aU e;exact⟨_,_,rfl,.inl h.PM,r⟩
 | ref h=>
  obtain⟨vs,h1,r1⟩:=R.lst h<|i9 e;exact⟨_,vs,rfl,.inl<|lT.of h1,r1⟩
 | _=>cases e
def RH{K:au}{H:Hp}{x:A}(h:AVs K ρ H [x] vs):∃v,vs=[v]/\AV K ρ H x v:=by
 cases h with
 | cons h t=>cases t;exact⟨_,rfl,h⟩
def Wj{K:au}{H:Hp}{x:A}(h:AVs K ρ H [x,y] vs):∃v w,vs=[v,w]/\AV K ρ H x v/\AV K ρ H y w:=by
 cases h with
 | cons h t=>obtain⟨w,rfl,h'⟩:=RH t;exact⟨_,_,rfl,h,h'⟩
abbrev f1 (g:A->iQ->R A):ae->iQ->R A:=λd S=>match d with
 | [x]=>g x S
 | _=>.no
abbrev f2 (g:A->A->iQ->R A):ae->iQ->R A:=λd S=>match d with
 | [x,y]=>g x y S
 | _=>.no
def Rf{g:A->iQ->R A}{P:A->iQ->Prop}{E:Str->iQ->Prop}(h:(f1 g as S).post P E):∃x,as=[x]/\(g x S).post P E:=by
 match as,h with
 | [],h=>exact h.elim
 | [x],h=>exact⟨x,rfl,h⟩
 | _::_::_,h=>exact h.elim
def P1{g:A->A->iQ->R A}{P:A->iQ->Prop}{E:Str->iQ->Prop}(h:(f2 g as S).post P E):∃x y,as=[x,y]/\(g x y S).post P E:=by
 match as,h with
 | [],h=>exact h.elim
 | [_],h=>exact h.elim
 | [x,y],h=>exact⟨x,y,rfl,h⟩
 | _::_::_::_,h=>exact h.elim
def MC{g:A->iQ->R A}{H:Hp}{Q:VK}(h:rN X (f1 g) vs H Q):∃v,vs=[v]/\∃ρ S x,Rel X.K ρ H S/\AV X.K ρ H x v/\(g x S).post (yi X ρ H Q) (XE X ρ H):=by
 obtain⟨ρ,S,d,R,v,h⟩:=h;obtain⟨x,rfl,h⟩:=Rf h;obtain⟨w,rfl,hv⟩:=RH v;exact⟨w,rfl,ρ,S,x,R,hv,h⟩
def YL{g:A->A->iQ->R A}{H:Hp}{Q:VK}(h:rN X (f2 g) vs H Q):∃v w,vs=[v,w]/\∃ρ S x y,Rel X.K ρ H S/\AV X.K ρ H x v/\AV X.K ρ H y w/\(g x y S).post (yi X ρ H Q) (XE X ρ H):=by
 obtain⟨ρ,S,j,R,v,h⟩:=h;obtain⟨x,y,rfl,h⟩:=P1 h;obtain⟨w,f,rfl,hv,d⟩:=Wj v;exact⟨w,f,rfl,ρ,S,x,y,R,hv,d,h⟩
abbrev kH (x:A)(S:iQ):R A:=match x with
 | .str x=>gd (x.length<=sizeLine) (.ok (.int x.length) S)
 | .tup xs=>.ok (.int xs.length) S
 | .frz xs=>.ok (.int xs.length) S
 | .ref n=>opt (iN S n) λxs=>.ok (.int xs.length) S
 | _=>.no
def kD:jo X (.builtin "len") (rN X<|f1 kH):=jo.imp Pb λvs H Q h0=>by
 kd_p;clear h0
 cases hv with
 | str z=>
  obtain⟨hz,h⟩:=jm h;exact⟨_,_,rfl,⟨hz,rfl⟩,h _ _ _ .refl R<|.int _⟩
 | @tup p xs us h1 r=>exact⟨_,us.length,rfl,.inr ⟨us,(nG.of h1),rfl⟩,by rw[<- r.length];exact h _ _ _ .refl R<|.int _⟩
 | @frz p xs us h1 r=>exact⟨_,us.length,rfl,.inl ⟨us,h1.PM,rfl⟩,by rw[<- r.length];exact h _ _ _ .refl R<|.int _⟩
 | ref hp=>
  gn_on;obtain⟨us,h1,r⟩:=R.lst hp<|i9 hn;exact⟨_,us.length,rfl,.inl ⟨us,lT.of h1,rfl⟩,by rw[<- r.length];exact h _ _ _ .refl R<|.int _⟩
 | _=>exact h.elim
abbrev ZG (x:A)(S:iQ):R A:=match x with
 | .int i=>.ok (.int<|if i<0 then -i else i) S
 | _=>.no
abbrev OD (x y:A)(S:iQ):R A:=match x,y with
 | .int i,.int j=>.ok (.int<|if j>i then j else i) S
 | _,_=>.no
def VT(hc:X.calm=true):jo X (.builtin "max") (rN X<|f2 OD):=jo.imp (J7 hc) λvs H Q h0=>by
 obtain⟨w,f,rfl,ρ,S,x,y,R,hv,d,h⟩:=YL h0;clear h0
 cases hv<;>first|exact h.elim|(cases d<;>first|exact h.elim|exact⟨_,_,rfl,h _ _ _ .refl R<|.int _⟩)
abbrev LJ (x y:A)(S:iQ):R A:=match x,y with
 | .int i,.int j=>.ok (.int<|if j<i then j else i) S
 | _,_=>.no
def V3(hc:X.calm=true):jo X (.builtin "min") (rN X<|f2 LJ):=jo.imp (JK hc) λvs H Q h0=>by
 obtain⟨w,f,rfl,ρ,S,x,y,R,hv,d,h⟩:=YL h0;clear h0
 cases hv<;>first|exact h.elim|(cases d<;>first|exact h.elim|exact⟨_,_,rfl,h _ _ _ .refl R<|.int _⟩)
abbrev Gj (x:A)(S:iQ):R A:=match x with
 | .int i=>.ok (.int i) S
 | .bl k=>.ok (.int<|if k then 1 else 0) S
 | .str y=>opt (PySem.intText? y) λn=>gd (y.length<=640) (.ok (.int n) S)
 | _=>.no
def Wg:jo X (.type "int") (rN X<|f1 Gj):=λpins s σ H xs us Q I rv h0=>by
 kd_p;clear h0
 cases hv with
 | int i=>exact Br pins s σ H _ us Q I rv (.inl ⟨i,rfl,h _ _ _ .refl R<|.int _⟩)
 | bl k=>exact Br pins s σ H _ us Q I rv (.inr ⟨k,rfl,h _ _ _ .refl R<|.int _⟩)
 | str y=>
  obtain⟨n,hn,h⟩:=iX h;obtain⟨d,h⟩:=jm h;exact Kh pins s σ H _ us Q I rv ⟨y,n,rfl,d,hn,h _ _ _ .refl R<|.int _⟩
 | _=>exact h.elim
abbrev CI (x y:A)(S:iQ):R A:=match x,y with
 | .int i,.int j=>.ok (.rng i j) S
 | _,_=>.no
def OA:jo X (.type "range") (rN X<|f2 CI):=jo.imp BV λvs H Q h0=>by
 obtain⟨w,g,rfl,ρ,S,x,y,R,hv,d,h⟩:=YL h0;clear h0
 cases hv with
 | int i=>
  cases d with
  | int j=>
   refine⟨i,j,rfl,λp hp=>?_⟩;obtain⟨ex,f⟩:=R.im (u:=.rng i j) hp;exact h ρ _ _ ex f<|.rng jT
  | _=>exact h.elim
 | _=>exact h.elim
abbrev BE (i j:Int):Prop:=(-(2 ^ 62)<=i/\i<2 ^ 62/\-(2 ^ 62)<=j/\j<2 ^ 62)/\(j-i).toNat<=1000
instance (i j:Int):Decidable (BE i j):=by unfold BE;infer_instance
abbrev x_ (x:A)(S:iQ):R A:=match x with
 | .rng i j=>gd (BE i j) (.ok (.ref S.length)<|S++[.lst<|(jt i j).map .int])
 | .tup xs=>.ok (.ref S.length) (S++[.lst xs])
 | .frz xs=>.ok (.ref S.length) (S++[.lst xs])
 | .ref n=>opt (iN S n) λxs=>.ok (.ref S.length) (S++[.lst xs])
 | _=>.no
def F8(hc:X.calm=true):jo X (.type "list") (rN X<|f1 x_):=λpins s σ H vs us Q I rx h0=>by
 kd_p;clear h0
 cases hv with
 | @rng p i j hp=>
  obtain⟨d,h⟩:=jm h;exact AA hc pins s σ H _ us Q I rx ⟨p,i,j,rfl,hp,d.1,d.2,nA R (rL _) .refl h⟩
 | @tup p xs vs h1 r=>exact sQ pins s σ H _ us Q I rx ⟨p,vs,rfl,.inr<|nG.of h1,nA R r .refl h⟩
 | @frz p xs vs h1 r=>exact sQ pins s σ H _ us Q I rx ⟨p,vs,rfl,.inl h1.PM,nA R r .refl h⟩
 | @ref p n hp=>
  gn_on;cb_eq;exact sQ pins s σ H _ us Q I rx ⟨p,vs,rfl,.inl<|lT.of h1,nA R r .refl h⟩
 | _=>exact h.elim
abbrev xr (x:A)(S:iQ):R A:=match x with
 | .rng i j=>gd (BE i j) (.ok (.tup<|(jt i j).map .int) S)
 | .tup xs=>.ok (.tup xs) S
 | .frz xs=>.ok (.tup xs) S
 | .ref n=>opt (iN S n) λxs=>.ok (.tup xs) S
 | _=>.no
def Jo(hc:X.calm=true):jo X (.type "tuple") (rN X<|f1 xr):=λpins s σ H vs us Q I rx h0=>by
 kd_p;clear h0
 cases hv with
 | @rng p i j hp=>
  obtain⟨d,h⟩:=jm h;exact Aa hc pins s σ H _ us Q I rx ⟨p,i,j,rfl,hp,d.1,d.2,qg R (rL _) .refl h⟩
 | @tup p xs vs h1 r=>exact qA pins s σ H _ us Q I rx ⟨p,vs,rfl,.inr ⟨(nG.of h1),h _ _ _ .refl R<|.tup h1 r⟩⟩
 | @frz p xs vs h1 r=>exact qA pins s σ H _ us Q I rx ⟨p,vs,rfl,.inl ⟨h1.PM,qg R r .refl h⟩⟩
 | @ref p n hp=>
  gn_on;cb_eq;exact qA pins s σ H _ us Q I rx ⟨p,vs,rfl,.inl ⟨lT.of h1,qg R r .refl h⟩⟩
 | _=>exact h.elim
abbrev A.RE:ae->Option (List Bool)
 | []=>some []
 | .bl b::xs=>(A.RE xs).map (b::·)
 | _=>none
theorem OM{K:au}{H:Hp}:∀{xs:ae}{vs:List V}{bs:List Bool},AVs K ρ H xs vs->A.RE xs=some bs->vs=bs.map V.bl
 | _,_,_,.nil,e=>by cases e;rfl
 | x::xs,_,bs,.cons h t,e=>by
  cases x with
  | bl b=>
   obtain⟨d,e1,rfl⟩:=a_.mp (show(A.RE xs).map (b::·)=some bs from e)
   cases h
   rw[OM t e1];rfl
  | _=>cases e
abbrev Ut (x:A)(S:iQ):R A:=match x with
 | .ref n=>opt (iN S n) λxs=>opt (A.RE xs) λbs=>.ok (.bl<|bs.all λb=>b) S
 | _=>.no
def YD(hc:X.calm=true):jo X (.builtin "all") (rN X<|f1 Ut):=jo.imp (KR hc) λvs H Q h0=>by
 kd_p;clear h0
 cases hv with
 | @ref p n hp=>
  gn_on;obtain⟨bs,d,h⟩:=iX h;cb_eq;rw[OM r d]at h1;exact⟨p,bs,rfl,lT.of h1,h _ _ _ .refl R<|.bl _⟩
 | _=>exact h.elim
abbrev maxOf:ag->bi
 | []=>none
 | [x]=>some x
 | x::xs=>(maxOf xs).map λm=>if m>x then m else x
theorem zx:∀{ns:ag}{m:Int},maxOf ns=some m->m∈ns/\∀a∈ns,a<=m
 | [],_,e=>nomatch e
 | [x],m,e=>by cases e;exact⟨aM,λa h=>by rw[bA]at h;lia⟩
 | x::y::xs,m,e=>by
  obtain⟨f,e1,rfl⟩:=a_.mp<|show(maxOf (y::xs)).map (λm=>if m>x then m else x)=some m from e;obtain⟨h1,h2⟩:=zx e1;by_cases d:f>x
  ·rw[aL d];exact⟨aO _ h1,λa h=>(bE.mp h).elim (λz=>())<|h2 a⟩
  ·rw[aK d];exact⟨aM,λa h=>(bE.mp h).elim (λz=>()) λz=>by have:=h2 a z;lia⟩
abbrev O4 (x:A)(S:iQ):R A:=match x with
 | .ref n=>opt (iN S n) λxs=>opt (A.ints xs) λd=>opt (maxOf d) λm=>.ok (.int m) S
 | _=>.no
def U6(hc:X.calm=true):jo X (.builtin "max") (rN X<|f1 O4):=jo.imp (KN hc) λvs H Q h0=>by
 kd_p;clear h0
 cases hv with
 | @ref p n hp=>
  gn_on;obtain⟨g,f,h⟩:=iX h;obtain⟨m,q,h⟩:=iX h;cb_eq;rw[uK r f]at h1;obtain⟨d,g2⟩:=zx q;refine⟨p,g,rfl,lT.of h1,eZ d,λM k j=>?_⟩;have:M=m:=fW (g2 M k)<|j m d;rw[this];exact h _ _ _ .refl R<|.int _
 | _=>exact h.elim
abbrev insI (x:Int):ag->ag
 | []=>[x]
 | y::ys=>if x<=y then x::y::ys else y::insI x ys
abbrev sortI:ag->ag
 | []=>[]
 | x::xs=>insI x<|sortI xs
theorem insI_perm(x:Int):∀ys:ag,(insI x ys).Perm (x::ys)
 | []=>gr _
 | y::ys=>by
  unfold insI;by_cases h:x<=y
  ·rw[aL h]
  ·rw[aK h];exact((insI_perm x ys).cons y).trans (List.Perm.swap x y ys)
theorem sortI_perm:∀xs:ag,(sortI xs).Perm xs
 | []=>gr _
 | x::xs=>(insI_perm x<|sortI xs).trans<|(sortI_perm xs).cons x
theorem GW(x:Int):∀ys:ag,ys.Pairwise (·<=·)->(insI x ys).Pairwise (·<=·)
 | [],_=>cV _ _
 | y::ys,h=>by
  unfold insI;obtain⟨h1,h2⟩:=bR.mp h;by_cases d:x<=y
  ·rw[aL d];exact bR.mpr ⟨λz hz=>(bE.mp hz).elim (λe=>e ▸ d) λhz=>Int.le_trans d<|h1 z hz,h⟩
  ·rw[aK d];refine bR.mpr ⟨λz hz=>?_,GW x ys h2⟩
   rcases bE.mp ((insI_perm x ys).mem_iff.mp hz)with e|hz
   ·subst e;lia
   ·exact h1 z hz
theorem rZ:∀xs:ag,(sortI xs).Pairwise (·<=·)
 | []=>List.Pairwise.nil
 | x::xs=>GW x _<|rZ xs
abbrev xP (x:A)(S:iQ):R A:=opt (x.seq S) λxs=>opt (A.ints xs) λd=>gd (d.length<64)<|.ok (.ref S.length)<|S++[.lst<|(sortI d).map .int]
def Jd:jo X (.builtin "sorted") (rN X<|f1 xP):=jo.imp B8 λvs H Q h0=>by
 kd_p;clear h0;gn_on;obtain⟨d,j,h⟩:=iX h;obtain⟨k,h⟩:=jm h;obtain⟨p,us,rfl,hs,r⟩:=OQ R hv hn;rw[uK r j]at hs;refine⟨p,d,rfl,hs,k,λl f g hp hw=>?_⟩;have:f=sortI d:=G0 (hp.trans (sortI_perm d).symm) hw<|rZ d;rw[this];exact nA R (rL _) .refl h l g
abbrev A.kd:A->iQ->Option Kd
 | .non,_=>some .non
 | .bl _,_=>some .bl
 | .int _,_=>some .int
 | .str _,_=>some .str
 | .tup _,_=>some .tup
 | .ref n,S=>(iN S n).map λ_=>.lst
 | _,_=>none
def QS{K:au}(k:Kd):PySem.W.kitOne K k.ty (.type "str")=some (decide<|k=.str):=by cases k<;>rfl
abbrev Ay (k:Kd)(c:String):bj:=if c = "int" then some (decide<|k=.int\/k=.bl)else if c = "bool" then some (decide<|k=.bl)else if c = "tuple" then some (decide<|k=.tup)else if c = "list" then some (decide<|k=.lst)else if c = "str" then some (decide<|k=.str)else none
def GQ{K:au}{k:Kd}{c:String}{b:Bool}(h:Ay k c=some b):PySem.W.kitOne K k.ty (.type c)=some b:=by
 unfold Ay at h;split at h
 ·rename_i e;subst e;rw[<- h];exact Qg k
 ·split at h
  ·rename_i e;subst e;rw[<- h];exact NI k
  ·split at h
   ·rename_i e;subst e;rw[<- h];exact kit_tuple k
   ·split at h
    ·rename_i e;subst e;rw[<- h];exact Ol k
    ·split at h
     ·rename_i e;subst e;rw[<- h];exact QS k
     ·cases h
abbrev C7 (x y:A)(S:iQ):R A:=match y with
 | .ty c=>opt (x.kd S) λk=>opt (Ay k c) λb=>.ok (.bl b) S
 | _=>.no
def XZ{K:au}{H:Hp}{x:A}{v:V}{k:Kd}(R:Rel K ρ H S)(h:AV K ρ H x v)(e:x.kd S=some k):(∃p vs,v=.ref p/\nG K H p vs/\k=.tup)\/Wu H v k:=by
 cases h with
 | non=>cases e;exact .inr rfl
 | bl b=>cases e;exact .inr ⟨b,rfl⟩
 | int i=>cases e;exact .inr ⟨i,rfl⟩
 | str i=>cases e;exact .inr ⟨i,rfl⟩
 | tup h r=>cases e;exact .inl ⟨_,_,rfl,(nG.of h),rfl⟩
 | ref h=>
  obtain⟨xs,e1,e2⟩:=a_.mp e;obtain⟨vs,h1,_⟩:=R.lst h (i9 e1)
  cases e2
  exact .inr ⟨_,vs,rfl,h1⟩
 | _=>cases e
def A0:jo X (.builtin "isinstance") (rN X<|f2 C7):=λpins s σ H vs us Q I rx h0=>by
 obtain⟨w,m,rfl,ρ,S,x,y,R,hv,d,h⟩:=YL h0;clear h0
 cases d with
 | ty c=>
  obtain⟨k,j,h⟩:=iX h;obtain⟨b,f,hq⟩:=iX h;have hq:yi X ρ H Q (.bl b) S:=hq;clear h
  rcases XZ R hv j with⟨p,vs,rfl,g,rfl⟩|hd
  ·obtain⟨B,C,rfl,r1,r2⟩:=vals2 rx;obtain⟨its,q,⟨o,h1,h2,_⟩,_⟩:=I.tuple g
   cases(show _=Value.ref p from r1)
   cases(show _=Value.type c from r2)
   exact cO PySem.W.kitx_tuple I.C4 ⟨o,h1,h2⟩ (GQ f) (λz=>nomatch z) λF=>⟨.bl b,H,I.tok _,rfl,hq _ _ _ .refl R<|.bl _⟩
  ·exact El (c:=c) pins s σ H _ us Q I rx ⟨w,_,b,rfl,hd.ZD,GQ f,hq _ _ _ .refl R<|.bl _⟩
 | _=>exact h.elim
end
abbrev XI (x:ag):List (ag)->List (ag)
 | []=>[x]
 | y::ys=>if HT.lexLt y x=true then y::XI x ys else x::y::ys
abbrev OS:List (ag)->List (ag)
 | []=>[]
 | x::xs=>XI x<|OS xs
theorem pig:∀(N:Nat) (l:ap),l.Nodup->(∀x∈l,x<N)->l.length<=N
 | 0,l,_,h=>by
  cases l with
  | nil=>exact aQ _
  | cons a l=>exact absurd (h a<|aM ..)<|dM _
 | N+1,l,nd,h=>by
  have h1:=pig N (l.erase N) (nd.erase N) λx d=>by
   have:=h x<|List.mem_of_mem_erase d;have:x≠N:=λz=>by
    subst z;exact(List.Nodup.not_mem_erase nd) d
   lia
  have:=List.le_length_erase (l:=l) (a:=N)
  lia
def zU{N:Nat}{g:Nat->Nat}(h:∀i,i<N->g i<N)(inj:∀i j,i<j->j<N->g i≠g j):((List.range N).map g).Perm (List.range N):=by
 have nd:((List.range N).map g).Nodup:=by
  unfold List.Nodup;rw[cB];intro i j hi m f;rw[aH,cu]at hi m;rw[dg,dg,e_,e_];exact inj i j f m
 have lt:∀x∈(List.range N).map g,x<N:=λx d=>by
  obtain⟨i,hi,rfl⟩:=bY.mp d;exact h i<|dF.mp hi
 refine(List.perm_ext_iff_of_nodup nd List.nodup_range).mpr λa=>⟨λk=>dF.mpr<|lt a k,λk=>?_⟩;refine fQ λhn=>?_;have:=pig N (a::(List.range N).map g) (cY.mpr ⟨hn,nd⟩) λx d=>by
  rcases bE.mp d with rfl|d
  ·exact dF.mp k
  ·exact lt x d
 rw[bq,aH,cu]at this
 lia
def range_getD{α:Type}(l:List α)(d:α):(List.range l.length).map (λi=>l.getD i d)=l:=by
 apply cA;intro i;rw[bh];by_cases c:i<l.length
 ·rw[cI c];show some (l.getD i d)=_;rw[aJ,aG c];rfl
 ·rw[bJ<|by rw[cu];lia,bJ ()];rfl
theorem NT{K:au}{H:Hp}{α:Type}{f:α->A}{h:α->V}:∀{l:List α},(∀a∈l,AV K ρ H (f a)<|h a)->AVs K ρ H (l.map f) (l.map h)
 | [],_=>.nil
 | a::l,e=>.cons (e a<|aM ..)<|NT λb d=>e b<|aO _ d
abbrev RS.post (r:RS)(N:ae->iQ->Prop)(T:A->iQ->Prop)(B C:ae->iQ->Prop)(E:Str->iQ->Prop):Prop:=match r with
 | .nx τ S=>N τ S
 | .rt a S=>T a S
 | .bk τ S=>B τ S
 | .ct τ S=>C τ S
 | .ex c S=>E c S
 | .no=>False
abbrev RS.of {α:Type}(r:R α)(f:α->iQ->RS):RS:=match r with
 | .ok a S=>f a S
 | .ex c S=>.ex c S
 | .no=>.no
def of_post{α:Type}{r:R α}{f:α->iQ->RS}{N B C:ae->iQ->Prop}{T:A->iQ->Prop}{E:Str->iQ->Prop}(h:(RS.of r f).post N T B C E):r.post (λa S=>(f a S).post N T B C E) E:=by
 cases r<;>exact h
def RS.mono{r:RS}{N B C N' B' C':ae->iQ->Prop}{T T':A->iQ->Prop}{E E':Str->iQ->Prop}(h:r.post N T B C E)(hn:∀τ S,N τ S->N' τ S)(ht:∀a S,T a S->T' a S)(hb:∀τ S,B τ S->B' τ S)(hc:∀τ S,C τ S->C' τ S)(he:∀c S,E c S->E' c S):r.post N' T' B' C' E':=by
 cases r with
 | nx τ S=>exact hn _ _ h
 | rt a S=>exact ht _ _ h
 | bk τ S=>exact hb _ _ h
 | ct τ S=>exact hc _ _ h
 | ex c S=>exact he _ _ h
 | no=>exact h.elim
abbrev Jw (X:Cx)(ρ:bb)(H:Hp)(N:L2.St->Hp->Prop):ae->iQ->Prop:=λf g=>∀ρ' H' d,Ext ρ ρ' H H'->Rel X.K ρ' H' g->SR X.K ρ' H' f d->N d H'
def Jw.ext{X:Cx}{H H':Hp}{N:L2.St->Hp->Prop}(h:Jw X ρ H N τ S)(e:Ext ρ ρ' H H'):Jw X ρ' H' N τ S:=λρ2 H2 d e2=>h ρ2 H2 d<|e.trans e2
abbrev Bh (X:Cx)(ρ:bb)(H:Hp)(D:Ends)(r:RS):Prop:=r.post (Jw X ρ H D.nx) (yi X ρ H D.rt) (Jw X ρ H D.bk) (Jw X ρ H D.ct)<|XE X ρ H
def Bh.ext{X:Cx}{H H':Hp}{D:Ends}{r:RS}(h:Bh X ρ H D r)(e:Ext ρ ρ' H H'):Bh X ρ' H' D r:=RS.mono h (λ_ _ z=>z.ext e) (λ_ _ z=>z.ext e) (λ_ _ z=>z.ext e) (λ_ _ z=>z.ext e) λ_ _ z=>z.ext e
abbrev tS (X:Cx)(c:Sm):TS:=λD σ H=>∃ρ S τ,Rel X.K ρ H S/\SR X.K ρ H τ σ/\Bh X ρ H D (c τ S)
abbrev AS (X:Cx)(st:aF)(c:Sm):Prop:=PS X st<|tS X c
abbrev Qx (X:Cx)(sts:List aF)(c:Sm):Prop:=Cc X sts<|tS X c
abbrev tG (X:Cx)(g:Tg):TG:=λv σ H Q=>∃ρ S τ a,Rel X.K ρ H S/\SR X.K ρ H τ σ/\AV X.K ρ H a v/\(g a τ S).post (Jw X ρ H Q) (XE X ρ H)
abbrev AG (X:Cx)(e:aE)(g:Tg):Prop:=PG X e<|tG X g
meta abbrev PX:=ae->ae->iQ->R (ae)
abbrev tGs (X:Cx)(g:PX):TJ:=λvs σ H Q=>∃ρ S τ d,Rel X.K ρ H S/\SR X.K ρ H τ σ/\AVs X.K ρ H d vs/\(g d τ S).post (Jw X ρ H Q) (XE X ρ H)
abbrev YR (X:Cx)(es:List aE)(g:PX):Prop:=Xn X es<|tGs X g
section
variable {X:Cx}{pos:Pos}{a b e:aE}{st:aF}{rest:List aF}{c d:Sm}
def PS.imp{t t':TS}(h:PS X st t)(i:∀D σ H,t' D σ H->t D σ H):PS X st t':=λpins s σ H D I q=>h pins s σ H D I<|i D σ H q
def Cc.imp{t t':TS}(h:Cc X rest t)(i:∀D σ H,t' D σ H->t D σ H):Cc X rest t':=λpins s σ H D I q=>h pins s σ H D I<|i D σ H q
def PG.imp{t t':TG}(h:PG X e t)(i:∀v σ H Q,t' v σ H Q->t v σ H Q):PG X e t':=λpins s σ H v u Q I r q=>h pins s σ H v u Q I r<|i _ _ _ _ q
abbrev jC (i:Nat):Tg:=λa τ S=>.ok (τ.set i a) S
def ja{i:Nat}{x:Str}(hN:X.N.Nodup)(hi:X.N[i]?=some x:=by rfl)(hx:Loc X.env.scope x:=by first|exact Or.inl rfl|exact Or.inr rfl)(hf:X.fn x=true\/X.env.scope.names.lookup x=some .local:=by first|exact .inl rfl|exact .inr rfl|assumption):AG X (.Name x pos) (jC i):=
 PG.imp (JB hN hi hx hf) λv σ H Q ⟨ρ,S,τ,a,R,r,va,h⟩=>h ρ H _ .refl R<|r.set va
abbrev AU:PX:=λd τ S=>match d with
 | []=>.ok τ S
 | _=>.no
abbrev sJ (g:Tg)(gs:PX):PX:=λf τ S=>match f with
 | a::f=>(g a τ S).bind λd S1=>gs f d S1
 | []=>.no
def mH:YR X [] AU:=λpins s σ H vs us Q I r ⟨ρ,S,τ,f,R,d,va,h⟩=>QE pins s σ H vs us Q I r (by
 cases va with
 | nil=>exact⟨rfl,h ρ H σ .refl R d⟩
 | cons _ _=>exact h.elim)
def jq{g:Tg}{gs:PX}(h1:AG X e g)(h2:YR X es gs)(hs:(assignEach (e::es) X.env).map (·.2)=assign e X.env::(assignEach es X.env).map (·.2):=by rfl):YR X (e::es) (sJ g gs):=
 λpins s σ H vs us Q I r ⟨ρ,S,τ,q,R,p,va,h⟩=>LI h1 h2 hs pins s σ H vs us Q I r (by
  cases va with
  | nil=>exact h.elim
  | cons k m=>exact⟨_,_,rfl,ρ,S,τ,_,R,p,k,iO (iV h) .refl λd S1 h1 ρ1 H1 j e1 R1 f=>⟨ρ1,S1,d,_,R1,f,m.ext e1,iO h1 e1 λ_ _ z=>z.ext e1⟩⟩)
abbrev A2 (n:Nat)(gs:PX):Tg:=λa τ S=>match a with
 | .tup xs | .ktu xs=>gd (xs.length=n) (gs xs τ S)
 | _=>.no
def oE{k n:Nat}{gs:PX}(hc:X.calm=true)(h:YR X es gs)(hn:(assignEach es X.env).length=n:=by rfl)(hst:(assignEach es X.env).findIdx? (·.1)=none:=by rfl):AG X (.Tuple es k pos) (A2 n gs):=
 PG.imp (Vp hc h hn hst) λv σ H Q h9=>by
  obtain⟨ρ,S,τ,a,R,r,va,h⟩:=h9
  cases va with
  | tup h1 r1=>
   obtain⟨d,h⟩:=jm h;exact⟨_,_,rfl,nG.of h1,by rw[<- r1.length];exact d,ρ,S,τ,_,R,r,r1,h⟩
  | ktu h1 r1=>
   obtain⟨d,h⟩:=jm h;exact⟨_,_,rfl,.inr h1,by rw[<- r1.length];exact d,ρ,S,τ,_,R,r,r1,h⟩
  | _=>exact h.elim
abbrev Ey (o i v:A)(S:iQ):R Unit:=match o,i with
 | .ref n,.int k=>opt (iN S n) λxs=>opt (C_ xs.length k) λj=>.ok Unit.unit (S.set n<|.lst<|xs.set j v)
 | _,_=>.no
abbrev rSt (X:Cx):DJ:=λo i v H Q=>∃ρ S g d f,Rel X.K ρ H S/\AV X.K ρ H g o/\AV X.K ρ H d i/\AV X.K ρ H f v/\(Ey g d f S).post (λ_ j=>∀ρ' H',Ext ρ ρ' H H'->Rel X.K ρ' H' j->Q H') (XE X ρ H)
def IS:DU X (rSt X):=λpins s σ H o i v ov iv u Q I m f rv h9=>by
 obtain⟨ρ,S,z,q,B,R,h1,h2,h3,h⟩:=h9
 cases h1 with
 | @ref p n hp=>
  cases h2 with
  | int k=>
   gn_on;obtain⟨j,d,h⟩:=iX h;obtain⟨vs,e,r⟩:=R.lst hp<|i9 hn;obtain⟨ex,g⟩:=R.put hp (i9 hn)<|r.set h3 j;exact set_list pins s σ H _ _ v ov iv u Q I m f rv ⟨p,vs,k,j,rfl,rfl,e,by rw[<- r.length];exact d,h _ _ ex g⟩
  | _=>exact h.elim
 | _=>exact h.elim
abbrev WC (co ci:Ex):Tg:=λa τ S=>(co τ S).bind λo S1=>(ci τ S1).bind λi S2=>(Ey o i a S2).bind λ_ S3=>.ok τ S3
def B9{co ci:Ex}(ho:AE X o co)(hi:AE X i ci)
  (ha:∀v,assign (.Subscript o i pos) X.env v=(do
   let ov <- holding [v] (eval o X.env)
   let iv <- holding [v,ov] (eval i X.env)
   standAt pos
   holding [v,ov,iv] (setItem ov iv v)
   release [v,ov,iv] []):=by intro _;rfl):AG X (.Subscript o i pos) (WC co ci):=PG.imp (F0 ho hi IS ha) λv σ H Q h9=>by
 obtain⟨ρ,S,τ,a,R,r,va,h⟩:=h9;kcj_m;kpc_g;f_are
abbrev nh:Sm:=λτ S=>.nx τ S
abbrev jn (c d:Sm):Sm:=λτ S=>match c τ S with
 | .nx f g=>d f g
 | r=>r
def jy:Qx X [] nh:=Cc.imp Qu λD σ H ⟨ρ,S,τ,R,r,h⟩=>h ρ H σ .refl R r
def QC{D:Ends}{H:Hp}(h:tS X (jn c d) D σ H):W3 (tS X c) (tS X d) D σ H:=by
 kln_w;refine⟨ρ,S,τ,R,r,?_⟩;unfold jn at h
 cases hc:c τ S with
 | nx f S1=>
  rw[hc]at h;exact λρ1 H1 g e1 R1 r1=>⟨ρ1,S1,f,R1,r1,Bh.ext h e1⟩
 | rt a S1=>rw[hc]at h;exact h
 | bk f S1=>rw[hc]at h;exact h
 | ct f S1=>rw[hc]at h;exact h
 | ex x S1=>rw[hc]at h;exact h
 | no=>rw[hc]at h;exact h
def iS(h1:AS X st c)(h2:Qx X rest d):Qx X (st::rest) (jn c d):=Cc.imp (Pn h1 h2) λD σ H h=>QC h
def iT(h1:AS X st c):Qx X [st] c:=P4 h1
abbrev Wf:Sm:=λτ S=>.bk τ S
abbrev Xg:Sm:=λτ S=>.ct τ S
abbrev wk (e:Ex):Sm:=λτ S=>.of (e τ S) λ_ S1=>.nx τ S1
def sC{f:Ex}(he:AE X e f)(hs:swapsWith e none pos.line X.env=pure false:=by rfl):AS X (.Expr e pos) (wk f):=PS.imp (QD he hs) λD σ H ⟨ρ,S,τ,R,r,h⟩=>
 ⟨ρ,S,τ,R,r,iO (of_post h) .refl λa S1 h1 ρ1 H1 x e1 R1 v1=>h1 ρ1 H1 σ e1 R1<|r.ext e1⟩
abbrev jN (e:Ex):Sm:=λτ S=>.of (e τ S) λa S1=>.rt a S1
def ji{f:Ex}(he:AE X e f):AS X (.Return (some e) pos) (jN f):=PS.imp (VP he) λD σ H ⟨ρ,S,τ,R,r,h⟩=>⟨ρ,S,τ,R,r,iO (of_post h) .refl λa S1 h1=>h1⟩
abbrev Lj:Sm:=λτ S=>.rt .non S
def RV:AS X (.Return none pos) Lj:=PS.imp Qw λD σ H ⟨ρ,S,τ,R,r,h⟩=>h ρ H _ .refl R .non
abbrev vd (t:Te)(c d:Sm):Sm:=λτ S=>.of (t τ S) λb S1=>match b with|true=>c τ S1|false=>d τ S1
def j8{t:Te}(ht:AT X e t)(ha:Qx X ca c)(hb:Qx X cb d):AS X (.If e ca cb pos) (vd t c d):=PS.imp (Xc ht ha hb) λD σ H h9=>by
 z_go;refine⟨ρ,S,τ,R,r,iO (of_post h) .refl λb S1 h1 ρ1 H1 e1 R1=>?_⟩
 cases b with
 | true=>rw[aL rfl];exact⟨ρ1,S1,τ,R1,r.ext e1,Bh.ext h1 e1⟩
 | false=>rw[aK bK];exact⟨ρ1,S1,τ,R1,r.ext e1,Bh.ext h1 e1⟩
abbrev jD (e:Ex)(g:Tg):Sm:=λτ S=>.of (e τ S) λa S1=>.of (g a τ S1) λd S2=>.nx d S2
def Rp{f:Ex}{g:Tg}{D:Ends}{H:Hp}(h:tS X (jD f g) D σ H):QT (tE X f) (tG X g) D σ H:=by
 kln_w;exact⟨ρ,S,τ,R,r,iO (of_post h) .refl λa S1 h1 ρ1 H1 x e1 R1 v1=>⟨ρ1,S1,τ,a,R1,r.ext e1,v1,iO (of_post h1) e1 λd S2 h2=>Jw.ext h2 e1⟩⟩
def oH{tg:aE}{f:Ex}{g:Tg}(he:AE X e f)(hg:AG X tg g)(hs:swapsWithSole [tg] e pos.line X.env=pure false:=by rfl)(hw:swappedStores [tg] e X.env=pure none:=by rfl)
  (h1:(assignEach [tg] X.env).map (·.2)=[assign tg X.env]:=by rfl):AS X (.Assign [tg] e pos) (jD f g):=PS.imp (VC he hg hs hw h1) λD σ H h=>Rp h
def jk{i:Nat}{x:Str}{f:Ex}(hN:X.N.Nodup)(he:AE X e f)(hi:X.N[i]?=some x:=by rfl)(hx:Loc X.env.scope x:=by first|exact Or.inl rfl|exact Or.inr rfl)(hs:swapsWith e (some<|.Name x pos') pos.line X.env=pure false:=by rfl)(hf:X.fn x=true\/X.env.scope.names.lookup x=some .local:=by first|exact .inl rfl|exact .inr rfl|assumption) :
  AS X (.Assign [.Name x pos'] e pos) (jD f<|jC i):=PS.imp (UE hN hi hx he hs hf) λD σ H ⟨ρ,S,τ,R,r,h⟩=>
 ⟨ρ,S,τ,R,r,iO (of_post h) .refl λa S1 h1 ρ1 H1 x e1 R1 v1=>h1 ρ1 H1 _ e1 R1<|(r.ext e1).set v1⟩
abbrev Zj (i j:Nat)(c:se):Sm:=λτ S=>.of (c τ S) λd S1=>match d with
 | [a,b]=>.nx ((τ.set i a).set j b) S1
 | _=>.no
abbrev ip (X:Cx)(f:A->A->iQ->R A):Vo:=λx y H Q=>∃ρ S a b,Rel X.K ρ H S/\AV X.K ρ H a x/\AV X.K ρ H b y/\(f a b S).post (yi X ρ H Q) (XE X ρ H)
abbrev J0 (a b:A)(S:iQ):R A:=match a,b with
 | .int i,.int j=>.ok (.int<|i+j) S
 | _,_=>.no
def IT:Tv X .Add (ip X J0):=λpins s σ H x y v u Q I r1 r2 h9=>by
 x_go
 cases va with
 | int i=>
  cases vb with
  | int j=>exact UA pins s σ H _ _ v u Q I r1 r2 ⟨i,j,rfl,rfl,h _ _ _ .refl R<|.int _⟩
  | _=>exact h.elim
 | _=>exact h.elim
def Rq:Tv X .Sub (ip X aSub):=λpins s σ H x y v u Q I r1 r2 h9=>by
 x_go
 cases va with
 | int i=>
  cases vb with
  | int j=>exact Vd pins s σ H _ _ v u Q I r1 r2 ⟨i,j,rfl,rfl,h _ _ _ .refl R<|.int _⟩
  | _=>exact h.elim
 | _=>exact h.elim
abbrev Nb (i:Nat)(f:A->A->iQ->R A)(e:Ex):Sm:=λτ S=>if (τ.getD i .unb).nI then .no else .of (e τ S) λb S1=>.of (f (τ.getD i .unb) b S1) λc S2=>.nx (τ.set i c) S2
def Wk{i:Nat}{x:Str}{c:Ex}{f:A->A->iQ->R A}(hN:X.N.Nodup)(he:AE X e c)(ho:Tv X op<|ip X f)(hi:X.N[i]?=some x:=by rfl)(hx:Loc X.env.scope x:=by first|exact Or.inl rfl|exact Or.inr rfl)(hf:X.fn x=true\/X.env.scope.names.lookup x=some .local:=by first|exact .inl rfl|exact .inr rfl|assumption) :
  AS X (.AugAssign (.Name x pos') op e pos) (Nb i f c):=PS.imp (Uv hN hi hx he ho hf) λD σ H h9=>by
 z_go;have d:∀x,τ[i]?=some x->x.nI=false->(RS.of (c τ S) λb S1=>.of (f x b S1) λc S2=>.nx (τ.set i c) S2).post (Jw X ρ H D.nx) (yi X ρ H D.rt) (Jw X ρ H D.bk) (Jw X ρ H D.ct) (XE X ρ H) ->
   ∃x,σ[i]?=some (some x)/\tE X c σ H λy H1=>ip X f x y H1 λz H2=>D.nx (σ.set i<|some z) H2:=by
  intro x hi hx h
  rcases r.at i x hi with z|⟨v,e,q⟩
  ·subst z;cases hx
  ·refine⟨v,e,ρ,S,τ,R,r,iO (of_post h) .refl λb S1 h1 ρ1 H1 y e1 R1 v1=>⟨ρ1,S1,x,b,R1,q.ext e1,v1,iO (of_post h1) e1 λw S2 h2 ρ2 H2 z e2 R2 v2=>?_⟩⟩;exact h2 ρ2 H2 _ (e1.trans e2) R2<|(r.ext<|e1.trans e2).set v2
 unfold Nb Bh at h;rw[aJ]at h
 cases hi:τ[i]? with
 | none=>rw[hi]at h;exact h.elim
 | some x=>
  rw[hi]at h
  cases hx:x.nI with
  | true=>rw[show(some x).getD .unb=x from rfl,hx]at h;exact h.elim
  | false=>rw[show(some x).getD .unb=x from rfl,hx]at h;exact d x hi hx h
abbrev M3 (a b:A)(S:iQ):R A:=match a,b with
 | .ref n,.int i=>opt (iN S n) λxs=>gd (0<=i) (opt (xs[i.toNat]?) λx=>.ok x S)
 | _,_=>.no
def Rg:UD X (r2 X M3):=λpins s σ H o i ov iv Q I f d h9=>by
 x_go
 cases va with
 | @ref p n hp=>
  cases vb with
  | int k=>
   gn_on;obtain⟨h0,h⟩:=jm h;obtain⟨x,g,h⟩:=iX h;obtain⟨vs,h1,r1⟩:=R.lst hp<|i9 hn;obtain⟨z,e,q⟩:=r1.get g;exact Ph pins s σ H _ _ ov iv Q I f d ⟨p,vs,k,z,rfl,rfl,lT.of h1,h0,e,h _ _ _ .refl R q⟩
  | _=>exact h.elim
 | _=>exact h.elim
abbrev Ak (co ci ce:Ex)(f:A->A->iQ->R A):Sm:=λτ S=>.of (co τ S) λo S1=>.of (ci τ S1) λi S2=>.of (M3 o i S2) λx S3=>.of (ce τ S3) λy g=>.of (f x y g) λz j=>.of (Ey o i z j) λ_ d=>.nx τ d
def Jr{co ci ce:Ex}{f:A->A->iQ->R A}(ho:AE X o co)(hi:AE X i ci)(he:AE X e ce)(hp:Tv X op<|ip X f)
  (ha:∀ov iv new,augStore i ov iv new=(do holding [new,ov,iv] (setItem ov iv new);release [new,ov,iv] [];pure .next):=by intros;rfl):AS X (.AugAssign (.Subscript o i tpos) op e pos) (Ak co ci ce f):=
 PS.imp (Q7 ho hi Rg he hp IS ha) λD σ H h9=>by
  z_go;refine⟨ρ,S,τ,R,r,iO (of_post h) .refl λC S1 h1 ρ1 H1 vo e1 R1 v1=>⟨ρ1,S1,τ,R1,r.ext e1,iO (of_post h1) e1 λB S2 h2 ρ2 H2 vi e2 R2 v2=>?_⟩⟩;refine⟨ρ2,S2,C,B,R2,v1.ext e2,v2,iO (of_post h2) (e1.trans e2) λT S3 h3 ρ3 H3 vx e3 R3 Z=>?_⟩;have d:=(e1.trans e2).trans e3;refine⟨ρ3,S3,τ,R3,r.ext d,iO (of_post h3) d λG V U p H4 vy g O J=>?_⟩;refine⟨p,V,T,G,O,Z.ext g,J,iO (of_post U) (d.trans g) λK L N m H5 vz q P F=>?_⟩;have j:=(e3.trans g).trans q;refine⟨m,L,C,B,K,P,v1.ext<|e2.trans j,v2.ext j,F,iO (of_post N) ((d.trans g).trans q) λ_ S6 h6 z M W Y=>?_⟩;have k:=((d.trans g).trans q).trans W;exact h6 z M σ k Y<|r.ext k
abbrev lZ (t:Te)(c:Sm):Nat->Sm
 | 0=>λ_ _=>.no
 | n+1=>λτ S=>.of (t τ S) λb S1=>match b with
  | false=>.nx τ S1
  | true=>match c τ S1 with
   | .nx d f=>lZ t c n d f
   | .ct d f=>lZ t c n d f
   | .bk d f=>.nx d f
   | r=>r
def zA(n:Nat){t:Te}(hp:PassesOwn (model X.prog X.w) X.A X.env X.xe)(ht:AT X e t)(hb:Qx X body c):AS X (.While e body [] pos) (lZ t c n):=PS.imp (LK hp ht hb) λD σ H h9=>by
 z_go;refine⟨λm g H'=>∃ρ' f d,Ext ρ ρ' H H'/\Rel X.K ρ' H' f/\SR X.K ρ' H' d g/\Bh X ρ' H' D (lZ t c m d f),⟨n,ρ,S,τ,.refl,R,r,h⟩,?_⟩;rintro m p H1 ⟨ρ1,S1,j,e1,R1,r1,h1⟩
 cases m with
 | zero=>exact h1.elim
 | succ m=>
  refine⟨ρ1,S1,j,R1,r1,iO (of_post h1) .refl λb S2 h2 ρ2 H2 e2 R2=>?_⟩
  cases b with
  | false=>rw[aK bK];exact h2 ρ2 H2 p e2 R2 (r1.ext e2)
  | true=>
   rw[aL rfl];refine⟨λg H'=>∃ρ' f d,Ext ρ ρ' H H'/\Rel X.K ρ' H' f/\SR X.K ρ' H' d g/\Bh X ρ' H' D (lZ t c m d f),λg H' z=>⟨m,cZ _,z⟩,ρ2,S2,j,R2,r1.ext e2,?_⟩;have h2:Bh X ρ1 H1 D (match c j S2 with
    | .nx d f=>lZ t c m d f
    | .ct d f=>lZ t c m d f
    | .bk d f=>.nx d f
    | r=>r):=h2
   cases hc:c j S2 with
   | nx k S3=>rw[hc]at h2;exact λρ3 H3 B e3 R3 q=>⟨ρ3,S3,k,(e1.trans e2).trans e3,R3,q,Bh.ext h2<|e2.trans e3⟩
   | ct k S3=>rw[hc]at h2;exact λρ3 H3 B e3 R3 q=>⟨ρ3,S3,k,(e1.trans e2).trans e3,R3,q,Bh.ext h2<|e2.trans e3⟩
   | bk k S3=>rw[hc]at h2;exact Jw.ext h2 e2
   | rt a S3=>rw[hc]at h2;exact yi.ext h2 e2
   | ex x S3=>rw[hc]at h2;exact XE.ext h2 e2
   | no=>rw[hc]at h2;exact h2
end
structure Src where
 k:Nat
 get:Nat->iQ->Option A
 fin:iQ->Bool
structure JR (K:au)(s:Src)(J:It)(ρ0:bb)(H0:Hp):Prop where
 go:∀(i:Nat) (S:iQ) (H:Hp) (ρ:bb) (x:A),Ext0 ρ0 ρ H0 H->Rel K ρ H S->s.get i S=some x->J.go i H/\∀v H',J.yld i H v H'->Ext ρ ρ H H'/\Rel K ρ H' S/\AV K ρ H' x v
 stop:∀(S:iQ) (H:Hp) (ρ:bb),Ext0 ρ0 ρ H0 H->Rel K ρ H S->s.fin S=true->J.stop s.k H
meta abbrev Ic:=ae->iQ->R Src
abbrev tI (X:Cx)(c:Ic):TI:=λσ H Q=>∃ρ S τ,Rel X.K ρ H S/\SR X.K ρ H τ σ/\(c τ S).post (λs d=>∀ρ' H' J,Ext ρ ρ' H H'->Rel X.K ρ' H' d->JR X.K s J ρ' H'->Q J H') (XE X ρ H)
abbrev AI (X:Cx)(tg iter:aE)(c:Ic):Prop:=PI X tg iter<|tI X c
abbrev qR (xs:ae):Src:=⟨xs.length,λi _=>xs[i]?,λ_=>true⟩
abbrev oF (n k:Nat):Src:=⟨k,λi S=>(iN S n).bind (·[i]?),λS=>match iN S n with
 | some ys=>decide (ys.length<=k)
 | none=>false⟩
abbrev j5 (lo hi:Int):Src:=⟨(hi-lo).toNat,λi _=>if i<(hi-lo).toNat then some (.int<|lo+i)else none,λ_=>true⟩
abbrev mq (c:Ex):Ic:=λτ S=>(c τ S).bind λa S1=>match a with
 | .tup xs=>.ok (qR xs) S1
 | .frz xs=>.ok (qR xs) S1
 | .ref n=>opt (iN S1 n) λxs=>.ok (oF n xs.length) S1
 | .str x=>gd (x.cps.all (· < 128)=true) (.ok (qR<|x.cps.toList.map λc=>.str ⟨#[c]⟩) S1)
 | _=>.no
section
variable {X:Cx}{pos:Pos}{tg e a b:aE}
def UB{K:au}{H0:Hp}{p:ak}(h:nG K H0 p vs)(r:AVs K ρ0 H0 xs vs):JR K (qR xs) (WG K p) ρ0 H0 where
 go:=λi S H ρ x e R g=>by
  obtain⟨v,d,f⟩:=(AVs.lq e r).get g;have hs:=e.sqT h;refine⟨⟨vs,v,hs,d⟩,λw H' ⟨e1,y⟩=>?_⟩;subst e1;have:=y vs hs;rw[d]at this
  cases this
  exact⟨.refl,R,f⟩
 stop:=λS H ρ e R _=>⟨vs,e.sqT h,by rw[<- r.length];exact aQ _⟩
def Vi{K:au}{H0:Hp}{p:ak}(h:Fz K H0 p vs)(r:AVs K ρ0 H0 xs vs):JR K (qR xs) (YN K p) ρ0 H0 where
 go:=λi S H ρ x e R g=>by
  obtain⟨v,d,f⟩:=(AVs.lq e r).get g;have hs:=(e.fz h).PM;refine⟨⟨vs,v,hs,d⟩,λw H' ⟨e1,y⟩=>?_⟩;subst e1;have:=y vs hs;rw[d]at this
  cases this
  exact⟨.refl,R,f⟩
 stop:=λS H ρ e R _=>⟨vs,(e.fz h).PM,by rw[<- r.length];exact aQ _⟩
def VJ{K:au}{ρ0:bb}{H0:Hp}{p:ak}{n k:Nat}(h:ρ0[n]?=some p):JR K (oF n k) (YN K p) ρ0 H0 where
 go:=λi S H ρ x e R g=>by
  obtain⟨ys,hn,j⟩:=bX.mp<|show(iN S n).bind (·[i]?)=some x from g;obtain⟨vs,h1,r⟩:=R.lst (e.get h)<|i9 hn;obtain⟨v,d,f⟩:=r.get j;refine⟨⟨vs,v,lT.of h1,d⟩,λw H' ⟨e1,y⟩=>?_⟩;subst e1;have:=y vs<|lT.of h1;rw[d]at this
  cases this
  exact⟨.refl,R,f⟩
 stop:=λS H ρ e R g=>by
  have g:(match iN S n with
   | some ys=>decide (ys.length<=k)
   | none=>false)=true:=g
  cases hn:iN S n with
  | none=>rw[hn]at g;cases g
  | some ys=>
   rw[hn]at g;obtain⟨vs,h1,r⟩:=R.lst (e.get h)<|i9 hn;exact⟨vs,lT.of h1,by rw[<- r.length];exact bS g⟩
def K1{K:au}{H0:Hp}{lo hi:Int}:JR K (j5 lo hi) (XD lo (hi-lo).toNat) ρ0 H0 where
 go:=λi S H ρ x e R g=>by
  have g:(if i<(hi-lo).toNat then some (A.int<|lo+i)else none)=some x:=g;by_cases d:i<(hi-lo).toNat
  ·rw[aL d]at g
   cases g
   refine⟨d,λw H' ⟨e1,y⟩=>?_⟩;subst e1 y;exact⟨.refl,R,.int _⟩
  ·rw[aK d]at g;cases g
 stop:=λS H ρ e R _=>aQ _
def VN{K:au}{H0:Hp}{x:Str}:JR K (qR<|x.cps.toList.map λc=>A.str ⟨#[c]⟩) (Y7 x) ρ0 H0 where
 go:=λi S H ρ y e R g=>by
  have g:(x.cps.toList.map λc=>A.str ⟨#[c]⟩)[i]?=some y:=g;rw[bh]at g;obtain⟨c,hc,rfl⟩:=a_.mp g;rw[fu]at hc;refine⟨(Array.getElem?_eq_some_iff.mp hc).1,λw H' ⟨e1,j,d,f⟩=>?_⟩;rw[hc]at d
  cases d
  subst e1 f;exact⟨.refl,R,.str _⟩
 stop:=λS H ρ e R _=>by
  show(x.cps.toList.map λc=>A.str ⟨#[c]⟩).length=x.cps.size;rw[aH,b_]
def mU{c:Ex}(he:AE X e c):AI X tg e (mq c):=λpins s σ H Q I h9=>by
 z_go;have d:=iV h
 cases hc:c τ S with
 | no=>rw[hc]at d;exact d.elim
 | ex x S1=>
  rw[hc]at d;exact Lh he pins s σ H Q I ⟨ρ,S,τ,R,r,by rw[hc];exact d⟩
 | ok a S1=>
  rw[hc]at d
  cases a with
  | tup xs=>
   refine Lh he pins s σ H Q I ⟨ρ,S,τ,R,r,?_⟩;rw[hc];intro ρ1 H1 x e1 R1 v1
   cases v1 with
   | tup h1 r1=>exact⟨_,rfl,⟨_,(nG.of h1)⟩,d ρ1 H1 _ e1 R1<|UB (nG.of h1) r1⟩
  | frz xs=>
   refine Ib he pins s σ H Q I ⟨ρ,S,τ,R,r,?_⟩;rw[hc];intro ρ1 H1 x e1 R1 v1
   cases v1 with
   | frz h1 r1=>exact⟨_,rfl,⟨_,h1.PM⟩,d ρ1 H1 _ e1 R1<|Vi h1 r1⟩
  | ref n=>
   obtain⟨xs,hn,d⟩:=iX d;refine Ib he pins s σ H Q I ⟨ρ,S,τ,R,r,?_⟩;rw[hc];intro ρ1 H1 x e1 R1 v1
   cases v1 with
   | ref hp=>
    obtain⟨vs,h1,r1⟩:=R1.lst hp<|i9 hn;exact⟨_,rfl,⟨_,lT.of h1⟩,d ρ1 H1 _ e1 R1<|VJ hp⟩
  | str x=>
   obtain⟨f,d⟩:=jm d;refine VG he pins s σ H Q I ⟨ρ,S,τ,R,r,?_⟩;rw[hc];intro ρ1 H1 v e1 R1 v1
   cases v1 with
   | str=>exact⟨x,rfl,f,d ρ1 H1 _ e1 R1 VN⟩
  | _=>exact d.elim
abbrev bnd (i:Int):Prop:=-(2 ^ 62)<=i/\i<2 ^ 62
instance (i:Int):Decidable (bnd i):=by unfold bnd;infer_instance
abbrev nJ (c:Ex):Ic:=λτ S=>(c τ S).bind λa S1=>match a with
 | .int j=>gd (bnd j) (.ok (j5 0 j) S1)
 | _=>.no
abbrev oZ (c d:Ex):Ic:=λτ S=>(c τ S).bind λa S1=>(d τ S1).bind λb S2=>match a,b with
 | .int i,.int j=>gd (bnd i/\bnd j) (.ok (j5 i j) S2)
 | _,_=>.no
def lV{p:Pos}{c:Ex}(hm:X.mg "range" = none)(ha:AE X a c)(hg:Gl X "range" := by rfl)(hs:starEach [a] X.env=[(false,eval a X.env)]:=by rfl):AI X tg (.Call (.Name "range" p) [a] [] pos) (nJ c):=λpins s σ H Q I h9=>by
 z_go;refine Kc hg hm (oh ha xG hs) hs pins s σ H Q I ⟨ρ,S,τ,R,r,iO (iV h) .refl λx S1 h1 ρ1 H1 v e1 R1 v1=>?_⟩
 cases v1 with
 | int j=>
  obtain⟨d,h1⟩:=jm h1;exact⟨_,rfl,d.1,d.2,by have:=h1 ρ1 H1 _ e1 R1 K1;rwa [Int.sub_zero]at this⟩
 | _=>exact h1.elim
def pF{p:Pos}{c d:Ex}(hm:X.mg "range" = none)(ha:AE X a c)(hb:AE X b d)(hg:Gl X "range" := by rfl)(hs:starEach [a,b] X.env=[(false,eval a X.env),(false,eval b X.env)]:=by rfl)(hs2:starEach [b] X.env=[(false,eval b X.env)]:=by rfl):AI X tg (.Call (.Name "range" p) [a,b] [] pos) (oZ c d):=λpins s σ H Q I h9=>by
 z_go;refine JZ hg hm (oh ha (oh hb xG hs2)<|by rw[hs,hs2]) hs hs2 pins s σ H Q I ⟨ρ,S,τ,R,r,iO (iV h) .refl λx S1 h1 ρ1 H1 v e1 R1 v1=>⟨ρ1,S1,τ,R1,r.ext e1,iO (iV h1) e1 λy S2 h2 ρ2 H2 w e2 R2 v2=>?_⟩⟩
 cases v1 with
 | int i=>
  cases v2 with
  | int j=>
   obtain⟨hb,h2⟩:=jm h2;exact⟨_,_,rfl,⟨hb.1.1,hb.1.2,hb.2.1,hb.2.2⟩,h2 ρ2 H2 _ (e1.trans e2) R2 K1⟩
  | _=>exact h2.elim
 | _=>exact h2.elim
abbrev qw (s:Src)(g:Tg)(c:Sm):Nat->Nat->Sm
 | 0,_=>λτ S=>if s.fin S then .nx τ S else .no
 | k+1,i=>λτ S=>match s.get i S with
  | none=>.no
  | some x=>.of (g x τ S) λj S1=>match c j S1 with
   | .nx d f=>qw s g c k (i+1) d f
   | .ct d f=>qw s g c k (i+1) d f
   | .bk d f=>.nx d f
   | r=>r
abbrev kN (src:Ic)(g:Tg)(c:Sm):Sm:=λτ S=>.of (src τ S) λs S1=>qw s g c s.k 0 τ S1
def kY{iter:aE}{src:Ic}{g:Tg}{c:Sm}(hp:PassesOwn (model X.prog X.w) X.A X.env X.xe)(hc:X.calm=true)(hi:AI X tg iter src)(hg:AG X tg g)(hb:Qx X body c)
  (hs:∀x,foldedSetIterable iter X.env x=pure x:=by intro _;rfl):AS X (.For tg iter body [] pos) (kN src g c):=PS.imp (VM hp hc hi hg hb hs) λD σ H h9=>by
 z_go;refine⟨ρ,S,τ,R,r,iO (of_post h) .refl λs S1 h1 ρ1 H1 J e1 R1 jr=>?_⟩;refine⟨λi m B H'=>m+i=s.k/\∃ρ' q d,Ext ρ1 ρ' H1 H'/\Rel X.K ρ' H' q/\SR X.K ρ' H' d B/\Bh X ρ' H' D (qw s g c m i d q),⟨s.k,rfl,ρ1,S1,τ,.refl,R1,r.ext e1,Bh.ext h1 e1⟩,?_⟩;rintro i m P H2 ⟨hm,ρ2,S2,F,e2,R2,r2,h2⟩
 cases m with
 | zero=>
  left;have h2:Bh X ρ2 H2 D (if s.fin S2 then .nx F S2 else .no):=h2
  cases hf:s.fin S2 with
  | false=>rw[hf]at h2;exact h2.elim
  | true=>
   rw[hf]at h2;refine⟨by rw[show i=s.k by lia];exact jr.stop S2 H2 ρ2 e2.toExt0 R2 hf,h2 ρ2 H2 P .refl R2 r2⟩
 | succ m=>
  right;have h2:Bh X ρ2 H2 D (match s.get i S2 with
   | none=>.no
   | some x=>.of (g x F S2) λV S1=>match c V S1 with
    | .nx d q=>qw s g c m (i+1) d q
    | .ct d q=>qw s g c m (i+1) d q
    | .bk d q=>.nx d q
    | r=>r):=h2
  cases Z:s.get i S2 with
  | none=>rw[Z]at h2;exact h2.elim
  | some x=>
   rw[Z]at h2;obtain⟨T,hy⟩:=jr.go i S2 H2 ρ2 x e2.toExt0 R2 Z;refine⟨T,λB H'=>m+(i+1)=s.k/\∃ρ' q d,Ext ρ1 ρ' H1 H'/\Rel X.K ρ' H' q/\SR X.K ρ' H' d B/\Bh X ρ' H' D (qw s g c m (i+1) d q),λB H' z=>⟨m,cZ _,z⟩,λv H3 y=>?_⟩;obtain⟨e3,R3,v3⟩:=hy v H3 y;refine⟨ρ2,S2,F,x,R3,r2.ext e3,v3,iO (of_post h2) e3 λM S4 p U H4 σ4 e4 R4 r4=>⟨U,S4,M,R4,r4,?_⟩⟩;have f:=e3.trans e4
   cases j:c M S4 with
   | nx C L=>rw[j]at p;exact λG H5 Y N O W=>⟨(),G,L,C,(e2.trans f).trans N,O,W,Bh.ext p<|f.trans N⟩
   | ct C L=>rw[j]at p;exact λG H5 Y N O W=>⟨(),G,L,C,(e2.trans f).trans N,O,W,Bh.ext p<|f.trans N⟩
   | bk C L=>rw[j]at p;exact Jw.ext p f
   | rt x5 L=>rw[j]at p;exact yi.ext p f
   | ex x5 L=>rw[j]at p;exact XE.ext p f
   | no=>rw[j]at p;exact p
end
abbrev R.mY {α β:Type}(r:R α)(f:α->iQ->R β):R β:=match r with
 | .ok a S=>f a S
 | _=>.no
def kG{α β:Type}{r:R α}{f:α->iQ->R β}{b:β}(h:r.mY f=.ok b S2):∃a S,r=.ok a S/\f a S=.ok b S2:=by
 cases r with
 | ok a S=>exact⟨a,S,rfl,h⟩
 | ex _ _=>cases h
 | no=>cases h
def Ae{α β:Type}{r:R α}{f:α->iQ->R β}{P:β->iQ->Prop}{E:Str->iQ->Prop}(h:(r.mY f).post P E):∃a S,r=.ok a S/\(f a S).post P E:=by
 cases r with
 | ok a S=>exact⟨a,S,rfl,h⟩
 | ex _ _=>exact h.elim
 | no=>exact h.elim
def Fj{α β:Type}{o:Option β}{f:β->R α}{a:α}(h:opt o f=.ok a S):∃b,o=some b/\f b=.ok a S:=by
 cases o with
 | none=>cases h
 | some b=>exact⟨b,rfl,h⟩
abbrev l_ (s:Src)(g:Tg)(t:Te)(e:Ex):Nat->Nat->ae->iQ->R (ae)
 | 0,_=>λ_ S=>if s.fin S then .ok [] S else .no
 | k+1,i=>λτ S=>opt (s.get i S) λx=>(g x τ S).mY λd S1=>(t d S1).mY λb S2=>match b with
  | true=>(e d S2).mY λy S3=>(l_ s g t e k (i+1) d S3).mY λys f=>.ok (y::ys) f
  | false=>l_ s g t e k (i+1) d S2
abbrev l9 (cap:List<|bn)(τ:ae):ae:=cap.map λo=>match o with
 | some j=>τ.getD j .unb
 | none=>.unb
abbrev jM (cap:List<|bn)(src:Ic)(g:Tg)(t:Te)(e:Ex):Ex:=λτ S=>(src τ S).bind λs S1=>(l_ s g t e s.k 0 (l9 cap τ) S1).mY λys S2=>newL ys S2
abbrev uY:Te:=λ_ S=>.ok true S
def Dj{s:Src}{g:Tg}{t:Te}{e:Ex}{k:Nat}{T:Prop}(h:l_ s g t e (k+1) i τ S=.ok zs S')
  (q:∀x τ1 S1 b S2,s.get i S=some x->g x τ S=.ok τ1 S1->t τ1 S1=.ok b S2->(b=true->∃y S3 ws,e τ1 S2=.ok y S3/\l_ s g t e k (i+1) τ1 S3=.ok ws S'/\zs=y::ws)->(b=false->l_ s g t e k (i+1) τ1 S2=.ok zs S')->T):T:=by
 obtain⟨x,j,h⟩:=Fj h;obtain⟨τ1,S1,h1,h⟩:=kG h;obtain⟨b,S2,h2,h⟩:=kG h;refine q x τ1 S1 b S2 j h1 h2 (λd=>?_) λd=>?_
 ·subst d;obtain⟨y,S3,h3,h⟩:=kG h;obtain⟨ws,m,f,h⟩:=kG h
  cases h
  exact⟨y,S3,ws,h3,f,rfl⟩
 ·subst d;exact h
structure Out (ρ1:bb)(H1:Hp)(D:ak)(accV:List V)(ρ:bb)(H:Hp):Prop where
 e0:Ext0 ρ1 ρ H1 H
 fr:∀a u,a≠D->H1 a=some u->a∉ρ1->H a=some u
 nw:∀a∈ρ,a∈ρ1\/H1 a=none
 nD:D∉ρ
 hD:H D=some (.lst accV)
def Out.stay{H1 H3 H7:Hp}{D:ak}(o:Out ρ1 H1 D accV ρ3 H3)(hD1:H1 D=none)(e7:Ext ρ3 ρ7 H3 H7):Out ρ1 H1 D accV ρ7 H7:=by
 refine⟨⟨o.e0.pre.trans e7.pre,λa u i h=>e7.im a u i<|o.e0.im a u i h⟩,λa u na d g=>e7.fr a u (o.fr a u na d g) λz=>(o.nw a z).elim g λz=>by(rw[z]at d;cases d),λa j=>?_,λz=>(e7.nw D z).elim o.nD λz=>by(rw[o.hD]at z;cases z),e7.fr D _ o.hD o.nD⟩;by_cases f:a∈ρ1
 ·exact .inl f
 ·right
  cases q:H1 a with
  | none=>rfl
  | some u=>
   have k:a≠D:=je q hD1
   rcases e7.nw a j with z|z
   ·exact((o.nw a z).elim f λz=>by(rw[z]at q;cases q)).elim
   ·rw[o.fr a u k q f]at z;cases z
def Out.put{H1 H:Hp}{D:ak}(o:Out ρ1 H1 D accV ρ H)(ex:Ext0 ρ ρ H<|upd H D<|.lst vs):Out ρ1 H1 D vs ρ (upd H D<|.lst vs):=
 ⟨⟨o.e0.pre,λa u i h=>ex.im a u i<|o.e0.im a u i h⟩,λa u na d f=>by rw[iZ na];exact o.fr a u na d f,o.nw,o.nD,jT⟩
def Out.end{H1 H:Hp}{D:ak}(o:Out ρ1 H1 D accV ρ H)(hD:H1 D=none):Ext ρ1 (ρ++[D]) H1 H:=by
 refine⟨⟨o.e0.pre.trans<|eY _ _,o.e0.im⟩,λa u d na=>o.fr a u (je d hD) d na,λa f=>?_⟩
 rcases bF.mp f with z|z
 ·exact o.nw a z
 ·have:a=D:=by simpa using z
  rw[this];exact .inr hD
abbrev Cq (K:au)(ρ1:bb)(H1:Hp)(D:ak)(ys:ae)(k:Nat)(E:bb->Hp->Prop)(P:Nat->Nat->ae->iQ->ae->Prop)(i m:Nat)(σ:L2.St)(H:Hp):Prop:=
 m+i=k/\∃ρ S τ acc zs accV,Out ρ1 H1 D accV ρ H/\E ρ H/\Rel K ρ H S/\SR K ρ H τ σ/\AVs K ρ H acc accV/\P m i τ S zs/\acc++zs=ys
section
variable {K:au}{ρ1 ρ:bb}{H1 H:Hp}{D:ak}{ys acc zs:ae}{accV:List V}{k i m:Nat}{E:bb->Hp->Prop}{P:Nat->Nat->ae->iQ->ae->Prop}{σ:L2.St}{S:iQ}{τ:ae}
def Cq.el{T:Prop}(h:Cq K ρ1 H1 D ys k E P i m σ H)(q:∀ρ S τ acc zs accV,m+i=k->Out ρ1 H1 D accV ρ H->E ρ H->Rel K ρ H S->SR K ρ H τ σ->AVs K ρ H acc accV->P m i τ S zs->acc++zs=ys->T):T:=by
 obtain⟨d,ρ,S,τ,acc,zs,accV,h1,h2,h3,f,p,j,g⟩:=h;exact q ρ S τ acc zs accV d h1 h2 h3 f p j g
def Cq.of(hm:m+i=k)(o:Out ρ1 H1 D accV ρ H)(e:E ρ H)(R:Rel K ρ H S)(r:SR K ρ H τ σ)(v:AVs K ρ H acc accV)(p:P m i τ S zs)(q:acc++zs=ys):Cq K ρ1 H1 D ys k E P i m σ H:=⟨hm,ρ,S,τ,acc,zs,accV,o,e,R,r,v,p,q⟩
end
abbrev Xm (K:au)(c:Ex):TE:=λσ H Q=>∃ρ S τ a d,Rel K ρ H S/\SR K ρ H τ σ/\c τ S=.ok a d/\∀ρ' H' v,Ext ρ ρ' H H'->Rel K ρ' H' d->AV K ρ' H' a v->Q v H'
abbrev Ur (K:au)(c:Te):TT:=λσ H Q=>∃ρ S τ a d,Rel K ρ H S/\SR K ρ H τ σ/\c τ S=.ok a d/\∀ρ' H',Ext ρ ρ' H H'->Rel K ρ' H' d->Q a H'
abbrev WM (K:au)(g:Tg):TG:=λv σ H Q=>∃ρ S τ a d j,Rel K ρ H S/\SR K ρ H τ σ/\AV K ρ H a v/\g a τ S=.ok d j/\∀ρ' H' f,Ext ρ ρ' H H'->Rel K ρ' H' j->SR K ρ' H' d f->Q f H'
section
variable {X:Cx}{pos:Pos}{tg iter elt e:aE}{ifs:List aE}{scope:Scope}{N:ar}{cap:List (bn)}{src:Ic}{g:Tg}{t:Te}{c:Ex}
def AE.e0{K:au}(hK:X.K=K)(h:AE X e c):PE X e (Xm K c):=PE.imp h λσ H Q ⟨ρ,S,τ,a,g,R,r,hc,q⟩=>⟨ρ,S,τ,by rw[hK];exact R,by rw[hK];exact r,by rw[hc];exact λρ' H' v e f d=>q ρ' H' v e (by rw[<- hK];exact f)<|by rw[<- hK];exact d⟩
def AT.t0{K:au}(hK:X.K=K)(h:AT X e t):PT X e (Ur K t):=PT.imp h λσ H Q ⟨ρ,S,τ,a,f,R,r,hc,q⟩=>⟨ρ,S,τ,by rw[hK];exact R,by rw[hK];exact r,by rw[hc];exact λρ' H' e d=>q ρ' H' e<|by rw[<- hK];exact d⟩
def AG.g0{K:au}(hK:X.K=K)(h:AG X e g):PG X e (WM K g):=by
 subst hK;refine PG.imp h λv σ H Q h9=>?_;obtain⟨ρ,S,τ,a,d,f,R,r,va,hc,q⟩:=h9;exact⟨ρ,S,τ,a,R,r,va,by rw[hc];exact q⟩
abbrev WI (X:Cx)(ifs:List aE)(t:Te):Prop:=PR X ifs<|Ur X.K t
def wo:WI X [] uY:=λpins s σ H Q I ⟨ρ,S,τ,a,d,R,r,hc,q⟩=>Ro pins s σ H Q I<|by cases hc;exact q ρ H .refl R
def qz(h:AT X e t):WI X [e] t:=Rv<|h.t0 rfl
def SW{K:au}{H:Hp}(r:SR K ρ H τ σ)(cap:List<|bn):SR K ρ H (l9 cap τ) (cap.map<|QA σ):=by
 refine⟨by simp[l9],λi a h=>?_⟩;unfold l9 at h;rw[bh]at h;obtain⟨o,f,e⟩:=a_.mp h
 cases o with
 | none=>exact .inl e.symm
 | some j=>
  have e:τ.getD j .unb=a:=e
  cases d:τ[j]? with
  | none=>rw[aJ,d]at e;exact .inl e.symm
  | some b=>
   rw[aJ,d]at e;have e:b=a:=e;subst e
   rcases r.at j b d with z|⟨v,h1,h2⟩
   ·exact .inl z
   ·exact .inr ⟨v,by rw[bh,f];show some ((σ[j]?).getD none)=_;rw[h1];rfl,h2⟩
def Rel.IU{K:au}{H:Hp}{p:ak}(R:Rel K ρ H S)(hp:H p=none):p∉ρ:=λg=>by
 obtain⟨n,hn,e⟩:=eB.mp g;have f:n<S.length:=by rw[<- R.len];exact hn
 have:=R.at n p S[n] (by rw[aG hn,e]) (aG f)
 cases d:S[n]with
 | lst xs=>rw[d]at this;obtain⟨vs,h,_⟩:=this;rw[hp]at h;cases h
 | dct _|nV _|tH _=>rw[d]at this;obtain⟨vs,h,_⟩:=this;rw[hp]at h;cases h
 | ins _ _=>rw[d]at this;obtain⟨_,_,h⟩:=this;rw[hp]at h;cases h
def EH(σ:L2.St)(H:Hp)(Q:VK)(h:tE X (jM cap src g t c) σ H Q):Xs cap (tI X src) (WM X.K g) (Ur X.K t) (Xm X.K c) σ H Q:=by
 kln_w;refine⟨ρ,S,τ,R,r,iO (iV h) .refl λs S1 h1 ρ1 H1 J e1 R1 jr D hD=>?_⟩;obtain⟨ys,S2,Z,h1⟩:=Ae h1;obtain⟨C,h1⟩:=jm h1;have h1:yi X ρ H Q (.ref S2.length) (S2++[.lst ys]):=h1;obtain⟨eD,RD⟩:=R1.im (u:=.lst []) hD;refine⟨Cq X.K ρ1 H1 D ys s.k (λ_ _=>True) λm i τ S zs=>l_ s g t c m i τ S=.ok zs S2,⟨s.k,.of rfl ⟨eD.toExt0,λa u na hu _=>by rw[iZ na];exact hu,λa ha=>.inl ha,R1.IU hD,jT⟩ trivial RD (SW ((r.ext e1).ext eD) cap) .nil Z rfl⟩,?_⟩;intro i m σ3 H3 hw;refine hw.el λρ3 S3 Y acc zs accV hm B _ R3 r3 j d f=>?_;clear hw
 cases m with
 | zero=>
  left;have d:(if s.fin S3 then Am.R.ok [] S3 else .no)=.ok zs S2:=d
  cases hf:s.fin S3 with
  | false=>rw[hf]at d;cases d
  | true=>
   rw[hf]at d
   cases d
   rw[cJ]at f;subst f;refine⟨by rw[show i=s.k by lia];exact jr.stop _ H3 ρ3 B.e0 R3 hf,?_⟩;obtain⟨RT,gt⟩:=R3.take B.hD B.nD j;exact h1 (ρ3++[D]) H3 _ (e1.trans<|B.end hD) RT<|.ref gt
 | succ m=>
  right;refine Dj d λx q S4 b S5 hx V N hT hF=>?_;have jg:=jr.go i S3 H3 ρ3 x B.e0 R3 hx;refine⟨jg.1,λv H4 y=>?_⟩;obtain⟨e4,R4,v4⟩:=jg.2 v H4 y;refine⟨ρ3,S3,Y,x,q,S4,R4,r3.ext e4,v4,V,λW H5 σ5 e5 R5 M=>⟨W,S4,q,b,S5,R5,M,N,λT H6 L R6=>?_⟩⟩;have p:=(e4.trans e5).trans L
  cases b with
  | false=>
   dsimp only;rw[aK bK];exact⟨m,cZ _,.of () (B.stay hD p) trivial R6 (M.ext L) (j.ext p) (hF rfl) f⟩
  | true=>
   dsimp only;rw[aL rfl];obtain⟨y,S6,ws,P,U,F⟩:=hT rfl;refine⟨T,S5,q,y,S6,R6,M.ext L,P,λρ7 H7 w O R7 v7=>?_⟩;have G:=B.stay hD<|p.trans O;obtain⟨z,R8⟩:=R7.out (ws:=accV++[w]) G.hD G.nD;have l1:=j.length;refine⟨accV,G.hD,?_,m,cZ _,.of () (G.put z) trivial R8 ((M.ext<|L.trans O).lq z) (AVs.lq z<|(j.ext<|p.trans O).append<|.one v7) U ?_⟩
   ·have:(acc++zs).length<=sizeLine:=by rw[f];exact C
    rw[F,aY,bq]at this
    lia
   ·rw[bD,<- f,F];rfl
def n9(hc:X.calm=true)(Sc:CpScope X scope N cap)(hi:AI X tg iter src)(hg:∀C s₀ H₀ ex,AG (j4 X scope N C s₀ H₀ ex) tg g)(ht:∀C s₀ H₀ ex,WI (j4 X scope N C s₀ H₀ ex) ifs t)(he:∀C s₀ H₀ ex,AE (j4 X scope N C s₀ H₀ ex) elt c)
  (hs:∀x,foldedSetIterable iter X.env x=pure x:=by intro _;rfl):AE X (.ListComp elt [⟨tg,iter,ifs,0⟩] scope pos) (jM cap src g t c):=
 PE.imp (W5 hc Sc hi (g:=WM X.K g) (tc:=Ur X.K t) (te:=Xm X.K c) (λC s₀ H₀ ex=>(hg C s₀ H₀ ex).g0 rfl) (λC s₀ H₀ ex=>ht C s₀ H₀ ex) (λC s₀ H₀ ex=>(he C s₀ H₀ ex).e0 rfl) hs) EH
def Q2{i:Nat}{x:Str}{spos:Pos}(hN:X.N.Nodup)(hc:X.calm=true)(Sc:CpScope X scope N cap)(hi:AI X tg iter src)(hg:∀C s₀ H₀ ex,AG (j4 X scope N C s₀ H₀ ex) tg g)(ht:∀C s₀ H₀ ex,WI (j4 X scope N C s₀ H₀ ex) ifs t)(he:∀C s₀ H₀ ex,AE (j4 X scope N C s₀ H₀ ex) elt c)
  (hi':X.N[i]?=some x:=by rfl) (hx:Loc X.env.scope x:=by first|exact Or.inl rfl|exact Or.inr rfl)
  (hsw:swapsWith (.ListComp elt [⟨tg,iter,ifs,0⟩] scope pos) (some<|.Name x pos') spos.line X.env=pure true:=by rfl) (hf:X.fn x=true\/X.env.scope.names.lookup x=some .local:=by first|exact .inl rfl|exact .inr rfl|assumption)
  (hs:∀x,foldedSetIterable iter X.env x=pure x:=by intro _;rfl):AS X (.Assign [.Name x pos'] (.ListComp elt [⟨tg,iter,ifs,0⟩] scope pos) spos) (jD (jM cap src g t c)<|jC i):=
 PS.imp (Lf hN hi' hx hc Sc hi (g:=WM X.K g) (tc:=Ur X.K t) (te:=Xm X.K c) (λC s₀ H₀ ex=>(hg C s₀ H₀ ex).g0 rfl) (λC s₀ H₀ ex=>ht C s₀ H₀ ex) (λC s₀ H₀ ex=>(he C s₀ H₀ ex).e0 rfl) hsw hf hs) λD σ H ⟨ρ,S,τ,R,r,h⟩=>
  EH σ H _ ⟨ρ,S,τ,R,r,iO (of_post h) .refl λa S1 h1 ρ1 H1 x e1 R1 v1=>h1 ρ1 H1 _ e1 R1<|(r.ext e1).set v1⟩
end
abbrev A.lst? (S:iQ):A->Option (ae)
 | .ref n=>iN S n
 | _=>none
abbrev WK (f:A->ae->iQ->R A)(co:Ex)(d:se):Ex:=λτ S=>(co τ S).bind λo S1=>opt (o.lst? S1) λ_=>(d τ S1).bind λg S2=>f o g S2
abbrev ZR (f:A->ae->iQ->R A)(co:Ex):Ex:=λτ S=>(co τ S).bind λo S1=>opt (o.lst? S1) λ_=>f o [] S1
abbrev rM (X:Cx)(f:A->ae->iQ->R A):V->List V->Hp->VK->Prop:=λx vs H Q=>∃ρ S o d,Rel X.K ρ H S/\AV X.K ρ H o x/\AVs X.K ρ H d vs/\(f o d S).post (yi X ρ H Q) (XE X ρ H)
section
variable {X:Cx}{apos cpos:Pos}{o e:aE}{es:List aE}{name:Str}{id:String}{f:A->ae->iQ->R A}{co:Ex}{d:se}
def lst?_ty{K:au}{H:Hp}{x:A}{v:V}(R:Rel K ρ H S)(h:AV K ρ H x v)(e:x.lst? S=some xs):YU K "list" v H:=by
 cases h with
 | ref h=>
  obtain⟨vs,h1,_⟩:=R.lst h<|i9 e;exact .inl ⟨rfl,vs,lT.of h1⟩
 | _=>cases e
def IA(slot:Slot "list" name id)(hty:typeOf (.builtin id)=pure (.type "method_descriptor"))(hm:WL X id<|rM X f)(ho:AE X o co)(ha:AL X (e::es) d)
  (hbase:attributeBase o name X.env (eval o X.env)=eval o X.env:=by rfl)
  (hfew:((backTo cpos<|starEach (e::es) X.env).all (λx=>!x.1) && (backToKw cpos<|keywordEach [] X.env).all (λx=>x.1.isSome)
   && decide ((e::es).length+([]:List Keyword).length+(if ([]:List Keyword).isEmpty then 0 else 1)<30))=true:=by rfl)
  (hline:(apos.endLine == cpos.line)=true:=by rfl) (hs:starEach (e::es) X.env=(false,eval e X.env)::starEach es X.env:=by rfl) (hplain:(backTo cpos<|starEach es X.env).any (·.1)=false:=by rfl) :
  AE X (.Call (.Attribute o name apos) (e::es) [] cpos) (WK f co d):=PE.imp (SJ PySem.F.plainAttrs_list slot hty hm ho ha hbase hfew hline hs hplain) λσ H Q h9=>by
 z_go;refine⟨ρ,S,τ,R,r,iO (iV h) .refl λx S1 h1 ρ1 H1 v e1 R1 v1=>?_⟩;obtain⟨xs,j,h1⟩:=iX h1;refine⟨lst?_ty R1 v1 j,ρ1,S1,τ,R1,r.ext e1,iO (iV h1) e1 λg S2 h2 ρ2 H2 vs e2 R2 v2=>?_⟩;exact⟨ρ2,S2,x,g,R2,v1.ext e2,v2,iO h2 (e1.trans e2) λ_ _ z=>z.ext<|e1.trans e2⟩
abbrev wH (o:A)(as:ae)(S:iQ):R A:=match o,as with
 | .ref n,[x]=>opt (iN S n) λxs=>gd (xs.length<sizeLine) (.ok .non<|S.set n<|.lst<|xs++[x])
 | _,_=>.no
def za:WL X "list.append" (rM X wH):=λpins s σ H x vs v us Q I rx rv h9=>by
 obtain⟨ρ,S,o,k,R,j,va,h⟩:=h9
 cases j with
 | @ref p n hp=>
  match k,va,h with
  | [],_,h=>exact h.elim
  | _::_::_,_,h=>exact h.elim
  | [y],va,h=>
   obtain⟨w,rfl,hw⟩:=RH va;gn_on;obtain⟨d,h⟩:=jm h;obtain⟨f,h1,r⟩:=R.lst hp<|i9 hn;obtain⟨ex,g⟩:=R.put hp (i9 hn)<|r.append<|.one hw;exact wX pins s σ H _ _ v us Q I rx rv ⟨p,f,w,rfl,rfl,h1,by rw[<- r.length];exact d,h _ _ _ ex g .non⟩
 | _=>exact h.elim
abbrev FT (o:A)(as:ae)(S:iQ):R A:=match o,as with
 | .ref n,[.int i]=>opt (iN S n) λxs=>gd (-(2 ^ 63)<=i/\i<2 ^ 63) (opt (seqIndex? i xs.length) λk=>opt (xs[k]?) λx=>.ok x<|S.set n<|.lst<|xs.eraseIdx k)
 | _,_=>.no
def Rj:WL X "list.pop" (rM X FT):=λpins s σ H x vs v us Q I rx rv h9=>by
 obtain⟨ρ,S,o,j,R,g,va,h⟩:=h9
 cases g with
 | @ref p n hp=>
  match j,va,h with
  | [],_,h=>exact h.elim
  | y::_::_,_,h=>exact(by cases y<;>exact h.elim)
  | [y],va,h=>
   obtain⟨w,rfl,hw⟩:=RH va
   cases hw with
   | int i=>
    gn_on;obtain⟨hi,h⟩:=jm h;obtain⟨k,q,h⟩:=iX h;obtain⟨y,hy,h⟩:=iX h;obtain⟨d,h1,r⟩:=R.lst hp<|i9 hn;obtain⟨w,hw,m⟩:=r.get hy;obtain⟨ex,f⟩:=R.put hp (i9 hn)<|r.eraseIdx k;exact N2 pins s σ H _ _ v us Q I rx rv ⟨p,d,i,k,w,rfl,rfl,h1,hi.1,hi.2,by rw[<- r.length];exact q,hw,h _ _ _ ex f<|m.ext ex⟩
   | _=>exact h.elim
 | _=>exact h.elim
end
abbrev jO (N:ar)(m:Sm)(as:ae)(S:iQ):R A:=match m (as++List.replicate (N.length-as.length) .unb) S with
 | .rt a d=>.ok a d
 | .nx _ d=>.ok .non d
 | .ex c d=>.ex c d
 | _=>.no
abbrev qe (K:au)(n:Nat)(F:ae->iQ->R A):Sp:=λvs H Q _=>vs.length=n/\∃ρ S f a d,Rel K ρ H S/\AVs K ρ H f vs/\F f S=.ok a d/\∀ρ' H' v,Ext ρ ρ' H H'->Rel K ρ' H' d->AV K ρ' H' a v->Q v H'
def R0{K:au}{H:Hp}{as:ae}(r:AVs K ρ H as vs)(N:ar):SR K ρ H (as++List.replicate (N.length-as.length) .unb) (L2.start N vs):=by
 have d:=r.length;refine⟨by unfold L2.start;simp[d],λi a h=>?_⟩;by_cases hi:i<as.length
 ·rw[bB hi]at h;obtain⟨v,hv,f⟩:=r.get h;exact .inr ⟨v,by unfold L2.start;rw[bB<|by simp;lia,bh,hv];rfl,f⟩
 ·rw[cM (),f6]at h;split at h
  ·exact .inl (aU h).symm
  ·cases h
section
variable {P:aj}{w:ah}{K:au}{mg:Str->bd}{base:aq}
def tu{x:Str}{st:aF}{f:ak}{N ps:ar}{k:Nat}{m:Sm}(F:Fun K x qual st f fd)(Sc:FnScope N ps<|iY st)
  (body:∀(cdv:af) (A:aA) (outer:List Env) (s:aC) (H:Hp) (E:XK),Room k (A.deeper<|envOfC qual (iY st) s.heap.objs.size f cdv)->Qx (Fo oW P w K mg base N qual (iY st) f cdv A outer s H E).XM (qm st) m) :
  FnOk P w K mg base oW (k+1) f fd ps (qe K ps.length<|jO N m):=by
 refine F.ok Sc (λvs H Q E h=>h.1) λcdv B outer s H vs Q E z ⟨G,ρ,S,j,a,J,R,va,d,q⟩=>⟨_,body cdv B outer s H E z,ρ,S,_,R,R0 va N,?_⟩;unfold jO at d
 cases g:m (j++List.replicate (N.length-j.length) .unb) S with
 | rt b S2=>rw[g]at d;cases d;exact q
 | nx τ S2=>rw[g]at d;cases d;exact λρ' H' p e C _=>q ρ' H' _ e C .non
 | bk τ S2=>rw[g]at d;cases d
 | ct τ S2=>rw[g]at d;cases d
 | ex c S2=>rw[g]at d;cases d
 | no=>rw[g]at d;cases d
end
meta abbrev nK (P:aj)(w:ah)(K:au)(mg:Str->bd)(base:aq)(k:Nat)(x:Str)(ps:ar)(F:ae->iQ->R A):Prop:=Kn P w K mg base k x ps<|qe K ps.length F
abbrev eFn (F:ae->iQ->R A)(d:se):Ex:=λτ S=>(d τ S).bind λf S1=>match F f S1 with
 | .ok a S2=>.ok a S2
 | _=>.no
section
variable {X:Cx}{pos p:Pos}{e:aE}{es:List aE}{x:Str}{ps:ar}{k:Nat}{F:ae->iQ->R A}{d:se}
def qu(G:nK X.prog X.w X.K X.mg X.base k x ps F)(hr:Room k X.A)(ha:AL X (e::es) d)(hl:∀τ S as S',d τ S=.ok as S'->as.length=ps.length)(hg:Gl X x:=by rfl)(hdb:(x == ("__debug__" : Str))=false:=by decide)
  (hs:starEach (e::es) X.env=(false,eval e X.env)::starEach es X.env:=by rfl) (hplain:(backTo pos<|starEach es X.env).any (·.1)=false:=by rfl):AE X (.Call (.Name x p) (e::es) [] pos) (eFn F d):=
 PE.imp (Yl G hr ha hg hdb hs hplain) λσ H Q h9=>by
  z_go;refine⟨ρ,S,τ,R,r,?_⟩;have f:=iV h
  cases g:d τ S with
  | no=>rw[g]at f;exact f
  | ex c S1=>rw[g]at f;exact f
  | ok as S1=>
   rw[g]at f;intro ρ1 H1 vs e1 R1 v1;rw[cJ];refine⟨by rw[<- v1.length];exact hl τ S as S1 g,ρ1,S1,as,?_⟩;have f:Am.R.post (match F as S1 with
    | .ok a S2=>.ok a S2
    | _=>.no) (yi X ρ H Q) (XE X ρ H):=f
   cases j:F as S1 with
   | ok a S2=>rw[j]at f;exact⟨a,S2,R1,v1,rfl,λρ2 H2 v e2=>f ρ2 H2 v<|e1.trans e2⟩
   | ex c S2=>rw[j]at f;exact f.elim
   | no=>rw[j]at f;exact f.elim
def k_:∀τ S as S',iW τ S=.ok as S'->as.length=0:=λτ S as S' h=>by cases h;rfl
def jd{c:Ex}{d:se}{n:Nat}(h:∀τ S as S',d τ S=.ok as S'->as.length=n):∀τ S as S',iL c d τ S=.ok as S'->as.length=n+1:=λτ S as S' e=>by
 unfold iL at e
 cases hc:c τ S with
 | ok a S1=>
  rw[hc]at e
  cases f:d τ S1 with
  | ok bs S2=>
   have e:R.bind (d τ S1) (λas S2=>.ok (a::as) S2)=.ok as S':=e;rw[f]at e;cases e;rw[bq,h τ S1 bs _ f]
  | ex _ _=>
   have e:R.bind (d τ S1) (λas S2=>.ok (a::as) S2)=.ok as S':=e;rw[f]at e;cases e
  | no=>
   have e:R.bind (d τ S1) (λas S2=>.ok (a::as) S2)=.ok as S':=e;rw[f]at e;cases e
 | ex _ _=>rw[hc]at e;cases e
 | no=>rw[hc]at e;cases e
end
section
variable {X:Cx}{pos:Pos}{a b c:aE}
abbrev kCh (f':A->A->iQ->R A)(cc:Ex)(τ:ae)(b k:A)(S:iQ):R A:=match k with
 | .bl true=>(cc τ S).bind λc d=>f' b c d
 | .bl false=>.ok (.bl false) S
 | _=>.no
abbrev O0 (f f':A->A->iQ->R A)(ca cb cc:Ex):Ex:=λτ S=>(ca τ S).bind λa S1=>(cb τ S1).bind λb S2=>(f a b S2).bind λk S3=>kCh f' cc τ b k S3
def NW{f f':A->A->iQ->R A}{ca cb cc:Ex}{H:Hp}{Q:VK}(h:tE X (O0 f f' ca cb cc) σ H Q):F3 (r2 X f) (r2 X f') (tE X ca) (tE X cb) (tE X cc) σ H Q:=by
 kln_w;refine⟨ρ,S,τ,R,r,iO (iV h) .refl λa S1 h1 ρ1 H1 x e1 R1 v1=>⟨ρ1,S1,τ,R1,r.ext e1,iO (iV h1) e1 λb S2 h2 ρ2 H2 y e2 R2 v2=>?_⟩⟩;have g:=e1.trans e2;refine⟨ρ2,S2,a,b,R2,v1.ext e2,v2,iO (iV h2) g λk S3 h3 ρ3 H3 z e3 R3 G=>?_⟩;have d:=g.trans e3
 cases k with
 | bl k=>
  cases Bk G
  refine⟨k,rfl,?_⟩
  cases k with
  | true=>
   rw[aL rfl];exact⟨ρ3,S3,τ,R3,r.ext d,iO (iV h3) d λc F C m J w j B p=>⟨m,F,b,c,B,v2.ext<|e3.trans j,p,iO C (d.trans j) λ_ _ q=>q.ext<|d.trans j⟩⟩
  | false=>
   rw[aK bK];exact h3 ρ3 H3 _ d R3<|.bl false
 | _=>exact h3.elim
def WU{f f':A->A->iQ->R A}{ca cb cc:Ex}(ho:nj X (compareOp op)<|r2 X f)(ho':nj X (compareOp op')<|r2 X f')(ha:AE X a ca)(hb:AE X b cb)(hc:AE X c cc)(hm:lastMarks [op,op'] [b,c]=false:=by with_unfolding_all rfl) :
  AE X (.Compare a [op,op'] [b,c] pos) (O0 f f' ca cb cc):=PE.imp (Nr ho ho' ha hb hc hm) λ_ _ _ h=>NW h
def Xu{f f':A->A->iQ->R A}{ca cb cc:Ex}(ho:nj X (compareOp op)<|r2 X f)(ho':nj X (compareOp op')<|r2 X f')(ha:AE X a ca)(hb:AE X b cb)(hc:AE X c cc)(hm:lastMarks [op,op'] [b,c]=false:=by with_unfolding_all rfl) :
  AT X (.Compare a [op,op'] [b,c] pos) (ni<|O0 f f' ca cb cc):=PT.imp (L7 ho ho' ha hb hc hm) λσ H Q h9=>by
 z_go;refine NW ⟨ρ,S,τ,R,r,iO (iV h) .refl λc S1 h1 ρ1 H1 x e1 R1 v1=>?_⟩
 cases c with
 | bl k=>cases Bk v1;exact⟨k,rfl,h1 ρ1 H1 e1 R1⟩
 | _=>exact h1.elim
abbrev Xb (S:iQ)(x:A):ae->bj
 | []=>some false
 | z::zs=>(wW S 12 z x).bind λp=>(Xb S x zs).map λq=>p || q
abbrev Y6 (neg:Bool)(x y:A)(S:iQ):R A:=opt (y.seq S) λys=>opt (Xb S x ys) λb=>.ok (.bl<|if neg then !b else b) S
def Js{H:Hp}{x:A}{v:af}(I:Inv X pins σ H s)(R:Rel X.K ρ H S)(hu:X.A.units+64<cLine)(hx:AV X.K ρ H x vx)(rx:RelV vx v) :
  ∀{ys:ae} {us:List V} {its:ba} {b:Bool},AVs X.K ρ H ys us->Vals us its->Xb S x ys=some b->∃e:af->Bool,(∀w∈its,SeqAt.EqAt X.A.in1 s w v<|e w)/\its.any e=b:=by
 intro ys
 induction ys with
 | nil=>
  intro us its b h1 h2 h
  cases h1
  cases h2
  exact⟨λ_=>false,(λw hw=>by cases hw),aU h⟩
 | cons z zs j=>
  intro us its b h1 h2 h
  cases h1 with
  | cons hz B=>
   rename_i u us
   cases h2 with
   | cons r F=>
    rename_i f its
    classical
    obtain⟨p,hp,h⟩:=bX.mp h;obtain⟨q,hq,h⟩:=a_.mp h;obtain⟨e,g,m⟩:=j B F hq;have h0:=(HQ I R 12 X.A.in1 z x u vx f v p (by rw[in1_units];omega) hz hx r rx hp).2.1;subst h
    cases p with
    | true=>
     refine⟨λw=>if w=f then true else e w,λw hw=>?_,?_⟩
     ·by_cases d:w=f
      ·dsimp[d,cN];exact h0
      ·dsimp[d,bZ]
       rcases bE.mp hw with z|z
       ·exact absurd z d
       ·exact g w z
     ·simp
    | false=>
     by_cases k:f∈its
     ·refine⟨e,λw hw=>?_,?_⟩
      ·rcases bE.mp hw with z|z
       ·rw[z];exact g f k
       ·exact g w z
      ·rw[fj,m,gG]
       cases q with
       | true=>simp
       | false=>
        have:=List.any_eq_false.mp m f k;simpa using this
     ·refine⟨λw=>if w=f then false else e w,λw hw=>?_,?_⟩
      ·by_cases d:w=f
       ·dsimp[d,cN];exact h0
       ·dsimp[d,bZ]
        rcases bE.mp hw with z|z
        ·exact absurd z d
        ·exact g w z
      ·rw[fj,<- m];dsimp[cN,gG];have:∀l:ba,(∀w∈l,w≠f)->l.any (λw=>if w=f then false else e w)=l.any e:=λl C=>by
        induction l with
        | nil=>rfl
        | cons c l j=>rw[fj,fj,j λw hw=>C w<|aO _ hw,aK<|C c<|aM ..]
       exact this its λw hw z=>k<|z ▸ hw
def YV(hu:X.A.units+64<cLine):nj X (compareOp .In) (r2 X<|Y6 false):=λpins s σ H x y v u Q I rx ry h9=>by
 x_go;obtain⟨ys,hy,h⟩:=iX h;obtain⟨k,g,h⟩:=iX h;obtain⟨p,us,rfl,hs,r⟩:=OQ R vb hy
 cases ry
 rcases hs with hs|hs
 ·obtain⟨its,rv,pl,hz⟩:=I.list hs;obtain⟨e,d,f⟩:=Js I R hu va rx r rv g;refine SeqAt.in_listAt e pl.isList (λw hw=>d w<|by simpa using hw) ⟨.bl _,H,I,rfl,?_⟩;rw[show its.toArray.any e=its.any e by simp,f];exact h _ _ _ .refl R (.bl _)
 ·obtain⟨its,rv,pl,hz⟩:=I.tuple hs;obtain⟨e,d,f⟩:=Js I R hu va rx r rv g;refine SeqAt.in_tupleAt e pl (λw hw=>d w<|by simpa using hw) ⟨.bl _,H,I,rfl,?_⟩;rw[show its.toArray.any e=its.any e by simp,f];exact h _ _ _ .refl R<|.bl _
end
section
variable {X:Cx}
abbrev Wa (x:A)(S:iQ):R A:=match x with
 | .ref n=>opt (iN S n) λxs=>opt (A.ints xs) λd=>.ok (.int d.sum) S
 | _=>.no
def XH(hc:X.calm=true):jo X (.builtin "sum") (rN X<|f1 Wa):=jo.imp (Kf hc) λvs H Q h0=>by
 kd_p;clear h0
 cases hv with
 | @ref p n hp=>
  gn_on;obtain⟨f,d,h⟩:=iX h;cb_eq;rw[uK r d]at h1;exact⟨p,f,rfl,lT.of h1,h _ _ _ .refl R<|.int _⟩
 | _=>exact h.elim
end
abbrev Yq (S:iQ)(n:Nat):Option (List<|ag×A):=match S[n]? with
 | some (.dct xs)=>some xs
 | _=>none
section
variable {X:Cx}{pos:Pos}{a b:aE}
abbrev Bv (n m k:Nat):Src:=⟨k,λi S=>(iN S n).bind λxs=>(iN S m).bind λys=>(xs[i]?).bind λx=>(ys[i]?).map λy=>.tup [x,y],λS=>match iN S n,iN S m with
 | some xs,some ys=>decide (xs.length<=k) || decide (ys.length<=k)
 | _,_=>false⟩
abbrev Z_ (a b:A)(S:iQ):R Src:=match a,b with
 | .ref n,.ref m=>opt (iN S n) λxs=>opt (iN S m) λys=>.ok (Bv n m<|min xs.length ys.length) S
 | _,_=>.no
abbrev IE (c d:Ex):Ic:=λτ S=>(c τ S).bind λa S1=>(d τ S1).bind λb S2=>Z_ a b S2
def VZ{K:au}{ρ0:bb}{H0:Hp}{p q:ak}{n m k:Nat}(hp:ρ0[n]?=some p)(hq:ρ0[m]?=some q):JR K (Bv n m k) (Z1 K p q) ρ0 H0 where
 go:=λi S H ρ x e R g=>by
  obtain⟨xs,hn,g⟩:=bX.mp g;obtain⟨ys,d,g⟩:=bX.mp g;obtain⟨N,M,g⟩:=bX.mp g;obtain⟨O,hy,rfl⟩:=a_.mp g;obtain⟨vs,h1,r1⟩:=R.lst (e.get hp)<|i9 hn;obtain⟨f,h2,r2⟩:=R.lst (e.get hq)<|i9 d;obtain⟨v,C,L⟩:=r1.get M;obtain⟨w,B,F⟩:=r2.get hy;refine⟨⟨vs,f,v,w,lT.of h1,lT.of h2,C,B⟩,λu H' z=>?_⟩;obtain⟨T,G,rfl,hz⟩:=z;have j:=hz vs f v w (lT.of h1) (lT.of h2) C B;subst j;obtain⟨ex,J⟩:=R.im (u:=.tup [v,w]) G;exact⟨ex,J,.tup jT<|.cons (L.ext ex)<|.cons (F.ext ex) .nil⟩
 stop:=λS H ρ e R hf=>by
  have hf:(match iN S n,iN S m with
   | some xs,some ys=>decide (xs.length<=k) || decide (ys.length<=k)
   | _,_=>false)=true:=hf
  cases hn:iN S n with
  | none=>rw[hn]at hf;cases hf
  | some xs=>
   cases d:iN S m with
   | none=>rw[hn,d]at hf;cases hf
   | some ys=>
    rw[hn,d]at hf;obtain⟨vs,h1,r1⟩:=R.lst (e.get hp)<|i9 hn;obtain⟨f,h2,r2⟩:=R.lst (e.get hq)<|i9 d;refine⟨vs,f,lT.of h1,lT.of h2,?_⟩;rw[dZ,dZ,<- r1.length,<- r2.length];have hf:(decide (xs.length<=k) || decide (ys.length<=k))=true:=hf;rw[iE,dJ,dJ]at hf;exact hf
def Ux{p:Pos}{c d:Ex}(hm:X.mg "zip" = none)(ha:AE X a c)(hb:AE X b d)(hg:Gl X "zip" := by rfl)(hs:starEach [a,b] X.env=(false,eval a X.env)::starEach [b] X.env:=by rfl)(hs2:starEach [b] X.env=[(false,eval b X.env)]:=by rfl)(hpl:(backTo pos<|starEach [b] X.env).any (·.1)=false:=by rfl) :
  AI X (.Tuple elts x1 tpos) (.Call (.Name "zip" p) [a,b] [] pos) (IE c d):=λpins s σ H Q I h9=>by
 z_go;refine VY hg hm (oh ha (oh hb xG hs2) hs) hs hpl pins s σ H Q I ⟨ρ,S,τ,R,r,iO (iV h) .refl λx S1 h1 ρ1 H1 v e1 R1 v1=>⟨ρ1,S1,τ,R1,r.ext e1,iO (iV h1) e1 λy S2 h2 ρ2 H2 w e2 R2 v2=>?_⟩⟩;have g:=v1.ext e2
 cases g with
 | @ref p n hp=>
  cases v2 with
  | @ref q m hq=>
   obtain⟨xs,hn,h2⟩:=iX h2;obtain⟨ys,f,h2⟩:=iX h2;obtain⟨vs,k,r1⟩:=R2.lst hp<|i9 hn;obtain⟨j,g2,r2⟩:=R2.lst hq<|i9 f;exact⟨_,_,vs,j,rfl,lT.of k,lT.of g2,h2 ρ2 H2 _ (e1.trans e2) R2<|VZ hp hq⟩
  | _=>exact h2.elim
 | _=>exact h2.elim
def Nm{c d:Ex}{n:Nat}{xs ys:ae}(h1:c τ S=.ok (.ref n) S1)(h2:d τ S1=.ok (.ref m) S2)(hn:iN S2 n=some xs)(hm:iN S2 m=some ys):IE c d τ S=.ok (Bv n m<|min xs.length ys.length) S2:=by
 unfold IE;rw[h1];show(d τ S1).bind _=_;rw[h2];show opt (iN S2 n) _=_;rw[hn]
 skip
 rw[hm];rfl
end
abbrev qE (s:Src)(g:Tg)(t:Te)(e:Ex):Nat->Nat->ae->iQ->R (ae×ae)
 | 0,_=>λτ S=>if s.fin S then .ok ([],τ) S else .no
 | k+1,i=>λτ S=>opt (s.get i S) λx=>(g x τ S).mY λd S1=>(t d S1).mY λb S2=>match b with
  | true=>(e d S2).mY λy S3=>(qE s g t e k (i+1) d S3).mY λp f=>.ok (y::p.1,p.2) f
  | false=>qE s g t e k (i+1) d S2
abbrev pD (s:Src)(g:Tg)(t:Te)(src2:Ic)(g2:Tg)(t2:Te)(e:Ex):Nat->Nat->ae->iQ->R (ae)
 | 0,_=>λ_ S=>if s.fin S then .ok [] S else .no
 | k+1,i=>λτ S=>opt (s.get i S) λx=>(g x τ S).mY λd S1=>(t d S1).mY λb S2=>match b with
  | true=>(src2 d S2).mY λf S3=>(qE f g2 t2 e f.k 0 d S3).mY λp j=>(pD s g t src2 g2 t2 e k (i+1) p.2 j).mY λys m=>.ok (p.1++ys) m
  | false=>pD s g t src2 g2 t2 e k (i+1) d S2
abbrev F_ (cap:List<|bn)(src:Ic)(g:Tg)(t:Te)(src2:Ic)(g2:Tg)(t2:Te)(e:Ex):Ex:=λτ S=>(src τ S).bind λs S1=>(pD s g t src2 g2 t2 e s.k 0 (l9 cap τ) S1).mY λys S2=>newL ys S2
def EC{s:Src}{g:Tg}{t:Te}{e:Ex}{k:Nat}{T:Prop}(h:qE s g t e (k+1) i τ S=.ok (zs,τ') S')
  (q:∀x τ1 S1 b S2,s.get i S=some x->g x τ S=.ok τ1 S1->t τ1 S1=.ok b S2->(b=true->∃y S3 ws,e τ1 S2=.ok y S3/\qE s g t e k (i+1) τ1 S3=.ok (ws,τ') S'/\zs=y::ws)->(b=false->qE s g t e k (i+1) τ1 S2=.ok (zs,τ') S')->T):T:=by
 obtain⟨x,m,h⟩:=Fj h;obtain⟨τ1,S1,h1,h⟩:=kG h;obtain⟨b,S2,h2,h⟩:=kG h;refine q x τ1 S1 b S2 m h1 h2 (λd=>?_) λd=>?_
 ·subst d;obtain⟨y,S3,h3,h⟩:=kG h;obtain⟨⟨ws,f⟩,p,j,h⟩:=kG h
  cases h
  exact⟨y,S3,ws,h3,j,rfl⟩
 ·subst d;exact h
def B6{s:Src}{g:Tg}{t:Te}{src2:Ic}{g2:Tg}{t2:Te}{e:Ex}{k:Nat}{T:Prop}(h:pD s g t src2 g2 t2 e (k+1) i τ S=.ok zs S')
  (q:∀x τ1 S1 b S2,s.get i S=some x->g x τ S=.ok τ1 S1->t τ1 S1=.ok b S2->(b=true->∃s2 S3 ps τ2 S4 ws,src2 τ1 S2=.ok s2 S3/\qE s2 g2 t2 e s2.k 0 τ1 S3=.ok (ps,τ2) S4/\pD s g t src2 g2 t2 e k (i+1) τ2 S4=.ok ws S'/\zs=ps++ws)->(b=false->pD s g t src2 g2 t2 e k (i+1) τ1 S2=.ok zs S')->T):T:=by
 obtain⟨x,m,h⟩:=Fj h;obtain⟨τ1,S1,h1,h⟩:=kG h;obtain⟨b,S2,h2,h⟩:=kG h;refine q x τ1 S1 b S2 m h1 h2 (λd=>?_) λd=>?_
 ·subst d;obtain⟨s2,S3,h3,h⟩:=kG h;obtain⟨⟨ps,τ2⟩,S4,j,h⟩:=kG h;obtain⟨ws,p,f,h⟩:=kG h
  cases h
  exact⟨s2,S3,ps,τ2,S4,ws,h3,j,f,rfl⟩
 ·subst d;exact h
abbrev tI0 (K:au)(c:Ic):TI:=λσ H Q=>∃ρ S τ s d,Rel K ρ H S/\SR K ρ H τ σ/\c τ S=.ok s d/\∀ρ' H' J,Ext ρ ρ' H H'->Rel K ρ' H' d->JR K s J ρ' H'->Q J H'
section
variable {X:Cx}{pos:Pos}{tg iter tg2 iter2 elt e:aE}{ifs ifs2:List aE}{scope:Scope}{N:ar}{cap:List (bn)}{src src2:Ic}{g g2:Tg}{t t2:Te}{c:Ex}
def AI.i0{K:au}(hK:X.K=K)(h:AI X tg e src):PI X tg e (tI0 K src):=λpins s σ H Q I ⟨ρ,S,τ,a,g,R,r,hc,q⟩=>h pins s σ H Q I ⟨ρ,S,τ,by rw[hK];exact R,by rw[hK];exact r,by rw[hc];exact λρ' H' J e d f=>q ρ' H' J e (by rw[<- hK];exact d)<|by rw[<- hK];exact f⟩
def NV(hc:X.calm=true)(Sc:CpScope X scope N cap)(hi:AI X tg iter src)(hg:∀C s₀ H₀ ex,AG (j4 X scope N C s₀ H₀ ex) tg g)(ht:∀C s₀ H₀ ex,WI (j4 X scope N C s₀ H₀ ex) ifs t)(hi2:∀C s₀ H₀ ex,AI (j4 X scope N C s₀ H₀ ex) tg2 iter2 src2)
  (hg2:∀C s₀ H₀ ex,AG (j4 X scope N C s₀ H₀ ex) tg2 g2) (ht2:∀C s₀ H₀ ex,WI (j4 X scope N C s₀ H₀ ex) ifs2 t2) (he:∀C s₀ H₀ ex,AE (j4 X scope N C s₀ H₀ ex) elt c)
  (hs:∀x,foldedSetIterable iter X.env x=pure x:=by intro _;rfl) (hs2:∀env x,foldedSetIterable iter2 env x=pure x:=by intro _ _;rfl):AE X (.ListComp elt [⟨tg,iter,ifs,0⟩,⟨tg2,iter2,ifs2,0⟩] scope pos) (F_ cap src g t src2 g2 t2 c):=by
 refine PE.imp (Vw hc Sc hi (g:=WM X.K g) (tc:=Ur X.K t) (wi2:=tI0 X.K src2) (g2:=WM X.K g2) (tc2:=Ur X.K t2) (te:=Xm X.K c) (λC s₀ H₀ ex=>(hg C s₀ H₀ ex).g0 rfl) (λC s₀ H₀ ex=>ht C s₀ H₀ ex) (λC s₀ H₀ ex=>(hi2 C s₀ H₀ ex).i0 rfl) (λC s₀ H₀ ex=>(hg2 C s₀ H₀ ex).g0 rfl) (λC s₀ H₀ ex=>ht2 C s₀ H₀ ex) (λC s₀ H₀ ex=>(he C s₀ H₀ ex).e0 rfl) hs hs2) λσ H Q h9=>?_;z_go;refine⟨ρ,S,τ,R,r,iO (iV h) .refl λs S1 h1 ρ1 H1 J e1 R1 jr D hD=>?_⟩;obtain⟨ys,S2,hcg,h1⟩:=Ae h1;obtain⟨hlen,h1⟩:=jm h1;have h1:yi X ρ H Q (.ref S2.length) (S2++[.lst ys]):=h1;obtain⟨eD,RD⟩:=R1.im (u:=.lst []) hD;refine⟨Cq X.K ρ1 H1 D ys s.k (λ_ _=>True) λm i τ S zs=>pD s g t src2 g2 t2 c m i τ S=.ok zs S2,⟨s.k,.of rfl ⟨eD.toExt0,λa u na hu _=>by rw[iZ na];exact hu,λa ha=>.inl ha,R1.IU hD,jT⟩ trivial RD (SW ((r.ext e1).ext eD) cap) .nil hcg rfl⟩,?_⟩;intro i m σ3 H3 hw;refine hw.el λρ3 S3 τ3 acc zs accV hm o3 _ R3 r3 W j q=>?_;clear hw
 cases m with
 | zero=>
  left;have j:(if s.fin S3 then Am.R.ok [] S3 else .no)=.ok zs S2:=j
  cases hf:s.fin S3 with
  | false=>rw[hf]at j;cases j
  | true=>
   rw[hf]at j
   cases j
   rw[cJ]at q;subst q;refine⟨by rw[show i=s.k by lia];exact jr.stop _ H3 ρ3 o3.e0 R3 hf,?_⟩;obtain⟨RT,gt⟩:=R3.take o3.hD o3.nD W;exact h1 (ρ3++[D]) H3 _ (e1.trans<|o3.end hD) RT<|.ref gt
 | succ m=>
  right;refine B6 j λx Z S4 b S5 hx hg4 ht5 hT hF=>?_;have jg:=jr.go i S3 H3 ρ3 x o3.e0 R3 hx;refine⟨jg.1,λv H4 y=>?_⟩;obtain⟨e4,R4,v4⟩:=jg.2 v H4 y;refine⟨ρ3,S3,τ3,x,Z,S4,R4,r3.ext e4,v4,hg4,λρ5 H5 σ5 e5 R5 r5=>⟨ρ5,S4,Z,b,S5,R5,r5,ht5,λρ6 H6 e6 R6=>?_⟩⟩;have e36:=(e4.trans e5).trans e6
  cases b with
  | false=>
   dsimp only;rw[aK bK];exact⟨m,cZ _,.of () (o3.stay hD e36) trivial R6 (r5.ext e6) (W.ext e36) (hF rfl) q⟩
  | true=>
   dsimp only;rw[aL rfl];obtain⟨Y,S6,ps,τ7,S7,ws,hs6,ci7,co7,ezs⟩:=hT rfl;refine⟨ρ6,S5,Z,Y,S6,R6,r5.ext e6,hs6,λρ8 H8 J2 e8 R8 jr2=>?_⟩;have e38:=e36.trans e8;refine⟨Cq X.K ρ1 H1 D (acc++ps) Y.k (λρ' H'=>Ext0 ρ8 ρ' H8 H') λm i τ S qs=>qE Y g2 t2 c m i τ S=.ok (qs,τ7) S7,⟨Y.k,.of rfl (o3.stay hD e38) ⟨dS _,λ_ _ _ h=>h⟩ R8 (r5.ext<|e6.trans e8) (W.ext e38) ci7 rfl⟩,?_⟩;intro i2 m2 σ9 H9 hw;refine hw.el λρ9 S9 τ9 acc9 qs L hm2 o9 P R9 r9 T f G=>?_;clear hw
   cases m2 with
   | zero=>
    left;have f:(if Y.fin S9 then Am.R.ok ([],τ9) S9 else .no)=.ok (qs,τ7) S7:=f
    cases hf:Y.fin S9 with
    | false=>rw[hf]at f;cases f
    | true=>
     rw[hf]at f
     cases f
     rw[cJ]at G;subst G;exact⟨by rw[show i2=Y.k by lia];exact jr2.stop _ H9 ρ9 P R9 hf,m,cZ _,.of () o9 trivial R9 r9 T co7<|by rw[bD,<- ezs,q]⟩
   | succ m2=>
    right;refine EC f λx9 B S10 b10 S11 hx9 hg10 ht11 hT9 hF9=>?_;have jg2:=jr2.go i2 S9 H9 ρ9 x9 P R9 hx9;refine⟨jg2.1,λv10 H10 y10=>?_⟩;obtain⟨e10,R10,v10'⟩:=jg2.2 v10 H10 y10;refine⟨ρ9,S9,τ9,x9,B,S10,R10,r9.ext e10,v10',hg10,λρ11 H11 σ11 e11 R11 U=>⟨ρ11,S10,B,b10,S11,R11,U,ht11,λV H12 M R12=>?_⟩⟩;have d:=(e10.trans e11).trans M;have o12:=o9.stay hD d;have F:Ext0 ρ8 V H8 H12:=⟨P.pre.trans d.pre,λa u i h=>d.im a u i<|P.im a u i h⟩
    cases b10 with
    | false=>
     dsimp only;rw[aK bK];exact⟨m2,cZ _,.of () o12 F R12 (U.ext M) (T.ext d) (hF9 rfl) G⟩
    | true=>
     dsimp only;rw[aL rfl];obtain⟨y,S13,us,he13,ci13,eus⟩:=hT9 rfl;refine⟨V,S11,B,y,S13,R12,U.ext M,he13,λρ14 H14 w z R14 v14=>?_⟩;have O:=o12.stay hD z;obtain⟨p,R15⟩:=R14.out (ws:=L++[w]) O.hD O.nD;have l1:=T.length;refine⟨L,O.hD,?_,m2,cZ _,.of () (O.put p) ⟨F.pre.trans z.pre,λa u i h=>p.im a u i<|z.im a u i<|F.im a u i h⟩ R15 ((U.ext<|M.trans z).lq p) (AVs.lq p<|(T.ext<|d.trans z).append<|.one v14) ci13 ?_⟩
     ·have:((acc++ps)++ws).length<=sizeLine:=by rw[bD,<- ezs,q];exact hlen
      rw[<- G,eus,aY,aY,bq]at this
      lia
     ·rw[bD,<- G,eus];rfl
end
abbrev ZX (F:ae->iQ->R A)(d:se):Ex:=λτ S=>(d τ S).bind λf S1=>F f S1
abbrev bmV:ba:=[.type "ValueError",.type "Exception",.type "BaseException",.type "object"]
abbrev QI:List (Str ⊕ Ex)->ae->iQ->R Unit
 | [],_,S=>.ok Unit.unit S
 | .inl _::ps,τ,S=>QI ps τ S
 | .inr e::ps,τ,S=>(e τ S).bind λv S1=>match v with
  | .int i=>gd (i.natAbs.log2<64) (QI ps τ S1)
  | _=>.no
abbrev Ug (c:Str)(ps:List<|Str ⊕ Ex):Sm:=λτ S=>.of (QI ps τ S) λ_ S1=>.ex c S1
abbrev TX (i:Nat):RS->RS
 | .nx τ S=>.nx (τ.set i .unb) S
 | .bk τ S=>.bk (τ.set i .unb) S
 | .ct τ S=>.ct (τ.set i .unb) S
 | .rt a S=>.rt a S
 | _=>.no
abbrev Xd (i n:Nat)(cs:ar)(c d:Sm):Sm:=λτ S=>match c τ S with
 | .ex x S1=>if x∈cs then TX i (d ((List.replicate n .unb).set i<|.exn x) S1)else .no
 | r=>r
abbrev Zm (f:Str->bj)(c:Ex):Ex:=λτ S=>(c τ S).bind λv S1=>match v with
 | .exn x=>opt (f x) λb=>.ok (.bl b) S1
 | _=>.no
structure ExcK (K:au)(U:ak)(c:Str)(C:ak):Prop where
 n:ClN K c C
 q:PySem.W.excIn K C bmV "ValueError.__new__" = true
 r:L2.mroIn K C=some (.ref U::bmV)
 x:XCls K C
 cl:(PySem.W.clsIn K C).isSome=true
 v:PySem.W.kitOne K (.ref C) (.type "ValueError")=some true
abbrev tbX (tb:List<|Str×Bool):Str->bj:=λx=>tb.lookup x
abbrev Xl (F:ae->iQ->R A)(d:se):Ex:=λτ S=>match d τ S with
 | .ok f S1=>F f S1
 | _=>.no
section
variable {d:se}
abbrev X3 (t:Te)(c d:Sm):Sm:=λτ S=>match t τ S with
 | .ok true S1=>c τ S1
 | .ok false S1=>d τ S1
 | _=>.no
end
abbrev SI (i:Nat)(cs:ar)(c d:Sm):Sm:=λτ S=>match c τ S with
 | .ex x S1=>if x∈cs then TX i (d (τ.set i<|.exn x) S1)else .no
 | r=>r
abbrev YI:Sm:=λ_ _=>.no
def OZ{X:Cx}{st:aF}:AS X st YI:=PS.imp Nk λD σ H ⟨ρ,S,τ,R,r,h⟩=>h.elim
def J_{K:au}{H:Hp}{a:ak}{ns:ag}{F:ae->iQ->R A}(hO:RJ H)(hS:lT K H a<|ns.map V.int)(h:∃S',F [.frz<|ns.map .int] []=.ok (.bl true) S'):qe K 1 F [.ref a] H (λv _=>v=.bl true) λ_ _ _=>False:=by
 obtain⟨S',h⟩:=h;have fz:Fz K H a (ns.map V.int):=by
  rcases hS with(h|⟨o,h⟩)|h
  ·rcases hO a with z|⟨d,xs,z⟩
   ·rw[h]at z;cases z
   ·rw[h]at z;cases z
  ·exact .inl ⟨o,h⟩
  ·exact .inr h
 exact⟨rfl,[],[],_,_,S',⟨rfl,eT,λn a o h=>by simp at h⟩,.cons (.frz fz<|rL ns) .nil,h,λρ' H' v _ _ hv=>Bk hv⟩
section
variable {P:aj}{w:ah}{K:au}{mg:Str->bd}{base:aq}{f:ak}{fd:FuncData}{ps:ar}{k n:Nat}
def Vj(h:n=ps.length):FnOk P w K mg base oW k f fd ps (qe K n λ_ _=>.no):=
 ⟨λ_ _ _ _ z=>z.1.trans h,λ_ _ _ _ _ _ _ _ _ _ _ _ _ z=>by obtain⟨_,_,_,_,_,_,_,_,e,_⟩:=z;cases e⟩
end
def PU{P:ba->Prop}(h:∀a0,P [a0]):∀us:ba,us.length=1->P us
 | [_],_=>h _
def C5{P:ba->Prop}(h:∀a0 a1,P [a0,a1]):∀us:ba,us.length=2->P us
 | [_,_],_=>h _ _
def D3{n:Nat}{us:ba}(h:us.length=n+1):∃a t,us=a::t/\t.length=n:=by
 cases us with
 | nil=>simp at h
 | cons a t=>exact⟨a,t,rfl,by simpa using h⟩
def UT{P:ba->Prop}(h:∀a0 a1 a2,P [a0,a1,a2]):∀us:ba,us.length=3->P us:=λus e=>by
 obtain⟨a0,t0,rfl,e0⟩:=D3 e;obtain⟨a1,d,rfl,e1⟩:=D3 e0;obtain⟨a2,t2,rfl,e2⟩:=D3 e1
 cases eO.mp e2
 exact h _ _ _
def us5{P:ba->Prop}(h:∀a0 a1 a2 a3 a4,P [a0,a1,a2,a3,a4]):∀us:ba,us.length=5->P us:=λus e=>by
 obtain⟨a0,t0,rfl,e0⟩:=D3 e;obtain⟨a1,j,rfl,e1⟩:=D3 e0;obtain⟨a2,t2,rfl,e2⟩:=D3 e1;obtain⟨a3,g,rfl,e3⟩:=D3 e2;obtain⟨a4,f,rfl,d⟩:=D3 e3
 cases eO.mp d
 exact h _ _ _ _ _
end Am
namespace Am
open PySem L2
section
variable {α β:Type}{a b:A}{S S1:iQ}{τ:ae}{x:α}
@[simp]def R.kZ {f:α->iQ->R β}:(R.ok x S).bind f=f x S:=rfl
@[simp]def R.G5 {f:α->iQ->R β}{c:Str}:(R.ex c S:R α).bind f=.ex c S:=rfl
@[simp]def R.kF {f:α->iQ->R β}:(R.ok x S).mY f=f x S:=rfl
@[simp]def RS.of_ok {f:α->iQ->RS}:RS.of (R.ok x S) f=f x S:=rfl
@[simp]def RS.SK {f:α->iQ->RS}{c:Str}:RS.of (R.ex c S:R α) f=.ex c S:=rfl
@[simp]def jw {f:β->R α}{y:β}:opt (some y) f=f y:=rfl
@[simp]def IL {r:R α}:gd True r=r:=aL trivial
theorem kM{c:Prop}[Decidable c]{r:R α}(h:c):gd c r=r:=aL h
@[simp]def pC {i:Nat}:iK i τ S=bif (τ.getD i .unb).nI then .no else .ok (τ.getD i .unb) S:=by unfold iK;cases(τ.getD i .unb).nI<;>rfl
@[simp]def Iz {xs:ae}:A.nI (.tup xs)=false:=rfl
@[simp]def IM {xs:ae}:A.nI (.frz xs)=false:=rfl
@[simp]def Hy {i:Int}:A.nI (.int i)=false:=rfl
@[simp]def L6 {i:Bool}:A.nI (.bl i)=false:=rfl
@[simp]def Iq {i:Str}:A.nI (.str i)=false:=rfl
@[simp]def HV {i:Nat}:A.nI (.ref i)=false:=rfl
@[simp]def Jg:A.nI .non=false:=rfl
@[simp]def I0 {i j:Int}:A.nI (.rng i j)=false:=rfl
@[simp]def HA {c:Str}:A.nI (.exn c)=false:=rfl
@[simp]def Ss:eC a τ S=.ok a S:=rfl
abbrev WN (f:A->A->iQ->R A)(cb:Ex)(τ:ae)(a:A)(S:iQ):R A:=(cb τ S).bind<|f a
@[simp]def GF {f:A->A->iQ->R A}{cb:Ex}:WN f cb τ a S=(cb τ S).bind (f a):=rfl
@[simp]def GY {f:A->A->iQ->R A}{ca cb:Ex}:iR f ca cb τ S=(ca τ S).bind (WN f cb τ):=rfl
@[simp]def Lq {f:A->iQ->R A}{ca:Ex}:WQ f ca τ S=(ca τ S).bind f:=rfl
@[simp]def GJ {c:Ex}:CO c τ S=(c τ S).bind λa S1=>opt (a.X6 S1) λb=>.ok b S1:=rfl
abbrev aB (a:A)(S:iQ):R Bool:=match a with
 | .bl b=>.ok b S
 | _=>.no
@[simp]def IY {b:Bool}:aB (.bl b) S=.ok b S:=rfl
@[simp]def Fe {c:Ex}:ni c τ S=(c τ S).bind aB:=rfl
@[simp]def Jv {c:Te}:Dr c τ S=(c τ S).bind λb S1=>.ok (!b) S1:=rfl
abbrev Vr (d:Te)(τ:ae)(b:Bool)(S:iQ):R Bool:=match b with|true=>d τ S|false=>.ok false S
abbrev Z7 (d:Te)(τ:ae)(b:Bool)(S:iQ):R Bool:=match b with|true=>.ok true S|false=>d τ S
@[simp]def K2 {d:Te}:Vr d τ true S=d τ S:=rfl
@[simp]def LO {d:Te}:Vr d τ false S=.ok false S:=rfl
@[simp]def Tu {d:Te}:Z7 d τ true S=.ok true S:=rfl
@[simp]def Sl {d:Te}:Z7 d τ false S=d τ S:=rfl
@[simp]def Ji {c d:Te}:Cr c d τ S=(c τ S).bind (Vr d τ):=rfl
@[simp]def NP {c d:Te}:PN c d τ S=(c τ S).bind (Z7 d τ):=rfl
@[simp]def HG:uY τ S=.ok true S:=rfl
abbrev NK (d:Ex)(τ:ae)(a:A)(S:iQ):R A:=match a with | .bl true=>d τ S | .bl false=>.ok (.bl false) S|_=>.no
abbrev UW (d:Ex)(τ:ae)(a:A)(S:iQ):R A:=match a with | .bl true=>.ok (.bl true) S | .bl false=>d τ S|_=>.no
@[simp]def JD {d:Ex}:NK d τ (.bl true) S=d τ S:=rfl
@[simp]def IF {d:Ex}:NK d τ (.bl false) S=.ok (.bl false) S:=rfl
@[simp]def LP {d:Ex}:UW d τ (.bl true) S=.ok (.bl true) S:=rfl
@[simp]def Pk {d:Ex}:UW d τ (.bl false) S=d τ S:=rfl
@[simp]def Gw {c d:Ex}:L1 c d τ S=(c τ S).bind (NK d τ):=by
 unfold L1
 cases c τ S with
 | ok a S1=>cases a<;>first|rfl|(rename_i b;cases b<;>rfl)
 | _=>rfl
@[simp]def O1 {c d:Ex}:eOr c d τ S=(c τ S).bind (UW d τ):=by
 unfold eOr
 cases c τ S with
 | ok a S1=>cases a<;>first|rfl|(rename_i b;cases b<;>rfl)
 | _=>rfl
abbrev SD (a:A)(S:iQ):R A:=match a with | .bl b=>.ok (.bl !b) S|_=>.no
@[simp]def EK {b:Bool}:SD (.bl b) S=.ok (.bl !b) S:=rfl
@[simp]def GU {c:Ex}:Ud c τ S=(c τ S).bind SD:=rfl
abbrev VS (c d:Ex)(τ:ae)(b:Bool)(S:iQ):R A:=match b with|true=>c τ S|false=>d τ S
@[simp]def OF {c d:Ex}:VS c d τ true S=c τ S:=rfl
@[simp]def MU {c d:Ex}:VS c d τ false S=d τ S:=rfl
@[simp]def Li {t:Te}{c d:Ex}:eIf t c d τ S=(t τ S).bind (VS c d τ):=rfl
@[simp]def Ho:iW τ S=.ok [] S:=rfl
abbrev FI (a:A)(as:ae)(S:iQ):R (ae):=.ok (a::as) S
abbrev SA (d:se)(τ:ae)(a:A)(S:iQ):R (ae):=(d τ S).bind<|FI a
@[simp]def BD {as:ae}:FI a as S=.ok (a::as) S:=rfl
@[simp]def Dm {d:se}:SA d τ a S=(d τ S).bind (FI a):=rfl
@[simp]def Dt {c:Ex}{d:se}:iL c d τ S=(c τ S).bind (SA d τ):=rfl
@[simp]def Ie {d:se}:oU d τ S=(d τ S).bind λas S1=>gd (as.length<=sizeLine) (.ok (.tup as) S1):=rfl
@[simp]def Gs {d:se}:rP d τ S=(d τ S).bind newL:=rfl
theorem ko{as:ae}(h:as.length<=16777216):newL as S=.ok (.ref S.length) (S++[.lst as]):=kM<|by rw[cR];exact h
@[simp]def Eo {f:ae->iQ->R A}{d:se}:jc f d τ S=(d τ S).bind f:=rfl
abbrev Zo (r:R A):R A:=match r with
 | .ok a S=>.ok a S
 | _=>.no
@[simp]def O5:Zo (.ok a S)=.ok a S:=rfl
abbrev kFn (f:ae->iQ->R A)(as:ae)(S:iQ):R A:=Zo<|f as S
@[simp]def O8 {f:ae->iQ->R A}{as:ae}:kFn f as S=Zo (f as S):=rfl
@[simp]def NH {f:ae->iQ->R A}{d:se}:eFn f d τ S=(d τ S).bind (kFn f):=rfl
@[simp]def SN {g:A->iQ->R A}:f1 g [a] S=g a S:=rfl
@[simp]def Tz {g:A->A->iQ->R A}:f2 g [a,b] S=g a b S:=rfl
abbrev Ul (h:Pt)(τ:ae)(a:A)(l:bi)(S:iQ):R A:=(h τ S).bind<|C6 a l
abbrev kSl (l h:Pt)(τ:ae)(a:A)(S:iQ):R A:=(l τ S).bind<|Ul h τ a
@[simp]def Hf {h:Pt}{l:bi}:Ul h τ a l S=(h τ S).bind (C6 a l):=rfl
@[simp]def K4 {l h:Pt}:kSl l h τ a S=(l τ S).bind (Ul h τ a):=rfl
@[simp]def Ox {c:Ex}{l h:Pt}:KP c l h τ S=(c τ S).bind (kSl l h τ):=rfl
@[simp]def DT:qf τ S=.ok none S:=rfl
abbrev aPt (a:A)(S:iQ):R (bi):=match a with
 | .int i=>.ok (some i) S
 | _=>.no
@[simp]def GL {i:Int}:aPt (.int i) S=.ok (some i) S:=rfl
@[simp]def EG {c:Ex}:m5 c τ S=(c τ S).bind aPt:=rfl
abbrev T9 (f:A->ae->iQ->R A)(d:se)(τ:ae)(o:A)(S:iQ)(_:ae):R A:=(d τ S).bind<|f o
abbrev kMe (f:A->ae->iQ->R A)(d:se)(τ:ae)(o:A)(S:iQ):R A:=opt (o.lst? S)<|T9 f d τ o S
@[simp]def HK {f:A->ae->iQ->R A}{d:se}{xs:ae}:T9 f d τ a S xs=(d τ S).bind (f a):=rfl
@[simp]def NC {f:A->ae->iQ->R A}{d:se}:kMe f d τ a S=opt (a.lst? S) (T9 f d τ a S):=rfl
@[simp]def KS {f:A->ae->iQ->R A}{c:Ex}{d:se}:WK f c d τ S=(c τ S).bind (kMe f d τ):=rfl
@[simp]def JA {f:A->ae->iQ->R A}{c:Ex}:ZR f c τ S=(c τ S).bind λo S1=>opt (o.lst? S1) λ_=>f o [] S1:=rfl
@[simp]def lst?_ref {n:Nat}:A.lst? S (.ref n)=iN S n:=rfl
abbrev RS.seq (r:RS)(d:Sm):RS:=match r with
 | .nx τ S=>d τ S
 | r=>r
@[simp]def RS.OC {d:Sm}:RS.seq (.nx τ S) d=d τ S:=rfl
@[simp]def RS.Mr {d:Sm}:RS.seq (.rt a S) d=.rt a S:=rfl
@[simp]def RS.Ny {d:Sm}{c:Str}:RS.seq (.ex c S) d=.ex c S:=rfl
@[simp]def RS.K_ {d:Sm}:RS.seq (.bk τ S) d=.bk τ S:=rfl
@[simp]def RS.Me {d:Sm}:RS.seq (.ct τ S) d=.ct τ S:=rfl
@[simp]def Jq {c d:Sm}:jn c d τ S=RS.seq (c τ S) d:=by unfold jn RS.seq;cases c τ S<;>rfl
@[simp]def HS:nh τ S=.nx τ S:=rfl
@[simp]def Bj:Wf τ S=.bk τ S:=rfl
@[simp]def ER:Xg τ S=.ct τ S:=rfl
@[simp]def EA {e:Ex}:wk e τ S=RS.of (e τ S) λ_ S1=>.nx τ S1:=rfl
@[simp]def HF {e:Ex}:jN e τ S=RS.of (e τ S) .rt:=rfl
@[simp]def Ej:Lj τ S=.rt .non S:=rfl
abbrev YH (c d:Sm)(τ:ae)(b:Bool)(S:iQ):RS:=match b with|true=>c τ S|false=>d τ S
@[simp]def Sy {c d:Sm}:YH c d τ true S=c τ S:=rfl
@[simp]def Tr {c d:Sm}:YH c d τ false S=d τ S:=rfl
@[simp]def Pw {t:Te}{c d:Sm}:vd t c d τ S=RS.of (t τ S) (YH c d τ):=rfl
abbrev X5 (g:Tg)(τ:ae)(a:A)(S:iQ):RS:=RS.of (g a τ S) .nx
@[simp]def IQ {g:Tg}:X5 g τ a S=RS.of (g a τ S) .nx:=rfl
@[simp]def GI {e:Ex}{g:Tg}:jD e g τ S=RS.of (e τ S) (X5 g τ):=rfl
@[simp]def Zc {i:Nat}:jC i a τ S=.ok (τ.set i a) S:=rfl
abbrev Ui (a o:A)(τ:ae)(i:A)(S:iQ):R (ae):=(Ey o i a S).bind λ_ S3=>.ok τ S3
abbrev kSb (ci:Ex)(τ:ae)(a o:A)(S:iQ):R (ae):=(ci τ S).bind<|Ui a o τ
@[simp]def Hw {o i:A}:Ui a o τ i S=(Ey o i a S).bind λ_ S3=>.ok τ S3:=rfl
@[simp]def NR {ci:Ex}{o:A}:kSb ci τ a o S=(ci τ S).bind (Ui a o τ):=rfl
@[simp]def L8 {co ci:Ex}:WC co ci a τ S=(co τ S).bind (kSb ci τ a):=rfl
@[simp]def M0 {n:Nat}{gs:PX}{xs:ae}:A2 n gs (.tup xs) τ S=gd (xs.length=n) (gs xs τ S):=rfl
@[simp]def Oc:AU [] τ S=.ok τ S:=rfl
@[simp]def Ls {g:Tg}{gs:PX}{as:ae}:sJ g gs (a::as) τ S=(g a τ S).bind (gs as):=rfl
abbrev sPr (i j:Nat)(τ:ae)(as:ae)(S:iQ):RS:=match as with
 | [a,b]=>.nx ((τ.set i a).set j b) S
 | _=>.no
@[simp]def Pd {i j:Nat}:sPr i j τ [a,b] S=.nx ((τ.set i a).set j b) S:=rfl
@[simp]def Hg {i j:Nat}{c:se}:Zj i j c τ S=RS.of (c τ S) (sPr i j τ):=rfl
abbrev KZ (i:Nat)(τ:ae)(c:A)(S:iQ):RS:=.nx (τ.set i c) S
abbrev Xz (i:Nat)(f:A->A->iQ->R A)(τ:ae)(b:A)(S:iQ):RS:=.of (f (τ.getD i .unb) b S)<|KZ i τ
@[simp]def Dg {i:Nat}:KZ i τ a S=.nx (τ.set i a) S:=rfl
@[simp]def IZ {i:Nat}{f:A->A->iQ->R A}:Xz i f τ a S=.of (f (τ.getD i .unb) a S) (KZ i τ):=rfl
@[simp]def IJ {i:Nat}{f:A->A->iQ->R A}{e:Ex}:Nb i f e τ S=bif (τ.getD i .unb).nI then .no else .of (e τ S) (Xz i f τ):=by
 unfold Nb;cases(τ.getD i .unb).nI<;>rfl
abbrev Zu (o i:A)(τ:ae)(z:A)(S:iQ):RS:=.of (Ey o i z S) λ_ d=>.nx τ d
abbrev ZM (f:A->A->iQ->R A)(o i x:A)(τ:ae)(y:A)(S:iQ):RS:=.of (f x y S)<|Zu o i τ
abbrev ZO (ce:Ex)(f:A->A->iQ->R A)(o i:A)(τ:ae)(x:A)(S:iQ):RS:=.of (ce τ S)<|ZM f o i x τ
abbrev Zf (ce:Ex)(f:A->A->iQ->R A)(o:A)(τ:ae)(i:A)(S:iQ):RS:=.of (M3 o i S)<|ZO ce f o i τ
abbrev kS1 (ci ce:Ex)(f:A->A->iQ->R A)(τ:ae)(o:A)(S:iQ):RS:=.of (ci τ S)<|Zf ce f o τ
@[simp]def O_ {o i:A}:Zu o i τ a S=.of (Ey o i a S) λ_ S6=>.nx τ S6:=rfl
@[simp]def LN {f:A->A->iQ->R A}{o i x:A}:ZM f o i x τ a S=.of (f x a S) (Zu o i τ):=rfl
@[simp]def NL {ce:Ex}{f:A->A->iQ->R A}{o i:A}:ZO ce f o i τ a S=.of (ce τ S) (ZM f o i a τ):=rfl
@[simp]def Oj {ce:Ex}{f:A->A->iQ->R A}{o:A}:Zf ce f o τ a S=.of (M3 o a S) (ZO ce f o a τ):=rfl
@[simp]def OJ {ci ce:Ex}{f:A->A->iQ->R A}:kS1 ci ce f τ a S=.of (ci τ S) (Zf ce f a τ):=rfl
@[simp]def D0 {co ci ce:Ex}{f:A->A->iQ->R A}:Ak co ci ce f τ S=RS.of (co τ S) (kS1 ci ce f τ):=rfl
abbrev RS.end (r:RS):R A:=match r with
 | .rt a d=>.ok a d
 | .nx _ d=>.ok .non d
 | .ex c d=>.ex c d
 | _=>.no
@[simp]def RS.MQ:RS.end (.rt a S)=.ok a S:=rfl
@[simp]def RS.N7:RS.end (.nx τ S)=.ok .non S:=rfl
@[simp]def RS.MI {c:Str}:RS.end (.ex c S)=.ex c S:=rfl
theorem yq {N:ar}{m:Sm}{as:ae}:jO N m as S=RS.end (m (as++List.replicate (N.length-as.length) .unb) S):=by
 unfold jO RS.end;cases m (as++List.replicate (N.length-as.length) .unb) S<;>rfl
@[simp]def NG {i j:Int}:jE (.int i) (.int j) S=.ok (.int<|i+j) S:=rfl
@[simp]def Ld {i j:Int}:aSub (.int i) (.int j) S=.ok (.int<|i-j) S:=rfl
@[simp]def Nz {i j:Int}:J0 (.int i) (.int j) S=.ok (.int<|i+j) S:=rfl
theorem Jx{i j:Int}(h:-18446744073709551616<i)(h':i<18446744073709551616):yd (.int i) (.int j) S=.ok (.int<|i * j) S:=kM<|by unfold HD;simp;left;exact⟨by omega,by omega⟩
def OI{i j:Int}(h:0<j)(h':j<1073741824):Gv (.int i) (.int j) S=.ok (.int<|i / j) S:=kM ⟨h,()⟩
def D7{i j:Int}(h:0<j):CA (.int i) (.int j) S=.ok (.int<|i % j) S:=kM h
@[simp]def DE {i j:Int}:Av (.int i) (.int j) S=.ok (.bl<|decide<|i<j) S:=rfl
@[simp]def S_ {i j:Int}:Wt (.int i) (.int j) S=.ok (.bl<|decide<|i<=j) S:=rfl
@[simp]def SQ {i j:Int}:A7 (.int i) (.int j) S=.ok (.bl<|decide<|j<i) S:=rfl
@[simp]def Tn {i j:Int}:YS (.int i) (.int j) S=.ok (.bl<|decide<|j<=i) S:=rfl
@[simp]def T7 {i j:Bool}:KD false (.bl i) (.bl j) S=.ok (.bl<|i == j) S:=rfl
@[simp]def M8 {i j:Bool}:KD true (.bl i) (.bl j) S=.ok (.bl<|i != j) S:=rfl
@[simp]def Mm {i:Int}:OB (.int i) S=.ok (.int<|-i) S:=rfl
@[simp]def Px {xs:ae}:kH (.tup xs) S=.ok (.int xs.length) S:=rfl
@[simp]def Oe {xs:ae}:kH (.frz xs) S=.ok (.int xs.length) S:=rfl
@[simp]def MN {n:Nat}:kH (.ref n) S=opt (iN S n) λxs=>.ok (.int xs.length) S:=rfl
@[simp]def Mt {i:Int}:ZG (.int i) S=.ok (.int<|if i<0 then -i else i) S:=rfl
@[simp]def Hr {i j:Int}:OD (.int i) (.int j) S=.ok (.int<|if j>i then j else i) S:=rfl
@[simp]def Gz {i j:Int}:LJ (.int i) (.int j) S=.ok (.int<|if j<i then j else i) S:=rfl
@[simp]def GC {i:Int}:Gj (.int i) S=.ok (.int i) S:=rfl
@[simp]def Hx {i:Bool}:Gj (.bl i) S=.ok (.int<|if i then 1 else 0) S:=rfl
@[simp]def A9 {i j:Int}:CI (.int i) (.int j) S=.ok (.rng i j) S:=rfl
@[simp]def T4 {xs:ae}{i:Int}:mh (.tup xs) (.int i) S=opt (om xs i) λx=>.ok x S:=rfl
@[simp]def T6 {xs:ae}{i:Int}:mh (.frz xs) (.int i) S=opt (om xs i) λx=>.ok x S:=rfl
@[simp]def TR {n:Nat}{i:Int}:mh (.ref n) (.int i) S=opt (iN S n) λxs=>opt (om xs i) λx=>.ok x S:=rfl
@[simp]def Ln {n:Nat}{k:Int}:Ey (.ref n) (.int k) a S=opt (iN S n) λxs=>opt (C_ xs.length k) λj=>.ok Unit.unit (S.set n<|.lst<|xs.set j a):=rfl
@[simp]def LD {n:Nat}{i:Int}:M3 (.ref n) (.int i) S=opt (iN S n) λxs=>gd (0<=i) (opt (xs[i.toNat]?) λx=>.ok x S):=rfl
theorem Kq{i j:Int}(h:BE i j):x_ (.rng i j) S=.ok (.ref S.length) (S++[.lst<|(jt i j).map .int]):=kM h
@[simp]def Hv {xs:ae}:x_ (.tup xs) S=.ok (.ref S.length) (S++[.lst xs]):=rfl
@[simp]def Gx {xs:ae}:x_ (.frz xs) S=.ok (.ref S.length) (S++[.lst xs]):=rfl
@[simp]def Jt {n:Nat}:x_ (.ref n) S=opt (iN S n) λxs=>.ok (.ref S.length) (S++[.lst xs]):=rfl
@[simp]def C8 {xs:ae}:xr (.tup xs) S=.ok (.tup xs) S:=rfl
@[simp]def Ew {n:Nat}:xr (.ref n) S=opt (iN S n) λxs=>.ok (.tup xs) S:=rfl
@[simp]def N9 {xs:ae}:XA (.tup xs) S=.ok (.tup xs.reverse) S:=rfl
@[simp]def Ml {n:Nat}:XA (.ref n) S=opt (iN S n) λxs=>.ok (.ref S.length) (S++[.lst xs.reverse]):=rfl
@[simp]def TF {n:Nat}{l u:bi}:C6 (.ref n) l u S=opt (iN S n) λxs=>.ok (.ref S.length) (S++[.lst<|s_ xs l u]):=rfl
@[simp]def zQ {n:Nat}:wH (.ref n) [a] S=opt (iN S n) λxs=>gd (xs.length<sizeLine) (.ok .non<|S.set n<|.lst<|xs++[a]):=rfl
@[simp]def MS {b:Bool}:A.X6 (.bl b) S=some b:=rfl
@[simp]def GO {i:Int}:A.X6 (.int i) S=some (i != 0):=rfl
theorem Mx{o:O}:(S++[o])[S.length]?=some o:=by simp
@[simp]def jb {xs:ae}:iN (S++[.lst xs]) S.length=some xs:=uC Mx
theorem jB{o:O}{n:Nat}(h:iN S n=some xs):iN (S++[o]) n=some xs:=by
 have h':=i9 h;exact uC<|by rw[bB (aN.mp h').1];exact h'
def t9{n:Nat}(h:iN S n=some xs):n<S.length:=(aN.mp<|i9 h).1
def qh{n:Nat}(h:n<S.length):iN (S.set n<|.lst ys) n=some ys:=uC<|bH h
def pH{n:Nat}(h:n≠m):iN (S.set n<|.lst ys) m=iN S m:=by unfold iN;rw[bL h]
def Aq{xs:ae}{i:Int}{k:Nat}{x:A}(h:i=k)(hx:xs[k]?=some x):om xs i=some x:=by rw[h];exact RZ hx
def yS{n:Nat}{i:Int}{k:Nat}(h:i=k)(hk:k<n):C_ n i=some k:=by
 subst h;unfold C_;rw[aL (),aL ()];simp
end
structure Kp (b:Nat->Prop)(S S':iQ):Prop where
 len:S.length<=S'.length
 obj:∀(n:Nat) (o:O),¬b n->S[n]?=some o->S'[n]?=some o
meta abbrev mO:=Kp λ_=>False
def Kp.lst{b:Nat->Prop}(h:Kp b S S')(n:Nat)(xs:ae)(hb:¬b n)(e:iN S n=some xs):iN S' n=some xs:=uC<|h.obj n _ hb<|i9 e
def Kp.refl{b:Nat->Prop}:Kp b S S:=⟨aQ _,λ_ _ _ h=>h⟩
def Kp.trans{b:Nat->Prop}(h:Kp b S S1)(h':Kp b S1 S2):Kp b S S2:=⟨bP h.len h'.len,λn xs d e=>h'.obj n xs d<|h.obj n xs d e⟩
def zB{S:iQ}{n:Nat}(e:S[n]?=some o):n<S.length:=(aN.mp e).1
def Kp.lay{b:Nat->Prop}{o:O}(h:Kp b S S1):Kp b S (S1++[o]):=⟨bP h.len<|by simp,λn xs d e=>by
 have:=h.obj n xs d e;rw[bB<|zB this];exact this⟩
def Kp.Nq{b:Nat->Prop}{S S1:iQ}(h:Kp b S S1)(hm:b m\/S.length<=m):Kp b S (S1.set m o):=⟨by rw[bV];exact h.len,λn xs d e=>by
 have:m≠n:=λz=>by
  subst z
  rcases hm with z|z
  ·exact d z
  ·exact absurd (zB e) ()
 rw[bL this];exact h.obj n xs d e⟩
def Kp.set{b:Nat->Prop}{S S1:iQ}(h:Kp b S S1)(hm:b m\/S.length<=m):Kp b S (S1.set m<|.lst ys):=h.Nq hm
def Kp.mono{b c:Nat->Prop}{S:iQ}(h:Kp b S S1)(hb:∀n,n<S.length->b n->c n):Kp c S S1:=⟨h.len,λn xs hc e=>h.obj n xs (λz=>hc<|hb n (zB e) z) e⟩
def Kp.of0{b:Nat->Prop}(h:mO S S1):Kp b S S1:=h.mono λ_ _ z=>z.elim
def Kp.old{b c:Nat->Prop}{S:iQ}(h:Kp b S S1)(h':Kp c S1 S2)(hc:∀n,n<S.length->¬b n->¬c n):Kp b S S2:=⟨bP h.len h'.len,λn xs d e=>h'.obj n xs (hc n (zB e) d)<|h.obj n xs d e⟩
theorem ux{t:Te}{c:Sm}(Inv:ae->iQ->Prop)(μ:ae->iQ->Nat)(Post:RS->Prop)
  (h:∀τ S,Inv τ S->(∃S1,t τ S=.ok false S1/\Post (.nx τ S1))\/(∃S1,t τ S=.ok true S1/\((∃τ' S',c τ S1=.nx τ' S'/\Inv τ' S'/\μ τ' S'<μ τ S)\/(∃a S',c τ S1=.rt a S'/\Post (.rt a S'))))) :
  ∀n τ S,Inv τ S->μ τ S<n->Post (lZ t c n τ S)
 | 0,_,_,_,hn=>absurd hn (dM _)
 | n+1,τ,S,hi,hn=>by
  unfold lZ
  rcases h τ S hi with⟨S1,e,q⟩|⟨S1,e,⟨τ',S',e2,d,f⟩|⟨a,S',e2,q⟩⟩
  ·rw[e];exact q
  ·rw[e];show Post (match c τ S1 with
    | .nx τ' S'=>lZ t c n τ' S'
    | .ct τ' S'=>lZ t c n τ' S'
    | .bk τ' S'=>.nx τ' S'
    | r=>r)
   rw[e2];exact ux Inv μ Post h n τ' S' d ()
  ·rw[e];show Post (match c τ S1 with
    | .nx τ' S'=>lZ t c n τ' S'
    | .ct τ' S'=>lZ t c n τ' S'
    | .bk τ' S'=>.nx τ' S'
    | r=>r)
   rw[e2];exact q
theorem zh{s:Src}{g:Tg}{c:Sm}(Inv:Nat->ae->iQ->Prop)(Post:RS->Prop)
  (step:∀i τ S,i<s.k->Inv i τ S->∃x τ1 S1,s.get i S=some x/\g x τ S=.ok τ1 S1/\((∃τ' S',c τ1 S1=.nx τ' S'/\Inv (i+1) τ' S')\/(∃a S',c τ1 S1=.rt a S'/\Post (.rt a S'))))
  (fin:∀τ S,Inv s.k τ S->s.fin S=true/\Post (.nx τ S)):∀k i τ S,k+i=s.k->Inv i τ S->Post (qw s g c k i τ S)
 | 0,i,τ,S,hk,hi=>by
  have:i=s.k:=()
  subst this;obtain⟨hf,q⟩:=fin τ S hi;unfold qw;rw[aL hf];exact q
 | k+1,i,τ,S,hk,hi=>by
  obtain⟨x,τ1,S1,f,hg,h⟩:=step i τ S () hi;unfold qw;rw[f];show Post (RS.of (g x τ S) λτ1 S1=>match c τ1 S1 with
   | .nx τ' S'=>qw s g c k (i+1) τ' S'
   | .ct τ' S'=>qw s g c k (i+1) τ' S'
   | .bk τ' S'=>.nx τ' S'
   | r=>r)
  rw[hg];show Post (match c τ1 S1 with
   | .nx τ' S'=>qw s g c k (i+1) τ' S'
   | .ct τ' S'=>qw s g c k (i+1) τ' S'
   | .bk τ' S'=>.nx τ' S'
   | r=>r)
  rcases h with⟨τ',S',e,d⟩|⟨a,S',e,q⟩
  ·rw[e];exact zh Inv Post step fin k (i+1) τ' S' () d
  ·rw[e];exact q
def sO{lo hi:Int}{c:Sm}{src:Ic}{τ:ae}(hs:src τ S=.ok (j5 lo hi) S1)(Inv:Nat->ae->iQ->Prop)(Post:RS->Prop)(h0:Inv 0 τ S1)
  (step:∀(i:Nat) τ S,(i:Int)<hi-lo->Inv i τ S->(∃τ' S',c (τ.set j<|.int<|lo+i) S=.nx τ' S'/\Inv (i+1) τ' S')\/(∃a S',c (τ.set j<|.int<|lo+i) S=.rt a S'/\Post (.rt a S')))
  (fin:∀τ S,Inv (hi-lo).toNat τ S->Post (.nx τ S)):Post (kN src (jC j) c τ S):=by
 unfold kN;rw[hs];refine zh (s:=j5 lo hi) Inv Post (λi τ S d h=>?_) (λτ S h=>⟨rfl,fin τ S h⟩) _ 0 τ S1 rfl h0;have d:i<(hi-lo).toNat:=d;exact⟨.int<|lo+i,_,S,aL d,rfl,step i τ S (by omega) h⟩
def HM{xs:ae}{g:Tg}{c:Sm}{src:Ic}(hs:src τ S=.ok (qR xs) S1)(Inv:Nat->ae->iQ->Prop)(Post:RS->Prop)(h0:Inv 0 τ S1)
  (step:∀(i:Nat) x τ S,xs[i]?=some x->Inv i τ S->∃τ1 S1,g x τ S=.ok τ1 S1/\((∃τ' S',c τ1 S1=.nx τ' S'/\Inv (i+1) τ' S')\/(∃a S',c τ1 S1=.rt a S'/\Post (.rt a S'))))
  (fin:∀τ S,Inv xs.length τ S->Post (.nx τ S)):Post (kN src g c τ S):=by
 unfold kN;rw[hs];refine zh (s:=qR xs) Inv Post (λi τ S d h=>?_) (λτ S h=>⟨rfl,fin τ S h⟩) _ 0 τ S1 rfl h0;have d:i<xs.length:=d;obtain⟨τ1,S1,e,q⟩:=step i xs[i] τ S (aG d) h;exact⟨xs[i],τ1,S1,aG d,e,q⟩
def wK{n:Nat}{xs:ae}{g:Tg}{c:Sm}{src:Ic}(hs:src τ S=.ok (oF n xs.length) S1)(Inv:Nat->ae->iQ->Prop)(Post:RS->Prop)(h0:Inv 0 τ S1)(hl:∀i τ S,Inv i τ S->iN S n=some xs)
  (step:∀(i:Nat) x τ S,xs[i]?=some x->Inv i τ S->∃τ1 S1,g x τ S=.ok τ1 S1/\((∃τ' S',c τ1 S1=.nx τ' S'/\Inv (i+1) τ' S')\/(∃a S',c τ1 S1=.rt a S'/\Post (.rt a S'))))
  (fin:∀τ S,Inv xs.length τ S->Post (.nx τ S)):Post (kN src g c τ S):=by
 unfold kN;rw[hs];refine zh (s:=oF n xs.length) Inv Post (λi τ S d h=>?_) (λτ S h=>⟨?_,fin τ S h⟩) _ 0 τ S1 rfl h0
 ·have d:i<xs.length:=d;obtain⟨τ1,S1,e,q⟩:=step i xs[i] τ S (aG d) h;exact⟨xs[i],τ1,S1,by show(iN S n).bind _=_;rw[hl i τ S h];exact aG d,e,q⟩
 ·show(match iN S n with
   | some ys=>decide (ys.length<=xs.length)
   | none=>false)=true
  rw[hl _ τ S h];exact aP<|aQ _
@[simp]def ny {c:Ex}{τ:ae}{S S1:iQ}{j:Int}(h:c τ S=.ok (.int j) S1)(hb:bnd j):nJ c τ S=.ok (j5 0 j) S1:=by
 unfold nJ;rw[h];exact kM hb
def rE{c d:Ex}{i j:Int}(h:c τ S=.ok (.int i) S1)(h':d τ S1=.ok (.int j) S2)(hb:bnd i)(hb':bnd j):oZ c d τ S=.ok (j5 i j) S2:=by
 unfold oZ;rw[h];show(d τ S1).bind _=_;rw[h'];exact kM ⟨hb,hb'⟩
def Ff{c:Ex}(h:c τ S=.ok (.tup xs) S1):mq c τ S=.ok (qR xs) S1:=by unfold mq;rw[h];rfl
def sj{c:Ex}{n:Nat}{xs:ae}(h:c τ S=.ok (.ref n) S1)(hl:iN S1 n=some xs):mq c τ S=.ok (oF n xs.length) S1:=by
 unfold mq;rw[h];show opt (iN S1 n) _=_;rw[hl];rfl
theorem vQ{s:Src}{g:Tg}{t:Te}{e:Ex}{P:iQ->Prop}{T:ae->Prop}(it:Nat->A)(p:Nat->Bool)(f:Nat->A)
  (hget:∀i S,i<s.k->P S->s.get i S=some (it i)) (hfin:∀S,P S->s.fin S=true)
  (step:∀i τ S,i<s.k->T τ->P S->∃τ1 S1 S2,g (it i) τ S=.ok τ1 S1/\t τ1 S1=.ok (p i) S2/\T τ1/\(p i=false->P S2)/\(p i=true->∃S3,e τ1 S2=.ok (f i) S3/\P S3)) :
  ∀k i τ S,k+i=s.k->T τ->P S->∃S',l_ s g t e k i τ S=.ok (((List.range' i k).filter p).map f) S'/\P S'
 | 0,i,τ,S,hk,hT,hP=>⟨S,by unfold l_;rw[aL<|hfin S hP];rfl,hP⟩
 | k+1,i,τ,S,hk,hT,hP=>by
  obtain⟨τ1,S1,S2,hg,B,d,q,m⟩:=step i τ S (by omega) hT hP;unfold l_;rw[hget i S (by omega) hP,jw,hg,R.kF,B,R.kF,fO,gC]
  cases hp:p i with
  | false=>
   obtain⟨S',h1,h2⟩:=vQ it p f hget hfin step k (i+1) τ1 S2 (by omega) d<|q hp;exact⟨S',by simpa using h1,h2⟩
  | true=>
   obtain⟨S3,z,j⟩:=m hp;obtain⟨S',h1,h2⟩:=vQ it p f hget hfin step k (i+1) τ1 S3 (by omega) d j;refine⟨S',?_,h2⟩
   skip
   rw[z,R.kF,h1];rfl
def xR{s:Src}{src:Ic}{t:Te}{e:Ex}{S1:iQ}(hs:src τ S=.ok s S1)(it:Nat->A)(p:Nat->Bool)(f:Nat->A)(hget:∀i,i<s.k->s.get i S1=some (it i))(hfin:s.fin S1=true)
  (ht:∀i,i<s.k->t (it i::l9 cap τ) S1=.ok (p i) S1) (he:∀i,i<s.k->p i=true->e (it i::l9 cap τ) S1=.ok (f i) S1) (hl:s.k<=16777216) :
  jM (none::cap) src (jC 0) t e τ S=.ok (.ref S1.length) (S1++[.lst<|((List.range s.k).filter p).map f]):=by
 unfold jM;rw[hs,R.kZ];obtain⟨j,h1,h2⟩:=vQ (s:=s) (g:=jC 0) (t:=t) (e:=e) (P:=λS=>S=S1) (T:=λd=>∃y,d=y::l9 cap τ) it p f (λi S hi h=>by subst h;exact hget i hi) (λS h=>by subst h;exact hfin)
  (λi d S hi ⟨y,hy⟩ h=>by
   subst h hy;exact⟨it i::l9 cap τ,S,S,rfl,ht i hi,⟨_,rfl⟩,λ_=>rfl,λhp=>⟨S,he i hi hp,rfl⟩⟩) s.k 0 (l9 (none::cap) τ) S1 rfl ⟨_,rfl⟩ rfl
 subst h2;rw[h1,R.kF,cW];refine ko ?_;rw[aH];refine bP (fy _ _) ?_;rw[List.length_range'];exact hl
def nP{α β:Type}(xs:List α)(p:α->Bool)(f:α->β):∀(d:α) ,(((List.range xs.length).filter λi=>p<|xs.getD i d).map λi=>f<|xs.getD i d)=(xs.filter p).map f:=by
 intro d
 induction xs with
 | nil=>rfl
 | cons x xs g=>
  rw[bq,gq,gC,gC];have e:((List.filter (λi=>p<|(x::xs).getD i d)<|List.map Nat.succ<|List.range xs.length).map λi=>f<|(x::xs).getD i d)=(xs.filter p).map f:=by
   rw[gP,cj];rw[<- g];rfl
  show List.map _ (if p x=true then _ else _)=List.map f (if p x=true then _ else _);by_cases hp:p x=true
  ·rw[aL hp,aL hp,bM,bM,e];rfl
  ·rw[aK hp,aK hp,e]
def DM{xs:ae}{src:Ic}{t:Te}{e:Ex}{S1:iQ}(hs:src τ S=.ok (qR xs) S1)(p:A->Bool)(f:A->A)
  (ht:∀x∈xs,t (x::l9 cap τ) S1=.ok (p x) S1) (he:∀x∈xs,p x=true->e (x::l9 cap τ) S1=.ok (f x) S1) (hl:xs.length<=16777216) :
  jM (none::cap) src (jC 0) t e τ S=.ok (.ref S1.length) (S1++[.lst<|(xs.filter p).map f]):=by
 have d:∀i,i<xs.length->xs.getD i .unb∈xs:=λi hi=>by
  rw[aJ,aG hi];exact dU hi
 rw[xR hs (λi=>xs.getD i .unb) (λi=>p<|xs.getD i .unb) (λi=>f<|xs.getD i .unb) (λi hi=>by
  have hi:i<xs.length:=hi;show xs[i]?=_;rw[aJ,aG hi];rfl) rfl (λi hi=>ht _<|d i hi) (λi hi=>he _<|d i hi) hl]
 have:=nP xs p f .unb;show R.ok _ (S1++[O.lst<|((List.range xs.length).filter _).map _])=_;rw[this]
def vU{lo hi:Int}{src:Ic}{t:Te}{e:Ex}{S1:iQ}(hs:src τ S=.ok (j5 lo hi) S1)(p:Int->Bool)(f:Int->A)
  (ht:∀k,lo<=k->k<hi->t (.int k::l9 cap τ) S1=.ok (p k) S1) (he:∀k,lo<=k->k<hi->p k=true->e (.int k::l9 cap τ) S1=.ok (f k) S1) (hl:(hi-lo).toNat<=16777216) :
  jM (none::cap) src (jC 0) t e τ S=.ok (.ref S1.length) (S1++[.lst<|((jt lo hi).filter p).map f]):=by
 rw[xR hs (λi=>.int<|lo+i) (λi=>p<|lo+i) (λi=>f<|lo+i) (λi d=>aL d) rfl (λi d=>ht _ () (by have:i<(hi-lo).toNat:=d;lia)) (λi d=>he _ () (by have:i<(hi-lo).toNat:=d;lia)) hl];unfold jt;rw[gP,cj];rfl
@[simp]def N_ {cap:List<|bn}{τ:ae}:l9 (none::cap) τ=.unb::l9 cap τ:=rfl
@[simp]def Lr {cap:List<|bn}{τ:ae}{j:Nat}:l9 (some j::cap) τ=τ.getD j .unb::l9 cap τ:=rfl
@[simp]def Dv {τ:ae}:l9 [] τ=[]:=rfl
theorem AR{x:A}:om (x::xs) 0=some x:=Aq (k:=0) rfl rfl
def LV{x:A}:om (x::y::xs) 1=some y:=Aq (k:=1) rfl rfl
def uR{ns:ag}{i:Int}{k:Nat}{x:Int}(h:i=k)(hx:ns[k]?=some x):om (ns.map A.int) i=some (.int x):=Aq h<|by rw[bh,hx];rfl
def jZ{j:Int}(h:-4611686018427387904<=j)(h':j<4611686018427387904):bnd j:=⟨(),()⟩
def PJ{i j:Int}(h1:-1000000<=i)(h2:i<=1000000)(h3:-1000000<=j)(h4:j<=1000000)(h5:j-i<=1000):BE i j:=⟨⟨(),(),(),()⟩,()⟩
theorem ints_map:∀(ns:ag),A.ints (ns.map .int)=some ns
 | []=>rfl
 | n::ns=>by show(A.ints<|ns.map .int).map (n::·)=_;rw[ints_map ns];rfl
theorem By{n:Nat}:∀(xs ys:ag),uA (wW S<|n+1) (xs.map .int) (ys.map .int)=some (decide<|xs=ys)
 | [],[]=>rfl
 | [],_::_=>rfl
 | _::_,[]=>rfl
 | x::xs,y::ys=>by
  skip
  skip
  show Option.map _ (uA (wW S<|n+1) (xs.map .int)<|ys.map .int)=_;rw[By xs ys]
  skip
  by_cases h1:x=y<;>by_cases h2:xs=ys<;>simp[h1,h2]
@[simp]def Tj {S:iQ}{x y:Bool}:tK false (.bl x) (.bl y) S=.ok (.bl<|x == y) S:=rfl
@[simp]def Sw {S:iQ}{x y:Bool}:tK true (.bl x) (.bl y) S=.ok (.bl<|!(x == y)) S:=rfl
@[simp]def To {S:iQ}{x y:Int}:tK false (.int x) (.int y) S=.ok (.bl<|x == y) S:=rfl
@[simp]def SS {S:iQ}{x y:Int}:tK true (.int x) (.int y) S=.ok (.bl<|!(x == y)) S:=rfl
@[simp]def Jj {S:iQ}:KD false .non .non S=.ok (.bl true) S:=rfl
@[simp]def Gn {S:iQ}{xs:ae}:KD false (.tup xs) .non S=.ok (.bl false) S:=rfl
@[simp]def GD {S:iQ}{n:Nat}:KD false (.ref n) .non S=.ok (.bl false) S:=rfl
@[simp]def DW {S:iQ}:KD true .non .non S=.ok (.bl false) S:=rfl
@[simp]def Er {S:iQ}{xs:ae}:KD true (.tup xs) .non S=.ok (.bl true) S:=rfl
@[simp]def Di {S:iQ}{n:Nat}:KD true (.ref n) .non S=.ok (.bl true) S:=rfl
@[simp]def Hh {S:iQ}{x:A}{c:String}:C7 x (.ty c) S=opt (x.kd S) λk=>opt (Ay k c) λb=>.ok (.bl b) S:=rfl
@[simp]def TV {S:iQ}{b:Bool}:A.kd (.bl b) S=some .bl:=rfl
@[simp]def Mf {S:iQ}{b:Int}:A.kd (.int b) S=some .int:=rfl
@[simp]def KU {S:iQ}{b:ae}:A.kd (.tup b) S=some .tup:=rfl
@[simp]def Pc {S:iQ}:A.kd .non S=some .non:=rfl
@[simp]def MM {S:iQ}{b:Str}:A.kd (.str b) S=some .str:=rfl
@[simp]def K5 {S:iQ}{n:Nat}:A.kd (.ref n) S=(iN S n).map λ_=>.lst:=rfl
@[simp]def Ou {S:iQ}:newL [] S=.ok (.ref S.length) (S++[.lst []]):=ko<|by simp
@[simp]def Of {S:iQ}{x0:A}:newL [x0] S=.ok (.ref S.length) (S++[.lst [x0]]):=ko<|by simp
@[simp]def OY {S:iQ}{x0 x1:A}:newL [x0,x1] S=.ok (.ref S.length) (S++[.lst [x0,x1]]):=ko<|by simp
@[simp]def MX {S:iQ}{x0 x1 x2:A}:newL [x0,x1,x2] S=.ok (.ref S.length) (S++[.lst [x0,x1,x2]]):=ko<|by simp
@[simp]def MV {S:iQ}{x0 x1 x2 x3:A}:newL [x0,x1,x2,x3] S=.ok (.ref S.length) (S++[.lst [x0,x1,x2,x3]]):=ko<|by simp
@[simp]def L5 {S:iQ}{x0 x1 x2 x3 x4:A}:newL [x0,x1,x2,x3,x4] S=.ok (.ref S.length) (S++[.lst [x0,x1,x2,x3,x4]]):=ko<|by simp
@[simp]def MG {S:iQ}{x0 x1 x2 x3 x4 x5:A}:newL [x0,x1,x2,x3,x4,x5] S=.ok (.ref S.length) (S++[.lst [x0,x1,x2,x3,x4,x5]]):=ko<|by simp
@[simp]def LU {S:iQ}{x0 x1 x2 x3 x4 x5 x6:A}:newL [x0,x1,x2,x3,x4,x5,x6] S=.ok (.ref S.length) (S++[.lst [x0,x1,x2,x3,x4,x5,x6]]):=ko<|by simp
@[simp]def N3 {S:iQ}{x0 x1 x2 x3 x4 x5 x6 x7:A}:newL [x0,x1,x2,x3,x4,x5,x6,x7] S=.ok (.ref S.length) (S++[.lst [x0,x1,x2,x3,x4,x5,x6,x7]]):=ko<|by simp
@[simp]def NQ {S:iQ}{x0 x1 x2 x3 x4 x5 x6 x7 x8:A}:newL [x0,x1,x2,x3,x4,x5,x6,x7,x8] S=.ok (.ref S.length) (S++[.lst [x0,x1,x2,x3,x4,x5,x6,x7,x8]]):=ko<|by simp
@[simp]def Io {S:iQ}{x0 x1 x2 x3 x4 x5 x6 x7 x8 x9:A}:newL [x0,x1,x2,x3,x4,x5,x6,x7,x8,x9] S=.ok (.ref S.length) (S++[.lst [x0,x1,x2,x3,x4,x5,x6,x7,x8,x9]]):=ko<|by simp
theorem zb{α:Type}{n:Nat}{r:R α}(h:n<=16777216):gd (n<=sizeLine) r=r:=kM<|by rw[cR];exact h
def AJ{α:Type}{n:Nat}{r:R α}(h:n<16777216):gd (n<sizeLine) r=r:=kM<|by rw[cR];exact h
def TU {x:A}{xs:ae}:(x::xs).getD 0 .unb=x:=rfl
def SM {x:A}{xs:ae}{n:Nat}:(x::xs).getD (n+1) .unb=xs.getD n .unb:=rfl
def Xr {x y:A}{xs:ae}:(x::xs).set 0 y=y::xs:=rfl
def sets {x y:A}{xs:ae}{n:Nat}:(x::xs).set (n+1) y=x::xs.set n y:=rfl
def rep0 {x:A}:List.replicate 0 x=[]:=rfl
def reps {x:A}{n:Nat}:List.replicate (n+1) x=x::List.replicate n x:=rfl
def Xp {x:A}{xs ys:ae}:(x::xs)++ys=x::(xs++ys):=rfl
def Yh {ys:ae}:[]++ys=ys:=rfl
def XW{S:iQ}{n:Nat}{xs ys:ae}(h:iN S n=some xs)(h':iN S m=some ys)(hl:xs.length+ys.length<=16777216):jE (.ref n) (.ref m) S=.ok (.ref S.length) (S++[.lst<|xs++ys]):=by
 show opt (iN S n) _=_;rw[h,jw,h',jw];exact kM<|by rw[cR];exact hl
abbrev uV (x:A)(S:iQ):R A:=bif x.nI then .no else .ok x S
def Oa {xs:ae}{S:iQ}:uV (.tup xs) S=.ok (.tup xs) S:=rfl
def OT {xs:ae}{S:iQ}:uV (.frz xs) S=.ok (.frz xs) S:=rfl
def Mu {i:Int}{S:iQ}:uV (.int i) S=.ok (.int i) S:=rfl
def SY {b:Bool}{S:iQ}:uV (.bl b) S=.ok (.bl b) S:=rfl
def Pe {s:Str}{S:iQ}:uV (.str s) S=.ok (.str s) S:=rfl
def M4 {n:Nat}{S:iQ}:uV (.ref n) S=.ok (.ref n) S:=rfl
def M_  {S:iQ}:uV (.non) S=.ok (.non) S:=rfl
def Le {i j:Int}{S:iQ}:uV (.rng i j) S=.ok (.rng i j) S:=rfl
def LL {s:Str}{S:iQ}:uV (.exn s) S=.ok (.exn s) S:=rfl
def eV0 {x0:A}{xs:ae}{S:iQ}:iK 0 (x0::xs) S=uV x0 S:=pC
def eV1 {x0 x1:A}{xs:ae}{S:iQ}:iK 1 (x0::x1::xs) S=uV x1 S:=pC
def eV2 {x0 x1 x2:A}{xs:ae}{S:iQ}:iK 2 (x0::x1::x2::xs) S=uV x2 S:=pC
def eV3 {x0 x1 x2 x3:A}{xs:ae}{S:iQ}:iK 3 (x0::x1::x2::x3::xs) S=uV x3 S:=pC
def eV4 {x0 x1 x2 x3 x4:A}{xs:ae}{S:iQ}:iK 4 (x0::x1::x2::x3::x4::xs) S=uV x4 S:=pC
def eV5 {x0 x1 x2 x3 x4 x5:A}{xs:ae}{S:iQ}:iK 5 (x0::x1::x2::x3::x4::x5::xs) S=uV x5 S:=pC
def eV6 {x0 x1 x2 x3 x4 x5 x6:A}{xs:ae}{S:iQ}:iK 6 (x0::x1::x2::x3::x4::x5::x6::xs) S=uV x6 S:=pC
def eV7 {x0 x1 x2 x3 x4 x5 x6 x7:A}{xs:ae}{S:iQ}:iK 7 (x0::x1::x2::x3::x4::x5::x6::x7::xs) S=uV x7 S:=pC
def eV8 {x0 x1 x2 x3 x4 x5 x6 x7 x8:A}{xs:ae}{S:iQ}:iK 8 (x0::x1::x2::x3::x4::x5::x6::x7::x8::xs) S=uV x8 S:=pC
def gN0 {a x0:A}{xs:ae}{S:iQ}:jC 0 a (x0::xs) S=.ok (a::xs) S:=rfl
def gN1 {a x0 x1:A}{xs:ae}{S:iQ}:jC 1 a (x0::x1::xs) S=.ok (x0::a::xs) S:=rfl
def gN2 {a x0 x1 x2:A}{xs:ae}{S:iQ}:jC 2 a (x0::x1::x2::xs) S=.ok (x0::x1::a::xs) S:=rfl
def gN3 {a x0 x1 x2 x3:A}{xs:ae}{S:iQ}:jC 3 a (x0::x1::x2::x3::xs) S=.ok (x0::x1::x2::a::xs) S:=rfl
def gN4 {a x0 x1 x2 x3 x4:A}{xs:ae}{S:iQ}:jC 4 a (x0::x1::x2::x3::x4::xs) S=.ok (x0::x1::x2::x3::a::xs) S:=rfl
def gN5 {a x0 x1 x2 x3 x4 x5:A}{xs:ae}{S:iQ}:jC 5 a (x0::x1::x2::x3::x4::x5::xs) S=.ok (x0::x1::x2::x3::x4::a::xs) S:=rfl
def gN6 {a x0 x1 x2 x3 x4 x5 x6:A}{xs:ae}{S:iQ}:jC 6 a (x0::x1::x2::x3::x4::x5::x6::xs) S=.ok (x0::x1::x2::x3::x4::x5::a::xs) S:=rfl
def gN7 {a x0 x1 x2 x3 x4 x5 x6 x7:A}{xs:ae}{S:iQ}:jC 7 a (x0::x1::x2::x3::x4::x5::x6::x7::xs) S=.ok (x0::x1::x2::x3::x4::x5::x6::a::xs) S:=rfl
def gN8 {a x0 x1 x2 x3 x4 x5 x6 x7 x8:A}{xs:ae}{S:iQ}:jC 8 a (x0::x1::x2::x3::x4::x5::x6::x7::x8::xs) S=.ok (x0::x1::x2::x3::x4::x5::x6::x7::a::xs) S:=rfl
def hide{P:Prop}(h:∀G:Prop,(P->G)->G):P:=h P id
def jf:type_of% (anI @R.kZ<|anI @R.G5<|anI @R.kF<|anI @RS.of_ok<|anI @RS.SK<|anI @jw<|anI @IL<|anI @eV0<|anI @eV1<|anI @eV2<|anI @eV3<|anI @eV4<|anI @eV5<|anI @eV6<|anI @eV7<|anI @eV8<|anI @Oa<|anI @OT<|anI @Mu<|anI @SY<|anI @Pe<|anI @M4<|anI @M_<|anI @Le<|anI @LL<|anI @Iz<|anI @IM<|anI @Hy<|anI @L6<|anI @Iq<|anI @HV<|anI @Jg<|anI @I0<|anI @HA<|anI @Ss<|anI @GY<|anI @Lq<|anI @GJ<|anI @IY<|anI @Fe<|anI @Jv<|anI @Ji<|anI @NP<|anI @HG<|anI @JD<|anI @IF<|anI @LP<|anI @Pk<|anI @Gw<|anI @O1<|anI @EK<|anI @GU<|anI @Li<|anI @Ho<|anI @Dt<|anI @Ie<|anI @Gs<|anI @Eo<|anI @O5<|anI @NH<|anI @SN<|anI @Tz<|anI @Ox<|anI @DT<|anI @GL<|anI @EG<|anI @KS<|anI @JA<|anI @lst?_ref<|anI @RS.OC<|anI @RS.Mr<|anI @RS.Ny<|anI @RS.K_<|anI @RS.Me<|anI @Jq<|anI @HS<|anI @Bj<|anI @ER<|anI @EA<|anI @HF<|anI @Ej<|anI @Pw<|anI @GI<|anI @gN0<|anI @gN1<|anI @gN2<|anI @gN3<|anI @gN4<|anI @gN5<|anI @gN6<|anI @gN7<|anI @gN8<|anI @L8<|anI @M0<|anI @Oc<|anI @Ls<|anI @Pd<|anI @Hg<|anI @IJ<|anI @D0<|anI @RS.MQ<|anI @RS.N7<|anI @RS.MI<|anI @NG<|anI @Ld<|anI @Nz<|anI @DE<|anI @S_<|anI @SQ<|anI @Tn<|anI @T7<|anI @M8<|anI @Mm<|anI @Px<|anI @Oe<|anI @MN<|anI @Mt<|anI @Hr<|anI @Gz<|anI @GC<|anI @Hx<|anI @A9<|anI @T4<|anI @T6<|anI @TR<|anI @Ln<|anI @LD<|anI @Hv<|anI @Gx<|anI @Jt<|anI @C8<|anI @Ew<|anI @N9<|anI @Ml<|anI @TF<|anI @zQ<|anI @MS<|anI @GO<|anI @jb<|anI @N_<|anI @Lr<|anI @Dv<|anI @Tj<|anI @Sw<|anI @To<|anI @SS<|anI @Jj<|anI @Gn<|anI @GD<|anI @DW<|anI @Er<|anI @Di<|anI @Hh<|anI @TV<|anI @Mf<|anI @KU<|anI @Pc<|anI @MM<|anI @K5<|anI @Ou<|anI @Of<|anI @OY<|anI @MX<|anI @MV<|anI @L5<|anI @MG<|anI @LU<|anI @N3<|anI @NQ<|anI @Io<|anI @TU<|anI @SM<|anI @Xr<|anI @sets<|anI @rep0<|anI @reps<|anI @Xp<|anI @Yh<|anI @yq<|anI @GF<|anI @K2<|anI @LO<|anI @Tu<|anI @Sl<|anI @OF<|anI @MU<|anI @BD<|anI @Dm<|anI @O8<|anI @Hf<|anI @K4<|anI @HK<|anI @NC<|anI @Sy<|anI @Tr<|anI @IQ<|anI @Hw<|anI @NR<|anI @Dg<|anI @IZ<|anI @OJ<|anI @Oj<|anI @NL<|anI @LN<|@O_):=anI @R.kZ<|anI @R.G5<|anI @R.kF<|anI @RS.of_ok<|anI @RS.SK<|anI @jw<|anI @IL<|anI @eV0<|anI @eV1<|anI @eV2<|anI @eV3<|anI @eV4<|anI @eV5<|anI @eV6<|anI @eV7<|anI @eV8<|anI @Oa<|anI @OT<|anI @Mu<|anI @SY<|anI @Pe<|anI @M4<|anI @M_<|anI @Le<|anI @LL<|anI @Iz<|anI @IM<|anI @Hy<|anI @L6<|anI @Iq<|anI @HV<|anI @Jg<|anI @I0<|anI @HA<|anI @Ss<|anI @GY<|anI @Lq<|anI @GJ<|anI @IY<|anI @Fe<|anI @Jv<|anI @Ji<|anI @NP<|anI @HG<|anI @JD<|anI @IF<|anI @LP<|anI @Pk<|anI @Gw<|anI @O1<|anI @EK<|anI @GU<|anI @Li<|anI @Ho<|anI @Dt<|anI @Ie<|anI @Gs<|anI @Eo<|anI @O5<|anI @NH<|anI @SN<|anI @Tz<|anI @Ox<|anI @DT<|anI @GL<|anI @EG<|anI @KS<|anI @JA<|anI @lst?_ref<|anI @RS.OC<|anI @RS.Mr<|anI @RS.Ny<|anI @RS.K_<|anI @RS.Me<|anI @Jq<|anI @HS<|anI @Bj<|anI @ER<|anI @EA<|anI @HF<|anI @Ej<|anI @Pw<|anI @GI<|anI @gN0<|anI @gN1<|anI @gN2<|anI @gN3<|anI @gN4<|anI @gN5<|anI @gN6<|anI @gN7<|anI @gN8<|anI @L8<|anI @M0<|anI @Oc<|anI @Ls<|anI @Pd<|anI @Hg<|anI @IJ<|anI @D0<|anI @RS.MQ<|anI @RS.N7<|anI @RS.MI<|anI @NG<|anI @Ld<|anI @Nz<|anI @DE<|anI @S_<|anI @SQ<|anI @Tn<|anI @T7<|anI @M8<|anI @Mm<|anI @Px<|anI @Oe<|anI @MN<|anI @Mt<|anI @Hr<|anI @Gz<|anI @GC<|anI @Hx<|anI @A9<|anI @T4<|anI @T6<|anI @TR<|anI @Ln<|anI @LD<|anI @Hv<|anI @Gx<|anI @Jt<|anI @C8<|anI @Ew<|anI @N9<|anI @Ml<|anI @TF<|anI @zQ<|anI @MS<|anI @GO<|anI @jb<|anI @N_<|anI @Lr<|anI @Dv<|anI @Tj<|anI @Sw<|anI @To<|anI @SS<|anI @Jj<|anI @Gn<|anI @GD<|anI @DW<|anI @Er<|anI @Di<|anI @Hh<|anI @TV<|anI @Mf<|anI @KU<|anI @Pc<|anI @MM<|anI @K5<|anI @Ou<|anI @Of<|anI @OY<|anI @MX<|anI @MV<|anI @L5<|anI @MG<|anI @LU<|anI @N3<|anI @NQ<|anI @Io<|anI @TU<|anI @SM<|anI @Xr<|anI @sets<|anI @rep0<|anI @reps<|anI @Xp<|anI @Yh<|anI @yq<|anI @GF<|anI @K2<|anI @LO<|anI @Tu<|anI @Sl<|anI @OF<|anI @MU<|anI @BD<|anI @Dm<|anI @O8<|anI @Hf<|anI @K4<|anI @HK<|anI @NC<|anI @Sy<|anI @Tr<|anI @IQ<|anI @Hw<|anI @NR<|anI @Dg<|anI @IZ<|anI @OJ<|anI @Oj<|anI @NL<|anI @LN<|@O_
def bools:(∀b:Bool,cond false b b=b)/\(∀(α:Type) (x y:α),cond false x y=y)/\(∀(α:Type) (x y:α),cond true x y=x):=⟨λ_=>rfl,λ_ _ _=>rfl,λ_ _ _=>rfl⟩
def jP:(∀(x:Str) (xs:ar),(x::xs).length=xs.length+1)/\([]:ar).length=0/\(∀(x:A) (xs:ae),(x::xs).length=xs.length+1)/\([]:ae).length=0:=⟨λ_ _=>rfl,rfl,λ_ _=>rfl,rfl⟩
section
variable {τ:ae}{S:iQ}
def G9 {f:ae->iQ->R A}{d:se}:ZX f d τ S=(d τ S).bind f:=rfl
abbrev kRz (c:Str):Unit->iQ->RS:=λ_ S1=>.ex c S1
def K7 {c:Str}{u:Unit}:kRz c u S=.ex c S:=rfl
def Bo {c:Str}{ps:List<|Str ⊕ Ex}:Ug c ps τ S=RS.of (QI ps τ S) (kRz c):=rfl
def HL:QI [] τ S=.ok Unit.unit S:=rfl
def G1 {x:Str}{ps:List<|Str ⊕ Ex}:QI (.inl x::ps) τ S=QI ps τ S:=rfl
abbrev kFs (ps:List<|Str ⊕ Ex)(τ:ae):A->iQ->R Unit:=λv S1=>match v with
 | .int i=>gd (i.natAbs.log2<64) (QI ps τ S1)
 | _=>.no
def Jf {e:Ex}{ps:List<|Str ⊕ Ex}:QI (.inr e::ps) τ S=(e τ S).bind (kFs ps τ):=rfl
abbrev RS.try (i n:Nat)(cs:ar)(d:Sm):RS->RS
 | .ex x S1=>if x∈cs then TX i (d ((List.replicate n .unb).set i<|.exn x) S1)else .no
 | r=>r
def Hu {i n:Nat}{cs:ar}{c d:Sm}:Xd i n cs c d τ S=RS.try i n cs d (c τ S):=by
 unfold Xd RS.try;cases c τ S<;>rfl
def Mj {i n:Nat}{cs:ar}{d:Sm}:RS.try i n cs d (.nx τ S)=.nx τ S:=rfl
def O2 {i n:Nat}{cs:ar}{d:Sm}{a:A}:RS.try i n cs d (.rt a S)=.rt a S:=rfl
def Ly {i n:Nat}{x:Str}{cs:ar}{d:Sm}:RS.try i n (x::cs) d (.ex x S)=TX i (d ((List.replicate n .unb).set i<|.exn x) S):=aL<|.head _
def Mw {i:Nat}{a:A}:TX i (.rt a S)=.rt a S:=rfl
def Ng {i:Nat}:TX i (.nx τ S)=.nx (τ.set i .unb) S:=rfl
abbrev Xk (f:Str->bj):A->iQ->R A:=λv S1=>match v with
 | .exn x=>opt (f x) λb=>.ok (.bl b) S1
 | _=>.no
def Jk {f:Str->bj}{c:Ex}:Zm f c τ S=(c τ S).bind (Xk f):=rfl
def O7 {x:Str}{b:Bool}{tb:List<|Str×Bool}:Xk (tbX ((x,b)::tb)) (.exn x) S=.ok (.bl b) S:=by
 show opt (List.lookup x ((x,b)::tb)) _=_;rw[dR,bI];rfl
abbrev R.Oz {α β:Type}(r:R α)(f:α->iQ->R β):R β:=match r with
 | .ok a S=>f a S
 | _=>.no
def DN {α β:Type}{a:α}{f:α->iQ->R β}:R.Oz (.ok a S) f=f a S:=rfl
def Jl {f:ae->iQ->R A}{d:se}:Xl f d τ S=R.Oz (d τ S) f:=by unfold Xl R.Oz;cases d τ S<;>rfl
abbrev RS.ZS {α:Type}(r:R α)(f:α->iQ->RS):RS:=match r with
 | .ok a S=>f a S
 | _=>.no
def NY {α:Type}{a:α}{f:α->iQ->RS}:RS.ZS (.ok a S) f=f a S:=rfl
def IX {t:Te}{c d:Sm}:X3 t c d τ S=RS.ZS (t τ S) (YH c d τ):=by
 unfold X3 RS.ZS
 cases t τ S with
 | ok b S1=>cases b<;>rfl
 | ex _ _=>rfl
 | no=>rfl
abbrev RS.Pf (i:Nat)(cs:ar)(d:Sm)(τ:ae):RS->RS
 | .ex x S1=>if x∈cs then TX i (d (τ.set i<|.exn x) S1)else .no
 | r=>r
def DK {i:Nat}{cs:ar}{c d:Sm}:SI i cs c d τ S=RS.Pf i cs d τ (c τ S):=by
 unfold SI RS.Pf;cases c τ S<;>rfl
def GK {i:Nat}{cs:ar}{d:Sm}{τ':ae}:RS.Pf i cs d τ (.nx τ' S)=.nx τ' S:=rfl
def G_ {i:Nat}{cs:ar}{d:Sm}{a:A}:RS.Pf i cs d τ (.rt a S)=.rt a S:=rfl
def Ij {i:Nat}{x:Str}{cs:ar}{d:Sm}:RS.Pf i (x::cs) d τ (.ex x S)=TX i (d (τ.set i<|.exn x) S):=aL<|.head _
def EL:A.RE []=some []:=rfl
def w4 {b:Bool}{xs:ae}:A.RE (.bl b::xs)=(A.RE xs).map (b::·):=rfl
end
def lg:type_of% (anI @G9<|anI @Bo<|anI @K7<|anI @HL<|anI @G1<|anI @Jf<|anI @Hu<|anI @Mj<|anI @O2<|anI @Ly<|anI @Mw<|anI @Ng<|anI @Jk<|anI @O7<|anI @EL<|anI @w4<|anI @DN<|anI @Jl<|anI @NY<|anI @IX<|anI @DK<|anI @GK<|anI @G_<|anI @Ij<|trivial):=anI @G9<|anI @Bo<|anI @K7<|anI @HL<|anI @G1<|anI @Jf<|anI @Hu<|anI @Mj<|anI @O2<|anI @Ly<|anI @Mw<|anI @Ng<|anI @Jk<|anI @O7<|anI @EL<|anI @w4<|anI @DN<|anI @Jl<|anI @NY<|anI @IX<|anI @DK<|anI @GK<|anI @G_<|anI @Ij<|trivial
end Am
namespace Am
open PySem PySem.Spec PyProof.Rows L2
abbrev Df (K:au)(x:Str)(st:aF):Prop:=∃(f:ak) (fd:FuncData),PySem.W.nsIn K mainGlobals x=some (some<|.ref f)/\Fun K x x st f fd
inductive En (P:aj) (w:ah) (K:au) (mg:Str->bd) (base:aq):Prop
 | mk (h:aq) (X:K.In h) (G:h.Ns mainGlobals mg)
section
variable {P:aj}{w:ah}{K:au}{mg:Str->bd}{base:aq}{x:Str}{st:aF}{ps:ar}{k:Nat}{F:ae->iQ->R A}
def En.at(E:En P w K mg base){f:ak}(h:PySem.W.nsIn K mainGlobals x=some (some<|.ref f)):mg x=some (.ref f):=by
 obtain⟨_,X,G⟩:=E;exact gH X G h
def Df.of{f:ak}{kV pm ct:af}(a:PySem.W.nsIn K mainGlobals x=some (some<|.ref f))(l:K.lookup f=some ⟨oc,od,.func<|PySem.W.fnOf x x (uO st) (qm st) (iY st) .none kV doc pm an cdv ct,osl⟩)(c:PySem.W.codeIn K cdv x=true)(k:PySem.W.keepIn K (.ref f)=true):Df K x st:=⟨f,_,a,Wc l c k⟩
meta abbrev Bi (x:Str)(st:aF)(ps:ar):Prop:=∀us:ba,us.length=ps.length->∀(kV d g:af) (j:Option ak) (f ct:af),bindArgs (PySem.W.fnOf x x (uO st) (qm st) (iY st) .none kV d g j f ct) ⟨us,[]⟩=pure (ps.zip us)
def Df.get(d:Df K x st)(E:En P w K mg base)(b:Bi x st ps):∃f fd,Fun K x x st f fd/\mg x=some (.ref f)/\PySem.W.keepIn K (.ref f)=true/\Binds K fd ps []:=by
 obtain⟨f,fd,a,F⟩:=d;exact⟨f,fd,F,E.at a,F.kp,F.binds λkV j p m g ct us k=>b us k kV j p m g ct⟩
def Df.kA(d:Df K x st)(E:En P w K mg base)(h:∀{f fd},Fun K x x st f fd->FnOk P w K mg base oW k f fd ps (qe K ps.length F))(b:Bi x st ps):nK P w K mg base k x ps F:=by
 obtain⟨f,fd,a,c,e,g⟩:=d.get E b;exact⟨f,fd,h a,c,e,g⟩
def Df.rA(d:Df K x st)(E:En P w K mg base)(h:∀{f fd},Fun K x x st f fd->mg x=some (.ref f)->PySem.W.keepIn K (.ref f)=true->Binds K fd ps []->FnOk P w K mg base oW k f fd ps (qe K ps.length F))(b:Bi x st ps):nK P w K mg base k x ps F:=by
 obtain⟨f,fd,a,c,e,g⟩:=d.get E b;exact⟨f,fd,h a c e g,c,e,g⟩
end
section
variable {X:Cx}{pos p:Pos}{e1 e2 e3:aE}{x p1 p2 p3:Str}{k K0:Nat}{F:ae->iQ->R A}{c1 c2 c3:Ex}
def KH(G:nK X.prog X.w X.K X.mg X.base k x [p1] F)(hr:Room K0 X.A)(h1:AE X e1 c1)(hk:k<=K0:=by decide)(hg:Gl X x:=by rfl)(hdb:(x == ("__debug__" : Str))=false:=by decide)(s1:starEach [e1] X.env=(false,eval e1 X.env)::starEach [] X.env:=by rfl)(hp:(backTo pos<|starEach [] X.env).any (·.1)=false:=by rfl):AE X (.Call (.Name x p) [e1] [] pos) (eFn F<|iL c1 iW):=qu G (hr.mono hk) (iM h1 iU s1) (jd k_) hg hdb s1 hp
def vt(G:nK X.prog X.w X.K X.mg X.base k x [p1,p2] F)(hr:Room K0 X.A)(h1:AE X e1 c1)(h2:AE X e2 c2)(hk:k<=K0:=by decide)(hg:Gl X x:=by rfl)(hdb:(x == ("__debug__" : Str))=false:=by decide)(s1:starEach [e1,e2] X.env=(false,eval e1 X.env)::starEach [e2] X.env:=by rfl)(s2:starEach [e2] X.env=(false,eval e2 X.env)::starEach [] X.env:=by rfl)(hp:(backTo pos<|starEach [e2] X.env).any (·.1)=false:=by rfl):AE X (.Call (.Name x p) [e1,e2] [] pos) (eFn F<|iL c1<|iL c2 iW):=qu G (hr.mono hk) (iM h1 (iM h2 iU s2) s1) (jd<|jd k_) hg hdb s1 hp
def WA(G:nK X.prog X.w X.K X.mg X.base k x [p1,p2,p3] F)(hr:Room K0 X.A)(h1:AE X e1 c1)(h2:AE X e2 c2)(h3:AE X e3 c3)(hk:k<=K0:=by decide)(hg:Gl X x:=by rfl)(hdb:(x == ("__debug__" : Str))=false:=by decide)(s1:starEach [e1,e2,e3] X.env=(false,eval e1 X.env)::starEach [e2,e3] X.env:=by rfl)(s2:starEach [e2,e3] X.env=(false,eval e2 X.env)::starEach [e3] X.env:=by rfl)(s3:starEach [e3] X.env=(false,eval e3 X.env)::starEach [] X.env:=by rfl)(hp:(backTo pos<|starEach [e2,e3] X.env).any (·.1)=false:=by rfl):AE X (.Call (.Name x p) [e1,e2,e3] [] pos) (eFn F<|iL c1<|iL c2<|iL c3 iW):=qu G (hr.mono hk) (iM h1 (iM h2 (iM h3 iU s3) s2) s1) (jd<|jd<|jd k_) hg hdb s1 hp
def tB{N P:ar}{sc:Scope}(a:sc.kind=.function)(b:sc.isCoroutine=false)(c:sc.isGenerator=false)(h:N.Nodup/\N.take P.length=P/\(∀x∈P,sc.names.lookup x=some .local\/sc.names.lookup x=some .cell)/\∀y∈sc.names,y.2≠.free):FnScope N P sc:=⟨a,b,c,h.1,h.2.1,h.2.2.1,h.2.2.2⟩
end
abbrev jY (S:iQ)(n:Nat):Option (List<|Int×A):=match S[n]? with
 | some (.nV xs)=>some xs
 | _=>none
def pB{n:Nat}(h:jY S n=some xs):S[n]?=some (.nV xs):=by
 unfold jY at h;split at h
 ·rename_i e;cases h;exact e
 ·cases h
def BN{S:iQ}{n:Nat}(h:S[n]?=some (.nV xs)):jY S n=some xs:=by
 unfold jY;rw[h]
abbrev mF (kvs:List<|Int×A)(k:Int):Option A:=(kvs.find? λkv=>decide<|kv.1=k).map (·.2)
abbrev w9 (kvs:List<|Int×A)(k:Int)(v:A):List (Int×A):=
 if (mF kvs k).isSome=true then kvs.map (λkv=>if kv.1=k then(kv.1,v)else kv)else kvs++[(k,v)]
section
variable {K:au}{ρ:bb}{H:Hp}
def KO{p:Int×A}{r:List<|Int×A}{k:Int}(e:p.1=k):mF (p::r) k=some p.2:=by simp[mF,cK,e]
def J6{p:Int×A}{r:List<|Int×A}{k:Int}(e:¬p.1=k):mF (p::r) k=mF r k:=by simp[mF,cK,e]
def Ye{a b:Int}(e:(Sum.inl a:Key)=Sum.inl b):a=b:=by injection e
theorem DI.look:∀{kvs:List<|Int×A}{ks:List<|Key×V}(k:Int),DI K ρ H kvs ks->(mF kvs k).isSome=(vj ks (Sum.inl k:Key)).isSome/\∀x,mF kvs k=some x->∃v,vj ks (Sum.inl k:Key)=some v/\AV K ρ H x v
 | [],[],k,_=>⟨rfl,λx h=>nomatch h⟩
 | p::r,q::r',k,⟨⟨e,a⟩,t⟩=>by
  by_cases c:p.1=k
  ·have d:q.1=(Sum.inl k:Key):=by rw[e,c]
   rw[KO c,v9 d];exact⟨rfl,λx h=>by cases h;exact⟨_,rfl,a⟩⟩
  ·have d:¬q.1=(Sum.inl k:Key):=λz=>c<|Ye<|e.symm.trans z;rw[J6 c,wR d];exact DI.look k t
theorem DI.repl{x:A}{v:V}(h:AV K ρ H x v)(k:Int):∀{kvs:List<|Int×A}{ks:List<|Key×V},DI K ρ H kvs ks->DI K ρ H (kvs.map λkv=>if kv.1=k then(kv.1,x)else kv) (ks.map λkv=>if kv.1=(Sum.inl k:Key)then(kv.1,v)else kv)
 | [],[],_=>trivial
 | p::r,q::r',⟨⟨e,a⟩,t⟩=>by
  refine⟨?_,DI.repl h k t⟩;dsimp only;by_cases c:p.1=k
  ·rw[aL c,aL<|by rw[e,c]];exact⟨e,h⟩
  ·rw[aK c,aK λz=>c<|Ye<|e.symm.trans z];exact⟨e,a⟩
theorem DI.snoc{x:A}{v:V}(h:AV K ρ H x v)(k:Int):∀{kvs:List<|Int×A}{ks:List<|Key×V},DI K ρ H kvs ks->DI K ρ H (kvs++[(k,x)]) (ks++[(Sum.inl k,v)])
 | [],[],_=>⟨⟨rfl,h⟩,trivial⟩
 | p::r,q::r',⟨a,t⟩=>⟨a,DI.snoc h k t⟩
def DI.put{x:A}{v:V}(h:AV K ρ H x v)(k:Int){ks:List<|Key×V}(d:DI K ρ H kvs ks):DI K ρ H (w9 kvs k x) (putK ks (Sum.inl k:Key) v):=by
 unfold w9 putK;rw[zu,<- (d.look k).1];by_cases c:(mF kvs k).isSome=true
 ·rw[aL c,aL c];exact DI.repl h k d
 ·rw[aK c,aK c];exact DI.snoc h k d
def DI.length:∀{kvs:List<|Int×A}{ks:List<|Key×V},DI K ρ H kvs ks->kvs.length=ks.length
 | [],[],_=>rfl
 | _::_,_::_,⟨_,t⟩=>dG (·+1) t.length
theorem DI.keys:∀{kvs:List<|Int×A}{ks:List<|Key×V},DI K ρ H kvs ks->ks.map (·.1)=kvs.map λkv=>(Sum.inl kv.1:Key)
 | [],[],_=>rfl
 | _::_,_::_,⟨⟨e,_⟩,t⟩=>by rw[bM,bM,e,DI.keys t]
def Rel.nV{n:Nat}{a:ak}(R:Rel K ρ H S)(ha:ρ[n]?=some a)(hS:S[n]?=some (.nV xs)):∃vs,H a=some (.dK vs)/\DI K ρ H xs vs:=R.at n a _ ha hS
def Rel.Yc{S:iQ}{p:ak}(R:Rel K ρ H S)(hp:H p=none)(r:DI K ρ H xs vs):Ext ρ (ρ++[p]) H (upd H p<|.dK vs)/\Rel K (ρ++[p]) (upd H p<|.dK vs) (S++[.nV xs])/\(ρ++[p])[S.length]?=some p:=by
 have ex:Ext ρ (ρ++[p]) H (upd H p<|.dK vs):=⟨⟨eY _ _,λa u _ h=>by rw[iZ<|je h hp];exact h⟩,λa u h _=>by rw[iZ<|je h hp];exact h,λa h=>by
  rcases bF.mp h with z|z
  ·exact .inl z
  ·have e:a=p:=by simpa using z
   rw[e];exact .inr hp⟩
 have f:p∉ρ:=R.IU hp;have last:(ρ++[p])[S.length]?=some p:=by rw[<- R.len];simp
 refine⟨ex,⟨by simp[R.len],?_,?_⟩,last⟩
 ·rw[c8];refine⟨R.nd,by simp,λa j b g e=>?_⟩;have:b=p:=by simpa using g
  exact f<|by rw[<- this,<- e];exact j
 ·intro n a o h1 h2;by_cases hn:n<S.length
  ·rw[bB<|by rw[R.len];exact hn]at h1;rw[bB hn]at h2;have na:a≠p:=λz=>f (by rw[<- z];exact aX h1);have:=R.at n a o h1 h2
   cases o with
   | lst ys=>obtain⟨d,e,q⟩:=this;exact⟨d,by rw[iZ na];exact e,q.ext ex⟩
   | dct _|nV _|tH _=>obtain⟨d,e,q⟩:=this;exact⟨d,by rw[iZ na];exact e,q.ext ex⟩
   | ins _ _=>obtain⟨m,k,e⟩:=this;exact⟨m,k,by rw[iZ na];exact e⟩
  ·have e:n=S.length:=by
    have:=(aN.mp h2).1;simp at this
    lia
   subst e;rw[last]at h1
   cases h1
   simp at h2;subst h2;exact⟨vs,jT,r.ext ex⟩
def Rel.w9{S:iQ}{n:Nat}{a:ak}(R:Rel K ρ H S)(ha:ρ[n]?=some a)(hS:S[n]?=some (.nV xs))(r:DI K ρ H ys ws):Ext ρ ρ H (upd H a<|.dK ws)/\Rel K ρ (upd H a<|.dK ws) (S.set n<|.nV ys):=by
 obtain⟨vs,e,_⟩:=R.at n a _ ha hS;have ex:Ext ρ ρ H (upd H a<|.dK ws):=⟨⟨dS _,λb u i h=>by
  have:b≠a:=by
   intro z;subst z;rw[e]at h;cases h;exact i
  rw[iZ this];exact h⟩,λb u h n=>by
  rw[iZ λz=>n<|by rw[z];exact aX ha];exact h,λ_ h=>.inl h⟩
 refine⟨ex,by rw[bV];exact R.len,R.nd,λm b o h1 h2=>?_⟩;by_cases g:m=n
 ·subst g;rw[ha]at h1;cases h1;rw[bH (aN.mp hS).1]at h2
  cases h2
  exact⟨ws,jT,r.ext ex⟩
 ·rw[bL<|cP g]at h2;have nb:b≠a:=λz=>by
   subst z;obtain⟨B,e1⟩:=aN.mp ha;obtain⟨p,e2⟩:=aN.mp h1;exact g<|(dw R.nd).mp<|e2.trans e1.symm
  have:=R.at m b o h1 h2
  cases o with
  | lst ys=>obtain⟨d,f,q⟩:=this;exact⟨d,by rw[iZ nb];exact f,q.ext ex⟩
  | dct _|nV _|tH _=>obtain⟨d,f,q⟩:=this;exact⟨d,by rw[iZ nb];exact f,q.ext ex⟩
  | ins _ _=>obtain⟨k,j,f⟩:=this;exact⟨k,j,by rw[iZ nb];exact f⟩
end
section
variable {X:Cx}{pos:Pos}{a b:aE}
abbrev xE (x y:A)(S:iQ):R A:=match x,y with
 | .ref n,.int k=>opt (jY S n) λd=>opt (mF d k) λv=>.ok v S
 | _,_=>.no
def Kz{x:A}{P:A->iQ->Prop}{E:Str->iQ->Prop}(h:(xE x y S).post P E):∃n k kvs v,x=.ref n/\y=.int k/\jY S n=some kvs/\mF kvs k=some v/\P v S:=by
 unfold xE at h;split at h
 ·obtain⟨kvs,h1,h⟩:=iX h;obtain⟨v,h2,h⟩:=iX h;exact⟨_,_,kvs,v,rfl,rfl,h1,h2,h⟩
 ·exact h.elim
def XQ(hu:X.A.units+64<cLine):QK X (r2 X xE):=λvalue slice pins s σ H x y v u Q I rx ry ⟨ρ,S,a,b,R,va,vb,h⟩ hs=>by
 obtain⟨n,k,q,z,m,f,hn,hz,hP⟩:=Kz h;subst m f
 cases vb
 cases va with
 | @ref p _ hp=>
  obtain⟨ks,e,d⟩:=R.nV hp<|pB hn;obtain⟨w,hw,j⟩:=(d.look k).2 z hz;have g:Co H p (kV<|Sum.inl k) (vj ks<|Sum.inl k):=Co.k e;rw[hw]at g;exact Q6 () value slice pins s σ H _ _ v u Q I rx ry ⟨p,w,rfl,g,hP _ _ _ .refl R j⟩ hs
def BX(hu:X.A.units+64<cLine){ca cb:Ex}(ha:AE X a ca)(hb:AE X b cb)(hs:yH b:=by exact λ_ _=>rfl):AE X (.Subscript a b pos) (iR xE ca cb):=PE.imp (Lg (XQ hu) ha hb hs) λσ H Q h=>uT h
abbrev A1 (o i v:A)(S:iQ):R Unit:=match o,i with
 | .ref n,.int k=>opt (jY S n) λd=>gd (d.length<sizeLine) (.ok Unit.unit<|S.set n<|.nV<|w9 d k v)
 | _,_=>.no
def FY{x v:A}{S:iQ}{P:Unit->iQ->Prop}{E:Str->iQ->Prop}(h:(A1 x y v S).post P E):∃n k kvs,x=.ref n/\y=.int k/\jY S n=some kvs/\kvs.length<sizeLine/\P Unit.unit (S.set n<|.nV<|w9 kvs k v):=by
 unfold A1 at h;split at h
 ·obtain⟨kvs,h1,h⟩:=iX h;obtain⟨h2,h⟩:=jm h;exact⟨_,_,kvs,rfl,rfl,h1,h2,h⟩
 ·exact h.elim
abbrev ZL (X:Cx):DJ:=λo i v H Q=>∃ρ S g d f,Rel X.K ρ H S/\AV X.K ρ H g o/\AV X.K ρ H d i/\AV X.K ρ H f v/\(A1 g d f S).post (λ_ j=>∀ρ' H',Ext ρ ρ' H H'->Rel X.K ρ' H' j->Q H') (XE X ρ H)
def RN(hu:X.A.units+64<cLine):DU X (ZL X):=λpins s σ H o i v ov iv u Q I B j rv h9=>by
 obtain⟨ρ,S,F,C,G,R,h1,h2,h3,h⟩:=h9;obtain⟨n,k,z,m,g,hn,f,hP⟩:=FY h;subst m g
 cases h2
 cases h1 with
 | @ref p _ hp=>
  obtain⟨ks,e,d⟩:=R.nV hp<|pB hn;obtain⟨ex,q⟩:=R.w9 hp (pB hn)<|d.put h3 k;exact set_dict (by omega) pins s σ H _ _ v ov iv u Q I B j rv ⟨p,_,rfl,LA.k (k:=Sum.inl k) e<|by rw[<- d.length];exact f,hP _ _ ex q⟩
abbrev EF (co ci:Ex):Tg:=λa τ S=>(co τ S).bind λo S1=>(ci τ S1).bind λi S2=>(A1 o i a S2).bind λ_ S3=>.ok τ S3
def yQ(hu:X.A.units+64<cLine){co ci:Ex}(ho:AE X o co)(hi:AE X i ci)
  (ha:∀v,assign (.Subscript o i pos) X.env v=(do
   let ov <- holding [v] (eval o X.env)
   let iv <- holding [v,ov] (eval i X.env)
   standAt pos
   holding [v,ov,iv] (setItem ov iv v)
   release [v,ov,iv] []):=by intro _;rfl):AG X (.Subscript o i pos) (EF co ci):=PG.imp (F0 ho hi (RN hu) ha) λv σ H Q h9=>by
 obtain⟨ρ,S,τ,a,R,r,va,h⟩:=h9;kcj_m;kpc_g;f_are
abbrev Ao:Ex:=λ_ S=>.ok (.ref S.length)<|S++[.nV []]
def zG:AE X (.Dict [] [] pos) Ao:=PE.imp LG λσ H Q ⟨ρ,S,τ,R,r,h⟩ p hp=>by
 obtain⟨ex,f,d⟩:=R.Yc (xs:=[]) (vs:=[]) hp trivial;exact h _ _ _ ex f<|.ref d
abbrev dk? (a:A)(S:iQ):Option Unit:=match a with
 | .ref n=>(jY S n).map λ_=>Unit.unit
 | _=>none
abbrev DR (f:A->ae->iQ->R A)(co:Ex)(d:se):Ex:=λτ S=>(co τ S).bind λx S1=>opt (dk? x S1) λ_=>(d τ S1).bind λg S2=>f x g S2
def dk?_ty{K:au}{H:Hp}{x:A}{v:V}(R:Rel K ρ H S)(a:AV K ρ H x v)(e:dk? x S=some u):YU K "dict" v H:=by
 cases a with
 | @ref p n h=>
  obtain⟨xs,d,_⟩:=a_.mp e;obtain⟨vs,h1,_⟩:=R.nV h<|pB d;exact .inr<|.inr<|.inl ⟨rfl,.inl ⟨vs,h1⟩⟩
 | _=>cases e
theorem Ca{e:aE}{id:String}{apos cpos:Pos}{f:A->ae->iQ->R A}{co:Ex}{d:se}(slot:Slot "dict" name id)(hty:typeOf (.builtin id)=pure (.type "method_descriptor"))(hm:WL X id<|rM X f)(ho:AE X o co)(ha:AL X (e::es) d)
  (hbase:attributeBase o name X.env (eval o X.env)=eval o X.env:=by rfl)
  (hfew:((backTo cpos<|starEach (e::es) X.env).all (λx=>!x.1) && (backToKw cpos<|keywordEach [] X.env).all (λx=>x.1.isSome)
   && decide ((e::es).length+([]:List Keyword).length+(if ([]:List Keyword).isEmpty then 0 else 1)<30))=true:=by rfl)
  (hline:(apos.endLine == cpos.line)=true:=by rfl) (hs:starEach (e::es) X.env=(false,eval e X.env)::starEach es X.env:=by rfl) (hplain:(backTo cpos<|starEach es X.env).any (·.1)=false:=by rfl) :
  AE X (.Call (.Attribute o name apos) (e::es) [] cpos) (DR f co d):=PE.imp (SJ PySem.F.plainAttrs_dict slot hty hm ho ha hbase hfew hline hs hplain) λσ H Q h9=>by
 z_go;refine⟨ρ,S,τ,R,r,iO (iV h) .refl λx S1 h1 ρ1 H1 v e1 R1 v1=>?_⟩;obtain⟨xs,j,h1⟩:=iX h1;refine⟨dk?_ty R1 v1 j,ρ1,S1,τ,R1,r.ext e1,iO (iV h1) e1 λg S2 h2 ρ2 H2 vs e2 R2 v2=>?_⟩;exact⟨ρ2,S2,x,g,R2,v1.ext e2,v2,iO h2 (e1.trans e2) λ_ _ z=>z.ext<|e1.trans e2⟩
abbrev vc (o:A)(as:ae)(S:iQ):R A:=match o,as with
 | .ref n,[.int k,y]=>opt (jY S n) λd=>.ok ((mF d k).getD y) S
 | _,_=>.no
def FW{x:A}{P:A->iQ->Prop}{E:Str->iQ->Prop}(h:(vc x as S).post P E):∃n k y kvs,x=.ref n/\as=[.int k,y]/\jY S n=some kvs/\P ((mF kvs k).getD y) S:=by
 unfold vc at h;split at h
 ·obtain⟨kvs,h1,h⟩:=iX h;exact⟨_,_,_,kvs,rfl,rfl,h1,h⟩
 ·exact h.elim
def Ck(hu:X.A.units+64<cLine):WL X "dict.get" (rM X vc):=λpins s σ H x vs v us Q I rx rv h9=>by
 obtain⟨ρ,S,o,M,R,F,va,h⟩:=h9;obtain⟨n,k,y,f,C,has,hn,hP⟩:=FW h;subst C has;obtain⟨L,G,rfl,hz,hy⟩:=Wj va
 cases hz
 cases F with
 | @ref p _ hp=>
  obtain⟨ks,h1,B⟩:=R.nV hp (pB hn)
  cases rx
  obtain⟨K,N,rfl,r1,r2⟩:=vals2 rv;refine Ws (by omega) I (Co.k (k:=Sum.inl k) h1) r1 r2 λJ s' q g=>⟨_,H,q,g,hP _ _ _ .refl R ?_⟩;obtain⟨d,j⟩:=B.look k
  cases e1:mF f k with
  | none=>
   rw[e1]at d
   cases e2:vj ks (Sum.inl k:Key)with
   | none=>exact hy
   | some _=>rw[e2]at d;cases d
  | some z=>
   obtain⟨v1,e2,m⟩:=j z e1;rw[e2];exact m
end
end Am
namespace L2
open PySem PySem.Spec PyProof.Rows
section
variable {P:aj}{w:ah}{A:aA}{E:af->aC->Prop}{s:aC}
def JN:typeLookup (.type "list") "keys" = pure none:=am_miss_of_fast<|by kernel_rfl
def JW{a:ak}{o:Obj}{k:Nat}{Q:bd->aC->Prop}(hx:s.heap.get? a=some o)(hc:o.cls=.type "list")(hdat:o.data=.seq xs k)(hd:o.dict=none)(hA:A.handled=none)
  (h:∀h' tk,(∀b ob,s.heap.get? b=some ob->h'.get? b=some ob)->Q none { s with heap:=h',toks:=tk }):wpAny (model P w) A (getAttr? (.ref a) "keys") Q E s:=by
 obtain⟨c,dct,z,p⟩:=o;simp only at hc hdat hd;subst hc hdat hd;obtain⟨hp,g,d,tk,q⟩:=s;have m:∀j,(⟨hp,g,d,j,q⟩:aC).TypeIs (.ref a) "list" := λ_=>⟨_,hx,rfl⟩;have f1:=sub_AttributeError;have f3:=fS.lookup;have f4:=fS.bind<|.ref a;have f5:=am_list_getattr_none;unfold getAttr? getAttrBy? getAttrBy
 repeat (any_goals (first|assumption|exact m _|((with_reducible show wpAny _ _ (call (Value.builtin "list.__getattribute__") _ _) _ _ _);refine iz fS (m _) am_entry_list_getattribute (F.args_list_getattribute_2 _ _) (meets_getattribute_miss_list a xs k p "keys" _ JN ⋯ (by size_fits)) ⟨hx,hA,λh' j e f=>?_⟩)|wp_step))
 obtain⟨B,G,C⟩:=f.there
 skip
 unfold getattributeRaised
 repeat (any_goals (first|assumption|wp_step))
 exact h _ _ f.keeps
def Ba:entryFor table "dict.update.loop" = some Builtin.«dict.update.loop»:=entryFor_of_tree<|by kernel_rfl
def uQ:plainId "dict.update.loop" = true:=by decide +kernel
abbrev NO (h:aq)(d I:ak)(its:ba)(ps:List<|Int×af):Prop:=∀(i:Nat) (v:af),its[i]?=some v->∃(b:ak) (p:Int×af) (t:Tok),v=.ref b/\b≠d/\b≠I/\ps[i]?=some p/\IsTup h b #[.int p.1 t,p.2]
def NO.mono{h h':aq}{d:ak}(x:NO h d I its ps)(k:∀b o,b≠d->b≠I->h.get? b=some o->h'.get? b=some o):NO h' d I its ps:=λi v hv=>by
 obtain⟨b,p,t,h1,h2,h3,f,o,j,g⟩:=x i v hv;exact⟨b,p,t,h1,h2,h3,f,o,k b o h2 h3 j,g⟩
abbrev VI (ps:List<|Int×af):List (Key×af):=ps.foldl (λacc p=>stored acc (Sum.inl p.1) p.2) []
def Nc(ps:List<|Int×af)(i:Nat)(p:Int×af)(h:ps[i]?=some p):VI (ps.take<|i+1)=stored (VI<|ps.take i) (Sum.inl p.1) p.2:=by
 unfold VI;rw[gu,h,fF];rfl
theorem II:∀(ps:List<|Int×af) (acc:List<|Key×af),(ps.foldl (λacc p=>stored acc (Sum.inl p.1) p.2) acc).length<=acc.length+ps.length
 | [],acc=>aQ _
 | p::ps,acc=>by
  have:=II ps<|stored acc (Sum.inl p.1) p.2;have h:(stored acc (Sum.inl p.1) p.2).length<=acc.length+1:=by
   unfold stored;split
   ·rw[aH];lia
   ·rw[aY];exact aQ _
  rw[d8,bq]
  lia
def MW{R:Result->aC->Prop}{I d:ak}{St:Nat->aq->Prop}{its:ba}{ps:List<|Int×af}(W:Walks P w A.in1 I [I,l] [I] its.length (λi v=>its[i]?=some v) St)(hdI:d≠I)(hdl:d≠l)(hl:ps.length=its.length)(hz:ps.length<=sizeLine) :
  ∀(k i:Nat) (s:aC),its.length-i=k->i<=its.length->St i s.heap->s.heap.DictOf (jH P w) d (VI<|ps.take i)->NO s.heap d I its ps ->
   (∀h' tk,h'.DictOf (jH P w) d (VI ps)->(∀b o,b≠d->b≠I->s.heap.get? b=some o->h'.get? b=some o)->R (.ok<|.ret .none) { s with heap:=h',toks:=tk }) ->
   codeAny (model P w) A (.builtin "dict.update.loop" ⟨[.ref d,.ref I,rawInt i,.none],[]⟩) R s:=by
 intro k
 induction k with
 | zero=>
  intro i s hk hi g J hP U;have L:i=its.length:=()
  subst L;refine gM Ba ?_;rw[fJ uQ _]
  skip
  refine aI (W.done s _ _ g λh' tk m=>?_)
  skip
  refine aI (aR<|aR<|U h' tk ?_ λb o _ h2 e=>m b o (by simpa using h2) e);rw[<- hl,fP]at J;obtain⟨o,es,V,B,rest⟩:=J;exact⟨o,es,V,m d o (by simpa using hdI) B,rest⟩
 | succ k ih=>
  intro i s hk hi g J hP U;have F:i<its.length:=()
  refine gM Ba ?_;rw[fJ uQ _]
  skip
  refine aI<|W.item i s _ _ F g λv h' tk hv G m=>?_;have Y:NO h' d I its ps:=hP.mono λb o h1 h2 e=>m b o (by simpa using h2) e;obtain⟨b,p,t,rfl,hbd,hbI,hp,o,B,hc,n,hd⟩:=Y i v hv;have T:h'.DictOf (jH P w) d (VI<|ps.take i):=by
   obtain⟨o,es,V,B,rest⟩:=J;exact⟨o,es,V,m d o (by simpa using hdI) B,rest⟩
  have hT:Shared.TypeIs { s with heap:=h',toks:=tk } (.ref b) "tuple" := ⟨o,B,hc⟩;have j:∀(A:aA) (E:af->aC->Prop) (Q:ba->aC->Prop),Q [.int p.1 t,p.2] { s with heap:=h',toks:=tk }->wpAny (model P w) A (Builtin.Dict.pairItems<|.ref b) Q E { s with heap:=h',toks:=tk }:=λA E Q q=>by
   unfold Builtin.Dict.pairItems;refine aI<|fM hT ?_;rw[aL ⋯];refine aI<|wpAny_seqItems B hd<|aR q
  have C:(VI<|ps.take i).length<=sizeLine:=by
   refine bP (II (ps.take i) []) ?_;rw[aW,b8]
   lia
  refine aI (c_<|aI<|wpAny_tryCatch<|j _ _ _ ?_)
  skip
  refine c_ (wpAny_dictSet_pairs (hsz:=C) (knd:=jH P w) (k:=Sum.inl p.1) (s:={ s with heap:=h',toks:=tk }) (show Value.isInt p.1 (.int p.1 t)=true by simp[Value.isInt]) T λh2 O hs=>?_);refine aR ⟨plainId_quiet uQ _,?_⟩;have f:∀b o,b≠d->b≠I->s.heap.get? b=some o->h2.get? b=some o:=λb o h3 K e=>by rw[hs.2 b h3];exact m b o (by simpa using K) e
  refine ih (i+1) _ () F (W.frame _ _ _ G λb hb o e=>?_) (by rw[Nc ps i p hp];exact O) (hP.mono f) λh3 N M hs3=>U h3 N M λb o K h5 e=>hs3 b o K h5<|f b o K h5 e;have Z:b≠d:=by
   intro z;subst z
   rcases bE.mp hb with z|z
   ·exact hdI z
   ·exact hdl<|by simpa using z
  skip
  rw[hs.2 b Z];exact e
theorem Bu{H:Hp}{X:Cx}(I:Inv X pins σ H s):∀(rs:bb) (ps:List<|Int×V),rs.length=ps.length->(∀(i:Nat) (r:ak) (q:Int×V),rs[i]?=some r->ps[i]?=some q->nG X.K H r [.int q.1,q.2]) ->
  ∃qs:List<|Int×af,KV ps qs/\∀(i:Nat) (r:ak),rs[i]?=some r->∃q t,qs[i]?=some q/\IsTup s.heap r #[.int q.1 t,q.2]
 | [],[],_,_=>⟨[],.nil,λi r h=>by simp at h⟩
 | [],_::_,h,_=>nomatch h
 | _::_,[],h,_=>nomatch h
 | r::rs,p::ps,hl,hh=>by
  obtain⟨qs,h1,h2⟩:=Bu I rs ps (by simpa using hl) λi r q e1 e2=>hh (i+1) r q (by simpa using e1) (by simpa using e2);obtain⟨its,rv,j,_⟩:=I.tuple<|hh 0 r p rfl rfl;obtain⟨g,d,rfl,r1,r2⟩:=vals2 rv;obtain⟨t,rfl⟩:∃t,g=Value.int p.1 t:=r1;refine⟨(p.1,d)::qs,.cons ⟨rfl,r2⟩ h1,λi f e=>?_⟩
  cases i with
  | zero=>cases e;exact⟨(p.1,d),t,rfl,j⟩
  | succ i=>exact h2 i f<|by simpa using e
abbrev Y4 (ps:List<|Int×V):List (Key×V):=ps.foldl (λacc p=>putK acc (Sum.inl p.1) p.2) []
def Xv:∀{ps:List<|Int×V}{qs:List<|Int×af},KV ps qs->∀{as:List<|Key×V}{bs:List<|Key×af},KV as bs->KV (ps.foldl (λacc p=>putK acc (Sum.inl p.1) p.2) as) (qs.foldl (λacc p=>stored acc (Sum.inl p.1) p.2) bs):=by
 intro ps qs h;unfold KV at h
 induction h with
 | nil=>exact λh=>h
 | @cons p q ps qs h t d=>
  intro as bs h2;rw[d8,d8];obtain⟨e,r⟩:=h;rw[e];exact d<|h2.put _ r
theorem GZ:∀(ps:List<|Int×V) (acc:List<|Key×V),(ps.foldl (λacc p=>putK acc (Sum.inl p.1) p.2) acc).length<=acc.length+ps.length
 | [],acc=>aQ _
 | p::ps,acc=>by
  have:=GZ ps<|putK acc (Sum.inl p.1) p.2;have:=uv acc (Sum.inl p.1) p.2;rw[d8,bq]
  lia
end
section
variable {X:Cx}
def FH(hc:X.calm=true):jo X (.type "dict") (λxs H Q=>∃(p:ak) (rs:bb) (ps:List<|Int×V),xs=[.ref p]/\lT X.K H p (rs.map V.ref)/\rs.length=ps.length /\
  (∀(i:Nat) (r:ak) (q:Int×V),rs[i]?=some r->ps[i]?=some q->nG X.K H r [.int q.1,q.2])/\∀l,H l=none->Q (.ref l) (upd H l<|.dK<|Y4 ps)):=by
 w_up;obtain⟨p,rs,ps,rfl,hq,z,Y,q⟩:=h;kj_on
 cases rx
 o_rec;have ei:=BC rv;subst ei;rw[aH]at hz;obtain⟨O,kv,tp⟩:=Bu I rs ps z Y;have ql:ps.length=O.length:=kv.length;obtain⟨o,n,P,k,G,hd⟩:=pl;have lp:p<s.heap.objs.size:=bg P;refine callType_codes (Q₁:=λB j=>B=.ref s.heap.objs.size/\j={ s with heap:=s.heap.push { cls:=.type "dict",data:=.dict #[]}}) F.kt_called_dict (F.kt_typeCall_dict_1 _) F.entry_dict_init (kt_code_dict_new _ ⟨rfl,rfl⟩) ?_;rintro B j ⟨rfl,rfl⟩;have f:(s.heap.push { cls:=.type "dict",data:=.dict #[]}).DictOf (jH X.prog X.w) s.heap.objs.size []:=Heap.DictOf.new s.heap;have g:(s.heap.push { cls:=.type "dict",data:=.dict #[]}).get? p=some o:=aT _ P;have J:Shared.TypeIs { s with heap:=s.heap.push { cls:=.type "dict",data:=.dict #[]}} (.ref p) "list" := ⟨o,g,k⟩;refine⟨f.typeIs,F.args_dict_init_2 _ _,?_⟩;unfold Builtin.«dict.__init__»;refine aI ?_;unfold Builtin.Dict.selfAndRest;refine aI (wpAny_notOrdered_dict f.typeIs ?_)
 skip
 refine aR ?_;show wpAny _ _ (Builtin.Dict.updateFrom "dict.__init__" s.heap.objs.size (.ref p) [] .none) _ _ _;unfold Builtin.Dict.updateFrom;refine aI<|fM J ?_;rw[aL ⋯];refine aI<|JW g k hd G (show X.A.in1.in1.handled=none from I.ok.hd hc) λh' tk m=>?_;rw[aL<|by rfl];refine aI<|dW ?_;have C:h'.IsList p (rs.map Value.ref).toArray:=⟨o,m p o g,k,n,hd⟩;refine aI<|g9 (s:={ s with heap:=h',toks:=tk }) C ?_;refine aR ⟨plainId_quiet uQ _,?_⟩;have sz:s.heap.objs.size<h'.objs.size:=bg<|m _ _<|bG _ rfl;have W:Walks X.prog X.w X.A.in1.in1 h'.objs.size [h'.objs.size,p] [h'.objs.size] (rs.map Value.ref).length (λi v=>(rs.map Value.ref)[i]?=some v) (λi h=>h.IsListIter h'.objs.size p i/\h.IsList p (rs.map Value.ref).toArray):=by
  have W:=Walks.list (prog:=X.prog) (w:=X.w) (A:=X.A.in1.in1) (I.ok.hd hc) h'.objs.size p (bC<|bg<|m p o g) (rs.map Value.ref).toArray;rw[aZ]at W;dsimp[dY]at W;exact W
 refine MW (d:=s.heap.objs.size) (its:=rs.map Value.ref) (ps:=O) W (bC sz) (cP<|bC lp) (by rw[aH];lia) () (rs.map Value.ref).length 0 _ () (cE _)
  ⟨⟨_,bG _ rfl,rfl,rfl⟩,C.push _⟩ ?_ (λi v hv=>?_) λh2 L Z hs=>⟨rfl,.ref s.heap.objs.size,_,I.laid (t':=L) (o:=.dK<|Y4 ps) (λb U T=>?_) (aQ _) ?_,rfl,q _<|I.hok.fresh<|aQ _⟩
 ·obtain⟨o,es,ep,e,rest⟩:=f;exact⟨o,es,ep,aT _<|m _ _ e,rest⟩
 ·rw[bh]at hv;obtain⟨r,hr,rfl⟩:=a_.mp hv;obtain⟨q,t,h1,o2,h2,h3⟩:=tp i r hr;have M:=bg h2;exact⟨r,q,t,rfl,bC M,bC<|iB M sz,h1,o2,aT _<|m _ _<|aT _ h2,h3⟩
 ·have N:=bg T;exact hs b U (bC N) (bC<|iB N sz) (aT _<|m _ _<|aT _ T)
 ·refine MP (bP (GZ ps [])<|by rw[b8];lia) ?_ (Xv kv .nil) Z;exact cG.mpr<|cP<|bC I.big
abbrev Qs (ns:ag):Sx.Ord where
 lt i j:=decide (ns.getD i 0<ns.getD j 0)
 Rz i:=aS (by omega)
 tr i j k h1 h2:=aP (by have:=bS h1;have:=bS h2;omega)
 neg i j k h:=by
  have:=bS h;by_cases c:ns.getD i 0<ns.getD j 0
  ·exact .inl (aP c)
  ·exact .inr<|aP<|by omega
theorem yx:∀{vs:ba}{ns:ag},IntsAre vs ns->vs.length=ns.length/\∀i,i<vs.length->∃t,vs.getD i .none=.int (ns.getD i 0) t
 | _,_,.nil=>⟨rfl,λi h=>absurd h<|dM _⟩
 | _,_,.cons n t h=>by
  obtain⟨h1,h2⟩:=yx h;refine⟨dG (·+1) h1,λi hi=>?_⟩
  cases i with
  | zero=>exact⟨t,rfl⟩
  | succ i=>exact h2 i<|by simpa using hi
theorem ze{f:Nat->Int}{h:Nat->af}:∀(l:ap),(∀i∈l,∃t,h i=.int (f i) t)->Vals (l.map λi=>V.int<|f i) (l.map h)
 | [],_=>.nil
 | i::l,e=>.cons (e i<|aM ..)<|ze l λj d=>e j<|aO _ d
def Fc{s:aC}{H:Hp}{Q:VK}{h':aq}{tk:Nat}{vs:ba}{ns:ag}(I1:Inv X pins σ H { s with heap:=h',toks:=tk })(hi:IntsAre vs ns)(hz:vs.length<=sizeLine)
  (q:∀l g,H l=none->Sx.Cl g 0 ns.length->Sx.So (Qs ns) g 0 ns.length->Q (.ref l) (upd H l<|.lst<|(List.range ns.length).map λi=>V.int<|ns.getD (g i) 0)) :
  wpAny (model X.prog X.w) X.A.in1 (do
   let l <- newList vs
   let _ <- holding [l] (call (Value.builtin "list.sort") [l] [])
   ret l) (λfin s'=>∃v,fin=Fin.done (Flow.ret v)/\EP X pins σ Q v s') X.xe { s with heap:=h',toks:=tk }:=by
 obtain⟨B,at_⟩:=yx hi;refine aI<|wpAny_newList ?_;have d:(h'.push<|seqObj "list" vs.toArray 0).get? h'.objs.size=some (seqObj "list" vs.toArray 0):=bG _ rfl
 skip
 refine aI (c_<|eK slot_list_sort ⟨_,d,rfl⟩ entry_list_sort (Sx.JV (o:=Qs ns) (kd:=oneType') d hz (λh2 z k=>?_) (λh2 i j m C G z k=>?_) λg hc hs=>⟨_,rfl,?_⟩)<|args_list_sort _)
 ·obtain⟨a,b,r,rfl⟩:∃a b r,vs=a::b::r:=by
   cases vs with
   | nil=>simp at h2
   | cons a vs=>cases vs with
    | nil=>simp at h2
    | cons b r=>exact⟨a,b,r,rfl⟩
  exact wpAny_of_eq (keyKind_ints hi) k
 ·obtain⟨t,e1⟩:=at_ i m;obtain⟨u,e2⟩:=at_ j C;show wpAny _ _ (keyLt' oneType' (vs.getD i .none)<|vs.getD j .none) z G _;rw[e1,e2,keyLt'_oneType];exact Sx.QF true k
 ·rw[B]at hc hs ⊢;obtain⟨e,F⟩:=sortedHeap_at (out:=((List.range ns.length).map λi=>vs.getD (g i) .none).toArray) d;have old:∀b f,h'.get? b=some f->(sortedHeap (h'.push<|seqObj "list" vs.toArray 0) h'.objs.size vs ((List.range ns.length).map λi=>vs.getD (g i) .none).toArray).get? b=some f:=λb f p=>by
   rw[sortedHeap_old (bC<|bg p)<|by rw[eN];exact g_<|bg p];exact aT _ p
  refine aR ⟨_,rfl,.ref h'.objs.size,_,I1.laid (t':=tk) (o:=.lst<|(List.range ns.length).map λi=>V.int<|ns.getD (g i) 0) old (aQ _) ?_,rfl,q _ g (I1.hok.fresh<|aQ _) hc hs⟩;refine⟨by rw[aH,cu];omega,(List.range ns.length).map λi=>vs.getD (g i) .none,e,ze _ λi hi=>at_ _ (by have:=(hc i (cE _)<|dF.mp hi).2;omega),F⟩
def KC{P:aj}{w:ah}{vs:List<|Key×af}:∀{acc:ba}{ns:ag},vs.map (·.1)=ns.map Sum.inl->acc.length=vs.length->(∀(j:Nat) v,acc[j]?=some v->∃k x,vs[j]?=some (k,x)/\(jH P w).is k v=true)->IntsAre acc ns:=by
 intro acc ns d f h
 induction acc generalizing vs ns with
 | nil=>cases vs with
  | nil=>cases ns with
   | nil=>exact .nil
   | cons=>cases d
  | cons=>cases f
 | cons a acc g=>cases vs with
  | nil=>cases f
  | cons v vs=>cases ns with
   | nil=>cases d
   | cons n ns=>
    rw[bM,bM,List.cons.injEq]at d;obtain⟨k,x,e1,e2⟩:=h 0 a rfl
    cases e1
    obtain⟨e3,m⟩:=d;have e3:k=Sum.inl n:=e3;subst e3;obtain⟨t,rfl⟩:=Value.isInt_shape (k:=n) (v:=a) e2;exact .cons n t<|g m (by simpa using f) λj v e=>h (j+1) v<|by simpa using e
def Cg(hc:X.calm=true):jo X (.builtin "sorted") (λxs H Q=>∃(d:ak) (kvs:List<|Key×V) (ns:ag),xs=[.ref d]/\H d=some (.dK kvs)/\kvs.map (λp=>p.1)=ns.map Sum.inl /\
  ∀l g,H l=none->Sx.Cl g 0 ns.length->Sx.So (Qs ns) g 0 ns.length->Q (.ref l) (upd H l<|.lst<|(List.range ns.length).map λi=>V.int<|ns.getD (g i) 0)):=by
 w_up;obtain⟨d,kvs,ns,rfl,B,C,q⟩:=h;kj_on
 cases rx
 obtain⟨z,hd,vs,k,F⟩:=TY I.hok B;obtain⟨O,G⟩:=F.dictAt;have K:kvs.length=vs.length:=k.length;have M:vs.map (·.1)=kvs.map (·.1):=by
  clear C z F G K B;unfold KV at k
  induction k with
  | nil=>rfl
  | cons h _ J=>rw[bM,bM,J,h.1]
 refine Calls.call_function_entry kind_sorted plain_sorted entry_sorted (args_sorted1 _) ?_;unfold Builtin.«sorted»;refine aI (m:=checkCount "sorted" 1 1 _)<|aR ?_;refine aI<|PySem.W.kdu_collect (PySem.W.kdl_dict hd) (show X.A.in1.handled=none from I.ok.hd hc) G () λh' L acc N f=>?_;have al:acc.toList.length=vs.length:=by rw[b_];exact f.1
 exact Fc (s:=s) (I.kept (t':=L) N) (KC (P:=X.prog) (w:=X.w) (M.trans C) al λj v e=>f.2 j v<|by rw[fu]at e;exact e) () q
end
end L2
namespace Am
open PySem PySem.Spec PyProof.Rows L2
abbrev R_:ae->Option (List<|Int×A)
 | []=>some []
 | .tup [.int k,x]::r=>(R_ r).map λps=>(k,x)::ps
 | _=>none
abbrev Se (ps:List<|Int×A):List (Int×A):=ps.foldl (λacc p=>w9 acc p.1 p.2) []
section
variable {K:au}{ρ:bb}{H:Hp}
def PZ{x:A}(r:AVs K ρ H [x,y] vs):∃v w,vs=[v,w]/\AV K ρ H x v/\AV K ρ H y w:=by
 cases r with
 | cons h t=>cases t with
  | cons h' d=>cases d;exact⟨_,_,rfl,h,h'⟩
def NZ{x:A}(e:R_ (x::xs)=some ps):∃k y ps',x=.tup [.int k,y]/\R_ xs=some ps'/\ps=(k,y)::ps':=by
 unfold R_ at e;split at e
 ·rename_i e2;cases e2
 ·rename_i k y r e2
  cases e2
  obtain⟨ps',h1,h2⟩:=a_.mp e;exact⟨_,_,_,rfl,h1,h2.symm⟩
 ·cases e
def YB:∀{xs:ae}{vs:List V}{ps:List<|Int×A},AVs K ρ H xs vs->R_ xs=some ps ->
  ∃(rs:bb) (qs:List<|Int×V),vs=rs.map V.ref/\rs.length=qs.length/\(∀(i:Nat) (r:ak) (q:Int×V),rs[i]?=some r->qs[i]?=some q->nG K H r [.int q.1,q.2]) /\
   ∀as bs,DI K ρ H as bs->DI K ρ H (ps.foldl (λacc p=>w9 acc p.1 p.2) as) (qs.foldl (λacc p=>putK acc (Sum.inl p.1) p.2) bs):=by
 intro xs
 induction xs with
 | nil=>intro vs ps r e;cases r;cases e;exact⟨[],[],rfl,rfl,λi r q h=>by simp at h,λas bs h=>h⟩
 | cons x xs f=>
  intro vs ps r e;obtain⟨k,y,m,rfl,e1,rfl⟩:=NZ e
  cases r with
  | cons h t=>
   obtain⟨rs,qs,rfl,g,j,z⟩:=f t e1
   cases h with
   | @tup a _ us h r=>
    obtain⟨v,w,rfl,h1,h2⟩:=PZ r
    cases h1
    refine⟨a::rs,(k,w)::qs,rfl,by rw[bq,bq,g],λi r q e1 e2=>?_,λas bs d=>z _ _<|d.put h2 k⟩
    cases i with
    | zero=>cases e1;cases e2;exact nG.of h
    | succ i=>exact j i r q (by simpa using e1)<|by simpa using e2
end
section
variable {X:Cx}
abbrev F5 (x:A)(S:iQ):R A:=match x with
 | .ref n=>opt (iN S n) λxs=>opt (R_ xs) λps=>.ok (.ref S.length) (S++[.nV<|Se ps])
 | _=>.no
def Qc(hc:X.calm=true):jo X (.type "dict") (rN X<|f1 F5):=jo.imp (FH hc) λvs H Q h0=>by
 kd_p;clear h0
 cases hv with
 | ref hp=>
  rename_i p n;gn_on;obtain⟨ps,k,h⟩:=iX h;obtain⟨us,h1,r⟩:=R.lst hp<|i9 hn;obtain⟨j,g,rfl,d,q,z⟩:=YB r k;refine⟨p,j,g,rfl,lT.of h1,d,q,λl f=>?_⟩;obtain⟨ex,m,d⟩:=R.Yc (xs:=Se ps) (vs:=Y4 g) f<|z [] [] trivial;exact h _ _ _ ex m<|.ref d
 | _=>exact h.elim
abbrev xj (x:A)(S:iQ):R A:=match x with
 | .ref n=>opt (jY S n) λd=>.ok (.ref S.length) (S++[.lst<|(sortI<|d.map Prod.fst).map .int])
 | _=>.no
def RA{ns:ag}{g:Nat->Nat}(c:Sx.Cl g 0 ns.length)(so:Sx.So (Qs ns) g 0 ns.length):(List.range ns.length).map (λi=>ns.getD (g i) 0)=sortI ns:=by
 refine G0 ?_ ?_ (rZ ns)
 ·refine List.Perm.trans ?_ (sortI_perm ns).symm;have p:=zU (N:=ns.length) (g:=g) (λi hi=>(c i (cE _) hi).2) λi j d f z=>by
   have:=so i j (cE _) d f;rw[z]at this;exact this.Rz
  have:=p.map λi=>ns.getD i 0;rw[cj,range_getD]at this;exact this
 ·rw[cB];intro i j hi f d;rw[aH,cu]at hi f;rw[dg,dg,e_,e_];have:=dX (so i j (cE _) d f).ge
  lia
def Gm(hc:X.calm=true):jo X (.builtin "sorted") (rN X<|f1 xj):=jo.imp (Cg hc) λvs H Q h0=>by
 kd_p;clear h0
 cases hv with
 | ref hp=>
  rename_i p n;obtain⟨d,hn,h⟩:=iX h;obtain⟨ks,m,j⟩:=R.nV hp<|pB hn;refine⟨p,ks,d.map Prod.fst,rfl,m,by rw[j.keys,cj];rfl,λl g f hc hs=>?_⟩;have k:AVs X.K ρ H ((sortI<|d.map Prod.fst).map .int) ((List.range (d.map Prod.fst).length).map λi=>V.int<|(d.map Prod.fst).getD (g i) 0):=by
   rw[<- RA hc hs,cj];exact NT λi _=>.int _
  exact nA R k .refl h l f
 | _=>exact h.elim
@[irreducible] noncomputable def big:Nat:=2 ^ 4096
theorem CC:big=2 ^ 4096:=by unfold big;rfl
def Ez{i:Int}(h:i.natAbs<big):Builtin.Int.intBits i<=2 ^ 20:=by
 rw[CC]at h;exact bP (intBits_le h) ⋯
abbrev D6 (a b:A)(S:iQ):R A:=match a,b with
 | .int i,.int j=>gd (i.natAbs<big/\j.natAbs<big) (.ok (.int<|i * j) S)
 | _,_=>.no
def Mb:nj X (binaryOp .Mult) (r2 X D6):=λpins s σ H x y v u Q I rx ry h9=>by
 x_go
 cases va with
 | int i=>cases vb with
  | int j=>
   obtain⟨⟨h1,h2⟩,h⟩:=jm h;obtain⟨t,rfl⟩:∃t,v=Value.int i t:=rx;obtain⟨d,rfl⟩:∃t,u=Value.int j t:=ry;exact mul_int ⟨.int _,H,I.tok _,⟨_,rfl⟩,h _ _ _ .refl R<|.int _⟩<|IntMulOk.of_bits (Ez h1)<|Ez h2
  | _=>exact h.elim
 | _=>exact h.elim
end
def Qk:bootBuiltins "dict" = some (.type "dict"):=by decide +kernel
abbrev kA (p:Int×Int):A:=.ktu [.int p.1,.int p.2]
end Am
namespace L2
open PySem PySem.Spec PyProof.Rows
section
variable {X:Cx}{pins:bo}{σ:St}{H:Hp}{s:aC}{a:ak}{xs:List (kI×ak×af)}
def Sk{r:ak}{x:ag}(I:Inv X pins σ H s)(h:H r=some (.tup<|x.map V.int)):TK s.heap x r:=by
 obtain⟨_,its,rv,o,h1,h2,_,n,h3⟩:=(show jW _ _ H s.heap r (.tup<|x.map V.int)from I.hok r _ h);exact⟨o,its.toArray,n,h1,h2,h3,by simpa using intsAre_of rv⟩
def yv{k:kI}(I:Inv X pins σ H s)(h:rR H b k):uU s.heap k b:=by
 obtain⟨r1,r2,h1,h2,h3⟩:=h;obtain⟨_,its,rv,o,e1,e2,_,n,e3⟩:=(show jW _ _ H s.heap b (.tup [.ref r1,.ref r2])from I.hok b _ h1);obtain⟨g,j,rfl,d,f⟩:=vals2 rv
 cases d
 cases f
 exact⟨o,n,r1,r2,e1,e2,e3,Sk I h2,Sk I h3⟩
def Od(I:Inv X pins σ H s)(e:H a=some (.ext<|vA a xs))(hk:∀x∈xs,rR H x.2.1 x.1):(a == sysModules)=false/\xs.length<=sizeLine/\s.heap.DictOfH (DZ X.prog X.w) a xs:=by
 obtain⟨⟨h1,h2,o,es,d,h3,f,m,k,j⟩,_⟩:=(show jW _ _ H s.heap a (.ext<|vA a xs)from I.hok a _ e);exact⟨h1,h2,o,es,d,h3,f,m,k,λx g=>yv I<|hk x g,j⟩
def Oi{P:aj}{w:ah}{H':Hp}{h':aq}(h1:(a == sysModules)=false)(h2:xs.length<=sizeLine)(dd:h'.DictOfH (DZ P w) a xs):jW P w H' h' a (.ext<|vA a xs):=by
 obtain⟨o,es,d,h3,f,B,z,_,m⟩:=dd;refine⟨⟨h1,h2,o,es,d,h3,f,B,z,m⟩,⟨o,h3⟩,λC g2 p k=>?_⟩;obtain⟨j,g,o,es,d,h3,q⟩:=p;exact⟨j,g,o,es,d,k o h3,q⟩
structure DPg (H:Hp)(a b:ak)(xs:List (kI×ak×af))(k:kI):Prop where
 d:H a=some (.ext<|vA a xs)
 ks:∀x∈xs,rR H x.2.1 x.1
 k:rR H b k
def Xe(hu:X.A.units+32<cLine):QK X (λx y H Q=>∃a b xs k p v,x=.ref a/\y=.ref b/\DPg H a b xs k/\atKey xs k=some p/\RelV v p.2/\Q v H):=by
 kst_p;obtain⟨a,b,xs,k,p,z,rfl,rfl,g,hp,B,q⟩:=h
 cases rx
 cases ry
 obtain⟨h1,h2,m⟩:=Od I g.d g.ks;have j:=m.typeIs;unfold subscriptTail;refine aI ?_;rw[getitemInPython_of_ne j.not_modules];refine aI<|ff j PySem.F.slot_dict_getitem.lookup ?_;have fin:wpAny (model X.prog X.w) X.A (subscripted slice false (.ref a)<|.ref b) (λr f=>wpAny (model X.prog X.w) X.A (letTemporaryGo value (.ref a) r >>= λ_=>pure r) (EP X pins σ Q) X.xe f) X.xe s:=by
  rw[hs];exact wpAny_operating<|wpAny_getItem_heap (show X.A.in1.units+16<cLine by simp;lia) (yv I g.k) m hp<|aI<|wpAny_letTemporaryGo<|aR ⟨z,H,I.tok _,B,q⟩
 first
  | exact aR (aI fin)
  | exact aI (aR<|aI fin)
  | exact aI fin
def KI(hu:X.A.units+32<cLine):nj X (compareOp .NotIn) (λy x H Q=>∃a b xs k,x=.ref a/\y=.ref b/\DPg H a b xs k/\Q (.bl<|!(atKey xs k).isSome) H):=by
 intro pins s σ H y x v u Q I ry rx h;obtain⟨a,b,xs,k,rfl,rfl,g,q⟩:=h
 cases rx
 cases ry
 obtain⟨h1,h2,f⟩:=Od I g.d g.ks;exact wpAny_notIn_heap (show X.A.in1.units+16<cLine by simp;omega) (yv I g.k) h1 f ⟨.bl _,H,I.tok _,rfl,q⟩
def De{xs:List<|kI×ak×af}{k:kI}:(storedH xs k b u).length<=xs.length+1:=by
 unfold storedH;split
 ·rw[aH];lia
 ·rw[aY];exact aQ _
def Uc(hu:X.A.units+32<cLine):DU X (λo i v H Q=>∃a b xs k,o=.ref a/\i=.ref b/\DPg H a b xs k/\xs.length<sizeLine/\∀u,RelV v u->Q (upd H a<|.ext<|vA a<|storedH xs k b u)):=by
 intro pins s σ H o i v ov iv u Q I B p rv h;obtain⟨a,b,xs,k,rfl,rfl,g,j,q⟩:=h
 cases B
 cases p
 obtain⟨h1,h2,m⟩:=Od I g.d g.ks;refine wpAny_setItem_heap (hsz:=h2) (show X.A.in1.units+16<cLine by simp;omega) (yv I g.k) m λh' f hs=>⟨_,?_,q u rv⟩;have z:∃q,h'.get? a=some q:=let⟨q,_,_,hq,_⟩:=f;⟨q,hq⟩
 exact B5 I (by rw[g.d];exact True.intro) hs z<|Oi h1 (bP De j) f
abbrev Uh:TE:=λ_ H Q=>∀p,H p=none->Q (.ref p) (upd H p<|.ext<|vA p [])
def Og:PE X (.Dict [] [] pos) Uh:=λpins s σ H Q I h=>
 wpAny_Dict_empty ⟨.ref s.heap.objs.size,_,I.laid (a:=s.heap.objs.size) (o:=.ext<|vA s.heap.objs.size []) (t':=s.toks) (λ_ _ q=>aT _ q) (aQ _)
  (Oi (cG.mpr<|cP<|bC I.big) (cE _) ⟨_,#[],0,bG _ rfl,⟨rfl,rfl,rfl⟩,rfl,rfl,(nofun),eT⟩),rfl,h _<|I.hok.fresh<|aQ _⟩
end
end L2
namespace Am
open PySem PySem.Spec PyProof.Rows L2
abbrev nH (S:iQ)(n:Nat):Option (List<|kI×A):=match S[n]? with
 | some (.tH xs)=>some xs
 | _=>none
def qc{n:Nat}(h:nH S n=some xs):S[n]?=some (.tH xs):=by
 unfold nH at h;split at h
 ·rename_i e;cases h;exact e
 ·cases h
def zC{S:iQ}{n:Nat}(h:S[n]?=some (.tH xs)):nH S n=some xs:=by
 unfold nH;rw[h]
abbrev m8 (kvs:List<|kI×A)(k:kI):Option A:=(kvs.find? λkv=>decide<|kv.1=k).map (·.2)
abbrev tX (kvs:List<|kI×A)(k:kI)(v:A):List (kI×A):=
 if (m8 kvs k).isSome=true then kvs.map (λkv=>if kv.1=k then(kv.1,v)else kv)else kvs++[(k,v)]
abbrev AD (x:A):Option kI:=match x with
 | .tup [.tup xs,.tup ys]=>(A.ints xs).bind λd=>(A.ints ys).map λf=>(d,f)
 | _=>none
section
variable {K:au}{ρ:bb}{H:Hp}
def uH{p:kI×A}{r:List<|kI×A}{k:kI}(e:p.1=k):m8 (p::r) k=some p.2:=by simp[m8,cK,e]
def rX{p:kI×A}{r:List<|kI×A}{k:kI}(e:¬p.1=k):m8 (p::r) k=m8 r k:=by simp[m8,cK,e]
theorem DP.look:∀{kvs:List<|kI×A}{ks:List<|kI×ak×af}(k:kI),DP K ρ H kvs ks->(m8 kvs k).isSome=(atKey ks k).isSome/\∀x,m8 kvs k=some x->∃p v,atKey ks k=some p/\RelV v p.2/\AV K ρ H x v
 | [],[],k,_=>⟨rfl,λx h=>nomatch h⟩
 | p::r,q::r',k,⟨⟨e,_,v,rv,a⟩,t⟩=>by
  by_cases c:p.1=k
  ·have d:q.1=k:=by rw[e,c]
   have b:atKey (q::r') k=some q.2:=by simp[atKey,cK,d]
   rw[uH c,b];exact⟨rfl,λx h=>by cases h;exact⟨_,v,rfl,rv,a⟩⟩
  ·have d:¬q.1=k:=λz=>c<|e.symm.trans z;have b:atKey (q::r') k=atKey r' k:=by simp[atKey,cK,d]
   rw[rX c,b];exact DP.look k t
theorem DP.repl{x:A}{v:V}(h:AV K ρ H x v)(rv:RelV v u)(k:kI):∀{kvs:List<|kI×A}{ks:List<|kI×ak×af},DP K ρ H kvs ks->DP K ρ H (kvs.map λkv=>if kv.1=k then(kv.1,x)else kv) (ks.map<|putAt k u)
 | [],[],_=>trivial
 | p::r,q::r',⟨⟨e,ka,z⟩,t⟩=>by
  refine⟨?_,DP.repl h rv k t⟩;dsimp only;unfold putAt;by_cases c:p.1=k
  ·rw[aL c,aL<|by rw[e,c]];exact⟨e,ka,v,rv,h⟩
  ·rw[aK c,aK λz=>c<|e.symm.trans z];exact⟨e,ka,z⟩
theorem DP.snoc{x:A}{v:V}(h:AV K ρ H x v)(rv:RelV v u)(k:kI)(hk:rR H b k):∀{kvs:List<|kI×A}{ks:List<|kI×ak×af},DP K ρ H kvs ks->DP K ρ H (kvs++[(k,x)]) (ks++[(k,b,u)])
 | [],[],_=>⟨⟨rfl,hk,v,rv,h⟩,trivial⟩
 | p::r,q::r',⟨a,t⟩=>⟨a,DP.snoc h rv k hk t⟩
def DP.put{x:A}{v:V}(h:AV K ρ H x v)(rv:RelV v u)(k:kI)(hk:rR H b k){ks:List<|kI×ak×af}(d:DP K ρ H kvs ks):DP K ρ H (tX kvs k x) (storedH ks k b u):=by
 unfold tX storedH;rw[<- (d.look k).1];by_cases c:(m8 kvs k).isSome=true
 ·rw[aL c,aL c];exact DP.repl h rv k d
 ·rw[aK c,aK c];exact DP.snoc h rv k hk d
def DP.length:∀{kvs:List<|kI×A}{ks:List<|kI×ak×af},DP K ρ H kvs ks->kvs.length=ks.length
 | [],[],_=>rfl
 | _::_,_::_,⟨_,t⟩=>dG (·+1) t.length
def DP.keys:∀{kvs:List<|kI×A}{ks:List<|kI×ak×af},DP K ρ H kvs ks->∀x∈ks,rR H x.2.1 x.1
 | [],[],_,x,h=>nomatch h
 | _::_,q::_,⟨⟨_,ka,_⟩,t⟩,x,h=>by
  rcases bE.mp h with z|z
  ·rw[z];exact ka
  ·exact t.keys x z
def Rel.tH{n:Nat}{a:ak}(R:Rel K ρ H S)(ha:ρ[n]?=some a)(hS:S[n]?=some (.tH xs)):∃vs,H a=some (.ext<|vA a vs)/\DP K ρ H xs vs:=R.at n a _ ha hS
def Rel.Z3{S:iQ}{p:ak}(R:Rel K ρ H S)(hp:H p=none):Ext ρ (ρ++[p]) H (upd H p<|.ext<|vA p [])/\Rel K (ρ++[p]) (upd H p<|.ext<|vA p []) (S++[.tH []])/\(ρ++[p])[S.length]?=some p:=by
 have ex:Ext ρ (ρ++[p]) H (upd H p<|.ext<|vA p []):=⟨⟨eY _ _,λa u _ h=>by rw[iZ<|je h hp];exact h⟩,λa u h _=>by rw[iZ<|je h hp];exact h,λa h=>by
  rcases bF.mp h with z|z
  ·exact .inl z
  ·have e:a=p:=by simpa using z
   rw[e];exact .inr hp⟩
 have f:p∉ρ:=R.IU hp;have last:(ρ++[p])[S.length]?=some p:=by rw[<- R.len];simp
 refine⟨ex,⟨by simp[R.len],?_,?_⟩,last⟩
 ·rw[c8];refine⟨R.nd,by simp,λa j b g e=>?_⟩;have:b=p:=by simpa using g
  exact f<|by rw[<- this,<- e];exact j
 ·intro n a o h1 h2;by_cases hn:n<S.length
  ·rw[bB<|by rw[R.len];exact hn]at h1;rw[bB hn]at h2;have na:a≠p:=λz=>f (by rw[<- z];exact aX h1);have:=R.at n a o h1 h2
   cases o with
   | lst ys=>obtain⟨d,e,q⟩:=this;exact⟨d,by rw[iZ na];exact e,q.ext ex⟩
   | dct _|nV _|tH _=>obtain⟨d,e,q⟩:=this;exact⟨d,by rw[iZ na];exact e,q.ext ex⟩
   | ins _ _=>obtain⟨m,k,e⟩:=this;exact⟨m,k,by rw[iZ na];exact e⟩
  ·have e:n=S.length:=by
    have:=(aN.mp h2).1;simp at this
    lia
   subst e;rw[last]at h1
   cases h1
   simp at h2;subst h2;exact⟨[],jT,trivial⟩
def Rel.tX{S:iQ}{n:Nat}{a:ak}(R:Rel K ρ H S)(ha:ρ[n]?=some a)(hS:S[n]?=some (.tH xs))(r:DP K ρ H ys ws):Ext ρ ρ H (upd H a<|.ext<|vA a ws)/\Rel K ρ (upd H a<|.ext<|vA a ws) (S.set n<|.tH ys):=by
 obtain⟨vs,e,_⟩:=R.at n a _ ha hS;have ex:Ext ρ ρ H (upd H a<|.ext<|vA a ws):=⟨⟨dS _,λb u i h=>by
  have:b≠a:=by
   intro z;subst z;rw[e]at h;cases h;exact i
  rw[iZ this];exact h⟩,λb u h n=>by
  rw[iZ λz=>n<|by rw[z];exact aX ha];exact h,λ_ h=>.inl h⟩
 refine⟨ex,by rw[bV];exact R.len,R.nd,λm b o h1 h2=>?_⟩;by_cases g:m=n
 ·subst g;rw[ha]at h1;cases h1;rw[bH (aN.mp hS).1]at h2
  cases h2
  exact⟨ws,jT,r.ext ex⟩
 ·rw[bL<|cP g]at h2;have nb:b≠a:=λz=>by
   subst z;obtain⟨B,e1⟩:=aN.mp ha;obtain⟨p,e2⟩:=aN.mp h1;exact g<|(dw R.nd).mp<|e2.trans e1.symm
  have:=R.at m b o h1 h2
  cases o with
  | lst ys=>obtain⟨d,f,q⟩:=this;exact⟨d,by rw[iZ nb];exact f,q.ext ex⟩
  | dct _|nV _|tH _=>obtain⟨d,f,q⟩:=this;exact⟨d,by rw[iZ nb];exact f,q.ext ex⟩
  | ins _ _=>obtain⟨k,j,f⟩:=this;exact⟨k,j,by rw[iZ nb];exact f⟩
def Cm{x:A}{v:V}{k:kI}(a:AV K ρ H x v)(h:AD x=some k):∃b,v=.ref b/\rR H b k:=by
 unfold AD at h;split at h
 ·rename_i xs ys;obtain⟨B,h1,h⟩:=bX.mp h;obtain⟨z,h2,e⟩:=a_.mp h;subst e
  cases a with
  | @tup b _ vs d r=>
   obtain⟨C,q,rfl,g,j⟩:=Wj r
   cases g with
   | @tup c1 _ f p r1=>
    cases j with
    | @tup c2 _ m g2 r2=>
     have e1:=uK r1 h1;have e2:=uK r2 h2;subst e1 e2;exact⟨b,rfl,c1,c2,d,p,g2⟩
 ·cases h
end
section
variable {X:Cx}{pos:Pos}{a b:aE}
abbrev J3 (x y:A)(S:iQ):R A:=match x with
 | .ref n=>opt (nH S n) λd=>opt (AD y) λk=>opt (m8 d k) λv=>.ok v S
 | _=>.no
def Ym(hu:X.A.units+64<cLine):QK X (r2 X J3):=λvalue slice pins s σ H x y v u Q I rx ry ⟨ρ,S,a,b,R,va,vb,h⟩ hs=>by
 cases va with
 | @ref p n hp=>
  obtain⟨B,hn,h⟩:=iX h;obtain⟨k,C,h⟩:=iX h;obtain⟨z,hz,h⟩:=iX h;obtain⟨ks,e,d⟩:=R.tH hp<|qc hn;obtain⟨q,rfl,m⟩:=Cm vb C;obtain⟨j,w,hw,f,g⟩:=(d.look k).2 z hz;exact Xe () value slice pins s σ H _ _ v u Q I rx ry ⟨p,q,ks,k,j,w,rfl,rfl,⟨e,d.keys,m⟩,hw,f,h _ _ _ .refl R g⟩ hs
 | _=>exact h.elim
def VF(hu:X.A.units+64<cLine){ca cb:Ex}(ha:AE X a ca)(hb:AE X b cb)(hs:yH b:=by exact λ_ _=>rfl):AE X (.Subscript a b pos) (iR J3 ca cb):=PE.imp (Lg (Ym hu) ha hb hs) λσ H Q h=>uT h
abbrev RL (neg:Bool)(x y:A)(S:iQ):R A:=match y with
 | .ref n=>opt (nH S n) λd=>opt (AD x) λk=>.ok (.bl<|if neg then !(m8 d k).isSome else(m8 d k).isSome) S
 | _=>.no
def OV(hu:X.A.units+64<cLine):nj X (compareOp .NotIn) (r2 X<|RL true):=λpins s σ H x y v u Q I rx ry h9=>by
 x_go
 cases vb with
 | @ref p n hp=>
  obtain⟨g,hn,h⟩:=iX h;obtain⟨k,j,h⟩:=iX h;obtain⟨ks,e,d⟩:=R.tH hp<|qc hn;obtain⟨q,rfl,f⟩:=Cm va j;exact KI () pins s σ H _ _ v u Q I rx ry ⟨p,q,ks,k,rfl,rfl,⟨e,d.keys,f⟩,by rw[<- (d.look k).1];exact h _ _ _ .refl R<|.bl _⟩
 | _=>exact h.elim
abbrev EU (o i v:A)(S:iQ):R Unit:=match o with
 | .ref n=>opt (nH S n) λd=>opt (AD i) λk=>gd (d.length<sizeLine) (.ok Unit.unit<|S.set n<|.tH<|tX d k v)
 | _=>.no
abbrev ZN (X:Cx):DJ:=λo i v H Q=>∃ρ S g d f,Rel X.K ρ H S/\AV X.K ρ H g o/\AV X.K ρ H d i/\AV X.K ρ H f v/\(EU g d f S).post (λ_ j=>∀ρ' H',Ext ρ ρ' H H'->Rel X.K ρ' H' j->Q H') (XE X ρ H)
def Qi(hu:X.A.units+64<cLine):DU X (ZN X):=λpins s σ H o i v ov iv u Q I F m rv h9=>by
 obtain⟨ρ,S,J,G,L,R,h1,h2,h3,h⟩:=h9
 cases h1 with
 | @ref p n hp=>
  obtain⟨B,hn,h⟩:=iX h;obtain⟨k,C,h⟩:=iX h;obtain⟨g,h⟩:=jm h;obtain⟨ks,e,d⟩:=R.tH hp<|qc hn;obtain⟨q,rfl,f⟩:=Cm h2 C;refine Uc (by omega) pins s σ H _ _ v ov iv u Q I F m rv ⟨p,q,ks,k,rfl,rfl,⟨e,d.keys,f⟩,by rw[<- d.length];exact g,λK j=>?_⟩;obtain⟨ex,z⟩:=R.tX hp (qc hn)<|d.put h3 j k f;exact h _ _ ex z
 | _=>exact h.elim
abbrev Mz (co ci:Ex):Tg:=λa τ S=>(co τ S).bind λo S1=>(ci τ S1).bind λi S2=>(EU o i a S2).bind λ_ S3=>.ok τ S3
def BG(hu:X.A.units+64<cLine){co ci:Ex}(ho:AE X o co)(hi:AE X i ci)
  (ha:∀v,assign (.Subscript o i pos) X.env v=(do
   let ov <- holding [v] (eval o X.env)
   let iv <- holding [v,ov] (eval i X.env)
   standAt pos
   holding [v,ov,iv] (setItem ov iv v)
   release [v,ov,iv] []):=by intro _;rfl):AG X (.Subscript o i pos) (Mz co ci):=PG.imp (F0 ho hi (Qi hu) ha) λv σ H Q h9=>by
 obtain⟨ρ,S,τ,a,R,r,va,h⟩:=h9;kcj_m;kpc_g;f_are
abbrev Fd:Ex:=λ_ S=>.ok (.ref S.length)<|S++[.tH []]
def N1:AE X (.Dict [] [] pos) Fd:=PE.imp Og λσ H Q ⟨ρ,S,τ,R,r,h⟩ p hp=>by
 obtain⟨ex,f,d⟩:=R.Z3 hp;exact h _ _ _ ex f<|.ref d
end
end Am
namespace L2
open PySem PySem.Spec PyProof.Rows
section
variable {X:Cx}
abbrev Sq (i j:Int):ag:=(List.range (i-j).toNat).map λk:Nat=>i-(k:Int)
def RY(i j:Int):(Sq i j).length=(i-j).toNat:=by unfold Sq;rw[aH,cu]
theorem zR{f:Nat->Int}{h:Nat->af}:∀(l:ap),(∀i∈l,∃t,h i=.int (f i) t)->Vals (l.map λi=>V.int<|f i) (l.map h)
 | [],_=>.nil
 | i::l,e=>.cons (e i<|aM ..)<|zR l λj d=>e j<|aO _ d
def Pj{i:Int}{n:Nat}{acc:Array af}(h:ItemsOf (λk v=>∃t,v=Value.int (i+(k:Int) * (-1)) t) acc n):Vals (((List.range n).map λk:Nat=>i-(k:Int)).map V.int) acc.toList:=by
 obtain⟨hs,h⟩:=h;have e:acc.toList=(List.range n).map λk=>acc.toList.getD k .none:=by
  refine gD (by simp[hs]) λk h1 h2=>?_;rw[dg,e_,aJ,aG h1];rfl
 rw[e,cj];refine zR _ λk d=>?_;have d:=dF.mp d;obtain⟨t,f⟩:=h k (acc.toList.getD k .none) (by rw[<- fu,aJ,aG<|by simp[hs];exact d];rfl);exact⟨t,by rw[f];congr 1;lia⟩
def Ai(l:ak){a b:Int}{v:Tok}{n:Nat}(hsmall:Builtin.Range.small a b (-1)=true)(hn:Builtin.Range.rangeSize a b (-1)=n)(hlen:n<=1000) :
  Meets (Builtin.«tuple.__new__» ⟨[.type "tuple",.ref l],[]⟩)
   (λA R s=>A.handled=none/\IsRange s.heap l a b (-1) t u v/\∀(h':aq) (tk:Nat) (acc':Array af),(∀b o',s.heap.get? b=some o'->h'.get? b=some o')->ItemsOf (λi v=>∃t,v=.int (a+i * (-1)) t) acc' n->R (.ok<|.ret<|.ref h'.objs.size) { s with heap:=h'.push { cls:=.type "tuple",data:=.seq acc' },toks:=tk }):=
 .of_wp λprog w A R s h=>by
  obtain⟨hp,g,d,tk,z⟩:=s;obtain⟨C,p,h⟩:=h;have q:=sub_tuple_self;have k:=init_tuple_lookup;have F:=madeHere_tuple;have B:Shared.TypeIs ⟨hp,g,d,tk,z⟩ (.ref l) "range" := ⟨_,p,rfl⟩;have j:A.in1.handled=none:=C
  wp_walk using AutoSeq1.wpAny_loadPart' p,fM B,xY (A:=A.in1) j p hsmall hn ()
  intro h' m acc' G f;show wpAny _ _ (Builtin.Tuple.tupleExact acc'.toList.toArray >>= λv=>ret v) _ _ _;unfold Builtin.Tuple.tupleExact;have e:acc'.toList.toArray=acc':=by simp
  refine aI (c7 ?_<|by show acc'.toList.toArray.size<=sizeLine;rw[e,f.1,cR];lia);refine aR ⟨_,rfl,?_⟩;rw[e];exact h h' m acc' G f
abbrev DnO (o:Obj)(i j:Int):Prop:=∃t u v:Tok,o={ cls:=.type "range",data:=.fields #[.int i t,.int j u,.int (-1) v]}
def FG:jo X (.type "range") (λxs H Q=>∃i j,xs=[.int i,.int j,.int<|-1]/\∀r o,DnO o i j->H r=none->Q (.ref r) (upd H r<|.frz o<|.own r)):=by
 w_up;obtain⟨i,j,rfl,q⟩:=h
 cases r with
 | cons r f=>cases f with
  | cons k f=>cases f with
   | cons g f=>
    cases f
    obtain⟨t,rfl⟩:=r;obtain⟨t',rfl⟩:=k;obtain⟨d,rfl⟩:=g;have hn:(s.heap.push { cls:=.type "range",data:=.fields #[.int i t,.int j t',.int (-1) d]}).get? s.heap.objs.size=some { cls:=.type "range",data:=.fields #[.int i t,.int j t',.int (-1) d]}:=bG _ rfl;exact call_range_3 ⋯ ⟨.ref s.heap.objs.size,_,I.laid (o:=.frz _<|.own s.heap.objs.size) (t':=s.toks) (λb o e=>aT _ e) (aQ _) ⟨hn,_,hn⟩,rfl,q _ _ ⟨_,_,_,rfl⟩ I.fresh⟩
def F2(hc:X.calm=true):jo X (.type "tuple") (λxs H Q=>∃p i j o u,xs=[.ref p]/\H p=some (.frz o u)/\DnO o i j/\(-(2 ^ 62)<=i/\i<2 ^ 62/\-(2 ^ 62)<=j/\j<2 ^ 62)/\(i-j).toNat<=1000/\∀l,H l=none->Q (.ref l) (upd H l<|.tup<|(Sq i j).map V.int)):=by
 w_up;obtain⟨p,i,j,o,J,rfl,hp,⟨t,L,v,rfl⟩,⟨C,z,G,B⟩,hn,q⟩:=h;kj_on
 cases rx
 have e:=(show jW _ _ H s.heap p (.frz _ J)from I.hok p _ hp).1;have sz:Builtin.Range.rangeSize i j (-1)=(((i-j).toNat:Nat):Int):=by rw[Bc];split<;>lia
 refine callType_new F.called_tuple ⋯ (F.typeCall_tuple_1 _) (F.newCall_tuple_1 _) (λg=>F.args_object_init_2 g _) F.entry_tuple_new
  (Ai (n:=(i-j).toNat) p (small_down C z G B) sz hn) ⟨I.ok.hd hc,e,λh' m d K f=>⟨⟨_,bG _ rfl,rfl⟩,?_⟩⟩
 have k:Inv X pins σ H { s with heap:=h',toks:=m }:=I.kept K;refine⟨.ref h'.objs.size,_,k.laid (t':=m) (o:=.tup<|(Sq i j).map V.int) (λb o e=>aT _ e) (aQ _) ⟨?_,d.toList,Pj f,?_⟩,rfl,q _<|k.hok.fresh<|aQ _⟩
 ·rw[aH,RY,cR];lia
 ·have e:d.toList.toArray=d:=by simp
  rw[e];exact nM.new _ _
end
end L2
namespace Am
open PySem PySem.Spec PyProof.Rows L2
section
variable {X:Cx}{a b c0:aE}{pos:Pos}
abbrev Zg (a b k:A)(S3:iQ):R A:=match a,b,k with
 | .int i,.int j,.int m=>gd (m=-1/\bnd i/\bnd j/\(i-j).toNat<=1000) (.ok (.tup<|(Sq i j).map .int) S3)
 | _,_,_=>.no
def LX{a b k:A}{P:A->iQ->Prop}{E:Str->iQ->Prop}(h:(Zg a b k S3).post P E):∃i j,a=.int i/\b=.int j/\k=.int (-1)/\bnd i/\bnd j/\(i-j).toNat<=1000/\P (.tup<|(Sq i j).map .int) S3:=by
 unfold Zg at h;split at h
 ·obtain⟨⟨z,h1,h2,h3⟩,h⟩:=jm h;exact⟨_,_,rfl,rfl,by rw[z],h1,h2,h3,h⟩
 ·exact h.elim
abbrev Rh (c d e:Ex):Ex:=λτ S=>(c τ S).bind λa S1=>(d τ S1).bind λb S2=>(e τ S2).bind λk S3=>Zg a b k S3
def Ms{x:Str}{p pos:Pos}{c d e:Ex}(hcl:X.calm=true)(hm:X.mg x=none)(hv:bootBuiltins x=some (.type "tuple"))(hm':X.mg y=none)(hv':bootBuiltins y=some (.type "range"))(ha:AE X a c)(hb:AE X b d)(hc:AE X c0 e)
  (hg:Gl X x:=by rfl) (hn:x ≠ "__name__" := by decide) (hdb:(x == ("__debug__" : Str))=false:=by decide) (hg':Gl X y:=by rfl) (hn':y ≠ "__name__" := by decide) (hdb':(y == ("__debug__" : Str))=false:=by decide)
  (hs:starEach [a,b,c0] X.env=(false,eval a X.env)::starEach [b,c0] X.env:=by rfl) (hs2:starEach [b,c0] X.env=(false,eval b X.env)::starEach [c0] X.env:=by rfl) (hs3:starEach [c0] X.env=(false,eval c0 X.env)::starEach [] X.env:=by rfl) (hpl':(backTo cpos<|starEach [b,c0] X.env).any (·.1)=false:=by rfl)
  (he:starEach [.Call (.Name y p') [a,b,c0] [] cpos] X.env=(false,eval (.Call (.Name y p') [a,b,c0] [] cpos) X.env)::starEach [] X.env:=by rfl) (hpl:(backTo pos<|starEach [] X.env).any (·.1)=false:=by rfl) :
  AE X (.Call (.Name x p) [.Call (.Name y p') [a,b,c0] [] cpos] [] pos) (Rh c d e):=
 PE.imp (xB (F2 hcl) hg hm hv (oh (xB FG hg' hm' hv' (oh ha (oh hb (oh hc xG hs3) hs2) hs) hn' hdb' hs hpl') xG he) hn hdb he hpl) λσ H Q h9=>by
  z_go;refine⟨ρ,S,τ,R,r,iO (iV h) .refl λx S1 h1 ρ1 H1 v e1 R1 v1=>⟨ρ1,S1,τ,R1,r.ext e1,iO (iV h1) e1 λy S2 h2 ρ2 H2 w e2 R2 v2=>⟨ρ2,S2,τ,R2,(r.ext e1).ext e2,iO (iV h2) (e1.trans e2) λz S3 h3 ρ3 H3 u e3 R3 J=>?_⟩⟩⟩;obtain⟨i,j,G,hy,hz,g,f,k,F⟩:=LX h3;subst G hy hz
  cases v1
  cases v2
  cases J
  refine⟨_,_,rfl,λm o q C=>?_⟩;obtain⟨ex,B⟩:=R3.im (u:=.frz o<|.own m) C;exact⟨m,_,_,o,_,rfl,jT,q,⟨g.1,g.2,f.1,f.2⟩,k,qg B (rL _) (((e1.trans e2).trans e3).trans ex) F⟩
def P6{c d e:Ex}{i j:Int}(h:c τ S=.ok (.int i) S1)(h':d τ S1=.ok (.int j) S2)(h'':e τ S2=.ok (.int<|-1) S3)(hb:bnd i)(hb':bnd j)(hl:(i-j).toNat<=1000):Rh c d e τ S=.ok (.tup<|(Sq i j).map .int) S3:=by
 unfold Rh;rw[h];show(d τ S1).bind _=_;rw[h'];show(e τ S2).bind _=_;rw[h''];exact aL ⟨rfl,hb,hb',hl⟩
end
end Am
namespace HT
open PySem PySem.Spec PyProof.Rows L2
variable {prog:aj}{w:ah}{A:aA}{E:af->aC->Prop}{s:aC}
def u5{items:Array af}{lo:bi}{Q:af->aC->Prop}(ht:IsTup s.heap t items)(hs:s.heap.IsSliceOf sl vl vu .none)(pl:IsPart vl lo)(pu:IsPart vu hi)
  (hw:kX items.size 0 lo=0/\kX items.size items.size hi=items.size) (h:Q (.ref t) s):wpAny (model prog w) A (getItem (.ref t)<|.ref sl) Q E s:=by
 obtain⟨k,d,g,j⟩:=id hs;have f:s.TypeIs (.ref sl) "slice" := ⟨k,d,g⟩;unfold getItem
 try with_reducible refine c_ ?_
 first|refine aI (aR ?_)|skip
 refine aI<|wpAny_sequenceKey ht.typeIs ⋯ ?_;refine aI (wpAny_callSpecial?_slot (name:=Str.ofString "__getitem__") ht.typeIs cD
  (eK cD ht.typeIs entry_tuple_getitem ?_<|args_tuple_getitem _ _))
 show wpAny _ _ (Builtin.Tuple.tupleItemsOf (.ref t) >>= _) _ _ s;refine aI<|tupleItemsOf_ ht ?_;refine aI<|fM f ?_;rw[aL ⋯];refine aI<|rH hs pl pu ?_;show wpAny _ _ (if (((kX items.size 0 lo:Nat):Int) == 0 && (1:Int) == 1 && (kX items.size items.size hi-kX items.size 0 lo) == items.size)=true then _ else _) _ _ s;rw[aL<|by rw[hw.1,hw.2];simp];refine aI ?_;unfold Builtin.Tuple.tupleIsExact;refine aI<|fM ht.typeIs<|aR ?_;rw[aL ⋯];exact aI<|dW<|aR ⟨_,rfl,aR h⟩
end HT
namespace L2
open PySem PySem.Spec PyProof.Rows
section
variable {X:Cx}
abbrev Y5 (K:au):V->bi->bi->Hp->VK->Prop:=λx lo hi H Q=>∃a xs,x=.ref a/\nG K H a xs/\(HT.kX xs.length 0 lo=0/\HT.kX xs.length xs.length hi=xs.length)/\Q (.ref a) H
def Pu:WH X (Y5 X.K):=by
 intro pins s σ H x v m p lo hi k Q I rx hs pl g h;obtain⟨a,xs,rfl,j,hw,q⟩:=h
 cases rx
 obtain⟨its,r,f,hz⟩:=I.tuple j;have d:its.toArray.size=xs.length:=by rw[aZ];exact r.length.symm
 refine⟨"tuple",_,cD.lookup,f.typeIs,?_⟩;exact HT.u5 f hs pl g (by rw[d];exact hw) ⟨.ref a,H,I,rfl,q⟩
end
end L2
namespace Am
open PySem PySem.Spec PyProof.Rows L2
section
variable {X:Cx}{pos:Pos}
abbrev Ow (a:A)(lo hi:bi)(S:iQ):R A:=match a with
 | .tup xs=>.ok (.tup<|s_ xs lo hi) S
 | _=>.no
abbrev FL (c:Ex)(lo hi:Pt):Ex:=λτ S=>(c τ S).bind λa S1=>(lo τ S1).bind λl S2=>(hi τ S2).bind λu S3=>Ow a l u S3
abbrev rSW (X:Cx):V->bi->bi->Hp->VK->Prop:=λx lo hi H Q=>∃ρ S a,Rel X.K ρ H S/\AV X.K ρ H a x/\(Ow a lo hi S).post (yi X ρ H Q) (XE X ρ H)
def Kw{xs:ae}{lo:bi}(h:HT.kX xs.length 0 lo=0/\HT.kX xs.length xs.length hi=xs.length):s_ xs lo hi=xs:=by
 unfold s_;rw[h.1,h.2,g7,Nat.sub_zero,fP]
def P7:WH X (rSW X):=λpins s σ H x v f g lo hi d Q I rx hs pl j h9=>by
 obtain⟨ρ,S,a,R,va,h⟩:=h9
 cases va with
 | @tup p xs vs h1 r1=>
  by_cases c:HT.kX xs.length 0 lo=0/\HT.kX xs.length xs.length hi=xs.length
  ·have h:yi X ρ H Q (.tup<|s_ xs lo hi) S:=h;rw[Kw c]at h;exact Pu pins s σ H _ v f g lo hi d Q I rx hs pl j ⟨p,vs,rfl,nG.of h1,by rw[<- r1.length];exact c,h _ _ _ .refl R<|.tup h1 r1⟩
  ·exact NF pins s σ H _ v f g lo hi d Q I rx hs pl j ⟨p,vs,rfl,(nG.of h1),by rw[<- r1.length];exact c,qg R (r1.cut lo hi) .refl h⟩
 | _=>exact h.elim
def LM{e:aE}{lo:Option aE}{c:Ex}{cl ch:Pt}(he:AE X e c)(hl:AO X lo cl)(hh:AO X hi ch):AE X (.Subscript e (.Slice lo hi none p2) pos) (FL c cl ch):=PE.imp (DL P7 he hl hh) λσ H Q h9=>by
 z_go;refine⟨ρ,S,τ,R,r,iO (iV h) .refl λa S1 h1 ρ1 H1 x e1 R1 v1=>⟨ρ1,S1,τ,R1,r.ext e1,iO (iV h1) e1 λl S2 h2 ρ2 H2 e2 R2=>⟨ρ2,S2,τ,R2,r.ext<|e1.trans e2,iO (iV h2) (e1.trans e2) λu S3 h3 ρ3 H3 e3 R3=>?_⟩⟩⟩;exact⟨ρ3,S3,a,R3,v1.ext<|e2.trans e3,iO h3 (e1.trans<|e2.trans e3) λ_ _ z=>z.ext<|e1.trans<|e2.trans e3⟩
end
end Am
namespace L2
open PySem PySem.Spec PyProof.Rows
section
variable {X:Cx}
def JM(hc:X.calm=true):jo X (.builtin "min") (λxs H Q=>∃(p:ak) (ns:ag),xs=[.ref p]/\lT X.K H p (ns.map V.int)/\0<ns.length/\∀M,M∈ns->(∀a∈ns,M<=a)->Q (.int M) H):=by
 w_up;obtain⟨p,ns,rfl,hq,g,q⟩:=h;kj_on
 cases rx
 o_rec;have hi:=intsAre_of rv;have k:=pl.isList;obtain⟨ys,e⟩:=hi.allInts.items;have d:ns=ys.toList.map (·.1):=by
  rw[<- hi.numsOf,<- nums_intItems,<- e]
 have f:0<ys.size:=by
  have h3:=g;rw[d,aH,b_]at h3;exact h3
 rw[e]at k;refine min_intList (I.ok.hd hc) k f λv h' C hv B=>?_;obtain⟨t,rfl⟩:=intItems_at hv;obtain⟨h1,h2⟩:=argBest_lt (numAt ys)<|ys.size-1;refine⟨.int _,H,I.kept B,⟨t,rfl⟩,q _ ?_ λa m=>?_⟩
 ·rw[d,numAt_eq];exact getD_mem (by rw[aH,b_];lia)
 ·rw[d]at m;obtain⟨j,z,rfl⟩:=mem_getD m;rw[aH,b_]at z;rw[<- numAt_eq];exact h2 j ()
end
end L2
namespace Am
open PySem PySem.Spec PyProof.Rows L2
abbrev minOf:ag->bi
 | []=>none
 | [x]=>some x
 | x::xs=>(minOf xs).map λm=>if m<x then m else x
theorem yV:∀{ns:ag}{m:Int},minOf ns=some m->m∈ns/\∀a∈ns,m<=a
 | [],_,e=>nomatch e
 | [x],m,e=>by cases e;exact⟨aM,λa h=>by rw[bA]at h;lia⟩
 | x::y::xs,m,e=>by
  obtain⟨f,e1,rfl⟩:=a_.mp<|show(minOf (y::xs)).map (λm=>if m<x then m else x)=some m from e;obtain⟨h1,h2⟩:=yV e1;by_cases d:f<x
  ·rw[aL d];exact⟨aO _ h1,λa h=>(bE.mp h).elim (λz=>())<|h2 a⟩
  ·rw[aK d];exact⟨aM,λa h=>(bE.mp h).elim (λz=>()) λz=>by have:=h2 a z;lia⟩
section
variable {X:Cx}
abbrev Nv (x:A)(S:iQ):R A:=match x with
 | .ref n=>opt (iN S n) λxs=>opt (A.ints xs) λd=>opt (minOf d) λm=>.ok (.int m) S
 | _=>.no
def V0(hc:X.calm=true):jo X (.builtin "min") (rN X<|f1 Nv):=jo.imp (JM hc) λvs H Q h0=>by
 kd_p;clear h0
 cases hv with
 | @ref p n hp=>
  gn_on;obtain⟨g,f,h⟩:=iX h;obtain⟨m,q,h⟩:=iX h;cb_eq;rw[uK r f]at h1;obtain⟨d,g2⟩:=yV q;refine⟨p,g,rfl,lT.of h1,eZ d,λM k j=>?_⟩;have:M=m:=fW (j m d)<|g2 M k;rw[this];exact h _ _ _ .refl R<|.int _
 | _=>exact h.elim
end
end Am
namespace K33
open PySem L2 Am
abbrev top (i:Nat):aF:=PySem.Challenge.pw_undercells_k33_rests_by_any_fall.main.body.getD i<|.Pass ⟨0,0,0,0⟩
meta abbrev vn:aF:=top 6
meta abbrev vh:ar:=["thing"]
meta abbrev vG:ar:=["thing"]
abbrev vD:Sm:=
 jN (L1 (jc (f2 C7)<|iL (iK 0)<|iL (eC<|.ty "int") iW)<|Ud<|jc (f2 C7)<|iL (iK 0)<|iL (eC<|.ty "bool") iW)
abbrev pG:ae->iQ->R A:=jO vh vD
meta abbrev tV:aF:=top 7
meta abbrev ug:ar:=["one", "other"]
meta abbrev qo:ar:=["one", "other"]
abbrev tZ:Sm:=
 vd (ni<|iR (tK true) (jc (f1 kH)<|iL (iK 0) iW)<|jc (f1 kH)<|iL (iK 1) iW)
 (YI)
 nh
abbrev lN:ae->iQ->R A:=jO ug tZ
meta abbrev qZ:aF:=top 8
meta abbrev qX:ar:=["n", "thing"]
meta abbrev qL:ar:=["n", "thing"]
abbrev qT:Sm:=
 jN (L1 (eFn pG<|iL (iK 1) iW)<|O0 Wt Av (eC<|.int 1) (iK 1)<|iK 0)
abbrev mw:ae->iQ->R A:=jO qX qT
meta abbrev mS:aF:=top 9
meta abbrev mV:ar:=["order", "i", "j", "things"]
meta abbrev mQ:ar:=["order", "i", "j"]
abbrev mR:Sm:=
 jn (jD (jc (f1 x_)<|iL (iK 0) iW)<|jC 3)
 (jn (jD (oU<|iL (iR mh (iK 3)<|iR aSub (iK 2)<|eC<|.int 1)<|iL (iR mh (iK 3)<|iR aSub (iK 1)<|eC<|.int 1) iW)<|A2 2<|sJ (WC (iK 3)<|iR aSub (iK 1)<|eC<|.int 1)<|sJ (WC (iK 3)<|iR aSub (iK 2)<|eC<|.int 1) AU)
 (jN<|jc (f1 xr)<|iL (iK 3) iW))
abbrev j0:ae->iQ->R A:=jO mV mR
meta abbrev uw:aF:=top 10
meta abbrev tU:ar:=["order", "k"]
meta abbrev uD:ar:=["order", "k"]
abbrev ur:Sm:=
 jn (vd (Dr<|CO<|eFn mw<|iL (jc (f1 kH)<|iL (iK 0) iW)<|iL (iK 1) iW)
 (YI)
 nh)
 (jN<|eFn j0<|iL (iK 0)<|iL (iK 1)<|iL (iR jE (iK 1)<|eC<|.int 1) iW)
abbrev ng:ae->iQ->R A:=jO tU ur
meta abbrev qO:aF:=top 11
meta abbrev rf:ar:=["n"]
meta abbrev qC:ar:=["n"]
abbrev rj:Sm:=
 jN (F_ [none,none,some 0] (oZ (eC<|.int 1)<|iK 0) (jC 0) uY (oZ (iR jE (iK 0)<|eC<|.int 1)<|iR jE (iK 2)<|eC<|.int 1) (jC 1) uY<|oU<|iL (iK 0)<|iL (iK 1) iW)
abbrev kU:ae->iQ->R A:=jO rf rj
meta abbrev qY:aF:=top 12
meta abbrev qP:ar:=["order"]
meta abbrev q_:ar:=["order"]
abbrev qG:Sm:=
 jN (jM [none,none,some 0] (mq<|eFn kU<|iL (jc (f1 kH)<|iL (iK 0) iW) iW) (A2 2<|sJ (jC 0)<|sJ (jC 1) AU) (ni<|iR A7 (iR mh (iK 2)<|iR aSub (iK 0)<|eC<|.int 1)<|iR mh (iK 2)<|iR aSub (iK 1)<|eC<|.int 1)<|oU<|iL (iK 0)<|iL (iK 1) iW)
abbrev mD:ae->iQ->R A:=jO qP qG
meta abbrev Ad:aF:=top 13
meta abbrev zJ:ar:=["order"]
meta abbrev zF:ar:=["order"]
abbrev Ah:Sm:=
 jN (jc (f1 kH)<|iL (eFn mD<|iL (iK 0) iW) iW)
abbrev pR:ae->iQ->R A:=jO zJ Ah
meta abbrev BR:aF:=top 14
meta abbrev CW:ar:=["order"]
meta abbrev CY:ar:=["order"]
abbrev CJ:Sm:=
 jN (jM [none,some 0] (oZ (eC<|.int 1)<|jc (f1 kH)<|iL (iK 0) iW) (jC 0) (ni<|iR A7 (iR mh (iK 1)<|iR aSub (iK 0)<|eC<|.int 1)<|iR mh (iK 1)<|iK 0)<|iK 0)
abbrev uL:ae->iQ->R A:=jO CW CJ
meta abbrev lE:aF:=top 17
meta abbrev lH:ar:=["numbers", "place"]
meta abbrev lC:ar:=["numbers"]
abbrev nB:Te:=
 ni (iR Wt (iR mh (iK 0)<|iR aSub (iK 1)<|eC<|.int 1)<|eC<|.int 0)
abbrev nF:Sm:=
 Nb 1 J0 (eC<|.int 1)
abbrev lD:Sm:=
 jn (jD (eC<|.int 1)<|jC 1)
 (jn (lZ nB
 nF 1000000)
 (jN<|iK 1))
abbrev jK:ae->iQ->R A:=jO lH lD
meta abbrev MJ:aF:=top 16
meta abbrev OL:ar:=["one", "other", "more", "at", "j"]
meta abbrev OO:ar:=["one", "other"]
abbrev HZ:Ic:=
 nJ (iR mh (iK 0)<|iK 3)
abbrev Ir:Sm:=
 Ak (iK 2) (iK 4) (eC<|.int 1) J0
abbrev Gy:Ic:=
 nJ (iR mh (iK 1)<|iK 3)
abbrev HY:Sm:=
 Ak (iK 2) (iK 4) (eC<|.int 1) aSub
abbrev Qn:Ic:=
 nJ (jc (f1 kH)<|iL (iK 0) iW)
abbrev Ih:Sm:=
 jn (kN HZ (jC 4)
 Ir)
 (jn (kN Gy (jC 4)
 HY)
 (vd (ni<|iR A7 (jc (f1 O4)<|iL (iK 2) iW)<|eC<|.int 0)
 (jN<|oU<|iL (iR jE (iK 3)<|eC<|.int 1)<|iL (eFn jK<|iL (iK 2) iW) iW)
 nh))
abbrev N6:Sm:=
 jn (wk<|eFn lN<|iL (iK 0)<|iL (iK 1) iW)
 (jn (jD (iR yd (rP<|iL (eC<|.int 0) iW)<|jc (f1 kH)<|iL (iK 0) iW)<|jC 2)
 (jn (kN Qn (jC 3)
 Ih)
 (jN<|eC .non)))
abbrev Bs:ae->iQ->R A:=jO OL N6
meta abbrev vB:aF:=top 18
meta abbrev su:ar:=["one", "other"]
meta abbrev sq:ar:=["one", "other"]
abbrev sD:Sm:=
 jN (iR (KD false) (eFn Bs<|iL (iK 0)<|iL (iK 1) iW)<|eC .non)
abbrev mT:ae->iQ->R A:=jO su sD
meta abbrev rm:aF:=top 20
meta abbrev n6:ar:=["one", "other", "free_things", "most_things", "most_pairs"]
meta abbrev qH:ar:=["one", "other", "free_things", "most_things", "most_pairs"]
abbrev nX:Sm:=
 jn (vd (ni<|iR Wt (jc (f1 kH)<|iL (iK 0) iW)<|iK 2)
 (Lj)
 nh)
 (vd (PN (ni<|iR A7 (jc (f1 kH)<|iL (iK 0) iW)<|iK 3)<|ni<|iR A7 (iR aSub (eFn pR<|iL (iK 1) iW)<|eFn pR<|iL (iK 0) iW)<|iK 4)
 (YI)
 nh)
abbrev kh:ae->iQ->R A:=jO n6 nX
meta abbrev oV:aF:=top 22
meta abbrev oG:ar:=["numbers"]
meta abbrev mG:ar:=["numbers"]
abbrev oQ:Sm:=
 jN (jM [none,some 0] (mq<|jc (f1 xj)<|iL (iK 0) iW) (jC 0) (ni<|iR (tK true) (iR xE (iK 1)<|iK 0)<|eC<|.int 0)<|oU<|iL (iK 0)<|iL (iR xE (iK 1)<|iK 0) iW)
abbrev jQ:ae->iQ->R A:=jO oG oQ
meta abbrev FF:aF:=top 23
meta abbrev Gb:ar:=["one", "other", "numbers", "power", "number"]
meta abbrev E8:ar:=["one", "other"]
abbrev vW:Ic:=
 mq (iK 1)
abbrev Ed:Sm:=
 jD (iR jE (DR vc (iK 2)<|iL (iK 3)<|iL (eC<|.int 0) iW)<|iK 4) (EF (iK 2)<|iK 3)
abbrev FZ:Sm:=
 jn (jD (jc (f1 F5)<|iL (iK 0) iW)<|jC 2)
 (jn (kN vW (A2 2<|sJ (jC 3)<|sJ (jC 4) AU)
 Ed)
 (jN<|eFn jQ<|iL (iK 2) iW))
abbrev An:ae->iQ->R A:=jO Gb FZ
meta abbrev CD:aF:=top 24
meta abbrev BS:ar:=["one", "other", "numbers", "power", "number", "high", "many"]
meta abbrev CT:ar:=["one", "other"]
abbrev KJ:Ic:=
 mq (iK 1)
abbrev JY:Sm:=
 jD (iR jE (DR vc (iK 2)<|iL (iR jE (iK 3)<|iK 5)<|iL (eC<|.int 0) iW)<|iR D6 (iK 4)<|iK 6) (EF (iK 2)<|iR jE (iK 3)<|iK 5)
abbrev BB:Ic:=
 mq (iK 0)
abbrev A6:Sm:=
 kN KJ (A2 2<|sJ (jC 5)<|sJ (jC 6) AU)
 JY
abbrev Ct:Sm:=
 jn (jD Ao<|jC 2)
 (jn (kN BB (A2 2<|sJ (jC 3)<|sJ (jC 4) AU)
 A6)
 (jN<|eFn jQ<|iL (iK 2) iW))
abbrev uF:ae->iQ->R A:=jO BS Ct
meta abbrev tM:aF:=top 29
meta abbrev qv:ar:=["one", "other"]
meta abbrev tN:ar:=["one", "other"]
abbrev qy:Sm:=
 jn (wk<|eFn lN<|iL (iK 0)<|iL (iK 1) iW)
 (wk<|eFn kh<|iL (iK 0)<|iL (iK 1)<|iL (eC<|.int 5)<|iL (eC<|.int 8)<|iL (eC<|.int 6) iW)
abbrev mZ:ae->iQ->R A:=jO qv qy
meta abbrev pN:aF:=top 32
meta abbrev kE:ar:=["one", "other", "known", "k", "less", "told"]
meta abbrev lO:ar:=["one", "other", "known"]
abbrev jL (Fs:ae->iQ->R A):Sm:=
 jn (jD (iR mh (eFn uL<|iL (iK 1) iW)<|eC<|.int 0)<|jC 3)
 (jn (jD (eFn ng<|iL (iK 1)<|iL (iK 3) iW)<|jC 4)
 (jn (jD (eFn Fs<|iL (eFn ng<|iL (iK 0)<|iL (iK 3) iW)<|iL (iK 4)<|iL (iK 2) iW)<|jC 5)
 (jn (vd (ni<|iR (Y6 false) (iK 3)<|eFn uL<|iL (iK 0) iW)
 (jN<|iK 5)
 nh)
 (jN<|eFn An<|iL (iK 5)<|iL (eFn uF<|iL (rP<|iL (oU<|iL (eC<|.int 1)<|iL (eC<|.int 1) iW) iW)<|iL (eFn Fs<|iL (iK 0)<|iL (iK 4)<|iL (iK 2) iW) iW) iW))))
meta abbrev o8:aF:=top 31
meta abbrev jA:ar:=["one", "other", "known", "pair"]
meta abbrev j9:ar:=["one", "other", "known"]
abbrev jz (Fs:ae->iQ->R A):Sm:=
 jn (jD (oU<|iL (iK 0)<|iL (iK 1) iW)<|jC 3)
 (jn (vd (ni<|iR (RL true) (iK 3)<|iK 2)
 (vd (ni<|iR (tK false) (iK 0)<|iK 1)
 (jD (rP<|iL (oU<|iL (eC<|.int 0)<|iL (eC<|.int 1) iW) iW)<|Mz (iK 2)<|iK 3)
 (vd (Dr<|CO<|eFn mT<|iL (iK 0)<|iL (iK 1) iW)
 (jD (rP iW)<|Mz (iK 2)<|iK 3)
 (jD (eFn (jO kE<|jL Fs)<|iL (iK 0)<|iL (iK 1)<|iL (iK 2) iW)<|Mz (iK 2)<|iK 3)))
 nh)
 (jN<|iR J3 (iK 2)<|iK 3))
abbrev jJ:Nat->ae->iQ->R A
 | 0=>λ_ _=>.no
 | k+1=>jO jA<|jz<|jJ k
abbrev sH:ae->iQ->R A:=jJ 30
meta abbrev F1:aF:=top 30
meta abbrev E6:ar:=["one", "other"]
meta abbrev BY:ar:=["one", "other"]
abbrev Fq:Sm:=
 jn (wk<|eFn mZ<|iL (iK 0)<|iL (iK 1) iW)
 (jN<|eFn sH<|iL (iK 0)<|iL (iK 1)<|iL (Fd) iW)
abbrev qQ:ae->iQ->R A:=jO E6 Fq
meta abbrev xF:aF:=top 34
meta abbrev xw:ar:=["_law_script", "_law_at", "_law_cell", "_law_great"]
meta abbrev wZ:ar:=["_law_script", "_law_at"]
abbrev xN:Sm:=
 jn (jD (eC<|.int 0)<|jC 2)
 (jn (vd (ni<|iR Av (iK 1)<|jc (f1 kH)<|iL (iK 0) iW)
 (jD (iR mh (iK 0)<|iK 1)<|jC 2)
 nh)
 (jn (jD (eC<|.int 0)<|jC 3)
 (jn (vd (ni<|iR YS (iK 2)<|iR QB (eC<|.int 10)<|eC<|.int 18)
 (jD (iK 2)<|jC 3)
 nh)
 (jN<|rP<|iL (iK 3)<|iL (iR CA (iR jE (iR jE (iK 2)<|iR yd (eC<|.int 7919)<|iK 1)<|eC<|.int 13)<|eC<|.int 2147483647) iW))))
abbrev sd:ae->iQ->R A:=jO xw xN
meta abbrev tY:aF:=top 35
meta abbrev qk:ar:=["_law_bag_here", "_law_many", "_law_found"]
meta abbrev m_:ar:=["_law_bag_here", "_law_many"]
abbrev qi:Sm:=
 jn (vd (ni<|iR A7 (iR mh (iK 0)<|eC<|.int 0)<|eC<|.int 0)
 (jn (jD (iR CA (iR mh (iK 0)<|eC<|.int 0)<|iK 1)<|jC 2)
 (jn (jD (iR Gv (iR mh (iK 0)<|eC<|.int 0)<|iK 1)<|WC (iK 0)<|eC<|.int 0)
 (jN<|iK 2)))
 nh)
 (jn (jD (iR CA (iR jE (iR yd (iR mh (iK 0)<|eC<|.int 1)<|eC<|.int 48271)<|eC<|.int 11)<|eC<|.int 2147483647)<|WC (iK 0)<|eC<|.int 1)
 (jN<|iR CA (iR CA (iR yd (iR Gv (iR mh (iK 0)<|eC<|.int 1)<|eC<|.int 8)<|eC<|.int 69621)<|eC<|.int 2147483629)<|iK 1))
abbrev jh:ae->iQ->R A:=jO qk qi
meta abbrev pX:aF:=top 36
meta abbrev pK:ar:=["_law_held"]
meta abbrev nq:ar:=["_law_held"]
abbrev pQ:Sm:=
 jN (jM [none,some 0] (mq<|jc (f1 xj)<|iL (iK 0) iW) (jC 0) (ni<|iR (tK true) (iR xE (iK 1)<|iK 0)<|eC<|.int 0)<|oU<|iL (iK 0)<|iL (iR xE (iK 1)<|iK 0) iW)
abbrev j3:ae->iQ->R A:=jO pK pQ
meta abbrev pJ:aF:=top 37
meta abbrev pO:ar:=["_law_one", "_law_other", "_law_held", "_law_power", "_law_number"]
meta abbrev pI:ar:=["_law_one", "_law_other"]
abbrev lU:Ic:=
 mq (iR jE (iK 0)<|iK 1)
abbrev rQ:Sm:=
 jD (iR jE (DR vc (iK 2)<|iL (iK 3)<|iL (eC<|.int 0) iW)<|iK 4) (EF (iK 2)<|iK 3)
abbrev pZ:Sm:=
 jn (jD Ao<|jC 2)
 (jn (kN lU (A2 2<|sJ (jC 3)<|sJ (jC 4) AU)
 rQ)
 (jN<|eFn j3<|iL (iK 2) iW))
abbrev lG:ae->iQ->R A:=jO pO pZ
meta abbrev oN:aF:=top 38
meta abbrev oM:ar:=["_law_one", "_law_other", "_law_held", "_law_power", "_law_number", "_law_more", "_law_many"]
meta abbrev oR:ar:=["_law_one", "_law_other"]
abbrev wI:Ic:=
 mq (iK 1)
abbrev wL:Sm:=
 jD (iR jE (DR vc (iK 2)<|iL (iR jE (iK 3)<|iK 5)<|iL (eC<|.int 0) iW)<|iR D6 (iK 4)<|iK 6) (EF (iK 2)<|iR jE (iK 3)<|iK 5)
abbrev qx:Ic:=
 mq (iK 0)
abbrev qp:Sm:=
 kN wI (A2 2<|sJ (jC 5)<|sJ (jC 6) AU)
 wL
abbrev oS:Sm:=
 jn (jD Ao<|jC 2)
 (jn (kN qx (A2 2<|sJ (jC 3)<|sJ (jC 4) AU)
 qp)
 (jN<|eFn j3<|iL (iK 2) iW))
abbrev kP:ae->iQ->R A:=jO oM oS
meta abbrev t7:aF:=top 39
meta abbrev tQ:ar:=["_law_bag_here", "_law_n", "_law_left", "_law_made"]
meta abbrev ud:ar:=["_law_bag_here", "_law_n"]
abbrev qF:Te:=
 ni (iR A7 (jc (f1 kH)<|iL (iK 2) iW)<|eC<|.int 0)
abbrev qV:Sm:=
 wk (WK wH (iK 3)<|iL (WK FT (iK 2)<|iL (eFn jh<|iL (iK 0)<|iL (jc (f1 kH)<|iL (iK 2) iW) iW) iW) iW)
abbrev uh:Sm:=
 jn (jD (jc (f1 x_)<|iL (jc (f2 CI)<|iL (eC<|.int 1)<|iL (iR jE (iK 1)<|eC<|.int 1) iW) iW)<|jC 2)
 (jn (jD (rP iW)<|jC 3)
 (jn (lZ qF
 qV 1000000)
 (jN<|jc (f1 xr)<|iL (iK 3) iW)))
abbrev lB:ae->iQ->R A:=jO tQ uh
meta abbrev qI:aF:=top 40
meta abbrev rq:ar:=["_law_one", "_law_i", "_law_j"]
meta abbrev nY:ar:=["_law_one", "_law_i", "_law_j"]
abbrev qW:Sm:=
 jN (iR jE (iR jE (iR jE (iR jE (KP (iK 0) qf<|m5<|iK 1)<|oU<|iL (iR mh (iK 0)<|iK 2) iW)<|KP (iK 0) (m5<|iR jE (iK 1)<|eC<|.int 1)<|m5<|iK 2)<|oU<|iL (iR mh (iK 0)<|iK 1) iW)<|KP (iK 0) (m5<|iR jE (iK 2)<|eC<|.int 1) qf)
abbrev ki:ae->iQ->R A:=jO rq qW
meta abbrev nL:aF:=top 41
meta abbrev nQ:ar:=["_law_one", "_law_left", "_law_found", "_law_i", "_law_j", "_law_amid"]
meta abbrev nU:ar:=["_law_one", "_law_left"]
abbrev mW:Ic:=
 oZ (iR jE (iK 3)<|eC<|.int 1) (jc (f1 kH)<|iL (iK 0) iW)
abbrev kJ:Sm:=
 jn (jD (jc (f1 kH)<|iL (jM [none,some 0,some 4,some 3] (mq<|KP (iK 0) (m5<|iR jE (iK 3)<|eC<|.int 1)<|m5<|iK 4) (jC 0) (ni<|O0 Av Av (iR mh (iK 1)<|iK 2) (iK 0)<|iR mh (iK 1)<|iK 3)<|iK 0) iW)<|jC 5)
 (vd (Cr (ni<|iR A7 (iR mh (iK 0)<|iK 3)<|iR mh (iK 0)<|iK 4)<|ni<|iR Wt (iR jE (eC<|.int 1)<|iR yd (eC<|.int 2)<|iK 5)<|iK 1)
 (wk<|WK wH (iK 2)<|iL (oU<|iL (iK 3)<|iL (iK 4)<|iL (iR jE (eC<|.int 1)<|iR yd (eC<|.int 2)<|iK 5) iW) iW)
 nh)
abbrev mX:Ic:=
 nJ (jc (f1 kH)<|iL (iK 0) iW)
abbrev pL:Sm:=
 kN mW (jC 4)
 kJ
abbrev nS:Sm:=
 jn (jD (rP iW)<|jC 2)
 (jn (kN mX (jC 3)
 pL)
 (jN<|iK 2))
abbrev kC:ae->iQ->R A:=jO nQ nS
meta abbrev tW:aF:=top 42
meta abbrev t_:ar:=["_law_bag_here", "_law_other", "_law_left", "_law_one", "_law_k", "_law_some", "_law_i", "_law_j", "_law_more"]
meta abbrev uf:ar:=["_law_bag_here", "_law_other", "_law_left"]
abbrev qK:Ic:=
 nJ (eFn jh<|iL (iK 0)<|iL (eC<|.int 7) iW)
abbrev rB:Sm:=
 jn (jD (eFn kC<|iL (iK 3)<|iL (iK 2) iW)<|jC 5)
 (vd (ni<|iR (tK true) (iK 5)<|rP iW)
 (jn (jD (iR mh (iK 5)<|eFn jh<|iL (iK 0)<|iL (jc (f1 kH)<|iL (iK 5) iW) iW)<|A2 3<|sJ (jC 6)<|sJ (jC 7)<|sJ (jC 8) AU)
 (jn (jD (eFn ki<|iL (iK 3)<|iL (iK 6)<|iL (iK 7) iW)<|jC 3)
 (jD (iR aSub (iK 2)<|iK 8)<|jC 2)))
 nh)
abbrev um:Sm:=
 jn (jD (iK 1)<|jC 3)
 (jn (kN qK (jC 4)
 rB)
 (jN<|iK 3))
abbrev oq:ae->iQ->R A:=jO t_ um
meta abbrev uy:aF:=top 43
meta abbrev uz:ar:=["_law_one"]
meta abbrev uq:ar:=["_law_one"]
abbrev tR:Sm:=
 jN (jc (f1 Wa)<|iL (jM [none,some 0] (nJ<|jc (f1 kH)<|iL (iK 0) iW) (jC 0) uY<|jc (f1 kH)<|iL (jM [none,some 1,some 0] (mq<|KP (iK 1) (m5<|iR jE (iK 0)<|eC<|.int 1) qf) (jC 0) (ni<|iR Av (iK 0)<|iR mh (iK 1)<|iK 2)<|iK 0) iW) iW)
abbrev nc:ae->iQ->R A:=jO uz tR
meta abbrev vL:aF:=top 44
meta abbrev vJ:ar:=["_law_one", "_law_other", "_law_far", "_law_at"]
meta abbrev vN:ar:=["_law_one", "_law_other", "_law_far"]
abbrev sE:Te:=
 ni (iR A7 (iR aSub (eFn nc<|iL (iK 1) iW)<|eFn nc<|iL (iK 0) iW)<|iK 2)
abbrev wF:Sm:=
 jn (jD (iR mh (jM [none,some 0] (nJ<|iR aSub (jc (f1 kH)<|iL (iK 0) iW)<|eC<|.int 1) (jC 0) (ni<|iR Av (iR mh (iK 1)<|iK 0)<|iR mh (iK 1)<|iR jE (iK 0)<|eC<|.int 1)<|iK 0)<|eC<|.int 0)<|jC 3)
 (jD (eFn ki<|iL (iK 0)<|iL (iK 3)<|iL (iR jE (iK 3)<|eC<|.int 1) iW)<|jC 0)
abbrev vI:Sm:=
 jn (lZ sE
 wF 1000000)
 (jN<|iK 0)
abbrev pW:ae->iQ->R A:=jO vJ vI
meta abbrev vF:aF:=top 45
meta abbrev vg:ar:=["_law_bag_here", "_law_k", "_law_n", "_law_far", "_law_other", "_law_one"]
meta abbrev vM:ar:=["_law_bag_here", "_law_k"]
abbrev wz (τ:ae)(S:iQ):RS:=
 (jn (jD (iR jE (eC<|.int 6)<|eFn jh<|iL (iK 0)<|iL (eC<|.int 3) iW)<|jC 2)
 (jD (eC<|.int 6)<|jC 3)) τ S
abbrev wD (τ:ae)(S:iQ):RS:=
 (jD (eFn pW<|iL (eFn lB<|iL (iK 0)<|iL (iK 2) iW)<|iL (iK 4)<|iL (iK 3) iW)<|jC 5) τ S
abbrev sG (τ:ae)(S:iQ):RS:=
 (jn (vd (Cr (ni<|iR Av (iK 2)<|eC<|.int 6)<|ni<|iR (tK false) (eFn jh<|iL (iK 0)<|iL (eC<|.int 6) iW)<|eC<|.int 1)
 (jD (eFn lB<|iL (iK 0)<|iL (iK 2) iW)<|jC 5)
 nh)
 (jN<|oU<|iL (iK 5)<|iL (iK 4) iW)) τ S
abbrev wG (τ:ae)(S:iQ):RS:=
 (jn (vd (Cr (ni<|iR A7 (iK 2)<|eC<|.int 5)<|ni<|iR (tK false) (eFn jh<|iL (iK 0)<|iL (eC<|.int 2) iW)<|eC<|.int 1)
 wD
 nh)
 sG) τ S
abbrev sR (τ:ae)(S:iQ):RS:=
 (jn (jD (eFn oq<|iL (iK 0)<|iL (iK 4)<|iL (iK 3) iW)<|jC 5)
 wG) τ S
abbrev v_ (τ:ae)(S:iQ):RS:=
 (jn (vd (Cr (ni<|iR (tK false) (eFn jh<|iL (iK 0)<|iL (eC<|.int 8) iW)<|eC<|.int 3)<|ni<|iR Av (iK 2)<|eC<|.int 6)
 (jD (Rh (iK 2) (eC<|.int 0)<|WQ OB<|eC<|.int 1)<|jC 4)
 nh)
 sR) τ S
abbrev sN (τ:ae)(S:iQ):RS:=
 (jn (jD (eFn lB<|iL (iK 0)<|iL (iK 2) iW)<|jC 4)
 v_) τ S
abbrev wQ (τ:ae)(S:iQ):RS:=
 (jn (vd (Cr (ni<|iR (tK false) (iK 1)<|eC<|.int 0)<|ni<|iR (tK false) (eFn jh<|iL (iK 0)<|iL (eC<|.int 4) iW)<|eC<|.int 2)
 wz
 nh)
 sN) τ S
abbrev vf:Sm:=
 jn (jD (iR jE (eC<|.int 2)<|eFn jh<|iL (iK 0)<|iL (iR mh (rP<|iL (eC<|.int 4)<|iL (eC<|.int 3) iW)<|jc (f1 Gj)<|iL (iR A7 (iK 1)<|eC<|.int 0) iW) iW)<|jC 2)
 (jn (jD (eC<|.int 20)<|jC 3)
 wQ)
abbrev p8:ae->iQ->R A:=jO vg vf
meta abbrev pU:aF:=top 46
meta abbrev pM:ar:=["_law_one", "_law_other", "_law_i", "_law_one_from", "_law_other_from"]
meta abbrev p9:ar:=["_law_one", "_law_other"]
abbrev rJ:Ic:=
 IE (jc (f1 xP)<|iL (FL (iK 0) qf<|m5<|iK 2) iW) (jc (f1 xP)<|iL (FL (iK 1) qf<|m5<|iK 2) iW)
abbrev rF:Sm:=
 vd (ni<|iR A7 (iK 3)<|iK 4)
 (jN<|eC<|.bl false)
 nh
abbrev r_:Ic:=
 oZ (eC<|.int 1) (iR jE (jc (f1 kH)<|iL (iK 0) iW)<|eC<|.int 1)
abbrev lR:Sm:=
 kN rJ (A2 2<|sJ (jC 3)<|sJ (jC 4) AU)
 rF
abbrev pV:Sm:=
 jn (kN r_ (jC 2)
 lR)
 (jN<|eC<|.bl true)
abbrev kB:ae->iQ->R A:=jO pM pV
meta abbrev qM:aF:=top 47
meta abbrev qD:ar:=["_law_found", "_law_one", "_law_number"]
meta abbrev qN:ar:=["_law_found"]
abbrev sY:Ic:=
 mq (iK 1)
abbrev sV:Sm:=
 vd (PN (Dr<|CO<|jc (f2 C7)<|iL (iK 2)<|iL (eC<|.ty "int") iW)<|CO<|jc (f2 C7)<|iL (iK 2)<|iL (eC<|.ty "bool") iW)
 (jN<|eC<|.bl false)
 nh
abbrev sW:Ic:=
 mq (iK 0)
abbrev sX:Sm:=
 jn (vd (PN (Dr<|CO<|jc (f2 C7)<|iL (iK 1)<|iL (eC<|.ty "tuple") iW)<|PN (ni<|iR (tK true) (jc (f1 kH)<|iL (iK 1) iW)<|eC<|.int 2)<|ni<|iR (tK false) (iR mh (iK 1)<|eC<|.int 1)<|eC<|.int 0)
 (jN<|eC<|.bl false)
 nh)
 (kN sY (jC 2)
 sV)
abbrev qU:Sm:=
 jn (vd (Dr<|CO<|jc (f2 C7)<|iL (iK 0)<|iL (eC<|.ty "list") iW)
 (jN<|eC<|.bl false)
 nh)
 (jn (kN sW (jC 1)
 sX)
 (jN<|jc (f1 Ut)<|iL (jM [none,some 0] (nJ<|iR aSub (jc (f1 kH)<|iL (iK 0) iW)<|eC<|.int 1) (jC 0) uY<|iR Av (iR mh (iR mh (iK 1)<|iK 0)<|eC<|.int 0)<|iR mh (iR mh (iK 1)<|iR jE (iK 0)<|eC<|.int 1)<|eC<|.int 0) iW))
abbrev mC:ae->iQ->R A:=jO qD qU
meta abbrev oX:aF:=top 48
meta abbrev oK:ar:=["_law_one", "_law_k"]
meta abbrev oO:ar:=["_law_one", "_law_k"]
abbrev oJ:Sm:=
 jN (iR jE (iR jE (KP (iK 0) qf<|m5<|iR aSub (iK 1)<|eC<|.int 1)<|oU<|iL (iR mh (iK 0)<|iK 1)<|iL (iR mh (iK 0)<|iR aSub (iK 1)<|eC<|.int 1) iW)<|KP (iK 0) (m5<|iR jE (iK 1)<|eC<|.int 1) qf)
abbrev j6:ae->iQ->R A:=jO oK oJ
meta abbrev qJ:aF:=top 49
meta abbrev nW:ar:=["_law_one", "_law_other", "_law_k", "_law_less", "_law_found"]
meta abbrev qS:ar:=["_law_one", "_law_other", "_law_k"]
abbrev nZ:Sm:=
 jn (jD (eFn j6<|iL (iK 1)<|iL (iK 2) iW)<|jC 3)
 (jn (jD (eFn qQ<|iL (eFn j6<|iL (iK 0)<|iL (iK 2) iW)<|iL (iK 3) iW)<|jC 4)
 (jn (vd (ni<|iR Av (iR mh (iK 0)<|iR aSub (iK 2)<|eC<|.int 1)<|iR mh (iK 0)<|iK 2)
 (jD (eFn lG<|iL (iK 4)<|iL (eFn kP<|iL (rP<|iL (oU<|iL (eC<|.int 1)<|iL (eC<|.int 1) iW) iW)<|iL (eFn qQ<|iL (iK 0)<|iL (iK 3) iW) iW) iW)<|jC 4)
 nh)
 (jN<|iK 4)))
abbrev kR:ae->iQ->R A:=jO nW nZ
meta abbrev L4:aF:=top 50
meta abbrev L3:ar:=["_law_script", "_law_k", "_law_bag_here", "_law_one", "_law_other", "_law_told", "_law_kept", "_law_some", "_law_at"]
meta abbrev TZ:ar:=["_law_script"]
abbrev Ii (τ:ae)(S:iQ):RS:=
 (jD (rP<|iL (iR mh (iK 7)<|eFn jh<|iL (iK 2)<|iL (jc (f1 kH)<|iL (iK 7) iW) iW) iW)<|jC 7) τ S
abbrev Cv:Ic:=
 mq (iK 7)
abbrev Cb:Sm:=
 vd (ni<|iR (tK true) (eFn kR<|iL (iK 3)<|iL (iK 4)<|iL (iK 8) iW)<|iK 6)
 (jN<|eC<|.bl false)
 nh
abbrev CL (τ:ae)(S:iQ):RS:=
 (jn (vd (PN (ni<|iR (tK false) (iK 3)<|iK 4)<|ni<|iR (tK false) (iK 6)<|rP iW)
 (jD (rP iW)<|jC 7)
 nh)
 (kN Cv (jC 8)
 Cb)) τ S
abbrev B0 (τ:ae)(S:iQ):RS:=
 (jn (vd (Cr (ni<|iR A7 (jc (f1 kH)<|iL (iK 3) iW)<|eC<|.int 4)<|ni<|iR (tK true) (iK 7)<|rP iW)
 Ii
 nh)
 CL) τ S
abbrev C2 (τ:ae)(S:iQ):RS:=
 (jn (jD (jM [none,some 4] (oZ (eC<|.int 1)<|jc (f1 kH)<|iL (iK 3) iW) (jC 0) (ni<|iR A7 (iR mh (iK 1)<|iR aSub (iK 0)<|eC<|.int 1)<|iR mh (iK 1)<|iK 0)<|iK 0)<|jC 7)
 B0) τ S
abbrev Hq (τ:ae)(S:iQ):RS:=
 (jn (vd (ni<|iR (tK true) (eFn qQ<|iL (iK 3)<|iL (iK 4) iW)<|iK 6)
 (jN<|eC<|.bl false)
 nh)
 C2) τ S
abbrev JC (τ:ae)(S:iQ):RS:=
 (jn (wk<|WK wH (iK 5)<|iL (oU<|iL (eC<|.int 99)<|iL (eC<|.int 1) iW) iW)
 Hq) τ S
abbrev GX (τ:ae)(S:iQ):RS:=
 (jn (vd (PN (ni<|iR (tK true) (iR (tK true) (iK 5)<|rP iW)<|eFn kB<|iL (iK 3)<|iL (iK 4) iW)<|ni<|iR (tK true) (eFn qQ<|iL (iK 4)<|iL (iK 4) iW)<|rP<|iL (oU<|iL (eC<|.int 0)<|iL (eC<|.int 1) iW) iW)
 (jN<|eC<|.bl false)
 nh)
 JC) τ S
abbrev DG (τ:ae)(S:iQ):RS:=
 (jn (vd (PN (Dr<|CO<|eFn mC<|iL (iK 5) iW)<|ni<|iR Av (jc (f1 Nv)<|iL (iR jE (rP<|iL (eC<|.int 0) iW)<|jM [none,none] (mq<|iK 5) (A2 2<|sJ (jC 0)<|sJ (jC 1) AU) uY<|iK 0) iW)<|eC<|.int 0)
 (jN<|eC<|.bl false)
 nh)
 GX) τ S
abbrev Ep (τ:ae)(S:iQ):RS:=
 (jn (jD (eFn qQ<|iL (iK 3)<|iL (iK 4) iW)<|jC 5)
 (jn (jD (jc (f1 x_)<|iL (iK 5) iW)<|jC 6)
 DG)) τ S
abbrev Ei (τ:ae)(S:iQ):RS:=
 (jn (jD (eFn p8<|iL (iK 2)<|iL (iK 1) iW)<|A2 2<|sJ (jC 3)<|sJ (jC 4) AU)
 Ep) τ S
abbrev Gk:Ic:=
 nJ (jc (f2 OD)<|iL (eC<|.int 2)<|iL (jc (f2 LJ)<|iL (jc (f1 kH)<|iL (iK 0) iW)<|iL (eC<|.int 5) iW) iW)
abbrev IV:Sm:=
 jn (jD (eFn sd<|iL (iK 0)<|iL (iK 1) iW)<|jC 2)
 Ei
abbrev MR:Sm:=
 jn (kN Gk (jC 1)
 IV)
 (jN<|eC<|.bl true)
abbrev BA:ae->iQ->R A:=jO L3 MR
section
variable {P:aj}{w:ah}{K:au}{mg:Str->bd}{base:aq}{f:ak}{fd:FuncData}
def Ea:FnScope vh vG (iY vn):=tB rfl rfl rfl ∅
def C9(F:Fun K "is_whole" "is_whole" vn f fd)(aai:mg "isinstance" = none)(aam:mg "bool" = none)(aak:mg "int" = none):FnOk P w K mg base oW 1 f fd vG (qe K 1 pG):=tu (m:=vD) F Ea λg B d s H E j=>
 iT (ji<|NB (i_ A0 aai kQ<|iM (iJ 0)<|iM (AM aak F9) iU)<|Pa<|Wn<|i_ A0 aai kQ<|iM (iJ 0)<|iM (AM aam Im) iU)
def C3:FnScope ug qo (iY tV):=tB rfl rfl rfl ∅
def CU(F:Fun K "need_pair" "need_pair" tV f fd)(aab:mg "len" = none):FnOk P w K mg base oW 1 f fd qo (qe K 2 lN):=tu (m:=tZ) F C3 λg B d s H E j=>
 iT (j8 (jj (Af j.units) (i_ kD aab jI<|iM (iJ 0) iU)<|i_ kD aab jI<|iM (iJ 1) iU)
 (iT<|OZ)
 jy)
def zk:FnScope qX qL (iY qZ):=tB rfl rfl rfl ∅
def z8(F:Fun K "is_exchange" "is_exchange" qZ f fd)(aaA:nK P w K mg base 1 "is_whole" vG pG):FnOk P w K mg base oW 2 f fd qL (qe K 2 mw):=tu (m:=qT) F zk λj B d s H E g=>
 iT (ji<|NB (KH aaA g<|iJ 1)<|Pa<|WU RB (zm g.units) iP (iJ 1)<|iJ 0)
def oY:FnScope mV mQ (iY mS):=tB rfl rfl rfl ∅
def uW(F:Fun K "exchanged_places" "exchanged_places" mS f fd)(aag:mg "list" = none)(aah:mg "tuple" = none):FnOk P w K mg base oW 1 f fd mQ (qe K 3 j0):=tu (m:=mR) F oY λg B d s H E j=>
 iS (jk (i:=3) oY.nd<|ow (F8 rfl) aag yG<|iM (iJ 0) iU)
 (iS (oH (lJ<|iM (jF (iJ 3)<|i6 oi (iJ 2) iP)<|iM (jF (iJ 3)<|i6 oi (iJ 1) iP) iU)<|oE rfl<|jq (B9 (iJ 3)<|i6 oi (iJ 1) iP)<|jq (B9 (iJ 3)<|i6 oi (iJ 2) iP) mH)
 (iT<|ji<|ow (Jo rfl) aah we<|iM (iJ 3) iU))
def CH:FnScope tU uD (iY uw):=tB rfl rfl rfl ∅
def CS(F:Fun K "exchanged" "exchanged" uw f fd)(aab:mg "len" = none)(aaB:nK P w K mg base 2 "is_exchange" qL mw)(aaC:nK P w K mg base 1 "exchanged_places" mQ j0):FnOk P w K mg base oW 3 f fd uD (qe K 2 ng):=tu (m:=ur) F CH λj B d s H E g=>
 iS (j8 (xJ<|vK<|vt aaB g (i_ kD aab jI<|iM (iJ 0) iU)<|iJ 1)
 (iT<|OZ)
 jy)
 (iT<|ji<|WA aaC g (iJ 0) (iJ 1)<|i6 jG (iJ 1) iP)
def zH:FnScope rf qC (iY qO):=tB rfl rfl rfl ∅
def zy(F:Fun K "place_pairs" "place_pairs" qO f fd)(aad:mg "range" = none):FnOk P w K mg base oW 1 f fd qC (qe K 1 kU):=tu (m:=rj) F zH λg B d s H E j=>
 iT (ji<|NV (N:=["i", "j", "n"]) (cap:=[none,none,some 0]) rfl (sZ ["n"] rfl ∅ ∅ ∅ ∅ ∅ (bU.mpr ⟨by first|exact Or.inl rfl|exact Or.inr rfl,(nofun)⟩) ⟨rfl,by decide +kernel,trivial⟩) (pF aad iP<|iJ 0) (λ_ _ _ _=>ja (i:=0) (show(["i", "j", "n"]:ar).Nodup by decide +kernel) rfl (Or.inl rfl)<|.inr rfl) (λ_ _ _ _=>wo) (λ_ _ _ _=>pF aad (i6 jG (iJ 0) iP)<|i6 jG (iJ 2) iP) (λ_ _ _ _=>ja (i:=1) (show(["i", "j", "n"]:ar).Nodup by decide +kernel) rfl (Or.inl rfl)<|.inr rfl) (λ_ _ _ _=>wo) λ_ _ _ _=>lJ<|iM (iJ 0)<|iM (iJ 1) iU)
def zT:FnScope qP q_ (iY qY):=tB rfl rfl rfl ∅
def zO(F:Fun K "wrong_pairs" "wrong_pairs" qY f fd)(aab:mg "len" = none)(aaD:nK P w K mg base 1 "place_pairs" qC kU):FnOk P w K mg base oW 2 f fd q_ (qe K 1 mD):=tu (m:=qG) F zT λj B d s H E g=>
 iT (ji<|n9 (N:=["i", "j", "order"]) (cap:=[none,none,some 0]) rfl (sZ ["order"] rfl ∅ ∅ ∅ ∅ ∅ (bU.mpr ⟨by first|exact Or.inl rfl|exact Or.inr rfl,(nofun)⟩) ⟨rfl,by decide +kernel,trivial⟩) (mU<|KH aaD g<|i_ kD aab jI<|iM (iJ 0) iU) (λ_ _ _ _=>oE rfl<|jq (ja (i:=0) (show(["i", "j", "order"]:ar).Nodup by decide +kernel) rfl (Or.inl rfl)<|.inr rfl)<|jq (ja (i:=1) (show(["i", "j", "order"]:ar).Nodup by decide +kernel) rfl (Or.inl rfl)<|.inr rfl) mH) (λ_ _ _ _=>qz<|jj (vR g.units) (jF (iJ 2)<|i6 oi (iJ 0) iP)<|jF (iJ 2)<|i6 oi (iJ 1) iP) λ_ _ _ _=>lJ<|iM (iJ 0)<|iM (iJ 1) iU)
def JU:FnScope zJ zF (iY Ad):=tB rfl rfl rfl ∅
def Ky(F:Fun K "length" "length" Ad f fd)(aab:mg "len" = none)(aaE:nK P w K mg base 2 "wrong_pairs" q_ mD):FnOk P w K mg base oW 3 f fd zF (qe K 1 pR):=tu (m:=Ah) F JU λg B d s H E j=>
 iT (ji<|i_ kD aab jI<|iM (KH aaE j<|iJ 0) iU)
def KY:FnScope CW CY (iY BR):=tB rfl rfl rfl ∅
def Mq(F:Fun K "falls" "falls" BR f fd)(aad:mg "range" = none)(aab:mg "len" = none):FnOk P w K mg base oW 1 f fd CY (qe K 1 uL):=tu (m:=CJ) F KY λg B d s H E j=>
 iT (ji<|n9 (N:=["k", "order"]) (cap:=[none,some 0]) rfl (sZ ["order"] rfl ∅ ∅ ∅ ∅ ∅ (bU.mpr ⟨by first|exact Or.inl rfl|exact Or.inr rfl,(nofun)⟩) ⟨rfl,by decide +kernel,trivial⟩) (pF aad iP<|i_ kD aab jI<|iM (iJ 0) iU) (λ_ _ _ _=>ja (i:=0) (show(["k", "order"]:ar).Nodup by decide +kernel) rfl (Or.inl rfl)<|.inr rfl) (λ_ _ _ _=>qz<|jj (vR j.units) (jF (iJ 1)<|i6 oi (iJ 0) iP)<|jF (iJ 1)<|iJ 0) λ_ _ _ _=>iJ 0)
def kW:FnScope lH lC (iY lE):=tB rfl rfl rfl ∅
def tD(F:Fun K "first_above_nought" "first_above_nought" lE f fd):FnOk P w K mg base oW 1 f fd lC (qe K 1 jK):=tu (m:=lD) F kW λg B d s H E j=>
 iS (jk (i:=1) kW.nd iP)
 (iS (zA 1000000 bO (jj RB (jF (iJ 0)<|i6 oi (iJ 1) iP) iP)
 (iT<|Wk (i:=1) kW.nd iP IT))
 (iT<|ji<|iJ 1))
def zM:FnScope OL OO (iY MJ):=tB rfl rfl rfl ∅
def VX(F:Fun K "bar" "bar" MJ f fd)(aab:mg "len" = none)(aad:mg "range" = none)(aan:mg "max" = none)(aao:nK P w K mg base 1 "need_pair" qo lN)(aaF:nK P w K mg base 1 "first_above_nought" lC jK):FnOk P w K mg base oW 2 f fd OO (qe K 2 Bs):=tu (m:=N6) F zM λj B d s H E g=>
 iS (sC<|vt aao g (iJ 0)<|iJ 1)
 (iS (jk (i:=2) zM.nd<|i6 AY (lA<|iM iP iU)<|i_ kD aab jI<|iM (iJ 0) iU)
 (iS (kY bO rfl (lV aad<|i_ kD aab jI<|iM (iJ 0) iU) (ja (i:=3) zM.nd)
 (iS (kY bO rfl (lV aad<|jF (iJ 0)<|iJ 3) (ja (i:=4) zM.nd)
 (iT<|Jr (iJ 2) (iJ 4) iP IT))
 (iS (kY bO rfl (lV aad<|jF (iJ 1)<|iJ 3) (ja (i:=4) zM.nd)
 (iT<|Jr (iJ 2) (iJ 4) iP Rq))
 (iT (j8 (jj (vR g.units) (i_ (U6 rfl) aan Lb<|iM (iJ 2) iU) iP)
 (iT<|ji<|lJ<|iM (i6 jG (iJ 3) iP)<|iM (KH aaF g<|iJ 2) iU)
 jy)))))
 (iT<|ji<|Lx)))
def Ef:FnScope su sq (iY vB):=tB rfl rfl rfl ∅
def Dh(F:Fun K "is_below" "is_below" vB f fd)(aaG:nK P w K mg base 2 "bar" OO Bs):FnOk P w K mg base oW 3 f fd sq (qe K 2 mT):=tu (m:=sD) F Ef λg B d s H E j=>
 iT (ji<|CG ZC (vt aaG j (iJ 0)<|iJ 1)<|Lx)
def zY:FnScope n6 qH (iY rm):=tB rfl rfl rfl ∅
def zE(F:Fun K "need_bounds" "need_bounds" rm f fd)(aab:mg "len" = none)(aau:nK P w K mg base 3 "length" zF pR):FnOk P w K mg base oW 4 f fd qH (qe K 5 kh):=tu (m:=nX) F zY λj B g s H E d=>
 iS (j8 (jj RB (i_ kD aab jI<|iM (iJ 0) iU)<|iJ 2)
 (iT<|RV)
 jy)
 (iT (j8 (AW.at<|yW (jj (vR d.units) (i_ kD aab jI<|iM (iJ 0) iU)<|iJ 3)<|xg<|jj (vR d.units) (i6 oi (KH aau d<|iJ 1)<|KH aau d<|iJ 0)<|iJ 4)
 (iT<|OZ)
 jy))
def xK:FnScope oG mG (iY oV):=tB rfl rfl rfl ∅
def xH(F:Fun K "as_polynomial" "as_polynomial" oV f fd)(aaj:mg "sorted" = none):FnOk P w K mg base oW 1 f fd mG (qe K 1 jQ):=tu (m:=oQ) F xK λj B d s H E g=>
 iT (ji<|n9 (N:=["power", "numbers"]) (cap:=[none,some 0]) rfl (sZ ["numbers"] rfl ∅ ∅ ∅ ∅ ∅ (bU.mpr ⟨by first|exact Or.inl rfl|exact Or.inr rfl,(nofun)⟩) ⟨rfl,by decide +kernel,trivial⟩) (mU<|i_ (Gm rfl) aaj uS<|iM (iJ 0) iU) (λ_ _ _ _=>ja (i:=0) (show(["power", "numbers"]:ar).Nodup by decide +kernel) rfl (Or.inl rfl)<|.inr rfl) (λ_ _ _ _=>qz<|jj (Af g.units) (BX g.units (iJ 1)<|iJ 0) iP) λ_ _ _ _=>lJ<|iM (iJ 0)<|iM (BX g.units (iJ 1)<|iJ 0) iU)
def yo:FnScope Gb E8 (iY FF):=tB rfl rfl rfl ∅
def QN(F:Fun K "plus" "plus" FF f fd)(aaH:mg "dict" = none)(aap:nK P w K mg base 1 "as_polynomial" mG jQ):FnOk P w K mg base oW 2 f fd E8 (qe K 2 An):=tu (m:=FZ) F yo λj B d s H E g=>
 iS (jk (i:=2) yo.nd<|ow (Qc rfl) aaH Qk<|iM (iJ 0) iU)
 (iS (kY bO rfl (mU<|iJ 1) (oE rfl<|jq (ja (i:=3) yo.nd)<|jq (ja (i:=4) yo.nd) mH)
 (iT<|oH (i6 jG (Ca dm fB (Ck g.units) (iJ 2)<|iM (iJ 3)<|iM iP iU)<|iJ 4)<|yQ g.units (iJ 2)<|iJ 3))
 (iT<|ji<|KH aap g<|iJ 2))
def rC:FnScope BS CT (iY CD):=tB rfl rfl rfl ∅
def NX(F:Fun K "times" "times" CD f fd)(aap:nK P w K mg base 1 "as_polynomial" mG jQ):FnOk P w K mg base oW 2 f fd CT (qe K 2 uF):=tu (m:=Ct) F rC λj B d s H E g=>
 iS (jk (i:=2) rC.nd zG)
 (iS (kY bO rfl (mU<|iJ 0) (oE rfl<|jq (ja (i:=3) rC.nd)<|jq (ja (i:=4) rC.nd) mH)
 (iT (kY bO rfl (mU<|iJ 1) (oE rfl<|jq (ja (i:=5) rC.nd)<|jq (ja (i:=6) rC.nd) mH)
 (iT<|oH (i6 jG (Ca dm fB (Ck g.units) (iJ 2)<|iM (i6 jG (iJ 3)<|iJ 5)<|iM iP iU)<|i6 Mb (iJ 4)<|iJ 6)<|yQ g.units (iJ 2)<|i6 jG (iJ 3)<|iJ 5))))
 (iT<|ji<|KH aap g<|iJ 2))
def BW:FnScope qv tN (iY tM):=tB rfl rfl rfl ∅
def Cu(F:Fun K "need_rest" "need_rest" tM f fd)(aaI:∃t,mg "MOST_PAIRS" = some (.int 6 t))(aaJ:∃t,mg "MOST_THINGS" = some (.int 8 t))(aaK:∃t,mg "FREE_THINGS" = some (.int 5 t))(aao:nK P w K mg base 1 "need_pair" qo lN)(aaL:nK P w K mg base 4 "need_bounds" qH kh):FnOk P w K mg base oW 5 f fd tN (qe K 2 mZ):=tu (m:=qy) F BW λj B d s H E g=>
 iS (sC<|vt aao g (iJ 0)<|iJ 1)
 (iT<|sC<|qu aaL (g.mono ⋯) (iM (iJ 0)<|iM (iJ 1)<|iM (y9 aaK.choose_spec)<|iM (y9 aaJ.choose_spec)<|iM (y9 aaI.choose_spec) iU)<|jd<|jd<|jd<|jd<|jd k_)
def mP:FnScope kE lO (iY pN):=tB rfl rfl rfl ∅
def yl{Fs:ae->iQ->R A}(F:Fun K "rest_by_fall" "rest_by_fall" pN f fd)(aav:nK P w K mg base 1 "falls" CY uL)(aaw:nK P w K mg base 3 "exchanged" uD ng)(aaM:nK P w K mg base 2 "plus" E8 An)(aaN:nK P w K mg base 2 "times" CT uF)(aa4:nK P w K mg base (4+2 * kr) "found_rest" j9 Fs):FnOk P w K mg base oW (4+2 * kr+1) f fd lO (qe K 3<|jO kE<|jL Fs):=tu (m:=jL Fs) F mP λj B g s H E d=>
 iS (jk (i:=3) mP.nd<|jF (qu aav (d.mono ()) (iM (iJ 1) iU)<|jd k_) iP)
 (iS (jk (i:=4) mP.nd<|qu aaw (d.mono ()) (iM (iJ 1)<|iM (iJ 3) iU)<|jd<|jd k_)
 (iS (jk (i:=5) mP.nd<|qu aa4 (d.mono ()) (iM (qu aaw (d.mono ()) (iM (iJ 0)<|iM (iJ 3) iU)<|jd<|jd k_)<|iM (iJ 4)<|iM (iJ 2) iU)<|jd<|jd<|jd k_)
 (iS (j8 (jj (YV d.units) (iJ 3)<|qu aav (d.mono ()) (iM (iJ 0) iU)<|jd k_)
 (iT<|ji<|iJ 5)
 jy)
 (iT<|ji<|qu aaM (d.mono ()) (iM (iJ 5)<|iM (qu aaN (d.mono ()) (iM (lA<|iM (lJ<|iM iP<|iM iP iU) iU)<|iM (qu aa4 (d.mono ()) (iM (iJ 0)<|iM (iJ 4)<|iM (iJ 2) iU)<|jd<|jd<|jd k_) iU)<|jd<|jd k_) iU)<|jd<|jd k_))))
def u_:FnScope jA j9 (iY o8):=tB rfl rfl rfl ∅
def Au{Fs:ae->iQ->R A}(F:Fun K "found_rest" "found_rest" o8 f fd)(aaq:nK P w K mg base 3 "is_below" sq mT)(aa8:nK P w K mg base (4+2 * kr+1) "rest_by_fall" lO<|jO kE<|jL Fs):FnOk P w K mg base oW (4+2 * kr+2) f fd j9 (qe K 3<|jO jA<|jz Fs):=tu (m:=jz Fs) F u_ λj B g s H E d=>
 iS (jk (i:=3) u_.nd<|lJ<|iM (iJ 0)<|iM (iJ 1) iU)
 (iS (j8 (jj (OV d.units) (iJ 3)<|iJ 2)
 (iT (j8 (jj (B_ d.units) (iJ 0)<|iJ 1)
 (iT<|oH (lA<|iM (lJ<|iM iP<|iM iP iU) iU)<|BG d.units (iJ 2)<|iJ 3)
 (iT (j8 (xJ<|vK<|qu aaq (d.mono ()) (iM (iJ 0)<|iM (iJ 1) iU)<|jd<|jd k_)
 (iT<|oH (lA iU)<|BG d.units (iJ 2)<|iJ 3)
 (iT<|oH (qu aa8 (d.mono ()) (iM (iJ 0)<|iM (iJ 1)<|iM (iJ 2) iU)<|jd<|jd<|jd k_)<|BG d.units (iJ 2)<|iJ 3)))))
 jy)
 (iT<|ji<|VF d.units (iJ 2)<|iJ 3))
theorem ue(F:Fun K "found_rest" "found_rest" o8 f fd)(aaq:nK P w K mg base 3 "is_below" sq mT)(M_rest_by_fall:∀{Fs:ae->iQ->R A} {kr:Nat},nK P w K mg base (4+2 * kr) "found_rest" j9 Fs->nK P w K mg base (4+2 * kr+1) "rest_by_fall" lO (jO kE<|jL Fs))(hm:mg "found_rest" = some (.ref f))(hk:PySem.W.keepIn K (.ref f)=true)(hb:Binds K fd j9 []):∀kr,FnOk P w K mg base oW (4+2 * kr) f fd j9 (qe K 3<|jJ kr)
 | 0=>Vj rfl
 | kr+1=>Au F aaq<|M_rest_by_fall ⟨f,fd,ue F aaq M_rest_by_fall hm hk hb kr,hm,hk,hb⟩
def Rl:FnScope E6 BY (iY F1):=tB rfl rfl rfl ∅
def Qf(F:Fun K "rest" "rest" F1 f fd)(aaP:nK P w K mg base 5 "need_rest" tN mZ)(aaQ:nK P w K mg base 64 "found_rest" j9 sH):FnOk P w K mg base oW 65 f fd BY (qe K 2 qQ):=tu (m:=Fq) F Rl λj B d s H E g=>
 iS (sC<|vt aaP g (iJ 0)<|iJ 1)
 (iT<|ji<|WA aaQ g (iJ 0) (iJ 1)<|N1)
def p7:FnScope xw wZ (iY xF):=tB rfl rfl rfl ∅
def E_(F:Fun K "_law_bag" "_law_bag" xF f fd)(aab:mg "len" = none):FnOk P w K mg base oW 1 f fd wZ (qe K 2 sd):=tu (m:=xN) F p7 λg B d s H E j=>
 iS (jk (i:=2) p7.nd iP)
 (iS (j8 (jj (zm j.units) (iJ 1)<|i_ kD aab jI<|iM (iJ 0) iU)
 (iT<|jk (i:=2) p7.nd<|jF (iJ 0)<|iJ 1)
 jy)
 (iS (jk (i:=3) p7.nd iP)
 (iS (j8 (jj ZJ (iJ 2)<|i6 YE iP iP)
 (iT<|jk (i:=3) p7.nd<|iJ 2)
 jy)
 (iT<|ji<|lA<|iM (iJ 3)<|iM (i6 DC (i6 jG (i6 jG (iJ 2)<|i6 AY iP<|iJ 1) iP) iP) iU))))
def wu:FnScope qk m_ (iY tY):=tB rfl rfl rfl ∅
def B4(F:Fun K "_law_digit" "_law_digit" tY f fd):FnOk P w K mg base oW 1 f fd m_ (qe K 2 jh):=tu (m:=qi) F wu λg B d s H E j=>
 iS (j8 (jj (vR j.units) (jF (iJ 0) iP) iP)
 (iS (jk (i:=2) wu.nd<|i6 DC (jF (iJ 0) iP)<|iJ 1)
 (iS (oH (i6 NJ (jF (iJ 0) iP)<|iJ 1)<|B9 (iJ 0) iP)
 (iT<|ji<|iJ 2)))
 jy)
 (iS (oH (i6 DC (i6 jG (i6 AY (jF (iJ 0) iP) iP) iP) iP)<|B9 (iJ 0) iP)
 (iT<|ji<|i6 DC (i6 DC (i6 AY (i6 NJ (jF (iJ 0) iP) iP) iP) iP)<|iJ 1))
def yf:FnScope pK nq (iY pX):=tB rfl rfl rfl ∅
def yh(F:Fun K "_law_own_poly" "_law_own_poly" pX f fd)(aaj:mg "sorted" = none):FnOk P w K mg base oW 1 f fd nq (qe K 1 j3):=tu (m:=pQ) F yf λj B d s H E g=>
 iT (ji<|n9 (N:=["_law_power", "_law_held"]) (cap:=[none,some 0]) rfl (sZ ["_law_held"] rfl ∅ ∅ ∅ ∅ ∅ (bU.mpr ⟨by first|exact Or.inl rfl|exact Or.inr rfl,(nofun)⟩) ⟨rfl,by decide +kernel,trivial⟩) (mU<|i_ (Gm rfl) aaj uS<|iM (iJ 0) iU) (λ_ _ _ _=>ja (i:=0) (show(["_law_power", "_law_held"]:ar).Nodup by decide +kernel) rfl (Or.inl rfl)<|.inr rfl) (λ_ _ _ _=>qz<|jj (Af g.units) (BX g.units (iJ 1)<|iJ 0) iP) λ_ _ _ _=>lJ<|iM (iJ 0)<|iM (BX g.units (iJ 1)<|iJ 0) iU)
def mK:FnScope pO pI (iY pJ):=tB rfl rfl rfl ∅
def yj(F:Fun K "_law_own_plus" "_law_own_plus" pJ f fd)(aar:nK P w K mg base 1 "_law_own_poly" nq j3):FnOk P w K mg base oW 2 f fd pI (qe K 2 lG):=tu (m:=pZ) F mK λj B d s H E g=>
 iS (jk (i:=2) mK.nd zG)
 (iS (kY bO rfl (mU<|i6 jG (iJ 0)<|iJ 1) (oE rfl<|jq (ja (i:=3) mK.nd)<|jq (ja (i:=4) mK.nd) mH)
 (iT<|oH (i6 jG (Ca dm fB (Ck g.units) (iJ 2)<|iM (iJ 3)<|iM iP iU)<|iJ 4)<|yQ g.units (iJ 2)<|iJ 3))
 (iT<|ji<|KH aar g<|iJ 2))
def jX:FnScope oM oR (iY oN):=tB rfl rfl rfl ∅
def xC(F:Fun K "_law_own_times" "_law_own_times" oN f fd)(aar:nK P w K mg base 1 "_law_own_poly" nq j3):FnOk P w K mg base oW 2 f fd oR (qe K 2 kP):=tu (m:=oS) F jX λj B d s H E g=>
 iS (jk (i:=2) jX.nd zG)
 (iS (kY bO rfl (mU<|iJ 0) (oE rfl<|jq (ja (i:=3) jX.nd)<|jq (ja (i:=4) jX.nd) mH)
 (iT (kY bO rfl (mU<|iJ 1) (oE rfl<|jq (ja (i:=5) jX.nd)<|jq (ja (i:=6) jX.nd) mH)
 (iT<|oH (i6 jG (Ca dm fB (Ck g.units) (iJ 2)<|iM (i6 jG (iJ 3)<|iJ 5)<|iM iP iU)<|i6 Mb (iJ 4)<|iJ 6)<|yQ g.units (iJ 2)<|i6 jG (iJ 3)<|iJ 5))))
 (iT<|ji<|KH aar g<|iJ 2))
def sM:FnScope tQ ud (iY t7):=tB rfl rfl rfl ∅
def B7(F:Fun K "_law_order" "_law_order" t7 f fd)(aag:mg "list" = none)(aad:mg "range" = none)(aab:mg "len" = none)(aah:mg "tuple" = none)(aaf:nK P w K mg base 1 "_law_digit" m_ jh):FnOk P w K mg base oW 2 f fd ud (qe K 2 lB):=tu (m:=uh) F sM λj B d s H E g=>
 iS (jk (i:=2) sM.nd<|ow (F8 rfl) aag yG<|iM (ow OA aad Dl<|iM iP<|iM (i6 jG (iJ 1) iP) iU) iU)
 (iS (jk (i:=3) sM.nd<|lA iU)
 (iS (zA 1000000 bO (jj (vR g.units) (i_ kD aab jI<|iM (iJ 2) iU) iP)
 (iT<|sC<|IA fU fV za (iJ 3)<|iM (IA PySem.F.slot_list_pop PySem.F.type_list_pop Rj (iJ 2)<|iM (vt aaf g (iJ 0)<|i_ kD aab jI<|iM (iJ 2) iU) iU) iU))
 (iT<|ji<|ow (Jo rfl) aah we<|iM (iJ 3) iU)))
def zp:FnScope rq nY (iY qI):=tB rfl rfl rfl ∅
def zZ(F:Fun K "_law_swapped" "_law_swapped" qI f fd):FnOk P w K mg base oW 1 f fd nY (qe K 3 ki):=tu (m:=qW) F zp λg B d s H E j=>
 iT (ji<|i6 jG (i6 jG (i6 jG (i6 jG (zc (iJ 0) sP<|nE<|iJ 1)<|lJ<|iM (jF (iJ 0)<|iJ 2) iU)<|zc (iJ 0) (nE<|i6 jG (iJ 1) iP)<|nE<|iJ 2)<|lJ<|iM (jF (iJ 0)<|iJ 1) iU)<|zc (iJ 0) (nE<|i6 jG (iJ 2) iP) sP)
def j7:FnScope nQ nU (iY nL):=tB rfl rfl rfl ∅
def wN(F:Fun K "_law_pairs_less" "_law_pairs_less" nL f fd)(aad:mg "range" = none)(aab:mg "len" = none):FnOk P w K mg base oW 1 f fd nU (qe K 2 kC):=tu (m:=nS) F j7 λj B d s H E g=>
 iS (jk (i:=2) j7.nd<|lA iU)
 (iS (kY bO rfl (lV aad<|i_ kD aab jI<|iM (iJ 0) iU) (ja (i:=3) j7.nd)
 (iT (kY bO rfl (pF aad (i6 jG (iJ 3) iP)<|i_ kD aab jI<|iM (iJ 0) iU) (ja (i:=4) j7.nd)
 (iS (jk (i:=5) j7.nd<|i_ kD aab jI<|iM (n9 (N:=["_law_thing", "_law_one", "_law_j", "_law_i"]) (cap:=[none,some 0,some 4,some 3]) rfl (sZ ["_law_one", "_law_j", "_law_i"] rfl ∅ ∅ ∅ ∅ ∅ (bU.mpr ⟨by first|exact Or.inl rfl|exact Or.inr rfl,(bU.mpr ⟨by first|exact Or.inl rfl|exact Or.inr rfl,(bU.mpr ⟨by first|exact Or.inl rfl|exact Or.inr rfl,(nofun)⟩)⟩)⟩) ⟨rfl,by decide +kernel,⟨rfl,by decide +kernel,⟨rfl,by decide +kernel,trivial⟩⟩⟩) (mU<|zc (iJ 0) (nE<|i6 jG (iJ 3) iP)<|nE<|iJ 4) (λ_ _ _ _=>ja (i:=0) (show(["_law_thing", "_law_one", "_law_j", "_law_i"]:ar).Nodup by decide +kernel) rfl (Or.inl rfl)<|.inr rfl) (λ_ _ _ _=>qz<|Xu (zm g.units) (zm g.units) (jF (iJ 1)<|iJ 2) (iJ 0)<|jF (iJ 1)<|iJ 3) λ_ _ _ _=>iJ 0) iU)
 (iT (j8 (AW.at<|xy (jj (vR g.units) (jF (iJ 0)<|iJ 3)<|jF (iJ 0)<|iJ 4)<|uE<|jj RB (i6 jG iP<|i6 AY iP<|iJ 5)<|iJ 1)
 (iT<|sC<|IA fU fV za (iJ 2)<|iM (lJ<|iM (iJ 3)<|iM (iJ 4)<|iM (i6 jG iP<|i6 AY iP<|iJ 5) iU) iU)
 jy))))))
 (iT<|ji<|iJ 2))
def jU:FnScope t_ uf (iY tW):=tB rfl rfl rfl ∅
def BO(F:Fun K "_law_under" "_law_under" tW f fd)(aad:mg "range" = none)(aab:mg "len" = none)(aaf:nK P w K mg base 1 "_law_digit" m_ jh)(aaR:nK P w K mg base 1 "_law_pairs_less" nU kC)(aas:nK P w K mg base 1 "_law_swapped" nY ki):FnOk P w K mg base oW 2 f fd uf (qe K 3 oq):=tu (m:=um) F jU λj B g s H E d=>
 iS (jk (i:=3) jU.nd<|iJ 1)
 (iS (kY bO rfl (lV aad<|vt aaf d (iJ 0) iP) (ja (i:=4) jU.nd)
 (iS (jk (i:=5) jU.nd<|vt aaR d (iJ 3)<|iJ 2)
 (iT (j8 (jj (Af d.units) (iJ 5)<|lA iU)
 (iS (oH (jF (iJ 5)<|vt aaf d (iJ 0)<|i_ kD aab jI<|iM (iJ 5) iU)<|oE rfl<|jq (ja (i:=6) jU.nd)<|jq (ja (i:=7) jU.nd)<|jq (ja (i:=8) jU.nd) mH)
 (iS (jk (i:=3) jU.nd<|WA aas d (iJ 3) (iJ 6)<|iJ 7)
 (iT<|jk (i:=2) jU.nd<|i6 oi (iJ 2)<|iJ 8)))
 jy))))
 (iT<|ji<|iJ 3))
def Cz:FnScope uz uq (iY uy):=tB rfl rfl rfl ∅
def CV(F:Fun K "_law_wrong" "_law_wrong" uy f fd)(aaS:mg "sum" = none)(aad:mg "range" = none)(aab:mg "len" = none):FnOk P w K mg base oW 1 f fd uq (qe K 1 nc):=tu (m:=tR) F Cz λg B d s H E j=>
 iT (ji<|i_ (XH rfl) aaS Vy<|iM (n9 (N:=["_law_k", "_law_one"]) (cap:=[none,some 0]) rfl (sZ ["_law_one"] rfl ∅ ∅ ∅ ∅ ∅ (bU.mpr ⟨by first|exact Or.inl rfl|exact Or.inr rfl,(nofun)⟩) ⟨rfl,by decide +kernel,trivial⟩) (lV aad<|i_ kD aab jI<|iM (iJ 0) iU) (λ_ _ _ _=>ja (i:=0) (show(["_law_k", "_law_one"]:ar).Nodup by decide +kernel) rfl (Or.inr rfl)<|.inl rfl) (λ_ _ _ _=>wo) λ_ _ _ _=>i_ kD aab jI<|iM (n9 (N:=["_law_thing", "_law_one", "_law_k"]) (cap:=[none,some 1,some 0]) rfl (sZ ["_law_one", "_law_k"] rfl ∅ ∅ ∅ ∅ ∅ (bU.mpr ⟨by first|exact Or.inl rfl|exact Or.inr rfl,(bU.mpr ⟨by first|exact Or.inl rfl|exact Or.inr rfl,(nofun)⟩)⟩) ⟨rfl,by decide +kernel,⟨rfl,by decide +kernel,trivial⟩⟩) (mU<|zc (iJ 1) (nE<|i6 jG (iJ 0) iP) sP) (λ_ _ _ _=>ja (i:=0) (show(["_law_thing", "_law_one", "_law_k"]:ar).Nodup by decide +kernel) rfl (Or.inl rfl)<|.inr rfl) (λ_ _ _ _=>qz<|jj (zm j.units) (iJ 0)<|jF (iJ 1)<|iJ 2) λ_ _ _ _=>iJ 0) iU) iU)
def t6:FnScope vJ vN (iY vL):=tB rfl rfl rfl ∅
def DS(F:Fun K "_law_near" "_law_near" vL f fd)(aad:mg "range" = none)(aab:mg "len" = none)(aax:nK P w K mg base 1 "_law_wrong" uq nc)(aas:nK P w K mg base 1 "_law_swapped" nY ki):FnOk P w K mg base oW 2 f fd vN (qe K 3 pW):=tu (m:=vI) F t6 λj B g s H E d=>
 iS (zA 1000000 bO (jj (vR d.units) (i6 oi (KH aax d<|iJ 1)<|KH aax d<|iJ 0)<|iJ 2)
 (iS (jk (i:=3) t6.nd<|jF (n9 (N:=["_law_k", "_law_one"]) (cap:=[none,some 0]) rfl (sZ ["_law_one"] rfl ∅ ∅ ∅ ∅ ∅ (bU.mpr ⟨by first|exact Or.inl rfl|exact Or.inr rfl,(nofun)⟩) ⟨rfl,by decide +kernel,trivial⟩) (lV aad<|i6 oi (i_ kD aab jI<|iM (iJ 0) iU) iP) (λ_ _ _ _=>ja (i:=0) (show(["_law_k", "_law_one"]:ar).Nodup by decide +kernel) rfl (Or.inl rfl)<|.inr rfl) (λ_ _ _ _=>qz<|jj (zm d.units) (jF (iJ 1)<|iJ 0)<|jF (iJ 1)<|i6 jG (iJ 0) iP) λ_ _ _ _=>iJ 0) iP)
 (iT<|jk (i:=0) t6.nd<|WA aas d (iJ 0) (iJ 3)<|i6 jG (iJ 3) iP)))
 (iT<|ji<|iJ 0)
def jV:FnScope vg vM (iY vF):=tB rfl rfl rfl ∅
def DO(F:Fun K "_law_case" "_law_case" vF f fd)(aak:mg "int" = none)(aah:mg "tuple" = none)(aad:mg "range" = none)(aaf:nK P w K mg base 1 "_law_digit" m_ jh)(aat:nK P w K mg base 2 "_law_order" ud lB)(aaT:nK P w K mg base 2 "_law_under" uf oq)(aaU:nK P w K mg base 2 "_law_near" vN pW):FnOk P w K mg base oW 3 f fd vM (qe K 2 p8):=tu (m:=vf) F jV λj B g s H E d=>
 iS (jk (i:=2) jV.nd<|i6 jG iP<|vt aaf d (iJ 0)<|jF (lA<|iM iP<|iM iP iU)<|ow Wg aak F9<|iM (CG (vR d.units) (iJ 1) iP) iU)
 (iS (jk (i:=3) jV.nd iP)
 (iS (j8 (AW.at<|xy (jj (B_ d.units) (iJ 1) iP)<|uE<|jj (B_ d.units) (vt aaf d (iJ 0) iP) iP)
 (iS (jk (i:=2) jV.nd<|i6 jG iP<|vt aaf d (iJ 0) iP)
 (iT<|jk (i:=3) jV.nd iP))
 jy)
 (iS (jk (i:=4) jV.nd<|vt aat d (iJ 0)<|iJ 2)
 (iS (j8 (AW.at<|xy (jj (B_ d.units) (vt aaf d (iJ 0) iP) iP)<|uE<|jj (zm d.units) (iJ 2) iP)
 (iT<|jk (i:=4) jV.nd<|Ms rfl aah we aad Dl (iJ 2) iP<|Wb iP)
 jy)
 (iS (jk (i:=5) jV.nd<|WA aaT d (iJ 0) (iJ 4)<|iJ 3)
 (iS (j8 (AW.at<|xy (jj (vR d.units) (iJ 2) iP)<|uE<|jj (B_ d.units) (vt aaf d (iJ 0) iP) iP)
 (iT<|jk (i:=5) jV.nd<|WA aaU d (vt aat d (iJ 0)<|iJ 2) (iJ 4)<|iJ 3)
 jy)
 (iS (j8 (AW.at<|xy (jj (zm d.units) (iJ 2) iP)<|uE<|jj (B_ d.units) (vt aaf d (iJ 0) iP) iP)
 (iT<|jk (i:=5) jV.nd<|vt aat d (iJ 0)<|iJ 2)
 jy)
 (iT<|ji<|lJ<|iM (iJ 5)<|iM (iJ 4) iU))))))))
def mL:FnScope pM p9 (iY pU):=tB rfl rfl rfl ∅
def yg(F:Fun K "_law_is_under" "_law_is_under" pU f fd)(aad:mg "range" = none)(aab:mg "len" = none)(aaV:mg "zip" = none)(aaj:mg "sorted" = none):FnOk P w K mg base oW 1 f fd p9 (qe K 2 kB):=tu (m:=pV) F mL λg B d s H E j=>
 iS (kY bO rfl (pF aad iP<|i6 jG (i_ kD aab jI<|iM (iJ 0) iU) iP) (ja (i:=2) mL.nd)
 (iT (kY bO rfl (Ux aaV (i_ Jd aaj uS<|iM (LM (iJ 0) sP<|nE<|iJ 2) iU)<|i_ Jd aaj uS<|iM (LM (iJ 1) sP<|nE<|iJ 2) iU) (oE rfl<|jq (ja (i:=3) mL.nd)<|jq (ja (i:=4) mL.nd) mH)
 (iT (j8 (jj (vR j.units) (iJ 3)<|iJ 4)
 (iT<|ji u9)
 jy)))))
 (iT<|ji u9)
def p5:FnScope qD qN (iY qM):=tB rfl rfl rfl ∅
def zd(F:Fun K "_law_is_poly" "_law_is_poly" qM f fd)(aai:mg "isinstance" = none)(aag:mg "list" = none)(aab:mg "len" = none)(aah:mg "tuple" = none)(aam:mg "bool" = none)(aak:mg "int" = none)(aaW:mg "all" = none)(aad:mg "range" = none):FnOk P w K mg base oW 1 f fd qN (qe K 1 mC):=tu (m:=qU) F p5 λj B d s H E g=>
 iS (j8 (xJ<|vK<|i_ A0 aai kQ<|iM (iJ 0)<|iM (AM aag yG) iU)
 (iT<|ji u9)
 jy)
 (iS (kY bO rfl (mU<|iJ 0) (ja (i:=1) p5.nd)
 (iS (j8 (AW.at<|yW (xJ<|vK<|i_ A0 aai kQ<|iM (iJ 1)<|iM (AM aah we) iU)<|yW (jj (Af g.units) (i_ kD aab jI<|iM (iJ 1) iU) iP)<|xg<|jj (B_ g.units) (jF (iJ 1) iP) iP)
 (iT<|ji u9)
 jy)
 (iT (kY bO rfl (mU<|iJ 1) (ja (i:=2) p5.nd)
 (iT (j8 (AW.at<|yW (xJ<|vK<|i_ A0 aai kQ<|iM (iJ 2)<|iM (AM aak F9) iU)<|xg<|vK<|i_ A0 aai kQ<|iM (iJ 2)<|iM (AM aam Im) iU)
 (iT<|ji u9)
 jy))))))
 (iT<|ji<|i_ (YD rfl) aaW V9<|iM (n9 (N:=["_law_k", "_law_found"]) (cap:=[none,some 0]) rfl (sZ ["_law_found"] rfl ∅ ∅ ∅ ∅ ∅ (bU.mpr ⟨by first|exact Or.inl rfl|exact Or.inr rfl,(nofun)⟩) ⟨rfl,by decide +kernel,trivial⟩) (lV aad<|i6 oi (i_ kD aab jI<|iM (iJ 0) iU) iP) (λ_ _ _ _=>ja (i:=0) (show(["_law_k", "_law_found"]:ar).Nodup by decide +kernel) rfl (Or.inl rfl)<|.inr rfl) (λ_ _ _ _=>wo) λ_ _ _ _=>CG (zm g.units) (jF (jF (iJ 1)<|iJ 0) iP)<|jF (jF (iJ 1)<|i6 jG (iJ 0) iP) iP) iU))
def wY:FnScope oK oO (iY oX):=tB rfl rfl rfl ∅
def w6(F:Fun K "_law_exchanged" "_law_exchanged" oX f fd):FnOk P w K mg base oW 1 f fd oO (qe K 2 j6):=tu (m:=oJ) F wY λg B d s H E j=>
 iT (ji<|i6 jG (i6 jG (zc (iJ 0) sP<|nE<|i6 oi (iJ 1) iP)<|lJ<|iM (jF (iJ 0)<|iJ 1)<|iM (jF (iJ 0)<|i6 oi (iJ 1) iP) iU)<|zc (iJ 0) (nE<|i6 jG (iJ 1) iP) sP)
def nk:FnScope nW qS (iY qJ):=tB rfl rfl rfl ∅
def z_(F:Fun K "_law_by_fall" "_law_by_fall" qJ f fd)(aay:nK P w K mg base 1 "_law_exchanged" oO j6)(aal:nK P w K mg base 65 "rest" BY qQ)(aaX:nK P w K mg base 2 "_law_own_plus" pI lG)(aaY:nK P w K mg base 2 "_law_own_times" oR kP):FnOk P w K mg base oW 66 f fd qS (qe K 3 kR):=tu (m:=nZ) F nk λj B g s H E d=>
 iS (jk (i:=3) nk.nd<|vt aay d (iJ 1)<|iJ 2)
 (iS (jk (i:=4) nk.nd<|vt aal d (vt aay d (iJ 0)<|iJ 2)<|iJ 3)
 (iS (j8 (jj (zm d.units) (jF (iJ 0)<|i6 oi (iJ 2) iP)<|jF (iJ 0)<|iJ 2)
 (iT<|jk (i:=4) nk.nd<|vt aaX d (iJ 4)<|vt aaY d (lA<|iM (lJ<|iM iP<|iM iP iU) iU)<|vt aal d (iJ 0)<|iJ 3)
 jy)
 (iT<|ji<|iJ 4)))
def pS:FnScope L3 TZ (iY L4):=tB rfl rfl rfl ∅
set_option smartUnfolding false in
theorem VD(F:Fun K "law" "law" L4 f fd)(aad:mg "range" = none)(aan:mg "max" = none)(aaz:mg "min" = none)(aab:mg "len" = none)(aag:mg "list" = none)(aaZ:nK P w K mg base 1 "_law_bag" wZ sd)(aa0:nK P w K mg base 3 "_law_case" vM p8)(aal:nK P w K mg base 65 "rest" BY qQ)(aa1:nK P w K mg base 1 "_law_is_poly" qN mC)(aa2:nK P w K mg base 1 "_law_is_under" p9 kB)(aaf:nK P w K mg base 1 "_law_digit" m_ jh)(aa3:nK P w K mg base 66 "_law_by_fall" qS kR):FnOk P w K mg base oW 67 f fd TZ (qe K 1 BA):=tu (m:=MR) F pS λj B g s H E d=>
 iS (kY bO rfl (lV aad<|i_ (VT rfl) aan Lb<|iM iP<|iM (i_ (V3 rfl) aaz PD<|iM (i_ kD aab jI<|iM (iJ 0) iU)<|iM iP iU) iU) (ja (i:=1) pS.nd)
 (iS (jk (i:=2) pS.nd<|vt aaZ d (iJ 0)<|iJ 1)
 (iS (oH (vt aa0 d (iJ 2)<|iJ 1)<|oE rfl<|jq (ja (i:=3) pS.nd)<|jq (ja (i:=4) pS.nd) mH)
 (iS (jk (i:=5) pS.nd<|vt aal d (iJ 3)<|iJ 4)
 (iS (jk (i:=6) pS.nd<|ow (F8 rfl) aag yG<|iM (iJ 5) iU)
 (iS (j8 (AW.at<|yW (xJ<|vK<|KH aa1 d<|iJ 5)<|xg<|jj (zm d.units) (i_ (V0 rfl) aaz PD<|iM (i6 jG (lA<|iM iP iU)<|n9 (N:=["_law_power", "_law_number"]) (cap:=[none,none]) rfl (sZ [] rfl ∅ ∅ ∅ ∅ ∅ (nofun) trivial) (mU<|iJ 5) (λ_ _ _ _=>oE rfl<|jq (ja (i:=0) (show(["_law_power", "_law_number"]:ar).Nodup by decide +kernel) rfl (Or.inl rfl)<|.inr rfl)<|jq (ja (i:=1) (show(["_law_power", "_law_number"]:ar).Nodup by decide +kernel) rfl (Or.inl rfl)<|.inr rfl) mH) (λ_ _ _ _=>wo) λ_ _ _ _=>iJ 0) iU) iP)
 (iT<|ji u9)
 jy)
 (iS (j8 (AW.at<|yW (jj (Af d.units) (CG (Af d.units) (iJ 5)<|lA iU)<|vt aa2 d (iJ 3)<|iJ 4)<|xg<|jj (Af d.units) (vt aal d (iJ 4)<|iJ 4)<|lA<|iM (lJ<|iM iP<|iM iP iU) iU)
 (iT<|ji u9)
 jy)
 (iS (sC<|IA fU fV za (iJ 5)<|iM (lJ<|iM iP<|iM iP iU) iU)
 (iS (j8 (jj (Af d.units) (vt aal d (iJ 3)<|iJ 4)<|iJ 6)
 (iT<|ji u9)
 jy)
 (iS (Q2 (i:=7) (N:=["_law_at", "_law_other"]) (cap:=[none,some 4]) pS.nd rfl (sZ ["_law_other"] rfl ∅ ∅ ∅ ∅ ∅ (bU.mpr ⟨by first|exact Or.inl rfl|exact Or.inr rfl,(nofun)⟩) ⟨rfl,by decide +kernel,trivial⟩) (pF aad iP<|i_ kD aab jI<|iM (iJ 3) iU) (λ_ _ _ _=>ja (i:=0) (show(["_law_at", "_law_other"]:ar).Nodup by decide +kernel) rfl (Or.inl rfl)<|.inr rfl) (λ_ _ _ _=>qz<|jj (vR d.units) (jF (iJ 1)<|i6 oi (iJ 0) iP)<|jF (iJ 1)<|iJ 0) λ_ _ _ _=>iJ 0)
 (iS (j8 (AW.at<|xy (jj (vR d.units) (i_ kD aab jI<|iM (iJ 3) iU) iP)<|uE<|jj (Af d.units) (iJ 7)<|lA iU)
 (iT<|jk (i:=7) pS.nd<|lA<|iM (jF (iJ 7)<|vt aaf d (iJ 2)<|i_ kD aab jI<|iM (iJ 7) iU) iU)
 jy)
 (iS (j8 (AW.at<|yW (jj (B_ d.units) (iJ 3)<|iJ 4)<|xg<|jj (B_ d.units) (iJ 6)<|lA iU)
 (iT<|jk (i:=7) pS.nd<|lA iU)
 jy)
 (iT (kY bO rfl (mU<|iJ 7) (ja (i:=8) pS.nd)
 (iT (j8 (jj (Af d.units) (WA aa3 d (iJ 3) (iJ 4)<|iJ 8)<|iJ 6)
 (iT<|ji u9)
 jy))))))))))))))))
 (iT<|ji u9)
end
end K33
namespace Po
open Am
meta abbrev Pl:=List<|Int×Int
abbrev val (d:Pl)(k:Int):Int:=((d.find? λp=>decide<|p.1=k).map (·.2)).getD 0
abbrev has (d:Pl)(k:Int):Bool:=d.any λp=>decide<|p.1=k
abbrev put (d:Pl)(k v:Int):Pl:=if has d k=true then d.map (λp=>if p.1=k then(p.1,v)else p)else d++[(k,v)]
abbrev acc (d:Pl)(k v:Int):Pl:=put d k<|val d k+v
abbrev cf:Pl->Int->Int
 | [],_=>0
 | p::l,k=>(if p.1=k then p.2 else 0)+cf l k
def p_{p:Int×Int}{d:Pl}{k:Int}:val (p::d) k=if p.1=k then p.2 else val d k:=by
 unfold val;rw[cK];by_cases h:p.1=k
 ·rw[aP h,aL h];rfl
 ·rw[aS h,aK h]
def zN{p:Int×Int}{d:Pl}{k:Int}:has (p::d) k=(decide (p.1=k) || has d k):=rfl
def wC{d:Pl}{k:Int}:has d k=true ↔ k∈d.map Prod.fst:=by
 unfold has;rw[iu,bY];constructor
 ·rintro⟨p,h1,h2⟩;exact⟨p,h1,bS h2⟩
 ·rintro⟨p,h1,h2⟩;exact⟨p,h1,aP h2⟩
def Nh{d:Pl}{k:Int}(h:has d k=false):val d k=0:=by
 induction d with
 | nil=>rfl
 | cons p d f=>
  rw[zN,Bool.or_eq_false_iff]at h;rw[p_,aK<|dX h.1,f h.2]
def Rk{d:Pl}{k v j:Int}(h:has d k=false):val (d++[(k,v)]) j=if j=k then v else val d j:=by
 induction d with
 | nil=>
  show val [(k,v)] j=_;rw[p_];by_cases c:k=j
  ·rw[aL c,aL c.symm]
  ·rw[aK c,aK λz=>c z.symm]
 | cons p d f=>
  rw[zN,Bool.or_eq_false_iff]at h;have:=dX h.1;rw[fN,p_,p_,f h.2];by_cases c:p.1=j
  ·rw[aL c,aL c,aK λz=>this<|c.trans z]
  ·rw[aK c,aK c]
def Rr{d:Pl}{k v j:Int}:val (d.map λp=>if p.1=k then(p.1,v)else p) j=if j=k/\has d k=true then v else val d j:=by
 induction d with
 | nil=>
  rw[aK λz=>by cases z.2];rfl
 | cons p d f=>
  rw[bM,p_,p_,f,zN];by_cases c:p.1=k
  ·rw[aL c,aP c,Bool.true_or];by_cases e:j=k
   ·rw[aL<|show p.1=j by lia,aL ⟨e,rfl⟩]
   ·rw[aK<|show ¬p.1=j by lia,aK λz=>e z.1,aK λz=>e z.1,aK<|show ¬p.1=j by lia]
  ·rw[aK c,aS c,gG];by_cases e:p.1=j
   ·rw[aL e,aL e,aK λz=>c<|e.trans z.1]
   ·rw[aK e,aK e]
def RM{d:Pl}{k v j:Int}:val (put d k v) j=if j=k then v else val d j:=by
 unfold put
 cases h:has d k with
 | true=>
  rw[aL rfl,Rr,h];by_cases c:j=k
  ·rw[aL ⟨c,rfl⟩,aL c]
  ·rw[aK λz=>c z.1,aK c]
 | false=>rw[aK<|by simp,Rk h]
def Ri{d:Pl}{k v j:Int}:val (acc d k v) j=val d j+if k=j then v else 0:=by
 unfold acc;rw[RM];by_cases c:j=k
 ·subst c;rw[aL rfl,aL rfl]
 ·rw[aK c,aK λz=>c z.symm,eE]
def Ni{d:Pl}{k v:Int}:(put d k v).map Prod.fst=if has d k=true then d.map Prod.fst else d.map Prod.fst++[k]:=by
 unfold put;split
 ·rw[cj];apply gT;intro p _;show(if p.1=k then(p.1,v)else p).1=p.1;split<;>rfl
 ·rw[cL];rfl
def UG{d:Pl}{k v:Int}(h:(d.map Prod.fst).Nodup):((put d k v).map Prod.fst).Nodup:=by
 rw[Ni];split
 ·exact h
 ·rename_i c;rw[c8];refine⟨h,cV _ _,λa g b f z=>c ?_⟩;rw[bA]at f;rw[wC,<- f,<- z];exact g
def Qm{d:Pl}{k v:Int}:(put d k v).length<=d.length+1:=by
 unfold put;split
 ·rw[aH];lia
 ·rw[aY];exact aQ _
abbrev Bd (c:Nat)(d:Pl):Prop:=∀p∈d,p.2.natAbs<=c
abbrev p6 (d ps:Pl):Pl:=ps.foldl (λd p=>acc d p.1 p.2) d
def LY(d:Pl):p6 d []=d:=rfl
def yY(d ps qs:Pl):p6 d (ps++qs)=p6 (p6 d ps) qs:=by unfold p6;rw[fF]
def vX(ps:Pl):∀(d:Pl) (k:Int),val (p6 d ps) k=val d k+cf ps k:=by
 induction ps with
 | nil=>intro d k;rw[LY];show _=_+0;rw[eE]
 | cons p ps f=>
  intro d k;show val (p6 (acc d p.1 p.2) ps) k=_;rw[f,Ri];show _=_+(_+_);rw[add_assoc]
def wM(ps:Pl):∀{d:Pl},(d.map Prod.fst).Nodup->((p6 d ps).map Prod.fst).Nodup:=by
 induction ps with
 | nil=>intro d h;exact h
 | cons p ps f=>intro d h;exact f<|UG h
def oz(ps:Pl):∀(d:Pl),(p6 d ps).length<=d.length+ps.length:=by
 induction ps with
 | nil=>intro d;exact aQ _
 | cons p ps f=>
  intro d;have h1:=f<|acc d p.1 p.2;have h2:(acc d p.1 p.2).length<=d.length+1:=Qm;show(p6 (acc d p.1 p.2) ps).length<=_;rw[bq]
  lia
structure Ok (l:Pl):Prop where
 up:l.Pairwise λp q=>p.1<q.1
 nz:∀p∈l,p.2≠0
def Ok.tail{p:Int×Int}(h:Ok (p::l)):Ok l:=⟨(bR.mp h.up).2,λq hq=>h.nz q<|aO _ hq⟩
def ES{l:Pl}{k:Int}(h:∀p∈l,k<p.1):cf l k=0:=by
 induction l with
 | nil=>rfl
 | cons p l d=>
  show(if p.1=k then p.2 else 0)+cf l k=0;have:=h p<|aM ..;rw[aK (),d λq hq=>h q<|aO _ hq];rfl
def Ok.head{p:Int×Int}(h:Ok (p::l)):cf (p::l) p.1=p.2:=by
 show(if p.1=p.1 then p.2 else 0)+cf l p.1=p.2;rw[aL rfl,ES (bR.mp h.up).1,eE]
def Ok.low{p:Int×Int}(h:Ok (p::l)){k:Int}(hk:k<p.1):cf (p::l) k=0:=ES λq hq=>by
 rcases bE.mp hq with rfl|z
 ·exact hk
 ·have:=(bR.mp h.up).1 q z;lia
theorem uniq:∀{l m:Pl},Ok l->Ok m->(∀k,cf l k=cf m k)->l=m
 | [],[],_,_,_=>rfl
 | [],q::m,_,h,e=>by
  have:=e q.1;rw[h.head]at this;exact absurd this.symm<|h.nz q<|aM ..
 | p::l,[],h,_,e=>by
  have:=e p.1;rw[h.head]at this;exact absurd this<|h.nz p<|aM ..
 | p::l,q::m,h,h',e=>by
  have f:=h.nz p<|aM ..;have d:=h'.nz q<|aM ..;have e1:p.1=q.1:=by
   rcases Int.lt_trichotomy p.1 q.1 with c|c|c
   ·have:=e p.1;rw[h.head,h'.low c]at this;exact absurd this f
   ·exact c
   ·have:=e q.1;rw[h'.head,h.low c]at this;exact absurd this.symm d
  have e2:p.2=q.2:=by
   have:=e p.1;rw[h.head,e1,h'.head]at this;exact this
  have e3:p=q:=iI e1 e2;subst e3;rw[uniq h.tail h'.tail λk=>by
   have:(if p.1=k then p.2 else 0)+cf l k=(if p.1=k then p.2 else 0)+cf m k:=e k
   lia]
abbrev Fl (d:Pl):Pl:=((sortI<|d.map Prod.fst).filter λk=>val d k != 0).map λk=>(k,val d k)
def Qe{ks:ag}(h:ks.Nodup):(sortI ks).Pairwise (· < ·):=by
 have p:=rZ ks;have n:(sortI ks).Nodup:=(sortI_perm ks).nodup_iff.mpr h;have:(sortI ks).Pairwise λa b=>a<=b/\a≠b:=p.and n;exact this.imp λ⟨a,b⟩=>()
def FJ{d:Pl}(h:(d.map Prod.fst).Nodup):Ok (Fl d):=by
 refine⟨?_,λp hp=>?_⟩
 ·unfold Fl;rw[dI];exact(Qe h).filter _
 ·obtain⟨k,f,rfl⟩:=bY.mp hp;have:=(cX.mp f).2;simpa using this
theorem PC{d:Pl}{k:Int}:∀{ks:ag},ks.Nodup->cf (ks.map λj=>(j,val d j)) k=if k∈ks then val d k else 0
 | [],_=>by rw[aK<|by simp];rfl
 | j::ks,h=>by
  obtain⟨h1,h2⟩:=cY.mp h;show(if j=k then val d j else 0)+cf (ks.map λj=>(j,val d j)) k=_;rw[PC h2];by_cases c:j=k
  ·subst c;rw[aL rfl,aK h1,aL<|aM ..,eE]
  ·rw[aK c,dD];by_cases e:k∈ks
   ·rw[aL e,aL<|aO _ e]
   ·rw[aK e,aK λz=>(bE.mp z).elim (λz=>c z.symm) e]
def BZ{d:Pl}(h:(d.map Prod.fst).Nodup)(k:Int):cf (Fl d) k=val d k:=by
 unfold Fl;rw[PC<|((sortI_perm _).nodup_iff.mpr h).filter _];split
 ·rfl
 ·rename_i c
  cases e:has d k with
  | false=>exact(Nh e).symm
  | true=>
   by_cases z:val d k=0
   ·exact z.symm
   ·exact absurd (cX.mpr ⟨(sortI_perm _).mem_iff.mpr<|wC.mp e,by simpa using z⟩) c
def Ua{d e:Pl}(h:(d.map Prod.fst).Nodup)(h':(e.map Prod.fst).Nodup)(hv:∀k,val d k=val e k):Fl d=Fl e:=
 uniq (FJ h) (FJ h') λk=>by rw[BZ h,BZ h',hv]
def Ok.nd{l:Pl}(h:Ok l):(l.map Prod.fst).Nodup:=by
 unfold List.Nodup;rw[dI];exact h.up.imp λa=>()
def Wx{l:Pl}(h:(l.map Prod.fst).Nodup)(k:Int):val l k=cf l k:=by
 induction l with
 | nil=>rfl
 | cons p l d=>
  obtain⟨h1,h2⟩:=cY.mp h;rw[p_];show _=(if p.1=k then p.2 else 0)+cf l k;rw[<- d h2];by_cases c:p.1=k
  ·have:has l k=false:=by
    cases e:has l k with
    | false=>rfl
    | true=>exact absurd (wC.mp e)<|by rw[<- c];exact h1
   rw[aL c,aL c,Nh this,eE]
  ·rw[aK c,aK c,dD]
abbrev Om (d ps:Pl):Pl:=ps.foldl (λd p=>put d p.1 p.2) d
theorem IK:∀(ps d:Pl),((d++ps).map Prod.fst).Nodup->Om d ps=d++ps
 | [],d,_=>by rw[cJ];rfl
 | p::ps,d,h=>by
  have hn:has d p.1=false:=by
   cases e:has d p.1 with
   | false=>rfl
   | true=>
    rw[cL,c8]at h;exact absurd rfl<|h.2.2 _ (wC.mp e) p.1<|List.mem_map_of_mem<|aM ..
  have e:put d p.1 p.2=d++[p]:=by unfold put;rw[hn];rfl
  show Om (put d p.1 p.2) ps=_;rw[e,IK ps (d++[p])<|by rw[bD];exact h,bD];rfl
def Qo(h:Ok l):Om [] l=l:=IK l [] h.nd
abbrev plus (a b:Pl):Pl:=Fl<|p6 a b
abbrev xU (a b:Pl):Pl:=Fl<|p6 []<|a++b
def Qp{a:Pl}(h:Ok a):plus a b=xU a b:=by
 refine Ua (wM _ h.nd) (wM _ eT) λk=>?_;rw[vX,vX,Wx h.nd];have:∀(a b:Pl),cf (a++b) k=cf a k+cf b k:=λa b=>by
  induction a with
  | nil=>exact(dD _).symm
  | cons p a d=>
   show _+cf (a++b) k=_+_+_;rw[d,add_assoc]
 rw[this];show _=0+_;rw[dD]
def K3(a b:Pl):Ok (xU a b):=FJ<|wM _ eT
abbrev E9 (a b:Pl):Pl:=a.flatMap λp=>b.map λq=>(p.1+q.1,p.2 * q.2)
abbrev times (a b:Pl):Pl:=Fl<|p6 []<|E9 a b
def MO(a:Pl)(p:Int×Int)(b:Pl):E9 (a++[p]) b=E9 a b++b.map λq=>(p.1+q.1,p.2 * q.2):=by
 unfold E9;rw[List.flatMap_append,fG,List.flatMap_nil,cJ]
def yF(a b:Pl):(E9 a b).length=a.length * b.length:=by
 induction a with
 | nil=>simp[E9]
 | cons p a d=>
  show((b.map _)++E9 a b).length=_;rw[aY,aH,d,bq,f_]
  lia
def QG(d:Pl):(Fl d).length<=d.length:=by
 unfold Po.Fl;rw[aH];refine bP (fy _ _) ?_;rw[(sortI_perm _).length_eq,aH];exact aQ _
abbrev turn (a:Pl):Pl:=a.reverse.map λp=>(-p.1,p.2)
abbrev iv (d:Pl):List (Int×A):=d.map λp=>(p.1,.int p.2)
abbrev pA (p:Int×Int):A:=.tup [.int p.1,.int p.2]
abbrev pl (l:Pl):ae:=l.map pA
def Ci(d:Pl)(k:Int):mF (iv d) k=(d.find? λp=>decide<|p.1=k).map λp=>.int p.2:=by
 unfold mF iv;rw[List.find?_map,Option.map_map];rfl
def O6(d:Pl)(k:Int):(mF (iv d) k).getD (.int 0)=.int (val d k):=by
 rw[Ci];unfold val
 cases d.find? λp=>decide (p.1=k)<;>rfl
def D4{d:Pl}{k:Int}(h:k∈d.map Prod.fst):mF (iv d) k=some (.int<|val d k):=by
 have:=wC.mpr h;unfold has at this;rw[Ci];unfold val
 cases e:d.find? λp=>decide (p.1=k)with
 | some p=>rfl
 | none=>
  obtain⟨p,hp,f⟩:=iu.mp this;exact absurd f<|List.find?_eq_none.mp e p hp
def Ft(d:Pl)(k v:Int):w9 (iv d) k (.int v)=iv (put d k v):=by
 have e:(mF (iv d) k).isSome=has d k:=by
  rw[Ci,h_];unfold has;rw[Bool.eq_iff_iff,List.find?_isSome,iu]
 unfold w9 put;rw[e];unfold iv;split
 ·rw[cj,cj];apply gT;intro p _;show(if p.1=k then(p.1,A.int v)else(p.1,.int p.2))=_;show _=((if p.1=k then(p.1,v)else p).1,A.int (if p.1=k then(p.1,v)else p).2);split<;>rfl
 ·rw[cL];rfl
def PY(d:Pl):(iv d).map Prod.fst=d.map Prod.fst:=by
 unfold iv;rw[cj];rfl
theorem TL:∀l:Pl,R_ (pl l)=some (iv l)
 | []=>rfl
 | p::l=>by
  show(R_<|pl l).map _=_;rw[TL l];rfl
def P5(l:Pl):Se (iv l)=iv (Om [] l):=by
 have:∀(l d:Pl),(iv l).foldl (λacc p=>w9 acc p.1 p.2) (iv d)=iv (Om d l):=by
  intro l
  induction l with
  | nil=>intro d;rfl
  | cons p l f=>
   intro d;show(iv l).foldl _ (w9 (iv d) p.1<|.int p.2)=_;rw[Ft,f];rfl
 exact this l []
end Po
namespace Tb
abbrev fg (r:ag)(x:Int):Nat:=r.findIdx λy=>decide<|x<y
abbrev put:List (ag)->Int->List (ag)
 | [],x=>[[x]]
 | r::rs,x=>if fg r x=r.length then(r++[x])::rs else r.set (fg r x) x::put rs (r.getD (fg r x) 0)
abbrev row:List (ag)->Int->Nat
 | [],_=>0
 | r::rs,x=>if fg r x=r.length then 0 else row rs (r.getD (fg r x) 0)+1
abbrev add:List (ag)->Nat->Int->List (ag)
 | [],_,k=>[[k]]
 | q::qs,0,k=>(q++[k])::qs
 | q::qs,i+1,k=>q::add qs i k
abbrev gs (r:ag)(x:Int):ap:=(List.range r.length).filter λk=>decide<|x<r.getD k 0
end Tb
namespace Am
open PySem L2
abbrev Rows (S:iQ):ap->List (ag)->Prop
 | [],[]=>True
 | r::rs,x::T=>iN S r=some (x.map .int)/\Rows S rs T
 | _,_=>False
structure Tab (S:iQ)(n:Nat)(rs:ap)(T:List (ag)):Prop where
 top:iN S n=some (rs.map .ref)
 rows:Rows S rs T
 nd:(n::rs).Nodup
theorem GS{s:Src}{g:Tg}{e:Ex}{T:ae->Prop}(P:Nat->iQ->Prop)(it:Nat->A)(f:Nat->A)
  (hget:∀i S,i<s.k->P i S->s.get i S=some (it i)) (hfin:∀S,P s.k S->s.fin S=true)
  (step:∀i τ S,i<s.k->T τ->P i S->∃τ1 S1 S3,g (it i) τ S=.ok τ1 S1/\T τ1/\e τ1 S1=.ok (f i) S3/\P (i+1) S3) :
  ∀k i τ S,k+i=s.k->T τ->P i S->∃S',l_ s g uY e k i τ S=.ok ((List.range' i k).map f) S'/\P s.k S'
 | 0,i,τ,S,hk,hT,hP=>by
  have:i=s.k:=()
  subst this;exact⟨S,by unfold l_;rw[aL<|hfin S hP];rfl,hP⟩
 | k+1,i,τ,S,hk,hT,hP=>by
  obtain⟨τ1,S1,S3,hg,d,m,j⟩:=step i τ S () hT hP;obtain⟨S',h1,h2⟩:=GS P it f hget hfin step k (i+1) τ1 S3 () d j;refine⟨S',?_,h2⟩;unfold l_;rw[hget i S () hP,jw,hg,R.kF];show(e τ1 S1).mY _=_;rw[m,R.kF,h1];rfl
def eq_nil{a:Nat}{xs:ae}(h:iN S a=some xs)(h':iN S b=some []):wW S 12 (.ref a) (.ref b)=some xs.isEmpty:=by
 show(iN S a).bind (λxs=>(iN S b).bind λys=>uA (wW S 11) xs ys)=_;rw[h,dB,h',dB]
 cases xs<;>rfl
def Ob{a:A}{k:Bool}(h:wW S 12 a b=some k):tK false a b S=.ok (.bl k) S:=by unfold tK;rw[h];rfl
def zD{a:A}{k:Bool}(h:wW S 12 a b=some k):tK true a b S=.ok (.bl<|!k) S:=by unfold tK;rw[h];rfl
def N4{xs:ae}{n:Nat}{src:Ic}{t:Te}{e:Ex}{S:iQ}(hs:src τ S=.ok (oF n xs.length) S)(hx:iN S n=some xs)(p:A->Bool)(f:A->A)
  (ht:∀x∈xs,t (x::l9 cap τ) S=.ok (p x) S) (he:∀x∈xs,p x=true->e (x::l9 cap τ) S=.ok (f x) S) (hl:xs.length<=16777216) :
  jM (none::cap) src (jC 0) t e τ S=.ok (.ref S.length) (S++[.lst<|(xs.filter p).map f]):=by
 have d:∀i,i<xs.length->xs.getD i .unb∈xs:=λi hi=>by
  rw[aJ,aG hi];exact dU hi
 rw[xR hs (λi=>xs.getD i .unb) (λi=>p<|xs.getD i .unb) (λi=>f<|xs.getD i .unb) (λi hi=>by
  have hi:i<xs.length:=hi;show(iN S n).bind _=_;rw[hx,dB,aJ,aG hi];rfl) (by
   show(match iN S n with
    | some ys=>decide (ys.length<=xs.length)
    | none=>false)=true
   rw[hx];simp) (λi hi=>ht _<|d i hi) (λi hi=>he _<|d i hi) hl]
 have:=nP xs p f .unb;show R.ok _ (S++[O.lst<|((List.range xs.length).filter _).map _])=_;rw[this]
def getD_at{r:ag}{k:Nat}(h:k<r.length):r[k]?=some (r.getD k 0):=by rw[aJ,aG h];rfl
end Am
namespace Am
open PySem L2 Po
meta abbrev YK:Tg:=A2 2<|sJ (jC 0)<|sJ (jC 1) AU
def Fv{s:Src}{src:Ic}{e:Ex}{S1:iQ}(hs:src τ S=.ok s S1)(a b f:Nat->A)(hget:∀i,i<s.k->s.get i S1=some (.tup [a i,b i]))(hfin:s.fin S1=true)
  (he:∀i,i<s.k->e (a i::b i::l9 cap τ) S1=.ok (f i) S1) (hl:s.k<=16777216) :
  jM (none::none::cap) src YK uY e τ S=.ok (.ref S1.length) (S1++[.lst<|(List.range s.k).map f]):=by
 unfold jM;rw[hs,R.kZ];obtain⟨j,h1,h2⟩:=vQ (s:=s) (g:=YK) (t:=uY) (e:=e) (P:=λS=>S=S1) (T:=λd=>∃y z,d=y::z::l9 cap τ) (λi=>.tup [a i,b i]) (λ_=>true) f (λi S hi h=>by subst h;exact hget i hi) (λS h=>by subst h;exact hfin)
  (λi d S hi ⟨y,z,hy⟩ h=>by
   subst h hy;exact⟨a i::b i::l9 cap τ,S,S,rfl,rfl,⟨_,_,rfl⟩,λh=>(nomatch h),λhp=>⟨S,he i hi,rfl⟩⟩) s.k 0 (l9 (none::none::cap) τ) S1 rfl ⟨_,_,rfl⟩ rfl
 subst h2;rw[h1,R.kF,cW,List.filter_eq_self.mpr λ_ _=>rfl];refine ko ?_;rw[aH,List.length_range'];exact hl
def SE{l:Pl}{i:Nat}(h:i<l.length):(pl l)[i]?=some (.tup [.int (l.getD i (0,0)).1,.int (l.getD i (0,0)).2]):=by
 unfold pl;rw[bh,aG h,aJ,aG h];rfl
def vm(l:Pl):(pl l).length=l.length:=aH ..
def PF{l:Pl}{n:Nat}{src:Ic}{e:Ex}{S1:iQ}(hs:src τ S=.ok (oF n (pl l).length) S1)(hx:iN S1 n=some (pl l))(f:Int×Int->A)
  (he:∀p:Int×Int,e (.int p.1::.int p.2::l9 cap τ) S1=.ok (f p) S1) (hl:l.length<=16777216) :
  jM (none::none::cap) src YK uY e τ S=.ok (.ref S1.length) (S1++[.lst<|l.map f]):=by
 rw[Fv hs (λi=>.int (l.getD i (0,0)).1) (λi=>.int (l.getD i (0,0)).2) (λi=>f<|l.getD i (0,0)) (λi hi=>by
  have hi:i<(pl l).length:=hi;rw[vm]at hi;show(iN S1 n).bind _=_;rw[hx,dB,SE hi]) (by
   show(match iN S1 n with
    | some ys=>decide (ys.length<=(pl l).length)
    | none=>false)=true
   rw[hx];simp) (λi _=>he _)<|by show(pl l).length<=_;rw[vm];exact hl]
 have:=range_getD l (0,0)
 skip
 rw[vm]
 conv=>rhs;rw[<- this,cj]
 rfl
def Kx{xs:ae}{n:Nat}{src:Ic}{t:Te}{e:Ex}{S1:iQ}(hs:src τ S=.ok (oF n xs.length) S1)(hx:iN S1 n=some xs)(p:A->Bool)(f:A->A)
  (ht:∀x∈xs,t (x::l9 cap τ) S1=.ok (p x) S1) (he:∀x∈xs,p x=true->e (x::l9 cap τ) S1=.ok (f x) S1) (hl:xs.length<=16777216) :
  jM (none::cap) src (jC 0) t e τ S=.ok (.ref S1.length) (S1++[.lst<|(xs.filter p).map f]):=by
 have:=N4 (S:=S1) (src:=λ_ _=>.ok (oF n xs.length) S1) (τ:=τ) rfl hx p f ht he hl;unfold jM at this ⊢;rw[hs];exact this
def B3{S:iQ}{d:List<|Int×A}:jY (S++[.nV d]) S.length=some d:=BN Mx
def MY{o:O}{n:Nat}{d:List<|Int×A}(h:jY S n=some d):jY (S++[o]) n=some d:=by
 have h':=pB h;exact BN<|by rw[bB (aN.mp h').1];exact h'
def SH{S:iQ}{n:Nat}{d:List<|Int×A}(h:jY S n=some d):n<S.length:=(aN.mp<|pB h).1
def Np{S:iQ}{n:Nat}{d:List<|Int×A}(h:n<S.length):jY (S.set n<|.nV d) n=some d:=BN<|bH h
def IP{n:Nat}{d:List<|Int×A}(h:jY S n=some d)(h':iN S m=some xs):n≠m:=λz=>by
 subst z;have e1:=pB h;rw[i9 h']at e1
 cases e1
def JH{f:A->ae->iQ->R A}{co:Ex}{d:se}:DR f co d τ S=(co τ S).bind λx S1=>opt (dk? x S1) λ_=>(d τ S1).bind λas S2=>f x as S2:=rfl
def Mc{n:Nat}:dk? (.ref n) S=(jY S n).map λ_=>Unit.unit:=rfl
def D9{n:Nat}{k:Int}:vc (.ref n) [.int k,y] S=opt (jY S n) λkvs=>.ok ((mF kvs k).getD y) S:=rfl
def Ik{co ci:Ex}{a:A}:EF co ci a τ S=(co τ S).bind λo S1=>(ci τ S1).bind λi S2=>(A1 o i a S2).bind λ_ S3=>.ok τ S3:=rfl
def D8{n:Nat}{k:Int}{v:A}{S:iQ}:A1 (.ref n) (.int k) v S=opt (jY S n) λkvs=>gd (kvs.length<sizeLine) (.ok Unit.unit<|S.set n<|.nV<|w9 kvs k v):=rfl
def I_{n:Nat}{k:Int}:xE (.ref n) (.int k) S=opt (jY S n) λkvs=>opt (mF kvs k) λv=>.ok v S:=rfl
def xx{S:iQ}:Ao τ S=.ok (.ref S.length) (S++[.nV []]):=rfl
def KQ{n:Nat}{S:iQ}:xj (.ref n) S=opt (jY S n) λkvs=>.ok (.ref S.length) (S++[.lst<|(sortI<|kvs.map Prod.fst).map .int]):=rfl
def Kv{n:Nat}{S:iQ}:F5 (.ref n) S=opt (iN S n) λxs=>opt (R_ xs) λps=>.ok (.ref S.length) (S++[.nV<|Se ps]):=rfl
def Zi{i j:Int}(h:i.natAbs<big)(h':j.natAbs<big):D6 (.int i) (.int j) S=.ok (.int<|i * j) S:=kM ⟨h,h'⟩
def Mp(d:Pl):(iv d).length=d.length:=aH ..
meta abbrev V_:Sm:=jD (iR jE (DR vc (iK 2)<|iL (iK 3)<|iL (eC<|.int 0)<|iW)<|iK 4)<|EF (iK 2)<|iK 3
def acc_step{S:iQ}{d:Nat}{D:Pl}{k v:Int}(hd:jY S d=some (iv D))(hl:D.length<16777216):V_ [x0,x1,.ref d,.int k,.int v] S=.nx [x0,x1,.ref d,.int k,.int v] (S.set d<|.nV<|iv<|acc D k v):=by
 unfold V_;dsimp[jf,bools,JH,Mc,hd,dj,D9,O6,Ik,D8,AJ<|show(iv D).length<16777216 by rw[Mp];exact hl,Ft];rfl
meta abbrev VO:Tg:=A2 2<|sJ (jC 3)<|sJ (jC 4) AU
def HP{d n:Nat}{D l:Pl}{src:Ic}(hs:src [x0,x1,.ref d,x3,x4] S=.ok (oF n (pl l).length) S1)(hn:iN S1 n=some (pl l))(hd:jY S1 d=some (iv D))(hl:D.length+l.length<16777216) :
  ∃y3 y4 S',kN src VO V_ [x0,x1,.ref d,x3,x4] S=.nx [x0,x1,.ref d,y3,y4] S'/\jY S' d=some (iv<|p6 D l)/\Kp (·=d) S1 S':=by
 have nd:=IP hd hn;refine wK (n:=n) (xs:=pl l) hs (λi τ T=>(∃y3 y4,τ=[x0,x1,.ref d,y3,y4])/\jY T d=some (iv<|p6 D<|l.take i)/\Kp (·=d) S1 T)
  (λr=>∃y3 y4 S',r=.nx [x0,x1,.ref d,y3,y4] S'/\jY S' d=some (iv<|p6 D l)/\Kp (·=d) S1 S') ⟨⟨_,_,rfl⟩,hd,Kp.refl⟩ (λi τ T h=>h.2.2.lst _ _ (cP nd) hn) ?_ ?_
 ·rintro i z τ T hz ⟨⟨y3,y4,rfl⟩,g,kp⟩;unfold pl at hz;rw[bh]at hz;obtain⟨p,hp,rfl⟩:=a_.mp hz;refine⟨[x0,x1,.ref d,.int p.1,.int p.2],T,rfl,.inl ?_⟩;have f:=oz (l.take i) D;have hi:=(aN.mp hp).1;rw[aW]at f;refine⟨_,_,acc_step g<|by omega,⟨_,_,rfl⟩,?_,kp.Nq<|.inl rfl⟩;rw[Np<|SH g,gu,hp,yY];rfl
 ·rintro τ T ⟨⟨y3,y4,rfl⟩,g,kp⟩;rw[vm,fP]at g;exact⟨y3,y4,T,rfl,g,kp⟩
meta abbrev P0:Sm:=jD (iR jE (DR vc (iK 2)<|iL (iR jE (iK 3)<|iK 5)<|iL (eC<|.int 0)<|iW)<|iR D6 (iK 4)<|iK 6)<|EF (iK 2)<|iR jE (iK 3)<|iK 5
meta abbrev g56:Tg:=A2 2<|sJ (jC 5)<|sJ (jC 6) AU
def M9{S:iQ}{d:Nat}{D:Pl}{k v j u:Int}(hd:jY S d=some (iv D))(hl:D.length<16777216)(hv:v.natAbs<big)(hu:u.natAbs<big):P0 [x0,x1,.ref d,.int k,.int v,.int j,.int u] S=.nx [x0,x1,.ref d,.int k,.int v,.int j,.int u] (S.set d<|.nV<|iv<|acc D (k+j)<|v * u):=by
 unfold P0;dsimp[jf,bools,JH,Mc,hd,dj,D9,O6,Zi hv hu,Ik,D8,AJ<|show(iv D).length<16777216 by rw[Mp];exact hl,Ft];rfl
def RO{d n:Nat}{D l:Pl}{k v:Int}(hn:iN S n=some (pl l))(hd:jY S d=some (iv D))(hl:D.length+l.length<16777216)(hv:v.natAbs<big)(hu:∀p∈l,p.2.natAbs<big) :
  ∃y5 y6 S',kN (mq<|iK 1) g56 P0 [x0,.ref n,.ref d,.int k,.int v,x5,x6] S=.nx [x0,.ref n,.ref d,.int k,.int v,y5,y6] S'/\jY S' d=some (iv<|p6 D<|l.map λq=>(k+q.1,v * q.2))/\Kp (·=d) S S':=by
 have nd:=IP hd hn;refine wK (n:=n) (xs:=pl l) (S1:=S) (sj (by dsimp[jf,bools]) hn) (λi τ T=>(∃y5 y6,τ=[x0,.ref n,.ref d,.int k,.int v,y5,y6])/\jY T d=some (iv<|p6 D<|(l.take i).map λq=>(k+q.1,v * q.2))/\Kp (·=d) S T)
  (λr=>∃y5 y6 S',r=.nx [x0,.ref n,.ref d,.int k,.int v,y5,y6] S'/\jY S' d=some (iv<|p6 D<|l.map λq=>(k+q.1,v * q.2))/\Kp (·=d) S S') ⟨⟨_,_,rfl⟩,hd,Kp.refl⟩ (λi τ T h=>h.2.2.lst _ _ (cP nd) hn) ?_ ?_
 ·rintro i z τ T hz ⟨⟨y5,y6,rfl⟩,g,kp⟩;unfold pl at hz;rw[bh]at hz;obtain⟨p,hp,rfl⟩:=a_.mp hz;refine⟨[x0,.ref n,.ref d,.int k,.int v,.int p.1,.int p.2],T,rfl,.inl ?_⟩;have f:=oz ((l.take i).map λq=>(k+q.1,v * q.2)) D;have hi:=(aN.mp hp).1;rw[aH,aW]at f;refine⟨_,_,M9 g (by omega) hv<|hu p<|aX hp,⟨_,_,rfl⟩,?_,kp.Nq<|.inl rfl⟩;rw[Np<|SH g,gu,hp,cL,yY];rfl
 ·rintro τ T ⟨⟨y5,y6,rfl⟩,g,kp⟩;rw[vm,fP]at g;exact⟨y5,y6,T,rfl,g,kp⟩
meta abbrev M5:Sm:=kN (mq<|iK 1) g56 P0
def zg(f:Int×Int->A)(hf:∀p τ S,VO (f p) τ S=VO (pA p) τ S){d n:Nat}{a b:Pl}(hn:iN S n=some (a.map f))(hm:iN S m=some (pl b))(hd:jY S d=some [])(hl:a.length * b.length<16777216)(ha:∀p∈a,p.2.natAbs<big)(hb:∀p∈b,p.2.natAbs<big) :
  ∃y3 y4 y5 y6 S',kN (mq<|iK 0) VO M5 [.ref n,.ref m,.ref d,x3,x4,x5,x6] S=.nx [.ref n,.ref m,.ref d,y3,y4,y5,y6] S'/\jY S' d=some (iv<|p6 []<|E9 a b)/\Kp (·=d) S S':=by
 have nd:=IP hd hn;have F:=IP hd hm;refine wK (n:=n) (xs:=a.map f) (S1:=S) (sj (by dsimp[jf,bools]) hn) (λi τ T=>(∃y3 y4 y5 y6,τ=[.ref n,.ref m,.ref d,y3,y4,y5,y6])/\jY T d=some (iv<|p6 []<|E9 (a.take i) b)/\Kp (·=d) S T)
  (λr=>∃y3 y4 y5 y6 S',r=.nx [.ref n,.ref m,.ref d,y3,y4,y5,y6] S'/\jY S' d=some (iv<|p6 []<|E9 a b)/\Kp (·=d) S S') ⟨⟨_,_,_,_,rfl⟩,hd,Kp.refl⟩ (λi τ T h=>h.2.2.lst _ _ (cP nd) hn) ?_ ?_
 ·rintro i z τ T hz ⟨⟨y3,y4,y5,y6,rfl⟩,j,kp⟩;rw[bh]at hz;obtain⟨p,hp,rfl⟩:=a_.mp hz;refine⟨[.ref n,.ref m,.ref d,.int p.1,.int p.2,y5,y6],T,hf _ _ _,.inl ?_⟩;have g:=oz (E9 (a.take i) b) [];have hi:=(aN.mp hp).1;rw[yF,aW,d9<|eU hi,b8,dh]at g;have C:i * b.length+b.length<=a.length * b.length:=by rw[<- f_];exact fL _ hi
  obtain⟨J,G,K,e,B,q⟩:=RO (x0:=.ref n) (x5:=y5) (x6:=y6) (k:=p.1) (v:=p.2) (kp.lst _ _ (cP F) hm) j () (ha p<|aX hp) hb;refine⟨_,_,e,⟨_,_,_,_,rfl⟩,?_,kp.trans q⟩;rw[B,gu,hp,Option.toList_some,MO,yY]
 ·rintro τ T ⟨⟨y3,y4,y5,y6,rfl⟩,j,kp⟩;rw[aH,fP]at j;exact⟨y3,y4,y5,y6,T,rfl,j,kp⟩
def JL{d n:Nat}{a b:Pl}(hn:iN S n=some (pl a))(hm:iN S m=some (pl b))(hd:jY S d=some [])(hl:a.length * b.length<16777216)(ha:∀p∈a,p.2.natAbs<big)(hb:∀p∈b,p.2.natAbs<big) :
  ∃y3 y4 y5 y6 S',kN (mq<|iK 0) VO M5 [.ref n,.ref m,.ref d,x3,x4,x5,x6] S=.nx [.ref n,.ref m,.ref d,y3,y4,y5,y6] S'/\jY S' d=some (iv<|p6 []<|E9 a b)/\Kp (·=d) S S':=zg pA (λ_ _ _=>rfl) hn hm hd hl ha hb
meta abbrev Z6:Ex:=jM [none,some 0] (mq<|jc (f1 xj)<|iL (iK 0)<|iW) (jC 0) (ni<|iR (tK true) (iR xE (iK 1)<|iK 0)<|eC<|.int 0)<|oU<|iL (iK 0)<|iL (iR xE (iK 1)<|iK 0)<|iW
def O9{S:iQ}{d:Nat}{D:Pl}(hd:jY S d=some (iv D))(hl:D.length<=16777216):∃S',Z6 [.ref d] S=.ok (.ref<|S.length+1) S'/\iN S' (S.length+1)=some (pl<|Fl D)/\mO S S':=by
 have g:jY (S++[.lst<|(sortI<|D.map Prod.fst).map .int]) d=some (iv D):=MY hd;have m:(S++[O.lst<|(sortI<|D.map Prod.fst).map A.int]).length=S.length+1:=by simp
 have p:=Kx (n:=S.length) (xs:=(sortI<|D.map Prod.fst).map A.int) (cap:=[some 0]) (src:=mq<|jc (f1 xj)<|iL (iK 0)<|iW) (t:=ni<|iR (tK true) (iR xE (iK 1)<|iK 0)<|eC<|.int 0) (e:=oU<|iL (iK 0)<|iL (iR xE (iK 1)<|iK 0)<|iW) (τ:=[.ref d]) (S:=S) (S1:=S++[.lst<|(sortI<|D.map Prod.fst).map .int])
  (sj (by dsimp[jf,bools,KQ,hd,PY]) jb) jb (λx=>match x with | .int k=>val D k != 0|_=>false) (λx=>match x with | .int k=>pA (k,val D k)|_=>.non) (λx j=>by
   obtain⟨k,f,rfl⟩:=bY.mp j;have f:=(sortI_perm _).mem_iff.mp f;dsimp[jf,bools,I_,g,D4 f];rfl) (λx j _=>by
   obtain⟨k,f,rfl⟩:=bY.mp j;have f:=(sortI_perm _).mem_iff.mp f;dsimp[jf,bools,I_,g,D4 f];exact zb<|show 2<=16777216 by decide) (by rw[aH,(sortI_perm _).length_eq,aH];exact hl)
 refine⟨_,p.trans<|by rw[m],?_,Kp.refl.lay.lay⟩;rw[<- m,jb];congr 1;unfold pl Fl;rw[cj,gP,cj];rfl
end Am
namespace Su
open Am Po PySem L2
meta abbrev En:=ag×Nat×Pl
meta abbrev Es:=List En
abbrev kv (e:En):ag×A:=(e.1,.ref e.2.1)
abbrev At (S:iQ)(es:Es):Prop:=∀e∈es,iN S e.2.1=some (pl e.2.2)
meta abbrev Ps:=List<|ag×Pl
abbrev sm (es:Es):Ps:=es.map λe=>(e.1,e.2.2)
abbrev vS (D:Ps)(o:ag):Pl:=((D.find? λe=>decide<|e.1=o).map (·.2)).getD []
abbrev hS (D:Ps)(o:ag):Bool:=D.any λe=>decide<|e.1=o
abbrev Z5 (D:Ps)(o:ag)(p:Pl):Ps:=if hS D o=true then D.map (λe=>if e.1=o then(e.1,p)else e)else D++[(o,p)]
abbrev Y3 (D:Ps)(o:ag)(p:Pl):Ps:=Z5 D o<|xU (vS D o) p
abbrev adds (D l:Ps):Ps:=l.foldl (λD e=>Y3 D e.1 e.2) D
abbrev toS (D:Ps):Ps:=((OS<|D.map Prod.fst).filter λo=>!(vS D o).isEmpty).map λo=>(o,vS D o)
abbrev fE (D:Es)(o:ag):Option En:=D.find? λe=>decide<|e.1=o
abbrev Vl (k b:Nat)(D:Es):Prop:=∀e∈D,Ok e.2.2/\e.2.2.length<=k/\b<=e.2.1
def A5(a b:Pl):(times a b).length<=a.length * b.length:=by
 refine bP (QG _)<|bP (oz _ _) ?_;rw[yF,b8];lia
abbrev VL (D:Es)(p:Pl->Bool):Es:=((OS<|D.map Prod.fst).filter λo=>p<|vS (sm D) o).map λo=>(o,((fE D o).map λe=>e.2.1).getD 0,vS (sm D) o)
abbrev Ap (D:Es):Prop:=D.Pairwise λe f=>e.1≠f.1/\e.2.1≠f.2.1
structure Fil (T:iQ)(d b i j:Nat)(P:Ps)(D:Es):Prop where
 dd:Yq T d=some (D.map kv)
 aa:At T D
 ss:sm D=P
 vv:Vl (i * j) b D
 kk:∀e∈D,e.1≠[]
 ll:D.length<=i
 pw:Ap D
end Su
namespace Bl
open L2
abbrev cnt:ag->Int->Int
 | [],_=>0
 | x::l,j=>(if j<=x then 1 else 0)+cnt l j
abbrev Below (xs ys:ag):Prop:=∀(i:Nat) (j:Int),cnt (xs.take i) j<=cnt (ys.take i) j
def Below.refl(xs:ag):Below xs xs:=λ_ _=>dP _
def Below.trans{a c:ag}(h:Below a b)(k:Below b c):Below a c:=λi j=>Int.le_trans (h i j)<|k i j
def cnt_append(a b:ag)(j:Int):cnt (a++b) j=cnt a j+cnt b j:=by
 induction a with
 | nil=>simp[cnt]
 | cons x a d=>rw[fN,cnt,cnt,d];lia
def FN(l:ag)(j:Int):0<=cnt l j:=by
 induction l with
 | nil=>exact dP 0
 | cons x l d=>rw[cnt];split<;>lia
def UO(l:ag)(j:Int):cnt l j<=l.length:=by
 induction l with
 | nil=>exact dP 0
 | cons x l d=>rw[cnt,bq];split<;>lia
def vV{a:ag}(p:a.Perm b)(j:Int):cnt a j=cnt b j:=by
 induction p with
 | nil=>rfl
 | cons x _ d=>rw[cnt,cnt,d]
 | swap x y l=>rw[cnt,cnt,cnt,cnt];lia
 | trans _ _ h1 h2=>exact h1.trans h2
def take_snoc{l:ag}{i:Nat}(h:i<l.length):l.take (i+1)=l.take i++[l[i]]:=by
 rw[List.take_succ,aG h];rfl
def jS{l:ag}{i:Nat}(h:i<l.length)(j:Int):cnt (l.take<|i+1) j=cnt (l.take i) j+(if j<=l[i]then 1 else 0):=by
 rw[take_snoc h,cnt_append,cnt,cnt];lia
def Below.antisymm{a b:ag}(hl:a.length=b.length)(h:Below a b)(k:Below b a):a=b:=by
 apply gD hl;intro i h1 h2;have e:∀(i:Nat) (j:Int),cnt (a.take i) j=cnt (b.take i) j:=λi j=>fW (h i j)<|k i j;have q:∀j:Int,(if j<=a[i]then(1:Int)else 0)=(if j<=b[i]then 1 else 0):=λj=>by
  have:=e (i+1) j;rw[jS h1,jS h2,e i j]at this
  lia
 have d:=q a[i];have qb:=q b[i];rw[aL<|dP _]at d qb;by_cases z:a[i]<=b[i]
 ·by_cases f:b[i]<=a[i]
  ·lia
  ·rw[aK f]at qb;lia
 ·rw[aK z]at d;lia
def yL{l:ag}{p:Nat}(h:p<l.length)(v:Int)(i:Nat)(j:Int) :
  cnt ((l.set p v).take i) j=cnt (l.take i) j+(if p<i then(if j<=v then 1 else 0)-(if j<=l[p]then 1 else 0)else 0):=by
 induction l generalizing p i with
 | nil=>cases h
 | cons x l d=>
  cases i with
  | zero=>simp[cnt]
  | succ i=>
   cases p with
   | zero=>
    show(if j<=v then 1 else 0)+cnt (l.take i) j=(if j<=x then 1 else 0)+cnt (l.take i) j+_;rw[aL<|succ_pos _];show _=(if j<=x then 1 else 0)+cnt (l.take i) j+((if j<=v then 1 else 0)-(if j<=x then 1 else 0))
    lia
   | succ p=>
    show(if j<=x then 1 else 0)+cnt ((l.set p v).take i) j=(if j<=x then 1 else 0)+cnt (l.take i) j+_;have hp:p<l.length:=gv h;rw[d hp];by_cases z:p<i
    ·rw[aL z,aL<|Nat.succ_lt_succ z];show _=(if j<=x then 1 else 0)+cnt (l.take i) j+((if j<=v then 1 else 0)-(if j<=l[p]then 1 else 0))
     lia
    ·rw[aK z,aK λy=>z<|gv y]
     lia
def t8{l:ag}{p q:Nat}(hp:p<l.length)(hq:q<l.length)(hpq:p<q)(h:l[p]<l[q]):Below l ((l.set p l[q]).set q l[p]):=by
 intro i j;have d:q<(l.set p l[q]).length:=by rw[bV];exact hq
 rw[yL d,yL hp];have e:(l.set p l[q])[q]=l[q]:=by rw[List.getElem_set_ne<|bC hpq]
 rw[e]
 (repeat' split)<;>lia
abbrev sF (a b:ag):Prop:=a.length=b.length/\∀(p:Nat) (h:p<a.length),b[(a[p]-1).toNat]?=some ((p:Int)+1)
def J4{x y:ag}{n:Nat}(px:x.Perm<|jt 1<|n+1)(py:y.Perm<|jt 1<|n+1):(∀(i q:Nat),i<n->q<n->cnt (x.take<|i+1) ((q:Int)+1)<=cnt (y.take<|i+1) ((q:Int)+1)) ↔ Below x y:=by
 have m:x.length=n:=by rw[px.length_eq,kO];lia
 have k:y.length=n:=by rw[py.length_eq,kO];lia
 constructor
 ·intro h i j;have rx:∀z∈x,1<=z/\z<(n:Int)+1:=λz hz=>jR.mp<|px.mem_iff.mp hz;have ry:∀z∈y,1<=z/\z<(n:Int)+1:=λz hz=>jR.mp<|py.mem_iff.mp hz;have low:∀(l:ag),(∀z∈l,j<=z)->cnt l j=l.length:=λl=>by
   induction l with
   | nil=>intro _;rfl
   | cons z l g=>intro f;rw[cnt,aL<|f z aM,g λy hy=>f y<|aO _ hy,bq];lia
  have d:∀(l:ag),(∀z∈l,z<j)->cnt l j=0:=λl=>by
   induction l with
   | nil=>intro _;rfl
   | cons z l g=>intro f;rw[cnt,aK (by have:=f z aM;lia),g λy hy=>f y<|aO _ hy];rfl
  by_cases p:j<=1
  ·rw[low _ λz hz=>by have:=(rx z<|cC hz).1;lia,low _ λz hz=>by have:=(ry z<|cC hz).1;lia,aW,aW,m,k];exact dP _
  ·by_cases B:(n:Int)+1<=j
   ·rw[d _ λz hz=>by have:=(rx z<|cC hz).2;lia,d _ λz hz=>by have:=(ry z<|cC hz).2;lia];exact dP _
   ·obtain⟨q,rfl⟩:∃q:Nat,j=(q:Int)+1:=⟨(j-1).toNat,()⟩;by_cases hi:i<=n
    ·cases i with
     | zero=>simp[cnt]
     | succ i=>exact h i q () ()
    ·rw[cg (),cg (),vV px,vV py];exact dP _
 ·exact λh i q _ _=>h (i+1)<|(q:Int)+1
end Bl
namespace Wd
open Bl L2
abbrev ex (l:ag)(k:Nat):ag:=(l.set (k-1)<|l.getD k 0).set k<|l.getD (k-1) 0
abbrev led (l:ag)(w:ap):ag:=w.foldl ex l
def ju{l:ag}{k:Nat}(h:k<l.length):l.getD k 0=l[k]:=by rw[aJ,aG h];rfl
def ya{l:ag}{k:Nat}(h0:1<=k)(h:k<l.length):ex l k=(l.set (k-1) l[k]).set k (l[k-1]'()):=by
 unfold ex;rw[ju h,ju<|show k-1<l.length by lia]
def ku(l:ag)(k:Nat):(ex l k).length=l.length:=by unfold ex;rw[bV,bV]
theorem Jh:∀(w:ap) (l:ag),(led l w).length=l.length
 | [],_=>rfl
 | k::w,l=>by show(led (ex l k) w).length=_;rw[Jh w,ku]
def yz{l:ag}{k:Nat}(h0:1<=k)(h:k<l.length):(ex l k).Perm l:=by
 rw[ya h0 h];exact List.set_set_perm () h
theorem M6:∀{w:ap}{l:ag},(∀k∈w,1<=k/\k<l.length)->(led l w).Perm l
 | [],_,_=>gr _
 | k::w,l,h=>by
  have d:=h k<|aM ..;show(led (ex l k) w).Perm l;exact(M6 λm f=>by rw[ku];exact h m<|aO _ f).trans (yz d.1 d.2)
def yJ(a b:ap)(l:ag):led l (a++b)=led (led l a) b:=fF
def xh{l:ag}{k:Nat}(h0:1<=k)(h:k<l.length)(i:Nat)(j:Int) :
  cnt ((ex l k).take i) j=cnt (l.take i) j+(if i=k then(if j<=l[k]then 1 else 0)-(if j<=l[k-1]'()then 1 else 0)else 0):=by
 rw[ya h0 h];have d:k<(l.set (k-1) l[k]).length:=by rw[bV];exact h
 rw[yL d,yL<|show k-1<l.length by lia];have e:(l.set (k-1) l[k])[k]=l[k]:=by rw[List.getElem_set_ne ()]
 rw[e];by_cases h1:i=k
 ·rw[aL h1,aL<|show k-1<i by lia,aK<|show ¬k<i by lia];lia
 ·by_cases h2:k<i
  ·rw[aK h1,aL<|show k-1<i by lia,aL h2];lia
  ·rw[aK h1,aK<|show ¬k-1<i by lia,aK h2];lia
def up{l:ag}{k:Nat}(h0:1<=k)(h:k<l.length)(hr:l[k-1]'()<l[k]):Below l (ex l k):=by
 rw[ya h0 h];exact t8 () h () hr
def lift{u w:ag}{k:Nat}(hl:u.length=w.length)(h0:1<=k)(h:k<w.length)(hr:w[k-1]'()<w[k])(hb:Below u w):Below (ex u k) (ex w k):=by
 have g:k<u.length:=()
 intro i j;rw[xh h0 g,xh h0 h];by_cases hi:i=k
 ·subst hi;rw[aL rfl,aL rfl];have p:=hb (i-1) j;have f:=hb i j;have d:=hb (i+1) j;have c1:=jS (l:=u) (i:=i-1) () j;have c2:=jS (l:=w) (i:=i-1) () j;have c3:=jS (l:=u) (i:=i) g j;have m:=jS (l:=w) (i:=i) h j;rw[show i-1+1=i by lia]at c1 c2;rw[c3,m]at d;rw[c1,c2]at f d;rw[c1,c2];revert p f d
  (repeat' split)<;>intros<;>lia
 ·rw[aK hi,aK hi];have:=hb i j
  lia
abbrev jl:ag->ap->Prop
 | _,[]=>True
 | l,k::w=>1<=k/\k<l.length/\l.getD (k-1) 0<l.getD k 0/\jl (ex l k) w
theorem jl.snoc:∀{w:ap}{l:ag}{k:Nat},jl l w->1<=k->k<l.length->(led l w).getD (k-1) 0<(led l w).getD k 0->jl l (w++[k])
 | [],l,k,_,h0,h1,h2=>⟨h0,h1,h2,trivial⟩
 | m::w,l,k,h,h0,h1,h2=>⟨h.1,h.2.1,h.2.2.1,jl.snoc h.2.2.2 h0 (by rw[ku];exact h1) h2⟩
theorem jl.valid:∀{w:ap}{l:ag},jl l w->∀k∈w,1<=k/\k<l.length
 | [],_,_,k,hk=>by cases hk
 | m::w,l,h,k,hk=>by
  rcases bE.mp hk with z|z
  ·rw[z];exact⟨h.1,h.2.1⟩
  ·have:=jl.valid h.2.2.2 k z;rw[ku]at this;exact this
abbrev sw (k:Nat)(x:Int):Int:=if x=k then(k:Int)+1 else if x=(k:Int)+1 then k else x
def ex_map(f:Int->Int){l:ag}{k:Nat}(h0:1<=k)(h:k<l.length):ex (l.map f) k=(ex l k).map f:=by
 rw[ya h0 h,ya h0<|by rw[aH];exact h,gW,gW,dg,dg]
theorem IC(f:Int->Int):∀{w:ap}{l:ag},(∀k∈w,1<=k/\k<l.length)->led (l.map f) w=(led l w).map f
 | [],_,_=>rfl
 | k::w,l,h=>by
  have d:=h k<|aM ..;show led (ex (l.map f) k) w=(led (ex l k) w).map f;rw[ex_map f d.1 d.2,IC f λm g=>by rw[ku];exact h m<|aO _ g]
def o6{n p:Nat}(h:p<n):(jt 1<|(n:Int)+1)[p]?=some ((p:Int)+1):=by
 unfold jt;rw[bh,cI ()];simp;lia
def i7(n:Nat):(jt 1<|(n:Int)+1).length=n:=by rw[kO];lia
def oB{l:ag}{k:Nat}(h0:1<=k)(h:k<l.length)(p:Nat):(ex l k)[p]?=if p=k then l[k-1]? else if p=k-1 then l[k]? else l[p]?:=by
 rw[ya h0 h,List.getElem?_set];by_cases h1:k=p
 ·rw[aL h1,aL h1.symm,aL<|by rw[bV];lia,aG]
 ·rw[aK h1,aK λz=>h1 z.symm,List.getElem?_set];by_cases h2:k-1=p
  ·rw[aL h2,aL h2.symm,aL (),aG]
  ·rw[aK h2,aK λz=>h2 z.symm]
def OW{n k:Nat}(h0:1<=k)(h:k<n):ex (jt 1<|(n:Int)+1) k=(jt 1<|(n:Int)+1).map (sw k):=by
 apply cA;intro p;rw[oB h0<|by rw[i7];exact h,bh];by_cases hp:p<n
 ·rw[o6 hp,o6 h,o6<|show k-1<n by lia];show _=some (sw k<|(p:Int)+1);unfold sw;by_cases h1:p=k
  ·rw[aL h1,aK (),aL ()];congr 1;lia
  ·rw[aK h1];by_cases h2:p=k-1
   ·rw[aL h2,aL ()]
   ·rw[aK h2,aK (),aK ()]
 ·have e:(jt 1<|(n:Int)+1)[p]?=none:=bJ (by rw[i7];lia);rw[aK (),aK (),e];rfl
def Bq{A B:ag}{k:Nat}(h0:1<=k)(h:k<A.length)(hb:sF A B):sF (ex A k) (B.map<|sw k):=by
 refine⟨by rw[ku,aH];exact hb.1,λp hp=>?_⟩;rw[ku]at hp;have hg:(ex A k)[p]'(by rw[ku];exact hp)=if p=k then A[k-1]'()else if p=k-1 then A[k]else A[p]:=by
  have:=oB h0 h p;rw[aG<|by rw[ku];exact hp]at this;by_cases h1:p=k
  ·rw[aL h1,aG<|show k-1<A.length by lia]at this;rw[aL h1];exact aU this
  ·rw[aK h1]at this;rw[aK h1];by_cases h2:p=k-1
   ·rw[aL h2,aG h]at this;rw[aL h2];exact aU this
   ·rw[aK h2,aG hp]at this;rw[aK h2];exact aU this
 rw[hg,bh];by_cases h1:p=k
 ·rw[aL h1,hb.2 (k-1) ()];show some (sw k _)=_;unfold sw;rw[aL ()];congr 1;lia
 ·rw[aK h1];by_cases h2:p=k-1
  ·rw[aL h2,hb.2 k h];show some (sw k _)=_;unfold sw;rw[aK (),aL ()];congr 1;lia
  ·rw[aK h2,hb.2 p hp];show some (sw k _)=_;unfold sw;rw[aK (),aK ()]
theorem mE{n:Nat}:∀(w:ap),(∀k∈w,1<=k/\k<n)->sF (led (jt 1<|(n:Int)+1) w.reverse) (led (jt 1<|(n:Int)+1) w)
 | [],_=>⟨rfl,λp hp=>by
  have hp:p<n:=by rw[show([]:ap).reverse=[]from rfl]at hp;have:p<(jt 1<|(n:Int)+1).length:=hp;rw[i7]at this;exact this
  have e:(jt 1<|(n:Int)+1)[p]'(by rw[i7];exact hp)=(p:Int)+1:=by
   have:=o6 hp;rw[aG<|by rw[i7];exact hp]at this;exact aU this
  show(jt 1<|(n:Int)+1)[(((jt 1<|(n:Int)+1)[p]'(by rw[i7];exact hp))-1).toNat]?=_;rw[e,show((p:Int)+1-1).toNat=p by lia];exact o6 hp⟩
 | k::w,h=>by
  have d:=h k<|aM ..;have hw:=λm f=>h m<|aO k f;have g:=mE w hw;rw[fD,yJ];show sF (ex (led (jt 1<|(n:Int)+1) w.reverse) k) (led (ex (jt 1<|(n:Int)+1) k) w);rw[OW d.1 d.2,IC (sw k) λm f=>by rw[i7];exact hw m f];exact Bq d.1 (by rw[Jh,i7];exact d.2) g
end Wd
namespace Iv
open L2 Bl
abbrev inv:ag->Nat
 | []=>0
 | x::l=>l.countP (λy=>decide<|y<x)+inv l
abbrev j_ (a b:ag):Nat:=(a.map λx=>b.countP λy=>decide<|y<x).sum
def pT(x:Int)(a b:ag):j_ (x::a) b=b.countP (λy=>decide<|y<x)+j_ a b:=rfl
theorem jx:∀(a b:ag),inv (a++b)=inv a+inv b+j_ a b
 | [],b=>by show inv b=0+inv b+0;lia
 | x::a,b=>by
  show(a++b).countP _+inv (a++b)=(a.countP _+inv a)+inv b+j_ (x::a) b;rw[List.countP_append,jx a b,pT];lia
theorem vZ:∀{a b:ap},a.Perm b->a.sum=b.sum
 | _,_,.nil=>rfl
 | _,_,.cons x h=>by rw[fq,fq,vZ h]
 | _,_,.swap x y l=>by rw[fq,fq,fq,fq];lia
 | _,_,.trans h k=>(vZ h).trans<|vZ k
def Gq{a:ag}(b:ag)(h:a.Perm a'):j_ a b=j_ a' b:=vZ<|h.map _
def ID(a:ag){b:ag}(h:b.Perm b'):j_ a b=j_ a b':=by
 unfold j_;congr 1;refine gT λx _=>h.countP_eq _
def C1{M:ag}{x y:Int}(h:∀m∈M,m<x\/y<m)(hxy:x<y):M.countP (λm=>decide<|m<x)=M.countP (λm=>decide<|m<y):=by
 refine List.countP_congr λm d=>?_;rw[g8,g8]
 rcases h m d with z|z<;>omega
theorem yc:∀{M:ag}{x y:Int},(∀m∈M,m<x\/y<m)->x<y->j_ M [x]=j_ M [y]
 | [],_,_,_,_=>rfl
 | m::M,x,y,h,hxy=>by
  rw[pT,pT,yc (λd f=>h d<|aO _ f) hxy];congr 1;have:=h m<|aM ..;dsimp[cQ,List.countP_nil];by_cases c:x<m
  ·rw[aP c,aP<|show y<m by omega]
  ·rw[aS c,aS<|show ¬y<m by omega]
def mid{M:ag}{x y:Int}(h:∀m∈M,m<x\/y<m)(hxy:x<y):inv ([y]++M++[x])=inv ([x]++M++[y])+1:=by
 rw[jx,jx,jx<|[x]++M,jx [x]];have e1:j_ [y] M=j_ [x] M:=by
  show M.countP _+0=M.countP _+0;rw[C1 h hxy]
 have e2:j_ ([y]++M) [x]=1+j_ M [x]:=by
  show[x].countP _+j_ M [x]=_;rw[cQ,aP hxy];rfl
 have e3:j_ ([x]++M) [y]=j_ M [y]:=by
  show[y].countP _+j_ M [y]=_;rw[cQ,aS (by lia:¬y<x)];simp
 rw[e1,e2,e3,yc h hxy]
 skip
 lia
def yX(M:ag)(x y:Int):([y]++M++[x]).Perm ([x]++M++[y]):=by
 refine(List.perm_append_comm (l₁:=[y]++M) (l₂:=[x])).trans ?_
 skip
 exact .cons x<|List.perm_append_comm (l₁:=[y]) (l₂:=M)
def step{P M R:ag}{x y:Int}(h:∀m∈M,m<x\/y<m)(hxy:x<y):inv (P++([y]++M++[x])++R)=inv (P++([x]++M++[y])++R)+1:=by
 have p:=yX M x y;rw[jx,jx P,jx<|P++([x]++M++[y]),jx P,mid h hxy,ID P p,Gq R<|p.append_left P]
 lia
abbrev sw (a:ag)(i j:Nat):ag:=(a.set i<|a.getD j 0).set j<|a.getD i 0
def Cj(a:ag)(i j:Nat):(sw a i j).length=a.length:=by unfold sw;rw[bV,bV]
def split{a:ag}(hij:i<j)(hj:j<a.length):∃P M R:ag,a=P++([a.getD i 0]++M++[a.getD j 0])++R/\P=a.take i/\(∀m∈M,∃k,i<k/\k<j/\a[k]?=some m)/\sw a i j=P++([a.getD j 0]++M++[a.getD i 0])++R:=by
 have K:a.getD i 0=a[i]:=by rw[aJ,aG ()];rfl
 have G:a.getD j 0=a[j]:=by rw[aJ,aG hj];rfl
 obtain⟨M,q⟩:∃M,M=(a.drop<|i+1).take (j-i-1):=⟨_,rfl⟩;have J:M.length=j-i-1:=by rw[q,aW,bN];lia
 have C:a=a.take i++([a.getD i 0]++M++[a.getD j 0])++a.drop (j+1):=by
  have h1:a.drop i=a[i]::a.drop (i+1):=b9 ();have h2:a.drop (i+1)=M++a.drop j:=by
   rw[q];have:=cF (j-i-1)<|a.drop<|i+1;rw[List.drop_drop,show i+1+(j-i-1)=j by lia]at this;exact this.symm
  have h3:a.drop j=a[j]::a.drop (j+1):=b9 hj
  conv=>lhs;rw[<- cF i a,h1,h2,h3]
  rw[K,G];simp
 refine⟨a.take i,M,a.drop<|j+1,C,rfl,λm F=>?_,?_⟩
 ·rw[q]at F;obtain⟨k,z⟩:=gI F;have g:k<j-i-1:=by
   have:=(aN.mp z).1;rw[aW]at this;lia
  rw[dc g,dz]at z;exact⟨i+1+k,(),(),z⟩
 ·have p:∀(P R:ag) (x y d f:Int),P.length=i->((P++([x]++M++[y])++R).set i f).set j d=P++([f]++M++[d])++R:=λP R x y d f B=>by
   rw[bD,c9 _ _ (),B,eX];show(P++(f::((M++[y])++R))).set j d=_;rw[c9 _ _ (),B,show j-i=(j-i-1)+1 by lia,List.set_cons_succ,bD,c9 _ _ (),J,eX];simp
  have:=p (a.take i) (a.drop<|j+1) (a.getD i 0) (a.getD j 0) (a.getD i 0) (a.getD j 0) (by rw[aW];lia);rw[<- C]at this;exact this
def sL{a:ag}{i:Nat}(h:i<a.length):a[i]?=some (a.getD i 0):=by rw[aJ,aG h];rfl
def EZ{a:ag}(hij:i<j)(hj:j<a.length)(p:Nat):(sw a i j).getD p 0=if p=j then a.getD i 0 else if p=i then a.getD j 0 else a.getD p 0:=by
 unfold sw;rw[aJ];by_cases c:p=j
 ·subst c;rw[aL rfl,bH<|by rw[bV];exact hj];rfl
 ·rw[aK c,bL<|cP c];by_cases d:p=i
  ·subst d;rw[aL rfl,bH ()];rfl
  ·rw[aK d,bL<|cP d,<- aJ]
end Iv
namespace Fw
open PySem L2 Bl
open Wd (ex led)
meta abbrev rg (n:Nat):ag:=jt 1<|(n:Int)+1
def rG{l:ag}{k:Nat}(h0:1<=k)(h:k<l.length):ex (ex l k) k=l:=by
 apply cA;intro p;have h':k<(ex l k).length:=by rw[Wd.ku];exact h
 rw[Wd.oB h0 h',Wd.oB h0 h,Wd.oB h0 h,Wd.oB h0 h];by_cases c3:p=k
 ·rw[aL c3,aK (),aL rfl,c3]
 ·rw[aK c3];by_cases c2:p=k-1
  ·rw[aL c2,aL rfl,c2]
  ·rw[aK c2,aK c3,aK c2]
def Du{l:ag}{k:Nat}(h0:1<=k)(h:k<l.length):(ex l k).getD k 0=l.getD (k-1) 0:=by
 rw[aJ,Wd.oB h0 h,aL rfl,aJ]
def EW{l:ag}{k:Nat}(h0:1<=k)(h:k<l.length):(ex l k).getD (k-1) 0=l.getD k 0:=by
 rw[aJ,Wd.oB h0 h,aK (),aL rfl,aJ]
def vp{l:ag}{k:Nat}(h0:1<=k)(h:k<l.length)(hr:l.getD (k-1) 0<l.getD k 0):Iv.inv (ex l k)=Iv.inv l+1:=by
 obtain⟨P,M,R,e,_,d,es⟩:=Iv.split (a:=l) (i:=k-1) (j:=k) () h;have:=Iv.step (P:=P) (M:=M) (R:=R) (x:=l.getD (k-1) 0) (y:=l.getD k 0) (λm f=>by obtain⟨_,_,_,_⟩:=d m f;lia) hr;rw[<- es,<- e]at this;exact this
def nN{l:ag}{k:Nat}(h0:1<=k)(h:k<l.length)(hr:l.getD k 0<l.getD (k-1) 0):Iv.inv l=Iv.inv (ex l k)+1:=by
 have:=vp (l:=ex l k) h0 (by rw[Wd.ku];exact h) (by rw[Du h0 h,EW h0 h];exact hr);rw[rG h0 h]at this;exact this
abbrev Va (n:Nat)(w:ap):Prop:=∀k∈w,1<=k/\k<n
def Va.tail{n k:Nat}{w:ap}(h:Va n (k::w)):Va n w:=λj d=>h j<|aO _ d
def Va.head{n k:Nat}{w:ap}(h:Va n (k::w)):1<=k/\k<n:=h k<|aM ..
theorem Ar:∀{w:ap}{l:ag},Va l.length w->led (led l w) w.reverse=l
 | [],l,_=>rfl
 | k::w,l,h=>by
  rw[fD,Wd.yJ];show led (led (led (ex l k) w) w.reverse) [k]=l;rw[Ar (w:=w) (l:=ex l k)<|by rw[Wd.ku];exact h.tail];exact rG h.head.1 h.head.2
theorem FU:∀{l:ag},l.Pairwise (·<=·)->Iv.inv l=0
 | [],_=>rfl
 | x::l,h=>by
  show l.countP (λy=>decide<|y<x)+Iv.inv l=0;rw[FU (bR.mp h).2,List.countP_eq_zero.mpr λa d z=>by have:=bS z;have:=(bR.mp h).1 a d;lia]
def FE(n:Nat):Iv.inv (rg n)=0:=FU<|Hs _ _
abbrev yR (l:ag)(k:Nat):Prop:=1<=k/\k<l.length/\l.getD k 0<l.getD (k-1) 0
def SO{l:ag}(h:∀k,¬yR l k):l.Pairwise (·<=·):=by
 have f:∀d i,i+d<l.length->l.getD i 0<=l.getD (i+d) 0:=by
  intro d
  induction d with
  | zero=>intro i _;exact dP _
  | succ d g=>
   intro i hi;have h1:=g i ();have h2:¬l.getD (i+d+1) 0<l.getD (i+d) 0:=λz=>h (i+d+1) ⟨(),hi,z⟩;rw[<- fm];lia
 rw[cB];intro i j hi m p;have:=f (j-i) i ();rw[show i+(j-i)=j by lia,Wd.ju hi,Wd.ju m]at this;exact this
def Eh{l:ag}{n:Nat}(p:l.Perm<|rg n)(h:∀k,¬yR l k):l=rg n:=
 List.Perm.eq_of_pairwise (λx y _ _ h1 h2=>fW h1 h2) (SO h) (Hs _ _) p
def HH(h:0<Iv.inv l):∃k,yR l k:=by
 refine fQ λz=>?_;rw[FU<|SO λk d=>z ⟨k,d⟩]at h;exact absurd h<|fh _
abbrev Dn:ag->ap->Prop
 | l,[]=>∀k,¬yR l k
 | l,k::ks=>(yR l k/\∀j,yR l j->k<=j)/\Dn (ex l k) ks
def lQ{l:ag}{n k:Nat}(p:l.Perm<|rg n)(h0:1<=k)(h:k<l.length):(ex l k).Perm (rg n):=(Wd.yz h0 h).trans p
def Dn.va:∀{ks:ap}{l:ag},Dn l ks->Va l.length ks
 | [],l,_=>λk f=>absurd f (by simp)
 | k::ks,l,h=>λj d=>by
  rcases bE.mp d with rfl|z
  ·exact⟨h.1.1.1,h.1.1.2.1⟩
  ·have:=h.2.va j z
   rwa [Wd.ku]at this
theorem Dn.led:∀{ks:ap}{l:ag}{n:Nat},Dn l ks->l.Perm (rg n)->led l ks=rg n
 | [],l,n,h,p=>Eh p h
 | k::ks,l,n,h,p=>Dn.led (ks:=ks) h.2<|lQ p h.1.1.1 h.1.1.2.1
theorem Iu:∀(m:Nat) (l:ag),Iv.inv l<=m->∃ks,Dn l ks
 | 0,l,h=>⟨[],λk d=>by have:=nN d.1 d.2.1 d.2.2;lia⟩
 | m+1,l,h=>by
  by_cases c:∃k,yR l k
  ·obtain⟨k,d,f⟩:∃k,yR l k/\∀j,yR l j->k<=j:=by
    obtain⟨k,d⟩:=c
    induction k using Nat.strongRecOn with
    | ind k B=>
     by_cases z:∃j,yR l j/\j<k
     ·obtain⟨j,q,p⟩:=z;exact B j p q
     ·exact⟨k,d,λj q=>Nat.le_of_not_lt λy=>z ⟨j,q,y⟩⟩
   have:=nN d.1 d.2.1 d.2.2;obtain⟨ks,g⟩:=Iu m (ex l k) ();exact⟨k::ks,⟨d,f⟩,g⟩
  ·exact⟨[],λk d=>c ⟨k,d⟩⟩
def ym{l:ag}{n k:Nat}(p:l.Perm<|rg n)(h0:1<=k)(h:k<l.length):l.getD (k-1) 0≠l.getD k 0:=λz=>by
 have nd:l.Nodup:=p.nodup_iff.mpr<|lI _ _;rw[Wd.ju h,Wd.ju<|show k-1<l.length by lia]at z;have:=(dw nd).mp z
 lia
def Ko{a c:ag}{n:Nat}(pa:a.Perm<|rg n)(h1:sF a b)(h2:sF b c):a=c:=by
 have m:=h1.1;have j:=h2.1;refine gD () λq hq d=>?_;have e1:=h1.2 q hq;have k:=(jR.mp<|pa.mem_iff.mp<|dU hq);obtain⟨f,g⟩:=aN.mp e1;have e2:=h2.2 _ f;rw[g,show((q:Int)+1-1).toNat=q by lia,aG d]at e2;have:=aU e2
 lia
structure Two (n:Nat)(o u:ag):Prop where
 po:o.Perm (rg n)
 pu:u.Perm (rg n)
 ou:sF o u
def Two.lu{n:Nat}{u:ag}(t:Two n o u):u.length=n:=by rw[t.pu.length_eq,Wd.i7]
def Two.lo{n:Nat}{o:ag}(t:Two n o u):o.length=n:=by rw[t.po.length_eq,Wd.i7]
def Two.led{n:Nat}{ks:ap}(t:Two n o u)(h:Dn u ks):Wd.led (rg n) ks=o:=by
 have v:Va n ks:=by have:=h.va;rwa [t.lu]at this
 have e:=h.led t.pu;have e2:u=Wd.led (rg n) ks.reverse:=by rw[<- e,Ar<|by rw[t.lu];exact v]
 have b:=Wd.mE ks v;rw[<- show u=Wd.led (jt 1<|(n:Int)+1) ks.reverse from e2]at b;exact(Ko t.po t.ou b).symm
def Two.uo{n:Nat}(t:Two n o u):sF u o:=by
 obtain⟨ks,h⟩:=Iu _ u<|aQ _;have v:Va n ks:=by have:=h.va;rwa [t.lu]at this
 have e:=h.led t.pu;have e2:u=Wd.led (rg n) ks.reverse:=by rw[<- e,Ar<|by rw[t.lu];exact v]
 have b:=Wd.mE ks v;rw[<- show u=Wd.led (jt 1<|(n:Int)+1) ks.reverse from e2,show Wd.led (jt 1<|(n:Int)+1) ks=o from t.led h]at b;exact b
def Two.flip{n:Nat}(t:Two n o u):Two n u o:=⟨t.pu,t.po,t.uo⟩
def Two.step{n k:Nat}{o:ag}(t:Two n o u)(h0:1<=k)(h:k<n):Two n (o.map<|Wd.sw k) (ex u k):=by
 have lu:=t.lu;have b:=Wd.Bq h0 () t.uo;have p1:=lQ t.pu h0 ();have p2:(o.map<|Wd.sw k).Perm (rg n):=(t.po.map _).trans (by rw[<- Wd.OW h0 h];exact Wd.yz h0<|by rw[Wd.i7];exact h);exact(Two.mk p1 p2 b).flip
end Fw
namespace Su
open Am Po PySem L2
abbrev cS (l:Ps)(o:ag)(t:Int):Int:=match l with
 | []=>0
 | e::l=>(if e.1=o then cf e.2 t else 0)+cS l o t
def qB(a b:Pl)(k:Int):cf (a++b) k=cf a k+cf b k:=by
 induction a with
 | nil=>exact(dD _).symm
 | cons p a d=>
  show _+cf (a++b) k=_+_+_;rw[d,add_assoc]
def Lz(a b:Pl)(k:Int):cf (xU a b) k=cf a k+cf b k:=by
 unfold xU;rw[BZ<|wM _ (d:=[]) eT,vX,qB];show 0+_=_;rw[dD]
def Nd(a b:Pl)(k:Int):cf (times a b) k=cf (E9 a b) k:=by
 unfold times;rw[BZ<|wM _ (d:=[]) eT,vX];show 0+_=_;rw[dD]
theorem Sn(s:Int):∀(b:Pl) (k c:Int),cf (b.map λq=>(c+q.1,s * q.2)) k=s * cf b (k-c)
 | [],k,c=>(Int.mul_zero s).symm
 | q::b,k,c=>by
  show(if c+q.1=k then s * q.2 else 0)+cf (b.map λq=>(c+q.1,s * q.2)) k=s * ((if q.1=k-c then q.2 else 0)+cf b (k-c));rw[Sn s b k c,Int.mul_add];by_cases h:c+q.1=k
  ·rw[aL h,aL ()]
  ·rw[aK h,aK (),Int.mul_zero]
meta abbrev AF:Pl:=[((-1:Int),(1:Int)),((1:Int),(-1:Int))]
structure Gd (D:Ps):Prop where
 nd:(D.map Prod.fst).Nodup
 ok:∀e∈D,Ok e.2
abbrev lX (o:ag)(k:Nat):Bool:=decide<|o.getD (k-1) 0>o.getD k 0
abbrev bxL (k:Nat)(l:Ps):Ps:=l.flatMap λe=>(Wd.ex e.1 k,e.2)::(if lX e.1 k=true then[(e.1,times AF e.2)]else[])
abbrev bx (k:Nat)(l:Ps):Ps:=toS<|adds []<|bxL k l
def Yt{k:Nat}{o:ag}(h1:1<=k)(h2:k<o.length):(Wd.ex o k).getD (k-1) 0=o.getD k 0/\(Wd.ex o k).getD k 0=o.getD (k-1) 0:=by
 constructor
 ·rw[aJ,Wd.oB h1 h2,aK (),aL rfl,aJ]
 ·rw[aJ,Wd.oB h1 h2,aL rfl,aJ]
end Su
namespace He
open PySem L2 Am
open Fw (Two rg yR)
open Bl (sF)
open Su (lX)
meta abbrev Fn:=ag->Int->Int
abbrev dl (g:Int->Int)(t:Int):Int:=g (t+1)-g (t-1)
abbrev X (k:Nat)(f:Fn):Fn:=λo t=>f (Wd.ex o k) t+if lX o k=true then dl (f o) t else 0
def m7{n:Nat}{v:ag}(h:Two n o u)(h':Two n o v):u=v:=by
 have m:=h.lu;have j:=h'.lu;have k:=h.lo;apply cA;intro q;by_cases hq:q<n
 ·obtain⟨p,hp,d⟩:∃p,∃hp:p<o.length,o[p]=(q:Int)+1:=by
   have:(q:Int)+1∈o:=h.po.mem_iff.mpr<|jR.mpr ⟨(),()⟩;obtain⟨p,hp,d⟩:=List.getElem_of_mem this;exact⟨p,hp,d⟩
  have g:=h.ou.2 p hp;have f:=h'.ou.2 p hp;rw[d,show((q:Int)+1-1).toNat=q by lia]at g f;rw[g,f]
 ·rw[bJ (),bJ ()]
abbrev bk (o:ag):ag:=(List.range o.length).map λi:Nat=>((o.idxOf ((i:Int)+1):Nat):Int)+1
def nO{n:Nat}{o:ag}(h:o.Perm<|rg n):Two n o (bk o):=by
 have lo:o.length=n:=by rw[h.length_eq,Wd.i7]
 have nd:o.Nodup:=h.nodup_iff.mpr<|lI _ _;have d:∀i,i<n->(i:Int)+1∈o:=λi hi=>h.mem_iff.mpr<|jR.mpr ⟨(),()⟩;have f:∀i,i<n->o.idxOf ((i:Int)+1)<n:=λi hi=>by rw[<- lo];exact List.idxOf_lt_length_iff.mpr (d i hi)
 have get:∀i (hi:i<n),o[o.idxOf<|(i:Int)+1]'(by rw[lo];exact f i hi)=(i:Int)+1:=λi hi=>List.getElem_idxOf _;refine⟨h,?_,?_,λp hp=>?_⟩
 ·have p:=Am.zU (N:=n) (g:=λi=>o.idxOf<|(i:Int)+1) f λi j B k z=>by
   have a:=get i ();have b:=get j k;dsimp[z]at a;rw[b]at a
   lia
  have p2:=p.map λi:Nat=>(i:Int)+1;rw[cj]at p2;unfold bk;rw[lo];refine List.Perm.trans p2 ?_;have:(List.range n).map (λi:Nat=>(i:Int)+1)=rg n:=by
   apply cA;intro q;rw[bh];by_cases c:q<n
   ·rw[cI c,Wd.o6 c];rfl
   ·rw[bJ<|by rw[cu];lia,bJ<|by rw[Wd.i7];lia];rfl
  rw[this]
 ·unfold bk;rw[aH,cu]
 ·have m:=jR.mp<|h.mem_iff.mp<|dU hp;have hq:(o[p]-1).toNat<o.length:=()
  unfold bk;rw[bh,cI hq];show some (((o.idxOf (((o[p]-1).toNat:Int)+1):Nat):Int)+1)=_;rw[show((o[p]-1).toNat:Int)+1=o[p]by lia,nd.idxOf_getElem]
def GH{n:Nat}{o:ag}(h:o.Perm<|rg n):bk (bk o)=o:=m7 (nO (nO h).pu) (nO h).flip
def yE{n:Nat}{o:ag}(h:o.Perm<|rg n):(bk o).Perm (rg n):=(nO h).pu
def N8{n k:Nat}{o:ag}(h:o.Perm<|rg n)(h0:1<=k)(h1:k<n):bk (o.map<|Wd.sw k)=Wd.ex (bk o) k:=by
 have t:=(nO h).step h0 h1;exact m7 (nO t.po) t
def LW{n k:Nat}{o:ag}(h:o.Perm<|rg n)(h0:1<=k)(h1:k<n):bk (Wd.ex o k)=(bk o).map (Wd.sw k):=by
 have t:=((nO h).flip.step h0 h1).flip;exact m7 (nO t.po) t
def uM{n k p:Nat}{o u:ag}(t:Two n o u)(h1:1<=k)(h2:k<=n)(hp:o.getD p 0=(k:Int))(hpn:p<n):u.getD (k-1) 0=(p:Int)+1:=by
 have lo:=t.lo;have d:p<o.length:=()
 have:=t.ou.2 p d;rw[Wd.ju d]at hp;rw[hp,show((k:Int)-1).toNat=k-1 by lia]at this;rw[aJ,this];rfl
def nb{n k:Nat}{o:ag}(h:o.Perm<|rg n)(h0:1<=k)(h1:k<n):o.getD (k-1) 0≠o.getD k 0:=λz=>by
 have lo:o.length=n:=by rw[h.length_eq,Wd.i7]
 have nd:o.Nodup:=h.nodup_iff.mpr<|lI _ _;rw[Wd.ju (),Wd.ju ()]at z;have:=(dw nd).mp z
 lia
abbrev Pr (o:ag)(k j:Nat):Prop:=(o.getD (k-1) 0=j/\o.getD k 0=(j:Int)+1)\/(o.getD (k-1) 0=(j:Int)+1/\o.getD k 0=j)
def BL{n k:Nat}{u:ag}(h:u.Perm<|rg n)(h0:1<=j)(h1:j<n):(Pr u j k->lX (u.map<|Wd.sw k) j=!lX u j)/\(¬Pr u j k->lX (u.map<|Wd.sw k) j=lX u j):=by
 have lu:u.length=n:=by rw[h.length_eq,Wd.i7]
 have g:=nb h h0 h1;have e1:(u.map<|Wd.sw k).getD (j-1) 0=Wd.sw k (u.getD (j-1) 0):=by
  rw[Wd.ju<|by rw[aH];lia,Wd.ju (),dg]
 have e2:(u.map<|Wd.sw k).getD j 0=Wd.sw k (u.getD j 0):=by
  rw[Wd.ju<|by rw[aH];lia,Wd.ju (),dg]
 unfold lX Pr;rw[e1,e2];generalize u.getD (j-1) 0=a at *
 generalize u.getD j 0=b at *
 constructor
 ·rintro(⟨f,d⟩|⟨f,d⟩)
  ·subst f;subst d;unfold Wd.sw;rw[aL rfl,aK (),aL rfl,aP (),aS ()];rfl
  ·subst f;subst d;unfold Wd.sw;rw[aK (),aL rfl,aL rfl,aS (),aP ()];rfl
 ·intro z;rw[gE];unfold Wd.sw;split<;>split<;>(try split)<;>(try split)<;>lia
def uG{n k:Nat}(t:Two n o u)(h0:1<=k)(h1:k<n)(h2:1<=j)(h3:j<n)(h:Pr o k j):Pr u j k:=by
 rcases h with⟨f,d⟩|⟨f,d⟩
 ·have a:=uM t h2 () f ();have b:=uM t (k:=j+1) () () (by rw[d];lia) h1;rw[fX]at b;exact .inl ⟨by rw[a];lia,by rw[b]⟩
 ·have a:=uM t (k:=j+1) () () (by rw[f];lia) (show k-1<n by lia);have b:=uM t h2 () d h1;rw[fX]at a;exact .inr ⟨by rw[b],by rw[a];lia⟩
def Ge{n k:Nat}(t:Two n o u)(h0:1<=k)(h1:k<n)(h2:1<=j)(h3:j<n)(h:Pr o k j):lX u j=lX o k:=by
 have a:∀x y:ag,∀i m:Nat,x.getD (i-1) 0=(m:Int)->x.getD i 0=(m:Int)+1->lX x i=false:=λx y i m p q=>by
  unfold lX;rw[p,q];exact aS ()
 have b:∀x y:ag,∀i m:Nat,x.getD (i-1) 0=(m:Int)+1->x.getD i 0=(m:Int)->lX x i=true:=λx y i m p q=>by
  unfold lX;rw[p,q];exact aP ()
 rcases h with⟨d,f⟩|⟨d,f⟩
 ·rw[a o [] k j d f]
  rcases uG t h0 h1 h2 h3 (.inl ⟨d,f⟩)with⟨g,z⟩|⟨g,z⟩
  ·exact a u [] j k g z
  ·have:=uM t h2 () d ();lia
 ·rw[b o [] k j d f]
  rcases uG t h0 h1 h2 h3 (.inr ⟨d,f⟩)with⟨g,z⟩|⟨g,z⟩
  ·have:=uM t h2 () f h1;lia
  ·exact b u [] j k g z
abbrev L (j:Nat)(f:Fn):Fn:=λo t=>f (o.map<|Wd.sw j) t+if lX (bk o) j=true then dl (f o) t else 0
def Ce{n k:Nat}{o:ag}(h:o.Perm<|rg n)(h0:1<=k)(h1:k<n)(hp:Pr o k j):o.map (Wd.sw j)=Wd.ex o k:=by
 have lo:o.length=n:=by rw[h.length_eq,Wd.i7]
 have nd:o.Nodup:=h.nodup_iff.mpr<|lI _ _;apply cA;intro p;rw[Wd.oB h0 (),bh];unfold Pr at hp;rw[Wd.ju (),Wd.ju ()]at hp;by_cases c1:p=k
 ·subst c1;rw[aL rfl,aG (),aG (),dj];congr 1;unfold Wd.sw
  rcases hp with⟨f,d⟩|⟨f,d⟩
  ·rw[f,d,aK (),aL rfl]
  ·rw[f,d,aL rfl]
 ·rw[aK c1];by_cases c2:p=k-1
  ·subst c2;rw[aL rfl,aG (),aG (),dj];congr 1;unfold Wd.sw
   rcases hp with⟨f,d⟩|⟨f,d⟩
   ·rw[f,d,aL rfl]
   ·rw[f,d,aK (),aL rfl]
  ·rw[aK c2];by_cases c3:p<o.length
   ·rw[aG c3,dj];congr 1;have g:o[p]≠o[k]:=λz=>c1<|(dw nd).mp z;have m:o[p]≠o[k-1]:=λz=>c2<|(dw nd).mp z;unfold Wd.sw
    rcases hp with⟨f,d⟩|⟨f,d⟩
    ·rw[aK<|by rw[<- f];exact m,aK<|by rw[<- d];exact g]
    ·rw[aK<|by rw[<- d];exact g,aK<|by rw[<- f];exact m]
   ·rw[bJ ()];rfl
def Bx(j:Nat)(o:ag):(o.map<|Wd.sw j).map (Wd.sw j)=o:=by
 rw[cj];have:(Wd.sw j ∘ Wd.sw j)=id:=funext λx=>by
  show Wd.sw j (Wd.sw j x)=x;unfold Wd.sw;split<;>(try split)<;>(try split)<;>lia
 rw[this,List.map_id]
abbrev oA (n:Nat)(f g:Fn):Prop:=∀o:ag,o.Perm (rg n)->∀t,f o t=g o t
def oA.refl{n:Nat}{f:Fn}:oA n f f:=λ_ _ _=>rfl
def oA.symm{n:Nat}{f g:Fn}(h:oA n f g):oA n g f:=λo p t=>(h o p t).symm
def oA.trans{n:Nat}{f g e:Fn}(h:oA n f g)(h':oA n g e):oA n f e:=λo p t=>(h o p t).trans<|h' o p t
def lQ{n k:Nat}{o:ag}(h:o.Perm<|rg n)(h0:1<=k)(h1:k<n):(Wd.ex o k).Perm (rg n):=(Wd.yz h0<|by rw[h.length_eq,Wd.i7];exact h1).trans h
def GG{n k:Nat}{o:ag}(h:o.Perm<|rg n)(h0:1<=k)(h1:k<n):(o.map<|Wd.sw k).Perm (rg n):=((nO h).step h0 h1).po
abbrev Va (n:Nat)(w:ap):Prop:=∀k∈w,1<=k/\k<n
abbrev Xw (w:ap)(f:Fn):Fn:=w.foldl (λf k=>X k f) f
abbrev Lw (w:ap)(f:Fn):Fn:=w.foldl (λf k=>L k f) f
abbrev D (u:ag)(g:Int->Int):Fn:=λo t=>if o=u then g t else 0
def wm{l:ag}{k:Nat}(h:l.getD (k-1) 0<l.getD k 0):lX l k=false:=aS ()
def nv(n:Nat):(rg n).Perm (rg n):=.refl _
theorem m9{n:Nat}:∀(m:Nat) {u:ag},u.Perm (rg n)->Iv.inv u=m->∃w,Wd.jl (rg n) w/\Wd.led (rg n) w=u
 | 0,u,hu,hm=>by
  refine⟨[],trivial,(Fw.Eh hu λk d=>?_).symm⟩;have:=Fw.nN d.1 d.2.1 d.2.2
  lia
 | m+1,u,hu,hm=>by
  obtain⟨k,d⟩:=Fw.HH (l:=u) ();have lu:u.length=n:=by rw[hu.length_eq,Wd.i7]
  have f:=Fw.nN d.1 d.2.1 d.2.2;obtain⟨w,h1,h2⟩:=m9 m (lQ hu d.1<|by rw[<- lu];exact d.2.1) ();obtain⟨e1,e2⟩:=Su.Yt (o:=u) d.1 d.2.1;refine⟨w++[k],Wd.jl.snoc h1 d.1 (by rw[Wd.i7,<- lu];exact d.2.1)<|by rw[h2,e1,e2];exact d.2.2,?_⟩;rw[Wd.yJ,h2];exact Fw.rG d.1 d.2.1
def G7(n:Nat):bk (rg n)=rg n:=by
 refine m7 (nO<|nv n) ⟨nv n,nv n,rfl,λp hp=>?_⟩;have d:p<n:=by rw[Wd.i7]at hp;exact hp
 have e:=Wd.o6 d;rw[aG hp]at e;have e:=aU e;rw[show((rg n)[p]-1).toNat=p by rw[e];lia];exact Wd.o6 d
abbrev add (f g:Fn):Fn:=λo t=>f o t+g o t
end He
namespace He
open PySem L2 Am Po
open Fw (Two rg yR)
open Su (lX Ps cS)
abbrev cv:Pl->(Int->Int)->Int->Int
 | [],_,_=>0
 | q::p,g,t=>q.2 * g (t-q.1)+cv p g t
abbrev ZW (p:Pl)(f:Fn):Fn:=λo t=>cv p (f o) t
abbrev sw (n:Nat)(o:ag):ap:=by
 classical
 exact if h:o.Perm (rg n)then(m9 _ h rfl).choose else[]
def A4{n:Nat}{o:ag}(h:o.Perm<|rg n):Wd.jl (rg n) (sw n o)/\Wd.led (rg n) (sw n o)=o:=by
 unfold sw;rw[dif_pos h];exact(m9 _ h rfl).choose_spec
def Xh{n:Nat}{o:ag}(h:o.Perm<|rg n):Va n (sw n o):=λk d=>by have:=Wd.jl.valid (A4 h).1 k d;rwa [Wd.i7]at this
abbrev RG (G:ag->Fn):Ps->Fn
 | []=>λ_ _=>0
 | e::m=>add (ZW e.2<|G e.1)<|RG G m
abbrev R (n:Nat)(m:Ps)(f:Fn):Fn:=RG (λo=>Xw (sw n o) f) m
abbrev scl (p:Pl)(l:Ps):Ps:=l.map λx=>(x.1,times p x.2)
abbrev B (f:Fn):Fn:=λo=>f<|bk o
abbrev d0:Int->Int:=λt=>if t=0 then 1 else 0
end He
namespace He
open PySem L2 Am Po
open Fw (Two rg yR)
open Su (lX Ps cS Gd vS toS adds bx)
structure Cn (l:Ps):Prop where
 gd:Gd l
 eq:toS l=l
abbrev Zt (l m:Ps):Ps:=toS<|adds []<|l++m
abbrev one (n:Nat):Ps:=[(rg n,[((0:Int),(1:Int))])]
end He
namespace He
open PySem L2 Am Po
open Fw (Two rg yR)
open Su (lX Ps cS Gd vS toS adds bx)
abbrev arr:Nat->ag->List (ag)
 | 0,_=>[[]]
 | m+1,l=>l.flatMap λx=>(arr m<|l.erase x).map (x::·)
structure FB (n P C:Nat)(f:Fn):Prop where
 c:∀o,o.Perm (rg n)->∀t,(f o t).natAbs<=C
 p:∀o,o.Perm (rg n)->∀t:Int,P<t.natAbs->f o t=0
structure PB (Q c:Nat)(p:Pl):Prop where
 c:∀q∈p,q.2.natAbs<=c
 p:∀q∈p,q.1.natAbs<=Q
theorem vE:∀{w:ap}{l:ag},Wd.jl l w->Iv.inv (Wd.led l w)=Iv.inv l+w.length
 | [],_,_=>rfl
 | k::w,l,h=>by
  have:=vE h.2.2.2;rw[Fw.vp h.1 h.2.1 h.2.2.1]at this;show Iv.inv (Wd.led (Wd.ex l k) w)=_+(w.length+1)
  lia
def Cj{n:Nat}{o:ag}(h:o.Perm<|rg n):(sw n o).length=Iv.inv o:=by
 obtain⟨a,b⟩:=A4 h;have:=vE a;rw[b,Fw.FE]at this
 lia
structure Sz (n P C:Nat)(l:Ps):Prop where
 cn:Cn l
 pm:∀x∈l,x.1.Perm (rg n)
 fb:FB n P C<|cS l
end He
namespace He
open PySem L2 Am Po
open Fw (Two rg yR)
open Su (lX Ps cS Gd vS toS adds bx)
theorem BH{n:Nat}:∀{w:ap}{l:ag},l.Perm (rg n)->Va n w->Iv.inv (Wd.led l w)<=Iv.inv l+w.length/\(Iv.inv (Wd.led l w)=Iv.inv l+w.length->Wd.jl l w)
 | [],l,_,_=>⟨aQ _,λ_=>trivial⟩
 | k::w,l,p,v=>by
  have v1:=v k<|aM ..;have m:l.length=n:=by rw[p.length_eq,Wd.i7]
  obtain⟨f,d⟩:=BH (w:=w) (lQ p v1.1 v1.2) λj g=>v j<|aO _ g;have f:Iv.inv (Wd.led l (k::w))<=Iv.inv (Wd.ex l k)+w.length:=f;have d:Iv.inv (Wd.led l (k::w))=Iv.inv (Wd.ex l k)+w.length->Wd.jl (Wd.ex l k) w:=d;rw[bq]
  rcases iC 0 0 with z|_
  ·lia
  ·by_cases c:l.getD (k-1) 0<l.getD k 0
   ·have u:=Fw.vp v1.1 () c;exact⟨(),λh=>⟨v1.1,(),c,d ()⟩⟩
   ·have q:=nb p v1.1 v1.2;have u:=Fw.nN v1.1 () (show l.getD k 0<l.getD (k-1) 0 by lia);exact⟨(),λh=>absurd h ()⟩
theorem CF{n:Nat}:∀{w:ap}{l:ag},l.Perm (rg n)->Va n w->(Wd.led l w).Perm (rg n)
 | [],_,p,_=>p
 | k::w,l,p,v=>CF (w:=w) (lQ p (v k<|aM ..).1 (v k<|aM ..).2) λj d=>v j<|aO _ d
end He
namespace He
open PySem L2 Am Po
open Fw (Two rg yR)
open Su (lX Ps cS Gd vS toS adds bx)
def yM{n:Nat}{w:ap}(h:Wd.jl (rg n) w):Wd.jl (rg n) w.reverse:=by
 have va:Va n w:=λk g=>by have:=Wd.jl.valid h k g;rwa [Wd.i7]at this
 have f:Va n w.reverse:=λk g=>va k<|gF.mp g;have pr:=CF (nv n) f;obtain⟨C,m⟩:=A4 pr;have q:=Xh pr;have d:Va n (sw n<|Wd.led (rg n) w.reverse).reverse:=λk g=>q k<|gF.mp g;have j:=Wd.mE (sw n<|Wd.led (rg n) w.reverse).reverse d;rw[gJ,m]at j;have e:=m7 ⟨pr,CF (nv n) d,j⟩ ⟨pr,CF (nv n) va,Wd.mE w va⟩;have p:=(BH (nv n) d).1;rw[e,Fw.FE,List.length_reverse,Cj pr]at p;have z:=vE h;have B:=(BH (nv n) f).1;refine(BH (nv n) f).2 ?_;rw[Fw.FE,List.length_reverse]at *
 lia
abbrev Y (k:Nat)(f:Fn):Fn:=λo t=>X k f o t-dl (f o) t
abbrev Yw (w:ap)(f:Fn):Fn:=w.foldl (λf k=>Y k f) f
abbrev LB:Pl:=[((-1:Int),(-1:Int)),((1:Int),(1:Int))]
abbrev scS (p:Pl)(l:Ps):Ps:=toS<|adds []<|scl p l
abbrev yb (k:Nat)(l:Ps):Ps:=Zt (bx k l)<|scS LB l
abbrev ybw (w:ap)(l:Ps):Ps:=w.foldl (λl k=>yb k l) l
abbrev bT (n:Nat)(o:ag):Fn:=Yw (sw n o)<|cS<|one n
abbrev tO (n:Nat)(w:ap):Ps:=ybw w<|one n
structure Fwd (n:Nat)(W:ag->ap):Prop where
 r:∀o,o.Perm (rg n)->Wd.jl (rg n) (W o)
 e:∀o,o.Perm (rg n)->Wd.led (rg n) (W o)=o
end He
namespace Nu
open PySem L2
abbrev u7:Nat->Nat
 | 0=>1
 | n+1=>(n+1) * u7 n
theorem HE:∀n,0<u7 n
 | 0=>Nat.one_pos
 | n+1=>Nat.mul_pos (succ_pos _)<|HE n
def Dk(n:Nat):u7 n<=u7 (n+1):=Nat.le_mul_of_pos_left _<|succ_pos _
def ON{a:Nat}(h:a<=b):u7 a<=u7 b:=by
 induction h with
 | refl=>exact aQ _
 | step _ d=>exact bP d<|Dk _
abbrev rank:ag->Nat
 | []=>0
 | x::xs=>(xs.filter (· < x)).length * u7 xs.length+rank xs
abbrev Ys:Nat->ag->Nat->ag
 | 0,_,_=>[]
 | n+1,l,m=>l.getD (m / u7 n) 0::Ys n (l.eraseIdx<|m / u7 n) (m % u7 n)
def Ka{l:ag}{q:Nat}(hs:l.Pairwise (· < ·))(h:q<l.length):((l.eraseIdx q).filter (· < l[q])).length=q:=by
 have e:l=l.take q++l[q]::l.drop (q+1):=by rw[List.getElem_cons_drop,cF]
 rw[gz,List.filter_append];have d:=hs;rw[e,b7]at d;obtain⟨_,h2,h3⟩:=d;rw[List.filter_eq_self.mpr λa f=>aP<|h3 a f _<|aM ..,List.filter_eq_nil_iff.mpr λa f z=>?_]
 ·rw[cJ,aW];lia
 ·have z:=bS z;have:=(bR.mp h2).1 a f
  lia
def sI{l:ag}{i:Nat}(h:i<l.length):(l[i]::l.eraseIdx i).Perm l:=by
 have e:l=l.take i++l[i]::l.drop (i+1):=by rw[List.getElem_cons_drop,cF]
 rw[gz];exact(List.perm_middle.symm).trans (by rw[<- e])
def Qy{l:ag}{q:Nat}(h:q<l.length):l.getD q 0=l[q]:=by rw[aJ,aG h];rfl
theorem Iw:∀(n:Nat) (l xs:ag),l.length=n->l.Pairwise (· < ·)->xs.Perm l->rank xs<u7 n/\Ys n l (rank xs)=xs
 | 0,l,xs,hl,_,hp=>by
  have:l=[]:=List.eq_nil_of_length_eq_zero hl;subst this;have:=hp.eq_nil;subst this;exact⟨Nat.one_pos,rfl⟩
 | n+1,l,[],hl,_,hp=>by have:=hp.length_eq;rw[hl]at this;cases this
 | n+1,l,x::xs,hl,hs,hp=>by
  have q:x∈l:=hp.mem_iff.mp<|aM ..;obtain⟨j,f,g⟩:=List.getElem_of_mem q;have d:xs.Perm (l.eraseIdx j):=by
   have h1:=sI f;rw[g]at h1;exact(hp.trans h1.symm).cons_inv
  have le:(l.eraseIdx j).length=n:=by rw[List.length_eraseIdx,aL f];lia
  obtain⟨h1,h2⟩:=Iw n (l.eraseIdx j) xs le (hs.sublist<|List.eraseIdx_sublist ..) d;have hc:(xs.filter (· < x)).length=j:=by
   rw[(d.filter _).length_eq,<- g];exact Ka hs f
  have m:xs.length=n:=by rw[d.length_eq,le]
  have z:rank (x::xs)=j * u7 n+rank xs:=by
   show(xs.filter (· < x)).length * u7 xs.length+rank xs=_;rw[hc,m]
  have k:(j * u7 n+rank xs) / u7 n=j:=by
   rw[iA,Nat.mul_add_div<|HE n,Nat.div_eq_of_lt h1];rfl
  have p:(j * u7 n+rank xs) % u7 n=rank xs:=by
   rw[iA,Nat.mul_add_mod,Nat.mod_eq_of_lt h1]
  rw[z];refine⟨?_,?_⟩
  ·show _<(n+1) * u7 n
   calc j * u7 n+rank xs<j * u7 n+u7 n:=()
    _=(j+1) * u7 n:=(f_ _ _).symm
    _<=(n+1) * u7 n:=fL _ ()
  ·show l.getD ((j * u7 n+rank xs) / u7 n) 0::Ys n (l.eraseIdx<|(j * u7 n+rank xs) / u7 n) ((j * u7 n+rank xs) % u7 n)=_;rw[k,p,Qy f,g,h2]
def ML(i j:Int):(jt i j).Pairwise (· < ·):=by
 unfold jt;rw[dI];exact gf.imp λh=>()
end Nu
namespace Stp
open PySem L2 Iv
abbrev mm (a:ag)(i j:Nat):ag:=(a.drop<|i+1).take<|j-i-1
abbrev btw (x y m:Int):Bool:=decide (x<m) && decide (m<y)
def parts{a:ag}(hij:i<j)(hj:j<a.length):a=a.take i++([a.getD i 0]++mm a i j++[a.getD j 0])++a.drop (j+1):=by
 have d:a.getD i 0=a[i]:=by rw[aJ,aG ()];rfl
 have f:a.getD j 0=a[j]:=by rw[aJ,aG hj];rfl
 have h1:a.drop i=a[i]::a.drop (i+1):=b9 ();have h2:a.drop (i+1)=mm a i j++a.drop j:=by
  have:=cF (j-i-1)<|a.drop<|i+1;rw[List.drop_drop,show i+1+(j-i-1)=j by lia]at this;exact this.symm
 have h3:a.drop j=a[j]::a.drop (j+1):=b9 hj
 conv=>lhs;rw[<- cF i a,h1,h2,h3]
 rw[d,f];simp
def Z8{a:ag}(hij:i<j)(hj:j<a.length):sw a i j=a.take i++([a.getD j 0]++mm a i j++[a.getD i 0])++a.drop (j+1):=by
 have m:(mm a i j).length=j-i-1:=by unfold mm;rw[aW,bN];lia
 have g:∀(P R:ag) (x y d f:Int),P.length=i->((P++([x]++mm a i j++[y])++R).set i f).set j d=P++([f]++mm a i j++[d])++R:=λP R x y d f k=>by
  rw[bD,c9 _ _ (),k,eX];show(P++(f::((mm a i j++[y])++R))).set j d=_;rw[c9 _ _ (),k,show j-i=(j-i-1)+1 by lia,List.set_cons_succ,bD,c9 _ _ (),m,eX];simp
 have:=g (a.take i) (a.drop<|j+1) (a.getD i 0) (a.getD j 0) (a.getD i 0) (a.getD j 0) (by rw[aW];lia);rw[<- parts hij hj]at this;exact this
abbrev isS (a:ag)(i j:Nat):Bool:=!(mm a i j).any λm=>btw (if a.getD j 0<a.getD i 0 then a.getD j 0 else a.getD i 0) (if a.getD j 0>a.getD i 0 then a.getD j 0 else a.getD i 0) m
def Hl{a:ag}(hij:i<j)(hj:j<a.length):(sw a i j).Perm a:=by
 have e:=parts hij hj;rw[Z8 hij hj]
 conv=>rhs;rw[e]
 exact((yX _ _ _).append_left _).append_right _
def Z2{a:ag}(hij:i<j)(hj:j<a.length):(sw a i j).getD i 0=a.getD j 0:=by
 unfold sw;rw[aJ,bL (),bH ()];rfl
def Zk{a:ag}(hij:i<j)(hj:j<a.length):(sw a i j).getD j 0=a.getD i 0:=by
 unfold sw;rw[aJ,bH<|by rw[bV];exact hj];rfl
def Bx{a:ag}(hij:i<j)(hj:j<a.length):sw (sw a i j) i j=a:=by
 have h1:=Z2 hij hj;have h2:=Zk hij hj;unfold sw at h1 h2 ⊢;rw[h1,h2];apply cA;intro k;by_cases c:k=j
 ·subst c;rw[bH<|by dsimp[bV];exact hj,Iv.sL hj]
 ·rw[bL ()];by_cases c2:k=i
  ·subst c2;rw[bH<|by dsimp[bV];lia,Iv.sL ()]
  ·rw[bL (),bL (),bL ()]
end Stp
namespace Eu
open PySem L2 Bl
open Wd (ex xh)
open Fw (rg yR)
def ju{l:ag}{k:Nat}(h:k<l.length):l.getD k 0=l[k]:=by rw[aJ,aG h];rfl
theorem low{a b:ag}{k:Nat}(hl:a.length=b.length)(h0:1<=k)(h:k<b.length)(hb:b.getD k 0<b.getD (k-1) 0)(ha:a.getD (k-1) 0<=a.getD k 0)(hab:Below a b):Below a (ex b k):=by
 have d:k<a.length:=()
 rw[ju h,ju<|show k-1<b.length by lia]at hb;rw[ju d,ju<|show k-1<a.length by lia]at ha;intro i j;rw[xh h0 h];by_cases hi:i=k
 ·subst hi;rw[aL rfl];have m:=hab (i-1) j;have f:=hab (i+1) j;have c1:=jS (l:=a) (i:=i-1) () j;have c2:=jS (l:=b) (i:=i-1) () j;have c3:=jS (l:=a) (i:=i) d j;have g:=jS (l:=b) (i:=i) h j;rw[show i-1+1=i by lia]at c1 c2;rw[c3,g,c1,c2]at f;rw[c1,c2];revert m f
  (repeat' split)<;>intros<;>lia
 ·rw[aK hi];have:=hab i j
  lia
def Zn{a b:ag}{k:Nat}(hl:a.length=b.length)(h0:1<=k)(h:k<b.length)(hb:b.getD k 0<b.getD (k-1) 0)(ha:a.getD k 0<=a.getD (k-1) 0)(hab:Below a b):Below (ex a k) (ex b k):=by
 have d:k<a.length:=()
 rw[ju h,ju<|show k-1<b.length by lia]at hb;rw[ju d,ju<|show k-1<a.length by lia]at ha;intro i j;rw[xh h0 h,xh h0 d];by_cases hi:i=k
 ·subst hi;rw[aL rfl,aL rfl];have m:=hab (i-1) j;have f:=hab (i+1) j;have c1:=jS (l:=a) (i:=i-1) () j;have c2:=jS (l:=b) (i:=i-1) () j;have c3:=jS (l:=a) (i:=i) d j;have g:=jS (l:=b) (i:=i) h j;rw[show i-1+1=i by lia]at c1 c2;rw[c3,g,c1,c2]at f;rw[c1,c2];revert m f
  (repeat' split)<;>intros<;>lia
 ·rw[aK hi,aK hi];have:=hab i j
  lia
section
variable {n:Nat}
def ln{z:ag}(p:z.Perm<|rg n):z.length=n:=by rw[p.length_eq,Wd.i7]
end
abbrev al (n:Nat):List (ag):=(List.range<|Nu.u7 n).map<|Nu.Ys n<|rg n
abbrev sg (z:ag):Int:=if Iv.inv z % 2=1 then -1 else 1
open Classical in
abbrev sm (n:Nat)(P:ag->Prop):Int:=((al n).map λz=>if P z then sg z else 0).sum
end Eu
namespace Gr
open PySem L2 Bl Fw
open Wd (ex led ku ya lift mE)
abbrev gk:ag->ap->ap
 | _,[]=>[]
 | l,k::ks=>if l.getD (k-1) 0>l.getD k 0 then k::gk (ex l k) ks else gk l ks
def yT{k:Nat}(f:yR l k):Below (ex l k) l:=by
 obtain⟨h0,h,z⟩:=f;have e:=rG h0 h;have m:(ex l k).length=l.length:=ku l k;have:=lift (u:=ex l k) (w:=ex l k) (k:=k) rfl h0 (by rw[m];exact h);have g:=Du h0 h;have j:=EW h0 h;rw[Eu.ju<|show k<(ex l k).length by lia]at g;rw[Eu.ju<|show k-1<(ex l k).length by lia]at j;have d:(ex l k)[k-1]'()<(ex l k)[k]'():=by rw[g,j];exact z
 have:=t8 (l:=ex l k) (p:=k-1) (q:=k) () () () d;rw[<- ya h0 (),e]at this;exact this
theorem zW:∀(ks:ap) {n:Nat}{y:ag},y.Perm (rg n)->Dn y ks->Below (rg n) y
 | [],n,y,py,h=>by rw[Eh py h];exact Below.refl _
 | k::ks,n,y,py,h=>(zW ks (lQ py h.1.1.1 h.1.1.2.1) h.2).trans<|yT h.1.1
end Gr
namespace Eu
open PySem L2 Bl Am
open Fw (rg)
structure Done (n:Nat)(u w:ag)(es:List (ag×Bool)):Prop where
 nd:(es.map (·.1)).Nodup
 pm:∀e∈es,e.1.Perm (rg n)
 up:∀e∈es,Below u e.1
 fl:∀e∈es,(e.2=true ↔ Below e.1 w)
 st:u∈es.map (·.1)
 cl:∀e∈es,e.2=true->∀i j,i<j->j<n->e.1.getD i 0<e.1.getD j 0->Stp.isS e.1 i j=true->Iv.sw e.1 i j∈es.map (·.1)
abbrev ext (n:Nat)(p:ag):List (ag):=((rg n).filter λt=>decide<|t∉p).map λt=>p++[t]
abbrev inj (n:Nat):Nat->List (ag)
 | 0=>[[]]
 | k+1=>(inj n k).flatMap<|ext n
theorem vP{n:Nat}:∀{k:Nat}{p:ag},p∈inj n k ↔ p.length=k/\p.Nodup/\∀t∈p,t∈rg n
 | 0,p=>by
  unfold inj;rw[bA];constructor
  ·rintro rfl;simp
  ·rintro⟨h,_⟩;exact eO.mp h
 | k+1,p=>by
  unfold inj;rw[List.mem_flatMap];constructor
  ·rintro⟨q,hq,hp⟩;obtain⟨t,f,rfl⟩:=bY.mp hp;obtain⟨h1,h2⟩:=cX.mp f;obtain⟨a,b,c⟩:=vP.mp hq;have h2:t∉q:=bS h2;refine⟨by simp[a],?_,λx d=>?_⟩
   ·rw[c8];refine⟨b,by simp,λx d y hy z=>h2 ?_⟩;have:y=t:=by simpa using hy
    rw[<- this,<- z];exact d
   ·rcases bF.mp d with z|z
    ·exact c x z
    ·have:x=t:=by simpa using z
     rw[this];exact h1
  ·rintro⟨h1,h2,h3⟩
   rcases List.eq_nil_or_concat p with c|⟨q,t,c⟩
   ·rw[c]at h1;simp at h1
   ·rw[List.concat_eq_append]at c;subst c;rw[c8]at h2;refine⟨q,vP.mpr ⟨by simpa using h1,h2.1,λx d=>h3 x<|d_ _ d⟩,bY.mpr ⟨t,cX.mpr ⟨h3 t<|by simp,aP λz=>h2.2.2 t z t (by simp) rfl⟩,rfl⟩⟩
def GR{n:Nat}{p:ag}:p∈inj n n ↔ p.Perm (rg n):=by
 rw[vP];constructor
 ·rintro⟨h1,h2,h3⟩;exact xT h2 h3 (by rw[h1,Wd.i7];exact aQ _)
 ·intro d;exact⟨ln d,d.nodup_iff.mpr<|lI _ _,λt f=>d.mem_iff.mp f⟩
theorem H_:∀{a b:ag}(x y:ag),a.length=b.length->HT.lexLt a b=true->HT.lexLt (a++x) (b++y)=true
 | [],[],_,_,_,h=>by cases h
 | [],_::_,_,_,h,_=>by simp at h
 | _::_,[],_,_,h,_=>by simp at h
 | p::a,q::b,x,y,hl,h=>by
  show HT.lexLt (p::(a++x)) (q::(b++y))=true;rw[HT.sf]at h ⊢;by_cases c:p=q
  ·rw[aL c]at h ⊢;exact H_ x y (by simpa using hl) h
  ·rw[aK c]at h ⊢;exact h
theorem EB:∀(p:ag) {s t:Int},s<t->HT.lexLt (p++[s]) (p++[t])=true
 | [],s,t,h=>by
  show HT.lexLt [s] [t]=true;rw[HT.sf,aK (),aP h]
 | x::p,s,t,h=>by
  show HT.lexLt (x::(p++[s])) (x::(p++[t]))=true;rw[HT.sf,aL rfl];exact EB p h
theorem Pq{n:Nat}:∀(k:Nat),(inj n k).Pairwise λa b=>HT.lexLt a b=true
 | 0=>cV _ _
 | k+1=>by
  unfold inj;rw[List.pairwise_flatMap];refine⟨λp hp=>?_,List.Pairwise.imp_of_mem (λ{a b} ha hb hab x hx y hy=>?_)<|Pq k⟩
  ·unfold ext;rw[dI];refine List.Pairwise.imp (λ{a b} hab=>EB p hab) ?_;exact(Nu.ML _ _).sublist List.filter_sublist
  ·obtain⟨s,_,rfl⟩:=bY.mp hx;obtain⟨t,_,rfl⟩:=bY.mp hy;exact H_ [s] [t] (by rw[(vP.mp ha).1,(vP.mp hb).1]) hab
end Eu
namespace Hz
open PySem L2 Bl Am
open Fw (rg yR)
open Su (lX)
open He (Fn oA bk nO yE GH LW N8 G7 lQ GG Va D Pr uG Ce Ge BL Bx nv m9 wm)
abbrev dl (g:Int->Int)(t:Int):Int:=- g (t-1)
abbrev X (k:Nat)(f:Fn):Fn:=λo t=>f (Wd.ex o k) t+if lX o k=true then dl (f o) t else 0
abbrev L (j:Nat)(f:Fn):Fn:=λo t=>f (o.map<|Wd.sw j) t+if lX (bk o) j=true then dl (f o) t else 0
def comm{n k:Nat}(f:Fn){o:ag}(h:o.Perm<|rg n)(h0:1<=k)(h1:k<n)(h2:1<=j)(h3:j<n)(t:Int):X k (L j f) o t=L j (X k f) o t:=by
 have lo:o.length=n:=by rw[h.length_eq,Wd.i7]
 have d:=nO h;have e1:(Wd.ex o k).map (Wd.sw j)=Wd.ex (o.map<|Wd.sw j) k:=(Wd.ex_map _ h0 ()).symm;have e2:=LW h h0 h1;have f1:=BL (k:=j) h h0 h1;have f2:=BL (k:=k) d.pu h2 h3;unfold X L dl;dsimp only;rw[e1,e2];by_cases c:Pr o k j
 ·have g:=uG d h0 h1 h2 h3 c;have e3:=Ce h h0 h1 c;rw[f1.1 c,f2.1 g,Ge d h0 h1 h2 h3 c,<- e3]
 ·have g:¬Pr (bk o) j k:=λz=>c<|uG d.flip h2 h3 h0 h1 z;rw[f1.2 c,f2.2 g]
  cases lX o k<;>cases lX (bk o) j
  ·dsimp[bu,bZ]
  ·dsimp[bu,cN,bZ];lia
  ·dsimp[bu,cN,bZ];lia
  ·dsimp[cN];lia
def YG{n k:Nat}{f g:Fn}(h:oA n f g)(h0:1<=k)(h1:k<n):oA n (X k f) (X k g):=λo p t=>by
 unfold X dl;rw[h _<|lQ p h0 h1,h o p]
def ZY{n k:Nat}{f g:Fn}(h:oA n f g)(h0:1<=k)(h1:k<n):oA n (L k f) (L k g):=λo p t=>by
 unfold L dl;rw[h _<|GG p h0 h1,h o p]
abbrev Xw (w:ap)(f:Fn):Fn:=w.foldl (λf k=>X k f) f
abbrev Lw (w:ap)(f:Fn):Fn:=w.foldl (λf k=>L k f) f
theorem A8{n:Nat}:∀{w:ap}{f g:Fn},Va n w->oA n f g->oA n (Xw w f) (Xw w g)
 | [],_,_,_,h=>h
 | k::w,_,_,v,h=>A8 (w:=w) (λj d=>v j<|aO _ d)<|YG h (v k<|aM ..).1 (v k<|aM ..).2
theorem Gp{n:Nat}:∀{w:ap}{f g:Fn},Va n w->oA n f g->oA n (Lw w f) (Lw w g)
 | [],_,_,_,h=>h
 | k::w,_,_,v,h=>Gp (w:=w) (λj d=>v j<|aO _ d)<|ZY h (v k<|aM ..).1 (v k<|aM ..).2
theorem Xi{n:Nat}(h2:1<=j)(h3:j<n):∀{w:ap}{f:Fn},Va n w->oA n (Xw w<|L j f) (L j<|Xw w f)
 | [],_,_=>.refl
 | k::w,f,v=>by
  have v1:=v k<|aM ..;have v2:Va n w:=λj d=>v j (aO _ d)
  skip
  exact(A8 v2 λo p t=>comm f p v1.1 v1.2 h2 h3 t).trans (Xi h2 h3 v2)
theorem SV{n:Nat}{w:ap}(v:Va n w):∀{u:ap}{f:Fn},Va n u->oA n (Xw w<|Lw u f) (Lw u<|Xw w f)
 | [],_,_=>.refl
 | j::u,f,vu=>by
  have v1:=vu j<|aM ..;have v2:Va n u:=λi hi=>vu i (aO _ hi)
  skip
  exact(SV v v2).trans (Gp v2<|Xi v1.1 v1.2 v)
def X_D{n k:Nat}{u:ag}(g:Int->Int)(hu:u.Perm<|rg n)(h0:1<=k)(h1:k<n):oA n (X k<|D u g) λo t=>D (Wd.ex u k) g o t+if lX u k=true then D u (dl g) o t else 0:=λo p t=>by
 have lo:o.length=n:=by rw[p.length_eq,Wd.i7]
 have lu:u.length=n:=by rw[hu.length_eq,Wd.i7]
 have d:Wd.ex o k=u ↔ o=Wd.ex u k:=⟨λz=>by rw[<- z,Fw.rG h0 ()],λz=>by rw[z,Fw.rG h0 ()]⟩;unfold X D dl;dsimp only;by_cases c:o=u
 ·subst c;rw[aL rfl,aL rfl];congr 1;by_cases c2:Wd.ex o k=o
  ·rw[aL c2,aL c2.symm]
  ·rw[aK c2,aK λz=>c2 z.symm]
 ·rw[aK c,aK c];congr 1
  ·by_cases c2:Wd.ex o k=u
   ·rw[aL c2,aL<|d.mp c2]
   ·rw[aK c2,aK λz=>c2<|d.mpr z]
  ·split<;>split<;>rfl
def L_D{n k:Nat}{u:ag}(g:Int->Int)(hu:u.Perm<|rg n)(h0:1<=k)(h1:k<n):oA n (L k<|D u g) λo t=>D (u.map<|Wd.sw k) g o t+if lX (bk u) k=true then D u (dl g) o t else 0:=λo p t=>by
 have d:o.map (Wd.sw k)=u ↔ o=u.map (Wd.sw k):=⟨λz=>by rw[<- z,Bx],λz=>by rw[z,Bx]⟩;unfold L D dl;dsimp only;by_cases c:o=u
 ·subst c;rw[aL rfl,aL rfl];congr 1;by_cases c2:o.map (Wd.sw k)=o
  ·rw[aL c2,aL c2.symm]
  ·rw[aK c2,aK λz=>c2 z.symm]
 ·rw[aK c,aK c];congr 1
  ·by_cases c2:o.map (Wd.sw k)=u
   ·rw[aL c2,aL<|d.mp c2]
   ·rw[aK c2,aK λz=>c2<|d.mpr z]
  ·split<;>split<;>rfl
theorem X_{n:Nat}{g:Int->Int}:∀{w:ap}{u:ag},u.Perm (rg n)->Wd.jl u w->oA n (Xw w<|D u g) (D (Wd.led u w) g)
 | [],_,_,_=>.refl
 | k::w,u,hu,h=>by
  obtain⟨h1,h2,h3,d⟩:=h;have lu:u.length=n:=by rw[hu.length_eq,Wd.i7]
  have m:=lQ hu h1 ();have e:oA n (X k<|D u g) (D (Wd.ex u k) g):=(X_D g hu h1 ()).trans λo p t=>by
   dsimp only;rw[wm h3,aK<|by simp,eE]
  have v:Va n w:=λj f=>by
   have:=Wd.jl.valid d j f;rw[Wd.ku,lu]at this;exact this
  skip
  exact(A8 v e).trans (X_ m d)
theorem XS{n:Nat}{g:Int->Int}:∀{w:ap}{u:ag},u.Perm (rg n)->Wd.jl (bk u) w->∃v:ag,v.Perm (rg n)/\bk v=Wd.led (bk u) w/\oA n (Lw w<|D u g) (D v g)
 | [],u,hu,_=>⟨u,hu,rfl,.refl⟩
 | k::w,u,hu,h=>by
  obtain⟨h1,h2,h3,d⟩:=h;have z:(bk u).length=n:=by rw[(yE hu).length_eq,Wd.i7]
  have B:=GG hu h1 (by omega);have f:bk (u.map<|Wd.sw k)=Wd.ex (bk u) k:=N8 hu h1 (by omega);have e:oA n (L k<|D u g) (D (u.map<|Wd.sw k) g):=(L_D g hu h1<|by omega).trans λo p t=>by
   dsimp only;rw[wm h3,aK<|by simp,eE]
  have v:Va n w:=λj q=>by
   have:=Wd.jl.valid d j q;rw[Wd.ku,z]at this;exact this
  rw[<- f]at d;obtain⟨x,F,C,m⟩:=XS (g:=g) B d;refine⟨x,F,?_,(Gp v e).trans m⟩;rw[C,f];rfl
def Ra{n:Nat}{u:ag}(hu:u.Perm<|rg n):∃v,Va n v/\∀g,oA n (Lw v<|D (rg n) g) (D u g):=by
 obtain⟨w,h1,h2⟩:=m9 _ (yE hu) rfl;have v:Va n w:=λk m=>by have:=Wd.jl.valid h1 k m;rwa [Wd.i7]at this
 refine⟨w,v,λg=>?_⟩;have d:Wd.jl (bk<|rg n) w:=by rw[G7];exact h1
 obtain⟨x,p,f,j⟩:=XS (g:=g) (nv n) d;rw[G7,h2]at f;have:x=u:=by rw[<- GH p,f,GH hu]
 rw[<- this];exact j
def T8{n:Nat}{w:ap}(h:Wd.jl (rg n) w)(h':Wd.jl (rg n) w')(e:Wd.led (rg n) w=Wd.led (rg n) w'){u:ag}(hu:u.Perm<|rg n)(g:Int->Int):oA n (Xw w<|D u g) (Xw w'<|D u g):=by
 obtain⟨v,v1,v2⟩:=Ra hu;have a:∀{w:ap},Wd.jl (rg n) w->oA n (Xw w<|D u g) (Lw v<|D (Wd.led (rg n) w) g):=λ{w} h=>by
  have d:Va n w:=λk f=>by have:=Wd.jl.valid h k f;rwa [Wd.i7]at this
  exact(A8 d (v2 g).symm).trans ((SV d v1).trans<|Gp v1<|X_ (nv n) h)
 refine(a h).trans ?_;rw[e];exact(a h').symm
open He (add)
def WW(k:Nat)(f g:Fn):X k (add f g)=add (X k f) (X k g):=by
 funext o t
 unfold X add dl;dsimp only;split<;>lia
theorem F4:∀(w:ap) (f g:Fn),Xw w (add f g)=add (Xw w f) (Xw w g)
 | [],_,_=>rfl
 | k::w,f,g=>by
  show Xw w (X k<|add f g)=add (Xw w<|X k f) (Xw w<|X k g);rw[WW,F4 w]
def Ve(k:Nat):X k (λ_ _=>0)=λ_ _=>0:=by
 funext o t
 unfold X dl;split<;>rfl
theorem CQ:∀w:ap,Xw w (λ_ _=>0)=λ_ _=>0
 | []=>rfl
 | k::w=>by
  show Xw w (X k λ_ _=>0)=_;rw[Ve,CQ w]
abbrev AH (f:Fn):List (ag)->Fn
 | []=>λ_ _=>0
 | u::us=>add (D u<|f u)<|AH f us
theorem IW(f:Fn)(t:Int):∀{us:List<|ag},o∉us->AH f us o t=0
 | [],_=>rfl
 | u::us,h=>by
  show(if o=u then f u t else 0)+AH f us o t=0;rw[aK λz=>h<|by rw[z];exact aM ..,IW f t λz=>h<|aO _ z];rfl
theorem HC(f:Fn){o:ag}(t:Int):∀{us:List<|ag},us.Nodup->o∈us->AH f us o t=f o t
 | u::us,nd,h=>by
  show(if o=u then f u t else 0)+AH f us o t=_;by_cases c:o=u
  ·subst c;rw[aL rfl,IW f t (cY.mp nd).1,eE]
  ·rw[aK c,HC f t (cY.mp nd).2<|(bE.mp h).resolve_left c,dD]
def DB(n:Nat)(f:Fn):oA n f (AH f<|Eu.inj n n):=λo p t=>by
 refine(HC f t ?_<|Eu.GR.mpr p).symm;refine(Eu.Pq n).imp λ{a b} h z=>?_;rw[z,Sx.IG]at h
 cases h
theorem Dq{n:Nat}{w:ap}(h:Wd.jl (rg n) w)(h':Wd.jl (rg n) w')(e:Wd.led (rg n) w=Wd.led (rg n) w')(f:Fn):∀{us:List<|ag},(∀u∈us,u.Perm<|rg n)->oA n (Xw w<|AH f us) (Xw w'<|AH f us)
 | [],_=>by
  show oA n (Xw w λ_ _=>0) (Xw w' λ_ _=>0);rw[CQ,CQ];exact .refl
 | u::us,hu=>by
  show oA n (Xw w<|add (D u<|f u)<|AH f us) (Xw w'<|add (D u<|f u)<|AH f us);rw[F4,F4];intro o p t;show _+_=_+_;rw[T8 h h' e (hu u<|aM ..) (f u) o p t,Dq h h' e f (λv hv=>hu v<|aO _ hv) o p t]
def UH{n:Nat}{w:ap}(h:Wd.jl (rg n) w)(h':Wd.jl (rg n) w')(e:Wd.led (rg n) w=Wd.led (rg n) w')(f:Fn):oA n (Xw w f) (Xw w' f):=by
 have va:Va n w:=λk g=>by have:=Wd.jl.valid h k g;rwa [Wd.i7]at this
 have d:Va n w':=λk g=>by have:=Wd.jl.valid h' k g;rwa [Wd.i7]at this
 exact(A8 va<|DB n f).trans ((Dq h h' e f λu j=>Eu.GR.mp j).trans (A8 d<|DB n f).symm)
abbrev Z (k:Nat)(f:Fn):Fn:=λo t=>f (Wd.ex o k) t+if lX o k=true then 0 else f o (t-1)
abbrev Zw (w:ap)(f:Fn):Fn:=w.foldl (λf k=>Z k f) f
def Z0{n k:Nat}{f g:Fn}(h:oA n f g)(h0:1<=k)(h1:k<n):oA n (Z k f) (Z k g):=λo p t=>by
 unfold Z;rw[h _<|lQ p h0 h1,h o p]
theorem Lc{n:Nat}:∀{w:ap}{f g:Fn},Va n w->oA n f g->oA n (Zw w f) (Zw w g)
 | [],_,_,_,h=>h
 | k::w,_,_,v,h=>Lc (w:=w) (λj d=>v j<|aO _ d)<|Z0 h (v k<|aM ..).1 (v k<|aM ..).2
def BF{n k:Nat}{o:ag}(p:o.Perm<|rg n)(h0:1<=k)(h1:k<n):lX (Wd.ex o k) k=!lX o k:=by
 have lo:o.length=n:=by rw[p.length_eq,Wd.i7]
 have d:=Fw.ym p h0 (by omega);unfold Su.lX;rw[Fw.Du h0<|by omega,Fw.EW h0<|by omega,<- decide_not];exact gE.mpr ⟨λz=>by omega,λz=>by omega⟩
def X_Z{n k:Nat}(h0:1<=k)(h1:k<n)(f:Fn):oA n (X k<|Z k f) f:=λo p t=>by
 have lo:o.length=n:=by rw[p.length_eq,Wd.i7]
 unfold X Z dl;dsimp only;rw[BF p h0 h1,Fw.rG h0 ()]
 cases lX o k<;>simp<;>lia
def Z_X{n k:Nat}(h0:1<=k)(h1:k<n)(f:Fn):oA n (Z k<|X k f) f:=λo p t=>by
 have lo:o.length=n:=by rw[p.length_eq,Wd.i7]
 unfold X Z dl;dsimp only;rw[BF p h0 h1,Fw.rG h0 ()]
 cases lX o k<;>simp<;>lia
def Q4(w:ap)(k:Nat)(f:Fn):Zw (w++[k]) f=Z k (Zw w f):=by unfold Zw;rw[fF];rfl
def HB(w:ap)(k:Nat)(f:Fn):Xw (w++[k]) f=X k (Xw w f):=by unfold Xw;rw[fF];rfl
theorem Xf{n:Nat}:∀{w:ap}{f:Fn},Va n w->oA n (Xw w.reverse<|Zw w f) f
 | [],_,_=>.refl
 | k::w,f,v=>by
  have v1:=v k<|aM ..;have v2:Va n w:=λj d=>v j<|aO _ d;rw[fD,HB];show oA n (X k<|Xw w.reverse<|Zw w<|Z k f) f;exact(YG (Xf v2) v1.1 v1.2).trans (X_Z v1.1 v1.2 f)
def QW(k:Nat)(w:ap)(f:Fn):Zw (k::w) f=Zw w (Z k f):=rfl
theorem XG{n:Nat}:∀{w:ap}{f:Fn},Va n w->oA n (Zw w<|Xw w.reverse f) f
 | [],_,_=>.refl
 | k::w,f,v=>by
  have v1:=v k<|aM ..;have v2:Va n w:=λj d=>v j<|aO _ d;rw[fD,HB,QW];exact(Lc v2<|Z_X v1.1 v1.2 _).trans (XG v2)
open He (yM m7 CF)
abbrev d1 (t:Int):Int:=if t=0 then 1 else 0
def WT{n:Nat}{w:ap}(h:Wd.jl (rg n) w)(h':Wd.jl (rg n) w')(e:Wd.led (rg n) w=Wd.led (rg n) w')(f:Fn):oA n (Zw w f) (Zw w' f):=by
 have va:Va n w:=λk j=>by have:=Wd.jl.valid h k j;rwa [Wd.i7]at this
 have g:Va n w':=λk j=>by have:=Wd.jl.valid h' k j;rwa [Wd.i7]at this
 have m:Va n w.reverse:=λk j=>va k<|gF.mp j;have d:Va n w'.reverse:=λk j=>g k<|gF.mp j;have B:=Wd.mE w va;have z:=Wd.mE w' g;have q:Wd.led (rg n) w.reverse=Wd.led (rg n) w'.reverse:=by
  have p:=CF (nv n) va;have c1:=Wd.mE w.reverse m;have c2:=Wd.mE w'.reverse d;rw[gJ]at c1 c2;rw[<- e]at c2;exact m7 ⟨p,CF (nv n) m,c1⟩ ⟨p,CF (nv n) d,c2⟩
 have s:oA n (Xw w.reverse<|Zw w' f) f:=(UH (yM h) (yM h') q _).trans<|Xf g;exact(Lc va s.symm).trans (XG va)
abbrev sw (n:Nat)(o:ag):ap:=open Classical in if h:o.Perm (rg n)then(m9 (Iv.inv o) h rfl).choose else[]
def A4{n:Nat}{o:ag}(h:o.Perm<|rg n):Wd.jl (rg n) (sw n o)/\Wd.led (rg n) (sw n o)=o:=by
 unfold sw;rw[dif_pos h];exact(m9 (Iv.inv o) h rfl).choose_spec
abbrev rT (n:Nat)(o:ag):Fn:=Zw (sw n o)<|D (rg n) d1
def JE{n:Nat}{o:ag}{w:ap}(po:o.Perm<|rg n)(h:Wd.jl (rg n) w)(e:Wd.led (rg n) w=o):oA n (rT n o) (Zw w<|D (rg n) d1):=by
 obtain⟨a,b⟩:=A4 po;exact WT a h (b.trans e.symm) _
def XT{n k:Nat}{o:ag}(po:o.Perm<|rg n)(h0:1<=k)(h1:k<n)(hf:lX o k=false):oA n (rT n<|Wd.ex o k) (Z k<|rT n o):=by
 obtain⟨f,d⟩:=A4 po;have lo:o.length=n:=by rw[po.length_eq,Wd.i7]
 have j:=Fw.ym po h0 ();have g:(Wd.led (rg n)<|sw n o).getD (k-1) 0<(Wd.led (rg n)<|sw n o).getD k 0:=by
  rw[d];have:=dX hf
  lia
 have c1:Wd.jl (rg n) (sw n o++[k]):=Wd.jl.snoc f h0 (by rw[Wd.i7];exact h1) g;have c2:Wd.led (rg n) (sw n o++[k])=Wd.ex o k:=by rw[Wd.yJ,d];rfl
 have:=JE (lQ po h0 h1) c1 c2;rw[Q4]at this;exact this
def GP{n k:Nat}{o:ag}(po:o.Perm<|rg n)(h0:1<=k)(h1:k<n)(hf:lX o k=true):oA n (rT n o) (Z k<|rT n<|Wd.ex o k):=by
 have lo:o.length=n:=by rw[po.length_eq,Wd.i7]
 have:=XT (lQ po h0 h1) h0 h1 (by rw[BF po h0 h1,hf];rfl);rw[Fw.rG h0 ()]at this;exact this
def T5(n:Nat):oA n (rT n<|rg n) (D (rg n) d1):=JE (nv n) (w:=[]) trivial rfl
theorem yU{n:Nat}{P:ag->Prop}(h0:P<|rg n)(hs:∀o k,o.Perm (rg n)->1<=k->k<n->lX o k=true->P (Wd.ex o k)->P o):∀(m:Nat) {o:ag},Iv.inv o=m->o.Perm (rg n)->P o
 | 0,o,hm,po=>by rw[Fw.Eh po λk d=>by have:=Fw.nN d.1 d.2.1 d.2.2;lia];exact h0
 | m+1,o,hm,po=>by
  obtain⟨k,d⟩:=Fw.HH (l:=o) ();have lo:o.length=n:=by rw[po.length_eq,Wd.i7]
  have f:=Fw.nN d.1 d.2.1 d.2.2;have h1:k<n:=by rw[<- lo];exact d.2.1
  exact hs o k po d.1 h1 (aP d.2.2)<|yU h0 hs m ()<|lQ po d.1 h1
structure Top (n:Nat)(w:ag)(f:Fn):Prop where
 at_:∀x:ag,x.Perm (rg n)->Below x w->f x ((Iv.inv w:Int)-Iv.inv x)=1
 up:∀x:ag,x.Perm (rg n)->Below x w->∀t,(Iv.inv w:Int)-Iv.inv x<t->f x t=0
 no:∀x:ag,x.Perm (rg n)->¬Below x w->∀t,f x t=0
 me:∀t,f w t=d1 t
 nn:∀x:ag,x.Perm (rg n)->∀t,0<=f x t
 lo:∀x:ag,x.Perm (rg n)->∀t,t<0->f x t=0
 ev:∀x:ag,x.Perm (rg n)->∀t,f x t≠0->((Iv.inv w:Int)-Iv.inv x-t) % 2=0
def RC{k:Nat}{f:Fn}(h:lX o k=true)(t:Int):Z k f o t=f (Wd.ex o k) t:=by
 unfold Z;rw[aL h,eE]
def TM{k:Nat}{f:Fn}(h:lX o k=false)(t:Int):Z k f o t=f (Wd.ex o k) t+f o (t-1):=by
 unfold Z;rw[h,aK bK]
def Top.congr{n:Nat}{w:ag}{f g:Fn}(h:Top n w f)(pw:w.Perm<|rg n)(e:oA n g f):Top n w g:=
 ⟨λx p b=>by rw[e x p];exact h.at_ x p b,λx p b t d=>by rw[e x p];exact h.up x p b t d,λx p b t=>by rw[e x p];exact h.no x p b t,λt=>by rw[e w pw];exact h.me t,λx p t=>by rw[e x p];exact h.nn x p t,λx p t d=>by rw[e x p];exact h.lo x p t d,λx p t d=>by rw[e x p]at d;exact h.ev x p t d⟩
def Top.step{n k:Nat}{w:ag}{f:Fn}(h:Top n w f)(pw:w.Perm<|rg n)(h0:1<=k)(h1:k<n)(hf:lX w k=false):Top n (Wd.ex w k) (Z k f):=by
 have O:w.length=n:=by rw[pw.length_eq,Wd.i7]
 have U:=Fw.ym pw h0 ();have hf:w.getD (k-1) 0<w.getD k 0:=by have:=dX hf;lia
 have W:=Fw.vp h0 (show k<w.length by lia) hf;have T:(Wd.ex w k).length=n:=by rw[Wd.ku];exact O
 have e1:=Fw.Du h0 (show k<w.length by lia);have e2:=Fw.EW h0 (show k<w.length by lia);have K:Wd.ex (Wd.ex w k) k=w:=Fw.rG h0 ();have C:yR (Wd.ex w k) k:=⟨h0,(),by rw[e1,e2];exact hf⟩;have P:Below w (Wd.ex w k):=by have:=Gr.yT C;rwa [K]at this
 have L:w[k-1]'()<w[k]'():=by
  rw[Eu.ju<|show k<w.length by lia,Eu.ju<|show k-1<w.length by lia]at hf;exact hf
 have J:∀x:ag,x.Perm (rg n)->lX x k=true->(Below x (Wd.ex w k) ↔ Below (Wd.ex x k) w)/\Iv.inv x=Iv.inv (Wd.ex x k)+1:=λx d g=>by
  have N:x.length=n:=by rw[d.length_eq,Wd.i7]
  have g:=bS g;refine⟨⟨λb=>?_,λb=>?_⟩,Fw.nN h0 () g⟩
  ·have:=Eu.Zn () h0 () C.2.2 () b
   rwa [K]at this
  ·have:=Wd.lift (u:=Wd.ex x k) (w:=w) (k:=k) (by rw[Wd.ku];lia) h0 () L b
   rwa [Fw.rG h0 ()]at this
 have F:∀x:ag,x.Perm (rg n)->lX x k=false->(Below x (Wd.ex w k) ↔ Below x w)/\Iv.inv (Wd.ex x k)=Iv.inv x+1/\Below x (Wd.ex x k):=λx d g=>by
  have N:x.length=n:=by rw[d.length_eq,Wd.i7]
  have g:=dX g;have V:=Fw.ym d h0 ();have g:x.getD (k-1) 0<x.getD k 0:=()
  refine⟨⟨λb=>?_,λb=>b.trans P⟩,Fw.vp h0 () g,?_⟩
  ·have:=Eu.low () h0 () C.2.2 () b
   rwa [K]at this
  ·have M:yR (Wd.ex x k) k:=⟨h0,by rw[Wd.ku];lia,by rw[Fw.Du h0 (),Fw.EW h0 ()];exact g⟩;have:=Gr.yT M
   rwa [Fw.rG h0 ()]at this
 have j:∀x:ag,x.Perm (rg n)->(Wd.ex x k).Perm (rg n):=λx d=>lQ d h0 h1;refine⟨λx d b=>?_,λx d b t p=>?_,λx d b t=>?_,λt=>by rw[RC<|aP C.2.2,K];exact h.me t,λx d t=>?_,λx d t p=>?_,λx d t p=>?_⟩
 ·cases g:lX x k with
  | true=>
   obtain⟨m,q⟩:=J x d g;rw[RC g,<- h.at_ _ (j x d) (m.mp b)];congr 1
   lia
  | false=>
   obtain⟨m,q,G⟩:=F x d g;have B:=m.mp b;rw[TM g,show(Iv.inv (Wd.ex w k):Int)-Iv.inv x-1=(Iv.inv w:Int)-Iv.inv x by lia,h.at_ x d B];by_cases c:Below (Wd.ex x k) w
   ·rw[h.up _ (j x d) c _ ()];rfl
   ·rw[h.no _ (j x d) c];rfl
 ·cases g:lX x k with
  | true=>
   obtain⟨m,q⟩:=J x d g;rw[RC g];exact h.up _ (j x d) (m.mp b) _ ()
  | false=>
   obtain⟨m,q,G⟩:=F x d g;have B:=m.mp b;rw[TM g,h.up x d B _ ()];by_cases c:Below (Wd.ex x k) w
   ·rw[h.up _ (j x d) c _ ()];rfl
   ·rw[h.no _ (j x d) c];rfl
 ·cases g:lX x k with
  | true=>
   obtain⟨m,q⟩:=J x d g;rw[RC g];exact h.no _ (j x d) (λz=>b<|m.mpr z) _
  | false=>
   obtain⟨m,q,G⟩:=F x d g;have B:¬Below x w:=λz=>b<|m.mpr z;rw[TM g,h.no x d B,h.no _ (j x d) λz=>B<|G.trans z];rfl
 ·cases g:lX x k with
  | true=>rw[RC g];exact h.nn _ (j x d) t
  | false=>rw[TM g];exact Int.add_nonneg (h.nn _ (j x d) t)<|h.nn x d _
 ·cases g:lX x k with
  | true=>rw[RC g];exact h.lo _ (j x d) t p
  | false=>rw[TM g,h.lo _ (j x d) t p,h.lo x d _ ()];rfl
 ·cases g:lX x k with
  | true=>
   obtain⟨m,q⟩:=J x d g;rw[RC g]at p;have:=h.ev _ (j x d) t p
   lia
  | false=>
   obtain⟨m,q,G⟩:=F x d g;rw[TM g]at p;by_cases c:f (Wd.ex x k) t=0
   ·rw[c,dD]at p;have:=h.ev x d _ p
    lia
   ·have:=h.ev _ (j x d) t c
    lia
def T_(n:Nat):Top n (rg n) (D (rg n) d1):=by
 have k:∀x:ag,x.Perm (rg n)->Below x (rg n)->x=rg n:=λx f b=>by
  obtain⟨m,p⟩:=Fw.Iu _ x<|aQ _;exact Below.antisymm f.length_eq b<|Gr.zW m f p
 have j:∀x t,D (rg n) d1 x t=if x=rg n then(if t=0 then(1:Int)else 0)else 0:=λx t=>rfl
 refine⟨λx f b=>?_,λx f b t g=>?_,λx f b t=>?_,λt=>by rw[j,aL rfl];rfl,λx f t=>?_,λx f t g=>?_,λx f t g=>?_⟩
 ·rw[k x f b,j,aL rfl,Int.sub_self,aL rfl]
 ·rw[k x f b]at g ⊢;rw[j,aL rfl,aK ()]
 ·rw[j,aK λz=>b<|by rw[z];exact Below.refl _]
 ·rw[j];split
  ·split<;>decide
  ·decide
 ·rw[j,aK<|show ¬t=0 by lia];split<;>rfl
 ·rw[j]at g;by_cases c:x=rg n
  ·subst c;rw[aL rfl]at g;by_cases d:t=0
   ·subst d;simp
   ·rw[aK d]at g;exact absurd rfl g
  ·rw[aK c]at g;exact absurd rfl g
def Cf{n:Nat}{o:ag}(po:o.Perm<|rg n):Top n o (rT n o):=by
 refine yU (n:=n) (P:=λo=>Top n o<|rT n o) ((T_ n).congr (nv n)<|T5 n) (λo k po h0 h1 hf h=>?_) _ rfl po;have lo:o.length=n:=by rw[po.length_eq,Wd.i7]
 have:=h.step (lQ po h0 h1) h0 h1 (by rw[BF po h0 h1,hf];rfl);rw[Fw.rG h0 ()]at this;exact this.congr po<|GP po h0 h1 hf
end Hz
namespace Hz
open PySem L2 Bl Am
open Fw (rg yR)
open Su (lX)
open He (Fn oA bk nO yE GH LW N8 G7 lQ GG Va D Pr uG Ce Ge BL Bx nv m9 wm yM m7 CF)
abbrev W (j:Nat)(f:Fn):Fn:=λo t=>f (o.map<|Wd.sw j) t+if lX (bk o) j=true then 0 else f o (t-1)
abbrev fb (f:Fn):Fn:=λo t=>f (bk o) t
abbrev ov (n:Nat)(o:ag):ag:=o.map λv=>(n:Int)+1-v
end Hz
namespace Hz
open PySem L2 Bl Am
open Fw (rg yR)
open Su (lX)
open He (Fn oA lQ nv)
open Po (Pl Ok)
def X9{n:Nat}{w:ag}(pw:w.Perm<|rg n):∀x:ag,x.Perm (rg n)->∀t,rT n w x t<=((2 ^ Iv.inv w:Nat):Int):=by
 refine yU (n:=n) (P:=λw=>∀x:ag,x.Perm (rg n)->∀t,rT n w x t<=((2 ^ Iv.inv w:Nat):Int)) (λx d t=>?_) (λw k pw h0 h1 hf f x d t=>?_) _ rfl pw
 ·rw[T5 n x d t];have:(1:Int)<=((2 ^ Iv.inv (rg n):Nat):Int):=by exact_mod_cast Nat.one_le_two_pow
  show(if x=rg n then(if t=0 then(1:Int)else 0)else 0)<=_;split
  ·split<;>omega
  ·omega
 ·have m:w.length=n:=by rw[pw.length_eq,Wd.i7]
  have j:=Fw.nN h0 (by omega)<|bS hf;rw[GP pw h0 h1 hf x d t,j,Nat.pow_succ];have z:=f _ (lQ d h0 h1) t;have p:=f _ d<|t-1;have q:(0:Int)<=((2 ^ Iv.inv (Wd.ex w k):Nat):Int):=Int.natCast_nonneg _
  cases g:lX x k with
  | true=>rw[RC g];omega
  | false=>rw[TM g];omega
structure IsR (n:Nat)(x w:ag)(l:Pl):Prop where
 ok:Ok l
 cf:∀t,Po.cf l t=rT n w x t
def IsR.eq{n:Nat}{x w:ag}(h:IsR n x w l)(k:IsR n x w m):l=m:=Po.uniq h.ok k.ok λt=>by rw[h.cf,k.cf]
theorem Ga:∀{l:Pl}{p:Int×Int},Ok l->p∈l->Po.cf l p.1=p.2
 | q::l,p,h,hp=>by
  rcases bE.mp hp with z|z
  ·rw[z];exact h.head
  ·have lt:=(bR.mp h.up).1 _ z;show(if q.1=p.1 then q.2 else 0)+Po.cf l p.1=p.2;rw[aK (),dD];exact Ga h.tail z
def IsR.at_{n:Nat}{x w:ag}{l:Pl}(h:IsR n x w l){p:Int×Int}(hp:p∈l):rT n w x p.1=p.2:=by rw[<- h.cf];exact Ga h.ok hp
theorem Jp:∀(l:Pl) (a b:Int),l.Pairwise (λp q=>p.1<q.1)->(∀p∈l,a<=p.1/\p.1<=b)->l≠[]->(l.length:Int)<=b-a+1
 | [],_,_,_,_,h=>absurd rfl h
 | [p],a,b,_,h,_=>by have:=h p<|aM ..;show((1:Nat):Int)<=_;lia
 | p::q::l,a,b,u,h,_=>by
  have d:=bR.mp u;have:=Jp (q::l) (p.1+1) b d.2 (λr f=>⟨by have:=d.1 r f;lia,(h r<|aO _ f).2⟩)<|List.cons_ne_nil _ _;have hp:=h p<|aM ..;rw[bq]
  lia
def IsR.keys{n:Nat}{x w:ag}{l:Pl}(h:IsR n x w l)(px:x.Perm<|rg n)(pw:w.Perm<|rg n){p:Int×Int}(hp:p∈l):0<=p.1/\p.1<=(Iv.inv w:Int)-Iv.inv x/\1<=p.2/\p.2<=((2 ^ Iv.inv w:Nat):Int)/\((Iv.inv w:Int)-Iv.inv x-p.1) % 2=0:=by
 have T:=Cf pw;have e:=h.at_ hp;have nz:rT n w x p.1≠0:=by rw[e];exact h.ok.nz p hp
 have nn:=T.nn x px p.1;have up:=X9 pw x px p.1;refine⟨?_,?_,(),by rw[<- e];exact up,T.ev x px _ nz⟩
 ·by_cases c:p.1<0
  ·exact absurd (T.lo x px _ c) nz
  ·lia
 ·by_cases c:(Iv.inv w:Int)-Iv.inv x<p.1
  ·by_cases b:Below x w
   ·exact absurd (T.up x px b _ c) nz
   ·exact absurd (T.no x px b _) nz
  ·lia
def IsR.len{n:Nat}{x w:ag}{l:Pl}(h:IsR n x w l)(px:x.Perm<|rg n)(pw:w.Perm<|rg n):l.length<=Iv.inv w+1:=by
 cases l with
 | nil=>exact cE _
 | cons p l=>
  have:=Jp (p::l) 0 _ h.ok.up (λq hq=>⟨(h.keys px pw hq).1,(h.keys px pw hq).2.1⟩) (List.cons_ne_nil _ _)
  lia
def FP{n:Nat}{w:ag}(pw:w.Perm<|rg n):IsR n w w [(0,1)]:=by
 refine⟨⟨cV _ _,λp hp=>by rw[bA.mp hp];decide⟩,λt=>?_⟩;rw[(Cf pw).me];show(if (0:Int)=t then(1:Int)else 0)+0=if t=0 then 1 else 0
 by_cases c:t=0
 ·rw[aL c,aL c.symm];rfl
 ·rw[aK c,aK λz=>c z.symm];rfl
def Fi{n:Nat}{x w:ag}(px:x.Perm<|rg n)(pw:w.Perm<|rg n)(h:¬Below x w):IsR n x w []:=⟨⟨List.Pairwise.nil,nofun⟩,λt=>((Cf pw).no x px h t).symm⟩
def TQ{n k:Nat}{x w:ag}(px:x.Perm<|rg n)(pw:w.Perm<|rg n)(h0:1<=k)(h1:k<n)(hf:lX w k=true)(hx:lX x k=true)(h:IsR n (Wd.ex x k) (Wd.ex w k) l):IsR n x w l:=⟨h.ok,λt=>by rw[h.cf,GP pw h0 h1 hf x px t,RC hx]⟩
def TN{n k:Nat}{x w:ag}(px:x.Perm<|rg n)(pw:w.Perm<|rg n)(h0:1<=k)(h1:k<n)(hf:lX w k=true)(hx:lX x k=false)(h:IsR n (Wd.ex x k) (Wd.ex w k) l)(h':IsR n x (Wd.ex w k) m):IsR n x w (Po.xU l<|Po.times [(1,1)] m):=⟨Po.K3 _ _,λt=>by
 rw[Su.Lz,h.cf,GP pw h0 h1 hf x px t,TM hx,<- h'.cf,Su.Nd];congr 1;show Po.cf (m.map (λq=>((1:Int)+q.1,(1:Int) * q.2))++[]) t=_;rw[cJ,Su.Sn,Int.one_mul]⟩
def IsR.last{n:Nat}{x w:ag}(h:IsR n x w l)(px:x.Perm<|rg n)(pw:w.Perm<|rg n)(b:Below x w):∃m,l=m++[((Iv.inv w:Int)-Iv.inv x,1)]:=by
 have T:=Cf pw;have a:=T.at_ x px b;have g:∀(l:Pl) (d:Int),Ok l->(∀p∈l,p.1<=d)->Po.cf l d=1->∃m,l=m++[(d,(1:Int))]:=by
  intro l d j F hc
  rcases List.eq_nil_or_concat l with z|⟨m,p,z⟩
  ·rw[z]at hc;exact absurd hc (show ¬(0:Int)=1 by decide)
  ·rw[List.concat_eq_append]at z;subst z;have hp:p∈m++[p]:=bz _<|bA.mpr rfl;have e:=Ga j hp;by_cases c:p.1=d
   ·refine⟨m,?_⟩;congr 1;rw[c]at e;rw[hc]at e;show[p]=_;rw[show p=(p.1,p.2)from rfl,c,<- e]
   ·exfalso;have B:=j.up;rw[b7]at B;have lo:=F p hp;have:Po.cf (m++[p]) d=0:=by
     rw[Su.qB];have k:∀(q:Pl),(∀r∈q,r.1<d)->Po.cf q d=0:=by
      intro q
      induction q with
      | nil=>intro _;rfl
      | cons r q C=>
       intro f;show(if r.1=d then r.2 else 0)+Po.cf q d=0;rw[aK (by have:=f r<|aM ..;lia),C λs hs=>f s<|aO _ hs];rfl
     rw[k m (λr f=>by have:=B.2.2 r f p<|bA.mpr rfl;lia),k [p] λr f=>by rw[bA.mp f];lia];rfl
    lia
 exact g l _ h.ok (λp hp=>(h.keys px pw hp).2.1)<|by rw[h.cf];exact a
abbrev am (a:ag)(i j:Nat):Nat:=((a.drop<|i+1).take<|j-i-1).countP λm=>decide (a.getD j 0<m) && decide (m<a.getD i 0)
theorem Jy(x y:Int)(hxy:x<y):∀(M:ag),(∀m∈M,m≠x/\m≠y)->M.countP (λm=>decide<|m<y)=M.countP (λm=>decide<|m<x)+M.countP (λm=>decide (x<m) && decide (m<y))/\Iv.j_ M [x]=Iv.j_ M [y]+M.countP (λm=>decide (x<m) && decide (m<y))
 | [],_=>⟨rfl,rfl⟩
 | m::M,h=>by
  obtain⟨e1,e2⟩:=Jy x y hxy M λk d=>h k<|aO _ d;obtain⟨f,g⟩:=h m<|aM ..;rw[cQ,cQ,cQ,Iv.pT,Iv.pT,e1,e2,cQ,cQ,List.countP_nil];by_cases c1:m<x
  ·dsimp[aP c1,aP<|show m<y by lia,aS<|show ¬x<m by lia,aS<|show ¬y<m by lia,gX,bu,cN,bZ];lia
  ·by_cases c2:m<y
   ·dsimp[aS c1,aP c2,aP<|show x<m by lia,aS<|show ¬y<m by lia,Bool.and_self,bu,cN,bZ];lia
   ·dsimp[aS c1,aS c2,aP<|show x<m by lia,aP<|show y<m by lia,iG,bu,cN,bZ];lia
def Zb{M:ag}{x y:Int}(h:∀m∈M,m≠x/\m≠y)(hxy:x<y):Iv.inv ([y]++M++[x])=Iv.inv ([x]++M++[y])+(1+2 * M.countP (λm=>decide (x<m) && decide (m<y))):=by
 obtain⟨d,f⟩:=Jy x y hxy M h;rw[Iv.jx,Iv.jx,Iv.jx<|[x]++M,Iv.jx [x]];have e1:Iv.j_ [y] M=Iv.j_ [x] M+M.countP (λm=>decide (x<m) && decide (m<y)):=by
  show M.countP _+0=M.countP _+0+_;rw[d];lia
 have e2:Iv.j_ ([y]++M) [x]=1+Iv.j_ M [x]:=by
  show[x].countP _+Iv.j_ M [x]=_;rw[cQ,aP hxy];rfl
 have e3:Iv.j_ ([x]++M) [y]=Iv.j_ M [y]:=by
  show[y].countP _+Iv.j_ M [y]=_;rw[cQ,aS (by lia:¬y<x)];simp
 rw[e1,e2,e3,f];show 0+Iv.inv M+_+0+_=0+Iv.inv M+_+0+_+_
 lia
def swN{n:Nat}{a:ag}(pa:a.Perm<|rg n)(hij:i<j)(hj:j<n)(h:a.getD j 0<a.getD i 0):Iv.inv a=Iv.inv (Iv.sw a i j)+(1+2 * am a i j)/\(Iv.sw a i j).Perm (rg n)/\Below (Iv.sw a i j) a:=by
 have F:a.length=n:=by rw[pa.length_eq,Wd.i7]
 have nd:a.Nodup:=pa.nodup_iff.mpr<|lI _ _;have ge:∀k,k<n->a[k]?=some (a.getD k 0):=λk J=>Iv.sL ();have inj:∀k l,k<n->l<n->a.getD k 0=a.getD l 0->k=l:=λk l J K e=>by
  have h1:=ge k J;have h2:=ge l K;rw[e,<- h2]at h1;exact(ie () nd).mp h1
 obtain⟨P,M,R,g,hP,O,es⟩:=Iv.split hij (by lia:j<a.length);have G:P.length=i:=by rw[hP,aW];lia
 have T:(a.drop<|i+1).take (j-i-1)=M:=by
  have l0:P.length+(1+M.length+1)+R.length=n:=by
   have:=dG List.length g;rw[F]at this;simp at this
   lia
  have ml:M.length=j-i-1:=by
   have V:=ge j hj;by_cases c:M.length=j-i-1
   ·exact c
   ·exfalso;have C:a[i+1+M.length]?=some (a.getD j 0):=by
     conv=>lhs;rw[g]
     rw[bD,cM (),G,show i+1+M.length-i=M.length+1 by lia];show((a.getD i 0::(M++[a.getD j 0]))++R)[M.length+1]?=_;rw[fN,eS,bD,cM<|aQ _,eX];rfl
    rw[<- ge j hj]at C;have:=(ie () nd).mp C
    lia
  have L:a.drop (i+1)=(M++[a.getD j 0])++R:=by
   conv=>lhs;rw[g]
   rw[bD,List.drop_append,List.drop_of_length_le (),G,show i+1-i=1 by lia];rfl
  rw[L,bD,List.take_append_of_le_length (),cg ()]
 have B:∀m∈M,m≠a.getD j 0/\m≠a.getD i 0:=λm U=>by
  obtain⟨k,Z,k2,d⟩:=O m U;rw[ge k ()]at d;have d:=aU d;exact⟨λz=>by have:=inj k j () hj (by rw[d,z]);lia,λz=>by have:=inj k i () () (by rw[d,z]);lia⟩
 have N:(Iv.sw a i j).Perm (rg n):=(Stp.Hl hij ()).trans pa;refine⟨?_,N,?_⟩
 ·have p:=Iv.yX M (a.getD j 0)<|a.getD i 0;have e:Iv.inv (P++([a.getD i 0]++M++[a.getD j 0])++R)=Iv.inv (P++([a.getD j 0]++M++[a.getD i 0])++R)+(1+2 * M.countP (λm=>decide (a.getD j 0<m) && decide (m<a.getD i 0))):=by
   rw[Iv.jx,Iv.jx P,Iv.jx<|P++([a.getD j 0]++M++[a.getD i 0]),Iv.jx P,Zb B h,Iv.ID P p,Iv.Gq R<|p.append_left P]
   lia
  rw[<- g,<- es]at e;unfold am;rw[T];exact e
 ·have Y:(Iv.sw a i j).length=n:=by rw[Iv.Cj,F]
  have f:(Iv.sw a i j).getD i 0<(Iv.sw a i j).getD j 0:=by
   rw[Iv.EZ hij (),Iv.EZ hij (),aK (),aL rfl,aL rfl];exact h
  have W:=Stp.Bx hij (show j<a.length by lia);have q:∀b:ag,b.length=n->b.getD i 0<b.getD j 0->Below b (Iv.sw b i j):=λb lb f=>by
   unfold Iv.sw;rw[Eu.ju<|show i<b.length by lia,Eu.ju<|show j<b.length by lia]at f ⊢;exact t8 () () hij f
  have:=q _ Y f
  rwa [W]at this
theorem BQ:∀(l:ag),2 * Iv.inv l<=l.length * (l.length-1)
 | []=>aQ _
 | x::l=>by
  have h1:l.countP (λy=>decide<|y<x)<=l.length:=List.countP_le_length;have h2:=BQ l;show 2 * (l.countP (λy=>decide<|y<x)+Iv.inv l)<=(l.length+1) * l.length
  cases d:l.length with
  | zero=>rw[d]at h1 h2;lia
  | succ m=>
   rw[d]at h1 h2;have:(m+1) * (m+1-1)+2 * (m+1)=(m+1+1) * (m+1):=by
    rw[fX,Nat.add_mul (m+1) 1<|m+1,iH,Nat.mul_add (m+1) m 1];lia
   lia
end Hz
namespace Am
open PySem L2 Bl
abbrev mz:Nat->Int->ag->ag
 | 0,_,ms=>ms
 | _+1,_,[]=>[]
 | x+1,d,m::ms=>(m+d)::mz x d ms
theorem xD:∀(x:Nat) (d:Int) (ms:ag),(mz x d ms).length=ms.length
 | 0,_,_=>rfl
 | _+1,_,[]=>rfl
 | x+1,d,m::ms=>dG (·+1)<|xD x d ms
theorem uI:∀(x:Nat) (d:Int) (ms:ag) (j:Nat),(mz x d ms)[j]?=(ms[j]?).map λm=>if j<x then m+d else m
 | 0,d,ms,j=>by simp[mz]
 | _+1,_,[],j=>by simp[mz]
 | x+1,d,m::ms,0=>by simp[mz]
 | x+1,d,m::ms,j+1=>by
  show(mz x d ms)[j]?=_;rw[uI x d ms j];simp
theorem zP:∀(x:Nat) (d:Int) (ms:ag) (m:Int),ms[x]?=some m->(mz x d ms).set x (m+d)=mz (x+1) d ms
 | 0,d,[],m,h=>by simp at h
 | 0,d,k::ms,m,h=>by simp at h;subst h;rfl
 | x+1,d,[],m,h=>by simp at h
 | x+1,d,k::ms,m,h=>by
  show(k+d)::(mz x d ms).set x (m+d)=(k+d)::mz (x+1) d ms;rw[zP x d ms m<|by simpa using h]
abbrev rO (n:Nat)(xs ys:ag)(t:Nat):ag:=(List.range n).map λ(j:Nat)=>cnt (xs.take t) ((j:Int)+1)-cnt (ys.take t) ((j:Int)+1)
def nR{n:Nat}:(rO n xs ys t).length=n:=by simp[rO]
def rY{n:Nat}{xs ys:ag}{j:Nat}(h:j<n):(rO n xs ys t)[j]?=some (cnt (xs.take t) ((j:Int)+1)-cnt (ys.take t) ((j:Int)+1)):=by
 unfold rO;rw[bh,cI h];rfl
def Rm{n:Nat}:rO n xs ys 0=List.replicate n 0:=by
 unfold rO;refine cA λj=>?_;rw[bh,f6];by_cases d:j<n
 ·rw[cI d,aL d];simp[cnt]
 ·rw[bJ<|by simpa using d,aK d];rfl
def Fg{n:Nat}{xs ys:ag}{t:Nat}(hx:t<xs.length)(hy:t<ys.length):mz ys[t].toNat (-1) (mz xs[t].toNat 1 (rO n xs ys t))=rO n xs ys (t+1):=by
 refine cA λj=>?_;rw[uI,uI];by_cases d:j<n
 ·rw[rY d,rY d,jS hx,jS hy,dj,dj];congr 1;have e1:(j<xs[t].toNat)=((j:Int)+1<=xs[t]):=by apply propext;lia
  have e2:(j<ys[t].toNat)=((j:Int)+1<=ys[t]):=by apply propext;lia
  dsimp[e1,e2];split<;>split<;>lia
 ·rw[bJ<|by rw[nR];lia,bJ<|by rw[nR];lia];rfl
theorem zo:∀{ns:ag},ns≠[]->∃m,maxOf ns=some m
 | [],h=>absurd rfl h
 | [x],_=>⟨x,rfl⟩
 | x::y::ys,_=>by
  obtain⟨m,e⟩:=zo (ns:=y::ys) (by simp);exact⟨if m>x then m else x,by show(maxOf (y::ys)).map _=_;rw[e];rfl⟩
def ME{n:Nat}{ns:ag}(h:iN S n=some (ns.map .int))(h0:ns≠[]):∃m,O4 (.ref n) S=.ok (.int m) S/\m∈ns/\∀a∈ns,a<=m:=by
 obtain⟨m,e⟩:=zo h0;refine⟨m,?_,zx e⟩;show opt (iN S n) _=_;rw[h,jw,ints_map,jw,e,jw]
def W4{S:iQ}{n:Nat}{x:A}{k:Nat}(h:iN S n=some [x])(hk:k<=16777216):yd (.ref n) (.int k) S=.ok (.ref S.length) (S++[.lst<|List.replicate k x]):=by
 show opt (iN S n) _=_;rw[h,jw];have e:(List.replicate k [x]).flatten=List.replicate k x:=by
  induction k with
  | zero=>rfl
  | succ k d=>rw[c6,dH,d ()];rfl
 rw[kM ⟨(),(),by rw[cR,eg];simpa using hk⟩,eg,e]
def DA{xs:ag}{n:Int}(h:xs.Perm<|jt 1<|n+1)(hn:0<=n):(xs.length:Int)=n:=by
 rw[h.length_eq,kO];lia
def Dz{xs:ag}{n x:Int}(h:xs.Perm<|jt 1<|n+1)(hx:x∈xs):1<=x/\x<=n:=by
 have:=jR.mp (h.mem_iff.mp hx)
 lia
end Am
namespace Ti
open PySem L2 Bl
open Wd (ex led)
open Fw (rg Va yR)
inductive Mv:ap->ap->Prop
 | comm (P R:ap) (a b:Nat) (h:a+2<=b\/b+2<=a):Mv (P++a::b::R) (P++b::a::R)
 | braid (P R:ap) (a b:Nat) (h:a+1=b\/b+1=a):Mv (P++a::b::a::R) (P++b::a::b::R)
inductive Con:ap->ap->Prop
 | refl (u:ap):Con u u
 | step {u v w:ap} (h:Con u v) (m:Mv v w):Con u w
end Ti
namespace Rd
open PySem L2
open Ti (Mv Con)
meta abbrev up (v:ap):ag:=v.map λk:Nat=>(k:Int)
theorem zK:∀(N:Nat) (l:ap),l.Nodup->(∀x∈l,x<N)->l.length<=N
 | 0,l,_,h=>by
  cases l with
  | nil=>exact aQ _
  | cons x l=>exact absurd (h x<|aM ..)<|dM _
 | N+1,l,hn,h=>by
  by_cases c:N∈l
  ·have h1:=zK N (l.erase N) (hn.erase N) λx d=>by
    have h1:=(List.Nodup.mem_erase_iff hn).mp d;have:=h x h1.2;have:=h1.1
    lia
   have:=List.length_erase_of_mem c;have:=eZ c
   lia
  ·have:=zK N l hn λx d=>by
    have:=h x d;have:x≠N:=λz=>c (z ▸ d)
    lia
   lia
abbrev code:ap->Nat
 | []=>0
 | a::r=>(a-1)+8 * code r
abbrev aaO (L:Nat)(w:ap):Prop:=w.length=L/\∀k∈w,1<=k/\k<=8
meta abbrev En:=ap×Option (ap)
structure Bf (s:ap)(es:List En)(done:Nat):Prop where
 nd:(es.map (·.1)).Nodup
 hd:es[0]?=some (s,none)
 pr:∀i w q,es[i]?=some (w,q)->(i=0/\q=none)\/∃j r u,j<i/\es[j]?=some (u,r)/\q=some u/\Mv u w
 co:∀w∈es.map (·.1),Con s w
 cl:∀i w q,i<done->es[i]?=some (w,q)->∀w',Mv w w'->w'∈es.map (·.1)
 le:done<=es.length
end Rd
namespace K33
open PySem L2 Am
abbrev yk (S:iQ)(b:Nat):Prop:=∃g st:Int,iN S b=some [.int g,.int st]/\0<=g/\0<=st/\st<4294967296
def yk.kp{c:Nat->Prop}(h:yk S b)(k:Kp c S S')(hb:¬c b):yk S' b:=by
 obtain⟨g,st,e,q⟩:=h;exact⟨g,st,k.lst b _ hb e,q⟩
def yk.lt{S:iQ}(h:yk S b):b<S.length:=by obtain⟨_,_,e,_⟩:=h;exact t9 e
def QX{S:iQ}{ns:ag}{k:Int}(h0:0<=k)(h1:k<=100):∃S',sd [.frz<|ns.map .int,.int k] S=.ok (.ref S.length) S'/\yk S' S.length/\mO S S':=by
 have e3:QB (.int 10) (.int 18)=λS=>R.ok (.int 1000000000000000000) S:=by
  funext S;exact kM ⟨by decide,by decide,by decide⟩
 have p:∀x:Int,CA (.int x) (.int 2147483647)=λS=>R.ok (.int<|x % 2147483647) S:=λx=>by funext S;exact D7 ⋯
 have m:∀x:Int,yd (.int 7919) (.int x)=λS=>R.ok (.int<|7919 * x) S:=λx=>by funext S;exact Jx ⋯ ⋯
 have q:∀x:Int,0<=x % 2147483647:=λx=>gQ _ ⋯;have f:∀x:Int,x % 2147483647<4294967296:=λx=>by have:=fY x (show(0:Int)<2147483647 by decide);lia
 have g:∀d:Int,∃S',((RS.seq (.nx [A.frz<|ns.map .int,.int k,.int d,.unb] S) (jn (jD (eC<|.int 0)<|jC 3)
  (jn (vd (ni<|iR YS (iK 2)<|iR QB (eC<|.int 10)<|eC<|.int 18) (jD (iK 2)<|jC 3)<|nh)
  (jN<|rP<|iL (iK 3)<|iL (iR CA (iR jE (iR jE (iK 2)<|iR yd (eC<|.int 7919)<|iK 1)<|eC<|.int 13)<|eC<|.int 2147483647)<|iW)))).end=.ok (.ref S.length) S')/\yk S' S.length/\mO S S':=by
  intro d;by_cases hc:1000000000000000000<=d
  ·dsimp[jf,bools,e3,p,m,aP hc];exact⟨_,rfl,⟨_,_,jb,(),q _,f _⟩,Kp.refl.lay⟩
  ·dsimp[jf,bools,e3,p,m,aS hc];exact⟨_,rfl,⟨_,_,jb,dP 0,q _,f _⟩,Kp.refl.lay⟩
 unfold sd xN xw;dsimp[jf,bools,jP,Nat.reduceAdd,Nat.reduceSub,aH];by_cases j:k<(ns.length:Int)
 ·have hn:k.toNat<ns.length:=()
  have z:om (ns.map A.int) k=some (.int ns[k.toNat]):=uR (k:=k.toNat) ()<|aG hn;rw[aP j];dsimp[jf,bools,z];have:=g ns[k.toNat];simpa only [jf,bools]using this
 ·rw[aS j];dsimp[jf,bools];have:=g 0;simpa only [jf,bools]using this
def digit{m:Int}(h:yk S b)(h1:1<=m)(h2:m<1073741824):∃d S',jh [.ref b,.int m] S=.ok (.int d) S'/\0<=d/\d<m/\yk S' b/\Kp (·=b) S S':=by
 obtain⟨g,st,p,hg,hs,q⟩:=h;have z:=t9 p;have i0:C_ 2 0=some 0:=yS rfl ⋯;have G:C_ 2 1=some 1:=yS rfl ⋯;have fin:∀d k f:Int,0<=d->d<m->0<=k->0<=f->f<4294967296->jh [.ref b,.int m] S=.ok (.int d) (S.set b<|.lst [.int k,.int f])->∃d S',jh [.ref b,.int m] S=.ok (.int d) S'/\0<=d/\d<m/\yk S' b/\Kp (·=b) S S':=
  λd k f C F B J K e=>⟨d,_,e,C,F,⟨k,f,qh z,B,J,K⟩,Kp.refl.set<|.inl rfl⟩
 by_cases j:0<g
 ·refine fin (g % m) (g / m) st (gQ _ ()) (fY _ ()) (Int.ediv_nonneg hg ()) hs q ?_;unfold jh qi qk;rw[yq];simp[p,AR,LV,j,D7<|show 0<m by lia,OI (show 0<m by lia) h2,i0]
 ·have e1:0<=(st * 48271+11) % 2147483647:=gQ _ ⋯;have e2:(st * 48271+11) % 2147483647<2147483647:=fY _ ⋯;have e3:0<=(st * 48271+11) % 2147483647 / 8:=()
  refine fin ((st * 48271+11) % 2147483647 / 8 * 69621 % 2147483629 % m) g ((st * 48271+11) % 2147483647) (gQ _ ()) (fY _ ()) hg e1 () ?_;unfold jh qi qk;rw[yq];simp[p,AR,LV,j,G,Jx (show -18446744073709551616<st by lia) (),D7<|show(0:Int)<2147483647 by decide,qh z,OI (show(0:Int)<8 by decide) ⋯,Jx (show -18446744073709551616<(st * 48271+11) % 2147483647 / 8 by lia) (),D7<|show(0:Int)<2147483629 by decide,D7<|show 0<m by lia]
open Po (Pl Ok Bd)
def Ma{S:iQ}{d:Nat}{D:Pl}(hd:jY S d=some (Po.iv D))(hl:D.length<=16777216):∃S',jQ [.ref d] S=.ok (.ref<|S.length+1) S'/\iN S' (S.length+1)=some (Po.pl<|Po.Fl D)/\mO S S':=by
 obtain⟨S',e,h1,h2⟩:=O9 hd hl;refine⟨S',?_,h1,h2⟩;unfold jQ oQ oG;dsimp[jf,bools,jP,Nat.reduceAdd,Nat.reduceSub];rw[show jM [none,some 0] _ _ _ _ _ _=_ from e];rfl
def Sf{S:iQ}{n:Nat}{a b:Pl}(hn:iN S n=some (Po.pl a))(hm:iN S m=some (Po.pl b))(ha:Ok a)(hl:a.length+b.length<16777216) :
  ∃(L:Nat) (S':iQ),An [.ref n,.ref m] S=.ok (.ref L) S'/\iN S' L=some (Po.pl<|Po.xU a b)/\S.length<=L/\mO S S':=by
 have g:jY (S++[.nV<|Po.iv a]) S.length=some (Po.iv a):=B3;obtain⟨k,j,T,e,f,kp⟩:=HP (S:=S++[.nV<|Po.iv a]) (S1:=S++[.nV<|Po.iv a]) (x0:=.ref n) (x1:=.ref m) (x3:=.unb) (x4:=.unb) (src:=vW) (l:=b) (show vW _ _=_ from sj (by dsimp[jf,bools])<|jB hm) (jB hm) g hl;have ln:=Po.oz b a;obtain⟨S',e2,h1,h2⟩:=Ma f ();have d:mO S T:=(Kp.refl.lay (o:=.nV<|Po.iv a)).old kp λq hq _ z=>()
 refine⟨T.length+1,S',?_,by rw[h1,<- Po.Qp ha];rfl,by have:=d.len;lia,d.trans h2⟩;unfold An FZ Gb;dsimp[jf,bools,jP,Nat.reduceAdd,Nat.reduceSub,Kv,hn,Po.TL,Po.P5,Po.Qo ha];rw[show kN vW _ Ed _ _=_ from e];dsimp[jf,bools,e2]
def JP(f:Int×Int->A)(hf:∀p τ S,VO (f p) τ S=VO (Po.pA p) τ S){S:iQ}{n:Nat}{a b:Pl}(hn:iN S n=some (a.map f))(hm:iN S m=some (Po.pl b))(hl:a.length * b.length<16777216)(ha:∀p∈a,p.2.natAbs<big)(hb:∀p∈b,p.2.natAbs<big) :
  ∃(L:Nat) (S':iQ),uF [.ref n,.ref m] S=.ok (.ref L) S'/\iN S' L=some (Po.pl<|Po.times a b)/\S.length<=L/\mO S S':=by
 have j:jY (S++[.nV []]) S.length=some []:=B3;obtain⟨F,k,B,C,T,e,g,kp⟩:=zg f hf (S:=S++[.nV []]) (x3:=.unb) (x4:=.unb) (x5:=.unb) (x6:=.unb) (jB hn) (jB hm) j hl ha hb;have ln:=Po.oz (Po.E9 a b) [];rw[Po.yF,b8,dh]at ln;obtain⟨S',e2,h1,h2⟩:=Ma g ();have d:mO S T:=(Kp.refl.lay (o:=.nV [])).old kp λq hq _ z=>()
 refine⟨T.length+1,S',?_,h1,by have:=d.len;lia,d.trans h2⟩;unfold uF Ct BS;dsimp[jf,bools,jP,Nat.reduceAdd,Nat.reduceSub,xx];rw[show kN BB _ A6 _ _=_ from e];dsimp[jf,bools,e2]
def Oq{S:iQ}{n:Nat}{a b:Pl}(hn:iN S n=some (Po.pl a))(hm:iN S m=some (Po.pl b))(hl:a.length * b.length<16777216)(ha:∀p∈a,p.2.natAbs<big)(hb:∀p∈b,p.2.natAbs<big) :
  ∃(L:Nat) (S':iQ),uF [.ref n,.ref m] S=.ok (.ref L) S'/\iN S' L=some (Po.pl<|Po.times a b)/\S.length<=L/\mO S S':=JP Po.pA (λ_ _ _=>rfl) hn hm hl ha hb
def KA{l:ag}{k:Nat}{i:Int}(h:i=k)(hk:k<l.length):om (l.map A.int) i=some (.int<|l.getD k 0):=uR h<|by rw[aJ,aG hk];rfl
def QY{l:ag}{k:Nat}:((l.map A.int).set (k-1)<|.int<|l.getD k 0).set k (.int<|l.getD (k-1) 0)=(Wd.ex l k).map A.int:=by
 unfold Wd.ex;rw[gW,gW]
def Yd{f g:A->A->iQ->R A}{ca cb cc:Ex}{a c:A}(h1:ca τ S=.ok a S)(h2:cb τ S=.ok b S)(h3:f a b S=.ok (.bl true) S)(h4:cc τ S=.ok c S):O0 f g ca cb cc τ S=g b c S:=by
 unfold O0;rw[h1,R.kZ,h2,R.kZ,h3,R.kZ];unfold kCh;show(cc τ S).bind _=_;rw[h4];rfl
def Z4{f g:A->A->iQ->R A}{ca cb cc:Ex}{a:A}(h1:ca τ S=.ok a S)(h2:cb τ S=.ok b S)(h3:f a b S=.ok (.bl false) S):O0 f g ca cb cc τ S=.ok (.bl false) S:=by
 unfold O0;rw[h1,R.kZ,h2,R.kZ,h3,R.kZ];rfl
def Vk{i:Int}:pG [.int i] S=.ok (.bl true) S:=by
 unfold pG vD vh;dsimp[jf,bools,jP,Nat.reduceAdd,Nat.reduceSub,show Ay .int "int" = some true from rfl,show Ay .int "bool" = some false from rfl,di]
def Zz{n k:Int}(h1:1<=k)(h2:k<n):mw [.int n,.int k] S=.ok (.bl true) S:=by
 unfold mw qT qX;have c:O0 Wt Av (eC<|.int 1) (iK 1) (iK 0) [.int n,.int k] S=.ok (.bl true) S:=by
  rw[Yd (a:=.int 1) (b:=.int k) (c:=.int n) rfl rfl (by dsimp[jf,aP h1]) rfl];dsimp[jf,aP h2]
 dsimp[jf,bools,jP,Nat.reduceAdd,Nat.reduceSub,Vk,c]
def GA{xs:ag}{k:Nat}(h1:1<=k)(h2:k<xs.length)(hl:xs.length<=1000):∃S',ng [.tup<|xs.map .int,.int k] S=.ok (.tup<|(Wd.ex xs k).map .int) S'/\mO S S':=by
 have e1:=Zz (S:=S) (n:=(xs.length:Int)) (k:=(k:Int)) () ();have j:om (xs.map A.int) (k:Int)=some (.int<|xs.getD k 0):=KA rfl ();have f:om (xs.map A.int) ((k:Int)-1)=some (.int<|xs.getD (k-1) 0):=KA (k:=k-1) () ();have p:C_ xs.length ((k:Int)-1)=some (k-1):=yS () ();have m:C_ xs.length (k:Int)=some k:=yS rfl ();have g:iN (S++[O.lst<|xs.map .int]) S.length=some (xs.map .int):=jb;have d:∀ys,iN ((S++[O.lst<|xs.map .int]).set S.length<|.lst ys) S.length=some ys:=λys=>qh (by simp);have e2:j0 [.tup<|xs.map .int,.int k,.int<|(k:Int)+1] S=.ok (.tup<|(Wd.ex xs k).map .int) (((S++[O.lst<|xs.map .int]).set S.length<|.lst<|(xs.map A.int).set (k-1)<|.int<|xs.getD k 0).set S.length<|.lst<|(Wd.ex xs k).map .int):=by
  unfold j0 mR mV;dsimp[jf,bools,jP,Nat.reduceAdd,Nat.reduceSub,g,show(k:Int)+1-1=k by lia,j,f,kM<|show 2<=sizeLine by decide,kM<|show 2=2 from rfl,aH,p,d,bV,m,QY];rw[qh<|by simp];dsimp[jf,bools]
 unfold ng ur tU;dsimp[jf,lg,bools,jP,Nat.reduceAdd,Nat.reduceSub,aH,e1,bW,e2];exact⟨_,rfl,((Kp.refl.lay).set<|.inr<|aQ _).set<|.inr<|aQ _⟩
def WE{xs:ag}{i:Int}(h1:0<=i)(h2:i<xs.length):om (xs.map A.int) i=some (.int<|xs.getD i.toNat 0):=KA (k:=i.toNat) () ()
abbrev fl (xs:ag)(n:Nat):ag:=(jt 1 (n:Int)).filter λk=>decide<|xs.getD (k-1).toNat 0>xs.getD k.toNat 0
def Dw{S:iQ}{n:Nat}{xs:ag}(hlen:xs.length=n)(h2:n<=20):uL [.tup<|xs.map .int] S=.ok (.ref S.length) (S++[.lst<|(fl xs n).map .int]):=by
 have d:=vU (lo:=1) (hi:=(n:Int)) (cap:=[some 0]) (src:=oZ (eC<|.int 1)<|jc (f1 kH)<|iL (iK 0)<|iW) (t:=ni<|iR A7 (iR mh (iK 1)<|iR aSub (iK 0)<|eC<|.int 1)<|iR mh (iK 1)<|iK 0) (e:=iK 0) (τ:=[.tup<|xs.map .int]) (S:=S) (S1:=S)
  (rE (S1:=S) (by dsimp[jf,bools]) (by dsimp[jf,bools,aH,hlen]) (jZ () ())<|jZ () ())
  (λk=>decide<|xs.getD (k-1).toNat 0>xs.getD k.toNat 0) (λk=>.int k) (λk h1 h2=>by
   have g:om (xs.map A.int) (k-1)=some (.int<|xs.getD (k-1).toNat 0):=WE () ();have f:om (xs.map A.int) k=some (.int<|xs.getD k.toNat 0):=WE () ();dsimp[jf,bools,g,f]) (λk _ _ _=>by dsimp[jf,bools]) ()
 unfold uL CJ CW;dsimp[jf,bools,jP,Nat.reduceAdd,Nat.reduceSub,d];rfl
theorem G6{t:Int}:∀(p:ag),Xb S (.int t) (p.map .int)=some (decide<|t∈p)
 | []=>rfl
 | x::p=>by
  show(wW S 12 (.int x)<|.int t).bind (λa=>(Xb S (.int t)<|p.map .int).map λb=>a || b)=_;rw[G6 p];show some ((x == t) || decide (t∈p))=_;by_cases c:x=t
  ·subst c;rw[bI,aP (show x∈x::p from aM ..)];rfl
  ·rw[cG.mpr c];congr 1;rw[gG,gE];constructor
   ·exact λz=>aO _ z
   ·intro z
    rcases bE.mp z with z|z
    ·exact absurd z.symm c
    ·exact z
abbrev prs (n:Int):ae:=(jt 1 n).flatMap λi=>(jt (i+1)<|n+1).map λj=>.tup [.int i,.int j]
def Rw{n:Int}{x:A}:x∈prs n ↔ ∃i j:Int,1<=i/\i<j/\j<=n/\x=.tup [.int i,.int j]:=by
 unfold prs;rw[List.mem_flatMap];constructor
 ·rintro⟨i,hi,f⟩;obtain⟨j,d,rfl⟩:=bY.mp f;rw[jR]at hi d;exact⟨i,j,(),(),(),rfl⟩
 ·rintro⟨i,j,h1,h2,h3,rfl⟩;exact⟨i,jR.mpr ⟨h1,()⟩,bY.mpr ⟨j,jR.mpr ⟨(),()⟩,rfl⟩⟩
theorem DY{α β:Type}{f:α->List β}{B:Nat}:∀(l:List α),(∀x∈l,(f x).length<=B)->(l.flatMap f).length<=l.length * B
 | [],_=>cE _
 | x::l,h=>by
  rw[fG,aY,bq,Nat.add_mul,iH];have:=DY l λy hy=>h y<|aO _ hy;have:=h x (aM ..)
  lia
def HW{n:Int}(h0:0<=n)(h1:n<=1000):(prs n).length<=16777216:=by
 have:=DY (B:=1000) (f:=λi=>(jt (i+1)<|n+1).map λj=>A.tup [.int i,.int j]) (jt 1 n) λx d=>by
  rw[jR]at d;rw[aH,kO];lia
 rw[kO]at this;have h2:(n-1).toNat * 1000<=1000 * 1000:=fL _ ();unfold prs
 lia
theorem TH{i n lo hi:Int}:∀(k t:Nat) (x1:A),k+t=(hi-lo).toNat->∃x1',qE (j5 lo hi) (jC 1) uY (oU<|iL (iK 0)<|iL (iK 1)<|iW) k t [.int i,x1,.int n] S=.ok ((List.range' t k).map λq:Nat=>A.tup [.int i,.int<|lo+q],[.int i,x1',.int n]) S
 | 0,t,x1,_=>⟨x1,rfl⟩
 | k+1,t,x1,h=>by
  obtain⟨x1',e⟩:=TH (S:=S) (i:=i) (n:=n) (lo:=lo) (hi:=hi) k (t+1) (.int<|lo+t) ();refine⟨x1',?_⟩;unfold qE;have hg:(j5 lo hi).get t S=some (.int<|lo+t):=aL ();dsimp[jf,bools,hg,zb<|show([_,_]:ae).length<=16777216 by simp,e,fO,bM]
theorem Pz{n:Int}(h0:0<=n)(h1:n<=1000):∀(k t:Nat) (x0 x1:A),k+t=(n-1).toNat->pD (j5 1 n) (jC 0) uY (oZ (iR jE (iK 0)<|eC<|.int 1)<|iR jE (iK 2)<|eC<|.int 1) (jC 1) uY (oU<|iL (iK 0)<|iL (iK 1)<|iW) k t [x0,x1,.int n] S=.ok ((List.range' t k).flatMap λq:Nat=>(jt (1+q+1)<|n+1).map λj=>A.tup [.int<|1+q,.int j]) S
 | 0,t,x0,x1,_=>rfl
 | k+1,t,x0,x1,h=>by
  have hg:(j5 1 n).get t S=some (.int<|1+t):=aL ();obtain⟨d,e⟩:=TH (S:=S) (i:=1+t) (n:=n) (lo:=1+t+1) (hi:=n+1) (j5 (1+t+1)<|n+1).k 0 x1 rfl;have f:((List.range' 0 (j5 (1+(t:Int)+1)<|n+1).k).map λq:Nat=>A.tup [.int<|1+t,.int<|1+t+1+q])=(jt (1+t+1)<|n+1).map λj=>A.tup [.int<|1+t,.int j]:=by
   unfold jt;rw[cj,cW];rfl
  rw[f]at e;have e2:=Pz (S:=S) h0 h1 k (t+1) (.int<|1+t) d ();have hs:oZ (iR jE (iK 0)<|eC<|.int 1) (iR jE (iK 2)<|eC<|.int 1) [.int<|1+t,x1,.int n] S=.ok (j5 (1+t+1)<|n+1) S:=
   rE (S1:=S) (by dsimp[jf,bools]) (by dsimp[jf,bools]) (jZ () ()) (jZ () ())
  unfold pD;dsimp[jf,bools,hg,hs,e,e2,fO,fG]
def LH{S:iQ}{n:Int}(h0:0<=n)(h1:n<=1000):kU [.int n] S=.ok (.ref S.length) (S++[.lst<|prs n]):=by
 have hs:oZ (eC<|.int 1) (iK 0) [.int n] S=.ok (j5 1 n) S:=rE (S1:=S) (by dsimp[jf,bools]) (by dsimp[jf,bools]) (jZ () ())<|jZ () ();have e:=Pz (S:=S) h0 h1 (j5 1 n).k 0 .unb .unb rfl;have hp:((List.range' 0 (j5 1 n).k).flatMap λq:Nat=>(jt (1+q+1)<|n+1).map λj=>A.tup [.int<|1+q,.int j])=prs n:=by
  unfold prs jt;rw[List.flatMap_map,<- cW];rfl
 rw[hp]at e;unfold kU rj rf F_;dsimp[jf,bools,jP,Nat.reduceAdd,Nat.reduceSub,hs,e,ko<|HW h0 h1]
abbrev wg (xs:ag)(q:A):Bool:=match q with
 | .tup [.int i,.int j]=>decide (xs.getD (i-1).toNat 0>xs.getD (j-1).toNat 0)
 | _=>false
def Xy{S:iQ}{n:Nat}{xs:ag}(hlen:xs.length=n)(h2:n<=20) :
  ∃(P:Nat) (S':iQ),mD [.tup<|xs.map .int] S=.ok (.ref P) S'/\iN S' P=some ((prs n).filter<|wg xs)/\mO S S'/\S.length<=P:=by
 have eq:=LH (S:=S) (n:=(n:Int)) () ();have j:iN (S++[O.lst<|prs n]) S.length=some (prs n):=jb;obtain⟨S',p,g2⟩:=vQ (s:=oF S.length (prs n).length) (g:=A2 2<|sJ (jC 0)<|sJ (jC 1)<|AU) (t:=ni<|iR A7 (iR mh (iK 2)<|iR aSub (iK 0)<|eC<|.int 1)<|iR mh (iK 2)<|iR aSub (iK 1)<|eC<|.int 1) (e:=oU<|iL (iK 0)<|iL (iK 1)<|iW)
  (P:=λS1=>S1=S++[O.lst<|prs n]) (T:=λd=>∃y z,d=[y,z,.tup<|xs.map .int])
  (λi=>(prs n).getD i .unb) (λi=>wg xs<|(prs n).getD i .unb) (λi=>(prs n).getD i .unb)
  (λi S1 hi k=>by
   have hi:i<(prs n).length:=hi;show(iN S1 S.length).bind _=_;rw[k,j,dB,aJ,aG hi];rfl)
  (λS1 k=>by
   show(match iN S1 S.length with
    | some ys=>decide (ys.length<=(prs n).length)
    | none=>false)=true
   rw[k,j];simp)
  (λi d S1 hi ⟨y,z,hy⟩ k=>by
   have hi:i<(prs n).length:=hi;subst hy k;have F:(prs n).getD i .unb∈prs n:=by rw[aJ,aG hi];exact dU hi
   obtain⟨a,c,K,M,L,f⟩:=Rw.mp F;rw[f];have B:om (xs.map A.int) (a-1)=some (.int<|xs.getD (a-1).toNat 0):=WE () ();have G:om (xs.map A.int) (c-1)=some (.int<|xs.getD (c-1).toNat 0):=WE () ();refine⟨[.int a,.int c,.tup<|xs.map .int],S++[O.lst<|prs n],S++[O.lst<|prs n],by dsimp[jf,bools,kM<|show([_,_]:ae).length=2 from rfl],by dsimp[jf,bools,B,G];rfl,⟨_,_,rfl⟩,λ_=>rfl,λ_=>⟨_,by dsimp[jf,bools,zb<|show([_,_]:ae).length<=16777216 by simp],rfl⟩⟩)
  (prs n).length 0 (l9 [none,none,some 0] [.tup<|xs.map .int]) (S++[O.lst<|prs n]) rfl ⟨_,_,rfl⟩ rfl
 subst g2;have m:=nP (prs n) (wg xs) (λq=>q) .unb;rw[cW,map_id']at m;rw[m]at p;have J:=HW (n:=(n:Int)) () ();refine⟨_,(S++[O.lst<|prs n])++[.lst<|(prs n).filter<|wg xs],?_,jb,Kp.refl.lay.lay,by rw[aY];lia⟩;have C:jM [none,none,some 0] (mq<|eFn kU<|iL (jc (f1 kH)<|iL (iK 0)<|iW)<|iW) (A2 2<|sJ (jC 0)<|sJ (jC 1)<|AU) (ni<|iR A7 (iR mh (iK 2)<|iR aSub (iK 0)<|eC<|.int 1)<|iR mh (iK 2)<|iR aSub (iK 1)<|eC<|.int 1) (oU<|iL (iK 0)<|iL (iK 1)<|iW) [.tup<|xs.map .int] S=.ok (.ref (S++[O.lst<|prs n]).length) ((S++[O.lst<|prs n])++[.lst<|(prs n).filter<|wg xs]):=by
  unfold jM;rw[sj (S1:=S++[O.lst<|prs n]) (by dsimp[jf,bools,aH,hlen,eq]) j,R.kZ];show R.mY (l_ (oF S.length (prs n).length) _ _ _ (prs n).length 0 _ _) _=_;rw[p,R.kF,ko<|bP (fy _ _) J]
 unfold mD qG qP;dsimp[jf,bools,jP,Nat.reduceAdd,Nat.reduceSub,C]
def U5{n:Nat}{xs:ag}(hlen:xs.length=n)(h2:n<=20):∃S',pR [.tup<|xs.map .int] S=.ok (.int (((prs n).filter<|wg xs).length:Int)) S'/\mO S S':=by
 obtain⟨P,S1,e1,f,d,_⟩:=Xy (S:=S) hlen h2;unfold pR Ah zJ;dsimp[jf,bools,jP,Nat.reduceAdd,Nat.reduceSub,e1,f];exact⟨_,rfl,d⟩
abbrev EO (i hi:Int):ae:=(jt (i+1) hi).map λj=>.tup [.int i,.int j]
def Lk(n:Nat):prs n=(jt 1 (n:Int)).flatMap λi=>EO i ((n:Int)+1):=rfl
open Bl
def LS{xs:ag}{i:Nat}(h:i<=xs.length):(jt ((i:Int)+1)<|(xs.length:Int)+1).map (λj=>xs.getD (j-1).toNat 0)=xs.drop i:=by
 apply cA;intro p;rw[bh,dz];by_cases c:i+p<xs.length
 ·have:(jt ((i:Int)+1)<|(xs.length:Int)+1)[p]?=some ((i:Int)+1+p):=by
   unfold jt;rw[bh,cI ()];rfl
  rw[this];show some (xs.getD ((i:Int)+1+p-1).toNat 0)=_;rw[show((i:Int)+1+p-1).toNat=i+p by lia,<- Iv.sL c]
 ·rw[bJ<|by rw[kO];lia,bJ ()];rfl
def RQ{xs:ag}{i:Nat}(h:i<xs.length):((EO ((i:Int)+1)<|(xs.length:Int)+1).filter<|wg xs).length=(xs.drop<|i+1).countP λy=>decide (y<xs.getD i 0):=by
 rw[<- LS (xs:=xs) (i:=i+1) (),List.countP_map,<- gR];unfold EO;rw[List.countP_map,show(((i+1:Nat):Int))=(i:Int)+1 by lia];refine List.countP_congr λj _=>?_;show wg xs (.tup [.int<|(i:Int)+1,.int j])=true ↔ decide (xs.getD (j-1).toNat 0<xs.getD i 0)=true;show decide (xs.getD ((i:Int)+1-1).toNat 0>xs.getD (j-1).toNat 0)=true ↔ _;rw[show((i:Int)+1-1).toNat=i by lia]
theorem EE{xs:ag}:∀(k i:Nat),i+k=xs.length->(((List.range' i k).flatMap λq:Nat=>EO ((q:Int)+1)<|(xs.length:Int)+1).filter<|wg xs).length=Iv.inv (xs.drop i)
 | 0,i,h=>by rw[List.drop_of_length_le ()];rfl
 | k+1,i,h=>by
  have hi:i<xs.length:=()
  rw[fO,fG,List.filter_append,aY,RQ hi,EE k (i+1) ()];have:xs.drop i=xs.getD i 0::xs.drop (i+1):=by
   rw[b9 hi];congr 1;have:=Iv.sL hi;rw[aG hi]at this;exact aU this
  rw[this];rfl
def UM{xs:ag}{n:Nat}(hl:xs.length=n)(h1:1<=n):((prs n).filter<|wg xs).length=Iv.inv xs:=by
 have h:=EE (xs:=xs) n 0 ();rw[g7]at h;rw[<- h,Lk,hl];have e:(jt 1 (n:Int)).flatMap (λi=>EO i<|(n:Int)+1)=(List.range' 0 n).flatMap λq:Nat=>EO ((q:Int)+1) ((n:Int)+1):=by
  obtain⟨m,rfl⟩:∃m,n=m+1:=⟨n-1,()⟩;rw[List.range'_concat,List.flatMap_append];have z:EO (((0+1 * m:Nat):Int)+1) (((m+1:Nat):Int)+1)=[]:=by
   unfold EO jt;rw[show(((m+1:Nat):Int)+1-((((0+1 * m:Nat):Int)+1)+1)).toNat=0 by lia];rfl
  rw[fG,z];unfold jt;rw[show(((m+1:Nat):Int)-1).toNat=m by lia,List.flatMap_map,cW];dsimp[List.flatMap_nil,cJ];congr 1
  funext q
  rw[Int.add_comm]
 rw[e]
end K33
namespace K33
open PySem L2 Am
open Bl
def wU{xs ys:ag}(h:xs.length=ys.length):lN [.tup<|xs.map .int,.tup<|ys.map .int] S=.ok .non S:=by
 unfold lN tZ ug;dsimp[jf,bools,jP,Nat.reduceAdd,Nat.reduceSub,aH,h,bI,bW]
def Lo{L:Nat}{ms:ag}(hL:iN S L=some (ms.map .int))(hp:∃m∈ms,0<m)(hms:ms.length<=1000):∃j:Nat,jK [.ref L] S=.ok (.int<|(j:Int)+1) S/\(∃m,ms[j]?=some m/\0<m)/\∀(k:Nat) (m:Int),k<j->ms[k]?=some m->m<=0:=by
 unfold jK lD lH;dsimp[jf,bools,jP,Nat.reduceAdd,Nat.reduceSub];refine ux (λτ q=>q=S/\∃p:Nat,p<ms.length/\τ=[.ref L,.int<|(p:Int)+1]/\∀(k:Nat) (m:Int),k<p->ms[k]?=some m->m<=0)
  (λτ _=>match τ with
   | [_,.int i]=>(ms.length+1)-i.toNat
   | _=>0)
  (λr=>∃j:Nat,RS.end (RS.seq r _)=.ok (.int<|(j:Int)+1) S/\(∃m,ms[j]?=some m/\0<m)/\∀(k:Nat) (m:Int),k<j->ms[k]?=some m->m<=0) ?_ 1000000 _ _ ⟨rfl,0,?_,rfl,λk m B=>absurd B<|dM _⟩ ?_
 ·rintro τ q ⟨rfl,p,g,rfl,d⟩;have G:om (ms.map A.int) ((p:Int)+1-1)=some (.int ms[p]):=uR (k:=p) ()<|aG g;unfold nB nF;dsimp[jf,bools,hL,G];by_cases h0:ms[p]<=0
  ·right;refine⟨q,by rw[aP h0],.inl ⟨_,_,rfl,⟨rfl,p+1,?_,dG (λz=>[A.ref L,A.int z]) (),λk m B f=>?_⟩,?_⟩⟩
   ·obtain⟨m,f,F⟩:=hp;obtain⟨k,B,e⟩:=eB.mp f;have:¬k<=p:=λC=>by
     rcases iC k p with h|h
     ·have:=d k m h (by rw[aG B,e])
      lia
     ·have:k=p:=()
      subst this
      lia
    lia
   ·rcases iC k p with h|h
    ·exact d k m h f
    ·have:k=p:=()
     subst this;rw[aG g]at f
     cases f
     exact h0
   ·show ms.length+1-((p:Int)+1+1).toNat<ms.length+1-((p:Int)+1).toNat
    lia
  ·left;refine⟨q,by rw[aS h0],p,by dsimp[jf,bools],⟨ms[p],aG g,()⟩,d⟩
 ·obtain⟨m,f,_⟩:=hp;exact eZ f
 ·show ms.length+1-(1:Int).toNat<1000000
  lia
def Ec{f:A->A->iQ->R A}{d:Int}(hf:∀(m:Int) S,f (.int m) (.int 1) S=.ok (.int<|m+d) S){src:Ic}{L:Nat}{ms:ag}{x:Int}{Post:RS->Prop}(hx0:0<=x)(hx:x<=ms.length)
  (hsrc:src [a0,a1,.ref L,a3,a4] S=.ok (j5 0 x) S) (hL:iN S L=some (ms.map .int)) (fin:∀a4' S',iN S' L=some ((mz x.toNat d ms).map .int)->Kp (·=L) S S'->Post (.nx [a0,a1,.ref L,a3,a4'] S')) :
  Post (kN src (jC 4) (Ak (iK 2) (iK 4) (eC<|.int 1) f) [a0,a1,.ref L,a3,a4] S):=by
 refine sO (lo:=0) (hi:=x) hsrc (λi τ S'=>∃a4',τ=[a0,a1,.ref L,a3,a4']/\iN S' L=some ((mz i d ms).map .int)/\Kp (·=L) S S') Post ⟨a4,rfl,hL,Kp.refl⟩ ?_ ?_
 ·rintro i τ S' hi ⟨a4',rfl,g,k⟩;left;have j:i<ms.length:=()
  have e1:((mz i d ms).map A.int)[((0:Int)+(i:Int)).toNat]?=some (.int ms[i]):=by
   rw[show((0:Int)+(i:Int)).toNat=i by lia,bh,uI,aG j];simp
  have e2:C_ (mz i d ms).length (0+(i:Int))=some i:=yS () (by rw[xD];exact j);have p:=t9 g;dsimp[jf,bools,g,kM<|show(0:Int)<=0+(i:Int)by lia,e1,hf,aH,e2];refine⟨_,_,rfl,_,rfl,?_,k.set<|.inl rfl⟩;rw[qh p,<- zP i d ms ms[i] (aG j),gW]
 ·rintro τ S' ⟨a4',rfl,g,k⟩;exact fin a4' S' (by rw[Int.sub_zero]at g;exact g) k
abbrev Tf (xs ys:ag)(i j:Nat):Prop:=cnt (ys.take i) j<cnt (xs.take i) j/\(∀f d:Nat,f<i->1<=d->d<=xs.length->cnt (xs.take f) d<=cnt (ys.take f) d)/\∀d:Nat,1<=d->d<j->cnt (xs.take i) d<=cnt (ys.take i) d
def U9{xs ys:ag}{n:Nat}(px:xs.Perm<|jt 1<|(n:Int)+1)(py:ys.Perm<|jt 1<|(n:Int)+1)(h1:1<=n)(h2:n<=20):∃S',((Bs [.tup<|xs.map .int,.tup<|ys.map .int] S=.ok .non S'/\Below xs ys) \/
  ∃i j:Nat,Bs [.tup<|xs.map .int,.tup<|ys.map .int] S=.ok (.tup [.int i,.int j]) S'/\1<=i/\i<=n/\1<=j/\j<=n/\Tf xs ys i j)/\mO S S':=by
 have Y:xs.length=n:=by have:=DA px ();lia
 have ly:ys.length=n:=by have:=DA py ();lia
 unfold Bs N6 OL;dsimp[jf,bools,jP,Nat.reduceAdd,Nat.reduceSub,wU (S:=S)<|Y.trans ly.symm,aH,Y];rw[W4 (k:=n) jb ()];dsimp[jf,bools];have J:(S++[O.lst [.int 0]]).length=S.length+1:=by simp
 rw[J];refine sO (lo:=0) (hi:=(n:Int)) (S1:=S++[O.lst [.int 0]]++[O.lst<|List.replicate n<|.int 0]) ?_
  (λt τ S'=>∃a3 a4,τ=[.tup<|xs.map .int,.tup<|ys.map .int,.ref<|S.length+1,a3,a4]/\iN S' (S.length+1)=some ((rO n xs ys t).map .int)/\mO S S'/\∀B g:Nat,B<=t->1<=g->g<=n->cnt (xs.take B) g<=cnt (ys.take B) g)
  (λr=>∃S',((RS.end (RS.seq r _)=.ok .non S'/\Below xs ys)\/∃i j:Nat,RS.end (RS.seq r _)=.ok (.tup [.int i,.int j]) S'/\1<=i/\i<=n/\1<=j/\j<=n/\Tf xs ys i j)/\mO S S') ⟨.unb,.unb,rfl,?_,Kp.refl.lay.lay,?_⟩ ?_ ?_
 ·refine ny ?_<|jZ () ();dsimp[jf,bools,aH,Y]
 ·rw[Rm,List.map_replicate,<- J];exact jb
 ·intro B g hi _ _;have:B=0:=()
  subst this;simp[cnt]
 ·rintro t τ S' ht ⟨a3,a4,rfl,hL,hk,G⟩;have ht':t<n:=()
  have hx:t<xs.length:=()
  have hy:t<ys.length:=()
  have mx:=Dz px<|dU hx;have my:=Dz py<|dU hy;have ax:om (xs.map A.int) (0+(t:Int))=some (.int xs[t]):=uR (k:=t) ()<|aG hx;have ay:om (ys.map A.int) (0+(t:Int))=some (.int ys[t]):=uR (k:=t) ()<|aG hy;unfold Ih;dsimp[jf,bools];obtain⟨p,S2,e2,hL2,W⟩:=Ec (f:=J0) (d:=1) (ms:=rO n xs ys t) (x:=xs[t]) (src:=HZ) (a0:=.tup<|xs.map .int) (a1:=.tup<|ys.map .int) (a3:=.int<|0+(t:Int)) (a4:=a4) (Post:=λr=>∃p S2,r=.nx [.tup<|xs.map .int,.tup<|ys.map .int,.ref<|S.length+1,.int<|0+(t:Int),p] S2/\iN S2 (S.length+1)=some ((mz xs[t].toNat 1 (rO n xs ys t)).map .int)/\Kp (·=S.length+1) S' S2) (λ_ _=>rfl) () (by rw[nR];lia)
   (ny (by dsimp[jf,bools,ax])<|jZ () ()) hL (λp S2 h1 h2=>⟨p,S2,rfl,h1,h2⟩)
  obtain⟨K,S3,e3,C,P⟩:=Ec (f:=aSub) (d:=-1) (ms:=mz xs[t].toNat 1 (rO n xs ys t)) (x:=ys[t]) (src:=Gy) (a0:=.tup<|xs.map .int) (a1:=.tup<|ys.map .int) (a3:=.int<|0+(t:Int)) (a4:=p) (Post:=λr=>∃K S3,r=.nx [.tup<|xs.map .int,.tup<|ys.map .int,.ref<|S.length+1,.int<|0+(t:Int),K] S3/\iN S3 (S.length+1)=some ((mz ys[t].toNat (-1) (mz xs[t].toNat 1 (rO n xs ys t))).map .int)/\Kp (·=S.length+1) S2 S3) (λ_ _=>rfl) () (by rw[xD,nR];lia)
   (ny (by dsimp[jf,bools,ay])<|jZ () ()) hL2 (λp S2 h1 h2=>⟨p,S2,rfl,h1,h2⟩)
  rw[Fg hx hy]at C;have N:mO S S3:=(hk.old W λn hn _=>()).old P λn hn _=>()
  obtain⟨m,em,m1,m2⟩:=ME C (by intro z;have:=dG List.length z;rw[nR]at this;simp at this;lia);dsimp[show Ir=Ak (iK 2) (iK 4) (eC<|.int 1) J0 from rfl,show HY=Ak (iK 2) (iK 4) (eC<|.int 1) aSub from rfl,e2,e3,jf,bools,em];by_cases V:0<m
  ·right;rw[aP V];obtain⟨j,ej,⟨mj,M,hj2⟩,Z⟩:=Lo C ⟨m,m1,V⟩ (by rw[nR];lia);dsimp[jf,bools,ej,zb<|show([_,_]:ae).length<=16777216 by simp];have T:j<n:=by
    have:=(aN.mp M).1
    rwa [nR]at this
   refine⟨_,_,rfl,S3,.inr ⟨t+1,j+1,?_,(),(),(),(),?_,?_,?_⟩,N⟩
   ·have e5:(0:Int)+(t:Int)+1=((t+1:Nat):Int):=()
    have e6:(j:Int)+1=((j+1:Nat):Int):=()
    rw[e5,e6]
   ·rw[rY T]at M
    cases M
    have:((j+1:Nat):Int)=(j:Int)+1:=()
    rw[this]
    lia
   ·intro B g U F L;exact G B g () F ()
   ·intro g F L;have:=Z (g-1) _ ()<|rY ();rw[show(((g-1:Nat):Int)+1)=(g:Int)by lia]at this
    lia
  ·left;rw[aS V];dsimp[jf,bools];refine⟨_,_,rfl,_,_,rfl,C,N,λB g U F L=>?_⟩;by_cases hi:B<=t
   ·exact G B g hi F L
   ·have:B=t+1:=()
    subst this;have:=m2 _<|aX<|rY (n:=n) (xs:=xs) (ys:=ys) (t:=t+1) (j:=g-1) ();rw[show(((g-1:Nat):Int)+1)=(g:Int)by lia]at this
    lia
 ·rintro τ S' ⟨a3,a4,rfl,hL,hk,G⟩;refine⟨S',.inl ⟨by dsimp[jf,bools],?_⟩,hk⟩;refine(J4 px py).mp λi q hi hq=>?_;have:=G (i+1) (q+1) () () ();exact this
def LC{xs ys:ag}{n:Nat}(px:xs.Perm<|jt 1<|(n:Int)+1)(py:ys.Perm<|jt 1<|(n:Int)+1)(h1:1<=n)(h2:n<=20):∃(k:Bool) (S':iQ),mT [.tup<|xs.map .int,.tup<|ys.map .int] S=.ok (.bl k) S'/\(k=true ↔ Below xs ys)/\mO S S':=by
 obtain⟨S',h|⟨i,j,e,p,f,g,m,h,_⟩,d⟩:=U9 (S:=S) px py h1 h2
 ·refine⟨true,S',?_,⟨λ_=>h.2,λ_=>rfl⟩,d⟩;unfold mT sD su;dsimp[jf,bools,jP,Nat.reduceAdd,Nat.reduceSub,h.1]
 ·refine⟨false,S',?_,⟨λz=>absurd z bK,λz=>?_⟩,d⟩
  ·unfold mT sD su;dsimp[jf,bools,jP,Nat.reduceAdd,Nat.reduceSub,e]
  ·have:=z i j
   lia
theorem sI:∀(l:ag) (j:Nat) (h:j<l.length),(l[j]::l.eraseIdx j).Perm l
 | x::l,0,_=>gr _
 | x::l,j+1,h=>(List.Perm.swap x _ _).trans<|List.Perm.cons x<|sI l j<|gv h
def Ke{ls fs:ag}{j:Nat}(h:j<ls.length):((fs++[ls[j]])++ls.eraseIdx j).Perm (fs++ls):=by
 rw[bD];refine List.Perm.append_left fs ?_
 skip
 exact sI ls j h
def Pp{d:Int}{n:Nat}(h0:0<=d)(h:d.toNat<n):seqIndex? d n=some d.toNat:=by
 unfold seqIndex?;simp
 lia
theorem xQ{α β:Type}(f:α->β):∀(l:List α) (k:Nat),(l.map f).eraseIdx k=(l.eraseIdx k).map f
 | [],_=>rfl
 | _::_,0=>rfl
 | x::l,k+1=>dG (f x::·)<|xQ f l k
def z9{n:Int}(h:yk S b)(h1:1<=n)(h2:n<=20):∃(xs:ag) (S':iQ),lB [.ref b,.int n] S=.ok (.tup<|xs.map .int) S'/\xs.Perm (jt 1<|n+1)/\yk S' b/\Kp (·=b) S S':=by
 have W:b<S.length:=by obtain⟨_,_,e,_⟩:=h;exact t9 e
 unfold lB uh tQ;dsimp[jf,bools,jP,Nat.reduceAdd,Nat.reduceSub,Kq<|PJ (show(-1000000:Int)<=1 by decide) ⋯ (show -1000000<=n+1 by lia) () (),aY];have G:=ux (t:=qF) (c:=qV)
  (λτ S1=>∃(f fs:ag),τ=[.ref b,.int n,.ref S.length,.ref<|S.length+1]/\iN S1 S.length=some (f.map .int)/\iN S1 (S.length+1)=some (fs.map .int)/\(fs++f).Perm (jt 1<|n+1)/\yk S1 b/\Kp (·=b) S S1)
  (λτ S1=>((iN S1 S.length).getD []).length)
  (λr=>∃(xs:ag) (S':iQ),RS.end (RS.seq r<|jN<|jc (f1 xr)<|iL (iK 3) iW)=.ok (.tup<|xs.map .int) S'/\xs.Perm (jt 1<|n+1)/\yk S' b/\Kp (·=b) S S') ?_ 1000000
 ·refine G _ _ ⟨jt 1<|n+1,[],rfl,jB jb,?_,gr _,h.kp (c:=λ_=>False) (Kp.refl.lay.lay) λz=>z,Kp.refl.lay.lay⟩ ?_
  ·have:iN (S++[.lst<|(jt 1<|n+1).map .int]++[.lst []]) (S++[O.lst<|(jt 1<|n+1).map .int]).length=some []:=jb;simpa using this
  ·rw[jB jb,dQ,aH,kO]
   lia
 ·rintro τ S1 ⟨f,fs,rfl,K,F,hp,M,T⟩;have N:fs.length+f.length<=20:=by
   have:=hp.length_eq;rw[aY,kO]at this
   lia
  unfold qF qV;dsimp[jf,bools,K,aH];by_cases h0:f=[]
  ·subst h0;left;exact⟨S1,rfl,fs,S1,by dsimp[jf,bools,F],by simpa using hp,M,T⟩
  ·right;have P:0<f.length:=List.length_pos_iff.mpr h0;refine⟨S1,by rw[aP<|show(0:Int)<(f.length:Int)by lia],.inl ?_⟩;obtain⟨d,S2,e2,d0,d1,L,j⟩:=digit (m:=(f.length:Int)) M () ();have p:=j.lst S.length _ () K;have k:=j.lst (S.length+1) _ () F;have B:d.toNat<f.length:=()
   have V:=t9 k;have U:=t9 p;have C:seqIndex? d f.length=some d.toNat:=Pp d0 B;have J:iN (S2.set S.length<|.lst<|(f.map A.int).eraseIdx d.toNat) (S.length+1)=some (fs.map .int):=by rw[pH ()];exact k
   dsimp[jf,bools,K,F,aH,e2,p,FT,kM<|show -(2 ^ 63:Int)<=d/\d<2 ^ 63 by lia,C,bh,aG B,dj,J,AJ<|show fs.length<16777216 by lia];refine⟨_,_,rfl,⟨f.eraseIdx d.toNat,fs++[f[d.toNat]],rfl,?_,?_,(Ke B).trans hp,?_,?_⟩,?_⟩
   ·rw[pH (),qh U,xQ]
   ·rw[qh<|by rw[bV];exact V,cL];rfl
   ·obtain⟨g,st,e,q⟩:=L;exact⟨g,st,by rw[pH (),pH ()];exact e,q⟩
   ·exact((T.trans j).set<|.inr<|aQ _).set (.inr ())
   ·rw[pH (),qh U,dQ,dQ,xQ,aH,aH,List.length_eraseIdx_of_lt B];lia
def Yo(xs:ae)(j:Nat)(h:j<=xs.length):s_ xs none (some (j:Int))=xs.take j:=by
 unfold s_;rw[HT.sU,HT.ET,g7,d9 (),Nat.sub_zero]
def slT{us:ag}{t:Nat}(h:t<us.length):C6 (.tup<|us.map .int) none (some (t:Int)) S=.ok (.tup<|(us.take t).map .int) S:=by
 have hg:¬(HT.kX (us.map A.int).length 0 none=0/\HT.kX (us.map A.int).length (us.map A.int).length (some (t:Int))=(us.map A.int).length):=by
  rw[HT.sU,aH]
  lia
 have hs:C6 (.tup<|us.map .int) none (some (t:Int)) S=.ok (.tup<|s_ (us.map .int) none<|some (t:Int)) S:=kM hg;rw[hs,Yo _ t<|by rw[aH];lia,ir]
def ZT{us:ag}{t:Nat}(h0:1<=t)(h:t<=us.length):C6 (.tup<|us.map .int) (some (t:Int)) none S=.ok (.tup<|(us.drop t).map .int) S:=by
 have hg:¬(HT.kX (us.map A.int).length 0 (some (t:Int))=0/\HT.kX (us.map A.int).length (us.map A.int).length none=(us.map A.int).length):=by
  rw[HT.sU,aH]
  lia
 have hs:C6 (.tup<|us.map .int) (some (t:Int)) none S=.ok (.tup<|s_ (us.map .int) (some (t:Int)) none) S:=kM hg;rw[hs];congr 2;unfold s_;rw[HT.sU,HT.ET,aH,d9 (),cg<|by simp,map_drop]
def kK{N:Nat}{o:ag}(h:o.Perm<|Fw.rg N):o.length=N:=by rw[h.length_eq,Wd.i7]
end K33
namespace K33
open PySem L2 Am
open Bl
open Po (Pl Ok)
open Hz (IsR)
open Fw (rg)
def yK{N k:Nat}(h1:1<=k)(h2:k<N):decide ((k:Int)∈fl o N)=Su.lX o k:=by
 unfold fl Su.lX;rw[gE,cX,jR,dJ,show((k:Int)-1).toNat=k-1 by lia,eg];constructor
 ·exact λh=>h.2
 ·exact λh=>⟨⟨(),()⟩,h⟩
def PK{k:kI}{v:A}:∀{kvs:List<|kI×A},m8 (tX kvs k v) k=some v:=by
 intro kvs;unfold tX;split
 ·rename_i h;revert h
  induction kvs with
  | nil=>intro h;exact absurd h (show ¬(none:Option A).isSome=true by simp)
  | cons p r d=>
   intro h;rw[bM];by_cases c:p.1=k
   ·rw[aL c,uH (p:=(p.1,v)) c]
   ·rw[aK c,rX c];rw[rX c]at h;exact d h
 ·rename_i h
  induction kvs with
  | nil=>exact uH rfl
  | cons p r d=>
   by_cases c:p.1=k
   ·rw[uH c]at h;exact absurd rfl h
   ·rw[fN,rX c];rw[rX c]at h;exact d h
def EY{k:kI}{v:A}{kvs:List<|kI×A}{p:kI×A}(h:p∈tX kvs k v):p∈kvs\/p=(k,v):=by
 unfold tX at h;split at h
 ·obtain⟨q,hq,rfl⟩:=bY.mp h;by_cases c:q.1=k
  ·rw[aL c,c];exact .inr rfl
  ·rw[aK c];exact .inl hq
 ·rcases bF.mp h with z|z
  ·exact .inl z
  ·exact .inr<|bA.mp z
def Nj{k:kI}{v:A}{kvs:List<|kI×A}(h:m8 kvs k=some v):(k,v)∈kvs:=by
 unfold m8 at h;obtain⟨p,hp,e⟩:=a_.mp h;have h1:=List.mem_of_find?_eq_some hp;have h2:=List.find?_some hp;have h2:=bS h2;rw[<- h2,<- e];exact h1
def E2{n:Nat}{d:List<|kI×A}(h:nH S n=some d)(h':iN S m=some xs):n≠m:=λz=>by
 subst z;have e1:=qc h;rw[i9 h']at e1
 cases e1
def Kp.tH{b:Nat->Prop}(h:Kp b S S')(n:Nat)(d:List<|kI×A)(hb:¬b n)(e:nH S n=some d):nH S' n=some d:=zC<|h.obj n _ hb<|qc e
def Cw(x w:ag):AD (.tup [.tup<|x.map .int,.tup<|w.map .int])=some (x,w):=by
 unfold AD;dsimp only;rw[ints_map,ints_map];rfl
def VA{d:Nat}{x w:ag}:RL true (.tup [.tup<|x.map .int,.tup<|w.map .int]) (.ref d) S=opt (nH S d) λkvs=>.ok (.bl<|!(m8 kvs (x,w)).isSome) S:=by
 show opt (nH S d) (λkvs=>opt (AD _) _)=_;rw[Cw];rfl
def KW{d:Nat}{x w:ag}:J3 (.ref d) (.tup [.tup<|x.map .int,.tup<|w.map .int]) S=opt (nH S d) λkvs=>opt (m8 kvs (x,w)) λv=>.ok v S:=by
 show opt (nH S d) (λkvs=>opt (AD _) _)=_;rw[Cw];rfl
def RX{d:Nat}{S:iQ}{x w:ag}{v:A}:EU (.ref d) (.tup [.tup<|x.map .int,.tup<|w.map .int]) v S=opt (nH S d) λkvs=>gd (kvs.length<sizeLine) (.ok Unit.unit<|S.set d<|.tH<|tX kvs (x,w) v):=by
 show opt (nH S d) (λkvs=>opt (AD _) _)=_;rw[Cw];rfl
def uN{co ci:Ex}{a:A}:Mz co ci a τ S=(co τ S).bind λo S1=>(ci τ S1).bind λi S2=>(EU o i a S2).bind λ_ S3=>.ok τ S3:=rfl
structure KnQ (n M:Nat)(ws:Nat->ag)(S:iQ)(d:Nat)(kvs:List (kI×A)):Prop where
 dd:nH S d=some kvs
 at_:∀p∈kvs,∃(r:Nat) (l:Pl),p.2=.ref r/\iN S r=some (Po.pl l)/\IsR n p.1.1 p.1.2 l
 nd:(kvs.map (·.1)).Nodup
 ky:∀p∈kvs,p.1.1.Perm (rg n)/\p.1.2=ws (Iv.inv p.1.2)/\Iv.inv p.1.2<=M
def KnQ.few{n d:Nat}{ws:Nat->ag}{kvs:List<|kI×A}(h:KnQ n M ws S d kvs)(hn:n<=8)(hM:M<=28):kvs.length<=1169280:=by
 have g:∀x:ag,x.Perm (rg n)->Nu.rank x<Nu.u7 n/\Nu.Ys n (rg n) (Nu.rank x)=x:=λx C=>Nu.Iw n (rg n) x (Wd.i7 n) (Nu.ML _ _) C;have G:Nu.u7 n<=40320:=bP (Nu.ON hn) ⋯;have nd:(kvs.map λp=>Iv.inv p.1.2 * 40320+Nu.rank p.1.1).Nodup:=by
  have:=h.nd;unfold List.Nodup at this ⊢;rw[dI]at this ⊢;refine List.Pairwise.imp_of_mem (λ{a b} ha hb hab z=>hab ?_) this;obtain⟨f,j,q⟩:=h.ky a ha;obtain⟨B,k,J⟩:=h.ky b hb;have m:=g _ f;have F:=g _ B;have e1:Iv.inv a.1.2=Iv.inv b.1.2:=()
  have e2:Nu.rank a.1.1=Nu.rank b.1.1:=()
  refine iI ?_ ?_
  ·rw[<- m.2,<- F.2,e2]
  ·rw[j,k,e1]
 have:=Rd.zK 1169280 _ nd λv hv=>by
  obtain⟨p,hp,rfl⟩:=bY.mp hv;obtain⟨f,j,q⟩:=h.ky p hp;have:=(g _ f).1
  lia
 rwa [aH]at this
def KnQ.kp{n d:Nat}{ws:Nat->ag}(h:KnQ n M ws S d kvs)(k:mO S S'):KnQ n M ws S' d kvs:=⟨Kp.tH k _ _ (λz=>z) h.dd,λp hp=>by obtain⟨r,l,a,b,c⟩:=h.at_ p hp;exact⟨r,l,a,k.lst _ _ (λz=>z) b,c⟩,h.nd,h.ky⟩
def Qq{k:kI}{v:A}{kvs:List<|kI×A}(h:(kvs.map (·.1)).Nodup):((tX kvs k v).map (·.1)).Nodup:=by
 unfold tX;split
 ·rw[cj];have e:((λx:kI×A=>x.1) ∘ λkv:kI×A=>if kv.1=k then(kv.1,v)else kv)=λx=>x.1:=by
   funext p
   show(if p.1=k then(p.1,v)else p).1=p.1;split<;>rfl
  rw[e];exact h
 ·rename_i hn;rw[cL,c8];refine⟨h,by simp,λa g b d e=>hn ?_⟩;have f:b=k:=by simpa using d
  obtain⟨p,hp,rfl⟩:=bY.mp g;have j:p.1=k:=e.trans f;unfold m8;rw[h_];exact List.find?_isSome.mpr ⟨p,hp,aP j⟩
def KnQ.put{n d r:Nat}{ws:Nat->ag}{x w:ag}(h:KnQ n M ws S d kvs)(hn:n<=8)(hM:M<=28)(px:x.Perm<|rg n)(hw:w=ws (Iv.inv w))(hi:Iv.inv w<=M)(hr:iN S r=some (Po.pl l))(hR:IsR n x w l) :
  ∃(S':iQ) (kvs':List<|kI×A),EU (.ref d) (.tup [.tup<|x.map .int,.tup<|w.map .int]) (.ref r) S=.ok Unit.unit S'/\J3 (.ref d) (.tup [.tup<|x.map .int,.tup<|w.map .int]) S'=.ok (.ref r) S'/\KnQ n M ws S' d kvs'/\iN S' r=some (Po.pl l)/\Kp (·=d) S S':=by
 have few:=h.few hn hM;have k:Kp (·=d) S (S.set d<|.tH<|tX kvs (x,w)<|.ref r):=Kp.refl.Nq<|.inl rfl;have dd:nH (S.set d<|.tH<|tX kvs (x,w)<|.ref r) d=some (tX kvs (x,w)<|.ref r):=zC<|bH<|zB<|qc h.dd;have f:∀(q:Nat) (xs:ae),iN S q=some xs->iN (S.set d<|.tH<|tX kvs (x,w)<|.ref r) q=some xs:=λq xs hq=>k.lst _ _ (λz=>E2 h.dd hq z.symm) hq;refine⟨_,tX kvs (x,w)<|.ref r,?_,?_,⟨dd,λp hp=>?_,Qq h.nd,λp hp=>?_⟩,f _ _ hr,k⟩
 ·rw[RX,h.dd,jw];exact AJ (show kvs.length<16777216 by lia)
 ·rw[KW,dd,jw,PK,jw]
 ·rcases EY hp with z|z
  ·obtain⟨q,m,a,b,c⟩:=h.at_ p z;exact⟨q,m,a,f _ _ b,c⟩
  ·rw[z];exact⟨r,l,rfl,f _ _ hr,hR⟩
 ·rcases EY hp with z|z
  ·exact h.ky p z
  ·rw[z];exact⟨px,hw,hi⟩
def Jc:∀p∈[((1:Int),(1:Int))],p.2.natAbs<big:=λp hp=>by
 rw[bA.mp hp,CC];exact show 1<2 ^ 4096 by decide +kernel
def Ja{n:Nat}{x w:ag}{l:Pl}(h:IsR n x w l)(px:x.Perm<|rg n)(pw:w.Perm<|rg n)(hi:Iv.inv w<=100):∀p∈l,p.2.natAbs<big:=λp hp=>by
 obtain⟨_,_,a,b,_⟩:=h.keys px pw hp;have:(2:Nat) ^ Iv.inv w<=2 ^ 100:=Nat.pow_le_pow_right ⋯ hi;have d:(2:Nat) ^ 100<big:=by rw[CC];exact Nat.pow_lt_pow_right ⋯ ⋯
 lia
def MA{x w:ag}:tK false (.tup<|x.map .int) (.tup<|w.map .int) S=.ok (.bl<|decide<|x=w) S:=Ob (by
 show uA (wW S 11) (x.map .int) (w.map .int)=_;exact By x w)
def wc{α:Type}{x:R α}:gd (2<=sizeLine) x=x:=kM ⋯
meta abbrev RF:Nat:=30
theorem zX{n d:Nat}{ws:Nat->ag}(h1:1<=n)(h2:n<=8)(hM:M<=28)(hws:∀(w:ag) (k:Nat) (t:ag),w.Perm (rg n)->Iv.inv w<=M->w=ws (Iv.inv w)->fl w n=(k:Int)::t->1<=k->k<n->Su.lX w k=true->Wd.ex w k=ws (Iv.inv<|Wd.ex w k)):∀(f:Nat) {S:iQ}{kvs:List<|kI×A}{x w:ag},Iv.inv w<f->f<=100->x.Perm (rg n)->w.Perm (rg n)->Iv.inv w<=M->w=ws (Iv.inv w)->KnQ n M ws S d kvs ->
  ∃(r:Nat) (S':iQ) (kvs':List<|kI×A) (l:Pl),jJ f [.tup<|x.map .int,.tup<|w.map .int,.ref d] S=.ok (.ref r) S'/\KnQ n M ws S' d kvs'/\iN S' r=some (Po.pl l)/\IsR n x w l/\Kp (·=d) S S'
 | 0,S,kvs,x,w,hf,_,_,_,_,_,_=>absurd hf (dM _)
 | f+1,S,kvs,x,w,hf,hf2,px,pw,hi,hw,hK=>by
  have lx:=kK px;have lw:=kK pw;refine hide λG hG=>?_;have C:RL true (.tup [.tup<|x.map .int,.tup<|w.map .int]) (.ref d) S=.ok (.bl<|!(m8 kvs (x,w)).isSome) S:=by rw[VA,hK.dd,jw]
  cases hL:m8 kvs (x,w)with
  | some v=>
   obtain⟨r,l,rfl,b,c⟩:=hK.at_ _<|Nj hL;have x1:J3 (.ref d) (.tup [.tup<|x.map .int,.tup<|w.map .int]) S=.ok (.ref r) S:=by rw[KW,hK.dd,jw,hL,jw]
   rw[hL]at C;refine hG ?_;show ∃(r:Nat) (S':iQ) (kvs':List<|kI×A) (l:Pl),jO jA (jz<|jJ f) _ S=.ok (.ref r) S'/\_;unfold jz jA;refine⟨r,S,kvs,l,?_,hK,b,c,Kp.refl⟩;dsimp[jf,lg,bools,jP,Nat.reduceAdd,Nat.reduceSub,wc,C,gZ,bW,x1]
  | none=>
   rw[hL]at C;by_cases e:x=w
   ·subst e;have k1:mO S (S++[O.lst<|Po.pl [(0,1)]]):=Kp.refl.lay;obtain⟨S',kvs',e1,x1,n1,l1,kp⟩:=(hK.kp k1).put (x:=x) (w:=x) (r:=S.length) h2 hM px hw hi jb<|Hz.FP px;refine hG ?_;show ∃(r:Nat) (S':iQ) (kvs':List<|kI×A) (l:Pl),jO jA (jz<|jJ f) _ S=.ok (.ref r) S'/\_;unfold jz jA;refine⟨S.length,S',kvs',_,?_,n1,l1,Hz.FP px,k1.of0.trans kp⟩;have eq:=MA (S:=S) (x:=x) (w:=x);rw[aP rfl]at eq;rw[show Po.pl [((0:Int),(1:Int))]=[A.tup [.int 0,.int 1]]from rfl]at e1;dsimp[jf,lg,bools,jP,Nat.reduceAdd,Nat.reduceSub,wc,C,fZ,di,eq,uN,e1,x1]
   ·have eq:=MA (S:=S) (x:=x) (w:=w);rw[aS e]at eq;obtain⟨k,S1,e1,T,k1⟩:=LC (S:=S) px pw h1 ();have i2:=C;by_cases g:Below x w
    ·rw[T.mpr g]at e1;have fo:=Dw (S:=S1) (xs:=w) (n:=n) lw ();obtain⟨c,t,ft⟩:∃c t,fl w n=c::t:=by
      cases hfl:fl w n with
      | cons c t=>exact⟨c,t,rfl⟩
      | nil=>
       exfalso;have wr:w=rg n:=Fw.Eh pw λk T=>by
        have:=yK (o:=w) (N:=n) (k:=k) T.1 (by rw[<- lw];exact T.2.1);rw[hfl]at this;have f1:Su.lX w k=true:=aP T.2.2;rw[f1]at this;exact absurd (bS this)<|by simp
       subst wr;obtain⟨js,hj⟩:=Fw.Iu _ x<|aQ _;exact e<|Below.antisymm px.length_eq g<|Gr.zW js px hj
     obtain⟨k,rfl,c1,c2,c3⟩:∃k:Nat,c=(k:Int)/\1<=k/\k<n/\Su.lX w k=true:=by
      have hc:c∈fl w n:=by rw[ft];exact aM ..
      have hr:=jR.mp (cX.mp hc).1;have ek:c=(c.toNat:Int):=()
      refine⟨c.toNat,ek,(),(),?_⟩;rw[<- yK (N:=n) () (),<- ek];exact aP hc
     obtain⟨S2,F⟩:∃S2,S2=S1++[O.lst<|(fl w n).map .int]:=⟨_,rfl⟩;have k2:mO S1 S2:=by rw[F];exact Kp.refl.lay
     have l2:iN S2 S1.length=some (A.int k::t.map .int):=by rw[F,jb,ft];rfl
     rw[<- F]at fo;have hd:=Fw.nN c1 (show k<w.length by lia)<|bS c3;obtain⟨S3,x3,k3⟩:=GA (S:=S2) (xs:=w) (k:=k) c1 () ();obtain⟨S4,x4,k4⟩:=GA (S:=S3) (xs:=x) (k:=k) c1 () ();have k04:mO S S4:=((k1.trans k2).trans k3).trans k4;have pe:=He.lQ px c1 c2;have j:=He.lQ pw c1 c2;have W:=hws w k t pw hi hw ft c1 c2 c3;obtain⟨r5,S5,kv5,l5,x5,n5,a5,q5,k5⟩:=zX h1 h2 hM hws f (S:=S4) (kvs:=kvs) (x:=Wd.ex x k) (w:=Wd.ex w k) () () pe j () W<|hK.kp k04;have J:=Dw (S:=S5) (xs:=x) (n:=n) lx ();obtain⟨m,K⟩:∃m,m=S5++[O.lst<|(fl x n).map .int]:=⟨_,rfl⟩;have k6:mO S5 m:=by rw[K];exact Kp.refl.lay
     have B:Y6 false (.int k) (.ref S5.length) m=.ok (.bl<|Su.lX x k) m:=by
      show opt (iN _ _) _=_;rw[K,jb,jw,G6,yK c1 c2];rfl
     rw[<- K]at J;have k06:Kp (·=d) S m:=(k04.of0.trans k5).trans k6.of0
     cases hx:Su.lX x k with
     | true=>
      rw[hx]at B;have U:=Hz.TQ px pw c1 c2 c3 hx q5;obtain⟨S',kvs',e7,x7,n7,P,kp⟩:=(n5.kp k6).put (x:=x) (w:=w) h2 hM px hw hi (k6.lst _ _ (λz=>z) a5) U;refine hG ?_;show ∃(r:Nat) (S':iQ) (kvs':List<|kI×A) (l:Pl),jO jA (jz<|jJ f) _ S=.ok (.ref r) S'/\_;unfold jz jA;refine⟨r5,S',kvs',l5,?_,n7,P,U,k06.trans kp⟩;dsimp[jf,lg,bools,jP,Nat.reduceAdd,Nat.reduceSub,wc,C,fZ,di,bW,eq,e1,uN];unfold jL;dsimp[jf,lg,bools,jP,Nat.reduceAdd,Nat.reduceSub,wc,fo,l2,AR,x3,x4,x5,J,B,uN,e7,x7]
     | false=>
      rw[hx]at B;obtain⟨V,p⟩:∃V,V=m++[O.lst<|Po.pl [(1,1)]]:=⟨_,rfl⟩;have k7:mO m V:=by rw[p];exact Kp.refl.lay
      have P:iN V m.length=some (Po.pl [(1,1)]):=by rw[p];exact jb
      have L:=k6.trans k7;obtain⟨r8,S8,kv8,l8,x8,n8,a8,q8,k8⟩:=zX h1 h2 hM hws f (S:=V) (kvs:=kv5) (x:=x) (w:=Wd.ex w k) () () px j () W<|n5.kp L;have len8:=q8.len px j;have len5:=q5.len pe j;have Z:=(n5.kp L).dd;have l7':iN S8 m.length=some (Po.pl [(1,1)]):=k8.lst _ _ (λz=>E2 Z P z.symm) P;have a5':iN S8 r5=some (Po.pl l5):=by
       have q:=L.lst _ _ (λz=>z) a5;exact k8.lst _ _ (λz=>E2 Z q z.symm) q
      obtain⟨L9,S9,x9,a9,_,k9⟩:=Oq l7' a8 (by show 1 * l8.length<_;lia) Jc<|Ja q8 px j ();have tl:(Po.times [(1,1)] l8).length<=l8.length:=bP (Su.A5 _ _)<|le_of_eq<|iH _;obtain⟨La,Sa,xa,aa,_,ka⟩:=Sf (k9.lst _ _ (λz=>z) a5') a9 q5.ok ();have Y:=k9.trans ka;have U:=Hz.TN px pw c1 c2 c3 hx q5 q8;obtain⟨S',kvs',e7,x7,n7,P,kp⟩:=(n8.kp Y).put (x:=x) (w:=w) h2 hM px hw hi aa U;refine hG ?_;show ∃(r:Nat) (S':iQ) (kvs':List<|kI×A) (l:Pl),jO jA (jz<|jJ f) _ S=.ok (.ref r) S'/\_;unfold jz jA;refine⟨La,S',kvs',_,?_,n7,P,U,(((k06.trans k7.of0).trans k8).trans Y.of0).trans kp⟩;dsimp[jf,lg,bools,jP,Nat.reduceAdd,Nat.reduceSub,wc,C,fZ,di,bW,eq,e1,uN];unfold jL;rw[show Po.pl [((1:Int),(1:Int))]=[A.tup [.int 1,.int 1]]from rfl]at p;dsimp[jf,lg,bools,jP,Nat.reduceAdd,Nat.reduceSub,wc,fo,l2,AR,x3,x4,x5,J,B];rw[<- p];dsimp[jf,lg,bools,x8,x9,xa,uN,e7,x7]
    ·have kf:k=false:=by cases k with|false=>rfl|true=>exact absurd (T.mp rfl) g
     rw[kf]at e1;have k2:mO S (S1++[O.lst []]):=k1.lay;obtain⟨S',kvs',e2,x2,n2,l2,kp⟩:=(hK.kp k2).put (x:=x) (w:=w) (r:=S1.length) (l:=[]) h2 hM px hw hi jb<|Hz.Fi px pw g;refine hG ?_;show ∃(r:Nat) (S':iQ) (kvs':List<|kI×A) (l:Pl),jO jA (jz<|jJ f) _ S=.ok (.ref r) S'/\_;unfold jz jA;refine⟨S1.length,S',kvs',_,?_,n2,l2,Hz.Fi px pw g,k2.of0.trans kp⟩;dsimp[jf,lg,bools,jP,Nat.reduceAdd,Nat.reduceSub,wc,C,fZ,di,bW,eq,e1,uN,e2,x2]
abbrev V2 (n:Nat)(w:ag):Nat->ag
 | 0=>w
 | i+1=>Wd.ex (V2 n w i) ((fl (V2 n w i) n).headD 0).toNat
def V1{n:Nat}(w:ag)(k:Nat)(t:ag)(pw:w.Perm<|rg n)(hi:Iv.inv w<=Iv.inv w0)(hw:w=V2 n w0 (Iv.inv w0-Iv.inv w))(ft:fl w n=(k:Int)::t)(h1:1<=k)(h2:k<n)(hf:Su.lX w k=true):Wd.ex w k=V2 n w0 (Iv.inv w0-Iv.inv (Wd.ex w k)):=by
 have f:=kK pw;have d:=Fw.nN h1 (show k<w.length by lia)<|bS hf;rw[show Iv.inv w0-Iv.inv (Wd.ex w k)=(Iv.inv w0-Iv.inv w)+1 by lia];show _=Wd.ex (V2 n w0<|Iv.inv w0-Iv.inv w) ((fl (V2 n w0<|Iv.inv w0-Iv.inv w) n).headD 0).toNat;rw[<- hw,ft];rfl
def HU{n:Nat}{x:ag}(h1:1<=n)(h2:n<=8)(px:x.Perm<|rg n):∃S',pR [.tup<|x.map .int] S=.ok (.int (Iv.inv x:Int)) S'/\mO S S':=by
 obtain⟨S',e,k⟩:=U5 (S:=S) (n:=n) (kK px) ();rw[UM (kK px) h1]at e;exact⟨S',e,k⟩
def uJ{n:Nat}{x w:ag}(h1:1<=n)(h2:n<=8)(px:x.Perm<|rg n)(pw:w.Perm<|rg n)(hi:Iv.inv w<=28)(hd:n<=5\/(Iv.inv w:Int)-Iv.inv x<=6):∃(r:Nat) (S':iQ) (l:Pl),qQ [.tup<|x.map .int,.tup<|w.map .int] S=.ok (.ref r) S'/\iN S' r=some (Po.pl l)/\IsR n x w l/\mO S S':=by
 have K:=kK px;have T:=kK pw;have J:=wU (S:=S) (show x.length=w.length by lia);obtain⟨S1,e1,j⟩:∃S1,mZ [.tup<|x.map .int,.tup<|w.map .int] S=.ok .non S1/\mO S S1:=by
  by_cases c:n<=5
  ·refine⟨S,?_,Kp.refl⟩;have:kh [.tup<|x.map .int,.tup<|w.map .int,.int 5,.int 8,.int 6] S=.ok .non S:=by
    unfold kh nX n6;dsimp[jf,lg,bools,jP,Nat.reduceAdd,Nat.reduceSub,aH,K,aP<|show(n:Int)<=5 by lia]
   unfold mZ qy qv;dsimp[jf,lg,bools,jP,Nat.reduceAdd,Nat.reduceSub,J,this]
  ·obtain⟨S1,L,j⟩:=HU (S:=S) h1 h2 pw;obtain⟨S2,B,F⟩:=HU (S:=S1) h1 h2 px;refine⟨S2,?_,j.trans F⟩;have hd:(Iv.inv w:Int)-Iv.inv x<=6:=by rcases hd with z|z;exact absurd z c;exact z
   have:kh [.tup<|x.map .int,.tup<|w.map .int,.int 5,.int 8,.int 6] S=.ok .non S2:=by
    unfold kh nX n6;dsimp[jf,lg,bools,jP,Nat.reduceAdd,Nat.reduceSub,aH,K,aS<|show ¬(n:Int)<=5 by lia,aS<|show ¬(n:Int)>8 by lia,L,B,aS<|show ¬(Iv.inv w:Int)-Iv.inv x>6 by lia]
   unfold mZ qy qv;dsimp[jf,lg,bools,jP,Nat.reduceAdd,Nat.reduceSub,J,this]
 have hK:KnQ n (Iv.inv w) (λm=>V2 n w<|Iv.inv w-m) (S1++[.tH []]) S1.length []:=⟨zC<|by simp,λp hp=>(nomatch hp),eT,λp hp=>(nomatch hp)⟩;obtain⟨r,S',G,l,C,P,B,N,F⟩:=zX h1 h2 hi (λM k t a b c d e f g=>V1 M k t a b c d e f g) RF (S:=S1++[.tH []]) (kvs:=[]) (x:=x) (w:=w) (by show _<30;lia) ⋯ px pw (aQ _) (by rw[eX];rfl) hK;refine⟨r,S',l,?_,B,N,(j.lay (o:=.tH [])).old F λq hq _ z=>by have:=j.len;lia⟩;have C:sH [.tup<|x.map .int,.tup<|w.map .int,.ref S1.length] (S1++[.tH []])=.ok (.ref r) S':=C;have O:∀τ,Fd τ S1=.ok (.ref S1.length) (S1++[.tH []]):=λ_=>rfl;unfold qQ Fq E6;dsimp[jf,lg,bools,jP,Nat.reduceAdd,Nat.reduceSub,e1,O,C]
end K33
namespace K33
open PySem L2 Am
def w_{xs ys:ag}(h:xs.length+ys.length<=16777216):jE (.tup<|xs.map .int) (.tup<|ys.map .int) S=.ok (.tup<|(xs++ys).map .int) S:=by
 rw[cL];exact Q5<|by rw[aH,aH];exact h
def slB{us:ag}{a b:Nat}(h0:1<=a)(h1:a<=b)(h2:b<=us.length):C6 (.tup<|us.map .int) (some (a:Int)) (some (b:Int)) S=.ok (.tup<|((us.drop a).take<|b-a).map .int) S:=by
 have hg:¬(HT.kX (us.map A.int).length 0 (some (a:Int))=0/\HT.kX (us.map A.int).length (us.map A.int).length (some (b:Int))=(us.map A.int).length):=by
  rw[HT.sU,aH]
  lia
 have hs:C6 (.tup<|us.map .int) (some (a:Int)) (some (b:Int)) S=.ok (.tup<|s_ (us.map .int) (some (a:Int))<|some (b:Int)) S:=kM hg;rw[hs];congr 2;unfold s_;rw[HT.sU,HT.sU,aH,d9 (),d9 (),ir,map_drop]
def U7{xs:ag}(hij:i<j)(hj:j<xs.length):xs.take i++[xs.getD j 0]++(xs.drop<|i+1).take (j-(i+1))++[xs.getD i 0]++xs.drop (j+1)=Iv.sw xs i j:=by
 obtain⟨P,M,R,B,hP,m,es⟩:=Iv.split hij hj;have z:P.length=i:=by rw[hP,aW];lia
 refine cA λp=>?_;have g:∀q,q<xs.length->xs[q]?=some (xs.getD q 0):=λq hq=>Iv.sL hq;have C:(Iv.sw xs i j).length=xs.length:=Iv.Cj ..;by_cases hp:p<xs.length
 ·have d:(Iv.sw xs i j)[p]?=some (if p=j then xs.getD i 0 else if p=i then xs.getD j 0 else xs.getD p 0):=by
   rw[<- Iv.EZ hij hj p];exact Iv.sL ()
  rw[d,bD,bD,bD];by_cases c1:p<i
  ·rw[bB<|by rw[aW];lia,dc c1,g p hp,aK (),aK ()]
  ·rw[cM<|by rw[aW];lia,aW,d9 ()];by_cases c2:p=i
   ·rw[aK (),aL c2,show p-i=0 by lia];rfl
   ·rw[aK c2,show p-i=(p-(i+1))+1 by lia,List.singleton_append,eS];have k:((xs.drop<|i+1).take<|j-(i+1)).length=j-(i+1):=by rw[aW,bN];lia
    by_cases c3:p<j
    ·rw[bB (),dc (),dz,show i+1+(p-(i+1))=p by lia,g p hp,aK ()]
    ·rw[cM (),k];by_cases f:p=j
     ·rw[aL f,show p-(i+1)-(j-(i+1))=0 by lia];rfl
     ·rw[aK f,show p-(i+1)-(j-(i+1))=(p-(j+1))+1 by lia,List.singleton_append,eS,dz,show j+1+(p-(j+1))=p by lia,g p hp]
 ·rw[bJ<|by dsimp[aY,aW,bN,bq,b8];lia,bJ ()]
def Jb{xs:ag}(hij:i<j)(hj:j<xs.length)(hl:xs.length<=1000):ki [.tup<|xs.map .int,.int i,.int j] S=.ok (.tup<|(Iv.sw xs i j).map .int) S:=by
 have d:C6 (.tup<|xs.map .int) none (some (i:Int)) S=.ok (.tup<|(xs.take i).map .int) S:=slT ();have m:C6 (.tup<|xs.map .int) (some<|(i:Int)+1) (some (j:Int)) S=.ok (.tup<|((xs.drop<|i+1).take<|j-(i+1)).map .int) S:=by
  rw[show(i:Int)+1=((i+1:Nat):Int)by lia];exact slB () () ()
 have k:C6 (.tup<|xs.map .int) (some<|(j:Int)+1) none S=.ok (.tup<|(xs.drop<|j+1).map .int) S:=by
  rw[show(j:Int)+1=((j+1:Nat):Int)by lia];exact ZT () ()
 have z:om (xs.map A.int) (i:Int)=some (.int<|xs.getD i 0):=KA rfl ();have q:om (xs.map A.int) (j:Int)=some (.int<|xs.getD j 0):=KA rfl ();have d1:jE (.tup<|(xs.take i).map .int) (.tup [.int<|xs.getD j 0]) S=.ok (.tup<|(xs.take i++[xs.getD j 0]).map .int) S:=
  w_ (ys:=[xs.getD j 0]) (by rw[aW];show _+1<=_;lia)
 have p:jE (.tup<|(xs.take i++[xs.getD j 0]).map .int) (.tup<|((xs.drop<|i+1).take<|j-(i+1)).map .int) S=.ok (.tup<|(xs.take i++[xs.getD j 0]++(xs.drop<|i+1).take (j-(i+1))).map .int) S:=
  w_ (by dsimp[aY,aW,bN,bq,b8];lia)
 have g:jE (.tup<|(xs.take i++[xs.getD j 0]++(xs.drop<|i+1).take (j-(i+1))).map .int) (.tup [.int<|xs.getD i 0]) S=.ok (.tup<|(xs.take i++[xs.getD j 0]++(xs.drop<|i+1).take (j-(i+1))++[xs.getD i 0]).map .int) S:=
  w_ (ys:=[xs.getD i 0]) (by dsimp[aY,aW,bN,bq,b8];lia)
 have f:jE (.tup<|(xs.take i++[xs.getD j 0]++(xs.drop<|i+1).take (j-(i+1))++[xs.getD i 0]).map .int) (.tup<|(xs.drop<|j+1).map .int) S=.ok (.tup<|(Iv.sw xs i j).map .int) S:=by
  rw[w_<|by dsimp[aY,aW,bN,bq,b8];lia,U7 hij hj]
 unfold ki qW rq;dsimp[jf,lg,bools,jP,Nat.reduceAdd,Nat.reduceSub,d,z,q,Q5<|show 1<=sizeLine by rw[cR];decide,d1,m,p,g,k,f]
abbrev pq (xs:ag)(i j:Nat)(x:A):Bool:=match x with
 | .int m=>decide (xs.getD j 0<m) && decide (m<xs.getD i 0)
 | _=>false
abbrev cd (xs:ag)(i j:Nat)(left:Int):Bool:=decide (xs.getD i 0>xs.getD j 0) && decide (1+2 * (Hz.am xs i j:Int)<=left)
abbrev qt (xs:ag)(i j:Nat):A:=.tup [.int i,.int j,.int<|1+2 * (Hz.am xs i j:Int)]
def Sj{n V:Nat}{xs:ag}{L:ae}{left:Int}(lx:xs.length=n)(h8:n<=8)(hij:i<j)(hj:j<n)(hV:iN S V=some L)(hL:L.length<=1000) :
  ∃S',kJ [.tup<|xs.map .int,.int left,.ref V,.int i,.int j,x5] S=.nx [.tup<|xs.map .int,.int left,.ref V,.int i,.int j,.int (Hz.am xs i j:Int)] S'/\iN S' V=some (if cd xs i j left=true then L++[qt xs i j]else L)/\Kp (·=V) S S':=by
 have C:C6 (.tup<|xs.map .int) (some<|(i:Int)+1) (some (j:Int)) S=.ok (.tup<|((xs.drop<|i+1).take<|j-(i+1)).map .int) S:=by
  rw[show(i:Int)+1=((i+1:Nat):Int)by lia];exact slB () () ()
 have B:om (xs.map A.int) (i:Int)=some (.int<|xs.getD i 0):=KA rfl ();have G:om (xs.map A.int) (j:Int)=some (.int<|xs.getD j 0):=KA rfl ();obtain⟨M,k⟩:∃M,M=(xs.drop<|i+1).take (j-(i+1)):=⟨_,rfl⟩;rw[<- k]at C;have N:M.length<=8:=by rw[k,aW,bN];lia
 have F:=DM (cap:=[some 0,some 4,some 3]) (src:=mq<|KP (iK 0) (m5<|iR jE (iK 3)<|eC<|.int 1)<|m5<|iK 4) (t:=ni<|O0 Av Av (iR mh (iK 1)<|iK 2) (iK 0)<|iR mh (iK 1)<|iK 3) (e:=iK 0) (τ:=[.tup<|xs.map .int,.int left,.ref V,.int i,.int j,x5]) (S:=S) (S1:=S) (xs:=M.map .int)
  (Ff<|by dsimp[jf,lg,bools,C]) (pq xs i j) (λx=>x) (λx q=>by
   obtain⟨m,_,rfl⟩:=bY.mp q;have c1:iR mh (iK 1) (iK 2) (.int m::l9 [some 0,some 4,some 3] [.tup<|xs.map .int,.int left,.ref V,.int i,.int j,x5]) S=.ok (.int<|xs.getD j 0) S:=by dsimp[jf,lg,bools,G]
   have c2:iK 0 (.int m::l9 [some 0,some 4,some 3] [.tup<|xs.map .int,.int left,.ref V,.int i,.int j,x5]) S=.ok (.int m) S:=by dsimp[jf,lg,bools]
   have c3:iR mh (iK 1) (iK 3) (.int m::l9 [some 0,some 4,some 3] [.tup<|xs.map .int,.int left,.ref V,.int i,.int j,x5]) S=.ok (.int<|xs.getD i 0) S:=by dsimp[jf,lg,bools,B]
   rw[Fe];by_cases c:xs.getD j 0<m
   ·rw[Yd c1 c2 (by rw[DE,aP c]) c3,DE,R.kZ,IY];show _=R.ok (decide (xs.getD j 0<m) && decide (m<xs.getD i 0)) S;rw[aP c,Bool.true_and]
   ·rw[Z4 c1 c2<|by rw[DE,aS c],R.kZ,IY];show _=R.ok (decide (xs.getD j 0<m) && decide (m<xs.getD i 0)) S;rw[aS c,gX]) (λx q _=>by
   obtain⟨m,_,rfl⟩:=bY.mp q;dsimp[jf,lg,bools]) (by rw[aH];lia)
 have ln:(((M.map A.int).filter<|pq xs i j).map λx=>x).length=Hz.am xs i j:=by
  rw[aH,gP,aH,<- gR];unfold Hz.am;rw[k,show j-i-1=j-(i+1)by lia];rfl
 have J:Hz.am xs i j<=8:=by
  unfold Hz.am;refine bP List.countP_le_length ?_;rw[aW,bN];lia
 obtain⟨S1,f⟩:∃S1,S1=S++[O.lst<|((M.map A.int).filter<|pq xs i j).map λx=>x]:=⟨_,rfl⟩;have g:mO S S1:=by rw[f];exact Kp.refl.lay
 have K:iN S1 S.length=some (((M.map A.int).filter<|pq xs i j).map λx=>x):=by rw[f];exact jb
 have d:=g.lst _ _ (λz=>z) hV;rw[<- f]at F;have p:yd (.int 2) (.int (Hz.am xs i j:Int))=λS=>R.ok (.int<|2 * (Hz.am xs i j:Int)) S:=by funext S;exact Jx ⋯ ⋯
 unfold kJ;dsimp[jf,lg,bools,F,K,ln,B,G,p];unfold cd;by_cases c1:xs.getD i 0>xs.getD j 0
 ·by_cases c2:1+2 * (Hz.am xs i j:Int)<=left
  ·refine⟨S1.set V<|.lst<|L++[qt xs i j],?_,?_,(g.of0).Nq<|.inl rfl⟩
   ·dsimp[jf,lg,bools,p,aP c1,aP c2,d,jP,Nat.reduceAdd,Q5<|show 3<=sizeLine by rw[cR];decide,AJ<|show L.length<16777216 by lia];rfl
   ·rw[aP c1,aP c2,aL<|by rfl];exact uC<|bH<|t9 d
  ·refine⟨S1,?_,?_,g.of0⟩
   ·dsimp[jf,lg,bools,p,aP c1,aS c2]
   ·rw[aS c2,iG,aK<|by simp];exact d
 ·refine⟨S1,?_,?_,g.of0⟩
  ·dsimp[jf,lg,bools,aS c1]
  ·rw[aS c1,gX,aK<|by simp];exact d
abbrev PL (xs:ag)(n:Nat)(left:Int)(q:A):Prop:=∃i j:Nat,i<j/\j<n/\xs.getD j 0<xs.getD i 0/\1+2 * (Hz.am xs i j:Int)<=left/\q=qt xs i j
def Yk{n:Nat}{xs:ag}{left:Int}(lx:xs.length=n)(h8:n<=8):∃(V:Nat) (S':iQ) (L:ae),kC [.tup<|xs.map .int,.int left] S=.ok (.ref V) S'/\iN S' V=some L/\L.length<=100/\(∀q∈L,PL xs n left q)/\mO S S':=by
 have P:mO S (S++[O.lst []]):=Kp.refl.lay;unfold kC nS nQ;dsimp[jf,lg,bools,jP,Nat.reduceAdd,Nat.reduceSub];refine sO (lo:=0) (hi:=n) (S1:=S++[O.lst []]) (src:=mX) (show mX _ _=_ from ny (by dsimp[jf,lg,bools,aH,lx])<|jZ () ())
  (λi τ T=>(∃C f x5,τ=[.tup<|xs.map .int,.int left,.ref S.length,C,f,x5])/\(∃L,iN T S.length=some L/\L.length<=i * 8/\∀q∈L,PL xs n left q)/\mO S T)
  (λr=>∃(V:Nat) (S':iQ) (L:ae),(r.seq<|jN<|iK 2).end=.ok (.ref V) S'/\iN S' V=some L/\L.length<=100/\(∀q∈L,PL xs n left q)/\mO S S')
  ⟨⟨_,_,_,rfl⟩,⟨[],jb,cE _,nofun⟩,P⟩ ?_ ?_
 ·rintro i τ T hi ⟨⟨C,f,x5,rfl⟩,⟨L,G,M,K⟩,J⟩;left;unfold pL;dsimp[jf];rw[dD];refine sO (lo:=(i:Int)+1) (hi:=n) (S1:=T) (src:=mW) (show mW _ _=_ from rE (S1:=T) (by dsimp[jf,lg,bools]) (by dsimp[jf,lg,bools,aH,lx]) (jZ () ())<|jZ () ())
   (λt d B=>(∃f x5,d=[.tup<|xs.map .int,.int left,.ref S.length,.int i,f,x5])/\(∃k,iN B S.length=some k/\k.length<=i * 8+t/\∀q∈k,PL xs n left q)/\mO S B)
   (λr=>∃d S',r=.nx d S'/\(∃C f x5,d=[.tup<|xs.map .int,.int left,.ref S.length,C,f,x5])/\(∃L,iN S' S.length=some L/\L.length<=(i+1) * 8/\∀q∈L,PL xs n left q)/\mO S S')
   ⟨⟨_,_,rfl⟩,⟨L,G,M,K⟩,J⟩ ?_ ?_
  ·rintro t d B W ⟨⟨f,x5,rfl⟩,⟨k,p,F,g⟩,m⟩;left;have Y:i * 8<=7 * 8:=fL _ ();obtain⟨S',e,U,N⟩:=Sj (S:=B) (V:=S.length) (i:=i) (j:=i+1+t) (L:=k) (left:=left) (x5:=x5) lx h8 () () p ();refine⟨[.tup<|xs.map .int,.int left,.ref S.length,.int i,.int ((i+1+t:Nat):Int),.int (Hz.am xs i (i+1+t):Int)],S',?_,⟨_,_,rfl⟩,⟨_,U,?_,?_⟩,m.old N λq hq _ z=>()⟩
   ·show kJ [.tup<|xs.map .int,.int left,.ref S.length,.int i,.int<|(i:Int)+1+t,x5] B=_;rw[show(i:Int)+1+(t:Int)=((i+1+t:Nat):Int)by lia];exact e
   ·split
    ·rw[aY];show _+1<=_;lia
    ·lia
   ·intro q hq;split at hq
    ·rename_i hc
     rcases bF.mp hq with z|z
     ·exact g q z
     ·unfold cd at hc;rw[eL,dJ,dJ]at hc;exact⟨i,i+1+t,(),(),hc.1,hc.2,bA.mp z⟩
    ·exact g q hq
  ·rintro d B ⟨⟨f,x5,rfl⟩,⟨k,p,F,g⟩,m⟩;exact⟨_,_,rfl,⟨_,_,_,rfl⟩,⟨k,p,(),g⟩,m⟩
 ·rintro τ T ⟨⟨C,f,x5,rfl⟩,⟨L,G,M,K⟩,J⟩;exact⟨S.length,T,L,by dsimp[jf,lg,bools],G,(),K,J⟩
end K33
namespace K33
open PySem L2 Am
open Bl
open Po (Pl Ok)
open Hz (IsR)
open Fw (rg)
def zD{a:A}{k:Bool}(h:wW S 12 a b=some k):tK true a b S=.ok (.bl<|!k) S:=by unfold tK;rw[h];rfl
def yu{V r:Nat}{L:ae}(h:iN S V=some L)(hr:iN S r=some []):wW S 12 (.ref V) (.ref r)=some L.isEmpty:=by
 show(iN S V).bind (λxs=>(iN S r).bind λys=>uA (wW S 11) xs ys)=_;rw[h,hr]
 cases L<;>rfl
def XY{n:Nat}{w:ag}{far:Int}(h:yk S b)(hn:n<=8)(pw:w.Perm<|rg n)(h0:0<=far) :
  ∃(x:ag) (S':iQ),oq [.ref b,.tup<|w.map .int,.int far] S=.ok (.tup<|x.map .int) S'/\x.Perm (rg n)/\Below x w/\(Iv.inv w:Int)-Iv.inv x<=far/\yk S' b/\Kp (·=b) S S':=by
 obtain⟨dd,S1,e1,d1,d2,b1,k1⟩:=digit h (show(1:Int)<=7 by decide) ⋯;unfold oq um t_;dsimp[jf,lg,bools,jP,Nat.reduceAdd,Nat.reduceSub];refine sO (lo:=0) (hi:=dd) (S1:=S1) (src:=qK) (show qK _ _=_ from ny (by dsimp[jf,lg,bools,e1])<|jZ () ())
  (λ_ τ T=>∃(x:ag) (left:Int),(∃Y x5 C P N,τ=[.ref b,.tup<|w.map .int,.int left,.tup<|x.map .int,Y,x5,C,P,N])/\x.Perm (rg n)/\Below x w/\0<=left/\left+((Iv.inv w:Int)-Iv.inv x)=far/\yk T b/\Kp (·=b) S T)
  (λr=>∃(x:ag) (S':iQ),(r.seq<|jN<|iK 3).end=.ok (.tup<|x.map .int) S'/\x.Perm (rg n)/\Below x w/\(Iv.inv w:Int)-Iv.inv x<=far/\yk S' b/\Kp (·=b) S S')
  ⟨w,far,⟨_,_,_,_,_,rfl⟩,pw,Below.refl _,h0,(),b1,k1⟩ ?_ ?_
 ·rintro i τ T hi ⟨x,left,⟨Y,x5,C,P,N,rfl⟩,px,bx,l0,lf,bT,kT⟩;left;refine hide λG hG=>?_;have lx:=kK px;obtain⟨V,T1,L,e2,J,lL,gL,Z⟩:=Yk (S:=T) (left:=left) lx hn;have B:=bT.kp Z λz=>z;have M:mO T1 (T1++[O.lst []]):=Kp.refl.lay;have p:=B.kp M λz=>z;have f:=M.lst _ _ (λz=>z) J;have K:=zD (yu f (r:=T1.length) jb)
  cases L with
  | nil=>
   refine hG ?_;unfold rB;refine⟨[.ref b,.tup<|w.map .int,.int left,.tup<|x.map .int,.int<|0+(i:Int),.ref V,C,P,N],T1++[O.lst []],?_,x,left,⟨_,_,_,_,_,rfl⟩,px,bx,l0,lf,p,(kT.trans Z.of0).trans M.of0⟩;dsimp[jf,lg,bools,e2,K,List.isEmpty_nil,bW]
  | cons q0 L0=>
   obtain⟨L,W⟩:∃L,L=q0::L0:=⟨_,rfl⟩;have lp:1<=L.length:=by rw[W,bq];lia
   rw[<- W]at J f lL gL K;have em:L.isEmpty=false:=by rw[W];rfl
   rw[em]at K;obtain⟨d,T3,e4,q1,q2,U,k4⟩:=digit p (show(1:Int)<=(L.length:Int)by lia) ();have vb:V≠b:=λz=>by
    have:=bT.lt;obtain⟨g,st,F,_⟩:=B;rw[z]at J;rw[J]at F;have F:=aU F;obtain⟨_,_,_,_,_,_,z2⟩:=gL (.int g) (by rw[F];exact aM ..);unfold qt at z2
    cases z2
   have hV3:=k4.lst _ _ vb f;obtain⟨q,hq⟩:∃q,L[d.toNat]?=some q:=⟨_,aG ()⟩;obtain⟨j,m,h1,h2,h3,h4,rfl⟩:=gL q<|aX hq;have at_:om L d=some (qt x j m):=Aq (k:=d.toNat) () hq;obtain⟨s1,s2,s3⟩:=Hz.swN px h1 h2 h3;have sw:=Jb (S:=T3) (xs:=x) h1 () ();refine hG ?_;unfold rB;refine⟨[.ref b,.tup<|w.map .int,.int<|left-(1+2 * (Hz.am x j m:Int)),.tup<|(Iv.sw x j m).map .int,.int<|0+(i:Int),.ref V,.int j,.int m,.int<|1+2 * (Hz.am x j m:Int)],T3,?_,Iv.sw x j m,_,⟨_,_,_,_,_,rfl⟩,s2,s3.trans bx,(),(),U,((kT.trans Z.of0).trans M.of0).trans k4⟩;unfold qt at at_;dsimp[jf,lg,bools,e2,K,di,f,e4,hV3,at_,kM<|show([_,_,_]:ae).length=3 from rfl,sw]
 ·rintro τ T ⟨x,left,⟨Y,x5,C,P,N,rfl⟩,px,bx,l0,lf,bT,kT⟩;exact⟨x,T,by dsimp[jf,lg,bools],px,bx,(),bT,kT⟩
end K33
namespace K33
open PySem L2 Am
open Po (Pl Ok Bd)
def G4{S:iQ}{d:Nat}{D:Pl}(hd:jY S d=some (Po.iv D))(hl:D.length<=16777216):∃S',j3 [.ref d] S=.ok (.ref<|S.length+1) S'/\iN S' (S.length+1)=some (Po.pl<|Po.Fl D)/\mO S S':=by
 obtain⟨S',e,h1,h2⟩:=O9 hd hl;refine⟨S',?_,h1,h2⟩;unfold j3 pQ pK;dsimp[jf,bools,jP,Nat.reduceAdd,Nat.reduceSub];rw[show jM [none,some 0] _ _ _ _ _ _=_ from e];rfl
def N5{S:iQ}{n:Nat}{a b:Pl}(hn:iN S n=some (Po.pl a))(hm:iN S m=some (Po.pl b))(hl:a.length+b.length<16777216) :
  ∃(L:Nat) (S':iQ),lG [.ref n,.ref m] S=.ok (.ref L) S'/\iN S' L=some (Po.pl<|Po.xU a b)/\S.length<=L/\mO S S':=by
 have g:jY (S++[.nV []]++[.lst<|Po.pl<|a++b]) S.length=some (Po.iv []):=MY B3;have j:jE (.ref n) (.ref m) (S++[.nV []])=.ok (.ref (S++[O.nV []]).length) (S++[.nV []]++[.lst<|Po.pl<|a++b]):=by
  show opt (iN (S++[.nV []]) n) _=_;rw[jB hn,jw,jB hm,jw];unfold Po.pl;rw[cL];exact zb<|show(a.map Po.pA).length+(b.map Po.pA).length<=16777216 by rw[aH,aH];lia
 obtain⟨p,k,T,e,f,kp⟩:=HP (S:=S++[.nV []]) (S1:=S++[.nV []]++[.lst<|Po.pl<|a++b]) (x0:=.ref n) (x1:=.ref m) (x3:=.unb) (x4:=.unb) (src:=lU) (l:=a++b) (show lU _ _=_ from sj (by dsimp[jf,bools,j]) jb) jb g (by rw[aY];simpa using hl);have ln:=Po.oz (a++b) [];rw[aY,b8,dh]at ln;obtain⟨S',e2,h1,h2⟩:=G4 f ();have d:mO S T:=((Kp.refl.lay (o:=.nV [])).lay (o:=.lst<|Po.pl<|a++b)).old kp λq hq _ z=>()
 refine⟨T.length+1,S',?_,h1,by have:=d.len;lia,d.trans h2⟩;unfold lG pZ pO;dsimp[jf,bools,jP,Nat.reduceAdd,Nat.reduceSub,xx];rw[show kN lU _ rQ _ _=_ from e];dsimp[jf,bools,e2]
def Km{S:iQ}{n:Nat}{a b:Pl}(hn:iN S n=some (Po.pl a))(hm:iN S m=some (Po.pl b))(hl:a.length * b.length<16777216)(ha:∀p∈a,p.2.natAbs<big)(hb:∀p∈b,p.2.natAbs<big) :
  ∃(L:Nat) (S':iQ),kP [.ref n,.ref m] S=.ok (.ref L) S'/\iN S' L=some (Po.pl<|Po.times a b)/\S.length<=L/\mO S S':=by
 have g:jY (S++[.nV []]) S.length=some []:=B3;obtain⟨C,j,k,B,T,e,f,kp⟩:=JL (S:=S++[.nV []]) (x3:=.unb) (x4:=.unb) (x5:=.unb) (x6:=.unb) (jB hn) (jB hm) g hl ha hb;have ln:=Po.oz (Po.E9 a b) [];rw[Po.yF,b8,dh]at ln;obtain⟨S',e2,h1,h2⟩:=G4 f ();have d:mO S T:=(Kp.refl.lay (o:=.nV [])).old kp λq hq _ z=>()
 refine⟨T.length+1,S',?_,h1,by have:=d.len;lia,d.trans h2⟩;unfold kP oS oM;dsimp[jf,bools,jP,Nat.reduceAdd,Nat.reduceSub,xx];rw[show kN qx _ qp _ _=_ from e];dsimp[jf,bools,e2]
open Po (Pl Ok Bd)
def K6{L:Nat}{l:Pl}(hL:iN S L=some (Po.pl l))(ok:Ok l)(hl:l.length<=1000000):∃S',mC [.ref L] S=.ok (.bl true) S'/\mO S S':=by
 unfold mC qU qD;dsimp[jf,bools,jP,Nat.reduceAdd,Nat.reduceSub,hL,dj,show Ay .lst "list" = some true from rfl,bW];refine wK (n:=L) (xs:=Po.pl l) (S1:=S) (show sW _ _=_ from sj (by dsimp[jf,bools]) hL)
  (λi τ T=>(∃f d:A,τ=[.ref L,f,d])/\T=S) (λr=>∃S',RS.end (RS.seq r _)=.ok (.bl true) S'/\mO S S') ⟨⟨_,_,rfl⟩,rfl⟩ (λi τ T h=>by rw[h.2];exact hL) ?_ ?_
 ·rintro i z τ T hz ⟨⟨f,d,rfl⟩,rfl⟩;unfold Po.pl at hz;rw[bh]at hz;obtain⟨p,hp,rfl⟩:=a_.mp hz;have nz:(p.2 == 0)=false:=by simpa using ok.nz p (aX hp)
  refine⟨[.ref L,.tup [.int p.1,.int p.2],d],T,rfl,.inl ?_⟩;unfold sX;dsimp[jf,bools,show Ay .tup "tuple" = some true from rfl,bW,bq,b8,dh,Nat.reduceAdd,show(((2:Nat):Int) == 2)=true from rfl,LV,nz];refine HM (xs:=[.int p.1,.int p.2]) (S1:=T) (show sY _ _=_ from Ff<|by dsimp[jf,bools])
   (λj τ m=>(∃d:A,τ=[.ref L,.tup [.int p.1,.int p.2],d])/\m=T) (λr=>∃g S',r=.nx g S'/\(∃f d:A,g=[.ref L,f,d])/\S'=T) ⟨⟨_,rfl⟩,rfl⟩ ?_ ?_
  ·rintro j y τ m hy ⟨⟨d,rfl⟩,rfl⟩;obtain⟨q,rfl⟩:∃q:Int,y=.int q:=by
    have:=aX hy;simp at this
    rcases this with z|z
    ·exact⟨_,z⟩
    ·exact⟨_,z⟩
   refine⟨[.ref L,.tup [.int p.1,.int p.2],.int q],m,rfl,.inl ?_⟩;unfold sV;dsimp[jf,bools,show Ay .int "int" = some true from rfl,show Ay .int "bool" = some false from rfl,bW];exact⟨_,_,rfl,⟨_,rfl⟩,rfl⟩
  ·rintro τ m ⟨⟨d,rfl⟩,rfl⟩;exact⟨_,_,rfl,⟨_,_,rfl⟩,rfl⟩
 ·rintro τ T ⟨⟨f,d,rfl⟩,rfl⟩;have C:∀j:Int,0<=j->j<(l.length:Int)->om (Po.pl l) j=some (.tup [.int (l.getD j.toNat (0,0)).1,.int (l.getD j.toNat (0,0)).2]):=λj h0 h1=>Aq (k:=j.toNat) ()<|SE ();have G:=vU (lo:=0) (hi:=(l.length:Int)-1) (cap:=[some 0]) (src:=nJ<|iR aSub (jc (f1 kH)<|iL (iK 0)<|iW)<|eC<|.int 1) (t:=uY) (e:=iR Av (iR mh (iR mh (iK 1)<|iK 0)<|eC<|.int 0)<|iR mh (iR mh (iK 1)<|iR jE (iK 0)<|eC<|.int 1)<|eC<|.int 0) (τ:=[.ref L,f,d]) (S:=T) (S1:=T)
   (ny (by dsimp[jf,bools,hL,vm])<|jZ () ()) (λ_=>true) (λ_=>.bl true) (λ_ _ _=>rfl) (λj h0 h1 _=>by
    have lt:(l.getD j.toNat (0,0)).1<(l.getD (j+1).toNat (0,0)).1:=by
     have e1:(j+1).toNat=j.toNat+1:=()
     rw[e1,aJ,aJ,aG<|show j.toNat<l.length by lia,aG<|show j.toNat+1<l.length by lia];exact cB.mp ok.up _ _ _ _ ()
    dsimp[jf,bools,hL,C j h0 (),C (j+1) () (),AR,aP lt]) ()
  have al:∀(xs:ag) (S:iQ) (n:Nat),iN S n=some (xs.map λ_=>.bl true)->Ut (.ref n) S=.ok (.bl true) S:=λxs S n h=>by
   show opt (iN S n) _=_;rw[h];show opt (A.RE _) _=_;have J:∀xs:ag,A.RE (xs.map λ_=>A.bl true)=some (xs.map λ_=>true):=λxs=>by
    induction xs with
    | nil=>rfl
    | cons x xs B=>rw[bM,w4,B];rfl
   rw[J];have F:∀xs:ag,((xs.map λ_=>true).all λb=>b)=true:=λxs=>by
    induction xs with
    | nil=>rfl
    | cons x xs B=>exact B
   show Am.R.ok (A.bl _) S=_;rw[F]
  dsimp[jf,bools,G,al _ _ _ jb];exact⟨_,rfl,Kp.refl.lay⟩
end K33
namespace Kr
open Bl L2
theorem D_(j:Int):∀{a b:ag},a.length=b.length->(∀(k:Nat) (x y:Int),a[k]?=some x->b[k]?=some y->x<=y)->cnt a j<=cnt b j
 | [],[],_,_=>dP _
 | x::a,y::b,hl,h=>by
  have h0:=h 0 x y rfl rfl;have f:=D_ j (a:=a) (b:=b) (by simpa using hl) λk u v d hv=>h (k+1) u v (by simpa using d) (by simpa using hv);show(if j<=x then 1 else 0)+cnt a j<=(if j<=y then 1 else 0)+cnt b j
  (repeat' split)<;>lia
 | [],_::_,hl,_=>by simp at hl
 | _::_,[],hl,_=>by simp at hl
theorem Gi{j:Int}:∀{a:ag},(∀x∈a,j<=x)->cnt a j=a.length
 | [],_=>rfl
 | x::a,h=>by
  have:=Gi (a:=a) λy hy=>h y<|aO _ hy;show(if j<=x then 1 else 0)+cnt a j=_;rw[aL<|h x<|aM ..,this,bq];lia
theorem cnt_none{j:Int}:∀{a:ag},(∀x∈a,x<j)->cnt a j=0
 | [],_=>rfl
 | x::a,h=>by
  have h0:=h x<|aM ..;have:=cnt_none (a:=a) λy hy=>h y<|aO _ hy;show(if j<=x then 1 else 0)+cnt a j=_;rw[aK (),this];rfl
def Rx{a b:ag}(pa:a.Pairwise (·<=·))(pb:b.Pairwise (·<=·))(hl:a.length=b.length):(∀(k:Nat) (x y:Int),a[k]?=some x->b[k]?=some y->x<=y) ↔ ∀j,cnt a j<=cnt b j:=by
 constructor
 ·intro h j;exact D_ j hl h
 ·intro h k x y g hy
  rcases(by lia:y<x\/x<=y)with z|z
  ·exfalso;obtain⟨p,ex⟩:=aN.mp g;obtain⟨f,B⟩:=aN.mp hy;have c:=h x;have F:cnt a x=cnt (a.take k) x+cnt (a.drop k) x:=by rw[<- cnt_append,cF]
   have G:cnt b x=cnt (b.take<|k+1) x+cnt (b.drop<|k+1) x:=by rw[<- cnt_append,cF]
   have c1:cnt (a.drop k) x=(a.drop k).length:=Gi λw hw=>by
    obtain⟨m,d,e⟩:=eB.mp hw;rw[List.getElem_drop]at e
    rcases Nat.eq_zero_or_pos m with q|q
    ·subst q;dsimp[Nat.add_zero]at e;lia
    ·have:=(cB.mp pa) k (k+m) p (by rw[bN]at d;lia) ()
     lia
   have c2:cnt (b.take<|k+1) x=0:=cnt_none λw hw=>by
    obtain⟨m,d,e⟩:=eB.mp hw;rw[List.getElem_take]at e;rw[aW]at d
    rcases iC m k with q|q
    ·have:=(cB.mp pb) m k () f q
     lia
    ·have:m=k:=()
     subst this;lia
   have c3:=UO (b.drop<|k+1) x;have C:=FN (a.take k) x;rw[bN]at c1 c3
   lia
  ·exact z
abbrev two (n:Nat)(i j:Int):ag:=(jt 1<|(n:Int)+1).take (i-1).toNat++[j]++((jt 1<|(n:Int)+1).drop i.toNat).take (j-1-i).toNat++[i]++(jt 1<|(n:Int)+1).drop j.toNat
def i7(n:Nat):(jt 1<|(n:Int)+1).length=n:=by rw[kO];lia
def o6{n p:Nat}(h:p<n):(jt 1<|(n:Int)+1)[p]?=some ((p:Int)+1):=by
 unfold jt;rw[bh,cI ()];simp;lia
end Kr
namespace K33
open PySem L2 Am
meta abbrev yp (w:ag):A:=.tup<|w.map .int
abbrev qb (x z:ag):Bool:=@decide (Bl.Below x z)<|Classical.propDecidable _
def Fy{x:ag}:qb x z=true ↔ Bl.Below x z:=@g8 _<|Classical.propDecidable _
def Tc{x:ag}(h:¬Bl.Below x z):qb x z=false:=by
 cases c:qb x z with
 | false=>rfl
 | true=>exact absurd (Fy.mp c) h
open Fw (rg)
def Lp{S:iQ}{ys:ag}(h:ys.length<64):xP (.tup<|ys.map .int) S=.ok (.ref S.length) (S++[.lst<|(sortI ys).map .int]):=by
 show opt (A.ints<|ys.map .int) _=_;rw[ints_map];exact Q5 h
def Xq{us:ag}{t:Nat}(h:t<=us.length):Ow (.tup<|us.map .int) none (some (t:Int)) S=.ok (.tup<|(us.take t).map .int) S:=by
 show R.ok (A.tup<|s_ (us.map .int) none<|some (t:Int)) S=_;rw[Yo _ _<|by rw[aH];exact h,ir]
def Vq{n k:Nat}{xs ys:ae}{g:Tg}{c:Am.Sm}{src:Ic}(hs:src τ S=.ok (Bv n m k) S1)(hx:xs.length=k)(hy:ys.length=k)(Inv:Nat->ae->iQ->Prop)(Post:RS->Prop)(h0:Inv 0 τ S1)(hl:∀i τ S,Inv i τ S->iN S n=some xs/\iN S m=some ys)
  (step:∀(i:Nat) x y τ S,xs[i]?=some x->ys[i]?=some y->Inv i τ S->∃τ1 S1,g (.tup [x,y]) τ S=.ok τ1 S1/\((∃τ' S',c τ1 S1=.nx τ' S'/\Inv (i+1) τ' S')\/(∃a S',c τ1 S1=.rt a S'/\Post (.rt a S'))))
  (fin:∀τ S,Inv k τ S->Post (.nx τ S)):Post (kN src g c τ S):=by
 unfold kN;rw[hs];refine zh (s:=Bv n m k) Inv Post (λi τ S d h=>?_) (λτ S h=>⟨?_,fin τ S h⟩) _ 0 τ S1 rfl h0
 ·have d:i<k:=d;obtain⟨j,f⟩:=hl i τ S h;have ex:=aG (show i<xs.length by lia);have p:=aG (show i<ys.length by lia);obtain⟨τ1,S1,e,q⟩:=step i _ _ τ S ex p h;exact⟨_,τ1,S1,by show(iN S n).bind _=_;rw[j,dB,f,dB,ex,dB,p];rfl,e,q⟩
 ·obtain⟨j,f⟩:=hl _ τ S h;show(match iN S n,iN S m with
   | some xs,some ys=>decide (xs.length<=k) || decide (ys.length<=k)
   | _,_=>false)=true
  rw[j,f];simp[hx]
def LQ{n:Nat}{x y:ag}(px:x.Perm<|rg n)(py:y.Perm<|rg n)(h1:1<=n)(h2:n<=20):∃S',kB [yp x,yp y] S=.ok (.bl<|qb x y) S'/\mO S S':=by
 have lx:=kK px;have ly:=kK py;unfold kB pV pM;dsimp[jf,bools,jP,Nat.reduceAdd,Nat.reduceSub];refine sO (lo:=1) (hi:=(n:Int)+1) (S1:=S) (show r_ _ _=_ from rE (S1:=S) (by dsimp[jf,bools]) (by dsimp[jf,bools,aH,lx]) (jZ () ())<|jZ () ())
  (λi τ T=>(∃Z G J:A,τ=[yp x,yp y,Z,G,J])/\(∀t,t<=i->∀j,Bl.cnt (x.take t) j<=Bl.cnt (y.take t) j)/\mO S T)
  (λr=>∃S',RS.end (RS.seq r _)=.ok (.bl<|qb x y) S'/\mO S S') ⟨⟨_,_,_,rfl⟩,λt ht j=>by rw[Nat.le_zero.mp ht];exact dP _,Kp.refl⟩ ?_ ?_
 ·rintro i τ T hi ⟨⟨Z,G,J,rfl⟩,f,kp⟩;have l1:(x.take<|1+i).length=1+i:=by rw[aW];lia
  have l2:(y.take<|1+i).length=1+i:=by rw[aW];lia
  have pa:=rZ<|x.take<|1+i;have pb:=rZ<|y.take<|1+i;have qa:=sortI_perm<|x.take<|1+i;have L:=sortI_perm<|y.take<|1+i;have s1:=λS=>Lp (S:=S) (ys:=x.take<|1+i) ();have s2:=λS=>Lp (S:=S) (ys:=y.take<|1+i) ();have ca:∀j,Bl.cnt (sortI<|x.take<|1+i) j=Bl.cnt (x.take<|1+i) j:=λj=>Bl.vV qa j;have cb:∀j,Bl.cnt (sortI<|y.take<|1+i) j=Bl.cnt (y.take<|1+i) j:=λj=>Bl.vV L j;have W:(sortI<|x.take<|1+i).length=1+i:=by rw[qa.length_eq];exact l1
  have N:(sortI<|y.take<|1+i).length=1+i:=by rw[L.length_eq];exact l2
  generalize sortI (x.take<|1+i)=sa at pa ca s1 W;generalize sortI (y.take<|1+i)=sb at pb cb s2 N;have Rx:=Kr.Rx pa pb ();have e1:Ow (yp x) none (some<|1+(i:Int)) T=.ok (yp<|x.take<|1+i) T:=by
   rw[show(1:Int)+(i:Int)=((1+i:Nat):Int)by lia];exact Xq ()
  have e2:Ow (yp y) none (some<|1+(i:Int)) (T++[O.lst<|sa.map A.int])=.ok (yp<|y.take<|1+i) (T++[O.lst<|sa.map A.int]):=by
   rw[show(1:Int)+(i:Int)=((1+i:Nat):Int)by lia];exact Xq ()
  have ha:iN (T++[O.lst<|sa.map A.int]++[O.lst<|sb.map A.int]) T.length=some (sa.map .int):=jB jb;have M:iN (T++[O.lst<|sa.map A.int]++[O.lst<|sb.map A.int]) (T++[O.lst<|sa.map A.int]).length=some (sb.map .int):=jb;have k3:mO S (T++[O.lst<|sa.map A.int]++[O.lst<|sb.map A.int]):=kp.lay.lay;obtain⟨U,hU⟩:∃U,U=T++[O.lst<|sa.map A.int]++[O.lst<|sb.map A.int]:=⟨_,rfl⟩;have K:rJ [yp x,yp y,.int<|1+(i:Int),G,J] T=.ok (Bv T.length (T++[O.lst<|sa.map A.int]).length<|1+i) U:=by
   have:=Nm (c:=jc (f1 xP)<|iL (FL (iK 0) qf<|m5<|iK 2) iW) (d:=jc (f1 xP)<|iL (FL (iK 1) qf<|m5<|iK 2) iW) (τ:=[yp x,yp y,.int<|1+(i:Int),G,J]) (S:=T) (S1:=T++[O.lst<|sa.map A.int]) (by dsimp[jf,bools,FL,e1,s1]) (by dsimp[jf,bools,FL,e2,s2]) ha M;rw[aH,aH,W,N,Nat.min_self,<- hU]at this;exact this
  rw[<- hU]at ha M k3;have key:(∃F C:A,lR [yp x,yp y,.int<|1+(i:Int),G,J] T=.nx [yp x,yp y,.int<|1+(i:Int),F,C] U/\∀(k:Nat) (x y:Int),sa[k]?=some x->sb[k]?=some y->x<=y)\/(lR [yp x,yp y,.int<|1+(i:Int),G,J] T=.rt (.bl false) U/\¬∀(k:Nat) (x y:Int),sa[k]?=some x->sb[k]?=some y->x<=y):=by
   unfold lR;refine Vq (n:=T.length) (m:=(T++[O.lst<|sa.map A.int]).length) (xs:=sa.map .int) (ys:=sb.map .int) (k:=1+i) K (by rw[aH,W]) (by rw[aH,N])
    (λj τ V=>(∃F C:A,τ=[yp x,yp y,.int<|1+(i:Int),F,C])/\V=U/\∀(k:Nat) (x y:Int),k<j->sa[k]?=some x->sb[k]?=some y->x<=y)
    (λr=>(∃F C:A,r=.nx [yp x,yp y,.int<|1+(i:Int),F,C] U/\∀(k:Nat) (x y:Int),sa[k]?=some x->sb[k]?=some y->x<=y)\/(r=.rt (.bl false) U/\¬∀(k:Nat) (x y:Int),sa[k]?=some x->sb[k]?=some y->x<=y))
    ⟨⟨_,_,rfl⟩,rfl,λk _ _ h=>absurd h<|dM _⟩ (λj τ V hh=>by obtain⟨_,rfl,_⟩:=hh;exact⟨ha,M⟩) ?_ ?_
   ·rintro j u v τ V hu hv ⟨⟨F,C,rfl⟩,rfl,hj⟩;rw[bh]at hu hv;obtain⟨p,hp,rfl⟩:=a_.mp hu;obtain⟨q,hq,rfl⟩:=a_.mp hv;refine⟨[yp x,yp y,.int<|1+(i:Int),.int p,.int q],V,by dsimp[jf,bools,kM<|show([_,_]:ae).length=2 from rfl],?_⟩;unfold rF;dsimp[jf,bools];by_cases c:p>q
    ·right;rw[aP c];dsimp[jf,bools];exact⟨_,_,rfl,.inr ⟨rfl,λz=>by have:=z j p q hp hq;lia⟩⟩
    ·left;rw[aS c];dsimp[jf,bools];refine⟨_,_,rfl,⟨_,_,rfl⟩,rfl,λk P Y hk g B=>?_⟩;by_cases d:k=j
     ·subst d;rw[hp]at g;rw[hq]at B
      cases g;cases B
      lia
     ·exact hj k P Y () g B
   ·rintro τ V ⟨⟨F,C,rfl⟩,rfl,hj⟩;exact .inl ⟨_,_,rfl,λk P Y g B=>hj k P Y (by have:=(aN.mp g).1;lia) g B⟩
  rcases key with⟨F,C,e3,hc⟩|⟨e3,hc⟩
  ·left;refine⟨_,_,e3,⟨_,_,_,rfl⟩,λt ht j=>?_,k3⟩;by_cases d:t=i+1
   ·subst d;rw[show i+1=1+i by lia,<- ca,<- cb];exact Rx.mp hc j
   ·exact f t () j
  ·right;refine⟨_,_,e3,U,?_,k3⟩;rw[Tc λz=>hc<|Rx.mpr λj=>by rw[ca,cb];exact z (1+i) j];dsimp[jf,bools]
 ·rintro τ T ⟨⟨Z,G,J,rfl⟩,f,kp⟩;refine⟨T,?_,kp⟩;rw[Fy.mpr λt j=>?_]
  ·dsimp[jf,bools]
  ·by_cases c:t<=n
   ·exact f t () j
   ·rw[cg (),cg ()];have:=f n () j;rw[cg (),cg ()]at this;exact this
end K33
namespace K33
open PySem L2 Am
open Bl
open Fw (rg)
theorem HN:∀(l:ag),((List.range l.length).map λi=>(((l.drop<|i+1).countP λy=>decide (y<l.getD i 0):Nat):Int)).sum=(Iv.inv l:Int)
 | []=>rfl
 | x::l=>by
  rw[bq,gq,bM,cj,fq];have:=HN l;have e:(List.map ((λi=>((((x::l).drop<|i+1).countP λy=>decide (y<(x::l).getD i 0):Nat):Int)) ∘ Nat.succ)<|List.range l.length)=(List.range l.length).map λi=>(((l.drop<|i+1).countP λy=>decide (y<l.getD i 0):Nat):Int):=rfl;rw[e,this];show((l.countP λy=>decide (y<x):Nat):Int)+_=((l.countP (λy=>decide<|y<x)+Iv.inv l:Nat):Int)
  lia
theorem BU{x:Int}:∀(l:ag),(((l.map A.int).filter λa=>match a with | .int y=>decide (y<x)|_=>false).length)=l.countP λy=>decide (y<x)
 | []=>rfl
 | y::l=>by
  rw[bM,gC,cQ];by_cases h:y<x
  ·rw[aL<|aP h,bq,BU l,aL<|aP h]
  ·rw[aK<|by simpa using h,BU l,aK<|by simpa using h];rfl
def MH{src:Ic}{g:Tg}{t:Te}{e:Ex}{S2:iQ}{s:Src}{ys:ae}(hs:src τ S=.ok s S1)(hc:l_ s g t e s.k 0 (l9 cap τ) S1=.ok ys S2)(hl:ys.length<=16777216):jM cap src g t e τ S=.ok (.ref S2.length) (S2++[.lst ys]):=by
 unfold jM;rw[hs,R.kZ,hc,R.kF,ko hl]
def EN{x:ag}{n:Nat}(lx:x.length=n)(h:n<=1000):∃S',nc [.tup<|x.map .int] S=.ok (.int (Iv.inv x:Int)) S'/\mO S S':=by
 have hs:nJ (jc (f1 kH)<|iL (iK 0) iW) [.tup<|x.map .int] S=.ok (j5 0 (n:Int)) S:=ny (by dsimp[jf,bools,aH,lx])<|jZ () ();obtain⟨S',hg,j⟩:=GS (s:=j5 0 (n:Int)) (g:=jC 0) (e:=jc (f1 kH)<|iL (jM [none,some 1,some 0] (mq<|KP (iK 1) (m5<|iR jE (iK 0)<|eC<|.int 1) qf) (jC 0) (ni<|iR Av (iK 0)<|iR mh (iK 1)<|iK 2)<|iK 0) iW) (T:=λτ=>∃a,τ=[a,.tup<|x.map .int])
  (λ_ T=>mO S T) (λi=>.int<|0+(i:Int)) (λi=>.int (((x.drop<|i+1).countP λy=>decide (y<x.getD i 0):Nat):Int)) (λi T hi _=>aL hi) (λ_ _=>rfl) (λi τ T hi m kp=>by
   obtain⟨a,rfl⟩:=m;have hi:i<((n:Int)-0).toNat:=hi;refine⟨[.int<|0+(i:Int),.tup<|x.map .int],T,T++[O.lst<|((x.drop<|i+1).map A.int).filter λa=>match a with | .int y=>decide (y<x.getD i 0)|_=>false],by dsimp[jf],⟨_,rfl⟩,?_,kp.lay⟩;have k:C6 (.tup<|x.map .int) (some<|0+(i:Int)+1) none T=.ok (.tup<|(x.drop<|i+1).map .int) T:=by
    rw[show 0+(i:Int)+1=((i+1:Nat):Int)by lia];exact ZT () ()
   have p:om (x.map A.int) (0+(i:Int))=some (.int<|x.getD i 0):=KA () ();have hc:=DM (xs:=(x.drop<|i+1).map A.int) (cap:=[some 1,some 0]) (src:=mq<|KP (iK 1) (m5<|iR jE (iK 0)<|eC<|.int 1) qf) (t:=ni<|iR Av (iK 0)<|iR mh (iK 1)<|iK 2) (e:=iK 0) (τ:=[.int<|0+(i:Int),.tup<|x.map .int]) (S:=T) (S1:=T) (Ff<|by dsimp[jf,bools,k])
    (λa=>match a with | .int y=>decide (y<x.getD i 0)|_=>false) (λa=>a) (λa f=>by
     obtain⟨y,_,rfl⟩:=bY.mp f;dsimp[jf,bools,p]) (λa f _=>by
     obtain⟨y,_,rfl⟩:=bY.mp f;dsimp[jf,bools]) (by rw[aH,bN];lia)
   rw[map_id']at hc;dsimp[jf,bools,hc];rw[BU]) n 0 [.unb,.tup<|x.map .int] S (by show n+0=((n:Int)-0).toNat;lia) ⟨_,rfl⟩ Kp.refl
 rw[<- cW]at hg;have hc:jM [none,some 0] (nJ<|jc (f1 kH)<|iL (iK 0) iW) (jC 0) uY (jc (f1 kH)<|iL (jM [none,some 1,some 0] (mq<|KP (iK 1) (m5<|iR jE (iK 0)<|eC<|.int 1) qf) (jC 0) (ni<|iR Av (iK 0)<|iR mh (iK 1)<|iK 2)<|iK 0) iW) [.tup<|x.map .int] S=.ok (.ref S'.length) (S'++[O.lst<|(List.range n).map λi=>.int (((x.drop<|i+1).countP λy=>decide (y<x.getD i 0):Nat):Int)]):=by
  exact MH hs (by show l_ (j5 0 (n:Int)) _ _ _ ((n:Int)-0).toNat 0 _ _=_;rw[show((n:Int)-0).toNat=n by lia];exact hg)<|by rw[aH,cu];lia
 have d:Wa (.ref S'.length) (S'++[O.lst<|(List.range n).map λi=>.int (((x.drop<|i+1).countP λy=>decide (y<x.getD i 0):Nat):Int)])=.ok (.int (Iv.inv x:Int)) (S'++[O.lst<|(List.range n).map λi=>.int (((x.drop<|i+1).countP λy=>decide (y<x.getD i 0):Nat):Int)]):=by
  show opt (iN _ _) _=_;rw[jb,jw];have:((List.range n).map λi=>A.int (((x.drop<|i+1).countP λy=>decide (y<x.getD i 0):Nat):Int))=((List.range n).map λi=>(((x.drop<|i+1).countP λy=>decide (y<x.getD i 0):Nat):Int)).map A.int:=by rw[cj];rfl
  rw[this,ints_map,jw,<- lx,HN]
 refine⟨S'++[O.lst<|(List.range n).map λi=>.int (((x.drop<|i+1).countP λy=>decide (y<x.getD i 0):Nat):Int)],?_,j.lay⟩;unfold nc tR uz;dsimp[jf,lg,bools,jP,Nat.reduceAdd,Nat.reduceSub,hc,d]
theorem O3:∀{l:ag},l.Nodup->(∀i,i+1<l.length->¬l.getD i 0<l.getD (i+1) 0)->l.Pairwise (λa b=>b<a)
 | [],_,_=>List.Pairwise.nil
 | [a],_,_=>cV _ _
 | a::b::l,nd,h=>by
  obtain⟨h1,h2⟩:=cY.mp nd;have d:=O3 h2 λi hi=>h (i+1) (by simpa using hi);have f:b<a:=by
   have:=h 0 (by simp);have g:a≠b:=λz=>h1 (by rw[z];exact aM);have this:¬a<b:=this
   lia
  refine bR.mpr ⟨λy hy=>?_,d⟩
  rcases bE.mp hy with z|z
  ·rw[z];exact f
  ·have:=(bR.mp d).1 y z
   lia
theorem Gu:∀{l:ag},l.Pairwise (λa b=>b<a)->2 * Iv.inv l=l.length * (l.length-1)
 | [],_=>rfl
 | a::l,h=>by
  obtain⟨h1,h2⟩:=bR.mp h;have d:=Gu h2;have c:(l.countP λy=>decide<|y<a)=l.length:=List.countP_eq_length.mpr λy hy=>aP<|h1 y hy;show 2 * (l.countP (λy=>decide<|y<a)+Iv.inv l)=(l.length+1) * l.length;rw[c,Nat.mul_add,d]
  cases l.length with
  | zero=>rfl
  | succ m=>rw[fX,f_ (m+1)<|m+1,f_ m<|m+1];rw[iA (m+1) m];lia
def Uu{n:Nat}{l:ag}(p:l.Perm<|rg n)(h:2 * Iv.inv l<n * (n-1)):∃i,i+1<n/\l.getD i 0<l.getD (i+1) 0:=by
 have d:=kK p;have nd:l.Nodup:=p.nodup_iff.mpr<|lI _ _;apply fQ;intro hn;have:=Gu<|O3 nd λi hi z=>hn ⟨i,(),z⟩;rw[d]at this
 lia
end K33
namespace K33
open PySem L2 Am
open Bl
open Fw (rg)
abbrev nu:ae->Nat
 | .tup xs::_=>match A.ints xs with
  | some l=>100-Iv.inv l
  | none=>0
 | _=>0
def VR{l:ag}:nu (.tup (l.map .int)::τ)=100-Iv.inv l:=by
 unfold nu;dsimp only;rw[ints_map]
def Qv{n:Nat}{x w:ag}{far:Int}(h1:1<=n)(h8:n<=8)(px:x.Perm<|rg n)(pw:w.Perm<|rg n)(h0:0<=far) :
  ∃(y:ag) (S':iQ),pW [.tup<|x.map .int,.tup<|w.map .int,.int far] S=.ok (.tup<|y.map .int) S'/\y.Perm (rg n)/\(Iv.inv w:Int)-Iv.inv y<=far/\mO S S':=by
 have K:=kK pw;have V:n * (n-1)<=56:=by
  have:=Nat.mul_le_mul h8 (Nat.sub_le_sub_right h8 1)
  lia
 have P:=Hz.BQ w;rw[K]at P;unfold pW vI vJ;dsimp[jf,lg,bools,jP,Nat.reduceAdd,Nat.reduceSub];refine ux (λτ T=>(∃(y:ag) (p:A),τ=[.tup<|y.map .int,.tup<|w.map .int,.int far,p]/\y.Perm (rg n))/\mO S T) (λτ _=>nu τ)
  (λr=>∃(y:ag) (S':iQ),RS.end (RS.seq r _)=.ok (.tup<|y.map .int) S'/\y.Perm (rg n)/\(Iv.inv w:Int)-Iv.inv y<=far/\mO S S') ?_ 1000000 _ S ⟨⟨x,_,rfl,px⟩,Kp.refl⟩ (by rw[VR];lia)
 rintro τ T ⟨⟨y,p,rfl,z⟩,kp⟩;have J:=kK z;obtain⟨T1,e1,M⟩:=EN (S:=T) K ();obtain⟨T2,e2,U⟩:=EN (S:=T1) J ();have g:=kp.trans<|M.trans U;have B:sE [.tup<|y.map .int,.tup<|w.map .int,.int far,p] T=.ok (decide<|(Iv.inv w:Int)-Iv.inv y>far) T2:=by
  unfold sE;dsimp[jf,lg,bools,e1,e2]
 by_cases c:(Iv.inv w:Int)-Iv.inv y>far
 ·right;rw[aP c]at B;refine⟨T2,B,.inl ?_⟩;obtain⟨i0,N,F⟩:=Uu z ();have f:∀q:Nat,q<n->om (y.map A.int) (q:Int)=some (.int<|y.getD q 0):=λq hq=>KA rfl ();obtain⟨m,has⟩:∃m:ag,m=(jt 0<|(n:Int)-1).filter λq=>decide (y.getD q.toNat 0<y.getD (q.toNat+1) 0):=⟨_,rfl⟩;have hc:=vU (lo:=0) (hi:=(n:Int)-1) (cap:=[some 0]) (src:=nJ<|iR aSub (jc (f1 kH)<|iL (iK 0) iW)<|eC<|.int 1) (t:=ni<|iR Av (iR mh (iK 1)<|iK 0)<|iR mh (iK 1)<|iR jE (iK 0)<|eC<|.int 1) (e:=iK 0) (τ:=[.tup<|y.map .int,.tup<|w.map .int,.int far,p]) (S:=T2) (S1:=T2) (ny (by dsimp[jf,bools,aH,J])<|jZ () ())
   (λq=>decide<|y.getD q.toNat 0<y.getD (q.toNat+1) 0) (λq=>.int q) (λq h0 h1=>by
    have e1:=f q.toNat ();have e2:=f (q.toNat+1) ();rw[show((q.toNat:Nat):Int)=q by lia]at e1;rw[show((q.toNat+1:Nat):Int)=q+1 by lia]at e2;dsimp[jf,bools,e1,e2]) (λq _ _ _=>by dsimp[jf,bools]) ()
  rw[<- has]at hc
  cases d:m with
  | nil=>
   exfalso;have:(i0:Int)∈m:=by
    rw[has];refine cX.mpr ⟨jR.mpr ⟨(),()⟩,aP ?_⟩;rw[eg];exact F
   rw[d]at this
   cases this
  | cons j t=>
   have G:j∈m:=by rw[d];exact aM
   rw[has]at G;obtain⟨L,C⟩:=cX.mp G;have L:=jR.mp L;have C:=bS C;obtain⟨i,rfl⟩:∃i:Nat,j=(i:Int):=⟨j.toNat,()⟩;rw[eg]at C;rw[d]at hc;have sw:=Jb (S:=T2++[O.lst<|((i:Int)::t).map A.int]) (xs:=y) (i:=i) (j:=i+1) () () ();rw[show((i+1:Nat):Int)=(i:Int)+1 by lia]at sw;have ia:=Fw.vp (l:=y) (k:=i+1) () () C;have ia:Iv.inv (Iv.sw y i<|i+1)=Iv.inv y+1:=ia;refine⟨[.tup<|(Iv.sw y i<|i+1).map .int,.tup<|w.map .int,.int far,.int i],T2++[O.lst<|((i:Int)::t).map A.int],?_,⟨⟨_,_,rfl,(Stp.Hl () ()).trans z⟩,g.lay⟩,?_⟩
   ·unfold wF;dsimp[jf,lg,bools,hc,bM,AR];rw[bM]at sw;dsimp[jf,lg,bools,sw]
   ·show nu _<nu _;rw[VR,VR,ia]
    lia
 ·left;rw[aS c]at B;exact⟨T2,B,y,T2,by dsimp[jf,lg,bools],z,(),g⟩
def QH(N:Nat):(L2.Sq (N:Int) 0).Perm (rg N):=by
 have e:(List.range ((N:Int)-0).toNat).map (λk:Nat=>(N:Int)-(k:Int))=((List.range ((N:Int)+1-1).toNat).map λk:Nat=>1+(k:Int)).reverse:=by
  refine gD (by simp) λi h1 h2=>?_;simp at h1;simp
  lia
 show((List.range ((N:Int)-0).toNat).map λk:Nat=>(N:Int)-(k:Int)).Perm ((List.range ((N:Int)+1-1).toNat).map λk:Nat=>1+(k:Int));rw[e];exact List.reverse_perm _
abbrev Out (n b:Nat)(S:iQ)(r:R A):Prop:=∃(x w:ag) (d:iQ),r=.ok (.tup [.tup<|x.map .int,.tup<|w.map .int]) d/\x.Perm (rg n)/\w.Perm (rg n)/\(n<=5\/(Iv.inv w:Int)-Iv.inv x<=6)/\yk d b/\Kp (·=b) S d
def Wz{n:Nat}{k far:Int}{x w:ag}(h:yk S b)(h1:1<=n)(h8:n<=8)(px:x.Perm<|rg n)(pw:w.Perm<|rg n)(hd:n<=5\/(Iv.inv w:Int)-Iv.inv x<=6)(kp:Kp (·=b) S0 S):Out n b S0 (sG [.ref b,.int k,.int n,.int far,.tup<|w.map .int,.tup<|x.map .int] S).end:=by
 unfold sG;by_cases c:(n:Int)<6
 ·obtain⟨d,S1,e1,_,_,f,g⟩:=digit (m:=6) h ⋯ ⋯;by_cases c1:d=1
  ·obtain⟨y,S2,e2,q,j,p⟩:=z9 (n:=(n:Int)) f () ();refine⟨y,w,S2,?_,q,pw,.inl (),j,(kp.trans g).trans p⟩;subst c1;dsimp[jf,lg,bools,aP c,e1,bI,e2,jP,Nat.reduceAdd,wc]
  ·refine⟨x,w,S1,?_,px,pw,hd,f,kp.trans g⟩;dsimp[jf,lg,bools,aP c,e1,cG.mpr c1,jP,Nat.reduceAdd,wc]
 ·refine⟨x,w,S,?_,px,pw,hd,h,kp⟩;dsimp[jf,lg,bools,aS c,jP,Nat.reduceAdd,wc]
def Vs{n:Nat}{k far:Int}{w:ag}(h:yk S b)(h1:1<=n)(h8:n<=8)(pw:w.Perm<|rg n)(f0:0<=far)(hf:n<=5\/far=6)(kp:Kp (·=b) S0 S):Out n b S0 (sR [.ref b,.int k,.int n,.int far,.tup<|w.map .int,a5] S).end:=by
 obtain⟨x,S1,e1,g,_,N,q,F⟩:=XY (S:=S) (b:=b) (n:=n) (w:=w) (far:=far) h h8 pw f0;have f:=kp.trans F;have B:n<=5\/(Iv.inv w:Int)-Iv.inv x<=6:=()
 unfold sR;dsimp[jf,lg,bools,e1];unfold wG;by_cases c:(n:Int)>5
 ·obtain⟨d,S2,e2,_,_,j,C⟩:=digit (m:=2) q ⋯ ⋯;by_cases c1:d=1
  ·obtain⟨y,S3,e3,K,L,M⟩:=z9 (n:=(n:Int)) j () ();obtain⟨z,O,G,J,fz,p⟩:=Qv (S:=S3) (far:=far) h1 h8 K pw f0;have:=Wz (S0:=S0) (k:=k) (far:=far) (L.kp p λz=>z) h1 h8 J pw ()<|((f.trans C).trans M).trans p.of0;subst c1;dsimp[jf,lg,bools,aP c,e2,bI,wD,e3,G];exact this
  ·have:=Wz (S0:=S0) (k:=k) (far:=far) j h1 h8 g pw B<|f.trans C;dsimp[jf,lg,bools,aP c,e2,cG.mpr c1];exact this
 ·have:=Wz (S0:=S0) (k:=k) (far:=far) q h1 h8 g pw B f;dsimp[jf,lg,bools,aS c];exact this
def Vf{n:Nat}{k far:Int}(h:yk S b)(h1:1<=n)(h8:n<=8)(f0:0<=far)(hf:n<=5\/far=6)(kp:Kp (·=b) S0 S):Out n b S0 (sN [.ref b,.int k,.int n,.int far,a4,a5] S).end:=by
 obtain⟨w,S1,e1,p,z,B⟩:=z9 (n:=(n:Int)) h () ();obtain⟨d,S2,e2,_,_,g,q⟩:=digit (m:=8) z ⋯ ⋯;have f:=(kp.trans B).trans q;unfold sN;dsimp[jf,lg,bools,e1];unfold v_;by_cases c1:d=3
 ·by_cases c2:(n:Int)<6
  ·have C:=P6 (c:=iK 2) (d:=eC<|.int 0) (e:=WQ OB<|eC<|.int 1) (τ:=[.ref b,.int k,.int n,.int far,.tup<|w.map .int,a5]) (S:=S2) (S1:=S2) (S2:=S2) (S3:=S2) (i:=(n:Int)) (j:=0) (by dsimp[jf,bools]) (by dsimp[jf,bools]) (by dsimp[jf,bools]) (jZ () ()) (jZ ⋯ ⋯) ();have:=Vs (S0:=S0) (k:=k) (far:=far) (a5:=a5) g h1 h8 (QH n) f0 hf f;subst c1;dsimp[jf,lg,bools,e2,bI,aP c2,C];exact this
  ·have:=Vs (S0:=S0) (k:=k) (far:=far) (a5:=a5) g h1 h8 p f0 hf f;subst c1;dsimp[jf,lg,bools,e2,bI,aS c2];exact this
 ·have:=Vs (S0:=S0) (k:=k) (far:=far) (a5:=a5) g h1 h8 p f0 hf f;dsimp[jf,lg,bools,e2,cG.mpr c1];exact this
def Qz{k:Int}(h:yk S b)(h0:0<=k):∃n,1<=n/\n<=8/\Out n b S (p8 [.ref b,.int k] S):=by
 have q:mO S (S++[O.lst [.int 4,.int 3]]):=Kp.refl.lay;obtain⟨v,hv,v3,v4⟩:∃v:Int,om ([.int 4,.int 3]:ae) (if decide ((0:Int)<k)=true then 1 else 0)=some (.int v)/\3<=v/\v<=4:=by
  by_cases c:(0:Int)<k
  ·rw[aP c];exact⟨3,rfl,by decide,by decide⟩
  ·rw[aS c];exact⟨4,rfl,by decide,by decide⟩
 obtain⟨d,S3,e3,d0,d1,B,W⟩:=digit (S:=S++[O.lst [.int 4,.int 3]]) (m:=v) (h.kp q λz=>z) () ();have f:Kp (·=b) S S3:=q.of0.trans W;obtain⟨N,U⟩:∃N:Nat,(N:Int)=2+d:=⟨(2+d).toNat,()⟩;unfold p8 vf vg;dsimp[jf,lg,bools,jP,Nat.reduceAdd,Nat.reduceSub,hv,e3,<- U];unfold wQ;by_cases C:k=0
 ·subst C;obtain⟨P,V,j,_,_,g,p⟩:=digit (m:=4) B ⋯ ⋯;by_cases c2:P=2
  ·obtain⟨F,J,Y,Z,T,G,L⟩:=digit (m:=3) g ⋯ ⋯;obtain⟨M,K⟩:∃M:Nat,(M:Int)=6+F:=⟨(6+F).toNat,()⟩;have:=Vf (S0:=S) (S:=J) (b:=b) (n:=M) (k:=0) (far:=6) (a4:=.unb) (a5:=.unb) G () () ⋯ (.inr rfl) ((f.trans p).trans L);refine⟨M,(),(),?_⟩;subst c2;dsimp[jf,lg,bools,j,bI,wz,Y,<- K];exact this
  ·have:=Vf (S0:=S) (S:=V) (b:=b) (n:=N) (k:=0) (far:=20) (a4:=.unb) (a5:=.unb) g () () ⋯ (.inl ()) (f.trans p);refine⟨N,(),(),?_⟩;dsimp[jf,lg,bools,j,bI,cG.mpr c2];exact this
 ·have:=Vf (S0:=S) (S:=S3) (b:=b) (n:=N) (k:=k) (far:=20) (a4:=.unb) (a5:=.unb) B () () ⋯ (.inl ()) f;refine⟨N,(),(),?_⟩;dsimp[jf,lg,bools,cG.mpr C];exact this
end K33
namespace K33
open PySem L2 Am
def VE{xs:ag}{k:Nat}(h0:1<=k)(h:k<xs.length):xs.take (k-1)++[xs.getD k 0,xs.getD (k-1) 0]++xs.drop (k+1)=Wd.ex xs k:=by
 apply cA;intro p;rw[Wd.oB h0 h,bD];have e1:xs[k]?=some (xs.getD k 0):=by rw[aJ,aG h];rfl
 have e2:xs[k-1]?=some (xs.getD (k-1) 0):=by rw[aJ,aG ()];rfl
 by_cases c1:p<k-1
 ·rw[bB<|by rw[aW];lia,dc c1,aK (),aK ()]
 ·rw[cM<|by rw[aW];lia,aW,d9 ()];by_cases c2:p=k-1
  ·rw[aK (),aL c2,e1,show p-(k-1)=0 by lia];rfl
  ·by_cases c3:p=k
   ·rw[aL c3,e2,show p-(k-1)=1 by lia];rfl
   ·rw[aK c3,aK c2,show p-(k-1)=(p-(k+1))+2 by lia];show(xs.drop<|k+1)[p-(k+1)]?=_;rw[dz,show k+1+(p-(k+1))=p by lia]
open Bl
open Po (Pl Ok)
open Hz (IsR)
open Fw (rg)
theorem Na{xs:ag}{k:Nat}(k1:1<=k)(k2:k<xs.length)(hl:xs.length<=1000):j6 [.tup<|xs.map .int,.int k] S=.ok (.tup<|(Wd.ex xs k).map .int) S:=by
 have d:C6 (.tup<|xs.map .int) none (some<|(k:Int)-1) S=.ok (.tup<|(xs.take<|k-1).map .int) S:=by
  rw[show(k:Int)-1=((k-1:Nat):Int)by lia];exact slT ()
 have f:C6 (.tup<|xs.map .int) (some<|(k:Int)+1) none S=.ok (.tup<|(xs.drop<|k+1).map .int) S:=by
  rw[show(k:Int)+1=((k+1:Nat):Int)by lia];exact ZT () ()
 have m:om (xs.map A.int) (k:Int)=some (.int<|xs.getD k 0):=KA rfl ();have j:om (xs.map A.int) ((k:Int)-1)=some (.int<|xs.getD (k-1) 0):=KA (k:=k-1) () ();have d1:jE (.tup<|(xs.take<|k-1).map .int) (.tup [.int<|xs.getD k 0,.int<|xs.getD (k-1) 0]) S=.ok (.tup<|(xs.take (k-1)++[xs.getD k 0,xs.getD (k-1) 0]).map .int) S:=
  w_ (ys:=[xs.getD k 0,xs.getD (k-1) 0]) (by rw[aW];show _+2<=_;lia)
 have g:jE (.tup<|(xs.take (k-1)++[xs.getD k 0,xs.getD (k-1) 0]).map .int) (.tup<|(xs.drop<|k+1).map .int) S=.ok (.tup<|(Wd.ex xs k).map .int) S:=by
  rw[w_<|by rw[aY,aW,bN];show _+2+_<=_;lia,VE k1 k2]
 unfold j6 oJ oK;dsimp[jf,lg,bools,jP,Nat.reduceAdd,Nat.reduceSub,d,m,j,wc,d1,f,g]
def xW{n:Nat}{l:ag}(p:l.Perm<|rg n)(h8:n<=8):Iv.inv l<=28:=by
 have d:n * (n-1)<=56:=by
  have:=Nat.mul_le_mul h8 (Nat.sub_le_sub_right h8 1)
  lia
 have:=Hz.BQ l;rw[kK p]at this
 lia
def QZ{n k:Nat}{x w:ag}(h1:1<=n)(h8:n<=8)(px:x.Perm<|rg n)(pw:w.Perm<|rg n)(hd:n<=5\/(Iv.inv w:Int)-Iv.inv x<=6)(k1:1<=k)(k2:k<n)(hf:Su.lX w k=true)(hl:IsR n x w l) :
  ∃(r:Nat) (S':iQ),kR [.tup<|x.map .int,.tup<|w.map .int,.int k] S=.ok (.ref r) S'/\iN S' r=some (Po.pl l)/\mO S S':=by
 have lx:=kK px;have lw:=kK pw;have g:=He.lQ px k1 k2;have d:=He.lQ pw k1 k2;have iw:=Fw.nN k1 (show k<w.length by lia)<|bS hf;have e1:=Na (S:=S) (xs:=w) k1 () ();have e2:=Na (S:=S) (xs:=x) k1 () ();have N:om (x.map A.int) ((k:Int)-1)=some (.int<|x.getD (k-1) 0):=KA (k:=k-1) () ();have U:om (x.map A.int) (k:Int)=some (.int<|x.getD k 0):=KA rfl ();have nd:x.Nodup:=px.nodup_iff.mpr<|lI _ _;have ne:x.getD (k-1) 0≠x.getD k 0:=λz=>by
  have e1:x[k-1]?=some (x.getD (k-1) 0):=by rw[aJ,aG ()];rfl
  have e2:x[k]?=some (x.getD k 0):=by rw[aJ,aG ()];rfl
  rw[z,<- e2]at e1;have:=(ie () nd).mp e1
  lia
 cases p:Su.lX x k with
 | true=>
  have lt:=bS p;have ix:=Fw.nN k1 (show k<x.length by lia) lt;obtain⟨r,S1,m,e3,F,q,L⟩:=uJ (S:=S) h1 h8 g d (xW d h8) ();have J:=(Hz.TQ px pw k1 k2 hf p q).eq hl;subst J;refine⟨r,S1,?_,F,L⟩;unfold kR nZ nW;dsimp[jf,lg,bools,jP,Nat.reduceAdd,Nat.reduceSub,e1,e2,e3,N,U,aS<|show ¬x.getD (k-1) 0<x.getD k 0 by lia]
 | false=>
  have nl:¬x.getD k 0<x.getD (k-1) 0:=λz=>by rw[show Su.lX x k=true from aP z]at p;cases p
  have ix:=Fw.vp k1 (show k<x.length by lia) (show x.getD (k-1) 0<x.getD k 0 by lia);obtain⟨r,S1,m,e3,F,q,L⟩:=uJ (S:=S) h1 h8 g d (xW d h8) ();obtain⟨S2,f⟩:∃S2,S2=S1++[O.lst<|Po.pl [(1,1)]]:=⟨_,rfl⟩;have j:mO S1 S2:=by rw[f];exact Kp.refl.lay
  have W:iN S2 S1.length=some (Po.pl [(1,1)]):=by rw[f];exact jb
  obtain⟨r4,S4,G,Z,l4,B,C⟩:=uJ (S:=S2) h1 h8 px d (xW d h8) ();have M:=q.len g d;have V:=B.len px d;have i28:=xW d h8;obtain⟨r5,S5,e5,l5,_,P⟩:=Km (C.lst _ _ (λz=>z) W) l4 (by show 1 * G.length<_;lia) Jc<|Ja B px d ();have tl:(Po.times [(1,1)] G).length<=G.length:=bP (Su.A5 _ _)<|le_of_eq<|iH _;have K:=((j.trans C).trans P).lst _ _ (λz=>z) F;obtain⟨Y,S6,e6,T,_,k6⟩:=N5 K l5 ();have J:=(Hz.TN px pw k1 k2 hf p q B).eq hl;rw[J]at T;refine⟨Y,S6,?_,T,(((L.trans j).trans C).trans P).trans k6⟩;rw[show Po.pl [((1:Int),(1:Int))]=[A.tup [.int 1,.int 1]]from rfl]at f;unfold kR nZ nW;dsimp[jf,lg,bools,jP,Nat.reduceAdd,Nat.reduceSub,e1,e2,e3,N,U,aP<|show x.getD (k-1) 0<x.getD k 0 by lia,wc,<- f,Z,e5,e6]
end K33
namespace K33
open PySem L2 Am
open Bl
open Po (Pl Ok)
open Hz (IsR)
open Fw (rg)
def Za{k:Nat}{a b c d:Int}:wW S (k+2) (.tup [.int a,.int b]) (.tup [.int c,.int d])=some (decide<|(a,b)=(c,d)):=by
 show((some<|a == c).bind λp=>((some<|b == d).bind λq=>(some true).map λr=>q && r).map λq=>p && q)=_;by_cases h1:a=c
 ·by_cases h2:b=d
  ·subst h1 h2;simp
  ·subst h1;simp[h2]
 ·simp[h1]
theorem Eb{k:Nat}:∀l m:Pl,uA (wW S<|k+2) (Po.pl l) (Po.pl m)=some (decide<|l=m)
 | [],[]=>rfl
 | [],_::_=>rfl
 | _::_,[]=>rfl
 | p::l,q::m=>by
  show(wW S (k+2) (.tup [.int p.1,.int p.2])<|.tup [.int q.1,.int q.2]).bind (λa=>(uA (wW S<|k+2) (Po.pl l)<|Po.pl m).map λb=>a && b)=_;rw[Za,Eb l m];show some (decide (p=q) && decide (l=m))=_;by_cases h1:p=q
  ·by_cases h2:l=m
   ·subst h1 h2;simp
   ·simp[h2]
  ·simp[h1]
def OE{a:Nat}(ha:iN S a=some (Po.pl l))(hb:iN S b=some (Po.pl l)):tK true (.ref a) (.ref b) S=.ok (.bl false) S:=zD (k:=true) (by
 show(iN S a).bind (λxs=>(iN S b).bind λys=>uA (wW S 11) xs ys)=_;rw[ha,hb];show uA (wW S 11) (Po.pl l) (Po.pl l)=_;rw[Eb,aP rfl])
def VB(l:Pl):(Po.pl l).isEmpty=decide (l=[]):=by cases l<;>rfl
def QV{n:Nat}{x w:ag}(h:IsR n x w l)(px:x.Perm<|rg n)(pw:w.Perm<|rg n):(!(Po.pl l).isEmpty)=qb x w:=by
 rw[VB];by_cases b:Below x w
 ·rw[Fy.mpr b];obtain⟨m,d⟩:=h.last px pw b;rw[aS<|by rw[d];simp];rfl
 ·rw[Tc b,h.eq<|Hz.Fi px pw b,aP rfl];rfl
def V5{n:Nat}{l:ag}(h:iN S n=some ((0::l).map .int))(hp:∀p∈l,0<=p):∃m:Int,Nv (.ref n) S=.ok (.int m) S/\¬m<0:=by
 have ex:∀(l:ag) (a:Int),∃m,minOf (a::l)=some m:=λl=>by
  induction l with
  | nil=>exact λa=>⟨a,rfl⟩
  | cons b l f=>
   intro a;obtain⟨m,d⟩:=f b;exact⟨_,by show(minOf (b::l)).map _=_;rw[d];rfl⟩
 obtain⟨m,d⟩:=ex l 0;refine⟨m,?_,λz=>?_⟩
 ·show opt (iN S n) _=_;rw[h,jw,ints_map,jw,d,jw]
 ·rcases bE.mp (yV d).1 with q|q
  ·lia
  ·have:=hp m q;lia
def Ue{w:ag}{n:Nat}{j:Int}(h:j∈fl w n):∃k:Nat,j=(k:Int)/\1<=k/\k<n/\Su.lX w k=true:=by
 have f:=jR.mp (cX.mp h).1;have d:j=(j.toNat:Int):=()
 refine⟨j.toNat,d,(),(),?_⟩;rw[<- yK (N:=n) () (),<- d];exact aP h
def Cy{n K V:Nat}{ns:ag}{x w:ag}{L:ag}(h1:1<=n)(h8:n<=8)(px:x.Perm<|rg n)(pw:w.Perm<|rg n)(hd:n<=5\/(Iv.inv w:Int)-Iv.inv x<=6)(hl:IsR n x w l)(hK:iN S K=some (Po.pl l))(hV:iN S V=some (L.map .int))(hL:∀j∈L,j∈fl w n) :
  ∃(a8':A) (S':iQ),kN Cv (jC 8) Cb [.frz<|ns.map .int,a1,.ref b,.tup<|x.map .int,.tup<|w.map .int,a5,.ref K,.ref V,a8] S=.nx [.frz<|ns.map .int,a1,.ref b,.tup<|x.map .int,.tup<|w.map .int,a5,.ref K,.ref V,a8'] S':=by
 refine wK (n:=V) (xs:=L.map .int) (S1:=S) (show Cv _ _=_ from sj (by dsimp[jf,bools]) hV)
  (λ_ τ T=>(∃y:A,τ=[.frz<|ns.map .int,a1,.ref b,.tup<|x.map .int,.tup<|w.map .int,a5,.ref K,.ref V,y])/\mO S T) (λr=>∃(a8':A) (S':iQ),r=.nx [.frz<|ns.map .int,a1,.ref b,.tup<|x.map .int,.tup<|w.map .int,a5,.ref K,.ref V,a8'] S')
  ⟨⟨_,rfl⟩,Kp.refl⟩ (λi τ T m=>m.2.lst _ _ (λz=>z) hV) ?_ ?_
 ·rintro i z τ T hz ⟨⟨y,rfl⟩,kp⟩;rw[bh]at hz;obtain⟨j,q,rfl⟩:=a_.mp hz;obtain⟨k,rfl,f,B,p⟩:=Ue<|hL j<|aX q;refine⟨_,_,by dsimp[jf];rfl,.inl ?_⟩;obtain⟨r,T1,e1,C,d⟩:=QZ (S:=T) h1 h8 px pw hd f B p hl;have g:=OE C<|d.lst _ _ (λz=>z)<|kp.lst _ _ (λz=>z) hK;unfold Cb;dsimp[jf,lg,bools,e1,g];exact⟨_,_,rfl,⟨_,rfl⟩,kp.trans d⟩
 ·rintro τ T ⟨⟨y,rfl⟩,kp⟩;exact⟨y,T,rfl⟩
abbrev Nx (ns:ag)(a1:A)(b:Nat)(x w:ag)(a5:A)(K:Nat)(r:RS):Prop:=∃(d f:A) (g:iQ),r=.nx [.frz<|ns.map .int,a1,.ref b,.tup<|x.map .int,.tup<|w.map .int,a5,.ref K,d,f] g
def Ov{n K V:Nat}{ns:ag}{x w:ag}{L:ag}(h1:1<=n)(h8:n<=8)(px:x.Perm<|rg n)(pw:w.Perm<|rg n)(hd:n<=5\/(Iv.inv w:Int)-Iv.inv x<=6)(hl:IsR n x w l)(hK2:iN S K=some (Po.pl l))(l2:iN S V=some (L.map .int))(hL:∀j∈L,j∈fl w n) :
  Nx ns a1 b x w a5 K (CL [.frz<|ns.map .int,a1,.ref b,.tup<|x.map .int,.tup<|w.map .int,a5,.ref K,.ref V,a8] S):=by
 unfold CL;have eq:=MA (S:=S) (x:=x) (w:=w);by_cases c:x=w
 ·rw[aP c]at eq;obtain⟨y,d,e⟩:=Cy (S:=S++[O.lst []]) (b:=b) (V:=S.length) (ns:=ns) (a1:=a1) (a5:=a5) (a8:=a8) (L:=[]) h1 h8 px pw hd hl (jB hK2) jb λj k=>nomatch k;refine⟨.ref S.length,y,d,?_⟩;dsimp[jf,lg,bools,eq,e]
 ·rw[aS c]at eq;have g:=Ob (yu (jB (o:=.lst []) hK2) (r:=S.length) jb)
  cases f:(Po.pl l).isEmpty with
  | true=>
   rw[f]at g;obtain⟨y,d,e⟩:=Cy (S:=S++[O.lst []]++[O.lst []]) (b:=b) (V:=(S++[O.lst []]).length) (ns:=ns) (a1:=a1) (a5:=a5) (a8:=a8) (L:=[]) h1 h8 px pw hd hl (jB<|jB hK2) jb λj k=>nomatch k;refine⟨.ref (S++[O.lst []]).length,y,d,?_⟩;dsimp[jf,lg,bools,eq,g,e]
  | false=>
   rw[f]at g;obtain⟨y,d,e⟩:=Cy (S:=S++[O.lst []]) (b:=b) (ns:=ns) (a1:=a1) (a5:=a5) (a8:=a8) h1 h8 px pw hd hl (jB hK2) (jB l2) hL;refine⟨.ref V,y,d,?_⟩;dsimp[jf,lg,bools,eq,g,e]
def XC{n K V:Nat}{ns:ag}{x w:ag}(h1:1<=n)(h8:n<=8)(b1:yk S b)(px:x.Perm<|rg n)(pw:w.Perm<|rg n)(hd:n<=5\/(Iv.inv w:Int)-Iv.inv x<=6)(hl:IsR n x w l)(hK1:iN S K=some (Po.pl l))(hKb:K≠b)(l1:iN S V=some ((fl w n).map .int))(vb:V≠b) :
  Nx ns a1 b x w a5 K (B0 [.frz<|ns.map .int,a1,.ref b,.tup<|x.map .int,.tup<|w.map .int,a5,.ref K,.ref V,a8] S):=by
 have J:=kK px;unfold B0;by_cases G:(n:Int)>4
 ·have C:=zD (yu (jB (o:=.lst []) l1) (r:=S.length) jb)
  cases g:fl w n with
  | nil=>
   rw[g]at C l1;have:=Ov (S:=S++[O.lst []]) (b:=b) (V:=V) (ns:=ns) (a1:=a1) (a5:=a5) (a8:=a8) (L:=[]) h1 h8 px pw hd hl (jB hK1) (jB l1) λj B=>nomatch B;dsimp[jf,lg,bools,aH,J,aP G,C,iy,List.isEmpty_nil,bW];exact this
  | cons f0 P=>
   obtain⟨p,f⟩:∃p,p=f0::P:=⟨_,rfl⟩;have U:p.length<=8:=by
    rw[f,<- g];refine bP (fy _ _) ?_;unfold jt;rw[aH,cu];lia
   rw[g,<- f]at C l1;have T:(p.map A.int).isEmpty=false:=by rw[f];rfl
   rw[T]at C;have W:1<=p.length:=by rw[f,bq];lia
   obtain⟨d,S3,e3,d0,d1,Y,M⟩:=digit (S:=S++[O.lst []]) (m:=(p.length:Int)) (b1.kp (Kp.refl.lay:mO S _) λz=>z) () ();have F:=jB (o:=.lst []) l1;have N:=M.lst _ _ vb F;obtain⟨j,B⟩:∃j,p[d.toNat]?=some j:=⟨_,aG ()⟩;have at_:om (p.map A.int) d=some (.int j):=uR (k:=d.toNat) () B;have:=Ov (S:=S3++[O.lst [.int j]]) (b:=b) (V:=S3.length) (ns:=ns) (a1:=a1) (a5:=a5) (a8:=a8) (L:=[j]) h1 h8 px pw hd hl (jB<|M.lst _ _ hKb<|jB hK1) jb (λq hq=>by
    rw[bA]at hq;rw[hq,g,<- f];exact aX B)
   dsimp[jf,lg,bools,aH,J,aP G,C,di,Ii,F,e3,N,at_];exact this
 ·have:=Ov (S:=S) (b:=b) (V:=V) (ns:=ns) (a1:=a1) (a5:=a5) (a8:=a8) h1 h8 px pw hd hl hK1 l1 λj B=>B;dsimp[jf,lg,bools,aH,J,aS G];exact this
def XR{n K:Nat}{ns:ag}{x w:ag}(h1:1<=n)(h8:n<=8)(hb:yk S b)(px:x.Perm<|rg n)(pw:w.Perm<|rg n)(hd:n<=5\/(Iv.inv w:Int)-Iv.inv x<=6)(hl:IsR n x w l)(hK:iN S K=some (Po.pl l))(hKb:K≠b) :
  Nx ns a1 b x w a5 K (C2 [.frz<|ns.map .int,a1,.ref b,.tup<|x.map .int,.tup<|w.map .int,a5,.ref K,a7,a8] S):=by
 have d:=kK px;have m:=kK pw;have f:=vU (lo:=1) (hi:=(n:Int)) (cap:=[some 4]) (src:=oZ (eC<|.int 1)<|jc (f1 kH)<|iL (iK 3) iW) (t:=ni<|iR A7 (iR mh (iK 1)<|iR aSub (iK 0)<|eC<|.int 1)<|iR mh (iK 1)<|iK 0) (e:=iK 0) (τ:=[.frz<|ns.map .int,a1,.ref b,.tup<|x.map .int,.tup<|w.map .int,a5,.ref K,a7,a8]) (S:=S) (S1:=S)
  (rE (S1:=S) (by dsimp[jf,bools]) (by dsimp[jf,bools,aH,d]) (jZ () ())<|jZ () ())
  (λk=>decide<|w.getD (k-1).toNat 0>w.getD k.toNat 0) (λk=>.int k) (λk h1 h2=>by
   have j:om (w.map A.int) (k-1)=some (.int<|w.getD (k-1).toNat 0):=WE () ();have g:om (w.map A.int) k=some (.int<|w.getD k.toNat 0):=WE () ();dsimp[jf,bools,j,g]) (λk _ _ _=>by dsimp[jf,bools]) ()
 have:=XC (S:=S++[O.lst<|(fl w n).map A.int]) (b:=b) (V:=S.length) (ns:=ns) (a1:=a1) (a5:=a5) (a8:=a8) h1 h8 (hb.kp (Kp.refl.lay:mO S _) λz=>z) px pw hd hl (jB hK) hKb jb (λz=>by have:=hb.lt;lia);unfold C2;dsimp[jf,lg,bools,f];exact this
def Um(ns:ag)(hl:ns.length<=63):∃S',BA [.frz<|ns.map .int] []=.ok (.bl true) S':=by
 unfold BA MR L3;dsimp[jf,bools,jP,Nat.reduceAdd,Nat.reduceSub];refine sO (lo:=0) (hi:=if (if 5<(ns.length:Int)then 5 else(ns.length:Int))>2 then(if 5<(ns.length:Int)then 5 else(ns.length:Int))else 2) (S1:=[]) (show Gk _ _=_ from ny (by dsimp[jf,bools,aH])<|jZ (by split<;>split<;>lia)<|by split<;>split<;>lia)
  (λ_ τ _=>∃a1 a2 a3 a4 a5 a6 a7 a8:A,τ=[.frz<|ns.map .int,a1,a2,a3,a4,a5,a6,a7,a8]) (λr=>∃S',RS.end (RS.seq r _)=.ok (.bl true) S') ⟨_,_,_,_,_,_,_,_,rfl⟩ ?_ ?_
 ·rintro i τ S hi ⟨a1,a2,a3,a4,a5,a6,a7,a8,rfl⟩;left;refine hide λG hG=>?_;have hi6:(i:Int)<6:=by split at hi<;>split at hi<;>lia
  obtain⟨S1,e1,g1,k1⟩:=QX (S:=S) (ns:=ns) (k:=0+(i:Int)) () ();obtain⟨n,h1,C,x,w,S2,e2,F,d,hd,g2,k2⟩:=Qz (S:=S1) (b:=S.length) (k:=0+(i:Int)) g1 ();obtain⟨r,S3,l,e3,l3,V,k3⟩:=uJ (S:=S2) h1 C F d (xW d C) hd;have g3:=g2.kp k3 λz=>z;have len3:=V.len F d;have i28:=xW d C;obtain⟨S4,N⟩:∃S4,S4=S3++[O.lst<|Po.pl l]:=⟨_,rfl⟩;have k4:mO S3 S4:=by rw[N];exact Kp.refl.lay
  have lK:iN S4 S3.length=some (Po.pl l):=by rw[N];exact jb
  have l4:=k4.lst _ _ (λz=>z) l3;obtain⟨S5,e5,k5⟩:=K6 l4 V.ok ();have l5:=k5.lst _ _ (λz=>z) l4;have lK5:=k5.lst _ _ (λz=>z) lK;obtain⟨B,J⟩:∃B,B=S5++[O.lst [.int 0]]:=⟨_,rfl⟩;have k6:mO S5 B:=by rw[J];exact Kp.refl.lay
  have l6:=k6.lst _ _ (λz=>z) l5;have ec:=PF (cap:=[]) (src:=mq<|iK 5) (e:=iK 0) (τ:=[.frz<|ns.map .int,.int<|0+(i:Int),.ref S.length,.tup<|x.map .int,.tup<|w.map .int,.ref r,.ref S3.length,a7,a8]) (S:=B) (S1:=B) (sj (by dsimp[jf,bools]) l6) l6 (λp=>.int p.1) (λp=>by dsimp[jf,bools]) ();obtain⟨j,M⟩:∃j,j=B++[O.lst<|l.map λp=>.int p.1]:=⟨_,rfl⟩;have k7:mO B j:=by rw[M];exact Kp.refl.lay
  rw[<- M]at ec;have z5:iN j S5.length=some [.int 0]:=k7.lst _ _ (λz=>z) (by rw[J];exact jb);have z6:iN j B.length=some (l.map λp=>.int p.1):=by rw[M];exact jb
  have ad:=XW z5 z6 (by rw[aH];show 1+l.length<=_;lia);obtain⟨f,T⟩:∃f,f=j++[O.lst<|[.int 0]++l.map λp=>.int p.1]:=⟨_,rfl⟩;have k8:mO j f:=by rw[T];exact Kp.refl.lay
  rw[<- T]at ad;obtain⟨m,em,hm⟩:=V5 (S:=f) (n:=j.length) (l:=l.map (·.1)) (by
   rw[T,jb,bM,cj];rfl) (λp hp=>by
   obtain⟨q,hq,rfl⟩:=bY.mp hp;exact(V.keys F d hq).1)
  have U:=((k5.trans k6).trans k7).trans k8;have l8:=U.lst _ _ (λz=>z) l4;have lK8:=U.lst _ _ (λz=>z) lK;have ne:=zD<|yu (jB (o:=.lst []) l8) (r:=f.length) jb;rw[QV V F d]at ne;have k9:mO f (f++[O.lst []]):=Kp.refl.lay;obtain⟨S9,e9,k9'⟩:=LQ (S:=f++[O.lst []]) F d h1 ();have e9:kB [.tup<|x.map .int,.tup<|w.map .int] (f++[O.lst []])=.ok (.bl<|qb x w) S9:=e9;have qq:(qb x w == qb x w)=true:=bI _;obtain⟨ra,Sa,la',ea,la,qa,ka⟩:=uJ (S:=S9) h1 C d d (xW d C)<|.inr ();have:=qa.eq<|Hz.FP d;subst this;have W:=OE (jB (o:=.lst [.tup [.int 0,.int 1]]) la) (b:=Sa.length) (by rw[jb];rfl);have k8a:=(k9.trans k9').trans ka;obtain⟨Y,P⟩:∃Y,Y=Sa++[O.lst [.tup [.int 0,.int 1]]]:=⟨_,rfl⟩;have kb:mO Sa Y:=by rw[P];exact Kp.refl.lay
  rw[<- P]at W;have L:=k8a.trans kb;have lb:=L.lst _ _ (λz=>z) l8;have lKb:=L.lst _ _ (λz=>z) lK8;have gb:=((g3.kp k4 λz=>z).kp U λz=>z).kp L λz=>z;have rb:r≠S.length:=λz=>by
   obtain⟨g,st,z1,_⟩:=gb;rw[z,z1]at lb;have:=aU lb
   cases l with
   | nil=>cases this
   | cons p t=>cases this
  have rK:r≠S3.length:=λz=>by have:=t9 l3;lia
  have Kb:S3.length≠S.length:=λz=>by have:=g3.lt;lia
  obtain⟨Sc,hSc⟩:∃Sc,Sc=Y.set r (.lst<|Po.pl l++[.tup [.int 99,.int 1]]):=⟨_,rfl⟩;have kc:Kp (·=r) Y Sc:=by rw[hSc];exact Kp.refl.set (.inl rfl)
  have lKc:=kc.lst _ _ (cP rK) lKb;have gc:=gb.kp kc<|cP rb;obtain⟨rd,Sd,ld',ed,ld,qd,kd⟩:=uJ (S:=Sc) h1 C F d (xW d C) hd;have:=qd.eq V;subst this;have Z:=kd.lst _ _ (λz=>z) lKc;have ned:=OE ld Z;obtain⟨a7',a8',S',ef⟩:=XR (S:=Sd) (b:=S.length) (K:=S3.length) (ns:=ns) (a1:=.int<|0+(i:Int)) (a5:=.ref r) (a7:=a7) (a8:=a8) h1 C (gc.kp kd λz=>z) F d hd V Z Kb;refine hG ?_;unfold IV Ei;dsimp[jf,lg,bools,e1,e2,kM<|show([_,_]:ae).length=2 from rfl];unfold Ep;dsimp[jf,lg,bools,e3,l3];rw[<- N];unfold DG;dsimp[jf,lg,bools,e5,bW];rw[<- J];dsimp[jf,lg,bools,show A2 2 (sJ (jC 0)<|sJ (jC 1) AU)=YK from rfl,ec,ad,em,aS hm];unfold GX;dsimp[jf,lg,bools,ne,e9,qq,bW,ea,jP,Nat.reduceAdd,wc];rw[<- P];dsimp[jf,lg,bools,W];unfold JC;dsimp[jf,lg,bools,lb,jP,Nat.reduceAdd,wc,AJ<|show(Po.pl ld').length<16777216 by rw[vm];lia];rw[<- hSc];unfold Hq;dsimp[jf,lg,bools,ed,ned,ef];exact⟨_,_,rfl,_,_,_,_,_,_,_,_,rfl⟩
 ·rintro τ S ⟨a1,a2,a3,a4,a5,a6,a7,a8,rfl⟩;dsimp[jf,bools];exact⟨_,rfl⟩
end K33
namespace K33
open PySem L2 Am
def all_mk{l:PySem.W.OpenLaw}{w:ah}{K:au}{h:aq}{mg:Str->bd}{fa:ak}(X:K.In h)(G:h.Ns mainGlobals mg)(hfa:mg "law" = some (.ref fa))
  (a1:Df K "is_whole" vn)
  (a2:Df K "need_pair" tV)
  (a3:Df K "is_exchange" qZ)
  (a4:Df K "exchanged_places" mS)
  (a5:Df K "exchanged" uw)
  (a6:Df K "place_pairs" qO)
  (a7:Df K "wrong_pairs" qY)
  (a8:Df K "length" Ad)
  (a9:Df K "falls" BR)
  (a10:Df K "first_above_nought" lE)
  (a11:Df K "bar" MJ)
  (a12:Df K "is_below" vB)
  (a13:Df K "need_bounds" rm)
  (a14:Df K "as_polynomial" oV)
  (a15:Df K "plus" FF)
  (a16:Df K "times" CD)
  (a17:Df K "need_rest" tM)
  (a18:Df K "rest_by_fall" pN)
  (a19:Df K "found_rest" o8)
  (a20:Df K "rest" F1)
  (a21:Df K "_law_bag" xF)
  (a22:Df K "_law_digit" tY)
  (a23:Df K "_law_own_poly" pX)
  (a24:Df K "_law_own_plus" pJ)
  (a25:Df K "_law_own_times" oN)
  (a26:Df K "_law_order" t7)
  (a27:Df K "_law_swapped" qI)
  (a28:Df K "_law_pairs_less" nL)
  (a29:Df K "_law_under" tW)
  (a30:Df K "_law_wrong" uy)
  (a31:Df K "_law_near" vL)
  (a32:Df K "_law_case" vF)
  (a33:Df K "_law_is_under" pU)
  (a34:Df K "_law_is_poly" qM)
  (a35:Df K "_law_exchanged" oX)
  (a36:Df K "_law_by_fall" qJ)
  (a37:Df K "law" L4)
  (aa9:PySem.W.nsIn K mainGlobals "isinstance" = some none)
  (aa_:PySem.W.nsIn K mainGlobals "bool" = some none)
  (aba:PySem.W.nsIn K mainGlobals "int" = some none)
  (abb:PySem.W.nsIn K mainGlobals "len" = some none)
  (abc:PySem.W.nsIn K mainGlobals "list" = some none)
  (abd:PySem.W.nsIn K mainGlobals "tuple" = some none)
  (abe:PySem.W.nsIn K mainGlobals "range" = some none)
  (abf:PySem.W.nsIn K mainGlobals "max" = some none)
  (abg:PySem.W.nsIn K mainGlobals "sorted" = some none)
  (abh:PySem.W.nsIn K mainGlobals "dict" = some none)
  (abi:PySem.W.nsIn K mainGlobals "sum" = some none)
  (abj:PySem.W.nsIn K mainGlobals "zip" = some none)
  (abk:PySem.W.nsIn K mainGlobals "all" = some none)
  (abl:PySem.W.nsIn K mainGlobals "min" = some none)
  {aa5:Tok} (abm:PySem.W.nsIn K mainGlobals "MOST_PAIRS" = some (some<|.int 6 aa5))
  {aa6:Tok} (abn:PySem.W.nsIn K mainGlobals "MOST_THINGS" = some (some<|.int 8 aa6))
  {aa7:Tok} (abo:PySem.W.nsIn K mainGlobals "FREE_THINGS" = some (some<|.int 5 aa7))
  : ∃fd:FuncData,(∀(s:aC) (v:af),BindsTo s fd ⟨[v],[]⟩ [("_law_script",v)])/\∀base:aq,K.In base->base.Ns mainGlobals mg->FnOk l.prog w K mg base oW 67 fa fd ["_law_script"] (qe K 1 BA):=by
 obtain⟨f,fd,a,F⟩:=a37;have e:=hfa.symm.trans (gH X G a)
 cases e
 have P:=b6 X G aa9;have M:=b6 X G aa_;have z:=b6 X G aba;have d:=b6 X G abb;have k:=b6 X G abc;have p:=b6 X G abd;have j:=b6 X G abe;have C:=b6 X G abf;have q:=b6 X G abg;have aaH:=b6 X G abh;have aaS:=b6 X G abi;have aaV:=b6 X G abj;have aaW:=b6 X G abk;have aaz:=b6 X G abl;have aaI:∃t,mg "MOST_PAIRS" = some (.int 6 t):=⟨aa5,gH X G abm⟩;have aaJ:∃t,mg "MOST_THINGS" = some (.int 8 t):=⟨aa6,gH X G abn⟩;have aaK:∃t,mg "FREE_THINGS" = some (.int 5 t):=⟨aa7,gH X G abo⟩;refine⟨fd,λs v=>(by obtain⟨_,_,_,_,_,_,_,_,_,rfl,_,_⟩:=F.ex;exact .of_eq rfl),λbase _ _=>?_⟩;have E:En l.prog w K mg base:=⟨h,X,G⟩;have aaA:=a1.kA E (λF=>C9 F P M z)<|PU λ_ _ _ _ _ _ _=>rfl;have L:=a2.kA E (λF=>CU F d)<|C5 λ_ _ _ _ _ _ _ _=>rfl;have T:=a3.kA E (λF=>z8 F aaA)<|C5 λ_ _ _ _ _ _ _ _=>rfl;have aaC:=a4.kA E (λF=>uW F k p)<|UT λ_ _ _ _ _ _ _ _ _=>rfl;have U:=a5.kA E (λF=>CS F d T aaC)<|C5 λ_ _ _ _ _ _ _ _=>rfl;have aaD:=a6.kA E (λF=>zy F j)<|PU λ_ _ _ _ _ _ _=>rfl;have aaE:=a7.kA E (λF=>zO F d aaD)<|PU λ_ _ _ _ _ _ _=>rfl;have aau:=a8.kA E (λF=>Ky F d aaE)<|PU λ_ _ _ _ _ _ _=>rfl;have aav:=a9.kA E (λF=>Mq F j d)<|PU λ_ _ _ _ _ _ _=>rfl;have aaF:=a10.kA E (λF=>tD F)<|PU λ_ _ _ _ _ _ _=>rfl;have V:=a11.kA E (λF=>VX F d j C L aaF)<|C5 λ_ _ _ _ _ _ _ _=>rfl;have aaq:=a12.kA E (λF=>Dh F V)<|C5 λ_ _ _ _ _ _ _ _=>rfl;have aaL:=a13.kA E (λF=>zE F d aau)<|us5 λ_ _ _ _ _ _ _ _ _ _ _=>rfl;have B:=a14.kA E (λF=>xH F q)<|PU λ_ _ _ _ _ _ _=>rfl;have aaM:=a15.kA E (λF=>QN F aaH B)<|C5 λ_ _ _ _ _ _ _ _=>rfl;have aaN:=a16.kA E (λF=>NX F B)<|C5 λ_ _ _ _ _ _ _ _=>rfl;have aaP:=a17.kA E (λF=>Cu F aaI aaJ aaK L aaL)<|C5 λ_ _ _ _ _ _ _ _=>rfl;have g:∀{Fs:ae->iQ->R A} {kr:Nat},nK l.prog w K mg base (4+2 * kr) "found_rest" j9 Fs->nK l.prog w K mg base (4+2 * kr+1) "rest_by_fall" lO (jO kE<|jL Fs):=λG=>a18.kA E (λF=>yl F aav U aaM aaN G)<|UT λ_ _ _ _ _ _ _ _ _=>rfl;have aaQ:=a19.rA E (λF hm hk hb=>ue F aaq g hm hk hb 30)<|UT λ_ _ _ _ _ _ _ _ _=>rfl;have J:=a20.kA E (λF=>Qf F aaP aaQ)<|C5 λ_ _ _ _ _ _ _ _=>rfl;have Z:=a21.kA E (λF=>E_ F d)<|C5 λ_ _ _ _ _ _ _ _=>rfl;have m:=a22.kA E (λF=>B4 F)<|C5 λ_ _ _ _ _ _ _ _=>rfl;have O:=a23.kA E (λF=>yh F q)<|PU λ_ _ _ _ _ _ _=>rfl;have aaX:=a24.kA E (λF=>yj F O)<|C5 λ_ _ _ _ _ _ _ _=>rfl;have aaY:=a25.kA E (λF=>xC F O)<|C5 λ_ _ _ _ _ _ _ _=>rfl;have Y:=a26.kA E (λF=>B7 F k j d p m)<|C5 λ_ _ _ _ _ _ _ _=>rfl;have N:=a27.kA E (λF=>zZ F)<|UT λ_ _ _ _ _ _ _ _ _=>rfl;have aaR:=a28.kA E (λF=>wN F j d)<|C5 λ_ _ _ _ _ _ _ _=>rfl;have aaT:=a29.kA E (λF=>BO F j d m aaR N)<|UT λ_ _ _ _ _ _ _ _ _=>rfl;have aax:=a30.kA E (λF=>CV F aaS j d)<|PU λ_ _ _ _ _ _ _=>rfl;have aaU:=a31.kA E (λF=>DS F j d aax N)<|UT λ_ _ _ _ _ _ _ _ _=>rfl;have aa0:=a32.kA E (λF=>DO F z p j m Y aaT aaU)<|C5 λ_ _ _ _ _ _ _ _=>rfl;have aa2:=a33.kA E (λF=>yg F j d aaV q)<|C5 λ_ _ _ _ _ _ _ _=>rfl;have aa1:=a34.kA E (λF=>zd F P k d p M z aaW j)<|PU λ_ _ _ _ _ _ _=>rfl;have aay:=a35.kA E (λF=>w6 F)<|C5 λ_ _ _ _ _ _ _ _=>rfl;have aa3:=a36.kA E (λF=>z_ F aay J aaX aaY)<|UT λ_ _ _ _ _ _ _ _ _=>rfl;exact VD F j C aaz d k Z aa0 J aa1 aa2 m aa3
def walk{l:PySem.W.OpenLaw}{q:aj}{XP:(Str->bd)->aq->Prop}{YP:ah->aq->Prop}{d:DefRec}{K:Params->au}(hn:l.most=some 63)(hdf:d.params.defaults=[])
  (hY:∀(w:ah) (h:aq),YP w h->(K w.params).In h)
  (F:∀(w:ah) (mg:Str->bd) (fa:ak) (h:aq),(K w.params).In h->h.Ns mainGlobals mg->mg d.name=some (.ref fa) ->
   ∃fd:FuncData,(∀(s:aC) (u:af),BindsTo s fd ⟨[u],[]⟩ [("_law_script",u)])/\∀base:aq,(K w.params).In base->base.Ns mainGlobals mg->FnOk l.prog w (K w.params) mg base oW 67 fa fd ["_law_script"] (qe (K w.params) 1 BA)) :
  PySem.W.WalkO q loose XP YP l.row.toRowW d [] (λf vs=>PySem.call f vs):=
 L2.Q3 (n:=63) (k:=67) (x := "_law_script") (CX:=λ_=>oW) (sp:=λw=>qe (K w.params) 1 BA) hn ⋯ hdf ⟨rfl,by decide,by decide⟩ hY F (λ_ H a j g m hS=>J_ m hS<|Um j g) λ_ _ _ _ _ z=>z
end K33
open PySem PySem.W PyProof.Rows
namespace PySem.W.Fast
def tw4565140659058119472:=Nat
def tw7381604409605826040:=Nat
def tw3277253600828199069:=Nat
def tw12182463784621300701:=Nat
def tw13126022939818490751:=Nat
def tw18228041303773003616:=Nat
def tw4298350024662686112:=Nat
def tw8155809703146960534:=Nat
def tw6447300541234562194:=Nat
def tw16465503938125327543:=Nat
def tw14486251674921656940:=Nat
def tw10087856867273583598:=Nat
def tw10287112394532021317:=Nat
def tw13553510982097751687:=Nat
def tw16613389256302099835:=Nat
def tw18231333477314695849:=Nat
def tw7901147117725324480:=Nat
def tw10448679820835476787:=Nat
def tw6728825687834757339:=Nat
def tw3349357682384803579:=Nat
def tw3996066751944653932:=Nat
def tw622999085856437110:=Nat
def tw11347542096506108705:=Nat
def tw2097323403368893805:=Nat
def tw6627655020337435407:=Nat
def tw11345770477709114695:=Nat
def tw14246992967883182369:=Nat
def tw16098394386706144869:=Nat
def tw3814181449228357996:=Nat
def tw56032221628566055:=Nat
def tw16444701287158702241:=Nat
def tw4427244646584897663:=Nat
def tw14004880885343038441:=Nat
def tw13203942929726316435:=Nat
def tw2073571633751472444:=Nat
def tw13113626554386990030:=Nat
def tw15563590911221535743:=Nat
def tw2433955948728115454:=Nat
def tw6083038545191287382:=Nat
def tw7564177734561463175:=Nat
def tw10009835076865894701:=Nat
def tw15371793478876753643:=Nat
def tw14597196999250539580:=Nat
def tw3705736169413547625:=Nat
def tw13650348441539761549:=Nat
def tw17156614439073693603:=Nat
def tw13990743521492450506:=Nat
def tw12504365068806276548:=Nat
def tw5225687549157536711:=Nat
def tw1732021948579331877:=Nat
def tw1896286209608780433:=Nat
def tw12949760820600910658:=Nat
def tw15647889110852340981:=Nat
def tw16006802498821714326:=Nat
def tw7377694799977180263:=Nat
def tw3600391493023852283:=Nat
def tw15216582424571071175:=Nat
def tw9064737889738761060:=Nat
def tw6810796992694270828:=Nat
def tw13332265626124719862:=Nat
def tw17612853366278941819:=Nat
def tw15395780628429500402:=Nat
def tw37087982682100343:=Nat
def tw2057679942719790701:=Nat
def tw2501907202339041364:=Nat
def tw8731715112657599909:=Nat
def tw10882321197244372050:=Nat
def tw2568228729705559676:=Nat
def tw11094309112829882228:=Nat
def tw6316344670631796899:=Nat
def tw17670087642232828517:=Nat
def tw3250920910360061936:=Nat
def tw8110234275447362098:=Nat
def tw4057141801806907506:=Nat
def tw2839234683947795777:=Nat
def tw1338123813634458116:=Nat
def tw17153397186453510795:=Nat
def tw13926691950329504681:=Nat
def tw4020520117238096328:=Nat
def tw10477323063120629523:=Nat
def tw1190926313290175661:=Nat
def tw16848178811119713736:=Nat
def tw4547060041417957773:=Nat
def tw15519245814706885720:=Nat
def tw6889033966892895653:=Nat
def tw11037321960761997852:=Nat
def tw3679775984315959094:=Nat
def tw7344962878753614209:=Nat
def tw16358810568715661900:=Nat
def tw10577355757037975579:=Nat
def tw16386765698718776063:=Nat
def tw3896987246532479743:=Nat
def tw10713918904463715316:=Nat
def tw10114836179099367492:=Nat
def tw2386210619313193291:=Nat
def tw1566446335833405099:=Nat
def tw6457067661495970085:=Nat
def tw13898659513207535301:=Nat
def tw18335957258478312930:=Nat
def tw10133023863941251464:=Nat
def tw6007889909821899896:=Nat
def tw8358848887119806820:=Nat
def tw6469154322129182760:=Nat
def tw14063280259388448657:=Nat
def tw9144102014086464782:=Nat
def tw14693992555430339696:=Nat
def tw9270966855790568976:=Nat
def tw6478410954120689598:=Nat
def tw8493969239095628490:=Nat
def tw15143235159379804438:=Nat
def tw9842611496437121484:=Nat
def tw8730381733470517975:=Nat
def tw12899601856951699005:=Nat
def tw16398711935622090681:=Nat
def tw9701973584311848443:=Nat
def tw18315409394410271785:=Nat
def tw14560952832187788475:=Nat
def tw7690135224143013924:=Nat
def tw1765527673825985851:=Nat
def tw2808790167840459722:=Nat
def tw14908443319026828726:=Nat
def tw15562038203046075287:=Nat
def tw788671877973636366:=Nat
def tw4272651592110218140:=Nat
def tw1655071605498004392:=Nat
def tw11298249191364287780:=Nat
def tw13295914650457369994:=Nat
def tw14210095295662168615:=Nat
def tw4169545952990725857:=Nat
def tw12527189558231436634:=Nat
def tw17962679019492051776:=Nat
def tw8528026186872297552:=Nat
def tw5333285363398743840:=Nat
def tw11856697856313476045:=Nat
def tw96437600294076129:=Nat
def tw11784595723337952693:=Nat
def tw1297697274824766943:=Nat
def tw7060180799642199536:=Nat
def tw8721390641378228200:=Nat
def tw1550678258219620919:=Nat
end PySem.W.Fast
set_option maxRecDepth 100000 in
set_option maxHeartbeats 0 in
theorem PySem.Challenge.cw_undercells_k33_rests_by_any_fall_holds : PySem.Challenge.rw_undercells_k33_rests_by_any_fall.Holds := by
 w_on;o_law;k_head;(case hw=>w_witness2)
 k_fill
 refine K33.walk (l:=PySem.Challenge.rw_undercells_k33_rests_by_any_fall) rfl rfl (fun w h Y=>PySem.W.kIn_of Y) ?F
 case F=>
  intro w mg fa h KX G hmg;refine' K33.all_mk KX G hmg (.of ?_ ?_ ?_ ?_) (.of ?_ ?_ ?_ ?_) (.of ?_ ?_ ?_ ?_) (.of ?_ ?_ ?_ ?_) (.of ?_ ?_ ?_ ?_) (.of ?_ ?_ ?_ ?_) (.of ?_ ?_ ?_ ?_) (.of ?_ ?_ ?_ ?_) (.of ?_ ?_ ?_ ?_) (.of ?_ ?_ ?_ ?_) (.of ?_ ?_ ?_ ?_) (.of ?_ ?_ ?_ ?_) (.of ?_ ?_ ?_ ?_) (.of ?_ ?_ ?_ ?_) (.of ?_ ?_ ?_ ?_) (.of ?_ ?_ ?_ ?_) (.of ?_ ?_ ?_ ?_) (.of ?_ ?_ ?_ ?_) (.of ?_ ?_ ?_ ?_) (.of ?_ ?_ ?_ ?_) (.of ?_ ?_ ?_ ?_) (.of ?_ ?_ ?_ ?_) (.of ?_ ?_ ?_ ?_) (.of ?_ ?_ ?_ ?_) (.of ?_ ?_ ?_ ?_) (.of ?_ ?_ ?_ ?_) (.of ?_ ?_ ?_ ?_) (.of ?_ ?_ ?_ ?_) (.of ?_ ?_ ?_ ?_) (.of ?_ ?_ ?_ ?_) (.of ?_ ?_ ?_ ?_) (.of ?_ ?_ ?_ ?_) (.of ?_ ?_ ?_ ?_) (.of ?_ ?_ ?_ ?_) (.of ?_ ?_ ?_ ?_) (.of ?_ ?_ ?_ ?_) (.of ?_ ?_ ?_ ?_) ?_ ?_ ?_ ?_ ?_ ?_ ?_ ?_ ?_ ?_ ?_ ?_ ?_ ?_ ?_ ?_ ?_
  any_goals first|k_is|kernel_rfl
