import PyProof.Rows.All
import Wide.All
import OpenK.AllK
import Wide.FinOn
import Lean
import PyProof.EqAt
import PyProof.EqKinds
import PyProof.TupleCall
import PySem.Challenge.RW_undercells_k70_number_tables_keep_the_ru
set_option autoImplicit true
set_option relaxedAutoImplicit true
set_option Elab.async false
set_option linter.all false
set_option maxRecDepth 100000
set_option compiler.extract_closed false
set_option maxHeartbeats 4000000
local macro_rules|`($a<|>$b)=>`(autoParam $a $b)
local macro_rules|`(command|abbrev $n:declId $s:optDeclSig $v:declVal)=>`(command|noncomputable def $n:declId $s:optDeclSig $v:declVal)|`(command|meta abbrev $n:declId $s:optDeclSig $v:declVal)=>`(command|@[reducible]noncomputable def $n:declId $s:optDeclSig $v:declVal)
local macro_rules|`(∅)=>`(by decide +kernel)
local macro_rules|`(⋯)=>`(by decide)
local macro_rules|`(tactic|dsimp[$l,*])=>`(tactic|simp only[$l,*])|`(tactic|dsimp[$l,*]$o:location)=>`(tactic|simp only[$l,*]$o:location)
local macro_rules(kind:=Lean.Parser.Term.structInst)|`({})=>`({cls:=.type "list",data:=.seq ([]:List PySem.Value).toArray})
set_option hygiene false
local macro_rules|`(tactic|z_go)=>`(tactic|obtain⟨ρ,S,a,b,R,va,vb,h⟩:=h9)
local macro_rules|`(tactic|x_go)=>`(tactic|obtain⟨ρ,S,τ,R,r,h⟩:=h9)
local macro_rules|`(tactic|w_up)=>`(tactic|refine⟨ρ,S,τ,R,r,iX (jb h) .refl λo S1 h1 ρ1 H1 x e1 R1 v1=>⟨ρ1,S1,τ,R1,r.ext e1,iX (jb h1) e1 λi S2 h2 ρ2 H2 y e2 R2 v2=>?_⟩⟩)
local macro_rules|`(tactic|fin2)=>`(tactic|intro pins s σ H xs us Q I r h)
local macro_rules|`(tactic|k_ne)=>`(tactic|intro X hP hw hK hc i pins s σ H E I hf st hg)
local macro_rules|`(tactic|kt_k)=>`(tactic|obtain⟨w,rfl,ρ,S,x,R,hv,h⟩:=Jh h0)
local macro_rules|`(tactic|kd_p)=>`(tactic|intro pins s σ H Q I h)
local macro_rules|`(tactic|gn_on)=>`(tactic|refine⟨ρ2,S2,o,i,a,R2,v1.ext e2,v2,va.ext (e1.trans e2),iX (jb h2) (e1.trans e2) λ_ S3 h3 ρ3 H3 e3 R3=>?_⟩)
local macro_rules|`(tactic|gp_on)=>`(tactic|obtain⟨f0,f1,f2,f3,f4,f5⟩:=hf it (by simp))
local macro_rules|`(tactic|kj_on)=>`(tactic|obtain⟨u,rfl,rx⟩:=vals1 r)
local macro_rules|`(tactic|kcf_m)=>`(tactic|refine⟨ρ,S,τ,R,r,iX (jb h) .refl λx S1 h1 ρ1 H1 v e1 R1 v1=>?_⟩)
local macro_rules|`(tactic|kcj_m)=>`(tactic|obtain⟨xs,hn,h⟩:=iY h)
local macro_rules|`(tactic|kpc_g)=>`(tactic|exact⟨ρ2,S2,x,as,R2,v1.ext e2,v2,iX h2 (e1.trans e2) λ_ _ z=>z.ext (e1.trans e2)⟩)
local macro_rules|`(tactic|kpf_c)=>`(tactic|intro pins s σ H x y v u Q I rx ry h)
local macro_rules|`(tactic|ksr_p)=>`(tactic|exact h3 ρ3 H3 σ ((e1.trans e2).trans e3) R3 (r.ext ((e1.trans e2).trans e3)))
local macro_rules|`(tactic|kst_p)=>`(tactic|exact⟨ρ1,S1,τ,R1,r.ext e1,iX h1 e1 λ_ _ z=>z.ext e1⟩)
local macro_rules|`(tactic|kln_w)=>`(tactic|exact Kp.refl.lay)
local macro_rules|`(tactic|kl_no)=>`(tactic|have hfree:∀y∈scope.names,y.2=.free->∃c,X.env.cells.lookup y.1=some c:=λy hy e=>I.ok.has _ (S.fr y hy e))
local macro_rules|`(tactic|mg_lt)=>`(tactic|obtain⟨kvs,hn,h⟩:=iY h)
local macro_rules|`(tactic|cb_eq)=>`(tactic|obtain⟨ρ,S,τ,R,r,h⟩:=h)
local macro_rules|`(tactic|o_rec)=>`(tactic|refine dR kind_sorted plain_sorted entry_sorted (args_sorted1 _) ?_)
local macro_rules|`(tactic|f_are)=>`(tactic|refine⟨R.nd,by simp,λa ha b hb e=>?_⟩)
set_option hygiene true
local macro_rules|`(())=>`(by lia)
@[reducible]def ag:=List Int
@[reducible]def am:=List Nat
@[reducible]def ar:=List PySem.Str
@[reducible]def ba:=List PySem.Value
@[reducible]def bb:=List PySem.Addr
@[reducible]def bd:=Option PySem.Value
@[reducible]def bi:=Option Bool
@[reducible]def bj:=Option Nat
@[reducible]def bn:=List<|PySem.Addr×PySem.Obj
def aG:=@List.length_map
def aH:=@List.getElem?_eq_getElem
def aI:=@PySem.wpAny_bind
def aJ:=@List.getElem?_eq_some_iff
def aK:=@List.getD_eq_getElem?_getD
def aL:=@Nat.le_refl
def aM:=@if_neg
def aN:=@PySem.wpAny_pure
def aO:=@List.mem_cons_self
def aP:=@if_pos
def aQ:=@PySem.Heap.get?_push_of_some
def aR:=@List.getElem?_map
def aS:=@List.mem_cons_of_mem
def aW:=@Option.map_eq_some_iff
def aX:=@List.mem_singleton
def aY:=@decide_eq_true
def aZ:=@Option.some.inj
def a_:=@List.size_toArray
def bf:=@List.mem_map
def bg:=@List.map_map
def bh:=@List.forall_mem_cons
def bq:=@PySem.Heap.lt_size
def br:=@List.getElem?_append_left
def bu:=@decide_eq_false
def bw:=@List.length_append
def bz:=@List.getElem?_set_self
def bA:=@Nat.ne_of_lt
def bB:=@List.mem_of_getElem?
def bC:=@List.map_append
def bD:=@PySem.Heap.get?_push_size
def bE:=@List.map_cons
def bF:=@List.mem_cons
def bG:=@Bool.false_eq_true
def bH:=@of_decide_eq_true
def bI:=@List.mem_append
def bJ:=@Nat.le_trans
def bK:=@List.getElem?_set_ne
def bL:=@Bool.false_ne_true
def bM:=@List.length_range
def bN:=@List.length_cons
def bO:=@Nat.zero_le
def bP:=@List.mem_append_right
def bQ:=@Nat.lt_of_lt_of_le
def bR:=@PySem.PassesOwn.never
def bS:=@Bool.not_true
def bT:=@List.find?_cons
def bU:=@List.map_congr_left
def bV:=@List.take_add_one
def bW:=@List.length_set
def bX:=@List.take_length
def bY:=@PyProof.Rows.wpS_bind
def bZ:=@PySem.W.mg_none_of
def b7:=@Nat.zero_add
def b8:=@Option.bind_eq_some_iff
def b9:=@List.append_nil
def b_:=@List.length_take
def cg:=@List.mem_range
def cj:=@List.pairwise_map
def cu:=@List.mem_iff_getElem
def cy:=@List.pairwise_cons
def cz:=@PySem.F.slot_dict_get
def cA:=@List.mem_filter
def cB:=@List.append_assoc
def cC:=@List.pairwise_iff_getElem
def cD:=@List.mem_of_find?_eq_some
def cE:=@PySem.F.slot_dict_keyiterator_next
def cF:=@Int.zero_add
def cG:=@PySem.W.kia_one
def cH:=@List.getElem_inj
def cI:=@beq_self_eq_true
def cJ:=@Option.bind_some
def cK:=@beq_eq_false_iff_ne
def cL:=@PySem.mem_of_lookup
def cM:=@Array.getElem?_toList
def cN:=@if_false
def cO:=@List.nodup_append
def cP:=@List.nodup_nil
def cQ:=@Bool.not_false
def cR:=@List.nodup_cons
def cT:=@Ne.symm
def cU:=@List.getElem_mem
def cV:=@PySem.wpAny_holding
def cW:=@congrArg
def cX:=@Bool.and_eq_true
def cY:=@PyProof.Rows.wpS_pure
def cZ:=@List.pairwise_singleton
def c5:=@PySem.wpAny_truthy_bool
def c6:=@List.replicate_succ
def c7:=@List.filter_eq_self
def c8:=@List.length_filter_le
def c9:=@Nat.lt_succ_self
def c_:=@of_decide_eq_false
def dc:=@List.all_eq_true
def dg:=@List.prefix_refl
def dh:=@List.prefix_append
def di:=@Option.isSome_iff_exists
def dj:=@PySem.wpAny_typeNameOfWhole_keyiter
def dm:=@PySem.wpAny_newObj_type
def dw:=@Option.isSome_map
def dz:=@List.foldl_append
def dB:=@Array.length_toList
def dD:=@List.mem_map_of_mem
def dF:=@Nat.le_of_lt
def dG:=@Option.getD_some
def dH:=@List.lookup_cons
def dI:=@PySem.wpAny_call_entry
def dJ:=@PySem.Heap.size_push
def dM:=@PySem.tupleKind_room_in1
def dN:=@List.getElem_range
def dO:=@Option.map_map
def dP:=@Nat.lt_of_le_of_lt
def dQ:=@PySem.F.type_dict_get
def dR:=@PySem.Calls.call_function_entry
def dS:=@PySem.wpAny_passesOwn
def dU:=@List.foldl_cons
def dW:=@PySem.sizeLine_eq
def dX:=@List.flatten_cons
def dY:=@Nat.lt_succ_of_lt
def dZ:=@List.Perm.eq_of_pairwise
def d7:=@PySem.wpAny_typeNameOf_keyiter
def d8:=@List.getElem?_range
def d9:=@PySem.F.args_dict_get_3
def d_:=@List.getElem_map
def ef:=@decide_eq_decide
def ez:=@PySem.W.cellsFrom_some
def eB:=@if_true
def eE:=@PySem.F.entry_dict_get
def eF:=@Array.getElem?_eq_none
def eG:=@Int.add_zero
def eK:=@List.find?_eq_none
def eL:=@Nat.not_lt_zero
def eN:=@Option.map_some
def eO:=@List.find?_some
def eS:=@List.any_cons
def eW:=@List.getElem?_toArray
def eX:=@PyProof.Rows.callWith_type1
def eY:=@List.ext_getElem?
def eZ:=@Int.toNat_natCast
def e_:=@List.range_eq_range'
def fh:=@PySem.Around.under_plainId
def fj:=@List.Perm.refl
def fm:=@List.map_nil
def fq:=@List.filter_cons
def fu:=@List.any_eq_true
def fy:=@Array.getElem?_eq_getElem
def fB:=@PySem.F.args_dict_keyiterator_next_1
def fC:=@Nat.lt_irrefl
def fF:=@PySem.wpAny_standAt
def fG:=@PySem.F.args_tuple_add_2
def fH:=@Bool.false_or
def fJ:=@PySem.F.entry_dict_keyiterator_next
def fK:=@PySem.F.slot_list_getattribute
def fL:=@PySem.F.slot_list_append
def fM:=@PySem.F.type_list_append
def fN:=@List.sum_cons
def fO:=@List.idxOf_lt_length_iff
def fP:=@List.length_nil
def fQ:=@PySem.wpAny_specialOf
def fR:=@List.filter_map
def fS:=@PySem.wpAny_mono
def fV:=@PySem.wpAny_rule
def fW:=@Int.emod_lt_of_pos
def fX:=@PySem.F.entry_tuple_add
def fY:=@PySem.meetsH_dict_get_default
def fZ:=@PySem.F.plainAttrs_dict
def f6:=@List.length_eq_zero_iff
def f7:=@Nat.one_mul
def f9:=@PySem.F.slot_tuple_add
def f_:=@PySem.Calls.callWith_builtin
def gb:=@PySem.F.slot_tuple_hash
def gc:=@Array.toList_push
def gf:=@PyProof.Rows.wpS_forRange
def gg:=@PySem.Heap.get?_push_ne
def gh:=@decide_eq_true_eq
def gp:=@List.find?_map
def gq:=@List.take_zero
def gr:=@List.eraseIdxIfInBounds_toArray
def gu:=@List.eraseIdx_eq_take_drop_succ
def gv:=@PySem.isSubtype_tuple_tuple
def gw:=@List.getElem?_eq_none
def gz:=@PySem.wpAny_isOneOf_keyiter
def gA:=@List.set_append_right
def gB:=@PySem.wpAny_forIn_list
def gC:=@PySem.wpAny_isInstance
def gD:=@PySem.Heap.size_update
def gE:=@List.mem_flatMap
def gF:=@PySem.Paired.length
def gG:=@Int.add_assoc
def gH:=@Bool.or_eq_false_iff
def gI:=@PySem.wpAny_execs_nil
def gJ:=@PySem.codeAny_builtin
def gK:=@PySem.F.slot_tuple_eq
def gM:=@Int.emod_nonneg
def gO:=@List.filterMap_cons
def gP:=@PySem.W.kdu_collect
def gQ:=@List.flatMap_append
def gR:=@Nat.succ_mul
def gS:=@PySem.wpAny_Call_Name_kw
def gT:=@List.getElem?_append_right
def gU:=@PySem.call_meets
def gW:=@Option.isSome_some
def gY:=@List.forIn_nil
def gZ:=@PySem.wpAny_tupleItemsOf
def g_:=@Array.forIn_toList
def h_:=@List.perm_ext_iff_of_nodup
def ie:=@PySem.wpAny_fieldsOf
def ig:=@Array.getElem?_eq_none_iff
def ir:=@beq_iff_eq
def iu:=@PySem.wpAny_pyIter_list
def iy:=@PySem.wpAny_dictEntries
def iz:=@List.find?_isSome
def iA:=@List.map_id
def iB:=@List.isEmpty_cons
def iC:=@PySem.W.mg_of
def iD:=@List.cons_append
def iE:=@List.countP_cons
def iF:=@List.isEmpty_nil
def iG:=@PySem.codeAny_mono
def iH:=@Nat.lt_trans
def iI:=@PySem.wpAny_typeOf
def iJ:=@PySem.call_meetsIn
def iK:=@Int.mul_zero
def iL:=@List.of_mem_zip
def iM:=@List.forIn_cons
def iN:=@Array.size_zip
def iO:=@List.foldl_map
def iP:=@Nat.mul_le_mul
@[reducible]def af:=PySem.Value
@[reducible]def ah:=PySem.World
@[reducible]def aj:=PySem.Program
@[reducible]def ak:=PySem.Addr
@[reducible]def aq:=PySem.Heap
@[reducible]def au:=PySem.W.Frag
@[reducible]def aA:=PySem.Around
@[reducible]def aC:=PySem.Shared
@[reducible]def aE:=PySem.Expr
@[reducible]def aF:=PySem.Stmt
def anI{a b:Prop}(h:a)(k:b):a/\b:=⟨h,k⟩
open Array (size_map)
open List (all_map any_map map_id' map_set)
open Nat (mul_comm not_lt)
open Option (isSome_none)
namespace L2
open PySem PySem.Spec PyProof.Rows
meta abbrev Key:=Sum Int Str
abbrev zP:Key->af->Bool
 | .inl k,v=>Value.isInt k v
 | .inr x,v=>Value.isStrOf x v
abbrev ZA (w:ah):Key->Int
 | .inl k=>hashInt k
 | .inr x=>hashStr w x
def ku:∀{k:Key}{v:af},zP k v=true->(∃i t,k=Sum.inl i/\v=Value.int i t)\/(∃x t,k=Sum.inr x/\v=Value.str x t)
 | .inl i,v,h=>by
  obtain⟨t,e⟩:=Value.isInt_shape (k:=i) (v:=v) h;exact .inl ⟨i,t,rfl,e⟩
 | .inr x,v,h=>by
  obtain⟨t,e⟩:=Value.isStrOf_shape (x:=x) (v:=v) h;exact .inr ⟨x,t,rfl,e⟩
def HV(i:Int)(t:Tok):zP (.inl i) (.int i t)=true:=by simp[zP,Value.isInt]
def HQ(x:Str)(t:Tok):zP (.inr x) (.str x t)=true:=by simp[zP,Value.isStrOf]
def SJ(a b:Int):decide ((Sum.inl a:Key)=Sum.inl b)=(a == b):=by
 by_cases e:a=b
 ·subst e;simp
 ·have h:¬(Sum.inl a:Key)=Sum.inl b:=λq=>e<|Sum.inl.inj q;rw[bu h];exact(cK.mpr e).symm
def TF(a b:Str):decide ((Sum.inr a:Key)=Sum.inr b)=decide (a=b):=by
 by_cases e:a=b
 ·subst e;simp
 ·have h:¬(Sum.inr a:Key)=Sum.inr b:=λq=>e<|Sum.inr.inj q;rw[bu h,bu e]
def Tf(a:Int)(b:Str):decide ((Sum.inl a:Key)=Sum.inr b)=false:=bu λq=>nomatch q
def Sa(a:Str)(b:Int):decide ((Sum.inr a:Key)=Sum.inl b)=false:=bu λq=>nomatch q
abbrev jL (prog:aj)(w:ah):PySem.KeyKind prog w Key where
 is:=zP
 hash:=ZA w
 inj:=λv a b ha hb=>by
  rcases ku ha with⟨i,t,rfl,rfl⟩|⟨x,t,rfl,rfl⟩
  ·rcases ku hb with⟨j,u,rfl,e⟩|⟨y,u,rfl,e⟩
   ·injection e with e1 _;rw[e1]
   ·exact nomatch e
  ·rcases ku hb with⟨j,u,rfl,e⟩|⟨y,u,rfl,e⟩
   ·exact nomatch e
   ·injection e with e1 _;rw[e1]
 byValue:=λk v h=>by
  rcases ku h with⟨i,t,rfl,rfl⟩|⟨x,t,rfl,rfl⟩<;>rfl
 pyHash:=λhv h=>by
  rcases ku hv with⟨i,t,rfl,rfl⟩|⟨x,t,rfl,rfl⟩
  ·exact wpAny_pyHash_int h
  ·exact wpAny_pyHash_str h
 eqBool:=λd hv h=>by
  rcases ku d with⟨i,t,rfl,rfl⟩|⟨x,t,rfl,rfl⟩
  ·rcases ku hv with⟨j,u,rfl,rfl⟩|⟨y,u,rfl,rfl⟩
   ·rw[SJ]at h;exact wpAny_eqBool_int h
   ·rw[Tf]at h;exact SeqAt.EqAt.int_str i t y u _ _ _ _ h
  ·rcases ku hv with⟨j,u,rfl,rfl⟩|⟨y,u,rfl,rfl⟩
   ·rw[Sa]at h;exact SeqAt.EqAt.str_int x t j u _ _ _ _ h
   ·rw[TF]at h;exact wpAny_eqBool_str h
 «strs»:=λk x t v h=>by
  rcases ku h with⟨i,u,rfl,e⟩|⟨y,u,rfl,e⟩
  ·exact nomatch e
  ·injection e with e1 _
   subst e1
   cases v<;>rfl
def CL(prog:aj)(w:ah)(i:Int)(t:Tok):(jL prog w).is (.inl i) (.int i t)=true:=HV i t
def C9(prog:aj)(w:ah)(x:Str)(t:Tok):(jL prog w).is (.inr x) (.str x t)=true:=HQ x t
inductive V where
 | non|bl (b:Bool)|int (i:Int)|str (x:Str)|byt (b:Array UInt8)|flt (b:UInt64)|ref (a:ak)|ty (n:String)
 deriving DecidableEq
abbrev RelV:V->af->Prop
 | .non,u=>u=Value.none
 | .bl b,u=>u=Value.bool b
 | .int i,u=>∃t,u=Value.int i t
 | .str x,u=>∃t,u=Value.str x t
 | .byt b,u=>∃t,u=Value.bytes b t
 | .flt b,u=>∃t,u=Value.float b t
 | .ref a,u=>u=Value.ref a
 | .ty n,u=>u=Value.type n
meta abbrev Vals:List V->ba->Prop:=Paired RelV
def Vals.length{xs:List V}{us:ba}(r:Vals xs us):xs.length=us.length:=gF r
theorem Vals.get:∀{xs:List V}{us:ba}{i:Nat}{x:V},Vals xs us->xs[i]?=some x->∃u,us[i]?=some u/\RelV x u
 | _,_,_,_,.nil,e=>by simp at e
 | _,_,0,_,.cons r _,e=>by simp at e;subst e;exact⟨_,rfl,r⟩
 | _,_,i+1,x,.cons _ t,e=>by
  obtain⟨u,h1,h2⟩:=Vals.get (i:=i) (x:=x) t (by simpa using e);exact⟨u,by simpa using h1,h2⟩
theorem Vals.set{x:V}(r:RelV x u):∀{xs:List V}{us:ba}(i:Nat),Vals xs us->Vals (xs.set i x) (us.set i u)
 | _,_,_,.nil=>.nil
 | _,_,0,.cons _ t=>.cons r t
 | _,_,i+1,.cons q t=>.cons q<|Vals.set r i t
theorem Vals.append:∀{xs ys:List V}{us ws:ba},Vals xs us->Vals ys ws->Vals (xs++ys) (us++ws)
 | _,_,_,_,.nil,s=>s
 | _,_,_,_,.cons r t,s=>.cons r<|Vals.append t s
abbrev v5:Option V->bd->Prop
 | some v,some u=>RelV v u
 | none,none=>True
 | _,_=>False
abbrev KV {κ:Type}:List (κ×V)->List (κ×af)->Prop:=Paired λ(p:κ×V) (q:κ×af)=>p.1=q.1/\RelV p.2 q.2
abbrev kV:Key->V
 | .inl i=>.int i
 | .inr x=>.str x
inductive HO where
 | lst (xs:List V)
 | tup (xs:List V)
 | dK (kvs:List<|Key×V)|dT (kvs:List<|List Key×V)
 | set (S:Int->Bool) (n:Nat)
 | ins (C dx:ak) (fs:List<|Str×V)
 | own (x:ak)
 | xd (fs:List<|Str×V)
 | met (f x:ak)
 | rng (lo hi:Int)
 | frz (o:Obj) (u:HO)
 | tbl (ps:Array af)
 | ext (φ:aq->Prop)
meta abbrev Hp:=ak->Option HO
abbrev upd (H:Hp)(a:ak)(o:HO):Hp:=λb=>if b=a then some o else H b
def jF{H:Hp}{a:ak}:upd H a o a=some o:=by unfold upd;rw[aP rfl]
def i_{H:Hp}{a b:ak}(h:b≠a):upd H a o b=H b:=by unfold upd;rw[aM h]
def Ft{H:Hp}{a b:ak}(h:H a=some o)(h':H b=some u)(d:o≠u):a≠b:=by
 intro e;subst e;rw[h]at h';exact d<|aZ h'
def jo{H:Hp}{a b:ak}(h:H a=some o)(h':H b=none):a≠b:=by
 intro e;subst e;rw[h]at h';cases h'
abbrev pT (h:aq)(a:ak)(items:Array af):Prop:=∃o,h.get? a=some o/\o.cls=.type "tuple" /\ o.dict=none/\∃n,o.data=.seq items n
def pT.tup{a:ak}:pT h a items->IsTup h a items:=λ⟨o,e,c,_,n,d⟩=>⟨o,e,c,n,d⟩
def pT.new(h:aq)(items:Array af):pT (h.push { cls:=.type "tuple",data:=.seq items }) h.objs.size items:=⟨_,bD _ rfl,rfl,rfl,_,rfl⟩
def pT.lt{h:aq}{a:ak}(x:pT h a items):a<h.objs.size:=let⟨_,ho,_⟩:=x;bq ho
section
variable (P:aj) (w:ah)
abbrev jJ (H:Hp)(h:aq)(a:ak):HO->Prop
 | .lst xs=>xs.length<=sizeLine/\∃(d:ba) (n:Nat),Vals xs d/\h.get? a=some { cls:=.type "list",data:=.seq d.toArray n }
 | .tup xs=>xs.length<=sizeLine/\∃d:ba,Vals xs d/\pT h a d.toArray
 | .dK kvs=>kvs.length<=sizeLine/\(a == sysModules)=false/\∃k,KV kvs k/\h.DictOf (jL P w) a k
 | .dT kvs=>kvs.length<=sizeLine/\(a == sysModules)=false/\∃xs:List<|List Key×ak×af,
   Paired (λ(p:List Key×V) (q:List Key×ak×af)=>p.1=q.1/\H q.2.1=some (.tup<|p.1.map kV)/\RelV p.2 q.2.2) kvs xs /\
   ∃o es ep,h.get? a=some o/\o.ExactDict/\o.data=.dict es ep/\es.toList=xs.map (entryOfKey<|tupleKind<|jL P w)/\(xs.map (·.1)).Nodup
 | .set S n=>h.SetOf (intKind P w) a S n
 | .ins C dx fs=>H dx=some (.own a)/\fs.length<=1000/\dx≠a/\h.get? a=some (PySem.W.instObj C dx) /\
   ∃g,h.Ns1 dx g/\(∀f,v5 (fs.lookup f)<|g f)/\PySem.Within g (fs.map (·.1))
 | .own _=>∃o,h.get? a=some o
 | .xd fs=>∃g,h.Ns1 a g/\∀f,v5 (fs.lookup f) (g f)
 | .rng m B=>∃t u v,h.get? a=some { cls:=.type "range",data:=.fields #[.int m t,.int B u,.int 1 v]}
 | .frz o u=>h.get? a=some o/\jJ H h a u
 | .tbl ps=>h.get? a=some { cls:=.none,data:=.fields ps }
 | .met f x=>h.get? a=some (PySem.W.methodObj (.ref f)<|.ref x)
 | .ext j=>j h/\(∃o,h.get? a=some o)/\∀h1 h2:aq,j h1->(∀o,h1.get? a=some o->h2.get? a=some o)->j h2
abbrev vd (H:Hp)(h:aq):Prop:=∀a o,H a=some o->jJ P w H h a o
end
section
variable {P:aj}{w:ah}{H H':Hp}{h h':aq}{a:ak}{o:HO}
def jJ.lt(x:jJ P w H h a o):a<h.objs.size:=by
 cases o with
 | lst xs=>obtain⟨_,_,_,_,e⟩:=x;exact bq e
 | tup xs=>obtain⟨_,_,_,p⟩:=x;exact pT.lt p
 | dK kvs=>obtain⟨_,_,_,_,o,_,_,e,_⟩:=x;exact bq e
 | dT kvs=>obtain⟨_,_,_,_,o,_,_,e,_⟩:=x;exact bq e
 | set S n=>obtain⟨o,_,_,_,e,_⟩:=x;exact bq e
 | ins C dx fs=>obtain⟨_,_,_,e,_⟩:=x;exact bq e
 | own y=>obtain⟨_,e⟩:=x;exact bq e
 | xd fs=>obtain⟨_,⟨_,_,_,e,_⟩,_⟩:=x;exact bq e
 | rng d g=>obtain⟨_,_,_,e⟩:=x;exact bq e
 | frz ob u=>obtain⟨e,_⟩:=x;exact bq e
 | tbl ps=>exact bq (show h.get? a=some _ from x)
 | met f y=>exact bq (show h.get? a=some _ from x)
 | ext j=>obtain⟨_,⟨_,e⟩,_⟩:=x;exact bq e
theorem Paired.Um{α β:Type}{F G:α->β->Prop}:∀{l₁:List α}{l₂:List β},Paired F l₁ l₂->(∀a b,F a b->G a b)->Paired G l₁ l₂
 | _,_,.nil,_=>.nil
 | _,_,.cons r t,f=>.cons (f _ _ r)<|Paired.Um t f
def jJ.stay(x:jJ P w H h a o)(k:∀b u,(b=a\/H b=some (.own a))->h.get? b=some u->h'.get? b=some u)
  (ho:∀b,H b=some (.own a)->H' b=some (.own a)) (ht:∀b xs,H b=some (.tup xs)->H' b=some (.tup xs)):jJ P w H' h' a o:=by
 induction o with
 | lst xs=>obtain⟨z,g,n,r,e⟩:=x;exact⟨z,g,n,r,k _ _ (.inl rfl) e⟩
 | tup xs=>obtain⟨z,g,r,ob,e,c⟩:=x;exact⟨z,g,r,ob,k _ _ (.inl rfl) e,c⟩
 | dK kvs=>obtain⟨z,y,D,r,ob,es,ep,e,c⟩:=x;exact⟨z,y,D,r,ob,es,ep,k _ _ (.inl rfl) e,c⟩
 | dT kvs=>
  obtain⟨z,y,xs,r,ob,es,ep,e,c⟩:=x;exact⟨z,y,xs,Paired.Um r λp q z=>⟨z.1,ht _ _ z.2.1,z.2.2⟩,ob,es,ep,k _ _ (.inl rfl) e,c⟩
 | set S n=>obtain⟨ob,es,ep,t,e,c⟩:=x;exact⟨ob,es,ep,t,k _ _ (.inl rfl) e,c⟩
 | ins C dx fs=>
  obtain⟨d,z,ne,e,m,⟨j,es,ep,e2,c⟩,r⟩:=x;exact⟨ho _ d,z,ne,k _ _ (.inl rfl) e,m,⟨j,es,ep,k _ _ (.inr d) e2,c⟩,r⟩
 | own y=>obtain⟨ob,e⟩:=x;exact⟨ob,k _ _ (.inl rfl) e⟩
 | xd fs=>obtain⟨m,⟨j,es,ep,e,c⟩,r⟩:=x;exact⟨m,⟨j,es,ep,k _ _ (.inl rfl) e,c⟩,r⟩
 | rng F G=>obtain⟨t,u,v,e⟩:=x;exact⟨t,u,v,k _ _ (.inl rfl) e⟩
 | frz ob u B=>obtain⟨e,q⟩:=x;exact⟨k _ _ (.inl rfl) e,B q⟩
 | tbl ps=>
  have e:h.get? a=some { cls:=.none,data:=.fields ps }:=x
  skip
  exact k a _ (.inl rfl) e
 | met f y=>
  have e:h.get? a=some (PySem.W.methodObj (.ref f)<|.ref y):=x
  skip
  exact k a _ (.inl rfl) e
 | ext J=>obtain⟨p,⟨o,e⟩,st⟩:=x;exact⟨st _ _ p λo q=>k _ _ (.inl rfl) q,⟨o,k _ _ (.inl rfl) e⟩,st⟩
def vd.lt(x:vd P w H h)(e:H a=some o):a<h.objs.size:=(x a o e).lt
def vd.fresh(x:vd P w H h)(e:h.objs.size<=a):H a=none:=by
 cases q:H a with
 | none=>rfl
 | some u=>exact absurd (bQ (x.lt q) e)<|fC _
def vd.kept(x:vd P w H h)(k:∀b u,h.get? b=some u->h'.get? b=some u):vd P w H h':=λa o e=>
 (x a o e).stay (λb u _ q=>k b u q) (λ_ q=>q) λ_ _ q=>q
def vd.laid(x:vd P w H h)(k:∀b u,h.get? b=some u->h'.get? b=some u)(hp:h.objs.size<=a)(new:jJ P w (upd H a o) h' a o):vd P w (upd H a o) h':=λb u e=>by
 have hn:=x.fresh hp;by_cases hb:b=a
 ·subst hb;rw[jF]at e;cases e;exact new
 ·rw[i_ hb]at e;exact(x b u e).stay (λc v _ q=>k c v q) (λc q=>by rw[i_<|jo q hn];exact q) λc xs q=>by rw[i_<|jo q hn];exact q
end
abbrev Rd (H:Hp)(a:ak)(u:HO):Prop:=H a=some u\/∃o,H a=some (.frz o u)
def Rd.ok{P:aj}{w:ah}{H:Hp}{a:ak}(r:Rd H a u)(x:vd P w H h):jJ P w H h a u:=by
 rcases r with r|⟨o,r⟩
 ·exact x a u r
 ·obtain⟨_,q⟩:=x a _ r;exact q
abbrev Xv:Option HO->Prop
 | some (.lst _)=>True
 | some (.dK _)=>True
 | some (.dT _)=>True
 | some (.set _ _)=>True
 | some (.ins _ _ _)=>True
 | some (.ext _)=>True
 | _=>False
section
variable {P:aj}{w:ah}{H:Hp}{h h':aq}{x e:ak}{o':HO}
def vd.write(ok:vd P w H h)(mu:Xv<|H x)(he:e=x\/H e=some (.own x))(k:∀b u,b≠e->h.get? b=some u->h'.get? b=some u)(heo:∃u,h'.get? e=some u)
  (new:jJ P w (upd H x o') h' x o'):vd P w (upd H x o') h':=λb u q=>by
 have f:∀c y,H c=some (.own y)->c≠x:=λc y r z=>by subst z;rw[r]at mu;exact mu
 have g:∀c xs,H c=some (.tup xs)->c≠x:=λc xs r z=>by subst z;rw[r]at mu;exact mu
 by_cases hb:b=x
 ·subst hb;rw[jF]at q;cases q;exact new
 ·rw[i_ hb]at q;by_cases d:b=e
  ·have j:H b=some (.own x):=by
    rcases he with z|z
    ·exact absurd (d.trans z) hb
    ·rw[d];exact z
   rw[q]at j;cases j;obtain⟨v,hv⟩:=heo;exact⟨v,by rw[d];exact hv⟩
  ·refine(ok b u q).stay (λc v hc r=>k c v ?_ r) (λc r=>by rw[i_<|f c b r];exact r) λc xs r=>by rw[i_<|g c xs r];exact r
   rcases hc with rfl|hc
   ·exact d
   ·rintro rfl
    rcases he with z|z
    ·exact f c b hc z
    ·rw[hc]at z;cases z;exact hb rfl
end
structure Un (fs ex:bb)(H H':Hp)(h h':aq):Prop where
 keep:∀b o,h.get? b=some o->H b=none->b∉fs->b∉ex->h'.get? b=some o
 slot:∀b o,h.get? b=some o->H b=none->b∈fs->b∉ex->∃sl,h'.get? b=some { o with slots:=sl }
 free:∀b o,h.get? b=some o->H b=none->b∉ex->H' b=none
 there:∀b o,h.get? b=some o->b∉ex->∃o',h'.get? b=some o'
 tups:∀b xs,H b=some (.tup xs)->H' b=some (.tup xs)
 frzs:∀b o u,H b=some (.frz o u)->H' b=some (.frz o u)
 tbls:∀b ps,H b=some (.tbl ps)->∃more,H' b=some (.tbl<|ps++more)
section
variable {fs ex:bb}{H H1:Hp}{h h1 h':aq}{a x e:ak}{o:HO}
def Un.any(u:Un fs ex H H1 h h1){b:ak}{ob:Obj}(q:h.get? b=some ob)(n:H b=none)(hx:b∉ex):∃sl,h1.get? b=some { ob with slots:=sl }:=by
 by_cases hb:b∈fs
 ·exact u.slot b ob q n hb hx
 ·exact⟨ob.slots,u.keep b ob q n hb hx⟩
def Un.kept(k:∀b u,h.get? b=some u->h'.get? b=some u):Un fs ex H H h h':=
 ⟨λb ob q _ _ _=>k b ob q,λb ob q _ _ _=>⟨ob.slots,k b ob q⟩,λ_ _ _ n _=>n,λb ob q _=>⟨ob,k b ob q⟩,λ_ _ q=>q,λ_ _ _ q=>q,λ_ ps q=>⟨#[],by rw[q];simp⟩⟩
def Un.refl:Un fs ex H H h h:=Un.kept λ_ _ q=>q
def Un.laid(k:∀b u,h.get? b=some u->h'.get? b=some u)(hp:h.objs.size<=a)(hn:H a=none):Un fs ex H (upd H a o) h h' where
 keep:=λb u q _ _ _=>k b u q
 slot:=λb u q _ _ _=>⟨u.slots,k b u q⟩
 free:=λb u q n _=>by rw[i_<|bA<|bQ (bq q) hp];exact n
 there:=λb u q _=>⟨u,k b u q⟩
 tups:=λb xs q=>by rw[i_<|jo q hn];exact q
 frzs:=λb u xs q=>by rw[i_<|jo q hn];exact q
 tbls:=λb ps q=>⟨#[],by rw[i_<|jo q hn,q];simp⟩
def Un.write(mu:Xv<|H x)(he:e=x\/H e=some (.own x))(k:∀b u,b≠e->h.get? b=some u->h'.get? b=some u)(heo:∃u,h'.get? e=some u):Un fs ex H (upd H x o) h h':=by
 have g:∀b,H b=none->b≠x:=λb n z=>by subst z;rw[n]at mu;exact mu
 have hb:∀b,H b=none->b≠e:=λb n z=>by
  subst z
  rcases he with r|r
  ·exact g b n r
  ·rw[n]at r;cases r
 have f:∀b u,H b=some u->¬Xv (some u)->b≠x:=λb u q j z=>by subst z;rw[q]at mu;exact j mu
 refine⟨λb u q n _ _=>k b u (hb b n) q,λb u q n _ _=>⟨u.slots,k b u (hb b n) q⟩,λb u q n _=>by rw[i_<|g b n];exact n,λb u q _=>?_,
  λb xs q=>by rw[i_<|f b _ q λz=>z];exact q,λb u xs q=>by rw[i_<|f b _ q λz=>z];exact q,λb ps q=>⟨#[],by rw[i_<|f b _ q λz=>z,q];simp⟩⟩
 by_cases d:b=e
 ·subst d;exact heo
 ·exact⟨u,k b u d q⟩
end
abbrev X4 (h:aq)(H:Hp):bb:=(List.range h.objs.size).filter λa=>(H a).isSome
abbrev BR (h:aq)(H:Hp):aq:=PySem.W.hideAll h<|X4 h H
def Ja(h:aq)(H:Hp):(BR h H).objs.size=h.objs.size:=PySem.W.hideAll_size _ _
def MC{h:aq}{H:Hp}{b:ak}(e:h.get? b=some o)(n:H b=none):(BR h H).get? b=some o:=
 PySem.W.hideAll_get _ e λd=>by
  have q:(H b).isSome=true:=(cA.mp d).2;rw[n]at q;simp at q
def P4{h:aq}{H:Hp}{b:ak}(e:(BR h H).get? b=some o):h.get? b=some o/\H b=none:=by
 have d:h.get? b=some o:=PySem.W.of_hideAll (X4 h H) e;refine⟨d,?_⟩
 cases q:H b with
 | none=>rfl
 | some x=>
  have f:b∈X4 h H:=cA.mpr ⟨cg.mpr<|bq d,by simp[q]⟩;have z:(BR h H).get? b=none:=PySem.W.hideAll_none (X4 h H) f;rw[z]at e;cases e
abbrev Pf (g h:aq)(L:ak):bn:=(List.range h.objs.size).filterMap λa=>if a=L\/(g.get? a).isSome=true then none else(h.get? a).map λo=>(a,o)
abbrev rest (g h:aq)(L d:ak):bn:=(Pf g h L).filter λp=>decide<|p.1≠d
structure Mod (K:au)(mg:Str->bd)(base:aq):Prop where
 kin:K.In base
 glob:base.Ns mainGlobals mg
 blt:∃mb,base.Ns builtinsNs mb/\∀x:Str,x ≠ "__name__" -> mb x=bootBuiltins x
 nolimit:base.NoLimit
structure Cx where
 prog:aj
 w:ah
 K:au
 mg:Str->bd
 base:aq
 A:aA
 N:ar
 s₀:aC
 H₀:Hp
 env:Env
 outer:List Env
 stack:List Env
 ex:bb
 fn:Str->Bool
 calm:Bool
 pn:bn
 xe:af->aC->Prop
abbrev frs (l:List Env):bb:=l.filterMap (·.frame)
meta abbrev Cx.fs (X:Cx):bb:=frs X.outer
abbrev XC (sc:Scope)(x:Str):Prop:=sc.names.lookup x=some .local\/sc.names.lookup x=some .cell\/sc.names.lookup x=some .free
abbrev Loc (sc:Scope)(x:Str):Prop:=sc.names.lookup x=some .local\/sc.names.lookup x=some .cell
abbrev Look (env:Env)(h:aq)(m:Str->bd)(x:Str)(u:af):Prop:=
 (env.kindOf x=some .local/\m x=some u)\/((env.kindOf x=some .cell\/env.kindOf x=some .free)/\∃c,env.cells.lookup x=some c/\h.IsCell c (some u))
structure Cx.Ok (X:Cx):Prop where
 mod:Mod X.K X.mg X.base
 kind:X.env.scope.kind=.function
 glob:X.env.globals=mainGlobals
 blt:X.env.builtins=builtinsNs
 above:X.s₀.heap.objs.size<=X.env.locals
 inj:∀x y c,X.env.cells.lookup x=some c->X.env.cells.lookup y=some c->x=y
 has:∀x,(X.env.kindOf x=some .cell\/X.env.kindOf x=some .free)->∃c,X.env.cells.lookup x=some c
 cab:∀x c,X.fn x=true->X.env.cells.lookup x=some c->X.s₀.heap.objs.size<=c
 hd:X.calm=true->X.A.handled=none
 frames:X.A.frames=some X.stack
 stk:X.stack=X.outer\/(X.stack=X.env::X.outer/\X.env.frame=some X.env.locals)
 exf:∀b∈X.ex,b≠X.env.locals/\∀x c,X.env.cells.lookup x=some c->c≠b
 bs:∀b o,X.base.get? b=some o->X.s₀.heap.get? b=some o/\X.H₀ b=none
 bsz:X.base.objs.size<=X.s₀.heap.objs.size
 noex:∀b o,X.base.get? b=some o->b∉X.ex
 exfs:∀b∈X.ex,b∉X.fs
 yJ:X.s₀.heap.FunFrames X.base X.outer
 frf:∀b∈X.fs,X.H₀ b=none
structure Inv (X:Cx)(pins:bn)(σ:List (Option V))(H:Hp)(s:aC):Prop where
 ok:X.Ok
 os:s.os=X.s₀.os
 bare:AllBare s.gens
 base:Un X.fs X.ex X.H₀ H X.s₀.heap s.heap
 loc:∃m,s.heap.Ns X.env.locals m/\∀(i:Nat) (x:Str) (v:V),X.N[i]?=some x->σ[i]?=some (some v)->XC X.env.scope x->∃u,RelV v u/\Look X.env s.heap m x u
 cell:∀x c,X.env.cells.lookup x=some c->∃v,s.heap.IsCell c v
 free:H X.env.locals=none
 freeC:∀x c,X.env.cells.lookup x=some c->H c=none
 pin:∀p∈X.pn++pins,s.heap.get? p.1=some p.2/\H p.1=none/\p.1≠X.env.locals/\p.1∉X.fs/\∀v,p.2.data≠.cell v
 hok:vd X.prog X.w H s.heap
 len:σ.length=X.N.length
section
variable {X:Cx}{pins:bn}{σ:List (Option V)}{H H':Hp}{s:aC}{h':aq}
def Cx.Ok.Zq(ok:X.Ok){b:ak}(e:X.base.get? b=some o):b∉X.fs:=λhb=>by
 have:=(ok.yJ.mem hb).1;rw[e]at this;cases this
def Inv.bs(I:Inv X pins σ H s):∀b o,X.base.get? b=some o->s.heap.get? b=some o/\H b=none:=λb o e=>
 ⟨I.base.keep b o (I.ok.bs b o e).1 (I.ok.bs b o e).2 (I.ok.Zq e)<|I.ok.noex b o e,I.base.free b o (I.ok.bs b o e).1 (I.ok.bs b o e).2<|I.ok.noex b o e⟩
def Inv.bk(I:Inv X pins σ H s):∀b o,X.base.get? b=some o->s.heap.get? b=some o:=λb o e=>(I.bs b o e).1
def Inv.mod(I:Inv X pins σ H s):Mod X.K X.mg X.base:=I.ok.mod
def Inv.B0(I:Inv X pins σ H s):X.K.In s.heap:=I.ok.mod.kin.keeps I.bk
def Inv.lt(I:Inv X pins σ H s):X.env.locals<s.heap.objs.size:=let⟨_,hn,_⟩:=I.loc;hn.lt
def Inv.sz(I:Inv X pins σ H s):X.s₀.heap.objs.size<=s.heap.objs.size:=bJ I.ok.above<|dF I.lt
def Inv.Yv(I:Inv X pins σ H s){a:ak}(h:s.heap.objs.size<=a):a∉X.fs:=λhb=>by
 obtain⟨_,o,d,_⟩:=I.ok.yJ.mem hb;exact absurd (bQ (bq d)<|bJ I.sz h)<|fC _
def Inv.Tn(I:Inv X pins σ H s):∀x c,X.env.cells.lookup x=some c->c≠X.env.locals:=λx c e z=>by
 obtain⟨v,o,g,j⟩:=I.cell x c e;obtain⟨m,⟨o',es,ep,f,d,_⟩,_⟩:=I.loc;rw[z,f]at g;cases g;rw[d]at j;cases j
def Inv.yJ(I:Inv X pins σ H s):s.heap.FunFrames X.base X.outer:=by
 have all:∀(l:List Env),(∀b∈frs l,b∈X.fs)->X.s₀.heap.FunFrames X.base l->s.heap.FunFrames X.base l:=by
  intro l
  induction l with
  | nil=>intro _ _;trivial
  | cons env r f=>
   intro hs k;obtain⟨m,⟨L,o,hf,hn,j,g⟩,p⟩:=k;have d:L∈X.fs:=hs L (by unfold frs;rw[gO,hf];exact aO);obtain⟨q,e⟩:=I.base.slot L o j (I.ok.frf L d) d λz=>I.ok.exfs L z d;exact⟨m,⟨L,_,hf,hn,e,g⟩,f (λb hb=>hs b<|by unfold frs;rw[gO,hf];exact aS _ hb) p⟩
 exact all X.outer (λ_ hb=>hb) I.ok.yJ
def Inv.stack(I:Inv X pins σ H s):s.heap.FunFrames X.base X.stack:=by
 rcases I.ok.stk with e|⟨e,hf⟩
 ·rw[e];exact I.yJ
 ·rw[e];obtain⟨m,hn,_⟩:=I.loc;refine .cons (by rw[I.ok.kind];decide) hf hn ?_ I.yJ;exact Heap.get?_none_of_le<|bJ I.ok.bsz I.ok.above
def Inv.DN(I:Inv X pins σ H s):∀b∈frs X.stack,b∈X.env.locals::X.fs:=λb hb=>by
 rcases I.ok.stk with e|⟨e,hf⟩
 ·rw[e]at hb;exact aS _ hb
 ·rw[e]at hb;unfold frs at hb;rw[gO,hf]at hb;exact hb
def Inv.Gz(I:Inv X pins σ H s):∀b∈frs X.stack,H b=none:=λb hb=>by
 rcases bF.mp (I.DN b hb)with e|hb
 ·rw[e];exact I.free
 ·obtain⟨_,o,d,_⟩:=I.ok.yJ.mem hb;exact I.base.free b o d (I.ok.frf b hb) λz=>I.ok.exfs b z hb
def Inv.step{g':Array GenState}{t':Nat}{d':Drawn}{ch:bb}(I:Inv X pins σ H s)
  (hch:∀b∈ch,(b∈X.ex\/X.s₀.heap.objs.size<=b)/\b≠X.env.locals/\(∀x c,X.env.cells.lookup x=some c->c≠b)/\∀p∈X.pn++pins,p.1≠b)
  (keep:∀b o,b≠X.env.locals->b∉X.fs->b∉ch->s.heap.get? b=some o->H b=none->h'.get? b=some o)
  (slot:∀b o,b≠X.env.locals->b∈X.fs->b∉ch->s.heap.get? b=some o->H b=none->∃sl,h'.get? b=some { o with slots:=sl }) (free:∀b o,b∉ch->s.heap.get? b=some o->H b=none->H' b=none)
  (there:∀b o,b∉ch->s.heap.get? b=some o->∃o',h'.get? b=some o')
  (tups:∀b xs,H b=some (.tup xs)->H' b=some (.tup xs)) (frzs:∀b o u,H b=some (.frz o u)->H' b=some (.frz o u)) (tbls:∀b ps,H b=some (.tbl ps)->∃more,H' b=some (.tbl<|ps++more))
  (ns:∀m,s.heap.Ns X.env.locals m->h'.Ns X.env.locals m) (hok:vd X.prog X.w H' h') (hg:AllBare g') :
  Inv X pins σ H' { s with heap:=h',gens:=g',drawn:=d',toks:=t' }:=by
 have C:∀b o,X.s₀.heap.get? b=some o->b≠X.env.locals:=λb o e=>bA<|bQ (bq e) I.ok.above;have t:∀b o,X.s₀.heap.get? b=some o->b∉X.ex->b∉ch:=λb o e f hb=>by
  rcases(hch b hb).1 with z|z
  ·exact f z
  ·exact absurd (bQ (bq e) z)<|fC _
 have j:∀x c,X.env.cells.lookup x=some c->∀v,s.heap.IsCell c v->h'.IsCell c v:=λx c e v ⟨o,B,F⟩=>by
  have g:c∉ch:=λz=>(hch c z).2.2.1 x c e rfl;by_cases hc:c∈X.fs
  ·obtain⟨sl,q⟩:=slot c o (I.Tn x c e) hc g B<|I.freeC x c e;exact⟨_,q,F⟩
  ·exact⟨o,keep c o (I.Tn x c e) hc g B<|I.freeC x c e,F⟩
 refine⟨I.ok,I.os,hg,⟨λb o e n hb f=>?_,λb o e n hb f=>?_,λb o e n f=>?_,λb o e f=>?_,λb xs e=>tups b xs<|I.base.tups b xs e,λb o xs e=>frzs b o xs<|I.base.frzs b o xs e,λb ps e=>?_⟩,?_,λx c e=>?_,?_,λx c e=>?_,λp G=>?_,hok,I.len⟩
 ·exact keep b o (C b o e) hb (t b o e f) (I.base.keep b o e n hb f) (I.base.free b o e n f)
 ·obtain⟨sl,e1⟩:=I.base.slot b o e n hb f;obtain⟨D,e2⟩:=slot b _ (C b o e) hb (t b o e f) e1<|I.base.free b o e n f;exact⟨D,e2⟩
 ·obtain⟨o',e1⟩:=I.base.there b o e f;exact free b o' (t b o e f) e1 (I.base.free b o e n f)
 ·obtain⟨o',e1⟩:=I.base.there b o e f;exact there b o' (t b o e f) e1
 ·obtain⟨M,e1⟩:=I.base.tbls b ps e;obtain⟨K,e2⟩:=tbls b _ e1;exact⟨M++K,by rw[e2,Array.append_assoc]⟩
 ·obtain⟨m,hn,L⟩:=I.loc;refine⟨m,ns m hn,λi x v e1 e2 e3=>?_⟩;obtain⟨u,r,l⟩:=L i x v e1 e2 e3;refine⟨u,r,?_⟩
  rcases l with l|⟨k,c,e,z⟩
  ·exact .inl l
  ·exact .inr ⟨k,c,e,j x c e _ z⟩
 ·obtain⟨v,z⟩:=I.cell x c e;exact⟨v,j x c e v z⟩
 ·obtain⟨m,⟨o,_,_,B,_⟩,_⟩:=I.loc;exact free _ o (λz=>(hch _ z).2.1 rfl) B I.free
 ·obtain⟨v,o,B,F⟩:=I.cell x c e;exact free c o (λz=>(hch c z).2.2.1 x c e rfl) B (I.freeC x c e)
 ·obtain⟨e,n,ne,J,d⟩:=I.pin p G;have g:p.1∉ch:=λz=>(hch p.1 z).2.2.2 p G rfl;exact⟨keep p.1 p.2 ne J g e n,free p.1 p.2 g e n,ne,J,d⟩
def Inv.un{t':Nat}(I:Inv X pins σ H s)(u:Un X.fs [] H H' s.heap h')(hok:vd X.prog X.w H' h'):Inv X pins σ H' { s with heap:=h',toks:=t' }:=by
 obtain⟨m,⟨o,es,ep,j,r⟩,_⟩:=id I.loc;obtain⟨B,k⟩:=u.any j I.free (by simp);exact I.step (g':=s.gens) (d':=s.drawn) (ch:=[]) (nofun) (λb o _ hb _ e n=>u.keep b o e n hb<|by simp) (λb o _ hb _ e n=>u.slot b o e n hb<|by simp) (λb o _ e n=>u.free b o e n<|by simp) (λb o _ e=>u.there b o e<|by simp) u.tups u.frzs u.tbls (λt p=>by
  obtain⟨o',g,f,d,q⟩:=p;rw[j]at d;cases d;exact⟨_,g,f,k,q⟩) hok I.bare
def Inv.call{g':Array GenState}{t':Nat}{d':Drawn}{ch:bb}(I:Inv X pins σ H s)(u:Un (frs X.stack) ch H H' s.heap h')(hok:vd X.prog X.w H' h')(hg:AllBare g')
  (hch:∀b∈ch,(b∈X.ex\/X.s₀.heap.objs.size<=b)/\b≠X.env.locals/\(∀x c,X.env.cells.lookup x=some c->c≠b)/\∀p∈X.pn++pins,p.1≠b) :
  Inv X pins σ H' { s with heap:=h',gens:=g',drawn:=d',toks:=t' }:=by
 obtain⟨m,⟨o,es,ep,k,r⟩,_⟩:=id I.loc;obtain⟨C,f⟩:=u.any k I.free λz=>(hch _ z).2.1 rfl;exact I.step (ch:=ch) hch (λb o f hb hc e n=>u.keep b o e n (λz=>(bF.mp<|I.DN b z).elim f hb) hc) (λb o _ _ hc e n=>u.any e n hc) (λb o hc e n=>u.free b o e n hc) (λb o hc e=>u.there b o e hc) u.tups u.frzs u.tbls (λB q=>by
  obtain⟨o',j,g,d,t⟩:=q;rw[k]at d;cases d;exact⟨_,j,g,f,t⟩) hok hg
def Inv.turned{t':Nat}{it:ak}(I:Inv X pins σ H s)(k:∀b o,b≠it->s.heap.get? b=some o->h'.get? b=some o)(hn:H it=none)(hL:it≠X.env.locals)
  (h1:it∈X.ex\/X.s₀.heap.objs.size<=it) (h2:∀x c,X.env.cells.lookup x=some c->c≠it) (h3:∀p∈X.pn++pins,p.1≠it):Inv X pins σ H { s with heap:=h',toks:=t' }:=by
 have d:∀b u,H b=some u->b≠it:=λb u e z=>by rw[z,hn]at e;cases e
 refine I.step (g':=s.gens) (d':=s.drawn) (ch:=[it]) (λb hb=>?_) (λb o _ _ hc e _=>k b o (λz=>hc<|by simp[z]) e) (λb o _ _ hc e _=>⟨o.slots,k b o (λz=>hc<|by simp[z]) e⟩) (λ_ _ _ _ n=>n)
  (λb o hc e=>⟨o,k b o (λz=>hc<|by simp[z]) e⟩) (λ_ _ e=>e) (λ_ _ _ e=>e) (λb ps e=>⟨#[],by rw[e];simp⟩) (λm f=>?_) (λb u e=>?_) I.bare
 ·have e:b=it:=by simpa using hb
  subst e;exact⟨h1,hL,h2,h3⟩
 ·obtain⟨o,es,ep,g,r⟩:=f;exact⟨o,es,ep,k _ o (cT hL) g,r⟩
 ·refine(I.hok b u e).stay (λc v hc q=>k c v ?_ q) (λ_ q=>q) λ_ _ q=>q
  rcases hc with z|z
  ·rw[z];exact d b u e
  ·exact d c _ z
def Inv.tok(I:Inv X pins σ H s)(t:Nat):Inv X pins σ H { s with toks:=t }:=I.un (h':=s.heap) (t':=t) Un.refl I.hok
def Inv.kept{t':Nat}(I:Inv X pins σ H s)(k:∀b u,s.heap.get? b=some u->h'.get? b=some u):Inv X pins σ H { s with heap:=h',toks:=t' }:=I.un (Un.kept k)<|I.hok.kept k
def Inv.laid{a:ak}{t':Nat}(I:Inv X pins σ H s)(k:∀b u,s.heap.get? b=some u->h'.get? b=some u)(hp:s.heap.objs.size<=a)(new:jJ X.prog X.w (upd H a o) h' a o) :
  Inv X pins σ (upd H a o) { s with heap:=h',toks:=t' }:=I.un (Un.laid k hp<|I.hok.fresh hp)<|I.hok.laid k hp new
def Inv.write{x e:ak}{t':Nat}(I:Inv X pins σ H s)(mu:Xv<|H x)(he:e=x\/H e=some (.own x))(k:∀b u,b≠e->s.heap.get? b=some u->h'.get? b=some u)(heo:∃u,h'.get? e=some u)
  (new:jJ X.prog X.w (upd H x o) h' x o):Inv X pins σ (upd H x o) { s with heap:=h',toks:=t' }:=I.un (Un.write mu he k heo)<|I.hok.write mu he k heo new
def Inv.F7{pins':bn}(I:Inv X pins σ H s)(h:∀p∈pins',s.heap.get? p.1=some p.2/\H p.1=none/\p.1≠X.env.locals/\p.1∉X.fs/\∀v,p.2.data≠.cell v):Inv X pins' σ H s:=
 ⟨I.ok,I.os,I.bare,I.base,I.loc,I.cell,I.free,I.freeC,λp d=>(bI.mp d).elim (λz=>I.pin p<|List.mem_append_left _ z)<|h p,I.hok,I.len⟩
def CB{N:ar}(hN:N.Nodup){i j:Nat}{x:Str}(a:N[i]?=some x)(b:N[j]?=some x):i=j:=by
 obtain⟨h1,e1⟩:=aJ.mp a;obtain⟨h2,e2⟩:=aJ.mp b;exact(cH hN).mp (e1.trans e2.symm)
def _root_.γ0(h:1=1:=by first|exact .inl rfl|exact .inr rfl|assumption):1=1:=h
def _root_.γ:Lean.Syntax:=γ0._auto_1
def _root_.δ0(h:1=1:=by decide):1=1:=h
def _root_.δ:Lean.Syntax:=δ0._auto_1
def _root_.ε0(h:1=1:=by rfl):1=1:=h
def _root_.ε:Lean.Syntax:=ε0._auto_1
def _root_.ζ0(h:1=1:=by intro _;rfl):1=1:=h
def _root_.ζ:Lean.Syntax:=ζ0._auto_1
def _root_.η0(h:1=1:=by with_unfolding_all rfl):1=1:=h
def _root_.η:Lean.Syntax:=η0._auto_1
def _root_.θ0(h:1=1:=by exact λ_ _=>rfl):1=1:=h
def _root_.θ:Lean.Syntax:=θ0._auto_1
def IL{A:aA}{E:af->aC->Prop}{i:Nat}{x:Str}{v:V}{Q:Unit->aC->Prop}(I:Inv X pins σ H s)(hN:X.N.Nodup)(hi:X.N[i]?=some x)(hx:Loc X.env.scope x)(r:RelV v u)
  (h:∀s',Inv X pins (σ.set i<|some v) H s'->(∃a,Heap.SameBut a s.heap s'.heap/\(a=X.env.locals\/X.env.cells.lookup x=some a))->Q Unit.unit s') (hf:X.fn x=true\/X.env.scope.names.lookup x=some .local<|>γ):wpAny M A (storeName X.env x u) Q E s:=by
 obtain⟨m,hn,hl⟩:=id I.loc;have G:(X.env.scope.kind == .class || (X.env.scope.kind == .module && X.env.locals != X.env.globals))=false:=by rw[I.ok.kind];rfl
 have g:i<σ.length:=by rw[I.len];exact(aJ.mp hi).1
 have Tn:=I.Tn;have f:∀{a:ak} {h':aq},(∃o,s.heap.get? a=some o/\H a=none)->Heap.SameBut a s.heap h'->vd X.prog X.w H h':=λ{a h'} ha hs b ob e=>by
  obtain⟨_,_,hfree⟩:=ha;refine(I.hok b ob e).stay (λc O hc q=>(hs.2 c ?_).trans q) (λ_ q=>q) λ_ _ q=>q;rintro rfl
  rcases hc with rfl|hc
  ·rw[hfree]at e;cases e
  ·rw[hfree]at hc;cases hc
 rcases hx with t|t
 ·refine wpAny_storeName_local t hn (λh' W hs=>?_) G;obtain⟨oL,_,_,hoL,_⟩:=id hn;refine h _ ⟨I.ok,I.os,I.bare,⟨λb o e n hb hx=>?_,λb o e n hb hx=>?_,I.base.free,λb o e hx=>?_,I.base.tups,I.base.frzs,I.base.tbls⟩,⟨_,W,λj y T e1 e2 e3=>?_⟩,λy c e=>?_,I.free,I.freeC,λp U=>?_,f ⟨oL,hoL,I.free⟩ hs,by simpa using I.len⟩ ⟨_,hs,.inl rfl⟩
  ·exact(hs.2 b<|bA<|bQ (bq e) I.ok.above).trans (I.base.keep b o e n hb hx)
  ·obtain⟨P,e1⟩:=I.base.slot b o e n hb hx;exact⟨P,(hs.2 b<|bA<|bQ (bq e) I.ok.above).trans e1⟩
  ·obtain⟨o',e1⟩:=I.base.there b o e hx;exact⟨o',(hs.2 b<|bA<|bQ (bq e) I.ok.above).trans e1⟩
  ·by_cases B:j=i
   ·subst B;rw[hi]at e1;cases e1;rw[bz g]at e2
    cases e2
    exact⟨u,r,.inl ⟨t,by simp⟩⟩
   ·rw[bK<|cT B]at e2;obtain⟨Z,r',q⟩:=hl j y T e1 e2 e3;refine⟨Z,r',?_⟩
    rcases q with⟨k,e⟩|⟨k,c,e,z⟩
    ·refine .inl ⟨k,?_⟩;have:y≠x:=λe=>B<|CB hN e1<|e ▸ hi;simp[this,e]
    ·exact .inr ⟨k,c,e,z.sameBut hs<|Tn y c e⟩
  ·obtain⟨O,z⟩:=I.cell y c e;exact⟨O,z.sameBut hs<|Tn y c e⟩
  ·obtain⟨e,n,ne,Y,d⟩:=I.pin p U;exact⟨(hs.2 p.1 ne).trans e,n,ne,Y,d⟩
 ·have C:X.fn x=true:=by
   rcases hf with z|z
   ·exact z
   ·rw[z]at t;cases t
  obtain⟨c,hc⟩:=I.ok.has x<|.inl t;obtain⟨O,z⟩:=I.cell x c hc;refine wpAny_storeName_cell I.ok.kind t hc z λh' K hs=>?_;obtain⟨oc,J,D⟩:=id z;refine h { s with heap:=h' } ⟨I.ok,I.os,I.bare,⟨λb o e n hb hx=>?_,λb o e n hb hx=>?_,I.base.free,λb o e hx=>?_,I.base.tups,I.base.frzs,I.base.tbls⟩,⟨m,hn.sameBut hs<|cT<|Tn x c hc,λj y T e1 e2 e3=>?_⟩,λy L e=>?_,I.free,I.freeC,λp U=>?_,f ⟨oc,J,I.freeC x c hc⟩ hs,by simpa using I.len⟩ ⟨c,hs,.inr hc⟩
  ·exact(hs.2 b<|bA<|bQ (bq e)<|I.ok.cab x c C hc).trans (I.base.keep b o e n hb hx)
  ·obtain⟨P,e1⟩:=I.base.slot b o e n hb hx;exact⟨P,(hs.2 b<|bA<|bQ (bq e)<|I.ok.cab x c C hc).trans e1⟩
  ·obtain⟨o',e1⟩:=I.base.there b o e hx;exact⟨o',(hs.2 b<|bA<|bQ (bq e)<|I.ok.cab x c C hc).trans e1⟩
  ·by_cases B:j=i
   ·subst B;rw[hi]at e1;cases e1;rw[bz g]at e2
    cases e2
    exact⟨u,r,.inr ⟨.inl t,c,hc,K⟩⟩
   ·rw[bK<|cT B]at e2;obtain⟨Z,r',q⟩:=hl j y T e1 e2 e3;refine⟨Z,r',?_⟩
    rcases q with q|⟨k,L,e,z'⟩
    ·exact .inl q
    ·refine .inr ⟨k,L,e,z'.sameBut hs ?_⟩;rintro rfl;exact B<|CB hN e1<|I.ok.inj _ _ _ e hc ▸ hi
  ·by_cases F:L=c
   ·subst F;exact⟨_,K⟩
   ·obtain⟨w2,z2⟩:=I.cell y L e;exact⟨w2,z2.sameBut hs F⟩
  ·obtain⟨e,n,ne,Y,d⟩:=I.pin p U;refine⟨(hs.2 p.1 ?_).trans e,n,ne,Y,d⟩;intro q;rw[q,J]at e;have q':oc=p.2:=aZ e;exact d O<|by rw[<- q'];exact D
def yC{A:aA}{E:af->aC->Prop}{i:Nat}{x:Str}{v:V}{Q:Unit->aC->Prop}(I:Inv X pins σ H s)(hN:X.N.Nodup)(hi:X.N[i]?=some x)(hx:Loc X.env.scope x)(r:RelV v u)
  (h:∀s',Inv X pins (σ.set i<|some v) H s'->Q Unit.unit s') (hf:X.fn x=true\/X.env.scope.names.lookup x=some .local<|>γ):wpAny M A (storeName X.env x u) Q E s:=
 IL I hN hi hx r (λs' d _=>h s' d) hf
def Inv.Rf{s':aC}{ch:bb}(I:Inv X pins σ H s)(ho:s'.os=s.os)(u:Un (frs X.stack) ch H H' s.heap s'.heap)(hok:vd X.prog X.w H' s'.heap)(hg:AllBare s'.gens)
  (hch:∀b∈ch,(b∈X.ex\/X.s₀.heap.objs.size<=b)/\b≠X.env.locals/\(∀x c,X.env.cells.lookup x=some c->c≠b)/\∀p∈X.pn++pins,p.1≠b):Inv X pins σ H' s':=by
 obtain⟨h',g',d',t',o'⟩:=s';have e:o'=s.os:=ho;subst e;exact I.call (g':=g') (t':=t') (d':=d') u hok hg hch
end
meta abbrev XK:=af->Option ak->Hp->Prop
meta abbrev St:=List<|Option V
meta abbrev VK:=V->Hp->Prop
meta abbrev TE:=St->Hp->VK->Prop
meta abbrev TT:=St->Hp->(Bool->Hp->Prop)->Prop
meta abbrev TA:=St->Hp->(List V->Hp->Prop)->Prop
structure Ends where
 nx:St->Hp->Prop
 rt:VK
 bk:St->Hp->Prop:=λ_ _=>False
 ct:St->Hp->Prop:=λ_ _=>False
meta abbrev TS:=Ends->St->Hp->Prop
abbrev EP (X:Cx)(pins:bn)(σ:St)(Q:VK)(u:af)(s':aC):Prop:=∃v H',Inv X pins σ H' s'/\RelV v u/\Q v H'
abbrev TP (X:Cx)(pins:bn)(σ:St)(Q:Bool->Hp->Prop)(b:Bool)(s':aC):Prop:=∃H',Inv X pins σ H' s'/\Q b H'
abbrev AP (X:Cx)(pins:bn)(σ:St)(Q:List V->Hp->Prop)(us:ba)(s':aC):Prop:=∃d H',Inv X pins σ H' s'/\Vals d us/\Q d H'
abbrev SP (X:Cx)(pins:bn)(D:Ends)(f:Flow)(s':aC):Prop:=
 match f with
 | .next=>∃d H',Inv X pins d H' s'/\D.nx d H'
 | .brk=>∃d H',Inv X pins d H' s'/\D.bk d H'
 | .cont=>∃d H',Inv X pins d H' s'/\D.ct d H'
 | .ret u=>∃v d H',Inv X pins d H' s'/\RelV v u/\D.rt v H'
abbrev PE (X:Cx)(e:aE)(t:TE):Prop:=
 ∀(pins:bn) (s:aC) (σ:St) (H:Hp) (Q:VK),Inv X pins σ H s->t σ H Q->wpAny (model X.prog X.w) X.A (eval e X.env) (EP X pins σ Q) X.xe s
abbrev PT (X:Cx)(e:aE)(t:TT):Prop:=
 ∀(pins:bn) (s:aC) (σ:St) (H:Hp) (Q:Bool->Hp->Prop),Inv X pins σ H s->t σ H Q->wpAny (model X.prog X.w) X.A (isTrue e X.env<|eval e X.env) (TP X pins σ Q) X.xe s
abbrev PW (X:Cx)(e:aE)(t:TT):Prop:=
 ∀(d:Sem af) (pins:bn) (s:aC) (σ:St) (H:Hp) (Q:Bool->Hp->Prop),Inv X pins σ H s->t σ H Q->wpAny (model X.prog X.w) X.A (isTrue e X.env d) (TP X pins σ Q) X.xe s
abbrev PA (X:Cx)(es:List aE)(t:TA):Prop:=
 ∀(pos:Pos) (pins:bn) (s:aC) (σ:St) (H:Hp) (Q:List V->Hp->Prop),Inv X pins σ H s->t σ H Q->wpAny (model X.prog X.w) X.A (spliced<|backTo pos<|starEach es X.env) (AP X pins σ Q) X.xe s
abbrev PS (X:Cx)(st:aF)(t:TS):Prop:=
 ∀(pins:bn) (s:aC) (σ:St) (H:Hp) (D:Ends),Inv X pins σ H s->t D σ H->wpAny (model X.prog X.w) X.A (exec st X.env) (SP X pins D) X.xe s
abbrev BG (X:Cx)(st:List aF)(t:TS):Prop:=
 ∀(pins:bn) (s:aC) (σ:St) (H:Hp) (D:Ends),Inv X pins σ H s->t D σ H->wpAny (model X.prog X.w) X.A (execs st X.env) (SP X pins D) X.xe s
def lA{α:Type}{t:Sem α}{Q Q':α->aC->Prop}{A:aA}{E:af->aC->Prop}(h:wpAny M A t Q E s)(hQ:∀a s,Q a s->Q' a s):wpAny M A t Q' E s:=fS h hQ λ_ _ x=>x
section
variable {X:Cx}
abbrev YF (i:Nat):TE:=λσ H Q=>∃v,σ[i]?=some (some v)/\Q v H
abbrev tC (v:V):TE:=λ_ H Q=>Q v H
def RV{i:Nat}{x:Str}(hN:X.N[i]?=some x)(hv:XC X.env.scope x)(hd:(x == ("__debug__" : Str))=false<|>δ)(hcd:(x == ("__classdict__" : Str))=false<|>δ):PE X (.Name x pos) (YF i):=by
 kd_p;obtain⟨v,e,h⟩:=h;obtain⟨m,hn,k⟩:=I.loc;obtain⟨u,r,l⟩:=k i x v hN e hv;have g:EP X pins σ Q u s:=⟨v,H,I,r,h⟩
 rcases l with⟨f,j⟩|⟨f,c,hc,d⟩
 ·exact wpAny_Name (wpAny_loadName_local I.ok.kind f hn j g) hd
 ·rcases f with f|f
  ·exact wpAny_Name (wpAny_loadName_cell I.ok.kind f hc d g) hd
  ·exact wpAny_Name (wpAny_loadName_free I.ok.kind f hc d g hcd) hd
def SW{i j pos}:PE X (.Constant (.int i) j pos) (tC<|.int i):=λ_ _ _ H _ I h=>wpAny_Constant_int ⟨.int i,H,I.tok _,⟨_,rfl⟩,h⟩
def XF{b j pos}:PE X (.Constant (.bool b) j pos) (tC<|.bl b):=λ_ _ _ H _ I h=>Constant_bool ⟨.bl b,H,I,rfl,h⟩
abbrev Gl (X:Cx)(x:Str):Prop:=X.env.kindOf x=some .globalImplicit
def GS{E:af->aC->Prop}{H:Hp}{x:Str}{Q:af->aC->Prop}(I:Inv X pins σ H s)(hg:Gl X x)(hm:X.mg x=some u)(h:Q u s)
  (hd:(x == ("__debug__" : Str))=false<|>δ):wpAny (model X.prog X.w) X.A (eval (.Name x pos) X.env) Q E s:=
 Calls.Name_function_global I.ok.kind hg (Calls.loadGlobal_global (by rw[I.ok.glob];exact I.mod.glob.keeps I.bk) hm h) hd
def xH{E:af->aC->Prop}{H:Hp}{x:Str}{Q:af->aC->Prop}(I:Inv X pins σ H s)(hg:Gl X x)(hm:X.mg x=none)(hv:bootBuiltins x=some u)(h:Q u s)
  (hn:x ≠ "__name__"<|>δ) (hd:(x == ("__debug__" : Str))=false<|>δ):wpAny (model X.prog X.w) X.A (eval (.Name x pos) X.env) Q E s:=by
 obtain⟨d,h1,h2⟩:=I.mod.blt;exact Calls.Name_function_global I.ok.kind hg (Calls.loadGlobal_builtin (by rw[I.ok.glob];exact I.mod.glob.keeps I.bk) hm (by rw[I.ok.blt];exact h1.keeps I.bk) ((h2 x hn).trans hv) h) hd
def Gb{x:Str}{v:V}(hg:Gl X x)(hm:X.mg x=some u)(r:RelV v u)(hd:(x == ("__debug__" : Str))=false<|>δ):PE X (.Name x pos) (tC v):=
 λ_ _ _ H _ I h=>GS I hg hm ⟨v,H,I,r,h⟩ hd
def PN{x:Str}{v:V}(hg:Gl X x)(hm:X.mg x=none)(hv:bootBuiltins x=some u)(r:RelV v u)(hn:x ≠ "__name__"<|>δ)(hd:(x == ("__debug__" : Str))=false<|>δ):PE X (.Name x pos) (tC v):=
 λ_ _ _ H _ I h=>xH I hg hm hv ⟨v,H,I,r,h⟩ hn hd
variable {a b:aE}{ta tb:TE}{pos:Pos}
variable {tA tB':TT}{rest:List aE}
abbrev V6 (t u:TT):TT:=λσ H Q=>t σ H λc H1=>if c=true then u σ H1 Q else Q false H1
abbrev ZG (t u:TT):TT:=λσ H Q=>t σ H λc H1=>if c=true then Q true H1 else u σ H1 Q
abbrev Zg (t:TT):TT:=λσ H Q=>t σ H λc H1=>Q (!c) H1
def Ov(ha:PT X a tA):PW X (.BoolOp .And [a] pos) tA:=by
 intro d pins s σ H Q I h;refine isTrue_and (lA (ha pins s σ H Q I h) λc f e=>?_)
 cases c with
 | true=>exact isTrue_and_nil e
 | false=>exact e
def Ul(ha:PT X a tA):PW X (.BoolOp .Or [a] pos) tA:=by
 intro d pins s σ H Q I h;refine isTrue_or (lA (ha pins s σ H Q I h) λc f e=>?_)
 cases c with
 | false=>exact isTrue_or_nil e
 | true=>exact e
def Tc(ha:PT X a tA)(hb:PW X (.BoolOp .And (b::rest) pos) tB'):PW X (.BoolOp .And (a::b::rest) pos) (V6 tA tB'):=by
 intro g pins s σ H Q I h;refine isTrue_and (lA (ha pins s σ H _ I h) λc j ⟨H1,d,f⟩=>?_)
 cases c with
 | true=>exact hb g pins j σ H1 Q d f
 | false=>exact⟨H1,d,f⟩
def WW(ha:PT X a tA)(hb:PW X (.BoolOp .Or (b::rest) pos) tB'):PW X (.BoolOp .Or (a::b::rest) pos) (ZG tA tB'):=by
 intro g pins s σ H Q I h;refine isTrue_or (lA (ha pins s σ H _ I h) λc j ⟨H1,d,f⟩=>?_)
 cases c with
 | true=>exact⟨H1,d,f⟩
 | false=>exact hb g pins j σ H1 Q d f
def TR(ha:PT X a tA):PT X (.UnaryOp .Not a pos) (Zg tA):=by
 kd_p;exact isTrue_not<|ha pins s σ H (λc H1=>Q (!c) H1) I h
abbrev Xc (ta tb:TE):TE:=λσ H Q=>ta σ H λx H1=>∃c,x=.bl c/\if c=true then tb σ H1 Q else Q (.bl false) H1
abbrev Xh (ta:TE):TE:=λσ H Q=>ta σ H λx H1=>∃c,x=.bl c/\Q (.bl<|!c) H1
def Uw{op}{t:TE}(h:PE X a t):PE X (.BoolOp op [a] pos) t:=λpins s σ H Q I hw=>BoolOp_one<|h pins s σ H Q I hw
def Vg(ha:PE X a ta)(hb:PE X (.BoolOp .And (b::rest) pos) tb):PE X (.BoolOp .And (a::b::rest) pos) (Xc ta tb):=by
 kd_p;refine BoolOp_and<|lA (ha pins s σ H _ I h) λv g ⟨x,H1,f,r1,d⟩=>?_;obtain⟨c,rfl,d⟩:=d
 cases r1
 refine c5 ?_
 cases c with
 | true=>exact hb pins g σ H1 Q f d
 | false=>exact⟨.bl false,H1,f,rfl,d⟩
def UT(ha:PE X a ta):PE X (.UnaryOp .Not a pos) (Xh ta):=by
 kd_p;refine UnaryOp_<|lA (ha pins s σ H _ I h) λv g ⟨x,H1,f,r1,d⟩=>?_;obtain⟨c,rfl,d⟩:=d
 cases r1
 exact not_of<|c5 ⟨.bl<|!c,H1,f,rfl,d⟩
abbrev tIf (t:TT)(ta tb:TE):TE:=λσ H Q=>t σ H λc H1=>if c=true then ta σ H1 Q else tb σ H1 Q
def Nc{c:aE}(hc:PT X c tA)(ha:PE X a ta)(hb:PE X b tb):PE X (.IfExp c a b pos) (tIf tA ta tb):=by
 kd_p;refine wpAny_IfExp (lA (hc pins s σ H _ I h) λd j ⟨H1,f,g⟩=>?_)
 cases d with
 | true=>exact ha pins j σ H1 Q f g
 | false=>exact hb pins j σ H1 Q f g
end
abbrev p7 (K:au)(H:Hp)(a:ak)(xs:List V):Prop:=
 Rd H a (.lst xs) \/
  ∃(o:Obj) (d:Array af) (n:Nat),K.lookup a=some o/\o.cls=.type "list" /\ o.dict=none/\o.data=.seq d n/\d.size<=sizeLine/\Vals xs d.toList
abbrev nj (K:au)(H:Hp)(a:ak)(xs:List V):Prop:=
 Rd H a (.tup xs) \/
  ∃(o:Obj) (d:Array af) (n:Nat),K.lookup a=some o/\o.cls=.type "tuple" /\ o.dict=none/\o.data=.seq d n/\d.size<=sizeLine/\Vals xs d.toList
abbrev Yo:af->Option V
 | .none=>some .non
 | .bool b=>some (.bl b)
 | .int i _=>some (.int i)
 | .str x _=>some (.str x)
 | .bytes b _=>some (.byt b)
 | .float b _=>some (.flt b)
 | .ref a=>some (.ref a)
 | .type n=>some (.ty n)
 | _=>none
def RelV.abs{x:V}(r:RelV x u):Yo u=some x:=by
 cases x with
 | non=>cases r;rfl
 | bl _=>cases r;rfl
 | int _=>obtain⟨t,rfl⟩:=r;rfl
 | str _=>obtain⟨t,rfl⟩:=r;rfl
 | byt _=>obtain⟨t,rfl⟩:=r;rfl
 | flt _=>obtain⟨t,rfl⟩:=r;rfl
 | ref _=>cases r;rfl
 | ty _=>cases r;rfl
def RelV.inj{x:V}(r:RelV x u)(q:RelV y u):x=y:=aZ<|r.abs.symm.trans q.abs
theorem Vals.inj:∀{xs ys:List V}{us:ba},Vals xs us->Vals ys us->xs=ys
 | _,_,_,.nil,.nil=>rfl
 | _,_,_,.cons r t,.cons d f=>by rw[r.inj d,Vals.inj t f]
section
variable {X:Cx}{pins:bn}{σ:St}{H:Hp}{s:aC}{a:ak}{xs ys:List V}
def p7.of{K:au}(h:H a=some (.lst xs)):p7 K H a xs:=.inl<|.inl h
def nj.of{K:au}(h:H a=some (.tup xs)):nj K H a xs:=.inl<|.inl h
def Inv.list(I:Inv X pins σ H s)(h:p7 X.K H a xs):∃its:ba,Vals xs its/\PlainL s.heap a its.toArray/\xs.length<=sizeLine:=by
 rcases h with h|⟨o,its,n,f,hc,d,hs,g,r⟩
 ·obtain⟨z,its,n,r,e⟩:=h.ok I.hok;exact⟨its,r,⟨_,n,e,rfl,rfl,rfl⟩,z⟩
 ·refine⟨its.toList,r,⟨o,n,I.B0 a o f,hc,d,by simpa using hs⟩,?_⟩;have e:=r.length;dsimp[dB]at e
  lia
def Inv.tuple(I:Inv X pins σ H s)(h:nj X.K H a xs):∃its:ba,Vals xs its/\IsTup s.heap a its.toArray/\xs.length<=sizeLine:=by
 rcases h with h|⟨o,its,n,d,hc,_,hs,f,r⟩
 ·obtain⟨z,its,r,p⟩:=h.ok I.hok;exact⟨its,r,p.tup,z⟩
 ·refine⟨its.toList,r,⟨o,I.B0 a o d,hc,n,by simpa using hs⟩,?_⟩;have e:=r.length;dsimp[dB]at e
  lia
def Inv.MO(I:Inv X pins σ H s)(h:p7 X.K H a xs)(h':p7 X.K H a ys):xs=ys:=by
 obtain⟨g,r,⟨o,n,e,_,_,d⟩,_⟩:=I.list h;obtain⟨f,m,⟨o',q,j,_,_,k⟩,_⟩:=I.list h';rw[e]at j;cases j;rw[d]at k
 injection k with p _
 have:g=f:=by simpa using cW Array.toList p
 subst this;exact r.inj m
def Inv.zX(I:Inv X pins σ H s)(h:nj X.K H a xs)(h':nj X.K H a ys):xs=ys:=by
 obtain⟨g,r,⟨o,e,_,n,d⟩,_⟩:=I.tuple h;obtain⟨f,m,⟨o',j,_,q,k⟩,_⟩:=I.tuple h';rw[e]at j;cases j;rw[d]at k
 injection k with p _
 have:g=f:=by simpa using cW Array.toList p
 subst this;exact r.inj m
end
meta abbrev Cx.yZ (X:Cx)(E:af->aC->Prop):Cx:={ X with xe:=E }
meta abbrev Cx.XT (X:Cx):Cx:=X.yZ λ_ _=>False
def Cx.Ok.yZ{X:Cx}(ok:X.Ok)(E:af->aC->Prop):(X.yZ E).Ok:=
 ⟨ok.mod,ok.kind,ok.glob,ok.blt,ok.above,ok.inj,ok.has,ok.cab,ok.hd,ok.frames,ok.stk,ok.exf,ok.bs,ok.bsz,ok.noex,ok.exfs,ok.yJ,ok.frf⟩
def Cx.Ok.tY{X:Cx}{E:af->aC->Prop}(ok:(X.yZ E).Ok):X.Ok:=
 ⟨ok.mod,ok.kind,ok.glob,ok.blt,ok.above,ok.inj,ok.has,ok.cab,ok.hd,ok.frames,ok.stk,ok.exf,ok.bs,ok.bsz,ok.noex,ok.exfs,ok.yJ,ok.frf⟩
section
variable {X:Cx}{pins:bn}{σ:St}{H:Hp}{s:aC}{E:af->aC->Prop}
def Inv.yZ(I:Inv X pins σ H s)(E:af->aC->Prop):Inv (X.yZ E) pins σ H s:=⟨I.ok.yZ E,I.os,I.bare,I.base,I.loc,I.cell,I.free,I.freeC,I.pin,I.hok,I.len⟩
def Inv.tY(I:Inv (X.yZ E) pins σ H s):Inv X pins σ H s:=⟨I.ok.tY,I.os,I.bare,I.base,I.loc,I.cell,I.free,I.freeC,I.pin,I.hok,I.len⟩
def SP.tY{D:Ends}{f:Flow}(h:SP (X.yZ E) pins D f s'):SP X pins D f s':=by
 cases f with
 | next=>obtain⟨d,H',I,q⟩:=h;exact⟨d,H',I.tY,q⟩
 | brk=>obtain⟨d,H',I,q⟩:=h;exact⟨d,H',I.tY,q⟩
 | cont=>obtain⟨d,H',I,q⟩:=h;exact⟨d,H',I.tY,q⟩
 | ret u=>obtain⟨v,d,H',I,r,q⟩:=h;exact⟨v,d,H',I.tY,r,q⟩
def BG.XT{st:List aF}{t:TS}(h:BG X.XT st t):BG X st t:=λpins s σ H D I hw=>
 fS (h pins s σ H D (I.yZ _) hw) (λ_ _ q=>q.tY) λ_ _ z=>False.elim z
end
section
variable {X:Cx}{st:aF}{rest:List aF}{t u:TS}{e:aE}{te:TE}{pos:Pos}
abbrev Wk:TS:=λD σ H=>D.nx σ H
abbrev XR (t u:TS):TS:=λD σ H=>t { D with nx:=u D } σ H
def PY:BG X [] Wk:=λ_ _ σ H _ I h=>gI ⟨σ,H,I,h⟩
def NI(h1:PS X st t)(h2:BG X rest u):BG X (st::rest) (XR t u):=by
 intro pins s σ H D I h;refine wpAny_execs_cons (lA (h1 pins s σ H { D with nx:=u D } I h) λf j q=>?_)
 cases f with
 | next=>
  obtain⟨d,H',g,q⟩:=q;exact h2 pins j d H' D g q
 | ret v=>exact q
 | brk=>exact q
 | cont=>exact q
def OJ(h1:PS X st t):BG X [st] t:=by
 intro pins s σ H D I h;refine wpAny_execs_cons (lA (h1 pins s σ H D I h) λf d q=>?_)
 cases f with
 | next=>exact gI q
 | ret v=>exact q
 | brk=>exact q
 | cont=>exact q
def Inv.quiet{H:Hp}(I:Inv X pins σ H s):interactive X.env=false:=by simp[interactive,I.ok.kind]
abbrev WX (te:TE):TS:=λD σ H=>te σ H λ_ H1=>D.nx σ H1
def OO(he:PE X e te)(hs:swapsWith e none pos.line X.env=pure false<|>ε):PS X (.Expr e pos) (WX te):=by
 intro pins s σ H D I h;exact wpAny_Expr_any (lA (he pins s σ H _ I h) λv g ⟨x,H1,d,r1,f⟩=>⟨σ,H1,d,f⟩) I.quiet hs
abbrev Zj (te:TE):TS:=λD σ H=>te σ H D.rt
def RU(he:PE X e te):PS X (.Return (some e) pos) (Zj te):=by
 intro pins s σ H D I h;exact wpAny_Return_some<|lA (he pins s σ H _ I h) λv g ⟨x,H1,d,r1,f⟩=>⟨x,σ,H1,d,r1,f⟩
abbrev YZ (c:TT)(t u:TS):TS:=λD σ H=>c σ H λb H1=>if b=true then t D σ H1 else u D σ H1
def Wy{c:aE}{a b:List aF}{tc:TT}(hc:PT X c tc)(ha:BG X a t)(hb:BG X b u):PS X (.If c a b pos) (YZ tc t u):=by
 intro pins s σ H D I h;refine wpAny_If (lA (hc pins s σ H _ I h) λd j ⟨H1,f,g⟩=>?_)
 cases d with
 | true=>exact ha pins j σ H1 D f g
 | false=>exact hb pins j σ H1 D f g
abbrev Uk:TS:=λ_ _ _=>False
def LO:PS X st Uk:=λ_ _ _ _ _ _ h=>h.elim
end
meta abbrev TG:=V->St->Hp->(St->Hp->Prop)->Prop
meta abbrev QA:=List V->St->Hp->(St->Hp->Prop)->Prop
abbrev PG (X:Cx)(target:aE)(t:TG):Prop:=
 ∀(pins:bn) (s:aC) (σ:St) (H:Hp) (v:V) (u:af) (Q:St->Hp->Prop),Inv X pins σ H s->RelV v u->t v σ H Q ->
  wpAny (model X.prog X.w) X.A (assign target X.env u) (λ_ s'=>∃d H',Inv X pins d H' s'/\Q d H') X.xe s
abbrev Xd (X:Cx)(ts:List aE)(t:QA):Prop:=
 ∀(pins:bn) (s:aC) (σ:St) (H:Hp) (f:List V) (us:ba) (Q:St->Hp->Prop),Inv X pins σ H s->Vals f us->t f σ H Q ->
  wpAny (model X.prog X.w) X.A (assignInOrder ((assignEach ts X.env).map (·.2)) us) (λ_ s'=>∃d H',Inv X pins d H' s'/\Q d H') X.xe s
meta abbrev EO:=V->V->V->Hp->(Hp->Prop)->Prop
abbrev CI (X:Cx)(t:EO):Prop:=
 ∀(pins:bn) (s:aC) (σ:St) (H:Hp) (o i v:V) (d iv u:af) (Q:Hp->Prop),Inv X pins σ H s->RelV o d->RelV i iv->RelV v u->t o i v H Q ->
  wpAny (model X.prog X.w) X.A (setItem d iv u) (λ_ s'=>∃H',Inv X pins σ H' s'/\Q H') X.xe s
meta abbrev XZ:=V->V->Hp->VK->Prop
abbrev Zu (X:Cx)(op:Operator)(t:XZ):Prop:=
 ∀(pins:bn) (s:aC) (σ:St) (H:Hp) (x y:V) (v u:af) (Q:VK),Inv X pins σ H s->RelV x v->RelV y u->t x y H Q ->
  wpAny (model X.prog X.w) X.A (inplaceOp op v u) (EP X pins σ Q) X.xe s
section
variable {X:Cx}{pos:Pos}
abbrev Q5 (i:Nat):TG:=λv σ H Q=>Q (σ.set i<|some v) H
def Pj{i:Nat}{x:Str}(hN:X.N.Nodup)(hi:X.N[i]?=some x)(hx:Loc X.env.scope x)(hf:X.fn x=true\/X.env.scope.names.lookup x=some .local<|>γ):PG X (.Name x pos) (Q5 i):=by
 intro pins s σ H v u Q I r h;exact wpAny_assign_Name<|yC I hN hi hx r (λs' d=>⟨_,H,d,h⟩) hf
abbrev Yx:QA:=λd σ H Q=>d=[]/\Q σ H
abbrev WS (t:TG)(u:QA):QA:=λf σ H Q=>∃v r,f=v::r/\t v σ H λd H'=>u r d H' Q
def Pg:Xd X [] Yx:=by
 intro pins s σ H d us Q I r h;obtain⟨e,h⟩:=h;subst e
 cases r
 exact assignInOrder_nil ⟨σ,H,I,h⟩
def Ka{e:aE}{t:TG}{u:QA}(h1:PG X e t)(h2:Xd X es u)
  (hs:(assignEach (e::es) X.env).map (·.2)=assign e X.env::(assignEach es X.env).map (·.2)<|>ε):Xd X (e::es) (WS t u):=by
 intro pins s σ H m us Q I r h;obtain⟨v,p,e1,h⟩:=h;subst e1
 cases r with
 | cons r j=>
  rw[hs];refine assignInOrder_cons<|lA (h1 pins s σ H _ _ _ I r h) λ_ g ⟨d,H1,f,k⟩=>?_;exact h2 pins g d H1 _ _ Q f j k
abbrev ZC (K:au)(n:Nat)(t:QA):TG:=λv σ H Q=>∃a xs,v=.ref a/\nj K H a xs/\xs.length=n/\t xs σ H Q
def Vj{k:Nat}{t:QA}{n:Nat}(hc:X.calm=true)(h:Xd X es t)
  (hn:(assignEach es X.env).length=n<|>ε) (hst:(assignEach es X.env).findIdx? (·.1)=none<|>ε):PG X (.Tuple es k pos) (ZC X.K n t):=by
 intro pins s σ H v u Q I r hw;obtain⟨a,xs,e1,hq,m,hw⟩:=hw;subst e1
 cases r
 obtain⟨g,d,f,q⟩:=I.tuple hq;refine assign_Tuple_tuple (I.ok.hd hc) f (by simp[hn,<- m,d.length]) hst λh' p=>?_;have j:Inv X pins σ H { s with heap:=h' }:=I.kept (t':=s.toks) λb o e=>p b o (bA<|bq e) e;exact h pins _ σ H xs _ Q j (by simpa using d) hw
abbrev YV (to ti:TE)(t:EO):TG:=λv σ H Q=>to σ H λo H1=>ti σ H1 λi H2=>t o i v H2 λH3=>Q σ H3
def z9{to ti:TE}{t:EO}(ho:PE X o to)(hi:PE X i ti)(hs:CI X t)
  (ha:(∀v,assign (.Subscript o i pos) X.env v=(do
   let ov <- holding [v] (eval o X.env)
   let iv <- holding [v,ov] (eval i X.env)
   standAt pos
   holding [v,ov,iv] (setItem ov iv v)
   release [v,ov,iv] []))<|>ζ):PG X (.Subscript o i pos) (YV to ti t):=by
 intro pins s σ H v u Q I r h;rw[ha];refine aI<|cV<|lA (ho pins s σ H _ I h) λov j ⟨x,H1,g,r1,m⟩=>?_;refine aI<|cV<|lA (hi pins j σ H1 _ g m) λiv k ⟨y,H2,p,r2,f⟩=>?_;refine aI<|fF<|aI<|cV<|lA (hs pins k σ H2 x y v ov iv u _ p r1 r2 r f) λ_ B ⟨H3,d,q⟩=>?_;exact wpAny_release ⟨σ,H3,d,q⟩
abbrev UY (te:TE)(g:TG):TS:=λD σ H=>te σ H λx H1=>g x σ H1 D.nx
def Ut{tg e:aE}{te:TE}{g:TG}(he:PE X e te)(hg:PG X tg g)(hs:swapsWithSole [tg] e pos.line X.env=pure false<|>ε)(hw:swappedStores [tg] e X.env=pure none<|>ε)
  (h1:(assignEach [tg] X.env).map (·.2)=[assign tg X.env]<|>ε):PS X (.Assign [tg] e pos) (UY te g):=by
 intro pins s σ H D I h;refine wpAny_Assign_stores (lA (he pins s σ H _ I h) λv j ⟨x,H1,d,r1,f⟩=>?_) hs hw;rw[h1];exact lA (hg pins j σ H1 x v _ d r1 f) λ_ k q=>q
def TZ{i:Nat}{x:Str}{e:aE}{te:TE}(hN:X.N.Nodup)(hi:X.N[i]?=some x)(hx:Loc X.env.scope x)(he:PE X e te)(hs:(swapsWith e (some<|.Name x pos') pos.line X.env=pure false)<|>ε)(hf:X.fn x=true\/X.env.scope.names.lookup x=some .local<|>γ) :
  PS X (.Assign [.Name x pos'] e pos) (UY te<|Q5 i):=by
 intro pins s σ H D I h;refine wpAny_Assign_Name (lA (he pins s σ H _ I h) λv k ⟨y,H1,d,r1,f⟩=>?_) hs;exact yC d hN hi hx r1 (λj g=>⟨_,H1,g,f⟩) hf
abbrev Zr (i:Nat)(te:TE)(ti:XZ):TS:=λD σ H=>∃x,σ[i]?=some (some x)/\te σ H λy H1=>ti x y H1 λz H2=>D.nx (σ.set i<|some z) H2
def Ui{i:Nat}{x:Str}{e:aE}{te:TE}{ti:XZ}(hN:X.N.Nodup)(hi:X.N[i]?=some x)(hx:Loc X.env.scope x)(he:PE X e te)(ho:Zu X op ti)(hf:X.fn x=true\/X.env.scope.names.lookup x=some .local<|>γ) :
  PS X (.AugAssign (.Name x pos') op e pos) (Zr i te ti):=by
 intro pins s σ H D I h;obtain⟨v,e1,h⟩:=h;obtain⟨m,hn,J⟩:=I.loc;have p:XC X.env.scope x:=by rcases hx with k|k;exact .inl k;exact .inr (.inl k)
 obtain⟨u,r,l⟩:=J i x v hi e1 p;refine wpAny_AugAssign_Name ?_;have q:wpAny (model X.prog X.w) X.A (eval e X.env) (λw g=>wpAny (model X.prog X.w) X.A (inplaceOp op u w) (λr j=>wpAny (model X.prog X.w) X.A (storeName X.env x r) (λ_=>SP X pins D .next) X.xe j) X.xe g) X.xe s:=by
  refine lA (he pins s σ H _ I h) λw G ⟨y,H1,F,r1,K⟩=>?_;refine lA (ho pins G σ H1 v y u w _ F r r1 K) λz M ⟨O,H2,L,r2,C⟩=>?_;exact yC L hN hi hx r2 (λP t=>⟨_,H2,t,C⟩) hf
 rcases l with⟨d,B⟩|⟨d,c,hc,f⟩
 ·exact wpAny_loadName_local I.ok.kind d hn B q
 ·rcases d with d|d
  ·exact wpAny_loadName_cell I.ok.kind d hc f q
  ·rcases hx with k|k
   ·have:X.env.scope.names.lookup x=some .free:=d;rw[k]at this;cases this
   ·have:X.env.scope.names.lookup x=some .free:=d;rw[k]at this;cases this
end
section
variable {X:Cx}{pos:Pos}
abbrev J2 (c:TT)(tb:TS):TS:=λD σ H=>∃W:Nat->St->Hp->Prop,(∃m,W m σ H)/\∀m σ H,W m σ H ->
 c σ H λb H1=>if b=true then ∃N:St->Hp->Prop,(∀d H',N d H'->∃f,f<m/\W f d H')/\tb { D with nx:=N,ct:=N,bk:=D.nx } σ H1 else D.nx σ H1
def Mt{c:aE}{tc:TT}{tb:TS}(hp:PassesOwn (model X.prog X.w) X.A X.env X.xe)(hc:PT X c tc)(hb:BG X body tb):PS X (.While c body [] pos) (J2 tc tb):=by
 intro pins s σ H D I h;obtain⟨W,⟨P,L⟩,turn⟩:=h;refine wpAny_While<|codeAny_whileLoop (λn s'=>∃j H',Inv X pins j H' s'/\W n j H') ?_ P ⟨σ,H,I,L⟩;rintro n K ⟨g,H1,J,M⟩;refine dS hp (lA (hc pins K g H1 _ J<|turn n g H1 M) λb O ⟨H2,G,k⟩=>?_)
 cases b with
 | true=>
  obtain⟨N,F,k⟩:=k;rw[aP rfl];refine dS hp (lA (hb pins O g H2 _ G k) λf T m=>?_)
  cases f with
  | next=>
   obtain⟨d,H3,p,B⟩:=m;obtain⟨t,q,C⟩:=F d H3 B;exact⟨t,q,d,H3,p,C⟩
  | cont=>
   obtain⟨d,H3,p,B⟩:=m;obtain⟨t,q,C⟩:=F d H3 B;exact⟨t,q,d,H3,p,C⟩
  | brk=>exact m
  | ret v=>exact m
 | false=>
  rw[aM bL];exact gI ⟨g,H2,G,k⟩
end
structure It where
 go:Nat->Hp->Prop
 yld:Nat->Hp->V->Hp->Prop
 stop:Nat->Hp->Prop
abbrev ux (X:Cx)(pins:bn)(H:Hp)(b:ak):Prop:=
 H b=none/\b≠X.env.locals/\b∉X.fs/\(b∈X.ex\/X.s₀.heap.objs.size<=b)/\(∀x c,X.env.cells.lookup x=some c->c≠b)/\∀p∈X.pn++pins,p.1≠b
def Inv.ER{X:Cx}{H H':Hp}{s:aC}{b:ak}(I:Inv X pins σ H s)(hb:s.heap.objs.size<=b)(hn:H' b=none):ux X pins H' b:=by
 refine⟨hn,Nat.ne_of_gt<|bQ I.lt hb,I.Yv hb,.inr<|bJ I.sz hb,λx c e z=>?_,λp d z=>?_⟩
 ·obtain⟨v,q⟩:=I.cell x c e;exact absurd (bQ q.lt<|by rw[z];exact hb) (fC _)
 ·exact absurd (bQ (bq (I.pin p d).1)<|by rw[z];exact hb)<|fC _
structure Turn (P:aj)(w:ah)(K:au)(tg:aE)(J:It)(fp:bb)(it:ak)(tn:Nat->aq->Prop):Prop where
 mem:it∈fp
 obj:∀i h,tn i h->∀b∈fp,∃o,h.get? b=some o/\∀v,o.data≠.cell v
 keep:∀i h h',tn i h->(∀b∈fp,∀o,h.get? b=some o->h'.get? b=some o)->tn i h'
 item:∀(X:Cx),X.prog=P->X.w=w->X.K=K->X.calm=true->∀(i:Nat) (pins:bn) (s:aC) (σ:St) (H:Hp) (E:af->aC->Prop),Inv X pins σ H s->(∀b∈fp,ux X pins H b)->tn i s.heap->J.go i H ->
  wpAny (model P w) X.A (pyNext<|.ref it) (λr s1=>∃u,r=some u /\
   wpAny (model P w) X.A (letOwnedTupleGo tg (.ref it) u) (λ_ s2=>∃x H',Inv X pins σ H' s2/\RelV x u/\J.yld i H x H'/\tn (i+1) s2.heap/\∀b∈fp,H' b=none) E s1) E s
 done:∀(X:Cx),X.prog=P->X.w=w->X.K=K->X.calm=true->∀(i:Nat) (pins:bn) (s:aC) (σ:St) (H:Hp) (E:af->aC->Prop),Inv X pins σ H s->(∀b∈fp,ux X pins H b)->tn i s.heap->J.stop i H ->
  wpAny (model P w) X.A (pyNext<|.ref it) (λr s1=>r=none/\Inv X pins σ H s1) E s
 self:∀(A:aA) (i:Nat) (s:aC) (Q:af->aC->Prop) (E:af->aC->Prop),tn i s.heap->Q (.ref it) s->wpAny (model P w) A (pyIter<|.ref it) Q E s
meta abbrev TI:=St->Hp->(It->Hp->Prop)->Prop
abbrev Z4 (X:Cx)(pins:bn)(σ:St)(tg:aE)(R:It->Hp->Prop)(itv:af)(s2:aC):Prop:=
 ∃(it:ak) (d:bb) (f:Nat->aq->Prop) (J:It) (H':Hp),itv=.ref it/\Inv X pins σ H' s2/\Turn X.prog X.w X.K tg J d it f/\f 0 s2.heap/\(∀b∈d,ux X pins H' b)/\R J H'
abbrev PI (X:Cx)(tg iter:aE)(wi:TI):Prop:=
 ∀(pins:bn) (s:aC) (σ:St) (H:Hp) (R:It->Hp->Prop),Inv X pins σ H s->wi σ H R ->
  wpAny (model X.prog X.w) X.A (eval iter X.env) (λv d=>wpAny (model X.prog X.w) X.A (pyIter v) (Z4 X pins σ tg R) X.xe d) X.xe s
def Ce{A:aA}{E:af->aC->Prop}{s:aC}{o:Obj}{n:String}{Q:Unit->aC->Prop}(ho:s.heap.get? it=some o)(hc:o.cls=.type n)(hd:o.data=.fields vs)
  (hn:["enumerate", "zip", "dict_itemiterator", "dict_reverseitemiterator", "odict_iterator", "itertools.zip_longest", "itertools.pairwise"].contains n=false) (hQ:Q Unit.unit s):wpAny M A (letOwnedTupleGo tg (.ref it) u) Q E s:=by
 unfold letOwnedTupleGo
 cases tg<;>first
  | exact aN hQ
  | (cases u<;>first
    | exact aN hQ
    | (refine aI (wpAny_load ho ?_)
       rw[hc,hd];show wpAny M A (if (["enumerate", "zip", "dict_itemiterator", "dict_reverseitemiterator", "odict_iterator", "itertools.zip_longest", "itertools.pairwise"].contains n && vs[0]? == some (rawInt _))=true then _ else _) Q E s;rw[aM<|by intro h;rw[hn,Bool.false_and]at h;cases h];exact aN hQ))
abbrev X5 (K:au)(a:ak):It:=
 ⟨λi H=>∃xs x,p7 K H a xs/\xs[i]?=some x,λi H x H'=>H'=H/\∀xs,p7 K H a xs->xs[i]?=some x,λi H=>∃xs,p7 K H a xs/\xs.length<=i⟩
abbrev YW (K:au)(a:ak):It:=
 ⟨λi H=>∃xs x,nj K H a xs/\xs[i]?=some x,λi H x H'=>H'=H/\∀xs,nj K H a xs->xs[i]?=some x,λi H=>∃xs,nj K H a xs/\xs.length<=i⟩
abbrev Wa (lo:Int)(n:Nat):It:=⟨λi _=>i<n,λi H x H'=>H'=H/\x=.int (lo+i),λi _=>n<=i⟩
def HY{P:aj}{w:ah}{K:au}(a it:ak):Turn P w K tg (X5 K a) [it] it (λi h=>h.IsListIter it a i) where
 mem:=by simp
 obj:=λi h st b hb=>by
  have e:b=it:=by simpa using hb
  subst e;obtain⟨o,e,c,d⟩:=st;exact⟨o,e,λv z=>by rw[d]at z;cases z⟩
 keep:=λi h h' st k=>st.at λo e=>k it (by simp) o e
 item:=by
  k_ne;subst hP hw hK;obtain⟨xs,x,hq,m⟩:=hg;obtain⟨g,j,p,B⟩:=I.list hq;obtain⟨u,F,C⟩:=j.get m;gp_on;refine wpAny_pyNext_list_item st p.isList (x:=u) (by simpa using F) λh' f q=>?_;have D:Inv X pins σ H { s with heap:=h' }:=I.turned (t':=s.toks) (λb o hb e=>(q.2 b hb).trans e) f0 f1 f3 f4 f5;obtain⟨o,e,c,d⟩:=id f;exact⟨u,rfl,Ce (s:={ s with heap:=h' }) e c d ⋯ ⟨x,H,D,C,⟨rfl,λys hy=>by rw[I.MO hy hq];exact m⟩,f,λb hb=>(hf b hb).1⟩⟩
 done:=by
  k_ne;subst hP hw hK;obtain⟨xs,hq,m⟩:=hg;obtain⟨g,j,p,B⟩:=I.list hq;gp_on;have G:=j.length;exact wpAny_pyNext_list_end (I.ok.hd hc) st p.isList (by simp;omega) λh' t=>⟨rfl,I.turned (t':=s.toks) (λb o hb e=>t b o hb e) f0 f1 f3 f4 f5⟩
 self:=λ_ _ _ _ _ st h=>wpAny_pyIter_listiter st h
def DM{P:aj}{w:ah}{K:au}(a it:ak):Turn P w K tg (YW K a) [it] it (λi h=>h.IsTupleIter it a i) where
 mem:=by simp
 obj:=λi h st b hb=>by
  have e:b=it:=by simpa using hb
  subst e;obtain⟨o,e,c,d⟩:=st;exact⟨o,e,λv z=>by rw[d]at z;cases z⟩
 keep:=λi h h' st k=>st.at λo e=>k it (by simp) o e
 item:=by
  k_ne;subst hP hw hK;obtain⟨xs,x,hq,m⟩:=hg;obtain⟨f,j,p,B⟩:=I.tuple hq;obtain⟨u,F,C⟩:=j.get m;gp_on;refine wpAny_pyNext_tuple_item st (show s.heap.IsTuple a f.toArray from p) (x:=u) (by simpa using F) λh' g q=>?_;have D:Inv X pins σ H { s with heap:=h' }:=I.turned (t':=s.toks) (λb o hb e=>(q.2 b hb).trans e) f0 f1 f3 f4 f5;obtain⟨o,e,c,d⟩:=id g;exact⟨u,rfl,Ce (s:={ s with heap:=h' }) e c d ⋯ ⟨x,H,D,C,⟨rfl,λys hy=>by rw[I.zX hy hq];exact m⟩,g,λb hb=>(hf b hb).1⟩⟩
 done:=by
  k_ne;subst hP hw hK;obtain⟨xs,hq,m⟩:=hg;obtain⟨f,j,p,B⟩:=I.tuple hq;gp_on;have G:=j.length;exact wpAny_pyNext_tuple_end (I.ok.hd hc) st (show s.heap.IsTuple a f.toArray from p) (by simp;omega) λh' t=>⟨rfl,I.turned (t':=s.toks) (λb o hb e=>t b o hb e) f0 f1 f3 f4 f5⟩
 self:=λ_ _ _ _ _ st h=>wpAny_pyIter_tupleiter st h
def DW{P:aj}{w:ah}{K:au}(it:ak)(lo:Int)(n:Nat):Turn P w K tg (Wa lo n) [it] it (λi h=>IsRangeIter h it (lo+(i:Nat) * 1) ((n:Int)-(i:Nat)) 1) where
 mem:=by simp
 obj:=λi h st b hb=>by
  have e:b=it:=by simpa using hb
  subst e;exact⟨_,st,λv z=>by
   have p:Data.fields _=Data.cell v:=z
   cases p⟩
 keep:=λi h h' st k=>k it (by simp) _ st
 item:=by
  k_ne;subst hP hw hK;gp_on;have W:=Walks.range (prog:=X.prog) (w:=X.w) (I.ok.hd hc) it lo 1 n;refine W.item i s _ _ hg st λv h' f hv d g=>?_;obtain⟨t,rfl⟩:=hv;have m:Inv X pins σ H { s with heap:=h',toks:=f }:=I.turned (λb o hb e=>g b o (by simpa using hb) e) f0 f1 f3 f4 f5;refine⟨_,rfl,Ce (s:={ s with heap:=h',toks:=f }) (n := "range_iterator") d rfl rfl ⋯ ⟨.int<|lo+i,H,m,⟨t,?_⟩,⟨rfl,rfl⟩,d,λb hb=>(hf b hb).1⟩⟩;rw[Int.mul_one]
 done:=by
  k_ne;subst hP hw hK;gp_on;exact wpAny_pyNext_range_end (I.ok.hd hc) st (by have:n<=i:=hg;lia) λh' j=>⟨rfl,I.turned (t':=s.toks) (λb o hb e=>j b o hb e) f0 f1 f3 f4 f5⟩
 self:=λ_ _ _ _ _ st h=>wpAny_pyIter_rangeiter st h
section
variable {X:Cx}{tg:aE}
abbrev V8 (K:au)(tl:TE):TI:=λσ H R=>tl σ H λx H1=>∃a,x=.ref a/\(∃xs,p7 K H1 a xs)/\R (X5 K a) H1
abbrev Zd (K:au)(tl:TE):TI:=λσ H R=>tl σ H λx H1=>∃a,x=.ref a/\(∃xs,nj K H1 a xs)/\R (YW K a) H1
def GL{l:aE}{tl:TE}(hl:PE X l tl):PI X tg l (V8 X.K tl):=by
 intro pins s σ H R I h;refine lA (hl pins s σ H _ I h) λv d ⟨x,H1,I1,r1,g⟩=>?_;obtain⟨a,e,⟨xs,hq⟩,q⟩:=g;subst e
 cases r1
 obtain⟨f,k,p,j⟩:=I1.list hq;refine iu p.isList ?_;refine⟨d.heap.objs.size,[d.heap.objs.size],_,_,H1,rfl,I1.kept (t':=d.toks) λb o e=>aQ _ e,HY a _,⟨_,bD _ rfl,rfl,rfl⟩,λb hb=>?_,q⟩;have e:b=d.heap.objs.size:=by simpa using hb
 subst e;exact I1.ER (aL _)<|I1.hok.fresh<|aL _
def LK{l:aE}{tl:TE}(hl:PE X l tl):PI X tg l (Zd X.K tl):=by
 intro pins s σ H R I h;refine lA (hl pins s σ H _ I h) λv d ⟨x,H1,I1,r1,g⟩=>?_;obtain⟨a,e,⟨xs,hq⟩,q⟩:=g;subst e
 cases r1
 obtain⟨f,k,p,j⟩:=I1.tuple hq;refine wpAny_pyIter_tuple (show d.heap.IsTuple a f.toArray from p) ?_;refine⟨d.heap.objs.size,[d.heap.objs.size],_,_,H1,rfl,I1.kept (t':=d.toks) λb o e=>aQ _ e,DM a _,⟨_,bD _ rfl,rfl,rfl⟩,λb hb=>?_,q⟩;have e:b=d.heap.objs.size:=by simpa using hb
 subst e;exact I1.ER (aL _)<|I1.hok.fresh<|aL _
def Cc{H:Hp}{s:aC}{R:It->Hp->Prop}{E:af->aC->Prop}{lo hi:Int}{t v:Tok}{tk:Nat}(I:Inv X pins σ H s)(h1:-(2 ^ 62)<=lo)(h2:lo<2 ^ 62)(h3:-(2 ^ 62)<=hi)(h4:hi<2 ^ 62)
  (q:R (Wa lo (hi-lo).toNat) H):wpAny (model X.prog X.w) X.A (pyIter<|.ref s.heap.objs.size) (Z4 X pins σ tg R) E { s with heap:=s.heap.push { cls:=.type "range",data:=.fields #[.int lo t,.int hi u,.int 1 v]},toks:=tk }:=by
 refine wpAny_pyIter_range (IsRange.new ..) (small_one h1 h2 h3 h4) ?_;have I1:Inv X pins σ H { s with heap:=s.heap.push { cls:=.type "range",data:=.fields #[.int lo t,.int hi u,.int 1 v]},toks:=tk }:=I.kept λb o e=>aQ _ e;refine⟨(s.heap.push { cls:=.type "range",data:=.fields #[.int lo t,.int hi u,.int 1 v]}).objs.size,[(s.heap.push { cls:=.type "range",data:=.fields #[.int lo t,.int hi u,.int 1 v]}).objs.size],_,_,H,rfl,
  I1.kept (t':=tk) λb o e=>aQ _ e,DW _ lo (hi-lo).toNat,?_,λb hb=>?_,q⟩
 ·have e1:lo+((0:Nat):Int) * 1=lo:=by simp
  have e2:(((hi-lo).toNat:Nat):Int)-((0:Nat):Int)=Builtin.Range.rangeSize lo hi 1:=by rw[rangeSize_one];split<;>lia
  skip
  rw[e1,e2];exact bD _ rfl
 ·have e:b=(s.heap.push { cls:=.type "range",data:=.fields #[.int lo t,.int hi u,.int 1 v]}).objs.size:=by simpa using hb
  subst e;exact I1.ER (aL _)<|I1.hok.fresh<|aL _
abbrev kN (ta:TA):TI:=λσ H R=>ta σ H λd H1=>∃j:Int,d=[.int j]/\-(2 ^ 62)<=j/\j<2 ^ 62/\R (Wa 0 j.toNat) H1
abbrev sQ (ta:TA):TI:=λσ H R=>ta σ H λd H1=>∃i j:Int,d=[.int i,.int j]/\(-(2 ^ 62)<=i/\i<2 ^ 62/\-(2 ^ 62)<=j/\j<2 ^ 62)/\R (Wa i (j-i).toNat) H1
def HX{a:aE}{ta:TA}{p:Pos}(hg:Gl X "range")(hm:X.mg "range" = none)(ha:PA X [a] ta)(hs:starEach [a] X.env=[(false,eval a X.env)]<|>ε):PI X tg (.Call (.Name "range" p) [a] [] pos) (kN ta):=by
 intro pins s σ H R I h;refine Call_<|xH I hg hm boot_range<|eX (lA (ha pos pins s σ H _ I h) λus B ⟨m,H1,k,r1,d⟩=>?_) hs rfl;obtain⟨j,e,d,g,q⟩:=d;subst e
 cases r1 with
 | cons r f=>
  cases f
  obtain⟨t,rfl⟩:=r;exact call_range_1<|Cc k () () d g<|by simpa using q
def IA{a b:aE}{ta:TA}{p:Pos}(hg:Gl X "range")(hm:X.mg "range" = none)(ha:PA X [a,b] ta)(hs:starEach [a,b] X.env=[(false,eval a X.env),(false,eval b X.env)]<|>ε)(hs2:starEach [b] X.env=[(false,eval b X.env)]<|>ε) :
  PI X tg (.Call (.Name "range" p) [a,b] [] pos) (sQ ta):=by
 intro pins s σ H R I h;refine Call_ (xH I hg hm boot_range<|eX (lA (ha pos pins s σ H _ I h) λus G ⟨D,H1,k,r1,f⟩=>?_) (by rw[hs,hs2])<|by rw[hs2];rfl);obtain⟨i,j,e,⟨f,g,C,m⟩,q⟩:=f;subst e
 cases r1 with
 | cons r d=>
  cases d with
  | cons B d=>
   cases d
   obtain⟨t,rfl⟩:=r;obtain⟨F,rfl⟩:=B;exact call_range_2<|Cc k f g C m q
abbrev YK (wi:TI)(g:TG)(tb:TS):TS:=λD σ H=>wi σ H λJ H1=>∃W:Nat->Nat->St->Hp->Prop,(∃m,W 0 m σ H1)/\∀i m σ H,W i m σ H ->
 (J.stop i H/\D.nx σ H)\/(J.go i H/\∃N:St->Hp->Prop,(∀d H',N d H'->∃j,j<m/\W (i+1) j d H')/\∀x H',J.yld i H x H'->g x σ H' λf H2=>tb { D with nx:=N,ct:=N,bk:=D.nx } f H2)
abbrev vU (fp:bb)(h:aq):bn:=fp.filterMap λb=>(h.get? b).map λo=>(b,o)
def ny{fp:bb}{h:aq}{b:ak}(hb:b∈fp)(e:h.get? b=some o):(b,o)∈vU fp h:=List.mem_filterMap.mpr ⟨b,hb,by rw[e];rfl⟩
def HS{fp:bb}{h:aq}{p:ak×Obj}(hp:p∈vU fp h):p.1∈fp/\h.get? p.1=some p.2:=by
 obtain⟨b,hb,e⟩:=List.mem_filterMap.mp hp
 cases q:h.get? b with
 | none=>rw[q]at e;cases e
 | some o=>
  rw[q]at e;have d:(b,o)=p:=aZ e;subst d;exact⟨hb,q⟩
def Inv.pinned{H:Hp}{s:aC}{fp:bb}(I:Inv X pins σ H s)(hf:∀b∈fp,ux X pins H b)(ho:∀b∈fp,∃o,s.heap.get? b=some o/\∀v,o.data≠.cell v):Inv X (pins++vU fp s.heap) σ H s:=
 I.F7 λp g=>(bI.mp g).elim (λz=>I.pin p<|bP _ z) λz=>by
  obtain⟨hb,e⟩:=HS z;obtain⟨f0,f1,f2,_⟩:=hf p.1 hb;obtain⟨o,f,d⟩:=ho p.1 hb;rw[e]at f;cases f;exact⟨e,f0,f1,f2,d⟩
def Inv.tQ{pl:bn}{H:Hp}(I:Inv X (pins++pl) σ H s):Inv X pins σ H s:=I.F7 λp d=>I.pin p<|bP _<|List.mem_append_left _ d
def RY{iter:aE}{wi:TI}{g:TG}{tb:TS}(hp:PassesOwn (model X.prog X.w) X.A X.env X.xe)(hc:X.calm=true)(hi:PI X tg iter wi)(hg:PG X tg g)(hb:BG X body tb)
  (hs:(∀x,foldedSetIterable iter X.env x=pure x)<|>ζ):PS X (.For tg iter body [] pos) (YK wi g tb):=by
 intro pins s σ H D I h;refine wpAny_For (lA (hi pins s σ H _ I h) λv s1 h1=>lA h1 λitv s2 h2=>?_) hs;obtain⟨it,M,tn,J,H2,e,I2,T,P,f2,W,⟨m0,w0⟩,turn⟩:=h2;subst e;have q:∀{H':Hp},(∀b∈M,H' b=none)->∀b∈M,ux X pins H' b:=λhn b hb=>⟨hn b hb,(f2 b hb).2⟩;refine codeAny_forLoop_any (λn s'=>∃i B H',Inv X pins B H' s'/\tn i s'.heap/\(∀b∈M,H' b=none)/\W i n B H') ?_ m0 ⟨0,σ,H2,I2,P,λb hb=>(f2 b hb).1,w0⟩;rintro n s3 ⟨i,k,H3,I3,O,G,w3⟩
 rcases turn i n k H3 w3 with⟨K,qn⟩|⟨go,N,hN,step⟩
 ·refine dS hp<|lA (T.done X rfl rfl rfl hc i pins s3 k H3 X.xe I3 (q G) O K) λr s4 ⟨V,I4⟩=>?_;subst V;exact gI ⟨k,H3,I4,qn⟩
 ·refine dS hp<|lA (T.item X rfl rfl rfl hc i pins s3 k H3 X.xe I3 (q G) O go) λr s4 ⟨u,V,h4⟩=>?_;subst V;refine dS hp<|lA h4 λ_ s5 ⟨x,H5,I5,r5,y5,F,Z⟩=>?_;have U:=I5.pinned (q Z)<|T.obj _ _ F;refine dS hp<|lA (hg _ s5 k H5 x u _ U r5<|step x H5 y5) λ_ s6 ⟨σ6,H6,I6,q6⟩=>?_;refine dS hp<|lA (hb _ s6 σ6 H6 _ I6 q6) λf Y C=>?_;have again:∀{j:St} {p:Hp},Inv X (pins++vU M s5.heap) j p Y->N j p->∃m,m<n/\∃i B H',Inv X pins B H' Y/\tn i Y.heap/\(∀b∈M,H' b=none)/\W i m B H':=λ{j p} t L=>by
   obtain⟨m',hm,w7⟩:=hN j p L;refine⟨m',hm,i+1,j,p,t.tQ,T.keep _ _ _ F λb hb o e=>(t.pin (b,o)<|bP _<|bP _<|ny hb e).1,λb hb=>?_,w7⟩;obtain⟨o,e,d⟩:=T.obj _ _ F b hb;exact(t.pin (b,o)<|bP _<|bP _<|ny hb e).2.1
  cases f with
  | next=>obtain⟨j,p,t,L⟩:=C;exact again t L
  | cont=>obtain⟨j,p,t,L⟩:=C;exact again t L
  | brk=>obtain⟨j,p,t,C⟩:=C;exact⟨j,p,t.tQ,C⟩
  | ret v=>obtain⟨x7,j,p,t,r7,C⟩:=C;exact⟨x7,j,p,t.tQ,r7,C⟩
end
def ye{c:TT}{tb:TS}{D:Ends}{H:Hp}(Pv:St->Hp->Prop)(μ:St->Hp->Nat)(h0:Pv σ H)
  (hs:∀σ H,Pv σ H->c σ H λb H1=>if b=true then tb { D with nx:=λσ' H'=>Pv σ' H'/\μ σ' H'<μ σ H,ct:=λσ' H'=>Pv σ' H'/\μ σ' H'<μ σ H,bk:=D.nx } σ H1 else D.nx σ H1)
  (mono:∀σ H Q Q',(∀b H1,Q b H1->Q' b H1)->c σ H Q->c σ H Q'):J2 c tb D σ H:=by
 refine⟨λm σ H=>m=μ σ H/\Pv σ H,⟨_,rfl,h0⟩,?_⟩;rintro m σ H ⟨rfl,p⟩;refine mono σ H _ _ (λb H1 q=>?_) (hs σ H p)
 cases b with
 | true=>exact⟨_,λσ' H' ⟨d,l⟩=>⟨_,l,rfl,d⟩,q⟩
 | false=>exact q
meta abbrev R2:=V->V->Hp->VK->Prop
abbrev ni (X:Cx)(f:af->af->Sem af)(r:R2):Prop:=
 ∀(pins:bn) (s:aC) (σ:St) (H:Hp) (x y:V) (v u:af) (Q:VK),Inv X pins σ H s->RelV x v->RelV y u->r x y H Q ->
  wpAny (model X.prog X.w) X.A (f v u) (EP X pins σ Q) X.xe s
abbrev X6 (X:Cx)(f:af->Sem af)(r:V->Hp->VK->Prop):Prop:=
 ∀(pins:bn) (s:aC) (σ:St) (H:Hp) (x:V) (v:af) (Q:VK),Inv X pins σ H s->RelV x v->r x H Q ->
  wpAny (model X.prog X.w) X.A (f v) (EP X pins σ Q) X.xe s
abbrev jA (X:Cx)(f:af)(r:List V->Hp->VK->Prop):Prop:=
 ∀(pins:bn) (s:aC) (σ:St) (H:Hp) (xs:List V) (us:ba) (Q:VK),Inv X pins σ H s->Vals xs us->r xs H Q ->
  wpAny (model X.prog X.w) X.A (call f us) (EP X pins σ Q) X.xe s
abbrev YO (X:Cx)(r:V->Hp->(Bool->Hp->Prop)->Prop):Prop:=
 ∀(pins:bn) (s:aC) (σ:St) (H:Hp) (x:V) (v:af) (Q:Bool->Hp->Prop),Inv X pins σ H s->RelV x v->r x H Q ->
  wpAny (model X.prog X.w) X.A (truthy v) (TP X pins σ Q) X.xe s
abbrev Xk (r:R2)(ta tb:TE):TE:=λσ H Q=>ta σ H λx H1=>tb σ H1 λy H2=>r x y H2 Q
abbrev Z3 (r:V->Hp->VK->Prop)(ta:TE):TE:=λσ H Q=>ta σ H λx H1=>r x H1 Q
abbrev rI (C:Int->Int->Prop)(g:Int->Int->V):R2:=λx y H Q=>∃i j,x=.int i/\y=.int j/\C i j/\Q (g i j) H
abbrev Ra (g:Int->Int->V):R2:=λx y H Q=>∃i j,x=.int i/\y=.int j/\Q (g i j) H
abbrev rU (g:Int->V):V->Hp->VK->Prop:=λx H Q=>∃i,x=.int i/\Q (g i) H
section
variable {X:Cx}{a b:aE}{ta tb:TE}{pos:Pos}
def SA(ha:PE X a ta)(hb:PE X b tb){H:Hp}{R:V->V->Hp->Prop}(I:Inv X pins σ H s)
  (h:ta σ H λx H1=>tb σ H1 λy H2=>R x y H2) {Q:af->aC->Prop} {f:af->af->Sem af}
  (hf:∀v u s2 x y H2,Inv X pins σ H2 s2->RelV x v->RelV y u->R x y H2->wpAny (model X.prog X.w) X.A (f v u) Q X.xe s2) :
  wpAny (model X.prog X.w) X.A (eval a X.env) (λv s₁=>wpAny (model X.prog X.w) X.A (eval b X.env) (λu s₂=>wpAny (model X.prog X.w) X.A (f v u) Q X.xe s₂) X.xe s₁) X.xe s:=by
 refine lA (ha pins s σ H _ I h) λv m ⟨x,H1,d,r1,g⟩=>?_;refine lA (hb pins m σ H1 _ d g) λu s2 ⟨y,H2,j,r2,k⟩=>?_;exact hf v u s2 x y H2 j r1 r2 k
def We{r:R2}(ho:ni X (binaryOp op) r)(ha:PE X a ta)(hb:PE X b tb):PE X (.BinOp a op b pos) (Xk r ta tb):=by
 kd_p;exact wpAny_BinOp<|SA ha hb I h λv u d x y H2 f rx ry q=>ho pins d σ H2 x y v u Q f rx ry q
def Xj{r:V->Hp->VK->Prop}(ho:X6 X (unaryOp op) r)(ha:PE X a ta):PE X (.UnaryOp op a pos) (Z3 r ta):=by
 kd_p;exact UnaryOp_<|lA (ha pins s σ H _ I h) λv g ⟨x,H1,d,r1,f⟩=>ho pins g σ H1 x v Q d r1 f
def Ye{f:af->af->Sem af}{C:Int->Int->Prop}{g:Int->Int->Int}
  (rule:∀(i j:Int) (t u:Tok) (s:aC) (Q:af->aC->Prop) (E:af->aC->Prop),C i j->Q (.int (g i j) s.toks) { s with toks:=s.toks+1 }->wpAny (model X.prog X.w) X.A (f (.int i t)<|.int j u) Q E s) :
  ni X f (rI C λi j=>.int<|g i j):=by
 kpf_c;obtain⟨i,j,rfl,rfl,hc,q⟩:=h;obtain⟨t,rfl⟩:=rx;obtain⟨d,rfl⟩:=ry;exact rule i j t d s _ _ hc ⟨.int<|g i j,H,I.tok _,⟨_,rfl⟩,q⟩
def Xm{f:af->af->Sem af}{g:Int->Int->Int}
  (rule:∀(i j:Int) (t u:Tok) (s:aC) (Q:af->aC->Prop) (E:af->aC->Prop),Q (.int (g i j) s.toks) { s with toks:=s.toks+1 }->wpAny (model X.prog X.w) X.A (f (.int i t)<|.int j u) Q E s) :
  ni X f (Ra λi j=>.int<|g i j):=by
 kpf_c;obtain⟨i,j,rfl,rfl,q⟩:=h;obtain⟨t,rfl⟩:=rx;obtain⟨d,rfl⟩:=ry;exact rule i j t d s _ _ ⟨.int<|g i j,H,I.tok _,⟨_,rfl⟩,q⟩
def OG{f:af->af->Sem af}{g:Int->Int->Bool}
  (rule:∀(i j:Int) (t u:Tok) (s:aC) (Q:af->aC->Prop) (E:af->aC->Prop),Q (.bool<|g i j) s->wpAny (model X.prog X.w) X.A (f (.int i t)<|.int j u) Q E s) :
  ni X f (Ra λi j=>.bl<|g i j):=by
 kpf_c;obtain⟨i,j,rfl,rfl,q⟩:=h;obtain⟨t,rfl⟩:=rx;obtain⟨d,rfl⟩:=ry;exact rule i j t d s _ _ ⟨.bl<|g i j,H,I,rfl,q⟩
abbrev Za (i j:Int):Prop:=0<=j/\j<=1000000/\i.natAbs<2 ^ 64
abbrev N9 (i j:Int):Prop:=(-(2 ^ 64)<i/\i<2 ^ 64)\/(-(2 ^ 64)<j/\j<2 ^ 64)
def N9.ok{i j:Int}(h:N9 i j):IntMulOk i j:=by
 rcases h with⟨h1,h2⟩|⟨h1,h2⟩
 ·exact .of_left (intBits_le_64 h1 h2)
 ·exact .of_right<|intBits_le_64 h1 h2
def Vh:ni X (binaryOp .Add) (Ra λi j=>.int<|i+j):=Xm λ_ _ _ _ _ _ _ q=>add_int q
def Tp:ni X (binaryOp .Sub) (Ra λi j=>.int<|i-j):=Xm λ_ _ _ _ _ _ _ q=>sub_int q
def Sd:ni X (binaryOp .Mult) (rI N9 λi j=>.int<|i * j):=Ye λ_ _ _ _ _ _ _ hc q=>mul_int q hc.ok
def Vu:ni X (binaryOp .Mod) (rI (λ_ j=>0<j) λi j=>.int<|i % j):=Ye λi j _ _ _ _ _ hc q=>by
 have h1:(0:Int)<j:=hc;exact mod_int' ()<|by rw[Int.fmod_eq_emod_of_nonneg i ()];exact q
def U1:ni X (binaryOp .Pow) (rI Za λi j=>.int<|i ^ j.toNat):=Ye λ_ _ _ _ _ _ _ hc q=>pow_int_small hc.1 hc.2.1 hc.2.2 q
def unI{f:af->Sem af}{g:Int->Int}
  (rule:∀(i:Int) (t:Tok) (s:aC) (Q:af->aC->Prop) (E:af->aC->Prop),Q (.int (g i) s.toks) { s with toks:=s.toks+1 }->wpAny (model X.prog X.w) X.A (f<|.int i t) Q E s) :
  X6 X f (rU λi=>.int<|g i):=by
 intro pins s σ H x v Q I rx h;obtain⟨i,rfl,q⟩:=h;obtain⟨t,rfl⟩:=rx;exact rule i t s _ _ ⟨.int<|g i,H,I.tok _,⟨_,rfl⟩,q⟩
def Vd:X6 X (unaryOp .USub) (rU λi=>.int<|-i):=unI λ_ _ _ _ _ q=>neg_int q
end
abbrev UP:V->V->Bool
 | .non,.non=>true | .non,.int _=>true | .int _,.non=>true | .non,.bl _=>true | .bl _,.non=>true | .non,.str _=>true | .str _,.non=>true
 | .int _,.int _=>true | .bl _,.bl _=>true | .str _,.str _=>true | .byt _,.byt _=>true
 | .int _,.str _=>true | .str _,.int _=>true | .bl _,.str _=>true | .str _,.bl _=>true
 | _,_=>false
section
variable {X:Cx}{a b c:aE}{ta tb tc:TE}{pos:Pos}
def Wr:ni X (compareOp .Lt) (Ra λi j=>.bl<|decide<|i<j):=OG λ_ _ _ _ _ _ _ q=>lt_int q
def Xq:ni X (compareOp .LtE) (Ra λi j=>.bl<|decide<|i<=j):=OG λ_ _ _ _ _ _ _ q=>le_int q
def Xb:ni X (compareOp .Gt) (Ra λi j=>.bl<|decide<|j<i):=OG λ_ _ _ _ _ _ _ q=>gt_int q
def Xi:ni X (compareOp .GtE) (Ra λi j=>.bl<|decide<|j<=i):=OG λ_ _ _ _ _ _ _ q=>ge_int q
def Jl(b:aE)(h:op≠.In<|>δ)(h2:op≠.NotIn<|>δ):behindInMarks op b=false:=by
 have e1:(op == CmpOp.In)=false:=by cases op<;>first|rfl|exact absurd rfl h
 have e2:(op == CmpOp.NotIn)=false:=by cases op<;>first|rfl|exact absurd rfl h2
 cases b<;>simp[behindInMarks,e1,e2]
def OH{op:CmpOp}{r:R2}(ho:ni X (compareOp op) r)(ha:PE X a ta)(hb:PE X b tb)(hm:behindInMarks op b=false):PE X (.Compare a [op] [b] pos) (Xk r ta tb):=by
 kd_p;exact wpAny_Compare1 (SA ha hb I h λv u d x y H2 f rx ry q=>ho pins d σ H2 x y v u Q f rx ry q) hm
abbrev V_ (t:TE):TT:=λσ H Q=>t σ H λx H'=>∃k,x=.bl k/\Q k H'
def P1{op:CmpOp}{r:R2}(ho:ni X (compareOp op) r)(ha:PE X a ta)(hb:PE X b tb)(hm:behindInMarks op b=false):PT X (.Compare a [op] [b] pos) (V_<|Xk r ta tb):=by
 kd_p;refine wpAny_isTrue_Compare1 (lA (ha pins s σ H _ I h) λv j ⟨x,H1,g,r1,q⟩=>lA (hb pins j σ H1 _ g q) λu m ⟨y,H2,t,r2,f⟩=>
  lA (ho pins m σ H2 x y v u _ t r1 r2 f) λc C ⟨z,H3,d,p,k,e,B⟩=>?_) hm
 subst e
 cases p
 exact c5 ⟨H3,d,B⟩
abbrev JS (r r':R2)(ta tb tc:TE):TE:=λσ H Q=>ta σ H λx H1=>tb σ H1 λy H2=>r x y H2 λz H3=>∃k,z=.bl k /\
 (if k=true then tc σ H3 λf d=>r' y f d Q else Q (.bl false) H3)
def Nl{r r':R2}(ho:ni X (compareOp op) r)(ho':ni X (compareOp op') r')(ha:PE X a ta)(hb:PE X b tb)(hc:PE X c tc)
  (hm:lastMarks [op,op'] [b,c]=false<|>η):PE X (.Compare a [op,op'] [b,c] pos) (JS r r' ta tb tc):=by
 kd_p;refine Compare_chain (lA (ha pins s σ H _ I h) λv t ⟨x,H1,p,r1,K⟩=>chain_link (lA (hb pins t σ H1 _ p K) λu B ⟨y,H2,M,r2,j⟩=>
  lA (ho pins B σ H2 x y v u _ M r1 r2 j) λd G ⟨z,H3,f,J,k,e,g⟩=>?_)) hm
 subst e
 cases J
 refine c5 ?_
 cases k with
 | false=>exact ite_ff ⟨.bl false,H3,f,rfl,g⟩
 | true=>exact ite_tt<|chain_last<|lA (hc pins G σ H3 _ f g) λN L ⟨C,q,F,m,D⟩=>ho' pins L σ q y C u N Q F r2 m D
abbrev VC (K:au)(x:V)(H:Hp)(k:Bool):Prop:=
 match x with
 | .non=>k=false
 | .bl b=>k=b
 | .int i=>k=(i != 0)
 | .str y=>y.length<=sizeLine/\k=((y.length:Int) != 0)
 | .byt y=>y.size<=sizeLine/\k=((y.size:Int) != 0)
 | .ref p=>(∃xs,p7 K H p xs/\k=!xs.isEmpty)\/(∃xs,nj K H p xs/\k=!xs.isEmpty)\/∃kvs,H p=some (.dK kvs)/\k=!kvs.isEmpty
 | _=>False
def Eb{κ:Type}{kvs:List<|κ×V}{vs:List<|κ×af}(r:KV kvs vs):(!vs.isEmpty)=!kvs.isEmpty:=by
 cases r<;>rfl
def yG{xs:List V}{its:ba}(r:Vals xs its):(!its.toArray.isEmpty)=!xs.isEmpty:=by
 cases r<;>simp
def v_:(sizeLine:Nat)<2 ^ 63:=by rw[dW];decide
def Tr:YO X (λx H Q=>∃k,VC X.K x H k/\Q k H):=by
 intro pins s σ H x v Q I rx h;obtain⟨k,e,q⟩:=h;have D:=v_;have hs:sizeLine=16777216:=dW
 cases x with
 | non=>
  cases rx
  have d:k=false:=e;subst d;exact truthy_none ⟨H,I,q⟩
 | bl b=>
  cases rx
  have d:k=b:=e;subst d;exact c5 ⟨H,I,q⟩
 | int i=>
  obtain⟨t,rfl⟩:=rx;have d:k=(i != 0):=e;subst d;exact PySem.P.truthy_int ⟨H,I,q⟩
 | str y=>
  obtain⟨t,rfl⟩:=rx;obtain⟨hy,d⟩:y.length<=sizeLine/\k=((y.length:Int) != 0):=e;subst d;exact PySem.P.truthy_str () ⟨H,I.tok _,q⟩
 | byt y=>
  obtain⟨t,rfl⟩:=rx;obtain⟨hy,d⟩:y.size<=sizeLine/\k=((y.size:Int) != 0):=e;subst d;exact PySem.W.truthy_bytes () ⟨H,I.tok _,q⟩
 | ref p=>
  cases rx
  have d:(∃xs,p7 X.K H p xs/\k=!xs.isEmpty)\/(∃xs,nj X.K H p xs/\k=!xs.isEmpty)\/∃kvs,H p=some (.dK kvs)/\k=!kvs.isEmpty:=e
  rcases d with⟨xs,g,d⟩|⟨xs,g,d⟩|⟨kvs,g,d⟩
  ·subst d;obtain⟨B,r,pl,C⟩:=I.list g;have f:=r.length;exact wpAny_truthy_list pl.isList (by dsimp[a_];lia) ⟨H,I.tok _,by rw[yG r];exact q⟩
  ·subst d;obtain⟨B,r,pl,C⟩:=I.tuple g;have f:=r.length;exact truthy_tuple pl (by dsimp[a_];lia) ⟨H,I.tok _,by rw[yG r];exact q⟩
  ·subst d;obtain⟨C,hS,j,r,m⟩:kvs.length<=sizeLine/\(p == sysModules)=false/\∃j,KV kvs j/\s.heap.DictOf (jL X.prog X.w) p j:=I.hok p _ g;have f:kvs.length=j.length:=gF r;exact wpAny_truthy_dict hS m () ⟨H,I.tok _,by rw[Eb r];exact q⟩
 | _=>exact(show False from e).elim
def JV(ha:PE X a ta)(he:∀whole,isTrue a X.env whole=(do let v <- whole;standAt a.pos;holding [v] (truthy v))) :
  PT X a (λσ H Q=>ta σ H λx H'=>∃k,VC X.K x H' k/\Q k H'):=by
 kd_p;exact isTrue_plain (lA (ha pins s σ H _ I h) λv g ⟨x,H1,d,r1,f⟩=>Tr pins g σ H1 x v Q d r1 f)<|he _
def EB:ni X (binaryOp .Add) (λx y H Q=>∃i j,x=.str i/\y=.str j/\i.length+j.length<=sizeLine/\Q (.str<|i++j) H):=by
 kpf_c;obtain⟨i,j,rfl,rfl,d,q⟩:=h;obtain⟨t,rfl⟩:=rx;obtain⟨f,rfl⟩:=ry;exact add_str (λf g=>⟨.str<|i++j,H,I.tok _,⟨_,rfl⟩,q⟩) d
def vals1{x:V}(r:Vals [x] us):∃u,us=[u]/\RelV x u:=by
 cases r with
 | cons r1 r2=>cases r2;exact⟨_,rfl,r1⟩
def vals2{x:V}(r:Vals [x,y] us):∃u w',us=[u,w']/\RelV x u/\RelV y w':=by
 cases r with
 | cons r1 r2=>
  cases r2 with
  | cons d f=>cases f;exact⟨_,_,rfl,r1,d⟩
def JF:jA X (.builtin "abs") (λxs H Q=>∃i,xs=[.int i]/\Q (.int<|if i<0 then -i else i) H):=by
 fin2;obtain⟨i,rfl,q⟩:=h;obtain⟨u,rfl,t,rfl⟩:=vals1 r;exact call_abs_int λu d=>⟨.int<|if i<0 then -i else i,H,I.tok _,⟨_,rfl⟩,q⟩
def zy:jA X (.type "int") (λxs H Q=>(∃i,xs=[.int i]/\Q (.int i) H)\/∃k,xs=[.bl k]/\Q (.int<|if k then 1 else 0) H):=by
 fin2
 rcases h with⟨i,rfl,q⟩|⟨k,rfl,q⟩
 ·obtain⟨u,rfl,t,rfl⟩:=vals1 r;exact call_int_int ⟨.int i,H,I,⟨_,rfl⟩,q⟩
 ·obtain⟨u,rfl,r1⟩:=vals1 r
  cases r1
  exact call_int_bool ⟨.int<|if k then 1 else 0,H,I.tok _,⟨_,rfl⟩,q⟩
abbrev Zi (K:au)(x:V)(H:Hp)(n:Nat):Prop:=
 match x with
 | .str y=>y.length<=sizeLine/\n=y.length
 | .byt y=>y.size<=sizeLine/\n=y.size
 | .ref p=>(∃xs,p7 K H p xs/\n=xs.length)\/∃xs,nj K H p xs/\n=xs.length
 | _=>False
def LZ:jA X (.builtin "len") (λxs H Q=>∃x n,xs=[x]/\Zi X.K x H n/\Q (.int n) H):=by
 fin2;obtain⟨x,n,rfl,e,q⟩:=h;kj_on;have B:=v_;have hs:sizeLine=16777216:=dW
 cases x with
 | str y=>
  obtain⟨t,rfl⟩:=rx;obtain⟨hy,f⟩:y.length<=sizeLine/\n=y.length:=e;subst f;exact len_str () ⟨.int _,H,I.tok _,⟨_,rfl⟩,q⟩
 | byt y=>
  obtain⟨t,rfl⟩:=rx;obtain⟨hy,f⟩:y.size<=sizeLine/\n=y.size:=e;subst f;exact PySem.W.len_bytes () ⟨.int _,H,I.tok _,⟨_,rfl⟩,q⟩
 | ref p=>
  cases rx
  have f:(∃xs,p7 X.K H p xs/\n=xs.length)\/∃xs,nj X.K H p xs/\n=xs.length:=e
  rcases f with⟨xs,k,f⟩|⟨xs,k,f⟩
  ·subst f;obtain⟨g,j,pl,m⟩:=I.list k;have d:=j.length;exact Calls.call_len_list pl.isList (by dsimp[a_];lia) ⟨.int xs.length,H,I.tok _,⟨_,by dsimp[a_];rw[d]⟩,q⟩
  ·subst f;obtain⟨g,j,pl,m⟩:=I.tuple k;have d:=j.length;exact len_tuple pl (by dsimp[a_];lia) ⟨.int xs.length,H,I.tok _,⟨_,by dsimp[a_];rw[d]⟩,q⟩
 | _=>exact(show False from e).elim
end
structure ObjM (h:aq)(x dx C:ak)(mA:Str->bd):Prop where
 obj:h.get? x=some (PySem.W.instObj C dx)
 ns:h.Ns1 dx mA
 ne:dx≠x
def Iq{h:aq}{mA:Str->bd}(n:h.Ns1 dx mA):∃od,h.get? dx=some od/\∀name,PySem.W.lookIn name od=some (mA name):=by
 obtain⟨o,es,ep,m,f,g,_,j⟩:=n;refine⟨o,m,λname=>?_⟩;have e:=j name;unfold nsFind findBy at e;rw[<- Array.find?_toList]at e;unfold PySem.W.lookIn;rw[f];dsimp only;split
 ·rename_i y q;rw[q]at e;exact cW some e
 ·rename_i q;rw[q]at e;have a:es.toList.any (·.refKey)=false:=by
   rw[List.any_eq_false];intro y hy;obtain⟨z,t,d⟩:=g y<|Array.mem_toList_iff.mp hy;simp[DictEntry.refKey,d]
  have k:¬es.toList.any (·.refKey)=true:=by rw[a];exact bL
  rw[aM k];exact cW some e
def ObjM.look{x:ak}{mA:Str->bd}(I:ObjM h x dx C mA):∃od,PySem.W.InstAt h x (PySem.W.instObj C dx) C (some od)/\∀name,PySem.W.lookIn name od=some (mA name):=
 let⟨od,ho,hl⟩:=Iq I.ns
 ⟨od,⟨I.obj,rfl,rfl,ho⟩,hl⟩
def v5.some_of{v:V}(r:v5 (some v) o):∃u,o=some u/\RelV v u:=by
 cases o with
 | none=>exact(show False from r).elim
 | some u=>exact⟨u,rfl,r⟩
section
variable {P:aj}{w:ah}{H:Hp}{h:aq}{a C dx:ak}{fs:List (Str×V)}
def Oe(hok:vd P w H h)(e:H a=some (.ins C dx fs)):∃mA,ObjM h a dx C mA/\(∀f,v5 (fs.lookup f)<|mA f)/\PySem.Within mA (fs.map (·.1))/\fs.length<=1000/\H dx=some (.own a):=by
 obtain⟨d,z,ne,ob,mA,n,r,q⟩:=(show jJ P w H h a (.ins C dx fs)from hok a _ e);exact⟨mA,⟨ob,n,ne⟩,r,q,z,d⟩
end
structure Cls (K:au)(C:ak):Prop where
 pg:PySem.W.plainGet K C Str.empty=true
 hd:PySem.W.hasDictIn K C=true
 po:PySem.W.plainOver K C=true
 sa:PySem.W.findIn K (.ref C) "__setattr__" = some (some<|.builtin "object.__setattr__")
def Cls.get{K:au}(c:Cls K C)(f:Str):PySem.W.plainGet K C f=true:=c.pg
structure Con (K:au)(C:ak)(f:Str)(v:V)(u:af):Prop where
 at_:PySem.W.findIn K (.ref C) f=some (some u)
 rel:RelV v u
 get:PySem.W.specialIn K u "__get__" = some none
 cp:PySem.W.copiedNames.contains f=false
structure Meth (K:au)(C:ak)(m:Str)(f:ak):Prop where
 at_:PySem.W.findIn K (.ref C) m=some (some<|.ref f)
 fn:PySem.W.isFn K (.ref f)=true
 kp:PySem.W.keepIn K (.ref f)=true
section
variable {X:Cx}{pins:bn}{σ:St}{H:Hp}{s:aC}{A:aA}{E:af->aC->Prop}{Q:af->aC->Prop}{c:af}{b:Bool}
inductive TyOf (K:au) (H:Hp):V->af->Prop where
 | non:TyOf K H .non (.type "NoneType")
 | bl (x:Bool):TyOf K H (.bl x) (.type "bool")
 | int (i:Int):TyOf K H (.int i) (.type "int")
 | str (x:Str):TyOf K H (.str x) (.type "str")
 | flt (x:UInt64):TyOf K H (.flt x) (.type "float")
 | lst {a:ak} {xs:List V} (e:H a=some (.lst xs)):TyOf K H (.ref a) (.type "list")
 | frz {a:ak} {o:Obj} {xs:List V} (e:H a=some (.frz o<|.lst xs)):TyOf K H (.ref a) (.type "list")
 | tup {a:ak} {xs:List V} (e:H a=some (.tup xs)):TyOf K H (.ref a) (.type "tuple")
 | dK {a:ak} {kvs:List<|Key×V} (e:H a=some (.dK kvs)):TyOf K H (.ref a) (.type "dict")
 | dT {a:ak} {kvs:List<|List Key×V} (e:H a=some (.dT kvs)):TyOf K H (.ref a) (.type "dict")
 | ins {a C dx:ak} {fs:List<|Str×V} (e:H a=some (.ins C dx fs)) (cl:Cls K C) (ha:PySem.W.findIn K (.ref C) "__class__" = some (some<|.builtin "object.__class__"))
   (hn:PySem.W.specialIn K (.builtin "object.__class__") "__get__" = some (some<|.builtin "getset_descriptor.__get__")) (htk:PySem.W.takesIn K (.builtin "object.__class__")=some true)
   (hm:PySem.W.mroIn K C (.type "object")=some true):TyOf K H (.ref a)<|.ref C
def IZ{x:V}{t:af}(I:Inv X pins σ H s)(rx:RelV x u)(ty:TyOf X.K H x t)(e:PySem.W.kitOne X.K t c=some b)(h:∀tk,Q (.bool b) { s with toks:=tk }) :
  wpAny (model X.prog X.w) A (call (.builtin "isinstance") [u,c]) Q E s:=by
 cases ty with
 | non=>cases(show u=Value.none from rx);exact cG PySem.W.kitx_none I.B0 True.intro e (λz=>nomatch z) h
 | bl y=>cases(show u=Value.bool y from rx);exact cG PySem.W.kitx_bool I.B0 True.intro e (λz=>nomatch z) h
 | int i=>obtain⟨t,q⟩:=(show ∃t,u=Value.int i t from rx);cases q;exact cG PySem.W.kitx_int I.B0 True.intro e (λz=>nomatch z) h
 | str y=>obtain⟨t,q⟩:=(show ∃t,u=Value.str y t from rx);cases q;exact cG PySem.W.kitx_str I.B0 True.intro e (λz=>nomatch z) h
 | flt y=>obtain⟨t,q⟩:=(show ∃t,u=Value.float y t from rx);cases q;exact cG PySem.W.kitx_float I.B0 True.intro e (λz=>nomatch z) h
 | @lst a xs d=>
  cases(show u=Value.ref a from rx)
  obtain⟨_,_,n,_,h1⟩:=(show jJ X.prog X.w H s.heap a (.lst xs)from I.hok a _ d);exact cG PySem.W.kitx_list I.B0 ⟨_,h1,rfl⟩ e (λz=>nomatch z) h
 | @frz a ob xs d=>
  cases(show u=Value.ref a from rx)
  obtain⟨_,_,_,n,_,h1⟩:=(show jJ X.prog X.w H s.heap a (.frz ob<|.lst xs)from I.hok a _ d);exact cG PySem.W.kitx_list I.B0 ⟨_,h1,rfl⟩ e (λz=>nomatch z) h
 | @tup a xs d=>
  cases(show u=Value.ref a from rx)
  obtain⟨_,_,_,p⟩:=(show jJ X.prog X.w H s.heap a (.tup xs)from I.hok a _ d);obtain⟨o,h1,h2,_⟩:=p;exact cG PySem.W.kitx_tuple I.B0 ⟨o,h1,h2⟩ e (λz=>nomatch z) h
 | @dK a kvs d=>
  cases(show u=Value.ref a from rx)
  obtain⟨_,_,k,_,p⟩:=(show jJ X.prog X.w H s.heap a (.dK kvs)from I.hok a _ d);obtain⟨o,es,ep,h1,h2,_⟩:=p;exact cG PySem.W.kitx_dict I.B0 ⟨o,h1,h2.1⟩ e (λz=>nomatch z) h
 | @dT a kvs d=>
  cases(show u=Value.ref a from rx)
  obtain⟨_,_,xs,_,o,es,ep,h1,h2,_⟩:=(show jJ X.prog X.w H s.heap a (.dT kvs)from I.hok a _ d);exact cG PySem.W.kitx_dict I.B0 ⟨o,h1,h2.1⟩ e (λz=>nomatch z) h
 | @ins a C dx fs d g ha hn f j=>
  cases(show u=Value.ref a from rx)
  obtain⟨B,O,_⟩:=Oe I.hok d;obtain⟨m,J,_⟩:=O.look;exact cG (PySem.W.kitx_own (g.get _) g.hd ha hn f j) I.B0 J e (λz=>nomatch z) h
end
structure Room (k:Nat)(A:aA):Prop where
 hd:A.handled=none
 dp:A.depth+3 * k+5<recursionLimit
 un:A.units+16 * k+200<cLine
 gs:A.guards=some []
def Room.mono{k:Nat}{A:aA}(r:Room k A)(h:j<=k):Room j A:=⟨r.hd,by have:=r.dp;lia,by have:=r.un;lia,r.gs⟩
def Room.deeper{k:Nat}{A:aA}(r:Room (k+1) A)(env:Env):Room k (A.deeper env):=
 ⟨r.hd,by have:=r.dp;show A.depth+1+3 * k+5<_;lia,by have:=r.un;show A.units+3+16 * k+200<_;lia,r.gs⟩
def Room.depth{k:Nat}{A:aA}(r:Room k A):A.depth<recursionLimit:=by have:=r.dp;lia
def Room.units{k:Nat}{A:aA}(r:Room k A):A.units+64<cLine:=by have:=r.un;lia
abbrev Y5:TA:=λ_ H Q=>Q [] H
abbrev Wi (ta:TE)(tr:TA):TA:=λσ H Q=>ta σ H λx H1=>tr σ H1 λxs H2=>Q (x::xs) H2
section
variable {X:Cx}{e:aE}{es:List aE}{te:TE}{t:TA}{pos:Pos}
def Eu:PA X [] Y5:=λ_ _ _ _ H Q I h=>Calls.spliced_nil ⟨[],H,I,.nil,h⟩
def w6(ha:PE X e te)(hr:PA X es t)(hs:starEach (e::es) X.env=(false,eval e X.env)::starEach es X.env<|>ε):PA X (e::es) (Wi te t):=by
 intro pos pins s σ H Q I h;rw[hs]
 skip
 refine Calls.spliced_cons<|lA (ha pins s σ H _ I h) λu g ⟨x,H1,f,r1,j⟩=>?_;exact lA (hr pos pins g σ H1 _ f j) λus m ⟨xs,H2,k,r2,d⟩=>⟨x::xs,H2,k,.cons r1 r2,d⟩
abbrev YY (t:TA):TE:=λσ H Q=>t σ H λxs H1=>xs.length<=sizeLine/\∀p,H1 p=none->Q (.ref p) (upd H1 p<|.tup xs)
abbrev Zy (t:TA):TE:=λσ H Q=>t σ H λxs H1=>xs.length<=sizeLine/\∀p,H1 p=none->Q (.ref p) (upd H1 p<|.lst xs)
def Uo{x1}(h:PA X es t):PE X (.Tuple es x1 pos) (YY t):=by
 intro pins s σ H Q I hq;refine wpAny_Tuple_spliced (lA (h pos pins s σ H _ I hq) λus d ⟨xs,H1,f,r,z,q⟩=>⟨by rw[<- r.length];exact z,?_⟩);have hf:H1 d.heap.objs.size=none:=f.hok.fresh<|aL _;refine⟨.ref d.heap.objs.size,upd H1 d.heap.objs.size<|.tup xs,f.laid (t':=d.toks) (λb u e=>aQ _ e) (aL _) ?_,rfl,q _ hf⟩;exact⟨z,us,r,⟨_,bD _ rfl,rfl,rfl,_,rfl⟩⟩
def Vn(h:PA X es t):PE X (.List es pos) (Zy t):=by
 intro pins s σ H Q I hq;refine wpAny_List_spliced (lA (h pos pins s σ H _ I hq) λus d ⟨xs,H1,f,r,z,q⟩=>⟨by rw[<- r.length];exact z,?_⟩);have hf:H1 d.heap.objs.size=none:=f.hok.fresh<|aL _;refine⟨.ref d.heap.objs.size,upd H1 d.heap.objs.size<|.lst xs,f.laid (t':=d.toks) (λb u e=>aQ _ e) (aL _) ?_,rfl,q _ hf⟩;exact⟨z,us,0,r,bD _ rfl⟩
end
meta abbrev Sp:=List V->Hp->VK->XK->Prop
meta abbrev N6:=List Env->Hp->aC->XK->af->aC->Prop
structure Env0 (P:aj)(w:ah)(K:au)(mg:Str->bd)(base:aq)(A:aA)(outer:List Env)(s:aC)(H:Hp):Prop where
 frames:A.frames=some outer
 mod:Mod K mg base
 bs:∀b o,base.get? b=some o->s.heap.get? b=some o/\H b=none
 bsz:base.objs.size<=s.heap.objs.size
 yJ:s.heap.FunFrames base outer
 frf:∀b∈frs outer,H b=none
 hok:vd P w H s.heap
 bare:AllBare s.gens
abbrev CE (outer:List Env)(P:aj)(w:ah)(H:Hp)(s:aC)(Q:VK)(u:af)(s':aC):Prop:=
 ∃v H',s'.os=s.os/\AllBare s'.gens/\Un (frs outer) [] H H' s.heap s'.heap/\vd P w H' s'.heap/\RelV v u/\Q v H'
abbrev CR (CX:N6)(outer:List Env)(P:aj)(w:ah)(H:Hp)(s:aC)(Q:VK)(E:XK)(r:Result)(s':aC):Prop:=
 match r with
 | .ok (.ret u)=>CE outer P w H s Q u s'
 | .ok _=>False
 | .error e=>CX outer H s E e s'
structure FnOk (P:aj)(w:ah)(K:au)(mg:Str->bd)(base:aq)(CX:N6)(k:Nat)(f:ak)(fd:FuncData)(ps:ar)(sp:Sp):Prop where
 len:∀vs H Q E,sp vs H Q E->vs.length=ps.length
 run:∀(A:aA) (outer:List Env) (s:aC) (H:Hp) (args:Args) (us:ba) (vs:List V) (Q:VK) (E:XK),Room k A->Env0 P w K mg base A outer s H->BindsTo s fd args (ps.zip us)->Vals vs us->sp vs H Q E ->
  codeAny (model P w) A (.call (.ref f) args) (CR CX outer P w H s Q E) s
section
variable {X:Cx}{pins:bn}{σ:St}{H:Hp}{s s':aC}
def Inv.YN(I:Inv X pins σ H s):Env0 X.prog X.w X.K X.mg X.base X.A X.stack s H:=
 ⟨I.ok.frames,I.ok.mod,I.bs,bJ I.ok.bsz I.sz,I.stack,I.Gz,I.hok,I.bare⟩
def Inv.after{Q:VK}(I:Inv X pins σ H s)(h:CE X.stack X.prog X.w H s Q u s'):EP X pins σ Q u s':=by
 obtain⟨v,H',os,f,un,j,r,q⟩:=h;obtain⟨m,g,d,t,k⟩:=s';obtain rfl:k=s.os:=os;exact⟨v,H',I.call (h':=m) (g':=g) (d':=d) (t':=t) (ch:=[]) un j f λb z=>absurd z<|by simp,r,q⟩
end
abbrev Rm (sp:Sp)(dvs:List V)(E:XK)(t:TA):TE:=λσ H Q=>t σ H λd H1=>sp (d++dvs) H1 Q E
abbrev Binds (K:au)(fd:FuncData)(ps:ar)(ds:ba):Prop:=
 ∀(s:aC) (us:ba),K.In s.heap->(us++ds).length=ps.length->BindsTo s fd ⟨us,[]⟩ (ps.zip<|us++ds)
def Binds.all{K:au}{ps:ar}(h:∀us:ba,us.length=ps.length->bindArgs fd ⟨us,[]⟩=pure (ps.zip us)):Binds K fd ps []:=λs us _ d=>by
 rw[b9]at d ⊢;exact .of_eq<|h us d
abbrev Passes (CX:N6)(X:Cx)(E:XK):Prop:=∀(pins:bn) (σ:St) (H:Hp) (s:aC) (e:af) (s':aC),Inv X pins σ H s->CX X.stack H s E e s'->X.xe e s'
section
variable {X:Cx}{CX:N6}{k:Nat}{f C:ak}{fd:FuncData}{ps:ar}{sp:Sp}{dvs:List V}{ds:ba}{E:XK}{x:Str}{p pos:Pos}{e:aE}{es:List aE}{t:TA}
def RQ{H:Hp}{Q:VK}(F:FnOk X.prog X.w X.K X.mg X.base CX k f fd ps sp)(hr:Room k X.A)(hb:Binds X.K fd ps ds)(hd:Vals dvs ds)(hx:Passes CX X E)
  (I:Inv X pins σ H s) (r:Vals vs us) (h:sp (vs++dvs) H Q E):wpAny (model X.prog X.w) X.A (call (.ref f) us) (EP X pins σ Q) X.xe s:=by
 have r2:Vals (vs++dvs) (us++ds):=r.append hd;have d:(us++ds).length=ps.length:=by rw[<- r2.length];exact F.len _ _ _ _ h
 refine wpAny_call (iG (F.run X.A X.stack s H ⟨us,[]⟩ (us++ds) (vs++dvs) Q E hr I.YN (hb s us I.B0 d) r2 h) λr s' hq=>?_)
 cases r with
 | error e=>exact hx pins σ H s e s' I hq
 | ok fl=>
  cases fl with
  | ret u=>exact I.after hq
  | next=>exact False.elim hq
  | brk=>exact False.elim hq
  | cont=>exact False.elim hq
def OE(F:FnOk X.prog X.w X.K X.mg X.base CX k f fd ps sp)(hr:Room k X.A)(hg:Gl X x)(hm:X.mg x=some (.ref f))(hk:PySem.W.keepIn X.K (.ref f)=true)(hb:Binds X.K fd ps ds)(hd:Vals dvs ds)(hx:Passes CX X E)
  (ha:PA X (e::es) t) (hdb:(x == ("__debug__" : Str))=false<|>δ) (he:starEach (e::es) X.env=(false,eval e X.env)::starEach es X.env<|>ε) (hpl:((backTo pos<|starEach es X.env).any (·.1)=false)<|>ε) :
  PE X (.Call (.Name x p) (e::es) [] pos) (Rm sp dvs E t):=by
 kd_p;refine gS<|GS I hg hm ?_ hdb;refine PySem.W.callWith_K (h₀:=X.base) I.ok.mod.kin hk (lA (ha pos pins s σ H _ I h) λus g ⟨d,H1,I1,r,q⟩=>⟨I1.B0,?_⟩) he hpl;exact RQ F hr hb hd hx I1 r q
structure Mk (K:au)(C f:ak):Prop where
 makes:PySem.W.makesIn K C=true
 init:PySem.W.findIn K (.ref C) "__init__" = some (some<|.ref f)
 fn:PySem.W.isFn K (.ref f)=true
 kp:PySem.W.keepIn K (.ref C)=true
end
section
variable {fd:FuncData}{ps ks:ar}
structure KBinds (K:au)(fd:FuncData)(ps ks:ar)(g:ba->ba->ba)(gV:List V->List V->List V):Prop where
 to:∀(s:aC) (us ws:ba),K.In s.heap->(g us ws).length=ps.length->BindsTo s fd ⟨us,ks.zip ws⟩ (ps.zip<|g us ws)
 rel:∀{vs:List V} {us:ba} {zs:List V} {ws:ba},Vals vs us->Vals zs ws->Vals (gV vs zs) (g us ws)
end
structure FnScope (N P:ar)(sc:Scope):Prop where
 kind:sc.kind=.function
 co:sc.isCoroutine=false
 gen:sc.isGenerator=false
 nd:N.Nodup
 pre:N.take P.length=P
 par:∀x∈P,sc.names.lookup x=some .local\/sc.names.lookup x=some .cell
 nofree:∀y∈sc.names,y.2≠.free
theorem zA{kindOf:Str->Option NameKind}{x:Str}:∀{binds:List<|Str×af}{m:Str->bd},(∀v,(x,v)∉binds)->bindL kindOf binds m x=m x
 | [],_,_=>rfl
 | (n,v)::r,m,h=>by
  unfold bindL;rw[zA λw hw=>h w<|aS _ hw];split
  ·have:x≠n:=by rintro rfl;exact h v aO
   simp[this]
  ·rfl
theorem zV{kindOf:Str->Option NameKind}{x:Str}:∀{binds:List<|Str×af}{m:Str->bd},(∀v,(x,v)∉binds)->bindC kindOf binds m x=m x
 | [],_,_=>rfl
 | (n,v)::r,m,h=>by
  unfold bindC;rw[zV λw hw=>h w<|aS _ hw];split
  ·rfl
  ·have:x≠n:=by rintro rfl;exact h v aO
   simp[this]
theorem zH{kindOf:Str->Option NameKind}{x:Str}{v:af}:∀{P:ar}{vs:ba}{i:Nat}{m:Str->bd},P.Nodup->P[i]?=some x->vs[i]?=some v->kindOf x=some .local ->
  bindL kindOf (P.zip vs) m x=some v
 | [],_,_,_,_,h,_,_=>by simp at h
 | _::_,[],_,_,_,_,h,_=>by simp at h
 | p::P,w::vs,0,m,nd,h1,h2,hk=>by
  simp at h1 h2;subst h1;subst h2;show bindL kindOf ((p,w)::P.zip vs) m p=_;unfold bindL;rw[zA λv hv=>(cR.mp nd).1 (iL hv).1,aP hk];simp
 | p::P,w::vs,i+1,m,nd,h1,h2,hk=>by
  skip
  unfold bindL;exact zH (i:=i) (cR.mp nd).2 (by simpa using h1) (by simpa using h2) hk
theorem zW{kindOf:Str->Option NameKind}{x:Str}{v:af}:∀{P:ar}{vs:ba}{i:Nat}{m:Str->bd},P.Nodup->P[i]?=some x->vs[i]?=some v->kindOf x≠some .local ->
  bindC kindOf (P.zip vs) m x=some v
 | [],_,_,_,_,h,_,_=>by simp at h
 | _::_,[],_,_,_,_,h,_=>by simp at h
 | p::P,w::vs,0,m,nd,h1,h2,hk=>by
  simp at h1 h2;subst h1;subst h2;show bindC kindOf ((p,w)::P.zip vs) m p=_;unfold bindC;rw[zV λv hv=>(cR.mp nd).1 (iL hv).1,aM hk];simp
 | p::P,w::vs,i+1,m,nd,h1,h2,hk=>by
  skip
  unfold bindC;exact zW (i:=i) (cR.mp nd).2 (by simpa using h1) (by simpa using h2) hk
abbrev start (N:ar)(vs:List V):St:=vs.map some++List.replicate (N.length-vs.length) none
abbrev D4 (CX:N6)(P:aj)(w:ah)(K:au)(mg:Str->bd)(base:aq)(N:ar)(qual:Str)(scope:Scope)(f:ak)(cd:af)(A:aA)(outer:List Env)(s:aC)(H:Hp)(E:XK):Cx where
 prog:=P
 w:=w
 K:=K
 mg:=mg
 base:=base
 A:=A.deeper (envOfC qual scope s.heap.objs.size f cd)
 N:=N
 s₀:=s
 H₀:=H
 env:=envOfC qual scope s.heap.objs.size f cd
 outer:=outer
 stack:=envOfC qual scope s.heap.objs.size f cd::outer
 ex:=[]
 calm:=true
 fn:=λ_=>true
 pn:=[]
 xe:=λe s'=>wpAny (model P w) (A.deeper<|envOfC qual scope s.heap.objs.size f cd) (leaving (envOfC qual scope s.heap.objs.size f cd) e) (λ_ d=>CX outer H s E e d) (λg d=>CX outer H s E g d) s'
def Di{sc:Scope}{n:Nat}{x:Str}(h:sc.names.lookup x=some .cell):∃c,(cellsFrom n sc.names []).lookup x=some c:=by
 have q:=ez sc.names n []<|.inl h;exact di.mp q
def IT{CX:N6}{P:aj}{w:ah}{K:au}{mg:Str->bd}{base:aq}{N ps:ar}{scope:Scope}{f:ak}{A:aA}{outer:List Env}{s:aC}{H:Hp}{E:XK}{vs:List V}
  (S:FnScope N ps scope) (hd:A.handled=none) (e0:Env0 P w K mg base A outer s H) (hl:vs.length=ps.length) (r:Vals vs us)
  (x:InCallC s s.heap.objs.size (bindL (envOfC qual scope s.heap.objs.size f cd).kindOf (ps.zip us) λ_=>none) (cellsFrom (s.heap.objs.size+1) scope.names []) (bindC (envOfC qual scope s.heap.objs.size f cd).kindOf (ps.zip us) λ_=>none) s1) :
  Inv (D4 CX P w K mg base N qual scope f cd A outer s H E) [] (start N vs) H s1:=by
 have C:ps.length<=N.length:=by have:=cW List.length S.pre;rw[b_]at this;lia
 obtain⟨h1,F,rfl,B⟩:=x.done;have d:∀b:ak,b∉(D4 CX P w K mg base N qual scope f cd A outer s H E).ex:=λb z=>absurd (show b∈([]:bb)from z) (by simp);refine⟨⟨e0.mod,S.kind,rfl,rfl,aL _,λy z c h1 h2=>?_,λy hy=>?_,λy c _ h=>?_,λ_=>hd,Around.frames_deeper e0.frames,.inr ⟨rfl,rfl⟩,λb z=>absurd z<|d b,e0.bs,e0.bsz,λb _ _=>d b,λb z=>absurd z<|d b,e0.yJ,e0.frf⟩,
  rfl,e0.bare,Un.kept B,⟨_,x.toInCall.ns,λi y v h1 h2 h3=>?_⟩,λy c h=>⟨_,x.cell y c h⟩,e0.hok.fresh<|aL _,λy c h=>?_,λp j=>absurd (show p∈([]:bn)from j)<|by simp,e0.hok.kept B,?_⟩
 ·exact name_of_addr x.apart (cL h1) (cL h2)
 ·have hy:scope.names.lookup y=some .cell\/scope.names.lookup y=some .free:=hy
  rcases hy with hy|hy
  ·exact Di hy
  ·exact absurd rfl<|S.nofree _<|cL hy
 ·exact dF (x.above y c<|cL h)
 ·have m:i<vs.length:=by
   unfold start at h2;by_cases m:i<vs.length
   ·exact m
   ·rw[gT<|by simpa using m]at h2;rw[List.getElem?_replicate]at h2;split at h2<;>cases h2
  have ha:vs[i]?=some v:=by
   unfold start at h2;rw[br<|by simpa using m,aR]at h2
   cases e:vs[i]? with
   | none=>rw[e]at h2;cases h2
   | some a=>rw[e]at h2;cases h2;rfl
  obtain⟨u,t,D⟩:=r.get ha;have j:ps[i]?=some y:=by
   rw[<- S.pre,List.getElem?_take_of_lt ()];exact h1
  have g:ps.Nodup:=by rw[<- S.pre];exact S.nd.sublist (List.take_sublist _ _)
  refine⟨u,D,?_⟩
  rcases S.par y (bB j)with k|k
  ·exact .inl ⟨k,zH g j t k⟩
  ·obtain⟨c,e⟩:=Di (n:=s.heap.objs.size+1) k;refine .inr ⟨.inl k,c,e,?_⟩;have q:=x.cell y c e;rw[zW g j t<|by show scope.names.lookup y≠_;rw[k];decide]at q;exact q
 ·exact e0.hok.fresh (dF<|x.above y c<|cL h)
 ·unfold start;show _=N.length;rw[bw,aG,List.length_replicate]
  lia
def Wm{CX:N6}{P:aj}{w:ah}{K:au}{mg:Str->bd}{base:aq}{k:Nat}{f:ak}{kV pm ct:af}
  {osl:Array<|bd} {N ps:ar} {sp:Sp} (lk:K.lookup f=some ⟨oc,od,.func<|PySem.W.fnOf name qual params body scope dV kV doc pm an cdv ct,osl⟩) (hcd:PySem.W.codeIn K cdv qual=true) (S:FnScope N ps scope)
  (len:∀vs H Q E,sp vs H Q E->vs.length=ps.length)
  (hbody:∀(A:aA) (outer:List Env) (s:aC) (H:Hp) (vs:List V) (Q:VK) (E:XK),Room k (A.deeper<|envOfC qual scope s.heap.objs.size f cdv)->sp vs H Q E ->
   ∃t,BG (D4 CX P w K mg base N qual scope f cdv A outer s H E) body t/\t { nx:=λ_ H'=>Q .non H',rt:=Q } (start N vs) H) :
  FnOk P w K mg base CX (k+1) f (PySem.W.fnOf name qual params body scope dV kV doc pm an cdv ct) ps sp:=by
 refine⟨len,λA outer s H F us vs Q E C e0 hb r j=>?_⟩;have O:=len _ _ _ _ j;have G:K.In s.heap:=e0.mod.kin.keeps λb o e=>(e0.bs b o e).1;have p:s.heap.NoLimit:=e0.mod.nolimit.keeps λb o e=>(e0.bs b o e).1;have g:∀y∈ps.zip us,scope.names.lookup y.1=some .local\/(scope.names.lookup y.1=some .cell/\((cellsFrom (s.heap.objs.size+1) scope.names []).lookup y.1).isSome=true):=λ⟨n,v⟩ hy=>by
  rcases S.par n (iL hy).1 with q|q
  ·exact .inl q
  ·exact .inr ⟨q,ez _ _ _<|.inl q⟩
 refine codeAny_call_function C.depth (G _ _ lk) rfl S.co S.gen rfl (PySem.W.codeRec_of G hcd)<|hb _ _ _ _ ?_;refine wpAny_newFunctionEnv_cells S.kind g λenv M D x=>?_;subst M;refine⟨p.keeps x.toInCall.keep,codeAny_func ?_⟩;obtain⟨t,L,hq⟩:=hbody A outer s H vs Q E (C.deeper _) j;have I:Inv (D4 CX P w K mg base N qual scope f cdv A outer s H E) [] (start N vs) H D:=IT S C.hd e0 O r x;refine fS (L [] D (start N vs) H _ I hq) (λfl s' hs=>?_) λe s' hs=>hs;have m:∀{d:St} {H':Hp} {v:V} {u:af},Inv (D4 CX P w K mg base N qual scope f cdv A outer s H E) [] d H' s'->RelV v u->Q v H'->CE outer P w H s Q u s':=
  λ{d H' v u} J B q=>⟨v,H',J.os,J.bare,J.base,J.hok,B,q⟩
 cases fl with
 | ret u=>
  obtain⟨v,d,H',J,B,q⟩:=hs;exact m J B q
 | next=>
  obtain⟨d,H',J,q⟩:=hs;exact m (v:=V.non) (u:=Value.none) J rfl q
 | brk=>
  obtain⟨_,_,_,q⟩:=hs;exact False.elim q
 | cont=>
  obtain⟨_,_,_,q⟩:=hs;exact False.elim q
section
variable {X:Cx}{x:Str}{p pos:Pos}{e:aE}{es:List aE}{t:TA}{id T:String}{r:List V->Hp->VK->Prop}
abbrev Zm (r:List V->Hp->VK->Prop)(t:TA):TE:=λσ H Q=>t σ H λd H1=>r d H1 Q
def MV(hc:jA X (.builtin id) r)(hg:Gl X x)(hm:X.mg x=none)(hv:bootBuiltins x=some (.builtin id))(ha:PA X (e::es) t)(hn:x ≠ "__name__"<|>δ)(hdb:(x == ("__debug__" : Str))=false<|>δ)
  (he:starEach (e::es) X.env=(false,eval e X.env)::starEach es X.env<|>ε) (hpl:((backTo pos<|starEach es X.env).any (·.1)=false)<|>ε):PE X (.Call (.Name x p) (e::es) [] pos) (Zm r t):=by
 kd_p;refine gS<|xH I hg hm hv ?_ hn hdb;exact PyProof.Rows.callWith_builtin1 (lA (ha pos pins s σ H _ I h) λus j ⟨g,H1,d,r1,f⟩=>hc pins j σ H1 g us Q d r1 f) he hpl
def HJ(hc:jA X (.type T) r)(hg:Gl X x)(hm:X.mg x=none)(hv:bootBuiltins x=some (.type T))(ha:PA X (e::es) t)(hn:x ≠ "__name__"<|>δ)(hdb:(x == ("__debug__" : Str))=false<|>δ)
  (he:starEach (e::es) X.env=(false,eval e X.env)::starEach es X.env<|>ε) (hpl:((backTo pos<|starEach es X.env).any (·.1)=false)<|>ε):PE X (.Call (.Name x p) (e::es) [] pos) (Zm r t):=by
 kd_p;refine gS<|xH I hg hm hv ?_ hn hdb;exact eX (lA (ha pos pins s σ H _ I h) λus j ⟨g,H1,d,r1,f⟩=>hc pins j σ H1 g us Q d r1 f) he hpl
end
end L2
namespace HT
open PySem PyProof.Rows
abbrev lexLt:ag->ag->Bool
 | [],[]=>false
 | [],_::_=>true
 | _::_,[]=>false
 | x::xs,y::ys=>if x=y then lexLt xs ys else decide (x<y)
def qR(x y:Int)(xs ys:ag):lexLt (x::xs) (y::ys)=if x=y then lexLt xs ys else decide (x<y):=rfl
def qj:lexLt [] []=false:=rfl
def mZ(y:Int)(ys:ag):lexLt [] (y::ys)=true:=rfl
def pS(x:Int)(xs:ag):lexLt (x::xs) []=false:=rfl
section
variable {prog:aj}{w:ah}{A:aA}{E:af->aC->Prop}{s:aC}
def O0{t b:ak}{vs ws:ba}{Q:af->aC->Prop}(ht:IsTup s.heap t vs.toArray)(hb:IsTup s.heap b ws.toArray)(hv:vs≠[])
  (h1:ws=[]->Q (.ref t) s) (h2:ws≠[]->Q (.ref s.heap.objs.size) { s with heap:=s.heap.push { cls:=.type "tuple",data:=.seq (vs++ws).toArray }})
  (hsz:vs.length+ws.length<=sizeLine):wpAny (model prog w) A (binaryOp .Add (.ref t)<|.ref b) Q E s:=by
 obtain⟨⟨cls,F,data,C⟩,m,hc,n,q⟩:=id ht;obtain⟨⟨B,k,p,g⟩,d,f,D,j⟩:=id hb;simp only at hc q f j;subst hc q f j;have e:vs.toArray++ws.toArray=(vs++ws).toArray:=by simp
 by_cases hw:ws=[]
 ·exact concat_meets ⟨_,m,rfl⟩ ⟨_,d,rfl⟩ noFill_tuple_add seq_tuple_add f9 fX (fG _ _)
   (tuple_addW1 t b vs.toArray ws.toArray n D F k C g (by simpa using hv)<|by simp[hw]) ⟨m,d,h1 hw⟩
 ·refine concat_meets ⟨_,m,rfl⟩ ⟨_,d,rfl⟩ noFill_tuple_add seq_tuple_add f9 fX (fG _ _)
   (tuple_addW2 t b vs.toArray ws.toArray n D F k C g (by simpa using hv) (by simpa using hw)<|by rw[a_,a_];exact hsz) ⟨m,d,?_⟩
  rw[e];exact h2 hw
abbrev WE (n d:Nat):Option Int->Nat
 | none=>d
 | some v=>if v<0 then(v+(n:Int)).toNat else min v.toNat n
end
end HT
namespace L2
open PySem PySem.Spec PyProof.Rows
meta abbrev TO:=St->Hp->(Option Int->Hp->Prop)->Prop
def intsAre_of{ns:ag}:∀{us:ba},Vals (ns.map V.int) us->IntsAre us ns:=by
 induction ns with
 | nil=>intro us r;rw[fm]at r;cases r;exact .nil
 | cons n ns d=>
  intro us r;rw[bE]at r
  cases r with
  | cons r1 r2=>
   obtain⟨t,e⟩:=r1;subst e;exact .cons n t<|d r2
section
variable {X:Cx}{p2:Pos}
abbrev WY (K:au):R2:=λx y H Q=>∃a b xs ys,x=.ref a/\y=.ref b/\nj K H a xs/\nj K H b ys/\xs≠[]/\xs.length+ys.length<=sizeLine /\
 (ys=[]->Q (.ref a) H)/\(ys≠[]->∀p,H p=none->Q (.ref p) (upd H p<|.tup<|xs++ys))
def Vals.AZ(r:Vals xs us):us=[] ↔ xs=[]:=by
 cases r with
 | nil=>simp
 | cons _ _=>simp
def Ol:ni X (binaryOp .Add) (WY X.K):=by
 kpf_c;obtain⟨a,b,xs,ys,rfl,rfl,ha,hb,m,d,k,j⟩:=h
 cases rx
 cases ry
 obtain⟨g,r1,p1,_⟩:=I.tuple ha;obtain⟨f,r2,p2,_⟩:=I.tuple hb;refine HT.O0 p1 p2 (λz=>m<|r1.AZ.mp z) (λz=>⟨.ref a,H,I,rfl,k<|r2.AZ.mp z⟩) (λz=>?_) (by rw[<- r1.length,<- r2.length];exact d);refine⟨.ref s.heap.objs.size,_,I.laid (t':=s.toks) (o:=.tup<|xs++ys) (λb ob q=>aQ _ q) (aL _) ?_,rfl,j (λw=>z<|r2.AZ.mpr w) _<|I.hok.fresh<|aL _⟩;exact⟨by rw[bw];exact d,_,r1.append r2,pT.new _ _⟩
end
abbrev DJ (n:Nat)(i:Int):bj:=if 0<=i then(if i<n then some i.toNat else none)else if -(n:Int)<=i then some (i+n).toNat else none
abbrev rV {α:Type}(xs:List α)(i:Int):Option α:=(DJ xs.length i).bind λj=>xs[j]?
def Fy{n:Nat}{i:Int}(h:DJ n i=some j):seqIndex? i n=some j/\j<n/\-(n:Int)<=i/\i<n:=by
 unfold DJ at h;by_cases h0:0<=i
 ·rw[aP h0]at h;by_cases h1:i<n
  ·rw[aP h1]at h;have e:i.toNat=j:=aZ h;exact⟨by rw[seqIndex_of h0 h1,e],(),(),h1⟩
  ·rw[aM h1]at h;cases h
 ·rw[aM h0]at h;by_cases h1:-(n:Int)<=i
  ·rw[aP h1]at h;have e:(i+n).toNat=j:=aZ h;exact⟨by rw[seqIndex_neg () h1,e],(),h1,()⟩
  ·rw[aM h1]at h;cases h
def Bc{α:Type}{xs:List α}{i:Int}{v:α}(h:rV xs i=some v):∃j,seqIndex? i xs.length=some j/\xs[j]?=some v/\j<xs.length/\-(xs.length:Int)<=i/\i<xs.length:=by
 unfold rV at h
 cases e:DJ xs.length i with
 | none=>rw[e]at h;cases h
 | some j=>
  rw[e]at h;obtain⟨h1,h2,h3,d⟩:=Fy e;exact⟨j,h1,h,h2,h3,d⟩
def Ox{α:Type}{xs:List α}{j:Nat}{v:α}(h:xs[j]?=some v):rV xs (j:Int)=some v:=by
 have d:j<xs.length:=(aJ.mp h).1;have e:DJ xs.length (j:Int)=some j:=by
  unfold DJ;rw[aP (),aP ()];simp
 unfold rV;rw[e];exact h
abbrev vI (b:aE):Prop:=∀o i,subscripted b false o i=operate [o,i] (getItem o i)
abbrev OX (X:Cx)(r:R2):Prop:=
 ∀(f d:aE) (pins:bn) (s:aC) (σ:St) (H:Hp) (x y:V) (v u:af) (Q:VK),Inv X pins σ H s->RelV x v->RelV y u->r x y H Q ->
  subscripted d false v u=operate [v,u] (getItem v u)->wpAny (model X.prog X.w) X.A (subscriptTail f d v u) (EP X pins σ Q) X.xe s
abbrev EF (X:Cx)(id:String)(r:V->List V->Hp->VK->Prop):Prop:=
 ∀(pins:bn) (s:aC) (σ:St) (H:Hp) (x:V) (xs:List V) (v:af) (us:ba) (Q:VK),Inv X pins σ H s->RelV x v->Vals xs us->r x xs H Q ->
  wpAny (model X.prog X.w) X.A (call (.builtin id) (v::us)) (EP X pins σ Q) X.xe s
section
variable {X:Cx}{a b:aE}{ta tb:TE}{pos:Pos}
def F0{r:R2}(hr:OX X r)(ha:PE X a ta)(hb:PE X b tb)(hs:vI b):PE X (.Subscript a b pos) (Xk r ta tb):=by
 kd_p;exact Subscript_<|SA ha hb I h λv u d x y H2 f rx ry q=>hr a b pins d σ H2 x y v u Q f rx ry q<|hs _ _
abbrev Y4 (K:au):R2:=λx y H Q=>∃p xs i v,x=.ref p/\y=.int i/\p7 K H p xs/\rV xs i=some v/\Q v H
abbrev YT (K:au):R2:=λx y H Q=>∃p xs i v,x=.ref p/\y=.int i/\nj K H p xs/\rV xs i=some v/\Q v H
abbrev Zv:R2:=λx y H Q=>∃z i c,x=.str z/\y=.int i/\z.length<=sizeLine/\rV z.cps.toList i=some c/\Q (.str ⟨#[c]⟩) H
def GV:OX X (Y4 X.K):=by
 intro B f pins s σ H x y v u Q I rx ry h hs;obtain⟨p,xs,i,z,rfl,rfl,hq,F,q⟩:=h
 cases rx
 obtain⟨t,rfl⟩:=ry;obtain⟨g,r,pl,L⟩:=I.list hq;obtain⟨j,h1,h2,h3,D,J⟩:=Bc F;obtain⟨w,C,m⟩:=r.get h2;have G:=r.length;have hn:=v_;have d:EP X pins σ Q w s:=⟨z,H,I,m,q⟩;by_cases h0:0<=i
 ·have k:i.toNat=j:=by
   rw[seqIndex_of h0 J]at h1;exact aZ h1
  exact item_listR pl.isList h0 () (by rw[k];simpa using C) d hs
 ·have k:(i+(g.toArray.size:Int)).toNat=j:=by
   rw[seqIndex_neg () D]at h1;rw[a_,<- G];exact aZ h1
  exact subscriptTail_builtinR (x:=w) pl.isList.typeIs slot_list_getitem.lookup
   (wpAny_getItem_list_neg (Q:=λr s'=>r=w/\EP X pins σ Q r s') pl.isList () (by rw[a_]<;>lia) () (by rw[k];simpa using C) ⟨rfl,d⟩) hs
def VB:OX X (YT X.K):=by
 intro k d pins s σ H x y v u Q I rx ry h hs;obtain⟨p,xs,i,z,rfl,rfl,hq,B,q⟩:=h
 cases rx
 obtain⟨t,rfl⟩:=ry;obtain⟨m,r,pl,G⟩:=I.tuple hq;obtain⟨j,h1,h2,h3,F,J⟩:=Bc B;obtain⟨w,C,g⟩:=r.get h2;have D:=r.length;have hn:=v_;have f:EP X pins σ Q w s:=⟨z,H,I,g,q⟩;exact subscriptTail_builtinR (x:=w) pl.typeIs slot_tuple_getitem.lookup
  (getItem_tuple (j:=j) (Q:=λr s'=>r=w/\EP X pins σ Q r s') pl () () (by rw[a_,<- D];exact h1) (by simpa using C) ⟨rfl,f⟩) hs
def Ux:OX X Zv:=by
 intro f d pins s σ H x y v u Q I rx ry h hs;obtain⟨z,i,c,rfl,rfl,B,k,q⟩:=h;obtain⟨t,rfl⟩:=rx;obtain⟨C,rfl⟩:=ry;obtain⟨j,h1,h2,h3,g,p⟩:=Bc k;have m:z.cps.toList.length=z.length:=by simp[Str.length]
 rw[m]at h1 g p;have hn:=v_;exact tail_any (typeIs_str s z t) slot_str_getitem.lookup (getItem_str (c:=c) (by
  have e1:decide (i < -(2 ^ 63:Int))=false:=bu ();have e2:decide (i>=2 ^ 63)=false:=bu ();rw[e1,e2,Bool.or_false]) (by rw[h1];simpa using h2) ⟨.str ⟨#[c]⟩,H,I.tok _,⟨_,rfl⟩,q⟩) hs
def El(its:ba)(n j:Nat)(u:af):Obj.mapSeq (·.setIfInBounds j u) { cls:=.type "list",data:=.seq its.toArray n }={ cls:=.type "list",data:=.seq (its.set j u).toArray n }:=by
 simp[Obj.mapSeq]
def Inv.lst{H:Hp}{s:aC}{p:ak}{xs:List V}(I:Inv X pins σ H s)(h:H p=some (.lst xs)) :
  ∃(its:ba) (n:Nat),Vals xs its/\s.heap.get? p=some { cls:=.type "list",data:=.seq its.toArray n }/\xs.length<=sizeLine:=by
 obtain⟨z,its,n,r,e⟩:=I.hok p _ h;exact⟨its,n,r,e,z⟩
def Inv.UE{H:Hp}{s:aC}{p:ak}{ys:List V}{its its':ba}{n:Nat}{f:Obj->Obj}(I:Inv X pins σ H s)(h:H p=some (.lst xs))
  (ho:s.heap.get? p=some { cls:=.type "list",data:=.seq its.toArray n }) (hf:f { cls:=.type "list",data:=.seq its.toArray n }={ cls:=.type "list",data:=.seq its'.toArray n' }) (r:Vals ys its') (hz:ys.length<=sizeLine) (t:Nat) :
  Inv X pins σ (upd H p<|.lst ys) { s with heap:=s.heap.update p f,toks:=t }:=by
 have e:(s.heap.update p f).get? p=some { cls:=.type "list",data:=.seq its'.toArray n' }:=by
  rw[Heap.get?_update_self f ho<|by rw[hf]<;>rfl,hf]
 refine I.write (x:=p) (e:=p) (by rw[h];trivial) (.inl rfl) (λb u hb q=>(Heap.get?_update_other _ _<|cT hb).trans q) ⟨_,e⟩ ?_;exact⟨hz,its',n',r,e⟩
abbrev Ws:V->V->V->Hp->(Hp->Prop)->Prop:=λo i v H Q=>∃p xs k j,o=.ref p/\i=.int k/\H p=some (.lst xs)/\DJ xs.length k=some j/\Q (upd H p<|.lst<|xs.set j v)
def set_list:CI X Ws:=by
 intro pins s σ H o i v M iv u Q I J K L h;obtain⟨p,xs,k,j,rfl,rfl,D,F,q⟩:=h
 cases J
 obtain⟨t,rfl⟩:=K;obtain⟨d,n,r,f,G⟩:=I.lst D;obtain⟨h1,h2,h3,B⟩:=Fy F;have g:=r.length;have hn:=v_;have C:Inv X pins σ (upd H p<|.lst<|xs.set j v) { s with heap:=s.heap.update p<|Obj.mapSeq (·.setIfInBounds j u)}:=
  I.UE D f (El d n j u) (r.set L j) (by rw[bW];exact G) s.toks
 by_cases h0:0<=k
 ·have m:k.toNat=j:=by
   rw[seqIndex_of h0 B]at h1;exact aZ h1
  exact PySem.W.ki_setAt f h0 () (by rw[a_,<- g];exact B)<|by rw[m];exact⟨_,C,q⟩
 ·have m:(k+(d.toArray.size:Int)).toNat=j:=by
   rw[seqIndex_neg () h3]at h1;rw[a_,<- g];exact aZ h1
  exact PySem.W.ki_setBack f () (by rw[a_,<- g];exact h3) ()<|by rw[m];exact⟨_,C,q⟩
def rC:jA X (.type "list") (λxs H Q=>∃p ys,xs=[.ref p]/\(p7 X.K H p ys\/nj X.K H p ys)/\∀l,H l=none->Q (.ref l) (upd H l<|.lst ys)):=by
 fin2;obtain⟨p,ys,rfl,hq,q⟩:=h;kj_on
 cases rx
 have m:∀(d:ba),Vals ys d->ys.length<=sizeLine->∀(h':aq) (f:Nat),(∀b o',s.heap.get? b=some o'->h'.get? b=some o') ->
   h'.get? s.heap.objs.size=some { cls:=.type "list",dict:=none,data:=.seq d.toArray f,slots:=#[]}->EP X pins σ Q (.ref s.heap.objs.size) { s with heap:=h' }:=λd g k h' f kp e=>
  ⟨.ref s.heap.objs.size,_,I.laid (t':=s.toks) kp (aL _)<|show jJ X.prog X.w _ h' _ (.lst ys)from⟨k,d,f,g,e⟩,rfl,q _<|I.hok.fresh<|aL _⟩
 rcases hq with hq|hq
 ·obtain⟨d,g,pl,k⟩:=I.list hq;have j:=g.length;obtain⟨o,B,hc,n,t⟩:=pl.isList;exact call_list_seq p (.inl rfl) B hc t (λh' f kp e=>m d g k h' f kp e) (by dsimp[a_]<;>lia)
 ·obtain⟨d,g,pl,k⟩:=I.tuple hq;have j:=g.length;obtain⟨o,B,hc,n,t⟩:=pl;exact call_list_seq p (.inr rfl) B hc t (λh' f kp e=>m d g k h' f kp e)<|by dsimp[a_]<;>lia
def qi:jA X (.type "tuple") (λxs H Q=>∃p ys,xs=[.ref p]/\((p7 X.K H p ys/\∀l,H l=none->Q (.ref l) (upd H l<|.tup ys))\/(nj X.K H p ys/\Q (.ref p) H))):=by
 fin2;obtain⟨p,ys,rfl,h⟩:=h;kj_on
 cases rx
 rcases h with⟨hq,q⟩|⟨hq,q⟩
 ·obtain⟨d,f,pl,j⟩:=I.list hq;have g:=f.length;refine call_tuple_list pl.isList (λh' kp=>?_) (by dsimp[a_]<;>lia);have k:Inv X pins σ H { s with heap:=h' }:=I.kept (t':=s.toks) kp;have m:Inv X pins σ (upd H h'.objs.size<|.tup ys) { s with heap:=h'.push { cls:=.type "tuple",data:=.seq d.toArray }}:=
   k.laid (t':=s.toks) (λb o e=>aQ _ e) (aL _) (show jJ X.prog X.w _ _ _ (.tup ys)from⟨j,d,f,pT.new _ _⟩)
  exact⟨.ref h'.objs.size,_,m,rfl,q _<|k.hok.fresh<|aL _⟩
 ·obtain⟨d,f,pl,j⟩:=I.tuple hq;exact call_tuple_same pl ⟨.ref p,H,I,rfl,q⟩
abbrev VT (K:au)(T:String)(x:V)(H:Hp):Prop:=match x with
 | .str _=>T = "str"
 | .int _=>T = "int"
 | .ref p=>(T = "list" /\ ∃xs,p7 K H p xs)\/(T = "tuple" /\ ∃o,K.lookup p=some o/\o.cls=.type "tuple" /\ o.dict=none) \/
   (T = "dict" /\ ((∃kvs,H p=some (.dK kvs))\/∃kvs,H p=some (.dT kvs)))\/(T = "set" /\ ∃S n,H p=some (.set S n))
 | _=>False
def J_{H:Hp}{s:aC}{x:V}{v:af}(I:Inv X pins σ H s)(r:RelV x v)(ty:VT X.K T x H) :
  s.TypeIs v T/\∀a,v=.ref a->∃ob,s.heap.get? a=some ob/\ob.dict=none:=by
 cases x with
 | str z=>
  obtain⟨t,rfl⟩:=r
  cases(show T = "str" from ty)
  exact⟨typeIs_str s z t,nofun⟩
 | int i=>
  obtain⟨t,rfl⟩:=r
  cases(show T = "int" from ty)
  exact⟨typeIs_int s i t,nofun⟩
 | ref p=>
  cases r
  rcases ty with⟨rfl,xs,hq⟩|⟨rfl,o,d,hc,f⟩|⟨rfl,d⟩|⟨rfl,S,n,d⟩
  ·obtain⟨g,_,pl,_⟩:=I.list hq;refine⟨pl.isList.typeIs,λa e=>?_⟩
   cases e
   obtain⟨o,n,e,c,f,_⟩:=pl;exact⟨o,e,f⟩
  ·refine⟨⟨o,I.B0 p o d,hc⟩,λa e=>?_⟩
   cases e
   exact⟨o,I.B0 _ o d,f⟩
  ·have z:∃o,s.heap.get? p=some o/\o.ExactDict:=by
    rcases d with⟨kvs,d⟩|⟨kvs,d⟩
    ·obtain⟨_,_,_,_,o,_,_,e,ex,_⟩:=I.hok p _ d;exact⟨o,e,ex⟩
    ·obtain⟨_,_,_,_,o,_,_,e,ex,_⟩:=I.hok p _ d;exact⟨o,e,ex⟩
   obtain⟨o,e,ex⟩:=z;refine⟨⟨o,e,ex.1⟩,λa e2=>?_⟩
   cases e2
   exact⟨o,e,ex.2.1⟩
  ·obtain⟨o,_,_,_,e,ex,_⟩:=I.hok p _ d;refine⟨⟨o,e,ex.1⟩,λa e2=>?_⟩
   cases e2
   exact⟨o,e,ex.2.1⟩
 | _=>exact False.elim ty
abbrev YH (K:au)(T:String)(r:V->List V->Hp->VK->Prop)(to:TE):TE:=λσ H Q=>to σ H λx H1=>VT K T x H1/\r x [] H1 Q
abbrev tBM (K:au)(T:String)(r:V->List V->Hp->VK->Prop)(to:TE)(t:TA):TE:=λσ H Q=>to σ H λx H1=>VT K T x H1/\t σ H1 λxs H2=>r x xs H2 Q
variable {o e:aE}{es:List aE}{to:TE}{t:TA}{name:Str}{apos cpos:Pos}{T id:String}{r:V->List V->Hp->VK->Prop}
def TU(pa:PlainAttrs T)(slot:Slot T name id)(hty:typeOf (.builtin id)=pure (.type "method_descriptor"))(hm:EF X id r)(ho:PE X o to)
  (hbase:attributeBase o name X.env (eval o X.env)=eval o X.env<|>ε) (hline:(apos.endLine == cpos.line)=true<|>ε):PE X (.Call (.Attribute o name apos) [] [] cpos) (YH X.K T r to):=by
 kd_p;refine wpAny_Call_method0_late hbase hline<|lA (ho pins s σ H _ I h) λv g ⟨x,H1,d,r1,ty,f⟩=>?_;obtain⟨h1,h2⟩:=J_ d r1 ty;exact⟨T,id,pa,slot,hty,h1,h2,f_ rfl<|PySem.evalArgs_none<|hm pins g σ H1 x [] v [] Q d r1 .nil f⟩
def JD(pa:PlainAttrs T)(slot:Slot T name id)(hty:typeOf (.builtin id)=pure (.type "method_descriptor"))(hm:EF X id r)(ho:PE X o to)(ha:PA X (e::es) t)
  (hbase:attributeBase o name X.env (eval o X.env)=eval o X.env<|>ε)
  (hfew:(((backTo cpos<|starEach (e::es) X.env).all (λx=>!x.1) && (backToKw cpos<|keywordEach [] X.env).all (λx=>x.1.isSome)
   && decide ((e::es).length+([]:List Keyword).length+(if ([]:List Keyword).isEmpty then 0 else 1)<30))=true)<|>ε)
  (hline:(apos.endLine == cpos.line)=true<|>ε) (hs:starEach (e::es) X.env=(false,eval e X.env)::starEach es X.env<|>ε) (hplain:((backTo cpos<|starEach es X.env).any (·.1)=false)<|>ε) :
  PE X (.Call (.Attribute o name apos) (e::es) [] cpos) (tBM X.K T r to t):=by
 kd_p;refine wpAny_Call_method_late hbase hfew hline rfl<|lA (ho pins s σ H _ I h) λv q ⟨x,H1,d,r1,ty,j⟩=>?_;obtain⟨h1,h2⟩:=J_ d r1 ty;refine⟨T,id,pa,slot,hty,h1,h2,?_⟩;have f:=ha cpos pins q σ H1 _ d j;rw[hs]at f ⊢;refine f_ (by show(false || (backTo cpos<|starEach es X.env).any (·.1))=false;rw[hplain]<;>rfl)<|Calls.evalArgs_plain ?_;exact lA f λus g ⟨k,H2,m,r2,p⟩=>hm pins g σ H2 x k v us Q m r1 r2 p
end
abbrev X_ (X:Cx)(id:String)(r:V->List V->Hp->VK->Prop):Prop:=
 ∀(pins:bn) (s:aC) (σ:St) (H:Hp) (x:V) (xs:List V) (v:af) (us:ba) (Q:VK),Inv X pins σ H s->RelV x v->Vals xs us->r x xs H Q ->
  wpAny (model X.prog X.w) X.A (call (.builtin id) (v::us)) (EP X pins σ Q) X.xe s
def Vals.one:∀{x:V}{us:ba},Vals [x] us->∃u,us=[u]/\RelV x u
 | _,_,.cons r .nil=>⟨_,rfl,r⟩
def Vals.zero:∀{us:ba},Vals [] us->us=[]
 | _,.nil=>rfl
def Vals.dropLast{xs:List V}{us:ba}(h:Vals xs us):Vals xs.dropLast us.dropLast:=by
 induction h with
 | nil=>exact .nil
 | cons r t d=>
  cases t with
  | nil=>exact .nil
  | cons q f=>exact .cons r d
theorem Vals.eraseIdx:∀{xs:List V}{us:ba}(i:Nat),Vals xs us->Vals (xs.eraseIdx i) (us.eraseIdx i)
 | _,_,_,.nil=>.nil
 | _,_,0,.cons _ t=>t
 | _,_,i+1,.cons r t=>.cons r<|Vals.eraseIdx i t
theorem Vals.rep(h:Vals xs us):∀k:Nat,Vals (List.replicate k xs).flatten (List.replicate k us).flatten
 | 0=>.nil
 | k+1=>by
  rw[c6,c6,dX,dX];exact Vals.append h<|Vals.rep h k
def EC{α:Type}(l:List α):l.eraseIdx (l.length-1)=l.dropLast:=by
 induction l with
 | nil=>rfl
 | cons a r d=>
  cases r with
  | nil=>rfl
  | cons b r=>
   have e:(a::b::r).length-1=((b::r).length-1)+1:=by
    have h1:(a::b::r).length=r.length+2:=rfl;have h2:(b::r).length=r.length+1:=rfl
    lia
   rw[e,List.eraseIdx_cons_succ,d]
   all_goals rfl
theorem zx{α:Type}:∀(l:List α) (i:Nat),(l.eraseIdx i).length<=l.length
 | [],_=>aL _
 | _::_,0=>Nat.le_succ _
 | _::r,i+1=>Nat.succ_le_succ<|zx r i
theorem foldl_rep(its:ba):∀(k:Nat) (acc:ba),
  List.foldl (λx1 x2=>x1++x2) acc.toArray (List.replicate k its.toArray)=(acc++(List.replicate k its).flatten).toArray
 | 0,acc=>by simp
 | k+1,acc=>by
  have e:acc.toArray++its.toArray=(acc++its).toArray:=by simp
  have e2:(acc++its)++(List.replicate k its).flatten=acc++(List.replicate (k+1) its).flatten:=by
   rw[c6,dX,cB]
  rw[<- e2,<- foldl_rep its k (acc++its),<- e,c6,dU]
section
variable {X:Cx}{pins:bn}{σ:St}{H:Hp}{s:aC}{l:ak}{xs ys:List V}
def Inv.Ur{its its':ba}{n:Nat}{f:Array af->Array af}{t':Nat}(I:Inv X pins σ H s)(hH:H l=some (.lst xs))
  (e:s.heap.get? l=some { cls:=.type "list",data:=.seq its.toArray n }) (hf:f its.toArray=its'.toArray) (hv:Vals ys its') (hz:ys.length<=sizeLine) :
  Inv X pins σ (upd H l<|.lst ys) { s with heap:=s.heap.update l<|Obj.mapSeq f,toks:=t' }:=by
 have q:=PySem.IsL.update e f;rw[hf]at q;refine I.write (x:=l) (e:=l) (by rw[hH];exact trivial) (.inl rfl) (λg u hb d=>(Heap.get?_update_other s.heap (Obj.mapSeq f)<|cT hb).trans d) ⟨_,q⟩ ?_;exact⟨hz,its',_,hv,q⟩
def Inv.RM{its:ba}{t':Nat}(I:Inv X pins σ H s)(hv:Vals ys its)(hz:ys.length<=sizeLine) :
  Inv X pins σ (upd H s.heap.objs.size<|.lst ys) { s with heap:=s.heap.push { cls:=.type "list",data:=.seq its.toArray },toks:=t' }:=
 I.laid (λ_ _ q=>aQ _ q) (aL _) ⟨hz,its,0,hv,bD _ rfl⟩
def Inv.fresh(I:Inv X pins σ H s):H s.heap.objs.size=none:=I.hok.fresh<|aL _
def Inv.IU(I:Inv X pins σ H s)(hH:H l=some (.lst xs)):xs.length<=sizeLine/\∃(its:ba) (n:Nat),Vals xs its/\xs.length=its.length/\s.heap.get? l=some { cls:=.type "list",data:=.seq its.toArray n }:=by
 obtain⟨z,its,n,r,e⟩:=I.hok l _ hH;exact⟨z,its,n,r,r.length,e⟩
def MJ{n:Nat}(h:n<=sizeLine):Builtin.List.listTooLong n=false:=by
 unfold Builtin.List.listTooLong;exact bu ()
end
section
variable {X:Cx}
abbrev Pu:V->List V->Hp->VK->Prop:=λx d H Q=>∃l xs y,x=.ref l/\d=[y]/\H l=some (.lst xs)/\xs.length<sizeLine/\Q .non (upd H l<|.lst<|xs++[y])
def zC:X_ X "list.append" Pu:=by
 intro pins s σ H x k v us Q I rx j h;obtain⟨l,xs,y,rfl,rfl,f,m,q⟩:=h
 cases rx
 obtain⟨u,rfl,g⟩:=j.one;obtain⟨z,d,n,r,p,e⟩:=I.IU f;refine gU F.slot_list_append ⟨_,e,rfl⟩ F.entry_list_append (F.args_list_append_2 _ _) (PySem.list_append l d.toArray n u<|by rw[a_];lia) ⟨e,?_⟩;refine⟨.non,_,I.Ur (its':=d++[u]) f e (by simp) (r.append<|.cons g .nil) ?_,rfl,q⟩;rw[bw,List.length_singleton]
 lia
abbrev Yy:V->List V->Hp->VK->Prop:=λx d H Q=>∃l xs y,x=.ref l/\d=[]/\H l=some (.lst xs)/\xs[xs.length-1]?=some y/\Q y (upd H l<|.lst xs.dropLast)
def Ti:X_ X "list.pop" Yy:=by
 intro pins s σ H x B v us Q I rx m h;obtain⟨l,xs,y,rfl,rfl,j,hy,q⟩:=h
 cases rx
 have g:=m.zero;subst g;obtain⟨z,d,n,r,t,e⟩:=I.IU j;obtain⟨u,p,k⟩:=r.get hy;have f:d.toArray[d.toArray.size-1]?=some u:=by
  show d.toArray[d.length-1]?=some u;rw[<- cM,<- t];exact p
 refine gU F.slot_list_pop ⟨_,e,rfl⟩ F.entry_list_pop (F.args_list_pop_1 _) (MeetsSeq.list_pop_last l d.toArray n u f<|by rw[a_];lia) ⟨e,?_⟩;refine⟨y,_,I.Ur (its':=d.dropLast) j e ?_ r.dropLast ?_,k,q⟩
 ·skip
  rw[a_,gr,EC]
 ·rw[List.length_dropLast]
  lia
abbrev Sw:V->List V->Hp->VK->Prop:=λx d H Q=>∃l xs i k y,x=.ref l/\d=[.int i]/\H l=some (.lst xs)/\-(2 ^ 63)<=i/\i<2 ^ 63/\seqIndex? i xs.length=some k/\xs[k]?=some y/\Q y (upd H l<|.lst<|xs.eraseIdx k)
def Lx:X_ X "list.pop" Sw:=by
 intro pins s σ H x C v us Q I rx m h;obtain⟨l,xs,i,k,y,rfl,rfl,g,h1,h2,B,hy,q⟩:=h
 cases rx
 obtain⟨u,rfl,j⟩:=m.one;obtain⟨t,rfl⟩:=j;obtain⟨z,d,n,r,p,e⟩:=I.IU g;obtain⟨w,hw,f⟩:=r.get hy;refine gU F.slot_list_pop ⟨_,e,rfl⟩ F.entry_list_pop (F.args_list_pop_2 _ _)
  (MeetsSeq.list_pop_at l d.toArray n i t k w (fitsIndex_both h1 h2) (by rw[a_,<- p];exact B) (by rw[<- cM];exact hw)<|by rw[a_];lia) ⟨e,?_⟩
 refine⟨y,_,I.Ur (its':=d.eraseIdx k) g e ?_ (r.eraseIdx k) ?_,f,q⟩
 ·skip
  rw[gr]
 ·have:=zx xs k
  lia
abbrev Zt:R2:=λx y H Q=>∃l b xs zs,x=.ref l/\y=.ref b/\H l=some (.lst xs)/\H b=some (.lst zs)/\xs.length+zs.length<=sizeLine/\∀p,H p=none->Q (.ref p) (upd H p<|.lst<|xs++zs)
def TX:ni X (binaryOp .Add) Zt:=by
 kpf_c;obtain⟨l,b,xs,zs,rfl,rfl,m,j,p,q⟩:=h
 cases rx
 cases ry
 obtain⟨z,f,n,r,B,e⟩:=I.IU m;obtain⟨C,d,t,r2,k,e2⟩:=I.IU j;refine PySem.P.add_list e e2 ?_ (by rw[a_,a_];lia);have g:f.toArray++d.toArray=(f++d).toArray:=by simp
 rw[g];exact⟨.ref _,_,I.RM (t':=s.toks) (r.append r2)<|by rw[bw];lia,rfl,q _ I.fresh⟩
abbrev Y7:R2:=λx y H Q=>∃l k xs,x=.ref l/\y=.int k/\H l=some (.lst xs)/\-(2 ^ 63)<=k/\k<2 ^ 63/\xs.length * k.toNat<=sizeLine /\
 ∀p,H p=none->Q (.ref p) (upd H p<|.lst (List.replicate k.toNat xs).flatten)
def len_rep{α:Type}(xs:List α)(k:Nat):(List.replicate k xs).flatten.length=k * xs.length:=by
 induction k with
 | zero=>simp
 | succ k d=>rw[c6,dX,bw,d,gR,Nat.add_comm]
def SK:ni X (binaryOp .Mult) Y7:=by
 kpf_c;obtain⟨l,k,xs,rfl,rfl,J,h1,h2,G,q⟩:=h
 cases rx
 obtain⟨t,rfl⟩:=ry;obtain⟨z,d,n,r,K,e⟩:=I.IU J;have g:d.toArray.size * k.toNat<=sizeLine:=by rw[a_,<- K];exact G
 have B:¬d.toArray.size * k.toNat>(2 ^ 63-1) / 8:=by
  have:(sizeLine:Nat)<=(2 ^ 63-1) / 8:=by decide
  omega
 have j:¬(!Builtin.List.listFitsIndex k)=true:=by
  rw[fitsIndex_both h1 h2];exact bL
 have f:¬Builtin.List.listTooLong (d.toArray.size * k.toNat)=true:=by
  rw[MJ g];exact bL
 have p:List.foldl (λD C=>D++C) #[] (List.replicate (if d.toArray.isEmpty=true then 0 else k.toNat) d.toArray)=(List.replicate k.toNat d).flatten.toArray:=by
  have f0:∀m:Nat,List.foldl (λD C=>D++C) #[] (List.replicate m d.toArray)=(List.replicate m d).flatten.toArray:=λm=>by
   have:=foldl_rep d m [];rw[List.nil_append]at this;exact this
  rw[f0]
  cases d with
  | nil=>simp
  | cons a L=>rw[aM<|by simp]
 refine wpAny_binaryOp_repeat_ref (T := "list") (U := "int") ⋯ ⟨_,e,rfl⟩ (λs'=>typeIs_int s' k t) noFill_list_mul F.fills_int_mul F.slot_int_rmul repeat_list F.slot_int_index.lookup
  (gU F.slot_int_rmul (typeIs_int s k t) F.entry_int_rmul (F.args_int_rmul_2 _ _) (int___rmul___int_list k t l d.toArray n)
   ⟨e,rfl,⟨_,e,rfl⟩,gU F.slot_list_mul ⟨_,e,rfl⟩ F.entry_list_mul (F.args_list_mul_2 _ _) (AutoListH.list___mul___list_int_3 l d.toArray n k t j B f) ⟨e,?_⟩⟩)
 rw[p];exact⟨.ref _,_,I.RM (t':=s.toks) (r.rep k.toNat)<|by rw[len_rep,mul_comm];exact G,rfl,q _ I.fresh⟩
end
end L2
namespace Att
open PySem PySem.W PySem.Calls PyProof.Rows
def wO{P:Params}:∀(ns:ag) (vs:ba),WellAll P h vs (ns.map WData.int)->IntsAre vs ns:=by
 intro ns
 induction ns with
 | nil=>
  intro vs w;rw[fm]at w
  cases w
  exact .nil
 | cons n ns d=>
  intro vs w;rw[bE]at w
  cases w with
  | cons a b=>
   cases a
   exact .cons _ _<|d _ b
def IM{l:OpenLaw}{n:Nat}(hn:l.most=some n){P:Params}{h:aq}
  (hpre:l.row.toRowW.claim.pre args=true) (hwl:WellAll P h vals args) :
  ∃a vs ns,vals=[Value.ref a]/\args=[WData.list<|ns.map WData.int]/\h.get? a=some { cls:=.type "list",data:=.seq vs.toArray }/\IntsAre vs ns/\ns.length<=n:=by
 have m:WShape.hasAll [] args [.list .int]=true:=(pre_splitW hpre).1;have hc:l.pre.holds [] { args:=args }=true:=(pre_splitW hpre).2;obtain⟨d,r,rfl,h1,h2⟩:=hasAllW_cons m;obtain rfl:=hasAllW_nil h2;obtain⟨xs,rfl,h3⟩:=hasW_list h1;obtain⟨ns,rfl⟩:=items_int h3;have f:ns.length<=n:=by
  unfold OpenLaw.pre at hc;have j:(WTm.not<|.lt (.lit<|.int (n:Int))<|.len<|.arg 0).holds [] { args:=[.list<|ns.map .int]}=true:=by
   have j:=(holds_andW hc).1;rw[hn]at j;exact j
  have k:=condW_of j<|w_not<|w_lt w_lit<|w_len_list<|w_arg rfl;rw[aG]at k;refine Nat.le_of_not_lt λq=>?_;have t:(n:Int)<((ns.length:Nat):Int):=by omega
  first
   | (rw[aY t]at k;exact absurd k ⋯)
   | (simp at k;omega)
 cases hwl with
 | cons C B=>
  cases B
  cases C with
  | list p g=>exact⟨_,_,ns,rfl,rfl,p,wO ns _ g,f⟩
def Iw(l:OpenLaw)(args:List WData):l.row.toRowW.claim.post args (.bool true) args=true:=
 postW_of (r:=l.row.toRowW) (X:=(true == true))
  (show WShape.has [] (.bool true) .bool=true by first|rfl|decide|simp[WShape.has,WShape.arms,WShape.armsAll])
  (show(WTm.eq .res<|.lit<|.bool true).value [] { args:=args,res:=some<|.bool true,after:=args }=some (.bool<|true == true)from w_eq_bool (w_res rfl) w_lit) rfl
def CN{l:OpenLaw}{n:Nat}{q:aj}{XP:(Str->bd)->aq->Prop}{YP:ah->aq->Prop}{d:DefRec}
  (hn:l.most=some n) (hdf:d.params.defaults=[])
  (call:∀(w:ah) (s₀ s₁:aC) (mg mb:Str->bd) (fa:ak) (o:Obj) (pm cd doc:af) (a:ak) (vs:ba) (ns:ag),
   Ground q loose [] XP w s₀ mg mb s₁.heap->YP w s₁.heap ->
   s₁.heap.get? fa=some o->o.data=.func (docDef d.name d.params d.body d.scope pm cd doc)->s₁.heap.CodeRec cd d.name->mg d.name=some (.ref fa) ->
   s₁.heap.get? a=some { cls:=.type "list",data:=.seq vs.toArray }->IntsAre vs ns->ns.length<=n->s₁.gens=#[] ->
   codeAny (model l.prog w) callerA (.call (.ref fa) ⟨[.ref a],[]⟩) (λr s'=>r=.ok (.ret<|.bool true)/\OldK s₁.heap s'.heap/\s'.os=s₁.os/\AllBare s'.gens) s₁) :
  WalkO q loose XP YP l.row.toRowW d [] (λf vs=>PySem.call f vs):=by
 intro w s₀ s₁ mg mb G Y fa o pm cd doc P kV O N t J B hg C F as k D L p T;obtain rfl:P=.none:=Dflts.none J hdf;obtain rfl:kV=.none:=Dflts.noKw J;obtain⟨a,vs,ns,rfl,rfl,m,g,j⟩:=IM hn k p;refine enter_call<|iG (call w s₀ s₁ mg mb fa o pm cd doc a vs ns G Y O (fd_plain N) t B m g j hg) λr s' hq=>?_;obtain⟨rfl,h2,h3,K⟩:=hq;exact⟨.inl ⟨.bool true,.bool true,[],rfl,λ_=>rfl,.bool true,Iw l _,λ_=>⟨List.Pairwise.nil,λ_ M=>(nomatch M)⟩⟩,h2,h3,K⟩
end Att
namespace L2
open PySem PySem.Spec PyProof.Rows
theorem zf:∀{vs:ba}{ns:ag},IntsAre vs ns->Vals (ns.map V.int) vs
 | _,_,.nil=>.nil
 | _,_,.cons n t h=>.cons ⟨t,rfl⟩<|zf h
abbrev PX (H:Hp):Prop:=∀b,H b=none\/∃o xs,H b=some (.frz o<|.lst xs)
def J9{P:aj}{w:ah}{K:au}{mg mb:Str->bd}{CX:N6}{k:Nat}{fa a:ak}{x:Str}{sp:Sp}{s₁:aC}{vs:ba}{ns:ag}
  (KX:K.In s₁.heap) (hns:s₁.heap.Ns mainGlobals mg) (hb:s₁.heap.Ns builtinsNs mb) (hbb:∀x:Str,x ≠ "__name__" -> mb x=bootBuiltins x) (hlim:s₁.heap.NoLimit) (hg:s₁.gens=#[])
  (ha:s₁.heap.get? a=some { cls:=.type "list",data:=.seq vs.toArray }) (hi:IntsAre vs ns) (hl:ns.length<=sizeLine) (hr:Room k callerA)
  (F:∀base:aq,K.In base->base.Ns mainGlobals mg->FnOk P w K mg base CX k fa fd [x] sp) (hbind:∀(s:aC) (u:af),BindsTo s fd ⟨[u],[]⟩ [(x,u)])
  (hsp:∀H:Hp,PX H->p7 K H a (ns.map V.int)->sp [.ref a] H (λv _=>v=.bl true) λ_ _ _=>False)
  (hCX:∀H e s',CX [] H s₁ (λ_ _ _=>False) e s'->False) :
  codeAny (model P w) callerA (.call (.ref fa) ⟨[.ref a],[]⟩) (λr s'=>r=.ok (.ret<|.bool true)/\OldK s₁.heap s'.heap/\s'.os=s₁.os/\AllBare s'.gens) s₁:=by
 have N:=zf hi;have G:=hi.length;have j:∀H:Hp,PX H->p7 K H a (ns.map V.int)->vd P w H s₁.heap->(∀b,H b≠none->b=a)->(H a≠none->K.lookup a=none) ->
   codeAny (model P w) callerA (.call (.ref fa) ⟨[.ref a],[]⟩) (λr s'=>r=.ok (.ret<|.bool true)/\OldK s₁.heap s'.heap/\s'.os=s₁.os/\AllBare s'.gens) s₁:=by
  intro H O hS t T hK;have f:∀{b:ak} {o:Obj},s₁.heap.get? b=some o->H b=none->(BR s₁.heap H).get? b=some o:=λe n=>MC e n;have J:∀{b:ak} {o:Obj} {es:Array DictEntry} {ep:Nat},s₁.heap.get? b=some o->o.data=.dict es ep->H b=none:=λ{b o es ep} e d=>by
   cases q:H b with
   | none=>rfl
   | some u=>
    have L:b=a:=T b (by rw[q];simp);subst L;rw[ha]at e;cases e;have W:Data.seq vs.toArray _=Data.dict es ep:=d
    cases W
  have g:∀{b:ak} {m:Str->bd},s₁.heap.Ns b m->(BR s₁.heap H).Ns b m:=λ{b m} ⟨o,es,ep,e,d,r⟩=>⟨o,es,ep,f e<|J e d,d,r⟩;have p:K.In (BR s₁.heap H):=λb o e=>f (KX b o e) (by
   cases q:H b with
   | none=>rfl
   | some u=>
    have L:b=a:=T b (by rw[q];simp);subst L;rw[hK<|by rw[q];simp]at e;cases e)
  have Y:Mod K mg (BR s₁.heap H):=⟨p,g hns,⟨mb,g hb,hbb⟩,let⟨mc,h1,h2⟩:=hlim;⟨mc,g h1,h2⟩⟩;have e0:Env0 P w K mg (BR s₁.heap H) callerA [] s₁ H:=⟨rfl,Y,λb o e=>P4 e,Nat.le_of_eq<|Ja _ _,trivial,λb hb=>absurd (show b∈([]:bb)from hb)<|by simp,t,.of_eq hg⟩;refine iG ((F _ p<|g hns).run callerA [] s₁ H ⟨[.ref a],[]⟩ [.ref a] [.ref a] _ _ hr e0 (hbind s₁<|.ref a) (.cons rfl .nil)<|hsp H O hS) λr s' h=>?_
  cases r with
  | error e=>exact(hCX H e s' h).elim
  | ok fl=>
   cases fl with
   | next=>exact False.elim h
   | brk=>exact False.elim h
   | cont=>exact False.elim h
   | ret u=>
    obtain⟨v,H',os,B,un,C,r',q⟩:=h;have U:v=.bl true:=q;subst U;obtain rfl:u=Value.bool true:=r';refine⟨rfl,OldK.of_keep λb o e=>?_,os,B⟩
    cases q:H b with
    | none=>exact un.keep b o e q (by intro z;exact absurd (show b∈([]:bb)from z)<|by simp) (by simp)
    | some u=>
     rcases O b with z|⟨ob,xs,z⟩
     ·rw[q]at z;cases z
     ·have Z:=un.frzs b ob _ z;obtain⟨e1,_⟩:=t b _ z;obtain⟨e2,_⟩:=C b _ Z;rw[e]at e1;cases e1;exact e2
 cases M:K.lookup a with
 | some o=>
  have e:=KX a o M;rw[ha]at e
  cases e
  refine j (λ_=>none) (λ_=>.inl rfl) (.inr ⟨_,vs.toArray,_,M,rfl,rfl,rfl,by rw[a_,G];exact hl,by simpa using N⟩) (λb u z=>by have D:(none:Option HO)=some u:=z;cases D) (λb z=>absurd rfl z) λz=>absurd rfl z
 | none=>
  refine j (λb=>if b=a then some (.frz { cls:=.type "list",data:=.seq vs.toArray } (.lst<|ns.map V.int))else none) (λb=>?_) (.inl<|.inr ⟨{ cls:=.type "list",data:=.seq vs.toArray },aP rfl⟩) (λb u z=>?_) (λb z=>?_) λ_=>M
  ·by_cases hb:b=a
   ·exact .inr ⟨_,_,aP hb⟩
   ·exact .inl<|aM hb
  ·by_cases hb:b=a
   ·have D:=(aP hb).symm.trans z
    cases D
    subst hb;exact⟨ha,by rw[aG];exact hl,vs,_,N,ha⟩
   ·have D:=(aM hb).symm.trans z
    cases D
  ·by_cases hb:b=a
   ·exact hb
   ·exact absurd (aM hb) z
def Qp{l:PySem.W.OpenLaw}{n k:Nat}{q:aj}{XP:(Str->bd)->aq->Prop}{YP:ah->aq->Prop}{d:DefRec}{K:Params->au}{CX:ah->N6}{sp:ah->Sp}{x:Str}
  (hn:l.most=some n) (hn2:n<=sizeLine) (hdf:d.params.defaults=[]) (hr:Room k callerA)
  (hY:∀(w:ah) (h:aq),YP w h->(K w.params).In h)
  (F:∀(w:ah) (mg:Str->bd) (fa:ak) (h:aq),(K w.params).In h->h.Ns mainGlobals mg->mg d.name=some (.ref fa) ->
   ∃fd:FuncData,(∀(s:aC) (u:af),BindsTo s fd ⟨[u],[]⟩ [(x,u)]) /\
    ∀base:aq,(K w.params).In base->base.Ns mainGlobals mg->FnOk l.prog w (K w.params) mg base (CX w) k fa fd [x] (sp w))
  (hsp:∀(w:ah) (H:Hp) (a:ak) (ns:ag),ns.length<=n->PX H->p7 (K w.params) H a (ns.map V.int)->sp w [.ref a] H (λv _=>v=.bl true) λ_ _ _=>False)
  (hCX:∀(w:ah) (H:Hp) (s:aC) (e:af) (s':aC),CX w [] H s (λ_ _ _=>False) e s'->False) :
  PySem.W.WalkO q loose XP YP l.row.toRowW d [] (λf vs=>PySem.call f vs):=by
 refine Att.CN hn hdf λw D t mg mb fa o Z O N a vs ns G Y U P M B p m j hg=>?_;have C:=hY w _ Y;obtain⟨fd,hb,J⟩:=F w mg fa _ C G.T.g B;exact J9 C G.T.g G.T.b G.T.builtins G.T.nolimit hg p m (bJ j hn2) hr J hb (λH L hS=>hsp w H a ns j L hS) λH e s'=>hCX w H t e s'
abbrev t9 (s:aF):Arguments:=match s with
 | .FunctionDef _ a _ _ _ _ _ _ _ _=>a
 | _=>{ posonlyargs:=[],args:=[],vararg:=none,kwonlyargs:=[],kw_defaults:=[],kwarg:=none,defaults:=[]}
abbrev qe (s:aF):List aF:=match s with
 | .FunctionDef _ _ b _ _ _ _ _ _ _=>b
 | _=>[]
abbrev jf (s:aF):Scope:=match s with
 | .FunctionDef _ _ _ _ _ _ d _ _ _=>d
 | _=>{ kind:=.function,names:=[],isGenerator:=false,isCoroutine:=false }
meta abbrev o9:N6:=λ_ _ _ _ _ _=>False
meta abbrev E0:XK:=λ_ _ _=>False
def XS{X:Cx}:Passes o9 X E0:=λ_ _ _ _ _ _ _ h=>h.elim
structure Fun (K:au)(x qual:Str)(st:aF)(f:ak)(fd:FuncData):Prop where
 ex:∃(oc:af) (od:Option ak) (kV doc pm:af) (an:Option ak) (cdv ct:af) (osl:Array<|bd),
  fd=PySem.W.fnOf x qual (t9 st) (qe st) (jf st) .none kV doc pm an cdv ct/\K.lookup f=some ⟨oc,od,.func fd,osl⟩/\PySem.W.codeIn K cdv qual=true
 kp:PySem.W.keepIn K (.ref f)=true
section
variable {P:aj}{w:ah}{K:au}{mg:Str->bd}{base:aq}
def Fun.ok{x:Str}{st:aF}{f:ak}{N ps:ar}{k:Nat}{sp:Sp}(F:Fun K x qual st f fd)(S:FnScope N ps<|jf st)(len:∀vs H Q E,sp vs H Q E->vs.length=ps.length)
  (hbody:∀(cdv:af) (A:aA) (outer:List Env) (s:aC) (H:Hp) (vs:List V) (Q:VK) (E:XK),Room k (A.deeper<|envOfC qual (jf st) s.heap.objs.size f cdv)->sp vs H Q E ->
   ∃t,BG (D4 o9 P w K mg base N qual (jf st) f cdv A outer s H E).XT (qe st) t/\t { nx:=λ_ H'=>Q .non H',rt:=Q } (start N vs) H):FnOk P w K mg base o9 (k+1) f fd ps sp:=by
 obtain⟨D,C,kV,m,G,J,cdv,ct,j,rfl,B,g⟩:=F.ex;refine Wm B g S len λA outer s H vs Q E p d=>?_;obtain⟨t,h,q⟩:=hbody cdv A outer s H vs Q E p d;exact⟨t,h.XT,q⟩
def Fun.binds{x:Str}{st:aF}{f:ak}{ps:ar}(F:Fun K x qual st f fd)
  (h:∀(kV doc pm:af) (an:Option ak) (cdv ct:af) (us:ba),us.length=ps.length->bindArgs (PySem.W.fnOf x qual (t9 st) (qe st) (jf st) .none kV doc pm an cdv ct) ⟨us,[]⟩=pure (ps.zip us)):Binds K fd ps []:=by
 obtain⟨m,k,kV,doc,pm,an,cdv,ct,d,rfl,j,g⟩:=F.ex;exact .all<|h kV doc pm an cdv ct
def Vy{x:Str}{st:aF}{f:ak}{kV pm ct:af}(l:K.lookup f=some ⟨oc,od,.func<|PySem.W.fnOf x qual (t9 st) (qe st) (jf st) .none kV doc pm an cdv ct,osl⟩)
  (c:PySem.W.codeIn K cdv qual=true) (k:PySem.W.keepIn K (.ref f)=true):Fun K x qual st f (PySem.W.fnOf x qual (t9 st) (qe st) (jf st) .none kV doc pm an cdv ct):=⟨⟨oc,od,kV,doc,pm,an,cdv,ct,osl,rfl,l,c⟩,k⟩
end
set_option maxHeartbeats 4000000
abbrev OV (σ:St):bj->Option V
 | some j=>(σ[j]?).getD none
 | none=>none
abbrev uv (env:Env):List (Str×NameKind)->List (Str×ak)->List (Str×ak)
 | [],cs=>cs
 | (n,k)::r,cs=>uv env r (if k == .free then(n,(env.cells.lookup n).getD 0)::cs else cs)
def xU{scope:Scope}{env:Env}(h:∀y∈scope.names,y.2=.free->∃c,env.cells.lookup y.1=some c):closureFor scope env=pure (uv env scope.names []):=by
 have j:∀(l:List<|Str×NameKind) (d:List<|Str×ak),(∀y∈l,y.2=.free->∃c,env.cells.lookup y.1=some c) ->
   (forIn l d (λ(x:Str×NameKind) (r:List<|Str×ak)=>(match x with
    | (name,kind)=>if (kind == NameKind.free)=true then(do let c <- cellOf env name;pure (ForInStep.yield ((name,c)::r)))else pure (ForInStep.yield r):Sem<|ForInStep<|List<|Str×ak)))=(pure (uv env l d):Sem<|List<|Str×ak):=by
  intro l
  induction l with
  | nil=>intro d _;rfl
  | cons y r m=>
   intro d g;obtain⟨n,k⟩:=y;rw[iM];by_cases p:k=.free
   ·subst p;obtain⟨c,hc⟩:=g (n,.free) aO rfl;have e1:cellOf env n=pure c:=by
     unfold cellOf;rw[hc]
    dsimp[cI,eB,e1,pure_bind];rw[m _ λz f=>g z<|aS _ f];dsimp[uv,cI,eB,hc,dG]
   ·have hb:(k == NameKind.free)=false:=by simpa using p
    dsimp[hb,bG,cN,pure_bind];rw[m _ λz f=>g z<|aS _ f];dsimp[uv,hb,bG,cN]
 have:=j scope.names [] h;exact(cW (λz=>z >>= λd=>(pure d:Sem<|List<|Str×ak)) this).trans (pure_bind _ _)
theorem yi:∀{l:List<|Str×NameKind}{x:Str}{k:NameKind},l.lookup x=some k->(x,k)∈l
 | [],_,_,h=>nomatch h
 | (n,k')::r,x,k,h=>by
  rw[dH]at h
  cases d:x == n with
  | true=>
   rw[d]at h;have e:x=n:=by simpa using d
   subst e
   cases h
   exact aO
  | false=>rw[d]at h;exact aS _<|yi h
theorem zg{env:Env}{x:Str}{c:ak}:∀{l:List<|Str×NameKind}{cs:List<|Str×ak},(∀y∈l,y.2=.free->∃c,env.cells.lookup y.1=some c)->(uv env l cs).lookup x=some c->env.cells.lookup x=some c\/cs.lookup x=some c
 | [],cs,_,h=>.inr h
 | (n,k)::r,cs,hl,h=>by
  have h':=zg (l:=r) (λz g=>hl z<|aS _ g) h
  rcases h' with h'|h'
  ·exact .inl h'
  ·by_cases f:k=.free
   ·subst f;dsimp[cI,eB]at h';obtain⟨j,hc⟩:=hl (n,.free) aO rfl;rw[hc,dG,dH]at h'
    cases d:x == n with
    | true=>
     rw[d]at h';have e:x=n:=by simpa using d
     subst e;left;rw[hc];exact h'
    | false=>rw[d]at h';exact .inr h'
   ·have hb:(k == NameKind.free)=false:=by simpa using f
    dsimp[hb,bG,cN]at h';exact .inr h'
theorem zI{env:Env}{x:Str}:∀{l:List<|Str×NameKind}{cs:List<|Str×ak},(cs.lookup x).isSome=true->((uv env l cs).lookup x).isSome=true
 | [],cs,h=>h
 | (n,k)::r,cs,h=>by
  skip
  refine zI (l:=r) ?_;by_cases d:(k == NameKind.free)=true
  ·rw[aP d,dH]
   cases f:x == n with
   | true=>rfl
   | false=>exact h
  ·rw[aM d];exact h
theorem xK{env:Env}{x:Str}:∀{l:List<|Str×NameKind}{cs:List<|Str×ak},(x,NameKind.free)∈l->((uv env l cs).lookup x).isSome=true
 | [],_,h=>nomatch h
 | (n,k)::r,cs,h=>by
  rcases bF.mp h with e|h
  ·cases e
   skip
   refine zI (l:=r) ?_;rw[aP<|by rfl,dH];simp
  ·exact xK (l:=r) h
theorem pY:∀(names:List<|Str×NameKind) (n:Nat) (acc:List<|Str×ak),cellsFrom n names acc=cellsFrom n names []++acc
 | [],_,_=>rfl
 | (x,k)::r,n,acc=>by
  unfold cellsFrom;split
  ·rw[pY r (n+1) ((x,n)::acc),pY r (n+1) [(x,n)],cB];rfl
  ·exact pY r n acc
theorem yl:∀(names:List<|Str×NameKind) (n:Nat) {x:Str}{c:ak},(x,c)∈cellsFrom n names []->(x,NameKind.cell)∈names
 | [],_,_,_,h=>nomatch h
 | (y,k)::r,n,x,c,h=>by
  unfold cellsFrom at h;split at h
  ·rename_i d;rw[pY]at h
   rcases bI.mp h with z|z
   ·exact aS _ (yl r _ z)
   ·rw[aX]at z
    cases z
    have:k=.cell:=by simpa using d
    rw[this];exact aO
  ·exact aS _<|yl r _ h
theorem vH{α:Type}{x:Str}:∀{l m:List<|Str×α},(l++m).lookup x=match l.lookup x with|some c=>some c|none=>m.lookup x
 | [],_=>rfl
 | (y,c)::l,m=>by
  rw[iD,dH,dH]
  cases x == y with
  | true=>rfl
  | false=>exact vH
def Og{n:Nat}{acc:List<|Str×ak}{x:Str}{c:ak}(h:(cellsFrom n names acc).lookup x=some c):(cellsFrom n names []).lookup x=some c\/((cellsFrom n names []).lookup x=none/\acc.lookup x=some c):=by
 rw[pY,vH]at h
 cases e:(cellsFrom n names []).lookup x with
 | some d=>rw[e]at h;exact .inl h
 | none=>rw[e]at h;exact .inr ⟨rfl,h⟩
def UZ{n:Nat}{acc:List<|Str×ak}{x:Str}(h:(x,NameKind.cell)∉names):(cellsFrom n names acc).lookup x=acc.lookup x:=by
 rw[pY,vH]
 cases e:(cellsFrom n names []).lookup x with
 | some d=>exact absurd (yl names n<|cL e) h
 | none=>rfl
def Fo{A:aA}{E:af->aC->Prop}{s:aC}{scope:Scope}{globals:ak}{cl:List<|Str×ak}{env:Env}{Q:Env->aC->Prop}
  (hQ:∀h':aq,h'.Ns s.heap.objs.size (λ_=>none)->(∀b o,s.heap.get? b=some o->h'.get? b=some o)->CellsOk h' (s.heap.objs.size+1) (cellsFrom (s.heap.objs.size+1) scope.names []) ->
   Q (newEnv scope s.heap.objs.size globals (cellsFrom (s.heap.objs.size+1) scope.names cl) qual none .none (some env) builtinsNs) { s with heap:=h',toks:=s.toks+([]:List<|Str×af).length }) :
  wpAny M A (newFunctionEnv scope globals cl [] qual none .none<|some env) Q E s:=by
 dsimp[newFunctionEnv,gW,eB];refine aI<|wpAny_alloc ?_;refine aI (wpAny_layCells _ (λname kind cells=>by cases d:kind == NameKind.cell<;>simp[d]) _ _ _ _ ?_);have ok:=cellsFrom_ok scope.names (s.heap.push { cls:=.type "dict",data:=.dict #[]}) (s.heap.objs.size+1) [] ⟨λ_ _ f=>(nomatch f),List.Pairwise.nil⟩ (by rw[dJ];exact aL _);rw[dJ]at ok;rw[show({ s with heap:=s.heap.push { cls:=.type "dict",data:=.dict #[]}}:aC).heap.objs.size=s.heap.objs.size+1 from dJ ..];rw[gY];refine aI<|aN<|aN ?_;exact hQ _ ((Heap.Ns.new s.heap<|.type "dict").keeps<|pushCells_keeps _ _) (λb o e=>pushCells_keeps _ _ b o<|aQ _ e) ok
abbrev kg (X:Cx)(scope:Scope)(N:ar)(C:ak)(s₀:aC)(H₀:Hp)(ex:bb):Cx where
 prog:=X.prog
 w:=X.w
 K:=X.K
 mg:=X.mg
 base:=X.base
 A:=X.A
 N:=N
 s₀:=s₀
 H₀:=H₀
 env:=compEnvC scope (cellsFrom (C+1) scope.names<|uv X.env scope.names []) C X.env
 outer:=X.stack
 stack:=X.stack
 ex:=ex
 fn:=λx=>scope.names.lookup x == some .cell
 calm:=X.calm
 pn:=[]
 xe:=λ_ _=>False
structure CpScope (X:Cx)(scope:Scope)(N:ar)(cap:List (bj)):Prop where
 kind:scope.kind=.function
 nocf:∀x,(x,NameKind.free)∈scope.names->(x,NameKind.cell)∉scope.names
 nm:∀y∈scope.names,y.2=.local->scope.names.lookup y.1=some .local
 fr:∀y∈scope.names,y.2=.free->X.env.kindOf y.1=some .cell\/X.env.kindOf y.1=some .free
 rl:∀y,((relabel scope X.env).names.lookup y=some .cell\/(relabel scope X.env).names.lookup y=some .free)->(y,NameKind.free)∈scope.names\/scope.names.lookup y=some .cell
 len:cap.length=N.length
 nolf:∀x,(x,NameKind.free)∈scope.names->scope.names.lookup x≠some .local
 cp:∀(i j:Nat) (x:Str),N[i]?=some x->cap[i]?=some (some j)->X.N[j]?=some x/\(x,NameKind.free)∈scope.names
def M8{X:Cx}{scope:Scope}{N:ar}{cap:List<|bj}{H:Hp}{s:aC}{fp:bb}{h₁:aq}{m:Str->bd}{tk:Nat}(S:CpScope X scope N cap)(I:Inv X pins σ H s)
  (hf:∀b∈fp,ux X pins H b) (ho:∀b∈fp,∃o,s.heap.get? b=some o) (hn:h₁.Ns s.heap.objs.size m) (hC:CellsOk h₁ (s.heap.objs.size+1)<|cellsFrom (s.heap.objs.size+1) scope.names []) (hk:∀b o,s.heap.get? b=some o->h₁.get? b=some o) :
  Inv (kg X scope N s.heap.objs.size s H fp) [] (cap.map<|OV σ) H { s with heap:=h₁,toks:=tk }:=by
 kl_no;have U:∀x c,(uv X.env scope.names []).lookup x=some c->X.env.cells.lookup x=some c:=λx c e=>by
  rcases zg hfree e with z|z
  ·exact z
  ·cases z
 have f:∀x c,(cellsFrom (s.heap.objs.size+1) scope.names<|uv X.env scope.names []).lookup x=some c->((x,c)∈cellsFrom (s.heap.objs.size+1) scope.names []/\h₁.IsCell c none/\s.heap.objs.size+1<=c)\/X.env.cells.lookup x=some c:=λx c e=>by
  rcases Og e with z|z
  ·exact .inl ⟨cL z,hC.empty x c<|cL z⟩
  ·exact .inr<|U x c z.2
 have old:∀x c,X.env.cells.lookup x=some c->c<s.heap.objs.size:=λx c e=>by
  obtain⟨v,z⟩:=I.cell x c e;exact z.lt
 have lt:∀b o,s.heap.get? b=some o->b≠s.heap.objs.size:=λb o e=>bA<|bq e;refine⟨⟨I.ok.mod,?_,I.ok.glob,I.ok.blt,aL _,?_,?_,?_,I.ok.hd,I.ok.frames,.inl rfl,?_,I.bs,bJ I.ok.bsz I.sz,?_,?_,I.stack,I.Gz⟩,rfl,I.bare,Un.kept hk,?_,?_,I.hok.fresh<|aL _,?_,?_,I.hok.kept hk,?_⟩
 ·exact S.kind
 ·intro x y c e1 e2
  rcases f x c e1 with a|a
  ·rcases f y c e2 with b|b
   ·exact name_of_addr hC.apart a.1 b.1
   ·exact absurd (old y c b)<|not_lt.mpr<|dF a.2.2
  ·rcases f y c e2 with b|b
   ·exact absurd (old x c a) (not_lt.mpr<|dF b.2.2)
   ·exact I.ok.inj x y c a b
 ·intro x e;refine di.mp (ez _ _ _ ?_)
  rcases S.rl x e with t|t
  ·exact .inr (xK (env:=X.env) (cs:=[]) t)
  ·exact .inl t
 ·intro x c e D;have e:scope.names.lookup x=some .cell:=by
   have e:(scope.names.lookup x == some .cell)=true:=e;simpa using e
  obtain⟨d,hd⟩:=di.mp<|ez scope.names (s.heap.objs.size+1) []<|.inl e;have D:(cellsFrom (s.heap.objs.size+1) scope.names<|uv X.env scope.names []).lookup x=some c:=D;rw[pY,vH,hd]at D
  cases D
  exact dF (hC.empty x c<|cL hd).2
 ·intro b hb;obtain⟨o,e⟩:=ho b hb;refine⟨lt b o e,λx c e2=>?_⟩
  rcases f x c e2 with z|z
  ·exact Nat.ne_of_gt (iH (bq e) z.2.2)
  ·exact(hf b hb).2.2.2.2.1 x c z
 ·intro b o e hb;obtain⟨_,_,_,h3,_⟩:=hf b hb
  rcases h3 with z|z
  ·exact I.ok.noex b o e z
  ·exact absurd (bQ (bq (I.ok.bs b o e).1) z)<|fC _
 ·intro b hb Y;obtain⟨_,h1,h2,_⟩:=hf b hb
  rcases bF.mp (I.DN b Y)with z|z
  ·exact h1 z
  ·exact h2 z
 ·refine⟨m,hn,λi x v e1 e2 e3=>?_⟩;rw[aR]at e2
  cases hc:cap[i]? with
  | none=>rw[hc]at e2;cases e2
  | some V=>
   rw[hc]at e2
   cases V with
   | none=>cases e2
   | some j=>
    have g:(σ[j]?).getD none=some v:=aZ e2;obtain⟨W,t⟩:=S.cp i j x e1 hc;obtain⟨m0,hn0,P⟩:=I.loc;have M:σ[j]?=some (some v):=by
     cases h:σ[j]? with
     | none=>rw[h]at g;cases g
     | some z=>rw[h,dG]at g;rw[g]
    have F:=S.fr (x,.free) t rfl;have hv:XC X.env.scope x:=.inr F;obtain⟨u,Z,K⟩:=P j x v W M hv;refine⟨u,Z,?_⟩
    rcases K with⟨K,_⟩|⟨_,c,D,ic⟩
    ·rcases F with z|z<;>(rw[z]at K;cases K)
    ·have h2:=xK (env:=X.env) (cs:=[]) t;obtain⟨O,B⟩:=di.mp h2;have:O=c:=aZ<|(U x O B).symm.trans D;subst this;refine .inr ⟨?_,O,(UZ<|S.nocf x t).trans B,?_⟩
     ·rcases e3 with z|z|z
      ·exfalso;have:(relabel scope X.env).names.lookup x=some .local:=z;have J:scope.names.lookup x=some .local:=by
        have G:∃k,(x,k)∈(relabel scope X.env).names/\k=.local:=by
         clear B h2;have:=yi this;exact⟨_,this,rfl⟩
        obtain⟨k,L,rfl⟩:=G;obtain⟨⟨n',k'⟩,T,q⟩:=bf.mp L;dsimp only at q;split at q
        ·cases q
        ·cases q
         exact S.nm (x,.local) T rfl
       exact False.elim<|S.nolf x t J
      ·exact .inl z
      ·exact .inr z
     ·obtain⟨o,C,hd⟩:=ic;exact⟨o,hk _ _ C,hd⟩
 ·intro x c e
  rcases f x c e with z|z
  ·exact⟨_,z.2.1⟩
  ·obtain⟨v,o,C,hd⟩:=I.cell x c z;exact⟨v,o,hk _ _ C,hd⟩
 ·intro x c e
  rcases f x c e with z|z
  ·exact I.hok.fresh (dF z.2.2)
  ·exact I.freeC x c z
 ·intro p hp
  cases hp
 ·rw[aG,S.len];rfl
abbrev O7 (X:Cx)(ifs:List aE)(t:TT):Prop:=
 ∀(pins:bn) (s:aC) (σ:St) (H:Hp) (Q:Bool->Hp->Prop),Inv X pins σ H s->t σ H Q ->
  wpAny (model X.prog X.w) X.A (forIn ifs true λc r=>if r=true then do let ok <- isTrue c X.env (eval c X.env);pure (ForInStep.yield ok)else pure (ForInStep.yield r)) (TP X pins σ Q) X.xe s
abbrev Y3:TT:=λ_ H Q=>Q true H
def Pp{X:Cx}:O7 X [] Y3:=λ_ _ _ H _ I h=>wpAny_tests_nil ⟨H,I,h⟩
def Pc{X:Cx}{c:aE}{t:TT}(h:PT X c t):O7 X [c] t:=λpins s σ H Q I q=>wpAny_tests_one<|h pins s σ H Q I q
abbrev SG (cap:List<|bj)(g:TG)(tc:TT)(te:TE)(σ:St)(Q:VK)(J:It)(H1:Hp):Prop:=∀D,H1 D=none ->
 ∃W:Nat->Nat->St->Hp->Prop,(∃m,W 0 m (cap.map<|OV σ)<|upd H1 D<|.lst [])/\∀i m j H',W i m j H' ->
  (J.stop i H'/\Q (.ref D) H')\/(J.go i H'/\∀x H2,J.yld i H' x H2->g x j H2 λd H3=>tc d H3 λb p=>
   if b=true then te d p λy k=>∃ys,k D=some (.lst ys)/\ys.length<sizeLine/\∃f,f<m/\W (i+1) f d (upd k D<|.lst<|ys++[y])
   else ∃f,f<m/\W (i+1) f d p)
abbrev X9 (cap:List<|bj)(wi:TI)(g:TG)(tc:TT)(te:TE):TE:=λσ H Q=>wi σ H<|SG cap g tc te σ Q
def CJ{α:Type}{t:Sem α}{Q Q':α->aC->Prop}{A:aA}{E:af->aC->Prop}(h:wpAny M A t Q (λ_ _=>False) s)(hQ:∀a s,Q a s->Q' a s):wpAny M A t Q' E s:=
 fS h hQ λ_ _ f=>f.elim
structure TurnG (ok:Cx->Prop)(P:aj)(w:ah)(K:au)(tg:aE)(J:It)(fp:bb)(it:ak)(tn:Nat->aq->Prop):Prop where
 obj:∀i h,tn i h->∀b∈fp,∃o,h.get? b=some o/\∀v,o.data≠.cell v
 keep:∀i h h',tn i h->(∀b∈fp,∀o,h.get? b=some o->h'.get? b=some o)->tn i h'
 item:∀(X:Cx),X.prog=P->X.w=w->X.K=K->ok X->∀(i:Nat) (pins:bn) (s:aC) (σ:St) (H:Hp) (E:af->aC->Prop),Inv X pins σ H s->(∀b∈fp,ux X pins H b)->tn i s.heap->J.go i H ->
  wpAny (model P w) X.A (pyNext<|.ref it) (λr s1=>∃u,r=some u /\
   wpAny (model P w) X.A (letOwnedTupleGo tg (.ref it) u) (λ_ s2=>∃x H',Inv X pins σ H' s2/\RelV x u/\J.yld i H x H'/\tn (i+1) s2.heap/\∀b∈fp,H' b=none) E s1) E s
 done:∀(X:Cx),X.prog=P->X.w=w->X.K=K->ok X->∀(i:Nat) (pins:bn) (s:aC) (σ:St) (H:Hp) (E:af->aC->Prop),Inv X pins σ H s->(∀b∈fp,ux X pins H b)->tn i s.heap->J.stop i H ->
  wpAny (model P w) X.A (pyNext<|.ref it) (λr s1=>r=none/\Inv X pins σ H s1) E s
 self:∀(A:aA) (i:Nat) (s:aC) (Q:af->aC->Prop) (E:af->aC->Prop),tn i s.heap->Q (.ref it) s->wpAny (model P w) A (pyIter<|.ref it) Q E s
abbrev Yu (ok:Cx->Prop)(X:Cx)(pins:bn)(σ:St)(tg:aE)(R:It->Hp->Prop)(itv:af)(s2:aC):Prop:=
 ∃(it:ak) (d:bb) (f:Nat->aq->Prop) (J:It) (H':Hp),itv=.ref it/\Inv X pins σ H' s2/\TurnG ok X.prog X.w X.K tg J d it f/\f 0 s2.heap/\(∀b∈d,ux X pins H' b)/\R J H'
abbrev Xs (ok:Cx->Prop)(X:Cx)(tg iter:aE)(wi:TI):Prop:=
 ∀(pins:bn) (s:aC) (σ:St) (H:Hp) (R:It->Hp->Prop),Inv X pins σ H s->wi σ H R ->
  wpAny (model X.prog X.w) X.A (eval iter X.env) (λv d=>wpAny (model X.prog X.w) X.A (pyIter v) (Yu ok X pins σ tg R) X.xe d) X.xe s
def PI.g{X:Cx}{iter:aE}{wi:TI}(h:PI X tg iter wi):Xs (λY=>Y.calm=true) X tg iter wi:=λpins s σ H R I q=>
 lA (h pins s σ H R I q) λv m h1=>lA h1 λj p ⟨it,k,d,J,H',e,f,T,a,b,c⟩=>⟨it,k,d,J,H',e,f,⟨T.obj,T.keep,T.item,T.done,T.self⟩,a,b,c⟩
def Qs{ok:Cx->Prop}{X:Cx}{use:Option<|af->Sem Unit}{Q':af->aC->Prop}{iter:aE}{N:ar}{wi:TI}{g:TG}{tc:TT}{te:TE}(S:CpScope X scope N cap)(hok:∀C s₀ H₀ ex,(∀a o u,X.H₀ a=some (.frz o u)->H₀ a=some (.frz o u))->ok (kg X scope N C s₀ H₀ ex))(hi:Xs ok X tg iter wi)
  (hg:∀C s₀ H₀ ex,PG (kg X scope N C s₀ H₀ ex) tg g) (ht:∀C s₀ H₀ ex,O7 (kg X scope N C s₀ H₀ ex) ifs tc) (he:∀C s₀ H₀ ex,PE (kg X scope N C s₀ H₀ ex) elt te)
  (hs:(∀x,foldedSetIterable iter X.env x=pure x)<|>ζ):∀(pins:bn) (s:aC) (σ:St) (H:Hp) (Q:VK),Inv X pins σ H s->X9 cap wi g tc te σ H Q ->
  (∀(s6:aC) (C D:ak) (H5:Hp) (m:Str->bd),s6.heap.Ns C m->ux X pins H5 C->(∀h',Heap.SameBut C s6.heap h'->Inv X pins σ H5 { s6 with heap:=h' })->Q (.ref D) H5->∀v,compPost (model X.prog X.w) X.A X.xe use Q' (.ref D) C (.ok v) s6) ->
  wpAny (model X.prog X.w) X.A (comprehension (.ListComp elt [⟨tg,iter,ifs,0⟩] scope pos) scope X.env (firstIterPos [⟨tg,iter,ifs,0⟩] pos) (newList []) (firstAsync [⟨tg,iter,ifs,0⟩]) (firstIter [⟨tg,iter,ifs,0⟩] X.env) use) Q' X.xe s:=by
 intro pins s σ H Q I h hfin;kl_no;refine wpAny_comprehension_free (use:=use) rfl hs (xU hfree) S.kind S.nm<|lA (hi pins s σ H _ I h) λxv s1 h1=>lA h1 λitv f h2=>?_;obtain⟨it,fp,tn,J,H2,rfl,I2,T,st2,f2,h2⟩:=h2;refine dm<|Fo λP t old k=>?_;obtain⟨W,⟨m0,w0⟩,turn⟩:=h2 f.heap.objs.size I2.fresh;dsimp only at t old k ⊢;have I3:Inv X pins σ (upd H2 f.heap.objs.size<|.lst []) { f with heap:=f.heap.push {}}:=I2.RM (t':=f.toks) (its:=[]) .nil<|bO _;have hfp:∀b∈fp,∃o,f.heap.get? b=some o:=λb hb=>by
  obtain⟨o,e,_⟩:=T.obj 0 _ st2 b hb;exact⟨o,e⟩
 have neD:∀b∈fp,b≠f.heap.objs.size:=λb hb=>by
  obtain⟨o,e⟩:=hfp b hb;exact bA<|bq e
 have f3:∀b∈fp,ux X pins (upd H2 f.heap.objs.size<|.lst []) b:=λb hb=>⟨by rw[i_<|neD b hb];exact(f2 b hb).1,(f2 b hb).2⟩;have hDC:f.heap.objs.size≠(f.heap.push {}).objs.size:=by rw[dJ];exact bA (c9 _)
 have I4:=M8 (tk:=f.toks+([]:List<|Str×af).length) (fp:=fp) S I3 f3 (λb hb=>by
  obtain⟨o,e⟩:=hfp b hb;exact⟨o,aQ _ e⟩) t k old
 have st4:tn 0 P:=T.keep _ _ _ st2 λb hb o e=>old b o<|aQ _ e;have hc:=hok (f.heap.push {}).objs.size { f with heap:=f.heap.push {}} (upd H2 f.heap.objs.size<|.lst []) fp λa o u e=>by
  have z:=I2.base.frzs a o u e;rw[i_ λq=>by rw[q,I2.fresh]at z;cases z];exact z
 have K:∀{H':Hp},(∀b∈fp,H' b=none)->∀b∈fp,ux (kg X scope N (f.heap.push {}).objs.size { f with heap:=f.heap.push {}} (upd H2 f.heap.objs.size<|.lst []) fp) [] H' b:=λhn b hb=>by
  have ok:=I4.ok;refine⟨hn b hb,(ok.exf b hb).1,ok.exfs b hb,.inl hb,λx c e=>(ok.exf b hb).2 x c e,λp hp=>nomatch hp⟩
 have O:∀s4:aC,s4={ f with heap:=P,toks:=f.toks+([]:List<|Str×af).length } ->
   codeAny (model X.prog X.w) X.A (.compLoop (.ListComp elt [⟨tg,iter,ifs,0⟩] scope pos) 0 (.ref it) (.ref f.heap.objs.size)<|compEnvC scope (cellsFrom ((f.heap.push {}).objs.size+1) scope.names<|uv X.env scope.names []) (f.heap.push {}).objs.size X.env)
    (compPost (model X.prog X.w) X.A X.xe use Q' (.ref f.heap.objs.size) (f.heap.push {}).objs.size) s4:=by
  rintro s4 rfl;refine codeAny_loop rfl (λn s'=>∃i L H',Inv (kg X scope N (f.heap.push {}).objs.size { f with heap:=f.heap.push {}} (upd H2 f.heap.objs.size<|.lst []) fp) [] L H' s'/\tn i s'.heap/\(∀b∈fp,H' b=none)/\W i n L H') (λn s5 hI=>?_) m0 ⟨0,_,_,I4,st4,λb hb=>(f3 b hb).1,w0⟩;obtain⟨i,M,H5,I5,st5,fr5,w5⟩:=hI;show wpAny _ X.A ((compTurn (.ListComp elt [⟨tg,iter,ifs,0⟩] scope pos) 0 (.ref it) (.ref f.heap.objs.size)<|compEnvC scope (cellsFrom ((f.heap.push {}).objs.size+1) scope.names<|uv X.env scope.names []) (f.heap.push {}).objs.size X.env).onRaise λx=>do noteFrame x _;theTreesLotGoes x) _ _ s5;refine wpAny_noted ?_;rw[compTurn_list];refine aI (fF<|aI ?_)
  rcases turn i n M H5 w5 with⟨stop,q⟩|⟨go,step⟩
  ·refine lA (T.done (kg X scope N (f.heap.push {}).objs.size { f with heap:=f.heap.push {}} (upd H2 f.heap.objs.size<|.lst []) fp) rfl rfl rfl hc i [] s5 M H5 _ I5 (K fr5) st5 stop) λr s6 h9=>?_;obtain⟨hr,I6⟩:=h9;subst hr;obtain⟨m6,hn6,_⟩:=I6.loc;refine aN<|hfin s6 _ _ H5 m6 hn6 (I3.ER (aL _) I6.free) (λh' sb=>?_) q _;have U:=I6.base;have nC:∀b o,(f.heap.push {}).get? b=some o->b≠(f.heap.push {}).objs.size:=λb o e=>bA<|bq e;refine I3.Rf (ch:=fp) I6.os ⟨λb o e n hb hx=>?_,λb o e n hb hx=>?_,λb o e n hx=>?_,λb o e hx=>?_,U.tups,U.frzs,U.tbls⟩ ?_ I6.bare ?_
   ·exact sb.extBut b o (nC b o e) (U.keep b o e n hb hx)
   ·obtain⟨sl,z⟩:=U.slot b o e n hb hx;exact⟨sl,sb.extBut b _ (nC b o e) z⟩
   ·exact U.free b o e n hx
   ·obtain⟨o',z⟩:=U.there b o e hx;exact⟨o',sb.extBut b _ (nC b o e) z⟩
   ·intro b o e;have hb:∀c v,H5 c=some v->c≠(f.heap.push {}).objs.size:=λc v e z=>by
     rw[z]at e;have:=I6.free;rw[show H5 (f.heap.push {}).objs.size=none from this]at e
     cases e
    refine(I6.hok b o e).stay (λc v hc q=>sb.extBut c v ?_ q) (λ_ q=>q) λ_ _ q=>q
    rcases hc with z|z
    ·rw[z];exact hb b o e
    ·exact hb c _ z
   ·intro b hb;obtain⟨_,z1,_,z3,z4,z5⟩:=f3 b hb;exact⟨z3,z1,z4,z5⟩
  ·refine lA (T.item (kg X scope N (f.heap.push {}).objs.size { f with heap:=f.heap.push {}} (upd H2 f.heap.objs.size<|.lst []) fp) rfl rfl rfl hc i [] s5 M H5 _ I5 (K fr5) st5 go) λr s6 h9=>?_;obtain⟨u,hr,h6⟩:=h9;subst hr;refine aI<|lA h6 λ_ s7 ⟨x,H7,I7,r7,y7,V,fr7⟩=>?_;have I7':=I7.pinned (K fr7)<|T.obj _ _ V;refine aI<|CJ (hg _ _ _ fp _ s7 M H7 x u _ I7' r7<|step x H7 y7) λ_ s8 ⟨F,H8,I8,q8⟩=>?_;refine aI<|CJ (ht _ _ _ fp _ s8 F H8 _ I8 q8) λok s9 ⟨H9,I9,q9⟩=>?_;have again:∀{B:aC} {j:Hp},Inv (kg X scope N (f.heap.push {}).objs.size { f with heap:=f.heap.push {}} (upd H2 f.heap.objs.size<|.lst []) fp) ([]++vU fp s7.heap) F j B->(∃m',m'<n/\W (i+1) m' F j) ->
     ∃m,m<n/\∃i L H',Inv (kg X scope N (f.heap.push {}).objs.size { f with heap:=f.heap.push {}} (upd H2 f.heap.objs.size<|.lst []) fp) [] L H' B/\tn i B.heap/\(∀b∈fp,H' b=none)/\W i m L H':=λ{B j} G h9=>by
    obtain⟨m',hm,Z⟩:=h9;refine⟨m',hm,i+1,F,j,G.tQ,T.keep _ _ _ V λb hb o e=>(G.pin (b,o)<|bP _<|bP _<|ny hb e).1,λb hb=>?_,Z⟩;obtain⟨o,e,d⟩:=T.obj _ _ V b hb;exact(G.pin (b,o)<|bP _<|bP _<|ny hb e).2.1
   cases ok with
   | false=>
    rw[aM bL]at q9;exact aN ⟨rfl,again I9 q9⟩
   | true=>
    rw[aP rfl]at q9;refine aI<|aI<|CJ (he _ _ _ fp _ s9 F H9 _ I9 q9) λy B ⟨Y,j,G,r10,ys,hD,hz,Z⟩=>?_;refine aI<|CJ (zC _ B F j (.ref f.heap.objs.size) [Y] _ [y] (λ_ H'=>H'=upd j f.heap.objs.size (.lst<|ys++[Y])) G rfl (.cons r10 .nil) ⟨_,ys,Y,rfl,rfl,hD,hz,rfl⟩) λ_ s11 ⟨_,H11,I11,_,e11⟩=>?_;subst e11;exact aN<|aN ⟨rfl,again I11 Z⟩
 exact codeAny_compStart_list (O _ rfl)<|T.self _ 0 _ _ _ st4<|O _ rfl
def Sb{ok:Cx->Prop}{X:Cx}{iter:aE}{N:ar}{wi:TI}{g:TG}{tc:TT}{te:TE}(S:CpScope X scope N cap)(hok:∀C s₀ H₀ ex,(∀a o u,X.H₀ a=some (.frz o u)->H₀ a=some (.frz o u))->ok (kg X scope N C s₀ H₀ ex))(hi:Xs ok X tg iter wi)
  (hg:∀C s₀ H₀ ex,PG (kg X scope N C s₀ H₀ ex) tg g) (ht:∀C s₀ H₀ ex,O7 (kg X scope N C s₀ H₀ ex) ifs tc) (he:∀C s₀ H₀ ex,PE (kg X scope N C s₀ H₀ ex) elt te)
  (hs:(∀x,foldedSetIterable iter X.env x=pure x)<|>ζ):PE X (.ListComp elt [⟨tg,iter,ifs,0⟩] scope pos) (X9 cap wi g tc te):=by
 kd_p;rw[eval_ListComp];exact Qs (use:=none) (Q':=EP X pins σ Q) S hok hi hg ht he hs pins s σ H Q I h λj C D d m hn k inv q v=>⟨m,hn,λh' f=>⟨.ref D,d,inv h' f,rfl,q⟩⟩
def Wv{X:Cx}{iter:aE}{N:ar}{wi:TI}{g:TG}{tc:TT}{te:TE}(hc:X.calm=true)(S:CpScope X scope N cap)(hi:PI X tg iter wi)
  (hg:∀C s₀ H₀ ex,PG (kg X scope N C s₀ H₀ ex) tg g) (ht:∀C s₀ H₀ ex,O7 (kg X scope N C s₀ H₀ ex) ifs tc) (he:∀C s₀ H₀ ex,PE (kg X scope N C s₀ H₀ ex) elt te)
  (hs:(∀x,foldedSetIterable iter X.env x=pure x)<|>ζ):PE X (.ListComp elt [⟨tg,iter,ifs,0⟩] scope pos) (X9 cap wi g tc te):=
 Sb S (λ_ _ _ _ _=>hc) hi.g hg ht he hs
section
variable {X:Cx}
def LM{bs:List Bool}:∀{us:ba},Vals (bs.map V.bl) us->LSm.BoolsAre us bs:=by
 induction bs with
 | nil=>intro us r;cases r;exact .nil
 | cons b bs d=>
  intro us r
  cases r with
  | cons h t=>
   have e:_=Value.bool b:=h;subst e;exact .cons b<|d t
def Jf(hc:X.calm=true):jA X (.builtin "any") (λxs H Q=>∃(p:ak) (bs:List Bool),xs=[.ref p]/\p7 X.K H p (bs.map V.bl)/\Q (.bl<|bs.any id) H):=by
 fin2;obtain⟨p,bs,rfl,hq,q⟩:=h;kj_on
 cases rx
 obtain⟨d,k,pl,D⟩:=I.list hq;have hb:=LM k;have g:=pl.isList;have f:p<s.heap.objs.size:=by obtain⟨_,e,_⟩:=g;exact bq e
 refine call_any_walk<|iu g ?_;refine⟨s.heap.objs.size,[s.heap.objs.size,p],[s.heap.objs.size],d.toArray.size,_,_,λi=>(bs[i]?).getD false,rfl,Walks.list (A:=X.A.in1) (I.ok.hd hc) _ p (bA f) d.toArray,
  ⟨⟨_,bD _ rfl,rfl,rfl⟩,g.push _⟩,λi v s' C B hP j=>?_,λh' t m=>?_⟩
 ·obtain⟨b,e,rfl⟩:=hb.get i v (by simpa using hP);dsimp[e,dG]at j;exact c5 j
 ·have e:((List.range d.toArray.size).any λi=>(bs[i]?).getD false)=bs.any id:=by
   rw[a_,hb.length];exact LSm.range_any bs
  rw[e];exact⟨.bl _,H,I.kept<|LSm.kept_iter m,rfl,q⟩
def A4:jA X (.type "range") (λxs H Q=>∃i j,xs=[.int i,.int j]/\∀p,H p=none->Q (.ref p) (upd H p<|.rng i j)):=by
 fin2;obtain⟨i,j,rfl,q⟩:=h;obtain⟨u,f,rfl,⟨t,rfl⟩,⟨d,rfl⟩⟩:=vals2 r;refine call_range_2 ⟨.ref s.heap.objs.size,_,I.laid (o:=.rng i j) (λb o e=>aQ _ e) (aL _) ?_,rfl,q _ I.fresh⟩;exact⟨t,d,s.toks,bD _ rfl⟩
abbrev kX (i j:Int):ag:=(List.range (j-i).toNat).map λk:Nat=>i+(k:Int)
def vG(i j:Int):(kX i j).length=(j-i).toNat:=by unfold kX;rw[aG,bM]
def yy{i:Int}{n:Nat}{acc:Array af}(h:ItemsOf (λk v=>∃t,v=Value.int (i+(k:Int) * 1) t) acc n):Vals (((List.range n).map λk:Nat=>i+(k:Int)).map V.int) acc.toList:=by
 obtain⟨hs,hv⟩:=h;have d:∀(l:ba) (b:Nat),(∀j v,l[j]?=some v->∃t,v=Value.int (i+((b+j:Nat):Int)) t)->Vals (((List.range' b l.length).map λk:Nat=>i+(k:Int)).map V.int) l:=by
  intro l
  induction l with
  | nil=>intro b _;exact .nil
  | cons v l f=>
   intro b hb;rw[bN,List.range'_succ,bE,bE];refine .cons ?_ ?_
   ·obtain⟨t,e⟩:=hb 0 v rfl;exact⟨t,by rw[e];simp⟩
   ·refine f (b+1) λj w hw=>?_;obtain⟨t,e⟩:=hb (j+1) w hw;exact⟨t,by rw[e,show b+(j+1)=b+1+j by lia]⟩
 have:=d acc.toList 0 λj v g=>by
  obtain⟨t,e⟩:=hv j v (by simpa using g);exact⟨t,by rw[e,b7,Int.mul_one]⟩
 rw[dB,hs,<- e_]at this;exact this
def JQ{i j:Int}:Builtin.Range.rangeSize i j 1=(((j-i).toNat:Nat):Int):=by rw[rangeSize_one];split<;>omega
def yX(hc:X.calm=true):jA X (.type "list") (λxs H Q=>∃p i j,xs=[.ref p]/\H p=some (.rng i j)/\(-(2 ^ 62)<=i/\i<2 ^ 62/\-(2 ^ 62)<=j/\j<2 ^ 62)/\(j-i).toNat<=1000/\∀l,H l=none->Q (.ref l) (upd H l<|.lst<|(kX i j).map V.int)):=by
 fin2;obtain⟨p,i,j,rfl,B,⟨D,C,g,k⟩,hn,q⟩:=h;kj_on
 cases rx
 obtain⟨t,J,v,e⟩:=I.hok p _ B;refine call_list_range (n:=(j-i).toNat) (I.ok.hd hc) e (small_one D C g k) JQ () λh' G f m F hS d=>?_;refine⟨.ref s.heap.objs.size,_,I.laid (o:=.lst<|(kX i j).map V.int) F (aL _) ⟨?_,f.toList,m,yy d,by rw[hS]⟩,rfl,q _ I.fresh⟩;rw[aG,vG,dW];lia
end
section
variable {X:Cx}
def CD{prog:aj}{w:ah}{A:aA}{E:af->aC->Prop}{s:aC}{Q:ba->aC->Prop}{r:ak}{a b c:Int}{t v:Tok}{n:Nat}(hh:A.handled=none)(hr:IsRange s.heap r a b c t u v)(hsmall:Builtin.Range.small a b c=true)
  (hn:Builtin.Range.rangeSize a b c=n) (hlen:n<=2 ^ 24)
  (hQ:∀h' tk (acc':Array af),(∀b o,s.heap.get? b=some o->h'.get? b=some o)->ItemsOf (λi v=>∃t,v=.int (a+i * c) t) acc' n->Q acc'.toList { s with heap:=h',toks:=tk }) :
  wpAny (model prog w) A (collect<|.ref r) Q E s:=by
 unfold collect;refine aI<|wpAny_runValue<|gJ F.entry_proto_collect ?_;rw[fh F.plain_proto_collect _]
 skip
 refine aI<|dm ?_;refine aN ⟨plainId_quiet F.plain_list_iadd _,gJ F.entry_list_iadd ?_⟩;rw[fh F.plain_list_iadd _]
 skip
 have hS:(s.heap.push {}).get? s.heap.objs.size=some { cls:=.type "list",data:=.seq #[] 0 }:=bD _ rfl;have k:∀(h':aq) (tk:Nat) (acc':Array af) (j:Nat),(∀b o,b≠s.heap.objs.size->(s.heap.push {}).get? b=some o->h'.get? b=some o) ->
   h'.get? s.heap.objs.size=some { cls:=.type "list",dict:=none,data:=.seq acc' j,slots:=#[]}->ItemsOf (λi v=>∃t,v=.int (a+i * c) t) acc' n ->
   wpAny (model prog w) A (match Value.ref s.heap.objs.size with
   | Value.ref a=>do
    match (<- load a).data with
     | Data.seq xs _=>pure xs.toList
     | _=>unsupported "internal:collect"
   | _=>unsupported "internal:collect") Q E { s with heap:=h',toks:=tk }:=by
  intro h' tk acc' j m g d
  skip
  refine aI<|wpAny_load g ?_;refine aN ?_;exact hQ h' tk acc' (λb o e=>m b o (bA<|bq e)<|aQ _ e) d
 refine fS (wpAny_extend_range (A:=A) (R:=λq s'=>q=.ok (.ret<|.ref s.heap.objs.size)/\∃h' tk acc' j,s'={ s with heap:=h',toks:=tk }/\(∀b o,b≠s.heap.objs.size->(s.heap.push {}).get? b=some o->h'.get? b=some o) /\
   h'.get? s.heap.objs.size=some { cls:=.type "list",dict:=none,data:=.seq acc' j,slots:=#[]}/\ItemsOf (λi v=>∃t,v=.int (a+i * c) t) acc' n)
  (s:={ s with heap:=s.heap.push {}}) hh (aQ _ hr) hsmall hn hlen s.heap.objs.size (.ref s.heap.objs.size) 0 hS
  (λh' tk acc' j m g d=>⟨rfl,h',tk,acc',j,rfl,m,g,d⟩)) (λp s' h=>?_) λe s' h=>?_
 ·cases p with
  | done f=>
   obtain⟨e,h',tk,acc',j,rfl,m,g,d⟩:=h
   cases e
   exact k h' tk acc' j m g d
  | again j=>exact⟨h.1,iG h.2 λr B hr=>by
    obtain⟨rfl,h',tk,acc',j,rfl,m,g,d⟩:=hr;exact k h' tk acc' j m g d⟩
 ·exact absurd h.1<|by simp
def uy(l:ak){a b:Int}{t v:Tok}{n:Nat}(hsmall:Builtin.Range.small a b 1=true)
  (hn:Builtin.Range.rangeSize a b 1=n) (hlen:n<=1000) :
  Meets (Builtin.«tuple.__new__» ⟨[.type "tuple",.ref l],[]⟩)
   (λA R s=>A.handled=none/\IsRange s.heap l a b 1 t u v/\∀(h':aq) (tk:Nat) (acc':Array af),(∀b o',s.heap.get? b=some o'->h'.get? b=some o')->ItemsOf (λi v=>∃t,v=.int (a+i * 1) t) acc' n->R (.ok<|.ret<|.ref h'.objs.size) { s with heap:=h'.push { cls:=.type "tuple",data:=.seq acc' },toks:=tk }):=
 .of_wp λprog w A R s h=>by
  obtain⟨F,g,d,tk,D⟩:=s;obtain⟨G,j,h⟩:=h;have q:=sub_tuple_self;have p:=init_tuple_lookup;have B:=madeHere_tuple;have C:Shared.TypeIs ⟨F,g,d,tk,D⟩ (.ref l) "range" := ⟨_,j,rfl⟩;have m:A.in1.handled=none:=G
  wp_walk using AutoSeq1.wpAny_loadPart' j,iI C,CD (A:=A.in1) m j hsmall hn (by omega)
  intro h' k acc' J f;show wpAny _ _ (Builtin.Tuple.tupleExact acc'.toList.toArray >>= λv=>ret v) _ _ _;unfold Builtin.Tuple.tupleExact;have e:acc'.toList.toArray=acc':=by simp
  refine aI (dm ?_<|by show acc'.toList.toArray.size<=sizeLine;rw[e,f.1,dW];omega);refine aN ⟨_,rfl,?_⟩;rw[e];exact h h' k acc' J f
def yF(hc:X.calm=true):jA X (.type "tuple") (λxs H Q=>∃p i j,xs=[.ref p]/\H p=some (.rng i j)/\(-(2 ^ 62)<=i/\i<2 ^ 62/\-(2 ^ 62)<=j/\j<2 ^ 62)/\(j-i).toNat<=1000/\∀l,H l=none->Q (.ref l) (upd H l<|.tup<|(kX i j).map V.int)):=by
 fin2;obtain⟨p,i,j,rfl,D,⟨J,G,B,C⟩,hn,q⟩:=h;kj_on
 cases rx
 obtain⟨t,L,v,e⟩:=I.hok p _ D;refine callType_new F.called_tuple ⋯ (F.typeCall_tuple_1 _) (F.newCall_tuple_1 _) (λg=>F.args_object_init_2 g _) F.entry_tuple_new
  (uy (n:=(j-i).toNat) p (small_one J G B C) JQ hn) ⟨I.ok.hd hc,e,λh' k d K f=>⟨⟨_,bD _ rfl,rfl⟩,?_⟩⟩
 have m:Inv X pins σ H { s with heap:=h',toks:=k }:=I.kept K;refine⟨.ref h'.objs.size,_,m.laid (t':=k) (o:=.tup<|(kX i j).map V.int) (λb o e=>aQ _ e) (aL _) ⟨?_,d.toList,yy f,?_⟩,rfl,q _<|m.hok.fresh<|aL _⟩
 ·rw[aG,vG,dW];lia
 ·have e:d.toList.toArray=d:=by simp
  rw[e];exact pT.new _ _
def C6{c:String}:jA X (.builtin "isinstance") (λxs H Q=>∃x t b,xs=[x,.ty c]/\TyOf X.K H x t/\PySem.W.kitOne X.K t (.type c)=some b/\Q (.bl b) H):=by
 fin2;obtain⟨x,t,b,rfl,ty,e,q⟩:=h;obtain⟨u,g,rfl,rx,f⟩:=vals2 r
 cases f
 exact IZ I rx ty e λd=>⟨.bl b,H,I.tok d,rfl,q⟩
abbrev TH (K:au):R2:=λx y H Q=>∃a b ys,x=.ref a/\y=.ref b/\nj K H a []/\nj K H b ys/\Q (.ref b) H
def NP:ni X (binaryOp .Add) (TH X.K):=by
 kpf_c;obtain⟨a,b,ys,rfl,rfl,h1,h2,q⟩:=h
 cases rx
 cases ry
 obtain⟨us,r1,p1,_⟩:=I.tuple h1;obtain⟨D,r2,p2,_⟩:=I.tuple h2
 cases r1
 obtain⟨⟨cls,G,data,C⟩,B,hc,n,t⟩:=id p1;obtain⟨⟨p,j,m,k⟩,d,f,F,g⟩:=id p2;simp only at hc t f g;subst hc t f g;exact concat_meets ⟨_,B,rfl⟩ ⟨_,d,rfl⟩ noFill_tuple_add seq_tuple_add f9 fX (fG _ _)
   (tuple_addW0 a b _ D.toArray n F G j C k<|by simp) ⟨B,d,⟨.ref b,H,I,rfl,q⟩⟩
end
def nI:bootBuiltins "len" = some (.builtin "len"):=by decide +kernel
def TQ:bootBuiltins "abs" = some (.builtin "abs"):=by decide +kernel
def Vt:bootBuiltins "any" = some (.builtin "any"):=by decide +kernel
def t7:bootBuiltins "sorted" = some (.builtin "sorted"):=by decide +kernel
def uE:bootBuiltins "isinstance" = some (.builtin "isinstance"):=by decide +kernel
def MN:bootBuiltins "int" = some (.type "int"):=by decide +kernel
def Qq:bootBuiltins "bool" = some (.type "bool"):=by decide +kernel
def BA:bootBuiltins "list" = some (.type "list"):=by decide +kernel
def CA:bootBuiltins "tuple" = some (.type "tuple"):=by decide +kernel
def J8:bootBuiltins "range" = some (.type "range"):=by decide +kernel
structure Blt (mg:Str->bd):Prop where
 len:mg "len" = none
 abs:mg "abs" = none
 all:mg "all" = none
 any:mg "any" = none
 max:mg "max" = none
 min:mg "min" = none
 sorted:mg "sorted" = none
 isinstance:mg "isinstance" = none
 int:mg "int" = none
 bool:mg "bool" = none
 str:mg "str" = none
 list:mg "list" = none
 tuple:mg "tuple" = none
 range:mg "range" = none
def Qi:∀{a b:ag},a.Perm b->a.Pairwise (·<=·)->b.Pairwise (·<=·)->a=b:=λp ha hb=>
 dZ (λx y _ _ h1 h2=>Int.le_antisymm h1 h2) ha hb p
def X7(i j:Int):(kX i j).Pairwise (·<=·):=by
 unfold kX;rw[cj];exact List.pairwise_lt_range.imp λh=>()
def yv(i j:Int):(kX i j).Nodup:=by
 unfold kX;rw[List.Nodup,cj];exact List.pairwise_lt_range.imp λh=>()
def Jq{i j k:Int}:k∈kX i j ↔ i<=k/\k<j:=by
 unfold kX;rw[bf];constructor
 ·rintro⟨a,ha,rfl⟩;have:=cg.mp ha;omega
 ·rintro⟨h1,h2⟩;exact⟨(k-i).toNat,cg.mpr<|by omega,by omega⟩
abbrev Kn (P:aj)(w:ah)(K:au)(mg:Str->bd)(base:aq)(k:Nat)(x:Str)(ps:ar)(sp:Sp):Prop:=
 ∃(f:ak) (fd:FuncData),FnOk P w K mg base o9 k f fd ps sp/\mg x=some (.ref f)/\PySem.W.keepIn K (.ref f)=true/\Binds K fd ps []
def XX{X:Cx}{k:Nat}{x:Str}{sp:Sp}{e:aE}{t:TA}{p:Pos}(G:Kn X.prog X.w X.K X.mg X.base k x ps sp)(hr:Room k X.A)(ha:PA X (e::es) t)(hg:Gl X x<|>ε)
  (hdb:(x == ("__debug__" : Str))=false<|>δ) (hs:starEach (e::es) X.env=(false,eval e X.env)::starEach es X.env<|>ε) (hplain:((backTo pos<|starEach es X.env).any (·.1)=false)<|>ε) :
  PE X (.Call (.Name x p) (e::es) [] pos) (Rm sp [] E0 t):=by
 obtain⟨f,fd,F,g,d,hb⟩:=G;exact OE F hr hg g d hb .nil XS ha hdb hs hplain
abbrev yg (XN fs:ar):ar->List (bj)->Prop
 | [],[]=>True
 | _::N,none::c=>yg XN fs N c
 | x::N,some j::c=>XN[j]?=some x/\x∈fs/\yg XN fs N c
 | _,_=>False
theorem yg.len{fs:ar}:∀{N:ar}{c:List<|bj},yg XN fs N c->c.length=N.length
 | [],[],_=>rfl
 | _::N,none::c,h=>cW (·+1) (yg.len (N:=N) (c:=c) h)
 | _::N,some j::c,h=>cW (·+1) (yg.len (N:=N) (c:=c) h.2.2)
 | [],_::_,h=>h.elim
 | _::_,[],h=>h.elim
theorem yg.cp{fs:ar}:∀{N:ar}{c:List<|bj},yg XN fs N c->∀(i j:Nat) (x:Str),N[i]?=some x->c[i]?=some (some j)->XN[j]?=some x/\x∈fs
 | [],[],_,i,j,x,h1,_=>by simp at h1
 | y::N,none::c,h,i,j,x,h1,h2=>by
  cases i with
  | zero=>simp at h2
  | succ i=>exact yg.cp (N:=N) (c:=c) h i j x (by simpa using h1)<|by simpa using h2
 | y::N,some k::c,h,i,j,x,h1,h2=>by
  cases i with
  | zero=>
   simp at h1 h2;subst h1 h2;exact⟨h.1,h.2.1⟩
  | succ i=>exact yg.cp (N:=N) (c:=c) h.2.2 i j x (by simpa using h1)<|by simpa using h2
 | [],_::_,h,_,_,_,_,_=>h.elim
 | _::_,[],h,_,_,_,_,_=>h.elim
def nR{X:Cx}{scope:Scope}{N:ar}(fs:ar)(kind:scope.kind=.function)(nocf:∀y∈scope.names,y.2=.cell->scope.names.lookup y.1=some .cell/\(y.1,NameKind.free)∉scope.names)(nm:∀y∈scope.names,y.2=.local->scope.names.lookup y.1=some .local)
  (nolf:∀y∈scope.names,y.2=.free->scope.names.lookup y.1≠some .local) (hf:∀y∈scope.names,y.2=.free->y.1∈fs) (hfs:∀x∈fs,(x,NameKind.free)∈scope.names) (hk:∀x∈fs,X.env.kindOf x=some .cell\/X.env.kindOf x=some .free) (cp:yg X.N fs N cap):CpScope X scope N cap where
 kind:=kind
 nocf:=λx hf hc=>(nocf (x,.cell) hc rfl).2 hf
 nm:=nm
 fr:=λy hy e=>hk _ (hf y hy e)
 rl:=λy h=>by
  have g:∀k,(k=NameKind.cell\/k=NameKind.free)->(relabel scope X.env).names.lookup y=some k->(y,NameKind.free)∈scope.names\/scope.names.lookup y=some .cell:=λk hk e=>by
   obtain⟨⟨q,m⟩,f,d⟩:=bf.mp<|yi e;dsimp only at d;split at d
   ·rename_i hc
    cases d
    have:m=.free:=by
     dsimp[cX]at hc;simpa using hc.1.1
    subst this;exact .inl f
   ·cases d
    rcases hk with rfl|rfl
    ·exact .inr (nocf _ f rfl).1
    ·exact .inl f
  rcases h with h|h
  ·exact g _ (.inl rfl) h
  ·exact g _ (.inr rfl) h
 len:=cp.len
 nolf:=λx p=>nolf (x,.free) p rfl
 cp:=λi j x h1 h2=>by
  obtain⟨a,b⟩:=cp.cp i j x h1 h2;exact⟨a,hfs x b⟩
inductive Kd where
 | non|bl|int|str|lst|tup
 deriving DecidableEq
abbrev Kd.ty:Kd->af
 | .non=>.type "NoneType" | .bl=>.type "bool" | .int=>.type "int" | .str=>.type "str" | .lst=>.type "list" | .tup=>.type "tuple"
abbrev UW (H:Hp)(x:V):Kd->Prop
 | .non=>x=.non
 | .bl=>∃b,x=.bl b
 | .int=>∃i,x=.int i
 | .str=>∃s,x=.str s
 | .lst=>∃a xs,x=.ref a/\H a=some (.lst xs)
 | .tup=>∃a xs,x=.ref a/\H a=some (.tup xs)
def UW.ZD{K:au}{H:Hp}{x:V}{k:Kd}(h:UW H x k):TyOf K H x k.ty:=by
 cases k with
 | non=>cases h;exact .non
 | bl=>obtain⟨b,rfl⟩:=h;exact .bl b
 | int=>obtain⟨b,rfl⟩:=h;exact .int b
 | str=>obtain⟨b,rfl⟩:=h;exact .str b
 | lst=>obtain⟨a,xs,rfl,e⟩:=h;exact .lst e
 | tup=>obtain⟨a,xs,rfl,e⟩:=h;exact .tup e
def OS{K:au}(k:Kd):PySem.W.kitOne K k.ty (.type "int")=some (decide<|k=.int\/k=.bl):=by cases k<;>rfl
def JP{K:au}(k:Kd):PySem.W.kitOne K k.ty (.type "bool")=some (decide<|k=.bl):=by cases k<;>rfl
def kit_tuple{K:au}(k:Kd):PySem.W.kitOne K k.ty (.type "tuple")=some (decide<|k=.tup):=by cases k<;>rfl
def Jx{K:au}(k:Kd):PySem.W.kitOne K k.ty (.type "list")=some (decide<|k=.lst):=by cases k<;>rfl
end L2
namespace L2
open PySem PySem.Spec PyProof.Rows
open PySem.SeqAt
open PySem.AutoSeq1 (wpAny_loadPart')
open PySem.MeetsSeq PySem.MeetsSeq2 PySem.MeetsSeq3 PySem.SeqAt
section
variable {X:Cx}
def K_:ni X (binaryOp .FloorDiv) (rI (λ_ j=>0<j/\j<18446744073709551616) λi j=>.int<|i / j):=Ye λi j _ _ _ _ _ hc q=>by
 have h1:(0:Int)<j:=hc.1;have h2:j<18446744073709551616:=hc.2;refine floordiv_int (by omega) (by rw[Int.fdiv_eq_ediv_of_nonneg i<|by omega];exact q)<|.inl<|PyProof.noPylong_of_log2 ?_;exact bQ ((Nat.log2_lt<|by omega).mpr<|show j.natAbs<2 ^ 64 by omega) ⋯
end
end L2
namespace L2
open PySem PySem.Spec PyProof.Rows
abbrev Y0 (x:Str):It:=⟨λi _=>i<x.cps.size,λi H v H'=>H'=H/\∃c,x.cps[i]?=some c/\v=.str ⟨#[c]⟩,λi _=>i=x.cps.size⟩
def LS{P:aj}{w:ah}{K:au}(x:Str)(t:Tok)(it:ak):Turn P w K tg (Y0 x) [it] it (λi h=>h.IsStrIter it "str_ascii_iterator" x t i) where
 mem:=by simp
 obj:=λi h st b hb=>by
  have e:b=it:=by simpa using hb
  subst e;obtain⟨o,e,c,d⟩:=st;exact⟨o,e,λv z=>by rw[d]at z;cases z⟩
 keep:=λi h h' st k=>let⟨o,ho,r⟩:=st;⟨o,k it (by simp) o ho,r⟩
 item:=by
  k_ne;subst hP hw hK;gp_on;have W:=Walks.strAscii (prog:=X.prog) (w:=X.w) (I.ok.hd hc) it x t;refine W.item i s _ _ hg st λv h' g hv f j=>?_;obtain⟨c,u,m,rfl⟩:=hv;have p:Inv X pins σ H { s with heap:=h',toks:=g }:=I.turned (λb o hb e=>j b o (by simpa using hb) e) f0 f1 f3 f4 f5;obtain⟨o,e,q,d⟩:=id f;exact⟨_,rfl,Ce (s:={ s with heap:=h',toks:=g }) e q d ⋯ ⟨.str ⟨#[c]⟩,H,p,⟨u,rfl⟩,⟨rfl,c,m,rfl⟩,f,λb hb=>(hf b hb).1⟩⟩
 done:=by
  k_ne;subst hP hw hK;gp_on;have hg:i=x.cps.size:=hg;subst hg;have W:=Walks.strAscii (prog:=X.prog) (w:=X.w) (I.ok.hd hc) it x t;exact W.done s _ _ st λh' g j=>⟨rfl,I.turned (λb o hb e=>j b o (by simpa using hb) e) f0 f1 f3 f4 f5⟩
 self:=λ_ _ _ _ _ st h=>wpAny_pyIter_striter_ascii st h
section
variable {X:Cx}{tg:aE}
abbrev YB (tl:TE):TI:=λσ H R=>tl σ H λx H1=>∃y:Str,x=.str y/\y.cps.all (· < 128)=true/\R (Y0 y) H1
def SS{l:aE}{tl:TE}(hl:PE X l tl):PI X tg l (YB tl):=by
 intro pins s σ H R I h;refine lA (hl pins s σ H _ I h) λv d h9=>?_;obtain⟨x,H1,I1,r1,f⟩:=h9;obtain⟨y,e,ha,q⟩:=f;subst e;obtain⟨t,rfl⟩:=r1;refine wpAny_pyIter_ascii ha ?_;refine⟨d.heap.objs.size,[d.heap.objs.size],_,_,H1,rfl,I1.kept (t':=d.toks) λb o e=>aQ _ e,LS y t _,⟨_,bD _ rfl,rfl,rfl⟩,λb hb=>?_,q⟩;have e:b=d.heap.objs.size:=by simpa using hb
 subst e;exact I1.ER (aL _)<|I1.hok.fresh<|aL _
def II:jA X (.type "int") (λxs H Q=>∃(y:Str) (n:Int),xs=[.str y]/\y.length<=640/\PySem.intText? y=some n/\Q (.int n) H):=by
 intro pins s σ H xs us Q I f h;obtain⟨y,n,rfl,g,hn,q⟩:=h;obtain⟨w,rfl,d⟩:=vals1 f;obtain⟨u,rfl⟩:=d;exact PySem.W.KIN.call_text hn g ⟨.int n,H,I.tok _,⟨_,rfl⟩,q⟩
end
section
variable {κ:Type}[DecidableEq κ]
abbrev o_ (kvs:List<|κ×V)(k:κ):Option V:=(kvs.find? λkv=>decide<|kv.1=k).map (·.2)
abbrev putK (kvs:List<|κ×V)(k:κ)(v:V):List (κ×V):=
 if (kvs.any λkv=>decide<|kv.1=k)=true then kvs.map (λkv=>if kv.1=k then(kv.1,v)else kv)else kvs++[(k,v)]
def tO{p:κ×V}{r:List<|κ×V}{k:κ}(e:p.1=k):o_ (p::r) k=some p.2:=by simp[o_,bT,e]
def sC{p:κ×V}{r:List<|κ×V}{k:κ}(e:¬p.1=k):o_ (p::r) k=o_ r k:=by simp[o_,bT,e]
theorem vB(k:κ):∀kvs:List<|κ×V,(kvs.any λkv=>decide<|kv.1=k)=(o_ kvs k).isSome
 | []=>rfl
 | p::r=>by
  rw[eS];by_cases e:p.1=k
  ·dsimp[tO e,aY e,Bool.true_or,gW]
  ·rw[sC e,bu e,fH];exact vB k r
def nX(kvs:List<|κ×V)(k:κ)(v:V):(putK kvs k v).length<=kvs.length+1:=by
 unfold putK;split
 ·rw[aG];lia
 ·rw[bw,bN,fP];lia
def v5.qI{o:Option V}{u:bd}(r:v5 o u):o.isSome=u.isSome:=by
 cases o with
 | none=>cases u with
  | none=>rfl
  | some _=>exact(show False from r).elim
 | some _=>cases u with
  | none=>exact(show False from r).elim
  | some _=>rfl
def v5.getD{o:Option V}{u:bd}{d:V}(r:v5 o u)(rd:RelV d d'):RelV (o.getD d) (u.getD d'):=by
 cases o with
 | none=>cases u with
  | none=>exact rd
  | some _=>exact(show False from r).elim
 | some _=>cases u with
  | none=>exact(show False from r).elim
  | some _=>exact r
def KV.val(r:KV kvs vs)(k:κ):v5 (o_ kvs k) (valueAt vs k):=by
 unfold KV at r
 induction r with
 | nil=>exact True.intro
 | @cons p q ps f h t g=>
  obtain⟨h1,h2⟩:=h;by_cases e:p.1=k
  ·have d:q.1=k:=h1.symm.trans e;have b:valueAt (q::f) k=some q.2:=by simp[valueAt,bT,d]
   rw[tO e,b];exact h2
  ·have d:¬q.1=k:=λz=>e<|h1.trans z;have b:valueAt (q::f) k=valueAt f k:=by simp[valueAt,bT,d]
   rw[sC e,b];exact g
def KV.any{kvs:List<|κ×V}{vs:List<|κ×af}(r:KV kvs vs)(k:κ):(kvs.any λkv=>decide<|kv.1=k)=vs.any λkv=>decide (kv.1=k):=by
 unfold KV at r
 induction r with
 | nil=>rfl
 | cons h t d=>rw[eS,eS,d,h.1]
def KV.repl{kvs:List<|κ×V}{vs:List<|κ×af}(r:KV kvs vs)(k:κ)(ry:RelV y u) :
  KV (kvs.map λkv=>if kv.1=k then(kv.1,y)else kv) (vs.map λkv=>if kv.1=k then(kv.1,u)else kv):=by
 unfold KV at r ⊢
 induction r with
 | nil=>exact .nil
 | @cons p q ps f h t d=>
  rw[bE,bE];refine .cons ?_ d;obtain⟨h1,h2⟩:=h;by_cases e:p.1=k
  ·rw[aP e,aP<|h1.symm.trans e];exact⟨h1,ry⟩
  ·rw[aM e,aM λz=>e<|h1.trans z];exact⟨h1,h2⟩
def KV.put(r:KV kvs vs)(k:κ)(ry:RelV y u):KV (putK kvs k y) (stored vs k u):=by
 unfold putK stored;rw[r.any k];by_cases e:(vs.any λkv=>decide<|kv.1=k)=true
 ·rw[aP e,aP e];exact r.repl k ry
 ·rw[aM e,aM e];exact Paired.snoc r ⟨rfl,ry⟩
def KV.length{kvs:List<|κ×V}{vs:List<|κ×af}(r:KV kvs vs):kvs.length=vs.length:=gF r
end
def xP{P:aj}{w:ah}{k:Key}(r:RelV (kV k) u):(jL P w).is k u=true:=by
 cases k with
 | inl i=>obtain⟨t,e⟩:=(show ∃t,u=Value.int i t from r);subst e;exact CL P w i t
 | inr x=>obtain⟨t,e⟩:=(show ∃t,u=Value.str x t from r);subst e;exact C9 P w x t
theorem zU{P:aj}{w:ah}:∀{ks:List Key}{us:ba},Vals (ks.map kV) us->ItemsAre (jL P w) ks us
 | [],_,r=>by rw[fm]at r;cases r;exact .nil
 | k::ks,_,r=>by
  rw[bE]at r
  cases r with
  | cons h t=>exact .cons (xP h)<|zU t
meta abbrev KT (H:Hp):List (List Key×V)->List (List Key×ak×af)->Prop:=Paired λp q=>p.1=q.1/\H q.2.1=some (.tup<|p.1.map kV)/\RelV p.2 q.2.2
def KT.val{H:Hp}(r:KT H kvs xs)(k:List Key):v5 (o_ kvs k) ((atKey xs k).map (·.2)):=by
 induction r with
 | nil=>exact True.intro
 | @cons p q ps f h t g=>
  obtain⟨h1,_,h2⟩:=h;by_cases e:p.1=k
  ·have d:q.1=k:=h1.symm.trans e;have b:atKey (q::f) k=some q.2:=by simp[atKey,bT,d]
   rw[tO e,b];exact h2
  ·have d:¬q.1=k:=λz=>e<|h1.trans z;have b:atKey (q::f) k=atKey f k:=by simp[atKey,bT,d]
   rw[sC e,b];exact g
def KT.repl{H:Hp}{kvs:List<|List Key×V}{xs:List<|List Key×ak×af}(r:KT H kvs xs)(k:List Key)(ry:RelV y u) :
  KT H (kvs.map λkv=>if kv.1=k then(kv.1,y)else kv) (xs.map<|putAt k u):=by
 induction r with
 | nil=>exact .nil
 | @cons p q ps f h t d=>
  rw[bE,bE];refine .cons ?_ d;obtain⟨h1,h2,h3⟩:=h;unfold putAt;by_cases e:p.1=k
  ·rw[aP e,aP<|h1.symm.trans e];exact⟨h1,h2,ry⟩
  ·rw[aM e,aM λz=>e<|h1.trans z];exact⟨h1,h2,h3⟩
def KT.put{H:Hp}(r:KT H kvs xs)(k:List Key){b:ak}(hb:H b=some (.tup<|k.map kV))(ry:RelV y u) :
  KT H (putK kvs k y) (storedH xs k b u):=by
 have e:(kvs.any λkv=>decide<|kv.1=k)=(atKey xs k).isSome:=by
  rw[vB,(r.val k).qI,dw]
 unfold putK storedH;rw[e];by_cases q:(atKey xs k).isSome=true
 ·rw[aP q,aP q];exact r.repl k ry
 ·rw[aM q,aM q];exact Paired.snoc r ⟨rfl,hb,ry⟩
def KT.keeps{H H':Hp}(r:KT H kvs xs)(ht:∀b ys,H b=some (.tup ys)->H' b=some (.tup ys)):KT H' kvs xs:=
 Paired.Um r λ_ _ z=>⟨z.1,ht _ _ z.2.1,z.2.2⟩
section
variable {P:aj}{w:ah}{H:Hp}{h:aq}{a:ak}
def Rk(ok:vd P w H h)(e:Rd H a u):jJ P w H h a u:=e.ok ok
def zF{kvs:List<|Key×V}(ok:vd P w H h)(e:Rd H a<|.dK kvs):kvs.length<=sizeLine/\(a == sysModules)=false/\∃vs,KV kvs vs/\h.DictOf (jL P w) a vs:=
 show jJ P w H h a (.dK kvs)from Rk ok e
def J4{kvs:List<|Key×V}(ok:vd P w H h)(e:H a=some (.dK kvs)):kvs.length<=sizeLine/\(a == sysModules)=false/\∃vs,KV kvs vs/\h.DictOf (jL P w) a vs:=zF ok<|.inl e
def qS{ks:List Key}(ok:vd P w H h)(e:H a=some (.tup<|ks.map kV)):(tupleKind<|jL P w).is h ks a:=by
 obtain⟨_,d,r,o,h1,h2,_,n,h3⟩:=(show jJ P w H h a (.tup<|ks.map kV)from ok a _ e);exact⟨o,d.toArray,n,h1,h2,h3,by simpa using zU r⟩
def xX{kvs:List<|List Key×V}(ok:vd P w H h)(e:Rd H a<|.dT kvs):kvs.length<=sizeLine/\(a == sysModules)=false /\
  ∃xs,KT H kvs xs/\h.DictOfH (tupleKind<|jL P w) a xs:=by
 obtain⟨z,y,xs,r,o,es,ep,h1,h2,h3,f,j⟩:=(show jJ P w H h a (.dT kvs)from Rk ok e);refine⟨z,y,xs,r,o,es,ep,h1,h2,h3,f,λx d=>?_,j⟩;have all:∀{l:List<|List Key×V} {m:List<|List Key×ak×af},KT H l m->∀x∈m,(tupleKind<|jL P w).is h x.1 x.2.1:=by
  intro l m q
  induction q with
  | nil=>intro x d;exact nomatch d
  | @cons p q ps k hq t g=>
   intro x d
   rcases bF.mp d with e|d
   ·subst e;exact qS ok (by rw[<- hq.1];exact hq.2.1)
   ·exact g x d
 exact all r x d
def zO{kvs:List<|List Key×V}(ok:vd P w H h)(e:H a=some (.dT kvs)):kvs.length<=sizeLine/\(a == sysModules)=false /\
  ∃xs,KT H kvs xs/\h.DictOfH (tupleKind<|jL P w) a xs:=xX ok<|.inl e
end
abbrev rY (H:Hp)(a:ak)(y:V)(r:Option V):Prop:=
 (∃kvs k,Rd H a (.dK kvs)/\y=kV k/\r=o_ kvs k)\/∃kvs k b,Rd H a (.dT kvs)/\y=.ref b/\H b=some (.tup<|k.map kV)/\r=o_ kvs k
abbrev wR (H:Hp)(a:ak)(y v:V)(H':Hp):Prop:=
 (∃kvs k,H a=some (.dK kvs)/\y=kV k/\kvs.length<sizeLine/\H'=upd H a (.dK<|putK kvs k v)) \/
 ∃kvs k b,H a=some (.dT kvs)/\y=.ref b/\H b=some (.tup<|k.map kV)/\kvs.length<sizeLine/\H'=upd H a (.dT<|putK kvs k v)
theorem rY.k{H:Hp}{a:ak}{k:Key}(e:H a=some (.dK kvs)):rY H a (kV k) (o_ kvs k):=.inl ⟨kvs,k,.inl e,rfl,rfl⟩
def rY.t{H:Hp}{a b:ak}{k:List Key}(e:H a=some (.dT kvs))(eb:H b=some (.tup<|k.map kV)):rY H a (.ref b) (o_ kvs k):=.inr ⟨kvs,k,b,.inl e,rfl,eb,rfl⟩
theorem wR.k{H:Hp}{a:ak}{kvs:List<|Key×V}{k:Key}{v:V}(e:H a=some (.dK kvs))(hl:kvs.length<sizeLine):wR H a (kV k) v (upd H a<|.dK<|putK kvs k v):=.inl ⟨kvs,k,e,rfl,hl,rfl⟩
def wR.t{H:Hp}{a b:ak}{kvs:List<|List Key×V}{k:List Key}{v:V}(e:H a=some (.dT kvs))(eb:H b=some (.tup<|k.map kV))(hl:kvs.length<sizeLine) :
  wR H a (.ref b) v (upd H a<|.dT<|putK kvs k v):=.inr ⟨kvs,k,b,e,rfl,eb,hl,rfl⟩
section
variable {X:Cx}{pins:bn}{σ:St}{H:Hp}{s:aC}{a:ak}{y v:V}{u r:af}{o:Option V}{A:aA}{E:af->aC->Prop}
def Inv.big(I:Inv X pins σ H s):sysModules<s.heap.objs.size:=by
 have h:mainGlobals<s.heap.objs.size:=(I.mod.glob.keeps I.bk).lt;exact iH ⋯ h
def Je{Q:af->aC->Prop}(hu:A.units+1<cLine)(I:Inv X pins σ H s)(g:rY H a y<|some v)(ry:RelV y u)(h:∀w' s',Inv X pins σ H s'->RelV v w'->Q w' s') :
  wpAny (model X.prog X.w) A (getItem (.ref a) u) Q E s:=by
 rcases g with⟨kvs,k,e,j,l⟩|⟨kvs,k,b,e,j,B,l⟩
 ·subst j;obtain⟨z,C,t,d,m⟩:=zF I.hok e;obtain⟨w',hw,f⟩:=v5.some_of (v:=v) (o:=valueAt t k) (by rw[l];exact d.val k);exact wpAny_getItem_of (xP ry) m.mapOf hw (h w' _ (I.tok _) f)
 ·subst j
  cases(show u=Value.ref b from ry)
  obtain⟨z,C,xs,d,m⟩:=xX I.hok e;obtain⟨w',hw,f⟩:=v5.some_of (v:=v) (o:=(atKey xs k).map (·.2)) (by rw[l];exact d.val k);obtain⟨p,D,q⟩:=aW.mp hw;refine wpAny_getItem_heap (dM hu) (qS I.hok B) m D ?_;rw[q];exact h w' _ (I.tok _) f
def YE{Q:af->aC->Prop}(hu:A.units+1<cLine)(I:Inv X pins σ H s)(g:rY H a y o)(ry:RelV y u)(h:∀s',Inv X pins σ H s'->Q (.bool o.isSome) s') :
  wpAny (model X.prog X.w) A (compareOp .In u<|.ref a) Q E s:=by
 rcases g with⟨kvs,k,e,j,l⟩|⟨kvs,k,b,e,j,p,l⟩
 ·subst j;obtain⟨z,f,t,d,m⟩:=zF I.hok e;refine wpAny_in_of (xP ry) f m.mapOf ?_;rw[<- (d.val k).qI,<- l];exact h _ (I.tok _)
 ·subst j
  cases(show u=Value.ref b from ry)
  obtain⟨z,f,xs,d,m⟩:=xX I.hok e;refine wpAny_in_heap (dM hu) (qS I.hok p) f m ?_;have q:=(d.val k).qI;rw[dw]at q;rw[<- q,<- l];exact h _<|I.tok _
def P5{Q:af->aC->Prop}(hu:A.units+1<cLine)(I:Inv X pins σ H s)(g:rY H a y o)(ry:RelV y u)(h:∀s',Inv X pins σ H s'->Q (.bool<|!o.isSome) s') :
  wpAny (model X.prog X.w) A (compareOp .NotIn u<|.ref a) Q E s:=by
 rcases g with⟨kvs,k,e,j,l⟩|⟨kvs,k,b,e,j,p,l⟩
 ·subst j;obtain⟨z,f,t,d,m⟩:=zF I.hok e;refine wpAny_notIn_of (xP ry) f m.mapOf ?_;rw[<- (d.val k).qI,<- l];exact h _ (I.tok _)
 ·subst j
  cases(show u=Value.ref b from ry)
  obtain⟨z,f,xs,d,m⟩:=xX I.hok e;refine wpAny_notIn_heap (dM hu) (qS I.hok p) f m ?_;have q:=(d.val k).qI;rw[dw]at q;rw[<- q,<- l];exact h _<|I.tok _
def rP{h':aq}{t':Nat}{ob:HO}(I:Inv X pins σ H s)(mu:Xv<|H a)(hs:Heap.SameBut a s.heap h')(he:∃q,h'.get? a=some q)(new:jJ X.prog X.w (upd H a ob) h' a ob) :
  Inv X pins σ (upd H a ob) { s with heap:=h',toks:=t' }:=
 I.write (x:=a) (e:=a) mu (.inl rfl) (λb q hb z=>(hs.2 b hb).trans z) he new
def DZ{P:aj}{w:ah}{H':Hp}{h':aq}{kvs:List<|Key×V}(z:kvs.length<=sizeLine)(hd:(a == sysModules)=false)(rel:KV kvs vs)(dd:h'.DictOf (jL P w) a vs) :
  jJ P w H' h' a (.dK kvs):=⟨z,hd,vs,rel,dd⟩
def Ih{H':Hp}{Q:Unit->aC->Prop}(hu:A.units+1<cLine)(I:Inv X pins σ H s)(g:wR H a y v H')(ry:RelV y u)(rv:RelV v r)(h:∀s',Inv X pins σ H' s'->Q Unit.unit s') :
  wpAny (model X.prog X.w) A (setItem (.ref a) u r) Q E s:=by
 rcases g with⟨kvs,k,e,p,l,t⟩|⟨kvs,k,b,e,p,D,l,t⟩
 ·subst p t;obtain⟨z,j,J,d,B⟩:=J4 I.hok e;have m:J.length<=sizeLine:=by rw[<- d.length];exact z
  have C:(putK kvs k v).length<=sizeLine:=by have:=nX kvs k v;lia
  refine wpAny_setItem_pairs (hsz:=m) (xP ry) B λh' f hs=>h _ ?_;have K:∃q,h'.get? a=some q:=let⟨q,_,_,hq,_⟩:=f;⟨q,hq⟩
  exact rP I (by rw[e];exact True.intro) hs K<|DZ C j (d.put k rv) f
 ·subst p t
  cases(show u=Value.ref b from ry)
  obtain⟨z,j,xs,d,B⟩:=zO I.hok e;have m:xs.length<=sizeLine:=by rw[<- gF d];exact z
  have C:(putK kvs k v).length<=sizeLine:=by have:=nX kvs k v;lia
  refine wpAny_setItem_heap (hsz:=m) (dM hu) (qS I.hok D) B λh' f hs=>h _ ?_;obtain⟨q,es,ep,hq,h2,h3,G,_,L⟩:=f;refine rP I (by rw[e];exact True.intro) hs ⟨q,hq⟩ ⟨C,j,_,(d.put k D rv).keeps λc ys F=>?_,q,es,ep,hq,h2,h3,G,L⟩;rw[i_<|Ft F e λz=>nomatch z];exact F
end
def DE{X:Cx}{H:Hp}{s:aC}{a:ak}(I:Inv X pins σ H s)(g:rY H a y o):s.TypeIs (.ref a) "dict" := by
 rcases g with⟨kvs,k,e,_,_⟩|⟨kvs,k,b,e,_,_,_⟩
 ·obtain⟨_,_,f,_,d⟩:=zF I.hok e;exact d.typeIs
 ·obtain⟨_,_,xs,_,d⟩:=xX I.hok e;exact d.typeIs
def M4{P:aj}{w:ah}{H:Hp}(h:aq)(hb:sysModules<h.objs.size):jJ P w H (h.push { cls:=.type "dict",data:=.dict #[]}) h.objs.size (.dK []):=
 ⟨bO _,cK.mpr<|cT<|bA hb,[],.nil,Heap.DictOf.new h⟩
def yu{P:aj}{w:ah}{H:Hp}(h:aq)(hb:sysModules<h.objs.size):jJ P w H (h.push { cls:=.type "dict",data:=.dict #[]}) h.objs.size (.dT []):=
 ⟨bO _,cK.mpr<|cT<|bA hb,[],.nil,_,#[],0,bD _ rfl,⟨rfl,rfl,rfl⟩,rfl,rfl,cP⟩
abbrev VE:TE:=λ_ H Q=>∀p,H p=none->Q (.ref p) (upd H p<|.dK [])
abbrev RJ:TE:=λ_ H Q=>∀p,H p=none->Q (.ref p) (upd H p<|.dT [])
section
variable {X:Cx}{pos:Pos}
def Ng:PE X (.Dict [] [] pos) VE:=λpins s σ H Q I h=>
 wpAny_Dict_empty ⟨.ref s.heap.objs.size,_,I.laid (a:=s.heap.objs.size) (o:=.dK []) (t':=s.toks) (λ_ _ q=>aQ _ q) (aL _)<|M4 s.heap I.big,rfl,h _<|I.hok.fresh<|aL _⟩
def Nr:PE X (.Dict [] [] pos) RJ:=λpins s σ H Q I h=>
 wpAny_Dict_empty ⟨.ref s.heap.objs.size,_,I.laid (a:=s.heap.objs.size) (o:=.dT []) (t':=s.toks) (λ_ _ q=>aQ _ q) (aL _)<|yu s.heap I.big,rfl,h _<|I.hok.fresh<|aL _⟩
end
structure M1 (X:Cx)(o:aE)(m:Str)(apos:Pos)(e:aE)(cpos:Pos):Prop where
 base:attributeBase o m X.env (eval o X.env)=eval o X.env
 few:((backTo cpos<|starEach [e] X.env).all (λx=>!x.1) && (backToKw cpos<|keywordEach [] X.env).all (λx=>x.1.isSome)
  && decide (([e]:List aE).length+([]:List Keyword).length+(if ([]:List Keyword).isEmpty then 0 else 1)<30))=true
 line:(apos.endLine == cpos.line)=true
 trees:backTo cpos (starEach [e] X.env)=[(false,eval e X.env)]
structure M2 (X:Cx)(o:aE)(m:Str)(apos:Pos)(e f:aE)(cpos:Pos):Prop where
 base:attributeBase o m X.env (eval o X.env)=eval o X.env
 few:((backTo cpos<|starEach [e,f] X.env).all (λx=>!x.1) && (backToKw cpos<|keywordEach [] X.env).all (λx=>x.1.isSome)
  && decide (([e,f]:List aE).length+([]:List Keyword).length+(if ([]:List Keyword).isEmpty then 0 else 1)<30))=true
 line:(apos.endLine == cpos.line)=true
 trees:backTo cpos (starEach [e,f] X.env)=[(false,eval e X.env),(false,eval f X.env)]
section
variable {X:Cx}{pins:bn}{σ:St}{H:Hp}{s:aC}{a:ak}{y d:V}{u r:af}{o:Option V}{A:aA}{E:af->aC->Prop}
def SM{Q:af->aC->Prop}(hu:A.units+1<cLine)(I:Inv X pins σ H s)(g:rY H a y o)(ry:RelV y u)(rd:RelV d r)(h:∀w' s',Inv X pins σ H s'->RelV (o.getD d) w'->Q w' s') :
  wpAny (model X.prog X.w) A (call (.builtin "dict.get") [.ref a,u,r]) Q E s:=by
 rcases g with⟨kvs,k,e,p,l⟩|⟨kvs,k,b,e,p,q,l⟩
 ·subst p;obtain⟨z,m,t,f,j⟩:=zF I.hok e;refine iJ cz j.typeIs eE (d9 _ _ _) (meets_dict_get_default (jL X.prog X.w) a (xP ry) m r) ⟨_,j.mapOf,h _ _ (I.tok _) ?_⟩;rw[l];exact(f.val k).getD rd
 ·subst p
  cases(show u=Value.ref b from ry)
  obtain⟨z,m,xs,f,j⟩:=xX I.hok e;refine iJ cz j.typeIs eE (d9 _ _ _) (fY (tupleKind<|jL X.prog X.w) a b m r) ⟨dM hu,k,xs,qS I.hok q,j,h _ _ (I.tok _) ?_⟩;rw[l];exact(f.val k).getD rd
end
meta abbrev kO:=ag×ag
abbrev qG (x:ag):Int:=reduceHash<|Builtin.Tuple.tupleHashOf<|x.map hashInt
abbrev Gq (k:kO):Int:=reduceHash<|Builtin.Tuple.tupleHashOf [qG k.1,qG k.2]
abbrev dpE (x:(kO×ak×af)):DictEntry:=⟨Gq x.1,.ref x.2.1,x.2.2⟩
abbrev tP (a:ak)(xs:List<|kO×ak×af)(h:aq):Prop:=(a == sysModules)=false/\xs.length<=sizeLine/\∃o es ep,h.get? a=some o/\o.ExactDict/\o.data=.dict es ep/\es.toList=xs.map dpE/\(xs.map (·.1)).Nodup
abbrev qN (H:Hp)(b:ak)(k:kO):Prop:=∃r1 r2,H b=some (.tup [.ref r1,.ref r2])/\H r1=some (.tup<|k.1.map V.int)/\H r2=some (.tup<|k.2.map V.int)
section
variable {P:aj}{w:ah}{A:aA}{E:af->aC->Prop}{s:aC}
meta abbrev TK (h:aq)(x:ag)(a:ak):Prop:=∃o d n,h.get? a=some o/\o.cls=.type "tuple" /\ o.data=.seq d n/\IntsAre d.toList x
theorem xQ{P:aj}{w:ah}:∀{x:ag}{vs:ba},IntsAre vs x->ItemsAre (intKind P w) x vs
 | _,_,.nil=>.nil
 | _,_,.cons n t h=>.cons (intKind_is _ _ _ _)<|xQ h
def uZ{x:ag}{a:ak}:TK h x a->IsTupleKey (intKind P w) h x a:=λ⟨o,d,n,h1,h2,h3,f⟩=>⟨o,d,n,h1,h2,h3,xQ f⟩
theorem C2:∀{x y:ag}{vs:ba},IntsAre vs x->IntsAre vs y->x=y
 | _,_,_,.nil,.nil=>rfl
 | _,_,_,.cons n t h,.cons _ _ h'=>by rw[C2 h h']
abbrev uA (h:aq)(k:kO)(a:ak):Prop:=∃o n d f,h.get? a=some o/\o.cls=.type "tuple" /\ o.data=.seq #[.ref d,.ref f] n/\TK h k.1 d/\TK h k.2 f
def uA.ty{k:kO}{a:ak}(x:uA s.heap k a):s.TypeIs (.ref a) "tuple" := let⟨o,_,_,_,ho,hc,_⟩:=x;⟨o,ho,hc⟩
def TK.inj{a:ak}{x:ag}(hx:TK h x a)(hy:TK h y a):x=y:=by
 obtain⟨o,g,n,q,_,m,p⟩:=hx;obtain⟨o',f,t,j,_,d,k⟩:=hy;obtain rfl:o=o':=aZ<|q.symm.trans j;rw[m]at d
 injection d with h1 _
 subst h1;exact C2 p k
def uA.inj{a:ak}{x:kO}(hx:uA h x a)(hy:uA h y a):x=y:=by
 obtain⟨o,n,t,C,m,_,k,h1,h2⟩:=hx;obtain⟨o',B,q,p,j,_,d,f,g⟩:=hy;obtain rfl:o=o':=aZ<|m.symm.trans j;rw[k]at d
 injection d with e _
 have e:=cW Array.toList e
 injection e with e1 e2
 injection e2 with e2 _
 injection e1 with e1
 injection e2 with e2
 subst e1 e2;exact Prod.ext (h1.inj f)<|h2.inj g
def B3{h:aq}{x:ag}{a d:ak}{o:Obj}{es ep}(k:TK h x a)(ho:h.get? d=some o)(hd:o.data=.dict es ep)(hs:Heap.SameBut d h h'):TK h' x a:=by
 obtain⟨o',f,n,j,hc,g,p⟩:=k;have m:a≠d:=by
  rintro rfl;obtain rfl:o'=o:=aZ<|j.symm.trans ho;rw[hd]at g;exact nomatch g
 exact⟨o',f,n,(hs.2 a m).trans j,hc,g,p⟩
def uA.keeps{h:aq}{k:kO}{a d:ak}{o:Obj}{es ep}(x:uA h k a)(ho:h.get? d=some o)(hd:o.data=.dict es ep)(hs:Heap.SameBut d h h'):uA h' k a:=by
 obtain⟨o',n,p,m,g,hc,f,h1,h2⟩:=x;have j:a≠d:=by
  rintro rfl;obtain rfl:o'=o:=aZ<|g.symm.trans ho;rw[hd]at f;exact nomatch f
 exact⟨o',n,p,m,(hs.2 a j).trans g,hc,f,B3 h1 ho hd hs,B3 h2 ho hd hs⟩
def ID{k:kO}{a:ak}{Q:Int->aC->Prop}(hu:A.units+8<cLine)(hk:uA s.heap k a)(h:Q (Gq k) { s with toks:=s.toks+(k.1.length+1+(k.2.length+1)+1)}) :
  wpAny (model P w) A (pyHash<|.ref a) Q E s:=by
 have d:=hk.ty;obtain⟨o,n,p,g,m,_,j,h1,h2⟩:=hk;unfold pyHash
 first|unfold pyHashByItsType|skip
 first|refine aI (wpAny_cRoomFor_or (.inr<|by omega) ?_)|skip
 refine aI<|fQ d gb.lookup ?_;show wpAny _ _ (if (some (Value.builtin "tuple.__hash__") == some Value.none)=true then _ else _) Q E s;rw[aM<|by rw[beq_builtin_none];exact bL];refine aI<|fQ d gb.lookup ?_;show wpAny _ _ (callSpecialIfBoundUnlessNone? (.ref a) "__hash__" _ >>= _) Q E s;refine aI<|wpAny_callSpecialIfBoundUnlessNone?_slot d gb<|dI gb d F.entry_tuple_hash ?_<|F.args_tuple_hash_1 _;show wpAny _ _ (Builtin.Tuple.tupleItemsOf (.ref a) >>= _) _ _ s;refine aI<|gZ m j ?_;refine aI ?_;rw[<- g_];refine gB _
  (λrest (b:Array Int) s'=>(rest=[.ref p,.ref g]/\b.toList=[]/\s'=s)\/(rest=[.ref g]/\b.toList=[qG k.1]/\s'={ s with toks:=s.toks+(k.1.length+1)})\/(rest=[]/\b.toList=[qG k.1,qG k.2]/\s'={ s with toks:=s.toks+(k.1.length+1)+(k.2.length+1)}))
  _ ?_ ?_ _ _ (.inl ⟨rfl,rfl,rfl⟩)
 ·rintro x rest b s' (⟨e,hb,rfl⟩|⟨e,hb,rfl⟩|⟨e,_,_⟩)
  ·cases e
   refine aI (wpAny_pyHash_tuple (knd:=intKind P w) (ks:=k.1) (by simp;omega) (uZ h1) ?_)
   first
    | exact aN (.inr<|.inl ⟨rfl,by rw[gc,hb];rfl,rfl⟩)
    | exact aI<|aN<|aN<|.inr<|.inl ⟨rfl,by rw[gc,hb];rfl,rfl⟩
  ·cases e
   refine aI (wpAny_pyHash_tuple (knd:=intKind P w) (ks:=k.2) (by simp;omega) (uZ h2) ?_)
   first
    | exact aN (.inr<|.inr ⟨rfl,by rw[gc,hb];rfl,rfl⟩)
    | exact aI<|aN<|aN<|.inr<|.inr ⟨rfl,by rw[gc,hb];rfl,rfl⟩
  ·cases e
 ·rintro b s' (⟨e,_,_⟩|⟨e,_,_⟩|⟨_,hb,rfl⟩)
  ·cases e
  ·cases e
  ·show wpAny _ _ (retInt<|Builtin.Tuple.tupleHashOf b.toList) _ _ _;rw[hb];refine wpAny_ret_mkInt ?_;show wpAny _ _ (if (decide (-(2:Int) ^ 63<=Builtin.Tuple.tupleHashOf [qG k.1,qG k.2]) && decide (Builtin.Tuple.tupleHashOf [qG k.1,qG k.2]<2 ^ 63))=true then _ else _) Q E _;unfold Gq reduceHash at h;by_cases f:(decide (-(2:Int) ^ 63<=Builtin.Tuple.tupleHashOf [qG k.1,qG k.2]) && decide (Builtin.Tuple.tupleHashOf [qG k.1,qG k.2]<2 ^ 63))=true
   ·rw[aP f];rw[aP f]at h;exact aN (by simpa[Nat.add_assoc]using h)
   ·rw[aM f];rw[aM f]at h;exact aI<|fV<|aN<|by simpa[Nat.add_assoc]using h
def A2{x:kO}{a b:ak}{R:Fin->aC->Prop}(hu:A.units+8<cLine)(hx:uA s.heap x a)(hy:uA s.heap y b)(h:R (.done<|.ret<|.bool<|decide<|x=y) s) :
  wpAny (model P w) A (Builtin.«tuple.__eq__» ⟨[.ref a,.ref b],[]⟩) R E s:=by
 have p:=hy.ty;obtain⟨G,na,F,C,f,_,j,h1,h2⟩:=hx;obtain⟨ob,nb,D,B,k,_,t,g,m⟩:=hy;show wpAny _ _ (isInstance (.ref b) (.type "tuple") >>= _) _ _ s;refine aI<|gC p gv ?_;dsimp[bS,bG,cN];refine aI<|gZ f j ?_;refine aI<|gZ k t ?_;refine aI ?_;refine gB _
  (λrest r s'=>r.1=none/\s'=s/\((rest=[(.ref F,.ref D),(.ref C,.ref B)])\/(rest=[(.ref C,.ref B)]/\x.1=y.1)\/(rest=[]/\x=y)))
  _ ?_ ?_ _ _ ⟨rfl,rfl,.inl rfl⟩
 ·rintro⟨u,v⟩ rest r s' ⟨q,rfl,e|⟨e,hq⟩|⟨e,_⟩⟩
  ·cases e
   refine aI<|wpAny_eqBool_tuple (knd:=intKind P w) (x:=x.1) (y:=y.1) () (uZ h1) (uZ g) ?_;by_cases d:x.1=y.1
   ·rw[aY d];dsimp[bS,bG,cN];exact aN ⟨rfl,rfl,.inr<|.inl ⟨trivial,d⟩⟩
   ·rw[bu d];dsimp[cQ,eB];rw[bu λz=>d<|by rw[z]]at h;exact aI<|aN<|aN<|aN h
  ·cases e
   refine aI<|wpAny_eqBool_tuple (knd:=intKind P w) (x:=x.2) (y:=y.2) () (uZ h2) (uZ m) ?_;by_cases d:x.2=y.2
   ·rw[aY d];dsimp[bS,bG,cN];exact aN ⟨rfl,rfl,.inr<|.inr ⟨trivial,Prod.ext hq d⟩⟩
   ·rw[bu d];dsimp[cQ,eB];rw[bu λz=>d<|by rw[z]]at h;exact aI<|aN<|aN<|aN h
  ·cases e
 ·rintro⟨r1,r2⟩ s' ⟨q,rfl,e|⟨e,_⟩|⟨_,e⟩⟩
  ·cases e
  ·cases e
  ·simp only at q;subst q;refine aN ?_;rw[aY e]at h;exact h
def OW{x:kO}{a b:ak}{Q:Bool->aC->Prop}(hu:A.units+16<cLine)(hx:uA s.heap x a)(hy:uA s.heap y b)(h:Q (decide<|x=y) s):wpAny (model P w) A (eqBool (.ref a)<|.ref b) Q E s:=by
 unfold eqBool
 try with_reducible refine cV ?_
 show wpAny _ _ (if (Value.ref a == Value.ref b)=true then _ else _) Q E s;by_cases d:(Value.ref a == Value.ref b)=true
 ·rw[aP d];have e:a=b:=by have:=eq_of_beq d;injection this
  subst e;obtain rfl:=hx.inj hy;exact aI<|fV<|aN<|by simpa using h
 ·rw[aM d];exact aI (wpAny_richCompare_same_room (op:=.Eq) hx.ty hy.ty gK
   (dI gK hx.ty F.entry_tuple_eq (A2 (by simp;lia) hx hy ⟨_,rfl,(λe=>nomatch e),c5 h⟩)<|F.args_tuple_eq_2 _ _) ())
def NV{n:Nat}{x:ag}{a:ak}{Q:Bool->aC->Prop}(hk:TK s.heap x a)(h:Q true s):wpAny (model P w) A (eqIsQuiet (n+1)<|.ref a) Q E s:=by
 have hk:=uZ (P:=P) (w:=w) hk;have k:=hk.typeIs;obtain⟨o,f,m,q,_,p,t⟩:=hk;unfold eqIsQuiet;refine aI<|fQ k gK.lookup ?_;show wpAny _ _ (isInstance (.ref a) (.type "tuple") >>= _) _ _ s;refine aI<|gC k gv ?_;dsimp[bS,bG,cN];refine aI<|wpAny_seqItems q p ?_;refine aI ?_;show wpAny _ _ (forIn f _ _) _ _ s;rw[<- g_];refine gB _ (λrest r s'=>r.1=none/\s'=s/\∀v∈rest,carriedByValue v=true) _ ?_ ?_ _ _ ⟨rfl,rfl,t.byValue⟩
 ·rintro v rest r s' ⟨j,rfl,d⟩;rw[eqIsQuiet_byValue _<|d v aO];refine aI<|aN ?_;dsimp[bS,bG,cN];exact aN ⟨rfl,rfl,λu g=>d u<|aS _ g⟩
 ·rintro⟨r1,r2⟩ s' ⟨j,rfl,_⟩;simp only at j;subst j;exact aN h
def EG{k:kO}{a:ak}{Q:Bool->aC->Prop}(hk:uA s.heap k a)(h:Q true s):wpAny (model P w) A (eqIsQuiet 8<|.ref a) Q E s:=by
 have j:=hk.ty;obtain⟨o,m,p,q,B,_,t,h1,h2⟩:=hk;unfold eqIsQuiet;refine aI<|fQ j gK.lookup ?_;show wpAny _ _ (isInstance (.ref a) (.type "tuple") >>= _) _ _ s;refine aI<|gC j gv ?_;dsimp[bS,bG,cN];refine aI<|wpAny_seqItems B t ?_;refine aI ?_;show wpAny _ _ (forIn (#[Value.ref p,.ref q]:Array af) _ _) _ _ s;rw[<- g_];refine gB _ (λrest r s'=>r.1=none/\s'=s/\∀v∈rest,∃c x,v=Value.ref c/\TK s.heap x c) _ ?_ ?_ _ _ ⟨rfl,rfl,λv hv=>by
  rcases bF.mp hv with e|hv
  ·exact⟨p,k.1,e,h1⟩
  ·exact⟨q,k.2,by simpa using hv,h2⟩⟩
 ·rintro v rest r s' ⟨g,rfl,d⟩;obtain⟨c,x,rfl,C⟩:=d v aO;refine aI<|NV C ?_;dsimp[bS,bG,cN];exact aN ⟨rfl,rfl,λu f=>d u<|aS _ f⟩
 ·rintro⟨r1,r2⟩ s' ⟨g,rfl,_⟩;simp only at g;subst g;exact aN h
end
abbrev yz (P:aj)(w:ah):HeapKind P w kO where
 is:=uA
 hash:=Gq
 draws:=λk=>k.1.length+1+(k.2.length+1)+1
 room:=λA=>A.units+16<cLine
 inj:=λf hy=>f.inj hy
 keeps:=λx m j hs=>x.keeps m j hs
 pyHash:=λg d h=>ID () d h
 eqBool:=λg f hy h=>OW g f hy h
 quiet:=λd h=>EG d h
section
variable {X:Cx}
def BU(hu:X.A.units+1<cLine):OX X (λx y H Q=>∃a v,x=.ref a/\rY H a y (some v)/\Q v H):=by
 intro j d pins s σ H x y v u Q I rx ry h hs;obtain⟨a,z,rfl,g,q⟩:=h
 cases rx
 have p:=DE I g;unfold subscriptTail;refine aI ?_;rw[getitemInPython_of_ne p.not_modules];refine aI<|fQ p PySem.F.slot_dict_getitem.lookup ?_;have f:wpAny (model X.prog X.w) X.A (subscripted d false (.ref a) u) (λr k=>wpAny (model X.prog X.w) X.A (letTemporaryGo j (.ref a) r >>= λ_=>pure r) (EP X pins σ Q) X.xe k) X.xe s:=by
  rw[hs];exact wpAny_operating<|Je hu I g ry λC B t m=>aI<|wpAny_letTemporaryGo<|aN ⟨z,H,t,m,q⟩
 first
  | exact aN (aI f)
  | exact aI (aN<|aI f)
  | exact aI f
def UK(hu:X.A.units+1<cLine):ni X (compareOp .In) (λy x H Q=>∃a o,x=.ref a/\rY H a y o/\Q (.bl o.isSome) H):=by
 intro pins s σ H y x v u Q I ry rx h;obtain⟨a,o,rfl,g,q⟩:=h
 cases rx
 exact YE hu I g ry λf d=>⟨.bl o.isSome,H,d,rfl,q⟩
def IC(hu:X.A.units+1<cLine):ni X (compareOp .NotIn) (λy x H Q=>∃a o,x=.ref a/\rY H a y o/\Q (.bl<|!o.isSome) H):=by
 intro pins s σ H y x v u Q I ry rx h;obtain⟨a,o,rfl,g,q⟩:=h
 cases rx
 exact P5 hu I g ry λf d=>⟨.bl<|!o.isSome,H,d,rfl,q⟩
def set_dict(hu:X.A.units+1<cLine):CI X (λo i v H Q=>∃a H',o=.ref a/\wR H a i v H'/\Q H'):=by
 intro pins s σ H o i v m iv u Q I d f j h;obtain⟨a,H',rfl,g,q⟩:=h
 cases d
 exact Ih hu I g f j λp k=>⟨H',k,q⟩
abbrev U_ (tk tv:TE):TE:=λσ H Q=>∀p,H p=none->tk σ (upd H p<|.dT []) λx H1=>tv σ H1 λy H2=>H2 p=some (.dT [])/\∃b ks,x=.ref b/\H2 b=some (.tup<|ks.map kV)/\Q (.ref p) (upd H2 p<|.dT [(ks,y)])
def Le{k v:aE}{tk tv:TE}(hu:X.A.units+1<cLine)(hk:PE X k tk)(hv:PE X v tv):PE X (.Dict [some k] [v] pos) (U_ tk tv):=by
 intro pins s σ H Q I q;have hn:=I.hok.fresh<|aL s.heap.objs.size;have D:=I.laid (a:=s.heap.objs.size) (o:=.dT []) (h':=s.heap.push { cls:=.type "dict",data:=.dict #[]}) (t':=s.toks) (λ_ _ q=>aQ _ q) (aL _)<|yu s.heap I.big;refine wpAny_Dict_any rfl rfl (by simp) (show 1<=15 by decide) ?_;refine pairTrees_cons_walk<|lA (hk pins _ σ _ _ D<|q _ hn) λkv F ⟨x,H1,K,rx,J⟩=>lA (hv pins F σ H1 _ K J) λvv M ⟨y,H2,d,ry,e,b,ks,ex,j,B⟩=>pairTrees_nil_walk ?_;subst ex
 cases rx
 obtain⟨z,C,xs,g,G⟩:=zO d.hok e
 cases g
 unfold storeAll;rw[iM];refine aI (aI<|wpAny_dictSet_heap (hsz:=by simp) (show X.A.units<cLine by lia) (qS d.hok j) G λh' f hs=>aN ?_);dsimp only;rw[gY];refine aN ⟨.ref s.heap.objs.size,_,?_,rfl,B⟩;obtain⟨m,es,ep,hq,h2,h3,t,_,L⟩:=f;refine rP d (by rw[e];exact True.intro) hs ⟨m,hq⟩ ⟨by show 1<=sizeLine;decide,C,_,(KT.put (kvs:=[]) .nil ks j ry).keeps λc ys p=>?_,m,es,ep,hq,h2,h3,t,L⟩;rw[i_<|Ft p e λz=>nomatch z];exact p
abbrev VV:V->List V->Hp->VK->Prop:=λx d H Q=>∃a b ks kvs y,x=.ref a/\d=[.ref b,y]/\H a=some (.dT kvs)/\H b=some (.tup<|ks.map kV)/\Q ((o_ kvs ks).getD y) H
def Qh(hu:X.A.units+1<cLine):X_ X "dict.get" VV:=by
 intro pins s σ H x C v us Q I rx f h;obtain⟨a,b,ks,kvs,y,rfl,rfl,k,m,q⟩:=h
 cases rx
 cases f with
 | @cons _ D _ Fc r1 f=>
  cases f with
  | @cons _ t _ BZ r2 f=>
   cases f
   cases r1
   obtain⟨z,p,xs,g,j⟩:=zO I.hok k;refine iJ cz j.typeIs eE (d9 _ _ _) (fY (tupleKind<|jL X.prog X.w) a b p t) ⟨dM hu,ks,xs,qS I.hok m,j,?_⟩;refine⟨(o_ kvs ks).getD y,H,I.tok _,?_,q⟩;have d:=g.val ks
   cases e1:o_ kvs ks with
   | none=>
    rw[e1]at d
    cases e2:(atKey xs ks).map (·.2)with
    | none=>exact r2
    | some B=>rw[e2]at d;exact d.elim
   | some F=>
    rw[e1]at d
    cases e2:(atKey xs ks).map (·.2)with
    | none=>rw[e2]at d;exact d.elim
    | some B=>rw[e2]at d;exact d
end
section
theorem kt_at{H:Hp}:∀{kvs:List<|List Key×V}{xs:List<|List Key×ak×af},KT H kvs xs->kvs.length=xs.length/\∀(i:Nat) (p:List Key×V),kvs[i]?=some p->∃y:List Key×ak×af,xs[i]?=some y/\p.1=y.1/\H y.2.1=some (.tup<|p.1.map kV)/\RelV p.2 y.2.2
 | [],[],_=>⟨rfl,λi p h=>by simp at h⟩
 | [],_::_,r=>nomatch r
 | _::_,[],r=>nomatch r
 | a::kvs,b::xs,.cons z r=>by
  obtain⟨l,q⟩:=kt_at r;refine⟨by simp[l],λi p h=>?_⟩
  cases i with
  | zero=>
   have:a=p:=by simpa using h
   subst this;exact⟨b,rfl,z⟩
  | succ i=>exact q i p<|by simpa using h
end
abbrev C0 (e:ak)(h:aq):Prop:=∃o d,h.get? e=some o/\o.data=.fields d/\d[2]?=some .none/\o.dict=none
structure Fly (l:List Env)(g:aq)(pn:bn)(H:Hp)(e:ak)(cls:af)(h:aq):Prop where
 ex:∃(B:aq) (a0:af),Heap.FlyingW B l e cls a0 h/\(∀a u,H a=some u->∃o,B.get? a=some o)/\(∀b o,g.get? b=some o->b∉frs l->∃o',B.get? b=some o')/\(∀p∈pn,∃o',B.get? p.1=some o')/\C0 e h
structure Made (X:Cx)(H:Hp)(e:ak)(cls:af)(g:aq)(h:aq):Prop where
 ex:∃(g':aq) (vs:ba),Heap.MadeExcOf g' h e cls vs/\g'.FunFrames X.base X.stack/\(∀a u,H a=some u->∃o,g'.get? a=some o)/\(∀b o,g.get? b=some o->∃o',g'.get? b=some o')/\(∀p∈X.pn,∃o',g'.get? p.1=some o')
abbrev Ud (X:Cx)(H:Hp)(e:ak)(cls:af)(s':aC):Prop:=Made X H e cls X.s₀.heap s'.heap\/Fly X.stack X.s₀.heap X.pn H e cls s'.heap
section
abbrev EX (X:Cx):XK:=λcls _ H'=>X.ex=[]/\∀pins d s' e,Inv X pins d H' s'->Ud X H' e cls s'->X.xe (.ref e) s'
end
inductive FParts (X:Cx):List aE->List (Str ⊕ TE)->Prop
 | nil:FParts X [] []
 | txt {x:Str} {j pos} {es:List aE} {ps:List<|Str ⊕ TE} (h:FParts X es ps):FParts X (.Constant (.str x) j pos::es) (.inl x::ps)
 | val {e:aE} {pos:Pos} {t:TE} {es:List aE} {ps:List<|Str ⊕ TE} (he:PE X e t) (h:FParts X es ps):FParts X (.FormattedValue e (-1) none pos::es) (.inr t::ps)
abbrev xu:HO:=.ext λ_=>True
structure XO (C:ak)(o:Obj):Prop where
 cls:o.cls=.ref C
 dict:o.dict=none
 ctx:∃vs,o.data=.fields vs/\vs[2]?=some .none
structure Fr0 (X:Cx)(e:ak):Prop where
 no:∀o,X.s₀.heap.get? e≠some o
 tup:∀xs,X.H₀ e≠some (.tup xs)
 frz:∀o u,X.H₀ e≠some (.frz o u)
 tbl:∀ps,X.H₀ e≠some (.tbl ps)
abbrev mroIn (K:au)(C:ak):Option (ba):=match K.lookup C with
 | some ⟨.type "type",_,.cls cd,sl⟩=>(match cd.mro,sl.toList with
  | .ref C'::bm,[_,_,_,_,some<|.builtin _,_]=>if C'=C/\cd.hasDel=false then some bm else none
  | _,_=>none)
 | _=>none
structure ClsAt (h:aq)(C:ak)(bm:ba):Prop where
 ex:∃nm q N bs hdct sn sub ab col dd k0 k1 k2 k3 k5 newId,h.get? C=some (excClassObj nm q C N bs bm hdct sn sub ab col dd k0 k1 k2 k3 k5 newId)
open PySem.W in
structure XCls (K:au)(C:ak):Prop where
 ga:findIn K (.ref C) "__getattribute__" = some (some<|.builtin "BaseException.__getattribute__")
 gt:findIn K (.ref C) "__getattr__" = some none
 fc:findObj K C none "__class__" = some (.bind (.builtin "getset_descriptor.__get__")<|.builtin "object.__class__")
 ob:PySem.W.mroIn K C (.type "object")=some true
 bs:subIn K (.ref C) (.type "BaseException")=some true
abbrev SN (A:aA):aA:={ A with handled:=none }
abbrev WQ (k:Nat)(A:aA):Prop:=Room k<|SN A
structure Hnd (A:aA)(H:Hp)(e:ak)(oe:Obj)(C:ak):Prop where
 hh:A.handled=some (.ref e)
 h0:H e=some (.frz oe xu)
 xo:XO C oe
structure FnOkH (P:aj)(w:ah)(K:au)(mg:Str->bd)(base:aq)(k:Nat)(f:ak)(fd:FuncData)(ps:ar)(sp:Sp):Prop where
 len:∀vs H Q E,sp vs H Q E->vs.length=ps.length
 run:∀(A:aA) (outer:List Env) (s:aC) (H:Hp) (args:Args) (us:ba) (vs:List V) (Q:VK) (e:ak) (oe:Obj) (C:ak),WQ k A->Hnd A H e oe C->Env0 P w K mg base A outer s H->BindsTo s fd args (ps.zip us)->Vals vs us->sp vs H Q E0 ->
  codeAny (model P w) A (.call (.ref f) args) (CR o9 outer P w H s Q E0) s
end L2
namespace L2
open PySem PySem.Spec PyProof.Rows PySem.SeqAt
def Up:bootBuiltins "sum" = some (.builtin "sum"):=by decide +kernel
section
variable {X:Cx}
def Jd(hc:X.calm=true):jA X (.builtin "sum") (λxs H Q=>∃(p:ak) (ns:ag),xs=[.ref p]/\p7 X.K H p (ns.map V.int)/\Q (.int ns.sum) H):=by
 fin2;obtain⟨p,ns,rfl,hq,q⟩:=h;kj_on
 cases rx
 obtain⟨m,t,pl,C⟩:=I.list hq;have f:=intsAre_of t;have g:=pl.isList;obtain⟨ys,e⟩:=f.allInts.items;have d:ns=ys.toList.map (·.1):=by
  rw[<- f.numsOf,<- nums_intItems,<- e]
 rw[e]at g;refine sum_intListG (I.ok.hd hc) g λh' B j k=>?_;refine⟨.int _,H,I.kept k,⟨j,rfl⟩,?_⟩;rw[preSum_eq,List.take_of_length_le<|by simp,<- d];exact q
end
end L2
namespace Sx
open PySem PyProof.Rows
structure Ord where
 lt:Nat->Nat->Bool
 NZ:∀i,lt i i=false
 tr:∀i j k,lt i j=true->lt j k=true->lt i k=true
 neg:∀i j k,lt i k=true->lt i j=true\/lt j k=true
abbrev P (o:Ord)(i j:Nat):Prop:=o.lt i j=true\/(o.lt j i=false/\i<j)
def Ord.YL(o:Ord)(h:o.lt i j=true):o.lt j i=false:=by
 cases e:o.lt j i with
 | false=>rfl
 | true=>have:=o.tr _ _ _ h e;rw[o.NZ]at this;cases this
def P.NZ(h:P o i i):False:=by
 rcases h with h|⟨_,h⟩
 ·rw[o.NZ]at h;cases h
 ·lia
def P.trans{k:Nat}(a:P o i j)(b:P o j k):P o i k:=by
 rcases a with a|⟨a,f⟩
 ·rcases b with b|⟨b,d⟩
  ·exact .inl (o.tr _ _ _ a b)
  ·rcases o.neg i k j a with z|z
   ·exact .inl z
   ·rw[b]at z;cases z
 ·rcases b with b|⟨b,d⟩
  ·rcases o.neg j i k b with z|z
   ·rw[a]at z;cases z
   ·exact .inl z
  ·refine .inr ⟨?_,()⟩
   cases e:o.lt k i with
   | false=>rfl
   | true=>
    rcases o.neg k j i e with z|z
    ·rw[b]at z;cases z
    ·rw[a]at z;cases z
def P.of_lt{o:Ord}(h:o.lt i j=true):P o i j:=.inl h
def P.Hr{o:Ord}(h:o.lt j i=false)(hij:i<j):P o i j:=.inr ⟨h,hij⟩
def P.ge{o:Ord}(h:P o i j):o.lt j i=false:=by
 rcases h with h|⟨h,_⟩
 ·exact o.YL h
 ·exact h
abbrev So (o:Ord)(g:Nat->Nat)(a b:Nat):Prop:=∀i j,a<=i->i<j->j<b->P o (g i) (g j)
abbrev Cl (g:Nat->Nat)(a b:Nat):Prop:=∀i,a<=i->i<b->a<=g i/\g i<b
abbrev rev (g:Nat->Nat)(i j:Nat):Nat->Nat:=λk=>if i<=k/\k<j then g (i+j-1-k)else g k
abbrev mv (g:Nat->Nat)(src dst:Nat):Nat->Nat:=λk=>if k=dst then g src else if dst<k/\k<=src then g (k-1)else g k
def xY{g:Nat->Nat}{k:Nat}(h:i<=k)(h2:k<j):rev g i j k=g (i+j-1-k):=aP ⟨h,h2⟩
def o8{g:Nat->Nat}{k:Nat}(h:k<i\/j<=k):rev g i j k=g k:=aM ()
def KL{g:Nat->Nat}{d:Nat}:mv g s d d=g s:=aP rfl
def Ci{g:Nat->Nat}{d k:Nat}(h:d<k)(h2:k<=s):mv g s d k=g (k-1):=by
 unfold mv;rw[aM (),aP ⟨h,h2⟩]
def Br{g:Nat->Nat}{d k:Nat}(hd:d<=s)(h:k<d\/s<k):mv g s d k=g k:=by
 unfold mv;rw[aM (),aM ()]
section
variable {prog:aj}{w:ah}{A:aA}{E:af->aC->Prop}{s:aC}{o:Ord}{N:Nat}{f:Nat->Keyed}{kd:SortKind}{g:Nat->Nat}{p:Array (Nat×Nat×Nat)}{st:SortSt}
abbrev N7 (prog:aj)(w:ah)(A:aA)(s:aC)(o:Ord)(N:Nat)(f:Nat->Keyed)(kd:SortKind):Prop:=
 ∀i j,i<N->j<N->∀(d:af->aC->Prop) (Q:Bool->aC->Prop),Q (o.lt i j) s->wpAny (model prog w) A (keyLt' kd (f i).1 (f j).1) Q d s
structure Sg (N:Nat)(f:Nat->Keyed)(kd:SortKind)(g:Nat->Nat)(p:Array (Nat×Nat×Nat))(st:SortSt):Prop where
 size:(arrOf st).size=N
 get:∀i,i<N->(arrOf st)[i]?=some (f<|g i)
 lt:∀i,i<N->g i<N
 kind:kindOf st=kd
 failed:failedOf st=none
 pend:pendingOf st=p
def Sv(C:N7 prog w A s o N f kd)(hk:kindOf st=kd)(hi:i<N)(hj:j<N){Q:bi->SortSt->Prop}(q:Q (some<|o.lt i j) st):wpS (model prog w) A E s (lt' (f i)<|f j) Q st:=by
 rw[lt'_eq];refine bY<|wpS_get ?_;rw[hk];refine bY<|wpS_lift<|wpAny_attempt<|C i j hi hj _ _ ⟨rfl,?_⟩;exact cY q
def Cf{xs:Array Keyed}{i:Nat}{x:Keyed}(e:xs[i]?=some x){Q:Keyed->SortSt->Prop}(q:Q x st):wpS (model prog w) A E s (elem' xs i) Q st:=by
 rw[elem'_eq,e];exact cY q
def vE(C:N7 prog w A s o N f kd)(h:Sg N f kd g p st)(hi:i<N)(hj:j<N){Q:bi->SortSt->Prop}(q:Q (some<|o.lt (g i)<|g j) st):wpS (model prog w) A E s (ltAt' i j) Q st:=by
 rw[ltAt'_eq];refine bY (wpS_get ?_)
 skip
 exact bY<|Cf (h.get i hi)<|bY<|Cf (h.get j hj)<|Sv C h.kind (h.lt i hi) (h.lt j hj) q
def Sg.arr(h:Sg N f kd g p st){xs:Array Keyed}{g':Nat->Nat}(hs:xs.size=N)(hg:∀i,i<N->xs[i]?=some (f<|g' i))(hl:∀i,i<N->g' i<N):Sg N f kd g' p (setArr st xs):=⟨hs,hg,hl,h.kind,h.failed,h.pend⟩
def xj(h:Sg N f kd g p st)(hj:j<=N){Q:Unit->SortSt->Prop}(q:∀st',Sg N f kd (rev g i j) p st'->Q Unit.unit st'):wpS (model prog w) A E s (reverseSlice' i j) Q st:=by
 rw[reverseSlice'_eq];refine wpS_modify (q _<|h.arr (by rw[mirror_size];exact h.size) (λk d=>?_) λk d=>?_)
 ·rw[getElem?_mirror_all<|by rw[h.size];exact hj];unfold rev;by_cases c:i<=k/\k<j
  ·rw[aP c,aP c];exact h.get _ (by omega)
  ·rw[aM c,aM c];exact h.get _ d
 ·unfold rev;by_cases c:i<=k/\k<j
  ·rw[aP c];exact h.lt _ (by omega)
  ·rw[aM c];exact h.lt _ d
def Ue(h:Sg N f kd g p st){a b:Nat}(ha:a<N)(hb:b<=a){Q:Unit->SortSt->Prop}(q:∀st',Sg N f kd (mv g a b) p st'->Q Unit.unit st'):wpS (model prog w) A E s (moveDown' a b) Q st:=by
 rw[moveDown'_eq];refine wpS_modify (q _<|h.arr (by rw[bubble_size];exact h.size) (λk d=>?_) λk d=>?_)
 ·rw[getElem?_bubble (by rw[h.size];exact ha) _ (),show a-(a-b)=b by lia];unfold mv;by_cases c:k=b
  ·rw[aP c,aP c];exact h.get _ ha
  ·rw[aM c,aM c];by_cases c2:b<k/\k<=a
   ·rw[aP c2,aP c2];exact h.get _ ()
   ·rw[aM c2,aM c2];exact h.get _ d
 ·unfold mv;by_cases c:k=b
  ·rw[aP c];exact h.lt _ ha
  ·rw[aM c];by_cases c2:b<k/\k<=a
   ·rw[aP c2];exact h.lt _ ()
   ·rw[aM c2];exact h.lt _ d
structure Rn (o:Ord)(g0 g:Nat->Nat)(a b:Nat):Prop where
 out:∀i,i<a\/b<=i->g i=g0 i
 cl:Cl g a b
 so:So o g a b
def SE{g0:Nat->Nat}{lo k l:Nat}(R:Rn o g0 g lo<|lo+k)(hk:g (lo+k)=lo+k)(hl:l<=k)(h1:∀i,i<l->P o (g<|lo+i) (lo+k))(h2:∀i,l<=i->i<k->P o (lo+k) (g<|lo+i)):Rn o g0 (mv g (lo+k)<|lo+l) lo (lo+(k+1)) where
 out i hi:=by rw[Br () ()];exact R.out i ()
 cl i a b:=by
  by_cases c:i=lo+l
  ·subst c;rw[KL,hk];lia
  ·by_cases c2:lo+l<i
   ·rw[Ci c2 ()];have:=R.cl (i-1) () ()
    lia
   ·rw[Br () ()];have:=R.cl i () ()
    lia
 so i j a b d:=by
  by_cases c:i=lo+l
  ·subst c;rw[KL,Ci b (),hk];have:=h2 (j-1-lo) () ()
   rwa [show lo+(j-1-lo)=j-1 by lia]at this
  ·by_cases c2:lo+l<i
   ·rw[Ci c2 (),Ci () ()];exact R.so _ _ () () ()
   ·rw[Br (k:=i) () ()];by_cases c3:j=lo+l
    ·subst c3;rw[KL,hk];have:=h1 (i-lo) ()
     rwa [show lo+(i-lo)=i by lia]at this
    ·by_cases c4:lo+l<j
     ·rw[Ci c4 ()];exact R.so _ _ () () ()
     ·rw[Br () ()];exact R.so _ _ () () ()
def Vf(C:N7 prog w A s o N f kd){g0:Nat->Nat}{lo n ok:Nat}(h:Sg N f kd g p st)(hn:lo+n<=N)(h1:1<=ok)(hok:ok<=n)(R:Rn o g0 g lo<|lo+ok)(hid:∀i,lo+ok<=i->i<lo+n->g0 i=i)
  {Q:Bool->SortSt->Prop} (q:∀g' st',Sg N f kd g' p st'->Rn o g0 g' lo (lo+n)->Q true st'):wpS (model prog w) A E s (binarySort' lo n ok) Q st:=by
 rw[binarySort'_eq,show max ok 1=ok by lia];refine bY (wpS_mono (gf (I:=λk c st'=>c=(none,Unit.unit)/\∃g',Sg N f kd g' p st'/\Rn o g0 g' lo (lo+min k n))
  (Q:=λc st'=>c=(none,Unit.unit)/\∃g',Sg N f kd g' p st'/\Rn o g0 g' lo (lo+n)) ?step ?fin ?init) ?post)
 case post=>
  rintro c st' ⟨rfl,g',h',j⟩;exact cY<|q g' st' h' j
 case init=>exact⟨rfl,g,h,by rw[show min ok n=ok by lia];exact R⟩
 case fin=>
  rintro c st' ⟨hc,g',h',j⟩;exact⟨hc,g',h',by rwa [show min (max ok n) n=n by lia]at j⟩
 case step=>
  rintro k c st' M T ⟨rfl,g',h',j⟩;rw[show min k n=k by lia]at j;have J:g' (lo+k)=lo+k:=by rw[j.out _ ()];exact hid _ () ()
  refine bY (wpS_mono (gf (I:=λx c B=>B=st'/\∃u v,c=(none,u,v)/\u<=v/\v<=k/\v-u<=k-x /\
    (∀i,i<u->P o (g'<|lo+i) (lo+k))/\(∀i,v<=i->i<k->P o (lo+k) (g'<|lo+i)))
   (Q:=λc B=>B=st'/\∃u v,c=(none,u,v)/\u<=k /\
    (∀i,i<u->P o (g'<|lo+i) (lo+k))/\(∀i,u<=i->i<k->P o (lo+k) (g'<|lo+i))) ?istep ?ifin ?iinit) ?ipost)
  case iinit=>exact⟨rfl,0,k,rfl,(),(),(),λi W=>(),λi h1 h2=>()⟩
  case ifin=>
   rintro c B ⟨rfl,u,v,rfl,G,t,L,low,top⟩;have:u=v:=()
   subst this;exact⟨rfl,u,u,rfl,t,low,top⟩
  case istep=>
   rintro x c B _ O ⟨rfl,u,v,rfl,G,t,L,low,top⟩;dsimp only;by_cases D:u>=v
   ·rw[aP D];have:u=v:=()
    subst this;exact cY ⟨rfl,u,u,rfl,t,low,top⟩
   ·rw[aM D];have U:(u+v) / 2<k:=()
    have K:=j.cl (lo+(u+v) / 2) () ();refine bY<|vE C h' () () ?_;rw[J]
    cases d:o.lt (lo+k) (g'<|lo+(u+v) / 2)
    case true=>
     dsimp[eB];refine cY ⟨rfl,u,(u+v) / 2,rfl,(),(),(),low,λi h1 h2=>?_⟩;by_cases c:i=(u+v) / 2
     ·subst c;exact .inl d
     ·exact(P.of_lt d).trans (j.so _ _ () () ())
    case false=>
     dsimp[bG,cN];refine cY ⟨rfl,(u+v) / 2+1,v,rfl,(),(),(),λi h1=>?_,top⟩;have m:=P.Hr d K.2;by_cases c:i=(u+v) / 2
     ·subst c;exact m
     ·exact(j.so _ _ () () ()).trans m
  case ipost=>
   rintro c B ⟨rfl,u,v,rfl,F,low,top⟩;dsimp only;refine bY<|Ue h' () () λV h3=>?_;refine cY ⟨rfl,_,h3,?_⟩;rw[show min (k+1) n=k+1 by lia];exact SE j J F low top
end
meta abbrev As:=Option (bj)×Nat
meta abbrev Ds:=Option (bj)×Nat×Nat
abbrev NW (lo a nrem:Nat):StateT SortSt Sem As:=
 forIn [a:nrem] ((none,a):As) λ_ c=>do
  let x <- ltAt' (lo+c.2) (lo+c.2-1)
  match x with
  | some b=>if b=true then pure (ForInStep.done (none,c.2))else pure (ForInStep.yield (none,c.2+1))
  | _=>pure<|ForInStep.done (some none,c.2)
abbrev DG (lo n nrem:Nat):StateT SortSt Sem (bj):=do
 reverseSlice' lo (lo+n)
 let c <- NW lo n nrem
 match c.1 with
 | some r=>pure r
 | none=>pure<|some c.2
abbrev Qo (lo n nrem:Nat):StateT SortSt Sem Ds:=
 forIn [n:nrem] ((none,n,0):Ds) λ_ c=>do
  let x <- ltAt' (lo+c.2.1) (lo+c.2.1-1)
  match x with
  | some b=>
   if b=true then
    if c.2.2>0 then do
     reverseSlice' (lo+c.2.1-(c.2.2+1)) (lo+c.2.1)
     pure (ForInStep.yield (none,c.2.1+1,0))
    else pure (ForInStep.yield (none,c.2.1+1,0))
   else do
    let x <- ltAt' (lo+c.2.1-1) (lo+c.2.1)
    match x with
    | some b=>
     if b=true then pure (ForInStep.done (none,c.2.1,c.2.2))
     else pure (ForInStep.yield (none,c.2.1+1,c.2.2+1))
    | _=>pure<|ForInStep.done (some none,c.2.1,c.2.2)
  | _=>pure<|ForInStep.done (some none,c.2.1,c.2.2)
abbrev Mx (lo n nrem:Nat):StateT SortSt Sem (bj):=do
 liftM (rule "list.sort.descending-run")
 let c <- Qo lo (n+1) nrem
 match c.1 with
 | some r=>pure r
 | none=>
  if c.2.2>0 then do
   reverseSlice' (lo+c.2.1-(c.2.2+1)) (lo+c.2.1)
   DG lo c.2.1 nrem
  else DG lo c.2.1 nrem
def count_eq(lo nrem:Nat):countRun' lo nrem=(do
  let c <- NW lo 1 nrem
  match c.1 with
  | some r=>pure r
  | none=>
   if (c.2 == nrem)=true then pure (some c.2)
   else if c.2>1 then do
    let x <- ltAt' lo (lo+c.2-1)
    match x with
    | some b=>if b=true then pure (some c.2)else do
      reverseSlice' lo (lo+c.2)
      Mx lo c.2 nrem
    | _=>pure none
   else Mx lo c.2 nrem):=by
 rw[countRun'_eq];dsimp only;unfold Mx DG Qo NW;congr 1
 funext c
 obtain⟨r,n⟩:=c
 cases r with
 | some r=>rfl
 | none=>
  dsimp only;split
  ·rfl
  ·split
   ·congr 1
    funext x
    cases x with
    | none=>rfl
    | some b=>
     dsimp only;split
     ·rfl
     ·congr 1
      funext _r
      congr 1
      funext _u
      congr 1;congr 1
      funext s2
      obtain⟨r2,g,j⟩:=s2
      cases r2 with
      | some r2=>rfl
      | none=>
       dsimp only;split
       ·congr 1
        funext _v
        congr 1
        funext _w
        congr 1
        funext s3
        obtain⟨d,f⟩:=s3
        cases d<;>rfl
       ·congr 1
        funext _w
        congr 1
        funext s3
        obtain⟨d,f⟩:=s3
        cases d<;>rfl
   ·congr 1
    funext _u
    congr 1;congr 1
    funext s2
    obtain⟨r2,g,j⟩:=s2
    cases r2 with
    | some r2=>rfl
    | none=>
     dsimp only;split
     ·congr 1
      funext _v
      congr 1
      funext _w
      congr 1
      funext s3
      obtain⟨d,f⟩:=s3
      cases d<;>rfl
     ·congr 1
      funext _w
      congr 1
      funext s3
      obtain⟨d,f⟩:=s3
      cases d<;>rfl
section
variable {prog:aj}{w:ah}{A:aA}{E:af->aC->Prop}{s:aC}{o:Ord}{N:Nat}{f:Nat->Keyed}{kd:SortKind}{g g0:Nat->Nat}{p:Array (Nat×Nat×Nat)}{st:SortSt}
def Rn.snoc{a b:Nat}(R:Rn o g0 g a b)(hab:a<b)(hb:g b=b)(h:o.lt b (g<|b-1)=false):Rn o g0 g a (b+1) where
 out i hi:=R.out i ()
 cl i h1 h2:=by
  by_cases c:i=b
  ·subst c;lia
  ·have:=R.cl i h1 ();lia
 so i j h1 h2 h3:=by
  by_cases c:j=b
  ·subst c;rw[hb];have l:=R.cl (j-1) () ();have d:P o (g<|j-1) j:=P.Hr h l.2;by_cases c2:i=j-1
   ·subst c2;exact d
   ·exact(R.so i (j-1) h1 () ()).trans d
  ·exact R.so i j h1 h2 ()
def JY(C:N7 prog w A s o N f kd){lo a:Nat}(h:Sg N f kd g p st)(hn:lo+nrem<=N)(h1:1<=a)(han:a<=nrem)(R:Rn o g0 g lo<|lo+a)(hid:∀i,lo+a<=i->i<lo+nrem->g0 i=i)
  {Q:As->SortSt->Prop} (q:∀n,a<=n->n<=nrem->Rn o g0 g lo (lo+n)->(n=nrem\/o.lt (lo+n) (g<|lo+n-1)=true)->Q (none,n) st):wpS (model prog w) A E s (NW lo a nrem) Q st:=by
 unfold NW;refine gf (I:=λx c d=>d=st/\c=(none,x)/\Rn o g0 g lo (lo+x)) ?step ?fin ⟨rfl,rfl,R⟩
 case fin=>
  rintro c d ⟨rfl,rfl,j⟩;rw[show max a nrem=nrem by lia]at j ⊢;exact q nrem han (aL _) j<|.inl rfl
 case step=>
  rintro x c d k B ⟨rfl,rfl,j⟩;dsimp only;have m:g (lo+x)=lo+x:=by rw[j.out _ ()];exact hid _ () ()
  refine bY<|vE C h () () ?_;rw[m]
  cases t:o.lt (lo+x) (g<|lo+x-1)
  case true=>
   dsimp[eB];exact cY<|q x k () j<|.inr t
  case false=>
   dsimp[bG,cN];exact cY ⟨rfl,rfl,j.snoc () m t⟩
structure Dc (o:Ord)(g0 g:Nat->Nat)(a b q:Nat):Prop where
 out:∀i,i<a\/b<=i->g i=g0 i
 cl:Cl g a b
 few:a+(q+1)<=b
 dn:∀i j,a<=i->i<j->j<b->i<b-(q+1)->P o (g j) (g i)
 id:∀i,b-(q+1)<=i->i<b->g i=i
 al:∀i j,b-(q+1)<=i->i<b->b-(q+1)<=j->j<b->o.lt i j=false
def Dc.turn{a b q:Nat}(D:Dc o g0 g a b q):(∀i,i<a\/b<=i->rev g (b-(q+1)) b i=g0 i)/\Cl (rev g (b-(q+1)) b) a b/\(∀i j,a<=i->i<j->j<b->P o (rev g (b-(q+1)) b j) (rev g (b-(q+1)) b i))/\(∀i,b-(q+1)<=i->i<b->∃k,rev g (b-(q+1)) b i=k/\b-(q+1)<=k/\k<b):=by
 have few:=D.few;have d:∀i,b-(q+1)<=i->i<b->rev g (b-(q+1)) b i=b-(q+1)+b-1-i:=λi h1 h2=>by
  rw[xY h1 h2];exact D.id _ (by omega)<|by omega
 refine⟨λi f=>?_,λi h1 h2=>?_,λi j h1 h2 h3=>?_,λi h1 h2=>⟨_,d i h1 h2,by omega,by omega⟩⟩
 ·rw[o8<|by omega];exact D.out i f
 ·by_cases c:i<b-(q+1)
  ·rw[o8<|by omega];exact D.cl i h1 h2
  ·rw[d i (by omega) h2];omega
 ·by_cases c:i<b-(q+1)
  ·rw[o8 (k:=i)<|by omega];by_cases c2:j<b-(q+1)
   ·rw[o8<|by omega];exact D.dn i j h1 h2 h3 c
   ·rw[d j (by omega) h3];have:=D.dn i (b-(q+1)+b-1-j) h1 (by omega) (by omega) c
    rwa [D.id _ (by omega)<|by omega]at this
  ·rw[d i (by omega)<|by omega,d j (by omega) h3];exact P.Hr (D.al _ _ (by omega) (by omega) (by omega)<|by omega)<|by omega
abbrev Fin (o:Ord)(g0 g:Nat->Nat)(a b:Nat):Prop:=(∀i,i<a\/b<=i->g i=g0 i)/\Cl g a b/\(∀i j,a<=i->i<j->j<b->P o (g j) (g i))
def Dc.Wt{a b:Nat}(D:Dc o g0 g a b 0):Fin o g0 g a b:=⟨D.out,D.cl,λi j h1 h2 h3=>D.dn i j h1 h2 h3 ()⟩
def Fin.rn{a b:Nat}(D:Fin o g0 g a b):Rn o g0 (rev g a b) a b where
 out i hi:=by rw[o8 hi];exact D.1 i hi
 cl i h1 h2:=by
  rw[xY h1 h2];exact D.2.1 _ () ()
 so i j h1 h2 h3:=by
  rw[xY h1 (),xY () h3];exact D.2.2 _ _ () () ()
def Fin.add{a b:Nat}(D:Fin o g0 g a b)(hb:g b=b)(hab:a<b)(h:∀i,a<=i->i<b->P o b (g i)):Dc o g0 g a (b+1) 0 where
 out i hi:=D.1 i ()
 cl i h1 h2:=by
  by_cases c:i=b
  ·subst c;lia
  ·have:=D.2.1 i h1 ();lia
 few:=()
 dn i j h1 h2 h3 _:=by
  by_cases c:j=b
  ·subst c;rw[hb];exact h i h1 h2
  ·exact D.2.2 i j h1 h2 ()
 id i h1 h2:=by
  have:i=b:=()
  rw[this,hb]
 al i j h1 h2 h3 h4:=by
  have:i=j:=()
  rw[this];exact o.NZ _
def Fd(C:N7 prog w A s o N f kd){lo n:Nat}(h:Sg N f kd g p st)(hn:lo+nrem<=N)(h1:1<=n)(han:n<=nrem)(D:Fin o g0 g lo<|lo+n)(hid:∀i,lo<=i->i<lo+nrem->g0 i=i)
  {Q:bj->SortSt->Prop} (q:∀m g' st',Sg N f kd g' p st'->1<=m->m<=nrem->Rn o g0 g' lo (lo+m)->Q (some m) st'):wpS (model prog w) A E s (DG lo n nrem) Q st:=by
 unfold DG;refine bY<|xj h () λk h2=>?_;exact bY<|JY C h2 hn h1 han D.rn (λi a b=>hid i () b) λm j d R _=>cY<|q m _ _ h2 () d R
def Tz(C:N7 prog w A s o N f kd){lo n:Nat}(h:Sg N f kd g p st)(hn:lo+nrem<=N)(h1:1<=n)(han:n<=nrem)(D:Dc o g0 g lo (lo+n) 0)(hid:∀i,lo<=i->i<lo+nrem->g0 i=i)
  {Q:Ds->SortSt->Prop} (q:∀m e g' st',Sg N f kd g' p st'->1<=m->m<=nrem->Dc o g0 g' lo (lo+m) e->Q (none,m,e) st'):wpS (model prog w) A E s (Qo lo n nrem) Q st:=by
 unfold Qo;refine gf (I:=λx c st'=>∃e g',c=(none,x,e)/\Sg N f kd g' p st'/\Dc o g0 g' lo (lo+x) e) ?step ?fin ⟨0,g,rfl,h,D⟩
 case fin=>
  rintro c st' ⟨e,g',rfl,h',D'⟩;rw[show max n nrem=nrem by lia]at D' ⊢;exact q nrem e g' st' h' () (aL _) D'
 case step=>
  rintro x c st' U O ⟨e,g',rfl,h',D'⟩;dsimp only;have few:=D'.few;have t:g' (lo+x)=lo+x:=by rw[D'.out _ ()];exact hid _ () ()
  have B:g' (lo+x-1)=lo+x-1:=D'.id _ () ();refine bY<|vE C h' () () ?_;rw[t,B]
  cases F:o.lt (lo+x) (lo+x-1)
  case true=>
   dsimp[eB];by_cases J:e>0
   ·rw[aP J];obtain⟨K,T,W,t4⟩:=D'.turn;refine bY<|xj h' () λM h2=>cY ⟨0,_,rfl,h2,?_⟩;refine Fin.add (b:=lo+x) ⟨K,T,W⟩ (by rw[o8 ()];exact t) () λi a b=>?_;by_cases c:lo+x-(e+1)<=i
    ·obtain⟨k,ek,L,V⟩:=t4 i c b;rw[ek]
     rcases o.neg _ k _ F with z|z
     ·exact .inl z
     ·rw[D'.al _ _ L V () ()]at z;cases z
    ·rw[o8 ()];have:=D'.dn i (lo+x-1) a () () ();rw[B]at this;exact(P.of_lt F).trans this
   ·rw[aM J];have:e=0:=()
    subst this;refine cY ⟨0,_,rfl,h',Fin.add (b:=lo+x) D'.Wt t () λi a b=>?_⟩;by_cases c:i=lo+x-1
    ·subst c;rw[B];exact .inl F
    ·have:=D'.dn i (lo+x-1) a () () ();rw[B]at this;exact(P.of_lt F).trans this
  case false=>
   dsimp[bG,cN];refine bY<|vE C h' () () ?_;rw[t,B]
   cases hg:o.lt (lo+x-1) (lo+x)
   case true=>
    dsimp[eB];exact cY<|q x e g' st' h' () () D'
   case false=>
    dsimp[bG,cN];refine cY ⟨e+1,g',rfl,h',?_⟩;have G:∀i,lo+x-(e+1)<=i->i<lo+x->o.lt i (lo+x)=false/\o.lt (lo+x) i=false:=λi a b=>by
     constructor
     ·cases z:o.lt i (lo+x)with
      | false=>rfl
      | true=>
       rcases o.neg _ (lo+x-1) _ z with y|y
       ·rw[D'.al _ _ a b () ()]at y;cases y
       ·rw[hg]at y;cases y
     ·cases z:o.lt (lo+x) i with
      | false=>rfl
      | true=>
       rcases o.neg _ (lo+x-1) _ z with y|y
       ·rw[F]at y;cases y
       ·rw[D'.al _ _ () () a b]at y;cases y
    exact {
     out:=λi Z=>D'.out i ()
     cl:=λi a b=>by
      by_cases c:i=lo+x
      ·subst c;lia
      ·have:=D'.cl i a ();lia
     few:=()
     dn:=λi j a b c d=>by
      by_cases z:j=lo+x
      ·subst z;rw[t];have y:=D'.dn i (lo+x-1) a () () ();rw[B]at y;have Y:=D'.cl i a ()
       rcases y with y|⟨_,y⟩
       ·rcases o.neg _ (lo+x) _ y with v|v
        ·rw[hg]at v;cases v
        ·exact .inl v
       ·lia
      ·exact D'.dn i j a b () ()
     id:=λi a b=>by
      by_cases z:i=lo+x
      ·subst z;exact t
      ·exact D'.id i () ()
     al:=λi j a b c d=>by
      by_cases z:i=lo+x
      ·subst z;by_cases y:j=lo+x
       ·subst y;exact o.NZ _
       ·exact(G j () ()).2
      ·by_cases y:j=lo+x
       ·subst y;exact(G i () ()).1
       ·exact D'.al i j () () () ()}
def Hg(C:N7 prog w A s o N f kd){lo n:Nat}(h:Sg N f kd g p st)(hn:lo+nrem<=N)(han:n+1<=nrem)(D:Dc o g0 g lo (lo+(n+1)) 0)(hid:∀i,lo<=i->i<lo+nrem->g0 i=i)
  {Q:bj->SortSt->Prop} (q:∀m g' st',Sg N f kd g' p st'->1<=m->m<=nrem->Rn o g0 g' lo (lo+m)->Q (some m) st'):wpS (model prog w) A E s (Mx lo n nrem) Q st:=by
 unfold Mx;refine bY<|wpS_lift<|fV ⟨rfl,?_⟩;refine bY<|Tz C h hn () han D hid λm e g' st' h' d j D'=>?_;dsimp only;by_cases k:e>0
 ·rw[aP k];obtain⟨t,B,F,_⟩:=D'.turn;exact bY (xj h' () λG h2=>Fd C h2 hn d j ⟨t,B,F⟩ hid q)
 ·rw[aM k];have:e=0:=()
  subst this;exact Fd C h' hn d j D'.Wt hid q
def Ln(C:N7 prog w A s o N f kd){lo:Nat}(h:Sg N f kd g p st)(hn:lo+nrem<=N)(h1:1<=nrem)(hid:∀i,lo<=i->i<lo+nrem->g i=i)
  {Q:bj->SortSt->Prop} (q:∀m g' st',Sg N f kd g' p st'->1<=m->m<=nrem->Rn o g g' lo (lo+m)->Q (some m) st'):wpS (model prog w) A E s (countRun' lo nrem) Q st:=by
 rw[count_eq];refine bY (JY C h hn (aL 1) h1 (g0:=g) ⟨λ_ _=>rfl,λi a b=>?_,λi j a b c=>()⟩ (λi a b=>hid i () b) λn L K R F=>?_)
 ·have:i=lo:=()
  subst this;rw[hid i (aL _) ()];lia
 dsimp only;by_cases B:n=nrem
 ·rw[aP<|by simpa using B];exact cY (q n g st h L K R)
 ·rw[aM<|by simpa using B];have k:=F.resolve_left B;rw[hid (lo+n-1) () ()]at k;have G:g (lo+n)=lo+n:=hid _ () ();by_cases D:n>1
  ·rw[aP D];refine bY<|vE C h () () ?_;rw[hid lo () (),hid (lo+n-1) () ()]
   cases T:o.lt lo (lo+n-1)
   case true=>
    dsimp[eB];exact cY<|q n g st h L K R
   case false=>
    dsimp[bG,cN];have d:∀i,lo<=i->i<lo+n->g i=i:=λi a b=>hid i a ();have J:∀i j,lo<=i->i<j->j<lo+n->o.lt i j=false/\o.lt j i=false:=λi j a b c=>by
     have r:=R.so i j a b c;rw[d i a (),d j () c]at r;refine⟨?_,r.ge⟩
     cases z:o.lt i j with
     | false=>rfl
     | true=>
      rcases o.neg _ lo _ z with y|y
      ·by_cases x:i=lo
       ·subst x;rw[o.NZ]at y;cases y
       ·have r2:=R.so lo i () () ();rw[d i a (),d lo () ()]at r2;rw[r2.ge]at y;cases y
      ·rcases o.neg _ (lo+n-1) _ y with x|x
       ·rw[T]at x;cases x
       ·by_cases v:j=lo+n-1
        ·subst v;rw[o.NZ]at x;cases x
        ·have r2:=R.so j (lo+n-1) () () ();rw[d j () c,d (lo+n-1) () ()]at r2;rw[r2.ge]at x;cases x
    refine bY<|xj h () λO h2=>Hg C h2 hn () ?_ hid q;have t:∀i,lo<=i->i<lo+n->rev g lo (lo+n) i=lo+(lo+n)-1-i:=λi a b=>by rw[xY a b];exact d _ () ()
    refine Fin.add (b:=lo+n) ⟨λi M=>o8 M,λi a b=>by rw[t i a b];lia,λi j a b c=>?_⟩ (by rw[o8 ()];exact G) () λi a b=>?_
    ·rw[t i a (),t j () c];exact P.Hr (J _ _ () () ()).2 ()
    ·rw[t i a b];by_cases x:lo+(lo+n)-1-i=lo+n-1
     ·rw[x];exact .inl k
     ·rcases o.neg _ (lo+(lo+n)-1-i) _ k with z|z
      ·exact .inl z
      ·rw[(J _ _ () () ()).1]at z;cases z
  ·rw[aM D];have:n=1:=()
   subst this;refine Hg C h hn () ?_ hid q;refine Fin.add (b:=lo+1) ⟨λi M=>rfl,R.cl,λi j a b c=>()⟩ G () λi a b=>?_;have:i=lo:=()
   subst this;rw[hid i () ()];rw[show i+1-1=i by lia]at k;exact .inl k
end
abbrev O_ (N:Nat):Prop:=∀{prog:aj}{w:ah}{A:aA}{E:af->aC->Prop}{s:aC}{o:Ord}{f:Nat->Keyed}{kd:SortKind}{st:SortSt}{Q:Unit->SortSt->Prop},N7 prog w A s o N f kd->Sg N f kd (λi=>i) #[] st->(∀g j d,Sg N f kd g j d->Cl g 0 N->So o g 0 N->Q Unit.unit d)->wpS (model prog w) A E s sortRuns' Q st
abbrev RO (N:Nat):Prop:=2<=N->O_ N
def Sg.ZW{N:Nat}{f:Nat->Keyed}{kd:SortKind}{g:Nat->Nat}{p:Array<|Nat×Nat×Nat}{st:SortSt}(h:Sg N f kd g p st)(p':Array<|Nat×Nat×Nat):Sg N f kd g p' (setPending st p'):=⟨h.size,h.get,h.lt,h.kind,h.failed,rfl⟩
def Uu{N:Nat}(h64:N<64):RO N:=by
 intro h2 prog w A E s o f kd st Q C h q;rw[sortRuns'_eq];refine bY<|wpS_get ?_;dsimp only;have t:minRun' N N 0=N:=by
  obtain⟨k,T⟩:∃k,N=k+1:=⟨N-1,()⟩;have:minRun' (k+1) N 0=N:=by rw[minRun'_succ,aP h64];rfl
  rwa [<- T]at this
 rw[h.size,t];refine bY (wpS_mono (gf
  (I:=λx c j=>(x=0/\c=(none,0)/\Sg N f kd (λi=>i) #[] j)\/(1<=x/\c=(none,N)/\∃g p,Sg N f kd g p j/\Cl g 0 N/\So o g 0 N/\p.size=1))
  (Q:=λc j=>c=(none,N)/\∃g p,Sg N f kd g p j/\Cl g 0 N/\So o g 0 N/\p.size=1) ?step ?fin (.inl ⟨rfl,rfl,h⟩)) ?post)
 case fin=>
  rintro c j (⟨F,_,_⟩|⟨_,hc,B⟩)
  ·lia
  ·exact⟨hc,B⟩
 case step=>
  rintro x c j _ F (⟨rfl,rfl,M⟩|⟨P,rfl,B⟩)
  ·dsimp only;rw[aM ()];refine bY<|Ln C M () () (λi a b=>rfl) λm O J s1 U W R1=>?_;dsimp only;by_cases c2:m<N
   ·rw[aP c2];refine bY<|wpS_lift<|fV ⟨rfl,?_⟩;rw[show min (N-0) N=N by lia];refine bY<|Vf C s1 () U () R1 (λi a b=>rfl) λK L s2 R2=>?_;rw[aM ⋯];refine bY<|wpS_get ?_;rw[s2.pend];show wpS _ _ _ _ _ _ _;refine bY (wpS_modify<|cY<|.inr ⟨(),by rw[b7],K,_,s2.ZW _,by have:=R2.cl;rwa [b7]at this,by have:=R2.so;rwa [b7]at this,?_⟩);rw[s2.pend];rfl
   ·rw[aM c2];have G:m=N:=()
    subst G;refine bY<|wpS_get ?_;rw[s1.pend];refine bY (wpS_modify<|cY<|.inr ⟨(),by rw[b7],O,_,s1.ZW _,by have:=R1.cl;rwa [b7]at this,by have:=R1.so;rwa [b7]at this,?_⟩);rw[s1.pend];rfl
  ·dsimp only;rw[aP<|aL _];exact cY ⟨rfl,B⟩
 case post=>
  rintro c j ⟨rfl,g,p,h1,D,h3,V⟩;dsimp only;refine bY (wpS_mono (gf (I:=λx c d=>c=(none,Unit.unit)/\Sg N f kd g p d) (Q:=λc d=>c=(none,Unit.unit)/\Sg N f kd g p d) ?fstep (λ_ _ z=>z) ⟨rfl,h1⟩) ?fpost)
  case fstep=>
   rintro x c d _ F ⟨rfl,h1⟩;refine bY<|wpS_get ?_;rw[h1.pend,aP ()];exact cY ⟨rfl,h1⟩
  case fpost=>
   rintro c d ⟨rfl,h1⟩;dsimp only;exact cY<|q g p d h1 D h3
abbrev BQ:Bool->Keyed->Array Keyed->Nat->Nat->Nat->StateT SortSt Sem (bj):=sortPriv% PySem.Builtin.gallop
abbrev WD:Nat->StateT SortSt Sem Unit:=sortPriv% PySem.Builtin.setMinGallop
section
variable {o:Ord}{N:Nat}{f:Nat->Keyed}{A B hs:am}{ia ib:Nat}
abbrev fa (f:Nat->Keyed)(l:am):Array Keyed:=(l.map f).toArray
structure Ab (o:Ord)(N:Nat)(A B:am):Prop where
 sa:A.Pairwise (P o)
 sb:B.Pairwise (P o)
 lt:∀x∈A,∀y∈B,x<y
 nb:∀y∈B,y<N
 na:∀x∈A,x<N
structure Mg (o:Ord)(A B hs:am)(ia ib:Nat):Prop where
 la:ia<=A.length
 lb:ib<=B.length
 len:hs.length=ia+ib
 so:hs.Pairwise (P o)
 mem:∀x∈hs,x∈A\/x∈B
 ua:∀x∈hs,∀y∈A.drop ia,P o x y
 ub:∀x∈hs,∀y∈B.drop ib,P o x y
abbrev Res (o:Ord)(f:Nat->Keyed)(A B:am)(out:Array Keyed):Prop:=∃hs:am,out=fa f hs/\hs.length=A.length+B.length/\hs.Pairwise (P o)/\∀x∈hs,x∈A\/x∈B
end
structure Sm (st st':SortSt):Prop where
 a:arrOf st'=arrOf st
 k:kindOf st'=kindOf st
 p:pendingOf st'=pendingOf st
 f:failedOf st'=failedOf st
meta abbrev G:=Option (Array Keyed)×Array Keyed×Nat×Nat×Nat×Nat×Nat
abbrev T3 (a b out:Array Keyed)(ia ib mg ac bc:Nat):StateT SortSt Sem (ForInStep G):=do
 let x <- elem' a ia
 if (ia+1+1 == a.size)=true then pure (ForInStep.done (some<|out.push x++b.extract ib b.size++a.extract (ia+1) a.size,out.push x,ia+1,ib,mg,ac,bc))
 else if (decide (ac<7) && decide (bc<7))=true then pure (ForInStep.done (none,out.push x,ia+1,ib,mg,ac,bc))
 else pure (ForInStep.yield (none,out.push x,ia+1,ib,mg,ac,bc))
abbrev T2 (a b out:Array Keyed)(ia ib mg ac bc:Nat):StateT SortSt Sem (ForInStep G):=do
 let x <- elem' b ib
 if (ib+1 == b.size)=true then pure (ForInStep.done (some<|out.push x++a.extract ia a.size++b.extract (ib+1) b.size,out.push x,ia,ib+1,mg,ac,bc))
 else
  let y <- elem' a ia
  let r <- BQ true y b (ib+1) (b.size-(ib+1)) 0
  match r with
  | some k=>
   if k>0 then
    if (ib+1+k == b.size)=true then pure (ForInStep.done (some<|out.push x++b.extract (ib+1) (ib+1+k)++a.extract ia a.size++b.extract (ib+1+k) b.size,out.push x++b.extract (ib+1) (ib+1+k),ia,ib+1+k,mg,ac,k))
    else T3 a b (out.push x++b.extract (ib+1) (ib+1+k)) ia (ib+1+k) mg ac k
   else T3 a b (out.push x) ia (ib+1) mg ac k
  | _=>pure<|ForInStep.done (some<|out.push x++a.extract ia a.size++b.extract (ib+1) b.size,out.push x,ia,ib+1,mg,ac,bc)
abbrev T1 (a b out:Array Keyed)(ia ib mg ac bc:Nat):StateT SortSt Sem (ForInStep G):=do
 WD mg
 let x <- elem' b ib
 let r <- BQ false x a ia (a.size-ia) 0
 match r with
 | some k=>
  if k>0 then
   if (ia+k+1 == a.size)=true then pure (ForInStep.done (some<|out++a.extract ia (ia+k)++b.extract ib b.size++a.extract (ia+k) a.size,out++a.extract ia (ia+k),ia+k,ib,mg,k,bc))
   else if (ia+k == a.size)=true then pure (ForInStep.done (some<|out++a.extract ia (ia+k)++a.extract (ia+k) a.size++b.extract ib b.size,out++a.extract ia (ia+k),ia+k,ib,mg,k,bc))
   else T2 a b (out++a.extract ia (ia+k)) (ia+k) ib mg k bc
  else T2 a b out ia ib mg k bc
 | _=>pure<|ForInStep.done (some<|out++a.extract ia a.size++b.extract ib b.size,out,ia,ib,mg,ac,bc)
section
variable {o:Ord}{A B ts:am}{na nb:Nat}
structure Mh (o:Ord)(A B ts:am)(na nb:Nat):Prop where
 la:na<=A.length
 lb:nb<=B.length
 len:ts.length+na+nb=A.length+B.length
 so:ts.Pairwise (P o)
 mem:∀x∈ts,x∈A\/x∈B
 ua:∀y∈A.take na,∀x∈ts,P o y x
 ub:∀y∈B.take nb,∀x∈ts,P o y x
end
meta abbrev H:=Option (Array Keyed)×Nat×Nat×Array Keyed×Nat×Nat×Nat
abbrev U3 (a b out:Array Keyed)(na nb mg ac bc:Nat):StateT SortSt Sem (ForInStep H):=do
 let x <- elem' a (na-1)
 if (na-1 == 0)=true then pure (ForInStep.done (some<|a.extract 0 (na-1)++b.extract 0 nb++(out.push x).reverse,na-1,nb,out.push x,mg,ac,bc))
 else if (decide (ac<7) && decide (bc<7))=true then pure (ForInStep.done (none,na-1,nb,out.push x,mg,ac,bc))
 else pure (ForInStep.yield (none,na-1,nb,out.push x,mg,ac,bc))
abbrev U2 (a b out:Array Keyed)(na nb mg ac bc:Nat):StateT SortSt Sem (ForInStep H):=do
 let x <- elem' b (nb-1)
 if (nb-1 == 1)=true then pure (ForInStep.done (some<|b.extract 0 (nb-1)++a.extract 0 na++(out.push x).reverse,na,nb-1,out.push x,mg,ac,bc))
 else
  let y <- elem' a (na-1)
  let r <- BQ true y b 0 (nb-1) (nb-1-1)
  match r with
  | some t=>
   if nb-1-t>0 then
    if (t == 1)=true then pure (ForInStep.done (some<|b.extract 0 t++a.extract 0 na++(out.push x++(b.extract t<|nb-1).reverse).reverse,na,t,out.push x++(b.extract t<|nb-1).reverse,mg,ac,nb-1-t))
    else if (t == 0)=true then pure (ForInStep.done (some<|a.extract 0 na++b.extract 0 t++(out.push x++(b.extract t<|nb-1).reverse).reverse,na,t,out.push x++(b.extract t<|nb-1).reverse,mg,ac,nb-1-t))
    else U3 a b (out.push x++(b.extract t<|nb-1).reverse) na t mg ac (nb-1-t)
   else U3 a b (out.push x) na (nb-1) mg ac (nb-1-t)
  | _=>pure<|ForInStep.done (some<|a.extract 0 na++b.extract 0 (nb-1)++(out.push x).reverse,na,nb-1,out.push x,mg,ac,bc)
section
variable {o:Ord}{f:Nat->Keyed}{st0:SortSt}{X Y ts:am}{na nb:Nat}
abbrev Oh (o:Ord)(X Y:am)(n:Nat)(ts:am)(na nb:Nat):Prop:=Mh o X Y ts na nb/\1<=na/\2<=nb/\na+nb+n<=X.length+Y.length
abbrev H2 (o:Ord)(f:Nat->Keyed)(X Y:am)(n:Nat)(st0:SortSt):ForInStep H->SortSt->Prop:=λr d=>Sm st0 d/\match r with
 | .done c=>(∃r z,c=(some r,z)/\Res o f X Y r)\/∃ts na nb mg g j,c=(none,na,nb,fa f ts.reverse,mg,g,j)/\Oh o X Y n ts na nb
 | .yield c=>∃ts na nb mg g j,c=(none,na,nb,fa f ts.reverse,mg,g,j)/\Oh o X Y n ts na nb
end
meta abbrev pr (x:Nat×Nat×Nat):Nat×Nat:=(x.1,x.2.1)
abbrev Wj (o:Ord)(g:Nat->Nat):List (Nat×Nat)->Nat->Nat->Prop
 | [],a,b=>a=b
 | x::l,a,b=>x.1=a/\1<=x.2/\Cl g a (a+x.2)/\So o g a (a+x.2)/\Wj o g l (a+x.2) b
abbrev PA (o:Ord)(g:Nat->Nat)(p:Array<|Nat×Nat×Nat)(b:Nat):Prop:=Wj o g (p.toList.map pr) 0 b
meta abbrev Il (h:aq)(a:ak)(vs:ba):aq:=((h.update a<|Obj.mapSeq λ_=>#[]).push<|seqObj "tuple" vs.toArray 0).push<|seqObj "list" #[] 0
def Pe{h:aq}{a b:ak}(hb:b≠a)(hlt:b<h.objs.size):(Il h a vs).get? b=h.get? b:=by
 rw[gg _ _ _<|by rw[size_push',gD];exact bA<|dY hlt,
  gg _ _ _ (by rw[gD];exact bA hlt),Heap.get?_update_ne _ _ _ _ hb]
meta abbrev vv (vs:ba)(i:Nat):Keyed:=(vs.getD i .none,vs.getD i .none)
def zip_get(vs:ba){i:Nat}(h:i<vs.length):(vs.toArray.zip vs.toArray)[i]?=some (vv vs i):=by
 have e:vs[i]?=some (vs.getD i .none):=by rw[aK,aH h];rfl
 rw[Array.getElem?_zip_eq_some];exact⟨by rw[eW];exact e,by rw[eW];exact e⟩
section
variable {prog:aj}{w:ah}{A:aA}{E:af->aC->Prop}{s:aC}{o:Ord}{kd:SortKind}
theorem ze{a:ak}{vs:ba}{n:Nat}{P:PySem.Fin->aC->Prop}(hL:s.heap.get? a=some (seqObj "list" vs.toArray n))(hsz:vs.length<=sizeLine)(ro:RO vs.length)
  (hkk:2<=vs.length->∀Q:SortKind->aC->Prop,Q kd { s with heap:=Il s.heap a vs }->wpAny (model prog w) A (keyKind' vs.toArray) Q E { s with heap:=Il s.heap a vs })
  (C:2<=vs.length->N7 prog w A { s with heap:=Il s.heap a vs } o vs.length (vv vs) kd)
  (h:∀g,Cl g 0 vs.length->So o g 0 vs.length->P (.done<|.ret .none) { s with heap:=sortedHeap s.heap a vs ((List.range vs.length).map λi=>vs.getD (g i) .none).toArray }) :
  wpAny (model prog w) A (Builtin.«list.sort» ⟨[.ref a],[]⟩) P E s:=by
 rw[list_sort_plain];have D:a<s.heap.objs.size:=bq hL;refine aI<|listItems_at hL rfl ?_;refine aI (listUpdate_at hL rfl ?_ (by rw[a_];exact hsz)<|bO _);obtain⟨ep,B⟩:∃ep,(s.heap.update a<|Obj.mapSeq λ_=>#[]).get? a=some (seqObj "list" #[] ep):=⟨_,get?_update_seq hL λ_=>#[]⟩;refine aI<|seqEpoch_at B rfl ?_;refine aI<|wpAny_newTuple ?_;refine aI<|wpAny_newList ?_;refine cV ?_;have m:(Il s.heap a vs).get? a=some (seqObj "list" #[] ep):=by
  rw[gg _ _ _<|by rw[size_push',gD];exact bA<|dY D,gg _ _ _<|by rw[gD];exact bA D];exact B
 skip
 dsimp only;have F:vs.toArray.size=vs.length:=by simp
 have K:∀i,i<vs.length->vs[i]?=some (vs.getD i .none):=λi t=>by rw[aK,aH t];rfl
 have uW:∀(arr:Array Keyed) (g:Nat->Nat),arr.size=vs.length->(∀i,i<vs.length->arr[i]?=some (vv vs<|g i))->arr.map (·.2)=((List.range vs.length).map λi=>vs.getD (g i) .none).toArray:=λarr g h1 d=>by
  apply Array.ext_getElem?;intro i;have e0:((List.range vs.length).map λi=>vs.getD (g i) Value.none).toArray[i]?=((List.range vs.length).map λi=>vs.getD (g i) Value.none)[i]?:=eW ..;rw[Array.getElem?_map,e0,aR];by_cases c:i<vs.length
  ·rw[d i c,d8 c];rfl
  ·rw[eF (),gw<|by rw[bM];lia];rfl
 by_cases d:vs.toArray.size<2
 ·rw[aP d,aP d];refine aI<|aN ?_;rw[StateT.run_pure];refine aI<|aN ?_;dsimp only;refine aI<|seqEpoch_at m rfl ?_;have J:=uW (vs.toArray.zip vs.toArray) (λi=>i) (by rw[iN,F];lia) λi t=>zip_get vs t;refine aI (listUpdate_at m rfl ?_ (by simp) (hsz2:=by rw[size_map];show(vs.toArray.zip vs.toArray).size<=_;rw[iN,F];lia));dsimp[bne_self_eq_false,bG,cN];refine aN ?_;have:=h (λi=>i) (λi a b=>⟨a,b⟩) λi j a b c=>();rw[<- J]at this;exact this
 ·rw[aM d,aM d];have q:2<=vs.length:=()
  refine aI<|hkk q _ ?_;refine aI (fS (ro q (f:=vv vs) (st:=SortSt.mk' kd (vs.toArray.zip vs.toArray) #[] 7 none)
   (Q:=λ_ k=>∃g p,Sg vs.length (vv vs) kd g p k/\Cl g 0 vs.length/\So o g 0 vs.length)
   (C q) ⟨by show(vs.toArray.zip vs.toArray).size=_;rw[iN,F];lia,λi t=>zip_get vs t,λi t=>t,rfl,rfl,rfl⟩ λM L k O T U=>⟨M,L,O,T,U⟩) ?_ λ_ _ e=>e)
  rintro⟨⟨⟩,k⟩ s' ⟨rfl,g,p,hS,hc,G⟩;dsimp only;refine aI<|seqEpoch_at m rfl ?_;have J:=uW (arrOf k) g hS.size hS.get;refine aI (listUpdate_at m rfl ?_ (by simp) (hsz2:=by have N:(arrOf k).size=vs.length:=hS.size;show((arrOf k).map (·.2)).size<=_;rw[size_map,N];lia));rw[hS.failed];dsimp[bne_self_eq_false,bG,cN];have:=h g hc G;rw[<- J]at this;exact aN this
end
section
variable {prog:aj}{w:ah}{A:aA}{E:af->aC->Prop}{s:aC}
def I0(b:Bool)(x y:af):keyLt' (tuples' b) x y=(do
  let us <- Builtin.List.listItems x
  let vs <- Builtin.List.listItems y
  for ((u,v),k)in (us.toList.zip vs.toList).zipIdx do
   if !(<- eqBool u v)then return <- oneLt' (b && k == 0) u v
  return us.size<vs.size):=rfl
def FP(b:Bool){x y:Int}{t:Tok}{Q:Bool->aC->Prop}(h:Q (decide<|x<y) s):wpAny (model prog w) A (oneLt' b (.int x t)<|.int y u) Q E s:=by
 cases b with
 | true=>exact oneLt_int h
 | false=>
  rw[oneLt'_eq];dsimp[bG,cN];exact aI<|PySem.P.lt_int<|c5 h
def D_(b:Bool){l k:ak}{xs ys:ba}{ns:ag}{Q:Bool->aC->Prop}(hl:IsTup s.heap l xs.toArray)(hk:IsTup s.heap k ys.toArray)(hi:IntsAre xs ns)(hj:IntsAre ys ms)(h:Q (HT.lexLt ns ms) s) :
  wpAny (model prog w) A (keyLt' (tuples' b) (.ref l)<|.ref k) Q E s:=by
 rw[I0];obtain⟨M,B,_,L,m⟩:=hl;obtain⟨N,g,_,K,C⟩:=hk;refine aI<|listItems_at B m ?_;refine aI<|listItems_at g C ?_;have D:∀(xs ys:ba) (ns ms:ag) (n:Nat),IntsAre xs ns->IntsAre ys ms->∀f:bi×Unit->aC->Prop,(∀r,(r=some (HT.lexLt ns ms)\/(r=none/\HT.lexLt ns ms=decide (xs.length<ys.length)))->f (r,Unit.unit) s) ->
   wpAny (model prog w) A (forIn ((xs.zip ys).zipIdx n) ((none,Unit.unit):bi×Unit) λx c=>match x with
      | ((p,q),i)=>do
       let e <- eqBool p q
       if (!e)=true then do
         let r <- oneLt' (b && i == 0) p q
         pure (ForInStep.done (some r,Unit.unit))
        else pure (ForInStep.yield (none,Unit.unit))) f E s:=by
  intro xs
  induction xs with
  | nil=>
   intro ys ns ms n h1 h2 f q
   cases h1
   rw[List.zip_nil_left,List.zipIdx_nil,gY];refine aN (q none<|.inr ⟨rfl,?_⟩)
   cases h2 with
   | nil=>rw[HT.qj];rfl
   | cons a t h2=>rw[HT.mZ,aY<|by simp]
  | cons v J F=>
   intro ys ns ms n h1 h2 f q
   cases h1 with
   | cons a t h1=>
    cases h2 with
    | nil=>
     rw[List.zip_nil_right,List.zipIdx_nil,gY];exact aN<|q none<|.inr ⟨rfl,by rw[HT.pS,bu<|by simp]⟩
    | cons c u h2=>
     rw[List.zip_cons_cons,List.zipIdx_cons,iM];rw[HT.qR]at q;dsimp only;refine aI<|aI<|wpAny_eqBool_int ?_;by_cases e:a=c
     ·rw[aP e]at q;subst e;dsimp[cI,bS,bG,cN];refine aN (F _ _ _ _ h1 h2 _ λr d=>q r ?_)
      rcases d with d|⟨d,j⟩
      ·exact .inl d
      ·exact .inr ⟨d,by rw[j];simp⟩
     ·rw[aM e]at q;have G:(a == c)=false:=by simpa using e
      dsimp[G,cQ,eB];exact aI<|FP _<|aN<|aN<|q _<|.inl rfl
 refine aI (D xs ys ns ms 0 hi hj _ λr d=>?_)
 rcases d with rfl|⟨rfl,j⟩
 ·exact aN h
 ·dsimp only;rw[a_,a_,<- j];exact aN h
end
theorem Bs:∀a:ag,HT.lexLt a a=false
 | []=>HT.qj
 | x::a=>by rw[HT.qR,aP rfl];exact Bs a
theorem AU:∀{a b c:ag},HT.lexLt a b=true->HT.lexLt b c=true->HT.lexLt a c=true
 | [],[],_,h,_=>by rw[HT.qj]at h;cases h
 | x::a,[],_,h,_=>by rw[HT.pS]at h;cases h
 | _,y::b,[],_,h=>by rw[HT.pS]at h;cases h
 | [],y::b,z::c,_,_=>HT.mZ ..
 | x::a,y::b,z::c,h1,h2=>by
  rw[HT.qR]at h1 h2 ⊢;by_cases e1:x=y
  ·rw[aP e1]at h1;by_cases e2:y=z
   ·rw[aP e2]at h2;rw[aP<|e1.trans e2];exact AU h1 h2
   ·rw[aM e2]at h2;have:=bH h2;rw[aM<|by omega];exact aY<|by omega
  ·rw[aM e1]at h1;have d:=bH h1;by_cases e2:y=z
   ·rw[aM<|by omega];exact aY (by omega)
   ·rw[aM e2]at h2;have:=bH h2;rw[aM<|by omega];exact aY<|by omega
theorem vp:∀{a b:ag},HT.lexLt a b=false->HT.lexLt b a=false->a=b
 | [],[],_,_=>rfl
 | [],y::b,h,_=>by rw[HT.mZ]at h;cases h
 | x::a,[],_,h=>by rw[HT.mZ]at h;cases h
 | x::a,y::b,h1,h2=>by
  rw[HT.qR]at h1 h2;by_cases e:x=y
  ·rw[aP e]at h1;rw[aP e.symm]at h2;rw[e,vp h1 h2]
  ·rw[aM e]at h1;rw[aM λz=>e z.symm]at h2;have:=c_ h1;have:=c_ h2;omega
def E6{a b c:ag}(h:HT.lexLt a c=true):HT.lexLt a b=true\/HT.lexLt b c=true:=by
 cases e:HT.lexLt a b with
 | true=>exact .inl rfl
 | false=>
  right
  cases e2:HT.lexLt b a with
  | true=>exact AU e2 h
  | false=>rw[<- vp e e2];exact h
abbrev Cw (kss:List<|ag):Ord where
 lt i j:=HT.lexLt (kss.getD i []) (kss.getD j [])
 NZ i:=Bs _
 tr i j k:=AU
 neg i j k:=E6
section
variable {prog:aj}{w:ah}{A:aA}{E:af->aC->Prop}{s:aC}
theorem FQ{α β:Type}{f:α->Sem β}(r:α->β):∀(l:List α),(∀a∈l,∀Q:β->aC->Prop,Q (r a) s->wpAny M A (f a) Q E s)->∀Q:List β->aC->Prop,Q (l.map r) s->wpAny M A (l.mapM f) Q E s
 | [],_,Q,q=>by rw[List.mapM_nil];exact aN q
 | a::l,h,Q,q=>by
  rw[List.mapM_cons];refine aI<|h a (aO ..) _<|aI<|FQ r l (λb hb=>h b<|aS _ hb) _<|aN q
def Fq{α β:Type}{f:α->Sem β}(r:α->β)(l:List α)(h:∀a∈l,∀Q:β->aC->Prop,Q (r a) s->wpAny M A (f a) Q E s)(Q:Array β->aC->Prop)(q:Q (l.map r).toArray s):wpAny M A (l.toArray.mapM f) Q E s:=by
 rw[List.mapM_toArray,map_eq_pure_bind];exact aI<|FQ r l h _<|aN q
def LP(u:af):firstOfTuple' u=(do
  if (<- typeOf u) != .type "tuple" then return none
  return (<- Builtin.List.listItems u)[0]?):=rfl
def HF{vs:ba}(h0:vs≠[])(ht:∀v∈vs,∃(l:ak) (xs:ba) (n:Int) (t:Tok),v=.ref l/\IsTup s.heap l (.int n t::xs).toArray){Q:SortKind->aC->Prop}(q:Q (tuples' true) s) :
  wpAny (model prog w) A (keyKind' vs.toArray) Q E s:=by
 have C:∀v,∃x:Int×Tok,v∈vs->∃(l:ak) (xs:ba),v=.ref l/\IsTup s.heap l (.int x.1 x.2::xs).toArray:=λv=>by
  by_cases c:v∈vs
  ·obtain⟨l,xs,n,t,e1,e2⟩:=ht v c;exact⟨(n,t),λ_=>⟨l,xs,e1,e2⟩⟩
  ·exact⟨(0,0),λz=>absurd z c⟩
 obtain⟨F,p⟩:=Classical.axiomOfChoice C;rw[keyKind'_eq];refine aI (Fq (λv=>some<|Value.int (F v).1 (F v).2) vs (λv hv k g=>?_) _ ?_)
 ·obtain⟨l,xs,rfl,o,j,hc,n,m⟩:=p v hv;rw[LP];refine aI<|iI (T := "tuple") ⟨o,j,hc⟩ ?_;rw[aM ⋯];exact aI (listItems_at j m<|aN g)
 ·rw[aP<|by simp];refine aI<|fV ?_;have e1:(vs.map λv=>some<|Value.int (F v).1 (F v).2).toArray.filterMap id=(vs.map λv=>Value.int (F v).1 (F v).2).toArray:=by
   rw[List.filterMap_toArray,List.filterMap_map];congr 1;rw[show(id ∘ λv=>some<|Value.int (F v).1 (F v).2)=λv=>some (Value.int (F v).1 (F v).2)from rfl];exact congrFun List.filterMap_eq_map' vs
  rw[e1,oneTypeOnly'_eq];refine aI (aI<|Fq (λ_=>Value.type "int") _ (λv hv k g=>?_) _ ?_)
  ·obtain⟨u,_,rfl⟩:=bf.mp hv;exact aN g
  ·rw[bg];obtain⟨f,d,rfl⟩:∃f d,vs=f::d:=by
    cases vs with
    | nil=>exact absurd rfl h0
    | cons a b=>exact⟨a,b,rfl⟩
   have ha:((List.map ((λ_=>Value.type "int") ∘ λv=>Value.int (F v).1 (F v).2) (f::d)).toArray.all λx=>x == Value.type "int")=true:=by
    dsimp[List.all_toArray,all_map,dc];intro _ _;rfl
   have B:(List.map ((λ_=>Value.type "int") ∘ λv=>Value.int (F v).1 (F v).2) (f::d)).toArray[0]?=some (Value.type "int"):=by simp
   rw[B];dsimp[ha,eB];exact aN<|aN q
end
end Sx
namespace L2
open PySem PySem.Spec PyProof.Rows
section
variable {X:Cx}
theorem wm:∀{rs:bb}{its:ba},Vals (rs.map V.ref) its->its=rs.map Value.ref
 | [],_,r=>by cases r;rfl
 | a::rs,_,r=>by
  cases r with
  | cons h t=>
   have e:_=Value.ref a:=h;rw[e,wm t];rfl
theorem zz:∀(rs:bb),Vals (rs.map V.ref) (rs.map Value.ref)
 | []=>.nil
 | a::rs=>.cons (show RelV (.ref a) (.ref a)from rfl)<|zz rs
def wA{s:aC}{H:Hp}{Q:VK}{h':aq}{tk:Nat}{rs:bb}{kss:List<|ag}(I1:Inv X pins σ H { s with heap:=h',toks:=tk })(ro:Sx.RO kss.length)(hlen:rs.length=kss.length)(hz:rs.length<=sizeLine)
  (hT:∀(i:Nat) (r:ak) (ks:ag),rs[i]?=some r->kss[i]?=some ks->nj X.K H r (ks.map V.int)/\ks≠[])
  (q:∀l g,H l=none->Sx.Cl g 0 kss.length->Sx.So (Sx.Cw kss) g 0 kss.length->Q (.ref l) (upd H l<|.lst<|((List.range kss.length).map λi=>rs.getD (g i) 0).map V.ref)) :
  wpAny (model X.prog X.w) X.A.in1 (do
   let l <- newList (rs.map Value.ref)
   let _ <- holding [l] (call (Value.builtin "list.sort") [l] [])
   ret l) (λfin s'=>∃v,fin=Fin.done (Flow.ret v)/\EP X pins σ Q v s') X.xe { s with heap:=h',toks:=tk }:=by
 have p:(rs.map Value.ref).length=kss.length:=by rw[aG,hlen]
 refine aI<|wpAny_newList ?_;have k:(h'.push<|seqObj "list" (rs.map Value.ref).toArray 0).get? h'.objs.size=some (seqObj "list" (rs.map Value.ref).toArray 0):=bD _ rfl
 skip
 have tup:∀(i:Nat) (r:ak) (ks:ag),rs[i]?=some r->kss[i]?=some ks->∃d:ba,IntsAre d ks/\IsTup (Sx.Il (h'.push<|seqObj "list" (rs.map Value.ref).toArray 0) h'.objs.size<|rs.map Value.ref) r d.toArray:=λi r ks e1 e2=>by
  obtain⟨d,rv,⟨o,L,hc,n,T⟩,_⟩:=I1.tuple (hT i r ks e1 e2).1;refine⟨d,intsAre_of rv,o,?_,hc,n,T⟩;have lt:r<h'.objs.size:=bq L;rw[Sx.Pe (bA lt)<|by rw[dJ];exact dY lt];exact aQ _ L
 refine aI (cV<|dI slot_list_sort ⟨_,k,rfl⟩ entry_list_sort (Sx.ze (o:=Sx.Cw kss) (kd:=tuples' true) k (by rw[p];lia) (by rw[p];exact ro) (λh2 G C=>?_) (λh2 i j f J O G C=>?_) λg hc hs=>⟨_,rfl,?_⟩)<|args_list_sort _)
 ·refine Sx.HF (λz=>by rw[z]at h2;simp at h2) (λv hv=>?_) C;obtain⟨i,f⟩:=List.getElem?_of_mem hv;rw[aR]at f;obtain⟨r,D,rfl⟩:=aW.mp f;have lt:=(aJ.mp D).1;have e2:kss[i]?=some kss[i]:=aH ();obtain⟨d,h1,h3⟩:=tup i r _ D e2;have m:=(hT i r _ D e2).2;generalize kss[i]=ks at h1 m
  cases h1 with
  | nil=>exact absurd rfl m
  | cons a t h1=>exact⟨r,_,a,t,rfl,h3⟩
 ·rw[p]at f J;have e1:rs[i]?=some (rs[i]'()):=aH _;have e2:rs[j]?=some (rs[j]'()):=aH _;have F:kss[i]?=some kss[i]:=aH f;have M:kss[j]?=some kss[j]:=aH J;obtain⟨x1,Z,W⟩:=tup i _ _ e1 F;obtain⟨x2,a2,U⟩:=tup j _ _ e2 M;have v1:(rs.map Value.ref).getD i .none=.ref (rs[i]'()):=by rw[aK,aR,e1];rfl
  have v2:(rs.map Value.ref).getD j .none=.ref (rs[j]'()):=by rw[aK,aR,e2];rfl
  show wpAny _ _ (keyLt' (tuples' true) ((rs.map Value.ref).getD i .none)<|(rs.map Value.ref).getD j .none) G O _;rw[v1,v2];refine Sx.D_ true W U Z a2 ?_;have N:kss.getD i []=kss[i]:=by rw[aK,F];rfl
  have Y:kss.getD j []=kss[j]:=by rw[aK,M];rfl
  have:(Sx.Cw kss).lt i j=HT.lexLt kss[i] kss[j]:=by show HT.lexLt _ _=_;rw[N,Y]
  rw[<- this];exact C
 ·rw[p]at hc hs ⊢;obtain⟨e,P⟩:=sortedHeap_at (out:=((List.range kss.length).map λi=>(rs.map Value.ref).getD (g i) .none).toArray) k;have old:∀b ob,h'.get? b=some ob->(sortedHeap (h'.push<|seqObj "list" (rs.map Value.ref).toArray 0) h'.objs.size (rs.map Value.ref) ((List.range kss.length).map λi=>(rs.map Value.ref).getD (g i) .none).toArray).get? b=some ob:=λb ob B=>by
   rw[sortedHeap_old (bA<|bq B)<|by rw[dJ];exact dY<|bq B];exact aQ _ B
  refine aN ⟨_,rfl,.ref h'.objs.size,_,I1.laid (t':=tk) (o:=.lst<|((List.range kss.length).map λi=>rs.getD (g i) 0).map V.ref) old (aL _) ?_,rfl,q _ g (I1.hok.fresh<|aL _) hc hs⟩;refine⟨by rw[aG,aG,bM];lia,((List.range kss.length).map λi=>rs.getD (g i) 0).map Value.ref,e,zz _,?_⟩;rw[P];congr 2;rw[bg];congr 1;refine bU λi f=>?_;have:=(hc i (bO _)<|cg.mp f).2;have lt:g i<rs.length:=()
  show(rs.map Value.ref).getD (g i) .none=Value.ref (rs.getD (g i) 0);rw[aK,aR,aH lt,aK,aH lt];rfl
def Bf:jA X (.builtin "sorted") (λxs H Q=>∃(p:ak) (rs:bb) (kss:List<|ag),xs=[.ref p]/\p7 X.K H p (rs.map V.ref)/\Sx.RO kss.length/\rs.length=kss.length /\
  (∀(i:Nat) (r:ak) (ks:ag),rs[i]?=some r->kss[i]?=some ks->nj X.K H r (ks.map V.int)/\ks≠[]) /\
  ∀l g,H l=none->Sx.Cl g 0 kss.length->Sx.So (Sx.Cw kss) g 0 kss.length->Q (.ref l) (upd H l<|.lst<|((List.range kss.length).map λi=>rs.getD (g i) 0).map V.ref)):=by
 fin2;obtain⟨p,rs,kss,rfl,hq,C,d,k,q⟩:=h;kj_on
 cases rx
 obtain⟨t,F,pl,j⟩:=I.list hq;have G:=wm F;subst G;obtain⟨o,D,f,n,B⟩:=pl.isList;rw[aG]at j;have J:(rs.map Value.ref).length=kss.length:=by rw[aG,d]
 o_rec;unfold Builtin.«sorted»;refine aI (m:=checkCount "sorted" 1 1 _)<|aN ?_;refine aI<|wpAny_collect_seq p (.inl rfl) D f B (λh' L=>wA (s:=s) (I.kept (t':=s.toks) L) C d j k q)<|by rw[a_,J];lia
end
end L2
namespace Am
open PySem
inductive A where
 | unb|non|bl (b:Bool)|int (i:Int)|str (x:Str)|tup (xs:List A)|frz (xs:List A)|rng (lo hi:Int)|ref (n:Nat)|exn (c:Str)|ty (n:String)|ktu (xs:List A)
@[reducible]def ae:=List A
inductive O where
 | lst (xs:ae)|dct (kvs:List<|ag×A)|oS (kvs:List<|Int×A)|dks (kvs:List<|Str×A)|rZ (kvs:List<|L2.kO×A)|dcf (kvs:List<|ag×A)|ins (c:Str) (fs:List<|Str×A)
meta abbrev iW:=List O
inductive R (α:Type) where
 | ok (a:α) (S:iW)|ex (c:Str) (S:iW)|no
abbrev R.bind {α β:Type}(r:R α)(f:α->iW->R β):R β:=match r with
 | .ok a S=>f a S
 | .ex c S=>.ex c S
 | .no=>.no
abbrev R.post {α:Type}(r:R α)(P:α->iW->Prop)(E:Str->iW->Prop):Prop:=match r with
 | .ok a S=>P a S
 | .ex c S=>E c S
 | .no=>False
def jb{α β:Type}{r:R α}{f:α->iW->R β}{P:β->iW->Prop}{E:Str->iW->Prop}(h:(r.bind f).post P E):r.post (λa S=>(f a S).post P E) E:=by
 cases r<;>exact h
def Iu{α:Type}{r:R α}{P P':α->iW->Prop}{E E':Str->iW->Prop}(h:r.post P E)(hp:∀a S,P a S->P' a S)(he:∀c S,E c S->E' c S):r.post P' E':=by
 cases r with
 | ok a S=>exact hp _ _ h
 | ex c S=>exact he _ _ h
 | no=>exact h.elim
abbrev gd {α:Type}(c:Prop)[Decidable c](r:R α):R α:=if c then r else .no
abbrev opt {α β:Type}(o:Option β)(f:β->R α):R α:=match o with
 | some b=>f b
 | none=>.no
def jq{α:Type}{c:Prop}[Decidable c]{r:R α}{P:α->iW->Prop}{E:Str->iW->Prop}(h:(gd c r).post P E):c/\r.post P E:=by
 unfold gd at h;by_cases hc:c
 ·rw[aP hc]at h;exact⟨hc,h⟩
 ·rw[aM hc]at h;exact h.elim
def iY{α β:Type}{o:Option β}{f:β->R α}{P:α->iW->Prop}{E:Str->iW->Prop}(h:(opt o f).post P E):∃b,o=some b/\(f b).post P E:=by
 cases o with
 | none=>exact h.elim
 | some b=>exact⟨b,rfl,h⟩
def IK{α:Type}{c:Prop}[Decidable c]{r:R α}(h:c):gd c r=r:=aP h
abbrev iU (S:iW)(n:Nat):Option (ae):=match S[n]? with
 | some (.lst xs)=>some xs
 | _=>none
def ji{n:Nat}(h:iU S n=some xs):S[n]?=some (.lst xs):=by
 unfold iU at h;split at h
 ·rename_i e;cases h;exact e
 ·cases h
def lY{S:iW}{n:Nat}(h:S[n]?=some (.lst xs)):iU S n=some xs:=by
 unfold iU;rw[h]
inductive RS where
 | nx (τ:ae) (S:iW)|rt (a:A) (S:iW)|bk (τ:ae) (S:iW)|ct (τ:ae) (S:iW)|ex (c:Str) (S:iW)|no
meta abbrev Ex:=ae->iW->R A
meta abbrev p6:=ae->iW->R (ae)
meta abbrev Te:=ae->iW->R Bool
meta abbrev Sm:=ae->iW->RS
meta abbrev Tg:=A->ae->iW->R (ae)
end Am
namespace Am
open PySem L2
section
variable (K:au) (ρ:bb) (H:Hp)
abbrev YU (K:au)(c:Str)(C:ak):Prop:=PySem.W.nsIn K mainGlobals c=some (some<|.ref C)
abbrev Fz (K:au)(H:Hp)(a:ak)(vs:List V):Prop:=
 (∃o,H a=some (.frz o<|.lst vs))\/∃(o:Obj) (d:Array af) (n:Nat),K.lookup a=some o/\o.cls=.type "list" /\ o.dict=none/\o.data=.seq d n/\d.size<=sizeLine/\Vals vs d.toList
abbrev ZI (K:au)(a:ak)(vs:List V):Prop:=∃(o:Obj) (d:Array af) (n:Nat),K.lookup a=some o/\o.cls=.type "tuple" /\ o.dict=none/\o.data=.seq d n/\d.size<=sizeLine/\Vals vs d.toList
mutual
inductive AV:A->V->Prop
 | non:AV .non .non
 | bl (b:Bool):AV (.bl b) (.bl b)
 | int (i:Int):AV (.int i) (.int i)
 | str (x:Str):AV (.str x) (.str x)
 | ty (n:String):AV (.ty n) (.ty n)
 | tup {a:ak} {xs:ae} {vs:List V} (h:H a=some (.tup vs)) (r:AVs xs vs):AV (.tup xs) (.ref a)
 | frz {a:ak} {xs:ae} {vs:List V} (h:Fz K H a vs) (r:AVs xs vs):AV (.frz xs) (.ref a)
 | rng {a:ak} {lo hi:Int} (h:H a=some (.rng lo hi)):AV (.rng lo hi) (.ref a)
 | ref {a:ak} {n:Nat} (h:ρ[n]?=some a):AV (.ref n) (.ref a)
 | exn {a C:ak} {c:Str} {oe:Obj} (n:YU K c C) (h:H a=some (.frz oe xu)) (x:XO C oe):AV (.exn c) (.ref a)
 | ktu {a:ak} {xs:ae} {vs:List V} (h:ZI K a vs) (r:AVs xs vs):AV (.ktu xs)<|.ref a
inductive AVs:ae->List V->Prop
 | nil:AVs [] []
 | cons {x:A} {v:V} {xs:ae} {vs:List V} (h:AV x v) (t:AVs xs vs):AVs (x::xs) (v::vs)
end
abbrev DV:List (ag×A)->List (List Key×V)->Prop
 | [],[]=>True
 | p::r,q::r'=>(q.1=p.1.map Sum.inl/\AV K ρ H p.2 q.2)/\DV r r'
 | _,_=>False
abbrev DI:List (Int×A)->List (Key×V)->Prop
 | [],[]=>True
 | p::r,q::r'=>(q.1=Sum.inl p.1/\AV K ρ H p.2 q.2)/\DI r r'
 | _,_=>False
abbrev DS:List (Str×A)->List (Key×V)->Prop
 | [],[]=>True
 | p::r,q::r'=>(q.1=Sum.inr p.1/\AV K ρ H p.2 q.2)/\DS r r'
 | _,_=>False
abbrev DP:List (L2.kO×A)->List (L2.kO×ak×af)->Prop
 | [],[]=>True
 | p::r,q::r'=>(q.1=p.1/\L2.qN H q.2.1 q.1/\∃v,RelV v q.2.2/\AV K ρ H p.2 v)/\DP r r'
 | _,_=>False
abbrev OR (a:ak):O->Prop
 | .lst xs=>∃d,H a=some (.lst d)/\AVs K ρ H xs d
 | .dct kvs=>∃ks,H a=some (.dT ks)/\DV K ρ H kvs ks
 | .oS kvs=>∃ks,H a=some (.dK ks)/\DI K ρ H kvs ks
 | .dks kvs=>∃ks,H a=some (.dK ks)/\DS K ρ H kvs ks
 | .rZ kvs=>∃xs,H a=some (.ext<|L2.tP a xs)/\DP K ρ H kvs xs
 | .dcf kvs=>∃o ks,H a=some (.frz o<|.dT ks)/\DV K ρ H kvs ks
 | .ins _ _=>∃o u,H a=some (.frz o u)
structure Rel (S:iW):Prop where
 len:ρ.length=S.length
 nd:ρ.Nodup
 «at»:∀(n:Nat) (a:ak) (o:O),ρ[n]?=some a->S[n]?=some o->OR K ρ H a o
end
abbrev Imm:HO->Prop
 | .tup _=>True
 | .rng _ _=>True
 | .frz _ _=>True
 | _=>False
structure Ext0 (ρ ρ':bb)(H H':Hp):Prop where
 pre:ρ <+: ρ'
 im:∀a u,Imm u->H a=some u->H' a=some u
structure Ext (ρ ρ':bb)(H H':Hp):Prop extends Ext0 ρ ρ' H H' where
 fr:∀a u,H a=some u->a∉ρ->H' a=some u
 nw:∀a,a∈ρ'->a∈ρ\/H a=none
def Ext.refl{H:Hp}:Ext ρ ρ H H:=⟨⟨dg _,λ_ _ _ h=>h⟩,λ_ _ h _=>h,λ_ h=>.inl h⟩
def Ext.trans{H H1 H2:Hp}(a:Ext ρ ρ1 H H1)(b:Ext ρ1 ρ2 H1 H2):Ext ρ ρ2 H H2:=⟨⟨a.pre.trans b.pre,λx u i h=>b.im x u i<|a.im x u i h⟩,λx u h n=>b.fr x u (a.fr x u h n) λz=>(a.nw x z).elim n λz=>by(rw[z]at h;cases h),λx h=>by
 by_cases d:x∈ρ
 ·exact .inl d
 ·right
  cases q:H x with
  | none=>rfl
  | some u=>
   rcases b.nw x h with z|z
   ·exact((a.nw x z).elim d λz=>by(rw[z]at q;cases q)).elim
   ·rw[a.fr x u q d]at z;cases z⟩
def Ext0.get{H H':Hp}(e:Ext0 ρ ρ' H H'){n:Nat}{a:ak}(h:ρ[n]?=some a):ρ'[n]?=some a:=by
 obtain⟨t,rfl⟩:=e.pre;rw[br (aJ.mp h).1];exact h
section
variable {K:au}{ρ ρ':bb}{H H':Hp}
def Ext0.sqT(e:Ext0 ρ ρ' H H'){a:ak}(h:nj K H a vs):nj K H' a vs:=by
 rcases h with(h|⟨o,h⟩)|h
 ·exact .inl (.inl<|e.im _ _ trivial h)
 ·exact .inl (.inr ⟨o,e.im _ _ trivial h⟩)
 ·exact .inr h
def Ext0.fz(e:Ext0 ρ ρ' H H'){a:ak}(h:Fz K H a vs):Fz K H' a vs:=by
 rcases h with⟨o,h⟩|h
 ·exact .inl ⟨o,e.im _ _ trivial h⟩
 ·exact .inr h
def Fz.Pa{a:ak}(h:Fz K H a vs):p7 K H a vs:=by
 rcases h with⟨o,h⟩|h
 ·exact .inl (.inr ⟨o,h⟩)
 ·exact .inr h
mutual
theorem AV.ko(e:Ext0 ρ ρ' H H'):∀{x:A}{v:V},AV K ρ H x v->AV K ρ' H' x v
 | _,_,.non=>.non
 | _,_,.bl b=>.bl b
 | _,_,.int i=>.int i
 | _,_,.str x=>.str x
 | _,_,.ty x=>.ty x
 | _,_,.tup h r=>.tup (e.im _ _ trivial h) (AVs.ko e r)
 | _,_,.frz h r=>.frz (e.fz h) (AVs.ko e r)
 | _,_,.rng h=>.rng (e.im _ _ trivial h)
 | _,_,.ref h=>.ref (e.get h)
 | _,_,.exn n h x=>.exn n (e.im _ _ trivial h) x
 | _,_,.ktu h r=>.ktu h<|AVs.ko e r
theorem AVs.ko(e:Ext0 ρ ρ' H H'):∀{xs:ae}{vs:List V},AVs K ρ H xs vs->AVs K ρ' H' xs vs
 | _,_,.nil=>.nil
 | _,_,.cons h t=>.cons (AV.ko e h)<|AVs.ko e t
end
theorem DV.ko(e:Ext0 ρ ρ' H H'):∀{xs:List<|ag×A}{vs:List<|List Key×V},DV K ρ H xs vs->DV K ρ' H' xs vs
 | [],[],_=>trivial
 | _::_,_::_,⟨⟨a,b⟩,r⟩=>⟨⟨a,AV.ko e b⟩,DV.ko e r⟩
def DV.ext{x:List<|ag×A}{v:List<|List Key×V}(h:DV K ρ H x v)(e:Ext ρ ρ' H H'):DV K ρ' H' x v:=DV.ko e.toExt0 h
theorem DI.ko(e:Ext0 ρ ρ' H H'):∀{xs:List<|Int×A}{vs:List<|Key×V},DI K ρ H xs vs->DI K ρ' H' xs vs
 | [],[],_=>trivial
 | _::_,_::_,⟨⟨a,b⟩,r⟩=>⟨⟨a,AV.ko e b⟩,DI.ko e r⟩
def DI.ext{x:List<|Int×A}{v:List<|Key×V}(h:DI K ρ H x v)(e:Ext ρ ρ' H H'):DI K ρ' H' x v:=DI.ko e.toExt0 h
theorem DS.ko(e:Ext0 ρ ρ' H H'):∀{xs:List<|Str×A}{vs:List<|Key×V},DS K ρ H xs vs->DS K ρ' H' xs vs
 | [],[],_=>trivial
 | _::_,_::_,⟨⟨a,b⟩,r⟩=>⟨⟨a,AV.ko e b⟩,DS.ko e r⟩
def DS.ext{x:List<|Str×A}{v:List<|Key×V}(h:DS K ρ H x v)(e:Ext ρ ρ' H H'):DS K ρ' H' x v:=DS.ko e.toExt0 h
def qN.ko{b:ak}{k:L2.kO}(e:Ext0 ρ ρ' H H'):L2.qN H b k->L2.qN H' b k:=λ⟨r1,r2,h1,h2,h3⟩=>⟨r1,r2,e.im _ _ trivial h1,e.im _ _ trivial h2,e.im _ _ trivial h3⟩
theorem DP.ko(e:Ext0 ρ ρ' H H'):∀{xs:List<|L2.kO×A}{vs:List<|L2.kO×ak×af},DP K ρ H xs vs->DP K ρ' H' xs vs
 | [],[],_=>trivial
 | _::_,_::_,⟨⟨a,k,v,c,b⟩,r⟩=>⟨⟨a,qN.ko e k,v,c,AV.ko e b⟩,DP.ko e r⟩
def DP.ext{x:List<|L2.kO×A}{v:List<|L2.kO×ak×af}(h:DP K ρ H x v)(e:Ext ρ ρ' H H'):DP K ρ' H' x v:=DP.ko e.toExt0 h
def AV.ext{x:A}{v:V}(h:AV K ρ H x v)(e:Ext ρ ρ' H H'):AV K ρ' H' x v:=AV.ko e.toExt0 h
def AVs.ext{x:ae}{v:List V}(h:AVs K ρ H x v)(e:Ext ρ ρ' H H'):AVs K ρ' H' x v:=AVs.ko e.toExt0 h
theorem AVs.length:∀{xs:ae}{vs:List V},AVs K ρ H xs vs->xs.length=vs.length
 | _,_,.nil=>rfl
 | _,_,.cons _ t=>cW (·+1)<|AVs.length t
theorem AVs.append:∀{xs ys:ae}{vs ws:List V},AVs K ρ H xs vs->AVs K ρ H ys ws->AVs K ρ H (xs++ys) (vs++ws)
 | _,_,_,_,.nil,s=>s
 | _,_,_,_,.cons h t,s=>.cons h<|AVs.append t s
theorem AVs.take:∀{xs:ae}{vs:List V}(n:Nat),AVs K ρ H xs vs->AVs K ρ H (xs.take n) (vs.take n)
 | _,_,0,_=>.nil
 | _,_,_+1,.nil=>.nil
 | _,_,n+1,.cons h t=>.cons h<|AVs.take n t
theorem AVs.get:∀{xs:ae}{vs:List V}{i:Nat}{x:A},AVs K ρ H xs vs->xs[i]?=some x->∃v,vs[i]?=some v/\AV K ρ H x v
 | _,_,_,_,.nil,e=>by simp at e
 | _,_,0,_,.cons h _,e=>by simp at e;subst e;exact⟨_,rfl,h⟩
 | _,_,i+1,x,.cons _ t,e=>by
  obtain⟨u,h1,h2⟩:=AVs.get (i:=i) (x:=x) t (by simpa using e);exact⟨u,by simpa using h1,h2⟩
theorem AVs.set{x:A}{v:V}(h:AV K ρ H x v):∀{xs:ae}{vs:List V}(i:Nat),AVs K ρ H xs vs->AVs K ρ H (xs.set i x) (vs.set i v)
 | _,_,_,.nil=>.nil
 | _,_,0,.cons _ t=>.cons h t
 | _,_,i+1,.cons q t=>.cons q<|AVs.set h i t
def AVs.one{x:A}{v:V}(h:AV K ρ H x v):AVs K ρ H [x] [v]:=.cons h .nil
theorem AVs.eraseIdx:∀{xs:ae}{vs:List V}(i:Nat),AVs K ρ H xs vs->AVs K ρ H (xs.eraseIdx i) (vs.eraseIdx i)
 | _,_,_,.nil=>.nil
 | _,_,0,.cons _ t=>t
 | _,_,i+1,.cons q t=>.cons q<|AVs.eraseIdx i t
theorem pO:∀(ns:ag),AVs K ρ H (ns.map .int) (ns.map .int)
 | []=>.nil
 | n::ns=>.cons (.int n)<|pO ns
def Rel.lay{S:iW}{p:ak}(R:Rel K ρ H S)(hp:H p=none)(r:AVs K ρ H xs vs):Ext ρ (ρ++[p]) H (upd H p<|.lst vs)/\Rel K (ρ++[p]) (upd H p<|.lst vs) (S++[.lst xs])/\(ρ++[p])[S.length]?=some p:=by
 have ex:Ext ρ (ρ++[p]) H (upd H p<|.lst vs):=⟨⟨dh _ _,λa u _ h=>by rw[i_<|jo h hp];exact h⟩,λa u h _=>by rw[i_<|jo h hp];exact h,λa h=>by
  rcases bI.mp h with z|z
  ·exact .inl z
  ·have e:a=p:=by simpa using z
   rw[e];exact .inr hp⟩
 have f:∀(n:Nat) (a:ak),ρ[n]?=some a->a≠p:=by
  intro n a e z;subst z;have hn:n<S.length:=by rw[<- R.len];exact(aJ.mp e).1
  have:=R.at n a S[n] e (aH hn)
  cases j:S[n]with
  | lst xs=>rw[j]at this;obtain⟨vs,h,_⟩:=this;rw[hp]at h;cases h
  | dct _|oS _|dks _|rZ _=>rw[j]at this;obtain⟨vs,h,_⟩:=this;rw[hp]at h;cases h
  | dcf _=>rw[j]at this;obtain⟨_,vs,h,_⟩:=this;rw[hp]at h;cases h
  | ins _ _=>rw[j]at this;obtain⟨_,_,h⟩:=this;rw[hp]at h;cases h
 have d:(ρ++[p])[S.length]?=some p:=by rw[<- R.len];simp
 refine⟨ex,⟨by simp[R.len],?_,?_⟩,d⟩
 ·rw[cO];f_are;have:b=p:=by simpa using hb
  obtain⟨n,hn,m⟩:=cu.mp ha;exact f n a (by rw[aH hn,m])<|e.trans this
 ·intro n a o h1 h2;by_cases hn:n<S.length
  ·rw[br<|by rw[R.len];exact hn]at h1;rw[br hn]at h2;have:=R.at n a o h1 h2
   cases o with
   | lst ys=>obtain⟨g,e,q⟩:=this;exact⟨g,by rw[i_<|f n a h1];exact e,q.ext ex⟩
   | dct _|oS _|dks _|rZ _=>obtain⟨g,e,q⟩:=this;exact⟨g,by rw[i_<|f n a h1];exact e,q.ext ex⟩
   | dcf _=>obtain⟨k,g,e,q⟩:=this;exact⟨k,g,by rw[i_<|f n a h1];exact e,q.ext ex⟩
   | ins _ _=>obtain⟨k,t,e⟩:=this;exact⟨k,t,by rw[i_<|f n a h1];exact e⟩
  ·have e:n=S.length:=by
    have:=(aJ.mp h2).1;simp at this
    lia
   subst e;rw[d]at h1
   cases h1
   simp at h2;subst h2;exact⟨vs,jF,r.ext ex⟩
def Rel.im{p:ak}(R:Rel K ρ H S)(hp:H p=none):Ext ρ ρ H (upd H p u)/\Rel K ρ (upd H p u) S:=by
 have ex:Ext ρ ρ H (upd H p u):=⟨⟨dg _,λa u _ h=>by rw[i_<|jo h hp];exact h⟩,λa u h _=>by rw[i_<|jo h hp];exact h,λ_ h=>.inl h⟩;refine⟨ex,R.len,R.nd,λn a o h1 h2=>?_⟩;have:=R.at n a o h1 h2
 cases o with
 | lst ys=>obtain⟨d,e,q⟩:=this;exact⟨d,by rw[i_<|jo e hp];exact e,q.ext ex⟩
 | dct _|oS _|dks _|rZ _=>obtain⟨d,e,q⟩:=this;exact⟨d,by rw[i_<|jo e hp];exact e,q.ext ex⟩
 | dcf _=>obtain⟨f,d,e,q⟩:=this;exact⟨f,d,by rw[i_<|jo e hp];exact e,q.ext ex⟩
 | ins _ _=>obtain⟨f,g,e⟩:=this;exact⟨f,g,by rw[i_<|jo e hp];exact e⟩
def Rel.put{S:iW}{n:Nat}{a:ak}(R:Rel K ρ H S)(ha:ρ[n]?=some a)(hS:S[n]?=some (.lst xs))(r:AVs K ρ H ys ws):Ext ρ ρ H (upd H a<|.lst ws)/\Rel K ρ (upd H a<|.lst ws) (S.set n<|.lst ys):=by
 obtain⟨p,e,_⟩:=R.at n a _ ha hS;have ex:Ext ρ ρ H (upd H a<|.lst ws):=⟨⟨dg _,λb u i h=>by
  have:b≠a:=by
   intro z;subst z;rw[e]at h;cases h;exact i
  rw[i_ this];exact h⟩,λb u h n=>by
  rw[i_ λz=>n<|by rw[z];exact bB ha];exact h,λ_ h=>.inl h⟩
 refine⟨ex,by rw[bW];exact R.len,R.nd,λm b o h1 h2=>?_⟩;by_cases g:m=n
 ·subst g;rw[ha]at h1;cases h1;rw[bz (aJ.mp hS).1]at h2
  cases h2
  exact⟨ws,jF,r.ext ex⟩
 ·rw[bK<|cT g]at h2;have nb:b≠a:=λz=>by
   subst z;obtain⟨B,e1⟩:=aJ.mp ha;obtain⟨t,e2⟩:=aJ.mp h1;exact g<|(cH R.nd).mp<|e2.trans e1.symm
  have:=R.at m b o h1 h2
  cases o with
  | lst ys=>obtain⟨d,f,q⟩:=this;exact⟨d,by rw[i_ nb];exact f,q.ext ex⟩
  | dct _|oS _|dks _|rZ _=>obtain⟨d,f,q⟩:=this;exact⟨d,by rw[i_ nb];exact f,q.ext ex⟩
  | dcf _=>obtain⟨j,d,f,q⟩:=this;exact⟨j,d,by rw[i_ nb];exact f,q.ext ex⟩
  | ins _ _=>obtain⟨j,k,f⟩:=this;exact⟨j,k,by rw[i_ nb];exact f⟩
def Rel.lst{n:Nat}{a:ak}(R:Rel K ρ H S)(ha:ρ[n]?=some a)(hS:S[n]?=some (.lst xs)):∃vs,H a=some (.lst vs)/\AVs K ρ H xs vs:=R.at n a _ ha hS
structure SR (K:au)(ρ:bb)(H:Hp)(τ:ae)(σ:St):Prop where
 len:τ.length=σ.length
 «at»:∀(i:Nat) (a:A),τ[i]?=some a->a=.unb\/∃v,σ[i]?=some (some v)/\AV K ρ H a v
def SR.ko(s:SR K ρ H τ σ)(e:Ext0 ρ ρ' H H'):SR K ρ' H' τ σ:=⟨s.len,λi a h=>by
 rcases s.at i a h with z|⟨v,h1,h2⟩
 ·exact .inl z
 ·exact .inr ⟨v,h1,AV.ko e h2⟩⟩
def SR.ext(s:SR K ρ H τ σ)(e:Ext ρ ρ' H H'):SR K ρ' H' τ σ:=s.ko e.toExt0
def Rel.out{D:ak}(R:Rel K ρ H S)(hD:H D=some (.lst vs))(hn:D∉ρ):Ext0 ρ ρ H (upd H D<|.lst ws)/\Rel K ρ (upd H D<|.lst ws) S:=by
 have ex:Ext0 ρ ρ H (upd H D<|.lst ws):=⟨dg _,λb u i h=>by
  have:b≠D:=by
   intro z;subst z;rw[hD]at h;cases h;exact i
  rw[i_ this];exact h⟩
 refine⟨ex,R.len,R.nd,λn a o h1 h2=>?_⟩;have na:a≠D:=λz=>hn (by rw[<- z];exact bB h1);have:=R.at n a o h1 h2
 cases o with
 | lst ys=>obtain⟨d,e,q⟩:=this;exact⟨d,by rw[i_ na];exact e,AVs.ko ex q⟩
 | dct _|oS _|dks _|rZ _=>obtain⟨d,e,q⟩:=this;exact⟨d,by rw[i_ na];exact e,q.ko ex⟩
 | dcf _=>obtain⟨f,d,e,q⟩:=this;exact⟨f,d,by rw[i_ na];exact e,q.ko ex⟩
 | ins _ _=>obtain⟨f,g,e⟩:=this;exact⟨f,g,by rw[i_ na];exact e⟩
def Rel.take{S:iW}{D:ak}(R:Rel K ρ H S)(hD:H D=some (.lst vs))(hn:D∉ρ)(r:AVs K ρ H xs vs):Rel K (ρ++[D]) H (S++[.lst xs])/\(ρ++[D])[S.length]?=some D:=by
 have ex:Ext0 ρ (ρ++[D]) H H:=⟨dh _ _,λ_ _ _ h=>h⟩;have d:(ρ++[D])[S.length]?=some D:=by rw[<- R.len];simp
 refine⟨⟨by simp[R.len],?_,λn a o h1 h2=>?_⟩,d⟩
 ·rw[cO];f_are;have:b=D:=by simpa using hb
  exact hn<|by rw[<- this,<- e];exact ha
 ·by_cases hs:n<S.length
  ·rw[br<|by rw[R.len];exact hs]at h1;rw[br hs]at h2;have:=R.at n a o h1 h2
   cases o with
   | lst ys=>obtain⟨f,e,q⟩:=this;exact⟨f,e,AVs.ko ex q⟩
   | dct _|oS _|dks _|rZ _=>obtain⟨f,e,q⟩:=this;exact⟨f,e,q.ko ex⟩
   | dcf _=>obtain⟨g,f,e,q⟩:=this;exact⟨g,f,e,q.ko ex⟩
   | ins _ _=>obtain⟨g,j,e⟩:=this;exact⟨g,j,e⟩
  ·have e:n=S.length:=by
    have:=(aJ.mp h2).1;simp at this
    lia
   subst e;rw[d]at h1
   cases h1
   simp at h2;subst h2;exact⟨vs,hD,AVs.ko ex r⟩
def SR.set{τ:ae}{σ:St}{a:A}{v:V}(s:SR K ρ H τ σ)(h:AV K ρ H a v):SR K ρ H (τ.set i a) (σ.set i<|some v):=by
 refine⟨by simp[s.len],λj b e=>?_⟩;by_cases d:j=i
 ·subst d;have f:j<τ.length:=by
   have:=(aJ.mp e).1;simpa using this
  rw[bz f]at e
  cases e
  exact .inr ⟨v,bz<|by rw[<- s.len];exact f,h⟩
 ·rw[bK<|cT d]at e;rw[bK<|cT d];exact s.at j b e
end
end Am
namespace Am
open PySem PySem.Spec PyProof.Rows L2
abbrev XE (X:Cx)(ρ:bb)(H:Hp):Str->iW->Prop:=λc d=>∀(C:ak) (ρ':bb) (H':Hp),YU X.K c C->Ext ρ ρ' H H'->Rel X.K ρ' H' d->EX X (.ref C) none H'
def XE.ext{X:Cx}{H H':Hp}{c:Str}(h:XE X ρ H c S)(e:Ext ρ ρ' H H'):XE X ρ' H' c S:=λC ρ2 H2 n e2=>h C ρ2 H2 n<|e.trans e2
abbrev xN (X:Cx)(ρ:bb)(H:Hp)(Q:VK):A->iW->Prop:=λa d=>∀ρ' H' v,Ext ρ ρ' H H'->Rel X.K ρ' H' d->AV X.K ρ' H' a v->Q v H'
abbrev Ym (X:Cx)(ρ:bb)(H:Hp)(Q:Bool->Hp->Prop):Bool->iW->Prop:=λb d=>∀ρ' H',Ext ρ ρ' H H'->Rel X.K ρ' H' d->Q b H'
abbrev okL (X:Cx)(ρ:bb)(H:Hp)(Q:List V->Hp->Prop):ae->iW->Prop:=λas f=>∀ρ' H' d,Ext ρ ρ' H H'->Rel X.K ρ' H' f->AVs X.K ρ' H' as d->Q d H'
def xN.ext{X:Cx}{H H':Hp}{Q:VK}{a:A}(h:xN X ρ H Q a S)(e:Ext ρ ρ' H H'):xN X ρ' H' Q a S:=λρ2 H2 v e2=>h ρ2 H2 v<|e.trans e2
def Ym.ext{X:Cx}{H H':Hp}{Q:Bool->Hp->Prop}{a:Bool}(h:Ym X ρ H Q a S)(e:Ext ρ ρ' H H'):Ym X ρ' H' Q a S:=λρ2 H2 e2=>h ρ2 H2<|e.trans e2
def iX{α:Type}{X:Cx}{H H':Hp}{r:R α}{P P':α->iW->Prop}(h:r.post P<|XE X ρ H)(e:Ext ρ ρ' H H')(hp:∀a S,P a S->P' a S):r.post P' (XE X ρ' H'):=Iu h hp λ_ _ z=>z.ext e
abbrev tE (X:Cx)(c:Ex):TE:=λσ H Q=>∃ρ S τ,Rel X.K ρ H S/\SR X.K ρ H τ σ/\(c τ S).post (xN X ρ H Q) (XE X ρ H)
abbrev tT (X:Cx)(c:Te):TT:=λσ H Q=>∃ρ S τ,Rel X.K ρ H S/\SR X.K ρ H τ σ/\(c τ S).post (Ym X ρ H Q) (XE X ρ H)
abbrev tL (X:Cx)(c:p6):TA:=λσ H Q=>∃ρ S τ,Rel X.K ρ H S/\SR X.K ρ H τ σ/\(c τ S).post (okL X ρ H Q) (XE X ρ H)
abbrev AE (X:Cx)(e:aE)(c:Ex):Prop:=PE X e<|tE X c
abbrev AT (X:Cx)(e:aE)(c:Te):Prop:=PT X e<|tT X c
abbrev AW (X:Cx)(e:aE)(c:Te):Prop:=PW X e<|tT X c
abbrev AL (X:Cx)(es:List aE)(c:p6):Prop:=PA X es<|tL X c
def PE.imp{X:Cx}{e:aE}{t t':TE}(h:PE X e t)(i:∀σ H Q,t' σ H Q->t σ H Q):PE X e t':=λpins s σ H Q I q=>h pins s σ H Q I<|i σ H Q q
def PT.imp{X:Cx}{e:aE}{t t':TT}(h:PT X e t)(i:∀σ H Q,t' σ H Q->t σ H Q):PT X e t':=λpins s σ H Q I q=>h pins s σ H Q I<|i σ H Q q
def PW.imp{X:Cx}{e:aE}{t t':TT}(h:PW X e t)(i:∀σ H Q,t' σ H Q->t σ H Q):PW X e t':=λw pins s σ H Q I q=>h w pins s σ H Q I<|i σ H Q q
def PA.imp{X:Cx}{e:List aE}{t t':TA}(h:PA X e t)(i:∀σ H Q,t' σ H Q->t σ H Q):PA X e t':=λp pins s σ H Q I q=>h p pins s σ H Q I<|i σ H Q q
def AW.at{X:Cx}{e:aE}{c:Te}(h:AW X e c):AT X e c:=h _
abbrev A.nk:A->Bool
 | .unb=>true
 | _=>false
abbrev iR (i:Nat):Ex:=λτ S=>if (τ.getD i .unb).nk then .no else .ok (τ.getD i .unb) S
abbrev eC (a:A):Ex:=λ_ S=>.ok a S
section
variable {X:Cx}{pos:Pos}{a b:aE}
def iQ(i:Nat){x:Str}(hN:X.N[i]?=some x<|>ε)(hv:XC X.env.scope x:=by first|exact Or.inl rfl|exact Or.inr (Or.inl rfl)|exact Or.inr<|Or.inr rfl)(hd:(x == ("__debug__" : Str))=false:=by decide)
  (hcd:(x == ("__classdict__" : Str))=false:=by decide):AE X (.Name x pos) (iR i):=PE.imp (RV hN hv hd hcd) λσ H Q h9=>by
 x_go;unfold iR at h
 cases d:τ[i]? with
 | none=>
  rw[aK,d]at h;exact h.elim
 | some x=>
  rw[aK,d]at h
  rcases r.at i x d with z|⟨v,e,q⟩
  ·subst z;exact h.elim
  ·refine⟨v,e,?_⟩
   cases x<;>first|(exact h ρ H v .refl R q)|exact h.elim
def je{i:Int}{j pos}:AE X (.Constant (.int i) j pos) (eC<|.int i):=PE.imp SW λσ H Q ⟨ρ,S,τ,R,r,h⟩=>h ρ H _ .refl R<|.int i
def wI{j pos}:AE X (.Constant (.bool i) j pos) (eC<|.bl i):=PE.imp XF λσ H Q ⟨ρ,S,τ,R,r,h⟩=>h ρ H _ .refl R<|.bl i
def KP{x:Str}{i:Int}{t:Tok}(hm:X.mg x=some (.int i t))(hg:Gl X x<|>ε)(hd:(x == ("__debug__" : Str))=false<|>δ):AE X (.Name x pos) (eC<|.int i):=
 PE.imp (Gb (v:=.int i) hg hm ⟨t,rfl⟩ hd) λσ H Q ⟨ρ,S,τ,R,r,h⟩=>h ρ H _ .refl R<|.int i
abbrev jc (f:A->A->iW->R A)(ca cb:Ex):Ex:=λτ S=>(ca τ S).bind λa S1=>(cb τ S1).bind λb S2=>f a b S2
abbrev r2 (X:Cx)(f:A->A->iW->R A):R2:=λx y H Q=>∃ρ S a b,Rel X.K ρ H S/\AV X.K ρ H a x/\AV X.K ρ H b y/\(f a b S).post (xN X ρ H Q) (XE X ρ H)
abbrev r1 (X:Cx)(f:A->iW->R A):V->Hp->VK->Prop:=λx H Q=>∃ρ S a,Rel X.K ρ H S/\AV X.K ρ H a x/\(f a S).post (xN X ρ H Q) (XE X ρ H)
abbrev rN (X:Cx)(f:ae->iW->R A):List V->Hp->VK->Prop:=λxs H Q=>∃ρ S as,Rel X.K ρ H S/\AVs X.K ρ H as xs/\(f as S).post (xN X ρ H Q) (XE X ρ H)
def ni.imp{f:af->af->Sem af}{r r':R2}(h:ni X f r)(i:∀x y H Q,r' x y H Q->r x y H Q):ni X f r':=λpins s σ H x y v u Q I rx ry q=>h pins s σ H x y v u Q I rx ry<|i _ _ _ _ q
def jA.imp{f:af}{r r':List V->Hp->VK->Prop}(h:jA X f r)(i:∀x H Q,r' x H Q->r x H Q):jA X f r':=λpins s σ H x v Q I rx q=>h pins s σ H x v Q I rx<|i _ _ _ q
def rS{f:A->A->iW->R A}{ca cb:Ex}{H:Hp}{Q:VK}(h:tE X (jc f ca cb) σ H Q):Xk (r2 X f) (tE X ca) (tE X cb) σ H Q:=by
 cb_eq;refine⟨ρ,S,τ,R,r,iX (jb h) .refl λa S1 h1 ρ1 H1 x e1 R1 v1=>⟨ρ1,S1,τ,R1,r.ext e1,iX (jb h1) e1 λb S2 h2 ρ2 H2 y e2 R2 v2=>?_⟩⟩;exact⟨ρ2,S2,a,b,R2,v1.ext e2,v2,iX h2 (e1.trans e2) λc S3 h3=>h3.ext<|e1.trans e2⟩
def jt{f:A->A->iW->R A}{ca cb:Ex}(ho:ni X (binaryOp op)<|r2 X f)(ha:AE X a ca)(hb:AE X b cb):AE X (.BinOp a op b pos) (jc f ca cb):=
 PE.imp (We ho ha hb) λσ H Q h=>rS h
def D9{op:CmpOp}{f:A->A->iW->R A}{ca cb:Ex}(ho:ni X (compareOp op)<|r2 X f)(ha:AE X a ca)(hb:AE X b cb)(hm:behindInMarks op b=false:=by first|exact Jl _|with_unfolding_all rfl):AE X (.Compare a [op] [b] pos) (jc f ca cb):=
 PE.imp (OH ho ha hb hm) λσ H Q h=>rS h
abbrev A.QB:A->iW->bi
 | .non,_=>some false
 | .bl b,_=>some b
 | .int i,_=>some (i != 0)
 | .str x,_=>if x.length<=sizeLine then some ((x.length:Int) != 0)else none
 | .tup xs,_=>some (!xs.isEmpty)
 | .frz xs,_=>some (!xs.isEmpty)
 | .ref n,S=>(iU S n).map λxs=>!xs.isEmpty
 | _,_=>none
abbrev qH (c:Ex):Te:=λτ S=>(c τ S).bind λa S1=>opt (a.QB S1) λb=>.ok b S1
abbrev qP (c:Ex):Te:=λτ S=>(c τ S).bind λa S1=>match a with
 | .bl b=>.ok b S1
 | _=>.no
def Dw{K:au}{H:Hp}{b:Bool}{v:V}(h:AV K ρ H (.bl b) v):v=.bl b:=by cases h;rfl
def jR{op:CmpOp}{f:A->A->iW->R A}{ca cb:Ex}(ho:ni X (compareOp op)<|r2 X f)(ha:AE X a ca)(hb:AE X b cb)(hm:behindInMarks op b=false:=by first|exact Jl _|with_unfolding_all rfl):AT X (.Compare a [op] [b] pos) (qP<|jc f ca cb):=
 PT.imp (P1 ho ha hb hm) λσ H Q h9=>by
  x_go;refine rS ⟨ρ,S,τ,R,r,iX (jb h) .refl λc S1 h1 ρ1 H1 x e1 R1 v1=>?_⟩
  cases c with
  | bl k=>cases Dw v1;exact⟨k,rfl,h1 ρ1 H1 e1 R1⟩
  | _=>exact h1.elim
def U7{K:au}{H:Hp}{x:A}{v:V}{b:Bool}(R:Rel K ρ H S)(h:AV K ρ H x v)(e:x.QB S=some b):VC K v H b:=by
 have d:∀{xs:ae} {f:List V},AVs K ρ H xs f->(!xs.isEmpty)=!f.isEmpty:=λr=>by cases r<;>rfl
 cases h with
 | non=>exact(aZ e).symm
 | bl b=>exact(aZ e).symm
 | int i=>exact(aZ e).symm
 | str x=>
  by_cases g:x.length<=sizeLine
  ·exact⟨g,by have:=(aP g).symm.trans e;exact(aZ this).symm⟩
  ·have:=(aM g).symm.trans e;cases this
 | tup h r=>exact .inr (.inl ⟨_,nj.of h,by rw[<- d r];exact(aZ e).symm⟩)
 | frz h r=>exact .inl ⟨_,h.Pa,by rw[<- d r];exact(aZ e).symm⟩
 | rng h=>cases e
 | ty n=>cases e
 | exn n h x=>cases e
 | ktu h r=>cases e
 | @ref a n h=>
  have e:(iU S n).map (λxs=>!xs.isEmpty)=some b:=e;obtain⟨xs,hn,e⟩:=aW.mp e;obtain⟨f,h1,h2⟩:=R.lst h<|ji hn;exact .inl ⟨f,p7.of h1,by rw[<- d h2];exact e.symm⟩
def oK{ca:Ex}(ha:AE X a ca)(he:(∀whole,isTrue a X.env whole=(do let v <- whole;standAt a.pos;holding [v] (truthy v)))<|>ζ):AT X a (qH ca):=
 PT.imp (JV ha he) λσ H Q ⟨ρ,S,τ,R,r,h⟩=>⟨ρ,S,τ,R,r,iX (jb h) .refl λc S1 h1 ρ1 H1 x e1 R1 v1=>by
  obtain⟨b,hb,h1⟩:=iY h1;exact⟨b,U7 R1 v1 hb,h1 ρ1 H1 e1 R1⟩⟩
abbrev Nn (c:Te):Te:=λτ S=>(c τ S).bind λb S1=>.ok (!b) S1
abbrev wV (c d:Te):Te:=λτ S=>(c τ S).bind λb S1=>match b with|true=>d τ S1|false=>.ok false S1
abbrev SY (c d:Te):Te:=λτ S=>(c τ S).bind λb S1=>match b with|true=>.ok true S1|false=>d τ S1
def ES{c:Te}(h:AT X a c):AT X (.UnaryOp .Not a pos) (Nn c):=PT.imp (TR h) λσ H Q ⟨ρ,S,τ,R,r,h⟩=>⟨ρ,S,τ,R,r,iX (jb h) .refl λb S1 h1=>h1⟩
def and_imp{c d:Te}{H:Hp}{Q:Bool->Hp->Prop}(h:tT X (wV c d) σ H Q):V6 (tT X c) (tT X d) σ H Q:=by
 cb_eq;refine⟨ρ,S,τ,R,r,iX (jb h) .refl λb S1 h1 ρ1 H1 e1 R1=>?_⟩
 cases b with
 | true=>
  rw[aP rfl];kst_p
 | false=>
  rw[aM bL];exact h1 ρ1 H1 e1 R1
def or_imp{c d:Te}{H:Hp}{Q:Bool->Hp->Prop}(h:tT X (SY c d) σ H Q):ZG (tT X c) (tT X d) σ H Q:=by
 cb_eq;refine⟨ρ,S,τ,R,r,iX (jb h) .refl λb S1 h1 ρ1 H1 e1 R1=>?_⟩
 cases b with
 | false=>
  rw[aM bL];kst_p
 | true=>
  rw[aP rfl];exact h1 ρ1 H1 e1 R1
variable {rest:List aE}
def w4{c:Te}(h:AT X a c):AW X (.BoolOp .And [a] pos) c:=Ov h
def EN{c:Te}(h:AT X a c):AW X (.BoolOp .Or [a] pos) c:=Ul h
def A3{c d:Te}(h:AT X a c)(h2:AW X (.BoolOp .And (b::rest) pos) d):AW X (.BoolOp .And (a::b::rest) pos) (wV c d):=PW.imp (Tc h h2) λ_ _ _ q=>and_imp q
def FO{c d:Te}(h:AT X a c)(h2:AW X (.BoolOp .Or (b::rest) pos) d):AW X (.BoolOp .Or (a::b::rest) pos) (SY c d):=PW.imp (WW h h2) λ_ _ _ q=>or_imp q
abbrev JO (c d:Ex):Ex:=λτ S=>(c τ S).bind λa S1=>match a with | .bl true=>d τ S1 | .bl false=>.ok (.bl false) S1|_=>.no
abbrev ZJ (c d:Ex):Ex:=λτ S=>(c τ S).bind λa S1=>match a with | .bl true=>.ok (.bl true) S1 | .bl false=>d τ S1|_=>.no
abbrev U0 (c:Ex):Ex:=λτ S=>(c τ S).bind λa S1=>match a with | .bl b=>.ok (.bl !b) S1|_=>.no
def KN{op}{c:Ex}(h:AE X a c):AE X (.BoolOp op [a] pos) c:=Uw h
def Lk{c d:Ex}(h:AE X a c)(h2:AE X (.BoolOp .And (b::rest) pos) d):AE X (.BoolOp .And (a::b::rest) pos) (JO c d):=PE.imp (Vg h h2) λσ H Q h9=>by
 x_go;refine⟨ρ,S,τ,R,r,iX (jb h) .refl λb S1 h1 ρ1 H1 x e1 R1 v1=>?_⟩
 cases b with
 | bl k=>
  cases Dw v1
  refine⟨k,rfl,?_⟩
  cases k with
  | true=>
   rw[aP rfl];kst_p
  | false=>
   rw[aM bL];exact h1 ρ1 H1 _ e1 R1<|.bl false
 | _=>exact h1.elim
def RH{c:Ex}(h:AE X a c):AE X (.UnaryOp .Not a pos) (U0 c):=PE.imp (UT h) λσ H Q h9=>by
 x_go;refine⟨ρ,S,τ,R,r,iX (jb h) .refl λb S1 h1 ρ1 H1 x e1 R1 v1=>?_⟩
 cases b with
 | bl k=>
  cases Dw v1
  exact⟨k,rfl,h1 ρ1 H1 _ e1 R1<|.bl _⟩
 | _=>exact h1.elim
abbrev YM (t:Te)(c d:Ex):Ex:=λτ S=>(t τ S).bind λb S1=>match b with|true=>c τ S1|false=>d τ S1
def Wg{t:Te}{c d:Ex}{e:aE}(ht:AT X e t)(ha:AE X a c)(hb:AE X b d):AE X (.IfExp e a b pos) (YM t c d):=PE.imp (Nc ht ha hb) λσ H Q h9=>by
 x_go;refine⟨ρ,S,τ,R,r,iX (jb h) .refl λb S1 h1 ρ1 H1 e1 R1=>?_⟩
 cases b with
 | true=>
  rw[aP rfl];kst_p
 | false=>
  rw[aM bL];kst_p
abbrev ja:p6:=λ_ S=>.ok [] S
abbrev iS (c:Ex)(d:p6):p6:=λτ S=>(c τ S).bind λa S1=>(d τ S1).bind λas S2=>.ok (a::as) S2
def jd:AL X [] ja:=PA.imp Eu λσ H Q ⟨ρ,S,τ,R,r,h⟩=>h ρ H _ .refl R .nil
def iV{e:aE}{c:Ex}{d:p6}(ha:AE X e c)(hr:AL X es d)(hs:starEach (e::es) X.env=(false,eval e X.env)::starEach es X.env<|>ε):AL X (e::es) (iS c d):=
 PA.imp (w6 ha hr hs) λσ H Q h9=>by
  x_go;refine⟨ρ,S,τ,R,r,iX (jb h) .refl λa S1 h1 ρ1 H1 x e1 R1 v1=>⟨ρ1,S1,τ,R1,r.ext e1,iX (jb h1) e1 λas S2 h2 ρ2 H2 xs e2 R2 v2=>?_⟩⟩;exact h2 ρ2 H2 _ (e1.trans e2) R2<|.cons (v1.ext e2) v2
abbrev qm (d:p6):Ex:=λτ S=>(d τ S).bind λas S1=>gd (as.length<=sizeLine)<|.ok (.tup as) S1
abbrev newL (as:ae)(S:iW):R A:=gd (as.length<=sizeLine)<|.ok (.ref S.length)<|S++[.lst as]
abbrev wM (d:p6):Ex:=λτ S=>(d τ S).bind λas S1=>newL as S1
def vK{H H0:Hp}{Q:VK}(R:Rel X.K ρ H S)(r:AVs X.K ρ H as vs)(e:Ext ρ0 ρ H0 H)(h:xN X ρ0 H0 Q (.tup as) S):∀p,H p=none->Q (.ref p) (upd H p<|.tup vs):=λp d=>by
 obtain⟨ex,f⟩:=R.im (u:=.tup vs) d;exact h ρ _ _ (e.trans ex) f<|.tup jF<|r.ext ex
def nM{H H0:Hp}{S:iW}{Q:VK}(R:Rel X.K ρ H S)(r:AVs X.K ρ H as vs)(e:Ext ρ0 ρ H0 H)(h:xN X ρ0 H0 Q (.ref S.length)<|S++[.lst as]):∀p,H p=none->Q (.ref p) (upd H p<|.lst vs):=λp f=>by
 obtain⟨ex,d,g⟩:=R.lay f r;exact h _ _ _ (e.trans ex) d<|.ref g
def Ot{H H0:Hp}{vs:List V}{Q:VK}(R:Rel X.K ρ H S)(r:AVs X.K ρ H as vs)(e:Ext ρ0 ρ H0 H)(h:(newL as S).post (xN X ρ0 H0 Q)<|XE X ρ0 H0):vs.length<=sizeLine/\∀p,H p=none->Q (.ref p) (upd H p<|.lst vs):=by
 obtain⟨d,h⟩:=jq h;exact⟨by rw[<- r.length];exact d,nM R r e h⟩
def pW{d:p6}{x1}(h:AL X es d):AE X (.Tuple es x1 pos) (qm d):=PE.imp (Uo h) λσ H Q h9=>by
 x_go;refine⟨ρ,S,τ,R,r,iX (jb h) .refl λas S1 h1 ρ1 H1 xs e1 R1 v1=>?_⟩;obtain⟨f,h1⟩:=jq h1;exact⟨by rw[<- v1.length];exact f,vK R1 v1 e1 h1⟩
def qD{d:p6}(h:AL X es d):AE X (.List es pos) (wM d):=PE.imp (Vn h) λσ H Q ⟨ρ,S,τ,R,r,h⟩=>
 ⟨ρ,S,τ,R,r,iX (jb h) .refl λas S1 h1 ρ1 H1 xs e1 R1 v1=>Ot R1 v1 e1 h1⟩
end
section
variable {X:Cx}{pos:Pos}{a b:aE}
abbrev aSub (a b:A)(S:iW):R A:=match a,b with
 | .int i,.int j=>.ok (.int<|i-j) S
 | _,_=>.no
def uB:ni X (binaryOp .Sub) (r2 X aSub):=ni.imp Tp λx y H Q h9=>by
 z_go
 cases va<;>first|exact h.elim|(cases vb<;>first|exact h.elim|exact⟨_,_,rfl,rfl,h _ _ _ .refl R<|.int _⟩)
abbrev vA (i j:Int):Bool:=(decide (-(2 ^ 64)<i) && decide (i<2 ^ 64)) || (decide (-(2 ^ 64)<j) && decide (j<2 ^ 64))
def mulOk_of{i j:Int}(h:vA i j=true):N9 i j:=by
 unfold vA at h;dsimp[Bool.or_eq_true,cX,gh]at h;exact h
abbrev tZ (a b:A)(S:iW):R A:=match a,b with
 | .int i,.int j=>gd (vA i j) (.ok (.int<|i * j) S)
 | .ref n,.int k=>opt (iU S n) λxs=>gd (-(2 ^ 63)<=k/\k<2 ^ 63/\xs.length * k.toNat<=sizeLine) (.ok (.ref S.length)<|S++[.lst (List.replicate k.toNat xs).flatten])
 | _,_=>.no
theorem AVs.rep{K:au}{H:Hp}(r:AVs K ρ H xs vs):∀k:Nat,AVs K ρ H (List.replicate k xs).flatten (List.replicate k vs).flatten
 | 0=>.nil
 | k+1=>by rw[c6,c6,dX,dX];exact r.append<|AVs.rep r k
def yI:ni X (binaryOp .Mult) (r2 X tZ):=λpins s σ H x y v u Q I rx ry h9=>by
 z_go
 cases va with
 | int i=>
  cases vb with
  | int j=>
   obtain⟨f,h⟩:=jq h;exact Sd pins s σ H _ _ v u Q I rx ry ⟨i,j,rfl,rfl,mulOk_of f,h _ _ _ .refl R<|.int _⟩
  | _=>exact h.elim
 | @ref p n g=>
  cases vb with
  | int k=>
   kcj_m;obtain⟨hc,h⟩:=jq h;obtain⟨d,h1,h2⟩:=R.lst g<|ji hn;exact SK pins s σ H _ _ v u Q I rx ry ⟨p,k,d,rfl,rfl,h1,hc.1,hc.2.1,by rw[<- h2.length];exact hc.2.2,nM R (h2.rep _) .refl h⟩
  | _=>exact h.elim
 | _=>exact h.elim
abbrev xG (a b:A)(S:iW):R A:=match a,b with
 | .int i,.int j=>gd (0<j/\j<18446744073709551616) (.ok (.int<|i / j) S)
 | _,_=>.no
def Bw:ni X (binaryOp .FloorDiv) (r2 X xG):=ni.imp K_ λx y H Q h9=>by
 z_go
 cases va<;>first|exact h.elim|(cases vb<;>first|exact h.elim|exact⟨_,_,rfl,rfl,(jq h).1,(jq h).2 _ _ _ .refl R<|.int _⟩)
abbrev Bm (a b:A)(S:iW):R A:=match a,b with
 | .int i,.int j=>gd (0<j) (.ok (.int<|i % j) S)
 | _,_=>.no
def zk:ni X (binaryOp .Mod) (r2 X Bm):=ni.imp Vu λx y H Q h9=>by
 z_go
 cases va<;>first|exact h.elim|(cases vb<;>first|exact h.elim|exact⟨_,_,rfl,rfl,(jq h).1,(jq h).2 _ _ _ .refl R<|.int _⟩)
abbrev TM (a b:A)(S:iW):R A:=match a,b with
 | .int i,.int j=>gd (0<=j/\j<=1000000/\i.natAbs<2 ^ 64) (.ok (.int<|i ^ j.toNat) S)
 | _,_=>.no
def V9:ni X (binaryOp .Pow) (r2 X TM):=ni.imp U1 λx y H Q h9=>by
 z_go
 cases va<;>first|exact h.elim|(cases vb<;>first|exact h.elim|exact⟨_,_,rfl,rfl,(jq h).1,(jq h).2 _ _ _ .refl R<|.int _⟩)
abbrev rK (a b:A)(S:iW):R A:=match a,b with
 | .int i,.int j=>.ok (.int<|i+j) S
 | .tup xs,.tup ys=>gd (xs.length+ys.length<=sizeLine) (.ok (.tup<|xs++ys) S)
 | .str x,.str y=>gd (x.length+y.length<=sizeLine) (.ok (.str<|x++y) S)
 | .ref n,.ref m=>opt (iU S n) λxs=>opt (iU S m) λys=>gd (xs.length+ys.length<=sizeLine) (.ok (.ref S.length)<|S++[.lst<|xs++ys])
 | _,_=>.no
def AVs.nil_inv{K:au}{H:Hp}(r:AVs K ρ H xs vs):xs=[] ↔ vs=[]:=by cases r<;>simp
def rW:ni X (binaryOp .Add) (r2 X rK):=λpins s σ H x y v u Q I rx ry h9=>by
 z_go
 cases va with
 | int i=>
  cases vb with
  | int j=>exact Vh pins s σ H _ _ v u Q I rx ry ⟨i,j,rfl,rfl,h _ _ _ .refl R<|.int _⟩
  | _=>exact h.elim
 | str x=>
  cases vb with
  | str y=>
   obtain⟨hc,h⟩:=jq h;exact EB pins s σ H _ _ v u Q I rx ry ⟨x,y,rfl,rfl,hc,h _ _ _ .refl R<|.str _⟩
  | _=>exact h.elim
 | @tup p xs d h1 r1=>
  cases vb with
  | @tup q ys f h2 r2=>
   obtain⟨hc,h⟩:=jq h;by_cases hv:d=[]
   ·have B:=r1.nil_inv.mpr hv;subst hv B;exact NP pins s σ H _ _ v u Q I rx ry ⟨p,q,f,rfl,rfl,nj.of h1,nj.of h2,h _ _ _ .refl R<|.tup h2 r2⟩
   ·refine Ol pins s σ H _ _ v u Q I rx ry ⟨p,q,d,f,rfl,rfl,nj.of h1,nj.of h2,hv,by rw[<- r1.length,<- r2.length];exact hc,λe=>?_,λ_=>vK R (r1.append r2) .refl h⟩;have hy:=r2.nil_inv.mpr e;subst hy;rw[b9]at h;exact h _ _ _ .refl R<|.tup h1 r1
  | _=>exact h.elim
 | @ref p n t=>
  cases vb with
  | @ref q m hq=>
   kcj_m;obtain⟨ys,k,h⟩:=iY h;obtain⟨hc,h⟩:=jq h;obtain⟨d,h1,h2⟩:=R.lst t<|ji hn;obtain⟨f,h3,g⟩:=R.lst hq<|ji k;exact TX pins s σ H _ _ v u Q I rx ry ⟨p,q,d,f,rfl,rfl,h1,h3,by rw[<- h2.length,<- g.length];exact hc,nM R (h2.append g) .refl h⟩
  | _=>exact h.elim
 | _=>exact h.elim
abbrev A.ints:ae->Option (ag)
 | []=>some []
 | .int i::xs=>(A.ints xs).map (i::·)
 | _=>none
def RX{x:A}{bs:ag}(e:A.ints (x::xs)=some bs):∃b cs,x=.int b/\A.ints xs=some cs/\bs=b::cs:=by
 unfold A.ints at e;split at e
 ·rename_i z;cases z
 ·rename_i i ys z
  cases z
  obtain⟨cs,h1,h2⟩:=aW.mp e;exact⟨i,cs,rfl,h1,h2.symm⟩
 ·cases e
def oZ{K:au}{H:Hp}:∀{xs:ae}{vs:List V}{bs:ag},AVs K ρ H xs vs->A.ints xs=some bs->vs=bs.map V.int:=by
 intro xs
 induction xs with
 | nil=>
  intro vs bs h e
  cases h
  cases e
  rfl
 | cons x xs d=>
  intro vs bs h e;obtain⟨b,f,rfl,e1,rfl⟩:=RX e
  cases h with
  | cons h t=>
   cases h
   rw[d t e1];rfl
abbrev Vi (a b:A)(S:iW):R A:=match a,b with
 | .int i,.int j=>.ok (.bl<|decide<|i<j) S
 | _,_=>.no
def PR(hu:X.A.units+64<cLine):ni X (compareOp .Lt) (r2 X Vi):=λpins s σ H x y v u Q I rx ry h9=>by
 z_go
 cases va with
 | int i=>
  cases vb with
  | int j=>exact Wr pins s σ H _ _ v u Q I rx ry ⟨i,j,rfl,rfl,h _ _ _ .refl R<|.bl _⟩
  | _=>exact h.elim
 | _=>exact h.elim
abbrev Yk (a b:A)(S:iW):R A:=match a,b with
 | .int i,.int j=>.ok (.bl<|decide<|i<=j) S
 | _,_=>.no
def Zx:ni X (compareOp .LtE) (r2 X Yk):=ni.imp Xq λx y H Q h9=>by
 z_go
 cases va<;>first|exact h.elim|(cases vb<;>first|exact h.elim|exact⟨_,_,rfl,rfl,h _ _ _ .refl R<|.bl _⟩)
abbrev QV (a b:A)(S:iW):R A:=match a,b with
 | .int i,.int j=>.ok (.bl<|decide<|j<i) S
 | _,_=>.no
def LC(hu:X.A.units+64<cLine):ni X (compareOp .Gt) (r2 X QV):=λpins s σ H x y v u Q I rx ry h9=>by
 z_go
 cases va with
 | int i=>
  cases vb with
  | int j=>exact Xb pins s σ H _ _ v u Q I rx ry ⟨i,j,rfl,rfl,h _ _ _ .refl R<|.bl _⟩
  | _=>exact h.elim
 | _=>exact h.elim
abbrev Zp (a b:A)(S:iW):R A:=match a,b with
 | .int i,.int j=>.ok (.bl<|decide<|j<=i) S
 | _,_=>.no
def YA:ni X (compareOp .GtE) (r2 X Zp):=ni.imp Xi λx y H Q h9=>by
 z_go
 cases va<;>first|exact h.elim|(cases vb<;>first|exact h.elim|exact⟨_,_,rfl,rfl,h _ _ _ .refl R<|.bl _⟩)
abbrev Qw (neg:Bool)(a b:A)(S:iW):R A:=match a,b with
 | .bl i,.bl j=>.ok (.bl<|if neg then i != j else i == j) S
 | .non,.non=>.ok (.bl<|!neg) S
 | .unb,.non=>.no
 | .exn _,.non=>.no
 | _,.non=>.ok (.bl neg) S
 | _,_=>.no
abbrev XG (f:A->iW->R A)(c:Ex):Ex:=λτ S=>(c τ S).bind λa S1=>f a S1
abbrev HL (a:A)(S:iW):R A:=match a with
 | .int i=>.ok (.int<|-i) S
 | _=>.no
def Xz:X6 X (unaryOp .USub) (r1 X HL):=λpins s σ H x v Q I rx h9=>by
 obtain⟨ρ,S,a,R,va,h⟩:=h9
 cases va with
 | int i=>exact Vd pins s σ H _ v Q I rx ⟨i,rfl,h _ _ _ .refl R<|.int _⟩
 | _=>exact h.elim
def UI{f:A->iW->R A}{c:Ex}{H:Hp}{Q:VK}(h:tE X (XG f c) σ H Q):Z3 (r1 X f) (tE X c) σ H Q:=by
 cb_eq;exact⟨ρ,S,τ,R,r,iX (jb h) .refl λa S1 h1 ρ1 H1 x e1 R1 v1=>⟨ρ1,S1,a,R1,v1,iX h1 e1 λc S3 h3=>h3.ext e1⟩⟩
def MG{c:Ex}(h:AE X a c):AE X (.UnaryOp .USub a pos) (XG HL c):=PE.imp (Xj Xz h) λ_ _ _ q=>UI q
abbrev pI (a b:A)(S:iW):R A:=match a,b with
 | .tup xs,.int i=>opt (rV xs i) λx=>.ok x S
 | .frz xs,.int i=>opt (rV xs i) λx=>.ok x S
 | .ref n,.int i=>opt (iU S n) λxs=>opt (rV xs i) λx=>.ok x S
 | .str z,.int i=>gd (z.length<=sizeLine) (opt (rV z.cps.toList i) λc=>.ok (.str ⟨#[c]⟩) S)
 | _,_=>.no
def AVs.rV{K:au}{H:Hp}{i:Int}{x:A}(r:AVs K ρ H xs vs)(h:L2.rV xs i=some x):∃v,L2.rV vs i=some v/\AV K ρ H x v:=by
 unfold L2.rV at h ⊢;rw[<- r.length]
 cases d:DJ xs.length i with
 | none=>rw[d]at h;cases h
 | some j=>
  rw[d]at h;exact r.get h
def WK:OX X (r2 X pI):=λf d pins s σ H x y v u Q I rx ry ⟨ρ,S,a,b,R,va,vb,h⟩ hs=>by
 cases va with
 | @tup p xs g h1 r1=>
  cases vb with
  | int i=>
   obtain⟨x,j,h⟩:=iY h;obtain⟨z,e,q⟩:=r1.rV j;exact VB f d pins s σ H _ _ v u Q I rx ry ⟨p,g,i,z,rfl,rfl,nj.of h1,e,h _ _ _ .refl R q⟩ hs
  | _=>exact h.elim
 | @frz p xs g h1 r1=>
  cases vb with
  | int i=>
   obtain⟨x,j,h⟩:=iY h;obtain⟨z,e,q⟩:=r1.rV j;exact GV f d pins s σ H _ _ v u Q I rx ry ⟨p,g,i,z,rfl,rfl,h1.Pa,e,h _ _ _ .refl R q⟩ hs
  | _=>exact h.elim
 | @ref p n m=>
  cases vb with
  | int i=>
   kcj_m;obtain⟨x,j,h⟩:=iY h;obtain⟨g,h1,r1⟩:=R.lst m<|ji hn;obtain⟨z,e,q⟩:=r1.rV j;exact GV f d pins s σ H _ _ v u Q I rx ry ⟨p,g,i,z,rfl,rfl,p7.of h1,e,h _ _ _ .refl R q⟩ hs
  | _=>exact h.elim
 | str z=>
  cases vb with
  | int i=>
   obtain⟨k,h⟩:=jq h;obtain⟨c,hc,h⟩:=iY h;exact Ux f d pins s σ H _ _ v u Q I rx ry ⟨z,i,c,rfl,rfl,k,hc,h _ _ _ .refl R<|.str _⟩ hs
  | _=>exact h.elim
 | _=>exact h.elim
def lE{ca cb:Ex}(ha:AE X a ca)(hb:AE X b cb)(hs:vI b<|>θ):AE X (.Subscript a b pos) (jc pI ca cb):=PE.imp (F0 WK ha hb hs) λσ H Q h=>rS h
end
abbrev rX (f:A->A->bi):ae->ae->bi
 | [],[]=>some true
 | x::xs,y::ys=>(f x y).bind λp=>(rX f xs ys).map λq=>p && q
 | _,_=>some false
inductive Sh
 | non
 | bl (b:Bool)
 | int (i:Int)
 | str (x:Str)
 | tup (xs:ae)
 | lst
abbrev RN (S:iW):A->Option Sh
 | .non=>some .non
 | .bl b=>some (.bl b)
 | .int i=>some (.int i)
 | .str x=>some (.str x)
 | .tup xs=>some (.tup xs)
 | .ref i=>(iU S i).map λ_=>.lst
 | _=>none
abbrev O9 (f:A->A->bi):Sh->Sh->bi
 | .non,.non=>some true
 | .bl x,.bl y=>some (x == y)
 | .bl x,.int y=>some ((if x then 1 else 0) == y)
 | .int x,.bl y=>some (x == (if y then 1 else 0))
 | .int x,.int y=>some (x == y)
 | .str x,.str y=>some (x == y)
 | .tup xs,.tup ys=>rX f xs ys
 | .lst,.lst=>none
 | _,_=>some false
abbrev uG (S:iW):Nat->A->A->bi
 | 0,_,_=>none
 | n+1,a,b=>match a,b with
  | .ref i,.ref j=>(iU S i).bind λxs=>(iU S j).bind λys=>rX (uG S n) xs ys
  | _,_=>(RN S a).bind λx=>(RN S b).bind λy=>O9 (uG S n) x y
section
variable {X:Cx}{pins:bn}{σ:L2.St}{H:Hp}{s:aC}{ρ:bb}{S:iW}
inductive KdV (s:aC):Sh->af->Prop
 | non:KdV s .non .none
 | bl (b:Bool):KdV s (.bl b) (.bool b)
 | int (i:Int) (t:Tok):KdV s (.int i) (.int i t)
 | str (x:Str) (t:Tok):KdV s (.str x) (.str x t)
 | tup {p:ak} {us:ba} (xs:ae) (h:s.heap.IsTuple p us.toArray):KdV s (.tup xs) (.ref p)
 | lst {p:ak} {us:ba} (h:s.heap.IsList p us.toArray):KdV s .lst<|.ref p
def Hl{p:ak}(h:s.heap.IsTuple p us)(h':s.heap.IsList p ws):False:=by
 obtain⟨o,e,c,_⟩:=h;obtain⟨o',d,f,_⟩:=h';rw[e]at d
 cases d
 exact absurd (c.symm.trans f) ⋯
def Hz(I:Inv X pins σ H s)(R:Rel X.K ρ H S){a:A}{x:V}(ha:AV X.K ρ H a x)(r:RelV x u)(e:RN S a=some h):KdV s h u:=by
 cases ha with
 | non=>cases e;cases(show u=Value.none from r);exact .non
 | bl b=>cases e;cases(show u=Value.bool b from r);exact .bl b
 | int i=>cases e;obtain⟨t,rfl⟩:∃t,u=Value.int i t:=r;exact .int i t
 | str i=>cases e;obtain⟨t,rfl⟩:∃t,u=Value.str i t:=r;exact .str i t
 | tup h1 r1=>cases e;cases(show u=Value.ref _ from r);obtain⟨us,_,p,_⟩:=I.tuple<|nj.of h1;exact .tup _ p
 | ref h1=>
  obtain⟨xs,e1,rfl⟩:=aW.mp e
  cases(show u=Value.ref _ from r)
  obtain⟨d,h3,r1⟩:=R.lst h1<|ji e1;obtain⟨us,_,p,_⟩:=I.list<|p7.of h3;exact .lst p.isList
 | _=>cases e
abbrev Al (B:aA)(s:aC)(u v:af)(k:Bool):Prop:=SeqAt.RcAt B s u v k/\SeqAt.EqAt B s u v k/\SeqAt.RcNeAt B s u v (!k)
def Wh{B:aA}(hu:B.units<cLine){f:A->A->bi}{v:af}{k:Bool}(d:KdV s h u)(d':KdV s h' v)(nt:∀xs ys,h=.tup xs->h'≠.tup ys)(e:O9 f h h'=some k):Al B s u v k:=by
 cases d with
 | non=>cases d' with
  | non=>cases e;exact⟨.none_none,.same _,.none_none⟩
  | bl b=>cases e;exact⟨.none_bool _,.none_bool _,.none_bool _⟩
  | int i t=>cases e;exact⟨.none_int _ _,.none_int _ _,.none_int _ _⟩
  | str x t=>cases e;exact⟨.none_str _ _,.none_str _ _,.none_str _ _⟩
  | tup xs p=>cases e;exact⟨.none_tuple p hu,.none_tuple p hu,.none_tuple p hu⟩
  | lst p=>cases e;exact⟨.none_list p hu,.none_list p hu,.none_list p hu⟩
 | bl c=>cases d' with
  | non=>cases e;exact⟨.bool_none _,.bool_none _,.bool_none _⟩
  | bl b=>cases e;exact⟨.bool_bool _ _,.bool_bool _ _,.bool_bool _ _⟩
  | int i t=>cases e;exact⟨.bool_int _ _ _,.bool_int _ _ _,.bool_int _ _ _⟩
  | str x t=>cases e;exact⟨.bool_str _ _ _,.bool_str _ _ _,.bool_str _ _ _⟩
  | tup xs p=>cases e;exact⟨.bool_tuple _ p hu,.bool_tuple _ p hu,.bool_tuple _ p hu⟩
  | lst p=>cases e;exact⟨.bool_list _ p hu,.bool_list _ p hu,.bool_list _ p hu⟩
 | int c j=>cases d' with
  | non=>cases e;exact⟨.int_none _ _,.int_none _ _,.int_none _ _⟩
  | bl b=>cases e;exact⟨.int_bool _ _ _,.int_bool _ _ _,.int_bool _ _ _⟩
  | int i t=>cases e;exact⟨.int_int _ _ _ _,.int_int _ _ _ _,.int_int _ _ _ _⟩
  | str x t=>cases e;exact⟨.int_str _ _ _ _,.int_str _ _ _ _,.int_str _ _ _ _⟩
  | tup xs p=>cases e;exact⟨.int_tuple _ _ p hu,.int_tuple _ _ p hu,.int_tuple _ _ p hu⟩
  | lst p=>cases e;exact⟨.int_list _ _ p hu,.int_list _ _ p hu,.int_list _ _ p hu⟩
 | str c j=>cases d' with
  | non=>cases e;exact⟨.str_none _ _,.str_none _ _,.str_none _ _⟩
  | bl b=>cases e;exact⟨.str_bool _ _ _,.str_bool _ _ _,.str_bool _ _ _⟩
  | int i t=>cases e;exact⟨.str_int _ _ _ _,.str_int _ _ _ _,.str_int _ _ _ _⟩
  | str x t=>cases e;exact⟨.str_str _ _ _ _,.str_str _ _ _ _,.str_str _ _ _ _⟩
  | tup xs p=>cases e;exact⟨.str_tuple _ _ p hu,.str_tuple _ _ p hu,.str_tuple _ _ p hu⟩
  | lst p=>cases e;exact⟨.str_list _ _ p hu,.str_list _ _ p hu,.str_list _ _ p hu⟩
 | tup zs g=>cases d' with
  | non=>cases e;exact⟨.tuple_none g hu,.tuple_none g hu,.tuple_none g hu⟩
  | bl b=>cases e;exact⟨.tuple_bool _ g hu,.tuple_bool _ g hu,.tuple_bool _ g hu⟩
  | int i t=>cases e;exact⟨.tuple_int _ _ g hu,.tuple_int _ _ g hu,.tuple_int _ _ g hu⟩
  | str x t=>cases e;exact⟨.tuple_str _ _ g hu,.tuple_str _ _ g hu,.tuple_str _ _ g hu⟩
  | tup xs p=>exact absurd rfl (nt _ _ rfl)
  | lst p=>cases e;exact⟨.tuple_list g p hu,.of_refs (λz=>by subst z;exact Hl g p)<|.tuple_list g p hu,.tuple_list g p hu⟩
 | lst g=>cases d' with
  | non=>cases e;exact⟨.list_none g hu,.list_none g hu,.list_none g hu⟩
  | bl b=>cases e;exact⟨.list_bool _ g hu,.list_bool _ g hu,.list_bool _ g hu⟩
  | int i t=>cases e;exact⟨.list_int _ _ g hu,.list_int _ _ g hu,.list_int _ _ g hu⟩
  | str x t=>cases e;exact⟨.list_str _ _ g hu,.list_str _ _ g hu,.list_str _ _ g hu⟩
  | tup xs p=>cases e;exact⟨.list_tuple g p hu,.of_refs (λz=>by subst z;exact Hl p g)<|.list_tuple g p hu,.list_tuple g p hu⟩
  | lst p=>cases e
def A8{a:A}{x:V}(h:AV X.K ρ H a x)(e:RN S a=some (.tup xs)):a=.tup xs/\∃p vs,x=.ref p/\H p=some (.tup vs)/\AVs X.K ρ H xs vs:=by
 cases h with
 | tup h r=>cases e;exact⟨rfl,_,_,rfl,h,r⟩
 | ref h=>obtain⟨_,_,z⟩:=aW.mp e;cases z
 | _=>cases e
def z_{i:Nat}{x:V}(h:AV X.K ρ H (.ref i) x):∃p,x=.ref p/\ρ[i]?=some p:=by
 cases h with
 | ref h=>exact⟨_,rfl,h⟩
def KA{a:A}(e:RN S a=some .lst):∃i,a=.ref i:=by
 cases a with
 | ref i=>exact⟨i,rfl⟩
 | _=>cases e
def Kh{n:Nat}{a b:A}{k:Bool}(e:uG S (n+1) a b=some k):(∃i j xs ys,a=.ref i/\b=.ref j/\iU S i=some xs/\iU S j=some ys/\rX (uG S n) xs ys=some k)\/(∃h h',RN S a=some h/\RN S b=some h'/\O9 (uG S n) h h'=some k/\(h=.lst->h'≠.lst)):=by
 unfold uG at e;split at e
 ·obtain⟨xs,e1,e⟩:=b8.mp e;obtain⟨ys,e2,e⟩:=b8.mp e;exact .inl ⟨_,_,xs,ys,rfl,rfl,e1,e2,e⟩
 ·rename_i g;obtain⟨h,e1,e⟩:=b8.mp e;obtain⟨h',e2,e⟩:=b8.mp e;refine .inr ⟨h,h',e1,e2,e,λf d=>?_⟩;subst f d;obtain⟨i,rfl⟩:=KA e1;obtain⟨j,rfl⟩:=KA e2;exact g i j rfl rfl
def Qf{f:A->A->bi}{k:Bool}(d:KdV s h u)(d':KdV s h' u)(nt:∀xs ys,h=.tup xs->h'≠.tup ys)(e:O9 f h h'=some k):k=true:=by
 cases d with
 | non=>cases d';exact(aZ e).symm
 | bl b=>cases d';exact(aZ e).symm.trans (cI b)
 | int b=>cases d';exact(aZ e).symm.trans (cI b)
 | str b=>cases d';exact(aZ e).symm.trans (cI b)
 | tup xs p=>cases d' with
  | tup=>exact absurd rfl (nt _ _ rfl)
  | lst q=>exact(Hl p q).elim
 | lst p=>cases d' with
  | tup _ q=>exact(Hl q p).elim
  | lst q=>cases e
def B9{f:A->A->bi}(hf:∀a b x u k,AV X.K ρ H a x->AV X.K ρ H b x->RelV x u->f a b=some k->k=true):∀{xs ys:ae}{vs:List V}{us:ba}{k:Bool},AVs X.K ρ H xs vs->AVs X.K ρ H ys vs->Vals vs us->rX f xs ys=some k->k=true:=by
 intro xs ys vs us k h1 h2 q e
 induction q generalizing xs ys k with
 | nil=>cases h1;cases h2;exact(aZ e).symm
 | cons g _ d=>
  cases h1 with
  | cons h t=>cases h2 with
   | cons h' j=>
    obtain⟨p,e1,e⟩:=b8.mp e;obtain⟨q,e2,e3⟩:=aW.mp e;rw[<- e3,hf _ _ _ _ p h h' g e1,d t j e2];rfl
def GJ(h h':Sh):(∃xs ys,h=.tup xs/\h'=.tup ys)\/(∀xs ys,h=.tup xs->h'≠.tup ys):=by
 cases h with
 | tup xs=>cases h' with
  | tup ys=>exact .inl ⟨xs,ys,rfl,rfl⟩
  | _=>exact .inr λ_ _ _ z=>nomatch z
 | _=>exact .inr λ_ _ z=>nomatch z
theorem Aw(I:Inv X pins σ H s)(R:Rel X.K ρ H S):∀(n:Nat) (a b:A) (x:V) (u:af) (k:Bool),AV X.K ρ H a x->AV X.K ρ H b x->RelV x u->uG S n a b=some k->k=true
 | 0,_,_,_,_,_,_,_,_,e=>nomatch e
 | n+1,a,b,x,u,k,ha,hb,ru,e=>by
  rcases Kh e with⟨i,j,xs,ys,rfl,rfl,e1,e2,e⟩|⟨h,h',e1,e2,e,_⟩
  ·obtain⟨p,rfl,h1⟩:=z_ ha;obtain⟨q,z,h2⟩:=z_ hb
   cases z
   obtain⟨f,h3,r1⟩:=R.lst h1<|ji e1;obtain⟨g,d,r2⟩:=R.lst h2<|ji e2;rw[h3]at d
   cases d
   obtain⟨us,q,_⟩:=I.list<|p7.of h3;exact B9 (λa b x u k=>Aw I R n a b x u k) r1 r2 q e
  ·rcases GJ h h' with⟨xs,ys,rfl,rfl⟩|m
   ·obtain⟨rfl,p,f,rfl,h3,r1⟩:=A8 ha e1;obtain⟨rfl,q,g,z,d,r2⟩:=A8 hb e2
    cases z
    have:=I.zX (nj.of h3)<|nj.of d;subst this;obtain⟨us,q,_⟩:=I.tuple<|nj.of h3;exact B9 (λa b x u k=>Aw I R n a b x u k) r1 r2 q e
   ·exact Qf (Hz I R ha ru e1) (Hz I R hb ru e2) m e
abbrev y9 (f:A->A->bi)(xs ys:ae)(j:Nat):Bool:=match xs[j]?,ys[j]? with
 | some x,some y=>(f x y).getD true
 | _,_=>true
theorem xE{f:A->A->bi}:∀{xs ys:ae}{k:Bool},rX f xs ys=some k->k=((List.range<|min xs.length ys.length).all (y9 f xs ys) && xs.length == ys.length)/\∀j x y,xs[j]?=some x->ys[j]?=some y->f x y=some (y9 f xs ys j)
 | [],[],k,e=>⟨(aZ e).symm,λj x y h=>by simp at h⟩
 | [],_::_,k,e=>⟨(aZ e).symm,λj x y h=>by simp at h⟩
 | _::_,[],k,e=>⟨(aZ e).symm,λj x y _ h=>by simp at h⟩
 | x::xs,y::ys,k,e=>by
  unfold rX at e
  cases e1:f x y with
  | none=>rw[e1]at e;cases e
  | some p=>
   rw[e1]at e;obtain⟨q,e2,e3⟩:=aW.mp e;obtain⟨h1,h2⟩:=xE e2;have d:y9 f (x::xs) (y::ys) 0=p:=by simp[y9,e1]
   have ps:∀j,y9 f (x::xs) (y::ys) (j+1)=y9 f xs ys j:=λj=>by simp[y9]
   refine⟨?_,λj a b ha hb=>?_⟩
   ·rw[<- e3,h1,bN,bN,Nat.succ_min_succ,List.range_succ_eq_map,List.all_cons,all_map,d];have:(y9 f (x::xs) (y::ys) ∘ Nat.succ)=y9 f xs ys:=funext ps;rw[this,Bool.and_assoc];simp
   ·cases j with
    | zero=>
     simp at ha hb;subst ha hb;rw[d];exact e1
    | succ j=>rw[ps];exact h2 j a b (by simpa using ha)<|by simpa using hb
def xh{f:A->A->bi}{B:aA}(hf:∀a b x y u v k,AV X.K ρ H a x->AV X.K ρ H b y->RelV x u->RelV y v->f a b=some k->SeqAt.EqAt B s u v k){us ts:ba}{k:Bool}
  (r1:AVs X.K ρ H xs vs) (r2:AVs X.K ρ H ys ws) (q1:Vals vs us) (q2:Vals ws ts) (e:rX f xs ys=some k):∀j (h1:j<us.toArray.size) (h2:j<ts.toArray.size),SeqAt.EqAt B s us.toArray[j] ts.toArray[j] (y9 f xs ys j):=by
 intro j h1 h2;have M:=r1.length;have L:=r2.length;have J:=q1.length;have N:=q2.length;have F:j<xs.length:=by simp at h1;lia
 have hy:j<ys.length:=by simp at h2;lia
 have e1:xs[j]?=some xs[j]:=aH F;have e2:ys[j]?=some ys[j]:=aH hy;obtain⟨x,ex,G⟩:=r1.get e1;obtain⟨y,p,d⟩:=r2.get e2;obtain⟨u,g,m⟩:=q1.get ex;obtain⟨t,q,rt⟩:=q2.get p;have C:us.toArray[j]=u:=by
  have:us[j]?=some us.toArray[j]:=by simp at h1;simp[h1]
  rw[g]at this;exact(aZ this).symm
 have D:ts.toArray[j]=t:=by
  have:ts[j]?=some ts.toArray[j]:=by simp at h2;simp[h2]
  rw[q]at this;exact(aZ this).symm
 rw[C,D];exact hf _ _ x y u t _ G d m rt<|(xE e).2 j _ _ e1 e2
def in1_units(B:aA):B.in1.units=B.units+1:=rfl
theorem G1(I:Inv X pins σ H s)(R:Rel X.K ρ H S):∀(n:Nat) (B:aA) (a b:A) (x y:V) (u v:af) (k:Bool),B.units+n<cLine->AV X.K ρ H a x->AV X.K ρ H b y->RelV x u->RelV y v->uG S n a b=some k->Al B s u v k
 | 0,_,_,_,_,_,_,_,_,_,_,_,_,_,e=>nomatch e
 | n+1,B,a,b,x,y,u,v,k,hu,ha,hb,rx,ry,e=>by
  have f:B.units<cLine:=()
  have d:∀a b x y u v k,AV X.K ρ H a x->AV X.K ρ H b y->RelV x u->RelV y v->uG S n a b=some k->SeqAt.EqAt B.in1 s u v k:=λa b x y u v k h1 h2 h3 F T=>(G1 I R n B.in1 a b x y u v k (by rw[in1_units];lia) h1 h2 h3 F T).2.1;have same:=λ(z:y=x)=>Aw I R (n+1) a b x u k ha (z ▸ hb) rx e;have m:∀{p q:ak},x=.ref p->y=.ref q->u=.ref p->v=.ref q->SeqAt.RcAt B s u v k->SeqAt.EqAt B s u v k:=λ{p q} g t z3 z4 h=>by
   subst z3 z4;by_cases L:p=q
   ·subst L;rw[same<|t.trans g.symm];exact .same _
   ·exact .of_refs L h
  rcases Kh e with⟨i,j,xs,ys,rfl,rfl,e1,e2,e⟩|⟨h,h',e1,e2,e,_⟩
  ·obtain⟨p,rfl,h1⟩:=z_ ha;obtain⟨q,rfl,h2⟩:=z_ hb;obtain⟨N,h3,r1⟩:=R.lst h1<|ji e1;obtain⟨U,F,r2⟩:=R.lst h2<|ji e2;obtain⟨us,C,p1,_⟩:=I.list<|p7.of h3;obtain⟨ts,D,p2,_⟩:=I.list<|p7.of F;have J:=m rfl rfl rx ry
   cases(show u=Value.ref p from rx)
   cases(show v=Value.ref q from ry)
   have P:=r1.length;have Y:=r2.length;have O:=C.length;have Z:=D.length;have ek:=(xE e).1;by_cases M:xs.length=ys.length
   ·rw[<- M,Nat.min_self,cI,Bool.and_true]at ek;have G:us.toArray.size=ts.toArray.size:=by simp;lia
    have g:=SeqAt.RcAt.lists p1.isList p2.isList G f<|xh d r1 r2 C D e;have t:=SeqAt.RcNeAt.lists p1.isList p2.isList G f<|xh d r1 r2 C D e;rw[a_,<- O,<- P,<- ek]at g t;exact⟨g,J g,t⟩
   ·have:(xs.length == ys.length)=false:=by simpa using M
    rw[this,Bool.and_false]at ek;subst ek;have G:(us.toArray.size != ts.toArray.size)=true:=by simp;lia
    have g:=SeqAt.RcAt.lists_lengths p1.isList p2.isList G f;exact⟨g,J g,SeqAt.RcNeAt.lists_lengths p1.isList p2.isList G f⟩
  ·rcases GJ h h' with⟨xs,ys,rfl,rfl⟩|W
   ·obtain⟨rfl,p,N,rfl,h3,r1⟩:=A8 ha e1;obtain⟨rfl,q,U,rfl,F,r2⟩:=A8 hb e2;have J:=m rfl rfl rx ry
    cases(show u=Value.ref p from rx)
    cases(show v=Value.ref q from ry)
    obtain⟨us,C,p1,_⟩:=I.tuple<|nj.of h3;obtain⟨ts,D,p2,_⟩:=I.tuple<|nj.of F;have ek:=(xE e).1;have g:=SeqAt.RcAt.tuples p1 p2 f<|xh d r1 r2 C D e;have t:=SeqAt.RcNeAt.tuples p1 p2 f<|xh d r1 r2 C D e;rw[a_,a_,<- C.length,<- D.length,<- r1.length,<- r2.length,<- ek]at g t;exact⟨g,J g,t⟩
   ·exact Wh f (Hz I R ha rx e1) (Hz I R hb ry e2) W e
end
section
variable {X:Cx}
abbrev u7 (neg:Bool)(a b:A)(S:iW):R A:=opt (uG S 12 a b) λk=>.ok (.bl<|if neg then !k else k) S
def Pw(hu:X.A.units+64<cLine):ni X (compareOp .Eq) (r2 X<|u7 false):=λpins s σ H x y v u Q I rx ry h9=>by
 z_go;obtain⟨k,e,h⟩:=iY h;exact(G1 I R 12 X.A a b x y v u k (by omega) va vb rx ry e).1 _ _ _ _ ⟨.bl _,H,I,rfl,h _ _ _ .refl R<|.bl _⟩
def Cz(hu:X.A.units+64<cLine):ni X (compareOp .NotEq) (r2 X<|u7 true):=λpins s σ H x y v u Q I rx ry h9=>by
 z_go;obtain⟨k,e,h⟩:=iY h;exact(G1 I R 12 X.A a b x y v u k (by omega) va vb rx ry e).2.2 _ _ _ _ ⟨.bl _,H,I,rfl,h _ _ _ .refl R<|.bl _⟩
end
section
variable {X:Cx}{pos:Pos}{a b:aE}
meta abbrev Pt:=ae->iW->R (Option Int)
abbrev W0:Pt:=λ_ S=>.ok none S
abbrev VW (c:Ex):Pt:=λτ S=>(c τ S).bind λa S1=>match a with
 | .int i=>.ok (some i) S1
 | _=>.no
abbrev OM (xs:ae)(lo hi:Option Int):ae:=(xs.drop<|HT.WE xs.length 0 lo).take<|HT.WE xs.length xs.length hi-HT.WE xs.length 0 lo
abbrev XY (a:A)(lo hi:Option Int)(S:iW):R A:=match a with
 | .ref n=>opt (iU S n) λxs=>.ok (.ref S.length) (S++[.lst<|OM xs lo hi])
 | .frz xs=>.ok (.ref S.length) (S++[.lst<|OM xs lo hi])
 | .tup xs=>gd (¬(HT.WE xs.length 0 lo=0/\HT.WE xs.length xs.length hi=xs.length)) (.ok (.tup<|OM xs lo hi) S)
 | _=>.no
abbrev eSl (c:Ex)(lo hi:Pt):Ex:=λτ S=>(c τ S).bind λa S1=>(lo τ S1).bind λl S2=>(hi τ S2).bind λu S3=>XY a l u S3
abbrev V5 (a:A)(S:iW):R A:=match a with
 | .ref n=>opt (iU S n) λxs=>.ok (.ref S.length) (S++[.lst xs.reverse])
 | .tup xs=>.ok (.tup xs.reverse) S
 | _=>.no
abbrev jn (f:ae->iW->R A)(d:p6):Ex:=λτ S=>(d τ S).bind λas S1=>f as S1
def C3{f:ae->iW->R A}{d:p6}{H:Hp}{Q:VK}(h:tE X (jn f d) σ H Q):Zm (rN X f) (tL X d) σ H Q:=by
 cb_eq;exact⟨ρ,S,τ,R,r,iX (jb h) .refl λas S1 h1 ρ1 H1 g e1 R1 v1=>⟨ρ1,S1,as,R1,v1,iX h1 e1 λ_ _ z=>z.ext e1⟩⟩
variable {x:Str}{p:Pos}{e:aE}{es:List aE}{id T:String}{f:ae->iW->R A}{d:p6}
def jE(hc:jA X (.builtin id)<|rN X f)(hm:X.mg x=none)(hv:bootBuiltins x=some (.builtin id))(ha:AL X (e::es) d)(hg:Gl X x<|>ε)(hn:x ≠ "__name__"<|>δ)(hdb:(x == ("__debug__" : Str))=false<|>δ)
  (he:starEach (e::es) X.env=(false,eval e X.env)::starEach es X.env<|>ε) (hpl:((backTo pos<|starEach es X.env).any (·.1)=false)<|>ε):AE X (.Call (.Name x p) (e::es) [] pos) (jn f d):=
 PE.imp (MV hc hg hm hv ha hn hdb he hpl) λ_ _ _ h=>C3 h
def mR(hc:jA X (.type T)<|rN X f)(hm:X.mg x=none)(hv:bootBuiltins x=some (.type T))(ha:AL X (e::es) d)(hg:Gl X x<|>ε)(hn:x ≠ "__name__"<|>δ)(hdb:(x == ("__debug__" : Str))=false<|>δ)
  (he:starEach (e::es) X.env=(false,eval e X.env)::starEach es X.env<|>ε) (hpl:((backTo pos<|starEach es X.env).any (·.1)=false)<|>ε):AE X (.Call (.Name x p) (e::es) [] pos) (jn f d):=
 PE.imp (HJ hc hg hm hv ha hn hdb he hpl) λ_ _ _ h=>C3 h
def QZ(hm:X.mg x=none)(hv:bootBuiltins x=some (.type T))(hg:Gl X x<|>ε)(hn:x ≠ "__name__"<|>δ)(hdb:(x == ("__debug__" : Str))=false<|>δ):AE X (.Name x pos) (eC<|.ty T):=
 PE.imp (PN (v:=.ty T) hg hm hv rfl hn hdb) λσ H Q ⟨ρ,S,τ,R,r,h⟩=>h ρ H _ .refl R<|.ty T
abbrev A.seq (S:iW):A->Option (ae)
 | .tup xs=>some xs
 | .frz xs=>some xs
 | .ref n=>iU S n
 | _=>none
def Mr{K:au}{H:Hp}{x:A}{v:V}(R:Rel K ρ H S)(h:AV K ρ H x v)(e:x.seq S=some xs):∃p vs,v=.ref p/\(p7 K H p vs\/nj K H p vs)/\AVs K ρ H xs vs:=by
 cases h with
 | tup h r=>cases aZ e;exact⟨_,_,rfl,.inr<|nj.of h,r⟩
 | frz h r=>cases aZ e;exact⟨_,_,rfl,.inl h.Pa,r⟩
 | ref h=>
  obtain⟨vs,h1,r1⟩:=R.lst h<|ji e;exact⟨_,vs,rfl,.inl<|p7.of h1,r1⟩
 | _=>cases e
def P9{K:au}{H:Hp}{x:A}(h:AVs K ρ H [x] vs):∃v,vs=[v]/\AV K ρ H x v:=by
 cases h with
 | cons h t=>cases t;exact⟨_,rfl,h⟩
def LB{K:au}{H:Hp}{x:A}(h:AVs K ρ H [x,y] vs):∃v w,vs=[v,w]/\AV K ρ H x v/\AV K ρ H y w:=by
 cases h with
 | cons h t=>obtain⟨w,rfl,h'⟩:=P9 t;exact⟨_,_,rfl,h,h'⟩
abbrev f1 (g:A->iW->R A):ae->iW->R A:=λas S=>match as with
 | [x]=>g x S
 | _=>.no
abbrev f2 (g:A->A->iW->R A):ae->iW->R A:=λas S=>match as with
 | [x,y]=>g x y S
 | _=>.no
def Qe{g:A->iW->R A}{P:A->iW->Prop}{E:Str->iW->Prop}(h:(f1 g as S).post P E):∃x,as=[x]/\(g x S).post P E:=by
 match as,h with
 | [],h=>exact h.elim
 | [x],h=>exact⟨x,rfl,h⟩
 | _::_::_,h=>exact h.elim
def OQ{g:A->A->iW->R A}{P:A->iW->Prop}{E:Str->iW->Prop}(h:(f2 g as S).post P E):∃x y,as=[x,y]/\(g x y S).post P E:=by
 match as,h with
 | [],h=>exact h.elim
 | [_],h=>exact h.elim
 | [x,y],h=>exact⟨x,y,rfl,h⟩
 | _::_::_::_,h=>exact h.elim
def Jh{g:A->iW->R A}{H:Hp}{Q:VK}(h:rN X (f1 g) vs H Q):∃v,vs=[v]/\∃ρ S x,Rel X.K ρ H S/\AV X.K ρ H x v/\(g x S).post (xN X ρ H Q) (XE X ρ H):=by
 obtain⟨ρ,S,as,R,v,h⟩:=h;obtain⟨x,rfl,h⟩:=Qe h;obtain⟨w,rfl,hv⟩:=P9 v;exact⟨w,rfl,ρ,S,x,R,hv,h⟩
def ZH{g:A->A->iW->R A}{H:Hp}{Q:VK}(h:rN X (f2 g) vs H Q):∃v w,vs=[v,w]/\∃ρ S x y,Rel X.K ρ H S/\AV X.K ρ H x v/\AV X.K ρ H y w/\(g x y S).post (xN X ρ H Q) (XE X ρ H):=by
 obtain⟨ρ,S,as,R,v,h⟩:=h;obtain⟨x,y,rfl,h⟩:=OQ h;obtain⟨w,f,rfl,hv,d⟩:=LB v;exact⟨w,f,rfl,ρ,S,x,y,R,hv,d,h⟩
abbrev lO (x:A)(S:iW):R A:=match x with
 | .str x=>gd (x.length<=sizeLine) (.ok (.int x.length) S)
 | .tup xs=>.ok (.int xs.length) S
 | .frz xs=>.ok (.int xs.length) S
 | .ref n=>opt (iU S n) λxs=>.ok (.int xs.length) S
 | _=>.no
def qM:jA X (.builtin "len") (rN X<|f1 lO):=jA.imp LZ λg H Q h0=>by
 kt_k;clear h0
 cases hv with
 | str z=>
  obtain⟨d,h⟩:=jq h;exact⟨_,_,rfl,⟨d,rfl⟩,h _ _ _ .refl R<|.int _⟩
 | @tup p xs us h1 r=>exact⟨_,us.length,rfl,.inr ⟨us,(nj.of h1),rfl⟩,by rw[<- r.length];exact h _ _ _ .refl R<|.int _⟩
 | @frz p xs us h1 r=>exact⟨_,us.length,rfl,.inl ⟨us,h1.Pa,rfl⟩,by rw[<- r.length];exact h _ _ _ .refl R<|.int _⟩
 | ref f=>
  kcj_m;obtain⟨us,h1,r⟩:=R.lst f<|ji hn;exact⟨_,us.length,rfl,.inl ⟨us,p7.of h1,rfl⟩,by rw[<- r.length];exact h _ _ _ .refl R<|.int _⟩
 | _=>exact h.elim
abbrev T9 (x:A)(S:iW):R A:=match x with
 | .int i=>.ok (.int<|if i<0 then -i else i) S
 | _=>.no
def WB:jA X (.builtin "abs") (rN X<|f1 T9):=jA.imp JF λd H Q h0=>by
 kt_k;clear h0
 cases hv<;>first|exact h.elim|exact⟨_,rfl,h _ _ _ .refl R<|.int _⟩
abbrev XA (x y:A)(S:iW):R A:=match x,y with
 | .int i,.int j=>.ok (.int<|if j>i then j else i) S
 | _,_=>.no
abbrev Xn (x y:A)(S:iW):R A:=match x,y with
 | .int i,.int j=>.ok (.int<|if j<i then j else i) S
 | _,_=>.no
abbrev wH (x:A)(S:iW):R A:=match x with
 | .int i=>.ok (.int i) S
 | .bl k=>.ok (.int<|if k then 1 else 0) S
 | .str y=>opt (PySem.intText? y) λn=>gd (y.length<=640) (.ok (.int n) S)
 | _=>.no
def Uh:jA X (.type "int") (rN X<|f1 wH):=λpins s σ H xs us Q I d h0=>by
 kt_k;clear h0
 cases hv with
 | int i=>exact zy pins s σ H _ us Q I d (.inl ⟨i,rfl,h _ _ _ .refl R<|.int _⟩)
 | bl k=>exact zy pins s σ H _ us Q I d (.inr ⟨k,rfl,h _ _ _ .refl R<|.int _⟩)
 | str y=>
  obtain⟨n,hn,h⟩:=iY h;obtain⟨f,h⟩:=jq h;exact II pins s σ H _ us Q I d ⟨y,n,rfl,f,hn,h _ _ _ .refl R<|.int _⟩
 | _=>exact h.elim
abbrev An (x y:A)(S:iW):R A:=match x,y with
 | .int i,.int j=>.ok (.rng i j) S
 | _,_=>.no
def L_:jA X (.type "range") (rN X<|f2 An):=jA.imp A4 λk H Q h0=>by
 obtain⟨w,m,rfl,ρ,S,x,y,R,hv,d,h⟩:=ZH h0;clear h0
 cases hv with
 | int i=>
  cases d with
  | int j=>
   refine⟨i,j,rfl,λp g=>?_⟩;obtain⟨ex,f⟩:=R.im (u:=.rng i j) g;exact h ρ _ _ ex f<|.rng jF
  | _=>exact h.elim
 | _=>exact h.elim
abbrev zZ (i j:Int):Prop:=(-(2 ^ 62)<=i/\i<2 ^ 62/\-(2 ^ 62)<=j/\j<2 ^ 62)/\(j-i).toNat<=1000
instance (i j:Int):Decidable (zZ i j):=by unfold zZ;infer_instance
abbrev wL (x:A)(S:iW):R A:=match x with
 | .rng i j=>gd (zZ i j) (.ok (.ref S.length)<|S++[.lst<|(kX i j).map .int])
 | .tup xs=>.ok (.ref S.length) (S++[.lst xs])
 | .frz xs=>.ok (.ref S.length) (S++[.lst xs])
 | .ref n=>opt (iU S n) λxs=>.ok (.ref S.length) (S++[.lst xs])
 | _=>.no
def Ea(hc:X.calm=true):jA X (.type "list") (rN X<|f1 wL):=λpins s σ H d us Q I rx h0=>by
 kt_k;clear h0
 cases hv with
 | @rng p i j g=>
  obtain⟨f,h⟩:=jq h;exact yX hc pins s σ H _ us Q I rx ⟨p,i,j,rfl,g,f.1,f.2,nM R (pO _) .refl h⟩
 | @tup p xs d h1 r=>exact rC pins s σ H _ us Q I rx ⟨p,d,rfl,.inr<|nj.of h1,nM R r .refl h⟩
 | @frz p xs d h1 r=>exact rC pins s σ H _ us Q I rx ⟨p,d,rfl,.inl h1.Pa,nM R r .refl h⟩
 | @ref p n g=>
  kcj_m;obtain⟨d,h1,r⟩:=R.lst g<|ji hn;exact rC pins s σ H _ us Q I rx ⟨p,d,rfl,.inl<|p7.of h1,nM R r .refl h⟩
 | _=>exact h.elim
abbrev wc (x:A)(S:iW):R A:=match x with
 | .rng i j=>gd (zZ i j) (.ok (.tup<|(kX i j).map .int) S)
 | .tup xs=>.ok (.tup xs) S
 | .frz xs=>.ok (.tup xs) S
 | .ref n=>opt (iU S n) λxs=>.ok (.tup xs) S
 | _=>.no
def FG(hc:X.calm=true):jA X (.type "tuple") (rN X<|f1 wc):=λpins s σ H d us Q I rx h0=>by
 kt_k;clear h0
 cases hv with
 | @rng p i j g=>
  obtain⟨f,h⟩:=jq h;exact yF hc pins s σ H _ us Q I rx ⟨p,i,j,rfl,g,f.1,f.2,vK R (pO _) .refl h⟩
 | @tup p xs d h1 r=>exact qi pins s σ H _ us Q I rx ⟨p,d,rfl,.inr ⟨(nj.of h1),h _ _ _ .refl R<|.tup h1 r⟩⟩
 | @frz p xs d h1 r=>exact qi pins s σ H _ us Q I rx ⟨p,d,rfl,.inl ⟨h1.Pa,vK R r .refl h⟩⟩
 | @ref p n g=>
  kcj_m;obtain⟨d,h1,r⟩:=R.lst g<|ji hn;exact qi pins s σ H _ us Q I rx ⟨p,d,rfl,.inl ⟨p7.of h1,vK R r .refl h⟩⟩
 | _=>exact h.elim
abbrev A.Jg:ae->Option (List Bool)
 | []=>some []
 | .bl b::xs=>(A.Jg xs).map (b::·)
 | _=>none
theorem J7{K:au}{H:Hp}:∀{xs:ae}{vs:List V}{bs:List Bool},AVs K ρ H xs vs->A.Jg xs=some bs->vs=bs.map V.bl
 | _,_,_,.nil,e=>by cases e;rfl
 | x::xs,_,bs,.cons h t,e=>by
  cases x with
  | bl b=>
   obtain⟨d,e1,rfl⟩:=aW.mp (show(A.Jg xs).map (b::·)=some bs from e)
   cases h
   rw[J7 t e1];rfl
  | _=>cases e
abbrev VA (x:A)(S:iW):R A:=match x with
 | .ref n=>opt (iU S n) λxs=>opt (A.Jg xs) λbs=>.ok (.bl<|bs.any λb=>b) S
 | _=>.no
def Xp(hc:X.calm=true):jA X (.builtin "any") (rN X<|f1 VA):=jA.imp (Jf hc) λf H Q h0=>by
 kt_k;clear h0
 cases hv with
 | @ref p n d=>
  kcj_m;obtain⟨bs,hb,h⟩:=iY h;obtain⟨f,h1,r⟩:=R.lst d<|ji hn;rw[J7 r hb]at h1;exact⟨p,bs,rfl,p7.of h1,h _ _ _ .refl R<|.bl _⟩
 | _=>exact h.elim
abbrev insI (x:Int):ag->ag
 | []=>[x]
 | y::ys=>if x<=y then x::y::ys else y::insI x ys
abbrev sortI:ag->ag
 | []=>[]
 | x::xs=>insI x<|sortI xs
theorem insI_perm(x:Int):∀ys:ag,(insI x ys).Perm (x::ys)
 | []=>fj _
 | y::ys=>by
  unfold insI;by_cases h:x<=y
  ·rw[aP h]
  ·rw[aM h];exact((insI_perm x ys).cons y).trans (List.Perm.swap x y ys)
theorem sortI_perm:∀xs:ag,(sortI xs).Perm xs
 | []=>fj _
 | x::xs=>(insI_perm x<|sortI xs).trans<|(sortI_perm xs).cons x
theorem Fb(x:Int):∀ys:ag,ys.Pairwise (·<=·)->(insI x ys).Pairwise (·<=·)
 | [],_=>cZ _ _
 | y::ys,h=>by
  unfold insI;obtain⟨h1,h2⟩:=cy.mp h;by_cases f:x<=y
  ·rw[aP f];exact cy.mpr ⟨λz d=>(bF.mp d).elim (λe=>e ▸ f) λd=>Int.le_trans f<|h1 z d,h⟩
  ·rw[aM f];refine cy.mpr ⟨λz d=>?_,Fb x ys h2⟩
   rcases bF.mp ((insI_perm x ys).mem_iff.mp d)with e|d
   ·subst e;lia
   ·exact h1 z d
theorem yw:∀xs:ag,(sortI xs).Pairwise (·<=·)
 | []=>List.Pairwise.nil
 | x::xs=>Fb x _<|yw xs
abbrev A.kd:A->iW->Option Kd
 | .non,_=>some .non
 | .bl _,_=>some .bl
 | .int _,_=>some .int
 | .str _,_=>some .str
 | .tup _,_=>some .tup
 | .ref n,S=>(iU S n).map λ_=>.lst
 | _,_=>none
def OU{K:au}(k:Kd):PySem.W.kitOne K k.ty (.type "str")=some (decide<|k=.str):=by cases k<;>rfl
abbrev Ir (k:Kd)(c:String):bi:=if c = "int" then some (decide<|k=.int\/k=.bl)else if c = "bool" then some (decide<|k=.bl)else if c = "tuple" then some (decide<|k=.tup)else if c = "list" then some (decide<|k=.lst)else if c = "str" then some (decide<|k=.str)else none
def GW{K:au}{k:Kd}{c:String}{b:Bool}(h:Ir k c=some b):PySem.W.kitOne K k.ty (.type c)=some b:=by
 unfold Ir at h;split at h
 ·rename_i e;subst e;rw[<- h];exact OS k
 ·split at h
  ·rename_i e;subst e;rw[<- h];exact JP k
  ·split at h
   ·rename_i e;subst e;rw[<- h];exact kit_tuple k
   ·split at h
    ·rename_i e;subst e;rw[<- h];exact Jx k
    ·split at h
     ·rename_i e;subst e;rw[<- h];exact OU k
     ·cases h
abbrev Qj (x y:A)(S:iW):R A:=match y with
 | .ty c=>opt (x.kd S) λk=>opt (Ir k c) λb=>.ok (.bl b) S
 | _=>.no
def Xo{K:au}{H:Hp}{x:A}{v:V}{k:Kd}(R:Rel K ρ H S)(h:AV K ρ H x v)(e:x.kd S=some k):(∃p vs,v=.ref p/\nj K H p vs/\k=.tup)\/UW H v k:=by
 cases h with
 | non=>cases e;exact .inr rfl
 | bl b=>cases e;exact .inr ⟨b,rfl⟩
 | int i=>cases e;exact .inr ⟨i,rfl⟩
 | str i=>cases e;exact .inr ⟨i,rfl⟩
 | tup h r=>cases e;exact .inl ⟨_,_,rfl,(nj.of h),rfl⟩
 | ref h=>
  obtain⟨xs,e1,e2⟩:=aW.mp e;obtain⟨vs,h1,_⟩:=R.lst h (ji e1)
  cases e2
  exact .inr ⟨_,vs,rfl,h1⟩
 | _=>cases e
def QT:jA X (.builtin "isinstance") (rN X<|f2 Qj):=λpins s σ H j us Q I rx h0=>by
 obtain⟨w,D,rfl,ρ,S,x,y,R,hv,d,h⟩:=ZH h0;clear h0
 cases d with
 | ty c=>
  obtain⟨k,m,h⟩:=iY h;obtain⟨b,hb,hq⟩:=iY h;have hq:xN X ρ H Q (.bl b) S:=hq;clear h
  rcases Xo R hv m with⟨p,j,rfl,f,rfl⟩|hd
  ·obtain⟨B,C,rfl,r1,r2⟩:=vals2 rx;obtain⟨g,q,⟨o,h1,h2,_⟩,_⟩:=I.tuple f
   cases(show _=Value.ref p from r1)
   cases(show _=Value.type c from r2)
   exact cG PySem.W.kitx_tuple I.B0 ⟨o,h1,h2⟩ (GW hb) (λz=>nomatch z) λt=>⟨.bl b,H,I.tok _,rfl,hq _ _ _ .refl R<|.bl _⟩
  ·exact C6 (c:=c) pins s σ H _ us Q I rx ⟨w,_,b,rfl,hd.ZD,GW hb,hq _ _ _ .refl R<|.bl _⟩
 | _=>exact h.elim
end
abbrev Be (x:ag):List (ag)->List (ag)
 | []=>[x]
 | y::ys=>if HT.lexLt y x=true then y::Be x ys else x::y::ys
abbrev jD:List (ag)->List (ag)
 | []=>[]
 | x::xs=>Be x<|jD xs
abbrev Ax (a b:ag):Prop:=HT.lexLt b a=false
def Ax.trans{a b c:ag}(h1:Ax a b)(h2:Ax b c):Ax a c:=by
 unfold Ax at *
 cases e:HT.lexLt c a with
 | false=>rfl
 | true=>
  rcases Sx.E6 (b:=b) e with z|z
  ·rw[h2]at z;cases z
  ·rw[h1]at z;cases z
theorem wu(x:ag):∀ys:List<|ag,(Be x ys).Perm (x::ys)
 | []=>fj _
 | y::ys=>by
  unfold Be;by_cases h:HT.lexLt y x=true
  ·rw[aP h];exact((wu x ys).cons y).trans (List.Perm.swap x y ys)
  ·rw[aM h]
theorem jy:∀xs:List<|ag,(jD xs).Perm xs
 | []=>fj _
 | x::xs=>(wu x<|jD xs).trans<|(jy xs).cons x
theorem E4(x:ag):∀ys:List<|ag,ys.Pairwise Ax->(Be x ys).Pairwise Ax
 | [],_=>cZ _ _
 | y::ys,h=>by
  unfold Be;obtain⟨h1,h2⟩:=cy.mp h;by_cases g:HT.lexLt y x=true
  ·rw[aP g];refine cy.mpr ⟨λz d=>?_,E4 x ys h2⟩
   rcases bF.mp ((wu x ys).mem_iff.mp d)with e|d
   ·subst e;unfold Ax
    cases e:HT.lexLt z y with
    | false=>rfl
    | true=>have:=Sx.AU g e;rw[Sx.Bs]at this;cases this
   ·exact h1 z d
  ·rw[aM g];have f:Ax x y:=by unfold Ax;simpa using g
   exact cy.mpr ⟨λz d=>(bF.mp d).elim (λe=>e ▸ f) λd=>f.trans<|h1 z d,h⟩
theorem tW:∀xs:List<|ag,(jD xs).Pairwise Ax
 | []=>List.Pairwise.nil
 | x::xs=>E4 x _<|tW xs
def D6{xs:List<|ag}(p:xs.Perm ys)(h:xs.Pairwise Ax):xs=jD ys:=
 dZ (λa b _ _ h1 h2=>(Sx.vp h1 h2).symm) h (tW ys) (p.trans (jy ys).symm)
theorem YX:∀(N:Nat) (l:am),l.Nodup->(∀x∈l,x<N)->l.length<=N
 | 0,l,_,h=>by
  cases l with
  | nil=>exact aL _
  | cons a l=>exact absurd (h a<|aO ..)<|eL _
 | N+1,l,nd,h=>by
  have h1:=YX N (l.erase N) (nd.erase N) λx d=>by
   have:=h x<|List.mem_of_mem_erase d;have:x≠N:=λz=>by
    subst z;exact(List.Nodup.not_mem_erase nd) d
   lia
  have:=List.le_length_erase (l:=l) (a:=N)
  lia
def yb{N:Nat}{g:Nat->Nat}(h:∀i,i<N->g i<N)(inj:∀i j,i<j->j<N->g i≠g j):((List.range N).map g).Perm (List.range N):=by
 have nd:((List.range N).map g).Nodup:=by
  unfold List.Nodup;rw[cC];intro i j k m f;rw[aG,bM]at k m;rw[d_,d_,dN,dN];exact inj i j f m
 have lt:∀x∈(List.range N).map g,x<N:=λx d=>by
  obtain⟨i,k,rfl⟩:=bf.mp d;exact h i<|cg.mp k
 refine(h_ nd List.nodup_range).mpr λa=>⟨λha=>cg.mpr<|lt a ha,λha=>?_⟩;refine Classical.byContradiction λhn=>?_;have:=YX N (a::(List.range N).map g) (cR.mpr ⟨hn,nd⟩) λx d=>by
  rcases bF.mp d with rfl|d
  ·exact cg.mp ha
  ·exact lt x d
 rw[bN,aG,bM]at this
 lia
def range_getD{α:Type}(l:List α)(d:α):(List.range l.length).map (λi=>l.getD i d)=l:=by
 apply eY;intro i;rw[aR];by_cases c:i<l.length
 ·rw[d8 c];show some (l.getD i d)=_;rw[aK,aH c];rfl
 ·rw[gw<|by rw[bM];lia,gw ()];rfl
def Ju{kss:List<|ag}{g:Nat->Nat}(c:Sx.Cl g 0 kss.length)(so:Sx.So (Sx.Cw kss) g 0 kss.length):(List.range kss.length).map (λi=>kss.getD (g i) [])=jD kss:=by
 refine D6 ?_ ?_
 ·have p:=yb (N:=kss.length) (g:=g) (λi k=>(c i (bO _) k).2) λi j d f z=>by
   have:=so i j (bO _) d f;rw[z]at this;exact this.NZ
  have:=p.map λi=>kss.getD i [];rw[bg,range_getD]at this;exact this
 ·rw[cC];intro i j k f d;rw[aG,bM]at k f;rw[d_,d_,dN,dN];exact(so i j (bO _) d f).ge
abbrev VH:ae->Option (List<|ag)
 | []=>some []
 | .tup xs::r=>match A.ints xs with
  | some (k::ks)=>(VH r).map λd=>(k::ks)::d
  | _=>none
 | _=>none
theorem QK{K:au}{H:Hp}:∀{xs:ae}{vs:List V}{kss:List<|ag},AVs K ρ H xs vs->VH xs=some kss ->
  ∃rs:bb,vs=rs.map V.ref/\rs.length=kss.length/\∀(i:Nat) (r:ak) (ks:ag),rs[i]?=some r->kss[i]?=some ks->nj K H r (ks.map V.int)/\ks≠[]/\AV K ρ H (.tup<|ks.map .int) (.ref r)
 | [],_,_,.nil,e=>by cases e;exact⟨[],rfl,rfl,λi r ks h=>by simp at h⟩
 | x::xs,_,kss,.cons h t,e=>by
  cases h with
  | tup h r=>
   rename_i a ys us;unfold VH at e
   cases e1:A.ints ys with
   | none=>rw[e1]at e;cases e
   | some ks=>
    rw[e1]at e
    cases ks with
    | nil=>cases e
    | cons k ks=>
     obtain⟨f,e2,rfl⟩:=aW.mp e;obtain⟨rs,rfl,j,g⟩:=QK t e2;have ev:=oZ r e1;subst ev;refine⟨a::rs,rfl,by rw[bN,bN,j],λi m d h1 h2=>?_⟩
     cases i with
     | zero=>
      cases h1
      cases h2
      exact⟨nj.of h,(λz=>nomatch z),.tup h<|pO _⟩
     | succ i=>exact g i m d (by simpa using h1)<|by simpa using h2
  | _=>cases e
theorem Ah{K:au}{H:Hp}{α:Type}{f:α->A}{h:α->V}:∀{l:List α},(∀a∈l,AV K ρ H (f a)<|h a)->AVs K ρ H (l.map f) (l.map h)
 | [],_=>.nil
 | a::l,e=>.cons (e a<|aO ..)<|Ah λb hb=>e b<|aS _ hb
abbrev RS.post (r:RS)(N:ae->iW->Prop)(T:A->iW->Prop)(B C:ae->iW->Prop)(E:Str->iW->Prop):Prop:=match r with
 | .nx τ S=>N τ S
 | .rt a S=>T a S
 | .bk τ S=>B τ S
 | .ct τ S=>C τ S
 | .ex c S=>E c S
 | .no=>False
abbrev RS.of {α:Type}(r:R α)(f:α->iW->RS):RS:=match r with
 | .ok a S=>f a S
 | .ex c S=>.ex c S
 | .no=>.no
def of_post{α:Type}{r:R α}{f:α->iW->RS}{N B C:ae->iW->Prop}{T:A->iW->Prop}{E:Str->iW->Prop}(h:(RS.of r f).post N T B C E):r.post (λa S=>(f a S).post N T B C E) E:=by
 cases r<;>exact h
def RS.mono{r:RS}{N B C N' B' C':ae->iW->Prop}{T T':A->iW->Prop}{E E':Str->iW->Prop}(h:r.post N T B C E)(hn:∀τ S,N τ S->N' τ S)(ht:∀a S,T a S->T' a S)(hb:∀τ S,B τ S->B' τ S)(hc:∀τ S,C τ S->C' τ S)(he:∀c S,E c S->E' c S):r.post N' T' B' C' E':=by
 cases r with
 | nx τ S=>exact hn _ _ h
 | rt a S=>exact ht _ _ h
 | bk τ S=>exact hb _ _ h
 | ct τ S=>exact hc _ _ h
 | ex c S=>exact he _ _ h
 | no=>exact h.elim
abbrev E1 (X:Cx)(ρ:bb)(H:Hp)(N:L2.St->Hp->Prop):ae->iW->Prop:=λf g=>∀ρ' H' d,Ext ρ ρ' H H'->Rel X.K ρ' H' g->SR X.K ρ' H' f d->N d H'
def E1.ext{X:Cx}{H H':Hp}{N:L2.St->Hp->Prop}(h:E1 X ρ H N τ S)(e:Ext ρ ρ' H H'):E1 X ρ' H' N τ S:=λρ2 H2 d e2=>h ρ2 H2 d<|e.trans e2
abbrev zN (X:Cx)(ρ:bb)(H:Hp)(D:Ends)(r:RS):Prop:=r.post (E1 X ρ H D.nx) (xN X ρ H D.rt) (E1 X ρ H D.bk) (E1 X ρ H D.ct)<|XE X ρ H
def zN.ext{X:Cx}{H H':Hp}{D:Ends}{r:RS}(h:zN X ρ H D r)(e:Ext ρ ρ' H H'):zN X ρ' H' D r:=RS.mono h (λ_ _ z=>z.ext e) (λ_ _ z=>z.ext e) (λ_ _ z=>z.ext e) (λ_ _ z=>z.ext e) λ_ _ z=>z.ext e
abbrev tS (X:Cx)(c:Sm):TS:=λD σ H=>∃ρ S τ,Rel X.K ρ H S/\SR X.K ρ H τ σ/\zN X ρ H D (c τ S)
abbrev AS (X:Cx)(st:aF)(c:Sm):Prop:=PS X st<|tS X c
abbrev PU (X:Cx)(sts:List aF)(c:Sm):Prop:=BG X sts<|tS X c
abbrev tG (X:Cx)(g:Tg):TG:=λv σ H Q=>∃ρ S τ a,Rel X.K ρ H S/\SR X.K ρ H τ σ/\AV X.K ρ H a v/\(g a τ S).post (E1 X ρ H Q) (XE X ρ H)
abbrev AG (X:Cx)(e:aE)(g:Tg):Prop:=PG X e<|tG X g
meta abbrev N4:=ae->ae->iW->R (ae)
abbrev tGs (X:Cx)(g:N4):QA:=λd σ H Q=>∃ρ S τ as,Rel X.K ρ H S/\SR X.K ρ H τ σ/\AVs X.K ρ H as d/\(g as τ S).post (E1 X ρ H Q) (XE X ρ H)
abbrev Yh (X:Cx)(es:List aE)(g:N4):Prop:=Xd X es<|tGs X g
section
variable {X:Cx}{pos:Pos}{a b e:aE}{st:aF}{rest:List aF}{c d:Sm}
def PS.imp{t t':TS}(h:PS X st t)(i:∀D σ H,t' D σ H->t D σ H):PS X st t':=λpins s σ H D I q=>h pins s σ H D I<|i D σ H q
def BG.imp{t t':TS}(h:BG X rest t)(i:∀D σ H,t' D σ H->t D σ H):BG X rest t':=λpins s σ H D I q=>h pins s σ H D I<|i D σ H q
def PG.imp{t t':TG}(h:PG X e t)(i:∀v σ H Q,t' v σ H Q->t v σ H Q):PG X e t':=λpins s σ H v u Q I r q=>h pins s σ H v u Q I r<|i _ _ _ _ q
abbrev jz (i:Nat):Tg:=λa τ S=>.ok (τ.set i a) S
def jl{i:Nat}{x:Str}(hN:X.N.Nodup)(hi:X.N[i]?=some x<|>ε)(hx:Loc X.env.scope x:=by first|exact Or.inl rfl|exact Or.inr rfl)(hf:X.fn x=true\/X.env.scope.names.lookup x=some .local<|>γ):AG X (.Name x pos) (jz i):=
 PG.imp (Pj hN hi hx hf) λv σ H Q ⟨ρ,S,τ,a,R,r,va,h⟩=>h ρ H _ .refl R<|r.set va
abbrev B5:N4:=λas τ S=>match as with
 | []=>.ok τ S
 | _=>.no
abbrev uF (g:Tg)(gs:N4):N4:=λas τ S=>match as with
 | a::as=>(g a τ S).bind λd S1=>gs as d S1
 | []=>.no
def oW:Yh X [] B5:=λpins s σ H d us Q I r ⟨ρ,S,τ,as,R,f,va,h⟩=>Pg pins s σ H d us Q I r (by
 cases va with
 | nil=>exact⟨rfl,h ρ H σ .refl R f⟩
 | cons _ _=>exact h.elim)
def jN{g:Tg}{gs:N4}(h1:AG X e g)(h2:Yh X es gs)(hs:(assignEach (e::es) X.env).map (·.2)=assign e X.env::(assignEach es X.env).map (·.2)<|>ε):Yh X (e::es) (uF g gs):=
 λpins s σ H j us Q I r ⟨ρ,S,τ,as,R,k,va,h⟩=>Ka h1 h2 hs pins s σ H j us Q I r (by
  cases va with
  | nil=>exact h.elim
  | cons ha m=>exact⟨_,_,rfl,ρ,S,τ,_,R,k,ha,iX (jb h) .refl λf S1 h1 ρ1 H1 p e1 R1 d=>⟨ρ1,S1,f,_,R1,d,m.ext e1,iX h1 e1 λ_ _ z=>z.ext e1⟩⟩)
abbrev CG (n:Nat)(gs:N4):Tg:=λa τ S=>match a with
 | .tup xs | .ktu xs=>gd (xs.length=n) (gs xs τ S)
 | _=>.no
def rG{k n:Nat}{gs:N4}(hc:X.calm=true)(h:Yh X es gs)(hn:(assignEach es X.env).length=n<|>ε)(hst:(assignEach es X.env).findIdx? (·.1)=none<|>ε):AG X (.Tuple es k pos) (CG n gs):=
 PG.imp (Vj hc h hn hst) λv σ H Q h9=>by
  obtain⟨ρ,S,τ,a,R,r,va,h⟩:=h9
  cases va with
  | tup h1 r1=>
   obtain⟨d,h⟩:=jq h;exact⟨_,_,rfl,nj.of h1,by rw[<- r1.length];exact d,ρ,S,τ,_,R,r,r1,h⟩
  | ktu h1 r1=>
   obtain⟨d,h⟩:=jq h;exact⟨_,_,rfl,.inr h1,by rw[<- r1.length];exact d,ρ,S,τ,_,R,r,r1,h⟩
  | _=>exact h.elim
abbrev Cd (o i v:A)(S:iW):R Unit:=match o,i with
 | .ref n,.int k=>opt (iU S n) λxs=>opt (DJ xs.length k) λj=>.ok Unit.unit (S.set n<|.lst<|xs.set j v)
 | _,_=>.no
abbrev rSt (X:Cx):EO:=λo i v H Q=>∃ρ S ao f d,Rel X.K ρ H S/\AV X.K ρ H ao o/\AV X.K ρ H f i/\AV X.K ρ H d v/\(Cd ao f d S).post (λ_ g=>∀ρ' H',Ext ρ ρ' H H'->Rel X.K ρ' H' g->Q H') (XE X ρ H)
def N8:CI X (rSt X):=λpins s σ H o i v C iv u Q I q t B h9=>by
 obtain⟨ρ,S,ao,F,D,R,h1,h2,h3,h⟩:=h9
 cases h1 with
 | @ref p n d=>
  cases h2 with
  | int k=>
   kcj_m;obtain⟨j,m,h⟩:=iY h;obtain⟨g,e,r⟩:=R.lst d<|ji hn;obtain⟨ex,f⟩:=R.put d (ji hn)<|r.set h3 j;exact set_list pins s σ H _ _ v C iv u Q I q t B ⟨p,g,k,j,rfl,rfl,e,by rw[<- r.length];exact m,h _ _ ex f⟩
  | _=>exact h.elim
 | _=>exact h.elim
abbrev VN (co ci:Ex):Tg:=λa τ S=>(co τ S).bind λo S1=>(ci τ S1).bind λi S2=>(Cd o i a S2).bind λ_ S3=>.ok τ S3
def Bg{co ci:Ex}(ho:AE X o co)(hi:AE X i ci)
  (ha:(∀v,assign (.Subscript o i pos) X.env v=(do
   let ov <- holding [v] (eval o X.env)
   let iv <- holding [v,ov] (eval i X.env)
   standAt pos
   holding [v,ov,iv] (setItem ov iv v)
   release [v,ov,iv] []))<|>ζ):AG X (.Subscript o i pos) (VN co ci):=PG.imp (z9 ho hi N8 ha) λv σ H Q h9=>by
 obtain⟨ρ,S,τ,a,R,r,va,h⟩:=h9;w_up;gn_on;ksr_p
abbrev pB:Sm:=λτ S=>.nx τ S
abbrev jB (c d:Sm):Sm:=λτ S=>match c τ S with
 | .nx f g=>d f g
 | r=>r
def jM:PU X [] pB:=BG.imp PY λD σ H ⟨ρ,S,τ,R,r,h⟩=>h ρ H σ .refl R r
def Py{D:Ends}{H:Hp}(h:tS X (jB c d) D σ H):XR (tS X c) (tS X d) D σ H:=by
 cb_eq;refine⟨ρ,S,τ,R,r,?_⟩;unfold jB at h
 cases hc:c τ S with
 | nx f S1=>
  rw[hc]at h;exact λρ1 H1 g e1 R1 r1=>⟨ρ1,S1,f,R1,r1,zN.ext h e1⟩
 | rt a S1=>rw[hc]at h;exact h
 | bk f S1=>rw[hc]at h;exact h
 | ct f S1=>rw[hc]at h;exact h
 | ex x S1=>rw[hc]at h;exact h
 | no=>rw[hc]at h;exact h
def iZ(h1:AS X st c)(h2:PU X rest d):PU X (st::rest) (jB c d):=BG.imp (NI h1 h2) λD σ H h=>Py h
def i9(h1:AS X st c):PU X [st] c:=OJ h1
abbrev Vr:Sm:=λτ S=>.bk τ S
abbrev Xa:Sm:=λτ S=>.ct τ S
abbrev tR (e:Ex):Sm:=λτ S=>.of (e τ S) λ_ S1=>.nx τ S1
def oX{f:Ex}(he:AE X e f)(hs:swapsWith e none pos.line X.env=pure false<|>ε):AS X (.Expr e pos) (tR f):=PS.imp (OO he hs) λD σ H ⟨ρ,S,τ,R,r,h⟩=>
 ⟨ρ,S,τ,R,r,iX (of_post h) .refl λa S1 h1 ρ1 H1 x e1 R1 v1=>h1 ρ1 H1 σ e1 R1<|r.ext e1⟩
abbrev ki (e:Ex):Sm:=λτ S=>.of (e τ S) λa S1=>.rt a S1
def jv{f:Ex}(he:AE X e f):AS X (.Return (some e) pos) (ki f):=PS.imp (RU he) λD σ H ⟨ρ,S,τ,R,r,h⟩=>⟨ρ,S,τ,R,r,iX (of_post h) .refl λa S1 h1=>h1⟩
abbrev VU:Sm:=λτ S=>.rt .non S
abbrev wU (t:Te)(c d:Sm):Sm:=λτ S=>.of (t τ S) λb S1=>match b with|true=>c τ S1|false=>d τ S1
def lD{t:Te}(ht:AT X e t)(ha:PU X ca c)(hb:PU X cb d):AS X (.If e ca cb pos) (wU t c d):=PS.imp (Wy ht ha hb) λD σ H h9=>by
 x_go;refine⟨ρ,S,τ,R,r,iX (of_post h) .refl λb S1 h1 ρ1 H1 e1 R1=>?_⟩
 cases b with
 | true=>rw[aP rfl];exact⟨ρ1,S1,τ,R1,r.ext e1,zN.ext h1 e1⟩
 | false=>rw[aM bL];exact⟨ρ1,S1,τ,R1,r.ext e1,zN.ext h1 e1⟩
abbrev jO (e:Ex)(g:Tg):Sm:=λτ S=>.of (e τ S) λa S1=>.of (g a τ S1) λd S2=>.nx d S2
def O8{f:Ex}{g:Tg}{D:Ends}{H:Hp}(h:tS X (jO f g) D σ H):UY (tE X f) (tG X g) D σ H:=by
 cb_eq;exact⟨ρ,S,τ,R,r,iX (of_post h) .refl λa S1 h1 ρ1 H1 x e1 R1 v1=>⟨ρ1,S1,τ,a,R1,r.ext e1,v1,iX (of_post h1) e1 λd S2 h2=>E1.ext h2 e1⟩⟩
def pJ{tg:aE}{f:Ex}{g:Tg}(he:AE X e f)(hg:AG X tg g)(hs:swapsWithSole [tg] e pos.line X.env=pure false<|>ε)(hw:swappedStores [tg] e X.env=pure none<|>ε)
  (h1:(assignEach [tg] X.env).map (·.2)=[assign tg X.env]<|>ε):AS X (.Assign [tg] e pos) (jO f g):=PS.imp (Ut he hg hs hw h1) λD σ H h=>O8 h
def jw{i:Nat}{x:Str}{f:Ex}(hN:X.N.Nodup)(he:AE X e f)(hi:X.N[i]?=some x<|>ε)(hx:Loc X.env.scope x:=by first|exact Or.inl rfl|exact Or.inr rfl)(hs:(swapsWith e (some<|.Name x pos') pos.line X.env=pure false)<|>ε)(hf:X.fn x=true\/X.env.scope.names.lookup x=some .local<|>γ) :
  AS X (.Assign [.Name x pos'] e pos) (jO f<|jz i):=PS.imp (TZ hN hi hx he hs hf) λD σ H ⟨ρ,S,τ,R,r,h⟩=>
 ⟨ρ,S,τ,R,r,iX (of_post h) .refl λa S1 h1 ρ1 H1 x e1 R1 v1=>h1 ρ1 H1 _ e1 R1<|(r.ext e1).set v1⟩
abbrev Yq (i j:Nat)(c:p6):Sm:=λτ S=>.of (c τ S) λas S1=>match as with
 | [a,b]=>.nx ((τ.set i a).set j b) S1
 | _=>.no
abbrev ip (X:Cx)(f:A->A->iW->R A):XZ:=λx y H Q=>∃ρ S a b,Rel X.K ρ H S/\AV X.K ρ H a x/\AV X.K ρ H b y/\(f a b S).post (xN X ρ H Q) (XE X ρ H)
abbrev Yp (a b:A)(S:iW):R A:=match a,b with
 | .int i,.int j=>.ok (.int<|i+j) S
 | _,_=>.no
abbrev K9 (i:Nat)(f:A->A->iW->R A)(e:Ex):Sm:=λτ S=>if (τ.getD i .unb).nk then .no else .of (e τ S) λb S1=>.of (f (τ.getD i .unb) b S1) λc S2=>.nx (τ.set i c) S2
def Se{i:Nat}{x:Str}{c:Ex}{f:A->A->iW->R A}(hN:X.N.Nodup)(he:AE X e c)(ho:Zu X op<|ip X f)(hi:X.N[i]?=some x<|>ε)(hx:Loc X.env.scope x:=by first|exact Or.inl rfl|exact Or.inr rfl)(hf:X.fn x=true\/X.env.scope.names.lookup x=some .local<|>γ) :
  AS X (.AugAssign (.Name x pos') op e pos) (K9 i f c):=PS.imp (Ui hN hi hx he ho hf) λD σ H h9=>by
 x_go;have d:∀x,τ[i]?=some x->x.nk=false->(RS.of (c τ S) λb S1=>.of (f x b S1) λc S2=>.nx (τ.set i c) S2).post (E1 X ρ H D.nx) (xN X ρ H D.rt) (E1 X ρ H D.bk) (E1 X ρ H D.ct) (XE X ρ H) ->
   ∃x,σ[i]?=some (some x)/\tE X c σ H λy H1=>ip X f x y H1 λz H2=>D.nx (σ.set i<|some z) H2:=by
  intro x hi hx h
  rcases r.at i x hi with z|⟨v,e,q⟩
  ·subst z;cases hx
  ·refine⟨v,e,ρ,S,τ,R,r,iX (of_post h) .refl λb S1 h1 ρ1 H1 y e1 R1 v1=>⟨ρ1,S1,x,b,R1,q.ext e1,v1,iX (of_post h1) e1 λw S2 h2 ρ2 H2 z e2 R2 v2=>?_⟩⟩;exact h2 ρ2 H2 _ (e1.trans e2) R2<|(r.ext<|e1.trans e2).set v2
 unfold K9 zN at h;rw[aK]at h
 cases hi:τ[i]? with
 | none=>rw[hi]at h;exact h.elim
 | some x=>
  rw[hi]at h
  cases hx:x.nk with
  | true=>rw[show(some x).getD .unb=x from rfl,hx]at h;exact h.elim
  | false=>rw[show(some x).getD .unb=x from rfl,hx]at h;exact d x hi hx h
abbrev OZ (a b:A)(S:iW):R A:=match a,b with
 | .ref n,.int i=>opt (iU S n) λxs=>gd (0<=i) (opt (xs[i.toNat]?) λx=>.ok x S)
 | _,_=>.no
abbrev W5 (co ci ce:Ex)(f:A->A->iW->R A):Sm:=λτ S=>.of (co τ S) λo S1=>.of (ci τ S1) λi S2=>.of (OZ o i S2) λx S3=>.of (ce τ S3) λy g=>.of (f x y g) λz d=>.of (Cd o i z d) λ_ j=>.nx τ j
abbrev kI (t:Te)(c:Sm):Nat->Sm
 | 0=>λ_ _=>.no
 | n+1=>λτ S=>.of (t τ S) λb S1=>match b with
  | false=>.nx τ S1
  | true=>match c τ S1 with
   | .nx d f=>kI t c n d f
   | .ct d f=>kI t c n d f
   | .bk d f=>.nx d f
   | r=>r
def Dr(n:Nat){t:Te}(hp:PassesOwn (model X.prog X.w) X.A X.env X.xe)(ht:AT X e t)(hb:PU X body c):AS X (.While e body [] pos) (kI t c n):=PS.imp (Mt hp ht hb) λD σ H h9=>by
 x_go;refine⟨λm k H'=>∃ρ' f d,Ext ρ ρ' H H'/\Rel X.K ρ' H' f/\SR X.K ρ' H' d k/\zN X ρ' H' D (kI t c m d f),⟨n,ρ,S,τ,.refl,R,r,h⟩,?_⟩;rintro m q H1 ⟨ρ1,S1,j,e1,R1,r1,h1⟩
 cases m with
 | zero=>exact h1.elim
 | succ m=>
  refine⟨ρ1,S1,j,R1,r1,iX (of_post h1) .refl λb S2 h2 ρ2 H2 e2 R2=>?_⟩
  cases b with
  | false=>rw[aM bL];exact h2 ρ2 H2 q e2 R2 (r1.ext e2)
  | true=>
   rw[aP rfl];refine⟨λk H'=>∃ρ' f d,Ext ρ ρ' H H'/\Rel X.K ρ' H' f/\SR X.K ρ' H' d k/\zN X ρ' H' D (kI t c m d f),λk H' z=>⟨m,c9 _,z⟩,ρ2,S2,j,R2,r1.ext e2,?_⟩;have h2:zN X ρ1 H1 D (match c j S2 with
    | .nx d f=>kI t c m d f
    | .ct d f=>kI t c m d f
    | .bk d f=>.nx d f
    | r=>r):=h2
   cases hc:c j S2 with
   | nx g S3=>rw[hc]at h2;exact λρ3 H3 p e3 R3 B=>⟨ρ3,S3,g,(e1.trans e2).trans e3,R3,B,zN.ext h2<|e2.trans e3⟩
   | ct g S3=>rw[hc]at h2;exact λρ3 H3 p e3 R3 B=>⟨ρ3,S3,g,(e1.trans e2).trans e3,R3,B,zN.ext h2<|e2.trans e3⟩
   | bk g S3=>rw[hc]at h2;exact E1.ext h2 e2
   | rt a S3=>rw[hc]at h2;exact xN.ext h2 e2
   | ex x S3=>rw[hc]at h2;exact XE.ext h2 e2
   | no=>rw[hc]at h2;exact h2
end
structure Src where
 k:Nat
 get:Nat->iW->Option A
 fin:iW->Bool
structure JR (K:au)(s:Src)(J:It)(ρ0:bb)(H0:Hp):Prop where
 go:∀(i:Nat) (S:iW) (H:Hp) (ρ:bb) (x:A),Ext0 ρ0 ρ H0 H->Rel K ρ H S->s.get i S=some x->J.go i H/\∀v H',J.yld i H v H'->Ext ρ ρ H H'/\Rel K ρ H' S/\AV K ρ H' x v
 stop:∀(S:iW) (H:Hp) (ρ:bb),Ext0 ρ0 ρ H0 H->Rel K ρ H S->s.fin S=true->J.stop s.k H
meta abbrev Ic:=ae->iW->R Src
abbrev tI (X:Cx)(c:Ic):TI:=λσ H Q=>∃ρ S τ,Rel X.K ρ H S/\SR X.K ρ H τ σ/\(c τ S).post (λs d=>∀ρ' H' J,Ext ρ ρ' H H'->Rel X.K ρ' H' d->JR X.K s J ρ' H'->Q J H') (XE X ρ H)
abbrev AI (X:Cx)(tg iter:aE)(c:Ic):Prop:=PI X tg iter<|tI X c
abbrev oG (xs:ae):Src:=⟨xs.length,λi _=>xs[i]?,λ_=>true⟩
abbrev jP (n k:Nat):Src:=⟨k,λi S=>(iU S n).bind (·[i]?),λS=>match iU S n with
 | some ys=>decide (ys.length<=k)
 | none=>false⟩
abbrev kR (lo hi:Int):Src:=⟨(hi-lo).toNat,λi _=>if i<(hi-lo).toNat then some (.int<|lo+i)else none,λ_=>true⟩
abbrev kh (c:Ex):Ic:=λτ S=>(c τ S).bind λa S1=>match a with
 | .tup xs=>.ok (oG xs) S1
 | .frz xs=>.ok (oG xs) S1
 | .ref n=>opt (iU S1 n) λxs=>.ok (jP n xs.length) S1
 | .str x=>gd (x.cps.all (· < 128)=true) (.ok (oG<|x.cps.toList.map λc=>.str ⟨#[c]⟩) S1)
 | _=>.no
section
variable {X:Cx}{pos:Pos}{tg e a b:aE}
def TJ{K:au}{H0:Hp}{p:ak}(h:nj K H0 p vs)(r:AVs K ρ0 H0 xs vs):JR K (oG xs) (YW K p) ρ0 H0 where
 go:=λi S H ρ x e R g=>by
  obtain⟨v,ev,d⟩:=(AVs.ko e r).get g;have hs:=e.sqT h;refine⟨⟨vs,v,hs,ev⟩,λw H' ⟨e1,y⟩=>?_⟩;subst e1;have:=y vs hs;rw[ev]at this
  cases this
  exact⟨.refl,R,d⟩
 stop:=λS H ρ e R _=>⟨vs,e.sqT h,by rw[<- r.length];exact aL _⟩
def SV{K:au}{H0:Hp}{p:ak}(h:Fz K H0 p vs)(r:AVs K ρ0 H0 xs vs):JR K (oG xs) (X5 K p) ρ0 H0 where
 go:=λi S H ρ x e R g=>by
  obtain⟨v,ev,d⟩:=(AVs.ko e r).get g;have hs:=(e.fz h).Pa;refine⟨⟨vs,v,hs,ev⟩,λw H' ⟨e1,y⟩=>?_⟩;subst e1;have:=y vs hs;rw[ev]at this
  cases this
  exact⟨.refl,R,d⟩
 stop:=λS H ρ e R _=>⟨vs,(e.fz h).Pa,by rw[<- r.length];exact aL _⟩
def Tw{K:au}{ρ0:bb}{H0:Hp}{p:ak}{n k:Nat}(h:ρ0[n]?=some p):JR K (jP n k) (X5 K p) ρ0 H0 where
 go:=λi S H ρ x e R g=>by
  obtain⟨ys,hn,j⟩:=b8.mp<|show(iU S n).bind (·[i]?)=some x from g;obtain⟨d,h1,r⟩:=R.lst (e.get h)<|ji hn;obtain⟨v,ev,f⟩:=r.get j;refine⟨⟨d,v,p7.of h1,ev⟩,λw H' ⟨e1,y⟩=>?_⟩;subst e1;have:=y d<|p7.of h1;rw[ev]at this
  cases this
  exact⟨.refl,R,f⟩
 stop:=λS H ρ e R g=>by
  have g:(match iU S n with
   | some ys=>decide (ys.length<=k)
   | none=>false)=true:=g
  cases hn:iU S n with
  | none=>rw[hn]at g;cases g
  | some ys=>
   rw[hn]at g;obtain⟨d,h1,r⟩:=R.lst (e.get h)<|ji hn;exact⟨d,p7.of h1,by rw[<- r.length];exact bH g⟩
def JK{K:au}{H0:Hp}{lo hi:Int}:JR K (kR lo hi) (Wa lo (hi-lo).toNat) ρ0 H0 where
 go:=λi S H ρ x e R g=>by
  have g:(if i<(hi-lo).toNat then some (A.int<|lo+i)else none)=some x:=g;by_cases d:i<(hi-lo).toNat
  ·rw[aP d]at g
   cases g
   refine⟨d,λw H' ⟨e1,y⟩=>?_⟩;subst e1 y;exact⟨.refl,R,.int _⟩
  ·rw[aM d]at g;cases g
 stop:=λS H ρ e R _=>aL _
def UO{K:au}{H0:Hp}{x:Str}:JR K (oG<|x.cps.toList.map λc=>A.str ⟨#[c]⟩) (Y0 x) ρ0 H0 where
 go:=λi S H ρ y e R g=>by
  have g:(x.cps.toList.map λc=>A.str ⟨#[c]⟩)[i]?=some y:=g;rw[aR]at g;obtain⟨c,hc,rfl⟩:=aW.mp g;rw[cM]at hc;refine⟨(Array.getElem?_eq_some_iff.mp hc).1,λw H' ⟨e1,j,d,f⟩=>?_⟩;rw[hc]at d
  cases d
  subst e1 f;exact⟨.refl,R,.str _⟩
 stop:=λS H ρ e R _=>by
  show(x.cps.toList.map λc=>A.str ⟨#[c]⟩).length=x.cps.size;rw[aG,dB]
def kK{c:Ex}(he:AE X e c):AI X tg e (kh c):=λpins s σ H Q I h9=>by
 x_go;have hb:=jb h
 cases hc:c τ S with
 | no=>rw[hc]at hb;exact hb.elim
 | ex x S1=>
  rw[hc]at hb;exact LK he pins s σ H Q I ⟨ρ,S,τ,R,r,by rw[hc];exact hb⟩
 | ok a S1=>
  rw[hc]at hb
  cases a with
  | tup xs=>
   refine LK he pins s σ H Q I ⟨ρ,S,τ,R,r,?_⟩;rw[hc];intro ρ1 H1 x e1 R1 v1
   cases v1 with
   | tup h1 r1=>exact⟨_,rfl,⟨_,(nj.of h1)⟩,hb ρ1 H1 _ e1 R1<|TJ (nj.of h1) r1⟩
  | frz xs=>
   refine GL he pins s σ H Q I ⟨ρ,S,τ,R,r,?_⟩;rw[hc];intro ρ1 H1 x e1 R1 v1
   cases v1 with
   | frz h1 r1=>exact⟨_,rfl,⟨_,h1.Pa⟩,hb ρ1 H1 _ e1 R1<|SV h1 r1⟩
  | ref n=>
   obtain⟨xs,hn,hb⟩:=iY hb;refine GL he pins s σ H Q I ⟨ρ,S,τ,R,r,?_⟩;rw[hc];intro ρ1 H1 x e1 R1 v1
   cases v1 with
   | ref d=>
    obtain⟨f,h1,r1⟩:=R1.lst d<|ji hn;exact⟨_,rfl,⟨_,p7.of h1⟩,hb ρ1 H1 _ e1 R1<|Tw d⟩
  | str x=>
   obtain⟨ha,hb⟩:=jq hb;refine SS he pins s σ H Q I ⟨ρ,S,τ,R,r,?_⟩;rw[hc];intro ρ1 H1 v e1 R1 v1
   cases v1 with
   | str=>exact⟨x,rfl,ha,hb ρ1 H1 _ e1 R1 UO⟩
  | _=>exact hb.elim
abbrev bnd (i:Int):Prop:=-(2 ^ 62)<=i/\i<2 ^ 62
instance (i:Int):Decidable (bnd i):=by unfold bnd;infer_instance
abbrev kN (c:Ex):Ic:=λτ S=>(c τ S).bind λa S1=>match a with
 | .int j=>gd (bnd j) (.ok (kR 0 j) S1)
 | _=>.no
abbrev sQ (c d:Ex):Ic:=λτ S=>(c τ S).bind λa S1=>(d τ S1).bind λb S2=>match a,b with
 | .int i,.int j=>gd (bnd i/\bnd j) (.ok (kR i j) S2)
 | _,_=>.no
def mH{p:Pos}{c:Ex}(hm:X.mg "range" = none)(ha:AE X a c)(hg:Gl X "range"<|>ε)(hs:starEach [a] X.env=[(false,eval a X.env)]<|>ε):AI X tg (.Call (.Name "range" p) [a] [] pos) (kN c):=λpins s σ H Q I h9=>by
 x_go;refine HX hg hm (w6 ha Eu hs) hs pins s σ H Q I ⟨ρ,S,τ,R,r,iX (jb h) .refl λx S1 h1 ρ1 H1 v e1 R1 v1=>?_⟩
 cases v1 with
 | int j=>
  obtain⟨hb,h1⟩:=jq h1;exact⟨_,rfl,hb.1,hb.2,by have:=h1 ρ1 H1 _ e1 R1 JK;rwa [Int.sub_zero]at this⟩
 | _=>exact h1.elim
def wk{p:Pos}{c d:Ex}(hm:X.mg "range" = none)(ha:AE X a c)(hb:AE X b d)(hg:Gl X "range"<|>ε)(hs:starEach [a,b] X.env=[(false,eval a X.env),(false,eval b X.env)]<|>ε)(hs2:starEach [b] X.env=[(false,eval b X.env)]<|>ε):AI X tg (.Call (.Name "range" p) [a,b] [] pos) (sQ c d):=λpins s σ H Q I h9=>by
 x_go;refine IA hg hm (w6 ha (w6 hb Eu hs2)<|by rw[hs,hs2]) hs hs2 pins s σ H Q I ⟨ρ,S,τ,R,r,iX (jb h) .refl λx S1 h1 ρ1 H1 v e1 R1 v1=>⟨ρ1,S1,τ,R1,r.ext e1,iX (jb h1) e1 λy S2 h2 ρ2 H2 w e2 R2 v2=>?_⟩⟩
 cases v1 with
 | int i=>
  cases v2 with
  | int j=>
   obtain⟨hb,h2⟩:=jq h2;exact⟨_,_,rfl,⟨hb.1.1,hb.1.2,hb.2.1,hb.2.2⟩,h2 ρ2 H2 _ (e1.trans e2) R2 JK⟩
  | _=>exact h2.elim
 | _=>exact h2.elim
abbrev qg (s:Src)(g:Tg)(c:Sm):Nat->Nat->Sm
 | 0,_=>λτ S=>if s.fin S then .nx τ S else .no
 | k+1,i=>λτ S=>match s.get i S with
  | none=>.no
  | some x=>.of (g x τ S) λj S1=>match c j S1 with
   | .nx d f=>qg s g c k (i+1) d f
   | .ct d f=>qg s g c k (i+1) d f
   | .bk d f=>.nx d f
   | r=>r
abbrev kZ (src:Ic)(g:Tg)(c:Sm):Sm:=λτ S=>.of (src τ S) λs S1=>qg s g c s.k 0 τ S1
def lN{iter:aE}{src:Ic}{g:Tg}{c:Sm}(hp:PassesOwn (model X.prog X.w) X.A X.env X.xe)(hc:X.calm=true)(hi:AI X tg iter src)(hg:AG X tg g)(hb:PU X body c)
  (hs:(∀x,foldedSetIterable iter X.env x=pure x)<|>ζ):AS X (.For tg iter body [] pos) (kZ src g c):=PS.imp (RY hp hc hi hg hb hs) λD σ H h9=>by
 x_go;refine⟨ρ,S,τ,R,r,iX (of_post h) .refl λs S1 h1 ρ1 H1 J e1 R1 jr=>?_⟩;refine⟨λi m t H'=>m+i=s.k/\∃ρ' q d,Ext ρ1 ρ' H1 H'/\Rel X.K ρ' H' q/\SR X.K ρ' H' d t/\zN X ρ' H' D (qg s g c m i d q),⟨s.k,rfl,ρ1,S1,τ,.refl,R1,r.ext e1,zN.ext h1 e1⟩,?_⟩;rintro i m N H2 ⟨hm,ρ2,S2,F,e2,R2,r2,h2⟩
 cases m with
 | zero=>
  left;have h2:zN X ρ2 H2 D (if s.fin S2 then .nx F S2 else .no):=h2
  cases hf:s.fin S2 with
  | false=>rw[hf]at h2;exact h2.elim
  | true=>
   rw[hf]at h2;refine⟨by rw[show i=s.k by lia];exact jr.stop S2 H2 ρ2 e2.toExt0 R2 hf,h2 ρ2 H2 N .refl R2 r2⟩
 | succ m=>
  right;have h2:zN X ρ2 H2 D (match s.get i S2 with
   | none=>.no
   | some x=>.of (g x F S2) λO S1=>match c O S1 with
    | .nx d q=>qg s g c m (i+1) d q
    | .ct d q=>qg s g c m (i+1) d q
    | .bk d q=>.nx d q
    | r=>r):=h2
  cases Y:s.get i S2 with
  | none=>rw[Y]at h2;exact h2.elim
  | some x=>
   rw[Y]at h2;obtain⟨P,hy⟩:=jr.go i S2 H2 ρ2 x e2.toExt0 R2 Y;refine⟨P,λt H'=>m+(i+1)=s.k/\∃ρ' q d,Ext ρ1 ρ' H1 H'/\Rel X.K ρ' H' q/\SR X.K ρ' H' d t/\zN X ρ' H' D (qg s g c m (i+1) d q),λt H' z=>⟨m,c9 _,z⟩,λv H3 y=>?_⟩;obtain⟨e3,R3,v3⟩:=hy v H3 y;refine⟨ρ2,S2,F,x,R3,r2.ext e3,v3,iX (of_post h2) e3 λL Z p V H4 σ4 e4 R4 r4=>⟨V,Z,L,R4,r4,?_⟩⟩;have f:=e3.trans e4
   cases j:c L Z with
   | nx B G=>rw[j]at p;exact λC H5 T M W U=>⟨(),C,G,B,(e2.trans f).trans M,W,U,zN.ext p<|f.trans M⟩
   | ct B G=>rw[j]at p;exact λC H5 T M W U=>⟨(),C,G,B,(e2.trans f).trans M,W,U,zN.ext p<|f.trans M⟩
   | bk B G=>rw[j]at p;exact E1.ext p f
   | rt x5 G=>rw[j]at p;exact xN.ext p f
   | ex x5 G=>rw[j]at p;exact XE.ext p f
   | no=>rw[j]at p;exact p
end
abbrev R.mG {α β:Type}(r:R α)(f:α->iW->R β):R β:=match r with
 | .ok a S=>f a S
 | _=>.no
def m_{α β:Type}{r:R α}{f:α->iW->R β}{b:β}(h:r.mG f=.ok b S2):∃a S,r=.ok a S/\f a S=.ok b S2:=by
 cases r with
 | ok a S=>exact⟨a,S,rfl,h⟩
 | ex _ _=>cases h
 | no=>cases h
def yD{α β:Type}{r:R α}{f:α->iW->R β}{P:β->iW->Prop}{E:Str->iW->Prop}(h:(r.mG f).post P E):∃a S,r=.ok a S/\(f a S).post P E:=by
 cases r with
 | ok a S=>exact⟨a,S,rfl,h⟩
 | ex _ _=>exact h.elim
 | no=>exact h.elim
def BE{α β:Type}{o:Option β}{f:β->R α}{a:α}(h:opt o f=.ok a S):∃b,o=some b/\f b=.ok a S:=by
 cases o with
 | none=>cases h
 | some b=>exact⟨b,rfl,h⟩
abbrev l_ (s:Src)(g:Tg)(t:Te)(e:Ex):Nat->Nat->ae->iW->R (ae)
 | 0,_=>λ_ S=>if s.fin S then .ok [] S else .no
 | k+1,i=>λτ S=>opt (s.get i S) λx=>(g x τ S).mG λd S1=>(t d S1).mG λb S2=>match b with
  | true=>(e d S2).mG λy S3=>(l_ s g t e k (i+1) d S3).mG λys f=>.ok (y::ys) f
  | false=>l_ s g t e k (i+1) d S2
abbrev j3 (cap:List<|bj)(τ:ae):ae:=cap.map λo=>match o with
 | some j=>τ.getD j .unb
 | none=>.unb
abbrev jx (cap:List<|bj)(src:Ic)(g:Tg)(t:Te)(e:Ex):Ex:=λτ S=>(src τ S).bind λs S1=>(l_ s g t e s.k 0 (j3 cap τ) S1).mG λys S2=>newL ys S2
abbrev kL:Te:=λ_ S=>.ok true S
def CH{s:Src}{g:Tg}{t:Te}{e:Ex}{k:Nat}{T:Prop}(h:l_ s g t e (k+1) i τ S=.ok zs S')
  (q:∀x τ1 S1 b S2,s.get i S=some x->g x τ S=.ok τ1 S1->t τ1 S1=.ok b S2->(b=true->∃y S3 ws,e τ1 S2=.ok y S3/\l_ s g t e k (i+1) τ1 S3=.ok ws S'/\zs=y::ws)->(b=false->l_ s g t e k (i+1) τ1 S2=.ok zs S')->T):T:=by
 obtain⟨x,f,h⟩:=BE h;obtain⟨τ1,S1,h1,h⟩:=m_ h;obtain⟨b,S2,h2,h⟩:=m_ h;refine q x τ1 S1 b S2 f h1 h2 (λhb=>?_) λhb=>?_
 ·subst hb;obtain⟨y,S3,h3,h⟩:=m_ h;obtain⟨ws,j,d,h⟩:=m_ h
  cases h
  exact⟨y,S3,ws,h3,d,rfl⟩
 ·subst hb;exact h
structure Out (ρ1:bb)(H1:Hp)(D:ak)(accV:List V)(ρ:bb)(H:Hp):Prop where
 e0:Ext0 ρ1 ρ H1 H
 fr:∀a u,a≠D->H1 a=some u->a∉ρ1->H a=some u
 nw:∀a∈ρ,a∈ρ1\/H1 a=none
 nD:D∉ρ
 hD:H D=some (.lst accV)
def Out.stay{H1 H3 H7:Hp}{D:ak}(o:Out ρ1 H1 D accV ρ3 H3)(hD1:H1 D=none)(e7:Ext ρ3 ρ7 H3 H7):Out ρ1 H1 D accV ρ7 H7:=by
 refine⟨⟨o.e0.pre.trans e7.pre,λa u i h=>e7.im a u i<|o.e0.im a u i h⟩,λa u na f g=>e7.fr a u (o.fr a u na f g) λz=>(o.nw a z).elim g λz=>by(rw[z]at f;cases f),λa ha=>?_,λz=>(e7.nw D z).elim o.nD λz=>by(rw[o.hD]at z;cases z),e7.fr D _ o.hD o.nD⟩;by_cases d:a∈ρ1
 ·exact .inl d
 ·right
  cases q:H1 a with
  | none=>rfl
  | some u=>
   have j:a≠D:=jo q hD1
   rcases e7.nw a ha with z|z
   ·exact((o.nw a z).elim d λz=>by(rw[z]at q;cases q)).elim
   ·rw[o.fr a u j q d]at z;cases z
def Out.put{H1 H:Hp}{D:ak}(o:Out ρ1 H1 D accV ρ H)(ex:Ext0 ρ ρ H<|upd H D<|.lst vs):Out ρ1 H1 D vs ρ (upd H D<|.lst vs):=
 ⟨⟨o.e0.pre,λa u i h=>ex.im a u i<|o.e0.im a u i h⟩,λa u na d f=>by rw[i_ na];exact o.fr a u na d f,o.nw,o.nD,jF⟩
def Out.end{H1 H:Hp}{D:ak}(o:Out ρ1 H1 D accV ρ H)(hD:H1 D=none):Ext ρ1 (ρ++[D]) H1 H:=by
 refine⟨⟨o.e0.pre.trans<|dh _ _,o.e0.im⟩,λa u d na=>o.fr a u (jo d hD) d na,λa ha=>?_⟩
 rcases bI.mp ha with z|z
 ·exact o.nw a z
 ·have:a=D:=by simpa using z
  rw[this];exact .inr hD
abbrev Cq (K:au)(ρ1:bb)(H1:Hp)(D:ak)(ys:ae)(k:Nat)(E:bb->Hp->Prop)(P:Nat->Nat->ae->iW->ae->Prop)(i m:Nat)(σ:L2.St)(H:Hp):Prop:=
 m+i=k/\∃ρ S τ acc zs accV,Out ρ1 H1 D accV ρ H/\E ρ H/\Rel K ρ H S/\SR K ρ H τ σ/\AVs K ρ H acc accV/\P m i τ S zs/\acc++zs=ys
section
variable {K:au}{ρ1 ρ:bb}{H1 H:Hp}{D:ak}{ys acc zs:ae}{accV:List V}{k i m:Nat}{E:bb->Hp->Prop}{P:Nat->Nat->ae->iW->ae->Prop}{σ:L2.St}{S:iW}{τ:ae}
def Cq.el{T:Prop}(h:Cq K ρ1 H1 D ys k E P i m σ H)(q:∀ρ S τ acc zs accV,m+i=k->Out ρ1 H1 D accV ρ H->E ρ H->Rel K ρ H S->SR K ρ H τ σ->AVs K ρ H acc accV->P m i τ S zs->acc++zs=ys->T):T:=by
 obtain⟨p,ρ,S,τ,acc,zs,accV,h1,h2,h3,d,j,g,f⟩:=h;exact q ρ S τ acc zs accV p h1 h2 h3 d j g f
def Cq.of(hm:m+i=k)(o:Out ρ1 H1 D accV ρ H)(e:E ρ H)(R:Rel K ρ H S)(r:SR K ρ H τ σ)(v:AVs K ρ H acc accV)(p:P m i τ S zs)(q:acc++zs=ys):Cq K ρ1 H1 D ys k E P i m σ H:=⟨hm,ρ,S,τ,acc,zs,accV,o,e,R,r,v,p,q⟩
end
abbrev UX (K:au)(c:Ex):TE:=λσ H Q=>∃ρ S τ a d,Rel K ρ H S/\SR K ρ H τ σ/\c τ S=.ok a d/\∀ρ' H' v,Ext ρ ρ' H H'->Rel K ρ' H' d->AV K ρ' H' a v->Q v H'
abbrev VP (K:au)(c:Te):TT:=λσ H Q=>∃ρ S τ a d,Rel K ρ H S/\SR K ρ H τ σ/\c τ S=.ok a d/\∀ρ' H',Ext ρ ρ' H H'->Rel K ρ' H' d->Q a H'
abbrev Wl (K:au)(g:Tg):TG:=λv σ H Q=>∃ρ S τ a d j,Rel K ρ H S/\SR K ρ H τ σ/\AV K ρ H a v/\g a τ S=.ok d j/\∀ρ' H' f,Ext ρ ρ' H H'->Rel K ρ' H' j->SR K ρ' H' d f->Q f H'
section
variable {X:Cx}{pos:Pos}{tg iter elt e:aE}{ifs:List aE}{scope:Scope}{N:ar}{cap:List (bj)}{src:Ic}{g:Tg}{t:Te}{c:Ex}
def AE.e0{K:au}(hK:X.K=K)(h:AE X e c):PE X e (UX K c):=PE.imp h λσ H Q ⟨ρ,S,τ,a,g,R,r,hc,q⟩=>⟨ρ,S,τ,by rw[hK];exact R,by rw[hK];exact r,by rw[hc];exact λρ' H' v e d f=>q ρ' H' v e (by rw[<- hK];exact d)<|by rw[<- hK];exact f⟩
def AT.t0{K:au}(hK:X.K=K)(h:AT X e t):PT X e (VP K t):=PT.imp h λσ H Q ⟨ρ,S,τ,a,f,R,r,hc,q⟩=>⟨ρ,S,τ,by rw[hK];exact R,by rw[hK];exact r,by rw[hc];exact λρ' H' e d=>q ρ' H' e<|by rw[<- hK];exact d⟩
def AG.g0{K:au}(hK:X.K=K)(h:AG X e g):PG X e (Wl K g):=by
 subst hK;refine PG.imp h λv σ H Q h9=>?_;obtain⟨ρ,S,τ,a,d,f,R,r,va,hc,q⟩:=h9;exact⟨ρ,S,τ,a,R,r,va,by rw[hc];exact q⟩
abbrev X0 (X:Cx)(ifs:List aE)(t:Te):Prop:=O7 X ifs<|VP X.K t
def l6:X0 X [] kL:=λpins s σ H Q I ⟨ρ,S,τ,a,d,R,r,hc,q⟩=>Pp pins s σ H Q I<|by cases hc;exact q ρ H .refl R
def vM(h:AT X e t):X0 X [e] t:=Pc<|h.t0 rfl
def QS{K:au}{H:Hp}(r:SR K ρ H τ σ)(cap:List<|bj):SR K ρ H (j3 cap τ) (cap.map<|OV σ):=by
 refine⟨by simp[j3],λi a h=>?_⟩;unfold j3 at h;rw[aR]at h;obtain⟨o,f,e⟩:=aW.mp h
 cases o with
 | none=>exact .inl e.symm
 | some j=>
  have e:τ.getD j .unb=a:=e
  cases d:τ[j]? with
  | none=>rw[aK,d]at e;exact .inl e.symm
  | some b=>
   rw[aK,d]at e;have e:b=a:=e;subst e
   rcases r.at j b d with z|⟨v,h1,h2⟩
   ·exact .inl z
   ·exact .inr ⟨v,by rw[aR,f];show some ((σ[j]?).getD none)=_;rw[h1];rfl,h2⟩
def Rel.Co{K:au}{H:Hp}{p:ak}(R:Rel K ρ H S)(hp:H p=none):p∉ρ:=λg=>by
 obtain⟨n,hn,e⟩:=cu.mp g;have j:n<S.length:=by rw[<- R.len];exact hn
 have:=R.at n p S[n] (by rw[aH hn,e]) (aH j)
 cases d:S[n]with
 | lst xs=>rw[d]at this;obtain⟨f,h,_⟩:=this;rw[hp]at h;cases h
 | dct _|oS _|dks _|rZ _=>rw[d]at this;obtain⟨f,h,_⟩:=this;rw[hp]at h;cases h
 | dcf _=>rw[d]at this;obtain⟨_,f,h,_⟩:=this;rw[hp]at h;cases h
 | ins _ _=>rw[d]at this;obtain⟨_,_,h⟩:=this;rw[hp]at h;cases h
def Lc(σ:L2.St)(H:Hp)(Q:VK)(h:tE X (jx cap src g t c) σ H Q):X9 cap (tI X src) (Wl X.K g) (VP X.K t) (UX X.K c) σ H Q:=by
 cb_eq;refine⟨ρ,S,τ,R,r,iX (jb h) .refl λs S1 h1 ρ1 H1 J e1 R1 jr D hD=>?_⟩;obtain⟨ys,S2,U,h1⟩:=yD h1;obtain⟨G,h1⟩:=jq h1;have h1:xN X ρ H Q (.ref S2.length) (S2++[.lst ys]):=h1;obtain⟨eD,RD⟩:=R1.im (u:=.lst []) hD;refine⟨Cq X.K ρ1 H1 D ys s.k (λ_ _=>True) λm i τ S zs=>l_ s g t c m i τ S=.ok zs S2,⟨s.k,.of rfl ⟨eD.toExt0,λa u na hu _=>by rw[i_ na];exact hu,λa ha=>.inl ha,R1.Co hD,jF⟩ trivial RD (QS ((r.ext e1).ext eD) cap) .nil U rfl⟩,?_⟩;intro i m σ3 H3 hw;refine hw.el λρ3 S3 T acc zs accV hm q _ R3 r3 p d f=>?_;clear hw
 cases m with
 | zero=>
  left;have d:(if s.fin S3 then Am.R.ok [] S3 else .no)=.ok zs S2:=d
  cases hf:s.fin S3 with
  | false=>rw[hf]at d;cases d
  | true=>
   rw[hf]at d
   cases d
   rw[b9]at f;subst f;refine⟨by rw[show i=s.k by lia];exact jr.stop _ H3 ρ3 q.e0 R3 hf,?_⟩;obtain⟨RT,gt⟩:=R3.take q.hD q.nD p;exact h1 (ρ3++[D]) H3 _ (e1.trans<|q.end hD) RT<|.ref gt
 | succ m=>
  right;refine CH d λx C S4 b S5 hx W O hT hF=>?_;have jg:=jr.go i S3 H3 ρ3 x q.e0 R3 hx;refine⟨jg.1,λv H4 y=>?_⟩;obtain⟨e4,R4,v4⟩:=jg.2 v H4 y;refine⟨ρ3,S3,T,x,C,S4,R4,r3.ext e4,v4,W,λY H5 σ5 e5 R5 M=>⟨Y,S4,C,b,S5,R5,M,O,λV H6 L R6=>?_⟩⟩;have j:=(e4.trans e5).trans L
  cases b with
  | false=>
   dsimp only;rw[aM bL];exact⟨m,c9 _,.of () (q.stay hD j) trivial R6 (M.ext L) (p.ext j) (hF rfl) f⟩
  | true=>
   dsimp only;rw[aP rfl];obtain⟨y,S6,ws,Z,cg6,F⟩:=hT rfl;refine⟨V,S5,C,y,S6,R6,M.ext L,Z,λρ7 H7 w P R7 v7=>?_⟩;have N:=q.stay hD<|j.trans P;obtain⟨B,R8⟩:=R7.out (ws:=accV++[w]) N.hD N.nD;have l1:=p.length;refine⟨accV,N.hD,?_,m,c9 _,.of () (N.put B) trivial R8 ((M.ext<|L.trans P).ko B) (AVs.ko B<|(p.ext<|j.trans P).append<|.one v7) cg6 ?_⟩
   ·have:(acc++zs).length<=sizeLine:=by rw[f];exact G
    rw[F,bw,bN]at this
    lia
   ·rw[cB,<- f,F];rfl
def kY(hc:X.calm=true)(Sc:CpScope X scope N cap)(hi:AI X tg iter src)(hg:∀C s₀ H₀ ex,AG (kg X scope N C s₀ H₀ ex) tg g)(ht:∀C s₀ H₀ ex,X0 (kg X scope N C s₀ H₀ ex) ifs t)(he:∀C s₀ H₀ ex,AE (kg X scope N C s₀ H₀ ex) elt c)
  (hs:(∀x,foldedSetIterable iter X.env x=pure x)<|>ζ):AE X (.ListComp elt [⟨tg,iter,ifs,0⟩] scope pos) (jx cap src g t c):=
 PE.imp (Wv hc Sc hi (g:=Wl X.K g) (tc:=VP X.K t) (te:=UX X.K c) (λC s₀ H₀ ex=>(hg C s₀ H₀ ex).g0 rfl) (λC s₀ H₀ ex=>ht C s₀ H₀ ex) (λC s₀ H₀ ex=>(he C s₀ H₀ ex).e0 rfl) hs) Lc
end
abbrev A.lst? (S:iW):A->Option (ae)
 | .ref n=>iU S n
 | _=>none
abbrev VR (f:A->ae->iW->R A)(co:Ex)(d:p6):Ex:=λτ S=>(co τ S).bind λo S1=>opt (o.lst? S1) λ_=>(d τ S1).bind λas S2=>f o as S2
abbrev UA (f:A->ae->iW->R A)(co:Ex):Ex:=λτ S=>(co τ S).bind λo S1=>opt (o.lst? S1) λ_=>f o [] S1
abbrev rM (X:Cx)(f:A->ae->iW->R A):V->List V->Hp->VK->Prop:=λx d H Q=>∃ρ S o as,Rel X.K ρ H S/\AV X.K ρ H o x/\AVs X.K ρ H as d/\(f o as S).post (xN X ρ H Q) (XE X ρ H)
section
variable {X:Cx}{apos cpos:Pos}{o e:aE}{es:List aE}{name:Str}{id:String}{f:A->ae->iW->R A}{co:Ex}{d:p6}
def lst?_ty{K:au}{H:Hp}{x:A}{v:V}(R:Rel K ρ H S)(h:AV K ρ H x v)(e:x.lst? S=some xs):VT K "list" v H:=by
 cases h with
 | ref h=>
  obtain⟨d,h1,_⟩:=R.lst h<|ji e;exact .inl ⟨rfl,d,p7.of h1⟩
 | _=>cases e
def F6(slot:Slot "list" name id)(hty:typeOf (.builtin id)=pure (.type "method_descriptor"))(hm:EF X id<|rM X f)(ho:AE X o co)(ha:AL X (e::es) d)
  (hbase:attributeBase o name X.env (eval o X.env)=eval o X.env<|>ε)
  (hfew:(((backTo cpos<|starEach (e::es) X.env).all (λx=>!x.1) && (backToKw cpos<|keywordEach [] X.env).all (λx=>x.1.isSome)
   && decide ((e::es).length+([]:List Keyword).length+(if ([]:List Keyword).isEmpty then 0 else 1)<30))=true)<|>ε)
  (hline:(apos.endLine == cpos.line)=true<|>ε) (hs:starEach (e::es) X.env=(false,eval e X.env)::starEach es X.env<|>ε) (hplain:((backTo cpos<|starEach es X.env).any (·.1)=false)<|>ε) :
  AE X (.Call (.Attribute o name apos) (e::es) [] cpos) (VR f co d):=PE.imp (JD PySem.F.plainAttrs_list slot hty hm ho ha hbase hfew hline hs hplain) λσ H Q h9=>by
 x_go;kcf_m;obtain⟨xs,g,h1⟩:=iY h1;refine⟨lst?_ty R1 v1 g,ρ1,S1,τ,R1,r.ext e1,iX (jb h1) e1 λas S2 h2 ρ2 H2 j e2 R2 v2=>?_⟩;kpc_g
def Us(slot:Slot "list" name id)(hty:typeOf (.builtin id)=pure (.type "method_descriptor"))(hm:EF X id<|rM X f)(ho:AE X o co)
  (hbase:attributeBase o name X.env (eval o X.env)=eval o X.env<|>ε) (hline:(apos.endLine == cpos.line)=true<|>ε):AE X (.Call (.Attribute o name apos) [] [] cpos) (UA f co):=PE.imp (TU PySem.F.plainAttrs_list slot hty hm ho hbase hline) λσ H Q h9=>by
 x_go;kcf_m;obtain⟨xs,d,h1⟩:=iY h1;exact⟨lst?_ty R1 v1 d,ρ1,S1,x,[],R1,v1,.nil,iX h1 e1 λ_ _ z=>z.ext e1⟩
abbrev vt (o:A)(as:ae)(S:iW):R A:=match o,as with
 | .ref n,[x]=>opt (iU S n) λxs=>gd (xs.length<sizeLine) (.ok .non<|S.set n<|.lst<|xs++[x])
 | _,_=>.no
def yK:EF X "list.append" (rM X vt):=λpins s σ H x q v us Q I rx k h9=>by
 obtain⟨ρ,S,o,as,R,j,va,h⟩:=h9
 cases j with
 | @ref p n d=>
  match as,va,h with
  | [],_,h=>exact h.elim
  | _::_::_,_,h=>exact h.elim
  | [y],va,h=>
   obtain⟨w,rfl,hw⟩:=P9 va;kcj_m;obtain⟨m,h⟩:=jq h;obtain⟨g,h1,r⟩:=R.lst d<|ji hn;obtain⟨ex,f⟩:=R.put d (ji hn)<|r.append<|.one hw;exact zC pins s σ H _ _ v us Q I rx k ⟨p,g,w,rfl,rfl,h1,by rw[<- r.length];exact m,h _ _ _ ex f .non⟩
 | _=>exact h.elim
abbrev To (o:A)(as:ae)(S:iW):R A:=match o,as with
 | .ref n,[]=>opt (iU S n) λxs=>opt (xs[xs.length-1]?) λx=>.ok x (S.set n<|.lst xs.dropLast)
 | _,_=>.no
def AVs.dropLast{K:au}{H:Hp}{xs:ae}{vs:List V}(r:AVs K ρ H xs vs):AVs K ρ H xs.dropLast vs.dropLast:=by
 rw[List.dropLast_eq_take,List.dropLast_eq_take,r.length];exact r.take _
def XD:EF X "list.pop" (rM X To):=λpins s σ H x q v us Q I rx m h9=>by
 obtain⟨ρ,S,o,as,R,k,va,h⟩:=h9
 cases k with
 | @ref p n d=>
  match as,va,h with
  | _::_,_,h=>exact h.elim
  | [],va,h=>
   cases va
   kcj_m;obtain⟨y,hy,h⟩:=iY h;obtain⟨j,h1,r⟩:=R.lst d<|ji hn;obtain⟨w,hw,f⟩:=r.get hy;obtain⟨ex,g⟩:=R.put d (ji hn) r.dropLast;exact Ti pins s σ H _ _ v us Q I rx m ⟨p,j,w,rfl,rfl,h1,by rw[<- r.length];exact hw,h _ _ _ ex g<|f.ext ex⟩
 | _=>exact h.elim
abbrev DT (o:A)(as:ae)(S:iW):R A:=match o,as with
 | .ref n,[.int i]=>opt (iU S n) λxs=>gd (-(2 ^ 63)<=i/\i<2 ^ 63) (opt (seqIndex? i xs.length) λk=>opt (xs[k]?) λx=>.ok x<|S.set n<|.lst<|xs.eraseIdx k)
 | _,_=>.no
def O6:EF X "list.pop" (rM X DT):=λpins s σ H x C v us Q I rx t h9=>by
 obtain⟨ρ,S,o,as,R,q,va,h⟩:=h9
 cases q with
 | @ref p n d=>
  match as,va,h with
  | [],_,h=>exact h.elim
  | y::_::_,_,h=>exact(by cases y<;>exact h.elim)
  | [y],va,h=>
   obtain⟨w,rfl,hw⟩:=P9 va
   cases hw with
   | int i=>
    kcj_m;obtain⟨f,h⟩:=jq h;obtain⟨k,B,h⟩:=iY h;obtain⟨y,hy,h⟩:=iY h;obtain⟨m,h1,r⟩:=R.lst d<|ji hn;obtain⟨w,hw,g⟩:=r.get hy;obtain⟨ex,j⟩:=R.put d (ji hn)<|r.eraseIdx k;exact Lx pins s σ H _ _ v us Q I rx t ⟨p,m,i,k,w,rfl,rfl,h1,f.1,f.2,by rw[<- r.length];exact B,hw,h _ _ _ ex j<|g.ext ex⟩
   | _=>exact h.elim
 | _=>exact h.elim
end
abbrev kc (N:ar)(m:Sm)(as:ae)(S:iW):R A:=match m (as++List.replicate (N.length-as.length) .unb) S with
 | .rt a d=>.ok a d
 | .nx _ d=>.ok .non d
 | .ex c d=>.ex c d
 | _=>.no
abbrev p8 (K:au)(n:Nat)(F:ae->iW->R A):Sp:=λd H Q _=>d.length=n/\∃ρ S as a f,Rel K ρ H S/\AVs K ρ H as d/\F as S=.ok a f/\∀ρ' H' v,Ext ρ ρ' H H'->Rel K ρ' H' f->AV K ρ' H' a v->Q v H'
def OB{K:au}{H:Hp}{as:ae}(r:AVs K ρ H as vs)(N:ar):SR K ρ H (as++List.replicate (N.length-as.length) .unb) (L2.start N vs):=by
 have g:=r.length;refine⟨by unfold L2.start;simp[g],λi a h=>?_⟩;by_cases f:i<as.length
 ·rw[br f]at h;obtain⟨v,hv,d⟩:=r.get h;exact .inr ⟨v,by unfold L2.start;rw[br<|by simp;lia,aR,hv];rfl,d⟩
 ·rw[gT (),List.getElem?_replicate]at h;split at h
  ·exact .inl (aZ h).symm
  ·cases h
section
variable {P:aj}{w:ah}{K:au}{mg:Str->bd}{base:aq}
def sE{x:Str}{st:aF}{f:ak}{N ps:ar}{k:Nat}{m:Sm}(F:Fun K x qual st f fd)(Sc:FnScope N ps<|jf st)
  (body:∀(cdv:af) (A:aA) (outer:List Env) (s:aC) (H:Hp) (E:XK),Room k (A.deeper<|envOfC qual (jf st) s.heap.objs.size f cdv)->PU (D4 o9 P w K mg base N qual (jf st) f cdv A outer s H E).XT (qe st) m) :
  FnOk P w K mg base o9 (k+1) f fd ps (p8 K ps.length<|kc N m):=by
 refine F.ok Sc (λp H Q E h=>h.1) λcdv B outer s H p Q E t ⟨G,ρ,S,as,a,D,R,va,d,q⟩=>⟨_,body cdv B outer s H E t,ρ,S,_,R,OB va N,?_⟩;unfold kc at d
 cases g:m (as++List.replicate (N.length-as.length) .unb) S with
 | rt b S2=>rw[g]at d;cases d;exact q
 | nx τ S2=>rw[g]at d;cases d;exact λρ' H' C e j _=>q ρ' H' _ e j .non
 | bk τ S2=>rw[g]at d;cases d
 | ct τ S2=>rw[g]at d;cases d
 | ex c S2=>rw[g]at d;cases d
 | no=>rw[g]at d;cases d
end
meta abbrev mO (P:aj)(w:ah)(K:au)(mg:Str->bd)(base:aq)(k:Nat)(x:Str)(ps:ar)(F:ae->iW->R A):Prop:=Kn P w K mg base k x ps<|p8 K ps.length F
abbrev eFn (F:ae->iW->R A)(d:p6):Ex:=λτ S=>(d τ S).bind λas S1=>match F as S1 with
 | .ok a S2=>.ok a S2
 | _=>.no
section
variable {X:Cx}{pos p:Pos}{e:aE}{es:List aE}{x:Str}{ps:ar}{k:Nat}{F:ae->iW->R A}{d:p6}
def oQ(G:mO X.prog X.w X.K X.mg X.base k x ps F)(hr:Room k X.A)(ha:AL X (e::es) d)(hl:∀τ S as S',d τ S=.ok as S'->as.length=ps.length)(hg:Gl X x<|>ε)(hdb:(x == ("__debug__" : Str))=false<|>δ)
  (hs:starEach (e::es) X.env=(false,eval e X.env)::starEach es X.env<|>ε) (hplain:((backTo pos<|starEach es X.env).any (·.1)=false)<|>ε):AE X (.Call (.Name x p) (e::es) [] pos) (eFn F d):=
 PE.imp (XX G hr ha hg hdb hs hplain) λσ H Q h9=>by
  x_go;refine⟨ρ,S,τ,R,r,?_⟩;have hb:=jb h
  cases f:d τ S with
  | no=>rw[f]at hb;exact hb
  | ex c S1=>rw[f]at hb;exact hb
  | ok as S1=>
   rw[f]at hb;intro ρ1 H1 j e1 R1 v1;rw[b9];refine⟨by rw[<- v1.length];exact hl τ S as S1 f,ρ1,S1,as,?_⟩;have hb:Am.R.post (match F as S1 with
    | .ok a S2=>.ok a S2
    | _=>.no) (xN X ρ H Q) (XE X ρ H):=hb
   cases g:F as S1 with
   | ok a S2=>rw[g]at hb;exact⟨a,S2,R1,v1,rfl,λρ2 H2 v e2=>hb ρ2 H2 v<|e1.trans e2⟩
   | ex c S2=>rw[g]at hb;exact hb.elim
   | no=>rw[g]at hb;exact hb.elim
def kG:∀τ S as S',ja τ S=.ok as S'->as.length=0:=λτ S as S' h=>by cases h;rfl
def jm{c:Ex}{d:p6}{n:Nat}(h:∀τ S as S',d τ S=.ok as S'->as.length=n):∀τ S as S',iS c d τ S=.ok as S'->as.length=n+1:=λτ S as S' e=>by
 unfold iS at e
 cases hc:c τ S with
 | ok a S1=>
  rw[hc]at e
  cases f:d τ S1 with
  | ok bs S2=>
   have e:R.bind (d τ S1) (λas S2=>.ok (a::as) S2)=.ok as S':=e;rw[f]at e;cases e;rw[bN,h τ S1 bs _ f]
  | ex _ _=>
   have e:R.bind (d τ S1) (λas S2=>.ok (a::as) S2)=.ok as S':=e;rw[f]at e;cases e
  | no=>
   have e:R.bind (d τ S1) (λas S2=>.ok (a::as) S2)=.ok as S':=e;rw[f]at e;cases e
 | ex _ _=>rw[hc]at e;cases e
 | no=>rw[hc]at e;cases e
end
section
variable {X:Cx}{pos:Pos}{a b c:aE}
abbrev kCh (f':A->A->iW->R A)(cc:Ex)(τ:ae)(b k:A)(S:iW):R A:=match k with
 | .bl true=>(cc τ S).bind λc d=>f' b c d
 | .bl false=>.ok (.bl false) S
 | _=>.no
abbrev VS (f f':A->A->iW->R A)(ca cb cc:Ex):Ex:=λτ S=>(ca τ S).bind λa S1=>(cb τ S1).bind λb S2=>(f a b S2).bind λk S3=>kCh f' cc τ b k S3
def Tv{f f':A->A->iW->R A}{ca cb cc:Ex}{H:Hp}{Q:VK}(h:tE X (VS f f' ca cb cc) σ H Q):JS (r2 X f) (r2 X f') (tE X ca) (tE X cb) (tE X cc) σ H Q:=by
 cb_eq;refine⟨ρ,S,τ,R,r,iX (jb h) .refl λa S1 h1 ρ1 H1 x e1 R1 v1=>⟨ρ1,S1,τ,R1,r.ext e1,iX (jb h1) e1 λb S2 h2 ρ2 H2 y e2 R2 v2=>?_⟩⟩;have g:=e1.trans e2;refine⟨ρ2,S2,a,b,R2,v1.ext e2,v2,iX (jb h2) g λk S3 h3 ρ3 H3 z e3 R3 t=>?_⟩;have d:=g.trans e3
 cases k with
 | bl k=>
  cases Dw t
  refine⟨k,rfl,?_⟩
  cases k with
  | true=>
   rw[aP rfl];exact⟨ρ3,S3,τ,R3,r.ext d,iX (jb h3) d λc C m j D w e4 B p=>⟨j,C,b,c,B,v2.ext<|e3.trans e4,p,iX m (d.trans e4) λ_ _ q=>q.ext<|d.trans e4⟩⟩
  | false=>
   rw[aM bL];exact h3 ρ3 H3 _ d R3<|.bl false
 | _=>exact h3.elim
def WM{f f':A->A->iW->R A}{ca cb cc:Ex}(ho:ni X (compareOp op)<|r2 X f)(ho':ni X (compareOp op')<|r2 X f')(ha:AE X a ca)(hb:AE X b cb)(hc:AE X c cc)(hm:lastMarks [op,op'] [b,c]=false<|>η) :
  AE X (.Compare a [op,op'] [b,c] pos) (VS f f' ca cb cc):=PE.imp (Nl ho ho' ha hb hc hm) λ_ _ _ h=>Tv h
abbrev XH (S:iW)(x:A):ae->bi
 | []=>some false
 | z::zs=>(uG S 12 z x).bind λp=>(XH S x zs).map λq=>p || q
abbrev Gu (neg:Bool)(x y:A)(S:iW):R A:=opt (y.seq S) λys=>opt (XH S x ys) λb=>.ok (.bl<|if neg then !b else b) S
def wZ{H:Hp}{x:A}{v:af}(I:Inv X pins σ H s)(R:Rel X.K ρ H S)(hu:X.A.units+64<cLine)(hx:AV X.K ρ H x vx)(rx:RelV vx v) :
  ∀{ys:ae} {us:List V} {its:ba} {b:Bool},AVs X.K ρ H ys us->Vals us its->XH S x ys=some b->∃e:af->Bool,(∀w∈its,SeqAt.EqAt X.A.in1 s w v<|e w)/\its.any e=b:=by
 intro ys
 induction ys with
 | nil=>
  intro us its b h1 h2 h
  cases h1
  cases h2
  exact⟨λ_=>false,(λw hw=>by cases hw),aZ h⟩
 | cons z zs j=>
  intro us its b h1 h2 h
  cases h1 with
  | cons B k=>
   rename_i u us
   cases h2 with
   | cons r D=>
    rename_i f its
    classical
    obtain⟨p,C,h⟩:=b8.mp h;obtain⟨q,hq,h⟩:=aW.mp h;obtain⟨e,g,ha⟩:=j k D hq;have h0:=(G1 I R 12 X.A.in1 z x u vx f v p (by rw[in1_units];omega) B hx r rx C).2.1;subst h
    cases p with
    | true=>
     refine⟨λw=>if w=f then true else e w,λw hw=>?_,?_⟩
     ·by_cases d:w=f
      ·dsimp[d,eB];exact h0
      ·dsimp[d,cN]
       rcases bF.mp hw with z|z
       ·exact absurd z d
       ·exact g w z
     ·simp
    | false=>
     by_cases m:f∈its
     ·refine⟨e,λw hw=>?_,?_⟩
      ·rcases bF.mp hw with z|z
       ·rw[z];exact g f m
       ·exact g w z
      ·rw[eS,ha,fH]
       cases q with
       | true=>simp
       | false=>
        have:=List.any_eq_false.mp ha f m;simpa using this
     ·refine⟨λw=>if w=f then false else e w,λw hw=>?_,?_⟩
      ·by_cases d:w=f
       ·dsimp[d,eB];exact h0
       ·dsimp[d,cN]
        rcases bF.mp hw with z|z
        ·exact absurd z d
        ·exact g w z
      ·rw[eS,<- ha];dsimp[eB,fH];have:∀l:ba,(∀w∈l,w≠f)->l.any (λw=>if w=f then false else e w)=l.any e:=λl t=>by
        induction l with
        | nil=>rfl
        | cons c l j=>rw[eS,eS,j λw hw=>t w<|aS _ hw,aM<|t c<|aO ..]
       exact this its λw hw z=>m<|z ▸ hw
def Ua(hu:X.A.units+64<cLine):ni X (compareOp .In) (r2 X<|Gu false):=λpins s σ H x y v u Q I rx ry h9=>by
 z_go;obtain⟨ys,hy,h⟩:=iY h;obtain⟨k,j,h⟩:=iY h;obtain⟨p,us,rfl,hs,r⟩:=Mr R vb hy
 cases ry
 rcases hs with hs|hs
 ·obtain⟨d,g,pl,m⟩:=I.list hs;obtain⟨e,f,ha⟩:=wZ I R hu va rx r g j;refine SeqAt.in_listAt e pl.isList (λw hw=>f w<|by simpa using hw) ⟨.bl _,H,I,rfl,?_⟩;rw[show d.toArray.any e=d.any e by simp,ha];exact h _ _ _ .refl R (.bl _)
 ·obtain⟨d,g,pl,m⟩:=I.tuple hs;obtain⟨e,f,ha⟩:=wZ I R hu va rx r g j;refine SeqAt.in_tupleAt e pl (λw hw=>f w<|by simpa using hw) ⟨.bl _,H,I,rfl,?_⟩;rw[show d.toArray.any e=d.any e by simp,ha];exact h _ _ _ .refl R<|.bl _
def GC(hu:X.A.units+64<cLine):ni X (compareOp .NotIn) (r2 X<|Gu true):=λpins s σ H x y v u Q I rx ry h9=>by
 z_go;obtain⟨ys,hy,h⟩:=iY h;obtain⟨k,j,h⟩:=iY h;obtain⟨p,us,rfl,hs,r⟩:=Mr R vb hy
 cases ry
 rcases hs with hs|hs
 ·obtain⟨d,g,pl,m⟩:=I.list hs;obtain⟨e,f,ha⟩:=wZ I R hu va rx r g j;refine SeqAt.notIn_listAt e pl.isList (λw hw=>f w<|by simpa using hw) ⟨.bl _,H,I,rfl,?_⟩;rw[show d.toArray.any e=d.any e by simp,ha];exact h _ _ _ .refl R (.bl _)
 ·obtain⟨d,g,pl,m⟩:=I.tuple hs;obtain⟨e,f,ha⟩:=wZ I R hu va rx r g j;refine SeqAt.notIn_tupleAt e pl (λw hw=>f w<|by simpa using hw) ⟨.bl _,H,I,rfl,?_⟩;rw[show d.toArray.any e=d.any e by simp,ha];exact h _ _ _ .refl R<|.bl _
abbrev UD (a b:A)(S:iW):R A:=match a,b with
 | .int i,.int j=>gd (vA i j) (.ok (.int<|i * j) S)
 | _,_=>.no
def O2:Zu X .Mult (ip X UD):=λpins s σ H x y v u Q I r1 r2 h9=>by
 z_go
 cases va with
 | int i=>
  cases vb with
  | int j=>
   obtain⟨d,h⟩:=jq h;obtain⟨t,rfl⟩:=(show ∃t,v=Value.int i t from r1);obtain⟨f,rfl⟩:=(show ∃t,u=Value.int j t from r2);exact imul_int ⟨.int _,H,I.tok _,⟨_,rfl⟩,h _ _ _ .refl R<|.int _⟩ (mulOk_of d).ok
  | _=>exact h.elim
 | _=>exact h.elim
end
section
variable {X:Cx}
abbrev Ik (x:A)(S:iW):R A:=match x with
 | .ref n=>opt (iU S n) λxs=>opt (A.ints xs) λd=>.ok (.int d.sum) S
 | _=>.no
def W7(hc:X.calm=true):jA X (.builtin "sum") (rN X<|f1 Ik):=jA.imp (Jd hc) λg H Q h0=>by
 kt_k;clear h0
 cases hv with
 | @ref p n f=>
  kcj_m;obtain⟨d,hb,h⟩:=iY h;obtain⟨g,h1,r⟩:=R.lst f<|ji hn;rw[oZ r hb]at h1;exact⟨p,d,rfl,p7.of h1,h _ _ _ .refl R<|.int _⟩
 | _=>exact h.elim
end
abbrev jj (S:iW)(n:Nat):Option (List<|ag×A):=match S[n]? with
 | some (.dct xs)=>some xs
 | _=>none
def j_{n:Nat}(h:jj S n=some xs):S[n]?=some (.dct xs):=by
 unfold jj at h;split at h
 ·rename_i e;cases h;exact e
 ·cases h
def pN{S:iW}{n:Nat}(h:S[n]?=some (.dct xs)):jj S n=some xs:=by
 unfold jj;rw[h]
abbrev jK (kvs:List<|ag×A)(k:ag):Option A:=(kvs.find? λkv=>decide<|kv.1=k).map (·.2)
abbrev putD (kvs:List<|ag×A)(k:ag)(v:A):List (ag×A):=
 if (jK kvs k).isSome=true then kvs.map (λkv=>if kv.1=k then(kv.1,v)else kv)else kvs++[(k,v)]
theorem Bu:∀{a b:ag},a.map (Sum.inl:Int->Key)=b.map Sum.inl->a=b
 | [],[],_=>rfl
 | [],_::_,e=>by simp at e
 | _::_,[],e=>by simp at e
 | x::xs,y::ys,e=>by
  rw[bE,bE]at e
  injection e with e1 e2
  injection e1 with e1
  rw[e1,Bu e2]
def uo(ns:ag):(ns.map (Sum.inl:Int->Key)).map kV=ns.map V.int:=by rw[bg];rfl
section
variable {K:au}{ρ:bb}{H:Hp}
def zT{p:ag×A}{r:List<|ag×A}{k:ag}(e:p.1=k):jK (p::r) k=some p.2:=by simp[jK,bT,e]
def zJ{p:ag×A}{r:List<|ag×A}{k:ag}(e:¬p.1=k):jK (p::r) k=jK r k:=by simp[jK,bT,e]
theorem DV.look:∀{kvs:List<|ag×A}{ks:List<|List Key×V}(k:ag),DV K ρ H kvs ks->(jK kvs k).isSome=(o_ ks<|k.map Sum.inl).isSome/\∀x,jK kvs k=some x->∃v,o_ ks (k.map Sum.inl)=some v/\AV K ρ H x v
 | [],[],k,_=>⟨rfl,λx h=>nomatch h⟩
 | p::r,q::r',k,⟨⟨e,a⟩,t⟩=>by
  by_cases c:p.1=k
  ·have d:q.1=k.map Sum.inl:=by rw[e,c]
   rw[zT c,tO d];exact⟨rfl,λx h=>by cases h;exact⟨_,rfl,a⟩⟩
  ·have d:¬q.1=k.map Sum.inl:=λz=>c<|Bu<|e.symm.trans z;rw[zJ c,sC d];exact DV.look k t
theorem DV.repl{x:A}{v:V}(h:AV K ρ H x v)(k:ag):∀{kvs:List<|ag×A}{ks:List<|List Key×V},DV K ρ H kvs ks->DV K ρ H (kvs.map λkv=>if kv.1=k then(kv.1,x)else kv) (ks.map λkv=>if kv.1=k.map Sum.inl then(kv.1,v)else kv)
 | [],[],_=>trivial
 | p::r,q::r',⟨⟨e,a⟩,t⟩=>by
  refine⟨?_,DV.repl h k t⟩;dsimp only;by_cases c:p.1=k
  ·rw[aP c,aP<|by rw[e,c]];exact⟨e,h⟩
  ·rw[aM c,aM λz=>c<|Bu<|e.symm.trans z];exact⟨e,a⟩
theorem DV.snoc{x:A}{v:V}(h:AV K ρ H x v)(k:ag):∀{kvs:List<|ag×A}{ks:List<|List Key×V},DV K ρ H kvs ks->DV K ρ H (kvs++[(k,x)]) (ks++[(k.map Sum.inl,v)])
 | [],[],_=>⟨⟨rfl,h⟩,trivial⟩
 | p::r,q::r',⟨a,t⟩=>⟨a,DV.snoc h k t⟩
def DV.put{x:A}{v:V}(h:AV K ρ H x v)(k:ag){ks:List<|List Key×V}(d:DV K ρ H kvs ks):DV K ρ H (putD kvs k x) (putK ks (k.map Sum.inl) v):=by
 unfold putD putK;rw[vB,<- (d.look k).1];by_cases c:(jK kvs k).isSome=true
 ·rw[aP c,aP c];exact DV.repl h k d
 ·rw[aM c,aM c];exact DV.snoc h k d
def DV.length:∀{kvs:List<|ag×A}{ks:List<|List Key×V},DV K ρ H kvs ks->kvs.length=ks.length
 | [],[],_=>rfl
 | _::_,_::_,⟨_,t⟩=>cW (·+1) t.length
def Rel.dct{n:Nat}{a:ak}(R:Rel K ρ H S)(ha:ρ[n]?=some a)(hS:S[n]?=some (.dct xs)):∃vs,H a=some (.dT vs)/\DV K ρ H xs vs:=R.at n a _ ha hS
def Rel.W6{S:iW}{p:ak}(R:Rel K ρ H S)(hp:H p=none)(r:DV K ρ H xs vs):Ext ρ (ρ++[p]) H (upd H p<|.dT vs)/\Rel K (ρ++[p]) (upd H p<|.dT vs) (S++[.dct xs])/\(ρ++[p])[S.length]?=some p:=by
 have ex:Ext ρ (ρ++[p]) H (upd H p<|.dT vs):=⟨⟨dh _ _,λa u _ h=>by rw[i_<|jo h hp];exact h⟩,λa u h _=>by rw[i_<|jo h hp];exact h,λa h=>by
  rcases bI.mp h with z|z
  ·exact .inl z
  ·have e:a=p:=by simpa using z
   rw[e];exact .inr hp⟩
 have j:p∉ρ:=R.Co hp;have d:(ρ++[p])[S.length]?=some p:=by rw[<- R.len];simp
 refine⟨ex,⟨by simp[R.len],?_,?_⟩,d⟩
 ·rw[cO];f_are;have:b=p:=by simpa using hb
  exact j<|by rw[<- this,<- e];exact ha
 ·intro n a o h1 h2;by_cases hn:n<S.length
  ·rw[br<|by rw[R.len];exact hn]at h1;rw[br hn]at h2;have na:a≠p:=λz=>j (by rw[<- z];exact bB h1);have:=R.at n a o h1 h2
   cases o with
   | lst ys=>obtain⟨f,e,q⟩:=this;exact⟨f,by rw[i_ na];exact e,q.ext ex⟩
   | dct _|oS _|dks _|rZ _=>obtain⟨f,e,q⟩:=this;exact⟨f,by rw[i_ na];exact e,q.ext ex⟩
   | dcf _=>obtain⟨g,f,e,q⟩:=this;exact⟨g,f,by rw[i_ na];exact e,q.ext ex⟩
   | ins _ _=>obtain⟨g,k,e⟩:=this;exact⟨g,k,by rw[i_ na];exact e⟩
  ·have e:n=S.length:=by
    have:=(aJ.mp h2).1;simp at this;omega
   subst e;rw[d]at h1
   cases h1
   simp at h2;subst h2;exact⟨vs,jF,r.ext ex⟩
def Rel.putD{S:iW}{n:Nat}{a:ak}(R:Rel K ρ H S)(ha:ρ[n]?=some a)(hS:S[n]?=some (.dct xs))(r:DV K ρ H ys ws):Ext ρ ρ H (upd H a<|.dT ws)/\Rel K ρ (upd H a<|.dT ws) (S.set n<|.dct ys):=by
 obtain⟨p,e,_⟩:=R.at n a _ ha hS;have ex:Ext ρ ρ H (upd H a<|.dT ws):=⟨⟨dg _,λb u i h=>by
  have:b≠a:=by
   intro z;subst z;rw[e]at h;cases h;exact i
  rw[i_ this];exact h⟩,λb u h n=>by
  rw[i_ λz=>n<|by rw[z];exact bB ha];exact h,λ_ h=>.inl h⟩
 refine⟨ex,by rw[bW];exact R.len,R.nd,λm b o h1 h2=>?_⟩;by_cases g:m=n
 ·subst g;rw[ha]at h1;cases h1;rw[bz (aJ.mp hS).1]at h2
  cases h2
  exact⟨ws,jF,r.ext ex⟩
 ·rw[bK<|cT g]at h2;have nb:b≠a:=λz=>by
   subst z;obtain⟨B,e1⟩:=aJ.mp ha;obtain⟨t,e2⟩:=aJ.mp h1;exact g<|(cH R.nd).mp<|e2.trans e1.symm
  have:=R.at m b o h1 h2
  cases o with
  | lst ys=>obtain⟨d,f,q⟩:=this;exact⟨d,by rw[i_ nb];exact f,q.ext ex⟩
  | dct _|oS _|dks _|rZ _=>obtain⟨d,f,q⟩:=this;exact⟨d,by rw[i_ nb];exact f,q.ext ex⟩
  | dcf _=>obtain⟨j,d,f,q⟩:=this;exact⟨j,d,by rw[i_ nb];exact f,q.ext ex⟩
  | ins _ _=>obtain⟨j,k,f⟩:=this;exact⟨j,k,by rw[i_ nb];exact f⟩
end
section
variable {X:Cx}{pos:Pos}{a b:aE}
def BB{H:Hp}{p q:ak}{n:Nat}{ns:ag}(R:Rel X.K ρ H S)(hp:ρ[n]?=some p)(hn:jj S n=some kvs)(hq:H q=some (.tup vs))(r:AVs X.K ρ H xs vs)(hi:A.ints xs=some ns) :
  ∃ks,H p=some (.dT ks)/\DV X.K ρ H kvs ks/\H q=some (.tup<|(ns.map (Sum.inl:Int->Key)).map kV)/\rY H p (.ref q) (o_ ks<|ns.map Sum.inl):=by
 obtain⟨ks,e,d⟩:=R.dct hp<|j_ hn;have z:=oZ r hi;subst z;rw[<- uo]at hq;exact⟨ks,e,d,hq,rY.t e hq⟩
abbrev qU (x y:A)(S:iW):R A:=match x,y with
 | .ref n,.tup xs=>opt (jj S n) λkvs=>opt (A.ints xs) λd=>opt (jK kvs d) λv=>.ok v S
 | _,_=>.no
def WU(hu:X.A.units+64<cLine):OX X (r2 X qU):=λj f pins s σ H x y v u Q I rx ry ⟨ρ,S,a,b,R,va,vb,h⟩ hs=>by
 cases va with
 | @ref p n B=>
  cases vb with
  | @tup q xs F hq r=>
   mg_lt;obtain⟨k,C,h⟩:=iY h;obtain⟨z,t,h⟩:=iY h;obtain⟨ks,e,d,m,g⟩:=BB R B hn hq r C;obtain⟨w,hw,D⟩:=(d.look k).2 z t;rw[hw]at g;exact BU (by omega) j f pins s σ H _ _ v u Q I rx ry ⟨p,w,rfl,g,h _ _ _ .refl R D⟩ hs
  | _=>exact h.elim
 | _=>exact h.elim
def yL(hu:X.A.units+64<cLine){ca cb:Ex}(ha:AE X a ca)(hb:AE X b cb)(hs:vI b<|>θ):AE X (.Subscript a b pos) (jc qU ca cb):=PE.imp (F0 (WU hu) ha hb hs) λσ H Q h=>rS h
abbrev IQ (neg:Bool)(x y:A)(S:iW):R A:=match x,y with
 | .tup xs,.ref n=>opt (jj S n) λkvs=>opt (A.ints xs) λd=>.ok (.bl<|if neg then !(jK kvs d).isSome else(jK kvs d).isSome) S
 | _,_=>.no
def CT(hu:X.A.units+64<cLine):ni X (compareOp .NotIn) (r2 X<|IQ true):=λpins s σ H x y v u Q I rx ry h9=>by
 z_go
 cases va with
 | @tup q xs t hq r=>
  cases vb with
  | @ref p n m=>
   mg_lt;obtain⟨f,k,h⟩:=iY h;obtain⟨ks,e,d,j,g⟩:=BB R m hn hq r k;exact IC (by omega) pins s σ H _ _ v u Q I rx ry ⟨p,_,rfl,g,by rw[<- (d.look f).1];exact h _ _ _ .refl R<|.bl _⟩
  | _=>exact h.elim
 | _=>exact h.elim
abbrev oV (o i v:A)(S:iW):R Unit:=match o,i with
 | .ref n,.tup xs=>opt (jj S n) λkvs=>opt (A.ints xs) λd=>gd (kvs.length<sizeLine) (.ok Unit.unit<|S.set n<|.dct<|putD kvs d v)
 | _,_=>.no
abbrev Zn (X:Cx):EO:=λo i v H Q=>∃ρ S ao f d,Rel X.K ρ H S/\AV X.K ρ H ao o/\AV X.K ρ H f i/\AV X.K ρ H d v/\(oV ao f d S).post (λ_ g=>∀ρ' H',Ext ρ ρ' H H'->Rel X.K ρ' H' g->Q H') (XE X ρ H)
def Od(hu:X.A.units+64<cLine):CI X (Zn X):=λpins s σ H o i v G iv u Q I B C D h9=>by
 obtain⟨ρ,S,ao,M,K,R,h1,h2,h3,h⟩:=h9
 cases h1 with
 | @ref p n j=>
  cases h2 with
  | @tup q xs L hq r=>
   mg_lt;obtain⟨k,J,h⟩:=iY h;obtain⟨F,h⟩:=jq h;obtain⟨ks,e,d,f,g⟩:=BB R j hn hq r J;obtain⟨ex,m⟩:=R.putD j (j_ hn)<|d.put h3 k;exact set_dict () pins s σ H _ _ v G iv u Q I B C D ⟨p,_,rfl,wR.t e f<|by rw[<- d.length];exact F,h _ _ ex m⟩
  | _=>exact h.elim
 | _=>exact h.elim
abbrev HK (co ci:Ex):Tg:=λa τ S=>(co τ S).bind λo S1=>(ci τ S1).bind λi S2=>(oV o i a S2).bind λ_ S3=>.ok τ S3
def xD(hu:X.A.units+64<cLine){co ci:Ex}(ho:AE X o co)(hi:AE X i ci)
  (ha:(∀v,assign (.Subscript o i pos) X.env v=(do
   let ov <- holding [v] (eval o X.env)
   let iv <- holding [v,ov] (eval i X.env)
   standAt pos
   holding [v,ov,iv] (setItem ov iv v)
   release [v,ov,iv] []))<|>ζ):AG X (.Subscript o i pos) (HK co ci):=PG.imp (z9 ho hi (Od hu) ha) λv σ H Q h9=>by
 obtain⟨ρ,S,τ,a,R,r,va,h⟩:=h9;w_up;gn_on;ksr_p
abbrev zD:Ex:=λ_ S=>.ok (.ref S.length)<|S++[.dct []]
def xA:AE X (.Dict [] [] pos) zD:=PE.imp Nr λσ H Q ⟨ρ,S,τ,R,r,h⟩ p f=>by
 obtain⟨ex,g,d⟩:=R.W6 (xs:=[]) (vs:=[]) f trivial;exact h _ _ _ ex g<|.ref d
abbrev FJ (ck cv:Ex):Ex:=λτ S=>(ck τ S).bind λk S1=>(cv τ S1).bind λv S2=>match k with
 | .tup xs=>opt (A.ints xs) λd=>.ok (.ref S2.length) (S2++[.dct [(d,v)]])
 | _=>.no
def Rel.Xu{K:au}{H:Hp}{S:iW}{D:ak}(R:Rel K ρ H S)(hD:H D=some (.dT us))(hn:D∉ρ)(r:DV K ρ H xs vs):Ext0 ρ (ρ++[D]) H (upd H D<|.dT vs)/\Rel K (ρ++[D]) (upd H D<|.dT vs) (S++[.dct xs])/\(ρ++[D])[S.length]?=some D:=by
 have ex:Ext0 ρ (ρ++[D]) H (upd H D<|.dT vs):=⟨dh _ _,λb u i h=>by
  have:b≠D:=by
   intro z;subst z;rw[hD]at h;cases h;exact i
  rw[i_ this];exact h⟩
 have d:(ρ++[D])[S.length]?=some D:=by rw[<- R.len];simp
 refine⟨ex,⟨by simp[R.len],?_,λn a o h1 h2=>?_⟩,d⟩
 ·rw[cO];f_are;have:b=D:=by simpa using hb
  exact hn<|by rw[<- this,<- e];exact ha
 ·by_cases hs:n<S.length
  ·rw[br<|by rw[R.len];exact hs]at h1;rw[br hs]at h2;have na:a≠D:=λz=>hn (by rw[<- z];exact bB h1);have:=R.at n a o h1 h2
   cases o with
   | lst ys=>obtain⟨f,e,q⟩:=this;exact⟨f,by rw[i_ na];exact e,AVs.ko ex q⟩
   | dct _|oS _|dks _|rZ _=>obtain⟨f,e,q⟩:=this;exact⟨f,by rw[i_ na];exact e,q.ko ex⟩
   | dcf _=>obtain⟨g,f,e,q⟩:=this;exact⟨g,f,by rw[i_ na];exact e,q.ko ex⟩
   | ins _ _=>obtain⟨g,j,e⟩:=this;exact⟨g,j,by rw[i_ na];exact e⟩
  ·have e:n=S.length:=by
    have:=(aJ.mp h2).1;simp at this
    lia
   subst e;rw[d]at h1
   cases h1
   simp at h2;subst h2;exact⟨vs,jF,r.ko ex⟩
def O5(hu:X.A.units+64<cLine){k v:aE}{ck cv:Ex}(hk:AE X k ck)(hv:AE X v cv):AE X (.Dict [some k] [v] pos) (FJ ck cv):=PE.imp (Le () hk hv) λσ H Q ⟨ρ,S,τ,R,r,h⟩ p g=>by
 obtain⟨e0,J⟩:=R.im (u:=.dT []) g;have t:p∉ρ:=R.Co g;refine⟨ρ,S,τ,J,r.ext e0,iX (jb h) e0 λa S1 h1 ρ1 H1 x e1 R1 v1=>⟨ρ1,S1,τ,R1,(r.ext e0).ext e1,iX (jb h1) (e0.trans e1) λb S2 h2 ρ2 H2 y e2 R2 v2=>?_⟩⟩;have d:=e1.trans e2;have f:H2 p=some (.dT []):=d.fr p _ jF t;have m:p∉ρ2:=λB=>(d.nw p B).elim t λz=>by rw[jF]at z;cases z
 cases v1.ext e2 with
 | @tup q xs vs hq C=>
  obtain⟨j,G,h2⟩:=iY h2;have z:=oZ C G;subst z;refine⟨f,q,j.map Sum.inl,rfl,by rw[uo];exact hq,?_⟩;obtain⟨e3,R3,F⟩:=R2.Xu (xs:=[(j,b)]) (vs:=[(j.map Sum.inl,y)]) f m ⟨⟨rfl,v2⟩,trivial⟩;refine h2 _ _ _ ⟨⟨(e0.trans d).pre.trans e3.pre,λc u i hc=>e3.im c u i<|(e0.trans d).im c u i hc⟩,λc u hc D=>?_,λc hc=>?_⟩ R3 (.ref F)
  ·rw[i_<|jo hc g];exact(e0.trans d).fr c u hc D
  ·rcases bI.mp hc with z|z
   ·exact(e0.trans d).nw c z
   ·have:c=p:=by simpa using z
    rw[this];exact .inr g
 | _=>exact h2.elim
abbrev dct? (a:A)(S:iW):Option Unit:=match a with
 | .ref n=>(jj S n).map λ_=>Unit.unit
 | _=>none
abbrev TL (f:A->ae->iW->R A)(co:Ex)(d:p6):Ex:=λτ S=>(co τ S).bind λx S1=>opt (dct? x S1) λ_=>(d τ S1).bind λas S2=>f x as S2
def dct?_ty{K:au}{H:Hp}{x:A}{v:V}(R:Rel K ρ H S)(a:AV K ρ H x v)(e:dct? x S=some u):VT K "dict" v H:=by
 cases a with
 | @ref p n h=>
  obtain⟨xs,f,_⟩:=aW.mp e;obtain⟨d,h1,_⟩:=R.dct h<|j_ f;exact .inr<|.inr<|.inl ⟨rfl,.inr ⟨d,h1⟩⟩
 | _=>cases e
def RZ{e:aE}{id:String}{apos cpos:Pos}{f:A->ae->iW->R A}{co:Ex}{d:p6}(slot:Slot "dict" name id)(hty:typeOf (.builtin id)=pure (.type "method_descriptor"))(hm:EF X id<|rM X f)(ho:AE X o co)(ha:AL X (e::es) d)
  (hbase:attributeBase o name X.env (eval o X.env)=eval o X.env<|>ε)
  (hfew:(((backTo cpos<|starEach (e::es) X.env).all (λx=>!x.1) && (backToKw cpos<|keywordEach [] X.env).all (λx=>x.1.isSome)
   && decide ((e::es).length+([]:List Keyword).length+(if ([]:List Keyword).isEmpty then 0 else 1)<30))=true)<|>ε)
  (hline:(apos.endLine == cpos.line)=true<|>ε) (hs:starEach (e::es) X.env=(false,eval e X.env)::starEach es X.env<|>ε) (hplain:((backTo cpos<|starEach es X.env).any (·.1)=false)<|>ε) :
  AE X (.Call (.Attribute o name apos) (e::es) [] cpos) (TL f co d):=PE.imp (JD fZ slot hty hm ho ha hbase hfew hline hs hplain) λσ H Q h9=>by
 x_go;kcf_m;obtain⟨xs,g,h1⟩:=iY h1;refine⟨dct?_ty R1 v1 g,ρ1,S1,τ,R1,r.ext e1,iX (jb h1) e1 λas S2 h2 ρ2 H2 j e2 R2 v2=>?_⟩;kpc_g
abbrev VD (o:A)(as:ae)(S:iW):R A:=match o,as with
 | .ref n,[.tup xs,y]=>opt (jj S n) λkvs=>opt (A.ints xs) λk=>.ok ((jK kvs k).getD y) S
 | _,_=>.no
def WN(hu:X.A.units+64<cLine):EF X "dict.get" (rM X VD):=λpins s σ H x K v us Q I rx D h9=>by
 obtain⟨ρ,S,o,as,R,C,va,h⟩:=h9
 cases C with
 | @ref p n k=>
  match as,va,h with
  | [],_,h=>exact h.elim
  | [z],_,h=>exact(by cases z<;>exact h.elim)
  | z::_::_::_,_,h=>exact(by cases z<;>exact h.elim)
  | [z,y],va,h=>
   obtain⟨M,G,rfl,j,hy⟩:=LB va
   cases j with
   | @tup q xs L hq m=>
    mg_lt;obtain⟨d,J,h⟩:=iY h;have z:=oZ m J;subst z;obtain⟨ks,h1,t⟩:=R.dct k<|j_ hn;refine Qh (by omega) pins s σ H _ _ v us Q I rx D ⟨p,q,d.map Sum.inl,ks,G,rfl,rfl,h1,by rw[uo];exact hq,h _ _ _ .refl R ?_⟩;obtain⟨f,F⟩:=t.look d
    cases e1:jK kvs d with
    | none=>
     rw[e1]at f
     cases e2:o_ ks (d.map Sum.inl)with
     | none=>exact hy
     | some _=>rw[e2]at f;cases f
    | some g=>
     obtain⟨v1,e2,B⟩:=F g e1;rw[e2];exact B
   | _=>exact h.elim
 | _=>exact h.elim
end
section
variable {a b:aE}
theorem Rt{K:au}{H:Hp}:∀{kvs:List<|ag×A}{ks:List<|List Key×V}{i:Nat}{p:ag×A},DV K ρ H kvs ks->kvs[i]?=some p->∃q,ks[i]?=some q/\q.1=p.1.map Sum.inl/\AV K ρ H p.2 q.2
 | [],[],_,_,_,h=>by simp at h
 | a::kvs,b::ks,0,p,⟨z,_⟩,h=>by
  have:a=p:=by simpa using h
  subst this;exact⟨b,rfl,z⟩
 | a::kvs,b::ks,i+1,p,⟨_,t⟩,h=>Rt (kvs:=kvs) (ks:=ks) (i:=i) t<|by simpa using h
def Rel.gone{K:au}{H:Hp}{S:iW}{n:Nat}{a:ak}(R:Rel K ρ H S)(ha:ρ[n]?=some a)(hS:S[n]?=some (.dct xs)):Ext ρ ρ H (upd H a<|.frz o u)/\Rel K ρ (upd H a<|.frz o u) (S.set n<|.ins "" []):=by
 obtain⟨t,e,_⟩:=R.at n a _ ha hS;have ex:Ext ρ ρ H (upd H a<|.frz o u):=⟨⟨dg _,λb p i h=>by
  have:b≠a:=by
   intro z;subst z;rw[e]at h;cases h;exact i
  rw[i_ this];exact h⟩,λb p h nb=>by
  rw[i_ λz=>nb<|by rw[z];exact bB ha];exact h,λ_ h=>.inl h⟩
 refine⟨ex,by rw[bW];exact R.len,R.nd,λm b ob h1 h2=>?_⟩;by_cases g:m=n
 ·subst g;rw[ha]at h1;cases h1;rw[bz (aJ.mp hS).1]at h2
  cases h2
  exact⟨o,u,jF⟩
 ·rw[bK<|cT g]at h2;have nb:b≠a:=λz=>by
   subst z;obtain⟨C,e1⟩:=aJ.mp ha;obtain⟨B,e2⟩:=aJ.mp h1;exact g<|(cH R.nd).mp<|e2.trans e1.symm
  have:=R.at m b ob h1 h2
  cases ob with
  | lst ys=>obtain⟨d,f,q⟩:=this;exact⟨d,by rw[i_ nb];exact f,q.ext ex⟩
  | dct _|oS _|dks _|rZ _=>obtain⟨d,f,q⟩:=this;exact⟨d,by rw[i_ nb];exact f,q.ext ex⟩
  | dcf _=>obtain⟨j,d,f,q⟩:=this;exact⟨j,d,by rw[i_ nb];exact f,q.ext ex⟩
  | ins _ _=>obtain⟨j,k,f⟩:=this;exact⟨j,k,by rw[i_ nb];exact f⟩
end
abbrev Y9 (F:ae->iW->R A)(d:p6):Ex:=λτ S=>(d τ S).bind λas S1=>F as S1
abbrev Z2:ba:=[.type "ValueError",.type "Exception",.type "BaseException",.type "object"]
abbrev Pr:List (Str ⊕ Ex)->ae->iW->R Unit
 | [],_,S=>.ok Unit.unit S
 | .inl _::ps,τ,S=>Pr ps τ S
 | .inr e::ps,τ,S=>(e τ S).bind λv S1=>match v with
  | .int i=>gd (i.natAbs.log2<64) (Pr ps τ S1)
  | _=>.no
abbrev UQ (c:Str)(ps:List<|Str ⊕ Ex):Sm:=λτ S=>.of (Pr ps τ S) λ_ S1=>.ex c S1
abbrev QE (i:Nat):RS->RS
 | .nx τ S=>.nx (τ.set i .unb) S
 | .bk τ S=>.bk (τ.set i .unb) S
 | .ct τ S=>.ct (τ.set i .unb) S
 | .rt a S=>.rt a S
 | _=>.no
abbrev WH (i n:Nat)(cs:ar)(c d:Sm):Sm:=λτ S=>match c τ S with
 | .ex x S1=>if x∈cs then QE i (d ((List.replicate n .unb).set i<|.exn x) S1)else .no
 | r=>r
abbrev Zw (f:Str->bi)(c:Ex):Ex:=λτ S=>(c τ S).bind λv S1=>match v with
 | .exn x=>opt (f x) λb=>.ok (.bl b) S1
 | _=>.no
structure ExcK (K:au)(U:ak)(c:Str)(C:ak):Prop where
 n:YU K c C
 q:PySem.W.excIn K C Z2 "ValueError.__new__" = true
 r:L2.mroIn K C=some (.ref U::Z2)
 x:XCls K C
 cl:(PySem.W.clsIn K C).isSome=true
 v:PySem.W.kitOne K (.ref C) (.type "ValueError")=some true
abbrev tbX (tb:List<|Str×Bool):Str->bi:=λx=>tb.lookup x
abbrev WZ (F:ae->iW->R A)(d:p6):Ex:=λτ S=>match d τ S with
 | .ok as S1=>F as S1
 | _=>.no
section
variable {d:p6}
abbrev Wb (t:Te)(c d:Sm):Sm:=λτ S=>match t τ S with
 | .ok true S1=>c τ S1
 | .ok false S1=>d τ S1
 | _=>.no
end
abbrev Qy (i:Nat)(cs:ar)(c d:Sm):Sm:=λτ S=>match c τ S with
 | .ex x S1=>if x∈cs then QE i (d (τ.set i<|.exn x) S1)else .no
 | r=>r
abbrev W_:Sm:=λ_ _=>.no
def G4{X:Cx}{st:aF}:AS X st W_:=PS.imp LO λD σ H ⟨ρ,S,τ,R,r,h⟩=>h.elim
def IY{K:au}{H:Hp}{a:ak}{ns:ag}{F:ae->iW->R A}(hO:PX H)(hS:p7 K H a<|ns.map V.int)(h:∃S',F [.frz<|ns.map .int] []=.ok (.bl true) S'):p8 K 1 F [.ref a] H (λv _=>v=.bl true) λ_ _ _=>False:=by
 obtain⟨S',h⟩:=h;have fz:Fz K H a (ns.map V.int):=by
  rcases hS with(h|⟨o,h⟩)|h
  ·rcases hO a with z|⟨ob,xs,z⟩
   ·rw[h]at z;cases z
   ·rw[h]at z;cases z
  ·exact .inl ⟨o,h⟩
  ·exact .inr h
 exact⟨rfl,[],[],_,_,S',⟨rfl,cP,λn a o h=>by simp at h⟩,.cons (.frz fz<|pO ns) .nil,h,λρ' H' v _ _ hv=>Dw hv⟩
section
variable {P:aj}{w:ah}{K:au}{mg:Str->bd}{base:aq}{f:ak}{fd:FuncData}{ps:ar}{k n:Nat}
def Si(h:n=ps.length):FnOk P w K mg base o9 k f fd ps (p8 K n λ_ _=>.no):=
 ⟨λ_ _ _ _ z=>z.1.trans h,λ_ _ _ _ _ _ _ _ _ _ _ _ _ z=>by obtain⟨_,_,_,_,_,_,_,_,e,_⟩:=z;cases e⟩
end
def Fc{P:ba->Prop}(h:∀a0,P [a0]):∀us:ba,us.length=1->P us
 | [_],_=>h _
def BZ{P:ba->Prop}(h:∀a0 a1,P [a0,a1]):∀us:ba,us.length=2->P us
 | [_,_],_=>h _ _
def Eo{n:Nat}{us:ba}(h:us.length=n+1):∃a t,us=a::t/\t.length=n:=by
 cases us with
 | nil=>simp at h
 | cons a t=>exact⟨a,t,rfl,by simpa using h⟩
def Y_{P:ba->Prop}(h:∀a0 a1 a2,P [a0,a1,a2]):∀us:ba,us.length=3->P us:=λus e=>by
 obtain⟨a0,t0,rfl,e0⟩:=Eo e;obtain⟨a1,d,rfl,e1⟩:=Eo e0;obtain⟨a2,f,rfl,e2⟩:=Eo e1
 cases f6.mp e2
 exact h _ _ _
def us4{P:ba->Prop}(h:∀a0 a1 a2 a3,P [a0,a1,a2,a3]):∀us:ba,us.length=4->P us:=λus e=>by
 obtain⟨a0,t0,rfl,e0⟩:=Eo e;obtain⟨a1,d,rfl,e1⟩:=Eo e0;obtain⟨a2,f,rfl,e2⟩:=Eo e1;obtain⟨a3,g,rfl,e3⟩:=Eo e2
 cases f6.mp e3
 exact h _ _ _ _
end Am
namespace Am
open PySem L2
section
variable {α β:Type}{a b:A}{S S1:iW}{τ:ae}{x:α}
@[simp]def R.ly {f:α->iW->R β}:(R.ok x S).bind f=f x S:=rfl
@[simp]def R.FL {f:α->iW->R β}{c:Str}:(R.ex c S:R α).bind f=.ex c S:=rfl
@[simp]def R.jG {f:α->iW->R β}:(R.ok x S).mG f=f x S:=rfl
@[simp]def RS.of_ok {f:α->iW->RS}:RS.of (R.ok x S) f=f x S:=rfl
@[simp]def RS.QI {f:α->iW->RS}{c:Str}:RS.of (R.ex c S:R α) f=.ex c S:=rfl
@[simp]def jh {f:β->R α}{y:β}:opt (some y) f=f y:=rfl
@[simp]def GP {r:R α}:gd True r=r:=aP trivial
theorem oR{c:Prop}[Decidable c]{r:R α}(h:c):gd c r=r:=aP h
@[simp]def pC {i:Nat}:iR i τ S=bif (τ.getD i .unb).nk then .no else .ok (τ.getD i .unb) S:=by unfold iR;cases(τ.getD i .unb).nk<;>rfl
@[simp]def F8 {xs:ae}:A.nk (.tup xs)=false:=rfl
@[simp]def Hi {xs:ae}:A.nk (.frz xs)=false:=rfl
@[simp]def F4 {i:Int}:A.nk (.int i)=false:=rfl
@[simp]def Ly {i:Bool}:A.nk (.bl i)=false:=rfl
@[simp]def FI {i:Str}:A.nk (.str i)=false:=rfl
@[simp]def Gs {i:Nat}:A.nk (.ref i)=false:=rfl
@[simp]def GR:A.nk .non=false:=rfl
@[simp]def Fv {i j:Int}:A.nk (.rng i j)=false:=rfl
@[simp]def GI {c:Str}:A.nk (.exn c)=false:=rfl
@[simp]def Rx:eC a τ S=.ok a S:=rfl
abbrev WT (f:A->A->iW->R A)(cb:Ex)(τ:ae)(a:A)(S:iW):R A:=(cb τ S).bind<|f a
@[simp]def Gh {f:A->A->iW->R A}{cb:Ex}:WT f cb τ a S=(cb τ S).bind (f a):=rfl
@[simp]def Hf {f:A->A->iW->R A}{ca cb:Ex}:jc f ca cb τ S=(ca τ S).bind (WT f cb τ):=rfl
@[simp]def Nf {f:A->iW->R A}{ca:Ex}:XG f ca τ S=(ca τ S).bind f:=rfl
@[simp]def Gv {c:Ex}:qH c τ S=(c τ S).bind λa S1=>opt (a.QB S1) λb=>.ok b S1:=rfl
abbrev aB (a:A)(S:iW):R Bool:=match a with
 | .bl b=>.ok b S
 | _=>.no
@[simp]def Rw {b:Bool}:aB (.bl b) S=.ok b S:=rfl
@[simp]def Jm {c:Ex}:qP c τ S=(c τ S).bind aB:=rfl
@[simp]def FT {c:Te}:Nn c τ S=(c τ S).bind λb S1=>.ok (!b) S1:=rfl
abbrev Va (d:Te)(τ:ae)(b:Bool)(S:iW):R Bool:=match b with|true=>d τ S|false=>.ok false S
abbrev Zf (d:Te)(τ:ae)(b:Bool)(S:iW):R Bool:=match b with|true=>.ok true S|false=>d τ S
@[simp]def Ml {d:Te}:Va d τ true S=d τ S:=rfl
@[simp]def NB {d:Te}:Va d τ false S=.ok false S:=rfl
@[simp]def Rp {d:Te}:Zf d τ true S=.ok true S:=rfl
@[simp]def Q8 {d:Te}:Zf d τ false S=d τ S:=rfl
@[simp]def Gy {c d:Te}:wV c d τ S=(c τ S).bind (Va d τ):=rfl
@[simp]def JT {c d:Te}:SY c d τ S=(c τ S).bind (Zf d τ):=rfl
@[simp]def FW:kL τ S=.ok true S:=rfl
abbrev MZ (d:Ex)(τ:ae)(a:A)(S:iW):R A:=match a with | .bl true=>d τ S | .bl false=>.ok (.bl false) S|_=>.no
abbrev UU (d:Ex)(τ:ae)(a:A)(S:iW):R A:=match a with | .bl true=>.ok (.bl true) S | .bl false=>d τ S|_=>.no
@[simp]def G6 {d:Ex}:MZ d τ (.bl true) S=d τ S:=rfl
@[simp]def GU {d:Ex}:MZ d τ (.bl false) S=.ok (.bl false) S:=rfl
@[simp]def Ji {d:Ex}:UU d τ (.bl true) S=.ok (.bl true) S:=rfl
@[simp]def LH {d:Ex}:UU d τ (.bl false) S=d τ S:=rfl
@[simp]def GG {c d:Ex}:JO c d τ S=(c τ S).bind (MZ d τ):=by
 unfold JO
 cases c τ S with
 | ok a S1=>cases a<;>first|rfl|(rename_i b;cases b<;>rfl)
 | _=>rfl
@[simp]def Mu {c d:Ex}:ZJ c d τ S=(c τ S).bind (UU d τ):=by
 unfold ZJ
 cases c τ S with
 | ok a S1=>cases a<;>first|rfl|(rename_i b;cases b<;>rfl)
 | _=>rfl
abbrev QJ (a:A)(S:iW):R A:=match a with | .bl b=>.ok (.bl !b) S|_=>.no
@[simp]def Du {b:Bool}:QJ (.bl b) S=.ok (.bl !b) S:=rfl
@[simp]def Gk {c:Ex}:U0 c τ S=(c τ S).bind QJ:=rfl
abbrev SI (c d:Ex)(τ:ae)(b:Bool)(S:iW):R A:=match b with|true=>c τ S|false=>d τ S
@[simp]def Kx {c d:Ex}:SI c d τ true S=c τ S:=rfl
@[simp]def Mn {c d:Ex}:SI c d τ false S=d τ S:=rfl
@[simp]def Mz {t:Te}{c d:Ex}:YM t c d τ S=(t τ S).bind (SI c d τ):=rfl
@[simp]def Fg:ja τ S=.ok [] S:=rfl
abbrev Eg (a:A)(as:ae)(S:iW):R (ae):=.ok (a::as) S
abbrev QF (d:p6)(τ:ae)(a:A)(S:iW):R (ae):=(d τ S).bind<|Eg a
@[simp]def zQ {as:ae}:Eg a as S=.ok (a::as) S:=rfl
@[simp]def Cj {d:p6}:QF d τ a S=(d τ S).bind (Eg a):=rfl
@[simp]def Dd {c:Ex}{d:p6}:iS c d τ S=(c τ S).bind (QF d τ):=rfl
@[simp]def Gx {d:p6}:qm d τ S=(d τ S).bind λas S1=>gd (as.length<=sizeLine) (.ok (.tup as) S1):=rfl
@[simp]def Ff {d:p6}:wM d τ S=(d τ S).bind newL:=rfl
theorem kH{as:ae}(h:as.length<=16777216):newL as S=.ok (.ref S.length) (S++[.lst as]):=oR<|by rw[dW];exact h
@[simp]def Dm {f:ae->iW->R A}{d:p6}:jn f d τ S=(d τ S).bind f:=rfl
abbrev Zs (r:R A):R A:=match r with
 | .ok a S=>.ok a S
 | _=>.no
@[simp]def JW:Zs (.ok a S)=.ok a S:=rfl
abbrev ZK (f:ae->iW->R A)(as:ae)(S:iW):R A:=Zs<|f as S
@[simp]def Mi {f:ae->iW->R A}{as:ae}:ZK f as S=Zs (f as S):=rfl
@[simp]def Js {f:ae->iW->R A}{d:p6}:eFn f d τ S=(d τ S).bind (ZK f):=rfl
@[simp]def Qx {g:A->iW->R A}:f1 g [a] S=g a S:=rfl
@[simp]def Ry {g:A->A->iW->R A}:f2 g [a,b] S=g a b S:=rfl
abbrev SQ (h:Pt)(τ:ae)(a:A)(l:Option Int)(S:iW):R A:=(h τ S).bind<|XY a l
abbrev Z0 (l h:Pt)(τ:ae)(a:A)(S:iW):R A:=(l τ S).bind<|SQ h τ a
@[simp]def F5 {h:Pt}{l:Option Int}:SQ h τ a l S=(h τ S).bind (XY a l):=rfl
@[simp]def LD {l h:Pt}:Z0 l h τ a S=(l τ S).bind (SQ h τ a):=rfl
@[simp]def K6 {c:Ex}{l h:Pt}:eSl c l h τ S=(c τ S).bind (Z0 l h τ):=rfl
@[simp]def B7:W0 τ S=.ok none S:=rfl
abbrev ZR (a:A)(S:iW):R (Option Int):=match a with
 | .int i=>.ok (some i) S
 | _=>.no
@[simp]def F3 {i:Int}:ZR (.int i) S=.ok (some i) S:=rfl
@[simp]def DA {c:Ex}:VW c τ S=(c τ S).bind ZR:=rfl
abbrev T_ (f:A->ae->iW->R A)(d:p6)(τ:ae)(o:A)(S:iW)(_:ae):R A:=(d τ S).bind<|f o
abbrev Z1 (f:A->ae->iW->R A)(d:p6)(τ:ae)(o:A)(S:iW):R A:=opt (o.lst? S)<|T_ f d τ o S
@[simp]def FF {f:A->ae->iW->R A}{d:p6}{xs:ae}:T_ f d τ a S xs=(d τ S).bind (f a):=rfl
@[simp]def Lv {f:A->ae->iW->R A}{d:p6}:Z1 f d τ a S=opt (a.lst? S) (T_ f d τ a S):=rfl
@[simp]def KJ {f:A->ae->iW->R A}{c:Ex}{d:p6}:VR f c d τ S=(c τ S).bind (Z1 f d τ):=rfl
@[simp]def G8 {f:A->ae->iW->R A}{c:Ex}:UA f c τ S=(c τ S).bind λo S1=>opt (o.lst? S1) λ_=>f o [] S1:=rfl
@[simp]def lst?_ref {n:Nat}:A.lst? S (.ref n)=iU S n:=rfl
abbrev RS.seq (r:RS)(d:Sm):RS:=match r with
 | .nx τ S=>d τ S
 | r=>r
@[simp]def RS.NL {d:Sm}:RS.seq (.nx τ S) d=d τ S:=rfl
@[simp]def RS.Nm {d:Sm}:RS.seq (.rt a S) d=.rt a S:=rfl
@[simp]def RS.Mc {d:Sm}{c:Str}:RS.seq (.ex c S) d=.ex c S:=rfl
@[simp]def RS.LW {d:Sm}:RS.seq (.bk τ S) d=.bk τ S:=rfl
@[simp]def RS.Lf {d:Sm}:RS.seq (.ct τ S) d=.ct τ S:=rfl
@[simp]def Fl {c d:Sm}:jB c d τ S=RS.seq (c τ S) d:=by unfold jB RS.seq;cases c τ S<;>rfl
@[simp]def GQ:pB τ S=.nx τ S:=rfl
@[simp]def zu:Vr τ S=.bk τ S:=rfl
@[simp]def B_:Xa τ S=.ct τ S:=rfl
@[simp]def B6 {e:Ex}:tR e τ S=RS.of (e τ S) λ_ S1=>.nx τ S1:=rfl
@[simp]def GZ {e:Ex}:ki e τ S=RS.of (e τ S) .rt:=rfl
@[simp]def CC:VU τ S=.rt .non S:=rfl
abbrev Yc (c d:Sm)(τ:ae)(b:Bool)(S:iW):RS:=match b with|true=>c τ S|false=>d τ S
@[simp]def Q9 {c d:Sm}:Yc c d τ true S=c τ S:=rfl
@[simp]def QL {c d:Sm}:Yc c d τ false S=d τ S:=rfl
@[simp]def M0 {t:Te}{c d:Sm}:wU t c d τ S=RS.of (t τ S) (Yc c d τ):=rfl
abbrev XM (g:Tg)(τ:ae)(a:A)(S:iW):RS:=RS.of (g a τ S) .nx
@[simp]def Ht {g:Tg}:XM g τ a S=RS.of (g a τ S) .nx:=rfl
@[simp]def Gn {e:Ex}{g:Tg}:jO e g τ S=RS.of (e τ S) (XM g τ):=rfl
@[simp]def UG {i:Nat}:jz i a τ S=.ok (τ.set i a) S:=rfl
abbrev UN (a o:A)(τ:ae)(i:A)(S:iW):R (ae):=(Cd o i a S).bind λ_ S3=>.ok τ S3
abbrev Z8 (ci:Ex)(τ:ae)(a o:A)(S:iW):R (ae):=(ci τ S).bind<|UN a o τ
@[simp]def G9 {o i:A}:UN a o τ i S=(Cd o i a S).bind λ_ S3=>.ok τ S3:=rfl
@[simp]def Jy {ci:Ex}{o:A}:Z8 ci τ a o S=(ci τ S).bind (UN a o τ):=rfl
@[simp]def Nt {co ci:Ex}:VN co ci a τ S=(co τ S).bind (Z8 ci τ a):=rfl
@[simp]def Ms {n:Nat}{gs:N4}{xs:ae}:CG n gs (.tup xs) τ S=gd (xs.length=n) (gs xs τ S):=rfl
@[simp]def LG:B5 [] τ S=.ok τ S:=rfl
@[simp]def JA {g:Tg}{gs:N4}{as:ae}:uF g gs (a::as) τ S=(g a τ S).bind (gs as):=rfl
abbrev ZL (i j:Nat)(τ:ae)(as:ae)(S:iW):RS:=match as with
 | [a,b]=>.nx ((τ.set i a).set j b) S
 | _=>.no
@[simp]def Kf {i j:Nat}:ZL i j τ [a,b] S=.nx ((τ.set i a).set j b) S:=rfl
@[simp]def E3 {i j:Nat}{c:p6}:Yq i j c τ S=RS.of (c τ S) (ZL i j τ):=rfl
abbrev Nz (i:Nat)(τ:ae)(c:A)(S:iW):RS:=.nx (τ.set i c) S
abbrev XW (i:Nat)(f:A->A->iW->R A)(τ:ae)(b:A)(S:iW):RS:=.of (f (τ.getD i .unb) b S)<|Nz i τ
@[simp]def Cr {i:Nat}:Nz i τ a S=.nx (τ.set i a) S:=rfl
@[simp]def Hj {i:Nat}{f:A->A->iW->R A}:XW i f τ a S=.of (f (τ.getD i .unb) a S) (Nz i τ):=rfl
@[simp]def Ge {i:Nat}{f:A->A->iW->R A}{e:Ex}:K9 i f e τ S=bif (τ.getD i .unb).nk then .no else .of (e τ S) (XW i f τ):=by
 unfold K9;cases(τ.getD i .unb).nk<;>rfl
abbrev YC (o i:A)(τ:ae)(z:A)(S:iW):RS:=.of (Cd o i z S) λ_ d=>.nx τ d
abbrev Yn (f:A->A->iW->R A)(o i x:A)(τ:ae)(y:A)(S:iW):RS:=.of (f x y S)<|YC o i τ
abbrev Yz (ce:Ex)(f:A->A->iW->R A)(o i:A)(τ:ae)(x:A)(S:iW):RS:=.of (ce τ S)<|Yn f o i x τ
abbrev YS (ce:Ex)(f:A->A->iW->R A)(o:A)(τ:ae)(i:A)(S:iW):RS:=.of (OZ o i S)<|Yz ce f o i τ
abbrev ZP (ci ce:Ex)(f:A->A->iW->R A)(τ:ae)(o:A)(S:iW):RS:=.of (ci τ S)<|YS ce f o τ
@[simp]def J6 {o i:A}:YC o i τ a S=.of (Cd o i a S) λ_ S6=>.nx τ S6:=rfl
@[simp]def MM {f:A->A->iW->R A}{o i x:A}:Yn f o i x τ a S=.of (f x a S) (YC o i τ):=rfl
@[simp]def NR {ce:Ex}{f:A->A->iW->R A}{o i:A}:Yz ce f o i τ a S=.of (ce τ S) (Yn f o i a τ):=rfl
@[simp]def Ko {ce:Ex}{f:A->A->iW->R A}{o:A}:YS ce f o τ a S=.of (OZ o a S) (Yz ce f o a τ):=rfl
@[simp]def Nd {ci ce:Ex}{f:A->A->iW->R A}:ZP ci ce f τ a S=.of (ci τ S) (YS ce f a τ):=rfl
@[simp]def C7 {co ci ce:Ex}{f:A->A->iW->R A}:W5 co ci ce f τ S=RS.of (co τ S) (ZP ci ce f τ):=rfl
abbrev RS.end (r:RS):R A:=match r with
 | .rt a d=>.ok a d
 | .nx _ d=>.ok .non d
 | .ex c d=>.ex c d
 | _=>.no
@[simp]def RS.MR:RS.end (.rt a S)=.ok a S:=rfl
@[simp]def RS.MS:RS.end (.nx τ S)=.ok .non S:=rfl
@[simp]def RS.MQ {c:Str}:RS.end (.ex c S)=.ex c S:=rfl
theorem ve {N:ar}{m:Sm}{as:ae}:kc N m as S=RS.end (m (as++List.replicate (N.length-as.length) .unb) S):=by
 unfold kc RS.end;cases m (as++List.replicate (N.length-as.length) .unb) S<;>rfl
@[simp]def NK {i j:Int}:rK (.int i) (.int j) S=.ok (.int<|i+j) S:=rfl
@[simp]def Nb {i j:Int}:aSub (.int i) (.int j) S=.ok (.int<|i-j) S:=rfl
@[simp]def Kc {i j:Int}:Yp (.int i) (.int j) S=.ok (.int<|i+j) S:=rfl
theorem NX{i j:Int}(h:-18446744073709551616<i)(h':i<18446744073709551616):tZ (.int i) (.int j) S=.ok (.int<|i * j) S:=oR<|by unfold vA;simp;left;exact⟨by omega,by omega⟩
def mul_r{i j:Int}(h:-18446744073709551616<j)(h':j<18446744073709551616):tZ (.int i) (.int j) S=.ok (.int<|i * j) S:=oR<|by unfold vA;simp;right;exact⟨(),()⟩
def M7{i j:Int}(h:0<j)(h':j<1073741824):xG (.int i) (.int j) S=.ok (.int<|i / j) S:=oR ⟨h,()⟩
def Vq{i j:Int}(h:0<j)(h':j<18446744073709551616):xG (.int i) (.int j) S=.ok (.int<|i / j) S:=oR ⟨h,h'⟩
def Cm{i j:Int}(h:0<j):Bm (.int i) (.int j) S=.ok (.int<|i % j) S:=oR h
@[simp]def Qu {i j:Int}:Vi (.int i) (.int j) S=.ok (.bl<|decide<|i<j) S:=rfl
@[simp]def Q_ {i j:Int}:Yk (.int i) (.int j) S=.ok (.bl<|decide<|i<=j) S:=rfl
@[simp]def QW {i j:Int}:QV (.int i) (.int j) S=.ok (.bl<|decide<|j<i) S:=rfl
@[simp]def Ri {i j:Int}:Zp (.int i) (.int j) S=.ok (.bl<|decide<|j<=i) S:=rfl
@[simp]def Q4 {i j:Bool}:Qw false (.bl i) (.bl j) S=.ok (.bl<|i == j) S:=rfl
@[simp]def LR {i j:Bool}:Qw true (.bl i) (.bl j) S=.ok (.bl<|i != j) S:=rfl
@[simp]def J5 {i:Int}:HL (.int i) S=.ok (.int<|-i) S:=rfl
@[simp]def KW {xs:ae}:lO (.tup xs) S=.ok (.int xs.length) S:=rfl
@[simp]def NS {xs:ae}:lO (.frz xs) S=.ok (.int xs.length) S:=rfl
@[simp]def ME {n:Nat}:lO (.ref n) S=opt (iU S n) λxs=>.ok (.int xs.length) S:=rfl
@[simp]def KH {i:Int}:T9 (.int i) S=.ok (.int<|if i<0 then -i else i) S:=rfl
@[simp]def HA {i j:Int}:XA (.int i) (.int j) S=.ok (.int<|if j>i then j else i) S:=rfl
@[simp]def HC {i j:Int}:Xn (.int i) (.int j) S=.ok (.int<|if j<i then j else i) S:=rfl
@[simp]def Fp {i:Int}:wH (.int i) S=.ok (.int i) S:=rfl
@[simp]def Fi {i:Bool}:wH (.bl i) S=.ok (.int<|if i then 1 else 0) S:=rfl
@[simp]def z7 {i j:Int}:An (.int i) (.int j) S=.ok (.rng i j) S:=rfl
@[simp]def Qt {xs:ae}{i:Int}:pI (.tup xs) (.int i) S=opt (rV xs i) λx=>.ok x S:=rfl
@[simp]def Q2 {xs:ae}{i:Int}:pI (.frz xs) (.int i) S=opt (rV xs i) λx=>.ok x S:=rfl
@[simp]def QC {n:Nat}{i:Int}:pI (.ref n) (.int i) S=opt (iU S n) λxs=>opt (rV xs i) λx=>.ok x S:=rfl
@[simp]def JJ {n:Nat}{k:Int}:Cd (.ref n) (.int k) a S=opt (iU S n) λxs=>opt (DJ xs.length k) λj=>.ok Unit.unit (S.set n<|.lst<|xs.set j a):=rfl
@[simp]def JH {n:Nat}{i:Int}:OZ (.ref n) (.int i) S=opt (iU S n) λxs=>gd (0<=i) (opt (xs[i.toNat]?) λx=>.ok x S):=rfl
theorem HR{i j:Int}(h:zZ i j):wL (.rng i j) S=.ok (.ref S.length) (S++[.lst<|(kX i j).map .int]):=oR h
@[simp]def FZ {xs:ae}:wL (.tup xs) S=.ok (.ref S.length) (S++[.lst xs]):=rfl
@[simp]def Hh {xs:ae}:wL (.frz xs) S=.ok (.ref S.length) (S++[.lst xs]):=rfl
@[simp]def Hu {n:Nat}:wL (.ref n) S=opt (iU S n) λxs=>.ok (.ref S.length) (S++[.lst xs]):=rfl
@[simp]def CS {xs:ae}:wc (.tup xs) S=.ok (.tup xs) S:=rfl
@[simp]def B4 {n:Nat}:wc (.ref n) S=opt (iU S n) λxs=>.ok (.tup xs) S:=rfl
@[simp]def NN {xs:ae}:V5 (.tup xs) S=.ok (.tup xs.reverse) S:=rfl
@[simp]def MY {n:Nat}:V5 (.ref n) S=opt (iU S n) λxs=>.ok (.ref S.length) (S++[.lst xs.reverse]):=rfl
@[simp]def Rg {n:Nat}{l u:Option Int}:XY (.ref n) l u S=opt (iU S n) λxs=>.ok (.ref S.length) (S++[.lst<|OM xs l u]):=rfl
@[simp]def yp {n:Nat}:vt (.ref n) [a] S=opt (iU S n) λxs=>gd (xs.length<sizeLine) (.ok .non<|S.set n<|.lst<|xs++[a]):=rfl
@[simp]def NC {b:Bool}:A.QB (.bl b) S=some b:=rfl
@[simp]def Fj {i:Int}:A.QB (.int i) S=some (i != 0):=rfl
theorem Bh{o:O}:(S++[o])[S.length]?=some o:=by simp
@[simp]def jk {xs:ae}:iU (S++[.lst xs]) S.length=some xs:=lY Bh
theorem j4{o:O}{n:Nat}(h:iU S n=some xs):iU (S++[o]) n=some xs:=by
 have h':=ji h;exact lY<|by rw[br (aJ.mp h').1];exact h'
def mj{n:Nat}(h:iU S n=some xs):n<S.length:=(aJ.mp<|ji h).1
def ur{n:Nat}(h:n<S.length):iU (S.set n<|.lst ys) n=some ys:=lY<|bz h
def xZ{n:Nat}(h:n≠m):iU (S.set n<|.lst ys) m=iU S m:=by unfold iU;rw[bK h]
def vV{xs:ae}{i:Int}{k:Nat}{x:A}(h:i=k)(hx:xs[k]?=some x):rV xs i=some x:=by rw[h];exact Ox hx
def AA{n:Nat}{i:Int}{k:Nat}(h:i=k)(hk:k<n):DJ n i=some k:=by
 subst h;unfold DJ;rw[aP (),aP ()];simp
end
structure Kp (b:Nat->Prop)(S S':iW):Prop where
 len:S.length<=S'.length
 obj:∀(n:Nat) (o:O),¬b n->S[n]?=some o->S'[n]?=some o
meta abbrev j6:=Kp λ_=>False
def Kp.lst{b:Nat->Prop}(h:Kp b S S')(n:Nat)(xs:ae)(hb:¬b n)(e:iU S n=some xs):iU S' n=some xs:=lY<|h.obj n _ hb<|ji e
def Kp.dct{b:Nat->Prop}(h:Kp b S S')(n:Nat)(xs:List<|ag×A)(hb:¬b n)(e:jj S n=some xs):jj S' n=some xs:=pN<|h.obj n _ hb<|j_ e
def Kp.refl{b:Nat->Prop}:Kp b S S:=⟨aL _,λ_ _ _ h=>h⟩
def Kp.trans{b:Nat->Prop}(h:Kp b S S1)(h':Kp b S1 S2):Kp b S S2:=⟨bJ h.len h'.len,λn xs hb e=>h'.obj n xs hb<|h.obj n xs hb e⟩
def BI{S:iW}{n:Nat}(e:S[n]?=some o):n<S.length:=(aJ.mp e).1
def Kp.lay{b:Nat->Prop}{o:O}(h:Kp b S S1):Kp b S (S1++[o]):=⟨bJ h.len<|by simp,λn xs hb e=>by
 have:=h.obj n xs hb e;rw[br<|BI this];exact this⟩
def Kp.sM{b:Nat->Prop}{S S1:iW}(h:Kp b S S1)(hm:b m\/S.length<=m):Kp b S (S1.set m o):=⟨by rw[bW];exact h.len,λn xs hb e=>by
 have:m≠n:=λz=>by
  subst z
  rcases hm with z|z
  ·exact hb z
  ·exact absurd (BI e) ()
 rw[bK this];exact h.obj n xs hb e⟩
def Kp.set{b:Nat->Prop}{S S1:iW}(h:Kp b S S1)(hm:b m\/S.length<=m):Kp b S (S1.set m<|.lst ys):=h.sM hm
def Kp.mono{b c:Nat->Prop}{S:iW}(h:Kp b S S1)(hb:∀n,n<S.length->b n->c n):Kp c S S1:=⟨h.len,λn xs hc e=>h.obj n xs (λz=>hc<|hb n (BI e) z) e⟩
def Kp.of0{b:Nat->Prop}(h:j6 S S1):Kp b S S1:=h.mono λ_ _ z=>z.elim
def Kp.old{b c:Nat->Prop}{S:iW}(h:Kp b S S1)(h':Kp c S1 S2)(hc:∀n,n<S.length->¬b n->¬c n):Kp b S S2:=⟨bJ h.len h'.len,λn xs hb e=>h'.obj n xs (hc n (BI e) hb)<|h.obj n xs hb e⟩
theorem ye{t:Te}{c:Sm}(Inv:ae->iW->Prop)(μ:ae->iW->Nat)(Post:RS->Prop)
  (h:∀τ S,Inv τ S->(∃S1,t τ S=.ok false S1/\Post (.nx τ S1))\/(∃S1,t τ S=.ok true S1/\((∃τ' S',c τ S1=.nx τ' S'/\Inv τ' S'/\μ τ' S'<μ τ S)\/(∃a S',c τ S1=.rt a S'/\Post (.rt a S'))))) :
  ∀n τ S,Inv τ S->μ τ S<n->Post (kI t c n τ S)
 | 0,_,_,_,hn=>absurd hn (eL _)
 | n+1,τ,S,f,hn=>by
  unfold kI
  rcases h τ S f with⟨S1,e,q⟩|⟨S1,e,⟨τ',S',e2,d,g⟩|⟨a,S',e2,q⟩⟩
  ·rw[e];exact q
  ·rw[e];show Post (match c τ S1 with
    | .nx τ' S'=>kI t c n τ' S'
    | .ct τ' S'=>kI t c n τ' S'
    | .bk τ' S'=>.nx τ' S'
    | r=>r)
   rw[e2];exact ye Inv μ Post h n τ' S' d ()
  ·rw[e];show Post (match c τ S1 with
    | .nx τ' S'=>kI t c n τ' S'
    | .ct τ' S'=>kI t c n τ' S'
    | .bk τ' S'=>.nx τ' S'
    | r=>r)
   rw[e2];exact q
theorem EH{s:Src}{g:Tg}{c:Sm}(Inv:Nat->ae->iW->Prop)(Post:RS->Prop)
  (step:∀i τ S,i<s.k->Inv i τ S->∃x τ1 S1,s.get i S=some x/\g x τ S=.ok τ1 S1/\((∃τ' S',c τ1 S1=.nx τ' S'/\Inv (i+1) τ' S')\/(∃a S',c τ1 S1=.rt a S'/\Post (.rt a S'))))
  (fin:∀τ S,Inv s.k τ S->s.fin S=true/\Post (.nx τ S)):∀k i τ S,k+i=s.k->Inv i τ S->Post (qg s g c k i τ S)
 | 0,i,τ,S,hk,hi=>by
  have:i=s.k:=()
  subst this;obtain⟨hf,q⟩:=fin τ S hi;unfold qg;rw[aP hf];exact q
 | k+1,i,τ,S,hk,hi=>by
  obtain⟨x,τ1,S1,f,hg,h⟩:=step i τ S () hi;unfold qg;rw[f];show Post (RS.of (g x τ S) λτ1 S1=>match c τ1 S1 with
   | .nx τ' S'=>qg s g c k (i+1) τ' S'
   | .ct τ' S'=>qg s g c k (i+1) τ' S'
   | .bk τ' S'=>.nx τ' S'
   | r=>r)
  rw[hg];show Post (match c τ1 S1 with
   | .nx τ' S'=>qg s g c k (i+1) τ' S'
   | .ct τ' S'=>qg s g c k (i+1) τ' S'
   | .bk τ' S'=>.nx τ' S'
   | r=>r)
  rcases h with⟨τ',S',e,d⟩|⟨a,S',e,q⟩
  ·rw[e];exact EH Inv Post step fin k (i+1) τ' S' () d
  ·rw[e];exact q
def BN{lo hi:Int}{c:Sm}{src:Ic}{τ:ae}(hs:src τ S=.ok (kR lo hi) S1)(Inv:Nat->ae->iW->Prop)(Post:RS->Prop)(h0:Inv 0 τ S1)
  (step:∀(i:Nat) τ S,(i:Int)<hi-lo->Inv i τ S->(∃τ' S',c (τ.set j<|.int<|lo+i) S=.nx τ' S'/\Inv (i+1) τ' S')\/(∃a S',c (τ.set j<|.int<|lo+i) S=.rt a S'/\Post (.rt a S')))
  (fin:∀τ S,Inv (hi-lo).toNat τ S->Post (.nx τ S)):Post (kZ src (jz j) c τ S):=by
 unfold kZ;rw[hs];refine EH (s:=kR lo hi) Inv Post (λi τ S d h=>?_) (λτ S h=>⟨rfl,fin τ S h⟩) _ 0 τ S1 rfl h0;have d:i<(hi-lo).toNat:=d;exact⟨.int<|lo+i,_,S,aP d,rfl,step i τ S (by omega) h⟩
def nO{n:Nat}{xs:ae}{g:Tg}{c:Sm}{src:Ic}(hs:src τ S=.ok (jP n xs.length) S1)(Inv:Nat->ae->iW->Prop)(Post:RS->Prop)(h0:Inv 0 τ S1)(hl:∀i τ S,Inv i τ S->iU S n=some xs)
  (step:∀(i:Nat) x τ S,xs[i]?=some x->Inv i τ S->∃τ1 S1,g x τ S=.ok τ1 S1/\((∃τ' S',c τ1 S1=.nx τ' S'/\Inv (i+1) τ' S')\/(∃a S',c τ1 S1=.rt a S'/\Post (.rt a S'))))
  (fin:∀τ S,Inv xs.length τ S->Post (.nx τ S)):Post (kZ src g c τ S):=by
 unfold kZ;rw[hs];refine EH (s:=jP n xs.length) Inv Post (λi τ S d h=>?_) (λτ S h=>⟨?_,fin τ S h⟩) _ 0 τ S1 rfl h0
 ·have d:i<xs.length:=d;obtain⟨τ1,S1,e,q⟩:=step i xs[i] τ S (aH d) h;exact⟨xs[i],τ1,S1,by show(iU S n).bind _=_;rw[hl i τ S h];exact aH d,e,q⟩
 ·show(match iU S n with
   | some ys=>decide (ys.length<=xs.length)
   | none=>false)=true
  rw[hl _ τ S h];exact aY<|aL _
@[simp]def pU {c:Ex}{τ:ae}{S S1:iW}{j:Int}(h:c τ S=.ok (.int j) S1)(hb:bnd j):kN c τ S=.ok (kR 0 j) S1:=by
 unfold kN;rw[h];exact oR hb
def x_{c d:Ex}{i j:Int}(h:c τ S=.ok (.int i) S1)(h':d τ S1=.ok (.int j) S2)(hb:bnd i)(hb':bnd j):sQ c d τ S=.ok (kR i j) S2:=by
 unfold sQ;rw[h];show(d τ S1).bind _=_;rw[h'];exact oR ⟨hb,hb'⟩
def kJ{c:Ex}{n:Nat}{xs:ae}(h:c τ S=.ok (.ref n) S1)(hl:iU S1 n=some xs):kh c τ S=.ok (jP n xs.length) S1:=by
 unfold kh;rw[h];show opt (iU S1 n) _=_;rw[hl];rfl
theorem vh{s:Src}{g:Tg}{t:Te}{e:Ex}{P:iW->Prop}{T:ae->Prop}(it:Nat->A)(p:Nat->Bool)(f:Nat->A)
  (hget:∀i S,i<s.k->P S->s.get i S=some (it i)) (hfin:∀S,P S->s.fin S=true)
  (step:∀i τ S,i<s.k->T τ->P S->∃τ1 S1 S2,g (it i) τ S=.ok τ1 S1/\t τ1 S1=.ok (p i) S2/\T τ1/\(p i=false->P S2)/\(p i=true->∃S3,e τ1 S2=.ok (f i) S3/\P S3)) :
  ∀k i τ S,k+i=s.k->T τ->P S->∃S',l_ s g t e k i τ S=.ok (((List.range' i k).filter p).map f) S'/\P S'
 | 0,i,τ,S,hk,hT,hP=>⟨S,by unfold l_;rw[aP<|hfin S hP];rfl,hP⟩
 | k+1,i,τ,S,hk,hT,hP=>by
  obtain⟨τ1,S1,S2,hg,B,d,C,j⟩:=step i τ S (by omega) hT hP;unfold l_;rw[hget i S (by omega) hP,jh,hg,R.jG,B,R.jG,List.range'_succ,fq]
  cases q:p i with
  | false=>
   obtain⟨S',h1,h2⟩:=vh it p f hget hfin step k (i+1) τ1 S2 (by omega) d<|C q;exact⟨S',by simpa using h1,h2⟩
  | true=>
   obtain⟨S3,D,m⟩:=j q;obtain⟨S',h1,h2⟩:=vh it p f hget hfin step k (i+1) τ1 S3 (by omega) d m;refine⟨S',?_,h2⟩
   skip
   rw[D,R.jG,h1];rfl
def wD{s:Src}{src:Ic}{t:Te}{e:Ex}{S1:iW}(hs:src τ S=.ok s S1)(it:Nat->A)(p:Nat->Bool)(f:Nat->A)(hget:∀i,i<s.k->s.get i S1=some (it i))(hfin:s.fin S1=true)
  (ht:∀i,i<s.k->t (it i::j3 cap τ) S1=.ok (p i) S1) (he:∀i,i<s.k->p i=true->e (it i::j3 cap τ) S1=.ok (f i) S1) (hl:s.k<=16777216) :
  jx (none::cap) src (jz 0) t e τ S=.ok (.ref S1.length) (S1++[.lst<|((List.range s.k).filter p).map f]):=by
 unfold jx;rw[hs,R.ly];obtain⟨q,h1,h2⟩:=vh (s:=s) (g:=jz 0) (t:=t) (e:=e) (P:=λS=>S=S1) (T:=λd=>∃y,d=y::j3 cap τ) it p f (λi S j h=>by subst h;exact hget i j) (λS h=>by subst h;exact hfin)
  (λi d S j ⟨y,hy⟩ h=>by
   subst h hy;exact⟨it i::j3 cap τ,S,S,rfl,ht i j,⟨_,rfl⟩,λ_=>rfl,λm=>⟨S,he i j m,rfl⟩⟩) s.k 0 (j3 (none::cap) τ) S1 rfl ⟨_,rfl⟩ rfl
 subst h2;rw[h1,R.jG,e_];refine kH ?_;rw[aG];refine bJ (c8 _ _) ?_;rw[List.length_range'];exact hl
def lI{α β:Type}(xs:List α)(p:α->Bool)(f:α->β):∀(d:α) ,(((List.range xs.length).filter λi=>p<|xs.getD i d).map λi=>f<|xs.getD i d)=(xs.filter p).map f:=by
 intro d
 induction xs with
 | nil=>rfl
 | cons x xs j=>
  rw[bN,List.range_succ_eq_map,fq,fq];have e:((List.filter (λi=>p<|(x::xs).getD i d)<|List.map Nat.succ<|List.range xs.length).map λi=>f<|(x::xs).getD i d)=(xs.filter p).map f:=by
   rw[fR,bg];rw[<- j];rfl
  show List.map _ (if p x=true then _ else _)=List.map f (if p x=true then _ else _);by_cases g:p x=true
  ·rw[aP g,aP g,bE,bE,e];rfl
  ·rw[aM g,aM g,e]
def MB{xs:ae}{src:Ic}{t:Te}{e:Ex}{S1:iW}(hs:src τ S=.ok (oG xs) S1)(p:A->Bool)(f:A->A)
  (ht:∀x∈xs,t (x::j3 cap τ) S1=.ok (p x) S1) (he:∀x∈xs,p x=true->e (x::j3 cap τ) S1=.ok (f x) S1) (hl:xs.length<=16777216) :
  jx (none::cap) src (jz 0) t e τ S=.ok (.ref S1.length) (S1++[.lst<|(xs.filter p).map f]):=by
 have g:∀i,i<xs.length->xs.getD i .unb∈xs:=λi d=>by
  rw[aK,aH d];exact cU d
 rw[wD hs (λi=>xs.getD i .unb) (λi=>p<|xs.getD i .unb) (λi=>f<|xs.getD i .unb) (λi d=>by
  have d:i<xs.length:=d;show xs[i]?=_;rw[aK,aH d];rfl) rfl (λi d=>ht _<|g i d) (λi d=>he _<|g i d) hl]
 have:=lI xs p f .unb;show R.ok _ (S1++[O.lst<|((List.range xs.length).filter _).map _])=_;rw[this]
def yR{lo hi:Int}{src:Ic}{t:Te}{e:Ex}{S1:iW}(hs:src τ S=.ok (kR lo hi) S1)(p:Int->Bool)(f:Int->A)
  (ht:∀k,lo<=k->k<hi->t (.int k::j3 cap τ) S1=.ok (p k) S1) (he:∀k,lo<=k->k<hi->p k=true->e (.int k::j3 cap τ) S1=.ok (f k) S1) (hl:(hi-lo).toNat<=16777216) :
  jx (none::cap) src (jz 0) t e τ S=.ok (.ref S1.length) (S1++[.lst<|((kX lo hi).filter p).map f]):=by
 rw[wD hs (λi=>.int<|lo+i) (λi=>p<|lo+i) (λi=>f<|lo+i) (λi d=>aP d) rfl (λi d=>ht _ () (by have:i<(hi-lo).toNat:=d;lia)) (λi d=>he _ () (by have:i<(hi-lo).toNat:=d;lia)) hl];unfold kX;rw[fR,bg];rfl
@[simp]def MI {cap:List<|bj}{τ:ae}:j3 (none::cap) τ=.unb::j3 cap τ:=rfl
@[simp]def La {cap:List<|bj}{τ:ae}{j:Nat}:j3 (some j::cap) τ=τ.getD j .unb::j3 cap τ:=rfl
@[simp]def Cv {τ:ae}:j3 [] τ=[]:=rfl
theorem wJ{x:A}:rV (x::xs) 0=some x:=vV (k:=0) rfl rfl
def Nj{x:A}:rV (x::y::xs) 1=some y:=vV (k:=1) rfl rfl
def xw{ns:ag}{i:Int}{k:Nat}{x:Int}(h:i=k)(hx:ns[k]?=some x):rV (ns.map A.int) i=some (.int x):=vV h<|by rw[aR,hx];rfl
def nF{j:Int}(h:-4611686018427387904<=j)(h':j<4611686018427387904):bnd j:=⟨(),()⟩
def Nh{i j:Int}(h1:-1000000<=i)(h2:i<=1000000)(h3:-1000000<=j)(h4:j<=1000000)(h5:j-i<=1000):zZ i j:=⟨⟨(),(),(),()⟩,()⟩
theorem ints_map:∀(ns:ag),A.ints (ns.map .int)=some ns
 | []=>rfl
 | n::ns=>by show(A.ints<|ns.map .int).map (n::·)=_;rw[ints_map ns];rfl
theorem qO{n:Nat}:∀(xs ys:ag),rX (uG S<|n+1) (xs.map .int) (ys.map .int)=some (decide<|xs=ys)
 | [],[]=>rfl
 | [],_::_=>rfl
 | _::_,[]=>rfl
 | x::xs,y::ys=>by
  skip
  skip
  show Option.map _ (rX (uG S<|n+1) (xs.map .int)<|ys.map .int)=_;rw[qO xs ys]
  skip
  by_cases h1:x=y<;>by_cases h2:xs=ys<;>simp[h1,h2]
@[simp]def QH {S:iW}{x y:Bool}:u7 false (.bl x) (.bl y) S=.ok (.bl<|x == y) S:=rfl
@[simp]def Qz {S:iW}{x y:Bool}:u7 true (.bl x) (.bl y) S=.ok (.bl<|!(x == y)) S:=rfl
@[simp]def Rh {S:iW}{x y:Int}:u7 false (.int x) (.int y) S=.ok (.bl<|x == y) S:=rfl
@[simp]def RA {S:iW}{x y:Int}:u7 true (.int x) (.int y) S=.ok (.bl<|!(x == y)) S:=rfl
@[simp]def Gg {S:iW}:Qw false .non .non S=.ok (.bl true) S:=rfl
@[simp]def FH {S:iW}{xs:ae}:Qw false (.tup xs) .non S=.ok (.bl false) S:=rfl
@[simp]def Hq {S:iW}{n:Nat}:Qw false (.ref n) .non S=.ok (.bl false) S:=rfl
@[simp]def C5 {S:iW}:Qw true .non .non S=.ok (.bl false) S:=rfl
@[simp]def CK {S:iW}{xs:ae}:Qw true (.tup xs) .non S=.ok (.bl true) S:=rfl
@[simp]def Dy {S:iW}{n:Nat}:Qw true (.ref n) .non S=.ok (.bl true) S:=rfl
@[simp]def Gm {S:iW}{x:A}{c:String}:Qj x (.ty c) S=opt (x.kd S) λk=>opt (Ir k c) λb=>.ok (.bl b) S:=rfl
@[simp]def QD {S:iW}{b:Bool}:A.kd (.bl b) S=some .bl:=rfl
@[simp]def MK {S:iW}{b:Int}:A.kd (.int b) S=some .int:=rfl
@[simp]def Km {S:iW}{b:ae}:A.kd (.tup b) S=some .tup:=rfl
@[simp]def KO {S:iW}:A.kd .non S=some .non:=rfl
@[simp]def Mw {S:iW}{b:Str}:A.kd (.str b) S=some .str:=rfl
@[simp]def Jr {S:iW}{n:Nat}:A.kd (.ref n) S=(iU S n).map λ_=>.lst:=rfl
@[simp]def KS {S:iW}:newL [] S=.ok (.ref S.length) (S++[.lst []]):=kH<|by simp
@[simp]def LA {S:iW}{x0:A}:newL [x0] S=.ok (.ref S.length) (S++[.lst [x0]]):=kH<|by simp
@[simp]def JM {S:iW}{x0 x1:A}:newL [x0,x1] S=.ok (.ref S.length) (S++[.lst [x0,x1]]):=kH<|by simp
@[simp]def J3 {S:iW}{x0 x1 x2:A}:newL [x0,x1,x2] S=.ok (.ref S.length) (S++[.lst [x0,x1,x2]]):=kH<|by simp
@[simp]def JB {S:iW}{x0 x1 x2 x3:A}:newL [x0,x1,x2,x3] S=.ok (.ref S.length) (S++[.lst [x0,x1,x2,x3]]):=kH<|by simp
@[simp]def Lr {S:iW}{x0 x1 x2 x3 x4:A}:newL [x0,x1,x2,x3,x4] S=.ok (.ref S.length) (S++[.lst [x0,x1,x2,x3,x4]]):=kH<|by simp
@[simp]def Mq {S:iW}{x0 x1 x2 x3 x4 x5:A}:newL [x0,x1,x2,x3,x4,x5] S=.ok (.ref S.length) (S++[.lst [x0,x1,x2,x3,x4,x5]]):=kH<|by simp
@[simp]def J0 {S:iW}{x0 x1 x2 x3 x4 x5 x6:A}:newL [x0,x1,x2,x3,x4,x5,x6] S=.ok (.ref S.length) (S++[.lst [x0,x1,x2,x3,x4,x5,x6]]):=kH<|by simp
@[simp]def MT {S:iW}{x0 x1 x2 x3 x4 x5 x6 x7:A}:newL [x0,x1,x2,x3,x4,x5,x6,x7] S=.ok (.ref S.length) (S++[.lst [x0,x1,x2,x3,x4,x5,x6,x7]]):=kH<|by simp
@[simp]def LF {S:iW}{x0 x1 x2 x3 x4 x5 x6 x7 x8:A}:newL [x0,x1,x2,x3,x4,x5,x6,x7,x8] S=.ok (.ref S.length) (S++[.lst [x0,x1,x2,x3,x4,x5,x6,x7,x8]]):=kH<|by simp
@[simp]def G7 {S:iW}{x0 x1 x2 x3 x4 x5 x6 x7 x8 x9:A}:newL [x0,x1,x2,x3,x4,x5,x6,x7,x8,x9] S=.ok (.ref S.length) (S++[.lst [x0,x1,x2,x3,x4,x5,x6,x7,x8,x9]]):=kH<|by simp
theorem vR{α:Type}{n:Nat}{r:R α}(h:n<=16777216):gd (n<=sizeLine) r=r:=oR<|by rw[dW];exact h
def tH{α:Type}{n:Nat}{r:R α}(h:n<16777216):gd (n<sizeLine) r=r:=oR<|by rw[dW];exact h
def Ro {x:A}{xs:ae}:(x::xs).getD 0 .unb=x:=rfl
def Rr {x:A}{xs:ae}{n:Nat}:(x::xs).getD (n+1) .unb=xs.getD n .unb:=rfl
def Xf {x y:A}{xs:ae}:(x::xs).set 0 y=y::xs:=rfl
def sets {x y:A}{xs:ae}{n:Nat}:(x::xs).set (n+1) y=x::xs.set n y:=rfl
def rep0 {x:A}:List.replicate 0 x=[]:=rfl
def reps {x:A}{n:Nat}:List.replicate (n+1) x=x::List.replicate n x:=rfl
def VX {x:A}{xs ys:ae}:(x::xs)++ys=x::(xs++ys):=rfl
def Xx {ys:ae}:[]++ys=ys:=rfl
def Xr{S:iW}{n:Nat}{xs ys:ae}(h:iU S n=some xs)(h':iU S m=some ys)(hl:xs.length+ys.length<=16777216):rK (.ref n) (.ref m) S=.ok (.ref S.length) (S++[.lst<|xs++ys]):=by
 show opt (iU S n) _=_;rw[h,jh,h',jh];exact oR<|by rw[dW];exact hl
abbrev uV (x:A)(S:iW):R A:=bif x.nk then .no else .ok x S
def KZ {xs:ae}{S:iW}:uV (.tup xs) S=.ok (.tup xs) S:=rfl
def NJ {xs:ae}{S:iW}:uV (.frz xs) S=.ok (.frz xs) S:=rfl
def Ll {i:Int}{S:iW}:uV (.int i) S=.ok (.int i) S:=rfl
def Qv {b:Bool}{S:iW}:uV (.bl b) S=.ok (.bl b) S:=rfl
def LN {s:Str}{S:iW}:uV (.str s) S=.ok (.str s) S:=rfl
def K5 {n:Nat}{S:iW}:uV (.ref n) S=.ok (.ref n) S:=rfl
def Np  {S:iW}:uV (.non) S=.ok (.non) S:=rfl
def Jv {i j:Int}{S:iW}:uV (.rng i j) S=.ok (.rng i j) S:=rfl
def NH {s:Str}{S:iW}:uV (.exn s) S=.ok (.exn s) S:=rfl
def Z7 {x0:A}{xs:ae}{S:iW}:iR 0 (x0::xs) S=uV x0 S:=pC
def ZN {x0 x1:A}{xs:ae}{S:iW}:iR 1 (x0::x1::xs) S=uV x1 S:=pC
def eV2 {x0 x1 x2:A}{xs:ae}{S:iW}:iR 2 (x0::x1::x2::xs) S=uV x2 S:=pC
def ZT {x0 x1 x2 x3:A}{xs:ae}{S:iW}:iR 3 (x0::x1::x2::x3::xs) S=uV x3 S:=pC
def eV4 {x0 x1 x2 x3 x4:A}{xs:ae}{S:iW}:iR 4 (x0::x1::x2::x3::x4::xs) S=uV x4 S:=pC
def ZM {x0 x1 x2 x3 x4 x5:A}{xs:ae}{S:iW}:iR 5 (x0::x1::x2::x3::x4::x5::xs) S=uV x5 S:=pC
def eV6 {x0 x1 x2 x3 x4 x5 x6:A}{xs:ae}{S:iW}:iR 6 (x0::x1::x2::x3::x4::x5::x6::xs) S=uV x6 S:=pC
def eV7 {x0 x1 x2 x3 x4 x5 x6 x7:A}{xs:ae}{S:iW}:iR 7 (x0::x1::x2::x3::x4::x5::x6::x7::xs) S=uV x7 S:=pC
def eV8 {x0 x1 x2 x3 x4 x5 x6 x7 x8:A}{xs:ae}{S:iW}:iR 8 (x0::x1::x2::x3::x4::x5::x6::x7::x8::xs) S=uV x8 S:=pC
def ZV {a x0:A}{xs:ae}{S:iW}:jz 0 a (x0::xs) S=.ok (a::xs) S:=rfl
def ZZ {a x0 x1:A}{xs:ae}{S:iW}:jz 1 a (x0::x1::xs) S=.ok (x0::a::xs) S:=rfl
def gN2 {a x0 x1 x2:A}{xs:ae}{S:iW}:jz 2 a (x0::x1::x2::xs) S=.ok (x0::x1::a::xs) S:=rfl
def gN3 {a x0 x1 x2 x3:A}{xs:ae}{S:iW}:jz 3 a (x0::x1::x2::x3::xs) S=.ok (x0::x1::x2::a::xs) S:=rfl
def ZY {a x0 x1 x2 x3 x4:A}{xs:ae}{S:iW}:jz 4 a (x0::x1::x2::x3::x4::xs) S=.ok (x0::x1::x2::x3::a::xs) S:=rfl
def ZX {a x0 x1 x2 x3 x4 x5:A}{xs:ae}{S:iW}:jz 5 a (x0::x1::x2::x3::x4::x5::xs) S=.ok (x0::x1::x2::x3::x4::a::xs) S:=rfl
def ZQ {a x0 x1 x2 x3 x4 x5 x6:A}{xs:ae}{S:iW}:jz 6 a (x0::x1::x2::x3::x4::x5::x6::xs) S=.ok (x0::x1::x2::x3::x4::x5::a::xs) S:=rfl
def Z5 {a x0 x1 x2 x3 x4 x5 x6 x7:A}{xs:ae}{S:iW}:jz 7 a (x0::x1::x2::x3::x4::x5::x6::x7::xs) S=.ok (x0::x1::x2::x3::x4::x5::x6::a::xs) S:=rfl
def gN8 {a x0 x1 x2 x3 x4 x5 x6 x7 x8:A}{xs:ae}{S:iW}:jz 8 a (x0::x1::x2::x3::x4::x5::x6::x7::x8::xs) S=.ok (x0::x1::x2::x3::x4::x5::x6::x7::a::xs) S:=rfl
def jC:type_of% (anI @R.ly<|anI @R.FL<|anI @R.jG<|anI @RS.of_ok<|anI @RS.QI<|anI @jh<|anI @GP<|anI @Z7<|anI @ZN<|anI @eV2<|anI @ZT<|anI @eV4<|anI @ZM<|anI @eV6<|anI @eV7<|anI @eV8<|anI @KZ<|anI @NJ<|anI @Ll<|anI @Qv<|anI @LN<|anI @K5<|anI @Np<|anI @Jv<|anI @NH<|anI @F8<|anI @Hi<|anI @F4<|anI @Ly<|anI @FI<|anI @Gs<|anI @GR<|anI @Fv<|anI @GI<|anI @Rx<|anI @Hf<|anI @Nf<|anI @Gv<|anI @Rw<|anI @Jm<|anI @FT<|anI @Gy<|anI @JT<|anI @FW<|anI @G6<|anI @GU<|anI @Ji<|anI @LH<|anI @GG<|anI @Mu<|anI @Du<|anI @Gk<|anI @Mz<|anI @Fg<|anI @Dd<|anI @Gx<|anI @Ff<|anI @Dm<|anI @JW<|anI @Js<|anI @Qx<|anI @Ry<|anI @K6<|anI @B7<|anI @F3<|anI @DA<|anI @KJ<|anI @G8<|anI @lst?_ref<|anI @RS.NL<|anI @RS.Nm<|anI @RS.Mc<|anI @RS.LW<|anI @RS.Lf<|anI @Fl<|anI @GQ<|anI @zu<|anI @B_<|anI @B6<|anI @GZ<|anI @CC<|anI @M0<|anI @Gn<|anI @ZV<|anI @ZZ<|anI @gN2<|anI @gN3<|anI @ZY<|anI @ZX<|anI @ZQ<|anI @Z5<|anI @gN8<|anI @Nt<|anI @Ms<|anI @LG<|anI @JA<|anI @Kf<|anI @E3<|anI @Ge<|anI @C7<|anI @RS.MR<|anI @RS.MS<|anI @RS.MQ<|anI @NK<|anI @Nb<|anI @Kc<|anI @Qu<|anI @Q_<|anI @QW<|anI @Ri<|anI @Q4<|anI @LR<|anI @J5<|anI @KW<|anI @NS<|anI @ME<|anI @KH<|anI @HA<|anI @HC<|anI @Fp<|anI @Fi<|anI @z7<|anI @Qt<|anI @Q2<|anI @QC<|anI @JJ<|anI @JH<|anI @FZ<|anI @Hh<|anI @Hu<|anI @CS<|anI @B4<|anI @NN<|anI @MY<|anI @Rg<|anI @yp<|anI @NC<|anI @Fj<|anI @jk<|anI @MI<|anI @La<|anI @Cv<|anI @QH<|anI @Qz<|anI @Rh<|anI @RA<|anI @Gg<|anI @FH<|anI @Hq<|anI @C5<|anI @CK<|anI @Dy<|anI @Gm<|anI @QD<|anI @MK<|anI @Km<|anI @KO<|anI @Mw<|anI @Jr<|anI @KS<|anI @LA<|anI @JM<|anI @J3<|anI @JB<|anI @Lr<|anI @Mq<|anI @J0<|anI @MT<|anI @LF<|anI @G7<|anI @Ro<|anI @Rr<|anI @Xf<|anI @sets<|anI @rep0<|anI @reps<|anI @VX<|anI @Xx<|anI @ve<|anI @Gh<|anI @Ml<|anI @NB<|anI @Rp<|anI @Q8<|anI @Kx<|anI @Mn<|anI @zQ<|anI @Cj<|anI @Mi<|anI @F5<|anI @LD<|anI @FF<|anI @Lv<|anI @Q9<|anI @QL<|anI @Ht<|anI @G9<|anI @Jy<|anI @Cr<|anI @Hj<|anI @Nd<|anI @Ko<|anI @NR<|anI @MM<|@J6):=anI @R.ly<|anI @R.FL<|anI @R.jG<|anI @RS.of_ok<|anI @RS.QI<|anI @jh<|anI @GP<|anI @Z7<|anI @ZN<|anI @eV2<|anI @ZT<|anI @eV4<|anI @ZM<|anI @eV6<|anI @eV7<|anI @eV8<|anI @KZ<|anI @NJ<|anI @Ll<|anI @Qv<|anI @LN<|anI @K5<|anI @Np<|anI @Jv<|anI @NH<|anI @F8<|anI @Hi<|anI @F4<|anI @Ly<|anI @FI<|anI @Gs<|anI @GR<|anI @Fv<|anI @GI<|anI @Rx<|anI @Hf<|anI @Nf<|anI @Gv<|anI @Rw<|anI @Jm<|anI @FT<|anI @Gy<|anI @JT<|anI @FW<|anI @G6<|anI @GU<|anI @Ji<|anI @LH<|anI @GG<|anI @Mu<|anI @Du<|anI @Gk<|anI @Mz<|anI @Fg<|anI @Dd<|anI @Gx<|anI @Ff<|anI @Dm<|anI @JW<|anI @Js<|anI @Qx<|anI @Ry<|anI @K6<|anI @B7<|anI @F3<|anI @DA<|anI @KJ<|anI @G8<|anI @lst?_ref<|anI @RS.NL<|anI @RS.Nm<|anI @RS.Mc<|anI @RS.LW<|anI @RS.Lf<|anI @Fl<|anI @GQ<|anI @zu<|anI @B_<|anI @B6<|anI @GZ<|anI @CC<|anI @M0<|anI @Gn<|anI @ZV<|anI @ZZ<|anI @gN2<|anI @gN3<|anI @ZY<|anI @ZX<|anI @ZQ<|anI @Z5<|anI @gN8<|anI @Nt<|anI @Ms<|anI @LG<|anI @JA<|anI @Kf<|anI @E3<|anI @Ge<|anI @C7<|anI @RS.MR<|anI @RS.MS<|anI @RS.MQ<|anI @NK<|anI @Nb<|anI @Kc<|anI @Qu<|anI @Q_<|anI @QW<|anI @Ri<|anI @Q4<|anI @LR<|anI @J5<|anI @KW<|anI @NS<|anI @ME<|anI @KH<|anI @HA<|anI @HC<|anI @Fp<|anI @Fi<|anI @z7<|anI @Qt<|anI @Q2<|anI @QC<|anI @JJ<|anI @JH<|anI @FZ<|anI @Hh<|anI @Hu<|anI @CS<|anI @B4<|anI @NN<|anI @MY<|anI @Rg<|anI @yp<|anI @NC<|anI @Fj<|anI @jk<|anI @MI<|anI @La<|anI @Cv<|anI @QH<|anI @Qz<|anI @Rh<|anI @RA<|anI @Gg<|anI @FH<|anI @Hq<|anI @C5<|anI @CK<|anI @Dy<|anI @Gm<|anI @QD<|anI @MK<|anI @Km<|anI @KO<|anI @Mw<|anI @Jr<|anI @KS<|anI @LA<|anI @JM<|anI @J3<|anI @JB<|anI @Lr<|anI @Mq<|anI @J0<|anI @MT<|anI @LF<|anI @G7<|anI @Ro<|anI @Rr<|anI @Xf<|anI @sets<|anI @rep0<|anI @reps<|anI @VX<|anI @Xx<|anI @ve<|anI @Gh<|anI @Ml<|anI @NB<|anI @Rp<|anI @Q8<|anI @Kx<|anI @Mn<|anI @zQ<|anI @Cj<|anI @Mi<|anI @F5<|anI @LD<|anI @FF<|anI @Lv<|anI @Q9<|anI @QL<|anI @Ht<|anI @G9<|anI @Jy<|anI @Cr<|anI @Hj<|anI @Nd<|anI @Ko<|anI @NR<|anI @MM<|@J6
def bools:(∀b:Bool,cond false b b=b)/\(∀(α:Type) (x y:α),cond false x y=y)/\(∀(α:Type) (x y:α),cond true x y=x):=⟨λ_=>rfl,λ_ _ _=>rfl,λ_ _ _=>rfl⟩
def kQ:(∀(x:Str) (xs:ar),(x::xs).length=xs.length+1)/\([]:ar).length=0/\(∀(x:A) (xs:ae),(x::xs).length=xs.length+1)/\([]:ae).length=0:=⟨λ_ _=>rfl,rfl,λ_ _=>rfl,rfl⟩
section
variable {τ:ae}{S:iW}
def FY {f:ae->iW->R A}{d:p6}:Y9 f d τ S=(d τ S).bind f:=rfl
abbrev ZE (c:Str):Unit->iW->RS:=λ_ S1=>.ex c S1
def Kr {c:Str}{u:Unit}:ZE c u S=.ex c S:=rfl
def zY {c:Str}{ps:List<|Str ⊕ Ex}:UQ c ps τ S=RS.of (Pr ps τ S) (ZE c):=rfl
def FD:Pr [] τ S=.ok Unit.unit S:=rfl
def G_ {x:Str}{ps:List<|Str ⊕ Ex}:Pr (.inl x::ps) τ S=Pr ps τ S:=rfl
abbrev kFs (ps:List<|Str ⊕ Ex)(τ:ae):A->iW->R Unit:=λv S1=>match v with
 | .int i=>gd (i.natAbs.log2<64) (Pr ps τ S1)
 | _=>.no
def GK {e:Ex}{ps:List<|Str ⊕ Ex}:Pr (.inr e::ps) τ S=(e τ S).bind (kFs ps τ):=rfl
abbrev RS.try (i n:Nat)(cs:ar)(d:Sm):RS->RS
 | .ex x S1=>if x∈cs then QE i (d ((List.replicate n .unb).set i<|.exn x) S1)else .no
 | r=>r
def G0 {i n:Nat}{cs:ar}{c d:Sm}:WH i n cs c d τ S=RS.try i n cs d (c τ S):=by
 unfold WH RS.try;cases c τ S<;>rfl
def Nk {i n:Nat}{cs:ar}{d:Sm}:RS.try i n cs d (.nx τ S)=.nx τ S:=rfl
def Jo {i n:Nat}{cs:ar}{d:Sm}{a:A}:RS.try i n cs d (.rt a S)=.rt a S:=rfl
def M6 {i n:Nat}{x:Str}{cs:ar}{d:Sm}:RS.try i n (x::cs) d (.ex x S)=QE i (d ((List.replicate n .unb).set i<|.exn x) S):=aP<|.head _
def Ke {i:Nat}{a:A}:QE i (.rt a S)=.rt a S:=rfl
def Jj {i:Nat}:QE i (.nx τ S)=.nx (τ.set i .unb) S:=rfl
abbrev WA (f:Str->bi):A->iW->R A:=λv S1=>match v with
 | .exn x=>opt (f x) λb=>.ok (.bl b) S1
 | _=>.no
def G3 {f:Str->bi}{c:Ex}:Zw f c τ S=(c τ S).bind (WA f):=rfl
def Lb {x:Str}{b:Bool}{tb:List<|Str×Bool}:WA (tbX ((x,b)::tb)) (.exn x) S=.ok (.bl b) S:=by
 show opt (List.lookup x ((x,b)::tb)) _=_;rw[dH,cI];rfl
abbrev R.L8 {α β:Type}(r:R α)(f:α->iW->R β):R β:=match r with
 | .ok a S=>f a S
 | _=>.no
def Dz {α β:Type}{a:α}{f:α->iW->R β}:R.L8 (.ok a S) f=f a S:=rfl
def GX {f:ae->iW->R A}{d:p6}:WZ f d τ S=R.L8 (d τ S) f:=by unfold WZ R.L8;cases d τ S<;>rfl
abbrev RS.YD {α:Type}(r:R α)(f:α->iW->RS):RS:=match r with
 | .ok a S=>f a S
 | _=>.no
def MP {α:Type}{a:α}{f:α->iW->RS}:RS.YD (.ok a S) f=f a S:=rfl
def EV {t:Te}{c d:Sm}:Wb t c d τ S=RS.YD (t τ S) (Yc c d τ):=by
 unfold Wb RS.YD
 cases t τ S with
 | ok b S1=>cases b<;>rfl
 | ex _ _=>rfl
 | no=>rfl
abbrev RS.Jk (i:Nat)(cs:ar)(d:Sm)(τ:ae):RS->RS
 | .ex x S1=>if x∈cs then QE i (d (τ.set i<|.exn x) S1)else .no
 | r=>r
def CQ {i:Nat}{cs:ar}{c d:Sm}:Qy i cs c d τ S=RS.Jk i cs d τ (c τ S):=by
 unfold Qy RS.Jk;cases c τ S<;>rfl
def F2 {i:Nat}{cs:ar}{d:Sm}{τ':ae}:RS.Jk i cs d τ (.nx τ' S)=.nx τ' S:=rfl
def EW {i:Nat}{cs:ar}{d:Sm}{a:A}:RS.Jk i cs d τ (.rt a S)=.rt a S:=rfl
def F1 {i:Nat}{x:Str}{cs:ar}{d:Sm}:RS.Jk i (x::cs) d τ (.ex x S)=QE i (d (τ.set i<|.exn x) S):=aP<|.head _
def Cp:A.Jg []=some []:=rfl
def zB {b:Bool}{xs:ae}:A.Jg (.bl b::xs)=(A.Jg xs).map (b::·):=rfl
end
def kD:type_of% (anI @FY<|anI @zY<|anI @Kr<|anI @FD<|anI @G_<|anI @GK<|anI @G0<|anI @Nk<|anI @Jo<|anI @M6<|anI @Ke<|anI @Jj<|anI @G3<|anI @Lb<|anI @Cp<|anI @zB<|anI @Dz<|anI @GX<|anI @MP<|anI @EV<|anI @CQ<|anI @F2<|anI @EW<|anI @F1<|trivial):=anI @FY<|anI @zY<|anI @Kr<|anI @FD<|anI @G_<|anI @GK<|anI @G0<|anI @Nk<|anI @Jo<|anI @M6<|anI @Ke<|anI @Jj<|anI @G3<|anI @Lb<|anI @Cp<|anI @zB<|anI @Dz<|anI @GX<|anI @MP<|anI @EV<|anI @CQ<|anI @F2<|anI @EW<|anI @F1<|trivial
end Am
namespace Am
open PySem PySem.Spec PyProof.Rows L2
abbrev Df (K:au)(x:Str)(st:aF):Prop:=∃(f:ak) (fd:FuncData),PySem.W.nsIn K mainGlobals x=some (some<|.ref f)/\Fun K x x st f fd
inductive En (P:aj) (w:ah) (K:au) (mg:Str->bd) (base:aq):Prop
 | mk (h:aq) (X:K.In h) (G:h.Ns mainGlobals mg)
section
variable {P:aj}{w:ah}{K:au}{mg:Str->bd}{base:aq}{x:Str}{st:aF}{ps:ar}{k:Nat}{F:ae->iW->R A}
def En.at(E:En P w K mg base){f:ak}(h:PySem.W.nsIn K mainGlobals x=some (some<|.ref f)):mg x=some (.ref f):=by
 obtain⟨_,X,G⟩:=E;exact iC X G h
def Df.of{f:ak}{kV pm ct:af}(a:PySem.W.nsIn K mainGlobals x=some (some<|.ref f))(l:K.lookup f=some ⟨oc,od,.func<|PySem.W.fnOf x x (t9 st) (qe st) (jf st) .none kV doc pm an cdv ct,osl⟩)(c:PySem.W.codeIn K cdv x=true)(k:PySem.W.keepIn K (.ref f)=true):Df K x st:=⟨f,_,a,Vy l c k⟩
meta abbrev Bi (x:Str)(st:aF)(ps:ar):Prop:=∀us:ba,us.length=ps.length->∀(kV d g:af) (j:Option ak) (f ct:af),bindArgs (PySem.W.fnOf x x (t9 st) (qe st) (jf st) .none kV d g j f ct) ⟨us,[]⟩=pure (ps.zip us)
def Df.get(d:Df K x st)(E:En P w K mg base)(b:Bi x st ps):∃f fd,Fun K x x st f fd/\mg x=some (.ref f)/\PySem.W.keepIn K (.ref f)=true/\Binds K fd ps []:=by
 obtain⟨f,fd,a,F⟩:=d;exact⟨f,fd,F,E.at a,F.kp,F.binds λkV g k m j ct us p=>b us p kV g k m j ct⟩
def Df.kA(d:Df K x st)(E:En P w K mg base)(h:∀{f fd},Fun K x x st f fd->FnOk P w K mg base o9 k f fd ps (p8 K ps.length F))(b:Bi x st ps):mO P w K mg base k x ps F:=by
 obtain⟨f,fd,a,c,e,g⟩:=d.get E b;exact⟨f,fd,h a,c,e,g⟩
def Df.rA(d:Df K x st)(E:En P w K mg base)(h:∀{f fd},Fun K x x st f fd->mg x=some (.ref f)->PySem.W.keepIn K (.ref f)=true->Binds K fd ps []->FnOk P w K mg base o9 k f fd ps (p8 K ps.length F))(b:Bi x st ps):mO P w K mg base k x ps F:=by
 obtain⟨f,fd,a,c,e,g⟩:=d.get E b;exact⟨f,fd,h a c e g,c,e,g⟩
end
section
variable {X:Cx}{pos p:Pos}{e1 e2 e3 e4:aE}{x p1 p2 p3 p4:Str}{k K0:Nat}{F:ae->iW->R A}{c1 c2 c3 c4:Ex}
def wW(G:mO X.prog X.w X.K X.mg X.base k x [p1] F)(hr:Room K0 X.A)(h1:AE X e1 c1)(hk:k<=K0<|>δ)(hg:Gl X x<|>ε)(hdb:(x == ("__debug__" : Str))=false<|>δ)(s1:starEach [e1] X.env=(false,eval e1 X.env)::starEach [] X.env<|>ε)(hp:((backTo pos<|starEach [] X.env).any (·.1)=false)<|>ε):AE X (.Call (.Name x p) [e1] [] pos) (eFn F<|iS c1 ja):=oQ G (hr.mono hk) (iV h1 jd s1) (jm kG) hg hdb s1 hp
def zc(G:mO X.prog X.w X.K X.mg X.base k x [p1,p2] F)(hr:Room K0 X.A)(h1:AE X e1 c1)(h2:AE X e2 c2)(hk:k<=K0<|>δ)(hg:Gl X x<|>ε)(hdb:(x == ("__debug__" : Str))=false<|>δ)(s1:starEach [e1,e2] X.env=(false,eval e1 X.env)::starEach [e2] X.env<|>ε)(s2:starEach [e2] X.env=(false,eval e2 X.env)::starEach [] X.env<|>ε)(hp:((backTo pos<|starEach [e2] X.env).any (·.1)=false)<|>ε):AE X (.Call (.Name x p) [e1,e2] [] pos) (eFn F<|iS c1<|iS c2 ja):=oQ G (hr.mono hk) (iV h1 (iV h2 jd s2) s1) (jm<|jm kG) hg hdb s1 hp
def Xe(G:mO X.prog X.w X.K X.mg X.base k x [p1,p2,p3] F)(hr:Room K0 X.A)(h1:AE X e1 c1)(h2:AE X e2 c2)(h3:AE X e3 c3)(hk:k<=K0<|>δ)(hg:Gl X x<|>ε)(hdb:(x == ("__debug__" : Str))=false<|>δ)(s1:starEach [e1,e2,e3] X.env=(false,eval e1 X.env)::starEach [e2,e3] X.env<|>ε)(s2:starEach [e2,e3] X.env=(false,eval e2 X.env)::starEach [e3] X.env<|>ε)(s3:starEach [e3] X.env=(false,eval e3 X.env)::starEach [] X.env<|>ε)(hp:((backTo pos<|starEach [e2,e3] X.env).any (·.1)=false)<|>ε):AE X (.Call (.Name x p) [e1,e2,e3] [] pos) (eFn F<|iS c1<|iS c2<|iS c3 ja):=oQ G (hr.mono hk) (iV h1 (iV h2 (iV h3 jd s3) s2) s1) (jm<|jm<|jm kG) hg hdb s1 hp
def fn4(G:mO X.prog X.w X.K X.mg X.base k x [p1,p2,p3,p4] F)(hr:Room K0 X.A)(h1:AE X e1 c1)(h2:AE X e2 c2)(h3:AE X e3 c3)(h4:AE X e4 c4)(hk:k<=K0<|>δ)(hg:Gl X x<|>ε)(hdb:(x == ("__debug__" : Str))=false<|>δ)(s1:starEach [e1,e2,e3,e4] X.env=(false,eval e1 X.env)::starEach [e2,e3,e4] X.env<|>ε)(s2:starEach [e2,e3,e4] X.env=(false,eval e2 X.env)::starEach [e3,e4] X.env<|>ε)(s3:starEach [e3,e4] X.env=(false,eval e3 X.env)::starEach [e4] X.env<|>ε)(s4:starEach [e4] X.env=(false,eval e4 X.env)::starEach [] X.env<|>ε)(hp:((backTo pos<|starEach [e2,e3,e4] X.env).any (·.1)=false)<|>ε):AE X (.Call (.Name x p) [e1,e2,e3,e4] [] pos) (eFn F<|iS c1<|iS c2<|iS c3<|iS c4 ja):=oQ G (hr.mono hk) (iV h1 (iV h2 (iV h3 (iV h4 jd s4) s3) s2) s1) (jm<|jm<|jm<|jm kG) hg hdb s1 hp
def sD{N P:ar}{sc:Scope}(a:sc.kind=.function)(b:sc.isCoroutine=false)(c:sc.isGenerator=false)(h:N.Nodup/\N.take P.length=P/\(∀x∈P,sc.names.lookup x=some .local\/sc.names.lookup x=some .cell)/\∀y∈sc.names,y.2≠.free):FnScope N P sc:=⟨a,b,c,h.1,h.2.1,h.2.2.1,h.2.2.2⟩
end
abbrev kF (S:iW)(n:Nat):Option (List<|Int×A):=match S[n]? with
 | some (.oS xs)=>some xs
 | _=>none
def oY{n:Nat}(h:kF S n=some xs):S[n]?=some (.oS xs):=by
 unfold kF at h;split at h
 ·rename_i e;cases h;exact e
 ·cases h
def Az{S:iW}{n:Nat}(h:S[n]?=some (.oS xs)):kF S n=some xs:=by
 unfold kF;rw[h]
abbrev lQ (kvs:List<|Int×A)(k:Int):Option A:=(kvs.find? λkv=>decide<|kv.1=k).map (·.2)
abbrev vW (kvs:List<|Int×A)(k:Int)(v:A):List (Int×A):=
 if (lQ kvs k).isSome=true then kvs.map (λkv=>if kv.1=k then(kv.1,v)else kv)else kvs++[(k,v)]
section
variable {K:au}{ρ:bb}{H:Hp}
def HD{p:Int×A}{r:List<|Int×A}{k:Int}(e:p.1=k):lQ (p::r) k=some p.2:=by simp[lQ,bT,e]
def Iz{p:Int×A}{r:List<|Int×A}{k:Int}(e:¬p.1=k):lQ (p::r) k=lQ r k:=by simp[lQ,bT,e]
def Ww{a b:Int}(e:(Sum.inl a:Key)=Sum.inl b):a=b:=by injection e
theorem DI.look:∀{kvs:List<|Int×A}{ks:List<|Key×V}(k:Int),DI K ρ H kvs ks->(lQ kvs k).isSome=(o_ ks (Sum.inl k:Key)).isSome/\∀x,lQ kvs k=some x->∃v,o_ ks (Sum.inl k:Key)=some v/\AV K ρ H x v
 | [],[],k,_=>⟨rfl,λx h=>nomatch h⟩
 | p::r,q::r',k,⟨⟨e,a⟩,t⟩=>by
  by_cases c:p.1=k
  ·have d:q.1=(Sum.inl k:Key):=by rw[e,c]
   rw[HD c,tO d];exact⟨rfl,λx h=>by cases h;exact⟨_,rfl,a⟩⟩
  ·have d:¬q.1=(Sum.inl k:Key):=λz=>c<|Ww<|e.symm.trans z;rw[Iz c,sC d];exact DI.look k t
theorem DI.repl{x:A}{v:V}(h:AV K ρ H x v)(k:Int):∀{kvs:List<|Int×A}{ks:List<|Key×V},DI K ρ H kvs ks->DI K ρ H (kvs.map λkv=>if kv.1=k then(kv.1,x)else kv) (ks.map λkv=>if kv.1=(Sum.inl k:Key)then(kv.1,v)else kv)
 | [],[],_=>trivial
 | p::r,q::r',⟨⟨e,a⟩,t⟩=>by
  refine⟨?_,DI.repl h k t⟩;dsimp only;by_cases c:p.1=k
  ·rw[aP c,aP<|by rw[e,c]];exact⟨e,h⟩
  ·rw[aM c,aM λz=>c<|Ww<|e.symm.trans z];exact⟨e,a⟩
theorem DI.snoc{x:A}{v:V}(h:AV K ρ H x v)(k:Int):∀{kvs:List<|Int×A}{ks:List<|Key×V},DI K ρ H kvs ks->DI K ρ H (kvs++[(k,x)]) (ks++[(Sum.inl k,v)])
 | [],[],_=>⟨⟨rfl,h⟩,trivial⟩
 | p::r,q::r',⟨a,t⟩=>⟨a,DI.snoc h k t⟩
def DI.put{x:A}{v:V}(h:AV K ρ H x v)(k:Int){ks:List<|Key×V}(d:DI K ρ H kvs ks):DI K ρ H (vW kvs k x) (putK ks (Sum.inl k:Key) v):=by
 unfold vW putK;rw[vB,<- (d.look k).1];by_cases c:(lQ kvs k).isSome=true
 ·rw[aP c,aP c];exact DI.repl h k d
 ·rw[aM c,aM c];exact DI.snoc h k d
def DI.length:∀{kvs:List<|Int×A}{ks:List<|Key×V},DI K ρ H kvs ks->kvs.length=ks.length
 | [],[],_=>rfl
 | _::_,_::_,⟨_,t⟩=>cW (·+1) t.length
theorem DI.keys:∀{kvs:List<|Int×A}{ks:List<|Key×V},DI K ρ H kvs ks->ks.map (·.1)=kvs.map λkv=>(Sum.inl kv.1:Key)
 | [],[],_=>rfl
 | _::_,_::_,⟨⟨e,_⟩,t⟩=>by rw[bE,bE,e,DI.keys t]
def Rel.oS{n:Nat}{a:ak}(R:Rel K ρ H S)(ha:ρ[n]?=some a)(hS:S[n]?=some (.oS xs)):∃vs,H a=some (.dK vs)/\DI K ρ H xs vs:=R.at n a _ ha hS
def Rel.Xl{S:iW}{p:ak}(R:Rel K ρ H S)(hp:H p=none)(r:DI K ρ H xs vs):Ext ρ (ρ++[p]) H (upd H p<|.dK vs)/\Rel K (ρ++[p]) (upd H p<|.dK vs) (S++[.oS xs])/\(ρ++[p])[S.length]?=some p:=by
 have ex:Ext ρ (ρ++[p]) H (upd H p<|.dK vs):=⟨⟨dh _ _,λa u _ h=>by rw[i_<|jo h hp];exact h⟩,λa u h _=>by rw[i_<|jo h hp];exact h,λa h=>by
  rcases bI.mp h with z|z
  ·exact .inl z
  ·have e:a=p:=by simpa using z
   rw[e];exact .inr hp⟩
 have j:p∉ρ:=R.Co hp;have d:(ρ++[p])[S.length]?=some p:=by rw[<- R.len];simp
 refine⟨ex,⟨by simp[R.len],?_,?_⟩,d⟩
 ·rw[cO];f_are;have:b=p:=by simpa using hb
  exact j<|by rw[<- this,<- e];exact ha
 ·intro n a o h1 h2;by_cases hn:n<S.length
  ·rw[br<|by rw[R.len];exact hn]at h1;rw[br hn]at h2;have na:a≠p:=λz=>j (by rw[<- z];exact bB h1);have:=R.at n a o h1 h2
   cases o with
   | lst ys=>obtain⟨f,e,q⟩:=this;exact⟨f,by rw[i_ na];exact e,q.ext ex⟩
   | dct _|oS _|dks _|rZ _=>obtain⟨f,e,q⟩:=this;exact⟨f,by rw[i_ na];exact e,q.ext ex⟩
   | dcf _=>obtain⟨g,f,e,q⟩:=this;exact⟨g,f,by rw[i_ na];exact e,q.ext ex⟩
   | ins _ _=>obtain⟨g,k,e⟩:=this;exact⟨g,k,by rw[i_ na];exact e⟩
  ·have e:n=S.length:=by
    have:=(aJ.mp h2).1;simp at this
    lia
   subst e;rw[d]at h1
   cases h1
   simp at h2;subst h2;exact⟨vs,jF,r.ext ex⟩
def Rel.vW{S:iW}{n:Nat}{a:ak}(R:Rel K ρ H S)(ha:ρ[n]?=some a)(hS:S[n]?=some (.oS xs))(r:DI K ρ H ys ws):Ext ρ ρ H (upd H a<|.dK ws)/\Rel K ρ (upd H a<|.dK ws) (S.set n<|.oS ys):=by
 obtain⟨p,e,_⟩:=R.at n a _ ha hS;have ex:Ext ρ ρ H (upd H a<|.dK ws):=⟨⟨dg _,λb u i h=>by
  have:b≠a:=by
   intro z;subst z;rw[e]at h;cases h;exact i
  rw[i_ this];exact h⟩,λb u h n=>by
  rw[i_ λz=>n<|by rw[z];exact bB ha];exact h,λ_ h=>.inl h⟩
 refine⟨ex,by rw[bW];exact R.len,R.nd,λm b o h1 h2=>?_⟩;by_cases g:m=n
 ·subst g;rw[ha]at h1;cases h1;rw[bz (aJ.mp hS).1]at h2
  cases h2
  exact⟨ws,jF,r.ext ex⟩
 ·rw[bK<|cT g]at h2;have nb:b≠a:=λz=>by
   subst z;obtain⟨B,e1⟩:=aJ.mp ha;obtain⟨t,e2⟩:=aJ.mp h1;exact g<|(cH R.nd).mp<|e2.trans e1.symm
  have:=R.at m b o h1 h2
  cases o with
  | lst ys=>obtain⟨d,f,q⟩:=this;exact⟨d,by rw[i_ nb];exact f,q.ext ex⟩
  | dct _|oS _|dks _|rZ _=>obtain⟨d,f,q⟩:=this;exact⟨d,by rw[i_ nb];exact f,q.ext ex⟩
  | dcf _=>obtain⟨j,d,f,q⟩:=this;exact⟨j,d,by rw[i_ nb];exact f,q.ext ex⟩
  | ins _ _=>obtain⟨j,k,f⟩:=this;exact⟨j,k,by rw[i_ nb];exact f⟩
end
section
variable {X:Cx}{pos:Pos}{a b:aE}
abbrev xO (x y:A)(S:iW):R A:=match x,y with
 | .ref n,.int k=>opt (kF S n) λkvs=>opt (lQ kvs k) λv=>.ok v S
 | _,_=>.no
def Ii{x:A}{P:A->iW->Prop}{E:Str->iW->Prop}(h:(xO x y S).post P E):∃n k kvs v,x=.ref n/\y=.int k/\kF S n=some kvs/\lQ kvs k=some v/\P v S:=by
 unfold xO at h;split at h
 ·obtain⟨kvs,h1,h⟩:=iY h;obtain⟨v,h2,h⟩:=iY h;exact⟨_,_,kvs,v,rfl,rfl,h1,h2,h⟩
 ·exact h.elim
def V4(hu:X.A.units+64<cLine):OX X (r2 X xO):=λj f pins s σ H x y v u Q I rx ry ⟨ρ,S,a,b,R,va,vb,h⟩ hs=>by
 obtain⟨n,k,kvs,z,ha,hb,hn,m,hP⟩:=Ii h;subst ha hb
 cases vb
 cases va with
 | @ref p _ q=>
  obtain⟨ks,e,d⟩:=R.oS q<|oY hn;obtain⟨w,hw,t⟩:=(d.look k).2 z m;have g:rY H p (kV<|Sum.inl k) (o_ ks<|Sum.inl k):=rY.k e;rw[hw]at g;exact BU () j f pins s σ H _ _ v u Q I rx ry ⟨p,w,rfl,g,hP _ _ _ .refl R t⟩ hs
def Nq(hu:X.A.units+64<cLine){ca cb:Ex}(ha:AE X a ca)(hb:AE X b cb)(hs:vI b<|>θ):AE X (.Subscript a b pos) (jc xO ca cb):=PE.imp (F0 (V4 hu) ha hb hs) λσ H Q h=>rS h
abbrev zl (o i v:A)(S:iW):R Unit:=match o,i with
 | .ref n,.int k=>opt (kF S n) λkvs=>gd (kvs.length<sizeLine) (.ok Unit.unit<|S.set n<|.oS<|vW kvs k v)
 | _,_=>.no
def EA{x v:A}{S:iW}{P:Unit->iW->Prop}{E:Str->iW->Prop}(h:(zl x y v S).post P E):∃n k kvs,x=.ref n/\y=.int k/\kF S n=some kvs/\kvs.length<sizeLine/\P Unit.unit (S.set n<|.oS<|vW kvs k v):=by
 unfold zl at h;split at h
 ·obtain⟨kvs,h1,h⟩:=iY h;obtain⟨h2,h⟩:=jq h;exact⟨_,_,kvs,rfl,rfl,h1,h2,h⟩
 ·exact h.elim
abbrev Ys (X:Cx):EO:=λo i v H Q=>∃ρ S ao f d,Rel X.K ρ H S/\AV X.K ρ H ao o/\AV X.K ρ H f i/\AV X.K ρ H d v/\(zl ao f d S).post (λ_ g=>∀ρ' H',Ext ρ ρ' H H'->Rel X.K ρ' H' g->Q H') (XE X ρ H)
def Of(hu:X.A.units+64<cLine):CI X (Ys X):=λpins s σ H o i v B iv u Q I j m q h9=>by
 obtain⟨ρ,S,ao,D,C,R,h1,h2,h3,h⟩:=h9;obtain⟨n,k,kvs,ha,hb,hn,t,hP⟩:=EA h;subst ha hb
 cases h2
 cases h1 with
 | @ref p _ f=>
  obtain⟨ks,e,d⟩:=R.oS f<|oY hn;obtain⟨ex,g⟩:=R.vW f (oY hn)<|d.put h3 k;exact set_dict (by omega) pins s σ H _ _ v B iv u Q I j m q ⟨p,_,rfl,wR.k (k:=Sum.inl k) e<|by rw[<- d.length];exact t,hP _ _ ex g⟩
abbrev IJ (co ci:Ex):Tg:=λa τ S=>(co τ S).bind λo S1=>(ci τ S1).bind λi S2=>(zl o i a S2).bind λ_ S3=>.ok τ S3
def Fx(hu:X.A.units+64<cLine){co ci:Ex}(ho:AE X o co)(hi:AE X i ci)
  (ha:(∀v,assign (.Subscript o i pos) X.env v=(do
   let ov <- holding [v] (eval o X.env)
   let iv <- holding [v,ov] (eval i X.env)
   standAt pos
   holding [v,ov,iv] (setItem ov iv v)
   release [v,ov,iv] []))<|>ζ):AG X (.Subscript o i pos) (IJ co ci):=PG.imp (z9 ho hi (Of hu) ha) λv σ H Q h9=>by
 obtain⟨ρ,S,τ,a,R,r,va,h⟩:=h9;w_up;gn_on;ksr_p
abbrev DX:Ex:=λ_ S=>.ok (.ref S.length)<|S++[.oS []]
def Ny:AE X (.Dict [] [] pos) DX:=PE.imp Ng λσ H Q ⟨ρ,S,τ,R,r,h⟩ p f=>by
 obtain⟨ex,g,d⟩:=R.Xl (xs:=[]) (vs:=[]) f trivial;exact h _ _ _ ex g<|.ref d
abbrev dk? (a:A)(S:iW):Option Unit:=match a with
 | .ref n=>(kF S n).map λ_=>Unit.unit
 | _=>none
abbrev EJ (f:A->ae->iW->R A)(co:Ex)(d:p6):Ex:=λτ S=>(co τ S).bind λx S1=>opt (dk? x S1) λ_=>(d τ S1).bind λas S2=>f x as S2
def dk?_ty{K:au}{H:Hp}{x:A}{v:V}(R:Rel K ρ H S)(a:AV K ρ H x v)(e:dk? x S=some u):VT K "dict" v H:=by
 cases a with
 | @ref p n h=>
  obtain⟨xs,f,_⟩:=aW.mp e;obtain⟨d,h1,_⟩:=R.oS h<|oY f;exact .inr<|.inr<|.inl ⟨rfl,.inl ⟨d,h1⟩⟩
 | _=>cases e
def Ep{e:aE}{id:String}{apos cpos:Pos}{f:A->ae->iW->R A}{co:Ex}{d:p6}(slot:Slot "dict" name id)(hty:typeOf (.builtin id)=pure (.type "method_descriptor"))(hm:EF X id<|rM X f)(ho:AE X o co)(ha:AL X (e::es) d)
  (hbase:attributeBase o name X.env (eval o X.env)=eval o X.env<|>ε)
  (hfew:(((backTo cpos<|starEach (e::es) X.env).all (λx=>!x.1) && (backToKw cpos<|keywordEach [] X.env).all (λx=>x.1.isSome)
   && decide ((e::es).length+([]:List Keyword).length+(if ([]:List Keyword).isEmpty then 0 else 1)<30))=true)<|>ε)
  (hline:(apos.endLine == cpos.line)=true<|>ε) (hs:starEach (e::es) X.env=(false,eval e X.env)::starEach es X.env<|>ε) (hplain:((backTo cpos<|starEach es X.env).any (·.1)=false)<|>ε) :
  AE X (.Call (.Attribute o name apos) (e::es) [] cpos) (EJ f co d):=PE.imp (JD fZ slot hty hm ho ha hbase hfew hline hs hplain) λσ H Q h9=>by
 x_go;kcf_m;obtain⟨xs,g,h1⟩:=iY h1;refine⟨dk?_ty R1 v1 g,ρ1,S1,τ,R1,r.ext e1,iX (jb h1) e1 λas S2 h2 ρ2 H2 j e2 R2 v2=>?_⟩;kpc_g
abbrev vQ (o:A)(as:ae)(S:iW):R A:=match o,as with
 | .ref n,[.int k,y]=>opt (kF S n) λkvs=>.ok ((lQ kvs k).getD y) S
 | _,_=>.no
def D7{x:A}{P:A->iW->Prop}{E:Str->iW->Prop}(h:(vQ x as S).post P E):∃n k y kvs,x=.ref n/\as=[.int k,y]/\kF S n=some kvs/\P ((lQ kvs k).getD y) S:=by
 unfold vQ at h;split at h
 ·obtain⟨kvs,h1,h⟩:=iY h;exact⟨_,_,_,kvs,rfl,rfl,h1,h⟩
 ·exact h.elim
def Eh(hu:X.A.units+64<cLine):EF X "dict.get" (rM X vQ):=λpins s σ H x J v us Q I rx F h9=>by
 obtain⟨ρ,S,o,as,R,D,va,h⟩:=h9;obtain⟨n,k,y,kvs,t,has,hn,hP⟩:=D7 h;subst t has;obtain⟨L,N,rfl,m,hy⟩:=LB va
 cases m
 cases D with
 | @ref p _ q=>
  obtain⟨ks,h1,B⟩:=R.oS q (oY hn)
  cases rx
  obtain⟨K,M,rfl,r1,r2⟩:=vals2 F;refine SM (by omega) I (rY.k (k:=Sum.inl k) h1) r1 r2 λO s' j f=>⟨_,H,j,f,hP _ _ _ .refl R ?_⟩;obtain⟨d,G⟩:=B.look k
  cases e1:lQ kvs k with
  | none=>
   rw[e1]at d
   cases e2:o_ ks (Sum.inl k:Key)with
   | none=>exact hy
   | some _=>rw[e2]at d;cases d
  | some g=>
   obtain⟨v1,e2,C⟩:=G g e1;rw[e2];exact C
end
end Am
namespace L2
open PySem PySem.Spec PyProof.Rows
section
variable {P:aj}{w:ah}{A:aA}{E:af->aC->Prop}{s:aC}{it d:ak}{i ep:Nat}{es:Array DictEntry}{o:Obj}
def LU{Q:bd->aC->Prop}(hi:s.heap.IsKeyIter it d i es.size ep)(ho:s.heap.get? d=some o)(hd:o.data=.dict es ep)(lt:i<es.size)
  (q:∀h',h'.IsKeyIter it d (i+1) es.size ep->Heap.SameBut it s.heap h'->Q (some es[i].key) { s with heap:=h' }):wpAny (model P w) A (pyNext<|.ref it) Q E s:=by
 have ty:=hi.typeIs;obtain⟨B,g,k,f⟩:=id hi;have own:Builtin.Dict_items.ownsTuple "dict_keyiterator" = false:=by decide
 have p:¬((Value.ref d == Value.none)=true):=bL;have t:¬((i:Int)<0):=by omega
 unfold pyNext;refine aI<|wpAny_attempt<|wpAny_callSpecial?_slot (name:=Str.ofString "__next__") ty cE<|dI cE ty fJ ?_<|fB _;refine aI (aN<|aI<|aI ?_)
 first
  | refine aI (dj ty<|aN<|aI<|ie g f ?_)
  | refine aI<|d7 ty<|aN<|aI<|ie g f ?_
 dsimp[own,cN,bG];show wpAny (model P w) _ (if (Value.ref d == Value.none)=true then _ else _) _ _ s;rw[aM p];refine aI<|aN<|aI<|iy ho hd ?_;rw[aM<|show ¬_ by simp];refine aI<|aN<|aI<|wpAny_dictEpoch ho hd ?_;rw[aM<|show ¬_ by simp];refine aN ?_;dsimp[t,cN,eZ,fy lt];refine aI ?_
 first
  | refine aI (dj ty<|aN<|aI<|gz ty ?_)
  | refine aI<|d7 ty<|aN<|aI<|gz ty ?_
 show wpAny (model P w) _ (setField (.ref it) 1 (rawInt<|(i:Int)+1) >>= _) _ _ s;refine aI (wpAny_setField g f (show _ by simp) ?_);have j:(s.heap.update it<|Obj.mapFields λfs=>fs.setIfInBounds 1<|rawInt<|(i:Int)+1).IsKeyIter it d (i+1) es.size ep:=
  ⟨_,Heap.get?_update_self _ g<|Obj.isFreed_of_fields<|Obj.data_mapFields f _,(Obj.cls_mapFields ..).trans k,by
   rw[Obj.data_mapFields f];simp[rawInt]⟩
 have m:Shared.TypeIs { s with heap:=s.heap.update it<|Obj.mapFields λfs=>fs.setIfInBounds 1<|rawInt<|(i:Int)+1} (.ref it) "dict_keyiterator" := Heap.IsKeyIter.typeIs (s:={ s with heap:=_ }) j;refine aI (cV<|aI<|gz m ?_)
 skip
 exact aN<|aN ⟨_,rfl,aN<|q _ j<|Heap.SameBut.update ..⟩
def Gp{Q:bd->aC->Prop}(hh:A.handled=none)(hi:s.heap.IsKeyIter it d i es.size ep)(ho:s.heap.get? d=some o)(hd:o.data=.dict es ep)(ge:es.size<=i)
  (q:∀h',Heap.ExtBut it s.heap h'->Q none { s with heap:=h' }):wpAny (model P w) A (pyNext<|.ref it) Q E s:=by
 have ty:=hi.typeIs;obtain⟨t,f,k,g⟩:=id hi;have own:Builtin.Dict_items.ownsTuple "dict_keyiterator" = false:=by decide
 have j:¬((Value.ref d == Value.none)=true):=bL;have p:¬((i:Int)<0):=by omega
 unfold pyNext;refine aI<|wpAny_attempt<|wpAny_callSpecial?_slot (name:=Str.ofString "__next__") ty cE<|dI cE ty fJ ?_<|fB _;refine aI (aN<|aI<|aI ?_)
 first
  | refine aI (dj ty<|aN<|aI<|ie f g ?_)
  | refine aI<|d7 ty<|aN<|aI<|ie f g ?_
 dsimp[own,cN,bG];show wpAny (model P w) _ (if (Value.ref d == Value.none)=true then _ else _) _ _ s;rw[aM j];refine aI<|aN<|aI<|iy ho hd ?_;rw[aM<|show ¬_ by simp];refine aI<|aN<|aI<|wpAny_dictEpoch ho hd ?_;rw[aM<|show ¬_ by simp];refine aN ?_;dsimp[p,cN,eZ,eF ge];refine aI ?_
 first
  | refine aI (dj ty<|aN ?_)
  | refine aI<|d7 ty<|aN ?_
 show wpAny (model P w) _ (setField (.ref it) 0 .none >>= _) _ _ s;refine aI (wpAny_setField f g (show _ by simp) ?_)
 skip
 refine aI ?_;dsimp[newExc,newTuple];refine aI (dm (aI (m:=firstArgMember _ _)<|wpAny_of_eq (a:=Value.none) (by first|rfl|(dsimp[firstArgMember];rfl))<|dm ?_<|by size_fits)<|by size_fits);dsimp[raiseNew];have hn:A.in1.handled=none:=hh;refine aI<|wpAny_handled<|?_;rw[hn];refine aI<|aN<|wpAny_throw<|?_;refine aI<|gC (b:=true) (T := "StopIteration") ⟨_,bD _ rfl,rfl⟩ isSubtype_stop<|aN<|q _<|((Heap.SameBut.update ..).extBut.push _).push _
def yN{Q:af->aC->Prop}(ty:s.TypeIs (.ref d) "dict")(hs:(d == sysModules)=false)(ho:s.heap.get? d=some o)(hd:o.data=.dict es ep)
  (q:Q (.ref s.heap.objs.size) { s with heap:=s.heap.push { cls:=.type "dict_keyiterator",data:=.fields #[.ref d,.int 0 0,.int es.size 0,.int ep 0]}}):wpAny (model P w) A (pyIter<|.ref d) Q E s:=by
 refine wpAny_pyIter_slot ty PySem.F.slot_dict_iter<|dI PySem.F.slot_dict_iter ty PySem.F.entry_dict_iter ?_<|PySem.F.args_dict_iter_1 _;delta Builtin.«dict.__iter__»;refine aI ?_;delta Builtin.Dict.dictSlotNone;refine aI (wpAny_notOrdered_dict ty ?_)
 skip
 refine aN ?_;show wpAny (model P w) _ (Builtin.Dict.showsAll d >>= _) _ _ s;delta Builtin.Dict.showsAll;have nd:¬((d == sysModules)=true):=by rw[hs];exact bL
 rw[aM nd];refine aI<|aN<|aI<|iy ho hd<|aI<|wpAny_dictEpoch ho hd ?_;refine aI<|dm<|aN ⟨_,rfl, "dict_keyiterator",_,⟨_,bD _ rfl,rfl⟩,cE.lookup,?_⟩;simpa[rawInt]using q
end
section
variable {P:aj}{w:ah}
def HE{A:aA}(hh:A.handled=none)(it d:ak)(ne:d≠it){es:Array DictEntry}{o:Obj}(hd:o.data=.dict es ep) :
  Walks P w A it [it,d] [it] es.size (λi v=>(es[i]?).map (λe=>e.key)=some v) (λi h=>h.IsKeyIter it d i es.size ep/\h.get? d=some o) where
 sub:=λb hb=>by
  rw[aX.mp hb];exact aO ..
 frame:=λ_ _ _ st f=>⟨st.1.at λx e=>f it (aO ..) x e,f d (aS _<|aO ..) o st.2⟩
 item:=λi s Q E lt st q=>LU st.1 st.2 hd lt λh' j g=>q _ h' s.toks (by rw[fy lt];rfl) ⟨j,g.extBut d o ne st.2⟩ λb x nb e=>g.extBut b x (λz=>nb<|aX.mpr z) e
 done:=λs Q E st q=>Gp hh st.1 st.2 hd (aL _) λh' k=>q h' s.toks λb x nb e=>k b x (λz=>nb<|aX.mpr z) e
 self:=λ_ _ _ _ st q=>wpAny_pyIter_keyiter st.1 q
def E5{d:ak}{es:Array DictEntry}{o:Obj}(hs:(d == sysModules)=false)(hc:o.cls=.type "dict")(hd:o.data=.dict es ep) :
  PySem.W.KdlSrc P w "dict" d d es.size (λi v=>(es[i]?).map (λe=>e.key)=some v) (λh=>h.get? d=some o) where
 type:=λ_ f=>⟨o,f,hc⟩
 there:=λ_ f=>⟨bq f,bq f⟩
 keep:=λ_ _ f g=>g d (.inl rfl) o f
 notList:=by decide
 notTuple:=by decide
 hint:=λ_ _ _ _ f hq=>PySem.W.kdl_hint_dict ⟨o,f,hc⟩ hq
 iter:=λ_ s j f=>⟨_,_,(λ_ _ hq=>yN ⟨o,f,hc⟩ hs f hd hq),HE j _ d (bA<|bq f) hd,⟨⟨_,bD _ rfl,rfl,rfl⟩,aQ _ f⟩⟩
end
section
variable {X:Cx}
def Mf{H:Hp}{s:aC}{d:ak}{kvs:List<|List Key×V}(I:Inv X pins σ H s)(ed:H d=some (.dT kvs)) :
  ∃(ob:Obj) (es:Array DictEntry) (ep:Nat) (rs:bb),s.heap.get? d=some ob/\ob.cls=.type "dict" /\ ob.data=.dict es ep/\(d == sysModules)=false/\kvs.length<=sizeLine/\rs.length=kvs.length/\es.size=kvs.length /\
   (∀i:Nat,(es[i]?).map (λe:DictEntry=>e.key)=(rs[i]?).map Value.ref)/\∀(i:Nat) r p,rs[i]?=some r->kvs[i]?=some p->H r=some (.tup<|p.1.map kV):=by
 obtain⟨z,B,xs,f,D⟩:=zO I.hok ed;obtain⟨ob,es,ep,C,t,q,k,G,J⟩:=id D;obtain⟨j,m⟩:=kt_at f;have g:es.size=xs.length:=by have:=cW List.length k;simpa using this
 refine⟨ob,es,ep,xs.map λy=>y.2.1,C,t.1,q,B,z,by rw[aG,j],by rw[g,j],λi=>?_,λi r p e1 e2=>?_⟩
 ·rw[<- cM,k,aR,aR,dO,dO]
  cases xs[i]?<;>rfl
 ·obtain⟨y,h1,h2,h3,F⟩:=m i p e2;rw[aR,h1]at e1
  cases e1
  exact h3
def Bb(hc:X.calm=true):jA X (.builtin "sorted") (λxs H Q=>∃(d:ak) (kvs:List<|List Key×V) (kss:List<|ag),xs=[.ref d]/\H d=some (.dT kvs)/\kvs.map (λp=>p.1)=kss.map (λks=>ks.map Sum.inl)/\(∀ks∈kss,ks≠[])/\Sx.RO kss.length /\
  ∀(rs:bb) l g,rs.length=kss.length->(∀(i:Nat) (r:ak) (ks:ag),rs[i]?=some r->kss[i]?=some ks->H r=some (.tup<|ks.map V.int))->H l=none->Sx.Cl g 0 kss.length->Sx.So (Sx.Cw kss) g 0 kss.length ->
   Q (.ref l) (upd H l<|.lst<|((List.range kss.length).map λi=>rs.getD (g i) 0).map V.ref)):=by
 fin2;obtain⟨d,kvs,kss,rfl,T,ek,k,L,q⟩:=h;kj_on
 cases rx
 obtain⟨ob,es,ep,rs,N,K,J,P,C,B,O,M,W⟩:=Mf I T;have t:kvs.length=kss.length:=by have:=cW List.length ek;simpa using this
 have D:∀(i:Nat) (r:ak) (ks:ag),rs[i]?=some r->kss[i]?=some ks->H r=some (.tup<|ks.map V.int):=λi r ks e1 e2=>by
  have lt:i<kvs.length:=by rw[t];exact(aJ.mp e2).1
  have h1:=W i r kvs[i] e1 (aH lt);have h2:(kvs.map λp=>p.1)[i]?=(kss.map λks=>ks.map Sum.inl)[i]?:=by rw[ek]
  rw[aR,aR,e2,aH lt]at h2;have h3:kvs[i].1=ks.map Sum.inl:=aZ h2;rw[h3,bg]at h1;exact h1
 o_rec;unfold Builtin.«sorted»;refine aI (m:=checkCount "sorted" 1 1 _)<|aN ?_;refine aI (gP (E5 P K J) (show X.A.in1.handled=none from I.ok.hd hc) N (by rw[O];exact C) λh' F acc U f=>?_);have G:acc.toList=rs.map Value.ref:=by
  refine eY λj=>?_;rw[cM,aR,<- M j]
  cases e:acc[j]? with
  | some v=>exact(f.2 j v e).symm
  | none=>
   have:acc.size<=j:=ig.mp e;rw[eF<|by rw[<- f.1];exact this];rfl
 rw[G];exact wA (s:=s) (I.kept (t':=F) U) L (by rw[B,t]) (by rw[B];exact C) (λi r ks e1 e2=>⟨nj.of<|D i r ks e1 e2,k ks<|bB e2⟩) λl g h1 h2 h3=>q rs l g (by rw[B,t]) D h1 h2 h3
abbrev YI (d:ak)(o:Obj)(u:HO)(rs:bb):It:=
 ⟨λi H=>(∃a,rs[i]?=some a)/\H d=some (.frz o u),λi H x H'=>H'=H/\∀a,rs[i]?=some a->x=.ref a,λi H=>i=rs.length/\H d=some (.frz o u)⟩
def HW{P:aj}{w:ah}{K:au}(d it:ak){o:Obj}{es:Array DictEntry}{rs:bb}(hd:o.data=.dict es ep)(hl:es.size=rs.length)
  (hk:∀i:Nat,(es[i]?).map (λe:DictEntry=>e.key)=(rs[i]?).map Value.ref):Turn P w K tg (YI d o u rs) [it] it (λi h=>h.IsKeyIter it d i es.size ep) where
 mem:=aO ..
 obj:=λi h st b hb=>by
  have:b=it:=by simpa using hb
  subst this;obtain⟨ob,h1,h2,h3⟩:=st;exact⟨ob,h1,λv z=>by rw[h3]at z;cases z⟩
 keep:=λi h h' st k=>st.at λx e=>k it (aO ..) x e
 item:=by
  k_ne;subst hP hw hK;obtain⟨⟨a,ha⟩,hq⟩:=hg;have g:s.heap.get? d=some o:=(show jJ _ _ H s.heap d (.frz o u)from I.hok d _ hq).1;have lt:i<es.size:=by rw[hl];exact(aJ.mp ha).1
  have ek:es[i].key=.ref a:=by
   have:=hk i;rw[fy lt,ha]at this;exact aZ this
  obtain⟨f0,f1,f2,f3,f4,f5⟩:=hf it<|aO ..;refine LU st g hd lt λh' f j=>?_;have m:Inv X pins σ H { s with heap:=h' }:=I.turned (t':=s.toks) (λb x hb e=>j.extBut b x hb e) f0 f1 f3 f4 f5;obtain⟨B,e,c,p⟩:=id f;rw[ek];exact⟨_,rfl,Ce (s:={ s with heap:=h' }) e c p ⋯ ⟨.ref a,H,m,rfl,⟨rfl,λb hb=>by rw[ha]at hb;cases hb;rfl⟩,f,λb hb=>(hf b hb).1⟩⟩
 done:=by
  k_ne;subst hP hw hK;obtain⟨C,hq⟩:=hg;have g:s.heap.get? d=some o:=(show jJ _ _ H s.heap d (.frz o u)from I.hok d _ hq).1;obtain⟨f0,f1,f2,f3,f4,f5⟩:=hf it<|aO ..;exact Gp (I.ok.hd hc) st g hd () λh' t=>⟨rfl,I.turned (t':=s.toks) (λb x hb e=>t b x hb e) f0 f1 f3 f4 f5⟩
 self:=λ_ _ _ _ _ st q=>wpAny_pyIter_keyiter st q
abbrev V0 (to:TE):TI:=λσ H R=>to σ H λx H1=>∃d kvs,x=.ref d/\H1 d=some (.dT kvs)/\∀(o:Obj) (f:bb),f.length=kvs.length->(∀(i:Nat) r p,f[i]?=some r->kvs[i]?=some p->H1 r=some (.tup<|p.1.map kV))->R (YI d o (.dT kvs) f) (upd H1 d<|.frz o<|.dT kvs)
def Oc{e:aE}{to:TE}(he:PE X e to):PI X tg e (V0 to):=by
 intro pins s σ H R I h;refine lA (he pins s σ H _ I h) λv g h9=>?_;obtain⟨x,H1,I1,r1,d,kvs,ex,m,Z⟩:=h9;subst ex
 cases r1
 obtain⟨z,M,xs,q,P⟩:=zO I1.hok m;obtain⟨f,t,p,C,W,V,Y,_,O⟩:=id P;obtain⟨ob,es,ep,G,j,K,D,U,g5,F,T,N,g9⟩:=Mf I1 m;have L:f=ob:=by rw[j]at C;exact(aZ C).symm
 subst L;refine yN ⟨_,j,K⟩ U j D ?_;have I2:Inv X pins σ H1 { g with heap:=g.heap.push { cls:=.type "dict_keyiterator",data:=.fields #[.ref d,.int 0 0,.int es.size 0,.int ep 0]}}:=
  I1.kept (t':=g.toks) λb o k=>aQ _ k
 have B:∀b ys,H1 b=some (.tup ys)->upd H1 d (.frz f<|.dT kvs) b=some (.tup ys):=λb ys k=>by
  rw[i_<|Ft k m λz=>nomatch z];exact k
 have J:Inv X pins σ (upd H1 d<|.frz f<|.dT kvs) _:=rP (t':=g.toks) (ob:=.frz f<|.dT kvs) I2 (by rw[m];exact True.intro) ⟨rfl,λ_ _=>rfl⟩ ⟨f,aQ _ j⟩ ⟨aQ _ j,z,M,xs,q.keeps B,f,t,p,aQ _ j,W,V,Y,O⟩;refine⟨g.heap.objs.size,[g.heap.objs.size],_,YI d f (.dT kvs) G,_,rfl,J,HW d _ D (by rw[T,F]) N,⟨_,bD _ rfl,rfl,rfl⟩,λb hb=>?_,Z f G F g9⟩;have k:b=g.heap.objs.size:=by simpa using hb
 subst k;refine I1.ER (aL _) ?_;rw[i_<|cT<|bA<|bq j];exact I1.hok.fresh<|aL _
end
section
variable {P:aj}{w:ah}{A:aA}{E:af->aC->Prop}{s:aC}
def Ia:typeLookup (.type "list") "keys" = pure none:=am_miss_of_fast<|by kernel_rfl
def Io{a:ak}{o:Obj}{k:Nat}{Q:bd->aC->Prop}(hx:s.heap.get? a=some o)(hc:o.cls=.type "list")(hdat:o.data=.seq xs k)(hd:o.dict=none)(hA:A.handled=none)
  (h:∀h' tk,(∀b ob,s.heap.get? b=some ob->h'.get? b=some ob)->Q none { s with heap:=h',toks:=tk }):wpAny (model P w) A (getAttr? (.ref a) "keys") Q E s:=by
 obtain⟨c,dct,B,q⟩:=o;simp only at hc hdat hd;subst hc hdat hd;obtain⟨t,g,d,tk,p⟩:=s;have m:∀j,(⟨t,g,d,j,p⟩:aC).TypeIs (.ref a) "list" := λ_=>⟨_,hx,rfl⟩;have f1:=sub_AttributeError;have f3:=fK.lookup;have f4:=fK.bind<|.ref a;have f5:=am_list_getattr_none;unfold getAttr? getAttrBy? getAttrBy
 repeat (any_goals (first|assumption|exact m _|((with_reducible show wpAny _ _ (call (Value.builtin "list.__getattribute__") _ _) _ _ _);refine gU fK (m _) am_entry_list_getattribute (F.args_list_getattribute_2 _ _) (meets_getattribute_miss_list a xs k q "keys" _ Ia ⋯ (by size_fits)) ⟨hx,hA,λh' j e f=>?_⟩)|wp_step))
 obtain⟨D,G,C⟩:=f.there
 skip
 unfold getattributeRaised
 repeat (any_goals (first|assumption|wp_step))
 exact h _ _ f.keeps
def zp:entryFor table "dict.update.loop" = some Builtin.«dict.update.loop»:=entryFor_of_tree<|by kernel_rfl
def um:plainId "dict.update.loop" = true:=by decide +kernel
abbrev KD (h:aq)(d I:ak)(its:ba)(ps:List<|Int×af):Prop:=∀(i:Nat) (v:af),its[i]?=some v->∃(b:ak) (p:Int×af) (t:Tok),v=.ref b/\b≠d/\b≠I/\ps[i]?=some p/\IsTup h b #[.int p.1 t,p.2]
def KD.mono{h h':aq}{d:ak}(x:KD h d I its ps)(k:∀b o,b≠d->b≠I->h.get? b=some o->h'.get? b=some o):KD h' d I its ps:=λi v hv=>by
 obtain⟨b,p,t,h1,h2,h3,f,o,j,g⟩:=x i v hv;exact⟨b,p,t,h1,h2,h3,f,o,k b o h2 h3 j,g⟩
abbrev RL (ps:List<|Int×af):List (Key×af):=ps.foldl (λacc p=>stored acc (Sum.inl p.1) p.2) []
def Lw(ps:List<|Int×af)(i:Nat)(p:Int×af)(h:ps[i]?=some p):RL (ps.take<|i+1)=stored (RL<|ps.take i) (Sum.inl p.1) p.2:=by
 unfold RL;rw[bV,h,dz];rfl
theorem FU:∀(ps:List<|Int×af) (acc:List<|Key×af),(ps.foldl (λacc p=>stored acc (Sum.inl p.1) p.2) acc).length<=acc.length+ps.length
 | [],acc=>aL _
 | p::ps,acc=>by
  have:=FU ps<|stored acc (Sum.inl p.1) p.2;have h:(stored acc (Sum.inl p.1) p.2).length<=acc.length+1:=by
   unfold stored;split
   ·rw[aG];lia
   ·rw[bw];exact aL _
  rw[dU,bN]
  lia
def Kq{R:Result->aC->Prop}{I l d:ak}{St:Nat->aq->Prop}{its:ba}{ps:List<|Int×af}(W:Walks P w A.in1 I [I,l] [I] its.length (λi v=>its[i]?=some v) St)(hdI:d≠I)(hdl:d≠l)(hl:ps.length=its.length)(hz:ps.length<=sizeLine) :
  ∀(k i:Nat) (s:aC),its.length-i=k->i<=its.length->St i s.heap->s.heap.DictOf (jL P w) d (RL<|ps.take i)->KD s.heap d I its ps ->
   (∀h' tk,h'.DictOf (jL P w) d (RL ps)->(∀b o,b≠d->b≠I->s.heap.get? b=some o->h'.get? b=some o)->R (.ok<|.ret .none) { s with heap:=h',toks:=tk }) ->
   codeAny (model P w) A (.builtin "dict.update.loop" ⟨[.ref d,.ref I,rawInt i,.none],[]⟩) R s:=by
 intro k
 induction k with
 | zero=>
  intro i s hk hi g J hP T;have V:i=its.length:=()
  subst V;refine gJ zp ?_;rw[fh um _]
  skip
  refine aI (W.done s _ _ g λh' tk m=>?_)
  skip
  refine aI (aN<|aN<|T h' tk ?_ λb o _ h2 e=>m b o (by simpa using h2) e);rw[<- hl,bX]at J;obtain⟨o,es,ep,B,rest⟩:=J;exact⟨o,es,ep,m d o (by simpa using hdI) B,rest⟩
 | succ k ih=>
  intro i s hk hi g J hP T;have D:i<its.length:=()
  refine gJ zp ?_;rw[fh um _]
  skip
  refine aI<|W.item i s _ _ D g λv h' tk hv F m=>?_;have O:KD h' d I its ps:=hP.mono λb o h1 h2 e=>m b o (by simpa using h2) e;obtain⟨b,p,t,rfl,hbd,hbI,hp,o,B,hc,n,hd⟩:=O i v hv;have U:h'.DictOf (jL P w) d (RL<|ps.take i):=by
   obtain⟨o,es,ep,B,rest⟩:=J;exact⟨o,es,ep,m d o (by simpa using hdI) B,rest⟩
  have hT:Shared.TypeIs { s with heap:=h',toks:=tk } (.ref b) "tuple" := ⟨o,B,hc⟩;have j:∀(A:aA) (E:af->aC->Prop) (Q:ba->aC->Prop),Q [.int p.1 t,p.2] { s with heap:=h',toks:=tk }->wpAny (model P w) A (Builtin.Dict.pairItems<|.ref b) Q E { s with heap:=h',toks:=tk }:=λA E Q q=>by
   unfold Builtin.Dict.pairItems;refine aI<|iI hT ?_;rw[aP ⋯];refine aI<|wpAny_seqItems B hd<|aN q
  have C:(RL<|ps.take i).length<=sizeLine:=by
   refine bJ (FU (ps.take i) []) ?_;rw[b_,fP]
   lia
  refine aI (cV<|aI<|wpAny_tryCatch<|j _ _ _ ?_)
  skip
  refine cV (wpAny_dictSet_pairs (hsz:=C) (knd:=jL P w) (k:=Sum.inl p.1) (s:={ s with heap:=h',toks:=tk }) (show Value.isInt p.1 (.int p.1 t)=true by simp[Value.isInt]) U λh2 M hs=>?_);refine aN ⟨plainId_quiet um _,?_⟩;have f:∀b o,b≠d->b≠I->s.heap.get? b=some o->h2.get? b=some o:=λb o h3 G e=>by rw[hs.2 b h3];exact m b o (by simpa using G) e
  refine ih (i+1) _ () D (W.frame _ _ _ F λb hb o e=>?_) (by rw[Lw ps i p hp];exact M) (hP.mono f) λh3 Y N K=>T h3 Y N λb o G Z e=>K b o G Z<|f b o G Z e;have L:b≠d:=by
   intro z;subst z
   rcases bF.mp hb with z|z
   ·exact hdI z
   ·exact hdl<|by simpa using z
  skip
  rw[hs.2 b L];exact e
theorem zG{H:Hp}{X:Cx}(I:Inv X pins σ H s):∀(rs:bb) (ps:List<|Int×V),rs.length=ps.length->(∀(i:Nat) (r:ak) (q:Int×V),rs[i]?=some r->ps[i]?=some q->nj X.K H r [.int q.1,q.2]) ->
  ∃qs:List<|Int×af,KV ps qs/\∀(i:Nat) (r:ak),rs[i]?=some r->∃q t,qs[i]?=some q/\IsTup s.heap r #[.int q.1 t,q.2]
 | [],[],_,_=>⟨[],.nil,λi r h=>by simp at h⟩
 | [],_::_,h,_=>nomatch h
 | _::_,[],h,_=>nomatch h
 | r::rs,p::ps,hl,hh=>by
  obtain⟨qs,h1,h2⟩:=zG I rs ps (by simpa using hl) λi r q e1 e2=>hh (i+1) r q (by simpa using e1) (by simpa using e2);obtain⟨f,j,k,_⟩:=I.tuple<|hh 0 r p rfl rfl;obtain⟨g,d,rfl,r1,r2⟩:=vals2 j;obtain⟨t,rfl⟩:∃t,g=Value.int p.1 t:=r1;refine⟨(p.1,d)::qs,.cons ⟨rfl,r2⟩ h1,λi m e=>?_⟩
  cases i with
  | zero=>cases e;exact⟨(p.1,d),t,rfl,k⟩
  | succ i=>exact h2 i m<|by simpa using e
abbrev Zh (ps:List<|Int×V):List (Key×V):=ps.foldl (λacc p=>putK acc (Sum.inl p.1) p.2) []
def Wn:∀{ps:List<|Int×V}{qs:List<|Int×af},KV ps qs->∀{as:List<|Key×V}{bs:List<|Key×af},KV as bs->KV (ps.foldl (λacc p=>putK acc (Sum.inl p.1) p.2) as) (qs.foldl (λacc p=>stored acc (Sum.inl p.1) p.2) bs):=by
 intro ps qs h;unfold KV at h
 induction h with
 | nil=>exact λh=>h
 | @cons p q ps qs h t d=>
  intro as bs h2;rw[dU,dU];obtain⟨e,r⟩:=h;rw[e];exact d<|h2.put _ r
theorem GF:∀(ps:List<|Int×V) (acc:List<|Key×V),(ps.foldl (λacc p=>putK acc (Sum.inl p.1) p.2) acc).length<=acc.length+ps.length
 | [],acc=>aL _
 | p::ps,acc=>by
  have:=GF ps<|putK acc (Sum.inl p.1) p.2;have:=nX acc (Sum.inl p.1) p.2;rw[dU,bN]
  lia
end
section
variable {X:Cx}
def EM(hc:X.calm=true):jA X (.type "dict") (λxs H Q=>∃(p:ak) (rs:bb) (ps:List<|Int×V),xs=[.ref p]/\p7 X.K H p (rs.map V.ref)/\rs.length=ps.length /\
  (∀(i:Nat) (r:ak) (q:Int×V),rs[i]?=some r->ps[i]?=some q->nj X.K H r [.int q.1,q.2])/\∀l,H l=none->Q (.ref l) (upd H l<|.dK<|Zh ps)):=by
 fin2;obtain⟨p,rs,ps,rfl,hq,B,Y,q⟩:=h;kj_on
 cases rx
 obtain⟨its,rv,pl,Z⟩:=I.list hq;have ei:=wm rv;subst ei;rw[aG]at Z;obtain⟨P,kv,tp⟩:=zG I rs ps B Y;have ql:ps.length=P.length:=kv.length;obtain⟨o,n,O,k,L,hd⟩:=pl;have lp:p<s.heap.objs.size:=bq O;refine callType_codes (Q₁:=λD j=>D=.ref s.heap.objs.size/\j={ s with heap:=s.heap.push { cls:=.type "dict",data:=.dict #[]}}) F.kt_called_dict (F.kt_typeCall_dict_1 _) F.entry_dict_init (kt_code_dict_new _ ⟨rfl,rfl⟩) ?_;rintro D j ⟨rfl,rfl⟩;have f:(s.heap.push { cls:=.type "dict",data:=.dict #[]}).DictOf (jL X.prog X.w) s.heap.objs.size []:=Heap.DictOf.new s.heap;have g:(s.heap.push { cls:=.type "dict",data:=.dict #[]}).get? p=some o:=aQ _ O;have G:Shared.TypeIs { s with heap:=s.heap.push { cls:=.type "dict",data:=.dict #[]}} (.ref p) "list" := ⟨o,g,k⟩;refine⟨f.typeIs,F.args_dict_init_2 _ _,?_⟩;unfold Builtin.«dict.__init__»;refine aI ?_;unfold Builtin.Dict.selfAndRest;refine aI (wpAny_notOrdered_dict f.typeIs ?_)
 skip
 refine aN ?_;show wpAny _ _ (Builtin.Dict.updateFrom "dict.__init__" s.heap.objs.size (.ref p) [] .none) _ _ _;unfold Builtin.Dict.updateFrom;refine aI<|iI G ?_;rw[aP ⋯];refine aI<|Io g k hd L (show X.A.in1.in1.handled=none from I.ok.hd hc) λh' U m=>?_;rw[aP<|by rfl];refine aI<|fV ?_;have C:h'.IsList p (rs.map Value.ref).toArray:=⟨o,m p o g,k,n,hd⟩;refine aI<|iu (s:={ s with heap:=h',toks:=U }) C ?_;refine aN ⟨plainId_quiet um _,?_⟩;have sz:s.heap.objs.size<h'.objs.size:=bq<|m _ _<|bD _ rfl;have W:Walks X.prog X.w X.A.in1.in1 h'.objs.size [h'.objs.size,p] [h'.objs.size] (rs.map Value.ref).length (λi v=>(rs.map Value.ref)[i]?=some v) (λi h=>h.IsListIter h'.objs.size p i/\h.IsList p (rs.map Value.ref).toArray):=by
  have W:=Walks.list (prog:=X.prog) (w:=X.w) (A:=X.A.in1.in1) (I.ok.hd hc) h'.objs.size p (bA<|bq<|m p o g) (rs.map Value.ref).toArray;rw[a_]at W;dsimp[eW]at W;exact W
 refine Kq (d:=s.heap.objs.size) (its:=rs.map Value.ref) (ps:=P) W (bA sz) (cT<|bA lp) (by rw[aG];lia) () (rs.map Value.ref).length 0 _ () (bO _)
  ⟨⟨_,bD _ rfl,rfl,rfl⟩,C.push _⟩ ?_ (λi v hv=>?_) λh2 J hD hs=>⟨rfl,.ref s.heap.objs.size,_,I.laid (t':=J) (o:=.dK<|Zh ps) (λb ob M=>?_) (aL _) ?_,rfl,q _<|I.hok.fresh<|aL _⟩
 ·obtain⟨o,es,ep,e,rest⟩:=f;exact⟨o,es,ep,aQ _<|m _ _ e,rest⟩
 ·rw[aR]at hv;obtain⟨r,hr,rfl⟩:=aW.mp hv;obtain⟨q,t,h1,o2,h2,h3⟩:=tp i r hr;have T:=bq h2;exact⟨r,q,t,rfl,bA T,bA<|iH T sz,h1,o2,aQ _<|m _ _<|aQ _ h2,h3⟩
 ·have N:=bq M;exact hs b ob (bA N) (bA<|iH N sz) (aQ _<|m _ _<|aQ _ M)
 ·refine DZ (bJ (GF ps [])<|by rw[fP];lia) ?_ (Wn kv .nil) hD;exact cK.mpr<|cT<|bA I.big
abbrev Pk (ns:ag):Sx.Ord where
 lt i j:=decide (ns.getD i 0<ns.getD j 0)
 NZ i:=bu (by omega)
 tr i j k h1 h2:=aY (by have:=bH h1;have:=bH h2;omega)
 neg i j k h:=by
  have:=bH h;by_cases c:ns.getD i 0<ns.getD j 0
  ·exact .inl (aY c)
  ·exact .inr<|aY<|by omega
theorem Hy:∀{vs:ba}{ns:ag},IntsAre vs ns->vs.length=ns.length/\∀i,i<vs.length->∃t,vs.getD i .none=.int (ns.getD i 0) t
 | _,_,.nil=>⟨rfl,λi h=>absurd h<|eL _⟩
 | _,_,.cons n t h=>by
  obtain⟨h1,h2⟩:=Hy h;refine⟨cW (·+1) h1,λi d=>?_⟩
  cases i with
  | zero=>exact⟨t,rfl⟩
  | succ i=>exact h2 i<|by simpa using d
theorem xV{f:Nat->Int}{h:Nat->af}:∀(l:am),(∀i∈l,∃t,h i=.int (f i) t)->Vals (l.map λi=>V.int<|f i) (l.map h)
 | [],_=>.nil
 | i::l,e=>.cons (e i<|aO ..)<|xV l λj d=>e j<|aS _ d
def EL{s:aC}{H:Hp}{Q:VK}{h':aq}{tk:Nat}{vs:ba}{ns:ag}(I1:Inv X pins σ H { s with heap:=h',toks:=tk })(ro:Sx.RO ns.length)(hi:IntsAre vs ns)(hz:vs.length<=sizeLine)
  (q:∀l g,H l=none->Sx.Cl g 0 ns.length->Sx.So (Pk ns) g 0 ns.length->Q (.ref l) (upd H l<|.lst<|(List.range ns.length).map λi=>V.int<|ns.getD (g i) 0)) :
  wpAny (model X.prog X.w) X.A.in1 (do
   let l <- newList vs
   let _ <- holding [l] (call (Value.builtin "list.sort") [l] [])
   ret l) (λfin s'=>∃v,fin=Fin.done (Flow.ret v)/\EP X pins σ Q v s') X.xe { s with heap:=h',toks:=tk }:=by
 obtain⟨C,d⟩:=Hy hi;refine aI<|wpAny_newList ?_;have f:(h'.push<|seqObj "list" vs.toArray 0).get? h'.objs.size=some (seqObj "list" vs.toArray 0):=bD _ rfl
 skip
 refine aI (cV<|dI slot_list_sort ⟨_,f,rfl⟩ entry_list_sort (Sx.ze (o:=Pk ns) (kd:=oneType') f hz (by rw[C];exact ro) (λh2 B m=>?_) (λh2 i j p G D B m=>?_) λg hc hs=>⟨_,rfl,?_⟩)<|args_list_sort _)
 ·obtain⟨a,b,r,rfl⟩:∃a b r,vs=a::b::r:=by
   cases vs with
   | nil=>simp at h2
   | cons a vs=>cases vs with
    | nil=>simp at h2
    | cons b r=>exact⟨a,b,r,rfl⟩
  exact wpAny_of_eq (keyKind_ints hi) m
 ·obtain⟨t,e1⟩:=d i p;obtain⟨u,e2⟩:=d j G;show wpAny _ _ (keyLt' oneType' (vs.getD i .none)<|vs.getD j .none) B D _;rw[e1,e2,keyLt'_oneType];exact Sx.FP true m
 ·rw[C]at hc hs ⊢;obtain⟨e,F⟩:=sortedHeap_at (out:=((List.range ns.length).map λi=>vs.getD (g i) .none).toArray) f;have old:∀b ob,h'.get? b=some ob->(sortedHeap (h'.push<|seqObj "list" vs.toArray 0) h'.objs.size vs ((List.range ns.length).map λi=>vs.getD (g i) .none).toArray).get? b=some ob:=λb ob k=>by
   rw[sortedHeap_old (bA<|bq k)<|by rw[dJ];exact dY<|bq k];exact aQ _ k
  refine aN ⟨_,rfl,.ref h'.objs.size,_,I1.laid (t':=tk) (o:=.lst<|(List.range ns.length).map λi=>V.int<|ns.getD (g i) 0) old (aL _) ?_,rfl,q _ g (I1.hok.fresh<|aL _) hc hs⟩;refine⟨by rw[aG,bM];omega,(List.range ns.length).map λi=>vs.getD (g i) .none,e,xV _ λi hi=>d _ (by have:=(hc i (bO _)<|cg.mp hi).2;omega),F⟩
def IS{P:aj}{w:ah}{vs:List<|Key×af}:∀{acc:ba}{ns:ag},vs.map (·.1)=ns.map Sum.inl->acc.length=vs.length->(∀(j:Nat) v,acc[j]?=some v->∃k x,vs[j]?=some (k,x)/\(jL P w).is k v=true)->IntsAre acc ns:=by
 intro acc ns d f h
 induction acc generalizing vs ns with
 | nil=>cases vs with
  | nil=>cases ns with
   | nil=>exact .nil
   | cons=>cases d
  | cons=>cases f
 | cons a acc g=>cases vs with
  | nil=>cases f
  | cons v vs=>cases ns with
   | nil=>cases d
   | cons n ns=>
    rw[bE,bE,List.cons.injEq]at d;obtain⟨k,x,e1,e2⟩:=h 0 a rfl
    cases e1
    obtain⟨e3,e4⟩:=d;have e3:k=Sum.inl n:=e3;subst e3;obtain⟨t,rfl⟩:=Value.isInt_shape (k:=n) (v:=a) e2;exact .cons n t<|g e4 (by simpa using f) λj v e=>h (j+1) v<|by simpa using e
def Aq(hc:X.calm=true):jA X (.builtin "sorted") (λxs H Q=>∃(d:ak) (kvs:List<|Key×V) (ns:ag),xs=[.ref d]/\H d=some (.dK kvs)/\kvs.map (λp=>p.1)=ns.map Sum.inl/\Sx.RO ns.length /\
  ∀l g,H l=none->Sx.Cl g 0 ns.length->Sx.So (Pk ns) g 0 ns.length->Q (.ref l) (upd H l<|.lst<|(List.range ns.length).map λi=>V.int<|ns.getD (g i) 0)):=by
 fin2;obtain⟨d,kvs,ns,rfl,C,ek,N,q⟩:=h;kj_on
 cases rx
 obtain⟨z,hd,t,k,B⟩:=J4 I.hok C;obtain⟨ep,D⟩:=B.dictAt;have L:kvs.length=t.length:=k.length;have J:t.map (·.1)=kvs.map (·.1):=by
  clear ek z B D L C;unfold KV at k
  induction k with
  | nil=>rfl
  | cons h _ G=>rw[bE,bE,G,h.1]
 o_rec;unfold Builtin.«sorted»;refine aI (m:=checkCount "sorted" 1 1 _)<|aN ?_;refine aI<|gP (PySem.W.kdl_dict hd) (show X.A.in1.handled=none from I.ok.hd hc) D () λh' F acc M f=>?_;have K:acc.toList.length=t.length:=by rw[dB];exact f.1
 exact EL (s:=s) (I.kept (t':=F) M) N (IS (P:=X.prog) (w:=X.w) (J.trans ek) K λj v e=>f.2 j v<|by rw[cM]at e;exact e) () q
end
end L2
namespace Am
open PySem PySem.Spec PyProof.Rows L2
abbrev Pq:ae->Option (List<|Int×A)
 | []=>some []
 | .tup [.int k,x]::r=>(Pq r).map λps=>(k,x)::ps
 | _=>none
abbrev Qm (ps:List<|Int×A):List (Int×A):=ps.foldl (λacc p=>vW acc p.1 p.2) []
section
variable {K:au}{ρ:bb}{H:Hp}
def Px{x:A}(r:AVs K ρ H [x,y] vs):∃v w,vs=[v,w]/\AV K ρ H x v/\AV K ρ H y w:=by
 cases r with
 | cons h t=>cases t with
  | cons h' d=>cases d;exact⟨_,_,rfl,h,h'⟩
def Ls{x:A}(e:Pq (x::xs)=some ps):∃k y ps',x=.tup [.int k,y]/\Pq xs=some ps'/\ps=(k,y)::ps':=by
 unfold Pq at e;split at e
 ·rename_i e2;cases e2
 ·rename_i k y r e2
  cases e2
  obtain⟨ps',h1,h2⟩:=aW.mp e;exact⟨_,_,_,rfl,h1,h2.symm⟩
 ·cases e
def Xg:∀{xs:ae}{vs:List V}{ps:List<|Int×A},AVs K ρ H xs vs->Pq xs=some ps ->
  ∃(rs:bb) (qs:List<|Int×V),vs=rs.map V.ref/\rs.length=qs.length/\(∀(i:Nat) (r:ak) (q:Int×V),rs[i]?=some r->qs[i]?=some q->nj K H r [.int q.1,q.2]) /\
   ∀as bs,DI K ρ H as bs->DI K ρ H (ps.foldl (λacc p=>vW acc p.1 p.2) as) (qs.foldl (λacc p=>putK acc (Sum.inl p.1) p.2) bs):=by
 intro xs
 induction xs with
 | nil=>intro vs ps r e;cases r;cases e;exact⟨[],[],rfl,rfl,λi r q h=>by simp at h,λas bs h=>h⟩
 | cons x xs f=>
  intro vs ps r e;obtain⟨k,y,B,rfl,e1,rfl⟩:=Ls e
  cases r with
  | cons h t=>
   obtain⟨rs,qs,rfl,m,j,g⟩:=f t e1
   cases h with
   | @tup a _ us h r=>
    obtain⟨v,w,rfl,h1,h2⟩:=Px r
    cases h1
    refine⟨a::rs,(k,w)::qs,rfl,by rw[bN,bN,m],λi r q e1 e2=>?_,λas bs d=>g _ _<|d.put h2 k⟩
    cases i with
    | zero=>cases e1;cases e2;exact nj.of h
    | succ i=>exact j i r q (by simpa using e1)<|by simpa using e2
end
section
variable {X:Cx}
abbrev BD (x:A)(S:iW):R A:=match x with
 | .ref n=>opt (iU S n) λxs=>opt (Pq xs) λps=>.ok (.ref S.length) (S++[.oS<|Qm ps])
 | _=>.no
def EU(hc:X.calm=true):jA X (.type "dict") (rN X<|f1 BD):=jA.imp (EM hc) λvs H Q h0=>by
 kt_k;clear h0
 cases hv with
 | ref t=>
  rename_i p n;kcj_m;obtain⟨ps,hb,h⟩:=iY h;obtain⟨us,h1,r⟩:=R.lst t<|ji hn;obtain⟨q,g,rfl,d,k,m⟩:=Xg r hb;refine⟨p,q,g,rfl,p7.of h1,d,k,λl f=>?_⟩;obtain⟨ex,j,d⟩:=R.Xl (xs:=Qm ps) (vs:=Zh g) f<|m [] [] trivial;exact h _ _ _ ex j<|.ref d
 | _=>exact h.elim
def OL{ns:ag}{g:Nat->Nat}(c:Sx.Cl g 0 ns.length)(so:Sx.So (Pk ns) g 0 ns.length):(List.range ns.length).map (λi=>ns.getD (g i) 0)=sortI ns:=by
 refine Qi ?_ ?_ (yw ns)
 ·refine List.Perm.trans ?_ (sortI_perm ns).symm;have p:=yb (N:=ns.length) (g:=g) (λi k=>(c i (bO _) k).2) λi j d f z=>by
   have:=so i j (bO _) d f;rw[z]at this;exact this.NZ
  have:=p.map λi=>ns.getD i 0;rw[bg,range_getD]at this;exact this
 ·rw[cC];intro i j k f d;rw[aG,bM]at k f;rw[d_,d_,dN,dN];have:=c_ (so i j (bO _) d f).ge
  lia
@[irreducible] noncomputable def big:Nat:=2 ^ 4096
theorem xC:big=2 ^ 4096:=by unfold big;rfl
def CZ{i:Int}(h:i.natAbs<big):Builtin.Int.intBits i<=2 ^ 20:=by
 rw[xC]at h;exact bJ (intBits_le h) ⋯
abbrev GH (a b:A)(S:iW):R A:=match a,b with
 | .int i,.int j=>gd (i.natAbs<big/\j.natAbs<big) (.ok (.int<|i * j) S)
 | _,_=>.no
def UB:ni X (binaryOp .Mult) (r2 X GH):=λpins s σ H x y v u Q I rx ry h9=>by
 z_go
 cases va with
 | int i=>cases vb with
  | int j=>
   obtain⟨⟨h1,h2⟩,h⟩:=jq h;obtain⟨t,rfl⟩:∃t,v=Value.int i t:=rx;obtain⟨d,rfl⟩:∃t,u=Value.int j t:=ry;exact mul_int ⟨.int _,H,I.tok _,⟨_,rfl⟩,h _ _ _ .refl R<|.int _⟩<|IntMulOk.of_bits (CZ h1)<|CZ h2
  | _=>exact h.elim
 | _=>exact h.elim
end
def E9:bootBuiltins "dict" = some (.type "dict"):=by decide +kernel
abbrev kA (p:Int×Int):A:=.ktu [.int p.1,.int p.2]
abbrev Kw (K:au):af->Option (Int×Int)
 | .ref b=>match K.lookup b with
  | some ⟨.type "tuple",none,.seq its _,_⟩=>match its.toList with
   | [.int i _,.int j _]=>some (i,j)
   | _=>none
  | _=>none
 | _=>none
abbrev Ez (K:au):ba->Option (List<|Int×Int)
 | []=>some []
 | v::vs=>(Kw K v).bind λp=>(Ez K vs).map λps=>p::ps
abbrev VJ (K:au)(a:ak):Option (List<|Int×Int):=match K.lookup a with
 | some ⟨.type "list",none,.seq its _,_⟩=>if its.size<=sizeLine then Ez K its.toList else none
 | _=>none
def Kv{K:au}{v:af}{p:Int×Int}(h:Kw K v=some p):∃b,v=.ref b/\ZI K b [.int p.1,.int p.2]:=by
 unfold Kw at h;split at h
 ·rename_i b;refine⟨b,rfl,?_⟩;split at h
  ·rename_i d n f e;split at h
   ·rename_i i t j u e2
    cases h
    refine⟨_,d,n,e,rfl,rfl,rfl,?_,?_⟩
    ·rw[<- dB,e2];show 2<=sizeLine;decide
    ·rw[e2];exact .cons ⟨t,rfl⟩<|.cons ⟨u,rfl⟩ .nil
   ·cases h
  ·cases h
 ·cases h
def Jb{K:au}{H:Hp}:∀{vs:ba}{ps:List<|Int×Int},Ez K vs=some ps->∃us:List V,Vals us vs/\AVs K ρ H (ps.map kA) us:=by
 intro vs
 induction vs with
 | nil=>intro ps h;cases h;exact⟨[],.nil,.nil⟩
 | cons v vs f=>
  intro ps h;obtain⟨p,h1,h⟩:=b8.mp h;obtain⟨j,h2,rfl⟩:=aW.mp h;obtain⟨us,h3,d⟩:=f h2;obtain⟨b,rfl,g⟩:=Kv h1;exact⟨.ref b::us,.cons rfl h3,.cons (.ktu g<|.cons (.int _)<|.cons (.int _) .nil) d⟩
def T7{K:au}{H:Hp}{a:ak}{ps:List<|Int×Int}(h:VJ K a=some ps):AV K ρ H (.frz<|ps.map kA) (.ref a):=by
 unfold VJ at h;split at h
 ·rename_i d n g e;split at h
  ·rename_i f;obtain⟨us,h1,h2⟩:=Jb (ρ:=ρ) (H:=H) h;exact .frz (.inr ⟨_,d,n,e,rfl,rfl,rfl,f,h1⟩) h2
  ·cases h
 ·cases h
def Jw{X:Cx}{x:Str}{a:ak}{ps:List<|Int×Int}(hm:X.mg x=some (.ref a))(hk:VJ X.K a=some ps)(hg:Gl X x<|>ε)(hd:(x == ("__debug__" : Str))=false<|>δ):AE X (.Name x pos) (eC<|.frz<|ps.map kA):=
 PE.imp (Gb (v:=.ref a) hg hm rfl hd) λσ H Q h9=>by
  x_go;exact h ρ H _ .refl R<|T7 hk
section
abbrev XQ (p:ag×A):A:=.tup<|p.1.map .int
theorem Hw{K:au}{H:Hp}:∀{kvs:List<|ag×A}{ks:List<|List Key×V},DV K ρ H kvs ks->ks.map (λp=>p.1)=(kvs.map Prod.fst).map (λks=>ks.map Sum.inl)
 | [],[],_=>rfl
 | a::kvs,b::ks,⟨z,t⟩=>by
  have:=Hw t;show b.1::ks.map _=a.1.map Sum.inl::_;rw[this,z.1]
end
end Am
namespace L2
open PySem PySem.Spec PyProof.Rows
def C1(ek ev tg iter:aE)(ifs:List aE)(scope:Scope)(pos:Pos)(it:af)(d:ak)(env:Env) :
  compTurn (.DictComp ek ev [⟨tg,iter,ifs,0⟩] scope pos) 0 it (.ref d) env=(do
   standAt iter.pos
   match <- pyNext it with
   | none=>pure (.done .next)
   | some v=>
    letOwnedTupleGo tg it v
    assign tg env v
    let mut ok:=true
    for c in ifs do
     if ok then ok <- isTrue c env (eval c env)
    if ok then
     (do
      let kv <- eval ek env
      let vv <- holding [kv] (eval ev env)
      standAt { ek.pos with endLine:=ev.pos.endLine,endCol:=ev.pos.endCol }
      holding [kv,vv] (dictSet d kv vv))
    again (.compLoop (.DictComp ek ev [⟨tg,iter,ifs,0⟩] scope pos) 0 it (.ref d) env)):=by rfl
section
variable {prog:aj}{w:ah}{A:aA}{R:Result->aC->Prop}{s:aC}
def uz{ev iter:aE}{rest:List Comprehension}{acc:af}{env:Env}
  (h0:codeAny (model prog w) A (.compLoop (.DictComp ek ev (⟨tg,iter,ifs,0⟩::rest) scope pos) 0 it acc env) R s)
  (h:wpAny (model prog w) A (pyIter it) (λit' s'=>codeAny (model prog w) A (.compLoop (.DictComp ek ev (⟨tg,iter,ifs,0⟩::rest) scope pos) 0 it' acc env) R s')
   (notedBy (model prog w) A env λx s'=>R (.error x) s') s) :
  codeAny (model prog w) A (.compStart (.DictComp ek ev (⟨tg,iter,ifs,0⟩::rest) scope pos) 0 it acc env) R s:=by
 refine codeAny_of_tree ?_;show wpAny _ _ ((compStart (.DictComp ek ev (⟨tg,iter,ifs,0⟩::rest) scope pos) 0 it acc env).onRaise λx=>do noteFrame x env;standAt theWindowsPlace) _ _ s;refine wpAny_notedAt ?_;unfold compStart;show wpAny _ _ (ask >>= _) _ _ s;refine aI<|wpAny_askSetting<|wpAny_ite ?_;split
 ·first
   | exact aI (aN<|aN<|anI rfl h0)
   | exact aN<|anI rfl h0
 ·first
   | exact aI (fV<|aI<|fF<|aI<|fS h (λit' s' h'=>aN<|anI rfl h') λ_ _ x=>x)
   | (refine aI<|fV ?_;show wpAny _ _ (standAt iter.pos >>= _) _ _ s;exact aI<|fF<|aI<|fS h (λit' s' h'=>aN<|anI rfl h') λ_ _ x=>x)
end
section
variable {X:Cx}{pins:bn}{σ:St}{H H':Hp}{s:aC}{a:ak}{y v:V}{u r:af}{A:aA}{E:af->aC->Prop}
def HZ{Q:Unit->aC->Prop}(hu:A.units+1<cLine)(I:Inv X pins σ H s)(g:wR H a y v H')(ry:RelV y u)(rv:RelV v r)(h:∀s',Inv X pins σ H' s'->Q Unit.unit s') :
  wpAny (model X.prog X.w) A (dictSet a u r) Q E s:=by
 rcases g with⟨kvs,k,e,p,l,t⟩|⟨kvs,k,b,e,p,D,l,t⟩
 ·subst p t;obtain⟨z,j,J,d,B⟩:=J4 I.hok e;have m:J.length<=sizeLine:=by rw[<- d.length];exact z
  have C:(putK kvs k v).length<=sizeLine:=by have:=nX kvs k v;lia
  refine wpAny_dictSet_pairs (hsz:=m) (xP ry) B λh' f hs=>h _ ?_;have K:∃q,h'.get? a=some q:=let⟨q,_,_,hq,_⟩:=f;⟨q,hq⟩
  exact rP I (by rw[e];exact True.intro) hs K<|DZ C j (d.put k rv) f
 ·subst p t
  cases(show u=Value.ref b from ry)
  obtain⟨z,j,xs,d,B⟩:=zO I.hok e;have m:xs.length<=sizeLine:=by rw[<- gF d];exact z
  have C:(putK kvs k v).length<=sizeLine:=by have:=nX kvs k v;lia
  refine wpAny_dictSet_heap (hsz:=m) (show A.units<cLine by lia) (qS I.hok D) B λh' f hs=>h _ ?_;obtain⟨q,es,ep,hq,h2,h3,G,_,L⟩:=f;refine rP I (by rw[e];exact True.intro) hs ⟨q,hq⟩ ⟨C,j,_,(d.put k D rv).keeps λc ys F=>?_,q,es,ep,hq,h2,h3,G,L⟩;rw[i_<|Ft F e λz=>nomatch z];exact F
end
abbrev Uv (ob:HO)(cap:List<|bj)(g:TG)(tc:TT)(tk tv:TE)(σ:St)(Q:VK)(J:It)(H1:Hp):Prop:=∀D,H1 D=none ->
 ∃W:Nat->Nat->St->Hp->Prop,(∃m,W 0 m (cap.map<|OV σ)<|upd H1 D ob)/\∀i m j H',W i m j H' ->
  (J.stop i H'/\Q (.ref D) H')\/(J.go i H'/\∀x H2,J.yld i H' x H2->g x j H2 λd H3=>tc d H3 λb k=>
   if b=true then tk d k λy q=>tv d q λz t=>∃p,wR t D y z p/\∃f,f<m/\W (i+1) f d p
   else ∃f,f<m/\W (i+1) f d k)
abbrev Yd (ob:HO)(cap:List<|bj)(wi:TI)(g:TG)(tc:TT)(tk tv:TE):TE:=λσ H Q=>wi σ H<|Uv ob cap g tc tk tv σ Q
def Oj{ok:Cx->Prop}{X:Cx}{use:Option<|af->Sem Unit}{Q':af->aC->Prop}{iter ev:aE}{N:ar}{wi:TI}{g:TG}{tc:TT}{tk tv:TE}{ob:HO}(hob:∀{P:aj}{w:ah}{H:Hp}(h:aq),sysModules<h.objs.size->jJ P w H (h.push { cls:=.type "dict",data:=.dict #[]}) h.objs.size ob)(hu:X.A.units+1<cLine)(S:CpScope X scope N cap)(hok:∀C s₀ H₀ ex,(∀a o u,X.H₀ a=some (.frz o u)->H₀ a=some (.frz o u))->ok (kg X scope N C s₀ H₀ ex))(hi:Xs ok X tg iter wi)
  (hg:∀C s₀ H₀ ex,PG (kg X scope N C s₀ H₀ ex) tg g) (ht:∀C s₀ H₀ ex,O7 (kg X scope N C s₀ H₀ ex) ifs tc) (hk:∀C s₀ H₀ ex,PE (kg X scope N C s₀ H₀ ex) ek tk) (hv:∀C s₀ H₀ ex,PE (kg X scope N C s₀ H₀ ex) ev tv)
  (hs:(∀x,foldedSetIterable iter X.env x=pure x)<|>ζ):∀(pins:bn) (s:aC) (σ:St) (H:Hp) (Q:VK),Inv X pins σ H s->Yd ob cap wi g tc tk tv σ H Q ->
  (∀(s6:aC) (C D:ak) (H5:Hp) (m:Str->bd),s6.heap.Ns C m->ux X pins H5 C->(∀h',Heap.SameBut C s6.heap h'->Inv X pins σ H5 { s6 with heap:=h' })->Q (.ref D) H5->∀v,compPost (model X.prog X.w) X.A X.xe use Q' (.ref D) C (.ok v) s6) ->
  wpAny (model X.prog X.w) X.A (comprehension (.DictComp ek ev [⟨tg,iter,ifs,0⟩] scope pos) scope X.env (firstIterPos [⟨tg,iter,ifs,0⟩] pos) newDict (firstAsync [⟨tg,iter,ifs,0⟩]) (firstIter [⟨tg,iter,ifs,0⟩] X.env) use) Q' X.xe s:=by
 intro pins s σ H Q I h hfin;kl_no;refine wpAny_comprehension_free (use:=use) rfl hs (xU hfree) S.kind S.nm<|lA (hi pins s σ H _ I h) λxv s1 h1=>lA h1 λitv f h2=>?_;obtain⟨it,fp,tn,J,H2,rfl,I2,T,st2,f2,h2⟩:=h2;refine dm<|Fo λU k old j=>?_;obtain⟨W,⟨m0,w0⟩,turn⟩:=h2 f.heap.objs.size I2.fresh;dsimp only at k old j ⊢;have I3:Inv X pins σ (upd H2 f.heap.objs.size ob) { f with heap:=f.heap.push { cls:=.type "dict",data:=.dict #[]}}:=I2.laid (a:=f.heap.objs.size) (o:=ob) (h':=f.heap.push { cls:=.type "dict",data:=.dict #[]}) (t':=f.toks) (λ_ _ q=>aQ _ q) (aL _)<|hob f.heap I2.big;have hfp:∀b∈fp,∃o,f.heap.get? b=some o:=λb hb=>by
  obtain⟨o,e,_⟩:=T.obj 0 _ st2 b hb;exact⟨o,e⟩
 have neD:∀b∈fp,b≠f.heap.objs.size:=λb hb=>by
  obtain⟨o,e⟩:=hfp b hb;exact bA<|bq e
 have f3:∀b∈fp,ux X pins (upd H2 f.heap.objs.size ob) b:=λb hb=>⟨by rw[i_<|neD b hb];exact(f2 b hb).1,(f2 b hb).2⟩;have hDC:f.heap.objs.size≠(f.heap.push { cls:=.type "dict",data:=.dict #[]}).objs.size:=by rw[dJ];exact bA (c9 _)
 have I4:=M8 (tk:=f.toks+([]:List<|Str×af).length) (fp:=fp) S I3 f3 (λb hb=>by
  obtain⟨o,e⟩:=hfp b hb;exact⟨o,aQ _ e⟩) k j old
 have st4:tn 0 U:=T.keep _ _ _ st2 λb hb o e=>old b o<|aQ _ e;have hc:=hok (f.heap.push { cls:=.type "dict",data:=.dict #[]}).objs.size { f with heap:=f.heap.push { cls:=.type "dict",data:=.dict #[]}} (upd H2 f.heap.objs.size ob) fp λa o u e=>by
  have z:=I2.base.frzs a o u e;rw[i_ λq=>by rw[q,I2.fresh]at z;cases z];exact z
 have K:∀{H':Hp},(∀b∈fp,H' b=none)->∀b∈fp,ux (kg X scope N (f.heap.push { cls:=.type "dict",data:=.dict #[]}).objs.size { f with heap:=f.heap.push { cls:=.type "dict",data:=.dict #[]}} (upd H2 f.heap.objs.size ob) fp) [] H' b:=λhn b hb=>by
  have ok:=I4.ok;refine⟨hn b hb,(ok.exf b hb).1,ok.exfs b hb,.inl hb,λx c e=>(ok.exf b hb).2 x c e,λp hp=>nomatch hp⟩
 have O:∀s4:aC,s4={ f with heap:=U,toks:=f.toks+([]:List<|Str×af).length } ->
   codeAny (model X.prog X.w) X.A (.compLoop (.DictComp ek ev [⟨tg,iter,ifs,0⟩] scope pos) 0 (.ref it) (.ref f.heap.objs.size)<|compEnvC scope (cellsFrom ((f.heap.push { cls:=.type "dict",data:=.dict #[]}).objs.size+1) scope.names<|uv X.env scope.names []) (f.heap.push { cls:=.type "dict",data:=.dict #[]}).objs.size X.env)
    (compPost (model X.prog X.w) X.A X.xe use Q' (.ref f.heap.objs.size) (f.heap.push { cls:=.type "dict",data:=.dict #[]}).objs.size) s4:=by
  rintro s4 rfl;refine codeAny_loop rfl (λn s'=>∃i L H',Inv (kg X scope N (f.heap.push { cls:=.type "dict",data:=.dict #[]}).objs.size { f with heap:=f.heap.push { cls:=.type "dict",data:=.dict #[]}} (upd H2 f.heap.objs.size ob) fp) [] L H' s'/\tn i s'.heap/\(∀b∈fp,H' b=none)/\W i n L H') (λn s5 hI=>?_) m0 ⟨0,_,_,I4,st4,λb hb=>(f3 b hb).1,w0⟩;obtain⟨i,M,H5,I5,st5,fr5,w5⟩:=hI;show wpAny _ X.A ((compTurn (.DictComp ek ev [⟨tg,iter,ifs,0⟩] scope pos) 0 (.ref it) (.ref f.heap.objs.size)<|compEnvC scope (cellsFrom ((f.heap.push { cls:=.type "dict",data:=.dict #[]}).objs.size+1) scope.names<|uv X.env scope.names []) (f.heap.push { cls:=.type "dict",data:=.dict #[]}).objs.size X.env).onRaise λx=>do noteFrame x _;theTreesLotGoes x) _ _ s5;refine wpAny_noted ?_;rw[C1];refine aI (fF<|aI ?_)
  rcases turn i n M H5 w5 with⟨stop,q⟩|⟨go,step⟩
  ·refine lA (T.done (kg X scope N (f.heap.push { cls:=.type "dict",data:=.dict #[]}).objs.size { f with heap:=f.heap.push { cls:=.type "dict",data:=.dict #[]}} (upd H2 f.heap.objs.size ob) fp) rfl rfl rfl hc i [] s5 M H5 _ I5 (K fr5) st5 stop) λr s6 h9=>?_;obtain⟨hr,Z⟩:=h9;subst hr;obtain⟨m6,hn6,_⟩:=Z.loc;refine aN<|hfin s6 _ _ H5 m6 hn6 (I3.ER (aL _) Z.free) (λh' sb=>?_) q _;have V:=Z.base;have nC:∀b o,(f.heap.push { cls:=.type "dict",data:=.dict #[]}).get? b=some o->b≠(f.heap.push { cls:=.type "dict",data:=.dict #[]}).objs.size:=λb o e=>bA<|bq e;refine I3.Rf (ch:=fp) Z.os ⟨λb o e n hb hx=>?_,λb o e n hb hx=>?_,λb o e n hx=>?_,λb o e hx=>?_,V.tups,V.frzs,V.tbls⟩ ?_ Z.bare ?_
   ·exact sb.extBut b o (nC b o e) (V.keep b o e n hb hx)
   ·obtain⟨sl,z⟩:=V.slot b o e n hb hx;exact⟨sl,sb.extBut b _ (nC b o e) z⟩
   ·exact V.free b o e n hx
   ·obtain⟨o',z⟩:=V.there b o e hx;exact⟨o',sb.extBut b _ (nC b o e) z⟩
   ·intro b o e;have hb:∀c v,H5 c=some v->c≠(f.heap.push { cls:=.type "dict",data:=.dict #[]}).objs.size:=λc v e z=>by
     rw[z]at e;have:=Z.free;rw[show H5 (f.heap.push { cls:=.type "dict",data:=.dict #[]}).objs.size=none from this]at e
     cases e
    refine(Z.hok b o e).stay (λc v hc q=>sb.extBut c v ?_ q) (λ_ q=>q) λ_ _ q=>q
    rcases hc with z|z
    ·rw[z];exact hb b o e
    ·exact hb c _ z
   ·intro b hb;obtain⟨_,z1,_,z3,z4,z5⟩:=f3 b hb;exact⟨z3,z1,z4,z5⟩
  ·refine lA (T.item (kg X scope N (f.heap.push { cls:=.type "dict",data:=.dict #[]}).objs.size { f with heap:=f.heap.push { cls:=.type "dict",data:=.dict #[]}} (upd H2 f.heap.objs.size ob) fp) rfl rfl rfl hc i [] s5 M H5 _ I5 (K fr5) st5 go) λr s6 h9=>?_;obtain⟨u,hr,h6⟩:=h9;subst hr;refine aI<|lA h6 λ_ s7 ⟨x,H7,I7,r7,y7,Y,fr7⟩=>?_;have I7':=I7.pinned (K fr7)<|T.obj _ _ Y;refine aI<|CJ (hg _ _ _ fp _ s7 M H7 x u _ I7' r7<|step x H7 y7) λ_ s8 ⟨F,H8,I8,q8⟩=>?_;refine aI<|CJ (ht _ _ _ fp _ s8 F H8 _ I8 q8) λok s9 ⟨H9,I9,q9⟩=>?_;have again:∀{B:aC} {t:Hp},Inv (kg X scope N (f.heap.push { cls:=.type "dict",data:=.dict #[]}).objs.size { f with heap:=f.heap.push { cls:=.type "dict",data:=.dict #[]}} (upd H2 f.heap.objs.size ob) fp) ([]++vU fp s7.heap) F t B->(∃m',m'<n/\W (i+1) m' F t) ->
     ∃m,m<n/\∃i L H',Inv (kg X scope N (f.heap.push { cls:=.type "dict",data:=.dict #[]}).objs.size { f with heap:=f.heap.push { cls:=.type "dict",data:=.dict #[]}} (upd H2 f.heap.objs.size ob) fp) [] L H' B/\tn i B.heap/\(∀b∈fp,H' b=none)/\W i m L H':=λ{B t} G h9=>by
    obtain⟨m',hm,w10⟩:=h9;refine⟨m',hm,i+1,F,t,G.tQ,T.keep _ _ _ Y λb hb o e=>(G.pin (b,o)<|bP _<|bP _<|ny hb e).1,λb hb=>?_,w10⟩;obtain⟨o,e,d⟩:=T.obj _ _ Y b hb;exact(G.pin (b,o)<|bP _<|bP _<|ny hb e).2.1
   cases ok with
   | false=>
    rw[aM bL]at q9;exact aN ⟨rfl,again I9 q9⟩
   | true=>
    rw[aP rfl]at q9;refine aI<|aI<|CJ (hk _ _ _ fp _ s9 F H9 _ I9 q9) λy B ⟨v10,t,G,r10,q10⟩=>?_;refine aI<|cV<|CJ (hv _ _ _ fp _ B F t _ G q10) λz s11 ⟨v11,H11,I11,r11,H12,dp,w12⟩=>?_;refine aI<|fF<|cV ?_;exact HZ (X:=kg X scope N _ _ _ fp) hu I11 dp r10 r11 λs12 I12=>aN ⟨rfl,again I12 w12⟩
 exact uz (O _ rfl)<|T.self _ 0 _ _ _ st4<|O _ rfl
def yU{env:Env}(ek ev gens scope pos):eval (.DictComp ek ev gens scope pos) env =
  comprehension (.DictComp ek ev gens scope pos) scope env (firstIterPos gens pos) newDict (firstAsync gens) (firstIter gens env):=rfl
def Uq{ok:Cx->Prop}{X:Cx}{iter ev:aE}{N:ar}{wi:TI}{g:TG}{tc:TT}{tk tv:TE}{ob:HO}(hob:∀{P:aj}{w:ah}{H:Hp}(h:aq),sysModules<h.objs.size->jJ P w H (h.push { cls:=.type "dict",data:=.dict #[]}) h.objs.size ob)(hu:X.A.units+1<cLine)(S:CpScope X scope N cap)(hok:∀C s₀ H₀ ex,(∀a o u,X.H₀ a=some (.frz o u)->H₀ a=some (.frz o u))->ok (kg X scope N C s₀ H₀ ex))(hi:Xs ok X tg iter wi)
  (hg:∀C s₀ H₀ ex,PG (kg X scope N C s₀ H₀ ex) tg g) (ht:∀C s₀ H₀ ex,O7 (kg X scope N C s₀ H₀ ex) ifs tc) (hk:∀C s₀ H₀ ex,PE (kg X scope N C s₀ H₀ ex) ek tk) (hv:∀C s₀ H₀ ex,PE (kg X scope N C s₀ H₀ ex) ev tv)
  (hs:(∀x,foldedSetIterable iter X.env x=pure x)<|>ζ):PE X (.DictComp ek ev [⟨tg,iter,ifs,0⟩] scope pos) (Yd ob cap wi g tc tk tv):=by
 kd_p;rw[yU];exact Oj (use:=none) (Q':=EP X pins σ Q) hob hu S hok hi hg ht hk hv hs pins s σ H Q I h λj C D d m hn k inv q v=>⟨m,hn,λh' f=>⟨.ref D,d,inv h' f,rfl,q⟩⟩
def WG{X:Cx}{iter ev:aE}{N:ar}{wi:TI}{g:TG}{tc:TT}{tk tv:TE}{ob:HO}(hob:∀{P:aj}{w:ah}{H:Hp}(h:aq),sysModules<h.objs.size->jJ P w H (h.push { cls:=.type "dict",data:=.dict #[]}) h.objs.size ob)(hu:X.A.units+1<cLine)(hc:X.calm=true)(S:CpScope X scope N cap)(hi:PI X tg iter wi)
  (hg:∀C s₀ H₀ ex,PG (kg X scope N C s₀ H₀ ex) tg g) (ht:∀C s₀ H₀ ex,O7 (kg X scope N C s₀ H₀ ex) ifs tc) (hk:∀C s₀ H₀ ex,PE (kg X scope N C s₀ H₀ ex) ek tk) (hv:∀C s₀ H₀ ex,PE (kg X scope N C s₀ H₀ ex) ev tv)
  (hs:(∀x,foldedSetIterable iter X.env x=pure x)<|>ζ):PE X (.DictComp ek ev [⟨tg,iter,ifs,0⟩] scope pos) (Yd ob cap wi g tc tk tv):=
 Uq hob hu S (λ_ _ _ _ _=>hc) hi.g hg ht hk hv hs
end L2
namespace Am
open PySem PySem.Spec PyProof.Rows L2
def WV{α:Type}{c:Prop}[Decidable c]{r:R α}{a:α}(h:gd c r=.ok a S):c/\r=.ok a S:=by
 unfold gd at h;by_cases hc:c
 ·rw[aP hc]at h;exact⟨hc,h⟩
 ·rw[aM hc]at h;cases h
def Mb{α:Type}{l m:List α}{n:Nat}{p:α}(h:l <+: m)(e:l[n]?=some p):m[n]?=some p:=by
 obtain⟨t,rfl⟩:=h;rw[br (aJ.mp e).1,e]
abbrev wX (st:A->A->A->iW->R Unit)(s:Src)(g:Tg)(t:Te)(ek ev:Ex)(n:Nat):Nat->Nat->ae->iW->R (ae)
 | 0,_=>λτ S=>if s.fin S then .ok τ S else .no
 | k+1,i=>λτ S=>opt (s.get i S) λx=>(g x τ S).mG λd S1=>(t d S1).mG λb S2=>match b with
  | true=>(ek d S2).mG λy S3=>(ev d S3).mG λz j=>(st (.ref n) y z j).mG λ_ f=>wX st s g t ek ev n k (i+1) d f
  | false=>wX st s g t ek ev n k (i+1) d S2
abbrev Q6 (o:O)(st:A->A->A->iW->R Unit)(cap:List<|bj)(src:Ic)(g:Tg)(t:Te)(ek ev:Ex):Ex:=λτ S=>(src τ S).bind λs S1=>(wX st s g t ek ev S1.length s.k 0 (j3 cap τ)<|S1++[o]).mG λ_ S2=>.ok (.ref S1.length) S2
def Ij{st:A->A->A->iW->R Unit}{s:Src}{g:Tg}{t:Te}{ek ev:Ex}{n k:Nat}{T:Prop}(h:wX st s g t ek ev n (k+1) i τ S=.ok τ' S')
  (q:∀x τ1 S1 b S2,s.get i S=some x->g x τ S=.ok τ1 S1->t τ1 S1=.ok b S2->(b=true->∃y S3 z S4 u S5,ek τ1 S2=.ok y S3/\ev τ1 S3=.ok z S4/\st (.ref n) y z S4=.ok u S5/\wX st s g t ek ev n k (i+1) τ1 S5=.ok τ' S')->(b=false->wX st s g t ek ev n k (i+1) τ1 S2=.ok τ' S')->T):T:=by
 obtain⟨x,j,h⟩:=BE h;obtain⟨τ1,S1,h1,h⟩:=m_ h;obtain⟨b,S2,h2,h⟩:=m_ h;refine q x τ1 S1 b S2 j h1 h2 (λhb=>?_) λhb=>?_
 ·subst hb;obtain⟨y,S3,h3,h⟩:=m_ h;obtain⟨z,S4,d,h⟩:=m_ h;obtain⟨u,S5,f,h⟩:=m_ h;exact⟨y,S3,z,S4,u,S5,h3,d,f,h⟩
 ·subst hb;exact h
structure DKind (K:au)(o:O)(ob:HO)(st:A->A->A->iW->R Unit):Prop where
 obj:∀{P:aj} {w:ah} {H:Hp} (h:aq),sysModules<h.objs.size->jJ P w H (h.push { cls:=.type "dict",data:=.dict #[]}) h.objs.size ob
 new:∀{ρ:bb} {H:Hp} {S:iW} {p:ak},Rel K ρ H S->H p=none->Ext ρ (ρ++[p]) H (upd H p ob)/\Rel K (ρ++[p]) (upd H p ob) (S++[o])/\(ρ++[p])[S.length]?=some p
 put:∀{ρ:bb} {H:Hp} {S S':iW} {n:Nat} {p:ak} {y z:A} {vy vz:V} {u:Unit},Rel K ρ H S->ρ[n]?=some p->AV K ρ H y vy->AV K ρ H z vz->st (.ref n) y z S=.ok u S'->∃H',wR H p vy vz H'/\Ext ρ ρ H H'/\Rel K ρ H' S'
def Rl{K:au}:DKind K (.dct []) (.dT []) oV:=by
 refine⟨λh hb=>yu h hb,λR f=>R.W6 (xs:=[]) (vs:=[]) f trivial,λ{ρ H S S' n p y z vy vz u} R f ay az h=>?_⟩;unfold oV at h
 cases ay with
 | @tup q xs vs hq r=>
  obtain⟨kvs,hn,h⟩:=BE h;obtain⟨g,m,h⟩:=BE h;obtain⟨k,h⟩:=WV h
  cases h
  obtain⟨ks,e,d⟩:=R.dct f<|j_ hn;have z:=oZ r m;subst z;rw[<- uo]at hq;obtain⟨ex,j⟩:=R.putD f (j_ hn)<|d.put az g;exact⟨_,wR.t e hq<|by rw[<- d.length];exact k,ex,j⟩
 | _=>cases h
section
variable {X:Cx}{pos:Pos}{tg iter ek ev:aE}{ifs:List aE}{scope:Scope}{N:ar}{cap:List (bj)}{src:Ic}{g:Tg}{t:Te}{ck cv:Ex}{o:O}{ob:HO}{st:A->A->A->iW->R Unit}
def U9(dk:DKind X.K o ob st)(σ:L2.St)(H:Hp)(Q:VK)(h:tE X (Q6 o st cap src g t ck cv) σ H Q):Yd ob cap (tI X src) (Wl X.K g) (VP X.K t) (UX X.K ck) (UX X.K cv) σ H Q:=by
 cb_eq;refine⟨ρ,S,τ,R,r,iX (jb h) .refl λs S1 h1 ρ1 H1 J e1 R1 jr D hD=>?_⟩;obtain⟨F,S2,V,h1⟩:=yD h1;have h1:xN X ρ H Q (.ref S1.length) S2:=h1;obtain⟨eD,RD,N⟩:=dk.new R1 hD;refine⟨λi m σ' H'=>∃ρ' S' C,i+m=s.k/\Ext (ρ1++[D]) ρ' (upd H1 D ob) H'/\Rel X.K ρ' H' S'/\SR X.K ρ' H' C σ'/\wX st s g t ck cv S1.length m i C S'=.ok F S2,⟨s.k,ρ1++[D],S1++[o],j3 cap τ,(),.refl,RD,QS ((r.ext e1).ext eD) cap,V⟩,?_⟩;rintro i m σ3 H3 ⟨ρ3,S3,B,hm,e3,R3,r3,d⟩;have U:ρ3[S1.length]?=some D:=Mb e3.pre N;have j:=eD.trans e3
 cases m with
 | zero=>
  left;have d:(if s.fin S3 then Am.R.ok B S3 else .no)=.ok F S2:=d
  cases hf:s.fin S3 with
  | false=>rw[hf]at d;cases d
  | true=>
   rw[hf]at d
   cases d
   exact⟨by rw[show i=s.k by lia];exact jr.stop _ H3 ρ3 j.toExt0 R3 hf,h1 ρ3 H3 _ (e1.trans j) R3<|.ref U⟩
 | succ m=>
  right;refine Ij d λx f S4 b Z hx hg4 O hT hF=>?_;have jg:=jr.go i S3 H3 ρ3 x j.toExt0 R3 hx;refine⟨jg.1,λv H4 y=>?_⟩;obtain⟨e4,R4,v4⟩:=jg.2 v H4 y;refine⟨ρ3,S3,B,x,f,S4,R4,r3.ext e4,v4,hg4,λρ5 H5 σ5 e5 R5 L=>⟨ρ5,S4,f,b,Z,R5,L,O,λM H6 p R6=>?_⟩⟩;have q:=(e4.trans e5).trans p
  cases b with
  | false=>
   dsimp only;rw[aM bL];exact⟨m,c9 _,M,Z,f,(),e3.trans q,R6,L.ext p,hF rfl⟩
  | true=>
   dsimp only;rw[aP rfl];obtain⟨y,S6,z,S7,u,S8,hy,hz,hs,cg8⟩:=hT rfl;refine⟨M,Z,f,y,S6,R6,L.ext p,hy,λW H7 vy P R7 a7=>⟨W,S6,f,z,S7,R7,L.ext<|p.trans P,hz,λT H8 vz Y R8 a8=>?_⟩⟩;have G:=(q.trans P).trans Y;obtain⟨H9,dp,e9,R9⟩:=dk.put R8 (Mb (e3.trans G).pre N) (a7.ext Y) a8 hs;exact⟨H9,dp,m,c9 _,T,S8,f,(),(e3.trans G).trans e9,R9,L.ext<|((p.trans P).trans Y).trans e9,cg8⟩
def Q0(dk:∀K,DKind K o ob st)(hu:X.A.units+64<cLine)(hc:X.calm=true)(Sc:CpScope X scope N cap)(hi:AI X tg iter src)(hg:∀C s₀ H₀ ex,AG (kg X scope N C s₀ H₀ ex) tg g)(ht:∀C s₀ H₀ ex,X0 (kg X scope N C s₀ H₀ ex) ifs t)(hk:∀C s₀ H₀ ex,AE (kg X scope N C s₀ H₀ ex) ek ck)(hv:∀C s₀ H₀ ex,AE (kg X scope N C s₀ H₀ ex) ev cv)
  (hs:(∀x,foldedSetIterable iter X.env x=pure x)<|>ζ):AE X (.DictComp ek ev [⟨tg,iter,ifs,0⟩] scope pos) (Q6 o st cap src g t ck cv):=
 PE.imp (WG (dk X.K).obj () hc Sc hi (g:=Wl X.K g) (tc:=VP X.K t) (tk:=UX X.K ck) (tv:=UX X.K cv) (λC s₀ H₀ ex=>(hg C s₀ H₀ ex).g0 rfl) (λC s₀ H₀ ex=>ht C s₀ H₀ ex) (λC s₀ H₀ ex=>(hk C s₀ H₀ ex).e0 rfl) (λC s₀ H₀ ex=>(hv C s₀ H₀ ex).e0 rfl) hs) (U9<|dk X.K)
end
end Am
namespace L2
open PySem PySem.Spec PyProof.Rows
section
variable {X:Cx}{pins:bn}{σ:St}{H:Hp}{s:aC}{a:ak}{xs:List (kO×ak×af)}
def Rz{r:ak}{x:ag}(I:Inv X pins σ H s)(h:H r=some (.tup<|x.map V.int)):TK s.heap x r:=by
 obtain⟨_,d,f,o,h1,h2,_,n,h3⟩:=(show jJ _ _ H s.heap r (.tup<|x.map V.int)from I.hok r _ h);exact⟨o,d.toArray,n,h1,h2,h3,by simpa using intsAre_of f⟩
def w_{b:ak}{k:kO}(I:Inv X pins σ H s)(h:qN H b k):uA s.heap k b:=by
 obtain⟨r1,r2,h1,h2,h3⟩:=h;obtain⟨_,d,g,o,e1,e2,_,n,e3⟩:=(show jJ _ _ H s.heap b (.tup [.ref r1,.ref r2])from I.hok b _ h1);obtain⟨p,m,rfl,f,j⟩:=vals2 g
 cases f
 cases j
 exact⟨o,n,r1,r2,e1,e2,e3,Rz I h2,Rz I h3⟩
def Mm(I:Inv X pins σ H s)(e:H a=some (.ext<|tP a xs))(hk:∀x∈xs,qN H x.2.1 x.1):(a == sysModules)=false/\xs.length<=sizeLine/\s.heap.DictOfH (yz X.prog X.w) a xs:=by
 obtain⟨⟨h1,h2,o,es,ep,h3,d,j,g,f⟩,_⟩:=(show jJ _ _ H s.heap a (.ext<|tP a xs)from I.hok a _ e);exact⟨h1,h2,o,es,ep,h3,d,j,g,λx k=>w_ I<|hk x k,f⟩
def Ma{P:aj}{w:ah}{H':Hp}{h':aq}(h1:(a == sysModules)=false)(h2:xs.length<=sizeLine)(dd:h'.DictOfH (yz P w) a xs):jJ P w H' h' a (.ext<|tP a xs):=by
 obtain⟨o,es,ep,h3,d,m,j,_,f⟩:=dd;refine⟨⟨h1,h2,o,es,ep,h3,d,m,j,f⟩,⟨o,h3⟩,λB C t k=>?_⟩;obtain⟨g,p,o,es,ep,h3,q⟩:=t;exact⟨g,p,o,es,ep,k o h3,q⟩
structure DPg (H:Hp)(a b:ak)(xs:List (kO×ak×af))(k:kO):Prop where
 d:H a=some (.ext<|tP a xs)
 ks:∀x∈xs,qN H x.2.1 x.1
 k:qN H b k
def TV(hu:X.A.units+32<cLine):ni X (compareOp .In) (λy x H Q=>∃a b xs k,x=.ref a/\y=.ref b/\DPg H a b xs k/\Q (.bl (atKey xs k).isSome) H):=by
 intro pins s σ H y x v u Q I ry rx h;obtain⟨a,b,xs,k,rfl,rfl,g,q⟩:=h
 cases rx
 cases ry
 obtain⟨h1,h2,f⟩:=Mm I g.d g.ks;exact wpAny_in_heap (show X.A.in1.units+16<cLine by simp;lia) (w_ I g.k) h1 f ⟨.bl _,H,I.tok _,rfl,q⟩
def CY{xs:List<|kO×ak×af}{k:kO}{b:ak}:(storedH xs k b u).length<=xs.length+1:=by
 unfold storedH;split
 ·rw[aG];lia
 ·rw[bw];exact aL _
def UL(hu:X.A.units+32<cLine):CI X (λo i v H Q=>∃a b xs k,o=.ref a/\i=.ref b/\DPg H a b xs k/\xs.length<sizeLine/\∀u,RelV v u->Q (upd H a<|.ext<|tP a<|storedH xs k b u)):=by
 intro pins s σ H o i v D iv u Q I m p t h;obtain⟨a,b,xs,k,rfl,rfl,g,C,q⟩:=h
 cases m
 cases p
 obtain⟨h1,h2,B⟩:=Mm I g.d g.ks;refine wpAny_setItem_heap (hsz:=h2) (show X.A.in1.units+16<cLine by simp;omega) (w_ I g.k) B λh' f hs=>⟨_,?_,q u t⟩;have j:∃q,h'.get? a=some q:=let⟨q,_,_,hq,_⟩:=f;⟨q,hq⟩
 exact rP I (by rw[g.d];exact True.intro) hs j<|Ma h1 (bJ CY C) f
abbrev Vb:TE:=λ_ H Q=>∀p,H p=none->Q (.ref p) (upd H p<|.ext<|tP p [])
def KQ:PE X (.Dict [] [] pos) Vb:=λpins s σ H Q I h=>
 wpAny_Dict_empty ⟨.ref s.heap.objs.size,_,I.laid (a:=s.heap.objs.size) (o:=.ext<|tP s.heap.objs.size []) (t':=s.toks) (λ_ _ q=>aQ _ q) (aL _)
  (Ma (cK.mpr<|cT<|bA I.big) (bO _) ⟨_,#[],0,bD _ rfl,⟨rfl,rfl,rfl⟩,rfl,rfl,(nofun),cP⟩),rfl,h _<|I.hok.fresh<|aL _⟩
end
end L2
namespace Am
open PySem PySem.Spec PyProof.Rows L2
abbrev lW (S:iW)(n:Nat):Option (List<|kO×A):=match S[n]? with
 | some (.rZ xs)=>some xs
 | _=>none
def lR{n:Nat}(h:lW S n=some xs):S[n]?=some (.rZ xs):=by
 unfold lW at h;split at h
 ·rename_i e;cases h;exact e
 ·cases h
def yx{S:iW}{n:Nat}(h:S[n]?=some (.rZ xs)):lW S n=some xs:=by
 unfold lW;rw[h]
abbrev mJ (kvs:List<|kO×A)(k:kO):Option A:=(kvs.find? λkv=>decide<|kv.1=k).map (·.2)
abbrev wC (kvs:List<|kO×A)(k:kO)(v:A):List (kO×A):=
 if (mJ kvs k).isSome=true then kvs.map (λkv=>if kv.1=k then(kv.1,v)else kv)else kvs++[(k,v)]
abbrev ym (x:A):Option kO:=match x with
 | .tup [.tup xs,.tup ys]=>(A.ints xs).bind λf=>(A.ints ys).map λd=>(f,d)
 | _=>none
section
variable {K:au}{ρ:bb}{H:Hp}
def H_{p:kO×A}{r:List<|kO×A}{k:kO}(e:p.1=k):mJ (p::r) k=some p.2:=by simp[mJ,bT,e]
def Jc{p:kO×A}{r:List<|kO×A}{k:kO}(e:¬p.1=k):mJ (p::r) k=mJ r k:=by simp[mJ,bT,e]
theorem DP.look:∀{kvs:List<|kO×A}{ks:List<|kO×ak×af}(k:kO),DP K ρ H kvs ks->(mJ kvs k).isSome=(atKey ks k).isSome/\∀x,mJ kvs k=some x->∃p v,atKey ks k=some p/\RelV v p.2/\AV K ρ H x v
 | [],[],k,_=>⟨rfl,λx h=>nomatch h⟩
 | p::r,q::r',k,⟨⟨e,_,v,rv,a⟩,t⟩=>by
  by_cases c:p.1=k
  ·have d:q.1=k:=by rw[e,c]
   have b:atKey (q::r') k=some q.2:=by simp[atKey,bT,d]
   rw[H_ c,b];exact⟨rfl,λx h=>by cases h;exact⟨_,v,rfl,rv,a⟩⟩
  ·have d:¬q.1=k:=λz=>c<|e.symm.trans z;have b:atKey (q::r') k=atKey r' k:=by simp[atKey,bT,d]
   rw[Jc c,b];exact DP.look k t
theorem DP.repl{x:A}{v:V}(h:AV K ρ H x v)(rv:RelV v u)(k:kO):∀{kvs:List<|kO×A}{ks:List<|kO×ak×af},DP K ρ H kvs ks->DP K ρ H (kvs.map λkv=>if kv.1=k then(kv.1,x)else kv) (ks.map<|putAt k u)
 | [],[],_=>trivial
 | p::r,q::r',⟨⟨e,ka,z⟩,t⟩=>by
  refine⟨?_,DP.repl h rv k t⟩;dsimp only;unfold putAt;by_cases c:p.1=k
  ·rw[aP c,aP<|by rw[e,c]];exact⟨e,ka,v,rv,h⟩
  ·rw[aM c,aM λz=>c<|e.symm.trans z];exact⟨e,ka,z⟩
theorem DP.snoc{x:A}{v:V}{b:ak}(h:AV K ρ H x v)(rv:RelV v u)(k:kO)(hk:qN H b k):∀{kvs:List<|kO×A}{ks:List<|kO×ak×af},DP K ρ H kvs ks->DP K ρ H (kvs++[(k,x)]) (ks++[(k,b,u)])
 | [],[],_=>⟨⟨rfl,hk,v,rv,h⟩,trivial⟩
 | p::r,q::r',⟨a,t⟩=>⟨a,DP.snoc h rv k hk t⟩
def DP.put{x:A}{v:V}{b:ak}(h:AV K ρ H x v)(rv:RelV v u)(k:kO)(hk:qN H b k){ks:List<|kO×ak×af}(d:DP K ρ H kvs ks):DP K ρ H (wC kvs k x) (storedH ks k b u):=by
 unfold wC storedH;rw[<- (d.look k).1];by_cases c:(mJ kvs k).isSome=true
 ·rw[aP c,aP c];exact DP.repl h rv k d
 ·rw[aM c,aM c];exact DP.snoc h rv k hk d
def DP.length:∀{kvs:List<|kO×A}{ks:List<|kO×ak×af},DP K ρ H kvs ks->kvs.length=ks.length
 | [],[],_=>rfl
 | _::_,_::_,⟨_,t⟩=>cW (·+1) t.length
def DP.keys:∀{kvs:List<|kO×A}{ks:List<|kO×ak×af},DP K ρ H kvs ks->∀x∈ks,qN H x.2.1 x.1
 | [],[],_,x,h=>nomatch h
 | _::_,q::_,⟨⟨_,ka,_⟩,t⟩,x,h=>by
  rcases bF.mp h with z|z
  ·rw[z];exact ka
  ·exact t.keys x z
def Rel.rZ{n:Nat}{a:ak}(R:Rel K ρ H S)(ha:ρ[n]?=some a)(hS:S[n]?=some (.rZ xs)):∃vs,H a=some (.ext<|tP a vs)/\DP K ρ H xs vs:=R.at n a _ ha hS
def Rel.Yr{S:iW}{p:ak}(R:Rel K ρ H S)(hp:H p=none):Ext ρ (ρ++[p]) H (upd H p<|.ext<|tP p [])/\Rel K (ρ++[p]) (upd H p<|.ext<|tP p []) (S++[.rZ []])/\(ρ++[p])[S.length]?=some p:=by
 have ex:Ext ρ (ρ++[p]) H (upd H p<|.ext<|tP p []):=⟨⟨dh _ _,λa u _ h=>by rw[i_<|jo h hp];exact h⟩,λa u h _=>by rw[i_<|jo h hp];exact h,λa h=>by
  rcases bI.mp h with z|z
  ·exact .inl z
  ·have e:a=p:=by simpa using z
   rw[e];exact .inr hp⟩
 have j:p∉ρ:=R.Co hp;have d:(ρ++[p])[S.length]?=some p:=by rw[<- R.len];simp
 refine⟨ex,⟨by simp[R.len],?_,?_⟩,d⟩
 ·rw[cO];f_are;have:b=p:=by simpa using hb
  exact j<|by rw[<- this,<- e];exact ha
 ·intro n a o h1 h2;by_cases hn:n<S.length
  ·rw[br<|by rw[R.len];exact hn]at h1;rw[br hn]at h2;have na:a≠p:=λz=>j (by rw[<- z];exact bB h1);have:=R.at n a o h1 h2
   cases o with
   | lst ys=>obtain⟨f,e,q⟩:=this;exact⟨f,by rw[i_ na];exact e,q.ext ex⟩
   | dct _|oS _|dks _|rZ _=>obtain⟨f,e,q⟩:=this;exact⟨f,by rw[i_ na];exact e,q.ext ex⟩
   | dcf _=>obtain⟨g,f,e,q⟩:=this;exact⟨g,f,by rw[i_ na];exact e,q.ext ex⟩
   | ins _ _=>obtain⟨g,k,e⟩:=this;exact⟨g,k,by rw[i_ na];exact e⟩
  ·have e:n=S.length:=by
    have:=(aJ.mp h2).1;simp at this
    lia
   subst e;rw[d]at h1
   cases h1
   simp at h2;subst h2;exact⟨[],jF,trivial⟩
def Rel.wC{S:iW}{n:Nat}{a:ak}(R:Rel K ρ H S)(ha:ρ[n]?=some a)(hS:S[n]?=some (.rZ xs))(r:DP K ρ H ys ws):Ext ρ ρ H (upd H a<|.ext<|tP a ws)/\Rel K ρ (upd H a<|.ext<|tP a ws) (S.set n<|.rZ ys):=by
 obtain⟨p,e,_⟩:=R.at n a _ ha hS;have ex:Ext ρ ρ H (upd H a<|.ext<|tP a ws):=⟨⟨dg _,λb u i h=>by
  have:b≠a:=by
   intro z;subst z;rw[e]at h;cases h;exact i
  rw[i_ this];exact h⟩,λb u h n=>by
  rw[i_ λz=>n<|by rw[z];exact bB ha];exact h,λ_ h=>.inl h⟩
 refine⟨ex,by rw[bW];exact R.len,R.nd,λm b o h1 h2=>?_⟩;by_cases g:m=n
 ·subst g;rw[ha]at h1;cases h1;rw[bz (aJ.mp hS).1]at h2
  cases h2
  exact⟨ws,jF,r.ext ex⟩
 ·rw[bK<|cT g]at h2;have nb:b≠a:=λz=>by
   subst z;obtain⟨B,e1⟩:=aJ.mp ha;obtain⟨t,e2⟩:=aJ.mp h1;exact g<|(cH R.nd).mp<|e2.trans e1.symm
  have:=R.at m b o h1 h2
  cases o with
  | lst ys=>obtain⟨d,f,q⟩:=this;exact⟨d,by rw[i_ nb];exact f,q.ext ex⟩
  | dct _|oS _|dks _|rZ _=>obtain⟨d,f,q⟩:=this;exact⟨d,by rw[i_ nb];exact f,q.ext ex⟩
  | dcf _=>obtain⟨j,d,f,q⟩:=this;exact⟨j,d,by rw[i_ nb];exact f,q.ext ex⟩
  | ins _ _=>obtain⟨j,k,f⟩:=this;exact⟨j,k,by rw[i_ nb];exact f⟩
def AO{x:A}{v:V}{k:kO}(a:AV K ρ H x v)(h:ym x=some k):∃b,v=.ref b/\qN H b k:=by
 unfold ym at h;split at h
 ·rename_i xs ys;obtain⟨q,h1,h⟩:=b8.mp h;obtain⟨B,h2,e⟩:=aW.mp h;subst e
  cases a with
  | @tup b _ t hb r=>
   obtain⟨C,D,rfl,g,p⟩:=LB r
   cases g with
   | @tup c1 _ d m r1=>
    cases p with
    | @tup c2 _ j f r2=>
     have e1:=oZ r1 h1;have e2:=oZ r2 h2;subst e1 e2;exact⟨b,rfl,c1,c2,hb,m,f⟩
 ·cases h
end
section
variable {X:Cx}{pos:Pos}{a b:aE}
abbrev yS (neg:Bool)(x y:A)(S:iW):R A:=match y with
 | .ref n=>opt (lW S n) λkvs=>opt (ym x) λk=>.ok (.bl<|if neg then !(mJ kvs k).isSome else(mJ kvs k).isSome) S
 | _=>.no
def WJ(hu:X.A.units+64<cLine):ni X (compareOp .In) (r2 X<|yS false):=λpins s σ H x y v u Q I rx ry h9=>by
 z_go
 cases vb with
 | @ref p n f=>
  mg_lt;obtain⟨k,j,h⟩:=iY h;obtain⟨ks,e,d⟩:=R.rZ f<|lR hn;obtain⟨q,rfl,g⟩:=AO va j;exact TV () pins s σ H _ _ v u Q I rx ry ⟨p,q,ks,k,rfl,rfl,⟨e,d.keys,g⟩,by rw[<- (d.look k).1];exact h _ _ _ .refl R<|.bl _⟩
 | _=>exact h.elim
abbrev CW (o i v:A)(S:iW):R Unit:=match o with
 | .ref n=>opt (lW S n) λkvs=>opt (ym i) λk=>gd (kvs.length<sizeLine) (.ok Unit.unit<|S.set n<|.rZ<|wC kvs k v)
 | _=>.no
abbrev YQ (X:Cx):EO:=λo i v H Q=>∃ρ S ao f d,Rel X.K ρ H S/\AV X.K ρ H ao o/\AV X.K ρ H f i/\AV X.K ρ H d v/\(CW ao f d S).post (λ_ g=>∀ρ' H',Ext ρ ρ' H H'->Rel X.K ρ' H' g->Q H') (XE X ρ H)
def OD(hu:X.A.units+64<cLine):CI X (YQ X):=λpins s σ H o i v G iv u Q I t B C h9=>by
 obtain⟨ρ,S,ao,K,J,R,h1,h2,h3,h⟩:=h9
 cases h1 with
 | @ref p n f=>
  mg_lt;obtain⟨k,F,h⟩:=iY h;obtain⟨D,h⟩:=jq h;obtain⟨ks,e,d⟩:=R.rZ f<|lR hn;obtain⟨q,rfl,g⟩:=AO h2 F;refine UL (by omega) pins s σ H _ _ v G iv u Q I t B C ⟨p,q,ks,k,rfl,rfl,⟨e,d.keys,g⟩,by rw[<- d.length];exact D,λL m=>?_⟩;obtain⟨ex,j⟩:=R.wC f (lR hn)<|d.put h3 m k g;exact h _ _ ex j
 | _=>exact h.elim
abbrev Ou (co ci:Ex):Tg:=λa τ S=>(co τ S).bind λo S1=>(ci τ S1).bind λi S2=>(CW o i a S2).bind λ_ S3=>.ok τ S3
def Hx(hu:X.A.units+64<cLine){co ci:Ex}(ho:AE X o co)(hi:AE X i ci)
  (ha:(∀v,assign (.Subscript o i pos) X.env v=(do
   let ov <- holding [v] (eval o X.env)
   let iv <- holding [v,ov] (eval i X.env)
   standAt pos
   holding [v,ov,iv] (setItem ov iv v)
   release [v,ov,iv] []))<|>ζ):AG X (.Subscript o i pos) (Ou co ci):=PG.imp (z9 ho hi (OD hu) ha) λv σ H Q h9=>by
 obtain⟨ρ,S,τ,a,R,r,va,h⟩:=h9;w_up;gn_on;ksr_p
abbrev DY:Ex:=λ_ S=>.ok (.ref S.length)<|S++[.rZ []]
def J1:AE X (.Dict [] [] pos) DY:=PE.imp KQ λσ H Q ⟨ρ,S,τ,R,r,h⟩ p f=>by
 obtain⟨ex,g,d⟩:=R.Yr f;exact h _ _ _ ex g<|.ref d
end
abbrev Em {α:Type}(x:ag×α):List (ag×α)->List (ag×α)
 | []=>[x]
 | y::ys=>if HT.lexLt y.1 x.1=true then y::Em x ys else x::y::ys
abbrev yQ {α:Type}:List (ag×α)->List (ag×α)
 | []=>[]
 | x::xs=>Em x<|yQ xs
section
variable {α:Type}
theorem zM(x:ag×α):∀ys:List<|ag×α,(Em x ys).Perm (x::ys)
 | []=>fj _
 | y::ys=>by
  unfold Em;by_cases h:HT.lexLt y.1 x.1=true
  ·rw[aP h];exact((zM x ys).cons y).trans (List.Perm.swap x y ys)
  ·rw[aM h]
theorem u9:∀xs:List<|ag×α,(yQ xs).Perm xs
 | []=>fj _
 | x::xs=>(zM x<|yQ xs).trans<|(u9 xs).cons x
theorem DB(x:ag×α):∀ys:List<|ag×α,(Em x ys).map Prod.fst=Be x.1 (ys.map Prod.fst)
 | []=>rfl
 | y::ys=>by
  unfold Em;rw[bE];unfold Be;by_cases h:HT.lexLt y.1 x.1=true
  ·rw[aP h,aP h,bE,DB]
  ·rw[aM h,aM h];rfl
theorem zK:∀xs:List<|ag×α,(yQ xs).map Prod.fst=jD (xs.map Prod.fst)
 | []=>rfl
 | x::xs=>by
  show(Em x<|yQ xs).map Prod.fst=Be x.1 (jD<|xs.map Prod.fst);rw[DB,zK]
theorem Ai:∀{l:List<|ag×α},(l.map Prod.fst).Nodup->∀a∈l,∀b∈l,a.1=b.1->a=b
 | [],_,_,h,_,_,_=>nomatch h
 | x::l,nd,a,ha,b,hb,e=>by
  obtain⟨h1,h2⟩:=cR.mp nd
  rcases bF.mp ha with j|f
  ·rcases bF.mp hb with g|d
   ·rw[j,g]
   ·subst j;exact absurd (e ▸ dD d) h1
  ·rcases bF.mp hb with g|d
   ·subst g;exact absurd (e ▸ dD f) h1
   ·exact Ai h2 a f b d e
def Ek{xs ys:List<|ag×α}(nd:(ys.map Prod.fst).Nodup)(p:xs.Perm ys)(h:(xs.map Prod.fst).Pairwise Ax):xs=yQ ys:=by
 refine dZ (le:=λ(a b:ag×α)=>Ax a.1 b.1) (λ(a b:ag×α) ha hb h1 h2=>Ai nd a (p.mem_iff.mp ha) b ((u9 ys).mem_iff.mp hb) (Sx.vp (show HT.lexLt b.1 a.1=false from h1)<|show HT.lexLt a.1 b.1=false from h2).symm) ?_ ?_ (p.trans (u9 ys).symm)
 ·exact cj.mp h
 ·have:=tW<|ys.map Prod.fst;rw[<- zK]at this;exact cj.mp this
end
end Am
namespace L2
open PySem PySem.Spec PyProof.Rows
section
variable {X:Cx}
def RK{H:Hp}{s:aC}{d:ak}{kvs:List<|List Key×V}(I:Inv X pins σ H s)(ed:Rd H d<|.dT kvs) :
  ∃(ob:Obj) (es:Array DictEntry) (ep:Nat) (rs:bb),s.heap.get? d=some ob/\ob.cls=.type "dict" /\ ob.data=.dict es ep/\(d == sysModules)=false/\kvs.length<=sizeLine/\rs.length=kvs.length/\es.size=kvs.length /\
   (∀i:Nat,(es[i]?).map (λe:DictEntry=>e.key)=(rs[i]?).map Value.ref)/\∀(i:Nat) r p,rs[i]?=some r->kvs[i]?=some p->H r=some (.tup<|p.1.map kV):=by
 obtain⟨z,B,xs,f,D⟩:=xX I.hok ed;obtain⟨ob,es,ep,C,t,q,k,G,J⟩:=id D;obtain⟨j,m⟩:=kt_at f;have g:es.size=xs.length:=by have:=cW List.length k;simpa using this
 refine⟨ob,es,ep,xs.map λy=>y.2.1,C,t.1,q,B,z,by rw[aG,j],by rw[g,j],λi=>?_,λi r p e1 e2=>?_⟩
 ·rw[<- cM,k,aR,aR,dO,dO]
  cases xs[i]?<;>rfl
 ·obtain⟨y,h1,h2,h3,F⟩:=m i p e2;rw[aR,h1]at e1
  cases e1
  exact h3
def BF(hc:X.calm=true):jA X (.builtin "sorted") (λxs H Q=>∃(d:ak) (kvs:List<|List Key×V) (kss:List<|ag),xs=[.ref d]/\Rd H d (.dT kvs)/\kvs.map (λp=>p.1)=kss.map (λks=>ks.map Sum.inl)/\(∀ks∈kss,ks≠[])/\Sx.RO kss.length /\
  ∀(rs:bb) l g,rs.length=kss.length->(∀(i:Nat) (r:ak) (ks:ag),rs[i]?=some r->kss[i]?=some ks->H r=some (.tup<|ks.map V.int))->H l=none->Sx.Cl g 0 kss.length->Sx.So (Sx.Cw kss) g 0 kss.length ->
   Q (.ref l) (upd H l<|.lst<|((List.range kss.length).map λi=>rs.getD (g i) 0).map V.ref)):=by
 fin2;obtain⟨d,kvs,kss,rfl,T,ek,k,L,q⟩:=h;kj_on
 cases rx
 obtain⟨ob,es,ep,rs,N,K,J,P,C,B,O,M,W⟩:=RK I T;have t:kvs.length=kss.length:=by have:=cW List.length ek;simpa using this
 have D:∀(i:Nat) (r:ak) (ks:ag),rs[i]?=some r->kss[i]?=some ks->H r=some (.tup<|ks.map V.int):=λi r ks e1 e2=>by
  have lt:i<kvs.length:=by rw[t];exact(aJ.mp e2).1
  have h1:=W i r kvs[i] e1 (aH lt);have h2:(kvs.map λp=>p.1)[i]?=(kss.map λks=>ks.map Sum.inl)[i]?:=by rw[ek]
  rw[aR,aR,e2,aH lt]at h2;have h3:kvs[i].1=ks.map Sum.inl:=aZ h2;rw[h3,bg]at h1;exact h1
 o_rec;unfold Builtin.«sorted»;refine aI (m:=checkCount "sorted" 1 1 _)<|aN ?_;refine aI (gP (E5 P K J) (show X.A.in1.handled=none from I.ok.hd hc) N (by rw[O];exact C) λh' F acc U f=>?_);have G:acc.toList=rs.map Value.ref:=by
  refine eY λj=>?_;rw[cM,aR,<- M j]
  cases e:acc[j]? with
  | some v=>exact(f.2 j v e).symm
  | none=>
   have:acc.size<=j:=ig.mp e;rw[eF<|by rw[<- f.1];exact this];rfl
 rw[G];exact wA (s:=s) (I.kept (t':=F) U) L (by rw[B,t]) (by rw[B];exact C) (λi r ks e1 e2=>⟨nj.of<|D i r ks e1 e2,k ks<|bB e2⟩) λl g h1 h2 h3=>q rs l g (by rw[B,t]) D h1 h2 h3
end
end L2
namespace Am
open PySem PySem.Spec PyProof.Rows L2
section
variable {X:Cx}{pos:Pos}{a b:aE}
abbrev j5 (S:iW)(n:Nat):Option (List<|ag×A):=match S[n]? with
 | some (.dct kvs)=>some kvs
 | some (.dcf kvs)=>some kvs
 | _=>none
def FE{K:au}{H:Hp}{n:Nat}{p:ak}(R:Rel K ρ H S)(hp:ρ[n]?=some p)(hn:j5 S n=some kvs):∃ks,Rd H p (.dT ks)/\DV K ρ H kvs ks:=by
 unfold j5 at hn;split at hn
 ·rename_i h
  cases hn
  obtain⟨ks,e,d⟩:=R.at n p _ hp h;exact⟨ks,.inl e,d⟩
 ·rename_i h
  cases hn
  obtain⟨o,ks,e,d⟩:=R.at n p _ hp h;exact⟨ks,.inr ⟨o,e⟩,d⟩
 ·cases hn
def CO{H:Hp}{p q:ak}{n:Nat}{ns:ag}(R:Rel X.K ρ H S)(hp:ρ[n]?=some p)(hn:j5 S n=some kvs)(hq:H q=some (.tup vs))(r:AVs X.K ρ H xs vs)(hi:A.ints xs=some ns) :
  ∃ks,DV X.K ρ H kvs ks/\rY H p (.ref q) (o_ ks<|ns.map Sum.inl):=by
 obtain⟨ks,e,d⟩:=FE R hp hn;have z:=oZ r hi;subst z;rw[<- uo]at hq;exact⟨ks,d,.inr ⟨ks,ns.map Sum.inl,q,e,rfl,hq,rfl⟩⟩
abbrev JL (x y:A)(S:iW):R A:=match x,y with
 | .ref n,.tup xs=>opt (j5 S n) λkvs=>opt (A.ints xs) λd=>opt (jK kvs d) λv=>.ok v S
 | _,_=>.no
def Wz(hu:X.A.units+64<cLine):OX X (r2 X JL):=λj f pins s σ H x y v u Q I rx ry ⟨ρ,S,a,b,R,va,vb,h⟩ hs=>by
 cases va with
 | @ref p n t=>
  cases vb with
  | @tup q xs D hq r=>
   mg_lt;obtain⟨k,B,h⟩:=iY h;obtain⟨z,m,h⟩:=iY h;obtain⟨ks,d,g⟩:=CO R t hn hq r B;obtain⟨w,hw,C⟩:=(d.look k).2 z m;rw[hw]at g;exact BU () j f pins s σ H _ _ v u Q I rx ry ⟨p,w,rfl,g,h _ _ _ .refl R C⟩ hs
  | _=>exact h.elim
 | _=>exact h.elim
def U4(hu:X.A.units+64<cLine){ca cb:Ex}(ha:AE X a ca)(hb:AE X b cb)(hs:vI b<|>θ):AE X (.Subscript a b pos) (jc JL ca cb):=PE.imp (F0 (Wz hu) ha hb hs) λσ H Q h=>rS h
abbrev IE (neg:Bool)(x y:A)(S:iW):R A:=match x,y with
 | .tup xs,.ref n=>opt (j5 S n) λkvs=>opt (A.ints xs) λd=>.ok (.bl<|if neg then !(jK kvs d).isSome else(jK kvs d).isSome) S
 | _,_=>.no
def XJ(hu:X.A.units+64<cLine):ni X (compareOp .In) (r2 X<|IE false):=λpins s σ H x y v u Q I rx ry h9=>by
 z_go
 cases va with
 | @tup q xs m hq r=>
  cases vb with
  | @ref p n k=>
   mg_lt;obtain⟨f,j,h⟩:=iY h;obtain⟨ks,d,g⟩:=CO R k hn hq r j;exact UK () pins s σ H _ _ v u Q I rx ry ⟨p,_,rfl,g,by rw[<- (d.look f).1];exact h _ _ _ .refl R<|.bl _⟩
  | _=>exact h.elim
 | _=>exact h.elim
def Rel.V7{K:au}{H:Hp}{S:iW}{n:Nat}{a:ak}{ks:List<|List Key×V}(R:Rel K ρ H S)(ha:ρ[n]?=some a)(hS:S[n]?=some (.dct xs))(d:DV K ρ H xs ks):Ext ρ ρ H (upd H a<|.frz o<|.dT ks)/\Rel K ρ (upd H a<|.frz o<|.dT ks) (S.set n<|.dcf xs):=by
 obtain⟨ex,R2⟩:=R.gone (o:=o) (u:=.dT ks) ha hS;refine⟨ex,by rw[bW];exact R.len,R.nd,λm b ob h1 h2=>?_⟩;by_cases f:m=n
 ·subst f;rw[ha]at h1;cases h1;rw[bz (aJ.mp hS).1]at h2
  cases h2
  exact⟨o,ks,jF,d.ext ex⟩
 ·rw[bK<|cT f]at h2;exact R2.at m b ob h1<|by rw[bK<|cT f];exact h2
abbrev Y8 (a:A)(S:iW):R Src:=match a with
 | .ref n=>opt (jj S n) λkvs=>.ok (oG<|kvs.map XQ) (S.set n<|.dcf kvs)
 | _=>.no
abbrev DC (c:Ex):Ic:=λτ S=>(c τ S).bind λa S1=>Y8 a S1
def CU{e:aE}{c:Ex}(ha:AE X e c):AI X tg e (DC c):=λpins s σ H Q I h9=>by
 x_go;refine Oc ha pins s σ H Q I ⟨ρ,S,τ,R,r,iX (jb h) .refl λx S1 h1 ρ1 H1 v e1 R1 v1=>?_⟩
 cases v1 with
 | @ref p n t=>
  obtain⟨kvs,hn,h1⟩:=iY h1;obtain⟨ks,G,k⟩:=R1.dct t<|j_ hn;refine⟨p,ks,rfl,G,λo d pl f=>?_⟩;obtain⟨ex,R2⟩:=R1.V7 (o:=o) t (j_ hn) k;have dl:=k.length;refine h1 ρ1 _ _ (e1.trans ex) R2 ⟨λi S2 H2 ρ2 y e2 R3 g=>?_,λS2 H2 ρ2 e2 R3 _=>⟨?_,e2.im _ _ trivial jF⟩⟩
  ·have g:(kvs.map XQ)[i]?=some y:=g;rw[aR]at g;obtain⟨kv,J,rfl⟩:=aW.mp g;obtain⟨q,hq,D,L⟩:=Rt k J;have m:i<d.length:=by rw[pl];exact(aJ.mp hq).1
   have e4:=f i d[i] q (aH m) hq;refine⟨⟨⟨d[i],aH m⟩,e2.im _ _ trivial jF⟩,λK H' F=>?_⟩;obtain⟨rfl,C⟩:=F;have j:=C _<|aH m;subst j;have B:H' d[i]=some (.tup<|q.1.map kV):=e2.im _ _ trivial<|ex.toExt0.im _ _ trivial e4;rw[D,uo]at B;exact⟨.refl,R3,.tup B<|pO _⟩
  ·show(kvs.map XQ).length=d.length;rw[aG,dl,pl]
 | _=>exact h1.elim
end
section
variable {X:Cx}
abbrev BO (x:A)(S:iW):R A:=match x with
 | .ref n=>opt (iU S n) λxs=>opt (VH xs) λd=>gd (d.length<64) (.ok (.ref S.length)<|S++[.lst<|(jD d).map λks=>.tup<|ks.map .int])
 | _=>.no
def P6:jA X (.builtin "sorted") (rN X<|f1 BO):=jA.imp Bf λD H Q h0=>by
 kt_k;clear h0
 cases hv with
 | ref C=>
  rename_i p n;kcj_m;obtain⟨d,hb,h⟩:=iY h;obtain⟨k,h⟩:=jq h;obtain⟨us,h1,r⟩:=R.lst C<|ji hn;obtain⟨f,rfl,t,j⟩:=QK r hb;refine⟨p,f,d,rfl,p7.of h1,Sx.Uu k,t,λi r ks e1 e2=>⟨(j i r ks e1 e2).1,(j i r ks e1 e2).2.1⟩,λl g m hc hs=>?_⟩;have q:AVs X.K ρ H ((jD d).map λks=>.tup<|ks.map .int) (((List.range d.length).map λi=>f.getD (g i) 0).map V.ref):=by
   rw[<- Ju hc hs,bg,bg];refine Ah λi B=>?_;have lt:=(hc i (bO _)<|cg.mp B).2;have e1:f[g i]?=some (f.getD (g i) 0):=by rw[aK,aH ()];rfl
   have e2:d[g i]?=some (d.getD (g i) []):=by rw[aK,aH lt];rfl
   exact(j _ _ _ e1 e2).2.2
  exact nM R q .refl h l m
 | _=>exact h.elim
abbrev VQ (kss:List<|ag):Bool:=kss.all (λks=>!ks.isEmpty) && decide (kss.length<64)
def Lh{kss:List<|ag}(h:∀k∈kss,k≠[])(h2:kss.length<64):VQ kss=true:=by
 unfold VQ;rw[aY h2,Bool.and_true];exact dc.mpr λk d=>by
  cases k with
  | nil=>exact absurd rfl (h _ d)
  | cons _ _=>rfl
def EY{H:Hp}{S:iW}{kvs:List<|ag×A}{ks:List<|List Key×V}{Q:VK}(R:Rel X.K ρ H S)(dv:DV X.K ρ H kvs ks)(h:(gd (VQ (kvs.map Prod.fst)=true)<|Am.R.ok (A.ref S.length)<|S++[O.lst<|(jD<|kvs.map Prod.fst).map λks=>.tup<|ks.map .int]).post (xN X ρ H Q)<|XE X ρ H) :
  ks.map (λp=>p.1)=(kvs.map Prod.fst).map (λks=>ks.map Sum.inl)/\(∀k∈kvs.map Prod.fst,k≠[])/\Sx.RO (kvs.map Prod.fst).length /\
  ∀(rs:bb) l g,rs.length=(kvs.map Prod.fst).length->(∀(i:Nat) (r:ak) (ks:ag),rs[i]?=some r->(kvs.map Prod.fst)[i]?=some ks->H r=some (.tup<|ks.map V.int))->H l=none->Sx.Cl g 0 (kvs.map Prod.fst).length->Sx.So (Sx.Cw<|kvs.map Prod.fst) g 0 (kvs.map Prod.fst).length ->
   Q (.ref l) (upd H l<|.lst<|((List.range (kvs.map Prod.fst).length).map λi=>rs.getD (g i) 0).map V.ref):=by
 obtain⟨hb,h⟩:=jq h;unfold VQ at hb;rw[cX]at hb;refine⟨Hw dv,λk m z=>?_,Sx.Uu<|bH hb.2,λrs l g t j d hc hs=>?_⟩
 ·have:=dc.mp hb.1 k m;rw[z]at this
  cases this
 have f:AVs X.K ρ H ((jD<|kvs.map Prod.fst).map λks=>.tup<|ks.map .int) (((List.range (kvs.map Prod.fst).length).map λi=>rs.getD (g i) 0).map V.ref):=by
  rw[<- Ju hc hs,bg,bg];refine Ah λi q=>?_;have lt:=(hc i (bO _)<|cg.mp q).2;have e1:rs[g i]?=some (rs.getD (g i) 0):=by rw[aK,aH ()];rfl
  have e2:(kvs.map Prod.fst)[g i]?=some ((kvs.map Prod.fst).getD (g i) []):=by rw[aK,aH lt];rfl
  exact .tup (j _ _ _ e1 e2)<|pO _
 exact nM R f .refl h l d
abbrev xg (x:A)(S:iW):R A:=match x with
 | .ref n=>opt (jj S n) λkvs=>gd (VQ (kvs.map Prod.fst)=true) (.ok (.ref S.length)<|S++[.lst<|(jD<|kvs.map Prod.fst).map λks=>.tup<|ks.map .int])
 | _=>.no
def JZ(hc:X.calm=true):jA X (.builtin "sorted") (rN X<|f1 xg):=jA.imp (Bb hc) λk H Q h0=>by
 kt_k;clear h0
 cases hv with
 | ref j=>
  rename_i p n;mg_lt;obtain⟨ks,f,g⟩:=R.dct j<|j_ hn;obtain⟨a,b,c,d⟩:=EY R g h;exact⟨p,ks,kvs.map Prod.fst,rfl,f,a,b,c,d⟩
 | _=>exact h.elim
abbrev BX (x:A)(S:iW):R A:=match x with
 | .ref n=>opt (j5 S n) λkvs=>gd (VQ (kvs.map Prod.fst)=true) (.ok (.ref S.length)<|S++[.lst<|(jD<|kvs.map Prod.fst).map λks=>.tup<|ks.map .int])
 | _=>.no
def Lz(hc:X.calm=true):jA X (.builtin "sorted") (rN X<|f1 BX):=jA.imp (BF hc) λk H Q h0=>by
 kt_k;clear h0
 cases hv with
 | ref j=>
  rename_i p n;mg_lt;obtain⟨ks,f,g⟩:=FE R j hn;obtain⟨a,b,c,d⟩:=EY R g h;exact⟨p,ks,kvs.map Prod.fst,rfl,f,a,b,c,d⟩
 | _=>exact h.elim
abbrev vN (x:A)(S:iW):R A:=match x with
 | .ref n=>opt (kF S n) λkvs=>gd (kvs.length<64) (.ok (.ref S.length)<|S++[.lst<|(sortI<|kvs.map Prod.fst).map .int])
 | _=>.no
def LQ(hc:X.calm=true):jA X (.builtin "sorted") (rN X<|f1 vN):=jA.imp (Aq hc) λt H Q h0=>by
 kt_k;clear h0
 cases hv with
 | ref q=>
  rename_i p n;mg_lt;obtain⟨d,h⟩:=jq h;obtain⟨ks,j,m⟩:=R.oS q<|oY hn;refine⟨p,ks,kvs.map Prod.fst,rfl,j,by rw[m.keys,bg];rfl,Sx.Uu<|by rw[aG];exact d,λl g f hc hs=>?_⟩;have k:AVs X.K ρ H ((sortI<|kvs.map Prod.fst).map .int) ((List.range (kvs.map Prod.fst).length).map λi=>V.int<|(kvs.map Prod.fst).getD (g i) 0):=by
   rw[<- OL hc hs,bg];exact Ah λi _=>.int _
  exact nM R k .refl h l f
 | _=>exact h.elim
end
end Am
namespace L2
open PySem PySem.Spec PyProof.Rows
section
variable {X:Cx}{o e:aE}{es:List aE}{to:TE}{t:TA}{name:Str}{apos cpos:Pos}{T id:String}{r:V->List V->Hp->VK->Prop}
abbrev tBG (ty:V->Hp->Prop)(r:V->List V->Hp->VK->Prop)(to:TE)(t:TA):TE:=λσ H Q=>to σ H λx H1=>ty x H1/\t σ H1 λxs H2=>r x xs H2 Q
def WC{ty:V->Hp->Prop}(hT:∀{pins:bn}{σ:St}{H:Hp}{s:aC}{x:V}{v:af},Inv X pins σ H s->RelV x v->ty x H->s.TypeIs v T/\∀a,v=.ref a->∃ob,s.heap.get? a=some ob/\ob.dict=none)
  (pa:PlainAttrs T) (slot:Slot T name id) (hty:typeOf (.builtin id)=pure (.type "method_descriptor")) (hm:EF X id r) (ho:PE X o to) (ha:PA X (e::es) t)
  (hbase:attributeBase o name X.env (eval o X.env)=eval o X.env<|>ε)
  (hfew:(((backTo cpos<|starEach (e::es) X.env).all (λx=>!x.1) && (backToKw cpos<|keywordEach [] X.env).all (λx=>x.1.isSome)
   && decide ((e::es).length+([]:List Keyword).length+(if ([]:List Keyword).isEmpty then 0 else 1)<30))=true)<|>ε)
  (hline:(apos.endLine == cpos.line)=true<|>ε) (hs:starEach (e::es) X.env=(false,eval e X.env)::starEach es X.env<|>ε) (hplain:((backTo cpos<|starEach es X.env).any (·.1)=false)<|>ε) :
  PE X (.Call (.Attribute o name apos) (e::es) [] cpos) (tBG ty r to t):=by
 kd_p;refine wpAny_Call_method_late hbase hfew hline rfl<|lA (ho pins s σ H _ I h) λv m h9=>?_;obtain⟨x,H1,f,r1,d,q⟩:=h9;obtain⟨h1,h2⟩:=hT f r1 d;refine⟨T,id,pa,slot,hty,h1,h2,?_⟩;have g:=ha cpos pins m σ H1 _ f q;rw[hs]at g ⊢;refine f_ (by show(false || (backTo cpos<|starEach es X.env).any (·.1))=false;rw[hplain]<;>rfl)<|Calls.evalArgs_plain ?_;refine lA g λus p h9=>?_;obtain⟨j,H2,B,r2,k⟩:=h9;exact hm pins p σ H2 x j v us Q B r1 r2 k
abbrev tyP (x:V)(H:Hp):Prop:=∃a xs,x=.ref a/\H a=some (.ext<|tP a xs)
def SO{H:Hp}{s:aC}{x:V}{v:af}(I:Inv X pins σ H s)(r:RelV x v)(h:tyP x H):s.TypeIs v "dict" /\ ∀a,v=.ref a->∃ob,s.heap.get? a=some ob/\ob.dict=none:=by
 obtain⟨a,xs,rfl,e⟩:=h
 cases r
 obtain⟨⟨h1,h2,o,es,ep,h3,d,_⟩,_⟩:=(show jJ _ _ H s.heap a (.ext<|tP a xs)from I.hok a _ e);exact⟨⟨o,h3,d.1⟩,λb z=>by cases z;exact⟨o,h3,d.2.1⟩⟩
def Wq(hu:X.A.units+32<cLine):EF X "dict.get" (λx as H Q=>∃a b xs k y,x=.ref a/\as=[.ref b,y]/\DPg H a b xs k/\(∀p,atKey xs k=some p->∃v,RelV v p.2/\Q v H)/\(atKey xs k=none->Q y H)):=by
 intro pins s σ H x as v us Q I rx B h;obtain⟨a,b,xs,k,y,rfl,rfl,g,C,j⟩:=h
 cases rx
 obtain⟨m,t,rfl,r1,r2⟩:=vals2 B
 cases(show m=Value.ref b from r1)
 obtain⟨h1,h2,f⟩:=Mm I g.d g.ks;refine iJ cz f.typeIs eE (d9 _ _ _) (fY (yz X.prog X.w) a b h1 t) ⟨show X.A.in1.units+16<cLine by simp;lia,k,xs,w_ I g.k,f,?_⟩
 cases e:atKey xs k with
 | none=>exact⟨y,H,I.tok _,r2,j e⟩
 | some p=>
  obtain⟨z,D,q⟩:=C p e;exact⟨z,H,I.tok _,D,q⟩
end
end L2
namespace Am
open PySem PySem.Spec PyProof.Rows L2
section
variable {X:Cx}
abbrev dq? (a:A)(S:iW):Option Unit:=match a with
 | .ref n=>(lW S n).map λ_=>Unit.unit
 | _=>none
abbrev Vw (f:A->ae->iW->R A)(co:Ex)(d:p6):Ex:=λτ S=>(co τ S).bind λx S1=>opt (dq? x S1) λ_=>(d τ S1).bind λas S2=>f x as S2
def PM{f:A->ae->iW->R A}{co:Ex}{d:p6}:Vw f co d τ S=(co τ S).bind λx S1=>opt (dq? x S1) λ_=>(d τ S1).bind λas S2=>f x as S2:=rfl
def dq?_ty{K:au}{H:Hp}{x:A}{v:V}(R:Rel K ρ H S)(a:AV K ρ H x v)(e:dq? x S=some u):tyP v H:=by
 cases a with
 | @ref p n h=>
  obtain⟨xs,f,_⟩:=aW.mp e;obtain⟨d,h1,_⟩:=R.rZ h<|lR f;exact⟨p,d,rfl,h1⟩
 | _=>cases e
abbrev zL (o:A)(as:ae)(S:iW):R A:=match o,as with
 | .ref n,[x,y]=>opt (lW S n) λkvs=>opt (ym x) λk=>.ok ((mJ kvs k).getD y) S
 | _,_=>.no
def Ec{x:A}{P:A->iW->Prop}{E:Str->iW->Prop}(h:(zL x as S).post P E):∃n w y kvs k,x=.ref n/\as=[w,y]/\lW S n=some kvs/\ym w=some k/\P ((mJ kvs k).getD y) S:=by
 unfold zL at h;split at h
 ·obtain⟨kvs,h1,h⟩:=iY h;obtain⟨k,h2,h⟩:=iY h;exact⟨_,_,_,kvs,k,rfl,rfl,h1,h2,h⟩
 ·exact h.elim
def Vk(hu:X.A.units+64<cLine):EF X "dict.get" (rM X zL):=λpins s σ H x M v us Q I rx D h9=>by
 obtain⟨ρ,S,o,as,R,C,va,h⟩:=h9;obtain⟨n,w,y,kvs,k,t,has,hn,G,hP⟩:=Ec h;subst t has;obtain⟨O,J,rfl,j,hy⟩:=LB va
 cases C with
 | @ref p _ m=>
  obtain⟨ks,e,d⟩:=R.rZ m<|lR hn;obtain⟨q,rfl,B⟩:=AO j G;obtain⟨f,F⟩:=d.look k;refine Wq () pins s σ H _ _ v us Q I rx D ⟨p,q,ks,k,J,rfl,rfl,⟨e,d.keys,B⟩,λN e2=>?_,λe2=>?_⟩
  ·cases e1:mJ kvs k with
   | none=>rw[e1,e2]at f;cases f
   | some g=>
    obtain⟨p2,v2,e3,L,K⟩:=F g e1;rw[e2]at e3
    cases e3
    rw[e1]at hP;exact⟨v2,L,hP _ _ _ .refl R K⟩
  ·cases e1:mJ kvs k with
   | none=>rw[e1]at hP;exact hP _ _ _ .refl R hy
   | some g=>rw[e1,e2]at f;cases f
def UJ{e:aE}{id:String}{apos cpos:Pos}{f:A->ae->iW->R A}{co:Ex}{d:p6}(slot:Slot "dict" name id)(hty:typeOf (.builtin id)=pure (.type "method_descriptor"))(hm:EF X id<|rM X f)(ho:AE X o co)(ha:AL X (e::es) d)
  (hbase:attributeBase o name X.env (eval o X.env)=eval o X.env<|>ε)
  (hfew:(((backTo cpos<|starEach (e::es) X.env).all (λx=>!x.1) && (backToKw cpos<|keywordEach [] X.env).all (λx=>x.1.isSome)
   && decide ((e::es).length+([]:List Keyword).length+(if ([]:List Keyword).isEmpty then 0 else 1)<30))=true)<|>ε)
  (hline:(apos.endLine == cpos.line)=true<|>ε) (hs:starEach (e::es) X.env=(false,eval e X.env)::starEach es X.env<|>ε) (hplain:((backTo cpos<|starEach es X.env).any (·.1)=false)<|>ε) :
  AE X (.Call (.Attribute o name apos) (e::es) [] cpos) (Vw f co d):=PE.imp (WC SO fZ slot hty hm ho ha hbase hfew hline hs hplain) λσ H Q h9=>by
 x_go;kcf_m;obtain⟨xs,g,h1⟩:=iY h1;refine⟨dq?_ty R1 v1 g,ρ1,S1,τ,R1,r.ext e1,iX (jb h1) e1 λas S2 h2 ρ2 H2 j e2 R2 v2=>?_⟩;kpc_g
end
end Am
namespace K70
open PySem L2 Am
abbrev top (i:Nat):aF:=PySem.Challenge.pw_undercells_k70_number_tables_keep_the_ru.main.body.getD i<|.Pass ⟨0,0,0,0⟩
meta abbrev uX:aF:=top 7
meta abbrev uM:ar:=["thing"]
meta abbrev rB:ar:=["thing"]
abbrev uU:Sm:=
 ki (JO (jn (f2 Qj)<|iS (iR 0)<|iS (eC<|.ty "int") ja)<|U0<|jn (f2 Qj)<|iS (iR 0)<|iS (eC<|.ty "bool") ja)
abbrev mw:ae->iW->R A:=kc uM uU
meta abbrev sj:aF:=top 8
meta abbrev tw:ar:=["one", "other"]
meta abbrev tM:ar:=["one", "other"]
abbrev sH:Sm:=
 wU (qP<|jc (u7 true) (jn (f1 lO)<|iS (iR 0) ja)<|jn (f1 lO)<|iS (iR 1) ja)
 (W_)
 pB
abbrev nQ:ae->iW->R A:=kc tw sH
meta abbrev qw:aF:=top 9
meta abbrev qx:ar:=["n", "thing"]
meta abbrev qv:ar:=["n", "thing"]
abbrev qB:Sm:=
 ki (JO (eFn mw<|iS (iR 1) ja)<|VS Yk Vi (eC<|.int 1) (iR 1)<|iR 0)
abbrev lX:ae->iW->R A:=kc qx qB
meta abbrev mE:aF:=top 10
meta abbrev mh:ar:=["order", "i", "j", "things"]
meta abbrev mz:ar:=["order", "i", "j"]
abbrev mF:Sm:=
 jB (jO (jn (f1 wL)<|iS (iR 0) ja)<|jz 3)
 (jB (jO (qm<|iS (jc pI (iR 3)<|jc aSub (iR 2)<|eC<|.int 1)<|iS (jc pI (iR 3)<|jc aSub (iR 1)<|eC<|.int 1) ja)<|CG 2<|uF (VN (iR 3)<|jc aSub (iR 1)<|eC<|.int 1)<|uF (VN (iR 3)<|jc aSub (iR 2)<|eC<|.int 1) B5)
 (ki<|jn (f1 wc)<|iS (iR 3) ja))
abbrev j8:ae->iW->R A:=kc mh mF
meta abbrev sy:aF:=top 11
meta abbrev r9:ar:=["order", "k"]
meta abbrev p_:ar:=["order", "k"]
abbrev tU:Sm:=
 jB (wU (Nn<|qH<|eFn lX<|iS (jn (f1 lO)<|iS (iR 0) ja)<|iS (iR 1) ja)
 (W_)
 pB)
 (ki<|eFn j8<|iS (iR 0)<|iS (iR 1)<|iS (jc rK (iR 1)<|eC<|.int 1) ja)
abbrev lC:ae->iW->R A:=kc r9 tU
meta abbrev A6:aF:=top 12
meta abbrev BL:ar:=["order"]
meta abbrev qf:ar:=["order"]
abbrev Ao:Sm:=
 ki (jx [none,some 0] (sQ (eC<|.int 1)<|jn (f1 lO)<|iS (iR 0) ja) (jz 0) (qP<|jc QV (jc pI (iR 1)<|jc aSub (iR 0)<|eC<|.int 1)<|jc pI (iR 1)<|iR 0)<|iR 0)
abbrev jW:ae->iW->R A:=kc BL Ao
meta abbrev sV:aF:=top 13
meta abbrev sS:ar:=["n", "many", "k"]
meta abbrev qb:ar:=["n"]
abbrev uD:Ic:=
 sQ (eC<|.int 2) (jc rK (iR 0)<|eC<|.int 1)
abbrev uC:Sm:=
 K9 1 UD (iR 2)
abbrev sL:Sm:=
 jB (jO (eC<|.int 1)<|jz 1)
 (jB (kZ uD (jz 2)
 uC)
 (ki<|iR 1))
abbrev kj:ae->iW->R A:=kc sS sL
meta abbrev u_:aF:=top 14
meta abbrev vc:ar:=["n", "number", "left", "things", "many"]
meta abbrev uK:ar:=["n", "number"]
abbrev rF:Te:=
 qH (iR 2)
abbrev rj:Sm:=
 jB (jO (eFn kj<|iS (jc aSub (jn (f1 lO)<|iS (iR 2) ja)<|eC<|.int 1) ja)<|jz 4)
 (jB (tR<|VR vt (iR 3)<|iS (VR DT (iR 2)<|iS (jc xG (iR 1)<|iR 4) ja) ja)
 (jO (jc aSub (iR 1)<|jc tZ (jc xG (iR 1)<|iR 4)<|iR 4)<|jz 1))
abbrev uY:Sm:=
 jB (wU (SY (Nn<|qH<|eFn mw<|iS (iR 1) ja)<|SY (qP<|jc Vi (iR 1)<|eC<|.int 0)<|qP<|jc Zp (iR 1)<|eFn kj<|iS (iR 0) ja)
 (W_)
 pB)
 (jB (jO (jn (f1 wL)<|iS (jn (f2 An)<|iS (eC<|.int 1)<|iS (jc rK (iR 0)<|eC<|.int 1) ja) ja)<|jz 2)
 (jB (jO (wM ja)<|jz 3)
 (jB (kI rF
 rj 1000000)
 (ki<|jn (f1 wc)<|iS (iR 3) ja))))
abbrev mC:ae->iW->R A:=kc vc uY
meta abbrev oO:aF:=top 16
meta abbrev n9:ar:=["numbers"]
meta abbrev l7:ar:=["numbers"]
abbrev n_:Sm:=
 ki (jx [none,some 0] (kh<|jn (f1 vN)<|iS (iR 0) ja) (jz 0) (qP<|jc (u7 true) (jc xO (iR 1)<|iR 0)<|eC<|.int 0)<|qm<|iS (iR 0)<|iS (jc xO (iR 1)<|iR 0) ja)
abbrev jZ:ae->iW->R A:=kc n9 n_
meta abbrev Ei:aF:=top 17
meta abbrev Er:ar:=["one", "other", "numbers", "power", "number"]
meta abbrev EE:ar:=["one", "other"]
abbrev vJ:Ic:=
 kh (iR 1)
abbrev DF:Sm:=
 jO (jc rK (EJ vQ (iR 2)<|iS (iR 3)<|iS (eC<|.int 0) ja)<|iR 4) (IJ (iR 2)<|iR 3)
abbrev DR:Sm:=
 jB (jO (jn (f1 BD)<|iS (iR 0) ja)<|jz 2)
 (jB (kZ vJ (CG 2<|uF (jz 3)<|uF (jz 4) B5)
 DF)
 (ki<|eFn jZ<|iS (iR 2) ja))
abbrev yd:ae->iW->R A:=kc Er DR
meta abbrev Ac:aF:=top 18
meta abbrev Bk:ar:=["one", "other", "numbers", "power", "number", "high", "many"]
meta abbrev xq:ar:=["one", "other"]
abbrev HG:Ic:=
 kh (iR 1)
abbrev HP:Sm:=
 jO (jc rK (EJ vQ (iR 2)<|iS (jc rK (iR 3)<|iR 5)<|iS (eC<|.int 0) ja)<|jc GH (iR 4)<|iR 6) (IJ (iR 2)<|jc rK (iR 3)<|iR 5)
abbrev zq:Ic:=
 kh (iR 0)
abbrev zE:Sm:=
 kZ HG (CG 2<|uF (jz 5)<|uF (jz 6) B5)
 HP
abbrev BW:Sm:=
 jB (jO DX<|jz 2)
 (jB (kZ zq (CG 2<|uF (jz 3)<|uF (jz 4) B5)
 zE)
 (ki<|eFn jZ<|iS (iR 2) ja))
abbrev qc:ae->iW->R A:=kc Bk BW
meta abbrev q_:aF:=top 21
meta abbrev rQ:ar:=["found", "order", "poly"]
meta abbrev mP:ar:=["found", "order", "poly"]
abbrev qQ:Sm:=
 jO (eFn yd<|iS (TL VD (iR 0)<|iS (iR 1)<|iS (wM ja) ja)<|iS (iR 2) ja) (HK (iR 0)<|iR 1)
abbrev jI:ae->iW->R A:=kc rQ qQ
meta abbrev yk:aF:=top 22
meta abbrev yc:ar:=["found"]
meta abbrev tD:ar:=["found"]
abbrev yM:Sm:=
 ki (jx [none,some 0] (kh<|jn (f1 xg)<|iS (iR 0) ja) (jz 0) (qH<|jc qU (iR 1)<|iR 0)<|qm<|iS (iR 0)<|iS (jc qU (iR 1)<|iR 0) ja)
abbrev mX:ae->iW->R A:=kc yc yM
meta abbrev sZ:aF:=top 23
meta abbrev tK:ar:=["one", "other"]
meta abbrev su:ar:=["one", "other"]
abbrev tN:Sm:=
 wU (wV (qH<|iR 0)<|qH<|iR 1)
 (tR<|eFn nQ<|iS (jc pI (jc pI (iR 0)<|eC<|.int 0)<|eC<|.int 0)<|iS (jc pI (jc pI (iR 1)<|eC<|.int 0)<|eC<|.int 0) ja)
 pB
abbrev nU:ae->iW->R A:=kc tK tN
meta abbrev AR:aF:=top 24
meta abbrev Aj:ar:=["one", "other", "found", "order", "poly"]
meta abbrev Ar:ar:=["one", "other"]
abbrev ug:Ic:=
 kh (jc rK (iR 0)<|iR 1)
abbrev ue:Sm:=
 tR (eFn jI<|iS (iR 2)<|iS (iR 3)<|iS (iR 4) ja)
abbrev BV:Sm:=
 jB (tR<|eFn nU<|iS (iR 0)<|iS (iR 1) ja)
 (jB (jO zD<|jz 2)
 (jB (kZ ug (CG 2<|uF (jz 3)<|uF (jz 4) B5)
 ue)
 (ki<|eFn mX<|iS (iR 2) ja)))
abbrev rO:ae->iW->R A:=kc Aj BV
meta abbrev xM:aF:=top 25
meta abbrev yt:ar:=["poly", "one", "found", "order", "many"]
meta abbrev xR:ar:=["poly", "one"]
abbrev rD:Ic:=
 kh (iR 1)
abbrev qY:Sm:=
 tR (eFn jI<|iS (iR 2)<|iS (iR 3)<|iS (eFn qc<|iS (iR 0)<|iS (iR 4) ja) ja)
abbrev yo:Sm:=
 jB (jO zD<|jz 2)
 (jB (kZ rD (CG 2<|uF (jz 3)<|uF (jz 4) B5)
 qY)
 (ki<|eFn mX<|iS (iR 2) ja))
abbrev pR:ae->iW->R A:=kc yt yo
meta abbrev qz:aF:=top 26
meta abbrev qh:ar:=["one", "k", "found", "order", "poly"]
meta abbrev qp:ar:=["one", "k"]
abbrev l9:Ic:=
 kh (iR 0)
abbrev k_:Sm:=
 jB (tR<|eFn jI<|iS (iR 2)<|iS (eFn lC<|iS (iR 3)<|iS (iR 1) ja)<|iS (iR 4) ja)
 (wU (qP<|jc (Gu false) (iR 1)<|eFn jW<|iS (iR 3) ja)
 (tR<|eFn jI<|iS (iR 2)<|iS (iR 3)<|iS (eFn qc<|iS (jn (f1 wL)<|iS (eC<|.frz<|[((-1:Int),(1:Int)),((1:Int),(-1:Int))].map kA) ja)<|iS (iR 4) ja) ja)
 pB)
abbrev qk:Sm:=
 jB (jO zD<|jz 2)
 (jB (kZ l9 (CG 2<|uF (jz 3)<|uF (jz 4) B5)
 k_)
 (ki<|eFn mX<|iS (iR 2) ja))
abbrev lg:ae->iW->R A:=kc qh qk
meta abbrev n8:aF:=top 28
meta abbrev oJ:ar:=["poly"]
meta abbrev l8:ar:=["poly"]
abbrev nZ:Sm:=
 ki (EJ vQ (jn (f1 BD)<|iS (iR 0) ja)<|iS (eC<|.int 1)<|iS (eC<|.int 0) ja)
abbrev j0:ae->iW->R A:=kc oJ nZ
meta abbrev pQ:aF:=top 30
meta abbrev jV:ar:=["order", "k", "known", "less", "told", "lower", "poly", "number"]
meta abbrev lB:ar:=["order", "k", "known"]
abbrev nB (Fs:ae->iW->R A):Ic:=
 kh (iR 3)
abbrev lG (Fs:ae->iW->R A):Sm:=
 jB (jO (eFn j0<|iS (iR 6) ja)<|jz 7)
 (wU (wV (qP<|jc (u7 true) (iR 7)<|eC<|.int 0)<|qP<|jc (Gu false) (iR 1)<|eFn jW<|iS (iR 5) ja)
 (jO (eFn rO<|iS (iR 4)<|iS (eFn pR<|iS (wM<|iS (qm<|iS (eC<|.int 0)<|iS (XG HL<|iR 7) ja) ja)<|iS (eFn Fs<|iS (iR 5)<|iS (iR 2) ja) ja) ja)<|jz 4)
 pB)
abbrev jS (Fs:ae->iW->R A):Sm:=
 jB (jO (eFn Fs<|iS (eFn lC<|iS (iR 0)<|iS (iR 1) ja)<|iS (iR 2) ja)<|jz 3)
 (jB (jO (eFn rO<|iS (eFn lg<|iS (iR 3)<|iS (iR 1) ja)<|iS (eFn pR<|iS (wM<|iS (qm<|iS (eC<|.int 1)<|iS (eC<|.int 1) ja) ja)<|iS (iR 3) ja) ja)<|jz 4)
 (jB (kZ (nB Fs) (CG 2<|uF (jz 5)<|uF (jz 6) B5)
 (lG Fs))
 (ki<|iR 4)))
meta abbrev o5:aF:=top 29
meta abbrev mW:ar:=["order", "known", "ends"]
meta abbrev kB:ar:=["order", "known"]
abbrev mS (Fs:ae->iW->R A):Sm:=
 jB (wU (qP<|jc (IQ true) (iR 0)<|iR 1)
 (jB (jO (eFn jW<|iS (iR 0) ja)<|jz 2)
 (wU (qH<|iR 2)
 (jO (eFn (kc jV<|jS Fs)<|iS (iR 0)<|iS (jc pI (iR 2)<|eC<|.int 0)<|iS (iR 1) ja)<|HK (iR 1)<|iR 0)
 (jO (wM<|iS (qm<|iS (iR 0)<|iS (wM<|iS (qm<|iS (eC<|.int 0)<|iS (eC<|.int 1) ja) ja) ja) ja)<|HK (iR 1)<|iR 0)))
 pB)
 (ki<|jc qU (iR 1)<|iR 0)
abbrev lu:Nat->ae->iW->R A
 | 0=>λ_ _=>.no
 | k+1=>kc mW<|mS<|lu k
abbrev qZ:ae->iW->R A:=lu 8
meta abbrev qu:aF:=top 31
meta abbrev qt:ar:=["orders", "known", "told", "upper", "lower", "poly", "number"]
meta abbrev nP:ar:=["orders"]
abbrev oB:Ic:=
 kh (eFn qZ<|iS (iR 3)<|iS (iR 1) ja)
abbrev oh:Sm:=
 jB (jO (eFn j0<|iS (iR 5) ja)<|jz 6)
 (wU (qP<|jc (u7 true) (iR 6)<|eC<|.int 0)
 (jB (jO (iR 6)<|Ou (iR 2)<|qm<|iS (iR 4)<|iS (iR 3) ja)
 (jO (iR 6)<|Ou (iR 2)<|qm<|iS (iR 3)<|iS (iR 4) ja))
 pB)
abbrev oN:Ic:=
 kh (iR 0)
abbrev lZ:Sm:=
 kZ oB (CG 2<|uF (jz 4)<|uF (jz 5) B5)
 oh
abbrev qA:Sm:=
 jB (jO zD<|jz 1)
 (jB (jO (DY)<|jz 2)
 (jB (kZ oN (jz 3)
 lZ)
 (ki<|iR 2)))
abbrev kC:ae->iW->R A:=kc qt qA
meta abbrev sN:aF:=top 33
meta abbrev sY:ar:=["k", "one", "other", "leads", "is_fall"]
meta abbrev sP:ar:=["k", "one", "other", "leads"]
abbrev r6:Sm:=
 jB (jO (jc (Gu false) (iR 0)<|eFn jW<|iS (iR 1) ja)<|jz 4)
 (jB (wU (qP<|jc (u7 false) (iR 1)<|iR 2)
 (ki<|YM (qH<|iR 4) (eC<|.int 1)<|XG HL<|eC<|.int 1)
 pB)
 (jB (wU (SY (qH<|iR 4)<|qP<|jc (Gu true) (iR 0)<|eFn jW<|iS (iR 2) ja)
 (ki<|eC<|.int 0)
 pB)
 (ki<|Vw zL (iR 3)<|iS (qm<|iS (iR 1)<|iS (iR 2) ja)<|iS (eC<|.int 0) ja)))
abbrev jU:ae->iW->R A:=kc sY r6
meta abbrev oq:aF:=top 34
meta abbrev oH:ar:=["hearth", "leads"]
meta abbrev oF:ar:=["hearth"]
abbrev oz:Sm:=
 jB (jO (eFn kC<|iS (iR 0) ja)<|jz 1)
 (ki<|jx [none,some 0,some 1] (sQ (eC<|.int 1)<|jn (f1 lO)<|iS (jc pI (iR 0)<|eC<|.int 0) ja) (jz 0) kL<|jx [none,some 0,some 2,some 1] (kh<|iR 1) (jz 0) kL<|jx [none,some 1,some 0,some 2] (kh<|iR 3) (jz 0) kL<|eFn jU<|iS (iR 1)<|iS (iR 2)<|iS (iR 0)<|iS (iR 3) ja)
abbrev k8:ae->iW->R A:=kc oH oz
meta abbrev rR:aF:=top 37
meta abbrev rE:ar:=["n"]
meta abbrev qX:ar:=["n"]
abbrev rL:Sm:=
 jB (wU (qP<|jc QV (iR 0)<|eC<|.int 4)
 (W_)
 pB)
 (ki<|jx [none,some 0] (kN<|eFn kj<|iS (iR 0) ja) (jz 0) kL<|eFn mC<|iS (iR 1)<|iS (iR 0) ja)
abbrev m8:ae->iW->R A:=kc rE rL
meta abbrev nJ:aF:=top 38
meta abbrev nK:ar:=["one", "other"]
meta abbrev nE:ar:=["one", "other"]
abbrev nG:Sm:=
 ki (jn (f1 VA)<|iS (jx [none,some 1] (kh<|eFn jW<|iS (iR 0) ja) (jz 0) kL<|jc (Gu true) (iR 0)<|eFn jW<|iS (iR 1) ja) ja)
abbrev ju:ae->iW->R A:=kc nK nG
meta abbrev pH:aF:=top 39
meta abbrev pM:ar:=["start", "next_ones", "reached", "waiting", "here", "order"]
meta abbrev pZ:ar:=["start", "next_ones"]
abbrev lJ:Ic:=
 kh (jc JL (iR 1)<|iR 4)
abbrev nu:Sm:=
 wU (qP<|jc (IQ true) (iR 5)<|iR 2)
 (jB (jO (eC<|.bl true)<|HK (iR 2)<|iR 5)
 (tR<|VR vt (iR 3)<|iS (iR 5) ja))
 pB
abbrev jH:Te:=
 qH (iR 3)
abbrev jQ:Sm:=
 jB (jO (UA To<|iR 3)<|jz 4)
 (kZ lJ (jz 5)
 nu)
abbrev pL:Sm:=
 jB (jO (FJ (iR 0)<|eC<|.bl true)<|jz 2)
 (jB (jO (wM<|iS (iR 0) ja)<|jz 3)
 (jB (kI jH
 jQ 1000000)
 (ki<|iR 2)))
abbrev j7:ae->iW->R A:=kc pM pL
meta abbrev uJ:aF:=top 40
meta abbrev uP:ar:=["next_ones", "reached", "told", "order", "hearth"]
meta abbrev u5:ar:=["next_ones"]
abbrev rH:Ic:=
 kh (jn (f1 BX)<|iS (iR 0) ja)
abbrev mQ:Sm:=
 jB (jO (jn (f1 BO)<|iS (jx [none,some 3,some 1] (DC<|jc qU (iR 1)<|iR 3) (jz 0) (qP<|jc (IE false) (iR 1)<|jc qU (iR 2)<|iR 0)<|iR 0) ja)<|jz 4)
 (wU (qP<|jc (u7 false) (jc pI (iR 4)<|eC<|.int 0)<|iR 3)
 (tR<|VR vt (iR 2)<|iS (iR 4) ja)
 pB)
abbrev uS:Sm:=
 jB (jO (Q6 (.dct []) oV [none,some 0] (DC<|iR 0) (jz 0) kL (iR 0)<|eFn j7<|iS (iR 0)<|iS (iR 1) ja)<|jz 1)
 (jB (jO (wM ja)<|jz 2)
 (jB (kZ rH (jz 3)
 mQ)
 (ki<|iR 2)))
abbrev pP:ae->iW->R A:=kc uP uS
meta abbrev oA:aF:=top 41
meta abbrev oM:ar:=["n", "orders", "leads"]
meta abbrev oE:ar:=["n"]
abbrev ow:Sm:=
 jB (jO (eFn m8<|iS (iR 0) ja)<|jz 1)
 (jB (jO (eFn kC<|iS (iR 1) ja)<|jz 2)
 (ki<|eFn pP<|iS (Q6 (.dct []) oV [none,some 1,some 2] (kh<|iR 1) (jz 0) kL (iR 0)<|jx [none,some 2,some 0] (kh<|iR 1) (jz 0) (wV (qP<|jc (yS false) (qm<|iS (iR 2)<|iS (iR 0) ja)<|iR 1)<|qH<|eFn ju<|iS (iR 0)<|iS (iR 2) ja)<|iR 0) ja))
abbrev jX:ae->iW->R A:=kc oM ow
meta abbrev uR:aF:=top 43
meta abbrev uO:ar:=["_law_script", "_law_k"]
meta abbrev u0:ar:=["_law_script", "_law_k"]
abbrev uI:Sm:=
 jB (wU (qP<|jc Vi (iR 1)<|jn (f1 lO)<|iS (iR 0) ja)
 (ki<|jc pI (iR 0)<|iR 1)
 pB)
 (ki<|eC<|.int 0)
abbrev pX:ae->iW->R A:=kc uO uI
meta abbrev wj:aF:=top 44
meta abbrev wB:ar:=["_law_cell_here", "_law_place", "_law_far"]
meta abbrev wz:ar:=["_law_cell_here", "_law_place"]
abbrev wg:Sm:=
 jB (jO (jn (f1 T9)<|iS (iR 0) ja)<|jz 2)
 (jB (wU (qP<|jc Vi (iR 2)<|jc TM (eC<|.int 10)<|eC<|.int 18)
 (jO (eC<|.int 0)<|jz 2)
 pB)
 (ki<|wM<|iS (iR 2)<|iS (jc Bm (jc rK (jc rK (jc tZ (jc Bm (iR 0)<|eC<|.int 2147483647)<|eC<|.int 69621)<|jc tZ (eC<|.int 7919)<|iR 1)<|eC<|.int 13)<|eC<|.int 2147483647) ja))
abbrev qJ:ae->iW->R A:=kc wB wg
meta abbrev sA:aF:=top 45
meta abbrev sO:ar:=["_law_bag_here"]
meta abbrev t6:ar:=["_law_bag_here"]
abbrev r_:Sm:=
 jB (jO (jc Bm (jc rK (jc tZ (jc pI (iR 0)<|eC<|.int 1)<|eC<|.int 48271)<|eC<|.int 11)<|eC<|.int 2147483647)<|VN (iR 0)<|eC<|.int 1)
 (ki<|jc xG (jc Bm (jc tZ (jc pI (iR 0)<|eC<|.int 1)<|eC<|.int 16807)<|eC<|.int 2147483629)<|eC<|.int 8)
abbrev mK:ae->iW->R A:=kc sO r_
meta abbrev sR:aF:=top 46
meta abbrev qa:ar:=["_law_bag_here", "_law_many", "_law_found", "_law_k"]
meta abbrev tV:ar:=["_law_bag_here", "_law_many"]
abbrev zd:Ic:=
 kN (eC<|.int 7)
abbrev yW:Sm:=
 jO (jc rK (jc tZ (iR 2)<|eC<|.int 268435399)<|eFn mK<|iS (iR 0) ja) (jz 2)
abbrev qd:Sm:=
 jB (wU (qP<|jc QV (jc pI (iR 0)<|eC<|.int 0)<|eC<|.int 0)
 (jB (jO (jc Bm (jc pI (iR 0)<|eC<|.int 0)<|iR 1)<|jz 2)
 (jB (jO (jc xG (jc pI (iR 0)<|eC<|.int 0)<|iR 1)<|VN (iR 0)<|eC<|.int 0)
 (ki<|iR 2)))
 pB)
 (jB (jO (eFn mK<|iS (iR 0) ja)<|jz 2)
 (jB (wU (qP<|jc QV (iR 1)<|eC<|.int 1000)
 (kZ zd (jz 3)
 yW)
 pB)
 (ki<|jc Bm (iR 2)<|iR 1)))
abbrev kM:ae->iW->R A:=kc qa qd
meta abbrev s_:aF:=top 47
meta abbrev tF:ar:=["_law_one", "_law_other"]
meta abbrev r8:ar:=["_law_one", "_law_other"]
abbrev sX:Sm:=
 ki (jx [none,some 1] (kh<|iR 0) (jz 0) kL<|jx [none,some 0,some 1] (kN<|jn (f1 lO)<|iS (iR 0) ja) (jz 0) kL<|jn (f1 Ik)<|iS (jx [none,some 1,some 0,some 2] (kN<|jn (f1 lO)<|iS (iR 1) ja) (jz 0) kL<|jc tZ (jc pI (iR 1)<|iR 0)<|jc pI (jc pI (iR 3)<|iR 0)<|iR 2) ja)
abbrev jT:ae->iW->R A:=kc tF sX
meta abbrev tu:aF:=top 48
meta abbrev sF:ar:=["_law_some", "_law_k", "_law_one", "_law_j", "_law_other"]
meta abbrev sW:ar:=["_law_some"]
abbrev qy:Ic:=
 kN (iR 1)
abbrev nL:Sm:=
 jB (jO (jc pI (iR 0)<|iR 3)<|jz 4)
 (jB (wU (wV (qP<|jc QV (jc aSub (iR 1)<|iR 3)<|eC<|.int 1)<|qP<|jc (u7 true) (eFn jT<|iS (iR 2)<|iS (iR 4) ja)<|eFn jT<|iS (iR 4)<|iS (iR 2) ja)
 (ki<|eC<|.bl false)
 pB)
 (wU (qP<|jc (u7 false) (jc aSub (iR 1)<|iR 3)<|eC<|.int 1)
 (wU (qP<|jc (u7 true) (eFn jT<|iS (eFn jT<|iS (iR 2)<|iS (iR 4) ja)<|iS (iR 2) ja)<|eFn jT<|iS (eFn jT<|iS (iR 4)<|iS (iR 2) ja)<|iS (iR 4) ja)
 (ki<|eC<|.bl false)
 pB)
 pB))
abbrev qo:Ic:=
 kN (jn (f1 lO)<|iS (iR 0) ja)
abbrev qC:Sm:=
 jB (jO (jc pI (iR 0)<|iR 1)<|jz 2)
 (jB (wU (qP<|jc (u7 true) (eFn jT<|iS (iR 2)<|iS (iR 2) ja)<|jx [none,some 2] (kN<|jn (f1 lO)<|iS (iR 2) ja) (jz 0) kL<|jx [none,some 0] (kN<|jn (f1 lO)<|iS (iR 1) ja) (jz 0) kL<|jn (f1 wH)<|iS (jc (u7 false) (iR 1)<|iR 0) ja)
 (ki<|eC<|.bl false)
 pB)
 (kZ qy (jz 3)
 nL))
abbrev sG:Sm:=
 jB (kZ qo (jz 1)
 qC)
 (ki<|eC<|.bl true)
abbrev nV:ae->iW->R A:=kc sF sG
meta abbrev MD:aF:=top 49
meta abbrev JG:ar:=["_law_script", "_law_n", "_law_hearth", "_law_some"]
meta abbrev Rv:ar:=["_law_script"]
abbrev AH:Ic:=
 kh (eFn jX<|iS (iR 1) ja)
abbrev Bv:Sm:=
 jB (jO (eFn k8<|iS (iR 2) ja)<|jz 3)
 (wU (SY (qP<|jc (u7 true) (jn (f1 lO)<|iS (iR 3) ja)<|jc aSub (iR 1)<|eC<|.int 1)<|Nn<|qH<|eFn nV<|iS (iR 3) ja)
 (ki<|eC<|.bl false)
 pB)
abbrev LL:Sm:=
 jB (jO (jc pI (wM<|iS (eC<|.int 4)<|iS (eC<|.int 3)<|iS (eC<|.int 4)<|iS (eC<|.int 2) ja)<|eFn kM<|iS (eFn qJ<|iS (eFn pX<|iS (iR 0)<|iS (eC<|.int 0) ja)<|iS (eC<|.int 1) ja)<|iS (eC<|.int 4) ja)<|jz 1)
 (jB (kZ AH (jz 2)
 Bv)
 (ki<|eC<|.bl true))
abbrev zo:ae->iW->R A:=kc JG LL
section
variable {P:aj}{w:ah}{K:au}{mg:Str->bd}{base:aq}{f:ak}{fd:FuncData}
def Cy:FnScope uM rB (jf uX):=sD rfl rfl rfl ∅
def Dh(F:Fun K "is_whole" "is_whole" uX f fd)(aas:mg "isinstance" = none)(aaw:mg "bool" = none)(aaj:mg "int" = none):FnOk P w K mg base o9 1 f fd rB (p8 K 1 mw):=sE (m:=uU) F Cy λg B d s H E j=>
 i9 (jv<|Lk (jE QT aas uE<|iV (iQ 0)<|iV (QZ aaj MN) jd)<|KN<|RH<|jE QT aas uE<|iV (iQ 0)<|iV (QZ aaw Qq) jd)
def BH:FnScope tw tM (jf sj):=sD rfl rfl rfl ∅
def AB(F:Fun K "need_pair" "need_pair" sj f fd)(aaa:mg "len" = none):FnOk P w K mg base o9 1 f fd tM (p8 K 2 nQ):=sE (m:=sH) F BH λj B d s H E g=>
 i9 (lD (jR (Cz g.units) (jE qM aaa nI<|iV (iQ 0) jd)<|jE qM aaa nI<|iV (iQ 1) jd)
 (i9<|G4)
 jM)
def xF:FnScope qx qv (jf qw):=sD rfl rfl rfl ∅
def xW(F:Fun K "is_exchange" "is_exchange" qw f fd)(aak:mO P w K mg base 1 "is_whole" rB mw):FnOk P w K mg base o9 2 f fd qv (p8 K 2 lX):=sE (m:=qB) F xF λj B d s H E g=>
 i9 (jv<|Lk (wW aak g<|iQ 1)<|KN<|WM Zx (PR g.units) je (iQ 1)<|iQ 0)
def oU:FnScope mh mz (jf mE):=sD rfl rfl rfl ∅
def uw(F:Fun K "exchanged_places" "exchanged_places" mE f fd)(aaf:mg "list" = none)(aal:mg "tuple" = none):FnOk P w K mg base o9 1 f fd mz (p8 K 3 j8):=sE (m:=mF) F oU λg B d s H E j=>
 iZ (jw (i:=3) oU.nd<|mR (Ea rfl) aaf BA<|iV (iQ 0) jd)
 (iZ (pJ (pW<|iV (lE (iQ 3)<|jt uB (iQ 2) je)<|iV (lE (iQ 3)<|jt uB (iQ 1) je) jd)<|rG rfl<|jN (Bg (iQ 3)<|jt uB (iQ 1) je)<|jN (Bg (iQ 3)<|jt uB (iQ 2) je) oW)
 (i9<|jv<|mR (FG rfl) aal CA<|iV (iQ 3) jd))
def Ae:FnScope r9 p_ (jf sy):=sD rfl rfl rfl ∅
def Aa(F:Fun K "exchanged" "exchanged" sy f fd)(aaa:mg "len" = none)(aax:mO P w K mg base 2 "is_exchange" qv lX)(aay:mO P w K mg base 1 "exchanged_places" mz j8):FnOk P w K mg base o9 3 f fd p_ (p8 K 2 lC):=sE (m:=tU) F Ae λj B d s H E g=>
 iZ (lD (ES<|oK<|zc aax g (jE qM aaa nI<|iV (iQ 0) jd)<|iQ 1)
 (i9<|G4)
 jM)
 (i9<|jv<|Xe aay g (iQ 0) (iQ 1)<|jt rW (iQ 1) je)
def KC:FnScope BL qf (jf A6):=sD rfl rfl rfl ∅
def KG(F:Fun K "falls" "falls" A6 f fd)(aab:mg "range" = none)(aaa:mg "len" = none):FnOk P w K mg base o9 1 f fd qf (p8 K 1 jW):=sE (m:=Ao) F KC λj B d s H E g=>
 i9 (jv<|kY (N:=["k", "order"]) (cap:=[none,some 0]) rfl (nR ["order"] rfl ∅ ∅ ∅ ∅ ∅ (bh.mpr ⟨by first|exact Or.inl rfl|exact Or.inr rfl,(nofun)⟩) ⟨rfl,by decide +kernel,trivial⟩) (wk aab je<|jE qM aaa nI<|iV (iQ 0) jd) (λ_ _ _ _=>jl (i:=0) (show(["k", "order"]:ar).Nodup by decide +kernel) rfl (Or.inl rfl)<|.inr rfl) (λ_ _ _ _=>vM<|jR (LC g.units) (lE (iQ 1)<|jt uB (iQ 0) je)<|lE (iQ 1)<|iQ 0) λ_ _ _ _=>iQ 0)
def o6:FnScope sS qb (jf sV):=sD rfl rfl rfl ∅
def AY(F:Fun K "factorial" "factorial" sV f fd)(aab:mg "range" = none):FnOk P w K mg base o9 1 f fd qb (p8 K 1 kj):=sE (m:=sL) F o6 λg B d s H E j=>
 iZ (jw (i:=1) o6.nd je)
 (iZ (lN bR rfl (wk aab je<|jt rW (iQ 0) je) (jl (i:=2) o6.nd)
 (i9<|Se (i:=1) o6.nd (iQ 2) O2))
 (i9<|jv<|iQ 1))
def nY:FnScope vc uK (jf u_):=sD rfl rfl rfl ∅
def C4(F:Fun K "numbered" "numbered" u_ f fd)(aaf:mg "list" = none)(aab:mg "range" = none)(aaa:mg "len" = none)(aal:mg "tuple" = none)(aai:mO P w K mg base 1 "factorial" qb kj)(aak:mO P w K mg base 1 "is_whole" rB mw):FnOk P w K mg base o9 2 f fd uK (p8 K 2 mC):=sE (m:=uY) F nY λj B g s H E d=>
 iZ (lD (AW.at<|FO (ES<|oK<|wW aak d<|iQ 1)<|FO (jR (PR d.units) (iQ 1) je)<|EN<|jR YA (iQ 1)<|wW aai d<|iQ 0)
 (i9<|G4)
 jM)
 (iZ (jw (i:=2) nY.nd<|mR (Ea rfl) aaf BA<|iV (mR L_ aab J8<|iV je<|iV (jt rW (iQ 0) je) jd) jd)
 (iZ (jw (i:=3) nY.nd<|qD jd)
 (iZ (Dr 1000000 bR (oK<|iQ 2)
 (iZ (jw (i:=4) nY.nd<|wW aai d<|jt uB (jE qM aaa nI<|iV (iQ 2) jd) je)
 (iZ (oX<|F6 fL fM yK (iQ 3)<|iV (F6 PySem.F.slot_list_pop PySem.F.type_list_pop O6 (iQ 2)<|iV (jt Bw (iQ 1)<|iQ 4) jd) jd)
 (i9<|jw (i:=1) nY.nd<|jt uB (iQ 1)<|jt yI (jt Bw (iQ 1)<|iQ 4)<|iQ 4))))
 (i9<|jv<|mR (FG rfl) aal CA<|iV (iQ 3) jd))))
def wo:FnScope n9 l7 (jf oO):=sD rfl rfl rfl ∅
def v8(F:Fun K "as_polynomial" "as_polynomial" oO f fd)(aad:mg "sorted" = none):FnOk P w K mg base o9 1 f fd l7 (p8 K 1 jZ):=sE (m:=n_) F wo λj B g s H E d=>
 i9 (jv<|kY (N:=["power", "numbers"]) (cap:=[none,some 0]) rfl (nR ["numbers"] rfl ∅ ∅ ∅ ∅ ∅ (bh.mpr ⟨by first|exact Or.inl rfl|exact Or.inr rfl,(nofun)⟩) ⟨rfl,by decide +kernel,trivial⟩) (kK<|jE (LQ rfl) aad t7<|iV (iQ 0) jd) (λ_ _ _ _=>jl (i:=0) (show(["power", "numbers"]:ar).Nodup by decide +kernel) rfl (Or.inl rfl)<|.inr rfl) (λ_ _ _ _=>vM<|jR (Cz d.units) (Nq d.units (iQ 1)<|iQ 0) je) λ_ _ _ _=>pW<|iV (iQ 0)<|iV (Nq d.units (iQ 1)<|iQ 0) jd)
def xx:FnScope Er EE (jf Ei):=sD rfl rfl rfl ∅
def Om(F:Fun K "plus" "plus" Ei f fd)(aam:mg "dict" = none)(aan:mO P w K mg base 1 "as_polynomial" l7 jZ):FnOk P w K mg base o9 2 f fd EE (p8 K 2 yd):=sE (m:=DR) F xx λj B g s H E d=>
 iZ (jw (i:=2) xx.nd<|mR (EU rfl) aam E9<|iV (iQ 0) jd)
 (iZ (lN bR rfl (kK<|iQ 1) (rG rfl<|jN (jl (i:=3) xx.nd)<|jN (jl (i:=4) xx.nd) oW)
 (i9<|pJ (jt rW (Ep cz dQ (Eh d.units) (iQ 2)<|iV (iQ 3)<|iV je jd)<|iQ 4)<|Fx d.units (iQ 2)<|iQ 3))
 (i9<|jv<|wW aan d<|iQ 2))
def qE:FnScope Bk xq (jf Ac):=sD rfl rfl rfl ∅
def JN(F:Fun K "times" "times" Ac f fd)(aan:mO P w K mg base 1 "as_polynomial" l7 jZ):FnOk P w K mg base o9 2 f fd xq (p8 K 2 qc):=sE (m:=BW) F qE λj B g s H E d=>
 iZ (jw (i:=2) qE.nd Ny)
 (iZ (lN bR rfl (kK<|iQ 0) (rG rfl<|jN (jl (i:=3) qE.nd)<|jN (jl (i:=4) qE.nd) oW)
 (i9 (lN bR rfl (kK<|iQ 1) (rG rfl<|jN (jl (i:=5) qE.nd)<|jN (jl (i:=6) qE.nd) oW)
 (i9<|pJ (jt rW (Ep cz dQ (Eh d.units) (iQ 2)<|iV (jt rW (iQ 3)<|iQ 5)<|iV je jd)<|jt UB (iQ 4)<|iQ 6)<|Fx d.units (iQ 2)<|jt rW (iQ 3)<|iQ 5))))
 (i9<|jv<|wW aan d<|iQ 2))
def yV:FnScope rQ mP (jf q_):=sD rfl rfl rfl ∅
def zb(F:Fun K "put_before" "put_before" q_ f fd)(aaz:mO P w K mg base 2 "plus" EE yd):FnOk P w K mg base o9 3 f fd mP (p8 K 3 jI):=sE (m:=qQ) F yV λj B g s H E d=>
 i9 (pJ (zc aaz d (RZ cz dQ (WN d.units) (iQ 0)<|iV (iQ 1)<|iV (qD jd) jd)<|iQ 2)<|xD d.units (iQ 0)<|iQ 1)
def IW:FnScope yc tD (jf yk):=sD rfl rfl rfl ∅
def IP(F:Fun K "as_sum" "as_sum" yk f fd)(aad:mg "sorted" = none):FnOk P w K mg base o9 1 f fd tD (p8 K 1 mX):=sE (m:=yM) F IW λj B d s H E g=>
 i9 (jv<|kY (N:=["order", "found"]) (cap:=[none,some 0]) rfl (nR ["found"] rfl ∅ ∅ ∅ ∅ ∅ (bh.mpr ⟨by first|exact Or.inl rfl|exact Or.inr rfl,(nofun)⟩) ⟨rfl,by decide +kernel,trivial⟩) (kK<|jE (JZ rfl) aad t7<|iV (iQ 0) jd) (λ_ _ _ _=>jl (i:=0) (show(["order", "found"]:ar).Nodup by decide +kernel) rfl (Or.inl rfl)<|.inr rfl) (λ_ _ _ _=>vM<|oK<|yL g.units (iQ 1)<|iQ 0) λ_ _ _ _=>pW<|iV (iQ 0)<|iV (yL g.units (iQ 1)<|iQ 0) jd)
def A_:FnScope tK su (jf sZ):=sD rfl rfl rfl ∅
def AN(F:Fun K "need_like" "need_like" sZ f fd)(aaA:mO P w K mg base 1 "need_pair" tM nQ):FnOk P w K mg base o9 2 f fd su (p8 K 2 nU):=sE (m:=tN) F A_ λj B d s H E g=>
 i9 (lD (AW.at<|A3 (oK<|iQ 0)<|w4<|oK<|iQ 1)
 (i9<|oX<|zc aaA g (lE (lE (iQ 0) je) je)<|lE (lE (iQ 1) je) je)
 jM)
def vn:FnScope Aj Ar (jf AR):=sD rfl rfl rfl ∅
def L4(F:Fun K "added" "added" AR f fd)(aaB:mO P w K mg base 2 "need_like" su nU)(aae:mO P w K mg base 3 "put_before" mP jI)(aag:mO P w K mg base 1 "as_sum" tD mX):FnOk P w K mg base o9 4 f fd Ar (p8 K 2 rO):=sE (m:=BV) F vn λj B g s H E d=>
 iZ (oX<|zc aaB d (iQ 0)<|iQ 1)
 (iZ (jw (i:=2) vn.nd xA)
 (iZ (lN bR rfl (kK<|jt rW (iQ 0)<|iQ 1) (rG rfl<|jN (jl (i:=3) vn.nd)<|jN (jl (i:=4) vn.nd) oW)
 (i9<|oX<|Xe aae d (iQ 2) (iQ 3)<|iQ 4))
 (i9<|jv<|wW aag d<|iQ 2)))
def uc:FnScope yt xR (jf xM):=sD rfl rfl rfl ∅
def IV(F:Fun K "scaled" "scaled" xM f fd)(aae:mO P w K mg base 3 "put_before" mP jI)(aao:mO P w K mg base 2 "times" xq qc)(aag:mO P w K mg base 1 "as_sum" tD mX):FnOk P w K mg base o9 4 f fd xR (p8 K 2 pR):=sE (m:=yo) F uc λj B g s H E d=>
 iZ (jw (i:=2) uc.nd xA)
 (iZ (lN bR rfl (kK<|iQ 1) (rG rfl<|jN (jl (i:=3) uc.nd)<|jN (jl (i:=4) uc.nd) oW)
 (i9<|oX<|Xe aae d (iQ 2) (iQ 3)<|zc aao d (iQ 0)<|iQ 4))
 (i9<|jv<|wW aag d<|iQ 2))
def m9:FnScope qh qp (jf qz):=sD rfl rfl rfl ∅
def yr(F:Fun K "by_exchange" "by_exchange" qz f fd)(aaf:mg "list" = none)(h_AT_A_FALL:∃a,mg "AT_A_FALL" = some (.ref a)/\VJ K a=some [((-1:Int),(1:Int)),((1:Int),(-1:Int))])(aae:mO P w K mg base 3 "put_before" mP jI)(aap:mO P w K mg base 3 "exchanged" p_ lC)(aac:mO P w K mg base 1 "falls" qf jW)(aao:mO P w K mg base 2 "times" xq qc)(aag:mO P w K mg base 1 "as_sum" tD mX):FnOk P w K mg base o9 4 f fd qp (p8 K 2 lg):=sE (m:=qk) F m9 λj B g s H E d=>
 iZ (jw (i:=2) m9.nd xA)
 (iZ (lN bR rfl (kK<|iQ 0) (rG rfl<|jN (jl (i:=3) m9.nd)<|jN (jl (i:=4) m9.nd) oW)
 (iZ (oX<|Xe aae d (iQ 2) (zc aap d (iQ 3)<|iQ 1)<|iQ 4)
 (i9 (lD (jR (Ua d.units) (iQ 1)<|wW aac d<|iQ 3)
 (i9<|oX<|Xe aae d (iQ 2) (iQ 3)<|zc aao d (mR (Ea rfl) aaf BA<|iV (Jw h_AT_A_FALL.choose_spec.1 h_AT_A_FALL.choose_spec.2) jd)<|iQ 4)
 jM))))
 (i9<|jv<|wW aag d<|iQ 2))
def wG:FnScope oJ l8 (jf n8):=sD rfl rfl rfl ∅
def v9(F:Fun K "number_at_one" "number_at_one" n8 f fd)(aam:mg "dict" = none):FnOk P w K mg base o9 1 f fd l8 (p8 K 1 j0):=sE (m:=nZ) F wG λj B d s H E g=>
 i9 (jv<|Ep cz dQ (Eh g.units) (mR (EU rfl) aam E9<|iV (iQ 0) jd)<|iV je<|iV je jd)
def jY:FnScope jV lB (jf pQ):=sD rfl rfl rfl ∅
def wQ{Fs:ae->iW->R A}(F:Fun K "kept_by_fall" "kept_by_fall" pQ f fd)(aap:mO P w K mg base 3 "exchanged" p_ lC)(aat:mO P w K mg base 4 "added" Ar rO)(aau:mO P w K mg base 4 "scaled" xR pR)(aaC:mO P w K mg base 4 "by_exchange" qp lg)(aaq:mO P w K mg base 1 "number_at_one" l8 j0)(aac:mO P w K mg base 1 "falls" qf jW)(aaU:mO P w K mg base (5+2 * kr) "found_kept" kB Fs):FnOk P w K mg base o9 (5+2 * kr+1) f fd lB (p8 K 3<|kc jV<|jS Fs):=sE (m:=jS Fs) F jY λj B g s H E d=>
 iZ (jw (i:=3) jY.nd<|oQ aaU (d.mono ()) (iV (oQ aap (d.mono ()) (iV (iQ 0)<|iV (iQ 1) jd)<|jm<|jm kG)<|iV (iQ 2) jd)<|jm<|jm kG)
 (iZ (jw (i:=4) jY.nd<|oQ aat (d.mono ()) (iV (oQ aaC (d.mono ()) (iV (iQ 3)<|iV (iQ 1) jd)<|jm<|jm kG)<|iV (oQ aau (d.mono ()) (iV (qD<|iV (pW<|iV je<|iV je jd) jd)<|iV (iQ 3) jd)<|jm<|jm kG) jd)<|jm<|jm kG)
 (iZ (lN bR rfl (kK<|iQ 3) (rG rfl<|jN (jl (i:=5) jY.nd)<|jN (jl (i:=6) jY.nd) oW)
 (iZ (jw (i:=7) jY.nd<|oQ aaq (d.mono ()) (iV (iQ 6) jd)<|jm kG)
 (i9 (lD (AW.at<|A3 (jR (Cz d.units) (iQ 7) je)<|w4<|jR (Ua d.units) (iQ 1)<|oQ aac (d.mono ()) (iV (iQ 5) jd)<|jm kG)
 (i9<|jw (i:=4) jY.nd<|oQ aat (d.mono ()) (iV (iQ 4)<|iV (oQ aau (d.mono ()) (iV (qD<|iV (pW<|iV je<|iV (MG<|iQ 7) jd) jd)<|iV (oQ aaU (d.mono ()) (iV (iQ 5)<|iV (iQ 2) jd)<|jm<|jm kG) jd)<|jm<|jm kG) jd)<|jm<|jm kG)
 jM))))
 (i9<|jv<|iQ 4)))
def uH:FnScope mW kB (jf o5):=sD rfl rfl rfl ∅
def za{Fs:ae->iW->R A}(F:Fun K "found_kept" "found_kept" o5 f fd)(aac:mO P w K mg base 1 "falls" qf jW)(aaW:mO P w K mg base (5+2 * kr+1) "kept_by_fall" lB<|kc jV<|jS Fs):FnOk P w K mg base o9 (5+2 * kr+2) f fd kB (p8 K 2<|kc mW<|mS Fs):=sE (m:=mS Fs) F uH λj B g s H E d=>
 iZ (lD (jR (CT d.units) (iQ 0)<|iQ 1)
 (iZ (jw (i:=2) uH.nd<|oQ aac (d.mono ()) (iV (iQ 0) jd)<|jm kG)
 (i9 (lD (oK<|iQ 2)
 (i9<|pJ (oQ aaW (d.mono ()) (iV (iQ 0)<|iV (lE (iQ 2) je)<|iV (iQ 1) jd)<|jm<|jm<|jm kG)<|xD d.units (iQ 1)<|iQ 0)
 (i9<|pJ (qD<|iV (pW<|iV (iQ 0)<|iV (qD<|iV (pW<|iV je<|iV je jd) jd) jd) jd)<|xD d.units (iQ 1)<|iQ 0))))
 jM)
 (i9<|jv<|yL d.units (iQ 1)<|iQ 0)
theorem sd(F:Fun K "found_kept" "found_kept" o5 f fd)(aac:mO P w K mg base 1 "falls" qf jW)(M_kept_by_fall:∀{Fs:ae->iW->R A} {kr:Nat},mO P w K mg base (5+2 * kr) "found_kept" kB Fs->mO P w K mg base (5+2 * kr+1) "kept_by_fall" lB (kc jV<|jS Fs))(hm:mg "found_kept" = some (.ref f))(hk:PySem.W.keepIn K (.ref f)=true)(hb:Binds K fd kB []):∀kr,FnOk P w K mg base o9 (5+2 * kr) f fd kB (p8 K 2<|lu kr)
 | 0=>Si rfl
 | kr+1=>za F aac<|M_kept_by_fall ⟨f,fd,sd F aac M_kept_by_fall hm hk hb kr,hm,hk,hb⟩
def j9:FnScope qt nP (jf qu):=sD rfl rfl rfl ∅
def yE(F:Fun K "leads_among" "leads_among" qu f fd)(aaD:mO P w K mg base 21 "found_kept" kB qZ)(aaq:mO P w K mg base 1 "number_at_one" l8 j0):FnOk P w K mg base o9 22 f fd nP (p8 K 1 kC):=sE (m:=qA) F j9 λj B g s H E d=>
 iZ (jw (i:=1) j9.nd xA)
 (iZ (jw (i:=2) j9.nd<|J1)
 (iZ (lN bR rfl (kK<|iQ 0) (jl (i:=3) j9.nd)
 (i9 (lN bR rfl (kK<|zc aaD d (iQ 3)<|iQ 1) (rG rfl<|jN (jl (i:=4) j9.nd)<|jN (jl (i:=5) j9.nd) oW)
 (iZ (jw (i:=6) j9.nd<|wW aaq d<|iQ 5)
 (i9 (lD (jR (Cz d.units) (iQ 6) je)
 (iZ (pJ (iQ 6)<|Hx d.units (iQ 2)<|pW<|iV (iQ 4)<|iV (iQ 3) jd)
 (i9<|pJ (iQ 6)<|Hx d.units (iQ 2)<|pW<|iV (iQ 3)<|iV (iQ 4) jd))
 jM))))))
 (i9<|jv<|iQ 2)))
def vq:FnScope sY sP (jf sN):=sD rfl rfl rfl ∅
def AJ(F:Fun K "number_at" "number_at" sN f fd)(aac:mO P w K mg base 1 "falls" qf jW):FnOk P w K mg base o9 2 f fd sP (p8 K 4 jU):=sE (m:=r6) F vq λj B g s H E d=>
 iZ (jw (i:=4) vq.nd<|D9 (Ua d.units) (iQ 0)<|wW aac d<|iQ 1)
 (iZ (lD (jR (Pw d.units) (iQ 1)<|iQ 2)
 (i9<|jv<|Wg (oK<|iQ 4) je<|MG je)
 jM)
 (iZ (lD (AW.at<|FO (oK<|iQ 4)<|EN<|jR (GC d.units) (iQ 0)<|wW aac d<|iQ 2)
 (i9<|jv je)
 jM)
 (i9<|jv<|UJ cz dQ (Vk d.units) (iQ 3)<|iV (pW<|iV (iQ 1)<|iV (iQ 2) jd)<|iV je jd)))
def qL:FnScope oH oF (jf oq):=sD rfl rfl rfl ∅
def we(F:Fun K "number_tables" "number_tables" oq f fd)(aab:mg "range" = none)(aaa:mg "len" = none)(aar:mO P w K mg base 22 "leads_among" nP kC)(aaE:mO P w K mg base 2 "number_at" sP jU):FnOk P w K mg base o9 23 f fd oF (p8 K 1 k8):=sE (m:=oz) F qL λj B d s H E g=>
 iZ (jw (i:=1) qL.nd<|wW aar g<|iQ 0)
 (i9<|jv<|kY (N:=["k", "hearth", "leads"]) (cap:=[none,some 0,some 1]) rfl (nR ["hearth", "leads"] rfl ∅ ∅ ∅ ∅ ∅ (bh.mpr ⟨by first|exact Or.inl rfl|exact Or.inr rfl,(bh.mpr ⟨by first|exact Or.inl rfl|exact Or.inr rfl,(nofun)⟩)⟩) ⟨rfl,by decide +kernel,⟨rfl,by decide +kernel,trivial⟩⟩) (wk aab je<|jE qM aaa nI<|iV (lE (iQ 0) je) jd) (λ_ _ _ _=>jl (i:=0) (show(["k", "hearth", "leads"]:ar).Nodup by decide +kernel) rfl (Or.inr rfl)<|.inl rfl) (λ_ _ _ _=>l6) λ_ _ _ _=>kY (N:=["one", "k", "leads", "hearth"]) (cap:=[none,some 0,some 2,some 1]) rfl (nR ["k", "leads", "hearth"] rfl ∅ ∅ ∅ ∅ ∅ (bh.mpr ⟨by first|exact Or.inl rfl|exact Or.inr rfl,(bh.mpr ⟨by first|exact Or.inl rfl|exact Or.inr rfl,(bh.mpr ⟨by first|exact Or.inl rfl|exact Or.inr rfl,(nofun)⟩)⟩)⟩) ⟨rfl,by decide +kernel,⟨rfl,by decide +kernel,⟨rfl,by decide +kernel,trivial⟩⟩⟩) (kK<|iQ 1) (λ_ _ _ _=>jl (i:=0) (show(["one", "k", "leads", "hearth"]:ar).Nodup by decide +kernel) rfl (Or.inr rfl)<|.inl rfl) (λ_ _ _ _=>l6) λ_ _ _ _=>kY (N:=["other", "k", "one", "leads"]) (cap:=[none,some 1,some 0,some 2]) rfl (nR ["k", "one", "leads"] rfl ∅ ∅ ∅ ∅ ∅ (bh.mpr ⟨by first|exact Or.inl rfl|exact Or.inr rfl,(bh.mpr ⟨by first|exact Or.inl rfl|exact Or.inr rfl,(bh.mpr ⟨by first|exact Or.inl rfl|exact Or.inr rfl,(nofun)⟩)⟩)⟩) ⟨rfl,by decide +kernel,⟨rfl,by decide +kernel,⟨rfl,by decide +kernel,trivial⟩⟩⟩) (kK<|iQ 3) (λ_ _ _ _=>jl (i:=0) (show(["other", "k", "one", "leads"]:ar).Nodup by decide +kernel) rfl (Or.inl rfl)<|.inr rfl) (λ_ _ _ _=>l6) λ_ _ _ _=>fn4 aaE g (iQ 1) (iQ 2) (iQ 0)<|iQ 3)
def y_:FnScope rE qX (jf rR):=sD rfl rfl rfl ∅
def yT(F:Fun K "all_orders" "all_orders" rR f fd)(aab:mg "range" = none)(aaF:∃t,mg "MOST_THINGS" = some (.int 4 t))(aai:mO P w K mg base 1 "factorial" qb kj)(aaG:mO P w K mg base 2 "numbered" uK mC):FnOk P w K mg base o9 3 f fd qX (p8 K 1 m8):=sE (m:=rL) F y_ λj B g s H E d=>
 iZ (lD (jR (LC d.units) (iQ 0)<|KP aaF.choose_spec)
 (i9<|G4)
 jM)
 (i9<|jv<|kY (N:=["number", "n"]) (cap:=[none,some 0]) rfl (nR ["n"] rfl ∅ ∅ ∅ ∅ ∅ (bh.mpr ⟨by first|exact Or.inl rfl|exact Or.inr rfl,(nofun)⟩) ⟨rfl,by decide +kernel,trivial⟩) (mH aab<|wW aai d<|iQ 0) (λ_ _ _ _=>jl (i:=0) (show(["number", "n"]:ar).Nodup by decide +kernel) rfl (Or.inl rfl)<|.inr rfl) (λ_ _ _ _=>l6) λ_ _ _ _=>zc aaG d (iQ 1)<|iQ 0)
def vC:FnScope nK nE (jf nJ):=sD rfl rfl rfl ∅
def vm(F:Fun K "has_other_fall" "has_other_fall" nJ f fd)(aaH:mg "any" = none)(aac:mO P w K mg base 1 "falls" qf jW):FnOk P w K mg base o9 2 f fd nE (p8 K 2 ju):=sE (m:=nG) F vC λj B g s H E d=>
 i9 (jv<|jE (Xp rfl) aaH Vt<|iV (kY (N:=["k", "other"]) (cap:=[none,some 1]) rfl (nR ["other"] rfl ∅ ∅ ∅ ∅ ∅ (bh.mpr ⟨by first|exact Or.inl rfl|exact Or.inr rfl,(nofun)⟩) ⟨rfl,by decide +kernel,trivial⟩) (kK<|wW aac d<|iQ 0) (λ_ _ _ _=>jl (i:=0) (show(["k", "other"]:ar).Nodup by decide +kernel) rfl (Or.inl rfl)<|.inr rfl) (λ_ _ _ _=>l6) λ_ _ _ _=>D9 (GC d.units) (iQ 0)<|wW aac d<|iQ 1) jd)
def k9:FnScope pM pZ (jf pH):=sD rfl rfl rfl ∅
def wN(F:Fun K "reached_from" "reached_from" pH f fd):FnOk P w K mg base o9 1 f fd pZ (p8 K 2 j7):=sE (m:=pL) F k9 λj B g s H E d=>
 iZ (jw (i:=2) k9.nd<|O5 d.units (iQ 0) wI)
 (iZ (jw (i:=3) k9.nd<|qD<|iV (iQ 0) jd)
 (iZ (Dr 1000000 bR (oK<|iQ 3)
 (iZ (jw (i:=4) k9.nd<|Us PySem.F.slot_list_pop PySem.F.type_list_pop XD<|iQ 3)
 (i9 (lN bR rfl (kK<|U4 d.units (iQ 1)<|iQ 4) (jl (i:=5) k9.nd)
 (i9 (lD (jR (CT d.units) (iQ 5)<|iQ 2)
 (iZ (pJ wI<|xD d.units (iQ 2)<|iQ 5)
 (i9<|oX<|F6 fL fM yK (iQ 3)<|iV (iQ 5) jd))
 jM))))))
 (i9<|jv<|iQ 2)))
def nW:FnScope uP u5 (jf uJ):=sD rfl rfl rfl ∅
def C_(F:Fun K "gathered" "gathered" uJ f fd)(aad:mg "sorted" = none)(aaI:mO P w K mg base 1 "reached_from" pZ j7):FnOk P w K mg base o9 2 f fd u5 (p8 K 1 pP):=sE (m:=uS) F nW λj B g s H E d=>
 iZ (jw (i:=1) nW.nd<|Q0 (λ_=>Rl) d.units (N:=["order", "next_ones"]) (cap:=[none,some 0]) rfl (nR ["next_ones"] rfl ∅ ∅ ∅ ∅ ∅ (bh.mpr ⟨by first|exact Or.inl rfl|exact Or.inr rfl,(nofun)⟩) ⟨rfl,by decide +kernel,trivial⟩) (CU<|iQ 0) (λ_ _ _ _=>jl (i:=0) (show(["order", "next_ones"]:ar).Nodup by decide +kernel) rfl (Or.inl rfl)<|.inr rfl) (λ_ _ _ _=>l6) (λ_ _ _ _=>iQ 0) λ_ _ _ _=>zc aaI d (iQ 0)<|iQ 1)
 (iZ (jw (i:=2) nW.nd<|qD jd)
 (iZ (lN bR rfl (kK<|jE (Lz rfl) aad t7<|iV (iQ 0) jd) (jl (i:=3) nW.nd)
 (iZ (jw (i:=4) nW.nd<|jE P6 aad t7<|iV (kY (N:=["other", "order", "reached"]) (cap:=[none,some 3,some 1]) rfl (nR ["order", "reached"] rfl ∅ ∅ ∅ ∅ ∅ (bh.mpr ⟨by first|exact Or.inl rfl|exact Or.inr rfl,(bh.mpr ⟨by first|exact Or.inl rfl|exact Or.inr rfl,(nofun)⟩)⟩) ⟨rfl,by decide +kernel,⟨rfl,by decide +kernel,trivial⟩⟩) (CU<|yL d.units (iQ 1)<|iQ 3) (λ_ _ _ _=>jl (i:=0) (show(["other", "order", "reached"]:ar).Nodup by decide +kernel) rfl (Or.inl rfl)<|.inr rfl) (λ_ _ _ _=>vM<|jR (XJ d.units) (iQ 1)<|yL d.units (iQ 2)<|iQ 0) λ_ _ _ _=>iQ 0) jd)
 (i9 (lD (jR (Pw d.units) (lE (iQ 4) je)<|iQ 3)
 (i9<|oX<|F6 fL fM yK (iQ 2)<|iV (iQ 4) jd)
 jM))))
 (i9<|jv<|iQ 2)))
def nA:FnScope oM oE (jf oA):=sD rfl rfl rfl ∅
def vX(F:Fun K "right_hearths" "right_hearths" oA f fd)(aaJ:mO P w K mg base 3 "all_orders" qX m8)(aar:mO P w K mg base 22 "leads_among" nP kC)(aaK:mO P w K mg base 2 "gathered" u5 pP)(aaL:mO P w K mg base 2 "has_other_fall" nE ju):FnOk P w K mg base o9 23 f fd oE (p8 K 1 jX):=sE (m:=ow) F nA λj B g s H E d=>
 iZ (jw (i:=1) nA.nd<|wW aaJ d<|iQ 0)
 (iZ (jw (i:=2) nA.nd<|wW aar d<|iQ 1)
 (i9<|jv<|wW aaK d<|Q0 (λ_=>Rl) d.units (N:=["one", "orders", "leads"]) (cap:=[none,some 1,some 2]) rfl (nR ["orders", "leads"] rfl ∅ ∅ ∅ ∅ ∅ (bh.mpr ⟨by first|exact Or.inl rfl|exact Or.inr rfl,(bh.mpr ⟨by first|exact Or.inl rfl|exact Or.inr rfl,(nofun)⟩)⟩) ⟨rfl,by decide +kernel,⟨rfl,by decide +kernel,trivial⟩⟩) (kK<|iQ 1) (λ_ _ _ _=>jl (i:=0) (show(["one", "orders", "leads"]:ar).Nodup by decide +kernel) rfl (Or.inr rfl)<|.inl rfl) (λ_ _ _ _=>l6) (λ_ _ _ _=>iQ 0) λ_ _ _ _=>kY (N:=["other", "leads", "one"]) (cap:=[none,some 2,some 0]) rfl (nR ["leads", "one"] rfl ∅ ∅ ∅ ∅ ∅ (bh.mpr ⟨by first|exact Or.inl rfl|exact Or.inr rfl,(bh.mpr ⟨by first|exact Or.inl rfl|exact Or.inr rfl,(nofun)⟩)⟩) ⟨rfl,by decide +kernel,⟨rfl,by decide +kernel,trivial⟩⟩) (kK<|iQ 1) (λ_ _ _ _=>jl (i:=0) (show(["other", "leads", "one"]:ar).Nodup by decide +kernel) rfl (Or.inl rfl)<|.inr rfl) (λ_ _ _ _=>vM<|AW.at<|A3 (jR (WJ d.units) (pW<|iV (iQ 2)<|iV (iQ 0) jd)<|iQ 1)<|w4<|oK<|zc aaL d (iQ 0)<|iQ 2) λ_ _ _ _=>iQ 0))
def Cs:FnScope uO u0 (jf uR):=sD rfl rfl rfl ∅
def Dp(F:Fun K "_law_cell" "_law_cell" uR f fd)(aaa:mg "len" = none):FnOk P w K mg base o9 1 f fd u0 (p8 K 2 pX):=sE (m:=uI) F Cs λj B d s H E g=>
 iZ (lD (jR (PR g.units) (iQ 1)<|jE qM aaa nI<|iV (iQ 0) jd)
 (i9<|jv<|lE (iQ 0)<|iQ 1)
 jM)
 (i9<|jv je)
def uL:FnScope wB wz (jf wj):=sD rfl rfl rfl ∅
def Ey(F:Fun K "_law_bag" "_law_bag" wj f fd)(aaM:mg "abs" = none):FnOk P w K mg base o9 1 f fd wz (p8 K 2 qJ):=sE (m:=wg) F uL λj B d s H E g=>
 iZ (jw (i:=2) uL.nd<|jE WB aaM TQ<|iV (iQ 0) jd)
 (iZ (lD (jR (PR g.units) (iQ 2)<|jt V9 je je)
 (i9<|jw (i:=2) uL.nd je)
 jM)
 (i9<|jv<|qD<|iV (iQ 2)<|iV (jt zk (jt rW (jt rW (jt yI (jt zk (iQ 0) je) je)<|jt yI je<|iQ 1) je) je) jd))
def AX:FnScope sO t6 (jf sA):=sD rfl rfl rfl ∅
def BP(F:Fun K "_law_mixed" "_law_mixed" sA f fd):FnOk P w K mg base o9 1 f fd t6 (p8 K 1 mK):=sE (m:=r_) F AX λg B d s H E j=>
 iZ (pJ (jt zk (jt rW (jt yI (lE (iQ 0) je) je) je) je)<|Bg (iQ 0) je)
 (i9<|jv<|jt Bw (jt zk (jt yI (lE (iQ 0) je) je) je) je)
def ng:FnScope qa tV (jf sR):=sD rfl rfl rfl ∅
def Bj(F:Fun K "_law_digit" "_law_digit" sR f fd)(aab:mg "range" = none)(aav:mO P w K mg base 1 "_law_mixed" t6 mK):FnOk P w K mg base o9 2 f fd tV (p8 K 2 kM):=sE (m:=qd) F ng λj B g s H E d=>
 iZ (lD (jR (LC d.units) (lE (iQ 0) je) je)
 (iZ (jw (i:=2) ng.nd<|jt zk (lE (iQ 0) je)<|iQ 1)
 (iZ (pJ (jt Bw (lE (iQ 0) je)<|iQ 1)<|Bg (iQ 0) je)
 (i9<|jv<|iQ 2)))
 jM)
 (iZ (jw (i:=2) ng.nd<|wW aav d<|iQ 0)
 (iZ (lD (jR (LC d.units) (iQ 1) je)
 (i9 (lN bR rfl (mH aab je) (jl (i:=3) ng.nd)
 (i9<|jw (i:=2) ng.nd<|jt rW (jt yI (iQ 2) je)<|wW aav d<|iQ 0)))
 jM)
 (i9<|jv<|jt zk (iQ 2)<|iQ 1)))
def AQ:FnScope tF r8 (jf s_):=sD rfl rfl rfl ∅
def Ba(F:Fun K "_law_times" "_law_times" s_ f fd)(aab:mg "range" = none)(aaa:mg "len" = none)(aaN:mg "sum" = none):FnOk P w K mg base o9 1 f fd r8 (p8 K 2 jT):=sE (m:=sX) F AQ λg B d s H E j=>
 i9 (jv<|kY (N:=["_law_row", "_law_other"]) (cap:=[none,some 1]) rfl (nR ["_law_other"] rfl ∅ ∅ ∅ ∅ ∅ (bh.mpr ⟨by first|exact Or.inl rfl|exact Or.inr rfl,(nofun)⟩) ⟨rfl,by decide +kernel,trivial⟩) (kK<|iQ 0) (λ_ _ _ _=>jl (i:=0) (show(["_law_row", "_law_other"]:ar).Nodup by decide +kernel) rfl (Or.inr rfl)<|.inl rfl) (λ_ _ _ _=>l6) λ_ _ _ _=>kY (N:=["_law_j", "_law_row", "_law_other"]) (cap:=[none,some 0,some 1]) rfl (nR ["_law_row", "_law_other"] rfl ∅ ∅ ∅ ∅ ∅ (bh.mpr ⟨by first|exact Or.inl rfl|exact Or.inr rfl,(bh.mpr ⟨by first|exact Or.inl rfl|exact Or.inr rfl,(nofun)⟩)⟩) ⟨rfl,by decide +kernel,⟨rfl,by decide +kernel,trivial⟩⟩) (mH aab<|jE qM aaa nI<|iV (iQ 0) jd) (λ_ _ _ _=>jl (i:=0) (show(["_law_j", "_law_row", "_law_other"]:ar).Nodup by decide +kernel) rfl (Or.inr rfl)<|.inl rfl) (λ_ _ _ _=>l6) λ_ _ _ _=>jE (W7 rfl) aaN Up<|iV (kY (N:=["_law_k", "_law_row", "_law_j", "_law_other"]) (cap:=[none,some 1,some 0,some 2]) rfl (nR ["_law_row", "_law_j", "_law_other"] rfl ∅ ∅ ∅ ∅ ∅ (bh.mpr ⟨by first|exact Or.inl rfl|exact Or.inr rfl,(bh.mpr ⟨by first|exact Or.inl rfl|exact Or.inr rfl,(bh.mpr ⟨by first|exact Or.inl rfl|exact Or.inr rfl,(nofun)⟩)⟩)⟩) ⟨rfl,by decide +kernel,⟨rfl,by decide +kernel,⟨rfl,by decide +kernel,trivial⟩⟩⟩) (mH aab<|jE qM aaa nI<|iV (iQ 1) jd) (λ_ _ _ _=>jl (i:=0) (show(["_law_k", "_law_row", "_law_j", "_law_other"]:ar).Nodup by decide +kernel) rfl (Or.inl rfl)<|.inr rfl) (λ_ _ _ _=>l6) λ_ _ _ _=>jt yI (lE (iQ 1)<|iQ 0)<|lE (lE (iQ 3)<|iQ 0)<|iQ 2) jd)
def nh:FnScope sF sW (jf tu):=sD rfl rfl rfl ∅
def BJ(F:Fun K "_law_keeps" "_law_keeps" tu f fd)(aab:mg "range" = none)(aaa:mg "len" = none)(aaj:mg "int" = none)(aah:mO P w K mg base 1 "_law_times" r8 jT):FnOk P w K mg base o9 2 f fd sW (p8 K 1 nV):=sE (m:=sG) F nh λj B g s H E d=>
 iZ (lN bR rfl (mH aab<|jE qM aaa nI<|iV (iQ 0) jd) (jl (i:=1) nh.nd)
 (iZ (jw (i:=2) nh.nd<|lE (iQ 0)<|iQ 1)
 (iZ (lD (jR (Cz d.units) (zc aah d (iQ 2)<|iQ 2)<|kY (N:=["_law_i", "_law_one"]) (cap:=[none,some 2]) rfl (nR ["_law_one"] rfl ∅ ∅ ∅ ∅ ∅ (bh.mpr ⟨by first|exact Or.inl rfl|exact Or.inr rfl,(nofun)⟩) ⟨rfl,by decide +kernel,trivial⟩) (mH aab<|jE qM aaa nI<|iV (iQ 2) jd) (λ_ _ _ _=>jl (i:=0) (show(["_law_i", "_law_one"]:ar).Nodup by decide +kernel) rfl (Or.inr rfl)<|.inl rfl) (λ_ _ _ _=>l6) λ_ _ _ _=>kY (N:=["_law_j", "_law_i"]) (cap:=[none,some 0]) rfl (nR ["_law_i"] rfl ∅ ∅ ∅ ∅ ∅ (bh.mpr ⟨by first|exact Or.inl rfl|exact Or.inr rfl,(nofun)⟩) ⟨rfl,by decide +kernel,trivial⟩) (mH aab<|jE qM aaa nI<|iV (iQ 1) jd) (λ_ _ _ _=>jl (i:=0) (show(["_law_j", "_law_i"]:ar).Nodup by decide +kernel) rfl (Or.inl rfl)<|.inr rfl) (λ_ _ _ _=>l6) λ_ _ _ _=>mR Uh aaj MN<|iV (D9 (Pw d.units) (iQ 1)<|iQ 0) jd)
 (i9<|jv wI)
 jM)
 (i9 (lN bR rfl (mH aab<|iQ 1) (jl (i:=3) nh.nd)
 (iZ (jw (i:=4) nh.nd<|lE (iQ 0)<|iQ 3)
 (iZ (lD (AW.at<|A3 (jR (LC d.units) (jt uB (iQ 1)<|iQ 3) je)<|w4<|jR (Cz d.units) (zc aah d (iQ 2)<|iQ 4)<|zc aah d (iQ 4)<|iQ 2)
 (i9<|jv wI)
 jM)
 (i9 (lD (jR (Pw d.units) (jt uB (iQ 1)<|iQ 3) je)
 (i9 (lD (jR (Cz d.units) (zc aah d (zc aah d (iQ 2)<|iQ 4)<|iQ 2)<|zc aah d (zc aah d (iQ 4)<|iQ 2)<|iQ 4)
 (i9<|jv wI)
 jM))
 jM)))))))))
 (i9<|jv wI)
def BS:FnScope JG Rv (jf MD):=sD rfl rfl rfl ∅
set_option smartUnfolding false in
theorem RP(F:Fun K "law" "law" MD f fd)(aaa:mg "len" = none)(aaO:mO P w K mg base 2 "_law_digit" tV kM)(aaP:mO P w K mg base 1 "_law_bag" wz qJ)(aaQ:mO P w K mg base 1 "_law_cell" u0 pX)(aaR:mO P w K mg base 23 "right_hearths" oE jX)(aaS:mO P w K mg base 23 "number_tables" oF k8)(aaT:mO P w K mg base 2 "_law_keeps" sW nV):FnOk P w K mg base o9 24 f fd Rv (p8 K 1 zo):=sE (m:=LL) F BS λj B g s H E d=>
 iZ (jw (i:=1) BS.nd<|lE (qD<|iV je<|iV je<|iV je<|iV je jd)<|zc aaO d (zc aaP d (zc aaQ d (iQ 0) je) je) je)
 (iZ (lN bR rfl (kK<|wW aaR d<|iQ 1) (jl (i:=2) BS.nd)
 (iZ (jw (i:=3) BS.nd<|wW aaS d<|iQ 2)
 (i9 (lD (AW.at<|FO (jR (Cz d.units) (jE qM aaa nI<|iV (iQ 3) jd)<|jt uB (iQ 1) je)<|EN<|ES<|oK<|wW aaT d<|iQ 3)
 (i9<|jv wI)
 jM))))
 (i9<|jv wI))
end
end K70
namespace Po
open Am
meta abbrev Pl:=List<|Int×Int
abbrev val (d:Pl)(k:Int):Int:=((d.find? λp=>decide<|p.1=k).map (·.2)).getD 0
abbrev has (d:Pl)(k:Int):Bool:=d.any λp=>decide<|p.1=k
abbrev put (d:Pl)(k v:Int):Pl:=if has d k=true then d.map (λp=>if p.1=k then(p.1,v)else p)else d++[(k,v)]
abbrev acc (d:Pl)(k v:Int):Pl:=put d k<|val d k+v
abbrev cf:Pl->Int->Int
 | [],_=>0
 | p::l,k=>(if p.1=k then p.2 else 0)+cf l k
def nS{p:Int×Int}{d:Pl}{k:Int}:val (p::d) k=if p.1=k then p.2 else val d k:=by
 unfold val;rw[bT];by_cases h:p.1=k
 ·rw[aY h,aP h];rfl
 ·rw[bu h,aM h]
def yf{p:Int×Int}{d:Pl}{k:Int}:has (p::d) k=(decide (p.1=k) || has d k):=rfl
def vD{d:Pl}{k:Int}:has d k=true ↔ k∈d.map Prod.fst:=by
 unfold has;rw[fu,bf];constructor
 ·rintro⟨p,h1,h2⟩;exact⟨p,h1,bH h2⟩
 ·rintro⟨p,h1,h2⟩;exact⟨p,h1,aY h2⟩
def Kg{d:Pl}{k:Int}(h:has d k=false):val d k=0:=by
 induction d with
 | nil=>rfl
 | cons p d f=>
  rw[yf,gH]at h;rw[nS,aM<|c_ h.1,f h.2]
def Ph{d:Pl}{k v j:Int}(h:has d k=false):val (d++[(k,v)]) j=if j=k then v else val d j:=by
 induction d with
 | nil=>
  show val [(k,v)] j=_;rw[nS];by_cases c:k=j
  ·rw[aP c,aP c.symm]
  ·rw[aM c,aM λz=>c z.symm]
 | cons p d f=>
  rw[yf,gH]at h;have:=c_ h.1;rw[iD,nS,nS,f h.2];by_cases c:p.1=j
  ·rw[aP c,aP c,aM λz=>this<|c.trans z]
  ·rw[aM c,aM c]
def PV{d:Pl}{k v j:Int}:val (d.map λp=>if p.1=k then(p.1,v)else p) j=if j=k/\has d k=true then v else val d j:=by
 induction d with
 | nil=>
  rw[aM λz=>by cases z.2];rfl
 | cons p d f=>
  rw[bE,nS,nS,f,yf];by_cases c:p.1=k
  ·rw[aP c,aY c,Bool.true_or];by_cases e:j=k
   ·rw[aP<|show p.1=j by lia,aP ⟨e,rfl⟩]
   ·rw[aM<|show ¬p.1=j by lia,aM λz=>e z.1,aM λz=>e z.1,aM<|show ¬p.1=j by lia]
  ·rw[aM c,bu c,fH];by_cases e:p.1=j
   ·rw[aP e,aP e,aM λz=>c<|e.trans z.1]
   ·rw[aM e,aM e]
def Oo{d:Pl}{k v j:Int}:val (put d k v) j=if j=k then v else val d j:=by
 unfold put
 cases h:has d k with
 | true=>
  rw[aP rfl,PV,h];by_cases c:j=k
  ·rw[aP ⟨c,rfl⟩,aP c]
  ·rw[aM λz=>c z.1,aM c]
 | false=>rw[aM<|by simp,Ph h]
def Qn{d:Pl}{k v j:Int}:val (acc d k v) j=val d j+if k=j then v else 0:=by
 unfold acc;rw[Oo];by_cases c:j=k
 ·subst c;rw[aP rfl,aP rfl]
 ·rw[aM c,aM λz=>c z.symm,eG]
def Cu{d:Pl}{k v:Int}:(put d k v).map Prod.fst=if has d k=true then d.map Prod.fst else d.map Prod.fst++[k]:=by
 unfold put;split
 ·rw[bg];apply bU;intro p _;show(if p.1=k then(p.1,v)else p).1=p.1;split<;>rfl
 ·rw[bC];rfl
def RW{d:Pl}{k v:Int}(h:(d.map Prod.fst).Nodup):((put d k v).map Prod.fst).Nodup:=by
 rw[Cu];split
 ·exact h
 ·rename_i c;rw[cO];refine⟨h,cZ _ _,λa ha b hb z=>c ?_⟩;rw[aX]at hb;rw[vD,<- hb,<- z];exact ha
def Ob{d:Pl}{k v:Int}:(put d k v).length<=d.length+1:=by
 unfold put;split
 ·rw[aG];lia
 ·rw[bw];exact aL _
abbrev Bd (c:Nat)(d:Pl):Prop:=∀p∈d,p.2.natAbs<=c
theorem Bd.val{c:Nat}{d:Pl}(h:Bd c d)(k:Int):(val d k).natAbs<=c:=by
 induction d with
 | nil=>exact bO _
 | cons p d f=>
  rw[nS];split
  ·exact h p (aO ..)
  ·exact f λq hq=>h q<|aS _ hq
abbrev pG (d ps:Pl):Pl:=ps.foldl (λd p=>acc d p.1 p.2) d
def Mp(d:Pl):pG d []=d:=rfl
def yj(d ps qs:Pl):pG d (ps++qs)=pG (pG d ps) qs:=by unfold pG;rw[dz]
def vg(ps:Pl):∀(d:Pl) (k:Int),val (pG d ps) k=val d k+cf ps k:=by
 induction ps with
 | nil=>intro d k;rw[Mp];show _=_+0;rw[eG]
 | cons p ps f=>
  intro d k;show val (pG (acc d p.1 p.2) ps) k=_;rw[f,Qn];show _=_+(_+_);rw[gG]
def t_(ps:Pl):∀{d:Pl},(d.map Prod.fst).Nodup->((pG d ps).map Prod.fst).Nodup:=by
 induction ps with
 | nil=>intro d h;exact h
 | cons p ps f=>intro d h;exact f<|RW h
def tX(ps:Pl):∀(d:Pl),(pG d ps).length<=d.length+ps.length:=by
 induction ps with
 | nil=>intro d;exact aL _
 | cons p ps f=>
  intro d;have h1:=f<|acc d p.1 p.2;have h2:(acc d p.1 p.2).length<=d.length+1:=Ob;show(pG (acc d p.1 p.2) ps).length<=_;rw[bN]
  lia
structure Ok (l:Pl):Prop where
 up:l.Pairwise λp q=>p.1<q.1
 nz:∀p∈l,p.2≠0
def Ok.tail{p:Int×Int}{l:Pl}(h:Ok (p::l)):Ok l:=⟨(cy.mp h.up).2,λq hq=>h.nz q<|aS _ hq⟩
def CF{l:Pl}{k:Int}(h:∀p∈l,k<p.1):cf l k=0:=by
 induction l with
 | nil=>rfl
 | cons p l d=>
  show(if p.1=k then p.2 else 0)+cf l k=0;have:=h p<|aO ..;rw[aM (),d λq hq=>h q<|aS _ hq];rfl
def Ok.head{p:Int×Int}{l:Pl}(h:Ok (p::l)):cf (p::l) p.1=p.2:=by
 show(if p.1=p.1 then p.2 else 0)+cf l p.1=p.2;rw[aP rfl,CF (cy.mp h.up).1,eG]
def Ok.low{p:Int×Int}{l:Pl}(h:Ok (p::l)){k:Int}(hk:k<p.1):cf (p::l) k=0:=CF λq hq=>by
 rcases bF.mp hq with rfl|z
 ·exact hk
 ·have:=(cy.mp h.up).1 q z;lia
theorem uniq:∀{l m:Pl},Ok l->Ok m->(∀k,cf l k=cf m k)->l=m
 | [],[],_,_,_=>rfl
 | [],q::m,_,h,e=>by
  have:=e q.1;rw[h.head]at this;exact absurd this.symm<|h.nz q<|aO ..
 | p::l,[],h,_,e=>by
  have:=e p.1;rw[h.head]at this;exact absurd this<|h.nz p<|aO ..
 | p::l,q::m,h,h',e=>by
  have f:=h.nz p<|aO ..;have d:=h'.nz q<|aO ..;have e1:p.1=q.1:=by
   rcases Int.lt_trichotomy p.1 q.1 with c|c|c
   ·have:=e p.1;rw[h.head,h'.low c]at this;exact absurd this f
   ·exact c
   ·have:=e q.1;rw[h'.head,h.low c]at this;exact absurd this.symm d
  have e2:p.2=q.2:=by
   have:=e p.1;rw[h.head,e1,h'.head]at this;exact this
  have e3:p=q:=Prod.ext e1 e2;subst e3;rw[uniq h.tail h'.tail λk=>by
   have:(if p.1=k then p.2 else 0)+cf l k=(if p.1=k then p.2 else 0)+cf m k:=e k
   lia]
abbrev IG (d:Pl):Pl:=((sortI<|d.map Prod.fst).filter λk=>val d k != 0).map λk=>(k,val d k)
def Qg{ks:ag}(h:ks.Nodup):(sortI ks).Pairwise (· < ·):=by
 have p:=yw ks;have n:(sortI ks).Nodup:=(sortI_perm ks).nodup_iff.mpr h;have:(sortI ks).Pairwise λa b=>a<=b/\a≠b:=p.and n;exact this.imp λ⟨a,b⟩=>()
def Au{d:Pl}(h:(d.map Prod.fst).Nodup):Ok (IG d):=by
 refine⟨?_,λp g=>?_⟩
 ·unfold IG;rw[cj];exact(Qg h).filter _
 ·obtain⟨k,f,rfl⟩:=bf.mp g;have:=(cA.mp f).2;simpa using this
theorem Ni{d:Pl}{k:Int}:∀{ks:ag},ks.Nodup->cf (ks.map λj=>(j,val d j)) k=if k∈ks then val d k else 0
 | [],_=>by rw[aM<|by simp];rfl
 | j::ks,h=>by
  obtain⟨h1,h2⟩:=cR.mp h;show(if j=k then val d j else 0)+cf (ks.map λj=>(j,val d j)) k=_;rw[Ni h2];by_cases c:j=k
  ·subst c;rw[aP rfl,aM h1,aP<|aO ..,eG]
  ·rw[aM c,cF];by_cases e:k∈ks
   ·rw[aP e,aP<|aS _ e]
   ·rw[aM e,aM λz=>(bF.mp z).elim (λz=>c z.symm) e]
def By{d:Pl}(h:(d.map Prod.fst).Nodup)(k:Int):cf (IG d) k=val d k:=by
 unfold IG;rw[Ni<|((sortI_perm _).nodup_iff.mpr h).filter _];split
 ·rfl
 ·rename_i c
  cases e:has d k with
  | false=>exact(Kg e).symm
  | true=>
   by_cases z:val d k=0
   ·exact z.symm
   ·exact absurd (cA.mpr ⟨(sortI_perm _).mem_iff.mpr<|vD.mp e,by simpa using z⟩) c
def Tt{d e:Pl}(h:(d.map Prod.fst).Nodup)(h':(e.map Prod.fst).Nodup)(hv:∀k,val d k=val e k):IG d=IG e:=
 uniq (Au h) (Au h') λk=>by rw[By h,By h',hv]
def Ok.nd{l:Pl}(h:Ok l):(l.map Prod.fst).Nodup:=by
 unfold List.Nodup;rw[cj];exact h.up.imp λa=>()
def NY{l:Pl}(h:(l.map Prod.fst).Nodup)(k:Int):val l k=cf l k:=by
 induction l with
 | nil=>rfl
 | cons p l d=>
  obtain⟨h1,h2⟩:=cR.mp h;rw[nS];show _=(if p.1=k then p.2 else 0)+cf l k;rw[<- d h2];by_cases c:p.1=k
  ·have:has l k=false:=by
    cases e:has l k with
    | false=>rfl
    | true=>exact absurd (vD.mp e)<|by rw[<- c];exact h1
   rw[aP c,aP c,Kg this,eG]
  ·rw[aM c,aM c,cF]
abbrev MX (d ps:Pl):Pl:=ps.foldl (λd p=>put d p.1 p.2) d
theorem Gw:∀(ps d:Pl),((d++ps).map Prod.fst).Nodup->MX d ps=d++ps
 | [],d,_=>by rw[b9];rfl
 | p::ps,d,h=>by
  have hn:has d p.1=false:=by
   cases e:has d p.1 with
   | false=>rfl
   | true=>
    rw[bC,cO]at h;exact absurd rfl<|h.2.2 _ (vD.mp e) p.1<|dD<|aO ..
  have e:put d p.1 p.2=d++[p]:=by unfold put;rw[hn];rfl
  show MX (put d p.1 p.2) ps=_;rw[e,Gw ps (d++[p])<|by rw[cB];exact h,cB];rfl
def FA{l:Pl}(h:Ok l):MX [] l=l:=Gw l [] h.nd
abbrev plus (a b:Pl):Pl:=IG<|pG a b
abbrev pV (a b:Pl):Pl:=IG<|pG []<|a++b
def P8{a b:Pl}(h:Ok a):plus a b=pV a b:=by
 refine Tt (t_ _ h.nd) (t_ _ cP) λk=>?_;rw[vg,vg,NY h.nd];have:∀(a b:Pl),cf (a++b) k=cf a k+cf b k:=λa b=>by
  induction a with
  | nil=>exact(cF _).symm
  | cons p a d=>
   show _+cf (a++b) k=_+_+_;rw[d,gG]
 rw[this];show _=0+_;rw[cF]
def xT(a b:Pl):Ok (pV a b):=Au<|t_ _ cP
abbrev ET (a b:Pl):Pl:=a.flatMap λp=>b.map λq=>(p.1+q.1,p.2 * q.2)
abbrev times (a b:Pl):Pl:=IG<|pG []<|ET a b
def yh(a b:Pl):Ok (times a b):=Au<|t_ _ cP
theorem Li(a:Pl)(p:Int×Int)(b:Pl):ET (a++[p]) b=ET a b++b.map λq=>(p.1+q.1,p.2 * q.2):=by
 unfold ET;rw[gQ,List.flatMap_cons,List.flatMap_nil,b9]
def G5(a b:Pl):(ET a b).length=a.length * b.length:=by
 induction a with
 | nil=>simp[ET]
 | cons p a d=>
  show((b.map _)++ET a b).length=_;rw[bw,aG,d,bN,gR]
  lia
abbrev turn (a:Pl):Pl:=a.reverse.map λp=>(-p.1,p.2)
abbrev iv (d:Pl):List (Int×A):=d.map λp=>(p.1,.int p.2)
abbrev pA (p:Int×Int):A:=.tup [.int p.1,.int p.2]
abbrev pl (l:Pl):ae:=l.map pA
def A5(d:Pl)(k:Int):lQ (iv d) k=(d.find? λp=>decide<|p.1=k).map λp=>.int p.2:=by
 unfold lQ iv;rw[gp,dO];rfl
def DO(d:Pl)(k:Int):(lQ (iv d) k).getD (.int 0)=.int (val d k):=by
 rw[A5];unfold val
 cases d.find? λp=>decide (p.1=k)<;>rfl
def C8{d:Pl}{k:Int}(h:k∈d.map Prod.fst):lQ (iv d) k=some (.int<|val d k):=by
 have:=vD.mpr h;unfold has at this;rw[A5];unfold val
 cases e:d.find? λp=>decide (p.1=k)with
 | some p=>rfl
 | none=>
  obtain⟨p,g,f⟩:=fu.mp this;exact absurd f<|eK.mp e p g
def ED(d:Pl)(k v:Int):vW (iv d) k (.int v)=iv (put d k v):=by
 have e:(lQ (iv d) k).isSome=has d k:=by
  rw[A5,dw];unfold has;rw[Bool.eq_iff_iff,iz,fu]
 unfold vW put;rw[e];unfold iv;split
 ·rw[bg,bg];apply bU;intro p _;show(if p.1=k then(p.1,A.int v)else(p.1,.int p.2))=_;show _=((if p.1=k then(p.1,v)else p).1,A.int (if p.1=k then(p.1,v)else p).2);split<;>rfl
 ·rw[bC];rfl
def Oi(d:Pl):(iv d).map Prod.fst=d.map Prod.fst:=by
 unfold iv;rw[bg];rfl
theorem Mj:∀l:Pl,Pq (pl l)=some (iv l)
 | []=>rfl
 | p::l=>by
  show(Pq<|pl l).map _=_;rw[Mj l];rfl
def E8(l:Pl):Qm (iv l)=iv (MX [] l):=by
 have:∀(l d:Pl),(iv l).foldl (λacc p=>vW acc p.1 p.2) (iv d)=iv (MX d l):=by
  intro l
  induction l with
  | nil=>intro d;rfl
  | cons p l f=>
   intro d;show(iv l).foldl _ (vW (iv d) p.1<|.int p.2)=_;rw[ED,f];rfl
 exact this l []
end Po
namespace Tb
abbrev fg (r:ag)(x:Int):Nat:=r.findIdx λy=>decide<|x<y
abbrev put:List (ag)->Int->List (ag)
 | [],x=>[[x]]
 | r::rs,x=>if fg r x=r.length then(r++[x])::rs else r.set (fg r x) x::put rs (r.getD (fg r x) 0)
abbrev row:List (ag)->Int->Nat
 | [],_=>0
 | r::rs,x=>if fg r x=r.length then 0 else row rs (r.getD (fg r x) 0)+1
abbrev bump:am->Nat->am
 | [],_=>[1]
 | n::ns,0=>(n+1)::ns
 | n::ns,i+1=>n::bump ns i
abbrev add:List (ag)->Nat->Int->List (ag)
 | [],_,k=>[[k]]
 | q::qs,0,k=>(q++[k])::qs
 | q::qs,i+1,k=>q::add qs i k
abbrev gs (r:ag)(x:Int):am:=(List.range r.length).filter λk=>decide<|x<r.getD k 0
end Tb
namespace Am
open PySem L2
abbrev Rows (S:iW):am->List (ag)->Prop
 | [],[]=>True
 | r::rs,x::T=>iU S r=some (x.map .int)/\Rows S rs T
 | _,_=>False
theorem Rows.len:∀{rs:am}{T:List<|ag},Rows S rs T->rs.length=T.length
 | [],[],_=>rfl
 | _::_,_::_,h=>cW (·+1) (Rows.len h.2)
 | [],_::_,h=>h.elim
 | _::_,[],h=>h.elim
theorem Rows.get:∀{rs:am}{T:List<|ag}{i:Nat}{r:Nat},Rows S rs T->rs[i]?=some r->i<T.length/\iU S r=some ((T.getD i []).map .int)
 | [],[],_,_,_,e=>by simp at e
 | r::rs,x::T,0,_,h,e=>by simp at e;subst e;exact⟨Nat.zero_lt_succ _,h.1⟩
 | r::rs,x::T,i+1,q,h,e=>by
  obtain⟨h1,h2⟩:=Rows.get (i:=i) (r:=q) h.2 (by simpa using e);exact⟨Nat.succ_lt_succ h1,by simpa using h2⟩
 | [],_::_,_,_,h,_=>h.elim
 | _::_,[],_,_,h,_=>h.elim
theorem Rows.mono:∀{rs:am}{T:List<|ag},Rows S rs T->(∀r∈rs,∀xs,iU S r=some xs->iU S' r=some xs)->Rows S' rs T
 | [],[],_,_=>trivial
 | r::rs,x::T,h,k=>⟨k r (aO ..) _ h.1,Rows.mono h.2 λq hq=>k q<|aS _ hq⟩
 | [],_::_,h,_=>h.elim
 | _::_,[],h,_=>h.elim
theorem Rows.app:∀{rs rs':am}{T T':List<|ag},Rows S rs T->Rows S rs' T'->Rows S (rs++rs') (T++T')
 | [],_,[],_,_,h=>h
 | r::rs,_,x::T,_,h,h'=>⟨h.1,Rows.app h.2 h'⟩
 | [],_,_::_,_,h,_=>h.elim
 | _::_,_,[],_,h,_=>h.elim
theorem uh{n:Nat}:∀{rs rs':am}{T T':List<|ag},Rows S rs T->Rows S rs' T'->rX (uG S<|n+2) (rs.map .ref) (rs'.map .ref)=some (decide<|T=T')
 | [],[],[],[],_,_=>rfl
 | [],_::_,[],_::_,_,_=>rfl
 | _::_,[],_::_,[],_,_=>rfl
 | r::rs,q::qs,x::T,y::T',h,h'=>by
  show(uG S (n+2) (.ref r)<|.ref q).bind _=_;have e:uG S (n+2) (.ref r) (.ref q)=some (decide<|x=y):=by
   show(iU S r).bind (λxs=>(iU S q).bind λys=>rX (uG S<|n+1) xs ys)=_;rw[h.1,cJ,h'.1,cJ];exact qO x y
  rw[e,cJ]
  skip
  rw[uh h.2 h'.2]
  skip
  by_cases h1:x=y<;>by_cases h2:T=T'<;>simp[h1,h2]
 | [],_,_::_,_,h,_=>h.elim
 | _::_,_,[],_,h,_=>h.elim
 | _,[],_,_::_,_,h=>h.elim
 | _,_::_,_,[],_,h=>h.elim
structure Tab (S:iW)(n:Nat)(rs:am)(T:List (ag)):Prop where
 top:iU S n=some (rs.map .ref)
 rows:Rows S rs T
 nd:(n::rs).Nodup
def eq_nil{a b:Nat}{xs:ae}(h:iU S a=some xs)(h':iU S b=some []):uG S 12 (.ref a) (.ref b)=some xs.isEmpty:=by
 show(iU S a).bind (λxs=>(iU S b).bind λys=>rX (uG S 11) xs ys)=_;rw[h,cJ,h',cJ]
 cases xs<;>rfl
def RC{a b:A}{k:Bool}(h:uG S 12 a b=some k):u7 false a b S=.ok (.bl k) S:=by unfold u7;rw[h];rfl
def Vz{a b:A}{k:Bool}(h:uG S 12 a b=some k):u7 true a b S=.ok (.bl<|!k) S:=by unfold u7;rw[h];rfl
def MF{xs:ae}{n:Nat}{src:Ic}{t:Te}{e:Ex}{S:iW}(hs:src τ S=.ok (jP n xs.length) S)(hx:iU S n=some xs)(p:A->Bool)(f:A->A)
  (ht:∀x∈xs,t (x::j3 cap τ) S=.ok (p x) S) (he:∀x∈xs,p x=true->e (x::j3 cap τ) S=.ok (f x) S) (hl:xs.length<=16777216) :
  jx (none::cap) src (jz 0) t e τ S=.ok (.ref S.length) (S++[.lst<|(xs.filter p).map f]):=by
 have g:∀i,i<xs.length->xs.getD i .unb∈xs:=λi d=>by
  rw[aK,aH d];exact cU d
 rw[wD hs (λi=>xs.getD i .unb) (λi=>p<|xs.getD i .unb) (λi=>f<|xs.getD i .unb) (λi d=>by
  have d:i<xs.length:=d;show(iU S n).bind _=_;rw[hx,cJ,aK,aH d];rfl) (by
   show(match iU S n with
    | some ys=>decide (ys.length<=xs.length)
    | none=>false)=true
   rw[hx];simp) (λi d=>ht _<|g i d) (λi d=>he _<|g i d) hl]
 have:=lI xs p f .unb;show R.ok _ (S++[O.lst<|((List.range xs.length).filter _).map _])=_;rw[this]
end Am
namespace Am
open PySem L2 Po
def KU(l:Pl):(pl l).length=l.length:=aG ..
def IF{xs:ae}{n:Nat}{src:Ic}{t:Te}{e:Ex}{S1:iW}(hs:src τ S=.ok (jP n xs.length) S1)(hx:iU S1 n=some xs)(p:A->Bool)(f:A->A)
  (ht:∀x∈xs,t (x::j3 cap τ) S1=.ok (p x) S1) (he:∀x∈xs,p x=true->e (x::j3 cap τ) S1=.ok (f x) S1) (hl:xs.length<=16777216) :
  jx (none::cap) src (jz 0) t e τ S=.ok (.ref S1.length) (S1++[.lst<|(xs.filter p).map f]):=by
 have:=MF (S:=S1) (src:=λ_ _=>.ok (jP n xs.length) S1) (τ:=τ) rfl hx p f ht he hl;unfold jx at this ⊢;rw[hs];exact this
def Ej{S:iW}{d:List<|Int×A}:kF (S++[.oS d]) S.length=some d:=Az Bh
def Sy{o:O}{n:Nat}{d:List<|Int×A}(h:kF S n=some d):kF (S++[o]) n=some d:=by
 have h':=oY h;exact Az<|by rw[br (aJ.mp h').1];exact h'
def Rb{S:iW}{n:Nat}{d:List<|Int×A}(h:kF S n=some d):n<S.length:=(aJ.mp<|oY h).1
def LV{S:iW}{n:Nat}{d:List<|Int×A}(h:n<S.length):kF (S.set n<|.oS d) n=some d:=Az<|bz h
def E_{n:Nat}{d:List<|Int×A}(h:kF S n=some d)(h':iU S m=some xs):n≠m:=λz=>by
 subst z;have e1:=oY h;rw[ji h']at e1
 cases e1
def Bo{f:A->ae->iW->R A}{co:Ex}{d:p6}:EJ f co d τ S=(co τ S).bind λx S1=>opt (dk? x S1) λ_=>(d τ S1).bind λas S2=>f x as S2:=rfl
def DU{n:Nat}:dk? (.ref n) S=(kF S n).map λ_=>Unit.unit:=rfl
def yP{n:Nat}{k:Int}:vQ (.ref n) [.int k,y] S=opt (kF S n) λkvs=>.ok ((lQ kvs k).getD y) S:=rfl
def GD{co ci:Ex}{a:A}:IJ co ci a τ S=(co τ S).bind λo S1=>(ci τ S1).bind λi S2=>(zl o i a S2).bind λ_ S3=>.ok τ S3:=rfl
def CV{n:Nat}{k:Int}{v:A}{S:iW}:zl (.ref n) (.int k) v S=opt (kF S n) λkvs=>gd (kvs.length<sizeLine) (.ok Unit.unit<|S.set n<|.oS<|vW kvs k v):=rfl
def Gr{n:Nat}{k:Int}:xO (.ref n) (.int k) S=opt (kF S n) λkvs=>opt (lQ kvs k) λv=>.ok v S:=rfl
def IB{S:iW}:DX τ S=.ok (.ref S.length) (S++[.oS []]):=rfl
def zR{n:Nat}{S:iW}:BD (.ref n) S=opt (iU S n) λxs=>opt (Pq xs) λps=>.ok (.ref S.length) (S++[.oS<|Qm ps]):=rfl
def Zz{i j:Int}(h:i.natAbs<big)(h':j.natAbs<big):GH (.int i) (.int j) S=.ok (.int<|i * j) S:=oR ⟨h,h'⟩
def M3(d:Pl):(iv d).length=d.length:=aG ..
meta abbrev Sj:Sm:=jO (jc rK (EJ vQ (iR 2)<|iS (iR 3)<|iS (eC<|.int 0)<|ja)<|iR 4)<|IJ (iR 2)<|iR 3
def acc_step{S:iW}{d:Nat}{D:Pl}{k v:Int}(hd:kF S d=some (iv D))(hl:D.length<16777216):Sj [x0,x1,.ref d,.int k,.int v] S=.nx [x0,x1,.ref d,.int k,.int v] (S.set d<|.oS<|iv<|acc D k v):=by
 unfold Sj;dsimp[jC,bools,Bo,DU,hd,eN,yP,DO,GD,CV,tH<|show(iv D).length<16777216 by rw[M3];exact hl,ED];rfl
meta abbrev N3:Tg:=CG 2<|uF (jz 3)<|uF (jz 4) B5
def Pd{d n:Nat}{D l:Pl}{src:Ic}(hs:src [x0,x1,.ref d,x3,x4] S=.ok (jP n (pl l).length) S1)(hn:iU S1 n=some (pl l))(hd:kF S1 d=some (iv D))(hl:D.length+l.length<16777216) :
  ∃y3 y4 S',kZ src N3 Sj [x0,x1,.ref d,x3,x4] S=.nx [x0,x1,.ref d,y3,y4] S'/\kF S' d=some (iv<|pG D l)/\Kp (·=d) S1 S':=by
 have nd:=E_ hd hn;refine nO (n:=n) (xs:=pl l) hs (λi τ T=>(∃y3 y4,τ=[x0,x1,.ref d,y3,y4])/\kF T d=some (iv<|pG D<|l.take i)/\Kp (·=d) S1 T)
  (λr=>∃y3 y4 S',r=.nx [x0,x1,.ref d,y3,y4] S'/\kF S' d=some (iv<|pG D l)/\Kp (·=d) S1 S') ⟨⟨_,_,rfl⟩,hd,Kp.refl⟩ (λi τ T h=>h.2.2.lst _ _ (cT nd) hn) ?_ ?_
 ·rintro i z τ T j ⟨⟨y3,y4,rfl⟩,f,kp⟩;unfold pl at j;rw[aR]at j;obtain⟨p,k,rfl⟩:=aW.mp j;refine⟨[x0,x1,.ref d,.int p.1,.int p.2],T,rfl,.inl ?_⟩;have g:=tX (l.take i) D;have m:=(aJ.mp k).1;rw[b_]at g;refine⟨_,_,acc_step f<|by omega,⟨_,_,rfl⟩,?_,kp.sM<|.inl rfl⟩;rw[LV<|Rb f,bV,k,yj];rfl
 ·rintro τ T ⟨⟨y3,y4,rfl⟩,f,kp⟩;rw[KU,bX]at f;exact⟨y3,y4,T,rfl,f,kp⟩
meta abbrev Ow:Sm:=jO (jc rK (EJ vQ (iR 2)<|iS (jc rK (iR 3)<|iR 5)<|iS (eC<|.int 0)<|ja)<|jc GH (iR 4)<|iR 6)<|IJ (iR 2)<|jc rK (iR 3)<|iR 5
meta abbrev ZU:Tg:=CG 2<|uF (jz 5)<|uF (jz 6) B5
def K8{S:iW}{d:Nat}{D:Pl}{k v j u:Int}(hd:kF S d=some (iv D))(hl:D.length<16777216)(hv:v.natAbs<big)(hu:u.natAbs<big):Ow [x0,x1,.ref d,.int k,.int v,.int j,.int u] S=.nx [x0,x1,.ref d,.int k,.int v,.int j,.int u] (S.set d<|.oS<|iv<|acc D (k+j)<|v * u):=by
 unfold Ow;dsimp[jC,bools,Bo,DU,hd,eN,yP,DO,Zz hv hu,GD,CV,tH<|show(iv D).length<16777216 by rw[M3];exact hl,ED];rfl
def Oa{d n:Nat}{D l:Pl}{k v:Int}(hn:iU S n=some (pl l))(hd:kF S d=some (iv D))(hl:D.length+l.length<16777216)(hv:v.natAbs<big)(hu:∀p∈l,p.2.natAbs<big) :
  ∃y5 y6 S',kZ (kh<|iR 1) ZU Ow [x0,.ref n,.ref d,.int k,.int v,x5,x6] S=.nx [x0,.ref n,.ref d,.int k,.int v,y5,y6] S'/\kF S' d=some (iv<|pG D<|l.map λq=>(k+q.1,v * q.2))/\Kp (·=d) S S':=by
 have nd:=E_ hd hn;refine nO (n:=n) (xs:=pl l) (S1:=S) (kJ (by dsimp[jC,bools]) hn) (λi τ T=>(∃y5 y6,τ=[x0,.ref n,.ref d,.int k,.int v,y5,y6])/\kF T d=some (iv<|pG D<|(l.take i).map λq=>(k+q.1,v * q.2))/\Kp (·=d) S T)
  (λr=>∃y5 y6 S',r=.nx [x0,.ref n,.ref d,.int k,.int v,y5,y6] S'/\kF S' d=some (iv<|pG D<|l.map λq=>(k+q.1,v * q.2))/\Kp (·=d) S S') ⟨⟨_,_,rfl⟩,hd,Kp.refl⟩ (λi τ T h=>h.2.2.lst _ _ (cT nd) hn) ?_ ?_
 ·rintro i z τ T j ⟨⟨y5,y6,rfl⟩,g,kp⟩;unfold pl at j;rw[aR]at j;obtain⟨p,m,rfl⟩:=aW.mp j;refine⟨[x0,.ref n,.ref d,.int k,.int v,.int p.1,.int p.2],T,rfl,.inl ?_⟩;have f:=tX ((l.take i).map λq=>(k+q.1,v * q.2)) D;have t:=(aJ.mp m).1;rw[aG,b_]at f;refine⟨_,_,K8 g (by omega) hv<|hu p<|bB m,⟨_,_,rfl⟩,?_,kp.sM<|.inl rfl⟩;rw[LV<|Rb g,bV,m,bC,yj];rfl
 ·rintro τ T ⟨⟨y5,y6,rfl⟩,g,kp⟩;rw[KU,bX]at g;exact⟨y5,y6,T,rfl,g,kp⟩
meta abbrev SX:Sm:=kZ (kh<|iR 1) ZU Ow
def EK(f:Int×Int->A)(hf:∀p τ S,N3 (f p) τ S=N3 (pA p) τ S){d n:Nat}{a b:Pl}(hn:iU S n=some (a.map f))(hm:iU S m=some (pl b))(hd:kF S d=some [])(hl:a.length * b.length<16777216)(ha:∀p∈a,p.2.natAbs<big)(hb:∀p∈b,p.2.natAbs<big) :
  ∃y3 y4 y5 y6 S',kZ (kh<|iR 0) N3 SX [.ref n,.ref m,.ref d,x3,x4,x5,x6] S=.nx [.ref n,.ref m,.ref d,y3,y4,y5,y6] S'/\kF S' d=some (iv<|pG []<|ET a b)/\Kp (·=d) S S':=by
 have nd:=E_ hd hn;have G:=E_ hd hm;refine nO (n:=n) (xs:=a.map f) (S1:=S) (kJ (by dsimp[jC,bools]) hn) (λi τ T=>(∃y3 y4 y5 y6,τ=[.ref n,.ref m,.ref d,y3,y4,y5,y6])/\kF T d=some (iv<|pG []<|ET (a.take i) b)/\Kp (·=d) S T)
  (λr=>∃y3 y4 y5 y6 S',r=.nx [.ref n,.ref m,.ref d,y3,y4,y5,y6] S'/\kF S' d=some (iv<|pG []<|ET a b)/\Kp (·=d) S S') ⟨⟨_,_,_,_,rfl⟩,hd,Kp.refl⟩ (λi τ T h=>h.2.2.lst _ _ (cT nd) hn) ?_ ?_
 ·rintro i z τ T C ⟨⟨y3,y4,y5,y6,rfl⟩,j,kp⟩;rw[aR]at C;obtain⟨p,t,rfl⟩:=aW.mp C;refine⟨[.ref n,.ref m,.ref d,.int p.1,.int p.2,y5,y6],T,hf _ _ _,.inl ?_⟩;have g:=tX (ET (a.take i) b) [];have F:=(aJ.mp t).1;rw[G5,b_,Nat.min_eq_left<|dF F,fP,b7]at g;have D:i * b.length+b.length<=a.length * b.length:=by rw[<- gR];exact Nat.mul_le_mul_right _ F
  obtain⟨L,K,J,e,B,q⟩:=Oa (x0:=.ref n) (x5:=y5) (x6:=y6) (k:=p.1) (v:=p.2) (kp.lst _ _ (cT G) hm) j () (ha p<|bB t) hb;refine⟨_,_,e,⟨_,_,_,_,rfl⟩,?_,kp.trans q⟩;rw[B,bV,t,Option.toList_some,Li,yj]
 ·rintro τ T ⟨⟨y3,y4,y5,y6,rfl⟩,j,kp⟩;rw[aG,bX]at j;exact⟨y3,y4,y5,y6,T,rfl,j,kp⟩
end Am
namespace Su
open Am Po PySem L2
meta abbrev En:=ag×Nat×Pl
meta abbrev Es:=List En
abbrev ent (e:En):A:=.tup [.tup<|e.1.map .int,.ref e.2.1]
abbrev kv (e:En):ag×A:=(e.1,.ref e.2.1)
abbrev At (S:iW)(es:Es):Prop:=∀e∈es,iU S e.2.1=some (pl e.2.2)
meta abbrev Ps:=List<|ag×Pl
abbrev sm (es:Es):Ps:=es.map λe=>(e.1,e.2.2)
def yO(es:Es):(sm es).length=es.length:=aG ..
def D8(a b:Es):sm (a++b)=sm a++sm b:=bC
abbrev vS (D:Ps)(o:ag):Pl:=((D.find? λe=>decide<|e.1=o).map (·.2)).getD []
abbrev hS (D:Ps)(o:ag):Bool:=D.any λe=>decide<|e.1=o
abbrev yH (D:Ps)(o:ag)(p:Pl):Ps:=if hS D o=true then D.map (λe=>if e.1=o then(e.1,p)else e)else D++[(o,p)]
abbrev yq (D:Ps)(o:ag)(p:Pl):Ps:=yH D o<|pV (vS D o) p
abbrev adds (D l:Ps):Ps:=l.foldl (λD e=>yq D e.1 e.2) D
def Lq(D a b:Ps):adds D (a++b)=adds (adds D a) b:=by unfold adds;rw[dz]
abbrev toS (D:Ps):Ps:=((jD<|D.map Prod.fst).filter λo=>!(vS D o).isEmpty).map λo=>(o,vS D o)
abbrev fE (D:Es)(o:ag):Option En:=D.find? λe=>decide<|e.1=o
abbrev p9 (D:Es)(o:ag)(r:Nat)(p:Pl):Es:=if (fE D o).isSome=true then D.map (λe=>if e.1=o then(e.1,r,p)else e)else D++[(o,r,p)]
def OY(D:Es)(o:ag):(sm D).find? (λe=>decide<|e.1=o)=(fE D o).map λe=>(e.1,e.2.2):=by
 unfold sm fE;rw[gp];rfl
def HH(D:Es)(o:ag):vS (sm D) o=((fE D o).map λe=>e.2.2).getD []:=by
 unfold vS;rw[OY,dO];rfl
def Zc(D:Es)(o:ag):hS (sm D) o=(fE D o).isSome:=by
 unfold hS sm fE;rw[any_map,Bool.eq_iff_iff,iz,fu];rfl
def KI(D:Es)(o:ag)(r:Nat)(p:Pl):sm (p9 D o r p)=yH (sm D) o p:=by
 unfold p9 yH;rw[Zc];unfold sm;split
 ·rw[bg,bg];apply bU;intro e _;show((if e.1=o then(e.1,r,p)else e).1,(if e.1=o then(e.1,r,p)else e).2.2)=if e.1=o then(e.1,p)else(e.1,e.2.2)
  split<;>rfl
 ·rw[bC];rfl
def t8(D:Es)(o:ag):jK (D.map kv) o=(fE D o).map λe=>.ref e.2.1:=by
 unfold jK fE;rw[gp,dO];rfl
def NO(D:Es)(o:ag)(r:Nat)(p:Pl):putD (D.map kv) o (.ref r)=(p9 D o r p).map kv:=by
 unfold putD p9;rw[t8,dw];split
 ·rw[bg,bg];apply bU;intro e _;show(if e.1=o then(e.1,A.ref r)else(e.1,.ref e.2.1))=kv (if e.1=o then(e.1,r,p)else e);split<;>rfl
 ·rw[bC];rfl
def qW{D:Es}{r:Nat}{p:Pl}{e:En}(h:e∈p9 D o r p):e∈D\/e=(o,r,p):=by
 unfold p9 at h;split at h
 ·obtain⟨d,h1,rfl⟩:=bf.mp h;split
  ·rename_i c;exact .inr (by rw[c])
  ·exact .inl h1
 ·rcases bI.mp h with z|z
  ·exact .inl z
  ·exact .inr<|aX.mp z
def Qa{D:Es}{r:Nat}{p:Pl}:(p9 D o r p).length<=D.length+1:=by
 unfold p9;split
 ·rw[aG];lia
 ·rw[bw];exact aL _
def qV{D:Es}{e:En}(h:fE D o=some e):e∈D/\e.1=o:=⟨cD h,by
 unfold fE at h;have:=eO h;simpa using this⟩
def At.put{D:Es}{r:Nat}{p:Pl}(h:At S D)(hr:iU S r=some (pl p)):At S (p9 D o r p):=λe d=>by
 rcases qW d with z|z
 ·exact h e z
 ·rw[z];exact hr
def At.kp{D:Es}{b:Nat->Prop}(h:At S D)(k:Kp b S S')(hb:∀e∈D,¬b e.2.1):At S' D:=λe d=>k.lst _ _ (hb e d)<|h e d
def At.wY{D:Es}(h:At S D)(k:j6 S S'):At S' D:=h.kp k λ_ _ z=>z
def At.app{a b:Es}(h:At S a)(h':At S b):At S (a++b):=λe d=>(bI.mp d).elim (h e)<|h' e
def mD{n:Nat}{d:List<|ag×A}(h:jj S n=some d)(h':iU S m=some xs):n≠m:=λz=>by
 subst z;have e1:=j_ h;rw[ji h']at e1
 cases e1
def At.Ie{D:Es}{d:Nat}(h:At S D)(k:Kp (·=d) S S')(hd:jj S d=some kvs):At S' D:=h.kp k λe f z=>mD hd (h e f) z.symm
abbrev Vl (k b:Nat)(D:Es):Prop:=∀e∈D,Ok e.2.2/\e.2.2.length<=k/\b<=e.2.1
def Vl.v{k b:Nat}{D:Es}(h:Vl k b D)(o:ag):Ok (vS (sm D) o)/\(vS (sm D) o).length<=k:=by
 rw[HH]
 cases e:fE D o with
 | none=>exact⟨⟨List.Pairwise.nil,nofun⟩,bO _⟩
 | some d=>exact⟨(h d (qV e).1).1,(h d (qV e).1).2.1⟩
def mV{S:iW}:jj (S++[.dct xs]) S.length=some xs:=pN Bh
def BK{o:O}{n:Nat}(h:jj S n=some xs):jj (S++[o]) n=some xs:=by
 have h':=j_ h;exact pN<|by rw[br (aJ.mp h').1];exact h'
def rJ{S:iW}{n:Nat}(h:jj S n=some xs):n<S.length:=(aJ.mp<|j_ h).1
def Ga{S:iW}{n:Nat}(h:n<S.length):jj (S.set n<|.dct ys) n=some ys:=pN<|bz h
def Qc{f:A->ae->iW->R A}{co:Ex}{d:p6}:TL f co d τ S=(co τ S).bind λx S1=>opt (dct? x S1) λ_=>(d τ S1).bind λas S2=>f x as S2:=rfl
def Pz{n:Nat}:dct? (.ref n) S=(jj S n).map λ_=>Unit.unit:=rfl
def vP{S:iW}:zD τ S=.ok (.ref S.length) (S++[.dct []]):=rfl
def xr{co ci:Ex}{a:A}:HK co ci a τ S=(co τ S).bind λo S1=>(ci τ S1).bind λi S2=>(oV o i a S2).bind λ_ S3=>.ok τ S3:=rfl
def Pb{n:Nat}{o:ag}:VD (.ref n) [.tup<|o.map .int,y] S=opt (jj S n) λkvs=>.ok ((jK kvs o).getD y) S:=by
 show opt (jj S n) (λkvs=>opt (A.ints<|o.map .int) λk=>.ok ((jK kvs k).getD y) S)=_;rw[ints_map];rfl
theorem se{n:Nat}{o:ag}{v:A}{S:iW}:oV (.ref n) (.tup<|o.map .int) v S=opt (jj S n) λkvs=>gd (kvs.length<sizeLine) (.ok Unit.unit<|S.set n<|.dct<|putD kvs o v):=by
 show opt (jj S n) (λkvs=>opt (A.ints<|o.map .int) λd=>gd (kvs.length<sizeLine)<|.ok Unit.unit<|S.set n<|.dct<|putD kvs d v)=_;rw[ints_map];rfl
def xm{n:Nat}{o:ag}:qU (.ref n) (.tup<|o.map .int) S=opt (jj S n) λkvs=>opt (jK kvs o) λv=>.ok v S:=by
 show opt (jj S n) (λkvs=>opt (A.ints<|o.map .int) λd=>opt (jK kvs d) λv=>.ok v S)=_;rw[ints_map];rfl
def get_or{S:iW}{d:Nat}{D:Es}(hd:jj S d=some (D.map kv))(hA:At S D):∃x:Nat,(jK (D.map kv) o).getD (.ref S.length)=.ref x/\iU (S++[.lst []]) x=some (pl<|vS (sm D) o):=by
 rw[t8,HH]
 cases e:fE D o with
 | none=>exact⟨S.length,rfl,jk⟩
 | some f=>exact⟨f.2.1,rfl,j4<|hA f (qV e).1⟩
def vO{α:Type}{xs:List α}(g:α->A){n:Nat}{src:Ic}{t:Te}{e:Ex}(hs:src τ S=.ok (jP n (xs.map g).length) S1)(hx:iU S1 n=some (xs.map g))(d:α)(p:α->Bool)(f:α->A)
  (step:∀x∈xs,∀T,j6 S1 T->∃T1,t (g x::j3 cap τ) T=.ok (p x) T1/\j6 S1 T1/\(p x=true->∃T2,e (g x::j3 cap τ) T1=.ok (f x) T2/\j6 S1 T2)) (hl:xs.length<=16777216) :
  ∃S',jx (none::cap) src (jz 0) t e τ S=.ok (.ref S'.length) (S'++[.lst<|(xs.filter p).map f])/\j6 S1 S':=by
 have m:∀i,i<xs.length->xs.getD i d∈xs:=λi j=>by
  rw[aK,aH j];exact cU j
 have B:(xs.map g).length=xs.length:=aG ..;obtain⟨S',h1,h2⟩:=vh (s:=jP n (xs.map g).length) (g:=jz 0) (t:=t) (e:=e) (P:=λT=>j6 S1 T) (T:=λk=>∃y,k=y::j3 cap τ) (λi=>g<|xs.getD i d) (λi=>p<|xs.getD i d) (λi=>f<|xs.getD i d) (λi T j h=>by
   have j:i<(xs.map g).length:=j;show(iU T n).bind _=_;rw[h.lst _ _ (λz=>z) hx,cJ,aR,aH (),aK,aH ()];rfl) (λT h=>by
   show(match iU T n with
    | some ys=>decide (ys.length<=(xs.map g).length)
    | none=>false)=true
   rw[h.lst _ _ (λz=>z) hx];simp)
  (λi k T j ⟨y,hy⟩ h=>by
   have j:i<(xs.map g).length:=j;subst hy;obtain⟨T1,e1,q,e2⟩:=step _ (m i ()) T h;exact⟨g (xs.getD i d)::j3 cap τ,T,T1,rfl,e1,⟨_,rfl⟩,λ_=>q,e2⟩) (xs.map g).length 0 (j3 (none::cap) τ) S1 rfl ⟨_,rfl⟩ Kp.refl
 refine⟨S',?_,h2⟩;unfold jx;rw[hs,R.ly];show(l_ (jP n (xs.map g).length) (jz 0) t e (xs.map g).length 0 (j3 (none::cap) τ) S1).mG _=_;rw[h1,R.jG,<- e_,B,lI xs p f d];refine kH ?_;rw[aG];exact bJ (c8 _ _) hl
def Gj{D:Es}{o:ag}(h:o∈D.map Prod.fst):∃e,fE D o=some e:=by
 unfold fE
 cases e:D.find? λe=>decide (e.1=o)with
 | some x=>exact⟨x,rfl⟩
 | none=>
  obtain⟨x,d,rfl⟩:=bf.mp h;exact absurd (aY rfl)<|eK.mp e x d
abbrev yY (k:ag):A:=.tup<|k.map .int
abbrev uW (D:Es)(p:Pl->Bool):Es:=((jD<|D.map Prod.fst).filter λo=>p<|vS (sm D) o).map λo=>(o,((fE D o).map λe=>e.2.1).getD 0,vS (sm D) o)
def AK(D:Es):sm (uW D λp=>!p.isEmpty)=toS (sm D):=by
 unfold uW toS sm;rw[bg,bg];rfl
def Ad{D:Es}{p:Pl->Bool}{e:En}(h:e∈uW D p):e∈D/\p e.2.2=true:=by
 obtain⟨o,f,rfl⟩:=bf.mp h;obtain⟨h1,h2⟩:=cA.mp f;obtain⟨e,d⟩:=Gj<|(jy _).mem_iff.mp h1;rw[HH,d]at h2;rw[HH,d];obtain⟨m,rfl⟩:=qV d;exact⟨m,h2⟩
def M9{S:iW}{d:Nat}{D:Es}{src:Ic}{t:Te}{e:Ex}(hd:jj S d=some (D.map kv))(hA:At S D)(hs:src τ S=.ok (jP S.length ((jD<|D.map Prod.fst).map yY).length) (S++[.lst<|(jD<|D.map Prod.fst).map yY]))(p:Pl->Bool)
  (ht:∀(o:ag) (r:Nat) (q:Pl) (T:iW),jj T d=some (D.map kv)->jK (D.map kv) o=some (.ref r)->iU T r=some (pl q)->∃T1,t (yY o::j3 cap τ) T=.ok (p q) T1/\j6 T T1)
  (he:∀(o:ag) (r:Nat) (T:iW),jj T d=some (D.map kv)->jK (D.map kv) o=some (.ref r)->e (yY o::j3 cap τ) T=.ok (.tup [yY o,.ref r]) T) (hl:D.length<=16777216) :
  ∃(n:Nat) (S':iW),jx (none::cap) src (jz 0) t e τ S=.ok (.ref n) S'/\iU S' n=some ((uW D p).map ent)/\At S' (uW D p)/\S.length<n/\j6 S S':=by
 have C:j6 S (S++[.lst<|(jD<|D.map Prod.fst).map yY]):=Kp.refl.lay;obtain⟨S',e1,m⟩:=vO yY (t:=t) (e:=e) (cap:=cap) hs jk [] (λo=>p<|vS (sm D) o) (λo=>ent (o,((fE D o).map λe=>e.2.1).getD 0,vS (sm D) o)) (λo G T k=>by
  obtain⟨g,f⟩:=Gj<|(jy _).mem_iff.mp G;have F:jK (D.map kv) o=some (.ref g.2.1):=by rw[t8,f];rfl
  have j:=C.trans k;have dT:=j.dct _ _ (λz=>z) hd;have J:=j.lst _ _ (λz=>z)<|hA g (qV f).1;obtain⟨T1,h1,h2⟩:=ht o g.2.1 g.2.2 T dT F J;rw[HH,f];exact⟨T1,h1,k.trans h2,λ_=>⟨T1,he o g.2.1 T1 (h2.dct _ _ (λz=>z) dT) F,k.trans h2⟩⟩) (by
  rw[(jy _).length_eq,aG];exact hl)
 have B:=C.trans m;refine⟨S'.length,_,e1,?_,(?_:At S'<|uW D p).wY Kp.refl.lay,?_,B.lay⟩
 ·rw[jk];unfold uW;rw[bg];rfl
 ·exact λe h=>B.lst _ _ (λz=>z) (hA e (Ad h).1)
 ·have:=m.len;rw[bw]at this;exact this
abbrev Ap (D:Es):Prop:=D.Pairwise λe f=>e.1≠f.1/\e.2.1≠f.2.1
def Ap.put{D:Es}{r:Nat}{p:Pl}(h:Ap D)(hr:∀e∈D,e.2.1≠r):Ap (p9 D o r p):=by
 unfold p9;split
 ·unfold Ap;rw[cj];refine List.Pairwise.imp_of_mem (λ{e f} d hf z=>?_) h;by_cases c1:e.1=o
  ·have c2:¬f.1=o:=λg=>z.1<|c1.trans g.symm;rw[aP c1,aM c2];exact⟨z.1,λy=>hr f hf y.symm⟩
  ·rw[aM c1];by_cases c2:f.1=o
   ·rw[aP c2];exact⟨z.1,hr e d⟩
   ·rw[aM c2];exact z
 ·rename_i c;unfold Ap;rw[List.pairwise_append];refine⟨h,cZ _ _,λe d f hf=>?_⟩;rw[aX.mp hf];refine⟨λz=>c ?_,hr e d⟩;unfold fE;rw[iz];exact⟨e,d,aY z⟩
theorem Ap.at{D:Es}(h:Ap D):∀e∈D,∀f∈D,e.1≠f.1->e.2.1≠f.2.1:=by
 unfold Ap at h
 induction h with
 | nil=>exact λe d=>nomatch d
 | @cons a D ha _ g=>
  intro e d f hf z
  rcases bF.mp d with h1|h1<;>rcases bF.mp hf with h2|h2
  ·exact absurd (by rw[h1,h2]) z
  ·rw[h1];exact(ha f h2).2
  ·rw[h2];exact(ha e h1).2.symm
  ·exact g e h1 f h2 z
def Ap.nd{D:Es}(h:Ap D):(D.map Prod.fst).Nodup:=by
 unfold List.Nodup;rw[cj];exact h.imp λz=>z.1
def Ap.out{D:Es}(h:Ap D)(p:Pl->Bool):Ap (uW D p):=by
 unfold Ap uW;rw[cj];have n:(jD<|D.map Prod.fst).Pairwise (·≠·):=(jy _).nodup_iff.mpr h.nd;refine List.Pairwise.imp_of_mem (λ{a b} ha hb z=>?_)<|n.filter _;obtain⟨e,d⟩:=Gj<|(jy _).mem_iff.mp (cA.mp ha).1;obtain⟨f,hf⟩:=Gj<|(jy _).mem_iff.mp (cA.mp hb).1;obtain⟨g,e1⟩:=qV d;obtain⟨j,e2⟩:=qV hf;refine⟨z,?_⟩;rw[d,hf];exact h.at e g f j<|by rw[e1,e2];exact z
structure Fil (T:iW)(d b i j:Nat)(P:Ps)(D:Es):Prop where
 dd:jj T d=some (D.map kv)
 aa:At T D
 ss:sm D=P
 vv:Vl (i * j) b D
 kk:∀e∈D,e.1≠[]
 ll:D.length<=i
 pw:Ap D
def Ig(P:Ps)(es:Es):es.foldl (λQ e=>yq Q e.1 e.2.2) P=adds P (sm es):=by
 unfold adds sm;rw[iO]
def HM(q:Pl)(P:Ps)(es:Es):es.foldl (λQ e=>yq Q e.1<|times q e.2.2) P=adds P ((sm es).map λe=>(e.1,times q e.2)):=by
 unfold adds sm;rw[iO,iO]
end Su
namespace Bl
open L2
abbrev cnt:ag->Int->Int
 | [],_=>0
 | x::l,j=>(if j<=x then 1 else 0)+cnt l j
abbrev Below (xs ys:ag):Prop:=∀(i:Nat) (j:Int),cnt (xs.take i) j<=cnt (ys.take i) j
abbrev Jt (a b:ag):Prop:=a.length=b.length/\∀(p:Nat) (h:p<a.length),b[(a[p]-1).toNat]?=some ((p:Int)+1)
end Bl
namespace Wd
open Bl L2
abbrev ex (l:ag)(k:Nat):ag:=(l.set (k-1)<|l.getD k 0).set k<|l.getD (k-1) 0
abbrev led (l:ag)(w:am):ag:=w.foldl ex l
def uf{l:ag}{k:Nat}(h:k<l.length):l.getD k 0=l[k]:=by rw[aK,aH h];rfl
def NU{l:ag}{k:Nat}(h0:1<=k)(h:k<l.length):ex l k=(l.set (k-1) l[k]).set k (l[k-1]'()):=by
 unfold ex;rw[uf h,uf<|show k-1<l.length by lia]
def Ak(l:ag)(k:Nat):(ex l k).length=l.length:=by unfold ex;rw[bW,bW]
def Qd{l:ag}{k:Nat}(h0:1<=k)(h:k<l.length):(ex l k).Perm l:=by
 rw[NU h0 h];exact List.set_set_perm () h
def Yj(a b:am)(l:ag):led l (a++b)=led (led l a) b:=dz
abbrev vY:ag->am->Prop
 | _,[]=>True
 | l,k::w=>1<=k/\k<l.length/\l.getD (k-1) 0<l.getD k 0/\vY (ex l k) w
theorem vY.snoc:∀{w:am}{l:ag}{k:Nat},vY l w->1<=k->k<l.length->(led l w).getD (k-1) 0<(led l w).getD k 0->vY l (w++[k])
 | [],l,k,_,h0,h1,h2=>⟨h0,h1,h2,trivial⟩
 | m::w,l,k,h,h0,h1,h2=>⟨h.1,h.2.1,h.2.2.1,vY.snoc h.2.2.2 h0 (by rw[Ak];exact h1) h2⟩
abbrev sw (k:Nat)(x:Int):Int:=if x=k then(k:Int)+1 else if x=(k:Int)+1 then k else x
def nN(n:Nat):(kX 1<|(n:Int)+1).length=n:=by rw[vG];lia
def uQ{l:ag}{k:Nat}(h0:1<=k)(h:k<l.length)(p:Nat):(ex l k)[p]?=if p=k then l[k-1]? else if p=k-1 then l[k]? else l[p]?:=by
 rw[NU h0 h,List.getElem?_set];by_cases h1:k=p
 ·rw[aP h1,aP h1.symm,aP<|by rw[bW];lia,aH]
 ·rw[aM h1,aM λz=>h1 z.symm,List.getElem?_set];by_cases h2:k-1=p
  ·rw[aP h2,aP h2.symm,aP (),aH]
  ·rw[aM h2,aM λz=>h2 z.symm]
end Wd
namespace Iv
open L2 Bl
abbrev inv:ag->Nat
 | []=>0
 | x::l=>l.countP (λy=>decide<|y<x)+inv l
abbrev mY (a b:ag):Nat:=(a.map λx=>b.countP λy=>decide<|y<x).sum
def uN(x:Int)(a b:ag):mY (x::a) b=b.countP (λy=>decide<|y<x)+mY a b:=rfl
theorem kP:∀(a b:ag),inv (a++b)=inv a+inv b+mY a b
 | [],b=>by show inv b=0+inv b+0;lia
 | x::a,b=>by
  show(a++b).countP _+inv (a++b)=(a.countP _+inv a)+inv b+mY (x::a) b;rw[List.countP_append,kP a b,uN];lia
theorem vF:∀{a b:am},a.Perm b->a.sum=b.sum
 | _,_,.nil=>rfl
 | _,_,.cons x h=>by rw[fN,fN,vF h]
 | _,_,.swap x y l=>by rw[fN,fN,fN,fN];lia
 | _,_,.trans h k=>(vF h).trans<|vF k
def OP{a:ag}(b:ag)(h:a.Perm a'):mY a b=mY a' b:=vF<|h.map _
def N_(a:ag){b:ag}(h:b.Perm b'):mY a b=mY a b':=by
 unfold mY;congr 1;refine bU λx _=>h.countP_eq _
def BY{M:ag}{x y:Int}(h:∀m∈M,m<x\/y<m)(hxy:x<y):M.countP (λm=>decide<|m<x)=M.countP (λm=>decide<|m<y):=by
 refine List.countP_congr λm d=>?_;rw[decide_eq_true_iff,decide_eq_true_iff]
 rcases h m d with z|z<;>omega
theorem wK:∀{M:ag}{x y:Int},(∀m∈M,m<x\/y<m)->x<y->mY M [x]=mY M [y]
 | [],_,_,_,_=>rfl
 | m::M,x,y,h,hxy=>by
  rw[uN,uN,wK (λd f=>h d<|aS _ f) hxy];congr 1;have:=h m<|aO ..;dsimp[iE,List.countP_nil];by_cases c:x<m
  ·rw[aY c,aY<|show y<m by omega]
  ·rw[bu c,bu<|show ¬y<m by omega]
def mid{M:ag}{x y:Int}(h:∀m∈M,m<x\/y<m)(hxy:x<y):inv ([y]++M++[x])=inv ([x]++M++[y])+1:=by
 rw[kP,kP,kP<|[x]++M,kP [x]];have e1:mY [y] M=mY [x] M:=by
  show M.countP _+0=M.countP _+0;rw[BY h hxy]
 have e2:mY ([y]++M) [x]=1+mY M [x]:=by
  show[x].countP _+mY M [x]=_;rw[iE,aY hxy];rfl
 have e3:mY ([x]++M) [y]=mY M [y]:=by
  show[y].countP _+mY M [y]=_;rw[iE,bu (by lia:¬y<x)];simp
 rw[e1,e2,e3,wK h hxy]
 skip
 lia
def NF(M:ag)(x y:Int):([y]++M++[x]).Perm ([x]++M++[y]):=by
 refine(List.perm_append_comm (l₁:=[y]++M) (l₂:=[x])).trans ?_
 skip
 exact .cons x<|List.perm_append_comm (l₁:=[y]) (l₂:=M)
def step{P M R:ag}{x y:Int}(h:∀m∈M,m<x\/y<m)(hxy:x<y):inv (P++([y]++M++[x])++R)=inv (P++([x]++M++[y])++R)+1:=by
 have p:=NF M x y;rw[kP,kP P,kP<|P++([x]++M++[y]),kP P,mid h hxy,N_ P p,OP R<|p.append_left P]
 lia
abbrev sw (a:ag)(i j:Nat):ag:=(a.set i<|a.getD j 0).set j<|a.getD i 0
def split{a:ag}(hij:i<j)(hj:j<a.length):∃P M R:ag,a=P++([a.getD i 0]++M++[a.getD j 0])++R/\P=a.take i/\(∀m∈M,∃k,i<k/\k<j/\a[k]?=some m)/\sw a i j=P++([a.getD j 0]++M++[a.getD i 0])++R:=by
 have F:a.getD i 0=a[i]:=by rw[aK,aH ()];rfl
 have J:a.getD j 0=a[j]:=by rw[aK,aH hj];rfl
 obtain⟨M,g⟩:∃M,M=(a.drop<|i+1).take (j-i-1):=⟨_,rfl⟩;have G:M.length=j-i-1:=by rw[g,b_,List.length_drop];lia
 have B:a=a.take i++([a.getD i 0]++M++[a.getD j 0])++a.drop (j+1):=by
  have h1:a.drop i=a[i]::a.drop (i+1):=List.drop_eq_getElem_cons ();have h2:a.drop (i+1)=M++a.drop j:=by
   rw[g];have:=List.take_append_drop (j-i-1)<|a.drop<|i+1;rw[List.drop_drop,show i+1+(j-i-1)=j by lia]at this;exact this.symm
  have h3:a.drop j=a[j]::a.drop (j+1):=List.drop_eq_getElem_cons hj
  conv=>lhs;rw[<- List.take_append_drop i a,h1,h2,h3]
  rw[F,J];simp
 refine⟨a.take i,M,a.drop<|j+1,B,rfl,λm C=>?_,?_⟩
 ·rw[g]at C;obtain⟨k,q⟩:=List.getElem?_of_mem C;have p:k<j-i-1:=by
   have:=(aJ.mp q).1;rw[b_]at this;lia
  rw[List.getElem?_take_of_lt p,List.getElem?_drop]at q;exact⟨i+1+k,(),(),q⟩
 ·have t:∀(P R:ag) (x y f d:Int),P.length=i->((P++([x]++M++[y])++R).set i d).set j f=P++([d]++M++[f])++R:=λP R x y f d D=>by
   rw[cB,gA _ _ (),D,Nat.sub_self];show(P++(d::((M++[y])++R))).set j f=_;rw[gA _ _ (),D,show j-i=(j-i-1)+1 by lia,List.set_cons_succ,cB,gA _ _ (),G,Nat.sub_self];simp
  have:=t (a.take i) (a.drop<|j+1) (a.getD i 0) (a.getD j 0) (a.getD i 0) (a.getD j 0) (by rw[b_];lia);rw[<- B]at this;exact this
def G2{a:ag}{i:Nat}(h:i<a.length):a[i]?=some (a.getD i 0):=by rw[aK,aH h];rfl
end Iv
namespace Fw
open PySem L2 Bl
open Wd (ex led)
meta abbrev rg (n:Nat):ag:=kX 1<|(n:Int)+1
def JX{l:ag}{k:Nat}(h0:1<=k)(h:k<l.length):ex (ex l k) k=l:=by
 apply eY;intro p;have h':k<(ex l k).length:=by rw[Wd.Ak];exact h
 rw[Wd.uQ h0 h',Wd.uQ h0 h,Wd.uQ h0 h,Wd.uQ h0 h];by_cases c3:p=k
 ·rw[aP c3,aM (),aP rfl,c3]
 ·rw[aM c3];by_cases c2:p=k-1
  ·rw[aP c2,aP rfl,c2]
  ·rw[aM c2,aM c3,aM c2]
def Q3{l:ag}{k:Nat}(h0:1<=k)(h:k<l.length):(ex l k).getD k 0=l.getD (k-1) 0:=by
 rw[aK,Wd.uQ h0 h,aP rfl,aK]
def QM{l:ag}{k:Nat}(h0:1<=k)(h:k<l.length):(ex l k).getD (k-1) 0=l.getD k 0:=by
 rw[aK,Wd.uQ h0 h,aM (),aP rfl,aK]
def JI{l:ag}{k:Nat}(h0:1<=k)(h:k<l.length)(hr:l.getD (k-1) 0<l.getD k 0):Iv.inv (ex l k)=Iv.inv l+1:=by
 obtain⟨P,M,R,e,_,d,es⟩:=Iv.split (a:=l) (i:=k-1) (j:=k) () h;have:=Iv.step (P:=P) (M:=M) (R:=R) (x:=l.getD (k-1) 0) (y:=l.getD k 0) (λm f=>by obtain⟨_,_,_,_⟩:=d m f;lia) hr;rw[<- es,<- e]at this;exact this
def M_{l:ag}{k:Nat}(h0:1<=k)(h:k<l.length)(hr:l.getD k 0<l.getD (k-1) 0):Iv.inv l=Iv.inv (ex l k)+1:=by
 have:=JI (l:=ex l k) h0 (by rw[Wd.Ak];exact h) (by rw[Q3 h0 h,QM h0 h];exact hr);rw[JX h0 h]at this;exact this
def ON{l:ag}{k:Nat}(h0:1<=k)(h:k<l.length):Iv.inv (ex l k)<=Iv.inv l+1:=by
 rcases Int.lt_trichotomy (l.getD (k-1) 0) (l.getD k 0)with c|c|c
 ·exact Nat.le_of_eq (JI h0 h c)
 ·have:ex l k=l:=by
   apply eY;intro p;have e1:l[k]?=some (l.getD k 0):=Iv.G2 h;have e2:l[k-1]?=some (l.getD (k-1) 0):=Iv.G2 ();rw[Wd.uQ h0 h];by_cases c3:p=k
   ·rw[aP c3,c3,e1,e2,c]
   ·rw[aM c3];by_cases c2:p=k-1
    ·rw[aP c2,c2,e1,e2,c]
    ·rw[aM c2]
  rw[this];lia
 ·have:=M_ h0 h c;lia
abbrev N5 (l:ag)(k:Nat):Prop:=1<=k/\k<l.length/\l.getD k 0<l.getD (k-1) 0
abbrev Dn:ag->am->Prop
 | l,[]=>∀k,¬N5 l k
 | l,k::ks=>(N5 l k/\∀j,N5 l j->k<=j)/\Dn (ex l k) ks
def PC{l:ag}{n k:Nat}(p:l.Perm<|rg n)(h0:1<=k)(h:k<l.length):l.getD (k-1) 0≠l.getD k 0:=λz=>by
 have nd:l.Nodup:=p.nodup_iff.mpr<|yv _ _;rw[Wd.uf h,Wd.uf<|show k-1<l.length by lia]at z;have:=(cH nd).mp z
 lia
structure Two (n:Nat)(o u:ag):Prop where
 po:o.Perm (rg n)
 pu:u.Perm (rg n)
 ou:Jt o u
end Fw
namespace Su
open Am Po PySem L2
abbrev cS (l:Ps)(o:ag)(t:Int):Int:=match l with
 | []=>0
 | e::l=>(if e.1=o then cf e.2 t else 0)+cS l o t
def JU(a b:Ps)(o:ag)(t:Int):cS (a++b) o t=cS a o t+cS b o t:=by
 induction a with
 | nil=>exact(cF _).symm
 | cons e a d=>
  show _+cS (a++b) o t=_+_+_;rw[d,gG]
def pY(a b:Pl)(k:Int):cf (a++b) k=cf a k+cf b k:=by
 induction a with
 | nil=>exact(cF _).symm
 | cons p a d=>
  show _+cf (a++b) k=_+_+_;rw[d,gG]
def ML(a b:Pl)(k:Int):cf (pV a b) k=cf a k+cf b k:=by
 unfold pV;rw[By<|t_ _ (d:=[]) cP,vg,pY];show 0+_=_;rw[cF]
def Ca(a b:Pl)(k:Int):cf (times a b) k=cf (ET a b) k:=by
 unfold times;rw[By<|t_ _ (d:=[]) cP,vg];show 0+_=_;rw[cF]
theorem EZ(s:Int):∀(b:Pl) (k c:Int),cf (b.map λq=>(c+q.1,s * q.2)) k=s * cf b (k-c)
 | [],k,c=>(iK s).symm
 | q::b,k,c=>by
  show(if c+q.1=k then s * q.2 else 0)+cf (b.map λq=>(c+q.1,s * q.2)) k=s * ((if q.1=k-c then q.2 else 0)+cf b (k-c));rw[EZ s b k c,Int.mul_add];by_cases h:c+q.1=k
  ·rw[aP h,aP ()]
  ·rw[aM h,aM (),iK]
meta abbrev AF:Pl:=[((-1:Int),(1:Int)),((1:Int),(-1:Int))]
def WI(b:Pl)(k:Int):cf (times AF b) k=cf b (k+1)-cf b (k-1):=by
 rw[Ca];show cf ((b.map λq=>((-1:Int)+q.1,(1:Int) * q.2))++((b.map λq=>((1:Int)+q.1,(-1:Int) * q.2))++[])) k=_;rw[b9,pY,EZ,EZ,Int.one_mul,show k - -1=k+1 by lia]
 lia
def VI{D:Ps}{p:Pl}:vS (yH D o p) o'=if o'=o then p else vS D o':=by
 have cons:∀(e:ag×Pl) (D:Ps) (x:ag),vS (e::D) x=if e.1=x then e.2 else vS D x:=λe D x=>by
  unfold vS;rw[bT];by_cases h:e.1=x
  ·rw[aY h,aP h];rfl
  ·rw[bu h,aM h]
 unfold yH
 cases h:hS D o with
 | true=>
  rw[aP rfl]
  induction D with
  | nil=>cases h
  | cons e D d=>
   rw[bE,cons,cons];have hc:hS (e::D) o=(decide (e.1=o) || hS D o):=rfl;rw[hc]at h;by_cases c:e.1=o
   ·rw[aP c]
    skip
    by_cases c2:o'=o
    ·rw[aP<|c.trans c2.symm,aP c2]
    ·rw[aM λz=>c2<|z.symm.trans c,aM c2,aM λz=>c2<|z.symm.trans c];clear d h hc
     induction D with
     | nil=>rfl
     | cons f D g=>
      rw[bE,cons,cons,g];by_cases c3:f.1=o
      ·rw[aP c3]
       skip
       rw[aM λz=>c2<|z.symm.trans c3,aM λz=>c2<|z.symm.trans c3]
      ·rw[aM c3]
   ·rw[aM c];rw[bu c,fH]at h;rw[d h];by_cases c2:e.1=o'
    ·rw[aP c2,aM λz=>c<|c2.trans z,aP c2]
    ·rw[aM c2,aM c2]
 | false=>
  rw[aM<|by simp]
  induction D with
  | nil=>
   show vS [(o,p)] o'=_;rw[cons];by_cases c:o=o'
   ·rw[aP c,aP c.symm]
   ·rw[aM c,aM λz=>c z.symm]
  | cons e D d=>
   have hc:hS (e::D) o=(decide (e.1=o) || hS D o):=rfl;rw[hc,gH]at h;rw[iD,cons,cons,d h.2];have:=c_ h.1;by_cases c:e.1=o'
   ·rw[aP c,aP c,aM λz=>this<|c.trans z]
   ·rw[aM c,aM c]
def Jp(l:Ps):∀(D:Ps) (o:ag) (t:Int),cf (vS (adds D l) o) t=cf (vS D o) t+cS l o t:=by
 induction l with
 | nil=>intro D o t;exact(eG _).symm
 | cons e l d=>
  intro D o t;show cf (vS (adds (yq D e.1 e.2) l) o) t=_+((if e.1=o then cf e.2 t else 0)+cS l o t);rw[d];unfold yq;rw[VI];by_cases h:o=e.1
  ·rw[aP h,aP h.symm,ML,h,gG]
  ·rw[aM h,aM λz=>h z.symm,cF]
structure Gd (D:Ps):Prop where
 nd:(D.map Prod.fst).Nodup
 ok:∀e∈D,Ok e.2
def US{D:Ps}{o:ag}:hS D o=true ↔ o∈D.map Prod.fst:=by
 unfold hS;rw[fu,bf];constructor
 ·rintro⟨p,h1,h2⟩;exact⟨p,h1,bH h2⟩
 ·rintro⟨p,h1,h2⟩;exact⟨p,h1,aY h2⟩
def IX{D:Ps}{o:ag}{p:Pl}:(yH D o p).map Prod.fst=if hS D o=true then D.map Prod.fst else D.map Prod.fst++[o]:=by
 unfold yH;split
 ·rw[bg];apply bU;intro e _;show(if e.1=o then(e.1,p)else e).1=e.1;split<;>rfl
 ·rw[bC];rfl
def Gd.put{D:Ps}{p:Pl}(h:Gd D)(hp:Ok p):Gd (yH D o p):=by
 refine⟨?_,λe d=>?_⟩
 ·rw[IX];split
  ·exact h.nd
  ·rename_i c;rw[cO];refine⟨h.nd,cZ _ _,λa ha b hb z=>c ?_⟩;rw[aX]at hb;rw[US,<- hb,<- z];exact ha
 ·unfold yH at d;split at d
  ·obtain⟨f,hf,rfl⟩:=bf.mp d;split
   ·exact hp
   ·exact h.ok f hf
  ·rcases bI.mp d with z|z
   ·exact h.ok e z
   ·rw[aX.mp z];exact hp
theorem Gd.adds(l:Ps):∀{D:Ps},Gd D->Gd (adds D l):=by
 induction l with
 | nil=>intro D h;exact h
 | cons e l d=>intro D h;exact d<|h.put<|xT _ _
def Gd.nil:Gd []:=⟨cP,nofun⟩
def uT{D:Ps}:(∃e∈D,e.1=o/\vS D o=e.2)\/(o∉D.map Prod.fst/\vS D o=[]):=by
 unfold vS
 cases h:D.find? λe=>decide (e.1=o)with
 | some e=>
  have h1:=eO h;exact .inl ⟨e,cD h,by simpa using h1,rfl⟩
 | none=>
  refine .inr ⟨λz=>?_,rfl⟩;obtain⟨e,f,d⟩:=bf.mp z;exact eK.mp h e f<|aY d
def Gd.v{D:Ps}(h:Gd D)(o:ag):Ok (vS D o):=by
 rcases uT (D:=D) (o:=o)with⟨e,h1,_,h2⟩|⟨_,h2⟩
 ·rw[h2];exact h.ok e h1
 ·rw[h2];exact⟨List.Pairwise.nil,nofun⟩
def Ax.anti{a b:ag}(h1:Ax a b)(h2:Ax b a):a=b:=(Sx.vp h1 h2).symm
def OI{D:Ps}(h:Gd D)(h':Gd E)(hv:∀o,vS D o=vS E o):toS D=toS E:=by
 have d:∀(D:Ps),Gd D->∀o,o∈(jD<|D.map Prod.fst).filter (λo=>!(vS D o).isEmpty) ↔ (vS D o)≠[]:=λD h o=>by
  rw[cA,(jy _).mem_iff];constructor
  ·rintro⟨_,h2⟩ z;rw[z]at h2;cases h2
  ·intro z;refine⟨?_,by cases e:vS D o with|nil=>exact absurd e z|cons=>rfl⟩
   rcases uT (D:=D) (o:=o)with⟨e,h1,h2,_⟩|⟨_,h2⟩
   ·exact bf.mpr ⟨e,h1,h2⟩
   ·exact absurd h2 z
 have f:∀(D:Ps),((jD<|D.map Prod.fst).filter λo=>!(vS D o).isEmpty).Pairwise Ax:=λD=>(tW _).filter _;have nd:∀(D:Ps),Gd D->((jD<|D.map Prod.fst).filter λo=>!(vS D o).isEmpty).Nodup:=λD h=>((jy _).nodup_iff.mpr h.nd).filter _;have e:(jD<|D.map Prod.fst).filter (λo=>!(vS D o).isEmpty)=(jD<|E.map Prod.fst).filter (λo=>!(vS E o).isEmpty):=by
  refine dZ (λa b _ _ h1 h2=>Ax.anti h1 h2) (f D) (f E)<|(h_ (nd D h)<|nd E h').mpr λo=>?_;rw[d D h,d E h',hv]
 unfold toS;rw[e];apply bU;intro o _;rw[hv]
def Nv{D:Ps}(h:Gd D)(h':Gd E)(hc:∀o t,cf (vS D o) t=cf (vS E o) t):toS D=toS E:=OI h h' λo=>uniq (h.v o) (h'.v o)<|hc o
theorem D5{f:ag->Pl}{o:ag}{t:Int}:∀{ks:List<|ag},ks.Nodup->cS (ks.map λk=>(k,f k)) o t=if o∈ks then cf (f o) t else 0
 | [],_=>by rw[aM<|by simp];rfl
 | j::ks,h=>by
  obtain⟨h1,h2⟩:=cR.mp h;show(if j=o then cf (f j) t else 0)+cS (ks.map λk=>(k,f k)) o t=_;rw[D5 h2];by_cases c:j=o
  ·subst c;rw[aP rfl,aM h1,aP<|aO ..,eG]
  ·rw[aM c,cF];by_cases e:o∈ks
   ·rw[aP e,aP<|aS _ e]
   ·rw[aM e,aM λz=>(bF.mp z).elim (λz=>c z.symm) e]
def EI{D:Ps}(h:Gd D)(o:ag)(t:Int):cS (toS D) o t=cf (vS D o) t:=by
 unfold toS;rw[D5<|((jy _).nodup_iff.mpr h.nd).filter _];split
 ·rfl
 ·rename_i c
  rcases uT (D:=D) (o:=o)with⟨e,h1,h2,h3⟩|⟨_,h2⟩
  ·by_cases z:vS D o=[]
   ·rw[z];rfl
   ·refine absurd (cA.mpr ⟨(jy _).mem_iff.mpr<|bf.mpr ⟨e,h1,h2⟩,?_⟩) c
    cases e:vS D o with|nil=>exact absurd e z|cons=>rfl
  ·rw[h2];rfl
abbrev pD (o:ag)(k:Nat):Bool:=decide<|o.getD (k-1) 0>o.getD k 0
abbrev WR (k:Nat)(l:Ps):Ps:=l.flatMap λe=>(Wd.ex e.1 k,e.2)::(if pD e.1 k=true then[(e.1,times AF e.2)]else[])
abbrev bx (k:Nat)(l:Ps):Ps:=toS<|adds []<|WR k l
abbrev Go (N k:Nat)(o:ag):Prop:=o.length=N/\o.getD (k-1) 0≠o.getD k 0
def Me{N k:Nat}{o:ag}(h:o.length=N)(h1:1<=k)(h2:k<N):Wd.ex (Wd.ex o k) k=o:=Fw.JX h1 ()
def O3{l:Ps}{t:Int}(h:∀e∈l,e.1≠o):cS l o t=0:=by
 induction l with
 | nil=>rfl
 | cons e l d=>
  show(if e.1=o then _ else 0)+cS l o t=0;rw[aM<|h e<|aO ..,d λf hf=>h f<|aS _ hf];rfl
theorem QO{N k:Nat}(h1:1<=k)(h2:k<N):∀{l:Ps},(∀e∈l,Go N k e.1)->∀{o:ag}(t:Int),Go N k o->cS (WR k l) o t=cS l (Wd.ex o k) t+(if pD o k=true then cS l o (t+1)-cS l o (t-1)else 0)
 | [],_,o,t,_=>by show(0:Int)=0+if _ then(0:Int)-0 else 0;split<;>rfl
 | e::l,h,o,t,ho=>by
  have j:=h e<|aO ..;have g:=QO h1 h2 (l:=l) (λf hf=>h f<|aS _ hf) t ho;have d:(Wd.ex e.1 k=o) ↔ (e.1=Wd.ex o k):=⟨λz=>by rw[<- z,Me j.1 h1 h2],λz=>by rw[z,Me ho.1 h1 h2]⟩;show cS (((Wd.ex e.1 k,e.2)::(if pD e.1 k=true then[(e.1,times AF e.2)]else[]))++WR k l) o t=_;rw[JU,g];show(if Wd.ex e.1 k=o then cf e.2 t else 0)+cS (if pD e.1 k=true then[(e.1,times AF e.2)]else[]) o t+_=((if e.1=Wd.ex o k then cf e.2 t else 0)+cS l (Wd.ex o k) t)+(if pD o k=true then((if e.1=o then cf e.2 (t+1)else 0)+cS l o (t+1))-((if e.1=o then cf e.2 (t-1)else 0)+cS l o (t-1))else 0);have h3:cS (if pD e.1 k=true then[(e.1,times AF e.2)]else[]) o t=if pD o k=true then((if e.1=o then cf e.2 (t+1)else 0)-(if e.1=o then cf e.2 (t-1)else 0))else 0:=by
   by_cases c:e.1=o
   ·rw[c,aP rfl,aP rfl]
    cases pD o k with
    | false=>rfl
    | true=>
     rw[aP rfl,aP rfl];show(if o=o then cf (times AF e.2) t else 0)+0=_;rw[aP rfl,WI,eG]
   ·rw[aM c,aM c];have:cS (if pD e.1 k=true then[(e.1,times AF e.2)]else[]) o t=0:=O3 λf hf=>by
     split at hf
     ·rw[aX.mp hf];exact c
     ·cases hf
    rw[this];split<;>rfl
  rw[h3];by_cases c:Wd.ex e.1 k=o
  ·rw[aP c,aP<|d.mp c];split<;>lia
  ·rw[aM c,aM λz=>c<|d.mpr z];split<;>lia
def pF{P:ag->Prop}(l:Ps):∀{D:Ps},(∀e∈D,P e.1)->(∀e∈l,P e.1)->∀e∈adds D l,P e.1:=by
 induction l with
 | nil=>intro D h _;exact h
 | cons f l j=>
  intro D h h';refine j (λe d=>?_) λe d=>h' e<|aS _ d;have d:e∈yH D f.1 (pV (vS D f.1) f.2):=d;unfold yH at d;split at d
  ·obtain⟨g,hg,rfl⟩:=bf.mp d;split
   ·exact h g hg
   ·exact h g hg
  ·rcases bI.mp d with z|z
   ·exact h e z
   ·rw[aX.mp z];exact h' f<|aO ..
def qK{P:ag->Prop}{D:Ps}(h:∀e∈D,P e.1):∀e∈toS D,P e.1:=λe d=>by
 obtain⟨o,g,rfl⟩:=bf.mp d;obtain⟨f,hf,e⟩:=bf.mp ((jy _).mem_iff.mp (cA.mp g).1)
 skip
 rw[<- e];exact h f hf
abbrev gX (k:Nat)(e:En)(Q:Ps):Ps:=if pD e.1 k=true then yq (yq Q (Wd.ex e.1 k) e.2.2) e.1 (times AF e.2.2)else yq Q (Wd.ex e.1 k) e.2.2
theorem E2(k:Nat):∀(es:Es) (P:Ps),es.foldl (λQ e=>gX k e Q) P=adds P (WR k<|sm es)
 | [],P=>rfl
 | e::es,P=>by
  show es.foldl (λQ e=>gX k e Q) (gX k e P)=adds P (((Wd.ex e.1 k,e.2.2)::(if pD e.1 k=true then[(e.1,times AF e.2.2)]else[]))++WR k (sm es));rw[E2 k es,Lq];congr 1;unfold gX
  cases pD e.1 k<;>rfl
def WL{p:Pl}(h:Ok p)(hb:Bd C p)(t:Int):(cf p t).natAbs<=C:=by
 rw[<- NY h.nd];exact hb.val t
def Ok.yl{l:Pl}(h:Ok l){p:Int×Int}(hp:p∈l):cf l p.1=p.2:=by
 induction l with
 | nil=>cases hp
 | cons q l d=>
  rcases bF.mp hp with z|z
  ·rw[z];exact h.head
  ·show(if q.1=p.1 then q.2 else 0)+cf l p.1=p.2;have:=(cy.mp h.up).1 p z;rw[aM (),d h.tail z,cF]
end Su
namespace He
open PySem L2 Am
open Fw (Two rg N5)
open Bl (Jt)
open Su (pD)
meta abbrev Fn:=ag->Int->Int
abbrev dl (g:Int->Int)(t:Int):Int:=g (t+1)-g (t-1)
abbrev X (k:Nat)(f:Fn):Fn:=λo t=>f (Wd.ex o k) t+if pD o k=true then dl (f o) t else 0
abbrev bk (o:ag):ag:=(List.range o.length).map λi:Nat=>((o.idxOf ((i:Int)+1):Nat):Int)+1
def nb{n k:Nat}{o:ag}(h:o.Perm<|rg n)(h0:1<=k)(h1:k<n):o.getD (k-1) 0≠o.getD k 0:=λz=>by
 have d:o.length=n:=by rw[h.length_eq,Wd.nN]
 have nd:o.Nodup:=h.nodup_iff.mpr<|yv _ _;rw[Wd.uf (),Wd.uf ()]at z;have:=(cH nd).mp z
 lia
abbrev L (j:Nat)(f:Fn):Fn:=λo t=>f (o.map<|Wd.sw j) t+if pD (bk o) j=true then dl (f o) t else 0
abbrev Z_ (n:Nat)(f g:Fn):Prop:=∀o:ag,o.Perm (rg n)->∀t,f o t=g o t
def Dq{n k:Nat}{o:ag}(h:o.Perm<|rg n)(h0:1<=k)(h1:k<n):(Wd.ex o k).Perm (rg n):=(Wd.Qd h0<|by rw[h.length_eq,Wd.nN];exact h1).trans h
abbrev Xw (w:am)(f:Fn):Fn:=w.foldl (λf k=>X k f) f
abbrev D (u:ag)(g:Int->Int):Fn:=λo t=>if o=u then g t else 0
abbrev add (f g:Fn):Fn:=λo t=>f o t+g o t
def Y6{n k:Nat}{l:Su.Ps}(h:∀x∈l,x.1.Perm<|rg n)(h0:1<=k)(h1:k<n):Z_ n (Su.cS<|Su.bx k l) (X k<|Su.cS l):=λo p t=>by
 have d:∀{x:ag},x.Perm (rg n)->Su.Go n k x:=λ{x} hx=>⟨by rw[hx.length_eq,Wd.nN],nb hx h0 h1⟩;unfold Su.bx;rw[Su.EI<|Su.Gd.nil.adds _,Su.Jp];show 0+_=_;rw[cF,Su.QO h0 h1 (λe f=>d<|h e f) t<|d p];rfl
end He
namespace He
open PySem L2 Am Po
open Fw (Two rg N5)
open Su (pD Ps cS)
abbrev cv:Pl->(Int->Int)->Int->Int
 | [],_,_=>0
 | q::p,g,t=>q.2 * g (t-q.1)+cv p g t
def Vs(p:Pl)(g h:Int->Int)(t:Int):cv p (λt=>g t+h t) t=cv p g t+cv p h t:=by
 induction p with
 | nil=>rfl
 | cons q p d=>
  show q.2 * (g (t-q.1)+h (t-q.1))+cv p _ t=(q.2 * g (t-q.1)+cv p g t)+(q.2 * h (t-q.1)+cv p h t);rw[d,Int.mul_add];lia
def Gi(p:Pl)(t:Int):cv p (λ_=>0) t=0:=by
 induction p with
 | nil=>rfl
 | cons q p d=>
  show q.2 * 0+cv p _ t=0;rw[d,iK];rfl
def Wc(p q:Pl)(t:Int):cf (times p q) t=cv p (cf q) t:=by
 rw[Su.Ca]
 induction p with
 | nil=>rfl
 | cons a p d=>
  show cf ((q.map λb=>(a.1+b.1,a.2 * b.2))++ET p q) t=_;rw[Su.pY,Su.EZ,d];rfl
abbrev Ip (p:Pl)(f:Fn):Fn:=λo t=>cv p (f o) t
abbrev RG (G:ag->Fn):Ps->Fn
 | []=>λ_ _=>0
 | e::m=>add (Ip e.2<|G e.1)<|RG G m
def Wx{n k:Nat}{m:Ps}(h0:1<=k)(h1:k<n)(hm:∀x∈m,x.1.Perm<|rg n):∀x∈Su.bx k m,x.1.Perm (rg n):=Su.qK (P:=λo=>o.Perm<|rg n) (Su.pF (P:=λo=>o.Perm<|rg n) _ (nofun) λx d=>by
 obtain⟨f,hf,d⟩:=gE.mp d
 rcases bF.mp d with z|z
 ·rw[z];exact Dq (hm f hf) h0 h1
 ·split at z
  ·rw[aX.mp z];exact hm f hf
  ·cases z)
abbrev Zl (p:Pl)(l:Ps):Ps:=l.map λx=>(x.1,times p x.2)
def UR(p:Pl)(l:Ps):cS (Zl p l)=Ip p (cS l):=by
 funext o t
 induction l with
 | nil=>exact(Gi p t).symm
 | cons e l d=>
  show(if e.1=o then cf (times p e.2) t else 0)+cS (Zl p l) o t=cv p (λt=>(if e.1=o then cf e.2 t else 0)+cS l o t) t;rw[Vs,d];congr 1;by_cases c:e.1=o
  ·rw[aP c,Wc,show(λt=>if e.1=o then cf e.2 t else 0)=cf e.2 from funext λt=>aP c]
  ·rw[aM c,show(λt=>if e.1=o then cf e.2 t else(0:Int))=λ_=>0 from funext λt=>aM c,Gi]
abbrev B (f:Fn):Fn:=λo=>f<|bk o
end He
namespace He
open PySem L2 Am Po
open Fw (Two rg N5)
open Su (pD Ps cS Gd vS toS adds bx)
def JC{D:Ps}(h:Gd D){e:ag×Pl}(he:e∈D):vS D e.1=e.2:=by
 rcases Su.uT (D:=D) (o:=e.1)with⟨d,h1,h2,h3⟩|⟨h1,_⟩
 ·rw[h3,Ai h.nd d h1 e he h2]
 ·exact absurd (dD he) h1
def Dk{D:Ps}(h:Gd D):(D.map Prod.fst).map (λk=>(k,vS D k))=D:=by
 rw[bg]
 conv=>rhs;rw[<- iA D]
 exact bU λe d=>by
  show(e.1,vS D e.1)=e;rw[JC h d]
def GA{D:Ps}(h:Gd D)(o:ag)(t:Int):cS D o t=cf (vS D o) t:=by
 conv=>lhs;rw[<- Dk h]
 rw[Su.D5 h.nd];split
 ·rfl
 ·rename_i c
  rcases Su.uT (D:=D) (o:=o)with⟨e,h1,h2,_⟩|⟨_,h2⟩
  ·exact absurd (h2 ▸ dD h1) c
  ·rw[h2];rfl
def DK{D:Ps}(h:Gd D):Gd (toS D):=by
 refine⟨?_,λe d=>?_⟩
 ·unfold toS;rw[bg,show(Prod.fst ∘ λo=>(o,vS D o))=id from rfl,iA];exact((jy _).nodup_iff.mpr h.nd).filter _
 ·obtain⟨o,_,rfl⟩:=bf.mp d;exact h.v o
structure Cn (l:Ps):Prop where
 gd:Gd l
 eq:toS l=l
theorem Cn.toS{D:Ps}(h:Gd D):Cn (toS D):=⟨DK h,Su.Nv (DK h) h λo t=>by rw[<- GA (DK h),Su.EI h]⟩
def M5{P:Ps}(h:Gd P)(hn:∀e∈P,e.2≠[]):yQ P=toS P:=by
 symm
 have all:(jD<|P.map Prod.fst).filter (λo=>!(vS P o).isEmpty)=jD (P.map Prod.fst):=by
  rw[c7];intro o g;obtain⟨e,d,rfl⟩:=bf.mp<|(jy _).mem_iff.mp g;rw[JC h d]
  cases f:e.2 with
  | nil=>exact absurd f (hn e d)
  | cons=>rfl
 have ts:toS P=(jD<|P.map Prod.fst).map λo=>(o,vS P o):=by unfold toS;rw[all]
 refine Ek h.nd ?_ ?_
 ·rw[ts];have:=(jy<|P.map Prod.fst).map λo=>(o,vS P o)
  rwa [Dk h]at this
 ·rw[ts,bg,show(Prod.fst ∘ λo=>(o,vS P o))=id from rfl,iA];exact tW _
abbrev ff (o:ag):bj:=((List.range<|o.length-1).find? λi=>pD o<|i+1).map (·+1)
def P7{o:ag}{k:Nat}(h:ff o=some k):1<=k/\k<o.length/\pD o k=true:=by
 obtain⟨i,d,rfl⟩:=aW.mp h;have h1:=cg.mp<|cD d;have h2:pD o (i+1)=true:=eO (p:=λi=>pD o<|i+1) d;exact⟨(),(),h2⟩
def Wu(k:Nat)(l:Ps):Cn (bx k l):=.toS<|Gd.nil.adds _
def Ho(l:Ps)(o:ag)(t:Int):cS (toS<|adds [] l) o t=cS l o t:=by
 rw[Su.EI<|Gd.nil.adds _,Su.Jp];exact cF _
abbrev xS (l m:Ps):Ps:=toS<|adds []<|l++m
def OT{n:Nat}{l m:Ps}(pl:∀x∈l,x.1.Perm<|rg n)(pm:∀x∈m,x.1.Perm<|rg n):Cn (xS l m)/\(∀x∈xS l m,x.1.Perm<|rg n)/\cS (xS l m)=add (cS l) (cS m):=
 ⟨.toS<|Gd.nil.adds _,Su.qK (P:=λo=>o.Perm<|rg n)<|Su.pF (P:=λo=>o.Perm<|rg n) _ (nofun) λx d=>(bI.mp d).elim (pl x)<|pm x,funext λo=>funext λt=>by
  show cS (toS<|adds []<|l++m) o t=_;rw[Ho,Su.JU];rfl⟩
abbrev one (n:Nat):Ps:=[(rg n,[((0:Int),(1:Int))])]
def RI(o:ag){p:Pl}(hp:Ok p)(h0:p≠[]):Cn [(o,p)]:=by
 have g:Gd [(o,p)]:=⟨cR.mpr ⟨(λz=>nomatch z),cP⟩,λe d=>by rw[aX.mp d];exact hp⟩;exact⟨g,(M5 g λe d=>by rw[aX.mp d];exact h0).symm⟩
def Vc:Ok [((0:Int),(1:Int))]:=⟨cZ _ _,λp d=>by rw[aX.mp d];decide⟩
end He
namespace He
open PySem L2 Am Po
open Fw (Two rg N5)
open Su (pD Ps cS Gd vS toS adds bx)
abbrev arr:Nat->ag->List (ag)
 | 0,_=>[[]]
 | m+1,l=>l.flatMap λx=>(arr m<|l.erase x).map (x::·)
theorem Bx:∀{m:Nat}{l o:ag},o.Perm l->l.length=m->o∈arr m l
 | 0,l,o,p,h=>by
  have:l=[]:=f6.mp h;subst this;rw[p.eq_nil];exact aX.mpr rfl
 | m+1,l,[],p,h=>by rw[<- p.length_eq]at h;cases h
 | m+1,l,x::o,p,h=>by
  obtain⟨h1,h2⟩:=List.cons_perm_iff_perm_erase.mp p;refine gE.mpr ⟨x,h1,bf.mpr ⟨o,Bx h2 ?_,rfl⟩⟩;rw[List.length_erase_of_mem h1,h];rfl
def z8{α:Type}[DecidableEq α]{ks L:List α}(nd:ks.Nodup)(h:∀x∈ks,x∈L):ks.length<=L.length:=by
 have:=YX L.length (ks.map λx=>L.idxOf x) ?_ λi d=>?_
 ·rwa [aG]at this
 ·refine cj.mpr<|nd.imp_of_mem λ{a b} ha hb hab z=>hab ?_;have e1:=List.getElem_idxOf<|fO.mpr<|h a ha;have e2:=List.getElem_idxOf<|fO.mpr<|h b hb;rw[<- e1,<- e2];congr 1
 ·obtain⟨x,f,rfl⟩:=bf.mp d;exact fO.mpr<|h x f
def OF:∀n,n<6->(arr n<|rg n).length<=120:=by decide +kernel
def many{n:Nat}(hn:n<6){ks:List<|ag}(nd:ks.Nodup)(h:∀o∈ks,o.Perm<|rg n):ks.length<=120:=
 bJ (z8 nd λo d=>Bx (h o d)<|Wd.nN n) (OF n hn)
structure FB (n P C:Nat)(f:Fn):Prop where
 c:∀o,o.Perm (rg n)->∀t,(f o t).natAbs<=C
 p:∀o,o.Perm (rg n)->∀t:Int,P<t.natAbs->f o t=0
def FB.mono{n P:Nat}{f:Fn}(h:FB n P C f)(hp:P<=P')(hc:C<=C'):FB n P' C' f:=⟨λo d t=>bJ (h.c o d t) hc,λo d t g=>h.p o d t ()⟩
def FB.eq{n P:Nat}{f g:Fn}(h:FB n P C f)(e:Z_ n g f):FB n P C g:=⟨λo d t=>by rw[e o d t];exact h.c o d t,λo d t j=>by rw[e o d t];exact h.p o d t j⟩
theorem FB.X{n P k:Nat}{f:Fn}(h:FB n P C f)(h0:1<=k)(h1:k<n):FB n (P+1) (3 * C) (X k f):=by
 refine⟨λo g t=>?_,λo g t j=>?_⟩
 ·have a:=h.c _ (Dq g h0 h1) t;have b:=h.c o g<|t+1;have d:=h.c o g<|t-1;unfold He.X dl;split<;>omega
 ·have a:=h.p _ (Dq g h0 h1) t (by omega);have b:=h.p o g (t+1) (by omega);have d:=h.p o g (t-1) (by omega);unfold He.X dl;split<;>omega
theorem FB.add{n P:Nat}{f g:Fn}(h:FB n P C f)(h':FB n P C' g):FB n P (C+C') (add f g):=by
 refine⟨λo d t=>?_,λo d t j=>?_⟩
 ·have a:=h.c o d t;have b:=h'.c o d t;show(f o t+g o t).natAbs<=_;omega
 ·show f o t+g o t=0;rw[h.p o d t j,h'.p o d t j];rfl
structure PB (Q c:Nat)(p:Pl):Prop where
 c:∀q∈p,q.2.natAbs<=c
 p:∀q∈p,q.1.natAbs<=Q
theorem Tj{n P c:Nat}{f:Fn}(h:FB n P C f){o:ag}(po:o.Perm<|rg n):∀{p:Pl},PB Q c p->(∀t,(cv p (f o) t).natAbs<=p.length * (c * C))/\∀t:Int,P+Q<t.natAbs->cv p (f o) t=0
 | [],_=>⟨λ_=>bO _,λ_ _=>rfl⟩
 | q::p,b=>by
  obtain⟨j,m⟩:=Tj h po (p:=p) ⟨λx d=>b.c x<|aS _ d,λx d=>b.p x<|aS _ d⟩;have k:=b.c q<|aO ..;have B:=b.p q<|aO ..;refine⟨λt=>?_,λt g=>?_⟩
  ·show(q.2 * f o (t-q.1)+cv p (f o) t).natAbs<=(p.length+1) * (c * C);refine bJ (Int.natAbs_add_le _ _) ?_;rw[Int.natAbs_mul,gR,Nat.add_comm];exact Nat.add_le_add (j t) (iP k<|h.c o po _)
  ·show q.2 * f o (t-q.1)+cv p (f o) t=0;rw[m t g,h.p o po _<|by omega,iK];rfl
theorem FB.Ip{n P c:Nat}{f:Fn}(h:FB n P C f){p:Pl}(b:PB Q c p):FB n (P+Q) (p.length * (c * C)) (Ip p f):=⟨λo d t=>(Tj h d b).1 t,λo d t g=>(Tj h d b).2 t g⟩
theorem DL:∀{l:Pl}{a b:Int},l.Pairwise (λp q=>p.1<q.1)->(∀p∈l,a<=p.1/\p.1<=b)->l.length<=(b-a+1).toNat
 | [],_,_,_,_=>bO _
 | p::l,a,b,h,hb=>by
  obtain⟨h1,h2⟩:=cy.mp h;have p1:=hb p<|aO ..;have i:=DL (l:=l) (a:=a+1) (b:=b) h2 λq hq=>by
   have:=h1 q hq;have:=hb q (aS _ hq)
   lia
  rw[bN]
  lia
def RE{p:Pl}{P c:Nat}(h:Ok p)(b:PB P c p):p.length<=2 * P+1:=by
 have:=DL (a:=-(P:Int)) (b:=P) h.up λq hq=>by have:=b.p q hq;omega
 omega
def FB.pb{n P:Nat}{l:Ps}(h:FB n P C<|cS l)(hc:Gd l)(pl:∀x∈l,x.1.Perm<|rg n){e:ag×Pl}(he:e∈l):PB P C e.2/\e.2.length<=2 * P+1:=by
 have ok:=hc.ok e he;have d:∀q∈e.2,cS l e.1 q.1=q.2:=λq hq=>by
  rw[GA hc,JC hc he];exact Su.Ok.yl ok hq
 have b:PB P C e.2:=⟨λq hq=>by rw[<- d q hq];exact h.c _ (pl e he) _,λq hq=>by
  refine Nat.le_of_not_lt λz=>ok.nz q hq ?_;rw[<- d q hq];exact h.p _ (pl e he) _ z⟩
 exact⟨b,RE ok b⟩
structure Sz (n P C:Nat)(l:Ps):Prop where
 cn:Cn l
 pm:∀x∈l,x.1.Perm (rg n)
 fb:FB n P C<|cS l
def Sz.pb{n P:Nat}{l:Ps}(h:Sz n P C l){e:ag×Pl}(he:e∈l):PB P C e.2/\e.2.length<=2 * P+1:=h.fb.pb h.cn.gd h.pm he
def Sz.many{n P:Nat}{l:Ps}(hn:n<6)(h:Sz n P C l):l.length<=120:=by
 have:=He.many hn h.cn.gd.nd λo f=>by obtain⟨e,d,rfl⟩:=bf.mp f;exact h.pm e d
 rwa [aG]at this
def Sz.mono{n P:Nat}{l:Ps}(h:Sz n P C l)(hp:P<=P')(hc:C<=C'):Sz n P' C' l:=⟨h.cn,h.pm,h.fb.mono hp hc⟩
theorem Sz.bx{n P k:Nat}{l:Ps}(h:Sz n P C l)(h0:1<=k)(h1:k<n):Sz n (P+1) (3 * C) (bx k l):=⟨Wu _ _,Wx h0 h1 h.pm,(h.fb.X h0 h1).eq<|Y6 h.pm h0 h1⟩
def Sz.sum{n P c:Nat}{l:Ps}(h:Sz n P C l)(h':Sz n P c m):Sz n P (C+c) (xS l m):=by
 obtain⟨a,b,d⟩:=OT h.pm h'.pm;exact⟨a,b,by rw[d];exact h.fb.add h'.fb⟩
end He
namespace Su
open Am Po PySem L2
def HU{D:Es}{r:Nat}{p:Pl}:∃e,fE (p9 D o r p) o=some e/\e.2.1=r:=by
 unfold p9;by_cases c:(fE D o).isSome=true
 ·rw[aP c];obtain⟨e,d⟩:=di.mp c;unfold fE at d ⊢;rw[gp];have eq:((λe:En=>decide<|e.1=o) ∘ λe:En=>if e.1=o then(e.1,r,p)else e)=λe:En=>decide (e.1=o):=by
   funext x
   show decide ((if x.1=o then(x.1,r,p)else x).1=o)=_;by_cases z:x.1=o
   ·rw[aP z]
   ·rw[aM z]
  rw[eq,d];have:=eO d;have:=bH this;exact⟨_,rfl,by show(if e.1=o then(e.1,r,p)else e).2.1=r;rw[aP this]⟩
 ·rw[aM c];have c:fE D o=none:=Option.not_isSome_iff_eq_none.mp c;unfold fE at c ⊢;rw[List.find?_append,c];exact⟨(o,r,p),by rw[bT,aY rfl];rfl,rfl⟩
end Su
namespace He
open PySem L2 Am Po
open Fw (Two rg N5)
open Su (pD Ps cS Gd vS toS adds bx)
def Sz.of{n P:Nat}{l:Ps}(h:Cn l)(pm:∀x∈l,x.1.Perm<|rg n)(pb:∀e∈l,PB P C e.2):Sz n P C l:=by
 refine⟨h,pm,⟨λo f t=>?_,λo f t j=>?_⟩⟩
 ·rw[GA h.gd]
  rcases Su.uT (D:=l) (o:=o)with⟨e,h1,_,h3⟩|⟨_,h2⟩
  ·rw[h3];exact Su.WL (h.gd.ok e h1) (λq hq=>(pb e h1).c q hq) t
  ·rw[h2];exact bO _
 ·rw[GA h.gd]
  rcases Su.uT (D:=l) (o:=o)with⟨e,h1,_,h3⟩|⟨_,h2⟩
  ·rw[h3];have:∀q∈e.2,q.1≠t:=λq hq z=>by have:=(pb e h1).p q hq;rw[z]at this;lia
   clear h3;revert this;generalize e.2=p0;intro this
   induction p0 with
   | nil=>rfl
   | cons q p d=>
    have z:=this q<|aO ..;have i:=d λx g=>this x<|aS _ g;show(if q.1=t then q.2 else 0)+cf p t=0;rw[aM z,i];rfl
  ·rw[h2];rfl
def Pn{o:ag}:((kX 1 (o.length:Int)).filter λk=>decide<|o.getD (k-1).toNat 0>o.getD k.toNat 0).head?=(ff o).map λk:Nat=>(k:Int):=by
 rw[List.head?_filter];unfold kX ff;rw[gp,show((o.length:Int)-1).toNat=o.length-1 by lia,dO];have:((λk:Int=>decide<|o.getD (k-1).toNat 0>o.getD k.toNat 0) ∘ λk:Nat=>(1:Int)+(k:Int))=λi:Nat=>pD o (i+1):=by
  funext i
  show decide (o.getD ((1:Int)+(i:Int)-1).toNat 0>o.getD ((1:Int)+(i:Int)).toNat 0)=decide _;rw[show((1:Int)+(i:Int)-1).toNat=i+1-1 by lia,show((1:Int)+(i:Int)).toNat=i+1 by lia]
 rw[this];congr 1
 funext i
 show(1:Int)+(i:Int)=((i+1:Nat):Int)
 lia
end He
namespace He
open PySem L2 Am Po
open Fw (Two rg N5)
open Su (pD Ps cS Gd vS toS adds bx)
abbrev Y (k:Nat)(f:Fn):Fn:=λo t=>X k f o t-dl (f o) t
abbrev DH (p:Pl)(l:Ps):Ps:=toS<|adds []<|Zl p l
def Ve(p:Pl)(l:Ps):cS (DH p l)=Ip p (cS l):=by
 funext o t
 unfold DH;rw[Ho,UR]
def Sk{n:Nat}{p:Pl}{l:Ps}(pl:∀x∈l,x.1.Perm<|rg n):Cn (DH p l)/\∀x∈DH p l,x.1.Perm (rg n):=
 ⟨.toS<|Gd.nil.adds _,Su.qK (P:=λo=>o.Perm<|rg n) (Su.pF (P:=λo=>o.Perm<|rg n) _ (nofun) λx d=>by
  obtain⟨y,hy,rfl⟩:=bf.mp d;exact pl y hy)⟩
structure Fwd (n:Nat)(W:ag->am):Prop where
 r:∀o,o.Perm (rg n)->Wd.vY (rg n) (W o)
 e:∀o,o.Perm (rg n)->Wd.led (rg n) (W o)=o
end He
namespace He
open PySem L2 Am Po
open Fw (Two rg N5 Dn)
open Su (pD Ps cS Gd vS toS adds bx)
theorem Sz.DH{n P c:Nat}{l:Ps}(h:Sz n P C l){p:Pl}(b:PB Q c p):Sz n (P+Q) (p.length * (c * C)) (DH p l):=by
 obtain⟨f,d⟩:=Sk (p:=p) h.pm;exact⟨f,d,by rw[Ve];exact h.fb.Ip b⟩
end He
namespace Su
open PySem L2 Am Po
abbrev RB (Q:Nat)(p:Pl):Prop:=∀q∈p,q.1.natAbs<=Q
theorem vZ:∀(ps d:Pl) {k:Int},k∈(pG d ps).map Prod.fst->k∈d.map Prod.fst\/k∈ps.map Prod.fst
 | [],_,_,h=>.inl h
 | p::ps,d,k,h=>by
  rcases vZ ps (acc d p.1 p.2) (k:=k) h with z|z
  ·have e:(acc d p.1 p.2).map Prod.fst=_:=Cu;rw[e]at z;split at z
   ·exact .inl z
   ·rcases bI.mp z with y|y
    ·exact .inl y
    ·exact .inr<|by rw[aX.mp y];exact aO ..
  ·exact .inr<|aS _ z
def FN{d:Pl}{q:Int×Int}(h:q∈IG d):q.1∈d.map Prod.fst:=by
 obtain⟨k,f,rfl⟩:=bf.mp h;exact(sortI_perm _).mem_iff.mp (cA.mp f).1
def RB.plus{a b:Pl}(ha:RB Q a)(hb:RB Q b):RB Q (pV a b):=λq hq=>by
 rcases vZ _ _ (FN hq)with z|z
 ·cases z
 ·obtain⟨x,d,e⟩:=bf.mp z;rw[<- e];exact(bI.mp d).elim (ha x) (hb x)
theorem RB.times{R:Nat}{a b:Pl}(ha:RB Q a)(hb:RB R b):RB (Q+R) (times a b):=λq hq=>by
 rcases vZ _ _ (FN hq)with z|z
 ·cases z
 ·obtain⟨x,d,e⟩:=bf.mp z;obtain⟨y,hy,d⟩:=gE.mp d;obtain⟨w,hw,rfl⟩:=bf.mp d;rw[<- e];have:=ha y hy;have:=hb w hw;show(y.1+w.1).natAbs<=_
  lia
def RB.mono{R:Nat}{a:Pl}(h:RB Q a)(hq:Q<=R):RB R a:=λq d=>bJ (h q d) hq
def RB.len{p:Pl}(ok:Ok p)(h:RB Q p):p.length<=2 * Q+1:=by
 have:=He.DL (a:=-(Q:Int)) (b:=Q) ok.up λq hq=>by have:=h q hq;lia
 lia
def O1{S:iW}{d:Nat}{D:Pl}(hd:kF S d=some (iv D))(hl:D.length<64):∃S',jx [none,some 0] (kh<|jn (f1 vN)<|iS (iR 0)<|ja) (jz 0) (qP<|jc (u7 true) (jc xO (iR 1)<|iR 0)<|eC<|.int 0) (qm<|iS (iR 0)<|iS (jc xO (iR 1)<|iR 0)<|ja) [.ref d] S=.ok (.ref<|S.length+1) S'/\iU S' (S.length+1)=some (pl<|IG D)/\j6 S S':=by
 have g:kF (S++[.lst<|(sortI<|D.map Prod.fst).map .int]) d=some (iv D):=Sy hd;have m:(S++[O.lst<|(sortI<|D.map Prod.fst).map A.int]).length=S.length+1:=by simp
 have q:vN (.ref d) S=.ok (.ref S.length) (S++[.lst<|(sortI<|D.map Prod.fst).map .int]):=by
  show opt (kF S d) _=_;rw[hd,jh,IK<|show(iv D).length<64 by unfold iv;rw[aG];exact hl,Oi]
 have p:=IF (n:=S.length) (xs:=(sortI<|D.map Prod.fst).map A.int) (cap:=[some 0]) (src:=kh<|jn (f1 vN)<|iS (iR 0)<|ja) (t:=qP<|jc (u7 true) (jc xO (iR 1)<|iR 0)<|eC<|.int 0) (e:=qm<|iS (iR 0)<|iS (jc xO (iR 1)<|iR 0)<|ja) (τ:=[.ref d]) (S:=S) (S1:=S++[.lst<|(sortI<|D.map Prod.fst).map .int])
  (kJ (by dsimp[jC,bools,q]) jk) jk (λx=>match x with | .int k=>val D k != 0|_=>false) (λx=>match x with | .int k=>pA (k,val D k)|_=>.non) (λx j=>by
   obtain⟨k,f,rfl⟩:=bf.mp j;have f:=(sortI_perm _).mem_iff.mp f;dsimp[jC,bools,Gr,g,C8 f];rfl) (λx j _=>by
   obtain⟨k,f,rfl⟩:=bf.mp j;have f:=(sortI_perm _).mem_iff.mp f;dsimp[jC,bools,Gr,g,C8 f];exact vR<|show 2<=16777216 by decide) (by rw[aG,(sortI_perm _).length_eq,aG];lia)
 refine⟨_,p.trans<|by rw[m],?_,Kp.refl.lay.lay⟩;rw[<- m,jk];congr 1;unfold pl IG;rw[bg,fR,bg];rfl
def Oq{S:iW}{d:Nat}{D:Es}(hd:jj S d=some (D.map kv))(hne:∀e∈D,e.1≠[])(hl:D.length<64):xg (.ref d) S=.ok (.ref S.length) (S++[.lst<|(jD<|D.map Prod.fst).map yY]):=by
 have ek:(D.map kv).map Prod.fst=D.map Prod.fst:=by rw[bg];rfl
 show opt (jj S d) _=_;rw[hd,jh,ek,IK<|Lh (λk f=>by obtain⟨e,g,rfl⟩:=bf.mp f;exact hne e g)<|by rw[aG];exact hl];rfl
abbrev Dv (F:ae->iW->R A):Prop:=∀{S:iW}{d r:Nat}{D:Es}{o:ag}{p:Pl}{k b:Nat},jj S d=some (D.map kv)->At S D->Vl k b D->iU S r=some (pl p)->D.length<64->k+p.length<64 ->
  ∃(L:Nat) (f:iW),F [.ref d,.tup<|o.map .int,.ref r] S=.ok .non f/\jj f d=some ((p9 D o L<|pV (vS (sm D) o) p).map kv)/\At f (p9 D o L<|pV (vS (sm D) o) p)/\S.length<=L/\Kp (·=d) S f
structure Fil3 (T:iW)(d b i j:Nat)(P:Ps)(D:Es):Prop where
 dd:jj T d=some (D.map kv)
 aa:At T D
 ss:sm D=P
 vv:Vl (2 * j+1) b D
 rb:∀e∈D,RB j e.2.2
 kk:∀e∈D,e.1≠[]
 ll:D.length<=i
 pw:Ap D
def Fil3.mono{d b:Nat}{P:Ps}{D:Es}(h:Fil3 T d b i j P D)(hi:i<=i'):Fil3 T d b i' j P D:=⟨h.dd,h.aa,h.ss,h.vv,h.rb,h.kk,bJ h.ll hi,h.pw⟩
def Fil3.new{d b:Nat}(hd:jj S d=some []):Fil3 S d b 0 j [] []:=⟨hd,(nofun),rfl,(nofun),(nofun),(nofun),aL _,List.Pairwise.nil⟩
def Fil3.wY{d b:Nat}{P:Ps}{D:Es}(h:Fil3 S d b i j P D)(k:j6 S T):Fil3 T d b i j P D:=⟨k.dct _ _ (λz=>z) h.dd,h.aa.wY k,h.ss,h.vv,h.rb,h.kk,h.ll,h.pw⟩
def Fil3.add{F:ae->iW->R A}(hF:Dv F){T:iW}{d b r:Nat}{P:Ps}{D:Es}{o:ag}{p:Pl}(h:Fil3 T d b i j P D)(hr:iU T r=some (pl p))(hp:RB j p)(lp:p.length<=2 * j+1)(ho:o≠[])(hb:b<=T.length)(hl:j<=15)(hi:i<63) :
  ∃(D':Es) (T':iW),F [.ref d,.tup<|o.map .int,.ref r] T=.ok .non T'/\Fil3 T' d b (i+1) j (yq P o p) D'/\Kp (·=d) T T':=by
 have m:=h.ll;obtain⟨L,T',e,h1,h2,h3,g⟩:=hF (o:=o) h.dd h.aa h.vv hr () ();have t:RB j (vS (sm D) o):=by
  rw[HH]
  cases e:fE D o with
  | none=>exact λq hq=>nomatch hq
  | some k=>exact h.rb k (qV e).1
 have rn:=t.plus hp;refine⟨_,T',e,⟨h1,h2,by rw[KI,h.ss];rfl,λe f=>?_,λe f=>?_,λe f=>?_,?_,h.pw.put λe f z=>by have:=mj<|h.aa e f;lia⟩,g⟩
 ·rcases qW f with z|z
  ·exact h.vv e z
  ·rw[z];exact⟨xT _ _,RB.len (xT _ _) rn,by show b<=L;lia⟩
 ·rcases qW f with z|z
  ·exact h.rb e z
  ·rw[z];exact rn
 ·rcases qW f with z|z
  ·exact h.kk e z
  ·rw[z];exact ho
 ·have:=Qa (D:=D) (o:=o) (r:=L) (p:=pV (vS (sm D) o) p)
  lia
def xJ{d n b w:Nat}{P:Ps}{es:Es}{src:Ic}{c:Am.Sm}{g:Tg}(Fm:A->A->ae)(G:En->Ps->Ps)(hg:∀(e:En) (y z:A) (T:iW),g (ent e) (Fm y z) T=.ok (Fm (.tup<|e.1.map .int)<|.ref e.2.1) T)
  {x3 x4:A} (hs:src (Fm x3 x4) S=.ok (jP n (es.map ent).length) S1) (hn:iU S1 n=some (es.map ent)) (hd:Fil3 S1 d b i0 j P D0)
  (step:∀(i:Nat) (e:En) (T:iW) (Q:Ps) (D:Es),i<es.length->e∈es->Kp (·=d) S1 T->Fil3 T d b (i0+w * i) j Q D->∃(D':Es) (T':iW),c (Fm (.tup<|e.1.map .int)<|.ref e.2.1) T=.nx (Fm (.tup<|e.1.map .int)<|.ref e.2.1) T'/\Fil3 T' d b (i0+w * (i+1)) j (G e Q) D'/\Kp (·=d) T T') :
  ∃(y3 y4:A) (D:Es) (S':iW),kZ src g c (Fm x3 x4) S=.nx (Fm y3 y4) S'/\Fil3 S' d b (i0+w * es.length) j (es.foldl (λQ e=>G e Q) P) D/\Kp (·=d) S1 S':=by
 have k:(es.map ent).length=es.length:=aG ..;refine nO (n:=n) (xs:=es.map ent) (S1:=S1) hs (λi τ T=>(∃y3 y4,τ=Fm y3 y4)/\(∃D,Fil3 T d b (i0+w * i) j ((es.take i).foldl (λQ e=>G e Q) P) D)/\Kp (·=d) S1 T)
  (λr=>∃(y3 y4:A) (D:Es) (S':iW),r=.nx (Fm y3 y4) S'/\Fil3 S' d b (i0+w * es.length) j (es.foldl (λQ e=>G e Q) P) D/\Kp (·=d) S1 S') ⟨⟨_,_,rfl⟩,⟨D0,hd⟩,Kp.refl⟩ (λi τ T h=>h.2.2.lst _ _ (cT<|mD hd.dd hn) hn) ?_ ?_
 ·rintro i z τ T p ⟨⟨y3,y4,rfl⟩,⟨D,f⟩,kp⟩;rw[aR]at p;obtain⟨e,m,rfl⟩:=aW.mp p;refine⟨Fm (.tup<|e.1.map .int)<|.ref e.2.1,T,hg _ _ _ _,.inl ?_⟩;obtain⟨D',T',e1,t,q⟩:=step i e T _ D (aJ.mp m).1 (bB m) kp f;refine⟨_,T',e1,⟨_,_,rfl⟩,⟨D',?_⟩,kp.trans q⟩;rw[bV,m,dz];exact t
 ·rintro τ T ⟨⟨y3,y4,rfl⟩,⟨D,f⟩,kp⟩;rw[k,bX]at f;exact⟨y3,y4,D,T,rfl,f,kp⟩
end Su
namespace He
open Su Po
open Fw (rg)
def W8:∀n,n<5->(arr n<|rg n).length<=24:=by decide +kernel
def Sz.X8{n P:Nat}{l:Ps}(hn:n<5)(h:Sz n P C l):l.length<=24:=by
 have:(l.map Prod.fst).length<=24:=bJ (z8 h.cn.gd.nd λo f=>by obtain⟨e,d,rfl⟩:=bf.mp f;exact Bx (h.pm e d)<|Wd.nN n) (W8 n hn)
 rwa [aG]at this
def Sz.rb{n P:Nat}{l:Ps}(h:Sz n P C l){e:ag×Pl}(he:e∈l):RB P e.2:=(h.pb he).1.p
end He
namespace K70
open PySem L2 Am
abbrev Yi (S:iW)(b:Nat):Prop:=∃g st:Int,iU S b=some [.int g,.int st]/\0<=g/\0<=st/\st<4294967296
def PL{ns:ag}{k:Int}(h0:0<=k):∃c,pX [.frz<|ns.map .int,.int k] S=.ok (.int c) S:=by
 unfold pX uI uO;dsimp[jC,bools,kQ,Nat.reduceAdd,Nat.reduceSub,aG];by_cases d:k<(ns.length:Int)
 ·have hn:k.toNat<ns.length:=()
  have ha:rV (ns.map A.int) k=some (.int ns[k.toNat]):=xw (k:=k.toNat) ()<|aH hn;rw[aY d];dsimp[jC,bools,ha];exact⟨_,rfl⟩
 ·rw[bu d];dsimp[jC,bools];exact⟨_,rfl⟩
def Oz{S:iW}{c k:Int}(h0:0<=k)(h1:k<=100):∃S',qJ [.int c,.int k] S=.ok (.ref S.length) S'/\Yi S' S.length/\j6 S S':=by
 have e3:TM (.int 10) (.int 18)=λS=>R.ok (.int 1000000000000000000) S:=by
  funext S;exact oR ⟨by decide,by decide,by decide⟩
 have d:∀x:Int,Bm (.int x) (.int 2147483647)=λS=>R.ok (.int<|x % 2147483647) S:=λx=>by funext S;exact Cm ⋯
 have g:∀x:Int,tZ (.int x) (.int 69621)=λS=>R.ok (.int<|x * 69621) S:=λx=>by funext S;exact mul_r ⋯ ⋯
 have f:∀x:Int,tZ (.int 7919) (.int x)=λS=>R.ok (.int<|7919 * x) S:=λx=>by funext S;exact NX ⋯ ⋯
 have m:∀x:Int,0<=x % 2147483647:=λx=>gM _ ⋯;have p:∀x:Int,x % 2147483647<4294967296:=λx=>by have:=fW x (show(0:Int)<2147483647 by decide);lia
 have q:0<=(if c<0 then -c else c):=by split<;>lia
 unfold qJ wg wB;dsimp[jC,bools,kQ,Nat.reduceAdd,Nat.reduceSub,e3,d,g,f];by_cases j:(if c<0 then -c else c)<1000000000000000000
 ·rw[aY j];dsimp[jC,bools,e3,d,g,f];exact⟨_,rfl,⟨_,_,jk,Int.le_refl 0,m _,p _⟩,Kp.refl.lay⟩
 ·rw[bu j];dsimp[jC,bools,e3,d,g,f];exact⟨_,rfl,⟨_,_,jk,q,m _,p _⟩,Kp.refl.lay⟩
def MW{S:iW}{b:Nat}{g st:Int}(hl:iU S b=some [.int g,.int st])(hs:0<=st)(hs2:st<4294967296):∃d st',mK [.ref b] S=.ok (.int d) (S.set b<|.lst [.int g,.int st'])/\0<=st'/\st'<4294967296:=by
 have hb:=mj hl;have f:DJ 2 1=some 1:=AA rfl ⋯;have e1:0<=(st * 48271+11) % 2147483647:=gM _ ⋯;have e2:(st * 48271+11) % 2147483647<2147483647:=fW _ ⋯;refine⟨(st * 48271+11) % 2147483647 * 16807 % 2147483629 / 8,(st * 48271+11) % 2147483647,?_,e1,()⟩;unfold mK r_ sO;rw[ve];simp[hl,wJ,Nj,f,NX (show -18446744073709551616<st by lia) (),Cm<|show(0:Int)<2147483647 by decide,ur hb,M7 (show(0:Int)<8 by decide) ⋯,NX (show -18446744073709551616<(st * 48271+11) % 2147483647 by lia) (),Cm<|show(0:Int)<2147483629 by decide]
def digit{b:Nat}{m:Int}(h:Yi S b)(h1:1<=m)(h2:m<=1000):∃d S',kM [.ref b,.int m] S=.ok (.int d) S'/\0<=d/\d<m/\Yi S' b/\Kp (·=b) S S':=by
 obtain⟨g,st,t,hg,hs,k⟩:=h;have hb:=mj t;have J:DJ 2 0=some 0:=AA rfl ⋯;have p:∀d q f:Int,0<=d->d<m->0<=q->0<=f->f<4294967296->kM [.ref b,.int m] S=.ok (.int d) (S.set b<|.lst [.int q,.int f])->∃d S',kM [.ref b,.int m] S=.ok (.int d) S'/\0<=d/\d<m/\Yi S' b/\Kp (·=b) S S':=
  λd q f F K L B C e=>⟨d,_,e,F,K,⟨q,f,ur hb,L,B,C⟩,Kp.refl.set<|.inl rfl⟩
 by_cases j:0<g
 ·refine p (g % m) (g / m) st (gM _ ()) (fW _ ()) (Int.ediv_nonneg hg ()) hs k ?_;unfold kM qd qa;rw[ve];simp[t,wJ,Nj,j,Cm<|show 0<m by lia,M7 (show 0<m by lia)<|show m<1073741824 by lia,J]
 ·obtain⟨d,f,e1,G,D⟩:=MW t hs k;refine p (d % m) g f (gM _ ()) (fW _ ()) hg G D ?_;unfold kM qd qa;rw[ve];simp[t,wJ,Nj,j,Cm<|show 0<m by lia,e1,show ¬(1000<m)by lia]
open Po (Pl Ok Bd)
def LI{S:iW}{d:Nat}{D:Pl}(hd:kF S d=some (Po.iv D))(hl:D.length<64):∃S',jZ [.ref d] S=.ok (.ref<|S.length+1) S'/\iU S' (S.length+1)=some (Po.pl<|Po.IG D)/\j6 S S':=by
 obtain⟨S',e,h1,h2⟩:=Su.O1 hd hl;refine⟨S',?_,h1,h2⟩;unfold jZ n_ n9;dsimp[jC,bools,kQ,Nat.reduceAdd,Nat.reduceSub];rw[show jx [none,some 0] _ _ _ _ _ _=_ from e];rfl
def Ql{S:iW}{n:Nat}{a b:Pl}(hn:iU S n=some (Po.pl a))(hm:iU S m=some (Po.pl b))(ha:Ok a)(hl:a.length+b.length<64) :
  ∃(L:Nat) (S':iW),yd [.ref n,.ref m] S=.ok (.ref L) S'/\iU S' L=some (Po.pl<|Po.pV a b)/\S.length<=L/\j6 S S':=by
 have f:kF (S++[.oS<|Po.iv a]) S.length=some (Po.iv a):=Ej;obtain⟨j,k,T,e,g,kp⟩:=Pd (S:=S++[.oS<|Po.iv a]) (S1:=S++[.oS<|Po.iv a]) (x0:=.ref n) (x1:=.ref m) (x3:=.unb) (x4:=.unb) (src:=vJ) (l:=b) (show vJ _ _=_ from kJ (by dsimp[jC,bools])<|j4 hm) (j4 hm) f ();have p:=Po.tX b a;obtain⟨S',e2,h1,h2⟩:=LI g ();have d:j6 S T:=(Kp.refl.lay (o:=.oS<|Po.iv a)).old kp λq hq _ z=>()
 refine⟨T.length+1,S',?_,by rw[h1,<- Po.P8 ha];rfl,by have:=d.len;lia,d.trans h2⟩;unfold yd DR Er;dsimp[jC,bools,kQ,Nat.reduceAdd,Nat.reduceSub,zR,hn,Po.Mj,Po.E8,Po.FA ha];rw[show kZ vJ _ DF _ _=_ from e];dsimp[jC,bools,e2]
def wF(f:Int×Int->A)(hf:∀p τ S,N3 (f p) τ S=N3 (Po.pA p) τ S){S:iW}{n:Nat}{a b:Pl}(hn:iU S n=some (a.map f))(hm:iU S m=some (Po.pl b))(hl:a.length * b.length<64)(ha:∀p∈a,p.2.natAbs<big)(hb:∀p∈b,p.2.natAbs<big) :
  ∃(L:Nat) (S':iW),qc [.ref n,.ref m] S=.ok (.ref L) S'/\iU S' L=some (Po.pl<|Po.times a b)/\S.length<=L/\j6 S S':=by
 have g:kF (S++[.oS []]) S.length=some []:=Ej;obtain⟨B,C,t,D,T,e,k,kp⟩:=EK f hf (S:=S++[.oS []]) (x3:=.unb) (x4:=.unb) (x5:=.unb) (x6:=.unb) (j4 hn) (j4 hm) g () ha hb;have j:=Po.tX (Po.ET a b) [];rw[Po.G5,fP,b7]at j;obtain⟨S',e2,h1,h2⟩:=LI k ();have d:j6 S T:=(Kp.refl.lay (o:=.oS [])).old kp λq hq _ z=>()
 refine⟨T.length+1,S',?_,h1,by have:=d.len;lia,d.trans h2⟩;unfold qc BW Bk;dsimp[jC,bools,kQ,Nat.reduceAdd,Nat.reduceSub,IB];rw[show kZ zq _ zE _ _=_ from e];dsimp[jC,bools,e2]
def yh{S:iW}{n:Nat}{a b:Pl}(hn:iU S n=some (Po.pl a))(hm:iU S m=some (Po.pl b))(hl:a.length * b.length<64)(ha:∀p∈a,p.2.natAbs<big)(hb:∀p∈b,p.2.natAbs<big) :
  ∃(L:Nat) (S':iW),qc [.ref n,.ref m] S=.ok (.ref L) S'/\iU S' L=some (Po.pl<|Po.times a b)/\S.length<=L/\j6 S S':=wF Po.pA (λ_ _ _=>rfl) hn hm hl ha hb
end K70
namespace K70
open PySem L2 Am
open Po (Pl Ok Bd)
open Su (Es At Vl)
def Uc{S:iW}{d r:Nat}{D:Es}{o:ag}{p:Pl}{k b:Nat}(hd:jj S d=some (D.map Su.kv))(hA:At S D)(hv:Vl k b D)(hr:iU S r=some (Po.pl p))(hl:D.length<64)(hk:k+p.length<64) :
  ∃(L:Nat) (S':iW),jI [.ref d,.tup<|o.map .int,.ref r] S=.ok .non S'/\jj S' d=some ((Su.p9 D o L<|Po.pV (Su.vS (Su.sm D) o) p).map Su.kv)/\At S' (Su.p9 D o L<|Po.pV (Su.vS (Su.sm D) o) p)/\S.length<=L/\Kp (·=d) S S':=by
 obtain⟨x,ex,B⟩:=Su.get_or (o:=o) hd hA;have q:=hv.v o;obtain⟨L,S2,e2,h1,h2,t⟩:=Ql B (j4 (o:=.lst []) hr) q.1 ();have g:j6 S S2:=(Kp.refl.lay).trans t;have f:=g.dct _ _ (λz=>z) hd;have j:jj (S++[.lst []]) d=some (D.map Su.kv):=Su.BK hd;refine⟨L,S2.set d<|.dct<|(Su.p9 D o L<|Po.pV (Su.vS (Su.sm D) o) p).map Su.kv,?_,Su.Ga<|Su.rJ f,?_,by simp at h2;lia,g.of0.sM<|.inl rfl⟩
 ·unfold jI qQ rQ;have C:newL [] S=.ok (.ref S.length) (S++[.lst []]):=kH (show 0<=16777216 by decide);dsimp[jC,bools,kQ,Nat.reduceAdd,Nat.reduceSub,Su.Qc,Su.Pz,hd,eN,C,Su.Pb,j,ex,e2,Su.xr,Su.se,f,tH<|show(D.map Su.kv).length<16777216 by rw[aG];lia,Su.NO (p:=Po.pV (Su.vS (Su.sm D) o) p)]
 ·refine(Su.At.put (hA.wY g) h1).kp (Kp.refl.sM<|.inl rfl) λe m z=>?_
  rcases Su.qW m with y|y
  ·exact Su.mD hd (hA e y) z
  ·rw[y]at z;exact Su.mD f h1 z
def D3{S:iW}{d:Nat}{D:Es}(hd:jj S d=some (D.map Su.kv))(hA:At S D)(hne:∀e∈D,e.1≠[])(hl:D.length<64) :
  ∃(n:Nat) (S':iW),mX [.ref d] S=.ok (.ref n) S'/\iU S' n=some ((Su.uW D λp=>!p.isEmpty).map Su.ent)/\At S' (Su.uW D λp=>!p.isEmpty)/\S.length<n/\j6 S S':=by
 have B:=Su.Oq hd hne hl;obtain⟨n,S',e,h1,h2,h3,j⟩:=Su.M9 (cap:=[some 0]) (τ:=[.ref d]) (src:=kh<|jn (f1 xg)<|iS (iR 0)<|ja) (t:=qH<|jc qU (iR 1)<|iR 0) (e:=qm<|iS (iR 0)<|iS (jc qU (iR 1)<|iR 0)<|ja) hd hA (kJ (by dsimp[jC,bools,B]) jk) (λp=>!p.isEmpty)
  (λo r q T f g k=>⟨T,by
   have m:A.QB (.ref r) T=some (!q.isEmpty):=by
    show(iU T r).map _=_;rw[k]
    cases q<;>rfl
   dsimp[jC,bools,Su.yY,Su.xm,f,g,m],Kp.refl⟩)
  (λo r T f g=>by
   dsimp[jC,bools,Su.yY,Su.xm,f,g];exact vR<|show 2<=16777216 by decide) ()
 refine⟨n,S',?_,h1,h2,h3,j⟩;unfold mX yM yc;dsimp[jC,bools,kQ,Nat.reduceAdd,Nat.reduceSub,e]
def vL:Su.Dv jI:=λh1 h2 h3 d g f=>Uc h1 h2 h3 d g f
open Po (Pl Ok Bd)
open Su (Es At Vl)
structure Sm (S:iW)(n:Nat)(es:Es):Prop where
 l:iU S n=some (es.map Su.ent)
 a:At S es
def Sm.kp{n:Nat}(h:Sm S n es)(k:j6 S S'):Sm S' n es:=⟨k.lst _ _ (λz=>z) h.l,h.a.wY k⟩
def AM{a b:ag}(h:a.length=b.length):nQ [.tup<|a.map .int,.tup<|b.map .int] S=.ok .non S:=by
 unfold nQ sH tw;have:((a.length:Int) == (b.length:Int))=true:=by rw[h];exact cI _
 dsimp[jC,kD,bools,kQ,Nat.reduceAdd,Nat.reduceSub,aG,this,bS]
def zh{n:Nat}{xs:ae}(h:iU S n=some xs):A.QB (.ref n) S=some (!xs.isEmpty):=by
 show(iU S n).map _=_;rw[h];rfl
def BC{n N:Nat}{es fs:Es}(h:Sm S n es)(h':Sm S m fs)(h1:∀e∈es,e.1.length=N)(h2:∀e∈fs,e.1.length=N):nU [.ref n,.ref m] S=.ok .non S:=by
 unfold nU tN tK;dsimp[jC,kD,bools,kQ,Nat.reduceAdd,Nat.reduceSub,zh h.l,zh h'.l]
 cases es with
 | nil=>dsimp[jC,kD,bools,fm,iF,bS]
 | cons e es=>cases fs with
  | nil=>dsimp[jC,kD,bools,fm,iF,bS,bE,iB,cQ,zh h'.l]
  | cons f fs=>
   have q:=AM (S:=S)<|(h1 e<|aO ..).trans (h2 f<|aO ..).symm;have g:=h.l;have d:=h'.l;rw[bE]at g d;dsimp[jC,kD,bools,bE,iB,cQ,zh d,g,d,wJ,Su.ent,q]
def Zk{l:ag}{k:Nat}{i:Int}(h:i=k)(hk:k<l.length):rV (l.map A.int) i=some (.int<|l.getD k 0):=xw h<|by rw[aK,aH hk];rfl
def PD{l:ag}{k:Nat}:((l.map A.int).set (k-1)<|.int<|l.getD k 0).set k (.int<|l.getD (k-1) 0)=(Wd.ex l k).map A.int:=by
 unfold Wd.ex;rw[map_set,map_set]
def YG{f g:A->A->iW->R A}{ca cb cc:Ex}{a b c:A}(h1:ca τ S=.ok a S)(h2:cb τ S=.ok b S)(h3:f a b S=.ok (.bl true) S)(h4:cc τ S=.ok c S):VS f g ca cb cc τ S=g b c S:=by
 unfold VS;rw[h1,R.ly,h2,R.ly,h3,R.ly];unfold kCh;show(cc τ S).bind _=_;rw[h4];rfl
def MA{i:Int}:mw [.int i] S=.ok (.bl true) S:=by
 unfold mw uU uM;dsimp[jC,bools,kQ,Nat.reduceAdd,Nat.reduceSub,show Ir .int "int" = some true from rfl,show Ir .int "bool" = some false from rfl,cQ]
def Yt{n k:Int}(h1:1<=k)(h2:k<n):lX [.int n,.int k] S=.ok (.bl true) S:=by
 unfold lX qB qx;have c:VS Yk Vi (eC<|.int 1) (iR 1) (iR 0) [.int n,.int k] S=.ok (.bl true) S:=by
  rw[YG (a:=.int 1) (b:=.int k) (c:=.int n) rfl rfl (by dsimp[jC,aY h1]) rfl];dsimp[jC,aY h2]
 dsimp[jC,bools,kQ,Nat.reduceAdd,Nat.reduceSub,MA,c]
def GN{xs:ag}{k:Nat}(h1:1<=k)(h2:k<xs.length)(hl:xs.length<=1000):∃S',lC [.tup<|xs.map .int,.int k] S=.ok (.tup<|(Wd.ex xs k).map .int) S'/\j6 S S':=by
 have e1:=Yt (S:=S) (n:=(xs.length:Int)) (k:=(k:Int)) () ();have j:rV (xs.map A.int) (k:Int)=some (.int<|xs.getD k 0):=Zk rfl ();have f:rV (xs.map A.int) ((k:Int)-1)=some (.int<|xs.getD (k-1) 0):=Zk (k:=k-1) () ();have p:DJ xs.length ((k:Int)-1)=some (k-1):=AA () ();have d:DJ xs.length (k:Int)=some k:=AA rfl ();have g:iU (S++[O.lst<|xs.map .int]) S.length=some (xs.map .int):=jk;have m:∀ys,iU ((S++[O.lst<|xs.map .int]).set S.length<|.lst ys) S.length=some ys:=λys=>ur (by simp);have e2:j8 [.tup<|xs.map .int,.int k,.int<|(k:Int)+1] S=.ok (.tup<|(Wd.ex xs k).map .int) (((S++[O.lst<|xs.map .int]).set S.length<|.lst<|(xs.map A.int).set (k-1)<|.int<|xs.getD k 0).set S.length<|.lst<|(Wd.ex xs k).map .int):=by
  unfold j8 mF mh;dsimp[jC,bools,kQ,Nat.reduceAdd,Nat.reduceSub,g,show(k:Int)+1-1=k by lia,j,f,oR<|show 2<=sizeLine by decide,oR<|show 2=2 from rfl,aG,p,m,bW,d,PD];rw[ur<|by simp];dsimp[jC,bools]
 unfold lC tU r9;dsimp[jC,kD,bools,kQ,Nat.reduceAdd,Nat.reduceSub,aG,e1,bS,e2];exact⟨_,rfl,((Kp.refl.lay).set<|.inr<|aL _).set<|.inr<|aL _⟩
def Z6{xs:ag}{i:Int}(h1:0<=i)(h2:i<xs.length):rV (xs.map A.int) i=some (.int<|xs.getD i.toNat 0):=Zk (k:=i.toNat) () ()
abbrev fl (xs:ag)(n:Nat):ag:=(kX 1 (n:Int)).filter λk=>decide<|xs.getD (k-1).toNat 0>xs.getD k.toNat 0
def qF{S:iW}{n:Nat}{xs:ag}(hlen:xs.length=n)(h2:n<=20):jW [.tup<|xs.map .int] S=.ok (.ref S.length) (S++[.lst<|(fl xs n).map .int]):=by
 have f:=yR (lo:=1) (hi:=(n:Int)) (cap:=[some 0]) (src:=sQ (eC<|.int 1)<|jn (f1 lO)<|iS (iR 0)<|ja) (t:=qP<|jc QV (jc pI (iR 1)<|jc aSub (iR 0)<|eC<|.int 1)<|jc pI (iR 1)<|iR 0) (e:=iR 0) (τ:=[.tup<|xs.map .int]) (S:=S) (S1:=S)
  (x_ (S1:=S) (by dsimp[jC,bools]) (by dsimp[jC,bools,aG,hlen]) (nF () ())<|nF () ())
  (λk=>decide<|xs.getD (k-1).toNat 0>xs.getD k.toNat 0) (λk=>.int k) (λk h1 h2=>by
   have g:rV (xs.map A.int) (k-1)=some (.int<|xs.getD (k-1).toNat 0):=Z6 () ();have d:rV (xs.map A.int) k=some (.int<|xs.getD k.toNat 0):=Z6 () ();dsimp[jC,bools,g,d]) (λk _ _ _=>by dsimp[jC,bools]) ()
 unfold jW Ao BL;dsimp[jC,bools,kQ,Nat.reduceAdd,Nat.reduceSub,f];rfl
theorem ud{t:Int}:∀(p:ag),XH S (.int t) (p.map .int)=some (decide<|t∈p)
 | []=>rfl
 | x::p=>by
  show(uG S 12 (.int x)<|.int t).bind (λa=>(XH S (.int t)<|p.map .int).map λb=>a || b)=_;rw[ud p];show some ((x == t) || decide (t∈p))=_;by_cases c:x=t
  ·subst c;rw[cI,aY (show x∈x::p from aO ..)];rfl
  ·rw[cK.mpr c];congr 1;rw[fH,ef];constructor
   ·exact λz=>aS _ z
   ·intro z
    rcases bF.mp z with z|z
    ·exact absurd z.symm c
    ·exact z
open Po (Pl Ok Bd)
open Su (Es At Vl AF)
def xB{o:ag}{N k:Nat}(hl:o.length=N)(h1:1<=k)(h2:k<N):decide ((k:Int)∈fl o N)=Su.pD o k:=by
 unfold fl Su.pD;rw[ef,cA,Jq,gh,show((k:Int)-1).toNat=k-1 by lia,eZ];constructor
 ·exact λh=>h.2
 ·exact λh=>⟨⟨(),()⟩,h⟩
def PZ{S:iW}{n N k P:Nat}{es:Es}(h:Sm S n es)(h1:∀e∈es,e.1.length=N/\(e.2.2.length<=2 * P+1/\Su.RB P e.2.2)/\∀p∈e.2.2,p.2.natAbs<big)(k1:1<=k)(k2:k<N)(hN:N<=20)(hl:P<=14)(hl':es.length<=24) :
  ∃(L:Nat) (S':iW) (rs:Es),lg [.ref n,.int k] S=.ok (.ref L) S'/\Sm S' L rs/\Su.sm rs=Su.bx k (Su.sm es)/\(∀e∈rs,Ok e.2.2/\e.2.2≠[]/\S.length<=e.2.1/\e.2.1<L)/\Su.Ap rs/\rs.length<=2 * es.length/\S.length<=L/\j6 S S':=by
 have k0:j6 S (S++[.dct []]):=Kp.refl.lay;have F:Su.RB 1 AF:=λp hp=>by
  rcases bF.mp hp with z|z
  ·rw[z];exact aL _
  ·rw[aX.mp z];exact aL _
 obtain⟨y3,y4,D,T,e1,f,kp⟩:=Su.xJ (w:=2) (j:=1+P) (b:=S.length) (i0:=0) (S:=S++[.dct []]) (S1:=S++[.dct []]) (d:=S.length) (n:=n) (es:=es) (src:=l9) (c:=k_) (g:=CG 2<|uF (jz 3)<|uF (jz 4)<|B5) (λy z=>[.ref n,.int k,.ref S.length,y,z]) (Su.gX k) (λ_ _ _ _=>rfl) (x3:=.unb) (x4:=.unb)
  (show l9 _ _=_ from kJ (by dsimp[jC,bools])<|j4 h.l) (j4 h.l) (Su.Fil3.new Su.mV) λi e T Q D hi C G f=>by
   obtain⟨V,b2,b3⟩:=h1 e C;have tl:=G.len;rw[bw]at tl;obtain⟨T0,e0,M⟩:=GN (S:=T) (xs:=e.1) (k:=k) k1 () ();have aT:=((h.a.wY k0).Ie G Su.mV).wY M;have f0:=f.wY M;have qtl:=M.len;rw[b7]at f0;have W:Wd.ex e.1 k≠[]:=λz=>by have:=Wd.Ak e.1 k;rw[z]at this;simp at this;lia
   obtain⟨D1,T1,e1,f1,t⟩:=f0.add vL (o:=Wd.ex e.1 k) (aT e C) (b2.2.mono ()) () W () () ();have k1l:=t.len;have Z:=qF (S:=T1) (xs:=e.1) (n:=N) V hN;have m:Gu false (.int k) (.ref T1.length) (T1++[.lst<|(fl e.1 N).map .int])=.ok (.bl<|Su.pD e.1 k) (T1++[.lst<|(fl e.1 N).map .int]):=by
    show opt (iU _ _) _=_;rw[jk,jh,ud,xB V k1 k2];rfl
   have K:j6 T1 (T1++[.lst<|(fl e.1 N).map .int]):=Kp.refl.lay;obtain⟨U,hU⟩:∃U,U=T1++[O.lst<|(fl e.1 N).map .int]:=⟨_,rfl⟩;rw[<- hU]at m K Z;have fU:=f1.wY K;have J:Kp (·=S.length) T U:=(M.of0.trans t).trans K.of0
   cases hf:Su.pD e.1 k with
   | false=>
    refine⟨D1,U,?_,?_,J⟩
    ·rw[hf]at m;unfold k_;dsimp[jC,kD,bools,e0,e1,Z,m]
    ·rw[b7];unfold Su.gX;rw[hf,aM<|by simp];exact fU.mono ()
   | true=>
    have aU:=(aT.Ie t f0.dd).wY K;have n0:iU (U++[.lst<|AF.map kA]) U.length=some (AF.map kA):=jk;obtain⟨L,T2,e2,l1,l2,k2'⟩:=wF kA (λ_ _ _=>rfl) n0 (j4 (o:=.lst<|AF.map kA)<|aU e C) (show 2 * e.2.2.length<64 by lia) (λp hp=>by
     rw[xC]
     rcases bF.mp hp with z|z
     ·rw[z];exact show 1<2 ^ 4096 by decide +kernel
     ·rw[aX.mp z];exact show 1<2 ^ 4096 by decide +kernel) b3
    have B:j6 U T2:=(Kp.refl.lay).trans k2';have tl2:=B.len;have tle:=K.len;obtain⟨D2,T3,e3,f3,Y⟩:=(fU.wY B).add vL (o:=e.1) l1 (Su.RB.times F b2.2) (Su.RB.len (Po.yh _ _)<|Su.RB.times F b2.2) (λz=>by rw[z]at V;simp at V;lia) () () ();refine⟨D2,T3,?_,?_,(J.trans B.of0).trans Y⟩
    ·rw[hf]at m;unfold k_;dsimp[jC,kD,bools,e0,e1,Z,m];rw[show[((-1:Int),(1:Int)),((1:Int),(-1:Int))].map kA=AF.map kA from rfl];dsimp[jC,kD,bools,e2,e3]
    ·rw[b7];unfold Su.gX;rw[hf,aP rfl];exact f3
 have G:j6 S T:=k0.old kp λq hq _ z=>()
 have fl:=f.ll;rw[b7]at fl;obtain⟨L,S',e2,r1,r2,r3,r4⟩:=D3 f.dd f.aa f.kk ();have tl:=G.len;have fs:=f.ss;rw[Su.E2]at fs;refine⟨L,S',_,?_,⟨r1,r2⟩,by rw[Su.AK,fs];rfl,λe C=>?_,f.pw.out _,?_,(),G.trans r4⟩
 ·unfold lg qk qh;dsimp[jC,kD,bools,kQ,Nat.reduceAdd,Nat.reduceSub,Su.vP];rw[show kZ l9 _ k_ _ _=_ from e1];dsimp[jC,kD,bools,e2]
 ·obtain⟨m1,m2⟩:=Su.Ad C;obtain⟨v1,v2,v3⟩:=f.vv e m1;have lt:=mj<|f.aa e m1;exact⟨v1,λz=>(by rw[z]at m2;cases m2),v3,()⟩
 ·unfold Su.uW;rw[aG];refine bJ (c8 _ _) ?_;rw[(jy _).length_eq,aG];exact fl
end K70
namespace K70
open PySem L2 Am
open Po (Pl Ok Bd)
open Su (Es At Vl AF)
open He (Sz)
open Fw (rg)
def Sm.Ie{n d:Nat}(h:Sm S n es)(k:Kp (·=d) S S')(hd:jj S d=some kvs):Sm S' n es:=⟨k.lst _ _ (λz=>Su.mD hd h.l z.symm) h.l,h.a.Ie k hd⟩
def m5{N:Nat}{o:ag}(h:o.Perm<|rg N):o.length=N:=by rw[h.length_eq,Wd.nN]
def lK{es:Es}{l:Su.Ps}(h:Su.sm es=l){e:Su.En}(he:e∈es):(e.1,e.2.2)∈l:=by rw[<- h];exact bf.mpr ⟨e,he,rfl⟩
structure Kn (N:Nat)(Φ:ag->Su.Ps)(T:iW)(d:Nat)(K:Es):Prop where
 dd:jj T d=some (K.map Su.kv)
 gd:Su.Gd (Su.sm K)
 pm:∀e∈K,e.1.Perm (rg N)
 at_:∀e∈K,∃es:Es,Sm T e.2.1 es/\Su.sm es=Φ e.1
def Kn.wY{N d:Nat}{Φ:ag->Su.Ps}{K:Es}(h:Kn N Φ T d K)(k:j6 T T'):Kn N Φ T' d K:=⟨k.dct _ _ (λz=>z) h.dd,h.gd,h.pm,λe f=>by obtain⟨es,a,b⟩:=h.at_ e f;exact⟨es,a.kp k,b⟩⟩
def Kn.many{N d:Nat}{Φ:ag->Su.Ps}{K:Es}(hN:N<6)(h:Kn N Φ T d K):K.length<=120:=by
 have:=He.many hN h.gd.nd λo j=>by
  obtain⟨e,g,rfl⟩:=bf.mp j;obtain⟨f,hf,rfl⟩:=bf.mp g;exact h.pm f hf
 rwa [aG,Su.yO]at this
def Vp:Ok []:=⟨List.Pairwise.nil,nofun⟩
def Kn.put{N d r:Nat}{Φ:ag->Su.Ps}{K:Es}{o:ag}(hN:N<6)(h:Kn N Φ T d K)(po:o.Perm<|rg N)(hr:Sm T r es)(he:Su.sm es=Φ o) :
  ∃T' K',oV (.ref d) (.tup<|o.map .int) (.ref r) T=.ok Unit.unit T'/\Kn N Φ T' d K'/\qU (.ref d) (.tup<|o.map .int) T'=.ok (.ref r) T'/\Sm T' r es/\Kp (·=d) T T':=by
 have k:Kp (·=d) T (T.set d<|.dct<|(Su.p9 K o r []).map Su.kv):=Kp.refl.sM<|.inl rfl;have dd:jj (T.set d<|.dct<|(Su.p9 K o r []).map Su.kv) d=some ((Su.p9 K o r []).map Su.kv):=Su.Ga<|Su.rJ h.dd;obtain⟨e,e1,e2⟩:=Su.HU (D:=K) (o:=o) (r:=r) (p:=[]);have g:=h.many hN;refine⟨_,Su.p9 K o r [],?_,⟨dd,?_,λe he=>?_,λe f=>?_⟩,?_,hr.Ie k h.dd,k⟩
 ·rw[Su.se,h.dd,jh,Su.NO (p:=[])];exact tH (show(K.map Su.kv).length<16777216 by rw[aG];lia)
 ·rw[Su.KI];exact h.gd.put Vp
 ·rcases Su.qW he with z|z
  ·exact h.pm e z
  ·rw[z];exact po
 ·rcases Su.qW f with z|z
  ·obtain⟨fs,a,b⟩:=h.at_ e z;exact⟨fs,a.Ie k h.dd,b⟩
  ·rw[z];exact⟨es,hr.Ie k h.dd,he⟩
 ·rw[Su.xm,dd,jh,Su.t8,e1,eN,jh,e2]
def Ku{d:Nat}{o:ag}:IQ true (.tup<|o.map .int) (.ref d) S=opt (jj S d) λkvs=>.ok (.bl<|!(jK kvs o).isSome) S:=by
 show opt (jj S d) (λkvs=>opt (A.ints<|o.map .int) λf=>_)=_;rw[ints_map];rfl
open Po (Pl Ok Bd)
open Su (Es At Vl)
open He (Sz)
structure Nw (b L:Nat)(rs:Es):Prop where
 ap:Su.Ap rs
 nw:∀e∈rs,b<=e.2.1/\e.2.1<L
def TN{S:iW}{n N P c:Nat}{fs:Es}(hN:N<5)(h0:1<=N)(h:Sm S n es)(h':Sm S m fs)(hz:Sz N P C<|Su.sm es)(hz':Sz N P c<|Su.sm fs)(hP:P<=15) :
  ∃(L:Nat) (S':iW) (rs:Es),rO [.ref n,.ref m] S=.ok (.ref L) S'/\Sm S' L rs/\Su.sm rs=He.xS (Su.sm es) (Su.sm fs)/\Nw S.length L rs/\S.length<=L/\j6 S S':=by
 have nl:=BC h h' (λe k=>m5<|hz.pm _<|lK rfl k) λe k=>m5<|hz'.pm _<|lK rfl k;have t:=hz.X8 hN;have F:=hz'.X8 hN;rw[Su.yO]at t F;have M:(es++fs).length=es.length+fs.length:=bw ..;have n1:iU (S++[.dct []]) n=some (es.map Su.ent):=j4 h.l;have n2:iU (S++[.dct []]) m=some (fs.map Su.ent):=j4 h'.l;have G:=Xr n1 n2 (by rw[aG,aG];lia);rw[<- bC]at G;have B:j6 S (S++[.dct []]++[.lst<|(es++fs).map Su.ent]):=Kp.refl.lay.lay;have Y:∀e∈es++fs,(Su.RB P e.2.2/\e.2.2.length<=2 * P+1)/\e.1≠[]:=λe k=>by
  have:e.1.length=N/\Su.RB P e.2.2/\e.2.2.length<=2 * P+1:=(bI.mp k).elim (λz=>⟨m5<|hz.pm _<|lK rfl z,hz.rb<|lK rfl z,(hz.pb<|lK rfl z).2⟩) λz=>⟨m5<|hz'.pm _<|lK rfl z,hz'.rb<|lK rfl z,(hz'.pb<|lK rfl z).2⟩;exact⟨this.2,λz=>by rw[z]at this;have:=this.1;simp at this;lia⟩
 obtain⟨y3,y4,D,T,e1,f,kp⟩:=Su.xJ (w:=1) (j:=P) (b:=S.length) (i0:=0) (S:=S++[.dct []]) (S1:=S++[.dct []]++[.lst<|(es++fs).map Su.ent]) (d:=S.length) (src:=ug) (c:=ue) (g:=CG 2<|uF (jz 3)<|uF (jz 4) B5) (es:=es++fs) (λy z=>[.ref n,.ref m,.ref S.length,y,z]) (λe Q=>Su.yq Q e.1 e.2.2) (λ_ _ _ _=>rfl) (x3:=.unb) (x4:=.unb)
  (show ug _ _=_ from kJ (by dsimp[jC,bools,G]) jk) jk (Su.Fil3.new<|Su.BK Su.mV) λi e T Q D hi k p f=>by
   have aT:=((h.a.app h'.a).wY B).Ie p<|Su.BK Su.mV;have K:=p.len;have k0l:=B.len;rw[b7,f7]at f;rw[b7,f7];obtain⟨J,W⟩:=Y e k;obtain⟨O,T',V,f',k'⟩:=f.add vL (o:=e.1) (aT e k) J.1 J.2 W () hP ();exact⟨O,T',by unfold ue;dsimp[jC,kD,bools,V],f',k'⟩
 rw[b7,f7,Su.Ig]at f;have p:j6 S T:=B.old kp λq hq _ z=>()
 have fl:=f.ll;obtain⟨L,S',e2,r1,r2,r3,Z⟩:=D3 f.dd f.aa f.kk ();have K:=p.len;refine⟨L,S',_,?_,⟨r1,r2⟩,by rw[Su.AK,f.ss,Su.D8];rfl,⟨f.pw.out _,λe k=>?_⟩,(),p.trans Z⟩
 ·unfold rO BV Aj;dsimp[jC,kD,bools,kQ,Nat.reduceAdd,Nat.reduceSub,nl,Su.vP];rw[show kZ ug _ ue _ _=_ from e1];dsimp[jC,kD,bools,e2]
 ·obtain⟨t,F⟩:=Su.Ad k;obtain⟨v1,v2,U⟩:=f.vv e t;have lt:=mj<|f.aa e t;exact⟨U,()⟩
abbrev Sn (N P C:Nat)(S:iW)(n:Nat)(l:Su.Ps):Prop:=Sz N P C l/\∃es,Sm S n es/\Su.sm es=l
def Sn.kp{N P n:Nat}{l:Su.Ps}(h:Sn N P C S n l)(k:j6 S S'):Sn N P C S' n l:=by
 obtain⟨a,es,b,c⟩:=h;exact⟨a,es,b.kp k,c⟩
def Sn.add{N P c n:Nat}{l k:Su.Ps}(h:Sn N P C S n l)(h':Sn N P c S m k)(hN:N<5)(h0:1<=N)(hP:P<=15) :
  ∃(L:Nat) (S':iW),rO [.ref n,.ref m] S=.ok (.ref L) S'/\Sn N P (C+c) S' L (He.xS l k)/\j6 S S':=by
 obtain⟨a,es,b,rfl⟩:=h;obtain⟨d,fs,q,rfl⟩:=h';obtain⟨L,S',f,e1,p,g,_,_,j⟩:=TN hN h0 b q a d hP;exact⟨L,S',e1,⟨a.sum d,f,p,g⟩,j⟩
def Sn.mono{N P n:Nat}{l:Su.Ps}(h:Sn N P C S n l)(hp:P<=P')(hc:C<=C'):Sn N P' C' S n l:=⟨h.1.mono hp hc,h.2⟩
end K70
namespace K70
open PySem L2 Am
open Po (Pl Ok Bd)
open Su (Es At Vl AF)
open He (Sz PB)
open Fw (rg)
def PJ{S:iW}{n N P c:Nat}{q:Pl}(f:Int×Int->A)(hf:∀p τ S,N3 (f p) τ S=N3 (Po.pA p) τ S)(hN:N<5)(h0:1<=N)(h:Sm S n es)(hz:Sz N P C<|Su.sm es)(hq:iU S m=some (q.map f))(pq:PB Q c q)(lq:q.length<=2)(hP:P+Q<=15)(hC:C<big)(hc:c<big) :
  ∃(L:Nat) (S':iW) (rs:Es),pR [.ref m,.ref n] S=.ok (.ref L) S'/\Sm S' L rs/\Su.sm rs=He.DH q (Su.sm es)/\S.length<=L/\j6 S S':=by
 have K:j6 S (S++[.dct []]):=Kp.refl.lay;have m1:=hz.X8 hN;rw[Su.yO]at m1;obtain⟨y3,y4,D,T,e1,t,kp⟩:=Su.xJ (w:=1) (j:=Q+P) (b:=S.length) (i0:=0) (S:=S++[.dct []]) (S1:=S++[.dct []]) (d:=S.length) (n:=n) (es:=es) (src:=rD) (c:=qY) (g:=CG 2<|uF (jz 3)<|uF (jz 4) B5) (λy z=>[.ref m,.ref n,.ref S.length,y,z]) (λe Q=>Su.yq Q e.1<|Po.times q e.2.2) (λ_ _ _ _=>rfl) (x3:=.unb) (x4:=.unb)
  (show rD _ _=_ from kJ (by dsimp[jC,bools])<|j4 h.l) (j4 h.l) (Su.Fil3.new Su.mV) λi e T Q1 D hi B k O=>by
   have b:=hz.pb<|lK rfl B;have J:=k.len;rw[bw]at J;rw[b7,f7]at O;rw[b7,f7];have lb:e.2.2.length<=2 * P+1:=b.2;have ll:q.length * e.2.2.length<=2 * (2 * P+1):=iP lq lb;have M:Su.RB (Q+P) (Po.times q e.2.2):=Su.RB.times pq.p<|hz.rb<|lK rfl B;obtain⟨L,T1,W,l1,l2,F⟩:=wF f hf (k.lst _ _ (λz=>Su.mD (Su.mV (S:=S) (xs:=[])) (j4 (o:=.dct []) hq) z.symm)<|j4 hq) (((h.a.wY K).Ie k Su.mV) e B) () (λp G=>dP (pq.c p G) hc) λp G=>dP (b.1.c p G) hC;have k1l:=F.len;obtain⟨V,T',U,f',Z⟩:=(O.wY F).add vL (o:=e.1) l1 M (Su.RB.len (Po.yh _ _) M) (λz=>by
    have:=m5<|hz.pm _<|lK rfl B;rw[show((e.1,e.2.2):ag×Pl).1=e.1 from rfl,z]at this;simp at this;lia) () () ()
   exact⟨V,T',by unfold qY;dsimp[jC,bools,W,U],f',F.of0.trans Z⟩
 rw[b7,f7,Su.HM]at t;have k:j6 S T:=K.old kp λq hq _ z=>()
 have fl:=t.ll;obtain⟨L,S',e2,r1,r2,r3,Y⟩:=D3 t.dd t.aa t.kk ();have J:=k.len;refine⟨L,S',_,?_,⟨r1,r2⟩,by rw[Su.AK,t.ss];rfl,(),k.trans Y⟩;unfold pR yo yt;dsimp[jC,bools,kQ,Nat.reduceAdd,Nat.reduceSub,Su.vP];rw[show kZ rD _ qY _ _=_ from e1];dsimp[jC,bools,e2]
def Sn.UP{N P c n:Nat}{l:Su.Ps}{q:Pl}(h:Sn N P C S n l)(f:Int×Int->A)(hf:∀p τ S,N3 (f p) τ S=N3 (Po.pA p) τ S)(hN:N<5)(h0:1<=N)(hq:iU S m=some (q.map f))(pq:PB Q c q)(lq:q.length<=2)(hP:P+Q<=15)(hC:C<big)(hc:c<big) :
  ∃(L:Nat) (S':iW),pR [.ref m,.ref n] S=.ok (.ref L) S'/\Sn N (P+Q) (q.length * (c * C)) S' L (He.DH q l)/\j6 S S':=by
 obtain⟨z,es,s,rfl⟩:=h;obtain⟨L,S',d,e1,k,g,_,j⟩:=PJ f hf hN h0 s z hq pq lq hP hC hc;exact⟨L,S',e1,⟨z.DH pq,d,k,g⟩,j⟩
end K70
namespace Kl
open Su Po He
open Fw (rg)
def Sl{n k:Nat}{o:ag}(p:o.Perm<|rg n)(h0:1<=k)(h1:k<n):pD (Wd.ex o k) k=!pD o k:=by
 have d:o.length=n:=by rw[p.length_eq,Wd.nN]
 have ne:=Fw.PC p h0 ();unfold Su.pD;rw[Fw.Q3 h0 (),Fw.QM h0 (),<- decide_not];exact ef.mpr ⟨λz=>(),λz=>()⟩
theorem GB:∀(l:ag),2 * Iv.inv l<=l.length * (l.length-1)
 | []=>aL _
 | x::l=>by
  have h1:l.countP (λy=>decide<|y<x)<=l.length:=List.countP_le_length;have h2:=GB l;show 2 * (l.countP (λy=>decide<|y<x)+Iv.inv l)<=(l.length+1) * l.length
  cases d:l.length with
  | zero=>rw[d]at h1 h2;lia
  | succ m=>
   rw[d]at h1 h2;have:(m+1) * (m+1-1)+2 * (m+1)=(m+1+1) * (m+1):=by
    rw[Nat.add_sub_cancel,Nat.add_mul (m+1) 1<|m+1,f7,Nat.mul_add (m+1) m 1];lia
   lia
abbrev step (k:Nat)(low:ag->Ps)(told:Ps)(e:ag×Pl):Ps:=if val e.2 1≠0/\pD e.1 k=true then xS told (DH [(0,-val e.2 1)]<|low e.1)else told
abbrev first (k:Nat)(less:Ps):Ps:=xS (Su.bx k less)<|DH [(1,1)] less
abbrev kp:Nat->ag->Ps
 | 0,_=>[]
 | f+1,w=>match ff w with
  | none=>[(w,[(0,1)])]
  | some k=>(kp f<|Wd.ex w k).foldl (step k<|kp f)<|first k (kp f<|Wd.ex w k)
abbrev Lo (n:Nat)(w o:ag):Prop:=o.Perm (rg n)/\(o=w\/Iv.inv o<Iv.inv w)
def Lo.le{n:Nat}{w:ag}(h:Lo n w o):Iv.inv o<=Iv.inv w:=by
 rcases h.2 with z|z
 ·rw[z];exact aL _
 ·exact dF z
def zm{P:ag->Prop}{l m:Ps}(h:∀e∈l,P e.1)(h':∀e∈m,P e.1):∀e∈xS l m,P e.1:=
 qK (pF (P:=P) _ (nofun) λx d=>(bI.mp d).elim (h x)<|h' x)
def Dl{P:ag->Prop}{p:Pl}{l:Ps}(h:∀e∈l,P e.1):∀e∈DH p l,P e.1:=
 qK (pF (P:=P) _ (nofun) λx f=>by
  obtain⟨e,d,rfl⟩:=bf.mp f;exact h e d)
def PO{P:ag->Prop}{k:Nat}{l:Ps}(h:∀e∈l,P e.1/\P (Wd.ex e.1 k)):∀e∈Su.bx k l,P e.1:=
 qK (pF (P:=P) _ (nofun) λx d=>by
  obtain⟨e,f,d⟩:=gE.mp d
  rcases bF.mp d with z|z
  ·rw[z];exact(h e f).2
  ·split at z
   ·rw[aX.mp z];exact(h e f).1
   ·exact nomatch z)
theorem zS{P:ag->Prop}{k:Nat}{low:ag->Ps}:∀{less told:Ps},(∀e∈told,P e.1)->(∀e∈less,∀g∈low e.1,P g.1)->∀e∈less.foldl (step k low) told,P e.1
 | [],_,h,_=>h
 | x::xs,told,h,h'=>zS (less:=xs) (by
   unfold step;split
   ·exact zm h (Dl λg hg=>h' x (aO ..) g hg)
   ·exact h) λe d=>h' e<|aS _ d
structure Dn (n:Nat)(w:ag)(k:Nat):Prop where
 h0:1<=k
 h1:k<n
 fw:pD w k=true
 pe:(Wd.ex w k).Perm (rg n)
 iv:Iv.inv w=Iv.inv (Wd.ex w k)+1
 ee:Wd.ex (Wd.ex w k) k=w
 fe:pD (Wd.ex w k) k=false
def Cg{n:Nat}{w:ag}{k:Nat}(pw:w.Perm<|rg n)(h:ff w=some k):Dn n w k:=by
 obtain⟨a,b,c⟩:=P7 h;have d:w.length=n:=by rw[pw.length_eq,Wd.nN]
 refine⟨a,(),c,Dq pw a (),Fw.M_ a b (by have:=bH c;lia),Fw.JX a b,?_⟩;rw[Sl pw a (),c];rfl
def Lg{n k:Nat}{w:ag}(d:Dn n w k)(h:Lo n (Wd.ex w k) o):Lo n w o:=⟨h.1,.inr (by have:=h.le;have:=d.iv;lia)⟩
def Xy{n k:Nat}{w:ag}(d:Dn n w k)(h:Lo n (Wd.ex w k) o):Lo n w (Wd.ex o k):=by
 refine⟨Dq h.1 d.h0 d.h1,?_⟩;have f:o.length=n:=by rw[h.1.length_eq,Wd.nN]
 rcases h.2 with z|z
 ·exact .inl (by rw[z];exact d.ee)
 ·have:=Fw.ON (l:=o) d.h0 (by have:=d.h1;lia);have:=d.iv;exact .inr ()
def VY{n:Nat}{w:ag}(h:Lo n w o)(h':Lo n o u):Lo n w u:=⟨h'.1,by
 rcases h'.2 with z|z
 ·rw[z];exact h.2
 ·exact .inr (by have:=h.le;lia)⟩
theorem vf{n:Nat}:∀(f:Nat) {w:ag},w.Perm (rg n)->∀e∈kp f w,Lo n w e.1
 | 0,_,_,e,j=>nomatch j
 | f+1,w,pw,e,j=>by
  revert e;unfold kp;split
  ·intro e j;rw[aX.mp j];exact⟨pw,.inl rfl⟩
  ·rename_i k p;have d:=Cg pw p;have m:=vf f d.pe;exact zS (zm (PO λe j=>⟨Lg d<|m e j,Xy d<|m e j⟩)<|Dl λe j=>Lg d<|m e j) λe j g hg=>VY (Lg d<|m e j)<|vf f (m e j).1 g hg
theorem fold_congr{k:Nat}{low low':ag->Ps}:∀{less told:Ps},(∀e∈less,low e.1=low' e.1)->less.foldl (step k low) told=less.foldl (step k low') told
 | [],_,_=>rfl
 | x::xs,told,h=>by
  rw[dU,dU,show step k low told x=step k low' told x from by unfold step;rw[h x<|aO ..]];exact fold_congr λe d=>h e<|aS _ d
theorem NQ{n:Nat}:∀(f g:Nat) {w:ag},w.Perm (rg n)->Iv.inv w<f->Iv.inv w<g->kp f w=kp g w
 | 0,_,_,_,h,_=>absurd h (eL _)
 | f+1,0,_,_,_,h=>absurd h (eL _)
 | f+1,g+1,w,pw,h,h'=>by
  unfold kp;split
  ·rfl
  ·rename_i k j;have d:=Cg pw j;have iv:=d.iv;rw[NQ f g d.pe () ()];exact fold_congr λe m=>by
    have l:=vf g d.pe e m;have:=l.le;exact NQ f g l.1 () ()
abbrev K (w:ag):Ps:=kp (Iv.inv w+1) w
def MH{w:ag}(h:ff w=none):K w=[(w,[(0,1)])]:=by
 unfold K kp;rw[h]
def Lm{n k:Nat}{w:ag}(pw:w.Perm<|rg n)(h:ff w=some k):K w=(K<|Wd.ex w k).foldl (step k K) (first k (K<|Wd.ex w k)):=by
 have d:=Cg pw h;have iv:=d.iv;show kp (Iv.inv w+1) w=_;unfold kp;rw[h];show(kp (Iv.inv w)<|Wd.ex w k).foldl (step k<|kp<|Iv.inv w) _=_;rw[show kp (Iv.inv w) (Wd.ex w k)=K (Wd.ex w k)from by unfold K;rw[iv]];exact fold_congr λe f=>by
  have l:=vf _ d.pe e f;have:=l.le;exact NQ _ _ l.1 () ()
def NG{n:Nat}{w:ag}(pw:w.Perm<|rg n):∀e∈K w,Lo n w e.1:=vf _ pw
abbrev Cb:Nat->Nat
 | 0=>1
 | 1=>124
 | i+2=>4 * Cb (i+1)+120 * (Cb (i+1) * Cb i)
def F_:∀i,4 * Cb i+120 * (Cb i * Cb (i-1))<=Cb (i+1)
 | 0=>by decide
 | i+1=>aL _
theorem xy:∀{j:Nat},i<=j->Cb i<=Cb j
 | 0,h=>by rw[Nat.le_zero.mp h];exact aL _
 | j+1,h=>by
  rcases Nat.lt_or_ge j i with z|z
  ·rw[show i=j+1 by lia];exact aL _
  ·have:=xy z;have:=F_ j
   lia
def QX{P:Nat}{p:Pl}(h:PB P C p)(t:Int):(val p t).natAbs<=C:=by
 unfold val
 cases hf:p.find? λq=>decide (q.1=t)with
 | none=>exact bO _
 | some q=>exact h.c q<|cD hf
def P0{n P A B L k:Nat}{low:ag->Ps}{e:ag×Pl}(h:Sz n P A told)(hl:pD e.1 k=true->Sz n P L (low e.1))(hb:(val e.2 1).natAbs<=B):Sz n P (A+B * L) (step k low told e):=by
 unfold step;split
 ·rename_i z;have:=(hl z.2).DH (p:=[(0,-val e.2 1)]) (Q:=0) (c:=B) ⟨λq hq=>by rw[aX.mp hq];show(-val e.2 1).natAbs<=B;rw[Int.natAbs_neg];exact hb,λq hq=>by rw[aX.mp hq];exact aL _⟩;exact(h.sum this).mono (aL _) (by show A+1 * (B * L)<=_;lia)
 ·exact h.mono (aL _)<|Nat.le_add_right _ _
theorem GO{n P B L k:Nat}{low:ag->Ps}:∀{less told:Ps}{A:Nat},Sz n P A told->(∀e∈less,pD e.1 k=true->Sz n P L (low e.1))->(∀e∈less,(val e.2 1).natAbs<=B)->Sz n P (A+less.length * (B * L)) (less.foldl (step k low) told)
 | [],_,_,h,_,_=>h.mono (aL _) (Nat.le_add_right _ _)
 | x::xs,told,A,h,hl,hb=>by
  have:=GO (less:=xs) (P0 (e:=x) h (hl x<|aO ..)<|hb x<|aO ..) (λe d=>hl e<|aS _ d) λe d=>hb e<|aS _ d;exact this.mono (aL _)<|by rw[bN,gR];lia
def Lj{n P k:Nat}{l:Ps}(h:Sz n P C l)(h0:1<=k)(h1:k<n):Sz n (P+1) (4 * C) (first k l):=by
 have:=h.DH (p:=[(1,1)]) (Q:=1) (c:=1) ⟨λq hq=>by rw[aX.mp hq];exact aL _,λq hq=>by rw[aX.mp hq];exact aL _⟩;exact((h.bx h0 h1).sum this).mono (aL _) (by show 3 * C+1 * (1 * C)<=_;lia)
def Ug{n:Nat}{w:ag}(pw:w.Perm<|rg n):Sz n 0 1 [(w,[(0,1)])]:=by
 refine Sz.of (RI w Vc λz=>nomatch z) (λx f=>by rw[aX.mp f];exact pw) λe d=>by
  rw[aX.mp d];exact⟨λq hq=>by rw[aX.mp hq];exact aL _,λq hq=>by rw[aX.mp hq];exact aL _⟩
def YR{n:Nat}(hn:n<6)(i:Nat):∀{w:ag},w.Perm (rg n)->Iv.inv w=i->Sz n i (Cb i) (K w):=by
 induction i using Nat.strongRecOn with
 | ind i p=>
  intro w g C
  cases hf:ff w with
  | none=>rw[MH hf];exact(Ug g).mono (bO _) (xy (i:=0)<|bO _)
  | some k=>
   have d:=Cg g hf;have iv:=d.iv;obtain⟨j,rfl⟩:∃j,i=j+1:=⟨Iv.inv<|Wd.ex w k,()⟩;have t:Iv.inv (Wd.ex w k)=j:=()
   have z:=p j () d.pe t;have m:=z.many hn;rw[Lm g hf];refine(GO (Lj z d.h0 d.h1) (L:=Cb<|j-1) (B:=Cb j) (λe f fe=>?_) λe f=>QX (z.pb f).1 1).mono (aL _) (bJ ?_<|F_ j)
   ·have l:=NG d.pe e f;have:Iv.inv e.1<j:=by
     rcases l.2 with q|q
     ·rw[q,d.fe]at fe;exact nomatch fe
     ·lia
    exact(p (Iv.inv e.1) () l.1 rfl).mono () (xy ())
   ·exact Nat.add_le_add_left (Nat.mul_le_mul_right _ m) _
def S_{n:Nat}(hn:n<6){w:ag}(pw:w.Perm<|rg n):Sz n 10 (Cb 10) (K w):=by
 have:=GB w;have d:w.length=n:=by rw[pw.length_eq,Wd.nN]
 have:Iv.inv w<=10:=by
  rw[d]at this;have:n * (n-1)<=5 * 4:=iP () ()
  lia
 exact(YR hn _ pw rfl).mono this (xy this)
end Kl
namespace K70
open PySem L2 Am
def Sn.bx{N P n k:Nat}{l:Su.Ps}(h:Sn N P C S n l)(hN:N<5)(k1:1<=k)(k2:k<N)(hP:P<=14)(hC:C<big) :
  ∃(L:Nat) (S':iW),lg [.ref n,.int k] S=.ok (.ref L) S'/\Sn N (P+1) (3 * C) S' L (Su.bx k l)/\j6 S S':=by
 obtain⟨z,es,s,rfl⟩:=h;have g:=z.X8 hN;rw[Su.yO]at g;obtain⟨L,D,d,q,m,t,_,_,_,_,j⟩:=PZ (P:=P) s (k:=k) (N:=N) (λe f=>by
  have b:=z.pb<|lK rfl f;exact⟨m5<|z.pm _<|lK rfl f,⟨b.2,z.rb<|lK rfl f⟩,λp B=>dP (b.1.c p B) hC⟩) k1 k2 () hP ()
 exact⟨L,D,q,⟨z.bx k1 k2,d,m,t⟩,j⟩
open Po (Pl Ok)
open Su (Es)
open He (Sz PB)
open Fw (rg)
def ND{n:Nat}{p:Pl}(h:iU S n=some (Po.pl p))(hp:Ok p):j0 [.ref n] S=.ok (.int<|Po.val p 1) (S++[.oS<|Po.iv p]):=by
 unfold j0 nZ oJ;dsimp[jC,kD,bools,kQ,Nat.reduceAdd,Nat.reduceSub,Bo,zR,h,Po.Mj,Po.E8,Po.FA hp,DU,Ej,eN,yP,Po.DO]
def Av:Kl.Cb 10<big:=by rw[xC];decide +kernel
def Sn.Ie{N P n d:Nat}{l:Su.Ps}(h:Sn N P C S n l)(k:Kp (·=d) S S')(hd:jj S d=some kvs):Sn N P C S' n l:=by
 obtain⟨a,es,b,c⟩:=h;exact⟨a,es,b.Ie k hd,c⟩
def QU{N n:Nat}{o:ag}(hN:N<6)(po:o.Perm<|rg N)(h:Sm S n es)(e:Su.sm es=Kl.K o):Sn N 10 (Kl.Cb 10) S n (Kl.K o):=⟨Kl.S_ hN po,es,h,e⟩
def ya(x y:A):gd (([x,y]:ae).length<=sizeLine)=λr:Am.R A=>r:=by funext r;exact vR<|show 2<=16777216 by decide
def F9(x:A)(S:iW):newL [x] S=.ok (.ref S.length) (S++[.lst [x]]):=vR<|show 1<=16777216 by decide
abbrev Yl (N d f:Nat)(Fs:ae->iW->R A):Prop:=∀(T:iW) (K:Es) (o:ag),Iv.inv o<f->o.Perm (rg N)->Kn N Kl.K T d K ->
  ∃(r:Nat) (g:iW) (k j:Es),Fs [.tup<|o.map .int,.ref d] T=.ok (.ref r) g/\Kn N Kl.K g d k/\Sm g r j/\Su.sm j=Kl.K o/\Kp (·=d) T g
def PK{Fs:ae->iW->R A}{N d f n L k:Nat}{K:Es}{e:Su.En}{x:A}(h5:N<5)(ih:Yl N d f Fs)(hk:Kn N Kl.K T d K)(ht:Sn N 11 A' T L told)(pe:e.1.Perm<|rg N)(he:Iv.inv e.1<f)(le:iU T e.2.1=some (Po.pl e.2.2))(oe:Ok e.2.2)(be:(Po.val e.2.2 1).natAbs<big)(k1:1<=k)(k2:k<N) :
  ∃(v:A) (L' A'':Nat) (T':iW) (K':Es),lG Fs [x,.int k,.ref d,.ref n,.ref L,.tup<|e.1.map .int,.ref e.2.1,y] T=.nx [x,.int k,.ref d,.ref n,.ref L',.tup<|e.1.map .int,.ref e.2.1,v] T'/\Kn N Kl.K T' d K'/\Sn N 11 A'' T' L' (Kl.step k Kl.K told (e.1,e.2.2))/\Kp (·=d) T T':=by
 have hN:N<6:=()
 have h1:=ND le oe;have U:=m5 pe;obtain⟨T1,t⟩:∃T1,T1=T++[O.oS<|Po.iv e.2.2]:=⟨_,rfl⟩;have C:j6 T T1:=by rw[t];kln_w
 rw[<- t]at h1;unfold lG;by_cases h0:Po.val e.2.2 1=0
 ·have D:(Po.val e.2.2 1 == 0)=true:=ir.mpr h0;refine⟨.int<|Po.val e.2.2 1,L,A',T1,K,?_,hk.wY C,?_,C.of0⟩
  ·dsimp[jC,kD,bools,h1,D,bS]
  ·unfold Kl.step;rw[aM λz=>z.1 h0];exact ht.kp C
 ·have D:(Po.val e.2.2 1 == 0)=false:=cK.mpr h0;have M:=qF (S:=T1) (xs:=e.1) (n:=N) U ();have g:Gu false (.int k) (.ref T1.length) (T1++[.lst<|(fl e.1 N).map .int])=.ok (.bl<|Su.pD e.1 k) (T1++[.lst<|(fl e.1 N).map .int]):=by
   show opt (iU _ _) _=_;rw[jk,jh,ud,xB U k1 k2];rfl
  obtain⟨T2,B⟩:∃T2,T2=T1++[O.lst<|(fl e.1 N).map .int]:=⟨_,rfl⟩;have q2:j6 T1 T2:=by rw[B];kln_w
  rw[<- B]at g M;have m:=C.trans q2
  cases hf:Su.pD e.1 k with
  | false=>
   rw[hf]at g;refine⟨.int<|Po.val e.2.2 1,L,A',T2,K,?_,hk.wY m,?_,m.of0⟩
   ·dsimp[jC,kD,bools,h1,D,cQ,M,g]
   ·unfold Kl.step;rw[aM λz=>by rw[hf]at z;exact nomatch z.2];exact ht.kp m
  | true=>
   rw[hf]at g;obtain⟨T3,p⟩:∃T3,T3=T2++[O.lst [.tup [.int 0,.int<|-Po.val e.2.2 1]]]:=⟨_,rfl⟩;have q3:j6 T2 T3:=by rw[p];kln_w
   have W:iU T3 T2.length=some (([(0,-Po.val e.2.2 1)]:Pl).map Po.pA):=by rw[p];exact jk
   have j:=m.trans q3;obtain⟨r,T4,K4,rs,x4,Z,s4,e4,J⟩:=ih T3 K e.1 he pe<|hk.wY j;have Y:=(hk.wY j).dd;have l4:=J.lst _ _ (λz=>Su.mD Y W z.symm) W;obtain⟨L5,T5,x5,s5,G⟩:=(QU hN pe s4 e4).UP Po.pA (λ_ _ _=>rfl) h5 () l4 (Q:=0) (c:=(Po.val e.2.2 1).natAbs) ⟨λq hq=>by rw[aX.mp hq];show(-_:Int).natAbs<=_;rw[Int.natAbs_neg];exact aL _,λq hq=>by rw[aX.mp hq];exact aL _⟩ (show 1<=2 by decide) ⋯ Av be;obtain⟨L6,T6,x6,P,V⟩:=(((ht.kp j).Ie J Y).kp G).add (s5.mono ⋯ (aL _)) h5 () ⋯;have st:Kl.step k Kl.K told (e.1,e.2.2)=He.xS told (He.DH [(0,-Po.val e.2.2 1)]<|Kl.K e.1):=by unfold Kl.step;rw[aP ⟨h0,hf⟩]
   rw[<- st]at P;refine⟨.int<|Po.val e.2.2 1,L6,_,T6,K4,?_,(Z.wY G).wY V,P,((j.of0.trans J).trans G.of0).trans V.of0⟩;have F:HL (.int<|Po.val e.2.2 1) T2=.ok (.int<|-Po.val e.2.2 1) T2:=rfl;dsimp[jC,kD,bools,h1,D,cQ,M,g,F,ya,F9,<- p,x4,x5,x6]
end K70
namespace K70
open PySem L2 Am
open Po (Pl Ok)
open Su (Es)
open He (Sz PB)
open Fw (rg)
def LX:gd (2<=sizeLine)=λr:Am.R A=>r:=by funext r;exact vR<|show 2<=16777216 by decide
def OC{Fs:ae->iW->R A}{N d f n k:Nat}{x:A}{wl:ag}(h5:N<5)(ih:Yl N d f Fs)(hk:Kn N Kl.K S d K0)(ht:Sn N 11 A0 S L0 told)(pw:wl.Perm<|rg N)(iw:Iv.inv wl<f)(hs:Sm S n es)(hse:Su.sm es=Kl.K wl)(k1:1<=k)(k2:k<N) :
  ∃(y5 y6 y7:A) (L' A'':Nat) (S':iW) (K':Es),kZ (nB Fs) (CG 2<|uF (jz 5)<|uF (jz 6) B5) (lG Fs) [x,.int k,.ref d,.ref n,.ref L0,.unb,.unb,.unb] S=.nx [x,.int k,.ref d,.ref n,.ref L',y5,y6,y7] S'/\Kn N Kl.K S' d K'/\Sn N 11 A'' S' L' ((Kl.K wl).foldl (Kl.step k Kl.K) told)/\Kp (·=d) S S':=by
 have j:(es.map Su.ent).length=es.length:=aG ..;have L:N<6:=()
 have D:=Kl.S_ L pw;refine nO (n:=n) (xs:=es.map Su.ent) (S1:=S) (show nB Fs _ _=_ from kJ (by dsimp[jC,bools]) hs.l)
  (λi τ T=>∃(y5 y6 y7:A) (L' A'':Nat) (K':Es),τ=[x,.int k,.ref d,.ref n,.ref L',y5,y6,y7]/\Kn N Kl.K T d K'/\Sn N 11 A'' T L' ((Su.sm<|es.take i).foldl (Kl.step k Kl.K) told)/\Kp (·=d) S T)
  (λr=>∃(y5 y6 y7:A) (L' A'':Nat) (S':iW) (K':Es),r=.nx [x,.int k,.ref d,.ref n,.ref L',y5,y6,y7] S'/\Kn N Kl.K S' d K'/\Sn N 11 A'' S' L' ((Kl.K wl).foldl (Kl.step k Kl.K) told)/\Kp (·=d) S S')
  ⟨_,_,_,L0,A0,K0,rfl,hk,ht,Kp.refl⟩ (λi τ T h=>?_) ?_ ?_
 ·obtain⟨_,_,_,_,_,_,_,_,_,kp⟩:=h;exact kp.lst _ _ (λz=>Su.mD hk.dd hs.l z.symm) hs.l
 ·rintro i z τ T B ⟨y5,y6,y7,L',A'',K',rfl,p,g,kp⟩;rw[aR]at B;obtain⟨e,t,rfl⟩:=aW.mp B;have q:=bB t;have m:(e.1,e.2.2)∈Kl.K wl:=lK hse q;have C:=Kl.NG pw _ m;have pb:=D.pb m;obtain⟨v,O,G,T1,F,e1,M,J,P⟩:=PK (Fs:=Fs) (n:=n) (x:=x) (y:=y7) h5 ih p g (e:=e) C.1 (dP C.le iw) ((hs.Ie kp hk.dd).a e q) (D.cn.gd.ok _ m) (dP (Kl.QX pb.1 1) Av) k1 k2;refine⟨[x,.int k,.ref d,.ref n,.ref L',.tup<|e.1.map .int,.ref e.2.1,y7],T,rfl,.inl ⟨_,T1,e1,_,_,_,O,G,F,rfl,M,?_,kp.trans P⟩⟩;rw[bV,t,Su.D8,dz];exact J
 ·rintro τ T ⟨y5,y6,y7,L',A'',K',rfl,p,g,kp⟩;rw[j,bX,hse]at g;exact⟨y5,y6,y7,L',A'',T,K',rfl,p,g,kp⟩
def P_{Fs:ae->iW->R A}{N d f k:Nat}{w:ag}(h5:N<5)(ih:Yl N d f Fs)(hk:Kn N Kl.K S d K0)(pw:w.Perm<|rg N)(hf:He.ff w=some k)(iw:Iv.inv w<f+1) :
  ∃(r:Nat) (S':iW) (K' rs:Es),kc jV (jS Fs) [.tup<|w.map .int,.int k,.ref d] S=.ok (.ref r) S'/\Kn N Kl.K S' d K'/\Sm S' r rs/\Su.sm rs=Kl.K w/\Kp (·=d) S S':=by
 have hN:N<6:=()
 have g:=Kl.Cg pw hf;have iv:=g.iv;obtain⟨S1,V,D⟩:=GN (S:=S) (xs:=w) (k:=k) g.h0 (by rw[m5 pw];exact g.h1) (by rw[m5 pw];lia);obtain⟨r2,S2,K2,U,P,n2,J,e2,k2⟩:=ih S1 K0 (Wd.ex w k) () g.pe<|hk.wY D;have G:=QU hN g.pe J e2;obtain⟨L3,S3,x3,s3,L⟩:=G.bx h5 g.h0 g.h1 ⋯ Av;obtain⟨t,m⟩:∃t,t=S3++[O.lst [.tup [.int 1,.int 1]]]:=⟨_,rfl⟩;have M:j6 S3 t:=by rw[m];kln_w
 have l4:iU t S3.length=some (([(1,1)]:Pl).map Po.pA):=by rw[m];exact jk
 have C:=L.trans M;obtain⟨L5,S5,x5,W,k5⟩:=(G.kp C).UP Po.pA (λ_ _ _=>rfl) h5 (by have:=g.h1;lia) l4 (Q:=1) (c:=1) ⟨λq hq=>by rw[aX.mp hq];exact aL _,λq hq=>by rw[aX.mp hq];exact aL _⟩ ⋯ ⋯ Av (by rw[xC];decide +kernel);have p:=M.trans k5;obtain⟨L6,S6,Y,s6,k6⟩:=(s3.kp p).add W h5 (by have:=g.h1;lia) ⋯;have j:=(L.trans p).trans k6;obtain⟨y5,y6,y7,L7,A7,S7,K7,T,n7,F,Z⟩:=OC (x:=.tup<|w.map .int) h5 ih (n2.wY j) s6 g.pe () (J.kp j) e2 g.h0 g.h1;have eq:(Kl.K<|Wd.ex w k).foldl (Kl.step k Kl.K) (He.xS (Su.bx k<|Kl.K<|Wd.ex w k)<|He.DH [(1,1)]<|Kl.K<|Wd.ex w k)=Kl.K w:=(Kl.Lm pw hf).symm;rw[eq]at F;obtain⟨_,B,m7,e7⟩:=F;refine⟨L7,S7,K7,B,?_,n7,m7,e7,((D.of0.trans k2).trans j.of0).trans Z⟩;unfold jS jV;dsimp[jC,kD,bools,kQ,Nat.reduceAdd,Nat.reduceSub,V,P,x3,LX,ya,F9,<- m,x5,Y,↓T]
theorem Gf{N d:Nat}(h5:N<5):∀(f:Nat),Yl N d f (lu f)
 | 0=>λ_ _ _ h _ _=>absurd h (eL _)
 | f+1=>λS K o hf D hK=>by
  have hN:N<6:=()
  have lo:=m5 D;show ∃(r:Nat) (S':iW) (J rs:Es),kc mW (mS<|lu f) [.tup<|o.map .int,.ref d] S=.ok (.ref r) S'/\_;have q:IQ true (.tup<|o.map .int) (.ref d) S=.ok (.bl<|!(jK (K.map Su.kv) o).isSome) S:=by rw[Ku,hK.dd,jh]
  unfold mS mW
  cases T:Su.fE K o with
  | some e=>
   obtain⟨m1,rfl⟩:=Su.qV T;obtain⟨rs,r1,r2⟩:=hK.at_ e m1;have P:jK (K.map Su.kv) e.1=some (.ref e.2.1):=by rw[Su.t8,T];rfl
   have B:qU (.ref d) (.tup<|e.1.map .int) S=.ok (.ref e.2.1) S:=by rw[Su.xm,hK.dd,jh,P,jh]
   rw[P]at q;refine⟨e.2.1,S,K,rs,?_,hK,r1,r2,Kp.refl⟩;dsimp[jC,kD,bools,kQ,Nat.reduceAdd,Nat.reduceSub,q,gW,bS,B]
  | none=>
   have P:jK (K.map Su.kv) o=none:=by rw[Su.t8,T];rfl
   rw[P]at q;have fo:=qF (S:=S) (xs:=o) (n:=N) lo ();have G:(fl o N).head?=(He.ff o).map λk:Nat=>(k:Int):=by
    have:=He.Pn (o:=o);rw[lo]at this;exact this
   obtain⟨S1,p⟩:∃S1,S1=S++[O.lst<|(fl o N).map .int]:=⟨_,rfl⟩;have U:j6 S S1:=by rw[p];kln_w
   have L:iU S1 S.length=some ((fl o N).map .int):=by rw[p];exact jk
   rw[<- p]at fo;have F:=zh L
   cases g:He.ff o with
   | none=>
    have fe:fl o N=[]:=by
     rw[g]at G;exact List.head?_eq_none_iff.mp G
    obtain⟨S2,m⟩:∃S2,S2=S1++[O.lst [.tup [.int 0,.int 1]]]:=⟨_,rfl⟩;have k2:j6 S1 S2:=by rw[m];kln_w
    have l2:iU S2 S1.length=some (Po.pl [(0,1)]):=by rw[m];exact jk
    obtain⟨S3,j⟩:∃S3,S3=S2++[O.lst [.tup [.tup<|o.map .int,.ref S1.length]]]:=⟨_,rfl⟩;have M:j6 S2 S3:=by rw[j];kln_w
    have l3:iU S3 S2.length=some (([(o,S1.length,[(0,1)])]:Es).map Su.ent):=by rw[j];exact jk
    have sm:Sm S3 S2.length [(o,S1.length,[(0,1)])]:=⟨l3,λe he=>by rw[aX.mp he];exact M.lst _ _ (λz=>z) l2⟩;have kq:Su.sm [(o,S1.length,[((0:Int),(1:Int))])]=Kl.K o:=by rw[Kl.MH g];rfl
    have C:=(U.trans k2).trans M;obtain⟨Y,J,e1,Z,B,V,kp⟩:=(hK.wY C).put hN D sm kq;refine⟨S2.length,Y,J,_,?_,Z,V,kq,C.of0.trans kp⟩;rw[fe]at F;dsimp[jC,kD,bools,kQ,Nat.reduceAdd,Nat.reduceSub,q,isSome_none,cQ,fo,F,fm,iF,bS,LX,ya,F9,<- m,<- j,Su.xr,e1,B]
   | some k=>
    obtain⟨t,ft⟩:∃t,fl o N=(k:Int)::t:=by
     rw[g]at G;exact List.head?_eq_some_iff.mp G
    rw[ft]at F L;obtain⟨r3,S3,K3,W,x3,n3,s3,q3,M⟩:=P_ h5 (Gf h5 f) (hK.wY U) D g hf;obtain⟨Y,J,e1,Z,B,V,kp⟩:=n3.put hN D s3 q3;refine⟨r3,Y,J,W,?_,Z,V,q3,(U.of0.trans M).trans kp⟩;dsimp[jC,kD,bools,kQ,Nat.reduceAdd,Nat.reduceSub,q,isSome_none,cQ,fo,F,bE,iB,bS];rw[bE]at L;dsimp[jC,kD,bools,L,wJ,↓x3,Su.xr,e1,B]
end K70
namespace K70
open PySem L2 Am
def UH{n:Nat}{d:List<|kO×A}(h:lW S n=some d)(h':iU S m=some xs):n≠m:=λz=>by
 subst z;have e1:=lR h;rw[ji h']at e1
 cases e1
def Vv{n:Nat}{d:List<|kO×A}(h:lW S n=some d)(h':jj S m=some xs):n≠m:=λz=>by
 subst z;have e1:=lR h;rw[j_ h']at e1
 cases e1
def Kp.rZ{b:Nat->Prop}(h:Kp b S S')(n:Nat)(d:List<|kO×A)(hb:¬b n)(e:lW S n=some d):lW S' n=some d:=yx<|h.obj n _ hb<|lR e
def Ag(x w:ag):ym (.tup [.tup<|x.map .int,.tup<|w.map .int])=some (x,w):=by
 unfold ym;dsimp only;rw[ints_map,ints_map];rfl
def R_{d:Nat}{x w:ag}:yS false (.tup [.tup<|x.map .int,.tup<|w.map .int]) (.ref d) S=opt (lW S d) λkvs=>.ok (.bl (mJ kvs (x,w)).isSome) S:=by
 show opt (lW S d) (λkvs=>opt (ym _) _)=_;rw[Ag];rfl
def PF{d:Nat}{S:iW}{x w:ag}{v:A}:CW (.ref d) (.tup [.tup<|x.map .int,.tup<|w.map .int]) v S=opt (lW S d) λkvs=>gd (kvs.length<sizeLine) (.ok Unit.unit<|S.set d<|.rZ<|wC kvs (x,w) v):=by
 show opt (lW S d) (λkvs=>opt (ym _) _)=_;rw[Ag];rfl
def Qk{co ci:Ex}{a:A}:Ou co ci a τ S=(co τ S).bind λo S1=>(ci τ S1).bind λi S2=>(CW o i a S2).bind λ_ S3=>.ok τ S3:=rfl
def Ib{S:iW}:DY τ S=.ok (.ref S.length) (S++[.rZ []]):=rfl
def LY{k:kO}{v:A}{kvs:List<|kO×A}:(wC kvs k v).length<=kvs.length+1:=by
 unfold wC;split
 ·rw[aG];lia
 ·rw[bw];exact aL _
def isQ{kvs:List<|kO×A}{k:kO}:(mJ kvs k).isSome=decide (k∈kvs.map (·.1)):=by
 unfold mJ;rw[dw]
 cases h:kvs.find? λkv=>decide (kv.1=k)with
 | none=>
  refine(bu λz=>?_).symm;obtain⟨p,d,e⟩:=bf.mp z;have:=eK.mp h p d;exact this<|aY e
 | some p=>
  refine(aY ?_).symm;have h1:=cD h;have h2:=eO h;have h2:=bH h2;exact bf.mpr ⟨p,h1,h2⟩
def HN{kvs:List<|kO×A}{k q:kO}{v:A}:q∈(wC kvs k v).map (·.1) ↔ q∈kvs.map (·.1)\/q=k:=by
 unfold wC;split
 ·rename_i h;rw[isQ]at h;have h:=bH h;have:(kvs.map λp=>if p.1=k then(p.1,v)else p).map (·.1)=kvs.map (·.1):=by
   rw[bg];refine bU λp _=>?_;show(if p.1=k then(p.1,v)else p).1=p.1;split<;>rfl
  rw[this];constructor
  ·exact .inl
  ·rintro(z|z)
   ·exact z
   ·rw[z];exact h
 ·rw[bC,bI,bE,fm,aX]
structure Ks (S:iW)(d m:Nat)(ps:List kO):Prop where
 ex:∃kvs,lW S d=some kvs/\kvs.length<=m/\(∀q,q∈kvs.map (·.1) ↔ q∈ps)/\∀p∈kvs,p.2=.int 1
def Ks.put{d:Nat}{x w:ag}{v:A}(h:Ks S d m ps)(hm:m<16777216)(hv:v=.int 1):∃S',CW (.ref d) (.tup [.tup<|x.map .int,.tup<|w.map .int]) v S=.ok Unit.unit S'/\Ks S' d (m+1) (ps++[(x,w)])/\Kp (·=d) S S':=by
 obtain⟨kvs,h1,h2,h3,g⟩:=h.ex;have j:d<S.length:=(aJ.mp<|lR h1).1;refine⟨S.set d<|.rZ<|wC kvs (x,w) v,?_,⟨wC kvs (x,w) v,yx<|by rw[bz j],bJ LY (),λq=>?_,λp f=>?_⟩,Kp.refl.sM<|.inl rfl⟩
 ·rw[PF,h1,jh];exact tH ()
 ·rw[HN,h3,bI,aX]
 ·unfold wC at f;split at f
  ·obtain⟨q,hq,rfl⟩:=bf.mp f;split
   ·exact hv
   ·exact g q hq
  ·rcases bI.mp f with z|z
   ·exact g p z
   ·rw[aX.mp z];exact hv
def Ks.inq{d:Nat}{ps:List kO}{x w:ag}(h:Ks S d m ps):yS false (.tup [.tup<|x.map .int,.tup<|w.map .int]) (.ref d) S=.ok (.bl<|decide<|(x,w)∈ps) S:=by
 obtain⟨kvs,h1,h2,h3,_⟩:=h.ex;rw[R_,h1,jh,isQ,ef.mpr<|h3 (x,w)]
def Ks.kp{d:Nat}{b:Nat->Prop}(h:Ks S d m ps)(k:Kp b S S')(hb:¬b d):Ks S' d m ps:=by
 obtain⟨kvs,h1,h2⟩:=h.ex;exact⟨kvs,Kp.rZ k _ _ hb h1,h2⟩
def Ks.mono{d:Nat}(h:Ks S d m ps)(hm:m<=m'):Ks S d m' ps:=by
 obtain⟨kvs,h1,h2,h3⟩:=h.ex;exact⟨kvs,h1,bJ h2 hm,h3⟩
def Ks.ne{d n:Nat}(h:Ks S d m ps)(h':iU S n=some xs):d≠n:=by
 obtain⟨kvs,h1,_⟩:=h.ex;exact UH h1 h'
def Ks.nd{d n:Nat}(h:Ks S d m ps)(h':jj S n=some xs):d≠n:=by
 obtain⟨kvs,h1,_⟩:=h.ex;exact Vv h1 h'
def Ks.get{d:Nat}{ps:List kO}{x w:ag}(h:Ks S d m ps):zL (.ref d) [.tup [.tup<|x.map .int,.tup<|w.map .int],.int 0] S=.ok (.int<|if (x,w)∈ps then 1 else 0) S:=by
 obtain⟨kvs,h1,h2,h3,f⟩:=h.ex;show opt (lW S d) (λkvs=>opt (ym _) _)=_;rw[h1,jh,Ag,jh];congr 1;have e:=isQ (kvs:=kvs) (k:=(x,w));rw[ef.mpr<|h3 (x,w)]at e
 cases c:mJ kvs (x,w)with
 | none=>
  rw[c]at e;have:(x,w)∉ps:=c_ e.symm;rw[aM this];rfl
 | some v=>
  rw[c]at e;have:(x,w)∈ps:=bH e.symm;rw[aP this];unfold mJ at c;obtain⟨p,g,rfl⟩:=aW.mp c;exact f p<|cD g
theorem Ks.dq{d:Nat}(h:Ks S d m ps):dq? (.ref d) S=some Unit.unit:=by
 obtain⟨kvs,h1,_⟩:=h.ex;show(lW S d).map _=_;rw[h1];rfl
open Po (Pl Ok)
open Su (Es)
open He (Sz PB)
open Fw (rg)
abbrev Tu (u:ag)(e:ag×Pl):List kO:=if Po.val e.2 1=0 then[]else[(e.1,u),(u,e.1)]
abbrev ldK (u:ag):List kO:=(Kl.K u).flatMap<|Tu u
abbrev Ld (os:List<|ag):List kO:=os.flatMap ldK
def Kn.X3{N d L:Nat}{Φ:ag->Su.Ps}{K:Es}(h:Kn N Φ T d K)(k:Kp (·=L) T T')(hL:Ks T L m ps):Kn N Φ T' d K:=⟨k.dct _ _ (λz=>hL.nd h.dd z.symm) h.dd,h.gd,h.pm,λe f=>by
 obtain⟨es,a,b⟩:=h.at_ e f;exact⟨es,⟨k.lst _ _ (λz=>hL.ne a.l z.symm) a.l,λe f=>k.lst _ _ (λz=>hL.ne (a.a e f) z.symm)<|a.a e f⟩,b⟩⟩
def Sm.X3{n L:Nat}(a:Sm T n es)(k:Kp (·=L) T T')(hL:Ks T L m ps):Sm T' n es:=⟨k.lst _ _ (λz=>hL.ne a.l z.symm) a.l,λe d=>k.lst _ _ (λz=>hL.ne (a.a e d) z.symm)<|a.a e d⟩
def Mv{N d L n c:Nat}{K:Es}{u:ag}{e:Su.En}(hk:Kn N Kl.K T d K)(hL:Ks T L m ps)(le:iU T e.2.1=some (Po.pl e.2.2))(oe:Ok e.2.2)(hm:m+2<16777216)(hv:Po.val e.2.2 1≠0->Po.val e.2.2 1=1) :
  ∃(v:A) (T':iW),oh [.ref n,.ref d,.ref L,.tup<|u.map .int,.tup<|e.1.map .int,.ref e.2.1,y] T=.nx [.ref n,.ref d,.ref L,.tup<|u.map .int,.tup<|e.1.map .int,.ref e.2.1,v] T'/\Ks T' L (m+2) (ps++Tu u (e.1,e.2.2))/\Kp (·=L) T T':=by
 have h1:=ND le oe;obtain⟨T1,f⟩:∃T1,T1=T++[O.oS<|Po.iv e.2.2]:=⟨_,rfl⟩;have g:j6 T T1:=by rw[f];kln_w
 rw[<- f]at h1;unfold oh;by_cases h0:Po.val e.2.2 1=0
 ·have j:(Po.val e.2.2 1 == 0)=true:=ir.mpr h0;refine⟨.int<|Po.val e.2.2 1,T1,?_,?_,g.of0⟩
  ·dsimp[jC,kD,bools,h1,j,bS]
  ·unfold Tu;rw[aP h0,b9];exact(hL.kp g λz=>z).mono ()
 ·have j:(Po.val e.2.2 1 == 0)=false:=cK.mpr h0;obtain⟨T2,t,p,B⟩:=(hL.kp g λz=>z).put (x:=e.1) (w:=u) (v:=.int<|Po.val e.2.2 1) () (by rw[hv h0]);obtain⟨T3,C,k,q⟩:=p.put (x:=u) (w:=e.1) (v:=.int<|Po.val e.2.2 1) () (by rw[hv h0]);refine⟨.int<|Po.val e.2.2 1,T3,?_,?_,(g.of0.trans B).trans q⟩
  ·dsimp[jC,kD,bools,h1,j,cQ,Qk,ya,t,C]
  ·unfold Tu;rw[aM h0];rw[cB]at k;exact k
end K70
namespace K70
open PySem L2 Am
open Po (Pl Ok)
open Su (Es)
open He (Sz PB)
open Fw (rg)
def KY{N d L n r:Nat}{K:Es}{u:ag}{rs:Es}(hN:N<6)(pu:u.Perm<|rg N)(hs:oB [.ref n,.ref d,.ref L,.tup<|u.map .int,y4,y5,y6] S=.ok (jP r (rs.map Su.ent).length) S1)(hk:Kn N Kl.K S1 d K)(hL:Ks S1 L m ps)(hr:Sm S1 r rs)(he:Su.sm rs=Kl.K u)(hm:m+240<16777216)(hv:∀e∈Kl.K u,Po.val e.2 1≠0->Po.val e.2 1=1) :
  ∃(z4 z5 z6:A) (S':iW),lZ [.ref n,.ref d,.ref L,.tup<|u.map .int,y4,y5,y6] S=.nx [.ref n,.ref d,.ref L,.tup<|u.map .int,z4,z5,z6] S'/\Ks S' L (m+240) (ps++ldK u)/\Kp (·=L) S1 S':=by
 have j:(rs.map Su.ent).length=rs.length:=aG ..;have B:=Kl.S_ hN pu;have k:rs.length<=120:=by have:=B.many hN;rwa [<- he,Su.yO]at this
 unfold lZ;refine nO (n:=r) (xs:=rs.map Su.ent) (S1:=S1) hs
  (λi τ T=>∃(z4 z5 z6:A),τ=[.ref n,.ref d,.ref L,.tup<|u.map .int,z4,z5,z6]/\i<=rs.length/\Ks T L (m+2 * i) (ps++(Su.sm<|rs.take i).flatMap (Tu u))/\Kp (·=L) S1 T)
  (λR=>∃(z4 z5 z6:A) (S':iW),R=.nx [.ref n,.ref d,.ref L,.tup<|u.map .int,z4,z5,z6] S'/\Ks S' L (m+240) (ps++ldK u)/\Kp (·=L) S1 S')
  ⟨_,_,_,rfl,bO _,by rw[gq];show Ks S1 L m (ps++[]);rw[b9];exact hL,Kp.refl⟩ (λi τ T h=>?_) ?_ ?_
 ·obtain⟨_,_,_,_,_,_,kp⟩:=h;exact kp.lst _ _ (λz=>hL.ne hr.l z.symm) hr.l
 ·rintro i z τ T q ⟨z4,z5,z6,rfl,_,g,kp⟩;rw[aR]at q;obtain⟨e,f,rfl⟩:=aW.mp q;have p:=bB f;have t:(e.1,e.2.2)∈Kl.K u:=lK he p;have F:=(aJ.mp f).1;obtain⟨v,T1,e1,C,D⟩:=Mv (n:=n) (u:=u) (e:=e) (y:=z6) (c:=0) (hk.X3 kp hL) g ((hr.X3 kp hL).a e p) (B.cn.gd.ok _ t) ()<|hv _ t;refine⟨[.ref n,.ref d,.ref L,.tup<|u.map .int,.tup<|e.1.map .int,.ref e.2.1,z6],T,rfl,.inl ⟨_,T1,e1,_,_,_,rfl,F,?_,kp.trans D⟩⟩;rw[bV,f,Su.D8,gQ,<- cB];have:((Su.sm (some e).toList).flatMap<|Tu u)=Tu u (e.1,e.2.2):=b9 _;rw[this];exact C
 ·rintro τ T ⟨z4,z5,z6,rfl,_,g,kp⟩;rw[j,bX,he]at g;exact⟨z4,z5,z6,T,rfl,g.mono (),kp⟩
def Dj{N n:Nat}{os:List<|ag}(h5:N<5)(hi:∀o∈os,o.Perm (rg N)/\Iv.inv o<8)(hv:∀o∈os,∀e∈Kl.K o,Po.val e.2 1≠0->Po.val e.2 1=1)(hn:iU S n=some (os.map λo=>.tup<|o.map .int))(hl:os.length<=120) :
  ∃(L:Nat) (S':iW),kC [.ref n] S=.ok (.ref L) S'/\Ks S' L 30000 (Ld os)/\j6 S S':=by
 have hN:N<6:=()
 obtain⟨S1,g⟩:∃S1,S1=S++[O.dct []]:=⟨_,rfl⟩;have V:j6 S S1:=by rw[g];kln_w
 obtain⟨S2,j⟩:∃S2,S2=S1++[O.rZ []]:=⟨_,rfl⟩;have D:j6 S1 S2:=by rw[j];kln_w
 have d1:jj S1 S.length=some []:=by rw[g];exact Su.mV
 have d2:=D.dct _ _ (λz=>z) d1;have p2:lW S2 S1.length=some []:=yx (by rw[j];exact Bh);have l1:S1.length=S.length+1:=by rw[g,bw];rfl
 have h0:Kn N Kl.K S2 S.length []:=⟨d2,Su.Gd.nil,(nofun),(nofun)⟩;have F:Ks S2 S1.length 0 []:=⟨[],p2,aL _,λq=>Iff.rfl,nofun⟩;have k:=(V.trans D).lst _ _ (λz=>z) hn;have p:∃(f y4 y5 y6:A) (S':iW),kZ oN (jz 3) lZ [.ref n,.ref S.length,.ref S1.length,.unb,.unb,.unb,.unb] S2=.nx [.ref n,.ref S.length,.ref S1.length,f,y4,y5,y6] S'/\Ks S' S1.length 30000 (Ld os)/\Kp (λx=>x=S.length\/x=S1.length) S2 S':=by
  refine nO (n:=n) (xs:=os.map λo=>.tup<|o.map .int) (S1:=S2) (show oN _ _=_ from kJ (by dsimp[jC,bools]) k)
   (λi τ T=>∃(f y4 y5 y6:A) (K:Es),τ=[.ref n,.ref S.length,.ref S1.length,f,y4,y5,y6]/\i<=os.length/\Kn N Kl.K T S.length K/\Ks T S1.length (240 * i) (Ld<|os.take i)/\Kp (λx=>x=S.length\/x=S1.length) S2 T)
   (λR=>∃(f y4 y5 y6:A) (S':iW),R=.nx [.ref n,.ref S.length,.ref S1.length,f,y4,y5,y6] S'/\Ks S' S1.length 30000 (Ld os)/\Kp (λx=>x=S.length\/x=S1.length) S2 S')
   ⟨_,_,_,_,[],rfl,bO _,h0,by rw[gq];exact F,Kp.refl⟩ (λi τ T h=>?_) ?_ ?_
  ·obtain⟨_,_,_,_,_,_,_,_,_,kp⟩:=h;have:=mj hn;exact kp.lst _ _ (λz=>()) k
  ·rintro i z τ T J ⟨f,y4,y5,y6,K,rfl,_,P,t,kp⟩;rw[aR]at J;obtain⟨o,C,rfl⟩:=aW.mp J;have G:=bB C;obtain⟨Y,io⟩:=hi o G;have B:=(aJ.mp C).1;obtain⟨r,T1,K1,rs,x1,n1,M,e1,U⟩:=Gf (d:=S.length) h5 8 T K o io Y P;have m:Ks T1 S1.length (240 * i) (Ld<|os.take i):=t.kp U λz=>()
   obtain⟨z4,z5,z6,T2,x2,Z,W⟩:=KY (S:=T) (S1:=T1) (n:=n) (y4:=y4) (y5:=y5) (y6:=y6) hN Y (show oB _ _=_ from kJ (by dsimp[jC,kD,bools,show qZ=lu 8 from rfl,x1]) M.l) n1 m M e1 ()<|hv o G;refine⟨_,T,rfl,.inl ⟨_,T2,x2,_,_,_,_,K1,rfl,B,n1.X3 W m,?_,(kp.trans<|U.mono λ_ _ z=>.inl z).trans<|W.mono λ_ _ z=>.inr z⟩⟩;unfold Ld at Z ⊢;rw[bV,C,gQ];have:(some o).toList.flatMap ldK=ldK o:=b9 _;rw[this];exact Z.mono ()
  ·rintro τ T ⟨f,y4,y5,y6,K,rfl,_,P,t,kp⟩;rw[aG,bX]at t;exact⟨f,y4,y5,y6,T,rfl,t.mono (),kp⟩
 obtain⟨f,y4,y5,y6,S',x3,s3,k3⟩:=p;refine⟨S1.length,S',?_,s3,((V.trans D)).old k3 λq hq _ z=>()⟩;unfold kC qA qt;dsimp[jC,kD,bools,kQ,Nat.reduceAdd,Nat.reduceSub,Su.vP,Ib,<- g,<- j,↓x3]
end K70
namespace K70
open PySem L2 Am
def vO{s:Src}{xs:ae}{src:Ic}{t:Te}{e:Ex}(hs:src τ S=.ok s S1)(hk:s.k=xs.length)(b:Nat->Prop)(hg:∀T,Kp b S1 T->∀i:Nat,i<xs.length->s.get i T=xs[i]?)(hfin:∀T,Kp b S1 T->s.fin T=true)(p:A->Bool)(f:A->A)
  (step:∀x∈xs,∀T,Kp b S1 T->∃T1,t (x::j3 cap τ) T=.ok (p x) T1/\Kp b T T1/\(p x=true->∃T2,e (x::j3 cap τ) T1=.ok (f x) T2/\Kp b T1 T2)) (hl:xs.length<=16777216) :
  ∃S',jx (none::cap) src (jz 0) t e τ S=.ok (.ref S'.length) (S'++[.lst<|(xs.filter p).map f])/\Kp b S1 S':=by
 have B:∀i,i<xs.length->xs.getD i .unb∈xs:=λi d=>by
  rw[aK,aH d];exact cU d
 obtain⟨S',h1,h2⟩:=vh (s:=s) (g:=jz 0) (t:=t) (e:=e) (P:=λT=>Kp b S1 T) (T:=λj=>∃y,j=y::j3 cap τ) (λi=>xs.getD i .unb) (λi=>p<|xs.getD i .unb) (λi=>f<|xs.getD i .unb) (λi T d h=>by
   rw[hk]at d;rw[hg T h i d,aK,aH d];rfl) hfin
  (λi j T d hy h=>by
   obtain⟨y,rfl⟩:=hy;rw[hk]at d;obtain⟨T1,e1,m,q⟩:=step _ (B i d) T h;refine⟨xs.getD i .unb::j3 cap τ,T,T1,rfl,e1,⟨_,rfl⟩,λ_=>h.trans m,λC=>?_⟩;obtain⟨T2,e2,D⟩:=q C;exact⟨T2,e2,(h.trans m).trans D⟩) s.k 0 (j3 (none::cap) τ) S1 rfl ⟨_,rfl⟩ Kp.refl
 refine⟨S',?_,h2⟩;unfold jx;rw[hs,R.ly,h1,R.jG,hk,<- e_,lI xs p f .unb];refine kH ?_;rw[aG];exact bJ (c8 _ _) hl
def Af{n:Nat}{xs:ae}{src:Ic}{t:Te}{e:Ex}(hs:src τ S=.ok (jP n xs.length) S1)(hx:iU S1 n=some xs)(p:A->Bool)(f:A->A)
  (step:∀x∈xs,∀T,j6 S1 T->∃T1,t (x::j3 cap τ) T=.ok (p x) T1/\j6 T T1/\(p x=true->∃T2,e (x::j3 cap τ) T1=.ok (f x) T2/\j6 T1 T2)) (hl:xs.length<=16777216) :
  ∃S',jx (none::cap) src (jz 0) t e τ S=.ok (.ref S'.length) (S'++[.lst<|(xs.filter p).map f])/\j6 S1 S':=
 vO hs rfl _ (λT k i _=>by show(iU T n).bind _=_;rw[k.lst _ _ (λz=>z) hx];rfl) (λT k=>by
  show(match iU T n with
   | some ys=>decide (ys.length<=xs.length)
   | none=>false)=true
  rw[k.lst _ _ (λz=>z) hx];exact aY<|aL _) p f step hl
theorem JE{st:A->A->A->iW->R Unit}{s:Src}{g:Tg}{ek ev:Ex}{n:Nat}(P:Nat->iW->Prop)(Q:ae->Prop)(step:∀i τ S,i<s.k->Q τ->P i S->∃x τ1 S1 y S3 z S4 S5,s.get i S=some x/\g x τ S=.ok τ1 S1/\Q τ1/\ek τ1 S1=.ok y S3/\ev τ1 S3=.ok z S4/\st (.ref n) y z S4=.ok Unit.unit S5/\P (i+1) S5)(hfin:∀S,P s.k S->s.fin S=true) :
  ∀k i τ S,k+i=s.k->Q τ->P i S->∃τ' S',wX st s g kL ek ev n k i τ S=.ok τ' S'/\P s.k S'
 | 0,i,τ,S,hk,hT,hP=>by
  have:i=s.k:=()
  subst this;exact⟨τ,S,by unfold wX;rw[aP<|hfin S hP],hP⟩
 | k+1,i,τ,S,hk,hT,hP=>by
  obtain⟨x,τ1,S1,y,S3,z,S4,S5,e1,e2,j,e3,e4,d,f⟩:=step i τ S () hT hP;obtain⟨τ',S',h1,h2⟩:=JE P Q step hfin k (i+1) τ1 S5 () j f;refine⟨τ',S',?_,h2⟩;unfold wX;rw[e1,jh,e2,R.jG];show((ek τ1 S1).mG _)=_;rw[e3,R.jG,e4,R.jG,d,R.jG,h1]
def Ss{n:Nat}{bs:List Bool}(h:iU S n=some xs)(hb:A.Jg xs=some bs):VA (.ref n) S=.ok (.bl<|bs.any λb=>b) S:=by
 show opt (iU S n) _=_;rw[h];show opt (A.Jg xs) _=_;rw[hb];rfl
def W9(b:Bool)(xs:ae):A.Jg (.bl b::xs)=(A.Jg xs).map (b::·):=rfl
theorem QG{α:Type}(f:α->Bool):∀(xs:List α),A.Jg (xs.map λx=>.bl<|f x)=some (xs.map f)
 | []=>rfl
 | x::xs=>by rw[bE,W9,QG f xs];rfl
abbrev hof (N:Nat)(a b:ag):Bool:=(fl a N).any λk=>!decide (k∈fl b N)
abbrev Rj:A->Int
 | .int k=>k
 | _=>0
def Vo(o:ag)(N:Nat)(hN:N<6):(fl o N).length<=6:=by
 unfold fl;refine bJ (c8 _ _) ?_;unfold kX;rw[aG,bM];lia
def SH{a b:ag}{N:Nat}(hN:N<6)(la:a.length=N)(lb:b.length=N):∃S',ju [.tup<|a.map .int,.tup<|b.map .int] S=.ok (.bl<|hof N a b) S'/\j6 S S':=by
 have fa:=qF (S:=S) (xs:=a) (n:=N) la ();obtain⟨S1,d⟩:∃S1,S1=S++[O.lst<|(fl a N).map .int]:=⟨_,rfl⟩;have p:j6 S S1:=by rw[d];kln_w
 have j:iU S1 S.length=some ((fl a N).map .int):=by rw[d];exact jk
 rw[<- d]at fa;have G:=Vo a N hN;obtain⟨S2,f,B⟩:=Af (cap:=[some 1]) (t:=kL) (e:=jc (Gu true) (iR 0)<|eFn jW<|iS (iR 1) ja) (τ:=[.tup<|a.map .int,.tup<|b.map .int]) (S:=S) (S1:=S1) (src:=kh<|eFn jW<|iS (iR 0) ja) (kJ (by dsimp[jC,kD,bools,fa]) j) j (λ_=>true) (λx=>.bl<|!decide (Rj x∈fl b N)) (λx C T D=>⟨T,rfl,Kp.refl,λ_=>by
  obtain⟨k,F,rfl⟩:=bf.mp C;have q:=qF (S:=T) (xs:=b) (n:=N) lb ();refine⟨T++[.lst<|(fl b N).map .int],?_,Kp.refl.lay⟩;have m:Gu true (.int k) (.ref T.length) (T++[.lst<|(fl b N).map .int])=.ok (.bl<|!decide (k∈fl b N)) (T++[.lst<|(fl b N).map .int]):=by
   show opt (iU _ _) _=_;rw[jk,jh,ud];rfl
  show jc (Gu true) (iR 0) (eFn jW<|iS (iR 1) ja) [.int k,.tup<|b.map .int] T=_;dsimp[jC,kD,bools,q,m];rfl⟩)<|by rw[aG];lia
 refine⟨S2++[O.lst<|(fl a N).map λk=>.bl<|!decide (k∈fl b N)],?_,(p.trans B).lay⟩;unfold ju nG nK;have hf:((List.map A.int<|fl a N).filter λ_=>true).map (λx=>A.bl<|!decide (Rj x∈fl b N))=(fl a N).map λk=>.bl (!decide (k∈fl b N)):=by
  rw[c7.mpr λ_ _=>rfl,bg];rfl
 rw[hf]at f;have g:=Ss (S:=S2++[O.lst<|(fl a N).map λk=>.bl<|!decide (k∈fl b N)]) jk<|QG (λk=>!decide (k∈fl b N))<|fl a N;rw[any_map]at g;dsimp[jC,kD,bools,kQ,Nat.reduceAdd,Nat.reduceSub,↓f,g];rfl
end K70
namespace K70
open PySem L2 Am
abbrev tq (o:ag):A:=.tup<|o.map .int
def uq(o:ag)(T:iW):uV (tq o) T=.ok (tq o) T:=rfl
def YJ{kvs:List<|ag×A}{k:ag}:(jK kvs k).isSome=decide (k∈kvs.map (·.1)):=by
 unfold jK;rw[dw]
 cases h:kvs.find? λkv=>decide (kv.1=k)with
 | none=>
  refine(bu λz=>?_).symm;obtain⟨p,d,e⟩:=bf.mp z;have:=eK.mp h p d;exact this<|aY e
 | some p=>
  refine(aY ?_).symm;have h1:=cD h;have h2:=eO h;have h2:=bH h2;exact bf.mpr ⟨p,h1,h2⟩
def A9{kvs:List<|ag×A}{k:ag}{v:A}(h:k∉kvs.map (·.1)):putD kvs k v=kvs++[(k,v)]:=by
 unfold putD;rw[YJ,aM<|by rw[gh];exact h]
def Uz{d:Nat}:JL (.ref d) (tq o) S=opt (j5 S d) λkvs=>opt (jK kvs o) λv=>.ok v S:=by
 show opt (j5 S d) (λkvs=>opt (A.ints<|o.map .int) λf=>_)=_;rw[ints_map];rfl
def LJ{d:Nat}:qU (.ref d) (tq o) S=opt (jj S d) λkvs=>opt (jK kvs o) λv=>.ok v S:=by
 show opt (jj S d) (λkvs=>opt (A.ints<|o.map .int) λf=>_)=_;rw[ints_map];rfl
def Sf{d:Nat}:IE false (tq o) (.ref d) S=opt (j5 S d) λkvs=>.ok (.bl (jK kvs o).isSome) S:=by
 show opt (j5 S d) (λkvs=>opt (A.ints<|o.map .int) λf=>_)=_;rw[ints_map];rfl
def Ub{d:Nat}(h:jj S d=some kvs):j5 S d=some kvs:=by
 unfold j5;rw[j_ h]
def Uj{d:Nat}{S:iW}(h:S[d]?=some (.dcf kvs)):j5 S d=some kvs:=by
 unfold j5;rw[h]
def tB{b:Nat->Prop}{d:Nat}(h:j5 S d=some kvs)(k:Kp b S S')(hb:¬b d):j5 S' d=some kvs:=by
 unfold j5 at h;split at h
 ·rename_i e;cases h;unfold j5;rw[k.obj _ _ hb e]
 ·rename_i e;cases h;unfold j5;rw[k.obj _ _ hb e]
 ·cases h
def Ef{n:Nat}{d:List<|ag×A}(h:j5 S n=some d)(h':iU S m=some xs):n≠m:=λz=>by
 subst z;unfold j5 at h;rw[ji h']at h
 cases h
structure Nx (S:iW)(d L:Nat)(os:List (ag))(nx:ag->List (ag)):Prop where
 ex:∃rs:List<|ag×Nat,j5 S d=some (rs.map λe=>(e.1,.ref e.2))/\rs.map (·.1)=os/\∀e∈rs,iU S e.2=some ((nx e.1).map tq)/\e.2<L
 lt:d<L
def Nx.kp{d L:Nat}{os:List<|ag}{nx:ag->List (ag)}{b:Nat->Prop}(h:Nx S d L os nx)(k:Kp b S S')(hb:∀n,n<L->¬b n):Nx S' d L os nx:=by
 obtain⟨g,h1,h2,h3⟩:=h.ex;exact⟨⟨g,tB h1 k<|hb _ h.lt,h2,λe f=>⟨k.lst _ _ (hb _ (h3 e f).2) (h3 e f).1,(h3 e f).2⟩⟩,h.lt⟩
def Hv{rs:List<|ag×Nat}{o:ag}(h:o∈rs.map (·.1)):∃e∈rs,e.1=o/\jK (rs.map λe=>(e.1,A.ref e.2)) o=some (.ref e.2):=by
 induction rs with
 | nil=>cases h
 | cons e rs d=>
  by_cases c:e.1=o
  ·exact⟨e,aO ..,c,zT (p:=(e.1,A.ref e.2)) c⟩
  ·rw[bE]at h;have h:=(bF.mp h).resolve_left λz=>c z.symm;obtain⟨g,f,e1,e2⟩:=d h;exact⟨g,aS _ f,e1,by rw[bE,zJ (p:=(e.1,A.ref e.2)) c];exact e2⟩
def Nx.ix{d L:Nat}{os:List<|ag}{nx:ag->List (ag)}(h:Nx S d L os nx){o:ag}(ho:o∈os):∃r,JL (.ref d) (tq o) S=.ok (.ref r) S/\iU S r=some ((nx o).map tq)/\r<L:=by
 obtain⟨g,h1,h2,h3⟩:=h.ex;rw[<- h2]at ho;obtain⟨e,f,rfl,e2⟩:=Hv ho;exact⟨e.2,by rw[Uz,h1,jh,e2,jh],(h3 e f).1,(h3 e f).2⟩
meta abbrev Os:=List<|ag
abbrev GY (s:Os×Os)(o:ag):Os×Os:=if o∈s.1 then s else(s.1++[o],s.2++[o])
abbrev pK (s:Os×Os)(l:Os):Os×Os:=l.foldl GY s
abbrev rf (os:Os)(nx:ag->Os):Nat->Os->Os->Option Os
 | 0,_,_=>none
 | f+1,R,W=>if R.length<1000/\W.length<1000/\∀o∈W,o∈os/\(nx o).length<1000 then match W.getLast? with
   | none=>some R
   | some h=>rf os nx f (pK (R,W.dropLast)<|nx h).1 (pK (R,W.dropLast)<|nx h).2
  else none
abbrev mk (R:Os):List (ag×A):=R.map λo=>(o,.bl true)
def Ay(R:Os):(mk R).map (·.1)=R:=by
 unfold mk;rw[bg];exact iA _
def Na(l:Os):∀(s:Os×Os),(pK s l).1.length<=s.1.length+l.length/\(pK s l).2.length<=s.2.length+l.length:=by
 induction l with
 | nil=>exact λs=>⟨aL _,aL _⟩
 | cons o l d=>
  intro s;have h:=d<|GY s o;have h1:(GY s o).1.length<=s.1.length+1/\(GY s o).2.length<=s.2.length+1:=by
   unfold GY;split
   ·exact⟨(),()⟩
   ·exact⟨by rw[bw];exact aL _,by rw[bw];exact aL _⟩
  show(pK (GY s o) l).1.length<=_/\(pK (GY s o) l).2.length<=_;rw[bN];exact⟨(),()⟩
abbrev Bq (r q:Nat)(n:Nat):Prop:=n=r\/n=q
def S9{d r q:Nat}{l R W:Os}{x:A}(hs:lJ [x,.ref d,.ref r,.ref q,h,y] S=.ok (jP m (l.map tq).length) S)(hm:iU S m=some (l.map tq))(mr:m≠q)(hr:jj S r=some (mk R))(hq:iU S q=some (W.map tq))(h1:R.length<1000)(h2:W.length<1000)(h3:l.length<1000) :
  ∃(y':A) (S':iW),kZ lJ (jz 5) nu [x,.ref d,.ref r,.ref q,h,y] S=.nx [x,.ref d,.ref r,.ref q,h,y'] S'/\jj S' r=some (mk (pK (R,W) l).1)/\iU S' q=some ((pK (R,W) l).2.map tq)/\Kp (Bq r q) S S':=by
 have F:r≠q:=Su.mD hr hq;have K:r≠m:=Su.mD hr hm;refine nO (n:=m) (xs:=l.map tq) (S1:=S) hs
  (λi τ T=>∃y',τ=[x,.ref d,.ref r,.ref q,h,y']/\i<=l.length/\jj T r=some (mk (pK (R,W)<|l.take i).1)/\iU T q=some ((pK (R,W)<|l.take i).2.map tq)/\Kp (Bq r q) S T)
  (λZ=>∃(y':A) (S':iW),Z=.nx [x,.ref d,.ref r,.ref q,h,y'] S'/\jj S' r=some (mk (pK (R,W) l).1)/\iU S' q=some ((pK (R,W) l).2.map tq)/\Kp (Bq r q) S S')
  ⟨_,rfl,bO _,by rw[gq];exact hr,by rw[gq];exact hq,Kp.refl⟩ (λi τ T z=>?_) ?_ ?_
 ·obtain⟨_,_,_,_,_,kp⟩:=z;exact kp.lst _ _ (λz=>z.elim (λz=>K z.symm) mr) hm
 ·rintro i z τ T C ⟨y',rfl,_,dT,g,kp⟩;rw[aR]at C;obtain⟨o,D,rfl⟩:=aW.mp C;have G:=(aJ.mp D).1;have bl:=Na (l.take i) (R,W);rw[b_]at bl;have t:(pK (R,W)<|l.take i).1.length<=R.length+min i l.length:=bl.1;have B:(pK (R,W)<|l.take i).2.length<=W.length+min i l.length:=bl.2;have st:pK (R,W) (l.take<|i+1)=GY (pK (R,W)<|l.take i) o:=by
   unfold pK;rw[bV,D,dz];rfl
  have k:IQ true (tq o) (.ref r) T=.ok (.bl<|!decide (o∈(pK (R,W)<|l.take i).1)) T:=by
   have:=Ku (d:=r) (S:=T) (o:=o);rw[dT,jh,YJ,Ay]at this;exact this
  refine⟨[x,.ref d,.ref r,.ref q,h,tq o],T,rfl,.inl ?_⟩;unfold nu;by_cases c:o∈(pK (R,W)<|l.take i).1
  ·rw[aY c]at k;refine⟨[x,.ref d,.ref r,.ref q,h,tq o],T,?_,_,rfl,G,?_,?_,kp⟩
   ·dsimp[jC,kD,bools,uq,k,bS]
   ·rw[st];unfold GY;rw[aP c];exact dT
   ·rw[st];unfold GY;rw[aP c];exact g
  ·rw[bu c]at k;obtain⟨f,p⟩:∃f,f=(pK (R,W)<|l.take i).1:=⟨_,rfl⟩;obtain⟨j,J⟩:∃j,j=(pK (R,W)<|l.take i).2:=⟨_,rfl⟩;rw[<- p]at dT c t;rw[<- J]at g B;have e1:oV (.ref r) (tq o) (.bl true) T=.ok Unit.unit (T.set r<|.dct<|mk<|f++[o]):=by
    have:=Su.se (n:=r) (o:=o) (v:=.bl true) (S:=T);rw[dT,jh,A9<|by rw[Ay];exact c]at this;refine this.trans ?_;rw[tH<|by unfold mk;rw[aG];lia];unfold mk;rw[bC];rfl
   have L:iU (T.set r<|.dct<|mk<|f++[o]) q=some (j.map tq):=by
    refine lY ?_;rw[bK F];exact ji g
   have lt:r<T.length:=Su.rJ dT;have M:q<(T.set r<|.dct<|mk<|f++[o]).length:=by rw[bW];exact mj g
   refine⟨[x,.ref d,.ref r,.ref q,h,tq o],(T.set r<|.dct<|mk<|f++[o]).set q<|.lst<|(j++[o]).map tq,?_,_,rfl,G,?_,?_,(kp.sM<|.inl<|.inl rfl).sM<|.inl<|.inr rfl⟩
   ·rw[bC];dsimp[jC,kD,bools,uq,k,cQ,Su.xr,e1,L,tH<|show(j.map tq).length<16777216 by rw[aG];lia];rfl
   ·rw[st];have:(GY (pK (R,W)<|l.take i) o).1=f++[o]:=by unfold GY;rw[aM<|by rw[<- p];exact c,p]
    rw[this];refine pN ?_;rw[bK<|cT F,bz lt]
   ·have:(GY (pK (R,W)<|l.take i) o).2=j++[o]:=by unfold GY;rw[aM<|by rw[<- p];exact c,J]
    rw[st,this];refine lY ?_;rw[bz M]
 ·rintro τ T ⟨y',rfl,_,dT,g,kp⟩;rw[aG,bX]at dT g;exact⟨y',T,rfl,dT,g,kp⟩
end K70
namespace K70
open PySem L2 Am
def Vm{S:iW}{q:Nat}{W:Os}(hq:iU S q=some (W.map tq))(hl:W.getLast?=some h):To (.ref q) [] S=.ok (tq h) (S.set q<|.lst<|W.dropLast.map tq):=by
 show opt (iU S q) _=_;rw[hq,jh];show opt ((W.map tq)[(W.map tq).length-1]?) _=_;rw[<- List.getLast?_eq_getElem?,List.getLast?_map,hl];show R.ok (tq h) (S.set q<|.lst (W.map tq).dropLast)=_;rw[List.map_dropLast]
theorem Kz{d r q L:Nat}{os:Os}{nx:ag->Os}{x:A}(hrL:L<=r)(hqL:L<=q):∀(f n:Nat) {S:iW}{R W:Os}{y4 y5:A},f<=n->rf os nx f R W=some res->Nx S d L os nx->jj S r=some (mk R)->iU S q=some (W.map tq) ->
  ∃(y4' y5':A) (S':iW),kI jH jQ n [x,.ref d,.ref r,.ref q,y4,y5] S=.nx [x,.ref d,.ref r,.ref q,y4',y5'] S'/\jj S' r=some (mk res)/\Kp (Bq r q) S S'
 | 0,_,_,_,_,_,_,_,h,_,_,_=>nomatch h
 | f+1,0,_,_,_,_,_,hn,_,_,_,_=>absurd hn (Nat.not_succ_le_zero _)
 | f+1,n+1,S,R,W,y4,y5,hn,h,hN,hr,hq=>by
  unfold rf at h;split at h
  case isFalse=>cases h
  rename_i g;obtain⟨Z,g2,T⟩:=g;have K:=zh hq
  cases D:W.getLast? with
  | none=>
   rw[D]at h
   cases h
   have:W=[]:=List.getLast?_eq_none_iff.mp D;subst this;refine⟨y4,y5,S,?_,hr,Kp.refl⟩;unfold kI;have t0:jH [x,.ref d,.ref r,.ref q,y4,y5] S=.ok false S:=by
    unfold jH;dsimp[jC,kD,bools,K];rfl
   rw[t0];rfl
  | some t=>
   rw[D]at h;have k:t∈W:=List.mem_of_getLast? D;obtain⟨V,hl⟩:=T t k;have F:W≠[]:=λz=>by rw[z]at k;cases k
   have Y:r≠q:=Su.mD hr hq;have e1:=Vm hq D;obtain⟨S1,p⟩:∃S1,S1=S.set q (O.lst<|W.dropLast.map tq):=⟨_,rfl⟩;rw[<- p]at e1;have P:Kp (Bq r q) S S1:=by rw[p];exact Kp.refl.sM (.inl<|.inr rfl)
   have B:Kp (·=q) S S1:=by rw[p];exact Kp.refl.sM (.inl rfl)
   have q1:iU S1 q=some (W.dropLast.map tq):=lY (by rw[p,bz<|mj hq]);have r1:=B.dct _ _ Y hr;have N1:=hN.kp B λn hn z=>()
   obtain⟨m,G,M,mL⟩:=N1.ix V;obtain⟨J,S2,N,U,l2,k2⟩:=S9 (x:=x) (h:=tq t) (y:=y5) (show lJ [x,.ref d,.ref r,.ref q,tq t,y5] S1=.ok (jP m ((nx t).map tq).length) S1 from kJ (by dsimp[jC,kD,bools,uq,G]) M) M () r1 q1 Z (by rw[List.length_dropLast];lia) hl;have C:=P.trans k2;obtain⟨y4',y5',S3,x3,d3,k3⟩:=Kz hrL hqL f n (x:=x) (y4:=tq t) (y5:=J) () h (hN.kp C λn hn z=>z.elim (λz=>()) λz=>()) U l2;refine⟨y4',y5',S3,?_,d3,C.trans k3⟩;unfold kI;have t0:jH [x,.ref d,.ref r,.ref q,y4,y5] S=.ok true S:=by
    unfold jH;dsimp[jC,kD,bools,K]
    cases W with
    | nil=>exact absurd rfl F
    | cons _ _=>rfl
   have b0:jQ [x,.ref d,.ref r,.ref q,y4,y5] S=.nx [x,.ref d,.ref r,.ref q,tq t,J] S2:=by
    unfold jQ;have lq:(A.ref q).lst? S=some (W.map tq):=hq;dsimp[jC,kD,bools,lq,e1,↓N]
   rw[t0];show(match jQ _ S with
    | .nx j S'=>kI jH jQ n j S'
    | .ct j S'=>kI jH jQ n j S'
    | .bk j S'=>.nx j S'
    | r=>r)=_
   rw[b0];exact x3
def Ky{ck cv:Ex}{S2:iW}{v:A}(h1:ck τ S=.ok (tq o) S1)(h2:cv τ S1=.ok v S2):FJ ck cv τ S=.ok (.ref S2.length) (S2++[.dct [(o,v)]]):=by
 unfold FJ;rw[h1,R.ly,h2,R.ly];show opt (A.ints<|o.map .int) _=_;rw[ints_map];rfl
def Ed{d L:Nat}{os:Os}{nx:ag->Os}{f:Nat}{S:iW}{o:ag}(hf:f<=1000000)(h:rf os nx f [o] [o]=some res)(hN:Nx S d L os nx)(hL:L<=S.length) :
  ∃(r:Nat) (S':iW),j7 [tq o,.ref d] S=.ok (.ref r) S'/\jj S' r=some (mk res)/\S.length<=r/\j6 S S':=by
 obtain⟨S1,g⟩:∃S1,S1=S++[O.dct [(o,.bl true)]]:=⟨_,rfl⟩;have t:j6 S S1:=by rw[g];kln_w
 have p:jj S1 S.length=some (mk [o]):=by rw[g];exact Su.mV
 have J:S1.length=S.length+1:=by rw[g,bw];rfl
 obtain⟨S2,j⟩:∃S2,S2=S1++[O.lst [tq o]]:=⟨_,rfl⟩;have m:j6 S1 S2:=by rw[j];kln_w
 have B:iU S2 S1.length=some ([o].map tq):=by rw[j];exact jk
 have C:=m.dct _ _ (λz=>z) p;have k:=t.trans m;obtain⟨y4,y5,S3,D,F,G⟩:=Kz (r:=S.length) (q:=S1.length) (x:=tq o) (y4:=.unb) (y5:=.unb) hL () f 1000000 hf h (hN.kp k λ_ _ z=>z) C B;refine⟨S.length,S3,?_,F,aL _,k.old G λn hn _ z=>z.elim (λz=>()) λz=>()⟩;unfold j7 pL pM;have e0:=Ky (ck:=iR 0) (cv:=eC<|.bl true) (τ:=[tq o,.ref d,.unb,.unb,.unb,.unb]) (S:=S) (S1:=S) (S2:=S) (o:=o) (v:=.bl true) (by dsimp[jC,kD,uq]) rfl;rw[<- g]at e0;dsimp[jC,kD,bools,kQ,Nat.reduceAdd,Nat.reduceSub,e0,uq,F9,<- j,↓D]
end K70
namespace K70
open PySem L2 Am
def XU{x w:ag}:u7 false (tq x) (tq w) S=.ok (.bl<|decide<|x=w) S:=RC (by
 show rX (uG S 11) (x.map .int) (w.map .int)=_;exact qO x w)
theorem HB:∀{ls:List<|ag},(∀l∈ls,l≠[])->VH (ls.map tq)=some ls
 | [],_=>rfl
 | l::ls,h=>by
  have d:=h l<|aO ..;have g:=HB λk f=>h k<|aS _ f;show VH (.tup (l.map .int)::ls.map tq)=_;unfold VH;rw[ints_map]
  cases l with
  | nil=>exact absurd rfl d
  | cons k ks=>dsimp only;rw[g];rfl
def OA{S:iW}{n:Nat}{ls:List<|ag}(h:iU S n=some (ls.map tq))(hne:∀l∈ls,l≠[])(hl:ls.length<64):BO (.ref n) S=.ok (.ref S.length) (S++[.lst<|(jD ls).map tq]):=by
 show opt (iU S n) _=_;rw[h,jh,HB hne,jh,IK hl];rfl
abbrev ev (es:List<|ag×Nat):List (ag×A):=es.map λe=>(e.1,.ref e.2)
def w9(es:List<|ag×Nat):(ev es).map (·.1)=es.map (·.1):=by unfold ev;rw[bg];rfl
def Ew{S:iW}{d:Nat}(h:jj S d=some kvs):j5 (S.set d<|.dcf kvs) d=some kvs:=Uj<|by rw[bz<|Su.rJ h]
def Nx.fz{S:iW}{d L:Nat}{os:Os}{nx:ag->Os}{rs:List<|ag×Nat}(h:jj S d=some (ev rs))(h2:rs.map (·.1)=os)(h3:∀e∈rs,iU S e.2=some ((nx e.1).map tq)/\e.2<L)(hd:d<L):Nx (S.set d<|.dcf<|ev rs) d L os nx:=
 ⟨⟨rs,Ew h,h2,λe f=>⟨lY<|by rw[bK<|Su.mD h (h3 e f).1];exact ji (h3 e f).1,(h3 e f).2⟩⟩,hd⟩
def Wo{S:iW}{d f:Nat}{os:Os}{nx rc:ag->Os}{rs:List<|ag×Nat}(h:jj S d=some (ev rs))(h2:rs.map (·.1)=os)(h3:∀e∈rs,iU S e.2=some ((nx e.1).map tq))(nd:os.Nodup)(ln:os.length<=1000)(hf:f<=1000000)(hrc:∀o∈os,rf os nx f [o] [o]=some (rc o)) :
  ∃(S':iW) (es:List<|ag×Nat),Q6 (.dct []) oV [none,some 0] (DC<|iR 0) (jz 0) kL (iR 0) (eFn j7<|iS (iR 0)<|iS (iR 1) ja) [.ref d,x1,x2,x3,x4] S=.ok (.ref S.length) S'/\jj S' S.length=some (ev es)/\es.map (·.1)=os/\(∀e∈es,jj S' e.2=some (mk<|rc e.1)/\S.length<e.2)/\(es.map (·.2)).Nodup/\j5 S' d=some (ev rs)/\Kp (·=d) S S':=by
 have V:=Su.rJ h;have L:=Nx.fz h h2 (λe q=>⟨h3 e q,mj<|h3 e q⟩) V;obtain⟨S1,m⟩:∃S1,S1=S.set d (O.dcf<|ev rs):=⟨_,rfl⟩;rw[<- m]at L;have G:S1.length=S.length:=by rw[m,bW]
 have M:Kp (·=d) S S1:=by rw[m];exact Kp.refl.sM (.inl rfl)
 have F:j5 S1 d=some (ev rs):=by rw[m];exact Ew h
 have hs:DC (iR 0) [.ref d,x1,x2,x3,x4] S=.ok (oG<|os.map tq) S1:=by
  unfold DC;show opt (jj S d) _=_;rw[h,jh,<- m];have:(ev rs).map XQ=os.map tq:=by rw[<- h2];unfold ev;rw[bg,bg];rfl
  rw[this]
 obtain⟨S2,p⟩:∃S2,S2=S1++[O.dct []]:=⟨_,rfl⟩;have J:j6 S1 S2:=by rw[p];kln_w
 have l2:S2.length=S.length+1:=by rw[p,bw,G];rfl
 have W:jj S2 S.length=some (ev []):=by rw[p,<- G];exact Su.mV
 obtain⟨N,S',e1,es,p1,p2,p3,p4,t⟩:=JE (st:=oV) (s:=oG<|os.map tq) (g:=jz 0) (ek:=iR 0) (ev:=eFn j7<|iS (iR 0)<|iS (iR 1) ja) (n:=S.length)
  (λi T=>∃es:List<|ag×Nat,jj T S.length=some (ev es)/\es.map (·.1)=os.take i/\(∀e∈es,jj T e.2=some (mk<|rc e.1)/\S.length<e.2)/\(es.map (·.2)).Nodup/\Kp (·=S.length) S2 T) (λτ=>∃y,τ=[y,.ref d]) (λi τ T B hq hP=>by
   obtain⟨y,rfl⟩:=hq;obtain⟨es,p1,p2,p3,p4,t⟩:=hP;have B:i<(os.map tq).length:=B;rw[aG]at B;have Y:os[i]∈os:=cU B;have Z:Nx T d S.length os nx:=(L.kp J λ_ _ z=>z).kp t λn hn z=>()
   have tl:=t.len;obtain⟨r,T1,x1,q1,q2,K⟩:=Ed hf (hrc _ Y) Z ();have C:=K.dct _ _ (λz=>z) p1;have new:os[i]∉(ev es).map (·.1):=by
    rw[w9,p2];intro z;obtain⟨j,P,e⟩:=cu.mp z;rw[List.getElem_take]at e;have lj:j<i:=by rw[b_]at P;lia
    have:=(cH nd).mp e
    lia
   have U:oV (.ref S.length) (tq os[i]) (.ref r) T1=.ok Unit.unit (T1.set S.length<|.dct<|ev<|es++[(os[i],r)]):=by
    have:=Su.se (n:=S.length) (o:=os[i]) (v:=.ref r) (S:=T1);rw[C,jh,A9 new]at this;refine this.trans ?_;have le:es.length=i:=by have:=cW List.length p2;rw[aG,b_]at this;lia
    rw[tH<|by unfold ev;rw[aG];lia];unfold ev;rw[bC];rfl
   have D:Kp (·=S.length) T1 (T1.set S.length<|.dct<|ev<|es++[(os[i],r)]):=Kp.refl.sM<|.inl rfl;refine⟨tq os[i],[tq os[i],.ref d],T,tq os[i],T,.ref r,T1,_,?_,rfl,⟨_,rfl⟩,rfl,?_,U,es++[(os[i],r)],?_,?_,λe q=>?_,?_,(t.trans K.of0).trans D⟩
   ·show(os.map tq)[i]?=_;rw[aR,aH B];rfl
   ·dsimp[jC,kD,bools,uq,x1]
   ·exact pN (by rw[bz<|Su.rJ C])
   ·rw[bC,p2,bV,aH B];rfl
   ·rcases bI.mp q with z|z
    ·have:=p3 e z;exact⟨D.dct _ _ ()<|K.dct _ _ (λz=>z) this.1,this.2⟩
    ·rw[aX.mp z];exact⟨D.dct _ _ (by show ¬r=S.length;lia) q1,by show S.length<r;lia⟩
   ·rw[bC,cO];refine⟨p4,cR.mpr ⟨(λz=>nomatch z),cP⟩,λa ha b hb z=>?_⟩;obtain⟨e,q,rfl⟩:=bf.mp ha;rw[aX.mp hb]at z;have:=Su.rJ (p3 e q).1;have z:e.2=r:=z
    lia) (λ_ _=>rfl) (os.map tq).length 0 (j3 [none,some 0] [.ref d,x1,x2,x3,x4]) S2 rfl ⟨_,rfl⟩ ⟨[],W,rfl,(nofun),cP,Kp.refl⟩
 refine⟨S',es,?_,p1,?_,p3,p4,tB (tB F J λz=>z) t (),(M.trans J.of0).old t λn hn _ z=>()⟩
 ·unfold Q6;rw[hs,R.ly,<- p,G];show(wX _ _ _ _ _ _ _ (os.map tq).length 0 _ _).mG _=_;rw[e1];rfl
 ·have:(oG<|os.map tq).k=os.length:=aG ..;rw[this,bX]at p2;exact p2
end K70
namespace K70
open PySem L2 Am
structure Hs (S:iW)(n L:Nat)(gs:List Os):Prop where
 ex:∃hs:List<|Os×Nat,iU S n=some (hs.map λh=>.ref h.2)/\hs.map (·.1)=gs/\∀h∈hs,iU S h.2=some (h.1.map tq)/\L<h.2
abbrev un:A->ag
 | .tup xs=>xs.map Rj
 | _=>[]
def zj(o:ag):un (tq o)=o:=by
 show(o.map A.int).map Rj=o;rw[bg];exact iA _
abbrev B8 (rc:ag->Os)(o:ag):Os:=jD<|(rc o).filter λp=>decide<|o∈rc p
abbrev hq (rc:ag->Os)(o:ag):Bool:=decide<|(B8 rc o).head?=some o
def XI{T:iW}{d D H:Nat}{es:List<|ag×Nat}{os:Os}{rc:ag->Os}{xs:ae}{e:ag×Nat}(h1:jj T D=some (ev es))(h2:es.map (·.1)=os)(h3:∀e∈es,j5 T e.2=some (mk<|rc e.1))(he:e∈es)(nd:os.Nodup)(h4:jj T e.2=some (mk<|rc e.1))(h5:iU T H=some xs)(lx:xs.length<1000)(sub:∀p∈rc e.1,p∈os/\p≠[])(lr:(rc e.1).length<=63)(ne:B8 rc e.1≠[])(De:D≠e.2) :
  ∃(r:Nat) (T':iW),mQ [.ref d,.ref D,.ref H,tq e.1,y] T=.nx [.ref d,.ref D,.ref H,tq e.1,.ref r] T'/\iU T' r=some ((B8 rc e.1).map tq)/\T.length<=r/\iU T' H=some (xs++if hq rc e.1=true then[.ref r]else[])/\j5 T' e.2=some (mk<|rc e.1)/\Kp (λn=>n=e.2\/n=H) T T':=by
 have look:∀p∈os,∃f∈es,f.1=p/\jK (ev es) p=some (.ref f.2):=λp M=>Hv (by rw[h2];exact M);have ee:jK (ev es) e.1=some (.ref e.2):=by
  obtain⟨f,C,P,U⟩:=look e.1 (by rw[<- h2];exact bf.mpr ⟨e,he,rfl⟩);have:f=e:=by
   rw[<- h2]at nd;unfold List.Nodup at nd;rw[cj]at nd;obtain⟨i,hi,rfl⟩:=cu.mp C;obtain⟨j,Z,rfl⟩:=cu.mp he
   rcases Nat.lt_trichotomy i j with c|c|c
   ·exact absurd P (cC.mp nd i j hi Z c)
   ·subst c;rfl
   ·exact absurd P.symm<|cC.mp nd j i Z hi c
  rw[U,this]
 obtain⟨T1,g⟩:∃T1,T1=T.set e.2 (O.dcf<|mk<|rc e.1):=⟨_,rfl⟩;have L:Kp (·=e.2) T T1:=by rw[g];exact Kp.refl.sM (.inl rfl)
 have l1:T1.length=T.length:=by rw[g,bW]
 have d1:=L.dct _ _ De h1;have He:H≠e.2:=λz=>Su.mD h4 h5 z.symm;have c1:∀f∈es,j5 T1 f.2=some (mk<|rc f.1):=λf C=>by
  by_cases c:f.2=e.2
  ·have:mk (rc f.1)=mk (rc e.1):=by
    have a:=h3 f C;rw[c,h3 e he]at a;exact(aZ a).symm
   rw[c,this,g];exact Ew h4
  ·exact tB (h3 f C) L c
 have V:qU (.ref D) (tq e.1) T=.ok (.ref e.2) T:=by rw[LJ,h1,jh,ee,jh]
 have hs:DC (jc qU (iR 1)<|iR 3) [.ref d,.ref D,.ref H,tq e.1,y] T=.ok (oG<|(rc e.1).map tq) T1:=by
  unfold DC;have:jc qU (iR 1) (iR 3) [.ref d,.ref D,.ref H,tq e.1,y] T=.ok (.ref e.2) T:=by dsimp[jC,kD,uq,V]
  rw[this,R.ly];show opt (jj T e.2) _=_;rw[h4,jh,<- g];have:(mk<|rc e.1).map XQ=(rc e.1).map tq:=by unfold mk;rw[bg];rfl
  rw[this]
 have cf:=MB (cap:=[some 3,some 1]) (t:=qP<|jc (IE false) (iR 1)<|jc qU (iR 2)<|iR 0) (e:=iR 0) hs (λx=>decide<|e.1∈rc (un x)) (λx=>x) (λx Y=>by
  obtain⟨p,M,rfl⟩:=bf.mp Y;obtain⟨f,C,P,U⟩:=look p (sub p M).1;subst P;have i1:qU (.ref D) (tq f.1) T1=.ok (.ref f.2) T1:=by rw[LJ,d1,jh,U,jh]
  have i2:IE false (tq e.1) (.ref f.2) T1=.ok (.bl<|decide<|e.1∈rc f.1) T1:=by rw[Sf,c1 f C,jh,YJ,Ay]
  rw[zj];show qP (jc (IE false) (iR 1)<|jc qU (iR 2)<|iR 0) [tq f.1,tq e.1,.ref D] T1=_;dsimp[jC,kD,bools,uq,i1,i2]) (λx Y _=>by
  obtain⟨p,M,rfl⟩:=bf.mp Y;show iR 0 (tq p::_) T1=_;dsimp[jC,kD,uq])<|by rw[aG];lia
 have el:((((rc e.1).map tq).filter λx=>decide<|e.1∈rc (un x)).map λx=>x)=((rc e.1).filter λp=>decide<|e.1∈rc p).map tq:=by
  rw[map_id',fR];congr 1;refine List.filter_congr λp _=>?_;show decide (e.1∈rc (un<|tq p))=_;rw[zj]
 rw[el]at cf;obtain⟨T2,B⟩:∃T2,T2=T1++[O.lst<|((rc e.1).filter λp=>decide<|e.1∈rc p).map tq]:=⟨_,rfl⟩;have k2:j6 T1 T2:=by rw[B];kln_w
 have N:=OA (S:=T2) (n:=T1.length) (ls:=(rc e.1).filter λp=>decide<|e.1∈rc p) (by rw[B];exact jk) (λl hl=>(sub l (cA.mp hl).1).2)<|dP (c8 _ _) ();rw[<- B]at cf;obtain⟨T3,q⟩:∃T3,T3=T2++[O.lst<|(B8 rc e.1).map tq]:=⟨_,rfl⟩;have N:BO (.ref T1.length) T2=.ok (.ref T2.length) T3:=by rw[q];exact N
 have k3:j6 T2 T3:=by rw[q];kln_w
 have W:iU T3 T2.length=some ((B8 rc e.1).map tq):=by rw[q];exact jk
 have m:=k2.trans k3;have H3:iU T3 H=some xs:=m.lst _ _ (λz=>z)<|L.lst _ _ He h5;have c3:j5 T3 e.2=some (mk<|rc e.1):=tB (c1 e he) m λz=>z;have F:Kp (λn=>n=e.2\/n=H) T T3:=(L.mono λ_ _ z=>.inl z).trans m.of0;have J:T.length<=T2.length:=by have:=k2.len;lia
 have lH:=mj h5;obtain⟨a,t,ha⟩:∃a t,B8 rc e.1=a::t:=by
  cases c:B8 rc e.1 with
  | nil=>exact absurd c ne
  | cons a t=>exact⟨a,t,rfl⟩
 have G:iU T3 T2.length=some (tq a::t.map tq):=by rw[W,ha];rfl
 have k:=XU (S:=T3) (x:=a) (w:=e.1);have K:hq rc e.1=decide (a=e.1):=by
  unfold hq;rw[ha];exact ef.mpr ⟨λz=>aZ z,λz=>by rw[z];rfl⟩
 by_cases c:a=e.1
 ·have k4:Kp (λn=>n=e.2\/n=H) T3 (T3.set H<|.lst<|xs++[.ref T2.length]):=Kp.refl.sM<|.inl<|.inr rfl;refine⟨T2.length,T3.set H<|.lst<|xs++[.ref T2.length],?_,lY<|by rw[bK ()];exact ji W,J,?_,tB c3 (show Kp (·=H) T3 _ from Kp.refl.sM<|.inl rfl)<|cT He,F.trans k4⟩
  ·unfold mQ;rw[aY c]at k;dsimp[jC,kD,bools,↓cf,N,G,wJ,uq,k,H3,tH<|show xs.length<16777216 by lia]
  ·rw[K,aP<|aY c];exact lY<|by rw[bz<|mj H3]
 ·refine⟨T2.length,T3,?_,W,J,?_,c3,F⟩
  ·unfold mQ;rw[bu c]at k;dsimp[jC,kD,bools,↓cf,N,G,wJ,uq,k]
  ·rw[K,aM<|by rw[gh];exact c,b9];exact H3
end K70
namespace K70
open PySem L2 Am
abbrev QY (os:Os)(rc:ag->Os):List Os:=((jD os).filter<|hq rc).map<|B8 rc
def Lu{S:iW}{d:Nat}{kvs:List<|ag×A}(h:j5 S d=some kvs)(hne:∀k∈kvs.map (·.1),k≠[])(hl:kvs.length<64):BX (.ref d) S=.ok (.ref S.length) (S++[.lst<|(jD<|kvs.map (·.1)).map tq]):=by
 show opt (j5 S d) _=_;rw[h,jh,IK<|Lh hne<|by rw[aG];exact hl];rfl
def Ct{S:iW}{d f:Nat}{os:Os}{nx rc:ag->Os}{rs:List<|ag×Nat}(h:jj S d=some (ev rs))(h2:rs.map (·.1)=os)(h3:∀e∈rs,iU S e.2=some ((nx e.1).map tq))(nd:os.Nodup)(ln:os.length<=63)(hf:f<=1000000)(hrc:∀o∈os,rf os nx f [o] [o]=some (rc o))(hne:∀o∈os,o≠[])
  (sub:∀o∈os,(∀p∈rc o,p∈os)/\(rc o).length<=63/\B8 rc o≠[]) :
  ∃(r:Nat) (S':iW),pP [.ref d] S=.ok (.ref r) S'/\Hs S' r r (QY os rc)/\S.length<=r/\Kp (·=d) S S':=by
 obtain⟨S1,es,x1,d1,e1,e2,e3,e4,k1⟩:=Wo (x1:=.unb) (x2:=.unb) (x3:=.unb) (x4:=.unb) h h2 h3 nd () hf hrc;have sl1:S.length<S1.length:=Su.rJ d1;obtain⟨S2,K⟩:∃S2,S2=S1++[O.lst []]:=⟨_,rfl⟩;have k2:j6 S1 S2:=by rw[K];kln_w
 have l2:iU S2 S1.length=some []:=by rw[K];exact jk
 have sl2:S2.length=S1.length+1:=by rw[K,bw];rfl
 have c2:=tB e4 k2 λz=>z;have sf:=Lu c2 (by rw[w9,h2];exact hne) (by rw[show(ev rs).length=os.length from by rw[<- h2,aG];exact aG ..];lia);rw[w9,h2]at sf;obtain⟨S3,M⟩:∃S3,S3=S2++[O.lst<|(jD os).map tq]:=⟨_,rfl⟩;rw[<- M]at sf;have k3:j6 S2 S3:=by rw[M];kln_w
 have m3:iU S3 S2.length=some ((jD os).map tq):=by rw[M];exact jk
 have J:=k2.trans k3;have ps:=jy os;have nds:(jD os).Nodup:=ps.nodup_iff.mpr nd;have lso:(jD os).length=os.length:=ps.length_eq;have V:∃(C B:A) (S':iW),kZ rH (jz 3) mQ [.ref d,.ref S.length,.ref S1.length,.unb,.unb] S2=.nx [.ref d,.ref S.length,.ref S1.length,C,B] S'/\Hs S' S1.length S1.length (QY os rc)/\Kp (λn=>S.length<=n) S3 S':=by
  refine nO (n:=S2.length) (xs:=(jD os).map tq) (S1:=S3) (show rH _ _=_ from kJ (by dsimp[jC,kD,bools,sf]) m3)
   (λi τ T=>∃(C B:A) (hs:List<|Os×Nat),τ=[.ref d,.ref S.length,.ref S1.length,C,B]/\i<=(jD os).length/\jj T S.length=some (ev es)/\(∀e∈es,j5 T e.2=some (mk<|rc e.1))/\(∀e∈es,e.1∈(jD os).drop i->jj T e.2=some (mk<|rc e.1))/\iU T S1.length=some (hs.map λh=>.ref h.2)/\hs.map (·.1)=(((jD os).take i).filter<|hq rc).map (B8 rc)/\hs.length<=i/\(∀h∈hs,iU T h.2=some (h.1.map tq)/\S1.length<h.2)/\iU T S2.length=some ((jD os).map tq)/\Kp (λn=>S.length<=n) S3 T)
   (λZ=>∃(C B:A) (S':iW),Z=.nx [.ref d,.ref S.length,.ref S1.length,C,B] S'/\Hs S' S1.length S1.length (QY os rc)/\Kp (λn=>S.length<=n) S3 S')
   ⟨_,_,[],rfl,bO _,J.dct _ _ (λz=>z) d1,(λe t=>Ub<|J.dct _ _ (λz=>z) (e2 e t).1),(λe t _=>J.dct _ _ (λz=>z) (e2 e t).1),k3.lst _ _ (λz=>z) l2,by rw[gq];rfl,bO _,(nofun),m3,Kp.refl⟩ (λi τ T z=>?_) ?_ ?_
  ·obtain⟨_,_,_,_,_,_,_,_,_,_,_,_,m,_⟩:=z;exact m
  ·rintro i z τ T hz ⟨C,B,hs,rfl,_,i1,L,i3,i4,Y,i6,i7,i8,kp⟩;rw[aR]at hz;obtain⟨o,U,rfl⟩:=aW.mp hz;have hi:=(aJ.mp U).1;have oso:o∈jD os:=bB U;have P:o∈os:=ps.mem_iff.mp oso;have:o∈es.map (·.1):=by rw[e1];exact P
   obtain⟨e,t,rfl⟩:=bf.mp this;have dr:e.1∈(jD os).drop i:=cu.mpr ⟨0,by rw[List.length_drop];lia,by rw[List.getElem_drop];exact(aJ.mp U).2⟩;have sb:=sub e.1 P;obtain⟨r,T1,b1,b2,b3,b4,b5,b6⟩:=XI (d:=d) (y:=B) i1 e1 L t nd (i3 e t dr) i4 (by rw[aG];lia) (λp hp=>⟨sb.1 p hp,hne p<|sb.1 p hp⟩) sb.2.1 sb.2.2 (by have:=(e2 e t).2;lia);have eH:∀k∈es,k.2≠S1.length:=λk F z=>by
    have:=Ef (L k F) i4;exact this z
   have N:Kp (λn=>n=e.2\/n=S1.length) T T1:=b6;have tl:=kp.len;have tl3:S2.length<S3.length:=mj m3;refine⟨[.ref d,.ref S.length,.ref S1.length,tq e.1,B],T,rfl,.inl ⟨_,T1,b1,_,_,hs++(if hq rc e.1=true then[(B8 rc e.1,r)]else[]),rfl,hi,?_,?_,?_,?_,?_,?_,?_,?_,?_⟩⟩
   ·exact N.dct _ _ (λz=>z.elim (λz=>by have:=(e2 e t).2;lia) λz=>()) i1
   ·intro k F;by_cases c:k.2=e.2
    ·have a:=L k F;rw[c,L e t]at a;rw[c,b5];exact a
    ·exact tB (L k F) N λz=>z.elim c<|eH k F
   ·intro k F D;have ne:k.2≠e.2:=λc=>by
     have W:k≠e:=λz=>by
      rw[z]at D;obtain⟨j,hj,ej⟩:=cu.mp D;rw[List.getElem_drop,<- (aJ.mp U).2]at ej;have:=(cH nds).mp ej
      lia
     have G:=e3;unfold List.Nodup at G;rw[cj]at G;obtain⟨a,ha,rfl⟩:=cu.mp F;obtain⟨b,hb,rfl⟩:=cu.mp t
     rcases Nat.lt_trichotomy a b with q|q|q
     ·exact absurd c (cC.mp G a b ha hb q)
     ·subst q;exact W rfl
     ·exact absurd c.symm<|cC.mp G b a hb ha q
    have dr2:k.1∈(jD os).drop i:=by
     rw[<- List.drop_drop]at D;exact List.mem_of_mem_drop D
    exact N.dct _ _ (λz=>z.elim ne<|eH k F)<|i3 k F dr2
   ·rw[b4,bC];by_cases c:hq rc e.1=true
    ·rw[aP c,aP c];rfl
    ·rw[aM c,aM c];rfl
   ·rw[bC,Y,bV,U,List.filter_append,bC];congr 1;show _=((([e.1]:Os).filter<|hq rc).map<|B8 rc);by_cases c:hq rc e.1=true
    ·rw[aP c,fq,aP c];rfl
    ·rw[aM c,fq,aM c];rfl
   ·rw[bw];split
    ·show hs.length+1<=i+1;lia
    ·show hs.length+0<=i+1;lia
   ·intro g hg
    rcases bI.mp hg with z|z
    ·have:=i7 g z;refine⟨N.lst _ _ (λw=>w.elim (λw=>?_) λw=>()) this.1,this.2⟩;exact Ef (L e t) this.1 w.symm
    ·split at z
     ·rw[aX.mp z];exact⟨b2,by show S1.length<r;lia⟩
     ·cases z
   ·exact N.lst _ _ (λw=>w.elim (λw=>Ef (L e t) i8 w.symm) λw=>()) i8
   ·exact kp.trans<|N.mono λn hn z=>z.elim (λz=>by have:=(e2 e t).2;lia) λz=>()
  ·rintro τ T ⟨C,B,hs,rfl,_,i1,L,i3,i4,Y,i6,i7,i8,kp⟩;rw[aG,bX]at Y;exact⟨C,B,T,rfl,⟨hs,i4,Y,i7⟩,kp⟩
 obtain⟨C,B,S4,x4,h4,k4⟩:=V;refine⟨S1.length,S4,?_,h4,dF sl1,(k1.trans J.of0).old k4 λn hn _ z=>()⟩;unfold pP uS uP;dsimp[jC,kD,bools,kQ,Nat.reduceAdd,Nat.reduceSub,↓x1,<- K,↓x4]
end K70
namespace Nu
open PySem L2
abbrev nv:Nat->Nat
 | 0=>1
 | n+1=>(n+1) * nv n
theorem Bp:∀n,0<nv n
 | 0=>Nat.one_pos
 | n+1=>Nat.mul_pos (Nat.succ_pos _)<|Bp n
def CM(n:Nat):nv n<=nv (n+1):=Nat.le_mul_of_pos_left _<|Nat.succ_pos _
def CP{a b:Nat}(h:a<=b):nv a<=nv b:=by
 induction h with
 | refl=>exact aL _
 | step _ d=>exact bJ d<|CM _
def Rq{n:Nat}(h:n<=20):nv n<=2432902008176640000:=bJ (CP h) ⋯
abbrev QN:Nat->ag->Nat->ag
 | 0,_,_=>[]
 | n+1,l,m=>l.getD (m / nv n) 0::QN n (l.eraseIdx<|m / nv n) (m % nv n)
def Im{n:Nat}(h:m<nv (n+1)):m / nv n<n+1:=(Nat.div_lt_iff_lt_mul<|Bp n).mpr h
def O4{l:ag}{q:Nat}(h:q<l.length):l.getD q 0=l[q]:=by rw[aK,aH h];rfl
end Nu
namespace K70
open PySem L2 Am
open Nu in
def Bt{n:Nat}(h:n<=20):kj [.int n] S=.ok (.int<|nv n) S:=by
 have h1:nv (0+1)=1:=rfl;unfold kj sL sS;dsimp[jC,bools,kQ,Nat.reduceAdd,Nat.reduceSub];refine BN (lo:=2) (hi:=(n:Int)+1) (S1:=S) (show uD _ _=_ from x_ (S1:=S) (by dsimp[jC,bools]) (by dsimp[jC,bools]) (nF ⋯ ⋯)<|nF () ())
  (λi τ S1=>(∃a,τ=[.int n,.int<|nv<|i+1,a])/\S1=S)
  (λr=>RS.end (RS.seq r<|ki<|iR 1)=.ok (.int<|nv n) S) ⟨⟨.unb,by dsimp[h1];rfl⟩,rfl⟩ ?_ ?_
 ·rintro i τ S1 hi ⟨⟨a,rfl⟩,rfl⟩;left;have e:UD (.int<|nv<|i+1) (.int<|2+(i:Int)) S1=.ok (.int<|nv<|i+2) S1:=by
   show gd (vA _ _) _=_;rw[IK (show vA ((nv (i+1):Nat):Int) (2+(i:Int))=true by
    unfold vA;rw[Bool.or_eq_true,cX,cX];exact .inr ⟨aY (),aY ()⟩)]
   rw[show nv (i+2)=(i+2) * nv (i+1)from rfl,mul_comm,Int.natCast_mul];rw[show(2:Int)+(i:Int)=((i+2:Nat):Int)by lia]
  unfold uC;dsimp[jC,bools,e];exact⟨_,_,rfl,⟨_,rfl⟩,rfl⟩
 ·rintro τ S1 ⟨⟨a,rfl⟩,rfl⟩;dsimp[jC,bools];rw[show nv (((n:Int)+1-2).toNat+1)=nv n by
   by_cases z:n=0
   ·subst z;rfl
   ·rw[show((n:Int)+1-2).toNat+1=n by lia]]
def KR{n:Nat}{xs:ae}(h:iU S n=some xs):A.QB (.ref n) S=some (!xs.isEmpty):=by
 show(iU S n).map _=_;rw[h];rfl
open Nu in
def T8{n:Nat}(h2:n<=20)(hm:m<nv n):∃S',mC [.int n,.int m] S=.ok (.tup<|(QN n (kX 1<|(n:Int)+1) m).map .int) S'/\j6 S S':=by
 have P:=Rq h2;unfold mC uY vc;dsimp[jC,kD,bools,kQ,Nat.reduceAdd,Nat.reduceSub,MA,bS,bu<|show ¬(m:Int)<0 by lia,Bt h2,bu<|show ¬(nv n:Int)<=(m:Int)by lia,HR<|Nh (show(-1000000:Int)<=1 by decide) ⋯ (show -1000000<=(n:Int)+1 by lia) () ()];have K:(kX 1<|(n:Int)+1).length=n:=by rw[vG];lia
 have F:=ye (t:=rF) (c:=rj)
  (λτ S1=>∃(k q:Nat) (N:A) (d fs:ag),τ=[.int n,.int q,.ref S.length,.ref<|S.length+1,N]/\iU S1 S.length=some (d.map .int)/\iU S1 (S.length+1)=some (fs.map .int)/\d.length=k/\k<=20/\fs.length<=20-k/\q<nv k/\fs++QN k d q=QN n (kX 1<|(n:Int)+1) m/\j6 S S1)
  (λτ S1=>((iU S1 S.length).getD []).length)
  (λr=>∃S',RS.end (RS.seq r<|ki<|jn (f1 wc)<|iS (iR 3) ja)=.ok (.tup<|(QN n (kX 1<|(n:Int)+1) m).map .int) S'/\j6 S S') ?_ 1000000
 ·have L:(S++[O.lst<|(kX 1<|(n:Int)+1).map A.int]).length=S.length+1:=by simp
  have J:iU (S++[O.lst<|(kX 1<|(n:Int)+1).map A.int]++[O.lst []]) S.length=some ((kX 1<|(n:Int)+1).map .int):=j4 jk;have T:iU (S++[O.lst<|(kX 1<|(n:Int)+1).map A.int]++[O.lst []]) (S.length+1)=some (([]:ag).map .int):=by rw[<- L];exact jk
  rw[L];refine F _ _ ⟨n,m,.unb,kX 1<|(n:Int)+1,[],rfl,J,T,K,h2,bO _,hm,rfl,Kp.refl.lay.lay⟩ ?_;show((iU _ S.length).getD []).length<_;rw[J,dG,aG,K];lia
 ·rintro τ S1 ⟨k,q,N,d,fs,rfl,p,B,M,Y,lf,hq,g,kp⟩;unfold rF;dsimp[jC,bools,KR p]
  cases k with
  | zero=>
   left;have:d=[]:=List.eq_nil_of_length_eq_zero M;subst this;have g:fs++[]=_:=g;rw[b9]at g;refine⟨S1,rfl,S1,?_,kp⟩;dsimp[jC,bools,B,g]
  | succ k=>
   right;have ne:(!(d.map A.int).isEmpty)=true:=by
    cases d with
    | nil=>cases M
    | cons _ _=>rfl
   refine⟨S1,by rw[ne],.inl ?_⟩;have U:=Im hq;have f:q / nv k<d.length:=()
   have fk:=Rq (show k<=20 by lia);have V:=Bp k;have ek:((d.length:Int)-1)=(k:Int):=()
   have Z:(q:Int) / (nv k:Int)=((q / nv k:Nat):Int):=(Int.natCast_ediv _ _).symm;have lL:=mj p;have lF:=mj B;have D:DT (.ref S.length) [.int ((q / nv k:Nat):Int)] S1=.ok (.int<|d.getD (q / nv k) 0) (S1.set S.length<|.lst<|(d.eraseIdx<|q / nv k).map .int):=by
    show opt (iU S1 S.length) _=_;generalize hgj:q / nv k=j at U f;rw[p,jh,IK (),PySem.seqIndex_of ()<|by rw[aG];lia,jh,eZ,aR,aH f,eN,jh,O4 f];congr 3;rw[gu,gu,bC,List.map_take,List.map_drop]
   have C:iU (S1.set S.length<|.lst<|(d.eraseIdx<|q / nv k).map .int) (S.length+1)=some (fs.map .int):=by rw[xZ ()];exact B
   unfold rj;dsimp[jC,bools,p,aG,ek,Bt<|show k<=20 by lia,B,Vq (show(0:Int)<(nv k:Int)by lia)<|show(nv k:Int)<18446744073709551616 by lia,Z,D,C,tH<|show fs.length<16777216 by lia,mul_r (show(-18446744073709551616:Int)<(nv k:Int)by lia)<|show(nv k:Int)<18446744073709551616 by lia];have W:(q:Int)-((q / nv k:Nat):Int) * (nv k:Int)=((q % nv k:Nat):Int):=by
    have:=Nat.div_add_mod q<|nv k;rw[mul_comm]at this;rw[<- Int.natCast_mul]
    lia
   rw[W];have G:iU ((S1.set S.length<|.lst<|(d.eraseIdx<|q / nv k).map .int).set (S.length+1)<|.lst<|fs.map A.int++[.int<|d.getD (q / nv k) 0]) S.length=some ((d.eraseIdx<|q / nv k).map .int):=by rw[xZ ()];exact ur lL
   refine⟨_,_,rfl,⟨k,q % nv k,_,d.eraseIdx<|q / nv k,fs++[d.getD (q / nv k) 0],rfl,G,?_,?_,(),by rw[bw];show fs.length+1<=_;lia,Nat.mod_lt _ V,?_,(kp.set<|.inr<|aL _).set<|.inr ()⟩,?_⟩
   ·rw[ur<|by rw[bW];lia,bC];rfl
   ·rw[List.length_eraseIdx,aP f];lia
   ·rw[<- g,cB];rfl
   ·rw[G,dG,dG,aG,aG,List.length_eraseIdx,aP f];lia
abbrev ao (n:Nat):Os:=(List.range<|Nu.nv n).map λm=>Nu.QN n (kX 1<|(n:Int)+1) m
def VF{n:Nat}(hn:n<=4):∃S',m8 [.int n] S=.ok (.ref S'.length) (S'++[.lst<|(ao n).map tq])/\j6 S S':=by
 have f4:Nu.nv n<=24:=bJ (Nu.CP hn) ⋯;have q:=Bt (S:=S) (n:=n) ();obtain⟨S',d,j⟩:=vO (cap:=[some 0]) (t:=kL) (e:=eFn mC<|iS (iR 1)<|iS (iR 0) ja) (τ:=[.int (n:Int)]) (S:=S) (S1:=S) (src:=kN<|eFn kj<|iS (iR 0) ja) (s:=kR 0<|Nu.nv n) (xs:=(List.range<|Nu.nv n).map λm:Nat=>A.int (m:Int)) (pU (by dsimp[jC,kD,bools,q])<|nF () ()) (by rw[aG,bM];show((Nu.nv n:Int)-0).toNat=_;lia) (λ_=>False) (λT _ i f=>by
   rw[aG,bM]at f;show(if i<((Nu.nv n:Int)-0).toNat then some (A.int<|0+i)else none)=_;rw[aP (),aR,d8 f,cF];rfl) (λ_ _=>rfl) (λ_=>true) (λx=>tq<|Nu.QN n (kX 1<|(n:Int)+1) (Rj x).toNat) (λx p T B=>⟨T,rfl,Kp.refl,λ_=>by
   obtain⟨m,g,rfl⟩:=bf.mp p;obtain⟨T2,e2,k⟩:=T8 (S:=T) (n:=n) (m:=m) ()<|cg.mp g;refine⟨T2,?_,k⟩;show eFn mC (iS (iR 1)<|iS (iR 0) ja) [.int m,.int n] T=_;dsimp[jC,kD,bools,e2];rfl⟩)<|by rw[aG,bM];lia
 refine⟨S',?_,j⟩;have el:((((List.range<|Nu.nv n).map λm:Nat=>A.int (m:Int)).filter λ_=>true).map λx=>tq<|Nu.QN n (kX 1<|(n:Int)+1) (Rj x).toNat)=(ao n).map tq:=by
  rw[c7.mpr λ_ _=>rfl,bg];unfold ao;rw[bg];rfl
 rw[el]at d;unfold m8 rL rE;dsimp[jC,kD,bools,kQ,Nat.reduceAdd,Nat.reduceSub,bu<|show ¬(n:Int)>4 by lia,↓d]
end K70
namespace K70
open PySem L2 Am
open Fw (rg)
abbrev TY (n:Nat)(os:Os)(o:ag):Os:=os.filter λp=>decide ((o,p)∈Ld os) && hof n p o
def SD{L N:Nat}{os:Os}{o:ag}(hN:N<6)(hm:iU T m=some (os.map tq))(hL:Ks T L M<|Ld os)(ll:os.length<=1000)(lo:o.length=N)(lp:∀p∈os,p.length=N) :
  ∃T',jx [none,some 2,some 0] (kh<|iR 1) (jz 0) (wV (qP<|jc (yS false) (qm<|iS (iR 2)<|iS (iR 0) ja)<|iR 1)<|qH<|eFn ju<|iS (iR 0)<|iS (iR 2) ja) (iR 0) [tq o,.ref m,.ref L] T=.ok (.ref T'.length) (T'++[.lst<|(TY N os o).map tq])/\j6 T T':=by
 obtain⟨T',g,k⟩:=Af (cap:=[some 2,some 0]) (t:=wV (qP<|jc (yS false) (qm<|iS (iR 2)<|iS (iR 0) ja)<|iR 1)<|qH<|eFn ju<|iS (iR 0)<|iS (iR 2) ja) (e:=iR 0) (τ:=[tq o,.ref m,.ref L]) (S:=T) (S1:=T) (src:=kh<|iR 1) (xs:=os.map tq) (kJ (by dsimp[jC,kD,bools]) hm) hm (λx=>decide ((o,un x)∈Ld os) && hof N (un x) o) (λx=>x) (λx C T1 j=>by
  obtain⟨p,q,rfl⟩:=bf.mp C;rw[zj];have f:=hL.kp j λz=>z;have d:yS false (.tup [tq o,tq p]) (.ref L) T1=.ok (.bl<|decide<|(o,p)∈Ld os) T1:=f.inq;show ∃T2,wV (qP<|jc (yS false) (qm<|iS (iR 2)<|iS (iR 0) ja)<|iR 1) (qH<|eFn ju<|iS (iR 0)<|iS (iR 2) ja) [tq p,.ref L,tq o] T1=_/\_/\(_->∃T3,iR 0 [tq p,.ref L,tq o] T2=_/\_);by_cases c:(o,p)∈Ld os
  ·obtain⟨T2,e2,B⟩:=SH (S:=T1) (a:=p) (b:=o) hN (lp p q) lo;have e2:ju [tq p,tq o] T1=.ok (.bl<|hof N p o) T2:=e2;rw[aY c]at d;refine⟨T2,?_,B,λ_=>⟨T2,by dsimp[jC,kD,uq],Kp.refl⟩⟩;rw[aY c,Bool.true_and];dsimp[jC,kD,bools,uq,ya,d,e2]
  ·rw[bu c]at d;refine⟨T1,?_,Kp.refl,λ_=>⟨T1,by dsimp[jC,kD,uq],Kp.refl⟩⟩;rw[bu c,Bool.false_and];dsimp[jC,kD,bools,uq,ya,d])<|by rw[aG];lia
 refine⟨T',?_,k⟩;have el:(((os.map tq).filter λx=>decide ((o,un x)∈Ld os) && hof N (un x) o).map λx=>x)=(TY N os o).map tq:=by
  rw[map_id',fR];unfold TY;congr 1;refine List.filter_congr λp _=>?_;show(decide ((o,un<|tq p)∈Ld os) && hof N (un<|tq p) o)=_;rw[zj]
 rw[el]at g;exact g
structure Okn (n f:Nat)(os:Os)(rc:ag->Os):Prop where
 n6:n<5
 n1:1<=n
 pm:∀o∈os,o.Perm (rg n)/\Iv.inv o<8
 nd:os.Nodup
 ln:os.length<=63
 v1:∀o∈os,∀e∈Kl.K o,Po.val e.2 1≠0->Po.val e.2 1=1
 ff:f<=1000000
 rr:∀o∈os,rf os (TY n os) f [o] [o]=some (rc o)
 sub:∀o∈os,(∀p∈rc o,p∈os)/\(rc o).length<=63/\B8 rc o≠[]
def UC{S:iW}{n f:Nat}{rc:ag->Os}(hn:n<=4)(h:Okn n f (ao n) rc):∃(r:Nat) (S':iW),jX [.int n] S=.ok (.ref r) S'/\Hs S' r r (QY (ao n) rc)/\S.length<=r/\j6 S S':=by
 obtain⟨d,x1,k0⟩:=VF (S:=S) hn;obtain⟨S1,D⟩:∃S1,S1=d++[O.lst<|(ao n).map tq]:=⟨_,rfl⟩;have Y:j6 S S1:=by rw[D];exact k0.lay
 have l1:iU S1 d.length=some ((ao n).map tq):=by rw[D];exact jk
 rw[<- D]at x1;have ll:=h.ln;obtain⟨L,S2,x2,G,M⟩:=Dj h.n6 h.pm h.v1 l1 ();have N:=M.lst _ _ (λz=>z) l1;have Z:=Y.len;have len2:=M.len;obtain⟨S3,t⟩:∃S3,S3=S2++[O.dct []]:=⟨_,rfl⟩;have U:j6 S2 S3:=by rw[t];kln_w
 have d3:jj S3 S2.length=some (ev []):=by rw[t];exact Su.mV
 have lm:d.length<S2.length:=mj N;have lL:L<S2.length:=by
  obtain⟨kvs,z,_⟩:=G.ex;exact(aJ.mp<|lR z).1
 have l3:=U.lst _ _ (λz=>z) N;obtain⟨τ',S4,e4,es,p1,p2,p3,B⟩:=JE (st:=oV) (s:=jP d.length ((ao n).map tq).length) (g:=jz 0) (ek:=iR 0) (ev:=jx [none,some 2,some 0] (kh<|iR 1) (jz 0) (wV (qP<|jc (yS false) (qm<|iS (iR 2)<|iS (iR 0) ja)<|iR 1)<|qH<|eFn ju<|iS (iR 0)<|iS (iR 2) ja)<|iR 0) (n:=S2.length)
  (λi T=>∃es:List<|ag×Nat,jj T S2.length=some (ev es)/\es.map (·.1)=(ao n).take i/\(∀e∈es,iU T e.2=some ((TY n (ao n) e.1).map tq))/\Kp (·=S2.length) S3 T) (λτ=>∃y,τ=[y,.ref d.length,.ref L]) (λi τ T F hq hP=>by
   obtain⟨y,rfl⟩:=hq;obtain⟨es,p1,p2,p3,B⟩:=hP;have F:i<((ao n).map tq).length:=F;rw[aG]at F;have P:(ao n)[i]∈ao n:=cU F;have J:=B.lst _ _ () l3;have qT:=(G.kp U λz=>z).kp B ();obtain⟨T1,W,q1⟩:=SD (o:=(ao n)[i]) (dY h.n6) J qT () (m5 (h.pm _ P).1) λp hp=>m5 (h.pm p hp).1;obtain⟨T2,C⟩:∃T2,T2=T1++[O.lst<|(TY n (ao n) (ao n)[i]).map tq]:=⟨_,rfl⟩;rw[<- C]at W;have G:j6 T T2:=by rw[C];exact q1.lay
   have t2:iU T2 T1.length=some ((TY n (ao n) (ao n)[i]).map tq):=by rw[C];exact jk
   have q:=G.dct _ _ (λz=>z) p1;have new:(ao n)[i]∉(ev es).map (·.1):=by
    rw[w9,p2];intro z;obtain⟨j,hj,e⟩:=cu.mp z;rw[List.getElem_take]at e;have lj:j<i:=by rw[b_]at hj;lia
    have:=(cH h.nd).mp e
    lia
   have e5:oV (.ref S2.length) (tq (ao n)[i]) (.ref T1.length) T2=.ok Unit.unit (T2.set S2.length<|.dct<|ev<|es++[((ao n)[i],T1.length)]):=by
    have:=Su.se (n:=S2.length) (o:=(ao n)[i]) (v:=.ref T1.length) (S:=T2);rw[q,jh,A9 new]at this;refine this.trans ?_;have le:es.length=i:=by have:=cW List.length p2;rw[aG,b_]at this;lia
    rw[tH<|by unfold ev;rw[aG];lia];unfold ev;rw[bC];rfl
   have V:Kp (·=S2.length) T2 (T2.set S2.length<|.dct<|ev<|es++[((ao n)[i],T1.length)]):=Kp.refl.sM<|.inl rfl;refine⟨tq (ao n)[i],[tq (ao n)[i],.ref d.length,.ref L],T,tq (ao n)[i],T,.ref T1.length,T2,_,?_,rfl,⟨_,rfl⟩,rfl,W,e5,es++[((ao n)[i],T1.length)],?_,?_,λe he=>?_,(B.trans G.of0).trans V⟩
   ·show(iU T d.length).bind _=_;rw[J];show((ao n).map tq)[i]?=_;rw[aR,aH F];rfl
   ·exact pN (by rw[bz<|Su.rJ q])
   ·rw[bC,p2,bV,aH F];rfl
   ·rcases bI.mp he with z|z
    ·have a:=G.lst _ _ (λz=>z)<|p3 e z;exact V.lst _ _ (λw=>Su.mD q a w.symm) a
    ·rw[aX.mp z];exact V.lst _ _ (λw=>Su.mD q t2 w.symm) t2) (λT hP=>by
   obtain⟨es,p1,p2,p3,B⟩:=hP;have J:=B.lst _ _ () l3;show(match iU T d.length with
    | some ys=>decide (ys.length<=((ao n).map tq).length)
    | none=>false)=true
   rw[J];exact aY<|aL _) ((ao n).map tq).length 0 (j3 [none,some 1,some 2] [.int n,.ref d.length,.ref L]) S3 rfl ⟨_,rfl⟩ ⟨[],d3,rfl,(nofun),Kp.refl⟩
 have K:Q6 (.dct []) oV [none,some 1,some 2] (kh<|iR 1) (jz 0) kL (iR 0) (jx [none,some 2,some 0] (kh<|iR 1) (jz 0) (wV (qP<|jc (yS false) (qm<|iS (iR 2)<|iS (iR 0) ja)<|iR 1)<|qH<|eFn ju<|iS (iR 0)<|iS (iR 2) ja)<|iR 0) [.int n,.ref d.length,.ref L] S2=.ok (.ref S2.length) S4:=by
  have hs:kh (iR 1) [.int n,.ref d.length,.ref L] S2=.ok (jP d.length ((ao n).map tq).length) S2:=kJ (by dsimp[jC,kD]) N;unfold Q6;rw[hs,R.ly,<- t];show(wX _ _ _ _ _ _ _ ((ao n).map tq).length 0 _ _).mG _=_;rw[e4];rfl
 have p2:es.map (·.1)=ao n:=by
  have:(jP d.length ((ao n).map tq).length).k=(ao n).length:=aG ..;rw[this,bX]at p2;exact p2
 obtain⟨r,S5,x5,h5,l5,k5⟩:=Ct p1 p2 p3 h.nd () h.ff h.rr (λo P z=>by have:=m5 (h.pm o P).1;rw[z]at this;have:=h.n1;simp at *;lia) h.sub;have len3:S3.length=S2.length+1:=by rw[t,bw];rfl
 have len4:=B.len;refine⟨r,S5,?_,h5,(),(((Y.trans M).trans U).old B λm hm _ z=>()).old k5 λm hm _ z=>()⟩;unfold jX ow oM;dsimp[jC,kD,bools,kQ,Nat.reduceAdd,Nat.reduceSub,x1,x2,↓K,x5]
end K70
namespace K70
open PySem L2 Am
abbrev lz (os:Os)(t:List Os)(o:ag):Os:=(((os.zip t).find? λe=>decide<|e.1=o).map (·.2)).getD []
abbrev Yb (n:Nat)(L:List kO)(os:Os)(o:ag):Os:=os.filter λp=>decide ((o,p)∈L) && hof n p o
theorem Dt{os:Os}{nx nx':ag->Os}(h:∀o∈os,nx o=nx' o):∀(f:Nat) (R W:Os),rf os nx f R W=rf os nx' f R W
 | 0,_,_=>rfl
 | f+1,R,W=>by
  unfold rf;have e:(R.length<1000/\W.length<1000/\∀o∈W,o∈os/\(nx o).length<1000) ↔ (R.length<1000/\W.length<1000/\∀o∈W,o∈os/\(nx' o).length<1000):=
   ⟨λz=>⟨z.1,z.2.1,λo d=>⟨(z.2.2 o d).1,by rw[<- h o (z.2.2 o d).1];exact(z.2.2 o d).2⟩⟩,λz=>⟨z.1,z.2.1,λo d=>⟨(z.2.2 o d).1,by rw[h o (z.2.2 o d).1];exact(z.2.2 o d).2⟩⟩⟩
  by_cases c:R.length<1000/\W.length<1000/\∀o∈W,o∈os/\(nx o).length<1000
  ·rw[aP c,aP<|e.mp c]
   cases j:W.getLast? with
   | none=>rfl
   | some g=>
    have:=h g (c.2.2 g<|List.mem_of_getLast? j).1;dsimp only;rw[this];exact Dt h f _ _
  ·rw[aM c,aM λz=>c<|e.mpr z]
def DQ{n:Nat}{L:List kO}{X:List Os}(h4:n<5)(h1:1<=n)(pm:∀o∈ao n,o.Perm (Fw.rg n)/\Iv.inv o<8)(nd:(ao n).Nodup)(ln:(ao n).length<=63)(v1:∀o∈ao n,∀e∈Kl.K o,Po.val e.2 1≠0->Po.val e.2 1=1)(ld:Ld (ao n)=L)(nx:∀o∈ao n,Yb n L (ao n) o=lz (ao n) X o)(rr:∀o∈ao n,rf (ao n) (lz (ao n) X) 200 [o] [o]=some (lz (ao n) C o))
  (sub:∀o∈ao n,(∀p∈lz (ao n) C o,p∈ao n)/\(lz (ao n) C o).length<=63/\B8 (lz (ao n) C) o≠[]):Okn n 200 (ao n) (lz (ao n) C):=⟨h4,h1,pm,nd,ln,v1,by decide,λo d=>by
 rw[Dt (nx':=lz (ao n) X) λp f=>by rw[<- nx p f,<- ld];rfl];exact rr o d,sub⟩
abbrev ZF:List kO:=[([1,2],[2,1]),([2,1],[1,2])]
abbrev Xq2:List Os:=[[[2,1]],[]]
abbrev VM:List Os:=[[[1,2],[2,1]],[[2,1]]]
abbrev Ze:List Os:=[[[1,2]],[[2,1]]]
abbrev ZS:List kO:=[([1,2,3],[1,3,2]),([1,3,2],[1,2,3]),([1,2,3],[2,1,3]),([2,1,3],[1,2,3]),([1,3,2],[2,3,1]),([2,3,1],[1,3,2]),([2,1,3],[2,3,1]),([2,3,1],[2,1,3]),([1,3,2],[3,1,2]),([3,1,2],[1,3,2]),([2,1,3],[3,1,2]),([3,1,2],[2,1,3]),([2,3,1],[3,2,1]),([3,2,1],[2,3,1]),([3,1,2],[3,2,1]),([3,2,1],[3,1,2])]
abbrev ZO:List Os:=[[[1,3,2],[2,1,3]],[[3,1,2]],[[2,3,1]],[[2,1,3],[3,2,1]],[[1,3,2],[3,2,1]],[]]
abbrev VL:List Os:=[[[1,2,3],[1,3,2],[2,1,3],[2,3,1],[3,2,1],[3,1,2]],[[1,3,2],[3,1,2],[3,2,1]],[[2,1,3],[2,3,1],[3,2,1]],[[2,3,1],[2,1,3],[3,2,1]],[[3,1,2],[1,3,2],[3,2,1]],[[3,2,1]]]
abbrev Zb:List Os:=[[[1,2,3]],[[1,3,2],[3,1,2]],[[2,1,3],[2,3,1]],[[3,2,1]]]
abbrev o4 (i:Nat):ag:=([[1,2,3,4],[1,2,4,3],[1,3,2,4],[1,3,4,2],[1,4,2,3],[1,4,3,2],[2,1,3,4],[2,1,4,3],[2,3,1,4],[2,3,4,1],[2,4,1,3],[2,4,3,1],[3,1,2,4],[3,1,4,2],[3,2,1,4],[3,2,4,1],[3,4,1,2],[3,4,2,1],[4,1,2,3],[4,1,3,2],[4,2,1,3],[4,2,3,1],[4,3,1,2],[4,3,2,1]]:Os).getD i []
abbrev u4 (l:List<|am):List Os:=l.map λm=>m.map o4
abbrev t4 (l:List<|Nat×Nat):List kO:=l.map λp=>(o4 p.1,o4 p.2)
abbrev Z9:List kO:=t4 [(0,1),(1,0),(0,2),(2,0),(1,3),(3,1),(2,3),(3,2),(1,4),(4,1),(2,4),(4,2),(3,5),(5,3),(4,5),(5,4),(0,6),(6,0),(1,7),(7,1),(6,7),(7,6),(2,8),(8,2),(6,8),(8,6),(3,9),(9,3),(7,9),(9,7),(8,9),(9,8),(4,10),(10,4),(7,10),(10,7),(8,10),(10,8),(5,11),(11,5),(9,11),(11,9),(10,11),(11,10),(2,12),(12,2),(6,12),(12,6),(3,13),(13,3),(7,13),(13,7),(12,13),(13,12),(8,14),(14,8),(12,14),(14,12),(9,15),(15,9),(13,15),(15,13),(14,15),(15,14),(2,16),(16,2),(5,16),(16,5),(10,16),(16,10),(13,16),(16,13),(14,16),(16,14),(11,17),(17,11),(15,17),(17,15),(16,17),(17,16),(4,18),(18,4),(7,18),(18,7),(12,18),(18,12),(5,19),(19,5),(13,19),(19,13),(18,19),(19,18),(10,20),(20,10),(14,20),(20,14),(18,20),(20,18),(7,21),(21,7),(11,21),(21,11),(15,21),(21,15),(19,21),(21,19),(20,21),(21,20),(16,22),(22,16),(19,22),(22,19),(20,22),(22,20),(17,23),(23,17),(21,23),(23,21),(22,23),(23,22)]
abbrev Xq4:List Os:=u4 [[1,2,6],[4,7],[3,12],[2,5,13],[1,5,18],[19],[7,8],[10],[6,9,14],[7,8,11,15],[7,11,20],[21],[2,13,14],[16],[15],[14,17],[5,13,14,17,22],[15,23],[4,7,19,20],[5,22],[21],[11,20,23],[19,23],[]]
abbrev VO:List Os:=u4 [[0,1,2,6,7,8,9,14,15,17,23,11,21,20,10,3,12,13,16,5,22,19,4,18],[1,4,7,10,11,20,21,23,5,18,19,22],[2,3,12,13,14,15,17,23,16,5,22,19],[3,2,5,13,16,14,17,22,19,23,15,12],[4,1,5,18,7,19,20,21,11,23,22,10],[5,19,22,23],[6,7,8,9,14,15,17,23,11,21,20,10],[7,10,11,20,21,23],[8,6,9,14,15,17,23,7,11,21,20,10],[9,7,8,11,15,14,17,23,21,20,6,10],[10,7,11,20,21,23],[11,21,20,23],[12,2,13,14,15,17,23,16,5,22,19,3],[13,16,5,14,17,22,19,23,15],[14,15,17,23],[15,14,17,23],[16,5,13,14,17,22,19,23,15],[17,15,23,14],[18,4,7,19,20,21,11,23,5,22,10,1],[19,5,22,23],[20,21,11,23],[21,11,20,23],[22,19,23,5],[23]]
abbrev Yw:List Os:=u4 [[0],[1,4,18],[2,3,12],[5,19,22],[6,8,9],[7,10],[11,20,21],[13,16],[14,15,17],[23]]
def pm2:∀o∈ao 2,o.Perm (Fw.rg 2)/\Iv.inv o<8:=by decide +kernel
def nd2:(ao 2).Nodup:=by decide +kernel
def lq2:Ld (ao 2)=ZF:=by decide +kernel
def nx2:∀o∈ao 2,Yb 2 ZF (ao 2) o=lz (ao 2) Xq2 o:=by decide +kernel
def rr2:∀o∈ao 2,rf (ao 2) (lz (ao 2) Xq2) 200 [o] [o]=some (lz (ao 2) VM o):=by decide +kernel
def sb2:∀o∈ao 2,(∀p∈lz (ao 2) VM o,p∈ao 2)/\(lz (ao 2) VM o).length<=63/\B8 (lz (ao 2) VM) o≠[]:=by decide +kernel
def gt2:QY (ao 2) (lz (ao 2) VM)=Ze:=by decide +kernel
def on2:Okn 2 200 (ao 2) (lz (ao 2) VM):=DQ ⋯ ⋯ pm2 nd2 ∅ ∅ lq2 nx2 rr2 sb2
def pm3:∀o∈ao 3,o.Perm (Fw.rg 3)/\Iv.inv o<8:=by decide +kernel
def nd3:(ao 3).Nodup:=by decide +kernel
def lq3:Ld (ao 3)=ZS:=by decide +kernel
def nx3:∀o∈ao 3,Yb 3 ZS (ao 3) o=lz (ao 3) ZO o:=by decide +kernel
def rr3:∀o∈ao 3,rf (ao 3) (lz (ao 3) ZO) 200 [o] [o]=some (lz (ao 3) VL o):=by decide +kernel
def sb3:∀o∈ao 3,(∀p∈lz (ao 3) VL o,p∈ao 3)/\(lz (ao 3) VL o).length<=63/\B8 (lz (ao 3) VL) o≠[]:=by decide +kernel
def gt3:QY (ao 3) (lz (ao 3) VL)=Zb:=by decide +kernel
def on3:Okn 3 200 (ao 3) (lz (ao 3) VL):=DQ ⋯ ⋯ pm3 nd3 ∅ ∅ lq3 nx3 rr3 sb3
def pm4:∀o∈ao 4,o.Perm (Fw.rg 4)/\Iv.inv o<8:=by decide +kernel
def nd4:(ao 4).Nodup:=by decide +kernel
def lq4:Ld (ao 4)=Z9:=by decide +kernel
def nx4:∀o∈ao 4,Yb 4 Z9 (ao 4) o=lz (ao 4) Xq4 o:=by decide +kernel
def rr4:∀o∈ao 4,rf (ao 4) (lz (ao 4) Xq4) 200 [o] [o]=some (lz (ao 4) VO o):=by decide +kernel
def sb4:∀o∈ao 4,(∀p∈lz (ao 4) VO o,p∈ao 4)/\(lz (ao 4) VO o).length<=63/\B8 (lz (ao 4) VO) o≠[]:=by decide +kernel
def gt4:QY (ao 4) (lz (ao 4) VO)=Yw:=by decide +kernel
def on4:Okn 4 200 (ao 4) (lz (ao 4) VO):=DQ ⋯ ⋯ pm4 nd4 ∅ ∅ lq4 nx4 rr4 sb4
end K70
namespace K70
open PySem L2 Am
theorem Dg{s:Src}{e:Ex}(P:Nat->ae->iW->Prop)(step:∀i acc T,i<s.k->P i acc T->∃x y T2,s.get i T=some x/\e (x::j3 cap τ) T=.ok y T2/\P (i+1) (acc++[y]) T2)(hfin:∀acc T,P s.k acc T->s.fin T=true) :
  ∀k i τ' T acc,k+i=s.k->(∃y,τ'=y::j3 cap τ)->P i acc T->∃zs S',l_ s (jz 0) kL e k i τ' T=.ok zs S'/\P s.k (acc++zs) S'/\zs.length=k
 | 0,i,τ',T,acc,hk,_,hP=>by
  have:i=s.k:=()
  subst this;exact⟨[],T,by unfold l_;rw[aP<|hfin _ _ hP],by rw[b9];exact hP,rfl⟩
 | k+1,i,τ',T,acc,hk,hy,hP=>by
  obtain⟨d,rfl⟩:=hy;obtain⟨x,y,T2,e1,e2,p2⟩:=step i acc T () hP;obtain⟨zs,S',h1,h2,h3⟩:=Dg P step hfin k (i+1) (x::j3 cap τ) T2 (acc++[y]) () ⟨x,rfl⟩ p2;refine⟨y::zs,S',?_,by rw[cB]at h2;exact h2,by rw[bN,h3]⟩;unfold l_;rw[e1,jh];rw[UG,R.jG,show kL ((d::j3 cap τ).set 0 x) T=.ok true T from rfl,R.jG];show((e (x::j3 cap τ) T).mG _)=_;rw[e2,R.jG];show(l_ s (jz 0) kL e k (i+1) (x::j3 cap τ) T2).mG _=_;rw[h1,R.jG]
def vj{s:Src}{src:Ic}{e:Ex}(hs:src τ S=.ok s S1)(P:Nat->ae->iW->Prop)(p0:P 0 [] S1)(step:∀i acc T,i<s.k->P i acc T->∃x y T2,s.get i T=some x/\e (x::j3 cap τ) T=.ok y T2/\P (i+1) (acc++[y]) T2)(hfin:∀acc T,P s.k acc T->s.fin T=true)(hl:s.k<=16777216) :
  ∃ys S',jx (none::cap) src (jz 0) kL e τ S=.ok (.ref S'.length) (S'++[.lst ys])/\P s.k ys S':=by
 obtain⟨zs,S',h1,h2,h3⟩:=Dg P step hfin s.k 0 (j3 (none::cap) τ) S1 [] rfl ⟨_,rfl⟩ p0;rw[List.nil_append]at h2;refine⟨zs,S',?_,h2⟩;unfold jx;rw[hs,R.ly,h1,R.jG];exact kH ()
def E7{n k:Nat}{x:A}(h:iU T n=some xs){i:Nat}(hx:xs[i]?=some x):(jP n k).get i T=some x:=by
 show(iU T n).bind _=_;rw[h];exact hx
def Fe{n:Nat}{xs:ae}(h:iU T n=some xs):(jP n xs.length).fin T=true:=by
 show(match iU T n with
  | some ys=>decide (ys.length<=xs.length)
  | none=>false)=true
 rw[h];exact aY<|aL _
def Ck{n i:Nat}(h:i<n):(kR 0 (n:Int)).get i T=some (.int (i:Int)):=by
 show(if i<((n:Int)-0).toNat then some (A.int<|0+(i:Int))else none)=_;rw[aP (),cF]
meta abbrev M2:=List<|ag
structure Tq (S:iW)(R:Nat)(T:M2):Prop where
 ex:∃rs:am,iU S R=some (rs.map .ref)/\Rows S rs T
def Tq.kp{R:Nat}(h:Tq S R T)(k:j6 S S'):Tq S' R T:=by
 obtain⟨d,h1,h2⟩:=h.ex;exact⟨d,k.lst _ _ (λz=>z) h1,h2.mono λr _ xs e=>k.lst _ _ (λz=>z) e⟩
abbrev AD (ps:List kO)(k:Nat)(a b:ag):Int:=if a=b then(if Su.pD a k=true then 1 else -1)else if (Su.pD a k || !Su.pD b k)=true then 0 else if (a,b)∈ps then 1 else 0
def Ru{a b:ag}:u7 false (tq a) (tq b) S=.ok (.bl<|decide<|a=b) S:=by
 show opt (uG S 12 (tq a)<|tq b) _=_;rw[show uG S 12 (tq a) (tq b)=some (decide<|a=b)from qO a b];rfl
def VG{N L k:Nat}{a b:ag}(hN:N<6)(la:a.length=N)(lb:b.length=N)(k1:1<=k)(k2:k<N)(hL:Ks S L m ps):∃S',jU [.int k,tq a,tq b,.ref L] S=.ok (.int<|AD ps k a b) S'/\j6 S S':=by
 have t:∀(T:iW) (x:ag),x.length=N->∃T1,jW [tq x] T=.ok (.ref T.length) T1/\Gu false (.int k) (.ref T.length) T1=.ok (.bl<|Su.pD x k) T1/\Gu true (.int k) (.ref T.length) T1=.ok (.bl<|!Su.pD x k) T1/\j6 T T1:=λT x B=>by
  have t:=qF (S:=T) (xs:=x) (n:=N) B ();refine⟨_,t,?_,?_,Kp.refl.lay⟩
  ·show opt (iU _ _) _=_;rw[jk,jh,ud,xB B k1 k2];rfl
  ·show opt (iU _ _) _=_;rw[jk,jh,ud,xB B k1 k2];rfl
 obtain⟨S1,e1,f,_,j⟩:=t S a la;obtain⟨S2,e2,_,p,q⟩:=t S1 b lb;unfold jU r6 sY;by_cases c:a=b
 ·refine⟨S1,?_,j⟩;unfold AD;rw[aP c];have eq:=Ru (S:=S1) (a:=a) (b:=b);rw[aY c]at eq
  cases hf:Su.pD a k with
  | true=>rw[hf]at f;dsimp[jC,kD,bools,uq,kQ,Nat.reduceAdd,Nat.reduceSub,e1,f,eq];rfl
  | false=>rw[hf]at f;dsimp[jC,kD,bools,uq,kQ,Nat.reduceAdd,Nat.reduceSub,e1,f,eq];rfl
 ·have eq:=Ru (S:=S1) (a:=a) (b:=b);rw[bu c]at eq
  cases hf:Su.pD a k with
  | true=>
   refine⟨S1,?_,j⟩;unfold AD;rw[aM c,hf];rw[hf]at f;dsimp[jC,kD,bools,uq,kQ,Nat.reduceAdd,Nat.reduceSub,e1,f,eq];rfl
  | false=>
   rw[hf]at f
   cases hg:Su.pD b k with
   | false=>
    refine⟨S2,?_,j.trans q⟩;unfold AD;rw[aM c,hf,hg];rw[hg]at p;dsimp[jC,kD,bools,uq,kQ,Nat.reduceAdd,Nat.reduceSub,e1,f,eq,e2,p];rfl
   | true=>
    refine⟨S2,?_,j.trans q⟩;unfold AD;rw[aM c,hf,hg];rw[hg]at p;have g:=((hL.kp (j.trans q) λz=>z).get (x:=a) (w:=b));have d:=(hL.kp (j.trans q) λz=>z).dq;have g:zL (.ref L) [.tup [tq a,tq b],.int 0] S2=.ok (.int<|if (a,b)∈ps then 1 else 0) S2:=g;dsimp[jC,kD,bools,uq,kQ,Nat.reduceAdd,Nat.reduceSub,e1,f,eq,e2,p,bS,PM,d,ya,LX,g];rfl
abbrev N2 (ps:List kO)(k:Nat)(os:Os)(a:ag):ag:=os.map λb=>AD ps k a b
abbrev Th (ps:List kO)(k:Nat)(os:Os):M2:=os.map λa=>N2 ps k os a
def U6{N L k g:Nat}{os:Os}{a:ag}(hN:N<6)(la:a.length=N)(lo:∀o∈os,o.length=N)(k1:1<=k)(k2:k<N)(hL:Ks T L m ps)(hg:iU T g=some (os.map tq))(ll:os.length<=1000) :
  ∃T',jx [none,some 1,some 0,some 2] (kh<|iR 3) (jz 0) kL (eFn jU<|iS (iR 1)<|iS (iR 2)<|iS (iR 0)<|iS (iR 3) ja) [tq a,.int k,.ref L,.ref g] T=.ok (.ref T'.length) (T'++[.lst<|(N2 ps k os a).map .int])/\j6 T T':=by
 obtain⟨T',d,q⟩:=Af (cap:=[some 1,some 0,some 2]) (t:=kL) (e:=eFn jU<|iS (iR 1)<|iS (iR 2)<|iS (iR 0)<|iS (iR 3) ja) (τ:=[tq a,.int k,.ref L,.ref g]) (S:=T) (S1:=T) (src:=kh<|iR 3) (xs:=os.map tq) (kJ (by dsimp[jC,kD,bools]) hg) hg (λ_=>true) (λx=>.int<|AD ps k a<|un x) (λx j U f=>⟨U,rfl,Kp.refl,λ_=>by
  obtain⟨o,B,rfl⟩:=bf.mp j;obtain⟨U2,e2,p⟩:=VG (S:=U) hN la (lo o B) k1 k2<|hL.kp f λz=>z;refine⟨U2,?_,p⟩;show eFn jU (iS (iR 1)<|iS (iR 2)<|iS (iR 0)<|iS (iR 3) ja) [tq o,.int k,tq a,.ref L] U=_;rw[zj];dsimp[jC,kD,bools,uq,e2]⟩)<|by rw[aG];lia
 refine⟨T',?_,q⟩;have el:(((os.map tq).filter λ_=>true).map λx=>A.int<|AD ps k a<|un x)=(N2 ps k os a).map .int:=by
  unfold N2;rw[c7.mpr λ_ _=>rfl,bg,bg];refine bU λo _=>?_;show A.int (AD ps k a<|un<|tq o)=_;rw[zj];rfl
 rw[el]at d;exact d
def Rows.Lp{r:Nat}{x:ag}(h:Rows S rs T)(k:j6 S S')(e:iU S' r=some (x.map .int)):Rows S' (rs++[r]) (T++[x]):=(h.mono λq _ xs z=>k.lst _ _ (λz=>z) z).app ⟨e,trivial⟩
def Vx{N L k g:Nat}{os:Os}(hN:N<6)(lo:∀o∈os,o.length=N)(k1:1<=k)(k2:k<N)(hL:Ks T L m ps)(hg:iU T g=some (os.map tq))(ll:os.length<=1000) :
  ∃R T',jx [none,some 0,some 2,some 1] (kh<|iR 1) (jz 0) kL (jx [none,some 1,some 0,some 2] (kh<|iR 3) (jz 0) kL<|eFn jU<|iS (iR 1)<|iS (iR 2)<|iS (iR 0)<|iS (iR 3) ja) [.int k,.ref g,.ref L] T=.ok (.ref R) T'/\Tq T' R (Th ps k os)/\j6 T T':=by
 obtain⟨ys,C,t,f,F,r1,B⟩:=vj (cap:=[some 0,some 2,some 1]) (e:=jx [none,some 1,some 0,some 2] (kh<|iR 3) (jz 0) kL<|eFn jU<|iS (iR 1)<|iS (iR 2)<|iS (iR 0)<|iS (iR 3) ja) (τ:=[.int k,.ref g,.ref L]) (S:=T) (S1:=T) (src:=kh<|iR 1) (s:=jP g (os.map tq).length) (kJ (by dsimp[jC,kD,bools]) hg)
  (λi acc U=>∃f:am,acc=f.map .ref/\Rows U f ((os.take i).map λa=>N2 ps k os a)/\j6 T U) ⟨[],rfl,trivial,Kp.refl⟩ (λi acc U j hP=>by
   obtain⟨f,rfl,D,d⟩:=hP;have j:i<(os.map tq).length:=j;rw[aG]at j;obtain⟨p,e1,q⟩:=U6 (a:=os[i]) hN (lo _<|cU j) lo k1 k2 (hL.kp d λz=>z) (d.lst _ _ (λz=>z) hg) ll;refine⟨tq os[i],.ref p.length,_,E7 (d.lst _ _ (λz=>z) hg)<|by rw[aR,aH j];rfl,e1,f++[p.length],by rw[bC];rfl,?_,(d.trans q).lay⟩;rw[bV,aH j,bC];exact Rows.Lp D q.lay jk) (λacc U hP=>by
   obtain⟨_,_,_,d⟩:=hP;exact Fe<|d.lst _ _ (λz=>z) hg) (by show(os.map tq).length<=_;rw[aG];lia)
 rw[show(jP g (os.map tq).length).k=os.length from aG ..,bX]at r1;subst F;exact⟨C.length,_,t,⟨f,jk,r1.mono λr _ xs z=>j4 z⟩,B.lay⟩
structure T3 (S:iW)(R:Nat)(Ts:List M2):Prop where
 ex:∃ms:am,iU S R=some (ms.map .ref)/\ms.length=Ts.length/\∀i m,ms[i]?=some m->Tq S m (Ts.getD i [])
abbrev Rc (N:Nat)(os:Os):List M2:=(List.range<|N-1).map λi=>Th (Ld os) (i+1) os
def Td{N g:Nat}{os:Os}(h5:N<5)(hi:∀o∈os,o.Perm (Fw.rg N)/\Iv.inv o<8)(hv:∀o∈os,∀e∈Kl.K o,Po.val e.2 1≠0->Po.val e.2 1=1)(hg:iU S g=some (os.map tq))(ll:os.length<=120)(ne:os≠[])(h1:1<=N) :
  ∃R S',k8 [.ref g] S=.ok (.ref R) S'/\T3 S' R (Rc N os)/\j6 S S':=by
 obtain⟨L,S1,e1,P,F⟩:=Dj (S:=S) h5 hi hv hg ll;have f:=F.lst _ _ (λz=>z) hg;obtain⟨q,C,rfl⟩:∃o t,os=o::t:=by
  cases os with
  | nil=>exact absurd rfl ne
  | cons o t=>exact⟨o,t,rfl⟩
 have J:∀o∈q::C,o.length=N:=λo ho=>m5 (hi o ho).1;have Y:=J q<|aO ..;have hs:sQ (eC<|.int 1) (jn (f1 lO)<|iS (jc pI (iR 0)<|eC<|.int 0) ja) [.ref g,.ref L] S1=.ok (kR 1 (N:Int)) S1:=x_ (S1:=S1) (by dsimp[jC,bools]) (by rw[bE]at f;dsimp[jC,kD,bools,f,wJ,uq,show lO (tq q) S1=.ok (.int (N:Int)) S1 from by show Am.R.ok (A.int ((q.map A.int).length:Int)) S1=_;rw[aG,Y]]) (nF ⋯ ⋯)<|nF () ();obtain⟨ys,S',V,d,y1,M,r1,kS⟩:=vj (cap:=[some 0,some 1]) (e:=jx [none,some 0,some 2,some 1] (kh<|iR 1) (jz 0) kL<|jx [none,some 1,some 0,some 2] (kh<|iR 3) (jz 0) kL<|eFn jU<|iS (iR 1)<|iS (iR 2)<|iS (iR 0)<|iS (iR 3) ja) (τ:=[.ref g,.ref L]) (S:=S1) (S1:=S1) (src:=sQ (eC<|.int 1)<|jn (f1 lO)<|iS (jc pI (iR 0)<|eC<|.int 0) ja) (s:=kR 1 (N:Int)) hs
  (λi acc U=>∃d:am,acc=d.map .ref/\d.length=i/\(∀j m,d[j]?=some m->Tq U m (Th (Ld (q::C)) (j+1) (q::C)))/\j6 S1 U) ⟨[],rfl,rfl,(λj m z=>by simp at z),Kp.refl⟩ (λi acc U p hP=>by
   obtain⟨d,rfl,lm,W,D⟩:=hP;have p:i<((N:Int)-1).toNat:=p;obtain⟨R,U',e2,t2,G⟩:=Vx (T:=U) (k:=i+1) () J () () (P.kp D λz=>z) (D.lst _ _ (λz=>z) f) ();refine⟨.int ((i+1:Nat):Int),.ref R,U',?_,e2,d++[R],by rw[bC];rfl,by rw[bw,lm];rfl,λj m z=>?_,D.trans G⟩
   ·show(if i<((N:Int)-1).toNat then some (A.int<|1+(i:Int))else none)=_;rw[aP p,show 1+(i:Int)=((i+1:Nat):Int)by lia]
   ·rw[List.getElem?_append]at z;split at z
    ·exact(W j m z).kp G
    ·rename_i c;obtain⟨Z,e⟩:=aJ.mp z;have:j=i:=by simp at Z;lia
     subst this;have:m=R:=by
      have:j-d.length=0:=()
      rw[this]at z;exact(aZ z).symm
     rw[this];exact t2) (λ_ _ _=>rfl) (by show((N:Int)-1).toNat<=_;lia)
 have O:(kR 1 (N:Int)).k=N-1:=by show((N:Int)-1).toNat=_;lia
 rw[O]at M;subst y1;refine⟨S'.length,_,?_,⟨d,jk,by unfold Rc;rw[aG,bM,M],λi m z=>?_⟩,(F.trans kS).lay⟩
 ·unfold k8 oz oH;dsimp[jC,kD,bools,kQ,Nat.reduceAdd,Nat.reduceSub,e1,↓V]
 ·have B:i<N-1:=by have:=(aJ.mp z).1;lia
  unfold Rc;rw[aK,aR,d8 B];exact(r1 i m z).kp Kp.refl.lay
end K70
namespace K70
open PySem L2 Am
abbrev I_ (r:ag)(U:M2)(j:Nat):Int:=((List.range r.length).map λk=>r.getD k 0 * (U.getD k []).getD j 0).sum
abbrev nq (T U:M2):M2:=T.map λr=>(List.range r.length).map λj=>I_ r U j
structure Sq (d:Nat)(U:M2):Prop where
 l:U.length=d
 r:∀r∈U,r.length=d
 b:∀r∈U,∀x∈r,x.natAbs<=1000
def U8{d ub:Nat}{r:ag}{us:am}(lr:r.length=d)(sU:Sq d U)(hr:iU S ra=some (r.map .int))(hu:iU S ub=some (us.map .ref))(hU:Rows S us U)(hj:j<d)(hd:d<=24) :
  ∃S',jn (f1 Ik) (iS (jx [none,some 1,some 0,some 2] (kN<|jn (f1 lO)<|iS (iR 1) ja) (jz 0) kL<|jc tZ (jc pI (iR 1)<|iR 0)<|jc pI (jc pI (iR 3)<|iR 0)<|iR 2) ja) [.int j,.ref ra,.ref ub] S=.ok (.int<|I_ r U j) S'/\j6 S S':=by
 have B:=hU.len;have hs:kN (jn (f1 lO)<|iS (iR 1) ja) [.int j,.ref ra,.ref ub] S=.ok (kR 0 (d:Int)) S:=pU (by dsimp[jC,kD,bools,hr,aG,lr])<|nF () ();have c:=yR (cap:=[some 1,some 0,some 2]) (t:=kL) (e:=jc tZ (jc pI (iR 1)<|iR 0)<|jc pI (jc pI (iR 3)<|iR 0)<|iR 2) hs (λ_=>true) (λv=>A.int<|r.getD v.toNat 0 * (U.getD v.toNat []).getD j 0) (λ_ _ _=>rfl) (λv h1 h2 _=>by
  obtain⟨k,rfl⟩:∃k:Nat,v=(k:Int):=⟨v.toNat,()⟩;have J:k<d:=()
  have f:k<us.length:=by rw[B,sU.l];exact J
  obtain⟨g,D⟩:=hU.get<|aH f;have m:U.getD k []∈U:=by rw[aK,aH g];exact cU g
  have L:=sU.r _ m;have q:rV (r.map A.int) (k:Int)=some (.int<|r.getD k 0):=xw (k:=k) rfl (by rw[aK,aH<|show k<r.length by lia];rfl);have C:rV (us.map A.ref) (k:Int)=some (.ref us[k]):=vV (k:=k) rfl (by rw[aR,aH f];rfl);have F:rV ((U.getD k []).map A.int) (j:Int)=some (.int<|(U.getD k []).getD j 0):=xw (k:=j) rfl (by rw[aK (l:=U.getD k []),aH<|show j<(U.getD k []).length by lia];rfl);have K:(U.getD k []).getD j 0∈U.getD k []:=by rw[aK (l:=U.getD k []),aH<|show j<(U.getD k []).length by lia];exact cU _
  have bx:=sU.b _ m _ K;show jc tZ (jc pI (iR 1)<|iR 0) (jc pI (jc pI (iR 3)<|iR 0)<|iR 2) [.int k,.ref ra,.int j,.ref ub] S=_;dsimp[jC,kD,bools,hr,q,hu,C,D,F,mul_r (i:=r.getD k 0) (show(-18446744073709551616:Int)<(U.getD k []).getD j 0 by lia) (),eZ]) ()
 rw[c7.mpr λ_ _=>rfl]at c;have p:((kX 0 (d:Int)).map λv=>A.int<|r.getD v.toNat 0 * (U.getD v.toNat []).getD j 0)=((List.range r.length).map λk=>r.getD k 0 * (U.getD k []).getD j 0).map A.int:=by
  unfold kX;rw[bg,bg,lr,show((d:Int)-0).toNat=d by lia];refine bU λi _=>?_;show A.int (r.getD (0+(i:Int)).toNat 0 * (U.getD (0+(i:Int)).toNat []).getD j 0)=_;rw[show(0+(i:Int)).toNat=i by lia];rfl
 rw[p]at c;have G:iU (S++[O.lst<|((List.range r.length).map λk=>r.getD k 0 * (U.getD k []).getD j 0).map A.int]) S.length=some _:=jk;have sm:Ik (.ref S.length) (S++[O.lst<|((List.range r.length).map λk=>r.getD k 0 * (U.getD k []).getD j 0).map A.int])=.ok (.int<|I_ r U j) (S++[O.lst<|((List.range r.length).map λk=>r.getD k 0 * (U.getD k []).getD j 0).map A.int]):=by
  show opt (iU _ _) _=_;rw[G,jh,ints_map];rfl
 exact⟨S++[O.lst<|((List.range r.length).map λk=>r.getD k 0 * (U.getD k []).getD j 0).map A.int],by dsimp[jC,kD,bools,↓c,sm],Kp.refl.lay⟩
def nH{d a b:Nat}{T:M2}(hd:d<=24)(lT:T.length<=24)(rT:∀r∈T,r.length=d)(sU:Sq d U)(ha:Tq S a T)(hb:Tq S b U):∃R S',jT [.ref a,.ref b] S=.ok (.ref R) S'/\Tq S' R (nq T U)/\j6 S S':=by
 obtain⟨ts,D,N⟩:=ha.ex;obtain⟨us,b1,b2⟩:=hb.ex;have lt:=N.len;obtain⟨ys,S',P,g,y1,r1,Z⟩:=vj (cap:=[some 1]) (e:=jx [none,some 0,some 1] (kN<|jn (f1 lO)<|iS (iR 0) ja) (jz 0) kL<|jn (f1 Ik)<|iS (jx [none,some 1,some 0,some 2] (kN<|jn (f1 lO)<|iS (iR 1) ja) (jz 0) kL<|jc tZ (jc pI (iR 1)<|iR 0)<|jc pI (jc pI (iR 3)<|iR 0)<|iR 2) ja) (τ:=[.ref a,.ref b]) (S:=S) (S1:=S) (src:=kh<|iR 0) (s:=jP a (ts.map A.ref).length) (kJ (by dsimp[jC,kD,bools]) D)
  (λi acc V=>∃g:am,acc=g.map .ref/\Rows V g (nq (T.take i) U)/\j6 S V) ⟨[],rfl,trivial,Kp.refl⟩ (λi acc V B hP=>by
   obtain⟨g,rfl,M,kV⟩:=hP;have B:i<(ts.map A.ref).length:=B;rw[aG]at B;obtain⟨C,K⟩:=N.get<|aH B;have eg:T.getD i []=T[i]:=by rw[aK,aH C];rfl
   rw[eg]at K;have Y:T[i]∈T:=cU C;have F:=rT _ Y;have G:=kV.lst _ _ (λz=>z) K;have hs:kN (jn (f1 lO)<|iS (iR 0) ja) [.ref ts[i],.ref b] V=.ok (kR 0 (d:Int)) V:=pU (by dsimp[jC,kD,bools,G,aG,F])<|nF () ();obtain⟨J,c1,O⟩:=vO (cap:=[some 0,some 1]) (t:=kL) (e:=jn (f1 Ik)<|iS (jx [none,some 1,some 0,some 2] (kN<|jn (f1 lO)<|iS (iR 1) ja) (jz 0) kL<|jc tZ (jc pI (iR 1)<|iR 0)<|jc pI (jc pI (iR 3)<|iR 0)<|iR 2) ja) (τ:=[.ref ts[i],.ref b]) (S:=V) (S1:=V) (src:=kN<|jn (f1 lO)<|iS (iR 0) ja) (s:=kR 0 (d:Int)) (xs:=(List.range d).map λm:Nat=>A.int (m:Int)) hs (by rw[aG,bM];show((d:Int)-0).toNat=_;lia) (λ_=>False) (λW _ m f=>by
     rw[aG,bM]at f;rw[Ck f,aR,d8 f];rfl) (λ_ _=>rfl) (λ_=>true) (λx=>.int<|I_ T[i] U (Rj x).toNat) (λx hx W L=>⟨W,rfl,Kp.refl,λ_=>by
     obtain⟨m,f,rfl⟩:=bf.mp hx;have f:=cg.mp f;have p:=kV.trans L;exact U8 (S:=W) (j:=m) F sU (L.lst _ _ (λz=>z) G) (p.lst _ _ (λz=>z) b1) (b2.mono λq _ xs e=>p.lst _ _ (λz=>z) e) f hd⟩)<|by rw[aG,bM];lia
   have el:((((List.range d).map λm:Nat=>A.int (m:Int)).filter λ_=>true).map λx=>A.int<|I_ T[i] U (Rj x).toNat)=((List.range T[i].length).map λj=>I_ T[i] U j).map A.int:=by
    rw[c7.mpr λ_ _=>rfl,bg,bg,F];rfl
   rw[el]at c1;refine⟨.ref ts[i],.ref J.length,_,E7 (kV.lst _ _ (λz=>z) D)<|by rw[aR,aH B];rfl,c1,g++[J.length],by rw[bC];rfl,?_,(kV.trans O).lay⟩;unfold nq at M ⊢;rw[bV,aH C,bC];exact Rows.Lp M O.lay jk) (λacc V hP=>by
   obtain⟨_,_,_,kV⟩:=hP;exact Fe<|kV.lst _ _ (λz=>z) D) (by show(ts.map A.ref).length<=_;rw[aG];lia)
 rw[show(jP a (ts.map A.ref).length).k=T.length from(aG ..).trans lt,bX]at r1;subst y1;refine⟨S'.length,_,?_,⟨g,jk,r1.mono λr _ xs z=>j4 z⟩,Z.lay⟩;unfold jT sX tF;dsimp[jC,kD,bools,kQ,Nat.reduceAdd,Nat.reduceSub,↓P]
abbrev Yg (d:Nat):M2:=(List.range d).map λi=>(List.range d).map λj=>if i=j then(1:Int)else 0
def Uy{d a:Nat}{ts:am}(hd:d<=24)(ha:iU S a=some (ts.map .ref))(lt:ts.length=d) :
  ∃R S',jx [none,some 2] (kN<|jn (f1 lO)<|iS (iR 2) ja) (jz 0) kL (jx [none,some 0] (kN<|jn (f1 lO)<|iS (iR 1) ja) (jz 0) kL<|jn (f1 wH)<|iS (jc (u7 false) (iR 1)<|iR 0) ja) [x0,x1,.ref a,x3,x4] S=.ok (.ref R) S'/\Tq S' R (Yg d)/\j6 S S':=by
 obtain⟨ys,S',e1,f,D,r1,q⟩:=vj (cap:=[some 2]) (e:=jx [none,some 0] (kN<|jn (f1 lO)<|iS (iR 1) ja) (jz 0) kL<|jn (f1 wH)<|iS (jc (u7 false) (iR 1)<|iR 0) ja) (τ:=[x0,x1,.ref a,x3,x4]) (S:=S) (S1:=S) (src:=kN<|jn (f1 lO)<|iS (iR 2) ja) (s:=kR 0 (d:Int)) (pU (by dsimp[jC,kD,bools,ha,aG,lt])<|nF () ())
  (λi acc V=>∃f:am,acc=f.map .ref/\Rows V f ((List.range i).map λi=>(List.range d).map λj=>if i=j then(1:Int)else 0)/\j6 S V) ⟨[],rfl,trivial,Kp.refl⟩ (λi acc V g hP=>by
   obtain⟨f,rfl,B,kV⟩:=hP;have g:i<((d:Int)-0).toNat:=g;have C:=kV.lst _ _ (λz=>z) ha;have hs:kN (jn (f1 lO)<|iS (iR 1) ja) [.int i,.ref a] V=.ok (kR 0 (d:Int)) V:=pU (by dsimp[jC,kD,bools,C,aG,lt])<|nF () ();have c:=yR (cap:=[some 0]) (t:=kL) (e:=jn (f1 wH)<|iS (jc (u7 false) (iR 1)<|iR 0) ja) hs (λ_=>true) (λv=>A.int<|if ((i:Int) == v)=true then 1 else 0) (λ_ _ _=>rfl) (λv h1 h2 _=>by
    show jn (f1 wH) (iS (jc (u7 false) (iR 1)<|iR 0) ja) [.int v,.int i] V=_;dsimp[jC,kD,bools]) ()
   rw[c7.mpr λ_ _=>rfl]at c;have m:((kX 0 (d:Int)).map λv=>A.int<|if ((i:Int) == v)=true then 1 else 0)=((List.range d).map λj=>if i=j then(1:Int)else 0).map A.int:=by
    unfold kX;rw[bg,bg,show((d:Int)-0).toNat=d by lia];refine bU λj _=>?_;show A.int (if ((i:Int) == 0+(j:Int))=true then 1 else 0)=A.int (if i=j then 1 else 0);congr 1;by_cases c:i=j
    ·rw[aP c,aP<|by rw[ir];lia]
    ·rw[aM c,aM<|by rw[ir];lia]
   rw[m]at c;refine⟨.int (i:Int),.ref V.length,_,Ck (),c,f++[V.length],by rw[bC];rfl,?_,kV.lay⟩;rw[List.range_succ,bC];exact Rows.Lp B Kp.refl.lay jk) (λ_ _ _=>rfl) (by show((d:Int)-0).toNat<=_;lia)
 have p:(kR 0 (d:Int)).k=d:=by show((d:Int)-0).toNat=_;lia
 rw[p]at r1;subst D;exact⟨S'.length,_,e1,⟨f,jk,r1.mono λr _ xs z=>j4 z⟩,q.lay⟩
theorem uh:∀{rs qs:am}{T:M2},Rows S rs T->Rows S qs T->rX (uG S 11) (rs.map .ref) (qs.map .ref)=some true
 | [],[],[],_,_=>rfl
 | r::rs,q::qs,x::T,h,h'=>by
  show(uG S 11 (.ref r)<|.ref q).bind (λp=>(rX (uG S 11) (rs.map .ref)<|qs.map .ref).map λq=>p && q)=_;rw[uh h.2 h'.2,show uG S 11 (.ref r) (.ref q)=some true from by
   show(iU S r).bind (λxs=>(iU S q).bind λys=>rX (uG S 10) xs ys)=_;rw[h.1,cJ,h'.1,cJ,qO,aY rfl]]
  rfl
 | [],_::_,[],_,h=>h.elim
 | [],_,_::_,h,_=>h.elim
 | _::_,_,[],h,_=>h.elim
 | _::_,[],_::_,_,h=>h.elim
def Jz{a b:Nat}(h:Tq S a T)(h':Tq S b T):u7 true (.ref a) (.ref b) S=.ok (.bl false) S:=by
 obtain⟨g,h1,h2⟩:=h.ex;obtain⟨j,d,f⟩:=h'.ex;have e:uG S 12 (.ref a) (.ref b)=some true:=by
  show(iU S a).bind (λxs=>(iU S b).bind λys=>rX (uG S 11) xs ys)=_;rw[h1,cJ,d,cJ];exact uh h2 f
 exact Vz e
end K70
namespace K70
open PySem L2 Am
def My{d:Nat}{T:M2}(rT:∀r∈T,r.length=d):(∀r∈nq T U,r.length=d)/\(nq T U).length=T.length:=by
 unfold nq;refine⟨λr f=>?_,aG ..⟩;obtain⟨q,hq,rfl⟩:=bf.mp f;rw[aG,bM,rT q hq]
structure Kps (d:Nat)(Ts:List M2):Prop where
 d4:d<=24
 l:Ts.length<=10
 sq:∀i,i<Ts.length->Sq d (Ts.getD i [])
 one:∀i,i<Ts.length->nq (Ts.getD i []) (Ts.getD i [])=Yg d
 far:∀i,i<Ts.length->∀j,j<i->1<i-j->nq (Ts.getD i []) (Ts.getD j [])=nq (Ts.getD j []) (Ts.getD i [])
 near:∀i,i<Ts.length->∀j,j<i->i-j=1->nq (nq (Ts.getD i [])<|Ts.getD j []) (Ts.getD i [])=nq (nq (Ts.getD j [])<|Ts.getD i []) (Ts.getD j [])
def in2{d R i:Nat}{Ts:List M2}{ms:am}(kp:Kps d Ts)(h1:iU S R=some (ms.map .ref))(h2:ms.length=Ts.length)(h3:∀i m,ms[i]?=some m->Tq S m (Ts.getD i []))(hi:ms[i]?=some ma) :
  ∃(y3 y4:A) (S':iW),kZ qy (jz 3) nL [.ref R,.int i,.ref ma,x3,x4] S=.nx [.ref R,.int i,.ref ma,y3,y4] S'/\j6 S S':=by
 have D:i<Ts.length:=by rw[<- h2];exact(aJ.mp hi).1
 have dl:=kp.l;have W:=h3 i ma hi;have g:=kp.sq i D;refine BN (lo:=0) (hi:=(i:Int)) (S:=S) (S1:=S) (show qy _ _=_ from pU (by dsimp[jC,kD,bools])<|nF () ())
  (λj τ V=>∃(y3 y4:A),τ=[.ref R,.int i,.ref ma,y3,y4]/\j6 S V) (λZ=>∃(y3 y4:A) (S':iW),Z=.nx [.ref R,.int i,.ref ma,y3,y4] S'/\j6 S S')
  ⟨_,_,rfl,Kp.refl⟩ ?_ ?_
 ·rintro j τ V B ⟨y3,y4,rfl,kV⟩;have B:j<i:=()
  have p:j<ms.length:=()
  have f:=kp.sq j ();have L:rV (ms.map A.ref) (0+(j:Int))=some (.ref ms[j]):=vV (k:=j) () (by rw[aR,aH p];rfl);have tI:=W.kp kV;have q:=(h3 j ms[j] (aH p)).kp kV;have J:=kV.lst _ _ (λz=>z) h1;obtain⟨R1,V1,e1,G,F⟩:=nH (S:=V) kp.d4 (by rw[g.l];exact kp.d4) g.r f tI q;obtain⟨R2,Y,e2,t2,K⟩:=nH (S:=V1) kp.d4 (by rw[f.l];exact kp.d4) f.r g (q.kp F)<|tI.kp F;by_cases c:1<i-j
  ·rw[kp.far i D j B c]at G;have ne:=Jz (G.kp K) t2;left;refine⟨[.ref R,.int i,.ref ma,.int<|0+(j:Int),.ref ms[j]],Y,?_,_,_,rfl,(kV.trans F).trans K⟩;unfold nL;have C:((i:Int)-(0+(j:Int)) == 1)=false:=by rw[cK];lia
   dsimp[jC,kD,bools,J,L,aY<|show(i:Int)-(0+(j:Int))>1 by lia,e1,e2,ne,C]
  ·have c1:i-j=1:=()
   obtain⟨R3,T,f1,u1,p1⟩:=nH (S:=V) kp.d4 (by rw[g.l];exact kp.d4) g.r f tI q;have O:=My (U:=Ts.getD j []) g.r;obtain⟨R4,W2,f2,N,p2⟩:=nH (S:=T) kp.d4 (by rw[O.2,g.l];exact kp.d4) O.1 g u1<|tI.kp p1;have t:=p1.trans p2;obtain⟨R5,W3,f3,u3,p3⟩:=nH (S:=W2) kp.d4 (by rw[f.l];exact kp.d4) f.r g (q.kp t)<|tI.kp t;have M:=My (U:=Ts.getD i []) f.r;obtain⟨R6,P,f4,u4,p4⟩:=nH (S:=W3) kp.d4 (by rw[M.2,f.l];exact kp.d4) M.1 f u3<|q.kp<|t.trans p3;rw[kp.near i D j B c1]at N;have ne:=Jz (N.kp<|p3.trans p4) u4;left;refine⟨[.ref R,.int i,.ref ma,.int<|0+(j:Int),.ref ms[j]],P,?_,_,_,rfl,((kV.trans t).trans p3).trans p4⟩;unfold nL;have C:((i:Int)-(0+(j:Int)) == 1)=true:=by rw[ir];lia
   dsimp[jC,kD,bools,J,L,bu<|show ¬(i:Int)-(0+(j:Int))>1 by lia,C,f1,f2,f3,f4,ne]
 ·rintro τ V ⟨y3,y4,rfl,kV⟩;exact⟨y3,y4,V,rfl,kV⟩
def MU{d R:Nat}(kp:Kps d Ts)(h:T3 S R Ts):∃S',nV [.ref R] S=.ok (.bl true) S'/\j6 S S':=by
 obtain⟨t,h1,h2,h3⟩:=h.ex;have dl:=kp.l;have B:∃(p q f g:A) (S':iW),kZ qo (jz 1) qC [.ref R,.unb,.unb,.unb,.unb] S=.nx [.ref R,p,q,f,g] S'/\j6 S S':=by
  refine BN (lo:=0) (hi:=(t.length:Int)) (S:=S) (S1:=S) (show qo _ _=_ from pU (by dsimp[jC,kD,bools,h1,aG])<|nF () ())
   (λi τ V=>∃(p q f g:A),τ=[.ref R,p,q,f,g]/\j6 S V) (λZ=>∃(p q f g:A) (S':iW),Z=.nx [.ref R,p,q,f,g] S'/\j6 S S')
   ⟨_,_,_,_,rfl,Kp.refl⟩ ?_ ?_
  ·rintro i τ V hi ⟨p,q,f,g,rfl,kV⟩;have G:i<t.length:=()
   have K:i<Ts.length:=()
   have F:=aH G;have U:rV (t.map A.ref) (0+(i:Int))=some (.ref t[i]):=vV (k:=i) () (by rw[aR,F];rfl);have tI:=(h3 i t[i] F).kp kV;have C:=kp.sq i K;have N:=kV.lst _ _ (λz=>z) h1;obtain⟨R1,V1,e1,J,L⟩:=nH (S:=V) kp.d4 (by rw[C.l];exact kp.d4) C.r C tI tI;rw[kp.one i K]at J;obtain⟨ts,g1,O⟩:=(tI.kp L).ex;obtain⟨R2,V2,e2,P,M⟩:=Uy (S:=V1) (x0:=.ref R) (x1:=.int<|0+(i:Int)) (x3:=f) (x4:=g) kp.d4 g1 (by rw[O.len,C.l]);have ne:=Jz (J.kp M) P;have D:=kV.trans<|L.trans M;obtain⟨z3,Y,W,e3,q3⟩:=in2 (S:=V2) (i:=i) (x3:=f) (x4:=g) kp (D.lst _ _ (λz=>z) h1) h2 (λj m z=>(h3 j m z).kp D) F;left;refine⟨[.ref R,.int<|0+(i:Int),.ref t[i],z3,Y],W,?_,_,_,_,_,rfl,D.trans q3⟩;have T:(0:Int)+(i:Int)=(i:Int):=cF _;unfold qC;dsimp[jC,kD,bools,N,U,e1,↓e2,ne];rw[T];exact e3
  ·rintro τ V ⟨p,q,f,g,rfl,kV⟩;exact⟨p,q,f,g,V,rfl,kV⟩
 obtain⟨p,q,f,g,S',x,k⟩:=B;refine⟨S',?_,k⟩;unfold nV sG sF;dsimp[jC,kD,bools,kQ,Nat.reduceAdd,Nat.reduceSub,↓x]
structure Ok70 (n:Nat)(G:List Os):Prop where
 n5:n<5
 n1:1<=n
 gl:G.length<=1000
 pm:∀g∈G,(∀o∈g,o.Perm (Fw.rg n)/\Iv.inv o<8)/\g.length<=24/\g≠[]
 v1:∀g∈G,∀o∈g,∀e∈Kl.K o,Po.val e.2 1≠0->Po.val e.2 1=1
 kp:∀g∈G,Kps g.length (Rc n g)
 rh:∀S:iW,∃(r:Nat) (S':iW),jX [.int n] S=.ok (.ref r) S'/\Hs S' r r G/\j6 S S'
def U5{n:Nat}{G:List Os}(ok:Ok70 n G):∃(y2 y3:A) (S':iW),kZ AH (jz 2) Bv [x0,.int n,.unb,.unb] S=.nx [x0,.int n,y2,y3] S':=by
 obtain⟨r,S1,e1,h1,U⟩:=ok.rh S;obtain⟨hs,p,t,P⟩:=h1.ex;have T:hs.length=G.length:=by rw[<- t,aG]
 refine nO (n:=r) (xs:=hs.map λh=>A.ref h.2) (S:=S) (S1:=S1) (show AH _ _=_ from kJ (S1:=S1) (by dsimp[jC,kD,bools,e1]) p)
  (λi τ V=>∃(y2 y3:A),τ=[x0,.int n,y2,y3]/\j6 S1 V) (λZ=>∃(y2 y3:A) (S':iW),Z=.nx [x0,.int n,y2,y3] S')
  ⟨_,_,rfl,Kp.refl⟩ (λi τ V z=>?_) ?_ ?_
 ·obtain⟨_,_,_,k⟩:=z;exact k.lst _ _ (λz=>z) p
 ·rintro i z τ V j ⟨y2,y3,rfl,kV⟩;rw[aR]at j;obtain⟨q,hq,rfl⟩:=aW.mp j;have B:=bB hq;have mg:q.1∈G:=by rw[<- t];exact dD (f:=λx:Os×Nat=>x.1) B
  obtain⟨p1,p2,p3⟩:=ok.pm q.1 mg;obtain⟨R,W,C,d,K⟩:=Td (S:=V) (g:=q.2) ok.n5 p1 (ok.v1 q.1 mg) (kV.lst _ _ (λz=>z) (P q B).1) () p3 ok.n1;obtain⟨N,M,O⟩:=MU (ok.kp q.1 mg) d;obtain⟨m,F,D,_⟩:=d.ex;have L:m.length=n-1:=by rw[D];unfold Rc;rw[aG,bM]
  have n1:=ok.n1;have J:(((m.map A.ref).length:Int) == (n:Int)-1)=true:=by rw[ir,aG,L];lia
  refine⟨[x0,.int n,.ref q.2,y3],V,rfl,.inl ⟨[x0,.int n,.ref q.2,.ref R],N,?_,_,_,rfl,(kV.trans K).trans O⟩⟩;unfold Bv;dsimp[jC,kD,bools,C,F,J,bS,M]
 ·rintro τ V ⟨y2,y3,rfl,_⟩;exact⟨y2,y3,V,rfl⟩
def Zo{n:Nat}{G:List Os}(hn:n<=4)(h:Okn n 200 (ao n)<|lz (ao n) C)(hg:QY (ao n) (lz (ao n) C)=G)(S:iW):∃(r:Nat) (S':iW),jX [.int n] S=.ok (.ref r) S'/\Hs S' r r G/\j6 S S':=by
 obtain⟨r,S',a,b,_,c⟩:=UC (S:=S) hn h;rw[hg]at b;exact⟨r,S',a,b,c⟩
instance (d:Nat) (U:M2):Decidable (Sq d U):=decidable_of_iff (U.length=d/\(∀r∈U,r.length=d)/\∀r∈U,∀x∈r,x.natAbs<=1000) ⟨λh=>⟨h.1,h.2.1,h.2.2⟩,λh=>⟨h.l,h.r,h.b⟩⟩
abbrev Wf (d:Nat)(Ts:List M2):Bool:=decide (d<=24) && decide (Ts.length<=10) && (List.range Ts.length).all λi=>decide (Sq d<|Ts.getD i []) && decide (nq (Ts.getD i []) (Ts.getD i [])=Yg d) && (List.range i).all λj=>if i-j=1 then decide (nq (nq (Ts.getD i [])<|Ts.getD j []) (Ts.getD i [])=nq (nq (Ts.getD j [])<|Ts.getD i []) (Ts.getD j []))else decide (nq (Ts.getD i []) (Ts.getD j [])=nq (Ts.getD j []) (Ts.getD i []))
def Et{d:Nat}(h:Wf d Ts=true):Kps d Ts:=by
 unfold Wf at h;rw[cX,cX]at h;have a:=λi (f:i<Ts.length)=>dc.mp h.2 i<|cg.mpr f;have b:∀i,i<Ts.length->Sq d (Ts.getD i [])/\nq (Ts.getD i []) (Ts.getD i [])=Yg d/\∀j,j<i->(if i-j=1 then decide (nq (nq (Ts.getD i [])<|Ts.getD j []) (Ts.getD i [])=nq (nq (Ts.getD j [])<|Ts.getD i []) (Ts.getD j []))else decide (nq (Ts.getD i []) (Ts.getD j [])=nq (Ts.getD j []) (Ts.getD i [])))=true:=λi f=>by
  have:=a i f;rw[cX,cX]at this;exact⟨bH this.1.1,bH this.1.2,λj g=>dc.mp this.2 j<|cg.mpr g⟩
 refine⟨bH h.1.1,bH h.1.2,λi f=>(b i f).1,λi f=>(b i f).2.1,λi f j g c=>?_,λi f j g c=>?_⟩
 ·have:=(b i f).2.2 j g;rw[aM ()]at this;exact bH this
 ·have:=(b i f).2.2 j g;rw[aP c]at this;exact bH this
end K70
namespace K70
open PySem L2 Am
def kb2:(Ze.all λg=>Wf g.length<|Rc 2 g)=true:=by decide +kernel
def VZ:Ok70 2 Ze:=⟨by decide,by decide,by decide +kernel,by decide +kernel,by decide +kernel,λg hg=>Et<|dc.mp kb2 g hg,Zo ⋯ on2 gt2⟩
def kb3:(Zb.all λg=>Wf g.length<|Rc 3 g)=true:=by decide +kernel
def WO:Ok70 3 Zb:=⟨by decide,by decide,by decide +kernel,by decide +kernel,by decide +kernel,λg hg=>Et<|dc.mp kb3 g hg,Zo ⋯ on3 gt3⟩
def kb4:(Yw.all λg=>Wf g.length<|Rc 4 g)=true:=by decide +kernel
def Q7:Ok70 4 Yw:=⟨by decide,by decide,by decide +kernel,by decide +kernel,by decide +kernel,λg hg=>Et<|dc.mp kb4 g hg,Zo ⋯ on4 gt4⟩
def UM(ns:ag)(hl:ns.length<=63):∃S',zo [.frz<|ns.map .int] []=.ok (.bl true) S':=by
 obtain⟨F,g⟩:=PL (S:=[.lst [A.int 4,A.int 3,A.int 4,A.int 2]]) (ns:=ns) (k:=0) ⋯;obtain⟨f,d⟩:∃f:iW,f=[.lst [A.int 4,A.int 3,A.int 4,A.int 2]]:=⟨_,rfl⟩;rw[<- d]at g;have t:iU f 0=some [A.int 4,A.int 3,A.int 4,A.int 2]:=by rw[d];rfl
 have j:f.length=1:=by rw[d];rfl
 have K:newL [A.int 4,A.int 3,A.int 4,A.int 2] []=.ok (.ref 0) f:=by rw[d];exact vR (show 4<=16777216 by decide)
 obtain⟨S1,e1,D,B⟩:=Oz (S:=f) (c:=F) (k:=1) ⋯ ⋯;obtain⟨q,S2,e2,O,P,N,J⟩:=digit (m:=4) D ⋯ ⋯;have C:iU S2 0=some [A.int 4,A.int 3,A.int 4,A.int 2]:=J.lst _ _ (by show ¬0=f.length;lia)<|B.lst _ _ (λz=>z) t;rw[j]at e1 e2;obtain⟨n,G,p,ok⟩:∃(n:Nat) (G:List Os),rV [A.int 4,A.int 3,A.int 4,A.int 2] q=some (.int n)/\Ok70 n G:=by
  have:q=0\/q=1\/q=2\/q=3:=()
  rcases this with rfl|rfl|rfl|rfl
  ·exact⟨4,_,rfl,Q7⟩
  ·exact⟨3,_,rfl,WO⟩
  ·exact⟨4,_,rfl,Q7⟩
  ·exact⟨2,_,rfl,VZ⟩
 obtain⟨L,M,S',x⟩:=U5 (S:=S2) (x0:=.frz<|ns.map .int) ok;refine⟨S',?_⟩;unfold zo LL JG;dsimp[jC,kD,bools,kQ,Nat.reduceAdd,Nat.reduceSub,K,g,e1,e2,C,p,↓x]
end K70
namespace K70
open PySem L2 Am
def all_mk{l:PySem.W.OpenLaw}{w:ah}{K:au}{h:aq}{mg:Str->bd}{fa:ak}(X:K.In h)(G:h.Ns mainGlobals mg)(hfa:mg "law" = some (.ref fa))
  (a1:Df K "is_whole" uX)
  (a2:Df K "need_pair" sj)
  (a3:Df K "is_exchange" qw)
  (a4:Df K "exchanged_places" mE)
  (a5:Df K "exchanged" sy)
  (a6:Df K "falls" A6)
  (a7:Df K "factorial" sV)
  (a8:Df K "numbered" u_)
  (a9:Df K "as_polynomial" oO)
  (a10:Df K "plus" Ei)
  (a11:Df K "times" Ac)
  (a12:Df K "put_before" q_)
  (a13:Df K "as_sum" yk)
  (a14:Df K "need_like" sZ)
  (a15:Df K "added" AR)
  (a16:Df K "scaled" xM)
  (a17:Df K "by_exchange" qz)
  (a18:Df K "number_at_one" n8)
  (a19:Df K "kept_by_fall" pQ)
  (a20:Df K "found_kept" o5)
  (a21:Df K "leads_among" qu)
  (a22:Df K "number_at" sN)
  (a23:Df K "number_tables" oq)
  (a24:Df K "all_orders" rR)
  (a25:Df K "has_other_fall" nJ)
  (a26:Df K "reached_from" pH)
  (a27:Df K "gathered" uJ)
  (a28:Df K "right_hearths" oA)
  (a29:Df K "_law_cell" uR)
  (a30:Df K "_law_bag" wj)
  (a31:Df K "_law_mixed" sA)
  (a32:Df K "_law_digit" sR)
  (a33:Df K "_law_times" s_)
  (a34:Df K "_law_keeps" tu)
  (a35:Df K "law" MD)
  (aaX:PySem.W.nsIn K mainGlobals "isinstance" = some none)
  (aaY:PySem.W.nsIn K mainGlobals "bool" = some none)
  (aaZ:PySem.W.nsIn K mainGlobals "int" = some none)
  (aa0:PySem.W.nsIn K mainGlobals "len" = some none)
  (aa1:PySem.W.nsIn K mainGlobals "list" = some none)
  (aa2:PySem.W.nsIn K mainGlobals "tuple" = some none)
  (aa3:PySem.W.nsIn K mainGlobals "range" = some none)
  (aa4:PySem.W.nsIn K mainGlobals "sorted" = some none)
  (aa5:PySem.W.nsIn K mainGlobals "dict" = some none)
  (aa6:PySem.W.nsIn K mainGlobals "any" = some none)
  (aa7:PySem.W.nsIn K mainGlobals "abs" = some none)
  (aa8:PySem.W.nsIn K mainGlobals "sum" = some none)
  {aaV:Tok} (aa9:PySem.W.nsIn K mainGlobals "MOST_THINGS" = some (some<|.int 4 aaV))
  {a_AT_A_FALL:ak} (aa_:PySem.W.nsIn K mainGlobals "AT_A_FALL" = some (some<|.ref a_AT_A_FALL)) (kp_AT_A_FALL:VJ K a_AT_A_FALL=some [((-1:Int),(1:Int)),((1:Int),(-1:Int))])
  : ∃fd:FuncData,(∀(s:aC) (v:af),BindsTo s fd ⟨[v],[]⟩ [("_law_script",v)])/\∀base:aq,K.In base->base.Ns mainGlobals mg->FnOk l.prog w K mg base o9 24 fa fd ["_law_script"] (p8 K 1 zo):=by
 obtain⟨f,fd,a,F⟩:=a35;have e:=hfa.symm.trans (iC X G a)
 cases e
 have aas:=bZ X G aaX;have aaw:=bZ X G aaY;have U:=bZ X G aaZ;have g:=bZ X G aa0;have B:=bZ X G aa1;have V:=bZ X G aa2;have k:=bZ X G aa3;have q:=bZ X G aa4;have M:=bZ X G aa5;have aaH:=bZ X G aa6;have aaM:=bZ X G aa7;have aaN:=bZ X G aa8;have aaF:∃t,mg "MOST_THINGS" = some (.int 4 t):=⟨aaV,iC X G aa9⟩;have j:∃a,mg "AT_A_FALL" = some (.ref a)/\VJ K a=some [((-1:Int),(1:Int)),((1:Int),(-1:Int))]:=⟨a_AT_A_FALL,iC X G aa_,kp_AT_A_FALL⟩;refine⟨fd,λs v=>(by obtain⟨_,_,_,_,_,_,_,_,_,rfl,_,_⟩:=F.ex;exact .of_eq rfl),λbase _ _=>?_⟩;have E:En l.prog w K mg base:=⟨h,X,G⟩;have P:=a1.kA E (λF=>Dh F aas aaw U)<|Fc λ_ _ _ _ _ _ _=>rfl;have aaA:=a2.kA E (λF=>AB F g)<|BZ λ_ _ _ _ _ _ _ _=>rfl;have aax:=a3.kA E (λF=>xW F P)<|BZ λ_ _ _ _ _ _ _ _=>rfl;have aay:=a4.kA E (λF=>uw F B V)<|Y_ λ_ _ _ _ _ _ _ _ _=>rfl;have L:=a5.kA E (λF=>Aa F g aax aay)<|BZ λ_ _ _ _ _ _ _ _=>rfl;have m:=a6.kA E (λF=>KG F k g)<|Fc λ_ _ _ _ _ _ _=>rfl;have O:=a7.kA E (λF=>AY F k)<|Fc λ_ _ _ _ _ _ _=>rfl;have Y:=a8.kA E (λF=>C4 F B k g V O P)<|BZ λ_ _ _ _ _ _ _ _=>rfl;have J:=a9.kA E (λF=>v8 F q)<|Fc λ_ _ _ _ _ _ _=>rfl;have aaz:=a10.kA E (λF=>Om F M J)<|BZ λ_ _ _ _ _ _ _ _=>rfl;have T:=a11.kA E (λF=>JN F J)<|BZ λ_ _ _ _ _ _ _ _=>rfl;have C:=a12.kA E (λF=>zb F aaz)<|Y_ λ_ _ _ _ _ _ _ _ _=>rfl;have p:=a13.kA E (λF=>IP F q)<|Fc λ_ _ _ _ _ _ _=>rfl;have aaB:=a14.kA E (λF=>AN F aaA)<|BZ λ_ _ _ _ _ _ _ _=>rfl;have aat:=a15.kA E (λF=>L4 F aaB C p)<|BZ λ_ _ _ _ _ _ _ _=>rfl;have aau:=a16.kA E (λF=>IV F C T p)<|BZ λ_ _ _ _ _ _ _ _=>rfl;have aaC:=a17.kA E (λF=>yr F B j C L m T p)<|BZ λ_ _ _ _ _ _ _ _=>rfl;have N:=a18.kA E (λF=>v9 F M)<|Fc λ_ _ _ _ _ _ _=>rfl;have d:∀{Fs:ae->iW->R A} {kr:Nat},mO l.prog w K mg base (5+2 * kr) "found_kept" kB Fs->mO l.prog w K mg base (5+2 * kr+1) "kept_by_fall" lB (kc jV<|jS Fs):=λG=>a19.kA E (λF=>wQ F L aat aau aaC N m G)<|Y_ λ_ _ _ _ _ _ _ _ _=>rfl;have aaD:=a20.rA E (λF hm hk hb=>sd F m d hm hk hb 8)<|BZ λ_ _ _ _ _ _ _ _=>rfl;have D:=a21.kA E (λF=>yE F aaD N)<|Fc λ_ _ _ _ _ _ _=>rfl;have aaE:=a22.kA E (λF=>AJ F m)<|us4 λ_ _ _ _ _ _ _ _ _ _=>rfl;have aaS:=a23.kA E (λF=>we F k g D aaE)<|Fc λ_ _ _ _ _ _ _=>rfl;have aaJ:=a24.kA E (λF=>yT F k aaF O Y)<|Fc λ_ _ _ _ _ _ _=>rfl;have aaL:=a25.kA E (λF=>vm F aaH m)<|BZ λ_ _ _ _ _ _ _ _=>rfl;have aaI:=a26.kA E (λF=>wN F)<|BZ λ_ _ _ _ _ _ _ _=>rfl;have aaK:=a27.kA E (λF=>C_ F q aaI)<|Fc λ_ _ _ _ _ _ _=>rfl;have Z:=a28.kA E (λF=>vX F aaJ D aaK aaL)<|Fc λ_ _ _ _ _ _ _=>rfl;have aaQ:=a29.kA E (λF=>Dp F g)<|BZ λ_ _ _ _ _ _ _ _=>rfl;have aaP:=a30.kA E (λF=>Ey F aaM)<|BZ λ_ _ _ _ _ _ _ _=>rfl;have aav:=a31.kA E (λF=>BP F)<|Fc λ_ _ _ _ _ _ _=>rfl;have aaO:=a32.kA E (λF=>Bj F k aav)<|BZ λ_ _ _ _ _ _ _ _=>rfl;have aah:=a33.kA E (λF=>Ba F k g aaN)<|BZ λ_ _ _ _ _ _ _ _=>rfl;have aaT:=a34.kA E (λF=>BJ F k g U aah)<|Fc λ_ _ _ _ _ _ _=>rfl;exact RP F g aaO aaP aaQ Z aaS aaT
def walk{l:PySem.W.OpenLaw}{q:aj}{XP:(Str->bd)->aq->Prop}{YP:ah->aq->Prop}{d:DefRec}{K:Params->au}(hn:l.most=some 63)(hdf:d.params.defaults=[])
  (hY:∀(w:ah) (h:aq),YP w h->(K w.params).In h)
  (F:∀(w:ah) (mg:Str->bd) (fa:ak) (h:aq),(K w.params).In h->h.Ns mainGlobals mg->mg d.name=some (.ref fa) ->
   ∃fd:FuncData,(∀(s:aC) (u:af),BindsTo s fd ⟨[u],[]⟩ [("_law_script",u)])/\∀base:aq,(K w.params).In base->base.Ns mainGlobals mg->FnOk l.prog w (K w.params) mg base o9 24 fa fd ["_law_script"] (p8 (K w.params) 1 zo)) :
  PySem.W.WalkO q loose XP YP l.row.toRowW d [] (λf vs=>PySem.call f vs):=
 L2.Qp (n:=63) (k:=24) (x := "_law_script") (CX:=λ_=>o9) (sp:=λw=>p8 (K w.params) 1 zo) hn ⋯ hdf ⟨rfl,by decide,by decide,rfl⟩ hY F (λ_ H a g m j hS=>IY j hS<|UM g m) λ_ _ _ _ _ z=>z
end K70
open PySem PySem.W PyProof.Rows
namespace PySem.W.Fast
local macro_rules|`(command|universe $x*)=>do return Lean.mkNullNode (←x.mapM λx=>`(command|def $x:ident:=Nat))
universe tw5490759357509619700 tw12697424240126105843 tw2027013173534202048 tw13108233683487884531 tw7653414106771426574 tw10497759393222115354 tw7630324007951778308 tw15008598516944625820 tw6732354602672515793 tw4281960353826179717 tw4058394281321531349 tw1146271772674663276 tw15952120777587675411 tw17008714498628311062 tw7858267090427817835 tw15525462035164185842 tw4789728339520822032 tw12990415910921329625 tw12593017211020291946 tw5858331155604404972 tw7818853108632501389 tw4856682495199643759 tw7404248439914481699 tw2030287425505261868 tw4765769044087208055 tw12873244314788650442 tw17027706584845697500 tw10966561998226370430 tw4567726820488628807 tw18274143800970517253 tw5510092805122698821 tw10364029489138251987 tw6713959359731968560 tw14246174026046626054 tw12736151173413353822 tw16997933214139941834 tw15462202390628263557 tw10343606690239804167 tw13654212472756996291 tw13332483863073425075 tw5820745117917026758 tw2930110608985435807 tw8441323655558176728 tw5003110416195998423 tw7158943974836673856 tw17074732250653577913 tw5650273734699923796 tw17293203188168200700 tw14200890892419379078 tw15826146433197165373 tw9193255856627972745 tw11986363882081115588 tw13207755846527581749 tw3138538574377718581 tw2058268643787516598 tw13192791834402531312 tw15160557521540771758 tw7273177751885597039 tw2306540556857553321 tw4551011326203479203 tw9717185765902291392 tw1294122071434021191 tw14500636742808830320 tw9858403338505859342 tw14389740843077947458 tw12568353701427390319 tw2940967181089337706 tw3549669000707277172 tw10764856231974383877 tw1540968789302160775 tw13236516329264679211 tw234125834575983294 tw14102113149047366026 tw1228681378230132776 tw1081791998244554044 tw15156283744443482895 tw242336274825513089 tw14887247996470380637 tw3211993471840141365 tw16964259841372542462 tw6667545741075063379 tw16183719793406906288 tw5680650773327279389 tw8616969921549639148 tw1643970298873043857 tw17425088170008683143 tw1747821198431655512 tw3392764652539772467 tw16618021797254461516 tw5841430321891214113 tw261229053365647699 tw7236836809119133645 tw4790954654340158542 tw7090332864943509659 tw4137208048021889794 tw7177627606859369036 tw18222076373251762360 tw8205192241230287149 tw7558428812678600878 tw7217084854073103038 tw17063311567828098499 tw6614568934069954906 tw6708427155550193758 tw14087504233384208560 tw7033650853704542171 tw5351568425476494159 tw2725363432246406175 tw2590860670669944675 tw14537487603860471878 tw7982166419166336050 tw14597076284599153858 tw13675250257301529941 tw1558860409473034144 tw5623028437237944179 tw4166897902772157168 tw1820754643620999303 tw1570244325538786247 tw16281178187849097763 tw8446671251781532735 tw3978965858732495962 tw17063274266988172908 tw5378677001113391385 tw2919155794059687626 tw11751112790926472400 tw18108868728053917823 tw2257544626246184266 tw675556331556748469 tw14304024054517877039 tw14955331208233421180 tw10597969755222018762 tw13233200249404773732 tw12343299522218810571 tw3220100561658203955 tw7174845790162930046 tw2903811923790496683 tw1677373563276914188 tw10299058046864306946 tw2198059888952287673 tw5767998519282551856 tw8080339269299878330
end PySem.W.Fast
set_option maxRecDepth 100000 in
set_option maxHeartbeats 0 in
theorem PySem.Challenge.cw_undercells_k70_number_tables_keep_the_ru_holds : PySem.Challenge.rw_undercells_k70_number_tables_keep_the_ru.Holds := by
 w_on;o_law;k_head;(case hw=>w_witness2)
 k_fill
 refine K70.walk (l:=PySem.Challenge.rw_undercells_k70_number_tables_keep_the_ru) rfl rfl (fun w h Y=>PySem.W.kIn_of Y) ?F
 case F=>
  intro w mg fa h KX G hmg;refine' K70.all_mk KX G hmg (.of ?_ ?_ ?_ ?_) (.of ?_ ?_ ?_ ?_) (.of ?_ ?_ ?_ ?_) (.of ?_ ?_ ?_ ?_) (.of ?_ ?_ ?_ ?_) (.of ?_ ?_ ?_ ?_) (.of ?_ ?_ ?_ ?_) (.of ?_ ?_ ?_ ?_) (.of ?_ ?_ ?_ ?_) (.of ?_ ?_ ?_ ?_) (.of ?_ ?_ ?_ ?_) (.of ?_ ?_ ?_ ?_) (.of ?_ ?_ ?_ ?_) (.of ?_ ?_ ?_ ?_) (.of ?_ ?_ ?_ ?_) (.of ?_ ?_ ?_ ?_) (.of ?_ ?_ ?_ ?_) (.of ?_ ?_ ?_ ?_) (.of ?_ ?_ ?_ ?_) (.of ?_ ?_ ?_ ?_) (.of ?_ ?_ ?_ ?_) (.of ?_ ?_ ?_ ?_) (.of ?_ ?_ ?_ ?_) (.of ?_ ?_ ?_ ?_) (.of ?_ ?_ ?_ ?_) (.of ?_ ?_ ?_ ?_) (.of ?_ ?_ ?_ ?_) (.of ?_ ?_ ?_ ?_) (.of ?_ ?_ ?_ ?_) (.of ?_ ?_ ?_ ?_) (.of ?_ ?_ ?_ ?_) (.of ?_ ?_ ?_ ?_) (.of ?_ ?_ ?_ ?_) (.of ?_ ?_ ?_ ?_) (.of ?_ ?_ ?_ ?_) ?_ ?_ ?_ ?_ ?_ ?_ ?_ ?_ ?_ ?_ ?_ ?_ ?_ ?_ ?_
  any_goals first|k_is|kernel_rfl
