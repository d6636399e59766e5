import PyProof.Rows.All
import Wide.All
import OpenK.AllK
import Wide.FinOn
import Lean
import PyProof.EqAt
import PyProof.EqKinds
import PyProof.TupleCall
import PySem.Challenge.RW_undercells_k40_kept_sums
set_option autoImplicit true
set_option relaxedAutoImplicit true
set_option Elab.async false
set_option linter.all false
set_option maxRecDepth 100000
set_option compiler.extract_closed false
set_option maxHeartbeats 4000000
local macro_rules|`($a<|>$b)=>`(autoParam $a $b)
local macro_rules|`(command|abbrev $n:declId $s:optDeclSig $v:declVal)=>`(command|noncomputable def $n:declId $s:optDeclSig $v:declVal)|`(command|meta abbrev $n:declId $s:optDeclSig $v:declVal)=>`(command|@[reducible]noncomputable def $n:declId $s:optDeclSig $v:declVal)
local macro_rules|`(∅)=>`(by decide +kernel)
local macro_rules|`(⋯)=>`(by decide)
local macro_rules|`(tactic|dsimp[$l,*])=>`(tactic|simp only[$l,*])|`(tactic|dsimp[$l,*]$o:location)=>`(tactic|simp only[$l,*]$o:location)
local macro_rules(kind:=Lean.Parser.Term.structInst)|`({})=>`({cls:=.type "list",data:=.seq ([]:List PySem.Value).toArray})
set_option hygiene false
local macro_rules|`(tactic|room)=>`(tactic|obtain⟨ρ,S,τ,R,r,h⟩:=h9)
local macro_rules|`(tactic|z_go)=>`(tactic|intro X hP hw hK hc i pins s σ H E I hf st hg)
local macro_rules|`(tactic|x_go)=>`(tactic|obtain⟨ρ,S,a,b,R,va,vb,h⟩:=h9)
local macro_rules|`(tactic|w_up)=>`(tactic|intro pins s σ H xs us Q I r h)
local macro_rules|`(tactic|k_ne)=>`(tactic|intro pins s σ H Q I h)
local macro_rules|`(tactic|kt_k)=>`(tactic|obtain⟨w,rfl,ρ,S,x,R,hv,h⟩:=NR h0)
local macro_rules|`(tactic|kd_p)=>`(tactic|refine⟨ρ,S,τ,R,r,jF (jJ h) .refl λx S1 h1 ρ1 H1 v e1 R1 v1=>?_⟩)
local macro_rules|`(tactic|gn_on)=>`(tactic|obtain⟨f0,f1,f2,f3,f4,f5⟩:=hf it (by simp))
local macro_rules|`(tactic|gp_on)=>`(tactic|refine⟨ρ,S,τ,R,r,jF (jJ h) .refl λo S1 h1 ρ1 H1 x e1 R1 v1=>⟨ρ1,S1,τ,R1,r.ext e1,jF (jJ h1) e1 λi S2 h2 ρ2 H2 y e2 R2 v2=>?_⟩⟩)
local macro_rules|`(tactic|kj_on)=>`(tactic|intro pins s σ H x y v u Q I rx ry h)
local macro_rules|`(tactic|kcf_m)=>`(tactic|exact⟨ρ2,S2,x,as,R2,v1.ext e2,v2,jF h2 (e1.trans e2) λ_ _ z=>z.ext (e1.trans e2)⟩)
local macro_rules|`(tactic|kcj_m)=>`(tactic|obtain⟨u,rfl,rx⟩:=vals1 r)
local macro_rules|`(tactic|kpc_g)=>`(tactic|obtain⟨xs,hn,h⟩:=jG h)
local macro_rules|`(tactic|kpf_c)=>`(tactic|refine⟨ρ2,S2,o,i,a,R2,v1.ext e2,v2,va.ext (e1.trans e2),jF (jJ h2) (e1.trans e2) λ_ S3 h3 ρ3 H3 e3 R3=>?_⟩)
local macro_rules|`(tactic|ksr_p)=>`(tactic|exact Kp.refl.lay)
local macro_rules|`(tactic|kst_p)=>`(tactic|obtain⟨kvs,hn,h⟩:=jG h)
local macro_rules|`(tactic|kln_w)=>`(tactic|refine fh kind_sorted plain_sorted entry_sorted (args_sorted1 _) ?_)
local macro_rules|`(tactic|kl_no)=>`(tactic|obtain⟨ρ,S,τ,R,r,h⟩:=h)
local macro_rules|`(tactic|mg_lt)=>`(tactic|obtain⟨ρ,S,o,as,R,vo,va,h⟩:=h9)
local macro_rules|`(tactic|cb_eq)=>`(tactic|refine a_ (wpS_lift (gO ⟨rfl,?_⟩)))
local macro_rules|`(tactic|o_rec)=>`(tactic|exact⟨ρ1,S1,τ,R1,r.ext e1,jF h1 e1 λ_ _ z=>z.ext e1⟩)
set_option hygiene true
local macro_rules|`(())=>`(by lia)
@[reducible]def ag:=List Int
@[reducible]def am:=List Nat
@[reducible]def ar:=List PySem.Str
@[reducible]def ba:=List PySem.Value
@[reducible]def bb:=List PySem.Addr
@[reducible]def bi:=Option PySem.Value
@[reducible]def bj:=Option Bool
@[reducible]def bn:=Option Nat
@[reducible]def bo:=List<|PySem.Addr×PySem.Obj
def aF:=@List.getElem?_eq_getElem
def aG:=@List.getElem?_eq_some_iff
def aH:=@List.length_map
def aI:=@if_neg
def aJ:=@List.getD_eq_getElem?_getD
def aK:=@if_pos
def aL:=@List.mem_cons_self
def aN:=@List.mem_cons_of_mem
def aO:=@List.getElem?_map
def aP:=@PySem.wpAny_bind
def aQ:=@List.mem_singleton
def aR:=@Nat.le_refl
def aV:=@List.mem_map
def aW:=@List.mem_of_getElem?
def aX:=@Option.map_eq_some_iff
def aY:=@Option.some.inj
def aZ:=@PySem.Heap.get?_push_of_some
def a_:=@PyProof.Rows.wpS_bind
def bf:=@PySem.wpAny_pure
def bg:=@decide_eq_true
def bh:=@List.size_toArray
def bq:=@List.map_map
def br:=@List.length_append
def bu:=@PySem.Heap.lt_size
def bw:=@PyProof.Rows.wpS_pure
def bz:=@List.mem_append
def bA:=@decide_eq_false
def bB:=@List.getElem?_append_left
def bC:=@Bool.false_eq_true
def bD:=@List.mem_cons
def bE:=@List.map_cons
def bF:=@Nat.ne_of_lt
def bG:=@Nat.le_trans
def bH:=@PySem.Heap.get?_push_size
def bI:=@Bool.false_ne_true
def bJ:=@List.length_cons
def bK:=@List.mem_filter
def bL:=@List.getElem?_set_ne
def bM:=@List.getElem?_set_self
def bN:=@List.map_append
def bO:=@Nat.lt_of_lt_of_le
def bP:=@Nat.zero_le
def bQ:=@of_decide_eq_true
def bR:=@List.mem_append_right
def bU:=@List.length_take
def bV:=@Int.zero_add
def bW:=@beq_self_eq_true
def bX:=@List.pairwise_cons
def bY:=@List.filter_cons
def bZ:=@List.pairwise_singleton
def b6:=@Int.add_zero
def b7:=@List.getElem?_eq_none
def b8:=@List.length_range
def b9:=@List.pairwise_append
def b_:=@PySem.F.slot_dict_get
def cg:=@List.find?_cons
def cj:=@List.getElem_map
def cu:=@List.length_set
def cA:=@List.append_assoc
def cB:=@List.pairwise_map
def cC:=@List.take_add_one
def cE:=@PySem.PassesOwn.never
def cF:=@PySem.W.mg_none_of
def cG:=@List.length_filter_le
def cH:=@Option.bind_eq_some_iff
def cI:=@Bool.not_true
def cJ:=@if_false
def cK:=@List.getElem_inj
def cL:=@List.take_length
def cM:=@List.mem_range
def cN:=@Nat.zero_add
def cO:=@Array.getElem?_toList
def cP:=@PyProof.Rows.wpS_forRange
def cQ:=@List.map_congr_left
def cR:=@List.append_nil
def cT:=@List.nodup_cons
def cU:=@List.pairwise_iff_getElem
def cV:=@Ne.symm
def cW:=@PySem.F.slot_dict_keyiterator_next
def cX:=@Nat.lt_of_le_of_lt
def cY:=@PySem.W.kia_one
def cZ:=@List.length_nil
def c5:=@Bool.not_false
def c7:=@Bool.and_eq_true
def c8:=@beq_eq_false_iff_ne
def c9:=@PySem.mem_of_lookup
def c_:=@PySem.F.type_dict_get
def dc:=@List.ext_getElem?
def dg:=@if_true
def dh:=@Nat.mul_le_mul_right
def di:=@Option.bind_some
def dj:=@List.drop_eq_getElem_cons
def dm:=@List.filter_eq_self
def dw:=@List.nodup_append
def dz:=@List.foldl_append
def dB:=@congrArg
def dD:=@Int.add_assoc
def dG:=@List.foldl_cons
def dH:=@Option.map_some
def dI:=@of_decide_eq_false
def dJ:=@List.getElem_range
def dN:=@List.forall_mem_cons
def dO:=@PySem.wpAny_truthy_bool
def dP:=@List.nodup_nil
def dQ:=@Array.length_toList
def dR:=@List.replicate_succ
def dU:=@List.getElem?_range
def dW:=@Array.getElem?_eq_getElem
def dX:=@List.mem_iff_getElem?
def dY:=@List.all_eq_true
def dZ:=@List.getElem_mem
def d7:=@Nat.le_of_lt
def d9:=@Option.isSome_iff_exists
def d_:=@List.getElem?_take_of_lt
def ef:=@List.Perm.eq_of_pairwise
def eg:=@Int.mul_zero
def eo:=@List.mem_of_mem_take
def eB:=@PySem.wpAny_typeNameOfWhole_keyiter
def eE:=@List.reverse_cons
def eF:=@PyProof.Rows.wpS_mono
def eG:=@PyProof.Rows.callWith_type1
def eK:=@PySem.Calls.callWith_builtin
def eL:=@PySem.wpAny_holding
def eN:=@PySem.sizeLine_eq
def eO:=@List.lookup_cons
def eS:=@Nat.lt_succ_self
def eT:=@List.prefix_refl
def eU:=@PySem.tupleKind_room_in1
def eV:=@List.take_zero
def eW:=@List.prefix_append
def eX:=@List.Perm.refl
def eY:=@Option.map_map
def eZ:=@List.getElem?_toArray
def e_:=@Classical.byContradiction
def fh:=@PySem.Calls.call_function_entry
def fj:=@List.mem_of_find?_eq_some
def fq:=@Nat.not_lt_zero
def fu:=@List.flatten_cons
def fB:=@PySem.wpAny_newObj_type
def fC:=@List.mem_of_mem_drop
def fF:=@List.reverse_reverse
def fG:=@List.flatMap_cons
def fH:=@Nat.lt_irrefl
def fJ:=@PySem.wpAny_typeNameOf_keyiter
def fK:=@List.idxOf_lt_length_iff
def fL:=@List.mem_map_of_mem
def fM:=@PySem.Heap.size_push
def fN:=@List.length_drop
def fO:=@List.length_eq_zero_iff
def fP:=@List.mem_reverse
def fQ:=@PySem.W.cellsFrom_some
def fR:=@List.map_nil
def fS:=@Nat.succ_mul
def fV:=@PyProof.Rows.wpS_modify
def fW:=@Array.getElem?_eq_none
def fX:=@List.any_cons
def fY:=@List.set_append_right
def fZ:=@Option.isSome_map
def f6:=@Nat.lt_succ_of_lt
def f7:=@List.find?_isSome
def f9:=@List.mem_append_left
def f_:=@List.getElem?_append_right
def gb:=@PySem.Calls.evalArgs_plain
def gc:=@List.range_eq_range'
def gf:=@PySem.Around.under_plainId
def gg:=@List.getElem?_of_mem
def gh:=@Nat.lt_or_ge
def gp:=@PySem.wpAny_call_entry
def gr:=@List.any_eq_true
def gu:=@decide_eq_decide
def gv:=@PySem.F.args_dict_keyiterator_next_1
def gz:=@PySem.W.kdu_collect
def gA:=@PySem.F.args_tuple_add_2
def gB:=@Bool.false_or
def gC:=@Nat.add_assoc
def gE:=@PySem.F.entry_dict_keyiterator_next
def gF:=@PySem.F.slot_list_getattribute
def gG:=@List.sum_cons
def gH:=@PySem.wpAny_passesOwn
def gI:=@PySem.wpAny_mono
def gJ:=@PySem.call_meets
def gK:=@Option.isSome_some
def gM:=@Nat.add_sub_cancel
def gO:=@PySem.wpAny_rule
def gP:=@List.find?_eq_none
def gQ:=@Int.emod_lt_of_pos
def gR:=@Option.isSome_none
def gT:=@PySem.F.entry_tuple_add
def gU:=@PySem.F.args_dict_get_3
def gV:=@PySem.F.plainAttrs_list
def gW:=@PySem.F.plainAttrs_dict
def gY:=@PySem.F.slot_tuple_add
def gZ:=@PySem.wpAny_Call_method_late
def g_:=@PySem.F.entry_dict_get
def h_:=@PyProof.Rows.wpS_get
def ie:=@List.take_succ_eq_append_getElem
def ig:=@PySem.Heap.get?_push_ne
def ir:=@Int.toNat_natCast
def iu:=@List.find?_map
def iy:=@List.eraseIdxIfInBounds_toArray
def iz:=@List.take_append_drop
def iA:=@PySem.wpAny_isOneOf_keyiter
def iB:=@Option.getD_some
def iC:=@List.range'_succ
def iD:=@PySem.Heap.size_update
def iE:=@List.mem_flatMap
def iF:=@List.isEmpty_nil
def iG:=@List.eq_nil_of_length_eq_zero
def iH:=@Bool.or_eq_false_iff
def iI:=@Nat.one_mul
def iJ:=@Int.mul_add
def iK:=@PySem.codeAny_builtin
def iL:=@List.find?_some
def iM:=@Int.emod_nonneg
def iN:=@List.filterMap_cons
def iO:=@List.length_reverse
def iP:=@List.filter_sublist
def iQ:=@Nat.sub_self
def iR:=@Int.sub_zero
def iS:=@PySem.wpAny_Call_Name_kw
def iT:=@List.getElem?_drop
def iU:=@List.perm_ext_iff_of_nodup
def iV:=@PySem.wpAny_fieldsOf
def iW:=@Array.getElem?_eq_none_iff
def iX:=@List.getElem_idxOf
def iY:=@Nat.mul_le_mul
def iZ:=@List.Sublist.nodup
def i6:=@PySem.wpAny_pyIter_list
def i7:=@PySem.wpAny_dictEntries
def i8:=@Int.one_mul
def i9:=@List.isEmpty_cons
def i_:=@PySem.Paired.length
def ja:=@List.all_cons
def jb:=@PySem.W.mg_of
def jc:=@Nat.le_of_not_lt
def jd:=@List.cons_append
def je:=@List.zipIdx_cons
def jf:=@Nat.le_add_right
def jh:=@List.countP_cons
def ji:=@List.ext_getElem
def jj:=@List.Sublist.map
def jk:=@PySem.codeAny_mono
def jl:=@Nat.lt_trans
def jm:=@PySem.wpAny_typeOf
def jn:=@List.all_map
def jo:=@List.map_set
def jq:=@List.of_mem_zip
def jt:=@List.filter_map
def ju:=@List.forIn_nil
def jv:=@Array.size_zip
def jw:=@List.foldl_map
def jx:=@List.map_id
def jy:=@Int.natAbs_neg
@[reducible]def af:=PySem.Value
@[reducible]def ah:=PySem.World
@[reducible]def aj:=PySem.Program
@[reducible]def ak:=PySem.Addr
@[reducible]def aq:=PySem.Heap
@[reducible]def au:=PySem.W.Frag
@[reducible]def az:=PySem.Around
@[reducible]def aA:=PySem.Shared
@[reducible]def aC:=PySem.Expr
@[reducible]def aE:=PySem.Stmt
def anI{a b:Prop}(h:a)(k:b):a/\b:=⟨h,k⟩
open Array (size_map)
open Int (le_refl mul_assoc zero_mul)
open Nat (le_succ mul_add ne_of_gt not_lt)
namespace L2
open PySem PySem.Spec PyProof.Rows
meta abbrev Key:=Sum Int Str
abbrev C9:Key->af->Bool
 | .inl k,v=>Value.isInt k v
 | .inr x,v=>Value.isStrOf x v
abbrev adF (w:ah):Key->Int
 | .inl k=>hashInt k
 | .inr x=>hashStr w x
def lA:∀{k:Key}{v:af},C9 k v=true->(∃i t,k=Sum.inl i/\v=Value.int i t)\/(∃x t,k=Sum.inr x/\v=Value.str x t)
 | .inl i,v,h=>by
  obtain⟨t,e⟩:=Value.isInt_shape (k:=i) (v:=v) h;exact .inl ⟨i,t,rfl,e⟩
 | .inr x,v,h=>by
  obtain⟨t,e⟩:=Value.isStrOf_shape (x:=x) (v:=v) h;exact .inr ⟨x,t,rfl,e⟩
def MC(i:Int)(t:Tok):C9 (.inl i) (.int i t)=true:=by simp[C9,Value.isInt]
def MB(x:Str)(t:Tok):C9 (.inr x) (.str x t)=true:=by simp[C9,Value.isStrOf]
def XD(a b:Int):decide ((Sum.inl a:Key)=Sum.inl b)=(a == b):=by
 by_cases e:a=b
 ·subst e;simp
 ·have h:¬(Sum.inl a:Key)=Sum.inl b:=λq=>e<|Sum.inl.inj q;rw[bA h];exact(c8.mpr e).symm
def Ye(a b:Str):decide ((Sum.inr a:Key)=Sum.inr b)=decide (a=b):=by
 by_cases e:a=b
 ·subst e;simp
 ·have h:¬(Sum.inr a:Key)=Sum.inr b:=λq=>e<|Sum.inr.inj q;rw[bA h,bA e]
def Zl(a:Int)(b:Str):decide ((Sum.inl a:Key)=Sum.inr b)=false:=bA λq=>nomatch q
def Zz(a:Str)(b:Int):decide ((Sum.inr a:Key)=Sum.inl b)=false:=bA λq=>nomatch q
abbrev kB (prog:aj)(w:ah):PySem.KeyKind prog w Key where
 is:=C9
 hash:=adF w
 inj:=λv a b d c=>by
  rcases lA d with⟨i,t,rfl,rfl⟩|⟨x,t,rfl,rfl⟩
  ·rcases lA c with⟨j,u,rfl,e⟩|⟨y,u,rfl,e⟩
   ·injection e with e1 _;rw[e1]
   ·exact nomatch e
  ·rcases lA c with⟨j,u,rfl,e⟩|⟨y,u,rfl,e⟩
   ·exact nomatch e
   ·injection e with e1 _;rw[e1]
 byValue:=λk v h=>by
  rcases lA h with⟨i,t,rfl,rfl⟩|⟨x,t,rfl,rfl⟩<;>rfl
 pyHash:=λhv h=>by
  rcases lA hv with⟨i,t,rfl,rfl⟩|⟨x,t,rfl,rfl⟩
  ·exact wpAny_pyHash_int h
  ·exact wpAny_pyHash_str h
 eqBool:=λf hv h=>by
  rcases lA f with⟨i,t,rfl,rfl⟩|⟨x,t,rfl,rfl⟩
  ·rcases lA hv with⟨j,u,rfl,rfl⟩|⟨y,u,rfl,rfl⟩
   ·rw[XD]at h;exact wpAny_eqBool_int h
   ·rw[Zl]at h;exact SeqAt.EqAt.int_str i t y u _ _ _ _ h
  ·rcases lA hv with⟨j,u,rfl,rfl⟩|⟨y,u,rfl,rfl⟩
   ·rw[Zz]at h;exact SeqAt.EqAt.str_int x t j u _ _ _ _ h
   ·rw[Ye]at h;exact wpAny_eqBool_str h
 «strs»:=λk x t v h=>by
  rcases lA h with⟨i,u,rfl,e⟩|⟨y,u,rfl,e⟩
  ·exact nomatch e
  ·injection e with e1 _
   subst e1
   cases v<;>rfl
def GK(prog:aj)(w:ah)(i:Int)(t:Tok):(kB prog w).is (.inl i) (.int i t)=true:=MC i t
def FT(prog:aj)(w:ah)(x:Str)(t:Tok):(kB prog w).is (.inr x) (.str x t)=true:=MB x t
inductive V where
 | non|bl (b:Bool)|int (i:Int)|str (x:Str)|byt (b:Array UInt8)|flt (b:UInt64)|ref (a:ak)|ty (n:String)
 deriving DecidableEq
abbrev RelV:V->af->Prop
 | .non,u=>u=Value.none
 | .bl b,u=>u=Value.bool b
 | .int i,u=>∃t,u=Value.int i t
 | .str x,u=>∃t,u=Value.str x t
 | .byt b,u=>∃t,u=Value.bytes b t
 | .flt b,u=>∃t,u=Value.float b t
 | .ref a,u=>u=Value.ref a
 | .ty n,u=>u=Value.type n
meta abbrev Vals:List V->ba->Prop:=Paired RelV
def Vals.length{xs:List V}{us:ba}(r:Vals xs us):xs.length=us.length:=i_ r
theorem Vals.get:∀{xs:List V}{us:ba}{i:Nat}{x:V},Vals xs us->xs[i]?=some x->∃u,us[i]?=some u/\RelV x u
 | _,_,_,_,.nil,e=>by simp at e
 | _,_,0,_,.cons r _,e=>by simp at e;subst e;exact⟨_,rfl,r⟩
 | _,_,i+1,x,.cons _ t,e=>by
  obtain⟨u,h1,h2⟩:=Vals.get (i:=i) (x:=x) t (by simpa using e);exact⟨u,by simpa using h1,h2⟩
theorem Vals.set{x:V}(r:RelV x u):∀{xs:List V}{us:ba}(i:Nat),Vals xs us->Vals (xs.set i x) (us.set i u)
 | _,_,_,.nil=>.nil
 | _,_,0,.cons _ t=>.cons r t
 | _,_,i+1,.cons q t=>.cons q<|Vals.set r i t
theorem Vals.append:∀{xs ys:List V}{us ws:ba},Vals xs us->Vals ys ws->Vals (xs++ys) (us++ws)
 | _,_,_,_,.nil,s=>s
 | _,_,_,_,.cons r t,s=>.cons r<|Vals.append t s
abbrev ym:Option V->bi->Prop
 | some v,some u=>RelV v u
 | none,none=>True
 | _,_=>False
abbrev KV {κ:Type}:List (κ×V)->List (κ×af)->Prop:=Paired λ(p:κ×V) (q:κ×af)=>p.1=q.1/\RelV p.2 q.2
abbrev kV:Key->V
 | .inl i=>.int i
 | .inr x=>.str x
inductive HO where
 | lst (xs:List V)
 | tup (xs:List V)
 | dK (kvs:List<|Key×V)|dT (kvs:List<|List Key×V)
 | set (S:Int->Bool) (n:Nat)
 | ins (C dx:ak) (fs:List<|Str×V)
 | own (x:ak)
 | xd (fs:List<|Str×V)
 | met (f x:ak)
 | rng (lo hi:Int)
 | frz (o:Obj) (u:HO)
 | tbl (ps:Array af)
 | ext (φ:aq->Prop)
meta abbrev Hp:=ak->Option HO
abbrev upd (H:Hp)(a:ak)(o:HO):Hp:=λb=>if b=a then some o else H b
def kg{H:Hp}{a:ak}:upd H a o a=some o:=by unfold upd;rw[aK rfl]
def jN{H:Hp}{a b:ak}(h:b≠a):upd H a o b=H b:=by unfold upd;rw[aI h]
def Ws{H:Hp}{a b:ak}(h:H a=some o)(h':H b=some u)(d:o≠u):a≠b:=by
 intro e;subst e;rw[h]at h';exact d<|aY h'
def jV{H:Hp}{a b:ak}(h:H a=some o)(h':H b=none):a≠b:=by
 intro e;subst e;rw[h]at h';cases h'
abbrev qy (h:aq)(a:ak)(J:Array af):Prop:=∃o,h.get? a=some o/\o.cls=.type "tuple" /\ o.dict=none/\∃n,o.data=.seq J n
def qy.tup{a:ak}:qy h a items->IsTup h a items:=λ⟨o,e,c,_,n,d⟩=>⟨o,e,c,n,d⟩
def qy.new(h:aq)(J:Array af):qy (h.push { cls:=.type "tuple",data:=.seq J }) h.objs.size J:=⟨_,bH _ rfl,rfl,rfl,_,rfl⟩
def qy.lt{h:aq}{a:ak}(x:qy h a items):a<h.objs.size:=let⟨_,ho,_⟩:=x;bu ho
section
variable (P:aj) (w:ah)
abbrev kQ (H:Hp)(h:aq)(a:ak):HO->Prop
 | .lst xs=>xs.length<=sizeLine/\∃(c:ba) (n:Nat),Vals xs c/\h.get? a=some { cls:=.type "list",data:=.seq c.toArray n }
 | .tup xs=>xs.length<=sizeLine/\∃c:ba,Vals xs c/\qy h a c.toArray
 | .dK kvs=>kvs.length<=sizeLine/\(a == sysModules)=false/\∃g,KV kvs g/\h.DictOf (kB P w) a g
 | .dT kvs=>kvs.length<=sizeLine/\(a == sysModules)=false/\∃xs:List<|List Key×ak×af,
   Paired (λ(p:List Key×V) (q:List Key×ak×af)=>p.1=q.1/\H q.2.1=some (.tup<|p.1.map kV)/\RelV p.2 q.2.2) kvs xs /\
   ∃o es ep,h.get? a=some o/\o.ExactDict/\o.data=.dict es ep/\es.toList=xs.map (entryOfKey<|tupleKind<|kB P w)/\(xs.map (·.1)).Nodup
 | .set S n=>h.SetOf (intKind P w) a S n
 | .ins C dx fs=>H dx=some (.own a)/\fs.length<=1000/\dx≠a/\h.get? a=some (PySem.W.instObj C dx) /\
   ∃d,h.Ns1 dx d/\(∀f,ym (fs.lookup f)<|d f)/\PySem.Within d (fs.map (·.1))
 | .own _=>∃o,h.get? a=some o
 | .xd fs=>∃d,h.Ns1 a d/\∀f,ym (fs.lookup f) (d f)
 | .rng lo j=>∃t u v,h.get? a=some { cls:=.type "range",data:=.fields #[.int lo t,.int j u,.int 1 v]}
 | .frz o u=>h.get? a=some o/\kQ H h a u
 | .tbl ps=>h.get? a=some { cls:=.none,data:=.fields ps }
 | .met f x=>h.get? a=some (PySem.W.methodObj (.ref f)<|.ref x)
 | .ext e=>e h/\(∃o,h.get? a=some o)/\∀h1 h2:aq,e h1->(∀o,h1.get? a=some o->h2.get? a=some o)->e h2
abbrev wW (H:Hp)(h:aq):Prop:=∀a o,H a=some o->kQ P w H h a o
end
section
variable {P:aj}{w:ah}{H H':Hp}{h h':aq}{a:ak}{o:HO}
def kQ.lt(x:kQ P w H h a o):a<h.objs.size:=by
 cases o with
 | lst xs=>obtain⟨_,_,_,_,e⟩:=x;exact bu e
 | tup xs=>obtain⟨_,_,_,p⟩:=x;exact qy.lt p
 | dK kvs=>obtain⟨_,_,_,_,o,_,_,e,_⟩:=x;exact bu e
 | dT kvs=>obtain⟨_,_,_,_,o,_,_,e,_⟩:=x;exact bu e
 | set S n=>obtain⟨o,_,_,_,e,_⟩:=x;exact bu e
 | ins C dx fs=>obtain⟨_,_,_,e,_⟩:=x;exact bu e
 | own y=>obtain⟨_,e⟩:=x;exact bu e
 | xd fs=>obtain⟨_,⟨_,_,_,e,_⟩,_⟩:=x;exact bu e
 | rng lo c=>obtain⟨_,_,_,e⟩:=x;exact bu e
 | frz d u=>obtain⟨e,_⟩:=x;exact bu e
 | tbl ps=>exact bu (show h.get? a=some _ from x)
 | met f y=>exact bu (show h.get? a=some _ from x)
 | ext g=>obtain⟨_,⟨_,e⟩,_⟩:=x;exact bu e
theorem Paired.Y7{α β:Type}{F G:α->β->Prop}:∀{l₁:List α}{l₂:List β},Paired F l₁ l₂->(∀a b,F a b->G a b)->Paired G l₁ l₂
 | _,_,.nil,_=>.nil
 | _,_,.cons r t,f=>.cons (f _ _ r)<|Paired.Y7 t f
def kQ.stay(x:kQ P w H h a o)(k:∀b u,(b=a\/H b=some (.own a))->h.get? b=some u->h'.get? b=some u)
  (U:∀b,H b=some (.own a)->H' b=some (.own a)) (ht:∀b xs,H b=some (.tup xs)->H' b=some (.tup xs)):kQ P w H' h' a o:=by
 induction o with
 | lst xs=>obtain⟨z,j,n,r,e⟩:=x;exact⟨z,j,n,r,k _ _ (.inl rfl) e⟩
 | tup xs=>obtain⟨z,j,r,g,e,c⟩:=x;exact⟨z,j,r,g,k _ _ (.inl rfl) e,c⟩
 | dK kvs=>obtain⟨z,y,G,r,g,es,ep,e,c⟩:=x;exact⟨z,y,G,r,g,es,ep,k _ _ (.inl rfl) e,c⟩
 | dT kvs=>
  obtain⟨z,y,xs,r,g,es,ep,e,c⟩:=x;exact⟨z,y,xs,Paired.Y7 r λp q z=>⟨z.1,ht _ _ z.2.1,z.2.2⟩,g,es,ep,k _ _ (.inl rfl) e,c⟩
 | set S n=>obtain⟨g,es,ep,t,e,c⟩:=x;exact⟨g,es,ep,t,k _ _ (.inl rfl) e,c⟩
 | ins C dx fs=>
  obtain⟨d,z,F,e,m,⟨B,es,ep,e2,c⟩,r⟩:=x;exact⟨U _ d,z,F,k _ _ (.inl rfl) e,m,⟨B,es,ep,k _ _ (.inr d) e2,c⟩,r⟩
 | own y=>obtain⟨g,e⟩:=x;exact⟨g,k _ _ (.inl rfl) e⟩
 | xd fs=>obtain⟨m,⟨B,es,ep,e,c⟩,r⟩:=x;exact⟨m,⟨B,es,ep,k _ _ (.inl rfl) e,c⟩,r⟩
 | rng lo J=>obtain⟨t,u,v,e⟩:=x;exact⟨t,u,v,k _ _ (.inl rfl) e⟩
 | frz g u D=>obtain⟨e,q⟩:=x;exact⟨k _ _ (.inl rfl) e,D q⟩
 | tbl ps=>
  have e:h.get? a=some { cls:=.none,data:=.fields ps }:=x
  skip
  exact k a _ (.inl rfl) e
 | met f y=>
  have e:h.get? a=some (PySem.W.methodObj (.ref f)<|.ref y):=x
  skip
  exact k a _ (.inl rfl) e
 | ext K=>obtain⟨p,⟨o,e⟩,st⟩:=x;exact⟨st _ _ p λo q=>k _ _ (.inl rfl) q,⟨o,k _ _ (.inl rfl) e⟩,st⟩
def wW.lt(x:wW P w H h)(e:H a=some o):a<h.objs.size:=(x a o e).lt
def wW.fresh(x:wW P w H h)(e:h.objs.size<=a):H a=none:=by
 cases q:H a with
 | none=>rfl
 | some u=>exact absurd (bO (x.lt q) e)<|fH _
def wW.kept(x:wW P w H h)(k:∀b u,h.get? b=some u->h'.get? b=some u):wW P w H h':=λa o e=>
 (x a o e).stay (λb u _ q=>k b u q) (λ_ q=>q) λ_ _ q=>q
def wW.laid(x:wW P w H h)(k:∀b u,h.get? b=some u->h'.get? b=some u)(J:h.objs.size<=a)(new:kQ P w (upd H a o) h' a o):wW P w (upd H a o) h':=λb u e=>by
 have hn:=x.fresh J;by_cases d:b=a
 ·subst d;rw[kg]at e;cases e;exact new
 ·rw[jN d]at e;exact(x b u e).stay (λc v _ q=>k c v q) (λc q=>by rw[jN<|jV q hn];exact q) λc xs q=>by rw[jN<|jV q hn];exact q
end
abbrev Rd (H:Hp)(a:ak)(u:HO):Prop:=H a=some u\/∃o,H a=some (.frz o u)
def Rd.ok{P:aj}{w:ah}{H:Hp}{a:ak}(r:Rd H a u)(x:wW P w H h):kQ P w H h a u:=by
 rcases r with r|⟨o,r⟩
 ·exact x a u r
 ·obtain⟨_,q⟩:=x a _ r;exact q
abbrev Mut:Option HO->Prop
 | some (.lst _)=>True
 | some (.dK _)=>True
 | some (.dT _)=>True
 | some (.set _ _)=>True
 | some (.ins _ _ _)=>True
 | some (.ext _)=>True
 | _=>False
section
variable {P:aj}{w:ah}{H:Hp}{h h':aq}{x e:ak}{o':HO}
def wW.write(ok:wW P w H h)(J:Mut<|H x)(he:e=x\/H e=some (.own x))(k:∀b u,b≠e->h.get? b=some u->h'.get? b=some u)(U:∃u,h'.get? e=some u)
  (new:kQ P w (upd H x o') h' x o'):wW P w (upd H x o') h':=λb u q=>by
 have f:∀c y,H c=some (.own y)->c≠x:=λc y r z=>by subst z;rw[r]at J;exact J
 have g:∀c xs,H c=some (.tup xs)->c≠x:=λc xs r z=>by subst z;rw[r]at J;exact J
 by_cases j:b=x
 ·subst j;rw[kg]at q;cases q;exact new
 ·rw[jN j]at q;by_cases d:b=e
  ·have m:H b=some (.own x):=by
    rcases he with z|z
    ·exact absurd (d.trans z) j
    ·rw[d];exact z
   rw[q]at m;cases m;obtain⟨v,hv⟩:=U;exact⟨v,by rw[d];exact hv⟩
  ·refine(ok b u q).stay (λc v hc r=>k c v ?_ r) (λc r=>by rw[jN<|f c b r];exact r) λc xs r=>by rw[jN<|g c xs r];exact r
   rcases hc with rfl|hc
   ·exact d
   ·rintro rfl
    rcases he with z|z
    ·exact f c b hc z
    ·rw[hc]at z;cases z;exact j rfl
end
structure Un (fs ex:bb)(H H':Hp)(h h':aq):Prop where
 keep:∀b o,h.get? b=some o->H b=none->b∉fs->b∉ex->h'.get? b=some o
 slot:∀b o,h.get? b=some o->H b=none->b∈fs->b∉ex->∃sl,h'.get? b=some { o with slots:=sl }
 free:∀b o,h.get? b=some o->H b=none->b∉ex->H' b=none
 there:∀b o,h.get? b=some o->b∉ex->∃o',h'.get? b=some o'
 tups:∀b xs,H b=some (.tup xs)->H' b=some (.tup xs)
 frzs:∀b o u,H b=some (.frz o u)->H' b=some (.frz o u)
 tbls:∀b ps,H b=some (.tbl ps)->∃more,H' b=some (.tbl<|ps++more)
section
variable {fs ex:bb}{H H1:Hp}{h h1 h':aq}{a x e:ak}{o:HO}
def Un.any(u:Un fs ex H H1 h h1){b:ak}{ob:Obj}(q:h.get? b=some ob)(n:H b=none)(J:b∉ex):∃sl,h1.get? b=some { ob with slots:=sl }:=by
 by_cases c:b∈fs
 ·exact u.slot b ob q n c J
 ·exact⟨ob.slots,u.keep b ob q n c J⟩
def Un.kept(k:∀b u,h.get? b=some u->h'.get? b=some u):Un fs ex H H h h':=
 ⟨λb c q _ _ _=>k b c q,λb c q _ _ _=>⟨c.slots,k b c q⟩,λ_ _ _ n _=>n,λb c q _=>⟨c,k b c q⟩,λ_ _ q=>q,λ_ _ _ q=>q,λ_ ps q=>⟨#[],by rw[q];simp⟩⟩
def Un.refl:Un fs ex H H h h:=Un.kept λ_ _ q=>q
def Un.laid(k:∀b u,h.get? b=some u->h'.get? b=some u)(J:h.objs.size<=a)(hn:H a=none):Un fs ex H (upd H a o) h h' where
 keep:=λb u q _ _ _=>k b u q
 slot:=λb u q _ _ _=>⟨u.slots,k b u q⟩
 free:=λb u q n _=>by rw[jN<|bF<|bO (bu q) J];exact n
 there:=λb u q _=>⟨u,k b u q⟩
 tups:=λb xs q=>by rw[jN<|jV q hn];exact q
 frzs:=λb u xs q=>by rw[jN<|jV q hn];exact q
 tbls:=λb ps q=>⟨#[],by rw[jN<|jV q hn,q];simp⟩
def Un.write(J:Mut<|H x)(he:e=x\/H e=some (.own x))(k:∀b u,b≠e->h.get? b=some u->h'.get? b=some u)(U:∃u,h'.get? e=some u):Un fs ex H (upd H x o) h h':=by
 have g:∀b,H b=none->b≠x:=λb n z=>by subst z;rw[n]at J;exact J
 have f:∀b,H b=none->b≠e:=λb n z=>by
  subst z
  rcases he with r|r
  ·exact g b n r
  ·rw[n]at r;cases r
 have d:∀b u,H b=some u->¬Mut (some u)->b≠x:=λb u q j z=>by subst z;rw[q]at J;exact j J
 refine⟨λb u q n _ _=>k b u (f b n) q,λb u q n _ _=>⟨u.slots,k b u (f b n) q⟩,λb u q n _=>by rw[jN<|g b n];exact n,λb u q _=>?_,
  λb xs q=>by rw[jN<|d b _ q λz=>z];exact q,λb u xs q=>by rw[jN<|d b _ q λz=>z];exact q,λb ps q=>⟨#[],by rw[jN<|d b _ q λz=>z,q];simp⟩⟩
 by_cases c:b=e
 ·subst c;exact U
 ·exact⟨u,k b u c q⟩
end
abbrev trk (h:aq)(H:Hp):bb:=(List.range h.objs.size).filter λa=>(H a).isSome
abbrev EN (h:aq)(H:Hp):aq:=PySem.W.hideAll h<|trk h H
def MN(h:aq)(H:Hp):(EN h H).objs.size=h.objs.size:=PySem.W.hideAll_size _ _
def Q5{h:aq}{H:Hp}{b:ak}(e:h.get? b=some o)(n:H b=none):(EN h H).get? b=some o:=
 PySem.W.hideAll_get _ e λc=>by
  have q:(H b).isSome=true:=(bK.mp c).2;rw[n]at q;simp at q
def Um{h:aq}{H:Hp}{b:ak}(e:(EN h H).get? b=some o):h.get? b=some o/\H b=none:=by
 have c:h.get? b=some o:=PySem.W.of_hideAll (trk h H) e;refine⟨c,?_⟩
 cases q:H b with
 | none=>rfl
 | some x=>
  have d:b∈trk h H:=bK.mpr ⟨cM.mpr<|bu c,by simp[q]⟩;have z:(EN h H).get? b=none:=PySem.W.hideAll_none (trk h H) d;rw[z]at e;cases e
abbrev Vy (g h:aq)(L:ak):bo:=(List.range h.objs.size).filterMap λa=>if a=L\/(g.get? a).isSome=true then none else(h.get? a).map λo=>(a,o)
abbrev rest (g h:aq)(L d:ak):bo:=(Vy g h L).filter λp=>decide<|p.1≠d
structure Mod (K:au)(mg:Str->bi)(base:aq):Prop where
 kin:K.In base
 glob:base.Ns mainGlobals mg
 blt:∃mb,base.Ns builtinsNs mb/\∀x:Str,x ≠ "__name__" -> mb x=bootBuiltins x
 nolimit:base.NoLimit
structure Cx where
 prog:aj
 w:ah
 K:au
 mg:Str->bi
 base:aq
 A:az
 N:ar
 s₀:aA
 H₀:Hp
 env:Env
 outer:List Env
 stack:List Env
 ex:bb
 fn:Str->Bool
 calm:Bool
 pn:bo
 xe:af->aA->Prop
abbrev frs (l:List Env):bb:=l.filterMap (·.frame)
meta abbrev Cx.fs (X:Cx):bb:=frs X.outer
abbrev Vis (J:Scope)(x:Str):Prop:=J.names.lookup x=some .local\/J.names.lookup x=some .cell\/J.names.lookup x=some .free
abbrev Loc (J:Scope)(x:Str):Prop:=J.names.lookup x=some .local\/J.names.lookup x=some .cell
abbrev Look (env:Env)(h:aq)(m:Str->bi)(x:Str)(u:af):Prop:=
 (env.kindOf x=some .local/\m x=some u)\/((env.kindOf x=some .cell\/env.kindOf x=some .free)/\∃c,env.cells.lookup x=some c/\h.IsCell c (some u))
structure Cx.Ok (X:Cx):Prop where
 mod:Mod X.K X.mg X.base
 kind:X.env.scope.kind=.function
 glob:X.env.globals=mainGlobals
 blt:X.env.builtins=builtinsNs
 above:X.s₀.heap.objs.size<=X.env.locals
 inj:∀x y c,X.env.cells.lookup x=some c->X.env.cells.lookup y=some c->x=y
 has:∀x,(X.env.kindOf x=some .cell\/X.env.kindOf x=some .free)->∃c,X.env.cells.lookup x=some c
 cab:∀x c,X.fn x=true->X.env.cells.lookup x=some c->X.s₀.heap.objs.size<=c
 hd:X.calm=true->X.A.handled=none
 frames:X.A.frames=some X.stack
 stk:X.stack=X.outer\/(X.stack=X.env::X.outer/\X.env.frame=some X.env.locals)
 exf:∀b∈X.ex,b≠X.env.locals/\∀x c,X.env.cells.lookup x=some c->c≠b
 bs:∀b o,X.base.get? b=some o->X.s₀.heap.get? b=some o/\X.H₀ b=none
 bsz:X.base.objs.size<=X.s₀.heap.objs.size
 noex:∀b o,X.base.get? b=some o->b∉X.ex
 exfs:∀b∈X.ex,b∉X.fs
 Bh:X.s₀.heap.FunFrames X.base X.outer
 frf:∀b∈X.fs,X.H₀ b=none
structure Inv (X:Cx)(pins:bo)(σ:List (Option V))(H:Hp)(s:aA):Prop where
 ok:X.Ok
 os:s.os=X.s₀.os
 bare:AllBare s.gens
 base:Un X.fs X.ex X.H₀ H X.s₀.heap s.heap
 loc:∃m,s.heap.Ns X.env.locals m/\∀(i:Nat) (x:Str) (v:V),X.N[i]?=some x->σ[i]?=some (some v)->Vis X.env.scope x->∃u,RelV v u/\Look X.env s.heap m x u
 cell:∀x c,X.env.cells.lookup x=some c->∃v,s.heap.IsCell c v
 free:H X.env.locals=none
 freeC:∀x c,X.env.cells.lookup x=some c->H c=none
 pin:∀p∈X.pn++pins,s.heap.get? p.1=some p.2/\H p.1=none/\p.1≠X.env.locals/\p.1∉X.fs/\∀v,p.2.data≠.cell v
 hok:wW X.prog X.w H s.heap
 len:σ.length=X.N.length
section
variable {X:Cx}{pins:bo}{σ:List (Option V)}{H H':Hp}{s:aA}{h':aq}
def Cx.Ok.adx(ok:X.Ok){b:ak}(e:X.base.get? b=some o):b∉X.fs:=λc=>by
 have:=(ok.Bh.mem c).1;rw[e]at this;cases this
def Inv.bs(I:Inv X pins σ H s):∀b o,X.base.get? b=some o->s.heap.get? b=some o/\H b=none:=λb o e=>
 ⟨I.base.keep b o (I.ok.bs b o e).1 (I.ok.bs b o e).2 (I.ok.adx e)<|I.ok.noex b o e,I.base.free b o (I.ok.bs b o e).1 (I.ok.bs b o e).2<|I.ok.noex b o e⟩
def Inv.bk(I:Inv X pins σ H s):∀b o,X.base.get? b=some o->s.heap.get? b=some o:=λb o e=>(I.bs b o e).1
def Inv.mod(I:Inv X pins σ H s):Mod X.K X.mg X.base:=I.ok.mod
def Inv.Ec(I:Inv X pins σ H s):X.K.In s.heap:=I.ok.mod.kin.keeps I.bk
def Inv.lt(I:Inv X pins σ H s):X.env.locals<s.heap.objs.size:=let⟨_,hn,_⟩:=I.loc;hn.lt
def Inv.sz(I:Inv X pins σ H s):X.s₀.heap.objs.size<=s.heap.objs.size:=bG I.ok.above<|d7 I.lt
def Inv.adh(I:Inv X pins σ H s){a:ak}(h:s.heap.objs.size<=a):a∉X.fs:=λd=>by
 obtain⟨_,o,c,_⟩:=I.ok.Bh.mem d;exact absurd (bO (bu c)<|bG I.sz h)<|fH _
def Inv.Yy(I:Inv X pins σ H s):∀x c,X.env.cells.lookup x=some c->c≠X.env.locals:=λx c e z=>by
 obtain⟨v,o,g,j⟩:=I.cell x c e;obtain⟨m,⟨o',es,ep,d,f,_⟩,_⟩:=I.loc;rw[z,d]at g;cases g;rw[f]at j;cases j
def Inv.Bh(I:Inv X pins σ H s):s.heap.FunFrames X.base X.outer:=by
 have all:∀(l:List Env),(∀b∈frs l,b∈X.fs)->X.s₀.heap.FunFrames X.base l->s.heap.FunFrames X.base l:=by
  intro l
  induction l with
  | nil=>intro _ _;trivial
  | cons j r p=>
   intro hs k;obtain⟨f,⟨L,o,hf,hn,m,q⟩,g⟩:=k;have d:L∈X.fs:=hs L (by unfold frs;rw[iN,hf];exact aL);obtain⟨t,e⟩:=I.base.slot L o m (I.ok.frf L d) d λz=>I.ok.exfs L z d;exact⟨f,⟨L,_,hf,hn,e,q⟩,p (λb c=>hs b<|by unfold frs;rw[iN,hf];exact aN _ c) g⟩
 exact all X.outer (λ_ c=>c) I.ok.Bh
def Inv.stack(I:Inv X pins σ H s):s.heap.FunFrames X.base X.stack:=by
 rcases I.ok.stk with e|⟨e,hf⟩
 ·rw[e];exact I.Bh
 ·rw[e];obtain⟨m,hn,_⟩:=I.loc;refine .cons (by rw[I.ok.kind];decide) hf hn ?_ I.Bh;exact Heap.get?_none_of_le<|bG I.ok.bsz I.ok.above
def Inv.IX(I:Inv X pins σ H s):∀b∈frs X.stack,b∈X.env.locals::X.fs:=λb c=>by
 rcases I.ok.stk with e|⟨e,hf⟩
 ·rw[e]at c;exact aN _ c
 ·rw[e]at c;unfold frs at c;rw[iN,hf]at c;exact c
def Inv.JC(I:Inv X pins σ H s):∀b∈frs X.stack,H b=none:=λb c=>by
 rcases bD.mp (I.IX b c)with e|c
 ·rw[e];exact I.free
 ·obtain⟨_,o,d,_⟩:=I.ok.Bh.mem c;exact I.base.free b o d (I.ok.frf b c) λz=>I.ok.exfs b z c
def Inv.step{g':Array GenState}{t':Nat}{d':Drawn}{ch:bb}(I:Inv X pins σ H s)
  (U:∀b∈ch,(b∈X.ex\/X.s₀.heap.objs.size<=b)/\b≠X.env.locals/\(∀x c,X.env.cells.lookup x=some c->c≠b)/\∀p∈X.pn++pins,p.1≠b)
  (keep:∀b o,b≠X.env.locals->b∉X.fs->b∉ch->s.heap.get? b=some o->H b=none->h'.get? b=some o)
  (slot:∀b o,b≠X.env.locals->b∈X.fs->b∉ch->s.heap.get? b=some o->H b=none->∃sl,h'.get? b=some { o with slots:=sl }) (free:∀b o,b∉ch->s.heap.get? b=some o->H b=none->H' b=none)
  (there:∀b o,b∉ch->s.heap.get? b=some o->∃o',h'.get? b=some o')
  (tups:∀b xs,H b=some (.tup xs)->H' b=some (.tup xs)) (frzs:∀b o u,H b=some (.frz o u)->H' b=some (.frz o u)) (tbls:∀b ps,H b=some (.tbl ps)->∃more,H' b=some (.tbl<|ps++more))
  (ns:∀m,s.heap.Ns X.env.locals m->h'.Ns X.env.locals m) (hok:wW X.prog X.w H' h') (hg:AllBare g') :
  Inv X pins σ H' { s with heap:=h',gens:=g',drawn:=d',toks:=t' }:=by
 have D:∀b o,X.s₀.heap.get? b=some o->b≠X.env.locals:=λb o e=>bF<|bO (bu e) I.ok.above;have t:∀b o,X.s₀.heap.get? b=some o->b∉X.ex->b∉ch:=λb o e f B=>by
  rcases(U b B).1 with z|z
  ·exact f z
  ·exact absurd (bO (bu e) z)<|fH _
 have j:∀x c,X.env.cells.lookup x=some c->∀v,s.heap.IsCell c v->h'.IsCell c v:=λx c e v ⟨o,C,G⟩=>by
  have g:c∉ch:=λz=>(U c z).2.2.1 x c e rfl;by_cases hc:c∈X.fs
  ·obtain⟨sl,q⟩:=slot c o (I.Yy x c e) hc g C<|I.freeC x c e;exact⟨_,q,G⟩
  ·exact⟨o,keep c o (I.Yy x c e) hc g C<|I.freeC x c e,G⟩
 refine⟨I.ok,I.os,hg,⟨λb o e n B f=>?_,λb o e n B f=>?_,λb o e n f=>?_,λb o e f=>?_,λb xs e=>tups b xs<|I.base.tups b xs e,λb o xs e=>frzs b o xs<|I.base.frzs b o xs e,λb ps e=>?_⟩,?_,λx c e=>?_,?_,λx c e=>?_,λp J=>?_,hok,I.len⟩
 ·exact keep b o (D b o e) B (t b o e f) (I.base.keep b o e n B f) (I.base.free b o e n f)
 ·obtain⟨sl,e1⟩:=I.base.slot b o e n B f;obtain⟨F,e2⟩:=slot b _ (D b o e) B (t b o e f) e1<|I.base.free b o e n f;exact⟨F,e2⟩
 ·obtain⟨o',e1⟩:=I.base.there b o e f;exact free b o' (t b o e f) e1 (I.base.free b o e n f)
 ·obtain⟨o',e1⟩:=I.base.there b o e f;exact there b o' (t b o e f) e1
 ·obtain⟨N,e1⟩:=I.base.tbls b ps e;obtain⟨M,e2⟩:=tbls b _ e1;exact⟨N++M,by rw[e2,Array.append_assoc]⟩
 ·obtain⟨m,hn,O⟩:=I.loc;refine⟨m,ns m hn,λi x v e1 e2 e3=>?_⟩;obtain⟨u,r,l⟩:=O i x v e1 e2 e3;refine⟨u,r,?_⟩
  rcases l with l|⟨k,c,e,z⟩
  ·exact .inl l
  ·exact .inr ⟨k,c,e,j x c e _ z⟩
 ·obtain⟨v,z⟩:=I.cell x c e;exact⟨v,j x c e v z⟩
 ·obtain⟨m,⟨o,_,_,C,_⟩,_⟩:=I.loc;exact free _ o (λz=>(U _ z).2.1 rfl) C I.free
 ·obtain⟨v,o,C,G⟩:=I.cell x c e;exact free c o (λz=>(U c z).2.2.1 x c e rfl) C (I.freeC x c e)
 ·obtain⟨e,n,K,L,d⟩:=I.pin p J;have g:p.1∉ch:=λz=>(U p.1 z).2.2.2 p J rfl;exact⟨keep p.1 p.2 K L g e n,free p.1 p.2 g e n,K,L,d⟩
def Inv.un{t':Nat}(I:Inv X pins σ H s)(u:Un X.fs [] H H' s.heap h')(J:wW X.prog X.w H' h'):Inv X pins σ H' { s with heap:=h',toks:=t' }:=by
 obtain⟨m,⟨o,es,ep,j,r⟩,_⟩:=id I.loc;obtain⟨t,k⟩:=u.any j I.free (by simp);exact I.step (g':=s.gens) (d':=s.drawn) (ch:=[]) (nofun) (λb o _ f _ e n=>u.keep b o e n f<|by simp) (λb o _ f _ e n=>u.slot b o e n f<|by simp) (λb o _ e n=>u.free b o e n<|by simp) (λb o _ e=>u.there b o e<|by simp) u.tups u.frzs u.tbls (λB q=>by
  obtain⟨o',g,d,c,p⟩:=q;rw[j]at c;cases c;exact⟨_,g,d,k,p⟩) J I.bare
def Inv.call{g':Array GenState}{t':Nat}{d':Drawn}{ch:bb}(I:Inv X pins σ H s)(u:Un (frs X.stack) ch H H' s.heap h')(U:wW X.prog X.w H' h')(hg:AllBare g')
  (J:∀b∈ch,(b∈X.ex\/X.s₀.heap.objs.size<=b)/\b≠X.env.locals/\(∀x c,X.env.cells.lookup x=some c->c≠b)/\∀p∈X.pn++pins,p.1≠b) :
  Inv X pins σ H' { s with heap:=h',gens:=g',drawn:=d',toks:=t' }:=by
 obtain⟨m,⟨o,es,ep,k,r⟩,_⟩:=id I.loc;obtain⟨C,g⟩:=u.any k I.free λz=>(J _ z).2.1 rfl;exact I.step (ch:=ch) J (λb o g q hc e n=>u.keep b o e n (λz=>(bD.mp<|I.IX b z).elim g q) hc) (λb o _ _ hc e n=>u.any e n hc) (λb o hc e n=>u.free b o e n hc) (λb o hc e=>u.there b o e hc) u.tups u.frzs u.tbls (λD B=>by
  obtain⟨o',j,f,d,t⟩:=B;rw[k]at d;cases d;exact⟨_,j,f,g,t⟩) U hg
def Inv.turned{t':Nat}{it:ak}(I:Inv X pins σ H s)(k:∀b o,b≠it->s.heap.get? b=some o->h'.get? b=some o)(hn:H it=none)(J:it≠X.env.locals)
  (h1:it∈X.ex\/X.s₀.heap.objs.size<=it) (h2:∀x c,X.env.cells.lookup x=some c->c≠it) (h3:∀p∈X.pn++pins,p.1≠it):Inv X pins σ H { s with heap:=h',toks:=t' }:=by
 have d:∀b u,H b=some u->b≠it:=λb u e z=>by rw[z,hn]at e;cases e
 refine I.step (g':=s.gens) (d':=s.drawn) (ch:=[it]) (λb f=>?_) (λb o _ _ hc e _=>k b o (λz=>hc<|by simp[z]) e) (λb o _ _ hc e _=>⟨o.slots,k b o (λz=>hc<|by simp[z]) e⟩) (λ_ _ _ _ n=>n)
  (λb o hc e=>⟨o,k b o (λz=>hc<|by simp[z]) e⟩) (λ_ _ e=>e) (λ_ _ _ e=>e) (λb ps e=>⟨#[],by rw[e];simp⟩) (λm j=>?_) (λb u e=>?_) I.bare
 ·have e:b=it:=by simpa using f
  subst e;exact⟨h1,J,h2,h3⟩
 ·obtain⟨o,es,ep,g,r⟩:=j;exact⟨o,es,ep,k _ o (cV J) g,r⟩
 ·refine(I.hok b u e).stay (λc v hc q=>k c v ?_ q) (λ_ q=>q) λ_ _ q=>q
  rcases hc with z|z
  ·rw[z];exact d b u e
  ·exact d c _ z
def Inv.tok(I:Inv X pins σ H s)(t:Nat):Inv X pins σ H { s with toks:=t }:=I.un (h':=s.heap) (t':=t) Un.refl I.hok
def Inv.kept{t':Nat}(I:Inv X pins σ H s)(k:∀b u,s.heap.get? b=some u->h'.get? b=some u):Inv X pins σ H { s with heap:=h',toks:=t' }:=I.un (Un.kept k)<|I.hok.kept k
def Inv.laid{a:ak}{t':Nat}(I:Inv X pins σ H s)(k:∀b u,s.heap.get? b=some u->h'.get? b=some u)(J:s.heap.objs.size<=a)(new:kQ X.prog X.w (upd H a o) h' a o) :
  Inv X pins σ (upd H a o) { s with heap:=h',toks:=t' }:=I.un (Un.laid k J<|I.hok.fresh J)<|I.hok.laid k J new
def Inv.write{x e:ak}{t':Nat}(I:Inv X pins σ H s)(U:Mut<|H x)(he:e=x\/H e=some (.own x))(k:∀b u,b≠e->s.heap.get? b=some u->h'.get? b=some u)(J:∃u,h'.get? e=some u)
  (new:kQ X.prog X.w (upd H x o) h' x o):Inv X pins σ (upd H x o) { s with heap:=h',toks:=t' }:=I.un (Un.write U he k J)<|I.hok.write U he k J new
def Inv.Kq{J:bo}(I:Inv X pins σ H s)(h:∀p∈J,s.heap.get? p.1=some p.2/\H p.1=none/\p.1≠X.env.locals/\p.1∉X.fs/\∀v,p.2.data≠.cell v):Inv X J σ H s:=
 ⟨I.ok,I.os,I.bare,I.base,I.loc,I.cell,I.free,I.freeC,λp c=>(bz.mp c).elim (λz=>I.pin p<|f9 _ z)<|h p,I.hok,I.len⟩
def G5{N:ar}(J:N.Nodup){i j:Nat}{x:Str}(a:N[i]?=some x)(b:N[j]?=some x):i=j:=by
 obtain⟨h1,e1⟩:=aG.mp a;obtain⟨h2,e2⟩:=aG.mp b;exact(cK J).mp (e1.trans e2.symm)
def _root_.γ0(h:1=1:=by first|exact .inl rfl|exact .inr rfl|assumption):1=1:=h
def _root_.γ:Lean.Syntax:=γ0._auto_1
def _root_.δ0(h:1=1:=by decide):1=1:=h
def _root_.δ:Lean.Syntax:=δ0._auto_1
def _root_.η0(h:1=1:=by rfl):1=1:=h
def _root_.η:Lean.Syntax:=η0._auto_1
def _root_.θ0(h:1=1:=by intro _;rfl):1=1:=h
def _root_.θ:Lean.Syntax:=θ0._auto_1
def _root_.ι0(h:1=1:=by with_unfolding_all rfl):1=1:=h
def _root_.ι:Lean.Syntax:=ι0._auto_1
def _root_.μ0(h:1=1:=by exact λ_ _=>rfl):1=1:=h
def _root_.μ:Lean.Syntax:=μ0._auto_1
def Np{A:az}{E:af->aA->Prop}{i:Nat}{x:Str}{v:V}{Q:Unit->aA->Prop}(I:Inv X pins σ H s)(hN:X.N.Nodup)(hi:X.N[i]?=some x)(hx:Loc X.env.scope x)(r:RelV v u)
  (h:∀s',Inv X pins (σ.set i<|some v) H s'->(∃a,Heap.SameBut a s.heap s'.heap/\(a=X.env.locals\/X.env.cells.lookup x=some a))->Q Unit.unit s') (hf:X.fn x=true\/X.env.scope.names.lookup x=some .local<|>γ):wpAny M A (storeName X.env x u) Q E s:=by
 obtain⟨m,hn,hl⟩:=id I.loc;have K:(X.env.scope.kind == .class || (X.env.scope.kind == .module && X.env.locals != X.env.globals))=false:=by rw[I.ok.kind];rfl
 have B:i<σ.length:=by rw[I.len];exact(aG.mp hi).1
 have Yy:=I.Yy;have f:∀{a:ak} {h':aq},(∃o,s.heap.get? a=some o/\H a=none)->Heap.SameBut a s.heap h'->wW X.prog X.w H h':=λ{a h'} ha hs b ob e=>by
  obtain⟨_,_,g⟩:=ha;refine(I.hok b ob e).stay (λc P hc q=>(hs.2 c ?_).trans q) (λ_ q=>q) λ_ _ q=>q;rintro rfl
  rcases hc with rfl|hc
  ·rw[g]at e;cases e
  ·rw[g]at hc;cases hc
 rcases hx with t|t
 ·refine wpAny_storeName_local t hn (λh' hn' hs=>?_) K;obtain⟨oL,_,_,hoL,_⟩:=id hn;refine h _ ⟨I.ok,I.os,I.bare,⟨λb o e n C hx=>?_,λb o e n C hx=>?_,I.base.free,λb o e hx=>?_,I.base.tups,I.base.frzs,I.base.tbls⟩,⟨_,hn',λj y v' e1 e2 e3=>?_⟩,λy c e=>?_,I.free,I.freeC,λp Y=>?_,f ⟨oL,hoL,I.free⟩ hs,by simpa using I.len⟩ ⟨_,hs,.inl rfl⟩
  ·exact(hs.2 b<|bF<|bO (bu e) I.ok.above).trans (I.base.keep b o e n C hx)
  ·obtain⟨W,e1⟩:=I.base.slot b o e n C hx;exact⟨W,(hs.2 b<|bF<|bO (bu e) I.ok.above).trans e1⟩
  ·obtain⟨o',e1⟩:=I.base.there b o e hx;exact⟨o',(hs.2 b<|bF<|bO (bu e) I.ok.above).trans e1⟩
  ·by_cases F:j=i
   ·subst F;rw[hi]at e1;cases e1;rw[bM B]at e2
    cases e2
    exact⟨u,r,.inl ⟨t,by simp⟩⟩
   ·rw[bL<|cV F]at e2;obtain⟨u',Z,q⟩:=hl j y v' e1 e2 e3;refine⟨u',Z,?_⟩
    rcases q with⟨k,e⟩|⟨k,c,e,z⟩
    ·refine .inl ⟨k,?_⟩;have:y≠x:=λe=>F<|G5 hN e1<|e ▸ hi;simp[this,e]
    ·exact .inr ⟨k,c,e,z.sameBut hs<|Yy y c e⟩
  ·obtain⟨P,z⟩:=I.cell y c e;exact⟨P,z.sameBut hs<|Yy y c e⟩
  ·obtain⟨e,n,U,nf,d⟩:=I.pin p Y;exact⟨(hs.2 p.1 U).trans e,n,U,nf,d⟩
 ·have D:X.fn x=true:=by
   rcases hf with z|z
   ·exact z
   ·rw[z]at t;cases t
  obtain⟨c,hc⟩:=I.ok.has x<|.inl t;obtain⟨P,z⟩:=I.cell x c hc;refine wpAny_storeName_cell I.ok.kind t hc z λh' G hs=>?_;obtain⟨oc,J,L⟩:=id z;refine h { s with heap:=h' } ⟨I.ok,I.os,I.bare,⟨λb o e n C hx=>?_,λb o e n C hx=>?_,I.base.free,λb o e hx=>?_,I.base.tups,I.base.frzs,I.base.tbls⟩,⟨m,hn.sameBut hs<|cV<|Yy x c hc,λj y v' e1 e2 e3=>?_⟩,λy T e=>?_,I.free,I.freeC,λp Y=>?_,f ⟨oc,J,I.freeC x c hc⟩ hs,by simpa using I.len⟩ ⟨c,hs,.inr hc⟩
  ·exact(hs.2 b<|bF<|bO (bu e)<|I.ok.cab x c D hc).trans (I.base.keep b o e n C hx)
  ·obtain⟨W,e1⟩:=I.base.slot b o e n C hx;exact⟨W,(hs.2 b<|bF<|bO (bu e)<|I.ok.cab x c D hc).trans e1⟩
  ·obtain⟨o',e1⟩:=I.base.there b o e hx;exact⟨o',(hs.2 b<|bF<|bO (bu e)<|I.ok.cab x c D hc).trans e1⟩
  ·by_cases F:j=i
   ·subst F;rw[hi]at e1;cases e1;rw[bM B]at e2
    cases e2
    exact⟨u,r,.inr ⟨.inl t,c,hc,G⟩⟩
   ·rw[bL<|cV F]at e2;obtain⟨u',Z,q⟩:=hl j y v' e1 e2 e3;refine⟨u',Z,?_⟩
    rcases q with q|⟨k,T,e,z'⟩
    ·exact .inl q
    ·refine .inr ⟨k,T,e,z'.sameBut hs ?_⟩;rintro rfl;exact F<|G5 hN e1<|I.ok.inj _ _ _ e hc ▸ hi
  ·by_cases O:T=c
   ·subst O;exact⟨_,G⟩
   ·obtain⟨w2,z2⟩:=I.cell y T e;exact⟨w2,z2.sameBut hs O⟩
  ·obtain⟨e,n,U,nf,d⟩:=I.pin p Y;refine⟨(hs.2 p.1 ?_).trans e,n,U,nf,d⟩;intro q;rw[q,J]at e;have q':oc=p.2:=aY e;exact d P<|by rw[<- q'];exact L
def Hz{A:az}{E:af->aA->Prop}{i:Nat}{x:Str}{v:V}{Q:Unit->aA->Prop}(I:Inv X pins σ H s)(J:X.N.Nodup)(hi:X.N[i]?=some x)(U:Loc X.env.scope x)(r:RelV v u)
  (h:∀s',Inv X pins (σ.set i<|some v) H s'->Q Unit.unit s') (hf:X.fn x=true\/X.env.scope.names.lookup x=some .local<|>γ):wpAny M A (storeName X.env x u) Q E s:=
 Np I J hi U r (λs' c _=>h s' c) hf
def Inv.WD{s':aA}{ch:bb}(I:Inv X pins σ H s)(ho:s'.os=s.os)(u:Un (frs X.stack) ch H H' s.heap s'.heap)(J:wW X.prog X.w H' s'.heap)(hg:AllBare s'.gens)
  (U:∀b∈ch,(b∈X.ex\/X.s₀.heap.objs.size<=b)/\b≠X.env.locals/\(∀x c,X.env.cells.lookup x=some c->c≠b)/\∀p∈X.pn++pins,p.1≠b):Inv X pins σ H' s':=by
 obtain⟨h',g',d',t',o'⟩:=s';have e:o'=s.os:=ho;subst e;exact I.call (g':=g') (t':=t') (d':=d') u J hg U
end
meta abbrev XK:=af->Option ak->Hp->Prop
meta abbrev St:=List<|Option V
meta abbrev VK:=V->Hp->Prop
meta abbrev TE:=St->Hp->VK->Prop
meta abbrev TT:=St->Hp->(Bool->Hp->Prop)->Prop
meta abbrev TA:=St->Hp->(List V->Hp->Prop)->Prop
structure Ends where
 nx:St->Hp->Prop
 rt:VK
 bk:St->Hp->Prop:=λ_ _=>False
 ct:St->Hp->Prop:=λ_ _=>False
meta abbrev TS:=Ends->St->Hp->Prop
abbrev EP (X:Cx)(pins:bo)(σ:St)(Q:VK)(u:af)(s':aA):Prop:=∃v H',Inv X pins σ H' s'/\RelV v u/\Q v H'
abbrev TP (X:Cx)(pins:bo)(σ:St)(Q:Bool->Hp->Prop)(b:Bool)(s':aA):Prop:=∃H',Inv X pins σ H' s'/\Q b H'
abbrev AP (X:Cx)(pins:bo)(σ:St)(Q:List V->Hp->Prop)(us:ba)(s':aA):Prop:=∃c H',Inv X pins σ H' s'/\Vals c us/\Q c H'
abbrev SP (X:Cx)(pins:bo)(D:Ends)(f:Flow)(s':aA):Prop:=
 match f with
 | .next=>∃c H',Inv X pins c H' s'/\D.nx c H'
 | .brk=>∃c H',Inv X pins c H' s'/\D.bk c H'
 | .cont=>∃c H',Inv X pins c H' s'/\D.ct c H'
 | .ret u=>∃v c H',Inv X pins c H' s'/\RelV v u/\D.rt v H'
abbrev PE (X:Cx)(e:aC)(t:TE):Prop:=
 ∀(pins:bo) (s:aA) (σ:St) (H:Hp) (Q:VK),Inv X pins σ H s->t σ H Q->wpAny (model X.prog X.w) X.A (eval e X.env) (EP X pins σ Q) X.xe s
abbrev PT (X:Cx)(e:aC)(t:TT):Prop:=
 ∀(pins:bo) (s:aA) (σ:St) (H:Hp) (Q:Bool->Hp->Prop),Inv X pins σ H s->t σ H Q->wpAny (model X.prog X.w) X.A (isTrue e X.env<|eval e X.env) (TP X pins σ Q) X.xe s
abbrev PW (X:Cx)(e:aC)(t:TT):Prop:=
 ∀(c:Sem af) (pins:bo) (s:aA) (σ:St) (H:Hp) (Q:Bool->Hp->Prop),Inv X pins σ H s->t σ H Q->wpAny (model X.prog X.w) X.A (isTrue e X.env c) (TP X pins σ Q) X.xe s
abbrev PA (X:Cx)(es:List aC)(t:TA):Prop:=
 ∀(pos:Pos) (pins:bo) (s:aA) (σ:St) (H:Hp) (Q:List V->Hp->Prop),Inv X pins σ H s->t σ H Q->wpAny (model X.prog X.w) X.A (spliced<|backTo pos<|starEach es X.env) (AP X pins σ Q) X.xe s
abbrev PS (X:Cx)(st:aE)(t:TS):Prop:=
 ∀(pins:bo) (s:aA) (σ:St) (H:Hp) (D:Ends),Inv X pins σ H s->t D σ H->wpAny (model X.prog X.w) X.A (exec st X.env) (SP X pins D) X.xe s
abbrev Fl (X:Cx)(st:List aE)(t:TS):Prop:=
 ∀(pins:bo) (s:aA) (σ:St) (H:Hp) (D:Ends),Inv X pins σ H s->t D σ H->wpAny (model X.prog X.w) X.A (execs st X.env) (SP X pins D) X.xe s
def mY{α:Type}{t:Sem α}{Q Q':α->aA->Prop}{A:az}{E:af->aA->Prop}(h:wpAny M A t Q E s)(J:∀a s,Q a s->Q' a s):wpAny M A t Q' E s:=gI h J λ_ _ x=>x
section
variable {X:Cx}
abbrev aa6 (i:Nat):TE:=λσ H Q=>∃v,σ[i]?=some (some v)/\Q v H
abbrev tC (v:V):TE:=λ_ H Q=>Q v H
def RN{i:Nat}{x:Str}(hN:X.N[i]?=some x)(hv:Vis X.env.scope x)(J:(x == ("__debug__" : Str))=false<|>δ)(U:(x == ("__classdict__" : Str))=false<|>δ):PE X (.Name x pos) (aa6 i):=by
 k_ne;obtain⟨v,e,h⟩:=h;obtain⟨m,hn,g⟩:=I.loc;obtain⟨u,r,l⟩:=g i x v hN e hv;have fin:EP X pins σ Q u s:=⟨v,H,I,r,h⟩
 rcases l with⟨f,j⟩|⟨f,c,hc,d⟩
 ·exact wpAny_Name (wpAny_loadName_local I.ok.kind f hn j fin) J
 ·rcases f with f|f
  ·exact wpAny_Name (wpAny_loadName_cell I.ok.kind f hc d fin) J
  ·exact wpAny_Name (wpAny_loadName_free I.ok.kind f hc d fin U) J
def ZU{i j pos}:PE X (.Constant (.int i) j pos) (tC<|.int i):=λ_ _ _ H _ I h=>wpAny_Constant_int ⟨.int i,H,I.tok _,⟨_,rfl⟩,h⟩
def aaY{b j pos}:PE X (.Constant (.bool b) j pos) (tC<|.bl b):=λ_ _ _ H _ I h=>Constant_bool ⟨.bl b,H,I,rfl,h⟩
abbrev Gl (X:Cx)(x:Str):Prop:=X.env.kindOf x=some .globalImplicit
def J6{E:af->aA->Prop}{H:Hp}{x:Str}{Q:af->aA->Prop}(I:Inv X pins σ H s)(hg:Gl X x)(J:X.mg x=some u)(h:Q u s)
  (U:(x == ("__debug__" : Str))=false<|>δ):wpAny (model X.prog X.w) X.A (eval (.Name x pos) X.env) Q E s:=
 Calls.Name_function_global I.ok.kind hg (Calls.loadGlobal_global (by rw[I.ok.glob];exact I.mod.glob.keeps I.bk) J h) U
def yp{E:af->aA->Prop}{H:Hp}{x:Str}{Q:af->aA->Prop}(I:Inv X pins σ H s)(hg:Gl X x)(J:X.mg x=none)(hv:bootBuiltins x=some u)(h:Q u s)
  (hn:x ≠ "__name__"<|>δ) (U:(x == ("__debug__" : Str))=false<|>δ):wpAny (model X.prog X.w) X.A (eval (.Name x pos) X.env) Q E s:=by
 obtain⟨c,h1,h2⟩:=I.mod.blt;exact Calls.Name_function_global I.ok.kind hg (Calls.loadGlobal_builtin (by rw[I.ok.glob];exact I.mod.glob.keeps I.bk) J (by rw[I.ok.blt];exact h1.keeps I.bk) ((h2 x hn).trans hv) h) U
def KD{x:Str}{v:V}(hg:Gl X x)(J:X.mg x=some u)(r:RelV v u)(U:(x == ("__debug__" : Str))=false<|>δ):PE X (.Name x pos) (tC v):=
 λ_ _ _ H _ I h=>J6 I hg J ⟨v,H,I,r,h⟩ U
def Vq{x:Str}{v:V}(hg:Gl X x)(J:X.mg x=none)(hv:bootBuiltins x=some u)(r:RelV v u)(hn:x ≠ "__name__"<|>δ)(U:(x == ("__debug__" : Str))=false<|>δ):PE X (.Name x pos) (tC v):=
 λ_ _ _ H _ I h=>yp I hg J hv ⟨v,H,I,r,h⟩ hn U
variable {a b:aC}{ta tb:TE}{pos:Pos}
variable {tA tB':TT}{rest:List aC}
abbrev abJ (t u:TT):TT:=λσ H Q=>t σ H λc H1=>if c=true then u σ H1 Q else Q false H1
abbrev tOr (t u:TT):TT:=λσ H Q=>t σ H λc H1=>if c=true then Q true H1 else u σ H1 Q
abbrev acX (t:TT):TT:=λσ H Q=>t σ H λc H1=>Q (!c) H1
def Ur(J:PT X a tA):PW X (.BoolOp .And [a] pos) tA:=by
 intro d pins s σ H Q I h;refine isTrue_and (mY (J pins s σ H Q I h) λc f e=>?_)
 cases c with
 | true=>exact isTrue_and_nil e
 | false=>exact e
def XJ(J:PT X a tA):PW X (.BoolOp .Or [a] pos) tA:=by
 intro d pins s σ H Q I h;refine isTrue_or (mY (J pins s σ H Q I h) λc f e=>?_)
 cases c with
 | false=>exact isTrue_or_nil e
 | true=>exact e
def YD(J:PT X a tA)(U:PW X (.BoolOp .And (b::rest) pos) tB'):PW X (.BoolOp .And (a::b::rest) pos) (abJ tA tB'):=by
 intro f pins s σ H Q I h;refine isTrue_and (mY (J pins s σ H _ I h) λc g ⟨H1,d,e⟩=>?_)
 cases c with
 | true=>exact U f pins g σ H1 Q d e
 | false=>exact⟨H1,d,e⟩
def abd(J:PT X a tA)(U:PW X (.BoolOp .Or (b::rest) pos) tB'):PW X (.BoolOp .Or (a::b::rest) pos) (tOr tA tB'):=by
 intro f pins s σ H Q I h;refine isTrue_or (mY (J pins s σ H _ I h) λc g ⟨H1,d,e⟩=>?_)
 cases c with
 | true=>exact⟨H1,d,e⟩
 | false=>exact U f pins g σ H1 Q d e
def ZI(J:PT X a tA):PT X (.UnaryOp .Not a pos) (acX tA):=by
 k_ne;exact isTrue_not<|J pins s σ H (λc H1=>Q (!c) H1) I h
abbrev abX (ta tb:TE):TE:=λσ H Q=>ta σ H λx H1=>∃c,x=.bl c/\if c=true then tb σ H1 Q else Q (.bl false) H1
abbrev acW (ta tb:TE):TE:=λσ H Q=>ta σ H λx H1=>∃c,x=.bl c/\if c=true then Q (.bl true) H1 else tb σ H1 Q
abbrev abD (ta:TE):TE:=λσ H Q=>ta σ H λx H1=>∃c,x=.bl c/\Q (.bl<|!c) H1
def YY{op}{t:TE}(h:PE X a t):PE X (.BoolOp op [a] pos) t:=λpins s σ H Q I hw=>BoolOp_one<|h pins s σ H Q I hw
def YO(J:PE X a ta)(U:PE X (.BoolOp .And (b::rest) pos) tb):PE X (.BoolOp .And (a::b::rest) pos) (abX ta tb):=by
 k_ne;refine BoolOp_and<|mY (J pins s σ H _ I h) λv f ⟨x,H1,e,r1,d⟩=>?_;obtain⟨c,rfl,d⟩:=d
 cases r1
 refine dO ?_
 cases c with
 | true=>exact U pins f σ H1 Q e d
 | false=>exact⟨.bl false,H1,e,rfl,d⟩
def aaP(J:PE X a ta)(U:PE X (.BoolOp .Or (b::rest) pos) tb):PE X (.BoolOp .Or (a::b::rest) pos) (acW ta tb):=by
 k_ne;refine BoolOp_or<|mY (J pins s σ H _ I h) λv f ⟨x,H1,e,r1,d⟩=>?_;obtain⟨c,rfl,d⟩:=d
 cases r1
 refine dO ?_
 cases c with
 | false=>exact U pins f σ H1 Q e d
 | true=>exact⟨.bl true,H1,e,rfl,d⟩
def X0(J:PE X a ta):PE X (.UnaryOp .Not a pos) (abD ta):=by
 k_ne;refine UnaryOp_<|mY (J pins s σ H _ I h) λv f ⟨x,H1,e,r1,d⟩=>?_;obtain⟨c,rfl,d⟩:=d
 cases r1
 exact not_of<|dO ⟨.bl<|!c,H1,e,rfl,d⟩
end
abbrev pK (K:au)(H:Hp)(a:ak)(xs:List V):Prop:=
 Rd H a (.lst xs) \/
  ∃(o:Obj) (c:Array af) (n:Nat),K.lookup a=some o/\o.cls=.type "list" /\ o.dict=none/\o.data=.seq c n/\c.size<=sizeLine/\Vals xs c.toList
abbrev oE (K:au)(H:Hp)(a:ak)(xs:List V):Prop:=
 Rd H a (.tup xs) \/
  ∃(o:Obj) (c:Array af) (n:Nat),K.lookup a=some o/\o.cls=.type "tuple" /\ o.dict=none/\o.data=.seq c n/\c.size<=sizeLine/\Vals xs c.toList
abbrev adw:af->Option V
 | .none=>some .non
 | .bool b=>some (.bl b)
 | .int i _=>some (.int i)
 | .str x _=>some (.str x)
 | .bytes b _=>some (.byt b)
 | .float b _=>some (.flt b)
 | .ref a=>some (.ref a)
 | .type n=>some (.ty n)
 | _=>none
def RelV.abs{x:V}(r:RelV x u):adw u=some x:=by
 cases x with
 | non=>cases r;rfl
 | bl _=>cases r;rfl
 | int _=>obtain⟨t,rfl⟩:=r;rfl
 | str _=>obtain⟨t,rfl⟩:=r;rfl
 | byt _=>obtain⟨t,rfl⟩:=r;rfl
 | flt _=>obtain⟨t,rfl⟩:=r;rfl
 | ref _=>cases r;rfl
 | ty _=>cases r;rfl
def RelV.inj{x:V}(r:RelV x u)(q:RelV y u):x=y:=aY<|r.abs.symm.trans q.abs
theorem Vals.inj:∀{xs ys:List V}{us:ba},Vals xs us->Vals ys us->xs=ys
 | _,_,_,.nil,.nil=>rfl
 | _,_,_,.cons r t,.cons d c=>by rw[r.inj d,Vals.inj t c]
section
variable {X:Cx}{pins:bo}{σ:St}{H:Hp}{s:aA}{a:ak}{xs ys:List V}
def pK.of{K:au}(h:H a=some (.lst xs)):pK K H a xs:=.inl<|.inl h
def oE.of{K:au}(h:H a=some (.tup xs)):oE K H a xs:=.inl<|.inl h
def Inv.list(I:Inv X pins σ H s)(h:pK X.K H a xs):∃its:ba,Vals xs its/\PlainL s.heap a its.toArray/\xs.length<=sizeLine:=by
 rcases h with h|⟨o,its,n,c,hc,d,hs,f,r⟩
 ·obtain⟨z,its,n,r,e⟩:=h.ok I.hok;exact⟨its,r,⟨_,n,e,rfl,rfl,rfl⟩,z⟩
 ·refine⟨its.toList,r,⟨o,n,I.Ec a o c,hc,d,by simpa using hs⟩,?_⟩;have e:=r.length;dsimp[dQ]at e
  lia
def Inv.tuple(I:Inv X pins σ H s)(h:oE X.K H a xs):∃its:ba,Vals xs its/\IsTup s.heap a its.toArray/\xs.length<=sizeLine:=by
 rcases h with h|⟨o,its,n,c,hc,_,hs,d,r⟩
 ·obtain⟨z,its,r,p⟩:=h.ok I.hok;exact⟨its,r,p.tup,z⟩
 ·refine⟨its.toList,r,⟨o,I.Ec a o c,hc,n,by simpa using hs⟩,?_⟩;have e:=r.length;dsimp[dQ]at e
  lia
def Inv.Xg(I:Inv X pins σ H s)(h:oE X.K H a xs):∃o,s.heap.get? a=some o/\o.cls=.type "tuple" /\ o.dict=none:=by
 rcases h with h|⟨o,f,n,g,hc,j,hs,k,r⟩
 ·obtain⟨z,f,r,o,e,c,d,_⟩:=h.ok I.hok;exact⟨o,e,c,d⟩
 ·exact⟨o,I.Ec a o g,hc,j⟩
def Inv.GW(I:Inv X pins σ H s)(h:pK X.K H a xs)(h':pK X.K H a ys):xs=ys:=by
 obtain⟨f,r,⟨o,n,e,_,_,d⟩,_⟩:=I.list h;obtain⟨c,m,⟨o',p,g,_,_,j⟩,_⟩:=I.list h';rw[e]at g;cases g;rw[d]at j
 injection j with k _
 have:f=c:=by simpa using dB Array.toList k
 subst this;exact r.inj m
def Inv.CW(I:Inv X pins σ H s)(h:oE X.K H a xs)(h':oE X.K H a ys):xs=ys:=by
 obtain⟨f,r,⟨o,e,_,n,d⟩,_⟩:=I.tuple h;obtain⟨c,m,⟨o',g,_,p,j⟩,_⟩:=I.tuple h';rw[e]at g;cases g;rw[d]at j
 injection j with k _
 have:f=c:=by simpa using dB Array.toList k
 subst this;exact r.inj m
end
meta abbrev Cx.BN (X:Cx)(E:af->aA->Prop):Cx:={ X with xe:=E }
meta abbrev Cx.nox (X:Cx):Cx:=X.BN λ_ _=>False
def Cx.Ok.BN{X:Cx}(ok:X.Ok)(E:af->aA->Prop):(X.BN E).Ok:=
 ⟨ok.mod,ok.kind,ok.glob,ok.blt,ok.above,ok.inj,ok.has,ok.cab,ok.hd,ok.frames,ok.stk,ok.exf,ok.bs,ok.bsz,ok.noex,ok.exfs,ok.Bh,ok.frf⟩
def Cx.Ok.uw{X:Cx}{E:af->aA->Prop}(ok:(X.BN E).Ok):X.Ok:=
 ⟨ok.mod,ok.kind,ok.glob,ok.blt,ok.above,ok.inj,ok.has,ok.cab,ok.hd,ok.frames,ok.stk,ok.exf,ok.bs,ok.bsz,ok.noex,ok.exfs,ok.Bh,ok.frf⟩
section
variable {X:Cx}{pins:bo}{σ:St}{H:Hp}{s:aA}{E:af->aA->Prop}
def Inv.BN(I:Inv X pins σ H s)(E:af->aA->Prop):Inv (X.BN E) pins σ H s:=⟨I.ok.BN E,I.os,I.bare,I.base,I.loc,I.cell,I.free,I.freeC,I.pin,I.hok,I.len⟩
def Inv.uw(I:Inv (X.BN E) pins σ H s):Inv X pins σ H s:=⟨I.ok.uw,I.os,I.bare,I.base,I.loc,I.cell,I.free,I.freeC,I.pin,I.hok,I.len⟩
def SP.uw{D:Ends}{f:Flow}(h:SP (X.BN E) pins D f s'):SP X pins D f s':=by
 cases f with
 | next=>obtain⟨c,H',I,q⟩:=h;exact⟨c,H',I.uw,q⟩
 | brk=>obtain⟨c,H',I,q⟩:=h;exact⟨c,H',I.uw,q⟩
 | cont=>obtain⟨c,H',I,q⟩:=h;exact⟨c,H',I.uw,q⟩
 | ret u=>obtain⟨v,c,H',I,r,q⟩:=h;exact⟨v,c,H',I.uw,r,q⟩
def Fl.nox{st:List aE}{t:TS}(h:Fl X.nox st t):Fl X st t:=λpins s σ H D I hw=>
 gI (h pins s σ H D (I.BN _) hw) (λ_ _ q=>q.uw) λ_ _ z=>False.elim z
end
section
variable {X:Cx}{st:aE}{rest:List aE}{t u:TS}{e:aC}{te:TE}{pos:Pos}
abbrev aaS:TS:=λD σ H=>D.nx σ H
abbrev aaw (t u:TS):TS:=λD σ H=>t { D with nx:=u D } σ H
def U4:Fl X [] aaS:=λ_ _ σ H _ I h=>wpAny_execs_nil ⟨σ,H,I,h⟩
def OW(h1:PS X st t)(h2:Fl X rest u):Fl X (st::rest) (aaw t u):=by
 intro pins s σ H D I h;refine wpAny_execs_cons (mY (h1 pins s σ H { D with nx:=u D } I h) λf e q=>?_)
 cases f with
 | next=>
  obtain⟨c,H',d,q⟩:=q;exact h2 pins e c H' D d q
 | ret v=>exact q
 | brk=>exact q
 | cont=>exact q
def UO(h1:PS X st t):Fl X [st] t:=by
 intro pins s σ H D I h;refine wpAny_execs_cons (mY (h1 pins s σ H D I h) λf c q=>?_)
 cases f with
 | next=>exact wpAny_execs_nil q
 | ret v=>exact q
 | brk=>exact q
 | cont=>exact q
def Inv.quiet{H:Hp}(I:Inv X pins σ H s):interactive X.env=false:=by simp[interactive,I.ok.kind]
abbrev abh (te:TE):TS:=λD σ H=>te σ H λ_ H1=>D.nx σ H1
def T8(J:PE X e te)(hs:swapsWith e none pos.line X.env=pure false<|>η):PS X (.Expr e pos) (abh te):=by
 intro pins s σ H D I h;exact wpAny_Expr_any (mY (J pins s σ H _ I h) λv f ⟨x,H1,c,r1,d⟩=>⟨σ,H1,c,d⟩) I.quiet hs
abbrev acD (te:TE):TS:=λD σ H=>te σ H D.rt
def Xh(J:PE X e te):PS X (.Return (some e) pos) (acD te):=by
 intro pins s σ H D I h;exact wpAny_Return_some<|mY (J pins s σ H _ I h) λv f ⟨x,H1,c,r1,d⟩=>⟨x,σ,H1,c,r1,d⟩
abbrev adt (c:TT)(t u:TS):TS:=λD σ H=>c σ H λb H1=>if b=true then t D σ H1 else u D σ H1
def aap{c:aC}{a b:List aE}{tc:TT}(hc:PT X c tc)(J:Fl X a t)(U:Fl X b u):PS X (.If c a b pos) (adt tc t u):=by
 intro pins s σ H D I h;refine wpAny_If (mY (hc pins s σ H _ I h) λd g ⟨H1,e,f⟩=>?_)
 cases d with
 | true=>exact J pins g σ H1 D e f
 | false=>exact U pins g σ H1 D e f
abbrev YM:TS:=λ_ _ _=>False
def O0:PS X st YM:=λ_ _ _ _ _ _ h=>h.elim
end
meta abbrev TG:=V->St->Hp->(St->Hp->Prop)->Prop
meta abbrev WE:=List V->St->Hp->(St->Hp->Prop)->Prop
abbrev PG (X:Cx)(J:aC)(t:TG):Prop:=
 ∀(pins:bo) (s:aA) (σ:St) (H:Hp) (v:V) (u:af) (Q:St->Hp->Prop),Inv X pins σ H s->RelV v u->t v σ H Q ->
  wpAny (model X.prog X.w) X.A (assign J X.env u) (λ_ s'=>∃c H',Inv X pins c H' s'/\Q c H') X.xe s
abbrev PGs (X:Cx)(ts:List aC)(t:WE):Prop:=
 ∀(pins:bo) (s:aA) (σ:St) (H:Hp) (d:List V) (us:ba) (Q:St->Hp->Prop),Inv X pins σ H s->Vals d us->t d σ H Q ->
  wpAny (model X.prog X.w) X.A (assignInOrder ((assignEach ts X.env).map (·.2)) us) (λ_ s'=>∃c H',Inv X pins c H' s'/\Q c H') X.xe s
meta abbrev M9:=V->V->V->Hp->(Hp->Prop)->Prop
abbrev Mx (X:Cx)(t:M9):Prop:=
 ∀(pins:bo) (s:aA) (σ:St) (H:Hp) (o i v:V) (c iv u:af) (Q:Hp->Prop),Inv X pins σ H s->RelV o c->RelV i iv->RelV v u->t o i v H Q ->
  wpAny (model X.prog X.w) X.A (setItem c iv u) (λ_ s'=>∃H',Inv X pins σ H' s'/\Q H') X.xe s
section
variable {X:Cx}{pos:Pos}
abbrev QY (i:Nat):TG:=λv σ H Q=>Q (σ.set i<|some v) H
def Ka{i:Nat}{x:Str}(J:X.N.Nodup)(hi:X.N[i]?=some x)(U:Loc X.env.scope x)(hf:X.fn x=true\/X.env.scope.names.lookup x=some .local<|>γ):PG X (.Name x pos) (QY i):=by
 intro pins s σ H v u Q I r h;exact wpAny_assign_Name<|Hz I J hi U r (λs' c=>⟨_,H,c,h⟩) hf
abbrev acN:WE:=λc σ H Q=>c=[]/\Q σ H
abbrev aaZ (t:TG)(u:WE):WE:=λd σ H Q=>∃v r,d=v::r/\t v σ H λc H'=>u r c H' Q
def Ud:PGs X [] acN:=by
 intro pins s σ H c us Q I r h;obtain⟨e,h⟩:=h;subst e
 cases r
 exact assignInOrder_nil ⟨σ,H,I,h⟩
def OL{e:aC}{t:TG}{u:WE}(h1:PG X e t)(h2:PGs X es u)
  (hs:(assignEach (e::es) X.env).map (·.2)=assign e X.env::(assignEach es X.env).map (·.2)<|>η):PGs X (e::es) (aaZ t u):=by
 intro pins s σ H m us Q I r h;obtain⟨v,k,e1,h⟩:=h;subst e1
 cases r with
 | cons r f=>
  rw[hs];refine assignInOrder_cons<|mY (h1 pins s σ H _ _ _ I r h) λ_ j ⟨c,H1,g,d⟩=>?_;exact h2 pins j c H1 _ _ Q g f d
abbrev ac_ (K:au)(n:Nat)(t:WE):TG:=λv σ H Q=>∃a xs,v=.ref a/\oE K H a xs/\xs.length=n/\t xs σ H Q
def YL{k:Nat}{t:WE}{n:Nat}(hc:X.calm=true)(h:PGs X es t)
  (hn:(assignEach es X.env).length=n<|>η) (J:(assignEach es X.env).findIdx? (·.1)=none<|>η):PG X (.Tuple es k pos) (ac_ X.K n t):=by
 intro pins s σ H v u Q I r hw;obtain⟨a,xs,e1,d,f,hw⟩:=hw;subst e1
 cases r
 obtain⟨m,c,p,q⟩:=I.tuple d;refine assign_Tuple_tuple (I.ok.hd hc) p (by simp[hn,<- f,c.length]) J λh' j=>?_;have g:Inv X pins σ H { s with heap:=h' }:=I.kept (t':=s.toks) λb o e=>j b o (bF<|bu e) e;exact h pins _ σ H xs _ Q g (by simpa using c) hw
abbrev adf (to J:TE)(t:M9):TG:=λv σ H Q=>to σ H λo H1=>J σ H1 λi H2=>t o i v H2 λH3=>Q σ H3
def Jf{to J:TE}{t:M9}(U:PE X o to)(hi:PE X i J)(hs:Mx X t)
  (ha:(∀v,assign (.Subscript o i pos) X.env v=(do
   let ov <- holding [v] (eval o X.env)
   let iv <- holding [v,ov] (eval i X.env)
   standAt pos
   holding [v,ov,iv] (setItem ov iv v)
   release [v,ov,iv] []))<|>θ):PG X (.Subscript o i pos) (adf to J t):=by
 intro pins s σ H v u Q I r h;rw[ha];refine aP<|eL<|mY (U pins s σ H _ I h) λov m ⟨x,H1,j,r1,d⟩=>?_;refine aP<|eL<|mY (hi pins m σ H1 _ j d) λiv k ⟨y,H2,f,r2,g⟩=>?_;refine aP<|wpAny_standAt<|aP<|eL<|mY (hs pins k σ H2 x y v ov iv u _ f r1 r2 r g) λ_ p ⟨H3,e,c⟩=>?_;exact wpAny_release ⟨σ,H3,e,c⟩
abbrev TV (te:TE)(g:TG):TS:=λD σ H=>te σ H λx H1=>g x σ H1 D.nx
def ZK{tg e:aC}{te:TE}{g:TG}(J:PE X e te)(hg:PG X tg g)(hs:swapsWithSole [tg] e pos.line X.env=pure false<|>η)(hw:swappedStores [tg] e X.env=pure none<|>η)
  (h1:(assignEach [tg] X.env).map (·.2)=[assign tg X.env]<|>η):PS X (.Assign [tg] e pos) (TV te g):=by
 intro pins s σ H D I h;refine wpAny_Assign_stores (mY (J pins s σ H _ I h) λv f ⟨x,H1,c,r1,d⟩=>?_) hs hw;rw[h1];exact mY (hg pins f σ H1 x v _ c r1 d) λ_ j q=>q
def Xb{i:Nat}{x:Str}{e:aC}{te:TE}(J:X.N.Nodup)(hi:X.N[i]?=some x)(U:Loc X.env.scope x)(he:PE X e te)(hs:(swapsWith e (some<|.Name x pos') pos.line X.env=pure false)<|>η)(hf:X.fn x=true\/X.env.scope.names.lookup x=some .local<|>γ) :
  PS X (.Assign [.Name x pos'] e pos) (TV te<|QY i):=by
 intro pins s σ H D I h;refine wpAny_Assign_Name (mY (he pins s σ H _ I h) λv g ⟨y,H1,c,r1,d⟩=>?_) hs;exact Hz c J hi U r1 (λj f=>⟨_,H1,f,d⟩) hf
end
structure It where
 go:Nat->Hp->Prop
 yld:Nat->Hp->V->Hp->Prop
 stop:Nat->Hp->Prop
abbrev yw (X:Cx)(pins:bo)(H:Hp)(b:ak):Prop:=
 H b=none/\b≠X.env.locals/\b∉X.fs/\(b∈X.ex\/X.s₀.heap.objs.size<=b)/\(∀x c,X.env.cells.lookup x=some c->c≠b)/\∀p∈X.pn++pins,p.1≠b
def Inv.Gk{X:Cx}{H H':Hp}{s:aA}{b:ak}(I:Inv X pins σ H s)(J:s.heap.objs.size<=b)(hn:H' b=none):yw X pins H' b:=by
 refine⟨hn,ne_of_gt<|bO I.lt J,I.adh J,.inr<|bG I.sz J,λx c e z=>?_,λp d z=>?_⟩
 ·obtain⟨v,q⟩:=I.cell x c e;exact absurd (bO q.lt<|by rw[z];exact J) (fH _)
 ·exact absurd (bO (bu (I.pin p d).1)<|by rw[z];exact J)<|fH _
structure Turn (P:aj)(w:ah)(K:au)(tg:aC)(J:It)(fp:bb)(it:ak)(tn:Nat->aq->Prop):Prop where
 mem:it∈fp
 obj:∀i h,tn i h->∀b∈fp,∃o,h.get? b=some o/\∀v,o.data≠.cell v
 keep:∀i h h',tn i h->(∀b∈fp,∀o,h.get? b=some o->h'.get? b=some o)->tn i h'
 item:∀(X:Cx),X.prog=P->X.w=w->X.K=K->X.calm=true->∀(i:Nat) (pins:bo) (s:aA) (σ:St) (H:Hp) (E:af->aA->Prop),Inv X pins σ H s->(∀b∈fp,yw X pins H b)->tn i s.heap->J.go i H ->
  wpAny (model P w) X.A (pyNext<|.ref it) (λr s1=>∃u,r=some u /\
   wpAny (model P w) X.A (letOwnedTupleGo tg (.ref it) u) (λ_ s2=>∃x H',Inv X pins σ H' s2/\RelV x u/\J.yld i H x H'/\tn (i+1) s2.heap/\∀b∈fp,H' b=none) E s1) E s
 done:∀(X:Cx),X.prog=P->X.w=w->X.K=K->X.calm=true->∀(i:Nat) (pins:bo) (s:aA) (σ:St) (H:Hp) (E:af->aA->Prop),Inv X pins σ H s->(∀b∈fp,yw X pins H b)->tn i s.heap->J.stop i H ->
  wpAny (model P w) X.A (pyNext<|.ref it) (λr s1=>r=none/\Inv X pins σ H s1) E s
 self:∀(A:az) (i:Nat) (s:aA) (Q:af->aA->Prop) (E:af->aA->Prop),tn i s.heap->Q (.ref it) s->wpAny (model P w) A (pyIter<|.ref it) Q E s
meta abbrev TI:=St->Hp->(It->Hp->Prop)->Prop
abbrev PIE (X:Cx)(pins:bo)(σ:St)(tg:aC)(R:It->Hp->Prop)(U:af)(s2:aA):Prop:=
 ∃(it:ak) (d:bb) (c:Nat->aq->Prop) (J:It) (H':Hp),U=.ref it/\Inv X pins σ H' s2/\Turn X.prog X.w X.K tg J d it c/\c 0 s2.heap/\(∀b∈d,yw X pins H' b)/\R J H'
abbrev PI (X:Cx)(tg iter:aC)(J:TI):Prop:=
 ∀(pins:bo) (s:aA) (σ:St) (H:Hp) (R:It->Hp->Prop),Inv X pins σ H s->J σ H R ->
  wpAny (model X.prog X.w) X.A (eval iter X.env) (λv c=>wpAny (model X.prog X.w) X.A (pyIter v) (PIE X pins σ tg R) X.xe c) X.xe s
def GB{A:az}{E:af->aA->Prop}{s:aA}{o:Obj}{n:String}{Q:Unit->aA->Prop}(U:s.heap.get? it=some o)(hc:o.cls=.type n)(hd:o.data=.fields vs)
  (hn:["enumerate", "zip", "dict_itemiterator", "dict_reverseitemiterator", "odict_iterator", "itertools.zip_longest", "itertools.pairwise"].contains n=false) (J:Q Unit.unit s):wpAny M A (letOwnedTupleGo tg (.ref it) u) Q E s:=by
 unfold letOwnedTupleGo
 cases tg<;>first
  | exact bf J
  | (cases u<;>first
    | exact bf J
    | (refine aP (wpAny_load U ?_)
       rw[hc,hd];show wpAny M A (if (["enumerate", "zip", "dict_itemiterator", "dict_reverseitemiterator", "odict_iterator", "itertools.zip_longest", "itertools.pairwise"].contains n && vs[0]? == some (rawInt _))=true then _ else _) Q E s;rw[aI<|by intro h;rw[hn,Bool.false_and]at h;cases h];exact bf J))
abbrev Itl (K:au)(a:ak):It:=
 ⟨λi H=>∃xs x,pK K H a xs/\xs[i]?=some x,λi H x H'=>H'=H/\∀xs,pK K H a xs->xs[i]?=some x,λi H=>∃xs,pK K H a xs/\xs.length<=i⟩
abbrev ZW (K:au)(a:ak):It:=
 ⟨λi H=>∃xs x,oE K H a xs/\xs[i]?=some x,λi H x H'=>H'=H/\∀xs,oE K H a xs->xs[i]?=some x,λi H=>∃xs,oE K H a xs/\xs.length<=i⟩
abbrev Itr (lo:Int)(n:Nat):It:=⟨λi _=>i<n,λi H x H'=>H'=H/\x=.int (lo+i),λi _=>n<=i⟩
def Nv{P:aj}{w:ah}{K:au}(a it:ak):Turn P w K tg (Itl K a) [it] it (λi h=>h.IsListIter it a i) where
 mem:=by simp
 obj:=λi h st b f=>by
  have e:b=it:=by simpa using f
  subst e;obtain⟨o,e,c,d⟩:=st;exact⟨o,e,λv z=>by rw[d]at z;cases z⟩
 keep:=λi h h' st k=>st.at λo e=>k it (by simp) o e
 item:=by
  z_go;subst hP hw hK;obtain⟨xs,x,j,m⟩:=hg;obtain⟨t,q,p,J⟩:=I.list j;obtain⟨u,L,G⟩:=q.get m;gn_on;refine wpAny_pyNext_list_item st p.isList (x:=u) (by simpa using L) λh' g B=>?_;have D:Inv X pins σ H { s with heap:=h' }:=I.turned (t':=s.toks) (λb o f e=>(B.2 b f).trans e) f0 f1 f3 f4 f5;obtain⟨o,e,c,d⟩:=id g;exact⟨u,rfl,GB (s:={ s with heap:=h' }) e c d ⋯ ⟨x,H,D,G,⟨rfl,λys F=>by rw[I.GW F j];exact m⟩,g,λb f=>(hf b f).1⟩⟩
 done:=by
  z_go;subst hP hw hK;obtain⟨xs,j,m⟩:=hg;obtain⟨t,q,p,J⟩:=I.list j;gn_on;have M:=q.length;exact wpAny_pyNext_list_end (I.ok.hd hc) st p.isList (by simp;omega) λh' C=>⟨rfl,I.turned (t':=s.toks) (λb o f e=>C b o f e) f0 f1 f3 f4 f5⟩
 self:=λ_ _ _ _ _ st h=>wpAny_pyIter_listiter st h
def HE{P:aj}{w:ah}{K:au}(a it:ak):Turn P w K tg (ZW K a) [it] it (λi h=>h.IsTupleIter it a i) where
 mem:=by simp
 obj:=λi h st b f=>by
  have e:b=it:=by simpa using f
  subst e;obtain⟨o,e,c,d⟩:=st;exact⟨o,e,λv z=>by rw[d]at z;cases z⟩
 keep:=λi h h' st k=>st.at λo e=>k it (by simp) o e
 item:=by
  z_go;subst hP hw hK;obtain⟨xs,x,m,q⟩:=hg;obtain⟨g,t,p,J⟩:=I.tuple m;obtain⟨u,L,G⟩:=t.get q;gn_on;refine wpAny_pyNext_tuple_item st (show s.heap.IsTuple a g.toArray from p) (x:=u) (by simpa using L) λh' j B=>?_;have D:Inv X pins σ H { s with heap:=h' }:=I.turned (t':=s.toks) (λb o f e=>(B.2 b f).trans e) f0 f1 f3 f4 f5;obtain⟨o,e,c,d⟩:=id j;exact⟨u,rfl,GB (s:={ s with heap:=h' }) e c d ⋯ ⟨x,H,D,G,⟨rfl,λys F=>by rw[I.CW F m];exact q⟩,j,λb f=>(hf b f).1⟩⟩
 done:=by
  z_go;subst hP hw hK;obtain⟨xs,m,q⟩:=hg;obtain⟨g,t,p,J⟩:=I.tuple m;gn_on;have M:=t.length;exact wpAny_pyNext_tuple_end (I.ok.hd hc) st (show s.heap.IsTuple a g.toArray from p) (by simp;omega) λh' C=>⟨rfl,I.turned (t':=s.toks) (λb o f e=>C b o f e) f0 f1 f3 f4 f5⟩
 self:=λ_ _ _ _ _ st h=>wpAny_pyIter_tupleiter st h
def IA{P:aj}{w:ah}{K:au}(it:ak)(lo:Int)(n:Nat):Turn P w K tg (Itr lo n) [it] it (λi h=>IsRangeIter h it (lo+(i:Nat) * 1) ((n:Int)-(i:Nat)) 1) where
 mem:=by simp
 obj:=λi h st b c=>by
  have e:b=it:=by simpa using c
  subst e;exact⟨_,st,λv z=>by
   have p:Data.fields _=Data.cell v:=z
   cases p⟩
 keep:=λi h h' st k=>k it (by simp) _ st
 item:=by
  z_go;subst hP hw hK;gn_on;have W:=Walks.range (prog:=X.prog) (w:=X.w) (I.ok.hd hc) it lo 1 n;refine W.item i s _ _ hg st λv h' f hv d g=>?_;obtain⟨t,rfl⟩:=hv;have m:Inv X pins σ H { s with heap:=h',toks:=f }:=I.turned (λb o c e=>g b o (by simpa using c) e) f0 f1 f3 f4 f5;refine⟨_,rfl,GB (s:={ s with heap:=h',toks:=f }) (n := "range_iterator") d rfl rfl ⋯ ⟨.int<|lo+i,H,m,⟨t,?_⟩,⟨rfl,rfl⟩,d,λb c=>(hf b c).1⟩⟩;rw[Int.mul_one]
 done:=by
  z_go;subst hP hw hK;gn_on;exact wpAny_pyNext_range_end (I.ok.hd hc) st (by have:n<=i:=hg;lia) λh' j=>⟨rfl,I.turned (t':=s.toks) (λb o c e=>j b o c e) f0 f1 f3 f4 f5⟩
 self:=λ_ _ _ _ _ st h=>wpAny_pyIter_rangeiter st h
section
variable {X:Cx}{tg:aC}
abbrev abQ (K:au)(J:TE):TI:=λσ H R=>J σ H λx H1=>∃a,x=.ref a/\(∃xs,pK K H1 a xs)/\R (Itl K a) H1
abbrev adm (K:au)(J:TE):TI:=λσ H R=>J σ H λx H1=>∃a,x=.ref a/\(∃xs,oE K H1 a xs)/\R (ZW K a) H1
def LY{l:aC}{J:TE}(U:PE X l J):PI X tg l (abQ X.K J):=by
 intro pins s σ H R I h;refine mY (U pins s σ H _ I h) λv c ⟨x,H1,I1,r1,g⟩=>?_;obtain⟨a,e,⟨xs,f⟩,q⟩:=g;subst e
 cases r1
 obtain⟨j,k,p,m⟩:=I1.list f;refine i6 p.isList ?_;refine⟨c.heap.objs.size,[c.heap.objs.size],_,_,H1,rfl,I1.kept (t':=c.toks) λb o e=>aZ _ e,Nv a _,⟨_,bH _ rfl,rfl,rfl⟩,λb d=>?_,q⟩;have e:b=c.heap.objs.size:=by simpa using d
 subst e;exact I1.Gk (aR _)<|I1.hok.fresh<|aR _
def N7{l:aC}{J:TE}(U:PE X l J):PI X tg l (adm X.K J):=by
 intro pins s σ H R I h;refine mY (U pins s σ H _ I h) λv c ⟨x,H1,I1,r1,j⟩=>?_;obtain⟨a,e,⟨xs,g⟩,q⟩:=j;subst e
 cases r1
 obtain⟨d,k,p,m⟩:=I1.tuple g;refine wpAny_pyIter_tuple (show c.heap.IsTuple a d.toArray from p) ?_;refine⟨c.heap.objs.size,[c.heap.objs.size],_,_,H1,rfl,I1.kept (t':=c.toks) λb o e=>aZ _ e,HE a _,⟨_,bH _ rfl,rfl,rfl⟩,λb f=>?_,q⟩;have e:b=c.heap.objs.size:=by simpa using f
 subst e;exact I1.Gk (aR _)<|I1.hok.fresh<|aR _
def GY{H:Hp}{s:aA}{R:It->Hp->Prop}{E:af->aA->Prop}{lo hi:Int}{t v:Tok}{tk:Nat}(I:Inv X pins σ H s)(h1:-(2 ^ 62)<=lo)(h2:lo<2 ^ 62)(h3:-(2 ^ 62)<=hi)(J:hi<2 ^ 62)
  (q:R (Itr lo (hi-lo).toNat) H):wpAny (model X.prog X.w) X.A (pyIter<|.ref s.heap.objs.size) (PIE X pins σ tg R) E { s with heap:=s.heap.push { cls:=.type "range",data:=.fields #[.int lo t,.int hi u,.int 1 v]},toks:=tk }:=by
 refine wpAny_pyIter_range (IsRange.new ..) (small_one h1 h2 h3 J) ?_;have I1:Inv X pins σ H { s with heap:=s.heap.push { cls:=.type "range",data:=.fields #[.int lo t,.int hi u,.int 1 v]},toks:=tk }:=I.kept λb o e=>aZ _ e;refine⟨(s.heap.push { cls:=.type "range",data:=.fields #[.int lo t,.int hi u,.int 1 v]}).objs.size,[(s.heap.push { cls:=.type "range",data:=.fields #[.int lo t,.int hi u,.int 1 v]}).objs.size],_,_,H,rfl,
  I1.kept (t':=tk) λb o e=>aZ _ e,IA _ lo (hi-lo).toNat,?_,λb c=>?_,q⟩
 ·have e1:lo+((0:Nat):Int) * 1=lo:=by simp
  have e2:(((hi-lo).toNat:Nat):Int)-((0:Nat):Int)=Builtin.Range.rangeSize lo hi 1:=by rw[rangeSize_one];split<;>lia
  skip
  rw[e1,e2];exact bH _ rfl
 ·have e:b=(s.heap.push { cls:=.type "range",data:=.fields #[.int lo t,.int hi u,.int 1 v]}).objs.size:=by simpa using c
  subst e;exact I1.Gk (aR _)<|I1.hok.fresh<|aR _
abbrev Au (ta:TA):TI:=λσ H R=>ta σ H λc H1=>∃j:Int,c=[.int j]/\-(2 ^ 62)<=j/\j<2 ^ 62/\R (Itr 0 j.toNat) H1
abbrev vI (ta:TA):TI:=λσ H R=>ta σ H λc H1=>∃i j:Int,c=[.int i,.int j]/\(-(2 ^ 62)<=i/\i<2 ^ 62/\-(2 ^ 62)<=j/\j<2 ^ 62)/\R (Itr i (j-i).toNat) H1
def Ng{a:aC}{ta:TA}{p:Pos}(hg:Gl X "range")(J:X.mg "range" = none)(U:PA X [a] ta)(hs:starEach [a] X.env=[(false,eval a X.env)]<|>η):PI X tg (.Call (.Name "range" p) [a] [] pos) (Au ta):=by
 intro pins s σ H R I h;refine Call_<|yp I hg J boot_range<|eG (mY (U pos pins s σ H _ I h) λus m ⟨k,H1,d,r1,c⟩=>?_) hs rfl;obtain⟨j,e,c,f,q⟩:=c;subst e
 cases r1 with
 | cons r g=>
  cases g
  obtain⟨t,rfl⟩:=r;exact call_range_1<|GY d () () c f<|by simpa using q
def Nh{a b:aC}{ta:TA}{p:Pos}(hg:Gl X "range")(U:X.mg "range" = none)(ha:PA X [a,b] ta)(hs:starEach [a,b] X.env=[(false,eval a X.env),(false,eval b X.env)]<|>η)(J:starEach [b] X.env=[(false,eval b X.env)]<|>η) :
  PI X tg (.Call (.Name "range" p) [a,b] [] pos) (vI ta):=by
 intro pins s σ H R I h;refine Call_ (yp I hg U boot_range<|eG (mY (ha pos pins s σ H _ I h) λus F ⟨C,H1,B,r1,c⟩=>?_) (by rw[hs,J])<|by rw[J];rfl);obtain⟨i,j,e,⟨c,m,f,g⟩,q⟩:=c;subst e
 cases r1 with
 | cons r d=>
  cases d with
  | cons k d=>
   cases d
   obtain⟨t,rfl⟩:=r;obtain⟨D,rfl⟩:=k;exact call_range_2<|GY B c m f g q
abbrev ac9 (U:TI)(g:TG)(tb:TS):TS:=λD σ H=>U σ H λJ H1=>∃W:Nat->Nat->St->Hp->Prop,(∃m,W 0 m σ H1)/\∀i m σ H,W i m σ H ->
 (J.stop i H/\D.nx σ H)\/(J.go i H/\∃N:St->Hp->Prop,(∀c H',N c H'->∃e,e<m/\W (i+1) e c H')/\∀x H',J.yld i H x H'->g x σ H' λd H2=>tb { D with nx:=N,ct:=N,bk:=D.nx } d H2)
abbrev A_ (fp:bb)(h:aq):bo:=fp.filterMap λb=>(h.get? b).map λo=>(b,o)
def qG{fp:bb}{h:aq}{b:ak}(J:b∈fp)(e:h.get? b=some o):(b,o)∈A_ fp h:=List.mem_filterMap.mpr ⟨b,J,by rw[e];rfl⟩
def MD{fp:bb}{h:aq}{p:ak×Obj}(J:p∈A_ fp h):p.1∈fp/\h.get? p.1=some p.2:=by
 obtain⟨b,c,e⟩:=List.mem_filterMap.mp J
 cases q:h.get? b with
 | none=>rw[q]at e;cases e
 | some o=>
  rw[q]at e;have d:(b,o)=p:=aY e;subst d;exact⟨c,q⟩
def Inv.pinned{H:Hp}{s:aA}{fp:bb}(I:Inv X pins σ H s)(hf:∀b∈fp,yw X pins H b)(J:∀b∈fp,∃o,s.heap.get? b=some o/\∀v,o.data≠.cell v):Inv X (pins++A_ fp s.heap) σ H s:=
 I.Kq λp g=>(bz.mp g).elim (λz=>I.pin p<|bR _ z) λz=>by
  obtain⟨c,e⟩:=MD z;obtain⟨f0,f1,f2,_⟩:=hf p.1 c;obtain⟨o,f,d⟩:=J p.1 c;rw[e]at f;cases f;exact⟨e,f0,f1,f2,d⟩
def Inv.ud{pl:bo}{H:Hp}(I:Inv X (pins++pl) σ H s):Inv X pins σ H s:=I.Kq λp c=>I.pin p<|bR _<|f9 _ c
def YV{iter:aC}{wi:TI}{g:TG}{tb:TS}(hp:PassesOwn (model X.prog X.w) X.A X.env X.xe)(hc:X.calm=true)(hi:PI X tg iter wi)(hg:PG X tg g)(hb:Fl X body tb)
  (hs:(∀x,foldedSetIterable iter X.env x=pure x)<|>θ):PS X (.For tg iter body [] pos) (ac9 wi g tb):=by
 intro pins s σ H D I h;refine wpAny_For (mY (hi pins s σ H _ I h) λv s1 h1=>mY h1 λitv s2 h2=>?_) hs;obtain⟨it,L,tn,J,H2,e,I2,T,Z,f2,W,⟨m0,w0⟩,turn⟩:=h2;subst e;have t:∀{H':Hp},(∀b∈L,H' b=none)->∀b∈L,yw X pins H' b:=λhn b hb=>⟨hn b hb,(f2 b hb).2⟩;refine codeAny_forLoop_any (λn s'=>∃i p H',Inv X pins p H' s'/\tn i s'.heap/\(∀b∈L,H' b=none)/\W i n p H') ?_ m0 ⟨0,σ,H2,I2,Z,λb hb=>(f2 b hb).1,w0⟩;rintro n s3 ⟨i,k,H3,I3,G,K,w3⟩
 rcases turn i n k H3 w3 with⟨M,qn⟩|⟨go,N,hN,step⟩
 ·refine gH hp<|mY (T.done X rfl rfl rfl hc i pins s3 k H3 X.xe I3 (t K) G M) λr s4 ⟨V,I4⟩=>?_;subst V;exact wpAny_execs_nil ⟨k,H3,I4,qn⟩
 ·refine gH hp<|mY (T.item X rfl rfl rfl hc i pins s3 k H3 X.xe I3 (t K) G go) λr s4 ⟨u,V,h4⟩=>?_;subst V;refine gH hp<|mY h4 λ_ s5 ⟨x,H5,I5,r5,y5,C,U⟩=>?_;have P:=I5.pinned (t U)<|T.obj _ _ C;refine gH hp<|mY (hg _ s5 k H5 x u _ P r5<|step x H5 y5) λ_ s6 ⟨O,H6,I6,q6⟩=>?_;refine gH hp<|mY (hb _ s6 O H6 _ I6 q6) λf Y B=>?_;have again:∀{c:St} {j:Hp},Inv X (pins++A_ L s5.heap) c j Y->N c j->∃m,m<n/\∃i p H',Inv X pins p H' Y/\tn i Y.heap/\(∀b∈L,H' b=none)/\W i m p H':=λ{c j} q F=>by
   obtain⟨m',hm,w7⟩:=hN c j F;refine⟨m',hm,i+1,c,j,q.ud,T.keep _ _ _ C λb hb o e=>(q.pin (b,o)<|bR _<|bR _<|qG hb e).1,λb hb=>?_,w7⟩;obtain⟨o,e,d⟩:=T.obj _ _ C b hb;exact(q.pin (b,o)<|bR _<|bR _<|qG hb e).2.1
  cases f with
  | next=>obtain⟨c,j,q,F⟩:=B;exact again q F
  | cont=>obtain⟨c,j,q,F⟩:=B;exact again q F
  | brk=>obtain⟨c,j,q,B⟩:=B;exact⟨c,j,q.ud,B⟩
  | ret v=>obtain⟨x7,c,j,q,r7,B⟩:=B;exact⟨x7,c,j,q.ud,r7,B⟩
end
def u_{K:au}{a:ak}{xs:List V}{g:TG}{tb:TS}{D:Ends}{H:Hp}(J:Nat->St->Hp->Prop)(h0:J 0 σ H)(U:∀i σ H,i<=xs.length->J i σ H->oE K H a xs)
  (hs:∀i x σ H,xs[i]?=some x->J i σ H->g x σ H λσ2 H2=>tb { D with nx:=J<|i+1,ct:=J<|i+1,bk:=D.nx } σ2 H2) (hd:∀σ H,J xs.length σ H->D.nx σ H) :
  ∃W:Nat->Nat->St->Hp->Prop,(∃m,W 0 m σ H)/\∀i m σ H,W i m σ H ->
   ((ZW K a).stop i H/\D.nx σ H)\/((ZW K a).go i H/\∃N:St->Hp->Prop,(∀σ' H',N σ' H'->∃m',m'<m/\W (i+1) m' σ' H')/\∀x H',(ZW K a).yld i H x H'->g x σ H' λσ2 H2=>tb { D with nx:=N,ct:=N,bk:=D.nx } σ2 H2):=by
 refine⟨λi m σ H=>m=xs.length-i/\i<=xs.length/\J i σ H,⟨xs.length,by simp,bP _,h0⟩,?_⟩;rintro i m σ H ⟨rfl,f,p⟩;have q:=U i σ H f p;by_cases c:i<xs.length
 ·refine .inr ⟨⟨xs,xs[i],q,by simp[c]⟩,J<|i+1,λσ' H' d=>⟨xs.length-(i+1),(),rfl,c,d⟩,λx H' y=>?_⟩;obtain⟨e,y⟩:=y;subst e;exact hs i x σ _ (y xs q) p
 ·have e:i=xs.length:=()
  subst e;exact .inl ⟨⟨xs,q,aR _⟩,hd σ H p⟩
meta abbrev R2:=V->V->Hp->VK->Prop
abbrev pG (X:Cx)(f:af->af->Sem af)(r:R2):Prop:=
 ∀(pins:bo) (s:aA) (σ:St) (H:Hp) (x y:V) (v u:af) (Q:VK),Inv X pins σ H s->RelV x v->RelV y u->r x y H Q ->
  wpAny (model X.prog X.w) X.A (f v u) (EP X pins σ Q) X.xe s
abbrev UnR (X:Cx)(f:af->Sem af)(r:V->Hp->VK->Prop):Prop:=
 ∀(pins:bo) (s:aA) (σ:St) (H:Hp) (x:V) (v:af) (Q:VK),Inv X pins σ H s->RelV x v->r x H Q ->
  wpAny (model X.prog X.w) X.A (f v) (EP X pins σ Q) X.xe s
abbrev ko (X:Cx)(f:af)(r:List V->Hp->VK->Prop):Prop:=
 ∀(pins:bo) (s:aA) (σ:St) (H:Hp) (xs:List V) (us:ba) (Q:VK),Inv X pins σ H s->Vals xs us->r xs H Q ->
  wpAny (model X.prog X.w) X.A (call f us) (EP X pins σ Q) X.xe s
abbrev acI (X:Cx)(r:V->Hp->(Bool->Hp->Prop)->Prop):Prop:=
 ∀(pins:bo) (s:aA) (σ:St) (H:Hp) (x:V) (v:af) (Q:Bool->Hp->Prop),Inv X pins σ H s->RelV x v->r x H Q ->
  wpAny (model X.prog X.w) X.A (truthy v) (TP X pins σ Q) X.xe s
abbrev tOp (r:R2)(ta tb:TE):TE:=λσ H Q=>ta σ H λx H1=>tb σ H1 λy H2=>r x y H2 Q
abbrev tUn (r:V->Hp->VK->Prop)(ta:TE):TE:=λσ H Q=>ta σ H λx H1=>r x H1 Q
abbrev rI (C:Int->Int->Prop)(g:Int->Int->V):R2:=λx y H Q=>∃i j,x=.int i/\y=.int j/\C i j/\Q (g i j) H
abbrev Zv (g:Int->Int->V):R2:=λx y H Q=>∃i j,x=.int i/\y=.int j/\Q (g i j) H
abbrev rU (g:Int->V):V->Hp->VK->Prop:=λx H Q=>∃i,x=.int i/\Q (g i) H
section
variable {X:Cx}{a b:aC}{ta tb:TE}{pos:Pos}
def W7(J:PE X a ta)(U:PE X b tb){H:Hp}{R:V->V->Hp->Prop}(I:Inv X pins σ H s)
  (h:ta σ H λx H1=>tb σ H1 λy H2=>R x y H2) {Q:af->aA->Prop} {f:af->af->Sem af}
  (hf:∀v u s2 x y H2,Inv X pins σ H2 s2->RelV x v->RelV y u->R x y H2->wpAny (model X.prog X.w) X.A (f v u) Q X.xe s2) :
  wpAny (model X.prog X.w) X.A (eval a X.env) (λv s₁=>wpAny (model X.prog X.w) X.A (eval b X.env) (λu s₂=>wpAny (model X.prog X.w) X.A (f v u) Q X.xe s₂) X.xe s₁) X.xe s:=by
 refine mY (J pins s σ H _ I h) λv j ⟨x,H1,c,r1,e⟩=>?_;refine mY (U pins j σ H1 _ c e) λu s2 ⟨y,H2,d,r2,g⟩=>?_;exact hf v u s2 x y H2 d r1 r2 g
def aak{r:R2}(J:pG X (binaryOp op) r)(U:PE X a ta)(hb:PE X b tb):PE X (.BinOp a op b pos) (tOp r ta tb):=by
 k_ne;exact wpAny_BinOp<|W7 U hb I h λv u d x y H2 c rx ry q=>J pins d σ H2 x y v u Q c rx ry q
def abA{r:V->Hp->VK->Prop}(J:UnR X (unaryOp op) r)(U:PE X a ta):PE X (.UnaryOp op a pos) (tUn r ta):=by
 k_ne;exact UnaryOp_<|mY (U pins s σ H _ I h) λv e ⟨x,H1,c,r1,d⟩=>J pins e σ H1 x v Q c r1 d
def opI{f:af->af->Sem af}{C:Int->Int->Prop}{g:Int->Int->Int}
  (J:∀(i j:Int) (t u:Tok) (s:aA) (Q:af->aA->Prop) (E:af->aA->Prop),C i j->Q (.int (g i j) s.toks) { s with toks:=s.toks+1 }->wpAny (model X.prog X.w) X.A (f (.int i t)<|.int j u) Q E s) :
  pG X f (rI C λi j=>.int<|g i j):=by
 kj_on;obtain⟨i,j,rfl,rfl,hc,q⟩:=h;obtain⟨t,rfl⟩:=rx;obtain⟨c,rfl⟩:=ry;exact J i j t c s _ _ hc ⟨.int<|g i j,H,I.tok _,⟨_,rfl⟩,q⟩
def aaF{f:af->af->Sem af}{g:Int->Int->Int}
  (J:∀(i j:Int) (t u:Tok) (s:aA) (Q:af->aA->Prop) (E:af->aA->Prop),Q (.int (g i j) s.toks) { s with toks:=s.toks+1 }->wpAny (model X.prog X.w) X.A (f (.int i t)<|.int j u) Q E s) :
  pG X f (Zv λi j=>.int<|g i j):=by
 kj_on;obtain⟨i,j,rfl,rfl,q⟩:=h;obtain⟨t,rfl⟩:=rx;obtain⟨c,rfl⟩:=ry;exact J i j t c s _ _ ⟨.int<|g i j,H,I.tok _,⟨_,rfl⟩,q⟩
def Zn{f:af->af->Sem af}{g:Int->Int->Bool}
  (J:∀(i j:Int) (t u:Tok) (s:aA) (Q:af->aA->Prop) (E:af->aA->Prop),Q (.bool<|g i j) s->wpAny (model X.prog X.w) X.A (f (.int i t)<|.int j u) Q E s) :
  pG X f (Zv λi j=>.bl<|g i j):=by
 kj_on;obtain⟨i,j,rfl,rfl,q⟩:=h;obtain⟨t,rfl⟩:=rx;obtain⟨c,rfl⟩:=ry;exact J i j t c s _ _ ⟨.bl<|g i j,H,I,rfl,q⟩
abbrev acT (i j:Int):Prop:=0<=j/\j<=1000000/\i.natAbs<2 ^ 64
abbrev TU (i j:Int):Prop:=(-(2 ^ 64)<i/\i<2 ^ 64)\/(-(2 ^ 64)<j/\j<2 ^ 64)
def TU.ok{i j:Int}(h:TU i j):IntMulOk i j:=by
 rcases h with⟨h1,h2⟩|⟨h1,h2⟩
 ·exact .of_left (intBits_le_64 h1 h2)
 ·exact .of_right<|intBits_le_64 h1 h2
def Zh:pG X (binaryOp .Add) (Zv λi j=>.int<|i+j):=aaF λ_ _ _ _ _ _ _ q=>add_int q
def Zd:pG X (binaryOp .Sub) (Zv λi j=>.int<|i-j):=aaF λ_ _ _ _ _ _ _ q=>sub_int q
def X4:pG X (binaryOp .Mult) (rI TU λi j=>.int<|i * j):=opI λ_ _ _ _ _ _ _ hc q=>mul_int q hc.ok
def ZJ:pG X (binaryOp .Mod) (rI (λ_ j=>0<j) λi j=>.int<|i % j):=opI λi j _ _ _ _ _ hc q=>by
 have h1:(0:Int)<j:=hc;exact mod_int' ()<|by rw[Int.fmod_eq_emod_of_nonneg i ()];exact q
def ZD:pG X (binaryOp .Pow) (rI acT λi j=>.int<|i ^ j.toNat):=opI λ_ _ _ _ _ _ _ hc q=>pow_int_small hc.1 hc.2.1 hc.2.2 q
def unI{f:af->Sem af}{g:Int->Int}
  (J:∀(i:Int) (t:Tok) (s:aA) (Q:af->aA->Prop) (E:af->aA->Prop),Q (.int (g i) s.toks) { s with toks:=s.toks+1 }->wpAny (model X.prog X.w) X.A (f<|.int i t) Q E s) :
  UnR X f (rU λi=>.int<|g i):=by
 intro pins s σ H x v Q I rx h;obtain⟨i,rfl,q⟩:=h;obtain⟨t,rfl⟩:=rx;exact J i t s _ _ ⟨.int<|g i,H,I.tok _,⟨_,rfl⟩,q⟩
def YR:UnR X (unaryOp .USub) (rU λi=>.int<|-i):=unI λ_ _ _ _ _ q=>neg_int q
end
abbrev XS:V->V->Bool
 | .non,.non=>true | .non,.int _=>true | .int _,.non=>true | .non,.bl _=>true | .bl _,.non=>true | .non,.str _=>true | .str _,.non=>true
 | .int _,.int _=>true | .bl _,.bl _=>true | .str _,.str _=>true | .byt _,.byt _=>true
 | .int _,.str _=>true | .str _,.int _=>true | .bl _,.str _=>true | .str _,.bl _=>true
 | _,_=>false
section
variable {X:Cx}{a b c:aC}{ta tb tc:TE}{pos:Pos}
def aaO:pG X (compareOp .Lt) (Zv λi j=>.bl<|decide<|i<j):=Zn λ_ _ _ _ _ _ _ q=>lt_int q
def aaC:pG X (compareOp .LtE) (Zv λi j=>.bl<|decide<|i<=j):=Zn λ_ _ _ _ _ _ _ q=>le_int q
def aav:pG X (compareOp .Gt) (Zv λi j=>.bl<|decide<|j<i):=Zn λ_ _ _ _ _ _ _ q=>gt_int q
def Rc(b:aC)(h:op≠.In<|>δ)(h2:op≠.NotIn<|>δ):behindInMarks op b=false:=by
 have e1:(op == CmpOp.In)=false:=by cases op<;>first|rfl|exact absurd rfl h
 have e2:(op == CmpOp.NotIn)=false:=by cases op<;>first|rfl|exact absurd rfl h2
 cases b<;>simp[behindInMarks,e1,e2]
def VI{J:CmpOp}{r:R2}(U:pG X (compareOp J) r)(ha:PE X a ta)(hb:PE X b tb)(hm:behindInMarks J b=false):PE X (.Compare a [J] [b] pos) (tOp r ta tb):=by
 k_ne;exact wpAny_Compare1 (W7 ha hb I h λv u d x y H2 c rx ry q=>U pins d σ H2 x y v u Q c rx ry q) hm
abbrev abM (t:TE):TT:=λσ H Q=>t σ H λx H'=>∃k,x=.bl k/\Q k H'
def TM{J:CmpOp}{r:R2}(U:pG X (compareOp J) r)(ha:PE X a ta)(hb:PE X b tb)(hm:behindInMarks J b=false):PT X (.Compare a [J] [b] pos) (abM<|tOp r ta tb):=by
 k_ne;refine wpAny_isTrue_Compare1 (mY (ha pins s σ H _ I h) λv B ⟨x,H1,q,r1,g⟩=>mY (hb pins B σ H1 _ q g) λu t ⟨y,H2,m,r2,p⟩=>
  mY (U pins t σ H2 x y v u _ m r1 r2 p) λc C ⟨z,H3,j,f,k,e,d⟩=>?_) hm
 subst e
 cases f
 exact dO ⟨H3,j,d⟩
abbrev Om (r J:R2)(ta tb tc:TE):TE:=λσ H Q=>ta σ H λx H1=>tb σ H1 λy H2=>r x y H2 λz H3=>∃k,z=.bl k /\
 (if k=true then tc σ H3 λd c=>J y d c Q else Q (.bl false) H3)
def QX{r r':R2}(ho:pG X (compareOp op) r)(U:pG X (compareOp op') r')(ha:PE X a ta)(hb:PE X b tb)(hc:PE X c tc)
  (hm:lastMarks [op,op'] [b,c]=false<|>ι):PE X (.Compare a [op,op'] [b,c] pos) (Om r r' ta tb tc):=by
 k_ne;refine Compare_chain (mY (ha pins s σ H _ I h) λv N ⟨x,H1,D,r1,m⟩=>chain_link (mY (hb pins N σ H1 _ D m) λu G ⟨y,H2,B,r2,C⟩=>
  mY (ho pins G σ H2 x y v u _ B r1 r2 C) λd F ⟨z,H3,g,j,k,e,f⟩=>?_)) hm
 subst e
 cases j
 refine dO ?_
 cases k with
 | false=>exact ite_ff ⟨.bl false,H3,g,rfl,f⟩
 | true=>exact ite_tt<|chain_last<|mY (hc pins F σ H3 _ g f) λp J ⟨M,K,L,t,q⟩=>U pins J σ K y M u p Q L r2 t q
abbrev Zs (K:au)(x:V)(H:Hp)(k:Bool):Prop:=
 match x with
 | .non=>k=false
 | .bl b=>k=b
 | .int i=>k=(i != 0)
 | .str y=>y.length<=sizeLine/\k=((y.length:Int) != 0)
 | .byt y=>y.size<=sizeLine/\k=((y.size:Int) != 0)
 | .ref p=>(∃xs,pK K H p xs/\k=!xs.isEmpty)\/(∃xs,oE K H p xs/\k=!xs.isEmpty)\/∃kvs,H p=some (.dK kvs)/\k=!kvs.isEmpty
 | _=>False
def IV{κ:Type}{kvs:List<|κ×V}{vs:List<|κ×af}(r:KV kvs vs):(!vs.isEmpty)=!kvs.isEmpty:=by
 cases r<;>rfl
def Bj{xs:List V}{its:ba}(r:Vals xs its):(!its.toArray.isEmpty)=!xs.isEmpty:=by
 cases r<;>simp
def wA:(sizeLine:Nat)<2 ^ 63:=by rw[eN];decide
def Xa:acI X (λx H Q=>∃k,Zs X.K x H k/\Q k H):=by
 intro pins s σ H x v Q I rx h;obtain⟨k,e,q⟩:=h;have D:=wA;have hs:sizeLine=16777216:=eN
 cases x with
 | non=>
  cases rx
  have c:k=false:=e;subst c;exact truthy_none ⟨H,I,q⟩
 | bl b=>
  cases rx
  have c:k=b:=e;subst c;exact dO ⟨H,I,q⟩
 | int i=>
  obtain⟨t,rfl⟩:=rx;have c:k=(i != 0):=e;subst c;exact PySem.P.truthy_int ⟨H,I,q⟩
 | str y=>
  obtain⟨t,rfl⟩:=rx;obtain⟨C,c⟩:y.length<=sizeLine/\k=((y.length:Int) != 0):=e;subst c;exact PySem.P.truthy_str () ⟨H,I.tok _,q⟩
 | byt y=>
  obtain⟨t,rfl⟩:=rx;obtain⟨C,c⟩:y.size<=sizeLine/\k=((y.size:Int) != 0):=e;subst c;exact PySem.W.truthy_bytes () ⟨H,I.tok _,q⟩
 | ref p=>
  cases rx
  have c:(∃xs,pK X.K H p xs/\k=!xs.isEmpty)\/(∃xs,oE X.K H p xs/\k=!xs.isEmpty)\/∃kvs,H p=some (.dK kvs)/\k=!kvs.isEmpty:=e
  rcases c with⟨xs,f,c⟩|⟨xs,f,c⟩|⟨kvs,f,c⟩
  ·subst c;obtain⟨j,r,pl,B⟩:=I.list f;have d:=r.length;exact wpAny_truthy_list pl.isList (by dsimp[bh];lia) ⟨H,I.tok _,by rw[Bj r];exact q⟩
  ·subst c;obtain⟨j,r,pl,B⟩:=I.tuple f;have d:=r.length;exact truthy_tuple pl (by dsimp[bh];lia) ⟨H,I.tok _,by rw[Bj r];exact q⟩
  ·subst c;obtain⟨B,hS,g,r,m⟩:kvs.length<=sizeLine/\(p == sysModules)=false/\∃g,KV kvs g/\s.heap.DictOf (kB X.prog X.w) p g:=I.hok p _ f;have d:kvs.length=g.length:=i_ r;exact wpAny_truthy_dict hS m () ⟨H,I.tok _,by rw[IV r];exact q⟩
 | _=>exact(show False from e).elim
def OE(J:PE X a ta)(U:∀whole,isTrue a X.env whole=(do let v <- whole;standAt a.pos;holding [v] (truthy v))) :
  PT X a (λσ H Q=>ta σ H λx H'=>∃k,Zs X.K x H' k/\Q k H'):=by
 k_ne;exact isTrue_plain (mY (J pins s σ H _ I h) λv e ⟨x,H1,c,r1,d⟩=>Xa pins e σ H1 x v Q c r1 d)<|U _
def IW:pG X (binaryOp .Add) (λx y H Q=>∃i j,x=.str i/\y=.str j/\i.length+j.length<=sizeLine/\Q (.str<|i++j) H):=by
 kj_on;obtain⟨i,j,rfl,rfl,c,q⟩:=h;obtain⟨t,rfl⟩:=rx;obtain⟨d,rfl⟩:=ry;exact add_str (λd e=>⟨.str<|i++j,H,I.tok _,⟨_,rfl⟩,q⟩) c
def vals1{x:V}(r:Vals [x] us):∃u,us=[u]/\RelV x u:=by
 cases r with
 | cons r1 r2=>cases r2;exact⟨_,rfl,r1⟩
def vals2{x:V}(r:Vals [x,y] us):∃u w',us=[u,w']/\RelV x u/\RelV y w':=by
 cases r with
 | cons r1 r2=>
  cases r2 with
  | cons d c=>cases c;exact⟨_,_,rfl,r1,d⟩
def QD:ko X (.builtin "abs") (λxs H Q=>∃i,xs=[.int i]/\Q (.int<|if i<0 then -i else i) H):=by
 w_up;obtain⟨i,rfl,q⟩:=h;obtain⟨u,rfl,t,rfl⟩:=vals1 r;exact call_abs_int λu c=>⟨.int<|if i<0 then -i else i,H,I.tok _,⟨_,rfl⟩,q⟩
def Cu:ko X (.type "int") (λxs H Q=>(∃i,xs=[.int i]/\Q (.int i) H)\/∃k,xs=[.bl k]/\Q (.int<|if k then 1 else 0) H):=by
 w_up
 rcases h with⟨i,rfl,q⟩|⟨k,rfl,q⟩
 ·obtain⟨u,rfl,t,rfl⟩:=vals1 r;exact call_int_int ⟨.int i,H,I,⟨_,rfl⟩,q⟩
 ·obtain⟨u,rfl,r1⟩:=vals1 r
  cases r1
  exact call_int_bool ⟨.int<|if k then 1 else 0,H,I.tok _,⟨_,rfl⟩,q⟩
abbrev acY (K:au)(x:V)(H:Hp)(n:Nat):Prop:=
 match x with
 | .str y=>y.length<=sizeLine/\n=y.length
 | .byt y=>y.size<=sizeLine/\n=y.size
 | .ref p=>(∃xs,pK K H p xs/\n=xs.length)\/∃xs,oE K H p xs/\n=xs.length
 | _=>False
def RU:ko X (.builtin "len") (λxs H Q=>∃x n,xs=[x]/\acY X.K x H n/\Q (.int n) H):=by
 w_up;obtain⟨x,n,rfl,e,q⟩:=h;kcj_m;have B:=wA;have hs:sizeLine=16777216:=eN
 cases x with
 | str y=>
  obtain⟨t,rfl⟩:=rx;obtain⟨k,d⟩:y.length<=sizeLine/\n=y.length:=e;subst d;exact len_str () ⟨.int _,H,I.tok _,⟨_,rfl⟩,q⟩
 | byt y=>
  obtain⟨t,rfl⟩:=rx;obtain⟨k,d⟩:y.size<=sizeLine/\n=y.size:=e;subst d;exact PySem.W.len_bytes () ⟨.int _,H,I.tok _,⟨_,rfl⟩,q⟩
 | ref p=>
  cases rx
  have d:(∃xs,pK X.K H p xs/\n=xs.length)\/∃xs,oE X.K H p xs/\n=xs.length:=e
  rcases d with⟨xs,g,d⟩|⟨xs,g,d⟩
  ·subst d;obtain⟨j,f,pl,m⟩:=I.list g;have c:=f.length;exact Calls.call_len_list pl.isList (by dsimp[bh];lia) ⟨.int xs.length,H,I.tok _,⟨_,by dsimp[bh];rw[c]⟩,q⟩
  ·subst d;obtain⟨j,f,pl,m⟩:=I.tuple g;have c:=f.length;exact len_tuple pl (by dsimp[bh];lia) ⟨.int xs.length,H,I.tok _,⟨_,by dsimp[bh];rw[c]⟩,q⟩
 | _=>exact(show False from e).elim
end
structure ObjM (h:aq)(x dx C:ak)(mA:Str->bi):Prop where
 obj:h.get? x=some (PySem.W.instObj C dx)
 ns:h.Ns1 dx mA
 ne:dx≠x
def Mu{h:aq}{J:Str->bi}(n:h.Ns1 dx J):∃od,h.get? dx=some od/\∀name,PySem.W.lookIn name od=some (J name):=by
 obtain⟨o,es,ep,d,k,g,_,j⟩:=n;refine⟨o,d,λname=>?_⟩;have e:=j name;unfold nsFind findBy at e;rw[<- Array.find?_toList]at e;unfold PySem.W.lookIn;rw[k];dsimp only;split
 ·rename_i y q;rw[q]at e;exact dB some e
 ·rename_i q;rw[q]at e;have a:es.toList.any (·.refKey)=false:=by
   rw[List.any_eq_false];intro y m;obtain⟨z,t,c⟩:=g y<|Array.mem_toList_iff.mp m;simp[DictEntry.refKey,c]
  have f:¬es.toList.any (·.refKey)=true:=by rw[a];exact bI
  rw[aI f];exact dB some e
def ObjM.look{x:ak}{J:Str->bi}(I:ObjM h x dx C J):∃od,PySem.W.InstAt h x (PySem.W.instObj C dx) C (some od)/\∀name,PySem.W.lookIn name od=some (J name):=
 let⟨od,ho,hl⟩:=Mu I.ns
 ⟨od,⟨I.obj,rfl,rfl,ho⟩,hl⟩
def ym.some_of{v:V}(r:ym (some v) o):∃u,o=some u/\RelV v u:=by
 cases o with
 | none=>exact(show False from r).elim
 | some u=>exact⟨u,rfl,r⟩
section
variable {P:aj}{w:ah}{H:Hp}{h:aq}{a C dx:ak}{fs:List (Str×V)}
def U9(J:wW P w H h)(e:H a=some (.ins C dx fs)):∃mA,ObjM h a dx C mA/\(∀f,ym (fs.lookup f)<|mA f)/\PySem.Within mA (fs.map (·.1))/\fs.length<=1000/\H dx=some (.own a):=by
 obtain⟨d,z,c,g,mA,n,r,q⟩:=(show kQ P w H h a (.ins C dx fs)from J a _ e);exact⟨mA,⟨g,n,c⟩,r,q,z,d⟩
end
structure Cls (K:au)(C:ak):Prop where
 pg:PySem.W.plainGet K C Str.empty=true
 hd:PySem.W.hasDictIn K C=true
 po:PySem.W.plainOver K C=true
 sa:PySem.W.findIn K (.ref C) "__setattr__" = some (some<|.builtin "object.__setattr__")
def Cls.get{K:au}(c:Cls K C)(f:Str):PySem.W.plainGet K C f=true:=c.pg
section
variable {X:Cx}{pins:bo}{σ:St}{H:Hp}{s:aA}{A:az}{E:af->aA->Prop}{Q:af->aA->Prop}{c:af}{b:Bool}
inductive TyOf (K:au) (H:Hp):V->af->Prop where
 | non:TyOf K H .non (.type "NoneType")
 | bl (x:Bool):TyOf K H (.bl x) (.type "bool")
 | int (i:Int):TyOf K H (.int i) (.type "int")
 | str (x:Str):TyOf K H (.str x) (.type "str")
 | flt (x:UInt64):TyOf K H (.flt x) (.type "float")
 | lst {a:ak} {xs:List V} (e:H a=some (.lst xs)):TyOf K H (.ref a) (.type "list")
 | frz {a:ak} {o:Obj} {xs:List V} (e:H a=some (.frz o<|.lst xs)):TyOf K H (.ref a) (.type "list")
 | tup {a:ak} {xs:List V} (e:H a=some (.tup xs)):TyOf K H (.ref a) (.type "tuple")
 | dK {a:ak} {kvs:List<|Key×V} (e:H a=some (.dK kvs)):TyOf K H (.ref a) (.type "dict")
 | dT {a:ak} {kvs:List<|List Key×V} (e:H a=some (.dT kvs)):TyOf K H (.ref a) (.type "dict")
 | ins {a C dx:ak} {fs:List<|Str×V} (e:H a=some (.ins C dx fs)) (cl:Cls K C) (ha:PySem.W.findIn K (.ref C) "__class__" = some (some<|.builtin "object.__class__"))
   (hn:PySem.W.specialIn K (.builtin "object.__class__") "__get__" = some (some<|.builtin "getset_descriptor.__get__")) (htk:PySem.W.takesIn K (.builtin "object.__class__")=some true)
   (hm:PySem.W.mroIn K C (.type "object")=some true):TyOf K H (.ref a)<|.ref C
def MH{x:V}{t:af}(I:Inv X pins σ H s)(rx:RelV x u)(ty:TyOf X.K H x t)(e:PySem.W.kitOne X.K t c=some b)(h:∀tk,Q (.bool b) { s with toks:=tk }) :
  wpAny (model X.prog X.w) A (call (.builtin "isinstance") [u,c]) Q E s:=by
 cases ty with
 | non=>cases(show u=Value.none from rx);exact cY PySem.W.kitx_none I.Ec True.intro e (λz=>nomatch z) h
 | bl y=>cases(show u=Value.bool y from rx);exact cY PySem.W.kitx_bool I.Ec True.intro e (λz=>nomatch z) h
 | int i=>obtain⟨t,q⟩:=(show ∃t,u=Value.int i t from rx);cases q;exact cY PySem.W.kitx_int I.Ec True.intro e (λz=>nomatch z) h
 | str y=>obtain⟨t,q⟩:=(show ∃t,u=Value.str y t from rx);cases q;exact cY PySem.W.kitx_str I.Ec True.intro e (λz=>nomatch z) h
 | flt y=>obtain⟨t,q⟩:=(show ∃t,u=Value.float y t from rx);cases q;exact cY PySem.W.kitx_float I.Ec True.intro e (λz=>nomatch z) h
 | @lst a xs d=>
  cases(show u=Value.ref a from rx)
  obtain⟨_,_,n,_,h1⟩:=(show kQ X.prog X.w H s.heap a (.lst xs)from I.hok a _ d);exact cY PySem.W.kitx_list I.Ec ⟨_,h1,rfl⟩ e (λz=>nomatch z) h
 | @frz a j xs d=>
  cases(show u=Value.ref a from rx)
  obtain⟨_,_,_,n,_,h1⟩:=(show kQ X.prog X.w H s.heap a (.frz j<|.lst xs)from I.hok a _ d);exact cY PySem.W.kitx_list I.Ec ⟨_,h1,rfl⟩ e (λz=>nomatch z) h
 | @tup a xs d=>
  cases(show u=Value.ref a from rx)
  obtain⟨_,_,_,p⟩:=(show kQ X.prog X.w H s.heap a (.tup xs)from I.hok a _ d);obtain⟨o,h1,h2,_⟩:=p;exact cY PySem.W.kitx_tuple I.Ec ⟨o,h1,h2⟩ e (λz=>nomatch z) h
 | @dK a kvs d=>
  cases(show u=Value.ref a from rx)
  obtain⟨_,_,F,_,p⟩:=(show kQ X.prog X.w H s.heap a (.dK kvs)from I.hok a _ d);obtain⟨o,es,ep,h1,h2,_⟩:=p;exact cY PySem.W.kitx_dict I.Ec ⟨o,h1,h2.1⟩ e (λz=>nomatch z) h
 | @dT a kvs d=>
  cases(show u=Value.ref a from rx)
  obtain⟨_,_,xs,_,o,es,ep,h1,h2,_⟩:=(show kQ X.prog X.w H s.heap a (.dT kvs)from I.hok a _ d);exact cY PySem.W.kitx_dict I.Ec ⟨o,h1,h2.1⟩ e (λz=>nomatch z) h
 | @ins a C dx fs d g k hn f m=>
  cases(show u=Value.ref a from rx)
  obtain⟨B,O,_⟩:=U9 I.hok d;obtain⟨D,J,_⟩:=O.look;exact cY (PySem.W.kitx_own (g.get _) g.hd k hn f m) I.Ec J e (λz=>nomatch z) h
end
structure Room (k:Nat)(A:az):Prop where
 hd:A.handled=none
 dp:A.depth+3 * k+5<recursionLimit
 un:A.units+16 * k+200<cLine
 gs:A.guards=some []
def Room.mono{k:Nat}{A:az}(r:Room k A)(h:j<=k):Room j A:=⟨r.hd,by have:=r.dp;lia,by have:=r.un;lia,r.gs⟩
def Room.deeper{k:Nat}{A:az}(r:Room (k+1) A)(env:Env):Room k (A.deeper env):=
 ⟨r.hd,by have:=r.dp;show A.depth+1+3 * k+5<_;lia,by have:=r.un;show A.units+3+16 * k+200<_;lia,r.gs⟩
def Room.depth{k:Nat}{A:az}(r:Room k A):A.depth<recursionLimit:=by have:=r.dp;lia
def Room.units{k:Nat}{A:az}(r:Room k A):A.units+64<cLine:=by have:=r.un;lia
abbrev acG:TA:=λ_ H Q=>Q [] H
abbrev aab (ta:TE)(J:TA):TA:=λσ H Q=>ta σ H λx H1=>J σ H1 λxs H2=>Q (x::xs) H2
section
variable {X:Cx}{e:aC}{es:List aC}{te:TE}{t:TA}{pos:Pos}
def ES:PA X [] acG:=λ_ _ _ _ H Q I h=>Calls.spliced_nil ⟨[],H,I,.nil,h⟩
def xy(J:PE X e te)(U:PA X es t)(hs:starEach (e::es) X.env=(false,eval e X.env)::starEach es X.env<|>η):PA X (e::es) (aab te t):=by
 intro pos pins s σ H Q I h;rw[hs]
 skip
 refine Calls.spliced_cons<|mY (J pins s σ H _ I h) λu j ⟨x,H1,g,r1,c⟩=>?_;exact mY (U pos pins j σ H1 _ g c) λus k ⟨xs,H2,d,r2,f⟩=>⟨x::xs,H2,d,.cons r1 r2,f⟩
abbrev ade (t:TA):TE:=λσ H Q=>t σ H λxs H1=>xs.length<=sizeLine/\∀p,H1 p=none->Q (.ref p) (upd H1 p<|.tup xs)
abbrev adz (t:TA):TE:=λσ H Q=>t σ H λxs H1=>xs.length<=sizeLine/\∀p,H1 p=none->Q (.ref p) (upd H1 p<|.lst xs)
def ZH{x1}(h:PA X es t):PE X (.Tuple es x1 pos) (ade t):=by
 intro pins s σ H Q I f;refine wpAny_Tuple_spliced (mY (h pos pins s σ H _ I f) λus c ⟨xs,H1,d,r,z,q⟩=>⟨by rw[<- r.length];exact z,?_⟩);have hf:H1 c.heap.objs.size=none:=d.hok.fresh<|aR _;refine⟨.ref c.heap.objs.size,upd H1 c.heap.objs.size<|.tup xs,d.laid (t':=c.toks) (λb u e=>aZ _ e) (aR _) ?_,rfl,q _ hf⟩;exact⟨z,us,r,⟨_,bH _ rfl,rfl,rfl,_,rfl⟩⟩
def XF(h:PA X es t):PE X (.List es pos) (adz t):=by
 intro pins s σ H Q I f;refine wpAny_List_spliced (mY (h pos pins s σ H _ I f) λus c ⟨xs,H1,d,r,z,q⟩=>⟨by rw[<- r.length];exact z,?_⟩);have hf:H1 c.heap.objs.size=none:=d.hok.fresh<|aR _;refine⟨.ref c.heap.objs.size,upd H1 c.heap.objs.size<|.lst xs,d.laid (t':=c.toks) (λb u e=>aZ _ e) (aR _) ?_,rfl,q _ hf⟩;exact⟨z,us,0,r,bH _ rfl⟩
end
meta abbrev Sp:=List V->Hp->VK->XK->Prop
meta abbrev To:=List Env->Hp->aA->XK->af->aA->Prop
structure Env0 (P:aj)(w:ah)(K:au)(mg:Str->bi)(base:aq)(A:az)(outer:List Env)(s:aA)(H:Hp):Prop where
 frames:A.frames=some outer
 mod:Mod K mg base
 bs:∀b o,base.get? b=some o->s.heap.get? b=some o/\H b=none
 bsz:base.objs.size<=s.heap.objs.size
 Bh:s.heap.FunFrames base outer
 frf:∀b∈frs outer,H b=none
 hok:wW P w H s.heap
 bare:AllBare s.gens
abbrev CE (outer:List Env)(P:aj)(w:ah)(H:Hp)(s:aA)(Q:VK)(u:af)(s':aA):Prop:=
 ∃v H',s'.os=s.os/\AllBare s'.gens/\Un (frs outer) [] H H' s.heap s'.heap/\wW P w H' s'.heap/\RelV v u/\Q v H'
abbrev CR (CX:To)(outer:List Env)(P:aj)(w:ah)(H:Hp)(s:aA)(Q:VK)(E:XK)(r:Result)(s':aA):Prop:=
 match r with
 | .ok (.ret u)=>CE outer P w H s Q u s'
 | .ok _=>False
 | .error e=>CX outer H s E e s'
structure FnOk (P:aj)(w:ah)(K:au)(mg:Str->bi)(base:aq)(CX:To)(k:Nat)(f:ak)(fd:FuncData)(ps:ar)(sp:Sp):Prop where
 len:∀vs H Q E,sp vs H Q E->vs.length=ps.length
 run:∀(A:az) (outer:List Env) (s:aA) (H:Hp) (args:Args) (us:ba) (vs:List V) (Q:VK) (E:XK),Room k A->Env0 P w K mg base A outer s H->BindsTo s fd args (ps.zip us)->Vals vs us->sp vs H Q E ->
  codeAny (model P w) A (.call (.ref f) args) (CR CX outer P w H s Q E) s
section
variable {X:Cx}{pins:bo}{σ:St}{H:Hp}{s s':aA}
def Inv.ada(I:Inv X pins σ H s):Env0 X.prog X.w X.K X.mg X.base X.A X.stack s H:=
 ⟨I.ok.frames,I.ok.mod,I.bs,bG I.ok.bsz I.sz,I.stack,I.JC,I.hok,I.bare⟩
def Inv.after{Q:VK}(I:Inv X pins σ H s)(h:CE X.stack X.prog X.w H s Q u s'):EP X pins σ Q u s':=by
 obtain⟨v,H',os,c,un,e,r,q⟩:=h;obtain⟨j,g,d,t,f⟩:=s';obtain rfl:f=s.os:=os;exact⟨v,H',I.call (h':=j) (g':=g) (d':=d) (t':=t) (ch:=[]) un e c λb z=>absurd z<|by simp,r,q⟩
end
abbrev Wx (sp:Sp)(dvs:List V)(E:XK)(t:TA):TE:=λσ H Q=>t σ H λc H1=>sp (c++dvs) H1 Q E
abbrev Binds (K:au)(fd:FuncData)(ps:ar)(ds:ba):Prop:=
 ∀(s:aA) (us:ba),K.In s.heap->(us++ds).length=ps.length->BindsTo s fd ⟨us,[]⟩ (ps.zip<|us++ds)
def Binds.all{K:au}{ps:ar}(h:∀us:ba,us.length=ps.length->bindArgs fd ⟨us,[]⟩=pure (ps.zip us)):Binds K fd ps []:=λs us _ c=>by
 rw[cR]at c ⊢;exact .of_eq<|h us c
abbrev Passes (CX:To)(X:Cx)(E:XK):Prop:=∀(pins:bo) (σ:St) (H:Hp) (s:aA) (e:af) (s':aA),Inv X pins σ H s->CX X.stack H s E e s'->X.xe e s'
section
variable {X:Cx}{CX:To}{k:Nat}{f C:ak}{fd:FuncData}{ps:ar}{sp:Sp}{dvs:List V}{ds:ba}{E:XK}{x:Str}{p pos:Pos}{e:aC}{es:List aC}{t:TA}
def Yu{H:Hp}{Q:VK}(F:FnOk X.prog X.w X.K X.mg X.base CX k f fd ps sp)(J:Room k X.A)(U:Binds X.K fd ps ds)(hd:Vals dvs ds)(hx:Passes CX X E)
  (I:Inv X pins σ H s) (r:Vals vs us) (h:sp (vs++dvs) H Q E):wpAny (model X.prog X.w) X.A (call (.ref f) us) (EP X pins σ Q) X.xe s:=by
 have r2:Vals (vs++dvs) (us++ds):=r.append hd;have d:(us++ds).length=ps.length:=by rw[<- r2.length];exact F.len _ _ _ _ h
 refine wpAny_call (jk (F.run X.A X.stack s H ⟨us,[]⟩ (us++ds) (vs++dvs) Q E J I.ada (U s us I.Ec d) r2 h) λr s' c=>?_)
 cases r with
 | error e=>exact hx pins σ H s e s' I c
 | ok fl=>
  cases fl with
  | ret u=>exact I.after c
  | next=>exact False.elim c
  | brk=>exact False.elim c
  | cont=>exact False.elim c
def Vs(F:FnOk X.prog X.w X.K X.mg X.base CX k f fd ps sp)(hr:Room k X.A)(hg:Gl X x)(hm:X.mg x=some (.ref f))(hk:PySem.W.keepIn X.K (.ref f)=true)(hb:Binds X.K fd ps ds)(hd:Vals dvs ds)(hx:Passes CX X E)
  (ha:PA X (e::es) t) (J:(x == ("__debug__" : Str))=false<|>δ) (he:starEach (e::es) X.env=(false,eval e X.env)::starEach es X.env<|>η) (U:((backTo pos<|starEach es X.env).any (·.1)=false)<|>η) :
  PE X (.Call (.Name x p) (e::es) [] pos) (Wx sp dvs E t):=by
 k_ne;refine iS<|J6 I hg hm ?_ J;refine PySem.W.callWith_K (h₀:=X.base) I.ok.mod.kin hk (mY (ha pos pins s σ H _ I h) λus d ⟨c,H1,I1,r,q⟩=>⟨I1.Ec,?_⟩) he U;exact Yu F hr hb hd hx I1 r q
end
section
variable {fd:FuncData}{ps ks:ar}
end
structure FnScope (N P:ar)(sc:Scope):Prop where
 kind:sc.kind=.function
 co:sc.isCoroutine=false
 gen:sc.isGenerator=false
 nd:N.Nodup
 pre:N.take P.length=P
 par:∀x∈P,sc.names.lookup x=some .local\/sc.names.lookup x=some .cell
 nofree:∀y∈sc.names,y.2≠.free
theorem Ci{J:Str->Option NameKind}{x:Str}:∀{binds:List<|Str×af}{m:Str->bi},(∀v,(x,v)∉binds)->bindL J binds m x=m x
 | [],_,_=>rfl
 | (n,v)::r,m,h=>by
  unfold bindL;rw[Ci λw hw=>h w<|aN _ hw];split
  ·have:x≠n:=by rintro rfl;exact h v aL
   simp[this]
  ·rfl
theorem Cm{J:Str->Option NameKind}{x:Str}:∀{binds:List<|Str×af}{m:Str->bi},(∀v,(x,v)∉binds)->bindC J binds m x=m x
 | [],_,_=>rfl
 | (n,v)::r,m,h=>by
  unfold bindC;rw[Cm λw hw=>h w<|aN _ hw];split
  ·rfl
  ·have:x≠n:=by rintro rfl;exact h v aL
   simp[this]
theorem C_{J:Str->Option NameKind}{x:Str}{v:af}:∀{P:ar}{vs:ba}{i:Nat}{m:Str->bi},P.Nodup->P[i]?=some x->vs[i]?=some v->J x=some .local ->
  bindL J (P.zip vs) m x=some v
 | [],_,_,_,_,h,_,_=>by simp at h
 | _::_,[],_,_,_,_,h,_=>by simp at h
 | p::P,w::vs,0,m,nd,h1,h2,hk=>by
  simp at h1 h2;subst h1;subst h2;show bindL J ((p,w)::P.zip vs) m p=_;unfold bindL;rw[Ci λv hv=>(cT.mp nd).1 (jq hv).1,aK hk];simp
 | p::P,w::vs,i+1,m,nd,h1,h2,hk=>by
  skip
  unfold bindL;exact C_ (i:=i) (cT.mp nd).2 (by simpa using h1) (by simpa using h2) hk
theorem Cp{J:Str->Option NameKind}{x:Str}{v:af}:∀{P:ar}{vs:ba}{i:Nat}{m:Str->bi},P.Nodup->P[i]?=some x->vs[i]?=some v->J x≠some .local ->
  bindC J (P.zip vs) m x=some v
 | [],_,_,_,_,h,_,_=>by simp at h
 | _::_,[],_,_,_,_,h,_=>by simp at h
 | p::P,w::vs,0,m,nd,h1,h2,hk=>by
  simp at h1 h2;subst h1;subst h2;show bindC J ((p,w)::P.zip vs) m p=_;unfold bindC;rw[Cm λv hv=>(cT.mp nd).1 (jq hv).1,aI hk];simp
 | p::P,w::vs,i+1,m,nd,h1,h2,hk=>by
  skip
  unfold bindC;exact Cp (i:=i) (cT.mp nd).2 (by simpa using h1) (by simpa using h2) hk
abbrev start (N:ar)(vs:List V):St:=vs.map some++List.replicate (N.length-vs.length) none
abbrev Iw (CX:To)(P:aj)(w:ah)(K:au)(mg:Str->bi)(base:aq)(N:ar)(J:Str)(scope:Scope)(f:ak)(U:af)(A:az)(outer:List Env)(s:aA)(H:Hp)(E:XK):Cx where
 prog:=P
 w:=w
 K:=K
 mg:=mg
 base:=base
 A:=A.deeper (envOfC J scope s.heap.objs.size f U)
 N:=N
 s₀:=s
 H₀:=H
 env:=envOfC J scope s.heap.objs.size f U
 outer:=outer
 stack:=envOfC J scope s.heap.objs.size f U::outer
 ex:=[]
 calm:=true
 fn:=λ_=>true
 pn:=[]
 xe:=λe s'=>wpAny (model P w) (A.deeper<|envOfC J scope s.heap.objs.size f U) (leaving (envOfC J scope s.heap.objs.size f U) e) (λ_ c=>CX outer H s E e c) (λd c=>CX outer H s E d c) s'
def GV{J:Scope}{n:Nat}{x:Str}(h:J.names.lookup x=some .cell):∃c,(cellsFrom n J.names []).lookup x=some c:=by
 have q:=fQ J.names n []<|.inl h;exact d9.mp q
def MQ{CX:To}{P:aj}{w:ah}{K:au}{mg:Str->bi}{base:aq}{N ps:ar}{scope:Scope}{f:ak}{A:az}{outer:List Env}{s:aA}{H:Hp}{E:XK}{vs:List V}
  (S:FnScope N ps scope) (U:A.handled=none) (e0:Env0 P w K mg base A outer s H) (hl:vs.length=ps.length) (r:Vals vs us)
  (x:InCallC s s.heap.objs.size (bindL (envOfC qual scope s.heap.objs.size f cd).kindOf (ps.zip us) λ_=>none) (cellsFrom (s.heap.objs.size+1) scope.names []) (bindC (envOfC qual scope s.heap.objs.size f cd).kindOf (ps.zip us) λ_=>none) s1) :
  Inv (Iw CX P w K mg base N qual scope f cd A outer s H E) [] (start N vs) H s1:=by
 have D:ps.length<=N.length:=by have:=dB List.length S.pre;rw[bU]at this;lia
 obtain⟨h1,J,rfl,B⟩:=x.done;have d:∀b:ak,b∉(Iw CX P w K mg base N qual scope f cd A outer s H E).ex:=λb z=>absurd (show b∈([]:bb)from z) (by simp);refine⟨⟨e0.mod,S.kind,rfl,rfl,aR _,λy z c h1 h2=>?_,λy g=>?_,λy c _ h=>?_,λ_=>U,Around.frames_deeper e0.frames,.inr ⟨rfl,rfl⟩,λb z=>absurd z<|d b,e0.bs,e0.bsz,λb _ _=>d b,λb z=>absurd z<|d b,e0.Bh,e0.frf⟩,
  rfl,e0.bare,Un.kept B,⟨_,x.toInCall.ns,λi y v h1 h2 h3=>?_⟩,λy c h=>⟨_,x.cell y c h⟩,e0.hok.fresh<|aR _,λy c h=>?_,λp j=>absurd (show p∈([]:bo)from j)<|by simp,e0.hok.kept B,?_⟩
 ·exact name_of_addr x.apart (c9 h1) (c9 h2)
 ·have g:scope.names.lookup y=some .cell\/scope.names.lookup y=some .free:=g
  rcases g with g|g
  ·exact GV g
  ·exact absurd rfl<|S.nofree _<|c9 g
 ·exact d7 (x.above y c<|c9 h)
 ·have t:i<vs.length:=by
   unfold start at h2;by_cases t:i<vs.length
   ·exact t
   ·rw[f_<|by simpa using t]at h2;rw[List.getElem?_replicate]at h2;split at h2<;>cases h2
  have F:vs[i]?=some v:=by
   unfold start at h2;rw[bB<|by simpa using t,aO]at h2
   cases e:vs[i]? with
   | none=>rw[e]at h2;cases h2
   | some a=>rw[e]at h2;cases h2;rfl
  obtain⟨u,C,G⟩:=r.get F;have j:ps[i]?=some y:=by
   rw[<- S.pre,d_ ()];exact h1
  have m:ps.Nodup:=by rw[<- S.pre];exact S.nd.sublist (List.take_sublist _ _)
  refine⟨u,G,?_⟩
  rcases S.par y (aW j)with k|k
  ·exact .inl ⟨k,C_ m j C k⟩
  ·obtain⟨c,e⟩:=GV (n:=s.heap.objs.size+1) k;refine .inr ⟨.inl k,c,e,?_⟩;have q:=x.cell y c e;rw[Cp m j C<|by show scope.names.lookup y≠_;rw[k];decide]at q;exact q
 ·exact e0.hok.fresh (d7<|x.above y c<|c9 h)
 ·unfold start;show _=N.length;rw[br,aH,List.length_replicate]
  lia
def aaa{CX:To}{P:aj}{w:ah}{K:au}{mg:Str->bi}{base:aq}{k:Nat}{f:ak}{kV pm ct:af}
  {osl:Array<|bi} {N ps:ar} {sp:Sp} (lk:K.lookup f=some ⟨oc,od,.func<|PySem.W.fnOf name qual params body scope dV kV doc pm an cdv ct,osl⟩) (hcd:PySem.W.codeIn K cdv qual=true) (S:FnScope N ps scope)
  (len:∀vs H Q E,sp vs H Q E->vs.length=ps.length)
  (hbody:∀(A:az) (outer:List Env) (s:aA) (H:Hp) (vs:List V) (Q:VK) (E:XK),Room k (A.deeper<|envOfC qual scope s.heap.objs.size f cdv)->sp vs H Q E ->
   ∃t,Fl (Iw CX P w K mg base N qual scope f cdv A outer s H E) body t/\t { nx:=λ_ H'=>Q .non H',rt:=Q } (start N vs) H) :
  FnOk P w K mg base CX (k+1) f (PySem.W.fnOf name qual params body scope dV kV doc pm an cdv ct) ps sp:=by
 refine⟨len,λA outer s H B us vs Q E j e0 F r g=>?_⟩;have O:=len _ _ _ _ g;have D:K.In s.heap:=e0.mod.kin.keeps λb o e=>(e0.bs b o e).1;have p:s.heap.NoLimit:=e0.mod.nolimit.keeps λb o e=>(e0.bs b o e).1;have d:∀y∈ps.zip us,scope.names.lookup y.1=some .local\/(scope.names.lookup y.1=some .cell/\((cellsFrom (s.heap.objs.size+1) scope.names []).lookup y.1).isSome=true):=λ⟨n,v⟩ T=>by
  rcases S.par n (jq T).1 with q|q
  ·exact .inl q
  ·exact .inr ⟨q,fQ _ _ _<|.inl q⟩
 refine codeAny_call_function j.depth (D _ _ lk) rfl S.co S.gen rfl (PySem.W.codeRec_of D hcd)<|F _ _ _ _ ?_;refine wpAny_newFunctionEnv_cells S.kind d λM L C x=>?_;subst L;refine⟨p.keeps x.toInCall.keep,codeAny_func ?_⟩;obtain⟨t,U,G⟩:=hbody A outer s H vs Q E (j.deeper _) g;have I:Inv (Iw CX P w K mg base N qual scope f cdv A outer s H E) [] (start N vs) H C:=MQ S j.hd e0 O r x;refine gI (U [] C (start N vs) H _ I G) (λfl s' hs=>?_) λe s' hs=>hs;have fin:∀{c:St} {H':Hp} {v:V} {u:af},Inv (Iw CX P w K mg base N qual scope f cdv A outer s H E) [] c H' s'->RelV v u->Q v H'->CE outer P w H s Q u s':=
  λ{c H' v u} J m q=>⟨v,H',J.os,J.bare,J.base,J.hok,m,q⟩
 cases fl with
 | ret u=>
  obtain⟨v,c,H',J,m,q⟩:=hs;exact fin J m q
 | next=>
  obtain⟨c,H',J,q⟩:=hs;exact fin (v:=V.non) (u:=Value.none) J rfl q
 | brk=>
  obtain⟨_,_,_,q⟩:=hs;exact False.elim q
 | cont=>
  obtain⟨_,_,_,q⟩:=hs;exact False.elim q
section
variable {X:Cx}{x:Str}{p pos:Pos}{e:aC}{es:List aC}{t:TA}{id T:String}{r:List V->Hp->VK->Prop}
abbrev tCB (r:List V->Hp->VK->Prop)(t:TA):TE:=λσ H Q=>t σ H λc H1=>r c H1 Q
def NV(hc:ko X (.builtin id) r)(hg:Gl X x)(hm:X.mg x=none)(hv:bootBuiltins x=some (.builtin id))(ha:PA X (e::es) t)(hn:x ≠ "__name__"<|>δ)(J:(x == ("__debug__" : Str))=false<|>δ)
  (he:starEach (e::es) X.env=(false,eval e X.env)::starEach es X.env<|>η) (U:((backTo pos<|starEach es X.env).any (·.1)=false)<|>η):PE X (.Call (.Name x p) (e::es) [] pos) (tCB r t):=by
 k_ne;refine iS<|yp I hg hm hv ?_ hn J;exact PyProof.Rows.callWith_builtin1 (mY (ha pos pins s σ H _ I h) λus g ⟨d,H1,c,r1,f⟩=>hc pins g σ H1 d us Q c r1 f) he U
def Ni(hc:ko X (.type T) r)(hg:Gl X x)(hm:X.mg x=none)(hv:bootBuiltins x=some (.type T))(ha:PA X (e::es) t)(hn:x ≠ "__name__"<|>δ)(J:(x == ("__debug__" : Str))=false<|>δ)
  (he:starEach (e::es) X.env=(false,eval e X.env)::starEach es X.env<|>η) (U:((backTo pos<|starEach es X.env).any (·.1)=false)<|>η):PE X (.Call (.Name x p) (e::es) [] pos) (tCB r t):=by
 k_ne;refine iS<|yp I hg hm hv ?_ hn J;exact eG (mY (ha pos pins s σ H _ I h) λus g ⟨d,H1,c,r1,f⟩=>hc pins g σ H1 d us Q c r1 f) he U
end
end L2
namespace HT
open PySem PyProof.Rows
abbrev lexLt:ag->ag->Bool
 | [],[]=>false
 | [],_::_=>true
 | _::_,[]=>false
 | x::xs,y::ys=>if x=y then lexLt xs ys else decide (x<y)
def tP(x y:Int)(xs ys:ag):lexLt (x::xs) (y::ys)=if x=y then lexLt xs ys else decide (x<y):=rfl
def rB:lexLt [] []=false:=rfl
def oV(y:Int)(ys:ag):lexLt [] (y::ys)=true:=rfl
def qL(x:Int)(xs:ag):lexLt (x::xs) []=false:=rfl
section
variable {prog:aj}{w:ah}{A:az}{E:af->aA->Prop}{s:aA}
def Tp{t b:ak}{vs ws:ba}{Q:af->aA->Prop}(J:IsTup s.heap t vs.toArray)(U:IsTup s.heap b ws.toArray)(hv:vs≠[])
  (h1:ws=[]->Q (.ref t) s) (h2:ws≠[]->Q (.ref s.heap.objs.size) { s with heap:=s.heap.push { cls:=.type "tuple",data:=.seq (vs++ws).toArray }})
  (hsz:vs.length+ws.length<=sizeLine):wpAny (model prog w) A (binaryOp .Add (.ref t)<|.ref b) Q E s:=by
 obtain⟨⟨cls,p,data,q⟩,k,hc,n,B⟩:=id J;obtain⟨⟨C,g,m,d⟩,c,j,D,f⟩:=id U;simp only at hc B j f;subst hc B j f;have e:vs.toArray++ws.toArray=(vs++ws).toArray:=by simp
 by_cases hw:ws=[]
 ·exact concat_meets ⟨_,k,rfl⟩ ⟨_,c,rfl⟩ noFill_tuple_add seq_tuple_add gY gT (gA _ _)
   (tuple_addW1 t b vs.toArray ws.toArray n D p g q d (by simpa using hv)<|by simp[hw]) ⟨k,c,h1 hw⟩
 ·refine concat_meets ⟨_,k,rfl⟩ ⟨_,c,rfl⟩ noFill_tuple_add seq_tuple_add gY gT (gA _ _)
   (tuple_addW2 t b vs.toArray ws.toArray n D p g q d (by simpa using hv) (by simpa using hw)<|by rw[bh,bh];exact hsz) ⟨k,c,?_⟩
  rw[e];exact h2 hw
abbrev sIx (n d:Nat):Option Int->Nat
 | none=>d
 | some v=>if v<0 then(v+(n:Int)).toNat else min v.toNat n
end
end HT
namespace L2
open PySem PySem.Spec PyProof.Rows
def intsAre_of{J:ag}:∀{us:ba},Vals (J.map V.int) us->IntsAre us J:=by
 induction J with
 | nil=>intro us r;rw[fR]at r;cases r;exact .nil
 | cons n J c=>
  intro us r;rw[bE]at r
  cases r with
  | cons r1 r2=>
   obtain⟨t,e⟩:=r1;subst e;exact .cons n t<|c r2
section
variable {X:Cx}{p2:Pos}
abbrev abc (K:au):R2:=λx y H Q=>∃a b xs ys,x=.ref a/\y=.ref b/\oE K H a xs/\oE K H b ys/\xs≠[]/\xs.length+ys.length<=sizeLine /\
 (ys=[]->Q (.ref a) H)/\(ys≠[]->∀p,H p=none->Q (.ref p) (upd H p<|.tup<|xs++ys))
def Vals.EE(r:Vals xs us):us=[] ↔ xs=[]:=by
 cases r with
 | nil=>simp
 | cons _ _=>simp
def TR:pG X (binaryOp .Add) (abc X.K):=by
 kj_on;obtain⟨a,b,xs,ys,rfl,rfl,j,e,k,d,f,g⟩:=h
 cases rx
 cases ry
 obtain⟨m,r1,p1,_⟩:=I.tuple j;obtain⟨c,r2,p2,_⟩:=I.tuple e;refine HT.Tp p1 p2 (λz=>k<|r1.EE.mp z) (λz=>⟨.ref a,H,I,rfl,f<|r2.EE.mp z⟩) (λz=>?_) (by rw[<- r1.length,<- r2.length];exact d);refine⟨.ref s.heap.objs.size,_,I.laid (t':=s.toks) (o:=.tup<|xs++ys) (λb p q=>aZ _ q) (aR _) ?_,rfl,g (λw=>z<|r2.EE.mpr w) _<|I.hok.fresh<|aR _⟩;exact⟨by rw[br];exact d,_,r1.append r2,qy.new _ _⟩
end
abbrev Fo (n:Nat)(i:Int):bn:=if 0<=i then(if i<n then some i.toNat else none)else if -(n:Int)<=i then some (i+n).toNat else none
abbrev t6 {α:Type}(xs:List α)(i:Int):Option α:=(Fo xs.length i).bind λj=>xs[j]?
def KJ{n:Nat}{i:Int}(h:Fo n i=some j):seqIndex? i n=some j/\j<n/\-(n:Int)<=i/\i<n:=by
 unfold Fo at h;by_cases h0:0<=i
 ·rw[aK h0]at h;by_cases h1:i<n
  ·rw[aK h1]at h;have e:i.toNat=j:=aY h;exact⟨by rw[seqIndex_of h0 h1,e],(),(),h1⟩
  ·rw[aI h1]at h;cases h
 ·rw[aI h0]at h;by_cases h1:-(n:Int)<=i
  ·rw[aK h1]at h;have e:(i+n).toNat=j:=aY h;exact⟨by rw[seqIndex_neg () h1,e],(),h1,()⟩
  ·rw[aI h1]at h;cases h
def D5{α:Type}{xs:List α}{i:Int}{v:α}(h:t6 xs i=some v):∃j,seqIndex? i xs.length=some j/\xs[j]?=some v/\j<xs.length/\-(xs.length:Int)<=i/\i<xs.length:=by
 unfold t6 at h
 cases e:Fo xs.length i with
 | none=>rw[e]at h;cases h
 | some j=>
  rw[e]at h;obtain⟨h1,h2,h3,c⟩:=KJ e;exact⟨j,h1,h,h2,h3,c⟩
def Ui{α:Type}{xs:List α}{j:Nat}{v:α}(h:xs[j]?=some v):t6 xs (j:Int)=some v:=by
 have c:j<xs.length:=(aG.mp h).1;have e:Fo xs.length (j:Int)=some j:=by
  unfold Fo;rw[aK (),aK ()];simp
 unfold t6;rw[e];exact h
def Pu{α:Type}(xs:List α)(v:α):t6 (xs++[v]) (-1)=some v:=by
 have c:(xs++[v]).length=xs.length+1:=by simp
 have e:Fo (xs++[v]).length (-1)=some xs.length:=by
  unfold Fo;rw[c,aI ⋯,aK ()];congr 1
  lia
 unfold t6;rw[e]
 skip
 simp
abbrev vA (b:aC):Prop:=∀o i,subscripted b false o i=operate [o,i] (getItem o i)
abbrev Ti (X:Cx)(r:R2):Prop:=
 ∀(d c:aC) (pins:bo) (s:aA) (σ:St) (H:Hp) (x y:V) (v u:af) (Q:VK),Inv X pins σ H s->RelV x v->RelV y u->r x y H Q ->
  subscripted c false v u=operate [v,u] (getItem v u)->wpAny (model X.prog X.w) X.A (subscriptTail d c v u) (EP X pins σ Q) X.xe s
abbrev G_ (X:Cx)(id:String)(r:V->List V->Hp->VK->Prop):Prop:=
 ∀(pins:bo) (s:aA) (σ:St) (H:Hp) (x:V) (xs:List V) (v:af) (us:ba) (Q:VK),Inv X pins σ H s->RelV x v->Vals xs us->r x xs H Q ->
  wpAny (model X.prog X.w) X.A (call (.builtin id) (v::us)) (EP X pins σ Q) X.xe s
section
variable {X:Cx}{a b:aC}{ta tb:TE}{pos:Pos}
def GI{r:R2}(J:Ti X r)(U:PE X a ta)(hb:PE X b tb)(hs:vA b):PE X (.Subscript a b pos) (tOp r ta tb):=by
 k_ne;exact Subscript_<|W7 U hb I h λv u d x y H2 c rx ry q=>J a b pins d σ H2 x y v u Q c rx ry q<|hs _ _
abbrev adG (K:au):R2:=λx y H Q=>∃p xs i v,x=.ref p/\y=.int i/\pK K H p xs/\t6 xs i=some v/\Q v H
abbrev acM (K:au):R2:=λx y H Q=>∃p xs i v,x=.ref p/\y=.int i/\oE K H p xs/\t6 xs i=some v/\Q v H
abbrev acE:R2:=λx y H Q=>∃z i c,x=.str z/\y=.int i/\z.length<=sizeLine/\t6 z.cps.toList i=some c/\Q (.str ⟨#[c]⟩) H
def JB:Ti X (adG X.K):=by
 intro d c pins s σ H x y v u Q I rx ry h hs;obtain⟨p,xs,i,z,rfl,rfl,m,B,q⟩:=h
 cases rx
 obtain⟨t,rfl⟩:=ry;obtain⟨f,r,pl,G⟩:=I.list m;obtain⟨j,h1,h2,h3,F,D⟩:=D5 B;obtain⟨w,k,g⟩:=r.get h2;have C:=r.length;have hn:=wA;have fin:EP X pins σ Q w s:=⟨z,H,I,g,q⟩;by_cases h0:0<=i
 ·have e:i.toNat=j:=by
   rw[seqIndex_of h0 D]at h1;exact aY h1
  exact item_listR pl.isList h0 () (by rw[e];simpa using k) fin hs
 ·have e:(i+(f.toArray.size:Int)).toNat=j:=by
   rw[seqIndex_neg () F]at h1;rw[bh,<- C];exact aY h1
  exact subscriptTail_builtinR (x:=w) pl.isList.typeIs slot_list_getitem.lookup
   (wpAny_getItem_list_neg (Q:=λr s'=>r=w/\EP X pins σ Q r s') pl.isList () (by rw[bh]<;>lia) () (by rw[e];simpa using k) ⟨rfl,fin⟩) hs
def Yp:Ti X (acM X.K):=by
 intro d c pins s σ H x y v u Q I rx ry h hs;obtain⟨p,xs,i,z,rfl,rfl,f,g,q⟩:=h
 cases rx
 obtain⟨t,rfl⟩:=ry;obtain⟨B,r,pl,D⟩:=I.tuple f;obtain⟨j,h1,h2,h3,F,C⟩:=D5 g;obtain⟨w,m,e⟩:=r.get h2;have k:=r.length;have hn:=wA;have fin:EP X pins σ Q w s:=⟨z,H,I,e,q⟩;exact subscriptTail_builtinR (x:=w) pl.typeIs slot_tuple_getitem.lookup
  (getItem_tuple (j:=j) (Q:=λr s'=>r=w/\EP X pins σ Q r s') pl () () (by rw[bh,<- k];exact h1) (by simpa using m) ⟨rfl,fin⟩) hs
def Zk:Ti X acE:=by
 intro e d pins s σ H x y v u Q I rx ry h hs;obtain⟨z,i,c,rfl,rfl,p,f,q⟩:=h;obtain⟨t,rfl⟩:=rx;obtain⟨B,rfl⟩:=ry;obtain⟨j,h1,h2,h3,m,k⟩:=D5 f;have g:z.cps.toList.length=z.length:=by simp[Str.length]
 rw[g]at h1 m k;have hn:=wA;exact tail_any (typeIs_str s z t) slot_str_getitem.lookup (getItem_str (c:=c) (by
  have e1:decide (i < -(2 ^ 63:Int))=false:=bA ();have e2:decide (i>=2 ^ 63)=false:=bA ();rw[e1,e2,Bool.or_false]) (by rw[h1];simpa using h2) ⟨.str ⟨#[c]⟩,H,I.tok _,⟨_,rfl⟩,q⟩) hs
def HB(its:ba)(n j:Nat)(u:af):Obj.mapSeq (·.setIfInBounds j u) { cls:=.type "list",data:=.seq its.toArray n }={ cls:=.type "list",data:=.seq (its.set j u).toArray n }:=by
 simp[Obj.mapSeq]
def Inv.lst{H:Hp}{s:aA}{p:ak}{xs:List V}(I:Inv X pins σ H s)(h:H p=some (.lst xs)) :
  ∃(its:ba) (n:Nat),Vals xs its/\s.heap.get? p=some { cls:=.type "list",data:=.seq its.toArray n }/\xs.length<=sizeLine:=by
 obtain⟨z,its,n,r,e⟩:=I.hok p _ h;exact⟨its,n,r,e,z⟩
def Inv.YQ{H:Hp}{s:aA}{p:ak}{ys:List V}{its its':ba}{n:Nat}{f:Obj->Obj}(I:Inv X pins σ H s)(h:H p=some (.lst xs))
  (J:s.heap.get? p=some { cls:=.type "list",data:=.seq its.toArray n }) (hf:f { cls:=.type "list",data:=.seq its.toArray n }={ cls:=.type "list",data:=.seq its'.toArray n' }) (r:Vals ys its') (U:ys.length<=sizeLine) (t:Nat) :
  Inv X pins σ (upd H p<|.lst ys) { s with heap:=s.heap.update p f,toks:=t }:=by
 have e:(s.heap.update p f).get? p=some { cls:=.type "list",data:=.seq its'.toArray n' }:=by
  rw[Heap.get?_update_self f J<|by rw[hf]<;>rfl,hf]
 refine I.write (x:=p) (e:=p) (by rw[h];trivial) (.inl rfl) (λb u c q=>(Heap.get?_update_other _ _<|cV c).trans q) ⟨_,e⟩ ?_;exact⟨U,its',n',r,e⟩
abbrev abu:V->V->V->Hp->(Hp->Prop)->Prop:=λo i v H Q=>∃p xs k j,o=.ref p/\i=.int k/\H p=some (.lst xs)/\Fo xs.length k=some j/\Q (upd H p<|.lst<|xs.set j v)
def set_list:Mx X abu:=by
 intro pins s σ H o i v K iv u Q I C J F h;obtain⟨p,xs,k,j,rfl,rfl,g,D,q⟩:=h
 cases C
 obtain⟨t,rfl⟩:=J;obtain⟨c,n,r,e,G⟩:=I.lst g;obtain⟨h1,h2,h3,B⟩:=KJ D;have f:=r.length;have hn:=wA;have m:Inv X pins σ (upd H p<|.lst<|xs.set j v) { s with heap:=s.heap.update p<|Obj.mapSeq (·.setIfInBounds j u)}:=
  I.YQ g e (HB c n j u) (r.set F j) (by rw[cu];exact G) s.toks
 by_cases h0:0<=k
 ·have d:k.toNat=j:=by
   rw[seqIndex_of h0 B]at h1;exact aY h1
  exact PySem.W.ki_setAt e h0 () (by rw[bh,<- f];exact B)<|by rw[d];exact⟨_,m,q⟩
 ·have d:(k+(c.toArray.size:Int)).toNat=j:=by
   rw[seqIndex_neg () h3]at h1;rw[bh,<- f];exact aY h1
  exact PySem.W.ki_setBack e () (by rw[bh,<- f];exact h3) ()<|by rw[d];exact⟨_,m,q⟩
abbrev tW:V->Bool
 | .non=>true
 | .bl _=>true
 | .int _=>true
 | .str _=>true
 | _=>false
abbrev HJ:V->V->Bool
 | .non,.non=>true
 | .bl a,.bl b=>a == b
 | .bl a,.int b=>(if a then 1 else 0) == b
 | .int a,.bl b=>a == (if b then 1 else 0)
 | .int a,.int b=>a == b
 | .str a,.str b=>a == b
 | _,_=>false
def ZR{A:az}{x:V}{v:af}(ry:RelV y u)(rx:RelV x v)(U:tW y=true)(J:tW x=true):SeqAt.EqAt A s u v (HJ y x):=by
 cases y with
 | non=>
  cases ry
  cases x with
  | non=>cases rx;exact SeqAt.EqAt.same _
  | bl b=>cases rx;exact SeqAt.EqAt.none_bool b
  | int b=>obtain⟨t,rfl⟩:=rx;exact SeqAt.EqAt.none_int b t
  | str b=>obtain⟨t,rfl⟩:=rx;exact SeqAt.EqAt.none_str b t
  | _=>exact absurd (show false=true from J) bI
 | bl a=>
  cases ry
  cases x with
  | non=>cases rx;exact SeqAt.EqAt.bool_none a
  | bl b=>cases rx;exact SeqAt.EqAt.bool_bool a b
  | int b=>obtain⟨t,rfl⟩:=rx;exact SeqAt.EqAt.bool_int a b t
  | str b=>obtain⟨t,rfl⟩:=rx;exact SeqAt.EqAt.bool_str a b t
  | _=>exact absurd (show false=true from J) bI
 | int a=>
  obtain⟨c,rfl⟩:=ry
  cases x with
  | non=>cases rx;exact SeqAt.EqAt.int_none a c
  | bl b=>cases rx;exact SeqAt.EqAt.int_bool a c b
  | int b=>obtain⟨t,rfl⟩:=rx;exact SeqAt.EqAt.int_int a c b t
  | str b=>obtain⟨t,rfl⟩:=rx;exact SeqAt.EqAt.int_str a c b t
  | _=>exact absurd (show false=true from J) bI
 | str a=>
  obtain⟨c,rfl⟩:=ry
  cases x with
  | non=>cases rx;exact SeqAt.EqAt.str_none a c
  | bl b=>cases rx;exact SeqAt.EqAt.str_bool a c b
  | int b=>obtain⟨t,rfl⟩:=rx;exact SeqAt.EqAt.str_int a c b t
  | str b=>obtain⟨t,rfl⟩:=rx;exact SeqAt.EqAt.str_str a c b t
  | _=>exact absurd (show false=true from J) bI
 | _=>exact absurd (show false=true from U) bI
abbrev ZZ (x:V)(u:af):Bool:=match u with
 | .none=>HJ .non x
 | .bool b=>HJ (.bl b) x
 | .int i _=>HJ (.int i) x
 | .str z _=>HJ (.str z) x
 | _=>false
def Im{x:V}(r:RelV y u)(f:tW y=true):ZZ x u=HJ y x:=by
 cases y with
 | non=>cases r;rfl
 | bl b=>cases r;rfl
 | int i=>obtain⟨t,rfl⟩:=r;rfl
 | str z=>obtain⟨t,rfl⟩:=r;rfl
 | _=>exact absurd (show false=true from f) bI
theorem Ae{A:az}{x:V}{v:af}(rx:RelV x v)(J:tW x=true):∀{xs:List V}{us:ba},Vals xs us->xs.all tW=true->∀u∈us,SeqAt.EqAt A s u v (ZZ x u)
 | _,_,.nil,_=>λu c=>by cases c
 | y::xs,u::us,.cons r t,f=>λd c=>by
  rw[ja,c7]at f
  rcases bD.mp c with rfl|c
  ·rw[Im r f.1];exact ZR r rx f.1 J
  ·exact Ae rx J t f.2 d c
abbrev inV (x:V)(xs:List V):Bool:=xs.any λy=>HJ y x
def sX:ko X (.type "list") (λxs H Q=>∃p ys,xs=[.ref p]/\(pK X.K H p ys\/oE X.K H p ys)/\∀l,H l=none->Q (.ref l) (upd H l<|.lst ys)):=by
 w_up;obtain⟨p,ys,rfl,g,q⟩:=h;kcj_m
 cases rx
 have fin:∀(c:ba),Vals ys c->ys.length<=sizeLine->∀(h':aq) (f:Nat),(∀b o',s.heap.get? b=some o'->h'.get? b=some o') ->
   h'.get? s.heap.objs.size=some { cls:=.type "list",dict:=none,data:=.seq c.toArray f,slots:=#[]}->EP X pins σ Q (.ref s.heap.objs.size) { s with heap:=h' }:=λc d k h' f kp e=>
  ⟨.ref s.heap.objs.size,_,I.laid (t':=s.toks) kp (aR _)<|show kQ X.prog X.w _ h' _ (.lst ys)from⟨k,c,f,d,e⟩,rfl,q _<|I.hok.fresh<|aR _⟩
 rcases g with g|g
 ·obtain⟨c,d,pl,k⟩:=I.list g;have j:=d.length;obtain⟨o,m,hc,n,t⟩:=pl.isList;exact call_list_seq p (.inl rfl) m hc t (λh' f kp e=>fin c d k h' f kp e) (by dsimp[bh]<;>lia)
 ·obtain⟨c,d,pl,k⟩:=I.tuple g;have j:=d.length;obtain⟨o,m,hc,n,t⟩:=pl;exact call_list_seq p (.inr rfl) m hc t (λh' f kp e=>fin c d k h' f kp e)<|by dsimp[bh]<;>lia
def rO:ko X (.type "tuple") (λxs H Q=>∃p ys,xs=[.ref p]/\((pK X.K H p ys/\∀l,H l=none->Q (.ref l) (upd H l<|.tup ys))\/(oE X.K H p ys/\Q (.ref p) H))):=by
 w_up;obtain⟨p,ys,rfl,h⟩:=h;kcj_m
 cases rx
 rcases h with⟨d,q⟩|⟨d,q⟩
 ·obtain⟨c,f,pl,k⟩:=I.list d;have j:=f.length;refine call_tuple_list pl.isList (λh' kp=>?_) (by dsimp[bh]<;>lia);have g:Inv X pins σ H { s with heap:=h' }:=I.kept (t':=s.toks) kp;have m:Inv X pins σ (upd H h'.objs.size<|.tup ys) { s with heap:=h'.push { cls:=.type "tuple",data:=.seq c.toArray }}:=
   g.laid (t':=s.toks) (λb o e=>aZ _ e) (aR _) (show kQ X.prog X.w _ _ _ (.tup ys)from⟨k,c,f,qy.new _ _⟩)
  exact⟨.ref h'.objs.size,_,m,rfl,q _<|g.hok.fresh<|aR _⟩
 ·obtain⟨c,f,pl,k⟩:=I.tuple d;exact call_tuple_same pl ⟨.ref p,H,I,rfl,q⟩
abbrev Z5 (K:au)(T:String)(x:V)(H:Hp):Prop:=match x with
 | .str _=>T = "str"
 | .int _=>T = "int"
 | .ref p=>(T = "list" /\ ∃xs,pK K H p xs)\/(T = "tuple" /\ ∃o,K.lookup p=some o/\o.cls=.type "tuple" /\ o.dict=none) \/
   (T = "dict" /\ ((∃kvs,H p=some (.dK kvs))\/∃kvs,H p=some (.dT kvs)))\/(T = "set" /\ ∃S n,H p=some (.set S n))
 | _=>False
def PU{H:Hp}{s:aA}{x:V}{v:af}(I:Inv X pins σ H s)(r:RelV x v)(ty:Z5 X.K T x H) :
  s.TypeIs v T/\∀a,v=.ref a->∃ob,s.heap.get? a=some ob/\ob.dict=none:=by
 cases x with
 | str z=>
  obtain⟨t,rfl⟩:=r
  cases(show T = "str" from ty)
  exact⟨typeIs_str s z t,nofun⟩
 | int i=>
  obtain⟨t,rfl⟩:=r
  cases(show T = "int" from ty)
  exact⟨typeIs_int s i t,nofun⟩
 | ref p=>
  cases r
  rcases ty with⟨rfl,xs,g⟩|⟨rfl,o,d,hc,f⟩|⟨rfl,d⟩|⟨rfl,S,n,d⟩
  ·obtain⟨j,_,pl,_⟩:=I.list g;refine⟨pl.isList.typeIs,λa e=>?_⟩
   cases e
   obtain⟨o,n,e,c,f,_⟩:=pl;exact⟨o,e,f⟩
  ·refine⟨⟨o,I.Ec p o d,hc⟩,λa e=>?_⟩
   cases e
   exact⟨o,I.Ec _ o d,f⟩
  ·have z:∃o,s.heap.get? p=some o/\o.ExactDict:=by
    rcases d with⟨kvs,d⟩|⟨kvs,d⟩
    ·obtain⟨_,_,_,_,o,_,_,e,ex,_⟩:=I.hok p _ d;exact⟨o,e,ex⟩
    ·obtain⟨_,_,_,_,o,_,_,e,ex,_⟩:=I.hok p _ d;exact⟨o,e,ex⟩
   obtain⟨o,e,ex⟩:=z;refine⟨⟨o,e,ex.1⟩,λa e2=>?_⟩
   cases e2
   exact⟨o,e,ex.2.1⟩
  ·obtain⟨o,_,_,_,e,ex,_⟩:=I.hok p _ d;refine⟨⟨o,e,ex.1⟩,λa e2=>?_⟩
   cases e2
   exact⟨o,e,ex.2.1⟩
 | _=>exact False.elim ty
abbrev adO (K:au)(T:String)(r:V->List V->Hp->VK->Prop)(to:TE):TE:=λσ H Q=>to σ H λx H1=>Z5 K T x H1/\r x [] H1 Q
abbrev tBM (K:au)(T:String)(r:V->List V->Hp->VK->Prop)(to:TE)(t:TA):TE:=λσ H Q=>to σ H λx H1=>Z5 K T x H1/\t σ H1 λxs H2=>r x xs H2 Q
variable {o e:aC}{es:List aC}{to:TE}{t:TA}{name:Str}{apos cpos:Pos}{T id:String}{r:V->List V->Hp->VK->Prop}
def Y3(pa:PlainAttrs T)(slot:Slot T name id)(hty:typeOf (.builtin id)=pure (.type "method_descriptor"))(hm:G_ X id r)(ho:PE X o to)
  (J:attributeBase o name X.env (eval o X.env)=eval o X.env<|>η) (U:(apos.endLine == cpos.line)=true<|>η):PE X (.Call (.Attribute o name apos) [] [] cpos) (adO X.K T r to):=by
 k_ne;refine wpAny_Call_method0_late J U<|mY (ho pins s σ H _ I h) λv e ⟨x,H1,c,r1,ty,d⟩=>?_;obtain⟨h1,h2⟩:=PU c r1 ty;exact⟨T,id,pa,slot,hty,h1,h2,eK rfl<|PySem.evalArgs_none<|hm pins e σ H1 x [] v [] Q c r1 .nil d⟩
def QK(pa:PlainAttrs T)(slot:Slot T name id)(hty:typeOf (.builtin id)=pure (.type "method_descriptor"))(hm:G_ X id r)(ho:PE X o to)(ha:PA X (e::es) t)
  (U:attributeBase o name X.env (eval o X.env)=eval o X.env<|>η)
  (hfew:(((backTo cpos<|starEach (e::es) X.env).all (λx=>!x.1) && (backToKw cpos<|keywordEach [] X.env).all (λx=>x.1.isSome)
   && decide ((e::es).length+([]:List Keyword).length+(if ([]:List Keyword).isEmpty then 0 else 1)<30))=true)<|>η)
  (hline:(apos.endLine == cpos.line)=true<|>η) (hs:starEach (e::es) X.env=(false,eval e X.env)::starEach es X.env<|>η) (J:((backTo cpos<|starEach es X.env).any (·.1)=false)<|>η) :
  PE X (.Call (.Attribute o name apos) (e::es) [] cpos) (tBM X.K T r to t):=by
 k_ne;refine gZ U hfew hline rfl<|mY (ho pins s σ H _ I h) λv m ⟨x,H1,c,r1,ty,j⟩=>?_;obtain⟨h1,h2⟩:=PU c r1 ty;refine⟨T,id,pa,slot,hty,h1,h2,?_⟩;have d:=ha cpos pins m σ H1 _ c j;rw[hs]at d ⊢;refine eK (by show(false || (backTo cpos<|starEach es X.env).any (·.1))=false;rw[J]<;>rfl)<|gb ?_;exact mY d λus p ⟨f,H2,g,r2,k⟩=>hm pins p σ H2 x f v us Q g r1 r2 k
end
abbrev MtM (X:Cx)(id:String)(r:V->List V->Hp->VK->Prop):Prop:=
 ∀(pins:bo) (s:aA) (σ:St) (H:Hp) (x:V) (xs:List V) (v:af) (us:ba) (Q:VK),Inv X pins σ H s->RelV x v->Vals xs us->r x xs H Q ->
  wpAny (model X.prog X.w) X.A (call (.builtin id) (v::us)) (EP X pins σ Q) X.xe s
def Vals.one:∀{x:V}{us:ba},Vals [x] us->∃u,us=[u]/\RelV x u
 | _,_,.cons r .nil=>⟨_,rfl,r⟩
theorem Vals.eraseIdx:∀{xs:List V}{us:ba}(i:Nat),Vals xs us->Vals (xs.eraseIdx i) (us.eraseIdx i)
 | _,_,_,.nil=>.nil
 | _,_,0,.cons _ t=>t
 | _,_,i+1,.cons r t=>.cons r<|Vals.eraseIdx i t
theorem Vals.rep(h:Vals xs us):∀k:Nat,Vals (List.replicate k xs).flatten (List.replicate k us).flatten
 | 0=>.nil
 | k+1=>by
  rw[dR,dR,fu,fu];exact Vals.append h<|Vals.rep h k
theorem Ca{α:Type}:∀(l:List α) (i:Nat),(l.eraseIdx i).length<=l.length
 | [],_=>aR _
 | _::_,0=>le_succ _
 | _::r,i+1=>Nat.succ_le_succ<|Ca r i
theorem foldl_rep(its:ba):∀(k:Nat) (acc:ba),
  List.foldl (λx1 x2=>x1++x2) acc.toArray (List.replicate k its.toArray)=(acc++(List.replicate k its).flatten).toArray
 | 0,acc=>by simp
 | k+1,acc=>by
  have e:acc.toArray++its.toArray=(acc++its).toArray:=by simp
  have e2:(acc++its)++(List.replicate k its).flatten=acc++(List.replicate (k+1) its).flatten:=by
   rw[dR,fu,cA]
  rw[<- e2,<- foldl_rep its k (acc++its),<- e,dR,dG]
section
variable {X:Cx}{pins:bo}{σ:St}{H:Hp}{s:aA}{l:ak}{xs ys:List V}
def Inv.YF{its its':ba}{n:Nat}{f:Array af->Array af}{t':Nat}(I:Inv X pins σ H s)(J:H l=some (.lst xs))
  (e:s.heap.get? l=some { cls:=.type "list",data:=.seq its.toArray n }) (hf:f its.toArray=its'.toArray) (hv:Vals ys its') (U:ys.length<=sizeLine) :
  Inv X pins σ (upd H l<|.lst ys) { s with heap:=s.heap.update l<|Obj.mapSeq f,toks:=t' }:=by
 have q:=PySem.IsL.update e f;rw[hf]at q;refine I.write (x:=l) (e:=l) (by rw[J];exact trivial) (.inl rfl) (λg u c d=>(Heap.get?_update_other s.heap (Obj.mapSeq f)<|cV c).trans d) ⟨_,q⟩ ?_;exact⟨U,its',_,hv,q⟩
def Inv.XI{its:ba}{t':Nat}(I:Inv X pins σ H s)(hv:Vals ys its)(J:ys.length<=sizeLine) :
  Inv X pins σ (upd H s.heap.objs.size<|.lst ys) { s with heap:=s.heap.push { cls:=.type "list",data:=.seq its.toArray },toks:=t' }:=
 I.laid (λ_ _ q=>aZ _ q) (aR _) ⟨J,its,0,hv,bH _ rfl⟩
def Inv.fresh(I:Inv X pins σ H s):H s.heap.objs.size=none:=I.hok.fresh<|aR _
def Inv.My(I:Inv X pins σ H s)(J:H l=some (.lst xs)):xs.length<=sizeLine/\∃(its:ba) (n:Nat),Vals xs its/\xs.length=its.length/\s.heap.get? l=some { cls:=.type "list",data:=.seq its.toArray n }:=by
 obtain⟨z,its,n,r,e⟩:=I.hok l _ J;exact⟨z,its,n,r,r.length,e⟩
def Pe{n:Nat}(h:n<=sizeLine):Builtin.List.listTooLong n=false:=by
 unfold Builtin.List.listTooLong;exact bA ()
end
section
variable {X:Cx}
abbrev Uu:V->List V->Hp->VK->Prop:=λx c H Q=>∃l xs y,x=.ref l/\c=[y]/\H l=some (.lst xs)/\xs.length<sizeLine/\Q .non (upd H l<|.lst<|xs++[y])
def C6:MtM X "list.append" Uu:=by
 intro pins s σ H x k v us Q I rx f h;obtain⟨l,xs,y,rfl,rfl,d,m,q⟩:=h
 cases rx
 obtain⟨u,rfl,g⟩:=f.one;obtain⟨z,c,n,r,j,e⟩:=I.My d;refine gJ F.slot_list_append ⟨_,e,rfl⟩ F.entry_list_append (F.args_list_append_2 _ _) (PySem.list_append l c.toArray n u<|by rw[bh];lia) ⟨e,?_⟩;refine⟨.non,_,I.YF (its':=c++[u]) d e (by simp) (r.append<|.cons g .nil) ?_,rfl,q⟩;rw[br,List.length_singleton]
 lia
abbrev YC:V->List V->Hp->VK->Prop:=λx c H Q=>∃l xs i k y,x=.ref l/\c=[.int i]/\H l=some (.lst xs)/\-(2 ^ 63)<=i/\i<2 ^ 63/\seqIndex? i xs.length=some k/\xs[k]?=some y/\Q y (upd H l<|.lst<|xs.eraseIdx k)
def OD:MtM X "list.pop" YC:=by
 intro pins s σ H x C v us Q I rx m h;obtain⟨l,xs,i,k,y,rfl,rfl,f,h1,h2,g,p,q⟩:=h
 cases rx
 obtain⟨u,rfl,B⟩:=m.one;obtain⟨t,rfl⟩:=B;obtain⟨z,c,n,r,j,e⟩:=I.My f;obtain⟨w,hw,d⟩:=r.get p;refine gJ F.slot_list_pop ⟨_,e,rfl⟩ F.entry_list_pop (F.args_list_pop_2 _ _)
  (MeetsSeq.list_pop_at l c.toArray n i t k w (fitsIndex_both h1 h2) (by rw[bh,<- j];exact g) (by rw[<- cO];exact hw)<|by rw[bh];lia) ⟨e,?_⟩
 refine⟨y,_,I.YF (its':=c.eraseIdx k) f e ?_ (r.eraseIdx k) ?_,d,q⟩
 ·skip
  rw[iy]
 ·have:=Ca xs k
  lia
abbrev acz:R2:=λx y H Q=>∃l b xs zs,x=.ref l/\y=.ref b/\H l=some (.lst xs)/\H b=some (.lst zs)/\xs.length+zs.length<=sizeLine/\∀p,H p=none->Q (.ref p) (upd H p<|.lst<|xs++zs)
def Xm:pG X (binaryOp .Add) acz:=by
 kj_on;obtain⟨l,b,xs,zs,rfl,rfl,g,f,B,q⟩:=h
 cases rx
 cases ry
 obtain⟨z,d,n,r,t,e⟩:=I.My g;obtain⟨m,c,p,r2,k,e2⟩:=I.My f;refine PySem.P.add_list e e2 ?_ (by rw[bh,bh];lia);have j:d.toArray++c.toArray=(d++c).toArray:=by simp
 rw[j];exact⟨.ref _,_,I.XI (t':=s.toks) (r.append r2)<|by rw[br];lia,rfl,q _ I.fresh⟩
abbrev acV:R2:=λx y H Q=>∃l k xs,x=.ref l/\y=.int k/\H l=some (.lst xs)/\-(2 ^ 63)<=k/\k<2 ^ 63/\xs.length * k.toNat<=sizeLine /\
 ∀p,H p=none->Q (.ref p) (upd H p<|.lst (List.replicate k.toNat xs).flatten)
def len_rep{α:Type}(xs:List α)(k:Nat):(List.replicate k xs).flatten.length=k * xs.length:=by
 induction k with
 | zero=>simp
 | succ k c=>rw[dR,fu,br,c,fS,Nat.add_comm]
def XU:pG X (binaryOp .Mult) acV:=by
 kj_on;obtain⟨l,k,xs,rfl,rfl,G,h1,h2,D,q⟩:=h
 cases rx
 obtain⟨t,rfl⟩:=ry;obtain⟨z,c,n,r,J,e⟩:=I.My G;have j:c.toArray.size * k.toNat<=sizeLine:=by rw[bh,<- J];exact D
 have f:¬c.toArray.size * k.toNat>(2 ^ 63-1) / 8:=by
  have:(sizeLine:Nat)<=(2 ^ 63-1) / 8:=by decide
  omega
 have g:¬(!Builtin.List.listFitsIndex k)=true:=by
  rw[fitsIndex_both h1 h2];exact bI
 have d:¬Builtin.List.listTooLong (c.toArray.size * k.toNat)=true:=by
  rw[Pe j];exact bI
 have p:List.foldl (λC B=>C++B) #[] (List.replicate (if c.toArray.isEmpty=true then 0 else k.toNat) c.toArray)=(List.replicate k.toNat c).flatten.toArray:=by
  have f0:∀m:Nat,List.foldl (λC B=>C++B) #[] (List.replicate m c.toArray)=(List.replicate m c).flatten.toArray:=λm=>by
   have:=foldl_rep c m [];rw[List.nil_append]at this;exact this
  rw[f0]
  cases c with
  | nil=>simp
  | cons a K=>rw[aI<|by simp]
 refine wpAny_binaryOp_repeat_ref (T := "list") (U := "int") ⋯ ⟨_,e,rfl⟩ (λs'=>typeIs_int s' k t) noFill_list_mul F.fills_int_mul F.slot_int_rmul repeat_list F.slot_int_index.lookup
  (gJ F.slot_int_rmul (typeIs_int s k t) F.entry_int_rmul (F.args_int_rmul_2 _ _) (int___rmul___int_list k t l c.toArray n)
   ⟨e,rfl,⟨_,e,rfl⟩,gJ F.slot_list_mul ⟨_,e,rfl⟩ F.entry_list_mul (F.args_list_mul_2 _ _) (AutoListH.list___mul___list_int_3 l c.toArray n k t g f d) ⟨e,?_⟩⟩)
 rw[p];exact⟨.ref _,_,I.XI (t':=s.toks) (r.rep k.toNat)<|by rw[len_rep,Nat.mul_comm];exact D,rfl,q _ I.fresh⟩
end
end L2
namespace Att
open PySem PySem.W PySem.Calls PyProof.Rows
def yX{P:Params}:∀(ns:ag) (vs:ba),WellAll P h vs (ns.map WData.int)->IntsAre vs ns:=by
 intro ns
 induction ns with
 | nil=>
  intro vs w;rw[fR]at w
  cases w
  exact .nil
 | cons n ns c=>
  intro vs w;rw[bE]at w
  cases w with
  | cons a b=>
   cases a
   exact .cons _ _<|c _ b
def Nu{l:OpenLaw}{n:Nat}(hn:l.most=some n){P:Params}{h:aq}
  (J:l.row.toRowW.claim.pre args=true) (U:WellAll P h vals args) :
  ∃a vs ns,vals=[Value.ref a]/\args=[WData.list<|ns.map WData.int]/\h.get? a=some { cls:=.type "list",data:=.seq vs.toArray }/\IntsAre vs ns/\ns.length<=n:=by
 have j:WShape.hasAll [] args [.list .int]=true:=(pre_splitW J).1;have hc:l.pre.holds [] { args:=args }=true:=(pre_splitW J).2;obtain⟨d,r,rfl,h1,h2⟩:=hasAllW_cons j;obtain rfl:=hasAllW_nil h2;obtain⟨xs,rfl,h3⟩:=hasW_list h1;obtain⟨ns,rfl⟩:=items_int h3;have e:ns.length<=n:=by
  unfold OpenLaw.pre at hc;have g:(WTm.not<|.lt (.lit<|.int (n:Int))<|.len<|.arg 0).holds [] { args:=[.list<|ns.map .int]}=true:=by
   have g:=(holds_andW hc).1;rw[hn]at g;exact g
  have f:=condW_of g<|w_not<|w_lt w_lit<|w_len_list<|w_arg rfl;rw[aH]at f;refine jc λq=>?_;have p:(n:Int)<((ns.length:Nat):Int):=by omega
  first
   | (rw[bg p]at f;exact absurd f ⋯)
   | (simp at f;omega)
 cases U with
 | cons m t=>
  cases t
  cases m with
  | list k c=>exact⟨_,_,ns,rfl,rfl,k,yX ns _ c,e⟩
def Mv(l:OpenLaw)(args:List WData):l.row.toRowW.claim.post args (.bool true) args=true:=
 postW_of (r:=l.row.toRowW) (X:=(true == true))
  (show WShape.has [] (.bool true) .bool=true by first|rfl|decide|simp[WShape.has,WShape.arms,WShape.armsAll])
  (show(WTm.eq .res<|.lit<|.bool true).value [] { args:=args,res:=some<|.bool true,after:=args }=some (.bool<|true == true)from w_eq_bool (w_res rfl) w_lit) rfl
def GR{l:OpenLaw}{n:Nat}{q:aj}{XP:(Str->bi)->aq->Prop}{YP:ah->aq->Prop}{d:DefRec}
  (hn:l.most=some n) (U:d.params.defaults=[])
  (call:∀(w:ah) (s₀ s₁:aA) (mg mb:Str->bi) (fa:ak) (o:Obj) (pm cd doc:af) (a:ak) (vs:ba) (ns:ag),
   Ground q loose [] XP w s₀ mg mb s₁.heap->YP w s₁.heap ->
   s₁.heap.get? fa=some o->o.data=.func (docDef d.name d.params d.body d.scope pm cd doc)->s₁.heap.CodeRec cd d.name->mg d.name=some (.ref fa) ->
   s₁.heap.get? a=some { cls:=.type "list",data:=.seq vs.toArray }->IntsAre vs ns->ns.length<=n->s₁.gens=#[] ->
   codeAny (model l.prog w) callerA (.call (.ref fa) ⟨[.ref a],[]⟩) (λr s'=>r=.ok (.ret<|.bool true)/\OldK s₁.heap s'.heap/\s'.os=s₁.os/\AllBare s'.gens) s₁) :
  WalkO q loose XP YP l.row.toRowW d [] (λf vs=>PySem.call f vs):=by
 intro w s₀ s₁ mg mb G Y fa o pm cd doc O kV L P m D k hg B t as g C J p M;obtain rfl:O=.none:=Dflts.none D U;obtain rfl:kV=.none:=Dflts.noKw D;obtain⟨a,vs,ns,rfl,rfl,e,c,j⟩:=Nu hn g p;refine enter_call<|jk (call w s₀ s₁ mg mb fa o pm cd doc a vs ns G Y L (fd_plain P) m k e c j hg) λr s' F=>?_;obtain⟨rfl,h2,h3,K⟩:=F;exact⟨.inl ⟨.bool true,.bool true,[],rfl,λ_=>rfl,.bool true,Mv l _,λ_=>⟨List.Pairwise.nil,λ_ N=>(nomatch N)⟩⟩,h2,h3,K⟩
end Att
namespace L2
open PySem PySem.Spec PyProof.Rows
theorem CC:∀{vs:ba}{ns:ag},IntsAre vs ns->Vals (ns.map V.int) vs
 | _,_,.nil=>.nil
 | _,_,.cons n t h=>.cons ⟨t,rfl⟩<|CC h
abbrev Ul (H:Hp):Prop:=∀b,H b=none\/∃o xs,H b=some (.frz o<|.lst xs)
def OZ{P:aj}{w:ah}{K:au}{mg mb:Str->bi}{CX:To}{k:Nat}{fa a:ak}{x:Str}{sp:Sp}{s₁:aA}{vs:ba}{ns:ag}
  (KX:K.In s₁.heap) (hns:s₁.heap.Ns mainGlobals mg) (hb:s₁.heap.Ns builtinsNs mb) (hbb:∀x:Str,x ≠ "__name__" -> mb x=bootBuiltins x) (hlim:s₁.heap.NoLimit) (hg:s₁.gens=#[])
  (ha:s₁.heap.get? a=some { cls:=.type "list",data:=.seq vs.toArray }) (hi:IntsAre vs ns) (hl:ns.length<=sizeLine) (hr:Room k callerA)
  (F:∀base:aq,K.In base->base.Ns mainGlobals mg->FnOk P w K mg base CX k fa fd [x] sp) (hbind:∀(s:aA) (u:af),BindsTo s fd ⟨[u],[]⟩ [(x,u)])
  (hsp:∀H:Hp,Ul H->pK K H a (ns.map V.int)->sp [.ref a] H (λv _=>v=.bl true) λ_ _ _=>False)
  (hCX:∀H e s',CX [] H s₁ (λ_ _ _=>False) e s'->False) :
  codeAny (model P w) callerA (.call (.ref fa) ⟨[.ref a],[]⟩) (λr s'=>r=.ok (.ret<|.bool true)/\OldK s₁.heap s'.heap/\s'.os=s₁.os/\AllBare s'.gens) s₁:=by
 have O:=CC hi;have j:=hi.length;have g:∀H:Hp,Ul H->pK K H a (ns.map V.int)->wW P w H s₁.heap->(∀b,H b≠none->b=a)->(H a≠none->K.lookup a=none) ->
   codeAny (model P w) callerA (.call (.ref fa) ⟨[.ref a],[]⟩) (λr s'=>r=.ok (.ret<|.bool true)/\OldK s₁.heap s'.heap/\s'.os=s₁.os/\AllBare s'.gens) s₁:=by
  intro H M hS C N hK;have c:∀{b:ak} {o:Obj},s₁.heap.get? b=some o->H b=none->(EN s₁.heap H).get? b=some o:=λe n=>Q5 e n;have J:∀{b:ak} {o:Obj} {es:Array DictEntry} {ep:Nat},s₁.heap.get? b=some o->o.data=.dict es ep->H b=none:=λ{b o es ep} e d=>by
   cases q:H b with
   | none=>rfl
   | some u=>
    have L:b=a:=N b (by rw[q];simp);subst L;rw[ha]at e;cases e;have W:Data.seq vs.toArray _=Data.dict es ep:=d
    cases W
  have f:∀{b:ak} {m:Str->bi},s₁.heap.Ns b m->(EN s₁.heap H).Ns b m:=λ{b m} ⟨o,es,ep,e,d,r⟩=>⟨o,es,ep,c e<|J e d,d,r⟩;have p:K.In (EN s₁.heap H):=λb o e=>c (KX b o e) (by
   cases q:H b with
   | none=>rfl
   | some u=>
    have L:b=a:=N b (by rw[q];simp);subst L;rw[hK<|by rw[q];simp]at e;cases e)
  have Y:Mod K mg (EN s₁.heap H):=⟨p,f hns,⟨mb,f hb,hbb⟩,let⟨mc,h1,h2⟩:=hlim;⟨mc,f h1,h2⟩⟩;have e0:Env0 P w K mg (EN s₁.heap H) callerA [] s₁ H:=⟨rfl,Y,λb o e=>Um e,Nat.le_of_eq<|MN _ _,trivial,λb hb=>absurd (show b∈([]:bb)from hb)<|by simp,C,.of_eq hg⟩;refine jk ((F _ p<|f hns).run callerA [] s₁ H ⟨[.ref a],[]⟩ [.ref a] [.ref a] _ _ hr e0 (hbind s₁<|.ref a) (.cons rfl .nil)<|hsp H M hS) λr s' h=>?_
  cases r with
  | error e=>exact(hCX H e s' h).elim
  | ok fl=>
   cases fl with
   | next=>exact False.elim h
   | brk=>exact False.elim h
   | cont=>exact False.elim h
   | ret u=>
    obtain⟨v,H',os,B,un,t,U,q⟩:=h;have Z:v=.bl true:=q;subst Z;obtain rfl:u=Value.bool true:=U;refine⟨rfl,OldK.of_keep λb o e=>?_,os,B⟩
    cases q:H b with
    | none=>exact un.keep b o e q (by intro z;exact absurd (show b∈([]:bb)from z)<|by simp) (by simp)
    | some u=>
     rcases M b with z|⟨ob,xs,z⟩
     ·rw[q]at z;cases z
     ·have T:=un.frzs b ob _ z;obtain⟨e1,_⟩:=C b _ z;obtain⟨e2,_⟩:=t b _ T;rw[e]at e1;cases e1;exact e2
 cases G:K.lookup a with
 | some o=>
  have e:=KX a o G;rw[ha]at e
  cases e
  refine g (λ_=>none) (λ_=>.inl rfl) (.inr ⟨_,vs.toArray,_,G,rfl,rfl,rfl,by rw[bh,j];exact hl,by simpa using O⟩) (λb u z=>by have D:(none:Option HO)=some u:=z;cases D) (λb z=>absurd rfl z) λz=>absurd rfl z
 | none=>
  refine g (λb=>if b=a then some (.frz { cls:=.type "list",data:=.seq vs.toArray } (.lst<|ns.map V.int))else none) (λb=>?_) (.inl<|.inr ⟨{ cls:=.type "list",data:=.seq vs.toArray },aK rfl⟩) (λb u z=>?_) (λb z=>?_) λ_=>G
  ·by_cases hb:b=a
   ·exact .inr ⟨_,_,aK hb⟩
   ·exact .inl<|aI hb
  ·by_cases hb:b=a
   ·have D:=(aK hb).symm.trans z
    cases D
    subst hb;exact⟨ha,by rw[aH];exact hl,vs,_,O,ha⟩
   ·have D:=(aI hb).symm.trans z
    cases D
  ·by_cases hb:b=a
   ·exact hb
   ·exact absurd (aI hb) z
def TQ{l:PySem.W.OpenLaw}{n k:Nat}{q:aj}{XP:(Str->bi)->aq->Prop}{YP:ah->aq->Prop}{d:DefRec}{K:Params->au}{CX:ah->To}{sp:ah->Sp}{x:Str}
  (hn:l.most=some n) (hn2:n<=sizeLine) (hdf:d.params.defaults=[]) (hr:Room k callerA)
  (hY:∀(w:ah) (h:aq),YP w h->(K w.params).In h)
  (F:∀(w:ah) (mg:Str->bi) (fa:ak) (h:aq),(K w.params).In h->h.Ns mainGlobals mg->mg d.name=some (.ref fa) ->
   ∃fd:FuncData,(∀(s:aA) (u:af),BindsTo s fd ⟨[u],[]⟩ [(x,u)]) /\
    ∀base:aq,(K w.params).In base->base.Ns mainGlobals mg->FnOk l.prog w (K w.params) mg base (CX w) k fa fd [x] (sp w))
  (hsp:∀(w:ah) (H:Hp) (a:ak) (ns:ag),ns.length<=n->Ul H->pK (K w.params) H a (ns.map V.int)->sp w [.ref a] H (λv _=>v=.bl true) λ_ _ _=>False)
  (hCX:∀(w:ah) (H:Hp) (s:aA) (e:af) (s':aA),CX w [] H s (λ_ _ _=>False) e s'->False) :
  PySem.W.WalkO q loose XP YP l.row.toRowW d [] (λf vs=>PySem.call f vs):=by
 refine Att.GR hn hdf λw B p mg P fa o O cd L a vs ns G Y U Z N t m j c hg=>?_;have C:=hY w _ Y;obtain⟨fd,D,M⟩:=F w mg fa _ C G.T.g t;exact OZ C G.T.g G.T.b G.T.builtins G.T.nolimit hg m j (bG c hn2) hr M D (λH J hS=>hsp w H a ns c J hS) λH e s'=>hCX w H p e s'
abbrev vd (s:aE):Arguments:=match s with
 | .FunctionDef _ a _ _ _ _ _ _ _ _=>a
 | _=>{ posonlyargs:=[],args:=[],vararg:=none,kwonlyargs:=[],kw_defaults:=[],kwarg:=none,defaults:=[]}
abbrev q_ (s:aE):List aE:=match s with
 | .FunctionDef _ _ b _ _ _ _ _ _ _=>b
 | _=>[]
abbrev jQ (s:aE):Scope:=match s with
 | .FunctionDef _ _ _ _ _ _ c _ _ _=>c
 | _=>{ kind:=.function,names:=[],isGenerator:=false,isCoroutine:=false }
meta abbrev qg:To:=λ_ _ _ _ _ _=>False
meta abbrev E0:XK:=λ_ _ _=>False
def abo{X:Cx}:Passes qg X E0:=λ_ _ _ _ _ _ _ h=>h.elim
structure Fun (K:au)(x qual:Str)(st:aE)(f:ak)(fd:FuncData):Prop where
 ex:∃(oc:af) (od:Option ak) (kV doc pm:af) (an:Option ak) (cdv ct:af) (osl:Array<|bi),
  fd=PySem.W.fnOf x qual (vd st) (q_ st) (jQ st) .none kV doc pm an cdv ct/\K.lookup f=some ⟨oc,od,.func fd,osl⟩/\PySem.W.codeIn K cdv qual=true
 kp:PySem.W.keepIn K (.ref f)=true
section
variable {P:aj}{w:ah}{K:au}{mg:Str->bi}{base:aq}
def Fun.ok{x:Str}{st:aE}{f:ak}{N ps:ar}{k:Nat}{sp:Sp}(F:Fun K x qual st f fd)(S:FnScope N ps<|jQ st)(len:∀vs H Q E,sp vs H Q E->vs.length=ps.length)
  (J:∀(cdv:af) (A:az) (outer:List Env) (s:aA) (H:Hp) (vs:List V) (Q:VK) (E:XK),Room k (A.deeper<|envOfC qual (jQ st) s.heap.objs.size f cdv)->sp vs H Q E ->
   ∃t,Fl (Iw qg P w K mg base N qual (jQ st) f cdv A outer s H E).nox (q_ st) t/\t { nx:=λ_ H'=>Q .non H',rt:=Q } (start N vs) H):FnOk P w K mg base qg (k+1) f fd ps sp:=by
 obtain⟨p,C,kV,g,B,D,cdv,ct,m,rfl,j,d⟩:=F.ex;refine aaa j d S len λA outer s H vs Q E e c=>?_;obtain⟨t,h,q⟩:=J cdv A outer s H vs Q E e c;exact⟨t,h.nox,q⟩
def Fun.binds{x:Str}{st:aE}{f:ak}{ps:ar}(F:Fun K x qual st f fd)
  (h:∀(kV doc pm:af) (an:Option ak) (cdv ct:af) (us:ba),us.length=ps.length->bindArgs (PySem.W.fnOf x qual (vd st) (q_ st) (jQ st) .none kV doc pm an cdv ct) ⟨us,[]⟩=pure (ps.zip us)):Binds K fd ps []:=by
 obtain⟨e,j,kV,doc,pm,an,cdv,ct,d,rfl,g,c⟩:=F.ex;exact .all<|h kV doc pm an cdv ct
def XG{x:Str}{st:aE}{f:ak}{kV J ct:af}(l:K.lookup f=some ⟨oc,od,.func<|PySem.W.fnOf x qual (vd st) (q_ st) (jQ st) .none kV doc J an cdv ct,osl⟩)
  (c:PySem.W.codeIn K cdv qual=true) (k:PySem.W.keepIn K (.ref f)=true):Fun K x qual st f (PySem.W.fnOf x qual (vd st) (q_ st) (jQ st) .none kV doc J an cdv ct):=⟨⟨oc,od,kV,doc,J,an,cdv,ct,osl,rfl,l,c⟩,k⟩
end
section
variable {X:Cx}
def pv(i:Nat){x:Str}(U:X.N[i]?=some x<|>η)(hv:Vis X.env.scope x:=by first|exact Or.inl rfl|exact Or.inr (Or.inl rfl)|exact Or.inr<|Or.inr rfl)(hd:(x == ("__debug__" : Str))=false:=by decide)
  (J:(x == ("__classdict__" : Str))=false:=by decide):PE X (.Name x pos) (aa6 i):=RN U hv hd J
end
set_option maxHeartbeats 4000000
abbrev Yi (σ:St):bn->Option V
 | some j=>(σ[j]?).getD none
 | none=>none
abbrev xC (env:Env):List (Str×NameKind)->List (Str×ak)->List (Str×ak)
 | [],cs=>cs
 | (n,k)::r,cs=>xC env r (if k == .free then(n,(env.cells.lookup n).getD 0)::cs else cs)
def Je{scope:Scope}{env:Env}(h:∀y∈scope.names,y.2=.free->∃c,env.cells.lookup y.1=some c):closureFor scope env=pure (xC env scope.names []):=by
 have e:∀(l:List<|Str×NameKind) (d:List<|Str×ak),(∀y∈l,y.2=.free->∃c,env.cells.lookup y.1=some c) ->
   (forIn l d (λ(x:Str×NameKind) (r:List<|Str×ak)=>(match x with
    | (name,kind)=>if (kind == NameKind.free)=true then(do let c <- cellOf env name;pure (ForInStep.yield ((name,c)::r)))else pure (ForInStep.yield r):Sem<|ForInStep<|List<|Str×ak)))=(pure (xC env l d):Sem<|List<|Str×ak):=by
  intro l
  induction l with
  | nil=>intro d _;rfl
  | cons y r p=>
   intro d f;obtain⟨n,k⟩:=y;rw[List.forIn_cons];by_cases m:k=.free
   ·subst m;obtain⟨c,hc⟩:=f (n,.free) aL rfl;have e1:cellOf env n=pure c:=by
     unfold cellOf;rw[hc]
    dsimp[bW,dg,e1,pure_bind];rw[p _ λz g=>f z<|aN _ g];dsimp[xC,bW,dg,hc,iB]
   ·have j:(k == NameKind.free)=false:=by simpa using m
    dsimp[j,bC,cJ,pure_bind];rw[p _ λz g=>f z<|aN _ g];dsimp[xC,j,bC,cJ]
 have:=e scope.names [] h;exact(dB (λz=>z >>= λd=>(pure d:Sem<|List<|Str×ak)) this).trans (pure_bind _ _)
theorem Az:∀{l:List<|Str×NameKind}{x:Str}{k:NameKind},l.lookup x=some k->(x,k)∈l
 | [],_,_,h=>nomatch h
 | (n,k')::r,x,k,h=>by
  rw[eO]at h
  cases c:x == n with
  | true=>
   rw[c]at h;have e:x=n:=by simpa using c
   subst e
   cases h
   exact aL
  | false=>rw[c]at h;exact aN _<|Az h
theorem C3{env:Env}{x:Str}{c:ak}:∀{l:List<|Str×NameKind}{cs:List<|Str×ak},(∀y∈l,y.2=.free->∃c,env.cells.lookup y.1=some c)->(xC env l cs).lookup x=some c->env.cells.lookup x=some c\/cs.lookup x=some c
 | [],cs,_,h=>.inr h
 | (n,k)::r,cs,hl,h=>by
  have h':=C3 (l:=r) (λz j=>hl z<|aN _ j) h
  rcases h' with h'|h'
  ·exact .inl h'
  ·by_cases f:k=.free
   ·subst f;dsimp[bW,dg]at h';obtain⟨m,hc⟩:=hl (n,.free) aL rfl;rw[hc,iB,eO]at h'
    cases d:x == n with
    | true=>
     rw[d]at h';have e:x=n:=by simpa using d
     subst e;left;rw[hc];exact h'
    | false=>rw[d]at h';exact .inr h'
   ·have g:(k == NameKind.free)=false:=by simpa using f
    dsimp[g,bC,cJ]at h';exact .inr h'
theorem Cv{env:Env}{x:Str}:∀{l:List<|Str×NameKind}{cs:List<|Str×ak},(cs.lookup x).isSome=true->((xC env l cs).lookup x).isSome=true
 | [],cs,h=>h
 | (n,k)::r,cs,h=>by
  skip
  refine Cv (l:=r) ?_;by_cases c:(k == NameKind.free)=true
  ·rw[aK c,eO]
   cases d:x == n with
   | true=>rfl
   | false=>exact h
  ·rw[aI c];exact h
theorem Ay{env:Env}{x:Str}:∀{l:List<|Str×NameKind}{cs:List<|Str×ak},(x,NameKind.free)∈l->((xC env l cs).lookup x).isSome=true
 | [],_,h=>nomatch h
 | (n,k)::r,cs,h=>by
  rcases bD.mp h with e|h
  ·cases e
   skip
   refine Cv (l:=r) ?_;rw[aK<|by rfl,eO];simp
  ·exact Ay (l:=r) h
theorem oz:∀(names:List<|Str×NameKind) (n:Nat) (acc:List<|Str×ak),cellsFrom n names acc=cellsFrom n names []++acc
 | [],_,_=>rfl
 | (x,k)::r,n,acc=>by
  unfold cellsFrom;split
  ·rw[oz r (n+1) ((x,n)::acc),oz r (n+1) [(x,n)],cA];rfl
  ·exact oz r n acc
theorem z_:∀(names:List<|Str×NameKind) (n:Nat) {x:Str}{c:ak},(x,c)∈cellsFrom n names []->(x,NameKind.cell)∈names
 | [],_,_,_,h=>nomatch h
 | (y,k)::r,n,x,c,h=>by
  unfold cellsFrom at h;split at h
  ·rename_i d;rw[oz]at h
   rcases bz.mp h with z|z
   ·exact aN _ (z_ r _ z)
   ·rw[aQ]at z
    cases z
    have:k=.cell:=by simpa using d
    rw[this];exact aL
  ·exact aN _<|z_ r _ h
theorem xS{α:Type}{x:Str}:∀{l m:List<|Str×α},(l++m).lookup x=match l.lookup x with|some c=>some c|none=>m.lookup x
 | [],_=>rfl
 | (y,c)::l,m=>by
  rw[jd,eO,eO]
  cases x == y with
  | true=>rfl
  | false=>exact xS
def VJ{n:Nat}{acc:List<|Str×ak}{x:Str}{c:ak}(h:(cellsFrom n names acc).lookup x=some c):(cellsFrom n names []).lookup x=some c\/((cellsFrom n names []).lookup x=none/\acc.lookup x=some c):=by
 rw[oz,xS]at h
 cases e:(cellsFrom n names []).lookup x with
 | some d=>rw[e]at h;exact .inl h
 | none=>rw[e]at h;exact .inr ⟨rfl,h⟩
def ZV{n:Nat}{acc:List<|Str×ak}{x:Str}(h:(x,NameKind.cell)∉names):(cellsFrom n names acc).lookup x=acc.lookup x:=by
 rw[oz,xS]
 cases e:(cellsFrom n names []).lookup x with
 | some d=>exact absurd (z_ names n<|c9 e) h
 | none=>rfl
def Vj{A:az}{E:af->aA->Prop}{s:aA}{scope:Scope}{J:ak}{cl:List<|Str×ak}{env:Env}{Q:Env->aA->Prop}
  (U:∀h':aq,h'.Ns s.heap.objs.size (λ_=>none)->(∀b o,s.heap.get? b=some o->h'.get? b=some o)->CellsOk h' (s.heap.objs.size+1) (cellsFrom (s.heap.objs.size+1) scope.names []) ->
   Q (newEnv scope s.heap.objs.size J (cellsFrom (s.heap.objs.size+1) scope.names cl) qual none .none (some env) builtinsNs) { s with heap:=h',toks:=s.toks+([]:List<|Str×af).length }) :
  wpAny M A (newFunctionEnv scope J cl [] qual none .none<|some env) Q E s:=by
 dsimp[newFunctionEnv,gK,dg];refine aP<|wpAny_alloc ?_;refine aP (wpAny_layCells _ (λname kind d=>by cases c:kind == NameKind.cell<;>simp[c]) _ _ _ _ ?_);have ok:=cellsFrom_ok scope.names (s.heap.push { cls:=.type "dict",data:=.dict #[]}) (s.heap.objs.size+1) [] ⟨λ_ _ f=>(nomatch f),List.Pairwise.nil⟩ (by rw[fM];exact aR _);rw[fM]at ok;rw[show({ s with heap:=s.heap.push { cls:=.type "dict",data:=.dict #[]}}:aA).heap.objs.size=s.heap.objs.size+1 from fM ..];rw[ju];refine aP<|bf<|bf ?_;exact U _ ((Heap.Ns.new s.heap<|.type "dict").keeps<|pushCells_keeps _ _) (λb o e=>pushCells_keeps _ _ b o<|aZ _ e) ok
abbrev oX (X:Cx)(scope:Scope)(N:ar)(C:ak)(s₀:aA)(H₀:Hp)(ex:bb):Cx where
 prog:=X.prog
 w:=X.w
 K:=X.K
 mg:=X.mg
 base:=X.base
 A:=X.A
 N:=N
 s₀:=s₀
 H₀:=H₀
 env:=compEnvC scope (cellsFrom (C+1) scope.names<|xC X.env scope.names []) C X.env
 outer:=X.stack
 stack:=X.stack
 ex:=ex
 fn:=λx=>scope.names.lookup x == some .cell
 calm:=X.calm
 pn:=[]
 xe:=λ_ _=>False
structure CpScope (X:Cx)(scope:Scope)(N:ar)(cap:List (bn)):Prop where
 kind:scope.kind=.function
 nocf:∀x,(x,NameKind.free)∈scope.names->(x,NameKind.cell)∉scope.names
 nm:∀y∈scope.names,y.2=.local->scope.names.lookup y.1=some .local
 fr:∀y∈scope.names,y.2=.free->X.env.kindOf y.1=some .cell\/X.env.kindOf y.1=some .free
 rl:∀y,((relabel scope X.env).names.lookup y=some .cell\/(relabel scope X.env).names.lookup y=some .free)->(y,NameKind.free)∈scope.names\/scope.names.lookup y=some .cell
 len:cap.length=N.length
 nolf:∀x,(x,NameKind.free)∈scope.names->scope.names.lookup x≠some .local
 cp:∀(i j:Nat) (x:Str),N[i]?=some x->cap[i]?=some (some j)->X.N[j]?=some x/\(x,NameKind.free)∈scope.names
def X7{X:Cx}{scope:Scope}{N:ar}{cap:List<|bn}{H:Hp}{s:aA}{fp:bb}{h₁:aq}{m:Str->bi}{tk:Nat}(S:CpScope X scope N cap)(I:Inv X pins σ H s)
  (hf:∀b∈fp,yw X pins H b) (ho:∀b∈fp,∃o,s.heap.get? b=some o) (hn:h₁.Ns s.heap.objs.size m) (hC:CellsOk h₁ (s.heap.objs.size+1)<|cellsFrom (s.heap.objs.size+1) scope.names []) (hk:∀b o,s.heap.get? b=some o->h₁.get? b=some o) :
  Inv (oX X scope N s.heap.objs.size s H fp) [] (cap.map<|Yi σ) H { s with heap:=h₁,toks:=tk }:=by
 have B:∀y∈scope.names,y.2=.free->∃c,X.env.cells.lookup y.1=some c:=λy hy e=>I.ok.has _<|S.fr y hy e;have V:∀x c,(xC X.env scope.names []).lookup x=some c->X.env.cells.lookup x=some c:=λx c e=>by
  rcases C3 B e with z|z
  ·exact z
  ·cases z
 have f:∀x c,(cellsFrom (s.heap.objs.size+1) scope.names<|xC X.env scope.names []).lookup x=some c->((x,c)∈cellsFrom (s.heap.objs.size+1) scope.names []/\h₁.IsCell c none/\s.heap.objs.size+1<=c)\/X.env.cells.lookup x=some c:=λx c e=>by
  rcases VJ e with z|z
  ·exact .inl ⟨c9 z,hC.empty x c<|c9 z⟩
  ·exact .inr<|V x c z.2
 have old:∀x c,X.env.cells.lookup x=some c->c<s.heap.objs.size:=λx c e=>by
  obtain⟨v,z⟩:=I.cell x c e;exact z.lt
 have lt:∀b o,s.heap.get? b=some o->b≠s.heap.objs.size:=λb o e=>bF<|bu e;refine⟨⟨I.ok.mod,?_,I.ok.glob,I.ok.blt,aR _,?_,?_,?_,I.ok.hd,I.ok.frames,.inl rfl,?_,I.bs,bG I.ok.bsz I.sz,?_,?_,I.stack,I.JC⟩,rfl,I.bare,Un.kept hk,?_,?_,I.hok.fresh<|aR _,?_,?_,I.hok.kept hk,?_⟩
 ·exact S.kind
 ·intro x y c e1 e2
  rcases f x c e1 with a|a
  ·rcases f y c e2 with b|b
   ·exact name_of_addr hC.apart a.1 b.1
   ·exact absurd (old y c b)<|not_lt.mpr<|d7 a.2.2
  ·rcases f y c e2 with b|b
   ·exact absurd (old x c a) (not_lt.mpr<|d7 b.2.2)
   ·exact I.ok.inj x y c a b
 ·intro x e;refine d9.mp (fQ _ _ _ ?_)
  rcases S.rl x e with t|t
  ·exact .inr (Ay (env:=X.env) (cs:=[]) t)
  ·exact .inl t
 ·intro x c e G;have e:scope.names.lookup x=some .cell:=by
   have e:(scope.names.lookup x == some .cell)=true:=e;simpa using e
  obtain⟨d,hd⟩:=d9.mp<|fQ scope.names (s.heap.objs.size+1) []<|.inl e;have G:(cellsFrom (s.heap.objs.size+1) scope.names<|xC X.env scope.names []).lookup x=some c:=G;rw[oz,xS,hd]at G
  cases G
  exact d7 (hC.empty x c<|c9 hd).2
 ·intro b F;obtain⟨o,e⟩:=ho b F;refine⟨lt b o e,λx c e2=>?_⟩
  rcases f x c e2 with z|z
  ·exact ne_of_gt (jl (bu e) z.2.2)
  ·exact(hf b F).2.2.2.2.1 x c z
 ·intro b o e F;obtain⟨_,_,_,h3,_⟩:=hf b F
  rcases h3 with z|z
  ·exact I.ok.noex b o e z
  ·exact absurd (bO (bu (I.ok.bs b o e).1) z)<|fH _
 ·intro b F hz;obtain⟨_,h1,h2,_⟩:=hf b F
  rcases bD.mp (I.IX b hz)with z|z
  ·exact h1 z
  ·exact h2 z
 ·refine⟨m,hn,λi x v e1 e2 e3=>?_⟩;rw[aO]at e2
  cases hc:cap[i]? with
  | none=>rw[hc]at e2;cases e2
  | some W=>
   rw[hc]at e2
   cases W with
   | none=>cases e2
   | some j=>
    have q:(σ[j]?).getD none=some v:=aY e2;obtain⟨Z,t⟩:=S.cp i j x e1 hc;obtain⟨m0,hn0,M⟩:=I.loc;have U:σ[j]?=some (some v):=by
     cases h:σ[j]? with
     | none=>rw[h]at q;cases q
     | some z=>rw[h,iB]at q;rw[q]
    have L:=S.fr (x,.free) t rfl;have hv:Vis X.env.scope x:=.inr L;obtain⟨u,ru,lo⟩:=M j x v Z U hv;refine⟨u,ru,?_⟩
    rcases lo with⟨lo,_⟩|⟨_,c,G,ic⟩
    ·rcases L with z|z<;>(rw[z]at lo;cases lo)
    ·have h2:=Ay (env:=X.env) (cs:=[]) t;obtain⟨T,C⟩:=d9.mp h2;have:T=c:=aY<|(V x T C).symm.trans G;subst this;refine .inr ⟨?_,T,(ZV<|S.nocf x t).trans C,?_⟩
     ·rcases e3 with z|z|z
      ·exfalso;have:(relabel scope X.env).names.lookup x=some .local:=z;have K:scope.names.lookup x=some .local:=by
        have J:∃k,(x,k)∈(relabel scope X.env).names/\k=.local:=by
         clear C h2;have:=Az this;exact⟨_,this,rfl⟩
        obtain⟨k,O,rfl⟩:=J;obtain⟨⟨n',k'⟩,P,g⟩:=aV.mp O;dsimp only at g;split at g
        ·cases g
        ·cases g
         exact S.nm (x,.local) P rfl
       exact False.elim<|S.nolf x t K
      ·exact .inl z
      ·exact .inr z
     ·obtain⟨o,D,hd⟩:=ic;exact⟨o,hk _ _ D,hd⟩
 ·intro x c e
  rcases f x c e with z|z
  ·exact⟨_,z.2.1⟩
  ·obtain⟨v,o,D,hd⟩:=I.cell x c z;exact⟨v,o,hk _ _ D,hd⟩
 ·intro x c e
  rcases f x c e with z|z
  ·exact I.hok.fresh (d7 z.2.2)
  ·exact I.freeC x c z
 ·intro p Y
  cases Y
 ·rw[aH,S.len];rfl
abbrev YK (X:Cx)(ifs:List aC)(t:TT):Prop:=
 ∀(pins:bo) (s:aA) (σ:St) (H:Hp) (Q:Bool->Hp->Prop),Inv X pins σ H s->t σ H Q ->
  wpAny (model X.prog X.w) X.A (forIn ifs true λc r=>if r=true then do let ok <- isTrue c X.env (eval c X.env);pure (ForInStep.yield ok)else pure (ForInStep.yield r)) (TP X pins σ Q) X.xe s
abbrev adE:TT:=λ_ H Q=>Q true H
def UY{X:Cx}:YK X [] adE:=λ_ _ _ H _ I h=>wpAny_tests_nil ⟨H,I,h⟩
def Vb{X:Cx}{c:aC}{t:TT}(h:PT X c t):YK X [c] t:=λpins s σ H Q I q=>wpAny_tests_one<|h pins s σ H Q I q
abbrev Xx (cap:List<|bn)(g:TG)(tc:TT)(te:TE)(σ:St)(Q:VK)(J:It)(H1:Hp):Prop:=∀D,H1 D=none ->
 ∃W:Nat->Nat->St->Hp->Prop,(∃m,W 0 m (cap.map<|Yi σ)<|upd H1 D<|.lst [])/\∀i m d H',W i m d H' ->
  (J.stop i H'/\Q (.ref D) H')\/(J.go i H'/\∀x H2,J.yld i H' x H2->g x d H2 λc H3=>tc c H3 λb f=>
   if b=true then te c f λy j=>∃ys,j D=some (.lst ys)/\ys.length<sizeLine/\∃e,e<m/\W (i+1) e c (upd j D<|.lst<|ys++[y])
   else ∃e,e<m/\W (i+1) e c f)
abbrev tLC (cap:List<|bn)(J:TI)(g:TG)(tc:TT)(te:TE):TE:=λσ H Q=>J σ H<|Xx cap g tc te σ Q
def Ug{α:Type}{t:Sem α}{Q Q':α->aA->Prop}{A:az}{E:af->aA->Prop}(h:wpAny M A t Q (λ_ _=>False) s)(J:∀a s,Q a s->Q' a s):wpAny M A t Q' E s:=
 gI h J λ_ _ f=>f.elim
structure TurnG (ok:Cx->Prop)(P:aj)(w:ah)(K:au)(tg:aC)(J:It)(fp:bb)(it:ak)(tn:Nat->aq->Prop):Prop where
 obj:∀i h,tn i h->∀b∈fp,∃o,h.get? b=some o/\∀v,o.data≠.cell v
 keep:∀i h h',tn i h->(∀b∈fp,∀o,h.get? b=some o->h'.get? b=some o)->tn i h'
 item:∀(X:Cx),X.prog=P->X.w=w->X.K=K->ok X->∀(i:Nat) (pins:bo) (s:aA) (σ:St) (H:Hp) (E:af->aA->Prop),Inv X pins σ H s->(∀b∈fp,yw X pins H b)->tn i s.heap->J.go i H ->
  wpAny (model P w) X.A (pyNext<|.ref it) (λr s1=>∃u,r=some u /\
   wpAny (model P w) X.A (letOwnedTupleGo tg (.ref it) u) (λ_ s2=>∃x H',Inv X pins σ H' s2/\RelV x u/\J.yld i H x H'/\tn (i+1) s2.heap/\∀b∈fp,H' b=none) E s1) E s
 done:∀(X:Cx),X.prog=P->X.w=w->X.K=K->ok X->∀(i:Nat) (pins:bo) (s:aA) (σ:St) (H:Hp) (E:af->aA->Prop),Inv X pins σ H s->(∀b∈fp,yw X pins H b)->tn i s.heap->J.stop i H ->
  wpAny (model P w) X.A (pyNext<|.ref it) (λr s1=>r=none/\Inv X pins σ H s1) E s
 self:∀(A:az) (i:Nat) (s:aA) (Q:af->aA->Prop) (E:af->aA->Prop),tn i s.heap->Q (.ref it) s->wpAny (model P w) A (pyIter<|.ref it) Q E s
abbrev acU (ok:Cx->Prop)(X:Cx)(pins:bo)(σ:St)(tg:aC)(R:It->Hp->Prop)(U:af)(s2:aA):Prop:=
 ∃(it:ak) (d:bb) (c:Nat->aq->Prop) (J:It) (H':Hp),U=.ref it/\Inv X pins σ H' s2/\TurnG ok X.prog X.w X.K tg J d it c/\c 0 s2.heap/\(∀b∈d,yw X pins H' b)/\R J H'
abbrev PIg (ok:Cx->Prop)(X:Cx)(tg iter:aC)(J:TI):Prop:=
 ∀(pins:bo) (s:aA) (σ:St) (H:Hp) (R:It->Hp->Prop),Inv X pins σ H s->J σ H R ->
  wpAny (model X.prog X.w) X.A (eval iter X.env) (λv c=>wpAny (model X.prog X.w) X.A (pyIter v) (acU ok X pins σ tg R) X.xe c) X.xe s
def PI.g{X:Cx}{iter:aC}{U:TI}(h:PI X tg iter U):PIg (λY=>Y.calm=true) X tg iter U:=λpins s σ H R I q=>
 mY (h pins s σ H R I q) λv p h1=>mY h1 λj m ⟨it,k,f,J,H',e,d,T,a,b,c⟩=>⟨it,k,f,J,H',e,d,⟨T.obj,T.keep,T.item,T.done,T.self⟩,a,b,c⟩
def JK{ok:Cx->Prop}{X:Cx}{use:Option<|af->Sem Unit}{Q':af->aA->Prop}{iter:aC}{N:ar}{wi:TI}{g:TG}{tc:TT}{te:TE}(S:CpScope X scope N cap)(hok:∀C s₀ H₀ ex,(∀a o u,X.H₀ a=some (.frz o u)->H₀ a=some (.frz o u))->ok (oX X scope N C s₀ H₀ ex))(hi:PIg ok X tg iter wi)
  (hg:∀C s₀ H₀ ex,PG (oX X scope N C s₀ H₀ ex) tg g) (ht:∀C s₀ H₀ ex,YK (oX X scope N C s₀ H₀ ex) ifs tc) (he:∀C s₀ H₀ ex,PE (oX X scope N C s₀ H₀ ex) elt te)
  (hs:(∀x,foldedSetIterable iter X.env x=pure x)<|>θ):∀(pins:bo) (s:aA) (σ:St) (H:Hp) (Q:VK),Inv X pins σ H s->tLC cap wi g tc te σ H Q ->
  (∀(s6:aA) (C D:ak) (H5:Hp) (m:Str->bi),s6.heap.Ns C m->yw X pins H5 C->(∀h',Heap.SameBut C s6.heap h'->Inv X pins σ H5 { s6 with heap:=h' })->Q (.ref D) H5->∀v,compPost (model X.prog X.w) X.A X.xe use Q' (.ref D) C (.ok v) s6) ->
  wpAny (model X.prog X.w) X.A (comprehension (.ListComp elt [⟨tg,iter,ifs,0⟩] scope pos) scope X.env (firstIterPos [⟨tg,iter,ifs,0⟩] pos) (newList []) (firstAsync [⟨tg,iter,ifs,0⟩]) (firstIter [⟨tg,iter,ifs,0⟩] X.env) use) Q' X.xe s:=by
 intro pins s σ H Q I h hfin;have Z:∀y∈scope.names,y.2=.free->∃c,X.env.cells.lookup y.1=some c:=λy hy e=>I.ok.has _<|S.fr y hy e;refine wpAny_comprehension_free (use:=use) rfl hs (Je Z) S.kind S.nm<|mY (hi pins s σ H _ I h) λxv s1 h1=>mY h1 λitv f h2=>?_;obtain⟨it,fp,tn,J,H2,rfl,I2,T,st2,f2,h2⟩:=h2;refine fB<|Vj λU t old B=>?_;obtain⟨W,⟨m0,w0⟩,turn⟩:=h2 f.heap.objs.size I2.fresh;dsimp only at t old B ⊢;have I3:Inv X pins σ (upd H2 f.heap.objs.size<|.lst []) { f with heap:=f.heap.push {}}:=I2.XI (t':=f.toks) (its:=[]) .nil<|bP _;have hfp:∀b∈fp,∃o,f.heap.get? b=some o:=λb j=>by
  obtain⟨o,e,_⟩:=T.obj 0 _ st2 b j;exact⟨o,e⟩
 have neD:∀b∈fp,b≠f.heap.objs.size:=λb j=>by
  obtain⟨o,e⟩:=hfp b j;exact bF<|bu e
 have f3:∀b∈fp,yw X pins (upd H2 f.heap.objs.size<|.lst []) b:=λb j=>⟨by rw[jN<|neD b j];exact(f2 b j).1,(f2 b j).2⟩;have hDC:f.heap.objs.size≠(f.heap.push {}).objs.size:=by rw[fM];exact bF (eS _)
 have I4:=X7 (tk:=f.toks+([]:List<|Str×af).length) (fp:=fp) S I3 f3 (λb j=>by
  obtain⟨o,e⟩:=hfp b j;exact⟨o,aZ _ e⟩) t B old
 have st4:tn 0 U:=T.keep _ _ _ st2 λb j o e=>old b o<|aZ _ e;have hc:=hok (f.heap.push {}).objs.size { f with heap:=f.heap.push {}} (upd H2 f.heap.objs.size<|.lst []) fp λa o u e=>by
  have z:=I2.base.frzs a o u e;rw[jN λq=>by rw[q,I2.fresh]at z;cases z];exact z
 have M:∀{H':Hp},(∀b∈fp,H' b=none)->∀b∈fp,yw (oX X scope N (f.heap.push {}).objs.size { f with heap:=f.heap.push {}} (upd H2 f.heap.objs.size<|.lst []) fp) [] H' b:=λhn b j=>by
  have ok:=I4.ok;refine⟨hn b j,(ok.exf b j).1,ok.exfs b j,.inl j,λx c e=>(ok.exf b j).2 x c e,λp hp=>nomatch hp⟩
 have P:∀s4:aA,s4={ f with heap:=U,toks:=f.toks+([]:List<|Str×af).length } ->
   codeAny (model X.prog X.w) X.A (.compLoop (.ListComp elt [⟨tg,iter,ifs,0⟩] scope pos) 0 (.ref it) (.ref f.heap.objs.size)<|compEnvC scope (cellsFrom ((f.heap.push {}).objs.size+1) scope.names<|xC X.env scope.names []) (f.heap.push {}).objs.size X.env)
    (compPost (model X.prog X.w) X.A X.xe use Q' (.ref f.heap.objs.size) (f.heap.push {}).objs.size) s4:=by
  rintro s4 rfl;refine codeAny_loop rfl (λn s'=>∃i L H',Inv (oX X scope N (f.heap.push {}).objs.size { f with heap:=f.heap.push {}} (upd H2 f.heap.objs.size<|.lst []) fp) [] L H' s'/\tn i s'.heap/\(∀b∈fp,H' b=none)/\W i n L H') (λn s5 hI=>?_) m0 ⟨0,_,_,I4,st4,λb j=>(f3 b j).1,w0⟩;obtain⟨i,O,H5,I5,st5,fr5,w5⟩:=hI;show wpAny _ X.A ((compTurn (.ListComp elt [⟨tg,iter,ifs,0⟩] scope pos) 0 (.ref it) (.ref f.heap.objs.size)<|compEnvC scope (cellsFrom ((f.heap.push {}).objs.size+1) scope.names<|xC X.env scope.names []) (f.heap.push {}).objs.size X.env).onRaise λx=>do noteFrame x _;theTreesLotGoes x) _ _ s5;refine wpAny_noted ?_;rw[compTurn_list];refine aP (wpAny_standAt<|aP ?_)
  rcases turn i n O H5 w5 with⟨stop,q⟩|⟨go,step⟩
  ·refine mY (T.done (oX X scope N (f.heap.push {}).objs.size { f with heap:=f.heap.push {}} (upd H2 f.heap.objs.size<|.lst []) fp) rfl rfl rfl hc i [] s5 O H5 _ I5 (M fr5) st5 stop) λr s6 h9=>?_;obtain⟨hr,I6⟩:=h9;subst hr;obtain⟨m6,hn6,_⟩:=I6.loc;refine bf<|hfin s6 _ _ H5 m6 hn6 (I3.Gk (aR _) I6.free) (λh' sb=>?_) q _;have u6:=I6.base;have nC:∀b o,(f.heap.push {}).get? b=some o->b≠(f.heap.push {}).objs.size:=λb o e=>bF<|bu e;refine I3.WD (ch:=fp) I6.os ⟨λb o e n j hx=>?_,λb o e n j hx=>?_,λb o e n hx=>?_,λb o e hx=>?_,u6.tups,u6.frzs,u6.tbls⟩ ?_ I6.bare ?_
   ·exact sb.extBut b o (nC b o e) (u6.keep b o e n j hx)
   ·obtain⟨sl,z⟩:=u6.slot b o e n j hx;exact⟨sl,sb.extBut b _ (nC b o e) z⟩
   ·exact u6.free b o e n hx
   ·obtain⟨o',z⟩:=u6.there b o e hx;exact⟨o',sb.extBut b _ (nC b o e) z⟩
   ·intro b o e;have j:∀c v,H5 c=some v->c≠(f.heap.push {}).objs.size:=λc v e z=>by
     rw[z]at e;have:=I6.free;rw[show H5 (f.heap.push {}).objs.size=none from this]at e
     cases e
    refine(I6.hok b o e).stay (λc v hc q=>sb.extBut c v ?_ q) (λ_ q=>q) λ_ _ q=>q
    rcases hc with z|z
    ·rw[z];exact j b o e
    ·exact j c _ z
   ·intro b j;obtain⟨_,z1,_,z3,z4,z5⟩:=f3 b j;exact⟨z3,z1,z4,z5⟩
  ·refine mY (T.item (oX X scope N (f.heap.push {}).objs.size { f with heap:=f.heap.push {}} (upd H2 f.heap.objs.size<|.lst []) fp) rfl rfl rfl hc i [] s5 O H5 _ I5 (M fr5) st5 go) λr s6 h9=>?_;obtain⟨u,hr,h6⟩:=h9;subst hr;refine aP<|mY h6 λ_ s7 ⟨x,H7,I7,r7,y7,V,fr7⟩=>?_;have I7':=I7.pinned (M fr7)<|T.obj _ _ V;refine aP<|Ug (hg _ _ _ fp _ s7 O H7 x u _ I7' r7<|step x H7 y7) λ_ s8 ⟨G,H8,I8,q8⟩=>?_;refine aP<|Ug (ht _ _ _ fp _ s8 G H8 _ I8 q8) λok s9 ⟨H9,I9,q9⟩=>?_;have again:∀{F:aA} {k:Hp},Inv (oX X scope N (f.heap.push {}).objs.size { f with heap:=f.heap.push {}} (upd H2 f.heap.objs.size<|.lst []) fp) ([]++A_ fp s7.heap) G k F->(∃m',m'<n/\W (i+1) m' G k) ->
     ∃m,m<n/\∃i L H',Inv (oX X scope N (f.heap.push {}).objs.size { f with heap:=f.heap.push {}} (upd H2 f.heap.objs.size<|.lst []) fp) [] L H' F/\tn i F.heap/\(∀b∈fp,H' b=none)/\W i m L H':=λ{F k} K h9=>by
    obtain⟨m',hm,w10⟩:=h9;refine⟨m',hm,i+1,G,k,K.ud,T.keep _ _ _ V λb j o e=>(K.pin (b,o)<|bR _<|bR _<|qG j e).1,λb j=>?_,w10⟩;obtain⟨o,e,d⟩:=T.obj _ _ V b j;exact(K.pin (b,o)<|bR _<|bR _<|qG j e).2.1
   cases ok with
   | false=>
    rw[aI bI]at q9;exact bf ⟨rfl,again I9 q9⟩
   | true=>
    rw[aK rfl]at q9;refine aP<|aP<|Ug (he _ _ _ fp _ s9 G H9 _ I9 q9) λy F ⟨Y,k,K,r10,ys,hD,hz,w10⟩=>?_;refine aP<|Ug (C6 _ F G k (.ref f.heap.objs.size) [Y] _ [y] (λ_ H'=>H'=upd k f.heap.objs.size (.lst<|ys++[Y])) K rfl (.cons r10 .nil) ⟨_,ys,Y,rfl,rfl,hD,hz,rfl⟩) λ_ s11 ⟨_,H11,I11,_,e11⟩=>?_;subst e11;exact bf<|bf ⟨rfl,again I11 w10⟩
 exact codeAny_compStart_list (P _ rfl)<|T.self _ 0 _ _ _ st4<|P _ rfl
def Yx{ok:Cx->Prop}{X:Cx}{iter:aC}{N:ar}{U:TI}{g:TG}{tc:TT}{te:TE}(S:CpScope X scope N cap)(J:∀C s₀ H₀ ex,(∀a o u,X.H₀ a=some (.frz o u)->H₀ a=some (.frz o u))->ok (oX X scope N C s₀ H₀ ex))(hi:PIg ok X tg iter U)
  (hg:∀C s₀ H₀ ex,PG (oX X scope N C s₀ H₀ ex) tg g) (ht:∀C s₀ H₀ ex,YK (oX X scope N C s₀ H₀ ex) ifs tc) (he:∀C s₀ H₀ ex,PE (oX X scope N C s₀ H₀ ex) elt te)
  (hs:(∀x,foldedSetIterable iter X.env x=pure x)<|>θ):PE X (.ListComp elt [⟨tg,iter,ifs,0⟩] scope pos) (tLC cap U g tc te):=by
 k_ne;rw[eval_ListComp];exact JK (use:=none) (Q':=EP X pins σ Q) S J hi hg ht he hs pins s σ H Q I h λf C D d m hn e inv q v=>⟨m,hn,λh' c=>⟨.ref D,d,inv h' c,rfl,q⟩⟩
def aaQ{X:Cx}{iter:aC}{N:ar}{J:TI}{g:TG}{tc:TT}{te:TE}(hc:X.calm=true)(S:CpScope X scope N cap)(hi:PI X tg iter J)
  (hg:∀C s₀ H₀ ex,PG (oX X scope N C s₀ H₀ ex) tg g) (U:∀C s₀ H₀ ex,YK (oX X scope N C s₀ H₀ ex) ifs tc) (he:∀C s₀ H₀ ex,PE (oX X scope N C s₀ H₀ ex) elt te)
  (hs:(∀x,foldedSetIterable iter X.env x=pure x)<|>θ):PE X (.ListComp elt [⟨tg,iter,ifs,0⟩] scope pos) (tLC cap J g tc te):=
 Yx S (λ_ _ _ _ _=>hc) hi.g hg U he hs
section
variable {X:Cx}
def N1{bs:List Bool}:∀{us:ba},Vals (bs.map V.bl) us->LSm.BoolsAre us bs:=by
 induction bs with
 | nil=>intro us r;cases r;exact .nil
 | cons b bs c=>
  intro us r
  cases r with
  | cons h t=>
   have e:_=Value.bool b:=h;subst e;exact .cons b<|c t
def Nc(hc:X.calm=true):ko X (.builtin "all") (λxs H Q=>∃(p:ak) (bs:List Bool),xs=[.ref p]/\pK X.K H p (bs.map V.bl)/\Q (.bl<|bs.all id) H):=by
 w_up;obtain⟨p,bs,rfl,k,q⟩:=h;kcj_m
 cases rx
 obtain⟨c,t,pl,D⟩:=I.list k;have g:=N1 t;have d:=pl.isList;have f:p<s.heap.objs.size:=by obtain⟨_,e,_⟩:=d;exact bu e
 refine call_all_walk<|i6 d ?_;refine⟨s.heap.objs.size,[s.heap.objs.size,p],[s.heap.objs.size],c.toArray.size,_,_,λi=>(bs[i]?).getD true,rfl,Walks.list (A:=X.A.in1) (I.ok.hd hc) _ p (bF f) c.toArray,
  ⟨⟨_,bH _ rfl,rfl,rfl⟩,d.push _⟩,λi v s' Q' C hP j=>?_,λh' B m=>?_⟩
 ·obtain⟨b,e,rfl⟩:=g.get i v (by simpa using hP);dsimp[e,iB]at j;exact dO j
 ·have e:((List.range c.toArray.size).all λi=>(bs[i]?).getD true)=bs.all id:=by
   rw[bh,g.length];exact LSm.range_all bs
  rw[e];exact⟨.bl _,H,I.kept<|LSm.kept_iter m,rfl,q⟩
def Ej:ko X (.type "range") (λxs H Q=>∃i j,xs=[.int i,.int j]/\∀p,H p=none->Q (.ref p) (upd H p<|.rng i j)):=by
 w_up;obtain⟨i,j,rfl,q⟩:=h;obtain⟨u,d,rfl,⟨t,rfl⟩,⟨c,rfl⟩⟩:=vals2 r;refine call_range_2 ⟨.ref s.heap.objs.size,_,I.laid (o:=.rng i j) (λb o e=>aZ _ e) (aR _) ?_,rfl,q _ I.fresh⟩;exact⟨t,c,s.toks,bH _ rfl⟩
abbrev lJ (i j:Int):ag:=(List.range (j-i).toNat).map λk:Nat=>i+(k:Int)
def uz(i j:Int):(lJ i j).length=(j-i).toNat:=by unfold lJ;rw[aH,b8]
def By{i:Int}{n:Nat}{acc:Array af}(h:ItemsOf (λk v=>∃t,v=Value.int (i+(k:Int) * 1) t) acc n):Vals (((List.range n).map λk:Nat=>i+(k:Int)).map V.int) acc.toList:=by
 obtain⟨hs,hv⟩:=h;have c:∀(l:ba) (b:Nat),(∀j v,l[j]?=some v->∃t,v=Value.int (i+((b+j:Nat):Int)) t)->Vals (((List.range' b l.length).map λk:Nat=>i+(k:Int)).map V.int) l:=by
  intro l
  induction l with
  | nil=>intro b _;exact .nil
  | cons v l f=>
   intro b d;rw[bJ,iC,bE,bE];refine .cons ?_ ?_
   ·obtain⟨t,e⟩:=d 0 v rfl;exact⟨t,by rw[e];simp⟩
   ·refine f (b+1) λj w hw=>?_;obtain⟨t,e⟩:=d (j+1) w hw;exact⟨t,by rw[e,show b+(j+1)=b+1+j by lia]⟩
 have:=c acc.toList 0 λj v g=>by
  obtain⟨t,e⟩:=hv j v (by simpa using g);exact⟨t,by rw[e,cN,Int.mul_one]⟩
 rw[dQ,hs,<- gc]at this;exact this
def RX{i j:Int}:Builtin.Range.rangeSize i j 1=(((j-i).toNat:Nat):Int):=by rw[rangeSize_one];split<;>omega
def BR(hc:X.calm=true):ko X (.type "list") (λxs H Q=>∃p i j,xs=[.ref p]/\H p=some (.rng i j)/\(-(2 ^ 62)<=i/\i<2 ^ 62/\-(2 ^ 62)<=j/\j<2 ^ 62)/\(j-i).toNat<=1000/\∀l,H l=none->Q (.ref l) (upd H l<|.lst<|(lJ i j).map V.int)):=by
 w_up;obtain⟨p,i,j,rfl,k,⟨C,m,g,B⟩,hn,q⟩:=h;kcj_m
 cases rx
 obtain⟨t,F,v,e⟩:=I.hok p _ k;refine call_list_range (n:=(j-i).toNat) (I.ok.hd hc) e (small_one C m g B) RX () λh' G d D f hS c=>?_;refine⟨.ref s.heap.objs.size,_,I.laid (o:=.lst<|(lJ i j).map V.int) f (aR _) ⟨?_,d.toList,D,By c,by rw[hS]⟩,rfl,q _ I.fresh⟩;rw[aH,uz,eN];lia
end
section
variable {X:Cx}
def Gh{prog:aj}{w:ah}{A:az}{E:af->aA->Prop}{s:aA}{Q:ba->aA->Prop}{r:ak}{a b c:Int}{t v:Tok}{n:Nat}(hh:A.handled=none)(hr:IsRange s.heap r a b c t u v)(J:Builtin.Range.small a b c=true)
  (hn:Builtin.Range.rangeSize a b c=n) (U:n<=2 ^ 24)
  (hQ:∀h' tk (acc':Array af),(∀b o,s.heap.get? b=some o->h'.get? b=some o)->ItemsOf (λi v=>∃t,v=.int (a+i * c) t) acc' n->Q acc'.toList { s with heap:=h',toks:=tk }) :
  wpAny (model prog w) A (collect<|.ref r) Q E s:=by
 unfold collect;refine aP<|wpAny_runValue<|iK F.entry_proto_collect ?_;rw[gf F.plain_proto_collect _]
 skip
 refine aP<|fB ?_;refine bf ⟨plainId_quiet F.plain_list_iadd _,iK F.entry_list_iadd ?_⟩;rw[gf F.plain_list_iadd _]
 skip
 have hS:(s.heap.push {}).get? s.heap.objs.size=some { cls:=.type "list",data:=.seq #[] 0 }:=bH _ rfl;have k:∀(h':aq) (tk:Nat) (acc':Array af) (j:Nat),(∀b o,b≠s.heap.objs.size->(s.heap.push {}).get? b=some o->h'.get? b=some o) ->
   h'.get? s.heap.objs.size=some { cls:=.type "list",dict:=none,data:=.seq acc' j,slots:=#[]}->ItemsOf (λi v=>∃t,v=.int (a+i * c) t) acc' n ->
   wpAny (model prog w) A (match Value.ref s.heap.objs.size with
   | Value.ref a=>do
    match (<- load a).data with
     | Data.seq xs _=>pure xs.toList
     | _=>unsupported "internal:collect"
   | _=>unsupported "internal:collect") Q E { s with heap:=h',toks:=tk }:=by
  intro h' tk acc' j m g d
  skip
  refine aP<|wpAny_load g ?_;refine bf ?_;exact hQ h' tk acc' (λb o e=>m b o (bF<|bu e)<|aZ _ e) d
 refine gI (wpAny_extend_range (A:=A) (R:=λq s'=>q=.ok (.ret<|.ref s.heap.objs.size)/\∃h' tk acc' j,s'={ s with heap:=h',toks:=tk }/\(∀b o,b≠s.heap.objs.size->(s.heap.push {}).get? b=some o->h'.get? b=some o) /\
   h'.get? s.heap.objs.size=some { cls:=.type "list",dict:=none,data:=.seq acc' j,slots:=#[]}/\ItemsOf (λi v=>∃t,v=.int (a+i * c) t) acc' n)
  (s:={ s with heap:=s.heap.push {}}) hh (aZ _ hr) J hn U s.heap.objs.size (.ref s.heap.objs.size) 0 hS
  (λh' tk acc' j m g d=>⟨rfl,h',tk,acc',j,rfl,m,g,d⟩)) (λfin s' h=>?_) λe s' h=>?_
 ·cases fin with
  | done f=>
   obtain⟨e,h',tk,acc',j,rfl,m,g,d⟩:=h
   cases e
   exact k h' tk acc' j m g d
  | again j=>exact⟨h.1,jk h.2 λr p hr=>by
    obtain⟨rfl,h',tk,acc',j,rfl,m,g,d⟩:=hr;exact k h' tk acc' j m g d⟩
 ·exact absurd h.1<|by simp
def vF(l:ak){a b:Int}{t v:Tok}{n:Nat}(J:Builtin.Range.small a b 1=true)
  (hn:Builtin.Range.rangeSize a b 1=n) (U:n<=1000) :
  Meets (Builtin.«tuple.__new__» ⟨[.type "tuple",.ref l],[]⟩)
   (λA R s=>A.handled=none/\IsRange s.heap l a b 1 t u v/\∀(h':aq) (tk:Nat) (acc':Array af),(∀b o',s.heap.get? b=some o'->h'.get? b=some o')->ItemsOf (λi v=>∃t,v=.int (a+i * 1) t) acc' n->R (.ok<|.ret<|.ref h'.objs.size) { s with heap:=h'.push { cls:=.type "tuple",data:=.seq acc' },toks:=tk }):=
 .of_wp λprog w A R s h=>by
  obtain⟨B,g,d,tk,D⟩:=s;obtain⟨C,m,h⟩:=h;have p:=sub_tuple_self;have k:=init_tuple_lookup;have G:=madeHere_tuple;have F:Shared.TypeIs ⟨B,g,d,tk,D⟩ (.ref l) "range" := ⟨_,m,rfl⟩;have j:A.in1.handled=none:=C
  wp_walk using AutoSeq1.wpAny_loadPart' m,jm F,Gh (A:=A.in1) j m J hn (by omega)
  intro h' f acc' q c;show wpAny _ _ (Builtin.Tuple.tupleExact acc'.toList.toArray >>= λv=>ret v) _ _ _;unfold Builtin.Tuple.tupleExact;have e:acc'.toList.toArray=acc':=by simp
  refine aP (fB ?_<|by show acc'.toList.toArray.size<=sizeLine;rw[e,c.1,eN];omega);refine bf ⟨_,rfl,?_⟩;rw[e];exact h h' f acc' q c
def BJ(hc:X.calm=true):ko X (.type "tuple") (λxs H Q=>∃p i j,xs=[.ref p]/\H p=some (.rng i j)/\(-(2 ^ 62)<=i/\i<2 ^ 62/\-(2 ^ 62)<=j/\j<2 ^ 62)/\(j-i).toNat<=1000/\∀l,H l=none->Q (.ref l) (upd H l<|.tup<|(lJ i j).map V.int)):=by
 w_up;obtain⟨p,i,j,rfl,C,⟨J,D,B,G⟩,hn,q⟩:=h;kcj_m
 cases rx
 obtain⟨t,K,v,e⟩:=I.hok p _ C;refine callType_new F.called_tuple ⋯ (F.typeCall_tuple_1 _) (F.newCall_tuple_1 _) (λf=>F.args_object_init_2 f _) F.entry_tuple_new
  (vF (n:=(j-i).toNat) p (small_one J D B G) RX hn) ⟨I.ok.hd hc,e,λh' k c m d=>⟨⟨_,bH _ rfl,rfl⟩,?_⟩⟩
 have g:Inv X pins σ H { s with heap:=h',toks:=k }:=I.kept m;refine⟨.ref h'.objs.size,_,g.laid (t':=k) (o:=.tup<|(lJ i j).map V.int) (λb o e=>aZ _ e) (aR _) ⟨?_,c.toList,By d,?_⟩,rfl,q _<|g.hok.fresh<|aR _⟩
 ·rw[aH,uz,eN];lia
 ·have e:c.toList.toArray=c:=by simp
  rw[e];exact qy.new _ _
def FJ{c:String}:ko X (.builtin "isinstance") (λxs H Q=>∃x t b,xs=[x,.ty c]/\TyOf X.K H x t/\PySem.W.kitOne X.K t (.type c)=some b/\Q (.bl b) H):=by
 w_up;obtain⟨x,t,b,rfl,ty,e,q⟩:=h;obtain⟨u,g,rfl,rx,d⟩:=vals2 r
 cases d
 exact MH I rx ty e λf=>⟨.bl b,H,I.tok f,rfl,q⟩
abbrev X5 (K:au):R2:=λx y H Q=>∃a b ys,x=.ref a/\y=.ref b/\oE K H a []/\oE K H b ys/\Q (.ref b) H
def QZ:pG X (binaryOp .Add) (X5 X.K):=by
 kj_on;obtain⟨a,b,ys,rfl,rfl,h1,h2,q⟩:=h
 cases rx
 cases ry
 obtain⟨us,r1,p1,_⟩:=I.tuple h1;obtain⟨C,r2,p2,_⟩:=I.tuple h2
 cases r1
 obtain⟨⟨cls,D,data,t⟩,k,hc,n,m⟩:=id p1;obtain⟨⟨p,j,f,g⟩,c,d,B,e⟩:=id p2;simp only at hc m d e;subst hc m d e;exact concat_meets ⟨_,k,rfl⟩ ⟨_,c,rfl⟩ noFill_tuple_add seq_tuple_add gY gT (gA _ _)
   (tuple_addW0 a b _ C.toArray n B D j t g<|by simp) ⟨k,c,⟨.ref b,H,I,rfl,q⟩⟩
end
def rY:bootBuiltins "len" = some (.builtin "len"):=by decide +kernel
def Xj:bootBuiltins "abs" = some (.builtin "abs"):=by decide +kernel
def ya:bootBuiltins "all" = some (.builtin "all"):=by decide +kernel
def ve:bootBuiltins "sorted" = some (.builtin "sorted"):=by decide +kernel
def kM:bootBuiltins "isinstance" = some (.builtin "isinstance"):=by decide +kernel
def Ih:bootBuiltins "int" = some (.type "int"):=by decide +kernel
def La:bootBuiltins "bool" = some (.type "bool"):=by decide +kernel
def xD:bootBuiltins "list" = some (.type "list"):=by decide +kernel
def r6:bootBuiltins "tuple" = some (.type "tuple"):=by decide +kernel
def SY:bootBuiltins "range" = some (.type "range"):=by decide +kernel
def TN:∀{a b:ag},a.Perm b->a.Pairwise (·<=·)->b.Pairwise (·<=·)->a=b:=λp c d=>
 ef (λx y _ _ h1 h2=>Int.le_antisymm h1 h2) c d p
def J5(i j:Int):(lJ i j).Pairwise (·<=·):=by
 unfold lJ;rw[cB];exact List.pairwise_lt_range.imp λh=>()
def sW(i j:Int):(lJ i j).Nodup:=by
 unfold lJ;rw[List.Nodup,cB];exact List.pairwise_lt_range.imp λh=>()
def pO{i j k:Int}:k∈lJ i j ↔ i<=k/\k<j:=by
 unfold lJ;rw[aV];constructor
 ·rintro⟨a,c,rfl⟩;have:=cM.mp c;omega
 ·rintro⟨h1,h2⟩;exact⟨(k-i).toNat,cM.mpr<|by omega,by omega⟩
abbrev Kn (P:aj)(w:ah)(K:au)(mg:Str->bi)(base:aq)(k:Nat)(x:Str)(ps:ar)(sp:Sp):Prop:=
 ∃(f:ak) (fd:FuncData),FnOk P w K mg base qg k f fd ps sp/\mg x=some (.ref f)/\PySem.W.keepIn K (.ref f)=true/\Binds K fd ps []
def aaU{X:Cx}{k:Nat}{x:Str}{sp:Sp}{e:aC}{t:TA}{p:Pos}(G:Kn X.prog X.w X.K X.mg X.base k x ps sp)(hr:Room k X.A)(ha:PA X (e::es) t)(hg:Gl X x<|>η)
  (U:(x == ("__debug__" : Str))=false<|>δ) (hs:starEach (e::es) X.env=(false,eval e X.env)::starEach es X.env<|>η) (J:((backTo pos<|starEach es X.env).any (·.1)=false)<|>η) :
  PE X (.Call (.Name x p) (e::es) [] pos) (Wx sp [] E0 t):=by
 obtain⟨f,fd,F,g,d,c⟩:=G;exact Vs F hr hg g d c .nil abo ha U hs J
abbrev Av (J fs:ar):ar->List (bn)->Prop
 | [],[]=>True
 | _::N,none::c=>Av J fs N c
 | x::N,some j::c=>J[j]?=some x/\x∈fs/\Av J fs N c
 | _,_=>False
theorem Av.len{fs:ar}:∀{N:ar}{c:List<|bn},Av XN fs N c->c.length=N.length
 | [],[],_=>rfl
 | _::N,none::c,h=>dB (·+1) (Av.len (N:=N) (c:=c) h)
 | _::N,some j::c,h=>dB (·+1) (Av.len (N:=N) (c:=c) h.2.2)
 | [],_::_,h=>h.elim
 | _::_,[],h=>h.elim
theorem Av.cp{fs:ar}:∀{N:ar}{c:List<|bn},Av XN fs N c->∀(i j:Nat) (x:Str),N[i]?=some x->c[i]?=some (some j)->XN[j]?=some x/\x∈fs
 | [],[],_,i,j,x,h1,_=>by simp at h1
 | y::N,none::c,h,i,j,x,h1,h2=>by
  cases i with
  | zero=>simp at h2
  | succ i=>exact Av.cp (N:=N) (c:=c) h i j x (by simpa using h1)<|by simpa using h2
 | y::N,some k::c,h,i,j,x,h1,h2=>by
  cases i with
  | zero=>
   simp at h1 h2;subst h1 h2;exact⟨h.1,h.2.1⟩
  | succ i=>exact Av.cp (N:=N) (c:=c) h.2.2 i j x (by simpa using h1)<|by simpa using h2
 | [],_::_,h,_,_,_,_,_=>h.elim
 | _::_,[],h,_,_,_,_,_=>h.elim
def qz{X:Cx}{scope:Scope}{N:ar}(fs:ar)(kind:scope.kind=.function)(nocf:∀y∈scope.names,y.2=.cell->scope.names.lookup y.1=some .cell/\(y.1,NameKind.free)∉scope.names)(nm:∀y∈scope.names,y.2=.local->scope.names.lookup y.1=some .local)
  (nolf:∀y∈scope.names,y.2=.free->scope.names.lookup y.1≠some .local) (hf:∀y∈scope.names,y.2=.free->y.1∈fs) (J:∀x∈fs,(x,NameKind.free)∈scope.names) (U:∀x∈fs,X.env.kindOf x=some .cell\/X.env.kindOf x=some .free) (cp:Av X.N fs N cap):CpScope X scope N cap where
 kind:=kind
 nocf:=λx hf hc=>(nocf (x,.cell) hc rfl).2 hf
 nm:=nm
 fr:=λy m e=>U _ (hf y m e)
 rl:=λy h=>by
  have go:∀k,(k=NameKind.cell\/k=NameKind.free)->(relabel scope X.env).names.lookup y=some k->(y,NameKind.free)∈scope.names\/scope.names.lookup y=some .cell:=λk U e=>by
   obtain⟨⟨p,f⟩,d,c⟩:=aV.mp<|Az e;dsimp only at c;split at c
   ·rename_i hc
    cases c
    have:f=.free:=by
     dsimp[c7]at hc;simpa using hc.1.1
    subst this;exact .inl d
   ·cases c
    rcases U with rfl|rfl
    ·exact .inr (nocf _ d rfl).1
    ·exact .inl d
  rcases h with h|h
  ·exact go _ (.inl rfl) h
  ·exact go _ (.inr rfl) h
 len:=cp.len
 nolf:=λx g=>nolf (x,.free) g rfl
 cp:=λi j x h1 h2=>by
  obtain⟨a,b⟩:=cp.cp i j x h1 h2;exact⟨a,J x b⟩
inductive Kd where
 | non|bl|int|str|lst|tup
 deriving DecidableEq
abbrev Kd.ty:Kd->af
 | .non=>.type "NoneType" | .bl=>.type "bool" | .int=>.type "int" | .str=>.type "str" | .lst=>.type "list" | .tup=>.type "tuple"
abbrev Zf (H:Hp)(x:V):Kd->Prop
 | .non=>x=.non
 | .bl=>∃b,x=.bl b
 | .int=>∃i,x=.int i
 | .str=>∃s,x=.str s
 | .lst=>∃a xs,x=.ref a/\H a=some (.lst xs)
 | .tup=>∃a xs,x=.ref a/\H a=some (.tup xs)
def Zf.adk{K:au}{H:Hp}{x:V}{k:Kd}(h:Zf H x k):TyOf K H x k.ty:=by
 cases k with
 | non=>cases h;exact .non
 | bl=>obtain⟨b,rfl⟩:=h;exact .bl b
 | int=>obtain⟨b,rfl⟩:=h;exact .int b
 | str=>obtain⟨b,rfl⟩:=h;exact .str b
 | lst=>obtain⟨a,xs,rfl,e⟩:=h;exact .lst e
 | tup=>obtain⟨a,xs,rfl,e⟩:=h;exact .tup e
def Vo{K:au}(k:Kd):PySem.W.kitOne K k.ty (.type "int")=some (decide<|k=.int\/k=.bl):=by cases k<;>rfl
def OI{K:au}(k:Kd):PySem.W.kitOne K k.ty (.type "bool")=some (decide<|k=.bl):=by cases k<;>rfl
def kit_tuple{K:au}(k:Kd):PySem.W.kitOne K k.ty (.type "tuple")=some (decide<|k=.tup):=by cases k<;>rfl
def RV{K:au}(k:Kd):PySem.W.kitOne K k.ty (.type "list")=some (decide<|k=.lst):=by cases k<;>rfl
def DL:bootBuiltins "enumerate" = some (.type "enumerate"):=by decide +kernel
end L2
namespace L2
open PySem PySem.Spec PyProof.Rows
open PySem.SeqAt
open PySem.AutoSeq1 (wpAny_loadPart')
open PySem.MeetsSeq PySem.MeetsSeq2 PySem.MeetsSeq3 PySem.SeqAt
section
variable {X:Cx}
def Ot:pG X (binaryOp .FloorDiv) (rI (λ_ j=>0<j/\j<18446744073709551616) λi j=>.int<|i / j):=opI λi j _ _ _ _ _ hc q=>by
 have h1:(0:Int)<j:=hc.1;have h2:j<18446744073709551616:=hc.2;refine floordiv_int (by omega) (by rw[Int.fdiv_eq_ediv_of_nonneg i<|by omega];exact q)<|.inl<|PyProof.noPylong_of_log2 ?_;exact bO ((Nat.log2_lt<|by omega).mpr<|show j.natAbs<2 ^ 64 by omega) ⋯
end
end L2
namespace L2
open PySem PySem.Spec PyProof.Rows
abbrev Its (x:Str):It:=⟨λi _=>i<x.cps.size,λi H v H'=>H'=H/\∃c,x.cps[i]?=some c/\v=.str ⟨#[c]⟩,λi _=>i=x.cps.size⟩
def Ox{P:aj}{w:ah}{K:au}(x:Str)(t:Tok)(it:ak):Turn P w K tg (Its x) [it] it (λi h=>h.IsStrIter it "str_ascii_iterator" x t i) where
 mem:=by simp
 obj:=λi h st b f=>by
  have e:b=it:=by simpa using f
  subst e;obtain⟨o,e,c,d⟩:=st;exact⟨o,e,λv z=>by rw[d]at z;cases z⟩
 keep:=λi h h' st k=>let⟨o,ho,r⟩:=st;⟨o,k it (by simp) o ho,r⟩
 item:=by
  z_go;subst hP hw hK;gn_on;have W:=Walks.strAscii (prog:=X.prog) (w:=X.w) (I.ok.hd hc) it x t;refine W.item i s _ _ hg st λv h' p hv g j=>?_;obtain⟨c,u,m,rfl⟩:=hv;have q:Inv X pins σ H { s with heap:=h',toks:=p }:=I.turned (λb o f e=>j b o (by simpa using f) e) f0 f1 f3 f4 f5;obtain⟨o,e,B,d⟩:=id g;exact⟨_,rfl,GB (s:={ s with heap:=h',toks:=p }) e B d ⋯ ⟨.str ⟨#[c]⟩,H,q,⟨u,rfl⟩,⟨rfl,c,m,rfl⟩,g,λb f=>(hf b f).1⟩⟩
 done:=by
  z_go;subst hP hw hK;gn_on;have hg:i=x.cps.size:=hg;subst hg;have W:=Walks.strAscii (prog:=X.prog) (w:=X.w) (I.ok.hd hc) it x t;exact W.done s _ _ st λh' p j=>⟨rfl,I.turned (λb o f e=>j b o (by simpa using f) e) f0 f1 f3 f4 f5⟩
 self:=λ_ _ _ _ _ st h=>wpAny_pyIter_striter_ascii st h
section
variable {X:Cx}{tg:aC}
abbrev ads (J:TE):TI:=λσ H R=>J σ H λx H1=>∃y:Str,x=.str y/\y.cps.all (· < 128)=true/\R (Its y) H1
def Yg{l:aC}{J:TE}(U:PE X l J):PI X tg l (ads J):=by
 intro pins s σ H R I h;refine mY (U pins s σ H _ I h) λv c h9=>?_;obtain⟨x,H1,I1,r1,f⟩:=h9;obtain⟨y,e,g,q⟩:=f;subst e;obtain⟨t,rfl⟩:=r1;refine wpAny_pyIter_ascii g ?_;refine⟨c.heap.objs.size,[c.heap.objs.size],_,_,H1,rfl,I1.kept (t':=c.toks) λb o e=>aZ _ e,Ox y t _,⟨_,bH _ rfl,rfl,rfl⟩,λb d=>?_,q⟩;have e:b=c.heap.objs.size:=by simpa using d
 subst e;exact I1.Gk (aR _)<|I1.hok.fresh<|aR _
def Nf:ko X (.type "int") (λxs H Q=>∃(y:Str) (n:Int),xs=[.str y]/\y.length<=640/\PySem.intText? y=some n/\Q (.int n) H):=by
 intro pins s σ H xs us Q I e h;obtain⟨y,n,rfl,d,hn,q⟩:=h;obtain⟨w,rfl,c⟩:=vals1 e;obtain⟨u,rfl⟩:=c;exact PySem.W.KIN.call_text hn d ⟨.int n,H,I.tok _,⟨_,rfl⟩,q⟩
end
section
variable {κ:Type}[DecidableEq κ]
abbrev o5 (kvs:List<|κ×V)(k:κ):Option V:=(kvs.find? λkv=>decide<|kv.1=k).map (·.2)
abbrev putK (kvs:List<|κ×V)(k:κ)(v:V):List (κ×V):=
 if (kvs.any λkv=>decide<|kv.1=k)=true then kvs.map (λkv=>if kv.1=k then(kv.1,v)else kv)else kvs++[(k,v)]
def uT{p:κ×V}{r:List<|κ×V}{k:κ}(e:p.1=k):o5 (p::r) k=some p.2:=by simp[o5,cg,e]
def uP{p:κ×V}{r:List<|κ×V}{k:κ}(e:¬p.1=k):o5 (p::r) k=o5 r k:=by simp[o5,cg,e]
theorem xQ(k:κ):∀kvs:List<|κ×V,(kvs.any λkv=>decide<|kv.1=k)=(o5 kvs k).isSome
 | []=>rfl
 | p::r=>by
  rw[fX];by_cases e:p.1=k
  ·dsimp[uT e,bg e,Bool.true_or,gK]
  ·rw[uP e,bA e,gB];exact xQ k r
def qW(kvs:List<|κ×V)(k:κ)(v:V):(putK kvs k v).length<=kvs.length+1:=by
 unfold putK;split
 ·rw[aH];lia
 ·rw[br,bJ,cZ];lia
def ym.sq{o:Option V}{u:bi}(r:ym o u):o.isSome=u.isSome:=by
 cases o with
 | none=>cases u with
  | none=>rfl
  | some _=>exact(show False from r).elim
 | some _=>cases u with
  | none=>exact(show False from r).elim
  | some _=>rfl
def ym.getD{o:Option V}{u:bi}{d:V}(r:ym o u)(J:RelV d d'):RelV (o.getD d) (u.getD d'):=by
 cases o with
 | none=>cases u with
  | none=>exact J
  | some _=>exact(show False from r).elim
 | some _=>cases u with
  | none=>exact(show False from r).elim
  | some _=>exact r
def KV.val(r:KV kvs vs)(k:κ):ym (o5 kvs k) (valueAt vs k):=by
 unfold KV at r
 induction r with
 | nil=>exact True.intro
 | @cons p q ps c h t f=>
  obtain⟨h1,h2⟩:=h;by_cases e:p.1=k
  ·have d:q.1=k:=h1.symm.trans e;have b:valueAt (q::c) k=some q.2:=by simp[valueAt,cg,d]
   rw[uT e,b];exact h2
  ·have d:¬q.1=k:=λz=>e<|h1.trans z;have b:valueAt (q::c) k=valueAt c k:=by simp[valueAt,cg,d]
   rw[uP e,b];exact f
def KV.any{kvs:List<|κ×V}{vs:List<|κ×af}(r:KV kvs vs)(k:κ):(kvs.any λkv=>decide<|kv.1=k)=vs.any λkv=>decide (kv.1=k):=by
 unfold KV at r
 induction r with
 | nil=>rfl
 | cons h t c=>rw[fX,fX,c,h.1]
def KV.repl{kvs:List<|κ×V}{vs:List<|κ×af}(r:KV kvs vs)(k:κ)(ry:RelV y u) :
  KV (kvs.map λkv=>if kv.1=k then(kv.1,y)else kv) (vs.map λkv=>if kv.1=k then(kv.1,u)else kv):=by
 unfold KV at r ⊢
 induction r with
 | nil=>exact .nil
 | @cons p q ps d h t c=>
  rw[bE,bE];refine .cons ?_ c;obtain⟨h1,h2⟩:=h;by_cases e:p.1=k
  ·rw[aK e,aK<|h1.symm.trans e];exact⟨h1,ry⟩
  ·rw[aI e,aI λz=>e<|h1.trans z];exact⟨h1,h2⟩
def KV.put(r:KV kvs vs)(k:κ)(ry:RelV y u):KV (putK kvs k y) (stored vs k u):=by
 unfold putK stored;rw[r.any k];by_cases e:(vs.any λkv=>decide<|kv.1=k)=true
 ·rw[aK e,aK e];exact r.repl k ry
 ·rw[aI e,aI e];exact Paired.snoc r ⟨rfl,ry⟩
def KV.length{kvs:List<|κ×V}{vs:List<|κ×af}(r:KV kvs vs):kvs.length=vs.length:=i_ r
end
def AH{P:aj}{w:ah}{k:Key}(r:RelV (kV k) u):(kB P w).is k u=true:=by
 cases k with
 | inl i=>obtain⟨t,e⟩:=(show ∃t,u=Value.int i t from r);subst e;exact GK P w i t
 | inr x=>obtain⟨t,e⟩:=(show ∃t,u=Value.str x t from r);subst e;exact FT P w x t
theorem Ck{P:aj}{w:ah}:∀{ks:List Key}{us:ba},Vals (ks.map kV) us->ItemsAre (kB P w) ks us
 | [],_,r=>by rw[fR]at r;cases r;exact .nil
 | k::ks,_,r=>by
  rw[bE]at r
  cases r with
  | cons h t=>exact .cons (AH h)<|Ck t
meta abbrev KT (H:Hp):List (List Key×V)->List (List Key×ak×af)->Prop:=Paired λp q=>p.1=q.1/\H q.2.1=some (.tup<|p.1.map kV)/\RelV p.2 q.2.2
def KT.val{H:Hp}(r:KT H kvs xs)(k:List Key):ym (o5 kvs k) ((atKey xs k).map (·.2)):=by
 induction r with
 | nil=>exact True.intro
 | @cons p q ps c h t f=>
  obtain⟨h1,_,h2⟩:=h;by_cases e:p.1=k
  ·have d:q.1=k:=h1.symm.trans e;have b:atKey (q::c) k=some q.2:=by simp[atKey,cg,d]
   rw[uT e,b];exact h2
  ·have d:¬q.1=k:=λz=>e<|h1.trans z;have b:atKey (q::c) k=atKey c k:=by simp[atKey,cg,d]
   rw[uP e,b];exact f
def KT.repl{H:Hp}{kvs:List<|List Key×V}{xs:List<|List Key×ak×af}(r:KT H kvs xs)(k:List Key)(ry:RelV y u) :
  KT H (kvs.map λkv=>if kv.1=k then(kv.1,y)else kv) (xs.map<|putAt k u):=by
 induction r with
 | nil=>exact .nil
 | @cons p q ps d h t c=>
  rw[bE,bE];refine .cons ?_ c;obtain⟨h1,h2,h3⟩:=h;unfold putAt;by_cases e:p.1=k
  ·rw[aK e,aK<|h1.symm.trans e];exact⟨h1,h2,ry⟩
  ·rw[aI e,aI λz=>e<|h1.trans z];exact⟨h1,h2,h3⟩
def KT.put{H:Hp}(r:KT H kvs xs)(k:List Key){b:ak}(J:H b=some (.tup<|k.map kV))(ry:RelV y u) :
  KT H (putK kvs k y) (storedH xs k b u):=by
 have e:(kvs.any λkv=>decide<|kv.1=k)=(atKey xs k).isSome:=by
  rw[xQ,(r.val k).sq,fZ]
 unfold putK storedH;rw[e];by_cases q:(atKey xs k).isSome=true
 ·rw[aK q,aK q];exact r.repl k ry
 ·rw[aI q,aI q];exact Paired.snoc r ⟨rfl,J,ry⟩
def KT.keeps{H H':Hp}(r:KT H kvs xs)(J:∀b ys,H b=some (.tup ys)->H' b=some (.tup ys)):KT H' kvs xs:=
 Paired.Y7 r λ_ _ z=>⟨z.1,J _ _ z.2.1,z.2.2⟩
section
variable {P:aj}{w:ah}{H:Hp}{h:aq}{a:ak}
def Wz(ok:wW P w H h)(e:Rd H a u):kQ P w H h a u:=e.ok ok
def vK{kvs:List<|Key×V}(ok:wW P w H h)(e:Rd H a<|.dK kvs):kvs.length<=sizeLine/\(a == sysModules)=false/\∃vs,KV kvs vs/\h.DictOf (kB P w) a vs:=
 show kQ P w H h a (.dK kvs)from Wz ok e
def KZ{kvs:List<|Key×V}(ok:wW P w H h)(e:H a=some (.dK kvs)):kvs.length<=sizeLine/\(a == sysModules)=false/\∃vs,KV kvs vs/\h.DictOf (kB P w) a vs:=vK ok<|.inl e
def vY{ks:List Key}(ok:wW P w H h)(e:H a=some (.tup<|ks.map kV)):(tupleKind<|kB P w).is h ks a:=by
 obtain⟨_,c,r,o,h1,h2,_,n,h3⟩:=(show kQ P w H h a (.tup<|ks.map kV)from ok a _ e);exact⟨o,c.toArray,n,h1,h2,h3,by simpa using Ck r⟩
def yK{kvs:List<|List Key×V}(ok:wW P w H h)(e:Rd H a<|.dT kvs):kvs.length<=sizeLine/\(a == sysModules)=false /\
  ∃xs,KT H kvs xs/\h.DictOfH (tupleKind<|kB P w) a xs:=by
 obtain⟨z,y,xs,r,o,es,ep,h1,h2,h3,j,f⟩:=(show kQ P w H h a (.dT kvs)from Wz ok e);refine⟨z,y,xs,r,o,es,ep,h1,h2,h3,j,λx c=>?_,f⟩;have all:∀{l:List<|List Key×V} {m:List<|List Key×ak×af},KT H l m->∀x∈m,(tupleKind<|kB P w).is h x.1 x.2.1:=by
  intro l m q
  induction q with
  | nil=>intro x c;exact nomatch c
  | @cons p q ps k d t g=>
   intro x c
   rcases bD.mp c with e|c
   ·subst e;exact vY ok (by rw[<- d.1];exact d.2.1)
   ·exact g x c
 exact all r x c
def Sd{kvs:List<|List Key×V}(ok:wW P w H h)(e:H a=some (.dT kvs)):kvs.length<=sizeLine/\(a == sysModules)=false /\
  ∃xs,KT H kvs xs/\h.DictOfH (tupleKind<|kB P w) a xs:=yK ok<|.inl e
end
abbrev tO (H:Hp)(a:ak)(y:V)(r:Option V):Prop:=
 (∃kvs k,Rd H a (.dK kvs)/\y=kV k/\r=o5 kvs k)\/∃kvs k b,Rd H a (.dT kvs)/\y=.ref b/\H b=some (.tup<|k.map kV)/\r=o5 kvs k
abbrev G1 (H:Hp)(a:ak)(y v:V)(H':Hp):Prop:=
 (∃kvs k,H a=some (.dK kvs)/\y=kV k/\kvs.length<sizeLine/\H'=upd H a (.dK<|putK kvs k v)) \/
 ∃kvs k b,H a=some (.dT kvs)/\y=.ref b/\H b=some (.tup<|k.map kV)/\kvs.length<sizeLine/\H'=upd H a (.dT<|putK kvs k v)
theorem tO.k{H:Hp}{a:ak}{k:Key}(e:H a=some (.dK kvs)):tO H a (kV k) (o5 kvs k):=.inl ⟨kvs,k,.inl e,rfl,rfl⟩
def tO.t{H:Hp}{a b:ak}{k:List Key}(e:H a=some (.dT kvs))(J:H b=some (.tup<|k.map kV)):tO H a (.ref b) (o5 kvs k):=.inr ⟨kvs,k,b,.inl e,rfl,J,rfl⟩
theorem G1.k{H:Hp}{a:ak}{kvs:List<|Key×V}{k:Key}{v:V}(e:H a=some (.dK kvs))(J:kvs.length<sizeLine):G1 H a (kV k) v (upd H a<|.dK<|putK kvs k v):=.inl ⟨kvs,k,e,rfl,J,rfl⟩
def G1.t{H:Hp}{a b:ak}{kvs:List<|List Key×V}{k:List Key}{v:V}(e:H a=some (.dT kvs))(J:H b=some (.tup<|k.map kV))(U:kvs.length<sizeLine) :
  G1 H a (.ref b) v (upd H a<|.dT<|putK kvs k v):=.inr ⟨kvs,k,b,e,rfl,J,U,rfl⟩
section
variable {X:Cx}{pins:bo}{σ:St}{H:Hp}{s:aA}{a:ak}{y v:V}{u r:af}{o:Option V}{A:az}{E:af->aA->Prop}
def Inv.big(I:Inv X pins σ H s):sysModules<s.heap.objs.size:=by
 have h:mainGlobals<s.heap.objs.size:=(I.mod.glob.keeps I.bk).lt;exact jl ⋯ h
def ME{Q:af->aA->Prop}(J:A.units+1<cLine)(I:Inv X pins σ H s)(g:tO H a y<|some v)(ry:RelV y u)(h:∀w' s',Inv X pins σ H s'->RelV v w'->Q w' s') :
  wpAny (model X.prog X.w) A (getItem (.ref a) u) Q E s:=by
 rcases g with⟨kvs,k,e,j,l⟩|⟨kvs,k,b,e,j,t,l⟩
 ·subst j;obtain⟨z,C,B,c,m⟩:=vK I.hok e;obtain⟨w',hw,d⟩:=ym.some_of (v:=v) (o:=valueAt B k) (by rw[l];exact c.val k);exact wpAny_getItem_of (AH ry) m.mapOf hw (h w' _ (I.tok _) d)
 ·subst j
  cases(show u=Value.ref b from ry)
  obtain⟨z,C,xs,c,m⟩:=yK I.hok e;obtain⟨w',hw,d⟩:=ym.some_of (v:=v) (o:=(atKey xs k).map (·.2)) (by rw[l];exact c.val k);obtain⟨p,q,f⟩:=aX.mp hw;refine wpAny_getItem_heap (eU J) (vY I.hok t) m q ?_;rw[f];exact h w' _ (I.tok _) d
def adD{Q:af->aA->Prop}(J:A.units+1<cLine)(I:Inv X pins σ H s)(g:tO H a y o)(ry:RelV y u)(h:∀s',Inv X pins σ H s'->Q (.bool o.isSome) s') :
  wpAny (model X.prog X.w) A (compareOp .In u<|.ref a) Q E s:=by
 rcases g with⟨kvs,k,e,d,l⟩|⟨kvs,k,b,e,d,m,l⟩
 ·subst d;obtain⟨z,j,p,c,f⟩:=vK I.hok e;refine wpAny_in_of (AH ry) j f.mapOf ?_;rw[<- (c.val k).sq,<- l];exact h _ (I.tok _)
 ·subst d
  cases(show u=Value.ref b from ry)
  obtain⟨z,j,xs,c,f⟩:=yK I.hok e;refine wpAny_in_heap (eU J) (vY I.hok m) j f ?_;have q:=(c.val k).sq;rw[fZ]at q;rw[<- q,<- l];exact h _<|I.tok _
def Uc{Q:af->aA->Prop}(J:A.units+1<cLine)(I:Inv X pins σ H s)(g:tO H a y o)(ry:RelV y u)(h:∀s',Inv X pins σ H s'->Q (.bool<|!o.isSome) s') :
  wpAny (model X.prog X.w) A (compareOp .NotIn u<|.ref a) Q E s:=by
 rcases g with⟨kvs,k,e,d,l⟩|⟨kvs,k,b,e,d,m,l⟩
 ·subst d;obtain⟨z,j,p,c,f⟩:=vK I.hok e;refine wpAny_notIn_of (AH ry) j f.mapOf ?_;rw[<- (c.val k).sq,<- l];exact h _ (I.tok _)
 ·subst d
  cases(show u=Value.ref b from ry)
  obtain⟨z,j,xs,c,f⟩:=yK I.hok e;refine wpAny_notIn_heap (eU J) (vY I.hok m) j f ?_;have q:=(c.val k).sq;rw[fZ]at q;rw[<- q,<- l];exact h _<|I.tok _
def zl{h':aq}{t':Nat}{ob:HO}(I:Inv X pins σ H s)(J:Mut<|H a)(hs:Heap.SameBut a s.heap h')(U:∃q,h'.get? a=some q)(new:kQ X.prog X.w (upd H a ob) h' a ob) :
  Inv X pins σ (upd H a ob) { s with heap:=h',toks:=t' }:=
 I.write (x:=a) (e:=a) J (.inl rfl) (λb q c z=>(hs.2 b c).trans z) U new
def HQ{P:aj}{w:ah}{H':Hp}{h':aq}{kvs:List<|Key×V}(z:kvs.length<=sizeLine)(U:(a == sysModules)=false)(J:KV kvs vs)(dd:h'.DictOf (kB P w) a vs) :
  kQ P w H' h' a (.dK kvs):=⟨z,U,vs,J,dd⟩
def MI{H':Hp}{Q:Unit->aA->Prop}(hu:A.units+1<cLine)(I:Inv X pins σ H s)(g:G1 H a y v H')(ry:RelV y u)(U:RelV v r)(h:∀s',Inv X pins σ H' s'->Q Unit.unit s') :
  wpAny (model X.prog X.w) A (setItem (.ref a) u r) Q E s:=by
 rcases g with⟨kvs,k,e,t,l,m⟩|⟨kvs,k,b,e,t,F,l,m⟩
 ·subst t m;obtain⟨z,D,L,d,B⟩:=KZ I.hok e;have C:L.length<=sizeLine:=by rw[<- d.length];exact z
  have p:(putK kvs k v).length<=sizeLine:=by have:=qW kvs k v;lia
  refine wpAny_setItem_pairs (hsz:=C) (AH ry) B λh' f hs=>h _ ?_;have J:∃q,h'.get? a=some q:=let⟨q,_,_,j,_⟩:=f;⟨q,j⟩
  exact zl I (by rw[e];exact True.intro) hs J<|HQ p D (d.put k U) f
 ·subst t m
  cases(show u=Value.ref b from ry)
  obtain⟨z,D,xs,d,B⟩:=Sd I.hok e;have C:xs.length<=sizeLine:=by rw[<- i_ d];exact z
  have p:(putK kvs k v).length<=sizeLine:=by have:=qW kvs k v;lia
  refine wpAny_setItem_heap (hsz:=C) (eU hu) (vY I.hok F) B λh' f hs=>h _ ?_;obtain⟨q,es,ep,j,h2,h3,M,_,K⟩:=f;refine zl I (by rw[e];exact True.intro) hs ⟨q,j⟩ ⟨p,D,_,(d.put k F U).keeps λc ys G=>?_,q,es,ep,j,h2,h3,M,K⟩;rw[jN<|Ws G e λz=>nomatch z];exact G
end
def F0{X:Cx}{H:Hp}{s:aA}{a:ak}(I:Inv X pins σ H s)(g:tO H a y o):s.TypeIs (.ref a) "dict" := by
 rcases g with⟨kvs,k,e,_,_⟩|⟨kvs,k,b,e,_,_,_⟩
 ·obtain⟨_,_,d,_,c⟩:=vK I.hok e;exact c.typeIs
 ·obtain⟨_,_,xs,_,c⟩:=yK I.hok e;exact c.typeIs
def FZ{P:aj}{w:ah}{H:Hp}(h:aq)(J:sysModules<h.objs.size):kQ P w H (h.push { cls:=.type "dict",data:=.dict #[]}) h.objs.size (.dK []):=
 ⟨bP _,c8.mpr<|cV<|bF J,[],.nil,Heap.DictOf.new h⟩
def PO{P:aj}{w:ah}{H:Hp}(h:aq)(J:sysModules<h.objs.size):kQ P w H (h.push { cls:=.type "dict",data:=.dict #[]}) h.objs.size (.dT []):=
 ⟨bP _,c8.mpr<|cV<|bF J,[],.nil,_,#[],0,bH _ rfl,⟨rfl,rfl,rfl⟩,rfl,rfl,dP⟩
abbrev XR:TE:=λ_ H Q=>∀p,H p=none->Q (.ref p) (upd H p<|.dK [])
abbrev Zg:TE:=λ_ H Q=>∀p,H p=none->Q (.ref p) (upd H p<|.dT [])
section
variable {X:Cx}{pos:Pos}
def RY:PE X (.Dict [] [] pos) XR:=λpins s σ H Q I h=>
 wpAny_Dict_empty ⟨.ref s.heap.objs.size,_,I.laid (a:=s.heap.objs.size) (o:=.dK []) (t':=s.toks) (λ_ _ q=>aZ _ q) (aR _)<|FZ s.heap I.big,rfl,h _<|I.hok.fresh<|aR _⟩
def QI:PE X (.Dict [] [] pos) Zg:=λpins s σ H Q I h=>
 wpAny_Dict_empty ⟨.ref s.heap.objs.size,_,I.laid (a:=s.heap.objs.size) (o:=.dT []) (t':=s.toks) (λ_ _ q=>aZ _ q) (aR _)<|PO s.heap I.big,rfl,h _<|I.hok.fresh<|aR _⟩
end
abbrev HG:List (TE×TE)->St->Hp->(List (V×V)->Hp->Prop)->Prop
 | [],_,H,Q=>Q [] H
 | (tk,tv)::r,σ,H,Q=>tk σ H λx H1=>tv σ H1 λy H2=>HG r σ H2 λps H3=>Q ((x,y)::ps) H3
meta abbrev VV:List (V×V)->List (af×af)->Prop:=Paired λp q=>RelV p.1 q.1/\RelV p.2 q.2
abbrev PPs (X:Cx)(pos:Pos)(keys:List<|Option aC)(J:List aC)(U:List<|TE×TE):Prop:=
 ∀(pins:bo) (s:aA) (σ:St) (H:Hp) (Q:List (V×V)->Hp->Prop),Inv X pins σ H s->HG U σ H Q ->
  wpAny (model X.prog X.w) X.A (evalPairs<|pairTrees keys J X.env pos) (λc s'=>∃ps H',Inv X pins σ H' s'/\VV ps c/\Q ps H') X.xe s
def Km{X:Cx}:PPs X pos [] [] []:=λpins s σ H Q I h=>pairTrees_nil_walk ⟨[],H,I,.nil,h⟩
def Aa{X:Cx}{k v:aC}{ks:List<|Option aC}{tk J:TE}(U:PE X k tk)(hv:PE X v J)(hr:PPs X pos ks vs trs) :
  PPs X pos (some k::ks) (v::vs) ((tk,J)::trs):=λpins s σ H Q I h=>
 pairTrees_cons_walk (mY (U pins s σ H _ I h) λu q ⟨x,H1,m,rx,e⟩=>mY (hv pins q σ H1 _ m e) λB p ⟨y,H2,g,ry,j⟩=>
  mY (hr pins p σ H2 _ g j) λt C ⟨ps,H3,f,c,d⟩=>⟨(x,y)::ps,H3,f,.cons ⟨rx,ry⟩ c,d⟩)
abbrev AJ (kvs J:List<|Key×V):List (Key×V):=J.foldl (λacc kv=>putK acc kv.1 kv.2) kvs
def KV.merge:∀{more:List<|Key×V}{rs:List<|Key×af}{kvs:List<|Key×V}{vs:List<|Key×af},KV more rs->KV kvs vs->KV (AJ kvs more) (merged vs rs):=by
 intro more rs kvs vs r;unfold KV at r
 induction r generalizing kvs vs with
 | nil=>intro q;exact q
 | @cons p q ps f h t d=>
  intro c;have e:KV (putK kvs p.1 p.2) (stored vs q.1 q.2):=by
   have:=c.put p.1 h.2;rw[<- h.1];exact this
  exact d e
theorem vH:∀(more kvs:List<|Key×V),(AJ kvs more).length<=kvs.length+more.length
 | [],kvs=>by show kvs.length<=kvs.length+0;lia
 | p::r,kvs=>by
  have h1:=vH r<|putK kvs p.1 p.2;have h2:=qW kvs p.1 p.2;show(AJ (putK kvs p.1 p.2) r).length<=_;rw[bJ];lia
theorem AM{P:aj}{w:ah}:∀{kvs:List<|Key×V}{ws:List<|af×af},VV (kvs.map λkv=>(kV kv.1,kv.2)) ws->∃rs,Carries (kB P w) ws rs/\KV kvs rs
 | [],_,r=>by rw[fR]at r;cases r;exact⟨[],True.intro,.nil⟩
 | p::kvs,_,r=>by
  rw[bE]at r
  cases r with
  | @cons a b as bs h t=>
   obtain⟨rs,c,q⟩:=AM (P:=P) (w:=w) t;obtain⟨e,d⟩:=b;exact⟨(p.1,d)::rs,⟨AH h.1,rfl,c⟩,.cons ⟨rfl,h.2⟩ q⟩
abbrev aaE (J:List<|TE×TE):TE:=λσ H Q=>∀p,H p=none->HG J σ (upd H p<|.dK []) λps H2=>H2 p=some (.dK [])/\∃kvs:List<|Key×V,ps=kvs.map (λkv=>(kV kv.1,kv.2))/\kvs.length<=15/\Q (.ref p) (upd H2 p<|.dK<|AJ [] kvs)
def JT{X:Cx}{keys:List<|Option aC}{U:List aC}(h:PPs X pos keys U trs)(hall:keys.all (·.isSome)=true)(hl:keys.length=U.length)(h0:keys≠[])
  (h15:keys.length<=15):PE X (.Dict keys U pos) (aaE trs):=by
 intro pins s σ H Q I q;have hn:=I.hok.fresh<|aR s.heap.objs.size;have p:=I.laid (a:=s.heap.objs.size) (o:=.dK []) (h':=s.heap.push { cls:=.type "dict",data:=.dict #[]}) (t':=s.toks) (λ_ _ q=>aZ _ q) (aR _)<|FZ s.heap I.big;refine wpAny_Dict_walk (knd:=kB X.prog X.w) hall hl h0 h15<|mY (h pins _ σ _ _ p<|q _ hn) λK L ⟨ps,H2,g,f,e,kvs,ep,J,m⟩=>?_;subst ep;obtain⟨B,c,C⟩:=AM (P:=X.prog) (w:=X.w) f;obtain⟨z,G,k,t,D⟩:=KZ g.hok e
 cases t
 refine⟨B,c,D,λh' d hs=>⟨.ref s.heap.objs.size,_,?_,rfl,m⟩⟩;have F:(AJ [] kvs).length<=sizeLine:=by
  have h1:=vH kvs [];rw[cZ]at h1;rw[eN];lia
 have j:∃q,h'.get? s.heap.objs.size=some q:=let⟨q,_,_,hq,_⟩:=d;⟨q,hq⟩
 exact zl g (by rw[e];exact True.intro) hs j<|HQ F G (C.merge .nil) d
structure M2 (X:Cx)(o:aC)(m:Str)(apos:Pos)(e f:aC)(cpos:Pos):Prop where
 base:attributeBase o m X.env (eval o X.env)=eval o X.env
 few:((backTo cpos<|starEach [e,f] X.env).all (λx=>!x.1) && (backToKw cpos<|keywordEach [] X.env).all (λx=>x.1.isSome)
  && decide (([e,f]:List aC).length+([]:List Keyword).length+(if ([]:List Keyword).isEmpty then 0 else 1)<30))=true
 line:(apos.endLine == cpos.line)=true
 trees:backTo cpos (starEach [e,f] X.env)=[(false,eval e X.env),(false,eval f X.env)]
abbrev IsD (H:Hp)(a:ak):Prop:=(∃kvs,Rd H a<|.dK kvs)\/∃kvs,Rd H a<|.dT kvs
def Yk{X:Cx}{H:Hp}{s:aA}{a:ak}(I:Inv X pins σ H s)(d:IsD H a) :
  s.TypeIs (.ref a) "dict" /\ (∀b,Value.ref a=.ref b->∃ob,s.heap.get? b=some ob/\ob.dict=none)/\(a == sysModules)=false:=by
 rcases d with⟨kvs,e⟩|⟨kvs,e⟩
 ·obtain⟨_,f,g,_,c⟩:=vK I.hok e;refine⟨c.typeIs,λb q=>?_,f⟩
  cases q
  obtain⟨ob,_,_,h1,h2,_⟩:=c;exact⟨ob,h1,h2.2.1⟩
 ·obtain⟨_,f,xs,_,c⟩:=yK I.hok e;refine⟨c.typeIs,λb q=>?_,f⟩
  cases q
  obtain⟨ob,_,_,h1,h2,_⟩:=c;exact⟨ob,h1,h2.2.1⟩
section
variable {X:Cx}{pins:bo}{σ:St}{H:Hp}{s:aA}{a:ak}{y d:V}{u r:af}{o:Option V}{A:az}{E:af->aA->Prop}
def Ii{Q:af->aA->Prop}(U:A.units+1<cLine)(I:Inv X pins σ H s)(g:tO H a y o)(ry:RelV y u)(J:RelV d r)(h:∀w' s',Inv X pins σ H s'->RelV (o.getD d) w'->Q w' s') :
  wpAny (model X.prog X.w) A (call (.builtin "dict.get") [.ref a,u,r]) Q E s:=by
 rcases g with⟨kvs,k,e,j,l⟩|⟨kvs,k,b,e,j,p,l⟩
 ·subst j;obtain⟨z,m,q,c,f⟩:=vK I.hok e;refine call_meetsIn b_ f.typeIs g_ (gU _ _ _) (meets_dict_get_default (kB X.prog X.w) a (AH ry) m r) ⟨_,f.mapOf,h _ _ (I.tok _) ?_⟩;rw[l];exact(c.val k).getD J
 ·subst j
  cases(show u=Value.ref b from ry)
  obtain⟨z,m,xs,c,f⟩:=yK I.hok e;refine call_meetsIn b_ f.typeIs g_ (gU _ _ _) (meetsH_dict_get_default (tupleKind<|kB X.prog X.w) a b m r) ⟨eU U,k,xs,vY I.hok p,f,h _ _ (I.tok _) ?_⟩;rw[l];exact(c.val k).getD J
end
meta abbrev Mp:=ag×ag
abbrev Wc (x:ag):Int:=reduceHash<|Builtin.Tuple.tupleHashOf<|x.map hashInt
abbrev abz (k:Mp):Int:=reduceHash<|Builtin.Tuple.tupleHashOf [Wc k.1,Wc k.2]
abbrev dpE (x:(Mp×ak×af)):DictEntry:=⟨abz x.1,.ref x.2.1,x.2.2⟩
abbrev adN (a:ak)(xs:List<|Mp×ak×af)(h:aq):Prop:=(a == sysModules)=false/\xs.length<=sizeLine/\∃o es ep,h.get? a=some o/\o.ExactDict/\o.data=.dict es ep/\es.toList=xs.map dpE/\(xs.map (·.1)).Nodup
abbrev GQ (H:Hp)(b:ak)(k:Mp):Prop:=∃r1 r2,H b=some (.tup [.ref r1,.ref r2])/\H r1=some (.tup<|k.1.map V.int)/\H r2=some (.tup<|k.2.map V.int)
section
variable {X:Cx}
def zj(J:X.A.units+1<cLine):Ti X (λx y H Q=>∃a v,x=.ref a/\tO H a y (some v)/\Q v H):=by
 intro d c pins s σ H x y v u Q I rx ry h hs;obtain⟨a,z,rfl,g,q⟩:=h
 cases rx
 have j:=F0 I g;unfold subscriptTail;refine aP ?_;rw[getitemInPython_of_ne j.not_modules];refine aP<|wpAny_specialOf j PySem.F.slot_dict_getitem.lookup ?_;have fin:wpAny (model X.prog X.w) X.A (subscripted c false (.ref a) u) (λr e=>wpAny (model X.prog X.w) X.A (letTemporaryGo d (.ref a) r >>= λ_=>pure r) (EP X pins σ Q) X.xe e) X.xe s:=by
  rw[hs];exact wpAny_operating<|ME J I g ry λm p k f=>aP<|wpAny_letTemporaryGo<|bf ⟨z,H,k,f,q⟩
 first
  | exact bf (aP fin)
  | exact aP (bf<|aP fin)
  | exact aP fin
def ZF(J:X.A.units+1<cLine):pG X (compareOp .In) (λy x H Q=>∃a o,x=.ref a/\tO H a y o/\Q (.bl o.isSome) H):=by
 intro pins s σ H y x v u Q I ry rx h;obtain⟨a,o,rfl,g,q⟩:=h
 cases rx
 exact adD J I g ry λd c=>⟨.bl o.isSome,H,c,rfl,q⟩
def ML(J:X.A.units+1<cLine):pG X (compareOp .NotIn) (λy x H Q=>∃a o,x=.ref a/\tO H a y o/\Q (.bl<|!o.isSome) H):=by
 intro pins s σ H y x v u Q I ry rx h;obtain⟨a,o,rfl,g,q⟩:=h
 cases rx
 exact Uc J I g ry λd c=>⟨.bl<|!o.isSome,H,c,rfl,q⟩
def set_dict(J:X.A.units+1<cLine):Mx X (λo i v H Q=>∃a H',o=.ref a/\G1 H a i v H'/\Q H'):=by
 intro pins s σ H o i v j iv u Q I c f d h;obtain⟨a,H',rfl,g,q⟩:=h
 cases c
 exact MI J I g f d λk e=>⟨H',e,q⟩
abbrev abZ:V->List V->Hp->VK->Prop:=λx c H Q=>∃a b ks kvs y,x=.ref a/\c=[.ref b,y]/\H a=some (.dT kvs)/\H b=some (.tup<|ks.map kV)/\Q ((o5 kvs ks).getD y) H
def UQ(J:X.A.units+1<cLine):MtM X "dict.get" abZ:=by
 intro pins s σ H x C v us Q I rx d h;obtain⟨a,b,ks,kvs,y,rfl,rfl,j,k,q⟩:=h
 cases rx
 cases d with
 | @cons _ B _ Nr r1 d=>
  cases d with
  | @cons _ m _ EG r2 d=>
   cases d
   cases r1
   obtain⟨z,p,xs,e,f⟩:=Sd I.hok j;refine call_meetsIn b_ f.typeIs g_ (gU _ _ _) (meetsH_dict_get_default (tupleKind<|kB X.prog X.w) a b p m) ⟨eU J,ks,xs,vY I.hok k,f,?_⟩;refine⟨(o5 kvs ks).getD y,H,I.tok _,?_,q⟩;have c:=e.val ks
   cases e1:o5 kvs ks with
   | none=>
    rw[e1]at c
    cases e2:(atKey xs ks).map (·.2)with
    | none=>exact r2
    | some g=>rw[e2]at c;exact c.elim
   | some t=>
    rw[e1]at c
    cases e2:(atKey xs ks).map (·.2)with
    | none=>rw[e2]at c;exact c.elim
    | some g=>rw[e2]at c;exact c
end
section
theorem kt_at{H:Hp}:∀{kvs:List<|List Key×V}{xs:List<|List Key×ak×af},KT H kvs xs->kvs.length=xs.length/\∀(i:Nat) (p:List Key×V),kvs[i]?=some p->∃y:List Key×ak×af,xs[i]?=some y/\p.1=y.1/\H y.2.1=some (.tup<|p.1.map kV)/\RelV p.2 y.2.2
 | [],[],_=>⟨rfl,λi p h=>by simp at h⟩
 | [],_::_,r=>nomatch r
 | _::_,[],r=>nomatch r
 | a::kvs,b::xs,.cons z r=>by
  obtain⟨l,q⟩:=kt_at r;refine⟨by simp[l],λi p h=>?_⟩
  cases i with
  | zero=>
   have:a=p:=by simpa using h
   subst this;exact⟨b,rfl,z⟩
  | succ i=>exact q i p<|by simpa using h
end
abbrev C0 (e:ak)(h:aq):Prop:=∃o c,h.get? e=some o/\o.data=.fields c/\c[2]?=some .none/\o.dict=none
structure Fly (l:List Env)(g:aq)(pn:bo)(H:Hp)(e:ak)(cls:af)(h:aq):Prop where
 ex:∃(B:aq) (a0:af),Heap.FlyingW B l e cls a0 h/\(∀a u,H a=some u->∃o,B.get? a=some o)/\(∀b o,g.get? b=some o->b∉frs l->∃o',B.get? b=some o')/\(∀p∈pn,∃o',B.get? p.1=some o')/\C0 e h
structure Made (X:Cx)(H:Hp)(e:ak)(cls:af)(g:aq)(h:aq):Prop where
 ex:∃(g':aq) (vs:ba),Heap.MadeExcOf g' h e cls vs/\g'.FunFrames X.base X.stack/\(∀a u,H a=some u->∃o,g'.get? a=some o)/\(∀b o,g.get? b=some o->∃o',g'.get? b=some o')/\(∀p∈X.pn,∃o',g'.get? p.1=some o')
abbrev XW (X:Cx)(H:Hp)(e:ak)(cls:af)(s':aA):Prop:=Made X H e cls X.s₀.heap s'.heap\/Fly X.stack X.s₀.heap X.pn H e cls s'.heap
section
abbrev EX (X:Cx):XK:=λcls _ H'=>X.ex=[]/\∀pins c s' e,Inv X pins c H' s'->XW X H' e cls s'->X.xe (.ref e) s'
end
abbrev xu:HO:=.ext λ_=>True
structure XO (C:ak)(o:Obj):Prop where
 cls:o.cls=.ref C
 dict:o.dict=none
 ctx:∃vs,o.data=.fields vs/\vs[2]?=some .none
abbrev mroIn (K:au)(C:ak):Option (ba):=match K.lookup C with
 | some ⟨.type "type",_,.cls cd,sl⟩=>(match cd.mro,sl.toList with
  | .ref C'::bm,[_,_,_,_,some<|.builtin _,_]=>if C'=C/\cd.hasDel=false then some bm else none
  | _,_=>none)
 | _=>none
open PySem.W in
structure XCls (K:au)(C:ak):Prop where
 ga:findIn K (.ref C) "__getattribute__" = some (some<|.builtin "BaseException.__getattribute__")
 gt:findIn K (.ref C) "__getattr__" = some none
 fc:findObj K C none "__class__" = some (.bind (.builtin "getset_descriptor.__get__")<|.builtin "object.__class__")
 ob:PySem.W.mroIn K C (.type "object")=some true
 bs:subIn K (.ref C) (.type "BaseException")=some true
end L2
namespace L2
open PySem PySem.Spec PyProof.Rows PySem.SeqAt
def Br{prog:aj}{w:ah}{A:az}{E:af->aA->Prop}{β:Type}{b:Nat}{f:Nat->β->Sem (ForInStep β)}(I:Nat->β->aA->Prop)(Q:β->aA->Prop)
  (turn:∀i c s,i<b->I i c s->wpAny (model prog w) A (f i c) (λr s'=>match r with | .done c'=>Q c' s' | .yield c'=>I (i+1) c' s') E s)
  (fin:∀c s,I b c s->Q c s) {c:β} {s:aA} (h:I 0 c s):wpAny (model prog w) A (forIn [0:b] c f) Q E s:=by
 rw[Std.Legacy.Range.forIn_eq_forIn_range'];dsimp[Std.Legacy.Range.size,Nat.sub_zero,gM,Nat.div_one];refine wpAny_forIn_list f (λl c s=>∃i,i<=b/\l=List.range' i (b-i) 1/\I i c s) Q ?_ ?_ _ _ ⟨0,bP _,rfl,h⟩
 ·rintro x rest c s ⟨i,g,d,j⟩;have e:i<b:=by
   rcases gh i b with h'|h'
   ·exact h'
   ·rw[show b-i=0 by lia]at d;simp at d
  obtain⟨n,hn⟩:∃n,b-i=n+1:=⟨b-i-1,()⟩;rw[hn,iC]at d;obtain⟨rfl,rfl⟩:=List.cons.inj d;refine gI (turn x c s e j) (λr s' h'=>?_) λ_ _ q=>q
  cases r with
  | done c'=>exact h'
  | yield c'=>exact⟨x+1,e,by congr 1;lia,h'⟩
 ·rintro c s ⟨i,g,d,j⟩;have:b-i=0:=by
   rcases Nat.eq_zero_or_pos (b-i)with z|z
   ·exact z
   ·obtain⟨n,hn⟩:∃n,b-i=n+1:=⟨b-i-1,()⟩;rw[hn,iC]at d;cases d
  have:i=b:=()
  subst this;exact fin c s j
def BW(l:ak)(U:Array af)(n:Nat)(dd:Option ak)(sl:Array<|bi)(x:af)(e:af->Bool)(j:Nat)(hj:j<U.size)(hit:e U[j]=true)(hno:∀m (hm:m<U.size),m<j->e U[m]=false) :
  Meets (Builtin.«tuple.index» ⟨[.ref l,x],[]⟩)
   (λA R s=>s.heap.get? l=some { cls:=.type "tuple",dict:=dd,data:=.seq U n,slots:=sl }/\(∀y,y∈U->EqAt A.in1 s y x (e y))/\R (.ok<|.ret<|.int j s.toks) { s with toks:=s.toks+1 }):=
 .of_wp λprog w A R s h=>by
  obtain⟨t,g,d,D,B⟩:=s;obtain⟨C,p,h⟩:=h
  wp_walk using wpAny_loadPart' C,Br (λi b s'=>b.1=none/\s'=⟨t,g,d,D,B⟩/\i<=j) _
  case turn=>
   rintro i b s' F ⟨k,rfl,f⟩;have c:i<U.size:=()
   rw[dW c];refine aP (p _ (Array.getElem_mem c) prog w _ _ ?_)
   rcases gh i j with q|q
   ·rw[hno i c q]
    wp_walk
    exact⟨rfl,rfl,q⟩
   ·have:i=j:=()
    subst this;rw[hit]
    wp_walk
    exact⟨_,rfl,h⟩
  case fin=>
   rintro⟨J,G⟩ s' ⟨k,rfl,f⟩
   lia
  case h=>exact⟨rfl,rfl,bP _⟩
abbrev Y4 (K:au)(tup:Bool):V->List V->Hp->VK->Prop:=λx d H Q=>∃(p:ak) (y:V) (xs:List V) (k:Nat) (z:V),x=.ref p/\d=[y]/\(if tup=true then oE K H p xs else pK K H p xs)/\tW y=true/\xs.all tW=true/\xs[k]?=some z/\HJ z y=true/\(∀(m:Nat) (c:V),m<k->xs[m]?=some c->HJ c y=false)/\Q (.int k) H
section
variable {X:Cx}
def Pa{xs:List V}{its:ba}{k:Nat}(r:Vals xs its)(f:xs.all tW=true)(J:xs[k]?=some z)(hz:HJ z y=true)(U:∀m z',m<k->xs[m]?=some z'->HJ z' y=false) :
  ∃hj:k<its.toArray.size,ZZ y its.toArray[k]=true/\∀m (hm:m<its.toArray.size),m<k->ZZ y its.toArray[m]=false:=by
 have fl:∀m z',xs[m]?=some z'->tW z'=true:=λm z' h=>dY.mp f z'<|aW h;obtain⟨u,t,p⟩:=r.get J;obtain⟨hj,e⟩:=aG.mp t;refine⟨by simpa using hj,?_,λm hm j=>?_⟩
 ·rw[List.getElem_toArray,e,Im p<|fl k z J];exact hz
 ·have c:m<xs.length:=by have:=(aG.mp J).1;lia
  obtain⟨B,d,g⟩:=r.get<|aF c;obtain⟨_,q⟩:=aG.mp d;rw[List.getElem_toArray,q,Im g<|fl m _<|aF c];exact U m _ j<|aF c
def Vr:G_ X "tuple.index" (Y4 X.K true):=by
 intro pins s σ H x O v us Q I rx J ⟨p,y,xs,k,z,G,c,m,j,fs,t,N,d,q⟩;subst G c
 cases rx
 obtain⟨u,rfl,L⟩:=J.one;obtain⟨e,r,pl,C⟩:=I.tuple m;obtain⟨D,h1,h2⟩:=Pa r fs t N d;obtain⟨⟨cls,M,data,B⟩,f,hc,n,g⟩:=id pl;simp only at hc g;subst hc g;exact gJ F.slot_tuple_index ⟨_,f,rfl⟩ F.entry_tuple_index (F.args_tuple_index_2 _ _) (BW p e.toArray n M B u (ZZ y) k D h1 h2) ⟨f,λw hw=>Ae L j r fs w<|by simpa using hw,.int k,H,I.tok _,⟨_,rfl⟩,q⟩
def U7:G_ X "list.index" (Y4 X.K false):=by
 intro pins s σ H x P v us Q I rx L ⟨p,y,xs,k,z,J,c,t,m,fs,f,O,d,q⟩;subst J c
 cases rx
 obtain⟨u,rfl,M⟩:=L.one;obtain⟨e,r,pl,C⟩:=I.list t;obtain⟨D,h1,h2⟩:=Pa r fs f O d;obtain⟨⟨cls,N,data,B⟩,g,hc,n,j⟩:=id pl.isList;simp only at hc j;subst hc j;have:=wA;have G:k<xs.length:=(aG.mp f).1;exact gJ F.slot_list_index ⟨_,g,rfl⟩ F.entry_list_index (F.args_list_index_2 _ _) (SeqAt.list_indexAt p e.toArray n N B u (ZZ y) k D () h1 h2) ⟨g,λw hw=>Ae M m r fs w<|by simpa using hw,.int k,H,I.tok _,⟨_,rfl⟩,q⟩
abbrev adi (K:au)(to:TE)(t:TA):TE:=λσ H Q=>to σ H λx H1=>∃(b:Bool) (p:ak) (xs:List V),x=.ref p/\(if b=true then oE K H1 p xs else pK K H1 p xs)/\t σ H1 λc H2=>Y4 K b x c H2 Q
def Y6{e:aC}{to:TE}{t:TA}{apos cpos:Pos}(ho:PE X o to)(ha:PA X (e::es) t)
  (hbase:attributeBase o "index" X.env (eval o X.env)=eval o X.env<|>η)
  (hfew:(((backTo cpos<|starEach (e::es) X.env).all (λx=>!x.1) && (backToKw cpos<|keywordEach [] X.env).all (λx=>x.1.isSome)
   && decide ((e::es).length+([]:List Keyword).length+(if ([]:List Keyword).isEmpty then 0 else 1)<30))=true)<|>η)
  (hline:(apos.endLine == cpos.line)=true<|>η) (hs:starEach (e::es) X.env=(false,eval e X.env)::starEach es X.env<|>η) (U:((backTo cpos<|starEach es X.env).any (·.1)=false)<|>η) :
  PE X (.Call (.Attribute o "index" apos) (e::es) [] cpos) (adi X.K to t):=by
 k_ne;refine gZ hbase hfew hline rfl<|mY (ho pins s σ H _ I h) λv G ⟨x,H1,I1,r1,b,p,xs,J,C,D⟩=>?_;subst J
 cases r1
 cases b with
 | true=>
  obtain⟨f,d,g,m⟩:=I1.Xg C;refine⟨"tuple", "tuple.index",PySem.F.plainAttrs_tuple,PySem.F.slot_tuple_index,PySem.F.type_tuple_index,⟨f,d,g⟩,λa e=>by cases e;exact⟨f,d,m⟩,?_⟩;have c:=ha cpos pins G σ H1 _ I1 D;rw[hs]at c ⊢;refine eK (by show(false || (backTo cpos<|starEach es X.env).any (·.1))=false;rw[U]<;>rfl)<|gb ?_;exact mY c λus q ⟨B,H2,j,r2,k⟩=>Vr pins q σ H2 (.ref p) B _ us Q j rfl r2 k
 | false=>
  obtain⟨L,r,⟨f,n,d,g,m,M⟩,N⟩:=I1.list C;refine⟨"list", "list.index",gV,PySem.F.slot_list_index,PySem.F.type_list_index,⟨f,d,g⟩,λa e=>by cases e;exact⟨f,d,m⟩,?_⟩;have c:=ha cpos pins G σ H1 _ I1 D;rw[hs]at c ⊢;refine eK (by show(false || (backTo cpos<|starEach es X.env).any (·.1))=false;rw[U]<;>rfl)<|gb ?_;exact mY c λus q ⟨B,H2,j,r2,k⟩=>U7 pins q σ H2 (.ref p) B _ us Q j rfl r2 k
end
end L2
namespace L2
open PySem PySem.Spec PyProof.Rows
abbrev Y8 (K:au)(a:ak):It:=
 ⟨λi H=>∃xs x,pK K H a xs/\xs[i]?=some x,λi H x H'=>∃T,H T=none/\x=.ref T/\∀xs y,pK K H a xs->xs[i]?=some y->H'=upd H T (.tup [.int i,y]),λi H=>∃xs,pK K H a xs/\xs.length=i⟩
def IL{P:aj}{w:ah}{K:au}(a e it:ak)(hei:e≠it):Turn P w K (.Tuple elts x1 tpos) (Y8 K a) [e,it] e (λi h=>(∃old,IsEnum h e it i old)/\h.IsListIter it a i) where
 mem:=by simp
 obj:=λi h st b J=>by
  obtain⟨⟨old,f⟩,g⟩:=st;have F:b=e\/b=it:=by simpa using J
  rcases F with rfl|rfl
  ·exact⟨_,f,λv z=>by cases z⟩
  ·obtain⟨o,e,c,d⟩:=g;exact⟨o,e,λv z=>by rw[d]at z;cases z⟩
 keep:=λi h h' st k=>by
  obtain⟨⟨old,f⟩,g⟩:=st;exact⟨⟨old,k e (by simp) _ f⟩,g.at λo B=>k it (by simp) o B⟩
 item:=by
  z_go;subst hP hw hK;obtain⟨⟨old,f⟩,g⟩:=st;obtain⟨xs,x,hq,hx⟩:=hg;obtain⟨C,rv,p,hz⟩:=I.list hq;obtain⟨u,hu,ru⟩:=rv.get hx;have T:a≠it:=by
   obtain⟨o,B,D,_⟩:=p.isList;obtain⟨o2,O,G,_⟩:=g;intro z;rw[z,O]at B
   cases B
   rw[D]at G;exact absurd (Value.type.inj G) ⋯
  have hea:e≠a:=by
   obtain⟨o,B,D,_⟩:=p.isList;intro z;rw[<- z,f]at B
   cases B
   exact absurd (Value.type.inj D) ⋯
  have hlt:i<C.toArray.size:=by
   rw[bh];exact(aG.mp hu).1
  refine wpAny_pyNext_enum_itemD (Draws.list (A:=X.A.in1) (I.ok.hd hc) it a T C.toArray) f ⟨g,p.isList⟩ hlt hei (by simp[hei,hea]) λx' h' tk hP Y hst hT hsz hk=>?_;have ex:x'=u:=by
   have:C.toArray[i]?=some u:=by simpa using hu
   rw[this]at hP;exact(aY hP).symm
  subst ex;refine⟨_,rfl,wpAny_letOwnedTupleGo_enum Y λh2 he2 N=>?_⟩;have U:H s.heap.objs.size=none:=I.hok.fresh<|aR _;have W:e<s.heap.objs.size:=bu f;have hil:it<s.heap.objs.size:=by obtain⟨o,B,_⟩:=g;exact bu B
  have V:∀b o,b≠e->b≠it->s.heap.get? b=some o->h2.get? b=some o:=λb o h1 h3 q=>N.extBut b o h1<|hk b o h1 h3 q;have hT2:h2.get? s.heap.objs.size=some { cls:=.type "tuple",data:=.seq #[.int i tk,x']}:=N.extBut _ _ (ne_of_gt W) hT;obtain⟨e0,e1,e2,e3,e4,e5⟩:=hf e (by simp);obtain⟨i0,Z,i2,i3,i4,i5⟩:=hf it (by simp);have nT:∀b o,s.heap.get? b=some o->b≠s.heap.objs.size:=λb o q=>bF<|bu q;have t:∀c v,H c=some v->c≠e/\c≠it:=λc v q=>⟨(λz=>by rw[z,e0]at q;cases q),(λz=>by rw[z,i0]at q;cases q)⟩;have I2:Inv X pins σ (upd H s.heap.objs.size<|.tup [.int i,x]) { s with heap:=h2,toks:=tk+1 }:=by
   refine I.step (g':=s.gens) (d':=s.drawn) (ch:=[e,it]) (λb J=>?_) (λb o _ _ j q _=>?_) (λb o _ _ j q _=>?_) (λb o j q n=>?_) (λb o j q=>?_) (λb ys q=>?_) (λb o u' q=>?_) (λb ps q=>?_) (λm hm=>?_) (λb u' q=>?_) I.bare
   ·have F:b=e\/b=it:=by simpa using J
    rcases F with rfl|rfl
    ·exact⟨e3,e1,e4,e5⟩
    ·exact⟨i3,Z,i4,i5⟩
   ·exact V b o (λz=>j<|by simp[z]) (λz=>j<|by simp[z]) q
   ·exact⟨o.slots,V b o (λz=>j<|by simp[z]) (λz=>j<|by simp[z]) q⟩
   ·rw[jN<|nT b o q];exact n
   ·exact⟨o,V b o (λz=>j<|by simp[z]) (λz=>j<|by simp[z]) q⟩
   ·rw[jN<|jV q U];exact q
   ·rw[jN<|jV q U];exact q
   ·exact⟨#[],by rw[jN<|jV q U,q];simp⟩
   ·obtain⟨o,es,ep,B,r⟩:=hm;exact⟨o,es,ep,V _ o (cV e1) (cV Z) B,r⟩
   ·by_cases z:b=s.heap.objs.size
    ·subst z;rw[kg]at q
     cases q
     exact⟨by show 2<=sizeLine;decide,[.int i tk,x'],.cons ⟨tk,rfl⟩<|.cons ru .nil,⟨_,hT2,rfl,rfl,0,rfl⟩⟩
    ·rw[jN z]at q;refine(I.hok b u' q).stay (λc v hc M=>V c v ?_ ?_ M) (λc M=>?_) λc ys M=>?_
     ·rcases hc with z|z
      ·rw[z];exact(t b u' q).1
      ·exact(t c _ z).1
     ·rcases hc with z|z
      ·rw[z];exact(t b u' q).2
      ·exact(t c _ z).2
     ·rw[jN<|jV M U];exact M
     ·rw[jN<|jV M U];exact M
  refine⟨.ref s.heap.objs.size,_,I2,rfl,⟨s.heap.objs.size,U,rfl,λys y hy L=>?_⟩,⟨⟨x',by simpa using he2⟩,?_⟩,λb J=>?_⟩
  ·rw[I.GW hy hq]at L;rw[hx]at L
   cases L
   rfl
  ·exact hst.1.at λo B=>N.extBut it o (cV hei) B
  ·have F:b=e\/b=it:=by simpa using J
   rcases F with rfl|rfl
   ·rw[jN<|bF W];exact e0
   ·rw[jN<|bF hil];exact i0
 done:=by
  z_go;subst hP hw hK;obtain⟨⟨old,f⟩,g⟩:=st;obtain⟨xs,hq,hx⟩:=hg;obtain⟨C,rv,p,hz⟩:=I.list hq;obtain⟨i0,Z,i2,i3,i4,i5⟩:=hf it (by simp);have T:a≠it:=by
   obtain⟨o,B,D,_⟩:=p.isList;obtain⟨o2,O,G,_⟩:=g;intro z;rw[z,O]at B
   cases B
   rw[D]at G;exact absurd (Value.type.inj G) ⋯
  have hl:=rv.length;have ei:C.toArray.size=i:=by rw[bh,<- hl,hx]
  exact wpAny_pyNext_enum_endD (Draws.list (A:=X.A.in1) (I.ok.hd hc) it a T C.toArray) f ⟨by rw[ei];exact g,p.isList⟩ λh' eb=>⟨rfl,I.turned (t':=s.toks) (λb o J q=>eb b o J q) i0 Z i3 i4 i5⟩
 self:=λ_ _ _ _ _ st h=>let⟨⟨_,f⟩,_⟩:=st;wpAny_pyIter_enum f h
section
variable {X:Cx}
abbrev Zu (K:au)(ta:TA):TI:=λσ H R=>ta σ H λc H1=>∃a xs,c=[.ref a]/\pK K H1 a xs/\R (Y8 K a) H1
def Pz{a:aC}{ta:TA}{p:Pos}(hg:Gl X "enumerate")(U:X.mg "enumerate" = none)(ha:PA X [a] ta)(hs:starEach [a] X.env=[(false,eval a X.env)]<|>η):PI X (.Tuple elts x1 tpos) (.Call (.Name "enumerate" p) [a] [] pos) (Zu X.K ta):=by
 intro pins s σ H R I h;refine Call_<|yp I hg U DL<|eG (mY (ha pos pins s σ H _ I h) λus c ⟨M,H1,I1,r1,C⟩=>?_) hs rfl;obtain⟨t,xs,e,m,q⟩:=C;subst e;obtain⟨u,rfl,rx⟩:=vals1 r1
 cases rx
 obtain⟨J,L,G,N⟩:=I1.list m;refine call_enumerate_list G.isList λh' j g D B=>?_;have F:Inv X pins σ H1 { c with heap:=h' }:=I1.kept (t':=c.toks) B;have f:c.heap.objs.size+1≠c.heap.objs.size:=()
 refine wpAny_pyIter_enum j ⟨_,[_,c.heap.objs.size],_,_,H1,rfl,F,IL t _ c.heap.objs.size f,⟨⟨.none,j⟩,g⟩,λb k=>?_,q⟩;have d:b=c.heap.objs.size+1\/b=c.heap.objs.size:=by simpa using k
 rcases d with rfl|rfl
 ·exact I1.Gk (le_succ _) (I1.hok.fresh<|le_succ _)
 ·exact I1.Gk (aR _)<|I1.hok.fresh<|aR _
end
def QS{X:Cx}{i:Nat}{spos:Pos}{iter:aC}{N:ar}{wi:TI}{g:TG}{tc:TT}{te:TE}
  (hN:X.N.Nodup) (hi':X.N[i]?=some y) (hx:Loc X.env.scope y) (hc:X.calm=true) (S:CpScope X scope N cap) (hi:PI X tg iter wi)
  (hg:∀C s₀ H₀ ex,PG (oX X scope N C s₀ H₀ ex) tg g) (ht:∀C s₀ H₀ ex,YK (oX X scope N C s₀ H₀ ex) ifs tc) (he:∀C s₀ H₀ ex,PE (oX X scope N C s₀ H₀ ex) elt te)
  (hsw:swapsWith (.ListComp elt [⟨tg,iter,ifs,0⟩] scope pos) (some<|.Name y py) spos.line X.env=pure true)
  (hf:X.fn y=true\/X.env.scope.names.lookup y=some .local) (hs:(∀x,foldedSetIterable iter X.env x=pure x)<|>θ) :
  PS X (.Assign [.Name y py] (.ListComp elt [⟨tg,iter,ifs,0⟩] scope pos) spos) (TV (tLC cap wi g tc te)<|QY i):=by
 intro pins s σ H D I h;rw[exec_Assign_Name_used _ _ _ _ hsw];refine aP (wpAny_standAt<|aP ?_)
 skip
 refine aP<|gI (JK (ok:=λY=>Y.calm=true) (Q':=λ_ s'=>SP X pins D .next s') S (λ_ _ _ _ _=>hc) (PI.g hi) hg ht he hs pins s σ H _ I h ?_) (λ_ s' O=>bf<|bf O) λ_ _ e=>e;intro F C M U m hn k inv q v;have P:=inv F.heap<|Heap.SameBut.refl _ _;obtain⟨J,j⟩:∃o,F.heap.get? C=some o/\∀v,o.data≠.cell v:=by
  obtain⟨o,es,ep,e,d,_⟩:=hn;exact⟨o,e,λv z=>by rw[d]at z;cases z⟩
 have T:=P.pinned (fp:=[C]) (λb f=>by rw[aQ]at f;rw[f];exact k) (λb f=>by rw[aQ]at f;rw[f];exact⟨J,j⟩)
 skip
 refine mY (Ka hN hi' hx hf _ F σ U (.ref M) (.ref M) _ T rfl q) λ_ W h9=>?_;obtain⟨B,G,t,V⟩:=h9;have K:=t.pin (C,J)<|bR _<|bR _<|qG (aQ.mpr rfl) j.1;refine⟨m,hn.at' λo e=>by rw[j.1]at e;cases e;exact K.1,λh' p=>?_⟩;have L:∀c v,G c=some v->c≠C:=λc v e z=>by rw[z,K.2.1]at e;cases e
 refine⟨B,G,?_,V⟩;refine t.ud.WD (ch:=[C]) rfl ⟨λb o e n f hx=>?_,λb o e n f hx=>?_,λb o e n hx=>n,λb o e hx=>?_,λ_ _ e=>e,λ_ _ _ e=>e,λ_ _ e=>⟨#[],by rw[Array.append_empty];exact e⟩⟩ ?_ t.bare ?_
 ·exact p.extBut b o (by simpa using hx) e
 ·exact⟨o.slots,p.extBut b o (by simpa using hx) e⟩
 ·exact⟨o,p.extBut b o (by simpa using hx) e⟩
 ·intro b o e;refine(t.hok b o e).stay (λc v hc q=>p.extBut c v ?_ q) (λ_ q=>q) λ_ _ q=>q
  rcases hc with z|z
  ·rw[z];exact L b o e
  ·exact L c _ z
 ·intro b f;rw[aQ]at f;rw[f];exact⟨k.2.2.2.1,k.2.1,k.2.2.2.2.1,k.2.2.2.2.2⟩
end L2
namespace Sx
open PySem PyProof.Rows
structure Ord where
 lt:Nat->Nat->Bool
 NN:∀i,lt i i=false
 tr:∀i j k,lt i j=true->lt j k=true->lt i k=true
 neg:∀i j k,lt i k=true->lt i j=true\/lt j k=true
abbrev P (o:Ord)(i j:Nat):Prop:=o.lt i j=true\/(o.lt j i=false/\i<j)
def Ord.adJ(o:Ord)(h:o.lt i j=true):o.lt j i=false:=by
 cases e:o.lt j i with
 | false=>rfl
 | true=>have:=o.tr _ _ _ h e;rw[o.NN]at this;cases this
def P.NN(h:P o i i):False:=by
 rcases h with h|⟨_,h⟩
 ·rw[o.NN]at h;cases h
 ·lia
def P.trans{k:Nat}(a:P o i j)(b:P o j k):P o i k:=by
 rcases a with a|⟨a,d⟩
 ·rcases b with b|⟨b,c⟩
  ·exact .inl (o.tr _ _ _ a b)
  ·rcases o.neg i k j a with z|z
   ·exact .inl z
   ·rw[b]at z;cases z
 ·rcases b with b|⟨b,c⟩
  ·rcases o.neg j i k b with z|z
   ·rw[a]at z;cases z
   ·exact .inl z
  ·refine .inr ⟨?_,()⟩
   cases e:o.lt k i with
   | false=>rfl
   | true=>
    rcases o.neg k j i e with z|z
    ·rw[b]at z;cases z
    ·rw[a]at z;cases z
def P.of_lt{o:Ord}(h:o.lt i j=true):P o i j:=.inl h
def P.yL{o:Ord}(h:o.lt j i=false)(J:i<j):P o i j:=.inr ⟨h,J⟩
def P.lt{o:Ord}(h:P o i j)(J:j<i):o.lt i j=true:=by
 rcases h with h|⟨_,h⟩
 ·exact h
 ·lia
def P.ge{o:Ord}(h:P o i j):o.lt j i=false:=by
 rcases h with h|⟨h,_⟩
 ·exact o.adJ h
 ·exact h
abbrev So (o:Ord)(g:Nat->Nat)(a b:Nat):Prop:=∀i j,a<=i->i<j->j<b->P o (g i) (g j)
abbrev Cl (g:Nat->Nat)(a b:Nat):Prop:=∀i,a<=i->i<b->a<=g i/\g i<b
abbrev rev (g:Nat->Nat)(i j:Nat):Nat->Nat:=λk=>if i<=k/\k<j then g (i+j-1-k)else g k
abbrev mv (g:Nat->Nat)(src J:Nat):Nat->Nat:=λk=>if k=J then g src else if J<k/\k<=src then g (k-1)else g k
def A9{g:Nat->Nat}{k:Nat}(h:i<=k)(h2:k<j):rev g i j k=g (i+j-1-k):=aK ⟨h,h2⟩
def qp{g:Nat->Nat}{k:Nat}(h:k<i\/j<=k):rev g i j k=g k:=aI ()
def SW{g:Nat->Nat}{d:Nat}:mv g s d d=g s:=aK rfl
def Fp{g:Nat->Nat}{d k:Nat}(h:d<k)(h2:k<=s):mv g s d k=g (k-1):=by
 unfold mv;rw[aI (),aK ⟨h,h2⟩]
def Ed{g:Nat->Nat}{d k:Nat}(J:d<=s)(h:k<d\/s<k):mv g s d k=g k:=by
 unfold mv;rw[aI (),aI ()]
section
variable {prog:aj}{w:ah}{A:az}{E:af->aA->Prop}{s:aA}{o:Ord}{N:Nat}{f:Nat->Keyed}{kd:SortKind}{g:Nat->Nat}{p:Array (Nat×Nat×Nat)}{st:SortSt}
abbrev BQ (prog:aj)(w:ah)(A:az)(s:aA)(o:Ord)(N:Nat)(f:Nat->Keyed)(kd:SortKind):Prop:=
 ∀i j,i<N->j<N->∀(c:af->aA->Prop) (Q:Bool->aA->Prop),Q (o.lt i j) s->wpAny (model prog w) A (keyLt' kd (f i).1 (f j).1) Q c s
structure Sg (N:Nat)(f:Nat->Keyed)(kd:SortKind)(g:Nat->Nat)(p:Array (Nat×Nat×Nat))(st:SortSt):Prop where
 size:(arrOf st).size=N
 get:∀i,i<N->(arrOf st)[i]?=some (f<|g i)
 lt:∀i,i<N->g i<N
 kind:kindOf st=kd
 failed:failedOf st=none
 pend:pendingOf st=p
def Bx(C:BQ prog w A s o N f kd)(J:kindOf st=kd)(hi:i<N)(U:j<N){Q:bj->SortSt->Prop}(q:Q (some<|o.lt i j) st):wpS (model prog w) A E s (lt' (f i)<|f j) Q st:=by
 rw[lt'_eq];refine a_<|h_ ?_;rw[J];refine a_<|wpS_lift<|wpAny_attempt<|C i j hi U _ _ ⟨rfl,?_⟩;exact bw q
def kc{xs:Array Keyed}{i:Nat}{x:Keyed}(e:xs[i]?=some x){Q:Keyed->SortSt->Prop}(q:Q x st):wpS (model prog w) A E s (elem' xs i) Q st:=by
 rw[elem'_eq,e];exact bw q
def xR(C:BQ prog w A s o N f kd)(h:Sg N f kd g p st)(hi:i<N)(J:j<N){Q:bj->SortSt->Prop}(q:Q (some<|o.lt (g i)<|g j) st):wpS (model prog w) A E s (ltAt' i j) Q st:=by
 rw[ltAt'_eq];refine a_ (h_ ?_)
 skip
 exact a_<|kc (h.get i hi)<|a_<|kc (h.get j J)<|Bx C h.kind (h.lt i hi) (h.lt j J) q
def Sg.arr(h:Sg N f kd g p st){xs:Array Keyed}{g':Nat->Nat}(hs:xs.size=N)(hg:∀i,i<N->xs[i]?=some (f<|g' i))(J:∀i,i<N->g' i<N):Sg N f kd g' p (setArr st xs):=⟨hs,hg,J,h.kind,h.failed,h.pend⟩
def zX(h:Sg N f kd g p st)(J:j<=N){Q:Unit->SortSt->Prop}(q:∀st',Sg N f kd (rev g i j) p st'->Q Unit.unit st'):wpS (model prog w) A E s (reverseSlice' i j) Q st:=by
 rw[reverseSlice'_eq];refine fV (q _<|h.arr (by rw[mirror_size];exact h.size) (λk d=>?_) λk d=>?_)
 ·rw[getElem?_mirror_all<|by rw[h.size];exact J];unfold rev;by_cases c:i<=k/\k<j
  ·rw[aK c,aK c];exact h.get _ (by omega)
  ·rw[aI c,aI c];exact h.get _ d
 ·unfold rev;by_cases c:i<=k/\k<j
  ·rw[aK c];exact h.lt _ (by omega)
  ·rw[aI c];exact h.lt _ d
def Zp(h:Sg N f kd g p st){a b:Nat}(J:a<N)(U:b<=a){Q:Unit->SortSt->Prop}(q:∀st',Sg N f kd (mv g a b) p st'->Q Unit.unit st'):wpS (model prog w) A E s (moveDown' a b) Q st:=by
 rw[moveDown'_eq];refine fV (q _<|h.arr (by rw[bubble_size];exact h.size) (λk d=>?_) λk d=>?_)
 ·rw[getElem?_bubble (by rw[h.size];exact J) _ (),show a-(a-b)=b by lia];unfold mv;by_cases c:k=b
  ·rw[aK c,aK c];exact h.get _ J
  ·rw[aI c,aI c];by_cases c2:b<k/\k<=a
   ·rw[aK c2,aK c2];exact h.get _ ()
   ·rw[aI c2,aI c2];exact h.get _ d
 ·unfold mv;by_cases c:k=b
  ·rw[aK c];exact h.lt _ J
  ·rw[aI c];by_cases c2:b<k/\k<=a
   ·rw[aK c2];exact h.lt _ ()
   ·rw[aI c2];exact h.lt _ d
structure Rn (o:Ord)(g0 g:Nat->Nat)(a b:Nat):Prop where
 out:∀i,i<a\/b<=i->g i=g0 i
 cl:Cl g a b
 so:So o g a b
def XM{g0:Nat->Nat}{lo k l:Nat}(R:Rn o g0 g lo<|lo+k)(J:g (lo+k)=lo+k)(U:l<=k)(h1:∀i,i<l->P o (g<|lo+i) (lo+k))(h2:∀i,l<=i->i<k->P o (lo+k) (g<|lo+i)):Rn o g0 (mv g (lo+k)<|lo+l) lo (lo+(k+1)) where
 out i hi:=by rw[Ed () ()];exact R.out i ()
 cl i a b:=by
  by_cases c:i=lo+l
  ·subst c;rw[SW,J];lia
  ·by_cases c2:lo+l<i
   ·rw[Fp c2 ()];have:=R.cl (i-1) () ()
    lia
   ·rw[Ed () ()];have:=R.cl i () ()
    lia
 so i j a b d:=by
  by_cases c:i=lo+l
  ·subst c;rw[SW,Fp b (),J];have:=h2 (j-1-lo) () ()
   rwa [show lo+(j-1-lo)=j-1 by lia]at this
  ·by_cases c2:lo+l<i
   ·rw[Fp c2 (),Fp () ()];exact R.so _ _ () () ()
   ·rw[Ed (k:=i) () ()];by_cases c3:j=lo+l
    ·subst c3;rw[SW,J];have:=h1 (i-lo) ()
     rwa [show lo+(i-lo)=i by lia]at this
    ·by_cases e:lo+l<j
     ·rw[Fp e ()];exact R.so _ _ () () ()
     ·rw[Ed () ()];exact R.so _ _ () () ()
def YX(C:BQ prog w A s o N f kd){g0:Nat->Nat}{lo n ok:Nat}(h:Sg N f kd g p st)(hn:lo+n<=N)(h1:1<=ok)(hok:ok<=n)(R:Rn o g0 g lo<|lo+ok)(hid:∀i,lo+ok<=i->i<lo+n->g0 i=i)
  {Q:Bool->SortSt->Prop} (q:∀g' st',Sg N f kd g' p st'->Rn o g0 g' lo (lo+n)->Q true st'):wpS (model prog w) A E s (binarySort' lo n ok) Q st:=by
 rw[binarySort'_eq,show max ok 1=ok by lia];refine a_ (eF (cP (I:=λk c st'=>c=(none,Unit.unit)/\∃g',Sg N f kd g' p st'/\Rn o g0 g' lo (lo+min k n))
  (Q:=λc st'=>c=(none,Unit.unit)/\∃g',Sg N f kd g' p st'/\Rn o g0 g' lo (lo+n)) ?step ?fin ?init) ?post)
 case post=>
  rintro c st' ⟨rfl,g',h',e⟩;exact bw<|q g' st' h' e
 case init=>exact⟨rfl,g,h,by rw[show min ok n=ok by lia];exact R⟩
 case fin=>
  rintro c st' ⟨hc,g',h',e⟩;exact⟨hc,g',h',by rwa [show min (max ok n) n=n by lia]at e⟩
 case step=>
  rintro k c st' K J ⟨rfl,g',h',e⟩;rw[show min k n=k by lia]at e;have G:g' (lo+k)=lo+k:=by rw[e.out _ ()];exact hid _ () ()
  refine a_ (eF (cP (I:=λx c t=>t=st'/\∃u v,c=(none,u,v)/\u<=v/\v<=k/\v-u<=k-x /\
    (∀i,i<u->P o (g'<|lo+i) (lo+k))/\(∀i,v<=i->i<k->P o (lo+k) (g'<|lo+i)))
   (Q:=λc t=>t=st'/\∃u v,c=(none,u,v)/\u<=k /\
    (∀i,i<u->P o (g'<|lo+i) (lo+k))/\(∀i,u<=i->i<k->P o (lo+k) (g'<|lo+i))) ?istep ?ifin ?iinit) ?ipost)
  case iinit=>exact⟨rfl,0,k,rfl,(),(),(),λi V=>(),λi h1 h2=>()⟩
  case ifin=>
   rintro c t ⟨rfl,u,v,rfl,F,m,O,low,top⟩;have:u=v:=()
   subst this;exact⟨rfl,u,u,rfl,m,low,top⟩
  case istep=>
   rintro x c t _ L ⟨rfl,u,v,rfl,F,m,O,low,top⟩;dsimp only;by_cases B:u>=v
   ·rw[aK B];have:u=v:=()
    subst this;exact bw ⟨rfl,u,u,rfl,m,low,top⟩
   ·rw[aI B];have U:(u+v) / 2<k:=()
    have M:=e.cl (lo+(u+v) / 2) () ();refine a_<|xR C h' () () ?_;rw[G]
    cases d:o.lt (lo+k) (g'<|lo+(u+v) / 2)
    case true=>
     dsimp[dg];refine bw ⟨rfl,u,(u+v) / 2,rfl,(),(),(),low,λi h1 h2=>?_⟩;by_cases c:i=(u+v) / 2
     ·subst c;exact .inl d
     ·exact(P.of_lt d).trans (e.so _ _ () () ())
    case false=>
     dsimp[bC,cJ];refine bw ⟨rfl,(u+v) / 2+1,v,rfl,(),(),(),λi h1=>?_,top⟩;have j:=P.yL d M.2;by_cases c:i=(u+v) / 2
     ·subst c;exact j
     ·exact(e.so _ _ () () ()).trans j
  case ipost=>
   rintro c t ⟨rfl,u,v,rfl,D,low,top⟩;dsimp only;refine a_<|Zp h' () () λT h3=>?_;refine bw ⟨rfl,_,h3,?_⟩;rw[show min (k+1) n=k+1 by lia];exact XM e G D low top
end
meta abbrev As:=Option (bn)×Nat
meta abbrev Ds:=Option (bn)×Nat×Nat
abbrev PM (lo a J:Nat):StateT SortSt Sem As:=
 forIn [a:J] ((none,a):As) λ_ c=>do
  let x <- ltAt' (lo+c.2) (lo+c.2-1)
  match x with
  | some b=>if b=true then pure (ForInStep.done (none,c.2))else pure (ForInStep.yield (none,c.2+1))
  | _=>pure<|ForInStep.done (some none,c.2)
abbrev FA (lo n J:Nat):StateT SortSt Sem (bn):=do
 reverseSlice' lo (lo+n)
 let c <- PM lo n J
 match c.1 with
 | some r=>pure r
 | none=>pure<|some c.2
abbrev VD (lo n J:Nat):StateT SortSt Sem Ds:=
 forIn [n:J] ((none,n,0):Ds) λ_ c=>do
  let x <- ltAt' (lo+c.2.1) (lo+c.2.1-1)
  match x with
  | some b=>
   if b=true then
    if c.2.2>0 then do
     reverseSlice' (lo+c.2.1-(c.2.2+1)) (lo+c.2.1)
     pure (ForInStep.yield (none,c.2.1+1,0))
    else pure (ForInStep.yield (none,c.2.1+1,0))
   else do
    let x <- ltAt' (lo+c.2.1-1) (lo+c.2.1)
    match x with
    | some b=>
     if b=true then pure (ForInStep.done (none,c.2.1,c.2.2))
     else pure (ForInStep.yield (none,c.2.1+1,c.2.2+1))
    | _=>pure<|ForInStep.done (some none,c.2.1,c.2.2)
  | _=>pure<|ForInStep.done (some none,c.2.1,c.2.2)
abbrev P8 (lo n J:Nat):StateT SortSt Sem (bn):=do
 liftM (rule "list.sort.descending-run")
 let c <- VD lo (n+1) J
 match c.1 with
 | some r=>pure r
 | none=>
  if c.2.2>0 then do
   reverseSlice' (lo+c.2.1-(c.2.2+1)) (lo+c.2.1)
   FA lo c.2.1 J
  else FA lo c.2.1 J
def count_eq(lo J:Nat):countRun' lo J=(do
  let c <- PM lo 1 J
  match c.1 with
  | some r=>pure r
  | none=>
   if (c.2 == J)=true then pure (some c.2)
   else if c.2>1 then do
    let x <- ltAt' lo (lo+c.2-1)
    match x with
    | some b=>if b=true then pure (some c.2)else do
      reverseSlice' lo (lo+c.2)
      P8 lo c.2 J
    | _=>pure none
   else P8 lo c.2 J):=by
 rw[countRun'_eq];dsimp only;unfold P8 FA VD PM;congr 1
 funext c
 obtain⟨r,n⟩:=c
 cases r with
 | some r=>rfl
 | none=>
  dsimp only;split
  ·rfl
  ·split
   ·congr 1
    funext x
    cases x with
    | none=>rfl
    | some b=>
     dsimp only;split
     ·rfl
     ·congr 1
      funext _r
      congr 1
      funext _u
      congr 1;congr 1
      funext s2
      obtain⟨r2,g,f⟩:=s2
      cases r2 with
      | some r2=>rfl
      | none=>
       dsimp only;split
       ·congr 1
        funext _v
        congr 1
        funext _w
        congr 1
        funext s3
        obtain⟨d,e⟩:=s3
        cases d<;>rfl
       ·congr 1
        funext _w
        congr 1
        funext s3
        obtain⟨d,e⟩:=s3
        cases d<;>rfl
   ·congr 1
    funext _u
    congr 1;congr 1
    funext s2
    obtain⟨r2,g,f⟩:=s2
    cases r2 with
    | some r2=>rfl
    | none=>
     dsimp only;split
     ·congr 1
      funext _v
      congr 1
      funext _w
      congr 1
      funext s3
      obtain⟨d,e⟩:=s3
      cases d<;>rfl
     ·congr 1
      funext _w
      congr 1
      funext s3
      obtain⟨d,e⟩:=s3
      cases d<;>rfl
section
variable {prog:aj}{w:ah}{A:az}{E:af->aA->Prop}{s:aA}{o:Ord}{N:Nat}{f:Nat->Keyed}{kd:SortKind}{g g0:Nat->Nat}{p:Array (Nat×Nat×Nat)}{st:SortSt}
def Rn.snoc{a b:Nat}(R:Rn o g0 g a b)(J:a<b)(U:g b=b)(h:o.lt b (g<|b-1)=false):Rn o g0 g a (b+1) where
 out i hi:=R.out i ()
 cl i h1 h2:=by
  by_cases c:i=b
  ·subst c;lia
  ·have:=R.cl i h1 ();lia
 so i j h1 h2 h3:=by
  by_cases c:j=b
  ·subst c;rw[U];have l:=R.cl (j-1) () ();have d:P o (g<|j-1) j:=P.yL h l.2;by_cases c2:i=j-1
   ·subst c2;exact d
   ·exact(R.so i (j-1) h1 () ()).trans d
  ·exact R.so i j h1 h2 ()
def QL(C:BQ prog w A s o N f kd){lo a:Nat}(h:Sg N f kd g p st)(hn:lo+nrem<=N)(h1:1<=a)(J:a<=nrem)(R:Rn o g0 g lo<|lo+a)(U:∀i,lo+a<=i->i<lo+nrem->g0 i=i)
  {Q:As->SortSt->Prop} (q:∀n,a<=n->n<=nrem->Rn o g0 g lo (lo+n)->(n=nrem\/o.lt (lo+n) (g<|lo+n-1)=true)->Q (none,n) st):wpS (model prog w) A E s (PM lo a nrem) Q st:=by
 unfold PM;refine cP (I:=λx c d=>d=st/\c=(none,x)/\Rn o g0 g lo (lo+x)) ?step ?fin ⟨rfl,rfl,R⟩
 case fin=>
  rintro c d ⟨rfl,rfl,e⟩;rw[show max a nrem=nrem by lia]at e ⊢;exact q nrem J (aR _) e<|.inl rfl
 case step=>
  rintro x c d j t ⟨rfl,rfl,e⟩;dsimp only;have m:g (lo+x)=lo+x:=by rw[e.out _ ()];exact U _ () ()
  refine a_<|xR C h () () ?_;rw[m]
  cases k:o.lt (lo+x) (g<|lo+x-1)
  case true=>
   dsimp[dg];exact bw<|q x j () e<|.inr k
  case false=>
   dsimp[bC,cJ];exact bw ⟨rfl,rfl,e.snoc () m k⟩
structure Dc (o:Ord)(g0 g:Nat->Nat)(a b q:Nat):Prop where
 out:∀i,i<a\/b<=i->g i=g0 i
 cl:Cl g a b
 few:a+(q+1)<=b
 dn:∀i j,a<=i->i<j->j<b->i<b-(q+1)->P o (g j) (g i)
 id:∀i,b-(q+1)<=i->i<b->g i=i
 al:∀i j,b-(q+1)<=i->i<b->b-(q+1)<=j->j<b->o.lt i j=false
def Dc.turn{a b q:Nat}(D:Dc o g0 g a b q):(∀i,i<a\/b<=i->rev g (b-(q+1)) b i=g0 i)/\Cl (rev g (b-(q+1)) b) a b/\(∀i j,a<=i->i<j->j<b->P o (rev g (b-(q+1)) b j) (rev g (b-(q+1)) b i))/\(∀i,b-(q+1)<=i->i<b->∃k,rev g (b-(q+1)) b i=k/\b-(q+1)<=k/\k<b):=by
 have few:=D.few;have d:∀i,b-(q+1)<=i->i<b->rev g (b-(q+1)) b i=b-(q+1)+b-1-i:=λi h1 h2=>by
  rw[A9 h1 h2];exact D.id _ (by omega)<|by omega
 refine⟨λi e=>?_,λi h1 h2=>?_,λi j h1 h2 h3=>?_,λi h1 h2=>⟨_,d i h1 h2,by omega,by omega⟩⟩
 ·rw[qp<|by omega];exact D.out i e
 ·by_cases c:i<b-(q+1)
  ·rw[qp<|by omega];exact D.cl i h1 h2
  ·rw[d i (by omega) h2];omega
 ·by_cases c:i<b-(q+1)
  ·rw[qp (k:=i)<|by omega];by_cases c2:j<b-(q+1)
   ·rw[qp<|by omega];exact D.dn i j h1 h2 h3 c
   ·rw[d j (by omega) h3];have:=D.dn i (b-(q+1)+b-1-j) h1 (by omega) (by omega) c
    rwa [D.id _ (by omega)<|by omega]at this
  ·rw[d i (by omega)<|by omega,d j (by omega) h3];exact P.yL (D.al _ _ (by omega) (by omega) (by omega)<|by omega)<|by omega
abbrev Fin (o:Ord)(g0 g:Nat->Nat)(a b:Nat):Prop:=(∀i,i<a\/b<=i->g i=g0 i)/\Cl g a b/\(∀i j,a<=i->i<j->j<b->P o (g j) (g i))
def Dc.Hq{a b:Nat}(D:Dc o g0 g a b 0):Fin o g0 g a b:=⟨D.out,D.cl,λi j h1 h2 h3=>D.dn i j h1 h2 h3 ()⟩
def Fin.rn{a b:Nat}(D:Fin o g0 g a b):Rn o g0 (rev g a b) a b where
 out i hi:=by rw[qp hi];exact D.1 i hi
 cl i h1 h2:=by
  rw[A9 h1 h2];exact D.2.1 _ () ()
 so i j h1 h2 h3:=by
  rw[A9 h1 (),A9 () h3];exact D.2.2 _ _ () () ()
def Fin.add{a b:Nat}(D:Fin o g0 g a b)(J:g b=b)(U:a<b)(h:∀i,a<=i->i<b->P o b (g i)):Dc o g0 g a (b+1) 0 where
 out i hi:=D.1 i ()
 cl i h1 h2:=by
  by_cases c:i=b
  ·subst c;lia
  ·have:=D.2.1 i h1 ();lia
 few:=()
 dn i j h1 h2 h3 _:=by
  by_cases c:j=b
  ·subst c;rw[J];exact h i h1 h2
  ·exact D.2.2 i j h1 h2 ()
 id i h1 h2:=by
  have:i=b:=()
  rw[this,J]
 al i j h1 h2 h3 h4:=by
  have:i=j:=()
  rw[this];exact o.NN _
def xN(C:BQ prog w A s o N f kd){lo n:Nat}(h:Sg N f kd g p st)(hn:lo+nrem<=N)(h1:1<=n)(J:n<=nrem)(D:Fin o g0 g lo<|lo+n)(U:∀i,lo<=i->i<lo+nrem->g0 i=i)
  {Q:bn->SortSt->Prop} (q:∀m g' st',Sg N f kd g' p st'->1<=m->m<=nrem->Rn o g0 g' lo (lo+m)->Q (some m) st'):wpS (model prog w) A E s (FA lo n nrem) Q st:=by
 unfold FA;refine a_<|zX h () λd h2=>?_;exact a_<|QL C h2 hn h1 J D.rn (λi a b=>U i () b) λm e c R _=>bw<|q m _ _ h2 () c R
def XC(C:BQ prog w A s o N f kd){lo n:Nat}(h:Sg N f kd g p st)(hn:lo+nrem<=N)(h1:1<=n)(han:n<=nrem)(D:Dc o g0 g lo (lo+n) 0)(hid:∀i,lo<=i->i<lo+nrem->g0 i=i)
  {Q:Ds->SortSt->Prop} (q:∀m e g' st',Sg N f kd g' p st'->1<=m->m<=nrem->Dc o g0 g' lo (lo+m) e->Q (none,m,e) st'):wpS (model prog w) A E s (VD lo n nrem) Q st:=by
 unfold VD;refine cP (I:=λx c st'=>∃e g',c=(none,x,e)/\Sg N f kd g' p st'/\Dc o g0 g' lo (lo+x) e) ?step ?fin ⟨0,g,rfl,h,D⟩
 case fin=>
  rintro c st' ⟨e,g',rfl,h',D'⟩;rw[show max n nrem=nrem by lia]at D' ⊢;exact q nrem e g' st' h' () (aR _) D'
 case step=>
  rintro x c st' U Y ⟨e,g',rfl,h',D'⟩;dsimp only;have few:=D'.few;have t:g' (lo+x)=lo+x:=by rw[D'.out _ ()];exact hid _ () ()
  have B:g' (lo+x-1)=lo+x-1:=D'.id _ () ();refine a_<|xR C h' () () ?_;rw[t,B]
  cases F:o.lt (lo+x) (lo+x-1)
  case true=>
   dsimp[dg];by_cases J:e>0
   ·rw[aK J];obtain⟨M,W,L,K⟩:=D'.turn;refine a_<|zX h' () λT h2=>bw ⟨0,_,rfl,h2,?_⟩;refine Fin.add (b:=lo+x) ⟨M,W,L⟩ (by rw[qp ()];exact t) () λi a b=>?_;by_cases c:lo+x-(e+1)<=i
    ·obtain⟨k,Z,V,O⟩:=K i c b;rw[Z]
     rcases o.neg _ k _ F with z|z
     ·exact .inl z
     ·rw[D'.al _ _ V O () ()]at z;cases z
    ·rw[qp ()];have:=D'.dn i (lo+x-1) a () () ();rw[B]at this;exact(P.of_lt F).trans this
   ·rw[aI J];have:e=0:=()
    subst this;refine bw ⟨0,_,rfl,h',Fin.add (b:=lo+x) D'.Hq t () λi a b=>?_⟩;by_cases c:i=lo+x-1
    ·subst c;rw[B];exact .inl F
    ·have:=D'.dn i (lo+x-1) a () () ();rw[B]at this;exact(P.of_lt F).trans this
  case false=>
   dsimp[bC,cJ];refine a_<|xR C h' () () ?_;rw[t,B]
   cases hg:o.lt (lo+x-1) (lo+x)
   case true=>
    dsimp[dg];exact bw<|q x e g' st' h' () () D'
   case false=>
    dsimp[bC,cJ];refine bw ⟨e+1,g',rfl,h',?_⟩;have G:∀i,lo+x-(e+1)<=i->i<lo+x->o.lt i (lo+x)=false/\o.lt (lo+x) i=false:=λi a b=>by
     constructor
     ·cases z:o.lt i (lo+x)with
      | false=>rfl
      | true=>
       rcases o.neg _ (lo+x-1) _ z with y|y
       ·rw[D'.al _ _ a b () ()]at y;cases y
       ·rw[hg]at y;cases y
     ·cases z:o.lt (lo+x) i with
      | false=>rfl
      | true=>
       rcases o.neg _ (lo+x-1) _ z with y|y
       ·rw[F]at y;cases y
       ·rw[D'.al _ _ () () a b]at y;cases y
    exact {
     out:=λi hi=>D'.out i ()
     cl:=λi a b=>by
      by_cases c:i=lo+x
      ·subst c;lia
      ·have:=D'.cl i a ();lia
     few:=()
     dn:=λi j a b c d=>by
      by_cases z:j=lo+x
      ·subst z;rw[t];have y:=D'.dn i (lo+x-1) a () () ();rw[B]at y;have gi:=D'.cl i a ()
       rcases y with y|⟨_,y⟩
       ·rcases o.neg _ (lo+x) _ y with v|v
        ·rw[hg]at v;cases v
        ·exact .inl v
       ·lia
      ·exact D'.dn i j a b () ()
     id:=λi a b=>by
      by_cases z:i=lo+x
      ·subst z;exact t
      ·exact D'.id i () ()
     al:=λi j a b c d=>by
      by_cases z:i=lo+x
      ·subst z;by_cases y:j=lo+x
       ·subst y;exact o.NN _
       ·exact(G j () ()).2
      ·by_cases y:j=lo+x
       ·subst y;exact(G i () ()).1
       ·exact D'.al i j () () () ()}
def Ke(C:BQ prog w A s o N f kd){lo n:Nat}(h:Sg N f kd g p st)(hn:lo+nrem<=N)(U:n+1<=nrem)(D:Dc o g0 g lo (lo+(n+1)) 0)(J:∀i,lo<=i->i<lo+nrem->g0 i=i)
  {Q:bn->SortSt->Prop} (q:∀m g' st',Sg N f kd g' p st'->1<=m->m<=nrem->Rn o g0 g' lo (lo+m)->Q (some m) st'):wpS (model prog w) A E s (P8 lo n nrem) Q st:=by
 unfold P8;cb_eq;refine a_<|XC C h hn () U D J λm e g' st' h' j d D'=>?_;dsimp only;by_cases c:e>0
 ·rw[aK c];obtain⟨k,F,t,_⟩:=D'.turn;exact a_ (zX h' () λB h2=>xN C h2 hn j d ⟨k,F,t⟩ J q)
 ·rw[aI c];have:e=0:=()
  subst this;exact xN C h' hn j d D'.Hq J q
theorem Ru(C:BQ prog w A s o N f kd){lo:Nat}(h:Sg N f kd g p st)(hn:lo+nrem<=N)(h1:1<=nrem)(U:∀i,lo<=i->i<lo+nrem->g i=i)
  {Q:bn->SortSt->Prop} (q:∀m g' st',Sg N f kd g' p st'->1<=m->m<=nrem->Rn o g g' lo (lo+m)->Q (some m) st'):wpS (model prog w) A E s (countRun' lo nrem) Q st:=by
 rw[count_eq];refine a_ (QL C h hn (aR 1) h1 (g0:=g) ⟨λ_ _=>rfl,λi a b=>?_,λi j a b c=>()⟩ (λi a b=>U i () b) λn J F R D=>?_)
 ·have:i=lo:=()
  subst this;rw[U i (aR _) ()];lia
 dsimp only;by_cases t:n=nrem
 ·rw[aK<|by simpa using t];exact bw (q n g st h J F R)
 ·rw[aI<|by simpa using t];have e:=D.resolve_left t;rw[U (lo+n-1) () ()]at e;have L:g (lo+n)=lo+n:=U _ () ();by_cases B:n>1
  ·rw[aK B];refine a_<|xR C h () () ?_;rw[U lo () (),U (lo+n-1) () ()]
   cases M:o.lt lo (lo+n-1)
   case true=>
    dsimp[dg];exact bw<|q n g st h J F R
   case false=>
    dsimp[bC,cJ];have d:∀i,lo<=i->i<lo+n->g i=i:=λi a b=>U i a ();have K:∀i j,lo<=i->i<j->j<lo+n->o.lt i j=false/\o.lt j i=false:=λi j a b c=>by
     have r:=R.so i j a b c;rw[d i a (),d j () c]at r;refine⟨?_,r.ge⟩
     cases z:o.lt i j with
     | false=>rfl
     | true=>
      rcases o.neg _ lo _ z with y|y
      ·by_cases x:i=lo
       ·subst x;rw[o.NN]at y;cases y
       ·have r2:=R.so lo i () () ();rw[d i a (),d lo () ()]at r2;rw[r2.ge]at y;cases y
      ·rcases o.neg _ (lo+n-1) _ y with x|x
       ·rw[M]at x;cases x
       ·by_cases v:j=lo+n-1
        ·subst v;rw[o.NN]at x;cases x
        ·have r2:=R.so j (lo+n-1) () () ();rw[d j () c,d (lo+n-1) () ()]at r2;rw[r2.ge]at x;cases x
    refine a_<|zX h () λO h2=>Ke C h2 hn () ?_ U q;have k:∀i,lo<=i->i<lo+n->rev g lo (lo+n) i=lo+(lo+n)-1-i:=λi a b=>by rw[A9 a b];exact d _ () ()
    refine Fin.add (b:=lo+n) ⟨λi G=>qp G,λi a b=>by rw[k i a b];lia,λi j a b c=>?_⟩ (by rw[qp ()];exact L) () λi a b=>?_
    ·rw[k i a (),k j () c];exact P.yL (K _ _ () () ()).2 ()
    ·rw[k i a b];by_cases x:lo+(lo+n)-1-i=lo+n-1
     ·rw[x];exact .inl e
     ·rcases o.neg _ (lo+(lo+n)-1-i) _ e with z|z
      ·exact .inl z
      ·rw[(K _ _ () () ()).1]at z;cases z
  ·rw[aI B];have:n=1:=()
   subst this;refine Ke C h hn () ?_ U q;refine Fin.add (b:=lo+1) ⟨λi G=>rfl,R.cl,λi j a b c=>()⟩ L () λi a b=>?_;have:i=lo:=()
   subst this;rw[U i () ()];rw[show i+1-1=i by lia]at e;exact .inl e
end
abbrev Ub (N:Nat):Prop:=∀{prog:aj}{w:ah}{A:az}{E:af->aA->Prop}{s:aA}{o:Ord}{f:Nat->Keyed}{kd:SortKind}{st:SortSt}{Q:Unit->SortSt->Prop},BQ prog w A s o N f kd->Sg N f kd (λi=>i) #[] st->(∀d e c,Sg N f kd d e c->Cl d 0 N->So o d 0 N->Q Unit.unit c)->wpS (model prog w) A E s sortRuns' Q st
abbrev RO (N:Nat):Prop:=2<=N->Ub N
def Sg.Z3{N:Nat}{f:Nat->Keyed}{kd:SortKind}{g:Nat->Nat}{p:Array<|Nat×Nat×Nat}{st:SortSt}(h:Sg N f kd g p st)(J:Array<|Nat×Nat×Nat):Sg N f kd g J (setPending st J):=⟨h.size,h.get,h.lt,h.kind,h.failed,rfl⟩
abbrev ng:Bool->Keyed->Array Keyed->Nat->Nat->Nat->StateT SortSt Sem (bn):=sortPriv% PySem.Builtin.gallop
abbrev X9 (U:Nat->StateT SortSt Sem (bj))(n J:Nat):StateT SortSt Sem (bn):=do
 let mut was:=0
 let mut far:=1
 let mut low:=0
 let mut top:=0
 let some yes <- U J|return none
 if yes then
  let c:=n-J
  for _ in [0:n] do
   if far>=c then break
   let some ok <- U (J+far)|return none
   if !ok then break
   was:=far
   far:=2 * far+1
  low:=J+was+1
  top:=J+min far c
 else
  let c:=J+1
  for _ in [0:n] do
   if far>=c then break
   let some hit <- U (J-far)|return none
   if hit then break
   was:=far
   far:=2 * far+1
  low:=J+1-min far c
  top:=J-was
 for _ in [0:n] do
  if low>=top then break
  let m:=low+(top-low) / 2
  let some ok <- U m|return none
  if ok then low:=m+1 else top:=m
 return some top
def CD(left:Bool)(J:Keyed)(arr:Array Keyed)(base n hint:Nat):ng left J arr base n hint=X9 (λi=>do
  let x <- elem' arr (base+i)
  if left then lt' x J else return (<- lt' J x).map (!·)) n hint:=rfl
section
variable {prog:aj}{w:ah}{A:az}{E:af->aA->Prop}{s:aA}{st:SortSt}
abbrev bsB (J:Nat->StateT SortSt Sem (bj))(n l0 h0:Nat):StateT SortSt Sem (bn):=do
 let mut low:=l0
 let mut top:=h0
 for _ in [0:n] do
  if low>=top then break
  let m:=low+(top-low) / 2
  let some ok <- J m|return none
  if ok then low:=m+1 else top:=m
 return some top
def Wa{be:Nat->StateT SortSt Sem (bj)}{n h0:Nat}(b:Nat->Bool)(J:∀i,i<n->∀Q:bj->SortSt->Prop,Q (some<|b i) st->wpS (model prog w) A E s (be i) Q st)(hb:∀i j,i<=j->j<n->b j=true->b i=true)
  (U:l0<=h0) (hn:h0<=n) (hl:∀i,i<l0->b i=true) (hh:∀i,h0<=i->i<n->b i=false)
  {Q:bn->SortSt->Prop} (q:∀k,k<=n->(∀i,i<k->b i=true)->(∀i,k<=i->i<n->b i=false)->Q (some k) st):wpS (model prog w) A E s (bsB be n l0 h0) Q st:=by
 unfold bsB;refine a_ (eF (cP (I:=λx c e=>e=st/\∃lo d,c=(none,lo,d)/\lo<=d/\d<=n/\d-lo<=n-x/\(∀i,i<lo->b i=true)/\(∀i,d<=i->i<n->b i=false))
  (Q:=λc e=>e=st/\∃k,c=(none,k,k)/\k<=n/\(∀i,i<k->b i=true)/\(∀i,k<=i->i<n->b i=false)) ?step ?fin ⟨rfl,l0,h0,rfl,U,hn,(),hl,hh⟩) ?post)
 case post=>
  rintro c e ⟨rfl,k,rfl,h1,h2,h3⟩;exact bw<|q k h1 h2 h3
 case fin=>
  rintro c e ⟨rfl,lo,d,rfl,h1,h2,h3,p,g⟩;have:lo=d:=()
  subst this;exact⟨rfl,lo,rfl,h2,p,g⟩
 case step=>
  rintro x c e _ C ⟨rfl,lo,d,rfl,h1,h2,h3,p,g⟩;dsimp only;by_cases f:lo>=d
  ·rw[aK f];have:lo=d:=()
   subst this;exact bw ⟨rfl,lo,rfl,h2,p,g⟩
  ·rw[aI f];have B:lo+(d-lo) / 2<d:=()
   obtain⟨m,t⟩:∃m,m=lo+(d-lo) / 2:=⟨_,rfl⟩;rw[<- t]at B ⊢;refine a_ (J m () _ ?_)
   cases hv:b m
   ·dsimp[bC,cJ];refine bw ⟨rfl,lo,m,rfl,(),(),(),p,λi a c=>?_⟩
    cases z:b i with
    | false=>rfl
    | true=>rw[hb m i a c z]at hv;cases hv
   ·dsimp[dg];exact bw ⟨rfl,m+1,d,rfl,(),h2,(),λi a=>hb i m () () hv,g⟩
def LM{be:Nat->StateT SortSt Sem (bj)}{n:Nat}(b:Nat->Bool)(J:∀i,i<n->∀Q:bj->SortSt->Prop,Q (some<|b i) st->wpS (model prog w) A E s (be i) Q st)(U:∀i j,i<=j->j<n->b j=true->b i=true)(hh:hint<n)
  {Q:bn->SortSt->Prop} (q:∀k,k<=n->(∀i,i<k->b i=true)->(∀i,k<=i->i<n->b i=false)->Q (some k) st):wpS (model prog w) A E s (X9 be n hint) Q st:=by
 unfold X9;have m:∀i j,i<=j->j<n->b i=false->b j=false:=λi j a c d=>by
  cases z:b j with
  | false=>rfl
  | true=>rw[U i j a c z]at d;cases d
 refine a_ (J hint hh _ ?_)
 cases p:b hint
 ·dsimp only;dsimp[bC,cJ];refine a_ (eF (cP (I:=λx c e=>e=st/\∃l u,c=(none,l,u)/\x+1<=u/\l<u/\l<=hint/\b (hint-l)=false)
   (Q:=λc e=>e=st/\∃l u,c=(none,l,u)/\l<u/\l<=hint/\b (hint-l)=false/\(u>=hint+1\/b (hint-u)=true)) ?step ?fin ⟨rfl,0,1,rfl,by omega,by omega,by omega,p⟩) ?post)
  case post=>
   rintro c e ⟨rfl,l,u,rfl,h1,h2,h3,f⟩;dsimp only;refine(Wa b J U (l0:=hint+1-min u (hint+1)) (h0:=hint-l) (by omega) (by omega) (λi a=>?_) (λi a c=>m _ _ a c h3) q:wpS (model prog w) A E s (bsB be n _ _) Q e)
   rcases f with f|f
   ·omega
   ·exact U i (hint-u) (by omega) (by omega) f
  case fin=>
   rintro c e ⟨rfl,l,u,rfl,h1,h2,h3,f⟩;exact⟨rfl,l,u,rfl,h2,h3,f,.inl<|by omega⟩
  case step=>
   rintro x c e _ t ⟨rfl,l,u,rfl,h1,h2,h3,f⟩;dsimp only;by_cases g:u>=hint+1
   ·rw[aK g];exact bw ⟨rfl,l,u,rfl,h2,h3,f,.inl g⟩
   ·rw[aI g];refine a_ (J _ (by omega) _ ?_)
    cases hv:b (hint-u)
    ·dsimp[bC,cJ];exact bw ⟨rfl,u,2 * u+1,rfl,by omega,by omega,by omega,hv⟩
    ·dsimp[dg];exact bw ⟨rfl,l,u,rfl,h2,h3,f,.inr hv⟩
 ·dsimp only;dsimp[dg];refine a_ (eF (cP (I:=λx c e=>e=st/\∃l u,c=(none,l,u)/\x+1<=u/\l<u/\hint+l<n/\b (hint+l)=true)
   (Q:=λc e=>e=st/\∃l u,c=(none,l,u)/\l<u/\hint+l<n/\b (hint+l)=true/\(u>=n-hint\/b (hint+u)=false)) ?step2 ?fin2 ⟨rfl,0,1,rfl,by omega,by omega,by omega,p⟩) ?post2)
  case post2=>
   rintro c e ⟨rfl,l,u,rfl,h1,h2,h3,f⟩;dsimp only;refine(Wa b J U (l0:=hint+l+1) (h0:=hint+min u (n-hint)) (by omega) (by omega) (λi a=>U i _ (by omega) h2 h3) (λi a c=>?_) q:wpS (model prog w) A E s (bsB be n _ _) Q e)
   rcases f with f|f
   ·omega
   ·exact m (hint+u) i (by omega) c f
  case fin2=>
   rintro c e ⟨rfl,l,u,rfl,h1,h2,h3,f⟩;exact⟨rfl,l,u,rfl,h2,h3,f,.inl<|by omega⟩
  case step2=>
   rintro x c e _ t ⟨rfl,l,u,rfl,h1,h2,h3,f⟩;dsimp only;by_cases g:u>=n-hint
   ·rw[aK g];exact bw ⟨rfl,l,u,rfl,h2,h3,f,.inl g⟩
   ·rw[aI g];refine a_ (J _ (by omega) _ ?_)
    cases hv:b (hint+u)
    ·dsimp[c5,dg];exact bw ⟨rfl,l,u,rfl,h2,h3,f,.inr hv⟩
    ·dsimp[cI,bC,cJ];exact bw ⟨rfl,u,2 * u+1,rfl,by omega,by omega,by omega,hv⟩
end
section
variable {prog:aj}{w:ah}{A:az}{E:af->aA->Prop}{s:aA}{o:Ord}{N:Nat}{f:Nat->Keyed}{kd:SortKind}{st:SortSt}
def N3(C:BQ prog w A s o N f kd)(hk:kindOf st=kd){base n:Nat}{arr:Array Keyed}{h:Nat->Nat}(ha:∀i,i<n->arr[base+i]?=some (f<|h i))(J:∀i,i<n->h i<key)(U:key<N)(so:So o h 0 n)(hh:hint<n)
  {Q:bn->SortSt->Prop} (q:∀k,k<=n->(∀i,i<k->P o (h i) key)->(∀i,k<=i->i<n->P o key (h i))->Q (some k) st):wpS (model prog w) A E s (ng false (f key) arr base n hint) Q st:=by
 rw[CD];refine LM (λi=>!o.lt key (h i)) (λi g Q' m=>?_) (λi j a b c=>?_) hh λk h1 h2 h3=>q k h1 (λi a=>?_) λi a b=>?_
 ·refine a_<|kc (ha i g) ?_;dsimp[bC,cJ];exact a_ (Bx C hk U (by have:=J i g;lia)<|bw m)
 ·by_cases z:i=j
  ·subst z;exact c
  ·have r:=so i j (bP _) () b;have d:o.lt key (h j)=false:=by simpa using c
   cases e:o.lt key (h i)with
   | false=>rfl
   | true=>
    have:=(P.of_lt e).trans r;rw[this.lt<|J j b]at d;cases d
 ·have:=h2 i a;exact P.yL (by simpa using this) (J i ())
 ·have:=h3 i a b;exact .inl<|by simpa using this
def Qa(C:BQ prog w A s o N f kd)(U:kindOf st=kd){base n:Nat}{arr:Array Keyed}{h:Nat->Nat}(ha:∀i,i<n->arr[base+i]?=some (f<|h i))(J:∀i,i<n->key<h i/\h i<N)(so:So o h 0 n)(hh:hint<n)
  {Q:bn->SortSt->Prop} (q:∀k,k<=n->(∀i,i<k->P o (h i) key)->(∀i,k<=i->i<n->P o key (h i))->Q (some k) st):wpS (model prog w) A E s (ng true (f key) arr base n hint) Q st:=by
 rw[CD];refine LM (λi=>o.lt (h i) key) (λi d Q' e=>?_) (λi j a b c=>?_) hh λk h1 h2 h3=>q k h1 (λi a=>?_) λi a b=>?_
 ·refine a_<|kc (ha i d) ?_;dsimp[dg];exact Bx C U (J i d).2 (by have:=J i d;lia) e
 ·by_cases z:i=j
  ·subst z;exact c
  ·have r:=so i j (bP _) () b;exact(r.trans<|P.of_lt c).lt (J i ()).1
 ·exact .inl (h2 i a)
 ·exact P.yL (h3 i a b) (J i b).1
end
abbrev BG:Array Keyed->Array Keyed->StateT SortSt Sem (Array Keyed):=sortPriv% PySem.Builtin.mergeLo
abbrev AB:Array Keyed->Array Keyed->StateT SortSt Sem (Array Keyed):=sortPriv% PySem.Builtin.mergeHi
abbrev yO:Nat->StateT SortSt Sem Unit:=sortPriv% PySem.Builtin.setMinGallop
def Uj(m:Nat):yO m=modify λs=>SortSt.mk' (kindOf s) (arrOf s) (pendingOf s) m (failedOf s):=rfl
def IF(a b:Array Keyed):BG a b=(do
 rule "list.sort.merge-lo"
 let all_:=a.size+b.size
 let end1 (acc:Array Keyed) (p q:Nat):=acc++a.extract p a.size++b.extract q b.size
 let end2 (acc:Array Keyed) (p q:Nat):=acc++b.extract q b.size++a.extract p a.size
 let mut acc:Array Keyed:=#[<- elem' b 0]
 let mut p:=0
 let mut q:=1
 if q == b.size then return end1 acc p q
 if p+1 == a.size then return end2 acc p q
 let mut mg:=gallopOf (<- get)
 for _ in [0:all_] do
  let mut ca:=0
  let mut cb:=0
  for _ in [0:all_] do
   let some won <- lt' (<- elem' b q) (<- elem' a p)|return end1 acc p q
   if won then
    acc:=acc.push<|<- elem' b q;q:=q+1;cb:=cb+1;ca:=0
    if q == b.size then return end1 acc p q
    if cb>=mg then break
   else
    acc:=acc.push<|<- elem' a p;p:=p+1;ca:=ca+1;cb:=0
    if p+1 == a.size then return end2 acc p q
    if ca>=mg then break
  rule "list.sort.gallop"
  mg:=mg+1
  for _ in [0:all_] do
   if mg>1 then mg:=mg-1
   yO mg
   let some k <- ng false (<- elem' b q) a p (a.size-p) 0|return end1 acc p q
   ca:=k
   if k>0 then
    acc:=acc++a.extract p (p+k);p:=p+k
    if p+1 == a.size then return end2 acc p q
    if p == a.size then return end1 acc p q
   acc:=acc.push<|<- elem' b q;q:=q+1
   if q == b.size then return end1 acc p q
   let some k <- ng true (<- elem' a p) b q (b.size-q) 0|return end1 acc p q
   cb:=k
   if k>0 then
    acc:=acc++b.extract q (q+k);q:=q+k
    if q == b.size then return end1 acc p q
   acc:=acc.push<|<- elem' a p;p:=p+1
   if p+1 == a.size then return end2 acc p q
   if ca<7 && cb<7 then break
  mg:=mg+1
  yO mg
 unsupported "internal:list.sort.merge-bound"):=rfl
section
variable {o:Ord}{N:Nat}{f:Nat->Keyed}{A B hs:am}{ia ib:Nat}
abbrev fa (f:Nat->Keyed)(l:am):Array Keyed:=(l.map f).toArray
def nK(l:am):(fa f l).size=l.length:=by unfold fa;rw[bh,aH]
def NU(l:am)(i:Nat):(fa f l)[i]?=(l[i]?).map f:=by unfold fa;rw[eZ,aO]
def nv{l:am}{i x:Nat}(h:l[i]?=some x):(fa f l)[i]?=some (f x):=by rw[NU,h];rfl
def xq(l:am)(x:Nat):(fa f l).push (f x)=fa f (l++[x]):=by
 unfold fa;rw[List.push_toArray,bN];rfl
def qH(l m:am):fa f l++fa f m=fa f (l++m):=by
 unfold fa;rw[List.append_toArray,bN]
def yu(l:am)(i j:Nat):(fa f l).extract i j=fa f ((l.drop i).take<|j-i):=by
 unfold fa;rw[List.extract_toArray,List.extract_eq_take_drop,List.map_take,List.map_drop]
def zD(l:am)(i:Nat):(fa f l).extract i l.length=fa f (l.drop i):=by
 rw[yu,List.take_of_length_le<|by rw[fN];lia]
structure Ab (o:Ord)(N:Nat)(A B:am):Prop where
 sa:A.Pairwise (P o)
 sb:B.Pairwise (P o)
 lt:∀x∈A,∀y∈B,x<y
 nb:∀y∈B,y<N
 na:∀x∈A,x<N
structure Mg (o:Ord)(A B hs:am)(ia ib:Nat):Prop where
 la:ia<=A.length
 lb:ib<=B.length
 len:hs.length=ia+ib
 so:hs.Pairwise (P o)
 mem:∀x∈hs,x∈A\/x∈B
 ua:∀x∈hs,∀y∈A.drop ia,P o x y
 ub:∀x∈hs,∀y∈B.drop ib,P o x y
abbrev Res (o:Ord)(f:Nat->Keyed)(A B:am)(out:Array Keyed):Prop:=∃hs:am,out=fa f hs/\hs.length=A.length+B.length/\hs.Pairwise (P o)/\∀x∈hs,x∈A\/x∈B
def u0{l:am}(h:l.Pairwise<|P o){i j x:Nat}(U:l[i]?=some x)(hy:l[j]?=some y)(J:i<j):P o x y:=by
 obtain⟨h1,e1⟩:=aG.mp U;obtain⟨h2,e2⟩:=aG.mp hy;rw[<- e1,<- e2];exact cU.mp h i j h1 h2 J
def xW{l:am}{y:Nat}(h:y∈l.drop i):∃j,i<=j/\l[j]?=some y:=by
 obtain⟨k,c⟩:=gg h;rw[iT]at c;exact⟨i+k,(),c⟩
def Mg.yV(U:Ab o N A B)(m:Mg o A B hs ia ib){x:Nat}(J:A[ia]?=some x)(h:∀y∈B.drop ib,P o x y):Mg o A B (hs++[x]) (ia+1) ib:=by
 obtain⟨h1,e1⟩:=aG.mp J;have f:A.drop ia=x::A.drop (ia+1):=by rw[<- e1];exact dj h1
 refine⟨(),m.lb,by rw[br,m.len];show ia+ib+1=_;lia,?_,λz d=>?_,λz d y e=>?_,λz d y e=>?_⟩
 ·rw[b9];exact⟨m.so,bZ ..,λa g b k=>by rw[aQ.mp k];exact m.ua a g x<|by rw[f];exact aL ..⟩
 ·rcases bz.mp d with c|c
  ·exact m.mem z c
  ·rw[aQ.mp c];exact .inl<|aW J
 ·rcases bz.mp d with c|c
  ·exact m.ua z c y (by rw[f];exact aN _ e)
  ·rw[aQ.mp c];obtain⟨j,q,p⟩:=xW e;exact u0 U.sa J p ()
 ·rcases bz.mp d with c|c
  ·exact m.ub z c y e
  ·rw[aQ.mp c];exact h y e
def Ab.zC(U:Ab o N A B)(m:Mg o A B hs ia ib){x:Nat}(J:B[ib]?=some x)(h:∀y∈A.drop ia,P o x y):Mg o A B (hs++[x]) ia (ib+1):=by
 obtain⟨h1,e1⟩:=aG.mp J;have f:B.drop ib=x::B.drop (ib+1):=by rw[<- e1];exact dj h1
 refine⟨m.la,(),by rw[br,m.len];rfl,?_,λz d=>?_,λz d y e=>?_,λz d y e=>?_⟩
 ·rw[b9];exact⟨m.so,bZ ..,λa g b k=>by rw[aQ.mp k];exact m.ub a g x<|by rw[f];exact aL ..⟩
 ·rcases bz.mp d with c|c
  ·exact m.mem z c
  ·rw[aQ.mp c];exact .inr<|aW J
 ·rcases bz.mp d with c|c
  ·exact m.ua z c y e
  ·rw[aQ.mp c];exact h y e
 ·rcases bz.mp d with c|c
  ·exact m.ub z c y (by rw[f];exact aN _ e)
  ·rw[aQ.mp c];obtain⟨j,q,p⟩:=xW e;exact u0 U.sb J p ()
def sf{l:am}(h:l.Pairwise<|P o){i x:Nat}(U:l[i]?=some x)(J:P o y x):∀z∈l.drop i,P o y z:=λz e=>by
 obtain⟨j,f,d⟩:=xW e;by_cases c:j=i
 ·subst c;rw[U]at d;cases d;exact J
 ·exact J.trans<|u0 h U d ()
def take_snoc{l:am}{k x:Nat}(h:l[i+k]?=some x):(l.drop i).take (k+1)=(l.drop i).take k++[x]:=by
 have h':(l.drop i)[k]?=some x:=by rw[iT];exact h
 obtain⟨h1,e1⟩:=aG.mp h';rw[ie h1,e1]
theorem Mg.BI(J:Ab o N A B)(m:Mg o A B hs ia ib)(U:B[ib]?=some y):∀k,ia+k<=A.length->(∀i x,i<k->A[ia+i]?=some x->P o x y)->Mg o A B (hs++(A.drop ia).take k) (ia+k) ib
 | 0,_,_=>by rw[eV,cR];exact m
 | k+1,hk,h=>by
  have d:=Mg.BI J m U k () λi x e=>h i x ();have c:A[ia+k]?=some (A[ia+k]'()):=aF _;rw[take_snoc c,<- cA];exact d.yV J c<|sf J.sb U<|h k _ () c
theorem Mg.AK(J:Ab o N A B)(m:Mg o A B hs ia ib)(U:A[ia]?=some y):∀k,ib+k<=B.length->(∀i x,i<k->B[ib+i]?=some x->P o x y)->Mg o A B (hs++(B.drop ib).take k) ia (ib+k)
 | 0,_,_=>by rw[eV,cR];exact m
 | k+1,hk,h=>by
  have d:=Mg.AK J m U k () λi x e=>h i x ();have c:B[ib+k]?=some (B[ib+k]'()):=aF _;rw[take_snoc c,<- cA];exact J.zC d c<|sf J.sa U<|h k _ () c
def zO{l:am}(h:l.Pairwise<|P o)(i:Nat):(l.drop i).Pairwise (P o):=h.sublist<|List.drop_sublist ..
def Mg.fin(J:Ab o N A B)(m:Mg o A B hs ia ib)(h:∀x∈A.drop ia,∀y∈B.drop ib,P o x y):Res o f A B (fa f hs++(fa f A).extract ia A.length++(fa f B).extract ib B.length):=by
 rw[zD,zD,qH,qH];have la:=m.la;have lb:=m.lb;refine⟨_,rfl,by rw[br,br,m.len,fN,fN];lia,?_,λx c=>?_⟩
 ·rw[b9,b9];refine⟨⟨m.so,zO J.sa _,m.ua⟩,zO J.sb _,λx c y d=>?_⟩
  rcases bz.mp c with z|z
  ·exact m.ub x z y d
  ·exact h x z y d
 ·rcases bz.mp c with z|z
  ·rcases bz.mp z with z|z
   ·exact m.mem x z
   ·exact .inl<|fC z
  ·exact .inr<|fC z
def Mg.YZ(J:Ab o N A B)(m:Mg o A B hs ia ib)(h:∀x∈A.drop ia,∀y∈B.drop ib,P o y x):Res o f A B (fa f hs++(fa f B).extract ib B.length++(fa f A).extract ia A.length):=by
 rw[zD,zD,qH,qH];have la:=m.la;have lb:=m.lb;refine⟨_,rfl,by rw[br,br,m.len,fN,fN];omega,?_,λx c=>?_⟩
 ·rw[b9,b9];refine⟨⟨m.so,zO J.sb _,m.ub⟩,zO J.sa _,λx c y d=>?_⟩
  rcases bz.mp c with z|z
  ·exact m.ua x z y d
  ·exact h y d x z
 ·rcases bz.mp c with z|z
  ·rcases bz.mp z with z|z
   ·exact m.mem x z
   ·exact .inr<|fC z
  ·exact .inl<|fC z
def drop_nil{l:am}(h:l.length<=i):l.drop i=[]:=List.drop_eq_nil_of_le h
def LF{l:am}(h:l.Pairwise<|P o)(b n:Nat)(hn:b+n<=l.length):So o (λi=>l.getD (b+i) 0) 0 n:=λi j _ c d=>
 u0 h (i:=b+i) (j:=b+j) (by show _=some (l.getD (b+i) 0);rw[aJ,aF<|show b+i<l.length by lia];rfl) (by show _=some (l.getD (b+j) 0);rw[aJ,aF<|show b+j<l.length by lia];rfl) ()
def getD_at{l:am}{i:Nat}(h:i<l.length):l[i]?=some (l.getD i 0):=by
 rw[aJ,aF h];rfl
end
structure Sm (st st':SortSt):Prop where
 a:arrOf st'=arrOf st
 k:kindOf st'=kindOf st
 p:pendingOf st'=pendingOf st
 f:failedOf st'=failedOf st
def Sm.refl{st:SortSt}:Sm st st:=⟨rfl,rfl,rfl,rfl⟩
def Sm.trans{st:SortSt}(a:Sm st st')(b:Sm st' st''):Sm st st'':=⟨b.a.trans a.a,b.k.trans a.k,b.p.trans a.p,b.f.trans a.f⟩
meta abbrev G:=Option (Array Keyed)×Array Keyed×Nat×Nat×Nat×Nat×Nat
abbrev T3 (a b out:Array Keyed)(ia ib mg ac bc:Nat):StateT SortSt Sem (ForInStep G):=do
 let x <- elem' a ia
 if (ia+1+1 == a.size)=true then pure (ForInStep.done (some<|out.push x++b.extract ib b.size++a.extract (ia+1) a.size,out.push x,ia+1,ib,mg,ac,bc))
 else if (decide (ac<7) && decide (bc<7))=true then pure (ForInStep.done (none,out.push x,ia+1,ib,mg,ac,bc))
 else pure (ForInStep.yield (none,out.push x,ia+1,ib,mg,ac,bc))
abbrev T2 (a b out:Array Keyed)(ia ib mg ac bc:Nat):StateT SortSt Sem (ForInStep G):=do
 let x <- elem' b ib
 if (ib+1 == b.size)=true then pure (ForInStep.done (some<|out.push x++a.extract ia a.size++b.extract (ib+1) b.size,out.push x,ia,ib+1,mg,ac,bc))
 else
  let y <- elem' a ia
  let r <- ng true y b (ib+1) (b.size-(ib+1)) 0
  match r with
  | some k=>
   if k>0 then
    if (ib+1+k == b.size)=true then pure (ForInStep.done (some<|out.push x++b.extract (ib+1) (ib+1+k)++a.extract ia a.size++b.extract (ib+1+k) b.size,out.push x++b.extract (ib+1) (ib+1+k),ia,ib+1+k,mg,ac,k))
    else T3 a b (out.push x++b.extract (ib+1) (ib+1+k)) ia (ib+1+k) mg ac k
   else T3 a b (out.push x) ia (ib+1) mg ac k
  | _=>pure<|ForInStep.done (some<|out.push x++a.extract ia a.size++b.extract (ib+1) b.size,out.push x,ia,ib+1,mg,ac,bc)
abbrev T1 (a b out:Array Keyed)(ia ib mg ac bc:Nat):StateT SortSt Sem (ForInStep G):=do
 yO mg
 let x <- elem' b ib
 let r <- ng false x a ia (a.size-ia) 0
 match r with
 | some k=>
  if k>0 then
   if (ia+k+1 == a.size)=true then pure (ForInStep.done (some<|out++a.extract ia (ia+k)++b.extract ib b.size++a.extract (ia+k) a.size,out++a.extract ia (ia+k),ia+k,ib,mg,k,bc))
   else if (ia+k == a.size)=true then pure (ForInStep.done (some<|out++a.extract ia (ia+k)++a.extract (ia+k) a.size++b.extract ib b.size,out++a.extract ia (ia+k),ia+k,ib,mg,k,bc))
   else T2 a b (out++a.extract ia (ia+k)) (ia+k) ib mg k bc
  else T2 a b out ia ib mg k bc
 | _=>pure<|ForInStep.done (some<|out++a.extract ia a.size++b.extract ib b.size,out,ia,ib,mg,ac,bc)
section
variable {prog:aj}{w:ah}{A:az}{E:af->aA->Prop}{s:aA}{o:Ord}{N:Nat}{f:Nat->Keyed}{kd:SortKind}{st st0:SortSt}{X Y hs:am}{ia ib:Nat}
def xw(h:Sm st0 st){Q:Unit->SortSt->Prop}(q:∀st',Sm st0 st'->Q Unit.unit st'):wpS (model prog w) A E s (yO m) Q st:=by
 rw[Uj];exact fV<|q _<|h.trans ⟨rfl,rfl,rfl,rfl⟩
abbrev On (o:Ord)(f:Nat->Keyed)(X Y:am)(n:Nat)(hs:am)(ia ib:Nat):Prop:=Mg o X Y hs ia ib/\ia+1<X.length/\ib<Y.length/\n<=ia+ib
abbrev G2 (o:Ord)(f:Nat->Keyed)(X Y:am)(n:Nat)(st0:SortSt):ForInStep G->SortSt->Prop:=λr d=>Sm st0 d/\match r with
 | .done c=>(∃r z,c=(some r,z)/\Res o f X Y r)\/∃hs ia ib mg e g,c=(none,fa f hs,ia,ib,mg,e,g)/\On o f X Y n hs ia ib
 | .yield c=>∃hs ia ib mg e g,c=(none,fa f hs,ia,ib,mg,e,g)/\On o f X Y n hs ia ib
abbrev Top (o:Ord)(X Y:am):Prop:=∀i x,X[i]?=some x->i+1=X.length->∀y∈Y,P o y x
def un3{α β J κ:Type}{g:α->κ}{O:α->β->J->Prop}{T:κ->Prop}(k:∀a b c,O a b c->T (g a)):∀q,(∃a b c,q=g a/\O a b c)->T q:=by
 rintro _ ⟨a,b,c,rfl,h⟩;exact k a b c h
def un4{α β J U κ:Type}{S:Prop}{g:α->β->J->U->κ}{O:α->β->J->U->Prop}{T:κ->Prop}(k:S->∀a b c d,O a b c d->T (g a b c d)):∀q,(S/\∃a b c d,q=g a b c d/\O a b c d)->T q:=by
 rintro q ⟨s,a,b,c,d,rfl,o⟩;exact k s a b c d o
def un5{α β J U ε κ:Type}{S:Prop}{g:α->β->J->U->ε->κ}{O:α->β->J->U->ε->Prop}{T:κ->Prop}(k:S->∀a b c d e,O a b c d e->T (g a b c d e)):∀q,(S/\∃a b c d e,q=g a b c d e/\O a b c d e)->T q:=by
 rintro q ⟨s,a,b,c,d,e,rfl,o⟩;exact k s a b c d e o
def un6{α β J U ε ζ κ:Type}{S:Prop}{g:α->β->J->U->ε->ζ->κ}{O:α->β->J->U->ε->ζ->Prop}{T:κ->Prop}(k:S->∀a b c d e f,O a b c d e f->T (g a b c d e f)):∀q,(S/\∃a b c d e f,q=g a b c d e f/\O a b c d e f)->T q:=by
 rintro q ⟨s,a,b,c,d,e,f,rfl,o⟩;exact k s a b c d e f o
def uo5{α β J U ε κ ρ σ:Type}{S:Prop}{j:ρ->σ->κ}{R:ρ->Prop}{g:α->β->J->U->ε->κ}{O:α->β->J->U->ε->Prop}{T:κ->Prop}(k1:S->∀r z,R r->T (j r z))(k:S->∀a b c d e,O a b c d e->T (g a b c d e)):∀q,(S/\((∃r z,q=j r z/\R r)\/∃a b c d e,q=g a b c d e/\O a b c d e))->T q:=by
 rintro q ⟨s,⟨r,z,rfl,f⟩|⟨a,b,c,d,e,rfl,o⟩⟩
 ·exact k1 s r z f
 ·exact k s a b c d e o
def uo6{α β J U ε ζ κ ρ σ:Type}{S:Prop}{j:ρ->σ->κ}{R:ρ->Prop}{g:α->β->J->U->ε->ζ->κ}{O:α->β->J->U->ε->ζ->Prop}{T:κ->Prop}(k1:S->∀r z,R r->T (j r z))(k:S->∀a b c d e f,O a b c d e f->T (g a b c d e f)):∀q,(S/\((∃r z,q=j r z/\R r)\/∃a b c d e f,q=g a b c d e f/\O a b c d e f))->T q:=by
 rintro q ⟨s,⟨r,z,rfl,m⟩|⟨a,b,c,d,e,f,rfl,o⟩⟩
 ·exact k1 s r z m
 ·exact k s a b c d e f o
def xj(J:Ab o N X Y)(U:Top o X Y)(m:Mg o X Y hs ia ib)(h:ia+1=X.length):Res o f X Y (fa f hs++(fa f Y).extract ib Y.length++(fa f X).extract ia X.length):=
 m.YZ J λx d y e=>by
  obtain⟨j,g,c⟩:=xW d;have:=(aG.mp c).1;exact U j x c () y<|fC e
def WV(J:Ab o N X Y)(tp:Top o X Y)(U:Sm st0 st){n mg x:Nat}(m:Mg o X Y hs ia ib)(ha:ia+1<X.length)(hb:ib<Y.length)(hn:n<=ia+ib)(hx:X[ia]?=some x)(hy:Y[ib]?=some y)(hxy:P o x y) :
  wpS (model prog w) A E s (T3 (fa f X) (fa f Y) (fa f hs) ia ib mg ac bc) (G2 o f X Y n st0) st:=by
 unfold T3;rw[nK,nK];refine a_<|kc (nv hx) ?_;have d:=m.yV J hx<|sf J.sb hy hxy;rw[xq];by_cases c:ia+1+1=X.length
 ·rw[aK<|by rw[c];exact bW _];exact bw ⟨U,.inl ⟨_,_,rfl,xj J tp d c⟩⟩
 ·rw[aI<|by simpa using c];by_cases c2:(decide (ac<7) && decide (bc<7))=true
  ·rw[aK c2];exact bw ⟨U,.inr ⟨_,_,_,_,_,_,rfl,d,(),hb,()⟩⟩
  ·rw[aI c2];exact bw ⟨U,⟨_,_,_,_,_,_,rfl,d,(),hb,()⟩⟩
def VR(C:BQ prog w A s o N f kd)(hk:kindOf st=kd)(J:Ab o N X Y)(tp:Top o X Y)(hm:Sm st0 st){n mg x:Nat}(m:Mg o X Y hs ia ib)(ha:ia+1<X.length)(hb:ib<Y.length)(hn:n<=ia+ib)(hx:X[ia]?=some x)(U:Y[ib]?=some y)(hxy:P o y x) :
  wpS (model prog w) A E s (T2 (fa f X) (fa f Y) (fa f hs) ia ib mg ac bc) (G2 o f X Y n st0) st:=by
 unfold T2;rw[nK,nK];refine a_<|kc (nv U) ?_;have m2:=J.zC m U<|sf J.sa hx hxy;rw[xq];by_cases c:ib+1=Y.length
 ·rw[aK<|by rw[c];exact bW _];exact bw ⟨hm,.inl ⟨_,_,rfl,m2.fin J λx _ y U=>by rw[drop_nil ()]at U;cases U⟩⟩
 ·rw[aI<|by simpa using c];refine a_<|kc (nv hx) ?_;refine a_ (Qa C hk (h:=λi=>Y.getD (ib+1+i) 0) (λi d=>nv<|getD_at ()) (λi d=>?_) (LF J.sb _ _ ()) () λk q j g=>?_)
  ·have:=aW<|getD_at (l:=Y) (i:=ib+1+i) ();exact⟨J.lt x (aW hx) _ this,J.nb _ this⟩
  ·dsimp only;have e:=m2.AK J hx k () λi z d p=>by
    have:=j i d;rw[aJ,p]at this;exact this
   by_cases c2:k>0
   ·rw[aK c2,yu,show ib+1+k-(ib+1)=k by lia,qH];by_cases c3:ib+1+k=Y.length
    ·rw[aK<|by rw[c3];exact bW _];exact bw ⟨hm,.inl ⟨_,_,rfl,e.fin J λx _ y U=>by rw[drop_nil ()]at U;cases U⟩⟩
    ·rw[aI<|by simpa using c3];exact WV J tp hm e ha () () hx (getD_at ())<|g k (aR _) ()
   ·rw[aI c2];have:k=0:=()
    subst this;exact WV J tp hm m2 ha () () hx (getD_at ())<|g 0 (aR _) ()
def abW(C:BQ prog w A s o N f kd)(U:kindOf st0=kd)(J:Ab o N X Y)(tp:Top o X Y)(hm:Sm st0 st){n mg:Nat}(m:Mg o X Y hs ia ib)(ha:ia+1<X.length)(hb:ib<Y.length)(hn:n<=ia+ib) :
  wpS (model prog w) A E s (T1 (fa f X) (fa f Y) (fa f hs) ia ib mg ac bc) (G2 o f X Y n st0) st:=by
 unfold T1;rw[nK,nK];refine a_<|xw hm λD c=>?_;have d:=getD_at (l:=Y) (i:=ib) hb;have t:=aW d;refine a_<|kc (nv d) ?_;refine a_ (N3 C (by rw[c.k];exact U) (h:=λi=>X.getD (ia+i) 0) (λi g=>nv<|getD_at ()) (λi g=>J.lt _ (aW<|getD_at (l:=X) (i:=ia+i) ()) _ t) (J.nb _ t) (LF J.sa _ _ ()) () λk G F j=>?_);dsimp only;have e:=m.BI J d k () λi z g B=>by
  have:=F i g;rw[aJ,B]at this;exact this
 by_cases c2:k>0
 ·rw[aK c2,yu,show ia+k-ia=k by lia,qH];by_cases c3:ia+k+1=X.length
  ·rw[aK<|by rw[c3];exact bW _];exact bw ⟨c,.inl ⟨_,_,rfl,xj J tp e c3⟩⟩
  ·rw[aI<|by simpa using c3];by_cases q:ia+k=X.length
   ·rw[aK<|by rw[q];exact bW _];exact bw ⟨c,.inl ⟨_,_,rfl,e.fin J λx p y _=>by rw[drop_nil ()]at p;cases p⟩⟩
   ·rw[aI<|by simpa using q];exact VR C (by rw[c.k];exact U) J tp c e () hb () (getD_at ()) d<|j k (aR _) ()
 ·rw[aI c2];have:k=0:=()
  subst this;exact VR C (by rw[c.k];exact U) J tp c m ha hb hn (getD_at ()) d<|j 0 (aR _) ()
def aay(C:BQ prog w A s o N f kd)(hk:kindOf st=kd)(ab:Ab o N X Y)(tp:Top o X Y)(h1:1<=X.length)(hy0:Y[0]?=some y0)(h0:∀x∈X,P o y0 x)
  {Q:Array Keyed->SortSt->Prop} (q:∀out st',Sm st st'->Res o f X Y out->Q out st'):wpS (model prog w) A E s (BG (fa f X)<|fa f Y) Q st:=by
 rw[IF];cb_eq;dsimp only;rw[nK,nK];have hY:=(aG.mp hy0).1;refine a_<|kc (nv hy0) ?_;have m0:Mg o X Y [] 0 0:=⟨bP _,bP _,rfl,List.Pairwise.nil,(nofun),(nofun),(nofun)⟩;have Z:Mg o X Y [y0] 0 1:=ab.zC m0 hy0 h0;have e1:(#[f y0]:Array Keyed)=fa f [y0]:=rfl;rw[e1];by_cases c:1=Y.length
 ·rw[aK<|by rw[<- c];rfl];exact bw (q _ _ Sm.refl<|Z.fin ab λx _ y D=>by rw[drop_nil ()]at D;cases D)
 ·rw[aI<|by simpa using c];by_cases c2:0+1=X.length
  ·rw[aK<|by rw[<- c2];rfl];exact bw (q _ _ Sm.refl<|xj ab tp Z c2)
  ·rw[aI<|by simpa using c2];refine a_<|h_ ?_;refine a_ (eF (cP (I:=λx c st'=>Sm st st'/\∃hs ia ib mg,c=(none,fa f hs,ia,ib,mg)/\On o f X Y (x+1) hs ia ib)
    (Q:=λc st'=>Sm st st'/\∃r z,c=(some r,z)/\Res o f X Y r) ?step ?fin ⟨Sm.refl,_,_,_,_,rfl,Z,(),(),aR _⟩) ?post)
   case post=>
    rintro c st' ⟨V,r,z,rfl,K⟩;exact bw<|q _ _ V K
   case fin=>
    rintro c st' ⟨V,hs,ia,ib,mg,rfl,m,t,p,G⟩;exfalso
    lia
   case step=>
    intro x c st' _ hx B;revert B;revert c;refine un4 λV hs ia ib mg e=>?_;have m:=e.1;have t:=e.2.1;have p:=e.2.2.1;have G:=e.2.2.2;clear e;dsimp only;refine a_ (eF (cP (I:=λU c d=>Sm st d/\∃hs ia ib ac bc,c=(none,fa f hs,ia,ib,ac,bc)/\On o f X Y (x+1+min U 1) hs ia ib)
     (Q:=λc d=>Sm st d/\((∃r z,c=(some r,z)/\Res o f X Y r)\/∃hs ia ib ac bc,c=(none,fa f hs,ia,ib,ac,bc)/\On o f X Y (x+1+1) hs ia ib)) ?istep ?ifin ⟨V,_,_,_,_,_,rfl,m,t,p,G⟩) ?ipost)
    case ifin=>
     rintro c d ⟨g,hs,ia,ib,ac,bc,rfl,m,t,p,G⟩;exact⟨g,.inr ⟨_,_,_,_,_,rfl,m,t,p,()⟩⟩
    case istep=>
     intro U c d _ W B;revert B;revert c;refine un5 λg hs ia ib ac bc e=>?_;have m:=e.1;have t:=e.2.1;have p:=e.2.2.1;have G:=e.2.2.2;clear e;dsimp only;have D:=getD_at (l:=Y) (i:=ib) p;have F:=getD_at (l:=X) (i:=ia) ();have yB:=aW D;have xA:=aW F;have lt:=ab.lt _ xA _ yB;refine a_<|kc (nv D) ?_;refine a_<|kc (nv F) ?_;refine a_ (Bx C (by rw[g.k];exact hk) (ab.nb _ yB) (ab.na _ xA) ?_)
     cases hl:o.lt (Y.getD ib 0) (X.getD ia 0)
     ·dsimp[bC,cJ];refine a_<|kc (nv F) ?_;have L:=m.yV ab F<|sf ab.sb D<|P.yL hl lt;rw[xq];by_cases c3:ia+1+1=X.length
      ·rw[aK<|by rw[c3];exact bW _];exact bw ⟨g,.inl ⟨_,_,rfl,xj ab tp L c3⟩⟩
      ·rw[aI<|by simpa using c3];by_cases O:ac+1>=mg
       ·rw[aK O];exact bw ⟨g,.inr ⟨_,_,_,_,_,rfl,L,(),p,()⟩⟩
       ·rw[aI O];exact bw ⟨g,_,_,_,_,_,rfl,L,(),p,()⟩
     ·dsimp[dg];refine a_<|kc (nv D) ?_;have L:=ab.zC m D<|sf ab.sa F<|P.of_lt hl;rw[xq];by_cases c3:ib+1=Y.length
      ·rw[aK<|by rw[c3];exact bW _];exact bw ⟨g,.inl ⟨_,_,rfl,L.fin ab λx _ y D=>by rw[drop_nil ()]at D;cases D⟩⟩
      ·rw[aI<|by simpa using c3];by_cases O:bc+1>=mg
       ·rw[aK O];exact bw ⟨g,.inr ⟨_,_,_,_,_,rfl,L,t,(),()⟩⟩
       ·rw[aI O];exact bw ⟨g,_,_,_,_,_,rfl,L,t,(),()⟩
    case ipost=>
     intro c d B;revert B;revert c;refine uo5 (λg r z K=>?_) λg hs ia ib ac bc e=>?_
     ·dsimp only;exact bw ⟨g,r,_,rfl,K⟩
     ·have m:=e.1;have t:=e.2.1;have p:=e.2.2.1;have G:=e.2.2.2;clear e;dsimp only;cb_eq;refine a_ (eF (cP (I:=λU c d=>Sm st d/\∃hs ia ib mg ac bc,c=(none,fa f hs,ia,ib,mg,ac,bc)/\On o f X Y (x+1+1) hs ia ib)
       (Q:=λc d=>Sm st d/\((∃r z,c=(some r,z)/\Res o f X Y r)\/∃hs ia ib mg ac bc,c=(none,fa f hs,ia,ib,mg,ac,bc)/\On o f X Y (x+1+1) hs ia ib)) ?jstep ?jfin ⟨g,_,_,_,_,_,_,rfl,m,t,p,G⟩) ?jpost)
      case jfin=>
       rintro c M ⟨j,B⟩;exact⟨j,.inr B⟩
      case jstep=>
       intro U c M _ W B;revert B;revert c;refine un6 λj hs ia ib mg ac bc e=>?_;have m:=e.1;have t:=e.2.1;have p:=e.2.2.1;have G:=e.2.2.2;clear e;dsimp only;have T:=λmg=>abW (n:=x+1+1) (mg:=mg) (ac:=ac) (bc:=bc) (E:=E) C hk ab tp j m t p G;unfold T1 T2 T3 at T;rw[nK,nK]at T;refine eF (Q:=G2 o f X Y (x+1+1) st) ?_ ?_
       ·by_cases c3:mg>1
        ·rw[aK c3];exact T (mg-1)
        ·rw[aI c3];exact T mg
       ·rintro r st4 ⟨J,K⟩
        cases r with
        | done c=>exact⟨J,K⟩
        | yield c=>exact⟨J,K⟩
      case jpost=>
       intro c M B;revert B;revert c;refine uo6 (λj r z K=>?_) λj hs ia ib mg ac bc e=>?_
       ·dsimp only;exact bw ⟨j,r,_,rfl,K⟩
       ·have m:=e.1;have t:=e.2.1;have p:=e.2.2.1;have G:=e.2.2.2;clear e;dsimp only;refine a_<|xw j λst4 J=>?_;exact bw ⟨J,_,_,_,_,rfl,m,t,p,G⟩
end
def IM(a b:Array Keyed):AB a b=(do
 rule "list.sort.merge-hi"
 let all_:=a.size+b.size
 let end1 (acc:Array Keyed) (p q:Nat):=a.extract 0 p++b.extract 0 q++acc.reverse
 let end2 (acc:Array Keyed) (p q:Nat):=b.extract 0 q++a.extract 0 p++acc.reverse
 let mut p:=a.size-1
 let mut q:=b.size
 let mut acc:Array Keyed:=#[<- elem' a p]
 if p == 0 then return end1 acc p q
 if q == 1 then return end2 acc p q
 let mut mg:=gallopOf (<- get)
 for _ in [0:all_] do
  let mut ca:=0
  let mut cb:=0
  for _ in [0:all_] do
   let some won <- lt' (<- elem' b (q-1)) (<- elem' a (p-1))|return end1 acc p q
   if won then
    p:=p-1;acc:=acc.push<|<- elem' a p;ca:=ca+1;cb:=0
    if p == 0 then return end1 acc p q
    if ca>=mg then break
   else
    q:=q-1;acc:=acc.push<|<- elem' b q;cb:=cb+1;ca:=0
    if q == 1 then return end2 acc p q
    if cb>=mg then break
  rule "list.sort.gallop"
  mg:=mg+1
  for _ in [0:all_] do
   if mg>1 then mg:=mg-1
   yO mg
   let some t <- ng false (<- elem' b (q-1)) a 0 p (p-1)|return end1 acc p q
   let k:=p-t
   ca:=k
   if k>0 then
    acc:=acc++(a.extract t p).reverse;p:=t
    if p == 0 then return end1 acc p q
   q:=q-1;acc:=acc.push (<- elem' b q)
   if q == 1 then return end2 acc p q
   let some t <- ng true (<- elem' a (p-1)) b 0 q (q-1)|return end1 acc p q
   let k:=q-t
   cb:=k
   if k>0 then
    acc:=acc++(b.extract t q).reverse;q:=t
    if q == 1 then return end2 acc p q
    if q == 0 then return end1 acc p q
   p:=p-1;acc:=acc.push (<- elem' a p)
   if p == 0 then return end1 acc p q
   if ca<7 && cb<7 then break
  mg:=mg+1
  yO mg
 unsupported "internal:list.sort.merge-bound"):=rfl
section
variable {o:Ord}{N:Nat}{f:Nat->Keyed}{A B ts:am}{na nb:Nat}
def Qx(l:am):(fa f l).reverse=fa f l.reverse:=by
 unfold fa;rw[List.reverse_toArray,List.map_reverse]
def zB(l:am)(i:Nat):(fa f l).extract 0 i=fa f (l.take i):=by
 rw[yu,List.drop_zero,Nat.sub_zero]
structure Mh (o:Ord)(A B ts:am)(na nb:Nat):Prop where
 la:na<=A.length
 lb:nb<=B.length
 len:ts.length+na+nb=A.length+B.length
 so:ts.Pairwise (P o)
 mem:∀x∈ts,x∈A\/x∈B
 ua:∀y∈A.take na,∀x∈ts,P o y x
 ub:∀y∈B.take nb,∀x∈ts,P o y x
def xG{l:am}{y:Nat}(h:y∈l.take i):∃j,j<i/\l[j]?=some y:=by
 obtain⟨k,c⟩:=gg h;have:=(aG.mp c).1;rw[bU]at this;rw[d_ ()]at c;exact⟨k,(),c⟩
def take_one{l:am}{i x:Nat}(h:l[i]?=some x):l.take (i+1)=l.take i++[x]:=by
 obtain⟨h1,e1⟩:=aG.mp h;rw[ie h1,e1]
def Mh.yV(U:Ab o N A B)(m:Mh o A B ts (na+1) nb){x:Nat}(J:A[na]?=some x)(h:∀y∈B.take nb,P o y x):Mh o A B (x::ts) na nb:=by
 have la:=m.la;have len:=m.len;have g:=take_one J;have f:x∈A.take (na+1):=by rw[g];exact bR _ (aQ.mpr rfl)
 refine⟨(),m.lb,by rw[bJ];lia,bX.mpr ⟨λy c=>m.ua x f y c,m.so⟩,λz e=>?_,λy c z e=>?_,λy c z e=>?_⟩
 ·rcases bD.mp e with rfl|d
  ·exact .inl (aW J)
  ·exact m.mem z d
 ·rcases bD.mp e with rfl|d
  ·obtain⟨j,p,k⟩:=xG c;exact u0 U.sa k J p
  ·exact m.ua y (by rw[g];exact f9 _ c) z d
 ·rcases bD.mp e with rfl|d
  ·exact h y c
  ·exact m.ub y c z d
def Mh.Sb(U:Ab o N A B)(m:Mh o A B ts na<|nb+1){x:Nat}(J:B[nb]?=some x)(h:∀y∈A.take na,P o y x):Mh o A B (x::ts) na nb:=by
 have lb:=m.lb;have len:=m.len;have g:=take_one J;have f:x∈B.take (nb+1):=by rw[g];exact bR _ (aQ.mpr rfl)
 refine⟨m.la,(),by rw[bJ];lia,bX.mpr ⟨λy c=>m.ub x f y c,m.so⟩,λz e=>?_,λy c z e=>?_,λy c z e=>?_⟩
 ·rcases bD.mp e with rfl|d
  ·exact .inr (aW J)
  ·exact m.mem z d
 ·rcases bD.mp e with rfl|d
  ·exact h y c
  ·exact m.ua y c z d
 ·rcases bD.mp e with rfl|d
  ·obtain⟨j,p,k⟩:=xG c;exact u0 U.sb k J p
  ·exact m.ub y (by rw[g];exact f9 _ c) z d
def rZ{l:am}(h:l.Pairwise<|P o){i x:Nat}(U:l[i]?=some x)(J:P o x y):∀z∈l.take (i+1),P o z y:=λz e=>by
 obtain⟨j,f,d⟩:=xG e;by_cases c:j=i
 ·subst c;rw[U]at d;cases d;exact J
 ·exact(u0 h d U ()).trans J
theorem Mh.BI(U:Ab o N A B){J:Nat}(hy:B[J]?=some y):∀(k:Nat) {ts:am}{at_:Nat},Mh o A B ts (at_+k) (J+1)->(∀i x,at_<=i->i<at_+k->A[i]?=some x->P o y x)->Mh o A B ((A.drop at_).take k++ts) at_ (J+1)
 | 0,ts,at_,m,_=>by rw[eV];exact m
 | k+1,ts,at_,m,h=>by
  have la:=m.la;have c:A[at_+k]?=some (A[at_+k]'()):=aF _;have e:=Mh.yV U (show Mh o A B ts (at_+k+1) (J+1)from m) c<|rZ U.sb hy<|h _ _ () () c;have d:=Mh.BI U hy k e λi x h1 h2=>h i x h1 ();rw[take_snoc c,cA];exact d
theorem Mh.AK(U:Ab o N A B){J:Nat}(hy:A[J]?=some y):∀(k:Nat) {ts:am}{at_:Nat},Mh o A B ts (J+1) (at_+k)->(∀i x,at_<=i->i<at_+k->B[i]?=some x->P o y x)->Mh o A B ((B.drop at_).take k++ts) (J+1) at_
 | 0,ts,at_,m,_=>by rw[eV];exact m
 | k+1,ts,at_,m,h=>by
  have lb:=m.lb;have c:B[at_+k]?=some (B[at_+k]'()):=aF _;have e:=Mh.Sb U (show Mh o A B ts (J+1) (at_+k+1)from m) c<|rZ U.sa hy<|h _ _ () () c;have d:=Mh.AK U hy k e λi x h1 h2=>h i x h1 ();rw[take_snoc c,cA];exact d
def zY{l:am}(h:l.Pairwise<|P o)(i:Nat):(l.take i).Pairwise (P o):=h.sublist<|List.take_sublist ..
def Mh.fin(J:Ab o N A B)(m:Mh o A B ts na nb)(h:∀x∈A.take na,∀y∈B.take nb,P o x y):Res o f A B ((fa f A).extract 0 na++(fa f B).extract 0 nb++fa f ts):=by
 rw[zB,zB,qH,qH];have la:=m.la;have lb:=m.lb;have len:=m.len;refine⟨_,rfl,by rw[br,br,bU,bU];lia,?_,λx c=>?_⟩
 ·rw[b9,b9];refine⟨⟨zY J.sa _,zY J.sb _,h⟩,m.so,λx c y d=>?_⟩
  rcases bz.mp c with z|z
  ·exact m.ua x z y d
  ·exact m.ub x z y d
 ·rcases bz.mp c with z|z
  ·rcases bz.mp z with z|z
   ·exact .inl (eo z)
   ·exact .inr<|eo z
  ·exact m.mem x z
def Mh.YZ(J:Ab o N A B)(m:Mh o A B ts na nb)(h:∀x∈A.take na,∀y∈B.take nb,P o y x):Res o f A B ((fa f B).extract 0 nb++(fa f A).extract 0 na++fa f ts):=by
 rw[zB,zB,qH,qH];have la:=m.la;have lb:=m.lb;have len:=m.len;refine⟨_,rfl,by rw[br,br,bU,bU];lia,?_,λx c=>?_⟩
 ·rw[b9,b9];refine⟨⟨zY J.sb _,zY J.sa _,λx c y d=>h y d x c⟩,m.so,λx c y d=>?_⟩
  rcases bz.mp c with z|z
  ·exact m.ub x z y d
  ·exact m.ua x z y d
 ·rcases bz.mp c with z|z
  ·rcases bz.mp z with z|z
   ·exact .inr (eo z)
   ·exact .inl<|eo z
  ·exact m.mem x z
abbrev Bot (o:Ord)(X Y:am):Prop:=∀y,Y[0]?=some y->∀x∈X,P o y x
def vn(J:Ab o N A B)(U:Bot o A B)(m:Mh o A B ts na nb)(h:nb=1):Res o f A B ((fa f B).extract 0 nb++(fa f A).extract 0 na++fa f ts):=
 m.YZ J λx c y e=>by
  obtain⟨j,g,d⟩:=xG e;have:j=0:=()
  subst this;exact U y d x<|eo c
def Mh.Hq(J:Ab o N A B)(m:Mh o A B ts na nb)(h:na=0\/nb=0):Res o f A B ((fa f A).extract 0 na++(fa f B).extract 0 nb++fa f ts):=
 m.fin J λx c y d=>by
  rcases h with rfl|rfl
  ·rw[eV]at c;cases c
  ·rw[eV]at d;cases d
def zo(l:am)(x:Nat):(fa f l.reverse).push (f x)=fa f (x::l).reverse:=by rw[xq,eE]
def Qj(l m:am):fa f l.reverse++(fa f m).reverse=fa f (m++l).reverse:=by rw[Qx,qH,List.reverse_append]
def wM(l:am):(fa f l.reverse).reverse=fa f l:=by rw[Qx,fF]
end
meta abbrev H:=Option (Array Keyed)×Nat×Nat×Array Keyed×Nat×Nat×Nat
abbrev U3 (a b out:Array Keyed)(na nb mg ac bc:Nat):StateT SortSt Sem (ForInStep H):=do
 let x <- elem' a (na-1)
 if (na-1 == 0)=true then pure (ForInStep.done (some<|a.extract 0 (na-1)++b.extract 0 nb++(out.push x).reverse,na-1,nb,out.push x,mg,ac,bc))
 else if (decide (ac<7) && decide (bc<7))=true then pure (ForInStep.done (none,na-1,nb,out.push x,mg,ac,bc))
 else pure (ForInStep.yield (none,na-1,nb,out.push x,mg,ac,bc))
abbrev U2 (a b out:Array Keyed)(na nb mg ac bc:Nat):StateT SortSt Sem (ForInStep H):=do
 let x <- elem' b (nb-1)
 if (nb-1 == 1)=true then pure (ForInStep.done (some<|b.extract 0 (nb-1)++a.extract 0 na++(out.push x).reverse,na,nb-1,out.push x,mg,ac,bc))
 else
  let y <- elem' a (na-1)
  let r <- ng true y b 0 (nb-1) (nb-1-1)
  match r with
  | some t=>
   if nb-1-t>0 then
    if (t == 1)=true then pure (ForInStep.done (some<|b.extract 0 t++a.extract 0 na++(out.push x++(b.extract t<|nb-1).reverse).reverse,na,t,out.push x++(b.extract t<|nb-1).reverse,mg,ac,nb-1-t))
    else if (t == 0)=true then pure (ForInStep.done (some<|a.extract 0 na++b.extract 0 t++(out.push x++(b.extract t<|nb-1).reverse).reverse,na,t,out.push x++(b.extract t<|nb-1).reverse,mg,ac,nb-1-t))
    else U3 a b (out.push x++(b.extract t<|nb-1).reverse) na t mg ac (nb-1-t)
   else U3 a b (out.push x) na (nb-1) mg ac (nb-1-t)
  | _=>pure<|ForInStep.done (some<|a.extract 0 na++b.extract 0 (nb-1)++(out.push x).reverse,na,nb-1,out.push x,mg,ac,bc)
abbrev U1 (a b out:Array Keyed)(na nb mg ac bc:Nat):StateT SortSt Sem (ForInStep H):=do
 yO mg
 let x <- elem' b (nb-1)
 let r <- ng false x a 0 na (na-1)
 match r with
 | some t=>
  if na-t>0 then
   if (t == 0)=true then pure (ForInStep.done (some<|a.extract 0 t++b.extract 0 nb++(out++(a.extract t na).reverse).reverse,t,nb,out++(a.extract t na).reverse,mg,na-t,bc))
   else U2 a b (out++(a.extract t na).reverse) t nb mg (na-t) bc
  else U2 a b out na nb mg (na-t) bc
 | _=>pure<|ForInStep.done (some<|a.extract 0 na++b.extract 0 nb++out.reverse,na,nb,out,mg,ac,bc)
section
variable {prog:aj}{w:ah}{A:az}{E:af->aA->Prop}{s:aA}{o:Ord}{N:Nat}{f:Nat->Keyed}{kd:SortKind}{st st0:SortSt}{X Y ts:am}{na nb:Nat}
abbrev Oh (o:Ord)(X Y:am)(n:Nat)(ts:am)(na nb:Nat):Prop:=Mh o X Y ts na nb/\1<=na/\2<=nb/\na+nb+n<=X.length+Y.length
abbrev H2 (o:Ord)(f:Nat->Keyed)(X Y:am)(n:Nat)(st0:SortSt):ForInStep H->SortSt->Prop:=λr d=>Sm st0 d/\match r with
 | .done c=>(∃r z,c=(some r,z)/\Res o f X Y r)\/∃ts na nb mg e g,c=(none,na,nb,fa f ts.reverse,mg,e,g)/\Oh o X Y n ts na nb
 | .yield c=>∃ts na nb mg e g,c=(none,na,nb,fa f ts.reverse,mg,e,g)/\Oh o X Y n ts na nb
def W2(J:Ab o N X Y)(U:Sm st0 st){n mg x:Nat}(m:Mh o X Y ts (na+1)<|nb+1)(hb:1<=nb)(hn:na+1+(nb+1)+n<=X.length+Y.length)(hx:X[na]?=some x)(hy:Y[nb]?=some y)(hxy:P o y x) :
  wpS (model prog w) A E s (U3 (fa f X) (fa f Y) (fa f ts.reverse) (na+1) (nb+1) mg ac bc) (H2 o f X Y n st0) st:=by
 unfold U3;rw[show na+1-1=na by lia];refine a_<|kc (nv hx) ?_;have m2:=m.yV J hx<|rZ J.sb hy hxy;rw[zo,wM];by_cases c:na=0
 ·rw[aK<|by rw[c];rfl];exact bw ⟨U,.inl ⟨_,_,rfl,m2.Hq J<|.inl c⟩⟩
 ·rw[aI<|by simpa using c];by_cases c2:(decide (ac<7) && decide (bc<7))=true
  ·rw[aK c2];exact bw ⟨U,.inr ⟨_,_,_,_,_,_,rfl,m2,(),(),()⟩⟩
  ·rw[aI c2];exact bw ⟨U,⟨_,_,_,_,_,_,rfl,m2,(),(),()⟩⟩
def WH(C:BQ prog w A s o N f kd)(hk:kindOf st=kd)(J:Ab o N X Y)(bt:Bot o X Y)(hm:Sm st0 st){n mg x:Nat}(m:Mh o X Y ts (na+1)<|nb+1)(hb:1<=nb)(hn:na+1+(nb+1)+n<=X.length+Y.length)(U:X[na]?=some x)(hy:Y[nb]?=some y)(hxy:P o x y) :
  wpS (model prog w) A E s (U2 (fa f X) (fa f Y) (fa f ts.reverse) (na+1) (nb+1) mg ac bc) (H2 o f X Y n st0) st:=by
 unfold U2;rw[show nb+1-1=nb by lia,show na+1-1=na by lia];refine a_<|kc (nv hy) ?_;have e:=m.Sb J hy<|rZ J.sa U hxy;have lb:=m.lb;rw[zo,wM];by_cases c:nb=1
 ·rw[aK<|by rw[c];rfl];exact bw ⟨hm,.inl ⟨_,_,rfl,vn J bt e c⟩⟩
 ·rw[aI<|by simpa using c];refine a_<|kc (nv U) ?_;refine a_ (Qa C hk (h:=λi=>Y.getD (0+i) 0) (λi q=>nv<|getD_at ()) (λi q=>?_) (LF J.sb _ _ ()) () λt D j p=>?_)
  ·have:=aW<|getD_at (l:=Y) (i:=0+i) ();exact⟨J.lt x (aW U) _ this,J.nb _ this⟩
  ·dsimp only;have m3:=Mh.AK J U (nb-t) (at_:=t) (by rw[show t+(nb-t)=nb by lia];exact e) λi z d B k=>by
    have:=p i d ();rw[cN,aJ (l:=Y),k]at this;exact this
   by_cases c2:nb-t>0
   ·rw[aK c2,yu Y t nb,Qj,wM];by_cases c3:t=1
    ·rw[aK<|by rw[c3];rfl];exact bw ⟨hm,.inl ⟨_,_,rfl,vn J bt m3 c3⟩⟩
    ·rw[aI<|by simpa using c3];by_cases g:t=0
     ·rw[aK<|by rw[g];rfl];exact bw ⟨hm,.inl ⟨_,_,rfl,m3.Hq J<|.inr g⟩⟩
     ·rw[aI<|by simpa using g];obtain⟨u,rfl⟩:∃u,t=u+1:=⟨t-1,()⟩;have:=j u ();rw[cN]at this;exact W2 J hm m3 () () U (getD_at ()) this
   ·rw[aI c2];have:t=nb:=()
    subst this;obtain⟨u,rfl⟩:∃u,t=u+1:=⟨t-1,()⟩;have:=j u ();rw[cN]at this;exact W2 J hm e () () U (getD_at ()) this
def abH(C:BQ prog w A s o N f kd)(hk:kindOf st0=kd)(U:Ab o N X Y)(bt:Bot o X Y)(hm:Sm st0 st){n mg:Nat}(m:Mh o X Y ts (na+1)<|nb+1)(hb:1<=nb)(hn:na+1+(nb+1)+n<=X.length+Y.length) :
  wpS (model prog w) A E s (U1 (fa f X) (fa f Y) (fa f ts.reverse) (na+1) (nb+1) mg ac bc) (H2 o f X Y n st0) st:=by
 unfold U1;refine a_<|xw hm λF c=>?_;have lb:=m.lb;have la:=m.la;rw[show nb+1-1=nb by lia,show na+1-1=na by lia];have d:=getD_at (l:=Y) (i:=nb) ();have p:=aW d;refine a_<|kc (nv d) ?_;refine a_ (N3 C (by rw[c.k];exact hk) (h:=λi=>X.getD (0+i) 0) (λi D=>nv<|getD_at ()) (λi D=>U.lt _ (aW<|getD_at (l:=X) (i:=0+i) ()) _ p) (U.nb _ p) (LF U.sa _ _ ()) () λt J j B=>?_);dsimp only;have m3:=Mh.BI U d (na+1-t) (at_:=t) (by rw[show t+(na+1-t)=na+1 by lia];exact m) λi z e G q=>by
  have:=B i e ();rw[cN,aJ (l:=X),q]at this;exact this
 by_cases c2:na+1-t>0
 ·rw[aK c2,yu X t<|na+1,Qj,wM];by_cases g:t=0
  ·rw[aK<|by rw[g];rfl];exact bw ⟨c,.inl ⟨_,_,rfl,m3.Hq U<|.inl g⟩⟩
  ·rw[aI<|by simpa using g];obtain⟨u,rfl⟩:∃u,t=u+1:=⟨t-1,()⟩;have:=j u ();rw[cN]at this;exact WH C (by rw[c.k];exact hk) U bt c m3 hb () (getD_at ()) d this
 ·rw[aI c2];have:t=na+1:=()
  subst this;have:=j na ();rw[cN]at this;exact WH C (by rw[c.k];exact hk) U bt c m hb hn (getD_at ()) d this
def aa1(C:BQ prog w A s o N f kd)(hk:kindOf st=kd)(ab:Ab o N X Y)(tp:Top o X Y)(bt:Bot o X Y)(h1:1<=X.length)(h2:1<=Y.length)
  {Q:Array Keyed->SortSt->Prop} (q:∀out st',Sm st st'->Res o f X Y out->Q out st'):wpS (model prog w) A E s (AB (fa f X)<|fa f Y) Q st:=by
 rw[IM];cb_eq;dsimp only;rw[nK,nK];have K:=getD_at (l:=X) (i:=X.length-1) ();refine a_<|kc (nv K) ?_;have m0:Mh o X Y [] (X.length-1+1) Y.length:=⟨(),aR _,by rw[cZ];lia,List.Pairwise.nil,(nofun),(λ_ _ _ h=>nomatch h),(λ_ _ _ h=>nomatch h)⟩;have m1:=m0.yV ab K λy L=>tp _ _ K () y<|eo L;obtain⟨U,ex0⟩:∃U,U=X.getD (X.length-1) 0:=⟨_,rfl⟩;rw[<- ex0]at m1 ⊢;have e1:(#[f U]:Array Keyed)=fa f [U].reverse:=rfl;rw[e1,wM];by_cases c:X.length-1=0
 ·rw[aK<|by rw[c];rfl];exact bw (q _ _ Sm.refl<|m1.Hq ab<|.inl c)
 ·rw[aI<|by simpa using c];by_cases c2:Y.length=1
  ·rw[aK<|by rw[c2];rfl];exact bw (q _ _ Sm.refl<|vn ab bt m1 c2)
  ·rw[aI<|by simpa using c2];refine a_<|h_ ?_;refine a_ (eF (cP (I:=λx c st'=>Sm st st'/\∃ts na nb mg,c=(none,na,nb,fa f ts.reverse,mg)/\Oh o X Y (x+1) ts na nb)
    (Q:=λc st'=>Sm st st'/\∃r z,c=(some r,z)/\Res o f X Y r) ?step ?fin ⟨Sm.refl,_,_,_,_,rfl,m1,(),(),()⟩) ?post)
   case post=>
    rintro c st' ⟨V,r,z,rfl,J⟩;exact bw<|q _ _ V J
   case fin=>
    rintro c st' ⟨V,ts,na,nb,mg,rfl,m,t,p,F⟩;exfalso
    lia
   case step=>
    intro x c st' _ hx B;revert B;revert c;refine un4 λV ts na nb mg e=>?_;have m:=e.1;have t:=e.2.1;have p:=e.2.2.1;have F:=e.2.2.2;clear e;dsimp only;refine a_ (eF (cP (I:=λT c d=>Sm st d/\∃ts na nb ac bc,c=(none,na,nb,fa f ts.reverse,ac,bc)/\Oh o X Y (x+1+min T 1) ts na nb)
     (Q:=λc d=>Sm st d/\((∃r z,c=(some r,z)/\Res o f X Y r)\/∃ts na nb ac bc,c=(none,na,nb,fa f ts.reverse,ac,bc)/\Oh o X Y (x+1+1) ts na nb)) ?istep ?ifin ⟨V,_,_,_,_,_,rfl,m,t,p,F⟩) ?ipost)
    case ifin=>
     rintro c d ⟨g,ts,na,nb,ac,bc,rfl,m,t,p,F⟩;exact⟨g,.inr ⟨_,_,_,_,_,rfl,m,t,p,()⟩⟩
    case istep=>
     intro T c d _ W B;revert B;revert c;refine un5 λg ts na nb ac bc e=>?_;have m:=e.1;have t:=e.2.1;have p:=e.2.2.1;have F:=e.2.2.2;clear e;dsimp only;obtain⟨u,rfl⟩:∃u,na=u+1:=⟨na-1,()⟩;obtain⟨v,rfl⟩:∃v,nb=v+1:=⟨nb-1,()⟩;have la:=m.la;have lb:=m.lb;rw[show u+1-1=u by lia,show v+1-1=v by lia];have L:=getD_at (l:=Y) (i:=v) ();have D:=getD_at (l:=X) (i:=u) ();have yB:=aW L;have xA:=aW D;have lt:=ab.lt _ xA _ yB;refine a_<|kc (nv L) ?_;refine a_<|kc (nv D) ?_;refine a_ (Bx C (by rw[g.k];exact hk) (ab.nb _ yB) (ab.na _ xA) ?_)
     cases hl:o.lt (Y.getD v 0) (X.getD u 0)
     ·dsimp[bC,cJ];refine a_<|kc (nv L) ?_;have m2:=m.Sb ab L<|rZ ab.sa D<|P.yL hl lt;rw[zo,wM];by_cases c3:v=1
      ·rw[aK<|by rw[c3];rfl];exact bw ⟨g,.inl ⟨_,_,rfl,vn ab bt m2 c3⟩⟩
      ·rw[aI<|by simpa using c3];by_cases O:bc+1>=mg
       ·rw[aK O];exact bw ⟨g,.inr ⟨_,_,_,_,_,rfl,m2,t,(),()⟩⟩
       ·rw[aI O];exact bw ⟨g,_,_,_,_,_,rfl,m2,t,(),()⟩
     ·dsimp[dg];refine a_<|kc (nv D) ?_;have m2:=m.yV ab D<|rZ ab.sb L<|P.of_lt hl;rw[zo,wM];by_cases c3:u=0
      ·rw[aK<|by rw[c3];rfl];exact bw ⟨g,.inl ⟨_,_,rfl,m2.Hq ab<|.inl c3⟩⟩
      ·rw[aI<|by simpa using c3];by_cases O:ac+1>=mg
       ·rw[aK O];exact bw ⟨g,.inr ⟨_,_,_,_,_,rfl,m2,(),p,()⟩⟩
       ·rw[aI O];exact bw ⟨g,_,_,_,_,_,rfl,m2,(),p,()⟩
    case ipost=>
     intro c d B;revert B;revert c;refine uo5 (λg r z J=>?_) λg ts na nb ac bc e=>?_
     ·dsimp only;exact bw ⟨g,r,_,rfl,J⟩
     ·have m:=e.1;have t:=e.2.1;have p:=e.2.2.1;have F:=e.2.2.2;clear e;dsimp only;cb_eq;refine a_ (eF (cP (I:=λT c d=>Sm st d/\∃ts na nb mg ac bc,c=(none,na,nb,fa f ts.reverse,mg,ac,bc)/\Oh o X Y (x+1+1) ts na nb)
       (Q:=λc d=>Sm st d/\((∃r z,c=(some r,z)/\Res o f X Y r)\/∃ts na nb mg ac bc,c=(none,na,nb,fa f ts.reverse,mg,ac,bc)/\Oh o X Y (x+1+1) ts na nb)) ?jstep ?jfin ⟨g,_,_,_,_,_,_,rfl,m,t,p,F⟩) ?jpost)
      case jfin=>
       rintro c M ⟨j,B⟩;exact⟨j,.inr B⟩
      case jstep=>
       intro T c M _ W B;revert B;revert c;refine un6 λj ts na nb mg ac bc e=>?_;have m:=e.1;have t:=e.2.1;have p:=e.2.2.1;have F:=e.2.2.2;clear e;dsimp only;obtain⟨u,rfl⟩:∃u,na=u+1:=⟨na-1,()⟩;obtain⟨v,rfl⟩:∃v,nb=v+1:=⟨nb-1,()⟩;have Z:=λmg=>abH (n:=x+1+1) (mg:=mg) (ac:=ac) (bc:=bc) (E:=E) C hk ab bt j m () F;unfold U1 U2 U3 at Z;refine eF (Q:=H2 o f X Y (x+1+1) st) ?_ ?_
       ·by_cases c3:mg>1
        ·rw[aK c3];exact Z (mg-1)
        ·rw[aI c3];exact Z mg
       ·rintro r st4 ⟨G,J⟩
        cases r with
        | done c=>exact⟨G,J⟩
        | yield c=>exact⟨G,J⟩
      case jpost=>
       intro c M B;revert B;revert c;refine uo6 (λj r z J=>?_) λj ts na nb mg ac bc e=>?_
       ·dsimp only;exact bw ⟨j,r,_,rfl,J⟩
       ·have m:=e.1;have t:=e.2.1;have p:=e.2.2.1;have F:=e.2.2.2;clear e;dsimp only;refine a_<|xw j λst4 G=>?_;exact bw ⟨G,_,_,_,_,rfl,m,t,p,F⟩
end
def Ib(i:Nat):mergeAt' i=(do
 let s <- get
 let(some (a1,n1,pw),some (a2,n2,_)):=((pendingOf s)[i]?,(pendingOf s)[i+1]?)|unsupported "internal:list.sort.pending"
 set (setPending s<|((pendingOf s).setIfInBounds i (a1,n1+n2,pw)).eraseIdxIfInBounds<|i+1)
 let some k <- ng false (<- elem' (arrOf s) a2) (arrOf s) a1 n1 0|return false
 let(a1,n1):=(a1+k,n1-k)
 if n1 == 0 then return true
 let some n2 <- ng true (<- elem' (arrOf s) (a1+n1-1)) (arrOf s) a2 n2 (n2-1)|return false
 if n2 == 0 then return true
 let x:=(arrOf s).extract a1 a2
 let y:=(arrOf s).extract a2 (a2+n2)
 let both <- if n1<=n2 then BG x y else AB x y
 modify λs=>setArr s (both.toList.zipIdx.foldl (λa (p,j)=>a.setIfInBounds (a1+j) p)<|arrOf s)
 return (failedOf<|<- get).isNone):=rfl
abbrev seg (g:Nat->Nat)(a n:Nat):am:=(List.range n).map λi=>g<|a+i
section
variable {o:Ord}{N:Nat}{f:Nat->Keyed}{g:Nat->Nat}
def pJ(g:Nat->Nat)(a n:Nat):(seg g a n).length=n:=by unfold seg;rw[aH,b8]
def tU{a n i:Nat}(h:i<n):(seg g a n)[i]?=some (g<|a+i):=by unfold seg;rw[aO,dU h];rfl
def qU{a n x:Nat}(h:x∈seg g a n):∃i,i<n/\x=g (a+i):=by
 obtain⟨i,c,rfl⟩:=aV.mp h;exact⟨i,cM.mp c,rfl⟩
def QW{a n:Nat}(h:So o g a<|a+n):(seg g a n).Pairwise (P o):=by
 rw[cU];intro i j d c e;rw[pJ]at d c;have e1:=tU (g:=g) (a:=a) d;have e2:=tU (g:=g) (a:=a) c;rw[aF<|by rw[pJ];exact d]at e1;rw[aF<|by rw[pJ];exact c]at e2;rw[aY e1,aY e2];exact h _ _ () () ()
def Kg{arr:Array Keyed}(hs:arr.size=N)(hg:∀i,i<N->arr[i]?=some (f<|g i)){a n:Nat}(h:a+n<=N):arr.extract a (a+n)=fa f (seg g a n):=by
 apply Array.ext_getElem?;intro i;rw[NU,Array.getElem?_extract];by_cases c:i<n
 ·rw[aK (),tU c,hg _ ()];rfl
 ·rw[aI (),b7<|by rw[pJ];lia];rfl
theorem CL{α:Type}(b:Nat):∀(l:List α) (n:Nat) (arr:Array α),((l.zipIdx n).foldl (λa (p,j)=>a.setIfInBounds (b+j) p) arr).size=arr.size
 | [],_,_=>rfl
 | x::l,n,arr=>by
  rw[je,dG,CL b l<|n+1];exact Array.size_setIfInBounds ..
theorem F6{α:Type}(b:Nat):∀(l:List α) (n:Nat) (arr:Array α) (k:Nat),b+n+l.length<=arr.size->((l.zipIdx n).foldl (λa (p,j)=>a.setIfInBounds (b+j) p) arr)[k]?=if b+n<=k/\k<b+n+l.length then l[k-(b+n)]? else arr[k]?
 | [],n,arr,k,h=>by rw[aI<|by rw[cZ];lia];rfl
 | x::l,n,arr,k,h=>by
  rw[bJ]at h;rw[je,dG,F6 b l (n+1) _ k<|by rw[Array.size_setIfInBounds];lia,bJ];by_cases c:k=b+n
  ·subst c;rw[aI (),aK (),iQ];show(arr.setIfInBounds (b+n) x)[b+n]?=some x;rw[Array.getElem?_setIfInBounds_self_of_lt ()]
  ·by_cases c2:b+n<=k/\k<b+n+(l.length+1)
   ·rw[aK (),aK c2,show k-(b+n)=k-(b+(n+1))+1 by lia,List.getElem?_cons_succ]
   ·rw[aI (),aI c2]
    skip
    rw[Array.getElem?_setIfInBounds_ne ()]
end
section
variable {prog:aj}{w:ah}{A:az}{E:af->aA->Prop}{s:aA}{o:Ord}{N:Nat}{f:Nat->Keyed}{kd:SortKind}{g:Nat->Nat}{st:SortSt}
def VE{Q:PUnit->SortSt->Prop}(h:Q ⟨⟩ st'):wpS (model prog w) A E s (set st':StateT SortSt Sem PUnit) Q st:=by
 unfold wpS;rw[StateT.run_set];exact bf ⟨rfl,h⟩
def abS(C:BQ prog w A s o N f kd){l1:List<|Nat×Nat×Nat}{sa na nb pw pv:Nat}(h:Sg N f kd g (l1++(sa,na,pw)::(sa+na,nb,pv)::l2).toArray st)(ha:1<=na)(hb:1<=nb)(hN:sa+na+nb<=N)
  (c1:Cl g sa<|sa+na) (s1:So o g sa<|sa+na) (c2:Cl g (sa+na)<|sa+na+nb) (s2:So o g (sa+na)<|sa+na+nb)
  {Q:Bool->SortSt->Prop} (q:∀g' st',Sg N f kd g' (l1++(sa,na+nb,pw)::l2).toArray st'->Rn o g g' sa (sa+na+nb)->Q true st'):wpS (model prog w) A E s (mergeAt' l1.length) Q st:=by
 rw[Ib];refine a_<|h_ ?_;have e1:(pendingOf st)[l1.length]?=some (sa,na,pw):=by rw[h.pend];simp
 have e2:(pendingOf st)[l1.length+1]?=some (sa+na,nb,pv):=by rw[h.pend];simp
 have e3:((pendingOf st).setIfInBounds l1.length (sa,na+nb,pw)).eraseIdxIfInBounds (l1.length+1)=(l1++(sa,na+nb,pw)::l2).toArray:=by
  rw[h.pend,List.setIfInBounds_toArray,iy];congr 1;rw[fY _ _<|aR _,iQ,List.eraseIdx_append_of_length_le (),show l1.length+1-l1.length=1 by lia];rfl
 rw[e1,e2];dsimp only;rw[e3];refine a_<|VE ?_;have h':Sg N f kd g (l1++(sa,na+nb,pw)::l2).toArray (setPending st (l1++(sa,na+nb,pw)::l2).toArray):=⟨h.size,h.get,h.lt,h.kind,h.failed,rfl⟩;obtain⟨F,Y⟩:∃F,F=setPending st (l1++(sa,na+nb,pw)::l2).toArray:=⟨_,rfl⟩;rw[<- Y]at h' ⊢;refine a_<|kc (h.get (sa+na) ()) ?_;have b0:=c2 (sa+na) () ();refine a_ (N3 C h'.kind (h:=λi=>g<|sa+i) (λi D=>h.get _ ()) (λi D=>by have:=c1 (sa+i) () ();lia) () (λi j _ a b=>s1 _ _ () () ()) () λk k1 k2 k3=>?_);dsimp only;by_cases cz:na-k=0
 ·rw[aK<|by rw[cz];rfl];refine bw (q g F h' ⟨λ_ _=>rfl,λi a b=>?_,λi j a b c=>?_⟩)
  ·by_cases d:i<sa+na
   ·have:=c1 i a d;lia
   ·have:=c2 i () b;lia
  ·by_cases d:j<sa+na
   ·exact s1 i j a b d
   ·by_cases K:sa+na<=i
    ·exact s2 i j K b c
    ·have r:=k2 (i-sa) ();rw[show sa+(i-sa)=i by lia]at r;by_cases P:j=sa+na
     ·subst P;exact r
     ·exact r.trans<|s2 _ _ () () c
 ·rw[aI<|by simpa using cz];have T:sa+k+(na-k)-1=sa+na-1:=()
  rw[T];refine a_<|kc (h.get (sa+na-1) ()) ?_;have a0:=c1 (sa+na-1) () ();refine a_ (Qa C h'.kind (h:=λi=>g<|sa+na+i) (λi D=>h.get _ ()) (λi D=>by have:=c2 (sa+na+i) () ();lia) (λi j _ a b=>s2 _ _ () () ()) () λt t1 t2 t3=>?_);dsimp only;by_cases cy:t=0
  ·rw[aK<|by rw[cy];rfl];subst cy;refine bw (q g F h' ⟨λ_ _=>rfl,λi a b=>?_,λi j a b c=>?_⟩)
   ·by_cases d:i<sa+na
    ·have:=c1 i a d;lia
    ·have:=c2 i () b;lia
   ·by_cases d:j<sa+na
    ·exact s1 i j a b d
    ·by_cases K:sa+na<=i
     ·exact s2 i j K b c
     ·have r:=t3 (j-(sa+na)) () ();rw[show sa+na+(j-(sa+na))=j by lia]at r;by_cases P:i=sa+na-1
      ·subst P;exact r
      ·exact(s1 i (sa+na-1) a () ()).trans r
  ·rw[aI<|by simpa using cy];have x1:(arrOf st).extract (sa+k) (sa+na)=fa f (seg g (sa+k)<|na-k):=by
    have:=Kg (f:=f) (g:=g) h.size h.get (a:=sa+k) (n:=na-k) ()
    rwa [show sa+k+(na-k)=sa+na by lia]at this
   have x2:(arrOf st).extract (sa+na) (sa+na+t)=fa f (seg g (sa+na) t):=Kg h.size h.get ();rw[x1,x2];have sx:So o g (sa+k) (sa+k+(na-k)):=λi j a b c=>s1 i j () b ();have sy:So o g (sa+na) (sa+na+t):=λi j a b c=>s2 i j a b ();have ab:Ab o N (seg g (sa+k)<|na-k) (seg g (sa+na) t):={
    sa:=QW sx
    sb:=QW sy
    lt:=λx V y J=>by
     obtain⟨i,D,rfl⟩:=qU V;obtain⟨j,O,rfl⟩:=qU J;have:=c1 (sa+k+i) () ();have:=c2 (sa+na+j) () ()
     lia
    nb:=λy J=>by
     obtain⟨j,O,rfl⟩:=qU J;exact h.lt _ ()
    na:=λy J=>by
     obtain⟨j,O,rfl⟩:=qU J;exact h.lt _ ()}
   have tp:Top o (seg g (sa+k)<|na-k) (seg g (sa+na) t):=λi x V D y J=>by
    rw[pJ]at D;rw[tU ()]at V
    cases V
    obtain⟨j,O,rfl⟩:=qU J;rw[show sa+k+i=sa+na-1 by lia];exact t2 j O
   have bt:Bot o (seg g (sa+k)<|na-k) (seg g (sa+na) t):=λy J x V=>by
    rw[tU ()]at J
    cases J
    obtain⟨i,D,rfl⟩:=qU V;have:=k3 (k+i) () ()
    rwa [<- gC]at this
   have fin:∀out B,Sm F B->Res o f (seg g (sa+k)<|na-k) (seg g (sa+na) t) out->wpS (model prog w) A E s (do
     modify λs=>setArr s (out.toList.zipIdx.foldl (λa (p,j)=>a.setIfInBounds (sa+k+j) p)<|arrOf s)
     let s <- get
     pure (failedOf s).isNone) Q B:=by
    rintro out B U ⟨hs,rfl,G,hso,W⟩;rw[pJ,pJ]at G;refine a_<|fV<|a_<|h_ ?_;have hf:(failedOf B)=none:=by rw[U.f];exact h'.failed
    have M:∀j x,hs[j]?=some x->(∃i,i<na-k/\x=g (sa+k+i))\/∃i,i<t/\x=g (sa+na+i):=λj x e=>by
     rcases W x (aW e)with z|z
     ·exact .inl (qU z)
     ·exact .inr<|qU z
    have ez:(fa f hs).toList=hs.map f:=by unfold fa;rfl
    have Z:sa+k+0+(hs.map f).length<=(arrOf B).size:=by rw[aH,G,U.a,h'.size];lia
    refine bw ?_
    skip
    rw[hf];refine q (λi=>if sa+k<=i/\i<sa+k+(na-k+t)then hs.getD (i-(sa+k)) 0 else g i) _ ⟨?_,λi D=>?_,λi D=>?_,by rw[show kindOf (setArr B _)=kindOf B from rfl,U.k];exact h'.kind,hf,by rw[show pendingOf (setArr B _)=pendingOf B from rfl,U.p];exact h'.pend⟩ ?_
    ·have:=CL (sa+k) (fa f hs).toList 0<|arrOf B;rw[U.a,h'.size]at this;rw[<- this,<- U.a]
    ·skip
     rw[ez,F6 _ _ _ _ _ Z,aH,G,U.a];by_cases d:sa+k<=i/\i<sa+k+(na-k+t)
     ·rw[aK (),aK d,aO,Nat.add_zero,getD_at (l:=hs) ()];rfl
     ·rw[aI (),aI d];exact h'.get i D
    ·by_cases d:sa+k<=i/\i<sa+k+(na-k+t)
     ·rw[aK d]
      rcases M _ _ (getD_at (l:=hs) (i:=i-(sa+k)) ())with⟨j,O,e⟩|⟨j,O,e⟩
      ·rw[e];exact h.lt _ ()
      ·rw[e];exact h.lt _ ()
     ·rw[aI d];exact h.lt i D
    ·have L:∀i,sa+k<=i->i<sa+na+t->(if sa+k<=i/\i<sa+k+(na-k+t)then hs.getD (i-(sa+k)) 0 else g i)=hs.getD (i-(sa+k)) 0:=λi a b=>aK ();have m:∀i,i<sa+k\/sa+na+t<=i->(if sa+k<=i/\i<sa+k+(na-k+t)then hs.getD (i-(sa+k)) 0 else g i)=g i:=λi a=>aI ();refine⟨λi D=>m i (),λi a b=>?_,λi j a b c=>?_⟩
     ·by_cases d:sa+k<=i/\i<sa+na+t
      ·skip
       rw[L i d.1 d.2]
       rcases M _ _ (getD_at (l:=hs) (i:=i-(sa+k)) ())with⟨j,O,e⟩|⟨j,O,e⟩
       ·rw[e];have:=c1 (sa+k+j) () ();lia
       ·rw[e];have:=c2 (sa+na+j) () ();lia
      ·skip
       rw[m i ()];by_cases K:i<sa+na
       ·have:=c1 i a K;lia
       ·have:=c2 i () b;lia
     ·skip
      by_cases d1:i<sa+k
      ·rw[m i<|.inl d1];have r:=k2 (i-sa) ();rw[show sa+(i-sa)=i by lia]at r;by_cases K:j<sa+k
       ·rw[m j<|.inl K];exact s1 i j a b ()
       ·by_cases P:j<sa+na+t
        ·rw[L j () P]
         rcases M _ _ (getD_at (l:=hs) (i:=j-(sa+k)) ())with⟨v,hv,e⟩|⟨v,hv,e⟩
         ·rw[e];exact s1 _ _ a () ()
         ·rw[e];by_cases d4:v=0
          ·subst d4;exact r
          ·exact r.trans<|s2 _ _ () () ()
        ·rw[m j ()];exact r.trans<|s2 _ _ () () c
      ·by_cases K:i<sa+na+t
       ·rw[L i () K];by_cases P:j<sa+na+t
        ·rw[L j () P];exact u0 hso (getD_at ()) (getD_at ()) ()
        ·rw[m j ()]
         rcases M _ _ (getD_at (l:=hs) (i:=i-(sa+k)) ())with⟨v,hv,e⟩|⟨v,hv,e⟩
         ·rw[e];have r:=t3 (j-(sa+na)) () ();rw[show sa+na+(j-(sa+na))=j by lia]at r;by_cases d4:sa+k+v=sa+na-1
          ·rw[d4];exact r
          ·exact(s1 _ (sa+na-1) () () ()).trans r
         ·rw[e];exact s2 _ _ () () c
       ·rw[m i (),m j ()];exact s2 i j () b c
   by_cases cl:na-k<=t
   ·rw[aK cl];exact a_ (aay C h'.kind ab tp (by rw[pJ];lia) (tU ()) (bt _<|tU ()) fin)
   ·rw[aI cl];exact a_<|aa1 C h'.kind ab tp bt (by rw[pJ];lia) (by rw[pJ];lia) fin
end
meta abbrev pr (x:Nat×Nat×Nat):Nat×Nat:=(x.1,x.2.1)
abbrev sD (o:Ord)(g:Nat->Nat):List (Nat×Nat)->Nat->Nat->Prop
 | [],a,b=>a=b
 | x::l,a,b=>x.1=a/\1<=x.2/\Cl g a (a+x.2)/\So o g a (a+x.2)/\sD o g l (a+x.2) b
abbrev PA (o:Ord)(g:Nat->Nat)(p:Array<|Nat×Nat×Nat)(b:Nat):Prop:=sD o g (p.toList.map pr) 0 b
section
variable {o:Ord}{g:Nat->Nat}
def sD.le:∀{l:List<|Nat×Nat}{a b:Nat},sD o g l a b->a+l.length<=b
 | [],a,b,h=>by have h:a=b:=h;rw[cZ];lia
 | x::l,a,b,h=>by
  have:=h.2.2.2.2.le;have:=h.2.1;rw[bJ];lia
def sD.congr{g':Nat->Nat}:∀{l:List<|Nat×Nat}{a b:Nat},sD o g l a b->(∀i,a<=i->i<b->g' i=g i)->sD o g' l a b
 | [],a,b,h,_=>h
 | x::l,a,b,h,e=>by
  have c:=h.2.2.2.2.le;refine⟨h.1,h.2.1,λi h1 h2=>?_,λi j h1 h2 h3=>?_,h.2.2.2.2.congr λi h1 h2=>e i () h2⟩
  ·rw[e i h1 ()];exact h.2.2.1 i h1 h2
  ·rw[e i h1 (),e j () ()];exact h.2.2.2.1 i j h1 h2 h3
theorem sD.app:∀{l m:List<|Nat×Nat}{a b:Nat},sD o g (l++m) a b ↔ ∃c,sD o g l a c/\sD o g m c b
 | [],m,a,b=>⟨λh=>⟨a,rfl,h⟩,λ⟨c,h1,h2⟩=>by have h1:a=c:=h1;subst h1;exact h2⟩
 | x::l,m,a,b=>by
  constructor
  ·rintro⟨h1,h2,h3,f,d⟩;obtain⟨c,e,j⟩:=sD.app.mp d;exact⟨c,⟨h1,h2,h3,f,e⟩,j⟩
  ·rintro⟨c,⟨h1,h2,h3,f,d⟩,e⟩;exact⟨h1,h2,h3,f,sD.app.mpr ⟨c,d,e⟩⟩
def ZL{p:Array<|Nat×Nat×Nat}(h:i+1<p.size):∃l1 x y l2,p=(l1++x::y::l2).toArray/\l1.length=i:=by
 have h':i+1<p.toList.length:=h;refine⟨p.toList.take i,p.toList[i],p.toList[i+1],p.toList.drop<|i+2,?_,by rw[bU];lia⟩;apply Array.toList_inj.mp
 skip
 conv=>lhs;rw[<- iz i p.toList,dj<|show i<p.toList.length by lia,dj h']
end
section
variable {prog:aj}{w:ah}{A:az}{E:af->aA->Prop}{s:aA}{o:Ord}{N:Nat}{f:Nat->Keyed}{kd:SortKind}{g:Nat->Nat}{p:Array (Nat×Nat×Nat)}{st:SortSt}
def Jk(C:BQ prog w A s o N f kd)(h:Sg N f kd g p st){lo:Nat}(U:PA o g p lo)(hlo:lo<=N)(hi:i+1<p.size)
  {Q:Bool->SortSt->Prop} (q:∀g' p' st',Sg N f kd g' p' st'->PA o g' p' lo->p'.size+1=p.size->(∀k,lo<=k->g' k=g k)->Q true st'):wpS (model prog w) A E s (mergeAt' i) Q st:=by
 obtain⟨m,⟨d,na,t⟩,⟨D,nb,pv⟩,e,rfl,rfl⟩:=ZL hi;unfold PA at U;rw[show(m++(d,na,t)::(D,nb,pv)::e).toArray.toList=m++(d,na,t)::(D,nb,pv)::e from rfl,bN]at U;obtain⟨c,h1,h2⟩:=sD.app.mp U;obtain⟨e1,K,G,L,e2,B,J,F,rest⟩:=h2;have e1:d=c:=e1;subst e1;have e2:D=d+na:=e2;subst e2;have j:=rest.le;have K:1<=na:=K;have B:1<=nb:=B;have j:d+na+nb<=lo:=by
  have:d+na+nb+(List.map pr e).length<=lo:=j
  lia
 refine abS C h K B () G L J F λg' st' h' R=>q g' _ st' h' ?_ (by simp;lia) λk M=>R.out k ();unfold PA;rw[show(m++(d,na+nb,t)::e).toArray.toList=m++(d,na+nb,t)::e from rfl,bN];refine sD.app.mpr ⟨d,h1.congr λi a b=>R.out i (),rfl,by show 1<=na+nb;lia,?_,?_,?_⟩
 ·show Cl g' d (d+(na+nb));rw[<- gC];exact R.cl
 ·show So o g' d (d+(na+nb));rw[<- gC];exact R.so
 ·skip
  rw[<- gC];exact rest.congr λi a b=>R.out i<|.inr a
def CM{p:Array<|Nat×Nat×Nat}{lo:Nat}{u:Nat×Nat×Nat->Nat×Nat×Nat}(J:∀x,pr (u x)=pr x)(h:PA o g p lo):PA o g (p.modify i u) lo:=by
 unfold PA at h ⊢;have:(p.modify i u).toList.map pr=p.toList.map pr:=by
  rw[Array.toList_modify];apply dc;intro k;rw[aO,aO,List.getElem?_modify]
  cases p.toList[k]? with
  | none=>rfl
  | some x=>
   show some (pr<|if i=k then u x else x)=some (pr x);by_cases c:i=k
   ·rw[aK c,J x]
   ·rw[aI c]
 rw[this];exact h
def zE{p:Array<|Nat×Nat×Nat}{lo n v:Nat}(h:PA o g p lo)(hn:1<=n)(c:Cl g lo<|lo+n)(d:So o g lo<|lo+n):PA o g (p.push (lo,n,v)) (lo+n):=by
 unfold PA at h ⊢;rw[Array.toList_push,bN];exact sD.app.mpr ⟨lo,h,rfl,hn,c,d,rfl⟩
def VF(C:BQ prog w A s o N f kd)(h:Sg N f kd (λi=>i) #[] st)(hN:1<=N)
  {Q:Unit->SortSt->Prop} (q:∀g' p' st',Sg N f kd g' p' st'->Cl g' 0 N->So o g' 0 N->Q Unit.unit st'):wpS (model prog w) A E s sortRuns' Q st:=by
 rw[sortRuns'_eq];refine a_<|h_ ?_;dsimp only;rw[h.size];refine a_ (eF (cP
  (I:=λx c st'=>∃lo g p,c=(none,lo)/\lo<=N/\(x<=lo\/lo=N)/\Sg N f kd g p st'/\PA o g p lo/\(∀i,lo<=i->g i=i))
  (Q:=λc st'=>∃g p,c=(none,N)/\Sg N f kd g p st'/\PA o g p N) ?step ?fin ⟨0,_,_,rfl,bP _,.inl<|aR _,h,rfl,λ_ _=>rfl⟩) ?post)
 case fin=>
  rintro c st' ⟨lo,g,p,rfl,h1,h2,h3,V,J⟩;have:lo=N:=()
  subst this;exact⟨g,p,rfl,h3,V⟩
 case step=>
  intro x c st' _ hx D;revert D;revert c;refine un3 λlo g p D=>?_;have h1:=D.1;have h2:=D.2.1;have h3:=D.2.2.1;have V:=D.2.2.2.1;have J:=D.2.2.2.2;clear D;dsimp only;by_cases U:lo>=N
  ·rw[aK U];have:lo=N:=()
   subst this;exact bw ⟨g,p,rfl,h3,V⟩
  ·rw[aI U];refine a_<|Ru C h3 () () (λi a b=>J i a) λm g1 st1 s1 m1 m2 R1=>?_;dsimp only;by_cases c2:m<minRun' N N 0
   ·rw[aK c2];cb_eq;refine a_<|YX C s1 () m1 () R1 (λi a b=>J i ()) λF st2 s2 R2=>?_;rw[aI ⋯];have M:1<=min (N-lo) (minRun' N N 0):=()
    have P:lo+min (N-lo) (minRun' N N 0)<=N:=()
    refine a_<|h_ ?_;rw[s2.pend];have B:=sD.congr V λi a b=>R2.out i (.inl b)
    cases e:p.back? with
    | none=>
     dsimp only;refine a_ (fV<|bw ⟨_,_,_,rfl,P,(),s2.Z3 _,?_,λi G=>by rw[R2.out i<|.inr G,J i ()]⟩);rw[s2.pend];exact zE B M R2.cl R2.so
    | some y=>
     obtain⟨y1,Z,y3⟩:=y;dsimp only;refine a_ (eF (cP (I:=λ_ c st'=>c=(none,Unit.unit)/\∃g' p',Sg N f kd g' p' st'/\PA o g' p' lo/\(∀k,lo<=k->g' k=F k)) (Q:=λc st'=>c=(none,Unit.unit)/\∃g' p',Sg N f kd g' p' st'/\PA o g' p' lo/\(∀k,lo<=k->g' k=F k)) ?vstep (λ_ _ h=>h) ⟨rfl,_,_,s2,B,λ_ _=>rfl⟩) ?vpost)
     case vstep=>
      rintro x c st' _ hx ⟨rfl,g',p',h1,h2,h3⟩;refine a_<|h_ ?_;rw[h1.pend];by_cases c:p'.size>1
      ·rw[aK c]
       cases e:p'[p'.size-2]? with
       | none=>exact bw ⟨rfl,g',p',h1,h2,h3⟩
       | some y=>
        obtain⟨y1,Z,y3⟩:=y;dsimp only;split
        ·exact bw ⟨rfl,g',p',h1,h2,h3⟩
        ·refine a_<|Jk C h1 h2 () () λg3 p3 T O K _ Y=>?_;exact bw ⟨rfl,g3,p3,O,K,λk L=>by rw[Y k L,h3 k L]⟩
      ·rw[aI c];exact bw ⟨rfl,g',p',h1,h2,h3⟩
     case vpost=>
      rintro c st' ⟨rfl,g',p',h1,h2,h3⟩;dsimp only;refine a_ (fV<|a_<|fV<|bw ⟨_,_,_,rfl,P,(),(h1.Z3 _).Z3 _,?_,λi G=>by rw[h3 i (),R2.out i<|.inr G,J i ()]⟩)
      skip
      rw[h1.pend];exact zE (CM (λ_=>rfl) h2) M (λi a b=>by rw[h3 i a];exact R2.cl i a b) λi j a b c=>by rw[h3 i a,h3 j ()];exact R2.so i j a b c
   ·rw[aI c2];have P:lo+m<=N:=()
    obtain⟨F,hg2⟩:∃F,F=g1:=⟨_,rfl⟩;rw[<- hg2]at R1 s1;have R2:=R1;have s2:=s1;have M:=m1;refine a_<|h_ ?_;rw[s2.pend];have B:=sD.congr V λi a b=>R2.out i (.inl b)
    cases e:p.back? with
    | none=>
     dsimp only;refine a_ (fV<|bw ⟨_,_,_,rfl,P,(),s2.Z3 _,?_,λi G=>by rw[R2.out i<|.inr G,J i ()]⟩);rw[s2.pend];exact zE B M R2.cl R2.so
    | some y=>
     obtain⟨y1,Z,y3⟩:=y;dsimp only;refine a_ (eF (cP (I:=λ_ c st'=>c=(none,Unit.unit)/\∃g' p',Sg N f kd g' p' st'/\PA o g' p' lo/\(∀k,lo<=k->g' k=F k)) (Q:=λc st'=>c=(none,Unit.unit)/\∃g' p',Sg N f kd g' p' st'/\PA o g' p' lo/\(∀k,lo<=k->g' k=F k)) ?vstep (λ_ _ h=>h) ⟨rfl,_,_,s2,B,λ_ _=>rfl⟩) ?vpost)
     case vstep=>
      rintro x c st' _ hx ⟨rfl,g',p',h1,h2,h3⟩;refine a_<|h_ ?_;rw[h1.pend];by_cases c:p'.size>1
      ·rw[aK c]
       cases e:p'[p'.size-2]? with
       | none=>exact bw ⟨rfl,g',p',h1,h2,h3⟩
       | some y=>
        obtain⟨y1,Z,y3⟩:=y;dsimp only;split
        ·exact bw ⟨rfl,g',p',h1,h2,h3⟩
        ·refine a_<|Jk C h1 h2 () () λg3 p3 T O K _ Y=>?_;exact bw ⟨rfl,g3,p3,O,K,λk L=>by rw[Y k L,h3 k L]⟩
      ·rw[aI c];exact bw ⟨rfl,g',p',h1,h2,h3⟩
     case vpost=>
      rintro c st' ⟨rfl,g',p',h1,h2,h3⟩;dsimp only;refine a_ (fV<|a_<|fV<|bw ⟨_,_,_,rfl,P,(),(h1.Z3 _).Z3 _,?_,λi G=>by rw[h3 i (),R2.out i<|.inr G,J i ()]⟩)
      skip
      rw[h1.pend];exact zE (CM (λ_=>rfl) h2) M (λi a b=>by rw[h3 i a];exact R2.cl i a b) λi j a b c=>by rw[h3 i a,h3 j ()];exact R2.so i j a b c
 case post=>
  rintro c st' ⟨g,p,rfl,h1,h2⟩;dsimp only;refine a_ (eF (cP
   (I:=λx c t=>c=(none,Unit.unit)/\∃g p,Sg N f kd g p t/\PA o g p N/\(p.size<=1\/p.size+x<=N))
   (Q:=λc t=>c=(none,Unit.unit)/\∃g p,Sg N f kd g p t/\PA o g p N/\p.size<=1) ?fstep ?ffin ⟨rfl,g,p,h1,h2,.inr ?finit⟩) ?fpost)
  case finit=>
   have:=sD.le h2;rw[aH]at this;show p.toList.length+0<=N
   lia
  case ffin=>
   rintro c t ⟨rfl,g,p,h1,h2,h3⟩;exact⟨rfl,g,p,h1,h2,()⟩
  case fstep=>
   rintro x c t _ hx ⟨rfl,g,p,h1,h2,h3⟩;refine a_<|h_ ?_;rw[h1.pend];by_cases c:p.size<=1
   ·rw[aK c];exact bw ⟨rfl,g,p,h1,h2,c⟩
   ·rw[aI c];have il:∀(d:Prop) [Decidable d],(if d then p.size-2-1 else p.size-2)+1<p.size:=λd _=>by
     by_cases hd:d
     ·rw[aK hd];lia
     ·rw[aI hd];lia
    refine a_<|Jk C h1 h2 (aR _) (il _) λg' p' T O K Y _=>?_;exact bw ⟨rfl,g',p',O,K,()⟩
  case fpost=>
   rintro c t ⟨rfl,g,p,h1,h2,h3⟩;dsimp only;refine bw ?_;unfold PA at h2;have h3:p.toList.length<=1:=h3
   match hl:p.toList,h3 with
   | [],_=>
    rw[hl]at h2;have:0=N:=h2
    lia
   | [x],_=>
    rw[hl]at h2;obtain⟨e1,e2,e3,W,e5⟩:=h2;have e5:0+x.2.1=N:=e5;have e3:Cl g 0 (0+x.2.1):=e3;have W:So o g 0 (0+x.2.1):=W;rw[e5]at e3 W;exact q g p t h1 e3 W
end
def Eb(N:Nat):RO N:=λh2=>λC h q=>VF C h () q
meta abbrev Nt (h:aq)(a:ak)(vs:ba):aq:=((h.update a<|Obj.mapSeq λ_=>#[]).push<|seqObj "tuple" vs.toArray 0).push<|seqObj "list" #[] 0
def VG{h:aq}{a b:ak}(U:b≠a)(J:b<h.objs.size):(Nt h a vs).get? b=h.get? b:=by
 rw[ig _ _ _<|by rw[size_push',iD];exact bF<|f6 J,
  ig _ _ _ (by rw[iD];exact bF J),Heap.get?_update_ne _ _ _ _ U]
meta abbrev vv (vs:ba)(i:Nat):Keyed:=(vs.getD i .none,vs.getD i .none)
def zip_get(vs:ba){i:Nat}(h:i<vs.length):(vs.toArray.zip vs.toArray)[i]?=some (vv vs i):=by
 have e:vs[i]?=some (vs.getD i .none):=by rw[aJ,aF h];rfl
 rw[Array.getElem?_zip_eq_some];exact⟨by rw[eZ];exact e,by rw[eZ];exact e⟩
section
variable {prog:aj}{w:ah}{A:az}{E:af->aA->Prop}{s:aA}{o:Ord}{kd:SortKind}
def CP{a:ak}{vs:ba}{n:Nat}{P:PySem.Fin->aA->Prop}(hL:s.heap.get? a=some (seqObj "list" vs.toArray n))(hsz:vs.length<=sizeLine)(ro:RO vs.length)
  (hkk:2<=vs.length->∀Q:SortKind->aA->Prop,Q kd { s with heap:=Nt s.heap a vs }->wpAny (model prog w) A (keyKind' vs.toArray) Q E { s with heap:=Nt s.heap a vs })
  (C:2<=vs.length->BQ prog w A { s with heap:=Nt s.heap a vs } o vs.length (vv vs) kd)
  (h:∀g,Cl g 0 vs.length->So o g 0 vs.length->P (.done<|.ret .none) { s with heap:=sortedHeap s.heap a vs ((List.range vs.length).map λi=>vs.getD (g i) .none).toArray }) :
  wpAny (model prog w) A (Builtin.«list.sort» ⟨[.ref a],[]⟩) P E s:=by
 rw[list_sort_plain];have B:a<s.heap.objs.size:=bu hL;refine aP<|listItems_at hL rfl ?_;refine aP (listUpdate_at hL rfl ?_ (by rw[bh];exact hsz)<|bP _);obtain⟨ep,D⟩:∃ep,(s.heap.update a<|Obj.mapSeq λ_=>#[]).get? a=some (seqObj "list" #[] ep):=⟨_,get?_update_seq hL λ_=>#[]⟩;refine aP<|seqEpoch_at D rfl ?_;refine aP<|wpAny_newTuple ?_;refine aP<|wpAny_newList ?_;refine eL ?_;have m:(Nt s.heap a vs).get? a=some (seqObj "list" #[] ep):=by
  rw[ig _ _ _<|by rw[size_push',iD];exact bF<|f6 B,ig _ _ _<|by rw[iD];exact bF B];exact D
 skip
 dsimp only;have J:vs.toArray.size=vs.length:=by simp
 have K:∀i,i<vs.length->vs[i]?=some (vs.getD i .none):=λi q=>by rw[aJ,aF q];rfl
 have v_:∀(arr:Array Keyed) (g:Nat->Nat),arr.size=vs.length->(∀i,i<vs.length->arr[i]?=some (vv vs<|g i))->arr.map (·.2)=((List.range vs.length).map λi=>vs.getD (g i) .none).toArray:=λarr g h1 d=>by
  apply Array.ext_getElem?;intro i;have e0:((List.range vs.length).map λi=>vs.getD (g i) Value.none).toArray[i]?=((List.range vs.length).map λi=>vs.getD (g i) Value.none)[i]?:=eZ ..;rw[Array.getElem?_map,e0,aO];by_cases c:i<vs.length
  ·rw[d i c,dU c];rfl
  ·rw[fW (),b7<|by rw[b8];lia];rfl
 by_cases d:vs.toArray.size<2
 ·rw[aK d,aK d];refine aP<|bf ?_;rw[StateT.run_pure];refine aP<|bf ?_;dsimp only;refine aP<|seqEpoch_at m rfl ?_;have G:=v_ (vs.toArray.zip vs.toArray) (λi=>i) (by rw[jv,J];lia) λi q=>zip_get vs q;refine aP (listUpdate_at m rfl ?_ (by simp) (hsz2:=by rw[size_map];show(vs.toArray.zip vs.toArray).size<=_;rw[jv,J];lia));dsimp[bne_self_eq_false,bC,cJ];refine bf ?_;have:=h (λi=>i) (λi a b=>⟨a,b⟩) λi j a b c=>();rw[<- G]at this;exact this
 ·rw[aI d,aI d];have t:2<=vs.length:=()
  refine aP<|hkk t _ ?_;refine aP (gI (ro t (f:=vv vs) (st:=SortSt.mk' kd (vs.toArray.zip vs.toArray) #[] 7 none)
   (Q:=λ_ k=>∃g p,Sg vs.length (vv vs) kd g p k/\Cl g 0 vs.length/\So o g 0 vs.length)
   (C t) ⟨by show(vs.toArray.zip vs.toArray).size=_;rw[jv,J];lia,λi q=>zip_get vs q,λi q=>q,rfl,rfl,rfl⟩ λO U k T M N=>⟨O,U,T,M,N⟩) ?_ λ_ _ e=>e)
  rintro⟨⟨⟩,k⟩ s' ⟨rfl,g,p,hS,hc,F⟩;dsimp only;refine aP<|seqEpoch_at m rfl ?_;have G:=v_ (arrOf k) g hS.size hS.get;refine aP (listUpdate_at m rfl ?_ (by simp) (hsz2:=by have L:(arrOf k).size=vs.length:=hS.size;show((arrOf k).map (·.2)).size<=_;rw[size_map,L];lia));rw[hS.failed];dsimp[bne_self_eq_false,bC,cJ];have:=h g hc F;rw[<- G]at this;exact bf this
end
section
variable {prog:aj}{w:ah}{A:az}{E:af->aA->Prop}{s:aA}
def M0(b:Bool)(x y:af):keyLt' (tuples' b) x y=(do
  let us <- Builtin.List.listItems x
  let vs <- Builtin.List.listItems y
  for ((u,v),k)in (us.toList.zip vs.toList).zipIdx do
   if !(<- eqBool u v)then return <- oneLt' (b && k == 0) u v
  return us.size<vs.size):=rfl
def J9(b:Bool){x y:Int}{t:Tok}{Q:Bool->aA->Prop}(h:Q (decide<|x<y) s):wpAny (model prog w) A (oneLt' b (.int x t)<|.int y u) Q E s:=by
 cases b with
 | true=>exact oneLt_int h
 | false=>
  rw[oneLt'_eq];dsimp[bC,cJ];exact aP<|PySem.P.lt_int<|dO h
def HF(b:Bool){l k:ak}{xs ys:ba}{U:ag}{Q:Bool->aA->Prop}(hl:IsTup s.heap l xs.toArray)(hk:IsTup s.heap k ys.toArray)(hi:IntsAre xs U)(hj:IntsAre ys ms)(h:Q (HT.lexLt U ms) s) :
  wpAny (model prog w) A (keyLt' (tuples' b) (.ref l)<|.ref k) Q E s:=by
 rw[M0];obtain⟨J,f,_,K,j⟩:=hl;obtain⟨L,m,_,G,B⟩:=hk;refine aP<|listItems_at f j ?_;refine aP<|listItems_at m B ?_;have g:∀(xs ys:ba) (U ms:ag) (n:Nat),IntsAre xs U->IntsAre ys ms->∀Q':bj×Unit->aA->Prop,(∀r,(r=some (HT.lexLt U ms)\/(r=none/\HT.lexLt U ms=decide (xs.length<ys.length)))->Q' (r,Unit.unit) s) ->
   wpAny (model prog w) A (forIn ((xs.zip ys).zipIdx n) ((none,Unit.unit):bj×Unit) λx c=>match x with
      | ((p,q),i)=>do
       let e <- eqBool p q
       if (!e)=true then do
         let r <- oneLt' (b && i == 0) p q
         pure (ForInStep.done (some r,Unit.unit))
        else pure (ForInStep.yield (none,Unit.unit))) Q' E s:=by
  intro xs
  induction xs with
  | nil=>
   intro ys U ms n h1 h2 Q' q
   cases h1
   rw[List.zip_nil_left,List.zipIdx_nil,ju];refine bf (q none<|.inr ⟨rfl,?_⟩)
   cases h2 with
   | nil=>rw[HT.rB];rfl
   | cons a t h2=>rw[HT.oV,bg<|by simp]
  | cons v M D=>
   intro ys U ms n h1 h2 Q' q
   cases h1 with
   | cons a t h1=>
    cases h2 with
    | nil=>
     rw[List.zip_nil_right,List.zipIdx_nil,ju];exact bf<|q none<|.inr ⟨rfl,by rw[HT.qL,bA<|by simp]⟩
    | cons c u h2=>
     rw[List.zip_cons_cons,je,List.forIn_cons];rw[HT.tP]at q;dsimp only;refine aP<|aP<|wpAny_eqBool_int ?_;by_cases e:a=c
     ·rw[aK e]at q;subst e;dsimp[bW,cI,bC,cJ];refine bf (D _ _ _ _ h1 h2 _ λr d=>q r ?_)
      rcases d with d|⟨d,C⟩
      ·exact .inl d
      ·exact .inr ⟨d,by rw[C];simp⟩
     ·rw[aI e]at q;have F:(a == c)=false:=by simpa using e
      dsimp[F,c5,dg];exact aP<|J9 _<|bf<|bf<|q _<|.inl rfl
 refine aP (g xs ys U ms 0 hi hj _ λr d=>?_)
 rcases d with rfl|⟨rfl,C⟩
 ·exact bf h
 ·dsimp only;rw[bh,bh,<- C];exact bf h
end
theorem E4:∀a:ag,HT.lexLt a a=false
 | []=>HT.rB
 | x::a=>by rw[HT.tP,aK rfl];exact E4 a
theorem Eu:∀{a b c:ag},HT.lexLt a b=true->HT.lexLt b c=true->HT.lexLt a c=true
 | [],[],_,h,_=>by rw[HT.rB]at h;cases h
 | x::a,[],_,h,_=>by rw[HT.qL]at h;cases h
 | _,y::b,[],_,h=>by rw[HT.qL]at h;cases h
 | [],y::b,z::c,_,_=>HT.oV ..
 | x::a,y::b,z::c,h1,h2=>by
  rw[HT.tP]at h1 h2 ⊢;by_cases e1:x=y
  ·rw[aK e1]at h1;by_cases e2:y=z
   ·rw[aK e2]at h2;rw[aK<|e1.trans e2];exact Eu h1 h2
   ·rw[aI e2]at h2;have:=bQ h2;rw[aI<|by omega];exact bg<|by omega
  ·rw[aI e1]at h1;have d:=bQ h1;by_cases e2:y=z
   ·rw[aI<|by omega];exact bg (by omega)
   ·rw[aI e2]at h2;have:=bQ h2;rw[aI<|by omega];exact bg<|by omega
theorem xx:∀{a b:ag},HT.lexLt a b=false->HT.lexLt b a=false->a=b
 | [],[],_,_=>rfl
 | [],y::b,h,_=>by rw[HT.oV]at h;cases h
 | x::a,[],_,h=>by rw[HT.oV]at h;cases h
 | x::a,y::b,h1,h2=>by
  rw[HT.tP]at h1 h2;by_cases e:x=y
  ·rw[aK e]at h1;rw[aK e.symm]at h2;rw[e,xx h1 h2]
  ·rw[aI e]at h1;rw[aI λz=>e z.symm]at h2;have:=dI h1;have:=dI h2;omega
def Mm{a b c:ag}(h:HT.lexLt a c=true):HT.lexLt a b=true\/HT.lexLt b c=true:=by
 cases e:HT.lexLt a b with
 | true=>exact .inl rfl
 | false=>
  right
  cases e2:HT.lexLt b a with
  | true=>exact Eu e2 h
  | false=>rw[<- xx e e2];exact h
abbrev MA (J:List<|ag):Ord where
 lt i j:=HT.lexLt (J.getD i []) (J.getD j [])
 NN i:=E4 _
 tr i j k:=Eu
 neg i j k:=Mm
section
variable {prog:aj}{w:ah}{A:az}{E:af->aA->Prop}{s:aA}
theorem Kf{α β:Type}{f:α->Sem β}(r:α->β):∀(l:List α),(∀a∈l,∀Q:β->aA->Prop,Q (r a) s->wpAny M A (f a) Q E s)->∀Q:List β->aA->Prop,Q (l.map r) s->wpAny M A (l.mapM f) Q E s
 | [],_,Q,q=>by rw[List.mapM_nil];exact bf q
 | a::l,h,Q,q=>by
  rw[List.mapM_cons];refine aP<|h a (aL ..) _<|aP<|Kf r l (λb c=>h b<|aN _ c) _<|bf q
def KW{α β:Type}{f:α->Sem β}(r:α->β)(l:List α)(h:∀a∈l,∀Q:β->aA->Prop,Q (r a) s->wpAny M A (f a) Q E s)(Q:Array β->aA->Prop)(q:Q (l.map r).toArray s):wpAny M A (l.toArray.mapM f) Q E s:=by
 rw[List.mapM_toArray,map_eq_pure_bind];exact aP<|Kf r l h _<|bf q
def Rz(u:af):firstOfTuple' u=(do
  if (<- typeOf u) != .type "tuple" then return none
  return (<- Builtin.List.listItems u)[0]?):=rfl
def MW{vs:ba}(h0:vs≠[])(J:∀v∈vs,∃(l:ak) (xs:ba) (n:Int) (t:Tok),v=.ref l/\IsTup s.heap l (.int n t::xs).toArray){Q:SortKind->aA->Prop}(q:Q (tuples' true) s) :
  wpAny (model prog w) A (keyKind' vs.toArray) Q E s:=by
 have k:∀v,∃x:Int×Tok,v∈vs->∃(l:ak) (xs:ba),v=.ref l/\IsTup s.heap l (.int x.1 x.2::xs).toArray:=λv=>by
  by_cases c:v∈vs
  ·obtain⟨l,xs,n,t,e1,e2⟩:=J v c;exact⟨(n,t),λ_=>⟨l,xs,e1,e2⟩⟩
  ·exact⟨(0,0),λz=>absurd z c⟩
 obtain⟨F,m⟩:=Classical.axiomOfChoice k;rw[keyKind'_eq];refine aP (KW (λv=>some<|Value.int (F v).1 (F v).2) vs (λv hv Q' f=>?_) _ ?_)
 ·obtain⟨l,xs,rfl,o,g,hc,n,B⟩:=m v hv;rw[Rz];refine aP<|jm (T := "tuple") ⟨o,g,hc⟩ ?_;rw[aI ⋯];exact aP (listItems_at g B<|bf f)
 ·rw[aK<|by simp];refine aP<|gO ?_;have e1:(vs.map λv=>some<|Value.int (F v).1 (F v).2).toArray.filterMap id=(vs.map λv=>Value.int (F v).1 (F v).2).toArray:=by
   rw[List.filterMap_toArray,List.filterMap_map];congr 1;rw[show(id ∘ λv=>some<|Value.int (F v).1 (F v).2)=λv=>some (Value.int (F v).1 (F v).2)from rfl];exact congrFun List.filterMap_eq_map' vs
  rw[e1,oneTypeOnly'_eq];refine aP (aP<|KW (λ_=>Value.type "int") _ (λv hv Q' f=>?_) _ ?_)
  ·obtain⟨u,_,rfl⟩:=aV.mp hv;exact bf f
  ·rw[bq];obtain⟨e,d,rfl⟩:∃e d,vs=e::d:=by
    cases vs with
    | nil=>exact absurd rfl h0
    | cons a b=>exact⟨a,b,rfl⟩
   have j:((List.map ((λ_=>Value.type "int") ∘ λv=>Value.int (F v).1 (F v).2) (e::d)).toArray.all λx=>x == Value.type "int")=true:=by
    dsimp[List.all_toArray,jn,dY];intro _ _;rfl
   have p:(List.map ((λ_=>Value.type "int") ∘ λv=>Value.int (F v).1 (F v).2) (e::d)).toArray[0]?=some (Value.type "int"):=by simp
   rw[p];dsimp[j,dg];exact bf<|bf q
end
end Sx
namespace L2
open PySem PySem.Spec PyProof.Rows
section
variable {X:Cx}
theorem Ce:∀{rs:bb}{its:ba},Vals (rs.map V.ref) its->its=rs.map Value.ref
 | [],_,r=>by cases r;rfl
 | a::rs,_,r=>by
  cases r with
  | cons h t=>
   have e:_=Value.ref a:=h;rw[e,Ce t];rfl
theorem Co:∀(rs:bb),Vals (rs.map V.ref) (rs.map Value.ref)
 | []=>.nil
 | a::rs=>.cons (show RelV (.ref a) (.ref a)from rfl)<|Co rs
def Dh{s:aA}{H:Hp}{Q:VK}{h':aq}{tk:Nat}{rs:bb}{kss:List<|ag}(I1:Inv X pins σ H { s with heap:=h',toks:=tk })(ro:Sx.RO kss.length)(hlen:rs.length=kss.length)(hz:rs.length<=sizeLine)
  (hT:∀(i:Nat) (r:ak) (ks:ag),rs[i]?=some r->kss[i]?=some ks->oE X.K H r (ks.map V.int)/\ks≠[])
  (q:∀l g,H l=none->Sx.Cl g 0 kss.length->Sx.So (Sx.MA kss) g 0 kss.length->Q (.ref l) (upd H l<|.lst<|((List.range kss.length).map λi=>rs.getD (g i) 0).map V.ref)) :
  wpAny (model X.prog X.w) X.A.in1 (do
   let l <- newList (rs.map Value.ref)
   let _ <- holding [l] (call (Value.builtin "list.sort") [l] [])
   ret l) (λfin s'=>∃v,fin=Fin.done (Flow.ret v)/\EP X pins σ Q v s') X.xe { s with heap:=h',toks:=tk }:=by
 have m:(rs.map Value.ref).length=kss.length:=by rw[aH,hlen]
 refine aP<|wpAny_newList ?_;have f:(h'.push<|seqObj "list" (rs.map Value.ref).toArray 0).get? h'.objs.size=some (seqObj "list" (rs.map Value.ref).toArray 0):=bH _ rfl
 skip
 have tup:∀(i:Nat) (r:ak) (ks:ag),rs[i]?=some r->kss[i]?=some ks->∃c:ba,IntsAre c ks/\IsTup (Sx.Nt (h'.push<|seqObj "list" (rs.map Value.ref).toArray 0) h'.objs.size<|rs.map Value.ref) r c.toArray:=λi r ks e1 e2=>by
  obtain⟨c,T,⟨o,J,hc,n,hd⟩,_⟩:=I1.tuple (hT i r ks e1 e2).1;refine⟨c,intsAre_of T,o,?_,hc,n,hd⟩;have lt:r<h'.objs.size:=bu J;rw[Sx.VG (bF lt)<|by rw[fM];exact f6 lt];exact aZ _ J
 refine aP (eL<|gp slot_list_sort ⟨_,f,rfl⟩ entry_list_sort (Sx.CP (o:=Sx.MA kss) (kd:=tuples' true) f (by rw[m];lia) (by rw[m];exact ro) (λh2 Q' D=>?_) (λh2 i j d G Y Q' D=>?_) λg hc hs=>⟨_,rfl,?_⟩)<|args_list_sort _)
 ·refine Sx.MW (λz=>by rw[z]at h2;simp at h2) (λv hv=>?_) D;obtain⟨i,d⟩:=gg hv;rw[aO]at d;obtain⟨r,p,rfl⟩:=aX.mp d;have lt:=(aG.mp p).1;have e2:kss[i]?=some kss[i]:=aF ();obtain⟨c,h1,h3⟩:=tup i r _ p e2;have k:=(hT i r _ p e2).2;generalize kss[i]=ks at h1 k
  cases h1 with
  | nil=>exact absurd rfl k
  | cons a t h1=>exact⟨r,_,a,t,rfl,h3⟩
 ·rw[m]at d G;have e1:rs[i]?=some (rs[i]'()):=aF _;have e2:rs[j]?=some (rs[j]'()):=aF _;have L:kss[i]?=some kss[i]:=aF d;have F:kss[j]?=some kss[j]:=aF G;obtain⟨x1,W,U⟩:=tup i _ _ e1 L;obtain⟨x2,P,O⟩:=tup j _ _ e2 F;have v1:(rs.map Value.ref).getD i .none=.ref (rs[i]'()):=by rw[aJ,aO,e1];rfl
  have v2:(rs.map Value.ref).getD j .none=.ref (rs[j]'()):=by rw[aJ,aO,e2];rfl
  show wpAny _ _ (keyLt' (tuples' true) ((rs.map Value.ref).getD i .none)<|(rs.map Value.ref).getD j .none) Q' Y _;rw[v1,v2];refine Sx.HF true U O W P ?_;have Z:kss.getD i []=kss[i]:=by rw[aJ,L];rfl
  have M:kss.getD j []=kss[j]:=by rw[aJ,F];rfl
  have:(Sx.MA kss).lt i j=HT.lexLt kss[i] kss[j]:=by show HT.lexLt _ _=_;rw[Z,M]
  rw[<- this];exact D
 ·rw[m]at hc hs ⊢;obtain⟨e,N⟩:=sortedHeap_at (out:=((List.range kss.length).map λi=>(rs.map Value.ref).getD (g i) .none).toArray) f;have old:∀b C,h'.get? b=some C->(sortedHeap (h'.push<|seqObj "list" (rs.map Value.ref).toArray 0) h'.objs.size (rs.map Value.ref) ((List.range kss.length).map λi=>(rs.map Value.ref).getD (g i) .none).toArray).get? b=some C:=λb C B=>by
   rw[sortedHeap_old (bF<|bu B)<|by rw[fM];exact f6<|bu B];exact aZ _ B
  refine bf ⟨_,rfl,.ref h'.objs.size,_,I1.laid (t':=tk) (o:=.lst<|((List.range kss.length).map λi=>rs.getD (g i) 0).map V.ref) old (aR _) ?_,rfl,q _ g (I1.hok.fresh<|aR _) hc hs⟩;refine⟨by rw[aH,aH,b8];lia,((List.range kss.length).map λi=>rs.getD (g i) 0).map Value.ref,e,Co _,?_⟩;rw[N];congr 2;rw[bq];congr 1;refine cQ λi d=>?_;have:=(hc i (bP _)<|cM.mp d).2;have lt:g i<rs.length:=()
  show(rs.map Value.ref).getD (g i) .none=Value.ref (rs.getD (g i) 0);rw[aJ,aO,aF lt,aJ,aF lt];rfl
end
end L2
namespace Am
open PySem
inductive A where
 | unb|non|bl (b:Bool)|int (i:Int)|str (x:Str)|tup (xs:List A)|frz (xs:List A)|rng (lo hi:Int)|ref (n:Nat)|exn (c:Str)|ty (n:String)|ktu (xs:List A)
@[reducible]def ae:=List A
inductive O where
 | lst (xs:ae)|dct (kvs:List<|ag×A)|nG (kvs:List<|Int×A)|dks (kvs:List<|Str×A)|dcp (kvs:List<|L2.Mp×A)|dcf (kvs:List<|ag×A)|dkf (kvs:List<|Int×A)|ins (c:Str) (fs:List<|Str×A)
meta abbrev jD:=List O
inductive R (α:Type) where
 | ok (a:α) (S:jD)|ex (c:Str) (S:jD)|no
abbrev R.bind {α β:Type}(r:R α)(f:α->jD->R β):R β:=match r with
 | .ok a S=>f a S
 | .ex c S=>.ex c S
 | .no=>.no
abbrev R.post {α:Type}(r:R α)(P:α->jD->Prop)(E:Str->jD->Prop):Prop:=match r with
 | .ok a S=>P a S
 | .ex c S=>E c S
 | .no=>False
def jJ{α β:Type}{r:R α}{f:α->jD->R β}{P:β->jD->Prop}{E:Str->jD->Prop}(h:(r.bind f).post P E):r.post (λa S=>(f a S).post P E) E:=by
 cases r<;>exact h
def MM{α:Type}{r:R α}{P P':α->jD->Prop}{E J:Str->jD->Prop}(h:r.post P E)(U:∀a S,P a S->P' a S)(he:∀c S,E c S->J c S):r.post P' J:=by
 cases r with
 | ok a S=>exact U _ _ h
 | ex c S=>exact he _ _ h
 | no=>exact h.elim
abbrev gd {α:Type}(c:Prop)[Decidable c](r:R α):R α:=if c then r else .no
abbrev opt {α β:Type}(o:Option β)(f:β->R α):R α:=match o with
 | some b=>f b
 | none=>.no
def j6{α:Type}{c:Prop}[Decidable c]{r:R α}{P:α->jD->Prop}{E:Str->jD->Prop}(h:(gd c r).post P E):c/\r.post P E:=by
 unfold gd at h;by_cases hc:c
 ·rw[aK hc]at h;exact⟨hc,h⟩
 ·rw[aI hc]at h;exact h.elim
def jG{α β:Type}{o:Option β}{f:β->R α}{P:α->jD->Prop}{E:Str->jD->Prop}(h:(opt o f).post P E):∃b,o=some b/\(f b).post P E:=by
 cases o with
 | none=>exact h.elim
 | some b=>exact⟨b,rfl,h⟩
abbrev jE (S:jD)(n:Nat):Option (ae):=match S[n]? with
 | some (.lst xs)=>some xs
 | _=>none
def jS{n:Nat}(h:jE S n=some xs):S[n]?=some (.lst xs):=by
 unfold jE at h;split at h
 ·rename_i e;cases h;exact e
 ·cases h
def xr{S:jD}{n:Nat}(h:S[n]?=some (.lst xs)):jE S n=some xs:=by
 unfold jE;rw[h]
inductive RS where
 | nx (τ:ae) (S:jD)|rt (a:A) (S:jD)|bk (τ:ae) (S:jD)|ct (τ:ae) (S:jD)|ex (c:Str) (S:jD)|no
meta abbrev Ex:=ae->jD->R A
meta abbrev qc:=ae->jD->R (ae)
meta abbrev Te:=ae->jD->R Bool
meta abbrev Sm:=ae->jD->RS
meta abbrev Tg:=A->ae->jD->R (ae)
end Am
namespace Am
open PySem L2
section
variable (K:au) (ρ:bb) (H:Hp)
abbrev ClN (K:au)(c:Str)(C:ak):Prop:=PySem.W.nsIn K mainGlobals c=some (some<|.ref C)
abbrev Fz (K:au)(H:Hp)(a:ak)(vs:List V):Prop:=
 (∃o,H a=some (.frz o<|.lst vs))\/∃(o:Obj) (c:Array af) (n:Nat),K.lookup a=some o/\o.cls=.type "list" /\ o.dict=none/\o.data=.seq c n/\c.size<=sizeLine/\Vals vs c.toList
abbrev KTp (K:au)(a:ak)(vs:List V):Prop:=∃(o:Obj) (c:Array af) (n:Nat),K.lookup a=some o/\o.cls=.type "tuple" /\ o.dict=none/\o.data=.seq c n/\c.size<=sizeLine/\Vals vs c.toList
mutual
inductive AV:A->V->Prop
 | non:AV .non .non
 | bl (b:Bool):AV (.bl b) (.bl b)
 | int (i:Int):AV (.int i) (.int i)
 | str (x:Str):AV (.str x) (.str x)
 | ty (n:String):AV (.ty n) (.ty n)
 | tup {a:ak} {xs:ae} {vs:List V} (h:H a=some (.tup vs)) (r:AVs xs vs):AV (.tup xs) (.ref a)
 | frz {a:ak} {xs:ae} {vs:List V} (h:Fz K H a vs) (r:AVs xs vs):AV (.frz xs) (.ref a)
 | rng {a:ak} {lo hi:Int} (h:H a=some (.rng lo hi)):AV (.rng lo hi) (.ref a)
 | ref {a:ak} {n:Nat} (h:ρ[n]?=some a):AV (.ref n) (.ref a)
 | exn {a C:ak} {c:Str} {oe:Obj} (n:ClN K c C) (h:H a=some (.frz oe xu)) (x:XO C oe):AV (.exn c) (.ref a)
 | ktu {a:ak} {xs:ae} {vs:List V} (h:KTp K a vs) (r:AVs xs vs):AV (.ktu xs)<|.ref a
inductive AVs:ae->List V->Prop
 | nil:AVs [] []
 | cons {x:A} {v:V} {xs:ae} {vs:List V} (h:AV x v) (t:AVs xs vs):AVs (x::xs) (v::vs)
end
abbrev DV:List (ag×A)->List (List Key×V)->Prop
 | [],[]=>True
 | p::r,q::r'=>(q.1=p.1.map Sum.inl/\AV K ρ H p.2 q.2)/\DV r r'
 | _,_=>False
abbrev DI:List (Int×A)->List (Key×V)->Prop
 | [],[]=>True
 | p::r,q::r'=>(q.1=Sum.inl p.1/\AV K ρ H p.2 q.2)/\DI r r'
 | _,_=>False
abbrev DS:List (Str×A)->List (Key×V)->Prop
 | [],[]=>True
 | p::r,q::r'=>(q.1=Sum.inr p.1/\AV K ρ H p.2 q.2)/\DS r r'
 | _,_=>False
abbrev DP:List (L2.Mp×A)->List (L2.Mp×ak×af)->Prop
 | [],[]=>True
 | p::r,q::r'=>(q.1=p.1/\L2.GQ H q.2.1 q.1/\∃v,RelV v q.2.2/\AV K ρ H p.2 v)/\DP r r'
 | _,_=>False
abbrev OR (a:ak):O->Prop
 | .lst xs=>∃c,H a=some (.lst c)/\AVs K ρ H xs c
 | .dct kvs=>∃ks,H a=some (.dT ks)/\DV K ρ H kvs ks
 | .nG kvs=>∃ks,H a=some (.dK ks)/\DI K ρ H kvs ks
 | .dks kvs=>∃ks,H a=some (.dK ks)/\DS K ρ H kvs ks
 | .dcp kvs=>∃xs,H a=some (.ext<|L2.adN a xs)/\DP K ρ H kvs xs
 | .dcf kvs=>∃o ks,H a=some (.frz o<|.dT ks)/\DV K ρ H kvs ks
 | .dkf kvs=>∃o ks,H a=some (.frz o<|.dK ks)/\DI K ρ H kvs ks
 | .ins _ _=>∃o u,H a=some (.frz o u)
structure Rel (S:jD):Prop where
 len:ρ.length=S.length
 nd:ρ.Nodup
 «at»:∀(n:Nat) (a:ak) (o:O),ρ[n]?=some a->S[n]?=some o->OR K ρ H a o
end
abbrev Imm:HO->Prop
 | .tup _=>True
 | .rng _ _=>True
 | .frz _ _=>True
 | _=>False
structure Ext0 (ρ ρ':bb)(H H':Hp):Prop where
 pre:ρ <+: ρ'
 im:∀a u,Imm u->H a=some u->H' a=some u
structure Ext (ρ ρ':bb)(H H':Hp):Prop extends Ext0 ρ ρ' H H' where
 fr:∀a u,H a=some u->a∉ρ->H' a=some u
 nw:∀a,a∈ρ'->a∈ρ\/H a=none
def Ext.refl{H:Hp}:Ext ρ ρ H H:=⟨⟨eT _,λ_ _ _ h=>h⟩,λ_ _ h _=>h,λ_ h=>.inl h⟩
def Ext.trans{H H1 H2:Hp}(a:Ext ρ ρ1 H H1)(b:Ext ρ1 ρ2 H1 H2):Ext ρ ρ2 H H2:=⟨⟨a.pre.trans b.pre,λx u i h=>b.im x u i<|a.im x u i h⟩,λx u h n=>b.fr x u (a.fr x u h n) λz=>(a.nw x z).elim n λz=>by(rw[z]at h;cases h),λx h=>by
 by_cases c:x∈ρ
 ·exact .inl c
 ·right
  cases q:H x with
  | none=>rfl
  | some u=>
   rcases b.nw x h with z|z
   ·exact((a.nw x z).elim c λz=>by(rw[z]at q;cases q)).elim
   ·rw[a.fr x u q c]at z;cases z⟩
def Ext0.get{H H':Hp}(e:Ext0 ρ ρ' H H'){n:Nat}{a:ak}(h:ρ[n]?=some a):ρ'[n]?=some a:=by
 obtain⟨t,rfl⟩:=e.pre;rw[bB (aG.mp h).1];exact h
section
variable {K:au}{ρ ρ':bb}{H H':Hp}
def Ext0.sqT(e:Ext0 ρ ρ' H H'){a:ak}(h:oE K H a vs):oE K H' a vs:=by
 rcases h with(h|⟨o,h⟩)|h
 ·exact .inl (.inl<|e.im _ _ trivial h)
 ·exact .inl (.inr ⟨o,e.im _ _ trivial h⟩)
 ·exact .inr h
def Ext0.fz(e:Ext0 ρ ρ' H H'){a:ak}(h:Fz K H a vs):Fz K H' a vs:=by
 rcases h with⟨o,h⟩|h
 ·exact .inl ⟨o,e.im _ _ trivial h⟩
 ·exact .inr h
def Fz.Tj{a:ak}(h:Fz K H a vs):pK K H a vs:=by
 rcases h with⟨o,h⟩|h
 ·exact .inl (.inr ⟨o,h⟩)
 ·exact .inr h
mutual
theorem AV.lU(e:Ext0 ρ ρ' H H'):∀{x:A}{v:V},AV K ρ H x v->AV K ρ' H' x v
 | _,_,.non=>.non
 | _,_,.bl b=>.bl b
 | _,_,.int i=>.int i
 | _,_,.str x=>.str x
 | _,_,.ty x=>.ty x
 | _,_,.tup h r=>.tup (e.im _ _ trivial h) (AVs.lU e r)
 | _,_,.frz h r=>.frz (e.fz h) (AVs.lU e r)
 | _,_,.rng h=>.rng (e.im _ _ trivial h)
 | _,_,.ref h=>.ref (e.get h)
 | _,_,.exn n h x=>.exn n (e.im _ _ trivial h) x
 | _,_,.ktu h r=>.ktu h<|AVs.lU e r
theorem AVs.lU(e:Ext0 ρ ρ' H H'):∀{xs:ae}{vs:List V},AVs K ρ H xs vs->AVs K ρ' H' xs vs
 | _,_,.nil=>.nil
 | _,_,.cons h t=>.cons (AV.lU e h)<|AVs.lU e t
end
theorem DV.lU(e:Ext0 ρ ρ' H H'):∀{xs:List<|ag×A}{vs:List<|List Key×V},DV K ρ H xs vs->DV K ρ' H' xs vs
 | [],[],_=>trivial
 | _::_,_::_,⟨⟨a,b⟩,r⟩=>⟨⟨a,AV.lU e b⟩,DV.lU e r⟩
def DV.ext{x:List<|ag×A}{v:List<|List Key×V}(h:DV K ρ H x v)(e:Ext ρ ρ' H H'):DV K ρ' H' x v:=DV.lU e.toExt0 h
theorem DI.lU(e:Ext0 ρ ρ' H H'):∀{xs:List<|Int×A}{vs:List<|Key×V},DI K ρ H xs vs->DI K ρ' H' xs vs
 | [],[],_=>trivial
 | _::_,_::_,⟨⟨a,b⟩,r⟩=>⟨⟨a,AV.lU e b⟩,DI.lU e r⟩
def DI.ext{x:List<|Int×A}{v:List<|Key×V}(h:DI K ρ H x v)(e:Ext ρ ρ' H H'):DI K ρ' H' x v:=DI.lU e.toExt0 h
theorem DS.lU(e:Ext0 ρ ρ' H H'):∀{xs:List<|Str×A}{vs:List<|Key×V},DS K ρ H xs vs->DS K ρ' H' xs vs
 | [],[],_=>trivial
 | _::_,_::_,⟨⟨a,b⟩,r⟩=>⟨⟨a,AV.lU e b⟩,DS.lU e r⟩
def DS.ext{x:List<|Str×A}{v:List<|Key×V}(h:DS K ρ H x v)(e:Ext ρ ρ' H H'):DS K ρ' H' x v:=DS.lU e.toExt0 h
def GQ.lU{b:ak}{k:L2.Mp}(e:Ext0 ρ ρ' H H'):L2.GQ H b k->L2.GQ H' b k:=λ⟨r1,r2,h1,h2,h3⟩=>⟨r1,r2,e.im _ _ trivial h1,e.im _ _ trivial h2,e.im _ _ trivial h3⟩
theorem DP.lU(e:Ext0 ρ ρ' H H'):∀{xs:List<|L2.Mp×A}{vs:List<|L2.Mp×ak×af},DP K ρ H xs vs->DP K ρ' H' xs vs
 | [],[],_=>trivial
 | _::_,_::_,⟨⟨a,k,v,c,b⟩,r⟩=>⟨⟨a,GQ.lU e k,v,c,AV.lU e b⟩,DP.lU e r⟩
def DP.ext{x:List<|L2.Mp×A}{v:List<|L2.Mp×ak×af}(h:DP K ρ H x v)(e:Ext ρ ρ' H H'):DP K ρ' H' x v:=DP.lU e.toExt0 h
def AV.ext{x:A}{v:V}(h:AV K ρ H x v)(e:Ext ρ ρ' H H'):AV K ρ' H' x v:=AV.lU e.toExt0 h
def AVs.ext{x:ae}{v:List V}(h:AVs K ρ H x v)(e:Ext ρ ρ' H H'):AVs K ρ' H' x v:=AVs.lU e.toExt0 h
theorem AVs.length:∀{xs:ae}{vs:List V},AVs K ρ H xs vs->xs.length=vs.length
 | _,_,.nil=>rfl
 | _,_,.cons _ t=>dB (·+1)<|AVs.length t
theorem AVs.append:∀{xs ys:ae}{vs ws:List V},AVs K ρ H xs vs->AVs K ρ H ys ws->AVs K ρ H (xs++ys) (vs++ws)
 | _,_,_,_,.nil,s=>s
 | _,_,_,_,.cons h t,s=>.cons h<|AVs.append t s
theorem AVs.get:∀{xs:ae}{vs:List V}{i:Nat}{x:A},AVs K ρ H xs vs->xs[i]?=some x->∃v,vs[i]?=some v/\AV K ρ H x v
 | _,_,_,_,.nil,e=>by simp at e
 | _,_,0,_,.cons h _,e=>by simp at e;subst e;exact⟨_,rfl,h⟩
 | _,_,i+1,x,.cons _ t,e=>by
  obtain⟨u,h1,h2⟩:=AVs.get (i:=i) (x:=x) t (by simpa using e);exact⟨u,by simpa using h1,h2⟩
theorem AVs.set{x:A}{v:V}(h:AV K ρ H x v):∀{xs:ae}{vs:List V}(i:Nat),AVs K ρ H xs vs->AVs K ρ H (xs.set i x) (vs.set i v)
 | _,_,_,.nil=>.nil
 | _,_,0,.cons _ t=>.cons h t
 | _,_,i+1,.cons q t=>.cons q<|AVs.set h i t
def AVs.one{x:A}{v:V}(h:AV K ρ H x v):AVs K ρ H [x] [v]:=.cons h .nil
theorem AVs.eraseIdx:∀{xs:ae}{vs:List V}(i:Nat),AVs K ρ H xs vs->AVs K ρ H (xs.eraseIdx i) (vs.eraseIdx i)
 | _,_,_,.nil=>.nil
 | _,_,0,.cons _ t=>t
 | _,_,i+1,.cons q t=>.cons q<|AVs.eraseIdx i t
theorem qM:∀(ns:ag),AVs K ρ H (ns.map .int) (ns.map .int)
 | []=>.nil
 | n::ns=>.cons (.int n)<|qM ns
def Rel.lay{S:jD}{p:ak}(R:Rel K ρ H S)(J:H p=none)(r:AVs K ρ H xs vs):Ext ρ (ρ++[p]) H (upd H p<|.lst vs)/\Rel K (ρ++[p]) (upd H p<|.lst vs) (S++[.lst xs])/\(ρ++[p])[S.length]?=some p:=by
 have ex:Ext ρ (ρ++[p]) H (upd H p<|.lst vs):=⟨⟨eW _ _,λa u _ h=>by rw[jN<|jV h J];exact h⟩,λa u h _=>by rw[jN<|jV h J];exact h,λa h=>by
  rcases bz.mp h with z|z
  ·exact .inl z
  ·have e:a=p:=by simpa using z
   rw[e];exact .inr J⟩
 have f:∀(n:Nat) (a:ak),ρ[n]?=some a->a≠p:=by
  intro n a e z;subst z;have hn:n<S.length:=by rw[<- R.len];exact(aG.mp e).1
  have:=R.at n a S[n] e (aF hn)
  cases g:S[n]with
  | lst xs=>rw[g]at this;obtain⟨vs,h,_⟩:=this;rw[J]at h;cases h
  | dct _|nG _|dks _|dcp _=>rw[g]at this;obtain⟨vs,h,_⟩:=this;rw[J]at h;cases h
  | dcf _|dkf _=>rw[g]at this;obtain⟨_,vs,h,_⟩:=this;rw[J]at h;cases h
  | ins _ _=>rw[g]at this;obtain⟨_,_,h⟩:=this;rw[J]at h;cases h
 have c:(ρ++[p])[S.length]?=some p:=by rw[<- R.len];simp
 refine⟨ex,⟨by simp[R.len],?_,?_⟩,c⟩
 ·rw[dw];refine⟨R.nd,by simp,λa k b m e=>?_⟩;have:b=p:=by simpa using m
  obtain⟨n,hn,B⟩:=List.mem_iff_getElem.mp k;exact f n a (by rw[aF hn,B])<|e.trans this
 ·intro n a o h1 h2;by_cases hn:n<S.length
  ·rw[bB<|by rw[R.len];exact hn]at h1;rw[bB hn]at h2;have:=R.at n a o h1 h2
   cases o with
   | lst ys=>obtain⟨d,e,q⟩:=this;exact⟨d,by rw[jN<|f n a h1];exact e,q.ext ex⟩
   | dct _|nG _|dks _|dcp _=>obtain⟨d,e,q⟩:=this;exact⟨d,by rw[jN<|f n a h1];exact e,q.ext ex⟩
   | dcf _|dkf _=>obtain⟨j,d,e,q⟩:=this;exact⟨j,d,by rw[jN<|f n a h1];exact e,q.ext ex⟩
   | ins _ _=>obtain⟨j,t,e⟩:=this;exact⟨j,t,by rw[jN<|f n a h1];exact e⟩
  ·have e:n=S.length:=by
    have:=(aG.mp h2).1;simp at this
    lia
   subst e;rw[c]at h1
   cases h1
   simp at h2;subst h2;exact⟨vs,kg,r.ext ex⟩
def Rel.im{p:ak}(R:Rel K ρ H S)(J:H p=none):Ext ρ ρ H (upd H p u)/\Rel K ρ (upd H p u) S:=by
 have ex:Ext ρ ρ H (upd H p u):=⟨⟨eT _,λa u _ h=>by rw[jN<|jV h J];exact h⟩,λa u h _=>by rw[jN<|jV h J];exact h,λ_ h=>.inl h⟩;refine⟨ex,R.len,R.nd,λn a o h1 h2=>?_⟩;have:=R.at n a o h1 h2
 cases o with
 | lst ys=>obtain⟨c,e,q⟩:=this;exact⟨c,by rw[jN<|jV e J];exact e,q.ext ex⟩
 | dct _|nG _|dks _|dcp _=>obtain⟨c,e,q⟩:=this;exact⟨c,by rw[jN<|jV e J];exact e,q.ext ex⟩
 | dcf _|dkf _=>obtain⟨d,c,e,q⟩:=this;exact⟨d,c,by rw[jN<|jV e J];exact e,q.ext ex⟩
 | ins _ _=>obtain⟨d,f,e⟩:=this;exact⟨d,f,by rw[jN<|jV e J];exact e⟩
def Rel.put{S:jD}{n:Nat}{a:ak}(R:Rel K ρ H S)(J:ρ[n]?=some a)(hS:S[n]?=some (.lst xs))(r:AVs K ρ H ys ws):Ext ρ ρ H (upd H a<|.lst ws)/\Rel K ρ (upd H a<|.lst ws) (S.set n<|.lst ys):=by
 obtain⟨t,e,_⟩:=R.at n a _ J hS;have ex:Ext ρ ρ H (upd H a<|.lst ws):=⟨⟨eT _,λb u i h=>by
  have:b≠a:=by
   intro z;subst z;rw[e]at h;cases h;exact i
  rw[jN this];exact h⟩,λb u h n=>by
  rw[jN λz=>n<|by rw[z];exact aW J];exact h,λ_ h=>.inl h⟩
 refine⟨ex,by rw[cu];exact R.len,R.nd,λm b o h1 h2=>?_⟩;by_cases g:m=n
 ·subst g;rw[J]at h1;cases h1;rw[bM (aG.mp hS).1]at h2
  cases h2
  exact⟨ws,kg,r.ext ex⟩
 ·rw[bL<|cV g]at h2;have nb:b≠a:=λz=>by
   subst z;obtain⟨p,e1⟩:=aG.mp J;obtain⟨k,e2⟩:=aG.mp h1;exact g<|(cK R.nd).mp<|e2.trans e1.symm
  have:=R.at m b o h1 h2
  cases o with
  | lst ys=>obtain⟨c,d,q⟩:=this;exact⟨c,by rw[jN nb];exact d,q.ext ex⟩
  | dct _|nG _|dks _|dcp _=>obtain⟨c,d,q⟩:=this;exact⟨c,by rw[jN nb];exact d,q.ext ex⟩
  | dcf _|dkf _=>obtain⟨f,c,d,q⟩:=this;exact⟨f,c,by rw[jN nb];exact d,q.ext ex⟩
  | ins _ _=>obtain⟨f,j,d⟩:=this;exact⟨f,j,by rw[jN nb];exact d⟩
def Rel.lst{n:Nat}{a:ak}(R:Rel K ρ H S)(J:ρ[n]?=some a)(hS:S[n]?=some (.lst xs)):∃vs,H a=some (.lst vs)/\AVs K ρ H xs vs:=R.at n a _ J hS
structure SR (K:au)(ρ:bb)(H:Hp)(τ:ae)(σ:St):Prop where
 len:τ.length=σ.length
 «at»:∀(i:Nat) (a:A),τ[i]?=some a->a=.unb\/∃v,σ[i]?=some (some v)/\AV K ρ H a v
def SR.lU(s:SR K ρ H τ σ)(e:Ext0 ρ ρ' H H'):SR K ρ' H' τ σ:=⟨s.len,λi a h=>by
 rcases s.at i a h with z|⟨v,h1,h2⟩
 ·exact .inl z
 ·exact .inr ⟨v,h1,AV.lU e h2⟩⟩
def SR.ext(s:SR K ρ H τ σ)(e:Ext ρ ρ' H H'):SR K ρ' H' τ σ:=s.lU e.toExt0
def Rel.out{D:ak}(R:Rel K ρ H S)(J:H D=some (.lst vs))(hn:D∉ρ):Ext0 ρ ρ H (upd H D<|.lst ws)/\Rel K ρ (upd H D<|.lst ws) S:=by
 have ex:Ext0 ρ ρ H (upd H D<|.lst ws):=⟨eT _,λb u i h=>by
  have:b≠D:=by
   intro z;subst z;rw[J]at h;cases h;exact i
  rw[jN this];exact h⟩
 refine⟨ex,R.len,R.nd,λn a o h1 h2=>?_⟩;have na:a≠D:=λz=>hn (by rw[<- z];exact aW h1);have:=R.at n a o h1 h2
 cases o with
 | lst ys=>obtain⟨c,e,q⟩:=this;exact⟨c,by rw[jN na];exact e,AVs.lU ex q⟩
 | dct _|nG _|dks _|dcp _=>obtain⟨c,e,q⟩:=this;exact⟨c,by rw[jN na];exact e,q.lU ex⟩
 | dcf _|dkf _=>obtain⟨d,c,e,q⟩:=this;exact⟨d,c,by rw[jN na];exact e,q.lU ex⟩
 | ins _ _=>obtain⟨d,f,e⟩:=this;exact⟨d,f,by rw[jN na];exact e⟩
def Rel.take{S:jD}{D:ak}(R:Rel K ρ H S)(J:H D=some (.lst vs))(hn:D∉ρ)(r:AVs K ρ H xs vs):Rel K (ρ++[D]) H (S++[.lst xs])/\(ρ++[D])[S.length]?=some D:=by
 have ex:Ext0 ρ (ρ++[D]) H H:=⟨eW _ _,λ_ _ _ h=>h⟩;have c:(ρ++[D])[S.length]?=some D:=by rw[<- R.len];simp
 refine⟨⟨by simp[R.len],?_,λn a o h1 h2=>?_⟩,c⟩
 ·rw[dw];refine⟨R.nd,by simp,λa g b j e=>?_⟩;have:b=D:=by simpa using j
  exact hn<|by rw[<- this,<- e];exact g
 ·by_cases hs:n<S.length
  ·rw[bB<|by rw[R.len];exact hs]at h1;rw[bB hs]at h2;have:=R.at n a o h1 h2
   cases o with
   | lst ys=>obtain⟨d,e,q⟩:=this;exact⟨d,e,AVs.lU ex q⟩
   | dct _|nG _|dks _|dcp _=>obtain⟨d,e,q⟩:=this;exact⟨d,e,q.lU ex⟩
   | dcf _|dkf _=>obtain⟨f,d,e,q⟩:=this;exact⟨f,d,e,q.lU ex⟩
   | ins _ _=>obtain⟨f,k,e⟩:=this;exact⟨f,k,e⟩
  ·have e:n=S.length:=by
    have:=(aG.mp h2).1;simp at this
    lia
   subst e;rw[c]at h1
   cases h1
   simp at h2;subst h2;exact⟨vs,J,AVs.lU ex r⟩
def SR.set{τ:ae}{σ:St}{a:A}{v:V}(s:SR K ρ H τ σ)(h:AV K ρ H a v):SR K ρ H (τ.set i a) (σ.set i<|some v):=by
 refine⟨by simp[s.len],λj b e=>?_⟩;by_cases c:j=i
 ·subst c;have d:j<τ.length:=by
   have:=(aG.mp e).1;simpa using this
  rw[bM d]at e
  cases e
  exact .inr ⟨v,bM<|by rw[<- s.len];exact d,h⟩
 ·rw[bL<|cV c]at e;rw[bL<|cV c];exact s.at j b e
end
end Am
namespace Am
open PySem PySem.Spec PyProof.Rows L2
abbrev XE (X:Cx)(ρ:bb)(H:Hp):Str->jD->Prop:=λc d=>∀(C:ak) (ρ':bb) (H':Hp),ClN X.K c C->Ext ρ ρ' H H'->Rel X.K ρ' H' d->EX X (.ref C) none H'
def XE.ext{X:Cx}{H H':Hp}{c:Str}(h:XE X ρ H c S)(e:Ext ρ ρ' H H'):XE X ρ' H' c S:=λC ρ2 H2 n e2=>h C ρ2 H2 n<|e.trans e2
abbrev DY (X:Cx)(ρ:bb)(H:Hp)(Q:VK):A->jD->Prop:=λa c=>∀ρ' H' v,Ext ρ ρ' H H'->Rel X.K ρ' H' c->AV X.K ρ' H' a v->Q v H'
abbrev okB (X:Cx)(ρ:bb)(H:Hp)(Q:Bool->Hp->Prop):Bool->jD->Prop:=λb c=>∀ρ' H',Ext ρ ρ' H H'->Rel X.K ρ' H' c->Q b H'
abbrev okL (X:Cx)(ρ:bb)(H:Hp)(Q:List V->Hp->Prop):ae->jD->Prop:=λas d=>∀ρ' H' c,Ext ρ ρ' H H'->Rel X.K ρ' H' d->AVs X.K ρ' H' as c->Q c H'
def DY.ext{X:Cx}{H H':Hp}{Q:VK}{a:A}(h:DY X ρ H Q a S)(e:Ext ρ ρ' H H'):DY X ρ' H' Q a S:=λρ2 H2 v e2=>h ρ2 H2 v<|e.trans e2
def okB.ext{X:Cx}{H H':Hp}{Q:Bool->Hp->Prop}{a:Bool}(h:okB X ρ H Q a S)(e:Ext ρ ρ' H H'):okB X ρ' H' Q a S:=λρ2 H2 e2=>h ρ2 H2<|e.trans e2
def jF{α:Type}{X:Cx}{H H':Hp}{r:R α}{P P':α->jD->Prop}(h:r.post P<|XE X ρ H)(e:Ext ρ ρ' H H')(J:∀a S,P a S->P' a S):r.post P' (XE X ρ' H'):=MM h J λ_ _ z=>z.ext e
abbrev tE (X:Cx)(c:Ex):TE:=λσ H Q=>∃ρ S τ,Rel X.K ρ H S/\SR X.K ρ H τ σ/\(c τ S).post (DY X ρ H Q) (XE X ρ H)
abbrev tT (X:Cx)(c:Te):TT:=λσ H Q=>∃ρ S τ,Rel X.K ρ H S/\SR X.K ρ H τ σ/\(c τ S).post (okB X ρ H Q) (XE X ρ H)
abbrev tL (X:Cx)(c:qc):TA:=λσ H Q=>∃ρ S τ,Rel X.K ρ H S/\SR X.K ρ H τ σ/\(c τ S).post (okL X ρ H Q) (XE X ρ H)
abbrev AE (X:Cx)(e:aC)(c:Ex):Prop:=PE X e<|tE X c
abbrev AT (X:Cx)(e:aC)(c:Te):Prop:=PT X e<|tT X c
abbrev AW (X:Cx)(e:aC)(c:Te):Prop:=PW X e<|tT X c
abbrev AL (X:Cx)(es:List aC)(c:qc):Prop:=PA X es<|tL X c
def PE.imp{X:Cx}{e:aC}{t t':TE}(h:PE X e t)(i:∀σ H Q,t' σ H Q->t σ H Q):PE X e t':=λpins s σ H Q I q=>h pins s σ H Q I<|i σ H Q q
def PT.imp{X:Cx}{e:aC}{t t':TT}(h:PT X e t)(i:∀σ H Q,t' σ H Q->t σ H Q):PT X e t':=λpins s σ H Q I q=>h pins s σ H Q I<|i σ H Q q
def PW.imp{X:Cx}{e:aC}{t t':TT}(h:PW X e t)(i:∀σ H Q,t' σ H Q->t σ H Q):PW X e t':=λw pins s σ H Q I q=>h w pins s σ H Q I<|i σ H Q q
def PA.imp{X:Cx}{e:List aC}{t t':TA}(h:PA X e t)(i:∀σ H Q,t' σ H Q->t σ H Q):PA X e t':=λp pins s σ H Q I q=>h p pins s σ H Q I<|i σ H Q q
def AW.at{X:Cx}{e:aC}{c:Te}(h:AW X e c):AT X e c:=h _
abbrev A.p_:A->Bool
 | .unb=>true
 | _=>false
abbrev jB (i:Nat):Ex:=λτ S=>if (τ.getD i .unb).p_ then .no else .ok (τ.getD i .unb) S
abbrev eC (a:A):Ex:=λ_ S=>.ok a S
section
variable {X:Cx}{pos:Pos}{a b:aC}
def jz(i:Nat){x:Str}(U:X.N[i]?=some x<|>η)(hv:Vis X.env.scope x:=by first|exact Or.inl rfl|exact Or.inr (Or.inl rfl)|exact Or.inr<|Or.inr rfl)(hd:(x == ("__debug__" : Str))=false:=by decide)
  (J:(x == ("__classdict__" : Str))=false:=by decide):AE X (.Name x pos) (jB i):=PE.imp (RN U hv hd J) λσ H Q h9=>by
 room;unfold jB at h
 cases c:τ[i]? with
 | none=>
  rw[aJ,c]at h;exact h.elim
 | some x=>
  rw[aJ,c]at h
  rcases r.at i x c with z|⟨v,e,q⟩
  ·subst z;exact h.elim
  ·refine⟨v,e,?_⟩
   cases x<;>first|(exact h ρ H v .refl R q)|exact h.elim
def jK{i:Int}{j pos}:AE X (.Constant (.int i) j pos) (eC<|.int i):=PE.imp ZU λσ H Q ⟨ρ,S,τ,R,r,h⟩=>h ρ H _ .refl R<|.int i
def CB{j pos}:AE X (.Constant (.bool i) j pos) (eC<|.bl i):=PE.imp aaY λσ H Q ⟨ρ,S,τ,R,r,h⟩=>h ρ H _ .refl R<|.bl i
def P_{x:Str}{i:Int}{t:Tok}(J:X.mg x=some (.int i t))(hg:Gl X x<|>η)(U:(x == ("__debug__" : Str))=false<|>δ):AE X (.Name x pos) (eC<|.int i):=
 PE.imp (KD (v:=.int i) hg J ⟨t,rfl⟩ U) λσ H Q ⟨ρ,S,τ,R,r,h⟩=>h ρ H _ .refl R<|.int i
abbrev jO (f:A->A->jD->R A)(ca cb:Ex):Ex:=λτ S=>(ca τ S).bind λa S1=>(cb τ S1).bind λb S2=>f a b S2
abbrev r2 (X:Cx)(f:A->A->jD->R A):R2:=λx y H Q=>∃ρ S a b,Rel X.K ρ H S/\AV X.K ρ H a x/\AV X.K ρ H b y/\(f a b S).post (DY X ρ H Q) (XE X ρ H)
abbrev r1 (X:Cx)(f:A->jD->R A):V->Hp->VK->Prop:=λx H Q=>∃ρ S a,Rel X.K ρ H S/\AV X.K ρ H a x/\(f a S).post (DY X ρ H Q) (XE X ρ H)
abbrev rN (X:Cx)(f:ae->jD->R A):List V->Hp->VK->Prop:=λxs H Q=>∃ρ S as,Rel X.K ρ H S/\AVs X.K ρ H as xs/\(f as S).post (DY X ρ H Q) (XE X ρ H)
def pG.imp{f:af->af->Sem af}{r J:R2}(h:pG X f r)(i:∀x y H Q,J x y H Q->r x y H Q):pG X f J:=λpins s σ H x y v u Q I rx ry q=>h pins s σ H x y v u Q I rx ry<|i _ _ _ _ q
def ko.imp{f:af}{r J:List V->Hp->VK->Prop}(h:ko X f r)(i:∀x H Q,J x H Q->r x H Q):ko X f J:=λpins s σ H x v Q I rx q=>h pins s σ H x v Q I rx<|i _ _ _ q
def qQ{f:A->A->jD->R A}{ca cb:Ex}{H:Hp}{Q:VK}(h:tE X (jO f ca cb) σ H Q):tOp (r2 X f) (tE X ca) (tE X cb) σ H Q:=by
 kl_no;refine⟨ρ,S,τ,R,r,jF (jJ h) .refl λa S1 h1 ρ1 H1 x e1 R1 v1=>⟨ρ1,S1,τ,R1,r.ext e1,jF (jJ h1) e1 λb S2 h2 ρ2 H2 y e2 R2 v2=>?_⟩⟩;exact⟨ρ2,S2,a,b,R2,v1.ext e2,v2,jF h2 (e1.trans e2) λc S3 h3=>h3.ext<|e1.trans e2⟩
def j3{f:A->A->jD->R A}{ca cb:Ex}(J:pG X (binaryOp op)<|r2 X f)(U:AE X a ca)(hb:AE X b cb):AE X (.BinOp a op b pos) (jO f ca cb):=
 PE.imp (aak J U hb) λσ H Q h=>qQ h
def AX{J:CmpOp}{f:A->A->jD->R A}{ca cb:Ex}(U:pG X (compareOp J)<|r2 X f)(ha:AE X a ca)(hb:AE X b cb)(hm:behindInMarks J b=false:=by first|exact Rc _|with_unfolding_all rfl):AE X (.Compare a [J] [b] pos) (jO f ca cb):=
 PE.imp (VI U ha hb hm) λσ H Q h=>qQ h
abbrev A.Zo:A->jD->bj
 | .non,_=>some false
 | .bl b,_=>some b
 | .int i,_=>some (i != 0)
 | .str x,_=>if x.length<=sizeLine then some ((x.length:Int) != 0)else none
 | .tup xs,_=>some (!xs.isEmpty)
 | .frz xs,_=>some (!xs.isEmpty)
 | .ref n,S=>(jE S n).map λxs=>!xs.isEmpty
 | _,_=>none
abbrev tY (c:Ex):Te:=λτ S=>(c τ S).bind λa S1=>opt (a.Zo S1) λb=>.ok b S1
abbrev wV (c:Ex):Te:=λτ S=>(c τ S).bind λa S1=>match a with
 | .bl b=>.ok b S1
 | _=>.no
def Cd{K:au}{H:Hp}{b:Bool}{v:V}(h:AV K ρ H (.bl b) v):v=.bl b:=by cases h;rfl
def l6{J:CmpOp}{f:A->A->jD->R A}{ca cb:Ex}(U:pG X (compareOp J)<|r2 X f)(ha:AE X a ca)(hb:AE X b cb)(hm:behindInMarks J b=false:=by first|exact Rc _|with_unfolding_all rfl):AT X (.Compare a [J] [b] pos) (wV<|jO f ca cb):=
 PT.imp (TM U ha hb hm) λσ H Q h9=>by
  room;refine qQ ⟨ρ,S,τ,R,r,jF (jJ h) .refl λc S1 h1 ρ1 H1 x e1 R1 v1=>?_⟩
  cases c with
  | bl k=>cases Cd v1;exact⟨k,rfl,h1 ρ1 H1 e1 R1⟩
  | _=>exact h1.elim
def ZN{K:au}{H:Hp}{x:A}{v:V}{b:Bool}(R:Rel K ρ H S)(h:AV K ρ H x v)(e:x.Zo S=some b):Zs K v H b:=by
 have c:∀{xs:ae} {d:List V},AVs K ρ H xs d->(!xs.isEmpty)=!d.isEmpty:=λr=>by cases r<;>rfl
 cases h with
 | non=>exact(aY e).symm
 | bl b=>exact(aY e).symm
 | int i=>exact(aY e).symm
 | str x=>
  by_cases f:x.length<=sizeLine
  ·exact⟨f,by have:=(aK f).symm.trans e;exact(aY this).symm⟩
  ·have:=(aI f).symm.trans e;cases this
 | tup h r=>exact .inr (.inl ⟨_,oE.of h,by rw[<- c r];exact(aY e).symm⟩)
 | frz h r=>exact .inl ⟨_,h.Tj,by rw[<- c r];exact(aY e).symm⟩
 | rng h=>cases e
 | ty n=>cases e
 | exn n h x=>cases e
 | ktu h r=>cases e
 | @ref a n h=>
  have e:(jE S n).map (λxs=>!xs.isEmpty)=some b:=e;obtain⟨xs,hn,e⟩:=aX.mp e;obtain⟨d,h1,h2⟩:=R.lst h<|jS hn;exact .inl ⟨d,pK.of h1,by rw[<- c h2];exact e.symm⟩
def pB{ca:Ex}(J:AE X a ca)(U:(∀whole,isTrue a X.env whole=(do let v <- whole;standAt a.pos;holding [v] (truthy v)))<|>θ):AT X a (tY ca):=
 PT.imp (OE J U) λσ H Q ⟨ρ,S,τ,R,r,h⟩=>⟨ρ,S,τ,R,r,jF (jJ h) .refl λc S1 h1 ρ1 H1 x e1 R1 v1=>by
  obtain⟨b,d,h1⟩:=jG h1;exact⟨b,ZN R1 v1 d,h1 ρ1 H1 e1 R1⟩⟩
abbrev B5 (c:Te):Te:=λτ S=>(c τ S).bind λb S1=>.ok (!b) S1
abbrev Hl (c d:Te):Te:=λτ S=>(c τ S).bind λb S1=>match b with|true=>d τ S1|false=>.ok false S1
abbrev ZY (c d:Te):Te:=λτ S=>(c τ S).bind λb S1=>match b with|true=>.ok true S1|false=>d τ S1
def uF{c:Te}(h:AT X a c):AT X (.UnaryOp .Not a pos) (B5 c):=PT.imp (ZI h) λσ H Q ⟨ρ,S,τ,R,r,h⟩=>⟨ρ,S,τ,R,r,jF (jJ h) .refl λb S1 h1=>h1⟩
def and_imp{c d:Te}{H:Hp}{Q:Bool->Hp->Prop}(h:tT X (Hl c d) σ H Q):abJ (tT X c) (tT X d) σ H Q:=by
 kl_no;refine⟨ρ,S,τ,R,r,jF (jJ h) .refl λb S1 h1 ρ1 H1 e1 R1=>?_⟩
 cases b with
 | true=>
  rw[aK rfl];o_rec
 | false=>
  rw[aI bI];exact h1 ρ1 H1 e1 R1
def or_imp{c d:Te}{H:Hp}{Q:Bool->Hp->Prop}(h:tT X (ZY c d) σ H Q):tOr (tT X c) (tT X d) σ H Q:=by
 kl_no;refine⟨ρ,S,τ,R,r,jF (jJ h) .refl λb S1 h1 ρ1 H1 e1 R1=>?_⟩
 cases b with
 | false=>
  rw[aI bI];o_rec
 | true=>
  rw[aK rfl];exact h1 ρ1 H1 e1 R1
variable {rest:List aC}
def DX{c:Te}(h:AT X a c):AW X (.BoolOp .And [a] pos) c:=Ur h
def H_{c:Te}(h:AT X a c):AW X (.BoolOp .Or [a] pos) c:=XJ h
def Jc{c d:Te}(h:AT X a c)(h2:AW X (.BoolOp .And (b::rest) pos) d):AW X (.BoolOp .And (a::b::rest) pos) (Hl c d):=PW.imp (YD h h2) λ_ _ _ q=>and_imp q
def OH{c d:Te}(h:AT X a c)(h2:AW X (.BoolOp .Or (b::rest) pos) d):AW X (.BoolOp .Or (a::b::rest) pos) (ZY c d):=PW.imp (abd h h2) λ_ _ _ q=>or_imp q
abbrev tZ (c d:Ex):Ex:=λτ S=>(c τ S).bind λa S1=>match a with | .bl true=>d τ S1 | .bl false=>.ok (.bl false) S1|_=>.no
abbrev eOr (c d:Ex):Ex:=λτ S=>(c τ S).bind λa S1=>match a with | .bl true=>.ok (.bl true) S1 | .bl false=>d τ S1|_=>.no
abbrev UZ (c:Ex):Ex:=λτ S=>(c τ S).bind λa S1=>match a with | .bl b=>.ok (.bl !b) S1|_=>.no
def sZ{op}{c:Ex}(h:AE X a c):AE X (.BoolOp op [a] pos) c:=YY h
def uN{c d:Ex}(h:AE X a c)(h2:AE X (.BoolOp .And (b::rest) pos) d):AE X (.BoolOp .And (a::b::rest) pos) (tZ c d):=PE.imp (YO h h2) λσ H Q h9=>by
 room;refine⟨ρ,S,τ,R,r,jF (jJ h) .refl λb S1 h1 ρ1 H1 x e1 R1 v1=>?_⟩
 cases b with
 | bl k=>
  cases Cd v1
  refine⟨k,rfl,?_⟩
  cases k with
  | true=>
   rw[aK rfl];o_rec
  | false=>
   rw[aI bI];exact h1 ρ1 H1 _ e1 R1<|.bl false
 | _=>exact h1.elim
def aan{c d:Ex}(h:AE X a c)(h2:AE X (.BoolOp .Or (b::rest) pos) d):AE X (.BoolOp .Or (a::b::rest) pos) (eOr c d):=PE.imp (aaP h h2) λσ H Q h9=>by
 room;refine⟨ρ,S,τ,R,r,jF (jJ h) .refl λb S1 h1 ρ1 H1 x e1 R1 v1=>?_⟩
 cases b with
 | bl k=>
  cases Cd v1
  refine⟨k,rfl,?_⟩
  cases k with
  | false=>
   rw[aI bI];o_rec
  | true=>
   rw[aK rfl];exact h1 ρ1 H1 _ e1 R1<|.bl true
 | _=>exact h1.elim
def Rh{c:Ex}(h:AE X a c):AE X (.UnaryOp .Not a pos) (UZ c):=PE.imp (X0 h) λσ H Q h9=>by
 room;refine⟨ρ,S,τ,R,r,jF (jJ h) .refl λb S1 h1 ρ1 H1 x e1 R1 v1=>?_⟩
 cases b with
 | bl k=>
  cases Cd v1
  exact⟨k,rfl,h1 ρ1 H1 _ e1 R1<|.bl _⟩
 | _=>exact h1.elim
abbrev eIf (t:Te)(c d:Ex):Ex:=λτ S=>(t τ S).bind λb S1=>match b with|true=>c τ S1|false=>d τ S1
abbrev jL:qc:=λ_ S=>.ok [] S
abbrev jA (c:Ex)(d:qc):qc:=λτ S=>(c τ S).bind λa S1=>(d τ S1).bind λas S2=>.ok (a::as) S2
def jH:AL X [] jL:=PA.imp ES λσ H Q ⟨ρ,S,τ,R,r,h⟩=>h ρ H _ .refl R .nil
def jC{e:aC}{c:Ex}{d:qc}(J:AE X e c)(U:AL X es d)(hs:starEach (e::es) X.env=(false,eval e X.env)::starEach es X.env<|>η):AL X (e::es) (jA c d):=
 PA.imp (xy J U hs) λσ H Q h9=>by
  room;refine⟨ρ,S,τ,R,r,jF (jJ h) .refl λa S1 h1 ρ1 H1 x e1 R1 v1=>⟨ρ1,S1,τ,R1,r.ext e1,jF (jJ h1) e1 λas S2 h2 ρ2 H2 xs e2 R2 v2=>?_⟩⟩;exact h2 ρ2 H2 _ (e1.trans e2) R2<|.cons (v1.ext e2) v2
abbrev qP (d:qc):Ex:=λτ S=>(d τ S).bind λas S1=>gd (as.length<=sizeLine)<|.ok (.tup as) S1
abbrev newL (as:ae)(S:jD):R A:=gd (as.length<=sizeLine)<|.ok (.ref S.length)<|S++[.lst as]
abbrev vW (d:qc):Ex:=λτ S=>(d τ S).bind λas S1=>newL as S1
def xV{H J:Hp}{Q:VK}(R:Rel X.K ρ H S)(r:AVs X.K ρ H as vs)(e:Ext ρ0 ρ J H)(h:DY X ρ0 J Q (.tup as) S):∀p,H p=none->Q (.ref p) (upd H p<|.tup vs):=λp d=>by
 obtain⟨ex,c⟩:=R.im (u:=.tup vs) d;exact h ρ _ _ (e.trans ex) c<|.tup kg<|r.ext ex
def oQ{H J:Hp}{S:jD}{Q:VK}(R:Rel X.K ρ H S)(r:AVs X.K ρ H as vs)(e:Ext ρ0 ρ J H)(h:DY X ρ0 J Q (.ref S.length)<|S++[.lst as]):∀p,H p=none->Q (.ref p) (upd H p<|.lst vs):=λp c=>by
 obtain⟨ex,d,g⟩:=R.lay c r;exact h _ _ _ (e.trans ex) d<|.ref g
def UR{H J:Hp}{vs:List V}{Q:VK}(R:Rel X.K ρ H S)(r:AVs X.K ρ H as vs)(e:Ext ρ0 ρ J H)(h:(newL as S).post (DY X ρ0 J Q)<|XE X ρ0 J):vs.length<=sizeLine/\∀p,H p=none->Q (.ref p) (upd H p<|.lst vs):=by
 obtain⟨c,h⟩:=j6 h;exact⟨by rw[<- r.length];exact c,oQ R r e h⟩
def qD{d:qc}{x1}(h:AL X es d):AE X (.Tuple es x1 pos) (qP d):=PE.imp (ZH h) λσ H Q h9=>by
 room;refine⟨ρ,S,τ,R,r,jF (jJ h) .refl λas S1 h1 ρ1 H1 xs e1 R1 v1=>?_⟩;obtain⟨c,h1⟩:=j6 h1;exact⟨by rw[<- v1.length];exact c,xV R1 v1 e1 h1⟩
def qK{d:qc}(h:AL X es d):AE X (.List es pos) (vW d):=PE.imp (XF h) λσ H Q ⟨ρ,S,τ,R,r,h⟩=>
 ⟨ρ,S,τ,R,r,jF (jJ h) .refl λas S1 h1 ρ1 H1 xs e1 R1 v1=>UR R1 v1 e1 h1⟩
end
section
variable {X:Cx}{pos:Pos}{a b:aC}
abbrev aSub (a b:A)(S:jD):R A:=match a,b with
 | .int i,.int j=>.ok (.int<|i-j) S
 | _,_=>.no
def CZ:pG X (binaryOp .Sub) (r2 X aSub):=pG.imp Zd λx y H Q h9=>by
 x_go
 cases va<;>first|exact h.elim|(cases vb<;>first|exact h.elim|exact⟨_,_,rfl,rfl,h _ _ _ .refl R<|.int _⟩)
abbrev Gb (i j:Int):Bool:=(decide (-(2 ^ 64)<i) && decide (i<2 ^ 64)) || (decide (-(2 ^ 64)<j) && decide (j<2 ^ 64))
def mulOk_of{i j:Int}(h:Gb i j=true):TU i j:=by
 unfold Gb at h;dsimp[Bool.or_eq_true,c7,decide_eq_true_eq]at h;exact h
abbrev BP (a b:A)(S:jD):R A:=match a,b with
 | .int i,.int j=>gd (Gb i j) (.ok (.int<|i * j) S)
 | .ref n,.int k=>opt (jE S n) λxs=>gd (-(2 ^ 63)<=k/\k<2 ^ 63/\xs.length * k.toNat<=sizeLine) (.ok (.ref S.length)<|S++[.lst (List.replicate k.toNat xs).flatten])
 | _,_=>.no
theorem AVs.rep{K:au}{H:Hp}(r:AVs K ρ H xs vs):∀k:Nat,AVs K ρ H (List.replicate k xs).flatten (List.replicate k vs).flatten
 | 0=>.nil
 | k+1=>by rw[dR,dR,fu,fu];exact r.append<|AVs.rep r k
def G8:pG X (binaryOp .Mult) (r2 X BP):=λpins s σ H x y v u Q I rx ry h9=>by
 x_go
 cases va with
 | int i=>
  cases vb with
  | int j=>
   obtain⟨c,h⟩:=j6 h;exact X4 pins s σ H _ _ v u Q I rx ry ⟨i,j,rfl,rfl,mulOk_of c,h _ _ _ .refl R<|.int _⟩
  | _=>exact h.elim
 | @ref p n e=>
  cases vb with
  | int k=>
   kpc_g;obtain⟨hc,h⟩:=j6 h;obtain⟨d,h1,h2⟩:=R.lst e<|jS hn;exact XU pins s σ H _ _ v u Q I rx ry ⟨p,k,d,rfl,rfl,h1,hc.1,hc.2.1,by rw[<- h2.length];exact hc.2.2,oQ R (h2.rep _) .refl h⟩
  | _=>exact h.elim
 | _=>exact h.elim
abbrev J_ (a b:A)(S:jD):R A:=match a,b with
 | .int i,.int j=>gd (0<j/\j<18446744073709551616) (.ok (.int<|i / j) S)
 | _,_=>.no
def Tf:pG X (binaryOp .FloorDiv) (r2 X J_):=pG.imp Ot λx y H Q h9=>by
 x_go
 cases va<;>first|exact h.elim|(cases vb<;>first|exact h.elim|exact⟨_,_,rfl,rfl,(j6 h).1,(j6 h).2 _ _ _ .refl R<|.int _⟩)
abbrev DG (a b:A)(S:jD):R A:=match a,b with
 | .int i,.int j=>gd (0<j) (.ok (.int<|i % j) S)
 | _,_=>.no
def CY:pG X (binaryOp .Mod) (r2 X DG):=pG.imp ZJ λx y H Q h9=>by
 x_go
 cases va<;>first|exact h.elim|(cases vb<;>first|exact h.elim|exact⟨_,_,rfl,rfl,(j6 h).1,(j6 h).2 _ _ _ .refl R<|.int _⟩)
abbrev Zq (a b:A)(S:jD):R A:=match a,b with
 | .int i,.int j=>gd (0<=j/\j<=1000000/\i.natAbs<2 ^ 64) (.ok (.int<|i ^ j.toNat) S)
 | _,_=>.no
def Z8:pG X (binaryOp .Pow) (r2 X Zq):=pG.imp ZD λx y H Q h9=>by
 x_go
 cases va<;>first|exact h.elim|(cases vb<;>first|exact h.elim|exact⟨_,_,rfl,rfl,(j6 h).1,(j6 h).2 _ _ _ .refl R<|.int _⟩)
abbrev mE (a b:A)(S:jD):R A:=match a,b with
 | .int i,.int j=>.ok (.int<|i+j) S
 | .tup xs,.tup ys=>gd (xs.length+ys.length<=sizeLine) (.ok (.tup<|xs++ys) S)
 | .str x,.str y=>gd (x.length+y.length<=sizeLine) (.ok (.str<|x++y) S)
 | .ref n,.ref m=>opt (jE S n) λxs=>opt (jE S m) λys=>gd (xs.length+ys.length<=sizeLine) (.ok (.ref S.length)<|S++[.lst<|xs++ys])
 | _,_=>.no
def AVs.nil_inv{K:au}{H:Hp}(r:AVs K ρ H xs vs):xs=[] ↔ vs=[]:=by cases r<;>simp
def nB:pG X (binaryOp .Add) (r2 X mE):=λpins s σ H x y v u Q I rx ry h9=>by
 x_go
 cases va with
 | int i=>
  cases vb with
  | int j=>exact Zh pins s σ H _ _ v u Q I rx ry ⟨i,j,rfl,rfl,h _ _ _ .refl R<|.int _⟩
  | _=>exact h.elim
 | str x=>
  cases vb with
  | str y=>
   obtain⟨hc,h⟩:=j6 h;exact IW pins s σ H _ _ v u Q I rx ry ⟨x,y,rfl,rfl,hc,h _ _ _ .refl R<|.str _⟩
  | _=>exact h.elim
 | @tup p xs d h1 r1=>
  cases vb with
  | @tup q ys c h2 r2=>
   obtain⟨hc,h⟩:=j6 h;by_cases hv:d=[]
   ·have t:=r1.nil_inv.mpr hv;subst hv t;exact QZ pins s σ H _ _ v u Q I rx ry ⟨p,q,c,rfl,rfl,oE.of h1,oE.of h2,h _ _ _ .refl R<|.tup h2 r2⟩
   ·refine TR pins s σ H _ _ v u Q I rx ry ⟨p,q,d,c,rfl,rfl,oE.of h1,oE.of h2,hv,by rw[<- r1.length,<- r2.length];exact hc,λe=>?_,λ_=>xV R (r1.append r2) .refl h⟩;have C:=r2.nil_inv.mpr e;subst C;rw[cR]at h;exact h _ _ _ .refl R<|.tup h1 r1
  | _=>exact h.elim
 | @ref p n k=>
  cases vb with
  | @ref q m g=>
   kpc_g;obtain⟨ys,B,h⟩:=jG h;obtain⟨hc,h⟩:=j6 h;obtain⟨d,h1,h2⟩:=R.lst k<|jS hn;obtain⟨c,h3,f⟩:=R.lst g<|jS B;exact Xm pins s σ H _ _ v u Q I rx ry ⟨p,q,d,c,rfl,rfl,h1,h3,by rw[<- h2.length,<- f.length];exact hc,oQ R (h2.append f) .refl h⟩
  | _=>exact h.elim
 | _=>exact h.elim
abbrev A.ints:ae->Option (ag)
 | []=>some []
 | .int i::xs=>(A.ints xs).map (i::·)
 | _=>none
def ZG{x:A}{bs:ag}(e:A.ints (x::xs)=some bs):∃b cs,x=.int b/\A.ints xs=some cs/\bs=b::cs:=by
 unfold A.ints at e;split at e
 ·rename_i z;cases z
 ·rename_i i ys z
  cases z
  obtain⟨cs,h1,h2⟩:=aX.mp e;exact⟨i,cs,rfl,h1,h2.symm⟩
 ·cases e
def DM{K:au}{H:Hp}:∀{xs:ae}{vs:List V}{bs:ag},AVs K ρ H xs vs->A.ints xs=some bs->vs=bs.map V.int:=by
 intro xs
 induction xs with
 | nil=>
  intro vs bs h e
  cases h
  cases e
  rfl
 | cons x xs c=>
  intro vs bs h e;obtain⟨b,d,rfl,e1,rfl⟩:=ZG e
  cases h with
  | cons h t=>
   cases h
   rw[c t e1];rfl
abbrev Z0 (a b:A)(S:jD):R A:=match a,b with
 | .int i,.int j=>.ok (.bl<|decide<|i<j) S
 | _,_=>.no
def ZO(J:X.A.units+64<cLine):pG X (compareOp .Lt) (r2 X Z0):=λpins s σ H x y v u Q I rx ry h9=>by
 x_go
 cases va with
 | int i=>
  cases vb with
  | int j=>exact aaO pins s σ H _ _ v u Q I rx ry ⟨i,j,rfl,rfl,h _ _ _ .refl R<|.bl _⟩
  | _=>exact h.elim
 | _=>exact h.elim
abbrev aLe (a b:A)(S:jD):R A:=match a,b with
 | .int i,.int j=>.ok (.bl<|decide<|i<=j) S
 | _,_=>.no
def ac6:pG X (compareOp .LtE) (r2 X aLe):=pG.imp aaC λx y H Q h9=>by
 x_go
 cases va<;>first|exact h.elim|(cases vb<;>first|exact h.elim|exact⟨_,_,rfl,rfl,h _ _ _ .refl R<|.bl _⟩)
abbrev Sw (a b:A)(S:jD):R A:=match a,b with
 | .int i,.int j=>.ok (.bl<|decide<|j<i) S
 | _,_=>.no
def Mq(J:X.A.units+64<cLine):pG X (compareOp .Gt) (r2 X Sw):=λpins s σ H x y v u Q I rx ry h9=>by
 x_go
 cases va with
 | int i=>
  cases vb with
  | int j=>exact aav pins s σ H _ _ v u Q I rx ry ⟨i,j,rfl,rfl,h _ _ _ .refl R<|.bl _⟩
  | _=>exact h.elim
 | _=>exact h.elim
abbrev aGe (a b:A)(S:jD):R A:=match a,b with
 | .int i,.int j=>.ok (.bl<|decide<|j<=i) S
 | _,_=>.no
abbrev WC (J:Bool)(a b:A)(S:jD):R A:=match a,b with
 | .bl i,.bl j=>.ok (.bl<|if J then i != j else i == j) S
 | .non,.non=>.ok (.bl<|!J) S
 | .unb,.non=>.no
 | .exn _,.non=>.no
 | _,.non=>.ok (.bl J) S
 | _,_=>.no
abbrev Z1 (f:A->jD->R A)(c:Ex):Ex:=λτ S=>(c τ S).bind λa S1=>f a S1
abbrev G7 (a:A)(S:jD):R A:=match a with
 | .int i=>.ok (.int<|-i) S
 | _=>.no
def aa9:UnR X (unaryOp .USub) (r1 X G7):=λpins s σ H x v Q I rx h9=>by
 obtain⟨ρ,S,a,R,va,h⟩:=h9
 cases va with
 | int i=>exact YR pins s σ H _ v Q I rx ⟨i,rfl,h _ _ _ .refl R<|.int _⟩
 | _=>exact h.elim
def X6{f:A->jD->R A}{c:Ex}{H:Hp}{Q:VK}(h:tE X (Z1 f c) σ H Q):tUn (r1 X f) (tE X c) σ H Q:=by
 kl_no;exact⟨ρ,S,τ,R,r,jF (jJ h) .refl λa S1 h1 ρ1 H1 x e1 R1 v1=>⟨ρ1,S1,a,R1,v1,jF h1 e1 λc S3 h3=>h3.ext e1⟩⟩
def HP{c:Ex}(h:AE X a c):AE X (.UnaryOp .USub a pos) (Z1 G7 c):=PE.imp (abA aa9 h) λ_ _ _ q=>X6 q
abbrev u5 (a b:A)(S:jD):R A:=match a,b with
 | .tup xs,.int i=>opt (t6 xs i) λx=>.ok x S
 | .frz xs,.int i=>opt (t6 xs i) λx=>.ok x S
 | .ref n,.int i=>opt (jE S n) λxs=>opt (t6 xs i) λx=>.ok x S
 | .str z,.int i=>gd (z.length<=sizeLine) (opt (t6 z.cps.toList i) λc=>.ok (.str ⟨#[c]⟩) S)
 | _,_=>.no
def AVs.t6{K:au}{H:Hp}{i:Int}{x:A}(r:AVs K ρ H xs vs)(h:L2.t6 xs i=some x):∃v,L2.t6 vs i=some v/\AV K ρ H x v:=by
 unfold L2.t6 at h ⊢;rw[<- r.length]
 cases c:Fo xs.length i with
 | none=>rw[c]at h;cases h
 | some j=>
  rw[c]at h;exact r.get h
def abi:Ti X (r2 X u5):=λf d pins s σ H x y v u Q I rx ry ⟨ρ,S,a,b,R,va,vb,h⟩ hs=>by
 cases va with
 | @tup p xs j h1 r1=>
  cases vb with
  | int i=>
   obtain⟨x,g,h⟩:=jG h;obtain⟨z,e,q⟩:=r1.t6 g;exact Yp f d pins s σ H _ _ v u Q I rx ry ⟨p,j,i,z,rfl,rfl,oE.of h1,e,h _ _ _ .refl R q⟩ hs
  | _=>exact h.elim
 | @frz p xs j h1 r1=>
  cases vb with
  | int i=>
   obtain⟨x,g,h⟩:=jG h;obtain⟨z,e,q⟩:=r1.t6 g;exact JB f d pins s σ H _ _ v u Q I rx ry ⟨p,j,i,z,rfl,rfl,h1.Tj,e,h _ _ _ .refl R q⟩ hs
  | _=>exact h.elim
 | @ref p n k=>
  cases vb with
  | int i=>
   kpc_g;obtain⟨x,g,h⟩:=jG h;obtain⟨j,h1,r1⟩:=R.lst k<|jS hn;obtain⟨z,e,q⟩:=r1.t6 g;exact JB f d pins s σ H _ _ v u Q I rx ry ⟨p,j,i,z,rfl,rfl,pK.of h1,e,h _ _ _ .refl R q⟩ hs
  | _=>exact h.elim
 | str z=>
  cases vb with
  | int i=>
   obtain⟨m,h⟩:=j6 h;obtain⟨c,hc,h⟩:=jG h;exact Zk f d pins s σ H _ _ v u Q I rx ry ⟨z,i,c,rfl,rfl,m,hc,h _ _ _ .refl R<|.str _⟩ hs
  | _=>exact h.elim
 | _=>exact h.elim
def nA{ca cb:Ex}(J:AE X a ca)(U:AE X b cb)(hs:vA b<|>μ):AE X (.Subscript a b pos) (jO u5 ca cb):=PE.imp (GI abi J U hs) λσ H Q h=>qQ h
end
abbrev qo (f:A->A->bj):ae->ae->bj
 | [],[]=>some true
 | x::xs,y::ys=>(f x y).bind λp=>(qo f xs ys).map λq=>p && q
 | _,_=>some false
inductive Sh
 | non
 | bl (b:Bool)
 | int (i:Int)
 | str (x:Str)
 | tup (xs:ae)
 | lst
abbrev Yh (S:jD):A->Option Sh
 | .non=>some .non
 | .bl b=>some (.bl b)
 | .int i=>some (.int i)
 | .str x=>some (.str x)
 | .tup xs=>some (.tup xs)
 | .ref i=>(jE S i).map λ_=>.lst
 | _=>none
abbrev U6 (f:A->A->bj):Sh->Sh->bj
 | .non,.non=>some true
 | .bl x,.bl y=>some (x == y)
 | .bl x,.int y=>some ((if x then 1 else 0) == y)
 | .int x,.bl y=>some (x == (if y then 1 else 0))
 | .int x,.int y=>some (x == y)
 | .str x,.str y=>some (x == y)
 | .tup xs,.tup ys=>qo f xs ys
 | .lst,.lst=>none
 | _,_=>some false
abbrev qS (S:jD):Nat->A->A->bj
 | 0,_,_=>none
 | n+1,a,b=>match a,b with
  | .ref i,.ref j=>(jE S i).bind λxs=>(jE S j).bind λys=>qo (qS S n) xs ys
  | _,_=>(Yh S a).bind λx=>(Yh S b).bind λy=>U6 (qS S n) x y
section
variable {X:Cx}{pins:bo}{σ:L2.St}{H:Hp}{s:aA}{ρ:bb}{S:jD}
inductive KdV (s:aA):Sh->af->Prop
 | non:KdV s .non .none
 | bl (b:Bool):KdV s (.bl b) (.bool b)
 | int (i:Int) (t:Tok):KdV s (.int i) (.int i t)
 | str (x:Str) (t:Tok):KdV s (.str x) (.str x t)
 | tup {p:ak} {us:ba} (xs:ae) (h:s.heap.IsTuple p us.toArray):KdV s (.tup xs) (.ref p)
 | lst {p:ak} {us:ba} (h:s.heap.IsList p us.toArray):KdV s .lst<|.ref p
def L_{p:ak}(h:s.heap.IsTuple p us)(h':s.heap.IsList p ws):False:=by
 obtain⟨o,e,c,_⟩:=h;obtain⟨o',d,f,_⟩:=h';rw[e]at d
 cases d
 exact absurd (c.symm.trans f) ⋯
def JU(I:Inv X pins σ H s)(R:Rel X.K ρ H S){a:A}{x:V}(J:AV X.K ρ H a x)(r:RelV x u)(e:Yh S a=some h):KdV s h u:=by
 cases J with
 | non=>cases e;cases(show u=Value.none from r);exact .non
 | bl b=>cases e;cases(show u=Value.bool b from r);exact .bl b
 | int i=>cases e;obtain⟨t,rfl⟩:∃t,u=Value.int i t:=r;exact .int i t
 | str i=>cases e;obtain⟨t,rfl⟩:∃t,u=Value.str i t:=r;exact .str i t
 | tup h1 r1=>cases e;cases(show u=Value.ref _ from r);obtain⟨us,_,p,_⟩:=I.tuple<|oE.of h1;exact .tup _ p
 | ref h1=>
  obtain⟨xs,e1,rfl⟩:=aX.mp e
  cases(show u=Value.ref _ from r)
  obtain⟨c,h3,r1⟩:=R.lst h1<|jS e1;obtain⟨us,_,p,_⟩:=I.list<|pK.of h3;exact .lst p.isList
 | _=>cases e
abbrev Al (B:az)(s:aA)(u v:af)(k:Bool):Prop:=SeqAt.RcAt B s u v k/\SeqAt.EqAt B s u v k/\SeqAt.RcNeAt B s u v (!k)
def aaW{B:az}(J:B.units<cLine){f:A->A->bj}{v:af}{k:Bool}(d:KdV s h u)(d':KdV s h' v)(U:∀xs ys,h=.tup xs->h'≠.tup ys)(e:U6 f h h'=some k):Al B s u v k:=by
 cases d with
 | non=>cases d' with
  | non=>cases e;exact⟨.none_none,.same _,.none_none⟩
  | bl b=>cases e;exact⟨.none_bool _,.none_bool _,.none_bool _⟩
  | int i t=>cases e;exact⟨.none_int _ _,.none_int _ _,.none_int _ _⟩
  | str x t=>cases e;exact⟨.none_str _ _,.none_str _ _,.none_str _ _⟩
  | tup xs p=>cases e;exact⟨.none_tuple p J,.none_tuple p J,.none_tuple p J⟩
  | lst p=>cases e;exact⟨.none_list p J,.none_list p J,.none_list p J⟩
 | bl c=>cases d' with
  | non=>cases e;exact⟨.bool_none _,.bool_none _,.bool_none _⟩
  | bl b=>cases e;exact⟨.bool_bool _ _,.bool_bool _ _,.bool_bool _ _⟩
  | int i t=>cases e;exact⟨.bool_int _ _ _,.bool_int _ _ _,.bool_int _ _ _⟩
  | str x t=>cases e;exact⟨.bool_str _ _ _,.bool_str _ _ _,.bool_str _ _ _⟩
  | tup xs p=>cases e;exact⟨.bool_tuple _ p J,.bool_tuple _ p J,.bool_tuple _ p J⟩
  | lst p=>cases e;exact⟨.bool_list _ p J,.bool_list _ p J,.bool_list _ p J⟩
 | int c j=>cases d' with
  | non=>cases e;exact⟨.int_none _ _,.int_none _ _,.int_none _ _⟩
  | bl b=>cases e;exact⟨.int_bool _ _ _,.int_bool _ _ _,.int_bool _ _ _⟩
  | int i t=>cases e;exact⟨.int_int _ _ _ _,.int_int _ _ _ _,.int_int _ _ _ _⟩
  | str x t=>cases e;exact⟨.int_str _ _ _ _,.int_str _ _ _ _,.int_str _ _ _ _⟩
  | tup xs p=>cases e;exact⟨.int_tuple _ _ p J,.int_tuple _ _ p J,.int_tuple _ _ p J⟩
  | lst p=>cases e;exact⟨.int_list _ _ p J,.int_list _ _ p J,.int_list _ _ p J⟩
 | str c j=>cases d' with
  | non=>cases e;exact⟨.str_none _ _,.str_none _ _,.str_none _ _⟩
  | bl b=>cases e;exact⟨.str_bool _ _ _,.str_bool _ _ _,.str_bool _ _ _⟩
  | int i t=>cases e;exact⟨.str_int _ _ _ _,.str_int _ _ _ _,.str_int _ _ _ _⟩
  | str x t=>cases e;exact⟨.str_str _ _ _ _,.str_str _ _ _ _,.str_str _ _ _ _⟩
  | tup xs p=>cases e;exact⟨.str_tuple _ _ p J,.str_tuple _ _ p J,.str_tuple _ _ p J⟩
  | lst p=>cases e;exact⟨.str_list _ _ p J,.str_list _ _ p J,.str_list _ _ p J⟩
 | tup zs g=>cases d' with
  | non=>cases e;exact⟨.tuple_none g J,.tuple_none g J,.tuple_none g J⟩
  | bl b=>cases e;exact⟨.tuple_bool _ g J,.tuple_bool _ g J,.tuple_bool _ g J⟩
  | int i t=>cases e;exact⟨.tuple_int _ _ g J,.tuple_int _ _ g J,.tuple_int _ _ g J⟩
  | str x t=>cases e;exact⟨.tuple_str _ _ g J,.tuple_str _ _ g J,.tuple_str _ _ g J⟩
  | tup xs p=>exact absurd rfl (U _ _ rfl)
  | lst p=>cases e;exact⟨.tuple_list g p J,.of_refs (λz=>by subst z;exact L_ g p)<|.tuple_list g p J,.tuple_list g p J⟩
 | lst g=>cases d' with
  | non=>cases e;exact⟨.list_none g J,.list_none g J,.list_none g J⟩
  | bl b=>cases e;exact⟨.list_bool _ g J,.list_bool _ g J,.list_bool _ g J⟩
  | int i t=>cases e;exact⟨.list_int _ _ g J,.list_int _ _ g J,.list_int _ _ g J⟩
  | str x t=>cases e;exact⟨.list_str _ _ g J,.list_str _ _ g J,.list_str _ _ g J⟩
  | tup xs p=>cases e;exact⟨.list_tuple g p J,.of_refs (λz=>by subst z;exact L_ p g)<|.list_tuple g p J,.list_tuple g p J⟩
  | lst p=>cases e
def Ea{a:A}{x:V}(h:AV X.K ρ H a x)(e:Yh S a=some (.tup xs)):a=.tup xs/\∃p vs,x=.ref p/\H p=some (.tup vs)/\AVs X.K ρ H xs vs:=by
 cases h with
 | tup h r=>cases e;exact⟨rfl,_,_,rfl,h,r⟩
 | ref h=>obtain⟨_,_,z⟩:=aX.mp e;cases z
 | _=>cases e
def E2{i:Nat}{x:V}(h:AV X.K ρ H (.ref i) x):∃p,x=.ref p/\ρ[i]?=some p:=by
 cases h with
 | ref h=>exact⟨_,rfl,h⟩
def N_{a:A}(e:Yh S a=some .lst):∃i,a=.ref i:=by
 cases a with
 | ref i=>exact⟨i,rfl⟩
 | _=>cases e
def P5{n:Nat}{a b:A}{k:Bool}(e:qS S (n+1) a b=some k):(∃i j xs ys,a=.ref i/\b=.ref j/\jE S i=some xs/\jE S j=some ys/\qo (qS S n) xs ys=some k)\/(∃h h',Yh S a=some h/\Yh S b=some h'/\U6 (qS S n) h h'=some k/\(h=.lst->h'≠.lst)):=by
 unfold qS at e;split at e
 ·obtain⟨xs,e1,e⟩:=cH.mp e;obtain⟨ys,e2,e⟩:=cH.mp e;exact .inl ⟨_,_,xs,ys,rfl,rfl,e1,e2,e⟩
 ·rename_i c;obtain⟨h,e1,e⟩:=cH.mp e;obtain⟨h',e2,e⟩:=cH.mp e;refine .inr ⟨h,h',e1,e2,e,λd f=>?_⟩;subst d f;obtain⟨i,rfl⟩:=N_ e1;obtain⟨j,rfl⟩:=N_ e2;exact c i j rfl rfl
def Vc{f:A->A->bj}{k:Bool}(d:KdV s h u)(d':KdV s h' u)(J:∀xs ys,h=.tup xs->h'≠.tup ys)(e:U6 f h h'=some k):k=true:=by
 cases d with
 | non=>cases d';exact(aY e).symm
 | bl b=>cases d';exact(aY e).symm.trans (bW b)
 | int b=>cases d';exact(aY e).symm.trans (bW b)
 | str b=>cases d';exact(aY e).symm.trans (bW b)
 | tup xs p=>cases d' with
  | tup=>exact absurd rfl (J _ _ rfl)
  | lst q=>exact(L_ p q).elim
 | lst p=>cases d' with
  | tup _ q=>exact(L_ q p).elim
  | lst q=>cases e
def F9{f:A->A->bj}(hf:∀a b x u k,AV X.K ρ H a x->AV X.K ρ H b x->RelV x u->f a b=some k->k=true):∀{xs ys:ae}{vs:List V}{us:ba}{k:Bool},AVs X.K ρ H xs vs->AVs X.K ρ H ys vs->Vals vs us->qo f xs ys=some k->k=true:=by
 intro xs ys vs us k h1 h2 q e
 induction q generalizing xs ys k with
 | nil=>cases h1;cases h2;exact(aY e).symm
 | cons d _ c=>
  cases h1 with
  | cons h t=>cases h2 with
   | cons h' g=>
    obtain⟨p,e1,e⟩:=cH.mp e;obtain⟨q,e2,e3⟩:=aX.mp e;rw[<- e3,hf _ _ _ _ p h h' d e1,c t g e2];rfl
def LI(h h':Sh):(∃xs ys,h=.tup xs/\h'=.tup ys)\/(∀xs ys,h=.tup xs->h'≠.tup ys):=by
 cases h with
 | tup xs=>cases h' with
  | tup ys=>exact .inl ⟨xs,ys,rfl,rfl⟩
  | _=>exact .inr λ_ _ _ z=>nomatch z
 | _=>exact .inr λ_ _ z=>nomatch z
theorem Fg(I:Inv X pins σ H s)(R:Rel X.K ρ H S):∀(n:Nat) (a b:A) (x:V) (u:af) (k:Bool),AV X.K ρ H a x->AV X.K ρ H b x->RelV x u->qS S n a b=some k->k=true
 | 0,_,_,_,_,_,_,_,_,e=>nomatch e
 | n+1,a,b,x,u,k,ha,hb,ru,e=>by
  rcases P5 e with⟨i,j,xs,ys,rfl,rfl,e1,e2,e⟩|⟨h,h',e1,e2,e,_⟩
  ·obtain⟨p,rfl,h1⟩:=E2 ha;obtain⟨q,z,h2⟩:=E2 hb
   cases z
   obtain⟨g,h3,r1⟩:=R.lst h1<|jS e1;obtain⟨f,c,r2⟩:=R.lst h2<|jS e2;rw[h3]at c
   cases c
   obtain⟨us,q,_⟩:=I.list<|pK.of h3;exact F9 (λa b x u k=>Fg I R n a b x u k) r1 r2 q e
  ·rcases LI h h' with⟨xs,ys,rfl,rfl⟩|d
   ·obtain⟨rfl,p,g,rfl,h3,r1⟩:=Ea ha e1;obtain⟨rfl,q,f,z,c,r2⟩:=Ea hb e2
    cases z
    have:=I.CW (oE.of h3)<|oE.of c;subst this;obtain⟨us,q,_⟩:=I.tuple<|oE.of h3;exact F9 (λa b x u k=>Fg I R n a b x u k) r1 r2 q e
   ·exact Vc (JU I R ha ru e1) (JU I R hb ru e2) d e
abbrev B8 (f:A->A->bj)(xs ys:ae)(j:Nat):Bool:=match xs[j]?,ys[j]? with
 | some x,some y=>(f x y).getD true
 | _,_=>true
theorem zF{f:A->A->bj}:∀{xs ys:ae}{k:Bool},qo f xs ys=some k->k=((List.range<|min xs.length ys.length).all (B8 f xs ys) && xs.length == ys.length)/\∀j x y,xs[j]?=some x->ys[j]?=some y->f x y=some (B8 f xs ys j)
 | [],[],k,e=>⟨(aY e).symm,λj x y h=>by simp at h⟩
 | [],_::_,k,e=>⟨(aY e).symm,λj x y h=>by simp at h⟩
 | _::_,[],k,e=>⟨(aY e).symm,λj x y _ h=>by simp at h⟩
 | x::xs,y::ys,k,e=>by
  unfold qo at e
  cases e1:f x y with
  | none=>rw[e1]at e;cases e
  | some p=>
   rw[e1]at e;obtain⟨q,e2,e3⟩:=aX.mp e;obtain⟨h1,h2⟩:=zF e2;have g:B8 f (x::xs) (y::ys) 0=p:=by simp[B8,e1]
   have ps:∀j,B8 f (x::xs) (y::ys) (j+1)=B8 f xs ys j:=λj=>by simp[B8]
   refine⟨?_,λj a b d c=>?_⟩
   ·rw[<- e3,h1,bJ,bJ,Nat.succ_min_succ,List.range_succ_eq_map,ja,jn,g];have:(B8 f (x::xs) (y::ys) ∘ Nat.succ)=B8 f xs ys:=funext ps;rw[this,Bool.and_assoc];simp
   ·cases j with
    | zero=>
     simp at d c;subst d c;rw[g];exact e1
    | succ j=>rw[ps];exact h2 j a b (by simpa using d)<|by simpa using c
def zc{f:A->A->bj}{B:az}(hf:∀a b x y u v k,AV X.K ρ H a x->AV X.K ρ H b y->RelV x u->RelV y v->f a b=some k->SeqAt.EqAt B s u v k){us ts:ba}{k:Bool}
  (r1:AVs X.K ρ H xs vs) (r2:AVs X.K ρ H ys ws) (U:Vals vs us) (q2:Vals ws ts) (e:qo f xs ys=some k):∀j (h1:j<us.toArray.size) (h2:j<ts.toArray.size),SeqAt.EqAt B s us.toArray[j] ts.toArray[j] (B8 f xs ys j):=by
 intro j h1 h2;have N:=r1.length;have M:=r2.length;have L:=U.length;have J:=q2.length;have p:j<xs.length:=by simp at h1;lia
 have C:j<ys.length:=by simp at h2;lia
 have e1:xs[j]?=some xs[j]:=aF p;have e2:ys[j]?=some ys[j]:=aF C;obtain⟨x,ex,q⟩:=r1.get e1;obtain⟨y,D,c⟩:=r2.get e2;obtain⟨u,g,F⟩:=U.get ex;obtain⟨t,d,rt⟩:=q2.get D;have G:us.toArray[j]=u:=by
  have:us[j]?=some us.toArray[j]:=by simp at h1;simp[h1]
  rw[g]at this;exact(aY this).symm
 have m:ts.toArray[j]=t:=by
  have:ts[j]?=some ts.toArray[j]:=by simp at h2;simp[h2]
  rw[d]at this;exact(aY this).symm
 rw[G,m];exact hf _ _ x y u t _ q c F rt<|(zF e).2 j _ _ e1 e2
def in1_units(B:az):B.in1.units=B.units+1:=rfl
theorem Lb(I:Inv X pins σ H s)(R:Rel X.K ρ H S):∀(n:Nat) (B:az) (a b:A) (x y:V) (u v:af) (k:Bool),B.units+n<cLine->AV X.K ρ H a x->AV X.K ρ H b y->RelV x u->RelV y v->qS S n a b=some k->Al B s u v k
 | 0,_,_,_,_,_,_,_,_,_,_,_,_,_,e=>nomatch e
 | n+1,B,a,b,x,y,u,v,k,hu,ha,hb,rx,ry,e=>by
  have d:B.units<cLine:=()
  have c:∀a b x y u v k,AV X.K ρ H a x->AV X.K ρ H b y->RelV x u->RelV y v->qS S n a b=some k->SeqAt.EqAt B.in1 s u v k:=λa b x y u v k h1 h2 h3 G W=>(Lb I R n B.in1 a b x y u v k (by rw[in1_units];lia) h1 h2 h3 G W).2.1;have same:=λ(z:y=x)=>Fg I R (n+1) a b x u k ha (z ▸ hb) rx e;have g:∀{p q:ak},x=.ref p->y=.ref q->u=.ref p->v=.ref q->SeqAt.RcAt B s u v k->SeqAt.EqAt B s u v k:=λ{p q} f t z3 z4 h=>by
   subst z3 z4;by_cases L:p=q
   ·subst L;rw[same<|t.trans f.symm];exact .same _
   ·exact .of_refs L h
  rcases P5 e with⟨i,j,xs,ys,rfl,rfl,e1,e2,e⟩|⟨h,h',e1,e2,e,_⟩
  ·obtain⟨p,rfl,h1⟩:=E2 ha;obtain⟨q,rfl,h2⟩:=E2 hb;obtain⟨T,h3,r1⟩:=R.lst h1<|jS e1;obtain⟨O,G,r2⟩:=R.lst h2<|jS e2;obtain⟨us,m,p1,_⟩:=I.list<|pK.of h3;obtain⟨ts,C,p2,_⟩:=I.list<|pK.of G;have J:=g rfl rfl rx ry
   cases(show u=Value.ref p from rx)
   cases(show v=Value.ref q from ry)
   have P:=r1.length;have Z:=r2.length;have N:=m.length;have Y:=C.length;have D:=(zF e).1;by_cases M:xs.length=ys.length
   ·rw[<- M,Nat.min_self,bW,Bool.and_true]at D;have F:us.toArray.size=ts.toArray.size:=by simp;lia
    have f:=SeqAt.RcAt.lists p1.isList p2.isList F d<|zc c r1 r2 m C e;have t:=SeqAt.RcNeAt.lists p1.isList p2.isList F d<|zc c r1 r2 m C e;rw[bh,<- N,<- P,<- D]at f t;exact⟨f,J f,t⟩
   ·have:(xs.length == ys.length)=false:=by simpa using M
    rw[this,Bool.and_false]at D;subst D;have F:(us.toArray.size != ts.toArray.size)=true:=by simp;lia
    have f:=SeqAt.RcAt.lists_lengths p1.isList p2.isList F d;exact⟨f,J f,SeqAt.RcNeAt.lists_lengths p1.isList p2.isList F d⟩
  ·rcases LI h h' with⟨xs,ys,rfl,rfl⟩|U
   ·obtain⟨rfl,p,T,rfl,h3,r1⟩:=Ea ha e1;obtain⟨rfl,q,O,rfl,G,r2⟩:=Ea hb e2;have J:=g rfl rfl rx ry
    cases(show u=Value.ref p from rx)
    cases(show v=Value.ref q from ry)
    obtain⟨us,m,p1,_⟩:=I.tuple<|oE.of h3;obtain⟨ts,C,p2,_⟩:=I.tuple<|oE.of G;have D:=(zF e).1;have f:=SeqAt.RcAt.tuples p1 p2 d<|zc c r1 r2 m C e;have t:=SeqAt.RcNeAt.tuples p1 p2 d<|zc c r1 r2 m C e;rw[bh,bh,<- m.length,<- C.length,<- r1.length,<- r2.length,<- D]at f t;exact⟨f,J f,t⟩
   ·exact aaW d (JU I R ha rx e1) (JU I R hb ry e2) U e
end
section
variable {X:Cx}
abbrev vN (J:Bool)(a b:A)(S:jD):R A:=opt (qS S 12 a b) λk=>.ok (.bl<|if J then !k else k) S
def NZ(J:X.A.units+64<cLine):pG X (compareOp .Eq) (r2 X<|vN false):=λpins s σ H x y v u Q I rx ry h9=>by
 x_go;obtain⟨k,e,h⟩:=jG h;exact(Lb I R 12 X.A a b x y v u k (by omega) va vb rx ry e).1 _ _ _ _ ⟨.bl _,H,I,rfl,h _ _ _ .refl R<|.bl _⟩
def Ji(J:X.A.units+64<cLine):pG X (compareOp .NotEq) (r2 X<|vN true):=λpins s σ H x y v u Q I rx ry h9=>by
 x_go;obtain⟨k,e,h⟩:=jG h;exact(Lb I R 12 X.A a b x y v u k (by omega) va vb rx ry e).2.2 _ _ _ _ ⟨.bl _,H,I,rfl,h _ _ _ .refl R<|.bl _⟩
end
section
variable {X:Cx}{pos:Pos}{a b:aC}
meta abbrev Pt:=ae->jD->R (Option Int)
abbrev aae:Pt:=λ_ S=>.ok none S
abbrev abp (c:Ex):Pt:=λτ S=>(c τ S).bind λa S1=>match a with
 | .int i=>.ok (some i) S1
 | _=>.no
abbrev Vg (xs:ae)(lo hi:Option Int):ae:=(xs.drop<|HT.sIx xs.length 0 lo).take<|HT.sIx xs.length xs.length hi-HT.sIx xs.length 0 lo
abbrev aSl (a:A)(lo hi:Option Int)(S:jD):R A:=match a with
 | .ref n=>opt (jE S n) λxs=>.ok (.ref S.length) (S++[.lst<|Vg xs lo hi])
 | .frz xs=>.ok (.ref S.length) (S++[.lst<|Vg xs lo hi])
 | .tup xs=>gd (¬(HT.sIx xs.length 0 lo=0/\HT.sIx xs.length xs.length hi=xs.length)) (.ok (.tup<|Vg xs lo hi) S)
 | _=>.no
abbrev eSl (c:Ex)(lo hi:Pt):Ex:=λτ S=>(c τ S).bind λa S1=>(lo τ S1).bind λl S2=>(hi τ S2).bind λu S3=>aSl a l u S3
abbrev rS (X:Cx):V->Option Int->Option Int->Hp->VK->Prop:=λx lo c H Q=>∃ρ S a,Rel X.K ρ H S/\AV X.K ρ H a x/\(aSl a lo c S).post (DY X ρ H Q) (XE X ρ H)
abbrev ab_ (a:A)(S:jD):R A:=match a with
 | .ref n=>opt (jE S n) λxs=>.ok (.ref S.length) (S++[.lst xs.reverse])
 | .tup xs=>.ok (.tup xs.reverse) S
 | _=>.no
abbrev jZ (f:ae->jD->R A)(d:qc):Ex:=λτ S=>(d τ S).bind λas S1=>f as S1
def G9{f:ae->jD->R A}{d:qc}{H:Hp}{Q:VK}(h:tE X (jZ f d) σ H Q):tCB (rN X f) (tL X d) σ H Q:=by
 kl_no;exact⟨ρ,S,τ,R,r,jF (jJ h) .refl λas S1 h1 ρ1 H1 c e1 R1 v1=>⟨ρ1,S1,as,R1,v1,jF h1 e1 λ_ _ z=>z.ext e1⟩⟩
variable {x:Str}{p:Pos}{e:aC}{es:List aC}{id T:String}{f:ae->jD->R A}{d:qc}
def jY(hc:ko X (.builtin id)<|rN X f)(hm:X.mg x=none)(hv:bootBuiltins x=some (.builtin id))(ha:AL X (e::es) d)(hg:Gl X x<|>η)(hn:x ≠ "__name__"<|>δ)(J:(x == ("__debug__" : Str))=false<|>δ)
  (he:starEach (e::es) X.env=(false,eval e X.env)::starEach es X.env<|>η) (U:((backTo pos<|starEach es X.env).any (·.1)=false)<|>η):AE X (.Call (.Name x p) (e::es) [] pos) (jZ f d):=
 PE.imp (NV hc hg hm hv ha hn J he U) λ_ _ _ h=>G9 h
def nI(hc:ko X (.type T)<|rN X f)(hm:X.mg x=none)(hv:bootBuiltins x=some (.type T))(ha:AL X (e::es) d)(hg:Gl X x<|>η)(hn:x ≠ "__name__"<|>δ)(J:(x == ("__debug__" : Str))=false<|>δ)
  (he:starEach (e::es) X.env=(false,eval e X.env)::starEach es X.env<|>η) (U:((backTo pos<|starEach es X.env).any (·.1)=false)<|>η):AE X (.Call (.Name x p) (e::es) [] pos) (jZ f d):=
 PE.imp (Ni hc hg hm hv ha hn J he U) λ_ _ _ h=>G9 h
def xg(U:X.mg x=none)(hv:bootBuiltins x=some (.type T))(hg:Gl X x<|>η)(hn:x ≠ "__name__"<|>δ)(J:(x == ("__debug__" : Str))=false<|>δ):AE X (.Name x pos) (eC<|.ty T):=
 PE.imp (Vq (v:=.ty T) hg U hv rfl hn J) λσ H Q ⟨ρ,S,τ,R,r,h⟩=>h ρ H _ .refl R<|.ty T
abbrev A.seq (S:jD):A->Option (ae)
 | .tup xs=>some xs
 | .frz xs=>some xs
 | .ref n=>jE S n
 | _=>none
def X8{K:au}{H:Hp}{x:A}{v:V}(R:Rel K ρ H S)(h:AV K ρ H x v)(e:x.seq S=some xs):∃p vs,v=.ref p/\(pK K H p vs\/oE K H p vs)/\AVs K ρ H xs vs:=by
 cases h with
 | tup h r=>cases aY e;exact⟨_,_,rfl,.inr<|oE.of h,r⟩
 | frz h r=>cases aY e;exact⟨_,_,rfl,.inl h.Tj,r⟩
 | ref h=>
  obtain⟨vs,h1,r1⟩:=R.lst h<|jS e;exact⟨_,vs,rfl,.inl<|pK.of h1,r1⟩
 | _=>cases e
def Ro{K:au}{H:Hp}{x:A}(h:AVs K ρ H [x] vs):∃v,vs=[v]/\AV K ρ H x v:=by
 cases h with
 | cons h t=>cases t;exact⟨_,rfl,h⟩
def Qk{K:au}{H:Hp}{x:A}(h:AVs K ρ H [x,y] vs):∃v w,vs=[v,w]/\AV K ρ H x v/\AV K ρ H y w:=by
 cases h with
 | cons h t=>obtain⟨w,rfl,h'⟩:=Ro t;exact⟨_,_,rfl,h,h'⟩
abbrev f1 (g:A->jD->R A):ae->jD->R A:=λas S=>match as with
 | [x]=>g x S
 | _=>.no
abbrev f2 (g:A->A->jD->R A):ae->jD->R A:=λas S=>match as with
 | [x,y]=>g x y S
 | _=>.no
def Ue{g:A->jD->R A}{P:A->jD->Prop}{E:Str->jD->Prop}(h:(f1 g as S).post P E):∃x,as=[x]/\(g x S).post P E:=by
 match as,h with
 | [],h=>exact h.elim
 | [x],h=>exact⟨x,rfl,h⟩
 | _::_::_,h=>exact h.elim
def TX{g:A->A->jD->R A}{P:A->jD->Prop}{E:Str->jD->Prop}(h:(f2 g as S).post P E):∃x y,as=[x,y]/\(g x y S).post P E:=by
 match as,h with
 | [],h=>exact h.elim
 | [_],h=>exact h.elim
 | [x,y],h=>exact⟨x,y,rfl,h⟩
 | _::_::_::_,h=>exact h.elim
def NR{g:A->jD->R A}{H:Hp}{Q:VK}(h:rN X (f1 g) vs H Q):∃v,vs=[v]/\∃ρ S x,Rel X.K ρ H S/\AV X.K ρ H x v/\(g x S).post (DY X ρ H Q) (XE X ρ H):=by
 obtain⟨ρ,S,as,R,v,h⟩:=h;obtain⟨x,rfl,h⟩:=Ue h;obtain⟨w,rfl,hv⟩:=Ro v;exact⟨w,rfl,ρ,S,x,R,hv,h⟩
def rn2{g:A->A->jD->R A}{H:Hp}{Q:VK}(h:rN X (f2 g) vs H Q):∃v w,vs=[v,w]/\∃ρ S x y,Rel X.K ρ H S/\AV X.K ρ H x v/\AV X.K ρ H y w/\(g x y S).post (DY X ρ H Q) (XE X ρ H):=by
 obtain⟨ρ,S,as,R,v,h⟩:=h;obtain⟨x,y,rfl,h⟩:=TX h;obtain⟨w,d,rfl,hv,c⟩:=Qk v;exact⟨w,d,rfl,ρ,S,x,y,R,hv,c,h⟩
abbrev tu (x:A)(S:jD):R A:=match x with
 | .str x=>gd (x.length<=sizeLine) (.ok (.int x.length) S)
 | .tup xs=>.ok (.int xs.length) S
 | .frz xs=>.ok (.int xs.length) S
 | .ref n=>opt (jE S n) λxs=>.ok (.int xs.length) S
 | _=>.no
def vQ:ko X (.builtin "len") (rN X<|f1 tu):=ko.imp RU λe H Q h0=>by
 kt_k;clear h0
 cases hv with
 | str z=>
  obtain⟨d,h⟩:=j6 h;exact⟨_,_,rfl,⟨d,rfl⟩,h _ _ _ .refl R<|.int _⟩
 | @tup p xs us h1 r=>exact⟨_,us.length,rfl,.inr ⟨us,(oE.of h1),rfl⟩,by rw[<- r.length];exact h _ _ _ .refl R<|.int _⟩
 | @frz p xs us h1 r=>exact⟨_,us.length,rfl,.inl ⟨us,h1.Tj,rfl⟩,by rw[<- r.length];exact h _ _ _ .refl R<|.int _⟩
 | ref c=>
  kpc_g;obtain⟨us,h1,r⟩:=R.lst c<|jS hn;exact⟨_,us.length,rfl,.inl ⟨us,pK.of h1,rfl⟩,by rw[<- r.length];exact h _ _ _ .refl R<|.int _⟩
 | _=>exact h.elim
abbrev Xn (x:A)(S:jD):R A:=match x with
 | .int i=>.ok (.int<|if i<0 then -i else i) S
 | _=>.no
def abC:ko X (.builtin "abs") (rN X<|f1 Xn):=ko.imp QD λc H Q h0=>by
 kt_k;clear h0
 cases hv<;>first|exact h.elim|exact⟨_,rfl,h _ _ _ .refl R<|.int _⟩
abbrev aao (x y:A)(S:jD):R A:=match x,y with
 | .int i,.int j=>.ok (.int<|if j>i then j else i) S
 | _,_=>.no
abbrev abj (x y:A)(S:jD):R A:=match x,y with
 | .int i,.int j=>.ok (.int<|if j<i then j else i) S
 | _,_=>.no
abbrev FY (x:A)(S:jD):R A:=match x with
 | .int i=>.ok (.int i) S
 | .bl k=>.ok (.int<|if k then 1 else 0) S
 | .str y=>opt (PySem.intText? y) λn=>gd (y.length<=640) (.ok (.int n) S)
 | _=>.no
def Yt:ko X (.type "int") (rN X<|f1 FY):=λpins s σ H xs us Q I c h0=>by
 kt_k;clear h0
 cases hv with
 | int i=>exact Cu pins s σ H _ us Q I c (.inl ⟨i,rfl,h _ _ _ .refl R<|.int _⟩)
 | bl k=>exact Cu pins s σ H _ us Q I c (.inr ⟨k,rfl,h _ _ _ .refl R<|.int _⟩)
 | str y=>
  obtain⟨n,hn,h⟩:=jG h;obtain⟨d,h⟩:=j6 h;exact Nf pins s σ H _ us Q I c ⟨y,n,rfl,d,hn,h _ _ _ .refl R<|.int _⟩
 | _=>exact h.elim
abbrev DW (x y:A)(S:jD):R A:=match x,y with
 | .int i,.int j=>.ok (.rng i j) S
 | _,_=>.no
def Pj:ko X (.type "range") (rN X<|f2 DW):=ko.imp Ej λg H Q h0=>by
 obtain⟨w,f,rfl,ρ,S,x,y,R,hv,c,h⟩:=rn2 h0;clear h0
 cases hv with
 | int i=>
  cases c with
  | int j=>
   refine⟨i,j,rfl,λp d=>?_⟩;obtain⟨ex,e⟩:=R.im (u:=.rng i j) d;exact h ρ _ _ ex e<|.rng kg
  | _=>exact h.elim
 | _=>exact h.elim
abbrev C5 (i j:Int):Prop:=(-(2 ^ 62)<=i/\i<2 ^ 62/\-(2 ^ 62)<=j/\j<2 ^ 62)/\(j-i).toNat<=1000
instance (i j:Int):Decidable (C5 i j):=by unfold C5;infer_instance
abbrev yQ (x:A)(S:jD):R A:=match x with
 | .rng i j=>gd (C5 i j) (.ok (.ref S.length)<|S++[.lst<|(lJ i j).map .int])
 | .tup xs=>.ok (.ref S.length) (S++[.lst xs])
 | .frz xs=>.ok (.ref S.length) (S++[.lst xs])
 | .ref n=>opt (jE S n) λxs=>.ok (.ref S.length) (S++[.lst xs])
 | _=>.no
def IQ(hc:X.calm=true):ko X (.type "list") (rN X<|f1 yQ):=λpins s σ H c us Q I rx h0=>by
 kt_k;clear h0
 cases hv with
 | @rng p i j e=>
  obtain⟨d,h⟩:=j6 h;exact BR hc pins s σ H _ us Q I rx ⟨p,i,j,rfl,e,d.1,d.2,oQ R (qM _) .refl h⟩
 | @tup p xs c h1 r=>exact sX pins s σ H _ us Q I rx ⟨p,c,rfl,.inr<|oE.of h1,oQ R r .refl h⟩
 | @frz p xs c h1 r=>exact sX pins s σ H _ us Q I rx ⟨p,c,rfl,.inl h1.Tj,oQ R r .refl h⟩
 | @ref p n e=>
  kpc_g;obtain⟨c,h1,r⟩:=R.lst e<|jS hn;exact sX pins s σ H _ us Q I rx ⟨p,c,rfl,.inl<|pK.of h1,oQ R r .refl h⟩
 | _=>exact h.elim
abbrev yG (x:A)(S:jD):R A:=match x with
 | .rng i j=>gd (C5 i j) (.ok (.tup<|(lJ i j).map .int) S)
 | .tup xs=>.ok (.tup xs) S
 | .frz xs=>.ok (.tup xs) S
 | .ref n=>opt (jE S n) λxs=>.ok (.tup xs) S
 | _=>.no
def Dv(hc:X.calm=true):ko X (.type "tuple") (rN X<|f1 yG):=λpins s σ H c us Q I rx h0=>by
 kt_k;clear h0
 cases hv with
 | @rng p i j e=>
  obtain⟨d,h⟩:=j6 h;exact BJ hc pins s σ H _ us Q I rx ⟨p,i,j,rfl,e,d.1,d.2,xV R (qM _) .refl h⟩
 | @tup p xs c h1 r=>exact rO pins s σ H _ us Q I rx ⟨p,c,rfl,.inr ⟨(oE.of h1),h _ _ _ .refl R<|.tup h1 r⟩⟩
 | @frz p xs c h1 r=>exact rO pins s σ H _ us Q I rx ⟨p,c,rfl,.inl ⟨h1.Tj,xV R r .refl h⟩⟩
 | @ref p n e=>
  kpc_g;obtain⟨c,h1,r⟩:=R.lst e<|jS hn;exact rO pins s σ H _ us Q I rx ⟨p,c,rfl,.inl ⟨pK.of h1,xV R r .refl h⟩⟩
 | _=>exact h.elim
abbrev A.Tr:ae->Option (List Bool)
 | []=>some []
 | .bl b::xs=>(A.Tr xs).map (b::·)
 | _=>none
theorem Rm{K:au}{H:Hp}:∀{xs:ae}{vs:List V}{bs:List Bool},AVs K ρ H xs vs->A.Tr xs=some bs->vs=bs.map V.bl
 | _,_,_,.nil,e=>by cases e;rfl
 | x::xs,_,bs,.cons h t,e=>by
  cases x with
  | bl b=>
   obtain⟨c,e1,rfl⟩:=aX.mp (show(A.Tr xs).map (b::·)=some bs from e)
   cases h
   rw[Rm t e1];rfl
  | _=>cases e
abbrev A8 (x:A)(S:jD):R A:=match x with
 | .ref n=>opt (jE S n) λxs=>opt (A.Tr xs) λbs=>.ok (.bl<|bs.all λb=>b) S
 | _=>.no
def CI(hc:X.calm=true):ko X (.builtin "all") (rN X<|f1 A8):=ko.imp (Nc hc) λd H Q h0=>by
 kt_k;clear h0
 cases hv with
 | @ref p n e=>
  kpc_g;obtain⟨bs,c,h⟩:=jG h;obtain⟨d,h1,r⟩:=R.lst e<|jS hn;rw[Rm r c]at h1;exact⟨p,bs,rfl,pK.of h1,h _ _ _ .refl R<|.bl _⟩
 | _=>exact h.elim
abbrev insI (x:Int):ag->ag
 | []=>[x]
 | y::ys=>if x<=y then x::y::ys else y::insI x ys
abbrev sortI:ag->ag
 | []=>[]
 | x::xs=>insI x<|sortI xs
theorem insI_perm(x:Int):∀ys:ag,(insI x ys).Perm (x::ys)
 | []=>eX _
 | y::ys=>by
  unfold insI;by_cases h:x<=y
  ·rw[aK h]
  ·rw[aI h];exact((insI_perm x ys).cons y).trans (List.Perm.swap x y ys)
theorem sortI_perm:∀xs:ag,(sortI xs).Perm xs
 | []=>eX _
 | x::xs=>(insI_perm x<|sortI xs).trans<|(sortI_perm xs).cons x
theorem KC(x:Int):∀ys:ag,ys.Pairwise (·<=·)->(insI x ys).Pairwise (·<=·)
 | [],_=>bZ _ _
 | y::ys,h=>by
  unfold insI;obtain⟨h1,h2⟩:=bX.mp h;by_cases d:x<=y
  ·rw[aK d];exact bX.mpr ⟨λz c=>(bD.mp c).elim (λe=>e ▸ d) λc=>Int.le_trans d<|h1 z c,h⟩
  ·rw[aI d];refine bX.mpr ⟨λz c=>?_,KC x ys h2⟩
   rcases bD.mp ((insI_perm x ys).mem_iff.mp c)with e|c
   ·subst e;lia
   ·exact h1 z c
theorem Bc:∀xs:ag,(sortI xs).Pairwise (·<=·)
 | []=>List.Pairwise.nil
 | x::xs=>KC x _<|Bc xs
abbrev A.kd:A->jD->Option Kd
 | .non,_=>some .non
 | .bl _,_=>some .bl
 | .int _,_=>some .int
 | .str _,_=>some .str
 | .tup _,_=>some .tup
 | .ref n,S=>(jE S n).map λ_=>.lst
 | _,_=>none
def UL{K:au}(k:Kd):PySem.W.kitOne K k.ty (.type "str")=some (decide<|k=.str):=by cases k<;>rfl
abbrev B0 (k:Kd)(c:String):bj:=if c = "int" then some (decide<|k=.int\/k=.bl)else if c = "bool" then some (decide<|k=.bl)else if c = "tuple" then some (decide<|k=.tup)else if c = "list" then some (decide<|k=.lst)else if c = "str" then some (decide<|k=.str)else none
def JX{K:au}{k:Kd}{c:String}{b:Bool}(h:B0 k c=some b):PySem.W.kitOne K k.ty (.type c)=some b:=by
 unfold B0 at h;split at h
 ·rename_i e;subst e;rw[<- h];exact Vo k
 ·split at h
  ·rename_i e;subst e;rw[<- h];exact OI k
  ·split at h
   ·rename_i e;subst e;rw[<- h];exact kit_tuple k
   ·split at h
    ·rename_i e;subst e;rw[<- h];exact RV k
    ·split at h
     ·rename_i e;subst e;rw[<- h];exact UL k
     ·cases h
abbrev vU (x y:A)(S:jD):R A:=match y with
 | .ty c=>opt (x.kd S) λk=>opt (B0 k c) λb=>.ok (.bl b) S
 | _=>.no
def abe{K:au}{H:Hp}{x:A}{v:V}{k:Kd}(R:Rel K ρ H S)(h:AV K ρ H x v)(e:x.kd S=some k):(∃p vs,v=.ref p/\oE K H p vs/\k=.tup)\/Zf H v k:=by
 cases h with
 | non=>cases e;exact .inr rfl
 | bl b=>cases e;exact .inr ⟨b,rfl⟩
 | int i=>cases e;exact .inr ⟨i,rfl⟩
 | str i=>cases e;exact .inr ⟨i,rfl⟩
 | tup h r=>cases e;exact .inl ⟨_,_,rfl,(oE.of h),rfl⟩
 | ref h=>
  obtain⟨xs,e1,e2⟩:=aX.mp e;obtain⟨vs,h1,_⟩:=R.lst h (jS e1)
  cases e2
  exact .inr ⟨_,vs,rfl,h1⟩
 | _=>cases e
def xH:ko X (.builtin "isinstance") (rN X<|f2 vU):=λpins s σ H t us Q I rx h0=>by
 obtain⟨w,C,rfl,ρ,S,x,y,R,hv,e,h⟩:=rn2 h0;clear h0
 cases e with
 | ty c=>
  obtain⟨k,g,h⟩:=jG h;obtain⟨b,f,d⟩:=jG h;have d:DY X ρ H Q (.bl b) S:=d;clear h
  rcases abe R hv g with⟨p,t,rfl,m,rfl⟩|B
  ·obtain⟨D,F,rfl,r1,r2⟩:=vals2 rx;obtain⟨j,q,⟨o,h1,h2,_⟩,_⟩:=I.tuple m
   cases(show _=Value.ref p from r1)
   cases(show _=Value.type c from r2)
   exact cY PySem.W.kitx_tuple I.Ec ⟨o,h1,h2⟩ (JX f) (λz=>nomatch z) λG=>⟨.bl b,H,I.tok _,rfl,d _ _ _ .refl R<|.bl _⟩
  ·exact FJ (c:=c) pins s σ H _ us Q I rx ⟨w,_,b,rfl,B.adk,JX f,d _ _ _ .refl R<|.bl _⟩
 | _=>exact h.elim
end
abbrev EZ (x:ag):List (ag)->List (ag)
 | []=>[x]
 | y::ys=>if HT.lexLt y x=true then y::EZ x ys else x::y::ys
abbrev lg:List (ag)->List (ag)
 | []=>[]
 | x::xs=>EZ x<|lg xs
abbrev Ek (a b:ag):Prop:=HT.lexLt b a=false
def Ek.trans{a b c:ag}(h1:Ek a b)(h2:Ek b c):Ek a c:=by
 unfold Ek at *
 cases e:HT.lexLt c a with
 | false=>rfl
 | true=>
  rcases Sx.Mm (b:=b) e with z|z
  ·rw[h2]at z;cases z
  ·rw[h1]at z;cases z
theorem yq(x:ag):∀ys:List<|ag,(EZ x ys).Perm (x::ys)
 | []=>eX _
 | y::ys=>by
  unfold EZ;by_cases h:HT.lexLt y x=true
  ·rw[aK h];exact((yq x ys).cons y).trans (List.Perm.swap x y ys)
  ·rw[aI h]
theorem j4:∀xs:List<|ag,(lg xs).Perm xs
 | []=>eX _
 | x::xs=>(yq x<|lg xs).trans<|(j4 xs).cons x
theorem Lr(x:ag):∀ys:List<|ag,ys.Pairwise Ek->(EZ x ys).Pairwise Ek
 | [],_=>bZ _ _
 | y::ys,h=>by
  unfold EZ;obtain⟨h1,h2⟩:=bX.mp h;by_cases f:HT.lexLt y x=true
  ·rw[aK f];refine bX.mpr ⟨λz c=>?_,Lr x ys h2⟩
   rcases bD.mp ((yq x ys).mem_iff.mp c)with e|c
   ·subst e;unfold Ek
    cases e:HT.lexLt z y with
    | false=>rfl
    | true=>have:=Sx.Eu f e;rw[Sx.E4]at this;cases this
   ·exact h1 z c
  ·rw[aI f];have d:Ek x y:=by unfold Ek;simpa using f
   exact bX.mpr ⟨λz c=>(bD.mp c).elim (λe=>e ▸ d) λc=>d.trans<|h1 z c,h⟩
theorem uH:∀xs:List<|ag,(lg xs).Pairwise Ek
 | []=>List.Pairwise.nil
 | x::xs=>Lr x _<|uH xs
def Iq{xs:List<|ag}(p:xs.Perm ys)(h:xs.Pairwise Ek):xs=lg ys:=
 ef (λa b _ _ h1 h2=>(Sx.xx h1 h2).symm) h (uH ys) (p.trans (j4 ys).symm)
theorem pig:∀(N:Nat) (l:am),l.Nodup->(∀x∈l,x<N)->l.length<=N
 | 0,l,_,h=>by
  cases l with
  | nil=>exact aR _
  | cons a l=>exact absurd (h a<|aL ..)<|fq _
 | N+1,l,nd,h=>by
  have h1:=pig N (l.erase N) (nd.erase N) λx c=>by
   have:=h x<|List.mem_of_mem_erase c;have:x≠N:=λz=>by
    subst z;exact(List.Nodup.not_mem_erase nd) c
   lia
  have:=List.le_length_erase (l:=l) (a:=N)
  lia
def wQ{N:Nat}{g:Nat->Nat}(h:∀i,i<N->g i<N)(inj:∀i j,i<j->j<N->g i≠g j):((List.range N).map g).Perm (List.range N):=by
 have nd:((List.range N).map g).Nodup:=by
  unfold List.Nodup;rw[cU];intro i j f k e;rw[aH,b8]at f k;rw[cj,cj,dJ,dJ];exact inj i j e k
 have lt:∀x∈(List.range N).map g,x<N:=λx c=>by
  obtain⟨i,f,rfl⟩:=aV.mp c;exact h i<|cM.mp f
 refine(iU nd List.nodup_range).mpr λa=>⟨λd=>cM.mpr<|lt a d,λd=>?_⟩;refine e_ λhn=>?_;have:=pig N (a::(List.range N).map g) (cT.mpr ⟨hn,nd⟩) λx c=>by
  rcases bD.mp c with rfl|c
  ·exact cM.mp d
  ·exact lt x c
 rw[bJ,aH,b8]at this
 lia
def range_getD{α:Type}(l:List α)(d:α):(List.range l.length).map (λi=>l.getD i d)=l:=by
 apply dc;intro i;rw[aO];by_cases c:i<l.length
 ·rw[dU c];show some (l.getD i d)=_;rw[aJ,aF c];rfl
 ·rw[b7<|by rw[b8];lia,b7 ()];rfl
def RK{J:List<|ag}{g:Nat->Nat}(c:Sx.Cl g 0 J.length)(U:Sx.So (Sx.MA J) g 0 J.length):(List.range J.length).map (λi=>J.getD (g i) [])=lg J:=by
 refine Iq ?_ ?_
 ·have p:=wQ (N:=J.length) (g:=g) (λi f=>(c i (bP _) f).2) λi j d e z=>by
   have:=U i j (bP _) d e;rw[z]at this;exact this.NN
  have:=p.map λi=>J.getD i [];rw[bq,range_getD]at this;exact this
 ·rw[cU];intro i j f e d;rw[aH,b8]at f e;rw[cj,cj,dJ,dJ];exact(U i j (bP _) d e).ge
theorem Ac{K:au}{H:Hp}{α:Type}{f:α->A}{h:α->V}:∀{l:List α},(∀a∈l,AV K ρ H (f a)<|h a)->AVs K ρ H (l.map f) (l.map h)
 | [],_=>.nil
 | a::l,e=>.cons (e a<|aL ..)<|Ac λb c=>e b<|aN _ c
abbrev RS.post (r:RS)(N:ae->jD->Prop)(T:A->jD->Prop)(B C:ae->jD->Prop)(E:Str->jD->Prop):Prop:=match r with
 | .nx τ S=>N τ S
 | .rt a S=>T a S
 | .bk τ S=>B τ S
 | .ct τ S=>C τ S
 | .ex c S=>E c S
 | .no=>False
abbrev RS.of {α:Type}(r:R α)(f:α->jD->RS):RS:=match r with
 | .ok a S=>f a S
 | .ex c S=>.ex c S
 | .no=>.no
def of_post{α:Type}{r:R α}{f:α->jD->RS}{N B C:ae->jD->Prop}{T:A->jD->Prop}{E:Str->jD->Prop}(h:(RS.of r f).post N T B C E):r.post (λa S=>(f a S).post N T B C E) E:=by
 cases r<;>exact h
def RS.mono{r:RS}{N B C J U C':ae->jD->Prop}{T T':A->jD->Prop}{E E':Str->jD->Prop}(h:r.post N T B C E)(hn:∀τ S,N τ S->J τ S)(ht:∀a S,T a S->T' a S)(hb:∀τ S,B τ S->U τ S)(hc:∀τ S,C τ S->C' τ S)(he:∀c S,E c S->E' c S):r.post J T' U C' E':=by
 cases r with
 | nx τ S=>exact hn _ _ h
 | rt a S=>exact ht _ _ h
 | bk τ S=>exact hb _ _ h
 | ct τ S=>exact hc _ _ h
 | ex c S=>exact he _ _ h
 | no=>exact h.elim
abbrev Tn (X:Cx)(ρ:bb)(H:Hp)(N:L2.St->Hp->Prop):ae->jD->Prop:=λd e=>∀ρ' H' c,Ext ρ ρ' H H'->Rel X.K ρ' H' e->SR X.K ρ' H' d c->N c H'
def Tn.ext{X:Cx}{H H':Hp}{N:L2.St->Hp->Prop}(h:Tn X ρ H N τ S)(e:Ext ρ ρ' H H'):Tn X ρ' H' N τ S:=λρ2 H2 c e2=>h ρ2 H2 c<|e.trans e2
abbrev LW (X:Cx)(ρ:bb)(H:Hp)(D:Ends)(r:RS):Prop:=r.post (Tn X ρ H D.nx) (DY X ρ H D.rt) (Tn X ρ H D.bk) (Tn X ρ H D.ct)<|XE X ρ H
def LW.ext{X:Cx}{H H':Hp}{D:Ends}{r:RS}(h:LW X ρ H D r)(e:Ext ρ ρ' H H'):LW X ρ' H' D r:=RS.mono h (λ_ _ z=>z.ext e) (λ_ _ z=>z.ext e) (λ_ _ z=>z.ext e) (λ_ _ z=>z.ext e) λ_ _ z=>z.ext e
abbrev tS (X:Cx)(c:Sm):TS:=λD σ H=>∃ρ S τ,Rel X.K ρ H S/\SR X.K ρ H τ σ/\LW X ρ H D (c τ S)
abbrev AS (X:Cx)(st:aE)(c:Sm):Prop:=PS X st<|tS X c
abbrev V9 (X:Cx)(J:List aE)(c:Sm):Prop:=Fl X J<|tS X c
abbrev tG (X:Cx)(g:Tg):TG:=λv σ H Q=>∃ρ S τ a,Rel X.K ρ H S/\SR X.K ρ H τ σ/\AV X.K ρ H a v/\(g a τ S).post (Tn X ρ H Q) (XE X ρ H)
abbrev AG (X:Cx)(e:aC)(g:Tg):Prop:=PG X e<|tG X g
meta abbrev Th:=ae->ae->jD->R (ae)
abbrev tGs (X:Cx)(g:Th):WE:=λc σ H Q=>∃ρ S τ as,Rel X.K ρ H S/\SR X.K ρ H τ σ/\AVs X.K ρ H as c/\(g as τ S).post (Tn X ρ H Q) (XE X ρ H)
abbrev AGs (X:Cx)(es:List aC)(g:Th):Prop:=PGs X es<|tGs X g
section
variable {X:Cx}{pos:Pos}{a b e:aC}{st:aE}{rest:List aE}{c d:Sm}
def PS.imp{t t':TS}(h:PS X st t)(i:∀D σ H,t' D σ H->t D σ H):PS X st t':=λpins s σ H D I q=>h pins s σ H D I<|i D σ H q
def Fl.imp{t t':TS}(h:Fl X rest t)(i:∀D σ H,t' D σ H->t D σ H):Fl X rest t':=λpins s σ H D I q=>h pins s σ H D I<|i D σ H q
def PG.imp{t t':TG}(h:PG X e t)(i:∀v σ H Q,t' v σ H Q->t v σ H Q):PG X e t':=λpins s σ H v u Q I r q=>h pins s σ H v u Q I r<|i _ _ _ _ q
abbrev kh (i:Nat):Tg:=λa τ S=>.ok (τ.set i a) S
def jU{i:Nat}{x:Str}(J:X.N.Nodup)(hi:X.N[i]?=some x<|>η)(U:Loc X.env.scope x:=by first|exact Or.inl rfl|exact Or.inr rfl)(hf:X.fn x=true\/X.env.scope.names.lookup x=some .local<|>γ):AG X (.Name x pos) (kh i):=
 PG.imp (Ka J hi U hf) λv σ H Q ⟨ρ,S,τ,a,R,r,va,h⟩=>h ρ H _ .refl R<|r.set va
abbrev za:Th:=λas τ S=>match as with
 | []=>.ok τ S
 | _=>.no
abbrev qw (g:Tg)(gs:Th):Th:=λas τ S=>match as with
 | a::as=>(g a τ S).bind λc S1=>gs as c S1
 | []=>.no
def nu:AGs X [] za:=λpins s σ H d us Q I r ⟨ρ,S,τ,as,R,c,va,h⟩=>Ud pins s σ H d us Q I r (by
 cases va with
 | nil=>exact⟨rfl,h ρ H σ .refl R c⟩
 | cons _ _=>exact h.elim)
def j5{g:Tg}{gs:Th}(h1:AG X e g)(h2:AGs X es gs)(hs:(assignEach (e::es) X.env).map (·.2)=assign e X.env::(assignEach es X.env).map (·.2)<|>η):AGs X (e::es) (qw g gs):=
 λpins s σ H p us Q I r ⟨ρ,S,τ,as,R,k,va,h⟩=>OL h1 h2 hs pins s σ H p us Q I r (by
  cases va with
  | nil=>exact h.elim
  | cons f m=>exact⟨_,_,rfl,ρ,S,τ,_,R,k,f,jF (jJ h) .refl λc S1 h1 ρ1 H1 j e1 R1 d=>⟨ρ1,S1,c,_,R1,d,m.ext e1,jF h1 e1 λ_ _ z=>z.ext e1⟩⟩)
abbrev y_ (n:Nat)(gs:Th):Tg:=λa τ S=>match a with
 | .tup xs | .ktu xs=>gd (xs.length=n) (gs xs τ S)
 | _=>.no
def oY{k n:Nat}{gs:Th}(hc:X.calm=true)(h:AGs X es gs)(hn:(assignEach es X.env).length=n<|>η)(J:(assignEach es X.env).findIdx? (·.1)=none<|>η):AG X (.Tuple es k pos) (y_ n gs):=
 PG.imp (YL hc h hn J) λv σ H Q h9=>by
  obtain⟨ρ,S,τ,a,R,r,va,h⟩:=h9
  cases va with
  | tup h1 r1=>
   obtain⟨c,h⟩:=j6 h;exact⟨_,_,rfl,oE.of h1,by rw[<- r1.length];exact c,ρ,S,τ,_,R,r,r1,h⟩
  | ktu h1 r1=>
   obtain⟨c,h⟩:=j6 h;exact⟨_,_,rfl,.inr h1,by rw[<- r1.length];exact c,ρ,S,τ,_,R,r,r1,h⟩
  | _=>exact h.elim
abbrev FQ (o i v:A)(S:jD):R Unit:=match o,i with
 | .ref n,.int k=>opt (jE S n) λxs=>opt (Fo xs.length k) λj=>.ok Unit.unit (S.set n<|.lst<|xs.set j v)
 | _,_=>.no
abbrev rSt (X:Cx):M9:=λo i v H Q=>∃ρ S c d e,Rel X.K ρ H S/\AV X.K ρ H c o/\AV X.K ρ H d i/\AV X.K ρ H e v/\(FQ c d e S).post (λ_ f=>∀ρ' H',Ext ρ ρ' H H'->Rel X.K ρ' H' f->Q H') (XE X ρ H)
def U0:Mx X (rSt X):=λpins s σ H o i v d iv u Q I f B q h9=>by
 obtain⟨ρ,S,F,C,D,R,h1,h2,h3,h⟩:=h9
 cases h1 with
 | @ref p n c=>
  cases h2 with
  | int k=>
   kpc_g;obtain⟨j,g,h⟩:=jG h;obtain⟨t,e,r⟩:=R.lst c<|jS hn;obtain⟨ex,m⟩:=R.put c (jS hn)<|r.set h3 j;exact set_list pins s σ H _ _ v d iv u Q I f B q ⟨p,t,k,j,rfl,rfl,e,by rw[<- r.length];exact g,h _ _ ex m⟩
  | _=>exact h.elim
 | _=>exact h.elim
abbrev Z4 (co J:Ex):Tg:=λa τ S=>(co τ S).bind λo S1=>(J τ S1).bind λi S2=>(FQ o i a S2).bind λ_ S3=>.ok τ S3
def EV{co J:Ex}(U:AE X o co)(hi:AE X i J)
  (ha:(∀v,assign (.Subscript o i pos) X.env v=(do
   let ov <- holding [v] (eval o X.env)
   let iv <- holding [v,ov] (eval i X.env)
   standAt pos
   holding [v,ov,iv] (setItem ov iv v)
   release [v,ov,iv] []))<|>θ):AG X (.Subscript o i pos) (Z4 co J):=PG.imp (Jf U hi U0 ha) λv σ H Q h9=>by
 obtain⟨ρ,S,τ,a,R,r,va,h⟩:=h9;gp_on;kpf_c;exact h3 ρ3 H3 σ ((e1.trans e2).trans e3) R3<|r.ext<|(e1.trans e2).trans e3
abbrev qu:Sm:=λτ S=>.nx τ S
abbrev j9 (c d:Sm):Sm:=λτ S=>match c τ S with
 | .nx e f=>d e f
 | r=>r
def kN:V9 X [] qu:=Fl.imp U4 λD σ H ⟨ρ,S,τ,R,r,h⟩=>h ρ H σ .refl R r
def Vx{D:Ends}{H:Hp}(h:tS X (j9 c d) D σ H):aaw (tS X c) (tS X d) D σ H:=by
 kl_no;refine⟨ρ,S,τ,R,r,?_⟩;unfold j9 at h
 cases hc:c τ S with
 | nx e S1=>
  rw[hc]at h;exact λρ1 H1 f e1 R1 r1=>⟨ρ1,S1,e,R1,r1,LW.ext h e1⟩
 | rt a S1=>rw[hc]at h;exact h
 | bk e S1=>rw[hc]at h;exact h
 | ct e S1=>rw[hc]at h;exact h
 | ex x S1=>rw[hc]at h;exact h
 | no=>rw[hc]at h;exact h
def jI(h1:AS X st c)(h2:V9 X rest d):V9 X (st::rest) (j9 c d):=Fl.imp (OW h1 h2) λD σ H h=>Vx h
def jM(h1:AS X st c):V9 X [st] c:=UO h1
abbrev Zj:Sm:=λτ S=>.bk τ S
abbrev Z6:Sm:=λτ S=>.ct τ S
abbrev pQ (e:Ex):Sm:=λτ S=>.of (e τ S) λ_ S1=>.nx τ S1
def nj{f:Ex}(J:AE X e f)(hs:swapsWith e none pos.line X.env=pure false<|>η):AS X (.Expr e pos) (pQ f):=PS.imp (T8 J hs) λD σ H ⟨ρ,S,τ,R,r,h⟩=>
 ⟨ρ,S,τ,R,r,jF (of_post h) .refl λa S1 h1 ρ1 H1 x e1 R1 v1=>h1 ρ1 H1 σ e1 R1<|r.ext e1⟩
abbrev lX (e:Ex):Sm:=λτ S=>.of (e τ S) λa S1=>.rt a S1
def j7{f:Ex}(J:AE X e f):AS X (.Return (some e) pos) (lX f):=PS.imp (Xh J) λD σ H ⟨ρ,S,τ,R,r,h⟩=>⟨ρ,S,τ,R,r,jF (of_post h) .refl λa S1 h1=>h1⟩
abbrev aat:Sm:=λτ S=>.rt .non S
abbrev yU (t:Te)(c d:Sm):Sm:=λτ S=>.of (t τ S) λb S1=>match b with|true=>c τ S1|false=>d τ S1
def mW{t:Te}(J:AT X e t)(U:V9 X ca c)(hb:V9 X cb d):AS X (.If e ca cb pos) (yU t c d):=PS.imp (aap J U hb) λD σ H h9=>by
 room;refine⟨ρ,S,τ,R,r,jF (of_post h) .refl λb S1 h1 ρ1 H1 e1 R1=>?_⟩
 cases b with
 | true=>rw[aK rfl];exact⟨ρ1,S1,τ,R1,r.ext e1,LW.ext h1 e1⟩
 | false=>rw[aI bI];exact⟨ρ1,S1,τ,R1,r.ext e1,LW.ext h1 e1⟩
abbrev kI (e:Ex)(g:Tg):Sm:=λτ S=>.of (e τ S) λa S1=>.of (g a τ S1) λc S2=>.nx c S2
def Uk{f:Ex}{g:Tg}{D:Ends}{H:Hp}(h:tS X (kI f g) D σ H):TV (tE X f) (tG X g) D σ H:=by
 kl_no;exact⟨ρ,S,τ,R,r,jF (of_post h) .refl λa S1 h1 ρ1 H1 x e1 R1 v1=>⟨ρ1,S1,τ,a,R1,r.ext e1,v1,jF (of_post h1) e1 λc S2 h2=>Tn.ext h2 e1⟩⟩
def oU{tg:aC}{f:Ex}{g:Tg}(J:AE X e f)(hg:AG X tg g)(hs:swapsWithSole [tg] e pos.line X.env=pure false<|>η)(hw:swappedStores [tg] e X.env=pure none<|>η)
  (h1:(assignEach [tg] X.env).map (·.2)=[assign tg X.env]<|>η):AS X (.Assign [tg] e pos) (kI f g):=PS.imp (ZK J hg hs hw h1) λD σ H h=>Uk h
theorem ku{i:Nat}{x:Str}{f:Ex}(J:X.N.Nodup)(U:AE X e f)(hi:X.N[i]?=some x<|>η)(hx:Loc X.env.scope x:=by first|exact Or.inl rfl|exact Or.inr rfl)(hs:(swapsWith e (some<|.Name x pos') pos.line X.env=pure false)<|>η)(hf:X.fn x=true\/X.env.scope.names.lookup x=some .local<|>γ) :
  AS X (.Assign [.Name x pos'] e pos) (kI f<|kh i):=PS.imp (Xb J hi hx U hs hf) λD σ H ⟨ρ,S,τ,R,r,h⟩=>
 ⟨ρ,S,τ,R,r,jF (of_post h) .refl λa S1 h1 ρ1 H1 x e1 R1 v1=>h1 ρ1 H1 _ e1 R1<|(r.ext e1).set v1⟩
abbrev ac1 (i j:Nat)(c:qc):Sm:=λτ S=>.of (c τ S) λas S1=>match as with
 | [a,b]=>.nx ((τ.set i a).set j b) S1
 | _=>.no
abbrev adb (a b:A)(S:jD):R A:=match a,b with
 | .int i,.int j=>.ok (.int<|i+j) S
 | _,_=>.no
abbrev ab7 (i:Nat)(f:A->A->jD->R A)(e:Ex):Sm:=λτ S=>if (τ.getD i .unb).p_ then .no else .of (e τ S) λb S1=>.of (f (τ.getD i .unb) b S1) λc S2=>.nx (τ.set i c) S2
abbrev UC (a b:A)(S:jD):R A:=match a,b with
 | .ref n,.int i=>opt (jE S n) λxs=>gd (0<=i) (opt (xs[i.toNat]?) λx=>.ok x S)
 | _,_=>.no
abbrev aam (co J U:Ex)(f:A->A->jD->R A):Sm:=λτ S=>.of (co τ S) λo S1=>.of (J τ S1) λi S2=>.of (UC o i S2) λx S3=>.of (U τ S3) λy c=>.of (f x y c) λz d=>.of (FQ o i z d) λ_ e=>.nx τ e
end
structure Src where
 k:Nat
 get:Nat->jD->Option A
 fin:jD->Bool
structure JR (K:au)(s:Src)(J:It)(ρ0:bb)(H0:Hp):Prop where
 go:∀(i:Nat) (S:jD) (H:Hp) (ρ:bb) (x:A),Ext0 ρ0 ρ H0 H->Rel K ρ H S->s.get i S=some x->J.go i H/\∀v H',J.yld i H v H'->Ext ρ ρ H H'/\Rel K ρ H' S/\AV K ρ H' x v
 stop:∀(S:jD) (H:Hp) (ρ:bb),Ext0 ρ0 ρ H0 H->Rel K ρ H S->s.fin S=true->J.stop s.k H
meta abbrev Ic:=ae->jD->R Src
abbrev tI (X:Cx)(c:Ic):TI:=λσ H Q=>∃ρ S τ,Rel X.K ρ H S/\SR X.K ρ H τ σ/\(c τ S).post (λs d=>∀ρ' H' J,Ext ρ ρ' H H'->Rel X.K ρ' H' d->JR X.K s J ρ' H'->Q J H') (XE X ρ H)
abbrev AI (X:Cx)(tg iter:aC)(c:Ic):Prop:=PI X tg iter<|tI X c
abbrev nW (xs:ae):Src:=⟨xs.length,λi _=>xs[i]?,λ_=>true⟩
abbrev kY (n k:Nat):Src:=⟨k,λi S=>(jE S n).bind (·[i]?),λS=>match jE S n with
 | some ys=>decide (ys.length<=k)
 | none=>false⟩
abbrev uM (lo hi:Int):Src:=⟨(hi-lo).toNat,λi _=>if i<(hi-lo).toNat then some (.int<|lo+i)else none,λ_=>true⟩
abbrev lV (c:Ex):Ic:=λτ S=>(c τ S).bind λa S1=>match a with
 | .tup xs=>.ok (nW xs) S1
 | .frz xs=>.ok (nW xs) S1
 | .ref n=>opt (jE S1 n) λxs=>.ok (kY n xs.length) S1
 | .str x=>gd (x.cps.all (· < 128)=true) (.ok (nW<|x.cps.toList.map λc=>.str ⟨#[c]⟩) S1)
 | _=>.no
section
variable {X:Cx}{pos:Pos}{tg e a b:aC}
def ZC{K:au}{J:Hp}{p:ak}(h:oE K J p vs)(r:AVs K ρ0 J xs vs):JR K (nW xs) (ZW K p) ρ0 J where
 go:=λi S H ρ x e R g=>by
  obtain⟨v,c,d⟩:=(AVs.lU e r).get g;have hs:=e.sqT h;refine⟨⟨vs,v,hs,c⟩,λw H' ⟨e1,y⟩=>?_⟩;subst e1;have:=y vs hs;rw[c]at this
  cases this
  exact⟨.refl,R,d⟩
 stop:=λS H ρ e R _=>⟨vs,e.sqT h,by rw[<- r.length];exact aR _⟩
def Yd{K:au}{J:Hp}{p:ak}(h:Fz K J p vs)(r:AVs K ρ0 J xs vs):JR K (nW xs) (Itl K p) ρ0 J where
 go:=λi S H ρ x e R g=>by
  obtain⟨v,c,d⟩:=(AVs.lU e r).get g;have hs:=(e.fz h).Tj;refine⟨⟨vs,v,hs,c⟩,λw H' ⟨e1,y⟩=>?_⟩;subst e1;have:=y vs hs;rw[c]at this
  cases this
  exact⟨.refl,R,d⟩
 stop:=λS H ρ e R _=>⟨vs,(e.fz h).Tj,by rw[<- r.length];exact aR _⟩
def Zr{K:au}{J:bb}{U:Hp}{p:ak}{n k:Nat}(h:J[n]?=some p):JR K (kY n k) (Itl K p) J U where
 go:=λi S H ρ x e R g=>by
  obtain⟨ys,hn,j⟩:=cH.mp<|show(jE S n).bind (·[i]?)=some x from g;obtain⟨c,h1,r⟩:=R.lst (e.get h)<|jS hn;obtain⟨v,d,f⟩:=r.get j;refine⟨⟨c,v,pK.of h1,d⟩,λw H' ⟨e1,y⟩=>?_⟩;subst e1;have:=y c<|pK.of h1;rw[d]at this
  cases this
  exact⟨.refl,R,f⟩
 stop:=λS H ρ e R g=>by
  have g:(match jE S n with
   | some ys=>decide (ys.length<=k)
   | none=>false)=true:=g
  cases hn:jE S n with
  | none=>rw[hn]at g;cases g
  | some ys=>
   rw[hn]at g;obtain⟨c,h1,r⟩:=R.lst (e.get h)<|jS hn;exact⟨c,pK.of h1,by rw[<- r.length];exact bQ g⟩
def ND{K:au}{J:Hp}{lo hi:Int}:JR K (uM lo hi) (Itr lo (hi-lo).toNat) ρ0 J where
 go:=λi S H ρ x e R g=>by
  have g:(if i<(hi-lo).toNat then some (A.int<|lo+i)else none)=some x:=g;by_cases c:i<(hi-lo).toNat
  ·rw[aK c]at g
   cases g
   refine⟨c,λw H' ⟨e1,y⟩=>?_⟩;subst e1 y;exact⟨.refl,R,.int _⟩
  ·rw[aI c]at g;cases g
 stop:=λS H ρ e R _=>aR _
def Yq{K:au}{J:Hp}{x:Str}:JR K (nW<|x.cps.toList.map λc=>A.str ⟨#[c]⟩) (Its x) ρ0 J where
 go:=λi S H ρ y e R g=>by
  have g:(x.cps.toList.map λc=>A.str ⟨#[c]⟩)[i]?=some y:=g;rw[aO]at g;obtain⟨c,hc,rfl⟩:=aX.mp g;rw[cO]at hc;refine⟨(Array.getElem?_eq_some_iff.mp hc).1,λw H' ⟨e1,j,d,f⟩=>?_⟩;rw[hc]at d
  cases d
  subst e1 f;exact⟨.refl,R,.str _⟩
 stop:=λS H ρ e R _=>by
  show(x.cps.toList.map λc=>A.str ⟨#[c]⟩).length=x.cps.size;rw[aH,dQ]
def mw{c:Ex}(J:AE X e c):AI X tg e (lV c):=λpins s σ H Q I h9=>by
 room;have d:=jJ h
 cases hc:c τ S with
 | no=>rw[hc]at d;exact d.elim
 | ex x S1=>
  rw[hc]at d;exact N7 J pins s σ H Q I ⟨ρ,S,τ,R,r,by rw[hc];exact d⟩
 | ok a S1=>
  rw[hc]at d
  cases a with
  | tup xs=>
   refine N7 J pins s σ H Q I ⟨ρ,S,τ,R,r,?_⟩;rw[hc];intro ρ1 H1 x e1 R1 v1
   cases v1 with
   | tup h1 r1=>exact⟨_,rfl,⟨_,(oE.of h1)⟩,d ρ1 H1 _ e1 R1<|ZC (oE.of h1) r1⟩
  | frz xs=>
   refine LY J pins s σ H Q I ⟨ρ,S,τ,R,r,?_⟩;rw[hc];intro ρ1 H1 x e1 R1 v1
   cases v1 with
   | frz h1 r1=>exact⟨_,rfl,⟨_,h1.Tj⟩,d ρ1 H1 _ e1 R1<|Yd h1 r1⟩
  | ref n=>
   obtain⟨xs,hn,d⟩:=jG d;refine LY J pins s σ H Q I ⟨ρ,S,τ,R,r,?_⟩;rw[hc];intro ρ1 H1 x e1 R1 v1
   cases v1 with
   | ref f=>
    obtain⟨j,h1,r1⟩:=R1.lst f<|jS hn;exact⟨_,rfl,⟨_,pK.of h1⟩,d ρ1 H1 _ e1 R1<|Zr f⟩
  | str x=>
   obtain⟨g,d⟩:=j6 d;refine Yg J pins s σ H Q I ⟨ρ,S,τ,R,r,?_⟩;rw[hc];intro ρ1 H1 v e1 R1 v1
   cases v1 with
   | str=>exact⟨x,rfl,g,d ρ1 H1 _ e1 R1 Yq⟩
  | _=>exact d.elim
abbrev bnd (i:Int):Prop:=-(2 ^ 62)<=i/\i<2 ^ 62
instance (i:Int):Decidable (bnd i):=by unfold bnd;infer_instance
abbrev Au (c:Ex):Ic:=λτ S=>(c τ S).bind λa S1=>match a with
 | .int j=>gd (bnd j) (.ok (uM 0 j) S1)
 | _=>.no
abbrev vI (c d:Ex):Ic:=λτ S=>(c τ S).bind λa S1=>(d τ S1).bind λb S2=>match a,b with
 | .int i,.int j=>gd (bnd i/\bnd j) (.ok (uM i j) S2)
 | _,_=>.no
def Cw{p:Pos}{c:Ex}(J:X.mg "range" = none)(U:AE X a c)(hg:Gl X "range"<|>η)(hs:starEach [a] X.env=[(false,eval a X.env)]<|>η):AI X tg (.Call (.Name "range" p) [a] [] pos) (Au c):=λpins s σ H Q I h9=>by
 room;refine Ng hg J (xy U ES hs) hs pins s σ H Q I ⟨ρ,S,τ,R,r,jF (jJ h) .refl λx S1 h1 ρ1 H1 v e1 R1 v1=>?_⟩
 cases v1 with
 | int j=>
  obtain⟨d,h1⟩:=j6 h1;exact⟨_,rfl,d.1,d.2,by have:=h1 ρ1 H1 _ e1 R1 ND;rwa [iR]at this⟩
 | _=>exact h1.elim
def Cj{p:Pos}{c d:Ex}(hm:X.mg "range" = none)(ha:AE X a c)(U:AE X b d)(hg:Gl X "range"<|>η)(hs:starEach [a,b] X.env=[(false,eval a X.env),(false,eval b X.env)]<|>η)(J:starEach [b] X.env=[(false,eval b X.env)]<|>η):AI X tg (.Call (.Name "range" p) [a,b] [] pos) (vI c d):=λpins s σ H Q I h9=>by
 room;refine Nh hg hm (xy ha (xy U ES J)<|by rw[hs,J]) hs J pins s σ H Q I ⟨ρ,S,τ,R,r,jF (jJ h) .refl λx S1 h1 ρ1 H1 v e1 R1 v1=>⟨ρ1,S1,τ,R1,r.ext e1,jF (jJ h1) e1 λy S2 h2 ρ2 H2 w e2 R2 v2=>?_⟩⟩
 cases v1 with
 | int i=>
  cases v2 with
  | int j=>
   obtain⟨U,h2⟩:=j6 h2;exact⟨_,_,rfl,⟨U.1.1,U.1.2,U.2.1,U.2.2⟩,h2 ρ2 H2 _ (e1.trans e2) R2 ND⟩
  | _=>exact h2.elim
 | _=>exact h2.elim
abbrev qT (s:Src)(g:Tg)(c:Sm):Nat->Nat->Sm
 | 0,_=>λτ S=>if s.fin S then .nx τ S else .no
 | k+1,i=>λτ S=>match s.get i S with
  | none=>.no
  | some x=>.of (g x τ S) λf S1=>match c f S1 with
   | .nx d e=>qT s g c k (i+1) d e
   | .ct d e=>qT s g c k (i+1) d e
   | .bk d e=>.nx d e
   | r=>r
abbrev lO (src:Ic)(g:Tg)(c:Sm):Sm:=λτ S=>.of (src τ S) λs S1=>qT s g c s.k 0 τ S1
def nV{iter:aC}{src:Ic}{g:Tg}{c:Sm}(hp:PassesOwn (model X.prog X.w) X.A X.env X.xe)(hc:X.calm=true)(hi:AI X tg iter src)(hg:AG X tg g)(hb:V9 X body c)
  (hs:(∀x,foldedSetIterable iter X.env x=pure x)<|>θ):AS X (.For tg iter body [] pos) (lO src g c):=PS.imp (YV hp hc hi hg hb hs) λD σ H h9=>by
 room;refine⟨ρ,S,τ,R,r,jF (of_post h) .refl λs S1 h1 ρ1 H1 J e1 R1 Y=>?_⟩;refine⟨λi m q H'=>m+i=s.k/\∃ρ' p d,Ext ρ1 ρ' H1 H'/\Rel X.K ρ' H' p/\SR X.K ρ' H' d q/\LW X ρ' H' D (qT s g c m i d p),⟨s.k,rfl,ρ1,S1,τ,.refl,R1,r.ext e1,LW.ext h1 e1⟩,?_⟩;rintro i m V H2 ⟨hm,ρ2,S2,B,e2,R2,r2,h2⟩
 cases m with
 | zero=>
  left;have h2:LW X ρ2 H2 D (if s.fin S2 then .nx B S2 else .no):=h2
  cases hf:s.fin S2 with
  | false=>rw[hf]at h2;exact h2.elim
  | true=>
   rw[hf]at h2;refine⟨by rw[show i=s.k by lia];exact Y.stop S2 H2 ρ2 e2.toExt0 R2 hf,h2 ρ2 H2 V .refl R2 r2⟩
 | succ m=>
  right;have h2:LW X ρ2 H2 D (match s.get i S2 with
   | none=>.no
   | some x=>.of (g x B S2) λP S1=>match c P S1 with
    | .nx d p=>qT s g c m (i+1) d p
    | .ct d p=>qT s g c m (i+1) d p
    | .bk d p=>.nx d p
    | r=>r):=h2
  cases T:s.get i S2 with
  | none=>rw[T]at h2;exact h2.elim
  | some x=>
   rw[T]at h2;obtain⟨O,hy⟩:=Y.go i S2 H2 ρ2 x e2.toExt0 R2 T;refine⟨O,λq H'=>m+(i+1)=s.k/\∃ρ' p d,Ext ρ1 ρ' H1 H'/\Rel X.K ρ' H' p/\SR X.K ρ' H' d q/\LW X ρ' H' D (qT s g c m (i+1) d p),λq H' z=>⟨m,eS _,z⟩,λv H3 y=>?_⟩;obtain⟨e3,R3,v3⟩:=hy v H3 y;refine⟨ρ2,S2,B,x,R3,r2.ext e3,v3,jF (of_post h2) e3 λL Z j M H4 σ4 e4 R4 r4=>⟨M,Z,L,R4,r4,?_⟩⟩;have e:=e3.trans e4
   cases f:c L Z with
   | nx t F=>rw[f]at j;exact λC H5 N G W U=>⟨(),C,F,t,(e2.trans e).trans G,W,U,LW.ext j<|e.trans G⟩
   | ct t F=>rw[f]at j;exact λC H5 N G W U=>⟨(),C,F,t,(e2.trans e).trans G,W,U,LW.ext j<|e.trans G⟩
   | bk t F=>rw[f]at j;exact Tn.ext j e
   | rt x5 F=>rw[f]at j;exact DY.ext j e
   | ex x5 F=>rw[f]at j;exact XE.ext j e
   | no=>rw[f]at j;exact j
end
abbrev R.r_ {α β:Type}(r:R α)(f:α->jD->R β):R β:=match r with
 | .ok a S=>f a S
 | _=>.no
def xm{α β:Type}{r:R α}{f:α->jD->R β}{b:β}(h:r.r_ f=.ok b S2):∃a S,r=.ok a S/\f a S=.ok b S2:=by
 cases r with
 | ok a S=>exact⟨a,S,rfl,h⟩
 | ex _ _=>cases h
 | no=>cases h
def II{α β:Type}{r:R α}{f:α->jD->R β}{P:β->jD->Prop}{E:Str->jD->Prop}(h:(r.r_ f).post P E):∃a S,r=.ok a S/\(f a S).post P E:=by
 cases r with
 | ok a S=>exact⟨a,S,rfl,h⟩
 | ex _ _=>exact h.elim
 | no=>exact h.elim
def ZP{α β:Type}{o:Option β}{f:β->R α}{a:α}(h:opt o f=.ok a S):∃b,o=some b/\f b=.ok a S:=by
 cases o with
 | none=>cases h
 | some b=>exact⟨b,rfl,h⟩
abbrev m9 (s:Src)(g:Tg)(t:Te)(e:Ex):Nat->Nat->ae->jD->R (ae)
 | 0,_=>λ_ S=>if s.fin S then .ok [] S else .no
 | k+1,i=>λτ S=>opt (s.get i S) λx=>(g x τ S).r_ λc S1=>(t c S1).r_ λb S2=>match b with
  | true=>(e c S2).r_ λy S3=>(m9 s g t e k (i+1) c S3).r_ λys d=>.ok (y::ys) d
  | false=>m9 s g t e k (i+1) c S2
abbrev lN (cap:List<|bn)(τ:ae):ae:=cap.map λo=>match o with
 | some j=>τ.getD j .unb
 | none=>.unb
abbrev kF (cap:List<|bn)(src:Ic)(g:Tg)(t:Te)(e:Ex):Ex:=λτ S=>(src τ S).bind λs S1=>(m9 s g t e s.k 0 (lN cap τ) S1).r_ λys S2=>newL ys S2
abbrev oW:Te:=λ_ S=>.ok true S
def FF{s:Src}{g:Tg}{t:Te}{e:Ex}{k:Nat}{T:Prop}(h:m9 s g t e (k+1) i τ S=.ok zs S')
  (q:∀x τ1 S1 b S2,s.get i S=some x->g x τ S=.ok τ1 S1->t τ1 S1=.ok b S2->(b=true->∃y S3 ws,e τ1 S2=.ok y S3/\m9 s g t e k (i+1) τ1 S3=.ok ws S'/\zs=y::ws)->(b=false->m9 s g t e k (i+1) τ1 S2=.ok zs S')->T):T:=by
 obtain⟨x,d,h⟩:=ZP h;obtain⟨τ1,S1,h1,h⟩:=xm h;obtain⟨b,S2,h2,h⟩:=xm h;refine q x τ1 S1 b S2 d h1 h2 (λc=>?_) λc=>?_
 ·subst c;obtain⟨y,S3,h3,h⟩:=xm h;obtain⟨ws,j,f,h⟩:=xm h
  cases h
  exact⟨y,S3,ws,h3,f,rfl⟩
 ·subst c;exact h
structure Out (ρ1:bb)(H1:Hp)(D:ak)(accV:List V)(ρ:bb)(H:Hp):Prop where
 e0:Ext0 ρ1 ρ H1 H
 fr:∀a u,a≠D->H1 a=some u->a∉ρ1->H a=some u
 nw:∀a∈ρ,a∈ρ1\/H1 a=none
 nD:D∉ρ
 hD:H D=some (.lst accV)
def Out.stay{H1 H3 H7:Hp}{D:ak}(o:Out ρ1 H1 D accV ρ3 H3)(U:H1 D=none)(J:Ext ρ3 ρ7 H3 H7):Out ρ1 H1 D accV ρ7 H7:=by
 refine⟨⟨o.e0.pre.trans J.pre,λa u i h=>J.im a u i<|o.e0.im a u i h⟩,λa u na d e=>J.fr a u (o.fr a u na d e) λz=>(o.nw a z).elim e λz=>by(rw[z]at d;cases d),λa f=>?_,λz=>(J.nw D z).elim o.nD λz=>by(rw[o.hD]at z;cases z),J.fr D _ o.hD o.nD⟩;by_cases c:a∈ρ1
 ·exact .inl c
 ·right
  cases q:H1 a with
  | none=>rfl
  | some u=>
   have g:a≠D:=jV q U
   rcases J.nw a f with z|z
   ·exact((o.nw a z).elim c λz=>by(rw[z]at q;cases q)).elim
   ·rw[o.fr a u g q c]at z;cases z
def Out.put{H1 H:Hp}{D:ak}(o:Out ρ1 H1 D accV ρ H)(ex:Ext0 ρ ρ H<|upd H D<|.lst vs):Out ρ1 H1 D vs ρ (upd H D<|.lst vs):=
 ⟨⟨o.e0.pre,λa u i h=>ex.im a u i<|o.e0.im a u i h⟩,λa u na d c=>by rw[jN na];exact o.fr a u na d c,o.nw,o.nD,kg⟩
def Out.end{H1 H:Hp}{D:ak}(o:Out ρ1 H1 D accV ρ H)(J:H1 D=none):Ext ρ1 (ρ++[D]) H1 H:=by
 refine⟨⟨o.e0.pre.trans<|eW _ _,o.e0.im⟩,λa u c na=>o.fr a u (jV c J) c na,λa d=>?_⟩
 rcases bz.mp d with z|z
 ·exact o.nw a z
 ·have:a=D:=by simpa using z
  rw[this];exact .inr J
abbrev Cq (K:au)(ρ1:bb)(H1:Hp)(D:ak)(ys:ae)(k:Nat)(E:bb->Hp->Prop)(P:Nat->Nat->ae->jD->ae->Prop)(i m:Nat)(σ:L2.St)(H:Hp):Prop:=
 m+i=k/\∃ρ S τ acc zs accV,Out ρ1 H1 D accV ρ H/\E ρ H/\Rel K ρ H S/\SR K ρ H τ σ/\AVs K ρ H acc accV/\P m i τ S zs/\acc++zs=ys
section
variable {K:au}{ρ1 ρ:bb}{H1 H:Hp}{D:ak}{ys acc zs:ae}{accV:List V}{k i m:Nat}{E:bb->Hp->Prop}{P:Nat->Nat->ae->jD->ae->Prop}{σ:L2.St}{S:jD}{τ:ae}
def Cq.el{T:Prop}(h:Cq K ρ1 H1 D ys k E P i m σ H)(q:∀ρ S τ acc zs accV,m+i=k->Out ρ1 H1 D accV ρ H->E ρ H->Rel K ρ H S->SR K ρ H τ σ->AVs K ρ H acc accV->P m i τ S zs->acc++zs=ys->T):T:=by
 obtain⟨e,ρ,S,τ,acc,zs,accV,h1,h2,h3,f,c,d,g⟩:=h;exact q ρ S τ acc zs accV e h1 h2 h3 f c d g
def Cq.of(J:m+i=k)(o:Out ρ1 H1 D accV ρ H)(e:E ρ H)(R:Rel K ρ H S)(r:SR K ρ H τ σ)(v:AVs K ρ H acc accV)(p:P m i τ S zs)(q:acc++zs=ys):Cq K ρ1 H1 D ys k E P i m σ H:=⟨J,ρ,S,τ,acc,zs,accV,o,e,R,r,v,p,q⟩
end
abbrev tE0 (K:au)(c:Ex):TE:=λσ H Q=>∃ρ S τ a d,Rel K ρ H S/\SR K ρ H τ σ/\c τ S=.ok a d/\∀ρ' H' v,Ext ρ ρ' H H'->Rel K ρ' H' d->AV K ρ' H' a v->Q v H'
abbrev tT0 (K:au)(c:Te):TT:=λσ H Q=>∃ρ S τ a d,Rel K ρ H S/\SR K ρ H τ σ/\c τ S=.ok a d/\∀ρ' H',Ext ρ ρ' H H'->Rel K ρ' H' d->Q a H'
abbrev tG0 (K:au)(g:Tg):TG:=λv σ H Q=>∃ρ S τ a c e,Rel K ρ H S/\SR K ρ H τ σ/\AV K ρ H a v/\g a τ S=.ok c e/\∀ρ' H' d,Ext ρ ρ' H H'->Rel K ρ' H' e->SR K ρ' H' c d->Q d H'
section
variable {X:Cx}{pos:Pos}{tg iter elt e:aC}{ifs:List aC}{scope:Scope}{N:ar}{cap:List (bn)}{src:Ic}{g:Tg}{t:Te}{c:Ex}
def AE.e0{K:au}(hK:X.K=K)(h:AE X e c):PE X e (tE0 K c):=PE.imp h λσ H Q ⟨ρ,S,τ,a,g,R,r,hc,q⟩=>⟨ρ,S,τ,by rw[hK];exact R,by rw[hK];exact r,by rw[hc];exact λρ' H' v e d f=>q ρ' H' v e (by rw[<- hK];exact d)<|by rw[<- hK];exact f⟩
def AT.t0{K:au}(hK:X.K=K)(h:AT X e t):PT X e (tT0 K t):=PT.imp h λσ H Q ⟨ρ,S,τ,a,d,R,r,hc,q⟩=>⟨ρ,S,τ,by rw[hK];exact R,by rw[hK];exact r,by rw[hc];exact λρ' H' e c=>q ρ' H' e<|by rw[<- hK];exact c⟩
def AG.g0{K:au}(hK:X.K=K)(h:AG X e g):PG X e (tG0 K g):=by
 subst hK;refine PG.imp h λv σ H Q h9=>?_;obtain⟨ρ,S,τ,a,c,d,R,r,va,hc,q⟩:=h9;exact⟨ρ,S,τ,a,R,r,va,by rw[hc];exact q⟩
abbrev ATs (X:Cx)(ifs:List aC)(t:Te):Prop:=YK X ifs<|tT0 X.K t
def oB:ATs X [] oW:=λpins s σ H Q I ⟨ρ,S,τ,a,c,R,r,hc,q⟩=>UY pins s σ H Q I<|by cases hc;exact q ρ H .refl R
def zm(h:AT X e t):ATs X [e] t:=Vb<|h.t0 rfl
def abI{K:au}{H:Hp}(r:SR K ρ H τ σ)(cap:List<|bn):SR K ρ H (lN cap τ) (cap.map<|Yi σ):=by
 refine⟨by simp[lN],λi a h=>?_⟩;unfold lN at h;rw[aO]at h;obtain⟨o,d,e⟩:=aX.mp h
 cases o with
 | none=>exact .inl e.symm
 | some j=>
  have e:τ.getD j .unb=a:=e
  cases c:τ[j]? with
  | none=>rw[aJ,c]at e;exact .inl e.symm
  | some b=>
   rw[aJ,c]at e;have e:b=a:=e;subst e
   rcases r.at j b c with z|⟨v,h1,h2⟩
   ·exact .inl z
   ·exact .inr ⟨v,by rw[aO,d];show some ((σ[j]?).getD none)=_;rw[h1];rfl,h2⟩
def Rel.Gy{K:au}{H:Hp}{p:ak}(R:Rel K ρ H S)(J:H p=none):p∉ρ:=λg=>by
 obtain⟨n,hn,e⟩:=List.mem_iff_getElem.mp g;have f:n<S.length:=by rw[<- R.len];exact hn
 have:=R.at n p S[n] (by rw[aF hn,e]) (aF f)
 cases c:S[n]with
 | lst xs=>rw[c]at this;obtain⟨d,h,_⟩:=this;rw[J]at h;cases h
 | dct _|nG _|dks _|dcp _=>rw[c]at this;obtain⟨d,h,_⟩:=this;rw[J]at h;cases h
 | dcf _|dkf _=>rw[c]at this;obtain⟨_,d,h,_⟩:=this;rw[J]at h;cases h
 | ins _ _=>rw[c]at this;obtain⟨_,_,h⟩:=this;rw[J]at h;cases h
def FL(σ:L2.St)(H:Hp)(Q:VK)(h:tE X (kF cap src g t c) σ H Q):tLC cap (tI X src) (tG0 X.K g) (tT0 X.K t) (tE0 X.K c) σ H Q:=by
 kl_no;refine⟨ρ,S,τ,R,r,jF (jJ h) .refl λs S1 h1 ρ1 H1 J e1 R1 jr D hD=>?_⟩;obtain⟨ys,S2,T,h1⟩:=II h1;obtain⟨C,h1⟩:=j6 h1;have h1:DY X ρ H Q (.ref S2.length) (S2++[.lst ys]):=h1;obtain⟨eD,RD⟩:=R1.im (u:=.lst []) hD;refine⟨Cq X.K ρ1 H1 D ys s.k (λ_ _=>True) λm i τ S zs=>m9 s g t c m i τ S=.ok zs S2,⟨s.k,.of rfl ⟨eD.toExt0,λa u na hu _=>by rw[jN na];exact hu,λa ha=>.inl ha,R1.Gy hD,kg⟩ trivial RD (abI ((r.ext e1).ext eD) cap) .nil T rfl⟩,?_⟩;intro i m σ3 H3 hw;refine hw.el λρ3 S3 Y acc zs accV hm q _ R3 r3 j d e=>?_;clear hw
 cases m with
 | zero=>
  left;have d:(if s.fin S3 then Am.R.ok [] S3 else .no)=.ok zs S2:=d
  cases hf:s.fin S3 with
  | false=>rw[hf]at d;cases d
  | true=>
   rw[hf]at d
   cases d
   rw[cR]at e;subst e;refine⟨by rw[show i=s.k by lia];exact jr.stop _ H3 ρ3 q.e0 R3 hf,?_⟩;obtain⟨RT,gt⟩:=R3.take q.hD q.nD j;exact h1 (ρ3++[D]) H3 _ (e1.trans<|q.end hD) RT<|.ref gt
 | succ m=>
  right;refine FF d λx B S4 b S5 hx P Z hT hF=>?_;have jg:=jr.go i S3 H3 ρ3 x q.e0 R3 hx;refine⟨jg.1,λv H4 y=>?_⟩;obtain⟨e4,R4,v4⟩:=jg.2 v H4 y;refine⟨ρ3,S3,Y,x,B,S4,R4,r3.ext e4,v4,P,λU H5 σ5 e5 R5 M=>⟨U,S4,B,b,S5,R5,M,Z,λW H6 G R6=>?_⟩⟩;have f:=(e4.trans e5).trans G
  cases b with
  | false=>
   dsimp only;rw[aI bI];exact⟨m,eS _,.of () (q.stay hD f) trivial R6 (M.ext G) (j.ext f) (hF rfl) e⟩
  | true=>
   dsimp only;rw[aK rfl];obtain⟨y,S6,ws,V,O,F⟩:=hT rfl;refine⟨W,S5,B,y,S6,R6,M.ext G,V,λρ7 H7 w N R7 v7=>?_⟩;have L:=q.stay hD<|f.trans N;obtain⟨p,R8⟩:=R7.out (ws:=accV++[w]) L.hD L.nD;have l1:=j.length;refine⟨accV,L.hD,?_,m,eS _,.of () (L.put p) trivial R8 ((M.ext<|G.trans N).lU p) (AVs.lU p<|(j.ext<|f.trans N).append<|.one v7) O ?_⟩
   ·have:(acc++zs).length<=sizeLine:=by rw[e];exact C
    rw[F,br,bJ]at this
    lia
   ·rw[cA,<- e,F];rfl
def mV(hc:X.calm=true)(J:CpScope X scope N cap)(hi:AI X tg iter src)(hg:∀C s₀ H₀ ex,AG (oX X scope N C s₀ H₀ ex) tg g)(U:∀C s₀ H₀ ex,ATs (oX X scope N C s₀ H₀ ex) ifs t)(he:∀C s₀ H₀ ex,AE (oX X scope N C s₀ H₀ ex) elt c)
  (hs:(∀x,foldedSetIterable iter X.env x=pure x)<|>θ):AE X (.ListComp elt [⟨tg,iter,ifs,0⟩] scope pos) (kF cap src g t c):=
 PE.imp (aaQ hc J hi (g:=tG0 X.K g) (tc:=tT0 X.K t) (te:=tE0 X.K c) (λC s₀ H₀ ex=>(hg C s₀ H₀ ex).g0 rfl) (λC s₀ H₀ ex=>U C s₀ H₀ ex) (λC s₀ H₀ ex=>(he C s₀ H₀ ex).e0 rfl) hs) FL
def Uw{i:Nat}{x:Str}{J:Pos}(hN:X.N.Nodup)(hc:X.calm=true)(Sc:CpScope X scope N cap)(hi:AI X tg iter src)(hg:∀C s₀ H₀ ex,AG (oX X scope N C s₀ H₀ ex) tg g)(ht:∀C s₀ H₀ ex,ATs (oX X scope N C s₀ H₀ ex) ifs t)(he:∀C s₀ H₀ ex,AE (oX X scope N C s₀ H₀ ex) elt c)
  (U:X.N[i]?=some x<|>η) (hx:Loc X.env.scope x:=by first|exact Or.inl rfl|exact Or.inr rfl)
  (hsw:(swapsWith (.ListComp elt [⟨tg,iter,ifs,0⟩] scope pos) (some<|.Name x pos') J.line X.env=pure true)<|>η) (hf:X.fn x=true\/X.env.scope.names.lookup x=some .local<|>γ)
  (hs:(∀x,foldedSetIterable iter X.env x=pure x)<|>θ):AS X (.Assign [.Name x pos'] (.ListComp elt [⟨tg,iter,ifs,0⟩] scope pos) J) (kI (kF cap src g t c)<|kh i):=
 PS.imp (QS hN U hx hc Sc hi (g:=tG0 X.K g) (tc:=tT0 X.K t) (te:=tE0 X.K c) (λC s₀ H₀ ex=>(hg C s₀ H₀ ex).g0 rfl) (λC s₀ H₀ ex=>ht C s₀ H₀ ex) (λC s₀ H₀ ex=>(he C s₀ H₀ ex).e0 rfl) hsw hf hs) λD σ H ⟨ρ,S,τ,R,r,h⟩=>
  FL σ H _ ⟨ρ,S,τ,R,r,jF (of_post h) .refl λa S1 h1 ρ1 H1 x e1 R1 v1=>h1 ρ1 H1 _ e1 R1<|(r.ext e1).set v1⟩
end
abbrev A.lst? (S:jD):A->Option (ae)
 | .ref n=>jE S n
 | _=>none
abbrev eMe (f:A->ae->jD->R A)(co:Ex)(d:qc):Ex:=λτ S=>(co τ S).bind λo S1=>opt (o.lst? S1) λ_=>(d τ S1).bind λas S2=>f o as S2
abbrev YE (f:A->ae->jD->R A)(co:Ex):Ex:=λτ S=>(co τ S).bind λo S1=>opt (o.lst? S1) λ_=>f o [] S1
abbrev rM (X:Cx)(f:A->ae->jD->R A):V->List V->Hp->VK->Prop:=λx c H Q=>∃ρ S o as,Rel X.K ρ H S/\AV X.K ρ H o x/\AVs X.K ρ H as c/\(f o as S).post (DY X ρ H Q) (XE X ρ H)
section
variable {X:Cx}{apos cpos:Pos}{o e:aC}{es:List aC}{name:Str}{id:String}{f:A->ae->jD->R A}{co:Ex}{d:qc}
def lst?_ty{K:au}{H:Hp}{x:A}{v:V}(R:Rel K ρ H S)(h:AV K ρ H x v)(e:x.lst? S=some xs):Z5 K "list" v H:=by
 cases h with
 | ref h=>
  obtain⟨c,h1,_⟩:=R.lst h<|jS e;exact .inl ⟨rfl,c,pK.of h1⟩
 | _=>cases e
def O9(slot:Slot "list" name id)(hty:typeOf (.builtin id)=pure (.type "method_descriptor"))(hm:G_ X id<|rM X f)(ho:AE X o co)(ha:AL X (e::es) d)
  (U:attributeBase o name X.env (eval o X.env)=eval o X.env<|>η)
  (hfew:(((backTo cpos<|starEach (e::es) X.env).all (λx=>!x.1) && (backToKw cpos<|keywordEach [] X.env).all (λx=>x.1.isSome)
   && decide ((e::es).length+([]:List Keyword).length+(if ([]:List Keyword).isEmpty then 0 else 1)<30))=true)<|>η)
  (hline:(apos.endLine == cpos.line)=true<|>η) (hs:starEach (e::es) X.env=(false,eval e X.env)::starEach es X.env<|>η) (J:((backTo cpos<|starEach es X.env).any (·.1)=false)<|>η) :
  AE X (.Call (.Attribute o name apos) (e::es) [] cpos) (eMe f co d):=PE.imp (QK gV slot hty hm ho ha U hfew hline hs J) λσ H Q h9=>by
 room;kd_p;obtain⟨xs,c,h1⟩:=jG h1;refine⟨lst?_ty R1 v1 c,ρ1,S1,τ,R1,r.ext e1,jF (jJ h1) e1 λas S2 h2 ρ2 H2 g e2 R2 v2=>?_⟩;kcf_m
def YA(slot:Slot "list" name id)(hty:typeOf (.builtin id)=pure (.type "method_descriptor"))(hm:G_ X id<|rM X f)(ho:AE X o co)
  (J:attributeBase o name X.env (eval o X.env)=eval o X.env<|>η) (U:(apos.endLine == cpos.line)=true<|>η):AE X (.Call (.Attribute o name apos) [] [] cpos) (YE f co):=PE.imp (Y3 gV slot hty hm ho J U) λσ H Q h9=>by
 room;kd_p;obtain⟨xs,c,h1⟩:=jG h1;exact⟨lst?_ty R1 v1 c,ρ1,S1,x,[],R1,v1,.nil,jF h1 e1 λ_ _ z=>z.ext e1⟩
abbrev zR (o:A)(as:ae)(S:jD):R A:=match o,as with
 | .ref n,[x]=>opt (jE S n) λxs=>gd (xs.length<sizeLine) (.ok .non<|S.set n<|.lst<|xs++[x])
 | _,_=>.no
def F4:G_ X "list.append" (rM X zR):=λpins s σ H x j v us Q I rx g h9=>by
 mg_lt
 cases vo with
 | @ref p n c=>
  match as,va,h with
  | [],_,h=>exact h.elim
  | _::_::_,_,h=>exact h.elim
  | [y],va,h=>
   obtain⟨w,rfl,hw⟩:=Ro va;kpc_g;obtain⟨f,h⟩:=j6 h;obtain⟨d,h1,r⟩:=R.lst c<|jS hn;obtain⟨ex,e⟩:=R.put c (jS hn)<|r.append<|.one hw;exact C6 pins s σ H _ _ v us Q I rx g ⟨p,d,w,rfl,rfl,h1,by rw[<- r.length];exact f,h _ _ _ ex e .non⟩
 | _=>exact h.elim
abbrev IY (o:A)(as:ae)(S:jD):R A:=match o,as with
 | .ref n,[.int i]=>opt (jE S n) λxs=>gd (-(2 ^ 63)<=i/\i<2 ^ 63) (opt (seqIndex? i xs.length) λk=>opt (xs[k]?) λx=>.ok x<|S.set n<|.lst<|xs.eraseIdx k)
 | _,_=>.no
def Uh:G_ X "list.pop" (rM X IY):=λpins s σ H x q v us Q I rx j h9=>by
 mg_lt
 cases vo with
 | @ref p n d=>
  match as,va,h with
  | [],_,h=>exact h.elim
  | y::_::_,_,h=>exact(by cases y<;>exact h.elim)
  | [y],va,h=>
   obtain⟨w,rfl,hw⟩:=Ro va
   cases hw with
   | int i=>
    kpc_g;obtain⟨c,h⟩:=j6 h;obtain⟨k,e,h⟩:=jG h;obtain⟨y,m,h⟩:=jG h;obtain⟨f,h1,r⟩:=R.lst d<|jS hn;obtain⟨w,hw,vw⟩:=r.get m;obtain⟨ex,g⟩:=R.put d (jS hn)<|r.eraseIdx k;exact OD pins s σ H _ _ v us Q I rx j ⟨p,f,i,k,w,rfl,rfl,h1,c.1,c.2,by rw[<- r.length];exact e,hw,h _ _ _ ex g<|vw.ext ex⟩
   | _=>exact h.elim
 | _=>exact h.elim
end
abbrev lC (N:ar)(m:Sm)(as:ae)(S:jD):R A:=match m (as++List.replicate (N.length-as.length) .unb) S with
 | .rt a d=>.ok a d
 | .nx _ d=>.ok .non d
 | .ex c d=>.ex c d
 | _=>.no
abbrev qO (K:au)(n:Nat)(F:ae->jD->R A):Sp:=λc H Q _=>c.length=n/\∃ρ S as a d,Rel K ρ H S/\AVs K ρ H as c/\F as S=.ok a d/\∀ρ' H' v,Ext ρ ρ' H H'->Rel K ρ' H' d->AV K ρ' H' a v->Q v H'
def U_{K:au}{H:Hp}{as:ae}(r:AVs K ρ H as vs)(N:ar):SR K ρ H (as++List.replicate (N.length-as.length) .unb) (L2.start N vs):=by
 have c:=r.length;refine⟨by unfold L2.start;simp[c],λi a h=>?_⟩;by_cases e:i<as.length
 ·rw[bB e]at h;obtain⟨v,hv,d⟩:=r.get h;exact .inr ⟨v,by unfold L2.start;rw[bB<|by simp;lia,aO,hv];rfl,d⟩
 ·rw[f_ (),List.getElem?_replicate]at h;split at h
  ·exact .inl (aY h).symm
  ·cases h
section
variable {P:aj}{w:ah}{K:au}{mg:Str->bi}{base:aq}
def uS{x:Str}{st:aE}{f:ak}{N ps:ar}{k:Nat}{m:Sm}(F:Fun K x qual st f fd)(U:FnScope N ps<|jQ st)
  (J:∀(cdv:af) (A:az) (outer:List Env) (s:aA) (H:Hp) (E:XK),Room k (A.deeper<|envOfC qual (jQ st) s.heap.objs.size f cdv)->V9 (Iw qg P w K mg base N qual (jQ st) f cdv A outer s H E).nox (q_ st) m) :
  FnOk P w K mg base qg (k+1) f fd ps (qO K ps.length<|lC N m):=by
 refine F.ok U (λC H Q E h=>h.1) λcdv B outer s H C Q E j ⟨G,ρ,S,as,a,D,R,va,d,q⟩=>⟨_,J cdv B outer s H E j,ρ,S,_,R,U_ va N,?_⟩;unfold lC at d
 cases g:m (as++List.replicate (N.length-as.length) .unb) S with
 | rt b S2=>rw[g]at d;cases d;exact q
 | nx τ S2=>rw[g]at d;cases d;exact λρ' H' p e t _=>q ρ' H' _ e t .non
 | bk τ S2=>rw[g]at d;cases d
 | ct τ S2=>rw[g]at d;cases d
 | ex c S2=>rw[g]at d;cases d
 | no=>rw[g]at d;cases d
end
meta abbrev oh (P:aj)(w:ah)(K:au)(mg:Str->bi)(base:aq)(k:Nat)(x:Str)(ps:ar)(F:ae->jD->R A):Prop:=Kn P w K mg base k x ps<|qO K ps.length F
abbrev eFn (F:ae->jD->R A)(d:qc):Ex:=λτ S=>(d τ S).bind λas S1=>match F as S1 with
 | .ok a S2=>.ok a S2
 | _=>.no
section
variable {X:Cx}{pos p:Pos}{e:aC}{es:List aC}{x:Str}{ps:ar}{k:Nat}{F:ae->jD->R A}{d:qc}
def m5(G:oh X.prog X.w X.K X.mg X.base k x ps F)(hr:Room k X.A)(ha:AL X (e::es) d)(hl:∀τ S as S',d τ S=.ok as S'->as.length=ps.length)(hg:Gl X x<|>η)(U:(x == ("__debug__" : Str))=false<|>δ)
  (hs:starEach (e::es) X.env=(false,eval e X.env)::starEach es X.env<|>η) (J:((backTo pos<|starEach es X.env).any (·.1)=false)<|>η):AE X (.Call (.Name x p) (e::es) [] pos) (eFn F d):=
 PE.imp (aaU G hr ha hg U hs J) λσ H Q h9=>by
  room;refine⟨ρ,S,τ,R,r,?_⟩;have f:=jJ h
  cases g:d τ S with
  | no=>rw[g]at f;exact f
  | ex c S1=>rw[g]at f;exact f
  | ok as S1=>
   rw[g]at f;intro ρ1 H1 m e1 R1 v1;rw[cR];refine⟨by rw[<- v1.length];exact hl τ S as S1 g,ρ1,S1,as,?_⟩;have f:Am.R.post (match F as S1 with
    | .ok a S2=>.ok a S2
    | _=>.no) (DY X ρ H Q) (XE X ρ H):=f
   cases j:F as S1 with
   | ok a S2=>rw[j]at f;exact⟨a,S2,R1,v1,rfl,λρ2 H2 v e2=>f ρ2 H2 v<|e1.trans e2⟩
   | ex c S2=>rw[j]at f;exact f.elim
   | no=>rw[j]at f;exact f.elim
def kH:∀τ S as S',jL τ S=.ok as S'->as.length=0:=λτ S as S' h=>by cases h;rfl
def jP{c:Ex}{d:qc}{n:Nat}(h:∀τ S as S',d τ S=.ok as S'->as.length=n):∀τ S as S',jA c d τ S=.ok as S'->as.length=n+1:=λτ S as S' e=>by
 unfold jA at e
 cases hc:c τ S with
 | ok a S1=>
  rw[hc]at e
  cases f:d τ S1 with
  | ok bs S2=>
   have e:R.bind (d τ S1) (λas S2=>.ok (a::as) S2)=.ok as S':=e;rw[f]at e;cases e;rw[bJ,h τ S1 bs _ f]
  | ex _ _=>
   have e:R.bind (d τ S1) (λas S2=>.ok (a::as) S2)=.ok as S':=e;rw[f]at e;cases e
  | no=>
   have e:R.bind (d τ S1) (λas S2=>.ok (a::as) S2)=.ok as S':=e;rw[f]at e;cases e
 | ex _ _=>rw[hc]at e;cases e
 | no=>rw[hc]at e;cases e
end
section
variable {X:Cx}{pos:Pos}{a b c d:aC}
abbrev kCh (J:A->A->jD->R A)(U:Ex)(τ:ae)(b k:A)(S:jD):R A:=match k with
 | .bl true=>(U τ S).bind λc d=>J b c d
 | .bl false=>.ok (.bl false) S
 | _=>.no
abbrev Z2 (f J:A->A->jD->R A)(ca cb U:Ex):Ex:=λτ S=>(ca τ S).bind λa S1=>(cb τ S1).bind λb S2=>(f a b S2).bind λk S3=>kCh J U τ b k S3
def XZ{f J:A->A->jD->R A}{ca cb U:Ex}{H:Hp}{Q:VK}(h:tE X (Z2 f J ca cb U) σ H Q):Om (r2 X f) (r2 X J) (tE X ca) (tE X cb) (tE X U) σ H Q:=by
 kl_no;refine⟨ρ,S,τ,R,r,jF (jJ h) .refl λa S1 h1 ρ1 H1 x e1 R1 v1=>⟨ρ1,S1,τ,R1,r.ext e1,jF (jJ h1) e1 λb S2 h2 ρ2 H2 y e2 R2 v2=>?_⟩⟩;have e:=e1.trans e2;refine⟨ρ2,S2,a,b,R2,v1.ext e2,v2,jF (jJ h2) e λk S3 h3 ρ3 H3 z e3 R3 p=>?_⟩;have d:=e.trans e3
 cases k with
 | bl k=>
  cases Cd p
  refine⟨k,rfl,?_⟩
  cases k with
  | true=>
   rw[aK rfl];exact⟨ρ3,S3,τ,R3,r.ext d,jF (jJ h3) d λc m B g D w j t C=>⟨g,m,b,c,t,v2.ext<|e3.trans j,C,jF B (d.trans j) λ_ _ q=>q.ext<|d.trans j⟩⟩
  | false=>
   rw[aI bI];exact h3 ρ3 H3 _ d R3<|.bl false
 | _=>exact h3.elim
def abG{f U:A->A->jD->R A}{ca cb cc:Ex}(ho:pG X (compareOp op)<|r2 X f)(J:pG X (compareOp op')<|r2 X U)(ha:AE X a ca)(hb:AE X b cb)(hc:AE X c cc)(hm:lastMarks [op,op'] [b,c]=false<|>ι) :
  AE X (.Compare a [op,op'] [b,c] pos) (Z2 f U ca cb cc):=PE.imp (QX ho J ha hb hc hm) λ_ _ _ h=>XZ h
abbrev A.flat:A->Bool
 | .non=>true
 | .bl _=>true
 | .int _=>true
 | .str _=>true
 | _=>false
abbrev eqF:A->A->Bool
 | .non,.non=>true
 | .bl a,.bl b=>a == b
 | .bl a,.int b=>(if a then 1 else 0) == b
 | .int a,.bl b=>a == (if b then 1 else 0)
 | .int a,.int b=>a == b
 | .str a,.str b=>a == b
 | _,_=>false
def Jt{K:au}{H:Hp}{x:A}{v:V}(h:AV K ρ H x v)(f:x.flat=true):tW v=true:=by cases h<;>first|rfl|cases f
def I0{K:au}{H:Hp}{x y:A}{v:V}(h:AV K ρ H x v)(h':AV K ρ H y u)(f:x.flat=true)(J:y.flat=true):HJ v u=eqF x y:=by
 cases h<;>cases h'<;>first|rfl|(cases f;done)|(cases J;done)
theorem OA{K:au}{H:Hp}{x:A}{v:V}(h:AV K ρ H x v)(f:x.flat=true):∀{ys:ae}{us:List V},AVs K ρ H ys us->ys.all A.flat=true->inV v us=(ys.any λz=>eqF z x)/\us.all tW=true
 | _,_,.nil,_=>⟨rfl,rfl⟩
 | y::ys,u::us,.cons hy t,fs=>by
  rw[ja,c7]at fs;obtain⟨h1,h2⟩:=OA h f t fs.2;refine⟨?_,by rw[ja,Jt hy fs.1,h2];rfl⟩;show(HJ u v || inV v us)=_;rw[h1,I0 hy h fs.1 f];rfl
abbrev inA (S:jD)(x:A):ae->bj
 | []=>some false
 | z::zs=>(qS S 12 z x).bind λp=>(inA S x zs).map λq=>p || q
abbrev aIn (J:Bool)(x y:A)(S:jD):R A:=opt (y.seq S) λys=>opt (inA S x ys) λb=>.ok (.bl<|if J then !b else b) S
def Ld{H:Hp}{x:A}{v:af}(I:Inv X pins σ H s)(R:Rel X.K ρ H S)(U:X.A.units+64<cLine)(J:AV X.K ρ H x vx)(rx:RelV vx v) :
  ∀{ys:ae} {us:List V} {its:ba} {b:Bool},AVs X.K ρ H ys us->Vals us its->inA S x ys=some b->∃e:af->Bool,(∀w∈its,SeqAt.EqAt X.A.in1 s w v<|e w)/\its.any e=b:=by
 intro ys
 induction ys with
 | nil=>
  intro us its b h1 h2 h
  cases h1
  cases h2
  exact⟨λ_=>false,(λw hw=>by cases hw),aY h⟩
 | cons z zs m=>
  intro us its b h1 h2 h
  cases h1 with
  | cons G j=>
   rename_i u us
   cases h2 with
   | cons r F=>
    rename_i f its
    classical
    obtain⟨p,D,h⟩:=cH.mp h;obtain⟨q,C,h⟩:=aX.mp h;obtain⟨e,g,k⟩:=m j F C;have h0:=(Lb I R 12 X.A.in1 z x u vx f v p (by rw[in1_units];omega) G J r rx D).2.1;subst h
    cases p with
    | true=>
     refine⟨λw=>if w=f then true else e w,λw hw=>?_,?_⟩
     ·by_cases d:w=f
      ·dsimp[d,dg];exact h0
      ·dsimp[d,cJ]
       rcases bD.mp hw with z|z
       ·exact absurd z d
       ·exact g w z
     ·simp
    | false=>
     by_cases t:f∈its
     ·refine⟨e,λw hw=>?_,?_⟩
      ·rcases bD.mp hw with z|z
       ·rw[z];exact g f t
       ·exact g w z
      ·rw[fX,k,gB]
       cases q with
       | true=>simp
       | false=>
        have:=List.any_eq_false.mp k f t;simpa using this
     ·refine⟨λw=>if w=f then false else e w,λw hw=>?_,?_⟩
      ·by_cases d:w=f
       ·dsimp[d,dg];exact h0
       ·dsimp[d,cJ]
        rcases bD.mp hw with z|z
        ·exact absurd z d
        ·exact g w z
      ·rw[fX,<- k];dsimp[dg,gB];have:∀l:ba,(∀w∈l,w≠f)->l.any (λw=>if w=f then false else e w)=l.any e:=λl B=>by
        induction l with
        | nil=>rfl
        | cons c l m=>rw[fX,fX,m λw hw=>B w<|aN _ hw,aI<|B c<|aL ..]
       exact this its λw hw z=>t<|z ▸ hw
def ab4(J:X.A.units+64<cLine):pG X (compareOp .In) (r2 X<|aIn false):=λpins s σ H x y v u Q I rx ry h9=>by
 x_go;obtain⟨ys,m,h⟩:=jG h;obtain⟨k,j,h⟩:=jG h;obtain⟨p,us,rfl,hs,r⟩:=X8 R vb m
 cases ry
 rcases hs with hs|hs
 ·obtain⟨c,g,pl,q⟩:=I.list hs;obtain⟨e,d,f⟩:=Ld I R J va rx r g j;refine SeqAt.in_listAt e pl.isList (λw hw=>d w<|by simpa using hw) ⟨.bl _,H,I,rfl,?_⟩;rw[show c.toArray.any e=c.any e by simp,f];exact h _ _ _ .refl R (.bl _)
 ·obtain⟨c,g,pl,q⟩:=I.tuple hs;obtain⟨e,d,f⟩:=Ld I R J va rx r g j;refine SeqAt.in_tupleAt e pl (λw hw=>d w<|by simpa using hw) ⟨.bl _,H,I,rfl,?_⟩;rw[show c.toArray.any e=c.any e by simp,f];exact h _ _ _ .refl R<|.bl _
abbrev Xr (o:A)(as:ae)(S:jD):R A:=match as with
 | [x]=>opt (o.seq S) λys=>gd (x.flat=true/\ys.all A.flat=true) (opt (ys.findIdx? λz=>eqF z x) λk=>.ok (.int (k:Nat)) S)
 | _=>.no
abbrev Bu (co:Ex)(d:qc):Ex:=λτ S=>(co τ S).bind λo S1=>opt (o.seq S1) λ_=>(d τ S1).bind λas S2=>Xr o as S2
abbrev A.isTup:A->Bool
 | .tup _=>true
 | _=>false
def FW{K:au}{H:Hp}{x:A}{v:V}(R:Rel K ρ H S)(h:AV K ρ H x v)(e:x.seq S=some xs):∃p vs,v=.ref p/\(if x.isTup=true then oE K H p vs else pK K H p vs)/\AVs K ρ H xs vs:=by
 cases h with
 | tup h r=>cases aY e;exact⟨_,_,rfl,(oE.of h),r⟩
 | frz h r=>cases aY e;exact⟨_,_,rfl,h.Tj,r⟩
 | ref h=>
  obtain⟨vs,h1,r1⟩:=R.lst h<|jS e;exact⟨_,vs,rfl,pK.of h1,r1⟩
 | _=>cases e
def YW{K:au}{H:Hp}{x:A}{v:V}{ys:ae}{us:List V}{k:Nat}(h:AV K ρ H x v)(f:x.flat=true)(r:AVs K ρ H ys us)(fs:ys.all A.flat=true)(e:(ys.findIdx? λz=>eqF z x)=some k) :
  us.all tW=true/\∃z,us[k]?=some z/\HJ z v=true/\∀(m:Nat) (z':V),m<k->us[m]?=some z'->HJ z' v=false:=by
 rw[List.findIdx?_eq_some_iff_getElem]at e;obtain⟨q,h1,h2⟩:=e;have fl:∀m (g:m<ys.length),ys[m].flat=true:=λm g=>dY.mp fs _<|dZ g;refine⟨(OA h f r fs).2,?_⟩;obtain⟨z,t,B⟩:=r.get<|aF q;refine⟨z,t,by rw[I0 B h (fl k q) f];exact h1,λm z' g j=>?_⟩;have d:m<ys.length:=()
 obtain⟨C,c,p⟩:=r.get<|aF d;rw[j]at c;cases c;rw[I0 p h (fl m d) f];have:=h2 m g;simpa using this
def Ep{e:aC}{apos cpos:Pos}{co:Ex}{d:qc}(ho:AE X o co)(ha:AL X (e::es) d)
  (hbase:attributeBase o "index" X.env (eval o X.env)=eval o X.env<|>η)
  (hfew:(((backTo cpos<|starEach (e::es) X.env).all (λx=>!x.1) && (backToKw cpos<|keywordEach [] X.env).all (λx=>x.1.isSome)
   && decide ((e::es).length+([]:List Keyword).length+(if ([]:List Keyword).isEmpty then 0 else 1)<30))=true)<|>η)
  (hline:(apos.endLine == cpos.line)=true<|>η) (hs:starEach (e::es) X.env=(false,eval e X.env)::starEach es X.env<|>η) (U:((backTo cpos<|starEach es X.env).any (·.1)=false)<|>η) :
  AE X (.Call (.Attribute o "index" apos) (e::es) [] cpos) (Bu co d):=PE.imp (Y6 ho ha hbase hfew hline hs U) λσ H Q h9=>by
 room;kd_p;obtain⟨xs,B,h1⟩:=jG h1;obtain⟨p,G,hv,j,_⟩:=FW R1 v1 B;refine⟨x.isTup,p,G,hv,j,ρ1,S1,τ,R1,r.ext e1,jF (jJ h1) e1 λas S2 h2 ρ2 H2 K e2 R2 v2=>?_⟩;unfold Xr at h2
 match as,v2,h2 with
 | [],_,h2=>exact h2.elim
 | _::_::_,_,h2=>exact h2.elim
 | [y],v2,h2=>
  obtain⟨w,rfl,hw⟩:=Ro v2;obtain⟨ys,F,h2⟩:=jG h2;obtain⟨⟨f1,f2⟩,h2⟩:=j6 h2;obtain⟨k,m,h2⟩:=jG h2;obtain⟨J,us,c,f,q⟩:=FW R2 (v1.ext e2) F;obtain⟨C,z,g,t,D⟩:=YW hw f1 q f2 m;exact⟨J,w,us,k,z,c,rfl,f,Jt hw f1,C,g,t,D,h2 _ _ _ (e1.trans e2) R2<|.int _⟩
end
abbrev jX (S:jD)(n:Nat):Option (List<|ag×A):=match S[n]? with
 | some (.dct xs)=>some xs
 | _=>none
def l8{n:Nat}(h:jX S n=some xs):S[n]?=some (.dct xs):=by
 unfold jX at h;split at h
 ·rename_i e;cases h;exact e
 ·cases h
def r9{S:jD}{n:Nat}(h:S[n]?=some (.dct xs)):jX S n=some xs:=by
 unfold jX;rw[h]
abbrev kK (kvs:List<|ag×A)(k:ag):Option A:=(kvs.find? λkv=>decide<|kv.1=k).map (·.2)
abbrev putD (kvs:List<|ag×A)(k:ag)(v:A):List (ag×A):=
 if (kK kvs k).isSome=true then kvs.map (λkv=>if kv.1=k then(kv.1,v)else kv)else kvs++[(k,v)]
theorem Et:∀{a b:ag},a.map (Sum.inl:Int->Key)=b.map Sum.inl->a=b
 | [],[],_=>rfl
 | [],_::_,e=>by simp at e
 | _::_,[],e=>by simp at e
 | x::xs,y::ys,e=>by
  rw[bE,bE]at e
  injection e with e1 e2
  injection e1 with e1
  rw[e1,Et e2]
def zV(J:ag):(J.map (Sum.inl:Int->Key)).map kV=J.map V.int:=by rw[bq];rfl
section
variable {K:au}{ρ:bb}{H:Hp}
def MY{p:ag×A}{r:List<|ag×A}{k:ag}(e:p.1=k):kK (p::r) k=some p.2:=by simp[kK,cg,e]
def M1{p:ag×A}{r:List<|ag×A}{k:ag}(e:¬p.1=k):kK (p::r) k=kK r k:=by simp[kK,cg,e]
theorem DV.look:∀{kvs:List<|ag×A}{ks:List<|List Key×V}(k:ag),DV K ρ H kvs ks->(kK kvs k).isSome=(o5 ks<|k.map Sum.inl).isSome/\∀x,kK kvs k=some x->∃v,o5 ks (k.map Sum.inl)=some v/\AV K ρ H x v
 | [],[],k,_=>⟨rfl,λx h=>nomatch h⟩
 | p::r,q::r',k,⟨⟨e,a⟩,t⟩=>by
  by_cases c:p.1=k
  ·have d:q.1=k.map Sum.inl:=by rw[e,c]
   rw[MY c,uT d];exact⟨rfl,λx h=>by cases h;exact⟨_,rfl,a⟩⟩
  ·have d:¬q.1=k.map Sum.inl:=λz=>c<|Et<|e.symm.trans z;rw[M1 c,uP d];exact DV.look k t
theorem DV.repl{x:A}{v:V}(h:AV K ρ H x v)(k:ag):∀{kvs:List<|ag×A}{ks:List<|List Key×V},DV K ρ H kvs ks->DV K ρ H (kvs.map λkv=>if kv.1=k then(kv.1,x)else kv) (ks.map λkv=>if kv.1=k.map Sum.inl then(kv.1,v)else kv)
 | [],[],_=>trivial
 | p::r,q::r',⟨⟨e,a⟩,t⟩=>by
  refine⟨?_,DV.repl h k t⟩;dsimp only;by_cases c:p.1=k
  ·rw[aK c,aK<|by rw[e,c]];exact⟨e,h⟩
  ·rw[aI c,aI λz=>c<|Et<|e.symm.trans z];exact⟨e,a⟩
theorem DV.snoc{x:A}{v:V}(h:AV K ρ H x v)(k:ag):∀{kvs:List<|ag×A}{ks:List<|List Key×V},DV K ρ H kvs ks->DV K ρ H (kvs++[(k,x)]) (ks++[(k.map Sum.inl,v)])
 | [],[],_=>⟨⟨rfl,h⟩,trivial⟩
 | p::r,q::r',⟨a,t⟩=>⟨a,DV.snoc h k t⟩
def DV.put{x:A}{v:V}(h:AV K ρ H x v)(k:ag){ks:List<|List Key×V}(d:DV K ρ H kvs ks):DV K ρ H (putD kvs k x) (putK ks (k.map Sum.inl) v):=by
 unfold putD putK;rw[xQ,<- (d.look k).1];by_cases c:(kK kvs k).isSome=true
 ·rw[aK c,aK c];exact DV.repl h k d
 ·rw[aI c,aI c];exact DV.snoc h k d
def DV.length:∀{kvs:List<|ag×A}{ks:List<|List Key×V},DV K ρ H kvs ks->kvs.length=ks.length
 | [],[],_=>rfl
 | _::_,_::_,⟨_,t⟩=>dB (·+1) t.length
def Rel.dct{n:Nat}{a:ak}(R:Rel K ρ H S)(J:ρ[n]?=some a)(hS:S[n]?=some (.dct xs)):∃vs,H a=some (.dT vs)/\DV K ρ H xs vs:=R.at n a _ J hS
def Rel.adM{S:jD}{p:ak}(R:Rel K ρ H S)(J:H p=none)(r:DV K ρ H xs vs):Ext ρ (ρ++[p]) H (upd H p<|.dT vs)/\Rel K (ρ++[p]) (upd H p<|.dT vs) (S++[.dct xs])/\(ρ++[p])[S.length]?=some p:=by
 have ex:Ext ρ (ρ++[p]) H (upd H p<|.dT vs):=⟨⟨eW _ _,λa u _ h=>by rw[jN<|jV h J];exact h⟩,λa u h _=>by rw[jN<|jV h J];exact h,λa h=>by
  rcases bz.mp h with z|z
  ·exact .inl z
  ·have e:a=p:=by simpa using z
   rw[e];exact .inr J⟩
 have g:p∉ρ:=R.Gy J;have c:(ρ++[p])[S.length]?=some p:=by rw[<- R.len];simp
 refine⟨ex,⟨by simp[R.len],?_,?_⟩,c⟩
 ·rw[dw];refine⟨R.nd,by simp,λa k b j e=>?_⟩;have:b=p:=by simpa using j
  exact g<|by rw[<- this,<- e];exact k
 ·intro n a o h1 h2;by_cases hn:n<S.length
  ·rw[bB<|by rw[R.len];exact hn]at h1;rw[bB hn]at h2;have na:a≠p:=λz=>g (by rw[<- z];exact aW h1);have:=R.at n a o h1 h2
   cases o with
   | lst ys=>obtain⟨d,e,q⟩:=this;exact⟨d,by rw[jN na];exact e,q.ext ex⟩
   | dct _|nG _|dks _|dcp _=>obtain⟨d,e,q⟩:=this;exact⟨d,by rw[jN na];exact e,q.ext ex⟩
   | dcf _|dkf _=>obtain⟨f,d,e,q⟩:=this;exact⟨f,d,by rw[jN na];exact e,q.ext ex⟩
   | ins _ _=>obtain⟨f,m,e⟩:=this;exact⟨f,m,by rw[jN na];exact e⟩
  ·have e:n=S.length:=by
    have:=(aG.mp h2).1;simp at this;omega
   subst e;rw[c]at h1
   cases h1
   simp at h2;subst h2;exact⟨vs,kg,r.ext ex⟩
def Rel.putD{S:jD}{n:Nat}{a:ak}(R:Rel K ρ H S)(J:ρ[n]?=some a)(hS:S[n]?=some (.dct xs))(r:DV K ρ H ys ws):Ext ρ ρ H (upd H a<|.dT ws)/\Rel K ρ (upd H a<|.dT ws) (S.set n<|.dct ys):=by
 obtain⟨t,e,_⟩:=R.at n a _ J hS;have ex:Ext ρ ρ H (upd H a<|.dT ws):=⟨⟨eT _,λb u i h=>by
  have:b≠a:=by
   intro z;subst z;rw[e]at h;cases h;exact i
  rw[jN this];exact h⟩,λb u h n=>by
  rw[jN λz=>n<|by rw[z];exact aW J];exact h,λ_ h=>.inl h⟩
 refine⟨ex,by rw[cu];exact R.len,R.nd,λm b o h1 h2=>?_⟩;by_cases g:m=n
 ·subst g;rw[J]at h1;cases h1;rw[bM (aG.mp hS).1]at h2
  cases h2
  exact⟨ws,kg,r.ext ex⟩
 ·rw[bL<|cV g]at h2;have nb:b≠a:=λz=>by
   subst z;obtain⟨p,e1⟩:=aG.mp J;obtain⟨k,e2⟩:=aG.mp h1;exact g<|(cK R.nd).mp<|e2.trans e1.symm
  have:=R.at m b o h1 h2
  cases o with
  | lst ys=>obtain⟨c,d,q⟩:=this;exact⟨c,by rw[jN nb];exact d,q.ext ex⟩
  | dct _|nG _|dks _|dcp _=>obtain⟨c,d,q⟩:=this;exact⟨c,by rw[jN nb];exact d,q.ext ex⟩
  | dcf _|dkf _=>obtain⟨f,c,d,q⟩:=this;exact⟨f,c,by rw[jN nb];exact d,q.ext ex⟩
  | ins _ _=>obtain⟨f,j,d⟩:=this;exact⟨f,j,by rw[jN nb];exact d⟩
end
section
variable {X:Cx}{pos:Pos}{a b:aC}
def zM{H:Hp}{p q:ak}{n:Nat}{J:ag}(R:Rel X.K ρ H S)(hp:ρ[n]?=some p)(hn:jX S n=some kvs)(U:H q=some (.tup vs))(r:AVs X.K ρ H xs vs)(hi:A.ints xs=some J) :
  ∃ks,H p=some (.dT ks)/\DV X.K ρ H kvs ks/\H q=some (.tup<|(J.map (Sum.inl:Int->Key)).map kV)/\tO H p (.ref q) (o5 ks<|J.map Sum.inl):=by
 obtain⟨ks,e,d⟩:=R.dct hp<|l8 hn;have z:=DM r hi;subst z;rw[<- zV]at U;exact⟨ks,e,d,U,tO.t e U⟩
abbrev yY (x y:A)(S:jD):R A:=match x,y with
 | .ref n,.tup xs=>opt (jX S n) λkvs=>opt (A.ints xs) λc=>opt (kK kvs c) λv=>.ok v S
 | _,_=>.no
def aai(J:X.A.units+64<cLine):Ti X (r2 X yY):=λf c pins s σ H x y v u Q I rx ry ⟨ρ,S,a,b,R,va,vb,h⟩ hs=>by
 cases va with
 | @ref p n t=>
  cases vb with
  | @tup q xs F j r=>
   kst_p;obtain⟨m,k,h⟩:=jG h;obtain⟨z,D,h⟩:=jG h;obtain⟨ks,e,d,C,g⟩:=zM R t hn j r k;obtain⟨w,hw,B⟩:=(d.look m).2 z D;rw[hw]at g;exact zj (by omega) f c pins s σ H _ _ v u Q I rx ry ⟨p,w,rfl,g,h _ _ _ .refl R B⟩ hs
  | _=>exact h.elim
 | _=>exact h.elim
def E6(J:X.A.units+64<cLine){ca cb:Ex}(U:AE X a ca)(hb:AE X b cb)(hs:vA b<|>μ):AE X (.Subscript a b pos) (jO yY ca cb):=PE.imp (GI (aai J) U hb hs) λσ H Q h=>qQ h
abbrev HL (J:Bool)(x y:A)(S:jD):R A:=match x,y with
 | .tup xs,.ref n=>opt (jX S n) λkvs=>opt (A.ints xs) λc=>.ok (.bl<|if J then !(kK kvs c).isSome else(kK kvs c).isSome) S
 | _,_=>.no
def abR(J:X.A.units+64<cLine):pG X (compareOp .In) (r2 X<|HL false):=λpins s σ H x y v u Q I rx ry h9=>by
 x_go
 cases va with
 | @tup q xs t c r=>
  cases vb with
  | @ref p n k=>
   kst_p;obtain⟨j,f,h⟩:=jG h;obtain⟨ks,e,d,m,g⟩:=zM R k hn c r f;exact ZF () pins s σ H _ _ v u Q I rx ry ⟨p,_,rfl,g,by rw[<- (d.look j).1];exact h _ _ _ .refl R<|.bl _⟩
  | _=>exact h.elim
 | _=>exact h.elim
def PD(J:X.A.units+64<cLine):pG X (compareOp .NotIn) (r2 X<|HL true):=λpins s σ H x y v u Q I rx ry h9=>by
 x_go
 cases va with
 | @tup q xs t c r=>
  cases vb with
  | @ref p n k=>
   kst_p;obtain⟨j,f,h⟩:=jG h;obtain⟨ks,e,d,m,g⟩:=zM R k hn c r f;exact ML (by omega) pins s σ H _ _ v u Q I rx ry ⟨p,_,rfl,g,by rw[<- (d.look j).1];exact h _ _ _ .refl R<|.bl _⟩
  | _=>exact h.elim
 | _=>exact h.elim
abbrev xT (o i v:A)(S:jD):R Unit:=match o,i with
 | .ref n,.tup xs=>opt (jX S n) λkvs=>opt (A.ints xs) λc=>gd (kvs.length<sizeLine) (.ok Unit.unit<|S.set n<|.dct<|putD kvs c v)
 | _,_=>.no
abbrev adn (X:Cx):M9:=λo i v H Q=>∃ρ S c d e,Rel X.K ρ H S/\AV X.K ρ H c o/\AV X.K ρ H d i/\AV X.K ρ H e v/\(xT c d e S).post (λ_ f=>∀ρ' H',Ext ρ ρ' H H'->Rel X.K ρ' H' f->Q H') (XE X ρ H)
def Ve(U:X.A.units+64<cLine):Mx X (adn X):=λpins s σ H o i v j iv u Q I C J G h9=>by
 obtain⟨ρ,S,N,K,L,R,h1,h2,h3,h⟩:=h9
 cases h1 with
 | @ref p n f=>
  cases h2 with
  | @tup q xs M k r=>
   kst_p;obtain⟨B,m,h⟩:=jG h;obtain⟨F,h⟩:=j6 h;obtain⟨ks,e,d,c,g⟩:=zM R f hn k r m;obtain⟨ex,D⟩:=R.putD f (l8 hn)<|d.put h3 B;exact set_dict () pins s σ H _ _ v j iv u Q I C J G ⟨p,_,rfl,G1.t e c<|by rw[<- d.length];exact F,h _ _ ex D⟩
  | _=>exact h.elim
 | _=>exact h.elim
abbrev BS (co J:Ex):Tg:=λa τ S=>(co τ S).bind λo S1=>(J τ S1).bind λi S2=>(xT o i a S2).bind λ_ S3=>.ok τ S3
def sY(U:X.A.units+64<cLine){co J:Ex}(ho:AE X o co)(hi:AE X i J)
  (ha:(∀v,assign (.Subscript o i pos) X.env v=(do
   let ov <- holding [v] (eval o X.env)
   let iv <- holding [v,ov] (eval i X.env)
   standAt pos
   holding [v,ov,iv] (setItem ov iv v)
   release [v,ov,iv] []))<|>θ):AG X (.Subscript o i pos) (BS co J):=PG.imp (Jf ho hi (Ve U) ha) λv σ H Q h9=>by
 obtain⟨ρ,S,τ,a,R,r,va,h⟩:=h9;gp_on;kpf_c;exact h3 ρ3 H3 σ ((e1.trans e2).trans e3) R3<|r.ext<|(e1.trans e2).trans e3
abbrev uB:Ex:=λ_ S=>.ok (.ref S.length)<|S++[.dct []]
def qR:AE X (.Dict [] [] pos) uB:=PE.imp QI λσ H Q ⟨ρ,S,τ,R,r,h⟩ p d=>by
 obtain⟨ex,e,c⟩:=R.adM (xs:=[]) (vs:=[]) d trivial;exact h _ _ _ ex e<|.ref c
abbrev dct? (a:A)(S:jD):Option Unit:=match a with
 | .ref n=>(jX S n).map λ_=>Unit.unit
 | _=>none
abbrev YH (f:A->ae->jD->R A)(co:Ex)(d:qc):Ex:=λτ S=>(co τ S).bind λx S1=>opt (dct? x S1) λ_=>(d τ S1).bind λas S2=>f x as S2
def dct?_ty{K:au}{H:Hp}{x:A}{v:V}(R:Rel K ρ H S)(a:AV K ρ H x v)(e:dct? x S=some u):Z5 K "dict" v H:=by
 cases a with
 | @ref p n h=>
  obtain⟨xs,d,_⟩:=aX.mp e;obtain⟨c,h1,_⟩:=R.dct h<|l8 d;exact .inr<|.inr<|.inl ⟨rfl,.inr ⟨c,h1⟩⟩
 | _=>cases e
def Zt{e:aC}{id:String}{apos cpos:Pos}{f:A->ae->jD->R A}{co:Ex}{d:qc}(slot:Slot "dict" name id)(hty:typeOf (.builtin id)=pure (.type "method_descriptor"))(hm:G_ X id<|rM X f)(ho:AE X o co)(ha:AL X (e::es) d)
  (U:attributeBase o name X.env (eval o X.env)=eval o X.env<|>η)
  (hfew:(((backTo cpos<|starEach (e::es) X.env).all (λx=>!x.1) && (backToKw cpos<|keywordEach [] X.env).all (λx=>x.1.isSome)
   && decide ((e::es).length+([]:List Keyword).length+(if ([]:List Keyword).isEmpty then 0 else 1)<30))=true)<|>η)
  (hline:(apos.endLine == cpos.line)=true<|>η) (hs:starEach (e::es) X.env=(false,eval e X.env)::starEach es X.env<|>η) (J:((backTo cpos<|starEach es X.env).any (·.1)=false)<|>η) :
  AE X (.Call (.Attribute o name apos) (e::es) [] cpos) (YH f co d):=PE.imp (QK gW slot hty hm ho ha U hfew hline hs J) λσ H Q h9=>by
 room;kd_p;obtain⟨xs,c,h1⟩:=jG h1;refine⟨dct?_ty R1 v1 c,ρ1,S1,τ,R1,r.ext e1,jF (jJ h1) e1 λas S2 h2 ρ2 H2 g e2 R2 v2=>?_⟩;kcf_m
abbrev YI (o:A)(as:ae)(S:jD):R A:=match o,as with
 | .ref n,[.tup xs,y]=>opt (jX S n) λkvs=>opt (A.ints xs) λk=>.ok ((kK kvs k).getD y) S
 | _,_=>.no
def abY(U:X.A.units+64<cLine):G_ X "dict.get" (rM X YI):=λpins s σ H x L v us Q I rx B h9=>by
 mg_lt
 cases vo with
 | @ref p n k=>
  match as,va,h with
  | [],_,h=>exact h.elim
  | [z],_,h=>exact(by cases z<;>exact h.elim)
  | z::_::_::_,_,h=>exact(by cases z<;>exact h.elim)
  | [z,y],va,h=>
   obtain⟨J,m,rfl,G,D⟩:=Qk va
   cases G with
   | @tup q xs K f t=>
    kst_p;obtain⟨c,j,h⟩:=jG h;have z:=DM t j;subst z;obtain⟨ks,h1,e⟩:=R.dct k<|l8 hn;refine UQ (by omega) pins s σ H _ _ v us Q I rx B ⟨p,q,c.map Sum.inl,ks,m,rfl,rfl,h1,by rw[zV];exact f,h _ _ _ .refl R ?_⟩;obtain⟨d,g⟩:=e.look c
    cases e1:kK kvs c with
    | none=>
     rw[e1]at d
     cases e2:o5 ks (c.map Sum.inl)with
     | none=>exact D
     | some _=>rw[e2]at d;cases d
    | some C=>
     obtain⟨v1,e2,F⟩:=g C e1;rw[e2];exact F
   | _=>exact h.elim
 | _=>exact h.elim
end
section
variable {X:Cx}{pos:Pos}{a b:aC}
abbrev xP (n k:Nat):Src:=⟨k,λi S=>(jE S n).bind λxs=>(xs[i]?).map λx=>.tup [.int i,x],λS=>match jE S n with
 | some ys=>decide (ys.length=k)
 | none=>false⟩
abbrev kEl (a:A)(S:jD):R Src:=match a with
 | .ref n=>opt (jE S n) λxs=>.ok (xP n xs.length) S
 | _=>.no
abbrev Ig (c:Ex):Ic:=λτ S=>(c τ S).bind λa S1=>kEl a S1
def Xe{K:au}{J:bb}{H0:Hp}{p:ak}{n k:Nat}(U:J[n]?=some p):JR K (xP n k) (Y8 K p) J H0 where
 go:=λi S H ρ x e R g=>by
  obtain⟨xs,hn,g⟩:=cH.mp g;obtain⟨y,B,rfl⟩:=aX.mp g;obtain⟨c,h1,r1⟩:=R.lst (e.get U)<|jS hn;obtain⟨v,j,m⟩:=r1.get B;refine⟨⟨c,v,pK.of h1,j⟩,λw H' q=>?_⟩;obtain⟨D,f,rfl,C⟩:=q;have d:=C c v (pK.of h1) j;subst d;obtain⟨ex,t⟩:=R.im (u:=.tup [.int i,v]) f;exact⟨ex,t,.tup kg<|.cons (.int _)<|.cons (m.ext ex) .nil⟩
 stop:=λS H ρ e R hf=>by
  have hf:(match jE S n with
   | some ys=>decide (ys.length=k)
   | none=>false)=true:=hf
  cases hn:jE S n with
  | none=>rw[hn]at hf;cases hf
  | some xs=>
   rw[hn]at hf;obtain⟨c,h1,r1⟩:=R.lst (e.get U)<|jS hn;exact⟨c,pK.of h1,by rw[<- r1.length];exact bQ hf⟩
def P0{p:Pos}{c:Ex}(J:X.mg "enumerate" = none)(U:AE X a c)(hg:Gl X "enumerate"<|>η)(hs:starEach [a] X.env=[(false,eval a X.env)]<|>η):AI X (.Tuple elts x1 tpos) (.Call (.Name "enumerate" p) [a] [] pos) (Ig c):=λpins s σ H Q I h9=>by
 room;refine Pz hg J (xy U ES hs) hs pins s σ H Q I ⟨ρ,S,τ,R,r,jF (jJ h) .refl λx S1 h1 ρ1 H1 v e1 R1 v1=>?_⟩
 cases v1 with
 | @ref p n d=>
  obtain⟨xs,hn,h1⟩:=jG h1;obtain⟨f,e,r1⟩:=R1.lst d<|jS hn;exact⟨_,f,rfl,pK.of e,h1 ρ1 H1 _ e1 R1<|Xe d⟩
 | _=>exact h1.elim
def JI{c:Ex}{n:Nat}{xs:ae}(h:c τ S=.ok (.ref n) S1)(hn:jE S1 n=some xs):Ig c τ S=.ok (xP n xs.length) S1:=by
 unfold Ig;rw[h];show opt (jE S1 n) _=_;rw[hn];rfl
theorem V6{K:au}{H:Hp}:∀{kvs:List<|ag×A}{ks:List<|List Key×V}{i:Nat}{p:ag×A},DV K ρ H kvs ks->kvs[i]?=some p->∃q,ks[i]?=some q/\q.1=p.1.map Sum.inl/\AV K ρ H p.2 q.2
 | [],[],_,_,_,h=>by simp at h
 | a::kvs,b::ks,0,p,⟨z,_⟩,h=>by
  have:a=p:=by simpa using h
  subst this;exact⟨b,rfl,z⟩
 | a::kvs,b::ks,i+1,p,⟨_,t⟩,h=>V6 (kvs:=kvs) (ks:=ks) (i:=i) t<|by simpa using h
end
abbrev adp (F:ae->jD->R A)(d:qc):Ex:=λτ S=>(d τ S).bind λas S1=>F as S1
abbrev UU:List (Str ⊕ Ex)->ae->jD->R Unit
 | [],_,S=>.ok Unit.unit S
 | .inl _::ps,τ,S=>UU ps τ S
 | .inr e::ps,τ,S=>(e τ S).bind λv S1=>match v with
  | .int i=>gd (i.natAbs.log2<64) (UU ps τ S1)
  | _=>.no
abbrev Yv (c:Str)(ps:List<|Str ⊕ Ex):Sm:=λτ S=>.of (UU ps τ S) λ_ S1=>.ex c S1
abbrev VU (i:Nat):RS->RS
 | .nx τ S=>.nx (τ.set i .unb) S
 | .bk τ S=>.bk (τ.set i .unb) S
 | .ct τ S=>.ct (τ.set i .unb) S
 | .rt a S=>.rt a S
 | _=>.no
abbrev ab2 (i n:Nat)(cs:ar)(c d:Sm):Sm:=λτ S=>match c τ S with
 | .ex x S1=>if x∈cs then VU i (d ((List.replicate n .unb).set i<|.exn x) S1)else .no
 | r=>r
abbrev acF (f:Str->bj)(c:Ex):Ex:=λτ S=>(c τ S).bind λv S1=>match v with
 | .exn x=>opt (f x) λb=>.ok (.bl b) S1
 | _=>.no
abbrev tbX (tb:List<|Str×Bool):Str->bj:=λx=>tb.lookup x
abbrev aaj (F:ae->jD->R A)(d:qc):Ex:=λτ S=>match d τ S with
 | .ok as S1=>F as S1
 | _=>.no
section
variable {d:qc}
abbrev aa5 (t:Te)(c d:Sm):Sm:=λτ S=>match t τ S with
 | .ok true S1=>c τ S1
 | .ok false S1=>d τ S1
 | _=>.no
end
abbrev Wk (i:Nat)(cs:ar)(c d:Sm):Sm:=λτ S=>match c τ S with
 | .ex x S1=>if x∈cs then VU i (d (τ.set i<|.exn x) S1)else .no
 | r=>r
abbrev sNo:Sm:=λ_ _=>.no
def NK{X:Cx}{st:aE}:AS X st sNo:=PS.imp O0 λD σ H ⟨ρ,S,τ,R,r,h⟩=>h.elim
def Nn{K:au}{H:Hp}{a:ak}{J:ag}{F:ae->jD->R A}(U:Ul H)(hS:pK K H a<|J.map V.int)(h:∃S',F [.frz<|J.map .int] []=.ok (.bl true) S'):qO K 1 F [.ref a] H (λv _=>v=.bl true) λ_ _ _=>False:=by
 obtain⟨S',h⟩:=h;have fz:Fz K H a (J.map V.int):=by
  rcases hS with(h|⟨o,h⟩)|h
  ·rcases U a with z|⟨c,xs,z⟩
   ·rw[h]at z;cases z
   ·rw[h]at z;cases z
  ·exact .inl ⟨o,h⟩
  ·exact .inr h
 exact⟨rfl,[],[],_,_,S',⟨rfl,dP,λn a o h=>by simp at h⟩,.cons (.frz fz<|qM J) .nil,h,λρ' H' v _ _ hv=>Cd hv⟩
section
variable {P:aj}{w:ah}{K:au}{mg:Str->bi}{base:aq}{f:ak}{fd:FuncData}{ps:ar}{k n:Nat}
def Qe(h:n=ps.length):FnOk P w K mg base qg k f fd ps (qO K n λ_ _=>.no):=
 ⟨λ_ _ _ _ z=>z.1.trans h,λ_ _ _ _ _ _ _ _ _ _ _ _ _ z=>by obtain⟨_,_,_,_,_,_,_,_,e,_⟩:=z;cases e⟩
end
def Nr{P:ba->Prop}(h:∀a0,P [a0]):∀us:ba,us.length=1->P us
 | [_],_=>h _
def EG{P:ba->Prop}(h:∀a0 a1,P [a0,a1]):∀us:ba,us.length=2->P us
 | [_,_],_=>h _ _
def GJ{n:Nat}{us:ba}(h:us.length=n+1):∃a t,us=a::t/\t.length=n:=by
 cases us with
 | nil=>simp at h
 | cons a t=>exact⟨a,t,rfl,by simpa using h⟩
def us3{P:ba->Prop}(h:∀a0 a1 a2,P [a0,a1,a2]):∀us:ba,us.length=3->P us:=λus e=>by
 obtain⟨a0,t0,rfl,e0⟩:=GJ e;obtain⟨a1,c,rfl,e1⟩:=GJ e0;obtain⟨a2,d,rfl,e2⟩:=GJ e1
 cases fO.mp e2
 exact h _ _ _
def us5{P:ba->Prop}(h:∀a0 a1 a2 a3 a4,P [a0,a1,a2,a3,a4]):∀us:ba,us.length=5->P us:=λus e=>by
 obtain⟨a0,t0,rfl,e0⟩:=GJ e;obtain⟨a1,d,rfl,e1⟩:=GJ e0;obtain⟨a2,g,rfl,e2⟩:=GJ e1;obtain⟨a3,f,rfl,e3⟩:=GJ e2;obtain⟨a4,j,rfl,c⟩:=GJ e3
 cases fO.mp c
 exact h _ _ _ _ _
end Am
namespace Am
open PySem L2
section
variable {α β:Type}{a b:A}{S S1:jD}{τ:ae}{x:α}
@[simp]def R.mF {f:α->jD->R β}:(R.ok x S).bind f=f x S:=rfl
@[simp]def R.Me {f:α->jD->R β}{c:Str}:(R.ex c S:R α).bind f=.ex c S:=rfl
@[simp]def R.lB {f:α->jD->R β}:(R.ok x S).r_ f=f x S:=rfl
@[simp]def RS.of_ok {f:α->jD->RS}:RS.of (R.ok x S) f=f x S:=rfl
@[simp]def RS.VY {f:α->jD->RS}{c:Str}:RS.of (R.ex c S:R α) f=.ex c S:=rfl
@[simp]def jT {f:β->R α}{y:β}:opt (some y) f=f y:=rfl
@[simp]def Jy {r:R α}:gd True r=r:=aK trivial
theorem pN{c:Prop}[Decidable c]{r:R α}(h:c):gd c r=r:=aK h
@[simp]def nJ {i:Nat}:jB i τ S=bif (τ.getD i .unb).p_ then .no else .ok (τ.getD i .unb) S:=by unfold jB;cases(τ.getD i .unb).p_<;>rfl
@[simp]def Ly {xs:ae}:A.p_ (.tup xs)=false:=rfl
@[simp]def L4 {xs:ae}:A.p_ (.frz xs)=false:=rfl
@[simp]def J3 {i:Int}:A.p_ (.int i)=false:=rfl
@[simp]def RC {i:Bool}:A.p_ (.bl i)=false:=rfl
@[simp]def JV {i:Str}:A.p_ (.str i)=false:=rfl
@[simp]def JS {i:Nat}:A.p_ (.ref i)=false:=rfl
@[simp]def LG:A.p_ .non=false:=rfl
@[simp]def Jw {i j:Int}:A.p_ (.rng i j)=false:=rfl
@[simp]def Lg {c:Str}:A.p_ (.exn c)=false:=rfl
@[simp]def WB:eC a τ S=.ok a S:=rfl
abbrev aaT (f:A->A->jD->R A)(cb:Ex)(τ:ae)(a:A)(S:jD):R A:=(cb τ S).bind<|f a
@[simp]def LL {f:A->A->jD->R A}{cb:Ex}:aaT f cb τ a S=(cb τ S).bind (f a):=rfl
@[simp]def JZ {f:A->A->jD->R A}{ca cb:Ex}:jO f ca cb τ S=(ca τ S).bind (aaT f cb τ):=rfl
@[simp]def Oc {f:A->jD->R A}{ca:Ex}:Z1 f ca τ S=(ca τ S).bind f:=rfl
@[simp]def KS {c:Ex}:tY c τ S=(c τ S).bind λa S1=>opt (a.Zo S1) λb=>.ok b S1:=rfl
abbrev aB (a:A)(S:jD):R Bool:=match a with
 | .bl b=>.ok b S
 | _=>.no
@[simp]def WS {b:Bool}:aB (.bl b) S=.ok b S:=rfl
@[simp]def PL {c:Ex}:wV c τ S=(c τ S).bind aB:=rfl
@[simp]def Ju {c:Te}:B5 c τ S=(c τ S).bind λb S1=>.ok (!b) S1:=rfl
abbrev Xv (d:Te)(τ:ae)(b:Bool)(S:jD):R Bool:=match b with|true=>d τ S|false=>.ok false S
abbrev kOr (d:Te)(τ:ae)(b:Bool)(S:jD):R Bool:=match b with|true=>.ok true S|false=>d τ S
@[simp]def QA {d:Te}:Xv d τ true S=d τ S:=rfl
@[simp]def Rt {d:Te}:Xv d τ false S=.ok false S:=rfl
@[simp]def W4 {d:Te}:kOr d τ true S=.ok true S:=rfl
@[simp]def V2 {d:Te}:kOr d τ false S=d τ S:=rfl
@[simp]def Mn {c d:Te}:Hl c d τ S=(c τ S).bind (Xv d τ):=rfl
@[simp]def Ph {c d:Te}:ZY c d τ S=(c τ S).bind (kOr d τ):=rfl
@[simp]def Lh:oW τ S=.ok true S:=rfl
abbrev Qd (d:Ex)(τ:ae)(a:A)(S:jD):R A:=match a with | .bl true=>d τ S | .bl false=>.ok (.bl false) S|_=>.no
abbrev ZE (d:Ex)(τ:ae)(a:A)(S:jD):R A:=match a with | .bl true=>.ok (.bl true) S | .bl false=>d τ S|_=>.no
@[simp]def K_ {d:Ex}:Qd d τ (.bl true) S=d τ S:=rfl
@[simp]def KA {d:Ex}:Qd d τ (.bl false) S=.ok (.bl false) S:=rfl
@[simp]def SM {d:Ex}:ZE d τ (.bl true) S=.ok (.bl true) S:=rfl
@[simp]def Rj {d:Ex}:ZE d τ (.bl false) S=d τ S:=rfl
@[simp]def JJ {c d:Ex}:tZ c d τ S=(c τ S).bind (Qd d τ):=by
 unfold tZ
 cases c τ S with
 | ok a S1=>cases a<;>first|rfl|(rename_i b;cases b<;>rfl)
 | _=>rfl
@[simp]def OB {c d:Ex}:eOr c d τ S=(c τ S).bind (ZE d τ):=by
 unfold eOr
 cases c τ S with
 | ok a S1=>cases a<;>first|rfl|(rename_i b;cases b<;>rfl)
 | _=>rfl
abbrev V4 (a:A)(S:jD):R A:=match a with | .bl b=>.ok (.bl !b) S|_=>.no
@[simp]def Fy {b:Bool}:V4 (.bl b) S=.ok (.bl !b) S:=rfl
@[simp]def Jv {c:Ex}:UZ c τ S=(c τ S).bind V4:=rfl
abbrev YB (c d:Ex)(τ:ae)(b:Bool)(S:jD):R A:=match b with|true=>c τ S|false=>d τ S
@[simp]def Pf {c d:Ex}:YB c d τ true S=c τ S:=rfl
@[simp]def OG {c d:Ex}:YB c d τ false S=d τ S:=rfl
@[simp]def QF {t:Te}{c d:Ex}:eIf t c d τ S=(t τ S).bind (YB c d τ):=rfl
@[simp]def LN:jL τ S=.ok [] S:=rfl
abbrev HV (a:A)(as:ae)(S:jD):R (ae):=.ok (a::as) S
abbrev WY (d:qc)(τ:ae)(a:A)(S:jD):R (ae):=(d τ S).bind<|HV a
@[simp]def Cs {as:ae}:HV a as S=.ok (a::as) S:=rfl
@[simp]def GO {d:qc}:WY d τ a S=(d τ S).bind (HV a):=rfl
@[simp]def Hf {c:Ex}{d:qc}:jA c d τ S=(c τ S).bind (WY d τ):=rfl
@[simp]def Lf {d:qc}:qP d τ S=(d τ S).bind λas S1=>gd (as.length<=sizeLine) (.ok (.tup as) S1):=rfl
@[simp]def JY {d:qc}:vW d τ S=(d τ S).bind newL:=rfl
theorem kZ{as:ae}(h:as.length<=16777216):newL as S=.ok (.ref S.length) (S++[.lst as]):=pN<|by rw[eN];exact h
@[simp]def F7 {f:ae->jD->R A}{d:qc}:jZ f d τ S=(d τ S).bind f:=rfl
abbrev okR (r:R A):R A:=match r with
 | .ok a S=>.ok a S
 | _=>.no
@[simp]def Oe:okR (.ok a S)=.ok a S:=rfl
abbrev kFn (f:ae->jD->R A)(as:ae)(S:jD):R A:=okR<|f as S
@[simp]def NH {f:ae->jD->R A}{as:ae}:kFn f as S=okR (f as S):=rfl
@[simp]def Pw {f:ae->jD->R A}{d:qc}:eFn f d τ S=(d τ S).bind (kFn f):=rfl
@[simp]def WL {g:A->jD->R A}:f1 g [a] S=g a S:=rfl
@[simp]def WU {g:A->A->jD->R A}:f2 g [a,b] S=g a b S:=rfl
abbrev Y_ (h:Pt)(τ:ae)(a:A)(l:Option Int)(S:jD):R A:=(h τ S).bind<|aSl a l
abbrev kSl (l h:Pt)(τ:ae)(a:A)(S:jD):R A:=(l τ S).bind<|Y_ h τ a
@[simp]def Kc {h:Pt}{l:Option Int}:Y_ h τ a l S=(h τ S).bind (aSl a l):=rfl
@[simp]def R9 {l h:Pt}:kSl l h τ a S=(l τ S).bind (Y_ h τ a):=rfl
@[simp]def Ol {c:Ex}{l h:Pt}:eSl c l h τ S=(c τ S).bind (kSl l h τ):=rfl
@[simp]def Gf:aae τ S=.ok none S:=rfl
abbrev aPt (a:A)(S:jD):R (Option Int):=match a with
 | .int i=>.ok (some i) S
 | _=>.no
@[simp]def LQ {i:Int}:aPt (.int i) S=.ok (some i) S:=rfl
@[simp]def Ho {c:Ex}:abp c τ S=(c τ S).bind aPt:=rfl
abbrev XH (f:A->ae->jD->R A)(d:qc)(τ:ae)(o:A)(S:jD)(_:ae):R A:=(d τ S).bind<|f o
abbrev kMe (f:A->ae->jD->R A)(d:qc)(τ:ae)(o:A)(S:jD):R A:=opt (o.lst? S)<|XH f d τ o S
@[simp]def KG {f:A->ae->jD->R A}{d:qc}{xs:ae}:XH f d τ a S xs=(d τ S).bind (f a):=rfl
@[simp]def O8 {f:A->ae->jD->R A}{d:qc}:kMe f d τ a S=opt (a.lst? S) (XH f d τ a S):=rfl
@[simp]def QO {f:A->ae->jD->R A}{c:Ex}{d:qc}:eMe f c d τ S=(c τ S).bind (kMe f d τ):=rfl
@[simp]def LS {f:A->ae->jD->R A}{c:Ex}:YE f c τ S=(c τ S).bind λo S1=>opt (o.lst? S1) λ_=>f o [] S1:=rfl
@[simp]def lst?_ref {n:Nat}:A.lst? S (.ref n)=jE S n:=rfl
abbrev RS.seq (r:RS)(d:Sm):RS:=match r with
 | .nx τ S=>d τ S
 | r=>r
@[simp]def RS.Rk {d:Sm}:RS.seq (.nx τ S) d=d τ S:=rfl
@[simp]def RS.Pn {d:Sm}:RS.seq (.rt a S) d=.rt a S:=rfl
@[simp]def RS.Q9 {d:Sm}{c:Str}:RS.seq (.ex c S) d=.ex c S:=rfl
@[simp]def RS.Qo {d:Sm}:RS.seq (.bk τ S) d=.bk τ S:=rfl
@[simp]def RS.Se {d:Sm}:RS.seq (.ct τ S) d=.ct τ S:=rfl
@[simp]def LZ {c d:Sm}:j9 c d τ S=RS.seq (c τ S) d:=by unfold j9 RS.seq;cases c τ S<;>rfl
@[simp]def Js:qu τ S=.nx τ S:=rfl
@[simp]def Cr:Zj τ S=.bk τ S:=rfl
@[simp]def G0:Z6 τ S=.ct τ S:=rfl
@[simp]def Gs {e:Ex}:pQ e τ S=RS.of (e τ S) λ_ S1=>.nx τ S1:=rfl
@[simp]def J1 {e:Ex}:lX e τ S=RS.of (e τ S) .rt:=rfl
@[simp]def Ht:aat τ S=.rt .non S:=rfl
abbrev kIf (c d:Sm)(τ:ae)(b:Bool)(S:jD):RS:=match b with|true=>c τ S|false=>d τ S
@[simp]def Wj {c d:Sm}:kIf c d τ true S=c τ S:=rfl
@[simp]def Wu {c d:Sm}:kIf c d τ false S=d τ S:=rfl
@[simp]def Qf {t:Te}{c d:Sm}:yU t c d τ S=RS.of (t τ S) (kIf c d τ):=rfl
abbrev aaN (g:Tg)(τ:ae)(a:A)(S:jD):RS:=RS.of (g a τ S) .nx
@[simp]def KH {g:Tg}:aaN g τ a S=RS.of (g a τ S) .nx:=rfl
@[simp]def J7 {e:Ex}{g:Tg}:kI e g τ S=RS.of (e τ S) (aaN g τ):=rfl
@[simp]def ac8 {i:Nat}:kh i a τ S=.ok (τ.set i a) S:=rfl
abbrev Zi (a o:A)(τ:ae)(i:A)(S:jD):R (ae):=(FQ o i a S).bind λ_ S3=>.ok τ S3
abbrev kSb (J:Ex)(τ:ae)(a o:A)(S:jD):R (ae):=(J τ S).bind<|Zi a o τ
@[simp]def Kh {o i:A}:Zi a o τ i S=(FQ o i a S).bind λ_ S3=>.ok τ S3:=rfl
@[simp]def OY {J:Ex}{o:A}:kSb J τ a o S=(J τ S).bind (Zi a o τ):=rfl
@[simp]def SK {co J:Ex}:Z4 co J a τ S=(co τ S).bind (kSb J τ a):=rfl
@[simp]def NX {n:Nat}{gs:Th}{xs:ae}:y_ n gs (.tup xs) τ S=gd (xs.length=n) (gs xs τ S):=rfl
@[simp]def Ri:za [] τ S=.ok τ S:=rfl
@[simp]def Rv {g:Tg}{gs:Th}{as:ae}:qw g gs (a::as) τ S=(g a τ S).bind (gs as):=rfl
abbrev sPr (i j:Nat)(τ:ae)(as:ae)(S:jD):RS:=match as with
 | [a,b]=>.nx ((τ.set i a).set j b) S
 | _=>.no
@[simp]def NC {i j:Nat}:sPr i j τ [a,b] S=.nx ((τ.set i a).set j b) S:=rfl
@[simp]def Jp {i j:Nat}{c:qc}:ac1 i j c τ S=RS.of (c τ S) (sPr i j τ):=rfl
abbrev SE (i:Nat)(τ:ae)(c:A)(S:jD):RS:=.nx (τ.set i c) S
abbrev abb (i:Nat)(f:A->A->jD->R A)(τ:ae)(b:A)(S:jD):RS:=.of (f (τ.getD i .unb) b S)<|SE i τ
@[simp]def Gw {i:Nat}:SE i τ a S=.nx (τ.set i a) S:=rfl
@[simp]def LA {i:Nat}{f:A->A->jD->R A}:abb i f τ a S=.of (f (τ.getD i .unb) a S) (SE i τ):=rfl
@[simp]def J4 {i:Nat}{f:A->A->jD->R A}{e:Ex}:ab7 i f e τ S=bif (τ.getD i .unb).p_ then .no else .of (e τ S) (abb i f τ):=by
 unfold ab7;cases(τ.getD i .unb).p_<;>rfl
abbrev kS5 (o i:A)(τ:ae)(z:A)(S:jD):RS:=.of (FQ o i z S) λ_ c=>.nx τ c
abbrev kS4 (f:A->A->jD->R A)(o i x:A)(τ:ae)(y:A)(S:jD):RS:=.of (f x y S)<|kS5 o i τ
abbrev kS3 (J:Ex)(f:A->A->jD->R A)(o i:A)(τ:ae)(x:A)(S:jD):RS:=.of (J τ S)<|kS4 f o i x τ
abbrev kS2 (J:Ex)(f:A->A->jD->R A)(o:A)(τ:ae)(i:A)(S:jD):RS:=.of (UC o i S)<|kS3 J f o i τ
abbrev kS1 (J U:Ex)(f:A->A->jD->R A)(τ:ae)(o:A)(S:jD):RS:=.of (J τ S)<|kS2 U f o τ
@[simp]def Sl {o i:A}:kS5 o i τ a S=.of (FQ o i a S) λ_ S6=>.nx τ S6:=rfl
@[simp]def Sq {f:A->A->jD->R A}{o i x:A}:kS4 f o i x τ a S=.of (f x a S) (kS5 o i τ):=rfl
@[simp]def NQ {J:Ex}{f:A->A->jD->R A}{o i:A}:kS3 J f o i τ a S=.of (J τ S) (kS4 f o i a τ):=rfl
@[simp]def Q3 {J:Ex}{f:A->A->jD->R A}{o:A}:kS2 J f o τ a S=.of (UC o a S) (kS3 J f o a τ):=rfl
@[simp]def SI {J U:Ex}{f:A->A->jD->R A}:kS1 J U f τ a S=.of (J τ S) (kS2 U f a τ):=rfl
@[simp]def F_ {co J U:Ex}{f:A->A->jD->R A}:aam co J U f τ S=RS.of (co τ S) (kS1 J U f τ):=rfl
abbrev RS.end (r:RS):R A:=match r with
 | .rt a d=>.ok a d
 | .nx _ d=>.ok .non d
 | .ex c d=>.ex c d
 | _=>.no
@[simp]def RS.Rp:RS.end (.rt a S)=.ok a S:=rfl
@[simp]def RS.QB:RS.end (.nx τ S)=.ok .non S:=rfl
@[simp]def RS.Ou {c:Str}:RS.end (.ex c S)=.ex c S:=rfl
theorem xE {N:ar}{m:Sm}{as:ae}:lC N m as S=RS.end (m (as++List.replicate (N.length-as.length) .unb) S):=by
 unfold lC RS.end;cases m (as++List.replicate (N.length-as.length) .unb) S<;>rfl
@[simp]def PC {i j:Int}:mE (.int i) (.int j) S=.ok (.int<|i+j) S:=rfl
@[simp]def NF {i j:Int}:aSub (.int i) (.int j) S=.ok (.int<|i-j) S:=rfl
@[simp]def Qi {i j:Int}:adb (.int i) (.int j) S=.ok (.int<|i+j) S:=rfl
theorem OM{i j:Int}(h:-18446744073709551616<i)(h':i<18446744073709551616):BP (.int i) (.int j) S=.ok (.int<|i * j) S:=pN<|by unfold Gb;simp;left;exact⟨by omega,by omega⟩
def mul_r{i j:Int}(h:-18446744073709551616<j)(h':j<18446744073709551616):BP (.int i) (.int j) S=.ok (.int<|i * j) S:=pN<|by unfold Gb;simp;right;exact⟨(),()⟩
def SA{i j:Int}(h:0<j)(h':j<1073741824):J_ (.int i) (.int j) S=.ok (.int<|i / j) S:=pN ⟨h,()⟩
def Hu{i j:Int}(h:0<j):DG (.int i) (.int j) S=.ok (.int<|i % j) S:=pN h
@[simp]def Wh {i j:Int}:Z0 (.int i) (.int j) S=.ok (.bl<|decide<|i<j) S:=rfl
@[simp]def We {i j:Int}:aLe (.int i) (.int j) S=.ok (.bl<|decide<|i<=j) S:=rfl
@[simp]def WI {i j:Int}:Sw (.int i) (.int j) S=.ok (.bl<|decide<|j<i) S:=rfl
@[simp]def WW {i j:Int}:aGe (.int i) (.int j) S=.ok (.bl<|decide<|j<=i) S:=rfl
@[simp]def V0 {i j:Bool}:WC false (.bl i) (.bl j) S=.ok (.bl<|i == j) S:=rfl
@[simp]def S_ {i j:Bool}:WC true (.bl i) (.bl j) S=.ok (.bl<|i != j) S:=rfl
@[simp]def NI {i:Int}:G7 (.int i) S=.ok (.int<|-i) S:=rfl
@[simp]def OT {xs:ae}:tu (.tup xs) S=.ok (.int xs.length) S:=rfl
@[simp]def Nz {xs:ae}:tu (.frz xs) S=.ok (.int xs.length) S:=rfl
@[simp]def PR {n:Nat}:tu (.ref n) S=opt (jE S n) λxs=>.ok (.int xs.length) S:=rfl
@[simp]def P1 {i:Int}:Xn (.int i) S=.ok (.int<|if i<0 then -i else i) S:=rfl
@[simp]def Lz {i j:Int}:aao (.int i) (.int j) S=.ok (.int<|if j>i then j else i) S:=rfl
@[simp]def JP {i j:Int}:abj (.int i) (.int j) S=.ok (.int<|if j<i then j else i) S:=rfl
@[simp]def LJ {i:Int}:FY (.int i) S=.ok (.int i) S:=rfl
@[simp]def KL {i:Bool}:FY (.bl i) S=.ok (.int<|if i then 1 else 0) S:=rfl
@[simp]def C1 {i j:Int}:DW (.int i) (.int j) S=.ok (.rng i j) S:=rfl
@[simp]def WZ {xs:ae}{i:Int}:u5 (.tup xs) (.int i) S=opt (t6 xs i) λx=>.ok x S:=rfl
@[simp]def V3 {xs:ae}{i:Int}:u5 (.frz xs) (.int i) S=opt (t6 xs i) λx=>.ok x S:=rfl
@[simp]def WT {n:Nat}{i:Int}:u5 (.ref n) (.int i) S=opt (jE S n) λxs=>opt (t6 xs i) λx=>.ok x S:=rfl
@[simp]def Qh {n:Nat}{k:Int}:FQ (.ref n) (.int k) a S=opt (jE S n) λxs=>opt (Fo xs.length k) λj=>.ok Unit.unit (S.set n<|.lst<|xs.set j a):=rfl
@[simp]def Pc {n:Nat}{i:Int}:UC (.ref n) (.int i) S=opt (jE S n) λxs=>gd (0<=i) (opt (xs[i.toNat]?) λx=>.ok x S):=rfl
theorem Mw{i j:Int}(h:C5 i j):yQ (.rng i j) S=.ok (.ref S.length) (S++[.lst<|(lJ i j).map .int]):=pN h
@[simp]def LX {xs:ae}:yQ (.tup xs) S=.ok (.ref S.length) (S++[.lst xs]):=rfl
@[simp]def Kx {xs:ae}:yQ (.frz xs) S=.ok (.ref S.length) (S++[.lst xs]):=rfl
@[simp]def Jz {n:Nat}:yQ (.ref n) S=opt (jE S n) λxs=>.ok (.ref S.length) (S++[.lst xs]):=rfl
@[simp]def Gz {xs:ae}:yG (.tup xs) S=.ok (.tup xs) S:=rfl
@[simp]def Gu {n:Nat}:yG (.ref n) S=opt (jE S n) λxs=>.ok (.tup xs) S:=rfl
@[simp]def NT {xs:ae}:ab_ (.tup xs) S=.ok (.tup xs.reverse) S:=rfl
@[simp]def O5 {n:Nat}:ab_ (.ref n) S=opt (jE S n) λxs=>.ok (.ref S.length) (S++[.lst xs.reverse]):=rfl
@[simp]def V_ {n:Nat}{l u:Option Int}:aSl (.ref n) l u S=opt (jE S n) λxs=>.ok (.ref S.length) (S++[.lst<|Vg xs l u]):=rfl
@[simp]def Ak {n:Nat}:zR (.ref n) [a] S=opt (jE S n) λxs=>gd (xs.length<sizeLine) (.ok .non<|S.set n<|.lst<|xs++[a]):=rfl
@[simp]def O3 {b:Bool}:A.Zo (.bl b) S=some b:=rfl
@[simp]def JN {i:Int}:A.Zo (.int i) S=some (i != 0):=rfl
theorem HC{o:O}:(S++[o])[S.length]?=some o:=by simp
@[simp]def jW {xs:ae}:jE (S++[.lst xs]) S.length=some xs:=xr HC
theorem lH{o:O}{n:Nat}(h:jE S n=some xs):jE (S++[o]) n=some xs:=by
 have h':=jS h;exact xr<|by rw[bB (aG.mp h').1];exact h'
def qB{n:Nat}(h:jE S n=some xs):n<S.length:=(aG.mp<|jS h).1
def sN{n:Nat}(h:n<S.length):jE (S.set n<|.lst ys) n=some ys:=xr<|bM h
def pD{n:Nat}(h:n≠m):jE (S.set n<|.lst ys) m=jE S m:=by unfold jE;rw[bL h]
def HS{xs:ae}{i:Int}{k:Nat}{x:A}(h:i=k)(J:xs[k]?=some x):t6 xs i=some x:=by rw[h];exact Ui J
def Ew{n:Nat}{i:Int}{k:Nat}(h:i=k)(J:k<n):Fo n i=some k:=by
 subst h;unfold Fo;rw[aK (),aK ()];simp
end
structure Kp (b:Nat->Prop)(S S':jD):Prop where
 len:S.length<=S'.length
 obj:∀(n:Nat) (o:O),¬b n->S[n]?=some o->S'[n]?=some o
meta abbrev l7:=Kp λ_=>False
def Kp.lst{b:Nat->Prop}(h:Kp b S S')(n:Nat)(xs:ae)(J:¬b n)(e:jE S n=some xs):jE S' n=some xs:=xr<|h.obj n _ J<|jS e
def Kp.dct{b:Nat->Prop}(h:Kp b S S')(n:Nat)(xs:List<|ag×A)(J:¬b n)(e:jX S n=some xs):jX S' n=some xs:=r9<|h.obj n _ J<|l8 e
def Kp.refl{b:Nat->Prop}:Kp b S S:=⟨aR _,λ_ _ _ h=>h⟩
def Kp.trans{b:Nat->Prop}(h:Kp b S S1)(h':Kp b S1 S2):Kp b S S2:=⟨bG h.len h'.len,λn xs c e=>h'.obj n xs c<|h.obj n xs c e⟩
def vX{S:jD}{n:Nat}(e:S[n]?=some o):n<S.length:=(aG.mp e).1
def Kp.lay{b:Nat->Prop}{o:O}(h:Kp b S S1):Kp b S (S1++[o]):=⟨bG h.len<|by simp,λn xs c e=>by
 have:=h.obj n xs c e;rw[bB<|vX this];exact this⟩
def Kp.yZ{b:Nat->Prop}{S S1:jD}(h:Kp b S S1)(J:b m\/S.length<=m):Kp b S (S1.set m o):=⟨by rw[cu];exact h.len,λn xs c e=>by
 have:m≠n:=λz=>by
  subst z
  rcases J with z|z
  ·exact c z
  ·exact absurd (vX e) ()
 rw[bL this];exact h.obj n xs c e⟩
def Kp.set{b:Nat->Prop}{S S1:jD}(h:Kp b S S1)(J:b m\/S.length<=m):Kp b S (S1.set m<|.lst ys):=h.yZ J
def Kp.mono{b c:Nat->Prop}{S:jD}(h:Kp b S S1)(J:∀n,n<S.length->b n->c n):Kp c S S1:=⟨h.len,λn xs hc e=>h.obj n xs (λz=>hc<|J n (vX e) z) e⟩
def Kp.of0{b:Nat->Prop}(h:l7 S S1):Kp b S S1:=h.mono λ_ _ z=>z.elim
def Kp.old{b c:Nat->Prop}{S:jD}(h:Kp b S S1)(h':Kp c S1 S2)(hc:∀n,n<S.length->¬b n->¬c n):Kp b S S2:=⟨bG h.len h'.len,λn xs d e=>h'.obj n xs (hc n (vX e) d)<|h.obj n xs d e⟩
theorem Ah{s:Src}{g:Tg}{c:Sm}(Inv:Nat->ae->jD->Prop)(J:RS->Prop)
  (step:∀i τ S,i<s.k->Inv i τ S->∃x τ1 S1,s.get i S=some x/\g x τ S=.ok τ1 S1/\((∃τ' S',c τ1 S1=.nx τ' S'/\Inv (i+1) τ' S')\/(∃a S',c τ1 S1=.rt a S'/\J (.rt a S'))))
  (fin:∀τ S,Inv s.k τ S->s.fin S=true/\J (.nx τ S)):∀k i τ S,k+i=s.k->Inv i τ S->J (qT s g c k i τ S)
 | 0,i,τ,S,hk,hi=>by
  have:i=s.k:=()
  subst this;obtain⟨hf,q⟩:=fin τ S hi;unfold qT;rw[aK hf];exact q
 | k+1,i,τ,S,hk,hi=>by
  obtain⟨x,τ1,S1,f,hg,h⟩:=step i τ S () hi;unfold qT;rw[f];show J (RS.of (g x τ S) λτ1 S1=>match c τ1 S1 with
   | .nx τ' S'=>qT s g c k (i+1) τ' S'
   | .ct τ' S'=>qT s g c k (i+1) τ' S'
   | .bk τ' S'=>.nx τ' S'
   | r=>r)
  rw[hg];show J (match c τ1 S1 with
   | .nx τ' S'=>qT s g c k (i+1) τ' S'
   | .ct τ' S'=>qT s g c k (i+1) τ' S'
   | .bk τ' S'=>.nx τ' S'
   | r=>r)
  rcases h with⟨τ',S',e,d⟩|⟨a,S',e,q⟩
  ·rw[e];exact Ah Inv J step fin k (i+1) τ' S' () d
  ·rw[e];exact q
def Uz{lo hi:Int}{c:Sm}{src:Ic}{τ:ae}(hs:src τ S=.ok (uM lo hi) S1)(Inv:Nat->ae->jD->Prop)(J:RS->Prop)(h0:Inv 0 τ S1)
  (step:∀(i:Nat) τ S,(i:Int)<hi-lo->Inv i τ S->(∃τ' S',c (τ.set j<|.int<|lo+i) S=.nx τ' S'/\Inv (i+1) τ' S')\/(∃a S',c (τ.set j<|.int<|lo+i) S=.rt a S'/\J (.rt a S')))
  (fin:∀τ S,Inv (hi-lo).toNat τ S->J (.nx τ S)):J (lO src (kh j) c τ S):=by
 unfold lO;rw[hs];refine Ah (s:=uM lo hi) Inv J (λi τ S d h=>?_) (λτ S h=>⟨rfl,fin τ S h⟩) _ 0 τ S1 rfl h0;have d:i<(hi-lo).toNat:=d;exact⟨.int<|lo+i,_,S,aK d,rfl,step i τ S (by omega) h⟩
def u_{xs:ae}{g:Tg}{c:Sm}{src:Ic}(hs:src τ S=.ok (nW xs) S1)(Inv:Nat->ae->jD->Prop)(J:RS->Prop)(h0:Inv 0 τ S1)
  (step:∀(i:Nat) x τ S,xs[i]?=some x->Inv i τ S->∃τ1 S1,g x τ S=.ok τ1 S1/\((∃τ' S',c τ1 S1=.nx τ' S'/\Inv (i+1) τ' S')\/(∃a S',c τ1 S1=.rt a S'/\J (.rt a S'))))
  (fin:∀τ S,Inv xs.length τ S->J (.nx τ S)):J (lO src g c τ S):=by
 unfold lO;rw[hs];refine Ah (s:=nW xs) Inv J (λi τ S d h=>?_) (λτ S h=>⟨rfl,fin τ S h⟩) _ 0 τ S1 rfl h0;have d:i<xs.length:=d;obtain⟨τ1,S1,e,q⟩:=step i xs[i] τ S (aF d) h;exact⟨xs[i],τ1,S1,aF d,e,q⟩
def vf{n:Nat}{xs:ae}{g:Tg}{c:Sm}{src:Ic}(hs:src τ S=.ok (kY n xs.length) S1)(Inv:Nat->ae->jD->Prop)(J:RS->Prop)(h0:Inv 0 τ S1)(U:∀i τ S,Inv i τ S->jE S n=some xs)
  (step:∀(i:Nat) x τ S,xs[i]?=some x->Inv i τ S->∃τ1 S1,g x τ S=.ok τ1 S1/\((∃τ' S',c τ1 S1=.nx τ' S'/\Inv (i+1) τ' S')\/(∃a S',c τ1 S1=.rt a S'/\J (.rt a S'))))
  (fin:∀τ S,Inv xs.length τ S->J (.nx τ S)):J (lO src g c τ S):=by
 unfold lO;rw[hs];refine Ah (s:=kY n xs.length) Inv J (λi τ S d h=>?_) (λτ S h=>⟨?_,fin τ S h⟩) _ 0 τ S1 rfl h0
 ·have d:i<xs.length:=d;obtain⟨τ1,S1,e,q⟩:=step i xs[i] τ S (aF d) h;exact⟨xs[i],τ1,S1,by show(jE S n).bind _=_;rw[U i τ S h];exact aF d,e,q⟩
 ·show(match jE S n with
   | some ys=>decide (ys.length<=xs.length)
   | none=>false)=true
  rw[U _ τ S h];exact bg<|aR _
@[simp]def SD {c:Ex}{τ:ae}{S S1:jD}{j:Int}(h:c τ S=.ok (.int j) S1)(J:bnd j):Au c τ S=.ok (uM 0 j) S1:=by
 unfold Au;rw[h];exact pN J
def F5{c d:Ex}{i j:Int}(h:c τ S=.ok (.int i) S1)(h':d τ S1=.ok (.int j) S2)(U:bnd i)(J:bnd j):vI c d τ S=.ok (uM i j) S2:=by
 unfold vI;rw[h];show(d τ S1).bind _=_;rw[h'];exact pN ⟨U,J⟩
def RB{c:Ex}(h:c τ S=.ok (.tup xs) S1):lV c τ S=.ok (nW xs) S1:=by unfold lV;rw[h];rfl
def m8{c:Ex}{n:Nat}{xs:ae}(h:c τ S=.ok (.ref n) S1)(J:jE S1 n=some xs):lV c τ S=.ok (kY n xs.length) S1:=by
 unfold lV;rw[h];show opt (jE S1 n) _=_;rw[J];rfl
theorem vg{s:Src}{g:Tg}{t:Te}{e:Ex}{P:jD->Prop}{T:ae->Prop}(it:Nat->A)(p:Nat->Bool)(f:Nat->A)
  (J:∀i S,i<s.k->P S->s.get i S=some (it i)) (U:∀S,P S->s.fin S=true)
  (step:∀i τ S,i<s.k->T τ->P S->∃τ1 S1 S2,g (it i) τ S=.ok τ1 S1/\t τ1 S1=.ok (p i) S2/\T τ1/\(p i=false->P S2)/\(p i=true->∃S3,e τ1 S2=.ok (f i) S3/\P S3)) :
  ∀k i τ S,k+i=s.k->T τ->P S->∃S',m9 s g t e k i τ S=.ok (((List.range' i k).filter p).map f) S'/\P S'
 | 0,i,τ,S,hk,hT,hP=>⟨S,by unfold m9;rw[aK<|U S hP];rfl,hP⟩
 | k+1,i,τ,S,hk,hT,hP=>by
  obtain⟨τ1,S1,S2,hg,B,c,q,d⟩:=step i τ S (by omega) hT hP;unfold m9;rw[J i S (by omega) hP,jT,hg,R.lB,B,R.lB,iC,bY]
  cases m:p i with
  | false=>
   obtain⟨S',h1,h2⟩:=vg it p f J U step k (i+1) τ1 S2 (by omega) c<|q m;exact⟨S',by simpa using h1,h2⟩
  | true=>
   obtain⟨S3,C,j⟩:=d m;obtain⟨S',h1,h2⟩:=vg it p f J U step k (i+1) τ1 S3 (by omega) c j;refine⟨S',?_,h2⟩
   skip
   rw[C,R.lB,h1];rfl
def yr{s:Src}{src:Ic}{t:Te}{e:Ex}{S1:jD}(hs:src τ S=.ok s S1)(it:Nat->A)(p:Nat->Bool)(f:Nat->A)(J:∀i,i<s.k->s.get i S1=some (it i))(U:s.fin S1=true)
  (ht:∀i,i<s.k->t (it i::lN cap τ) S1=.ok (p i) S1) (he:∀i,i<s.k->p i=true->e (it i::lN cap τ) S1=.ok (f i) S1) (hl:s.k<=16777216) :
  kF (none::cap) src (kh 0) t e τ S=.ok (.ref S1.length) (S1++[.lst<|((List.range s.k).filter p).map f]):=by
 unfold kF;rw[hs,R.mF];obtain⟨q,h1,h2⟩:=vg (s:=s) (g:=kh 0) (t:=t) (e:=e) (P:=λS=>S=S1) (T:=λc=>∃y,c=y::lN cap τ) it p f (λi S d h=>by subst h;exact J i d) (λS h=>by subst h;exact U)
  (λi c S d ⟨y,m⟩ h=>by
   subst h m;exact⟨it i::lN cap τ,S,S,rfl,ht i d,⟨_,rfl⟩,λ_=>rfl,λj=>⟨S,he i d j,rfl⟩⟩) s.k 0 (lN (none::cap) τ) S1 rfl ⟨_,rfl⟩ rfl
 subst h2;rw[h1,R.lB,gc];refine kZ ?_;rw[aH];refine bG (cG _ _) ?_;rw[List.length_range'];exact hl
def nk{α β:Type}(xs:List α)(p:α->Bool)(f:α->β):∀(d:α) ,(((List.range xs.length).filter λi=>p<|xs.getD i d).map λi=>f<|xs.getD i d)=(xs.filter p).map f:=by
 intro d
 induction xs with
 | nil=>rfl
 | cons x xs g=>
  rw[bJ,List.range_succ_eq_map,bY,bY];have e:((List.filter (λi=>p<|(x::xs).getD i d)<|List.map Nat.succ<|List.range xs.length).map λi=>f<|(x::xs).getD i d)=(xs.filter p).map f:=by
   rw[jt,bq];rw[<- g];rfl
  show List.map _ (if p x=true then _ else _)=List.map f (if p x=true then _ else _);by_cases c:p x=true
  ·rw[aK c,aK c,bE,bE,e];rfl
  ·rw[aI c,aI c,e]
def Rb{xs:ae}{src:Ic}{t:Te}{e:Ex}{S1:jD}(hs:src τ S=.ok (nW xs) S1)(p:A->Bool)(f:A->A)
  (J:∀x∈xs,t (x::lN cap τ) S1=.ok (p x) S1) (U:∀x∈xs,p x=true->e (x::lN cap τ) S1=.ok (f x) S1) (hl:xs.length<=16777216) :
  kF (none::cap) src (kh 0) t e τ S=.ok (.ref S1.length) (S1++[.lst<|(xs.filter p).map f]):=by
 have d:∀i,i<xs.length->xs.getD i .unb∈xs:=λi c=>by
  rw[aJ,aF c];exact dZ c
 rw[yr hs (λi=>xs.getD i .unb) (λi=>p<|xs.getD i .unb) (λi=>f<|xs.getD i .unb) (λi c=>by
  have c:i<xs.length:=c;show xs[i]?=_;rw[aJ,aF c];rfl) rfl (λi c=>J _<|d i c) (λi c=>U _<|d i c) hl]
 have:=nk xs p f .unb;show R.ok _ (S1++[O.lst<|((List.range xs.length).filter _).map _])=_;rw[this]
def Hx{lo hi:Int}{src:Ic}{t:Te}{e:Ex}{S1:jD}(hs:src τ S=.ok (uM lo hi) S1)(p:Int->Bool)(f:Int->A)
  (J:∀k,lo<=k->k<hi->t (.int k::lN cap τ) S1=.ok (p k) S1) (U:∀k,lo<=k->k<hi->p k=true->e (.int k::lN cap τ) S1=.ok (f k) S1) (hl:(hi-lo).toNat<=16777216) :
  kF (none::cap) src (kh 0) t e τ S=.ok (.ref S1.length) (S1++[.lst<|((lJ lo hi).filter p).map f]):=by
 rw[yr hs (λi=>.int<|lo+i) (λi=>p<|lo+i) (λi=>f<|lo+i) (λi c=>aK c) rfl (λi c=>J _ () (by have:i<(hi-lo).toNat:=c;lia)) (λi c=>U _ () (by have:i<(hi-lo).toNat:=c;lia)) hl];unfold lJ;rw[jt,bq];rfl
@[simp]def Ra {cap:List<|bn}{τ:ae}:lN (none::cap) τ=.unb::lN cap τ:=rfl
@[simp]def PY {cap:List<|bn}{τ:ae}{j:Nat}:lN (some j::cap) τ=τ.getD j .unb::lN cap τ:=rfl
@[simp]def Gx {τ:ae}:lN [] τ=[]:=rfl
theorem Dg{x:A}:t6 (x::xs) 0=some x:=HS (k:=0) rfl rfl
def Aw{x:A}:t6 (x::y::xs) 1=some y:=HS (k:=1) rfl rfl
def J0{J:ag}{i:Int}{k:Nat}{x:Int}(h:i=k)(U:J[k]?=some x):t6 (J.map A.int) i=some (.int x):=HS h<|by rw[aO,U];rfl
def A5{j:Int}(h:-4611686018427387904<=j)(h':j<4611686018427387904):bnd j:=⟨(),()⟩
def Qp{i j:Int}(h1:-1000000<=i)(h2:i<=1000000)(h3:-1000000<=j)(J:j<=1000000)(U:j-i<=1000):C5 i j:=⟨⟨(),(),(),()⟩,()⟩
theorem ints_map:∀(ns:ag),A.ints (ns.map .int)=some ns
 | []=>rfl
 | n::ns=>by show(A.ints<|ns.map .int).map (n::·)=_;rw[ints_map ns];rfl
theorem xY{n:Nat}:∀(xs ys:ag),qo (qS S<|n+1) (xs.map .int) (ys.map .int)=some (decide<|xs=ys)
 | [],[]=>rfl
 | [],_::_=>rfl
 | _::_,[]=>rfl
 | x::xs,y::ys=>by
  skip
  skip
  show Option.map _ (qo (qS S<|n+1) (xs.map .int)<|ys.map .int)=_;rw[xY xs ys]
  skip
  by_cases h1:x=y<;>by_cases h2:xs=ys<;>simp[h1,h2]
@[simp]def WJ {S:jD}{x y:Bool}:vN false (.bl x) (.bl y) S=.ok (.bl<|x == y) S:=rfl
@[simp]def Wf {S:jD}{x y:Bool}:vN true (.bl x) (.bl y) S=.ok (.bl<|!(x == y)) S:=rfl
@[simp]def Wi {S:jD}{x y:Int}:vN false (.int x) (.int y) S=.ok (.bl<|x == y) S:=rfl
@[simp]def V8 {S:jD}{x y:Int}:vN true (.int x) (.int y) S=.ok (.bl<|!(x == y)) S:=rfl
@[simp]def KN {S:jD}:WC false .non .non S=.ok (.bl true) S:=rfl
@[simp]def Lj {S:jD}{xs:ae}:WC false (.tup xs) .non S=.ok (.bl false) S:=rfl
@[simp]def LP {S:jD}{n:Nat}:WC false (.ref n) .non S=.ok (.bl false) S:=rfl
@[simp]def Ga {S:jD}:WC true .non .non S=.ok (.bl false) S:=rfl
@[simp]def Hs {S:jD}{xs:ae}:WC true (.tup xs) .non S=.ok (.bl true) S:=rfl
@[simp]def Gi {S:jD}{n:Nat}:WC true (.ref n) .non S=.ok (.bl true) S:=rfl
@[simp]def D7 {S:jD}{x:A}{c:String}:vU x (.ty c) S=opt (x.kd S) λk=>opt (B0 k c) λb=>.ok (.bl b) S:=rfl
@[simp]def W6 {S:jD}{b:Bool}:A.kd (.bl b) S=some .bl:=rfl
@[simp]def OQ {S:jD}{b:Int}:A.kd (.int b) S=some .int:=rfl
@[simp]def Ob {S:jD}{b:ae}:A.kd (.tup b) S=some .tup:=rfl
@[simp]def O7 {S:jD}:A.kd .non S=some .non:=rfl
@[simp]def Oo {S:jD}{b:Str}:A.kd (.str b) S=some .str:=rfl
@[simp]def Td {S:jD}{n:Nat}:A.kd (.ref n) S=(jE S n).map λ_=>.lst:=rfl
@[simp]def N4 {S:jD}:newL [] S=.ok (.ref S.length) (S++[.lst []]):=kZ<|by simp
@[simp]def SN {S:jD}{x0:A}:newL [x0] S=.ok (.ref S.length) (S++[.lst [x0]]):=kZ<|by simp
@[simp]def Pb {S:jD}{x0 x1:A}:newL [x0,x1] S=.ok (.ref S.length) (S++[.lst [x0,x1]]):=kZ<|by simp
@[simp]def SJ {S:jD}{x0 x1 x2:A}:newL [x0,x1,x2] S=.ok (.ref S.length) (S++[.lst [x0,x1,x2]]):=kZ<|by simp
@[simp]def O6 {S:jD}{x0 x1 x2 x3:A}:newL [x0,x1,x2,x3] S=.ok (.ref S.length) (S++[.lst [x0,x1,x2,x3]]):=kZ<|by simp
@[simp]def RZ {S:jD}{x0 x1 x2 x3 x4:A}:newL [x0,x1,x2,x3,x4] S=.ok (.ref S.length) (S++[.lst [x0,x1,x2,x3,x4]]):=kZ<|by simp
@[simp]def PJ {S:jD}{x0 x1 x2 x3 x4 x5:A}:newL [x0,x1,x2,x3,x4,x5] S=.ok (.ref S.length) (S++[.lst [x0,x1,x2,x3,x4,x5]]):=kZ<|by simp
@[simp]def OJ {S:jD}{x0 x1 x2 x3 x4 x5 x6:A}:newL [x0,x1,x2,x3,x4,x5,x6] S=.ok (.ref S.length) (S++[.lst [x0,x1,x2,x3,x4,x5,x6]]):=kZ<|by simp
@[simp]def PK {S:jD}{x0 x1 x2 x3 x4 x5 x6 x7:A}:newL [x0,x1,x2,x3,x4,x5,x6,x7] S=.ok (.ref S.length) (S++[.lst [x0,x1,x2,x3,x4,x5,x6,x7]]):=kZ<|by simp
@[simp]def RJ {S:jD}{x0 x1 x2 x3 x4 x5 x6 x7 x8:A}:newL [x0,x1,x2,x3,x4,x5,x6,x7,x8] S=.ok (.ref S.length) (S++[.lst [x0,x1,x2,x3,x4,x5,x6,x7,x8]]):=kZ<|by simp
@[simp]def Li {S:jD}{x0 x1 x2 x3 x4 x5 x6 x7 x8 x9:A}:newL [x0,x1,x2,x3,x4,x5,x6,x7,x8,x9] S=.ok (.ref S.length) (S++[.lst [x0,x1,x2,x3,x4,x5,x6,x7,x8,x9]]):=kZ<|by simp
theorem p8{α:Type}{n:Nat}{r:R α}(h:n<=16777216):gd (n<=sizeLine) r=r:=pN<|by rw[eN];exact h
def tX{α:Type}{n:Nat}{r:R α}(h:n<16777216):gd (n<sizeLine) r=r:=pN<|by rw[eN];exact h
def WK {x:A}{xs:ae}:(x::xs).getD 0 .unb=x:=rfl
def V5 {x:A}{xs:ae}{n:Nat}:(x::xs).getD (n+1) .unb=xs.getD n .unb:=rfl
def aaG {x y:A}{xs:ae}:(x::xs).set 0 y=y::xs:=rfl
def sets {x y:A}{xs:ae}{n:Nat}:(x::xs).set (n+1) y=x::xs.set n y:=rfl
def rep0 {x:A}:List.replicate 0 x=[]:=rfl
def reps {x:A}{n:Nat}:List.replicate (n+1) x=x::List.replicate n x:=rfl
def aa0 {x:A}{xs ys:ae}:(x::xs)++ys=x::(xs++ys):=rfl
def aa3 {ys:ae}:[]++ys=ys:=rfl
def WQ{S:jD}{n:Nat}{xs ys:ae}(h:jE S n=some xs)(h':jE S m=some ys)(J:xs.length+ys.length<=16777216):mE (.ref n) (.ref m) S=.ok (.ref S.length) (S++[.lst<|xs++ys]):=by
 show opt (jE S n) _=_;rw[h,jT,h',jT];exact pN<|by rw[eN];exact J
abbrev uV (x:A)(S:jD):R A:=bif x.p_ then .no else .ok x S
def Rg {xs:ae}{S:jD}:uV (.tup xs) S=.ok (.tup xs) S:=rfl
def Q7 {xs:ae}{S:jD}:uV (.frz xs) S=.ok (.frz xs) S:=rfl
def QJ {i:Int}{S:jD}:uV (.int i) S=.ok (.int i) S:=rfl
def Wl {b:Bool}{S:jD}:uV (.bl b) S=.ok (.bl b) S:=rfl
def Sf {s:Str}{S:jD}:uV (.str s) S=.ok (.str s) S:=rfl
def PF {n:Nat}{S:jD}:uV (.ref n) S=.ok (.ref n) S:=rfl
def QH  {S:jD}:uV (.non) S=.ok (.non) S:=rfl
def Q6 {i j:Int}{S:jD}:uV (.rng i j) S=.ok (.rng i j) S:=rfl
def RA {s:Str}{S:jD}:uV (.exn s) S=.ok (.exn s) S:=rfl
def eV0 {x0:A}{xs:ae}{S:jD}:jB 0 (x0::xs) S=uV x0 S:=nJ
def eV1 {x0 x1:A}{xs:ae}{S:jD}:jB 1 (x0::x1::xs) S=uV x1 S:=nJ
def eV2 {x0 x1 x2:A}{xs:ae}{S:jD}:jB 2 (x0::x1::x2::xs) S=uV x2 S:=nJ
def eV3 {x0 x1 x2 x3:A}{xs:ae}{S:jD}:jB 3 (x0::x1::x2::x3::xs) S=uV x3 S:=nJ
def eV4 {x0 x1 x2 x3 x4:A}{xs:ae}{S:jD}:jB 4 (x0::x1::x2::x3::x4::xs) S=uV x4 S:=nJ
def eV5 {x0 x1 x2 x3 x4 x5:A}{xs:ae}{S:jD}:jB 5 (x0::x1::x2::x3::x4::x5::xs) S=uV x5 S:=nJ
def eV6 {x0 x1 x2 x3 x4 x5 x6:A}{xs:ae}{S:jD}:jB 6 (x0::x1::x2::x3::x4::x5::x6::xs) S=uV x6 S:=nJ
def eV7 {x0 x1 x2 x3 x4 x5 x6 x7:A}{xs:ae}{S:jD}:jB 7 (x0::x1::x2::x3::x4::x5::x6::x7::xs) S=uV x7 S:=nJ
def eV8 {x0 x1 x2 x3 x4 x5 x6 x7 x8:A}{xs:ae}{S:jD}:jB 8 (x0::x1::x2::x3::x4::x5::x6::x7::x8::xs) S=uV x8 S:=nJ
def gN0 {a x0:A}{xs:ae}{S:jD}:kh 0 a (x0::xs) S=.ok (a::xs) S:=rfl
def gN1 {a x0 x1:A}{xs:ae}{S:jD}:kh 1 a (x0::x1::xs) S=.ok (x0::a::xs) S:=rfl
def gN2 {a x0 x1 x2:A}{xs:ae}{S:jD}:kh 2 a (x0::x1::x2::xs) S=.ok (x0::x1::a::xs) S:=rfl
def gN3 {a x0 x1 x2 x3:A}{xs:ae}{S:jD}:kh 3 a (x0::x1::x2::x3::xs) S=.ok (x0::x1::x2::a::xs) S:=rfl
def gN4 {a x0 x1 x2 x3 x4:A}{xs:ae}{S:jD}:kh 4 a (x0::x1::x2::x3::x4::xs) S=.ok (x0::x1::x2::x3::a::xs) S:=rfl
def gN5 {a x0 x1 x2 x3 x4 x5:A}{xs:ae}{S:jD}:kh 5 a (x0::x1::x2::x3::x4::x5::xs) S=.ok (x0::x1::x2::x3::x4::a::xs) S:=rfl
def gN6 {a x0 x1 x2 x3 x4 x5 x6:A}{xs:ae}{S:jD}:kh 6 a (x0::x1::x2::x3::x4::x5::x6::xs) S=.ok (x0::x1::x2::x3::x4::x5::a::xs) S:=rfl
def gN7 {a x0 x1 x2 x3 x4 x5 x6 x7:A}{xs:ae}{S:jD}:kh 7 a (x0::x1::x2::x3::x4::x5::x6::x7::xs) S=.ok (x0::x1::x2::x3::x4::x5::x6::a::xs) S:=rfl
def gN8 {a x0 x1 x2 x3 x4 x5 x6 x7 x8:A}{xs:ae}{S:jD}:kh 8 a (x0::x1::x2::x3::x4::x5::x6::x7::x8::xs) S=.ok (x0::x1::x2::x3::x4::x5::x6::x7::a::xs) S:=rfl
def ki:type_of% (anI @R.mF<|anI @R.Me<|anI @R.lB<|anI @RS.of_ok<|anI @RS.VY<|anI @jT<|anI @Jy<|anI @eV0<|anI @eV1<|anI @eV2<|anI @eV3<|anI @eV4<|anI @eV5<|anI @eV6<|anI @eV7<|anI @eV8<|anI @Rg<|anI @Q7<|anI @QJ<|anI @Wl<|anI @Sf<|anI @PF<|anI @QH<|anI @Q6<|anI @RA<|anI @Ly<|anI @L4<|anI @J3<|anI @RC<|anI @JV<|anI @JS<|anI @LG<|anI @Jw<|anI @Lg<|anI @WB<|anI @JZ<|anI @Oc<|anI @KS<|anI @WS<|anI @PL<|anI @Ju<|anI @Mn<|anI @Ph<|anI @Lh<|anI @K_<|anI @KA<|anI @SM<|anI @Rj<|anI @JJ<|anI @OB<|anI @Fy<|anI @Jv<|anI @QF<|anI @LN<|anI @Hf<|anI @Lf<|anI @JY<|anI @F7<|anI @Oe<|anI @Pw<|anI @WL<|anI @WU<|anI @Ol<|anI @Gf<|anI @LQ<|anI @Ho<|anI @QO<|anI @LS<|anI @lst?_ref<|anI @RS.Rk<|anI @RS.Pn<|anI @RS.Q9<|anI @RS.Qo<|anI @RS.Se<|anI @LZ<|anI @Js<|anI @Cr<|anI @G0<|anI @Gs<|anI @J1<|anI @Ht<|anI @Qf<|anI @J7<|anI @gN0<|anI @gN1<|anI @gN2<|anI @gN3<|anI @gN4<|anI @gN5<|anI @gN6<|anI @gN7<|anI @gN8<|anI @SK<|anI @NX<|anI @Ri<|anI @Rv<|anI @NC<|anI @Jp<|anI @J4<|anI @F_<|anI @RS.Rp<|anI @RS.QB<|anI @RS.Ou<|anI @PC<|anI @NF<|anI @Qi<|anI @Wh<|anI @We<|anI @WI<|anI @WW<|anI @V0<|anI @S_<|anI @NI<|anI @OT<|anI @Nz<|anI @PR<|anI @P1<|anI @Lz<|anI @JP<|anI @LJ<|anI @KL<|anI @C1<|anI @WZ<|anI @V3<|anI @WT<|anI @Qh<|anI @Pc<|anI @LX<|anI @Kx<|anI @Jz<|anI @Gz<|anI @Gu<|anI @NT<|anI @O5<|anI @V_<|anI @Ak<|anI @O3<|anI @JN<|anI @jW<|anI @Ra<|anI @PY<|anI @Gx<|anI @WJ<|anI @Wf<|anI @Wi<|anI @V8<|anI @KN<|anI @Lj<|anI @LP<|anI @Ga<|anI @Hs<|anI @Gi<|anI @D7<|anI @W6<|anI @OQ<|anI @Ob<|anI @O7<|anI @Oo<|anI @Td<|anI @N4<|anI @SN<|anI @Pb<|anI @SJ<|anI @O6<|anI @RZ<|anI @PJ<|anI @OJ<|anI @PK<|anI @RJ<|anI @Li<|anI @WK<|anI @V5<|anI @aaG<|anI @sets<|anI @rep0<|anI @reps<|anI @aa0<|anI @aa3<|anI @xE<|anI @LL<|anI @QA<|anI @Rt<|anI @W4<|anI @V2<|anI @Pf<|anI @OG<|anI @Cs<|anI @GO<|anI @NH<|anI @Kc<|anI @R9<|anI @KG<|anI @O8<|anI @Wj<|anI @Wu<|anI @KH<|anI @Kh<|anI @OY<|anI @Gw<|anI @LA<|anI @SI<|anI @Q3<|anI @NQ<|anI @Sq<|@Sl):=anI @R.mF<|anI @R.Me<|anI @R.lB<|anI @RS.of_ok<|anI @RS.VY<|anI @jT<|anI @Jy<|anI @eV0<|anI @eV1<|anI @eV2<|anI @eV3<|anI @eV4<|anI @eV5<|anI @eV6<|anI @eV7<|anI @eV8<|anI @Rg<|anI @Q7<|anI @QJ<|anI @Wl<|anI @Sf<|anI @PF<|anI @QH<|anI @Q6<|anI @RA<|anI @Ly<|anI @L4<|anI @J3<|anI @RC<|anI @JV<|anI @JS<|anI @LG<|anI @Jw<|anI @Lg<|anI @WB<|anI @JZ<|anI @Oc<|anI @KS<|anI @WS<|anI @PL<|anI @Ju<|anI @Mn<|anI @Ph<|anI @Lh<|anI @K_<|anI @KA<|anI @SM<|anI @Rj<|anI @JJ<|anI @OB<|anI @Fy<|anI @Jv<|anI @QF<|anI @LN<|anI @Hf<|anI @Lf<|anI @JY<|anI @F7<|anI @Oe<|anI @Pw<|anI @WL<|anI @WU<|anI @Ol<|anI @Gf<|anI @LQ<|anI @Ho<|anI @QO<|anI @LS<|anI @lst?_ref<|anI @RS.Rk<|anI @RS.Pn<|anI @RS.Q9<|anI @RS.Qo<|anI @RS.Se<|anI @LZ<|anI @Js<|anI @Cr<|anI @G0<|anI @Gs<|anI @J1<|anI @Ht<|anI @Qf<|anI @J7<|anI @gN0<|anI @gN1<|anI @gN2<|anI @gN3<|anI @gN4<|anI @gN5<|anI @gN6<|anI @gN7<|anI @gN8<|anI @SK<|anI @NX<|anI @Ri<|anI @Rv<|anI @NC<|anI @Jp<|anI @J4<|anI @F_<|anI @RS.Rp<|anI @RS.QB<|anI @RS.Ou<|anI @PC<|anI @NF<|anI @Qi<|anI @Wh<|anI @We<|anI @WI<|anI @WW<|anI @V0<|anI @S_<|anI @NI<|anI @OT<|anI @Nz<|anI @PR<|anI @P1<|anI @Lz<|anI @JP<|anI @LJ<|anI @KL<|anI @C1<|anI @WZ<|anI @V3<|anI @WT<|anI @Qh<|anI @Pc<|anI @LX<|anI @Kx<|anI @Jz<|anI @Gz<|anI @Gu<|anI @NT<|anI @O5<|anI @V_<|anI @Ak<|anI @O3<|anI @JN<|anI @jW<|anI @Ra<|anI @PY<|anI @Gx<|anI @WJ<|anI @Wf<|anI @Wi<|anI @V8<|anI @KN<|anI @Lj<|anI @LP<|anI @Ga<|anI @Hs<|anI @Gi<|anI @D7<|anI @W6<|anI @OQ<|anI @Ob<|anI @O7<|anI @Oo<|anI @Td<|anI @N4<|anI @SN<|anI @Pb<|anI @SJ<|anI @O6<|anI @RZ<|anI @PJ<|anI @OJ<|anI @PK<|anI @RJ<|anI @Li<|anI @WK<|anI @V5<|anI @aaG<|anI @sets<|anI @rep0<|anI @reps<|anI @aa0<|anI @aa3<|anI @xE<|anI @LL<|anI @QA<|anI @Rt<|anI @W4<|anI @V2<|anI @Pf<|anI @OG<|anI @Cs<|anI @GO<|anI @NH<|anI @Kc<|anI @R9<|anI @KG<|anI @O8<|anI @Wj<|anI @Wu<|anI @KH<|anI @Kh<|anI @OY<|anI @Gw<|anI @LA<|anI @SI<|anI @Q3<|anI @NQ<|anI @Sq<|@Sl
def bools:(∀b:Bool,cond false b b=b)/\(∀(α:Type) (x y:α),cond false x y=y)/\(∀(α:Type) (x y:α),cond true x y=x):=⟨λ_=>rfl,λ_ _ _=>rfl,λ_ _ _=>rfl⟩
def mK:(∀(x:Str) (xs:ar),(x::xs).length=xs.length+1)/\([]:ar).length=0/\(∀(x:A) (xs:ae),(x::xs).length=xs.length+1)/\([]:ae).length=0:=⟨λ_ _=>rfl,rfl,λ_ _=>rfl,rfl⟩
section
variable {τ:ae}{S:jD}
def Mb {f:ae->jD->R A}{d:qc}:adp f d τ S=(d τ S).bind f:=rfl
abbrev kRz (c:Str):Unit->jD->RS:=λ_ S1=>.ex c S1
def Px {c:Str}{u:Unit}:kRz c u S=.ex c S:=rfl
def Dl {c:Str}{ps:List<|Str ⊕ Ex}:Yv c ps τ S=RS.of (UU ps τ S) (kRz c):=rfl
def JH:UU [] τ S=.ok Unit.unit S:=rfl
def KI {x:Str}{ps:List<|Str ⊕ Ex}:UU (.inl x::ps) τ S=UU ps τ S:=rfl
abbrev kFs (ps:List<|Str ⊕ Ex)(τ:ae):A->jD->R Unit:=λv S1=>match v with
 | .int i=>gd (i.natAbs.log2<64) (UU ps τ S1)
 | _=>.no
def Mi {e:Ex}{ps:List<|Str ⊕ Ex}:UU (.inr e::ps) τ S=(e τ S).bind (kFs ps τ):=rfl
abbrev RS.try (i n:Nat)(cs:ar)(d:Sm):RS->RS
 | .ex x S1=>if x∈cs then VU i (d ((List.replicate n .unb).set i<|.exn x) S1)else .no
 | r=>r
def K8 {i n:Nat}{cs:ar}{c d:Sm}:ab2 i n cs c d τ S=RS.try i n cs d (c τ S):=by
 unfold ab2 RS.try;cases c τ S<;>rfl
def N9 {i n:Nat}{cs:ar}{d:Sm}:RS.try i n cs d (.nx τ S)=.nx τ S:=rfl
def RQ {i n:Nat}{cs:ar}{d:Sm}{a:A}:RS.try i n cs d (.rt a S)=.rt a S:=rfl
def Qn {i n:Nat}{x:Str}{cs:ar}{d:Sm}:RS.try i n (x::cs) d (.ex x S)=VU i (d ((List.replicate n .unb).set i<|.exn x) S):=aK<|.head _
def SH {i:Nat}{a:A}:VU i (.rt a S)=.rt a S:=rfl
def RL {i:Nat}:VU i (.nx τ S)=.nx (τ.set i .unb) S:=rfl
abbrev aby (f:Str->bj):A->jD->R A:=λv S1=>match v with
 | .exn x=>opt (f x) λb=>.ok (.bl b) S1
 | _=>.no
def Mk {f:Str->bj}{c:Ex}:acF f c τ S=(c τ S).bind (aby f):=rfl
def NP {x:Str}{b:Bool}{tb:List<|Str×Bool}:aby (tbX ((x,b)::tb)) (.exn x) S=.ok (.bl b) S:=by
 show opt (List.lookup x ((x,b)::tb)) _=_;rw[eO,bW];rfl
abbrev R.ON {α β:Type}(r:R α)(f:α->jD->R β):R β:=match r with
 | .ok a S=>f a S
 | _=>.no
def GS {α β:Type}{a:α}{f:α->jD->R β}:R.ON (.ok a S) f=f a S:=rfl
def Ml {f:ae->jD->R A}{d:qc}:aaj f d τ S=R.ON (d τ S) f:=by unfold aaj R.ON;cases d τ S<;>rfl
abbrev RS.ofK {α:Type}(r:R α)(f:α->jD->RS):RS:=match r with
 | .ok a S=>f a S
 | _=>.no
def RH {α:Type}{a:α}{f:α->jD->RS}:RS.ofK (.ok a S) f=f a S:=rfl
def KO {t:Te}{c d:Sm}:aa5 t c d τ S=RS.ofK (t τ S) (kIf c d τ):=by
 unfold aa5 RS.ofK
 cases t τ S with
 | ok b S1=>cases b<;>rfl
 | ex _ _=>rfl
 | no=>rfl
abbrev RS.Q8 (i:Nat)(cs:ar)(d:Sm)(τ:ae):RS->RS
 | .ex x S1=>if x∈cs then VU i (d (τ.set i<|.exn x) S1)else .no
 | r=>r
def Ge {i:Nat}{cs:ar}{c d:Sm}:Wk i cs c d τ S=RS.Q8 i cs d τ (c τ S):=by
 unfold Wk RS.Q8;cases c τ S<;>rfl
def J8 {i:Nat}{cs:ar}{d:Sm}{J:ae}:RS.Q8 i cs d τ (.nx J S)=.nx J S:=rfl
def LU {i:Nat}{cs:ar}{d:Sm}{a:A}:RS.Q8 i cs d τ (.rt a S)=.rt a S:=rfl
def LV {i:Nat}{x:Str}{cs:ar}{d:Sm}:RS.Q8 i (x::cs) d τ (.ex x S)=VU i (d (τ.set i<|.exn x) S):=aK<|.head _
def Hv:A.Tr []=some []:=rfl
def yl {b:Bool}{xs:ae}:A.Tr (.bl b::xs)=(A.Tr xs).map (b::·):=rfl
end
def qe:type_of% (anI @Mb<|anI @Dl<|anI @Px<|anI @JH<|anI @KI<|anI @Mi<|anI @K8<|anI @N9<|anI @RQ<|anI @Qn<|anI @SH<|anI @RL<|anI @Mk<|anI @NP<|anI @Hv<|anI @yl<|anI @GS<|anI @Ml<|anI @RH<|anI @KO<|anI @Ge<|anI @J8<|anI @LU<|anI @LV<|trivial):=anI @Mb<|anI @Dl<|anI @Px<|anI @JH<|anI @KI<|anI @Mi<|anI @K8<|anI @N9<|anI @RQ<|anI @Qn<|anI @SH<|anI @RL<|anI @Mk<|anI @NP<|anI @Hv<|anI @yl<|anI @GS<|anI @Ml<|anI @RH<|anI @KO<|anI @Ge<|anI @J8<|anI @LU<|anI @LV<|trivial
end Am
namespace Am
open PySem PySem.Spec PyProof.Rows L2
abbrev Df (K:au)(x:Str)(st:aE):Prop:=∃(f:ak) (fd:FuncData),PySem.W.nsIn K mainGlobals x=some (some<|.ref f)/\Fun K x x st f fd
inductive En (P:aj) (w:ah) (K:au) (mg:Str->bi) (base:aq):Prop
 | mk (h:aq) (X:K.In h) (G:h.Ns mainGlobals mg)
section
variable {P:aj}{w:ah}{K:au}{mg:Str->bi}{base:aq}{x:Str}{st:aE}{ps:ar}{k:Nat}{F:ae->jD->R A}
def En.at(E:En P w K mg base){f:ak}(h:PySem.W.nsIn K mainGlobals x=some (some<|.ref f)):mg x=some (.ref f):=by
 obtain⟨_,X,G⟩:=E;exact jb X G h
def Df.of{f:ak}{kV J ct:af}(a:PySem.W.nsIn K mainGlobals x=some (some<|.ref f))(l:K.lookup f=some ⟨oc,od,.func<|PySem.W.fnOf x x (vd st) (q_ st) (jQ st) .none kV doc J an cdv ct,osl⟩)(c:PySem.W.codeIn K cdv x=true)(k:PySem.W.keepIn K (.ref f)=true):Df K x st:=⟨f,_,a,XG l c k⟩
meta abbrev Bi (x:Str)(st:aE)(ps:ar):Prop:=∀us:ba,us.length=ps.length->∀(kV d e:af) (f:Option ak) (c ct:af),bindArgs (PySem.W.fnOf x x (vd st) (q_ st) (jQ st) .none kV d e f c ct) ⟨us,[]⟩=pure (ps.zip us)
def Df.get(d:Df K x st)(E:En P w K mg base)(b:Bi x st ps):∃f fd,Fun K x x st f fd/\mg x=some (.ref f)/\PySem.W.keepIn K (.ref f)=true/\Binds K fd ps []:=by
 obtain⟨f,fd,a,F⟩:=d;exact⟨f,fd,F,E.at a,F.kp,F.binds λkV c j k e ct us g=>b us g kV c j k e ct⟩
def Df.kA(d:Df K x st)(E:En P w K mg base)(h:∀{f fd},Fun K x x st f fd->FnOk P w K mg base qg k f fd ps (qO K ps.length F))(b:Bi x st ps):oh P w K mg base k x ps F:=by
 obtain⟨f,fd,a,c,e,g⟩:=d.get E b;exact⟨f,fd,h a,c,e,g⟩
def Df.rA(d:Df K x st)(E:En P w K mg base)(h:∀{f fd},Fun K x x st f fd->mg x=some (.ref f)->PySem.W.keepIn K (.ref f)=true->Binds K fd ps []->FnOk P w K mg base qg k f fd ps (qO K ps.length F))(b:Bi x st ps):oh P w K mg base k x ps F:=by
 obtain⟨f,fd,a,c,e,g⟩:=d.get E b;exact⟨f,fd,h a c e g,c,e,g⟩
end
section
variable {X:Cx}{pos p:Pos}{e1 e2 e3:aC}{x p1 p2 p3:Str}{k K0:Nat}{F:ae->jD->R A}{c1 c2 c3:Ex}
def E9(G:oh X.prog X.w X.K X.mg X.base k x [p1] F)(hr:Room K0 X.A)(h1:AE X e1 c1)(hk:k<=K0<|>δ)(hg:Gl X x<|>η)(J:(x == ("__debug__" : Str))=false<|>δ)(U:starEach [e1] X.env=(false,eval e1 X.env)::starEach [] X.env<|>η)(hp:((backTo pos<|starEach [] X.env).any (·.1)=false)<|>η):AE X (.Call (.Name x p) [e1] [] pos) (eFn F<|jA c1 jL):=m5 G (hr.mono hk) (jC h1 jH U) (jP kH) hg J U hp
def BL(G:oh X.prog X.w X.K X.mg X.base k x [p1,p2] F)(hr:Room K0 X.A)(h1:AE X e1 c1)(h2:AE X e2 c2)(hk:k<=K0<|>δ)(hg:Gl X x<|>η)(J:(x == ("__debug__" : Str))=false<|>δ)(U:starEach [e1,e2] X.env=(false,eval e1 X.env)::starEach [e2] X.env<|>η)(s2:starEach [e2] X.env=(false,eval e2 X.env)::starEach [] X.env<|>η)(hp:((backTo pos<|starEach [e2] X.env).any (·.1)=false)<|>η):AE X (.Call (.Name x p) [e1,e2] [] pos) (eFn F<|jA c1<|jA c2 jL):=m5 G (hr.mono hk) (jC h1 (jC h2 jH s2) U) (jP<|jP kH) hg J U hp
def fn3(G:oh X.prog X.w X.K X.mg X.base k x [p1,p2,p3] F)(hr:Room K0 X.A)(h1:AE X e1 c1)(h2:AE X e2 c2)(h3:AE X e3 c3)(hk:k<=K0<|>δ)(hg:Gl X x<|>η)(J:(x == ("__debug__" : Str))=false<|>δ)(U:starEach [e1,e2,e3] X.env=(false,eval e1 X.env)::starEach [e2,e3] X.env<|>η)(s2:starEach [e2,e3] X.env=(false,eval e2 X.env)::starEach [e3] X.env<|>η)(s3:starEach [e3] X.env=(false,eval e3 X.env)::starEach [] X.env<|>η)(hp:((backTo pos<|starEach [e2,e3] X.env).any (·.1)=false)<|>η):AE X (.Call (.Name x p) [e1,e2,e3] [] pos) (eFn F<|jA c1<|jA c2<|jA c3 jL):=m5 G (hr.mono hk) (jC h1 (jC h2 (jC h3 jH s3) s2) U) (jP<|jP<|jP kH) hg J U hp
def t_{N P:ar}{J:Scope}(a:J.kind=.function)(b:J.isCoroutine=false)(c:J.isGenerator=false)(h:N.Nodup/\N.take P.length=P/\(∀x∈P,J.names.lookup x=some .local\/J.names.lookup x=some .cell)/\∀y∈J.names,y.2≠.free):FnScope N P J:=⟨a,b,c,h.1,h.2.1,h.2.2.1,h.2.2.2⟩
end
abbrev kj (S:jD)(n:Nat):Option (List<|Int×A):=match S[n]? with
 | some (.nG xs)=>some xs
 | _=>none
def lY{n:Nat}(h:kj S n=some xs):S[n]?=some (.nG xs):=by
 unfold kj at h;split at h
 ·rename_i e;cases h;exact e
 ·cases h
def qX{S:jD}{n:Nat}(h:S[n]?=some (.nG xs)):kj S n=some xs:=by
 unfold kj;rw[h]
abbrev k_ (kvs:List<|Int×A)(k:Int):Option A:=(kvs.find? λkv=>decide<|kv.1=k).map (·.2)
abbrev rV (kvs:List<|Int×A)(k:Int)(v:A):List (Int×A):=
 if (k_ kvs k).isSome=true then kvs.map (λkv=>if kv.1=k then(kv.1,v)else kv)else kvs++[(k,v)]
section
variable {K:au}{ρ:bb}{H:Hp}
def M8{p:Int×A}{r:List<|Int×A}{k:Int}(e:p.1=k):k_ (p::r) k=some p.2:=by simp[k_,cg,e]
def MR{p:Int×A}{r:List<|Int×A}{k:Int}(e:¬p.1=k):k_ (p::r) k=k_ r k:=by simp[k_,cg,e]
def ab5{a b:Int}(e:(Sum.inl a:Key)=Sum.inl b):a=b:=by injection e
theorem DI.look:∀{kvs:List<|Int×A}{ks:List<|Key×V}(k:Int),DI K ρ H kvs ks->(k_ kvs k).isSome=(o5 ks (Sum.inl k:Key)).isSome/\∀x,k_ kvs k=some x->∃v,o5 ks (Sum.inl k:Key)=some v/\AV K ρ H x v
 | [],[],k,_=>⟨rfl,λx h=>nomatch h⟩
 | p::r,q::r',k,⟨⟨e,a⟩,t⟩=>by
  by_cases c:p.1=k
  ·have d:q.1=(Sum.inl k:Key):=by rw[e,c]
   rw[M8 c,uT d];exact⟨rfl,λx h=>by cases h;exact⟨_,rfl,a⟩⟩
  ·have d:¬q.1=(Sum.inl k:Key):=λz=>c<|ab5<|e.symm.trans z;rw[MR c,uP d];exact DI.look k t
theorem DI.repl{x:A}{v:V}(h:AV K ρ H x v)(k:Int):∀{kvs:List<|Int×A}{ks:List<|Key×V},DI K ρ H kvs ks->DI K ρ H (kvs.map λkv=>if kv.1=k then(kv.1,x)else kv) (ks.map λkv=>if kv.1=(Sum.inl k:Key)then(kv.1,v)else kv)
 | [],[],_=>trivial
 | p::r,q::r',⟨⟨e,a⟩,t⟩=>by
  refine⟨?_,DI.repl h k t⟩;dsimp only;by_cases c:p.1=k
  ·rw[aK c,aK<|by rw[e,c]];exact⟨e,h⟩
  ·rw[aI c,aI λz=>c<|ab5<|e.symm.trans z];exact⟨e,a⟩
theorem DI.snoc{x:A}{v:V}(h:AV K ρ H x v)(k:Int):∀{kvs:List<|Int×A}{ks:List<|Key×V},DI K ρ H kvs ks->DI K ρ H (kvs++[(k,x)]) (ks++[(Sum.inl k,v)])
 | [],[],_=>⟨⟨rfl,h⟩,trivial⟩
 | p::r,q::r',⟨a,t⟩=>⟨a,DI.snoc h k t⟩
def DI.put{x:A}{v:V}(h:AV K ρ H x v)(k:Int){ks:List<|Key×V}(d:DI K ρ H kvs ks):DI K ρ H (rV kvs k x) (putK ks (Sum.inl k:Key) v):=by
 unfold rV putK;rw[xQ,<- (d.look k).1];by_cases c:(k_ kvs k).isSome=true
 ·rw[aK c,aK c];exact DI.repl h k d
 ·rw[aI c,aI c];exact DI.snoc h k d
def DI.length:∀{kvs:List<|Int×A}{ks:List<|Key×V},DI K ρ H kvs ks->kvs.length=ks.length
 | [],[],_=>rfl
 | _::_,_::_,⟨_,t⟩=>dB (·+1) t.length
theorem DI.keys:∀{kvs:List<|Int×A}{ks:List<|Key×V},DI K ρ H kvs ks->ks.map (·.1)=kvs.map λkv=>(Sum.inl kv.1:Key)
 | [],[],_=>rfl
 | _::_,_::_,⟨⟨e,_⟩,t⟩=>by rw[bE,bE,e,DI.keys t]
def Rel.nG{n:Nat}{a:ak}(R:Rel K ρ H S)(J:ρ[n]?=some a)(hS:S[n]?=some (.nG xs)):∃vs,H a=some (.dK vs)/\DI K ρ H xs vs:=R.at n a _ J hS
def Rel.abt{S:jD}{p:ak}(R:Rel K ρ H S)(J:H p=none)(r:DI K ρ H xs vs):Ext ρ (ρ++[p]) H (upd H p<|.dK vs)/\Rel K (ρ++[p]) (upd H p<|.dK vs) (S++[.nG xs])/\(ρ++[p])[S.length]?=some p:=by
 have ex:Ext ρ (ρ++[p]) H (upd H p<|.dK vs):=⟨⟨eW _ _,λa u _ h=>by rw[jN<|jV h J];exact h⟩,λa u h _=>by rw[jN<|jV h J];exact h,λa h=>by
  rcases bz.mp h with z|z
  ·exact .inl z
  ·have e:a=p:=by simpa using z
   rw[e];exact .inr J⟩
 have g:p∉ρ:=R.Gy J;have c:(ρ++[p])[S.length]?=some p:=by rw[<- R.len];simp
 refine⟨ex,⟨by simp[R.len],?_,?_⟩,c⟩
 ·rw[dw];refine⟨R.nd,by simp,λa k b j e=>?_⟩;have:b=p:=by simpa using j
  exact g<|by rw[<- this,<- e];exact k
 ·intro n a o h1 h2;by_cases hn:n<S.length
  ·rw[bB<|by rw[R.len];exact hn]at h1;rw[bB hn]at h2;have na:a≠p:=λz=>g (by rw[<- z];exact aW h1);have:=R.at n a o h1 h2
   cases o with
   | lst ys=>obtain⟨d,e,q⟩:=this;exact⟨d,by rw[jN na];exact e,q.ext ex⟩
   | dct _|nG _|dks _|dcp _=>obtain⟨d,e,q⟩:=this;exact⟨d,by rw[jN na];exact e,q.ext ex⟩
   | dcf _|dkf _=>obtain⟨f,d,e,q⟩:=this;exact⟨f,d,by rw[jN na];exact e,q.ext ex⟩
   | ins _ _=>obtain⟨f,m,e⟩:=this;exact⟨f,m,by rw[jN na];exact e⟩
  ·have e:n=S.length:=by
    have:=(aG.mp h2).1;simp at this
    lia
   subst e;rw[c]at h1
   cases h1
   simp at h2;subst h2;exact⟨vs,kg,r.ext ex⟩
def Rel.rV{S:jD}{n:Nat}{a:ak}(R:Rel K ρ H S)(J:ρ[n]?=some a)(hS:S[n]?=some (.nG xs))(r:DI K ρ H ys ws):Ext ρ ρ H (upd H a<|.dK ws)/\Rel K ρ (upd H a<|.dK ws) (S.set n<|.nG ys):=by
 obtain⟨t,e,_⟩:=R.at n a _ J hS;have ex:Ext ρ ρ H (upd H a<|.dK ws):=⟨⟨eT _,λb u i h=>by
  have:b≠a:=by
   intro z;subst z;rw[e]at h;cases h;exact i
  rw[jN this];exact h⟩,λb u h n=>by
  rw[jN λz=>n<|by rw[z];exact aW J];exact h,λ_ h=>.inl h⟩
 refine⟨ex,by rw[cu];exact R.len,R.nd,λm b o h1 h2=>?_⟩;by_cases g:m=n
 ·subst g;rw[J]at h1;cases h1;rw[bM (aG.mp hS).1]at h2
  cases h2
  exact⟨ws,kg,r.ext ex⟩
 ·rw[bL<|cV g]at h2;have nb:b≠a:=λz=>by
   subst z;obtain⟨p,e1⟩:=aG.mp J;obtain⟨k,e2⟩:=aG.mp h1;exact g<|(cK R.nd).mp<|e2.trans e1.symm
  have:=R.at m b o h1 h2
  cases o with
  | lst ys=>obtain⟨c,d,q⟩:=this;exact⟨c,by rw[jN nb];exact d,q.ext ex⟩
  | dct _|nG _|dks _|dcp _=>obtain⟨c,d,q⟩:=this;exact⟨c,by rw[jN nb];exact d,q.ext ex⟩
  | dcf _|dkf _=>obtain⟨f,c,d,q⟩:=this;exact⟨f,c,by rw[jN nb];exact d,q.ext ex⟩
  | ins _ _=>obtain⟨f,j,d⟩:=this;exact⟨f,j,by rw[jN nb];exact d⟩
end
section
variable {X:Cx}{pos:Pos}{a b:aC}
abbrev An (x y:A)(S:jD):R A:=match x,y with
 | .ref n,.int k=>opt (kj S n) λkvs=>opt (k_ kvs k) λv=>.ok v S
 | _,_=>.no
def Ms{x:A}{P:A->jD->Prop}{E:Str->jD->Prop}(h:(An x y S).post P E):∃n k kvs v,x=.ref n/\y=.int k/\kj S n=some kvs/\k_ kvs k=some v/\P v S:=by
 unfold An at h;split at h
 ·obtain⟨kvs,h1,h⟩:=jG h;obtain⟨v,h2,h⟩:=jG h;exact⟨_,_,kvs,v,rfl,rfl,h1,h2,h⟩
 ·exact h.elim
def abE(J:X.A.units+64<cLine):Ti X (r2 X An):=λf c pins s σ H x y v u Q I rx ry ⟨ρ,S,a,b,R,va,vb,h⟩ hs=>by
 obtain⟨n,k,kvs,z,t,j,hn,B,hP⟩:=Ms h;subst t j
 cases vb
 cases va with
 | @ref p _ m=>
  obtain⟨ks,e,d⟩:=R.nG m<|lY hn;obtain⟨w,hw,q⟩:=(d.look k).2 z B;have g:tO H p (kV<|Sum.inl k) (o5 ks<|Sum.inl k):=tO.k e;rw[hw]at g;exact zj () f c pins s σ H _ _ v u Q I rx ry ⟨p,w,rfl,g,hP _ _ _ .refl R q⟩ hs
def P4(J:X.A.units+64<cLine){ca cb:Ex}(U:AE X a ca)(hb:AE X b cb)(hs:vA b<|>μ):AE X (.Subscript a b pos) (jO An ca cb):=PE.imp (GI (abE J) U hb hs) λσ H Q h=>qQ h
abbrev De (o i v:A)(S:jD):R Unit:=match o,i with
 | .ref n,.int k=>opt (kj S n) λkvs=>gd (kvs.length<sizeLine) (.ok Unit.unit<|S.set n<|.nG<|rV kvs k v)
 | _,_=>.no
def IS{x v:A}{S:jD}{P:Unit->jD->Prop}{E:Str->jD->Prop}(h:(De x y v S).post P E):∃n k kvs,x=.ref n/\y=.int k/\kj S n=some kvs/\kvs.length<sizeLine/\P Unit.unit (S.set n<|.nG<|rV kvs k v):=by
 unfold De at h;split at h
 ·obtain⟨kvs,h1,h⟩:=jG h;obtain⟨h2,h⟩:=j6 h;exact⟨_,_,kvs,rfl,rfl,h1,h2,h⟩
 ·exact h.elim
abbrev acC (X:Cx):M9:=λo i v H Q=>∃ρ S c d e,Rel X.K ρ H S/\AV X.K ρ H c o/\AV X.K ρ H d i/\AV X.K ρ H e v/\(De c d e S).post (λ_ f=>∀ρ' H',Ext ρ ρ' H H'->Rel X.K ρ' H' f->Q H') (XE X ρ H)
def VC(J:X.A.units+64<cLine):Mx X (acC X):=λpins s σ H o i v g iv u Q I j C B h9=>by
 obtain⟨ρ,S,G,D,F,R,h1,h2,h3,h⟩:=h9;obtain⟨n,k,kvs,t,f,hn,q,hP⟩:=IS h;subst t f
 cases h2
 cases h1 with
 | @ref p _ c=>
  obtain⟨ks,e,d⟩:=R.nG c<|lY hn;obtain⟨ex,m⟩:=R.rV c (lY hn)<|d.put h3 k;exact set_dict (by omega) pins s σ H _ _ v g iv u Q I j C B ⟨p,_,rfl,G1.k (k:=Sum.inl k) e<|by rw[<- d.length];exact q,hP _ _ ex m⟩
abbrev Fv (co J:Ex):Tg:=λa τ S=>(co τ S).bind λo S1=>(J τ S1).bind λi S2=>(De o i a S2).bind λ_ S3=>.ok τ S3
def zN(U:X.A.units+64<cLine){co J:Ex}(ho:AE X o co)(hi:AE X i J)
  (ha:(∀v,assign (.Subscript o i pos) X.env v=(do
   let ov <- holding [v] (eval o X.env)
   let iv <- holding [v,ov] (eval i X.env)
   standAt pos
   holding [v,ov,iv] (setItem ov iv v)
   release [v,ov,iv] []))<|>θ):AG X (.Subscript o i pos) (Fv co J):=PG.imp (Jf ho hi (VC U) ha) λv σ H Q h9=>by
 obtain⟨ρ,S,τ,a,R,r,va,h⟩:=h9;gp_on;kpf_c;exact h3 ρ3 H3 σ ((e1.trans e2).trans e3) R3<|r.ext<|(e1.trans e2).trans e3
abbrev x_:Ex:=λ_ S=>.ok (.ref S.length)<|S++[.nG []]
def w9:AE X (.Dict [] [] pos) x_:=PE.imp RY λσ H Q ⟨ρ,S,τ,R,r,h⟩ p d=>by
 obtain⟨ex,e,c⟩:=R.abt (xs:=[]) (vs:=[]) d trivial;exact h _ _ _ ex e<|.ref c
abbrev dk? (a:A)(S:jD):Option Unit:=match a with
 | .ref n=>(kj S n).map λ_=>Unit.unit
 | _=>none
abbrev Hw (f:A->ae->jD->R A)(co:Ex)(d:qc):Ex:=λτ S=>(co τ S).bind λx S1=>opt (dk? x S1) λ_=>(d τ S1).bind λas S2=>f x as S2
def dk?_ty{K:au}{H:Hp}{x:A}{v:V}(R:Rel K ρ H S)(a:AV K ρ H x v)(e:dk? x S=some u):Z5 K "dict" v H:=by
 cases a with
 | @ref p n h=>
  obtain⟨xs,d,_⟩:=aX.mp e;obtain⟨c,h1,_⟩:=R.nG h<|lY d;exact .inr<|.inr<|.inl ⟨rfl,.inl ⟨c,h1⟩⟩
 | _=>cases e
def DU{e:aC}{id:String}{apos cpos:Pos}{f:A->ae->jD->R A}{co:Ex}{d:qc}(slot:Slot "dict" name id)(hty:typeOf (.builtin id)=pure (.type "method_descriptor"))(hm:G_ X id<|rM X f)(ho:AE X o co)(ha:AL X (e::es) d)
  (U:attributeBase o name X.env (eval o X.env)=eval o X.env<|>η)
  (hfew:(((backTo cpos<|starEach (e::es) X.env).all (λx=>!x.1) && (backToKw cpos<|keywordEach [] X.env).all (λx=>x.1.isSome)
   && decide ((e::es).length+([]:List Keyword).length+(if ([]:List Keyword).isEmpty then 0 else 1)<30))=true)<|>η)
  (hline:(apos.endLine == cpos.line)=true<|>η) (hs:starEach (e::es) X.env=(false,eval e X.env)::starEach es X.env<|>η) (J:((backTo cpos<|starEach es X.env).any (·.1)=false)<|>η) :
  AE X (.Call (.Attribute o name apos) (e::es) [] cpos) (Hw f co d):=PE.imp (QK gW slot hty hm ho ha U hfew hline hs J) λσ H Q h9=>by
 room;kd_p;obtain⟨xs,c,h1⟩:=jG h1;refine⟨dk?_ty R1 v1 c,ρ1,S1,τ,R1,r.ext e1,jF (jJ h1) e1 λas S2 h2 ρ2 H2 g e2 R2 v2=>?_⟩;kcf_m
abbrev vO (o:A)(as:ae)(S:jD):R A:=match o,as with
 | .ref n,[.int k,y]=>opt (kj S n) λkvs=>.ok ((k_ kvs k).getD y) S
 | _,_=>.no
def HU{x:A}{P:A->jD->Prop}{E:Str->jD->Prop}(h:(vO x as S).post P E):∃n k y kvs,x=.ref n/\as=[.int k,y]/\kj S n=some kvs/\P ((k_ kvs k).getD y) S:=by
 unfold vO at h;split at h
 ·obtain⟨kvs,h1,h⟩:=jG h;exact⟨_,_,_,kvs,rfl,rfl,h1,h⟩
 ·exact h.elim
def D9(U:X.A.units+64<cLine):G_ X "dict.get" (rM X vO):=λpins s σ H x M v us Q I rx q h9=>by
 mg_lt;obtain⟨n,k,y,kvs,m,has,hn,hP⟩:=HU h;subst m has;obtain⟨G,J,rfl,D,B⟩:=Qk va
 cases D
 cases vo with
 | @ref p _ g=>
  obtain⟨ks,h1,e⟩:=R.nG g (lY hn)
  cases rx
  obtain⟨K,L,rfl,r1,r2⟩:=vals2 q;refine Ii (by omega) I (tO.k (k:=Sum.inl k) h1) r1 r2 λF s' j d=>⟨_,H,j,d,hP _ _ _ .refl R ?_⟩;obtain⟨c,f⟩:=e.look k
  cases e1:k_ kvs k with
  | none=>
   rw[e1]at c
   cases e2:o5 ks (Sum.inl k:Key)with
   | none=>exact B
   | some _=>rw[e2]at c;cases c
  | some t=>
   obtain⟨v1,e2,C⟩:=f t e1;rw[e2];exact C
end
end Am
namespace L2
open PySem PySem.Spec PyProof.Rows
section
variable {P:aj}{w:ah}{A:az}{E:af->aA->Prop}{s:aA}{it d:ak}{i ep:Nat}{es:Array DictEntry}{o:Obj}
def Q_{Q:bi->aA->Prop}(hi:s.heap.IsKeyIter it d i es.size ep)(J:s.heap.get? d=some o)(U:o.data=.dict es ep)(lt:i<es.size)
  (q:∀h',h'.IsKeyIter it d (i+1) es.size ep->Heap.SameBut it s.heap h'->Q (some es[i].key) { s with heap:=h' }):wpAny (model P w) A (pyNext<|.ref it) Q E s:=by
 have ty:=hi.typeIs;obtain⟨p,e,g,c⟩:=id hi;have own:Builtin.Dict_items.ownsTuple "dict_keyiterator" = false:=by decide
 have k:¬((Value.ref d == Value.none)=true):=bI;have m:¬((i:Int)<0):=by omega
 unfold pyNext;refine aP<|wpAny_attempt<|wpAny_callSpecial?_slot (name:=Str.ofString "__next__") ty cW<|gp cW ty gE ?_<|gv _;refine aP (bf<|aP<|aP ?_)
 first
  | refine aP (eB ty<|bf<|aP<|iV e c ?_)
  | refine aP<|fJ ty<|bf<|aP<|iV e c ?_
 dsimp[own,cJ,bC];show wpAny (model P w) _ (if (Value.ref d == Value.none)=true then _ else _) _ _ s;rw[aI k];refine aP<|bf<|aP<|i7 J U ?_;rw[aI<|show ¬_ by simp];refine aP<|bf<|aP<|wpAny_dictEpoch J U ?_;rw[aI<|show ¬_ by simp];refine bf ?_;dsimp[m,cJ,ir,dW lt];refine aP ?_
 first
  | refine aP (eB ty<|bf<|aP<|iA ty ?_)
  | refine aP<|fJ ty<|bf<|aP<|iA ty ?_
 show wpAny (model P w) _ (setField (.ref it) 1 (rawInt<|(i:Int)+1) >>= _) _ _ s;refine aP (wpAny_setField e c (show _ by simp) ?_);have f:(s.heap.update it<|Obj.mapFields λfs=>fs.setIfInBounds 1<|rawInt<|(i:Int)+1).IsKeyIter it d (i+1) es.size ep:=
  ⟨_,Heap.get?_update_self _ e<|Obj.isFreed_of_fields<|Obj.data_mapFields c _,(Obj.cls_mapFields ..).trans g,by
   rw[Obj.data_mapFields c];simp[rawInt]⟩
 have j:Shared.TypeIs { s with heap:=s.heap.update it<|Obj.mapFields λfs=>fs.setIfInBounds 1<|rawInt<|(i:Int)+1} (.ref it) "dict_keyiterator" := Heap.IsKeyIter.typeIs (s:={ s with heap:=_ }) f;refine aP (eL<|aP<|iA j ?_)
 skip
 exact bf<|bf ⟨_,rfl,bf<|q _ f<|Heap.SameBut.update ..⟩
def KR{Q:bi->aA->Prop}(hh:A.handled=none)(hi:s.heap.IsKeyIter it d i es.size ep)(J:s.heap.get? d=some o)(U:o.data=.dict es ep)(ge:es.size<=i)
  (q:∀h',Heap.ExtBut it s.heap h'->Q none { s with heap:=h' }):wpAny (model P w) A (pyNext<|.ref it) Q E s:=by
 have ty:=hi.typeIs;obtain⟨k,e,g,c⟩:=id hi;have own:Builtin.Dict_items.ownsTuple "dict_keyiterator" = false:=by decide
 have f:¬((Value.ref d == Value.none)=true):=bI;have j:¬((i:Int)<0):=by omega
 unfold pyNext;refine aP<|wpAny_attempt<|wpAny_callSpecial?_slot (name:=Str.ofString "__next__") ty cW<|gp cW ty gE ?_<|gv _;refine aP (bf<|aP<|aP ?_)
 first
  | refine aP (eB ty<|bf<|aP<|iV e c ?_)
  | refine aP<|fJ ty<|bf<|aP<|iV e c ?_
 dsimp[own,cJ,bC];show wpAny (model P w) _ (if (Value.ref d == Value.none)=true then _ else _) _ _ s;rw[aI f];refine aP<|bf<|aP<|i7 J U ?_;rw[aI<|show ¬_ by simp];refine aP<|bf<|aP<|wpAny_dictEpoch J U ?_;rw[aI<|show ¬_ by simp];refine bf ?_;dsimp[j,cJ,ir,fW ge];refine aP ?_
 first
  | refine aP (eB ty<|bf ?_)
  | refine aP<|fJ ty<|bf ?_
 show wpAny (model P w) _ (setField (.ref it) 0 .none >>= _) _ _ s;refine aP (wpAny_setField e c (show _ by simp) ?_)
 skip
 refine aP ?_;dsimp[newExc,newTuple];refine aP (fB (aP (m:=firstArgMember _ _)<|wpAny_of_eq (a:=Value.none) (by first|rfl|(dsimp[firstArgMember];rfl))<|fB ?_<|by size_fits)<|by size_fits);dsimp[raiseNew];have hn:A.in1.handled=none:=hh;refine aP<|wpAny_handled<|?_;rw[hn];refine aP<|bf<|wpAny_throw<|?_;refine aP<|wpAny_isInstance (b:=true) (T := "StopIteration") ⟨_,bH _ rfl,rfl⟩ isSubtype_stop<|bf<|q _<|((Heap.SameBut.update ..).extBut.push _).push _
def BD{Q:af->aA->Prop}(ty:s.TypeIs (.ref d) "dict")(hs:(d == sysModules)=false)(J:s.heap.get? d=some o)(U:o.data=.dict es ep)
  (q:Q (.ref s.heap.objs.size) { s with heap:=s.heap.push { cls:=.type "dict_keyiterator",data:=.fields #[.ref d,.int 0 0,.int es.size 0,.int ep 0]}}):wpAny (model P w) A (pyIter<|.ref d) Q E s:=by
 refine wpAny_pyIter_slot ty PySem.F.slot_dict_iter<|gp PySem.F.slot_dict_iter ty PySem.F.entry_dict_iter ?_<|PySem.F.args_dict_iter_1 _;delta Builtin.«dict.__iter__»;refine aP ?_;delta Builtin.Dict.dictSlotNone;refine aP (wpAny_notOrdered_dict ty ?_)
 skip
 refine bf ?_;show wpAny (model P w) _ (Builtin.Dict.showsAll d >>= _) _ _ s;delta Builtin.Dict.showsAll;have nd:¬((d == sysModules)=true):=by rw[hs];exact bI
 rw[aI nd];refine aP<|bf<|aP<|i7 J U<|aP<|wpAny_dictEpoch J U ?_;refine aP<|fB<|bf ⟨_,rfl, "dict_keyiterator",_,⟨_,bH _ rfl,rfl⟩,cW.lookup,?_⟩;simpa[rawInt]using q
end
section
variable {P:aj}{w:ah}
def Nk{A:az}(U:A.handled=none)(it d:ak)(ne:d≠it){es:Array DictEntry}{o:Obj}(J:o.data=.dict es ep) :
  Walks P w A it [it,d] [it] es.size (λi v=>(es[i]?).map (λe=>e.key)=some v) (λi h=>h.IsKeyIter it d i es.size ep/\h.get? d=some o) where
 sub:=λb g=>by
  rw[aQ.mp g];exact aL ..
 frame:=λ_ _ _ st c=>⟨st.1.at λx e=>c it (aL ..) x e,c d (aN _<|aL ..) o st.2⟩
 item:=λi s Q E lt st q=>Q_ st.1 st.2 J lt λh' j f=>q _ h' s.toks (by rw[dW lt];rfl) ⟨j,f.extBut d o ne st.2⟩ λb x nb e=>f.extBut b x (λz=>nb<|aQ.mpr z) e
 done:=λs Q E st q=>KR U st.1 st.2 J (aR _) λh' k=>q h' s.toks λb x nb e=>k b x (λz=>nb<|aQ.mpr z) e
 self:=λ_ _ _ _ st q=>wpAny_pyIter_keyiter st.1 q
def Kv{d:ak}{es:Array DictEntry}{o:Obj}(hs:(d == sysModules)=false)(hc:o.cls=.type "dict")(J:o.data=.dict es ep) :
  PySem.W.KdlSrc P w "dict" d d es.size (λi v=>(es[i]?).map (λe=>e.key)=some v) (λh=>h.get? d=some o) where
 type:=λ_ c=>⟨o,c,hc⟩
 there:=λ_ c=>⟨bu c,bu c⟩
 keep:=λ_ _ c j=>j d (.inl rfl) o c
 notList:=by decide
 notTuple:=by decide
 hint:=λ_ _ _ _ c f=>PySem.W.kdl_hint_dict ⟨o,c,hc⟩ f
 iter:=λ_ s g c=>⟨_,_,(λ_ _ f=>BD ⟨o,c,hc⟩ hs c J f),Nk g _ d (bF<|bu c) J,⟨⟨_,bH _ rfl,rfl,rfl⟩,aZ _ c⟩⟩
end
section
variable {X:Cx}
def Y9{H:Hp}{s:aA}{d:ak}{kvs:List<|List Key×V}(I:Inv X pins σ H s)(J:H d=some (.dT kvs)) :
  ∃(ob:Obj) (es:Array DictEntry) (ep:Nat) (rs:bb),s.heap.get? d=some ob/\ob.cls=.type "dict" /\ ob.data=.dict es ep/\(d == sysModules)=false/\kvs.length<=sizeLine/\rs.length=kvs.length/\es.size=kvs.length /\
   (∀i:Nat,(es[i]?).map (λe:DictEntry=>e.key)=(rs[i]?).map Value.ref)/\∀(i:Nat) r p,rs[i]?=some r->kvs[i]?=some p->H r=some (.tup<|p.1.map kV):=by
 obtain⟨z,B,xs,f,C⟩:=Sd I.hok J;obtain⟨ob,es,ep,t,k,q,g,F,D⟩:=id C;obtain⟨j,m⟩:=kt_at f;have c:es.size=xs.length:=by have:=dB List.length g;simpa using this
 refine⟨ob,es,ep,xs.map λy=>y.2.1,t,k.1,q,B,z,by rw[aH,j],by rw[c,j],λi=>?_,λi r p e1 e2=>?_⟩
 ·rw[<- cO,g,aO,aO,eY,eY]
  cases xs[i]?<;>rfl
 ·obtain⟨y,h1,h2,h3,G⟩:=m i p e2;rw[aO,h1]at e1
  cases e1
  exact h3
def Er(hc:X.calm=true):ko X (.builtin "sorted") (λxs H Q=>∃(d:ak) (kvs:List<|List Key×V) (kss:List<|ag),xs=[.ref d]/\H d=some (.dT kvs)/\kvs.map (λp=>p.1)=kss.map (λks=>ks.map Sum.inl)/\(∀ks∈kss,ks≠[])/\Sx.RO kss.length /\
  ∀(rs:bb) l g,rs.length=kss.length->(∀(i:Nat) (r:ak) (ks:ag),rs[i]?=some r->kss[i]?=some ks->H r=some (.tup<|ks.map V.int))->H l=none->Sx.Cl g 0 kss.length->Sx.So (Sx.MA kss) g 0 kss.length ->
   Q (.ref l) (upd H l<|.lst<|((List.range kss.length).map λi=>rs.getD (g i) 0).map V.ref)):=by
 w_up;obtain⟨d,kvs,kss,rfl,P,D,k,M,q⟩:=h;kcj_m
 cases rx
 obtain⟨Y,es,ep,rs,T,F,O,U,C,f,N,L,G⟩:=Y9 I P;have t:kvs.length=kss.length:=by have:=dB List.length D;simpa using this
 have B:∀(i:Nat) (r:ak) (ks:ag),rs[i]?=some r->kss[i]?=some ks->H r=some (.tup<|ks.map V.int):=λi r ks e1 e2=>by
  have lt:i<kvs.length:=by rw[t];exact(aG.mp e2).1
  have h1:=G i r kvs[i] e1 (aF lt);have h2:(kvs.map λp=>p.1)[i]?=(kss.map λks=>ks.map Sum.inl)[i]?:=by rw[D]
  rw[aO,aO,e2,aF lt]at h2;have h3:kvs[i].1=ks.map Sum.inl:=aY h2;rw[h3,bq]at h1;exact h1
 kln_w;unfold Builtin.«sorted»;refine aP (m:=checkCount "sorted" 1 1 _)<|bf ?_;refine aP (gz (Kv U F O) (show X.A.in1.handled=none from I.ok.hd hc) T (by rw[N];exact C) λh' W acc J c=>?_);have K:acc.toList=rs.map Value.ref:=by
  refine dc λj=>?_;rw[cO,aO,<- L j]
  cases e:acc[j]? with
  | some v=>exact(c.2 j v e).symm
  | none=>
   have:acc.size<=j:=iW.mp e;rw[fW<|by rw[<- c.1];exact this];rfl
 rw[K];exact Dh (s:=s) (I.kept (t':=W) J) M (by rw[f,t]) (by rw[f];exact C) (λi r ks e1 e2=>⟨oE.of<|B i r ks e1 e2,k ks<|aW e2⟩) λl g h1 h2 h3=>q rs l g (by rw[f,t]) B h1 h2 h3
end
section
variable {P:aj}{w:ah}{A:az}{E:af->aA->Prop}{s:aA}
def Na:typeLookup (.type "list") "keys" = pure none:=am_miss_of_fast<|by kernel_rfl
def MJ{a:ak}{o:Obj}{k:Nat}{Q:bi->aA->Prop}(U:s.heap.get? a=some o)(hc:o.cls=.type "list")(J:o.data=.seq xs k)(hd:o.dict=none)(hA:A.handled=none)
  (h:∀h' tk,(∀b ob,s.heap.get? b=some ob->h'.get? b=some ob)->Q none { s with heap:=h',toks:=tk }):wpAny (model P w) A (getAttr? (.ref a) "keys") Q E s:=by
 obtain⟨c,dct,B,p⟩:=o;simp only at hc J hd;subst hc J hd;obtain⟨q,g,d,tk,t⟩:=s;have m:∀f,(⟨q,g,d,f,t⟩:aA).TypeIs (.ref a) "list" := λ_=>⟨_,U,rfl⟩;have f1:=sub_AttributeError;have f3:=gF.lookup;have f4:=gF.bind<|.ref a;have f5:=am_list_getattr_none;unfold getAttr? getAttrBy? getAttrBy
 repeat (any_goals (first|assumption|exact m _|((with_reducible show wpAny _ _ (call (Value.builtin "list.__getattribute__") _ _) _ _ _);refine gJ gF (m _) am_entry_list_getattribute (F.args_list_getattribute_2 _ _) (meets_getattribute_miss_list a xs k p "keys" _ Na ⋯ (by size_fits)) ⟨U,hA,λh' f e j=>?_⟩)|wp_step))
 obtain⟨G,D,C⟩:=j.there
 skip
 unfold getattributeRaised
 repeat (any_goals (first|assumption|wp_step))
 exact h _ _ j.keeps
def CO:entryFor table "dict.update.loop" = some Builtin.«dict.update.loop»:=entryFor_of_tree<|by kernel_rfl
def u9:plainId "dict.update.loop" = true:=by decide +kernel
abbrev Qv (h:aq)(d I:ak)(its:ba)(ps:List<|Int×af):Prop:=∀(i:Nat) (v:af),its[i]?=some v->∃(b:ak) (p:Int×af) (t:Tok),v=.ref b/\b≠d/\b≠I/\ps[i]?=some p/\IsTup h b #[.int p.1 t,p.2]
def Qv.mono{h h':aq}{d:ak}(x:Qv h d I its ps)(k:∀b o,b≠d->b≠I->h.get? b=some o->h'.get? b=some o):Qv h' d I its ps:=λi v hv=>by
 obtain⟨b,p,t,h1,h2,h3,f,o,c,e⟩:=x i v hv;exact⟨b,p,t,h1,h2,h3,f,o,k b o h2 h3 c,e⟩
abbrev Y5 (ps:List<|Int×af):List (Key×af):=ps.foldl (λacc p=>stored acc (Sum.inl p.1) p.2) []
def RI(ps:List<|Int×af)(i:Nat)(p:Int×af)(h:ps[i]?=some p):Y5 (ps.take<|i+1)=stored (Y5<|ps.take i) (Sum.inl p.1) p.2:=by
 unfold Y5;rw[cC,h,dz];rfl
theorem Mf:∀(ps:List<|Int×af) (acc:List<|Key×af),(ps.foldl (λacc p=>stored acc (Sum.inl p.1) p.2) acc).length<=acc.length+ps.length
 | [],acc=>aR _
 | p::ps,acc=>by
  have:=Mf ps<|stored acc (Sum.inl p.1) p.2;have h:(stored acc (Sum.inl p.1) p.2).length<=acc.length+1:=by
   unfold stored;split
   ·rw[aH];lia
   ·rw[br];exact aR _
  rw[dG,bJ]
  lia
def Qw{R:Result->aA->Prop}{I l d:ak}{St:Nat->aq->Prop}{its:ba}{ps:List<|Int×af}(W:Walks P w A.in1 I [I,l] [I] its.length (λi v=>its[i]?=some v) St)(hdI:d≠I)(hdl:d≠l)(hl:ps.length=its.length)(hz:ps.length<=sizeLine) :
  ∀(k i:Nat) (s:aA),its.length-i=k->i<=its.length->St i s.heap->s.heap.DictOf (kB P w) d (Y5<|ps.take i)->Qv s.heap d I its ps ->
   (∀h' tk,h'.DictOf (kB P w) d (Y5 ps)->(∀b o,b≠d->b≠I->s.heap.get? b=some o->h'.get? b=some o)->R (.ok<|.ret .none) { s with heap:=h',toks:=tk }) ->
   codeAny (model P w) A (.builtin "dict.update.loop" ⟨[.ref d,.ref I,rawInt i,.none],[]⟩) R s:=by
 intro k
 induction k with
 | zero=>
  intro i s hk hi f G hP T;have L:i=its.length:=()
  subst L;refine iK CO ?_;rw[gf u9 _]
  skip
  refine aP (W.done s _ _ f λh' tk m=>?_)
  skip
  refine aP (bf<|bf<|T h' tk ?_ λb o _ h2 e=>m b o (by simpa using h2) e);rw[<- hl,cL]at G;obtain⟨o,es,ep,j,rest⟩:=G;exact⟨o,es,ep,m d o (by simpa using hdI) j,rest⟩
 | succ k ih=>
  intro i s hk hi f G hP T;have D:i<its.length:=()
  refine iK CO ?_;rw[gf u9 _]
  skip
  refine aP<|W.item i s _ _ D f λv h' tk hv B m=>?_;have M:Qv h' d I its ps:=hP.mono λb o h1 h2 e=>m b o (by simpa using h2) e;obtain⟨b,p,t,rfl,hbd,hbI,hp,o,j,hc,n,hd⟩:=M i v hv;have V:h'.DictOf (kB P w) d (Y5<|ps.take i):=by
   obtain⟨o,es,ep,j,rest⟩:=G;exact⟨o,es,ep,m d o (by simpa using hdI) j,rest⟩
  have hT:Shared.TypeIs { s with heap:=h',toks:=tk } (.ref b) "tuple" := ⟨o,j,hc⟩;have g:∀(A:az) (E:af->aA->Prop) (Q:ba->aA->Prop),Q [.int p.1 t,p.2] { s with heap:=h',toks:=tk }->wpAny (model P w) A (Builtin.Dict.pairItems<|.ref b) Q E { s with heap:=h',toks:=tk }:=λA E Q q=>by
   unfold Builtin.Dict.pairItems;refine aP<|jm hT ?_;rw[aK ⋯];refine aP<|wpAny_seqItems j hd<|bf q
  have C:(Y5<|ps.take i).length<=sizeLine:=by
   refine bG (Mf (ps.take i) []) ?_;rw[bU,cZ]
   lia
  refine aP (eL<|aP<|wpAny_tryCatch<|g _ _ _ ?_)
  skip
  refine eL (wpAny_dictSet_pairs (hsz:=C) (knd:=kB P w) (k:=Sum.inl p.1) (s:={ s with heap:=h',toks:=tk }) (show Value.isInt p.1 (.int p.1 t)=true by simp[Value.isInt]) V λh2 K hs=>?_);refine bf ⟨plainId_quiet u9 _,?_⟩;have c:∀b o,b≠d->b≠I->s.heap.get? b=some o->h2.get? b=some o:=λb o h3 F e=>by rw[hs.2 b h3];exact m b o (by simpa using F) e
  refine ih (i+1) _ () D (W.frame _ _ _ B λb Z o e=>?_) (by rw[RI ps i p hp];exact K) (hP.mono c) λh3 N O J=>T h3 N O λb o F Y e=>J b o F Y<|c b o F Y e;have U:b≠d:=by
   intro z;subst z
   rcases bD.mp Z with z|z
   ·exact hdI z
   ·exact hdl<|by simpa using z
  skip
  rw[hs.2 b U];exact e
theorem CH{H:Hp}{X:Cx}(I:Inv X pins σ H s):∀(rs:bb) (ps:List<|Int×V),rs.length=ps.length->(∀(i:Nat) (r:ak) (q:Int×V),rs[i]?=some r->ps[i]?=some q->oE X.K H r [.int q.1,q.2]) ->
  ∃qs:List<|Int×af,KV ps qs/\∀(i:Nat) (r:ak),rs[i]?=some r->∃q t,qs[i]?=some q/\IsTup s.heap r #[.int q.1 t,q.2]
 | [],[],_,_=>⟨[],.nil,λi r h=>by simp at h⟩
 | [],_::_,h,_=>nomatch h
 | _::_,[],h,_=>nomatch h
 | r::rs,p::ps,hl,hh=>by
  obtain⟨qs,h1,h2⟩:=CH I rs ps (by simpa using hl) λi r q e1 e2=>hh (i+1) r q (by simpa using e1) (by simpa using e2);obtain⟨k,j,d,_⟩:=I.tuple<|hh 0 r p rfl rfl;obtain⟨g,c,rfl,r1,r2⟩:=vals2 j;obtain⟨t,rfl⟩:∃t,g=Value.int p.1 t:=r1;refine⟨(p.1,c)::qs,.cons ⟨rfl,r2⟩ h1,λi f e=>?_⟩
  cases i with
  | zero=>cases e;exact⟨(p.1,c),t,rfl,d⟩
  | succ i=>exact h2 i f<|by simpa using e
abbrev ptP (ps:List<|Int×V):List (Key×V):=ps.foldl (λacc p=>putK acc (Sum.inl p.1) p.2) []
def ab8:∀{ps:List<|Int×V}{qs:List<|Int×af},KV ps qs->∀{as:List<|Key×V}{bs:List<|Key×af},KV as bs->KV (ps.foldl (λacc p=>putK acc (Sum.inl p.1) p.2) as) (qs.foldl (λacc p=>stored acc (Sum.inl p.1) p.2) bs):=by
 intro ps qs h;unfold KV at h
 induction h with
 | nil=>exact λh=>h
 | @cons p q ps qs h t c=>
  intro as bs h2;rw[dG,dG];obtain⟨e,r⟩:=h;rw[e];exact c<|h2.put _ r
theorem JM:∀(ps:List<|Int×V) (acc:List<|Key×V),(ps.foldl (λacc p=>putK acc (Sum.inl p.1) p.2) acc).length<=acc.length+ps.length
 | [],acc=>aR _
 | p::ps,acc=>by
  have:=JM ps<|putK acc (Sum.inl p.1) p.2;have:=qW acc (Sum.inl p.1) p.2;rw[dG,bJ]
  lia
end
section
variable {X:Cx}
def Iz(hc:X.calm=true):ko X (.type "dict") (λxs H Q=>∃(p:ak) (rs:bb) (ps:List<|Int×V),xs=[.ref p]/\pK X.K H p (rs.map V.ref)/\rs.length=ps.length /\
  (∀(i:Nat) (r:ak) (q:Int×V),rs[i]?=some r->ps[i]?=some q->oE X.K H r [.int q.1,q.2])/\∀l,H l=none->Q (.ref l) (upd H l<|.dK<|ptP ps)):=by
 w_up;obtain⟨p,rs,ps,rfl,T,B,hT,q⟩:=h;kcj_m
 cases rx
 obtain⟨its,rv,pl,hz⟩:=I.list T;have Z:=Ce rv;subst Z;rw[aH]at hz;obtain⟨N,kv,Y⟩:=CH I rs ps B hT;have ql:ps.length=N.length:=kv.length;obtain⟨o,n,P,j,J,hd⟩:=pl;have lp:p<s.heap.objs.size:=bu P;refine callType_codes (Q₁:=λm g=>m=.ref s.heap.objs.size/\g={ s with heap:=s.heap.push { cls:=.type "dict",data:=.dict #[]}}) F.kt_called_dict (F.kt_typeCall_dict_1 _) F.entry_dict_init (kt_code_dict_new _ ⟨rfl,rfl⟩) ?_;rintro m g ⟨rfl,rfl⟩;have c:(s.heap.push { cls:=.type "dict",data:=.dict #[]}).DictOf (kB X.prog X.w) s.heap.objs.size []:=Heap.DictOf.new s.heap;have f:(s.heap.push { cls:=.type "dict",data:=.dict #[]}).get? p=some o:=aZ _ P;have D:Shared.TypeIs { s with heap:=s.heap.push { cls:=.type "dict",data:=.dict #[]}} (.ref p) "list" := ⟨o,f,j⟩;refine⟨c.typeIs,F.args_dict_init_2 _ _,?_⟩;unfold Builtin.«dict.__init__»;refine aP ?_;unfold Builtin.Dict.selfAndRest;refine aP (wpAny_notOrdered_dict c.typeIs ?_)
 skip
 refine bf ?_;show wpAny _ _ (Builtin.Dict.updateFrom "dict.__init__" s.heap.objs.size (.ref p) [] .none) _ _ _;unfold Builtin.Dict.updateFrom;refine aP<|jm D ?_;rw[aK ⋯];refine aP<|MJ f j hd J (show X.A.in1.in1.handled=none from I.ok.hd hc) λh' tk k=>?_;rw[aK<|by rfl];refine aP<|gO ?_;have C:h'.IsList p (rs.map Value.ref).toArray:=⟨o,k p o f,j,n,hd⟩;refine aP<|i6 (s:={ s with heap:=h',toks:=tk }) C ?_;refine bf ⟨plainId_quiet u9 _,?_⟩;have sz:s.heap.objs.size<h'.objs.size:=bu<|k _ _<|bH _ rfl;have W:Walks X.prog X.w X.A.in1.in1 h'.objs.size [h'.objs.size,p] [h'.objs.size] (rs.map Value.ref).length (λi v=>(rs.map Value.ref)[i]?=some v) (λi h=>h.IsListIter h'.objs.size p i/\h.IsList p (rs.map Value.ref).toArray):=by
  have W:=Walks.list (prog:=X.prog) (w:=X.w) (A:=X.A.in1.in1) (I.ok.hd hc) h'.objs.size p (bF<|bu<|k p o f) (rs.map Value.ref).toArray;rw[bh]at W;dsimp[eZ]at W;exact W
 refine Qw (d:=s.heap.objs.size) (its:=rs.map Value.ref) (ps:=N) W (bF sz) (cV<|bF lp) (by rw[aH];lia) () (rs.map Value.ref).length 0 _ () (bP _)
  ⟨⟨_,bH _ rfl,rfl,rfl⟩,C.push _⟩ ?_ (λi v hv=>?_) λh2 G hD hs=>⟨rfl,.ref s.heap.objs.size,_,I.laid (t':=G) (o:=.dK<|ptP ps) (λb ob O=>?_) (aR _) ?_,rfl,q _<|I.hok.fresh<|aR _⟩
 ·obtain⟨o,es,ep,e,rest⟩:=c;exact⟨o,es,ep,aZ _<|k _ _ e,rest⟩
 ·rw[aO]at hv;obtain⟨r,U,rfl⟩:=aX.mp hv;obtain⟨q,t,h1,o2,h2,h3⟩:=Y i r U;have M:=bu h2;exact⟨r,q,t,rfl,bF M,bF<|jl M sz,h1,o2,aZ _<|k _ _<|aZ _ h2,h3⟩
 ·have L:=bu O;exact hs b ob (bF L) (bF<|jl L sz) (aZ _<|k _ _<|aZ _ O)
 ·refine HQ (bG (JM ps [])<|by rw[cZ];lia) ?_ (ab8 kv .nil) hD;exact c8.mpr<|cV<|bF I.big
abbrev Sv (J:ag):Sx.Ord where
 lt i j:=decide (J.getD i 0<J.getD j 0)
 NN i:=bA (by omega)
 tr i j k h1 h2:=bg (by have:=bQ h1;have:=bQ h2;omega)
 neg i j k h:=by
  have:=bQ h;by_cases c:J.getD i 0<J.getD j 0
  ·exact .inl (bg c)
  ·exact .inr<|bg<|by omega
theorem Ma:∀{vs:ba}{ns:ag},IntsAre vs ns->vs.length=ns.length/\∀i,i<vs.length->∃t,vs.getD i .none=.int (ns.getD i 0) t
 | _,_,.nil=>⟨rfl,λi h=>absurd h<|fq _⟩
 | _,_,.cons n t h=>by
  obtain⟨h1,h2⟩:=Ma h;refine⟨dB (·+1) h1,λi c=>?_⟩
  cases i with
  | zero=>exact⟨t,rfl⟩
  | succ i=>exact h2 i<|by simpa using c
theorem Af{f:Nat->Int}{h:Nat->af}:∀(l:am),(∀i∈l,∃t,h i=.int (f i) t)->Vals (l.map λi=>V.int<|f i) (l.map h)
 | [],_=>.nil
 | i::l,e=>.cons (e i<|aL ..)<|Af l λj c=>e j<|aN _ c
def AR{s:aA}{H:Hp}{Q:VK}{h':aq}{tk:Nat}{vs:ba}{J:ag}(U:Inv X pins σ H { s with heap:=h',toks:=tk })(ro:Sx.RO J.length)(hi:IntsAre vs J)(hz:vs.length<=sizeLine)
  (q:∀l g,H l=none->Sx.Cl g 0 J.length->Sx.So (Sv J) g 0 J.length->Q (.ref l) (upd H l<|.lst<|(List.range J.length).map λi=>V.int<|J.getD (g i) 0)) :
  wpAny (model X.prog X.w) X.A.in1 (do
   let l <- newList vs
   let _ <- holding [l] (call (Value.builtin "list.sort") [l] [])
   ret l) (λfin s'=>∃v,fin=Fin.done (Flow.ret v)/\EP X pins σ Q v s') X.xe { s with heap:=h',toks:=tk }:=by
 obtain⟨B,c⟩:=Ma hi;refine aP<|wpAny_newList ?_;have d:(h'.push<|seqObj "list" vs.toArray 0).get? h'.objs.size=some (seqObj "list" vs.toArray 0):=bH _ rfl
 skip
 refine aP (eL<|gp slot_list_sort ⟨_,d,rfl⟩ entry_list_sort (Sx.CP (o:=Sv J) (kd:=oneType') d hz (by rw[B];exact ro) (λh2 Q' m=>?_) (λh2 i j k D F Q' m=>?_) λg hc hs=>⟨_,rfl,?_⟩)<|args_list_sort _)
 ·obtain⟨a,b,r,rfl⟩:∃a b r,vs=a::b::r:=by
   cases vs with
   | nil=>simp at h2
   | cons a vs=>cases vs with
    | nil=>simp at h2
    | cons b r=>exact⟨a,b,r,rfl⟩
  exact wpAny_of_eq (keyKind_ints hi) m
 ·obtain⟨t,e1⟩:=c i k;obtain⟨u,e2⟩:=c j D;show wpAny _ _ (keyLt' oneType' (vs.getD i .none)<|vs.getD j .none) Q' F _;rw[e1,e2,keyLt'_oneType];exact Sx.J9 true m
 ·rw[B]at hc hs ⊢;obtain⟨e,C⟩:=sortedHeap_at (out:=((List.range J.length).map λi=>vs.getD (g i) .none).toArray) d;have old:∀b f,h'.get? b=some f->(sortedHeap (h'.push<|seqObj "list" vs.toArray 0) h'.objs.size vs ((List.range J.length).map λi=>vs.getD (g i) .none).toArray).get? b=some f:=λb f p=>by
   rw[sortedHeap_old (bF<|bu p)<|by rw[fM];exact f6<|bu p];exact aZ _ p
  refine bf ⟨_,rfl,.ref h'.objs.size,_,U.laid (t':=tk) (o:=.lst<|(List.range J.length).map λi=>V.int<|J.getD (g i) 0) old (aR _) ?_,rfl,q _ g (U.hok.fresh<|aR _) hc hs⟩;refine⟨by rw[aH,b8];omega,(List.range J.length).map λi=>vs.getD (g i) .none,e,Af _ λi hi=>c _ (by have:=(hc i (bP _)<|cM.mp hi).2;omega),C⟩
def CQ{P:aj}{w:ah}{vs:List<|Key×af}:∀{acc:ba}{ns:ag},vs.map (·.1)=ns.map Sum.inl->acc.length=vs.length->(∀(j:Nat) v,acc[j]?=some v->∃k x,vs[j]?=some (k,x)/\(kB P w).is k v=true)->IntsAre acc ns:=by
 intro acc ns c d h
 induction acc generalizing vs ns with
 | nil=>cases vs with
  | nil=>cases ns with
   | nil=>exact .nil
   | cons=>cases c
  | cons=>cases d
 | cons a acc g=>cases vs with
  | nil=>cases d
  | cons v vs=>cases ns with
   | nil=>cases c
   | cons n ns=>
    rw[bE,bE,List.cons.injEq]at c;obtain⟨k,x,e1,e2⟩:=h 0 a rfl
    cases e1
    obtain⟨e3,f⟩:=c;have e3:k=Sum.inl n:=e3;subst e3;obtain⟨t,rfl⟩:=Value.isInt_shape (k:=n) (v:=a) e2;exact .cons n t<|g f (by simpa using d) λj v e=>h (j+1) v<|by simpa using e
def Dw(hc:X.calm=true):ko X (.builtin "sorted") (λxs H Q=>∃(d:ak) (kvs:List<|Key×V) (ns:ag),xs=[.ref d]/\H d=some (.dK kvs)/\kvs.map (λp=>p.1)=ns.map Sum.inl/\Sx.RO ns.length /\
  ∀l g,H l=none->Sx.Cl g 0 ns.length->Sx.So (Sv ns) g 0 ns.length->Q (.ref l) (upd H l<|.lst<|(List.range ns.length).map λi=>V.int<|ns.getD (g i) 0)):=by
 w_up;obtain⟨d,kvs,ns,rfl,t,D,M,q⟩:=h;kcj_m
 cases rx
 obtain⟨z,hd,k,f,C⟩:=KZ I.hok t;obtain⟨ep,B⟩:=C.dictAt;have N:kvs.length=k.length:=f.length;have L:k.map (·.1)=kvs.map (·.1):=by
  clear D z C B N t;unfold KV at f
  induction f with
  | nil=>rfl
  | cons h _ F=>rw[bE,bE,F,h.1]
 kln_w;unfold Builtin.«sorted»;refine aP (m:=checkCount "sorted" 1 1 _)<|bf ?_;refine aP<|gz (PySem.W.kdl_dict hd) (show X.A.in1.handled=none from I.ok.hd hc) B () λh' K acc G c=>?_;have J:acc.toList.length=k.length:=by rw[dQ];exact c.1
 exact AR (s:=s) (I.kept (t':=K) G) M (CQ (P:=X.prog) (w:=X.w) (L.trans D) J λj v e=>c.2 j v<|by rw[cO]at e;exact e) () q
end
end L2
namespace Am
open PySem PySem.Spec PyProof.Rows L2
abbrev UW:ae->Option (List<|Int×A)
 | []=>some []
 | .tup [.int k,x]::r=>(UW r).map λps=>(k,x)::ps
 | _=>none
abbrev Vp (ps:List<|Int×A):List (Int×A):=ps.foldl (λacc p=>rV acc p.1 p.2) []
section
variable {K:au}{ρ:bb}{H:Hp}
def UA{x:A}(r:AVs K ρ H [x,y] vs):∃v w,vs=[v,w]/\AV K ρ H x v/\AV K ρ H y w:=by
 cases r with
 | cons h t=>cases t with
  | cons h' c=>cases c;exact⟨_,_,rfl,h,h'⟩
def PZ{x:A}(e:UW (x::xs)=some ps):∃k y ps',x=.tup [.int k,y]/\UW xs=some ps'/\ps=(k,y)::ps':=by
 unfold UW at e;split at e
 ·rename_i e2;cases e2
 ·rename_i k y r e2
  cases e2
  obtain⟨ps',h1,h2⟩:=aX.mp e;exact⟨_,_,_,rfl,h1,h2.symm⟩
 ·cases e
def aaV:∀{xs:ae}{vs:List V}{ps:List<|Int×A},AVs K ρ H xs vs->UW xs=some ps ->
  ∃(rs:bb) (qs:List<|Int×V),vs=rs.map V.ref/\rs.length=qs.length/\(∀(i:Nat) (r:ak) (q:Int×V),rs[i]?=some r->qs[i]?=some q->oE K H r [.int q.1,q.2]) /\
   ∀as bs,DI K ρ H as bs->DI K ρ H (ps.foldl (λacc p=>rV acc p.1 p.2) as) (qs.foldl (λacc p=>putK acc (Sum.inl p.1) p.2) bs):=by
 intro xs
 induction xs with
 | nil=>intro vs ps r e;cases r;cases e;exact⟨[],[],rfl,rfl,λi r q h=>by simp at h,λas bs h=>h⟩
 | cons x xs j=>
  intro vs ps r e;obtain⟨k,y,c,rfl,e1,rfl⟩:=PZ e
  cases r with
  | cons h t=>
   obtain⟨rs,qs,rfl,g,f,m⟩:=j t e1
   cases h with
   | @tup a _ us h r=>
    obtain⟨v,w,rfl,h1,h2⟩:=UA r
    cases h1
    refine⟨a::rs,(k,w)::qs,rfl,by rw[bJ,bJ,g],λi r q e1 e2=>?_,λas bs d=>m _ _<|d.put h2 k⟩
    cases i with
    | zero=>cases e1;cases e2;exact oE.of h
    | succ i=>exact f i r q (by simpa using e1)<|by simpa using e2
end
section
variable {X:Cx}
abbrev Dq (x:A)(S:jD):R A:=match x with
 | .ref n=>opt (jE S n) λxs=>opt (UW xs) λps=>.ok (.ref S.length) (S++[.nG<|Vp ps])
 | _=>.no
def LC(hc:X.calm=true):ko X (.type "dict") (rN X<|f1 Dq):=ko.imp (Iz hc) λvs H Q h0=>by
 kt_k;clear h0
 cases hv with
 | ref j=>
  rename_i p n;kpc_g;obtain⟨ps,f,h⟩:=jG h;obtain⟨us,h1,r⟩:=R.lst j<|jS hn;obtain⟨g,e,rfl,c,k,m⟩:=aaV r f;refine⟨p,g,e,rfl,pK.of h1,c,k,λl d=>?_⟩;obtain⟨ex,q,c⟩:=R.abt (xs:=Vp ps) (vs:=ptP e) d<|m [] [] trivial;exact h _ _ _ ex q<|.ref c
 | _=>exact h.elim
abbrev AZ (x:A)(S:jD):R A:=match x with
 | .ref n=>opt (kj S n) λkvs=>.ok (.ref S.length) (S++[.lst<|(sortI<|kvs.map Prod.fst).map .int])
 | _=>.no
def JA{J:ag}{g:Nat->Nat}(c:Sx.Cl g 0 J.length)(U:Sx.So (Sv J) g 0 J.length):(List.range J.length).map (λi=>J.getD (g i) 0)=sortI J:=by
 refine TN ?_ ?_ (Bc J)
 ·refine List.Perm.trans ?_ (sortI_perm J).symm;have p:=wQ (N:=J.length) (g:=g) (λi f=>(c i (bP _) f).2) λi j d e z=>by
   have:=U i j (bP _) d e;rw[z]at this;exact this.NN
  have:=p.map λi=>J.getD i 0;rw[bq,range_getD]at this;exact this
 ·rw[cU];intro i j f e d;rw[aH,b8]at f e;rw[cj,cj,dJ,dJ];have:=dI (U i j (bP _) d e).ge
  lia
def VL(hc:X.calm=true):ko X (.builtin "sorted") (rN X<|f1 AZ):=ko.imp (Dw hc) λk H Q h0=>by
 kt_k;clear h0
 cases hv with
 | ref j=>
  rename_i p n;kst_p;obtain⟨ks,f,d⟩:=R.nG j<|lY hn;refine⟨p,ks,kvs.map Prod.fst,rfl,f,by rw[d.keys,bq];rfl,Sx.Eb _,λl g c hc hs=>?_⟩;have e:AVs X.K ρ H ((sortI<|kvs.map Prod.fst).map .int) ((List.range (kvs.map Prod.fst).length).map λi=>V.int<|(kvs.map Prod.fst).getD (g i) 0):=by
   rw[<- JA hc hs,bq];exact Ac λi _=>.int _
  exact oQ R e .refl h l c
 | _=>exact h.elim
@[irreducible] noncomputable def big:Nat:=2 ^ 4096
theorem zP:big=2 ^ 4096:=by unfold big;rfl
def FO{i:Int}(h:i.natAbs<big):Builtin.Int.intBits i<=2 ^ 20:=by
 rw[zP]at h;exact bG (intBits_le h) ⋯
abbrev FP (a b:A)(S:jD):R A:=match a,b with
 | .int i,.int j=>gd (i.natAbs<big/\j.natAbs<big) (.ok (.int<|i * j) S)
 | _,_=>.no
def Qy:pG X (binaryOp .Mult) (r2 X FP):=λpins s σ H x y v u Q I rx ry h9=>by
 x_go
 cases va with
 | int i=>cases vb with
  | int j=>
   obtain⟨⟨h1,h2⟩,h⟩:=j6 h;obtain⟨t,rfl⟩:∃t,v=Value.int i t:=rx;obtain⟨c,rfl⟩:∃t,u=Value.int j t:=ry;exact mul_int ⟨.int _,H,I.tok _,⟨_,rfl⟩,h _ _ _ .refl R<|.int _⟩<|IntMulOk.of_bits (FO h1)<|FO h2
  | _=>exact h.elim
 | _=>exact h.elim
end
def Ls:bootBuiltins "dict" = some (.type "dict"):=by decide +kernel
abbrev kA (p:Int×Int):A:=.ktu [.int p.1,.int p.2]
abbrev OO (K:au):af->Option (Int×Int)
 | .ref b=>match K.lookup b with
  | some ⟨.type "tuple",none,.seq its _,_⟩=>match its.toList with
   | [.int i _,.int j _]=>some (i,j)
   | _=>none
  | _=>none
 | _=>none
abbrev IG (K:au):ba->Option (List<|Int×Int)
 | []=>some []
 | v::vs=>(OO K v).bind λp=>(IG K vs).map λps=>p::ps
abbrev ZX (K:au)(a:ak):Option (List<|Int×Int):=match K.lookup a with
 | some ⟨.type "list",none,.seq its _,_⟩=>if its.size<=sizeLine then IG K its.toList else none
 | _=>none
def P9{K:au}{v:af}{p:Int×Int}(h:OO K v=some p):∃b,v=.ref b/\KTp K b [.int p.1,.int p.2]:=by
 unfold OO at h;split at h
 ·rename_i b;refine⟨b,rfl,?_⟩;split at h
  ·rename_i c n d e;split at h
   ·rename_i i t j u e2
    cases h
    refine⟨_,c,n,e,rfl,rfl,rfl,?_,?_⟩
    ·rw[<- dQ,e2];show 2<=sizeLine;decide
    ·rw[e2];exact .cons ⟨t,rfl⟩<|.cons ⟨u,rfl⟩ .nil
   ·cases h
  ·cases h
 ·cases h
def M7{K:au}{H:Hp}:∀{vs:ba}{ps:List<|Int×Int},IG K vs=some ps->∃us:List V,Vals us vs/\AVs K ρ H (ps.map kA) us:=by
 intro vs
 induction vs with
 | nil=>intro ps h;cases h;exact⟨[],.nil,.nil⟩
 | cons v vs d=>
  intro ps h;obtain⟨p,h1,h⟩:=cH.mp h;obtain⟨f,h2,rfl⟩:=aX.mp h;obtain⟨us,h3,e⟩:=d h2;obtain⟨b,rfl,c⟩:=P9 h1;exact⟨.ref b::us,.cons rfl h3,.cons (.ktu c<|.cons (.int _)<|.cons (.int _) .nil) e⟩
def X3{K:au}{H:Hp}{a:ak}{ps:List<|Int×Int}(h:ZX K a=some ps):AV K ρ H (.frz<|ps.map kA) (.ref a):=by
 unfold ZX at h;split at h
 ·rename_i c n f e;split at h
  ·rename_i d;obtain⟨us,h1,h2⟩:=M7 (ρ:=ρ) (H:=H) h;exact .frz (.inr ⟨_,c,n,e,rfl,rfl,rfl,d,h1⟩) h2
  ·cases h
 ·cases h
def Pk{X:Cx}{x:Str}{a:ak}{ps:List<|Int×Int}(J:X.mg x=some (.ref a))(U:ZX X.K a=some ps)(hg:Gl X x<|>η)(hd:(x == ("__debug__" : Str))=false<|>δ):AE X (.Name x pos) (eC<|.frz<|ps.map kA):=
 PE.imp (KD (v:=.ref a) hg J rfl hd) λσ H Q h9=>by
  room;exact h ρ H _ .refl R<|X3 U
section
variable {X:Cx}
abbrev keA (p:ag×A):A:=.tup<|p.1.map .int
abbrev Yz (n:Nat)(S:jD):R A:=opt (jX S n) λkvs=>match (kvs.map Prod.fst).all (λks=>!ks.isEmpty)with
 | true=>.ok (.ref S.length) (S++[.lst<|(lg<|kvs.map Prod.fst).map λks=>.tup<|ks.map .int])
 | false=>.no
abbrev EH (x:A)(S:jD):R A:=match x with
 | .ref n=>Yz n S
 | _=>.no
theorem Dp{K:au}{H:Hp}:∀{kvs:List<|ag×A}{ks:List<|List Key×V},DV K ρ H kvs ks->ks.map (λp=>p.1)=(kvs.map Prod.fst).map (λks=>ks.map Sum.inl)
 | [],[],_=>rfl
 | a::kvs,b::ks,⟨z,t⟩=>by
  have:=Dp t;show b.1::ks.map _=a.1.map Sum.inl::_;rw[this,z.1]
def UB(hc:X.calm=true):ko X (.builtin "sorted") (rN X<|f1 EH):=ko.imp (Er hc) λF H Q h0=>by
 kt_k;clear h0
 cases hv with
 | ref C=>
  rename_i p n;kst_p;obtain⟨ks,t,j⟩:=R.dct C (l8 hn)
  cases d:(kvs.map Prod.fst).all (λks=>!ks.isEmpty)with
  | false=>rw[d]at h;exact h.elim
  | true=>
   rw[d]at h;refine⟨p,ks,kvs.map Prod.fst,rfl,t,Dp j,λk q z=>?_,Sx.Eb _,λe l g f D c hc hs=>?_⟩
   ·have:=dY.mp d k q;rw[z]at this
    cases this
   have m:AVs X.K ρ H ((lg<|kvs.map Prod.fst).map λks=>.tup<|ks.map .int) (((List.range (kvs.map Prod.fst).length).map λi=>e.getD (g i) 0).map V.ref):=by
    rw[<- RK hc hs,bq,bq];refine Ac λi B=>?_;have lt:=(hc i (bP _)<|cM.mp B).2;have e1:e[g i]?=some (e.getD (g i) 0):=by rw[aJ,aF<|by rw[f];exact lt];rfl
    have e2:(kvs.map Prod.fst)[g i]?=some ((kvs.map Prod.fst).getD (g i) []):=by rw[aJ,aF lt];rfl
    exact .tup (D _ _ _ e1 e2)<|qM _
   exact oQ R m .refl h l c
 | _=>exact h.elim
end
end Am
namespace L2
open PySem PySem.Spec PyProof.Rows
section
variable {H:Hp}{a:ak}{xs:List (Mp×ak×af)}
end
end L2
namespace Am
open PySem PySem.Spec PyProof.Rows L2
abbrev IU {α:Type}(x:ag×α):List (ag×α)->List (ag×α)
 | []=>[x]
 | y::ys=>if HT.lexLt y.1 x.1=true then y::IU x ys else x::y::ys
abbrev Bp {α:Type}:List (ag×α)->List (ag×α)
 | []=>[]
 | x::xs=>IU x<|Bp xs
section
variable {α:Type}
theorem CV(x:ag×α):∀ys:List<|ag×α,(IU x ys).Perm (x::ys)
 | []=>eX _
 | y::ys=>by
  unfold IU;by_cases h:HT.lexLt y.1 x.1=true
  ·rw[aK h];exact((CV x ys).cons y).trans (List.Perm.swap x y ys)
  ·rw[aI h]
theorem wB:∀xs:List<|ag×α,(Bp xs).Perm xs
 | []=>eX _
 | x::xs=>(CV x<|Bp xs).trans<|(wB xs).cons x
theorem Gg(x:ag×α):∀ys:List<|ag×α,(IU x ys).map Prod.fst=EZ x.1 (ys.map Prod.fst)
 | []=>rfl
 | y::ys=>by
  unfold IU;rw[bE];unfold EZ;by_cases h:HT.lexLt y.1 x.1=true
  ·rw[aK h,aK h,bE,Gg]
  ·rw[aI h,aI h];rfl
theorem Cy:∀xs:List<|ag×α,(Bp xs).map Prod.fst=lg (xs.map Prod.fst)
 | []=>rfl
 | x::xs=>by
  show(IU x<|Bp xs).map Prod.fst=EZ x.1 (lg<|xs.map Prod.fst);rw[Gg,Cy]
theorem DB:∀{l:List<|ag×α},(l.map Prod.fst).Nodup->∀a∈l,∀b∈l,a.1=b.1->a=b
 | [],_,_,h,_,_,_=>nomatch h
 | x::l,nd,a,ha,b,hb,e=>by
  obtain⟨h1,h2⟩:=cT.mp nd
  rcases bD.mp ha with g|d
  ·rcases bD.mp hb with f|c
   ·rw[g,f]
   ·subst g;exact absurd (e ▸ fL c) h1
  ·rcases bD.mp hb with f|c
   ·subst f;exact absurd (e ▸ fL d) h1
   ·exact DB h2 a d b c e
def Jl{xs ys:List<|ag×α}(nd:(ys.map Prod.fst).Nodup)(p:xs.Perm ys)(h:(xs.map Prod.fst).Pairwise Ek):xs=Bp ys:=by
 refine ef (le:=λ(a b:ag×α)=>Ek a.1 b.1) (λ(a b:ag×α) ha hb h1 h2=>DB nd a (p.mem_iff.mp ha) b ((wB ys).mem_iff.mp hb) (Sx.xx (show HT.lexLt b.1 a.1=false from h1)<|show HT.lexLt a.1 b.1=false from h2).symm) ?_ ?_ (p.trans (wB ys).symm)
 ·exact cB.mp h
 ·have:=uH<|ys.map Prod.fst;rw[<- Cy]at this;exact cB.mp this
end
end Am
namespace L2
open PySem PySem.Spec PyProof.Rows
section
variable {X:Cx}
def NL{H:Hp}{s:aA}{d:ak}{kvs:List<|List Key×V}(I:Inv X pins σ H s)(J:Rd H d<|.dT kvs) :
  ∃(ob:Obj) (es:Array DictEntry) (ep:Nat) (rs:bb),s.heap.get? d=some ob/\ob.cls=.type "dict" /\ ob.data=.dict es ep/\(d == sysModules)=false/\kvs.length<=sizeLine/\rs.length=kvs.length/\es.size=kvs.length /\
   (∀i:Nat,(es[i]?).map (λe:DictEntry=>e.key)=(rs[i]?).map Value.ref)/\∀(i:Nat) r p,rs[i]?=some r->kvs[i]?=some p->H r=some (.tup<|p.1.map kV):=by
 obtain⟨z,B,xs,f,C⟩:=yK I.hok J;obtain⟨ob,es,ep,t,k,q,g,F,D⟩:=id C;obtain⟨j,m⟩:=kt_at f;have c:es.size=xs.length:=by have:=dB List.length g;simpa using this
 refine⟨ob,es,ep,xs.map λy=>y.2.1,t,k.1,q,B,z,by rw[aH,j],by rw[c,j],λi=>?_,λi r p e1 e2=>?_⟩
 ·rw[<- cO,g,aO,aO,eY,eY]
  cases xs[i]?<;>rfl
 ·obtain⟨y,h1,h2,h3,G⟩:=m i p e2;rw[aO,h1]at e1
  cases e1
  exact h3
def Dm(hc:X.calm=true):ko X (.builtin "sorted") (λxs H Q=>∃(d:ak) (kvs:List<|List Key×V) (kss:List<|ag),xs=[.ref d]/\Rd H d (.dT kvs)/\kvs.map (λp=>p.1)=kss.map (λks=>ks.map Sum.inl)/\(∀ks∈kss,ks≠[])/\Sx.RO kss.length /\
  ∀(rs:bb) l g,rs.length=kss.length->(∀(i:Nat) (r:ak) (ks:ag),rs[i]?=some r->kss[i]?=some ks->H r=some (.tup<|ks.map V.int))->H l=none->Sx.Cl g 0 kss.length->Sx.So (Sx.MA kss) g 0 kss.length ->
   Q (.ref l) (upd H l<|.lst<|((List.range kss.length).map λi=>rs.getD (g i) 0).map V.ref)):=by
 w_up;obtain⟨d,kvs,kss,rfl,P,D,k,M,q⟩:=h;kcj_m
 cases rx
 obtain⟨Y,es,ep,rs,T,F,O,U,C,f,N,L,G⟩:=NL I P;have t:kvs.length=kss.length:=by have:=dB List.length D;simpa using this
 have B:∀(i:Nat) (r:ak) (ks:ag),rs[i]?=some r->kss[i]?=some ks->H r=some (.tup<|ks.map V.int):=λi r ks e1 e2=>by
  have lt:i<kvs.length:=by rw[t];exact(aG.mp e2).1
  have h1:=G i r kvs[i] e1 (aF lt);have h2:(kvs.map λp=>p.1)[i]?=(kss.map λks=>ks.map Sum.inl)[i]?:=by rw[D]
  rw[aO,aO,e2,aF lt]at h2;have h3:kvs[i].1=ks.map Sum.inl:=aY h2;rw[h3,bq]at h1;exact h1
 kln_w;unfold Builtin.«sorted»;refine aP (m:=checkCount "sorted" 1 1 _)<|bf ?_;refine aP (gz (Kv U F O) (show X.A.in1.handled=none from I.ok.hd hc) T (by rw[N];exact C) λh' W acc J c=>?_);have K:acc.toList=rs.map Value.ref:=by
  refine dc λj=>?_;rw[cO,aO,<- L j]
  cases e:acc[j]? with
  | some v=>exact(c.2 j v e).symm
  | none=>
   have:acc.size<=j:=iW.mp e;rw[fW<|by rw[<- c.1];exact this];rfl
 rw[K];exact Dh (s:=s) (I.kept (t':=W) J) M (by rw[f,t]) (by rw[f];exact C) (λi r ks e1 e2=>⟨oE.of<|B i r ks e1 e2,k ks<|aW e2⟩) λl g h1 h2 h3=>q rs l g (by rw[f,t]) B h1 h2 h3
end
end L2
namespace Am
open PySem PySem.Spec PyProof.Rows L2
section
variable {X:Cx}{pos:Pos}{a b:aC}
abbrev kW (S:jD)(n:Nat):Option (List<|ag×A):=match S[n]? with
 | some (.dct kvs)=>some kvs
 | some (.dcf kvs)=>some kvs
 | _=>none
def zJ{K:au}{H:Hp}{n:Nat}{p:ak}(R:Rel K ρ H S)(J:ρ[n]?=some p)(hn:kW S n=some kvs):∃ks,Rd H p (.dT ks)/\DV K ρ H kvs ks:=by
 unfold kW at hn;split at hn
 ·rename_i h
  cases hn
  obtain⟨ks,e,d⟩:=R.at n p _ J h;exact⟨ks,.inl e,d⟩
 ·rename_i h
  cases hn
  obtain⟨o,ks,e,d⟩:=R.at n p _ J h;exact⟨ks,.inr ⟨o,e⟩,d⟩
 ·cases hn
def F2{H:Hp}{p q:ak}{n:Nat}{J:ag}(R:Rel X.K ρ H S)(hp:ρ[n]?=some p)(hn:kW S n=some kvs)(U:H q=some (.tup vs))(r:AVs X.K ρ H xs vs)(hi:A.ints xs=some J) :
  ∃ks,DV X.K ρ H kvs ks/\tO H p (.ref q) (o5 ks<|J.map Sum.inl):=by
 obtain⟨ks,e,d⟩:=zJ R hp hn;have z:=DM r hi;subst z;rw[<- zV]at U;exact⟨ks,d,.inr ⟨ks,J.map Sum.inl,q,e,rfl,U,rfl⟩⟩
abbrev w6 (x y:A)(S:jD):R A:=match x,y with
 | .ref n,.tup xs=>opt (kW S n) λkvs=>opt (A.ints xs) λc=>opt (kK kvs c) λv=>.ok v S
 | _,_=>.no
def aaq(J:X.A.units+64<cLine):Ti X (r2 X w6):=λe c pins s σ H x y v u Q I rx ry ⟨ρ,S,a,b,R,va,vb,h⟩ hs=>by
 cases va with
 | @ref p n m=>
  cases vb with
  | @tup q xs C f r=>
   kst_p;obtain⟨k,j,h⟩:=jG h;obtain⟨z,B,h⟩:=jG h;obtain⟨ks,d,g⟩:=F2 R m hn f r j;obtain⟨w,hw,t⟩:=(d.look k).2 z B;rw[hw]at g;exact zj () e c pins s σ H _ _ v u Q I rx ry ⟨p,w,rfl,g,h _ _ _ .refl R t⟩ hs
  | _=>exact h.elim
 | _=>exact h.elim
def wF(J:X.A.units+64<cLine){ca cb:Ex}(U:AE X a ca)(hb:AE X b cb)(hs:vA b<|>μ):AE X (.Subscript a b pos) (jO w6 ca cb):=PE.imp (GI (aaq J) U hb hs) λσ H Q h=>qQ h
abbrev ZM (n:Nat)(S:jD):R A:=opt (kW S n) λkvs=>match (kvs.map Prod.fst).all (λks=>!ks.isEmpty)with
 | true=>.ok (.ref S.length) (S++[.lst<|(lg<|kvs.map Prod.fst).map λks=>.tup<|ks.map .int])
 | false=>.no
abbrev EF (x:A)(S:jD):R A:=match x with
 | .ref n=>ZM n S
 | _=>.no
def VA(hc:X.calm=true):ko X (.builtin "sorted") (rN X<|f1 EF):=ko.imp (Dm hc) λF H Q h0=>by
 kt_k;clear h0
 cases hv with
 | ref C=>
  rename_i p n;kst_p;obtain⟨ks,t,j⟩:=zJ R C hn
  cases d:(kvs.map Prod.fst).all (λks=>!ks.isEmpty)with
  | false=>rw[d]at h;exact h.elim
  | true=>
   rw[d]at h;refine⟨p,ks,kvs.map Prod.fst,rfl,t,Dp j,λk q z=>?_,Sx.Eb _,λe l g f D c hc hs=>?_⟩
   ·have:=dY.mp d k q;rw[z]at this
    cases this
   have m:AVs X.K ρ H ((lg<|kvs.map Prod.fst).map λks=>.tup<|ks.map .int) (((List.range (kvs.map Prod.fst).length).map λi=>e.getD (g i) 0).map V.ref):=by
    rw[<- RK hc hs,bq,bq];refine Ac λi B=>?_;have lt:=(hc i (bP _)<|cM.mp B).2;have e1:e[g i]?=some (e.getD (g i) 0):=by rw[aJ,aF<|by rw[f];exact lt];rfl
    have e2:(kvs.map Prod.fst)[g i]?=some ((kvs.map Prod.fst).getD (g i) []):=by rw[aJ,aF lt];rfl
    exact .tup (D _ _ _ e1 e2)<|qM _
   exact oQ R m .refl h l c
 | _=>exact h.elim
end
end Am
namespace L2
open PySem PySem.Spec PyProof.Rows
section
variable {X:Cx}{o e:aC}{es:List aC}{to:TE}{t:TA}{name:Str}{apos cpos:Pos}{T id:String}{r:V->List V->Hp->VK->Prop}
abbrev tBG (ty:V->Hp->Prop)(r:V->List V->Hp->VK->Prop)(to:TE)(t:TA):TE:=λσ H Q=>to σ H λx H1=>ty x H1/\t σ H1 λxs H2=>r x xs H2 Q
def aa_{ty:V->Hp->Prop}(hT:∀{pins:bo}{σ:St}{H:Hp}{s:aA}{x:V}{v:af},Inv X pins σ H s->RelV x v->ty x H->s.TypeIs v T/\∀a,v=.ref a->∃ob,s.heap.get? a=some ob/\ob.dict=none)
  (pa:PlainAttrs T) (slot:Slot T name id) (hty:typeOf (.builtin id)=pure (.type "method_descriptor")) (hm:G_ X id r) (ho:PE X o to) (ha:PA X (e::es) t)
  (U:attributeBase o name X.env (eval o X.env)=eval o X.env<|>η)
  (hfew:(((backTo cpos<|starEach (e::es) X.env).all (λx=>!x.1) && (backToKw cpos<|keywordEach [] X.env).all (λx=>x.1.isSome)
   && decide ((e::es).length+([]:List Keyword).length+(if ([]:List Keyword).isEmpty then 0 else 1)<30))=true)<|>η)
  (hline:(apos.endLine == cpos.line)=true<|>η) (hs:starEach (e::es) X.env=(false,eval e X.env)::starEach es X.env<|>η) (J:((backTo cpos<|starEach es X.env).any (·.1)=false)<|>η) :
  PE X (.Call (.Attribute o name apos) (e::es) [] cpos) (tBG ty r to t):=by
 k_ne;refine gZ U hfew hline rfl<|mY (ho pins s σ H _ I h) λv q h9=>?_;obtain⟨x,H1,f,r1,c,g⟩:=h9;obtain⟨h1,h2⟩:=hT f r1 c;refine⟨T,id,pa,slot,hty,h1,h2,?_⟩;have d:=ha cpos pins q σ H1 _ f g;rw[hs]at d ⊢;refine eK (by show(false || (backTo cpos<|starEach es X.env).any (·.1))=false;rw[J]<;>rfl)<|gb ?_;refine mY d λus m h9=>?_;obtain⟨p,H2,j,r2,k⟩:=h9;exact hm pins m σ H2 x p v us Q j r1 r2 k
end
section
variable {X:Cx}
abbrev Itw (d:ak)(o:Obj)(u:HO)(xs:List V):It:=
 ⟨λi H=>(∃x,xs[i]?=some x)/\H d=some (.frz o u),λi H x H'=>H'=H/\xs[i]?=some x,λi H=>i=xs.length/\H d=some (.frz o u)⟩
def HW{P:aj}{w:ah}{K:au}(d it:ak){o:Obj}{es:Array DictEntry}{xs:List V}(hd:o.data=.dict es ep)(U:es.size=xs.length)
  (hk:∀(i:Nat) (x:V) (lt:i<es.size),xs[i]?=some x->RelV x es[i].key):Turn P w K tg (Itw d o u xs) [it] it (λi h=>h.IsKeyIter it d i es.size ep) where
 mem:=aL ..
 obj:=λi h st b f=>by
  have:b=it:=by simpa using f
  subst this;obtain⟨G,h1,h2,h3⟩:=st;exact⟨G,h1,λv z=>by rw[h3]at z;cases z⟩
 keep:=λi h h' st k=>st.at λx e=>k it (aL ..) x e
 item:=by
  z_go;subst hP hw hK;obtain⟨⟨a,p⟩,j⟩:=hg;have m:s.heap.get? d=some o:=(show kQ _ _ H s.heap d (.frz o u)from I.hok d _ j).1;have lt:i<es.size:=by rw[U];exact(aG.mp p).1
  have F:=hk i a lt p;obtain⟨f0,f1,f2,f3,f4,f5⟩:=hf it<|aL ..;refine Q_ st m hd lt λh' g t=>?_;have B:Inv X pins σ H { s with heap:=h' }:=I.turned (t':=s.toks) (λb x f e=>t.extBut b x f e) f0 f1 f3 f4 f5;obtain⟨L,e,c,D⟩:=id g;exact⟨_,rfl,GB (s:={ s with heap:=h' }) e c D ⋯ ⟨a,H,B,F,⟨rfl,p⟩,g,λb f=>(hf b f).1⟩⟩
 done:=by
  z_go;subst hP hw hK;obtain⟨J,j⟩:=hg;have m:s.heap.get? d=some o:=(show kQ _ _ H s.heap d (.frz o u)from I.hok d _ j).1;obtain⟨f0,f1,f2,f3,f4,f5⟩:=hf it<|aL ..;exact KR (I.ok.hd hc) st m hd () λh' C=>⟨rfl,I.turned (t':=s.toks) (λb x f e=>C b x f e) f0 f1 f3 f4 f5⟩
 self:=λ_ _ _ _ _ st q=>wpAny_pyIter_keyiter st q
abbrev abK (H:Hp):HO->List V->Prop
 | .dT kvs,xs=>∃c:bb,xs=c.map V.ref/\c.length=kvs.length/\∀(i:Nat) r p,c[i]?=some r->kvs[i]?=some p->H r=some (.tup<|p.1.map kV)
 | .dK kvs,xs=>xs=kvs.map λp=>kV p.1
 | _,_=>False
abbrev Xp (to:TE):TI:=λσ H R=>to σ H λx H1=>∃d u,x=.ref d/\((∃kvs,u=.dT kvs)\/∃kvs,u=.dK kvs)/\Rd H1 d u/\∀(o:Obj) (xs:List V),(∀o',H1 d=some (.frz o' u)->o'=o)->abK H1 u xs->R (Itw d o u xs) (upd H1 d<|.frz o u)
def pairs_at{P:aj}{w:ah}(h:Pairs (kB P w) es vs):∀(i:Nat) (e:DictEntry) (p:Key×af),es[i]?=some e->vs[i]?=some p->RelV (kV p.1) e.key:=by
 induction h with
 | nil=>intro i e p h1;cases h1
 | cons h1 h2 h3 f=>
  intro i e p c d
  cases i with
  | zero=>
   cases c
   cases d
   rcases lA h1 with⟨j,t,e1,e2⟩|⟨y,t,e1,e2⟩
   ·rw[e1,e2];exact⟨t,rfl⟩
   ·rw[e1,e2];exact⟨t,rfl⟩
  | succ i=>exact f i e p c d
def UG{kvs:List<|Key×V}{vs:List<|Key×af}(J:KV kvs vs):vs.map (·.1)=kvs.map (·.1):=by
 unfold KV at J
 induction J with
 | nil=>rfl
 | cons h _ c=>rw[bE,bE,c,h.1]
def N8{H:Hp}{d:ak}(h:H d=some u):upd H d u=H:=by
 funext b
 by_cases e:b=d
 ·subst e;rw[kg,h]
 ·rw[jN e]
def abx{H:Hp}{s:aA}{d:ak}(I:Inv X pins σ H s)(hu:(∃kvs,u=.dT kvs)\/∃kvs,u=.dK kvs)(U:Rd H d u) :
  ∃(ob:Obj) (es:Array DictEntry) (ep:Nat) (xs:List V),s.heap.get? d=some ob/\ob.cls=.type "dict" /\ ob.data=.dict es ep/\(d == sysModules)=false/\es.size=xs.length/\(∀(i:Nat) (x:V) (lt:i<es.size),xs[i]?=some x->RelV x es[i].key)/\abK H u xs:=by
 rcases hu with⟨kvs,rfl⟩|⟨kvs,rfl⟩
 ·obtain⟨ob,es,ep,t,k,f,g,M,m,q,K,J,C⟩:=NL I U;refine⟨ob,es,ep,t.map V.ref,k,f,g,M,by rw[aH,K,q],λi x lt e=>?_,t,rfl,q,C⟩;rw[aO]at e;obtain⟨r,F,rfl⟩:=aX.mp e;have:=J i;rw[dW lt,F]at this;exact aY this
 ·obtain⟨z,O,c,j,N⟩:=vK I.hok U;obtain⟨ob,es,ep,k,f,g,_,m,_⟩:=id N;have B:=UG j;have L:c.length=kvs.length:=by have:=dB List.length B;simpa using this
  have D:es.size=c.length:=by have:=m.length;simpa using this
  refine⟨ob,es,ep,kvs.map (λp:Key×V=>kV p.1),k,f.1,g,O,by rw[aH,D,L],λi x lt e=>?_,rfl⟩;rw[aO]at e;obtain⟨p,G,rfl⟩:=aX.mp e;have hv:i<c.length:=()
  have e1:=pairs_at m i es[i] c[i] (by rw[cO];exact dW lt) (aF hv);have e2:(c.map (·.1))[i]?=(kvs.map (·.1))[i]?:=by rw[B]
  rw[aO,aO,G,aF hv]at e2;have e3:c[i].1=p.1:=aY e2;rw[<- e3];exact e1
def TJ{P:aj}{w:ah}{H H':Hp}{h h':aq}{d:ak}(U:(∃kvs,u=.dT kvs)\/∃kvs,u=.dK kvs)(hn:∀b ys,H b=some (.tup ys)->H' b=some (.tup ys))(J:∀b o,h.get? b=some o->h'.get? b=some o)(ok:kQ P w H h d u):kQ P w H' h' d u:=by
 rcases U with⟨kvs,rfl⟩|⟨kvs,rfl⟩
 ·obtain⟨z,j,xs,c,f,es,ep,e,g⟩:=ok;exact⟨z,j,xs,KT.keeps c hn,f,es,ep,J _ _ e,g⟩
 ·obtain⟨z,j,k,c,f,es,ep,e,g⟩:=ok;exact⟨z,j,k,c,f,es,ep,J _ _ e,g⟩
def Nl{H:Hp}{s:aA}{d:ak}{ob:Obj}(I:Inv X pins σ H s)(U:(∃kvs,u=.dT kvs)\/∃kvs,u=.dK kvs)(J:Rd H d u)(g1:s.heap.get? d=some ob):Inv X pins σ (upd H d<|.frz ob u) s:=by
 rcases J with J|⟨o',J⟩
 ·have c:∀b ys,H b=some (.tup ys)->upd H d (.frz ob u) b=some (.tup ys):=λb ys e=>by
   rw[jN<|Ws e J λz=>by rcases U with⟨_,rfl⟩|⟨_,rfl⟩<;>exact nomatch z];exact e
  exact zl (h':=s.heap) (t':=s.toks) (ob:=.frz ob u) I (by rw[J];rcases U with⟨_,rfl⟩|⟨_,rfl⟩<;>exact True.intro) ⟨rfl,λ_ _=>rfl⟩ ⟨ob,g1⟩ ⟨g1,TJ U c (λ_ _ z=>z)<|I.hok d _ J⟩
 ·have:=(show kQ _ _ H s.heap d (.frz o' u)from I.hok d _ J).1;rw[g1]at this;have f:=(aY this);subst f;rw[N8 J];exact I
def FN{e:aC}{to:TE}(U:PE X e to):PI X tg e (Xp to):=by
 intro pins s σ H R I h;refine mY (U pins s σ H _ I h) λv c h9=>?_;obtain⟨x,H1,I1,r1,d,u,ex,q,p,D⟩:=h9;subst ex
 cases r1
 obtain⟨j,es,ep,xs,f,B,m,M,J,F,C⟩:=abx I1 q p;refine BD ⟨_,f,B⟩ M f m ?_;have k:∀b o,c.heap.get? b=some o->(c.heap.push { cls:=.type "dict_keyiterator",data:=.fields #[.ref d,.int 0 0,.int es.size 0,.int ep 0]}).get? b=some o:=λb o g=>aZ _ g;have K:Inv X pins σ H1 { c with heap:=c.heap.push { cls:=.type "dict_keyiterator",data:=.fields #[.ref d,.int 0 0,.int es.size 0,.int ep 0]}}:=I1.kept (t':=c.toks) k;have L:∀o',H1 d=some (.frz o' u)->o'=j:=λo' z=>by
  have:=(show kQ _ _ H1 c.heap d (.frz o' u)from I1.hok d _ z).1;rw[f]at this;exact(aY this).symm
 have G:=Nl K q p<|k _ _ f;refine⟨c.heap.objs.size,[c.heap.objs.size],_,Itw d j u xs,_,rfl,G,HW d _ m J F,⟨_,bH _ rfl,rfl,rfl⟩,λb t=>?_,D j xs L C⟩;have g:b=c.heap.objs.size:=by simpa using t
 subst g;refine I1.Gk (aR _) ?_;rw[jN<|cV<|bF<|bu f];exact I1.hok.fresh<|aR _
def Xf(J:X.A.units<cLine):pG X (compareOp .NotEq) (λx y H Q=>∃a b kvs,x=.ref a/\y=.ref b/\Rd H a (.dK kvs)/\H b=some (.dK [])/\Q (.bl<|!kvs.isEmpty) H):=by
 kj_on;obtain⟨a,b,kvs,rfl,rfl,j,m,q⟩:=h
 cases rx
 cases ry
 obtain⟨z,C,t,c,B⟩:=vK I.hok j;obtain⟨D,f,k,d,g⟩:=KZ I.hok m
 cases d
 have F:kvs.length=t.length:=c.length;refine PySem.W.keq_ne (r:=true) C f B g J (λe=>?_) ⟨.bl<|!kvs.isEmpty,H,I,?_,q⟩
 ·rw[iG e];exact .nil
 ·cases kvs with
  | nil=>cases c;exact rfl
  | cons p r=>cases c;exact rfl
def Ze{H:Hp}{s:aA}{x:V}{v:af}(I:Inv X pins σ H s)(r:RelV x v)(h:∃a,x=.ref a/\IsD H a):s.TypeIs v "dict" /\ ∀a,v=.ref a->∃ob,s.heap.get? a=some ob/\ob.dict=none:=by
 obtain⟨a,rfl,d⟩:=h
 cases r
 obtain⟨h1,h2,_⟩:=Yk I d;exact⟨h1,h2⟩
end
end L2
namespace Am
open PySem PySem.Spec PyProof.Rows L2
abbrev j8 (S:jD)(n:Nat):Option (List<|Int×A):=match S[n]? with
 | some (.nG kvs)=>some kvs
 | some (.dkf kvs)=>some kvs
 | _=>none
section
variable {K:au}{ρ:bb}{H:Hp}{S:jD}
def vB{n:Nat}{p:ak}(R:Rel K ρ H S)(J:ρ[n]?=some p)(hn:j8 S n=some kvs):∃ks,Rd H p (.dK ks)/\DI K ρ H kvs ks:=by
 unfold j8 at hn;split at hn
 ·rename_i h
  cases hn
  obtain⟨ks,e,d⟩:=R.at n p _ J h;exact⟨ks,.inl e,d⟩
 ·rename_i h
  cases hn
  obtain⟨o,ks,e,d⟩:=R.at n p _ J h;exact⟨ks,.inr ⟨o,e⟩,d⟩
 ·cases hn
def Rel.stl{n:Nat}{a:ak}{ob:Obj}(R:Rel K ρ H S)(ha:ρ[n]?=some a)(hn:n<S.length)(J:Rd H a u)(U:¬Imm u)(fr:∀o',H a=some (.frz o' u)->o'=ob)(new:∀(H':Hp),Ext ρ ρ H H'->H' a=some (.frz ob u)->OR K ρ H' a o') :
  Ext ρ ρ H (upd H a<|.frz ob u)/\Rel K ρ (upd H a<|.frz ob u) (S.set n o'):=by
 have ex:Ext ρ ρ H (upd H a<|.frz ob u):=by
  rcases J with J|⟨o',J⟩
  ·exact⟨⟨eT _,λb j i h=>by
    have:b≠a:=by
     intro z;subst z;rw[J]at h;cases h;exact U i
    rw[jN this];exact h⟩,λb j h nb=>by
    rw[jN λz=>nb<|by rw[z];exact aW ha];exact h,λ_ h=>.inl h⟩
  ·have f:=fr o' J;subst f;rw[N8 J];exact .refl
 refine⟨ex,by rw[cu];exact R.len,R.nd,λm b o h1 h2=>?_⟩;by_cases U:m=n
 ·subst U;rw[ha]at h1;cases h1;rw[bM hn]at h2
  cases h2
  exact new _ ex kg
 ·rw[bL<|cV U]at h2;have nb:b≠a:=λz=>by
   subst z;obtain⟨p,e1⟩:=aG.mp ha;obtain⟨k,e2⟩:=aG.mp h1;exact U<|(cK R.nd).mp<|e2.trans e1.symm
  have:=R.at m b o h1 h2
  cases o with
  | lst ys=>obtain⟨c,d,q⟩:=this;exact⟨c,by rw[jN nb];exact d,q.ext ex⟩
  | dct _|nG _|dks _|dcp _=>obtain⟨c,d,q⟩:=this;exact⟨c,by rw[jN nb];exact d,q.ext ex⟩
  | dcf _|dkf _=>obtain⟨e,c,d,q⟩:=this;exact⟨e,c,by rw[jN nb];exact d,q.ext ex⟩
  | ins _ _=>obtain⟨e,g,d⟩:=this;exact⟨e,g,by rw[jN nb];exact d⟩
def Aq{n:Nat}(h:j8 S n=some kvs):n<S.length:=by
 rcases gh n S.length with z|z
 ·exact z
 ·unfold j8 at h;rw[b7 z]at h;cases h
def OC{n:Nat}(h:kW S n=some kvs):n<S.length:=by
 rcases gh n S.length with z|z
 ·exact z
 ·unfold kW at h;rw[b7 z]at h;cases h
end
section
variable {X:Cx}{pos:Pos}{a b:aC}
abbrev yj (x y:A)(S:jD):R A:=match x,y with
 | .ref n,.int k=>opt (j8 S n) λkvs=>opt (k_ kvs k) λv=>.ok v S
 | _,_=>.no
def Mt{x:A}{P:A->jD->Prop}{E:Str->jD->Prop}(h:(yj x y S).post P E):∃n k kvs v,x=.ref n/\y=.int k/\j8 S n=some kvs/\k_ kvs k=some v/\P v S:=by
 unfold yj at h;split at h
 ·obtain⟨kvs,h1,h⟩:=jG h;obtain⟨v,h2,h⟩:=jG h;exact⟨_,_,kvs,v,rfl,rfl,h1,h2,h⟩
 ·exact h.elim
def ab9(J:X.A.units+64<cLine):Ti X (r2 X yj):=λf c pins s σ H x y v u Q I rx ry ⟨ρ,S,a,b,R,va,vb,h⟩ hs=>by
 obtain⟨n,k,kvs,z,t,j,hn,B,hP⟩:=Mt h;subst t j
 cases vb
 cases va with
 | @ref p _ m=>
  obtain⟨ks,e,d⟩:=vB R m hn;obtain⟨w,hw,q⟩:=(d.look k).2 z B;have g:tO H p (kV<|Sum.inl k) (o5 ks<|Sum.inl k):=.inl ⟨ks,Sum.inl k,e,rfl,rfl⟩;rw[hw]at g;exact zj () f c pins s σ H _ _ v u Q I rx ry ⟨p,w,rfl,g,hP _ _ _ .refl R q⟩ hs
def z0(J:X.A.units+64<cLine){ca cb:Ex}(U:AE X a ca)(hb:AE X b cb)(hs:vA b<|>μ):AE X (.Subscript a b pos) (jO yj ca cb):=PE.imp (GI (ab9 J) U hb hs) λσ H Q h=>qQ h
abbrev dr? (a:A)(S:jD):Option Unit:=match a with
 | .ref n=>if ((j8 S n).isSome || (kW S n).isSome)=true then some Unit.unit else none
 | _=>none
abbrev Ft (f:A->ae->jD->R A)(co:Ex)(d:qc):Ex:=λτ S=>(co τ S).bind λx S1=>opt (dr? x S1) λ_=>(d τ S1).bind λas S2=>f x as S2
def Dy{f:A->ae->jD->R A}{co:Ex}{d:qc}:Ft f co d τ S=(co τ S).bind λx S1=>opt (dr? x S1) λ_=>(d τ S1).bind λas S2=>f x as S2:=rfl
def dr?_ty{K:au}{H:Hp}{x:A}{v:V}(R:Rel K ρ H S)(a:AV K ρ H x v)(e:dr? x S=some u):∃a,v=.ref a/\IsD H a:=by
 cases a with
 | @ref p n h=>
  refine⟨p,rfl,?_⟩
  cases h1:j8 S n with
  | some kvs=>obtain⟨ks,e,_⟩:=vB R h h1;exact .inl ⟨ks,e⟩
  | none=>
   cases h2:kW S n with
   | some kvs=>obtain⟨ks,e,_⟩:=zJ R h h2;exact .inr ⟨ks,e⟩
   | none=>
    have e:(if ((j8 S n).isSome || (kW S n).isSome)=true then some Unit.unit else none)=some u:=e;rw[h1,h2]at e;cases e
 | _=>cases e
def IJ{e:aC}{id:String}{apos cpos:Pos}{f:A->ae->jD->R A}{co:Ex}{d:qc}(slot:Slot "dict" name id)(hty:typeOf (.builtin id)=pure (.type "method_descriptor"))(hm:G_ X id<|rM X f)(ho:AE X o co)(ha:AL X (e::es) d)
  (U:attributeBase o name X.env (eval o X.env)=eval o X.env<|>η)
  (hfew:(((backTo cpos<|starEach (e::es) X.env).all (λx=>!x.1) && (backToKw cpos<|keywordEach [] X.env).all (λx=>x.1.isSome)
   && decide ((e::es).length+([]:List Keyword).length+(if ([]:List Keyword).isEmpty then 0 else 1)<30))=true)<|>η)
  (hline:(apos.endLine == cpos.line)=true<|>η) (hs:starEach (e::es) X.env=(false,eval e X.env)::starEach es X.env<|>η) (J:((backTo cpos<|starEach es X.env).any (·.1)=false)<|>η) :
  AE X (.Call (.Attribute o name apos) (e::es) [] cpos) (Ft f co d):=PE.imp (aa_ Ze gW slot hty hm ho ha U hfew hline hs J) λσ H Q h9=>by
 room;kd_p;obtain⟨xs,c,h1⟩:=jG h1;refine⟨dr?_ty R1 v1 c,ρ1,S1,τ,R1,r.ext e1,jF (jJ h1) e1 λas S2 h2 ρ2 H2 g e2 R2 v2=>?_⟩;kcf_m
abbrev wZ (o:A)(as:ae)(S:jD):R A:=match o,as with
 | .ref n,[.int k,y]=>opt (j8 S n) λkvs=>.ok ((k_ kvs k).getD y) S
 | _,_=>.no
def HR{x:A}{P:A->jD->Prop}{E:Str->jD->Prop}(h:(wZ x as S).post P E):∃n k y kvs,x=.ref n/\as=[.int k,y]/\j8 S n=some kvs/\P ((k_ kvs k).getD y) S:=by
 unfold wZ at h;split at h
 ·obtain⟨kvs,h1,h⟩:=jG h;exact⟨_,_,_,kvs,rfl,rfl,h1,h⟩
 ·exact h.elim
def Qm(U:X.A.units+64<cLine):G_ X "dict.get" (rM X wZ):=λpins s σ H x M v us Q I rx q h9=>by
 mg_lt;obtain⟨n,k,y,kvs,m,has,hn,hP⟩:=HR h;subst m has;obtain⟨G,J,rfl,D,B⟩:=Qk va
 cases D
 cases vo with
 | @ref p _ g=>
  obtain⟨ks,h1,e⟩:=vB R g hn
  cases rx
  obtain⟨K,L,rfl,r1,r2⟩:=vals2 q;refine Ii () I (.inl ⟨ks,Sum.inl k,h1,rfl,rfl⟩) r1 r2 λF s' j d=>⟨_,H,j,d,hP _ _ _ .refl R ?_⟩;obtain⟨c,f⟩:=e.look k
  cases e1:k_ kvs k with
  | none=>
   rw[e1]at c
   cases e2:o5 ks (Sum.inl k:Key)with
   | none=>exact B
   | some _=>rw[e2]at c;cases c
  | some t=>
   obtain⟨v1,e2,C⟩:=f t e1;rw[e2];exact C
abbrev G6 (o:A)(as:ae)(S:jD):R A:=match o,as with
 | .ref n,[.tup xs,y]=>opt (kW S n) λkvs=>opt (A.ints xs) λk=>.ok ((kK kvs k).getD y) S
 | _,_=>.no
def Jj{x:A}{P:A->jD->Prop}{E:Str->jD->Prop}(h:(G6 x as S).post P E):∃n xs y kvs k,x=.ref n/\as=[.tup xs,y]/\kW S n=some kvs/\A.ints xs=some k/\P ((kK kvs k).getD y) S:=by
 unfold G6 at h;split at h
 ·obtain⟨kvs,h1,h⟩:=jG h;obtain⟨k,h2,h⟩:=jG h;exact⟨_,_,_,kvs,k,rfl,rfl,h1,h2,h⟩
 ·exact h.elim
def Xo(hu:X.A.units+64<cLine):G_ X "dict.get" (rM X G6):=λpins s σ H x V v us Q I rx F h9=>by
 mg_lt;obtain⟨n,xs,y,kvs,k,D,has,hn,j,hP⟩:=Jj h;subst D has;obtain⟨N,P,rfl,L,J⟩:=Qk va
 cases L with
 | @tup q _ O f C=>
 cases vo with
 | @ref p _ t=>
  obtain⟨ks,e,g⟩:=F2 R t hn f C j
  cases rx
  obtain⟨T,U,rfl,r1,r2⟩:=vals2 F;refine Ii () I g r1 r2 λM s' B d=>⟨_,H,B,d,hP _ _ _ .refl R ?_⟩;obtain⟨c,m⟩:=e.look k
  cases e1:kK kvs k with
  | none=>
   rw[e1]at c
   cases e2:o5 ks (k.map Sum.inl)with
   | none=>exact J
   | some _=>rw[e2]at c;cases c
  | some G=>
   obtain⟨v1,e2,K⟩:=m G e1;rw[e2];exact K
abbrev acQ (a:A)(S:jD):R Src:=match a with
 | .ref n=>opt (kW S n) λkvs=>.ok (nW<|kvs.map keA) (S.set n<|.dcf kvs)
 | _=>.no
abbrev MX (c:Ex):Ic:=λτ S=>(c τ S).bind λa S1=>acQ a S1
def Bv{e:aC}{c:Ex}(U:AE X e c):AI X tg e (MX c):=λpins s σ H Q I h9=>by
 room;refine FN U pins s σ H Q I ⟨ρ,S,τ,R,r,jF (jJ h) .refl λx S1 h1 ρ1 H1 v e1 R1 v1=>?_⟩
 cases v1 with
 | @ref p n k=>
  obtain⟨kvs,hn,h1⟩:=jG h1;obtain⟨ks,D,f⟩:=zJ R1 k hn;refine⟨p,.dT ks,rfl,.inl ⟨ks,rfl⟩,D,λo xs L N=>?_⟩;obtain⟨d,rfl,pl,j⟩:=N;obtain⟨ex,R2⟩:=R1.stl (o':=.dcf kvs) k (OC hn) D (λz=>z) L λH' e M=>⟨o,ks,M,f.ext e⟩;have dl:=f.length;refine h1 ρ1 _ _ (e1.trans ex) R2 ⟨λi S2 H2 ρ2 y e2 R3 g=>?_,λS2 H2 ρ2 e2 R3 _=>⟨?_,e2.im _ _ trivial kg⟩⟩
  ·have g:(kvs.map keA)[i]?=some y:=g;rw[aO]at g;obtain⟨kv,G,rfl⟩:=aX.mp g;obtain⟨q,t,J,T⟩:=V6 f G;have B:i<d.length:=by rw[pl];exact(aG.mp t).1
   have K:=j i d[i] q (aF B) t;have C:(d.map V.ref)[i]?=some (.ref d[i]):=by rw[aO,aF B];rfl
   refine⟨⟨⟨.ref d[i],C⟩,e2.im _ _ trivial kg⟩,λP H' O=>?_⟩;obtain⟨rfl,F⟩:=O;rw[C]at F
   cases F
   have m:H' d[i]=some (.tup<|q.1.map kV):=e2.im _ _ trivial<|ex.toExt0.im _ _ trivial K;rw[J,zV]at m;exact⟨.refl,R3,.tup m<|qM _⟩
  ·show(kvs.map keA).length=(d.map V.ref).length;rw[aH,aH,dl,pl]
 | _=>exact h1.elim
abbrev ikA (p:Int×A):A:=.int p.1
abbrev adq (a:A)(S:jD):R Src:=match a with
 | .ref n=>opt (j8 S n) λkvs=>.ok (nW<|kvs.map ikA) (S.set n<|.dkf kvs)
 | _=>.no
abbrev Py (c:Ex):Ic:=λτ S=>(c τ S).bind λa S1=>adq a S1
theorem WM{K:au}{H:Hp}:∀{kvs:List<|Int×A}{ks:List<|Key×V}{i:Nat}{p:Int×A},DI K ρ H kvs ks->kvs[i]?=some p->∃q,ks[i]?=some q/\q.1=Sum.inl p.1
 | [],[],_,_,_,h=>by cases h
 | a::kvs,b::ks,0,p,⟨z,_⟩,h=>by cases h;exact⟨b,rfl,z.1⟩
 | a::kvs,b::ks,i+1,p,⟨_,t⟩,h=>WM (kvs:=kvs) (ks:=ks) (i:=i) t<|by simpa using h
def Gv{e:aC}{c:Ex}(U:AE X e c):AI X tg e (Py c):=λpins s σ H Q I h9=>by
 room;refine FN U pins s σ H Q I ⟨ρ,S,τ,R,r,jF (jJ h) .refl λx S1 h1 ρ1 H1 v e1 R1 v1=>?_⟩
 cases v1 with
 | @ref p n j=>
  obtain⟨kvs,hn,h1⟩:=jG h1;obtain⟨ks,m,f⟩:=vB R1 j hn;refine⟨p,.dK ks,rfl,.inr ⟨ks,rfl⟩,m,λo xs D d=>?_⟩;obtain⟨ex,R2⟩:=R1.stl (o':=.dkf kvs) j (Aq hn) m (λz=>z) D λH' e G=>⟨o,ks,G,f.ext e⟩;have dl:=f.length;have d:xs=ks.map λp=>kV p.1:=d;refine h1 ρ1 _ _ (e1.trans ex) R2 ⟨λi S2 H2 ρ2 y e2 R3 g=>?_,λS2 H2 ρ2 e2 R3 _=>⟨?_,e2.im _ _ trivial kg⟩⟩
  ·have g:(kvs.map ikA)[i]?=some y:=g;rw[aO]at g;obtain⟨kv,B,rfl⟩:=aX.mp g;obtain⟨q,F,C⟩:=WM f B;have k:xs[i]?=some (.int kv.1):=by rw[d,aO,F];show some (kV q.1)=_;rw[C];rfl
   refine⟨⟨⟨_,k⟩,e2.im _ _ trivial kg⟩,λK H' J=>?_⟩;obtain⟨rfl,t⟩:=J;rw[k]at t
   cases t
   exact⟨.refl,R3,.int _⟩
  ·show(kvs.map ikA).length=xs.length;rw[d,aH,aH,dl]
 | _=>exact h1.elim
abbrev QG (x y:A)(S:jD):R A:=match x,y with
 | .ref n,.ref m=>opt (j8 S n) λkvs=>opt (kj S m) λc=>gd (c.isEmpty=true) (.ok (.bl<|!kvs.isEmpty) S)
 | _,_=>.no
def M5{x:A}{P:A->jD->Prop}{E:Str->jD->Prop}(h:(QG x y S).post P E):∃n m kvs,x=.ref n/\y=.ref m/\j8 S n=some kvs/\kj S m=some []/\P (.bl<|!kvs.isEmpty) S:=by
 unfold QG at h;split at h
 ·obtain⟨kvs,h1,h⟩:=jG h;obtain⟨c,h2,h⟩:=jG h;obtain⟨h3,h⟩:=j6 h;rw[List.isEmpty_iff.mp h3]at h2;exact⟨_,_,kvs,rfl,rfl,h1,h2,h⟩
 ·exact h.elim
def Z7(J:X.A.units+64<cLine):pG X (compareOp .NotEq) (r2 X QG):=λpins s σ H x y v u Q I rx ry h9=>by
 x_go;obtain⟨n,m,kvs,k,e,hn,t,hP⟩:=M5 h;subst k e
 cases va with
 | @ref p _ j=>
 cases vb with
 | @ref q _ g=>
  obtain⟨ks,h1,f⟩:=vB R j hn;obtain⟨d,h2,c⟩:=R.nG g<|lY t;have e2:d=[]:=by
   have:=c.length;exact iG this.symm
  subst e2;have e3:kvs.isEmpty=ks.isEmpty:=by
   have:=f.length
   cases kvs<;>cases ks<;>first|rfl|(simp at this)
  rw[e3]at hP;exact Xf () pins s σ H _ _ v u Q I rx ry ⟨p,q,ks,rfl,rfl,h1,h2,hP _ _ _ .refl R<|.bl _⟩
def Rel.abT{K:au}{H:Hp}{S:jD}{D:ak}(R:Rel K ρ H S)(J:H D=some (.dK us))(hn:D∉ρ)(r:DI K ρ H xs vs):Ext0 ρ (ρ++[D]) H (upd H D<|.dK vs)/\Rel K (ρ++[D]) (upd H D<|.dK vs) (S++[.nG xs])/\(ρ++[D])[S.length]?=some D:=by
 have ex:Ext0 ρ (ρ++[D]) H (upd H D<|.dK vs):=⟨eW _ _,λb u i h=>by
  have:b≠D:=by
   intro z;subst z;rw[J]at h;cases h;exact i
  rw[jN this];exact h⟩
 have c:(ρ++[D])[S.length]?=some D:=by rw[<- R.len];simp
 refine⟨ex,⟨by simp[R.len],?_,λn a o h1 h2=>?_⟩,c⟩
 ·rw[dw];refine⟨R.nd,by simp,λa g b j e=>?_⟩;have:b=D:=by simpa using j
  exact hn<|by rw[<- this,<- e];exact g
 ·by_cases hs:n<S.length
  ·rw[bB<|by rw[R.len];exact hs]at h1;rw[bB hs]at h2;have na:a≠D:=λz=>hn (by rw[<- z];exact aW h1);have:=R.at n a o h1 h2
   cases o with
   | lst ys=>obtain⟨d,e,q⟩:=this;exact⟨d,by rw[jN na];exact e,AVs.lU ex q⟩
   | dct _|nG _|dks _|dcp _=>obtain⟨d,e,q⟩:=this;exact⟨d,by rw[jN na];exact e,q.lU ex⟩
   | dcf _|dkf _=>obtain⟨f,d,e,q⟩:=this;exact⟨f,d,by rw[jN na];exact e,q.lU ex⟩
   | ins _ _=>obtain⟨f,k,e⟩:=this;exact⟨f,k,by rw[jN na];exact e⟩
  ·have e:n=S.length:=by
    have:=(aG.mp h2).1;simp at this
    lia
   subst e;rw[c]at h1
   cases h1
   simp at h2;subst h2;exact⟨vs,kg,r.lU ex⟩
abbrev ZQ (J cv:Ex):Ex:=λτ S=>(J τ S).bind λk S1=>(cv τ S1).bind λv S2=>match k with
 | .int i=>.ok (.ref S2.length) (S2++[.nG [(i,v)]])
 | _=>.no
abbrev Up (J cv cl U:Ex):Ex:=λτ S=>(J τ S).bind λk S1=>(cv τ S1).bind λv S2=>(cl τ S2).bind λl S3=>(U τ S3).bind λw c=>match k,l with
 | .int i,.int j=>.ok (.ref c.length) (c++[.nG<|rV [(i,v)] j w])
 | _,_=>.no
def Vh{J cv cl U:Ex}:Up J cv cl U τ S=(J τ S).bind λk S1=>(cv τ S1).bind λv S2=>(cl τ S2).bind λl S3=>(U τ S3).bind λw S4=>match k,l with
 | .int i,.int j=>.ok (.ref S4.length) (S4++[.nG<|rV [(i,v)] j w])
 | _,_=>.no:=rfl
def Gr{H H2:Hp}{S:jD}{p:ak}{Q:VK}(J:H p=none)(e:Ext ρ ρ2 (upd H p<|.dK []) H2)(e0:Ext ρ ρ H<|upd H p<|.dK [])(U:p∉ρ)(R2:Rel X.K ρ2 H2 S)(r:DI X.K ρ2 H2 xs vs)
  (h:∀ρ' H' v,Ext ρ ρ' H H'->Rel X.K ρ' H' (S++[.nG xs])->AV X.K ρ' H' (.ref S.length) v->Q v H'):H2 p=some (.dK [])/\Q (.ref p) (upd H2 p<|.dK vs):=by
 have d:H2 p=some (.dK []):=e.fr p _ kg U;have f:p∉ρ2:=λk=>(e.nw p k).elim U λz=>by rw[kg]at z;cases z
 refine⟨d,?_⟩;obtain⟨e3,R3,g⟩:=R2.abT d f r;refine h _ _ _ ⟨⟨(e0.trans e).pre.trans e3.pre,λc u i hc=>e3.im c u i<|(e0.trans e).im c u i hc⟩,λc u hc j=>?_,λc hc=>?_⟩ R3 (.ref g)
 ·rw[jN<|jV hc J];exact(e0.trans e).fr c u hc j
 ·rcases bz.mp hc with z|z
  ·exact(e0.trans e).nw c z
  ·have:c=p:=by simpa using z
   rw[this];exact .inr J
def Yj{k v:aC}{J cv:Ex}(U:AE X k J)(hv:AE X v cv):AE X (.Dict [some k] [v] pos) (ZQ J cv):=PE.imp (JT (Aa U hv Km) rfl rfl (by simp)<|show 1<=15 by decide) λσ H Q ⟨ρ,S,τ,R,r,h⟩ p d=>by
 obtain⟨e0,g⟩:=R.im (u:=.dK []) d;have j:p∉ρ:=R.Gy d;refine⟨ρ,S,τ,g,r.ext e0,jF (jJ h) e0 λa S1 h1 ρ1 H1 x e1 R1 v1=>⟨ρ1,S1,τ,R1,(r.ext e0).ext e1,jF (jJ h1) (e0.trans e1) λb S2 h2 ρ2 H2 y e2 R2 v2=>?_⟩⟩;have c:=e1.trans e2
 cases v1.ext e2 with
 | int i=>
  obtain⟨e,f⟩:=Gr (xs:=[(i,b)]) (vs:=[(Sum.inl i,y)]) d c e0 j R2 ⟨⟨rfl,v2⟩,trivial⟩ h2;exact⟨e,[(Sum.inl i,y)],rfl,(show 1<=15 by decide),f⟩
 | _=>exact h2.elim
def Xd{k v l w:aC}{U cv cl cw:Ex}(hk:AE X k U)(hv:AE X v cv)(hl:AE X l cl)(hw:AE X w cw):AE X (.Dict [some k,some l] [v,w] pos) (Up U cv cl cw):=PE.imp (JT (Aa hk hv<|Aa hl hw Km) rfl rfl (by simp)<|show 2<=15 by decide) λσ H Q ⟨ρ,S,τ,R,r,h⟩ p g=>by
 obtain⟨e0,J⟩:=R.im (u:=.dK []) g;have L:p∉ρ:=R.Gy g;refine⟨ρ,S,τ,J,r.ext e0,jF (jJ h) e0 λa S1 h1 ρ1 H1 x e1 R1 v1=>⟨ρ1,S1,τ,R1,(r.ext e0).ext e1,jF (jJ h1) (e0.trans e1) λb S2 h2 ρ2 H2 y e2 R2 v2=>?_⟩⟩;have e:=e1.trans e2;refine⟨ρ2,S2,τ,R2,(r.ext e0).ext e,jF (jJ h2) (e0.trans e) λc S3 h3 ρ3 H3 N e3 R3 F=>⟨ρ3,S3,τ,R3,((r.ext e0).ext e).ext e3,jF (jJ h3) ((e0.trans e).trans e3) λd M m C O q t G K=>?_⟩⟩;have f:=e3.trans t
 cases v1.ext (e2.trans f)with
 | int i=>
  cases F.ext t with
  | int j=>
   obtain⟨B,D⟩:=Gr (xs:=rV [(i,b)] j d) (vs:=putK [(Sum.inl i,y)] (Sum.inl j) q) g (e.trans f) e0 L G (DI.put K j ⟨⟨rfl,v2.ext f⟩,trivial⟩) m;exact⟨B,[(Sum.inl i,y),(Sum.inl j,q)],rfl,(show 2<=15 by decide),D⟩
  | _=>exact m.elim
 | _=>exact m.elim
end
end Am
namespace L2
open PySem PySem.Spec PyProof.Rows
section
variable {X:Cx}
def B6(hc:X.calm=true):ko X (.builtin "sorted") (λxs H Q=>∃(d:ak) (kvs:List<|Key×V) (ns:ag),xs=[.ref d]/\Rd H d (.dK kvs)/\kvs.map (λp=>p.1)=ns.map Sum.inl/\Sx.RO ns.length /\
  ∀l g,H l=none->Sx.Cl g 0 ns.length->Sx.So (Sv ns) g 0 ns.length->Q (.ref l) (upd H l<|.lst<|(List.range ns.length).map λi=>V.int<|ns.getD (g i) 0)):=by
 w_up;obtain⟨d,kvs,ns,rfl,t,D,M,q⟩:=h;kcj_m
 cases rx
 obtain⟨z,hd,k,f,C⟩:=vK I.hok t;obtain⟨ep,B⟩:=C.dictAt;have N:kvs.length=k.length:=f.length;have L:k.map (·.1)=kvs.map (·.1):=by
  clear D z C B N t;unfold KV at f
  induction f with
  | nil=>rfl
  | cons h _ F=>rw[bE,bE,F,h.1]
 kln_w;unfold Builtin.«sorted»;refine aP (m:=checkCount "sorted" 1 1 _)<|bf ?_;refine aP<|gz (PySem.W.kdl_dict hd) (show X.A.in1.handled=none from I.ok.hd hc) B () λh' K acc G c=>?_;have J:acc.toList.length=k.length:=by rw[dQ];exact c.1
 exact AR (s:=s) (I.kept (t':=K) G) M (CQ (P:=X.prog) (w:=X.w) (L.trans D) J λj v e=>c.2 j v<|by rw[cO]at e;exact e) () q
end
end L2
namespace Am
open PySem PySem.Spec PyProof.Rows L2
section
variable {X:Cx}
abbrev zI (x:A)(S:jD):R A:=match x with
 | .ref n=>opt (j8 S n) λkvs=>.ok (.ref S.length) (S++[.lst<|(sortI<|kvs.map Prod.fst).map .int])
 | _=>.no
def Oa(hc:X.calm=true):ko X (.builtin "sorted") (rN X<|f1 zI):=ko.imp (B6 hc) λk H Q h0=>by
 kt_k;clear h0
 cases hv with
 | ref j=>
  rename_i p n;kst_p;obtain⟨ks,f,d⟩:=vB R j hn;refine⟨p,ks,kvs.map Prod.fst,rfl,f,by rw[d.keys,bq];rfl,Sx.Eb _,λl g c hc hs=>?_⟩;have e:AVs X.K ρ H ((sortI<|kvs.map Prod.fst).map .int) ((List.range (kvs.map Prod.fst).length).map λi=>V.int<|(kvs.map Prod.fst).getD (g i) 0):=by
   rw[<- JA hc hs,bq];exact Ac λi _=>.int _
  exact oQ R e .refl h l c
 | _=>exact h.elim
end
section
variable {X:Cx}
abbrev Ik (o:A)(as:ae)(S:jD):R A:=match o,as with
 | .ref n,[]=>opt (jE S n) λxs=>.ok .non (S.set n<|.lst [])
 | _,_=>.no
def UN:G_ X "list.clear" (rM X Ik):=λpins s σ H x B v us Q I rx g h9=>by
 mg_lt
 cases vo with
 | @ref p n d=>
  match as,va,h with
  | _::_,_,h=>exact h.elim
  | [],va,h=>
   cases va
   kpc_g;obtain⟨m,h1,r⟩:=R.lst d<|jS hn;obtain⟨ex,f⟩:=R.put d (jS hn) .nil
   cases rx
   cases g
   obtain⟨j,c,k,q,t,e⟩:=I.My h1;refine gJ F.slot_list_clear ⟨_,e,rfl⟩ F.entry_list_clear (F.args_list_clear_1 _) (AutoSeq1.list_clear_list_0 p c.toArray k<|by rw[bh];lia) ⟨e,?_⟩;exact⟨.non,_,I.YF (its':=[]) h1 e rfl .nil<|by simp,rfl,h _ _ _ ex f .non⟩
 | _=>exact h.elim
end
end Am
namespace K40
open PySem L2 Am
abbrev top (i:Nat):aE:=PySem.Challenge.pw_undercells_k40_kept_sums.main.body.getD i<|.Pass ⟨0,0,0,0⟩
meta abbrev wg:aE:=top 6
meta abbrev wK:ar:=["thing"]
meta abbrev wR:ar:=["thing"]
abbrev v5:Sm:=
 lX (tZ (jZ (f2 vU)<|jA (jB 0)<|jA (eC<|.ty "int") jL)<|UZ<|jZ (f2 vU)<|jA (jB 0)<|jA (eC<|.ty "bool") jL)
abbrev qJ:ae->jD->R A:=lC wK v5
meta abbrev uW:aE:=top 7
meta abbrev uh:ar:=["one", "other"]
meta abbrev uO:ar:=["one", "other"]
abbrev ur:Sm:=
 yU (wV<|jO (vN true) (jZ (f1 tu)<|jA (jB 0) jL)<|jZ (f1 tu)<|jA (jB 1) jL)
 (sNo)
 qu
abbrev pR:ae->jD->R A:=lC uh ur
meta abbrev rJ:aE:=top 8
meta abbrev rD:ar:=["n", "thing"]
meta abbrev rX:ar:=["n", "thing"]
abbrev rC:Sm:=
 lX (tZ (eFn qJ<|jA (jB 1) jL)<|Z2 aLe Z0 (eC<|.int 1) (jB 1)<|jB 0)
abbrev nH:ae->jD->R A:=lC rD rC
meta abbrev nX:aE:=top 9
meta abbrev nY:ar:=["order", "i", "j", "things"]
meta abbrev nS:ar:=["order", "i", "j"]
abbrev nQ:Sm:=
 j9 (kI (jZ (f1 yQ)<|jA (jB 0) jL)<|kh 3)
 (j9 (kI (qP<|jA (jO u5 (jB 3)<|jO aSub (jB 2)<|eC<|.int 1)<|jA (jO u5 (jB 3)<|jO aSub (jB 1)<|eC<|.int 1) jL)<|y_ 2<|qw (Z4 (jB 3)<|jO aSub (jB 1)<|eC<|.int 1)<|qw (Z4 (jB 3)<|jO aSub (jB 2)<|eC<|.int 1) za)
 (lX<|jZ (f1 yG)<|jA (jB 3) jL))
abbrev lG:ae->jD->R A:=lC nY nQ
meta abbrev ux:aE:=top 10
meta abbrev uC:ar:=["order", "k"]
meta abbrev rf:ar:=["order", "k"]
abbrev t7:Sm:=
 j9 (yU (B5<|tY<|eFn nH<|jA (jZ (f1 tu)<|jA (jB 0) jL)<|jA (jB 1) jL)
 (sNo)
 qu)
 (lX<|eFn lG<|jA (jB 0)<|jA (jB 1)<|jA (jO mE (jB 1)<|eC<|.int 1) jL)
abbrev mZ:ae->jD->R A:=lC uC t7
meta abbrev Ez:aE:=top 11
meta abbrev D8:ar:=["order"]
meta abbrev vq:ar:=["order"]
abbrev DO:Sm:=
 lX (kF [none,some 0] (vI (eC<|.int 1)<|jZ (f1 tu)<|jA (jB 0) jL) (kh 0) (wV<|jO Sw (jO u5 (jB 1)<|jO aSub (jB 0)<|eC<|.int 1)<|jO u5 (jB 1)<|jB 0)<|jB 0)
abbrev pH:ae->jD->R A:=lC D8 DO
meta abbrev p5:aE:=top 13
meta abbrev pV:ar:=["numbers"]
meta abbrev nL:ar:=["numbers"]
abbrev pY:Sm:=
 lX (kF [none,some 0] (lV<|jZ (f1 AZ)<|jA (jB 0) jL) (kh 0) (wV<|jO (vN true) (jO An (jB 1)<|jB 0)<|eC<|.int 0)<|qP<|jA (jB 0)<|jA (jO An (jB 1)<|jB 0) jL)
abbrev kU:ae->jD->R A:=lC pV pY
meta abbrev Jb:aE:=top 14
meta abbrev Ij:ar:=["one", "other", "numbers", "power", "number"]
meta abbrev Jh:ar:=["one", "other"]
abbrev wY:Ic:=
 lV (jB 1)
abbrev Gp:Sm:=
 kI (jO mE (Hw vO (jB 2)<|jA (jB 3)<|jA (eC<|.int 0) jL)<|jB 4) (Fv (jB 2)<|jB 3)
abbrev I_:Sm:=
 j9 (kI (jZ (f1 Dq)<|jA (jB 0) jL)<|kh 2)
 (j9 (lO wY (y_ 2<|qw (kh 3)<|qw (kh 4) za)
 Gp)
 (lX<|eFn kU<|jA (jB 2) jL))
abbrev Bo:ae->jD->R A:=lC Ij I_
meta abbrev DN:aE:=top 15
meta abbrev Ff:ar:=["one", "other", "numbers", "power", "number", "high", "many"]
meta abbrev zh:ar:=["one", "other"]
abbrev Mz:Ic:=
 lV (jB 1)
abbrev Mr:Sm:=
 kI (jO mE (Hw vO (jB 2)<|jA (jO mE (jB 3)<|jB 5)<|jA (eC<|.int 0) jL)<|jO FP (jB 4)<|jB 6) (Fv (jB 2)<|jO mE (jB 3)<|jB 5)
abbrev C4:Ic:=
 lV (jB 0)
abbrev Cc:Sm:=
 lO Mz (y_ 2<|qw (kh 5)<|qw (kh 6) za)
 Mr
abbrev DC:Sm:=
 j9 (kI x_<|kh 2)
 (j9 (lO C4 (y_ 2<|qw (kh 3)<|qw (kh 4) za)
 Cc)
 (lX<|eFn kU<|jA (jB 2) jL))
abbrev sJ:ae->jD->R A:=lC Ff DC
meta abbrev sL:aE:=top 18
meta abbrev sG:ar:=["found", "order", "poly"]
meta abbrev oK:ar:=["found", "order", "poly"]
abbrev sQ:Sm:=
 kI (eFn Bo<|jA (YH YI (jB 0)<|jA (jB 1)<|jA (vW jL) jL)<|jA (jB 2) jL) (BS (jB 0)<|jB 1)
abbrev kG:ae->jD->R A:=lC sG sQ
meta abbrev AD:aE:=top 19
meta abbrev Bw:ar:=["found"]
meta abbrev uc:ar:=["found"]
abbrev Ao:Sm:=
 lX (kF [none,some 0] (lV<|jZ (f1 EH)<|jA (jB 0) jL) (kh 0) (tY<|jO yY (jB 1)<|jB 0)<|qP<|jA (jB 0)<|jA (jO yY (jB 1)<|jB 0) jL)
abbrev oJ:ae->jD->R A:=lC Bw Ao
meta abbrev uA:aE:=top 20
meta abbrev uR:ar:=["one", "other"]
meta abbrev uQ:ar:=["one", "other"]
abbrev uL:Sm:=
 yU (Hl (tY<|jB 0)<|tY<|jB 1)
 (pQ<|eFn pR<|jA (jO u5 (jO u5 (jB 0)<|eC<|.int 0)<|eC<|.int 0)<|jA (jO u5 (jO u5 (jB 1)<|eC<|.int 0)<|eC<|.int 0) jL)
 qu
abbrev pP:ae->jD->R A:=lC uR uL
meta abbrev Fc:aE:=top 21
meta abbrev DR:ar:=["one", "other", "found", "order", "poly"]
meta abbrev EO:ar:=["one", "other"]
abbrev vj:Ic:=
 lV (jO mE (jB 0)<|jB 1)
abbrev Ct:Sm:=
 pQ (eFn kG<|jA (jB 2)<|jA (jB 3)<|jA (jB 4) jL)
abbrev DE:Sm:=
 j9 (pQ<|eFn pP<|jA (jB 0)<|jA (jB 1) jL)
 (j9 (kI uB<|kh 2)
 (j9 (lO vj (y_ 2<|qw (kh 3)<|qw (kh 4) za)
 Ct)
 (lX<|eFn oJ<|jA (jB 2) jL)))
abbrev tF:ae->jD->R A:=lC DR DE
meta abbrev Ad:aE:=top 22
meta abbrev BC:ar:=["poly", "one", "found", "order", "many"]
meta abbrev AO:ar:=["poly", "one"]
abbrev tN:Ic:=
 lV (jB 1)
abbrev sM:Sm:=
 pQ (eFn kG<|jA (jB 2)<|jA (jB 3)<|jA (eFn sJ<|jA (jB 0)<|jA (jB 4) jL) jL)
abbrev Bb:Sm:=
 j9 (kI uB<|kh 2)
 (j9 (lO tN (y_ 2<|qw (kh 3)<|qw (kh 4) za)
 sM)
 (lX<|eFn oJ<|jA (jB 2) jL))
abbrev qF:ae->jD->R A:=lC BC Bb
meta abbrev rG:aE:=top 23
meta abbrev rH:ar:=["one", "k", "found", "order", "poly"]
meta abbrev rR:ar:=["one", "k"]
abbrev nN:Ic:=
 lV (jB 0)
abbrev mL:Sm:=
 j9 (pQ<|eFn kG<|jA (jB 2)<|jA (eFn mZ<|jA (jB 3)<|jA (jB 1) jL)<|jA (jB 4) jL)
 (yU (wV<|jO (aIn false) (jB 1)<|eFn pH<|jA (jB 3) jL)
 (pQ<|eFn kG<|jA (jB 2)<|jA (jB 3)<|jA (eFn sJ<|jA (jZ (f1 yQ)<|jA (eC<|.frz<|[((-1:Int),(1:Int)),((1:Int),(-1:Int))].map kA) jL)<|jA (jB 4) jL) jL)
 qu)
abbrev rP:Sm:=
 j9 (kI uB<|kh 2)
 (j9 (lO nN (y_ 2<|qw (kh 3)<|qw (kh 4) za)
 mL)
 (lX<|eFn oJ<|jA (jB 2) jL))
abbrev mP:ae->jD->R A:=lC rH rP
meta abbrev wC:aE:=top 26
meta abbrev wz:ar:=["order"]
meta abbrev wG:ar:=["order"]
abbrev wI:Sm:=
 yU (wV<|jO Sw (jZ (f1 tu)<|jA (jB 0) jL)<|eC<|.int 5)
 (sNo)
 qu
abbrev qN:ae->jD->R A:=lC wz wI
meta abbrev p9:aE:=top 27
meta abbrev p7:ar:=["poly"]
meta abbrev p6:ar:=["poly"]
abbrev pS:Sm:=
 lX (Hw vO (jZ (f1 Dq)<|jA (jB 0) jL)<|jA (eC<|.int 1)<|jA (eC<|.int 0) jL)
abbrev mJ:ae->jD->R A:=lC p7 pS
meta abbrev qx:aE:=top 29
meta abbrev kP:ar:=["order", "k", "known", "less", "told", "lower", "poly", "number"]
meta abbrev m_:ar:=["order", "k", "known"]
abbrev pC (Fs:ae->jD->R A):Ic:=
 lV (jB 3)
abbrev ni (Fs:ae->jD->R A):Sm:=
 j9 (kI (eFn mJ<|jA (jB 6) jL)<|kh 7)
 (yU (Hl (wV<|jO (vN true) (jB 7)<|eC<|.int 0)<|wV<|jO (aIn false) (jB 1)<|eFn pH<|jA (jB 5) jL)
 (kI (eFn tF<|jA (jB 4)<|jA (eFn qF<|jA (vW<|jA (qP<|jA (eC<|.int 0)<|jA (Z1 G7<|jB 7) jL) jL)<|jA (eFn Fs<|jA (jB 5)<|jA (jB 2) jL) jL) jL)<|kh 4)
 qu)
abbrev kO (Fs:ae->jD->R A):Sm:=
 j9 (kI (eFn Fs<|jA (eFn mZ<|jA (jB 0)<|jA (jB 1) jL)<|jA (jB 2) jL)<|kh 3)
 (j9 (kI (eFn tF<|jA (eFn mP<|jA (jB 3)<|jA (jB 1) jL)<|jA (eFn qF<|jA (vW<|jA (qP<|jA (eC<|.int 1)<|jA (eC<|.int 1) jL) jL)<|jA (jB 3) jL) jL)<|kh 4)
 (j9 (lO (pC Fs) (y_ 2<|qw (kh 5)<|qw (kh 6) za)
 (ni Fs))
 (lX<|jB 4)))
meta abbrev qj:aE:=top 28
meta abbrev oS:ar:=["order", "known", "ends"]
meta abbrev lQ:ar:=["order", "known"]
abbrev oO (Fs:ae->jD->R A):Sm:=
 j9 (yU (wV<|jO (HL true) (jB 0)<|jB 1)
 (j9 (kI (eFn pH<|jA (jB 0) jL)<|kh 2)
 (yU (tY<|jB 2)
 (kI (eFn (lC kP<|kO Fs)<|jA (jB 0)<|jA (jO u5 (jB 2)<|eC<|.int 0)<|jA (jB 1) jL)<|BS (jB 1)<|jB 0)
 (kI (vW<|jA (qP<|jA (jB 0)<|jA (vW<|jA (qP<|jA (eC<|.int 0)<|jA (eC<|.int 1) jL) jL) jL) jL)<|BS (jB 1)<|jB 0)))
 qu)
 (lX<|jO yY (jB 1)<|jB 0)
abbrev mQ:Nat->ae->jD->R A
 | 0=>λ_ _=>.no
 | k+1=>lC oS<|oO<|mQ k
abbrev tD:ae->jD->R A:=mQ 12
meta abbrev wu:aE:=top 30
meta abbrev wc:ar:=["order"]
meta abbrev wm:ar:=["order"]
abbrev v8:Sm:=
 j9 (pQ<|eFn qN<|jA (jB 0) jL)
 (lX<|eFn tD<|jA (jB 0)<|jA uB jL)
abbrev nU:ae->jD->R A:=lC wc v8
meta abbrev vR:aE:=top 32
meta abbrev wO:ar:=["_law_script", "_law_k"]
meta abbrev wN:ar:=["_law_script", "_law_k"]
abbrev wD:Sm:=
 j9 (yU (wV<|jO Z0 (jB 1)<|jZ (f1 tu)<|jA (jB 0) jL)
 (lX<|jO u5 (jB 0)<|jB 1)
 qu)
 (lX<|eC<|.int 0)
abbrev nP:ae->jD->R A:=lC wO wD
meta abbrev xZ:aE:=top 33
meta abbrev yh:ar:=["_law_cell_here", "_law_place", "_law_far"]
meta abbrev yE:ar:=["_law_cell_here", "_law_place"]
abbrev yH:Sm:=
 j9 (kI (jZ (f1 Xn)<|jA (jB 0) jL)<|kh 2)
 (j9 (yU (wV<|jO Z0 (jB 2)<|jO Zq (eC<|.int 10)<|eC<|.int 18)
 (kI (eC<|.int 0)<|kh 2)
 qu)
 (lX<|vW<|jA (jB 2)<|jA (jO DG (jO mE (jO mE (jO BP (jO DG (jB 0)<|eC<|.int 2147483647)<|eC<|.int 69621)<|jO BP (eC<|.int 7919)<|jB 1)<|eC<|.int 13)<|eC<|.int 2147483647) jL))
abbrev pF:ae->jD->R A:=lC yh yH
meta abbrev t9:aE:=top 34
meta abbrev uv:ar:=["_law_bag_here"]
meta abbrev uI:ar:=["_law_bag_here"]
abbrev uX:Sm:=
 j9 (kI (jO DG (jO mE (jO BP (jO u5 (jB 0)<|eC<|.int 1)<|eC<|.int 48271)<|eC<|.int 11)<|eC<|.int 2147483647)<|Z4 (jB 0)<|eC<|.int 1)
 (lX<|jO J_ (jO DG (jO BP (jO u5 (jB 0)<|eC<|.int 1)<|eC<|.int 16807)<|eC<|.int 2147483629)<|eC<|.int 8)
abbrev n9:ae->jD->R A:=lC uv uX
meta abbrev uY:aE:=top 35
meta abbrev qV:ar:=["_law_bag_here", "_law_many", "_law_found", "_law_k"]
meta abbrev rj:ar:=["_law_bag_here", "_law_many"]
abbrev BZ:Ic:=
 Au (eC<|.int 7)
abbrev BY:Sm:=
 kI (jO mE (jO BP (jB 2)<|eC<|.int 268435399)<|eFn n9<|jA (jB 0) jL) (kh 2)
abbrev qY:Sm:=
 j9 (yU (wV<|jO Sw (jO u5 (jB 0)<|eC<|.int 0)<|eC<|.int 0)
 (j9 (kI (jO DG (jO u5 (jB 0)<|eC<|.int 0)<|jB 1)<|kh 2)
 (j9 (kI (jO J_ (jO u5 (jB 0)<|eC<|.int 0)<|jB 1)<|Z4 (jB 0)<|eC<|.int 0)
 (lX<|jB 2)))
 qu)
 (j9 (kI (eFn n9<|jA (jB 0) jL)<|kh 2)
 (j9 (yU (wV<|jO Sw (jB 1)<|eC<|.int 1000)
 (lO BZ (kh 3)
 BY)
 qu)
 (lX<|jO DG (jB 2)<|jB 1)))
abbrev ly:ae->jD->R A:=lC qV qY
meta abbrev uU:aE:=top 36
meta abbrev uf:ar:=["_law_bag_here", "_law_n", "_law_left", "_law_found", "_law_k"]
meta abbrev um:ar:=["_law_bag_here", "_law_n"]
abbrev BU:Ic:=
 Au (jB 1)
abbrev vM:Sm:=
 pQ (eMe zR (jB 3)<|jA (eMe IY (jB 2)<|jA (eFn ly<|jA (jB 0)<|jA (jZ (f1 tu)<|jA (jB 2) jL) jL) jL) jL)
abbrev ug:Sm:=
 j9 (kI (jZ (f1 yQ)<|jA (jZ (f2 DW)<|jA (eC<|.int 1)<|jA (jO mE (jB 1)<|eC<|.int 1) jL) jL)<|kh 2)
 (j9 (kI (vW jL)<|kh 3)
 (j9 (lO BU (kh 4)
 vM)
 (lX<|jZ (f1 yG)<|jA (jB 3) jL)))
abbrev n5:ae->jD->R A:=lC uf ug
meta abbrev rq:aE:=top 37
meta abbrev rL:ar:=["_law_order_here", "_law_k"]
meta abbrev pI:ar:=["_law_order_here", "_law_k"]
abbrev rK:Sm:=
 lX (jZ (f1 yG)<|jA (kF [none,some 1] (lV<|jB 0) (kh 0) oW<|Ft wZ (Up (jB 1) (jO mE (jB 1)<|eC<|.int 1) (jO mE (jB 1)<|eC<|.int 1)<|jB 1)<|jA (jB 0)<|jA (jB 0) jL) jL)
abbrev lW:ae->jD->R A:=lC rL rK
meta abbrev yo:aE:=top 38
meta abbrev yJ:ar:=["_law_found", "_law_order_here", "_law_poly", "_law_shift", "_law_many", "_law_here", "_law_power"]
meta abbrev vh:ar:=["_law_found", "_law_order_here", "_law_poly", "_law_shift", "_law_many"]
abbrev uD:Ic:=
 Py (jB 2)
abbrev rm:Sm:=
 kI (jO mE (Hw vO (jB 5)<|jA (jO mE (jB 6)<|jB 3)<|jA (eC<|.int 0) jL)<|jO FP (jB 4)<|jO yj (jB 2)<|jB 6) (Fv (jB 5)<|jO mE (jB 6)<|jB 3)
abbrev yg:Sm:=
 j9 (kI (Ft G6 (jB 0)<|jA (jB 1)<|jA x_ jL)<|kh 5)
 (j9 (lO uD (kh 6)
 rm)
 (kI (jB 5)<|BS (jB 0)<|jB 1))
abbrev mO:ae->jD->R A:=lC yJ yg
meta abbrev mT:aE:=top 39
meta abbrev mU:ar:=["_law_poly", "_law_kept_here", "_law_power"]
meta abbrev lI:ar:=["_law_poly"]
abbrev l9:Ic:=
 Py (jB 0)
abbrev lZ:Sm:=
 yU (wV<|jO (vN true) (jO yj (jB 0)<|jB 2)<|eC<|.int 0)
 (kI (jO yj (jB 0)<|jB 2)<|Fv (jB 1)<|jB 2)
 qu
abbrev mS:Sm:=
 j9 (kI x_<|kh 1)
 (j9 (lO l9 (kh 2)
 lZ)
 (lX<|jB 1))
abbrev kC:ae->jD->R A:=lC mU mS
meta abbrev tB:aE:=top 40
meta abbrev qC:ar:=["_law_order_here", "_law_known", "_law_ways", "_law_made", "_law_k", "_law_base", "_law_one", "_law_down", "_law_lower", "_law_low", "_law_found", "_law_some"]
meta abbrev o6:ar:=["_law_order_here", "_law_known"]
abbrev qf (Fs:ae->jD->R A):Ic:=
 MX (jB 8)
abbrev qt (Fs:ae->jD->R A):Sm:=
 pQ (eFn mO<|jA (jB 3)<|jA (jB 9)<|jA (jO w6 (jB 8)<|jB 9)<|jA (eC<|.int 0)<|jA (jO aSub (eC<|.int 0)<|jO yj (jO w6 (jB 5)<|jB 6)<|eC<|.int 1) jL)
abbrev sO (Fs:ae->jD->R A):Ic:=
 MX (jB 5)
abbrev oN (Fs:ae->jD->R A):Sm:=
 j9 (kI (jO Sw (Bu (jB 6)<|jA (jB 4) jL)<|Bu (jB 6)<|jA (jO mE (jB 4)<|eC<|.int 1) jL)<|kh 7)
 (j9 (pQ<|eFn mO<|jA (jB 3)<|jA (eFn lW<|jA (jB 6)<|jA (jB 4) jL)<|jA (jO w6 (jB 5)<|jB 6)<|jA (eC<|.int 0)<|jA (eC<|.int 1) jL)
 (j9 (pQ<|eFn mO<|jA (jB 3)<|jA (jB 6)<|jA (jO w6 (jB 5)<|jB 6)<|jA (jO u5 (vW<|jA (eC<|.int 1)<|jA (Z1 G7<|eC<|.int 1) jL)<|jZ (f1 FY)<|jA (jB 7) jL)<|jA (eC<|.int 1) jL)
 (yU (Hl (tY<|jB 7)<|wV<|jO (vN true) (Ft wZ (jO w6 (jB 5)<|jB 6)<|jA (eC<|.int 1)<|jA (eC<|.int 0) jL)<|eC<|.int 0)
 (j9 (kI (eFn Fs<|jA (jB 6)<|jA (jB 1) jL)<|kh 8)
 (lO (qf Fs) (kh 9)
 (qt Fs)))
 qu)))
abbrev qh (Fs:ae->jD->R A):Ic:=
 MX (jB 3)
abbrev qk (Fs:ae->jD->R A):Sm:=
 j9 (kI (eFn kC<|jA (jO w6 (jB 3)<|jB 6) jL)<|kh 11)
 (yU (wV<|jO QG (jB 11) x_)
 (kI (jB 11)<|BS (jB 10)<|jB 6)
 qu)
abbrev qA (Fs:ae->jD->R A):Sm:=
 j9 (yU (wV<|jO (HL false) (jB 0)<|jB 1)
 (lX<|jO yY (jB 1)<|jB 0)
 qu)
 (j9 (kI (kF [none,some 0] (vI (eC<|.int 1)<|jZ (f1 tu)<|jA (jB 0) jL) (kh 0) (wV<|jO Sw (Bu (jB 1)<|jA (jB 0) jL)<|Bu (jB 1)<|jA (jO mE (jB 0)<|eC<|.int 1) jL)<|jB 0)<|kh 2)
 (j9 (kI uB<|kh 3)
 (j9 (yU (wV<|jO (vN false) (jB 2)<|vW jL)
 (kI (ZQ (eC<|.int 0)<|eC<|.int 1)<|BS (jB 3)<|jB 0)
 (j9 (kI (jO u5 (jB 2)<|Z1 G7<|eC<|.int 1)<|kh 4)
 (j9 (kI (eFn Fs<|jA (eFn lW<|jA (jB 0)<|jA (jB 4) jL)<|jA (jB 1) jL)<|kh 5)
 (lO (sO Fs) (kh 6)
 (oN Fs)))))
 (j9 (kI uB<|kh 10)
 (j9 (lO (qh Fs) (kh 6)
 (qk Fs))
 (j9 (kI (jB 10)<|BS (jB 1)<|jB 0)
 (lX<|jB 10)))))))
abbrev mj:Nat->ae->jD->R A
 | 0=>λ_ _=>.no
 | k+1=>lC qC<|qA<|mj k
abbrev qE:ae->jD->R A:=mj 12
meta abbrev wJ:aE:=top 41
meta abbrev wj:ar:=["_law_poly"]
meta abbrev wL:ar:=["_law_poly"]
abbrev wk:Sm:=
 lX (kF [none,some 0] (lV<|jZ (f1 zI)<|jA (jB 0) jL) (kh 0) oW<|qP<|jA (jB 0)<|jA (jO yj (jB 1)<|jB 0) jL)
abbrev o8:ae->jD->R A:=lC wj wk
meta abbrev yD:aE:=top 42
meta abbrev yd:ar:=["_law_some"]
meta abbrev yv:ar:=["_law_some"]
abbrev yt:Sm:=
 lX (kF [none,some 0] (lV<|jZ (f1 EF)<|jA (jB 0) jL) (kh 0) oW<|qP<|jA (jB 0)<|jA (eFn o8<|jA (jO w6 (jB 1)<|jB 0) jL) jL)
abbrev o9:ae->jD->R A:=lC yd yt
meta abbrev uq:aE:=top 43
meta abbrev uK:ar:=["_law_thing"]
meta abbrev qZ:ar:=["_law_thing"]
abbrev uZ:Sm:=
 lX (tZ (jZ (f2 vU)<|jA (jB 0)<|jA (eC<|.ty "int") jL)<|UZ<|jZ (f2 vU)<|jA (jB 0)<|jA (eC<|.ty "bool") jL)
abbrev kJ:ae->jD->R A:=lC uK uZ
meta abbrev rz:aE:=top 44
meta abbrev rQ:ar:=["_law_found", "_law_due"]
meta abbrev rW:ar:=["_law_found", "_law_due"]
abbrev rE:Sm:=
 j9 (yU (ZY (B5<|tY<|jZ (f2 vU)<|jA (jB 0)<|jA (eC<|.ty "list") jL)<|B5<|tY<|jZ (f1 A8)<|jA (kF [none] (lV<|jB 0) (kh 0) oW<|tZ (jZ (f2 vU)<|jA (jB 0)<|jA (eC<|.ty "tuple") jL)<|jO (vN false) (jZ (f1 tu)<|jA (jB 0) jL)<|eC<|.int 2) jL)
 (lX<|eC<|.bl false)
 qu)
 (lX<|tZ (jO (vN false) (jB 0)<|jB 1)<|jZ (f1 A8)<|jA (kF [none,none] (lV<|jB 0) (y_ 2<|qw (kh 0)<|qw (kh 1) za) oW<|tZ (eFn kJ<|jA (jB 0) jL)<|eFn kJ<|jA (jB 1) jL) jL)
abbrev mR:ae->jD->R A:=lC rQ rE
meta abbrev sS:aE:=top 45
meta abbrev sP:ar:=["_law_found", "_law_due"]
meta abbrev sU:ar:=["_law_found", "_law_due"]
abbrev tR:Sm:=
 j9 (yU (ZY (B5<|tY<|jZ (f2 vU)<|jA (jB 0)<|jA (eC<|.ty "list") jL)<|B5<|tY<|jZ (f1 A8)<|jA (kF [none] (lV<|jB 0) (kh 0) oW<|tZ (jZ (f2 vU)<|jA (jB 0)<|jA (eC<|.ty "tuple") jL)<|jO (vN false) (jZ (f1 tu)<|jA (jB 0) jL)<|eC<|.int 2) jL)
 (lX<|eC<|.bl false)
 qu)
 (j9 (yU (ZY (wV<|jO (vN true) (jB 0)<|jB 1)<|B5<|tY<|jZ (f1 A8)<|jA (kF [none,none] (lV<|jB 0) (y_ 2<|qw (kh 0)<|qw (kh 1) za) oW<|jZ (f2 vU)<|jA (jB 0)<|jA (eC<|.ty "tuple") jL) jL)
 (lX<|eC<|.bl false)
 qu)
 (lX<|jZ (f1 A8)<|jA (kF [none,none] (lV<|jB 0) (y_ 2<|qw (kh 0)<|qw (kh 1) za) oW<|tZ (eFn mR<|jA (jB 1)<|jA (jB 1) jL)<|jZ (f1 A8)<|jA (kF [none] (lV<|jB 0) (kh 0) oW<|eFn kJ<|jA (jB 0) jL) jL) jL))
abbrev mq:ae->jD->R A:=lC sP tR
meta abbrev Q4:aE:=top 46
meta abbrev KP:ar:=["_law_script", "_law_bag_here", "_law_n", "_law_order_here", "_law_due", "_law_found", "_law_k", "_law_pair", "_law_other"]
meta abbrev Wb:ar:=["_law_script"]
abbrev Eo:Ic:=
 Ig (jB 5)
abbrev Ey:Sm:=
 pQ (eMe zR (jO u5 (jB 7)<|eC<|.int 1)<|jA (qP<|jA (jO mE (eC<|.int 99)<|jB 6)<|jA (eC<|.int 1) jL) jL)
abbrev K9:Sm:=
 j9 (kI (eFn pF<|jA (eFn nP<|jA (jB 0)<|jA (eC<|.int 0) jL)<|jA (eC<|.int 1) jL)<|kh 1)
 (j9 (kI (jO u5 (vW<|jA (eC<|.int 3)<|jA (eC<|.int 4)<|jA (eC<|.int 2)<|jA (eC<|.int 4)<|jA (eC<|.int 5)<|jA (eC<|.int 3)<|jA (eC<|.int 4)<|jA (eC<|.int 1) jL)<|eFn ly<|jA (jB 1)<|jA (eC<|.int 8) jL)<|kh 2)
 (j9 (kI (eFn n5<|jA (jB 1)<|jA (jB 2) jL)<|kh 3)
 (j9 (kI (eFn o9<|jA (eFn qE<|jA (jB 3)<|jA uB jL) jL)<|kh 4)
 (j9 (kI (eFn nU<|jA (jB 3) jL)<|kh 5)
 (j9 (yU (B5<|tY<|eFn mq<|jA (jB 5)<|jA (jB 4) jL)
 (lX<|eC<|.bl false)
 qu)
 (j9 (lO Eo (y_ 2<|qw (kh 6)<|qw (kh 7) za)
 Ey)
 (j9 (yU (wV<|jO (vN true) (kF [none] (lV<|jB 5) (kh 0) oW<|jO u5 (jB 0)<|eC<|.int 1)<|kF [none,none] (Ig<|jB 4) (y_ 2<|qw (kh 0)<|qw (kh 1) za) oW<|jO mE (jO u5 (jB 1)<|eC<|.int 1)<|vW<|jA (qP<|jA (jO mE (eC<|.int 99)<|jB 0)<|jA (eC<|.int 1) jL) jL)
 (lX<|eC<|.bl false)
 qu)
 (j9 (pQ<|YE Ik<|jB 5)
 (j9 (kI (eFn n5<|jA (eFn pF<|jA (eFn nP<|jA (jB 0)<|jA (eC<|.int 1) jL)<|jA (eC<|.int 2) jL)<|jA (eC<|.int 4) jL)<|kh 8)
 (j9 (yU (B5<|tY<|eFn mq<|jA (eFn nU<|jA (jB 8) jL)<|jA (eFn o9<|jA (eFn qE<|jA (jB 8)<|jA uB jL) jL) jL)
 (lX<|eC<|.bl false)
 qu)
 (lX<|eOr (jO (vN false) (jB 2)<|eC<|.int 5)<|eFn mq<|jA (eFn nU<|jA (jB 3) jL)<|jA (jB 4) jL)))))))))))
abbrev AN:ae->jD->R A:=lC KP K9
section
variable {P:aj}{w:ah}{K:au}{mg:Str->bi}{base:aq}{f:ak}{fd:FuncData}
def Hj:FnScope wK wR (jQ wg):=t_ rfl rfl rfl ∅
def Hg(F:Fun K "is_whole" "is_whole" wg f fd)(J:mg "isinstance" = none)(U:mg "bool" = none)(aaB:mg "int" = none):FnOk P w K mg base qg 1 f fd wR (qO K 1 qJ):=uS (m:=v5) F Hj λd B c s H E e=>
 jM (j7<|uN (jY xH J kM<|jC (jz 0)<|jC (xg aaB Ih) jH)<|sZ<|Rh<|jY xH J kM<|jC (jz 0)<|jC (xg U La) jH)
def DA:FnScope uh uO (jQ uW):=t_ rfl rfl rfl ∅
def DH(F:Fun K "need_pair" "need_pair" uW f fd)(J:mg "len" = none):FnOk P w K mg base qg 1 f fd uO (qO K 2 pR):=uS (m:=ur) F DA λe B c s H E d=>
 jM (mW (l6 (Ji d.units) (jY vQ J rY<|jC (jz 0) jH)<|jY vQ J rY<|jC (jz 1) jH)
 (jM<|NK)
 kN)
def AY:FnScope rD rX (jQ rJ):=t_ rfl rfl rfl ∅
def AQ(F:Fun K "is_exchange" "is_exchange" rJ f fd)(J:oh P w K mg base 1 "is_whole" wR qJ):FnOk P w K mg base qg 2 f fd rX (qO K 2 nH):=uS (m:=rC) F AY λe B c s H E d=>
 jM (j7<|uN (E9 J d<|jz 1)<|sZ<|abG ac6 (ZO d.units) jK (jz 1)<|jz 0)
def qb:FnScope nY nS (jQ nX):=t_ rfl rfl rfl ∅
def vG(F:Fun K "exchanged_places" "exchanged_places" nX f fd)(J:mg "list" = none)(U:mg "tuple" = none):FnOk P w K mg base qg 1 f fd nS (qO K 3 lG):=uS (m:=nQ) F qb λd B c s H E e=>
 jI (ku (i:=3) qb.nd<|nI (IQ rfl) J xD<|jC (jz 0) jH)
 (jI (oU (qD<|jC (nA (jz 3)<|j3 CZ (jz 2) jK)<|jC (nA (jz 3)<|j3 CZ (jz 1) jK) jH)<|oY rfl<|j5 (EV (jz 3)<|j3 CZ (jz 1) jK)<|j5 (EV (jz 3)<|j3 CZ (jz 2) jK) nu)
 (jM<|j7<|nI (Dv rfl) U r6<|jC (jz 3) jH))
def E3:FnScope uC rf (jQ ux):=t_ rfl rfl rfl ∅
def DJ(F:Fun K "exchanged" "exchanged" ux f fd)(J:mg "len" = none)(U:oh P w K mg base 2 "is_exchange" rX nH)(acy:oh P w K mg base 1 "exchanged_places" nS lG):FnOk P w K mg base qg 3 f fd rf (qO K 2 mZ):=uS (m:=t7) F E3 λe B c s H E d=>
 jI (mW (uF<|pB<|BL U d (jY vQ J rY<|jC (jz 0) jH)<|jz 1)
 (jM<|NK)
 kN)
 (jM<|j7<|fn3 acy d (jz 0) (jz 1)<|j3 nB (jz 1) jK)
def Ov:FnScope D8 vq (jQ Ez):=t_ rfl rfl rfl ∅
def SS(F:Fun K "falls" "falls" Ez f fd)(J:mg "range" = none)(U:mg "len" = none):FnOk P w K mg base qg 1 f fd vq (qO K 1 pH):=uS (m:=DO) F Ov λe B c s H E d=>
 jM (j7<|mV (N:=["k", "order"]) (cap:=[none,some 0]) rfl (qz ["order"] rfl ∅ ∅ ∅ ∅ ∅ (dN.mpr ⟨by first|exact Or.inl rfl|exact Or.inr rfl,(nofun)⟩) ⟨rfl,by decide +kernel,trivial⟩) (Cj J jK<|jY vQ U rY<|jC (jz 0) jH) (λ_ _ _ _=>jU (i:=0) (show(["k", "order"]:ar).Nodup by decide +kernel) rfl (Or.inl rfl)<|.inr rfl) (λ_ _ _ _=>zm<|l6 (Mq d.units) (nA (jz 1)<|j3 CZ (jz 0) jK)<|nA (jz 1)<|jz 0) λ_ _ _ _=>jz 0)
def yk:FnScope pV nL (jQ p5):=t_ rfl rfl rfl ∅
def yy(F:Fun K "as_polynomial" "as_polynomial" p5 f fd)(J:mg "sorted" = none):FnOk P w K mg base qg 1 f fd nL (qO K 1 kU):=uS (m:=pY) F yk λe B d s H E c=>
 jM (j7<|mV (N:=["power", "numbers"]) (cap:=[none,some 0]) rfl (qz ["numbers"] rfl ∅ ∅ ∅ ∅ ∅ (dN.mpr ⟨by first|exact Or.inl rfl|exact Or.inr rfl,(nofun)⟩) ⟨rfl,by decide +kernel,trivial⟩) (mw<|jY (VL rfl) J ve<|jC (jz 0) jH) (λ_ _ _ _=>jU (i:=0) (show(["power", "numbers"]:ar).Nodup by decide +kernel) rfl (Or.inl rfl)<|.inr rfl) (λ_ _ _ _=>zm<|l6 (Ji c.units) (P4 c.units (jz 1)<|jz 0) jK) λ_ _ _ _=>qD<|jC (jz 0)<|jC (P4 c.units (jz 1)<|jz 0) jH)
def zQ:FnScope Ij Jh (jQ Jb):=t_ rfl rfl rfl ∅
def US(F:Fun K "plus" "plus" Jb f fd)(J:mg "dict" = none)(U:oh P w K mg base 1 "as_polynomial" nL kU):FnOk P w K mg base qg 2 f fd Jh (qO K 2 Bo):=uS (m:=I_) F zQ λe B d s H E c=>
 jI (ku (i:=2) zQ.nd<|nI (LC rfl) J Ls<|jC (jz 0) jH)
 (jI (nV cE rfl (mw<|jz 1) (oY rfl<|j5 (jU (i:=3) zQ.nd)<|j5 (jU (i:=4) zQ.nd) nu)
 (jM<|oU (j3 nB (DU b_ c_ (D9 c.units) (jz 2)<|jC (jz 3)<|jC jK jH)<|jz 4)<|zN c.units (jz 2)<|jz 3))
 (jM<|j7<|E9 U c<|jz 2))
def se:FnScope Ff zh (jQ DN):=t_ rfl rfl rfl ∅
def N5(F:Fun K "times" "times" DN f fd)(J:oh P w K mg base 1 "as_polynomial" nL kU):FnOk P w K mg base qg 2 f fd zh (qO K 2 sJ):=uS (m:=DC) F se λe B d s H E c=>
 jI (ku (i:=2) se.nd w9)
 (jI (nV cE rfl (mw<|jz 0) (oY rfl<|j5 (jU (i:=3) se.nd)<|j5 (jU (i:=4) se.nd) nu)
 (jM (nV cE rfl (mw<|jz 1) (oY rfl<|j5 (jU (i:=5) se.nd)<|j5 (jU (i:=6) se.nd) nu)
 (jM<|oU (j3 nB (DU b_ c_ (D9 c.units) (jz 2)<|jC (j3 nB (jz 3)<|jz 5)<|jC jK jH)<|j3 Qy (jz 4)<|jz 6)<|zN c.units (jz 2)<|j3 nB (jz 3)<|jz 5))))
 (jM<|j7<|E9 J c<|jz 2))
def BX:FnScope sG oK (jQ sL):=t_ rfl rfl rfl ∅
def B3(F:Fun K "put_before" "put_before" sL f fd)(J:oh P w K mg base 2 "plus" Jh Bo):FnOk P w K mg base qg 3 f fd oK (qO K 3 kG):=uS (m:=sQ) F BX λe B d s H E c=>
 jM (oU (BL J c (Zt b_ c_ (abY c.units) (jz 0)<|jC (jz 1)<|jC (qK jH) jH)<|jz 2)<|sY c.units (jz 0)<|jz 1)
def M6:FnScope Bw uc (jQ AD):=t_ rfl rfl rfl ∅
def MS(F:Fun K "as_sum" "as_sum" AD f fd)(J:mg "sorted" = none):FnOk P w K mg base qg 1 f fd uc (qO K 1 oJ):=uS (m:=Ao) F M6 λe B c s H E d=>
 jM (j7<|mV (N:=["order", "found"]) (cap:=[none,some 0]) rfl (qz ["found"] rfl ∅ ∅ ∅ ∅ ∅ (dN.mpr ⟨by first|exact Or.inl rfl|exact Or.inr rfl,(nofun)⟩) ⟨rfl,by decide +kernel,trivial⟩) (mw<|jY (UB rfl) J ve<|jC (jz 0) jH) (λ_ _ _ _=>jU (i:=0) (show(["order", "found"]:ar).Nodup by decide +kernel) rfl (Or.inl rfl)<|.inr rfl) (λ_ _ _ _=>zm<|pB<|E6 d.units (jz 1)<|jz 0) λ_ _ _ _=>qD<|jC (jz 0)<|jC (E6 d.units (jz 1)<|jz 0) jH)
def DZ:FnScope uR uQ (jQ uA):=t_ rfl rfl rfl ∅
def Dr(F:Fun K "need_like" "need_like" uA f fd)(J:oh P w K mg base 1 "need_pair" uO pR):FnOk P w K mg base qg 2 f fd uQ (qO K 2 pP):=uS (m:=uL) F DZ λe B c s H E d=>
 jM (mW (AW.at<|Jc (pB<|jz 0)<|DX<|pB<|jz 1)
 (jM<|nj<|BL J d (nA (nA (jz 0) jK) jK)<|nA (nA (jz 1) jK) jK)
 kN)
def xM:FnScope DR EO (jQ Fc):=t_ rfl rfl rfl ∅
def SG(F:Fun K "added" "added" Fc f fd)(J:oh P w K mg base 2 "need_like" uQ pP)(U:oh P w K mg base 3 "put_before" oK kG)(aa8:oh P w K mg base 1 "as_sum" uc oJ):FnOk P w K mg base qg 4 f fd EO (qO K 2 tF):=uS (m:=DE) F xM λe B d s H E c=>
 jI (nj<|BL J c (jz 0)<|jz 1)
 (jI (ku (i:=2) xM.nd qR)
 (jI (nV cE rfl (mw<|j3 nB (jz 0)<|jz 1) (oY rfl<|j5 (jU (i:=3) xM.nd)<|j5 (jU (i:=4) xM.nd) nu)
 (jM<|nj<|fn3 U c (jz 2) (jz 3)<|jz 4))
 (jM<|j7<|E9 aa8 c<|jz 2)))
def vE:FnScope BC AO (jQ Ad):=t_ rfl rfl rfl ∅
def Nm(F:Fun K "scaled" "scaled" Ad f fd)(J:oh P w K mg base 3 "put_before" oK kG)(U:oh P w K mg base 2 "times" zh sJ)(aa8:oh P w K mg base 1 "as_sum" uc oJ):FnOk P w K mg base qg 4 f fd AO (qO K 2 qF):=uS (m:=Bb) F vE λe B d s H E c=>
 jI (ku (i:=2) vE.nd qR)
 (jI (nV cE rfl (mw<|jz 1) (oY rfl<|j5 (jU (i:=3) vE.nd)<|j5 (jU (i:=4) vE.nd) nu)
 (jM<|nj<|fn3 J c (jz 2) (jz 3)<|BL U c (jz 0)<|jz 4))
 (jM<|j7<|E9 aa8 c<|jz 2))
def oA:FnScope rH rR (jQ rG):=t_ rfl rfl rfl ∅
def Ai(F:Fun K "by_exchange" "by_exchange" rG f fd)(aaA:mg "list" = none)(J:∃a,mg "AT_A_FALL" = some (.ref a)/\ZX K a=some [((-1:Int),(1:Int)),((1:Int),(-1:Int))])(U:oh P w K mg base 3 "put_before" oK kG)(ace:oh P w K mg base 3 "exchanged" rf mZ)(aaI:oh P w K mg base 1 "falls" vq pH)(acd:oh P w K mg base 2 "times" zh sJ)(aa8:oh P w K mg base 1 "as_sum" uc oJ):FnOk P w K mg base qg 4 f fd rR (qO K 2 mP):=uS (m:=rP) F oA λe B d s H E c=>
 jI (ku (i:=2) oA.nd qR)
 (jI (nV cE rfl (mw<|jz 0) (oY rfl<|j5 (jU (i:=3) oA.nd)<|j5 (jU (i:=4) oA.nd) nu)
 (jI (nj<|fn3 U c (jz 2) (BL ace c (jz 3)<|jz 1)<|jz 4)
 (jM (mW (l6 (ab4 c.units) (jz 1)<|E9 aaI c<|jz 3)
 (jM<|nj<|fn3 U c (jz 2) (jz 3)<|BL acd c (nI (IQ rfl) aaA xD<|jC (Pk J.choose_spec.1 J.choose_spec.2) jH)<|jz 4)
 kN))))
 (jM<|j7<|E9 aa8 c<|jz 2))
def GH:FnScope wz wG (jQ wC):=t_ rfl rfl rfl ∅
def GN(F:Fun K "need_few" "need_few" wC f fd)(J:mg "len" = none)(U:∃t,mg "MOST_THINGS" = some (.int 5 t)):FnOk P w K mg base qg 1 f fd wG (qO K 1 qN):=uS (m:=wI) F GH λe B c s H E d=>
 jM (mW (l6 (Mq d.units) (jY vQ J rY<|jC (jz 0) jH)<|P_ U.choose_spec)
 (jM<|NK)
 kN)
def yc:FnScope p7 p6 (jQ p9):=t_ rfl rfl rfl ∅
def yI(F:Fun K "number_at_one" "number_at_one" p9 f fd)(J:mg "dict" = none):FnOk P w K mg base qg 1 f fd p6 (qO K 1 mJ):=uS (m:=pS) F yc λe B c s H E d=>
 jM (j7<|DU b_ c_ (D9 d.units) (nI (LC rfl) J Ls<|jC (jz 0) jH)<|jC jK<|jC jK jH)
def kR:FnScope kP m_ (jQ qx):=t_ rfl rfl rfl ∅
def zb{Fs:ae->jD->R A}(F:Fun K "kept_by_fall" "kept_by_fall" qx f fd)(ace:oh P w K mg base 3 "exchanged" rf mZ)(J:oh P w K mg base 4 "added" EO tF)(U:oh P w K mg base 4 "scaled" AO qF)(acL:oh P w K mg base 4 "by_exchange" rR mP)(acO:oh P w K mg base 1 "number_at_one" p6 mJ)(aaI:oh P w K mg base 1 "falls" vq pH)(ach:oh P w K mg base (5+2 * kr) "found_kept" lQ Fs):FnOk P w K mg base qg (5+2 * kr+1) f fd m_ (qO K 3<|lC kP<|kO Fs):=uS (m:=kO Fs) F kR λe B d s H E c=>
 jI (ku (i:=3) kR.nd<|m5 ach (c.mono ()) (jC (m5 ace (c.mono ()) (jC (jz 0)<|jC (jz 1) jH)<|jP<|jP kH)<|jC (jz 2) jH)<|jP<|jP kH)
 (jI (ku (i:=4) kR.nd<|m5 J (c.mono ()) (jC (m5 acL (c.mono ()) (jC (jz 3)<|jC (jz 1) jH)<|jP<|jP kH)<|jC (m5 U (c.mono ()) (jC (qK<|jC (qD<|jC jK<|jC jK jH) jH)<|jC (jz 3) jH)<|jP<|jP kH) jH)<|jP<|jP kH)
 (jI (nV cE rfl (mw<|jz 3) (oY rfl<|j5 (jU (i:=5) kR.nd)<|j5 (jU (i:=6) kR.nd) nu)
 (jI (ku (i:=7) kR.nd<|m5 acO (c.mono ()) (jC (jz 6) jH)<|jP kH)
 (jM (mW (AW.at<|Jc (l6 (Ji c.units) (jz 7) jK)<|DX<|l6 (ab4 c.units) (jz 1)<|m5 aaI (c.mono ()) (jC (jz 5) jH)<|jP kH)
 (jM<|ku (i:=4) kR.nd<|m5 J (c.mono ()) (jC (jz 4)<|jC (m5 U (c.mono ()) (jC (qK<|jC (qD<|jC jK<|jC (HP<|jz 7) jH) jH)<|jC (m5 ach (c.mono ()) (jC (jz 5)<|jC (jz 2) jH)<|jP<|jP kH) jH)<|jP<|jP kH) jH)<|jP<|jP kH)
 kN))))
 (jM<|j7<|jz 4)))
def vL:FnScope oS lQ (jQ qj):=t_ rfl rfl rfl ∅
def BO{Fs:ae->jD->R A}(F:Fun K "found_kept" "found_kept" qj f fd)(J:oh P w K mg base 1 "falls" vq pH)(U:oh P w K mg base (5+2 * kr+1) "kept_by_fall" m_<|lC kP<|kO Fs):FnOk P w K mg base qg (5+2 * kr+2) f fd lQ (qO K 2<|lC oS<|oO Fs):=uS (m:=oO Fs) F vL λe B d s H E c=>
 jI (mW (l6 (PD c.units) (jz 0)<|jz 1)
 (jI (ku (i:=2) vL.nd<|m5 J (c.mono ()) (jC (jz 0) jH)<|jP kH)
 (jM (mW (pB<|jz 2)
 (jM<|oU (m5 U (c.mono ()) (jC (jz 0)<|jC (nA (jz 2) jK)<|jC (jz 1) jH)<|jP<|jP<|jP kH)<|sY c.units (jz 1)<|jz 0)
 (jM<|oU (qK<|jC (qD<|jC (jz 0)<|jC (qK<|jC (qD<|jC jK<|jC jK jH) jH) jH) jH)<|sY c.units (jz 1)<|jz 0))))
 kN)
 (jM<|j7<|E6 c.units (jz 1)<|jz 0)
theorem uJ(F:Fun K "found_kept" "found_kept" qj f fd)(U:oh P w K mg base 1 "falls" vq pH)(J:∀{Fs:ae->jD->R A} {kr:Nat},oh P w K mg base (5+2 * kr) "found_kept" lQ Fs->oh P w K mg base (5+2 * kr+1) "kept_by_fall" m_ (lC kP<|kO Fs))(hm:mg "found_kept" = some (.ref f))(hk:PySem.W.keepIn K (.ref f)=true)(hb:Binds K fd lQ []):∀kr,FnOk P w K mg base qg (5+2 * kr) f fd lQ (qO K 2<|mQ kr)
 | 0=>Qe rfl
 | kr+1=>BO F U<|J ⟨f,fd,uJ F U J hm hk hb kr,hm,hk,hb⟩
def G4:FnScope wc wm (jQ wu):=t_ rfl rfl rfl ∅
def Hy(F:Fun K "kept_sum" "kept_sum" wu f fd)(J:oh P w K mg base 1 "need_few" wG qN)(U:oh P w K mg base 29 "found_kept" lQ tD):FnOk P w K mg base qg 30 f fd wm (qO K 1 nU):=uS (m:=v8) F G4 λe B c s H E d=>
 jI (nj<|E9 J d<|jz 0)
 (jM<|j7<|BL U d (jz 0) qR)
def Hh:FnScope wO wN (jQ vR):=t_ rfl rfl rfl ∅
def FE(F:Fun K "_law_cell" "_law_cell" vR f fd)(J:mg "len" = none):FnOk P w K mg base qg 1 f fd wN (qO K 2 nP):=uS (m:=wD) F Hh λe B c s H E d=>
 jI (mW (l6 (ZO d.units) (jz 1)<|jY vQ J rY<|jC (jz 0) jH)
 (jM<|j7<|nA (jz 0)<|jz 1)
 kN)
 (jM<|j7 jK)
def we:FnScope yh yE (jQ xZ):=t_ rfl rfl rfl ∅
def HZ(F:Fun K "_law_bag" "_law_bag" xZ f fd)(J:mg "abs" = none):FnOk P w K mg base qg 1 f fd yE (qO K 2 pF):=uS (m:=yH) F we λe B c s H E d=>
 jI (ku (i:=2) we.nd<|jY abC J Xj<|jC (jz 0) jH)
 (jI (mW (l6 (ZO d.units) (jz 2)<|j3 Z8 jK jK)
 (jM<|ku (i:=2) we.nd jK)
 kN)
 (jM<|j7<|qK<|jC (jz 2)<|jC (j3 CY (j3 nB (j3 nB (j3 G8 (j3 CY (jz 0) jK) jK)<|j3 G8 jK<|jz 1) jK) jK) jH))
def E8:FnScope uv uI (jQ t9):=t_ rfl rfl rfl ∅
def ED(F:Fun K "_law_mixed" "_law_mixed" t9 f fd):FnOk P w K mg base qg 1 f fd uI (qO K 1 n9):=uS (m:=uX) F E8 λd B c s H E e=>
 jI (oU (j3 CY (j3 nB (j3 G8 (nA (jz 0) jK) jK) jK) jK)<|EV (jz 0) jK)
 (jM<|j7<|j3 Tf (j3 CY (j3 G8 (nA (jz 0) jK) jK) jK) jK)
def om:FnScope qV rj (jQ uY):=t_ rfl rfl rfl ∅
def EI(F:Fun K "_law_digit" "_law_digit" uY f fd)(U:mg "range" = none)(J:oh P w K mg base 1 "_law_mixed" uI n9):FnOk P w K mg base qg 2 f fd rj (qO K 2 ly):=uS (m:=qY) F om λe B d s H E c=>
 jI (mW (l6 (Mq c.units) (nA (jz 0) jK) jK)
 (jI (ku (i:=2) om.nd<|j3 CY (nA (jz 0) jK)<|jz 1)
 (jI (oU (j3 Tf (nA (jz 0) jK)<|jz 1)<|EV (jz 0) jK)
 (jM<|j7<|jz 2)))
 kN)
 (jI (ku (i:=2) om.nd<|E9 J c<|jz 0)
 (jI (mW (l6 (Mq c.units) (jz 1) jK)
 (jM (nV cE rfl (Cw U jK) (jU (i:=3) om.nd)
 (jM<|ku (i:=2) om.nd<|j3 nB (j3 G8 (jz 2) jK)<|E9 J c<|jz 0)))
 kN)
 (jM<|j7<|j3 CY (jz 2)<|jz 1)))
def qi:FnScope uf um (jQ uU):=t_ rfl rfl rfl ∅
def D3(F:Fun K "_law_order" "_law_order" uU f fd)(U:mg "list" = none)(J:mg "range" = none)(aaf:mg "len" = none)(aal:mg "tuple" = none)(acf:oh P w K mg base 2 "_law_digit" rj ly):FnOk P w K mg base qg 3 f fd um (qO K 2 n5):=uS (m:=ug) F qi λe B c s H E d=>
 jI (ku (i:=2) qi.nd<|nI (IQ rfl) U xD<|jC (nI Pj J SY<|jC jK<|jC (j3 nB (jz 1) jK) jH) jH)
 (jI (ku (i:=3) qi.nd<|qK jH)
 (jI (nV cE rfl (Cw J<|jz 1) (jU (i:=4) qi.nd)
 (jM<|nj<|O9 PySem.F.slot_list_append PySem.F.type_list_append F4 (jz 3)<|jC (O9 PySem.F.slot_list_pop PySem.F.type_list_pop Uh (jz 2)<|jC (BL acf d (jz 0)<|jY vQ aaf rY<|jC (jz 2) jH) jH) jH))
 (jM<|j7<|nI (Dv rfl) aal r6<|jC (jz 3) jH)))
def AA:FnScope rL pI (jQ rq):=t_ rfl rfl rfl ∅
def Bq(F:Fun K "_law_swapped" "_law_swapped" rq f fd)(J:mg "tuple" = none):FnOk P w K mg base qg 1 f fd pI (qO K 2 lW):=uS (m:=rK) F AA λe B c s H E d=>
 jM (j7<|nI (Dv rfl) J r6<|jC (mV (N:=["_law_thing", "_law_k"]) (cap:=[none,some 1]) rfl (qz ["_law_k"] rfl ∅ ∅ ∅ ∅ ∅ (dN.mpr ⟨by first|exact Or.inl rfl|exact Or.inr rfl,(nofun)⟩) ⟨rfl,by decide +kernel,trivial⟩) (mw<|jz 0) (λ_ _ _ _=>jU (i:=0) (show(["_law_thing", "_law_k"]:ar).Nodup by decide +kernel) rfl (Or.inl rfl)<|.inr rfl) (λ_ _ _ _=>oB) λ_ _ _ _=>IJ b_ c_ (Qm d.units) (Xd (jz 1) (j3 nB (jz 1) jK) (j3 nB (jz 1) jK)<|jz 1)<|jC (jz 0)<|jC (jz 0) jH) jH)
def wU:FnScope yJ vh (jQ yo):=t_ rfl rfl rfl ∅
def Io(F:Fun K "_law_put" "_law_put" yo f fd):FnOk P w K mg base qg 1 f fd vh (qO K 5 mO):=uS (m:=yg) F wU λe B d s H E c=>
 jI (ku (i:=5) wU.nd<|IJ b_ c_ (Xo c.units) (jz 0)<|jC (jz 1)<|jC w9 jH)
 (jI (nV cE rfl (Gv<|jz 2) (jU (i:=6) wU.nd)
 (jM<|oU (j3 nB (DU b_ c_ (D9 c.units) (jz 5)<|jC (j3 nB (jz 6)<|jz 3)<|jC jK jH)<|j3 Qy (jz 4)<|z0 c.units (jz 2)<|jz 6)<|zN c.units (jz 5)<|j3 nB (jz 6)<|jz 3))
 (jM<|oU (jz 5)<|sY c.units (jz 0)<|jz 1))
def mz:FnScope mU lI (jQ mT):=t_ rfl rfl rfl ∅
def sV(F:Fun K "_law_without_noughts" "_law_without_noughts" mT f fd):FnOk P w K mg base qg 1 f fd lI (qO K 1 kC):=uS (m:=mS) F mz λe B d s H E c=>
 jI (ku (i:=1) mz.nd w9)
 (jI (nV cE rfl (Gv<|jz 0) (jU (i:=2) mz.nd)
 (jM (mW (l6 (Ji c.units) (z0 c.units (jz 0)<|jz 2) jK)
 (jM<|oU (z0 c.units (jz 0)<|jz 2)<|zN c.units (jz 1)<|jz 2)
 kN)))
 (jM<|j7<|jz 1))
def kL:FnScope qC o6 (jQ tB):=t_ rfl rfl rfl ∅
def F8{Fs:ae->jD->R A}(F:Fun K "_law_kept" "_law_kept" tB f fd)(aax:mg "range" = none)(aaf:mg "len" = none)(aaB:mg "int" = none)(U:oh P w K mg base 1 "_law_swapped" pI lW)(J:oh P w K mg base 1 "_law_put" vh mO)(acg:oh P w K mg base 1 "_law_without_noughts" lI kC)(ach:oh P w K mg base (2+kr) "_law_kept" o6 Fs):FnOk P w K mg base qg (2+kr+1) f fd o6 (qO K 2<|lC qC<|qA Fs):=uS (m:=qA Fs) F kL λe B d s H E c=>
 jI (mW (l6 (abR c.units) (jz 0)<|jz 1)
 (jM<|j7<|E6 c.units (jz 1)<|jz 0)
 kN)
 (jI (Uw (i:=2) (N:=["_law_k", "_law_order_here"]) (cap:=[none,some 0]) kL.nd rfl (qz ["_law_order_here"] rfl ∅ ∅ ∅ ∅ ∅ (dN.mpr ⟨by first|exact Or.inl rfl|exact Or.inr rfl,(nofun)⟩) ⟨rfl,by decide +kernel,trivial⟩) (Cj aax jK<|jY vQ aaf rY<|jC (jz 0) jH) (λ_ _ _ _=>jU (i:=0) (show(["_law_k", "_law_order_here"]:ar).Nodup by decide +kernel) rfl (Or.inl rfl)<|.inr rfl) (λ_ _ _ _=>zm<|l6 (Mq c.units) (Ep (jz 1)<|jC (jz 0) jH)<|Ep (jz 1)<|jC (j3 nB (jz 0) jK) jH) λ_ _ _ _=>jz 0)
 (jI (ku (i:=3) kL.nd qR)
 (jI (mW (l6 (NZ c.units) (jz 2)<|qK jH)
 (jM<|oU (Yj jK jK)<|sY c.units (jz 3)<|jz 0)
 (jI (ku (i:=4) kL.nd<|nA (jz 2)<|HP jK)
 (jI (ku (i:=5) kL.nd<|m5 ach (c.mono ()) (jC (m5 U (c.mono ()) (jC (jz 0)<|jC (jz 4) jH)<|jP<|jP kH)<|jC (jz 1) jH)<|jP<|jP kH)
 (jM (nV cE rfl (Bv<|jz 5) (jU (i:=6) kL.nd)
 (jI (ku (i:=7) kL.nd<|AX (Mq c.units) (Ep (jz 6)<|jC (jz 4) jH)<|Ep (jz 6)<|jC (j3 nB (jz 4) jK) jH)
 (jI (nj<|m5 J (c.mono ()) (jC (jz 3)<|jC (m5 U (c.mono ()) (jC (jz 6)<|jC (jz 4) jH)<|jP<|jP kH)<|jC (wF c.units (jz 5)<|jz 6)<|jC jK<|jC jK jH)<|jP<|jP<|jP<|jP<|jP kH)
 (jI (nj<|m5 J (c.mono ()) (jC (jz 3)<|jC (jz 6)<|jC (wF c.units (jz 5)<|jz 6)<|jC (nA (qK<|jC jK<|jC (HP jK) jH)<|nI Yt aaB Ih<|jC (jz 7) jH)<|jC jK jH)<|jP<|jP<|jP<|jP<|jP kH)
 (jM (mW (AW.at<|Jc (pB<|jz 7)<|DX<|l6 (Ji c.units) (IJ b_ c_ (Qm c.units) (wF c.units (jz 5)<|jz 6)<|jC jK<|jC jK jH) jK)
 (jI (ku (i:=8) kL.nd<|m5 ach (c.mono ()) (jC (jz 6)<|jC (jz 1) jH)<|jP<|jP kH)
 (jM (nV cE rfl (Bv<|jz 8) (jU (i:=9) kL.nd)
 (jM<|nj<|m5 J (c.mono ()) (jC (jz 3)<|jC (jz 9)<|jC (wF c.units (jz 8)<|jz 9)<|jC jK<|jC (j3 CZ jK<|z0 c.units (wF c.units (jz 5)<|jz 6) jK) jH)<|jP<|jP<|jP<|jP<|jP kH))))
 kN))))))))))
 (jI (ku (i:=10) kL.nd qR)
 (jI (nV cE rfl (Bv<|jz 3) (jU (i:=6) kL.nd)
 (jI (ku (i:=11) kL.nd<|m5 acg (c.mono ()) (jC (wF c.units (jz 3)<|jz 6) jH)<|jP kH)
 (jM (mW (l6 (Z7 c.units) (jz 11) w9)
 (jM<|oU (jz 11)<|sY c.units (jz 10)<|jz 6)
 kN))))
 (jI (oU (jz 10)<|sY c.units (jz 1)<|jz 0)
 (jM<|j7<|jz 10)))))))
theorem xh(F:Fun K "_law_kept" "_law_kept" tB f fd)(J:mg "range" = none)(U:mg "len" = none)(aaB:mg "int" = none)(abq:oh P w K mg base 1 "_law_swapped" pI lW)(abg:oh P w K mg base 1 "_law_put" vh mO)(acg:oh P w K mg base 1 "_law_without_noughts" lI kC)(hm:mg "_law_kept" = some (.ref f))(hk:PySem.W.keepIn K (.ref f)=true)(hb:Binds K fd o6 []):∀kr,FnOk P w K mg base qg (2+kr) f fd o6 (qO K 2<|mj kr)
 | 0=>Qe rfl
 | kr+1=>F8 F J U aaB abq abg acg ⟨f,fd,xh F J U aaB abq abg acg hm hk hb kr,hm,hk,hb⟩
def Gq:FnScope wj wL (jQ wJ):=t_ rfl rfl rfl ∅
def FG(F:Fun K "_law_told" "_law_told" wJ f fd)(J:mg "sorted" = none):FnOk P w K mg base qg 1 f fd wL (qO K 1 o8):=uS (m:=wk) F Gq λe B c s H E d=>
 jM (j7<|mV (N:=["_law_power", "_law_poly"]) (cap:=[none,some 0]) rfl (qz ["_law_poly"] rfl ∅ ∅ ∅ ∅ ∅ (dN.mpr ⟨by first|exact Or.inl rfl|exact Or.inr rfl,(nofun)⟩) ⟨rfl,by decide +kernel,trivial⟩) (mw<|jY (Oa rfl) J ve<|jC (jz 0) jH) (λ_ _ _ _=>jU (i:=0) (show(["_law_power", "_law_poly"]:ar).Nodup by decide +kernel) rfl (Or.inl rfl)<|.inr rfl) (λ_ _ _ _=>oB) λ_ _ _ _=>qD<|jC (jz 0)<|jC (z0 d.units (jz 1)<|jz 0) jH)
def HD:FnScope yd yv (jQ yD):=t_ rfl rfl rfl ∅
def HH(F:Fun K "_law_sum" "_law_sum" yD f fd)(J:mg "sorted" = none)(U:oh P w K mg base 1 "_law_told" wL o8):FnOk P w K mg base qg 2 f fd yv (qO K 1 o9):=uS (m:=yt) F HD λe B c s H E d=>
 jM (j7<|mV (N:=["_law_order_here", "_law_some"]) (cap:=[none,some 0]) rfl (qz ["_law_some"] rfl ∅ ∅ ∅ ∅ ∅ (dN.mpr ⟨by first|exact Or.inl rfl|exact Or.inr rfl,(nofun)⟩) ⟨rfl,by decide +kernel,trivial⟩) (mw<|jY (VA rfl) J ve<|jC (jz 0) jH) (λ_ _ _ _=>jU (i:=0) (show(["_law_order_here", "_law_some"]:ar).Nodup by decide +kernel) rfl (Or.inl rfl)<|.inr rfl) (λ_ _ _ _=>oB) λ_ _ _ _=>qD<|jC (jz 0)<|jC (E9 U d<|wF d.units (jz 1)<|jz 0) jH)
def ER:FnScope uK qZ (jQ uq):=t_ rfl rfl rfl ∅
def DK(F:Fun K "_law_whole" "_law_whole" uq f fd)(J:mg "isinstance" = none)(U:mg "bool" = none)(aaB:mg "int" = none):FnOk P w K mg base qg 1 f fd qZ (qO K 1 kJ):=uS (m:=uZ) F ER λd B c s H E e=>
 jM (j7<|uN (jY xH J kM<|jC (jz 0)<|jC (xg aaB Ih) jH)<|sZ<|Rh<|jY xH J kM<|jC (jz 0)<|jC (xg U La) jH)
def Bk:FnScope rQ rW (jQ rz):=t_ rfl rfl rfl ∅
def Ar(F:Fun K "_law_is_poly" "_law_is_poly" rz f fd)(J:mg "all" = none)(aaf:mg "len" = none)(U:mg "isinstance" = none)(aal:mg "tuple" = none)(aaA:mg "list" = none)(abF:oh P w K mg base 1 "_law_whole" qZ kJ):FnOk P w K mg base qg 2 f fd rW (qO K 2 mR):=uS (m:=rE) F Bk λe B d s H E c=>
 jI (mW (AW.at<|OH (uF<|pB<|jY xH U kM<|jC (jz 0)<|jC (xg aaA xD) jH)<|H_<|uF<|pB<|jY (CI rfl) J ya<|jC (mV (N:=["_law_one"]) (cap:=[none]) rfl (qz [] rfl ∅ ∅ ∅ ∅ ∅ (nofun) trivial) (mw<|jz 0) (λ_ _ _ _=>jU (i:=0) (show(["_law_one"]:ar).Nodup by decide +kernel) rfl (Or.inl rfl)<|.inr rfl) (λ_ _ _ _=>oB) λ_ _ _ _=>uN (jY xH U kM<|jC (jz 0)<|jC (xg aal r6) jH)<|sZ<|AX (NZ c.units) (jY vQ aaf rY<|jC (jz 0) jH) jK) jH)
 (jM<|j7 CB)
 kN)
 (jM<|j7<|uN (AX (NZ c.units) (jz 0)<|jz 1)<|sZ<|jY (CI rfl) J ya<|jC (mV (N:=["_law_power", "_law_number"]) (cap:=[none,none]) rfl (qz [] rfl ∅ ∅ ∅ ∅ ∅ (nofun) trivial) (mw<|jz 0) (λ_ _ _ _=>oY rfl<|j5 (jU (i:=0) (show(["_law_power", "_law_number"]:ar).Nodup by decide +kernel) rfl (Or.inl rfl)<|.inr rfl)<|j5 (jU (i:=1) (show(["_law_power", "_law_number"]:ar).Nodup by decide +kernel) rfl (Or.inl rfl)<|.inr rfl) nu) (λ_ _ _ _=>oB) λ_ _ _ _=>uN (E9 abF c<|jz 0)<|sZ<|E9 abF c<|jz 1) jH)
def B4:FnScope sP sU (jQ sS):=t_ rfl rfl rfl ∅
def BV(F:Fun K "_law_is_sum" "_law_is_sum" sS f fd)(J:mg "all" = none)(aaf:mg "len" = none)(U:mg "isinstance" = none)(aal:mg "tuple" = none)(aaA:mg "list" = none)(abF:oh P w K mg base 1 "_law_whole" qZ kJ)(adg:oh P w K mg base 2 "_law_is_poly" rW mR):FnOk P w K mg base qg 3 f fd sU (qO K 2 mq):=uS (m:=tR) F B4 λe B d s H E c=>
 jI (mW (AW.at<|OH (uF<|pB<|jY xH U kM<|jC (jz 0)<|jC (xg aaA xD) jH)<|H_<|uF<|pB<|jY (CI rfl) J ya<|jC (mV (N:=["_law_one"]) (cap:=[none]) rfl (qz [] rfl ∅ ∅ ∅ ∅ ∅ (nofun) trivial) (mw<|jz 0) (λ_ _ _ _=>jU (i:=0) (show(["_law_one"]:ar).Nodup by decide +kernel) rfl (Or.inl rfl)<|.inr rfl) (λ_ _ _ _=>oB) λ_ _ _ _=>uN (jY xH U kM<|jC (jz 0)<|jC (xg aal r6) jH)<|sZ<|AX (NZ c.units) (jY vQ aaf rY<|jC (jz 0) jH) jK) jH)
 (jM<|j7 CB)
 kN)
 (jI (mW (AW.at<|OH (l6 (Ji c.units) (jz 0)<|jz 1)<|H_<|uF<|pB<|jY (CI rfl) J ya<|jC (mV (N:=["_law_order_here", "_law_poly"]) (cap:=[none,none]) rfl (qz [] rfl ∅ ∅ ∅ ∅ ∅ (nofun) trivial) (mw<|jz 0) (λ_ _ _ _=>oY rfl<|j5 (jU (i:=0) (show(["_law_order_here", "_law_poly"]:ar).Nodup by decide +kernel) rfl (Or.inl rfl)<|.inr rfl)<|j5 (jU (i:=1) (show(["_law_order_here", "_law_poly"]:ar).Nodup by decide +kernel) rfl (Or.inl rfl)<|.inr rfl) nu) (λ_ _ _ _=>oB) λ_ _ _ _=>jY xH U kM<|jC (jz 0)<|jC (xg aal r6) jH) jH)
 (jM<|j7 CB)
 kN)
 (jM<|j7<|jY (CI rfl) J ya<|jC (mV (N:=["_law_order_here", "_law_poly"]) (cap:=[none,none]) rfl (qz [] rfl ∅ ∅ ∅ ∅ ∅ (nofun) trivial) (mw<|jz 0) (λ_ _ _ _=>oY rfl<|j5 (jU (i:=0) (show(["_law_order_here", "_law_poly"]:ar).Nodup by decide +kernel) rfl (Or.inl rfl)<|.inr rfl)<|j5 (jU (i:=1) (show(["_law_order_here", "_law_poly"]:ar).Nodup by decide +kernel) rfl (Or.inl rfl)<|.inr rfl) nu) (λ_ _ _ _=>oB) λ_ _ _ _=>uN (BL adg c (jz 1)<|jz 1)<|sZ<|jY (CI rfl) J ya<|jC (mV (N:=["_law_one"]) (cap:=[none]) rfl (qz [] rfl ∅ ∅ ∅ ∅ ∅ (nofun) trivial) (mw<|jz 0) (λ_ _ _ _=>jU (i:=0) (show(["_law_one"]:ar).Nodup by decide +kernel) rfl (Or.inl rfl)<|.inr rfl) (λ_ _ _ _=>oB) λ_ _ _ _=>E9 abF c<|jz 0) jH) jH))
def tM:FnScope KP Wb (jQ Q4):=t_ rfl rfl rfl ∅
set_option smartUnfolding false in
theorem Xc(F:Fun K "law" "law" Q4 f fd)(aco:mg "enumerate" = none)(acp:oh P w K mg base 1 "_law_bag" yE pF)(acq:oh P w K mg base 1 "_law_cell" wN nP)(acf:oh P w K mg base 2 "_law_digit" rj ly)(acr:oh P w K mg base 3 "_law_order" um n5)(acs:oh P w K mg base 2 "_law_sum" yv o9)(acu:oh P w K mg base 14 "_law_kept" o6 qE)(J:oh P w K mg base 30 "kept_sum" wm nU)(U:oh P w K mg base 3 "_law_is_sum" sU mq):FnOk P w K mg base qg 31 f fd Wb (qO K 1 AN):=uS (m:=K9) F tM λe B d s H E c=>
 jI (ku (i:=1) tM.nd<|BL acp c (BL acq c (jz 0) jK) jK)
 (jI (ku (i:=2) tM.nd<|nA (qK<|jC jK<|jC jK<|jC jK<|jC jK<|jC jK<|jC jK<|jC jK<|jC jK jH)<|BL acf c (jz 1) jK)
 (jI (ku (i:=3) tM.nd<|BL acr c (jz 1)<|jz 2)
 (jI (ku (i:=4) tM.nd<|E9 acs c<|BL acu c (jz 3) qR)
 (jI (ku (i:=5) tM.nd<|E9 J c<|jz 3)
 (jI (mW (uF<|pB<|BL U c (jz 5)<|jz 4)
 (jM<|j7 CB)
 kN)
 (jI (nV cE rfl (P0 aco<|jz 5) (oY rfl<|j5 (jU (i:=6) tM.nd)<|j5 (jU (i:=7) tM.nd) nu)
 (jM<|nj<|O9 PySem.F.slot_list_append PySem.F.type_list_append F4 (nA (jz 7) jK)<|jC (qD<|jC (j3 nB jK<|jz 6)<|jC jK jH) jH))
 (jI (mW (l6 (Ji c.units) (mV (N:=["_law_pair"]) (cap:=[none]) rfl (qz [] rfl ∅ ∅ ∅ ∅ ∅ (nofun) trivial) (mw<|jz 5) (λ_ _ _ _=>jU (i:=0) (show(["_law_pair"]:ar).Nodup by decide +kernel) rfl (Or.inl rfl)<|.inr rfl) (λ_ _ _ _=>oB) λ_ _ _ _=>nA (jz 0) jK)<|mV (N:=["_law_k", "_law_pair"]) (cap:=[none,none]) rfl (qz [] rfl ∅ ∅ ∅ ∅ ∅ (nofun) trivial) (P0 aco<|jz 4) (λ_ _ _ _=>oY rfl<|j5 (jU (i:=0) (show(["_law_k", "_law_pair"]:ar).Nodup by decide +kernel) rfl (Or.inl rfl)<|.inr rfl)<|j5 (jU (i:=1) (show(["_law_k", "_law_pair"]:ar).Nodup by decide +kernel) rfl (Or.inl rfl)<|.inr rfl) nu) (λ_ _ _ _=>oB) λ_ _ _ _=>j3 nB (nA (jz 1) jK)<|qK<|jC (qD<|jC (j3 nB jK<|jz 0)<|jC jK jH) jH)
 (jM<|j7 CB)
 kN)
 (jI (nj<|YA PySem.F.slot_list_clear PySem.F.type_list_clear UN<|jz 5)
 (jI (ku (i:=8) tM.nd<|BL acr c (BL acp c (BL acq c (jz 0) jK) jK) jK)
 (jI (mW (uF<|pB<|BL U c (E9 J c<|jz 8)<|E9 acs c<|BL acu c (jz 8) qR)
 (jM<|j7 CB)
 kN)
 (jM<|j7<|aan (AX (NZ c.units) (jz 2) jK)<|sZ<|BL U c (E9 J c<|jz 3)<|jz 4)))))))))))
end
end K40
namespace Po
open Am
meta abbrev Pl:=List<|Int×Int
abbrev val (d:Pl)(k:Int):Int:=((d.find? λp=>decide<|p.1=k).map (·.2)).getD 0
abbrev has (d:Pl)(k:Int):Bool:=d.any λp=>decide<|p.1=k
abbrev put (d:Pl)(k v:Int):Pl:=if has d k=true then d.map (λp=>if p.1=k then(p.1,v)else p)else d++[(k,v)]
abbrev acc (d:Pl)(k v:Int):Pl:=put d k<|val d k+v
abbrev cf:Pl->Int->Int
 | [],_=>0
 | p::l,k=>(if p.1=k then p.2 else 0)+cf l k
def oq{p:Int×Int}{d:Pl}{k:Int}:val (p::d) k=if p.1=k then p.2 else val d k:=by
 unfold val;rw[cg];by_cases h:p.1=k
 ·rw[bg h,aK h];rfl
 ·rw[bA h,aI h]
def A2{p:Int×Int}{d:Pl}{k:Int}:has (p::d) k=(decide (p.1=k) || has d k):=rfl
def sH{d:Pl}{k:Int}:has d k=true ↔ k∈d.map Prod.fst:=by
 unfold has;rw[gr,aV];constructor
 ·rintro⟨p,h1,h2⟩;exact⟨p,h1,bQ h2⟩
 ·rintro⟨p,h1,h2⟩;exact⟨p,h1,bg h2⟩
def Jm{d:Pl}{k:Int}(h:has d k=false):val d k=0:=by
 induction d with
 | nil=>rfl
 | cons p d c=>
  rw[A2,iH]at h;rw[oq,aI<|dI h.1,c h.2]
def Vu{d:Pl}{k v j:Int}(h:has d k=false):val (d++[(k,v)]) j=if j=k then v else val d j:=by
 induction d with
 | nil=>
  show val [(k,v)] j=_;rw[oq];by_cases c:k=j
  ·rw[aK c,aK c.symm]
  ·rw[aI c,aI λz=>c z.symm]
 | cons p d e=>
  rw[A2,iH]at h;have:=dI h.1;rw[jd,oq,oq,e h.2];by_cases c:p.1=j
  ·rw[aK c,aK c,aI λz=>this<|c.trans z]
  ·rw[aI c,aI c]
def Uy{d:Pl}{k v j:Int}:val (d.map λp=>if p.1=k then(p.1,v)else p) j=if j=k/\has d k=true then v else val d j:=by
 induction d with
 | nil=>
  rw[aI λz=>by cases z.2];rfl
 | cons p d f=>
  rw[bE,oq,oq,f,A2];by_cases c:p.1=k
  ·rw[aK c,bg c,Bool.true_or];by_cases e:j=k
   ·rw[aK<|show p.1=j by lia,aK ⟨e,rfl⟩]
   ·rw[aI<|show ¬p.1=j by lia,aI λz=>e z.1,aI λz=>e z.1,aI<|show ¬p.1=j by lia]
  ·rw[aI c,bA c,gB];by_cases e:p.1=j
   ·rw[aK e,aK e,aI λz=>c<|e.trans z.1]
   ·rw[aI e,aI e]
def VN{d:Pl}{k v j:Int}:val (put d k v) j=if j=k then v else val d j:=by
 unfold put
 cases h:has d k with
 | true=>
  rw[aK rfl,Uy,h];by_cases c:j=k
  ·rw[aK ⟨c,rfl⟩,aK c]
  ·rw[aI λz=>c z.1,aI c]
 | false=>rw[aI<|by simp,Vu h]
def UP{d:Pl}{k v j:Int}:val (acc d k v) j=val d j+if k=j then v else 0:=by
 unfold acc;rw[VN];by_cases c:j=k
 ·subst c;rw[aK rfl,aK rfl]
 ·rw[aI c,aI λz=>c z.symm,b6]
def Pd{d:Pl}{k v:Int}:(put d k v).map Prod.fst=if has d k=true then d.map Prod.fst else d.map Prod.fst++[k]:=by
 unfold put;split
 ·rw[bq];apply cQ;intro p _;show(if p.1=k then(p.1,v)else p).1=p.1;split<;>rfl
 ·rw[bN];rfl
def Ym{d:Pl}{k v:Int}(h:(d.map Prod.fst).Nodup):((put d k v).map Prod.fst).Nodup:=by
 rw[Pd];split
 ·exact h
 ·rename_i c;rw[dw];refine⟨h,bZ _ _,λa f b e z=>c ?_⟩;rw[aQ]at e;rw[sH,<- e,<- z];exact f
def Vw{d:Pl}{k v:Int}:(put d k v).length<=d.length+1:=by
 unfold put;split
 ·rw[aH];lia
 ·rw[br];exact aR _
abbrev Bd (c:Nat)(d:Pl):Prop:=∀p∈d,p.2.natAbs<=c
theorem Bd.val{c:Nat}{d:Pl}(h:Bd c d)(k:Int):(val d k).natAbs<=c:=by
 induction d with
 | nil=>exact bP _
 | cons p d e=>
  rw[oq];split
  ·exact h p (aL ..)
  ·exact e λq f=>h q<|aN _ f
abbrev o_ (d ps:Pl):Pl:=ps.foldl (λd p=>acc d p.1 p.2) d
def Qs(d:Pl):o_ d []=d:=rfl
def xF(d ps J:Pl):o_ d (ps++J)=o_ (o_ d ps) J:=by unfold o_;rw[dz]
def uE(ps:Pl):∀(d:Pl) (k:Int),val (o_ d ps) k=val d k+cf ps k:=by
 induction ps with
 | nil=>intro d k;rw[Qs];show _=_+0;rw[b6]
 | cons p ps c=>
  intro d k;show val (o_ (acc d p.1 p.2) ps) k=_;rw[c,UP];show _=_+(_+_);rw[dD]
def sI(ps:Pl):∀{d:Pl},(d.map Prod.fst).Nodup->((o_ d ps).map Prod.fst).Nodup:=by
 induction ps with
 | nil=>intro d h;exact h
 | cons p ps c=>intro d h;exact c<|Ym h
def oF(ps:Pl):∀(d:Pl),(o_ d ps).length<=d.length+ps.length:=by
 induction ps with
 | nil=>intro d;exact aR _
 | cons p ps c=>
  intro d;have h1:=c<|acc d p.1 p.2;have h2:(acc d p.1 p.2).length<=d.length+1:=Vw;show(o_ (acc d p.1 p.2) ps).length<=_;rw[bJ]
  lia
structure Ok (l:Pl):Prop where
 up:l.Pairwise λp q=>p.1<q.1
 nz:∀p∈l,p.2≠0
def Ok.tail{p:Int×Int}{l:Pl}(h:Ok (p::l)):Ok l:=⟨(bX.mp h.up).2,λq c=>h.nz q<|aN _ c⟩
def G3{l:Pl}{k:Int}(h:∀p∈l,k<p.1):cf l k=0:=by
 induction l with
 | nil=>rfl
 | cons p l c=>
  show(if p.1=k then p.2 else 0)+cf l k=0;have:=h p<|aL ..;rw[aI (),c λq d=>h q<|aN _ d];rfl
def Ok.head{p:Int×Int}{l:Pl}(h:Ok (p::l)):cf (p::l) p.1=p.2:=by
 show(if p.1=p.1 then p.2 else 0)+cf l p.1=p.2;rw[aK rfl,G3 (bX.mp h.up).1,b6]
def Ok.low{p:Int×Int}{l:Pl}(h:Ok (p::l)){k:Int}(J:k<p.1):cf (p::l) k=0:=G3 λq c=>by
 rcases bD.mp c with rfl|z
 ·exact J
 ·have:=(bX.mp h.up).1 q z;lia
theorem uniq:∀{l m:Pl},Ok l->Ok m->(∀k,cf l k=cf m k)->l=m
 | [],[],_,_,_=>rfl
 | [],q::m,_,h,e=>by
  have:=e q.1;rw[h.head]at this;exact absurd this.symm<|h.nz q<|aL ..
 | p::l,[],h,_,e=>by
  have:=e p.1;rw[h.head]at this;exact absurd this<|h.nz p<|aL ..
 | p::l,q::m,h,h',e=>by
  have d:=h.nz p<|aL ..;have f:=h'.nz q<|aL ..;have e1:p.1=q.1:=by
   rcases Int.lt_trichotomy p.1 q.1 with c|c|c
   ·have:=e p.1;rw[h.head,h'.low c]at this;exact absurd this d
   ·exact c
   ·have:=e q.1;rw[h'.head,h.low c]at this;exact absurd this.symm f
  have e2:p.2=q.2:=by
   have:=e p.1;rw[h.head,e1,h'.head]at this;exact this
  have e3:p=q:=Prod.ext e1 e2;subst e3;rw[uniq h.tail h'.tail λk=>by
   have:(if p.1=k then p.2 else 0)+cf l k=(if p.1=k then p.2 else 0)+cf m k:=e k
   lia]
abbrev yW (d:Pl):Pl:=((sortI<|d.map Prod.fst).filter λk=>val d k != 0).map λk=>(k,val d k)
def UH{ks:ag}(h:ks.Nodup):(sortI ks).Pairwise (· < ·):=by
 have p:=Bc ks;have n:(sortI ks).Nodup:=(sortI_perm ks).nodup_iff.mpr h;have:(sortI ks).Pairwise λa b=>a<=b/\a≠b:=p.and n;exact this.imp λ⟨a,b⟩=>()
def Aj{d:Pl}(h:(d.map Prod.fst).Nodup):Ok (yW d):=by
 refine⟨?_,λp c=>?_⟩
 ·unfold yW;rw[cB];exact(UH h).filter _
 ·obtain⟨k,e,rfl⟩:=aV.mp c;have:=(bK.mp e).2;simpa using this
theorem RE{d:Pl}{k:Int}:∀{ks:ag},ks.Nodup->cf (ks.map λj=>(j,val d j)) k=if k∈ks then val d k else 0
 | [],_=>by rw[aI<|by simp];rfl
 | j::ks,h=>by
  obtain⟨h1,h2⟩:=cT.mp h;show(if j=k then val d j else 0)+cf (ks.map λj=>(j,val d j)) k=_;rw[RE h2];by_cases c:j=k
  ·subst c;rw[aK rfl,aI h1,aK<|aL ..,b6]
  ·rw[aI c,bV];by_cases e:k∈ks
   ·rw[aK e,aK<|aN _ e]
   ·rw[aI e,aI λz=>(bD.mp z).elim (λz=>c z.symm) e]
def yF{d:Pl}(h:(d.map Prod.fst).Nodup)(k:Int):cf (yW d) k=val d k:=by
 unfold yW;rw[RE<|((sortI_perm _).nodup_iff.mpr h).filter _];split
 ·rfl
 ·rename_i c
  cases e:has d k with
  | false=>exact(Jm e).symm
  | true=>
   by_cases z:val d k=0
   ·exact z.symm
   ·exact absurd (bK.mpr ⟨(sortI_perm _).mem_iff.mpr<|sH.mp e,by simpa using z⟩) c
def W9{d e:Pl}(h:(d.map Prod.fst).Nodup)(h':(e.map Prod.fst).Nodup)(hv:∀k,val d k=val e k):yW d=yW e:=
 uniq (Aj h) (Aj h') λk=>by rw[yF h,yF h',hv]
def Ok.nd{l:Pl}(h:Ok l):(l.map Prod.fst).Nodup:=by
 unfold List.Nodup;rw[cB];exact h.up.imp λa=>()
def yz{l:Pl}(h:(l.map Prod.fst).Nodup)(k:Int):val l k=cf l k:=by
 induction l with
 | nil=>rfl
 | cons p l d=>
  obtain⟨h1,h2⟩:=cT.mp h;rw[oq];show _=(if p.1=k then p.2 else 0)+cf l k;rw[<- d h2];by_cases c:p.1=k
  ·have:has l k=false:=by
    cases e:has l k with
    | false=>rfl
    | true=>exact absurd (sH.mp e)<|by rw[<- c];exact h1
   rw[aK c,aK c,Jm this,b6]
  ·rw[aI c,aI c,bV]
abbrev OV (d ps:Pl):Pl:=ps.foldl (λd p=>put d p.1 p.2) d
theorem Lm:∀(ps d:Pl),((d++ps).map Prod.fst).Nodup->OV d ps=d++ps
 | [],d,_=>by rw[cR];rfl
 | p::ps,d,h=>by
  have hn:has d p.1=false:=by
   cases e:has d p.1 with
   | false=>rfl
   | true=>
    rw[bN,dw]at h;exact absurd rfl<|h.2.2 _ (sH.mp e) p.1<|fL<|aL ..
  have e:put d p.1 p.2=d++[p]:=by unfold put;rw[hn];rfl
  show OV (put d p.1 p.2) ps=_;rw[e,Lm ps (d++[p])<|by rw[cA];exact h,cA];rfl
def Ln{l:Pl}(h:Ok l):OV [] l=l:=Lm l [] h.nd
abbrev plus (a b:Pl):Pl:=yW<|o_ a b
abbrev pM (a b:Pl):Pl:=yW<|o_ []<|a++b
def UE{a b:Pl}(h:Ok a):plus a b=pM a b:=by
 refine W9 (sI _ h.nd) (sI _ dP) λk=>?_;rw[uE,uE,yz h.nd];have:∀(a b:Pl),cf (a++b) k=cf a k+cf b k:=λa b=>by
  induction a with
  | nil=>exact(bV _).symm
  | cons p a c=>
   show _+cf (a++b) k=_+_+_;rw[c,dD]
 rw[this];show _=0+_;rw[bV]
def Gj(a b:Pl):Ok (pM a b):=Aj<|sI _ dP
abbrev HA (a b:Pl):Pl:=a.flatMap λp=>b.map λq=>(p.1+q.1,p.2 * q.2)
abbrev times (a b:Pl):Pl:=yW<|o_ []<|HA a b
def Rx(a:Pl)(p:Int×Int)(b:Pl):HA (a++[p]) b=HA a b++b.map λq=>(p.1+q.1,p.2 * q.2):=by
 unfold HA;rw[List.flatMap_append,fG,List.flatMap_nil,cR]
def Dt(a b:Pl):(HA a b).length=a.length * b.length:=by
 induction a with
 | nil=>simp[HA]
 | cons p a c=>
  show((b.map _)++HA a b).length=_;rw[br,aH,c,bJ,fS]
  lia
def Ko(d:Pl):(yW d).length<=d.length:=by
 unfold Po.yW;rw[aH];refine bG (cG _ _) ?_;rw[(sortI_perm _).length_eq,aH];exact aR _
abbrev turn (a:Pl):Pl:=a.reverse.map λp=>(-p.1,p.2)
abbrev iv (d:Pl):List (Int×A):=d.map λp=>(p.1,.int p.2)
abbrev pA (p:Int×Int):A:=.tup [.int p.1,.int p.2]
abbrev pl (l:Pl):ae:=l.map pA
def zW(d:Pl)(k:Int):k_ (iv d) k=(d.find? λp=>decide<|p.1=k).map λp=>.int p.2:=by
 unfold k_ iv;rw[iu,eY];rfl
def Be(d:Pl)(k:Int):(k_ (iv d) k).getD (.int 0)=.int (val d k):=by
 rw[zW];unfold val
 cases d.find? λp=>decide (p.1=k)<;>rfl
def sj{d:Pl}{k:Int}(h:k∈d.map Prod.fst):k_ (iv d) k=some (.int<|val d k):=by
 have:=sH.mpr h;unfold has at this;rw[zW];unfold val
 cases e:d.find? λp=>decide (p.1=k)with
 | some p=>rfl
 | none=>
  obtain⟨p,c,f⟩:=gr.mp this;exact absurd f<|gP.mp e p c
def xX(d:Pl)(k v:Int):rV (iv d) k (.int v)=iv (put d k v):=by
 have e:(k_ (iv d) k).isSome=has d k:=by
  rw[zW,fZ];unfold has;rw[Bool.eq_iff_iff,f7,gr]
 unfold rV put;rw[e];unfold iv;split
 ·rw[bq,bq];apply cQ;intro p _;show(if p.1=k then(p.1,A.int v)else(p.1,.int p.2))=_;show _=((if p.1=k then(p.1,v)else p).1,A.int (if p.1=k then(p.1,v)else p).2);split<;>rfl
 ·rw[bN];rfl
def Lx(d:Pl):(iv d).map Prod.fst=d.map Prod.fst:=by
 unfold iv;rw[bq];rfl
theorem QE:∀l:Pl,UW (pl l)=some (iv l)
 | []=>rfl
 | p::l=>by
  show(UW<|pl l).map _=_;rw[QE l];rfl
def Jo(l:Pl):Vp (iv l)=iv (OV [] l):=by
 have:∀(l d:Pl),(iv l).foldl (λacc p=>rV acc p.1 p.2) (iv d)=iv (OV d l):=by
  intro l
  induction l with
  | nil=>intro d;rfl
  | cons p l c=>
   intro d;show(iv l).foldl _ (rV (iv d) p.1<|.int p.2)=_;rw[xX,c];rfl
 exact this l []
end Po
namespace Tb
abbrev fg (r:ag)(x:Int):Nat:=r.findIdx λy=>decide<|x<y
abbrev put:List (ag)->Int->List (ag)
 | [],x=>[[x]]
 | r::rs,x=>if fg r x=r.length then(r++[x])::rs else r.set (fg r x) x::put rs (r.getD (fg r x) 0)
abbrev row:List (ag)->Int->Nat
 | [],_=>0
 | r::rs,x=>if fg r x=r.length then 0 else row rs (r.getD (fg r x) 0)+1
abbrev add:List (ag)->Nat->Int->List (ag)
 | [],_,k=>[[k]]
 | q::qs,0,k=>(q++[k])::qs
 | q::qs,i+1,k=>q::add qs i k
abbrev gs (r:ag)(x:Int):am:=(List.range r.length).filter λk=>decide<|x<r.getD k 0
end Tb
namespace Am
open PySem L2
abbrev Rows (S:jD):am->List (ag)->Prop
 | [],[]=>True
 | r::rs,x::T=>jE S r=some (x.map .int)/\Rows S rs T
 | _,_=>False
theorem BA{s:Src}{g:Tg}{e:Ex}{T:ae->Prop}(P:Nat->ae->jD->Prop)
  (step:∀i acc τ S,i<s.k->T τ->P i acc S->∃x τ1 S1 y S3,s.get i S=some x/\g x τ S=.ok τ1 S1/\T τ1/\e τ1 S1=.ok y S3/\P (i+1) (acc++[y]) S3) (J:∀acc S,P s.k acc S->s.fin S=true) :
  ∀k i acc τ S,k+i=s.k->T τ->P i acc S->∃ys S',m9 s g oW e k i τ S=.ok ys S'/\P s.k (acc++ys) S'
 | 0,i,acc,τ,S,hk,hT,hP=>by
  have:i=s.k:=()
  subst this;exact⟨[],S,by unfold m9;rw[aK<|J acc S hP],by rw[cR];exact hP⟩
 | k+1,i,acc,τ,S,hk,hT,hP=>by
  obtain⟨x,τ1,S1,y,S3,f,hg,d,j,c⟩:=step i acc τ S () hT hP;obtain⟨ys,S',h1,h2⟩:=BA P step J k (i+1) (acc++[y]) τ1 S3 () d c;refine⟨y::ys,S',?_,by rw[cA]at h2;exact h2⟩;unfold m9;rw[f,jT,hg,R.lB];show(e τ1 S1).r_ _=_;rw[j,R.lB,h1];rfl
def eq_nil{a b:Nat}{xs:ae}(h:jE S a=some xs)(h':jE S b=some []):qS S 12 (.ref a) (.ref b)=some xs.isEmpty:=by
 show(jE S a).bind (λxs=>(jE S b).bind λys=>qo (qS S 11) xs ys)=_;rw[h,di,h',di]
 cases xs<;>rfl
def NY{a b:A}{k:Bool}(h:qS S 12 a b=some k):vN false a b S=.ok (.bl k) S:=by unfold vN;rw[h];rfl
def Qq{a b:A}{k:Bool}(h:qS S 12 a b=some k):vN true a b S=.ok (.bl<|!k) S:=by unfold vN;rw[h];rfl
def Ax{xs:ae}{n:Nat}{src:Ic}{t:Te}{e:Ex}{S:jD}(hs:src τ S=.ok (kY n xs.length) S)(J:jE S n=some xs)(p:A->Bool)(f:A->A)
  (U:∀x∈xs,t (x::lN cap τ) S=.ok (p x) S) (he:∀x∈xs,p x=true->e (x::lN cap τ) S=.ok (f x) S) (hl:xs.length<=16777216) :
  kF (none::cap) src (kh 0) t e τ S=.ok (.ref S.length) (S++[.lst<|(xs.filter p).map f]):=by
 have d:∀i,i<xs.length->xs.getD i .unb∈xs:=λi c=>by
  rw[aJ,aF c];exact dZ c
 rw[yr hs (λi=>xs.getD i .unb) (λi=>p<|xs.getD i .unb) (λi=>f<|xs.getD i .unb) (λi c=>by
  have c:i<xs.length:=c;show(jE S n).bind _=_;rw[J,di,aJ,aF c];rfl) (by
   show(match jE S n with
    | some ys=>decide (ys.length<=xs.length)
    | none=>false)=true
   rw[J];simp) (λi c=>U _<|d i c) (λi c=>he _<|d i c) hl]
 have:=nk xs p f .unb;show R.ok _ (S++[O.lst<|((List.range xs.length).filter _).map _])=_;rw[this]
def getD_at{r:ag}{k:Nat}(h:k<r.length):r[k]?=some (r.getD k 0):=by rw[aJ,aF h];rfl
end Am
namespace Am
open PySem L2 Po
def Ba(l:Pl):(pl l).length=l.length:=aH ..
def Di{xs:ae}{n:Nat}{src:Ic}{t:Te}{e:Ex}{S1:jD}(hs:src τ S=.ok (kY n xs.length) S1)(J:jE S1 n=some xs)(p:A->Bool)(f:A->A)
  (U:∀x∈xs,t (x::lN cap τ) S1=.ok (p x) S1) (he:∀x∈xs,p x=true->e (x::lN cap τ) S1=.ok (f x) S1) (hl:xs.length<=16777216) :
  kF (none::cap) src (kh 0) t e τ S=.ok (.ref S1.length) (S1++[.lst<|(xs.filter p).map f]):=by
 have:=Ax (S:=S1) (src:=λ_ _=>.ok (kY n xs.length) S1) (τ:=τ) rfl J p f U he hl;unfold kF at this ⊢;rw[hs];exact this
def uG{S:jD}{d:List<|Int×A}:kj (S++[.nG d]) S.length=some d:=qX HC
def Xi{o:O}{n:Nat}{d:List<|Int×A}(h:kj S n=some d):kj (S++[o]) n=some d:=by
 have h':=lY h;exact qX<|by rw[bB (aG.mp h').1];exact h'
def Dj{S:jD}{n:Nat}{d:List<|Int×A}(h:kj S n=some d):n<S.length:=(aG.mp<|lY h).1
def EL{S:jD}{n:Nat}{d:List<|Int×A}(h:n<S.length):kj (S.set n<|.nG d) n=some d:=qX<|bM h
def Kp.dk{b:Nat->Prop}(h:Kp b S S')(n:Nat)(d:List<|Int×A)(J:¬b n)(e:kj S n=some d):kj S' n=some d:=qX<|h.obj n _ J<|lY e
def LR{n:Nat}{d:List<|Int×A}(h:kj S n=some d)(h':jE S m=some xs):n≠m:=λz=>by
 subst z;have e1:=lY h;rw[jS h']at e1
 cases e1
def zg{f:A->ae->jD->R A}{co:Ex}{d:qc}:Hw f co d τ S=(co τ S).bind λx S1=>opt (dk? x S1) λ_=>(d τ S1).bind λas S2=>f x as S2:=rfl
def EY{n:Nat}:dk? (.ref n) S=(kj S n).map λ_=>Unit.unit:=rfl
def xJ{n:Nat}{k:Int}:vO (.ref n) [.int k,y] S=opt (kj S n) λkvs=>.ok ((k_ kvs k).getD y) S:=rfl
def zZ{co J:Ex}{a:A}:Fv co J a τ S=(co τ S).bind λo S1=>(J τ S1).bind λi S2=>(De o i a S2).bind λ_ S3=>.ok τ S3:=rfl
def xB{n:Nat}{k:Int}{v:A}{S:jD}:De (.ref n) (.int k) v S=opt (kj S n) λkvs=>gd (kvs.length<sizeLine) (.ok Unit.unit<|S.set n<|.nG<|rV kvs k v):=rfl
def JG{n:Nat}{k:Int}:An (.ref n) (.int k) S=opt (kj S n) λkvs=>opt (k_ kvs k) λv=>.ok v S:=rfl
def sC{S:jD}:x_ τ S=.ok (.ref S.length) (S++[.nG []]):=rfl
def MP{n:Nat}{S:jD}:AZ (.ref n) S=opt (kj S n) λkvs=>.ok (.ref S.length) (S++[.lst<|(sortI<|kvs.map Prod.fst).map .int]):=rfl
def C7{n:Nat}{S:jD}:Dq (.ref n) S=opt (jE S n) λxs=>opt (UW xs) λps=>.ok (.ref S.length) (S++[.nG<|Vp ps]):=rfl
def ab1{i j:Int}(h:i.natAbs<big)(h':j.natAbs<big):FP (.int i) (.int j) S=.ok (.int<|i * j) S:=pN ⟨h,h'⟩
def EJ(d:Pl):(iv d).length=d.length:=aH ..
meta abbrev Xs:Sm:=kI (jO mE (Hw vO (jB 2)<|jA (jB 3)<|jA (eC<|.int 0)<|jL)<|jB 4)<|Fv (jB 2)<|jB 3
def acc_step{S:jD}{d:Nat}{D:Pl}{k v:Int}(J:kj S d=some (iv D))(U:D.length<16777216):Xs [x0,x1,.ref d,.int k,.int v] S=.nx [x0,x1,.ref d,.int k,.int v] (S.set d<|.nG<|iv<|acc D k v):=by
 unfold Xs;dsimp[ki,bools,zg,EY,J,dH,xJ,Be,zZ,xB,tX<|show(iv D).length<16777216 by rw[EJ];exact U,xX];rfl
meta abbrev Nx:Tg:=y_ 2<|qw (kh 3)<|qw (kh 4) za
def Vd{d n:Nat}{D l:Pl}{src:Ic}(hs:src [x0,x1,.ref d,x3,x4] S=.ok (kY n (pl l).length) S1)(hn:jE S1 n=some (pl l))(J:kj S1 d=some (iv D))(U:D.length+l.length<16777216) :
  ∃y3 y4 S',lO src Nx Xs [x0,x1,.ref d,x3,x4] S=.nx [x0,x1,.ref d,y3,y4] S'/\kj S' d=some (iv<|o_ D l)/\Kp (·=d) S1 S':=by
 have nd:=LR J hn;refine vf (n:=n) (xs:=pl l) hs (λi τ T=>(∃y3 y4,τ=[x0,x1,.ref d,y3,y4])/\kj T d=some (iv<|o_ D<|l.take i)/\Kp (·=d) S1 T)
  (λr=>∃y3 y4 S',r=.nx [x0,x1,.ref d,y3,y4] S'/\kj S' d=some (iv<|o_ D l)/\Kp (·=d) S1 S') ⟨⟨_,_,rfl⟩,J,Kp.refl⟩ (λi τ T h=>h.2.2.lst _ _ (cV nd) hn) ?_ ?_
 ·rintro i z τ T f ⟨⟨y3,y4,rfl⟩,e,kp⟩;unfold pl at f;rw[aO]at f;obtain⟨p,g,rfl⟩:=aX.mp f;refine⟨[x0,x1,.ref d,.int p.1,.int p.2],T,rfl,.inl ?_⟩;have c:=oF (l.take i) D;have j:=(aG.mp g).1;rw[bU]at c;refine⟨_,_,acc_step e<|by omega,⟨_,_,rfl⟩,?_,kp.yZ<|.inl rfl⟩;rw[EL<|Dj e,cC,g,xF];rfl
 ·rintro τ T ⟨⟨y3,y4,rfl⟩,e,kp⟩;rw[Ba,cL]at e;exact⟨y3,y4,T,rfl,e,kp⟩
meta abbrev Tz:Sm:=kI (jO mE (Hw vO (jB 2)<|jA (jO mE (jB 3)<|jB 5)<|jA (eC<|.int 0)<|jL)<|jO FP (jB 4)<|jB 6)<|Fv (jB 2)<|jO mE (jB 3)<|jB 5
meta abbrev g56:Tg:=y_ 2<|qw (kh 5)<|qw (kh 6) za
def O1{S:jD}{d:Nat}{D:Pl}{k v j u:Int}(J:kj S d=some (iv D))(U:D.length<16777216)(hv:v.natAbs<big)(hu:u.natAbs<big):Tz [x0,x1,.ref d,.int k,.int v,.int j,.int u] S=.nx [x0,x1,.ref d,.int k,.int v,.int j,.int u] (S.set d<|.nG<|iv<|acc D (k+j)<|v * u):=by
 unfold Tz;dsimp[ki,bools,zg,EY,J,dH,xJ,Be,ab1 hv hu,zZ,xB,tX<|show(iv D).length<16777216 by rw[EJ];exact U,xX];rfl
def Vf{d n:Nat}{D l:Pl}{k v:Int}(hn:jE S n=some (pl l))(J:kj S d=some (iv D))(hl:D.length+l.length<16777216)(hv:v.natAbs<big)(U:∀p∈l,p.2.natAbs<big) :
  ∃y5 y6 S',lO (lV<|jB 1) g56 Tz [x0,.ref n,.ref d,.int k,.int v,x5,x6] S=.nx [x0,.ref n,.ref d,.int k,.int v,y5,y6] S'/\kj S' d=some (iv<|o_ D<|l.map λq=>(k+q.1,v * q.2))/\Kp (·=d) S S':=by
 have nd:=LR J hn;refine vf (n:=n) (xs:=pl l) (S1:=S) (m8 (by dsimp[ki,bools]) hn) (λi τ T=>(∃y5 y6,τ=[x0,.ref n,.ref d,.int k,.int v,y5,y6])/\kj T d=some (iv<|o_ D<|(l.take i).map λq=>(k+q.1,v * q.2))/\Kp (·=d) S T)
  (λr=>∃y5 y6 S',r=.nx [x0,.ref n,.ref d,.int k,.int v,y5,y6] S'/\kj S' d=some (iv<|o_ D<|l.map λq=>(k+q.1,v * q.2))/\Kp (·=d) S S') ⟨⟨_,_,rfl⟩,J,Kp.refl⟩ (λi τ T h=>h.2.2.lst _ _ (cV nd) hn) ?_ ?_
 ·rintro i z τ T g ⟨⟨y5,y6,rfl⟩,e,kp⟩;unfold pl at g;rw[aO]at g;obtain⟨p,f,rfl⟩:=aX.mp g;refine⟨[x0,.ref n,.ref d,.int k,.int v,.int p.1,.int p.2],T,rfl,.inl ?_⟩;have c:=oF ((l.take i).map λq=>(k+q.1,v * q.2)) D;have j:=(aG.mp f).1;rw[aH,bU]at c;refine⟨_,_,O1 e (by omega) hv<|U p<|aW f,⟨_,_,rfl⟩,?_,kp.yZ<|.inl rfl⟩;rw[EL<|Dj e,cC,f,bN,xF];rfl
 ·rintro τ T ⟨⟨y5,y6,rfl⟩,e,kp⟩;rw[Ba,cL]at e;exact⟨y5,y6,T,rfl,e,kp⟩
meta abbrev Y0:Sm:=lO (lV<|jB 1) g56 Tz
def HM(f:Int×Int->A)(hf:∀p τ S,Nx (f p) τ S=Nx (pA p) τ S){d n:Nat}{a b:Pl}(hn:jE S n=some (a.map f))(hm:jE S m=some (pl b))(U:kj S d=some [])(hl:a.length * b.length<16777216)(ha:∀p∈a,p.2.natAbs<big)(hb:∀p∈b,p.2.natAbs<big) :
  ∃y3 y4 y5 y6 S',lO (lV<|jB 0) Nx Y0 [.ref n,.ref m,.ref d,x3,x4,x5,x6] S=.nx [.ref n,.ref m,.ref d,y3,y4,y5,y6] S'/\kj S' d=some (iv<|o_ []<|HA a b)/\Kp (·=d) S S':=by
 have nd:=LR U hn;have F:=LR U hm;refine vf (n:=n) (xs:=a.map f) (S1:=S) (m8 (by dsimp[ki,bools]) hn) (λi τ T=>(∃y3 y4 y5 y6,τ=[.ref n,.ref m,.ref d,y3,y4,y5,y6])/\kj T d=some (iv<|o_ []<|HA (a.take i) b)/\Kp (·=d) S T)
  (λr=>∃y3 y4 y5 y6 S',r=.nx [.ref n,.ref m,.ref d,y3,y4,y5,y6] S'/\kj S' d=some (iv<|o_ []<|HA a b)/\Kp (·=d) S S') ⟨⟨_,_,_,_,rfl⟩,U,Kp.refl⟩ (λi τ T h=>h.2.2.lst _ _ (cV nd) hn) ?_ ?_
 ·rintro i z τ T D ⟨⟨y3,y4,y5,y6,rfl⟩,g,kp⟩;rw[aO]at D;obtain⟨p,j,rfl⟩:=aX.mp D;refine⟨[.ref n,.ref m,.ref d,.int p.1,.int p.2,y5,y6],T,hf _ _ _,.inl ?_⟩;have c:=oF (HA (a.take i) b) [];have B:=(aG.mp j).1;rw[Dt,bU,Nat.min_eq_left<|d7 B,cZ,cN]at c;have C:i * b.length+b.length<=a.length * b.length:=by rw[<- fS];exact dh _ B
  obtain⟨K,J,G,e,t,q⟩:=Vf (x0:=.ref n) (x5:=y5) (x6:=y6) (k:=p.1) (v:=p.2) (kp.lst _ _ (cV F) hm) g () (ha p<|aW j) hb;refine⟨_,_,e,⟨_,_,_,_,rfl⟩,?_,kp.trans q⟩;rw[t,cC,j,Option.toList_some,Rx,xF]
 ·rintro τ T ⟨⟨y3,y4,y5,y6,rfl⟩,g,kp⟩;rw[aH,cL]at g;exact⟨y3,y4,y5,y6,T,rfl,g,kp⟩
meta abbrev adl:Ex:=kF [none,some 0] (lV<|jZ (f1 AZ)<|jA (jB 0)<|jL) (kh 0) (wV<|jO (vN true) (jO An (jB 1)<|jB 0)<|eC<|.int 0)<|qP<|jA (jB 0)<|jA (jO An (jB 1)<|jB 0)<|jL
def Zm{S:jD}{d:Nat}{D:Pl}(J:kj S d=some (iv D))(U:D.length<=16777216):∃S',adl [.ref d] S=.ok (.ref<|S.length+1) S'/\jE S' (S.length+1)=some (pl<|yW D)/\l7 S S':=by
 have f:kj (S++[.lst<|(sortI<|D.map Prod.fst).map .int]) d=some (iv D):=Xi J;have j:(S++[O.lst<|(sortI<|D.map Prod.fst).map A.int]).length=S.length+1:=by simp
 have m:=Di (n:=S.length) (xs:=(sortI<|D.map Prod.fst).map A.int) (cap:=[some 0]) (src:=lV<|jZ (f1 AZ)<|jA (jB 0)<|jL) (t:=wV<|jO (vN true) (jO An (jB 1)<|jB 0)<|eC<|.int 0) (e:=qP<|jA (jB 0)<|jA (jO An (jB 1)<|jB 0)<|jL) (τ:=[.ref d]) (S:=S) (S1:=S++[.lst<|(sortI<|D.map Prod.fst).map .int])
  (m8 (by dsimp[ki,bools,MP,J,Lx]) jW) jW (λx=>match x with | .int k=>val D k != 0|_=>false) (λx=>match x with | .int k=>pA (k,val D k)|_=>.non) (λx g=>by
   obtain⟨k,c,rfl⟩:=aV.mp g;have c:=(sortI_perm _).mem_iff.mp c;dsimp[ki,bools,JG,f,sj c];rfl) (λx g _=>by
   obtain⟨k,c,rfl⟩:=aV.mp g;have c:=(sortI_perm _).mem_iff.mp c;dsimp[ki,bools,JG,f,sj c];exact p8<|show 2<=16777216 by decide) (by rw[aH,(sortI_perm _).length_eq,aH];exact U)
 refine⟨_,m.trans<|by rw[j],?_,Kp.refl.lay.lay⟩;rw[<- j,jW];congr 1;unfold pl yW;rw[bq,jt,bq];rfl
end Am
namespace Su
open Am Po PySem L2
meta abbrev En:=ag×Nat×Pl
meta abbrev Es:=List En
abbrev ent (e:En):A:=.tup [.tup<|e.1.map .int,.ref e.2.1]
abbrev kv (e:En):ag×A:=(e.1,.ref e.2.1)
abbrev At (S:jD)(es:Es):Prop:=∀e∈es,jE S e.2.1=some (pl e.2.2)
meta abbrev Ps:=List<|ag×Pl
abbrev sm (es:Es):Ps:=es.map λe=>(e.1,e.2.2)
def pW(es:Es):(sm es).length=es.length:=aH ..
def vZ(a b:Es):sm (a++b)=sm a++sm b:=bN
abbrev vS (D:Ps)(o:ag):Pl:=((D.find? λe=>decide<|e.1=o).map (·.2)).getD []
abbrev hS (D:Ps)(o:ag):Bool:=D.any λe=>decide<|e.1=o
abbrev yi (D:Ps)(o:ag)(p:Pl):Ps:=if hS D o=true then D.map (λe=>if e.1=o then(e.1,p)else e)else D++[(o,p)]
abbrev A4 (D:Ps)(o:ag)(p:Pl):Ps:=yi D o<|pM (vS D o) p
abbrev adds (D l:Ps):Ps:=l.foldl (λD e=>A4 D e.1 e.2) D
def Oj(D a b:Ps):adds D (a++b)=adds (adds D a) b:=by unfold adds;rw[dz]
abbrev toS (D:Ps):Ps:=((lg<|D.map Prod.fst).filter λo=>!(vS D o).isEmpty).map λo=>(o,vS D o)
abbrev fE (D:Es)(o:ag):Option En:=D.find? λe=>decide<|e.1=o
abbrev l_ (D:Es)(o:ag)(r:Nat)(p:Pl):Es:=if (fE D o).isSome=true then D.map (λe=>if e.1=o then(e.1,r,p)else e)else D++[(o,r,p)]
def TF(D:Es)(o:ag):(sm D).find? (λe=>decide<|e.1=o)=(fE D o).map λe=>(e.1,e.2.2):=by
 unfold sm fE;rw[iu];rfl
def GG(D:Es)(o:ag):vS (sm D) o=((fE D o).map λe=>e.2.2).getD []:=by
 unfold vS;rw[TF,eY];rfl
def acS(D:Es)(o:ag):hS (sm D) o=(fE D o).isSome:=by
 unfold hS sm fE;rw[List.any_map,Bool.eq_iff_iff,f7,gr];rfl
def E_(D:Es)(o:ag)(r:Nat)(p:Pl):sm (l_ D o r p)=yi (sm D) o p:=by
 unfold l_ yi;rw[acS];unfold sm;split
 ·rw[bq,bq];apply cQ;intro e _;show((if e.1=o then(e.1,r,p)else e).1,(if e.1=o then(e.1,r,p)else e).2.2)=if e.1=o then(e.1,p)else(e.1,e.2.2)
  split<;>rfl
 ·rw[bN];rfl
def oR(D:Es)(o:ag):kK (D.map kv) o=(fE D o).map λe=>.ref e.2.1:=by
 unfold kK fE;rw[iu,eY];rfl
def BK(D:Es)(o:ag)(r:Nat)(p:Pl):putD (D.map kv) o (.ref r)=(l_ D o r p).map kv:=by
 unfold putD l_;rw[oR,fZ];split
 ·rw[bq,bq];apply cQ;intro e _;show(if e.1=o then(e.1,A.ref r)else(e.1,.ref e.2.1))=kv (if e.1=o then(e.1,r,p)else e);split<;>rfl
 ·rw[bN];rfl
def nM{D:Es}{r:Nat}{p:Pl}{e:En}(h:e∈l_ D o r p):e∈D\/e=(o,r,p):=by
 unfold l_ at h;split at h
 ·obtain⟨d,h1,rfl⟩:=aV.mp h;split
  ·rename_i c;exact .inr (by rw[c])
  ·exact .inl h1
 ·rcases bz.mp h with z|z
  ·exact .inl z
  ·exact .inr<|aQ.mp z
def Uq{D:Es}{r:Nat}{p:Pl}:(l_ D o r p).length<=D.length+1:=by
 unfold l_;split
 ·rw[aH];lia
 ·rw[br];exact aR _
def pZ{D:Es}{e:En}(h:fE D o=some e):e∈D/\e.1=o:=⟨fj h,by
 unfold fE at h;have:=iL h;simpa using this⟩
def At.put{D:Es}{r:Nat}{p:Pl}(h:At S D)(J:jE S r=some (pl p)):At S (l_ D o r p):=λe c=>by
 rcases nM c with z|z
 ·exact h e z
 ·rw[z];exact J
def At.kp{D:Es}{b:Nat->Prop}(h:At S D)(k:Kp b S S')(J:∀e∈D,¬b e.2.1):At S' D:=λe c=>k.lst _ _ (J e c)<|h e c
def At.uy{D:Es}(h:At S D)(k:l7 S S'):At S' D:=h.kp k λ_ _ z=>z
def At.app{a b:Es}(h:At S a)(h':At S b):At S (a++b):=λe c=>(bz.mp c).elim (h e)<|h' e
def tQ{n:Nat}{d:List<|ag×A}(h:jX S n=some d)(h':jE S m=some xs):n≠m:=λz=>by
 subst z;have e1:=l8 h;rw[jS h']at e1
 cases e1
def At.Nb{D:Es}{d:Nat}(h:At S D)(k:Kp (·=d) S S')(J:jX S d=some kvs):At S' D:=h.kp k λe c z=>tQ J (h e c) z.symm
abbrev Vl (k b:Nat)(D:Es):Prop:=∀e∈D,Ok e.2.2/\e.2.2.length<=k/\b<=e.2.1
def Vl.mono{k b:Nat}{D:Es}(h:Vl k b D)(J:k<=k'):Vl k' b D:=λe c=>⟨(h e c).1,bG (h e c).2.1 J,(h e c).2.2⟩
def Vl.v{k b:Nat}{D:Es}(h:Vl k b D)(o:ag):Ok (vS (sm D) o)/\(vS (sm D) o).length<=k:=by
 rw[GG]
 cases e:fE D o with
 | none=>exact⟨⟨List.Pairwise.nil,nofun⟩,bP _⟩
 | some c=>exact⟨(h c (pZ e).1).1,(h c (pZ e).1).2.1⟩
def MZ(a b:Pl):(pM a b).length<=a.length+b.length:=by
 refine bG (Ko _)<|bG (oF _ _) ?_;rw[br,cZ];lia
def CN(a b:Pl):(times a b).length<=a.length * b.length:=by
 refine bG (Ko _)<|bG (oF _ _) ?_;rw[Dt,cZ];lia
def Vl.add{k b r:Nat}{D:Es}{p:Pl}(h:Vl k b D)(U:p.length<=j)(J:b<=r):Vl (k+j) b (l_ D o r<|pM (vS (sm D) o) p):=λe c=>by
 rcases nM c with z|z
 ·exact(h.mono<|jf _ _) e z
 ·rw[z];refine⟨Gj _ _,?_,J⟩;have:=MZ (vS (sm D) o) p;have:=(h.v o).2;show(pM (vS (sm D) o) p).length<=_
  lia
def pL{S:jD}:jX (S++[.dct xs]) S.length=some xs:=r9 HC
def JW{o:O}{n:Nat}(h:jX S n=some xs):jX (S++[o]) n=some xs:=by
 have h':=l8 h;exact r9<|by rw[bB (aG.mp h').1];exact h'
def mH{S:jD}{n:Nat}(h:jX S n=some xs):n<S.length:=(aG.mp<|l8 h).1
def vt{S:jD}{n:Nat}(h:n<S.length):jX (S.set n<|.dct ys) n=some ys:=r9<|bM h
def TH{f:A->ae->jD->R A}{co:Ex}{d:qc}:YH f co d τ S=(co τ S).bind λx S1=>opt (dct? x S1) λ_=>(d τ S1).bind λas S2=>f x as S2:=rfl
def T7{n:Nat}:dct? (.ref n) S=(jX S n).map λ_=>Unit.unit:=rfl
def oM{S:jD}:uB τ S=.ok (.ref S.length) (S++[.dct []]):=rfl
def tH{co J:Ex}{a:A}:BS co J a τ S=(co τ S).bind λo S1=>(J τ S1).bind λi S2=>(xT o i a S2).bind λ_ S3=>.ok τ S3:=rfl
def VB{n:Nat}{o:ag}:YI (.ref n) [.tup<|o.map .int,y] S=opt (jX S n) λkvs=>.ok ((kK kvs o).getD y) S:=by
 show opt (jX S n) (λkvs=>opt (A.ints<|o.map .int) λk=>.ok ((kK kvs k).getD y) S)=_;rw[ints_map];rfl
def r8{n:Nat}{o:ag}{v:A}{S:jD}:xT (.ref n) (.tup<|o.map .int) v S=opt (jX S n) λkvs=>gd (kvs.length<sizeLine) (.ok Unit.unit<|S.set n<|.dct<|putD kvs o v):=by
 show opt (jX S n) (λkvs=>opt (A.ints<|o.map .int) λc=>gd (kvs.length<sizeLine)<|.ok Unit.unit<|S.set n<|.dct<|putD kvs c v)=_;rw[ints_map];rfl
def xK{n:Nat}{o:ag}:yY (.ref n) (.tup<|o.map .int) S=opt (jX S n) λkvs=>opt (kK kvs o) λv=>.ok v S:=by
 show opt (jX S n) (λkvs=>opt (A.ints<|o.map .int) λc=>opt (kK kvs c) λv=>.ok v S)=_;rw[ints_map];rfl
def get_or{S:jD}{d:Nat}{D:Es}(U:jX S d=some (D.map kv))(J:At S D):∃x:Nat,(kK (D.map kv) o).getD (.ref S.length)=.ref x/\jE (S++[.lst []]) x=some (pl<|vS (sm D) o):=by
 rw[oR,GG]
 cases e:fE D o with
 | none=>exact⟨S.length,rfl,jW⟩
 | some c=>exact⟨c.2.1,rfl,lH<|J c (pZ e).1⟩
def DF{α:Type}{xs:List α}(g:α->A){n:Nat}{src:Ic}{t:Te}{e:Ex}(hs:src τ S=.ok (kY n (xs.map g).length) S1)(J:jE S1 n=some (xs.map g))(d:α)(p:α->Bool)(f:α->A)
  (step:∀x∈xs,∀T,l7 S1 T->∃T1,t (g x::lN cap τ) T=.ok (p x) T1/\l7 S1 T1/\(p x=true->∃T2,e (g x::lN cap τ) T1=.ok (f x) T2/\l7 S1 T2)) (U:xs.length<=16777216) :
  ∃S',kF (none::cap) src (kh 0) t e τ S=.ok (.ref S'.length) (S'++[.lst<|(xs.filter p).map f])/\l7 S1 S':=by
 have m:∀i,i<xs.length->xs.getD i d∈xs:=λi c=>by
  rw[aJ,aF c];exact dZ c
 have k:(xs.map g).length=xs.length:=aH ..;obtain⟨S',h1,h2⟩:=vg (s:=kY n (xs.map g).length) (g:=kh 0) (t:=t) (e:=e) (P:=λT=>l7 S1 T) (T:=λj=>∃y,j=y::lN cap τ) (λi=>g<|xs.getD i d) (λi=>p<|xs.getD i d) (λi=>f<|xs.getD i d) (λi T c h=>by
   have c:i<(xs.map g).length:=c;show(jE T n).bind _=_;rw[h.lst _ _ (λz=>z) J,di,aO,aF (),aJ,aF ()];rfl) (λT h=>by
   show(match jE T n with
    | some ys=>decide (ys.length<=(xs.map g).length)
    | none=>false)=true
   rw[h.lst _ _ (λz=>z) J];simp)
  (λi j T c ⟨y,q⟩ h=>by
   have c:i<(xs.map g).length:=c;subst q;obtain⟨T1,e1,B,e2⟩:=step _ (m i ()) T h;exact⟨g (xs.getD i d)::lN cap τ,T,T1,rfl,e1,⟨_,rfl⟩,λ_=>B,e2⟩) (xs.map g).length 0 (lN (none::cap) τ) S1 rfl ⟨_,rfl⟩ Kp.refl
 refine⟨S',?_,h2⟩;unfold kF;rw[hs,R.mF];show(m9 (kY n (xs.map g).length) (kh 0) t e (xs.map g).length 0 (lN (none::cap) τ) S1).r_ _=_;rw[h1,R.lB,<- gc,k,nk xs p f d];refine kZ ?_;rw[aH];exact bG (cG _ _) U
def GF{D:Es}{o:ag}(h:o∈D.map Prod.fst):∃e,fE D o=some e:=by
 unfold fE
 cases e:D.find? λe=>decide (e.1=o)with
 | some x=>exact⟨x,rfl⟩
 | none=>
  obtain⟨x,c,rfl⟩:=aV.mp h;exact absurd (bg rfl)<|gP.mp e x c
abbrev B9 (k:ag):A:=.tup<|k.map .int
def QN{S:jD}{d:Nat}{D:Es}(U:jX S d=some (D.map kv))(J:∀e∈D,e.1≠[]):EH (.ref d) S=.ok (.ref S.length) (S++[.lst<|(lg<|D.map Prod.fst).map B9]):=by
 have c:(D.map kv).map Prod.fst=D.map Prod.fst:=by rw[bq];rfl
 show opt (jX S d) _=_;rw[U,jT];have:((D.map kv).map Prod.fst).all (λks=>!ks.isEmpty)=true:=by
  rw[c,jn,dY];intro e f;have:=J e f;show(!(e.1).isEmpty)=true
  cases h:e.1 with
  | nil=>exact absurd h this
  | cons=>rfl
 rw[c]at this ⊢;rw[this];rfl
abbrev v_ (D:Es)(p:Pl->Bool):Es:=((lg<|D.map Prod.fst).filter λo=>p<|vS (sm D) o).map λo=>(o,((fE D o).map λe=>e.2.1).getD 0,vS (sm D) o)
def Fd(D:Es):sm (v_ D λp=>!p.isEmpty)=toS (sm D):=by
 unfold v_ toS sm;rw[bq,bq];rfl
def Ef{D:Es}{p:Pl->Bool}{e:En}(h:e∈v_ D p):e∈D/\p e.2.2=true:=by
 obtain⟨o,d,rfl⟩:=aV.mp h;obtain⟨h1,h2⟩:=bK.mp d;obtain⟨e,c⟩:=GF<|(j4 _).mem_iff.mp h1;rw[GG,c]at h2;rw[GG,c];obtain⟨m,rfl⟩:=pZ c;exact⟨m,h2⟩
def Rq{S:jD}{d:Nat}{D:Es}{src:Ic}{t:Te}{e:Ex}(U:jX S d=some (D.map kv))(J:At S D)(hs:src τ S=.ok (kY S.length ((lg<|D.map Prod.fst).map B9).length) (S++[.lst<|(lg<|D.map Prod.fst).map B9]))(p:Pl->Bool)
  (ht:∀(o:ag) (r:Nat) (q:Pl) (T:jD),jX T d=some (D.map kv)->kK (D.map kv) o=some (.ref r)->jE T r=some (pl q)->∃T1,t (B9 o::lN cap τ) T=.ok (p q) T1/\l7 T T1)
  (he:∀(o:ag) (r:Nat) (T:jD),jX T d=some (D.map kv)->kK (D.map kv) o=some (.ref r)->e (B9 o::lN cap τ) T=.ok (.tup [B9 o,.ref r]) T) (hl:D.length<=16777216) :
  ∃(n:Nat) (S':jD),kF (none::cap) src (kh 0) t e τ S=.ok (.ref n) S'/\jE S' n=some ((v_ D p).map ent)/\At S' (v_ D p)/\S.length<n/\l7 S S':=by
 have B:l7 S (S++[.lst<|(lg<|D.map Prod.fst).map B9]):=Kp.refl.lay;obtain⟨S',e1,C⟩:=DF B9 (t:=t) (e:=e) (cap:=cap) hs jW [] (λo=>p<|vS (sm D) o) (λo=>ent (o,((fE D o).map λe=>e.2.1).getD 0,vS (sm D) o)) (λo F T j=>by
  obtain⟨g,c⟩:=GF<|(j4 _).mem_iff.mp F;have k:kK (D.map kv) o=some (.ref g.2.1):=by rw[oR,c];rfl
  have f:=B.trans j;have dT:=f.dct _ _ (λz=>z) U;have G:=f.lst _ _ (λz=>z)<|J g (pZ c).1;obtain⟨T1,h1,h2⟩:=ht o g.2.1 g.2.2 T dT k G;rw[GG,c];exact⟨T1,h1,j.trans h2,λ_=>⟨T1,he o g.2.1 T1 (h2.dct _ _ (λz=>z) dT) k,j.trans h2⟩⟩) (by
  rw[(j4 _).length_eq,aH];exact hl)
 have m:=B.trans C;refine⟨S'.length,_,e1,?_,(?_:At S'<|v_ D p).uy Kp.refl.lay,?_,m.lay⟩
 ·rw[jW];unfold v_;rw[bq];rfl
 ·exact λe h=>m.lst _ _ (λz=>z) (J e (Ef h).1)
 ·have:=C.len;rw[br]at this;exact this
abbrev DT (F:ae->jD->R A):Prop:=∀{S:jD}{d r:Nat}{D:Es}{o:ag}{p:Pl}{k b:Nat},jX S d=some (D.map kv)->At S D->Vl k b D->jE S r=some (pl p)->D.length<16777216->k+p.length<16777216 ->
  ∃(L:Nat) (c:jD),F [.ref d,.tup<|o.map .int,.ref r] S=.ok .non c/\jX c d=some ((l_ D o L<|pM (vS (sm D) o) p).map kv)/\At c (l_ D o L<|pM (vS (sm D) o) p)/\S.length<=L/\Kp (·=d) S c
abbrev Ap (D:Es):Prop:=D.Pairwise λe f=>e.1≠f.1/\e.2.1≠f.2.1
def Ap.put{D:Es}{r:Nat}{p:Pl}(h:Ap D)(J:∀e∈D,e.2.1≠r):Ap (l_ D o r p):=by
 unfold l_;split
 ·unfold Ap;rw[cB];refine List.Pairwise.imp_of_mem (λ{e f} d hf z=>?_) h;by_cases c1:e.1=o
  ·have c2:¬f.1=o:=λg=>z.1<|c1.trans g.symm;rw[aK c1,aI c2];exact⟨z.1,λy=>J f hf y.symm⟩
  ·rw[aI c1];by_cases c2:f.1=o
   ·rw[aK c2];exact⟨z.1,J e d⟩
   ·rw[aI c2];exact z
 ·rename_i c;unfold Ap;rw[b9];refine⟨h,bZ _ _,λe d f hf=>?_⟩;rw[aQ.mp hf];refine⟨λz=>c ?_,J e d⟩;unfold fE;rw[f7];exact⟨e,d,bg z⟩
theorem Ap.at{D:Es}(h:Ap D):∀e∈D,∀f∈D,e.1≠f.1->e.2.1≠f.2.1:=by
 unfold Ap at h
 induction h with
 | nil=>exact λe c=>nomatch c
 | @cons a D d _ g=>
  intro e c f hf z
  rcases bD.mp c with h1|h1<;>rcases bD.mp hf with h2|h2
  ·exact absurd (by rw[h1,h2]) z
  ·rw[h1];exact(d f h2).2
  ·rw[h2];exact(d e h1).2.symm
  ·exact g e h1 f h2 z
def Ap.nd{D:Es}(h:Ap D):(D.map Prod.fst).Nodup:=by
 unfold List.Nodup;rw[cB];exact h.imp λz=>z.1
def Ap.out{D:Es}(h:Ap D)(p:Pl->Bool):Ap (v_ D p):=by
 unfold Ap v_;rw[cB];have n:(lg<|D.map Prod.fst).Pairwise (·≠·):=(j4 _).nodup_iff.mpr h.nd;refine List.Pairwise.imp_of_mem (λ{a b} ha hb z=>?_)<|n.filter _;obtain⟨e,c⟩:=GF<|(j4 _).mem_iff.mp (bK.mp ha).1;obtain⟨f,hf⟩:=GF<|(j4 _).mem_iff.mp (bK.mp hb).1;obtain⟨g,e1⟩:=pZ c;obtain⟨d,e2⟩:=pZ hf;refine⟨z,?_⟩;rw[c,hf];exact h.at e g f d<|by rw[e1,e2];exact z
structure Fil (T:jD)(d b i j:Nat)(P:Ps)(D:Es):Prop where
 dd:jX T d=some (D.map kv)
 aa:At T D
 ss:sm D=P
 vv:Vl (i * j) b D
 kk:∀e∈D,e.1≠[]
 ll:D.length<=i
 pw:Ap D
def Fil.mono{d b:Nat}{P:Ps}{D:Es}(h:Fil T d b i j P D)(hi:i<=i'):Fil T d b i' j P D:=⟨h.dd,h.aa,h.ss,h.vv.mono<|dh _ hi,h.kk,bG h.ll hi,h.pw⟩
def Fil.new{d b:Nat}(J:jX S d=some []):Fil S d b 0 j [] []:=⟨J,(nofun),rfl,(nofun),(nofun),aR _,List.Pairwise.nil⟩
def Fil.uy{d b:Nat}{P:Ps}{D:Es}(h:Fil S d b i j P D)(k:l7 S T):Fil T d b i j P D:=⟨k.dct _ _ (λz=>z) h.dd,h.aa.uy k,h.ss,h.vv,h.kk,h.ll,h.pw⟩
def Fil.add{F:ae->jD->R A}(J:DT F){T:jD}{d b r:Nat}{P:Ps}{D:Es}{o:ag}{p:Pl}(h:Fil T d b i j P D)(U:jE T r=some (pl p))(hp:p.length<=j)(ho:o≠[])(hb:b<=T.length)(hl:i * j+j<16777216)(hi:i<16777216) :
  ∃(D':Es) (T':jD),F [.ref d,.tup<|o.map .int,.ref r] T=.ok .non T'/\Fil T' d b (i+1) j (A4 P o p) D'/\Kp (·=d) T T':=by
 have f:=h.ll;obtain⟨L,T',e,h1,h2,h3,g⟩:=J (o:=o) h.dd h.aa h.vv U () ();refine⟨_,T',e,⟨h1,h2,by rw[E_,h.ss];rfl,?_,λe c=>?_,?_,h.pw.put λe c z=>by have:=qB<|h.aa e c;lia⟩,g⟩
 ·have:=h.vv.add (o:=o) (p:=p) (j:=j) hp (show b<=L by lia);rw[fS];exact this
 ·rcases nM c with z|z
  ·exact h.kk e z
  ·rw[z];exact ho
 ·have:=Uq (D:=D) (o:=o) (r:=L) (p:=pM (vS (sm D) o) p)
  lia
def Tv{d n b w:Nat}{P:Ps}{es:Es}{src:Ic}{c:Sm}(G:En->Ps->Ps)(hs:src (x0::x1::.ref d::x3::x4::xs) S=.ok (kY n (es.map ent).length) S1)(hn:jE S1 n=some (es.map ent))(J:Fil S1 d b i0 j P D0)
  (step:∀(i:Nat) (e:En) (T:jD) (Q:Ps) (D:Es),i<es.length->e∈es->Kp (·=d) S1 T->Fil T d b (i0+w * i) j Q D->∃(D':Es) (T':jD),c (x0::x1::.ref d::.tup (e.1.map .int)::.ref e.2.1::xs) T=.nx (x0::x1::.ref d::.tup (e.1.map .int)::.ref e.2.1::xs) T'/\Fil T' d b (i0+w * (i+1)) j (G e Q) D'/\Kp (·=d) T T') :
  ∃(y3 y4:A) (D:Es) (S':jD),lO src Nx c (x0::x1::.ref d::x3::x4::xs) S=.nx (x0::x1::.ref d::y3::y4::xs) S'/\Fil S' d b (i0+w * es.length) j (es.foldl (λQ e=>G e Q) P) D/\Kp (·=d) S1 S':=by
 have k:(es.map ent).length=es.length:=aH ..;refine vf (n:=n) (xs:=es.map ent) (S1:=S1) hs (λi τ T=>(∃y3 y4,τ=x0::x1::.ref d::y3::y4::xs)/\(∃D,Fil T d b (i0+w * i) j ((es.take i).foldl (λQ e=>G e Q) P) D)/\Kp (·=d) S1 T)
  (λr=>∃(y3 y4:A) (D:Es) (S':jD),r=.nx (x0::x1::.ref d::y3::y4::xs) S'/\Fil S' d b (i0+w * es.length) j (es.foldl (λQ e=>G e Q) P) D/\Kp (·=d) S1 S') ⟨⟨_,_,rfl⟩,⟨D0,J⟩,Kp.refl⟩ (λi τ T h=>h.2.2.lst _ _ (cV<|tQ J.dd hn) hn) ?_ ?_
 ·rintro i z τ T m ⟨⟨y3,y4,rfl⟩,⟨D,f⟩,kp⟩;rw[aO]at m;obtain⟨e,g,rfl⟩:=aX.mp m;refine⟨x0::x1::.ref d::.tup (e.1.map .int)::.ref e.2.1::xs,T,rfl,.inl ?_⟩;obtain⟨D',T',e1,q,p⟩:=step i e T _ D (aG.mp g).1 (aW g) kp f;refine⟨_,T',e1,⟨_,_,rfl⟩,⟨D',?_⟩,kp.trans p⟩;rw[cC,g,dz];exact q
 ·rintro τ T ⟨⟨y3,y4,rfl⟩,⟨D,f⟩,kp⟩;rw[k,cL]at f;exact⟨y3,y4,D,T,rfl,f,kp⟩
def MU(P:Ps)(es:Es):es.foldl (λQ e=>A4 Q e.1 e.2.2) P=adds P (sm es):=by
 unfold adds sm;rw[jw]
def MO(q:Pl)(P:Ps)(es:Es):es.foldl (λQ e=>A4 Q e.1<|times q e.2.2) P=adds P ((sm es).map λe=>(e.1,times q e.2)):=by
 unfold adds sm;rw[jw,jw]
def Tu{F:ae->jD->R A}(hF:DT F){S1:jD}{d n b:Nat}{P:Ps}{es:Es}{src:Ic}(hs:src (x0::x1::.ref d::x3::x4::xs) S=.ok (kY n (es.map ent).length) S1)(hn:jE S1 n=some (es.map ent))(hA:At S1 es)(J:Fil S1 d b i0 j P D0)(hb:b<=S1.length)
  (U:∀e∈es,e.2.2.length<=j/\e.1≠[]) (hl:(i0+es.length) * j+j<16777216) (hl':i0+es.length<16777216) :
  ∃(y3 y4:A) (D:Es) (S':jD),lO src Nx (pQ<|eFn F<|jA (jB 2)<|jA (jB 3)<|jA (jB 4) jL) (x0::x1::.ref d::x3::x4::xs) S=.nx (x0::x1::.ref d::y3::y4::xs) S'/\Fil S' d b (i0+es.length) j (adds P<|sm es) D/\Kp (·=d) S1 S':=by
 have:=Tv (w:=1) (c:=pQ<|eFn F<|jA (jB 2)<|jA (jB 3)<|jA (jB 4) jL) (λe Q=>A4 Q e.1 e.2.2) hs hn J λi e T Q D C g kp f=>by
  have m:=kp.len;rw[iI]at f ⊢;have k:(i0+i) * j<=(i0+es.length) * j:=dh _ ();obtain⟨p,q,e1,t,B⟩:=f.add hF (o:=e.1) ((hA.Nb kp J.dd) e g) (U e g).1 (U e g).2 () () ();exact⟨p,q,by dsimp[ki,bools,e1],t,B⟩
 rw[iI,MU]at this;exact this
def Fx{d n b w:Nat}{P:Ps}{es:Es}{src:Ic}{c:Sm}{g:Tg}(J:A->A->ae->ae)(Z:ae->Prop)(G:En->Ps->Ps)(hg:∀(e:En) (y z:A) (xs:ae) (T:jD),g (ent e) (J y z xs) T=.ok (J (.tup<|e.1.map .int) (.ref e.2.1) xs) T)
  {x3 x4:A} {xs0:ae} (U:Z xs0) (hs:src (J x3 x4 xs0) S=.ok (kY n (es.map ent).length) S1) (hn:jE S1 n=some (es.map ent)) (hd:Fil S1 d b i0 j P D0)
  (step:∀(i:Nat) (e:En) (T:jD) (Q:Ps) (D:Es) (xs:ae),i<es.length->e∈es->Z xs->Kp (·=d) S1 T->Fil T d b (i0+w * i) j Q D->∃(D':Es) (T':jD) (xs':ae),Z xs'/\c (J (.tup<|e.1.map .int) (.ref e.2.1) xs) T=.nx (J (.tup<|e.1.map .int) (.ref e.2.1) xs') T'/\Fil T' d b (i0+w * (i+1)) j (G e Q) D'/\Kp (·=d) T T') :
  ∃(y3 y4:A) (xs:ae) (D:Es) (S':jD),Z xs/\lO src g c (J x3 x4 xs0) S=.nx (J y3 y4 xs) S'/\Fil S' d b (i0+w * es.length) j (es.foldl (λQ e=>G e Q) P) D/\Kp (·=d) S1 S':=by
 have p:(es.map ent).length=es.length:=aH ..;refine vf (n:=n) (xs:=es.map ent) (S1:=S1) hs (λi τ T=>(∃y3 y4 xs,τ=J y3 y4 xs/\Z xs)/\(∃D,Fil T d b (i0+w * i) j ((es.take i).foldl (λQ e=>G e Q) P) D)/\Kp (·=d) S1 T)
  (λr=>∃(y3 y4:A) (xs:ae) (D:Es) (S':jD),Z xs/\r=.nx (J y3 y4 xs) S'/\Fil S' d b (i0+w * es.length) j (es.foldl (λQ e=>G e Q) P) D/\Kp (·=d) S1 S') ⟨⟨_,_,_,rfl,U⟩,⟨D0,hd⟩,Kp.refl⟩ (λi τ T h=>h.2.2.lst _ _ (cV<|tQ hd.dd hn) hn) ?_ ?_
 ·rintro i z τ T U ⟨⟨y3,y4,xs,rfl,q⟩,⟨D,f⟩,kp⟩;rw[aO]at U;obtain⟨e,k,rfl⟩:=aX.mp U;refine⟨J (.tup<|e.1.map .int) (.ref e.2.1) xs,T,hg _ _ _ _ _,.inl ?_⟩;obtain⟨D',T',xs',m,e1,B,t⟩:=step i e T _ D xs (aG.mp k).1 (aW k) q kp f;refine⟨_,T',e1,⟨_,_,_,rfl,m⟩,⟨D',?_⟩,kp.trans t⟩;rw[cC,k,dz];exact B
 ·rintro τ T ⟨⟨y3,y4,xs,rfl,q⟩,⟨D,f⟩,kp⟩;rw[p,cL]at f;exact⟨y3,y4,xs,D,T,q,rfl,f,kp⟩
end Su
namespace Bl
open L2
abbrev tK (a b:ag):Prop:=a.length=b.length/\∀(p:Nat) (h:p<a.length),b[(a[p]-1).toNat]?=some ((p:Int)+1)
end Bl
namespace Wd
open Bl L2
abbrev ex (l:ag)(k:Nat):ag:=(l.set (k-1)<|l.getD k 0).set k<|l.getD (k-1) 0
abbrev led (l:ag)(w:am):ag:=w.foldl ex l
def mG{l:ag}{k:Nat}(h:k<l.length):l.getD k 0=l[k]:=by rw[aJ,aF h];rfl
def J2{l:ag}{k:Nat}(h0:1<=k)(h:k<l.length):ex l k=(l.set (k-1) l[k]).set k (l[k-1]'()):=by
 unfold ex;rw[mG h,mG<|show k-1<l.length by lia]
def ny(l:ag)(k:Nat):(ex l k).length=l.length:=by unfold ex;rw[cu,cu]
theorem L8:∀(w:am) (l:ag),(led l w).length=l.length
 | [],_=>rfl
 | k::w,l=>by show(led (ex l k) w).length=_;rw[L8 w,ny]
def EB{l:ag}{k:Nat}(h0:1<=k)(h:k<l.length):(ex l k).Perm l:=by
 rw[J2 h0 h];exact List.set_set_perm () h
def zK(a b:am)(l:ag):led l (a++b)=led (led l a) b:=dz
abbrev j_:ag->am->Prop
 | _,[]=>True
 | l,k::w=>1<=k/\k<l.length/\l.getD (k-1) 0<l.getD k 0/\j_ (ex l k) w
theorem j_.snoc:∀{w:am}{l:ag}{k:Nat},j_ l w->1<=k->k<l.length->(led l w).getD (k-1) 0<(led l w).getD k 0->j_ l (w++[k])
 | [],l,k,_,h0,h1,h2=>⟨h0,h1,h2,trivial⟩
 | m::w,l,k,h,h0,h1,h2=>⟨h.1,h.2.1,h.2.2.1,j_.snoc h.2.2.2 h0 (by rw[ny];exact h1) h2⟩
theorem j_.valid:∀{w:am}{l:ag},j_ l w->∀k∈w,1<=k/\k<l.length
 | [],_,_,k,hk=>by cases hk
 | m::w,l,h,k,hk=>by
  rcases bD.mp hk with z|z
  ·rw[z];exact⟨h.1,h.2.1⟩
  ·have:=j_.valid h.2.2.2 k z;rw[ny]at this;exact this
abbrev sw (k:Nat)(x:Int):Int:=if x=k then(k:Int)+1 else if x=(k:Int)+1 then k else x
def ex_map(f:Int->Int){l:ag}{k:Nat}(h0:1<=k)(h:k<l.length):ex (l.map f) k=(ex l k).map f:=by
 rw[J2 h0 h,J2 h0<|by rw[aH];exact h,jo,jo,cj,cj]
theorem Lc(f:Int->Int):∀{w:am}{l:ag},(∀k∈w,1<=k/\k<l.length)->led (l.map f) w=(led l w).map f
 | [],_,_=>rfl
 | k::w,l,h=>by
  have c:=h k<|aL ..;show led (ex (l.map f) k) w=(led (ex l k) w).map f;rw[ex_map f c.1 c.2,Lc f λm d=>by rw[ny];exact h m<|aN _ d]
def nO{n p:Nat}(h:p<n):(lJ 1<|(n:Int)+1)[p]?=some ((p:Int)+1):=by
 unfold lJ;rw[aO,dU ()];simp;lia
def jR(n:Nat):(lJ 1<|(n:Int)+1).length=n:=by rw[uz];lia
def pU{l:ag}{k:Nat}(h0:1<=k)(h:k<l.length)(p:Nat):(ex l k)[p]?=if p=k then l[k-1]? else if p=k-1 then l[k]? else l[p]?:=by
 rw[J2 h0 h,List.getElem?_set];by_cases h1:k=p
 ·rw[aK h1,aK h1.symm,aK<|by rw[cu];lia,aF]
 ·rw[aI h1,aI λz=>h1 z.symm,List.getElem?_set];by_cases h2:k-1=p
  ·rw[aK h2,aK h2.symm,aK (),aF]
  ·rw[aI h2,aI λz=>h2 z.symm]
def OX{n k:Nat}(h0:1<=k)(h:k<n):ex (lJ 1<|(n:Int)+1) k=(lJ 1<|(n:Int)+1).map (sw k):=by
 apply dc;intro p;rw[pU h0<|by rw[jR];exact h,aO];by_cases c:p<n
 ·rw[nO c,nO h,nO<|show k-1<n by lia];show _=some (sw k<|(p:Int)+1);unfold sw;by_cases h1:p=k
  ·rw[aK h1,aI (),aK ()];congr 1;lia
  ·rw[aI h1];by_cases h2:p=k-1
   ·rw[aK h2,aK ()]
   ·rw[aI h2,aI (),aI ()]
 ·have e:(lJ 1<|(n:Int)+1)[p]?=none:=b7 (by rw[jR];lia);rw[aI (),aI (),e];rfl
def CJ{A B:ag}{k:Nat}(h0:1<=k)(h:k<A.length)(J:tK A B):tK (ex A k) (B.map<|sw k):=by
 refine⟨by rw[ny,aH];exact J.1,λp c=>?_⟩;rw[ny]at c;have hg:(ex A k)[p]'(by rw[ny];exact c)=if p=k then A[k-1]'()else if p=k-1 then A[k]else A[p]:=by
  have:=pU h0 h p;rw[aF<|by rw[ny];exact c]at this;by_cases h1:p=k
  ·rw[aK h1,aF<|show k-1<A.length by lia]at this;rw[aK h1];exact aY this
  ·rw[aI h1]at this;rw[aI h1];by_cases h2:p=k-1
   ·rw[aK h2,aF h]at this;rw[aK h2];exact aY this
   ·rw[aI h2,aF c]at this;rw[aI h2];exact aY this
 rw[hg,aO];by_cases h1:p=k
 ·rw[aK h1,J.2 (k-1) ()];show some (sw k _)=_;unfold sw;rw[aK ()];congr 1;lia
 ·rw[aI h1];by_cases h2:p=k-1
  ·rw[aK h2,J.2 k h];show some (sw k _)=_;unfold sw;rw[aI (),aK ()];congr 1;lia
  ·rw[aI h2,J.2 p c];show some (sw k _)=_;unfold sw;rw[aI (),aI ()]
theorem mX{n:Nat}:∀(w:am),(∀k∈w,1<=k/\k<n)->tK (led (lJ 1<|(n:Int)+1) w.reverse) (led (lJ 1<|(n:Int)+1) w)
 | [],_=>⟨rfl,λp c=>by
  have c:p<n:=by rw[show([]:am).reverse=[]from rfl]at c;have:p<(lJ 1<|(n:Int)+1).length:=c;rw[jR]at this;exact this
  have e:(lJ 1<|(n:Int)+1)[p]'(by rw[jR];exact c)=(p:Int)+1:=by
   have:=nO c;rw[aF<|by rw[jR];exact c]at this;exact aY this
  show(lJ 1<|(n:Int)+1)[(((lJ 1<|(n:Int)+1)[p]'(by rw[jR];exact c))-1).toNat]?=_;rw[e,show((p:Int)+1-1).toNat=p by lia];exact nO c⟩
 | k::w,h=>by
  have d:=h k<|aL ..;have hw:=λm f=>h m<|aN k f;have g:=mX w hw;rw[eE,zK];show tK (ex (led (lJ 1<|(n:Int)+1) w.reverse) k) (led (ex (lJ 1<|(n:Int)+1) k) w);rw[OX d.1 d.2,Lc (sw k) λm f=>by rw[jR];exact hw m f];exact CJ d.1 (by rw[L8,jR];exact d.2) g
end Wd
namespace Iv
open L2 Bl
abbrev inv:ag->Nat
 | []=>0
 | x::l=>l.countP (λy=>decide<|y<x)+inv l
abbrev oH (a b:ag):Nat:=(a.map λx=>b.countP λy=>decide<|y<x).sum
def vV(x:Int)(a b:ag):oH (x::a) b=b.countP (λy=>decide<|y<x)+oH a b:=rfl
theorem mD:∀(a b:ag),inv (a++b)=inv a+inv b+oH a b
 | [],b=>by show inv b=0+inv b+0;lia
 | x::a,b=>by
  show(a++b).countP _+inv (a++b)=(a.countP _+inv a)+inv b+oH (x::a) b;rw[List.countP_append,mD a b,vV];lia
theorem xo:∀{a b:am},a.Perm b->a.sum=b.sum
 | _,_,.nil=>rfl
 | _,_,.cons x h=>by rw[gG,gG,xo h]
 | _,_,.swap x y l=>by rw[gG,gG,gG,gG];lia
 | _,_,.trans h k=>(xo h).trans<|xo k
def Vk{a:ag}(b:ag)(h:a.Perm a'):oH a b=oH a' b:=xo<|h.map _
def UX(a:ag){b:ag}(h:b.Perm b'):oH a b=oH a b':=by
 unfold oH;congr 1;refine cQ λx _=>h.countP_eq _
def Fj{M:ag}{x y:Int}(h:∀m∈M,m<x\/y<m)(J:x<y):M.countP (λm=>decide<|m<x)=M.countP (λm=>decide<|m<y):=by
 refine List.countP_congr λm c=>?_;rw[decide_eq_true_iff,decide_eq_true_iff]
 rcases h m c with z|z<;>omega
theorem yS:∀{M:ag}{x y:Int},(∀m∈M,m<x\/y<m)->x<y->oH M [x]=oH M [y]
 | [],_,_,_,_=>rfl
 | m::M,x,y,h,hxy=>by
  rw[vV,vV,yS (λe d=>h e<|aN _ d) hxy];congr 1;have:=h m<|aL ..;dsimp[jh,List.countP_nil];by_cases c:x<m
  ·rw[bg c,bg<|show y<m by omega]
  ·rw[bA c,bA<|show ¬y<m by omega]
def mid{M:ag}{x y:Int}(h:∀m∈M,m<x\/y<m)(J:x<y):inv ([y]++M++[x])=inv ([x]++M++[y])+1:=by
 rw[mD,mD,mD<|[x]++M,mD [x]];have e1:oH [y] M=oH [x] M:=by
  show M.countP _+0=M.countP _+0;rw[Fj h J]
 have e2:oH ([y]++M) [x]=1+oH M [x]:=by
  show[x].countP _+oH M [x]=_;rw[jh,bg J];rfl
 have e3:oH ([x]++M) [y]=oH M [y]:=by
  show[y].countP _+oH M [y]=_;rw[jh,bA (by lia:¬y<x)];simp
 rw[e1,e2,e3,yS h J]
 skip
 lia
def Qc(M:ag)(x y:Int):([y]++M++[x]).Perm ([x]++M++[y]):=by
 refine(List.perm_append_comm (l₁:=[y]++M) (l₂:=[x])).trans ?_
 skip
 exact .cons x<|List.perm_append_comm (l₁:=[y]) (l₂:=M)
def step{P M R:ag}{x y:Int}(h:∀m∈M,m<x\/y<m)(J:x<y):inv (P++([y]++M++[x])++R)=inv (P++([x]++M++[y])++R)+1:=by
 have p:=Qc M x y;rw[mD,mD P,mD<|P++([x]++M++[y]),mD P,mid h J,UX P p,Vk R<|p.append_left P]
 lia
abbrev sw (a:ag)(i j:Nat):ag:=(a.set i<|a.getD j 0).set j<|a.getD i 0
def IZ(a:ag)(i j:Nat):(sw a i j).length=a.length:=by unfold sw;rw[cu,cu]
def split{a:ag}(U:i<j)(J:j<a.length):∃P M R:ag,a=P++([a.getD i 0]++M++[a.getD j 0])++R/\P=a.take i/\(∀m∈M,∃k,i<k/\k<j/\a[k]?=some m)/\sw a i j=P++([a.getD j 0]++M++[a.getD i 0])++R:=by
 have C:a.getD i 0=a[i]:=by rw[aJ,aF ()];rfl
 have D:a.getD j 0=a[j]:=by rw[aJ,aF J];rfl
 obtain⟨M,g⟩:∃M,M=(a.drop<|i+1).take (j-i-1):=⟨_,rfl⟩;have F:M.length=j-i-1:=by rw[g,bU,fN];lia
 have t:a=a.take i++([a.getD i 0]++M++[a.getD j 0])++a.drop (j+1):=by
  have h1:a.drop i=a[i]::a.drop (i+1):=dj ();have h2:a.drop (i+1)=M++a.drop j:=by
   rw[g];have:=iz (j-i-1)<|a.drop<|i+1;rw[List.drop_drop,show i+1+(j-i-1)=j by lia]at this;exact this.symm
  have h3:a.drop j=a[j]::a.drop (j+1):=dj J
  conv=>lhs;rw[<- iz i a,h1,h2,h3]
  rw[C,D];simp
 refine⟨a.take i,M,a.drop<|j+1,t,rfl,λm q=>?_,?_⟩
 ·rw[g]at q;obtain⟨k,e⟩:=gg q;have p:k<j-i-1:=by
   have:=(aG.mp e).1;rw[bU]at this;lia
  rw[d_ p,iT]at e;exact⟨i+1+k,(),(),e⟩
 ·have f:∀(P R:ag) (x y d c:Int),P.length=i->((P++([x]++M++[y])++R).set i c).set j d=P++([c]++M++[d])++R:=λP R x y d c B=>by
   rw[cA,fY _ _ (),B,iQ];show(P++(c::((M++[y])++R))).set j d=_;rw[fY _ _ (),B,show j-i=(j-i-1)+1 by lia,List.set_cons_succ,cA,fY _ _ (),F,iQ];simp
  have:=f (a.take i) (a.drop<|j+1) (a.getD i 0) (a.getD j 0) (a.getD i 0) (a.getD j 0) (by rw[bU];lia);rw[<- t]at this;exact this
def Ll{a:ag}{i:Nat}(h:i<a.length):a[i]?=some (a.getD i 0):=by rw[aJ,aF h];rfl
def OS{a:ag}(J:i<j)(U:j<a.length)(p:Nat):(sw a i j).getD p 0=if p=j then a.getD i 0 else if p=i then a.getD j 0 else a.getD p 0:=by
 unfold sw;rw[aJ];by_cases c:p=j
 ·subst c;rw[aK rfl,bM<|by rw[cu];exact U];rfl
 ·rw[aI c,bL<|cV c];by_cases d:p=i
  ·subst d;rw[aK rfl,bM ()];rfl
  ·rw[aI d,bL<|cV d,<- aJ]
end Iv
namespace Fw
open PySem L2 Bl
open Wd (ex led)
meta abbrev rg (n:Nat):ag:=lJ 1<|(n:Int)+1
def sA{l:ag}{k:Nat}(h0:1<=k)(h:k<l.length):ex (ex l k) k=l:=by
 apply dc;intro p;have h':k<(ex l k).length:=by rw[Wd.ny];exact h
 rw[Wd.pU h0 h',Wd.pU h0 h,Wd.pU h0 h,Wd.pU h0 h];by_cases c3:p=k
 ·rw[aK c3,aI (),aK rfl,c3]
 ·rw[aI c3];by_cases c2:p=k-1
  ·rw[aK c2,aK rfl,c2]
  ·rw[aI c2,aI c3,aI c2]
def Wn{l:ag}{k:Nat}(h0:1<=k)(h:k<l.length):(ex l k).getD k 0=l.getD (k-1) 0:=by
 rw[aJ,Wd.pU h0 h,aK rfl,aJ]
def V1{l:ag}{k:Nat}(h0:1<=k)(h:k<l.length):(ex l k).getD (k-1) 0=l.getD k 0:=by
 rw[aJ,Wd.pU h0 h,aI (),aK rfl,aJ]
def El{l:ag}{k:Nat}(h0:1<=k)(h:k<l.length)(J:l.getD (k-1) 0<l.getD k 0):Iv.inv (ex l k)=Iv.inv l+1:=by
 obtain⟨P,M,R,e,_,c,es⟩:=Iv.split (a:=l) (i:=k-1) (j:=k) () h;have:=Iv.step (P:=P) (M:=M) (R:=R) (x:=l.getD (k-1) 0) (y:=l.getD k 0) (λm d=>by obtain⟨_,_,_,_⟩:=c m d;lia) J;rw[<- es,<- e]at this;exact this
def t8{l:ag}{k:Nat}(h0:1<=k)(h:k<l.length)(J:l.getD k 0<l.getD (k-1) 0):Iv.inv l=Iv.inv (ex l k)+1:=by
 have:=El (l:=ex l k) h0 (by rw[Wd.ny];exact h) (by rw[Wn h0 h,V1 h0 h];exact J);rw[sA h0 h]at this;exact this
def VQ{l:ag}{k:Nat}(h0:1<=k)(h:k<l.length):Iv.inv (ex l k)<=Iv.inv l+1:=by
 rcases Int.lt_trichotomy (l.getD (k-1) 0) (l.getD k 0)with c|c|c
 ·exact Nat.le_of_eq (El h0 h c)
 ·have:ex l k=l:=by
   apply dc;intro p;have e1:l[k]?=some (l.getD k 0):=Iv.Ll h;have e2:l[k-1]?=some (l.getD (k-1) 0):=Iv.Ll ();rw[Wd.pU h0 h];by_cases c3:p=k
   ·rw[aK c3,c3,e1,e2,c]
   ·rw[aI c3];by_cases c2:p=k-1
    ·rw[aK c2,c2,e1,e2,c]
    ·rw[aI c2]
  rw[this];lia
 ·have:=t8 h0 h c;lia
abbrev Va (n:Nat)(w:am):Prop:=∀k∈w,1<=k/\k<n
def Va.tail{n k:Nat}{w:am}(h:Va n (k::w)):Va n w:=λj c=>h j<|aN _ c
def Va.head{n k:Nat}{w:am}(h:Va n (k::w)):1<=k/\k<n:=h k<|aL ..
theorem Bg:∀{w:am}{l:ag},Va l.length w->led (led l w) w.reverse=l
 | [],l,_=>rfl
 | k::w,l,h=>by
  rw[eE,Wd.zK];show led (led (led (ex l k) w) w.reverse) [k]=l;rw[Bg (w:=w) (l:=ex l k)<|by rw[Wd.ny];exact h.tail];exact sA h.head.1 h.head.2
theorem HN:∀{l:ag},l.Pairwise (·<=·)->Iv.inv l=0
 | [],_=>rfl
 | x::l,h=>by
  show l.countP (λy=>decide<|y<x)+Iv.inv l=0;rw[HN (bX.mp h).2,List.countP_eq_zero.mpr λa c z=>by have:=bQ z;have:=(bX.mp h).1 a c;lia]
def BE(n:Nat):Iv.inv (rg n)=0:=HN<|J5 _ _
abbrev EK (l:ag)(k:Nat):Prop:=1<=k/\k<l.length/\l.getD k 0<l.getD (k-1) 0
def W5{l:ag}(h:∀k,¬EK l k):l.Pairwise (·<=·):=by
 have c:∀d i,i+d<l.length->l.getD i 0<=l.getD (i+d) 0:=by
  intro d
  induction d with
  | zero=>intro i _;exact le_refl _
  | succ d f=>
   intro i e;have h1:=f i ();have h2:¬l.getD (i+d+1) 0<l.getD (i+d) 0:=λz=>h (i+d+1) ⟨(),e,z⟩;rw[<- gC];lia
 rw[cU];intro i j e m g;have:=c (j-i) i ();rw[show i+(j-i)=j by lia,Wd.mG e,Wd.mG m]at this;exact this
def Rr{l:ag}{n:Nat}(p:l.Perm<|rg n)(h:∀k,¬EK l k):l=rg n:=
 ef (λx y _ _ h1 h2=>Int.le_antisymm h1 h2) (W5 h) (J5 _ _) p
def VO{l:ag}(h:0<Iv.inv l):∃k,EK l k:=by
 refine e_ λz=>?_;rw[HN<|W5 λk c=>z ⟨k,c⟩]at h;exact absurd h<|fH _
abbrev Dn:ag->am->Prop
 | l,[]=>∀k,¬EK l k
 | l,k::ks=>(EK l k/\∀j,EK l j->k<=j)/\Dn (ex l k) ks
def oG{l:ag}{n k:Nat}(p:l.Perm<|rg n)(h0:1<=k)(h:k<l.length):(ex l k).Perm (rg n):=(Wd.EB h0 h).trans p
def Dn.va:∀{ks:am}{l:ag},Dn l ks->Va l.length ks
 | [],l,_=>λk c=>absurd c (by simp)
 | k::ks,l,h=>λj d=>by
  rcases bD.mp d with rfl|z
  ·exact⟨h.1.1.1,h.1.1.2.1⟩
  ·have:=h.2.va j z
   rwa [Wd.ny]at this
theorem Dn.led:∀{ks:am}{l:ag}{n:Nat},Dn l ks->l.Perm (rg n)->led l ks=rg n
 | [],l,n,h,p=>Rr p h
 | k::ks,l,n,h,p=>Dn.led (ks:=ks) h.2<|oG p h.1.1.1 h.1.1.2.1
theorem QM:∀(m:Nat) (l:ag),Iv.inv l<=m->∃ks,Dn l ks
 | 0,l,h=>⟨[],λk d=>by have:=t8 d.1 d.2.1 d.2.2;lia⟩
 | m+1,l,h=>by
  by_cases c:∃k,EK l k
  ·obtain⟨k,d,e⟩:∃k,EK l k/\∀j,EK l j->k<=j:=by
    obtain⟨k,d⟩:=c
    induction k using Nat.strongRecOn with
    | ind k q=>
     by_cases z:∃j,EK l j/\j<k
     ·obtain⟨j,p,f⟩:=z;exact q j f p
     ·exact⟨k,d,λj p=>jc λy=>z ⟨j,p,y⟩⟩
   have:=t8 d.1 d.2.1 d.2.2;obtain⟨ks,g⟩:=QM m (ex l k) ();exact⟨k::ks,⟨d,e⟩,g⟩
  ·exact⟨[],λk d=>c ⟨k,d⟩⟩
def Vz{l:ag}{n k:Nat}(p:l.Perm<|rg n)(h0:1<=k)(h:k<l.length):l.getD (k-1) 0≠l.getD k 0:=λz=>by
 have nd:l.Nodup:=p.nodup_iff.mpr<|sW _ _;rw[Wd.mG h,Wd.mG<|show k-1<l.length by lia]at z;have:=(cK nd).mp z
 lia
def MF{a b c:ag}{n:Nat}(J:a.Perm<|rg n)(h1:tK a b)(h2:tK b c):a=c:=by
 have m:=h1.1;have j:=h2.1;refine ji () λq e d=>?_;have e1:=h1.2 q e;have k:=(pO.mp<|J.mem_iff.mp<|dZ e);obtain⟨f,g⟩:=aG.mp e1;have e2:=h2.2 _ f;rw[g,show((q:Int)+1-1).toNat=q by lia,aF d]at e2;have:=aY e2
 lia
structure Two (n:Nat)(o u:ag):Prop where
 po:o.Perm (rg n)
 pu:u.Perm (rg n)
 ou:tK o u
def Two.lu{n:Nat}{u:ag}(t:Two n o u):u.length=n:=by rw[t.pu.length_eq,Wd.jR]
def Two.lo{n:Nat}{o:ag}(t:Two n o u):o.length=n:=by rw[t.po.length_eq,Wd.jR]
def Two.led{n:Nat}{ks:am}(t:Two n o u)(h:Dn u ks):Wd.led (rg n) ks=o:=by
 have v:Va n ks:=by have:=h.va;rwa [t.lu]at this
 have e:=h.led t.pu;have e2:u=Wd.led (rg n) ks.reverse:=by rw[<- e,Bg<|by rw[t.lu];exact v]
 have b:=Wd.mX ks v;rw[<- show u=Wd.led (lJ 1<|(n:Int)+1) ks.reverse from e2]at b;exact(MF t.po t.ou b).symm
def Two.uo{n:Nat}(t:Two n o u):tK u o:=by
 obtain⟨ks,h⟩:=QM _ u<|aR _;have v:Va n ks:=by have:=h.va;rwa [t.lu]at this
 have e:=h.led t.pu;have e2:u=Wd.led (rg n) ks.reverse:=by rw[<- e,Bg<|by rw[t.lu];exact v]
 have b:=Wd.mX ks v;rw[<- show u=Wd.led (lJ 1<|(n:Int)+1) ks.reverse from e2,show Wd.led (lJ 1<|(n:Int)+1) ks=o from t.led h]at b;exact b
def Two.flip{n:Nat}(t:Two n o u):Two n u o:=⟨t.pu,t.po,t.uo⟩
def Two.step{n k:Nat}{o:ag}(t:Two n o u)(h0:1<=k)(h:k<n):Two n (o.map<|Wd.sw k) (ex u k):=by
 have lu:=t.lu;have b:=Wd.CJ h0 () t.uo;have p1:=oG t.pu h0 ();have p2:(o.map<|Wd.sw k).Perm (rg n):=(t.po.map _).trans (by rw[<- Wd.OX h0 h];exact Wd.EB h0<|by rw[Wd.jR];exact h);exact(Two.mk p1 p2 b).flip
end Fw
namespace Su
open Am Po PySem L2
abbrev cS (l:Ps)(o:ag)(t:Int):Int:=match l with
 | []=>0
 | e::l=>(if e.1=o then cf e.2 t else 0)+cS l o t
def nR(a b:Ps)(o:ag)(t:Int):cS (a++b) o t=cS a o t+cS b o t:=by
 induction a with
 | nil=>exact(bV _).symm
 | cons e a c=>
  show _+cS (a++b) o t=_+_+_;rw[c,dD]
def oz(a b:Pl)(k:Int):cf (a++b) k=cf a k+cf b k:=by
 induction a with
 | nil=>exact(bV _).symm
 | cons p a c=>
  show _+cf (a++b) k=_+_+_;rw[c,dD]
def Ry(a b:Pl)(k:Int):cf (pM a b) k=cf a k+cf b k:=by
 unfold pM;rw[yF<|sI _ (d:=[]) dP,uE,oz];show 0+_=_;rw[bV]
def A6(a b:Pl)(k:Int):cf (times a b) k=cf (HA a b) k:=by
 unfold times;rw[yF<|sI _ (d:=[]) dP,uE];show 0+_=_;rw[bV]
theorem LD(s:Int):∀(b:Pl) (k c:Int),cf (b.map λq=>(c+q.1,s * q.2)) k=s * cf b (k-c)
 | [],k,c=>(eg s).symm
 | q::b,k,c=>by
  show(if c+q.1=k then s * q.2 else 0)+cf (b.map λq=>(c+q.1,s * q.2)) k=s * ((if q.1=k-c then q.2 else 0)+cf b (k-c));rw[LD s b k c,iJ];by_cases h:c+q.1=k
  ·rw[aK h,aK ()]
  ·rw[aI h,aI (),eg]
meta abbrev AF:Pl:=[((-1:Int),(1:Int)),((1:Int),(-1:Int))]
def aaH(b:Pl)(k:Int):cf (times AF b) k=cf b (k+1)-cf b (k-1):=by
 rw[A6];show cf ((b.map λq=>((-1:Int)+q.1,(1:Int) * q.2))++((b.map λq=>((1:Int)+q.1,(-1:Int) * q.2))++[])) k=_;rw[cR,oz,LD,LD,i8,show k - -1=k+1 by lia]
 lia
def P7{D:Ps}{p:Pl}:vS (yi D o p) o'=if o'=o then p else vS D o':=by
 have cons:∀(e:ag×Pl) (D:Ps) (x:ag),vS (e::D) x=if e.1=x then e.2 else vS D x:=λe D x=>by
  unfold vS;rw[cg];by_cases h:e.1=x
  ·rw[bg h,aK h];rfl
  ·rw[bA h,aI h]
 unfold yi
 cases h:hS D o with
 | true=>
  rw[aK rfl]
  induction D with
  | nil=>cases h
  | cons e D d=>
   rw[bE,cons,cons];have hc:hS (e::D) o=(decide (e.1=o) || hS D o):=rfl;rw[hc]at h;by_cases c:e.1=o
   ·rw[aK c]
    skip
    by_cases c2:o'=o
    ·rw[aK<|c.trans c2.symm,aK c2]
    ·rw[aI λz=>c2<|z.symm.trans c,aI c2,aI λz=>c2<|z.symm.trans c];clear d h hc
     induction D with
     | nil=>rfl
     | cons f D g=>
      rw[bE,cons,cons,g];by_cases c3:f.1=o
      ·rw[aK c3]
       skip
       rw[aI λz=>c2<|z.symm.trans c3,aI λz=>c2<|z.symm.trans c3]
      ·rw[aI c3]
   ·rw[aI c];rw[bA c,gB]at h;rw[d h];by_cases c2:e.1=o'
    ·rw[aK c2,aI λz=>c<|c2.trans z,aK c2]
    ·rw[aI c2,aI c2]
 | false=>
  rw[aI<|by simp]
  induction D with
  | nil=>
   show vS [(o,p)] o'=_;rw[cons];by_cases c:o=o'
   ·rw[aK c,aK c.symm]
   ·rw[aI c,aI λz=>c z.symm]
  | cons e D d=>
   have hc:hS (e::D) o=(decide (e.1=o) || hS D o):=rfl;rw[hc,iH]at h;rw[jd,cons,cons,d h.2];have:=dI h.1;by_cases c:e.1=o'
   ·rw[aK c,aK c,aI λz=>this<|c.trans z]
   ·rw[aI c,aI c]
def Ja(l:Ps):∀(D:Ps) (o:ag) (t:Int),cf (vS (adds D l) o) t=cf (vS D o) t+cS l o t:=by
 induction l with
 | nil=>intro D o t;exact(b6 _).symm
 | cons e l c=>
  intro D o t;show cf (vS (adds (A4 D e.1 e.2) l) o) t=_+((if e.1=o then cf e.2 t else 0)+cS l o t);rw[c];unfold A4;rw[P7];by_cases h:o=e.1
  ·rw[aK h,aK h.symm,Ry,h,dD]
  ·rw[aI h,aI λz=>h z.symm,bV]
structure Gd (D:Ps):Prop where
 nd:(D.map Prod.fst).Nodup
 ok:∀e∈D,Ok e.2
def Rf{D:Ps}{o:ag}:hS D o=true ↔ o∈D.map Prod.fst:=by
 unfold hS;rw[gr,aV];constructor
 ·rintro⟨p,h1,h2⟩;exact⟨p,h1,bQ h2⟩
 ·rintro⟨p,h1,h2⟩;exact⟨p,h1,bg h2⟩
def CA{D:Ps}{o:ag}{p:Pl}:(yi D o p).map Prod.fst=if hS D o=true then D.map Prod.fst else D.map Prod.fst++[o]:=by
 unfold yi;split
 ·rw[bq];apply cQ;intro e _;show(if e.1=o then(e.1,p)else e).1=e.1;split<;>rfl
 ·rw[bN];rfl
def Gd.put{D:Ps}{p:Pl}(h:Gd D)(J:Ok p):Gd (yi D o p):=by
 refine⟨?_,λe d=>?_⟩
 ·rw[CA];split
  ·exact h.nd
  ·rename_i c;rw[dw];refine⟨h.nd,bZ _ _,λa j b g z=>c ?_⟩;rw[aQ]at g;rw[Rf,<- g,<- z];exact j
 ·unfold yi at d;split at d
  ·obtain⟨f,hf,rfl⟩:=aV.mp d;split
   ·exact J
   ·exact h.ok f hf
  ·rcases bz.mp d with z|z
   ·exact h.ok e z
   ·rw[aQ.mp z];exact J
theorem Gd.adds(l:Ps):∀{D:Ps},Gd D->Gd (adds D l):=by
 induction l with
 | nil=>intro D h;exact h
 | cons e l c=>intro D h;exact c<|h.put<|Gj _ _
def Gd.nil:Gd []:=⟨dP,nofun⟩
def qI{D:Ps}:(∃e∈D,e.1=o/\vS D o=e.2)\/(o∉D.map Prod.fst/\vS D o=[]):=by
 unfold vS
 cases h:D.find? λe=>decide (e.1=o)with
 | some e=>
  have h1:=iL h;exact .inl ⟨e,fj h,by simpa using h1,rfl⟩
 | none=>
  refine .inr ⟨λz=>?_,rfl⟩;obtain⟨e,d,c⟩:=aV.mp z;exact gP.mp h e d<|bg c
def Gd.v{D:Ps}(h:Gd D)(o:ag):Ok (vS D o):=by
 rcases qI (D:=D) (o:=o)with⟨e,h1,_,h2⟩|⟨_,h2⟩
 ·rw[h2];exact h.ok e h1
 ·rw[h2];exact⟨List.Pairwise.nil,nofun⟩
def Ek.anti{a b:ag}(h1:Ek a b)(h2:Ek b a):a=b:=(Sx.xx h1 h2).symm
def U8{D:Ps}(h:Gd D)(h':Gd E)(hv:∀o,vS D o=vS E o):toS D=toS E:=by
 have c:∀(D:Ps),Gd D->∀o,o∈(lg<|D.map Prod.fst).filter (λo=>!(vS D o).isEmpty) ↔ (vS D o)≠[]:=λD h o=>by
  rw[bK,(j4 _).mem_iff];constructor
  ·rintro⟨_,h2⟩ z;rw[z]at h2;cases h2
  ·intro z;refine⟨?_,by cases e:vS D o with|nil=>exact absurd e z|cons=>rfl⟩
   rcases qI (D:=D) (o:=o)with⟨e,h1,h2,_⟩|⟨_,h2⟩
   ·exact aV.mpr ⟨e,h1,h2⟩
   ·exact absurd h2 z
 have d:∀(D:Ps),((lg<|D.map Prod.fst).filter λo=>!(vS D o).isEmpty).Pairwise Ek:=λD=>(uH _).filter _;have nd:∀(D:Ps),Gd D->((lg<|D.map Prod.fst).filter λo=>!(vS D o).isEmpty).Nodup:=λD h=>((j4 _).nodup_iff.mpr h.nd).filter _;have e:(lg<|D.map Prod.fst).filter (λo=>!(vS D o).isEmpty)=(lg<|E.map Prod.fst).filter (λo=>!(vS E o).isEmpty):=by
  refine ef (λa b _ _ h1 h2=>Ek.anti h1 h2) (d D) (d E)<|(iU (nd D h)<|nd E h').mpr λo=>?_;rw[c D h,c E h',hv]
 unfold toS;rw[e];apply cQ;intro o _;rw[hv]
def FH{D:Ps}(h:Gd D)(h':Gd E)(hc:∀o t,cf (vS D o) t=cf (vS E o) t):toS D=toS E:=U8 h h' λo=>uniq (h.v o) (h'.v o)<|hc o
theorem Ie{f:ag->Pl}{o:ag}{t:Int}:∀{ks:List<|ag},ks.Nodup->cS (ks.map λk=>(k,f k)) o t=if o∈ks then cf (f o) t else 0
 | [],_=>by rw[aI<|by simp];rfl
 | j::ks,h=>by
  obtain⟨h1,h2⟩:=cT.mp h;show(if j=o then cf (f j) t else 0)+cS (ks.map λk=>(k,f k)) o t=_;rw[Ie h2];by_cases c:j=o
  ·subst c;rw[aK rfl,aI h1,aK<|aL ..,b6]
  ·rw[aI c,bV];by_cases e:o∈ks
   ·rw[aK e,aK<|aN _ e]
   ·rw[aI e,aI λz=>(bD.mp z).elim (λz=>c z.symm) e]
def AU{D:Ps}(h:Gd D)(o:ag)(t:Int):cS (toS D) o t=cf (vS D o) t:=by
 unfold toS;rw[Ie<|((j4 _).nodup_iff.mpr h.nd).filter _];split
 ·rfl
 ·rename_i c
  rcases qI (D:=D) (o:=o)with⟨e,h1,h2,h3⟩|⟨_,h2⟩
  ·by_cases z:vS D o=[]
   ·rw[z];rfl
   ·refine absurd (bK.mpr ⟨(j4 _).mem_iff.mpr<|aV.mpr ⟨e,h1,h2⟩,?_⟩) c
    cases e:vS D o with|nil=>exact absurd e z|cons=>rfl
  ·rw[h2];rfl
abbrev lK (o:ag)(k:Nat):Bool:=decide<|o.getD (k-1) 0>o.getD k 0
abbrev Ut (k:Nat)(l:Ps):Ps:=l.flatMap λe=>(Wd.ex e.1 k,e.2)::(if lK e.1 k=true then[(e.1,times AF e.2)]else[])
abbrev bx (k:Nat)(l:Ps):Ps:=toS<|adds []<|Ut k l
abbrev Go (N k:Nat)(o:ag):Prop:=o.length=N/\o.getD (k-1) 0≠o.getD k 0
def OP{N k:Nat}{o:ag}(h:o.length=N)(h1:1<=k)(h2:k<N):Wd.ex (Wd.ex o k) k=o:=Fw.sA h1 ()
def V7{k:Nat}{o:ag}(h1:1<=k)(h2:k<o.length):(Wd.ex o k).getD (k-1) 0=o.getD k 0/\(Wd.ex o k).getD k 0=o.getD (k-1) 0:=by
 constructor
 ·rw[aJ,Wd.pU h1 h2,aI (),aK rfl,aJ]
 ·rw[aJ,Wd.pU h1 h2,aK rfl,aJ]
def Go.ex{N k:Nat}(h:Go N k o)(h1:1<=k)(h2:k<N):Go N k (Wd.ex o k)/\lK (Wd.ex o k) k=!lK o k:=by
 obtain⟨d,hn⟩:=h;obtain⟨e1,e2⟩:=V7 (o:=o) h1 ();refine⟨⟨by rw[Wd.ny];exact d,by rw[e1,e2];exact λz=>hn z.symm⟩,?_⟩;unfold lK;rw[e1,e2];by_cases c:o.getD (k-1) 0>o.getD k 0
 ·rw[bg c,bA ()];rfl
 ·rw[bA c,bg ()];rfl
def w_{l:Ps}{t:Int}(h:∀e∈l,e.1≠o):cS l o t=0:=by
 induction l with
 | nil=>rfl
 | cons e l c=>
  show(if e.1=o then _ else 0)+cS l o t=0;rw[aI<|h e<|aL ..,c λf hf=>h f<|aN _ hf];rfl
theorem Ww{N k:Nat}(h1:1<=k)(h2:k<N):∀{l:Ps},(∀e∈l,Go N k e.1)->∀{o:ag}(t:Int),Go N k o->cS (Ut k l) o t=cS l (Wd.ex o k) t+(if lK o k=true then cS l o (t+1)-cS l o (t-1)else 0)
 | [],_,o,t,_=>by show(0:Int)=0+if _ then(0:Int)-0 else 0;split<;>rfl
 | e::l,h,o,t,ho=>by
  have g:=h e<|aL ..;have j:=Ww h1 h2 (l:=l) (λf hf=>h f<|aN _ hf) t ho;have d:(Wd.ex e.1 k=o) ↔ (e.1=Wd.ex o k):=⟨λz=>by rw[<- z,OP g.1 h1 h2],λz=>by rw[z,OP ho.1 h1 h2]⟩;show cS (((Wd.ex e.1 k,e.2)::(if lK e.1 k=true then[(e.1,times AF e.2)]else[]))++Ut k l) o t=_;rw[nR,j];show(if Wd.ex e.1 k=o then cf e.2 t else 0)+cS (if lK e.1 k=true then[(e.1,times AF e.2)]else[]) o t+_=((if e.1=Wd.ex o k then cf e.2 t else 0)+cS l (Wd.ex o k) t)+(if lK o k=true then((if e.1=o then cf e.2 (t+1)else 0)+cS l o (t+1))-((if e.1=o then cf e.2 (t-1)else 0)+cS l o (t-1))else 0);have h3:cS (if lK e.1 k=true then[(e.1,times AF e.2)]else[]) o t=if lK o k=true then((if e.1=o then cf e.2 (t+1)else 0)-(if e.1=o then cf e.2 (t-1)else 0))else 0:=by
   by_cases c:e.1=o
   ·rw[c,aK rfl,aK rfl]
    cases lK o k with
    | false=>rfl
    | true=>
     rw[aK rfl,aK rfl];show(if o=o then cf (times AF e.2) t else 0)+0=_;rw[aK rfl,aaH,b6]
   ·rw[aI c,aI c];have:cS (if lK e.1 k=true then[(e.1,times AF e.2)]else[]) o t=0:=w_ λf hf=>by
     split at hf
     ·rw[aQ.mp hf];exact c
     ·cases hf
    rw[this];split<;>rfl
  rw[h3];by_cases c:Wd.ex e.1 k=o
  ·rw[aK c,aK<|d.mp c];split<;>lia
  ·rw[aI c,aI λz=>c<|d.mpr z];split<;>lia
def qv{P:ag->Prop}(l:Ps):∀{D:Ps},(∀e∈D,P e.1)->(∀e∈l,P e.1)->∀e∈adds D l,P e.1:=by
 induction l with
 | nil=>intro D h _;exact h
 | cons f l d=>
  intro D h h';refine d (λe c=>?_) λe c=>h' e<|aN _ c;have c:e∈yi D f.1 (pM (vS D f.1) f.2):=c;unfold yi at c;split at c
  ·obtain⟨g,hg,rfl⟩:=aV.mp c;split
   ·exact h g hg
   ·exact h g hg
  ·rcases bz.mp c with z|z
   ·exact h e z
   ·rw[aQ.mp z];exact h' f<|aL ..
def su{P:ag->Prop}{D:Ps}(h:∀e∈D,P e.1):∀e∈toS D,P e.1:=λe d=>by
 obtain⟨o,c,rfl⟩:=aV.mp d;obtain⟨f,hf,e⟩:=aV.mp ((j4 _).mem_iff.mp (bK.mp c).1)
 skip
 rw[<- e];exact h f hf
abbrev gX (k:Nat)(e:En)(Q:Ps):Ps:=if lK e.1 k=true then A4 (A4 Q (Wd.ex e.1 k) e.2.2) e.1 (times AF e.2.2)else A4 Q (Wd.ex e.1 k) e.2.2
theorem LH(k:Nat):∀(es:Es) (P:Ps),es.foldl (λQ e=>gX k e Q) P=adds P (Ut k<|sm es)
 | [],P=>rfl
 | e::es,P=>by
  show es.foldl (λQ e=>gX k e Q) (gX k e P)=adds P (((Wd.ex e.1 k,e.2.2)::(if lK e.1 k=true then[(e.1,times AF e.2.2)]else[]))++Ut k (sm es));rw[LH k es,Oj];congr 1;unfold gX
  cases lK e.1 k<;>rfl
def aaM{p:Pl}(h:Ok p)(J:Bd C p)(t:Int):(cf p t).natAbs<=C:=by
 rw[<- yz h.nd];exact J.val t
def Ok.z_{l:Pl}(h:Ok l){p:Int×Int}(J:p∈l):cf l p.1=p.2:=by
 induction l with
 | nil=>cases J
 | cons q l c=>
  rcases bD.mp J with z|z
  ·rw[z];exact h.head
  ·show(if q.1=p.1 then q.2 else 0)+cf l p.1=p.2;have:=(bX.mp h.up).1 p z;rw[aI (),c h.tail z,bV]
end Su
namespace He
open PySem L2 Am
open Fw (Two rg EK)
open Bl (tK)
open Su (lK)
meta abbrev Fn:=ag->Int->Int
abbrev dl (g:Int->Int)(t:Int):Int:=g (t+1)-g (t-1)
abbrev X (k:Nat)(f:Fn):Fn:=λo t=>f (Wd.ex o k) t+if lK o k=true then dl (f o) t else 0
def nZ{n:Nat}{v:ag}(h:Two n o u)(h':Two n o v):u=v:=by
 have k:=h.lu;have j:=h'.lu;have f:=h.lo;apply dc;intro q;by_cases g:q<n
 ·obtain⟨p,c,ep⟩:∃p,∃c:p<o.length,o[p]=(q:Int)+1:=by
   have:(q:Int)+1∈o:=h.po.mem_iff.mpr<|pO.mpr ⟨(),()⟩;obtain⟨p,c,ep⟩:=List.getElem_of_mem this;exact⟨p,c,ep⟩
  have d:=h.ou.2 p c;have e:=h'.ou.2 p c;rw[ep,show((q:Int)+1-1).toNat=q by lia]at d e;rw[d,e]
 ·rw[b7 (),b7 ()]
abbrev bk (o:ag):ag:=(List.range o.length).map λi:Nat=>((o.idxOf ((i:Int)+1):Nat):Int)+1
def oZ{n:Nat}{o:ag}(h:o.Perm<|rg n):Two n o (bk o):=by
 have lo:o.length=n:=by rw[h.length_eq,Wd.jR]
 have nd:o.Nodup:=h.nodup_iff.mpr<|sW _ _;have e:∀i,i<n->(i:Int)+1∈o:=λi d=>h.mem_iff.mpr<|pO.mpr ⟨(),()⟩;have f:∀i,i<n->o.idxOf ((i:Int)+1)<n:=λi d=>by rw[<- lo];exact fK.mpr (e i d)
 have get:∀i (d:i<n),o[o.idxOf<|(i:Int)+1]'(by rw[lo];exact f i d)=(i:Int)+1:=λi d=>iX _;refine⟨h,?_,?_,λp t=>?_⟩
 ·have p:=Am.wQ (N:=n) (g:=λi=>o.idxOf<|(i:Int)+1) f λi j B C z=>by
   have a:=get i ();have b:=get j C;dsimp[z]at a;rw[b]at a
   lia
  have p2:=p.map λi:Nat=>(i:Int)+1;rw[bq]at p2;unfold bk;rw[lo];refine List.Perm.trans p2 ?_;have:(List.range n).map (λi:Nat=>(i:Int)+1)=rg n:=by
   apply dc;intro q;rw[aO];by_cases c:q<n
   ·rw[dU c,Wd.nO c];rfl
   ·rw[b7<|by rw[b8];lia,b7<|by rw[Wd.jR];lia];rfl
  rw[this]
 ·unfold bk;rw[aH,b8]
 ·have m:=pO.mp<|h.mem_iff.mp<|dZ t;have k:(o[p]-1).toNat<o.length:=()
  unfold bk;rw[aO,dU k];show some (((o.idxOf (((o[p]-1).toNat:Int)+1):Nat):Int)+1)=_;rw[show((o[p]-1).toNat:Int)+1=o[p]by lia,nd.idxOf_getElem]
def n8{n:Nat}{o:ag}(h:o.Perm<|rg n):bk (bk o)=o:=nZ (oZ (oZ h).pu) (oZ h).flip
def kX{n:Nat}{o:ag}(h:o.Perm<|rg n):(bk o).Perm (rg n):=(oZ h).pu
def Gn{n k:Nat}{o:ag}(h:o.Perm<|rg n)(h0:1<=k)(h1:k<n):bk (o.map<|Wd.sw k)=Wd.ex (bk o) k:=by
 have t:=(oZ h).step h0 h1;exact nZ (oZ t.po) t
def abV{n k:Nat}{o:ag}(h:o.Perm<|rg n)(h0:1<=k)(h1:k<n):bk (Wd.ex o k)=(bk o).map (Wd.sw k):=by
 have t:=((oZ h).flip.step h0 h1).flip;exact nZ (oZ t.po) t
def vp{n k p:Nat}{o u:ag}(t:Two n o u)(h1:1<=k)(h2:k<=n)(J:o.getD p 0=(k:Int))(U:p<n):u.getD (k-1) 0=(p:Int)+1:=by
 have lo:=t.lo;have c:p<o.length:=()
 have:=t.ou.2 p c;rw[Wd.mG c]at J;rw[J,show((k:Int)-1).toNat=k-1 by lia]at this;rw[aJ,this];rfl
def nb{n k:Nat}{o:ag}(h:o.Perm<|rg n)(h0:1<=k)(h1:k<n):o.getD (k-1) 0≠o.getD k 0:=λz=>by
 have lo:o.length=n:=by rw[h.length_eq,Wd.jR]
 have nd:o.Nodup:=h.nodup_iff.mpr<|sW _ _;rw[Wd.mG (),Wd.mG ()]at z;have:=(cK nd).mp z
 lia
abbrev Pr (o:ag)(k j:Nat):Prop:=(o.getD (k-1) 0=j/\o.getD k 0=(j:Int)+1)\/(o.getD (k-1) 0=(j:Int)+1/\o.getD k 0=j)
def Pg{n k:Nat}{u:ag}(h:u.Perm<|rg n)(h0:1<=j)(h1:j<n):(Pr u j k->lK (u.map<|Wd.sw k) j=!lK u j)/\(¬Pr u j k->lK (u.map<|Wd.sw k) j=lK u j):=by
 have lu:u.length=n:=by rw[h.length_eq,Wd.jR]
 have e:=nb h h0 h1;have e1:(u.map<|Wd.sw k).getD (j-1) 0=Wd.sw k (u.getD (j-1) 0):=by
  rw[Wd.mG<|by rw[aH];lia,Wd.mG (),cj]
 have e2:(u.map<|Wd.sw k).getD j 0=Wd.sw k (u.getD j 0):=by
  rw[Wd.mG<|by rw[aH];lia,Wd.mG (),cj]
 unfold lK Pr;rw[e1,e2];generalize u.getD (j-1) 0=a at *
 generalize u.getD j 0=b at *
 constructor
 ·rintro(⟨c,d⟩|⟨c,d⟩)
  ·subst c;subst d;unfold Wd.sw;rw[aK rfl,aI (),aK rfl,bg (),bA ()];rfl
  ·subst c;subst d;unfold Wd.sw;rw[aI (),aK rfl,aK rfl,bA (),bg ()];rfl
 ·intro z;rw[gu];unfold Wd.sw;split<;>split<;>(try split)<;>(try split)<;>lia
def zy{n k:Nat}(t:Two n o u)(h0:1<=k)(h1:k<n)(h2:1<=j)(h3:j<n)(h:Pr o k j):Pr u j k:=by
 rcases h with⟨c,d⟩|⟨c,d⟩
 ·have a:=vp t h2 () c ();have b:=vp t (k:=j+1) () () (by rw[d];lia) h1;rw[gM]at b;exact .inl ⟨by rw[a];lia,by rw[b]⟩
 ·have a:=vp t (k:=j+1) () () (by rw[c];lia) (show k-1<n by lia);have b:=vp t h2 () d h1;rw[gM]at a;exact .inr ⟨by rw[b],by rw[a];lia⟩
def Xk{n k:Nat}(t:Two n o u)(h0:1<=k)(h1:k<n)(h2:1<=j)(h3:j<n)(h:Pr o k j):lK u j=lK o k:=by
 have a:∀x y:ag,∀i m:Nat,x.getD (i-1) 0=(m:Int)->x.getD i 0=(m:Int)+1->lK x i=false:=λx y i m p q=>by
  unfold lK;rw[p,q];exact bA ()
 have b:∀x y:ag,∀i m:Nat,x.getD (i-1) 0=(m:Int)+1->x.getD i 0=(m:Int)->lK x i=true:=λx y i m p q=>by
  unfold lK;rw[p,q];exact bg ()
 rcases h with⟨c,d⟩|⟨c,d⟩
 ·rw[a o [] k j c d]
  rcases zy t h0 h1 h2 h3 (.inl ⟨c,d⟩)with⟨f,e⟩|⟨f,e⟩
  ·exact a u [] j k f e
  ·have:=vp t h2 () c ();lia
 ·rw[b o [] k j c d]
  rcases zy t h0 h1 h2 h3 (.inr ⟨c,d⟩)with⟨f,e⟩|⟨f,e⟩
  ·have:=vp t h2 () d h1;lia
  ·exact b u [] j k f e
abbrev L (j:Nat)(f:Fn):Fn:=λo t=>f (o.map<|Wd.sw j) t+if lK (bk o) j=true then dl (f o) t else 0
def Lu{n k:Nat}{o:ag}(h:o.Perm<|rg n)(h0:1<=k)(h1:k<n)(J:Pr o k j):o.map (Wd.sw j)=Wd.ex o k:=by
 have lo:o.length=n:=by rw[h.length_eq,Wd.jR]
 have nd:o.Nodup:=h.nodup_iff.mpr<|sW _ _;apply dc;intro p;rw[Wd.pU h0 (),aO];unfold Pr at J;rw[Wd.mG (),Wd.mG ()]at J;by_cases c1:p=k
 ·subst c1;rw[aK rfl,aF (),aF (),dH];congr 1;unfold Wd.sw
  rcases J with⟨c,d⟩|⟨c,d⟩
  ·rw[c,d,aI (),aK rfl]
  ·rw[c,d,aK rfl]
 ·rw[aI c1];by_cases c2:p=k-1
  ·subst c2;rw[aK rfl,aF (),aF (),dH];congr 1;unfold Wd.sw
   rcases J with⟨c,d⟩|⟨c,d⟩
   ·rw[c,d,aK rfl]
   ·rw[c,d,aI (),aK rfl]
  ·rw[aI c2];by_cases c3:p<o.length
   ·rw[aF c3,dH];congr 1;have e:o[p]≠o[k]:=λz=>c1<|(cK nd).mp z;have f:o[p]≠o[k-1]:=λz=>c2<|(cK nd).mp z;unfold Wd.sw
    rcases J with⟨c,d⟩|⟨c,d⟩
    ·rw[aI<|by rw[<- c];exact f,aI<|by rw[<- d];exact e]
    ·rw[aI<|by rw[<- d];exact e,aI<|by rw[<- c];exact f]
   ·rw[b7 ()];rfl
def Wm(j:Nat)(o:ag):(o.map<|Wd.sw j).map (Wd.sw j)=o:=by
 rw[bq];have:(Wd.sw j ∘ Wd.sw j)=id:=funext λx=>by
  show Wd.sw j (Wd.sw j x)=x;unfold Wd.sw;split<;>(try split)<;>(try split)<;>lia
 rw[this,jx]
def comm{n k:Nat}(f:Fn){o:ag}(h:o.Perm<|rg n)(h0:1<=k)(h1:k<n)(h2:1<=j)(h3:j<n)(t:Int):X k (L j f) o t=L j (X k f) o t:=by
 have lo:o.length=n:=by rw[h.length_eq,Wd.jR]
 have d:=oZ h;have e1:(Wd.ex o k).map (Wd.sw j)=Wd.ex (o.map<|Wd.sw j) k:=(Wd.ex_map _ h0 ()).symm;have e2:=abV h h0 h1;have f1:=Pg (k:=j) h h0 h1;have f2:=Pg (k:=k) d.pu h2 h3;unfold X L dl;dsimp only;rw[e1,e2];by_cases c:Pr o k j
 ·have e:=zy d h0 h1 h2 h3 c;have e3:=Lu h h0 h1 c;rw[f1.1 c,f2.1 e,Xk d h0 h1 h2 h3 c,<- e3]
 ·have e:¬Pr (bk o) j k:=λz=>c<|zy d.flip h2 h3 h0 h1 z;rw[f1.2 c,f2.2 e]
  cases lK o k<;>cases lK (bk o) j
  ·dsimp[bC,cJ]
  ·dsimp[bC,dg,cJ];lia
  ·dsimp[bC,dg,cJ];lia
  ·dsimp[dg];lia
abbrev mh (n:Nat)(f g:Fn):Prop:=∀o:ag,o.Perm (rg n)->∀t,f o t=g o t
def mh.refl{n:Nat}{f:Fn}:mh n f f:=λ_ _ _=>rfl
def mh.symm{n:Nat}{f g:Fn}(h:mh n f g):mh n g f:=λo p t=>(h o p t).symm
def mh.trans{n:Nat}{f g e:Fn}(h:mh n f g)(h':mh n g e):mh n f e:=λo p t=>(h o p t).trans<|h' o p t
def oG{n k:Nat}{o:ag}(h:o.Perm<|rg n)(h0:1<=k)(h1:k<n):(Wd.ex o k).Perm (rg n):=(Wd.EB h0<|by rw[h.length_eq,Wd.jR];exact h1).trans h
def CU{n k:Nat}{o:ag}(h:o.Perm<|rg n)(h0:1<=k)(h1:k<n):(o.map<|Wd.sw k).Perm (rg n):=((oZ h).step h0 h1).po
def O4{n k:Nat}{f g:Fn}(h:mh n f g)(h0:1<=k)(h1:k<n):mh n (X k f) (X k g):=λo p t=>by
 unfold X dl;rw[h _<|oG p h0 h1,h o p,h o p]
def Zb{n k:Nat}{f g:Fn}(h:mh n f g)(h0:1<=k)(h1:k<n):mh n (L k f) (L k g):=λo p t=>by
 unfold L dl;rw[h _<|CU p h0 h1,h o p,h o p]
abbrev Va (n:Nat)(w:am):Prop:=∀k∈w,1<=k/\k<n
abbrev Xw (w:am)(f:Fn):Fn:=w.foldl (λf k=>X k f) f
abbrev Lw (w:am)(f:Fn):Fn:=w.foldl (λf k=>L k f) f
theorem C8{n:Nat}:∀{w:am}{f g:Fn},Va n w->mh n f g->mh n (Xw w f) (Xw w g)
 | [],_,_,_,h=>h
 | k::w,_,_,v,h=>C8 (w:=w) (λj c=>v j<|aN _ c)<|O4 h (v k<|aL ..).1 (v k<|aL ..).2
theorem Jq{n:Nat}:∀{w:am}{f g:Fn},Va n w->mh n f g->mh n (Lw w f) (Lw w g)
 | [],_,_,_,h=>h
 | k::w,_,_,v,h=>Jq (w:=w) (λj c=>v j<|aN _ c)<|Zb h (v k<|aL ..).1 (v k<|aL ..).2
theorem abN{n:Nat}(h2:1<=j)(h3:j<n):∀{w:am}{f:Fn},Va n w->mh n (Xw w<|L j f) (L j<|Xw w f)
 | [],_,_=>.refl
 | k::w,f,v=>by
  have v1:=v k<|aL ..;have v2:Va n w:=λj c=>v j (aN _ c)
  skip
  exact(C8 v2 λo p t=>comm f p v1.1 v1.2 h2 h3 t).trans (abN h2 h3 v2)
theorem WG{n:Nat}{w:am}(v:Va n w):∀{u:am}{f:Fn},Va n u->mh n (Xw w<|Lw u f) (Lw u<|Xw w f)
 | [],_,_=>.refl
 | j::u,f,vu=>by
  have v1:=vu j<|aL ..;have v2:Va n u:=λi c=>vu i (aN _ c)
  skip
  exact(WG v v2).trans (Jq v2<|abN v1.1 v1.2 v)
abbrev D (u:ag)(g:Int->Int):Fn:=λo t=>if o=u then g t else 0
def X_D{n k:Nat}{u:ag}(g:Int->Int)(J:u.Perm<|rg n)(h0:1<=k)(h1:k<n):mh n (X k<|D u g) λo t=>D (Wd.ex u k) g o t+if lK u k=true then D u (dl g) o t else 0:=λo p t=>by
 have lo:o.length=n:=by rw[p.length_eq,Wd.jR]
 have lu:u.length=n:=by rw[J.length_eq,Wd.jR]
 have d:Wd.ex o k=u ↔ o=Wd.ex u k:=⟨λz=>by rw[<- z,Fw.sA h0 ()],λz=>by rw[z,Fw.sA h0 ()]⟩;unfold X D dl;dsimp only;by_cases c:o=u
 ·subst c;rw[aK rfl,aK rfl,aK rfl];congr 1;by_cases c2:Wd.ex o k=o
  ·rw[aK c2,aK c2.symm]
  ·rw[aI c2,aI λz=>c2 z.symm]
 ·rw[aI c,aI c,aI c];congr 1
  ·by_cases c2:Wd.ex o k=u
   ·rw[aK c2,aK<|d.mp c2]
   ·rw[aI c2,aI λz=>c2<|d.mpr z]
  ·split<;>split<;>rfl
def L_D{n k:Nat}{u:ag}(g:Int->Int)(J:u.Perm<|rg n)(h0:1<=k)(h1:k<n):mh n (L k<|D u g) λo t=>D (u.map<|Wd.sw k) g o t+if lK (bk u) k=true then D u (dl g) o t else 0:=λo p t=>by
 have d:o.map (Wd.sw k)=u ↔ o=u.map (Wd.sw k):=⟨λz=>by rw[<- z,Wm],λz=>by rw[z,Wm]⟩;unfold L D dl;dsimp only;by_cases c:o=u
 ·subst c;rw[aK rfl,aK rfl,aK rfl];congr 1;by_cases c2:o.map (Wd.sw k)=o
  ·rw[aK c2,aK c2.symm]
  ·rw[aI c2,aI λz=>c2 z.symm]
 ·rw[aI c,aI c,aI c];congr 1
  ·by_cases c2:o.map (Wd.sw k)=u
   ·rw[aK c2,aK<|d.mp c2]
   ·rw[aI c2,aI λz=>c2<|d.mpr z]
  ·split<;>split<;>rfl
def FD{l:ag}{k:Nat}(h:l.getD (k-1) 0<l.getD k 0):lK l k=false:=bA ()
theorem ab6{n:Nat}{g:Int->Int}:∀{w:am}{u:ag},u.Perm (rg n)->Wd.j_ u w->mh n (Xw w<|D u g) (D (Wd.led u w) g)
 | [],_,_,_=>.refl
 | k::w,u,hu,h=>by
  obtain⟨h1,h2,h3,c⟩:=h;have lu:u.length=n:=by rw[hu.length_eq,Wd.jR]
  have d:=oG hu h1 ();have e:mh n (X k<|D u g) (D (Wd.ex u k) g):=(X_D g hu h1 ()).trans λo p t=>by
   dsimp only;rw[FD h3,aI<|by simp,b6]
  have v:Va n w:=λj f=>by
   have:=Wd.j_.valid c j f;rw[Wd.ny,lu]at this;exact this
  skip
  exact(C8 v e).trans (ab6 d c)
theorem aaJ{n:Nat}{g:Int->Int}:∀{w:am}{u:ag},u.Perm (rg n)->Wd.j_ (bk u) w->∃v:ag,v.Perm (rg n)/\bk v=Wd.led (bk u) w/\mh n (Lw w<|D u g) (D v g)
 | [],u,hu,_=>⟨u,hu,rfl,.refl⟩
 | k::w,u,hu,h=>by
  obtain⟨h1,h2,h3,c⟩:=h;have q:(bk u).length=n:=by rw[(kX hu).length_eq,Wd.jR]
  have f:=CU hu h1 ();have d:bk (u.map<|Wd.sw k)=Wd.ex (bk u) k:=Gn hu h1 ();have e:mh n (L k<|D u g) (D (u.map<|Wd.sw k) g):=(L_D g hu h1 ()).trans λo p t=>by
   dsimp only;rw[FD h3,aI<|by simp,b6]
  have v:Va n w:=λj m=>by
   have:=Wd.j_.valid c j m;rw[Wd.ny,q]at this;exact this
  rw[<- d]at c;obtain⟨x,F,B,C⟩:=aaJ (g:=g) f c;refine⟨x,F,?_,(Jq v e).trans C⟩;rw[B,d];rfl
def n_(n:Nat):(rg n).Perm (rg n):=.refl _
theorem vc{n:Nat}:∀(m:Nat) {u:ag},u.Perm (rg n)->Iv.inv u=m->∃w,Wd.j_ (rg n) w/\Wd.led (rg n) w=u
 | 0,u,hu,hm=>by
  refine⟨[],trivial,(Fw.Rr hu λk c=>?_).symm⟩;have:=Fw.t8 c.1 c.2.1 c.2.2
  lia
 | m+1,u,hu,hm=>by
  obtain⟨k,c⟩:=Fw.VO (l:=u) ();have lu:u.length=n:=by rw[hu.length_eq,Wd.jR]
  have d:=Fw.t8 c.1 c.2.1 c.2.2;obtain⟨w,h1,h2⟩:=vc m (oG hu c.1<|by rw[<- lu];exact c.2.1) ();obtain⟨e1,e2⟩:=Su.V7 (o:=u) c.1 c.2.1;refine⟨w++[k],Wd.j_.snoc h1 c.1 (by rw[Wd.jR,<- lu];exact c.2.1)<|by rw[h2,e1,e2];exact c.2.2,?_⟩;rw[Wd.zK,h2];exact Fw.sA c.1 c.2.1
def CS(n:Nat):bk (rg n)=rg n:=by
 refine nZ (oZ<|n_ n) ⟨n_ n,n_ n,rfl,λp d=>?_⟩;have c:p<n:=by rw[Wd.jR]at d;exact d
 have e:=Wd.nO c;rw[aF d]at e;have e:=aY e;rw[show((rg n)[p]-1).toNat=p by rw[e];lia];exact Wd.nO c
def Vm{n:Nat}{u:ag}(J:u.Perm<|rg n):∃v,Va n v/\∀g,mh n (Lw v<|D (rg n) g) (D u g):=by
 obtain⟨w,h1,h2⟩:=vc _ (kX J) rfl;have v:Va n w:=λk e=>by have:=Wd.j_.valid h1 k e;rwa [Wd.jR]at this
 refine⟨w,v,λg=>?_⟩;have c:Wd.j_ (bk<|rg n) w:=by rw[CS];exact h1
 obtain⟨x,j,d,f⟩:=aaJ (g:=g) (n_ n) c;rw[CS,h2]at d;have:x=u:=by rw[<- n8 j,d,n8 J]
 rw[<- this];exact f
def Yo{n:Nat}{w:am}(h:Wd.j_ (rg n) w)(h':Wd.j_ (rg n) w')(e:Wd.led (rg n) w=Wd.led (rg n) w'){u:ag}(J:u.Perm<|rg n)(g:Int->Int):mh n (Xw w<|D u g) (Xw w'<|D u g):=by
 obtain⟨v,v1,v2⟩:=Vm J;have a:∀{w:am},Wd.j_ (rg n) w->mh n (Xw w<|D u g) (Lw v<|D (Wd.led (rg n) w) g):=λ{w} h=>by
  have vw:Va n w:=λk c=>by have:=Wd.j_.valid h k c;rwa [Wd.jR]at this
  exact(C8 vw (v2 g).symm).trans ((WG vw v1).trans<|Jq v1<|ab6 (n_ n) h)
 refine(a h).trans ?_;rw[e];exact(a h').symm
abbrev add (f g:Fn):Fn:=λo t=>f o t+g o t
def WO(k:Nat)(f g:Fn):X k (add f g)=add (X k f) (X k g):=by
 funext o t
 unfold X add dl;dsimp only;split<;>lia
theorem Jd:∀(w:am) (f g:Fn),Xw w (add f g)=add (Xw w f) (Xw w g)
 | [],_,_=>rfl
 | k::w,f,g=>by
  show Xw w (X k<|add f g)=_;rw[WO,Jd w];rfl
def NO(k:Nat):X k (λ_ _=>0)=λ_ _=>0:=by
 funext o t
 unfold X dl;split<;>rfl
theorem E1:∀w:am,Xw w (λ_ _=>0)=λ_ _=>0
 | []=>rfl
 | k::w=>by
  show Xw w (X k _)=_;rw[NO,E1 w]
def EU(e:ag×Po.Pl)(l:Su.Ps):Su.cS (e::l)=add (D e.1<|Po.cf e.2) (Su.cS l):=by
 funext o t
 show(if e.1=o then _ else _)+_=(if o=e.1 then _ else _)+_;by_cases c:e.1=o
 ·rw[aK c,aK c.symm]
 ·rw[aI c,aI λz=>c z.symm]
theorem Od{n:Nat}{w:am}(h:Wd.j_ (rg n) w)(h':Wd.j_ (rg n) w')(e:Wd.led (rg n) w=Wd.led (rg n) w'):∀{l:Su.Ps},(∀x∈l,x.1.Perm<|rg n)->mh n (Xw w<|Su.cS l) (Xw w'<|Su.cS l)
 | [],_=>by
  have z:Su.cS []=λ_ _=>0:=rfl;rw[z,E1,E1];exact .refl
 | x::l,hx=>by
  rw[EU,Jd,Jd];intro o p t;unfold add;rw[Yo h h' e (hx x<|aL ..) _ o p t,Od h h' e (λy c=>hx y<|aN _ c) o p t]
def Vn{n k:Nat}{l:Su.Ps}(h:∀x∈l,x.1.Perm<|rg n)(h0:1<=k)(h1:k<n):mh n (Su.cS<|Su.bx k l) (X k<|Su.cS l):=λo p t=>by
 have go:∀{x:ag},x.Perm (rg n)->Su.Go n k x:=λ{x} hx=>⟨by rw[hx.length_eq,Wd.jR],nb hx h0 h1⟩;unfold Su.bx;rw[Su.AU<|Su.Gd.nil.adds _,Su.Ja];show 0+_=_;rw[bV,Su.Ww h0 h1 (λe c=>go<|h e c) t<|go p];rfl
end He
namespace He
open PySem L2 Am Po
open Fw (Two rg EK)
open Su (lK Ps cS)
abbrev cv:Pl->(Int->Int)->Int->Int
 | [],_,_=>0
 | q::p,g,t=>q.2 * g (t-q.1)+cv p g t
def Iu(a b:Pl)(g:Int->Int)(t:Int):cv (a++b) g t=cv a g t+cv b g t:=by
 induction a with
 | nil=>exact(bV _).symm
 | cons q a c=>
  show _+cv (a++b) g t=_+_+_;rw[c,dD]
def yC(p:Pl)(g h:Int->Int)(t:Int):cv p (λt=>g t+h t) t=cv p g t+cv p h t:=by
 induction p with
 | nil=>rfl
 | cons q p c=>
  show q.2 * (g (t-q.1)+h (t-q.1))+cv p _ t=(q.2 * g (t-q.1)+cv p g t)+(q.2 * h (t-q.1)+cv p h t);rw[c,iJ];lia
def vm(p:Pl)(t:Int):cv p (λ_=>0) t=0:=by
 induction p with
 | nil=>rfl
 | cons q p c=>
  show q.2 * 0+cv p _ t=0;rw[c,eg];rfl
def VX(p:Pl)(g:Int->Int)(t:Int):cv p (dl g) t=dl (cv p g) t:=by
 induction p with
 | nil=>rfl
 | cons q p c=>
  show q.2 * (g (t-q.1+1)-g (t-q.1-1))+cv p (dl g) t=(q.2 * g (t+1-q.1)+cv p g (t+1))-(q.2 * g (t-1-q.1)+cv p g (t-1));rw[c,Int.mul_sub,show t-q.1+1=t+1-q.1 by lia,show t-q.1-1=t-1-q.1 by lia];show _+(cv p g (t+1)-cv p g (t-1))=_
  lia
def abv(p q:Pl)(t:Int):cf (times p q) t=cv p (cf q) t:=by
 rw[Su.A6]
 induction p with
 | nil=>rfl
 | cons a p c=>
  show cf ((q.map λb=>(a.1+b.1,a.2 * b.2))++HA p q) t=_;rw[Su.oz,Su.LD,c];rfl
def NS(p:Pl)(g:Int->Int)(t a:Int):cv p g t=cf p a * g (t-a)+cv (p.filter λq=>decide<|q.1≠a) g t:=by
 induction p with
 | nil=>show(0:Int)=0 * _+0;rw[zero_mul];rfl
 | cons q p d=>
  show q.2 * g (t-q.1)+cv p g t=((if q.1=a then q.2 else 0)+cf p a) * g (t-a)+_;rw[bY,Int.add_mul];by_cases c:q.1=a
  ·rw[aK c,bA<|by simpa using c,aI<|by simp,d,c];lia
  ·rw[aI c,bg c,aK rfl,d,zero_mul];show _=0+_+(q.2 * g (t-q.1)+cv _ g t)
   lia
def M_(p:Pl)(a b:Int):cf (p.filter λq=>decide<|q.1≠a) b=if b=a then 0 else cf p b:=by
 induction p with
 | nil=>show(0:Int)=_;split<;>rfl
 | cons q p d=>
  rw[bY];show _=if b=a then 0 else(if q.1=b then q.2 else 0)+cf p b
  by_cases c:q.1=a
  ·rw[bA<|by simpa using c,aI<|by simp,d];by_cases e:b=a
   ·rw[aK e,aK e]
   ·rw[aI e,aI e,aI (),bV]
  ·rw[bg c,aK rfl];show(if q.1=b then q.2 else 0)+cf _ b=_;rw[d];by_cases e:b=a
   ·rw[aK e,aK e,aI ()];rfl
   ·rw[aI e,aI e]
def Dk:∀(m:Nat) {p:Pl},p.length=m->(∀k,cf p k=0)->∀(g:Int->Int) (t:Int),cv p g t=0:=by
 intro m
 induction m using Nat.strongRecOn with
 | _ m c=>
  intro p d h g t
  cases p with
  | nil=>rfl
  | cons q p=>
   rw[NS _ g t q.1,h,zero_mul,bV];refine c _ ?_ rfl (λk=>?_) g t
   ·rw[bY,bA<|by simp,aI<|by simp,<- d];exact Nat.lt_succ_of_le (cG _ _)
   ·rw[M_];split
    ·rfl
    ·exact h k
def Ow(p:Pl)(g:Int->Int)(t:Int):cv (p.map λq=>(q.1,-q.2)) g t=- cv p g t:=by
 induction p with
 | nil=>rfl
 | cons q p c=>
  show -q.2 * g (t-q.1)+cv (p.map _) g t=-(q.2 * g (t-q.1)+cv p g t);rw[c,Int.neg_mul];lia
def Q2(p:Pl)(k:Int):cf (p.map λq=>(q.1,-q.2)) k=- cf p k:=by
 induction p with
 | nil=>rfl
 | cons q p c=>
  show(if q.1=k then -q.2 else 0)+cf (p.map _) k=-((if q.1=k then q.2 else 0)+cf p k);rw[c];split<;>lia
def IC{p q:Pl}(h:∀k,cf p k=cf q k)(g:Int->Int)(t:Int):cv p g t=cv q g t:=by
 have:=Dk _ (p:=p++q.map λq=>(q.1,-q.2)) rfl (λk=>by rw[Su.oz,Q2,h];lia) g t;rw[Iu,Ow]at this
 lia
def ab3(p q:Pl)(g:Int->Int)(t:Int):cv p (cv q g) t=cv q (cv p g) t:=by
 induction p generalizing t with
 | nil=>exact(vm q t).symm
 | cons a p d=>
  show a.2 * cv q g (t-a.1)+cv p (cv q g) t=cv q (λt=>a.2 * g (t-a.1)+cv p g t) t;rw[d,yC];congr 1;clear d
  induction q with
  | nil=>show a.2 * 0=0;rw[eg]
  | cons b q c=>
   show a.2 * (b.2 * g (t-a.1-b.1)+cv q g (t-a.1))=b.2 * (a.2 * g (t-b.1-a.1))+cv q _ t;rw[<- c,iJ,show t-a.1-b.1=t-b.1-a.1 by lia,<- mul_assoc,<- mul_assoc,Int.mul_comm a.2 b.2]
abbrev s_ (p:Pl)(f:Fn):Fn:=λo t=>cv p (f o) t
def Xl(k:Nat)(p:Pl)(f:Fn):X k (s_ p f)=s_ p (X k f):=by
 funext o t
 show cv p (f<|Wd.ex o k) t+(if lK o k=true then dl (cv p<|f o) t else 0)=cv p (λt=>f (Wd.ex o k) t+if lK o k=true then dl (f o) t else 0) t;rw[yC]
 cases lK o k with
 | true=>dsimp[dg];rw[<- VX]
 | false=>dsimp[bC,cJ];rw[vm]
abbrev sw (n:Nat)(o:ag):am:=by
 classical
 exact if h:o.Perm (rg n)then(vc _ h rfl).choose else[]
def Ag{n:Nat}{o:ag}(h:o.Perm<|rg n):Wd.j_ (rg n) (sw n o)/\Wd.led (rg n) (sw n o)=o:=by
 unfold sw;rw[dif_pos h];exact(vc _ h rfl).choose_spec
def NG{n:Nat}{o:ag}(h:o.Perm<|rg n):Va n (sw n o):=λk c=>by have:=Wd.j_.valid (Ag h).1 k c;rwa [Wd.jR]at this
abbrev RG (G:ag->Fn):Ps->Fn
 | []=>λ_ _=>0
 | e::m=>add (s_ e.2<|G e.1)<|RG G m
abbrev R (n:Nat)(m:Ps)(f:Fn):Fn:=RG (λo=>Xw (sw n o) f) m
def XT(G:ag->Fn)(a b:Ps):RG G (a++b)=add (RG G a) (RG G b):=by
 induction a with
 | nil=>funext o t;exact(bV _).symm
 | cons e a c=>
  show add _ (RG G<|a++b)=_;rw[c]
  funext o t
  exact(dD _ _ _).symm
theorem W3(G:ag->Fn)(o:ag)(t:Int)(w:ag):∀m:Ps,RG G m o t=cv ((m.filter λe=>decide<|e.1=w).flatMap λe=>e.2) (G w o) t+RG G (m.filter λe=>decide<|e.1≠w) o t
 | []=>rfl
 | e::m=>by
  show cv e.2 (G e.1 o) t+RG G m o t=_;rw[W3 G o t w m,bY,bY];by_cases c:e.1=w
  ·rw[bg c,aK rfl,bA<|by simpa using c,aI<|by simp,fG,Iu,c];lia
  ·rw[bA c,aI<|by simp,bg c,aK rfl];show _=_+(cv e.2 (G e.1 o) t+RG G _ o t)
   lia
theorem Em(w:ag)(t:Int):∀m:Ps,cf ((m.filter λe=>decide<|e.1=w).flatMap λe=>e.2) t=cS m w t
 | []=>rfl
 | e::m=>by
  rw[bY];show _=(if e.1=w then cf e.2 t else 0)+cS m w t;by_cases c:e.1=w
  ·rw[bg c,aK rfl,aK c,fG,Su.oz,Em w t m]
  ·rw[bA c,aI<|by simp,aI c,Em w t m,bV]
theorem ye(w o:ag)(t:Int):∀m:Ps,cS (m.filter λe=>decide<|e.1≠w) o t=if o=w then 0 else cS m o t
 | []=>by show(0:Int)=_;split<;>rfl
 | e::m=>by
  rw[bY];show _=if o=w then 0 else(if e.1=o then cf e.2 t else 0)+cS m o t
  by_cases c:e.1=w
  ·rw[bA<|by simpa using c,aI<|by simp,ye w o t m];by_cases d:o=w
   ·rw[aK d,aK d]
   ·rw[aI d,aI d,aI λz=>d<|z.symm.trans c,bV]
  ·rw[bg c,aK rfl];show(if e.1=o then cf e.2 t else 0)+cS _ o t=_;rw[ye w o t m];by_cases d:o=w
   ·rw[aK d,aK d,aI λz=>c<|z.trans d];rfl
   ·rw[aI d,aI d]
def MK(G:ag->Fn)(o:ag)(t:Int):∀(k:Nat) {m:Ps},m.length=k->(∀w s,cS m w s=0)->RG G m o t=0:=by
 intro k
 induction k using Nat.strongRecOn with
 | _ k d=>
  intro m c h
  cases m with
  | nil=>rfl
  | cons e m=>
   rw[W3 G o t e.1];have z:cv (((e::m).filter λx=>decide<|x.1=e.1).flatMap λe=>e.2) (G e.1 o) t=0:=Dk _ rfl (λs=>by rw[Em];exact h _ _) _ _;rw[z,bV];refine d _ ?_ rfl λw s=>?_
   ·rw[bY,bA<|by simp,aI<|by simp,<- c];exact Nat.lt_succ_of_le (cG _ _)
   ·rw[ye];split
    ·rfl
    ·exact h w s
def XY(G:ag->Fn)(h:∀w s,cS m w s=cS m' w s):RG G m=RG G m':=by
 funext o t
 have d:∀m:Ps,RG G (m.map λe=>(e.1,e.2.map λq=>(q.1,-q.2))) o t=- RG G m o t:=λm=>by
  induction m with
  | nil=>rfl
  | cons e m f=>
   show cv (e.2.map λq=>(q.1,-q.2)) (G e.1 o) t+RG G (m.map _) o t=-(cv e.2 (G e.1 o) t+RG G m o t);rw[f,Ow];lia
 have c:∀(m:Ps) (w:ag) (s:Int),cS (m.map λe=>(e.1,e.2.map λq=>(q.1,-q.2))) w s=- cS m w s:=λm w s=>by
  induction m with
  | nil=>rfl
  | cons e m f=>
   show(if e.1=w then cf (e.2.map λq=>(q.1,-q.2)) s else 0)+cS (m.map _) w s=-((if e.1=w then cf e.2 s else 0)+cS m w s);rw[f,Q2];split<;>lia
 have:=MK G o t _ (m:=m++m'.map λe=>(e.1,e.2.map λq=>(q.1,-q.2))) rfl λw s=>by rw[Su.nR,c,h];lia
 rw[XT]at this;have this:RG G m o t+RG G (m'.map λe=>(e.1,e.2.map λq=>(q.1,-q.2))) o t=0:=this;rw[d]at this
 lia
def X_X{n k:Nat}(h0:1<=k)(h1:k<n)(f:Fn):mh n (X k<|X k f) λo t=>f o t+dl (X k f o) t:=λo p t=>by
 have lo:o.length=n:=by rw[p.length_eq,Wd.jR]
 have go:Su.Go n k o:=⟨lo,nb p h0 h1⟩;obtain⟨_,hf⟩:=go.ex h0 h1;unfold X dl;dsimp only;rw[Fw.sA h0 (),hf]
 cases lK o k with
 | true=>dsimp[cI,bC,cJ,dg];lia
 | false=>dsimp[c5,bC,cJ,dg];lia
def Fb{n:Nat}{f g:Fn}(p:Pl)(h:mh n f g):mh n (s_ p f) (s_ p g):=λo c t=>by
 show cv p (f o) t=cv p (g o) t;rw[show f o=g o from funext λt=>h o c t]
def Ks{n k:Nat}{m:Ps}(h0:1<=k)(h1:k<n)(J:∀x∈m,x.1.Perm<|rg n):∀x∈Su.bx k m,x.1.Perm (rg n):=Su.su (P:=λo=>o.Perm<|rg n) (Su.qv (P:=λo=>o.Perm<|rg n) _ (nofun) λx c=>by
 obtain⟨f,hf,c⟩:=iE.mp c
 rcases bD.mp c with z|z
 ·rw[z];exact oG (J f hf) h0 h1
 ·split at z
  ·rw[aQ.mp z];exact J f hf
  ·cases z)
def Tc(p q:Pl)(g:Int->Int)(t:Int):cv (times p q) g t=cv p (cv q g) t:=by
 have:cv (times p q) g t=cv (HA p q) g t:=IC (λk=>Su.A6 _ _ _) g t;rw[this];clear this
 induction p with
 | nil=>rfl
 | cons a p d=>
  show cv ((q.map λb=>(a.1+b.1,a.2 * b.2))++HA p q) g t=a.2 * cv q g (t-a.1)+cv p (cv q g) t;rw[Iu,d];congr 1;clear d
  induction q with
  | nil=>show(0:Int)=a.2 * 0;rw[eg]
  | cons b q c=>
   show a.2 * b.2 * g (t-(a.1+b.1))+cv (q.map _) g t=a.2 * (b.2 * g (t-a.1-b.1)+cv q g (t-a.1));rw[c,iJ,mul_assoc,show t-(a.1+b.1)=t-a.1-b.1 by lia]
abbrev Ny (p:Pl)(l:Ps):Ps:=l.map λx=>(x.1,times p x.2)
def A3(p:Pl)(l:Ps):cS (Ny p l)=s_ p (cS l):=by
 funext o t
 induction l with
 | nil=>exact(vm p t).symm
 | cons e l d=>
  show(if e.1=o then cf (times p e.2) t else 0)+cS (Ny p l) o t=cv p (λt=>(if e.1=o then cf e.2 t else 0)+cS l o t) t;rw[yC,d];congr 1;by_cases c:e.1=o
  ·rw[aK c,abv,show(λt=>if e.1=o then cf e.2 t else 0)=cf e.2 from funext λt=>aK c]
  ·rw[aI c,show(λt=>if e.1=o then cf e.2 t else(0:Int))=λ_=>0 from funext λt=>aI c,vm]
def off{n:Nat}{m:Ps}(J:∀x∈m,x.1.Perm<|rg n){o:ag}(h:¬o.Perm (rg n))(t:Int):cS m o t=0:=Su.w_ λe c z=>h<|by rw[<- z];exact J e c
def Zc{n:Nat}{m J:Ps}(hm:∀x∈m,x.1.Perm<|rg n)(U:∀x∈J,x.1.Perm<|rg n)(h:mh n (cS m)<|cS J):∀o t,cS m o t=cS J o t:=λo t=>by
 by_cases c:o.Perm (rg n)
 ·exact h o c t
 ·rw[off hm c,off U c]
def ab0(k:Nat)(f g:Fn):L k (add f g)=add (L k f) (L k g):=by
 funext o t
 unfold L add dl;dsimp only;split<;>lia
abbrev B (f:Fn):Fn:=λo=>f<|bk o
def B_X{n k:Nat}(h0:1<=k)(h1:k<n)(f:Fn):mh n (B<|X k f) (L k<|B f):=λo p t=>by
 show f (Wd.ex (bk o) k) t+(if lK (bk o) k=true then dl (f<|bk o) t else 0)=f (bk<|o.map<|Wd.sw k) t+if lK (bk o) k=true then dl (f<|bk o) t else 0
 rw[Gn p h0 h1]
abbrev d0:Int->Int:=λt=>if t=0 then 1 else 0
def W0(p:Pl)(t:Int):cv p d0 t=cf p t:=by
 induction p with
 | nil=>rfl
 | cons q p d=>
  show q.2 * (if t-q.1=0 then 1 else 0)+cv p d0 t=(if q.1=t then q.2 else 0)+cf p t;rw[d];by_cases c:q.1=t
  ·rw[aK c,aK (),Int.mul_one]
  ·rw[aI c,aI (),eg]
abbrev wb (l:Ps):Ps:=l.map λe=>(bk e.1,e.2)
theorem yT{n:Nat}{o:ag}(J:o.Perm<|rg n)(t:Int):∀{l:Ps},(∀x∈l,x.1.Perm<|rg n)->cS (wb l) o t=cS l (bk o) t
 | [],_=>rfl
 | e::l,hl=>by
  show(if bk e.1=o then cf e.2 t else 0)+cS (wb l) o t=(if e.1=bk o then cf e.2 t else 0)+cS l (bk o) t;rw[yT J t λx d=>hl x<|aN _ d];have f:=hl e<|aL ..;congr 1;by_cases c:bk e.1=o
  ·rw[aK c,aK<|by rw[<- c,n8 f]]
  ·rw[aI c,aI λz=>c<|by rw[z,n8 J]]
end He
namespace He
open PySem L2 Am Po
open Fw (Two rg EK)
open Su (lK Ps cS Gd vS toS adds bx)
def N2{D:Ps}(h:Gd D){e:ag×Pl}(J:e∈D):vS D e.1=e.2:=by
 rcases Su.qI (D:=D) (o:=e.1)with⟨c,h1,h2,h3⟩|⟨h1,_⟩
 ·rw[h3,DB h.nd c h1 e J h2]
 ·exact absurd (fL J) h1
def GZ{D:Ps}(h:Gd D):(D.map Prod.fst).map (λk=>(k,vS D k))=D:=by
 rw[bq]
 conv=>rhs;rw[<- jx D]
 exact cQ λe c=>by
  show(e.1,vS D e.1)=e;rw[N2 h c]
def B_{D:Ps}(h:Gd D)(o:ag)(t:Int):cS D o t=cf (vS D o) t:=by
 conv=>lhs;rw[<- GZ h]
 rw[Su.Ie h.nd];split
 ·rfl
 ·rename_i c
  rcases Su.qI (D:=D) (o:=o)with⟨e,h1,h2,_⟩|⟨_,h2⟩
  ·exact absurd (h2 ▸ fL h1) c
  ·rw[h2];rfl
def IP{D:Ps}(h:Gd D):Gd (toS D):=by
 refine⟨?_,λe c=>?_⟩
 ·unfold toS;rw[bq,show(Prod.fst ∘ λo=>(o,vS D o))=id from rfl,jx];exact((j4 _).nodup_iff.mpr h.nd).filter _
 ·obtain⟨o,_,rfl⟩:=aV.mp c;exact h.v o
structure Cn (l:Ps):Prop where
 gd:Gd l
 eq:toS l=l
theorem Cn.toS{D:Ps}(h:Gd D):Cn (toS D):=⟨IP h,Su.FH (IP h) h λo t=>by rw[<- B_ (IP h),Su.AU h]⟩
def Cn.uniq{l:Ps}(h:Cn l)(h':Cn m)(e:∀o t,cS l o t=cS m o t):l=m:=by
 rw[<- h.eq,<- h'.eq];exact Su.FH h.gd h'.gd λo t=>by rw[<- B_ h.gd,<- B_ h'.gd,e]
def SO{P:Ps}(h:Gd P)(hn:∀e∈P,e.2≠[]):Bp P=toS P:=by
 symm
 have all:(lg<|P.map Prod.fst).filter (λo=>!(vS P o).isEmpty)=lg (P.map Prod.fst):=by
  rw[dm];intro o d;obtain⟨e,c,rfl⟩:=aV.mp<|(j4 _).mem_iff.mp d;rw[N2 h c]
  cases f:e.2 with
  | nil=>exact absurd f (hn e c)
  | cons=>rfl
 have ts:toS P=(lg<|P.map Prod.fst).map λo=>(o,vS P o):=by unfold toS;rw[all]
 refine Jl h.nd ?_ ?_
 ·rw[ts];have:=(j4<|P.map Prod.fst).map λo=>(o,vS P o)
  rwa [GZ h]at this
 ·rw[ts,bq,show(Prod.fst ∘ λo=>(o,vS P o))=id from rfl,jx];exact uH _
abbrev ff (o:ag):bn:=((List.range<|o.length-1).find? λi=>lK o<|i+1).map (·+1)
def E5{o:ag}{k:Nat}(h:ff o=some k):1<=k/\k<o.length/\lK o k=true:=by
 obtain⟨i,c,rfl⟩:=aX.mp h;have h1:=cM.mp<|fj c;have h2:lK o (i+1)=true:=iL (p:=λi=>lK o<|i+1) c;exact⟨(),(),h2⟩
def UM{o:ag}(h:ff o=none):∀k,1<=k->k<o.length->lK o k=false:=λk h1 h2=>by
 have h:=Option.map_eq_none_iff.mp h;have:=gP.mp h (k-1)<|cM.mpr ();rw[Nat.sub_add_cancel h1]at this;simpa using this
def aba(k:Nat)(l:Ps):Cn (bx k l):=.toS<|Gd.nil.adds _
def Jr(l:Ps)(o:ag)(t:Int):cS (toS<|adds [] l) o t=cS l o t:=by
 rw[Su.AU<|Gd.nil.adds _,Su.Ja];exact bV _
abbrev wH (l m:Ps):Ps:=toS<|adds []<|l++m
def zH{n:Nat}{l m:Ps}(pl:∀x∈l,x.1.Perm<|rg n)(J:∀x∈m,x.1.Perm<|rg n):Cn (wH l m)/\(∀x∈wH l m,x.1.Perm<|rg n)/\cS (wH l m)=add (cS l) (cS m):=
 ⟨.toS<|Gd.nil.adds _,Su.su (P:=λo=>o.Perm<|rg n)<|Su.qv (P:=λo=>o.Perm<|rg n) _ (nofun) λx c=>(bz.mp c).elim (pl x)<|J x,funext λo=>funext λt=>by
  show cS (toS<|adds []<|l++m) o t=_;rw[Jr,Su.nR];rfl⟩
abbrev one (n:Nat):Ps:=[(rg n,[((0:Int),(1:Int))])]
def Qg(o:ag){p:Pl}(J:Ok p)(h0:p≠[]):Cn [(o,p)]:=by
 have g:Gd [(o,p)]:=⟨cT.mpr ⟨(λz=>nomatch z),dP⟩,λe c=>by rw[aQ.mp c];exact J⟩;exact⟨g,(SO g λe c=>by rw[aQ.mp c];exact h0).symm⟩
def SX:Ok [((0:Int),(1:Int))]:=⟨bZ _ _,λp c=>by rw[aQ.mp c];decide⟩
def Ql(n:Nat):∀x∈one n,x.1.Perm (rg n):=λx c=>by rw[aQ.mp c]
def Sj(g:Int->Int)(t:Int):cv [((0:Int),(1:Int))] g t=g t:=by
 show 1 * g (t-0)+0=_;rw[iR];lia
end He
namespace He
open PySem L2 Am Po
open Fw (Two rg EK)
open Su (lK Ps cS Gd vS toS adds bx)
abbrev arr:Nat->ag->List (ag)
 | 0,_=>[[]]
 | m+1,l=>l.flatMap λx=>(arr m<|l.erase x).map (x::·)
theorem JF:∀{m:Nat}{l o:ag},o.Perm l->l.length=m->o∈arr m l
 | 0,l,o,p,h=>by
  have:l=[]:=fO.mp h;subst this;rw[p.eq_nil];exact aQ.mpr rfl
 | m+1,l,[],p,h=>by rw[<- p.length_eq]at h;cases h
 | m+1,l,x::o,p,h=>by
  obtain⟨h1,h2⟩:=List.cons_perm_iff_perm_erase.mp p;refine iE.mpr ⟨x,h1,aV.mpr ⟨o,JF h2 ?_,rfl⟩⟩;rw[List.length_erase_of_mem h1,h];rfl
def Cz{α:Type}[DecidableEq α]{ks L:List α}(nd:ks.Nodup)(h:∀x∈ks,x∈L):ks.length<=L.length:=by
 have:=pig L.length (ks.map λx=>L.idxOf x) ?_ λi d=>?_
 ·rwa [aH]at this
 ·refine cB.mpr<|nd.imp_of_mem λ{a b} ha hb hab z=>hab ?_;have e1:=iX<|fK.mpr<|h a ha;have e2:=iX<|fK.mpr<|h b hb;rw[<- e1,<- e2];congr 1
 ·obtain⟨x,c,rfl⟩:=aV.mp d;exact fK.mpr<|h x c
def U5:∀n,n<6->(arr n<|rg n).length<=120:=by decide +kernel
def many{n:Nat}(hn:n<6){ks:List<|ag}(nd:ks.Nodup)(h:∀o∈ks,o.Perm<|rg n):ks.length<=120:=
 bG (Cz nd λo c=>JF (h o c)<|Wd.jR n) (U5 n hn)
structure FB (n P C:Nat)(f:Fn):Prop where
 c:∀o,o.Perm (rg n)->∀t,(f o t).natAbs<=C
 p:∀o,o.Perm (rg n)->∀t:Int,P<t.natAbs->f o t=0
def FB.mono{n P:Nat}{f:Fn}(h:FB n P C f)(J:P<=P')(hc:C<=C'):FB n P' C' f:=⟨λo d t=>bG (h.c o d t) hc,λo d t e=>h.p o d t ()⟩
def FB.eq{n P:Nat}{f g:Fn}(h:FB n P C f)(e:mh n g f):FB n P C g:=⟨λo d t=>by rw[e o d t];exact h.c o d t,λo d t j=>by rw[e o d t];exact h.p o d t j⟩
theorem FB.X{n P k:Nat}{f:Fn}(h:FB n P C f)(h0:1<=k)(h1:k<n):FB n (P+1) (3 * C) (X k f):=by
 refine⟨λo e t=>?_,λo e t g=>?_⟩
 ·have a:=h.c _ (oG e h0 h1) t;have b:=h.c o e<|t+1;have d:=h.c o e<|t-1;unfold He.X dl;split<;>omega
 ·have a:=h.p _ (oG e h0 h1) t (by omega);have b:=h.p o e (t+1) (by omega);have d:=h.p o e (t-1) (by omega);unfold He.X dl;split<;>omega
theorem FB.add{n P:Nat}{f g:Fn}(h:FB n P C f)(h':FB n P C' g):FB n P (C+C') (add f g):=by
 refine⟨λo d t=>?_,λo d t e=>?_⟩
 ·have a:=h.c o d t;have b:=h'.c o d t;show(f o t+g o t).natAbs<=_;omega
 ·show f o t+g o t=0;rw[h.p o d t e,h'.p o d t e];rfl
structure PB (Q c:Nat)(p:Pl):Prop where
 c:∀q∈p,q.2.natAbs<=c
 p:∀q∈p,q.1.natAbs<=Q
theorem Zx{n P c:Nat}{f:Fn}(h:FB n P C f){o:ag}(J:o.Perm<|rg n):∀{p:Pl},PB Q c p->(∀t,(cv p (f o) t).natAbs<=p.length * (c * C))/\∀t:Int,P+Q<t.natAbs->cv p (f o) t=0
 | [],_=>⟨λ_=>bP _,λ_ _=>rfl⟩
 | q::p,b=>by
  obtain⟨j,k⟩:=Zx h J (p:=p) ⟨λx d=>b.c x<|aN _ d,λx d=>b.p x<|aN _ d⟩;have g:=b.c q<|aL ..;have m:=b.p q<|aL ..;refine⟨λt=>?_,λt e=>?_⟩
  ·show(q.2 * f o (t-q.1)+cv p (f o) t).natAbs<=(p.length+1) * (c * C);refine bG (Int.natAbs_add_le _ _) ?_;rw[Int.natAbs_mul,fS,Nat.add_comm];exact Nat.add_le_add (j t) (iY g<|h.c o J _)
  ·show q.2 * f o (t-q.1)+cv p (f o) t=0;rw[k t e,h.p o J _<|by omega,eg];rfl
theorem FB.s_{n P c:Nat}{f:Fn}(h:FB n P C f){p:Pl}(b:PB Q c p):FB n (P+Q) (p.length * (c * C)) (s_ p f):=⟨λo d t=>(Zx h d b).1 t,λo d t e=>(Zx h d b).2 t e⟩
theorem tV:∀{w:am}{l:ag},Wd.j_ l w->Iv.inv (Wd.led l w)=Iv.inv l+w.length
 | [],_,_=>rfl
 | k::w,l,h=>by
  have:=tV h.2.2.2;rw[Fw.El h.1 h.2.1 h.2.2.1]at this;show Iv.inv (Wd.led (Wd.ex l k) w)=_+(w.length+1)
  lia
def IZ{n:Nat}{o:ag}(h:o.Perm<|rg n):(sw n o).length=Iv.inv o:=by
 obtain⟨a,b⟩:=Ag h;have:=tV a;rw[b,Fw.BE]at this
 lia
theorem Og:∀{l:Pl}{a b:Int},l.Pairwise (λp q=>p.1<q.1)->(∀p∈l,a<=p.1/\p.1<=b)->l.length<=(b-a+1).toNat
 | [],_,_,_,_=>bP _
 | p::l,a,b,h,hb=>by
  obtain⟨h1,h2⟩:=bX.mp h;have p1:=hb p<|aL ..;have i:=Og (l:=l) (a:=a+1) (b:=b) h2 λq c=>by
   have:=h1 q c;have:=hb q (aN _ c)
   lia
  rw[bJ]
  lia
def Yc{p:Pl}{P c:Nat}(h:Ok p)(b:PB P c p):p.length<=2 * P+1:=by
 have:=Og (a:=-(P:Int)) (b:=P) h.up λq d=>by have:=b.p q d;omega
 omega
def FB.pb{n P:Nat}{l:Ps}(h:FB n P C<|cS l)(hc:Gd l)(pl:∀x∈l,x.1.Perm<|rg n){e:ag×Pl}(J:e∈l):PB P C e.2/\e.2.length<=2 * P+1:=by
 have ok:=hc.ok e J;have f:∀q∈e.2,cS l e.1 q.1=q.2:=λq d=>by
  rw[B_ hc,N2 hc J];exact Su.Ok.z_ ok d
 have b:PB P C e.2:=⟨λq d=>by rw[<- f q d];exact h.c _ (pl e J) _,λq d=>by
  refine jc λz=>ok.nz q d ?_;rw[<- f q d];exact h.p _ (pl e J) _ z⟩
 exact⟨b,Yc ok b⟩
structure Sz (n P C:Nat)(l:Ps):Prop where
 cn:Cn l
 pm:∀x∈l,x.1.Perm (rg n)
 fb:FB n P C<|cS l
def Sz.pb{n P:Nat}{l:Ps}(h:Sz n P C l){e:ag×Pl}(J:e∈l):PB P C e.2/\e.2.length<=2 * P+1:=h.fb.pb h.cn.gd h.pm J
def Sz.many{n P:Nat}{l:Ps}(hn:n<6)(h:Sz n P C l):l.length<=120:=by
 have:=He.many hn h.cn.gd.nd λo c=>by obtain⟨e,d,rfl⟩:=aV.mp c;exact h.pm e d
 rwa [aH]at this
def Sz.mono{n P:Nat}{l:Ps}(h:Sz n P C l)(J:P<=P')(hc:C<=C'):Sz n P' C' l:=⟨h.cn,h.pm,h.fb.mono J hc⟩
theorem Sz.bx{n P k:Nat}{l:Ps}(h:Sz n P C l)(h0:1<=k)(h1:k<n):Sz n (P+1) (3 * C) (bx k l):=⟨aba _ _,Ks h0 h1 h.pm,(h.fb.X h0 h1).eq<|Vn h.pm h0 h1⟩
def Sz.sum{n P c:Nat}{l:Ps}(h:Sz n P C l)(h':Sz n P c m):Sz n P (C+c) (wH l m):=by
 obtain⟨a,b,d⟩:=zH h.pm h'.pm;exact⟨a,b,by rw[d];exact h.fb.add h'.fb⟩
end He
namespace Su
open Am Po PySem L2
def MV{D:Es}{r:Nat}{p:Pl}:∃e,fE (l_ D o r p) o=some e/\e.2.1=r:=by
 unfold l_;by_cases c:(fE D o).isSome=true
 ·rw[aK c];obtain⟨e,d⟩:=d9.mp c;unfold fE at d ⊢;rw[iu];have eq:((λe:En=>decide<|e.1=o) ∘ λe:En=>if e.1=o then(e.1,r,p)else e)=λe:En=>decide (e.1=o):=by
   funext x
   show decide ((if x.1=o then(x.1,r,p)else x).1=o)=_;by_cases z:x.1=o
   ·rw[aK z]
   ·rw[aI z]
  rw[eq,d];have:=iL d;have:=bQ this;exact⟨_,rfl,by show(if e.1=o then(e.1,r,p)else e).2.1=r;rw[aK this]⟩
 ·rw[aI c];have c:fE D o=none:=Option.not_isSome_iff_eq_none.mp c;unfold fE at c ⊢;rw[List.find?_append,c];exact⟨(o,r,p),by rw[cg,bg rfl];rfl,rfl⟩
end Su
namespace He
open PySem L2 Am Po
open Fw (Two rg EK)
open Su (lK Ps cS Gd vS toS adds bx)
def Sz.of{n P:Nat}{l:Ps}(h:Cn l)(J:∀x∈l,x.1.Perm<|rg n)(pb:∀e∈l,PB P C e.2):Sz n P C l:=by
 refine⟨h,J,⟨λo j t=>?_,λo j t k=>?_⟩⟩
 ·rw[B_ h.gd]
  rcases Su.qI (D:=l) (o:=o)with⟨e,h1,_,h3⟩|⟨_,h2⟩
  ·rw[h3];exact Su.aaM (h.gd.ok e h1) (λq d=>(pb e h1).c q d) t
  ·rw[h2];exact bP _
 ·rw[B_ h.gd]
  rcases Su.qI (D:=l) (o:=o)with⟨e,h1,_,h3⟩|⟨_,h2⟩
  ·rw[h3];have:∀q∈e.2,q.1≠t:=λq d z=>by have:=(pb e h1).p q d;rw[z]at this;lia
   clear h3;revert this;generalize e.2=p0;intro this
   induction p0 with
   | nil=>rfl
   | cons q p g=>
    have z:=this q<|aL ..;have i:=g λx f=>this x<|aN _ f;show(if q.1=t then q.2 else 0)+cf p t=0;rw[aI z,i];rfl
  ·rw[h2];rfl
def UI{o:ag}:((lJ 1 (o.length:Int)).filter λk=>decide<|o.getD (k-1).toNat 0>o.getD k.toNat 0).head?=(ff o).map λk:Nat=>(k:Int):=by
 rw[List.head?_filter];unfold lJ ff;rw[iu,show((o.length:Int)-1).toNat=o.length-1 by lia,eY];have:((λk:Int=>decide<|o.getD (k-1).toNat 0>o.getD k.toNat 0) ∘ λk:Nat=>(1:Int)+(k:Int))=λi:Nat=>lK o (i+1):=by
  funext i
  show decide (o.getD ((1:Int)+(i:Int)-1).toNat 0>o.getD ((1:Int)+(i:Int)).toNat 0)=decide _;rw[show((1:Int)+(i:Int)-1).toNat=i+1-1 by lia,show((1:Int)+(i:Int)).toNat=i+1 by lia]
 rw[this];congr 1
 funext i
 show(1:Int)+(i:Int)=((i+1:Nat):Int)
 lia
end He
namespace He
open PySem L2 Am Po
open Fw (Two rg EK)
open Su (lK Ps cS Gd vS toS adds bx)
theorem EW{n:Nat}:∀{w:am}{l:ag},l.Perm (rg n)->Va n w->Iv.inv (Wd.led l w)<=Iv.inv l+w.length/\(Iv.inv (Wd.led l w)=Iv.inv l+w.length->Wd.j_ l w)
 | [],l,_,_=>⟨aR _,λ_=>trivial⟩
 | k::w,l,p,v=>by
  have v1:=v k<|aL ..;have m:l.length=n:=by rw[p.length_eq,Wd.jR]
  obtain⟨e,d⟩:=EW (w:=w) (oG p v1.1 v1.2) λj f=>v j<|aN _ f;have e:Iv.inv (Wd.led l (k::w))<=Iv.inv (Wd.ex l k)+w.length:=e;have d:Iv.inv (Wd.led l (k::w))=Iv.inv (Wd.ex l k)+w.length->Wd.j_ (Wd.ex l k) w:=d;rw[bJ]
  rcases gh 0 0 with z|_
  ·lia
  ·by_cases c:l.getD (k-1) 0<l.getD k 0
   ·have u:=Fw.El v1.1 () c;exact⟨(),λh=>⟨v1.1,(),c,d ()⟩⟩
   ·have g:=nb p v1.1 v1.2;have u:=Fw.t8 v1.1 () (show l.getD k 0<l.getD (k-1) 0 by lia);exact⟨(),λh=>absurd h ()⟩
theorem Fe{n:Nat}:∀{w:am}{l:ag},l.Perm (rg n)->Va n w->(Wd.led l w).Perm (rg n)
 | [],_,p,_=>p
 | k::w,l,p,v=>Fe (w:=w) (oG p (v k<|aL ..).1 (v k<|aL ..).2) λj c=>v j<|aN _ c
end He
namespace He
open PySem L2 Am Po
open Fw (Two rg EK)
open Su (lK Ps cS Gd vS toS adds bx)
def zS{n:Nat}{w:am}(h:Wd.j_ (rg n) w):Wd.j_ (rg n) w.reverse:=by
 have va:Va n w:=λk f=>by have:=Wd.j_.valid h k f;rwa [Wd.jR]at this
 have d:Va n w.reverse:=λk f=>va k<|fP.mp f;have pr:=Fe (n_ n) d;obtain⟨B,j⟩:=Ag pr;have m:=NG pr;have c:Va n (sw n<|Wd.led (rg n) w.reverse).reverse:=λk f=>m k<|fP.mp f;have g:=Wd.mX (sw n<|Wd.led (rg n) w.reverse).reverse c;rw[fF,j]at g;have e:=nZ ⟨pr,Fe (n_ n) c,g⟩ ⟨pr,Fe (n_ n) va,Wd.mX w va⟩;have p:=(EW (n_ n) c).1;rw[e,Fw.BE,iO,IZ pr]at p;have t:=tV h;have q:=(EW (n_ n) d).1;refine(EW (n_ n) d).2 ?_;rw[Fw.BE,iO]at *
 lia
abbrev Y (k:Nat)(f:Fn):Fn:=λo t=>X k f o t-dl (f o) t
abbrev Yw (w:am)(f:Fn):Fn:=w.foldl (λf k=>Y k f) f
def YS{n k:Nat}{f g:Fn}(h:mh n f g)(h0:1<=k)(h1:k<n):mh n (Y k f) (Y k g):=λo p t=>by
 unfold Y;rw[O4 h h0 h1 o p t,show f o=g o from funext λt=>h o p t]
theorem KY{n:Nat}:∀{w:am}{f g:Fn},Va n w->mh n f g->mh n (Yw w f) (Yw w g)
 | [],_,_,_,h=>h
 | k::w,f,g,v,h=>KY (w:=w) (λj c=>v j<|aN _ c)<|YS h (v k<|aL ..).1 (v k<|aL ..).2
def abl(k:Nat)(f:Fn)(o:ag)(t:Int):X k (λo t=>dl (f o) t) o t=dl (X k f o) t:=by
 unfold X dl;dsimp only;split<;>lia
def Wo(k:Nat)(f g:Fn)(o:ag)(t:Int):X k (λo t=>f o t-g o t) o t=X k f o t-X k g o t:=by
 unfold X dl;dsimp only;split<;>lia
def X_Y{n k:Nat}(h0:1<=k)(h1:k<n)(f:Fn):mh n (X k<|Y k f) f:=λo p t=>by
 have a:X k (Y k f) o t=X k (X k f) o t-X k (λo t=>dl (f o) t) o t:=Wo k (X k f) (λo t=>dl (f o) t) o t;rw[a,X_X h0 h1 f o p t,abl];dsimp only
 lia
def Y_X{n k:Nat}(h0:1<=k)(h1:k<n)(f:Fn):mh n (Y k<|X k f) f:=λo p t=>by
 show X k (X k f) o t-dl (X k f o) t=_;rw[X_X h0 h1 f o p t];dsimp only
 lia
def Ky(w:am)(k:Nat)(f:Fn):Yw (w++[k]) f=Y k (Yw w f):=by unfold Yw;rw[dz];rfl
def KQ(w:am)(k:Nat)(f:Fn):Xw (w++[k]) f=X k (Xw w f):=by unfold Xw;rw[dz];rfl
theorem abr{n:Nat}:∀{w:am}{f:Fn},Va n w->mh n (Xw w.reverse<|Yw w f) f
 | [],_,_=>.refl
 | k::w,f,v=>by
  have v1:=v k<|aL ..;rw[eE,KQ];exact(O4 (abr (w:=w) (f:=Y k f) λj c=>v j<|aN _ c) v1.1 v1.2).trans (X_Y v1.1 v1.2 f)
theorem abO{n:Nat}:∀{w:am}{f:Fn},Va n w->mh n (Yw w<|Xw w.reverse f) f
 | [],_,_=>.refl
 | k::w,f,v=>by
  have v1:=v k<|aL ..;have v2:Va n w:=λj c=>v j<|aN _ c;rw[eE,KQ]
  skip
  exact(KY v2<|Y_X v1.1 v1.2 _).trans (abO v2)
abbrev LB:Pl:=[((-1:Int),(-1:Int)),((1:Int),(1:Int))]
def aag(g:Int->Int)(t:Int):cv LB g t=- dl g t:=by
 show -1 * g (t - -1)+(1 * g (t-1)+0)=-(g (t+1)-g (t-1));rw[show t - -1=t+1 by lia];lia
abbrev CK (p:Pl)(l:Ps):Ps:=toS<|adds []<|Ny p l
def EM(p:Pl)(l:Ps):cS (CK p l)=s_ p (cS l):=by
 funext o t
 unfold CK;rw[Jr,A3]
def Eh{n:Nat}{p:Pl}{l:Ps}(pl:∀x∈l,x.1.Perm<|rg n):Cn (CK p l)/\∀x∈CK p l,x.1.Perm (rg n):=
 ⟨.toS<|Gd.nil.adds _,Su.su (P:=λo=>o.Perm<|rg n) (Su.qv (P:=λo=>o.Perm<|rg n) _ (nofun) λx c=>by
  obtain⟨y,d,rfl⟩:=aV.mp c;exact pl y d)⟩
abbrev yb (k:Nat)(l:Ps):Ps:=wH (bx k l)<|CK LB l
def aar{n k:Nat}{l:Ps}(h0:1<=k)(h1:k<n)(pl:∀x∈l,x.1.Perm<|rg n):Cn (yb k l)/\(∀x∈yb k l,x.1.Perm<|rg n)/\mh n (cS<|yb k l) (Y k<|cS l):=by
 obtain⟨a,b,c⟩:=zH (Ks h0 h1 pl) (Eh (p:=LB) pl).2;refine⟨a,b,λo p t=>?_⟩;show cS (wH (bx k l)<|CK LB l) o t=_;rw[c,EM];show cS (bx k l) o t+cv LB (cS l o) t=X k (cS l) o t-dl (cS l o) t;rw[Vn pl h0 h1 o p t,aag];lia
abbrev ybw (w:am)(l:Ps):Ps:=w.foldl (λl k=>yb k l) l
theorem RM{n:Nat}:∀{w:am}{l:Ps},Va n w->Cn l->(∀x∈l,x.1.Perm<|rg n)->Cn (ybw w l)/\(∀x∈ybw w l,x.1.Perm<|rg n)/\mh n (cS<|ybw w l) (Yw w<|cS l)
 | [],_,_,c,p=>⟨c,p,.refl⟩
 | k::w,l,v,c,p=>by
  have v1:=v k<|aL ..;have v2:Va n w:=λj t=>v j<|aN _ t;obtain⟨e,f,m⟩:=aar v1.1 v1.2 p;obtain⟨q,g,d⟩:=RM v2 e f;exact⟨q,g,d.trans<|KY v2 m⟩
def abm{n:Nat}{w:am}(h:Wd.j_ (rg n) w)(h':Wd.j_ (rg n) w')(e:Wd.led (rg n) w=Wd.led (rg n) w'){l:Ps}(hc:Cn l)(J:∀x∈l,x.1.Perm<|rg n):mh n (Yw w<|cS l) (Yw w'<|cS l):=by
 have va:Va n w:=λk f=>by have:=Wd.j_.valid h k f;rwa [Wd.jR]at this
 have d:Va n w':=λk f=>by have:=Wd.j_.valid h' k f;rwa [Wd.jR]at this
 have g:Va n w.reverse:=λk f=>va k<|fP.mp f;have c:Va n w'.reverse:=λk f=>d k<|fP.mp f;obtain⟨_,m,j⟩:=RM d hc J;have B:=Wd.mX w va;have t:=Wd.mX w' d;have q:Wd.led (rg n) w.reverse=Wd.led (rg n) w'.reverse:=by
  have p:=Fe (n_ n) va;have c1:=Wd.mX w.reverse g;have c2:=Wd.mX w'.reverse c;rw[fF]at c1 c2;rw[<- e]at c2;exact nZ ⟨p,Fe (n_ n) g,c1⟩ ⟨p,Fe (n_ n) c,c2⟩
 have s:mh n (Xw w.reverse<|Yw w'<|cS l) (cS l):=by
  refine(C8 g j.symm).trans ((Od (zS h) (zS h') q m).trans<|(C8 c j).trans ?_);exact abr d
 exact(KY va s.symm).trans (abO va)
abbrev bT (n:Nat)(o:ag):Fn:=Yw (sw n o)<|cS<|one n
def IT(n:Nat):Cn (one n):=Qg _ SX<|by simp
def zL{n:Nat}{o:ag}{w:am}(J:o.Perm<|rg n)(h:Wd.j_ (rg n) w)(e:Wd.led (rg n) w=o):mh n (bT n o) (Yw w<|cS<|one n):=by
 obtain⟨a,b⟩:=Ag J;exact abm a h (b.trans e.symm) (IT n)<|Ql n
def Wq{n k:Nat}{o:ag}(J:o.Perm<|rg n)(h0:1<=k)(h1:k<n)(hf:lK o k=false):mh n (bT n<|Wd.ex o k) (Y k<|bT n o):=by
 obtain⟨e,c⟩:=Ag J;have f:=nb J h0 h1;have d:(Wd.led (rg n)<|sw n o).getD (k-1) 0<(Wd.led (rg n)<|sw n o).getD k 0:=by
  rw[c];have:=dI hf
  lia
 have c1:Wd.j_ (rg n) (sw n o++[k]):=Wd.j_.snoc e h0 (by rw[Wd.jR];exact h1) d;have c2:Wd.led (rg n) (sw n o++[k])=Wd.ex o k:=by rw[Wd.zK,c];rfl
 have:=zL (oG J h0 h1) c1 c2;rw[Ky]at this;exact this
def Wg{n k:Nat}{o:ag}(J:o.Perm<|rg n)(h0:1<=k)(h1:k<n)(hf:lK o k=true):mh n (bT n o) (Y k<|bT n<|Wd.ex o k):=by
 have c:o.length=n:=by rw[J.length_eq,Wd.jR]
 have go:Su.Go n k o:=⟨c,nb J h0 h1⟩;have:=Wq (oG J h0 h1) h0 h1 (by rw[(go.ex h0 h1).2,hf];rfl);rw[Fw.sA h0 ()]at this;exact this
def Dz(p:Pl)(k:Int):cf (turn p) k=cf p (-k):=by
 have r:∀p:Pl,cf p.reverse k=cf p k:=λp=>by
  induction p with
  | nil=>rfl
  | cons q p d=>
   rw[eE,Su.oz,d];show cf p k+((if q.1=k then q.2 else 0)+0)=(if q.1=k then q.2 else 0)+cf p k
   lia
 unfold turn;rw[List.map_reverse,r]
 induction p with
 | nil=>rfl
 | cons q p d=>
  show(if -q.1=k then q.2 else 0)+cf (p.map _) k=(if q.1=-k then q.2 else 0)+cf p (-k);rw[d];congr 1;by_cases c:-q.1=k
  ·rw[aK c,aK ()]
  ·rw[aI c,aI ()]
def ze(p:Pl)(g:Int->Int)(t:Int):cv (turn p) g t=cv p (λs=>g<|-s) (-t):=by
 have e:cv (turn p) g t=cv (p.map λq=>(-q.1,q.2)) g t:=by
  refine IC (λk=>?_) g t;rw[Dz]
  induction p with
  | nil=>rfl
  | cons q p d=>
   show(if q.1=-k then q.2 else 0)+cf p (-k)=(if -q.1=k then q.2 else 0)+cf (p.map _) k;rw[d];congr 1;by_cases c:-q.1=k
   ·rw[aK c,aK ()]
   ·rw[aI c,aI ()]
 rw[e]
 induction p with
 | nil=>rfl
 | cons q p d=>
  show q.2 * g (t - -q.1)+cv (p.map _) g t=q.2 * g (-(-t-q.1))+cv p _ (-t);have d:=d (IC (λk=>by
   rw[Dz];clear e d
   induction p with
   | nil=>rfl
   | cons q p d=>
    show(if q.1=-k then q.2 else 0)+cf p (-k)=(if -q.1=k then q.2 else 0)+cf (p.map _) k;rw[d];congr 1;by_cases c:-q.1=k
    ·rw[aK c,aK ()]
    ·rw[aI c,aI ()]) g t)
  rw[d,show -(-t-q.1)=t - -q.1 by lia]
abbrev Bt (n:Nat):Ps->Fn
 | []=>λ_ _=>0
 | e::m=>add (s_ (turn e.2)<|bT n e.1)<|Bt n m
theorem Pp(n:Nat):∀(m:Ps) (o:ag) (t:Int),Bt n m o t=RG (λu o s=>bT n u o<|-s) m o (-t)
 | [],_,_=>rfl
 | e::m,o,t=>by
  show cv (turn e.2) (bT n e.1 o) t+Bt n m o t=cv e.2 (λs=>bT n e.1 o<|-s) (-t)+RG _ m o (-t);rw[ze,Pp n m]
def IB(n:Nat)(h:∀w s,cS m w s=cS m' w s):Bt n m=Bt n m':=by
 funext o t
 rw[Pp,Pp,XY _ h]
def Bf(n:Nat)(a b:Ps):Bt n (a++b)=add (Bt n a) (Bt n b):=by
 induction a with
 | nil=>funext o t;exact(bV _).symm
 | cons e a c=>
  show add _ (Bt n<|a++b)=_;rw[c]
  funext o t
  exact(dD _ _ _).symm
def vP(p q:Pl)(g:Int->Int)(t:Int):cv (turn<|times p q) g t=cv (turn p) (cv (turn q) g) t:=by
 rw[ze,Tc,ze];congr 1
 funext s
 rw[ze,Int.neg_neg]
theorem Du(n:Nat)(p:Pl):∀l:Ps,Bt n (Ny p l)=s_ (turn p) (Bt n l)
 | []=>by funext o t;exact(vm _ t).symm
 | e::l=>by
  funext o t
  show cv (turn<|times p e.2) (bT n e.1 o) t+Bt n (Ny p l) o t=cv (turn p) (λt=>cv (turn e.2) (bT n e.1 o) t+Bt n l o t) t;rw[Du n p l,yC,vP];rfl
def Za(k:Nat)(p:Pl)(f:Fn):Y k (s_ p f)=s_ p (Y k f):=by
 funext o t
 show X k (s_ p f) o t-dl (cv p<|f o) t=cv p (λt=>X k f o t-dl (f o) t) t;rw[Xl,<- VX];show cv p (X k f o) t-cv p (dl<|f o) t=_;have:=yC p (λt=>X k f o t-dl (f o) t) (dl<|f o) t;rw[show(λt=>(λt=>X k f o t-dl (f o) t) t+dl (f o) t)=X k f o from funext λt=>by show X k f o t-dl (f o) t+dl (f o) t=_;lia]at this
 lia
def aaR(k:Nat)(f g:Fn):Y k (add f g)=add (Y k f) (Y k g):=by
 funext o t
 show X k (add f g) o t-dl (λt=>f o t+g o t) t=(X k f o t-dl (f o) t)+(X k g o t-dl (g o) t);rw[WO];show X k f o t+X k g o t-_=_;unfold dl;dsimp only
 lia
def Zy(k:Nat):Y k (λ_ _=>0)=λ_ _=>0:=by
 funext o t
 show X k (λ_ _=>0) o t-dl (λ_=>0) t=0;rw[NO];rfl
theorem NB{n k:Nat}(h0:1<=k)(h1:k<n):∀{m:Ps},(∀x∈m,x.1.Perm<|rg n)->mh n (Bt n<|Su.Ut k m) (Y k<|Bt n m)
 | [],_=>by
  show mh n (λ_ _=>0) (Y k λ_ _=>0);rw[Zy];exact .refl
 | e::m,hm=>by
  have c:=hm e<|aL ..;have q:=NB h0 h1 (m:=m) λx j=>hm x<|aN _ j;show mh n (Bt n<|((Wd.ex e.1 k,e.2)::(if lK e.1 k=true then[(e.1,times Su.AF e.2)]else[]))++Su.Ut k m) (Y k<|add (s_ (turn e.2)<|bT n e.1)<|Bt n m);rw[Bf,aaR,Za];intro o p t;show Bt n ((Wd.ex e.1 k,e.2)::_) o t+Bt n (Su.Ut k m) o t=s_ (turn e.2) (Y k<|bT n e.1) o t+Y k (Bt n m) o t;rw[q o p t];congr 1
  cases hf:lK e.1 k with
  | false=>
   show s_ (turn e.2) (bT n<|Wd.ex e.1 k) o t+0=_;rw[b6];exact Fb _ (Wq c h0 h1 hf) o p t
  | true=>
   show s_ (turn e.2) (bT n<|Wd.ex e.1 k) o t+(cv (turn<|times Su.AF e.2) (bT n e.1 o) t+0)=_;have d:=Wg c h0 h1 hf;have f:mh n (Y k<|bT n e.1) λo t=>bT n (Wd.ex e.1 k) o t+- dl (bT n e.1 o) t:=λo p t=>by
    show X k (bT n e.1) o t-dl (bT n e.1 o) t=_;rw[O4 d h0 h1 o p t,X_Y h0 h1 _ o p t];dsimp only;lia
   have ta:∀(g:Int->Int) (t:Int),cv (turn Su.AF) g t=- dl g t:=λg t=>by
    show -1 * g (t - -1)+(1 * g (t - - -1)+0)=-(g (t+1)-g (t-1));rw[show t - -1=t+1 by lia,show t - - -1=t-1 by lia];lia
   have e1:cv (turn<|times Su.AF e.2) (bT n e.1 o) t=cv (turn e.2) (λt=>- dl (bT n e.1 o) t) t:=by
    rw[vP,ab3];congr 1
    funext s
    exact ta _ s
   rw[b6,e1,Fb _ f o p t];show _=cv (turn e.2) (λt=>bT n (Wd.ex e.1 k) o t+- dl (bT n e.1 o) t) t;rw[yC];rfl
def X_(k:Nat)(m:Ps)(w:ag)(s:Int):cS (bx k m) w s=cS (Su.Ut k m) w s:=by
 unfold Su.bx;rw[Su.AU<|Su.Gd.nil.adds _,Su.Ja];show 0+_=_;rw[bV]
def Z9{n k:Nat}(h0:1<=k)(h1:k<n){m:Ps}(J:∀x∈m,x.1.Perm<|rg n):mh n (Bt n<|bx k m) (Y k<|Bt n m):=by
 rw[IB n<|X_ k m];exact NB h0 h1 J
def XA(n:Nat):mh n (Bt n<|one n) (cS<|one n):=λo p t=>by
 show cv (turn [((0:Int),(1:Int))]) (bT n (rg n) o) t+0=_;rw[b6,show turn [((0:Int),(1:Int))]=[((0:Int),(1:Int))]from rfl,Sj];exact zL (w:=[]) (n_ n) trivial rfl o p t
end He
namespace He
open PySem L2 Am Po
open Fw (Two rg EK Dn)
open Su (lK Ps cS Gd vS toS adds bx)
def DQ{n:Nat}{o:ag}(J:o.Perm<|rg n):Iv.inv (bk o)=Iv.inv o:=by
 obtain⟨a,b⟩:=Ag J;have va:=NG J;have d:Va n (sw n o).reverse:=λk f=>va k<|fP.mp f;have c:=Wd.mX (sw n o).reverse d;rw[fF,b]at c;have e:=nZ ⟨J,Fe (n_ n) d,c⟩<|oZ J;have l:=tV<|zS a;rw[e,Fw.BE,iO,IZ J]at l
 lia
abbrev fwd (o:ag):am:=(Fw.QM _ (bk o)<|aR _).choose
abbrev vwF:Nat->ag->am
 | 0,_=>[]
 | m+1,o=>match (fwd o).getLast? with
  | none=>[]
  | some k=>vwF m (Wd.ex o k)++[k]
abbrev vw (o:ag):am:=vwF (Iv.inv o) o
theorem Sz.CK{n P c:Nat}{l:Ps}(h:Sz n P C l){p:Pl}(b:PB Q c p):Sz n (P+Q) (p.length * (c * C)) (CK p l):=by
 obtain⟨d,e⟩:=Eh (p:=p) h.pm;exact⟨d,e,by rw[EM];exact h.fb.s_ b⟩
end He
namespace K40
open PySem L2 Am
abbrev Nj (S:jD)(b:Nat):Prop:=∃g st:Int,jE S b=some [.int g,.int st]/\0<=g/\0<=st/\st<4294967296
def Nj.kp{b:Nat}{c:Nat->Prop}(h:Nj S b)(k:Kp c S S')(J:¬c b):Nj S' b:=by
 obtain⟨g,st,e,q⟩:=h;exact⟨g,st,k.lst b _ J e,q⟩
def VH{J:ag}{k:Int}(h0:0<=k):∃c,nP [.frz<|J.map .int,.int k] S=.ok (.int c) S:=by
 unfold nP wD wO;dsimp[ki,bools,mK,Nat.reduceAdd,Nat.reduceSub,aH];by_cases d:k<(J.length:Int)
 ·have hn:k.toNat<J.length:=()
  have e:t6 (J.map A.int) k=some (.int J[k.toNat]):=J0 (k:=k.toNat) ()<|aF hn;rw[bg d];dsimp[ki,bools,e];exact⟨_,rfl⟩
 ·rw[bA d];dsimp[ki,bools];exact⟨_,rfl⟩
def Jx{S:jD}{c k:Int}(h0:0<=k)(h1:k<=100):∃S',pF [.int c,.int k] S=.ok (.ref S.length) S'/\Nj S' S.length/\l7 S S':=by
 have e3:Zq (.int 10) (.int 18)=λS=>R.ok (.int 1000000000000000000) S:=by
  funext S;exact pN ⟨by decide,by decide,by decide⟩
 have f:∀x:Int,DG (.int x) (.int 2147483647)=λS=>R.ok (.int<|x % 2147483647) S:=λx=>by funext S;exact Hu ⋯
 have e:∀x:Int,BP (.int x) (.int 69621)=λS=>R.ok (.int<|x * 69621) S:=λx=>by funext S;exact mul_r ⋯ ⋯
 have d:∀x:Int,BP (.int 7919) (.int x)=λS=>R.ok (.int<|7919 * x) S:=λx=>by funext S;exact OM ⋯ ⋯
 have m:∀x:Int,0<=x % 2147483647:=λx=>iM _ ⋯;have j:∀x:Int,x % 2147483647<4294967296:=λx=>by have:=gQ x (show(0:Int)<2147483647 by decide);lia
 have p:0<=(if c<0 then -c else c):=by split<;>lia
 unfold pF yH yh;dsimp[ki,bools,mK,Nat.reduceAdd,Nat.reduceSub,e3,f,e,d];by_cases g:(if c<0 then -c else c)<1000000000000000000
 ·rw[bg g];dsimp[ki,bools,e3,f,e,d];exact⟨_,rfl,⟨_,_,jW,le_refl 0,m _,j _⟩,Kp.refl.lay⟩
 ·rw[bA g];dsimp[ki,bools,e3,f,e,d];exact⟨_,rfl,⟨_,_,jW,p,m _,j _⟩,Kp.refl.lay⟩
def QC{S:jD}{b:Nat}{g st:Int}(J:jE S b=some [.int g,.int st])(hs:0<=st)(U:st<4294967296):∃d st',n9 [.ref b] S=.ok (.int d) (S.set b<|.lst [.int g,.int st'])/\0<=st'/\st'<4294967296:=by
 have c:=qB J;have e:Fo 2 1=some 1:=Ew rfl ⋯;have e1:0<=(st * 48271+11) % 2147483647:=iM _ ⋯;have e2:(st * 48271+11) % 2147483647<2147483647:=gQ _ ⋯;refine⟨(st * 48271+11) % 2147483647 * 16807 % 2147483629 / 8,(st * 48271+11) % 2147483647,?_,e1,()⟩;unfold n9 uX uv;rw[xE];simp[J,Dg,Aw,e,OM (show -18446744073709551616<st by lia) (),Hu<|show(0:Int)<2147483647 by decide,sN c,SA (show(0:Int)<8 by decide) ⋯,OM (show -18446744073709551616<(st * 48271+11) % 2147483647 by lia) (),Hu<|show(0:Int)<2147483629 by decide]
def digit{b:Nat}{m:Int}(h:Nj S b)(h1:1<=m)(h2:m<=1000):∃d S',ly [.ref b,.int m] S=.ok (.int d) S'/\0<=d/\d<m/\Nj S' b/\Kp (·=b) S S':=by
 obtain⟨g,st,k,hg,hs,f⟩:=h;have q:=qB k;have G:Fo 2 0=some 0:=Ew rfl ⋯;have fin:∀d p c:Int,0<=d->d<m->0<=p->0<=c->c<4294967296->ly [.ref b,.int m] S=.ok (.int d) (S.set b<|.lst [.int p,.int c])->∃d S',ly [.ref b,.int m] S=.ok (.int d) S'/\0<=d/\d<m/\Nj S' b/\Kp (·=b) S S':=
  λd p c J D F B C e=>⟨d,_,e,J,D,⟨p,c,sN q,F,B,C⟩,Kp.refl.set<|.inl rfl⟩
 by_cases j:0<g
 ·refine fin (g % m) (g / m) st (iM _ ()) (gQ _ ()) (Int.ediv_nonneg hg ()) hs f ?_;unfold ly qY qV;rw[xE];simp[k,Dg,Aw,j,Hu<|show 0<m by lia,SA (show 0<m by lia)<|show m<1073741824 by lia,G]
 ·obtain⟨d,c,e1,t,K⟩:=QC k hs f;refine fin (d % m) g c (iM _ ()) (gQ _ ()) hg t K ?_;unfold ly qY qV;rw[xE];simp[k,Dg,Aw,j,Hu<|show 0<m by lia,e1,show ¬(1000<m)by lia]
theorem BF:∀(l:ag) (j:Nat) (h:j<l.length),(l[j]::l.eraseIdx j).Perm l
 | x::l,0,_=>eX _
 | x::l,j+1,h=>(List.Perm.swap x _ _).trans<|List.Perm.cons x<|BF l j<|Nat.lt_of_succ_lt_succ h
def MG{J fs:ag}{j:Nat}(h:j<J.length):((fs++[J[j]])++J.eraseIdx j).Perm (fs++J):=by
 rw[cA];refine List.Perm.append_left fs ?_
 skip
 exact BF J j h
def Qz{d:Int}{n:Nat}(h0:0<=d)(h:d.toNat<n):seqIndex? d n=some d.toNat:=by
 unfold seqIndex?;simp
 lia
theorem CT{α β:Type}(f:α->β):∀(l:List α) (k:Nat),(l.map f).eraseIdx k=(l.eraseIdx k).map f
 | [],_=>rfl
 | _::_,0=>rfl
 | x::l,k+1=>dB (f x::·)<|CT f l k
def GX{b:Nat}{n:Int}(h:Nj S b)(h1:1<=n)(h2:n<=20):∃(xs:ag) (S':jD),n5 [.ref b,.int n] S=.ok (.tup<|xs.map .int) S'/\xs.Perm (lJ 1<|n+1)/\Nj S' b/\Kp (·=b) S S':=by
 have N:b<S.length:=by obtain⟨_,_,e,_⟩:=h;exact qB e
 unfold n5 ug uf;dsimp[ki,bools,mK,Nat.reduceAdd,Nat.reduceSub,Mw<|Qp (show(-1000000:Int)<=1 by decide) ⋯ (show -1000000<=n+1 by lia) () (),br];refine Uz (lo:=0) (hi:=n) (S1:=S++[.lst<|(lJ 1<|n+1).map .int]++[.lst []]) (SD (by dsimp[ki,bools])<|A5 () ())
  (λi τ S1=>∃(L:A) (f fs:ag),τ=[.ref b,.int n,.ref S.length,.ref<|S.length+1,L]/\jE S1 S.length=some (f.map .int)/\jE S1 (S.length+1)=some (fs.map .int)/\(f.length:Int)+i=n/\(fs++f).Perm (lJ 1<|n+1)/\Nj S1 b/\Kp (·=b) S S1)
  (λr=>∃(xs:ag) (S':jD),RS.end (RS.seq r _)=.ok (.tup<|xs.map .int) S'/\xs.Perm (lJ 1<|n+1)/\Nj S' b/\Kp (·=b) S S') ?_ ?_ ?_
 ·refine⟨.unb,lJ 1<|n+1,[],rfl,lH jW,?_,by rw[uz];lia,eX _,h.kp (c:=λ_=>False) (Kp.refl.lay.lay) λz=>z,Kp.refl.lay.lay⟩;have:jE (S++[.lst<|(lJ 1<|n+1).map .int]++[.lst []]) (S++[O.lst<|(lJ 1<|n+1).map .int]).length=some []:=jW;simpa using this
 ·rintro i τ S1 hi ⟨L,f,fs,rfl,F,B,hn,t,D,G⟩;left;obtain⟨d,S2,e2,d0,V,J,j⟩:=digit (m:=(f.length:Int)) D () ();have k:=j.lst S.length _ () F;have p:=j.lst (S.length+1) _ () B;have C:d.toNat<f.length:=()
  have T:=qB p;have U:=qB k;have P:fs.length<=20:=by
   have:=t.length_eq;rw[br,uz]at this
   lia
  have K:seqIndex? d f.length=some d.toNat:=Qz d0 C;have M:jE (S2.set S.length<|.lst<|(f.map A.int).eraseIdx d.toNat) (S.length+1)=some (fs.map .int):=by rw[pD ()];exact p
  unfold vM;dsimp[ki,bools,F,B,aH,e2,k,IY,pN<|show -(2 ^ 63:Int)<=d/\d<2 ^ 63 by lia,K,aO,aF C,dH,M,tX<|show fs.length<16777216 by lia];refine⟨_,_,rfl,_,f.eraseIdx d.toNat,fs++[f[d.toNat]],rfl,?_,?_,?_,(MG C).trans t,?_,?_⟩
  ·rw[pD (),sN U,CT]
  ·rw[sN<|by rw[cu];exact T,bN];rfl
  ·rw[List.length_eraseIdx_of_lt C];lia
  ·obtain⟨g,st,e,q⟩:=J;exact⟨g,st,by rw[pD (),pD ()];exact e,q⟩
  ·exact((G.trans j).set<|.inr<|aR _).set (.inr ())
 ·rintro τ S1 ⟨L,f,fs,rfl,F,B,hn,t,D,G⟩;have:f=[]:=fO.mp ();subst this;exact⟨fs,S1,by dsimp[ki,bools,B],by simpa using t,D,G⟩
open Po (Pl Ok Bd)
def Pq{S:jD}{d:Nat}{D:Pl}(J:kj S d=some (Po.iv D))(U:D.length<=16777216):∃S',kU [.ref d] S=.ok (.ref<|S.length+1) S'/\jE S' (S.length+1)=some (Po.pl<|Po.yW D)/\l7 S S':=by
 obtain⟨S',e,h1,h2⟩:=Zm J U;refine⟨S',?_,h1,h2⟩;unfold kU pY pV;dsimp[ki,bools,mK,Nat.reduceAdd,Nat.reduceSub];rw[show kF [none,some 0] _ _ _ _ _ _=_ from e];rfl
def Tq{S:jD}{n:Nat}{a b:Pl}(hn:jE S n=some (Po.pl a))(J:jE S m=some (Po.pl b))(U:Ok a)(hl:a.length+b.length<16777216) :
  ∃(L:Nat) (S':jD),Bo [.ref n,.ref m] S=.ok (.ref L) S'/\jE S' L=some (Po.pl<|Po.pM a b)/\S.length<=L/\l7 S S':=by
 have f:kj (S++[.nG<|Po.iv a]) S.length=some (Po.iv a):=uG;obtain⟨g,p,T,e,d,kp⟩:=Vd (S:=S++[.nG<|Po.iv a]) (S1:=S++[.nG<|Po.iv a]) (x0:=.ref n) (x1:=.ref m) (x3:=.unb) (x4:=.unb) (src:=wY) (l:=b) (show wY _ _=_ from m8 (by dsimp[ki,bools])<|lH J) (lH J) f hl;have j:=Po.oF b a;obtain⟨S',e2,h1,h2⟩:=Pq d ();have c:l7 S T:=(Kp.refl.lay (o:=.nG<|Po.iv a)).old kp λq k _ z=>()
 refine⟨T.length+1,S',?_,by rw[h1,<- Po.UE U];rfl,by have:=c.len;lia,c.trans h2⟩;unfold Bo I_ Ij;dsimp[ki,bools,mK,Nat.reduceAdd,Nat.reduceSub,C7,hn,Po.QE,Po.Jo,Po.Ln U];rw[show lO wY _ Gp _ _=_ from e];dsimp[ki,bools,e2]
def CF(f:Int×Int->A)(hf:∀p τ S,Nx (f p) τ S=Nx (Po.pA p) τ S){S:jD}{n:Nat}{a b:Pl}(hn:jE S n=some (a.map f))(J:jE S m=some (Po.pl b))(U:a.length * b.length<16777216)(ha:∀p∈a,p.2.natAbs<big)(hb:∀p∈b,p.2.natAbs<big) :
  ∃(L:Nat) (S':jD),sJ [.ref n,.ref m] S=.ok (.ref L) S'/\jE S' L=some (Po.pl<|Po.times a b)/\S.length<=L/\l7 S S':=by
 have j:kj (S++[.nG []]) S.length=some []:=uG;obtain⟨t,C,D,B,T,e,g,kp⟩:=HM f hf (S:=S++[.nG []]) (x3:=.unb) (x4:=.unb) (x5:=.unb) (x6:=.unb) (lH hn) (lH J) j U ha hb;have d:=Po.oF (Po.HA a b) [];rw[Po.Dt,cZ,cN]at d;obtain⟨S',e2,h1,h2⟩:=Pq g ();have c:l7 S T:=(Kp.refl.lay (o:=.nG [])).old kp λq k _ z=>()
 refine⟨T.length+1,S',?_,h1,by have:=c.len;lia,c.trans h2⟩;unfold sJ DC Ff;dsimp[ki,bools,mK,Nat.reduceAdd,Nat.reduceSub,sC];rw[show lO C4 _ Cc _ _=_ from e];dsimp[ki,bools,e2]
end K40
namespace K40
open PySem L2 Am
open Po (Pl Ok Bd)
open Su (Es At Vl)
def Xy{S:jD}{d r:Nat}{D:Es}{o:ag}{p:Pl}{k b:Nat}(J:jX S d=some (D.map Su.kv))(U:At S D)(hv:Vl k b D)(hr:jE S r=some (Po.pl p))(hl:D.length<16777216)(hk:k+p.length<16777216) :
  ∃(L:Nat) (S':jD),kG [.ref d,.tup<|o.map .int,.ref r] S=.ok .non S'/\jX S' d=some ((Su.l_ D o L<|Po.pM (Su.vS (Su.sm D) o) p).map Su.kv)/\At S' (Su.l_ D o L<|Po.pM (Su.vS (Su.sm D) o) p)/\S.length<=L/\Kp (·=d) S S':=by
 obtain⟨x,ex,t⟩:=Su.get_or (o:=o) J U;have vo:=hv.v o;obtain⟨L,S2,e2,h1,h2,q⟩:=Tq t (lH (o:=.lst []) hr) vo.1 ();have g:l7 S S2:=(Kp.refl.lay).trans q;have c:=g.dct _ _ (λz=>z) J;have f:jX (S++[.lst []]) d=some (D.map Su.kv):=Su.JW J;refine⟨L,S2.set d<|.dct<|(Su.l_ D o L<|Po.pM (Su.vS (Su.sm D) o) p).map Su.kv,?_,Su.vt<|Su.mH c,?_,by simp at h2;lia,g.of0.yZ<|.inl rfl⟩
 ·unfold kG sQ sG;have j:newL [] S=.ok (.ref S.length) (S++[.lst []]):=kZ (show 0<=16777216 by decide);dsimp[ki,bools,mK,Nat.reduceAdd,Nat.reduceSub,Su.TH,Su.T7,J,dH,j,Su.VB,f,ex,e2,Su.tH,Su.r8,c,tX<|show(D.map Su.kv).length<16777216 by rw[aH];exact hl,Su.BK (p:=Po.pM (Su.vS (Su.sm D) o) p)]
 ·refine(Su.At.put (U.uy g) h1).kp (Kp.refl.yZ<|.inl rfl) λe m z=>?_
  rcases Su.nM m with y|y
  ·exact Su.tQ J (U e y) z
  ·rw[y]at z;exact Su.tQ c h1 z
def Il{S:jD}{d:Nat}{D:Es}(U:jX S d=some (D.map Su.kv))(hA:At S D)(J:∀e∈D,e.1≠[])(hl:D.length<=16777216) :
  ∃(n:Nat) (S':jD),oJ [.ref d] S=.ok (.ref n) S'/\jE S' n=some ((Su.v_ D λp=>!p.isEmpty).map Su.ent)/\At S' (Su.v_ D λp=>!p.isEmpty)/\S.length<n/\l7 S S':=by
 have j:=Su.QN U J;obtain⟨n,S',e,h1,h2,h3,m⟩:=Su.Rq (cap:=[some 0]) (τ:=[.ref d]) (src:=lV<|jZ (f1 EH)<|jA (jB 0)<|jL) (t:=tY<|jO yY (jB 1)<|jB 0) (e:=qP<|jA (jB 0)<|jA (jO yY (jB 1)<|jB 0)<|jL) U hA (m8 (by dsimp[ki,bools,j]) jW) (λp=>!p.isEmpty)
  (λo r q T c f g=>⟨T,by
   have k:A.Zo (.ref r) T=some (!q.isEmpty):=by
    show(jE T r).map _=_;rw[g]
    cases q<;>rfl
   dsimp[ki,bools,Su.B9,Su.xK,c,f,k],Kp.refl⟩)
  (λo r T c f=>by
   dsimp[ki,bools,Su.B9,Su.xK,c,f];exact p8<|show 2<=16777216 by decide) hl
 refine⟨n,S',?_,h1,h2,h3,m⟩;unfold oJ Ao Bw;dsimp[ki,bools,mK,Nat.reduceAdd,Nat.reduceSub,e]
def xO:Su.DT kG:=λh1 h2 h3 e c d=>Xy h1 h2 h3 e c d
open Po (Pl Ok Bd)
open Su (Es At Vl)
structure Sm (S:jD)(n:Nat)(es:Es):Prop where
 l:jE S n=some (es.map Su.ent)
 a:At S es
def Sm.kp{n:Nat}(h:Sm S n es)(k:l7 S S'):Sm S' n es:=⟨k.lst _ _ (λz=>z) h.l,h.a.uy k⟩
def D_{a b:ag}(h:a.length=b.length):pR [.tup<|a.map .int,.tup<|b.map .int] S=.ok .non S:=by
 unfold pR ur uh;have:((a.length:Int) == (b.length:Int))=true:=by rw[h];exact bW _
 dsimp[ki,qe,bools,mK,Nat.reduceAdd,Nat.reduceSub,aH,this,cI]
def GC{n:Nat}{xs:ae}(h:jE S n=some xs):A.Zo (.ref n) S=some (!xs.isEmpty):=by
 show(jE S n).map _=_;rw[h];rfl
def Eg{n N:Nat}{es fs:Es}(h:Sm S n es)(h':Sm S m fs)(h1:∀e∈es,e.1.length=N)(h2:∀e∈fs,e.1.length=N):pP [.ref n,.ref m] S=.ok .non S:=by
 unfold pP uL uR;dsimp[ki,qe,bools,mK,Nat.reduceAdd,Nat.reduceSub,GC h.l,GC h'.l]
 cases es with
 | nil=>dsimp[ki,qe,bools,fR,iF,cI]
 | cons e es=>cases fs with
  | nil=>dsimp[ki,qe,bools,fR,iF,cI,bE,i9,c5,GC h'.l]
  | cons f fs=>
   have q:=D_ (S:=S)<|(h1 e<|aL ..).trans (h2 f<|aL ..).symm;have d:=h.l;have c:=h'.l;rw[bE]at d c;dsimp[ki,qe,bools,bE,i9,c5,GC c,d,c,Dg,Su.ent,q]
def ixD{l:ag}{k:Nat}{i:Int}(h:i=k)(J:k<l.length):t6 (l.map A.int) i=some (.int<|l.getD k 0):=J0 h<|by rw[aJ,aF J];rfl
def UT{l:ag}{k:Nat}:((l.map A.int).set (k-1)<|.int<|l.getD k 0).set k (.int<|l.getD (k-1) 0)=(Wd.ex l k).map A.int:=by
 unfold Wd.ex;rw[jo,jo]
def acR{f g:A->A->jD->R A}{ca cb J:Ex}{a b c:A}(h1:ca τ S=.ok a S)(h2:cb τ S=.ok b S)(h3:f a b S=.ok (.bl true) S)(U:J τ S=.ok c S):Z2 f g ca cb J τ S=g b c S:=by
 unfold Z2;rw[h1,R.mF,h2,R.mF,h3,R.mF];unfold kCh;show(J τ S).bind _=_;rw[U];rfl
def Xz{i:Int}:qJ [.int i] S=.ok (.bl true) S:=by
 unfold qJ v5 wK;dsimp[ki,bools,mK,Nat.reduceAdd,Nat.reduceSub,show B0 .int "int" = some true from rfl,show B0 .int "bool" = some false from rfl,c5]
def acZ{n k:Int}(h1:1<=k)(h2:k<n):nH [.int n,.int k] S=.ok (.bl true) S:=by
 unfold nH rC rD;have c:Z2 aLe Z0 (eC<|.int 1) (jB 1) (jB 0) [.int n,.int k] S=.ok (.bl true) S:=by
  rw[acR (a:=.int 1) (b:=.int k) (c:=.int n) rfl rfl (by dsimp[ki,bg h1]) rfl];dsimp[ki,bg h2]
 dsimp[ki,bools,mK,Nat.reduceAdd,Nat.reduceSub,Xz,c]
def JL{xs:ag}{k:Nat}(h1:1<=k)(h2:k<xs.length)(J:xs.length<=1000):∃S',mZ [.tup<|xs.map .int,.int k] S=.ok (.tup<|(Wd.ex xs k).map .int) S'/\l7 S S':=by
 have e1:=acZ (S:=S) (n:=(xs.length:Int)) (k:=(k:Int)) () ();have c:t6 (xs.map A.int) (k:Int)=some (.int<|xs.getD k 0):=ixD rfl ();have d:t6 (xs.map A.int) ((k:Int)-1)=some (.int<|xs.getD (k-1) 0):=ixD (k:=k-1) () ();have j:Fo xs.length ((k:Int)-1)=some (k-1):=Ew () ();have f:Fo xs.length (k:Int)=some k:=Ew rfl ();have e:jE (S++[O.lst<|xs.map .int]) S.length=some (xs.map .int):=jW;have g:∀ys,jE ((S++[O.lst<|xs.map .int]).set S.length<|.lst ys) S.length=some ys:=λys=>sN (by simp);have e2:lG [.tup<|xs.map .int,.int k,.int<|(k:Int)+1] S=.ok (.tup<|(Wd.ex xs k).map .int) (((S++[O.lst<|xs.map .int]).set S.length<|.lst<|(xs.map A.int).set (k-1)<|.int<|xs.getD k 0).set S.length<|.lst<|(Wd.ex xs k).map .int):=by
  unfold lG nQ nY;dsimp[ki,bools,mK,Nat.reduceAdd,Nat.reduceSub,e,show(k:Int)+1-1=k by lia,c,d,pN<|show 2<=sizeLine by decide,pN<|show 2=2 from rfl,aH,j,g,cu,f,UT];rw[sN<|by simp];dsimp[ki,bools]
 unfold mZ t7 uC;dsimp[ki,qe,bools,mK,Nat.reduceAdd,Nat.reduceSub,aH,e1,cI,e2];exact⟨_,rfl,((Kp.refl.lay).set<|.inr<|aR _).set<|.inr<|aR _⟩
def ixG{xs:ag}{i:Int}(h1:0<=i)(h2:i<xs.length):t6 (xs.map A.int) i=some (.int<|xs.getD i.toNat 0):=ixD (k:=i.toNat) () ()
abbrev fl (xs:ag)(n:Nat):ag:=(lJ 1 (n:Int)).filter λk=>decide<|xs.getD (k-1).toNat 0>xs.getD k.toNat 0
def Bs{S:jD}{n:Nat}{xs:ag}(J:xs.length=n)(h2:n<=20):pH [.tup<|xs.map .int] S=.ok (.ref S.length) (S++[.lst<|(fl xs n).map .int]):=by
 have f:=Hx (lo:=1) (hi:=(n:Int)) (cap:=[some 0]) (src:=vI (eC<|.int 1)<|jZ (f1 tu)<|jA (jB 0)<|jL) (t:=wV<|jO Sw (jO u5 (jB 1)<|jO aSub (jB 0)<|eC<|.int 1)<|jO u5 (jB 1)<|jB 0) (e:=jB 0) (τ:=[.tup<|xs.map .int]) (S:=S) (S1:=S)
  (F5 (S1:=S) (by dsimp[ki,bools]) (by dsimp[ki,bools,aH,J]) (A5 () ())<|A5 () ())
  (λk=>decide<|xs.getD (k-1).toNat 0>xs.getD k.toNat 0) (λk=>.int k) (λk h1 h2=>by
   have d:t6 (xs.map A.int) (k-1)=some (.int<|xs.getD (k-1).toNat 0):=ixG () ();have c:t6 (xs.map A.int) k=some (.int<|xs.getD k.toNat 0):=ixG () ();dsimp[ki,bools,d,c]) (λk _ _ _=>by dsimp[ki,bools]) ()
 unfold pH DO D8;dsimp[ki,bools,mK,Nat.reduceAdd,Nat.reduceSub,f];rfl
theorem EC{t:Int}:∀(p:ag),inA S (.int t) (p.map .int)=some (decide<|t∈p)
 | []=>rfl
 | x::p=>by
  show(qS S 12 (.int x)<|.int t).bind (λa=>(inA S (.int t)<|p.map .int).map λb=>a || b)=_;rw[EC p];show some ((x == t) || decide (t∈p))=_;by_cases c:x=t
  ·subst c;rw[bW,bg (show x∈x::p from aL ..)];rfl
  ·rw[c8.mpr c];congr 1;rw[gB,gu];constructor
   ·exact λz=>aN _ z
   ·intro z
    rcases bD.mp z with z|z
    ·exact absurd z.symm c
    ·exact z
open Po (Pl Ok Bd)
open Su (Es At Vl AF)
def JQ{o:ag}{N k:Nat}(J:o.length=N)(h1:1<=k)(h2:k<N):decide ((k:Int)∈fl o N)=Su.lK o k:=by
 unfold fl Su.lK;rw[gu,bK,pO,decide_eq_true_eq,show((k:Int)-1).toNat=k-1 by lia,ir];constructor
 ·exact λh=>h.2
 ·exact λh=>⟨⟨(),()⟩,h⟩
def TY{S:jD}{n N k:Nat}{es:Es}(h:Sm S n es)(h1:∀e∈es,e.1.length=N/\2 * e.2.2.length<=j/\∀p∈e.2.2,p.2.natAbs<big)(k1:1<=k)(k2:k<N)(hN:N<=20)(hl:(2 * es.length+2) * j<16777216)(hl':es.length<=100000) :
  ∃(L:Nat) (S':jD) (rs:Es),mP [.ref n,.int k] S=.ok (.ref L) S'/\Sm S' L rs/\Su.sm rs=Su.bx k (Su.sm es)/\(∀e∈rs,Ok e.2.2/\e.2.2≠[]/\e.2.2.length<=2 * es.length * j/\S.length<=e.2.1/\e.2.1<L)/\Su.Ap rs/\rs.length<=2 * es.length/\S.length<=L/\l7 S S':=by
 have k0:l7 S (S++[.dct []]):=Kp.refl.lay;obtain⟨y3,y4,xs,D,T,hz,e1,f,kp⟩:=Su.Fx (w:=2) (j:=j) (b:=S.length) (i0:=0) (S:=S++[.dct []]) (S1:=S++[.dct []]) (d:=S.length) (n:=n) (es:=es) (src:=nN) (c:=mL) (g:=y_ 2<|qw (kh 3)<|qw (kh 4)<|za) (λy z _=>[.ref n,.int k,.ref S.length,y,z]) (λ_=>True) (Su.gX k) (λ_ _ _ _ _=>rfl) (x3:=.unb) (x4:=.unb) (xs0:=[]) trivial
  (show nN _ _=_ from m8 (by dsimp[ki,bools])<|lH h.l) (lH h.l) (Su.Fil.new Su.pL) λi e T Q D xs hi F _ J f=>by
   obtain⟨M,b2,b3⟩:=h1 e F;have Z:=J.len;have hm:2 * i+2<=2 * es.length:=()
   have hm2:(2 * i+2) * j<=(2 * es.length) * j:=dh _ hm;have hm3:(2 * es.length+2) * j=2 * es.length * j+2 * j:=by rw[Nat.add_mul]
   have hm4:(2 * i+2) * j=(2 * i+1) * j+j:=fS _ _;have hm5:(2 * i+1) * j=2 * i * j+j:=fS _ _;rw[br]at Z;obtain⟨T0,e0,K⟩:=JL (S:=T) (xs:=e.1) (k:=k) k1 () ();have aT:=((h.a.uy k0).Nb J Su.pL).uy K;have f0:=f.uy K;have qtl:=K.len;rw[cN]at f0;have V:Wd.ex e.1 k≠[]:=λz=>by have:=Wd.ny e.1 k;rw[z]at this;simp at this;lia
   obtain⟨D1,T1,e1,f1,t⟩:=f0.add xO (o:=Wd.ex e.1 k) (aT e F) () V () () ();have k1l:=t.len;have Y:=Bs (S:=T1) (xs:=e.1) (n:=N) M hN;have m:aIn false (.int k) (.ref T1.length) (T1++[.lst<|(fl e.1 N).map .int])=.ok (.bl<|Su.lK e.1 k) (T1++[.lst<|(fl e.1 N).map .int]):=by
    show opt (jE _ _) _=_;rw[jW,jT,EC,JQ M k1 k2];rfl
   have C:l7 T1 (T1++[.lst<|(fl e.1 N).map .int]):=Kp.refl.lay;obtain⟨U,hU⟩:∃U,U=T1++[O.lst<|(fl e.1 N).map .int]:=⟨_,rfl⟩;rw[<- hU]at m C Y;have fU:=f1.uy C;have G:Kp (·=S.length) T U:=(K.of0.trans t).trans C.of0
   cases hf:Su.lK e.1 k with
   | false=>
    refine⟨D1,U,[],trivial,?_,?_,G⟩
    ·rw[hf]at m;unfold mL;dsimp[ki,qe,bools,e0,e1,Y,m]
    ·rw[cN];unfold Su.gX;rw[hf,aI<|by simp];exact fU.mono ()
   | true=>
    have aU:=(aT.Nb t f0.dd).uy C;have n0:jE (U++[.lst<|AF.map kA]) U.length=some (AF.map kA):=jW;obtain⟨L,T2,e2,l1,l2,P⟩:=CF kA (λ_ _ _=>rfl) n0 (lH (o:=.lst<|AF.map kA)<|aU e F) (show 2 * e.2.2.length<16777216 by lia) (λp hp=>by
     rw[zP]
     rcases bD.mp hp with z|z
     ·rw[z];exact show 1<2 ^ 4096 by decide +kernel
     ·rw[aQ.mp z];exact show 1<2 ^ 4096 by decide +kernel) b3
    have B:l7 U T2:=(Kp.refl.lay).trans P;have tl2:=B.len;have tle:=C.len;obtain⟨D2,T3,e3,f3,W⟩:=(fU.uy B).add xO (o:=e.1) l1 (bG (Su.CN _ _)<|show 2 * e.2.2.length<=j from b2) (λz=>by rw[z]at M;simp at M;lia) () () ();refine⟨D2,T3,[],trivial,?_,?_,(G.trans B.of0).trans W⟩
    ·rw[hf]at m;unfold mL;dsimp[ki,qe,bools,e0,e1,Y,m];rw[show[((-1:Int),(1:Int)),((1:Int),(-1:Int))].map kA=AF.map kA from rfl];dsimp[ki,qe,bools,e2,e3]
    ·rw[cN];unfold Su.gX;rw[hf,aK rfl];exact f3
 have J:l7 S T:=k0.old kp λq hq _ z=>()
 have fl:=f.ll;rw[cN]at fl;obtain⟨L,S',e2,r1,r2,r3,r4⟩:=Il f.dd f.aa f.kk ();have Z:=J.len;have fs:=f.ss;rw[Su.LH]at fs;refine⟨L,S',_,?_,⟨r1,r2⟩,by rw[Su.Fd,fs];rfl,λe F=>?_,f.pw.out _,?_,(),J.trans r4⟩
 ·unfold mP rP rH;dsimp[ki,qe,bools,mK,Nat.reduceAdd,Nat.reduceSub,Su.oM];rw[show lO nN _ mL _ _=_ from e1];dsimp[ki,qe,bools,e2]
 ·obtain⟨m1,m2⟩:=Su.Ef F;obtain⟨v1,v2,v3⟩:=f.vv e m1;have lt:=qB<|f.aa e m1;rw[cN]at v2;exact⟨v1,λz=>(by rw[z]at m2;cases m2),v2,v3,()⟩
 ·unfold Su.v_;rw[aH];refine bG (cG _ _) ?_;rw[(j4 _).length_eq,aH];exact fl
end K40
namespace K40
open PySem L2 Am
open Po (Pl Ok Bd)
open Su (Es At Vl AF)
open He (Sz)
open Fw (rg)
def Sm.Nb{n d:Nat}(h:Sm S n es)(k:Kp (·=d) S S')(J:jX S d=some kvs):Sm S' n es:=⟨k.lst _ _ (λz=>Su.tQ J h.l z.symm) h.l,h.a.Nb k J⟩
def mC{N:Nat}{o:ag}(h:o.Perm<|rg N):o.length=N:=by rw[h.length_eq,Wd.jR]
def pX{es:Es}{l:Su.Ps}(h:Su.sm es=l){e:Su.En}(J:e∈es):(e.1,e.2.2)∈l:=by rw[<- h];exact aV.mpr ⟨e,J,rfl⟩
def WN{es:Es}{l:Su.Ps}(h:Su.sm es=l):es.length=l.length:=by rw[<- h,Su.pW]
abbrev Ds (d r:Nat)(es:Es):Prop:=Su.Ap es/\d<=r/\∀e∈es,d<=e.2.1/\e.2.1<r
structure Kn (N:Nat)(Φ:ag->Su.Ps)(T:jD)(d:Nat)(K:Es):Prop where
 dd:jX T d=some (K.map Su.kv)
 gd:Su.Gd (Su.sm K)
 pm:∀e∈K,e.1.Perm (rg N)
 at_:∀e∈K,∃es:Es,Sm T e.2.1 es/\Su.sm es=Φ e.1/\Ds d e.2.1 es
def Kn.uy{N d:Nat}{J:ag->Su.Ps}{K:Es}(h:Kn N J T d K)(k:l7 T T'):Kn N J T' d K:=⟨k.dct _ _ (λz=>z) h.dd,h.gd,h.pm,λe c=>by obtain⟨es,a,b⟩:=h.at_ e c;exact⟨es,a.kp k,b⟩⟩
def Kn.many{N d:Nat}{J:ag->Su.Ps}{K:Es}(U:N<6)(h:Kn N J T d K):K.length<=120:=by
 have:=He.many U h.gd.nd λo c=>by
  obtain⟨e,g,rfl⟩:=aV.mp c;obtain⟨f,hf,rfl⟩:=aV.mp g;exact h.pm f hf
 rwa [aH,Su.pW]at this
def YG:Ok []:=⟨List.Pairwise.nil,nofun⟩
def Kn.put{N d r:Nat}{J:ag->Su.Ps}{K:Es}{o:ag}(hN:N<6)(h:Kn N J T d K)(po:o.Perm<|rg N)(hr:Sm T r es)(U:Su.sm es=J o)(hD:Ds d r es) :
  ∃T' K',xT (.ref d) (.tup<|o.map .int) (.ref r) T=.ok Unit.unit T'/\Kn N J T' d K'/\yY (.ref d) (.tup<|o.map .int) T'=.ok (.ref r) T'/\Sm T' r es/\Kp (·=d) T T':=by
 have k:Kp (·=d) T (T.set d<|.dct<|(Su.l_ K o r []).map Su.kv):=Kp.refl.yZ<|.inl rfl;have dd:jX (T.set d<|.dct<|(Su.l_ K o r []).map Su.kv) d=some ((Su.l_ K o r []).map Su.kv):=Su.vt<|Su.mH h.dd;obtain⟨e,e1,e2⟩:=Su.MV (D:=K) (o:=o) (r:=r) (p:=[]);have f:=h.many hN;refine⟨_,Su.l_ K o r [],?_,⟨dd,?_,λe U=>?_,λe c=>?_⟩,?_,hr.Nb k h.dd,k⟩
 ·rw[Su.r8,h.dd,jT,Su.BK (p:=[])];exact tX (show(K.map Su.kv).length<16777216 by rw[aH];lia)
 ·rw[Su.E_];exact h.gd.put YG
 ·rcases Su.nM U with z|z
  ·exact h.pm e z
  ·rw[z];exact po
 ·rcases Su.nM c with z|z
  ·obtain⟨fs,a,b⟩:=h.at_ e z;exact⟨fs,a.Nb k h.dd,b⟩
  ·rw[z];exact⟨es,hr.Nb k h.dd,U,hD⟩
 ·rw[Su.xK,dd,jT,Su.oR,e1,dH,jT,e2]
def Xu{d:Nat}{o:ag}:HL true (.tup<|o.map .int) (.ref d) S=opt (jX S d) λkvs=>.ok (.bl<|!(kK kvs o).isSome) S:=by
 show opt (jX S d) (λkvs=>opt (A.ints<|o.map .int) λc=>_)=_;rw[ints_map];rfl
open Po (Pl Ok Bd)
open Su (Es At Vl)
open He (Sz)
structure Nw (b L:Nat)(rs:Es):Prop where
 ap:Su.Ap rs
 nw:∀e∈rs,b<=e.2.1/\e.2.1<L
def YU{S:jD}{n N P c:Nat}{fs:Es}(hN:N<6)(h0:1<=N)(h:Sm S n es)(h':Sm S m fs)(hz:Sz N P C<|Su.sm es)(hz':Sz N P c<|Su.sm fs)(hP:P<=10000) :
  ∃(L:Nat) (S':jD) (rs:Es),tF [.ref n,.ref m] S=.ok (.ref L) S'/\Sm S' L rs/\Su.sm rs=He.wH (Su.sm es) (Su.sm fs)/\Nw S.length L rs/\S.length<=L/\l7 S S':=by
 have Y:=Eg h h' (λe g=>mC<|hz.pm _<|pX rfl g) λe g=>mC<|hz'.pm _<|pX rfl g;have k:=hz.many hN;have B:=hz'.many hN;rw[Su.pW]at k B;have V:(es++fs).length=es.length+fs.length:=br ..;have W:jE (S++[.dct []]) n=some (es.map Su.ent):=lH h.l;have M:jE (S++[.dct []]) m=some (fs.map Su.ent):=lH h'.l;have F:=WQ W M (by rw[aH,aH];lia);rw[<- bN]at F;have t:l7 S (S++[.dct []]++[.lst<|(es++fs).map Su.ent]):=Kp.refl.lay.lay;have G:∀e∈es++fs,e.2.2.length<=2 * P+1/\e.1≠[]:=λe g=>by
  have:e.1.length=N/\e.2.2.length<=2 * P+1:=(bz.mp g).elim (λz=>⟨mC<|hz.pm _<|pX rfl z,(hz.pb<|pX rfl z).2⟩) λz=>⟨mC<|hz'.pm _<|pX rfl z,(hz'.pb<|pX rfl z).2⟩;exact⟨this.2,λz=>by rw[z]at this;have:=this.1;simp at this;lia⟩
 obtain⟨j,p⟩:∃j,j=2 * P+1:=⟨_,rfl⟩;rw[<- p]at G;have K:(0+(es++fs).length) * j+j<16777216:=by
  have:(0+(es++fs).length) * j<=240 * j:=dh _ ()
  lia
 obtain⟨y3,y4,D,T,e1,f,kp⟩:=Su.Tu xO (j:=j) (b:=S.length) (i0:=0) (S:=S++[.dct []]) (S1:=S++[.dct []]++[.lst<|(es++fs).map Su.ent]) (d:=S.length) (x0:=.ref n) (x1:=.ref m) (x3:=.unb) (x4:=.unb) (xs:=[]) (src:=vj) (es:=es++fs)
  (show vj _ _=_ from m8 (by dsimp[ki,bools,F]) jW) jW ((h.a.app h'.a).uy t) (Su.Fil.new<|Su.JW Su.pL) t.len G K ()
 have J:l7 S T:=t.old kp λq Z _ z=>()
 have fl:=f.ll;obtain⟨L,S',e2,r1,r2,r3,O⟩:=Il f.dd f.aa f.kk ();have tl:=J.len;refine⟨L,S',_,?_,⟨r1,r2⟩,by rw[Su.Fd,f.ss,Su.vZ];rfl,⟨f.pw.out _,λe g=>?_⟩,(),J.trans O⟩
 ·unfold tF DE DR;dsimp[ki,qe,bools,mK,Nat.reduceAdd,Nat.reduceSub,Y,Su.oM];rw[show lO vj _ Ct _ _=_ from e1];dsimp[ki,qe,bools,e2]
 ·obtain⟨k,B⟩:=Su.Ef g;obtain⟨v1,v2,U⟩:=f.vv e k;have lt:=qB<|f.aa e k;exact⟨U,()⟩
abbrev Sn (N P C:Nat)(S:jD)(n:Nat)(l:Su.Ps):Prop:=Sz N P C l/\∃es,Sm S n es/\Su.sm es=l
def Sn.kp{N P n:Nat}{l:Su.Ps}(h:Sn N P C S n l)(k:l7 S S'):Sn N P C S' n l:=by
 obtain⟨a,es,b,c⟩:=h;exact⟨a,es,b.kp k,c⟩
def Sn.mono{N P n:Nat}{l:Su.Ps}(h:Sn N P C S n l)(J:P<=P')(hc:C<=C'):Sn N P' C' S n l:=⟨h.1.mono J hc,h.2⟩
abbrev Sa (N P C d:Nat)(S:jD)(n:Nat)(l:Su.Ps):Prop:=Sz N P C l/\∃es,Sm S n es/\Su.sm es=l/\Ds d n es
def Sa.sn{N P d n:Nat}{l:Su.Ps}(h:Sa N P C d S n l):Sn N P C S n l:=by
 obtain⟨a,es,b,c,_⟩:=h;exact⟨a,es,b,c⟩
def Sa.kp{N P d n:Nat}{l:Su.Ps}(h:Sa N P C d S n l)(k:l7 S S'):Sa N P C d S' n l:=by
 obtain⟨a,es,b,c⟩:=h;exact⟨a,es,b.kp k,c⟩
def Sn.abw{N P c d n:Nat}{S:jD}{l k:Su.Ps}(h:Sn N P C S n l)(h':Sn N P c S m k)(J:N<6)(h0:1<=N)(hP:P<=10000)(U:d<=S.length) :
  ∃(L:Nat) (S':jD),tF [.ref n,.ref m] S=.ok (.ref L) S'/\Sa N P (C+c) d S' L (He.wH l k)/\l7 S S':=by
 obtain⟨a,es,b,rfl⟩:=h;obtain⟨f,fs,B,rfl⟩:=h';obtain⟨L,S',j,e1,t,q,nw,D,p⟩:=YU J h0 b B a f hP;exact⟨L,S',e1,⟨a.sum f,j,t,q,nw.ap,(),λe g=>⟨by have:=(nw.nw e g).1;lia,(nw.nw e g).2⟩⟩,p⟩
end K40
namespace K40
open PySem L2 Am
open Po (Pl Ok Bd)
open Su (Es At Vl AF)
open He (Sz PB)
open Fw (rg)
def Us{S:jD}{n N P c:Nat}{q:Pl}(f:Int×Int->A)(hf:∀p τ S,Nx (f p) τ S=Nx (Po.pA p) τ S)(hN:N<6)(h0:1<=N)(h:Sm S n es)(hz:Sz N P C<|Su.sm es)(hq:jE S m=some (q.map f))(pq:PB Q c q)(lq:q.length<=2)(hP:P<=1000)(hC:C<big)(hc:c<big) :
  ∃(L:Nat) (S':jD) (rs:Es),qF [.ref m,.ref n] S=.ok (.ref L) S'/\Sm S' L rs/\Su.sm rs=He.CK q (Su.sm es)/\S.length<=L/\l7 S S':=by
 have K:l7 S (S++[.dct []]):=Kp.refl.lay;have W:=hz.many hN;rw[Su.pW]at W;obtain⟨j,Y⟩:∃j,j=2 * (2 * P+1):=⟨_,rfl⟩;obtain⟨y3,y4,_,D,T,_,e1,k,kp⟩:=Su.Fx (w:=1) (j:=j) (b:=S.length) (i0:=0) (S:=S++[.dct []]) (S1:=S++[.dct []]) (d:=S.length) (n:=n) (es:=es) (src:=tN) (c:=sM) (g:=y_ 2<|qw (kh 3)<|qw (kh 4) za) (λy z _=>[.ref m,.ref n,.ref S.length,y,z]) (λ_=>True) (λe Q=>Su.A4 Q e.1<|Po.times q e.2.2) (λ_ _ _ _ _=>rfl) (x3:=.unb) (x4:=.unb) (xs0:=[]) trivial
  (show tN _ _=_ from m8 (by dsimp[ki,bools])<|lH h.l) (lH h.l) (Su.Fil.new Su.pL) λi e T Q1 D xs hi B _ t M=>by
   have b:=hz.pb<|pX rfl B;have J:=t.len;rw[br]at J;rw[cN,iI]at M;rw[cN,iI];have hm1:i * j<=120 * j:=dh _ ();have O:e.2.2.length<=2 * P+1:=b.2;have ll:q.length * e.2.2.length<=j:=by rw[Y];exact iY lq O
   obtain⟨L,T1,x1,Z,l2,G⟩:=CF f hf (t.lst _ _ (λz=>Su.tQ (Su.pL (S:=S) (xs:=[])) (lH (o:=.dct []) hq) z.symm)<|lH hq) (((h.a.uy K).Nb t Su.pL) e B) () (λp F=>cX (pq.c p F) hc) λp F=>cX (b.1.c p F) hC;have k1l:=G.len;obtain⟨D',U,x2,f',k'⟩:=(M.uy G).add xO (o:=e.1) Z (bG (Su.CN _ _) ll) (λz=>by
    have:=mC<|hz.pm _<|pX rfl B;rw[show((e.1,e.2.2):ag×Pl).1=e.1 from rfl,z]at this;simp at this;lia) () () ()
   exact⟨D',U,[],trivial,by unfold sM;dsimp[ki,bools,x1,x2],f',G.of0.trans k'⟩
 rw[cN,iI,Su.MO]at k;have t:l7 S T:=K.old kp λq hq _ z=>()
 have fl:=k.ll;obtain⟨L,S',e2,r1,r2,r3,V⟩:=Il k.dd k.aa k.kk ();have J:=t.len;refine⟨L,S',_,?_,⟨r1,r2⟩,by rw[Su.Fd,k.ss];rfl,(),t.trans V⟩;unfold qF Bb BC;dsimp[ki,bools,mK,Nat.reduceAdd,Nat.reduceSub,Su.oM];rw[show lO tN _ sM _ _=_ from e1];dsimp[ki,bools,e2]
def Sn.XS{N P c n:Nat}{l:Su.Ps}{q:Pl}(h:Sn N P C S n l)(f:Int×Int->A)(hf:∀p τ S,Nx (f p) τ S=Nx (Po.pA p) τ S)(U:N<6)(h0:1<=N)(hq:jE S m=some (q.map f))(J:PB Q c q)(lq:q.length<=2)(hP:P<=1000)(hC:C<big)(hc:c<big) :
  ∃(L:Nat) (S':jD),qF [.ref m,.ref n] S=.ok (.ref L) S'/\Sn N (P+Q) (q.length * (c * C)) S' L (He.CK q l)/\l7 S S':=by
 obtain⟨z,es,s,rfl⟩:=h;obtain⟨L,S',d,e1,j,g,_,e⟩:=Us f hf U h0 s z hq J lq hP hC hc;exact⟨L,S',e1,⟨z.CK J,d,j,g⟩,e⟩
end K40
namespace Kl
open Su Po He
open Fw (rg)
def OU{n k:Nat}{o:ag}(p:o.Perm<|rg n)(h0:1<=k)(h1:k<n):lK (Wd.ex o k) k=!lK o k:=by
 have lo:o.length=n:=by rw[p.length_eq,Wd.jR]
 have c:=Fw.Vz p h0 ();unfold Su.lK;rw[Fw.Wn h0 (),Fw.V1 h0 (),<- decide_not];exact gu.mpr ⟨λz=>(),λz=>()⟩
theorem zG:∀(l:ag),2 * Iv.inv l<=l.length * (l.length-1)
 | []=>aR _
 | x::l=>by
  have h1:l.countP (λy=>decide<|y<x)<=l.length:=List.countP_le_length;have h2:=zG l;show 2 * (l.countP (λy=>decide<|y<x)+Iv.inv l)<=(l.length+1) * l.length
  cases c:l.length with
  | zero=>rw[c]at h1 h2;lia
  | succ m=>
   rw[c]at h1 h2;have:(m+1) * (m+1-1)+2 * (m+1)=(m+1+1) * (m+1):=by
    rw[gM,Nat.add_mul (m+1) 1<|m+1,iI,mul_add (m+1) m 1];lia
   lia
abbrev step (k:Nat)(low:ag->Ps)(told:Ps)(e:ag×Pl):Ps:=if val e.2 1≠0/\lK e.1 k=true then wH told (CK [(0,-val e.2 1)]<|low e.1)else told
abbrev first (k:Nat)(less:Ps):Ps:=wH (Su.bx k less)<|CK [(1,1)] less
abbrev kp:Nat->ag->Ps
 | 0,_=>[]
 | f+1,w=>match ff w with
  | none=>[(w,[(0,1)])]
  | some k=>(kp f<|Wd.ex w k).foldl (step k<|kp f)<|first k (kp f<|Wd.ex w k)
abbrev Lo (n:Nat)(w o:ag):Prop:=o.Perm (rg n)/\(o=w\/Iv.inv o<Iv.inv w)
def Lo.le{n:Nat}{w:ag}(h:Lo n w o):Iv.inv o<=Iv.inv w:=by
 rcases h.2 with z|z
 ·rw[z];exact aR _
 ·exact d7 z
def C2{P:ag->Prop}{l m:Ps}(h:∀e∈l,P e.1)(h':∀e∈m,P e.1):∀e∈wH l m,P e.1:=
 su (qv (P:=P) _ (nofun) λx c=>(bz.mp c).elim (h x)<|h' x)
def GD{P:ag->Prop}{p:Pl}{l:Ps}(h:∀e∈l,P e.1):∀e∈CK p l,P e.1:=
 su (qv (P:=P) _ (nofun) λx c=>by
  obtain⟨e,d,rfl⟩:=aV.mp c;exact h e d)
def VP{P:ag->Prop}{k:Nat}{l:Ps}(h:∀e∈l,P e.1/\P (Wd.ex e.1 k)):∀e∈Su.bx k l,P e.1:=
 su (qv (P:=P) _ (nofun) λx c=>by
  obtain⟨e,d,c⟩:=iE.mp c
  rcases bD.mp c with z|z
  ·rw[z];exact(h e d).2
  ·split at z
   ·rw[aQ.mp z];exact(h e d).1
   ·exact nomatch z)
theorem Cf{P:ag->Prop}{k:Nat}{low:ag->Ps}:∀{less told:Ps},(∀e∈told,P e.1)->(∀e∈less,∀g∈low e.1,P g.1)->∀e∈less.foldl (step k low) told,P e.1
 | [],_,h,_=>h
 | x::xs,told,h,h'=>Cf (less:=xs) (by
   unfold step;split
   ·exact C2 h (GD λg hg=>h' x (aL ..) g hg)
   ·exact h) λe c=>h' e<|aN _ c
structure Dn (n:Nat)(w:ag)(k:Nat):Prop where
 h0:1<=k
 h1:k<n
 fw:lK w k=true
 pe:(Wd.ex w k).Perm (rg n)
 iv:Iv.inv w=Iv.inv (Wd.ex w k)+1
 ee:Wd.ex (Wd.ex w k) k=w
 fe:lK (Wd.ex w k) k=false
def yN{n:Nat}{w:ag}{k:Nat}(J:w.Perm<|rg n)(h:ff w=some k):Dn n w k:=by
 obtain⟨a,b,c⟩:=E5 h;have d:w.length=n:=by rw[J.length_eq,Wd.jR]
 refine⟨a,(),c,oG J a (),Fw.t8 a b (by have:=bQ c;lia),Fw.sA a b,?_⟩;rw[OU J a (),c];rfl
def yP{n k:Nat}{w:ag}(d:Dn n w k)(h:Lo n (Wd.ex w k) o):Lo n w o:=⟨h.1,.inr (by have:=h.le;have:=d.iv;lia)⟩
def Qt{n k:Nat}{w:ag}(d:Dn n w k)(h:Lo n (Wd.ex w k) o):Lo n w (Wd.ex o k):=by
 refine⟨oG h.1 d.h0 d.h1,?_⟩;have lo:o.length=n:=by rw[h.1.length_eq,Wd.jR]
 rcases h.2 with z|z
 ·exact .inl (by rw[z];exact d.ee)
 ·have:=Fw.VQ (l:=o) d.h0 (by have:=d.h1;lia);have:=d.iv;exact .inr ()
def VS{n:Nat}{w:ag}(h:Lo n w o)(h':Lo n o u):Lo n w u:=⟨h'.1,by
 rcases h'.2 with z|z
 ·rw[z];exact h.2
 ·exact .inr (by have:=h.le;lia)⟩
theorem xU{n:Nat}:∀(f:Nat) {w:ag},w.Perm (rg n)->∀e∈kp f w,Lo n w e.1
 | 0,_,_,e,c=>nomatch c
 | f+1,w,pw,e,c=>by
  revert e;unfold kp;split
  ·intro e c;rw[aQ.mp c];exact⟨pw,.inl rfl⟩
  ·rename_i k m;have d:=yN pw m;have j:=xU f d.pe;exact Cf (C2 (VP λe c=>⟨yP d<|j e c,Qt d<|j e c⟩)<|GD λe c=>yP d<|j e c) λe c g hg=>VS (yP d<|j e c)<|xU f (j e c).1 g hg
theorem fold_congr{k:Nat}{low J:ag->Ps}:∀{less told:Ps},(∀e∈less,low e.1=J e.1)->less.foldl (step k low) told=less.foldl (step k J) told
 | [],_,_=>rfl
 | x::xs,told,h=>by
  rw[dG,dG,show step k low told x=step k J told x from by unfold step;rw[h x<|aL ..]];exact fold_congr λe c=>h e<|aN _ c
theorem O2{n:Nat}:∀(f g:Nat) {w:ag},w.Perm (rg n)->Iv.inv w<f->Iv.inv w<g->kp f w=kp g w
 | 0,_,_,_,h,_=>absurd h (fq _)
 | f+1,0,_,_,_,h=>absurd h (fq _)
 | f+1,g+1,w,pw,h,h'=>by
  unfold kp;split
  ·rfl
  ·rename_i k c;have d:=yN pw c;have iv:=d.iv;rw[O2 f g d.pe () ()];exact fold_congr λe j=>by
    have l:=xU g d.pe e j;have:=l.le;exact O2 f g l.1 () ()
abbrev K (w:ag):Ps:=kp (Iv.inv w+1) w
def Fi{w:ag}(h:ff w=none):K w=[(w,[(0,1)])]:=by
 unfold K kp;rw[h]
def Jg{n k:Nat}{w:ag}(J:w.Perm<|rg n)(h:ff w=some k):K w=(K<|Wd.ex w k).foldl (step k K) (first k (K<|Wd.ex w k)):=by
 have d:=yN J h;have iv:=d.iv;show kp (Iv.inv w+1) w=_;unfold kp;rw[h];show(kp (Iv.inv w)<|Wd.ex w k).foldl (step k<|kp<|Iv.inv w) _=_;rw[show kp (Iv.inv w) (Wd.ex w k)=K (Wd.ex w k)from by unfold K;rw[iv]];exact fold_congr λe c=>by
  have l:=xU _ d.pe e c;have:=l.le;exact O2 _ _ l.1 () ()
def HX{n:Nat}{w:ag}(J:w.Perm<|rg n):∀e∈K w,Lo n w e.1:=xU _ J
abbrev Cb:Nat->Nat
 | 0=>1
 | 1=>124
 | i+2=>4 * Cb (i+1)+120 * (Cb (i+1) * Cb i)
def JO:∀i,4 * Cb i+120 * (Cb i * Cb (i-1))<=Cb (i+1)
 | 0=>by decide
 | i+1=>aR _
theorem zU:∀{j:Nat},i<=j->Cb i<=Cb j
 | 0,h=>by rw[Nat.le_zero.mp h];exact aR _
 | j+1,h=>by
  rcases gh j i with z|z
  ·rw[show i=j+1 by lia];exact aR _
  ·have:=zU z;have:=JO j
   lia
def VZ{P:Nat}{p:Pl}(h:PB P C p)(t:Int):(val p t).natAbs<=C:=by
 unfold val
 cases hf:p.find? λq=>decide (q.1=t)with
 | none=>exact bP _
 | some q=>exact h.c q<|fj hf
def Ua{n P A B L k:Nat}{low:ag->Ps}{e:ag×Pl}(h:Sz n P A told)(J:lK e.1 k=true->Sz n P L (low e.1))(U:(val e.2 1).natAbs<=B):Sz n P (A+B * L) (step k low told e):=by
 unfold step;split
 ·rename_i z;have:=(J z.2).CK (p:=[(0,-val e.2 1)]) (Q:=0) (c:=B) ⟨λq d=>by rw[aQ.mp d];show(-val e.2 1).natAbs<=B;rw[jy];exact U,λq d=>by rw[aQ.mp d];exact aR _⟩;exact(h.sum this).mono (aR _) (by show A+1 * (B * L)<=_;lia)
 ·exact h.mono (aR _)<|jf _ _
theorem Lv{n P B L k:Nat}{low:ag->Ps}:∀{less told:Ps}{A:Nat},Sz n P A told->(∀e∈less,lK e.1 k=true->Sz n P L (low e.1))->(∀e∈less,(val e.2 1).natAbs<=B)->Sz n P (A+less.length * (B * L)) (less.foldl (step k low) told)
 | [],_,_,h,_,_=>h.mono (aR _) (jf _ _)
 | x::xs,told,A,h,hl,hb=>by
  have:=Lv (less:=xs) (Ua (e:=x) h (hl x<|aL ..)<|hb x<|aL ..) (λe c=>hl e<|aN _ c) λe c=>hb e<|aN _ c;exact this.mono (aR _)<|by rw[bJ,fS];lia
def Si{n P k:Nat}{l:Ps}(h:Sz n P C l)(h0:1<=k)(h1:k<n):Sz n (P+1) (4 * C) (first k l):=by
 have:=h.CK (p:=[(1,1)]) (Q:=1) (c:=1) ⟨λq d=>by rw[aQ.mp d];exact aR _,λq d=>by rw[aQ.mp d];exact aR _⟩;exact((h.bx h0 h1).sum this).mono (aR _) (by show 3 * C+1 * (1 * C)<=_;lia)
def Yn{n:Nat}{w:ag}(J:w.Perm<|rg n):Sz n 0 1 [(w,[(0,1)])]:=by
 refine Sz.of (Qg w SX λz=>nomatch z) (λx d=>by rw[aQ.mp d];exact J) λe f=>by
  rw[aQ.mp f];exact⟨λq c=>by rw[aQ.mp c];exact aR _,λq c=>by rw[aQ.mp c];exact aR _⟩
def adC{n:Nat}(hn:n<6)(i:Nat):∀{w:ag},w.Perm (rg n)->Iv.inv w=i->Sz n i (Cb i) (K w):=by
 induction i using Nat.strongRecOn with
 | ind i g=>
  intro w f t
  cases hf:ff w with
  | none=>rw[Fi hf];exact(Yn f).mono (bP _) (zU (i:=0)<|bP _)
  | some k=>
   have d:=yN f hf;have iv:=d.iv;obtain⟨j,rfl⟩:∃j,i=j+1:=⟨Iv.inv<|Wd.ex w k,()⟩;have p:Iv.inv (Wd.ex w k)=j:=()
   have z:=g j () d.pe p;have m:=z.many hn;rw[Jg f hf];refine(Lv (Si z d.h0 d.h1) (L:=Cb<|j-1) (B:=Cb j) (λe c fe=>?_) λe c=>VZ (z.pb c).1 1).mono (aR _) (bG ?_<|JO j)
   ·have l:=HX d.pe e c;have:Iv.inv e.1<j:=by
     rcases l.2 with q|q
     ·rw[q,d.fe]at fe;exact nomatch fe
     ·lia
    exact(g (Iv.inv e.1) () l.1 rfl).mono () (zU ())
   ·exact Nat.add_le_add_left (dh _ m) _
def GA{n:Nat}(hn:n<6){w:ag}(J:w.Perm<|rg n):Sz n 10 (Cb 10) (K w):=by
 have:=zG w;have c:w.length=n:=by rw[J.length_eq,Wd.jR]
 have:Iv.inv w<=10:=by
  rw[c]at this;have:n * (n-1)<=5 * 4:=iY () ()
  lia
 exact(adC hn _ J rfl).mono this (zU this)
end Kl
namespace K40
open PySem L2 Am
def Sn.bx{N P n k:Nat}{l:Su.Ps}(h:Sn N P C S n l)(hN:N<6)(J:1<=k)(U:k<N)(hP:P<=1000)(hC:C<big) :
  ∃(L:Nat) (S':jD),mP [.ref n,.int k] S=.ok (.ref L) S'/\Sn N (P+1) (3 * C) S' L (Su.bx k l)/\l7 S S':=by
 obtain⟨z,es,s,rfl⟩:=h;have q:=z.many hN;rw[Su.pW]at q;obtain⟨L,t,d,D,F,B,_,_,_,_,g⟩:=TY (j:=2 * (2 * P+1)) s (k:=k) (N:=N) (λe f=>by
  have b:=z.pb<|pX rfl f;exact⟨mC<|z.pm _<|pX rfl f,by have:=b.2;show 2 * e.2.2.length<=_;exact Nat.mul_le_mul_left _ this,λp m=>cX (b.1.c p m) hC⟩) J U () (by
   have:(2 * es.length+2) * (2 * (2 * P+1))<=242 * (2 * (2 * P+1)):=dh _ ()
   lia) ()
 exact⟨L,t,D,⟨z.bx J U,d,F,B⟩,g⟩
open Po (Pl Ok)
open Su (Es)
open He (Sz PB)
open Fw (rg)
def IT{n:Nat}{p:Pl}(h:jE S n=some (Po.pl p))(J:Ok p):mJ [.ref n] S=.ok (.int<|Po.val p 1) (S++[.nG<|Po.iv p]):=by
 unfold mJ pS p7;dsimp[ki,qe,bools,mK,Nat.reduceAdd,Nat.reduceSub,zg,C7,h,Po.QE,Po.Jo,Po.Ln J,EY,uG,dH,xJ,Po.Be]
def v9:Kl.Cb 10<big:=by rw[zP];decide +kernel
def Sa.Nb{N P n d b:Nat}{l:Su.Ps}(h:Sa N P C b S n l)(k:Kp (·=d) S S')(J:jX S d=some kvs):Sa N P C b S' n l:=by
 obtain⟨a,es,b,c⟩:=h;exact⟨a,es,b.Nb k J,c⟩
def WX{N n:Nat}{o:ag}(J:N<6)(U:o.Perm<|rg N)(h:Sm S n es)(e:Su.sm es=Kl.K o):Sn N 10 (Kl.Cb 10) S n (Kl.K o):=⟨Kl.GA J U,es,h,e⟩
def PV(x y:A):gd (([x,y]:ae).length<=sizeLine)=λr:Am.R A=>r:=by funext r;exact p8<|show 2<=16777216 by decide
def SQ(x:A)(S:jD):newL [x] S=.ok (.ref S.length) (S++[.lst [x]]):=p8<|show 1<=16777216 by decide
abbrev Fnd (N d f:Nat)(Fs:ae->jD->R A):Prop:=∀(T:jD) (K:Es) (o:ag),Iv.inv o<f->o.Perm (rg N)->Kn N Kl.K T d K ->
  ∃(r:Nat) (c:jD) (g e:Es),Fs [.tup<|o.map .int,.ref d] T=.ok (.ref r) c/\Kn N Kl.K c d g/\Sm c r e/\Su.sm e=Kl.K o/\Ds d r e/\Kp (·=d) T c
def VM{Fs:ae->jD->R A}{N d f n L k:Nat}{K:Es}{e:Su.En}{x:A}(hN:N<6)(ih:Fnd N d f Fs)(hk:Kn N Kl.K T d K)(ht:Sa N 11 A' d T L told)(pe:e.1.Perm<|rg N)(he:Iv.inv e.1<f)(le:jE T e.2.1=some (Po.pl e.2.2))(oe:Ok e.2.2)(be:(Po.val e.2.2 1).natAbs<big)(k1:1<=k)(k2:k<N) :
  ∃(v:A) (L' A'':Nat) (T':jD) (K':Es),ni Fs [x,.int k,.ref d,.ref n,.ref L,.tup<|e.1.map .int,.ref e.2.1,y] T=.nx [x,.int k,.ref d,.ref n,.ref L',.tup<|e.1.map .int,.ref e.2.1,v] T'/\Kn N Kl.K T' d K'/\Sa N 11 A'' d T' L' (Kl.step k Kl.K told (e.1,e.2.2))/\Kp (·=d) T T':=by
 have h1:=IT le oe;have lo:=mC pe;obtain⟨T1,t⟩:∃T1,T1=T++[O.nG<|Po.iv e.2.2]:=⟨_,rfl⟩;have C:l7 T T1:=by rw[t];ksr_p
 rw[<- t]at h1;unfold ni;by_cases h0:Po.val e.2.2 1=0
 ·have F:(Po.val e.2.2 1 == 0)=true:=beq_iff_eq.mpr h0;refine⟨.int<|Po.val e.2.2 1,L,A',T1,K,?_,hk.uy C,?_,C.of0⟩
  ·dsimp[ki,qe,bools,h1,F,cI]
  ·unfold Kl.step;rw[aI λz=>z.1 h0];exact ht.kp C
 ·have F:(Po.val e.2.2 1 == 0)=false:=c8.mpr h0;have G:=Bs (S:=T1) (xs:=e.1) (n:=N) lo ();have g:aIn false (.int k) (.ref T1.length) (T1++[.lst<|(fl e.1 N).map .int])=.ok (.bl<|Su.lK e.1 k) (T1++[.lst<|(fl e.1 N).map .int]):=by
   show opt (jE _ _) _=_;rw[jW,jT,EC,JQ lo k1 k2];rfl
  obtain⟨T2,B⟩:∃T2,T2=T1++[O.lst<|(fl e.1 N).map .int]:=⟨_,rfl⟩;have q2:l7 T1 T2:=by rw[B];ksr_p
  rw[<- B]at g G;have j:=C.trans q2
  cases hf:Su.lK e.1 k with
  | false=>
   rw[hf]at g;refine⟨.int<|Po.val e.2.2 1,L,A',T2,K,?_,hk.uy j,?_,j.of0⟩
   ·dsimp[ki,qe,bools,h1,F,c5,G,g]
   ·unfold Kl.step;rw[aI λz=>by rw[hf]at z;exact nomatch z.2];exact ht.kp j
  | true=>
   rw[hf]at g;obtain⟨T3,p⟩:∃T3,T3=T2++[O.lst [.tup [.int 0,.int<|-Po.val e.2.2 1]]]:=⟨_,rfl⟩;have q3:l7 T2 T3:=by rw[p];ksr_p
   have U:jE T3 T2.length=some (([(0,-Po.val e.2.2 1)]:Pl).map Po.pA):=by rw[p];exact jW
   have m:=j.trans q3;obtain⟨r,T4,K4,rs,x4,Y,s4,e4,_,M⟩:=ih T3 K e.1 he pe<|hk.uy m;have W:=(hk.uy m).dd;have l4:=M.lst _ _ (λz=>Su.tQ W U z.symm) U;obtain⟨L5,T5,x5,s5,D⟩:=(WX hN pe s4 e4).XS Po.pA (λ_ _ _=>rfl) hN () l4 (Q:=0) (c:=(Po.val e.2.2 1).natAbs) ⟨λq J=>by rw[aQ.mp J];show(-_:Int).natAbs<=_;rw[jy];exact aR _,λq J=>by rw[aQ.mp J];exact aR _⟩ (show 1<=2 by decide) ⋯ v9 be;obtain⟨L6,T6,x6,Z,V⟩:=(((ht.kp m).Nb M W).kp D).sn.abw (d:=d) (s5.mono ⋯ (aR _)) hN () ⋯ (d7<|Su.mH (Y.uy D).dd);have st:Kl.step k Kl.K told (e.1,e.2.2)=He.wH told (He.CK [(0,-Po.val e.2.2 1)]<|Kl.K e.1):=by unfold Kl.step;rw[aK ⟨h0,hf⟩]
   rw[<- st]at Z;refine⟨.int<|Po.val e.2.2 1,L6,_,T6,K4,?_,(Y.uy D).uy V,Z,((m.of0.trans M).trans D.of0).trans V.of0⟩;have P:G7 (.int<|Po.val e.2.2 1) T2=.ok (.int<|-Po.val e.2.2 1) T2:=rfl;dsimp[ki,qe,bools,h1,F,c5,G,g,P,PV,SQ,<- p,x4,x5,x6]
end K40
namespace K40
open PySem L2 Am
open Po (Pl Ok)
open Su (Es)
open He (Sz PB)
open Fw (rg)
def Wr:gd (2<=sizeLine)=λr:Am.R A=>r:=by funext r;exact p8<|show 2<=16777216 by decide
def T9{Fs:ae->jD->R A}{N d f n k:Nat}{x:A}{wl:ag}(hN:N<6)(ih:Fnd N d f Fs)(hk:Kn N Kl.K S d K0)(ht:Sa N 11 A0 d S L0 told)(pw:wl.Perm<|rg N)(iw:Iv.inv wl<f)(hs:Sm S n es)(U:Su.sm es=Kl.K wl)(k1:1<=k)(k2:k<N) :
  ∃(y5 y6 y7:A) (L' A'':Nat) (S':jD) (K':Es),lO (pC Fs) (y_ 2<|qw (kh 5)<|qw (kh 6) za) (ni Fs) [x,.int k,.ref d,.ref n,.ref L0,.unb,.unb,.unb] S=.nx [x,.int k,.ref d,.ref n,.ref L',y5,y6,y7] S'/\Kn N Kl.K S' d K'/\Sa N 11 A'' d S' L' ((Kl.K wl).foldl (Kl.step k Kl.K) told)/\Kp (·=d) S S':=by
 have m:(es.map Su.ent).length=es.length:=aH ..;have q:=Kl.GA hN pw;refine vf (n:=n) (xs:=es.map Su.ent) (S1:=S) (show pC Fs _ _=_ from m8 (by dsimp[ki,bools]) hs.l)
  (λi τ T=>∃(y5 y6 y7:A) (L' A'':Nat) (K':Es),τ=[x,.int k,.ref d,.ref n,.ref L',y5,y6,y7]/\Kn N Kl.K T d K'/\Sa N 11 A'' d T L' ((Su.sm<|es.take i).foldl (Kl.step k Kl.K) told)/\Kp (·=d) S T)
  (λr=>∃(y5 y6 y7:A) (L' A'':Nat) (S':jD) (K':Es),r=.nx [x,.int k,.ref d,.ref n,.ref L',y5,y6,y7] S'/\Kn N Kl.K S' d K'/\Sa N 11 A'' d S' L' ((Kl.K wl).foldl (Kl.step k Kl.K) told)/\Kp (·=d) S S')
  ⟨_,_,_,L0,A0,K0,rfl,hk,ht,Kp.refl⟩ (λi τ T h=>?_) ?_ ?_
 ·obtain⟨_,_,_,_,_,_,_,_,_,kp⟩:=h;exact kp.lst _ _ (λz=>Su.tQ hk.dd hs.l z.symm) hs.l
 ·rintro i z τ T B ⟨y5,y6,y7,L',A'',K',rfl,j,c,kp⟩;rw[aO]at B;obtain⟨e,p,rfl⟩:=aX.mp B;have t:=aW p;have g:(e.1,e.2.2)∈Kl.K wl:=pX U t;have lo:=Kl.HX pw _ g;have pb:=q.pb g;obtain⟨v,J,D,T1,G,e1,F,L,C⟩:=VM (Fs:=Fs) (n:=n) (x:=x) (y:=y7) hN ih j c (e:=e) lo.1 (cX lo.le iw) ((hs.Nb kp hk.dd).a e t) (q.cn.gd.ok _ g) (cX (Kl.VZ pb.1 1) v9) k1 k2;refine⟨[x,.int k,.ref d,.ref n,.ref L',.tup<|e.1.map .int,.ref e.2.1,y7],T,rfl,.inl ⟨_,T1,e1,_,_,_,J,D,G,rfl,F,?_,kp.trans C⟩⟩;rw[cC,p,Su.vZ,dz];exact L
 ·rintro τ T ⟨y5,y6,y7,L',A'',K',rfl,j,c,kp⟩;rw[m,cL,U]at c;exact⟨y5,y6,y7,L',A'',T,K',rfl,j,c,kp⟩
def TL{Fs:ae->jD->R A}{N d f k:Nat}{w:ag}(hN:N<6)(ih:Fnd N d f Fs)(hk:Kn N Kl.K S d K0)(pw:w.Perm<|rg N)(hf:He.ff w=some k)(iw:Iv.inv w<f+1) :
  ∃(r:Nat) (S':jD) (K' rs:Es),lC kP (kO Fs) [.tup<|w.map .int,.int k,.ref d] S=.ok (.ref r) S'/\Kn N Kl.K S' d K'/\Sm S' r rs/\Su.sm rs=Kl.K w/\Ds d r rs/\Kp (·=d) S S':=by
 have e:=Kl.yN pw hf;have iv:=e.iv;obtain⟨S1,x1,P⟩:=JL (S:=S) (xs:=w) (k:=k) e.h0 (by rw[mC pw];exact e.h1) (by rw[mC pw];lia);obtain⟨r2,S2,K2,rs2,x2,G,M,e2,_,k2⟩:=ih S1 K0 (Wd.ex w k) () e.pe<|hk.uy P;have T:=WX hN e.pe M e2;obtain⟨L3,S3,x3,s3,D⟩:=T.bx hN e.h0 e.h1 ⋯ v9;obtain⟨p,m⟩:∃p,p=S3++[O.lst [.tup [.int 1,.int 1]]]:=⟨_,rfl⟩;have J:l7 S3 p:=by rw[m];ksr_p
 have V:jE p S3.length=some (([(1,1)]:Pl).map Po.pA):=by rw[m];exact jW
 have B:=D.trans J;obtain⟨L5,S5,x5,s5,k5⟩:=(T.kp B).XS Po.pA (λ_ _ _=>rfl) hN (by have:=e.h1;lia) V (Q:=1) (c:=1) ⟨λq t=>by rw[aQ.mp t];exact aR _,λq t=>by rw[aQ.mp t];exact aR _⟩ ⋯ ⋯ v9 (by rw[zP];decide +kernel);have g:=J.trans k5;obtain⟨L6,S6,x6,s6,Z⟩:=(s3.kp g).abw (d:=d) s5 hN (by have:=e.h1;lia) ⋯ (d7<|Su.mH (G.uy<|D.trans g).dd);have j:=(D.trans g).trans Z;obtain⟨y5,y6,y7,L7,A7,S7,K7,U,W,L,k7⟩:=T9 (x:=.tup<|w.map .int) hN ih (G.uy j) s6 e.pe () (M.kp j) e2 e.h0 e.h1;have eq:(Kl.K<|Wd.ex w k).foldl (Kl.step k Kl.K) (He.wH (Su.bx k<|Kl.K<|Wd.ex w k)<|He.CK [(1,1)]<|Kl.K<|Wd.ex w k)=Kl.K w:=(Kl.Jg pw hf).symm;rw[eq]at L;obtain⟨_,F,Y,e7,C⟩:=L;refine⟨L7,S7,K7,F,?_,W,Y,e7,C,((P.of0.trans k2).trans j.of0).trans k7⟩;unfold kO kP;dsimp[ki,qe,bools,mK,Nat.reduceAdd,Nat.reduceSub,x1,x2,x3,Wr,PV,SQ,<- m,x5,x6,↓U]
theorem Lk{N d:Nat}(hN:N<6):∀(f:Nat),Fnd N d f (mQ f)
 | 0=>λ_ _ _ h _ _=>absurd h (fq _)
 | f+1=>λS K o hf P hK=>by
  have lo:=mC P;show ∃(r:Nat) (S':jD) (T rs:Es),lC oS (oO<|mQ f) [.tup<|o.map .int,.ref d] S=.ok (.ref r) S'/\_;have B:HL true (.tup<|o.map .int) (.ref d) S=.ok (.bl<|!(kK (K.map Su.kv) o).isSome) S:=by rw[Xu,hK.dd,jT]
  unfold oO oS
  cases Y:Su.fE K o with
  | some e=>
   obtain⟨m1,rfl⟩:=Su.pZ Y;obtain⟨rs,r1,r2,Z⟩:=hK.at_ e m1;have L:kK (K.map Su.kv) e.1=some (.ref e.2.1):=by rw[Su.oR,Y];rfl
   have C:yY (.ref d) (.tup<|e.1.map .int) S=.ok (.ref e.2.1) S:=by rw[Su.xK,hK.dd,jT,L,jT]
   rw[L]at B;refine⟨e.2.1,S,K,rs,?_,hK,r1,r2,Z,Kp.refl⟩;dsimp[ki,qe,bools,mK,Nat.reduceAdd,Nat.reduceSub,B,gK,cI,C]
  | none=>
   have L:kK (K.map Su.kv) o=none:=by rw[Su.oR,Y];rfl
   rw[L]at B;have W:=Bs (S:=S) (xs:=o) (n:=N) lo ();have J:(fl o N).head?=(He.ff o).map λk:Nat=>(k:Int):=by
    have:=He.UI (o:=o);rw[lo]at this;exact this
   obtain⟨S1,m⟩:∃S1,S1=S++[O.lst<|(fl o N).map .int]:=⟨_,rfl⟩;have D:l7 S S1:=by rw[m];ksr_p
   have M:jE S1 S.length=some ((fl o N).map .int):=by rw[m];exact jW
   rw[<- m]at W;have U:=GC M
   cases c:He.ff o with
   | none=>
    have fe:fl o N=[]:=by
     rw[c]at J;exact List.head?_eq_none_iff.mp J
    obtain⟨S2,g⟩:∃S2,S2=S1++[O.lst [.tup [.int 0,.int 1]]]:=⟨_,rfl⟩;have k2:l7 S1 S2:=by rw[g];ksr_p
    have l2:jE S2 S1.length=some (Po.pl [(0,1)]):=by rw[g];exact jW
    obtain⟨S3,j⟩:∃S3,S3=S2++[O.lst [.tup [.tup<|o.map .int,.ref S1.length]]]:=⟨_,rfl⟩;have G:l7 S2 S3:=by rw[j];ksr_p
    have l3:jE S3 S2.length=some (([(o,S1.length,[(0,1)])]:Es).map Su.ent):=by rw[j];exact jW
    have sm:Sm S3 S2.length [(o,S1.length,[(0,1)])]:=⟨l3,λe he=>by rw[aQ.mp he];exact G.lst _ _ (λz=>z) l2⟩;have kq:Su.sm [(o,S1.length,[((0:Int),(1:Int))])]=Kl.K o:=by rw[Kl.Fi c];rfl
    have F:=(D.trans k2).trans G;have q:Ds d S2.length [(o,S1.length,[((0:Int),(1:Int))])]:=⟨bZ _ _,by have:=Su.mH (hK.uy<|D.trans k2).dd;lia,λe he=>by
     rw[aQ.mp he];exact⟨by have:=Su.mH (hK.uy D).dd;show d<=S1.length;lia,by show S1.length<S2.length;rw[g,br];exact eS _⟩⟩
    obtain⟨T',T,e1,n1,C,s1,kp⟩:=(hK.uy F).put hN P sm kq q;refine⟨S2.length,T',T,_,?_,n1,s1,kq,q,F.of0.trans kp⟩;rw[fe]at U;dsimp[ki,qe,bools,mK,Nat.reduceAdd,Nat.reduceSub,B,gR,c5,W,U,fR,iF,cI,Wr,PV,SQ,<- g,<- j,Su.tH,e1,C]
   | some k=>
    obtain⟨t,ft⟩:∃t,fl o N=(k:Int)::t:=by
     rw[c]at J;exact List.head?_eq_some_iff.mp J
    rw[ft]at U M;obtain⟨Z,S3,K3,V,x3,n3,s3,q3,p,G⟩:=TL hN (Lk hN f) (hK.uy D) P c hf;obtain⟨T',T,e1,n1,C,s1,kp⟩:=n3.put hN P s3 q3 p;refine⟨Z,T',T,V,?_,n1,s1,q3,p,(D.of0.trans G).trans kp⟩;dsimp[ki,qe,bools,mK,Nat.reduceAdd,Nat.reduceSub,B,gR,c5,W,U,bE,i9,cI];rw[bE]at M;dsimp[ki,qe,bools,M,Dg,↓x3,Su.tH,e1,C]
end K40
namespace Am
open Su (Es En)
open Po (Pl iv)
abbrev fzO:O->O
 | .dct kvs=>.dcf kvs
 | .nG kvs=>.dkf kvs
 | o=>o
def QU(o:O):fzO (fzO o)=fzO o:=by cases o<;>rfl
structure Kz (P Q:Nat->Prop)(S S':jD):Prop where
 len:S.length<=S'.length
 obj:∀(n:Nat) (o:O),¬P n->S[n]?=some o->S'[n]?=some o\/(¬Q n/\S'[n]?=some (fzO o))
section
variable {P Q P' Q':Nat->Prop}{S S1 S2:jD}{n:Nat}
def Kp.kz(h:Kp P S S1):Kz P Q S S1:=⟨h.len,λn o a b=>.inl<|h.obj n o a b⟩
def Kz.refl:Kz P Q S S:=Kp.refl.kz
def Kz.old(h:Kz P Q S S1)(h':Kz P' Q' S1 S2)(J:∀n,n<S.length->¬P n->¬P' n)(U:∀n,n<S.length->Q n->Q' n):Kz P Q S S2:=⟨bG h.len h'.len,λn o hn e=>by
 have lt:=vX e;have f:=J n lt hn
 rcases h.obj n o hn e with z|⟨q,z⟩
 ·rcases h'.obj n o f z with y|⟨d,y⟩
  ·exact .inl y
  ·exact .inr ⟨λc=>d<|U n lt c,y⟩
 ·rcases h'.obj n _ f z with y|⟨d,y⟩
  ·exact .inr ⟨q,y⟩
  ·exact .inr ⟨q,by rw[y,QU]⟩⟩
def Kz.dct(h:Kz P Q S S1)(J:¬P n)(U:Q n)(e:jX S n=some xs):jX S1 n=some xs:=r9 (by
 rcases h.obj n _ J (l8 e)with z|⟨q,_⟩
 ·exact z
 ·exact absurd U q)
def Kz.dk(h:Kz P Q S S1)(J:¬P n)(U:Q n)(e:kj S n=some xs):kj S1 n=some xs:=qX (by
 rcases h.obj n _ J (lY e)with z|⟨q,_⟩
 ·exact z
 ·exact absurd U q)
def Sy(h:kW S n=some kvs):S[n]?=some (.dct kvs)\/S[n]?=some (.dcf kvs):=by
 unfold kW at h;split at h
 ·rename_i e;cases h;exact .inl e
 ·rename_i e;cases h;exact .inr e
 ·cases h
def RP(h:S[n]?=some (.dct kvs)\/S[n]?=some (.dcf kvs)):kW S n=some kvs:=by
 unfold kW
 rcases h with z|z<;>rw[z]
def HK(h:j8 S n=some kvs):S[n]?=some (.nG kvs)\/S[n]?=some (.dkf kvs):=by
 unfold j8 at h;split at h
 ·rename_i e;cases h;exact .inl e
 ·rename_i e;cases h;exact .inr e
 ·cases h
def IK(h:S[n]?=some (.nG kvs)\/S[n]?=some (.dkf kvs)):j8 S n=some kvs:=by
 unfold j8
 rcases h with z|z<;>rw[z]
def u7(h:jX S n=some kvs):kW S n=some kvs:=RP<|.inl<|l8 h
def yf(h:kj S n=some kvs):j8 S n=some kvs:=IK<|.inl<|lY h
def Kz.dcr(h:Kz P Q S S1)(J:¬P n)(e:kW S n=some xs):kW S1 n=some xs:=RP (by
 rcases Sy e with e|e<;>rcases h.obj n _ J e with z|⟨_,z⟩
 ·exact .inl z
 ·exact .inr z
 ·exact .inr z
 ·exact .inr z)
def Kz.Ss(h:Kz P Q S S1)(J:¬P n)(e:j8 S n=some xs):j8 S1 n=some xs:=IK (by
 rcases HK e with e|e<;>rcases h.obj n _ J e with z|⟨_,z⟩
 ·exact .inl z
 ·exact .inr z
 ·exact .inr z
 ·exact .inr z)
def Kz.fz{f:O}(h:Kz P Q S S1)(hf:∀o,S1[n]?=some o->fzO o=f)(J:¬Q n\/S.length<=n):Kz P Q S (S1.set n f):=⟨by rw[cu];exact h.len,λm o d e=>by
 by_cases c:n=m
 ·subst c;have lt:=vX e;have g:¬Q n:=J.elim id λz=>absurd lt ();refine .inr ⟨g,?_⟩;rw[bM<|bO lt h.len]
  rcases h.obj n o d e with z|⟨_,z⟩
  ·rw[hf _ z]
  ·have:=hf _ z;rw[QU]at this;rw[this]
 ·rw[bL c];exact h.obj m o d e⟩
def Kz.fzD(h:Kz P Q S S1)(hn:kW S1 n=some kvs)(J:¬Q n\/S.length<=n):Kz P Q S (S1.set n<|.dcf kvs):=h.fz (λo e=>by
 rcases Sy hn with z|z<;>rw[z]at e<;>cases e<;>rfl) J
def Kz.fzK(h:Kz P Q S S1)(hn:j8 S1 n=some kvs)(J:¬Q n\/S.length<=n):Kz P Q S (S1.set n<|.dkf kvs):=h.fz (λo e=>by
 rcases HK hn with z|z<;>rw[z]at e<;>cases e<;>rfl) J
def GL(h:j8 S n=some kvs):j8 (S.set n<|.dkf kvs) n=some kvs:=IK<|.inr<|bM<|Aq h
def yx(h:jX S n=some xs)(h':j8 S m=some ys):m≠n:=λz=>by
 subst z;have e:=l8 h
 rcases HK h' with z|z<;>rw[z]at e<;>cases e
end
structure Rw (Q:Nat->Prop)(T:jD)(r:Nat)(es:Es):Prop where
 l:kW T r=some (es.map Su.kv)
 a:∀e∈es,j8 T e.2.1=some (iv e.2.2)/\¬Q e.2.1
 q:¬Q r
def Rw.go{G J P Q':Nat->Prop}{T:jD}{r:Nat}(h:Rw G T r es)(k:Kz P Q' T T')(U:∀n,n<T.length->P n->G n)(hg:∀n,n<T.length->J n->G n):Rw J T' r es:=by
 have c:=OC h.l;refine⟨k.dcr (λz=>h.q<|U _ c z) h.l,λe f=>?_,λz=>h.q<|hg _ c z⟩;obtain⟨a,b⟩:=h.a e f;have d:=Aq a;exact⟨k.Ss (λz=>b<|U _ d z) a,λz=>b<|hg _ d z⟩
structure Md (T:jD)(M c:Nat)(D:Es):Prop where
 dd:jX T M=some (D.map Su.kv)
 aa:∀e∈D,kj T e.2.1=some (iv e.2.2)
 ap:Su.Ap D
 np:∀e∈D,(e.2.2.map Prod.fst).Nodup
 ln:∀e∈D,e.2.2.length<=c
abbrev ow (M:Nat)(D:Es)(x:Nat):Prop:=x=M\/∃e∈D,e.2.1=x
def Md.Qu{T:jD}{c x:Nat}{D:Es}(h:Md T M c D)(z:ow M D x):x<T.length:=by
 rcases z with z|⟨e,d,z⟩
 ·rw[z];exact Su.mH h.dd
 ·rw[<- z];exact Dj<|h.aa e d
def Md.kz{P Q:Nat->Prop}{c:Nat}{D:Es}(h:Md T M c D)(k:Kz P Q T T')(J:∀x,ow M D x->¬P x/\Q x):Md T' M c D:=
 ⟨k.dct (J _<|.inl rfl).1 (J _<|.inl rfl).2 h.dd,λe d=>k.dk (J _<|.inr ⟨e,d,rfl⟩).1 (J _<|.inr ⟨e,d,rfl⟩).2<|h.aa e d,h.ap,h.np,h.ln⟩
def Md.mono{c:Nat}{D:Es}(h:Md T M c D)(l:c<=c'):Md T M c' D:=⟨h.dd,h.aa,h.ap,h.np,λe d=>bG (h.ln e d) l⟩
def eW9:jB 9 (x0::x1::x2::x3::x4::x5::x6::x7::x8::x9::xs) S=uV x9 S:=nJ
def Yr:jB 10 (x0::x1::x2::x3::x4::x5::x6::x7::x8::x9::x10::xs) S=uV x10 S:=nJ
def adL{a:A}:kh 10 a (x0::x1::x2::x3::x4::x5::x6::x7::x8::x9::x10::xs) S=.ok (x0::x1::x2::x3::x4::x5::x6::x7::x8::x9::a::xs) S:=rfl
def aau:jB 11 (x0::x1::x2::x3::x4::x5::x6::x7::x8::x9::x10::x11::xs) S=uV x11 S:=nJ
def aa2{a:A}:kh 11 a (x0::x1::x2::x3::x4::x5::x6::x7::x8::x9::x10::x11::xs) S=.ok (x0::x1::x2::x3::x4::x5::x6::x7::x8::x9::x10::a::xs) S:=rfl
def abk{n:Nat}(h:kW S n=some kvs):dr? (.ref n) S=some Unit.unit:=by
 show(if ((j8 S n).isSome || (kW S n).isSome)=true then some Unit.unit else none)=_;rw[h];simp
def VT{n:Nat}(h:j8 S n=some kvs):dr? (.ref n) S=some Unit.unit:=by
 show(if ((j8 S n).isSome || (kW S n).isSome)=true then some Unit.unit else none)=_;rw[h];simp
def Of{n:Nat}{o:ag}:G6 (.ref n) [.tup<|o.map .int,y] S=opt (kW S n) λkvs=>.ok ((kK kvs o).getD y) S:=by
 show opt (kW S n) (λkvs=>opt (A.ints<|o.map .int) λk=>_)=_;rw[ints_map];rfl
def GU{n:Nat}{k:Int}:wZ (.ref n) [.int k,y] S=opt (j8 S n) λkvs=>.ok ((k_ kvs k).getD y) S:=rfl
def wX{n:Nat}{k:Int}:yj (.ref n) (.int k) S=opt (j8 S n) λkvs=>opt (k_ kvs k) λv=>.ok v S:=rfl
def Mc{n:Nat}{o:ag}:w6 (.ref n) (.tup<|o.map .int) S=opt (kW S n) λkvs=>opt (kK kvs o) λv=>.ok v S:=by
 show opt (kW S n) (λkvs=>opt (A.ints<|o.map .int) λk=>_)=_;rw[ints_map];rfl
def Kr{c:Ex}{S1:jD}{n:Nat}{p:Pl}(h:c τ S=.ok (.ref n) S1)(hn:j8 S1 n=some (iv p)):Py c τ S=.ok (nW<|p.map λq=>.int q.1) (S1.set n<|.dkf<|iv p):=by
 unfold Py;rw[h,R.mF];show opt (j8 S1 n) _=_;rw[hn,jT];unfold iv;rw[bq];rfl
def Ei{c:Ex}{S1:jD}{n:Nat}{es:Es}(h:c τ S=.ok (.ref n) S1)(hn:kW S1 n=some (es.map Su.kv)):MX c τ S=.ok (nW<|es.map λe=>.tup<|e.1.map .int) (S1.set n<|.dcf<|es.map Su.kv):=by
 unfold MX;rw[h,R.mF];show opt (kW S1 n) _=_;rw[hn,jT,bq];rfl
end Am
namespace He
open PySem L2 Am Po
open Fw (Two rg EK)
open Su (lK Ps cS Gd vS toS adds bx)
abbrev Z (k:Nat)(f:Fn):Fn:=λo t=>L k f o t-dl (f o) t
abbrev Zw (w:am)(f:Fn):Fn:=w.foldl (λf k=>Z k f) f
def ac7{n k:Nat}{f g:Fn}(h:mh n f g)(h0:1<=k)(h1:k<n):mh n (Z k f) (Z k g):=λo p t=>by
 unfold Z;rw[Zb h h0 h1 o p t,show f o=g o from funext λt=>h o p t]
theorem FU{n:Nat}:∀{w:am}{f g:Fn},Va n w->mh n f g->mh n (Zw w f) (Zw w g)
 | [],_,_,_,h=>h
 | k::w,f,g,v,h=>FU (w:=w) (λj c=>v j<|aN _ c)<|ac7 h (v k<|aL ..).1 (v k<|aL ..).2
def ac4(k:Nat)(f:Fn)(o:ag)(t:Int):L k (λo t=>dl (f o) t) o t=dl (L k f o) t:=by
 unfold L dl;dsimp only;split<;>lia
def Z_(k:Nat)(f g:Fn)(o:ag)(t:Int):L k (λo t=>f o t-g o t) o t=L k f o t-L k g o t:=by
 unfold L dl;dsimp only;split<;>lia
def Y_Z{n k:Nat}(f:Fn)(h0:1<=k)(h1:k<n)(h2:1<=j)(h3:j<n):mh n (Y k<|Z j f) (Z j<|Y k f):=λo p t=>by
 have a:X k (Z j f) o t=X k (L j f) o t-dl (X k f o) t:=by
  have:=Wo k (L j f) (λo t=>dl (f o) t) o t;rw[abl]at this;exact this
 have b:L j (Y k f) o t=L j (X k f) o t-dl (L j f o) t:=by
  have:=Z_ j (X k f) (λo t=>dl (f o) t) o t;rw[ac4]at this;exact this
 show X k (Z j f) o t-dl (Z j f o) t=L j (Y k f) o t-dl (Y k f o) t;rw[a,b,comm f p h0 h1 h2 h3 t];unfold Y Z dl;dsimp only
 lia
theorem aaK{n k:Nat}(h0:1<=k)(h1:k<n):∀{w:am}{f:Fn},Va n w->mh n (Zw w<|Y k f) (Y k<|Zw w f)
 | [],_,_=>.refl
 | j::w,f,v=>by
  have v1:=v j<|aL ..;have v2:Va n w:=λi c=>v i<|aN _ c;exact(FU v2 (Y_Z f h0 h1 v1.1 v1.2).symm).trans (aaK h0 h1 (w:=w) (f:=Z j f) v2)
def Oi{n k:Nat}(h0:1<=k)(h1:k<n):lK (rg n) k=false:=by
 refine bA ?_;rw[aJ,Wd.nO<|show k-1<n by lia,aJ,Wd.nO h1];show ¬((k-1:Nat):Int)+1>(k:Int)+1
 lia
def Bm(n:Nat):cS (one n)=D (rg n) d0:=by
 have z:cS (one n)=add (D (rg n)<|cf [((0:Int),(1:Int))]) (λ_ _=>0):=EU _ _;rw[z]
 funext u s
 show D (rg n) (cf [((0:Int),(1:Int))]) u s+0=_;rw[b6];unfold D;split
 ·rw[<- W0,Sj]
 ·rfl
def aa7{n k:Nat}(h0:1<=k)(h1:k<n):mh n (Z k<|cS<|one n) (Y k<|cS<|one n):=λo p t=>by
 have f1:=Oi (n:=n) h0 h1;have e:(rg n).map (Wd.sw k)=Wd.ex (rg n) k:=Lu (n_ n) h0 h1 (.inl ⟨by
  rw[aJ,Wd.nO<|show k-1<n by lia];show((k-1:Nat):Int)+1=k
  lia,by
  rw[aJ,Wd.nO h1];rfl⟩)
 show L k (cS<|one n) o t-_=X k (cS<|one n) o t-_;rw[Bm,L_D d0 (n_ n) h0 h1 o p t,X_D d0 (n_ n) h0 h1 o p t,CS,f1,e]
theorem PX{n:Nat}:∀{w:am},Va n w->mh n (Zw w<|cS<|one n) (Yw w.reverse<|cS<|one n)
 | [],_=>.refl
 | k::w,v=>by
  have v1:=v k<|aL ..;have v2:Va n w:=λi c=>v i<|aN _ c;rw[eE,Ky];exact(FU v2<|aa7 v1.1 v1.2).trans ((aaK v1.1 v1.2 v2).trans<|YS (PX v2) v1.1 v1.2)
abbrev Wy (f:Fn):Fn:=λo t=>f (bk o) t
def adI{n k:Nat}(f:Fn)(h0:1<=k)(h1:k<n):mh n (Wy<|Y k f) (Z k<|Wy f):=λo p t=>by
 show f (Wd.ex (bk o) k) t+(if lK (bk o) k=true then dl (f<|bk o) t else 0)-dl (f<|bk o) t=f (bk<|o.map<|Wd.sw k) t+(if lK (bk o) k=true then dl (f<|bk o) t else 0)-dl (f<|bk o) t;rw[Gn p h0 h1]
theorem WR{n:Nat}:∀{w:am}{f:Fn},Va n w->mh n (Wy<|Yw w f) (Zw w<|Wy f)
 | [],_,_=>.refl
 | k::w,f,v=>by
  have v1:=v k<|aL ..;have v2:Va n w:=λi c=>v i<|aN _ c;exact(WR (w:=w) (f:=Y k f) v2).trans (FU v2<|adI f v1.1 v1.2)
def YT(n:Nat):mh n (Wy<|cS<|one n) (cS<|one n):=λo p t=>by
 show cS (one n) (bk o) t=_;rw[Bm];unfold D;by_cases c:o=rg n
 ·rw[c,CS]
 ·rw[aI c,aI λz=>c<|by rw[<- n8 p,z,CS]]
def aas{n:Nat}{u:ag}(J:u.Perm<|rg n):mh n (bT n<|bk u) (Wy<|bT n u):=by
 obtain⟨a,b⟩:=Ag J;have va:=NG J;have d:Va n (sw n u).reverse:=λk f=>va k<|fP.mp f;have c:=Wd.mX (sw n u).reverse d;rw[fF,b]at c;have e:=nZ ⟨J,Fe (n_ n) d,c⟩<|oZ J;exact(zL (kX J) (zS a) e).trans ((PX va).symm.trans<|(FU va (YT n).symm).trans (WR va).symm)
theorem Wv{n:Nat}:∀{l:Ps},(∀x∈l,x.1.Perm<|rg n)->mh n (Bt n<|wb l) (Wy<|Bt n l)
 | [],_=>.refl
 | e::l,pl=>λo p t=>by
  have d:=pl e<|aL ..;have i:=Wv (l:=l) (λx c=>pl x<|aN _ c) o p t;show cv (turn e.2) (bT n (bk e.1) o) t+Bt n (wb l) o t=cv (turn e.2) (bT n e.1<|bk o) t+Bt n l (bk o) t;rw[i];show _=_+Wy (Bt n l) o t;congr 1;exact Fb _ (aas d) o p t
end He
namespace Kl
open Su Po He
open Fw (rg)
def MT(c:Int)(g:Int->Int)(t:Int):cv [((0:Int),c)] g t=c * g t:=by
 show c * g (t-0)+0=_;rw[iR,b6]
def abB(g:Int->Int)(t:Int):cv [((1:Int),(1:Int))] g t=g (t-1):=by
 show 1 * g (t-1)+0=_;rw[i8,b6]
def acJ(g:Int->Int)(t:Int):cv [((-1:Int),(1:Int))] g t=g (t+1):=by
 show 1 * g (t - -1)+0=_;rw[i8,b6,Int.sub_neg]
def FI{n:Nat}{w:ag}(J:w.Perm<|rg n)(h:ff w=none):w=rg n:=Fw.Rr J λk c=>by
 have:=UM h k c.1 c.2.1;have h2:=c.2.2;unfold Su.lK at this;have:=dI this
 lia
def SV{n:Nat}:∀(i:Nat) {u:ag},u.Perm (rg n)->Iv.inv u=i->(∀t,bT n u u t=d0 t)/\∀o,o.Perm (rg n)->∀t,bT n u o t≠0->Lo n u o:=by
 intro i
 induction i with
 | zero=>
  intro u f j;have e:u=rg n:=by
   cases hf:ff u with
   | none=>exact FI f hf
   | some k=>have:=(yN f hf).iv;lia
  subst e;have h1:mh n (bT n<|rg n) (cS<|one n):=zL f (w:=[]) trivial rfl;refine⟨λt=>?_,λo g t h=>?_⟩
  ·rw[h1 _ f t,Bm];exact aK rfl
  ·rw[h1 _ g t,Bm]at h;unfold D at h;by_cases c:o=rg n
   ·exact⟨g,.inl c⟩
   ·rw[aI c]at h;exact absurd rfl h
 | succ i m=>
  intro u f j
  cases hf:ff u with
  | none=>
   rw[FI f hf]at j;have:Iv.inv (rg n)=0:=by
    have z:=FI f hf;exact Fw.BE n
   lia
  | some k=>
   have d:=yN f hf;have iv:=d.iv;obtain⟨a,b⟩:=m d.pe ();have e:=Wg f d.h0 d.h1 d.fw;refine⟨λt=>?_,λo g t h=>?_⟩
   ·rw[e _ f t];show X k _ u t-dl _ t=_;unfold X;rw[aK d.fw,a t]
    lia
   ·rw[e _ g t]at h;have pe:=oG g d.h0 d.h1;have h':bT n (Wd.ex u k) (Wd.ex o k) t≠0\/bT n (Wd.ex u k) o (t+1)≠0\/bT n (Wd.ex u k) o (t-1)≠0:=by
     by_cases c1:bT n (Wd.ex u k) (Wd.ex o k) t=0
     ·by_cases c2:bT n (Wd.ex u k) o (t+1)=0
      ·refine .inr<|.inr λc3=>h ?_;show X k _ o t-dl _ t=_;unfold X dl;rw[c1,c2,c3];split<;>rfl
      ·exact .inr<|.inl c2
     ·exact .inl c1
    rcases h' with z|z|z
    ·have:=Qt d (b _ pe t z)
     rwa [Fw.sA d.h0<|by rw[g.length_eq,Wd.jR];exact d.h1]at this
    ·exact yP d (b _ g _ z)
    ·exact yP d<|b _ g _ z
theorem Sk{n:Nat}(J:∀t,bT n o o t=d0 t)(t:Int):∀{m:Ps},(∀e∈m,e.1=o\/∀t,bT n e.1 o t=0)->Bt n m o t=cS m o (-t)
 | [],_=>rfl
 | e::m,h=>by
  have f:=Sk J t (m:=m) λx d=>h x<|aN _ d;show cv (turn e.2) (bT n e.1 o) t+Bt n m o t=(if e.1=o then cf e.2 (-t)else 0)+cS m o (-t);rw[f];congr 1;by_cases c:e.1=o
  ·rw[aK c,c,show bT n o o=d0 from funext J,W0,Dz]
  ·rw[aI c]
   rcases h e (aL ..)with z|z
   ·exact absurd z c
   ·rw[show bT n e.1 o=λ_=>0 from funext z,vm]
structure Kept (n:Nat)(w:ag)(m:Ps):Prop where
 pm:∀x∈m,x.1.Perm (rg n)
 bar:mh n (Bt n m) (cS m)
 me:∀t,cS m w t=d0 t
 sm:∀o,o.Perm (rg n)->o≠w->∀t,t<=0->cS m o t=0
 lo:∀o,o.Perm (rg n)->∀t,cS m o t≠0->Lo n w o
def Kept.eq{n:Nat}{w:ag}{J:Ps}(U:w.Perm<|rg n)(h:Kept n w m)(pm:∀x∈J,x.1.Perm<|rg n)(e:mh n (cS J)<|cS m):Kept n w J:=
 ⟨pm,λo p t=>by rw[IB n<|Zc pm h.pm e,h.bar o p t,e o p t],λt=>by rw[e w U t];exact h.me t,λo p d t c=>by rw[e o p t];exact h.sm o p d t c,λo p t z=>by rw[e o p t]at z;exact h.lo o p t z⟩
theorem Le(q:ag->Bool)(o:ag)(t:Int):∀m:Ps,cS (m.filter λe=>q e.1) o t=if q o=true then cS m o t else 0
 | []=>by split<;>rfl
 | e::m=>by
  have f:=Le q o t m;rw[bY];by_cases c:q e.1=true
  ·rw[aK c];show(if e.1=o then _ else _)+cS _ o t=_;rw[f];by_cases d:q o=true
   ·rw[aK d,aK d];rfl
   ·rw[aI d,aI d,aI λz=>d<|by rw[<- z];exact c];rfl
  ·rw[aI c,f];by_cases d:q o=true
   ·rw[aK d,aK d];show _=(if e.1=o then _ else _)+cS m o t;rw[aI λz=>c<|by rw[z];exact d,bV]
   ·rw[aI d,aI d]
def Kept.uniq{n:Nat}{w:ag}(h:Kept n w m)(h':Kept n w m'):mh n (cS m) (cS m'):=by
 obtain⟨d,B⟩:∃d,d=m++Ny [((0:Int),(-1:Int))] m':=⟨_,rfl⟩;have C:∀o t,cS d o t=cS m o t-cS m' o t:=λo t=>by
  rw[B,nR,A3];show _+cv [((0:Int),(-1:Int))] (cS m' o) t=_;rw[MT];lia
 have F:∀x∈d,x.1.Perm (rg n):=λx G=>by
  rw[B]at G
  rcases bz.mp G with z|z
  ·exact h.pm x z
  ·obtain⟨y,T,rfl⟩:=aV.mp z;exact h'.pm y T
 have M:mh n (Bt n d) (cS d):=λo p t=>by
  rw[C,B,Bf,Du];show Bt n m o t+cv (turn [((0:Int),(-1:Int))]) (Bt n m' o) t=_;rw[show turn [((0:Int),(-1:Int))]=[((0:Int),(-1:Int))]from rfl,MT,h.bar o p t,h'.bar o p t];lia
 have J:∀o,o.Perm (rg n)->∀t,t<=0->cS d o t=0:=λo p t K=>by
  rw[C];by_cases c:o=w
  ·rw[c,h.me,h'.me];lia
  ·rw[h.sm o p c t K,h'.sm o p c t K];rfl
 have g:∀(i:Nat) (o:ag),o.Perm (rg n)->n * n-Iv.inv o=i->∀t,cS d o t=0:=by
  intro i
  induction i using Nat.strongRecOn with
  | ind i O=>
   intro o f U t;have k:=(SV _ f rfl).1;have iv:∀u:ag,u.Perm (rg n)->Iv.inv u<=n * n:=λu j=>by
    have:=zG u;rw[j.length_eq,Wd.jR]at this;have:n * (n-1)<=n * n:=Nat.mul_le_mul_left _ ()
    lia
   have N:∀u s,Iv.inv o<Iv.inv u->cS d u s=0:=λu s V=>by
    by_cases j:u.Perm (rg n)
    ·have:=iv u j;exact O (n * n-Iv.inv u) () u j rfl s
    ·exact off F j s
   have e1:∀u s,cS d u s=cS (d.filter λe=>decide<|Iv.inv e.1<=Iv.inv o) u s:=λu s=>by
    rw[Le λu=>decide<|Iv.inv u<=Iv.inv o];by_cases c:Iv.inv u<=Iv.inv o
    ·rw[aK<|bg c]
    ·rw[aI λz=>c<|bQ z,N u s ()]
   have L:∀t,cS d o t=cS d o (-t):=λt=>by
    rw[<- M o f t,IB n e1,Sk k t λe D=>?_,<- e1];have h1:=bQ (bK.mp D).2;have P:=F e (bK.mp D).1;by_cases c:e.1=o
    ·exact .inl c
    ·refine .inr λt=>?_;by_cases z:bT n e.1 o t=0
     ·exact z
     ·rcases((SV _ P rfl).2 o f t z).2 with q|q
      ·exact absurd q.symm c
      ·lia
   rcases Int.le_total t 0 with z|z
   ·exact J o f t z
   ·rw[L t];exact J o f _ ()
 intro o f t;have:=g _ o f rfl t;rw[C]at this
 lia
def Kept.back{n:Nat}{w:ag}(J:w.Perm<|rg n)(h:Kept n w m):Kept n (bk w) (wb m):=by
 have pm:∀x∈wb m,x.1.Perm (rg n):=λx d=>by
  obtain⟨y,f,rfl⟩:=aV.mp d;exact kX<|h.pm y f
 refine⟨pm,λo p t=>?_,λt=>?_,λo p e t c=>?_,λo p t z=>?_⟩
 ·rw[Wv h.pm o p t,yT p t h.pm];exact h.bar _ (kX p) t
 ·rw[yT (kX J) t h.pm,n8 J];exact h.me t
 ·rw[yT p t h.pm];exact h.sm _ (kX p) (λz=>e<|by rw[<- z,n8 p]) t c
 ·rw[yT p t h.pm]at z;obtain⟨_,q⟩:=h.lo _ (kX p) t z;refine⟨p,?_⟩
  rcases q with q|q
  ·exact .inl (by rw[<- q,n8 p])
  ·exact .inr<|by rw[DQ p]at q;rw[DQ J];exact q
abbrev Tk (g:ag->Ps)(T:List<|ag×Int):Ps:=T.flatMap λz=>Ny [((0:Int),-z.2)]<|g z.1
def EA(g:ag->Ps)(z:ag×Int)(T:List<|ag×Int):Tk g (z::T)=Ny [((0:Int),-z.2)] (g z.1)++Tk g T:=rfl
def o4(g:ag->Ps)(z:ag×Int)(T:List<|ag×Int)(o:ag)(t:Int):cS (Tk g (z::T)) o t=-z.2 * cS (g z.1) o t+cS (Tk g T) o t:=by
 rw[EA,nR,A3];show cv [((0:Int),-z.2)] (cS (g z.1) o) t+_=_;rw[MT]
def abf{n:Nat}{g:ag->Ps}{T:List<|ag×Int}(h:∀z∈T,∀x∈g z.1,x.1.Perm<|rg n):∀x∈Tk g T,x.1.Perm (rg n):=λx c=>by
 obtain⟨z,d,c⟩:=iE.mp c;obtain⟨y,e,rfl⟩:=aV.mp c;exact h z d y e
theorem RW{n:Nat}{g:ag->Ps}:∀{T:List<|ag×Int},(∀z∈T,mh n (Bt n<|g z.1)<|cS<|g z.1)->mh n (Bt n<|Tk g T) (cS<|Tk g T)
 | [],_=>.refl
 | z::T,h=>λo p t=>by
  have d:=RW (T:=T) (λy c=>h y<|aN _ c) o p t;rw[o4,EA,Bf,Du];show cv (turn [((0:Int),-z.2)]) (Bt n (g z.1) o) t+Bt n (Tk g T) o t=_;rw[show turn [((0:Int),-z.2)]=[((0:Int),-z.2)]from rfl,MT,h z (aL ..) o p t,d]
theorem sF{g:ag->Ps}{t:Int}:∀{T:List<|ag×Int},(∀z∈T,cS (g z.1) o t=0)->cS (Tk g T) o t=0
 | [],_=>rfl
 | z::T,h=>by
  rw[o4,h z<|aL ..,sF λy c=>h y<|aN _ c];lia
theorem OF{g:ag->Ps}{t:Int}{c:Int}:∀{T:List<|ag×Int},(T.map Prod.fst).Nodup->(∀z∈T,cS (g z.1) o t=if z.1=o then 1 else 0)->(o,c)∈T->cS (Tk g T) o t=-c
 | [],_,_,h=>nomatch h
 | z::T,nd,h,hm=>by
  have d:z.1∉T.map Prod.fst/\(T.map Prod.fst).Nodup:=cT.mp nd;rw[o4,h z<|aL ..]
  rcases bD.mp hm with e|e
  ·subst e;rw[aK rfl,sF λy f=>?_]
   ·lia
   ·rw[h y<|aN _ f,aI];exact λz=>d.1<|by rw[<- z];exact aV.mpr ⟨y,f,rfl⟩
  ·have j:z.1≠o:=λq=>d.1 (by rw[q];exact aV.mpr ⟨_,e,rfl⟩);rw[aI j,OF d.2 (λy f=>h y<|aN _ f) e];lia
structure Tks (n k:Nat)(f:Ps)(g:ag->Ps)(T:List (ag×Int)):Prop where
 nd:(T.map Prod.fst).Nodup
 mem:∀z∈T,z.1.Perm (rg n)/\lK z.1 k=true/\z.2=cS f z.1 1/\z.2≠0
 all:∀o,o.Perm (rg n)->lK o k=true->cS f o 1≠0->(o,cS f o 1)∈T
 kep:∀z∈T,Kept n z.1<|g z.1
abbrev sR (k:Nat)(f:Ps)(g:ag->Ps)(T:List<|ag×Int):Ps:=bx k f++(Ny [((1:Int),(1:Int))] f++Tk g T)
def Cg{n k:Nat}{f:Ps}{g:ag->Ps}(J:∀x∈f,x.1.Perm<|rg n)(h0:1<=k)(h1:k<n){o:ag}(U:o.Perm<|rg n)(t:Int):cS (sR k f g T) o t=X k (cS f) o t+cS f o (t-1)+cS (Tk g T) o t:=by
 unfold sR;rw[nR,nR,Vn J h0 h1 o U t,A3];show _+(cv [((1:Int),(1:Int))] (cS f o) t+_)=_;rw[abB];lia
def Kept.QV{n k:Nat}{w:ag}{f:Ps}{g:ag->Ps}(pw:w.Perm<|rg n)(d:Dn n w k)(hf:Kept n (Wd.ex w k) f)(U:Tks n k f g T):Kept n w (sR k f g T):=by
 have iv:=d.iv;have G:∀z∈T,Lo n (Wd.ex w k) z.1/\Iv.inv z.1<Iv.inv (Wd.ex w k):=λz j=>by
  obtain⟨a,b,c,e⟩:=U.mem z j;have l:=hf.lo z.1 a 1 (by rw[<- c];exact e);refine⟨l,?_⟩
  rcases l.2 with q|q
  ·rw[q,d.fe]at b;cases b
  ·exact q
 have fw:∀t,cS f w t=0:=λt=>by
  by_cases c:cS f w t=0
  ·exact c
  ·have:=(hf.lo w pw t c).le;lia
 have L:∀t,cS (Tk g T) w t=0:=λt=>sF λz j=>by
  by_cases c:cS (g z.1) w t=0
  ·exact c
  ·have:=((U.kep z j).lo w pw t c).le;have:=(G z j).2
   lia
 refine⟨λx K=>?_,λo p t=>?_,λt=>?_,λo p M t J=>?_,λo p t z=>?_⟩
 ·rcases bz.mp K with z|z
  ·exact Ks d.h0 d.h1 hf.pm x z
  ·rcases bz.mp z with z|z
   ·obtain⟨y,B,rfl⟩:=aV.mp z;exact hf.pm y B
   ·exact abf (λz j=>(U.kep z j).pm) x z
 ·rw[Cg hf.pm d.h0 d.h1 p];unfold sR;rw[Bf,Bf,Du];show Bt n (bx k f) o t+(cv (turn [((1:Int),(1:Int))]) (Bt n f o) t+Bt n (Tk g T) o t)=_;rw[show turn [((1:Int),(1:Int))]=[((-1:Int),(1:Int))]from rfl,acJ,Z9 d.h0 d.h1 hf.pm o p t,YS hf.bar d.h0 d.h1 o p t,hf.bar o p<|t+1,RW (λz j=>(U.kep z j).bar) o p t];show X k (cS f) o t-(cS f o (t+1)-cS f o (t-1))+_=_
  lia
 ·rw[Cg hf.pm d.h0 d.h1 pw,fw,L];unfold X dl;rw[aK d.fw,fw,fw,hf.me]
  lia
 ·rw[Cg hf.pm d.h0 d.h1 p];have D:=oG p d.h0 d.h1;have lo:o.length=n:=by rw[p.length_eq,Wd.jR]
  have C:Wd.ex o k≠Wd.ex w k:=λz=>M (by rw[<- d.ee,<- z,Fw.sA d.h0<|by rw[lo];exact d.h1]);have e1:cS f (Wd.ex o k) t=0:=hf.sm _ D C t J;have go:t<0->cS (Tk g T) o t=0:=λh=>sF λz j=>by
   by_cases c:o=z.1
   ·rw[c,(U.kep z j).me];exact aI ()
   ·exact(U.kep z j).sm o p c t J
  have g0:∀z∈T,cS (g z.1) o 0=if z.1=o then 1 else 0:=λz j=>by
   by_cases c:z.1=o
   ·rw[aK c,<- c,(U.kep z j).me];rfl
   ·rw[aI c];exact(U.kep z j).sm o p (λq=>c q.symm) 0 (le_refl _)
  unfold X dl;rw[e1];by_cases m:lK o k=true
  ·have N:o≠Wd.ex w k:=λz=>by rw[z,d.fe]at m;cases m
   rw[aK m];by_cases h0:t=0
   ·subst h0;by_cases c:cS f o 1=0
    ·rw[show(0:Int)+1=1 from rfl,c,sF λz j=>?_]
     ·lia
     ·rw[g0 z j,aI];intro q;obtain⟨_,_,a,b⟩:=U.mem z j;rw[q,c]at a;exact b a
    ·rw[OF U.nd g0<|U.all o p m c,show(0:Int)+1=1 from rfl];lia
   ·rw[hf.sm o p N (t+1) (),go ()];lia
  ·rw[aI m];have e2:cS f o (t-1)=0:=by
    by_cases c:o=Wd.ex w k
    ·rw[c,hf.me];exact aI ()
    ·exact hf.sm o p c _ ()
   rw[e2];by_cases h0:t=0
   ·subst h0;rw[sF λz j=>?_]
    ·rfl
    ·rw[g0 z j,aI];intro q;exact m<|by rw[<- q];exact(U.mem z j).2.1
   ·rw[go ()];rfl
 ·rw[Cg hf.pm d.h0 d.h1 p]at z;have D:=oG p d.h0 d.h1;have lo:o.length=n:=by rw[p.length_eq,Wd.jR]
  by_cases c1:cS f (Wd.ex o k) t=0
  ·by_cases c2:cS f o (t+1)=0
   ·by_cases c3:cS f o (t-1)=0
    ·have F:cS (Tk g T) o t≠0:=λF=>z (by unfold X dl;rw[c1,c2,c3,F];split<;>rfl);by_cases q:∃y∈T,cS (g y.1) o t≠0
     ·obtain⟨y,B,q⟩:=q;exact VS (yP d (G y B).1) ((U.kep y B).lo o p t q)
     ·exact absurd (sF λy B=>e_ λh=>q ⟨y,B,h⟩) F
    ·exact yP d<|hf.lo o p _ c3
   ·exact yP d<|hf.lo o p _ c2
  ·have:=Qt d (hf.lo _ D t c1)
   rwa [Fw.sA d.h0<|by rw[lo];exact d.h1]at this
end Kl
namespace Kl
open Su Po He
open Fw (rg)
structure Nd (D:Ps):Prop where
 nd:(D.map Prod.fst).Nodup
 np:∀e∈D,(e.2.map Prod.fst).Nodup
def IE{D:Ps}(h:(D.map Prod.fst).Nodup){e:ag×Pl}(J:e∈D)(t:Int):cS D e.1 t=cf e.2 t:=by
 induction D with
 | nil=>cases J
 | cons x D c=>
  have nd:x.1∉D.map Prod.fst/\(D.map Prod.fst).Nodup:=cT.mp h;show(if x.1=e.1 then cf x.2 t else 0)+cS D e.1 t=_
  rcases bD.mp J with z|z
  ·subst z;rw[aK rfl,w_ λy d q=>nd.1<|by rw[<- q];exact aV.mpr ⟨y,d,rfl⟩,b6]
  ·rw[aI λq=>nd.1<|by rw[q];exact aV.mpr ⟨e,z,rfl⟩,bV];exact c nd.2 z
theorem Nd.val{D:Ps}(h:Nd D){e:ag×Pl}(J:e∈D)(t:Int):val e.2 t=cS D e.1 t:=by rw[IE h.nd J,yz<|h.np e J]
def Nd.has{D:Ps}{t:Int}(h:cS D o t≠0):∃e∈D,e.1=o:=e_ λq=>h<|w_ λe c z=>q ⟨e,c,z⟩
abbrev Tl (q:ag->Bool)(l:Ps):List (ag×Int):=(l.filter λe=>decide (val e.2 1≠0) && q e.1).map λe=>(e.1,val e.2 1)
def N6{n k:Nat}{f:Ps}{g:ag->Ps}(h:Nd f)(J:∀x∈f,x.1.Perm<|rg n)(q:ag->Bool)(hg:∀e∈f,q e.1=true->Kept n e.1 (g e.1)) :
  ((Tl q f).map Prod.fst).Nodup/\(∀z∈Tl q f,z.1.Perm (rg n)/\q z.1=true/\z.2=cS f z.1 1/\z.2≠0)/\(∀o,o.Perm (rg n)->q o=true->cS f o 1≠0->(o,cS f o 1)∈Tl q f)/\∀z∈Tl q f,Kept n z.1 (g z.1):=by
 have j:∀z∈Tl q f,∃e∈f,z=(e.1,val e.2 1)/\val e.2 1≠0/\q e.1=true:=λz d=>by
  obtain⟨e,c,rfl⟩:=aV.mp d;obtain⟨a,b⟩:=bK.mp c;rw[c7]at b;exact⟨e,a,rfl,bQ b.1,b.2⟩
 refine⟨?_,λz d=>?_,λo p m hc=>?_,λz d=>?_⟩
 ·unfold Tl;rw[bq];exact iZ (jj _ iP) h.nd
 ·obtain⟨e,c,rfl,a,b⟩:=j z d;exact⟨J e c,b,h.val c 1,a⟩
 ·obtain⟨e,c,rfl⟩:=Nd.has hc;refine aV.mpr ⟨e,bK.mpr ⟨c,?_⟩,by rw[h.val c]⟩;rw[c7];exact⟨bg<|by rw[h.val c];exact hc,m⟩
 ·obtain⟨e,c,rfl,a,b⟩:=j z d;exact hg e c b
def abn{D:Ps}(h:Gd D):Nd D:=⟨h.nd,λe c=>(h.ok e c).nd⟩
theorem ET{n k:Nat}{g:ag->Ps}(o:ag)(t:Int):∀{l told:Ps},(∀x∈told,x.1.Perm<|rg n)->(∀e∈l,∀x∈g e.1,x.1.Perm<|rg n)->cS (l.foldl (step k g) told) o t=cS told o t+cS (Tk g<|Tl (λu=>lK u k) l) o t
 | [],told,_,_=>(b6 _).symm
 | e::l,told,h,h'=>by
  have h2:∀x∈l,∀y∈g x.1,y.1.Perm (rg n):=λx d=>h' x<|aN _ d;rw[dG];unfold Tl;by_cases c:val e.2 1≠0/\lK e.1 k=true
  ·rw[show step k g told e=wH told (CK [((0:Int),-val e.2 1)]<|g e.1)from aK c,bY,aK<|by rw[c7];exact⟨bg c.1,c.2⟩,bE,o4];obtain⟨_,p2,p3⟩:=zH h (Eh (p:=[((0:Int),-val e.2 1)])<|h' e<|aL ..).2;rw[ET o t p2 h2,p3,EM];show cS told o t+cv [((0:Int),-val e.2 1)] (cS (g e.1) o) t+_=_;rw[MT];show cS told o t+-val e.2 1 * cS (g e.1) o t+cS (Tk g<|Tl (λu=>lK u k) l) o t=cS told o t+(-val e.2 1 * cS (g e.1) o t+cS (Tk g<|Tl (λu=>lK u k) l) o t);exact dD _ _ _
  ·rw[show step k g told e=told from aI c,bY,aI λz=>c<|by rw[c7]at z;exact⟨bQ z.1,z.2⟩];exact ET o t h h2
def ID{n:Nat}(hn:n<6):∀(i:Nat) {w:ag},w.Perm (rg n)->Iv.inv w=i->Kept n w (K w):=by
 intro i
 induction i using Nat.strongRecOn with
 | ind i m=>
  intro w f L
  cases hf:ff w with
  | none=>
   rw[Fi hf,FI f hf];have e:=Bm n;refine⟨Ql n,XA n,λt=>?_,λo p G t _=>?_,λo p t z=>?_⟩
   ·show cS (one n) _ t=_;rw[e];exact aK rfl
   ·show cS (one n) _ t=_;rw[e];exact aI G
   ·have z:cS (one n) o t≠0:=z;rw[e]at z;unfold D at z;by_cases c:o=rg n
    ·exact⟨p,.inl c⟩
    ·rw[aI c]at z;exact absurd rfl z
  | some k=>
   have d:=yN f hf;have iv:=d.iv;have sz:=GA hn d.pe;have C:=m (Iv.inv<|Wd.ex w k) () d.pe rfl;have hg:∀e∈K (Wd.ex w k),Kept n e.1 (K e.1):=λe j=>by
    have l:=HX d.pe e j;have:=l.le;exact m _ () l.1 rfl
   obtain⟨F,J,B,q⟩:=N6 (n:=n) (k:=k) (g:=K) (abn sz.cn.gd) sz.pm (λu=>lK u k) λe j _=>hg e j;refine Kept.eq f (Kept.QV (g:=K) f d C ⟨F,J,B,q⟩) (GA hn f).pm λo p t=>?_;have fs:=zH (Ks d.h0 d.h1 sz.pm) (Eh (p:=[((1:Int),(1:Int))]) sz.pm).2;rw[Jg f hf,ET (n:=n) (told:=first k (K<|Wd.ex w k)) o t fs.2.1 λe j=>(hg e j).pm,Cg sz.pm d.h0 d.h1 p];refine dB (λz=>z+cS (Tk K<|Tl (λu=>lK u k)<|K<|Wd.ex w k) o t) ?_;show cS (wH (bx k<|K<|Wd.ex w k)<|CK [(1,1)]<|K<|Wd.ex w k) o t=_;rw[fs.2.2,EM];show cS (bx k<|K<|Wd.ex w k) o t+cv [((1:Int),(1:Int))] (cS (K<|Wd.ex w k) o) t=_;rw[Vn sz.pm d.h0 d.h1 o p t,abB]
def Oz{n k:Nat}{w:ag}(J:w.Perm<|rg n)(a:1<=k)(b:k<n)(c:lK w k=true):Dn n w k:=by
 have d:w.length=n:=by rw[J.length_eq,Wd.jR]
 refine⟨a,b,c,oG J a b,Fw.t8 a () (by have:=bQ c;lia),Fw.sA a (),?_⟩;rw[OU J a b,c];rfl
def Kept.aaL{n k:Nat}{w:ag}{f m:Ps}{g:ag->Ps}{T:List<|ag×Int}(pw:w.Perm<|rg n)(h0:1<=k)(h1:k<n)(hk:lK (bk w) k=true)(hf:Kept n (w.map<|Wd.sw k) f)
  (nd:(T.map Prod.fst).Nodup) (mem:∀z∈T,z.1.Perm (rg n)/\lK (bk z.1) k=true/\z.2=cS f z.1 1/\z.2≠0) (all:∀o,o.Perm (rg n)->lK (bk o) k=true->cS f o 1≠0->(o,cS f o 1)∈T) (kep:∀z∈T,Kept n z.1<|g z.1)
  (pm:∀x∈m,x.1.Perm<|rg n) (hm:∀o,o.Perm (rg n)->∀t,cS m o t=L k (cS f) o t+cS f o (t-1)+cS (Tk g T) o t):Kept n w m:=by
 have ps:=CU pw h0 h1;have V:∀x∈wb f,x.1.Perm (rg n):=(hf.back ps).pm;have K:Kept n (Wd.ex (bk w) k) (wb f):=by rw[<- Gn pw h0 h1];exact hf.back ps
 have d:=Oz (kX pw) h0 h1 hk;have D:∀u,u.Perm (rg n)->∀t,cS (wb f) u t=cS f (bk u) t:=λu C t=>yT C t hf.pm;have M:Tks n k (wb f) (λu=>wb<|g<|bk u) (T.map λz=>(bk z.1,z.2)):=by
  refine⟨?_,λz q=>?_,λo F O hc=>?_,λz q=>?_⟩
  ·rw[bq];have G:T.Pairwise λa b=>a.1≠b.1:=cB.mp nd;refine cB.mpr<|G.imp_of_mem λ{a b} ha hb hab z=>hab ?_;have:bk (bk a.1)=bk (bk b.1):=dB bk z
   rwa [n8 (mem a ha).1,n8 (mem b hb).1]at this
  ·obtain⟨y,j,rfl⟩:=aV.mp q;obtain⟨a,b,c,e⟩:=mem y j;exact⟨kX a,b,by rw[D _<|kX a,n8 a];exact c,e⟩
  ·rw[D o F]at hc ⊢;have:=all (bk o) (kX F) (by rw[n8 F];exact O) hc;exact aV.mpr ⟨_,this,by show(bk<|bk o,_)=_;rw[n8 F]⟩
  ·obtain⟨y,j,rfl⟩:=aV.mp q;have J:=(mem y j).1;show Kept n (bk y.1) (wb<|g<|bk<|bk y.1);rw[n8 J];exact(kep y j).back J
 have kr:=(Kept.QV (kX pw) d K M).back<|kX pw;rw[n8 pw]at kr;refine kr.eq pw pm λo p t=>?_;have pb:=kX p;have pr:=(Kept.QV (kX pw) d K M).pm;rw[hm o p t,yT p t pr,Cg V h0 h1 pb];have e1:X k (cS<|wb f) (bk o) t=L k (cS f) o t:=by
  have a:mh n (cS<|wb f) (B<|cS f):=λu C s=>D u C s;rw[O4 a h0 h1 _ pb t];have b:=B_X h0 h1 (B<|cS f) o p t;have c:mh n (B<|B<|cS f) (cS f):=λu C s=>by show cS f (bk<|bk u) s=_;rw[n8 C]
  rw[Zb c h0 h1 o p t]at b;exact b
 have e2:∀{U:List<|ag×Int},(∀z∈U,z.1.Perm (rg n)/\∀x∈g z.1,x.1.Perm<|rg n)->cS (Tk (λu=>wb<|g<|bk u)<|U.map λz=>(bk z.1,z.2)) (bk o) t=cS (Tk g U) o t:=by
  intro U
  induction U with
  | nil=>intro _;rfl
  | cons z U P=>
   intro h;obtain⟨N,W⟩:=h z<|aL ..;rw[bE,o4,o4,P λy j=>h y<|aN _ j];show -z.2 * cS (wb<|g<|bk<|bk z.1) (bk o) t+_=_;rw[n8 N,yT pb t W,n8 p]
 rw[e1,D _ pb,n8 p,e2 λz q=>⟨(mem z q).1,(kep z q).pm⟩]
abbrev shl (s:Int)(p:Pl):Pl:=p.map λq=>(q.1+s,q.2)
theorem Ir(s t:Int):∀p:Pl,cf (shl s p) t=cf p (t-s)
 | []=>rfl
 | q::p=>by
  show(if q.1+s=t then q.2 else 0)+cf (shl s p) t=(if q.1=t-s then q.2 else 0)+cf p (t-s);rw[Ir s t p];congr 1;by_cases c:q.1+s=t
  ·rw[aK c,aK ()]
  ·rw[aI c,aI ()]
abbrev vJ (k:Nat)(o:ag):Bool:=lK (bk o) k
abbrev TZ (k:Nat)(e:ag×Pl):Ps:=[(e.1.map<|Wd.sw k,e.2),(e.1,shl (if vJ k e.1=true then -1 else 1) e.2)]
theorem Lp{n k:Nat}(h0:1<=k)(h1:k<n){o:ag}(J:o.Perm<|rg n)(t:Int):∀{f:Ps},(∀x∈f,x.1.Perm<|rg n)->cS (f.flatMap<|TZ k) o t=L k (cS f) o t+cS f o (t-1)
 | [],_=>by
  show(0:Int)=L k (λ_ _=>0) o t+0;unfold L dl;dsimp only;split<;>rfl
 | e::f,pf=>by
  have g:=Lp h0 h1 J t (f:=f) λx d=>pf x<|aN _ d;have m:=pf e<|aL ..;rw[fG,nR,g,EU,ab0];show(if e.1.map (Wd.sw k)=o then cf e.2 t else 0)+((if e.1=o then cf (shl (if vJ k e.1=true then -1 else 1) e.2) t else 0)+0)+_=L k (D e.1<|cf e.2) o t+L k (cS f) o t+(D e.1 (cf e.2) o (t-1)+cS f o (t-1));rw[L_D (cf e.2) m h0 h1 o J t,Ir];unfold D dl;have e1:(if e.1.map (Wd.sw k)=o then cf e.2 t else 0)=if o=e.1.map (Wd.sw k)then cf e.2 t else 0:=by
   by_cases c:e.1.map (Wd.sw k)=o
   ·rw[aK c,aK c.symm]
   ·rw[aI c,aI λz=>c z.symm]
  rw[e1];unfold vJ;by_cases c:e.1=o
  ·subst c;by_cases c2:lK (bk e.1) k=true
   ·dsimp[c2,dg,aK];rw[Int.sub_neg]
    lia
   ·dsimp[aI c2,dg,aK]
    lia
  ·have j:¬o=e.1:=λz=>c z.symm;dsimp[aI c,aI j];split<;>lia
abbrev B7 (k:Nat)(g:ag->Ps)(e:ag×Pl):Ps:=TZ k e++if val e.2 1≠0/\vJ k e.1=true then Ny [((0:Int),-val e.2 1)] (g e.1)else[]
theorem KU{k:Nat}{g:ag->Ps}(o:ag)(t:Int):∀f:Ps,cS (f.flatMap<|B7 k g) o t=cS (f.flatMap<|TZ k) o t+cS (Tk g<|Tl (vJ k) f) o t
 | []=>rfl
 | e::f=>by
  rw[fG,fG,nR,nR,KU o t f];unfold B7 Tl;rw[nR,bY];by_cases c:val e.2 1≠0/\vJ k e.1=true
  ·rw[aK c,aK<|by rw[c7];exact⟨bg c.1,c.2⟩,bE,EA,nR];show _+cS (Ny [((0:Int),-val e.2 1)]<|g e.1) o t+(_+cS (Tk g<|Tl (vJ k) f) o t)=_+_+(cS (Ny [((0:Int),-val e.2 1)]<|g e.1) o t+cS (Tk g<|Tl (vJ k) f) o t)
   lia
  ·rw[aI c,aI λz=>c<|by rw[c7]at z;exact⟨bQ z.1,z.2⟩];show _+0+(_+cS (Tk g<|Tl (vJ k) f) o t)=_+_+cS (Tk g<|Tl (vJ k) f) o t
   lia
structure LK (n:Nat)(w:ag)(m:Ps):Prop extends Nd m where
 kp:Kept n w m
 nz:∀e∈m,∀q∈e.2,q.2≠0
 ne:∀e∈m,e.2≠[]
def LK.step{n k:Nat}{w:ag}{f m:Ps}(hn:n<6)(J:w.Perm<|rg n)(h0:1<=k)(h1:k<n)(U:vJ k w=true)(hf:LK n (w.map<|Wd.sw k) f)(nd:Nd m)(nz:∀e∈m,∀q∈e.2,q.2≠0)(ne:∀e∈m,e.2≠[])(pm:∀x∈m,x.1.Perm<|rg n)
  (hm:∀o,o.Perm (rg n)->∀t,cS m o t=cS (f.flatMap<|B7 k K) o t):LK n w m:=by
 obtain⟨d,j,C,p⟩:=N6 (n:=n) (k:=k) (g:=K) hf.toNd hf.kp.pm (vJ k) λe B _=>ID hn _ (hf.kp.pm e B) rfl;exact⟨nd,Kept.aaL (g:=K) J h0 h1 U hf.kp d j C p pm λo c t=>by rw[hm o c t,KU,Lp h0 h1 c t hf.kp.pm],nz,ne⟩
def LK.K{n:Nat}{w:ag}(hn:n<6)(J:w.Perm<|rg n)(h:LK n w m):mh n (cS m) (cS<|Kl.K w):=h.kp.uniq<|ID hn _ J rfl
theorem vC{q:Int×Int}:∀{p:Pl},(p.map Prod.fst).Nodup->q∈p->val p q.1=q.2
 | [],_,h=>nomatch h
 | x::p,np,hq=>by
  have nd:x.1∉p.map Prod.fst/\(p.map Prod.fst).Nodup:=cT.mp np;rw[oq]
  rcases bD.mp hq with z|z
  ·rw[z,aK rfl]
  ·rw[aI λc=>nd.1<|by rw[c];exact aV.mpr ⟨q,z,rfl⟩];exact vC nd.2 z
def LK.b{n:Nat}{w:ag}{m:Ps}(hn:n<6)(U:w.Perm<|rg n)(h:LK n w m){e:ag×Pl}(J:e∈m){q:Int×Int}(hq:q∈e.2):q.2.natAbs<=Cb 10/\q.1.natAbs<=10:=by
 have sz:=(GA hn U).fb;have d:=h.kp.pm e J;have v:=vC (h.np e J) hq;rw[h.toNd.val J,h.K hn U _ d]at v;rw[<- v];refine⟨sz.c _ d _,?_⟩
 rcases gh 10 q.1.natAbs with z|z
 ·have:=sz.p _ d _ z;rw[v]at this;exact absurd this (h.nz e J q hq)
 ·exact z
def LK.many{n:Nat}{w:ag}{m:Ps}(hn:n<6)(h:LK n w m):m.length<=120:=by
 have:=He.many hn h.nd λo c=>by obtain⟨e,d,rfl⟩:=aV.mp c;exact h.kp.pm e d
 rwa [aH]at this
def LK.len{n:Nat}{w:ag}{m:Ps}(hn:n<6)(U:w.Perm<|rg n)(h:LK n w m){e:ag×Pl}(J:e∈m):e.2.length<=21:=by
 have:=He.Cz (L:=(List.range 21).map λi:Nat=>(i:Int)-10) (h.np e J) λx d=>by
  obtain⟨q,c,rfl⟩:=aV.mp d;have:=(h.b hn U J c).2;exact aV.mpr ⟨(q.1+10).toNat,cM.mpr (),()⟩
 rwa [aH,aH,b8]at this
def LK.one{n:Nat}{w:ag}(hn:n<6)(J:w.Perm<|rg n)(h:w=rg n):LK n w [(w,[((0:Int),(1:Int))])]:=by
 have hf:ff w=none:=by
  cases hf:ff w with
  | none=>rfl
  | some k=>obtain⟨a,b,c⟩:=E5 hf;rw[h,Oi a<|by rwa [h,Wd.jR]at b]at c;cases c
 have:=ID hn _ J rfl;rw[Fi hf]at this;exact⟨⟨by simp,λe d=>by rw[aQ.mp d];simp⟩,this,λe d q f=>by rw[aQ.mp d]at f;rw[aQ.mp f];decide,λe d=>by rw[aQ.mp d];exact λz=>nomatch z⟩
end Kl
namespace Kl
open Su Po He
open Fw (rg)
def yM{D:Ps}(h:(D.map Prod.fst).Nodup)(o:ag)(t:Int):cS D o t=cf (vS D o) t:=by
 rcases qI (D:=D) (o:=o)with⟨e,c,e1,e2⟩|⟨e1,e2⟩
 ·rw[e2,<- e1];exact IE h c t
 ·rw[e2];exact w_ λe c z=>e1<|by rw[<- z];exact aV.mpr ⟨e,c,rfl⟩
def JE{D:Ps}{p:Pl}(h:(D.map Prod.fst).Nodup):((yi D o p).map Prod.fst).Nodup:=by
 rw[CA];split
 ·exact h
 ·rename_i c;rw[dw];refine⟨h,by simp,λa d b f e=>?_⟩;rw[aQ.mp f]at e;exact c<|Rf.mpr<|by rw[<- e];exact d
def UD{D:Ps}{p:Pl}(h:(D.map Prod.fst).Nodup)(u:ag)(t:Int):cS (yi D o p) u t=if u=o then cf p t else cS D u t:=by
 rw[yM<|JE h,P7];split
 ·rfl
 ·rw[yM h]
def _root_.Su.Ap.put2{D:Es}{r:Nat}{p:Pl}(h:Ap D)(J:∀e∈D,e.1≠o->e.2.1≠r):Ap (l_ D o r p):=by
 unfold l_;split
 ·refine cB.mpr<|h.imp_of_mem λ{a b} d f hab=>?_;by_cases c:a.1=o
  ·rw[aK c];have c2:b.1≠o:=λz=>hab.1<|c.trans z.symm;rw[aI c2];exact⟨hab.1,λz=>J b f c2 z.symm⟩
  ·rw[aI c];by_cases c2:b.1=o
   ·rw[aK c2];exact⟨hab.1,λz=>J a d c z⟩
   ·rw[aI c2];exact hab
 ·rename_i hn;have no:∀e∈D,e.1≠o:=λe g z=>hn (by unfold fE;rw[f7];exact⟨e,g,bg z⟩);refine b9.mpr ⟨h,bZ _ _,λa d b f=>?_⟩;rw[aQ.mp f];exact⟨no a d,J a d<|no a d⟩
def P6{D:Es}{r:Nat}{p:Pl}{e:En}(h:e∈l_ D o r p):(e∈D/\e.1≠o)\/e=(o,r,p):=by
 unfold l_ at h;split at h
 ·obtain⟨f,hf,rfl⟩:=aV.mp h;by_cases c:f.1=o
  ·rw[aK c,c];exact .inr rfl
  ·rw[aI c];exact .inl ⟨hf,c⟩
 ·rename_i hn
  rcases bz.mp h with z|z
  ·exact .inl ⟨z,λc=>hn<|by unfold fE;rw[f7];exact⟨e,z,bg c⟩⟩
  ·exact .inr<|aQ.mp z
theorem R_(s m:Int)(t:Int):∀p:Pl,cf (p.map λq=>(q.1+s,m * q.2)) t=m * cf p (t-s)
 | []=>(eg m).symm
 | q::p=>by
  show(if q.1+s=t then m * q.2 else 0)+cf (p.map _) t=m * ((if q.1=t-s then q.2 else 0)+cf p (t-s));rw[R_ s m t p,iJ];congr 1;by_cases c:q.1+s=t
  ·rw[aK c,aK ()]
  ·rw[aI c,aI (),eg]
def Tt{d:Pl}(h:(d.map Prod.fst).Nodup)(t:Int):cf (o_ d ps) t=cf d t+cf ps t:=by
 rw[<- yz (sI ps h),uE,yz h]
theorem JD(t:Int):∀p:Pl,cf (p.filter λq=>q.2 != 0) t=cf p t
 | []=>rfl
 | q::p=>by
  rw[bY];show _=(if q.1=t then q.2 else 0)+cf p t;by_cases c:q.2=0
  ·rw[aI<|by simp[c],JD t p,c,ite_self,bV]
  ·rw[aK<|by simp[c]];show(if q.1=t then q.2 else 0)+cf (p.filter _) t=_;rw[JD t p]
def Oq{p:Pl}(h:(p.map Prod.fst).Nodup){i:Nat}{q:Int×Int}(J:p[i]?=some q):(p.take<|i+1).filter (λq=>q.2 != 0)=if q.2≠0 then put ((p.take i).filter λq=>q.2 != 0) q.1 q.2 else(p.take i).filter λq=>q.2 != 0:=by
 rw[cC,J,List.filter_append];show _++[q].filter _=_;by_cases c:q.2=0
 ·rw[aI<|by simp[c]];simp[c]
 ·rw[aK c];have k:has ((p.take i).filter λq=>q.2 != 0) q.1=false:=by
   rw[Bool.eq_false_iff];intro z;obtain⟨f,hf,e⟩:=aV.mp<|sH.mp z;have d:=(bK.mp hf).1;obtain⟨j,g⟩:=dX.mp d;have lt:j<i:=by
    have:=(aG.mp g).1;rw[bU]at this;lia
   rw[d_ lt]at g;have e1:(p.map Prod.fst)[j]?=some q.1:=by rw[aO,g,<- e];rfl
   have e2:(p.map Prod.fst)[i]?=some q.1:=by rw[aO,J];rfl
   obtain⟨C,t⟩:=aG.mp e1;obtain⟨B,m⟩:=aG.mp e2;have:=(cK h).mp (t.trans m.symm)
   lia
  unfold put;rw[aI<|by rw[k];exact bI];simp[c]
abbrev GP (D:Ps):Ps:=(D.map λe=>(e.1,e.2.filter λq=>q.2 != 0)).filter λe=>!e.2.isEmpty
theorem O_(o:ag)(t:Int):∀D:Ps,cS (GP D) o t=cS D o t
 | []=>rfl
 | e::D=>by
  have c:=O_ o t D;unfold GP at c ⊢;rw[bE,bY];show _=(if e.1=o then cf e.2 t else 0)+cS D o t
  cases hf:e.2.filter (λq=>q.2 != 0)with
  | nil=>
   rw[aI<|by simp,c,<- JD t e.2,hf];show _=(if e.1=o then 0 else 0)+_;rw[ite_self,bV]
  | cons q l=>
   rw[aK<|by simp];show(if e.1=o then cf (q::l) t else 0)+cS _ o t=_;rw[c,<- hf,JD t e.2]
def XQ{D:Ps}(h:Nd D):Nd (GP D):=by
 refine⟨?_,λe c=>?_⟩
 ·have:((D.map λe=>(e.1,e.2.filter λq=>q.2 != 0)).map Prod.fst)=D.map Prod.fst:=by rw[bq];rfl
  exact iZ (jj _ iP)<|by rw[this];exact h.nd
 ·obtain⟨f,hf,rfl⟩:=aV.mp (bK.mp c).1;exact iZ (jj _ iP)<|h.np f hf
def W_{D:Ps}:∀e∈GP D,∀q∈e.2,q.2≠0:=λe d q c=>by
 obtain⟨f,hf,rfl⟩:=aV.mp (bK.mp d).1;have:=(bK.mp c).2;simpa using this
def XX{D:Ps}:∀e∈GP D,e.2≠[]:=λe c z=>by
 have:=(bK.mp c).2;rw[z]at this;cases this
def Yl{D:Ps}{P:ag->Prop}(h:∀e∈D,P e.1):∀e∈GP D,P e.1:=λe c=>by
 obtain⟨f,hf,rfl⟩:=aV.mp (bK.mp c).1;exact h f hf
def Ku(a b:Ps):GP (a++b)=GP a++GP b:=by unfold GP;rw[bN,List.filter_append]
end Kl
namespace K40
open PySem L2 Am
def DF{s:Src}{xs:ae}{src:Ic}{t:Te}{e:Ex}(hs:src τ S=.ok s S1)(U:s.k=xs.length)(b:Nat->Prop)(hg:∀T,Kp b S1 T->∀i:Nat,i<xs.length->s.get i T=xs[i]?)(J:∀T,Kp b S1 T->s.fin T=true)(p:A->Bool)(f:A->A)
  (step:∀x∈xs,∀T,Kp b S1 T->∃T1,t (x::lN cap τ) T=.ok (p x) T1/\Kp b T T1/\(p x=true->∃T2,e (x::lN cap τ) T1=.ok (f x) T2/\Kp b T1 T2)) (hl:xs.length<=16777216) :
  ∃S',kF (none::cap) src (kh 0) t e τ S=.ok (.ref S'.length) (S'++[.lst<|(xs.filter p).map f])/\Kp b S1 S':=by
 have C:∀i,i<xs.length->xs.getD i .unb∈xs:=λi c=>by
  rw[aJ,aF c];exact dZ c
 obtain⟨S',h1,h2⟩:=vg (s:=s) (g:=kh 0) (t:=t) (e:=e) (P:=λT=>Kp b S1 T) (T:=λd=>∃y,d=y::lN cap τ) (λi=>xs.getD i .unb) (λi=>p<|xs.getD i .unb) (λi=>f<|xs.getD i .unb) (λi T c h=>by
   rw[U]at c;rw[hg T h i c,aJ,aF c];rfl) J
  (λi d T c D h=>by
   obtain⟨y,rfl⟩:=D;rw[U]at c;obtain⟨T1,e1,j,q⟩:=step _ (C i c) T h;refine⟨xs.getD i .unb::lN cap τ,T,T1,rfl,e1,⟨_,rfl⟩,λ_=>h.trans j,λm=>?_⟩;obtain⟨T2,e2,B⟩:=q m;exact⟨T2,e2,(h.trans j).trans B⟩) s.k 0 (lN (none::cap) τ) S1 rfl ⟨_,rfl⟩ Kp.refl
 refine⟨S',?_,h2⟩;unfold kF;rw[hs,R.mF,h1,R.lB,U,<- gc,nk xs p f .unb];refine kZ ?_;rw[aH];exact bG (cG _ _) hl
open Po (Pl Ok iv)
open Su (Es En)
open Fw (rg)
def Rl{S:jD}{a:Nat}{p d:Pl}{s m:Int}{q:Int×Int}{z:A}(J:kj S h=some (iv d))(U:j8 S a=some (iv p))(lk:k_ (iv p) q.1=some (.int q.2))(hl:d.length<16777216)(hm:m.natAbs<big)(hq:q.2.natAbs<big) :
  rm [.ref M,o',.ref a,.int s,.int m,.ref h,.int q.1] S=.nx [.ref M,o',.ref a,.int s,.int m,.ref h,.int q.1] (S.set h<|.nG<|iv<|Po.acc d (q.1+s)<|m * q.2):=by
 unfold rm;dsimp[ki,bools,zg,EY,J,dH,xJ,Po.Be,wX,U,lk,ab1 hm hq,zZ,xB,tX<|show(iv d).length<16777216 by rw[EJ];exact hl,Po.xX];rfl
def NJ{T:jD}{a:Nat}{p d0:Pl}{s m:Int}(J:j8 T a=some (iv p))(hh:kj T h=some (iv d0))(U:h≠a)(np:(p.map Prod.fst).Nodup)(hl:d0.length+p.length<16777216)(hm:m.natAbs<big)(hp:∀q∈p,q.2.natAbs<big) :
  ∃(y:A) (T':jD),lO uD (kh 6) rm [.ref M,o',.ref a,.int s,.int m,.ref h,z] T=.nx [.ref M,o',.ref a,.int s,.int m,.ref h,y] T'/\kj T' h=some (iv<|Po.o_ d0<|p.map λq=>(q.1+s,m * q.2))/\Kp (·=h) (T.set a<|.dkf<|iv p) T':=by
 obtain⟨T1,c⟩:∃T1,T1=T.set a (O.dkf<|iv p):=⟨_,rfl⟩;rw[<- c];have t:j8 T1 a=some (iv p):=by rw[c];exact GL J
 have h1:kj T1 h=some (iv d0):=qX (by rw[c,bL<|cV U];exact lY hh);refine u_ (xs:=p.map λq=>A.int q.1) (S1:=T1) (show uD _ _=_ from by rw[c];exact Kr (by dsimp[ki,bools]) J) (λi τ S=>∃y,τ=[.ref M,o',.ref a,.int s,.int m,.ref h,y]/\kj S h=some (iv<|Po.o_ d0<|(p.take i).map λq=>(q.1+s,m * q.2))/\Kp (·=h) T1 S)
  (λr=>∃y T',r=.nx [.ref M,o',.ref a,.int s,.int m,.ref h,y] T'/\kj T' h=some (iv<|Po.o_ d0<|p.map λq=>(q.1+s,m * q.2))/\Kp (·=h) T1 T') ⟨_,rfl,h1,Kp.refl⟩ ?_ ?_
 ·rintro i C τ S g ⟨y,rfl,hS,kp⟩;rw[aO]at g;obtain⟨q,e,rfl⟩:=aX.mp g;have f:=aW e;have k:j8 S a=some (iv p):=(kp.kz (Q:=λ_=>True)).Ss (λz=>U z.symm) t;have j:k_ (iv p) q.1=some (.int q.2):=by rw[Po.sj<|aV.mpr ⟨q,f,rfl⟩,Kl.vC np f]
  have d:=Po.oF ((p.take i).map λq=>(q.1+s,m * q.2)) d0;have B:=(aG.mp e).1;rw[aH,bU]at d;refine⟨[.ref M,o',.ref a,.int s,.int m,.ref h,.int q.1],S,rfl,.inl ⟨_,_,Rl (z:=y) hS k j () hm<|hp q f,⟨_,rfl,?_,kp.yZ<|.inl rfl⟩⟩⟩;rw[EL<|Dj hS,cC,e,bN,Po.xF];rfl
 ·rintro τ S ⟨y,rfl,hS,kp⟩;rw[aH,cL]at hS;exact⟨y,S,rfl,hS,kp⟩
def UJ{T:jD}{c a:Nat}{D:Es}{o:ag}{p:Pl}{s m:Int}(h:Md T M c D)(ha:j8 T a=some (iv p))(na:¬ow M D a)(np:(p.map Prod.fst).Nodup)(l21:p.length<=21)(hm:m.natAbs<big)(hp:∀q∈p,q.2.natAbs<big)(hD:D.length<16777216)(hc:c+21<16777216) :
  ∃(T':jD) (D':Es),mO [.ref M,.tup<|o.map .int,.ref a,.int s,.int m] T=.ok .non T'/\Md T' M (c+21) D'/\(∀u t,Su.cS (Su.sm D') u t=Su.cS (Su.sm D) u t+if o=u then m * Po.cf p (t-s)else 0)/\(∀e∈D',e.1=o\/∃f∈D,f.1=e.1)/\(∀x,ow M D' x->ow M D x\/T.length<=x)/\Kz (ow M D) (·≠a) T T':=by
 obtain⟨T1,B⟩:∃T1,T1=T++[O.nG []]:=⟨_,rfl⟩;have G:l7 T T1:=by rw[B];ksr_p
 have n1:kj T1 T.length=some (iv []):=by rw[B];exact uG
 have a1:j8 T1 a=some (iv p):=(G.kz (Q:=λ_=>True)).Ss (λz=>z) ha;have alt:=Aq ha;have Mlt:=Su.mH h.dd;have F:((Su.sm D).map Prod.fst).Nodup:=by
  have:=h.ap.nd
  rwa [show(Su.sm D).map Prod.fst=D.map Prod.fst from by unfold Su.sm;rw[bq];rfl]
 obtain⟨j,d0,g1,g2,g3,g4,g5,g6,P⟩:∃(j:Nat) (d0:Pl),(kK (D.map Su.kv) o).getD (.ref T.length)=.ref j/\kj T1 j=some (iv d0)/\(d0.map Prod.fst).Nodup/\d0.length<=c/\(∀t,Po.cf d0 t=Su.cS (Su.sm D) o t)/\(∀e∈D,e.1≠o->e.2.1≠j)/\(j=T.length\/∃e∈D,e.2.1=j):=by
  cases hf:Su.fE D o with
  | none=>
   refine⟨T.length,[],by rw[Su.oR,hf];rfl,n1,dP,bP _,λt=>?_,λe d _=>bF<|Dj<|h.aa e d,.inl rfl⟩;rw[Kl.yM F,Su.GG,hf];rfl
  | some e=>
   obtain⟨d,rfl⟩:=Su.pZ hf;refine⟨e.2.1,e.2.2,by rw[Su.oR,hf];rfl,G.dk _ _ (λz=>z)<|h.aa e d,h.np e d,h.ln e d,λt=>?_,λf W Y=>h.ap.at f W e d Y,.inr ⟨e,d,rfl⟩⟩;rw[Kl.yM F,Su.GG,hf];rfl
 have Z:j≠a:=by
  rcases P with z|z
  ·lia
  ·exact λq=>na<|.inr<|by rw[<- q];exact z
 have L:j≠M:=by
  rcases P with z|⟨e,d,z⟩
  ·lia
  ·rw[<- z];exact yx h.dd<|yf<|h.aa e d
 have aM:a≠M:=yx h.dd ha;obtain⟨y,T3,x3,d3,N⟩:=NJ (M:=M) (o':=.tup<|o.map .int) (z:=.unb) a1 g2 Z np () hm hp (s:=s);obtain⟨T2,k⟩:∃T2,T2=T1.set a (O.dkf<|iv p):=⟨_,rfl⟩;rw[<- k]at N;have z1:Kz (ow M D) (·≠a) T T1:=G.of0.kz;have z2:Kz (ow M D) (·≠a) T T2:=by rw[k];exact z1.fzK a1 (.inl λz=>z rfl)
 have z3:Kz (ow M D) (·≠a) T T3:=z2.old (N.kz (Q:=λ_=>True)) (λn hn g e=>by
  rcases P with z|z
  ·lia
  ·exact g<|.inr<|by rw[e];exact z) λ_ _ _=>trivial
 have M2:jX T2 M=some (D.map Su.kv):=r9 (by rw[k,bL aM];exact l8<|G.dct _ _ (λz=>z) h.dd);have M3:jX T3 M=some (D.map Su.kv):=N.dct _ _ (cV L) M2;obtain⟨J,g⟩:∃J,J=Po.o_ d0 (p.map λq=>(q.1+s,m * q.2)):=⟨_,rfl⟩;rw[<- g]at d3;obtain⟨K,C⟩:∃K,K=T3.set M (O.dct<|(Su.l_ D o j J).map Su.kv):=⟨_,rfl⟩;have st:xT (.ref M) (.tup<|o.map .int) (.ref j) T3=.ok Unit.unit K:=by
  rw[Su.r8,M3,jT,Su.BK (p:=J),C];exact tX<|show(D.map Su.kv).length<16777216 by rw[aH];exact hD
 have U:Kp (·=M) T3 K:=by rw[C];exact Kp.refl.yZ (.inl rfl)
 refine⟨K,Su.l_ D o j J,?_,⟨by rw[C];exact Su.vt<|Su.mH M3,λe d=>?_,h.ap.put2 g6,λe d=>?_,λe d=>?_⟩,λu t=>?_,λe d=>?_,λx hx=>?_,z3.old (U.kz (Q:=λ_=>True)) (λn _ hn e=>hn<|.inl e) λ_ _ _=>trivial⟩
 ·unfold mO yg yJ;dsimp[ki,bools,mK,Nat.reduceAdd,Nat.reduceSub,Dy,abk<|u7 h.dd,sC,<- B,Of,u7<|G.dct _ _ (λz=>z) h.dd,g1,x3,Su.tH,st]
 ·rcases Kl.P6 d with⟨z,Y⟩|z
  ·have e1:=h.aa e z;have V:e.2.1≠a:=λq=>na<|.inr ⟨e,z,q⟩;have e2:kj T2 e.2.1=some (iv e.2.2):=qX (by rw[k,bL<|cV V];exact lY<|G.dk _ _ (λz=>z) e1);have e3:=N.dk _ _ (g6 e z Y) e2;exact U.dk _ _ (yx M3<|yf e3) e3
  ·rw[z];exact U.dk _ _ L d3
 ·rcases Su.nM d with z|z
  ·exact h.np e z
  ·rw[z,g];exact Po.sI _ g3
 ·rcases Su.nM d with z|z
  ·exact bG (h.ln e z) ()
  ·rw[z];show J.length<=_;have:=Po.oF (p.map λq=>(q.1+s,m * q.2)) d0;rw[aH]at this;rw[g];lia
 ·rw[Su.E_,Kl.UD F];by_cases c:u=o
  ·rw[aK c,aK c.symm,g,Kl.Tt g3,Kl.R_,c,g5]
  ·rw[aI c,aI λz=>c z.symm,b6]
 ·rcases Su.nM d with z|z
  ·exact .inr ⟨e,z,rfl⟩
  ·rw[z];exact .inl rfl
 ·rcases hx with z|⟨e,d,z⟩
  ·exact .inl (.inl z)
  ·rcases Su.nM d with q|q
   ·exact .inl (.inr ⟨e,q,z⟩)
   ·rw[q]at z;have z:j=x:=z
    rcases P with w|w
    ·right;lia
    ·left;right;rw[<- z];exact w
def Xq{T:jD}{a:Nat}{p:Pl}(ha:j8 T a=some (iv p))(np:(p.map Prod.fst).Nodup)(hl:p.length<16777216) :
  ∃(T':jD),kC [.ref a] T=.ok (.ref T.length) T'/\kj T' T.length=some (iv<|p.filter λq=>q.2 != 0)/\Kz (λ_=>False) (·≠a) T T':=by
 obtain⟨T1,f⟩:∃T1,T1=T++[O.nG []]:=⟨_,rfl⟩;have D:l7 T T1:=by rw[f];ksr_p
 have W:kj T1 T.length=some (iv []):=by rw[f];exact uG
 have k:j8 T1 a=some (iv p):=(D.kz (Q:=λ_=>True)).Ss (λz=>z) ha;have Y:=Aq ha;obtain⟨T2,d⟩:∃T2,T2=T1.set a (O.dkf<|iv p):=⟨_,rfl⟩;have V:j8 T2 a=some (iv p):=by rw[d];exact GL k
 have N:kj T2 T.length=some (iv []):=qX (by rw[d,bL ()];exact lY W);have g:∃(y:A) (T':jD),lO l9 (kh 2) lZ [.ref a,.ref T.length,.unb] T1=.nx [.ref a,.ref T.length,y] T'/\kj T' T.length=some (iv<|p.filter λq=>q.2 != 0)/\Kp (·=T.length) T2 T':=by
  refine u_ (xs:=p.map λq=>A.int q.1) (S1:=T2) (show l9 _ _=_ from by rw[d];exact Kr (by dsimp[ki,bools]) k) (λi τ S=>∃y,τ=[.ref a,.ref T.length,y]/\kj S T.length=some (iv<|(p.take i).filter λq=>q.2 != 0)/\Kp (·=T.length) T2 S)
   (λr=>∃y T',r=.nx [.ref a,.ref T.length,y] T'/\kj T' T.length=some (iv<|p.filter λq=>q.2 != 0)/\Kp (·=T.length) T2 T') ⟨_,rfl,N,Kp.refl⟩ ?_ ?_
  ·rintro i Z τ S G ⟨y,rfl,hS,kp⟩;rw[aO]at G;obtain⟨q,t,rfl⟩:=aX.mp G;have J:=aW t;have C:j8 S a=some (iv p):=(kp.kz (Q:=λ_=>True)).Ss () V;have B:k_ (iv p) q.1=some (.int q.2):=by rw[Po.sj<|aV.mpr ⟨q,J,rfl⟩,Kl.vC np J]
   have F:((p.take i).filter λq=>q.2 != 0).length<=p.length:=by
    have h1:=cG (λq:Int×Int=>q.2 != 0)<|p.take i;rw[bU]at h1;lia
   refine⟨[.ref a,.ref T.length,.int q.1],S,rfl,.inl ?_⟩;have j:=Kl.Oq np t;unfold lZ;by_cases c:q.2=0
   ·have m:(q.2 == 0)=true:=beq_iff_eq.mpr c;rw[aI λz=>z c]at j;refine⟨[.ref a,.ref T.length,.int q.1],S,?_,_,rfl,by rw[j];exact hS,kp⟩;dsimp[ki,qe,bools,wX,C,B,m,cI]
   ·have m:(q.2 == 0)=false:=c8.mpr c;rw[aK c]at j;refine⟨[.ref a,.ref T.length,.int q.1],_,?_,_,rfl,?_,kp.yZ (o:=.nG<|iv<|Po.put ((p.take i).filter λq=>q.2 != 0) q.1 q.2)<|.inl rfl⟩
    ·dsimp[ki,qe,bools,wX,C,B,m,c5,zZ,xB,hS,tX<|show(iv<|(p.take i).filter λq=>q.2 != 0).length<16777216 by rw[EJ];lia,Po.xX]
    ·rw[EL<|Dj hS,j]
  ·rintro τ S ⟨y,rfl,hS,kp⟩;rw[aH,cL]at hS;exact⟨y,S,rfl,hS,kp⟩
 obtain⟨y,T3,U,P,L⟩:=g;have K:Kz (λ_=>False) (·≠a) T T1:=D.kz;have M:Kz (λ_=>False) (·≠a) T T2:=by rw[d];exact K.fzK k (.inl λz=>z rfl)
 refine⟨T3,?_,P,M.old (L.kz (Q:=λ_=>True)) (λn hn _ e=>()) λ_ _ _=>trivial⟩;unfold kC mS mU;dsimp[ki,bools,mK,Nat.reduceAdd,Nat.reduceSub,sC,<- f,U]
def OS(k:Nat)(x:Int):(k_ (rV [((k:Int),A.int<|(k:Int)+1)] ((k:Int)+1)<|.int k) x).getD (.int x)=.int (Wd.sw k x):=by
 have e:rV [((k:Int),A.int<|(k:Int)+1)] ((k:Int)+1) (.int k)=iv [((k:Int),(k:Int)+1),((k:Int)+1,(k:Int))]:=by
  have:=Po.xX [((k:Int),(k:Int)+1)] ((k:Int)+1) k;refine Eq.trans this<|dB iv ?_;unfold Po.put;rw[aI<|by simp[Po.has];lia];rfl
 rw[e,Po.zW];unfold Wd.sw;by_cases c:x=k
 ·subst c;rw[aK rfl,cg,bg<|show((k:Int),(k:Int)+1).1=(k:Int)from rfl];rfl
 ·by_cases d:x=(k:Int)+1
  ·subst d;rw[aI c,aK rfl,cg,bA<|show ¬((k:Int),(k:Int)+1).1=(k:Int)+1 from λz=>c z.symm,cg,bg<|show((k:Int)+1,(k:Int)).1=(k:Int)+1 from rfl];rfl
  ·rw[aI c,aI d];simp[show ¬(k:Int)=x from λz=>c z.symm,show ¬(k:Int)+1=x from λz=>d z.symm]
abbrev swA (k:Nat)(x:A):A:=match x with
 | .int i=>.int (Wd.sw k i)
 | v=>v
def PN{o:ag}{k:Nat}(J:o.length<=1000):∃T',lW [.tup<|o.map .int,.int k] T=.ok (.tup<|(o.map<|Wd.sw k).map .int) T'/\l7 T T':=by
 obtain⟨c,e1,d⟩:=DF (s:=nW<|o.map .int) (xs:=o.map .int) (cap:=[some 1]) (src:=lV<|jB 0) (t:=oW) (e:=Ft wZ (Up (jB 1) (jO mE (jB 1)<|eC<|.int 1) (jO mE (jB 1)<|eC<|.int 1)<|jB 1)<|jA (jB 0)<|jA (jB 0) jL) (τ:=[.tup<|o.map .int,.int k]) (S:=T) (S1:=T)
  (RB<|by dsimp[ki,bools]) rfl (λ_=>False) (λ_ _ _ _=>rfl) (λ_ _=>rfl) (λ_=>true) (swA k) (λx f U _=>by
   obtain⟨i,_,rfl⟩:=aV.mp f;refine⟨U,rfl,Kp.refl,λ_=>⟨U++[.nG<|rV [((k:Int),A.int<|(k:Int)+1)] ((k:Int)+1)<|.int k],?_,Kp.refl.lay⟩⟩;have r:j8 (U++[O.nG<|rV [((k:Int),A.int<|(k:Int)+1)] ((k:Int)+1)<|.int k]) U.length=some (rV [((k:Int),A.int<|(k:Int)+1)] ((k:Int)+1)<|.int k):=yf uG;dsimp[ki,bools,Dy,Vh,VT r,GU,r,OS];rfl) (by rw[aH];lia)
 have e2:((o.map A.int).filter λ_=>true).map (swA k)=(o.map<|Wd.sw k).map .int:=by
  rw[dm.mpr λ_ _=>rfl,bq,bq];rfl
 rw[e2]at e1;refine⟨c++[.lst<|(o.map<|Wd.sw k).map .int],?_,d.lay⟩;have g:jE (c++[O.lst<|(o.map<|Wd.sw k).map .int]) c.length=some ((o.map<|Wd.sw k).map .int):=jW;unfold lW rK rL;dsimp[ki,bools,mK,Nat.reduceAdd,Nat.reduceSub,e1,g]
def eix{co:Ex}{d:qc}{o:ag}{v:Int}(h1:co τ S=.ok (.tup<|o.map .int) S)(h2:d τ S=.ok [.int v] S)(h:v∈o):Bu co d τ S=.ok (.int (o.idxOf v:Nat)) S:=by
 have e:o.findIdx? (· == v)=some (o.idxOf v):=by
  cases hf:o.findIdx? (· == v)with
  | none=>
   rw[List.findIdx?_eq_none_iff]at hf;have:=hf v h;simp at this
  | some k=>rw[<- (List.findIdx?_eq_some_iff_findIdx_eq.mp hf).2];rfl
 have e2:(o.map A.int).findIdx? (λz=>eqF z<|.int v)=some (o.idxOf v):=by
  rw[List.findIdx?_map];exact e
 have c:(o.map A.int).all A.flat=true:=by rw[jn];exact dY.mpr λ_ _=>rfl
 unfold Bu;rw[h1,R.mF];show opt (some<|o.map A.int) _=_;rw[jT,h2,R.mF];unfold Xr;rw[show A.seq S (.tup<|o.map .int)=some (o.map .int)from rfl];dsimp[jT,pN<|show A.flat (.int v)=true/\(o.map A.int).all A.flat=true from⟨rfl,c⟩,e2]
def WA{N k:Nat}{o:ag}(J:o.Perm<|rg N)(h0:1<=k)(h1:k<N):decide (((o.idxOf (k:Int):Nat):Int)>((o.idxOf ((k:Int)+1):Nat):Int))=Kl.vJ k o:=by
 have lo:=mC J;unfold Kl.vJ Su.lK;have g:∀i,i<N->(He.bk o).getD i 0=((o.idxOf ((i:Int)+1):Nat):Int)+1:=λi c=>by
  unfold He.bk;rw[aJ,aO,dU ()];rfl
 rw[g (k-1) (),g k (),show((k-1:Nat):Int)+1=k by lia];exact gu.mpr ()
def Mj{N:Nat}{o:ag}(J:o.Perm<|rg N){v:Int}(h1:1<=v)(h2:v<=N):v∈o:=J.mem_iff.mpr<|pO.mpr ()
abbrev QT (N:Nat)(o:ag):ag:=(lJ 1 (N:Int)).filter λk=>Kl.vJ k.toNat o
def Vt{S:jD}{N:Nat}{o:ag}(J:o.Perm<|rg N)(U:N<=20):kF [none,some 0] (vI (eC<|.int 1)<|jZ (f1 tu)<|jA (jB 0) jL) (kh 0) (wV<|jO Sw (Bu (jB 1)<|jA (jB 0) jL)<|Bu (jB 1)<|jA (jO mE (jB 0)<|eC<|.int 1) jL) (jB 0) (.tup (o.map .int)::cap) S=.ok (.ref S.length) (S++[.lst<|(QT N o).map .int]):=by
 have lo:=mC J;have g:=Hx (lo:=1) (hi:=(N:Int)) (cap:=[some 0]) (src:=vI (eC<|.int 1)<|jZ (f1 tu)<|jA (jB 0) jL) (t:=wV<|jO Sw (Bu (jB 1)<|jA (jB 0) jL)<|Bu (jB 1)<|jA (jO mE (jB 0)<|eC<|.int 1) jL) (e:=jB 0) (τ:=.tup (o.map .int)::cap) (S:=S) (S1:=S)
  (F5 (S1:=S) (by dsimp[ki,bools]) (by dsimp[ki,bools,aH,lo]) (A5 () ())<|A5 () ())
  (λk=>Kl.vJ k.toNat o) (λk=>.int k) (λk h1 h2=>by
   have d:=WA J (k:=k.toNat) () ();rw[Int.toNat_of_nonneg ()]at d;have f:=eix (co:=jB 1) (d:=jA (jB 0) jL) (τ:=[.int k,.tup<|o.map .int]) (S:=S) (v:=k) (by dsimp[ki,bools]) (by dsimp[ki,bools])<|Mj J () ();have c:=eix (co:=jB 1) (d:=jA (jO mE (jB 0)<|eC<|.int 1) jL) (τ:=[.int k,.tup<|o.map .int]) (S:=S) (v:=k+1) (by dsimp[ki,bools]) (by dsimp[ki,bools])<|Mj J () ();show wV _ [.int k,.tup<|o.map .int] S=_;dsimp[ki,bools,f,c,d]) (λk _ _ _=>by dsimp[ki,bools]) ()
 rw[g];rfl
end K40
namespace K40
open PySem L2 Am
open Po (Pl Ok iv)
open Su (Es En)
open Fw (rg)
def VW{D:Es}(nd:(D.map Prod.fst).Nodup){e:En}(J:e∈D):Su.fE D e.1=some e:=by
 obtain⟨f,hf⟩:=Su.GF<|aV.mpr ⟨e,J,rfl⟩;rw[hf];obtain⟨a,b⟩:=Su.pZ hf;obtain⟨i,d⟩:=dX.mp a;obtain⟨j,c⟩:=dX.mp J;have e1:(D.map Prod.fst)[i]?=some e.1:=by rw[aO,d,<- b];rfl
 have e2:(D.map Prod.fst)[j]?=some e.1:=by rw[aO,c];rfl
 obtain⟨p,k⟩:=aG.mp e1;obtain⟨m,g⟩:=aG.mp e2;have:=(cK nd).mp<|k.trans g.symm;subst this;rw[d]at c;exact c
def w4(D:Es):(Su.sm D).map Prod.fst=D.map Prod.fst:=by unfold Su.sm;rw[bq];rfl
structure Kw (N:Nat)(Q:Nat->Prop)(T:jD)(d:Nat)(K:Es):Prop where
 dd:jX T d=some (K.map Su.kv)
 nd:(K.map Prod.fst).Nodup
 pm:∀e∈K,e.1.Perm (rg N)
 at_:∀e∈K,∃es,Rw (λx=>Q x\/x=d) T e.2.1 es/\Kl.LK N e.1 (Su.sm es)
def Kw.go{N d:Nat}{Q G P Q':Nat->Prop}{T:jD}{K:Es}(h:Kw N Q T d K)(k:Kz P Q' T T')(J:∀n,n<T.length->P n->Q n)(hg:∀n,n<T.length->G n->Q n)(U:¬P d)(qd:Q' d):Kw N G T' d K:=
 ⟨k.dct U qd h.dd,h.nd,h.pm,λe f=>by
  obtain⟨es,a,b⟩:=h.at_ e f;exact⟨es,a.go k (λn c z=>.inl<|J n c z) λn c z=>z.imp (hg n c) id,b⟩⟩
def Kw.many{N d:Nat}{Q:Nat->Prop}{K:Es}(J:N<6)(h:Kw N Q T d K):K.length<=120:=by
 have:=He.many J h.nd λo c=>by
  obtain⟨e,f,rfl⟩:=aV.mp c;exact h.pm e f
 rwa [aH]at this
def Kw.put{N d r:Nat}{Q:Nat->Prop}{K:Es}{o:ag}(hN:N<6)(h:Kw N Q T d K)(po:o.Perm<|rg N)(U:Rw (λx=>Q x\/x=d) T r es)(J:Kl.LK N o<|Su.sm es) :
  ∃T' K',xT (.ref d) (.tup<|o.map .int) (.ref r) T=.ok Unit.unit T'/\Kw N Q T' d K'/\Rw (λx=>Q x\/x=d) T' r es/\Kp (·=d) T T':=by
 have k:Kp (·=d) T (T.set d<|.dct<|(Su.l_ K o r []).map Su.kv):=Kp.refl.yZ<|.inl rfl;have dd:jX (T.set d<|.dct<|(Su.l_ K o r []).map Su.kv) d=some ((Su.l_ K o r []).map Su.kv):=Su.vt<|Su.mH h.dd;have f:=h.many hN;have go:∀{s:Nat} {fs:Es},Rw (λx=>Q x\/x=d) T s fs->Rw (λx=>Q x\/x=d) (T.set d<|.dct<|(Su.l_ K o r []).map Su.kv) s fs:=λa=>a.go (k.kz (Q:=λ_=>True)) (λ_ _ z=>.inr z) λ_ _ z=>z;refine⟨_,Su.l_ K o r [],?_,⟨dd,?_,λe J=>?_,λe c=>?_⟩,go U,k⟩
 ·rw[Su.r8,h.dd,jT,Su.BK (p:=[])];exact tX (show(K.map Su.kv).length<16777216 by rw[aH];lia)
 ·have:=Kl.JE (o:=o) (p:=[]) (by rw[w4];exact h.nd:((Su.sm K).map Prod.fst).Nodup)
  rwa [<- Su.E_ (r:=r),w4]at this
 ·rcases Su.nM J with z|z
  ·exact h.pm e z
  ·rw[z];exact po
 ·rcases Su.nM c with z|z
  ·obtain⟨fs,a,b⟩:=h.at_ e z;exact⟨fs,go a,b⟩
  ·rw[z];exact⟨es,go U,J⟩
structure Kin (N:Nat)(Q:Nat->Prop)(d M:Nat)(S0 T:jD)(c:Nat)(D K:Es):Prop where
 md:Md T M c D
 kw:Kw N (λx=>Q x\/ow M D x) T d K
 pm:∀e∈D,e.1.Perm (rg N)
 fr:Kz (λx=>x=d) Q S0 T
 ml:∀x,ow M D x->S0.length<=x
 dl:d<S0.length
 ql:∀x,Q x->x<S0.length
 qd:¬Q d
abbrev Gm (Q:Nat->Prop)(d M:Nat)(D:Es)(x:Nat):Prop:=(Q x\/ow M D x)\/x=d
section
variable {N d M c:Nat}{Q:Nat->Prop}{S0 T:jD}{D K:Es}
def Kin.many(J:N<6)(h:Kin N Q d M S0 T c D K):D.length<=120:=by
 have:=He.many J h.md.ap.nd λo f=>by
  obtain⟨e,g,rfl⟩:=aV.mp f;exact h.pm e g
 rwa [aH]at this
def Kin.go{Q':Nat->Prop}(h:Kin N Q d M S0 T c D K)(k:Kz (λ_=>False) Q' T T')(J:∀x,x<T.length->Gm Q d M D x->Q' x):Kin N Q d M S0 T' c D K/\∀r es,Rw (Gm Q d M D) T r es->Rw (Gm Q d M D) T' r es:=by
 have dT:d<T.length:=Su.mH h.kw.dd;refine⟨⟨h.md.kz k λx e=>⟨λz=>z,J x (h.md.Qu e)<|.inl<|.inr e⟩,h.kw.go k (λ_ _ z=>z.elim) (λ_ _ z=>z) (λz=>z)<|J d dT<|.inr rfl,h.pm,h.fr.old k (λ_ _ _ z=>z) λn g z=>J n (bO g h.fr.len)<|.inl<|.inl z,h.ml,h.dl,h.ql,h.qd⟩,λr es f=>f.go k (λ_ _ z=>z.elim) λ_ _ z=>z⟩
def Kin.lay(h:Kin N Q d M S0 T c D K)(o:O):Kin N Q d M S0 (T++[o]) c D K/\∀r es,Rw (Gm Q d M D) T r es->Rw (Gm Q d M D) (T++[o]) r es:=
 h.go (Q':=λ_=>True) (Kp.refl.lay).kz λ_ _ _=>trivial
def Kin.uy(h:Kin N Q d M S0 T c D K)(k:l7 T T'):Kin N Q d M S0 T' c D K/\∀r es,Rw (Gm Q d M D) T r es->Rw (Gm Q d M D) T' r es:=
 h.go (Q':=λ_=>True) k.kz λ_ _ _=>trivial
def Kin.fz{r:Nat}{es:Es}(h:Kin N Q d M S0 T c D K)(J:Rw (Gm Q d M D) T r es):Kin N Q d M S0 (T.set r<|.dcf<|es.map Su.kv) c D K/\∀s fs,Rw (Gm Q d M D) T s fs->Rw (Gm Q d M D) (T.set r<|.dcf<|es.map Su.kv) s fs:=
 h.go (Q':=λx=>x≠r) (Kz.refl.fzD J.l<|.inl λz=>z rfl) λx _ z e=>J.q<|by rw[<- e];exact z
def Kin.put{a:Nat}{o:ag}{p:Pl}{s m:Int}(hN:N<6)(h:Kin N Q d M S0 T c D K)(po:o.Perm<|rg N)(ha:j8 T a=some (iv p))(na:¬Gm Q d M D a)(np:(p.map Prod.fst).Nodup)(U:p.length<=21)(hm:m.natAbs<big)(hp:∀q∈p,q.2.natAbs<big)(hc:c+21<16777216) :
  ∃(T':jD) (D':Es),mO [.ref M,.tup<|o.map .int,.ref a,.int s,.int m] T=.ok .non T'/\Kin N Q d M S0 T' (c+21) D' K/\(∀u t,Su.cS (Su.sm D') u t=Su.cS (Su.sm D) u t+if o=u then m * Po.cf p (t-s)else 0)/\∀r es,Rw (Gm Q d M D) T r es->Rw (Gm Q d M D') T' r es:=by
 obtain⟨T',D',e1,J,c1,O,k,j⟩:=UJ (o:=o) (s:=s) (m:=m) h.md ha (λz=>na<|.inl<|.inr z) np U hm hp (by have:=h.many hN;lia) hc;have C:d≠a:=λz=>na<|.inr z.symm;have nd:¬ow M D d:=λz=>by have:=h.ml d z;have:=h.dl;lia
 have B:∀n,n<T.length->ow M D' n->ow M D n:=λn g z=>(k n z).elim id λq=>absurd g ();refine⟨T',D',e1,⟨J,h.kw.go j (λ_ _ z=>.inr z) (λn g z=>z.imp id<|B n g) nd C,λe F=>?_,h.fr.old j (λn g _ z=>by have:=h.ml n z;lia) λn _ z e=>na<|.inl<|.inl<|by rw[<- e];exact z,λx L=>?_,h.dl,h.ql,h.qd⟩,c1,λr es G=>G.go j (λ_ _ z=>.inl<|.inr z) λn g z=>z.imp (λq=>q.imp id<|B n g) id⟩
 ·rcases O e F with z|⟨f,hf,z⟩
  ·rw[z];exact po
  ·rw[<- z];exact h.pm f hf
 ·rcases k x L with z|z
  ·exact h.ml x z
  ·have:=h.fr.len;lia
abbrev Fnw (N d f:Nat)(Fs:ae->jD->R A):Prop:=∀(Q:Nat->Prop) (T:jD) (K:Es) (o:ag),Iv.inv o<f->o.Perm (rg N)->Kw N Q T d K->(∀x,Q x->x<T.length)->¬Q d ->
  ∃(r:Nat) (c:jD) (g e:Es),Fs [.tup<|o.map .int,.ref d] T=.ok (.ref r) c/\Kw N Q c d g/\Rw (λx=>Q x\/x=d) c r e/\Kl.LK N o (Su.sm e)/\Kz (λx=>x=d) Q T c
def Kin.aaz{f:Nat}{Fs:ae->jD->R A}{o:ag}(J:Fnw N d f Fs)(h:Kin N Q d M S0 T c D K)(hf:Iv.inv o<f)(U:o.Perm<|rg N) :
  ∃(r:Nat) (T':jD) (K' rs:Es),Fs [.tup<|o.map .int,.ref d] T=.ok (.ref r) T'/\Kin N Q d M S0 T' c D K'/\Rw (Gm Q d M D) T' r rs/\Kl.LK N o (Su.sm rs)/\∀s es,Rw (Gm Q d M D) T s es->Rw (Gm Q d M D) T' s es:=by
 have nd:¬ow M D d:=λz=>by have:=h.ml d z;have:=h.dl;lia
 obtain⟨r,T',K',rs,e1,j,r1,m,e⟩:=J _ T K o hf U h.kw (λx z=>z.elim (λq=>by have:=h.ql x q;have:=h.fr.len;lia) h.md.Qu) λz=>z.elim h.qd nd;exact⟨r,T',K',rs,e1,⟨h.md.kz e λx g=>⟨λz=>nd<|by rw[<- z];exact g,.inr g⟩,j,h.pm,h.fr.old e (λ_ _ z=>z) λ_ _ z=>.inl z,h.ml,h.dl,h.ql,h.qd⟩,r1,m,λs es k=>k.go e (λ_ _ z=>.inr z) λ_ _ z=>z⟩
end
end K40
namespace K40
open PySem L2 Am
open Po (Pl Ok iv)
open Su (Es En)
open Fw (rg)
def ZT{N:Nat}{w:ag}{m:Su.Ps}(J:N<6)(U:w.Perm<|rg N)(h:Kl.LK N w m){e:ag×Pl}(he:e∈m)(t:Int):(Po.val e.2 t).natAbs<=Kl.Cb 10:=by
 have d:=h.kp.pm e he;rw[h.toNd.val he,h.K J U _ d];exact(Kl.GA J U).fb.c _ d _
def Vi{p:Pl}{t:Int}(h:Po.val p t≠0):t∈p.map Prod.fst:=by
 rw[<- Po.sH]
 cases c:Po.has p t with
 | true=>rfl
 | false=>exact absurd (Po.Jm c) h
def ue{N:Nat}{w:ag}{J:Es}(h:Kl.LK N w<|Su.sm J){e:En}(U:e∈J):(e.1,e.2.2)∈Su.sm J:=aV.mpr ⟨e,U,rfl⟩
def yR{N:Nat}{w:ag}{J:Es}(h:Kl.LK N w<|Su.sm J):(J.map Prod.fst).Nodup:=by rw[<- w4];exact h.nd
def Fq{r:Nat}{es:Es}{e:En}(h:kW T r=some (es.map Su.kv))(nd:(es.map Prod.fst).Nodup)(J:e∈es):w6 (.ref r) (.tup<|e.1.map .int) T=.ok (.ref e.2.1) T:=by
 rw[Mc,h,jT,Su.oR,VW nd J];rfl
section
variable {N d M c:Nat}{Q:Nat->Prop}{S0 T:jD}{D K bs:Es}
def Kin.l_{R:Nat}{U:Es}{w o:ag}{e:En}{s m:Int}(hN:N<6)(h:Kin N Q d M S0 T c D K)(pw:w.Perm<|rg N)(po:o.Perm<|rg N)(hr:Rw (Gm Q d M D) T R U)(J:Kl.LK N w<|Su.sm U)(he:e∈U)(hm:m.natAbs<big)(hc:c+21<16777216) :
  ∃(T':jD) (D':Es),mO [.ref M,.tup<|o.map .int,.ref e.2.1,.int s,.int m] T=.ok .non T'/\Kin N Q d M S0 T' (c+21) D' K/\(∀u t,Su.cS (Su.sm D') u t=Su.cS (Su.sm D) u t+if o=u then m * Po.cf e.2.2 (t-s)else 0)/\∀r es,Rw (Gm Q d M D) T r es->Rw (Gm Q d M D') T' r es:=by
 obtain⟨a,b⟩:=hr.a e he;have f:=ue J he;exact h.put hN po a b (J.np _ f) (J.len hN pw f) hm (λq g=>cX (J.b hN pw f g).1 v9) hc
def YN{B:Nat}{Fs:ae->jD->R A}{e:En}{w o:ag}(hN:N<6)(h:Kin N Q d M S0 T c D K)(pw:w.Perm<|rg N)(po:o.Perm<|rg N)(hb:Rw (Gm Q d M D) T B bs)(lb:Kl.LK N w<|Su.sm bs)(he:e∈bs)(h0:Po.val e.2.2 1≠0)(hr:Rw (Gm Q d M D) T W rs)(lk:Kl.LK N o<|Su.sm rs)(hc:c+21 * 120<16777216) :
  ∃(y:A) (T':jD) (D':Es),lO (qf Fs) (kh 9) (qt Fs) [x0,.ref d,x2,.ref M,x4,.ref B,.tup<|e.1.map .int,x7,.ref W,x9,x10,x11] T=.nx [x0,.ref d,x2,.ref M,x4,.ref B,.tup<|e.1.map .int,x7,.ref W,y,x10,x11] T'/\Kin N Q d M S0 T' (c+21 * 120) D' K/\(∀u t,Su.cS (Su.sm D') u t=Su.cS (Su.sm D) u t+-Po.val e.2.2 1 * Su.cS (Su.sm rs) u t)/\∀r es,Rw (Gm Q d M D) T r es->Rw (Gm Q d M D') T' r es:=by
 obtain⟨h1,q⟩:=h.fz hr;obtain⟨T1,g⟩:∃T1,T1=T.set W (O.dcf<|rs.map Su.kv):=⟨_,rfl⟩;rw[<- g]at h1 q;have J:=lk.many hN;rw[Su.pW]at J;have vb:=ZT hN pw lb (ue lb he) 1;refine u_ (xs:=rs.map λe=>.tup<|e.1.map .int) (S1:=T1) (show qf Fs _ _=_ from by rw[g];exact Ei (by dsimp[ki,bools]) hr.l)
  (λi τ S=>∃(y:A) (D':Es),τ=[x0,.ref d,x2,.ref M,x4,.ref B,.tup<|e.1.map .int,x7,.ref W,y,x10,x11]/\Kin N Q d M S0 S (c+21 * i) D' K/\(∀u t,Su.cS (Su.sm D') u t=Su.cS (Su.sm D) u t+-Po.val e.2.2 1 * Su.cS (Su.sm<|rs.take i) u t)/\∀r es,Rw (Gm Q d M D) T r es->Rw (Gm Q d M D') S r es)
  (λr=>∃(y:A) (T':jD) (D':Es),r=.nx [x0,.ref d,x2,.ref M,x4,.ref B,.tup<|e.1.map .int,x7,.ref W,y,x10,x11] T'/\Kin N Q d M S0 T' (c+21 * 120) D' K/\(∀u t,Su.cS (Su.sm D') u t=Su.cS (Su.sm D) u t+-Po.val e.2.2 1 * Su.cS (Su.sm rs) u t)/\∀r es,Rw (Gm Q d M D) T r es->Rw (Gm Q d M D') T' r es)
  ⟨_,D,rfl,h1,λu t=>by rw[eV];show _=_+_ * (0:Int);rw[eg,b6],q⟩ ?_ ?_
 ·rintro i z τ S C ⟨y,D',rfl,hS,cS,j⟩;rw[aO]at C;obtain⟨f,hf,rfl⟩:=aX.mp C;have k:=aW hf;have Y:=(aG.mp hf).1;have rS:=j _ _ hr;have p:=j _ _ hb;obtain⟨T2,G,e2,L,c2,F⟩:=hS.l_ (s:=0) (m:=0-Po.val e.2.2 1) (o:=f.1) hN po (lk.kp.pm _<|ue lk k) rS lk k (by rw[Int.zero_sub,jy];exact cX vb v9) ();have U:=Fq rS.l (yR lk) k;have P:=Fq p.l (yR lb) he;have V:yj (.ref e.2.1) (.int 1) S=.ok (.int<|Po.val e.2.2 1) S:=by
   rw[wX,(p.a e he).1,jT,Po.sj<|Vi h0,jT]
  refine⟨[x0,.ref d,x2,.ref M,x4,.ref B,.tup<|e.1.map .int,x7,.ref W,.tup<|f.1.map .int,x10,x11],S,rfl,.inl ⟨[x0,.ref d,x2,.ref M,x4,.ref B,.tup<|e.1.map .int,x7,.ref W,.tup<|f.1.map .int,x10,x11],T2,?_,.tup<|f.1.map .int,G,rfl,by rw[mul_add,<- gC];exact L,λu t=>?_,λr es z=>F r es<|j r es z⟩⟩
  ·unfold qt;dsimp[ki,qe,bools,eW9,U,P,V,e2]
  ·rw[c2,cS,cC,hf,Su.vZ];rw[Su.nR,iJ,<- dD];congr 1;show(if f.1=u then(0-Po.val e.2.2 1) * Po.cf f.2.2 (t-0)else 0)=-Po.val e.2.2 1 * ((if f.1=u then Po.cf f.2.2 t else 0)+0);rw[b6,iR,Int.zero_sub];split
   ·rfl
   ·rw[eg]
 ·rintro τ S ⟨y,D',rfl,hS,cS,j⟩;rw[aH,cL]at cS;rw[aH]at hS;exact⟨y,S,D',rfl,⟨hS.md.mono (),hS.kw,hS.pm,hS.fr,hS.ml,hS.dl,hS.ql,hS.qd⟩,cS,j⟩
def Uv{B k f:Nat}{Fs:ae->jD->R A}{e:En}{w:ag}{x6:A}(hN:N<6)(ih:Fnw N d f Fs)(h:Kin N Q d M S0 T c D K)(pw:w.Perm<|rg N)(hb:Rw (Gm Q d M D) T B bs)(lb:Kl.LK N w<|Su.sm bs)(he:e∈bs)(hf:Po.val e.2.2 1≠0->Iv.inv e.1<f)(k1:1<=k)(k2:k<N)(hc:c+2562<16777216) :
  ∃(y7 y8 y9:A) (T':jD) (D' K':Es),oN Fs [x0,.ref d,x2,.ref M,.int k,.ref B,.tup<|e.1.map .int,x7,x8,x9,x10,x11] T=.nx [x0,.ref d,x2,.ref M,.int k,.ref B,.tup<|e.1.map .int,y7,y8,y9,x10,x11] T'/\Kin N Q d M S0 T' (c+2562) D' K'/\(∀u,u.Perm (rg N)->∀t,Su.cS (Su.sm D') u t=Su.cS (Su.sm D) u t+Su.cS (Kl.B7 k Kl.K (e.1,e.2.2)) u t)/\∀r es,Rw (Gm Q d M D) T r es->Rw (Gm Q d M D') T' r es:=by
 have em:=ue lb he;have p:e.1.Perm (rg N):=lb.kp.pm _ em;have le:=mC p;have one:(1:Int).natAbs<big:=cX (by decide:(1:Int).natAbs<=Kl.Cb 10) v9;have dn:=WA p k1 k2;have x1:=λS:jD=>eix (co:=jB 6) (d:=jA (jB 4) jL) (τ:=[x0,.ref d,x2,.ref M,.int k,.ref B,.tup<|e.1.map .int,x7,x8,x9,x10,x11]) (S:=S) (v:=(k:Int)) (by dsimp[ki,bools]) (by dsimp[ki,bools])<|Mj p () ();have x2':=λS:jD=>eix (co:=jB 6) (d:=jA (jO mE (jB 4)<|eC<|.int 1) jL) (τ:=[x0,.ref d,x2,.ref M,.int k,.ref B,.tup<|e.1.map .int,x7,x8,x9,x10,x11]) (S:=S) (v:=(k:Int)+1) (by dsimp[ki,bools]) (by dsimp[ki,bools])<|Mj p () ();obtain⟨T1,e1,q1⟩:=PN (T:=T) (o:=e.1) (k:=k) ();obtain⟨h1,g1⟩:=h.uy q1;have b1:=g1 _ _ hb;obtain⟨T2,D2,e2,h2,c2,g2⟩:=h1.l_ (s:=0) (m:=1) (o:=e.1.map<|Wd.sw k) hN pw (He.CU p k1 k2) b1 lb he one ();have b2:=g2 _ _ b1;obtain⟨h3,g3⟩:=h2.lay<|.lst [.int 1,.int<|-1];obtain⟨T3,F⟩:∃T3,T3=T2++[O.lst [.int 1,.int<|-1]]:=⟨_,rfl⟩;rw[<- F]at h3 g3;have W:=g3 _ _ b2;obtain⟨C,U,e4,j,c4,g4⟩:=h3.l_ (s:=if Kl.vJ k e.1=true then -1 else 1) (m:=1) (o:=e.1) hN pw p W lb he one ();have Y:=g4 _ _ W;have l3:jE T3 T2.length=some [.int 1,.int<|-1]:=by rw[F];exact jW
 have n3:newL [.int 1,.int<|-1] T2=.ok (.ref T2.length) T3:=by rw[F];exact p8 (show 2<=16777216 by decide)
 have Z:u5 (.ref T2.length) (.int<|if Kl.vJ k e.1=true then 1 else 0) T3=.ok (.int<|if Kl.vJ k e.1=true then -1 else 1) T3:=by
  cases Kl.vJ k e.1 with
  | true=>
   show u5 (.ref T2.length) (.int 1) T3=.ok (.int<|-1) T3;dsimp[ki,l3,Aw]
  | false=>
   show u5 (.ref T2.length) (.int 0) T3=.ok (.int 1) T3;dsimp[ki,l3,Dg]
 have d1:=λS:jD=>Mc (n:=B) (o:=e.1) (S:=S);have i1:=Fq b1.l (yR lb) he;have i3:=Fq W.l (yR lb) he;have i2:=Fq b2.l (yR lb) he;have i4:=Fq Y.l (yR lb) he;have r4:j8 C e.2.1=some (iv e.2.2):=(Y.a e he).1;have P:∀u t,Su.cS (Su.sm U) u t=Su.cS (Su.sm D) u t+Su.cS (Kl.TZ k (e.1,e.2.2)) u t:=λu t=>by
  rw[c4,c2];show _=_+((if e.1.map (Wd.sw k)=u then Po.cf e.2.2 t else 0)+((if e.1=u then Po.cf (Kl.shl (if Kl.vJ k e.1=true then -1 else 1) e.2.2) t else 0)+0));rw[Kl.Ir,b6,dD,i8,i8,iR]
 have G:∀r es,Rw (Gm Q d M D) T r es->Rw (Gm Q d M U) C r es:=λr es z=>g4 r es<|g3 r es<|g2 r es<|g1 r es z;have g:Hl (tY<|jB 7) (wV<|jO (vN true) (Ft wZ (jO w6 (jB 5)<|jB 6)<|jA (eC<|.int 1)<|jA (eC<|.int 0) jL)<|eC<|.int 0) [x0,.ref d,x2,.ref M,.int k,.ref B,.tup<|e.1.map .int,.bl<|Kl.vJ k e.1,x8,x9,x10,x11] C=.ok (Kl.vJ k e.1 && !(Po.val e.2.2 1 == 0)) C:=by
  cases hd:Kl.vJ k e.1 with
  | true=>dsimp[ki,qe,bools,Dy,i4,VT r4,GU,r4,Po.Be,Bool.true_and]
  | false=>dsimp[ki,qe,bools,Bool.false_and]
 have J:∀(b:Bool) (S:jD),f1 FY [.bl b] S=.ok (.int<|if b=true then 1 else 0) S:=λb S=>by cases b<;>rfl
 have fin:∀(y8 y9:A) (T':jD) (D' K':Es),yU (Hl (tY<|jB 7)<|wV<|jO (vN true) (Ft wZ (jO w6 (jB 5)<|jB 6)<|jA (eC<|.int 1)<|jA (eC<|.int 0) jL)<|eC<|.int 0) (j9 (kI (eFn Fs<|jA (jB 6)<|jA (jB 1) jL)<|kh 8)<|lO (qf Fs) (kh 9)<|qt Fs) qu [x0,.ref d,x2,.ref M,.int k,.ref B,.tup<|e.1.map .int,.bl<|Kl.vJ k e.1,x8,x9,x10,x11] C=.nx [x0,.ref d,x2,.ref M,.int k,.ref B,.tup<|e.1.map .int,.bl<|Kl.vJ k e.1,y8,y9,x10,x11] T' ->
   oN Fs [x0,.ref d,x2,.ref M,.int k,.ref B,.tup<|e.1.map .int,x7,x8,x9,x10,x11] T=.nx [x0,.ref d,x2,.ref M,.int k,.ref B,.tup<|e.1.map .int,.bl<|Kl.vJ k e.1,y8,y9,x10,x11] T':=λy8 y9 T' D' K' hh=>by
  unfold oN;dsimp[ki,qe,bools,x1,x2',dn,e1,i1,e2,i2,n3,J,Z,e4,↓hh]
 cases hw:(Kl.vJ k e.1 && !(Po.val e.2.2 1 == 0))with
 | false=>
  rw[hw]at g;refine⟨_,x8,x9,C,U,K,fin x8 x9 C U K<|by dsimp[ki,↓g],⟨j.md.mono (),j.kw,j.pm,j.fr,j.ml,j.dl,j.ql,j.qd⟩,λu pu t=>?_,G⟩;rw[P];unfold Kl.B7;rw[aI λz=>by rw[z.2,c8.mpr z.1]at hw;exact Bool.noConfusion hw];rw[cR]
 | true=>
  rw[hw]at g;rw[c7]at hw;obtain⟨V,L⟩:=hw;have h0:Po.val e.2.2 1≠0:=by
   intro z;rw[z]at L;cases L
  obtain⟨R,T5,K5,rs,e5,h5,r5,l5,g5⟩:=j.aaz ih (hf h0) p;obtain⟨y,T6,D6,e6,q,c6,g6⟩:=YN (Fs:=Fs) (x0:=x0) (x2:=x2) (x4:=.int k) (x7:=.bl<|Kl.vJ k e.1) (x9:=x9) (x10:=x10) (x11:=x11) hN h5 pw p (g5 _ _ Y) lb he h0 r5 l5 ();refine⟨_,.ref R,y,T6,D6,K5,fin _ _ T6 D6 K5<|by dsimp[ki,↓g,e5,↓e6],⟨q.md.mono (),q.kw,q.pm,q.fr,q.ml,q.dl,q.ql,q.qd⟩,λu pu t=>?_,λr es z=>g6 r es<|g5 r es<|G r es z⟩;rw[c6,P];unfold Kl.B7;rw[aK ⟨h0,V⟩,Su.nR,dD,He.A3];show _+(_+_)=_+(_+He.cv [((0:Int),-Po.val e.2.2 1)] (Su.cS (Kl.K e.1) u) t);rw[Kl.MT,l5.K hN p _ pu]
end
end K40
namespace K40
open PySem L2 Am
open Po (Pl iv)
open Su (Es En)
open Fw (rg)
section
variable {N d M:Nat}{Q:Nat->Prop}{S0 T:jD}{D K bs:Es}
def Q0{B k f:Nat}{Fs:ae->jD->R A}{w:ag}(hN:N<6)(ih:Fnw N d f Fs)(h:Kin N Q d M S0 T 0 [] K)(pw:w.Perm<|rg N)(hb:Rw (Gm Q d M []) T B bs)(lb:Kl.LK N w<|Su.sm bs)(hf:Iv.inv w<f)(k1:1<=k)(k2:k<N) :
  ∃(y6 y7 y8 y9:A) (T':jD) (D' K':Es),lO (sO Fs) (kh 6) (oN Fs) [x0,.ref d,x2,.ref M,.int k,.ref B,x6,x7,x8,x9,x10,x11] T=.nx [x0,.ref d,x2,.ref M,.int k,.ref B,y6,y7,y8,y9,x10,x11] T'/\Kin N Q d M S0 T' 307440 D' K'/\∀u,u.Perm (rg N)->∀t,Su.cS (Su.sm D') u t=Su.cS ((Su.sm bs).flatMap<|Kl.B7 k Kl.K) u t:=by
 obtain⟨h1,C⟩:=h.fz hb;obtain⟨T1,c⟩:∃T1,T1=T.set B (O.dcf<|bs.map Su.kv):=⟨_,rfl⟩;rw[<- c]at h1 C;have L:=lb.many hN;rw[Su.pW]at L;refine u_ (xs:=bs.map λe=>.tup<|e.1.map .int) (S1:=T1) (show sO Fs _ _=_ from by rw[c];exact Ei (by dsimp[ki,bools]) hb.l)
  (λi τ S=>∃(y6 y7 y8 y9:A) (D' K':Es),τ=[x0,.ref d,x2,.ref M,.int k,.ref B,y6,y7,y8,y9,x10,x11]/\Kin N Q d M S0 S (2562 * i) D' K'/\(∀u,u.Perm (rg N)->∀t,Su.cS (Su.sm D') u t=Su.cS ((Su.sm<|bs.take i).flatMap<|Kl.B7 k Kl.K) u t)/\Rw (Gm Q d M D') S B bs)
  (λr=>∃(y6 y7 y8 y9:A) (T':jD) (D' K':Es),r=.nx [x0,.ref d,x2,.ref M,.int k,.ref B,y6,y7,y8,y9,x10,x11] T'/\Kin N Q d M S0 T' 307440 D' K'/\∀u,u.Perm (rg N)->∀t,Su.cS (Su.sm D') u t=Su.cS ((Su.sm bs).flatMap<|Kl.B7 k Kl.K) u t)
  ⟨_,_,_,_,[],K,rfl,h1,λu _ t=>rfl,C _ _ hb⟩ ?_ ?_
 ·rintro i z τ S D ⟨y6,y7,y8,y9,D',K',rfl,hS,cS,g⟩;rw[aO]at D;obtain⟨e,p,rfl⟩:=aX.mp D;have j:=aW p;have V:=(aG.mp p).1;have le:Po.val e.2.2 1≠0->Iv.inv e.1<f:=λz=>cX (lb.kp.lo e.1 (lb.kp.pm _<|ue lb j) 1 (by have:=lb.toNd.val (ue lb j) 1;rw[<- this];exact z)).le hf;obtain⟨U,W,P,T2,F,J,e2,m,c2,G⟩:=Uv (x0:=x0) (x2:=x2) (x6:=y6) (x7:=y7) (x8:=y8) (x9:=y9) (x10:=x10) (x11:=x11) hN ih hS pw g lb j le k1 k2 ();refine⟨[x0,.ref d,x2,.ref M,.int k,.ref B,.tup<|e.1.map .int,y7,y8,y9,x10,x11],S,rfl,.inl ⟨_,T2,e2,_,_,_,_,F,J,rfl,by rw[mul_add,Nat.mul_one];exact m,λu q t=>?_,G _ _ g⟩⟩;rw[c2 u q t,cS u q t,cC,p,Su.vZ,List.flatMap_append,Su.nR];show _=_+Su.cS (Kl.B7 k Kl.K (e.1,e.2.2)++[]) u t;rw[cR]
 ·rintro τ S ⟨y6,y7,y8,y9,D',K',rfl,hS,cS,g⟩;rw[aH]at hS cS;rw[cL]at cS;exact⟨y6,y7,y8,y9,S,D',K',rfl,⟨hS.md.mono (),hS.kw,hS.pm,hS.fr,hS.ml,hS.dl,hS.ql,hS.qd⟩,cS⟩
structure Fnd3 (N:Nat)(Q:Nat->Prop)(d M F:Nat)(S0 T:jD)(D K E:Es):Prop where
 rd:Rw (λx=>Q x\/x=d\/x=F) T M D
 kw:Kw N (λx=>Q x\/x=F) T d K
 ff:jX T F=some (E.map Su.kv)
 ee:∀f∈E,j8 T f.2.1=some (iv f.2.2)/\S0.length<=f.2.1/\f.2.1≠F
 fr:Kz (λx=>x=d) Q S0 T
 fl:S0.length<=F
def NW{c:Nat}{Fs:ae->jD->R A}(hN:N<6)(h:Kin N Q d M S0 T c D K)(hc:c<16777216)(hF:jX T F=some [])(fl:S0.length<=F)(fm:¬Gm Q d M D F)(fk:Kw N (λx=>(Q x\/ow M D x)\/x=F) T d K) :
  ∃(y6 y11:A) (T':jD) (E:Es),lO (qh Fs) (kh 6) (qk Fs) [x0,.ref d,x2,.ref M,x4,x5,x6,x7,x8,x9,.ref F,x11] T=.nx [x0,.ref d,x2,.ref M,x4,x5,y6,x7,x8,x9,.ref F,y11] T'/\Fnd3 N Q d M F S0 T' D K E/\Su.sm E=Kl.GP (Su.sm D):=by
 have Mlt:=Su.mH h.md.dd;have dM:d≠M:=λz=>by have:=h.ml M<|.inl rfl;have:=h.dl;lia
 have FM:F≠M:=λz=>fm<|.inl<|.inr<|.inl z;have dF:F≠d:=λz=>fm<|.inr z;obtain⟨T1,L⟩:∃T1,T1=T.set M (O.dcf<|D.map Su.kv):=⟨_,rfl⟩;have z1:Kz (λ_=>False) (λx=>x≠M) T T1:=by rw[L];exact Kz.refl.fzD (u7 h.md.dd) (.inl λz=>z rfl)
 have dn:∀e∈D,e.2.1≠d/\¬Q e.2.1/\e.2.1≠F:=λe m=>by
  have:=h.ml e.2.1<|.inr ⟨e,m,rfl⟩;refine⟨λz=>by have:=h.dl;lia,λz=>by have:=h.ql _ z;lia,λz=>fm<|.inl<|.inr<|.inr ⟨e,m,z⟩⟩
 have f1:Fnd3 N Q d M F S0 T1 D K []:=⟨⟨z1.dcr (λz=>z)<|u7 h.md.dd,λe m=>⟨z1.Ss (λz=>z)<|yf<|h.md.aa e m,λz=>z.elim (dn e m).2.1 λq=>q.elim (dn e m).1 (dn e m).2.2⟩,λz=>by
   have:=h.ml M (.inl rfl)
   rcases z with z|z|z
   ·have:=h.ql _ z;lia
   ·exact dM z.symm
   ·exact FM z.symm⟩,fk.go z1 (λ_ _ z=>z.elim) (λ_ _ z=>z.imp .inl id) (λz=>z) dM,z1.dct (λz=>z) FM hF,(nofun),h.fr.old z1 (λ_ _ _ z=>z) (λn _ z e=>by have:=h.ml M<|.inl rfl;have:=h.ql n z;lia),fl⟩
 have ln:=h.many hN;refine u_ (xs:=D.map λe=>.tup<|e.1.map .int) (S1:=T1) (show qh Fs _ _=_ from by rw[L];exact Ei (by dsimp[ki,bools])<|u7 h.md.dd)
  (λi τ S=>∃(y6 y11:A) (E:Es),τ=[x0,.ref d,x2,.ref M,x4,x5,y6,x7,x8,x9,.ref F,y11]/\Fnd3 N Q d M F S0 S D K E/\Su.sm E=Kl.GP (Su.sm<|D.take i))
  (λr=>∃(y6 y11:A) (T':jD) (E:Es),r=.nx [x0,.ref d,x2,.ref M,x4,x5,y6,x7,x8,x9,.ref F,y11] T'/\Fnd3 N Q d M F S0 T' D K E/\Su.sm E=Kl.GP (Su.sm D))
  ⟨_,_,[],rfl,f1,rfl⟩ ?_ ?_
 ·rintro i z τ S hz ⟨y6,y11,E,rfl,hS,B⟩;rw[aO]at hz;obtain⟨e,m,rfl⟩:=aX.mp hz;have U:=aW m;have hi:=(aG.mp m).1;obtain⟨ea,Y⟩:=hS.rd.a e U;obtain⟨S1,e1,r1,q1⟩:=Xq ea (h.md.np e U)<|cX (h.md.ln e U) hc;have i1:=Fq hS.rd.l h.md.ap.nd U;have dS:d≠e.2.1:=λz=>Y<|.inr<|.inl z.symm;have FS:F≠e.2.1:=λz=>Y<|.inr<|.inr z.symm;have lF:=Su.mH hS.ff;have ld:=Su.mH hS.kw.dd;have sd:∀G:Nat->Prop,Fnd3 N Q d M F S0 S1 D K E:=λ_=>⟨hS.rd.go q1 (λ_ _ z=>z.elim) λ_ _ z=>z,hS.kw.go q1 (λ_ _ z=>z.elim) (λ_ _ z=>z) (λz=>z) dS,q1.dct (λz=>z) FS hS.ff,λf hf=>⟨q1.Ss (λz=>z) (hS.ee f hf).1,(hS.ee f hf).2⟩,hS.fr.old q1 (λ_ _ _ z=>z) λn _ z q=>Y<|.inl<|by rw[<- q];exact z,hS.fl⟩;have h1:=sd λ_=>False;obtain⟨k,J⟩:∃k,k=e.2.2.filter λq=>q.2 != 0:=⟨_,rfl⟩;rw[<- J]at r1;obtain⟨S2,t⟩:∃S2,S2=S1++[O.nG []]:=⟨_,rfl⟩;have k2:l7 S1 S2:=by rw[t];ksr_p
  have n2:kj S2 S1.length=some []:=by rw[t];exact uG
  have r2:=k2.dk _ _ (λz=>z) r1;have P:QG (.ref S.length) (.ref S1.length) S2=.ok (.bl<|!k.isEmpty) S2:=by
   show opt (j8 S2 S.length) (λkvs=>opt (kj S2 S1.length) λms=>_)=_;rw[yf r2,jT,n2,jT];have:(iv k).isEmpty=k.isEmpty:=by cases k<;>rfl
   rw[this];rfl
  have k2z:Kz (λ_=>False) (λ_=>True) S1 S2:=k2.kz;have h2:Fnd3 N Q d M F S0 S2 D K E:=⟨h1.rd.go k2z (λ_ _ z=>z.elim) λ_ _ z=>z,h1.kw.go k2z (λ_ _ z=>z.elim) (λ_ _ z=>z) (λz=>z) trivial,k2z.dct (λz=>z) trivial h1.ff,λf hf=>⟨k2z.Ss (λz=>z) (h1.ee f hf).1,(h1.ee f hf).2⟩,h1.fr.old k2z (λ_ _ _ z=>z) λ_ _ _=>trivial,h1.fl⟩;have tk:Su.sm (D.take<|i+1)=Su.sm (D.take i)++[(e.1,e.2.2)]:=by
   rw[cC,m,Su.vZ];rfl
  have one:Kl.GP [(e.1,e.2.2)]=if k.isEmpty=true then[]else[(e.1,k)]:=by
   show List.filter _ [(e.1,e.2.2.filter λq=>q.2 != 0)]=_;rw[<- J]
   cases k<;>rfl
  refine⟨[x0,.ref d,x2,.ref M,x4,x5,.tup<|e.1.map .int,x7,x8,x9,.ref F,y11],S,rfl,.inl ?_⟩;unfold qk
  cases hb:k.isEmpty with
  | true=>
   rw[hb]at P one;refine⟨[x0,.ref d,x2,.ref M,x4,x5,.tup<|e.1.map .int,x7,x8,x9,.ref F,.ref S.length],S2,?_,_,_,E,rfl,h2,?_⟩
   ·dsimp[ki,qe,bools,Yr,aau,aa2,i1,e1,sC,<- t,P,cI]
   ·rw[tk,Kl.Ku,one,B];exact(cR _).symm
  | false=>
   rw[hb]at P one;have nE:Su.fE E e.1=none:=by
    cases hf:Su.fE E e.1 with
    | none=>rfl
    | some f=>
     exfalso;obtain⟨a,b⟩:=Su.pZ hf;have m1:f.1∈(Su.sm E).map Prod.fst:=aV.mpr ⟨_,aV.mpr ⟨f,a,rfl⟩,rfl⟩;rw[B]at m1;obtain⟨g,hg,e3⟩:=aV.mp m1;obtain⟨g',hg',rfl⟩:=aV.mp (bK.mp hg).1;obtain⟨g2,V,rfl⟩:=aV.mp hg';obtain⟨j,Z⟩:=dX.mp V;have lt:j<i:=by
      have:=(aG.mp Z).1;rw[bU]at this;lia
     rw[d_ lt]at Z;have e1':(D.map Prod.fst)[j]?=some e.1:=by rw[aO,Z,<- b,<- e3];rfl
     have e2':(D.map Prod.fst)[i]?=some e.1:=by rw[aO,m];rfl
     obtain⟨l1,g1⟩:=aG.mp e1';obtain⟨l2,W⟩:=aG.mp e2';have:=(cK h.md.ap.nd).mp (g1.trans W.symm)
     lia
   have pE:Su.l_ E e.1 S.length k=E++[(e.1,S.length,k)]:=by
    unfold Su.l_;rw[nE];rfl
   have lE:E.length<=120:=by
    rw[<- Su.pW,B];unfold Kl.GP;refine bG (cG _ _) ?_;rw[aH,Su.pW,bU];lia
   obtain⟨S3,C⟩:∃S3,S3=S2.set F (O.dct<|(E++[(e.1,S.length,k)]).map Su.kv):=⟨_,rfl⟩;have st:xT (.ref F) (.tup<|e.1.map .int) (.ref S.length) S2=.ok Unit.unit S3:=by
    rw[Su.r8,h2.ff,jT,Su.BK (p:=k),pE,C];exact tX<|show(E.map Su.kv).length<16777216 by rw[aH];lia
   have k3:Kp (·=F) S2 S3:=by rw[C];exact Kp.refl.yZ (.inl rfl)
   have k3z:Kz (·=F) (λ_=>True) S2 S3:=k3.kz;have lS:=q1.len;refine⟨[x0,.ref d,x2,.ref M,x4,x5,.tup<|e.1.map .int,x7,x8,x9,.ref F,.ref S.length],S3,?_,_,_,E++[(e.1,S.length,k)],rfl,⟨h2.rd.go k3z (λ_ _ z=>.inr<|.inr z) λ_ _ z=>z,h2.kw.go k3z (λ_ _ z=>.inr z) (λ_ _ z=>z) (λz=>dF z.symm) trivial,by rw[C];exact Su.vt<|Su.mH h2.ff,λf hf=>?_,h2.fr.old k3z (λn ln _ z=>by have:=h2.fl;lia) λ_ _ _=>trivial,h2.fl⟩,?_⟩
   ·dsimp[ki,qe,bools,Yr,aau,aa2,i1,e1,sC,<- t,P,c5,Su.tH,st]
   ·rcases bz.mp hf with z|z
    ·obtain⟨a,b,c'⟩:=h2.ee f z;exact⟨k3z.Ss c' a,b,c'⟩
    ·rw[aQ.mp z];have l0:=hS.fr.len;exact⟨k3z.Ss (show ¬S.length=F by lia)<|yf r2,l0,by show S.length≠F;lia⟩
   ·rw[tk,Kl.Ku,one,Su.vZ,B];rfl
 ·rintro τ S ⟨y6,y11,E,rfl,hS,B⟩;rw[aH,cL]at B;exact⟨y6,y11,S,E,rfl,hS,B⟩
end
end K40
namespace K40
open PySem L2 Am
open Po (Pl iv)
open Su (Es En)
open Fw (rg)
def T_{N:Nat}{k:Int}(h:k∈QT N o):∃j:Nat,k=j/\1<=j/\j<N/\Kl.vJ j o=true:=by
 obtain⟨a,b⟩:=bK.mp h;have:=pO.mp a;exact⟨k.toNat,(),(),(),b⟩
def Vv{N:Nat}{o:ag}(J:o.Perm<|rg N)(h:QT N o=[]):o=rg N:=by
 have d:He.ff (He.bk o)=none:=by
  cases hf:He.ff (He.bk o)with
  | none=>rfl
  | some k=>
   exfalso;obtain⟨a,b,c⟩:=He.E5 hf;rw[mC<|He.kX J]at b;have:(k:Int)∈QT N o:=bK.mpr ⟨pO.mpr (),by
    show Kl.vJ (k:Int).toNat o=true;rw[ir];exact c⟩
   rw[h]at this;cases this
 have:=Kl.FI (He.kX J) d;rw[<- He.n8 J,this,He.CS]
def aad{N k:Nat}{o:ag}(J:o.Perm<|rg N)(U:1<=k)(k2:k<N)(h:Kl.vJ k o=true):Iv.inv o=Iv.inv (o.map<|Wd.sw k)+1:=by
 have d:=Kl.Oz (He.kX J) U k2 h;have:=d.iv;rw[<- He.Gn J U k2,He.DQ J,He.DQ<|He.CU J U k2]at this;exact this
section
variable {N d M:Nat}{Q:Nat->Prop}{S0 T:jD}{D K:Es}
def xN{c:Nat}{Fs:ae->jD->R A}{o:ag}(hN:N<6)(h:Kin N Q d M S0 T c D K)(hc:c<16777216)(po:o.Perm<|rg N)(lk:Kl.LK N o<|Kl.GP<|Su.sm D) :
  ∃(r:Nat) (T':jD) (K' rs:Es),j9 (kI uB<|kh 10) (j9 (lO (qh Fs) (kh 6)<|qk Fs)<|j9 (kI (jB 10)<|BS (jB 1)<|jB 0)<|lX<|jB 10) [.tup<|o.map .int,.ref d,x2,.ref M,x4,x5,x6,x7,x8,x9,x10,x11] T=.rt (.ref r) T'/\Kw N Q T' d K'/\Rw (λx=>Q x\/x=d) T' r rs/\Kl.LK N o (Su.sm rs)/\Kz (λx=>x=d) Q S0 T':=by
 obtain⟨T1,e⟩:∃T1,T1=T++[O.dct []]:=⟨_,rfl⟩;obtain⟨h1,Y⟩:=h.lay<|.dct [];rw[<- e]at h1;have L:jX T1 T.length=some []:=by rw[e];exact Su.pL
 have V:=h.fr.len;have dT:d<T.length:=Su.mH h.kw.dd;have j:¬Gm Q d M D T.length:=λz=>by
  rcases z with(z|z)|z
  ·have:=h.ql _ z;lia
  ·have:=h.md.Qu z;lia
  ·lia
 have g:Kz (λ_=>False) (λ_=>True) T T1:=by rw[e];exact(Kp.refl.lay).kz
 have J:Kw N (λx=>(Q x\/ow M D x)\/x=T.length) T1 d K:=h.kw.go g (λ_ _ z=>z.elim) (λn t z=>z.elim id λq=>absurd t ()) (λz=>z) trivial;obtain⟨W,B,T2,E,e2,f2,U⟩:=NW (Fs:=Fs) (x0:=.tup<|o.map .int) (x2:=x2) (x4:=x4) (x5:=x5) (x6:=x6) (x7:=x7) (x8:=x8) (x9:=x9) (x11:=x11) hN h1 hc L V j J;have G:Rw (λx=>Q x\/x=d) T2 T.length E:=⟨u7 f2.ff,λf hf=>by
   obtain⟨a,b,Z⟩:=f2.ee f hf;refine⟨a,λz=>?_⟩
   rcases z with z|z
   ·have:=h.ql _ z;lia
   ·have:=h.dl;lia,λz=>by
   rcases z with z|z
   ·have:=h.ql _ z;lia
   ·lia⟩
 have C:Kw N Q T2 d K:=f2.kw.go (P:=λ_=>False) (Q':=λ_=>True) Kz.refl (λ_ _ z=>z.elim) (λ_ _ z=>.inl z) (λz=>z) trivial;rw[<- U]at lk;obtain⟨T3,F,e3,p,m,k⟩:=C.put hN po G lk;refine⟨T.length,T3,F,E,?_,p,m,lk,f2.fr.old (k.kz (Q:=λ_=>True)) (λ_ _ z=>z) λ_ _ _=>trivial⟩;dsimp[ki,qe,bools,Yr,adL,Su.oM,<- e,↓e2,Su.tH,e3]
end
theorem F3{N d:Nat}(hN:N<6):∀(f:Nat),Fnw N d f (mj f)
 | 0=>λ_ _ _ _ h _ _ _ _=>absurd h (fq _)
 | f+1=>λQ T K o hf C hK ql qd=>by
  have ih:=F3 (d:=d) hN f;have lo:=mC C;have dT:d<T.length:=Su.mH hK.dd;show ∃(r:Nat) (T':jD) (K' Y:Es),lC qC (qA<|mj f) [.tup<|o.map .int,.ref d] T=.ok (.ref r) T'/\_;have i1:HL false (.tup<|o.map .int) (.ref d) T=.ok (.bl (kK (K.map Su.kv) o).isSome) T:=by
   show opt (jX T d) (λkvs=>opt (A.ints<|o.map .int) λns=>_)=_;rw[hK.dd,jT,ints_map];rfl
  unfold qA qC
  cases hL:Su.fE K o with
  | some e=>
   obtain⟨m1,rfl⟩:=Su.pZ hL;obtain⟨Y,r1,r2⟩:=hK.at_ e m1;have lk:kK (K.map Su.kv) e.1=some (.ref e.2.1):=by rw[Su.oR,hL];rfl
   have x1:yY (.ref d) (.tup<|e.1.map .int) T=.ok (.ref e.2.1) T:=by rw[Su.xK,hK.dd,jT,lk,jT]
   rw[lk]at i1;refine⟨e.2.1,T,K,Y,?_,hK,r1,r2,Kz.refl⟩;dsimp[ki,qe,bools,mK,Nat.reduceAdd,Nat.reduceSub,i1,gK,x1]
  | none=>
   have lk:kK (K.map Su.kv) o=none:=by rw[Su.oR,hL];rfl
   rw[lk]at i1;have wo:=Vt (S:=T) (cap:=[.ref d,.unb,.unb,.unb,.unb,.unb,.unb,.unb,.unb,.unb,.unb]) C ();obtain⟨T1,F⟩:∃T1,T1=T++[O.lst<|(QT N o).map .int]:=⟨_,rfl⟩;have k1:l7 T T1:=by rw[F];ksr_p
   have l1:jE T1 T.length=some ((QT N o).map .int):=by rw[F];exact jW
   obtain⟨T2,J⟩:∃T2,T2=T1++[O.dct []]:=⟨_,rfl⟩;have k2:l7 T1 T2:=by rw[J];ksr_p
   have M2:jX T2 T1.length=some []:=by rw[J];exact Su.pL
   have l2:=k2.lst _ _ (λz=>z) l1;obtain⟨T3,W⟩:∃T3,T3=T2++[O.lst []]:=⟨_,rfl⟩;have k3:l7 T2 T3:=by rw[W];ksr_p
   have G:l7 T T3:=(k1.trans k2).trans k3;have n3:newL [] T2=.ok (.ref T2.length) T3:=by rw[W];exact kZ (show 0<=16777216 by decide)
   have q3:vN false (.ref T.length) (.ref T2.length) T3=.ok (.bl ((QT N o).map A.int).isEmpty) T3:=NY (eq_nil (k3.lst _ _ (λz=>z) l2)<|by rw[W];exact jW);have lT1:=k1.len;have M3:=k3.dct _ _ (λz=>z) M2;have ow0:∀x,ow T1.length [] x->x=T1.length:=λx z=>z.elim id λ⟨_,h,_⟩=>nomatch h;have md3:Md T3 T1.length 0 []:=⟨M3,(nofun),List.Pairwise.nil,(nofun),(nofun)⟩;have L:Kin N Q d T1.length T T3 0 [] K:=⟨md3,hK.go (P:=λ_=>False) (Q':=λ_=>True) G.kz (λ_ _ z=>z.elim) (λn ln z=>z.elim id λq=>by have:=ow0 n q;lia) (λz=>z) trivial,(nofun),G.of0.kz,λx hx=>by rw[ow0 x hx];lia,dT,ql,qd⟩
   rcases List.eq_nil_or_concat (QT N o)with hw|⟨ws,k',hw⟩
   ·
    have oe:=Vv C hw;rw[hw]at q3;have M3':jX T3 T1.length=some []:=M3;obtain⟨D,U⟩:∃D,D=T3++[O.nG [((0:Int),A.int 1)]]:=⟨_,rfl⟩;have h4:kj D T3.length=some (iv [((0:Int),(1:Int))]):=by rw[U];exact uG
    have Z:l7 T3 D:=by rw[U];ksr_p
    obtain⟨p,_⟩:=L.uy Z;obtain⟨V,M⟩:∃V,V=D.set T1.length (O.dct<|([(o,T3.length,[((0:Int),(1:Int))])]:Es).map Su.kv):=⟨_,rfl⟩;have k5:Kp (·=T1.length) D V:=by rw[M];exact Kp.refl.yZ (.inl rfl)
    have M4:=Z.dct _ _ (λz=>z) M3;have lT3:=G.len;have lM:=Su.mH M3;have d4:¬T3.length=T1.length:=()
    have st:xT (.ref T1.length) (.tup<|o.map .int) (.ref T3.length) D=.ok Unit.unit V:=by
     rw[Su.r8,M4,jT,M];exact tX<|show 0<16777216 by decide
    have ds:ZQ (eC<|.int 0) (eC<|.int 1) [.tup<|o.map .int,.ref d,.ref T.length,.ref T1.length,.unb,.unb,.unb,.unb,.unb,.unb,.unb,.unb] T3=.ok (.ref T3.length) D:=by rw[U];rfl
    have m:Kin N Q d T1.length T V 1 [(o,T3.length,[((0:Int),(1:Int))])] K:=by
     refine⟨⟨by rw[M];exact Su.vt<|Su.mH M4,λe j=>?_,bZ _ _,λe j=>?_,λe j=>?_⟩,?_,λe j=>?_,?_,λx hx=>?_,dT,ql,qd⟩
     ·rw[aQ.mp j];exact k5.dk _ _ d4 h4
     ·rw[aQ.mp j];simp
     ·rw[aQ.mp j];exact aR _
     ·refine hK.go (P:=λx=>x=T1.length) (Q':=λ_=>True) (T':=V) ((G.trans Z).of0.kz.old (k5.kz (Q:=λ_=>True)) (λ_ _ z=>z) λ_ _ z=>z) (λn ln z=>()) (λn ln z=>?_) () trivial
      rcases z with z|z|⟨e,j,z⟩
      ·exact z
      ·lia
      ·rw[aQ.mp j]at z;have z:T3.length=n:=z
       lia
     ·rw[aQ.mp j];exact C
     ·exact p.fr.old (k5.kz (Q:=λ_=>True)) (λn ln _ z=>()) λ_ _ _=>trivial
     ·rcases hx with z|⟨e,j,z⟩
      ·lia
      ·rw[aQ.mp j]at z;have z:T3.length=x:=z
       lia
    obtain⟨r,T',K',Y,e6,a,b,c,d'⟩:=xN (Fs:=mj f) (x2:=.ref T.length) (x4:=.unb) (x5:=.unb) (x6:=.unb) (x7:=.unb) (x8:=.unb) (x9:=.unb) (x10:=.unb) (x11:=.unb) hN m ⋯ C (by
     have:=Kl.LK.one hN C oe;exact this)
    refine⟨r,T',K',Y,?_,a,b,c,d'⟩;dsimp[ki,qe,bools,mK,Nat.reduceAdd,Nat.reduceSub,i1,gR,wo,<- F,Su.oM,<- J,n3,q3,fR,iF,ds,Su.tH,st,↓e6]
   ·
    have km:k'∈QT N o:=by rw[hw,List.concat_eq_append];exact List.mem_concat_self ..
    obtain⟨k,rfl,ka,kb,kd⟩:=T_ km;have ne:((QT N o).map A.int).isEmpty=false:=by rw[hw];simp
    rw[ne]at q3;have ia:t6 ((QT N o).map A.int) (-1)=some (.int (k:Int)):=by
     rw[hw,List.concat_eq_append,bN];exact Pu _ _
    have l3:=k3.lst _ _ (λz=>z) l2;have iv1:=aad C ka kb kd;have ps:=He.CU C ka kb;obtain⟨D,e4,Z⟩:=PN (T:=T3) (o:=o) (k:=k) ();obtain⟨p,_⟩:=L.uy Z;obtain⟨B,V,K5,bs,e5,m,r5,lk5,_⟩:=p.aaz ih (o:=o.map<|Wd.sw k) () ps;obtain⟨y6,y7,y8,y9,T6,D6,K6,e6,g,c6⟩:=Q0 (Fs:=mj f) (x0:=.tup<|o.map .int) (x2:=.ref T.length) (x6:=.unb) (x7:=.unb) (x8:=.unb) (x9:=.unb) (x10:=.unb) (x11:=.unb) hN ih m ps r5 lk5 () ka kb;have ndD:Kl.Nd (Su.sm D6):=⟨by rw[w4];exact g.md.ap.nd,λe j=>by
     obtain⟨f,hf,rfl⟩:=aV.mp j;exact g.md.np f hf⟩
    have pmD:∀x∈Su.sm D6,x.1.Perm (rg N):=λx hx=>by
     obtain⟨f,hf,rfl⟩:=aV.mp hx;exact g.pm f hf
    have lk6:Kl.LK N o (Kl.GP<|Su.sm D6):=Kl.LK.step hN C ka kb kd lk5 (Kl.XQ ndD) Kl.W_ Kl.XX (Kl.Yl (P:=λu=>u.Perm<|rg N) pmD) λu pu t=>by rw[Kl.O_,c6 u pu t]
    obtain⟨r,T',K',Y,e7,a,b,c,d'⟩:=xN (Fs:=mj f) (x2:=.ref T.length) (x4:=.int k) (x5:=.ref B) (x6:=y6) (x7:=y7) (x8:=y8) (x9:=y9) (x10:=.unb) (x11:=.unb) hN g ⋯ C lk6;refine⟨r,T',K',Y,?_,a,b,c,d'⟩;have neg:G7 (.int 1) T3=.ok (.int<|-1) T3:=rfl;dsimp[ki,qe,bools,mK,Nat.reduceAdd,Nat.reduceSub,i1,gR,wo,<- F,Su.oM,<- J,n3,q3,neg,l3,ia,e4,e5,↓e6,↓e7]
end K40
namespace K40
open PySem L2 Am
open Po (Pl iv)
open Su (Es En At)
open Fw (rg)
meta abbrev zT (w:ag):A:=.tup<|w.map .int
def Wt{N:Nat}{o:ag}(U:N<6)(J:o.Perm<|rg N):Iv.inv o<12:=by
 have:=Kl.zG o;rw[mC J]at this;have h2:N * (N-1)<=5 * 4:=iY () ()
 lia
def E7{S:jD}{N:Nat}{o:ag}(U:N<6)(J:o.Perm<|rg N):∃(r:Nat) (S':jD) (rs:Es),nU [zT o] S=.ok (.ref r) S'/\Sm S' r rs/\Su.sm rs=Kl.K o/\Ds S.length r rs/\l7 S S':=by
 have lo:=mC J;have e:qN [zT o] S=.ok .non S:=by
  unfold qN wI wz;have:decide ((o.length:Int)>5)=false:=bA ();dsimp[ki,qe,bools,mK,Nat.reduceAdd,Nat.reduceSub,aH,this]
 have c:l7 S (S++[O.dct []]):=Kp.refl.lay;have g:jX (S++[O.dct []]) S.length=some []:=Su.pL;obtain⟨r,S2,p,rs,f,q,k,e2,ds,j⟩:=Lk (d:=S.length) U 12 (S++[O.dct []]) [] o (Wt U J) J ⟨g,Su.Gd.nil,(nofun),(nofun)⟩;refine⟨r,S2,rs,?_,k,e2,ds,c.old j λn m _ z=>()⟩;unfold nU v8 wc;dsimp[ki,qe,bools,mK,Nat.reduceAdd,Nat.reduceSub,e,Su.oM,show tD=mQ 12 from rfl,f]
def YJ{S:jD}{N:Nat}{o:ag}(J:N<6)(U:o.Perm<|rg N):∃(r:Nat) (S':jD) (rs:Es),qE [zT o,.ref S.length] (S++[.dct []])=.ok (.ref r) S'/\Rw (λx=>x=S.length) S' r rs/\Kl.LK N o (Su.sm rs)/\l7 S S':=by
 have c:l7 S (S++[O.dct []]):=Kp.refl.lay;have m:S.length<(S++[O.dct []]).length:=by rw[br];exact eS _
 obtain⟨r,S',k,rs,e1,_,r1,g,f⟩:=F3 (d:=S.length) J 12 (λx=>x<S.length) (S++[.dct []]) [] o (Wt J U) U ⟨Su.pL,dP,(nofun),(nofun)⟩ (λx z=>()) ();refine⟨r,S',rs,e1,r1.go (P:=λ_=>False) (Q':=λ_=>True) Kz.refl (λ_ _ z=>z.elim) λ_ _ z=>.inr z,g,⟨bG c.len f.len,λn o _ e=>?_⟩⟩;have j:=vX e
 rcases f.obj n o () (c.obj n o (λz=>z) e)with z|⟨z,_⟩
 ·exact z
 ·exact absurd j z
def Ux{S:jD}{a:Nat}{p:Pl}(J:j8 S a=some (iv p))(U:(p.map Prod.fst).Nodup)(nz:∀q∈p,q.2≠0)(hl:p.length<=1000):∃(L:Nat) (S':jD),o8 [.ref a] S=.ok (.ref L) S'/\jE S' L=some (Po.pl<|Po.yW p)/\S.length<=L/\l7 S S':=by
 obtain⟨S1,c⟩:∃S1,S1=S++[O.lst<|(sortI<|p.map Prod.fst).map .int]:=⟨_,rfl⟩;have g:l7 S S1:=by rw[c];ksr_p
 have m:jE S1 S.length=some ((sortI<|p.map Prod.fst).map .int):=by rw[c];exact jW
 have ps:=sortI_perm<|p.map Prod.fst;have D:zI (.ref a) S=.ok (.ref S.length) S1:=by
  show opt (j8 S a) _=_;rw[J,jT,c,Po.Lx]
 have F:j8 S1 a=some (iv p):=(g.kz (Q:=λ_=>True)).Ss (λz=>z) J;have B:=Di (cap:=[some 0]) (src:=lV<|jZ (f1 zI)<|jA (jB 0) jL) (t:=oW) (e:=qP<|jA (jB 0)<|jA (jO yj (jB 1)<|jB 0) jL) (τ:=[.ref a]) (S:=S) (show lV _ _ _=_ from m8 (by dsimp[ki,bools,D]) m) m (λ_=>true) (λx=>match x with
  | .int k=>Po.pA (k,Po.val p k)
  | v=>v) (λ_ _=>rfl) (λx C _=>by
   obtain⟨k,d,rfl⟩:=aV.mp C;have f:k∈p.map Prod.fst:=ps.mem_iff.mp d;have e1:yj (.ref a) (.int k) S1=.ok (.int<|Po.val p k) S1:=by rw[wX,F,jT,Po.sj f,jT]
   show qP _ [.int k,.ref a] S1=_;dsimp[ki,bools,e1,p8<|show([_,_]:ae).length<=16777216 by simp];rfl)<|by rw[aH,ps.length_eq,aH];lia
 have e2:(((sortI<|p.map Prod.fst).map A.int).filter λ_=>true).map (λx=>match x with
  | .int k=>Po.pA (k,Po.val p k)
  | v=>v)=Po.pl (Po.yW p):=by
  rw[dm.mpr λ_ _=>rfl,bq];unfold Po.yW Po.pl;rw[dm.mpr λk d=>?_,bq]
  ·rfl
  ·obtain⟨q,j,rfl⟩:=aV.mp<|ps.mem_iff.mp d;rw[Kl.vC U j];simpa using nz q j
 rw[e2]at B;refine⟨S1.length,S1++[.lst<|Po.pl<|Po.yW p],?_,jW,g.len,g.lay⟩;unfold o8 wk wj;dsimp[ki,bools,mK,Nat.reduceAdd,Nat.reduceSub,B]
def UK{J:List<|ag}{n:Nat}{src:Ic}{ex:Ex}(hs:src τ S0=.ok (kY n (J.map zT).length) S)(U:jE S n=some (J.map zT))(F:ag->Pl)
  (step:∀o∈J,∀T,l7 S T->∃(r:Nat) (T':jD),ex (zT o::lN cap τ) T=.ok (.tup [zT o,.ref r]) T'/\jE T' r=some (Po.pl<|F o)/\l7 T T') (hl:J.length<=16777216) :
  ∃(m:Nat) (S':jD) (fs:Es),kF (none::cap) src (kh 0) oW ex τ S0=.ok (.ref m) S'/\Sm S' m fs/\Su.sm fs=J.map (λo=>(o,F o))/\l7 S S':=by
 have t:(J.map zT).length=J.length:=aH ..;obtain⟨ys,S',h1,D,fs,rfl,h2,h3⟩:=BA (s:=kY n (J.map zT).length) (g:=kh 0) (e:=ex) (T:=λc=>∃y,c=y::lN cap τ) (λi acc T=>l7 S T/\∃fs:Es,acc=fs.map Su.ent/\At T fs/\Su.sm fs=(J.take i).map (λo=>(o,F o)))
  (λi acc c T j ⟨y,C⟩ hP=>by
   have j:i<(J.map zT).length:=j;obtain⟨f,fs,rfl,G,B⟩:=hP;subst C;have d:J[i]?=some J[i]:=aF ();obtain⟨r,T',e1,e2,p⟩:=step J[i] (aW d) T f;refine⟨zT J[i],zT J[i]::lN cap τ,T,_,T',?_,rfl,⟨_,rfl⟩,e1,f.trans p,fs++[(J[i],r,F J[i])],by rw[bN];rfl,?_,?_⟩
   ·show(jE T n).bind _=_;rw[f.lst _ _ (λz=>z) U,di,aO,d];rfl
   ·refine(G.uy p).app λe h=>?_;rw[aQ.mp h];exact e2
   ·rw[Su.vZ,B,cC,d,bN];rfl) (λacc T hP=>by
   show(match jE T n with
    | some ys=>decide (ys.length<=(J.map zT).length)
    | none=>false)=true
   rw[hP.1.lst _ _ (λz=>z) U];simp) (J.map zT).length 0 [] (lN (none::cap) τ) S rfl ⟨_,rfl⟩ ⟨Kp.refl,[],rfl,(nofun),by rw[eV];rfl⟩
 rw[show(kY n (J.map zT).length).k=J.length from t,cL]at h3;have q:fs.length=J.length:=by have:=dB List.length h3;rwa [Su.pW,aH]at this
 refine⟨S'.length,S'++[.lst<|fs.map Su.ent],fs,?_,⟨jW,h2.uy Kp.refl.lay⟩,h3,D.lay⟩;unfold kF;rw[hs,R.mF];show(m9 (kY n (J.map zT).length) (kh 0) oW ex (J.map zT).length 0 (lN (none::cap) τ) S).r_ _=_;rw[h1,R.lB];exact kZ<|by rw[aH,q];exact hl
def Uo{N:Nat}{w:ag}{m:Su.Ps}(hN:N<6)(pw:w.Perm<|rg N)(h:Kl.LK N w m):(lg<|m.map Prod.fst).map (λo=>(o,Po.yW<|Su.vS m o))=Kl.K w:=by
 have M:=Kl.GA hN pw;obtain⟨D,G⟩:∃D:Su.Ps,D=m.map λe=>(e.1,Po.yW e.2):=⟨_,rfl⟩;have B:D.map Prod.fst=m.map Prod.fst:=by rw[G,bq];rfl
 have g:Su.Gd D:=⟨by rw[B];exact h.nd,λe d=>by
  rw[G]at d;obtain⟨f,hf,rfl⟩:=aV.mp d;exact Po.Aj<|h.np f hf⟩
 have k:∀e∈m,Su.vS D e.1=Po.yW e.2/\Su.vS m e.1=e.2:=λe d=>by
  constructor
  ·have:=Kl.IE g.nd (e:=(e.1,Po.yW e.2)) (by rw[G];exact aV.mpr ⟨e,d,rfl⟩);exact Po.uniq (g.v e.1) (Po.Aj<|h.np e d) λt=>by rw[<- Kl.yM g.nd];exact this t
  ·rcases Su.qI (D:=m) (o:=e.1)with⟨f,hf,e1,e2⟩|⟨e1,_⟩
   ·rw[e2];obtain⟨i,L⟩:=dX.mp hf;obtain⟨j,C⟩:=dX.mp d;have U:(m.map Prod.fst)[i]?=some e.1:=by rw[aO,L,<- e1];rfl
    have P:(m.map Prod.fst)[j]?=some e.1:=by rw[aO,C];rfl
    obtain⟨Y,T⟩:=aG.mp U;obtain⟨W,O⟩:=aG.mp P;have:=(cK h.nd).mp<|T.trans O.symm;subst this;rw[L]at C;rw[aY C]
   ·exact absurd (aV.mpr ⟨e,d,rfl⟩) e1
 have e1:(lg<|m.map Prod.fst).map (λo=>(o,Po.yW<|Su.vS m o))=Su.toS D:=by
  unfold Su.toS;rw[B,dm.mpr λo F=>?_]
  ·refine cQ λo F=>?_;obtain⟨e,d,rfl⟩:=aV.mp<|(j4 _).mem_iff.mp F;rw[(k e d).1,(k e d).2]
  ·obtain⟨e,d,rfl⟩:=aV.mp<|(j4 _).mem_iff.mp F;rw[(k e d).1];obtain⟨q,J⟩:=List.exists_mem_of_ne_nil _ (h.ne e d)
   cases hc:Po.yW e.2 with
   | nil=>
    have:=Po.yF (h.np e d) q.1;rw[hc,Kl.vC (h.np e d) J]at this;exact absurd this.symm<|h.nz e d q J
   | cons=>rfl
 rw[e1];refine(He.Cn.toS g).uniq M.cn λo t=>?_;have V:Su.cS D o t=Su.cS m o t:=by
  rw[Kl.yM g.nd,Kl.yM h.nd];by_cases c:o∈m.map Prod.fst
  ·obtain⟨e,d,rfl⟩:=aV.mp c;rw[(k e d).1,(k e d).2,Po.yF<|h.np e d,Po.yz<|h.np e d]
  ·rcases Su.qI (D:=m) (o:=o)with⟨f,hf,z,_⟩|⟨_,z⟩
   ·exact absurd (aV.mpr ⟨f,hf,z⟩) c
   ·rcases Su.qI (D:=D) (o:=o)with⟨f,hf,p,_⟩|⟨_,p⟩
    ·exact absurd (by rw[<- B];exact aV.mpr ⟨f,hf,p⟩) c
    ·rw[z,p]
 rw[Su.AU g,<- Kl.yM g.nd,V];by_cases c:o.Perm (rg N)
 ·exact h.K hN pw o c t
 ·rw[He.off h.kp.pm c,He.off M.pm c]
def Tw{G:Nat->Prop}{r N:Nat}{w:ag}(hN:N<6)(h1:1<=N)(pw:w.Perm<|rg N)(hr:Rw G S r es)(lk:Kl.LK N w<|Su.sm es):∃(L:Nat) (S':jD) (fs:Es),o9 [.ref r] S=.ok (.ref L) S'/\Sm S' L fs/\Su.sm fs=Kl.K w/\l7 S S':=by
 have ks:=w4 es;have mk:=lk.many hN;rw[Su.pW]at mk;obtain⟨S1,c⟩:∃S1,S1=S++[O.lst<|(lg<|es.map Prod.fst).map zT]:=⟨_,rfl⟩;have q:l7 S S1:=by rw[c];ksr_p
 have p:jE S1 S.length=some ((lg<|es.map Prod.fst).map zT):=by rw[c];exact jW
 have m:=j4<|es.map Prod.fst;have M:EF (.ref r) S=.ok (.ref S.length) S1:=by
  show opt (kW S r) (λkvs=>match (kvs.map Prod.fst).all (λks=>!ks.isEmpty)with
   | true=>R.ok (A.ref S.length) (S++[.lst<|(lg<|kvs.map Prod.fst).map λks=>.tup<|ks.map .int])
   | false=>.no)=_
  have g:(es.map Su.kv).map Prod.fst=es.map Prod.fst:=by rw[bq];rfl
  have P:(es.map Prod.fst).all (λks=>!ks.isEmpty)=true:=dY.mpr λks t=>by
   obtain⟨e,d,rfl⟩:=aV.mp t;have U:e.1.Perm (rg N):=lk.kp.pm _<|ue lk d;have:=mC U
   cases f:e.1 with
   | nil=>rw[f]at this;have:0=N:=this;lia
   | cons=>rfl
  rw[hr.l,jT,g,P,c]
 obtain⟨L,S2,fs,e2,W,F,D⟩:=UK (cap:=[some 0]) (src:=lV<|jZ (f1 EF)<|jA (jB 0) jL) (ex:=qP<|jA (jB 0)<|jA (eFn o8<|jA (jO w6 (jB 1)<|jB 0) jL) jL) (τ:=[.ref r]) (S0:=S) (show lV _ _ _=_ from m8 (by dsimp[ki,bools,M]) p) p (λo=>Po.yW<|Su.vS (Su.sm es) o) (λo J T V=>by
   obtain⟨e,d,rfl⟩:=aV.mp<|m.mem_iff.mp J;have j:=ue lk d;have k:=hr.go ((q.trans V).kz (Q:=λ_=>True)) (λ_ _ z=>z.elim) λ_ _ z=>z;have lt:=lk.len hN pw j;obtain⟨L,C,e1,B,_,g⟩:=Ux (k.a e d).1 (lk.np _ j) (lk.nz _ j)<|bG lt ⋯;have v:Su.vS (Su.sm es) e.1=e.2.2:=by rw[Su.GG,VW (yR lk) d];rfl
   refine⟨L,C,?_,by rw[v];exact B,g⟩;have Y:=Fq k.l (yR lk) d;show qP _ [zT e.1,.ref r] T=_;dsimp[ki,qe,bools,Y,e1,p8<|show([_,_]:ae).length<=16777216 by simp])<|by rw[m.length_eq,aH];lia
 refine⟨L,S2,fs,?_,W,?_,q.trans D⟩
 ·unfold o9 yt yd;dsimp[ki,bools,mK,Nat.reduceAdd,Nat.reduceSub,e2]
 ·rw[F,<- ks];exact Uo hN pw lk
end K40
namespace K40
open PySem L2 Am
open Po (Pl Ok Bd)
theorem zA{k:Nat}:∀l:Pl,qo (qS S<|k+2) (Po.pl l) (Po.pl l)=some true
 | []=>rfl
 | p::l=>by
  have e:qS S (k+2) (Po.pA p) (Po.pA p)=some true:=by
   show qo (qS S<|k+1) (([p.1,p.2]:ag).map .int) (([p.1,p.2]:ag).map .int)=_;rw[xY,bg rfl]
  show(qS S (k+2) (Po.pA p)<|Po.pA p).bind _=_;rw[e];show Option.map _ (qo (qS S<|k+2) (Po.pl l)<|Po.pl l)=_;rw[zA l];rfl
def aac{a b:Nat}{l:Pl}(h:jE S a=some (Po.pl l))(h':jE S b=some (Po.pl l)):qS S 12 (.ref a) (.ref b)=some true:=by
 show(jE S a).bind (λxs=>(jE S b).bind λys=>qo (qS S 11) xs ys)=_;rw[h,h'];exact zA (k:=9) l
open Po (Pl Ok Bd)
open Su (Es At Vl)
theorem Hr{k:Nat}:∀{es fs:Es},At S es->At S fs->Su.sm es=Su.sm fs->qo (qS S<|k+4) (es.map Su.ent) (fs.map Su.ent)=some true
 | [],[],_,_,_=>rfl
 | [],f::fs,_,_,h=>nomatch h
 | e::es,[],_,_,h=>nomatch h
 | e::es,f::fs,h1,h2,h3=>by
  obtain⟨d,m⟩:=List.cons.inj h3;have d:(e.1,e.2.2)=(f.1,f.2.2):=d;obtain⟨e1,e2⟩:=Prod.mk.inj d;have j:=h1 e<|aL ..;have g:=h2 f<|aL ..;rw[<- e2]at g;have t:qS S (k+3) (.tup<|e.1.map .int) (.tup<|f.1.map .int)=some true:=by
   rw[<- e1];show qo (qS S<|k+2) _ _=_;rw[xY,bg rfl]
  have B:qS S (k+3) (.ref e.2.1) (.ref f.2.1)=some true:=by
   show(jE S e.2.1).bind (λxs=>(jE S f.2.1).bind λys=>qo (qS S<|k+2) xs ys)=_;rw[j,g];exact zA (k:=k) _
  have q:qS S (k+4) (Su.ent e) (Su.ent f)=some true:=by
   skip
   show(qS S (k+3) _ _).bind (λp=>((qS S (k+3) _ _).bind λq=>(qo (qS S<|k+3) [] []).map λr=>q && r).map λq=>p && q)=_;rw[t,B];rfl
  show(qS S (k+4) (Su.ent e)<|Su.ent f).bind _=_;rw[q]
  skip
  rw[Hr (λx c=>h1 x<|aN _ c) (λx c=>h2 x<|aN _ c) m];rfl
def Ys{n:Nat}{fs:Es}(h:Sm S n es)(h':Sm S m fs)(e:Su.sm es=Su.sm fs):qS S 12 (.ref n) (.ref m)=some true:=by
 show(jE S n).bind (λxs=>(jE S m).bind λys=>qo (qS S 11) xs ys)=_;rw[h.l,h'.l];exact Hr (k:=7) h.a h'.a e
def HY{α:Type}{n:Nat}{xs:List α}(h:jE S n=some (xs.map λ_=>A.bl true)):A8 (.ref n) S=.ok (.bl true) S:=by
 show opt (jE S n) _=_;rw[h];show opt (A.Tr _) _=_;have e:∀xs:List α,A.Tr (xs.map λ_=>A.bl true)=some (xs.map λ_=>true):=λxs=>by
  induction xs with
  | nil=>rfl
  | cons x xs c=>rw[bE,yl,c];rfl
 rw[e,jT];have d:∀xs:List α,((xs.map λ_=>true).all λb=>b)=true:=λxs=>by
  induction xs with
  | nil=>rfl
  | cons x xs c=>exact c
 rw[d]
open Po (Pl iv)
open Su (Es En At)
open Fw (rg)
def BH{α:Type}{xs:List α}(u v:α->A){n:Nat}{src:Ic}{e:Ex}(hs:src τ S=.ok (kY n (xs.map λx=>A.tup [u x,v x]).length) S1)(J:jE S1 n=some (xs.map λx=>A.tup [u x,v x]))
  (step:∀x∈xs,∀T,l7 S1 T->∃T2,e (u x::v x::lN cap τ) T=.ok (.bl true) T2/\l7 T T2) (U:xs.length<=16777216) :
  ∃(L:Nat) (S':jD),kF (none::none::cap) src (y_ 2<|qw (kh 0)<|qw (kh 1) za) oW e τ S=.ok (.ref L) S'/\A8 (.ref L) S'=.ok (.bl true) S'/\l7 S1 S':=by
 have j:(xs.map λx=>A.tup [u x,v x]).length=xs.length:=aH ..;obtain⟨S',h1,h2⟩:=vg (s:=kY n (xs.map λx=>A.tup [u x,v x]).length) (g:=y_ 2<|qw (kh 0)<|qw (kh 1) za) (t:=oW) (e:=e) (P:=λT=>l7 S1 T) (T:=λd=>∃y z,d=y::z::lN cap τ) (λi=>(xs.map λx=>A.tup [u x,v x]).getD i .unb) (λ_=>true) (λ_=>.bl true) (λi T c h=>by
   have c:i<(xs.map λx=>A.tup [u x,v x]).length:=c;show(jE T n).bind _=_;rw[h.lst _ _ (λz=>z) J,di,aJ,aF c];rfl) (λT h=>by
   show(match jE T n with
    | some ys=>decide (ys.length<=(xs.map λx=>A.tup [u x,v x]).length)
    | none=>false)=true
   rw[h.lst _ _ (λz=>z) J];simp)
  (λi d T c ⟨y,z,m⟩ h=>by
   have c:i<(xs.map λx=>A.tup [u x,v x]).length:=c;subst m;have f:i<xs.length:=()
   have e0:(xs.map λx=>A.tup [u x,v x]).getD i .unb=.tup [u xs[i],v xs[i]]:=by
    rw[aJ,aO,aF f];rfl
   obtain⟨T2,e2,k⟩:=step xs[i] (dZ f) T h;exact⟨u xs[i]::v xs[i]::lN cap τ,T,T,by rw[e0];rfl,rfl,⟨_,_,rfl⟩,(λz=>nomatch z),λ_=>⟨T2,e2,h.trans k⟩⟩) (xs.map λx=>A.tup [u x,v x]).length 0 (lN (none::none::cap) τ) S1 rfl ⟨_,_,rfl⟩ Kp.refl
 refine⟨S'.length,S'++[.lst<|((List.range' 0 (xs.map λx=>A.tup [u x,v x]).length).filter λ_=>true).map λ_=>.bl true],?_,?_,h2.lay⟩
 ·unfold kF;rw[hs,R.mF];show(m9 (kY n (xs.map λx=>A.tup [u x,v x]).length) _ oW e (xs.map λx=>A.tup [u x,v x]).length 0 (lN (none::none::cap) τ) S1).r_ _=_;rw[h1,R.lB];refine kZ ?_;rw[aH];exact bG (cG _ _) (by rw[List.length_range',j];exact U)
 ·exact HY jW
def LO{n:Nat}{xs:ae}{src:Ic}(hs:src τ S=.ok (kY n xs.length) S)(J:jE S n=some xs)(h2:∀x∈xs,∃a b,x=.tup [a,b])(U:xs.length<=16777216) :
  ∃(L:Nat) (S':jD),kF [none] src (kh 0) oW (tZ (jZ (f2 vU)<|jA (jB 0)<|jA (eC<|.ty "tuple") jL)<|jO (vN false) (jZ (f1 tu)<|jA (jB 0) jL)<|eC<|.int 2) τ S=.ok (.ref L) S'/\A8 (.ref L) S'=.ok (.bl true) S'/\l7 S S':=by
 have d:=Ax (cap:=[]) (t:=oW) (e:=tZ (jZ (f2 vU)<|jA (jB 0)<|jA (eC<|.ty "tuple") jL)<|jO (vN false) (jZ (f1 tu)<|jA (jB 0) jL)<|eC<|.int 2) hs J (λ_=>true) (λ_=>.bl true) (λ_ _=>rfl) (λx c _=>by
  obtain⟨a,b,rfl⟩:=h2 x c;show tZ _ _ [.tup [a,b]] S=_;dsimp[ki,qe,bools,show B0 .tup "tuple" = some true from rfl,bJ,cZ,cN,Nat.reduceAdd,show(((2:Nat):Int) == 2)=true from rfl]) U
 rw[dm.mpr λ_ _=>rfl]at d;exact⟨_,_,d,HY jW,Kp.refl.lay⟩
def Hi{i:Int}:kJ [.int i] S=.ok (.bl true) S:=by
 unfold kJ uZ uK;dsimp[ki,bools,mK,Nat.reduceAdd,Nat.reduceSub,show B0 .int "int" = some true from rfl,show B0 .int "bool" = some false from rfl,c5]
def isl{n:Nat}(h:jE S n=some xs):vU (.ref n) (.ty "list") S=.ok (.bl true) S:=by
 dsimp[D7];show opt ((A.ref n).kd S) _=_;have:(A.ref n).kd S=some .lst:=by
  show(jE S n).map _=_;rw[h];rfl
 rw[this];rfl
def Nq{a:Nat}{p:Pl}(J:jE S a=some (Po.pl p))(U:p.length<=16777216):∃S',mR [.ref a,.ref a] S=.ok (.bl true) S'/\l7 S S':=by
 have m:=isl J;obtain⟨t,S1,e1,k,d⟩:=LO (τ:=[.ref a,.ref a]) (src:=lV<|jB 0) (m8 (by dsimp[ki,bools]) J) J (λx j=>by
  obtain⟨q,_,rfl⟩:=aV.mp j;exact⟨_,_,rfl⟩)<|by rw[Ba];exact U
 have c:=d.lst _ _ (λz=>z) J;have eq:vN false (.ref a) (.ref a) S1=.ok (.bl true) S1:=NY<|aac c c;obtain⟨L2,S2,e2,g,f⟩:=BH (xs:=p) (λq=>.int q.1) (λq=>.int q.2) (cap:=[]) (src:=lV<|jB 0) (e:=tZ (eFn kJ<|jA (jB 0) jL)<|eFn kJ<|jA (jB 1) jL) (τ:=[.ref a,.ref a]) (S:=S1) (S1:=S1) (n:=a) (m8 (by dsimp[ki,bools]) c) c (λq _ T _=>⟨T,by
  show tZ _ _ [.int q.1,.int q.2] T=_;dsimp[ki,qe,bools,Hi],Kp.refl⟩) U
 refine⟨S2,?_,d.trans f⟩;unfold mR rE rQ;dsimp[ki,qe,bools,mK,Nat.reduceAdd,Nat.reduceSub,m,e1,k,cI,eq,e2,g]
def BB{n:Nat}{es fs:Es}(h:Sm S n es)(h':Sm S m fs)(e:Su.sm es=Su.sm fs)(hl:es.length<=120)(U:∀x∈es,x.1.length<=20/\x.2.2.length<=1000):∃S',mq [.ref n,.ref m] S=.ok (.bl true) S'/\l7 S S':=by
 have K:=isl h.l;have le:(es.map Su.ent).length<=16777216:=by rw[aH];lia
 obtain⟨M,S1,e1,J,f⟩:=LO (τ:=[.ref n,.ref m]) (src:=lV<|jB 0) (m8 (by dsimp[ki,bools]) h.l) h.l (λx d=>by
  obtain⟨q,_,rfl⟩:=aV.mp d;exact⟨_,_,rfl⟩) le
 have h1:=h.kp f;have eq:vN true (.ref n) (.ref m) S1=.ok (.bl false) S1:=Qq<|Ys h1 (h'.kp f) e;obtain⟨L2,S2,e2,C,g⟩:=BH (xs:=es) (λx=>.tup<|x.1.map .int) (λx=>.ref x.2.1) (cap:=[]) (src:=lV<|jB 0) (e:=jZ (f2 vU)<|jA (jB 0)<|jA (eC<|.ty "tuple") jL) (τ:=[.ref n,.ref m]) (S:=S1) (S1:=S1) (n:=n) (m8 (by dsimp[ki,bools]) h1.l) h1.l (λq _ T _=>⟨T,by
  show jZ _ _ [.tup<|q.1.map .int,.ref q.2.1] T=_;dsimp[ki,qe,bools,show B0 .tup "tuple" = some true from rfl],Kp.refl⟩) ()
 have h2:=h1.kp g;obtain⟨L,S3,e3,D,p⟩:=BH (xs:=es) (λx=>.tup<|x.1.map .int) (λx=>.ref x.2.1) (cap:=[]) (src:=lV<|jB 0) (e:=tZ (eFn mR<|jA (jB 1)<|jA (jB 1) jL)<|jZ (f1 A8)<|jA (kF [none] (lV<|jB 0) (kh 0) oW<|eFn kJ<|jA (jB 0) jL) jL) (τ:=[.ref n,.ref m]) (S:=S2) (S1:=S2) (n:=n) (m8 (by dsimp[ki,bools]) h2.l) h2.l (λq c T F=>by
  obtain⟨T1,G,k⟩:=Nq ((h2.kp F).a q c)<|bG (U q c).2 ⋯;have j:=Rb (xs:=q.1.map .int) (cap:=[]) (src:=lV<|jB 0) (t:=oW) (e:=eFn kJ<|jA (jB 0) jL) (τ:=[.tup<|q.1.map .int,.ref q.2.1]) (S:=T1) (S1:=T1) (RB<|by dsimp[ki,bools]) (λ_=>true) (λ_=>.bl true) (λ_ _=>rfl) (λx d _=>by
   obtain⟨i,_,rfl⟩:=aV.mp d;show eFn _ _ [.int i] T1=_;dsimp[ki,qe,bools,Hi]) (by rw[aH];have:=(U q c).1;lia)
  rw[dm.mpr λ_ _=>rfl]at j;have B:=HY (S:=T1++[O.lst<|(q.1.map A.int).map λ_=>.bl true]) (n:=T1.length) jW;refine⟨T1++[O.lst<|(q.1.map A.int).map λ_=>.bl true],?_,k.lay⟩;show tZ _ _ [.tup<|q.1.map .int,.ref q.2.1] T=_;dsimp[ki,qe,bools,G,j,B]) ()
 refine⟨S3,?_,(f.trans g).trans p⟩;unfold mq tR sP;dsimp[ki,qe,bools,mK,Nat.reduceAdd,Nat.reduceSub,K,e1,J,cI,eq,e2,C,e3,D]
end K40
namespace K40
open PySem L2 Am
def W8{n:Nat}{xs:ae}{g:Tg}{c:Am.Sm}{src:Ic}(hs:src τ S=.ok (xP n xs.length) S1)(Inv:Nat->ae->jD->Prop)(J:RS->Prop)(h0:Inv 0 τ S1)(U:∀i τ S,Inv i τ S->jE S n=some xs)
  (step:∀(i:Nat) x τ S,xs[i]?=some x->Inv i τ S->∃τ1 S1,g (.tup [.int i,x]) τ S=.ok τ1 S1/\((∃τ' S',c τ1 S1=.nx τ' S'/\Inv (i+1) τ' S')\/(∃a S',c τ1 S1=.rt a S'/\J (.rt a S'))))
  (fin:∀τ S,Inv xs.length τ S->J (.nx τ S)):J (lO src g c τ S):=by
 unfold lO;rw[hs];refine Ah (s:=xP n xs.length) Inv J (λi τ S d h=>?_) (λτ S h=>⟨?_,fin τ S h⟩) _ 0 τ S1 rfl h0
 ·have d:i<xs.length:=d;obtain⟨τ1,S1,e,q⟩:=step i xs[i] τ S (aF d) h;exact⟨.tup [.int i,xs[i]],τ1,S1,by show(jE S n).bind _=_;rw[U i τ S h,di,aF d];rfl,e,q⟩
 ·show(match jE S n with
   | some ys=>decide (ys.length=xs.length)
   | none=>false)=true
  rw[U _ τ S h];simp
open Po (Pl iv)
open Su (Es En At)
open Fw (rg)
abbrev pk (k:Nat):Int×Int:=((99:Int)+k,1)
structure Chg (S:jD)(n i:Nat)(es:Es):Prop where
 l:jE S n=some (es.map Su.ent)
 a:∀(j:Nat) e,es[j]?=some e->jE S e.2.1=some (Po.pl<|if j<i then e.2.2++[pk j]else e.2.2)
def ZS{d r:Nat}{es:Es}(h:Sm S r es)(U:Ds d r es)(hl:es.length<=120)(hp:∀x∈es,x.2.2.length<=1000) :
  ∃(y6 y7:A) (S':jD),lO Eo (y_ 2<|qw (kh 6)<|qw (kh 7) za) Ey [x0,x1,x2,x3,x4,.ref r,x6,x7,x8] S=.nx [x0,x1,x2,x3,x4,.ref r,y6,y7,x8] S'/\Chg S' r es.length es/\Kp (λx=>d<=x) S S':=by
 refine W8 (n:=r) (xs:=es.map Su.ent) (S1:=S) (show Eo _ _=_ from JI (by dsimp[ki,bools]) h.l)
  (λi τ T=>∃(y6 y7:A),τ=[x0,x1,x2,x3,x4,.ref r,y6,y7,x8]/\Chg T r i es/\Kp (λx=>d<=x) S T)
  (λR=>∃(y6 y7:A) (S':jD),R=.nx [x0,x1,x2,x3,x4,.ref r,y6,y7,x8] S'/\Chg S' r es.length es/\Kp (λx=>d<=x) S S') ⟨_,_,rfl,⟨h.l,λj e g=>by rw[aI<|fq _];exact h.a e<|aW g⟩,Kp.refl⟩ (λi τ T F=>by obtain⟨_,_,_,c,_⟩:=F;exact c.l) ?_ ?_
 ·rintro i z τ T D ⟨y6,y7,rfl,c,kp⟩;rw[aO]at D;obtain⟨e,g,rfl⟩:=aX.mp D;have B:=aW g;have m:=(aG.mp g).1;obtain⟨K,L⟩:=U.2.2 e B;have le:=c.a i e g;rw[aI<|fH _]at le;have lt:=qB le;refine⟨[x0,x1,x2,x3,x4,.ref r,.int i,Su.ent e,x8],T,rfl,.inl ⟨[x0,x1,x2,x3,x4,.ref r,.int i,Su.ent e,x8],T.set e.2.1<|.lst<|Po.pl e.2.2++[Po.pA<|pk i],?_,_,_,rfl,⟨?_,λj f hf=>?_⟩,kp.set<|.inl K⟩⟩
  ·unfold Ey;have G:(Po.pl e.2.2).length<16777216:=by rw[Ba];have:=hp e B;lia
   dsimp[ki,qe,bools,Su.ent,Aw,le,tX G,p8<|show([_,_]:ae).length<=16777216 by simp];rfl
  ·rw[pD ()];exact c.l
  ·have p:=(aG.mp hf).1;by_cases q:j=i
   ·subst q;rw[g]at hf
    cases hf
    rw[sN lt,aK<|eS _];unfold Po.pl;rw[bN];rfl
   ·have J:f.2.1≠e.2.1:=by
     have C:=cU.mp U.1;obtain⟨_,t⟩:=aG.mp hf;obtain⟨_,k⟩:=aG.mp g
     rcases Nat.lt_or_gt_of_ne q with z|z
     ·have:=(C j i p m z).2;rw[t,k]at this;exact this
     ·have:=(C i j m p z).2;rw[t,k]at this;exact λw=>this w.symm
    rw[pD<|cV J,c.a j f hf];by_cases w:j<i
    ·rw[aK w,aK ()]
    ·rw[aI w,aI ()]
 ·rintro τ T ⟨y6,y7,rfl,c,kp⟩;rw[aH]at c;exact⟨y6,y7,T,rfl,c,kp⟩
theorem Lq{k:Nat}:∀{ps:List<|Nat×Nat×Pl},(∀x∈ps,jE S x.1=some (Po.pl x.2.2)/\jE S x.2.1=some (Po.pl x.2.2))->qo (qS S<|k+3) (ps.map λx=>A.ref x.1) (ps.map λx=>A.ref x.2.1)=some true
 | [],_=>rfl
 | x::ps,h=>by
  obtain⟨a,b⟩:=h x<|aL ..;have q:qS S (k+3) (.ref x.1) (.ref x.2.1)=some true:=by
   show(jE S x.1).bind (λxs=>(jE S x.2.1).bind λys=>qo (qS S<|k+2) xs ys)=_;rw[a,b];exact zA (k:=k) _
  show(qS S (k+3) (.ref x.1)<|.ref x.2.1).bind _=_;rw[q];show Option.map _ (qo (qS S<|k+3) (ps.map λx=>A.ref x.1)<|ps.map λx=>A.ref x.2.1)=_;rw[Lq λy c=>h y<|aN _ c];rfl
def ZA{fs:Es}(h:Sm S m fs)(hl:fs.length<=120)(hp:∀x∈fs,x.2.2.length<=1000) :
  ∃(L:Nat) (S':jD) (qs:am),kF [none,none] (Ig<|jB 4) (y_ 2<|qw (kh 0)<|qw (kh 1) za) oW (jO mE (jO u5 (jB 1)<|eC<|.int 1)<|vW<|jA (qP<|jA (jO mE (eC<|.int 99)<|jB 0)<|jA (eC<|.int 1) jL) jL) [x0,x1,x2,x3,.ref m,x5,x6,x7,x8] S=.ok (.ref L) S'/\jE S' L=some (qs.map .ref)/\qs.length=fs.length/\(∀(j q:Nat) e,qs[j]?=some q->fs[j]?=some e->jE S' q=some (Po.pl<|e.2.2++[pk j]))/\l7 S S':=by
 have G:(fs.map Su.ent).length=fs.length:=aH ..;obtain⟨ys,S',h1,Z,qs,rfl,h2,h3⟩:=BA (s:=xP m (fs.map Su.ent).length) (g:=y_ 2<|qw (kh 0)<|qw (kh 1) za) (e:=jO mE (jO u5 (jB 1)<|eC<|.int 1)<|vW<|jA (qP<|jA (jO mE (eC<|.int 99)<|jB 0)<|jA (eC<|.int 1) jL) jL) (T:=λp=>∃y z,p=[y,z]) (λi acc T=>l7 S T/\∃qs:am,acc=qs.map .ref/\qs.length=i/\∀(j q:Nat) e,qs[j]?=some q->fs[j]?=some e->jE T q=some (Po.pl<|e.2.2++[pk j]))
  (λi acc p T J ⟨y,z,Y⟩ hP=>by
   have J:i<(fs.map Su.ent).length:=J;obtain⟨F,qs,rfl,N,V⟩:=hP;subst Y;have t:fs[i]?=some fs[i]:=aF ();have M:=aW t;have le:=(h.kp F).a _ M;obtain⟨T1,d⟩:∃T1,T1=T++[O.lst [Po.pA<|pk i]]:=⟨_,rfl⟩;have P:jE T1 T.length=some [Po.pA<|pk i]:=by rw[d];exact jW
   have B:jE T1 fs[i].2.1=some (Po.pl fs[i].2.2):=by rw[d];exact lH le
   have U:=WQ B P (by rw[Ba];have:=hp _ M;show _+1<=_;lia);have W:newL [Po.pA<|pk i] T=.ok (.ref T.length) T1:=by rw[d];exact p8 (show 1<=16777216 by decide)
   have K:l7 T (T1++[O.lst<|Po.pl fs[i].2.2++[Po.pA<|pk i]]):=by rw[d];exact Kp.refl.lay.lay
   refine⟨.tup [.int i,Su.ent fs[i]],[.int i,Su.ent fs[i]],T,_,_,?_,rfl,⟨_,_,rfl⟩,?_,F.trans K,qs++[T1.length],by rw[bN];rfl,by rw[br,N];rfl,λj q e f hf=>?_⟩
   ·show(jE T m).bind _=_;rw[(h.kp F).l,di,aO,t];rfl
   ·have C:newL [.tup [.int<|99+(i:Int),.int 1]] T=.ok (.ref T.length) T1:=W;have D:mE (.ref fs[i].2.1) (.ref T.length) T1=_:=U;dsimp[ki,qe,bools,Su.ent,Aw,p8<|show([_,_]:ae).length<=16777216 by simp,C,D]
   ·by_cases c:j<qs.length
    ·rw[bB c]at f;exact K.lst _ _ (λz=>z) (V j q e f hf)
    ·have:j=qs.length:=by
      have:=(aG.mp f).1;rw[br]at this;have:j<qs.length+1:=this
      lia
     subst this;rw[N]at hf ⊢;rw[t]at hf
     cases hf
     rw[f_<|aR _,iQ]at f
     cases f
     have:Po.pl (fs[i].2.2++[pk i])=Po.pl fs[i].2.2++[Po.pA<|pk i]:=by unfold Po.pl;rw[bN];rfl
     rw[this];exact jW) (λacc T hP=>by
   show(match jE T m with
    | some ys=>decide (ys.length=(fs.map Su.ent).length)
    | none=>false)=true
   rw[(h.kp hP.1).l];simp) (fs.map Su.ent).length 0 [] [.unb,.unb] S rfl ⟨_,_,rfl⟩ ⟨Kp.refl,[],rfl,rfl,λj q e f=>by cases j<;>cases f⟩
 refine⟨S'.length,S'++[.lst<|qs.map .ref],qs,?_,jW,h2.trans G,λj q e f hf=>lH<|h3 j q e f hf,Z.lay⟩;have hs:Ig (jB 4) [x0,x1,x2,x3,.ref m,x5,x6,x7,x8] S=.ok (xP m (fs.map Su.ent).length) S:=JI (by dsimp[ki,bools]) h.l;unfold kF;rw[hs,R.mF];show(m9 (xP m (fs.map Su.ent).length) _ oW _ (fs.map Su.ent).length 0 [.unb,.unb] S).r_ _=_;rw[h1,R.lB];exact kZ (by rw[aH,h2];have:(xP m (fs.map Su.ent).length).k=fs.length:=G;lia)
end K40
namespace K40
open PySem L2 Am
open Po (Pl iv)
open Su (Es En At)
open Fw (rg)
def Ksz{N:Nat}{o:ag}{es:Es}(J:N<6)(U:o.Perm<|rg N)(e:Su.sm es=Kl.K o):es.length<=120/\∀x∈es,x.1.length<=20/\x.2.2.length<=1000:=by
 have z:=Kl.GA J U;have m:=z.many J;rw[<- e,Su.pW]at m;refine⟨m,λx d=>?_⟩;have c:(x.1,x.2.2)∈Kl.K o:=pX e d;have:=mC<|z.pm _ c;have l:=(z.pb c).2;exact⟨by show x.1.length<=20;have this:x.1.length=N:=this;lia,by show x.2.2.length<=1000;have l:x.2.2.length<=2 * 10+1:=l;lia⟩
def CG{S:jD}{N:Nat}{o:ag}(J:N<6)(h1:1<=N)(U:o.Perm<|rg N):∃(r L:Nat) (S1 S':jD) (fs:Es),qE [zT o,.ref S.length] (S++[.dct []])=.ok (.ref r) S1/\o9 [.ref r] S1=.ok (.ref L) S'/\Sm S' L fs/\Su.sm fs=Kl.K o/\l7 S S':=by
 obtain⟨r,S1,j,e1,r1,d,c⟩:=YJ (S:=S) J U;obtain⟨L,S2,fs,e2,g,f,e⟩:=Tw J h1 U r1 d;exact⟨r,L,S1,S2,fs,e1,e2,g,f,c.trans e⟩
def at8{j:Int}(h0:0<=j)(h1:j<8):∃n:Nat,(1<=n/\n<6)/\t6 [A.int 3,.int 4,.int 2,.int 4,.int 5,.int 3,.int 4,.int 1] j=some (.int n):=by
 have:j=0\/j=1\/j=2\/j=3\/j=4\/j=5\/j=6\/j=7:=()
 rcases this with rfl|rfl|rfl|rfl|rfl|rfl|rfl|rfl
 ·exact⟨3,by decide,rfl⟩
 ·exact⟨4,by decide,rfl⟩
 ·exact⟨2,by decide,rfl⟩
 ·exact⟨4,by decide,rfl⟩
 ·exact⟨5,by decide,rfl⟩
 ·exact⟨3,by decide,rfl⟩
 ·exact⟨4,by decide,rfl⟩
 ·exact⟨1,by decide,rfl⟩
def Yb(ns:ag)(hl:ns.length<=63):∃S',AN [.frz<|ns.map .int] []=.ok (.bl true) S':=by
 have P:∀(S:jD) (k:Int),0<=k->∃c,nP [.frz<|ns.map .int,.int k] S=.ok (.int c) S:=λS k h=>VH h;obtain⟨c0,ec0⟩:=P [] 0 ⋯;obtain⟨S1,e1,b1,k1⟩:=Jx (S:=[]) (c:=c0) (k:=1) ⋯ ⋯;have e1:pF [.int c0,.int 1] []=.ok (.ref 0) S1:=e1;have b1:Nj S1 0:=b1;obtain⟨L,hL⟩:∃L:ae,L=[A.int 3,.int 4,.int 2,.int 4,.int 5,.int 3,.int 4,.int 1]:=⟨_,rfl⟩;obtain⟨S3,hS3⟩:∃S3,S3=S1++[O.lst L]:=⟨_,rfl⟩;have n3:newL [A.int 3,.int 4,.int 2,.int 4,.int 5,.int 3,.int 4,.int 1] S1=.ok (.ref S1.length) S3:=by rw[hS3,hL];exact p8 (show 8<=16777216 by decide)
 have l3:jE S3 S1.length=some L:=by rw[hS3];exact jW
 have b3:Nj S3 0:=b1.kp (c:=λ_=>False) (by rw[hS3];exact Kp.refl.lay) λz=>z;have lt1:0<S1.length:=by obtain⟨_,_,e,_⟩:=b1;exact qB e
 obtain⟨j,S4,e4,j0,j1,b4,k4⟩:=digit (m:=8) b3 ⋯ ⋯;have l4:=k4.lst _ _ () l3;obtain⟨n,hn,em⟩:=at8 j0 j1;rw[<- hL]at em;obtain⟨o,S5,e5,M,b5,k5⟩:=GX (n:=(n:Int)) b4 () ();have M:o.Perm (rg n):=M;have n6:n<6:=()
 obtain⟨r,D,S6,S7,fs,e6,e7,s7,q7,k7⟩:=CG (S:=S5) n6 hn.1 M;obtain⟨R,S8,f,e8,s8,q8,d8,k8⟩:=E7 (S:=S7) n6 M;obtain⟨zr,zp⟩:=Ksz n6 M q8;obtain⟨zf,zq⟩:=Ksz n6 M q7;obtain⟨S9,e9,k9⟩:=BB s8 (s7.kp k8) (q8.trans q7.symm) zr zp;obtain⟨y6,y7,g,e10,F,k10⟩:=ZS (x0:=.frz<|ns.map .int) (x1:=.ref 0) (x2:=.int n) (x3:=zT o) (x4:=.ref D) (x6:=.unb) (x7:=.unb) (x8:=.unb) (s8.kp k9) d8 zr λx K=>(zp x K).2;have lD:=qB s7.l;have old:l7 S7 g:=(k8.trans k9).old k10 λm lm _ z=>()
 have s10:=s7.kp old;have cr:=Ax (cap:=[]) (src:=lV<|jB 5) (t:=oW) (e:=jO u5 (jB 0)<|eC<|.int 1) (τ:=[.frz<|ns.map .int,.ref 0,.int n,zT o,.ref D,.ref R,y6,y7,.unb]) (S:=g) (n:=R) (m8 (by dsimp[ki,bools]) F.l) F.l (λ_=>true) (λx=>match x with
  | .tup [_,v]=>v
  | v=>v) (λ_ _=>rfl) (λx K _=>by
   obtain⟨e,_,rfl⟩:=aV.mp K;show jO _ _ _ [Su.ent e] g=_;dsimp[ki,qe,bools,Su.ent,Aw])<|by rw[aH];lia
 have er:(((f.map Su.ent).filter λ_=>true).map λx=>match x with
  | .tup [_,v]=>v
  | v=>v)=f.map λe=>A.ref e.2.1:=by
  rw[dm.mpr λ_ _=>rfl,bq];rfl
 rw[er]at cr;obtain⟨T,q⟩:∃T,T=g++[O.lst<|f.map λe=>A.ref e.2.1]:=⟨_,rfl⟩;rw[<- q]at cr;have G:l7 g T:=by rw[q];ksr_p
 obtain⟨L12,d,B,e12,l12,qn,qa,C⟩:=ZA (x0:=.frz<|ns.map .int) (x1:=.ref 0) (x2:=.int n) (x3:=zT o) (x5:=.ref R) (x6:=y6) (x7:=y7) (x8:=.unb) (s10.kp G) zf λx K=>(zq x K).2;have l11:jE d g.length=some (f.map λe=>A.ref e.2.1):=C.lst _ _ (λz=>z) (by rw[q];exact jW);have lrf:f.length=fs.length:=by rw[WN q8,WN q7]
 have eqv:qS d 12 (.ref g.length) (.ref L12)=some true:=by
  show(jE d g.length).bind (λxs=>(jE d L12).bind λys=>qo (qS d 11) xs ys)=_;rw[l11,di,l12,di];obtain⟨ps,Z⟩:∃ps:List<|Nat×Nat×Pl,ps=(List.range f.length).map λi=>((f.getD i ([],0,[])).2.1,B.getD i 0,(f.getD i ([],0,[])).2.2++[pk i]):=⟨_,rfl⟩;have m1:(f.map λe=>A.ref e.2.1)=ps.map λx=>A.ref x.1:=by
   rw[Z,bq];refine ji (by rw[aH,aH,b8]) λi h1 h2=>?_;rw[aH]at h1;rw[cj,cj,dJ];show A.ref f[i].2.1=A.ref (f.getD i ([],0,[])).2.1;rw[aJ,aF h1];rfl
  have m2:B.map A.ref=ps.map λx=>A.ref x.2.1:=by
   rw[Z,bq];refine ji (by rw[aH,aH,b8,qn,lrf]) λi h1 h2=>?_;rw[aH]at h1;rw[cj,cj,dJ];show A.ref B[i]=A.ref (B.getD i 0);rw[aJ,aF h1];rfl
  rw[m1,m2];refine Lq (k:=8) λx K=>?_;rw[Z]at K;obtain⟨i,hi,rfl⟩:=aV.mp K;have hi:=cM.mp hi;have h2:i<B.length:=()
  have h3:i<fs.length:=()
  have ge:f.getD i ([],0,[])=f[i]:=by rw[aJ,aF hi];rfl
  have gq:B.getD i 0=B[i]:=by rw[aJ,aF h2];rfl
  have sm:(f[i].1,f[i].2.2)=(fs[i].1,fs[i].2.2):=by
   have a1:(Su.sm f)[i]?=some (f[i].1,f[i].2.2):=by unfold Su.sm;rw[aO,aF hi];rfl
   have a2:(Su.sm fs)[i]?=some (fs[i].1,fs[i].2.2):=by unfold Su.sm;rw[aO,aF h3];rfl
   rw[q8]at a1;rw[q7]at a2;exact aY<|a1.symm.trans a2
  have sp:f[i].2.2=fs[i].2.2:=(Prod.mk.inj sm).2;constructor
  ·show jE d (f.getD i ([],0,[])).2.1=some (Po.pl<|(f.getD i ([],0,[])).2.2++[pk i]);rw[ge];have:=F.a i f[i] (aF hi);rw[aK hi]at this;exact(G.trans C).lst _ _ (λz=>z) this
  ·show jE d (B.getD i 0)=some (Po.pl<|(f.getD i ([],0,[])).2.2++[pk i]);rw[ge,gq,sp];exact qa i B[i] fs[i] (aF h2) (aF h3)
 have ne:vN true (.ref g.length) (.ref L12) d=.ok (.bl false) d:=Qq eqv;have lR:jE d R=some (f.map Su.ent):=(G.trans C).lst _ _ (λz=>z) F.l;obtain⟨p,J⟩:∃p,p=d.set R (O.lst []):=⟨_,rfl⟩;have k13:Kp (λx=>S7.length<=x) d p:=by rw[J];exact Kp.refl.set (.inl d8.2.1)
 have cl:Ik (.ref R) [] d=.ok .non p:=by
  show opt (jE d R) _=_;rw[lR,jT,J]
 have old13:l7 S7 p:=(old.trans<|G.trans C).old k13 λm lm _ z=>()
 have s13:=s7.kp old13;obtain⟨c1,ec1⟩:=P p 1 ⋯;obtain⟨S14,e14,b14,k14⟩:=Jx (S:=p) (c:=c1) (k:=2) ⋯ ⋯;obtain⟨u,S15,e15,pu,b15,k15⟩:=GX (n:=4) b14 ⋯ ⋯;have pu:u.Perm (rg 4):=pu;obtain⟨U,S16,us,e16,s16,q16,d16,k16⟩:=E7 (S:=S15) (N:=4) ⋯ pu;obtain⟨v,V,S17,S18,vs,e17,e18,s18,q18,k18⟩:=CG (S:=S16) (N:=4) ⋯ ⋯ pu;obtain⟨zu,zv⟩:=Ksz ⋯ pu q16;obtain⟨S19,e19,k19⟩:=BB (s16.kp k18) s18 (q16.trans q18.symm) zu zv;have Y:l7 p S19:=(k14.old k15 λm lm _ z=>()).trans<|(k16.trans k18).trans k19;have s19:=s13.kp Y;obtain⟨W,S20,ws,e20,s20,q20,d20,k20⟩:=E7 (S:=S19) n6 M;obtain⟨zw,zx⟩:=Ksz n6 M q20;obtain⟨S21,e21,k21⟩:=BB s20 (s19.kp k20) (q20.trans q7.symm) zw zx;by_cases h5:n=5
 ·subst h5;refine⟨S19,?_⟩;unfold AN K9 KP;dsimp[ki,qe,bools,mK,Nat.reduceAdd,Nat.reduceSub,ec0,e1,n3,e4,l4,em,e5,Su.oM,e6,e7,e8,e9,cI,↓e10,cr,e12,ne,lR,cl,ec1,e14,e15,e16,e17,e18,e19,show(((5:Nat):Int) == 5)=true from rfl]
 ·have b5:((n:Int) == 5)=false:=c8.mpr ();refine⟨S21,?_⟩;unfold AN K9 KP;dsimp[ki,qe,bools,mK,Nat.reduceAdd,Nat.reduceSub,ec0,e1,n3,e4,l4,em,e5,Su.oM,e6,e7,e8,e9,cI,↓e10,cr,e12,ne,lR,cl,ec1,e14,e15,e16,e17,e18,e19,b5,e20,e21]
end K40
namespace K40
open PySem L2 Am
def all_mk{l:PySem.W.OpenLaw}{w:ah}{K:au}{h:aq}{mg:Str->bi}{fa:ak}(X:K.In h)(G:h.Ns mainGlobals mg)(hfa:mg "law" = some (.ref fa))
  (a1:Df K "is_whole" wg)
  (a2:Df K "need_pair" uW)
  (a3:Df K "is_exchange" rJ)
  (a4:Df K "exchanged_places" nX)
  (a5:Df K "exchanged" ux)
  (a6:Df K "falls" Ez)
  (a7:Df K "as_polynomial" p5)
  (a8:Df K "plus" Jb)
  (a9:Df K "times" DN)
  (a10:Df K "put_before" sL)
  (a11:Df K "as_sum" AD)
  (a12:Df K "need_like" uA)
  (a13:Df K "added" Fc)
  (a14:Df K "scaled" Ad)
  (a15:Df K "by_exchange" rG)
  (a16:Df K "need_few" wC)
  (a17:Df K "number_at_one" p9)
  (a18:Df K "kept_by_fall" qx)
  (a19:Df K "found_kept" qj)
  (a20:Df K "kept_sum" wu)
  (a21:Df K "_law_cell" vR)
  (a22:Df K "_law_bag" xZ)
  (a23:Df K "_law_mixed" t9)
  (a24:Df K "_law_digit" uY)
  (a25:Df K "_law_order" uU)
  (a26:Df K "_law_swapped" rq)
  (a27:Df K "_law_put" yo)
  (a28:Df K "_law_without_noughts" mT)
  (a29:Df K "_law_kept" tB)
  (a30:Df K "_law_told" wJ)
  (a31:Df K "_law_sum" yD)
  (a32:Df K "_law_whole" uq)
  (a33:Df K "_law_is_poly" rz)
  (a34:Df K "_law_is_sum" sS)
  (a35:Df K "law" Q4)
  (adu:PySem.W.nsIn K mainGlobals "isinstance" = some none)
  (adv:PySem.W.nsIn K mainGlobals "bool" = some none)
  (ady:PySem.W.nsIn K mainGlobals "int" = some none)
  (adA:PySem.W.nsIn K mainGlobals "len" = some none)
  (adB:PySem.W.nsIn K mainGlobals "list" = some none)
  (adH:PySem.W.nsIn K mainGlobals "tuple" = some none)
  (adK:PySem.W.nsIn K mainGlobals "range" = some none)
  (adP:PySem.W.nsIn K mainGlobals "sorted" = some none)
  (adQ:PySem.W.nsIn K mainGlobals "dict" = some none)
  (adR:PySem.W.nsIn K mainGlobals "abs" = some none)
  (adS:PySem.W.nsIn K mainGlobals "all" = some none)
  (adT:PySem.W.nsIn K mainGlobals "enumerate" = some none)
  {adj:Tok} (adU:PySem.W.nsIn K mainGlobals "MOST_THINGS" = some (some<|.int 5 adj))
  {a_AT_A_FALL:ak} (adV:PySem.W.nsIn K mainGlobals "AT_A_FALL" = some (some<|.ref a_AT_A_FALL)) (kp_AT_A_FALL:ZX K a_AT_A_FALL=some [((-1:Int),(1:Int)),((1:Int),(-1:Int))])
  : ∃fd:FuncData,(∀(s:aA) (v:af),BindsTo s fd ⟨[v],[]⟩ [("_law_script",v)])/\∀base:aq,K.In base->base.Ns mainGlobals mg->FnOk l.prog w K mg base qg 31 fa fd ["_law_script"] (qO K 1 AN):=by
 obtain⟨f,fd,a,F⟩:=a35;have e:=hfa.symm.trans (jb X G a)
 cases e
 have m:=cF X G adu;have V:=cF X G adv;have D:=cF X G ady;have d:=cF X G adA;have k:=cF X G adB;have j:=cF X G adH;have q:=cF X G adK;have p:=cF X G adP;have T:=cF X G adQ;have ac2:=cF X G adR;have U:=cF X G adS;have aco:=cF X G adT;have acK:∃t,mg "MOST_THINGS" = some (.int 5 t):=⟨adj,jb X G adU⟩;have g:∃a,mg "AT_A_FALL" = some (.ref a)/\ZX K a=some [((-1:Int),(1:Int)),((1:Int),(-1:Int))]:=⟨a_AT_A_FALL,jb X G adV,kp_AT_A_FALL⟩;refine⟨fd,λs v=>(by obtain⟨_,_,_,_,_,_,_,_,_,rfl,_,_⟩:=F.ex;exact .of_eq rfl),λbase _ _=>?_⟩;have E:En l.prog w K mg base:=⟨h,X,G⟩;have acv:=a1.kA E (λF=>Hg F m V D)<|Nr λ_ _ _ _ _ _ _=>rfl;have acB:=a2.kA E (λF=>DH F d)<|EG λ_ _ _ _ _ _ _ _=>rfl;have acw:=a3.kA E (λF=>AQ F acv)<|EG λ_ _ _ _ _ _ _ _=>rfl;have acy:=a4.kA E (λF=>vG F k j)<|us3 λ_ _ _ _ _ _ _ _ _=>rfl;have P:=a5.kA E (λF=>DJ F d acw acy)<|EG λ_ _ _ _ _ _ _ _=>rfl;have C:=a6.kA E (λF=>SS F q d)<|Nr λ_ _ _ _ _ _ _=>rfl;have M:=a7.kA E (λF=>yy F p)<|Nr λ_ _ _ _ _ _ _=>rfl;have acA:=a8.kA E (λF=>US F T M)<|EG λ_ _ _ _ _ _ _ _=>rfl;have L:=a9.kA E (λF=>N5 F M)<|EG λ_ _ _ _ _ _ _ _=>rfl;have B:=a10.kA E (λF=>B3 F acA)<|us3 λ_ _ _ _ _ _ _ _ _=>rfl;have J:=a11.kA E (λF=>MS F p)<|Nr λ_ _ _ _ _ _ _=>rfl;have acH:=a12.kA E (λF=>Dr F acB)<|EG λ_ _ _ _ _ _ _ _=>rfl;have ack:=a13.kA E (λF=>SG F acH B J)<|EG λ_ _ _ _ _ _ _ _=>rfl;have acm:=a14.kA E (λF=>Nm F B L J)<|EG λ_ _ _ _ _ _ _ _=>rfl;have acL:=a15.kA E (λF=>Ai F k g B P C L J)<|EG λ_ _ _ _ _ _ _ _=>rfl;have acP:=a16.kA E (λF=>GN F d acK)<|Nr λ_ _ _ _ _ _ _=>rfl;have acO:=a17.kA E (λF=>yI F T)<|Nr λ_ _ _ _ _ _ _=>rfl;have c:∀{Fs:ae->jD->R A} {kr:Nat},oh l.prog w K mg base (5+2 * kr) "found_kept" lQ Fs->oh l.prog w K mg base (5+2 * kr+1) "kept_by_fall" m_ (lC kP<|kO Fs):=λG=>a18.kA E (λF=>zb F P ack acm acL acO C G)<|us3 λ_ _ _ _ _ _ _ _ _=>rfl;have ac0:=a19.rA E (λF hm hk hb=>uJ F C c hm hk hb 12)<|EG λ_ _ _ _ _ _ _ _=>rfl;have aci:=a20.kA E (λF=>Hy F acP ac0)<|Nr λ_ _ _ _ _ _ _=>rfl;have acq:=a21.kA E (λF=>FE F d)<|EG λ_ _ _ _ _ _ _ _=>rfl;have Z:=a22.kA E (λF=>HZ F ac2)<|EG λ_ _ _ _ _ _ _ _=>rfl;have acn:=a23.kA E (λF=>ED F)<|Nr λ_ _ _ _ _ _ _=>rfl;have O:=a24.kA E (λF=>EI F q acn)<|EG λ_ _ _ _ _ _ _ _=>rfl;have acr:=a25.kA E (λF=>D3 F k q d j O)<|EG λ_ _ _ _ _ _ _ _=>rfl;have abq:=a26.kA E (λF=>Bq F j)<|EG λ_ _ _ _ _ _ _ _=>rfl;have abg:=a27.kA E (λF=>Io F)<|us5 λ_ _ _ _ _ _ _ _ _ _ _=>rfl;have Y:=a28.kA E (λF=>sV F)<|Nr λ_ _ _ _ _ _ _=>rfl;have acu:=a29.rA E (λF hm hk hb=>xh F q d D abq abg Y hm hk hb 12)<|EG λ_ _ _ _ _ _ _ _=>rfl;have ac5:=a30.kA E (λF=>FG F p)<|Nr λ_ _ _ _ _ _ _=>rfl;have acs:=a31.kA E (λF=>HH F p ac5)<|Nr λ_ _ _ _ _ _ _=>rfl;have N:=a32.kA E (λF=>DK F m V D)<|Nr λ_ _ _ _ _ _ _=>rfl;have adg:=a33.kA E (λF=>Ar F U d m j k N)<|EG λ_ _ _ _ _ _ _ _=>rfl;have acj:=a34.kA E (λF=>BV F U d m j k N adg)<|EG λ_ _ _ _ _ _ _ _=>rfl;exact Xc F aco Z acq O acr acs acu aci acj
def walk{l:PySem.W.OpenLaw}{q:aj}{XP:(Str->bi)->aq->Prop}{U:ah->aq->Prop}{d:DefRec}{K:Params->au}(hn:l.most=some 63)(J:d.params.defaults=[])
  (hY:∀(w:ah) (h:aq),U w h->(K w.params).In h)
  (F:∀(w:ah) (mg:Str->bi) (fa:ak) (h:aq),(K w.params).In h->h.Ns mainGlobals mg->mg d.name=some (.ref fa) ->
   ∃fd:FuncData,(∀(s:aA) (u:af),BindsTo s fd ⟨[u],[]⟩ [("_law_script",u)])/\∀base:aq,(K w.params).In base->base.Ns mainGlobals mg->FnOk l.prog w (K w.params) mg base qg 31 fa fd ["_law_script"] (qO (K w.params) 1 AN)) :
  PySem.W.WalkO q loose XP U l.row.toRowW d [] (λf vs=>PySem.call f vs):=
 L2.TQ (n:=63) (k:=31) (x := "_law_script") (CX:=λ_=>qg) (sp:=λw=>qO (K w.params) 1 AN) hn ⋯ J ⟨rfl,by decide,by decide,rfl⟩ hY F (λ_ H a e c g hS=>Nn g hS<|Yb e c) λ_ _ _ _ _ z=>z
end K40
open PySem PySem.W PyProof.Rows
namespace PySem.W.Fast
local macro_rules|`(command|universe $x*)=>do return Lean.mkNullNode (←x.mapM λx=>`(command|def $x:ident:=Nat))
universe tw4080250192477196909 tw5384127357174823492 tw9274694130135738349 tw12891137994359548187 tw35569653743778229 tw17407218473691007721 tw2335997624628934582 tw14181762776841132254 tw14307974810040385795 tw12762448641886475587 tw8029795764493649104 tw4472477036201351074 tw11585521714424477851 tw12351357142815693273 tw1804415084767015837 tw4660976686974485084 tw11039912976015809729 tw15478178886528159867 tw7353962501953138057 tw17325848090962287423 tw15172496575551267645 tw8780501610162552347 tw103033130811385797 tw1662586757627104038 tw5311964702193479851 tw8347821832497969972 tw8274066803885689029 tw9068274530669569885 tw11208800721645042689 tw4719046578733575969 tw13127882438953545952 tw17745257999677052997 tw12160569645888443099 tw9909951470816170215 tw4645962327984603543 tw6164876615282758355 tw10216304877768728583 tw14092464679804890233 tw3301547101401898170 tw5637644292511647057 tw14468256068352018703 tw4796652529770922163 tw1935880559804370775 tw10069756139788328607 tw9722156193887857876 tw7445940427431705251 tw16011509689680955449 tw4481033404424446991 tw11549316225693992024 tw13430060496927304908 tw15371731188350608415 tw12116874597591987044 tw7037941064409186680 tw12100590928594976121 tw8716448263554164419 tw819289771425054240 tw17396137075697826259 tw8491027826730075781 tw2339281549817860655 tw9905295497417925498 tw12873247197229060424 tw16741077475964346369 tw5200933529661742800 tw10287942024738627187 tw3093672159444219174 tw2657876894544257100 tw616131525532810213 tw8066123862877392538 tw5477919656990857733 tw13292709443228728541 tw3404282214567219790 tw838962686394131462 tw3612733136164567764 tw12494070480543587137 tw15298589439154286727 tw12410717975497880505 tw9654215357206905541 tw14996983877500955120 tw17899230058309388927 tw17272052287238274778 tw3667009212220627427 tw4823970376575647066 tw6584212142768500165 tw6568240491310697049 tw16654987022982306899 tw2999678337763878417 tw8899749657215412379 tw15041953156860739902 tw453514271842951341 tw12640471461941806223 tw8632884460910575239 tw18287685955946638924 tw1048844507161773761 tw10015825103932008318 tw16070199406754463365 tw1420697546118364600 tw12651906388517205108 tw9271347739570213464 tw6255905442512512821 tw2470561577260049894 tw3647763365172361584 tw11635438110492130527 tw8940220119513424020 tw2756342187324741810 tw2850404017202292956 tw2013966008234132396 tw17765509230671796599 tw9804049969528269633 tw11691977798546429213 tw17431097587801934063 tw6044479604304337545 tw12222016425144882291 tw7940255072399265232 tw15640891429474961688 tw6204645355812115871 tw10893364009004146340 tw17621381699953185585 tw6809662702634941976 tw9448268058040637258 tw4016439958496845643 tw4055117340334787592 tw8348617076228544633 tw8267770316529241786 tw9608482292343572468 tw3733704241094027422 tw6004533299809988155 tw13763576606690279171 tw14861565529375916630 tw8248024973139943292 tw236822588882772740 tw8965474536965438396 tw6717135258257746815 tw7261733794471538379 tw5609410544932782651 tw10902929421113473144 tw5279795848243859086 tw11281902028007005312 tw14388328811614302262 tw10801048585322847020 tw5720606480549390400
end PySem.W.Fast
set_option maxRecDepth 100000 in
set_option maxHeartbeats 0 in
theorem PySem.Challenge.cw_undercells_k40_kept_sums_holds : PySem.Challenge.rw_undercells_k40_kept_sums.Holds := by
 w_on;o_law;k_head;(case hw=>w_witness2)
 k_fill
 refine K40.walk (l:=PySem.Challenge.rw_undercells_k40_kept_sums) rfl rfl (fun w h Y=>PySem.W.kIn_of Y) ?F
 case F=>
  intro w mg fa h KX G hmg;refine' K40.all_mk KX G hmg (.of ?_ ?_ ?_ ?_) (.of ?_ ?_ ?_ ?_) (.of ?_ ?_ ?_ ?_) (.of ?_ ?_ ?_ ?_) (.of ?_ ?_ ?_ ?_) (.of ?_ ?_ ?_ ?_) (.of ?_ ?_ ?_ ?_) (.of ?_ ?_ ?_ ?_) (.of ?_ ?_ ?_ ?_) (.of ?_ ?_ ?_ ?_) (.of ?_ ?_ ?_ ?_) (.of ?_ ?_ ?_ ?_) (.of ?_ ?_ ?_ ?_) (.of ?_ ?_ ?_ ?_) (.of ?_ ?_ ?_ ?_) (.of ?_ ?_ ?_ ?_) (.of ?_ ?_ ?_ ?_) (.of ?_ ?_ ?_ ?_) (.of ?_ ?_ ?_ ?_) (.of ?_ ?_ ?_ ?_) (.of ?_ ?_ ?_ ?_) (.of ?_ ?_ ?_ ?_) (.of ?_ ?_ ?_ ?_) (.of ?_ ?_ ?_ ?_) (.of ?_ ?_ ?_ ?_) (.of ?_ ?_ ?_ ?_) (.of ?_ ?_ ?_ ?_) (.of ?_ ?_ ?_ ?_) (.of ?_ ?_ ?_ ?_) (.of ?_ ?_ ?_ ?_) (.of ?_ ?_ ?_ ?_) (.of ?_ ?_ ?_ ?_) (.of ?_ ?_ ?_ ?_) (.of ?_ ?_ ?_ ?_) (.of ?_ ?_ ?_ ?_) ?_ ?_ ?_ ?_ ?_ ?_ ?_ ?_ ?_ ?_ ?_ ?_ ?_ ?_ ?_
  any_goals first|k_is|kernel_rfl
