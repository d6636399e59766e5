import PyProof.Rows.All
import Wide.All
import OpenK.AllK
import Wide.FinOn
import Lean
import PyProof.EqAt
import PyProof.EqKinds
import PyProof.TupleCall
import PySem.Challenge.RW_undercells_k83_texts_that_are_none
set_option autoImplicit true
set_option relaxedAutoImplicit true
set_option Elab.async false
set_option linter.all false
set_option maxRecDepth 100000
set_option compiler.extract_closed false
set_option maxHeartbeats 4000000
local macro_rules|`($a<|>$b)=>`(autoParam $a $b)
local macro_rules|`(command|abbrev $n:declId $s:optDeclSig $v:declVal)=>`(command|noncomputable def $n:declId $s:optDeclSig $v:declVal)|`(command|meta abbrev $n:declId $s:optDeclSig $v:declVal)=>`(command|@[reducible]noncomputable def $n:declId $s:optDeclSig $v:declVal)
local macro_rules|`(∅)=>`(by decide +kernel)
local macro_rules|`(⋯)=>`(by decide)
local macro_rules|`(tactic|dsimp[$l,*])=>`(tactic|simp only[$l,*])|`(tactic|dsimp[$l,*]$o:location)=>`(tactic|simp only[$l,*]$o:location)
local macro_rules(kind:=Lean.Parser.Term.structInst)|`({})=>`({cls:=.type "list",data:=.seq ([]:List PySem.Value).toArray})
set_option hygiene false
local macro_rules|`(tactic|z_go)=>`(tactic|obtain⟨ρ,S,τ,R,r,h⟩:=h9)
local macro_rules|`(tactic|x_go)=>`(tactic|intro X hP hw hK hc i pins s σ H E I hf st hg)
local macro_rules|`(tactic|w_up)=>`(tactic|obtain⟨ρ,S,a,b,R,va,vb,h⟩:=h9)
local macro_rules|`(tactic|fin2)=>`(tactic|intro pins s σ H xs us Q I r h)
local macro_rules|`(tactic|k_ne)=>`(tactic|intro pins s σ H Q I h)
local macro_rules|`(tactic|kt_k)=>`(tactic|intro pins s σ H x y v u Q I rx ry h)
local macro_rules|`(tactic|kd_p)=>`(tactic|obtain⟨f0,f1,f2,f3,f4,f5⟩:=hf it (by simp))
local macro_rules|`(tactic|gn_on)=>`(tactic|obtain⟨t,rfl⟩:=rx)
local macro_rules|`(tactic|gp_on)=>`(tactic|obtain⟨w,rfl,ρ,S,x,R,hv,h⟩:=Px h0)
local macro_rules|`(tactic|kj_on)=>`(tactic|obtain⟨xs,hn,h⟩:=jY h)
local macro_rules|`(tactic|kcf_m)=>`(tactic|refine aG (ff (dz (name:=Str.ofString "__next__") ty mX (c9 mX ty wm ?_ (wB _)))))
local macro_rules|`(tactic|kcj_m)=>`(tactic|exact lI (show 2<=16777216 by decide))
local macro_rules|`(tactic|kpc_g)=>`(tactic|exact⟨ρ1,S1,τ,R1,r.ext e1,jM h1 e1 λ_ _ z=>z.ext e1⟩)
local macro_rules|`(tactic|kpf_c)=>`(tactic|have hfree:∀y∈scope.names,y.2=.free->∃c,X.env.cells.lookup y.1=some c:=λy hy e=>I.ok.has _ (S.fr y hy e))
local macro_rules|`(tactic|ksr_p)=>`(tactic|obtain⟨ρ,S,τ,R,r,h⟩:=h)
local macro_rules|`(tactic|kst_p)=>`(tactic|intro pins s σ H D I h)
local macro_rules|`(tactic|kln_w)=>`(tactic|obtain⟨u,rfl,rx⟩:=vals1 r)
local macro_rules|`(tactic|kl_no)=>`(tactic|have k1:(PySem.W.hideAll g' (frs (X.env::X.outer))).StaysIn s'.heap:=λb o q=>M.keeps b o (dD _ q))
set_option hygiene true
local macro_rules|`(())=>`(by lia)
@[reducible]def ag:=List Int
@[reducible]def ar:=List Nat
@[reducible]def ba:=List PySem.Str
@[reducible]def be:=List PySem.Value
@[reducible]def bi:=List PySem.Addr
@[reducible]def bj:=Option PySem.Value
@[reducible]def bo:=Option Int
@[reducible]def bp:=Option Bool
@[reducible]def bt:=Option Nat
@[reducible]def bv:=List<|PySem.Addr×PySem.Obj
def aG:=@PySem.wpAny_bind
def aH:=@List.getElem?_eq_getElem
def aI:=@decide_eq_false
def aJ:=@decide_eq_true
def aK:=@List.length_map
def aL:=@PySem.wpAny_pure
def aM:=@PySem.Heap.get?_push_of_some
def aN:=@List.getD_eq_getElem?_getD
def aO:=@if_neg
def aP:=@Nat.le_refl
def aQ:=@if_pos
def aR:=@List.length_cons
def aS:=@List.mem_cons_of_mem
def aT:=@List.mem_cons_self
def aU:=@Option.some.inj
def aV:=@List.length_append
def aW:=@PySem.Heap.lt_size
def aX:=@List.mem_singleton
def aY:=@List.size_toArray
def aZ:=@List.getElem?_eq_some_iff
def a_:=@PySem.Heap.get?_push_size
def bf:=@List.mem_cons
def bg:=@Bool.not_true
def bh:=@Bool.false_ne_true
def bq:=@Nat.ne_of_lt
def br:=@Option.map_eq_some_iff
def bu:=@List.getElem?_map
def bw:=@beq_eq_false_iff_ne
def bx:=@beq_self_eq_true
def bA:=@Bool.not_false
def bB:=@PySem.sizeLine_eq
def bC:=@Option.bind_eq_some_iff
def bD:=@Nat.lt_of_lt_of_le
def bE:=@Bool.and_eq_true
def bF:=@List.mem_append
def bG:=@PySem.wpAny_newObj_type
def bH:=@Option.bind_some
def bI:=@List.append_assoc
def bJ:=@Array.length_toList
def bK:=@List.mem_append_right
def bL:=@List.map_map
def bM:=@PySem.W.mg_none_of
def bN:=@List.getElem?_eq_none
def bO:=@of_decide_eq_true
def bP:=@List.map_cons
def bQ:=@List.forall_mem_cons
def bR:=@List.getElem?_append_left
def bS:=@List.append_nil
def bW:=@List.length_range
def bX:=@PySem.Heap.get?_update_self
def bY:=@Int.toNat_natCast
def bZ:=@Bool.false_eq_true
def b6:=@PySem.Obj.data_mapFields
def b_:=@PySem.wpAny_holding
def cg:=@congrArg
def cj:=@List.mem_map
def ck:=@PySem.wpAny_setState_of
def cu:=@PySem.W.mg_of
def cz:=@Nat.zero_le
def cA:=@Array.getElem?_eq_getElem
def cB:=@PySem.Heap.get?_update_other
def cC:=@List.mem_append_left
def cD:=@List.cons.inj
def cE:=@List.length_drop
def cF:=@List.nil_append
def cG:=@PyProof.Rows.wpS_bind
def cH:=@List.length_eq_zero_iff
def cI:=@List.filter_eq_self
def cJ:=@List.getElem_mem
def cK:=@Nat.le_trans
def cL:=@Ne.symm
def cM:=@List.getElem?_set_self
def cN:=@List.getElem?_set_ne
def cO:=@Bool.true_and
def cP:=@PyProof.Rows.slot_tuple_getitem
def cQ:=@PySem.mem_of_lookup
def cR:=@PySem.W.kia_one
def cS:=@PySem.wpAny_mono
def cT:=@Bool.false_and
def cU:=@List.length_take
def cV:=@List.all_eq_true
def cW:=@List.range_eq_range'
def cX:=@List.take_of_length_le
def cY:=@List.map_append
def cZ:=@Option.map_some
def c9:=@PySem.wpAny_call_entry
def c_:=@PySem.W.hideAll_get
def dh:=@PySem.Heap.SameBut.update
def di:=@PySem.Obj.isFreed_of_fields
def dj:=@PySem.wpAny_truthy_bool
def dw:=@PyProof.Rows.callWith_type1
def dz:=@PySem.wpAny_callSpecial?_slot
def dB:=@if_true
def dD:=@PySem.W.of_hideAll
def dF:=@List.mem_range
def dG:=@PySem.Heap.size_push
def dH:=@Int.natAbs_natCast
def dI:=@Nat.lt_succ_self
def dJ:=@List.replicate_succ
def dM:=@Array.getElem?_toList
def dN:=@PySem.PassesOwn.never
def dO:=@PySem.F.called_set
def dP:=@List.mem_of_getElem?
def dQ:=@PySem.Around.under_plainId
def dR:=@PyProof.Rows.wpS_pure
def dS:=@if_false
def dU:=@Bool.eq_false_iff
def dW:=@beq_iff_eq
def dX:=@Array.getElem?_eq_some_iff
def dY:=@List.drop_zero
def dZ:=@List.getElem?_range
def d7:=@PySem.wpAny_field
def d8:=@PySem.codeAny_builtin
def d_:=@Classical.byContradiction
def eB:=@Option.isSome_iff_exists
def eE:=@PySem.wpAny_setField
def eF:=@List.eq_nil_of_length_eq_zero
def eG:=@List.getLast?_eq_some_getLast
def eK:=@decide_eq_true_eq
def eN:=@List.ext_getElem?
def eO:=@List.nodup_cons
def eS:=@List.dropLast_concat_getLast
def eT:=@List.filterMap_cons
def eU:=@PyProof.Rows.F.plain_set_update_loop
def eW:=@PySem.codeAny_mono
def eX:=@Nat.zero_add
def eY:=@PySem.F.slot_str_startswith
def eZ:=@PySem.F.type_str_startswith
def e_:=@Nat.lt_irrefl
def ff:=@PySem.wpAny_attempt
def fh:=@Option.getD_some
def fj:=@List.lookup_cons
def fm:=@List.mem_filterMap
def fq:=@List.getElem?_append_right
def fu:=@Bool.and_false
def fy:=@Nat.length_toDigits_le_iff
def fB:=@List.length_singleton
def fD:=@List.getElem?_toArray
def fE:=@List.getElem?_eq_none_iff
def fF:=@List.pairwise_iff_getElem
def fG:=@PySem.wpAny_passesOwn
def fH:=@List.length_set
def fJ:=@List.flatten_cons
def fK:=@Nat.lt_succ_of_lt
def fM:=@List.flatMap_cons
def fO:=@List.range'_succ
def fP:=@List.not_mem_nil
def fQ:=@PySem.StrLaws.strSliceIndices_plain
def fR:=@Nat.le_of_lt
def fS:=@PySem.W.cellsFrom_some
def fU:=@Array.getElem?_eq_none
def fV:=@List.pairwise_cons
def fW:=@PySem.F.slot_str_split
def fX:=@PySem.F.type_str_split
def fY:=@List.pairwise_map
def fZ:=@Int.mul_one
def f6:=@List.length_eraseIdx_of_lt
def f7:=@Int.natAbs_neg
def f9:=@decide_true
def f_:=@Nat.ne_of_gt
def gb:=@PyProof.Rows.F.entry_set_update_loop
def gc:=@List.length_pos_iff
def gf:=@List.map_congr_left
def gh:=@List.getElem?_take_of_lt
def gj:=@PySem.F.args_tuple_add_2
def gp:=@PySem.plainId_quiet
def gq:=@List.all_cons
def gr:=@PySem.F.slot_list_append
def gu:=@PySem.F.type_list_append
def gz:=@PySem.wpAny_execs_nil
def gA:=@Bool.or_eq_true
def gB:=@PySem.wpAny_Call_Name_kw
def gC:=@List.filterMap_map
def gD:=@PySem.typeIs_str
def gE:=@PySem.call_meets
def gF:=@PySem.wpAny_rule
def gG:=@List.getElem_range
def gH:=@List.getElem?_drop
def gI:=@Int.emod_lt_of_pos
def gJ:=@PySem.F.entry_tuple_add
def gK:=@List.filter_cons_of_neg
def gM:=@PySem.wpAny_pyIter_list
def gO:=@PySem.F.slot_tuple_add
def gP:=@List.reverse_cons
def gQ:=@PySem.W.funFrames_hide
def gR:=@PySem.wpAny_noteFrame_againW
def gS:=@PySem.Obj.cls_mapFields
def gV:=@PyProof.Rows.wpS_forRange
def gW:=@List.nodup_append
def gX:=@List.range_succ_eq_map
def gY:=@List.Perm.refl
def gZ:=@List.drop_eq_nil_of_le
def g_:=@Nat.sub_self
def h_:=@PySem.builtinLookup_eq_fast
def ie:=@PySem.F.slot_str_join
def ig:=@PySem.F.type_str_join
def iu:=@Nat.le_of_not_lt
def iw:=@PySem.wpAny_isInstance
def iy:=@List.prefix_refl
def iz:=@List.getElem_map
def iA:=@List.take_length
def iB:=@Option.bind_none
def iC:=@PySem.wpAny_standAt
def iD:=@Bool.and_true
def iE:=@List.any_cons
def iF:=@PySem.Sem.wp_pure
def iG:=@PySem.wpAny_of_eq
def iH:=@List.mem_iff_getElem
def iI:=@PySem.W.KIN.val_back
def iJ:=@List.mem_of_mem_tail
def iK:=@List.foldl_cons
def iL:=@Nat.min_eq_left
def iM:=@List.length_nil
def iO:=@PyProof.Rows.partition_whole
def iP:=@Int.emod_nonneg
def iQ:=@List.length_reverse
def iR:=@ne_true_of_eq_false
def iS:=@PySem.wpAny_typeOf
def iT:=@Nat.succ_mul
def iU:=@Nat.sub_zero
def iV:=@PySem.wpAny_call
def iW:=@PySem.Heap.IsSliceOf.new
def iX:=@PySem.wpAny_runValue
def iY:=@PySem.F.args_str_split_2
def iZ:=@List.prefix_append
def i6:=@PySem.isSubtype_type
def i7:=@PySem.wpAny_fieldsOf
def i8:=@PySem.F.slot_str_partition
def i9:=@PySem.F.type_str_partition
def i_:=@Nat.toDigits_eq_if
def ja:=@Nat.add_sub_cancel
def jb:=@PySem.Value.isInt_shape
def jc:=@PySem.slot_list_getitem
def jd:=@PySem.F.entry_str_split
def je:=@PySem.Heap.SameBut.refl
def jf:=@Array.toList_push
def jh:=@PySem.evalPart_none
def ji:=@Bool.false_or
def jj:=@List.filter_cons
def jk:=@List.ext_getElem
def jl:=@List.any_eq_true
def jm:=@List.length_tail
def jo:=@eq_self
def jq:=@List.mem_filter
def jt:=@List.of_mem_zip
def ju:=@Nat.not_lt_zero
def jv:=@Nat.le_succ
def jw:=@Array.size_zip
def jx:=@List.nodup_nil
def jy:=@List.take_zero
def jz:=@List.drop_drop
def jA:=@Eq.trans
@[reducible]def aa:=PySem.Value
@[reducible]def af:=PySem.World
@[reducible]def ah:=PySem.Program
@[reducible]def aj:=PySem.Addr
@[reducible]def ak:=PySem.Heap
@[reducible]def au:=PySem.W.Frag
@[reducible]def az:=PySem.Around
@[reducible]def aA:=PySem.Shared
@[reducible]def aE:=PySem.Expr
@[reducible]def aF:=PySem.Stmt
def anI{a b:Prop}(h:a)(k:b):a/\b:=⟨h,k⟩
open Array (size_map)
open Int (mul_neg)
open List (drop_nil map_id map_nil map_set sum_cons)
open Nat (log2_lt lt_trans mod_lt)
open Option (getD_none)
namespace L2
open PySem PySem.Spec PyProof.Rows
meta abbrev Key:=Sum Int Str
abbrev QB:Key->aa->Bool
 | .inl k,v=>Value.isInt k v
 | .inr x,v=>Value.isStrOf x v
abbrev Xd (w:af):Key->Int
 | .inl k=>hashInt k
 | .inr x=>hashStr w x
def lX:∀{k:Key}{v:aa},QB k v=true->(∃i t,k=Sum.inl i/\v=Value.int i t)\/(∃x t,k=Sum.inr x/\v=Value.str x t)
 | .inl i,v,h=>by
  obtain⟨t,e⟩:=jb (k:=i) (v:=v) h;exact .inl ⟨i,t,rfl,e⟩
 | .inr x,v,h=>by
  obtain⟨t,e⟩:=Value.isStrOf_shape (x:=x) (v:=v) h;exact .inr ⟨x,t,rfl,e⟩
def RE(a b:Int):decide ((Sum.inl a:Key)=Sum.inl b)=(a == b):=by
 by_cases e:a=b
 ·subst e;simp
 ·have h:¬(Sum.inl a:Key)=Sum.inl b:=λq=>e<|Sum.inl.inj q;rw[aI h];exact(bw.mpr e).symm
def Ux(a b:Str):decide ((Sum.inr a:Key)=Sum.inr b)=decide (a=b):=by
 by_cases e:a=b
 ·subst e;simp
 ·have h:¬(Sum.inr a:Key)=Sum.inr b:=λq=>e<|Sum.inr.inj q;rw[aI h,aI e]
def Us(a:Int)(b:Str):decide ((Sum.inl a:Key)=Sum.inr b)=false:=aI λq=>nomatch q
def UD(a:Str)(b:Int):decide ((Sum.inr a:Key)=Sum.inl b)=false:=aI λq=>nomatch q
abbrev Bp (prog:ah)(w:af):PySem.KeyKind prog w Key where
 is:=QB
 hash:=Xd w
 inj:=λv a b g d=>by
  rcases lX g with⟨i,t,rfl,rfl⟩|⟨x,t,rfl,rfl⟩
  ·rcases lX d with⟨j,u,rfl,e⟩|⟨y,u,rfl,e⟩
   ·injection e with e1 _;rw[e1]
   ·exact nomatch e
  ·rcases lX d with⟨j,u,rfl,e⟩|⟨y,u,rfl,e⟩
   ·exact nomatch e
   ·injection e with e1 _;rw[e1]
 byValue:=λk v h=>by
  rcases lX h with⟨i,t,rfl,rfl⟩|⟨x,t,rfl,rfl⟩<;>rfl
 pyHash:=λhv h=>by
  rcases lX hv with⟨i,t,rfl,rfl⟩|⟨x,t,rfl,rfl⟩
  ·exact wpAny_pyHash_int h
  ·exact wpAny_pyHash_str h
 eqBool:=λf hv h=>by
  rcases lX f with⟨i,t,rfl,rfl⟩|⟨x,t,rfl,rfl⟩
  ·rcases lX hv with⟨j,u,rfl,rfl⟩|⟨y,u,rfl,rfl⟩
   ·rw[RE]at h;exact wpAny_eqBool_int h
   ·rw[Us]at h;exact SeqAt.EqAt.int_str i t y u _ _ _ _ h
  ·rcases lX hv with⟨j,u,rfl,rfl⟩|⟨y,u,rfl,rfl⟩
   ·rw[UD]at h;exact SeqAt.EqAt.str_int x t j u _ _ _ _ h
   ·rw[Ux]at h;exact wpAny_eqBool_str h
 «strs»:=λk x t v h=>by
  rcases lX h with⟨i,u,rfl,e⟩|⟨y,u,rfl,e⟩
  ·exact nomatch e
  ·injection e with e1 _
   subst e1
   cases v<;>rfl
inductive V where
 | non|bl (b:Bool)|int (i:Int)|str (x:Str)|byt (b:Array UInt8)|flt (b:UInt64)|ref (a:aj)|ty (n:String)
 deriving DecidableEq
abbrev RelV:V->aa->Prop
 | .non,u=>u=Value.none
 | .bl b,u=>u=Value.bool b
 | .int i,u=>∃t,u=Value.int i t
 | .str x,u=>∃t,u=Value.str x t
 | .byt b,u=>∃t,u=Value.bytes b t
 | .flt b,u=>∃t,u=Value.float b t
 | .ref a,u=>u=Value.ref a
 | .ty n,u=>u=Value.type n
meta abbrev Vals:List V->be->Prop:=Paired RelV
def Vals.length{xs:List V}{us:be}(r:Vals xs us):xs.length=us.length:=Paired.length r
theorem Vals.get:∀{xs:List V}{us:be}{i:Nat}{x:V},Vals xs us->xs[i]?=some x->∃u,us[i]?=some u/\RelV x u
 | _,_,_,_,.nil,e=>by simp at e
 | _,_,0,_,.cons r _,e=>by simp at e;subst e;exact⟨_,rfl,r⟩
 | _,_,i+1,x,.cons _ t,e=>by
  obtain⟨u,h1,d⟩:=Vals.get (i:=i) (x:=x) t (by simpa using e);exact⟨u,by simpa using h1,d⟩
theorem Vals.set{x:V}(r:RelV x u):∀{xs:List V}{us:be}(i:Nat),Vals xs us->Vals (xs.set i x) (us.set i u)
 | _,_,_,.nil=>.nil
 | _,_,0,.cons _ t=>.cons r t
 | _,_,i+1,.cons q t=>.cons q<|Vals.set r i t
theorem Vals.append:∀{xs ys:List V}{us ws:be},Vals xs us->Vals ys ws->Vals (xs++ys) (us++ws)
 | _,_,_,_,.nil,s=>s
 | _,_,_,_,.cons r t,s=>.cons r<|Vals.append t s
theorem Vals.take:∀{xs:List V}{us:be}(n:Nat),Vals xs us->Vals (xs.take n) (us.take n)
 | _,_,0,_=>.nil
 | _,_,_+1,.nil=>.nil
 | _,_,n+1,.cons r t=>.cons r<|Vals.take n t
theorem Vals.drop:∀{xs:List V}{us:be}(n:Nat),Vals xs us->Vals (xs.drop n) (us.drop n)
 | _,_,0,r=>r
 | _,_,_+1,.nil=>.nil
 | _,_,n+1,.cons _ t=>Vals.drop n t
abbrev R9:Option V->bj->Prop
 | some v,some u=>RelV v u
 | none,none=>True
 | _,_=>False
abbrev KV {j:Type}:List (j×V)->List (j×aa)->Prop:=Paired λ(p:j×V) (q:j×aa)=>p.1=q.1/\RelV p.2 q.2
abbrev kV:Key->V
 | .inl i=>.int i
 | .inr x=>.str x
inductive HO where
 | lst (xs:List V)
 | tup (xs:List V)
 | dK (kvs:List<|Key×V)|dT (kvs:List<|List Key×V)
 | set (S:Int->Bool) (n:Nat)
 | ins (C dx:aj) (fs:List<|Str×V)
 | own (x:aj)
 | xd (fs:List<|Str×V)
 | met (f x:aj)
 | rng (lo hi:Int)
 | frz (o:Obj) (u:HO)
 | tbl (ps:Array aa)
 | ext (φ:ak->Prop)
meta abbrev Hp:=aj->Option HO
abbrev upd (H:Hp)(a:aj)(o:HO):Hp:=λb=>if b=a then some o else H b
def kJ{H:Hp}{a:aj}:upd H a o a=some o:=by unfold upd;rw[aQ rfl]
def jR{H:Hp}{a b:aj}(h:b≠a):upd H a o b=H b:=by unfold upd;rw[aO h]
def j4{H:Hp}{a b:aj}(h:H a=some o)(h':H b=none):a≠b:=by
 intro e;subst e;rw[h]at h';cases h'
abbrev oM (h:ak)(a:aj)(j:Array aa):Prop:=∃o,h.get? a=some o/\o.cls=.type "tuple" /\ o.dict=none/\∃n,o.data=.seq j n
def oM.tup{a:aj}:oM h a items->IsTup h a items:=λ⟨o,e,c,_,n,d⟩=>⟨o,e,c,n,d⟩
def oM.new(h:ak)(j:Array aa):oM (h.push { cls:=.type "tuple",data:=.seq j }) h.objs.size j:=⟨_,a_ _ rfl,rfl,rfl,_,rfl⟩
def oM.lt{h:ak}{a:aj}(x:oM h a items):a<h.objs.size:=let⟨_,ho,_⟩:=x;aW ho
section
variable (P:ah) (w:af)
abbrev nB (H:Hp)(h:ak)(a:aj):HO->Prop
 | .lst xs=>xs.length<=sizeLine/\∃(g:be) (n:Nat),Vals xs g/\h.get? a=some { cls:=.type "list",data:=.seq g.toArray n }
 | .tup xs=>xs.length<=sizeLine/\∃g:be,Vals xs g/\oM h a g.toArray
 | .dK d=>d.length<=sizeLine/\(a == sysModules)=false/\∃vs,KV d vs/\h.DictOf (Bp P w) a vs
 | .dT d=>d.length<=sizeLine/\(a == sysModules)=false/\∃xs:List<|List Key×aj×aa,
   Paired (λ(p:List Key×V) (q:List Key×aj×aa)=>p.1=q.1/\H q.2.1=some (.tup<|p.1.map kV)/\RelV p.2 q.2.2) d xs /\
   ∃o es ep,h.get? a=some o/\o.ExactDict/\o.data=.dict es ep/\es.toList=xs.map (entryOfKey<|tupleKind<|Bp P w)/\(xs.map (·.1)).Nodup
 | .set S n=>h.SetOf (intKind P w) a S n
 | .ins C dx fs=>H dx=some (.own a)/\fs.length<=1000/\dx≠a/\h.get? a=some (PySem.W.instObj C dx) /\
   ∃j,h.Ns1 dx j/\(∀f,R9 (fs.lookup f)<|j f)/\PySem.Within j (fs.map (·.1))
 | .own _=>∃o,h.get? a=some o
 | .xd fs=>∃j,h.Ns1 a j/\∀f,R9 (fs.lookup f) (j f)
 | .rng lo hi=>∃t u v,h.get? a=some { cls:=.type "range",data:=.fields #[.int lo t,.int hi u,.int 1 v]}
 | .frz o u=>h.get? a=some o/\nB H h a u
 | .tbl ps=>h.get? a=some { cls:=.none,data:=.fields ps }
 | .met f x=>h.get? a=some (PySem.W.methodObj (.ref f)<|.ref x)
 | .ext k=>k h/\(∃o,h.get? a=some o)/\∀h1 m:ak,k h1->(∀o,h1.get? a=some o->m.get? a=some o)->k m
abbrev w9 (H:Hp)(h:ak):Prop:=∀a o,H a=some o->nB P w H h a o
end
section
variable {P:ah}{w:af}{H H':Hp}{h h':ak}{a:aj}{o:HO}
def nB.lt(x:nB P w H h a o):a<h.objs.size:=by
 cases o with
 | lst xs=>obtain⟨_,_,_,_,e⟩:=x;exact aW e
 | tup xs=>obtain⟨_,_,_,p⟩:=x;exact oM.lt p
 | dK d=>obtain⟨_,_,_,_,o,_,_,e,_⟩:=x;exact aW e
 | dT d=>obtain⟨_,_,_,_,o,_,_,e,_⟩:=x;exact aW e
 | set S n=>obtain⟨o,_,_,_,e,_⟩:=x;exact aW e
 | ins C dx fs=>obtain⟨_,_,_,e,_⟩:=x;exact aW e
 | own y=>obtain⟨_,e⟩:=x;exact aW e
 | xd fs=>obtain⟨_,⟨_,_,_,e,_⟩,_⟩:=x;exact aW e
 | rng lo hi=>obtain⟨_,_,_,e⟩:=x;exact aW e
 | frz g u=>obtain⟨e,_⟩:=x;exact aW e
 | tbl ps=>exact aW (show h.get? a=some _ from x)
 | met f y=>exact aW (show h.get? a=some _ from x)
 | ext j=>obtain⟨_,⟨_,e⟩,_⟩:=x;exact aW e
theorem Paired.Ww{α β:Type}{F G:α->β->Prop}:∀{l₁:List α}{l₂:List β},Paired F l₁ l₂->(∀a b,F a b->G a b)->Paired G l₁ l₂
 | _,_,.nil,_=>.nil
 | _,_,.cons r t,f=>.cons (f _ _ r)<|Paired.Ww t f
def nB.stay(x:nB P w H h a o)(k:∀b u,(b=a\/H b=some (.own a))->h.get? b=some u->h'.get? b=some u)
  (L:∀b,H b=some (.own a)->H' b=some (.own a)) (U:∀b xs,H b=some (.tup xs)->H' b=some (.tup xs)):nB P w H' h' a o:=by
 induction o with
 | lst xs=>obtain⟨z,j,n,r,e⟩:=x;exact⟨z,j,n,r,k _ _ (.inl rfl) e⟩
 | tup xs=>obtain⟨z,j,r,g,e,c⟩:=x;exact⟨z,j,r,g,k _ _ (.inl rfl) e,c⟩
 | dK B=>obtain⟨z,y,vs,r,g,es,ep,e,c⟩:=x;exact⟨z,y,vs,r,g,es,ep,k _ _ (.inl rfl) e,c⟩
 | dT B=>
  obtain⟨z,y,xs,r,g,es,ep,e,c⟩:=x;exact⟨z,y,xs,Paired.Ww r λp q z=>⟨z.1,U _ _ z.2.1,z.2.2⟩,g,es,ep,k _ _ (.inl rfl) e,c⟩
 | set S n=>obtain⟨g,es,ep,t,e,c⟩:=x;exact⟨g,es,ep,t,k _ _ (.inl rfl) e,c⟩
 | ins C dx fs=>
  obtain⟨d,z,G,e,m,⟨F,es,ep,e2,c⟩,r⟩:=x;exact⟨L _ d,z,G,k _ _ (.inl rfl) e,m,⟨F,es,ep,k _ _ (.inr d) e2,c⟩,r⟩
 | own y=>obtain⟨g,e⟩:=x;exact⟨g,k _ _ (.inl rfl) e⟩
 | xd fs=>obtain⟨m,⟨F,es,ep,e,c⟩,r⟩:=x;exact⟨m,⟨F,es,ep,k _ _ (.inl rfl) e,c⟩,r⟩
 | rng lo hi=>obtain⟨t,u,v,e⟩:=x;exact⟨t,u,v,k _ _ (.inl rfl) e⟩
 | frz g u J=>obtain⟨e,q⟩:=x;exact⟨k _ _ (.inl rfl) e,J q⟩
 | tbl ps=>
  have e:h.get? a=some { cls:=.none,data:=.fields ps }:=x
  skip
  exact k a _ (.inl rfl) e
 | met f y=>
  have e:h.get? a=some (PySem.W.methodObj (.ref f)<|.ref y):=x
  skip
  exact k a _ (.inl rfl) e
 | ext K=>obtain⟨p,⟨o,e⟩,st⟩:=x;exact⟨st _ _ p λo q=>k _ _ (.inl rfl) q,⟨o,k _ _ (.inl rfl) e⟩,st⟩
def w9.lt(x:w9 P w H h)(e:H a=some o):a<h.objs.size:=(x a o e).lt
def w9.fresh(x:w9 P w H h)(e:h.objs.size<=a):H a=none:=by
 cases q:H a with
 | none=>rfl
 | some u=>exact absurd (bD (x.lt q) e)<|e_ _
def w9.kept(x:w9 P w H h)(k:∀b u,h.get? b=some u->h'.get? b=some u):w9 P w H h':=λa o e=>
 (x a o e).stay (λb u _ q=>k b u q) (λ_ q=>q) λ_ _ q=>q
def w9.laid(x:w9 P w H h)(k:∀b u,h.get? b=some u->h'.get? b=some u)(hp:h.objs.size<=a)(new:nB P w (upd H a o) h' a o):w9 P w (upd H a o) h':=λb u e=>by
 have hn:=x.fresh hp;by_cases d:b=a
 ·subst d;rw[kJ]at e;cases e;exact new
 ·rw[jR d]at e;exact(x b u e).stay (λc v _ q=>k c v q) (λc q=>by rw[jR<|j4 q hn];exact q) λc xs q=>by rw[jR<|j4 q hn];exact q
end
abbrev Rd (H:Hp)(a:aj)(u:HO):Prop:=H a=some u\/∃o,H a=some (.frz o u)
def Rd.ok{P:ah}{w:af}{H:Hp}{a:aj}(r:Rd H a u)(x:w9 P w H h):nB P w H h a u:=by
 rcases r with r|⟨o,r⟩
 ·exact x a u r
 ·obtain⟨_,q⟩:=x a _ r;exact q
abbrev W3:Option HO->Prop
 | some (.lst _)=>True
 | some (.dK _)=>True
 | some (.dT _)=>True
 | some (.set _ _)=>True
 | some (.ins _ _ _)=>True
 | some (.ext _)=>True
 | _=>False
section
variable {P:ah}{w:af}{H:Hp}{h h':ak}{x e:aj}{o':HO}
def w9.write(ok:w9 P w H h)(J:W3<|H x)(U:e=x\/H e=some (.own x))(k:∀b u,b≠e->h.get? b=some u->h'.get? b=some u)(L:∃u,h'.get? e=some u)
  (new:nB P w (upd H x o') h' x o'):w9 P w (upd H x o') h':=λb u q=>by
 have f:∀c y,H c=some (.own y)->c≠x:=λc y r z=>by subst z;rw[r]at J;exact J
 have g:∀c xs,H c=some (.tup xs)->c≠x:=λc xs r z=>by subst z;rw[r]at J;exact J
 by_cases j:b=x
 ·subst j;rw[kJ]at q;cases q;exact new
 ·rw[jR j]at q;by_cases d:b=e
  ·have q':H b=some (.own x):=by
    rcases U with z|z
    ·exact absurd (d.trans z) j
    ·rw[d];exact z
   rw[q]at q';cases q';obtain⟨v,hv⟩:=L;exact⟨v,by rw[d];exact hv⟩
  ·refine(ok b u q).stay (λc v hc r=>k c v ?_ r) (λc r=>by rw[jR<|f c b r];exact r) λc xs r=>by rw[jR<|g c xs r];exact r
   rcases hc with rfl|hc
   ·exact d
   ·rintro rfl
    rcases U with z|z
    ·exact f c b hc z
    ·rw[hc]at z;cases z;exact j rfl
end
structure Un (fs ex:bi)(H H':Hp)(h h':ak):Prop where
 keep:∀b o,h.get? b=some o->H b=none->b∉fs->b∉ex->h'.get? b=some o
 slot:∀b o,h.get? b=some o->H b=none->b∈fs->b∉ex->∃sl,h'.get? b=some { o with slots:=sl }
 free:∀b o,h.get? b=some o->H b=none->b∉ex->H' b=none
 there:∀b o,h.get? b=some o->b∉ex->∃o',h'.get? b=some o'
 tups:∀b xs,H b=some (.tup xs)->H' b=some (.tup xs)
 frzs:∀b o u,H b=some (.frz o u)->H' b=some (.frz o u)
 tbls:∀b ps,H b=some (.tbl ps)->∃more,H' b=some (.tbl<|ps++more)
section
variable {fs ex:bi}{H H1:Hp}{h h1 h':ak}{a x e:aj}{o:HO}
def Un.any(u:Un fs ex H H1 h h1){b:aj}{j:Obj}(q:h.get? b=some j)(n:H b=none)(J:b∉ex):∃sl,h1.get? b=some { j with slots:=sl }:=by
 by_cases d:b∈fs
 ·exact u.slot b j q n d J
 ·exact⟨j.slots,u.keep b j q n d J⟩
def Un.kept(k:∀b u,h.get? b=some u->h'.get? b=some u):Un fs ex H H h h':=
 ⟨λb d q _ _ _=>k b d q,λb d q _ _ _=>⟨d.slots,k b d q⟩,λ_ _ _ n _=>n,λb d q _=>⟨d,k b d q⟩,λ_ _ q=>q,λ_ _ _ q=>q,λ_ ps q=>⟨#[],by rw[q];simp⟩⟩
def Un.refl:Un fs ex H H h h:=Un.kept λ_ _ q=>q
def Un.laid(k:∀b u,h.get? b=some u->h'.get? b=some u)(hp:h.objs.size<=a)(hn:H a=none):Un fs ex H (upd H a o) h h' where
 keep:=λb u q _ _ _=>k b u q
 slot:=λb u q _ _ _=>⟨u.slots,k b u q⟩
 free:=λb u q n _=>by rw[jR<|bq<|bD (aW q) hp];exact n
 there:=λb u q _=>⟨u,k b u q⟩
 tups:=λb xs q=>by rw[jR<|j4 q hn];exact q
 frzs:=λb u xs q=>by rw[jR<|j4 q hn];exact q
 tbls:=λb ps q=>⟨#[],by rw[jR<|j4 q hn,q];simp⟩
def Un.write(J:W3<|H x)(U:e=x\/H e=some (.own x))(k:∀b u,b≠e->h.get? b=some u->h'.get? b=some u)(L:∃u,h'.get? e=some u):Un fs ex H (upd H x o) h h':=by
 have j:∀b,H b=none->b≠x:=λb n z=>by subst z;rw[n]at J;exact J
 have g:∀b,H b=none->b≠e:=λb n z=>by
  subst z
  rcases U with r|r
  ·exact j b n r
  ·rw[n]at r;cases r
 have f:∀b u,H b=some u->¬W3 (some u)->b≠x:=λb u q nm z=>by subst z;rw[q]at J;exact nm J
 refine⟨λb u q n _ _=>k b u (g b n) q,λb u q n _ _=>⟨u.slots,k b u (g b n) q⟩,λb u q n _=>by rw[jR<|j b n];exact n,λb u q _=>?_,
  λb xs q=>by rw[jR<|f b _ q λz=>z];exact q,λb u xs q=>by rw[jR<|f b _ q λz=>z];exact q,λb ps q=>⟨#[],by rw[jR<|f b _ q λz=>z,q];simp⟩⟩
 by_cases d:b=e
 ·subst d;exact L
 ·exact⟨u,k b u d q⟩
end
abbrev W6 (h:ak)(H:Hp):bi:=(List.range h.objs.size).filter λa=>(H a).isSome
abbrev B7 (h:ak)(H:Hp):ak:=PySem.W.hideAll h<|W6 h H
def ID(h:ak)(H:Hp):(B7 h H).objs.size=h.objs.size:=PySem.W.hideAll_size _ _
def J5{h:ak}{H:Hp}{b:aj}(e:h.get? b=some o)(n:H b=none):(B7 h H).get? b=some o:=
 c_ _ e λd=>by
  have q:(H b).isSome=true:=(jq.mp d).2;rw[n]at q;simp at q
def NQ{h:ak}{H:Hp}{b:aj}(e:(B7 h H).get? b=some o):h.get? b=some o/\H b=none:=by
 have d:h.get? b=some o:=dD (W6 h H) e;refine⟨d,?_⟩
 cases q:H b with
 | none=>rfl
 | some x=>
  have f:b∈W6 h H:=jq.mpr ⟨dF.mpr<|aW d,by simp[q]⟩;have z:(B7 h H).get? b=none:=PySem.W.hideAll_none (W6 h H) f;rw[z]at e;cases e
abbrev N1 (g h:ak)(L:aj):bv:=(List.range h.objs.size).filterMap λa=>if a=L\/(g.get? a).isSome=true then none else(h.get? a).map λo=>(a,o)
abbrev rest (g h:ak)(L d:aj):bv:=(N1 g h L).filter λp=>decide<|p.1≠d
structure Mod (K:au)(mg:Str->bj)(base:ak):Prop where
 kin:K.In base
 glob:base.Ns mainGlobals mg
 blt:∃mb,base.Ns builtinsNs mb/\∀x:Str,x ≠ "__name__" -> mb x=bootBuiltins x
 nolimit:base.NoLimit
structure Cx where
 prog:ah
 w:af
 K:au
 mg:Str->bj
 base:ak
 A:az
 N:ba
 s₀:aA
 H₀:Hp
 env:Env
 outer:List Env
 stack:List Env
 ex:bi
 fn:Str->Bool
 calm:Bool
 pn:bv
 xe:aa->aA->Prop
abbrev frs (l:List Env):bi:=l.filterMap (·.frame)
meta abbrev Cx.fs (X:Cx):bi:=frs X.outer
abbrev WH (sc:Scope)(x:Str):Prop:=sc.names.lookup x=some .local\/sc.names.lookup x=some .cell\/sc.names.lookup x=some .free
abbrev Loc (sc:Scope)(x:Str):Prop:=sc.names.lookup x=some .local\/sc.names.lookup x=some .cell
abbrev Look (env:Env)(h:ak)(m:Str->bj)(x:Str)(u:aa):Prop:=
 (env.kindOf x=some .local/\m x=some u)\/((env.kindOf x=some .cell\/env.kindOf x=some .free)/\∃c,env.cells.lookup x=some c/\h.IsCell c (some u))
structure Cx.Ok (X:Cx):Prop where
 mod:Mod X.K X.mg X.base
 kind:X.env.scope.kind=.function
 glob:X.env.globals=mainGlobals
 blt:X.env.builtins=builtinsNs
 above:X.s₀.heap.objs.size<=X.env.locals
 inj:∀x y c,X.env.cells.lookup x=some c->X.env.cells.lookup y=some c->x=y
 has:∀x,(X.env.kindOf x=some .cell\/X.env.kindOf x=some .free)->∃c,X.env.cells.lookup x=some c
 cab:∀x c,X.fn x=true->X.env.cells.lookup x=some c->X.s₀.heap.objs.size<=c
 hd:X.calm=true->X.A.handled=none
 frames:X.A.frames=some X.stack
 stk:X.stack=X.outer\/(X.stack=X.env::X.outer/\X.env.frame=some X.env.locals)
 exf:∀b∈X.ex,b≠X.env.locals/\∀x c,X.env.cells.lookup x=some c->c≠b
 bs:∀b o,X.base.get? b=some o->X.s₀.heap.get? b=some o/\X.H₀ b=none
 bsz:X.base.objs.size<=X.s₀.heap.objs.size
 noex:∀b o,X.base.get? b=some o->b∉X.ex
 exfs:∀b∈X.ex,b∉X.fs
 uf:X.s₀.heap.FunFrames X.base X.outer
 frf:∀b∈X.fs,X.H₀ b=none
structure Inv (X:Cx)(pins:bv)(σ:List (Option V))(H:Hp)(s:aA):Prop where
 ok:X.Ok
 os:s.os=X.s₀.os
 bare:AllBare s.gens
 base:Un X.fs X.ex X.H₀ H X.s₀.heap s.heap
 loc:∃m,s.heap.Ns X.env.locals m/\∀(i:Nat) (x:Str) (v:V),X.N[i]?=some x->σ[i]?=some (some v)->WH X.env.scope x->∃u,RelV v u/\Look X.env s.heap m x u
 cell:∀x c,X.env.cells.lookup x=some c->∃v,s.heap.IsCell c v
 free:H X.env.locals=none
 freeC:∀x c,X.env.cells.lookup x=some c->H c=none
 pin:∀p∈X.pn++pins,s.heap.get? p.1=some p.2/\H p.1=none/\p.1≠X.env.locals/\p.1∉X.fs/\∀v,p.2.data≠.cell v
 hok:w9 X.prog X.w H s.heap
 len:σ.length=X.N.length
section
variable {X:Cx}{pins:bv}{σ:List (Option V)}{H H':Hp}{s:aA}{h':ak}
def Cx.Ok.Yy(ok:X.Ok){b:aj}(e:X.base.get? b=some o):b∉X.fs:=λd=>by
 have:=(ok.uf.mem d).1;rw[e]at this;cases this
def Inv.bs(I:Inv X pins σ H s):∀b o,X.base.get? b=some o->s.heap.get? b=some o/\H b=none:=λb o e=>
 ⟨I.base.keep b o (I.ok.bs b o e).1 (I.ok.bs b o e).2 (I.ok.Yy e)<|I.ok.noex b o e,I.base.free b o (I.ok.bs b o e).1 (I.ok.bs b o e).2<|I.ok.noex b o e⟩
def Inv.bk(I:Inv X pins σ H s):∀b o,X.base.get? b=some o->s.heap.get? b=some o:=λb o e=>(I.bs b o e).1
def Inv.mod(I:Inv X pins σ H s):Mod X.K X.mg X.base:=I.ok.mod
def Inv.zu(I:Inv X pins σ H s):X.K.In s.heap:=I.ok.mod.kin.keeps I.bk
def Inv.lt(I:Inv X pins σ H s):X.env.locals<s.heap.objs.size:=let⟨_,hn,_⟩:=I.loc;hn.lt
def Inv.sz(I:Inv X pins σ H s):X.s₀.heap.objs.size<=s.heap.objs.size:=cK I.ok.above<|fR I.lt
def Inv.X5(I:Inv X pins σ H s){a:aj}(h:s.heap.objs.size<=a):a∉X.fs:=λd=>by
 obtain⟨_,o,f,_⟩:=I.ok.uf.mem d;exact absurd (bD (aW f)<|cK I.sz h)<|e_ _
def Inv.OL(I:Inv X pins σ H s):∀x c,X.env.cells.lookup x=some c->c≠X.env.locals:=λx c e z=>by
 obtain⟨v,o,g,hd⟩:=I.cell x c e;obtain⟨m,⟨o',es,ep,d,f,_⟩,_⟩:=I.loc;rw[z,d]at g;cases g;rw[f]at hd;cases hd
def Inv.uf(I:Inv X pins σ H s):s.heap.FunFrames X.base X.outer:=by
 have all:∀(l:List Env),(∀b∈frs l,b∈X.fs)->X.s₀.heap.FunFrames X.base l->s.heap.FunFrames X.base l:=by
  intro l
  induction l with
  | nil=>intro _ _;trivial
  | cons env r j=>
   intro hs g;obtain⟨p,⟨L,o,hf,hn,k,hd⟩,m⟩:=g;have f:L∈X.fs:=hs L (by unfold frs;rw[eT,hf];exact aT);obtain⟨B,e⟩:=I.base.slot L o k (I.ok.frf L f) f λz=>I.ok.exfs L z f;exact⟨p,⟨L,_,hf,hn,e,hd⟩,j (λb d=>hs b<|by unfold frs;rw[eT,hf];exact aS _ d) m⟩
 exact all X.outer (λ_ d=>d) I.ok.uf
def Inv.stack(I:Inv X pins σ H s):s.heap.FunFrames X.base X.stack:=by
 rcases I.ok.stk with e|⟨e,hf⟩
 ·rw[e];exact I.uf
 ·rw[e];obtain⟨m,hn,_⟩:=I.loc;refine .cons (by rw[I.ok.kind];decide) hf hn ?_ I.uf;exact Heap.get?_none_of_le<|cK I.ok.bsz I.ok.above
def Inv.vA(I:Inv X pins σ H s):∀b∈frs X.stack,b∈X.env.locals::X.fs:=λb d=>by
 rcases I.ok.stk with e|⟨e,hf⟩
 ·rw[e]at d;exact aS _ d
 ·rw[e]at d;unfold frs at d;rw[eT,hf]at d;exact d
def Inv.u9(I:Inv X pins σ H s):∀b∈frs X.stack,H b=none:=λb d=>by
 rcases bf.mp (I.vA b d)with e|d
 ·rw[e];exact I.free
 ·obtain⟨_,o,f,_⟩:=I.ok.uf.mem d;exact I.base.free b o f (I.ok.frf b d) λz=>I.ok.exfs b z d
def Inv.step{g':Array GenState}{t':Nat}{d':Drawn}{ch:bi}(I:Inv X pins σ H s)
  (U:∀b∈ch,(b∈X.ex\/X.s₀.heap.objs.size<=b)/\b≠X.env.locals/\(∀x c,X.env.cells.lookup x=some c->c≠b)/\∀p∈X.pn++pins,p.1≠b)
  (keep:∀b o,b≠X.env.locals->b∉X.fs->b∉ch->s.heap.get? b=some o->H b=none->h'.get? b=some o)
  (slot:∀b o,b≠X.env.locals->b∈X.fs->b∉ch->s.heap.get? b=some o->H b=none->∃sl,h'.get? b=some { o with slots:=sl }) (free:∀b o,b∉ch->s.heap.get? b=some o->H b=none->H' b=none)
  (there:∀b o,b∉ch->s.heap.get? b=some o->∃o',h'.get? b=some o')
  (tups:∀b xs,H b=some (.tup xs)->H' b=some (.tup xs)) (frzs:∀b o u,H b=some (.frz o u)->H' b=some (.frz o u)) (tbls:∀b ps,H b=some (.tbl ps)->∃more,H' b=some (.tbl<|ps++more))
  (ns:∀m,s.heap.Ns X.env.locals m->h'.Ns X.env.locals m) (Z:w9 X.prog X.w H' h') (hg:AllBare g') :
  Inv X pins σ H' { s with heap:=h',gens:=g',drawn:=d',toks:=t' }:=by
 have G:∀b o,X.s₀.heap.get? b=some o->b≠X.env.locals:=λb o e=>bq<|bD (aW e) I.ok.above;have B:∀b o,X.s₀.heap.get? b=some o->b∉X.ex->b∉ch:=λb o e f C=>by
  rcases(U b C).1 with z|z
  ·exact f z
  ·exact absurd (bD (aW e) z)<|e_ _
 have j:∀x c,X.env.cells.lookup x=some c->∀v,s.heap.IsCell c v->h'.IsCell c v:=λx c e v ⟨o,F,hd⟩=>by
  have g:c∉ch:=λz=>(U c z).2.2.1 x c e rfl;by_cases hc:c∈X.fs
  ·obtain⟨sl,q⟩:=slot c o (I.OL x c e) hc g F<|I.freeC x c e;exact⟨_,q,hd⟩
  ·exact⟨o,keep c o (I.OL x c e) hc g F<|I.freeC x c e,hd⟩
 refine⟨I.ok,I.os,hg,⟨λb o e n C f=>?_,λb o e n C f=>?_,λb o e n f=>?_,λb o e f=>?_,λb xs e=>tups b xs<|I.base.tups b xs e,λb o xs e=>frzs b o xs<|I.base.frzs b o xs e,λb ps e=>?_⟩,?_,λx c e=>?_,?_,λx c e=>?_,λp hp=>?_,Z,I.len⟩
 ·exact keep b o (G b o e) C (B b o e f) (I.base.keep b o e n C f) (I.base.free b o e n f)
 ·obtain⟨sl,e1⟩:=I.base.slot b o e n C f;obtain⟨J,e2⟩:=slot b _ (G b o e) C (B b o e f) e1<|I.base.free b o e n f;exact⟨J,e2⟩
 ·obtain⟨o',e1⟩:=I.base.there b o e f;exact free b o' (B b o e f) e1 (I.base.free b o e n f)
 ·obtain⟨o',e1⟩:=I.base.there b o e f;exact there b o' (B b o e f) e1
 ·obtain⟨N,e1⟩:=I.base.tbls b ps e;obtain⟨P,e2⟩:=tbls b _ e1;exact⟨N++P,by rw[e2,Array.append_assoc]⟩
 ·obtain⟨m,hn,O⟩:=I.loc;refine⟨m,ns m hn,λi x v e1 e2 e3=>?_⟩;obtain⟨u,r,l⟩:=O i x v e1 e2 e3;refine⟨u,r,?_⟩
  rcases l with l|⟨k,c,e,z⟩
  ·exact .inl l
  ·exact .inr ⟨k,c,e,j x c e _ z⟩
 ·obtain⟨v,z⟩:=I.cell x c e;exact⟨v,j x c e v z⟩
 ·obtain⟨m,⟨o,_,_,F,_⟩,_⟩:=I.loc;exact free _ o (λz=>(U _ z).2.1 rfl) F I.free
 ·obtain⟨v,o,F,hd⟩:=I.cell x c e;exact free c o (λz=>(U c z).2.2.1 x c e rfl) F (I.freeC x c e)
 ·obtain⟨e,n,K,L,d⟩:=I.pin p hp;have g:p.1∉ch:=λz=>(U p.1 z).2.2.2 p hp rfl;exact⟨keep p.1 p.2 K L g e n,free p.1 p.2 g e n,K,L,d⟩
def Inv.un{t':Nat}(I:Inv X pins σ H s)(u:Un X.fs [] H H' s.heap h')(J:w9 X.prog X.w H' h'):Inv X pins σ H' { s with heap:=h',toks:=t' }:=by
 obtain⟨m,⟨o,es,ep,k,r⟩,_⟩:=id I.loc;obtain⟨G,C⟩:=u.any k I.free (by simp);exact I.step (g':=s.gens) (d':=s.drawn) (ch:=[]) (nofun) (λb o _ f _ e n=>u.keep b o e n f<|by simp) (λb o _ f _ e n=>u.slot b o e n f<|by simp) (λb o _ e n=>u.free b o e n<|by simp) (λb o _ e=>u.there b o e<|by simp) u.tups u.frzs u.tbls (λF p=>by
  obtain⟨o',g,j,d,B⟩:=p;rw[k]at d;cases d;exact⟨_,g,j,C,B⟩) J I.bare
def Inv.call{g':Array GenState}{t':Nat}{d':Drawn}{ch:bi}(I:Inv X pins σ H s)(u:Un (frs X.stack) ch H H' s.heap h')(U:w9 X.prog X.w H' h')(hg:AllBare g')
  (L:∀b∈ch,(b∈X.ex\/X.s₀.heap.objs.size<=b)/\b≠X.env.locals/\(∀x c,X.env.cells.lookup x=some c->c≠b)/\∀p∈X.pn++pins,p.1≠b) :
  Inv X pins σ H' { s with heap:=h',gens:=g',drawn:=d',toks:=t' }:=by
 obtain⟨m,⟨o,es,ep,k,r⟩,_⟩:=id I.loc;obtain⟨J,g⟩:=u.any k I.free λz=>(L _ z).2.1 rfl;exact I.step (ch:=ch) L (λb o g B hc e n=>u.keep b o e n (λz=>(bf.mp<|I.vA b z).elim g B) hc) (λb o _ _ hc e n=>u.any e n hc) (λb o hc e n=>u.free b o e n hc) (λb o hc e=>u.there b o e hc) u.tups u.frzs u.tbls (λG C=>by
  obtain⟨o',f,j,d,F⟩:=C;rw[k]at d;cases d;exact⟨_,f,j,g,F⟩) U hg
def Inv.turned{t':Nat}{it:aj}(I:Inv X pins σ H s)(k:∀b o,b≠it->s.heap.get? b=some o->h'.get? b=some o)(hn:H it=none)(J:it≠X.env.locals)
  (h1:it∈X.ex\/X.s₀.heap.objs.size<=it) (L:∀x c,X.env.cells.lookup x=some c->c≠it) (U:∀p∈X.pn++pins,p.1≠it):Inv X pins σ H { s with heap:=h',toks:=t' }:=by
 have d:∀b u,H b=some u->b≠it:=λb u e z=>by rw[z,hn]at e;cases e
 refine I.step (g':=s.gens) (d':=s.drawn) (ch:=[it]) (λb f=>?_) (λb o _ _ hc e _=>k b o (λz=>hc<|by simp[z]) e) (λb o _ _ hc e _=>⟨o.slots,k b o (λz=>hc<|by simp[z]) e⟩) (λ_ _ _ _ n=>n)
  (λb o hc e=>⟨o,k b o (λz=>hc<|by simp[z]) e⟩) (λ_ _ e=>e) (λ_ _ _ e=>e) (λb ps e=>⟨#[],by rw[e];simp⟩) (λm g=>?_) (λb u e=>?_) I.bare
 ·have e:b=it:=by simpa using f
  subst e;exact⟨h1,J,L,U⟩
 ·obtain⟨o,es,ep,j,r⟩:=g;exact⟨o,es,ep,k _ o (cL J) j,r⟩
 ·refine(I.hok b u e).stay (λc v hc q=>k c v ?_ q) (λ_ q=>q) λ_ _ q=>q
  rcases hc with z|z
  ·rw[z];exact d b u e
  ·exact d c _ z
def Inv.tok(I:Inv X pins σ H s)(t:Nat):Inv X pins σ H { s with toks:=t }:=I.un (h':=s.heap) (t':=t) Un.refl I.hok
def Inv.kept{t':Nat}(I:Inv X pins σ H s)(k:∀b u,s.heap.get? b=some u->h'.get? b=some u):Inv X pins σ H { s with heap:=h',toks:=t' }:=I.un (Un.kept k)<|I.hok.kept k
def Inv.laid{a:aj}{t':Nat}(I:Inv X pins σ H s)(k:∀b u,s.heap.get? b=some u->h'.get? b=some u)(hp:s.heap.objs.size<=a)(new:nB X.prog X.w (upd H a o) h' a o) :
  Inv X pins σ (upd H a o) { s with heap:=h',toks:=t' }:=I.un (Un.laid k hp<|I.hok.fresh hp)<|I.hok.laid k hp new
def Inv.write{x:aj}{t':Nat}(I:Inv X pins σ H s)(J:W3<|H x)(L:e=x\/H e=some (.own x))(k:∀b u,b≠e->s.heap.get? b=some u->h'.get? b=some u)(j:∃u,h'.get? e=some u)
  (new:nB X.prog X.w (upd H x o) h' x o):Inv X pins σ (upd H x o) { s with heap:=h',toks:=t' }:=I.un (Un.write J L k j)<|I.hok.write J L k j new
def Inv.HC{pins':bv}(I:Inv X pins σ H s)(h:∀p∈pins',s.heap.get? p.1=some p.2/\H p.1=none/\p.1≠X.env.locals/\p.1∉X.fs/\∀v,p.2.data≠.cell v):Inv X pins' σ H s:=
 ⟨I.ok,I.os,I.bare,I.base,I.loc,I.cell,I.free,I.freeC,λp hp=>(bF.mp hp).elim (λz=>I.pin p<|cC _ z)<|h p,I.hok,I.len⟩
def zV{N:ba}(J:N.Nodup){i j:Nat}{x:Str}(a:N[i]?=some x)(b:N[j]?=some x):i=j:=by
 obtain⟨h1,e1⟩:=aZ.mp a;obtain⟨d,e2⟩:=aZ.mp b;exact(List.getElem_inj J).mp (e1.trans e2.symm)
def _root_.γ0(h:1=1:=by first|exact .inl rfl|exact .inr rfl|assumption):1=1:=h
def _root_.γ:Lean.Syntax:=γ0._auto_1
def _root_.δ0(h:1=1:=by decide):1=1:=h
def _root_.δ:Lean.Syntax:=δ0._auto_1
def _root_.ε0(h:1=1:=by rfl):1=1:=h
def _root_.ε:Lean.Syntax:=ε0._auto_1
def _root_.ζ0(h:1=1:=by intro _;rfl):1=1:=h
def _root_.ζ:Lean.Syntax:=ζ0._auto_1
def _root_.η0(h:1=1:=by with_unfolding_all rfl):1=1:=h
def _root_.η:Lean.Syntax:=η0._auto_1
def _root_.θ0(h:1=1:=by exact λ_ _=>rfl):1=1:=h
def _root_.θ:Lean.Syntax:=θ0._auto_1
def IV{A:az}{E:aa->aA->Prop}{i:Nat}{x:Str}{v:V}{Q:Unit->aA->Prop}(I:Inv X pins σ H s)(hN:X.N.Nodup)(hi:X.N[i]?=some x)(hx:Loc X.env.scope x)(r:RelV v u)
  (h:∀s',Inv X pins (σ.set i<|some v) H s'->(∃a,Heap.SameBut a s.heap s'.heap/\(a=X.env.locals\/X.env.cells.lookup x=some a))->Q Unit.unit s') (hf:X.fn x=true\/X.env.scope.names.lookup x=some .local<|>γ):wpAny M A (storeName X.env x u) Q E s:=by
 obtain⟨m,hn,hl⟩:=id I.loc;have P:(X.env.scope.kind == .class || (X.env.scope.kind == .module && X.env.locals != X.env.globals))=false:=by rw[I.ok.kind];rfl
 have g:i<σ.length:=by rw[I.len];exact(aZ.mp hi).1
 have OL:=I.OL;have f:∀{a:aj} {h':ak},(∃o,s.heap.get? a=some o/\H a=none)->Heap.SameBut a s.heap h'->w9 X.prog X.w H h':=λ{a h'} ha hs b ob e=>by
  obtain⟨_,_,hfree⟩:=ha;refine(I.hok b ob e).stay (λc U hc q=>(hs.2 c ?_).trans q) (λ_ q=>q) λ_ _ q=>q;rintro rfl
  rcases hc with rfl|hc
  ·rw[hfree]at e;cases e
  ·rw[hfree]at hc;cases hc
 rcases hx with B|B
 ·refine wpAny_storeName_local B hn (λh' hn' hs=>?_) P;obtain⟨oL,_,_,hoL,_⟩:=id hn;refine h _ ⟨I.ok,I.os,I.bare,⟨λb o e n C hx=>?_,λb o e n C hx=>?_,I.base.free,λb o e hx=>?_,I.base.tups,I.base.frzs,I.base.tbls⟩,⟨_,hn',λj y v' e1 e2 e3=>?_⟩,λy c e=>?_,I.free,I.freeC,λp hp=>?_,f ⟨oL,hoL,I.free⟩ hs,by simpa using I.len⟩ ⟨_,hs,.inl rfl⟩
  ·exact(hs.2 b<|bq<|bD (aW e) I.ok.above).trans (I.base.keep b o e n C hx)
  ·obtain⟨sl,e1⟩:=I.base.slot b o e n C hx;exact⟨sl,(hs.2 b<|bq<|bD (aW e) I.ok.above).trans e1⟩
  ·obtain⟨o',e1⟩:=I.base.there b o e hx;exact⟨o',(hs.2 b<|bq<|bD (aW e) I.ok.above).trans e1⟩
  ·by_cases F:j=i
   ·subst F;rw[hi]at e1;cases e1;rw[cM g]at e2
    cases e2
    exact⟨u,r,.inl ⟨B,by simp⟩⟩
   ·rw[cN<|cL F]at e2;obtain⟨Z,r',q⟩:=hl j y v' e1 e2 e3;refine⟨Z,r',?_⟩
    rcases q with⟨k,e⟩|⟨k,c,e,z⟩
    ·refine .inl ⟨k,?_⟩;have:y≠x:=λe=>F<|zV hN e1<|e ▸ hi;simp[this,e]
    ·exact .inr ⟨k,c,e,z.sameBut hs<|OL y c e⟩
  ·obtain⟨U,z⟩:=I.cell y c e;exact⟨U,z.sameBut hs<|OL y c e⟩
  ·obtain⟨e,n,T,nf,d⟩:=I.pin p hp;exact⟨(hs.2 p.1 T).trans e,n,T,nf,d⟩
 ·have G:X.fn x=true:=by
   rcases hf with z|z
   ·exact z
   ·rw[z]at B;cases B
  obtain⟨c,hc⟩:=I.ok.has x<|.inl B;obtain⟨U,z⟩:=I.cell x c hc;refine wpAny_storeName_cell I.ok.kind B hc z λh' J hs=>?_;obtain⟨oc,L,O⟩:=id z;refine h { s with heap:=h' } ⟨I.ok,I.os,I.bare,⟨λb o e n C hx=>?_,λb o e n C hx=>?_,I.base.free,λb o e hx=>?_,I.base.tups,I.base.frzs,I.base.tbls⟩,⟨m,hn.sameBut hs<|cL<|OL x c hc,λj y v' e1 e2 e3=>?_⟩,λy Y e=>?_,I.free,I.freeC,λp hp=>?_,f ⟨oc,L,I.freeC x c hc⟩ hs,by simpa using I.len⟩ ⟨c,hs,.inr hc⟩
  ·exact(hs.2 b<|bq<|bD (aW e)<|I.ok.cab x c G hc).trans (I.base.keep b o e n C hx)
  ·obtain⟨sl,e1⟩:=I.base.slot b o e n C hx;exact⟨sl,(hs.2 b<|bq<|bD (aW e)<|I.ok.cab x c G hc).trans e1⟩
  ·obtain⟨o',e1⟩:=I.base.there b o e hx;exact⟨o',(hs.2 b<|bq<|bD (aW e)<|I.ok.cab x c G hc).trans e1⟩
  ·by_cases F:j=i
   ·subst F;rw[hi]at e1;cases e1;rw[cM g]at e2
    cases e2
    exact⟨u,r,.inr ⟨.inl B,c,hc,J⟩⟩
   ·rw[cN<|cL F]at e2;obtain⟨Z,r',q⟩:=hl j y v' e1 e2 e3;refine⟨Z,r',?_⟩
    rcases q with q|⟨k,Y,e,z'⟩
    ·exact .inl q
    ·refine .inr ⟨k,Y,e,z'.sameBut hs ?_⟩;rintro rfl;exact F<|zV hN e1<|I.ok.inj _ _ _ e hc ▸ hi
  ·by_cases K:Y=c
   ·subst K;exact⟨_,J⟩
   ·obtain⟨w2,z2⟩:=I.cell y Y e;exact⟨w2,z2.sameBut hs K⟩
  ·obtain⟨e,n,T,nf,d⟩:=I.pin p hp;refine⟨(hs.2 p.1 ?_).trans e,n,T,nf,d⟩;intro q;rw[q,L]at e;have q':oc=p.2:=aU e;exact d U<|by rw[<- q'];exact O
def ux{A:az}{E:aa->aA->Prop}{i:Nat}{x:Str}{v:V}{Q:Unit->aA->Prop}(I:Inv X pins σ H s)(j:X.N.Nodup)(hi:X.N[i]?=some x)(J:Loc X.env.scope x)(r:RelV v u)
  (h:∀s',Inv X pins (σ.set i<|some v) H s'->Q Unit.unit s') (hf:X.fn x=true\/X.env.scope.names.lookup x=some .local<|>γ):wpAny M A (storeName X.env x u) Q E s:=
 IV I j hi J r (λs' d _=>h s' d) hf
def Inv.Mg{s':aA}{ch:bi}(I:Inv X pins σ H s)(L:s'.os=s.os)(u:Un (frs X.stack) ch H H' s.heap s'.heap)(j:w9 X.prog X.w H' s'.heap)(hg:AllBare s'.gens)
  (J:∀b∈ch,(b∈X.ex\/X.s₀.heap.objs.size<=b)/\b≠X.env.locals/\(∀x c,X.env.cells.lookup x=some c->c≠b)/\∀p∈X.pn++pins,p.1≠b):Inv X pins σ H' s':=by
 obtain⟨h',g',d',t',o'⟩:=s';have e:o'=s.os:=L;subst e;exact I.call (g':=g') (t':=t') (d':=d') u j hg J
end
meta abbrev XK:=aa->Option aj->Hp->Prop
meta abbrev St:=List<|Option V
meta abbrev VK:=V->Hp->Prop
meta abbrev TE:=St->Hp->VK->Prop
meta abbrev TT:=St->Hp->(Bool->Hp->Prop)->Prop
meta abbrev TA:=St->Hp->(List V->Hp->Prop)->Prop
structure Ends where
 nx:St->Hp->Prop
 rt:VK
 bk:St->Hp->Prop:=λ_ _=>False
 ct:St->Hp->Prop:=λ_ _=>False
meta abbrev TS:=Ends->St->Hp->Prop
abbrev EP (X:Cx)(pins:bv)(σ:St)(Q:VK)(u:aa)(s':aA):Prop:=∃v H',Inv X pins σ H' s'/\RelV v u/\Q v H'
abbrev TP (X:Cx)(pins:bv)(σ:St)(Q:Bool->Hp->Prop)(b:Bool)(s':aA):Prop:=∃H',Inv X pins σ H' s'/\Q b H'
abbrev AP (X:Cx)(pins:bv)(σ:St)(Q:List V->Hp->Prop)(us:be)(s':aA):Prop:=∃vs H',Inv X pins σ H' s'/\Vals vs us/\Q vs H'
abbrev SP (X:Cx)(pins:bv)(D:Ends)(f:Flow)(s':aA):Prop:=
 match f with
 | .next=>∃d H',Inv X pins d H' s'/\D.nx d H'
 | .brk=>∃d H',Inv X pins d H' s'/\D.bk d H'
 | .cont=>∃d H',Inv X pins d H' s'/\D.ct d H'
 | .ret u=>∃v d H',Inv X pins d H' s'/\RelV v u/\D.rt v H'
abbrev PE (X:Cx)(e:aE)(t:TE):Prop:=
 ∀(pins:bv) (s:aA) (σ:St) (H:Hp) (Q:VK),Inv X pins σ H s->t σ H Q->wpAny (model X.prog X.w) X.A (eval e X.env) (EP X pins σ Q) X.xe s
abbrev PT (X:Cx)(e:aE)(t:TT):Prop:=
 ∀(pins:bv) (s:aA) (σ:St) (H:Hp) (Q:Bool->Hp->Prop),Inv X pins σ H s->t σ H Q->wpAny (model X.prog X.w) X.A (isTrue e X.env<|eval e X.env) (TP X pins σ Q) X.xe s
abbrev PW (X:Cx)(e:aE)(t:TT):Prop:=
 ∀(d:Sem aa) (pins:bv) (s:aA) (σ:St) (H:Hp) (Q:Bool->Hp->Prop),Inv X pins σ H s->t σ H Q->wpAny (model X.prog X.w) X.A (isTrue e X.env d) (TP X pins σ Q) X.xe s
abbrev PA (X:Cx)(es:List aE)(t:TA):Prop:=
 ∀(pos:Pos) (pins:bv) (s:aA) (σ:St) (H:Hp) (Q:List V->Hp->Prop),Inv X pins σ H s->t σ H Q->wpAny (model X.prog X.w) X.A (spliced<|backTo pos<|starEach es X.env) (AP X pins σ Q) X.xe s
abbrev PS (X:Cx)(st:aF)(t:TS):Prop:=
 ∀(pins:bv) (s:aA) (σ:St) (H:Hp) (D:Ends),Inv X pins σ H s->t D σ H->wpAny (model X.prog X.w) X.A (exec st X.env) (SP X pins D) X.xe s
abbrev AH (X:Cx)(st:List aF)(t:TS):Prop:=
 ∀(pins:bv) (s:aA) (σ:St) (H:Hp) (D:Ends),Inv X pins σ H s->t D σ H->wpAny (model X.prog X.w) X.A (execs st X.env) (SP X pins D) X.xe s
def l_{α:Type}{t:Sem α}{Q Q':α->aA->Prop}{A:az}{E:aa->aA->Prop}(h:wpAny M A t Q E s)(j:∀a s,Q a s->Q' a s):wpAny M A t Q' E s:=cS h j λ_ _ x=>x
section
variable {X:Cx}
abbrev Yt (i:Nat):TE:=λσ H Q=>∃v,σ[i]?=some (some v)/\Q v H
abbrev tC (v:V):TE:=λ_ H Q=>Q v H
def T_{i:Nat}{x:Str}(L:X.N[i]?=some x)(hv:WH X.env.scope x)(hd:(x == ("__debug__" : Str))=false<|>δ)(J:(x == ("__classdict__" : Str))=false<|>δ):PE X (.Name x pos) (Yt i):=by
 k_ne;obtain⟨v,e,h⟩:=h;obtain⟨m,hn,k⟩:=I.loc;obtain⟨u,r,l⟩:=k i x v L e hv;have f:EP X pins σ Q u s:=⟨v,H,I,r,h⟩
 rcases l with⟨g,j⟩|⟨g,c,hc,d⟩
 ·exact wpAny_Name (wpAny_loadName_local I.ok.kind g hn j f) hd
 ·rcases g with g|g
  ·exact wpAny_Name (wpAny_loadName_cell I.ok.kind g hc d f) hd
  ·exact wpAny_Name (wpAny_loadName_free I.ok.kind g hc d f J) hd
def EA{i j pos}:PE X (.Constant (.int i) j pos) (tC<|.int i):=λ_ _ _ H _ I h=>wpAny_Constant_int ⟨.int i,H,I.tok _,⟨_,rfl⟩,h⟩
def VN{b j pos}:PE X (.Constant (.bool b) j pos) (tC<|.bl b):=λ_ _ _ H _ I h=>Constant_bool ⟨.bl b,H,I,rfl,h⟩
def RB{j pos}:PE X (.Constant .none j pos) (tC .non):=λ_ _ _ H _ I h=>Constant_none ⟨.non,H,I,rfl,h⟩
def M3{x j pos}:PE X (.Constant (.str x) j pos) (tC<|.str x):=λ_ _ _ H _ I h=>Calls.Constant_str ⟨.str x,H,I.tok _,⟨_,rfl⟩,h⟩
abbrev Gl (X:Cx)(x:Str):Prop:=X.env.kindOf x=some .globalImplicit
def wg{E:aa->aA->Prop}{H:Hp}{x:Str}{Q:aa->aA->Prop}(I:Inv X pins σ H s)(hg:Gl X x)(j:X.mg x=some u)(h:Q u s)
  (hd:(x == ("__debug__" : Str))=false<|>δ):wpAny (model X.prog X.w) X.A (eval (.Name x pos) X.env) Q E s:=
 Calls.Name_function_global I.ok.kind hg (Calls.loadGlobal_global (by rw[I.ok.glob];exact I.mod.glob.keeps I.bk) j h) hd
def uw{E:aa->aA->Prop}{H:Hp}{x:Str}{Q:aa->aA->Prop}(I:Inv X pins σ H s)(hg:Gl X x)(j:X.mg x=none)(hv:bootBuiltins x=some u)(h:Q u s)
  (hn:x ≠ "__name__"<|>δ) (hd:(x == ("__debug__" : Str))=false<|>δ):wpAny (model X.prog X.w) X.A (eval (.Name x pos) X.env) Q E s:=by
 obtain⟨f,h1,d⟩:=I.mod.blt;exact Calls.Name_function_global I.ok.kind hg (Calls.loadGlobal_builtin (by rw[I.ok.glob];exact I.mod.glob.keeps I.bk) j (by rw[I.ok.blt];exact h1.keeps I.bk) ((d x hn).trans hv) h) hd
def BL{x:Str}{v:V}(hg:Gl X x)(j:X.mg x=some u)(r:RelV v u)(hd:(x == ("__debug__" : Str))=false<|>δ):PE X (.Name x pos) (tC v):=
 λ_ _ _ H _ I h=>wg I hg j ⟨v,H,I,r,h⟩ hd
def Gq{x:Str}{v:V}(hg:Gl X x)(j:X.mg x=none)(hv:bootBuiltins x=some u)(r:RelV v u)(hn:x ≠ "__name__"<|>δ)(hd:(x == ("__debug__" : Str))=false<|>δ):PE X (.Name x pos) (tC v):=
 λ_ _ _ H _ I h=>uw I hg j hv ⟨v,H,I,r,h⟩ hn hd
variable {a b:aE}{ta tb:TE}{pos:Pos}
variable {tA tB':TT}{rest:List aE}
abbrev WN (t u:TT):TT:=λσ H Q=>t σ H λc H1=>if c=true then u σ H1 Q else Q false H1
abbrev YM (t u:TT):TT:=λσ H Q=>t σ H λc H1=>if c=true then Q true H1 else u σ H1 Q
abbrev XR (t:TT):TT:=λσ H Q=>t σ H λc H1=>Q (!c) H1
def Oc(j:PT X a tA):PW X (.BoolOp .And [a] pos) tA:=by
 intro d pins s σ H Q I h;refine isTrue_and (l_ (j pins s σ H Q I h) λc f e=>?_)
 cases c with
 | true=>exact isTrue_and_nil e
 | false=>exact e
def Uy(j:PT X a tA):PW X (.BoolOp .Or [a] pos) tA:=by
 intro d pins s σ H Q I h;refine isTrue_or (l_ (j pins s σ H Q I h) λc f e=>?_)
 cases c with
 | false=>exact isTrue_or_nil e
 | true=>exact e
def Ul(J:PT X a tA)(hb:PW X (.BoolOp .And (b::rest) pos) tB'):PW X (.BoolOp .And (a::b::rest) pos) (WN tA tB'):=by
 intro g pins s σ H Q I h;refine isTrue_and (l_ (J pins s σ H _ I h) λc j ⟨H1,d,f⟩=>?_)
 cases c with
 | true=>exact hb g pins j σ H1 Q d f
 | false=>exact⟨H1,d,f⟩
def UX(J:PT X a tA)(hb:PW X (.BoolOp .Or (b::rest) pos) tB'):PW X (.BoolOp .Or (a::b::rest) pos) (YM tA tB'):=by
 intro g pins s σ H Q I h;refine isTrue_or (l_ (J pins s σ H _ I h) λc j ⟨H1,d,f⟩=>?_)
 cases c with
 | true=>exact⟨H1,d,f⟩
 | false=>exact hb g pins j σ H1 Q d f
def TZ(j:PT X a tA):PT X (.UnaryOp .Not a pos) (XR tA):=by
 k_ne;exact isTrue_not<|j pins s σ H (λc H1=>Q (!c) H1) I h
abbrev Vt (ta tb:TE):TE:=λσ H Q=>ta σ H λx H1=>∃c,x=.bl c/\if c=true then tb σ H1 Q else Q (.bl false) H1
abbrev Vn (ta:TE):TE:=λσ H Q=>ta σ H λx H1=>∃c,x=.bl c/\Q (.bl<|!c) H1
def Se{op}{t:TE}(h:PE X a t):PE X (.BoolOp op [a] pos) t:=λpins s σ H Q I hw=>BoolOp_one<|h pins s σ H Q I hw
def TV(j:PE X a ta)(hb:PE X (.BoolOp .And (b::rest) pos) tb):PE X (.BoolOp .And (a::b::rest) pos) (Vt ta tb):=by
 k_ne;refine BoolOp_and<|l_ (j pins s σ H _ I h) λv g ⟨x,H1,f,r1,d⟩=>?_;obtain⟨c,rfl,d⟩:=d
 cases r1
 refine dj ?_
 cases c with
 | true=>exact hb pins g σ H1 Q f d
 | false=>exact⟨.bl false,H1,f,rfl,d⟩
def Tr(j:PE X a ta):PE X (.UnaryOp .Not a pos) (Vn ta):=by
 k_ne;refine UnaryOp_<|l_ (j pins s σ H _ I h) λv g ⟨x,H1,f,r1,d⟩=>?_;obtain⟨c,rfl,d⟩:=d
 cases r1
 exact not_of<|dj ⟨.bl<|!c,H1,f,rfl,d⟩
abbrev Zv (t:TT)(ta tb:TE):TE:=λσ H Q=>t σ H λc H1=>if c=true then ta σ H1 Q else tb σ H1 Q
def JC(hc:PT X c tA)(J:PE X a ta)(hb:PE X b tb):PE X (.IfExp c a b pos) (Zv tA ta tb):=by
 k_ne;refine wpAny_IfExp (l_ (hc pins s σ H _ I h) λd f ⟨H1,g,j⟩=>?_)
 cases d with
 | true=>exact J pins f σ H1 Q g j
 | false=>exact hb pins f σ H1 Q g j
end
abbrev nh (K:au)(H:Hp)(a:aj)(xs:List V):Prop:=
 Rd H a (.lst xs) \/
  ∃(o:Obj) (d:Array aa) (n:Nat),K.lookup a=some o/\o.cls=.type "list" /\ o.dict=none/\o.data=.seq d n/\d.size<=sizeLine/\Vals xs d.toList
abbrev pJ (K:au)(H:Hp)(a:aj)(xs:List V):Prop:=
 Rd H a (.tup xs) \/
  ∃(o:Obj) (d:Array aa) (n:Nat),K.lookup a=some o/\o.cls=.type "tuple" /\ o.dict=none/\o.data=.seq d n/\d.size<=sizeLine/\Vals xs d.toList
abbrev XM:aa->Option V
 | .none=>some .non
 | .bool b=>some (.bl b)
 | .int i _=>some (.int i)
 | .str x _=>some (.str x)
 | .bytes b _=>some (.byt b)
 | .float b _=>some (.flt b)
 | .ref a=>some (.ref a)
 | .type n=>some (.ty n)
 | _=>none
def RelV.abs{x:V}(r:RelV x u):XM u=some x:=by
 cases x with
 | non=>cases r;rfl
 | bl _=>cases r;rfl
 | int _=>obtain⟨t,rfl⟩:=r;rfl
 | str _=>obtain⟨t,rfl⟩:=r;rfl
 | byt _=>obtain⟨t,rfl⟩:=r;rfl
 | flt _=>obtain⟨t,rfl⟩:=r;rfl
 | ref _=>cases r;rfl
 | ty _=>cases r;rfl
def RelV.inj{x:V}(r:RelV x u)(q:RelV y u):x=y:=aU<|r.abs.symm.trans q.abs
theorem Vals.inj:∀{xs ys:List V}{us:be},Vals xs us->Vals ys us->xs=ys
 | _,_,_,.nil,.nil=>rfl
 | _,_,_,.cons r t,.cons d f=>by rw[r.inj d,Vals.inj t f]
section
variable {X:Cx}{pins:bv}{σ:St}{H:Hp}{s:aA}{a:aj}{xs ys:List V}
def nh.of{K:au}(h:H a=some (.lst xs)):nh K H a xs:=.inl<|.inl h
def pJ.of{K:au}(h:H a=some (.tup xs)):pJ K H a xs:=.inl<|.inl h
def Inv.list(I:Inv X pins σ H s)(h:nh X.K H a xs):∃its:be,Vals xs its/\PlainL s.heap a its.toArray/\xs.length<=sizeLine:=by
 rcases h with h|⟨o,its,n,d,hc,hd,hs,f,r⟩
 ·obtain⟨z,its,n,r,e⟩:=h.ok I.hok;exact⟨its,r,⟨_,n,e,rfl,rfl,rfl⟩,z⟩
 ·refine⟨its.toList,r,⟨o,n,I.zu a o d,hc,hd,by simpa using hs⟩,?_⟩;have e:=r.length;dsimp[bJ]at e
  lia
def Inv.tuple(I:Inv X pins σ H s)(h:pJ X.K H a xs):∃its:be,Vals xs its/\IsTup s.heap a its.toArray/\xs.length<=sizeLine:=by
 rcases h with h|⟨o,its,n,d,hc,_,hs,f,r⟩
 ·obtain⟨z,its,r,p⟩:=h.ok I.hok;exact⟨its,r,p.tup,z⟩
 ·refine⟨its.toList,r,⟨o,I.zu a o d,hc,n,by simpa using hs⟩,?_⟩;have e:=r.length;dsimp[bJ]at e
  lia
def Inv.wF(I:Inv X pins σ H s)(h:nh X.K H a xs)(h':nh X.K H a ys):xs=ys:=by
 obtain⟨g,r,⟨o,n,e,_,_,d⟩,_⟩:=I.list h;obtain⟨f,m,⟨o',B,k,_,_,j⟩,_⟩:=I.list h';rw[e]at k;cases k;rw[d]at j
 injection j with p _
 have:g=f:=by simpa using cg Array.toList p
 subst this;exact r.inj m
def Inv.AD(I:Inv X pins σ H s)(h:pJ X.K H a xs)(h':pJ X.K H a ys):xs=ys:=by
 obtain⟨g,r,⟨o,e,_,n,d⟩,_⟩:=I.tuple h;obtain⟨f,m,⟨o',k,_,B,j⟩,_⟩:=I.tuple h';rw[e]at k;cases k;rw[d]at j
 injection j with p _
 have:g=f:=by simpa using cg Array.toList p
 subst this;exact r.inj m
end
meta abbrev Cx.Ab (X:Cx)(E:aa->aA->Prop):Cx:={ X with xe:=E }
meta abbrev Cx.Wa (X:Cx):Cx:=X.Ab λ_ _=>False
def Cx.Ok.Ab{X:Cx}(ok:X.Ok)(E:aa->aA->Prop):(X.Ab E).Ok:=
 ⟨ok.mod,ok.kind,ok.glob,ok.blt,ok.above,ok.inj,ok.has,ok.cab,ok.hd,ok.frames,ok.stk,ok.exf,ok.bs,ok.bsz,ok.noex,ok.exfs,ok.uf,ok.frf⟩
def Cx.Ok.uG{X:Cx}{E:aa->aA->Prop}(ok:(X.Ab E).Ok):X.Ok:=
 ⟨ok.mod,ok.kind,ok.glob,ok.blt,ok.above,ok.inj,ok.has,ok.cab,ok.hd,ok.frames,ok.stk,ok.exf,ok.bs,ok.bsz,ok.noex,ok.exfs,ok.uf,ok.frf⟩
section
variable {X:Cx}{pins:bv}{σ:St}{H:Hp}{s:aA}{E:aa->aA->Prop}
def Inv.Ab(I:Inv X pins σ H s)(E:aa->aA->Prop):Inv (X.Ab E) pins σ H s:=⟨I.ok.Ab E,I.os,I.bare,I.base,I.loc,I.cell,I.free,I.freeC,I.pin,I.hok,I.len⟩
def Inv.uG(I:Inv (X.Ab E) pins σ H s):Inv X pins σ H s:=⟨I.ok.uG,I.os,I.bare,I.base,I.loc,I.cell,I.free,I.freeC,I.pin,I.hok,I.len⟩
def SP.uG{f:Flow}(h:SP (X.Ab E) pins D f s'):SP X pins D f s':=by
 cases f with
 | next=>obtain⟨d,H',I,q⟩:=h;exact⟨d,H',I.uG,q⟩
 | brk=>obtain⟨d,H',I,q⟩:=h;exact⟨d,H',I.uG,q⟩
 | cont=>obtain⟨d,H',I,q⟩:=h;exact⟨d,H',I.uG,q⟩
 | ret u=>obtain⟨v,d,H',I,r,q⟩:=h;exact⟨v,d,H',I.uG,r,q⟩
def AH.Wa{st:List aF}{t:TS}(h:AH X.Wa st t):AH X st t:=λpins s σ H D I hw=>
 cS (h pins s σ H D (I.Ab _) hw) (λ_ _ q=>q.uG) λ_ _ z=>False.elim z
end
section
variable {X:Cx}{st:aF}{rest:List aF}{t u:TS}{e:aE}{te:TE}{pos:Pos}
abbrev Wr:TS:=λD σ H=>D.nx σ H
abbrev Vq (t u:TS):TS:=λD σ H=>t { D with nx:=u D } σ H
def Oi:AH X [] Wr:=λ_ _ σ H _ I h=>gz ⟨σ,H,I,h⟩
def LN(h1:PS X st t)(J:AH X rest u):AH X (st::rest) (Vq t u):=by
 kst_p;refine wpAny_execs_cons (l_ (h1 pins s σ H { D with nx:=u D } I h) λf g q=>?_)
 cases f with
 | next=>
  obtain⟨d,H',j,q⟩:=q;exact J pins g d H' D j q
 | ret v=>exact q
 | brk=>exact q
 | cont=>exact q
def yF(h1:PS X st t):AH X [st] t:=by
 kst_p;refine wpAny_execs_cons (l_ (h1 pins s σ H D I h) λf d q=>?_)
 cases f with
 | next=>exact gz q
 | ret v=>exact q
 | brk=>exact q
 | cont=>exact q
def Inv.quiet{H:Hp}(I:Inv X pins σ H s):interactive X.env=false:=by simp[interactive,I.ok.kind]
abbrev WD (te:TE):TS:=λD σ H=>te σ H λ_ H1=>D.nx σ H1
def OH(j:PE X e te)(hs:swapsWith e none pos.line X.env=pure false<|>ε):PS X (.Expr e pos) (WD te):=by
 kst_p;exact wpAny_Expr_any (l_ (j pins s σ H _ I h) λv g ⟨x,H1,d,r1,f⟩=>⟨σ,H1,d,f⟩) I.quiet hs
abbrev X9 (te:TE):TS:=λD σ H=>te σ H D.rt
def Uu(j:PE X e te):PS X (.Return (some e) pos) (X9 te):=by
 kst_p;exact wpAny_Return_some<|l_ (j pins s σ H _ I h) λv g ⟨x,H1,d,r1,f⟩=>⟨x,σ,H1,d,r1,f⟩
abbrev Yg (c:TT)(t u:TS):TS:=λD σ H=>c σ H λb H1=>if b=true then t D σ H1 else u D σ H1
def QF{a b:List aF}{tc:TT}(hc:PT X c tc)(J:AH X a t)(hb:AH X b u):PS X (.If c a b pos) (Yg tc t u):=by
 kst_p;refine wpAny_If (l_ (hc pins s σ H _ I h) λd f ⟨H1,g,j⟩=>?_)
 cases d with
 | true=>exact J pins f σ H1 D g j
 | false=>exact hb pins f σ H1 D g j
abbrev SI:TS:=λ_ _ _=>False
def KP:PS X st SI:=λ_ _ _ _ _ _ h=>h.elim
end
meta abbrev TG:=V->St->Hp->(St->Hp->Prop)->Prop
meta abbrev P_:=List V->St->Hp->(St->Hp->Prop)->Prop
abbrev PG (X:Cx)(j:aE)(t:TG):Prop:=
 ∀(pins:bv) (s:aA) (σ:St) (H:Hp) (v:V) (u:aa) (Q:St->Hp->Prop),Inv X pins σ H s->RelV v u->t v σ H Q ->
  wpAny (model X.prog X.w) X.A (assign j X.env u) (λ_ s'=>∃d H',Inv X pins d H' s'/\Q d H') X.xe s
abbrev VG (X:Cx)(ts:List aE)(t:P_):Prop:=
 ∀(pins:bv) (s:aA) (σ:St) (H:Hp) (vs:List V) (us:be) (Q:St->Hp->Prop),Inv X pins σ H s->Vals vs us->t vs σ H Q ->
  wpAny (model X.prog X.w) X.A (assignInOrder ((assignEach ts X.env).map (·.2)) us) (λ_ s'=>∃d H',Inv X pins d H' s'/\Q d H') X.xe s
meta abbrev Pp:=V->V->V->Hp->(Hp->Prop)->Prop
abbrev RZ (X:Cx)(t:Pp):Prop:=
 ∀(pins:bv) (s:aA) (σ:St) (H:Hp) (o i v:V) (d iv u:aa) (Q:Hp->Prop),Inv X pins σ H s->RelV o d->RelV i iv->RelV v u->t o i v H Q ->
  wpAny (model X.prog X.w) X.A (setItem d iv u) (λ_ s'=>∃H',Inv X pins σ H' s'/\Q H') X.xe s
meta abbrev W2:=V->V->Hp->VK->Prop
abbrev XS (X:Cx)(j:Operator)(t:W2):Prop:=
 ∀(pins:bv) (s:aA) (σ:St) (H:Hp) (x y:V) (v u:aa) (Q:VK),Inv X pins σ H s->RelV x v->RelV y u->t x y H Q ->
  wpAny (model X.prog X.w) X.A (inplaceOp j v u) (EP X pins σ Q) X.xe s
section
variable {X:Cx}{pos:Pos}
abbrev JE (i:Nat):TG:=λv σ H Q=>Q (σ.set i<|some v) H
def HK{i:Nat}{x:Str}(j:X.N.Nodup)(hi:X.N[i]?=some x)(J:Loc X.env.scope x)(hf:X.fn x=true\/X.env.scope.names.lookup x=some .local<|>γ):PG X (.Name x pos) (JE i):=by
 intro pins s σ H v u Q I r h;exact wpAny_assign_Name<|ux I j hi J r (λs' d=>⟨_,H,d,h⟩) hf
abbrev Yb:P_:=λvs σ H Q=>vs=[]/\Q σ H
abbrev Vj (t:TG)(u:P_):P_:=λvs σ H Q=>∃v r,vs=v::r/\t v σ H λd H'=>u r d H' Q
def Oa:VG X [] Yb:=by
 intro pins s σ H vs us Q I r h;obtain⟨e,h⟩:=h;subst e
 cases r
 exact assignInOrder_nil ⟨σ,H,I,h⟩
def Ko{t:TG}{u:P_}(h1:PG X e t)(J:VG X es u)
  (hs:(assignEach (e::es) X.env).map (·.2)=assign e X.env::(assignEach es X.env).map (·.2)<|>ε):VG X (e::es) (Vj t u):=by
 intro pins s σ H vs us Q I r h;obtain⟨v,m,e1,h⟩:=h;subst e1
 cases r with
 | cons r k=>
  rw[hs];refine assignInOrder_cons<|l_ (h1 pins s σ H _ _ _ I r h) λ_ g ⟨d,H1,j,f⟩=>?_;exact J pins g d H1 _ _ Q j k f
abbrev Xx (K:au)(n:Nat)(t:P_):TG:=λv σ H Q=>∃a xs,v=.ref a/\pJ K H a xs/\xs.length=n/\t xs σ H Q
def R_{k:Nat}{t:P_}{n:Nat}(hc:X.calm=true)(h:VG X es t)
  (hn:(assignEach es X.env).length=n<|>ε) (J:(assignEach es X.env).findIdx? (·.1)=none<|>ε):PG X (.Tuple es k pos) (Xx X.K n t):=by
 intro pins s σ H v u Q I r hw;obtain⟨a,xs,e1,B,f,hw⟩:=hw;subst e1
 cases r
 obtain⟨p,d,m,C⟩:=I.tuple B;refine assign_Tuple_tuple (I.ok.hd hc) m (by simp[hn,<- f,d.length]) J λh' j=>?_;have g:Inv X pins σ H { s with heap:=h' }:=I.kept (t':=s.toks) λb o e=>j b o (bq<|aW e) e;exact h pins _ σ H xs _ Q g (by simpa using d) hw
abbrev Ys (to j:TE)(t:Pp):TG:=λv σ H Q=>to σ H λo H1=>j σ H1 λi H2=>t o i v H2 λH3=>Q σ H3
def Sj{to J:TE}{t:Pp}(L:PE X o to)(hi:PE X i J)(hs:RZ X t)
  (U:(∀v,assign (.Subscript o i pos) X.env v=(do
   let ov <- holding [v] (eval o X.env)
   let iv <- holding [v,ov] (eval i X.env)
   standAt pos
   holding [v,ov,iv] (setItem ov iv v)
   release [v,ov,iv] []))<|>ζ):PG X (.Subscript o i pos) (Ys to J t):=by
 intro pins s σ H v u Q I r h;rw[U];refine aG<|b_<|l_ (L pins s σ H _ I h) λov j ⟨x,H1,k,r1,f⟩=>?_;refine aG<|b_<|l_ (hi pins j σ H1 _ k f) λiv s2 ⟨y,H2,m,r2,d⟩=>?_;refine aG<|iC<|aG<|b_<|l_ (hs pins s2 σ H2 x y v ov iv u _ m r1 r2 r d) λ_ s3 ⟨H3,p,g⟩=>?_;exact wpAny_release ⟨σ,H3,p,g⟩
abbrev OD (te:TE)(g:TG):TS:=λD σ H=>te σ H λx H1=>g x σ H1 D.nx
def Sq{tg:aE}{te:TE}{g:TG}(J:PE X e te)(hg:PG X tg g)(hs:swapsWithSole [tg] e pos.line X.env=pure false<|>ε)(hw:swappedStores [tg] e X.env=pure none<|>ε)
  (h1:(assignEach [tg] X.env).map (·.2)=[assign tg X.env]<|>ε):PS X (.Assign [tg] e pos) (OD te g):=by
 kst_p;refine wpAny_Assign_stores (l_ (J pins s σ H _ I h) λv d ⟨x,H1,f,r1,j⟩=>?_) hs hw;rw[h1];exact l_ (hg pins d σ H1 x v _ f r1 j) λ_ s2 q=>q
def JY{i:Nat}{x:Str}{te:TE}(J:X.N.Nodup)(hi:X.N[i]?=some x)(L:Loc X.env.scope x)(U:PE X e te)(hs:(swapsWith e (some<|.Name x pos') pos.line X.env=pure false)<|>ε)(hf:X.fn x=true\/X.env.scope.names.lookup x=some .local<|>γ) :
  PS X (.Assign [.Name x pos'] e pos) (OD te<|JE i):=by
 kst_p;refine wpAny_Assign_Name (l_ (U pins s σ H _ I h) λv j ⟨y,H1,f,r1,g⟩=>?_) hs;exact ux f J hi L r1 (λs2 d=>⟨_,H1,d,g⟩) hf
abbrev YF (i:Nat)(te:TE)(j:W2):TS:=λD σ H=>∃x,σ[i]?=some (some x)/\te σ H λy H1=>j x y H1 λz H2=>D.nx (σ.set i<|some z) H2
def Tc{i:Nat}{x:Str}{te:TE}{Z:W2}(hN:X.N.Nodup)(hi:X.N[i]?=some x)(U:Loc X.env.scope x)(he:PE X e te)(ho:XS X op Z)(hf:X.fn x=true\/X.env.scope.names.lookup x=some .local<|>γ) :
  PS X (.AugAssign (.Name x pos') op e pos) (YF i te Z):=by
 kst_p;obtain⟨v,e1,h⟩:=h;obtain⟨m,hn,G⟩:=I.loc;have p:WH X.env.scope x:=by rcases U with k|k;exact .inl k;exact .inr (.inl k)
 obtain⟨u,r,l⟩:=G i x v hi e1 p;refine wpAny_AugAssign_Name ?_;have B:wpAny (model X.prog X.w) X.A (eval e X.env) (λw j=>wpAny (model X.prog X.w) X.A (inplaceOp op u w) (λr g=>wpAny (model X.prog X.w) X.A (storeName X.env x r) (λ_=>SP X pins D .next) X.xe g) X.xe j) X.xe s:=by
  refine l_ (he pins s σ H _ I h) λw K ⟨y,H1,L,r1,J⟩=>?_;refine l_ (ho pins K σ H1 v y u w _ L r r1 J) λz s2 ⟨T,H2,O,r2,C⟩=>?_;exact ux O hN hi U r2 (λs3 P=>⟨_,H2,P,C⟩) hf
 rcases l with⟨d,F⟩|⟨d,c,hc,f⟩
 ·exact wpAny_loadName_local I.ok.kind d hn F B
 ·rcases d with d|d
  ·exact wpAny_loadName_cell I.ok.kind d hc f B
  ·rcases U with k|k
   ·have:X.env.scope.names.lookup x=some .free:=d;rw[k]at this;cases this
   ·have:X.env.scope.names.lookup x=some .free:=d;rw[k]at this;cases this
end
section
variable {X:Cx}{pos:Pos}
abbrev Lx (c:TT)(tb:TS):TS:=λD σ H=>∃W:Nat->St->Hp->Prop,(∃m,W m σ H)/\∀m σ H,W m σ H ->
 c σ H λb H1=>if b=true then ∃N:St->Hp->Prop,(∀d H',N d H'->∃f,f<m/\W f d H')/\tb { D with nx:=N,ct:=N,bk:=D.nx } σ H1 else D.nx σ H1
def Ju{tc:TT}{tb:TS}(hp:PassesOwn (model X.prog X.w) X.A X.env X.xe)(hc:PT X c tc)(hb:AH X body tb):PS X (.While c body [] pos) (Lx tc tb):=by
 kst_p;obtain⟨W,⟨T,O⟩,turn⟩:=h;refine wpAny_While<|codeAny_whileLoop (λn s'=>∃j H',Inv X pins j H' s'/\W n j H') ?_ T ⟨σ,H,I,O⟩;rintro n U ⟨g,H1,L,P⟩;refine fG hp (l_ (hc pins U g H1 _ L<|turn n g H1 P) λb s2 ⟨H2,J,k⟩=>?_)
 cases b with
 | true=>
  obtain⟨N,K,k⟩:=k;rw[aQ rfl];refine fG hp (l_ (hb pins s2 g H2 _ J k) λf s3 m=>?_)
  cases f with
  | next=>
   obtain⟨d,H3,G,p⟩:=m;obtain⟨C,B,F⟩:=K d H3 p;exact⟨C,B,d,H3,G,F⟩
  | cont=>
   obtain⟨d,H3,G,p⟩:=m;obtain⟨C,B,F⟩:=K d H3 p;exact⟨C,B,d,H3,G,F⟩
  | brk=>exact m
  | ret v=>exact m
 | false=>
  rw[aO bh];exact gz ⟨g,H2,J,k⟩
end
structure It where
 go:Nat->Hp->Prop
 yld:Nat->Hp->V->Hp->Prop
 stop:Nat->Hp->Prop
abbrev tR (X:Cx)(pins:bv)(H:Hp)(b:aj):Prop:=
 H b=none/\b≠X.env.locals/\b∉X.fs/\(b∈X.ex\/X.s₀.heap.objs.size<=b)/\(∀x c,X.env.cells.lookup x=some c->c≠b)/\∀p∈X.pn++pins,p.1≠b
def Inv.B6{H H':Hp}{s:aA}{b:aj}(I:Inv X pins σ H s)(hb:s.heap.objs.size<=b)(hn:H' b=none):tR X pins H' b:=by
 refine⟨hn,f_<|bD I.lt hb,I.X5 hb,.inr<|cK I.sz hb,λx c e z=>?_,λp hp z=>?_⟩
 ·obtain⟨v,q⟩:=I.cell x c e;exact absurd (bD q.lt<|by rw[z];exact hb) (e_ _)
 ·exact absurd (bD (aW (I.pin p hp).1)<|by rw[z];exact hb)<|e_ _
structure Turn (P:ah)(w:af)(K:au)(tg:aE)(J:It)(fp:bi)(it:aj)(tn:Nat->ak->Prop):Prop where
 mem:it∈fp
 obj:∀i h,tn i h->∀b∈fp,∃o,h.get? b=some o/\∀v,o.data≠.cell v
 keep:∀i h h',tn i h->(∀b∈fp,∀o,h.get? b=some o->h'.get? b=some o)->tn i h'
 item:∀(X:Cx),X.prog=P->X.w=w->X.K=K->X.calm=true->∀(i:Nat) (pins:bv) (s:aA) (σ:St) (H:Hp) (E:aa->aA->Prop),Inv X pins σ H s->(∀b∈fp,tR X pins H b)->tn i s.heap->J.go i H ->
  wpAny (model P w) X.A (pyNext<|.ref it) (λr s1=>∃u,r=some u /\
   wpAny (model P w) X.A (letOwnedTupleGo tg (.ref it) u) (λ_ s2=>∃x H',Inv X pins σ H' s2/\RelV x u/\J.yld i H x H'/\tn (i+1) s2.heap/\∀b∈fp,H' b=none) E s1) E s
 done:∀(X:Cx),X.prog=P->X.w=w->X.K=K->X.calm=true->∀(i:Nat) (pins:bv) (s:aA) (σ:St) (H:Hp) (E:aa->aA->Prop),Inv X pins σ H s->(∀b∈fp,tR X pins H b)->tn i s.heap->J.stop i H ->
  wpAny (model P w) X.A (pyNext<|.ref it) (λr s1=>r=none/\Inv X pins σ H s1) E s
 self:∀(A:az) (i:Nat) (s:aA) (Q:aa->aA->Prop) (E:aa->aA->Prop),tn i s.heap->Q (.ref it) s->wpAny (model P w) A (pyIter<|.ref it) Q E s
meta abbrev TI:=St->Hp->(It->Hp->Prop)->Prop
abbrev XF (X:Cx)(pins:bv)(σ:St)(tg:aE)(R:It->Hp->Prop)(j:aa)(s2:aA):Prop:=
 ∃(it:aj) (fp:bi) (d:Nat->ak->Prop) (J:It) (H':Hp),j=.ref it/\Inv X pins σ H' s2/\Turn X.prog X.w X.K tg J fp it d/\d 0 s2.heap/\(∀b∈fp,tR X pins H' b)/\R J H'
abbrev PI (X:Cx)(tg iter:aE)(j:TI):Prop:=
 ∀(pins:bv) (s:aA) (σ:St) (H:Hp) (R:It->Hp->Prop),Inv X pins σ H s->j σ H R ->
  wpAny (model X.prog X.w) X.A (eval iter X.env) (λv d=>wpAny (model X.prog X.w) X.A (pyIter v) (XF X pins σ tg R) X.xe d) X.xe s
def CN{A:az}{E:aa->aA->Prop}{s:aA}{o:Obj}{n:String}{Q:Unit->aA->Prop}(J:s.heap.get? it=some o)(hc:o.cls=.type n)(hd:o.data=.fields vs)
  (hn:["enumerate", "zip", "dict_itemiterator", "dict_reverseitemiterator", "odict_iterator", "itertools.zip_longest", "itertools.pairwise"].contains n=false) (j:Q Unit.unit s):wpAny M A (letOwnedTupleGo tg (.ref it) u) Q E s:=by
 unfold letOwnedTupleGo
 cases tg<;>first
  | exact aL j
  | (cases u<;>first
    | exact aL j
    | (refine aG (wpAny_load J ?_)
       rw[hc,hd];show wpAny M A (if (["enumerate", "zip", "dict_itemiterator", "dict_reverseitemiterator", "odict_iterator", "itertools.zip_longest", "itertools.pairwise"].contains n && vs[0]? == some (rawInt _))=true then _ else _) Q E s;rw[aO<|by intro h;rw[hn,cT]at h;cases h];exact aL j))
abbrev WW (K:au)(a:aj):It:=
 ⟨λi H=>∃xs x,nh K H a xs/\xs[i]?=some x,λi H x H'=>H'=H/\∀xs,nh K H a xs->xs[i]?=some x,λi H=>∃xs,nh K H a xs/\xs.length<=i⟩
abbrev XZ (K:au)(a:aj):It:=
 ⟨λi H=>∃xs x,pJ K H a xs/\xs[i]?=some x,λi H x H'=>H'=H/\∀xs,pJ K H a xs->xs[i]?=some x,λi H=>∃xs,pJ K H a xs/\xs.length<=i⟩
abbrev Vs (lo:Int)(n:Nat):It:=⟨λi _=>i<n,λi H x H'=>H'=H/\x=.int (lo+i),λi _=>n<=i⟩
def IG{P:ah}{w:af}{K:au}(a it:aj):Turn P w K tg (WW K a) [it] it (λi h=>h.IsListIter it a i) where
 mem:=by simp
 obj:=λi h st b f=>by
  have e:b=it:=by simpa using f
  subst e;obtain⟨o,e,c,d⟩:=st;exact⟨o,e,λv z=>by rw[d]at z;cases z⟩
 keep:=λi h h' st k=>st.at λo e=>k it (by simp) o e
 item:=by
  x_go;subst hP hw hK;obtain⟨xs,x,j,B⟩:=hg;obtain⟨C,m,p,O⟩:=I.list j;obtain⟨u,G,F⟩:=m.get B;kd_p;refine wpAny_pyNext_list_item st p.isList (x:=u) (by simpa using G) λh' g N=>?_;have L:Inv X pins σ H { s with heap:=h' }:=I.turned (t':=s.toks) (λb o f e=>(N.2 b f).trans e) f0 f1 f3 f4 f5;obtain⟨o,e,c,d⟩:=id g;exact⟨u,rfl,CN (s:={ s with heap:=h' }) e c d ⋯ ⟨x,H,L,F,⟨rfl,λys hy=>by rw[I.wF hy j];exact B⟩,g,λb f=>(hf b f).1⟩⟩
 done:=by
  x_go;subst hP hw hK;obtain⟨xs,j,B⟩:=hg;obtain⟨C,m,p,O⟩:=I.list j;kd_p;have T:=m.length;exact wpAny_pyNext_list_end (I.ok.hd hc) st p.isList (by simp;omega) λh' J=>⟨rfl,I.turned (t':=s.toks) (λb o f e=>J b o f e) f0 f1 f3 f4 f5⟩
 self:=λ_ _ _ _ _ st h=>wpAny_pyIter_listiter st h
def E2{P:ah}{w:af}{K:au}(a it:aj):Turn P w K tg (XZ K a) [it] it (λi h=>h.IsTupleIter it a i) where
 mem:=by simp
 obj:=λi h st b f=>by
  have e:b=it:=by simpa using f
  subst e;obtain⟨o,e,c,d⟩:=st;exact⟨o,e,λv z=>by rw[d]at z;cases z⟩
 keep:=λi h h' st k=>st.at λo e=>k it (by simp) o e
 item:=by
  x_go;subst hP hw hK;obtain⟨xs,x,m,C⟩:=hg;obtain⟨g,B,p,O⟩:=I.tuple m;obtain⟨u,G,F⟩:=B.get C;kd_p;refine wpAny_pyNext_tuple_item st (show s.heap.IsTuple a g.toArray from p) (x:=u) (by simpa using G) λh' j N=>?_;have L:Inv X pins σ H { s with heap:=h' }:=I.turned (t':=s.toks) (λb o f e=>(N.2 b f).trans e) f0 f1 f3 f4 f5;obtain⟨o,e,c,d⟩:=id j;exact⟨u,rfl,CN (s:={ s with heap:=h' }) e c d ⋯ ⟨x,H,L,F,⟨rfl,λys hy=>by rw[I.AD hy m];exact C⟩,j,λb f=>(hf b f).1⟩⟩
 done:=by
  x_go;subst hP hw hK;obtain⟨xs,m,C⟩:=hg;obtain⟨g,B,p,O⟩:=I.tuple m;kd_p;have T:=B.length;exact wpAny_pyNext_tuple_end (I.ok.hd hc) st (show s.heap.IsTuple a g.toArray from p) (by simp;omega) λh' J=>⟨rfl,I.turned (t':=s.toks) (λb o f e=>J b o f e) f0 f1 f3 f4 f5⟩
 self:=λ_ _ _ _ _ st h=>wpAny_pyIter_tupleiter st h
def D5{P:ah}{w:af}{K:au}(it:aj)(lo:Int)(n:Nat):Turn P w K tg (Vs lo n) [it] it (λi h=>IsRangeIter h it (lo+(i:Nat) * 1) ((n:Int)-(i:Nat)) 1) where
 mem:=by simp
 obj:=λi h st b d=>by
  have e:b=it:=by simpa using d
  subst e;exact⟨_,st,λv z=>by
   have p:Data.fields _=Data.cell v:=z
   cases p⟩
 keep:=λi h h' st k=>k it (by simp) _ st
 item:=by
  x_go;subst hP hw hK;kd_p;have W:=Walks.range (prog:=X.prog) (w:=X.w) (I.ok.hd hc) it lo 1 n;refine W.item i s _ _ hg st λv h' tk hv f g=>?_;obtain⟨t,rfl⟩:=hv;have m:Inv X pins σ H { s with heap:=h',toks:=tk }:=I.turned (λb o d e=>g b o (by simpa using d) e) f0 f1 f3 f4 f5;refine⟨_,rfl,CN (s:={ s with heap:=h',toks:=tk }) (n := "range_iterator") f rfl rfl ⋯ ⟨.int<|lo+i,H,m,⟨t,?_⟩,⟨rfl,rfl⟩,f,λb d=>(hf b d).1⟩⟩;rw[fZ]
 done:=by
  x_go;subst hP hw hK;kd_p;exact wpAny_pyNext_range_end (I.ok.hd hc) st (by have:n<=i:=hg;lia) λh' j=>⟨rfl,I.turned (t':=s.toks) (λb o d e=>j b o d e) f0 f1 f3 f4 f5⟩
 self:=λ_ _ _ _ _ st h=>wpAny_pyIter_rangeiter st h
section
variable {X:Cx}{tg:aE}
abbrev U_ (K:au)(tl:TE):TI:=λσ H R=>tl σ H λx H1=>∃a,x=.ref a/\(∃xs,nh K H1 a xs)/\R (WW K a) H1
abbrev Xs (K:au)(tl:TE):TI:=λσ H R=>tl σ H λx H1=>∃a,x=.ref a/\(∃xs,pJ K H1 a xs)/\R (XZ K a) H1
def HP{tl:TE}(J:PE X l tl):PI X tg l (U_ X.K tl):=by
 intro pins s σ H R I h;refine l_ (J pins s σ H _ I h) λv d ⟨x,H1,I1,r1,g⟩=>?_;obtain⟨a,e,⟨xs,k⟩,q⟩:=g;subst e
 cases r1
 obtain⟨j,m,p,B⟩:=I1.list k;refine gM p.isList ?_;refine⟨d.heap.objs.size,[d.heap.objs.size],_,_,H1,rfl,I1.kept (t':=d.toks) λb o e=>aM _ e,IG a _,⟨_,a_ _ rfl,rfl,rfl⟩,λb f=>?_,q⟩;have e:b=d.heap.objs.size:=by simpa using f
 subst e;exact I1.B6 (aP _)<|I1.hok.fresh<|aP _
def Nd{tl:TE}(J:PE X l tl):PI X tg l (Xs X.K tl):=by
 intro pins s σ H R I h;refine l_ (J pins s σ H _ I h) λv d ⟨x,H1,I1,r1,j⟩=>?_;obtain⟨a,e,⟨xs,k⟩,q⟩:=j;subst e
 cases r1
 obtain⟨f,m,p,B⟩:=I1.tuple k;refine wpAny_pyIter_tuple (show d.heap.IsTuple a f.toArray from p) ?_;refine⟨d.heap.objs.size,[d.heap.objs.size],_,_,H1,rfl,I1.kept (t':=d.toks) λb o e=>aM _ e,E2 a _,⟨_,a_ _ rfl,rfl,rfl⟩,λb g=>?_,q⟩;have e:b=d.heap.objs.size:=by simpa using g
 subst e;exact I1.B6 (aP _)<|I1.hok.fresh<|aP _
def DW{H:Hp}{s:aA}{R:It->Hp->Prop}{E:aa->aA->Prop}{lo hi:Int}{v:Tok}{tk:Nat}(I:Inv X pins σ H s)(h1:-(2 ^ 62)<=lo)(j:lo<2 ^ 62)(J:-(2 ^ 62)<=hi)(L:hi<2 ^ 62)
  (q:R (Vs lo (hi-lo).toNat) H):wpAny (model X.prog X.w) X.A (pyIter<|.ref s.heap.objs.size) (XF X pins σ tg R) E { s with heap:=s.heap.push { cls:=.type "range",data:=.fields #[.int lo t,.int hi u,.int 1 v]},toks:=tk }:=by
 refine wpAny_pyIter_range (IsRange.new ..) (small_one h1 j J L) ?_;have I1:Inv X pins σ H { s with heap:=s.heap.push { cls:=.type "range",data:=.fields #[.int lo t,.int hi u,.int 1 v]},toks:=tk }:=I.kept λb o e=>aM _ e;refine⟨(s.heap.push { cls:=.type "range",data:=.fields #[.int lo t,.int hi u,.int 1 v]}).objs.size,[(s.heap.push { cls:=.type "range",data:=.fields #[.int lo t,.int hi u,.int 1 v]}).objs.size],_,_,H,rfl,
  I1.kept (t':=tk) λb o e=>aM _ e,D5 _ lo (hi-lo).toNat,?_,λb d=>?_,q⟩
 ·have e1:lo+((0:Nat):Int) * 1=lo:=by simp
  have e2:(((hi-lo).toNat:Nat):Int)-((0:Nat):Int)=Builtin.Range.rangeSize lo hi 1:=by rw[rangeSize_one];split<;>lia
  skip
  rw[e1,e2];exact a_ _ rfl
 ·have e:b=(s.heap.push { cls:=.type "range",data:=.fields #[.int lo t,.int hi u,.int 1 v]}).objs.size:=by simpa using d
  subst e;exact I1.B6 (aP _)<|I1.hok.fresh<|aP _
abbrev tU (ta:TA):TI:=λσ H R=>ta σ H λvs H1=>∃j:Int,vs=[.int j]/\-(2 ^ 62)<=j/\j<2 ^ 62/\R (Vs 0 j.toNat) H1
abbrev uy (ta:TA):TI:=λσ H R=>ta σ H λvs H1=>∃i j:Int,vs=[.int i,.int j]/\(-(2 ^ 62)<=i/\i<2 ^ 62/\-(2 ^ 62)<=j/\j<2 ^ 62)/\R (Vs i (j-i).toNat) H1
def Ib{a:aE}{ta:TA}{p:Pos}(hg:Gl X "range")(J:X.mg "range" = none)(L:PA X [a] ta)(hs:starEach [a] X.env=[(false,eval a X.env)]<|>ε):PI X tg (.Call (.Name "range" p) [a] [] pos) (tU ta):=by
 intro pins s σ H R I h;refine Call_<|uw I hg J boot_range<|dw (l_ (L pos pins s σ H _ I h) λus m ⟨vs,H1,k,r1,d⟩=>?_) hs rfl;obtain⟨j,e,d,f,q⟩:=d;subst e
 cases r1 with
 | cons r g=>
  cases g
  obtain⟨t,rfl⟩:=r;exact call_range_1<|DW k () () d f<|by simpa using q
def Iw{a b:aE}{ta:TA}{p:Pos}(hg:Gl X "range")(L:X.mg "range" = none)(U:PA X [a,b] ta)(hs:starEach [a,b] X.env=[(false,eval a X.env),(false,eval b X.env)]<|>ε)(J:starEach [b] X.env=[(false,eval b X.env)]<|>ε) :
  PI X tg (.Call (.Name "range" p) [a,b] [] pos) (uy ta):=by
 intro pins s σ H R I h;refine Call_ (uw I hg L boot_range<|dw (l_ (U pos pins s σ H _ I h) λus F ⟨vs,H1,B,r1,d⟩=>?_) (by rw[hs,J])<|by rw[J];rfl);obtain⟨i,j,e,⟨d,g,m,k⟩,q⟩:=d;subst e
 cases r1 with
 | cons r f=>
  cases f with
  | cons C f=>
   cases f
   obtain⟨t,rfl⟩:=r;obtain⟨G,rfl⟩:=C;exact call_range_2<|DW B d g m k q
abbrev Xu (j:TI)(g:TG)(tb:TS):TS:=λD σ H=>j σ H λJ H1=>∃W:Nat->Nat->St->Hp->Prop,(∃m,W 0 m σ H1)/\∀i m σ H,W i m σ H ->
 (J.stop i H/\D.nx σ H)\/(J.go i H/\∃N:St->Hp->Prop,(∀d H',N d H'->∃f,f<m/\W (i+1) f d H')/\∀x H',J.yld i H x H'->g x σ H' λσ2 H2=>tb { D with nx:=N,ct:=N,bk:=D.nx } σ2 H2)
abbrev v8 (fp:bi)(h:ak):bv:=fp.filterMap λb=>(h.get? b).map λo=>(b,o)
def oE{fp:bi}{h:ak}{b:aj}(hb:b∈fp)(e:h.get? b=some o):(b,o)∈v8 fp h:=fm.mpr ⟨b,hb,by rw[e];rfl⟩
def Jd{fp:bi}{h:ak}{p:aj×Obj}(hp:p∈v8 fp h):p.1∈fp/\h.get? p.1=some p.2:=by
 obtain⟨b,d,e⟩:=fm.mp hp
 cases q:h.get? b with
 | none=>rw[q]at e;cases e
 | some o=>
  rw[q]at e;have f:(b,o)=p:=aU e;subst f;exact⟨d,q⟩
def Inv.pinned{H:Hp}{s:aA}{fp:bi}(I:Inv X pins σ H s)(hf:∀b∈fp,tR X pins H b)(j:∀b∈fp,∃o,s.heap.get? b=some o/\∀v,o.data≠.cell v):Inv X (pins++v8 fp s.heap) σ H s:=
 I.HC λp hp=>(bF.mp hp).elim (λz=>I.pin p<|bK _ z) λz=>by
  obtain⟨f,e⟩:=Jd z;obtain⟨f0,f1,f2,_⟩:=hf p.1 f;obtain⟨o,g,d⟩:=j p.1 f;rw[e]at g;cases g;exact⟨e,f0,f1,f2,d⟩
def Inv.r_{pl:bv}{H:Hp}(I:Inv X (pins++pl) σ H s):Inv X pins σ H s:=I.HC λp hp=>I.pin p<|bK _<|cC _ hp
def Tq{iter:aE}{wi:TI}{g:TG}{tb:TS}(hp:PassesOwn (model X.prog X.w) X.A X.env X.xe)(hc:X.calm=true)(hi:PI X tg iter wi)(hg:PG X tg g)(hb:AH X body tb)
  (hs:(∀x,foldedSetIterable iter X.env x=pure x)<|>ζ):PS X (.For tg iter body [] pos) (Xu wi g tb):=by
 kst_p;refine wpAny_For (l_ (hi pins s σ H _ I h) λv s1 h1=>l_ h1 λitv s2 h2=>?_) hs;obtain⟨it,fp,tn,J,H2,e,I2,T,Z,f2,W,⟨m0,w0⟩,turn⟩:=h2;subst e;have C:∀{H':Hp},(∀b∈fp,H' b=none)->∀b∈fp,tR X pins H' b:=λhn b hb=>⟨hn b hb,(f2 b hb).2⟩;refine codeAny_forLoop_any (λn s'=>∃i B H',Inv X pins B H' s'/\tn i s'.heap/\(∀b∈fp,H' b=none)/\W i n B H') ?_ m0 ⟨0,σ,H2,I2,Z,λb hb=>(f2 b hb).1,w0⟩;rintro n s3 ⟨i,p,H3,I3,P,U,w3⟩
 rcases turn i n p H3 w3 with⟨O,qn⟩|⟨go,N,hN,step⟩
 ·refine fG hp<|l_ (T.done X rfl rfl rfl hc i pins s3 p H3 X.xe I3 (C U) P O) λr s4 ⟨V,I4⟩=>?_;subst V;exact gz ⟨p,H3,I4,qn⟩
 ·refine fG hp<|l_ (T.item X rfl rfl rfl hc i pins s3 p H3 X.xe I3 (C U) P go) λr s4 ⟨u,V,h4⟩=>?_;subst V;refine fG hp<|l_ h4 λ_ s5 ⟨x,H5,I5,r5,y5,K,Y⟩=>?_;have I5':=I5.pinned (C Y)<|T.obj _ _ K;refine fG hp<|l_ (hg _ s5 p H5 x u _ I5' r5<|step x H5 y5) λ_ s6 ⟨σ6,H6,I6,q6⟩=>?_;refine fG hp<|l_ (hb _ s6 σ6 H6 _ I6 q6) λf s7 G=>?_;have again:∀{j:St} {k:Hp},Inv X (pins++v8 fp s5.heap) j k s7->N j k->∃m,m<n/\∃i B H',Inv X pins B H' s7/\tn i s7.heap/\(∀b∈fp,H' b=none)/\W i m B H':=λ{j k} F L=>by
   obtain⟨m',hm,w7⟩:=hN j k L;refine⟨m',hm,i+1,j,k,F.r_,T.keep _ _ _ K λb hb o e=>(F.pin (b,o)<|bK _<|bK _<|oE hb e).1,λb hb=>?_,w7⟩;obtain⟨o,e,d⟩:=T.obj _ _ K b hb;exact(F.pin (b,o)<|bK _<|bK _<|oE hb e).2.1
  cases f with
  | next=>obtain⟨j,k,F,L⟩:=G;exact again F L
  | cont=>obtain⟨j,k,F,L⟩:=G;exact again F L
  | brk=>obtain⟨j,k,F,G⟩:=G;exact⟨j,k,F.r_,G⟩
  | ret v=>obtain⟨x7,j,k,F,r7,G⟩:=G;exact⟨x7,j,k,F.r_,r7,G⟩
end
def wo{c:TT}{tb:TS}{D:Ends}{H:Hp}(j:St->Hp->Prop)(J:St->Hp->Nat)(h0:j σ H)
  (hs:∀σ H,j σ H->c σ H λb H1=>if b=true then tb { D with nx:=λσ' H'=>j σ' H'/\J σ' H'<J σ H,ct:=λσ' H'=>j σ' H'/\J σ' H'<J σ H,bk:=D.nx } σ H1 else D.nx σ H1)
  (mono:∀σ H Q Q',(∀b H1,Q b H1->Q' b H1)->c σ H Q->c σ H Q'):Lx c tb D σ H:=by
 refine⟨λm σ H=>m=J σ H/\j σ H,⟨_,rfl,h0⟩,?_⟩;rintro m σ H ⟨rfl,p⟩;refine mono σ H _ _ (λb H1 q=>?_) (hs σ H p)
 cases b with
 | true=>exact⟨_,λσ' H' ⟨d,l⟩=>⟨_,l,rfl,d⟩,q⟩
 | false=>exact q
meta abbrev R2:=V->V->Hp->VK->Prop
abbrev nZ (X:Cx)(f:aa->aa->Sem aa)(r:R2):Prop:=
 ∀(pins:bv) (s:aA) (σ:St) (H:Hp) (x y:V) (v u:aa) (Q:VK),Inv X pins σ H s->RelV x v->RelV y u->r x y H Q ->
  wpAny (model X.prog X.w) X.A (f v u) (EP X pins σ Q) X.xe s
abbrev W9 (X:Cx)(f:aa->Sem aa)(r:V->Hp->VK->Prop):Prop:=
 ∀(pins:bv) (s:aA) (σ:St) (H:Hp) (x:V) (v:aa) (Q:VK),Inv X pins σ H s->RelV x v->r x H Q ->
  wpAny (model X.prog X.w) X.A (f v) (EP X pins σ Q) X.xe s
abbrev kE (X:Cx)(f:aa)(r:List V->Hp->VK->Prop):Prop:=
 ∀(pins:bv) (s:aA) (σ:St) (H:Hp) (xs:List V) (us:be) (Q:VK),Inv X pins σ H s->Vals xs us->r xs H Q ->
  wpAny (model X.prog X.w) X.A (call f us) (EP X pins σ Q) X.xe s
abbrev Yn (X:Cx)(r:V->Hp->(Bool->Hp->Prop)->Prop):Prop:=
 ∀(pins:bv) (s:aA) (σ:St) (H:Hp) (x:V) (v:aa) (Q:Bool->Hp->Prop),Inv X pins σ H s->RelV x v->r x H Q ->
  wpAny (model X.prog X.w) X.A (truthy v) (TP X pins σ Q) X.xe s
abbrev Wz (r:R2)(ta tb:TE):TE:=λσ H Q=>ta σ H λx H1=>tb σ H1 λy H2=>r x y H2 Q
abbrev Zm (r:V->Hp->VK->Prop)(ta:TE):TE:=λσ H Q=>ta σ H λx H1=>r x H1 Q
abbrev rI (C:Int->Int->Prop)(g:Int->Int->V):R2:=λx y H Q=>∃i j,x=.int i/\y=.int j/\C i j/\Q (g i j) H
abbrev Qa (g:Int->Int->V):R2:=λx y H Q=>∃i j,x=.int i/\y=.int j/\Q (g i j) H
abbrev rU (g:Int->V):V->Hp->VK->Prop:=λx H Q=>∃i,x=.int i/\Q (g i) H
section
variable {X:Cx}{a b:aE}{ta tb:TE}{pos:Pos}
def Rm(J:PE X a ta)(hb:PE X b tb){H:Hp}{R:V->V->Hp->Prop}(I:Inv X pins σ H s)
  (h:ta σ H λx H1=>tb σ H1 λy H2=>R x y H2) {Q:aa->aA->Prop} {f:aa->aa->Sem aa}
  (hf:∀v u s2 x y H2,Inv X pins σ H2 s2->RelV x v->RelV y u->R x y H2->wpAny (model X.prog X.w) X.A (f v u) Q X.xe s2) :
  wpAny (model X.prog X.w) X.A (eval a X.env) (λv s₁=>wpAny (model X.prog X.w) X.A (eval b X.env) (λu s₂=>wpAny (model X.prog X.w) X.A (f v u) Q X.xe s₂) X.xe s₁) X.xe s:=by
 refine l_ (J pins s σ H _ I h) λv d ⟨x,H1,k,r1,m⟩=>?_;refine l_ (hb pins d σ H1 _ k m) λu s2 ⟨y,H2,j,r2,g⟩=>?_;exact hf v u s2 x y H2 j r1 r2 g
def VM{r:R2}(j:nZ X (binaryOp op) r)(J:PE X a ta)(hb:PE X b tb):PE X (.BinOp a op b pos) (Wz r ta tb):=by
 k_ne;exact wpAny_BinOp<|Rm J hb I h λv u s2 x y H2 d rx ry q=>j pins s2 σ H2 x y v u Q d rx ry q
def M9{r:V->Hp->VK->Prop}(j:W9 X (unaryOp op) r)(J:PE X a ta):PE X (.UnaryOp op a pos) (Zm r ta):=by
 k_ne;exact UnaryOp_<|l_ (J pins s σ H _ I h) λv d ⟨x,H1,f,r1,g⟩=>j pins d σ H1 x v Q f r1 g
def W5{f:aa->aa->Sem aa}{C:Int->Int->Prop}{g:Int->Int->Int}
  (J:∀(i j:Int) (t u:Tok) (s:aA) (Q:aa->aA->Prop) (E:aa->aA->Prop),C i j->Q (.int (g i j) s.toks) { s with toks:=s.toks+1 }->wpAny (model X.prog X.w) X.A (f (.int i t)<|.int j u) Q E s) :
  nZ X f (rI C λi j=>.int<|g i j):=by
 kt_k;obtain⟨i,j,rfl,rfl,hc,q⟩:=h;gn_on;obtain⟨d,rfl⟩:=ry;exact J i j t d s _ _ hc ⟨.int<|g i j,H,I.tok _,⟨_,rfl⟩,q⟩
def Wo{f:aa->aa->Sem aa}{g:Int->Int->Int}
  (J:∀(i j:Int) (t u:Tok) (s:aA) (Q:aa->aA->Prop) (E:aa->aA->Prop),Q (.int (g i j) s.toks) { s with toks:=s.toks+1 }->wpAny (model X.prog X.w) X.A (f (.int i t)<|.int j u) Q E s) :
  nZ X f (Qa λi j=>.int<|g i j):=by
 kt_k;obtain⟨i,j,rfl,rfl,q⟩:=h;gn_on;obtain⟨d,rfl⟩:=ry;exact J i j t d s _ _ ⟨.int<|g i j,H,I.tok _,⟨_,rfl⟩,q⟩
def NS{f:aa->aa->Sem aa}{g:Int->Int->Bool}
  (J:∀(i j:Int) (t u:Tok) (s:aA) (Q:aa->aA->Prop) (E:aa->aA->Prop),Q (.bool<|g i j) s->wpAny (model X.prog X.w) X.A (f (.int i t)<|.int j u) Q E s) :
  nZ X f (Qa λi j=>.bl<|g i j):=by
 kt_k;obtain⟨i,j,rfl,rfl,q⟩:=h;gn_on;obtain⟨d,rfl⟩:=ry;exact J i j t d s _ _ ⟨.bl<|g i j,H,I,rfl,q⟩
abbrev Xp (i j:Int):Prop:=0<=j/\j<=1000000/\i.natAbs<2 ^ 64
abbrev NZ (i j:Int):Prop:=(-(2 ^ 64)<i/\i<2 ^ 64)\/(-(2 ^ 64)<j/\j<2 ^ 64)
def NZ.ok{i j:Int}(h:NZ i j):IntMulOk i j:=by
 rcases h with⟨h1,d⟩|⟨h1,d⟩
 ·exact .of_left (intBits_le_64 h1 d)
 ·exact .of_right<|intBits_le_64 h1 d
def SQ:nZ X (binaryOp .Add) (Qa λi j=>.int<|i+j):=Wo λ_ _ _ _ _ _ _ q=>add_int q
def Rr:nZ X (binaryOp .Sub) (Qa λi j=>.int<|i-j):=Wo λ_ _ _ _ _ _ _ q=>sub_int q
def TF:nZ X (binaryOp .Mult) (rI NZ λi j=>.int<|i * j):=W5 λ_ _ _ _ _ _ _ hc q=>mul_int q hc.ok
def Rk:nZ X (binaryOp .Mod) (rI (λ_ j=>0<j) λi j=>.int<|i % j):=W5 λi j _ _ _ _ _ hc q=>by
 have h1:(0:Int)<j:=hc;exact mod_int' ()<|by rw[Int.fmod_eq_emod_of_nonneg i ()];exact q
def T5:nZ X (binaryOp .Pow) (rI Xp λi j=>.int<|i ^ j.toNat):=W5 λ_ _ _ _ _ _ _ hc q=>pow_int_small hc.1 hc.2.1 hc.2.2 q
def ZA{f:aa->Sem aa}{g:Int->Int}
  (j:∀(i:Int) (t:Tok) (s:aA) (Q:aa->aA->Prop) (E:aa->aA->Prop),Q (.int (g i) s.toks) { s with toks:=s.toks+1 }->wpAny (model X.prog X.w) X.A (f<|.int i t) Q E s) :
  W9 X f (rU λi=>.int<|g i):=by
 intro pins s σ H x v Q I rx h;obtain⟨i,rfl,q⟩:=h;gn_on;exact j i t s _ _ ⟨.int<|g i,H,I.tok _,⟨_,rfl⟩,q⟩
def EW:W9 X (unaryOp .USub) (rU λi=>.int<|-i):=ZA λ_ _ _ _ _ q=>neg_int q
end
section
variable {X:Cx}{a b c:aE}{ta tb tc:TE}{pos:Pos}
def E3{H:Hp}{Q:VK}{k:Bool}(I:Inv X pins σ H s)(q:Q (.bl k) H)(e:k=k'):EP X pins σ Q (.bool k') s:=by
 subst e;exact⟨.bl k,H,I,rfl,q⟩
def VP:nZ X (compareOp .Lt) (Qa λi j=>.bl<|decide<|i<j):=NS λ_ _ _ _ _ _ _ q=>lt_int q
def VD:nZ X (compareOp .LtE) (Qa λi j=>.bl<|decide<|i<=j):=NS λ_ _ _ _ _ _ _ q=>le_int q
def V_:nZ X (compareOp .Gt) (Qa λi j=>.bl<|decide<|j<i):=NS λ_ _ _ _ _ _ _ q=>gt_int q
def U9:nZ X (compareOp .GtE) (Qa λi j=>.bl<|decide<|j<=i):=NS λ_ _ _ _ _ _ _ q=>ge_int q
def IZ:nZ X (compareOp .In) (λx y H Q=>∃i j,x=.str i/\y=.str j/\Q (.bl<|!(Builtin.Str.occurrences j i 0 j.length 1).isEmpty) H):=by
 kt_k;obtain⟨i,j,rfl,rfl,q⟩:=h;gn_on;obtain⟨d,rfl⟩:=ry;exact in_str<|E3 I q rfl
def RC:nZ X (compareOp .Is) (λx y H Q=>y=.non/\Q (.bl<|decide<|x=.non) H):=by
 kt_k;obtain⟨rfl,q⟩:=h
 cases ry
 refine is_none_gen (E3 I q ?_)
 cases x<;>first
  | (cases rx;rfl)
  | (obtain⟨t,rfl⟩:=rx;rfl)
def PD:nZ X (compareOp .IsNot) (λx y H Q=>y=.non/\Q (.bl<|!decide (x=.non)) H):=by
 kt_k;obtain⟨rfl,q⟩:=h
 cases ry
 refine isnot_none_gen (E3 I q ?_)
 cases x<;>first
  | (cases rx;rfl)
  | (obtain⟨t,rfl⟩:=rx;rfl)
def Le(b:aE)(h:op≠.In<|>δ)(j:op≠.NotIn<|>δ):behindInMarks op b=false:=by
 have e1:(op == CmpOp.In)=false:=by cases op<;>first|rfl|exact absurd rfl h
 have e2:(op == CmpOp.NotIn)=false:=by cases op<;>first|rfl|exact absurd rfl j
 cases b<;>simp[behindInMarks,e1,e2]
def Pf{j:CmpOp}{r:R2}(J:nZ X (compareOp j) r)(L:PE X a ta)(hb:PE X b tb)(U:behindInMarks j b=false):PE X (.Compare a [j] [b] pos) (Wz r ta tb):=by
 k_ne;exact wpAny_Compare1 (Rm L hb I h λv u s2 x y H2 d rx ry q=>J pins s2 σ H2 x y v u Q d rx ry q) U
abbrev QS (t:TE):TT:=λσ H Q=>t σ H λx H'=>∃k,x=.bl k/\Q k H'
def OZ{J:CmpOp}{r:R2}(L:nZ X (compareOp J) r)(U:PE X a ta)(hb:PE X b tb)(Z:behindInMarks J b=false):PT X (.Compare a [J] [b] pos) (QS<|Wz r ta tb):=by
 k_ne;refine wpAny_isTrue_Compare1 (l_ (U pins s σ H _ I h) λv j ⟨x,H1,m,r1,f⟩=>l_ (hb pins j σ H1 _ m f) λu s2 ⟨y,H2,B,r2,d⟩=>
  l_ (L pins s2 σ H2 x y v u _ B r1 r2 d) λc s3 ⟨z,H3,C,p,k,e,g⟩=>?_) Z
 subst e
 cases p
 exact dj ⟨H3,C,g⟩
abbrev EF (r j:R2)(ta tb tc:TE):TE:=λσ H Q=>ta σ H λx H1=>tb σ H1 λy H2=>r x y H2 λz H3=>∃k,z=.bl k /\
 (if k=true then tc σ H3 λd f=>j y d f Q else Q (.bl false) H3)
def MG{r Z:R2}(ho:nZ X (compareOp op) r)(U:nZ X (compareOp op') Z)(ha:PE X a ta)(hb:PE X b tb)(hc:PE X c tc)
  (hm:lastMarks [op,op'] [b,c]=false<|>η):PE X (.Compare a [op,op'] [b,c] pos) (EF r Z ta tb tc):=by
 k_ne;refine Compare_chain (l_ (ha pins s σ H _ I h) λv C ⟨x,H1,G,r1,B⟩=>chain_link (l_ (hb pins C σ H1 _ G B) λu s2 ⟨y,H2,N,r2,m⟩=>
  l_ (ho pins s2 σ H2 x y v u _ N r1 r2 m) λd s3 ⟨z,H3,g,L,k,e,f⟩=>?_)) hm
 subst e
 cases L
 refine dj ?_
 cases k with
 | false=>exact ite_ff ⟨.bl false,H3,g,rfl,f⟩
 | true=>exact ite_tt<|chain_last<|l_ (hc pins s3 σ H3 _ g f) λF P ⟨K,O,j,J,p⟩=>U pins P σ O y K u F Q j r2 J p
def Mc{r r':R2}(ho:nZ X (compareOp op) r)(ho':nZ X (compareOp op') r')(ha:PE X a ta)(hb:PE X b tb)(hc:PE X c tc)
  (hm:lastMarks [op,op'] [b,c]=false<|>η):PT X (.Compare a [op,op'] [b,c] pos) (QS<|EF r r' ta tb tc):=by
 k_ne;refine isTrue_chain (l_ (ha pins s σ H _ I h) λv K ⟨x,H1,N,r1,F⟩=>test_link (l_ (hb pins K σ H1 _ N F) λu s2 ⟨y,H2,V,r2,p⟩=>
  l_ (ho pins s2 σ H2 x y v u _ V r1 r2 p) λd s3 ⟨z,H3,g,U,k,e,f⟩=>?_)) hm
 subst e
 cases U
 refine dj ?_
 cases k with
 | false=>
  obtain⟨k',G,q'⟩:=f
  cases G
  exact ite_ff ⟨H3,g,q'⟩
 | true=>
  refine ite_tt<|test_last<|l_ (hc pins s3 σ H3 _ g f) λL Z ⟨P,Y,m,O,B⟩=>l_ (ho' pins Z σ Y y P u L _ m r2 O B) λd' s5 ⟨z2,J,C,j,k2,e2,T⟩=>?_;subst e2
  cases j
  exact dj ⟨J,C,T⟩
abbrev Sa (K:au)(x:V)(H:Hp)(k:Bool):Prop:=
 match x with
 | .non=>k=false
 | .bl b=>k=b
 | .int i=>k=(i != 0)
 | .str y=>y.length<=sizeLine/\k=((y.length:Int) != 0)
 | .byt y=>y.size<=sizeLine/\k=((y.size:Int) != 0)
 | .ref p=>(∃xs,nh K H p xs/\k=!xs.isEmpty)\/(∃xs,pJ K H p xs/\k=!xs.isEmpty)\/∃d,H p=some (.dK d)/\k=!d.isEmpty
 | _=>False
def E5{J:Type}{j:List<|J×V}{vs:List<|J×aa}(r:KV j vs):(!vs.isEmpty)=!j.isEmpty:=by
 cases r<;>rfl
def zF{xs:List V}{its:be}(r:Vals xs its):(!its.toArray.isEmpty)=!xs.isEmpty:=by
 cases r<;>simp
def xm:(sizeLine:Nat)<2 ^ 63:=by rw[bB];decide
def TR:Yn X (λx H Q=>∃k,Sa X.K x H k/\Q k H):=by
 intro pins s σ H x v Q I rx h;obtain⟨k,e,q⟩:=h;have G:=xm;have hs:sizeLine=16777216:=bB
 cases x with
 | non=>
  cases rx
  have d:k=false:=e;subst d;exact truthy_none ⟨H,I,q⟩
 | bl b=>
  cases rx
  have d:k=b:=e;subst d;exact dj ⟨H,I,q⟩
 | int i=>
  gn_on;have d:k=(i != 0):=e;subst d;exact PySem.P.truthy_int ⟨H,I,q⟩
 | str y=>
  gn_on;obtain⟨hy,d⟩:y.length<=sizeLine/\k=((y.length:Int) != 0):=e;subst d;exact PySem.P.truthy_str () ⟨H,I.tok _,q⟩
 | byt y=>
  gn_on;obtain⟨hy,d⟩:y.size<=sizeLine/\k=((y.size:Int) != 0):=e;subst d;exact PySem.W.truthy_bytes () ⟨H,I.tok _,q⟩
 | ref p=>
  cases rx
  have d:(∃xs,nh X.K H p xs/\k=!xs.isEmpty)\/(∃xs,pJ X.K H p xs/\k=!xs.isEmpty)\/∃f,H p=some (.dK f)/\k=!f.isEmpty:=e
  rcases d with⟨xs,j,d⟩|⟨xs,j,d⟩|⟨f,j,d⟩
  ·subst d;obtain⟨B,r,pl,C⟩:=I.list j;have g:=r.length;exact wpAny_truthy_list pl.isList (by dsimp[aY];lia) ⟨H,I.tok _,by rw[zF r];exact q⟩
  ·subst d;obtain⟨B,r,pl,C⟩:=I.tuple j;have g:=r.length;exact truthy_tuple pl (by dsimp[aY];lia) ⟨H,I.tok _,by rw[zF r];exact q⟩
  ·subst d;obtain⟨C,F,vs,r,m⟩:f.length<=sizeLine/\(p == sysModules)=false/\∃vs,KV f vs/\s.heap.DictOf (Bp X.prog X.w) p vs:=I.hok p _ j;have g:f.length=vs.length:=Paired.length r;exact wpAny_truthy_dict F m () ⟨H,I.tok _,by rw[E5 r];exact q⟩
 | _=>exact(show False from e).elim
def Nv(j:PE X a ta)(J:∀whole,isTrue a X.env whole=(do let v <- whole;standAt a.pos;holding [v] (truthy v))) :
  PT X a (λσ H Q=>ta σ H λx H'=>∃k,Sa X.K x H' k/\Q k H'):=by
 k_ne;exact isTrue_plain (l_ (j pins s σ H _ I h) λv d ⟨x,H1,f,r1,g⟩=>TR pins d σ H1 x v Q f r1 g)<|J _
def Ei:nZ X (binaryOp .Add) (λx y H Q=>∃i j,x=.str i/\y=.str j/\i.length+j.length<=sizeLine/\Q (.str<|i++j) H):=by
 kt_k;obtain⟨i,j,rfl,rfl,d,q⟩:=h;gn_on;obtain⟨f,rfl⟩:=ry;exact add_str (λf tk=>⟨.str<|i++j,H,I.tok _,⟨_,rfl⟩,q⟩) d
def vals1{x:V}(r:Vals [x] us):∃u,us=[u]/\RelV x u:=by
 cases r with
 | cons r1 r2=>cases r2;exact⟨_,rfl,r1⟩
def vals2{x:V}(r:Vals [x,y] us):∃u w',us=[u,w']/\RelV x u/\RelV y w':=by
 cases r with
 | cons r1 r2=>
  cases r2 with
  | cons d f=>cases f;exact⟨_,_,rfl,r1,d⟩
def Ng:kE X (.builtin "abs") (λxs H Q=>∃i,xs=[.int i]/\Q (.int<|if i<0 then -i else i) H):=by
 fin2;obtain⟨i,rfl,q⟩:=h;obtain⟨u,rfl,t,rfl⟩:=vals1 r;exact call_abs_int λu tk=>⟨.int<|if i<0 then -i else i,H,I.tok _,⟨_,rfl⟩,q⟩
def Ig(hc:X.calm=true):kE X (.builtin "max") (λxs H Q=>∃i j,xs=[.int i,.int j]/\Q (.int<|if j>i then j else i) H):=by
 fin2;obtain⟨i,j,rfl,q⟩:=h;obtain⟨u,f,rfl,⟨t,rfl⟩,⟨g,rfl⟩⟩:=vals2 r;refine max_two_ints (I.ok.hd hc) λh' tk k=>⟨_,H,I.kept k,?_,q⟩;by_cases d:j>i
 ·rw[aQ d,aQ d];exact⟨_,rfl⟩
 ·rw[aO d,aO d];exact⟨_,rfl⟩
def IL(hc:X.calm=true):kE X (.builtin "min") (λxs H Q=>∃i j,xs=[.int i,.int j]/\Q (.int<|if j<i then j else i) H):=by
 fin2;obtain⟨i,j,rfl,q⟩:=h;obtain⟨u,f,rfl,⟨t,rfl⟩,⟨g,rfl⟩⟩:=vals2 r;refine min_two_ints (I.ok.hd hc) λh' tk k=>⟨_,H,I.kept k,?_,q⟩;by_cases d:j<i
 ·rw[aQ d,aQ d];exact⟨_,rfl⟩
 ·rw[aO d,aO d];exact⟨_,rfl⟩
def AR:kE X (.type "int") (λxs H Q=>(∃i,xs=[.int i]/\Q (.int i) H)\/∃k,xs=[.bl k]/\Q (.int<|if k then 1 else 0) H):=by
 fin2
 rcases h with⟨i,rfl,q⟩|⟨k,rfl,q⟩
 ·obtain⟨u,rfl,t,rfl⟩:=vals1 r;exact call_int_int ⟨.int i,H,I,⟨_,rfl⟩,q⟩
 ·obtain⟨u,rfl,r1⟩:=vals1 r
  cases r1
  exact call_int_bool ⟨.int<|if k then 1 else 0,H,I.tok _,⟨_,rfl⟩,q⟩
def Br:kE X (.type "str") (λxs H Q=>∃i,xs=[.int i]/\i.natAbs.log2<1920/\Q (.str<|toString i) H):=by
 fin2;obtain⟨i,rfl,d,q⟩:=h;obtain⟨u,rfl,t,rfl⟩:=vals1 r;exact PySem.P.str_of_int d ⟨.str _,H,I.tok _,⟨_,rfl⟩,q⟩
abbrev YC (K:au)(x:V)(H:Hp)(n:Nat):Prop:=
 match x with
 | .str y=>y.length<=sizeLine/\n=y.length
 | .byt y=>y.size<=sizeLine/\n=y.size
 | .ref p=>(∃xs,nh K H p xs/\n=xs.length)\/∃xs,pJ K H p xs/\n=xs.length
 | _=>False
def MH:kE X (.builtin "len") (λxs H Q=>∃x n,xs=[x]/\YC X.K x H n/\Q (.int n) H):=by
 fin2;obtain⟨x,n,rfl,e,q⟩:=h;kln_w;have B:=xm;have hs:sizeLine=16777216:=bB
 cases x with
 | str y=>
  gn_on;obtain⟨hy,f⟩:y.length<=sizeLine/\n=y.length:=e;subst f;exact len_str () ⟨.int _,H,I.tok _,⟨_,rfl⟩,q⟩
 | byt y=>
  gn_on;obtain⟨hy,f⟩:y.size<=sizeLine/\n=y.size:=e;subst f;exact PySem.W.len_bytes () ⟨.int _,H,I.tok _,⟨_,rfl⟩,q⟩
 | ref p=>
  cases rx
  have f:(∃xs,nh X.K H p xs/\n=xs.length)\/∃xs,pJ X.K H p xs/\n=xs.length:=e
  rcases f with⟨xs,g,f⟩|⟨xs,g,f⟩
  ·subst f;obtain⟨k,j,pl,m⟩:=I.list g;have d:=j.length;exact Calls.call_len_list pl.isList (by dsimp[aY];lia) ⟨.int xs.length,H,I.tok _,⟨_,by dsimp[aY];rw[d]⟩,q⟩
  ·subst f;obtain⟨k,j,pl,m⟩:=I.tuple g;have d:=j.length;exact len_tuple pl (by dsimp[aY];lia) ⟨.int xs.length,H,I.tok _,⟨_,by dsimp[aY];rw[d]⟩,q⟩
 | _=>exact(show False from e).elim
end
structure ObjM (h:ak)(x dx C:aj)(mA:Str->bj):Prop where
 obj:h.get? x=some (PySem.W.instObj C dx)
 ns:h.Ns1 dx mA
 ne:dx≠x
def I0{h:ak}{J:Str->bj}(n:h.Ns1 dx J):∃od,h.get? dx=some od/\∀name,PySem.W.lookIn name od=some (J name):=by
 obtain⟨o,es,ep,f,hd,k,_,j⟩:=n;refine⟨o,f,λname=>?_⟩;have e:=j name;unfold nsFind findBy at e;rw[<- Array.find?_toList]at e;unfold PySem.W.lookIn;rw[hd];dsimp only;split
 ·rename_i y q;rw[q]at e;exact cg some e
 ·rename_i q;rw[q]at e;have a:es.toList.any (·.refKey)=false:=by
   rw[List.any_eq_false];intro y hy;obtain⟨z,t,d⟩:=k y<|Array.mem_toList_iff.mp hy;simp[DictEntry.refKey,d]
  have g:¬es.toList.any (·.refKey)=true:=by rw[a];exact bh
  rw[aO g];exact cg some e
def ObjM.look{x C:aj}{j:Str->bj}(I:ObjM h x dx C j):∃od,PySem.W.InstAt h x (PySem.W.instObj C dx) C (some od)/\∀name,PySem.W.lookIn name od=some (j name):=
 let⟨od,ho,hl⟩:=I0 I.ns
 ⟨od,⟨I.obj,rfl,rfl,ho⟩,hl⟩
section
variable {P:ah}{w:af}{H:Hp}{h:ak}{a C dx:aj}{fs:List (Str×V)}
def N4(J:w9 P w H h)(e:H a=some (.ins C dx fs)):∃mA,ObjM h a dx C mA/\(∀f,R9 (fs.lookup f)<|mA f)/\PySem.Within mA (fs.map (·.1))/\fs.length<=1000/\H dx=some (.own a):=by
 obtain⟨d,z,j,g,mA,n,r,q⟩:=(show nB P w H h a (.ins C dx fs)from J a _ e);exact⟨mA,⟨g,n,j⟩,r,q,z,d⟩
end
structure Cls (K:au)(C:aj):Prop where
 pg:PySem.W.plainGet K C Str.empty=true
 hd:PySem.W.hasDictIn K C=true
 po:PySem.W.plainOver K C=true
 sa:PySem.W.findIn K (.ref C) "__setattr__" = some (some<|.builtin "object.__setattr__")
def Cls.get{K:au}{C:aj}(c:Cls K C)(f:Str):PySem.W.plainGet K C f=true:=c.pg
section
variable {X:Cx}{pins:bv}{σ:St}{H:Hp}{s:aA}{A:az}{E:aa->aA->Prop}{Q:aa->aA->Prop}{c:aa}{b:Bool}
inductive TyOf (K:au) (H:Hp):V->aa->Prop where
 | non:TyOf K H .non (.type "NoneType")
 | bl (x:Bool):TyOf K H (.bl x) (.type "bool")
 | int (i:Int):TyOf K H (.int i) (.type "int")
 | str (x:Str):TyOf K H (.str x) (.type "str")
 | flt (x:UInt64):TyOf K H (.flt x) (.type "float")
 | lst {a:aj} {xs:List V} (e:H a=some (.lst xs)):TyOf K H (.ref a) (.type "list")
 | frz {a:aj} {o:Obj} {xs:List V} (e:H a=some (.frz o<|.lst xs)):TyOf K H (.ref a) (.type "list")
 | tup {a:aj} {xs:List V} (e:H a=some (.tup xs)):TyOf K H (.ref a) (.type "tuple")
 | dK {a:aj} {kvs:List<|Key×V} (e:H a=some (.dK kvs)):TyOf K H (.ref a) (.type "dict")
 | dT {a:aj} {kvs:List<|List Key×V} (e:H a=some (.dT kvs)):TyOf K H (.ref a) (.type "dict")
 | ins {a C dx:aj} {fs:List<|Str×V} (e:H a=some (.ins C dx fs)) (cl:Cls K C) (ha:PySem.W.findIn K (.ref C) "__class__" = some (some<|.builtin "object.__class__"))
   (hn:PySem.W.specialIn K (.builtin "object.__class__") "__get__" = some (some<|.builtin "getset_descriptor.__get__")) (htk:PySem.W.takesIn K (.builtin "object.__class__")=some true)
   (hm:PySem.W.mroIn K C (.type "object")=some true):TyOf K H (.ref a)<|.ref C
def Iq{x:V}(I:Inv X pins σ H s)(rx:RelV x u)(ty:TyOf X.K H x t)(e:PySem.W.kitOne X.K t c=some b)(h:∀tk,Q (.bool b) { s with toks:=tk }) :
  wpAny (model X.prog X.w) A (call (.builtin "isinstance") [u,c]) Q E s:=by
 cases ty with
 | non=>cases(show u=Value.none from rx);exact cR PySem.W.kitx_none I.zu True.intro e (λz=>nomatch z) h
 | bl y=>cases(show u=Value.bool y from rx);exact cR PySem.W.kitx_bool I.zu True.intro e (λz=>nomatch z) h
 | int i=>obtain⟨t,q⟩:=(show ∃t,u=Value.int i t from rx);cases q;exact cR PySem.W.kitx_int I.zu True.intro e (λz=>nomatch z) h
 | str y=>obtain⟨t,q⟩:=(show ∃t,u=Value.str y t from rx);cases q;exact cR PySem.W.kitx_str I.zu True.intro e (λz=>nomatch z) h
 | flt y=>obtain⟨t,q⟩:=(show ∃t,u=Value.float y t from rx);cases q;exact cR PySem.W.kitx_float I.zu True.intro e (λz=>nomatch z) h
 | @lst a xs d=>
  cases(show u=Value.ref a from rx)
  obtain⟨_,_,n,_,h1⟩:=(show nB X.prog X.w H s.heap a (.lst xs)from I.hok a _ d);exact cR PySem.W.kitx_list I.zu ⟨_,h1,rfl⟩ e (λz=>nomatch z) h
 | @frz a m xs d=>
  cases(show u=Value.ref a from rx)
  obtain⟨_,_,_,n,_,h1⟩:=(show nB X.prog X.w H s.heap a (.frz m<|.lst xs)from I.hok a _ d);exact cR PySem.W.kitx_list I.zu ⟨_,h1,rfl⟩ e (λz=>nomatch z) h
 | @tup a xs d=>
  cases(show u=Value.ref a from rx)
  obtain⟨_,_,_,p⟩:=(show nB X.prog X.w H s.heap a (.tup xs)from I.hok a _ d);obtain⟨o,h1,g,_⟩:=p;exact cR PySem.W.kitx_tuple I.zu ⟨o,h1,g⟩ e (λz=>nomatch z) h
 | @dK a f d=>
  cases(show u=Value.ref a from rx)
  obtain⟨_,_,vs,_,p⟩:=(show nB X.prog X.w H s.heap a (.dK f)from I.hok a _ d);obtain⟨o,es,ep,h1,g,_⟩:=p;exact cR PySem.W.kitx_dict I.zu ⟨o,h1,g.1⟩ e (λz=>nomatch z) h
 | @dT a f d=>
  cases(show u=Value.ref a from rx)
  obtain⟨_,_,xs,_,o,es,ep,h1,g,_⟩:=(show nB X.prog X.w H s.heap a (.dT f)from I.hok a _ d);exact cR PySem.W.kitx_dict I.zu ⟨o,h1,g.1⟩ e (λz=>nomatch z) h
 | @ins a C dx fs d k F hn j B=>
  cases(show u=Value.ref a from rx)
  obtain⟨G,O,_⟩:=N4 I.hok d;obtain⟨L,J,_⟩:=O.look;exact cR (PySem.W.kitx_own (k.get _) k.hd F hn j B) I.zu J e (λz=>nomatch z) h
end
structure Room (k:Nat)(A:az):Prop where
 hd:A.handled=none
 dp:A.depth+3 * k+5<recursionLimit
 un:A.units+16 * k+200<cLine
 gs:A.guards=some []
def Room.mono{k:Nat}{A:az}(r:Room k A)(h:j<=k):Room j A:=⟨r.hd,by have:=r.dp;lia,by have:=r.un;lia,r.gs⟩
def Room.deeper{k:Nat}{A:az}(r:Room (k+1) A)(env:Env):Room k (A.deeper env):=
 ⟨r.hd,by have:=r.dp;show A.depth+1+3 * k+5<_;lia,by have:=r.un;show A.units+3+16 * k+200<_;lia,r.gs⟩
def Room.depth{k:Nat}{A:az}(r:Room k A):A.depth<recursionLimit:=by have:=r.dp;lia
def Room.units{k:Nat}{A:az}(r:Room k A):A.units+64<cLine:=by have:=r.un;lia
abbrev Xo:TA:=λ_ H Q=>Q [] H
abbrev VL (ta:TE)(j:TA):TA:=λσ H Q=>ta σ H λx H1=>j σ H1 λxs H2=>Q (x::xs) H2
section
variable {X:Cx}{e:aE}{es:List aE}{te:TE}{t:TA}{pos:Pos}
def qR:PA X [] Xo:=λ_ _ _ _ H Q I h=>Calls.spliced_nil ⟨[],H,I,.nil,h⟩
def mQ(J:PE X e te)(L:PA X es t)(hs:starEach (e::es) X.env=(false,eval e X.env)::starEach es X.env<|>ε):PA X (e::es) (VL te t):=by
 intro pos pins s σ H Q I h;rw[hs]
 skip
 refine Calls.spliced_cons<|l_ (J pins s σ H _ I h) λu g ⟨x,H1,j,r1,f⟩=>?_;exact l_ (L pos pins g σ H1 _ j f) λus s2 ⟨xs,H2,k,r2,d⟩=>⟨x::xs,H2,k,.cons r1 r2,d⟩
abbrev Yz (t:TA):TE:=λσ H Q=>t σ H λxs H1=>xs.length<=sizeLine/\∀p,H1 p=none->Q (.ref p) (upd H1 p<|.tup xs)
abbrev Xf (t:TA):TE:=λσ H Q=>t σ H λxs H1=>xs.length<=sizeLine/\∀p,H1 p=none->Q (.ref p) (upd H1 p<|.lst xs)
def UA{x1}(h:PA X es t):PE X (.Tuple es x1 pos) (Yz t):=by
 intro pins s σ H Q I g;refine wpAny_Tuple_spliced (l_ (h pos pins s σ H _ I g) λus d ⟨xs,H1,f,r,z,q⟩=>⟨by rw[<- r.length];exact z,?_⟩);have hf:H1 d.heap.objs.size=none:=f.hok.fresh<|aP _;refine⟨.ref d.heap.objs.size,upd H1 d.heap.objs.size<|.tup xs,f.laid (t':=d.toks) (λb u e=>aM _ e) (aP _) ?_,rfl,q _ hf⟩;exact⟨z,us,r,⟨_,a_ _ rfl,rfl,rfl,_,rfl⟩⟩
def RX(h:PA X es t):PE X (.List es pos) (Xf t):=by
 intro pins s σ H Q I g;refine wpAny_List_spliced (l_ (h pos pins s σ H _ I g) λus d ⟨xs,H1,f,r,z,q⟩=>⟨by rw[<- r.length];exact z,?_⟩);have hf:H1 d.heap.objs.size=none:=f.hok.fresh<|aP _;refine⟨.ref d.heap.objs.size,upd H1 d.heap.objs.size<|.lst xs,f.laid (t':=d.toks) (λb u e=>aM _ e) (aP _) ?_,rfl,q _ hf⟩;exact⟨z,us,0,r,a_ _ rfl⟩
end
meta abbrev Sp:=List V->Hp->VK->XK->Prop
meta abbrev JF:=List Env->Hp->aA->XK->aa->aA->Prop
structure Env0 (P:ah)(w:af)(K:au)(mg:Str->bj)(base:ak)(A:az)(outer:List Env)(s:aA)(H:Hp):Prop where
 frames:A.frames=some outer
 mod:Mod K mg base
 bs:∀b o,base.get? b=some o->s.heap.get? b=some o/\H b=none
 bsz:base.objs.size<=s.heap.objs.size
 uf:s.heap.FunFrames base outer
 frf:∀b∈frs outer,H b=none
 hok:w9 P w H s.heap
 bare:AllBare s.gens
abbrev CE (outer:List Env)(P:ah)(w:af)(H:Hp)(s:aA)(Q:VK)(u:aa)(s':aA):Prop:=
 ∃v H',s'.os=s.os/\AllBare s'.gens/\Un (frs outer) [] H H' s.heap s'.heap/\w9 P w H' s'.heap/\RelV v u/\Q v H'
abbrev CR (CX:JF)(outer:List Env)(P:ah)(w:af)(H:Hp)(s:aA)(Q:VK)(E:XK)(r:Result)(s':aA):Prop:=
 match r with
 | .ok (.ret u)=>CE outer P w H s Q u s'
 | .ok _=>False
 | .error e=>CX outer H s E e s'
structure FnOk (P:ah)(w:af)(K:au)(mg:Str->bj)(base:ak)(CX:JF)(k:Nat)(f:aj)(fd:FuncData)(ps:ba)(sp:Sp):Prop where
 len:∀vs H Q E,sp vs H Q E->vs.length=ps.length
 run:∀(A:az) (outer:List Env) (s:aA) (H:Hp) (args:Args) (us:be) (vs:List V) (Q:VK) (E:XK),Room k A->Env0 P w K mg base A outer s H->BindsTo s fd args (ps.zip us)->Vals vs us->sp vs H Q E ->
  codeAny (model P w) A (.call (.ref f) args) (CR CX outer P w H s Q E) s
section
variable {X:Cx}{pins:bv}{σ:St}{H:Hp}{s s':aA}
def Inv.WA(I:Inv X pins σ H s):Env0 X.prog X.w X.K X.mg X.base X.A X.stack s H:=
 ⟨I.ok.frames,I.ok.mod,I.bs,cK I.ok.bsz I.sz,I.stack,I.u9,I.hok,I.bare⟩
def Inv.after{Q:VK}(I:Inv X pins σ H s)(h:CE X.stack X.prog X.w H s Q u s'):EP X pins σ Q u s':=by
 obtain⟨v,H',os,f,un,j,r,q⟩:=h;obtain⟨m,g,d,t,k⟩:=s';obtain rfl:k=s.os:=os;exact⟨v,H',I.call (h':=m) (g':=g) (d':=d) (t':=t) (ch:=[]) un j f λb z=>absurd z<|by simp,r,q⟩
end
abbrev Qp (sp:Sp)(dvs:List V)(E:XK)(t:TA):TE:=λσ H Q=>t σ H λvs H1=>sp (vs++dvs) H1 Q E
abbrev Binds (K:au)(fd:FuncData)(ps:ba)(ds:be):Prop:=
 ∀(s:aA) (us:be),K.In s.heap->(us++ds).length=ps.length->BindsTo s fd ⟨us,[]⟩ (ps.zip<|us++ds)
def Binds.all{K:au}{ps:ba}(h:∀us:be,us.length=ps.length->bindArgs fd ⟨us,[]⟩=pure (ps.zip us)):Binds K fd ps []:=λs us _ d=>by
 rw[bS]at d ⊢;exact .of_eq<|h us d
abbrev Passes (CX:JF)(X:Cx)(E:XK):Prop:=∀(pins:bv) (σ:St) (H:Hp) (s:aA) (e:aa) (s':aA),Inv X pins σ H s->CX X.stack H s E e s'->X.xe e s'
section
variable {X:Cx}{CX:JF}{k:Nat}{f C:aj}{fd:FuncData}{ps:ba}{sp:Sp}{dvs:List V}{ds:be}{E:XK}{x:Str}{p pos:Pos}{e:aE}{es:List aE}{t:TA}
def TM{H:Hp}{Q:VK}(F:FnOk X.prog X.w X.K X.mg X.base CX k f fd ps sp)(J:Room k X.A)(hb:Binds X.K fd ps ds)(hd:Vals dvs ds)(L:Passes CX X E)
  (I:Inv X pins σ H s) (r:Vals vs us) (h:sp (vs++dvs) H Q E):wpAny (model X.prog X.w) X.A (call (.ref f) us) (EP X pins σ Q) X.xe s:=by
 have r2:Vals (vs++dvs) (us++ds):=r.append hd;have j:(us++ds).length=ps.length:=by rw[<- r2.length];exact F.len _ _ _ _ h
 refine iV (eW (F.run X.A X.stack s H ⟨us,[]⟩ (us++ds) (vs++dvs) Q E J I.WA (hb s us I.zu j) r2 h) λr s' d=>?_)
 cases r with
 | error e=>exact L pins σ H s e s' I d
 | ok g=>
  cases g with
  | ret u=>exact I.after d
  | next=>exact False.elim d
  | brk=>exact False.elim d
  | cont=>exact False.elim d
def Gv(F:FnOk X.prog X.w X.K X.mg X.base CX k f fd ps sp)(L:Room k X.A)(hg:Gl X x)(U:X.mg x=some (.ref f))(Z:PySem.W.keepIn X.K (.ref f)=true)(hb:Binds X.K fd ps ds)(hd:Vals dvs ds)(hx:Passes CX X E)
  (ha:PA X (e::es) t) (j:(x == ("__debug__" : Str))=false<|>δ) (he:starEach (e::es) X.env=(false,eval e X.env)::starEach es X.env<|>ε) (J:((backTo pos<|starEach es X.env).any (·.1)=false)<|>ε) :
  PE X (.Call (.Name x p) (e::es) [] pos) (Qp sp dvs E t):=by
 k_ne;refine gB<|wg I hg U ?_ j;refine PySem.W.callWith_K (h₀:=X.base) I.ok.mod.kin Z (l_ (ha pos pins s σ H _ I h) λus g ⟨vs,H1,d,r,q⟩=>⟨d.zu,?_⟩) he J;exact TM F L hb hd hx d r q
end
section
variable {fd:FuncData}{ps ks:ba}
end
structure FnScope (N P:ba)(sc:Scope):Prop where
 kind:sc.kind=.function
 co:sc.isCoroutine=false
 gen:sc.isGenerator=false
 nd:N.Nodup
 pre:N.take P.length=P
 par:∀x∈P,sc.names.lookup x=some .local\/sc.names.lookup x=some .cell
 nofree:∀y∈sc.names,y.2≠.free
theorem Bd{j:Str->Option NameKind}{x:Str}:∀{binds:List<|Str×aa}{m:Str->bj},(∀v,(x,v)∉binds)->bindL j binds m x=m x
 | [],_,_=>rfl
 | (n,v)::r,m,h=>by
  unfold bindL;rw[Bd λw hw=>h w<|aS _ hw];split
  ·have:x≠n:=by rintro rfl;exact h v aT
   simp[this]
  ·rfl
theorem A5{j:Str->Option NameKind}{x:Str}:∀{binds:List<|Str×aa}{m:Str->bj},(∀v,(x,v)∉binds)->bindC j binds m x=m x
 | [],_,_=>rfl
 | (n,v)::r,m,h=>by
  unfold bindC;rw[A5 λw hw=>h w<|aS _ hw];split
  ·rfl
  ·have:x≠n:=by rintro rfl;exact h v aT
   simp[this]
theorem Bb{j:Str->Option NameKind}{x:Str}{v:aa}:∀{P:ba}{vs:be}{i:Nat}{m:Str->bj},P.Nodup->P[i]?=some x->vs[i]?=some v->j x=some .local ->
  bindL j (P.zip vs) m x=some v
 | [],_,_,_,_,h,_,_=>by simp at h
 | _::_,[],_,_,_,_,h,_=>by simp at h
 | p::P,w::vs,0,m,nd,h1,h2,hk=>by
  simp at h1 h2;subst h1;subst h2;show bindL j ((p,w)::P.zip vs) m p=_;unfold bindL;rw[Bd λv hv=>(eO.mp nd).1 (jt hv).1,aQ hk];simp
 | p::P,w::vs,i+1,m,nd,h1,h2,hk=>by
  skip
  unfold bindL;exact Bb (i:=i) (eO.mp nd).2 (by simpa using h1) (by simpa using h2) hk
theorem AF{j:Str->Option NameKind}{x:Str}{v:aa}:∀{P:ba}{vs:be}{i:Nat}{m:Str->bj},P.Nodup->P[i]?=some x->vs[i]?=some v->j x≠some .local ->
  bindC j (P.zip vs) m x=some v
 | [],_,_,_,_,h,_,_=>by simp at h
 | _::_,[],_,_,_,_,h,_=>by simp at h
 | p::P,w::vs,0,m,nd,h1,h2,hk=>by
  simp at h1 h2;subst h1;subst h2;show bindC j ((p,w)::P.zip vs) m p=_;unfold bindC;rw[A5 λv hv=>(eO.mp nd).1 (jt hv).1,aO hk];simp
 | p::P,w::vs,i+1,m,nd,h1,h2,hk=>by
  skip
  unfold bindC;exact AF (i:=i) (eO.mp nd).2 (by simpa using h1) (by simpa using h2) hk
abbrev start (N:ba)(vs:List V):St:=vs.map some++List.replicate (N.length-vs.length) none
abbrev yC (CX:JF)(P:ah)(w:af)(K:au)(mg:Str->bj)(base:ak)(N:ba)(qual:Str)(scope:Scope)(f:aj)(cd:aa)(A:az)(outer:List Env)(s:aA)(H:Hp)(E:XK):Cx where
 prog:=P
 w:=w
 K:=K
 mg:=mg
 base:=base
 A:=A.deeper (envOfC qual scope s.heap.objs.size f cd)
 N:=N
 s₀:=s
 H₀:=H
 env:=envOfC qual scope s.heap.objs.size f cd
 outer:=outer
 stack:=envOfC qual scope s.heap.objs.size f cd::outer
 ex:=[]
 calm:=true
 fn:=λ_=>true
 pn:=[]
 xe:=λe s'=>wpAny (model P w) (A.deeper<|envOfC qual scope s.heap.objs.size f cd) (leaving (envOfC qual scope s.heap.objs.size f cd) e) (λ_ d=>CX outer H s E e d) (λg d=>CX outer H s E g d) s'
def CP{sc:Scope}{n:Nat}{x:Str}(h:sc.names.lookup x=some .cell):∃c,(cellsFrom n sc.names []).lookup x=some c:=by
 have q:=fS sc.names n []<|.inl h;exact eB.mp q
def Io{CX:JF}{P:ah}{w:af}{K:au}{mg:Str->bj}{base:ak}{N ps:ba}{scope:Scope}{f:aj}{A:az}{outer:List Env}{s:aA}{H:Hp}{E:XK}{vs:List V}
  (S:FnScope N ps scope) (hd:A.handled=none) (e0:Env0 P w K mg base A outer s H) (L:vs.length=ps.length) (r:Vals vs us)
  (x:InCallC s s.heap.objs.size (bindL (envOfC qual scope s.heap.objs.size f cd).kindOf (ps.zip us) λ_=>none) (cellsFrom (s.heap.objs.size+1) scope.names []) (bindC (envOfC qual scope s.heap.objs.size f cd).kindOf (ps.zip us) λ_=>none) s1) :
  Inv (yC CX P w K mg base N qual scope f cd A outer s H E) [] (start N vs) H s1:=by
 have C:ps.length<=N.length:=by have:=cg List.length S.pre;rw[cU]at this;lia
 obtain⟨h1,tk,rfl,B⟩:=x.done;have g:∀b:aj,b∉(yC CX P w K mg base N qual scope f cd A outer s H E).ex:=λb z=>absurd (show b∈([]:bi)from z) (by simp);refine⟨⟨e0.mod,S.kind,rfl,rfl,aP _,λy z c h1 d=>?_,λy hy=>?_,λy c _ h=>?_,λ_=>hd,Around.frames_deeper e0.frames,.inr ⟨rfl,rfl⟩,λb z=>absurd z<|g b,e0.bs,e0.bsz,λb _ _=>g b,λb z=>absurd z<|g b,e0.uf,e0.frf⟩,
  rfl,e0.bare,Un.kept B,⟨_,x.toInCall.ns,λi y v h1 d J=>?_⟩,λy c h=>⟨_,x.cell y c h⟩,e0.hok.fresh<|aP _,λy c h=>?_,λp hp=>absurd (show p∈([]:bv)from hp)<|by simp,e0.hok.kept B,?_⟩
 ·exact name_of_addr x.apart (cQ h1) (cQ d)
 ·have hy:scope.names.lookup y=some .cell\/scope.names.lookup y=some .free:=hy
  rcases hy with hy|hy
  ·exact CP hy
  ·exact absurd rfl<|S.nofree _<|cQ hy
 ·exact fR (x.above y c<|cQ h)
 ·have hi:i<vs.length:=by
   unfold start at d;by_cases hi:i<vs.length
   ·exact hi
   ·rw[fq<|by simpa using hi]at d;rw[List.getElem?_replicate]at d;split at d<;>cases d
  have G:vs[i]?=some v:=by
   unfold start at d;rw[bR<|by simpa using hi,bu]at d
   cases e:vs[i]? with
   | none=>rw[e]at d;cases d
   | some a=>rw[e]at d;cases d;rfl
  obtain⟨u,m,F⟩:=r.get G;have hp:ps[i]?=some y:=by
   rw[<- S.pre,gh ()];exact h1
  have j:ps.Nodup:=by rw[<- S.pre];exact S.nd.sublist (List.take_sublist _ _)
  refine⟨u,F,?_⟩
  rcases S.par y (dP hp)with k|k
  ·exact .inl ⟨k,Bb j hp m k⟩
  ·obtain⟨c,e⟩:=CP (n:=s.heap.objs.size+1) k;refine .inr ⟨.inl k,c,e,?_⟩;have q:=x.cell y c e;rw[AF j hp m<|by show scope.names.lookup y≠_;rw[k];decide]at q;exact q
 ·exact e0.hok.fresh (fR<|x.above y c<|cQ h)
 ·unfold start;show _=N.length;rw[aV,aK,List.length_replicate]
  lia
def PX{CX:JF}{P:ah}{w:af}{K:au}{mg:Str->bj}{base:ak}{k:Nat}{f:aj}{kV ct:aa}
  {osl:Array<|bj} {N ps:ba} {sp:Sp} (lk:K.lookup f=some ⟨oc,od,.func<|PySem.W.fnOf name qual params body scope dV kV doc pm an cdv ct,osl⟩) (hcd:PySem.W.codeIn K cdv qual=true) (S:FnScope N ps scope)
  (len:∀vs H Q E,sp vs H Q E->vs.length=ps.length)
  (hbody:∀(A:az) (outer:List Env) (s:aA) (H:Hp) (vs:List V) (Q:VK) (E:XK),Room k (A.deeper<|envOfC qual scope s.heap.objs.size f cdv)->sp vs H Q E ->
   ∃t,AH (yC CX P w K mg base N qual scope f cdv A outer s H E) body t/\t { nx:=λ_ H'=>Q .non H',rt:=Q } (start N vs) H) :
  FnOk P w K mg base CX (k+1) f (PySem.W.fnOf name qual params body scope dV kV doc pm an cdv ct) ps sp:=by
 refine⟨len,λA outer s H G us vs Q E C e0 O r j=>?_⟩;have T:=len _ _ _ _ j;have L:K.In s.heap:=e0.mod.kin.keeps λb o e=>(e0.bs b o e).1;have B:s.heap.NoLimit:=e0.mod.nolimit.keeps λb o e=>(e0.bs b o e).1;have g:∀y∈ps.zip us,scope.names.lookup y.1=some .local\/(scope.names.lookup y.1=some .cell/\((cellsFrom (s.heap.objs.size+1) scope.names []).lookup y.1).isSome=true):=λ⟨n,v⟩ hy=>by
  rcases S.par n (jt hy).1 with q|q
  ·exact .inl q
  ·exact .inr ⟨q,fS _ _ _<|.inl q⟩
 refine codeAny_call_function C.depth (L _ _ lk) rfl S.co S.gen rfl (PySem.W.codeRec_of L hcd)<|O _ _ _ _ ?_;refine wpAny_newFunctionEnv_cells S.kind g λenv Y F x=>?_;subst Y;refine⟨B.keeps x.toInCall.keep,codeAny_func ?_⟩;obtain⟨t,Z,hq⟩:=hbody A outer s H vs Q E (C.deeper _) j;have I:Inv (yC CX P w K mg base N qual scope f cdv A outer s H E) [] (start N vs) H F:=Io S C.hd e0 T r x;refine cS (Z [] F (start N vs) H _ I hq) (λU s' hs=>?_) λe s' hs=>hs;have m:∀{d:St} {H':Hp} {v:V} {u:aa},Inv (yC CX P w K mg base N qual scope f cdv A outer s H E) [] d H' s'->RelV v u->Q v H'->CE outer P w H s Q u s':=
  λ{d H' v u} J p q=>⟨v,H',J.os,J.bare,J.base,J.hok,p,q⟩
 cases U with
 | ret u=>
  obtain⟨v,d,H',J,p,q⟩:=hs;exact m J p q
 | next=>
  obtain⟨d,H',J,q⟩:=hs;exact m (v:=V.non) (u:=Value.none) J rfl q
 | brk=>
  obtain⟨_,_,_,q⟩:=hs;exact False.elim q
 | cont=>
  obtain⟨_,_,_,q⟩:=hs;exact False.elim q
section
variable {X:Cx}{x:Str}{p pos:Pos}{e:aE}{es:List aE}{t:TA}{id T:String}{r:List V->Hp->VK->Prop}
abbrev Yx (r:List V->Hp->VK->Prop)(t:TA):TE:=λσ H Q=>t σ H λvs H1=>r vs H1 Q
def yY(hc:kE X (.builtin id) r)(hg:Gl X x)(L:X.mg x=none)(hv:bootBuiltins x=some (.builtin id))(U:PA X (e::es) t)(hn:x ≠ "__name__"<|>δ)(j:(x == ("__debug__" : Str))=false<|>δ)
  (Z:starEach (e::es) X.env=(false,eval e X.env)::starEach es X.env<|>ε) (J:((backTo pos<|starEach es X.env).any (·.1)=false)<|>ε):PE X (.Call (.Name x p) (e::es) [] pos) (Yx r t):=by
 k_ne;refine gB<|uw I hg L hv ?_ hn j;exact PyProof.Rows.callWith_builtin1 (l_ (U pos pins s σ H _ I h) λus d ⟨vs,H1,f,r1,g⟩=>hc pins d σ H1 vs us Q f r1 g) Z J
def AN(hc:kE X (.type T) r)(hg:Gl X x)(L:X.mg x=none)(hv:bootBuiltins x=some (.type T))(U:PA X (e::es) t)(hn:x ≠ "__name__"<|>δ)(j:(x == ("__debug__" : Str))=false<|>δ)
  (Z:starEach (e::es) X.env=(false,eval e X.env)::starEach es X.env<|>ε) (J:((backTo pos<|starEach es X.env).any (·.1)=false)<|>ε):PE X (.Call (.Name x p) (e::es) [] pos) (Yx r t):=by
 k_ne;refine gB<|uw I hg L hv ?_ hn j;exact dw (l_ (U pos pins s σ H _ I h) λus d ⟨vs,H1,f,r1,g⟩=>hc pins d σ H1 vs us Q f r1 g) Z J
end
end L2
namespace HT
open PySem PyProof.Rows
section
variable {prog:ah}{w:af}{A:az}{E:aa->aA->Prop}{s:aA}
def PF{b:aj}{vs ws:be}{Q:aa->aA->Prop}(L:IsTup s.heap t vs.toArray)(hb:IsTup s.heap b ws.toArray)(hv:vs≠[])
  (h1:ws=[]->Q (.ref t) s) (U:ws≠[]->Q (.ref s.heap.objs.size) { s with heap:=s.heap.push { cls:=.type "tuple",data:=.seq (vs++ws).toArray }})
  (J:vs.length+ws.length<=sizeLine):wpAny (model prog w) A (binaryOp .Add (.ref t)<|.ref b) Q E s:=by
 obtain⟨⟨cls,dd,data,B⟩,m,hc,n,hd⟩:=id L;obtain⟨⟨F,j,p,g⟩,d,k,C,f⟩:=id hb;simp only at hc hd k f;subst hc hd k f;have e:vs.toArray++ws.toArray=(vs++ws).toArray:=by simp
 by_cases hw:ws=[]
 ·exact concat_meets ⟨_,m,rfl⟩ ⟨_,d,rfl⟩ noFill_tuple_add seq_tuple_add gO gJ (gj _ _)
   (tuple_addW1 t b vs.toArray ws.toArray n C dd j B g (by simpa using hv)<|by simp[hw]) ⟨m,d,h1 hw⟩
 ·refine concat_meets ⟨_,m,rfl⟩ ⟨_,d,rfl⟩ noFill_tuple_add seq_tuple_add gO gJ (gj _ _)
   (tuple_addW2 t b vs.toArray ws.toArray n C dd j B g (by simpa using hv) (by simpa using hw)<|by rw[aY,aY];exact J) ⟨m,d,?_⟩
  rw[e];exact U hw
abbrev oO (n d:Nat):bo->Nat
 | none=>d
 | some v=>if v<0 then(v+(n:Int)).toNat else min v.toNat n
def CO(n d:Nat):oO n d none=d:=rfl
def HY(n d k:Nat):oO n d (some (k:Int))=min k n:=by
 show(if (k:Int)<0 then((k:Int)+(n:Int)).toNat else min (k:Int).toNat n)=min k n;rw[aO (),bY]
def Tj(n d:Nat)(hd:d<=n)(o:bo):oO n d o<=n:=by
 cases o with
 | none=>exact hd
 | some v=>
  show(if v<0 then(v+(n:Int)).toNat else min v.toNat n)<=n;by_cases hv:v<0
  ·rw[aQ hv];lia
  ·rw[aO hv];exact Nat.min_le_right _ _
def GB(v:Int)(n d:Nat):(if v<0 then max (v+(n:Int)) 0 else min v (n:Int))=((oO n d (some v):Nat):Int):=by
 show(if v<0 then max (v+(n:Int)) 0 else min v (n:Int))=(((if v<0 then(v+(n:Int)).toNat else min v.toNat n):Nat):Int);by_cases hv:v<0
 ·dsimp[aQ hv];lia
 ·dsimp[aO hv];lia
def E8(lo hi:bo)(n:Nat):Builtin.Slice.sliceAdjust lo hi 1 (n:Int)=(((oO n 0 lo:Nat):Int),((oO n n hi:Nat):Int)):=by
 have h1:¬((1:Int)<0):=()
 unfold Builtin.Slice.sliceAdjust;dsimp[h1,dS];refine Prod.ext ?_ ?_
 ·cases lo with
  | none=>rfl
  | some v=>exact GB v n 0
 ·cases hi with
  | none=>rfl
  | some v=>exact GB v n n
def ED(i j:Nat):Builtin.Slice.slicePlaces (i:Int) (j:Int) 1=j-i:=by
 unfold Builtin.Slice.slicePlaces;have h1:(1:Int)>0:=()
 dsimp[h1,dB,Int.ediv_one];split<;>lia
def zA{v:aa}{Q:bo->aA->Prop}(p:IsPart v o)(h:Q o s):wpAny (model prog w) A (Builtin.Slice.slicePartIndex v) Q E s:=by
 cases p with
 | none=>exact slicePart_none h
 | int i t=>exact slicePart_int h
def yc{lo:bo}{n:Nat}{Q:Int×Int×Nat->aA->Prop}(hs:s.heap.IsSliceOf sl vl vu .none)(pl:IsPart vl lo)(j:IsPart vu hi)
  (h:Q (((oO n 0 lo:Nat):Int),1,oO n n hi-oO n 0 lo) s):wpAny (model prog w) A (Builtin.Slice.sliceApplied (.ref sl)<|pure (n:Int)) Q E s:=by
 obtain⟨os,d,g,f⟩:=id hs;unfold Builtin.Slice.sliceApplied Builtin.Slice.sliceFields;refine aG<|aG<|d7 d f (x:=vl) rfl<|aG<|d7 d f (x:=vu) rfl<|aG<|d7 d f (x:=.none) rfl<|aL ?_;refine aG (slicePart_none ?_)
 skip
 rw[aO ⋯];refine aG<|zA pl<|aG<|zA j<|aG<|aL ?_;show wpAny _ _ (match Builtin.Slice.sliceAdjust lo hi 1 (n:Int)with|(lo,hi)=>pure (lo,(1:Int),Builtin.Slice.slicePlaces lo hi 1)) _ _ s;rw[E8 lo hi n];show wpAny _ _ (pure (((oO n 0 lo:Nat):Int),(1:Int),Builtin.Slice.slicePlaces ((oO n 0 lo:Nat):Int) ((oO n n hi:Nat):Int) 1)) _ _ s;rw[ED];exact aL h
def La(xs:Array aa)(i k:Nat):((List.range k).filterMap λ(m:Nat)=>xs[((i:Int)+(m:Int) * 1).toNat]?).toArray=((xs.toList.drop i).take k).toArray:=by
 have e:(λ(m:Nat)=>xs[((i:Int)+(m:Int) * 1).toNat]?)=λm=>xs[i+m]?:=by
  funext m
  have:((i:Int)+(m:Int) * 1).toNat=i+m:=()
  rw[this]
 rw[e];have:=pick_run xs i k;rw[gC]at this;have e2:((λx=>xs[x]?) ∘ λx=>i+x)=λm=>xs[i+m]?:=rfl;rw[e2]at this;rw[this]
def wJ{J:Array aa}{lo:bo}{Q:aa->aA->Prop}(L:IsTup s.heap t J)(hs:s.heap.IsSliceOf sl vl vu .none)(pl:IsPart vl lo)(U:IsPart vu hi)
  (hw:¬(oO J.size 0 lo=0/\oO J.size J.size hi=J.size))
  (h:Q (.ref s.heap.objs.size) { s with heap:=s.heap.push { cls:=.type "tuple",data:=.seq ((J.toList.drop<|oO J.size 0 lo).take<|oO J.size J.size hi-oO J.size 0 lo).toArray }})
  (Z:J.size<=sizeLine):wpAny (model prog w) A (getItem (.ref t)<|.ref sl) Q E s:=by
 have d:sizeOk (.seq ((J.toList.drop<|oO J.size 0 lo).take<|oO J.size J.size hi-oO J.size 0 lo).toArray):=by
  show((J.toList.drop<|oO J.size 0 lo).take<|oO J.size J.size hi-oO J.size 0 lo).toArray.size<=sizeLine;rw[aY,cU,cE,bJ];omega
 have B:oO J.size J.size hi<=J.size:=Tj _ _ (aP _) hi;obtain⟨os,g,k,p⟩:=id hs;have f:s.TypeIs (.ref sl) "slice" := ⟨os,g,k⟩;unfold getItem
 try with_reducible refine b_ ?_
 first|refine aG (aL ?_)|skip
 refine aG<|wpAny_sequenceKey L.typeIs ⋯ ?_;refine aG (dz (name:=Str.ofString "__getitem__") L.typeIs cP
  (c9 cP L.typeIs entry_tuple_getitem ?_<|args_tuple_getitem _ _))
 show wpAny _ _ (Builtin.Tuple.tupleItemsOf (.ref t) >>= _) _ _ s;refine aG<|tupleItemsOf_ L ?_;refine aG<|iS f ?_;rw[aQ ⋯];refine aG<|yc hs pl U ?_;have j:¬((((oO J.size 0 lo:Nat):Int) == 0 && (1:Int) == 1 && (oO J.size J.size hi-oO J.size 0 lo) == J.size)=true):=by
  intro q;rw[bE,bE]at q;have C:((oO J.size 0 lo:Nat):Int)=0:=eq_of_beq q.1.1;have F:oO J.size J.size hi-oO J.size 0 lo=J.size:=eq_of_beq q.2;exact hw ⟨by omega,by omega⟩
 show wpAny _ _ (if (((oO J.size 0 lo:Nat):Int) == 0 && (1:Int) == 1 && (oO J.size J.size hi-oO J.size 0 lo) == J.size)=true then _ else _) _ _ s;rw[aO j,La]
 first
  | exact aG (m:=Builtin.Tuple.tupleExact _) (bG (aL ⟨_,rfl,aL h⟩) d)
  | exact aG (m:=Builtin.Tuple.tupleExact _) (bG (aG<|aL<|aL ⟨_,rfl,aL h⟩) d)
  | exact aG (aG (m:=Builtin.Tuple.tupleExact _)<|bG (aL<|aL ⟨_,rfl,aL h⟩) d)
  | exact aG<|aG (m:=Builtin.Tuple.tupleExact _)<|bG (aL ⟨_,rfl,aL h⟩) d
end
end HT
namespace L2
open PySem PySem.Spec PyProof.Rows
meta abbrev TO:=St->Hp->(bo->Hp->Prop)->Prop
abbrev PO (X:Cx)(e:Option aE)(t:TO):Prop:=
 ∀(pins:bv) (s:aA) (σ:St) (H:Hp) (Q:bo->Hp->Prop),Inv X pins σ H s->t σ H Q ->
  wpAny (model X.prog X.w) X.A (evalPart e X.env) (λu s'=>∃o H',Inv X pins σ H' s'/\IsPart u o/\Q o H') X.xe s
abbrev NY:TO:=λ_ H Q=>Q none H
abbrev UQ (t:TE):TO:=λσ H Q=>t σ H λx H1=>∃i,x=.int i/\Q (some i) H1
def intsAre_of{ns:ag}:∀{us:be},Vals (ns.map V.int) us->IntsAre us ns:=by
 induction ns with
 | nil=>intro us r;rw[map_nil]at r;cases r;exact .nil
 | cons n ns d=>
  intro us r;rw[bP]at r
  cases r with
  | cons r1 r2=>
   obtain⟨t,e⟩:=r1;subst e;exact .cons n t<|d r2
section
variable {X:Cx}{e:aE}{te:TE}{lo hi:Option aE}{tl th:TO}{pos p2:Pos}
def OB:PO X none NY:=by
 k_ne;rw[jh];exact aL ⟨none,H,I,.none,h⟩
def Pw(h:PE X e te):PO X (some e) (UQ te):=by
 intro pins s σ H Q I hw;rw[evalPart_some];refine l_ (h pins s σ H _ I hw) λu g ⟨x,H1,d,r1,f⟩=>?_;obtain⟨i,rfl,q⟩:=f;obtain⟨t,rfl⟩:=r1;exact⟨some i,H1,d,.int i t,q⟩
abbrev UK (X:Cx)(r:V->bo->bo->Hp->VK->Prop):Prop:=
 ∀(pins:bv) (s:aA) (σ:St) (H:Hp) (x:V) (v g d:aa) (lo hi:bo) (f:aj) (Q:VK),Inv X pins σ H s->RelV x v->s.heap.IsSliceOf f g d .none->IsPart g lo->IsPart d hi->r x lo hi H Q ->
  ∃T id,typeLookup (.type T) "__getitem__" = pure (some<|.builtin id)/\s.TypeIs v T/\wpAny (model X.prog X.w) X.A (getItem v<|.ref f) (EP X pins σ Q) X.xe s
abbrev Zp (r:V->bo->bo->Hp->VK->Prop)(te:TE)(tl th:TO):TE:=λσ H Q=>te σ H λx H1=>tl σ H1 λl H2=>th σ H2 λu H3=>r x l u H3 Q
def DH{r:V->bo->bo->Hp->VK->Prop}(L:UK X r)(U:PE X e te)(Z:PO X lo tl)(hu:PO X hi th):PE X (.Subscript e (.Slice lo hi none p2) pos) (Zp r te tl th):=by
 k_ne;refine Subscript_<|l_ (U pins s σ H _ I h) λv B ⟨x,H1,C,r1,m⟩=>?_;refine wpAny_Slice<|l_ (Z pins B σ H1 _ C m) λd s2 ⟨l,H2,F,pl,k⟩=>l_ (hu pins s2 σ H2 _ F k) λf s3 ⟨u,H3,G,j,p⟩=>?_;rw[jh];refine aL ?_;have g:Inv X pins σ H3 { s3 with heap:=s3.heap.push { cls:=.type "slice",data:=.fields #[d,f,.none]}}:=G.kept (t':=s3.toks) λb J q=>aM _ q;obtain⟨T,id,hT,ht,hg⟩:=L pins { s3 with heap:=s3.heap.push { cls:=.type "slice",data:=.fields #[d,f,.none]}} σ H3 x v d f l u s3.heap.objs.size Q g r1 (iW ..) pl j p
 skip
 exact tail_any (ops:=[.ref s3.heap.objs.size,v]) ht hT hg<|by with_unfolding_all rfl
abbrev C3 (xs:List V)(lo hi:bo):List V:=(xs.drop<|HT.oO xs.length 0 lo).take<|HT.oO xs.length xs.length hi-HT.oO xs.length 0 lo
def yp(xs:List V)(lo hi:bo):(C3 xs lo hi).length<=xs.length:=by
 unfold C3;rw[cU,cE]
 lia
abbrev Xa (K:au):V->bo->bo->Hp->VK->Prop:=λx lo hi H Q=>∃a xs,x=.ref a/\pJ K H a xs /\
 ¬(HT.oO xs.length 0 lo=0/\HT.oO xs.length xs.length hi=xs.length)/\∀p,H p=none->Q (.ref p) (upd H p<|.tup<|C3 xs lo hi)
def Tz:UK X (Xa X.K):=by
 intro pins s σ H x v B C lo hi F Q I rx hs pl k h;obtain⟨a,xs,rfl,m,hw,q⟩:=h
 cases rx
 obtain⟨f,r,g,j⟩:=I.tuple m;have d:f.toArray.size=xs.length:=by rw[aY];exact r.length.symm
 refine⟨"tuple",_,cP.lookup,g.typeIs,?_⟩;refine HT.wJ g hs pl k (by rw[d];exact hw) ?_ (by rw[d];exact j);rw[d];refine⟨.ref s.heap.objs.size,_,I.laid (t':=s.toks) (o:=.tup<|C3 xs lo hi) (λb p q=>aM _ q) (aP _) ?_,rfl,q _<|I.hok.fresh<|aP _⟩;exact⟨cK (yp xs lo hi) j,_,(r.drop<|HT.oO xs.length 0 lo).take<|HT.oO xs.length xs.length hi-HT.oO xs.length 0 lo,oM.new _ _⟩
abbrev Vc (K:au):R2:=λx y H Q=>∃a b xs ys,x=.ref a/\y=.ref b/\pJ K H a xs/\pJ K H b ys/\xs≠[]/\xs.length+ys.length<=sizeLine /\
 (ys=[]->Q (.ref a) H)/\(ys≠[]->∀p,H p=none->Q (.ref p) (upd H p<|.tup<|xs++ys))
def Vals.Bx(r:Vals xs us):us=[] ↔ xs=[]:=by
 cases r with
 | nil=>simp
 | cons _ _=>simp
def O4:nZ X (binaryOp .Add) (Vc X.K):=by
 kt_k;obtain⟨a,b,xs,ys,rfl,rfl,B,g,m,f,k,j⟩:=h
 cases rx
 cases ry
 obtain⟨p,r1,p1,_⟩:=I.tuple B;obtain⟨d,r2,p2,_⟩:=I.tuple g;refine HT.PF p1 p2 (λz=>m<|r1.Bx.mp z) (λz=>⟨.ref a,H,I,rfl,k<|r2.Bx.mp z⟩) (λz=>?_) (by rw[<- r1.length,<- r2.length];exact f);refine⟨.ref s.heap.objs.size,_,I.laid (t':=s.toks) (o:=.tup<|xs++ys) (λb C q=>aM _ q) (aP _) ?_,rfl,j (λw=>z<|r2.Bx.mpr w) _<|I.hok.fresh<|aP _⟩;exact⟨by rw[aV];exact f,_,r1.append r2,oM.new _ _⟩
end
abbrev z9 (n:Nat)(i:Int):bt:=if 0<=i then(if i<n then some i.toNat else none)else if -(n:Int)<=i then some (i+n).toNat else none
abbrev qE {α:Type}(xs:List α)(i:Int):Option α:=(z9 xs.length i).bind λj=>xs[j]?
def G7{n:Nat}{i:Int}(h:z9 n i=some j):seqIndex? i n=some j/\j<n/\-(n:Int)<=i/\i<n:=by
 unfold z9 at h;by_cases h0:0<=i
 ·rw[aQ h0]at h;by_cases h1:i<n
  ·rw[aQ h1]at h;have e:i.toNat=j:=aU h;exact⟨by rw[seqIndex_of h0 h1,e],(),(),h1⟩
  ·rw[aO h1]at h;cases h
 ·rw[aO h0]at h;by_cases h1:-(n:Int)<=i
  ·rw[aQ h1]at h;have e:(i+n).toNat=j:=aU h;exact⟨by rw[seqIndex_neg () h1,e],(),h1,()⟩
  ·rw[aO h1]at h;cases h
def BX{α:Type}{xs:List α}{i:Int}{v:α}(h:qE xs i=some v):∃j,seqIndex? i xs.length=some j/\xs[j]?=some v/\j<xs.length/\-(xs.length:Int)<=i/\i<xs.length:=by
 unfold qE at h
 cases e:z9 xs.length i with
 | none=>rw[e]at h;cases h
 | some j=>
  rw[e]at h;obtain⟨h1,d,g,f⟩:=G7 e;exact⟨j,h1,h,d,g,f⟩
def Hl{α:Type}{xs:List α}{j:Nat}{v:α}(h:xs[j]?=some v):qE xs (j:Int)=some v:=by
 have d:j<xs.length:=(aZ.mp h).1;have e:z9 xs.length (j:Int)=some j:=by
  unfold z9;rw[aQ (),aQ ()];simp
 unfold qE;rw[e];exact h
def C2{α:Type}(xs:List α)(v:α):qE (xs++[v]) (-1)=some v:=by
 have d:(xs++[v]).length=xs.length+1:=by simp
 have e:z9 (xs++[v]).length (-1)=some xs.length:=by
  unfold z9;rw[d,aO ⋯,aQ ()];congr 1
  lia
 unfold qE;rw[e]
 skip
 simp
abbrev Gj (b:aE):Prop:=∀o i,subscripted b false o i=operate [o,i] (getItem o i)
abbrev VT (X:Cx)(r:R2):Prop:=
 ∀(f d:aE) (pins:bv) (s:aA) (σ:St) (H:Hp) (x y:V) (v u:aa) (Q:VK),Inv X pins σ H s->RelV x v->RelV y u->r x y H Q ->
  subscripted d false v u=operate [v,u] (getItem v u)->wpAny (model X.prog X.w) X.A (subscriptTail f d v u) (EP X pins σ Q) X.xe s
abbrev C8 (X:Cx)(id:String)(r:V->List V->Hp->VK->Prop):Prop:=
 ∀(pins:bv) (s:aA) (σ:St) (H:Hp) (x:V) (xs:List V) (v:aa) (us:be) (Q:VK),Inv X pins σ H s->RelV x v->Vals xs us->r x xs H Q ->
  wpAny (model X.prog X.w) X.A (call (.builtin id) (v::us)) (EP X pins σ Q) X.xe s
section
variable {X:Cx}{a b:aE}{ta tb:TE}{pos:Pos}
def Vd{r:R2}(j:VT X r)(J:PE X a ta)(hb:PE X b tb)(hs:Gj b):PE X (.Subscript a b pos) (Wz r ta tb):=by
 k_ne;exact Subscript_<|Rm J hb I h λv u s2 x y H2 d rx ry q=>j a b pins s2 σ H2 x y v u Q d rx ry q<|hs _ _
abbrev Yj (K:au):R2:=λx y H Q=>∃p xs i v,x=.ref p/\y=.int i/\nh K H p xs/\qE xs i=some v/\Q v H
abbrev Xg (K:au):R2:=λx y H Q=>∃p xs i v,x=.ref p/\y=.int i/\pJ K H p xs/\qE xs i=some v/\Q v H
abbrev X3:R2:=λx y H Q=>∃z i c,x=.str z/\y=.int i/\z.length<=sizeLine/\qE z.cps.toList i=some c/\Q (.str ⟨#[c]⟩) H
def Hf:VT X (Yj X.K):=by
 intro k f pins s σ H x y v u Q I rx ry h hs;obtain⟨p,xs,i,z,rfl,rfl,O,J,q⟩:=h
 cases rx
 obtain⟨t,rfl⟩:=ry;obtain⟨B,r,pl,T⟩:=I.list O;obtain⟨j,h1,G,P,L,N⟩:=BX J;obtain⟨w,C,m⟩:=r.get G;have F:=r.length;have hn:=xm;have d:EP X pins σ Q w s:=⟨z,H,I,m,q⟩;by_cases h0:0<=i
 ·have g:i.toNat=j:=by
   rw[seqIndex_of h0 N]at h1;exact aU h1
  exact item_listR pl.isList h0 () (by rw[g];simpa using C) d hs
 ·have g:(i+(B.toArray.size:Int)).toNat=j:=by
   rw[seqIndex_neg () L]at h1;rw[aY,<- F];exact aU h1
  exact subscriptTail_builtinR (x:=w) pl.isList.typeIs jc.lookup
   (wpAny_getItem_list_neg (Q:=λr s'=>r=w/\EP X pins σ Q r s') pl.isList () (by rw[aY]<;>lia) () (by rw[g];simpa using C) ⟨rfl,d⟩) hs
def TH:VT X (Xg X.K):=by
 intro f d pins s σ H x y v u Q I rx ry h hs;obtain⟨p,xs,i,z,rfl,rfl,J,F,q⟩:=h
 cases rx
 obtain⟨t,rfl⟩:=ry;obtain⟨G,r,pl,N⟩:=I.tuple J;obtain⟨j,h1,C,L,O,P⟩:=BX F;obtain⟨w,m,g⟩:=r.get C;have B:=r.length;have hn:=xm;have k:EP X pins σ Q w s:=⟨z,H,I,g,q⟩;exact subscriptTail_builtinR (x:=w) pl.typeIs slot_tuple_getitem.lookup
  (getItem_tuple (j:=j) (Q:=λr s'=>r=w/\EP X pins σ Q r s') pl () () (by rw[aY,<- B];exact h1) (by simpa using m) ⟨rfl,k⟩) hs
def Sd:VT X X3:=by
 intro f d pins s σ H x y v u Q I rx ry h hs;obtain⟨z,i,c,rfl,rfl,G,m,q⟩:=h;gn_on;obtain⟨C,rfl⟩:=ry;obtain⟨j,h1,k,F,p,B⟩:=BX m;have g:z.cps.toList.length=z.length:=by simp[Str.length]
 rw[g]at h1 p B;have hn:=xm;exact tail_any (gD s z t) slot_str_getitem.lookup (getItem_str (c:=c) (by
  have e1:decide (i < -(2 ^ 63:Int))=false:=aI ();have e2:decide (i>=2 ^ 63)=false:=aI ();rw[e1,e2,Bool.or_false]) (by rw[h1];simpa using k) ⟨.str ⟨#[c]⟩,H,I.tok _,⟨_,rfl⟩,q⟩) hs
def EJ(its:be)(n j:Nat)(u:aa):Obj.mapSeq (·.setIfInBounds j u) { cls:=.type "list",data:=.seq its.toArray n }={ cls:=.type "list",data:=.seq (its.set j u).toArray n }:=by
 simp[Obj.mapSeq]
def Inv.lst{H:Hp}{s:aA}{p:aj}{xs:List V}(I:Inv X pins σ H s)(h:H p=some (.lst xs)) :
  ∃(its:be) (n:Nat),Vals xs its/\s.heap.get? p=some { cls:=.type "list",data:=.seq its.toArray n }/\xs.length<=sizeLine:=by
 obtain⟨z,its,n,r,e⟩:=I.hok p _ h;exact⟨its,n,r,e,z⟩
def Inv.SA{H:Hp}{s:aA}{p:aj}{ys:List V}{its its':be}{n:Nat}{f:Obj->Obj}(I:Inv X pins σ H s)(h:H p=some (.lst xs))
  (j:s.heap.get? p=some { cls:=.type "list",data:=.seq its.toArray n }) (hf:f { cls:=.type "list",data:=.seq its.toArray n }={ cls:=.type "list",data:=.seq its'.toArray n' }) (r:Vals ys its') (hz:ys.length<=sizeLine) (t:Nat) :
  Inv X pins σ (upd H p<|.lst ys) { s with heap:=s.heap.update p f,toks:=t }:=by
 have e:(s.heap.update p f).get? p=some { cls:=.type "list",data:=.seq its'.toArray n' }:=by
  rw[bX f j<|by rw[hf]<;>rfl,hf]
 refine I.write (x:=p) (e:=p) (by rw[h];trivial) (.inl rfl) (λb u d q=>(cB _ _<|cL d).trans q) ⟨_,e⟩ ?_;exact⟨hz,its',n',r,e⟩
abbrev Vw:V->V->V->Hp->(Hp->Prop)->Prop:=λo i v H Q=>∃p xs k j,o=.ref p/\i=.int k/\H p=some (.lst xs)/\z9 xs.length k=some j/\Q (upd H p<|.lst<|xs.set j v)
def set_list:RZ X Vw:=by
 intro pins s σ H o i v P iv u Q I L K G h;obtain⟨p,xs,k,j,rfl,rfl,hp,J,q⟩:=h
 cases L
 obtain⟨t,rfl⟩:=K;obtain⟨d,n,r,g,N⟩:=I.lst hp;obtain⟨h1,O,B,F⟩:=G7 J;have f:=r.length;have hn:=xm;have C:Inv X pins σ (upd H p<|.lst<|xs.set j v) { s with heap:=s.heap.update p<|Obj.mapSeq (·.setIfInBounds j u)}:=
  I.SA hp g (EJ d n j u) (r.set G j) (by rw[fH];exact N) s.toks
 by_cases h0:0<=k
 ·have m:k.toNat=j:=by
   rw[seqIndex_of h0 F]at h1;exact aU h1
  exact PySem.W.ki_setAt g h0 () (by rw[aY,<- f];exact F)<|by rw[m];exact⟨_,C,q⟩
 ·have m:(k+(d.toArray.size:Int)).toNat=j:=by
   rw[seqIndex_neg () B]at h1;rw[aY,<- f];exact aU h1
  exact PySem.W.ki_setBack g () (by rw[aY,<- f];exact B) ()<|by rw[m];exact⟨_,C,q⟩
def Cf(lo hi:bo)(n:Nat):(sliceBounds lo hi none n).1=((HT.oO n 0 lo:Nat):Int)/\(sliceBounds lo hi none n).2.1=((HT.oO n n hi:Nat):Int)/\(sliceBounds lo hi none n).2.2=1:=by
 refine⟨?_,?_,rfl⟩
 ·cases lo with
  | none=>simp[sliceBounds,HT.oO]
  | some i=>
   dsimp[sliceBounds,HT.oO,getD_none,show(1:Int)>0 by decide,dB];by_cases h:i<0
   ·dsimp[h,dB]<;>lia
   ·dsimp[h,dS]<;>lia
 ·cases hi with
  | none=>simp[sliceBounds,HT.oO]
  | some i=>
   dsimp[sliceBounds,HT.oO,getD_none,show(1:Int)>0 by decide,dB];by_cases h:i<0
   ·dsimp[h,dB]<;>lia
   ·dsimp[h,dS]<;>lia
def Ae(its:be)(lo hi:bo):slicePick its.toArray lo hi none=((its.drop<|HT.oO its.length 0 lo).take<|HT.oO its.length its.length hi-HT.oO its.length 0 lo).toArray:=by
 obtain⟨h1,f,d⟩:=Cf lo hi its.toArray.size;unfold slicePick;rw[h1,f,d];dsimp[sliceRange_one,pick_run,aY]<;>rfl
abbrev YI (K:au):V->bo->bo->Hp->VK->Prop:=λx lo hi H Q=>∃a xs,x=.ref a/\nh K H a xs/\∀p,H p=none->Q (.ref p) (upd H p<|.lst<|C3 xs lo hi)
def Gi:UK X (YI X.K):=by
 intro pins s σ H x v B C lo hi F Q I rx hs pl g h;obtain⟨a,xs,rfl,j,q⟩:=h
 cases rx
 obtain⟨m,r,f,k⟩:=I.list j;have d:=r.length;refine⟨"list",_,jc.lookup,f.isList.typeIs,?_⟩;refine wpAny_getItem_list_slice f.isList hs pl g .none (by simp) ?_ (by rw[aY]<;>lia);rw[Ae,<- d];refine⟨.ref s.heap.objs.size,_,I.laid (t':=s.toks) (o:=.lst<|C3 xs lo hi) (λb p q=>aM _ q) (aP _) ?_,rfl,q _<|I.hok.fresh<|aP _⟩;exact⟨cK (yp xs lo hi) k,_,0,(r.drop<|HT.oO xs.length 0 lo).take<|HT.oO xs.length xs.length hi-HT.oO xs.length 0 lo,a_ _ rfl⟩
def sD:kE X (.type "list") (λxs H Q=>∃p ys,xs=[.ref p]/\(nh X.K H p ys\/pJ X.K H p ys)/\∀l,H l=none->Q (.ref l) (upd H l<|.lst ys)):=by
 fin2;obtain⟨p,ys,rfl,B,q⟩:=h;kln_w
 cases rx
 have m:∀(d:be),Vals ys d->ys.length<=sizeLine->∀(h':ak) (f:Nat),(∀b o',s.heap.get? b=some o'->h'.get? b=some o') ->
   h'.get? s.heap.objs.size=some { cls:=.type "list",dict:=none,data:=.seq d.toArray f,slots:=#[]}->EP X pins σ Q (.ref s.heap.objs.size) { s with heap:=h' }:=λd g k h' f kp e=>
  ⟨.ref s.heap.objs.size,_,I.laid (t':=s.toks) kp (aP _)<|show nB X.prog X.w _ h' _ (.lst ys)from⟨k,d,f,g,e⟩,rfl,q _<|I.hok.fresh<|aP _⟩
 rcases B with B|B
 ·obtain⟨d,g,pl,k⟩:=I.list B;have j:=g.length;obtain⟨o,C,hc,n,hd⟩:=pl.isList;exact call_list_seq p (.inl rfl) C hc hd (λh' f kp e=>m d g k h' f kp e) (by dsimp[aY]<;>lia)
 ·obtain⟨d,g,pl,k⟩:=I.tuple B;have j:=g.length;obtain⟨o,C,hc,n,hd⟩:=pl;exact call_list_seq p (.inr rfl) C hc hd (λh' f kp e=>m d g k h' f kp e)<|by dsimp[aY]<;>lia
def rR:kE X (.type "tuple") (λxs H Q=>∃p ys,xs=[.ref p]/\((nh X.K H p ys/\∀l,H l=none->Q (.ref l) (upd H l<|.tup ys))\/(pJ X.K H p ys/\Q (.ref p) H))):=by
 fin2;obtain⟨p,ys,rfl,h⟩:=h;kln_w
 cases rx
 rcases h with⟨g,q⟩|⟨g,q⟩
 ·obtain⟨d,f,pl,m⟩:=I.list g;have k:=f.length;refine call_tuple_list pl.isList (λh' kp=>?_) (by dsimp[aY]<;>lia);have j:Inv X pins σ H { s with heap:=h' }:=I.kept (t':=s.toks) kp;have B:Inv X pins σ (upd H h'.objs.size<|.tup ys) { s with heap:=h'.push { cls:=.type "tuple",data:=.seq d.toArray }}:=
   j.laid (t':=s.toks) (λb o e=>aM _ e) (aP _) (show nB X.prog X.w _ _ _ (.tup ys)from⟨m,d,f,oM.new _ _⟩)
  exact⟨.ref h'.objs.size,_,B,rfl,q _<|j.hok.fresh<|aP _⟩
 ·obtain⟨d,f,pl,m⟩:=I.tuple g;exact call_tuple_same pl ⟨.ref p,H,I,rfl,q⟩
abbrev WX (K:au)(T:String)(x:V)(H:Hp):Prop:=match x with
 | .str _=>T = "str"
 | .int _=>T = "int"
 | .ref p=>(T = "list" /\ ∃xs,nh K H p xs)\/(T = "tuple" /\ ∃o,K.lookup p=some o/\o.cls=.type "tuple" /\ o.dict=none) \/
   (T = "dict" /\ ((∃d,H p=some (.dK d))\/∃d,H p=some (.dT d)))\/(T = "set" /\ ∃S n,H p=some (.set S n))
 | _=>False
def Rh{H:Hp}{s:aA}{x:V}{v:aa}(I:Inv X pins σ H s)(r:RelV x v)(ty:WX X.K T x H) :
  s.TypeIs v T/\∀a,v=.ref a->∃ob,s.heap.get? a=some ob/\ob.dict=none:=by
 cases x with
 | str z=>
  obtain⟨t,rfl⟩:=r
  cases(show T = "str" from ty)
  exact⟨gD s z t,nofun⟩
 | int i=>
  obtain⟨t,rfl⟩:=r
  cases(show T = "int" from ty)
  exact⟨typeIs_int s i t,nofun⟩
 | ref p=>
  cases r
  rcases ty with⟨rfl,xs,j⟩|⟨rfl,o,d,hc,hd⟩|⟨rfl,d⟩|⟨rfl,S,n,d⟩
  ·obtain⟨g,_,pl,_⟩:=I.list j;refine⟨pl.isList.typeIs,λa e=>?_⟩
   cases e
   obtain⟨o,n,e,c,hd,_⟩:=pl;exact⟨o,e,hd⟩
  ·refine⟨⟨o,I.zu p o d,hc⟩,λa e=>?_⟩
   cases e
   exact⟨o,I.zu _ o d,hd⟩
  ·have z:∃o,s.heap.get? p=some o/\o.ExactDict:=by
    rcases d with⟨f,d⟩|⟨f,d⟩
    ·obtain⟨_,_,_,_,o,_,_,e,ex,_⟩:=I.hok p _ d;exact⟨o,e,ex⟩
    ·obtain⟨_,_,_,_,o,_,_,e,ex,_⟩:=I.hok p _ d;exact⟨o,e,ex⟩
   obtain⟨o,e,ex⟩:=z;refine⟨⟨o,e,ex.1⟩,λa e2=>?_⟩
   cases e2
   exact⟨o,e,ex.2.1⟩
  ·obtain⟨o,_,_,_,e,ex,_⟩:=I.hok p _ d;refine⟨⟨o,e,ex.1⟩,λa e2=>?_⟩
   cases e2
   exact⟨o,e,ex.2.1⟩
 | _=>exact False.elim ty
abbrev Zq (K:au)(T:String)(r:V->List V->Hp->VK->Prop)(to:TE)(t:TA):TE:=λσ H Q=>to σ H λx H1=>WX K T x H1/\t σ H1 λxs H2=>r x xs H2 Q
variable {o e:aE}{es:List aE}{to:TE}{t:TA}{name:Str}{apos cpos:Pos}{T id:String}{r:V->List V->Hp->VK->Prop}
def QX(pa:PlainAttrs T)(slot:Slot T name id)(hty:typeOf (.builtin id)=pure (.type "method_descriptor"))(hm:C8 X id r)(ho:PE X o to)(ha:PA X (e::es) t)
  (L:attributeBase o name X.env (eval o X.env)=eval o X.env<|>ε)
  (Z:(((backTo cpos<|starEach (e::es) X.env).all (λx=>!x.1) && (backToKw cpos<|keywordEach [] X.env).all (λx=>x.1.isSome)
   && decide ((e::es).length+([]:List Keyword).length+(if ([]:List Keyword).isEmpty then 0 else 1)<30))=true)<|>ε)
  (U:(apos.endLine == cpos.line)=true<|>ε) (hs:starEach (e::es) X.env=(false,eval e X.env)::starEach es X.env<|>ε) (J:((backTo cpos<|starEach es X.env).any (·.1)=false)<|>ε) :
  PE X (.Call (.Attribute o name apos) (e::es) [] cpos) (Zq X.K T r to t):=by
 k_ne;refine wpAny_Call_method_late L Z U rfl<|l_ (ho pins s σ H _ I h) λv j ⟨x,H1,f,r1,ty,p⟩=>?_;obtain⟨h1,g⟩:=Rh f r1 ty;refine⟨T,id,pa,slot,hty,h1,g,?_⟩;have d:=ha cpos pins j σ H1 _ f p;rw[hs]at d ⊢;refine Calls.callWith_builtin (by show(false || (backTo cpos<|starEach es X.env).any (·.1))=false;rw[J]<;>rfl)<|Calls.evalArgs_plain ?_;exact l_ d λus s2 ⟨vs,H2,m,r2,k⟩=>hm pins s2 σ H2 x vs v us Q m r1 r2 k
end
abbrev Zi (X:Cx)(id:String)(r:V->List V->Hp->VK->Prop):Prop:=
 ∀(pins:bv) (s:aA) (σ:St) (H:Hp) (x:V) (xs:List V) (v:aa) (us:be) (Q:VK),Inv X pins σ H s->RelV x v->Vals xs us->r x xs H Q ->
  wpAny (model X.prog X.w) X.A (call (.builtin id) (v::us)) (EP X pins σ Q) X.xe s
def Vals.one:∀{x:V}{us:be},Vals [x] us->∃u,us=[u]/\RelV x u
 | _,_,.cons r .nil=>⟨_,rfl,r⟩
def Vals.reverse{xs:List V}{us:be}(h:Vals xs us):Vals xs.reverse us.reverse:=by
 induction h with
 | nil=>exact .nil
 | cons r t d=>rw[gP,gP];exact Vals.append d<|.cons r .nil
theorem Vals.rep(h:Vals xs us):∀k:Nat,Vals (List.replicate k xs).flatten (List.replicate k us).flatten
 | 0=>.nil
 | k+1=>by
  rw[dJ,dJ,fJ,fJ];exact Vals.append h<|Vals.rep h k
theorem foldl_rep(its:be):∀(k:Nat) (acc:be),
  List.foldl (λx1 x2=>x1++x2) acc.toArray (List.replicate k its.toArray)=(acc++(List.replicate k its).flatten).toArray
 | 0,acc=>by simp
 | k+1,acc=>by
  have e:acc.toArray++its.toArray=(acc++its).toArray:=by simp
  have e2:(acc++its)++(List.replicate k its).flatten=acc++(List.replicate (k+1) its).flatten:=by
   rw[dJ,fJ,bI]
  rw[<- e2,<- foldl_rep its k (acc++its),<- e,dJ,iK]
section
variable {X:Cx}{pins:bv}{σ:St}{H:Hp}{s:aA}{l:aj}{xs ys:List V}
def Inv.Yk{its its':be}{n:Nat}{f:Array aa->Array aa}{t':Nat}(I:Inv X pins σ H s)(J:H l=some (.lst xs))
  (e:s.heap.get? l=some { cls:=.type "list",data:=.seq its.toArray n }) (hf:f its.toArray=its'.toArray) (hv:Vals ys its') (hz:ys.length<=sizeLine) :
  Inv X pins σ (upd H l<|.lst ys) { s with heap:=s.heap.update l<|Obj.mapSeq f,toks:=t' }:=by
 have q:=PySem.IsL.update e f;rw[hf]at q;refine I.write (x:=l) (e:=l) (by rw[J];exact trivial) (.inl rfl) (λj u d g=>(cB s.heap (Obj.mapSeq f)<|cL d).trans g) ⟨_,q⟩ ?_;exact⟨hz,its',_,hv,q⟩
def Inv.KZ{its:be}{t':Nat}(I:Inv X pins σ H s)(hv:Vals ys its)(hz:ys.length<=sizeLine) :
  Inv X pins σ (upd H s.heap.objs.size<|.lst ys) { s with heap:=s.heap.push { cls:=.type "list",data:=.seq its.toArray },toks:=t' }:=
 I.laid (λ_ _ q=>aM _ q) (aP _) ⟨hz,its,0,hv,a_ _ rfl⟩
def Inv.fresh(I:Inv X pins σ H s):H s.heap.objs.size=none:=I.hok.fresh<|aP _
def Inv.PC(I:Inv X pins σ H s)(j:H l=some (.lst xs)):xs.length<=sizeLine/\∃(its:be) (n:Nat),Vals xs its/\xs.length=its.length/\s.heap.get? l=some { cls:=.type "list",data:=.seq its.toArray n }:=by
 obtain⟨z,its,n,r,e⟩:=I.hok l _ j;exact⟨z,its,n,r,r.length,e⟩
def Nn{n:Nat}(h:n<=sizeLine):Builtin.List.listTooLong n=false:=by
 unfold Builtin.List.listTooLong;exact aI ()
end
section
variable {X:Cx}
abbrev Pk:V->List V->Hp->VK->Prop:=λx vs H Q=>∃l xs y,x=.ref l/\vs=[y]/\H l=some (.lst xs)/\xs.length<sizeLine/\Q .non (upd H l<|.lst<|xs++[y])
def xN:Zi X "list.append" Pk:=by
 intro pins s σ H x vs v us Q I rx j h;obtain⟨l,xs,y,rfl,rfl,f,m,q⟩:=h
 cases rx
 obtain⟨u,rfl,g⟩:=j.one;obtain⟨z,d,n,r,k,e⟩:=I.PC f;refine gE F.slot_list_append ⟨_,e,rfl⟩ F.entry_list_append (F.args_list_append_2 _ _) (PySem.list_append l d.toArray n u<|by rw[aY];lia) ⟨e,?_⟩;refine⟨.non,_,I.Yk (its':=d++[u]) f e (by simp) (r.append<|.cons g .nil) ?_,rfl,q⟩;rw[aV,fB]
 lia
abbrev Yd:R2:=λx y H Q=>∃l b xs zs,x=.ref l/\y=.ref b/\H l=some (.lst xs)/\H b=some (.lst zs)/\xs.length+zs.length<=sizeLine/\∀p,H p=none->Q (.ref p) (upd H p<|.lst<|xs++zs)
def Sk:nZ X (binaryOp .Add) Yd:=by
 kt_k;obtain⟨l,b,xs,zs,rfl,rfl,j,m,C,q⟩:=h
 cases rx
 cases ry
 obtain⟨z,f,n,r,B,e⟩:=I.PC j;obtain⟨p,d,F,r2,k,e2⟩:=I.PC m;refine PySem.P.add_list e e2 ?_ (by rw[aY,aY];lia);have g:f.toArray++d.toArray=(f++d).toArray:=by simp
 rw[g];exact⟨.ref _,_,I.KZ (t':=s.toks) (r.append r2)<|by rw[aV];lia,rfl,q _ I.fresh⟩
abbrev YA:R2:=λx y H Q=>∃l k xs,x=.ref l/\y=.int k/\H l=some (.lst xs)/\-(2 ^ 63)<=k/\k<2 ^ 63/\xs.length * k.toNat<=sizeLine /\
 ∀p,H p=none->Q (.ref p) (upd H p<|.lst (List.replicate k.toNat xs).flatten)
def len_rep{α:Type}(xs:List α)(k:Nat):(List.replicate k xs).flatten.length=k * xs.length:=by
 induction k with
 | zero=>simp
 | succ k d=>rw[dJ,fJ,aV,d,iT,Nat.add_comm]
def RL:nZ X (binaryOp .Mult) YA:=by
 kt_k;obtain⟨l,k,xs,rfl,rfl,N,h1,L,J,q⟩:=h
 cases rx
 obtain⟨t,rfl⟩:=ry;obtain⟨z,d,n,r,K,e⟩:=I.PC N;have j:d.toArray.size * k.toNat<=sizeLine:=by rw[aY,<- K];exact J
 have p:¬d.toArray.size * k.toNat>(2 ^ 63-1) / 8:=by
  have:(sizeLine:Nat)<=(2 ^ 63-1) / 8:=by decide
  omega
 have B:¬(!Builtin.List.listFitsIndex k)=true:=by
  rw[fitsIndex_both h1 L];exact bh
 have f:¬Builtin.List.listTooLong (d.toArray.size * k.toNat)=true:=by
  rw[Nn j];exact bh
 have g:List.foldl (λG C=>G++C) #[] (List.replicate (if d.toArray.isEmpty=true then 0 else k.toNat) d.toArray)=(List.replicate k.toNat d).flatten.toArray:=by
  have f0:∀m:Nat,List.foldl (λG C=>G++C) #[] (List.replicate m d.toArray)=(List.replicate m d).flatten.toArray:=λm=>by
   have:=foldl_rep d m [];rw[cF]at this;exact this
  rw[f0]
  cases d with
  | nil=>simp
  | cons a O=>rw[aO<|by simp]
 refine wpAny_binaryOp_repeat_ref (T := "list") (U := "int") ⋯ ⟨_,e,rfl⟩ (λs'=>typeIs_int s' k t) noFill_list_mul F.fills_int_mul F.slot_int_rmul repeat_list F.slot_int_index.lookup
  (gE F.slot_int_rmul (typeIs_int s k t) F.entry_int_rmul (F.args_int_rmul_2 _ _) (int___rmul___int_list k t l d.toArray n)
   ⟨e,rfl,⟨_,e,rfl⟩,gE F.slot_list_mul ⟨_,e,rfl⟩ F.entry_list_mul (F.args_list_mul_2 _ _) (AutoListH.list___mul___list_int_3 l d.toArray n k t B p f) ⟨e,?_⟩⟩)
 rw[g];exact⟨.ref _,_,I.KZ (t':=s.toks) (r.rep k.toNat)<|by rw[len_rep,Nat.mul_comm];exact J,rfl,q _ I.fresh⟩
end
end L2
namespace Att
open PySem PySem.W PySem.Calls PyProof.Rows
def yw{P:Params}:∀(ns:ag) (vs:be),WellAll P h vs (ns.map WData.int)->IntsAre vs ns:=by
 intro ns
 induction ns with
 | nil=>
  intro vs w;rw[map_nil]at w
  cases w
  exact .nil
 | cons n ns d=>
  intro vs w;rw[bP]at w
  cases w with
  | cons a b=>
   cases a
   exact .cons _ _<|d _ b
def IQ{l:OpenLaw}{n:Nat}(hn:l.most=some n){P:Params}{h:ak}{vals:be}
  (J:l.row.toRowW.claim.pre args=true) (L:WellAll P h vals args) :
  ∃a vs ns,vals=[Value.ref a]/\args=[WData.list<|ns.map WData.int]/\h.get? a=some { cls:=.type "list",data:=.seq vs.toArray }/\IntsAre vs ns/\ns.length<=n:=by
 have m:WShape.hasAll [] args [.list .int]=true:=(pre_splitW J).1;have hc:l.pre.holds [] { args:=args }=true:=(pre_splitW J).2;obtain⟨d,r,rfl,h1,G⟩:=hasAllW_cons m;obtain rfl:=hasAllW_nil G;obtain⟨xs,rfl,B⟩:=hasW_list h1;obtain⟨ns,rfl⟩:=items_int B;have g:ns.length<=n:=by
  unfold OpenLaw.pre at hc;have j:(WTm.not<|.lt (.lit<|.int (n:Int))<|.len<|.arg 0).holds [] { args:=[.list<|ns.map .int]}=true:=by
   have j:=(holds_andW hc).1;rw[hn]at j;exact j
  have k:=condW_of j<|w_not<|w_lt w_lit<|w_len_list<|w_arg rfl;rw[aK]at k;refine iu λq=>?_;have q':(n:Int)<((ns.length:Nat):Int):=by omega
  first
   | (rw[aJ q']at k;exact absurd k ⋯)
   | (simp at k;omega)
 cases L with
 | cons C F=>
  cases F
  cases C with
  | list p f=>exact⟨_,_,ns,rfl,rfl,p,yw ns _ f,g⟩
def I_(l:OpenLaw)(args:List WData):l.row.toRowW.claim.post args (.bool true) args=true:=
 postW_of (r:=l.row.toRowW) (X:=(true == true))
  (show WShape.has [] (.bool true) .bool=true by first|rfl|decide|simp[WShape.has,WShape.arms,WShape.armsAll])
  (show(WTm.eq .res<|.lit<|.bool true).value [] { args:=args,res:=some<|.bool true,after:=args }=some (.bool<|true == true)from w_eq_bool (w_res rfl) w_lit) rfl
def DB{l:OpenLaw}{n:Nat}{q:ah}{XP:(Str->bj)->ak->Prop}{YP:af->ak->Prop}{d:DefRec}
  (hn:l.most=some n) (hdf:d.params.defaults=[])
  (call:∀(w:af) (s₀ s₁:aA) (mg mb:Str->bj) (fa:aj) (o:Obj) (pm cd doc:aa) (a:aj) (vs:be) (ns:ag),
   Ground q loose [] XP w s₀ mg mb s₁.heap->YP w s₁.heap ->
   s₁.heap.get? fa=some o->o.data=.func (docDef d.name d.params d.body d.scope pm cd doc)->s₁.heap.CodeRec cd d.name->mg d.name=some (.ref fa) ->
   s₁.heap.get? a=some { cls:=.type "list",data:=.seq vs.toArray }->IntsAre vs ns->ns.length<=n->s₁.gens=#[] ->
   codeAny (model l.prog w) callerA (.call (.ref fa) ⟨[.ref a],[]⟩) (λr s'=>r=.ok (.ret<|.bool true)/\OldK s₁.heap s'.heap/\s'.os=s₁.os/\AllBare s'.gens) s₁) :
  WalkO q loose XP YP l.row.toRowW d [] (λf vs=>PySem.call f vs):=by
 intro w s₀ s₁ mg mb G Y fa o pm cd doc dV kV P hd p J C hg F vals as k K N B T;obtain rfl:dV=.none:=Dflts.none J hdf;obtain rfl:kV=.none:=Dflts.noKw J;obtain⟨a,vs,ns,rfl,rfl,m,g,j⟩:=IQ hn k B;refine enter_call<|eW (call w s₀ s₁ mg mb fa o pm cd doc a vs ns G Y P (fd_plain hd) p C m g j hg) λr s' Z=>?_;obtain⟨rfl,O,U,V⟩:=Z;exact⟨.inl ⟨.bool true,.bool true,[],rfl,λ_=>rfl,.bool true,I_ l _,λ_=>⟨List.Pairwise.nil,λ_ L=>(nomatch L)⟩⟩,O,U,V⟩
end Att
namespace L2
open PySem PySem.Spec PyProof.Rows
theorem x_:∀{vs:be}{ns:ag},IntsAre vs ns->Vals (ns.map V.int) vs
 | _,_,.nil=>.nil
 | _,_,.cons n t h=>.cons ⟨t,rfl⟩<|x_ h
abbrev NP (H:Hp):Prop:=∀b,H b=none\/∃o xs,H b=some (.frz o<|.lst xs)
def KG{P:ah}{w:af}{K:au}{mg mb:Str->bj}{CX:JF}{k:Nat}{fa a:aj}{x:Str}{sp:Sp}{s₁:aA}{vs:be}{ns:ag}
  (KX:K.In s₁.heap) (hns:s₁.heap.Ns mainGlobals mg) (hb:s₁.heap.Ns builtinsNs mb) (hbb:∀x:Str,x ≠ "__name__" -> mb x=bootBuiltins x) (hlim:s₁.heap.NoLimit) (hg:s₁.gens=#[])
  (ha:s₁.heap.get? a=some { cls:=.type "list",data:=.seq vs.toArray }) (hi:IntsAre vs ns) (hl:ns.length<=sizeLine) (hr:Room k callerA)
  (F:∀base:ak,K.In base->base.Ns mainGlobals mg->FnOk P w K mg base CX k fa fd [x] sp) (hbind:∀(s:aA) (u:aa),BindsTo s fd ⟨[u],[]⟩ [(x,u)])
  (hsp:∀H:Hp,NP H->nh K H a (ns.map V.int)->sp [.ref a] H (λv _=>v=.bl true) λ_ _ _=>False)
  (hCX:∀H e s',CX [] H s₁ (λ_ _ _=>False) e s'->False) :
  codeAny (model P w) callerA (.call (.ref fa) ⟨[.ref a],[]⟩) (λr s'=>r=.ok (.ret<|.bool true)/\OldK s₁.heap s'.heap/\s'.os=s₁.os/\AllBare s'.gens) s₁:=by
 have Y:=x_ hi;have B:=hi.length;have j:∀H:Hp,NP H->nh K H a (ns.map V.int)->w9 P w H s₁.heap->(∀b,H b≠none->b=a)->(H a≠none->K.lookup a=none) ->
   codeAny (model P w) callerA (.call (.ref fa) ⟨[.ref a],[]⟩) (λr s'=>r=.ok (.ret<|.bool true)/\OldK s₁.heap s'.heap/\s'.os=s₁.os/\AllBare s'.gens) s₁:=by
  intro H Z hS C U hK;have f:∀{b:aj} {o:Obj},s₁.heap.get? b=some o->H b=none->(B7 s₁.heap H).get? b=some o:=λe n=>J5 e n;have O:∀{b:aj} {o:Obj} {es:Array DictEntry} {ep:Nat},s₁.heap.get? b=some o->o.data=.dict es ep->H b=none:=λ{b o es ep} e d=>by
   cases q:H b with
   | none=>rfl
   | some u=>
    have N:b=a:=U b (by rw[q];simp);subst N;rw[ha]at e;cases e;have d':Data.seq vs.toArray _=Data.dict es ep:=d
    cases d'
  have g:∀{b:aj} {m:Str->bj},s₁.heap.Ns b m->(B7 s₁.heap H).Ns b m:=λ{b m} ⟨o,es,ep,e,d,r⟩=>⟨o,es,ep,f e<|O e d,d,r⟩;have J:K.In (B7 s₁.heap H):=λb o e=>f (KX b o e) (by
   cases q:H b with
   | none=>rfl
   | some u=>
    have N:b=a:=U b (by rw[q];simp);subst N;rw[hK<|by rw[q];simp]at e;cases e)
  have hM:Mod K mg (B7 s₁.heap H):=⟨J,g hns,⟨mb,g hb,hbb⟩,let⟨mc,h1,h2⟩:=hlim;⟨mc,g h1,h2⟩⟩;have e0:Env0 P w K mg (B7 s₁.heap H) callerA [] s₁ H:=⟨rfl,hM,λb o e=>NQ e,Nat.le_of_eq<|ID _ _,trivial,λb hb=>absurd (show b∈([]:bi)from hb)<|by simp,C,.of_eq hg⟩;refine eW ((F _ J<|g hns).run callerA [] s₁ H ⟨[.ref a],[]⟩ [.ref a] [.ref a] _ _ hr e0 (hbind s₁<|.ref a) (.cons rfl .nil)<|hsp H Z hS) λr s' h=>?_
  cases r with
  | error e=>exact(hCX H e s' h).elim
  | ok fl=>
   cases fl with
   | next=>exact False.elim h
   | brk=>exact False.elim h
   | cont=>exact False.elim h
   | ret u=>
    obtain⟨v,H',os,p,un,L,r',q⟩:=h;have q':v=.bl true:=q;subst q';obtain rfl:u=Value.bool true:=r';refine⟨rfl,OldK.of_keep λb o e=>?_,os,p⟩
    cases q:H b with
    | none=>exact un.keep b o e q (by intro z;exact absurd (show b∈([]:bi)from z)<|by simp) (by simp)
    | some u=>
     rcases Z b with z|⟨ob,xs,z⟩
     ·rw[q]at z;cases z
     ·have z2:=un.frzs b ob _ z;obtain⟨e1,_⟩:=C b _ z;obtain⟨e2,_⟩:=L b _ z2;rw[e]at e1;cases e1;exact e2
 cases T:K.lookup a with
 | some o=>
  have e:=KX a o T;rw[ha]at e
  cases e
  refine j (λ_=>none) (λ_=>.inl rfl) (.inr ⟨_,vs.toArray,_,T,rfl,rfl,rfl,by rw[aY,B];exact hl,by simpa using Y⟩) (λb u z=>by have G:(none:Option HO)=some u:=z;cases G) (λb z=>absurd rfl z) λz=>absurd rfl z
 | none=>
  refine j (λb=>if b=a then some (.frz { cls:=.type "list",data:=.seq vs.toArray } (.lst<|ns.map V.int))else none) (λb=>?_) (.inl<|.inr ⟨{ cls:=.type "list",data:=.seq vs.toArray },aQ rfl⟩) (λb u z=>?_) (λb z=>?_) λ_=>T
  ·by_cases hb:b=a
   ·exact .inr ⟨_,_,aQ hb⟩
   ·exact .inl<|aO hb
  ·by_cases hb:b=a
   ·have G:=(aQ hb).symm.trans z
    cases G
    subst hb;exact⟨ha,by rw[aK];exact hl,vs,_,Y,ha⟩
   ·have G:=(aO hb).symm.trans z
    cases G
  ·by_cases hb:b=a
   ·exact hb
   ·exact absurd (aO hb) z
theorem Pr{l:PySem.W.OpenLaw}{n k:Nat}{q:ah}{XP:(Str->bj)->ak->Prop}{YP:af->ak->Prop}{d:DefRec}{K:Params->au}{CX:af->JF}{sp:af->Sp}{x:Str}
  (hn:l.most=some n) (hn2:n<=sizeLine) (hdf:d.params.defaults=[]) (hr:Room k callerA)
  (hY:∀(w:af) (h:ak),YP w h->(K w.params).In h)
  (F:∀(w:af) (mg:Str->bj) (fa:aj) (h:ak),(K w.params).In h->h.Ns mainGlobals mg->mg d.name=some (.ref fa) ->
   ∃fd:FuncData,(∀(s:aA) (u:aa),BindsTo s fd ⟨[u],[]⟩ [(x,u)]) /\
    ∀base:ak,(K w.params).In base->base.Ns mainGlobals mg->FnOk l.prog w (K w.params) mg base (CX w) k fa fd [x] (sp w))
  (hsp:∀(w:af) (H:Hp) (a:aj) (ns:ag),ns.length<=n->NP H->nh (K w.params) H a (ns.map V.int)->sp w [.ref a] H (λv _=>v=.bl true) λ_ _ _=>False)
  (hCX:∀(w:af) (H:Hp) (s:aA) (e:aa) (s':aA),CX w [] H s (λ_ _ _=>False) e s'->False) :
  PySem.W.WalkO q loose XP YP l.row.toRowW d [] (λf vs=>PySem.call f vs):=by
 refine Att.DB hn hdf λw J p mg mb fa o pm cd O a vs ns G Y ho hd P C B m j hg=>?_;have L:=hY w _ Y;obtain⟨fd,N,Z⟩:=F w mg fa _ L G.T.g C;exact KG L G.T.g G.T.b G.T.builtins G.T.nolimit hg B m (cK j hn2) hr Z N (λH hO U=>hsp w H a ns j hO U) λH e s'=>hCX w H p e s'
abbrev uZ (s:aF):Arguments:=match s with
 | .FunctionDef _ a _ _ _ _ _ _ _ _=>a
 | _=>{ posonlyargs:=[],args:=[],vararg:=none,kwonlyargs:=[],kw_defaults:=[],kwarg:=none,defaults:=[]}
abbrev o8 (s:aF):List aF:=match s with
 | .FunctionDef _ _ b _ _ _ _ _ _ _=>b
 | _=>[]
abbrev jU (s:aF):Scope:=match s with
 | .FunctionDef _ _ _ _ _ _ sc _ _ _=>sc
 | _=>{ kind:=.function,names:=[],isGenerator:=false,isCoroutine:=false }
meta abbrev uY:JF:=λ_ _ _ _ _ _=>False
meta abbrev E0:XK:=λ_ _ _=>False
def We:Passes uY X E0:=λ_ _ _ _ _ _ _ h=>h.elim
structure Fun (K:au)(x qual:Str)(st:aF)(f:aj)(fd:FuncData):Prop where
 ex:∃(oc:aa) (od:Option aj) (kV doc pm:aa) (an:Option aj) (cdv ct:aa) (osl:Array<|bj),
  fd=PySem.W.fnOf x qual (uZ st) (o8 st) (jU st) .none kV doc pm an cdv ct/\K.lookup f=some ⟨oc,od,.func fd,osl⟩/\PySem.W.codeIn K cdv qual=true
 kp:PySem.W.keepIn K (.ref f)=true
section
variable {P:ah}{w:af}{K:au}{mg:Str->bj}{base:ak}
def Fun.ok{x:Str}{st:aF}{f:aj}{N ps:ba}{k:Nat}{sp:Sp}(F:Fun K x qual st f fd)(S:FnScope N ps<|jU st)(len:∀vs H Q E,sp vs H Q E->vs.length=ps.length)
  (U:∀(cdv:aa) (A:az) (outer:List Env) (s:aA) (H:Hp) (vs:List V) (Q:VK) (E:XK),Room k (A.deeper<|envOfC qual (jU st) s.heap.objs.size f cdv)->sp vs H Q E ->
   ∃t,AH (yC uY P w K mg base N qual (jU st) f cdv A outer s H E).Wa (o8 st) t/\t { nx:=λ_ H'=>Q .non H',rt:=Q } (start N vs) H):FnOk P w K mg base uY (k+1) f fd ps sp:=by
 obtain⟨C,L,kV,j,G,J,cdv,ct,B,rfl,m,d⟩:=F.ex;refine PX m d S len λA outer s H vs Q E p g=>?_;obtain⟨t,h,q⟩:=U cdv A outer s H vs Q E p g;exact⟨t,h.Wa,q⟩
def Fun.binds{x:Str}{st:aF}{f:aj}{ps:ba}(F:Fun K x qual st f fd)
  (h:∀(kV doc pm:aa) (an:Option aj) (cdv ct:aa) (us:be),us.length=ps.length->bindArgs (PySem.W.fnOf x qual (uZ st) (o8 st) (jU st) .none kV doc pm an cdv ct) ⟨us,[]⟩=pure (ps.zip us)):Binds K fd ps []:=by
 obtain⟨k,m,kV,doc,pm,an,cdv,ct,g,rfl,j,d⟩:=F.ex;exact .all<|h kV doc pm an cdv ct
def SV{x:Str}{st:aF}{f:aj}{kV ct:aa}(l:K.lookup f=some ⟨oc,od,.func<|PySem.W.fnOf x qual (uZ st) (o8 st) (jU st) .none kV doc pm an cdv ct,osl⟩)
  (c:PySem.W.codeIn K cdv qual=true) (k:PySem.W.keepIn K (.ref f)=true):Fun K x qual st f (PySem.W.fnOf x qual (uZ st) (o8 st) (jU st) .none kV doc pm an cdv ct):=⟨⟨oc,od,kV,doc,pm,an,cdv,ct,osl,rfl,l,c⟩,k⟩
end
set_option maxHeartbeats 4000000
abbrev Sz (σ:St):bt->Option V
 | some j=>(σ[j]?).getD none
 | none=>none
abbrev r8 (env:Env):List (Str×NameKind)->List (Str×aj)->List (Str×aj)
 | [],cs=>cs
 | (n,k)::r,cs=>r8 env r (if k == .free then(n,(env.cells.lookup n).getD 0)::cs else cs)
def zl{scope:Scope}{env:Env}(h:∀y∈scope.names,y.2=.free->∃c,env.cells.lookup y.1=some c):closureFor scope env=pure (r8 env scope.names []):=by
 have d:∀(l:List<|Str×NameKind) (cs:List<|Str×aj),(∀y∈l,y.2=.free->∃c,env.cells.lookup y.1=some c) ->
   (forIn l cs (λ(x:Str×NameKind) (r:List<|Str×aj)=>(match x with
    | (name,kind)=>if (kind == NameKind.free)=true then(do let c <- cellOf env name;pure (ForInStep.yield ((name,c)::r)))else pure (ForInStep.yield r):Sem<|ForInStep<|List<|Str×aj)))=(pure (r8 env l cs):Sem<|List<|Str×aj):=by
  intro l
  induction l with
  | nil=>intro cs _;rfl
  | cons y r m=>
   intro cs f;obtain⟨n,k⟩:=y;rw[List.forIn_cons];by_cases p:k=.free
   ·subst p;obtain⟨c,hc⟩:=f (n,.free) aT rfl;have e1:cellOf env n=pure c:=by
     unfold cellOf;rw[hc]
    dsimp[bx,dB,e1,pure_bind];rw[m _ λz g=>f z<|aS _ g];dsimp[r8,bx,dB,hc,fh]
   ·have j:(k == NameKind.free)=false:=by simpa using p
    dsimp[j,bZ,dS,pure_bind];rw[m _ λz g=>f z<|aS _ g];dsimp[r8,j,bZ,dS]
 have:=d scope.names [] h;exact(cg (λz=>z >>= λcs=>(pure cs:Sem<|List<|Str×aj)) this).trans (pure_bind _ _)
theorem zx:∀{l:List<|Str×NameKind}{x:Str}{k:NameKind},l.lookup x=some k->(x,k)∈l
 | [],_,_,h=>nomatch h
 | (n,k')::r,x,k,h=>by
  rw[fj]at h
  cases d:x == n with
  | true=>
   rw[d]at h;have e:x=n:=by simpa using d
   subst e
   cases h
   exact aT
  | false=>rw[d]at h;exact aS _<|zx h
theorem Bh{env:Env}{x:Str}:∀{l:List<|Str×NameKind}{cs:List<|Str×aj},(∀y∈l,y.2=.free->∃c,env.cells.lookup y.1=some c)->(r8 env l cs).lookup x=some c->env.cells.lookup x=some c\/cs.lookup x=some c
 | [],cs,_,h=>.inr h
 | (n,k)::r,cs,hl,h=>by
  have h':=Bh (l:=r) (λz g=>hl z<|aS _ g) h
  rcases h' with h'|h'
  ·exact .inl h'
  ·by_cases f:k=.free
   ·subst f;dsimp[bx,dB]at h';obtain⟨m,hc⟩:=hl (n,.free) aT rfl;rw[hc,fh,fj]at h'
    cases d:x == n with
    | true=>
     rw[d]at h';have e:x=n:=by simpa using d
     subst e;left;rw[hc];exact h'
    | false=>rw[d]at h';exact .inr h'
   ·have j:(k == NameKind.free)=false:=by simpa using f
    dsimp[j,bZ,dS]at h';exact .inr h'
theorem Ax{env:Env}{x:Str}:∀{l:List<|Str×NameKind}{cs:List<|Str×aj},(cs.lookup x).isSome=true->((r8 env l cs).lookup x).isSome=true
 | [],cs,h=>h
 | (n,k)::r,cs,h=>by
  skip
  refine Ax (l:=r) ?_;by_cases d:(k == NameKind.free)=true
  ·rw[aQ d,fj]
   cases f:x == n with
   | true=>rfl
   | false=>exact h
  ·rw[aO d];exact h
theorem zT{env:Env}{x:Str}:∀{l:List<|Str×NameKind}{cs:List<|Str×aj},(x,NameKind.free)∈l->((r8 env l cs).lookup x).isSome=true
 | [],_,h=>nomatch h
 | (n,k)::r,cs,h=>by
  rcases bf.mp h with e|h
  ·cases e
   skip
   refine Ax (l:=r) ?_;rw[aQ<|by rfl,fj];simp
  ·exact zT (l:=r) h
theorem vL:∀(names:List<|Str×NameKind) (n:Nat) (acc:List<|Str×aj),cellsFrom n names acc=cellsFrom n names []++acc
 | [],_,_=>rfl
 | (x,k)::r,n,acc=>by
  unfold cellsFrom;split
  ·rw[vL r (n+1) ((x,n)::acc),vL r (n+1) [(x,n)],bI];rfl
  ·exact vL r n acc
theorem E1:∀(names:List<|Str×NameKind) (n:Nat) {x:Str}{c:aj},(x,c)∈cellsFrom n names []->(x,NameKind.cell)∈names
 | [],_,_,_,h=>nomatch h
 | (y,k)::r,n,x,c,h=>by
  unfold cellsFrom at h;split at h
  ·rename_i d;rw[vL]at h
   rcases bF.mp h with z|z
   ·exact aS _ (E1 r _ z)
   ·rw[aX]at z
    cases z
    have:k=.cell:=by simpa using d
    rw[this];exact aT
  ·exact aS _<|E1 r _ h
theorem wQ{α:Type}{x:Str}:∀{l m:List<|Str×α},(l++m).lookup x=match l.lookup x with|some c=>some c|none=>m.lookup x
 | [],_=>rfl
 | (y,c)::l,m=>by
  rw[List.cons_append,fj,fj]
  cases x == y with
  | true=>rfl
  | false=>exact wQ
def Ot{n:Nat}{acc:List<|Str×aj}{x:Str}(h:(cellsFrom n names acc).lookup x=some c):(cellsFrom n names []).lookup x=some c\/((cellsFrom n names []).lookup x=none/\acc.lookup x=some c):=by
 rw[vL,wQ]at h
 cases e:(cellsFrom n names []).lookup x with
 | some d=>rw[e]at h;exact .inl h
 | none=>rw[e]at h;exact .inr ⟨rfl,h⟩
def To{n:Nat}{acc:List<|Str×aj}{x:Str}(h:(x,NameKind.cell)∉names):(cellsFrom n names acc).lookup x=acc.lookup x:=by
 rw[vL,wQ]
 cases e:(cellsFrom n names []).lookup x with
 | some d=>exact absurd (E1 names n<|cQ e) h
 | none=>rfl
def Hq{A:az}{E:aa->aA->Prop}{s:aA}{scope:Scope}{j:aj}{cl:List<|Str×aj}{env:Env}{Q:Env->aA->Prop}
  (J:∀h':ak,h'.Ns s.heap.objs.size (λ_=>none)->(∀b o,s.heap.get? b=some o->h'.get? b=some o)->CellsOk h' (s.heap.objs.size+1) (cellsFrom (s.heap.objs.size+1) scope.names []) ->
   Q (newEnv scope s.heap.objs.size j (cellsFrom (s.heap.objs.size+1) scope.names cl) qual none .none (some env) builtinsNs) { s with heap:=h',toks:=s.toks+([]:List<|Str×aa).length }) :
  wpAny M A (newFunctionEnv scope j cl [] qual none .none<|some env) Q E s:=by
 dsimp[newFunctionEnv,Option.isSome_some,dB];refine aG<|wpAny_alloc ?_;refine aG (wpAny_layCells _ (λname kind cells=>by cases d:kind == NameKind.cell<;>simp[d]) _ _ _ _ ?_);have ok:=cellsFrom_ok scope.names (s.heap.push { cls:=.type "dict",data:=.dict #[]}) (s.heap.objs.size+1) [] ⟨λ_ _ f=>(nomatch f),List.Pairwise.nil⟩ (by rw[dG];exact aP _);rw[dG]at ok;rw[show({ s with heap:=s.heap.push { cls:=.type "dict",data:=.dict #[]}}:aA).heap.objs.size=s.heap.objs.size+1 from dG ..];rw[List.forIn_nil];refine aG<|aL<|aL ?_;exact J _ ((Heap.Ns.new s.heap<|.type "dict").keeps<|pushCells_keeps _ _) (λb o e=>pushCells_keeps _ _ b o<|aM _ e) ok
abbrev lM (X:Cx)(scope:Scope)(N:ba)(C:aj)(s₀:aA)(H₀:Hp)(ex:bi):Cx where
 prog:=X.prog
 w:=X.w
 K:=X.K
 mg:=X.mg
 base:=X.base
 A:=X.A
 N:=N
 s₀:=s₀
 H₀:=H₀
 env:=compEnvC scope (cellsFrom (C+1) scope.names<|r8 X.env scope.names []) C X.env
 outer:=X.stack
 stack:=X.stack
 ex:=ex
 fn:=λx=>scope.names.lookup x == some .cell
 calm:=X.calm
 pn:=[]
 xe:=λ_ _=>False
structure CpScope (X:Cx)(scope:Scope)(N:ba)(cap:List (bt)):Prop where
 kind:scope.kind=.function
 nocf:∀x,(x,NameKind.free)∈scope.names->(x,NameKind.cell)∉scope.names
 nm:∀y∈scope.names,y.2=.local->scope.names.lookup y.1=some .local
 fr:∀y∈scope.names,y.2=.free->X.env.kindOf y.1=some .cell\/X.env.kindOf y.1=some .free
 rl:∀y,((relabel scope X.env).names.lookup y=some .cell\/(relabel scope X.env).names.lookup y=some .free)->(y,NameKind.free)∈scope.names\/scope.names.lookup y=some .cell
 len:cap.length=N.length
 nolf:∀x,(x,NameKind.free)∈scope.names->scope.names.lookup x≠some .local
 cp:∀(i j:Nat) (x:Str),N[i]?=some x->cap[i]?=some (some j)->X.N[j]?=some x/\(x,NameKind.free)∈scope.names
def LF{scope:Scope}{N:ba}{cap:List<|bt}{H:Hp}{s:aA}{fp:bi}{h₁:ak}{m:Str->bj}{tk:Nat}(S:CpScope X scope N cap)(I:Inv X pins σ H s)
  (hf:∀b∈fp,tR X pins H b) (ho:∀b∈fp,∃o,s.heap.get? b=some o) (hn:h₁.Ns s.heap.objs.size m) (hC:CellsOk h₁ (s.heap.objs.size+1)<|cellsFrom (s.heap.objs.size+1) scope.names []) (hk:∀b o,s.heap.get? b=some o->h₁.get? b=some o) :
  Inv (lM X scope N s.heap.objs.size s H fp) [] (cap.map<|Sz σ) H { s with heap:=h₁,toks:=tk }:=by
 kpf_c;have lk:∀x c,(r8 X.env scope.names []).lookup x=some c->X.env.cells.lookup x=some c:=λx c e=>by
  rcases Bh hfree e with z|z
  ·exact z
  ·cases z
 have f:∀x c,(cellsFrom (s.heap.objs.size+1) scope.names<|r8 X.env scope.names []).lookup x=some c->((x,c)∈cellsFrom (s.heap.objs.size+1) scope.names []/\h₁.IsCell c none/\s.heap.objs.size+1<=c)\/X.env.cells.lookup x=some c:=λx c e=>by
  rcases Ot e with z|z
  ·exact .inl ⟨cQ z,hC.empty x c<|cQ z⟩
  ·exact .inr<|lk x c z.2
 have O:∀x c,X.env.cells.lookup x=some c->c<s.heap.objs.size:=λx c e=>by
  obtain⟨v,z⟩:=I.cell x c e;exact z.lt
 have lt:∀b o,s.heap.get? b=some o->b≠s.heap.objs.size:=λb o e=>bq<|aW e;refine⟨⟨I.ok.mod,?_,I.ok.glob,I.ok.blt,aP _,?_,?_,?_,I.ok.hd,I.ok.frames,.inl rfl,?_,I.bs,cK I.ok.bsz I.sz,?_,?_,I.stack,I.u9⟩,rfl,I.bare,Un.kept hk,?_,?_,I.hok.fresh<|aP _,?_,?_,I.hok.kept hk,?_⟩
 ·exact S.kind
 ·intro x y c e1 e2
  rcases f x c e1 with a|a
  ·rcases f y c e2 with b|b
   ·exact name_of_addr hC.apart a.1 b.1
   ·exact absurd (O y c b)<|Nat.not_lt.mpr<|fR a.2.2
  ·rcases f y c e2 with b|b
   ·exact absurd (O x c a) (Nat.not_lt.mpr<|fR b.2.2)
   ·exact I.ok.inj x y c a b
 ·intro x e;refine eB.mp (fS _ _ _ ?_)
  rcases S.rl x e with C|C
  ·exact .inr (zT (env:=X.env) (cs:=[]) C)
  ·exact .inl C
 ·intro x c e K;have e:scope.names.lookup x=some .cell:=by
   have e:(scope.names.lookup x == some .cell)=true:=e;simpa using e
  obtain⟨d,hd⟩:=eB.mp<|fS scope.names (s.heap.objs.size+1) []<|.inl e;have K:(cellsFrom (s.heap.objs.size+1) scope.names<|r8 X.env scope.names []).lookup x=some c:=K;rw[vL,wQ,hd]at K
  cases K
  exact fR (hC.empty x c<|cQ hd).2
 ·intro b J;obtain⟨o,e⟩:=ho b J;refine⟨lt b o e,λx c e2=>?_⟩
  rcases f x c e2 with z|z
  ·exact f_ (lt_trans (aW e) z.2.2)
  ·exact(hf b J).2.2.2.2.1 x c z
 ·intro b o e J;obtain⟨_,_,_,h3,_⟩:=hf b J
  rcases h3 with z|z
  ·exact I.ok.noex b o e z
  ·exact absurd (bD (aW (I.ok.bs b o e).1) z)<|e_ _
 ·intro b J hz;obtain⟨_,h1,U,_⟩:=hf b J
  rcases bf.mp (I.vA b hz)with z|z
  ·exact h1 z
  ·exact U z
 ·refine⟨m,hn,λi x v e1 e2 e3=>?_⟩;rw[bu]at e2
  cases hc:cap[i]? with
  | none=>rw[hc]at e2;cases e2
  | some oj=>
   rw[hc]at e2
   cases oj with
   | none=>cases e2
   | some j=>
    have B:(σ[j]?).getD none=some v:=aU e2;obtain⟨hj,C⟩:=S.cp i j x e1 hc;obtain⟨m0,hn0,V⟩:=I.loc;have hσ:σ[j]?=some (some v):=by
     cases h:σ[j]? with
     | none=>rw[h]at B;cases B
     | some z=>rw[h,fh]at B;rw[B]
    have T:=S.fr (x,.free) C rfl;have hv:WH X.env.scope x:=.inr T;obtain⟨u,ru,lo⟩:=V j x v hj hσ hv;refine⟨u,ru,?_⟩
    rcases lo with⟨lo,_⟩|⟨_,c,K,ic⟩
    ·rcases T with z|z<;>(rw[z]at lo;cases lo)
    ·have U:=zT (env:=X.env) (cs:=[]) C;obtain⟨Z,G⟩:=eB.mp U;have:Z=c:=aU<|(lk x Z G).symm.trans K;subst this;refine .inr ⟨?_,Z,(To<|S.nocf x C).trans G,?_⟩
     ·rcases e3 with z|z|z
      ·exfalso;have:(relabel scope X.env).names.lookup x=some .local:=z;have P:scope.names.lookup x=some .local:=by
        have L:∃k,(x,k)∈(relabel scope X.env).names/\k=.local:=by
         clear G U;have:=zx this;exact⟨_,this,rfl⟩
        obtain⟨k,Y,rfl⟩:=L;obtain⟨⟨n',k'⟩,hm1,g⟩:=cj.mp Y;dsimp only at g;split at g
        ·cases g
        ·cases g
         exact S.nm (x,.local) hm1 rfl
       exact False.elim<|S.nolf x C P
      ·exact .inl z
      ·exact .inr z
     ·obtain⟨o,F,hd⟩:=ic;exact⟨o,hk _ _ F,hd⟩
 ·intro x c e
  rcases f x c e with z|z
  ·exact⟨_,z.2.1⟩
  ·obtain⟨v,o,F,hd⟩:=I.cell x c z;exact⟨v,o,hk _ _ F,hd⟩
 ·intro x c e
  rcases f x c e with z|z
  ·exact I.hok.fresh (fR z.2.2)
  ·exact I.freeC x c z
 ·intro p hp
  cases hp
 ·rw[aK,S.len];rfl
abbrev Q9 (X:Cx)(ifs:List aE)(t:TT):Prop:=
 ∀(pins:bv) (s:aA) (σ:St) (H:Hp) (Q:Bool->Hp->Prop),Inv X pins σ H s->t σ H Q ->
  wpAny (model X.prog X.w) X.A (forIn ifs true λc r=>if r=true then do let ok <- isTrue c X.env (eval c X.env);pure (ForInStep.yield ok)else pure (ForInStep.yield r)) (TP X pins σ Q) X.xe s
abbrev Yc:TT:=λ_ H Q=>Q true H
def OS:Q9 X [] Yc:=λ_ _ _ H _ I h=>wpAny_tests_nil ⟨H,I,h⟩
abbrev Ue (cap:List<|bt)(g:TG)(tc:TT)(te:TE)(σ:St)(Q:VK)(J:It)(H1:Hp):Prop:=∀D,H1 D=none ->
 ∃W:Nat->Nat->St->Hp->Prop,(∃m,W 0 m (cap.map<|Sz σ)<|upd H1 D<|.lst [])/\∀i m f H',W i m f H' ->
  (J.stop i H'/\Q (.ref D) H')\/(J.go i H'/\∀x H2,J.yld i H' x H2->g x f H2 λd H3=>tc d H3 λb p=>
   if b=true then te d p λy k=>∃ys,k D=some (.lst ys)/\ys.length<sizeLine/\∃j,j<m/\W (i+1) j d (upd k D<|.lst<|ys++[y])
   else ∃j,j<m/\W (i+1) j d p)
abbrev Rv (cap:List<|bt)(j:TI)(g:TG)(tc:TT)(te:TE):TE:=λσ H Q=>j σ H<|Ue cap g tc te σ Q
def Ed{α:Type}{t:Sem α}{Q Q':α->aA->Prop}{A:az}{E:aa->aA->Prop}(h:wpAny M A t Q (λ_ _=>False) s)(j:∀a s,Q a s->Q' a s):wpAny M A t Q' E s:=
 cS h j λ_ _ f=>f.elim
structure TurnG (ok:Cx->Prop)(P:ah)(w:af)(K:au)(tg:aE)(J:It)(fp:bi)(it:aj)(tn:Nat->ak->Prop):Prop where
 obj:∀i h,tn i h->∀b∈fp,∃o,h.get? b=some o/\∀v,o.data≠.cell v
 keep:∀i h h',tn i h->(∀b∈fp,∀o,h.get? b=some o->h'.get? b=some o)->tn i h'
 item:∀(X:Cx),X.prog=P->X.w=w->X.K=K->ok X->∀(i:Nat) (pins:bv) (s:aA) (σ:St) (H:Hp) (E:aa->aA->Prop),Inv X pins σ H s->(∀b∈fp,tR X pins H b)->tn i s.heap->J.go i H ->
  wpAny (model P w) X.A (pyNext<|.ref it) (λr s1=>∃u,r=some u /\
   wpAny (model P w) X.A (letOwnedTupleGo tg (.ref it) u) (λ_ s2=>∃x H',Inv X pins σ H' s2/\RelV x u/\J.yld i H x H'/\tn (i+1) s2.heap/\∀b∈fp,H' b=none) E s1) E s
 done:∀(X:Cx),X.prog=P->X.w=w->X.K=K->ok X->∀(i:Nat) (pins:bv) (s:aA) (σ:St) (H:Hp) (E:aa->aA->Prop),Inv X pins σ H s->(∀b∈fp,tR X pins H b)->tn i s.heap->J.stop i H ->
  wpAny (model P w) X.A (pyNext<|.ref it) (λr s1=>r=none/\Inv X pins σ H s1) E s
 self:∀(A:az) (i:Nat) (s:aA) (Q:aa->aA->Prop) (E:aa->aA->Prop),tn i s.heap->Q (.ref it) s->wpAny (model P w) A (pyIter<|.ref it) Q E s
abbrev YD (ok:Cx->Prop)(X:Cx)(pins:bv)(σ:St)(tg:aE)(R:It->Hp->Prop)(j:aa)(s2:aA):Prop:=
 ∃(it:aj) (fp:bi) (d:Nat->ak->Prop) (J:It) (H':Hp),j=.ref it/\Inv X pins σ H' s2/\TurnG ok X.prog X.w X.K tg J fp it d/\d 0 s2.heap/\(∀b∈fp,tR X pins H' b)/\R J H'
abbrev XA (ok:Cx->Prop)(X:Cx)(tg iter:aE)(j:TI):Prop:=
 ∀(pins:bv) (s:aA) (σ:St) (H:Hp) (R:It->Hp->Prop),Inv X pins σ H s->j σ H R ->
  wpAny (model X.prog X.w) X.A (eval iter X.env) (λv d=>wpAny (model X.prog X.w) X.A (pyIter v) (YD ok X pins σ tg R) X.xe d) X.xe s
def PI.g{iter:aE}{L:TI}(h:PI X tg iter L):XA (λY=>Y.calm=true) X tg iter L:=λpins s σ H R I q=>
 l_ (h pins s σ H R I q) λv k h1=>l_ h1 λd s2 ⟨it,fp,f,J,H',e,j,T,a,b,c⟩=>⟨it,fp,f,J,H',e,j,⟨T.obj,T.keep,T.item,T.done,T.self⟩,a,b,c⟩
def HW{ok:Cx->Prop}{X:Cx}{use:Option<|aa->Sem Unit}{Q':aa->aA->Prop}{iter:aE}{N:ba}{wi:TI}{g:TG}{tc:TT}{te:TE}(S:CpScope X scope N cap)(hok:∀C s₀ H₀ ex,(∀a o u,X.H₀ a=some (.frz o u)->H₀ a=some (.frz o u))->ok (lM X scope N C s₀ H₀ ex))(hi:XA ok X tg iter wi)
  (hg:∀C s₀ H₀ ex,PG (lM X scope N C s₀ H₀ ex) tg g) (ht:∀C s₀ H₀ ex,Q9 (lM X scope N C s₀ H₀ ex) ifs tc) (he:∀C s₀ H₀ ex,PE (lM X scope N C s₀ H₀ ex) elt te)
  (hs:(∀x,foldedSetIterable iter X.env x=pure x)<|>ζ):∀(pins:bv) (s:aA) (σ:St) (H:Hp) (Q:VK),Inv X pins σ H s->Rv cap wi g tc te σ H Q ->
  (∀(s6:aA) (C D:aj) (H5:Hp) (m:Str->bj),s6.heap.Ns C m->tR X pins H5 C->(∀h',Heap.SameBut C s6.heap h'->Inv X pins σ H5 { s6 with heap:=h' })->Q (.ref D) H5->∀v,compPost (model X.prog X.w) X.A X.xe use Q' (.ref D) C (.ok v) s6) ->
  wpAny (model X.prog X.w) X.A (comprehension (.ListComp elt [⟨tg,iter,ifs,0⟩] scope pos) scope X.env (firstIterPos [⟨tg,iter,ifs,0⟩] pos) (newList []) (firstAsync [⟨tg,iter,ifs,0⟩]) (firstIter [⟨tg,iter,ifs,0⟩] X.env) use) Q' X.xe s:=by
 intro pins s σ H Q I h hfin;kpf_c;refine wpAny_comprehension_free (use:=use) rfl hs (zl hfree) S.kind S.nm<|l_ (hi pins s σ H _ I h) λxv s1 h1=>l_ h1 λitv s2 h2=>?_;obtain⟨it,fp,tn,J,H2,rfl,I2,T,st2,f2,h2⟩:=h2;refine bG<|Hq λV k old B=>?_;obtain⟨W,⟨m0,w0⟩,turn⟩:=h2 s2.heap.objs.size I2.fresh;dsimp only at k old B ⊢;have I3:Inv X pins σ (upd H2 s2.heap.objs.size<|.lst []) { s2 with heap:=s2.heap.push {}}:=I2.KZ (t':=s2.toks) (its:=[]) .nil<|cz _;have hfp:∀b∈fp,∃o,s2.heap.get? b=some o:=λb f=>by
  obtain⟨o,e,_⟩:=T.obj 0 _ st2 b f;exact⟨o,e⟩
 have neD:∀b∈fp,b≠s2.heap.objs.size:=λb f=>by
  obtain⟨o,e⟩:=hfp b f;exact bq<|aW e
 have f3:∀b∈fp,tR X pins (upd H2 s2.heap.objs.size<|.lst []) b:=λb f=>⟨by rw[jR<|neD b f];exact(f2 b f).1,(f2 b f).2⟩;have hDC:s2.heap.objs.size≠(s2.heap.push {}).objs.size:=by rw[dG];exact bq (dI _)
 have I4:=LF (tk:=s2.toks+([]:List<|Str×aa).length) (fp:=fp) S I3 f3 (λb f=>by
  obtain⟨o,e⟩:=hfp b f;exact⟨o,aM _ e⟩) k B old
 have st4:tn 0 V:=T.keep _ _ _ st2 λb f o e=>old b o<|aM _ e;have hc:=hok (s2.heap.push {}).objs.size { s2 with heap:=s2.heap.push {}} (upd H2 s2.heap.objs.size<|.lst []) fp λa o u e=>by
  have z:=I2.base.frzs a o u e;rw[jR λq=>by rw[q,I2.fresh]at z;cases z];exact z
 have O:∀{H':Hp},(∀b∈fp,H' b=none)->∀b∈fp,tR (lM X scope N (s2.heap.push {}).objs.size { s2 with heap:=s2.heap.push {}} (upd H2 s2.heap.objs.size<|.lst []) fp) [] H' b:=λhn b f=>by
  have ok:=I4.ok;refine⟨hn b f,(ok.exf b f).1,ok.exfs b f,.inl f,λx c e=>(ok.exf b f).2 x c e,λp hp=>nomatch hp⟩
 have U:∀s4:aA,s4={ s2 with heap:=V,toks:=s2.toks+([]:List<|Str×aa).length } ->
   codeAny (model X.prog X.w) X.A (.compLoop (.ListComp elt [⟨tg,iter,ifs,0⟩] scope pos) 0 (.ref it) (.ref s2.heap.objs.size)<|compEnvC scope (cellsFrom ((s2.heap.push {}).objs.size+1) scope.names<|r8 X.env scope.names []) (s2.heap.push {}).objs.size X.env)
    (compPost (model X.prog X.w) X.A X.xe use Q' (.ref s2.heap.objs.size) (s2.heap.push {}).objs.size) s4:=by
  rintro s4 rfl;refine codeAny_loop rfl (λn s'=>∃i L H',Inv (lM X scope N (s2.heap.push {}).objs.size { s2 with heap:=s2.heap.push {}} (upd H2 s2.heap.objs.size<|.lst []) fp) [] L H' s'/\tn i s'.heap/\(∀b∈fp,H' b=none)/\W i n L H') (λn s5 hI=>?_) m0 ⟨0,_,_,I4,st4,λb f=>(f3 b f).1,w0⟩;obtain⟨i,P,H5,I5,st5,fr5,w5⟩:=hI;show wpAny _ X.A ((compTurn (.ListComp elt [⟨tg,iter,ifs,0⟩] scope pos) 0 (.ref it) (.ref s2.heap.objs.size)<|compEnvC scope (cellsFrom ((s2.heap.push {}).objs.size+1) scope.names<|r8 X.env scope.names []) (s2.heap.push {}).objs.size X.env).onRaise λx=>do noteFrame x _;theTreesLotGoes x) _ _ s5;refine wpAny_noted ?_;rw[compTurn_list];refine aG (iC<|aG ?_)
  rcases turn i n P H5 w5 with⟨stop,q⟩|⟨go,step⟩
  ·refine l_ (T.done (lM X scope N (s2.heap.push {}).objs.size { s2 with heap:=s2.heap.push {}} (upd H2 s2.heap.objs.size<|.lst []) fp) rfl rfl rfl hc i [] s5 P H5 _ I5 (O fr5) st5 stop) λr s6 h9=>?_;obtain⟨hr,Z⟩:=h9;subst hr;obtain⟨m6,hn6,_⟩:=Z.loc;refine aL<|hfin s6 _ _ H5 m6 hn6 (I3.B6 (aP _) Z.free) (λh' sb=>?_) q _;have u6:=Z.base;have nC:∀b o,(s2.heap.push {}).get? b=some o->b≠(s2.heap.push {}).objs.size:=λb o e=>bq<|aW e;refine I3.Mg (ch:=fp) Z.os ⟨λb o e n f hx=>?_,λb o e n f hx=>?_,λb o e n hx=>?_,λb o e hx=>?_,u6.tups,u6.frzs,u6.tbls⟩ ?_ Z.bare ?_
   ·exact sb.extBut b o (nC b o e) (u6.keep b o e n f hx)
   ·obtain⟨sl,z⟩:=u6.slot b o e n f hx;exact⟨sl,sb.extBut b _ (nC b o e) z⟩
   ·exact u6.free b o e n hx
   ·obtain⟨o',z⟩:=u6.there b o e hx;exact⟨o',sb.extBut b _ (nC b o e) z⟩
   ·intro b o e;have f:∀c v,H5 c=some v->c≠(s2.heap.push {}).objs.size:=λc v e z=>by
     rw[z]at e;have:=Z.free;rw[show H5 (s2.heap.push {}).objs.size=none from this]at e
     cases e
    refine(Z.hok b o e).stay (λc v hc q=>sb.extBut c v ?_ q) (λ_ q=>q) λ_ _ q=>q
    rcases hc with z|z
    ·rw[z];exact f b o e
    ·exact f c _ z
   ·intro b f;obtain⟨_,z1,_,z3,z4,z5⟩:=f3 b f;exact⟨z3,z1,z4,z5⟩
  ·refine l_ (T.item (lM X scope N (s2.heap.push {}).objs.size { s2 with heap:=s2.heap.push {}} (upd H2 s2.heap.objs.size<|.lst []) fp) rfl rfl rfl hc i [] s5 P H5 _ I5 (O fr5) st5 go) λr s6 h9=>?_;obtain⟨u,hr,h6⟩:=h9;subst hr;refine aG<|l_ h6 λ_ s7 ⟨x,H7,I7,r7,y7,st7,fr7⟩=>?_;have I7':=I7.pinned (O fr7)<|T.obj _ _ st7;refine aG<|Ed (hg _ _ _ fp _ s7 P H7 x u _ I7' r7<|step x H7 y7) λ_ s8 ⟨G,H8,I8,q8⟩=>?_;refine aG<|Ed (ht _ _ _ fp _ s8 G H8 _ I8 q8) λok s9 ⟨H9,I9,q9⟩=>?_;have again:∀{F:aA} {j:Hp},Inv (lM X scope N (s2.heap.push {}).objs.size { s2 with heap:=s2.heap.push {}} (upd H2 s2.heap.objs.size<|.lst []) fp) ([]++v8 fp s7.heap) G j F->(∃m',m'<n/\W (i+1) m' G j) ->
     ∃m,m<n/\∃i L H',Inv (lM X scope N (s2.heap.push {}).objs.size { s2 with heap:=s2.heap.push {}} (upd H2 s2.heap.objs.size<|.lst []) fp) [] L H' F/\tn i F.heap/\(∀b∈fp,H' b=none)/\W i m L H':=λ{F j} K h9=>by
    obtain⟨m',hm,Y⟩:=h9;refine⟨m',hm,i+1,G,j,K.r_,T.keep _ _ _ st7 λb f o e=>(K.pin (b,o)<|bK _<|bK _<|oE f e).1,λb f=>?_,Y⟩;obtain⟨o,e,d⟩:=T.obj _ _ st7 b f;exact(K.pin (b,o)<|bK _<|bK _<|oE f e).2.1
   cases ok with
   | false=>
    rw[aO bh]at q9;exact aL ⟨rfl,again I9 q9⟩
   | true=>
    rw[aQ rfl]at q9;refine aG<|aG<|Ed (he _ _ _ fp _ s9 G H9 _ I9 q9) λy F ⟨v10,j,K,r10,ys,hD,hz,Y⟩=>?_;refine aG<|Ed (xN _ F G j (.ref s2.heap.objs.size) [v10] _ [y] (λ_ H'=>H'=upd j s2.heap.objs.size (.lst<|ys++[v10])) K rfl (.cons r10 .nil) ⟨_,ys,v10,rfl,rfl,hD,hz,rfl⟩) λ_ s11 ⟨_,H11,I11,_,e11⟩=>?_;subst e11;exact aL<|aL ⟨rfl,again I11 Y⟩
 exact codeAny_compStart_list (U _ rfl)<|T.self _ 0 _ _ _ st4<|U _ rfl
def RN{ok:Cx->Prop}{X:Cx}{iter:aE}{N:ba}{L:TI}{g:TG}{tc:TT}{te:TE}(S:CpScope X scope N cap)(J:∀C s₀ H₀ ex,(∀a o u,X.H₀ a=some (.frz o u)->H₀ a=some (.frz o u))->ok (lM X scope N C s₀ H₀ ex))(hi:XA ok X tg iter L)
  (hg:∀C s₀ H₀ ex,PG (lM X scope N C s₀ H₀ ex) tg g) (U:∀C s₀ H₀ ex,Q9 (lM X scope N C s₀ H₀ ex) ifs tc) (Z:∀C s₀ H₀ ex,PE (lM X scope N C s₀ H₀ ex) elt te)
  (hs:(∀x,foldedSetIterable iter X.env x=pure x)<|>ζ):PE X (.ListComp elt [⟨tg,iter,ifs,0⟩] scope pos) (Rv cap L g tc te):=by
 k_ne;rw[eval_ListComp];exact HW (use:=none) (Q':=EP X pins σ Q) S J hi hg U Z hs pins s σ H Q I h λp C D f m hn k d q v=>⟨m,hn,λh' j=>⟨.ref D,f,d h' j,rfl,q⟩⟩
def Vk{X:Cx}{iter:aE}{N:ba}{j:TI}{g:TG}{tc:TT}{te:TE}(hc:X.calm=true)(S:CpScope X scope N cap)(hi:PI X tg iter j)
  (hg:∀C s₀ H₀ ex,PG (lM X scope N C s₀ H₀ ex) tg g) (J:∀C s₀ H₀ ex,Q9 (lM X scope N C s₀ H₀ ex) ifs tc) (L:∀C s₀ H₀ ex,PE (lM X scope N C s₀ H₀ ex) elt te)
  (hs:(∀x,foldedSetIterable iter X.env x=pure x)<|>ζ):PE X (.ListComp elt [⟨tg,iter,ifs,0⟩] scope pos) (Rv cap j g tc te):=
 RN S (λ_ _ _ _ _=>hc) hi.g hg J L hs
section
variable {X:Cx}
def DG{bs:List Bool}:∀{us:be},Vals (bs.map V.bl) us->LSm.BoolsAre us bs:=by
 induction bs with
 | nil=>intro us r;cases r;exact .nil
 | cons b bs d=>
  intro us r
  cases r with
  | cons h t=>
   have e:_=Value.bool b:=h;subst e;exact .cons b<|d t
def IF(hc:X.calm=true):kE X (.builtin "all") (λxs H Q=>∃(p:aj) (bs:List Bool),xs=[.ref p]/\nh X.K H p (bs.map V.bl)/\Q (.bl<|bs.all id) H):=by
 fin2;obtain⟨p,bs,rfl,C,q⟩:=h;kln_w
 cases rx
 obtain⟨d,m,pl,G⟩:=I.list C;have j:=DG m;have f:=pl.isList;have g:p<s.heap.objs.size:=by obtain⟨_,e,_⟩:=f;exact aW e
 refine call_all_walk<|gM f ?_;refine⟨s.heap.objs.size,[s.heap.objs.size,p],[s.heap.objs.size],d.toArray.size,_,_,λi=>(bs[i]?).getD true,rfl,Walks.list (A:=X.A.in1) (I.ok.hd hc) _ p (bq g) d.toArray,
  ⟨⟨_,a_ _ rfl,rfl,rfl⟩,f.push _⟩,λi v s' J F hP k=>?_,λh' tk B=>?_⟩
 ·obtain⟨b,e,rfl⟩:=j.get i v (by simpa using hP);dsimp[e,fh]at k;exact dj k
 ·have e:((List.range d.toArray.size).all λi=>(bs[i]?).getD true)=bs.all id:=by
   rw[aY,j.length];exact LSm.range_all bs
  rw[e];exact⟨.bl _,H,I.kept<|LSm.kept_iter B,rfl,q⟩
def Cb:kE X (.builtin "sorted") (λxs H Q=>∃(p:aj) (ns:ag),xs=[.ref p]/\(nh X.K H p (ns.map V.int)\/pJ X.K H p (ns.map V.int))/\ns.length<64 /\
  ∀l (ns':ag),H l=none->ns'.Perm ns->ns'.Pairwise (·<=·)->Q (.ref l) (upd H l<|.lst<|ns'.map V.int)):=by
 fin2;obtain⟨p,ns,rfl,C,Z,q⟩:=h;kln_w
 cases rx
 have P:∀(d:be) (T:String) (o:Obj) (n:Nat),(T = "list" \/ T = "tuple")->s.heap.get? p=some o->o.cls=.type T->o.data=.seq d.toArray n->Vals (ns.map V.int) d ->
   wpAny (model X.prog X.w) X.A (call (.builtin "sorted") [.ref p]) (EP X pins σ Q) X.xe s:=by
  intro d T o n Y B f hd j;have hI:=intsAre_of j;have k:d.length=ns.length:=by have:=j.length;rw[aK]at this;exact this.symm
  refine Calls.call_function_entry kind_sorted plain_sorted entry_sorted (args_sorted1 _) ?_;unfold Builtin.«sorted»;refine aG (m:=checkCount "sorted" 1 1 _)<|aL ?_;refine aG (wpAny_collect_seq p Y B f hd (λh' hk=>?_)<|by rw[aY,k,bB];lia);refine aG<|wpAny_newList ?_;have g:(h'.push<|seqObj "list" d.toArray 0).get? h'.objs.size=some (seqObj "list" d.toArray 0):=a_ _ rfl
  skip
  refine aG<|b_<|c9 slot_list_sort ⟨_,g,rfl⟩ entry_list_sort (list_sort_tree g hI () λout ns' a1 N U=>⟨_,rfl,?_⟩)<|args_list_sort _;obtain⟨e,he⟩:=sortedHeap_at (out:=out) g;have L:ns'.length=ns.length:=N.length_eq;have O:Inv X pins σ H { s with heap:=h' }:=I.kept (t':=s.toks) hk;have J:∀b F,h'.get? b=some F->(sortedHeap (h'.push<|seqObj "list" d.toArray 0) h'.objs.size d out).get? b=some F:=λb F G=>by
   rw[sortedHeap_old (bq<|aW G)<|by rw[dG];exact fK<|aW G];exact aM _ G
  refine aL ⟨_,rfl,.ref h'.objs.size,_,O.laid (t':=s.toks) (o:=.lst<|ns'.map V.int) J (aP _) ?_,rfl,q _ ns' (O.hok.fresh<|aP _) N U⟩;refine⟨by rw[aK,L,bB];lia,out.toList,e,x_ a1,?_⟩;rw[he]
 rcases C with C|C
 ·obtain⟨d,j,pl,hz⟩:=I.list C;obtain⟨o,B,f,n,hd⟩:=pl.isList;exact P d "list" o n (.inl rfl) B f hd j
 ·obtain⟨d,j,pl,hz⟩:=I.tuple C;obtain⟨o,B,f,n,hd⟩:=pl;exact P d "tuple" o n (.inr rfl) B f hd j
def Um:nZ X (compareOp .Is) (λx y H Q=>∃a b,x=.bl a/\y=.bl b/\Q (.bl<|a == b) H):=by
 kt_k;obtain⟨a,b,rfl,rfl,q⟩:=h
 cases rx;cases ry
 exact is_bool ⟨.bl _,H,I,rfl,q⟩
def Il:nZ X (compareOp .IsNot) (λx y H Q=>∃a b,x=.bl a/\y=.bl b/\Q (.bl<|a != b) H):=by
 kt_k;obtain⟨a,b,rfl,rfl,q⟩:=h
 cases rx;cases ry
 exact isnot_bool ⟨.bl _,H,I,rfl,q⟩
def BP:kE X (.type "range") (λxs H Q=>∃i j,xs=[.int i,.int j]/\∀p,H p=none->Q (.ref p) (upd H p<|.rng i j)):=by
 fin2;obtain⟨i,j,rfl,q⟩:=h;obtain⟨u,f,rfl,⟨t,rfl⟩,⟨d,rfl⟩⟩:=vals2 r;refine call_range_2 ⟨.ref s.heap.objs.size,_,I.laid (o:=.rng i j) (λb o e=>aM _ e) (aP _) ?_,rfl,q _ I.fresh⟩;exact⟨t,d,s.toks,a_ _ rfl⟩
abbrev lE (i j:Int):ag:=(List.range (j-i).toNat).map λk:Nat=>i+(k:Int)
def qb(i j:Int):(lE i j).length=(j-i).toNat:=by unfold lE;rw[aK,bW]
def zZ{i:Int}{n:Nat}{acc:Array aa}(h:ItemsOf (λk v=>∃t,v=Value.int (i+(k:Int) * 1) t) acc n):Vals (((List.range n).map λk:Nat=>i+(k:Int)).map V.int) acc.toList:=by
 obtain⟨hs,hv⟩:=h;have d:∀(l:be) (b:Nat),(∀j v,l[j]?=some v->∃t,v=Value.int (i+((b+j:Nat):Int)) t)->Vals (((List.range' b l.length).map λk:Nat=>i+(k:Int)).map V.int) l:=by
  intro l
  induction l with
  | nil=>intro b _;exact .nil
  | cons v l m=>
   intro b f;rw[aR,fO,bP,bP];refine .cons ?_ ?_
   ·obtain⟨t,e⟩:=f 0 v rfl;exact⟨t,by rw[e];simp⟩
   ·refine m (b+1) λj w hw=>?_;obtain⟨t,e⟩:=f (j+1) w hw;exact⟨t,by rw[e,show b+(j+1)=b+1+j by lia]⟩
 have:=d acc.toList 0 λj v g=>by
  obtain⟨t,e⟩:=hv j v (by simpa using g);exact⟨t,by rw[e,eX,fZ]⟩
 rw[bJ,hs,<- cW]at this;exact this
def L4{i j:Int}:Builtin.Range.rangeSize i j 1=(((j-i).toNat:Nat):Int):=by rw[rangeSize_one];split<;>omega
def An(hc:X.calm=true):kE X (.type "list") (λxs H Q=>∃p i j,xs=[.ref p]/\H p=some (.rng i j)/\(-(2 ^ 62)<=i/\i<2 ^ 62/\-(2 ^ 62)<=j/\j<2 ^ 62)/\(j-i).toNat<=1000/\∀l,H l=none->Q (.ref l) (upd H l<|.lst<|(lE i j).map V.int)):=by
 fin2;obtain⟨p,i,j,rfl,hp,⟨g,B,k,m⟩,hn,q⟩:=h;kln_w
 cases rx
 obtain⟨t,J,v,e⟩:=I.hok p _ hp;refine call_list_range (n:=(j-i).toNat) (I.ok.hd hc) e (small_one g B k m) L4 () λh' tk d F G C f=>?_;refine⟨.ref s.heap.objs.size,_,I.laid (o:=.lst<|(lE i j).map V.int) G (aP _) ⟨?_,d.toList,F,zZ f,by rw[C]⟩,rfl,q _ I.fresh⟩;rw[aK,qb,bB];lia
end
section
variable {X:Cx}
def Cu{prog:ah}{w:af}{A:az}{E:aa->aA->Prop}{s:aA}{Q:be->aA->Prop}{r:aj}{a b c:Int}{v:Tok}{n:Nat}(hh:A.handled=none)(U:IsRange s.heap r a b c t u v)(J:Builtin.Range.small a b c=true)
  (hn:Builtin.Range.rangeSize a b c=n) (L:n<=2 ^ 24)
  (Z:∀h' tk (acc':Array aa),(∀b o,s.heap.get? b=some o->h'.get? b=some o)->ItemsOf (λi v=>∃t,v=.int (a+i * c) t) acc' n->Q acc'.toList { s with heap:=h',toks:=tk }) :
  wpAny (model prog w) A (collect<|.ref r) Q E s:=by
 unfold collect;refine aG<|iX<|d8 F.entry_proto_collect ?_;rw[dQ F.plain_proto_collect _]
 skip
 refine aG<|bG ?_;refine aL ⟨gp F.plain_list_iadd _,d8 F.entry_list_iadd ?_⟩;rw[dQ F.plain_list_iadd _]
 skip
 have G:(s.heap.push {}).get? s.heap.objs.size=some { cls:=.type "list",data:=.seq #[] 0 }:=a_ _ rfl;have k:∀(h':ak) (tk:Nat) (acc':Array aa) (j:Nat),(∀b o,b≠s.heap.objs.size->(s.heap.push {}).get? b=some o->h'.get? b=some o) ->
   h'.get? s.heap.objs.size=some { cls:=.type "list",dict:=none,data:=.seq acc' j,slots:=#[]}->ItemsOf (λi v=>∃t,v=.int (a+i * c) t) acc' n ->
   wpAny (model prog w) A (match Value.ref s.heap.objs.size with
   | Value.ref a=>do
    match (<- load a).data with
     | Data.seq xs _=>pure xs.toList
     | _=>unsupported "internal:collect"
   | _=>unsupported "internal:collect") Q E { s with heap:=h',toks:=tk }:=by
  intro h' tk acc' j m g d
  skip
  refine aG<|wpAny_load g ?_;refine aL ?_;exact Z h' tk acc' (λb o e=>m b o (bq<|aW e)<|aM _ e) d
 refine cS (wpAny_extend_range (A:=A) (R:=λC s'=>C=.ok (.ret<|.ref s.heap.objs.size)/\∃h' tk acc' j,s'={ s with heap:=h',toks:=tk }/\(∀b o,b≠s.heap.objs.size->(s.heap.push {}).get? b=some o->h'.get? b=some o) /\
   h'.get? s.heap.objs.size=some { cls:=.type "list",dict:=none,data:=.seq acc' j,slots:=#[]}/\ItemsOf (λi v=>∃t,v=.int (a+i * c) t) acc' n)
  (s:={ s with heap:=s.heap.push {}}) hh (aM _ U) J hn L s.heap.objs.size (.ref s.heap.objs.size) 0 G
  (λh' tk acc' j m g d=>⟨rfl,h',tk,acc',j,rfl,m,g,d⟩)) (λp s' h=>?_) λe s' h=>?_
 ·cases p with
  | done f=>
   obtain⟨e,h',tk,acc',j,rfl,m,g,d⟩:=h
   cases e
   exact k h' tk acc' j m g d
  | again j=>exact⟨h.1,eW h.2 λr B U=>by
    obtain⟨rfl,h',tk,acc',j,rfl,m,g,d⟩:=U;exact k h' tk acc' j m g d⟩
 ·exact absurd h.1<|by simp
def u_(l:aj){a b:Int}{v:Tok}{n:Nat}(L:Builtin.Range.small a b 1=true)
  (hn:Builtin.Range.rangeSize a b 1=n) (U:n<=1000) :
  Meets (Builtin.«tuple.__new__» ⟨[.type "tuple",.ref l],[]⟩)
   (λA R s=>A.handled=none/\IsRange s.heap l a b 1 t u v/\∀(h':ak) (tk:Nat) (acc':Array aa),(∀b o',s.heap.get? b=some o'->h'.get? b=some o')->ItemsOf (λi v=>∃t,v=.int (a+i * 1) t) acc' n->R (.ok<|.ret<|.ref h'.objs.size) { s with heap:=h'.push { cls:=.type "tuple",data:=.seq acc' },toks:=tk }):=
 .of_wp λprog w A R s h=>by
  obtain⟨hp,g,d,tk,os⟩:=s;obtain⟨F,m,h⟩:=h;have B:=sub_tuple_self;have k:=init_tuple_lookup;have J:=madeHere_tuple;have C:Shared.TypeIs ⟨hp,g,d,tk,os⟩ (.ref l) "range" := ⟨_,m,rfl⟩;have j:A.in1.handled=none:=F
  wp_walk using AutoSeq1.wpAny_loadPart' m,iS C,Cu (A:=A.in1) j m L hn (by omega)
  intro h' p acc' G f;show wpAny _ _ (Builtin.Tuple.tupleExact acc'.toList.toArray >>= λv=>ret v) _ _ _;unfold Builtin.Tuple.tupleExact;have e:acc'.toList.toArray=acc':=by simp
  refine aG (bG ?_<|by show acc'.toList.toArray.size<=sizeLine;rw[e,f.1,bB];omega);refine aL ⟨_,rfl,?_⟩;rw[e];exact h h' p acc' G f
def zD(hc:X.calm=true):kE X (.type "tuple") (λxs H Q=>∃p i j,xs=[.ref p]/\H p=some (.rng i j)/\(-(2 ^ 62)<=i/\i<2 ^ 62/\-(2 ^ 62)<=j/\j<2 ^ 62)/\(j-i).toNat<=1000/\∀l,H l=none->Q (.ref l) (upd H l<|.tup<|(lE i j).map V.int)):=by
 fin2;obtain⟨p,i,j,rfl,hp,⟨m,G,B,C⟩,hn,q⟩:=h;kln_w
 cases rx
 obtain⟨t,K,v,e⟩:=I.hok p _ hp;refine callType_new F.called_tuple ⋯ (F.typeCall_tuple_1 _) (F.newCall_tuple_1 _) (λg=>F.args_object_init_2 g _) F.entry_tuple_new
  (u_ (n:=(j-i).toNat) p (small_one m G B C) L4 hn) ⟨I.ok.hd hc,e,λh' tk d J f=>⟨⟨_,a_ _ rfl,rfl⟩,?_⟩⟩
 have k:Inv X pins σ H { s with heap:=h',toks:=tk }:=I.kept J;refine⟨.ref h'.objs.size,_,k.laid (t':=tk) (o:=.tup<|(lE i j).map V.int) (λb o e=>aM _ e) (aP _) ⟨?_,d.toList,zZ f,?_⟩,rfl,q _<|k.hok.fresh<|aP _⟩
 ·rw[aK,qb,bB];lia
 ·have e:d.toList.toArray=d:=by simp
  rw[e];exact oM.new _ _
abbrev X4 (K:au)(te:TE):TE:=λσ H Q=>te σ H λx H1=>∃a xs,x=.ref a/\nh K H1 a xs/\∀p,H1 p=none->Q (.ref p) (upd H1 p<|.lst xs.reverse)
def O8{te:TE}{J cp:Pos}(L:PE X e te):PE X (.Subscript e (.Slice none none (some<|.UnaryOp .USub (.Constant (.int 1) kk cp) J) p2) pos) (X4 X.K te):=by
 k_ne;refine Subscript_<|l_ (L pins s σ H _ I h) λv g ⟨x,H1,j,r1,a,xs,ex,F,q⟩=>?_;subst ex
 cases r1
 refine wpAny_Slice ?_;rw[jh];refine aL ?_;refine aL ?_;rw[evalPart_some];refine l_ ((M9 (a:=.Constant (.int 1) kk cp) EW EA) pins g σ H1 (λv H'=>v=.int (-1)/\H'=H1) j ⟨1,rfl,rfl,rfl⟩) λvs s3 h9=>?_;obtain⟨y,H3,C,m,k,B⟩:=h9;subst k B;obtain⟨t,rfl⟩:=m;have I4:Inv X pins σ H3 { s3 with heap:=s3.heap.push { cls:=.type "slice",data:=.fields #[.none,.none,.int (-1) t]}}:=C.kept (t':=s3.toks) λb G q=>aM _ q;obtain⟨its,d,pl,p⟩:=I4.list F
 skip
 refine tail_any (ops:=[.ref a,.ref s3.heap.objs.size]) pl.isList.typeIs jc.lookup ?_ (by with_unfolding_all rfl);have f:=d.length;refine wpAny_getItem_list_slice pl.isList (iW ..) .none .none (.int (-1) t) ⋯ ?_ (by rw[aY]<;>lia);rw[PySem.W.krv_pick];refine⟨.ref _,_,I4.KZ (t':=s3.toks) (ys:=xs.reverse) (its:=its.reverse) d.reverse<|by rw[iQ];exact p,rfl,q _ I4.fresh⟩
def DR:kE X (.builtin "isinstance") (λxs H Q=>∃x t b,xs=[x,.ty c]/\TyOf X.K H x t/\PySem.W.kitOne X.K t (.type c)=some b/\Q (.bl b) H):=by
 fin2;obtain⟨x,t,b,rfl,ty,e,q⟩:=h;obtain⟨u,f,rfl,rx,d⟩:=vals2 r
 cases d
 exact Iq I rx ty e λtk=>⟨.bl b,H,I.tok tk,rfl,q⟩
abbrev Rg (K:au):R2:=λx y H Q=>∃a b ys,x=.ref a/\y=.ref b/\pJ K H a []/\pJ K H b ys/\Q (.ref b) H
def Kc:nZ X (binaryOp .Add) (Rg X.K):=by
 kt_k;obtain⟨a,b,ys,rfl,rfl,h1,C,q⟩:=h
 cases rx
 cases ry
 obtain⟨us,r1,p1,_⟩:=I.tuple h1;obtain⟨F,r2,p2,_⟩:=I.tuple C
 cases r1
 obtain⟨⟨cls,dd,data,G⟩,p,hc,n,hd⟩:=id p1;obtain⟨⟨B,j,k,m⟩,d,g,J,f⟩:=id p2;simp only at hc hd g f;subst hc hd g f;exact concat_meets ⟨_,p,rfl⟩ ⟨_,d,rfl⟩ noFill_tuple_add seq_tuple_add gO gJ (gj _ _)
   (tuple_addW0 a b _ F.toArray n J dd j G m<|by simp) ⟨p,d,⟨.ref b,H,I,rfl,q⟩⟩
def N2{ys:ba}:∀{us:be},Vals (ys.map V.str) us->StrsAre us ys:=by
 induction ys with
 | nil=>intro us r;cases r;exact .nil
 | cons b bs f=>
  intro us r
  cases r with
  | cons h t=>
   obtain⟨d,e⟩:=h;subst e;exact .cons b d<|f t
abbrev rJoin (K:au):V->List V->Hp->VK->Prop:=λx vs H Q=>∃z p ys,x=.str z/\vs=[.ref p]/\nh K H p (ys.map V.str)/\(ys.map (·.length)).sum+ys.length * z.length<=16777216/\Q (.str<|Txt.join z ys) H
def NW:Zi X "str.join" (rJoin X.K):=by
 intro pins s σ H x vs v us Q I rx f h;obtain⟨z,p,ys,rfl,rfl,B,j,q⟩:=h;gn_on;obtain⟨u,rfl,d⟩:=f.one
 cases d
 obtain⟨m,r,pl,_⟩:=I.list B;exact join_list pl.isList (N2 r) j λg k=>⟨.str _,H,I.tok k,⟨g,rfl⟩,q⟩
end
def lQ:bootBuiltins "len" = some (.builtin "len"):=by decide +kernel
def EH:bootBuiltins "abs" = some (.builtin "abs"):=by decide +kernel
def tW:bootBuiltins "all" = some (.builtin "all"):=by decide +kernel
def SH:bootBuiltins "any" = some (.builtin "any"):=by decide +kernel
def Tf:bootBuiltins "max" = some (.builtin "max"):=by decide +kernel
def Rw:bootBuiltins "min" = some (.builtin "min"):=by decide +kernel
def xq:bootBuiltins "sorted" = some (.builtin "sorted"):=by decide +kernel
def n_:bootBuiltins "isinstance" = some (.builtin "isinstance"):=by decide +kernel
def oZ:bootBuiltins "int" = some (.type "int"):=by decide +kernel
def Ou:bootBuiltins "bool" = some (.type "bool"):=by decide +kernel
def xw:bootBuiltins "str" = some (.type "str"):=by decide +kernel
def wV:bootBuiltins "list" = some (.type "list"):=by decide +kernel
def ud:bootBuiltins "tuple" = some (.type "tuple"):=by decide +kernel
def wW:bootBuiltins "range" = some (.type "range"):=by decide +kernel
def yK:∀{a b:ag},a.Perm b->a.Pairwise (·<=·)->b.Pairwise (·<=·)->a=b:=λp g d=>
 List.Perm.eq_of_pairwise (λx y _ _ h1 f=>Int.le_antisymm h1 f) g d p
def wj{i j k:Int}:k∈lE i j ↔ i<=k/\k<j:=by
 unfold lE;rw[cj];constructor
 ·rintro⟨a,d,rfl⟩;have:=dF.mp d;omega
 ·rintro⟨h1,f⟩;exact⟨(k-i).toNat,dF.mpr<|by omega,by omega⟩
abbrev Kn (P:ah)(w:af)(K:au)(mg:Str->bj)(base:ak)(k:Nat)(x:Str)(ps:ba)(sp:Sp):Prop:=
 ∃(f:aj) (fd:FuncData),FnOk P w K mg base uY k f fd ps sp/\mg x=some (.ref f)/\PySem.W.keepIn K (.ref f)=true/\Binds K fd ps []
def Wk{X:Cx}{k:Nat}{x:Str}{sp:Sp}{t:TA}{p:Pos}(G:Kn X.prog X.w X.K X.mg X.base k x ps sp)(U:Room k X.A)(Z:PA X (e::es) t)(hg:Gl X x<|>ε)
  (L:(x == ("__debug__" : Str))=false<|>δ) (hs:starEach (e::es) X.env=(false,eval e X.env)::starEach es X.env<|>ε) (J:((backTo pos<|starEach es X.env).any (·.1)=false)<|>ε) :
  PE X (.Call (.Name x p) (e::es) [] pos) (Qp sp [] E0 t):=by
 obtain⟨f,fd,F,g,j,d⟩:=G;exact Gv F U hg g j d .nil We Z L hs J
abbrev yW (J fs:ba):ba->List (bt)->Prop
 | [],[]=>True
 | _::N,none::c=>yW J fs N c
 | x::N,some j::c=>J[j]?=some x/\x∈fs/\yW J fs N c
 | _,_=>False
theorem yW.len{fs:ba}:∀{N:ba}{c:List<|bt},yW XN fs N c->c.length=N.length
 | [],[],_=>rfl
 | _::N,none::c,h=>cg (·+1) (yW.len (N:=N) (c:=c) h)
 | _::N,some j::c,h=>cg (·+1) (yW.len (N:=N) (c:=c) h.2.2)
 | [],_::_,h=>h.elim
 | _::_,[],h=>h.elim
theorem yW.cp{fs:ba}:∀{N:ba}{c:List<|bt},yW XN fs N c->∀(i j:Nat) (x:Str),N[i]?=some x->c[i]?=some (some j)->XN[j]?=some x/\x∈fs
 | [],[],_,i,j,x,h1,_=>by simp at h1
 | y::N,none::c,h,i,j,x,h1,h2=>by
  cases i with
  | zero=>simp at h2
  | succ i=>exact yW.cp (N:=N) (c:=c) h i j x (by simpa using h1)<|by simpa using h2
 | y::N,some k::c,h,i,j,x,h1,h2=>by
  cases i with
  | zero=>
   simp at h1 h2;subst h1 h2;exact⟨h.1,h.2.1⟩
  | succ i=>exact yW.cp (N:=N) (c:=c) h.2.2 i j x (by simpa using h1)<|by simpa using h2
 | [],_::_,h,_,_,_,_,_=>h.elim
 | _::_,[],h,_,_,_,_,_=>h.elim
def oF{X:Cx}{scope:Scope}{N:ba}(fs:ba)(kind:scope.kind=.function)(nocf:∀y∈scope.names,y.2=.cell->scope.names.lookup y.1=some .cell/\(y.1,NameKind.free)∉scope.names)(nm:∀y∈scope.names,y.2=.local->scope.names.lookup y.1=some .local)
  (nolf:∀y∈scope.names,y.2=.free->scope.names.lookup y.1≠some .local) (hf:∀y∈scope.names,y.2=.free->y.1∈fs) (J:∀x∈fs,(x,NameKind.free)∈scope.names) (L:∀x∈fs,X.env.kindOf x=some .cell\/X.env.kindOf x=some .free) (cp:yW X.N fs N cap):CpScope X scope N cap where
 kind:=kind
 nocf:=λx hf hc=>(nocf (x,.cell) hc rfl).2 hf
 nm:=nm
 fr:=λy hy e=>L _ (hf y hy e)
 rl:=λy h=>by
  have g:∀k,(k=NameKind.cell\/k=NameKind.free)->(relabel scope X.env).names.lookup y=some k->(y,NameKind.free)∈scope.names\/scope.names.lookup y=some .cell:=λk L e=>by
   obtain⟨⟨C,B⟩,f,d⟩:=cj.mp<|zx e;dsimp only at d;split at d
   ·rename_i hc
    cases d
    have:B=.free:=by
     dsimp[bE]at hc;simpa using hc.1.1
    subst this;exact .inl f
   ·cases d
    rcases L with rfl|rfl
    ·exact .inr (nocf _ f rfl).1
    ·exact .inl f
  rcases h with h|h
  ·exact g _ (.inl rfl) h
  ·exact g _ (.inr rfl) h
 len:=cp.len
 nolf:=λx p=>nolf (x,.free) p rfl
 cp:=λi j x h1 m=>by
  obtain⟨a,b⟩:=cp.cp i j x h1 m;exact⟨a,J x b⟩
inductive Kd where
 | non|bl|int|str|lst|tup
 deriving DecidableEq
abbrev Kd.ty:Kd->aa
 | .non=>.type "NoneType" | .bl=>.type "bool" | .int=>.type "int" | .str=>.type "str" | .lst=>.type "list" | .tup=>.type "tuple"
abbrev Ut (H:Hp)(x:V):Kd->Prop
 | .non=>x=.non
 | .bl=>∃b,x=.bl b
 | .int=>∃i,x=.int i
 | .str=>∃s,x=.str s
 | .lst=>∃a xs,x=.ref a/\H a=some (.lst xs)
 | .tup=>∃a xs,x=.ref a/\H a=some (.tup xs)
def Ut.XX{K:au}{H:Hp}{x:V}{k:Kd}(h:Ut H x k):TyOf K H x k.ty:=by
 cases k with
 | non=>cases h;exact .non
 | bl=>obtain⟨b,rfl⟩:=h;exact .bl b
 | int=>obtain⟨b,rfl⟩:=h;exact .int b
 | str=>obtain⟨b,rfl⟩:=h;exact .str b
 | lst=>obtain⟨a,xs,rfl,e⟩:=h;exact .lst e
 | tup=>obtain⟨a,xs,rfl,e⟩:=h;exact .tup e
def Oq{K:au}(k:Kd):PySem.W.kitOne K k.ty (.type "int")=some (decide<|k=.int\/k=.bl):=by cases k<;>rfl
def Kw{K:au}(k:Kd):PySem.W.kitOne K k.ty (.type "bool")=some (decide<|k=.bl):=by cases k<;>rfl
def kit_tuple{K:au}(k:Kd):PySem.W.kitOne K k.ty (.type "tuple")=some (decide<|k=.tup):=by cases k<;>rfl
def Mx{K:au}(k:Kd):PySem.W.kitOne K k.ty (.type "list")=some (decide<|k=.lst):=by cases k<;>rfl
def Bm:bootBuiltins "enumerate" = some (.type "enumerate"):=by decide +kernel
section
variable {prog:ah}{w:af}{A:az}{E:aa->aA->Prop}{s:aA}
def EZ(n:Nat):Builtin.Slice.sliceAdjust none none (-1) (n:Int)=((n:Int)-1,-1):=by
 unfold Builtin.Slice.sliceAdjust;rfl
def EL(n:Nat):Builtin.Slice.slicePlaces ((n:Int)-1) (-1) (-1)=n:=by
 unfold Builtin.Slice.slicePlaces;have h1:¬((-1:Int)>0):=by decide
 dsimp[h1,dS];by_cases h:n=0
 ·subst h;simp
 ·rw[aQ ()];rw[show(- -1:Int)=1 by decide,Int.ediv_one]
  lia
def xM{n:Nat}{Q:Int×Int×Nat->aA->Prop}(hs:s.heap.IsSliceOf sl .none .none<|.int (-1) t)
  (h:Q ((n:Int)-1,-1,n) s):wpAny (model prog w) A (Builtin.Slice.sliceApplied (.ref sl)<|pure (n:Int)) Q E s:=by
 obtain⟨os,d,g,f⟩:=id hs;unfold Builtin.Slice.sliceApplied Builtin.Slice.sliceFields;refine aG<|aG<|d7 d f (x:=.none) rfl<|aG<|d7 d f (x:=.none) rfl<|aG<|d7 d f (x:=.int (-1) t) rfl<|aL ?_;refine aG (slicePart_int ?_)
 skip
 rw[aO ⋯];refine aG<|slicePart_none<|aG<|slicePart_none<|aG<|aL ?_;show wpAny _ _ (match Builtin.Slice.sliceAdjust none none (-1) (n:Int)with|(lo,hi)=>pure (lo,(-1:Int),Builtin.Slice.slicePlaces lo hi<|-1)) _ _ s;rw[EZ n];show wpAny _ _ (pure ((n:Int)-1,(-1:Int),Builtin.Slice.slicePlaces ((n:Int)-1) (-1)<|-1)) _ _ s;rw[EL];exact aL h
def Lw(xs:Array aa):((List.range xs.size).filterMap λ(m:Nat)=>xs[((xs.size:Int)-1+(m:Int) * (-1)).toNat]?).toArray=xs.toList.reverse.toArray:=by
 have e:(λ(m:Nat)=>xs[((xs.size:Int)-1+(m:Int) * (-1)).toNat]?)=(λx=>xs[x]?) ∘ λk=>xs.size-1-k:=by
  funext m
  have:((xs.size:Int)-1+(m:Int) * (-1)).toNat=xs.size-1-m:=()
  show xs[((xs.size:Int)-1+(m:Int) * (-1)).toNat]?=xs[xs.size-1-m]?;rw[this]
 rw[e,<- gC,PySem.W.krv_range,List.filterMap_reverse,PySem.W.krv_all]
def wR{J:Array aa}{Q:aa->aA->Prop}(L:IsTup s.heap t J)(hs:s.heap.IsSliceOf sl .none .none<|.int (-1) tk)
  (h:Q (.ref s.heap.objs.size) { s with heap:=s.heap.push { cls:=.type "tuple",data:=.seq J.toList.reverse.toArray }})
  (U:J.size<=sizeLine):wpAny (model prog w) A (getItem (.ref t)<|.ref sl) Q E s:=by
 have d:sizeOk (.seq J.toList.reverse.toArray):=by
  show J.toList.reverse.toArray.size<=sizeLine;rw[aY,iQ,bJ];exact U
 obtain⟨os,g,k,p⟩:=id hs;have f:s.TypeIs (.ref sl) "slice" := ⟨os,g,k⟩;unfold getItem
 try with_reducible refine b_ ?_
 first|refine aG (aL ?_)|skip
 refine aG<|wpAny_sequenceKey L.typeIs ⋯ ?_;refine aG (dz (name:=Str.ofString "__getitem__") L.typeIs cP
  (c9 cP L.typeIs entry_tuple_getitem ?_<|args_tuple_getitem _ _))
 show wpAny _ _ (Builtin.Tuple.tupleItemsOf (.ref t) >>= _) _ _ s;refine aG<|tupleItemsOf_ L ?_;refine aG<|iS f ?_;rw[aQ ⋯];refine aG<|xM hs ?_;have j:¬((((J.size:Int)-1) == 0 && (-1:Int) == 1 && J.size == J.size)=true):=by
  intro q;rw[bE,bE]at q;exact absurd q.1.2 ⋯
 show wpAny _ _ (if (((J.size:Int)-1) == 0 && (-1:Int) == 1 && J.size == J.size)=true then _ else _) _ _ s;rw[aO j,Lw]
 first
  | exact aG (m:=Builtin.Tuple.tupleExact _) (bG (aL ⟨_,rfl,aL h⟩) d)
  | exact aG (m:=Builtin.Tuple.tupleExact _) (bG (aG<|aL<|aL ⟨_,rfl,aL h⟩) d)
  | exact aG (aG (m:=Builtin.Tuple.tupleExact _)<|bG (aL<|aL ⟨_,rfl,aL h⟩) d)
  | exact aG<|aG (m:=Builtin.Tuple.tupleExact _)<|bG (aL ⟨_,rfl,aL h⟩) d
end
section
variable {X:Cx}
abbrev WB (K:au)(te:TE):TE:=λσ H Q=>te σ H λx H1=>∃a xs,x=.ref a/\pJ K H1 a xs/\∀p,H1 p=none->Q (.ref p) (upd H1 p<|.tup xs.reverse)
def GN{te:TE}{U cp:Pos}(Z:PE X e te):PE X (.Subscript e (.Slice none none (some<|.UnaryOp .USub (.Constant (.int 1) kk cp) U) p2) pos) (WB X.K te):=by
 k_ne;refine Subscript_<|l_ (Z pins s σ H _ I h) λv k ⟨x,H1,m,r1,a,xs,ex,J,q⟩=>?_;subst ex
 cases r1
 refine wpAny_Slice ?_;rw[jh];refine aL ?_;refine aL ?_;rw[evalPart_some];refine l_ ((M9 (a:=.Constant (.int 1) kk cp) EW EA) pins k σ H1 (λv H'=>v=.int (-1)/\H'=H1) m ⟨1,rfl,rfl,rfl⟩) λvs s3 h9=>?_;obtain⟨y,H3,G,B,p,F⟩:=h9;subst p F;obtain⟨t,rfl⟩:=B;have d:Inv X pins σ H3 { s3 with heap:=s3.heap.push { cls:=.type "slice",data:=.fields #[.none,.none,.int (-1) t]}}:=G.kept (t':=s3.toks) λb L q=>aM _ q;obtain⟨f,g,pl,C⟩:=d.tuple J
 skip
 refine tail_any (ops:=[.ref a,.ref s3.heap.objs.size]) pl.typeIs cP.lookup ?_ (by with_unfolding_all rfl);have j:=g.length;refine wR pl (iW ..) ?_ (by rw[aY]<;>lia);refine⟨.ref _,_,d.laid (t':=s3.toks) (o:=.tup xs.reverse) (λb o e=>aM _ e) (aP _) ⟨by rw[iQ];exact C,f.reverse,g.reverse,?_⟩,rfl,q _ d.fresh⟩;exact oM.new _ _
end
abbrev Yq (x:Str):It:=⟨λi _=>i<x.cps.size,λi H v H'=>H'=H/\∃c,x.cps[i]?=some c/\v=.str ⟨#[c]⟩,λi _=>i=x.cps.size⟩
def Lc{P:ah}{w:af}{K:au}(x:Str)(t:Tok)(it:aj):Turn P w K tg (Yq x) [it] it (λi h=>h.IsStrIter it "str_ascii_iterator" x t i) where
 mem:=by simp
 obj:=λi h st b f=>by
  have e:b=it:=by simpa using f
  subst e;obtain⟨o,e,c,d⟩:=st;exact⟨o,e,λv z=>by rw[d]at z;cases z⟩
 keep:=λi h h' st k=>let⟨o,ho,r⟩:=st;⟨o,k it (by simp) o ho,r⟩
 item:=by
  x_go;subst hP hw hK;kd_p;have W:=Walks.strAscii (prog:=X.prog) (w:=X.w) (I.ok.hd hc) it x t;refine W.item i s _ _ hg st λv h' tk hv g j=>?_;obtain⟨c,u,m,rfl⟩:=hv;have p:Inv X pins σ H { s with heap:=h',toks:=tk }:=I.turned (λb o f e=>j b o (by simpa using f) e) f0 f1 f3 f4 f5;obtain⟨o,e,B,d⟩:=id g;exact⟨_,rfl,CN (s:={ s with heap:=h',toks:=tk }) e B d ⋯ ⟨.str ⟨#[c]⟩,H,p,⟨u,rfl⟩,⟨rfl,c,m,rfl⟩,g,λb f=>(hf b f).1⟩⟩
 done:=by
  x_go;subst hP hw hK;kd_p;have hg:i=x.cps.size:=hg;subst hg;have W:=Walks.strAscii (prog:=X.prog) (w:=X.w) (I.ok.hd hc) it x t;exact W.done s _ _ st λh' tk j=>⟨rfl,I.turned (λb o f e=>j b o (by simpa using f) e) f0 f1 f3 f4 f5⟩
 self:=λ_ _ _ _ _ st h=>wpAny_pyIter_striter_ascii st h
section
variable {X:Cx}{tg:aE}
abbrev X_ (tl:TE):TI:=λσ H R=>tl σ H λx H1=>∃y:Str,x=.str y/\y.cps.all (· < 128)=true/\R (Yq y) H1
def S_{tl:TE}(J:PE X l tl):PI X tg l (X_ tl):=by
 intro pins s σ H R I h;refine l_ (J pins s σ H _ I h) λv d h9=>?_;obtain⟨x,H1,I1,r1,g⟩:=h9;obtain⟨y,e,j,q⟩:=g;subst e;obtain⟨t,rfl⟩:=r1;refine wpAny_pyIter_ascii j ?_;refine⟨d.heap.objs.size,[d.heap.objs.size],_,_,H1,rfl,I1.kept (t':=d.toks) λb o e=>aM _ e,Lc y t _,⟨_,a_ _ rfl,rfl,rfl⟩,λb f=>?_,q⟩;have e:b=d.heap.objs.size:=by simpa using f
 subst e;exact I1.B6 (aP _)<|I1.hok.fresh<|aP _
theorem ve:∀(tk:Nat) (ys:ba),Vals (ys.map V.str) (strValues<|numbered tk ys)
 | _,[]=>.nil
 | tk,y::ys=>.cons ⟨tk,rfl⟩<|ve (tk+1) ys
def LC:C8 X "str.split" (λx xs H Q=>∃y z:Str,x=.str y/\xs=[.str z]/\(z.length == 0)=false/\y.length<=sizeLine/\(Txt.split y z).length<=sizeLine/\∀p,H p=none->Q (.ref p) (upd H p<|.lst<|(Txt.split y z).map V.str)):=by
 intro pins s σ H x xs v us Q I rx m h;obtain⟨y,z,rfl,rfl,k,hy,j,q⟩:=h;gn_on;obtain⟨w,rfl,g⟩:=vals1 m;obtain⟨u,rfl⟩:=g;have f:∀(d:Nat) (l:List<|Str×Tok),l.map (·.1)=Txt.split y z->Vals ((Txt.split y z).map V.str) (strValues l)->EP X pins σ Q (.ref s.heap.objs.size) { s with toks:=d,heap:=s.heap.push { cls:=.type "list",data:=.seq (strValues l).toArray }}:=λd l e r=>
  ⟨.ref s.heap.objs.size,_,I.laid (t':=d) (o:=.lst<|(Txt.split y z).map V.str) (λb B q=>aM _ q) (aP _) ⟨by rw[aK];exact j,_,_,r,a_ _ rfl⟩,rfl,q _<|I.hok.fresh<|aP _⟩
 cases h1:(decide (y.length<z.length) || decide (Builtin.Str.strKind y<Builtin.Str.strKind z))
 ·cases hf:(Builtin.Str.occurrences y z 0 y.length<|y.length+1).isEmpty
  ·have es:Txt.split y z=Builtin.Str.partsBetween y (Builtin.Str.occurrences y z 0 y.length<|y.length+1) z.length:=(aO<|iR h1).trans<|aO<|iR hf;refine gE F.slot_str_split (gD _ _ _) jd (iY _ _) (meets_str_split_sep y z t u h1 k hf hy<|by rw[<- es];exact j) ?_
   skip
   rw[strsFrom_eq];exact f _ (numbered s.toks _) ((numbered_texts _ _).trans es.symm)<|by rw[es];exact ve _ _
  ·have es:Txt.split y z=[y]:=(aO<|iR h1).trans<|aQ hf;exact gE F.slot_str_split (gD _ _ _) jd (iY _ _) (meets_str_split_not_found y z t u h1 k hf)<|f s.toks [(y,t)] es.symm<|by rw[es];exact .cons ⟨t,rfl⟩ .nil
 ·have es:Txt.split y z=[y]:=aQ h1;exact gE F.slot_str_split (gD _ _ _) jd (iY _ _) (meets_str_split_cannot_occur y z t u h1)<|f s.toks [(y,t)] es.symm<|by rw[es];exact .cons ⟨t,rfl⟩ .nil
def Ah:C8 X "str.startswith" (λx xs H Q=>∃y z:Str,x=.str y/\xs=[.str z]/\Q (.bl<|0+z.length<=y.length && Builtin.Str.subAt y z 0) H):=by
 intro pins s σ H x xs v us Q I rx f h;obtain⟨y,z,rfl,rfl,q⟩:=h;gn_on;obtain⟨w,rfl,d⟩:=vals1 f;obtain⟨u,rfl⟩:=d;exact gE F.slot_str_startswith (gD _ _ _) F.entry_str_startswith (F.args_str_startswith_2 _ _) (gives_str_startswith y z t u).meets ⟨.bl _,H,I,rfl,q⟩
def IC:kE X (.type "int") (λxs H Q=>∃(y:Str) (n:Int),xs=[.str y]/\y.length<=640/\PySem.intText? y=some n/\Q (.int n) H):=by
 intro pins s σ H xs us Q I f h;obtain⟨y,n,rfl,g,hn,q⟩:=h;obtain⟨w,rfl,d⟩:=vals1 f;obtain⟨u,rfl⟩:=d;exact PySem.W.KIN.call_text hn g ⟨.int n,H,I.tok _,⟨_,rfl⟩,q⟩
end
meta abbrev Jh:=ag×ag
abbrev QJ (x:ag):Int:=reduceHash<|Builtin.Tuple.tupleHashOf<|x.map hashInt
abbrev WM (k:Jh):Int:=reduceHash<|Builtin.Tuple.tupleHashOf [QJ k.1,QJ k.2]
abbrev Zt (x:(Jh×aj×aa)):DictEntry:=⟨WM x.1,.ref x.2.1,x.2.2⟩
abbrev X0 (a:aj)(xs:List<|Jh×aj×aa)(h:ak):Prop:=(a == sysModules)=false/\xs.length<=sizeLine/\∃o es ep,h.get? a=some o/\o.ExactDict/\o.data=.dict es ep/\es.toList=xs.map Zt/\(xs.map (·.1)).Nodup
abbrev CD (H:Hp)(b:aj)(k:Jh):Prop:=∃r1 r2,H b=some (.tup [.ref r1,.ref r2])/\H r1=some (.tup<|k.1.map V.int)/\H r2=some (.tup<|k.2.map V.int)
abbrev C0 (e:aj)(h:ak):Prop:=∃o vs,h.get? e=some o/\o.data=.fields vs/\vs[2]?=some .none/\o.dict=none
abbrev ku (e:aj){α:Type}(m:Sem α):Prop:=∀(M:Model) (d:PySem.Ctx) (Q:α->Pos->aA->Prop) (E:aa->Pos->aA->Prop) (p:Pos) (s:aA),Sem.wp M d m Q E p s->C0 e s.heap->Sem.wp M d m (λa p s=>Q a p s/\C0 e s.heap) (λv p s=>E v p s/\C0 e s.heap) p s
section
variable {e:aj}{α β:Type}
def ku.bind{m:Sem α}{f:α->Sem β}(h1:ku e m)(j:∀a,ku e<|f a):ku e (m >>= f):=by
 intro M d Q E p s h c;rw[Sem.wp_bind']at h ⊢;exact Sem.wp_mono M d m (λa g s' z=>j a M d Q E g s' z.1 z.2) (λ_ _ _ z=>z) p s<|h1 M d _ _ p s h c
theorem ku.pure(a:α):ku e (pure a:Sem α):=λM d Q E p s h c=>by rw[Sem.wp_pure']at h ⊢;exact⟨h,c⟩
def ku.Ld(w:String):ku e (PySem.unsupported w:Sem α):=λM d Q E p s h c=>by
 have h:Sem.wp M d (.unsupported w:Sem α) Q E p s:=h;rw[Sem.wp_unsupported]at h;exact h.elim
def ku.load(a:aj):ku e (PySem.load a):=λM d Q E p s h c=>by
 have h:Sem.wp M d (.load a none .pure) Q E p s:=h;show Sem.wp M d (.load a none .pure) _ _ p s;rw[Sem.wp_load]at h ⊢;obtain⟨o,f,h⟩:=h;rw[iF]at h;exact⟨o,f,by rw[iF];exact⟨h,c⟩⟩
def C0.update{h:ak}{a:aj}{f:Obj->Obj}(c:C0 e h)(hf:∀o vs,o.data=.fields vs->vs[2]?=some .none->∃ws,(f o).data=.fields ws/\ws[2]?=some .none/\(f o).dict=o.dict):C0 e (h.update a f):=by
 obtain⟨o,vs,h1,d,j,g⟩:=c;by_cases z:a=e
 ·subst z;obtain⟨ws,k,p,m⟩:=hf o vs d j;exact⟨f o,ws,bX f h1<|di k,k,p,m.trans g⟩
 ·exact⟨o,vs,by rw[cB _ _ z];exact h1,d,j,g⟩
def ku.update(a:aj)(f:Obj->Obj)(hf:∀o vs,o.data=.fields vs->vs[2]?=some .none->∃ws,(f o).data=.fields ws/\ws[2]?=some .none/\(f o).dict=o.dict):ku e (PySem.update a f):=λM d Q E p s h c=>by
 have h:Sem.wp M d (.update a none f .pure) Q E p s:=h;show Sem.wp M d (.update a none f .pure) _ _ p s;rw[Sem.wp_update]at h ⊢;obtain⟨g,h⟩:=h;rw[iF]at h;exact⟨g,by rw[iF];exact⟨h,c.update hf⟩⟩
def ku.alloc(o:Obj):ku e (PySem.alloc o):=λM d Q E p s h c=>by
 have h:Sem.wp M d (.alloc o .pure) Q E p s:=h;show Sem.wp M d (.alloc o .pure) _ _ p s;rw[Sem.wp_alloc,iF]at h ⊢;obtain⟨g,vs,h1,f,k,j⟩:=c;exact⟨h,g,vs,aM _ h1,f,k,j⟩
def ku.stack:ku e PySem.stack:=λM d Q E p s h c=>by
 have h:Sem.wp M d (.stack .pure) Q E p s:=h;show Sem.wp M d (.stack .pure) _ _ p s;rw[Sem.wp_stack,iF]at h ⊢;exact⟨h,c⟩
def ku.ite{c:Prop}[Decidable c]{a b:Sem α}(h1:ku e a)(j:ku e b):ku e (if c then a else b):=by
 split
 ·exact h1
 ·exact j
def ku.field(v:aa)(i:Nat):ku e (PySem.field v i):=by
 unfold PySem.field PySem.fieldsOf;refine ku.bind ?_ λvs=>?_
 ·split
  ·refine ku.bind (ku.load _) λo=>?_;split
   ·exact ku.pure _
   ·exact ku.Ld _
  ·exact ku.Ld _
 ·split
  ·exact ku.pure _
  ·exact ku.Ld _
def ku.setField(v x:aa)(i:Nat)(hi:i≠2):ku e (PySem.setField v i x):=by
 unfold PySem.setField PySem.updateField;split
 ·refine ku.bind (ku.load _) λo=>?_;split
  ·refine ku.ite (ku.update _ _ λo vs h1 d=>⟨_,b6 h1 _,?_,?_⟩) (ku.Ld _)
   ·rw[Array.getElem?_setIfInBounds_ne hi];exact d
   ·unfold Obj.mapFields;split<;>rfl
  ·exact ku.Ld _
 ·exact ku.Ld _
def ku.frameEnvs:ku e PySem.frameEnvs:=by
 unfold PySem.frameEnvs;exact ku.bind ku.stack λ_=>ku.pure _
def ku.behind(env:Env)(outer:List Env):ku e (behindIsImport env outer):=by
 unfold behindIsImport;refine ku.ite (ku.pure _)<|ku.ite (ku.pure _)<|ku.bind (ku.field _ _) λ_=>ku.pure _
def ku.under:ku e underTheClaimsCaller:=by
 unfold underTheClaimsCaller;exact ku.bind ku.stack λ_=>ku.pure _
def ku.kept(env:Env)(b:Bool)(l:List Env):ku e (keptBack env b l):=by
 unfold keptBack;split
 ·refine ku.ite (ku.pure _) (ku.bind ku.under λ_=>ku.pure _)
 ·exact ku.pure _
theorem ku.ready:∀(l:List Env),ku e (readyFrames l)
 | []=>ku.pure _
 | env::outer=>by
  unfold readyFrames;split
  ·refine ku.bind (ku.load _) λo=>?_;refine ku.ite (ku.pure _) ?_;refine ku.bind (ku.behind _ _) λ_=>ku.bind (ku.kept _ _ _) λ_=>ku.bind (ku.update _ _ λo vs h1 d=>⟨vs,h1,d,rfl⟩) λ_=>ku.ready outer
  ·exact ku.Ld _
def ku.frameOf(env:Env):ku e (PySem.frameOf env):=by
 unfold PySem.frameOf;refine ku.bind ku.frameEnvs λl=>ku.bind ?_ λ_=>?_
 ·unfold frameObject;split
  ·exact ku.pure _
  ·exact ku.bind (ku.ready _) λ_=>ku.pure _
 ·split
  ·exact ku.pure _
  ·exact ku.Ld _
def ku.place(f:aj)(b:Bool):ku e (entryPlaceOf f b):=by
 unfold entryPlaceOf;refine ku.bind ku.stack λ_=>?_;split
 ·exact ku.pure _
 ·exact ku.pure _
def ku.entry(a b c d f:aa)(l:be):ku e (EntryCells.newEntry a b c d f l):=by
 unfold EntryCells.newEntry newFields newObj
 repeat (first|exact ku.pure _|exact ku.Ld _|refine ku.bind (ku.alloc _) λ_=>?_|refine ku.bind (ku.Ld _) λ_=>?_|refine ku.ite ?_ ?_|(refine ku.bind ?_ λ_=>?_))
def ku.flight(v:aa)(f:Option aj):ku e (setFlight v f):=by
 unfold setFlight;refine ku.bind (ku.field _ _) λ_=>ku.ite (ku.setField _ _ _ ⋯)<|ku.pure _
def ku.note(v:aa)(env:Env):ku e (noteFrame v env):=by
 unfold noteFrame;split
 ·refine ku.bind (ku.field _ _) λh=>ku.ite ?_ ?_
  ·refine ku.bind (ku.field _ _) λ_=>ku.ite (ku.pure _) ?_;refine ku.bind (ku.setField _ _ _ ⋯) λ_=>ku.bind (ku.frameOf _) λ_=>ku.bind (ku.place _ _) λ_=>ku.bind (ku.entry _ _ _ _ _ _) λ_=>ku.setField _ _ _ ⋯
  ·refine ku.bind (ku.frameOf _) λ_=>ku.bind (ku.place _ _) λ_=>ku.bind (ku.entry _ _ _ _ _ _) λ_=>ku.setField _ _ _ ⋯
 ·exact ku.Ld _
def ku.leave(v:aa)(env:Env):ku e (leaving env v):=by
 unfold leaving;exact ku.bind (ku.note _ _) λ_=>ku.flight _ _
def ku.any{m:Sem α}{A:az}{Q:α->aA->Prop}{E:aa->aA->Prop}{s:aA}(k:ku e m)(h:wpAny M A m Q E s)(c:C0 e s.heap):wpAny M A m (λa s'=>Q a s'/\C0 e s'.heap) (λv s'=>E v s'/\C0 e s'.heap) s:=
 λf p d=>k M f _ _ p s (h f p d) c
end
def nB.here{P:ah}{w:af}{H:Hp}{h:ak}{a:aj}(x:nB P w H h a o):∃ob,h.get? a=some ob:=by
 cases o with
 | lst xs=>obtain⟨_,_,_,_,e⟩:=x;exact⟨_,e⟩
 | tup xs=>obtain⟨_,_,_,p⟩:=x;obtain⟨o,e,_⟩:=p;exact⟨_,e⟩
 | dK d=>obtain⟨_,_,_,_,o,_,_,e,_⟩:=x;exact⟨_,e⟩
 | dT d=>obtain⟨_,_,_,_,o,_,_,e,_⟩:=x;exact⟨_,e⟩
 | set S n=>obtain⟨o,_,_,_,e,_⟩:=x;exact⟨_,e⟩
 | ins C dx fs=>obtain⟨_,_,_,e,_⟩:=x;exact⟨_,e⟩
 | own y=>exact x
 | xd fs=>obtain⟨_,⟨_,_,_,e,_⟩,_⟩:=x;exact⟨_,e⟩
 | rng lo hi=>obtain⟨_,_,_,e⟩:=x;exact⟨_,e⟩
 | frz ob u=>obtain⟨e,_⟩:=x;exact⟨_,e⟩
 | tbl ps=>exact⟨_,(show h.get? a=some _ from x)⟩
 | met f y=>exact⟨_,(show h.get? a=some _ from x)⟩
 | ext g=>obtain⟨_,⟨o,e⟩,_⟩:=x;exact⟨_,e⟩
structure Fly (l:List Env)(xs:bi)(g:ak)(pn:bv)(H:Hp)(e:aj)(cls:aa)(h:ak):Prop where
 ex:∃(B:ak) (a0:aa),Heap.FlyingW B l e cls a0 h/\(∀a u,H a=some u->∃o,B.get? a=some o)/\(∀b o,g.get? b=some o->b∉frs l->b∉xs->∃o',B.get? b=some o')/\(∀p∈pn,∃o',B.get? p.1=some o')/\C0 e h
structure Made (X:Cx)(H:Hp)(e:aj)(cls:aa)(g:ak)(h:ak):Prop where
 ex:∃(g':ak) (vs:be),Heap.MadeExcOf g' h e cls vs/\g'.FunFrames X.base X.stack/\(∀a u,H a=some u->∃o,g'.get? a=some o)/\(∀b o,g.get? b=some o->b∉X.ex->∃o',g'.get? b=some o')/\(∀p∈X.pn,∃o',g'.get? p.1=some o')
def BJ{g:ak}{cls:aa}(M:Heap.MadeExcOf g h e cls vs):C0 e h:=by
 obtain⟨t,d,_⟩:=M.there;exact⟨_,_,d,rfl,rfl,rfl⟩
structure Held (X:Cx)(H:Hp)(e:aj)(cls:aa)(h:ak):Prop where
 ex:∃(B:ak) (a0:aa) (L:aj),X.env.frame=some L/\Heap.HeldW B X.stack e cls a0 L h/\(∀a u,H a=some u->∃o,B.get? a=some o)/\(∀b o,X.s₀.heap.get? b=some o->b∉frs X.stack->b∉X.ex->∃o',B.get? b=some o')/\(∀p∈X.pn,∃o',B.get? p.1=some o')/\C0 e h
abbrev vJ (X:Cx)(H:Hp)(e:aj)(cls:aa)(s':aA):Prop:=Made X H e cls X.s₀.heap s'.heap\/Fly X.stack X.ex X.s₀.heap X.pn H e cls s'.heap\/Held X H e cls s'.heap
section
variable {X:Cx}{pins:bv}{σ:L2.St}{H:Hp}{s':aA}{e:aj}{cls:aa}
def wZ(I:Inv X pins σ H s')(J:X.ex=[]){B:ak}(k1:B.StaysIn s'.heap)(k2:B.StaysIn h')(L:s'.heap.UpToSlots h')(c1:∀a u,H a=some u->∃o,B.get? a=some o)(c2:∀b o,X.s₀.heap.get? b=some o->b∉X.fs->∃o',B.get? b=some o') :
  Un X.fs [] X.H₀ H X.s₀.heap h'/\w9 X.prog X.w H h':=by
 have nx:∀b:aj,b∉X.ex:=λb z=>by rw[J]at z;cases z
 have g:∀b o o',B.get? b=some o'->s'.heap.get? b=some o->h'.get? b=some o:=λb o o' f es=>by
  have:=k1 b o' f;rw[es]at this;cases this;exact k2 b o f
 have slot:∀b o,X.s₀.heap.get? b=some o->X.H₀ b=none->b∈X.fs->∃k,h'.get? b=some { o with slots:=k }:=λb o q n d=>by
  obtain⟨k,e1⟩:=I.base.slot b o q n d<|nx b;obtain⟨_,F,m,C⟩:=I.ok.uf.mem d;rw[q]at m;cases m;obtain⟨j,e2⟩:=L b _ e1 C;exact⟨j,e2⟩
 refine⟨⟨λb o q n d _=>?_,λb o q n d _=>slot b o q n d,λb o q n _=>I.base.free b o q n<|nx b,λb o q _=>?_,I.base.tups,I.base.frzs,I.base.tbls⟩,λa u p=>?_⟩
 ·obtain⟨o',f⟩:=c2 b o q d;exact g b o o' f (I.base.keep b o q n d<|nx b)
 ·by_cases d:b∈X.fs
  ·obtain⟨k,z⟩:=slot b o q (I.ok.frf b d) d;exact⟨_,z⟩
  ·obtain⟨o',f⟩:=c2 b o q d;exact⟨o',k2 b o' f⟩
 ·refine(I.hok a u p).stay (λb v d q=>?_) (λ_ q=>q) λ_ _ q=>q
  rcases d with z|z
  ·subst z;obtain⟨o',f⟩:=c1 _ u p;exact g _ v o' f q
  ·obtain⟨o',f⟩:=c1 b _ z;exact g b v o' f q
def ER(I:Inv X pins σ H s')(hst:X.stack=X.env::X.outer)(hf:X.env.frame=some X.env.locals)(hex:X.ex=[])(R:vJ X H e cls s'){Q:aA->Prop}{E:aa->aA->Prop}
  (hQ:∀h',Un X.fs [] X.H₀ H X.s₀.heap h'->w9 X.prog X.w H h'->Fly X.outer [] X.s₀.heap [] H e cls h'->Q { s' with heap:=h' }):wpAny (model X.prog X.w) X.A (leaving X.env<|.ref e) (λ_ s''=>Q s'') E s':=by
 have m:X.A.frames=some (X.env::X.outer):=by rw[<- hst];exact I.ok.frames
 have N:∀b o,X.s₀.heap.get? b=some o->b∉X.fs->b∉frs (X.env::X.outer):=λb o q d z=>by
  unfold frs at z;rw[eT,hf]at z
  rcases bf.mp z with z|z
  ·rw[z]at q;exact absurd (bD (aW q) I.ok.above) (e_ _)
  ·exact d z
 have nx:∀b:aj,b∉X.ex:=λb z=>by rw[hex]at z;cases z
 rcases R with⟨g',vs,M,C,P,V,_⟩|⟨B,a0,F,c1,c2,_,k0⟩|⟨B,a0,L,O,F,c1,c2,_,k0⟩
 ·
  rw[hst]at C;have K:∀env∈(X.env::X.outer),∀b,env.frame=some b->b∈frs (X.env::X.outer):=λenv U b d=>fm.mpr ⟨env,U,d⟩;refine cS (ku.any (e:=e) (ku.leave _ _) (wpAny_leaves_madeW (Q:=λ_ s''=>∃h' t,s''={ s' with heap:=h' }/\Heap.FlyingW (PySem.W.hideAll g'<|frs (X.env::X.outer)) X.outer e cls (.ref t) h'/\s'.heap.UpToSlots h') (E:=λ_ _=>False) (base:=PySem.W.hideAll g'<|frs (X.env::X.outer)) m hf (λb o q=>dD _ q) (gQ C K) M λh' t f x2 x3 k=>⟨h',t,rfl,f,k⟩)<|BJ M) (λ_ s'' z=>?_) λ_ _ z=>z.1.elim;obtain⟨⟨h',t,rfl,f,k⟩,k0⟩:=z;kl_no;have c1:∀a u,H a=some u->∃o,(PySem.W.hideAll g'<|frs (X.env::X.outer)).get? a=some o:=λa u G=>by
   obtain⟨o,q⟩:=P a u G;refine⟨o,c_ _ q λz=>?_⟩;rw[<- hst]at z;rw[I.u9 a z]at G;cases G
  have c2:∀b o,X.s₀.heap.get? b=some o->b∉X.fs->∃o',(PySem.W.hideAll g'<|frs (X.env::X.outer)).get? b=some o':=λb o q d=>by
   obtain⟨o',q'⟩:=V b o q<|nx b;exact⟨o',c_ _ q'<|N b o q d⟩
  obtain⟨un,g⟩:=wZ I hex k1 f.1 k c1 c2;exact hQ h' un g ⟨_,_,f,c1,λb o q d _=>c2 b o q d,λp hp=>absurd hp<|by simp,k0⟩
 ·rw[hst]at F c2;refine cS (ku.any (e:=e) (ku.leave _ _) (wpAny_leaves_onW (Q:=λ_ s''=>∃h',s''={ s' with heap:=h' }/\Heap.FlyingW B X.outer e cls a0 h'/\s'.heap.UpToSlots h') (E:=λ_ _=>False) m hf F λh' f k=>⟨h',rfl,f,k⟩) k0) (λ_ s'' z=>?_) λ_ _ z=>z.1.elim;obtain⟨⟨h',rfl,f,k⟩,k0'⟩:=z;have j:∀b o,X.s₀.heap.get? b=some o->b∉X.fs->∃o',B.get? b=some o':=λb o q d=>c2 b o q (N b o q d)<|nx b;obtain⟨un,g⟩:=wZ I hex F.1 f.1 k c1 j;exact hQ h' un g ⟨_,_,f,c1,λb o q d _=>j b o q d,λp hp=>absurd hp<|by simp,k0'⟩
 ·rw[hst]at F c2;rw[hf]at O
  cases O
  have Y:wpAny (model X.prog X.w) X.A (leaving X.env<|.ref e) (λ_ s''=>∃h',s''={ s' with heap:=h' }/\Heap.FlyingW B X.outer e cls a0 h'/\s'.heap.UpToSlots h') (λ_ _=>False) s':=by
   unfold leaving;refine aG<|gR hf F.2.2.2 ?_;refine wpAny_landsW F λh' J Z=>?_;obtain⟨k1,k2,⟨_,_,k3⟩,T⟩:=J;exact⟨h',rfl,⟨k1,k2,k3,T⟩,Z⟩
  refine cS (ku.any (e:=e) (ku.leave _ _) Y k0) (λ_ s'' z=>?_) λ_ _ z=>z.1.elim;obtain⟨⟨h',rfl,f,k⟩,k0'⟩:=z;have j:∀b o,X.s₀.heap.get? b=some o->b∉X.fs->∃o',B.get? b=some o':=λb o q d=>c2 b o q (N b o q d)<|nx b;obtain⟨un,g⟩:=wZ I hex F.1 f.1 k c1 j;exact hQ h' un g ⟨_,_,f,c1,λb o q d _=>j b o q d,λp hp=>absurd hp<|by simp,k0'⟩
end
abbrev Bw (P:ah)(w:af):JF:=λouter H s E e d=>∃f cls H',e=.ref f/\d.os=s.os/\AllBare d.gens/\Un (frs outer) [] H H' s.heap d.heap/\w9 P w H' d.heap/\Fly outer [] s.heap [] H' f cls d.heap/\E cls none H'
section
variable {P:ah}{w:af}{K:au}{mg:Str->bj}{base:ak}{N:ba}{qual:Str}{scope:Scope}{f:aj}{cd:aa}{A:az}{outer:List Env}{s:aA}{H:Hp}{E:XK}
def II{H':Hp}{cls:aa}(I:Inv (yC (Bw P w) P w K mg base N qual scope f cd A outer s H E) pins σ' H' s')
  (hf:(envOfC qual scope s.heap.objs.size f cd).frame=some (envOfC qual scope s.heap.objs.size f cd).locals)
  (R:vJ (yC (Bw P w) P w K mg base N qual scope f cd A outer s H E) H' ea cls s') (J:E cls none H'):(yC (Bw P w) P w K mg base N qual scope f cd A outer s H E).xe (.ref ea) s':=by
 refine ER I rfl hf rfl R (Q:=λg=>Bw P w outer H s E (.ref ea) g) λh' un d j=>?_;exact⟨ea,cls,H',rfl,I.os,I.bare,un,d,j,J⟩
abbrev EX (X:Cx):XK:=λcls _ H'=>∀pins d s' e,Inv X pins d H' s'->vJ X H' e cls s'->X.xe (.ref e) s'
def JZ{X:Cx}(hP:X.prog=P)(hw:X.w=w):Passes (Bw P w) X (EX X):=by
 intro pins σ H s e s' I ⟨G,cls,H',J,os,f,un,k,⟨B,a0,F,c1,c2,_,k0⟩,N⟩;subst J hP hw;obtain⟨C,g,d,t,j⟩:=s';obtain rfl:j=s.os:=os;refine N pins σ _ G (I.call (h':=C) (g':=g) (d':=d) (t':=t) (ch:=[]) un k f λb z=>absurd z<|by simp) (.inr<|.inl ⟨B,a0,F,c1,λb o q m K=>?_,λp hp=>?_,k0⟩)
 ·obtain⟨o',q'⟩:=I.base.there b o q K;exact c2 b o' q' m (by simp)
 ·obtain⟨q,_,L,O,_⟩:=I.pin p<|cC _ hp;exact c2 p.1 _ q (λz=>(bf.mp<|I.vA _ z).elim L O)<|by simp
abbrev UC (X:Cx)(C:aj)(t:TA):TS:=λ_ σ H=>t σ H λvs H'=>vs.length<=sizeLine/\EX X (.ref C) none H'
def LR{X:Cx}{x:Str}{C:aj}{t:TA}(O:OwnCls x C bmB newId X.mg X.base)(U:ExcBaseFacts B newId initId bmB)(hh:X.A.handled=none)(Z:PA X (e::es) t)(hg:Gl X x<|>ε)
  (hs:starEach (e::es) X.env=(false,eval e X.env)::starEach es X.env<|>ε) (L:((backTo cpos<|starEach es X.env).any (·.1)=false)<|>ε) (hd:(x == ("__debug__" : Str))=false<|>δ) :
  PS X (.Raise (some<|.Call (.Name x np) (e::es) [] cpos) none pos) (UC X C t):=by
 kst_p;obtain⟨tl,N,nm,q,bs,hdct,sn,sub,ab,col,dd,k0,k1,k2,k3,k5,mN,J,F,f,T⟩:=O.obj;refine wpAny_Raise_call_subU (C:=C) (nm:=nm) (q:=q) (N:=N) (bs:=bs) (bm:=tl) (hdct:=hdct) (sn:=sn) (sub:=sub) (ab:=ab) (col:=col) (dd:=dd) (k0:=k0) (k1:=k1) (k2:=k2) (k3:=k3) (k5:=k5)
  U U.hasB U (mN:=mN) (T.hasType U.hasBase) hh (by rw[hs];show(false || (backTo cpos<|starEach es X.env).any (·.1))=false;rw[L];rfl) f (wg I hg O.bound ⟨rfl,?_⟩ hd)
 have j:=Z cpos pins s σ H _ I h;rw[hs]at j ⊢;refine Calls.evalArgs_plain<|l_ j λus s2 ⟨vs,H2,d,r2,m,k⟩=>?_;refine⟨rfl,by rw[<- r2.length];exact m,d.bk _ _ J,F.keeps d.bk,T.keeps d.bk,λh' g M=>?_⟩;refine k pins σ { s2 with heap:=h' } g ?_ (.inl ⟨s2.heap,us,M,d.stack,λa u g=>?_,λb o q G=>?_,λp hp=>⟨_,(d.pin p<|cC _ hp).1⟩⟩)
 ·exact d.kept (t':=s2.toks) M.keeps
 ·exact(d.hok a u g).here
 ·exact d.base.there b o q G
end
inductive FParts (X:Cx):List aE->List (Str ⊕ TE)->Prop
 | nil:FParts X [] []
 | txt {x:Str} {j pos} {es:List aE} {ps:List<|Str ⊕ TE} (h:FParts X es ps):FParts X (.Constant (.str x) j pos::es) (.inl x::ps)
 | val {e:aE} {pos:Pos} {t:TE} {es:List aE} {ps:List<|Str ⊕ TE} (he:PE X e t) (h:FParts X es ps):FParts X (.FormattedValue e (-1) none pos::es) (.inr t::ps)
abbrev Cx.sW (X:Cx)(pn':bv)(xe':aa->aA->Prop):Cx:={ X with xe:=xe',pn:=pn' }
abbrev xu:HO:=.ext λ_=>True
abbrev Cx.hand (X:Cx)(pn':bv)(e:aj)(oe:Obj):Cx:={ X with A:=X.A.mark<|some<|.ref e,calm:=false,xe:=λ_ _=>False,pn:=pn',H₀:=upd X.H₀ e<|.frz oe xu}
structure XO (C:aj)(o:Obj):Prop where
 cls:o.cls=.ref C
 dict:o.dict=none
 ctx:∃vs,o.data=.fields vs/\vs[2]?=some .none
structure Fr0 (X:Cx)(e:aj):Prop where
 no:∀o,X.s₀.heap.get? e≠some o
 tup:∀xs,X.H₀ e≠some (.tup xs)
 frz:∀o u,X.H₀ e≠some (.frz o u)
 tbl:∀ps,X.H₀ e≠some (.tbl ps)
section
variable {X:Cx}{pins:bv}{σ:L2.St}{H:Hp}{s':aA}{e:aj}{cls:aa}
def IT(I:Inv X pins σ H s')(hst:X.stack=X.env::X.outer)(hf:X.env.frame=some X.env.locals)(hex:X.ex=[])(R:vJ X H e cls s'){Q:Unit->aA->Prop}{E:aa->aA->Prop}
  (hQ:∀h' B a0,Heap.HeldW B (X.env::X.outer) e cls a0 X.env.locals h'->B.StaysIn s'.heap->s'.heap.UpToSlots h'->(∀a u,H a=some u->∃o,B.get? a=some o)->(∀b o,X.s₀.heap.get? b=some o->b∉X.fs->∃o',B.get? b=some o')->(∀p∈X.pn,∃o',B.get? p.1=some o')->C0 e h'->Q Unit.unit { s' with heap:=h' }) :
  wpAny (model X.prog X.w) X.A (noteFrame (.ref e) X.env) Q E s':=by
 have k:X.A.frames=some (X.env::X.outer):=by rw[<- hst];exact I.ok.frames
 have K:∀b o,X.s₀.heap.get? b=some o->b∉X.fs->b∉frs (X.env::X.outer):=λb o q d z=>by
  unfold frs at z;rw[eT,hf]at z
  rcases bf.mp z with z|z
  ·rw[z]at q;exact absurd (bD (aW q) I.ok.above) (e_ _)
  ·exact d z
 have nx:∀b:aj,b∉X.ex:=λb z=>by rw[hex]at z;cases z
 rcases R with⟨g',vs,M,m,U,m2,Z⟩|⟨B,a0,F,c1,c2,c3,k0⟩|⟨B,a0,L,N,F,c1,c2,c3,k0⟩
 ·rw[hst]at m;have J:∀env∈(X.env::X.outer),∀b,env.frame=some b->b∈frs (X.env::X.outer):=λenv C b d=>fm.mpr ⟨env,C,d⟩;have Y:=gQ m J;obtain⟨t,C,V,ht⟩:=M.there;have O:(PySem.W.hideAll g'<|frs (X.env::X.outer)).get? e=none:=by
   cases hq:(PySem.W.hideAll g'<|frs (X.env::X.outer)).get? e with
   | none=>rfl
   | some o'=>have:=dD _ hq;rw[M.new]at this;cases this
  kl_no;have go:wpAny (model X.prog X.w) X.A (noteFrame (.ref e) X.env) (λ_ f=>∃h',f={ s' with heap:=h' }/\Heap.HeldW (PySem.W.hideAll g'<|frs (X.env::X.outer)) (X.env::X.outer) e cls (.ref t) X.env.locals h'/\s'.heap.UpToSlots h') (λ_ _=>False) s':=by
   unfold noteFrame;dsimp[hf];refine aG<|d7 C rfl (x:=.none) rfl ?_;rw[aO ⋯];refine wpAny_entryW (base:=PySem.W.hideAll g'<|frs (X.env::X.outer)) (a0:=.ref t) k (Y.of_keeps λb o d _=>⟨o,M.keeps b o d,rfl⟩) hf C k1 O rfl (by simp) rfl λh' hL=>?_;obtain⟨g,P,T,j⟩:=hL;exact⟨h',rfl,⟨g,O,P,T⟩,j⟩
  refine cS (ku.any (e:=e) (ku.note _ _) go<|BJ M) (λ_ f z=>?_) λ_ _ z=>z.1.elim;obtain⟨⟨h',rfl,g,j⟩,k0⟩:=z;refine hQ h' _ _ g k1 j (λa u G=>?_) (λb o q d=>?_) (λp hp=>?_) k0
  ·obtain⟨o,q⟩:=U a u G;refine⟨o,c_ _ q λz=>?_⟩;rw[<- hst]at z;rw[I.u9 a z]at G;cases G
  ·obtain⟨o',q'⟩:=m2 b o q<|nx b;exact⟨o',c_ _ q'<|K b o q d⟩
  ·obtain⟨o',q'⟩:=Z p hp;obtain⟨q,_,n1,n2,_⟩:=I.pin p<|cC _ hp;refine⟨o',c_ _ q' λz=>?_⟩;rw[<- hst]at z;exact(bf.mp<|I.vA _ z).elim n1 n2
 ·rw[hst]at F c2;refine cS (ku.any (e:=e) (ku.note _ _) (wpAny_looks_onW (Q:=λ_ f=>∃h',f={ s' with heap:=h' }/\Heap.HeldW B (X.env::X.outer) e cls a0 X.env.locals h'/\s'.heap.UpToSlots h') (E:=λ_ _=>False) k hf F λh' g j=>⟨h',rfl,g,j⟩) k0) (λ_ f z=>?_) λ_ _ z=>z.1.elim;obtain⟨⟨h',rfl,g,j⟩,k0'⟩:=z;exact hQ h' B a0 g F.1 j c1 (λb o q d=>c2 b o q (K b o q d)<|nx b) c3 k0'
 ·rw[hst]at F c2;rw[hf]at N
  cases N
  refine gR hf F.2.2.2 ?_;exact hQ s'.heap B a0 F F.1 (Heap.UpToSlots.refl _) c1 (λb o q d=>c2 b o q (K b o q d)<|nx b) c3 k0
end
section
variable {X:Cx}{pn' pins:bv}{xe':aa->aA->Prop}{σ:L2.St}{H:Hp}{s':aA}{e C:aj}{B h6:ak}{a0:aa}
def Be(I:Inv (X.sW pn' xe') pins σ H s')(hex:X.ex=[])(F:Heap.FlyingW B (X.env::X.outer) e (.ref C) a0 h6)(k1:B.StaysIn s'.heap)(up:s'.heap.UpToSlots h6)
  (c1:∀a u,H a=some u->∃o,B.get? a=some o) (c2:∀b o,X.s₀.heap.get? b=some o->b∉X.fs->∃o',B.get? b=some o') (c3:∀p∈pn',∃o',B.get? p.1=some o') (k0:C0 e h6) :
  Fr0 X e/\H e=none/\∃oe,XO C oe/\Inv (X.hand pn' e oe) [] σ (upd H e<|.frz oe xu) { s' with heap:=h6 }:=by
 obtain⟨un,Z⟩:=wZ I hex k1 F.1 up c1 c2;have hn:H e=none:=by
  cases q:H e with
  | none=>rfl
  | some u=>obtain⟨o,z⟩:=c1 e u q;rw[F.2.1]at z;cases z
 obtain⟨g,vs0,N,L,g3,g5⟩:=k0;have ns:∀o,X.s₀.heap.get? e≠some o:=λo q=>by
  by_cases f:e∈X.fs
  ·obtain⟨_,o2,j,d2⟩:=I.ok.uf.mem f;have j:X.s₀.heap.get? e=some o2:=j;rw[q]at j;cases j;obtain⟨sl,z⟩:=un.slot e o q (I.ok.frf e f) f (by simp);rw[N]at z;have z:g=_:=aU z;rw[z]at L;exact d2 _ L
  ·obtain⟨o',z⟩:=c2 e o q f;rw[F.2.1]at z;cases z
 have G:∀(b:aj) (U:Obj),s'.heap.get? b=some U->(∀vs,U.data≠.fields vs)->b≠e:=λb U q d z=>by
  obtain⟨sl,V⟩:=up b U q d;rw[z,N]at V;have V:g=_:=aU V;rw[V]at L;exact d _ L
 obtain⟨m,hm,hl⟩:=id I.loc;have K:s'.heap.Ns X.env.locals m:=hm;have J:∀c v,s'.heap.IsCell c v->h6.IsCell c v:=λc v h9=>by
  obtain⟨Y,q,d⟩:=h9;obtain⟨sl,z⟩:=up c Y q λvs y=>by rw[d]at y;cases y
  exact⟨_,z,d⟩
 have lne:X.env.locals≠e:=by
  obtain⟨oL,es,ep,q,d,_⟩:=id K;exact G _ oL q λvs y=>by rw[d]at y;cases y
 have xo:XO C g:=by
  obtain⟨_,_,_,oe,vs,T,oT,ts,O,⟨hc,_⟩,hd,_⟩:=F;rw[N]at O;have O:g=oe:=aU O;subst O;exact⟨hc,g5,vs0,L,g3⟩
 have no:∀u,H e≠some u:=λu q=>by rw[hn]at q;cases q
 have fr:Fr0 X e:=⟨ns,λxs q=>no _<|un.tups e xs q,λo u q=>no _<|un.frzs e o u q,λps q=>let⟨_,z⟩:=un.tbls e ps q;no _ z⟩;refine⟨fr,hn,g,xo,⟨I.ok.mod,I.ok.kind,I.ok.glob,I.ok.blt,I.ok.above,I.ok.inj,I.ok.has,I.ok.cab,λh=>(by cases h),I.ok.frames,I.ok.stk,I.ok.exf,λb o q=>⟨(I.ok.bs b o q).1,?_⟩,I.ok.bsz,I.ok.noex,I.ok.exfs,I.ok.uf,λb f=>?_⟩,I.os,I.bare,?_,⟨m,up.ns K,λi x v h1 h2 h3=>?_⟩,λx c h=>?_,?_,λx c h=>?_,λp hp=>?_,λb u q=>?_,I.len⟩
 ·show upd X.H₀ e _ b=none;rw[jR λz=>ns o<|by rw[<- z];exact(I.ok.bs b o q).1];exact(I.ok.bs b o q).2
 ·show upd X.H₀ e _ b=none;obtain⟨_,o2,j,d2⟩:=I.ok.uf.mem f;rw[jR λz=>ns o2<|by rw[<- z];exact j];exact I.ok.frf b f
 ·have h0:∀b o,X.s₀.heap.get? b=some o->upd X.H₀ e (.frz g xu) b=none->X.H₀ b=none:=λb o q n=>by
   rwa [jR λz=>ns o<|by rw[<- z];exact q]at n
  refine⟨λb o q n h _=>un.keep b o q (h0 b o q n) h<|by simp,λb o q n h _=>un.slot b o q (h0 b o q n) h<|by simp,λb o q n _=>?_,λb o q _=>un.there b o q<|by simp,λb xs q=>?_,λb o u q=>?_,λb ps q=>?_⟩
  ·rw[jR λz=>ns o<|by rw[<- z];exact q];exact un.free b o q (h0 b o q n) (by simp)
  ·have q:upd X.H₀ e (.frz g xu) b=some (.tup xs):=q;by_cases f:b=e
   ·rw[f,kJ]at q;cases q
   ·rw[jR f]at q ⊢;exact un.tups b xs q
  ·have q:upd X.H₀ e (.frz g xu) b=some (.frz o u):=q;by_cases f:b=e
   ·rw[f,kJ]at q ⊢;exact q
   ·rw[jR f]at q ⊢;exact un.frzs b o u q
  ·have q:upd X.H₀ e (.frz g xu) b=some (.tbl ps):=q;by_cases f:b=e
   ·rw[f,kJ]at q;cases q
   ·rw[jR f]at q ⊢;exact un.tbls b ps q
 ·obtain⟨u,r,lk⟩:=hl i x v h1 h2 h3;refine⟨u,r,?_⟩
  rcases lk with⟨k,z⟩|⟨k,c,z,y⟩
  ·exact .inl ⟨k,z⟩
  ·exact .inr ⟨k,c,z,J c _ y⟩
 ·obtain⟨v,z⟩:=I.cell x c h;exact⟨v,J c v z⟩
 ·show upd H e _ X.env.locals=none;rw[jR lne];exact I.free
 ·obtain⟨v,Y,q,d⟩:=I.cell x c h;rw[jR<|G c Y q λvs y=>by rw[d]at y;cases y];exact I.freeC x c h
 ·have hp:p∈pn':=by
   have hp:p∈pn'++[]:=hp
   rwa [bS]at hp
  obtain⟨q,n,n1,n2,d⟩:=I.pin p<|cC _ hp;obtain⟨o',z⟩:=c3 p hp;have P:=k1 _ _ z;rw[q]at P;have P:p.2=o':=aU P;refine⟨by rw[P];exact F.1 _ _ z,?_,n1,n2,d⟩;rw[jR λy=>by rw[y,F.2.1]at z;cases z];exact n
 ·by_cases f:b=e
  ·subst f;rw[kJ]at q;cases q;exact⟨N,trivial,⟨g,N⟩,λ_ _ _ _=>trivial⟩
  ·rw[jR f]at q;exact(Z b u q).stay (λ_ _ _ z=>z) (λc z=>by rw[jR<|j4 z hn];exact z) λc xs z=>by rw[jR<|j4 z hn];exact z
end
section
variable {X:Cx}{pins:bv}{σ:L2.St}{H:Hp}{s:aA}
def IK{A:az}{E:aa->aA->Prop}{i:Nat}{n:Str}{v:V}{Q:Unit->aA->Prop}(I:Inv X pins σ H s)(hN:X.N.Nodup)(hi:X.N[i]?=some n)(hlo:X.env.scope.names.lookup n=some .local)(hv:σ[i]?=some (some v))
  (h:∀s',Inv X pins (σ.set i none) H s'->Q Unit.unit s'):wpAny M A (unbindName X.env n) Q E s:=by
 obtain⟨m,hn,L⟩:=id I.loc;obtain⟨u,r,U⟩:=L i n v hi hv<|.inl hlo;have P:m n=some u:=by
  rcases U with⟨_,z⟩|⟨k,_⟩
  ·exact z
  ·exfalso;have hk:X.env.kindOf n=some .local:=hlo
   rcases k with k|k<;>(rw[hk]at k;cases k)
 have F:(X.env.scope.kind == .class || (X.env.scope.kind == .module && X.env.locals != X.env.globals))=false:=by rw[I.ok.kind];rfl
 refine wpAny_unbindName_local hlo hn P F λh' u' G hs=>?_;have f:∀b o,X.s₀.heap.get? b=some o->h'.get? b=s.heap.get? b:=λb o q=>hs.2 b<|bq<|bD (aW q) I.ok.above;obtain⟨oL,_,_,Z,_⟩:=id hn;refine h _ ⟨I.ok,I.os,I.bare,⟨λb o q J B g=>(f b o q).trans<|I.base.keep b o q J B g,λb o q J B g=>?_,I.base.free,λb o q g=>?_,I.base.tups,I.base.frzs,I.base.tbls⟩,⟨_,G,λj y Y e1 e2 e3=>?_⟩,λy c q=>?_,I.free,I.freeC,λp hp=>?_,λb O q=>?_,by rw[fH];exact I.len⟩
 ·obtain⟨sl,z⟩:=I.base.slot b o q J B g;exact⟨sl,(f b o q).trans z⟩
 ·obtain⟨o',z⟩:=I.base.there b o q g;exact⟨o',(f b o q).trans z⟩
 ·by_cases C:j=i
  ·subst C;have:j<σ.length:=(aZ.mp hv).1;rw[cM this]at e2
   cases e2
  ·rw[cN<|cL C]at e2;obtain⟨w,r',q⟩:=L j y Y e1 e2 e3;refine⟨w,r',?_⟩
   rcases q with⟨k,z⟩|⟨k,c,z,y'⟩
   ·have:y≠n:=λz=>C<|zV hN e1<|z ▸ hi;exact .inl ⟨k,by simp[this,z]⟩
   ·exact .inr ⟨k,c,z,y'.sameBut hs<|I.OL y c z⟩
 ·obtain⟨w,z⟩:=I.cell y c q;exact⟨w,z.sameBut hs<|I.OL y c q⟩
 ·obtain⟨z,n0,K,T,d⟩:=I.pin p hp;exact⟨(hs.2 p.1 K).trans z,n0,K,T,d⟩
 ·refine(I.hok b O q).stay (λc w hc z=>(hs.2 c ?_).trans z) (λ_ z=>z) λ_ _ z=>z;intro y
  rcases hc with hc|hc
  ·rw[<- hc,y,I.free]at q;cases q
  ·rw[y,I.free]at hc;cases hc
def Inv.sW(I:Inv X pins σ H s)(xe':aa->aA->Prop):Inv (X.sW (X.pn++pins) xe') [] σ H s:=
 ⟨⟨I.ok.mod,I.ok.kind,I.ok.glob,I.ok.blt,I.ok.above,I.ok.inj,I.ok.has,I.ok.cab,I.ok.hd,I.ok.frames,I.ok.stk,I.ok.exf,I.ok.bs,I.ok.bsz,I.ok.noex,I.ok.exfs,I.ok.uf,I.ok.frf⟩,I.os,I.bare,I.base,I.loc,I.cell,I.free,I.freeC,λp hp=>I.pin p (by
  have hp:p∈(X.pn++pins)++[]:=hp
  rwa [bS]at hp),I.hok,I.len⟩
def Inv.AB{xe':aa->aA->Prop}(I:Inv (X.sW (X.pn++pins) xe') pins' σ H s):Inv X pins σ H s:=
 ⟨⟨I.ok.mod,I.ok.kind,I.ok.glob,I.ok.blt,I.ok.above,I.ok.inj,I.ok.has,I.ok.cab,I.ok.hd,I.ok.frames,I.ok.stk,I.ok.exf,I.ok.bs,I.ok.bsz,I.ok.noex,I.ok.exfs,I.ok.uf,I.ok.frf⟩,I.os,I.bare,I.base,I.loc,I.cell,I.free,I.freeC,λp hp=>I.pin p<|cC _ hp,I.hok,I.len⟩
def Inv.SX(I:Inv (X.hand (X.pn++pins) e oe) pins' σ H s)(ok:X.Ok)(f0:Fr0 X e):Inv X pins σ H s:=
 have h0:∀b o,X.s₀.heap.get? b=some o->X.H₀ b=none->upd X.H₀ e (.frz oe xu) b=none:=λb o q n=>by
  rw[jR λz=>f0.no o<|by rw[<- z];exact q];exact n
 ⟨ok,I.os,I.bare,⟨λb o q n=>I.base.keep b o q<|h0 b o q n,λb o q n=>I.base.slot b o q<|h0 b o q n,λb o q n=>I.base.free b o q<|h0 b o q n,I.base.there,λb xs q=>I.base.tups b xs<|show upd X.H₀ e (.frz oe xu) b=_ by rw[jR λz=>f0.tup xs<|by rw[<- z];exact q];exact q,λb o u q=>I.base.frzs b o u<|show upd X.H₀ e (.frz oe xu) b=_ by rw[jR λz=>f0.frz o u<|by rw[<- z];exact q];exact q,λb ps q=>I.base.tbls b ps<|show upd X.H₀ e (.frz oe xu) b=_ by rw[jR λz=>f0.tbl ps<|by rw[<- z];exact q];exact q⟩,I.loc,I.cell,I.free,I.freeC,λp hp=>I.pin p<|cC _ hp,I.hok,I.len⟩
end
section
variable {M:Model}{A:az}{E:aa->aA->Prop}{h:ak}{g:Array GenState}{d:Drawn}{t:Nat}{os:OsState}{C N D N':aj}{nm q nm' q':Str}{bs bm bs' bm':be}{hdct hdct':Bool}{sn sn':ba}{sub sub':be}{ab ab':Bool}{col col':bp}{dd dd':Option aj}{k0 k1 k2 k3 k5 k0' k1' k2' k3' k5':bj}{newId newId':String}
def Ac{oe:Obj}{Q:Bool->aA->Prop}(hC:h.get? C=some (excClassObj nm q C N bs bm hdct sn sub ab col dd k0 k1 k2 k3 k5 newId))(U:h.get? D=some (excClassObj nm' q' D N' bs' bm' hdct' sn' sub' ab' col' dd' k0' k1' k2' k3' k5' newId'))
  (he:h.get? e=some oe) (L:oe.cls=.ref C) (J:bm'.contains (.type "BaseException")=true) (Z:Q ((Value.ref C::bm).contains<|.ref D) ⟨h,g,d,t,os⟩):wpAny M A (excMatches (.ref e)<|.ref D) Q E ⟨h,g,d,t,os⟩:=by
 have j:(Value.ref D::bm').contains (.type "BaseException")=true:=by rw[List.contains_cons,J,Bool.or_true]
 have f:=tc_notTuple;unfold excMatches
 repeat (first|(with_reducible refine wpAny_loadPart_at he ?_;rw[L])|with_reducible refine wpAny_loadPart_at U ?_|(with_reducible refine wpAny_isSubtype_exc U ?_;rw[j])|with_reducible refine wpAny_isSubtype_exc hC ?_|wp_step)
 cases k:(Value.ref C::bm).contains (.ref D)<;>(rw[k]at Z;wp_walk;exact Z)
end
abbrev mroIn (K:au)(C:aj):Option (be):=match K.lookup C with
 | some ⟨.type "type",_,.cls cd,sl⟩=>(match cd.mro,sl.toList with
  | .ref C'::bm,[_,_,_,_,some<|.builtin _,_]=>if C'=C/\cd.hasDel=false then some bm else none
  | _,_=>none)
 | _=>none
structure ClsAt (h:ak)(C:aj)(bm:be):Prop where
 ex:∃nm q N bs hdct sn sub ab col dd k0 k1 k2 k3 k5 newId,h.get? C=some (excClassObj nm q C N bs bm hdct sn sub ab col dd k0 k1 k2 k3 k5 newId)
def Ky{K:au}{C:aj}(X:K.In h)(e:mroIn K C=some bm):ClsAt h C bm:=by
 unfold mroIn at e;split at e
 ·rename_i dd cd j p;split at e
  ·rename_i F bm' k0 k1 k2 k3 n k5 g hs;split at e
   ·rename_i hc
    cases e
    obtain⟨rfl,d⟩:=hc;obtain⟨nm,bs,B,ns,k,hd,sn,sub,ab,col,m⟩:=cd;dsimp only at g d;subst g d;have f:j=#[k0,k1,k2,k3,some<|.builtin n,k5]:=by
     obtain⟨l⟩:=j;simp only at hs;rw[hs]
    subst f;exact⟨nm,k,ns,bs,hd,sn,sub,ab,col,dd,k0,k1,k2,k3,k5,n,X _ _ p⟩
   ·cases e
  ·cases e
 ·cases e
abbrev Yh (i:Nat)(D:Ends):Ends:=⟨λσ H=>D.nx (σ.set i none) H,D.rt,λσ H=>D.bk (σ.set i none) H,λσ H=>D.ct (σ.set i none) H⟩
section
variable {X:Cx}{pins pins':bv}{xe':aa->aA->Prop}{σ:L2.St}{H:Hp}{s':aA}{e C Dc:aj}{bm bmD:be}{x n:Str}{i:Nat}{De:Ends}{b0:aF}{suite:List aF}{np hp:Pos}
def Dg{f:Flow}(U:X.N.Nodup)(hi:X.N[i]?=some n)(L:X.env.scope.names.lookup n=some .local)(ok:X.Ok)(f0:Fr0 X e)(h:SP (X.hand (X.pn++pins) e oe) [] (Yh i De) f s2) :
  wpAny (model X.prog X.w) X.A (do bindName X.env n .none;unbindBehindTheSuite X.env n pos) (λ_ s3=>SP X pins De f s3) X.xe s2:=by
 have m:∀{d:L2.St} {H':Hp},Inv (X.hand (X.pn++pins) e oe) [] d H' s2->(∀s3,Inv X pins (d.set i none) H' s3->SP X pins De f s3)->wpAny (model X.prog X.w) X.A (do bindName X.env n .none;unbindBehindTheSuite X.env n pos) (λ_ s3=>SP X pins De f s3) X.xe s2:=λ{d H'} J k=>by
  have J:=J.SX ok f0;have j:i<d.length:=by rw[J.len];exact(aZ.mp hi).1
  refine aG<|wpAny_bindName<|ux (v:=.non) J U hi (.inl L) rfl (λs3 g=>?_)<|.inr L;unfold unbindBehindTheSuite;refine wpAny_onRaise (IK (v:=.non) g U hi L (cM j) λp B=>k p ?_)
  rwa [List.set_set]at B
 cases f with
 | next=>obtain⟨d,H',J,q⟩:=h;exact m J λs3 g=>⟨_,_,g,q⟩
 | brk=>obtain⟨d,H',J,q⟩:=h;exact m J λs3 g=>⟨_,_,g,q⟩
 | cont=>obtain⟨d,H',J,q⟩:=h;exact m J λs3 g=>⟨_,_,g,q⟩
 | ret u=>obtain⟨v,d,H',J,r,q⟩:=h;exact m J λs3 g=>⟨v,_,_,g,r,q⟩
def L8(hst:X.stack=X.env::X.outer)(hf:X.env.frame=some X.env.locals)(hex:X.ex=[])(hN:X.N.Nodup)(hi:X.N[i]?=some n)(hlo:X.env.scope.names.lookup n=some .local)(hg:Gl X x)(hm:X.mg x=some (.ref Dc))(mD:mroIn X.K Dc=some bmD)(hbD:bmD.contains (.type "BaseException")=true)
  (I:Inv (X.sW (X.pn++pins) xe') pins' σ H s') (R:vJ (X.sW (X.pn++pins) xe') H e (.ref C) s') (mC:mroIn X.K C=some bm) (hCD:(Value.ref C::bm).contains (.ref Dc)=true)
  (k:∀oe s6,XO C oe->H e=none->Inv (X.hand (X.pn++pins) e oe) [] (σ.set i<|some<|.ref e) (upd H e<|.frz oe xu) s6->wpAny (model X.prog X.w) (X.A.mark<|some<|.ref e) (execs (b0::suite) X.env) (SP (X.hand (X.pn++pins) e oe) []<|Yh i De) (λ_ _=>False) s6)
  (ok:X.Ok) (hdb:(x == ("__debug__" : Str))=false) :
  wpAny (model X.prog X.w) X.A (noteFrame (.ref e) X.env) (λ_ s2=>wpAny (model X.prog X.w) X.A (setFlight (.ref e) none) (λ_ s3=>wpAny (model X.prog X.w) X.A (handleBy (.ref e) X.env [.ExceptHandler (some<|.Name x np) (some n) (b0::suite) hp]) (SP X pins De) X.xe s3) X.xe s2) X.xe s':=by
 refine IT I hst hf hex R λh4 B a0 g k1 m c1 c2 c3 z4=>?_;refine cS (ku.any (e:=e) (ku.flight _ _) (wpAny_landsW (Q:=λ_ d=>∃h',d={ s' with heap:=h' }/\Heap.FlyingW B (X.env::X.outer) e (.ref C) a0 h'/\h4.UpToSlots h') (E:=λ_ _=>False) g λh' F G=>⟨h',rfl,F,G⟩) z4) (λ_ d z=>?_) λ_ _ z=>z.1.elim;obtain⟨⟨h5,rfl,L,j⟩,P⟩:=z;obtain⟨_,_,Z,x5,p⟩:=Be I hex L k1 (m.trans j) c1 c2 c3 P;refine wpAny_handleBy_cons (codeAny_handlers_test<|wg (X:=X.hand (X.pn++pins) e Z) p hg hm ?_ hdb) (by intro q;cases q);obtain⟨g1,_⟩:=p.hok e _ kJ;obtain⟨_,_,_,_,_,_,_,_,_,_,_,_,_,_,_,_,hC⟩:=(Ky p.zu mC).ex;obtain⟨_,_,_,_,_,_,_,_,_,_,_,_,_,_,_,_,hD⟩:=(Ky p.zu mD).ex;refine Ac hC hD g1 x5.cls hbD ?_;rw[hCD];refine codeAny_handlers_suite_as ?_;refine cS (ku.any (e:=e) (ku.flight _ _) (lands_againW (Q:=λ_ d=>∃h',d={ s' with heap:=h' }/\Heap.FlyingW B (X.env::X.outer) e (.ref C) a0 h'/\h5.UpToSlots h') (E:=λ_ _=>False) L λh' F G=>⟨h',rfl,F,G⟩) P) (λ_ d z=>?_) λ_ _ z=>z.1.elim;obtain⟨⟨h6,rfl,F6,J⟩,z6⟩:=z;obtain⟨f0,n6,O,x6,V⟩:=Be I hex F6 k1 ((m.trans j).trans J) c1 c2 c3 z6;refine ux (X:=X.hand (X.pn++pins) e O) (v:=.ref e) V hN hi (.inl hlo) rfl (λT Y=>?_)<|.inr hlo;exact cS (k O T x6 n6 Y) (λf s8 U=>Dg hN hi hlo ok f0 U) λ_ _ z=>z.elim
end
open PySem.W in
structure XCls (K:au)(C:aj):Prop where
 ga:findIn K (.ref C) "__getattribute__" = some (some<|.builtin "BaseException.__getattribute__")
 gt:findIn K (.ref C) "__getattr__" = some none
 fc:findObj K C none "__class__" = some (.bind (.builtin "getset_descriptor.__get__")<|.builtin "object.__class__")
 ob:PySem.W.mroIn K C (.type "object")=some true
 bs:subIn K (.ref C) (.type "BaseException")=some true
section
open PySem.W
variable {K:au}{C a:aj}{ox:Obj}{prog:ah}{w:af}{A:az}{E:aa->aA->Prop}{h:ak}{g:Array GenState}{d:Drawn}{t:Nat}{os:OsState}
def KI{Q:Fin->aA->Prop}(x:XCls K C)(X:K.In h)(I:PySem.W.InstAt h a ox C none)(J:Q (.done<|.ret<|.ref C) ⟨h,g,d,t,os⟩) :
  wpAny (model prog w) A (Builtin.«object.__getattribute__» ⟨[.ref a,.str "__class__" tk],[]⟩) Q E ⟨h,g,d,t,os⟩:=by
 have f:=I.type (M:=model prog w);have j:=looks_find (M:=model prog w) X I x.fc;unfold Builtin.«object.__getattribute__»
 repeat (first|with_reducible refine aG (iV ?_)|with_reducible refine iV ?_|lk)
 refine class_get X I x.ob ?_
 repeat lk
 exact J
def K7{nv:aa}{Q:Unit->aA->Prop}(x:XCls K C)(X:K.In h)(I:PySem.W.InstAt h a ox C none)(J:Q Unit.unit ⟨h,g,d,t,os⟩):wpAny M A (checkBuiltinCall "BaseException.__getattribute__" ⟨[.ref a,nv],[]⟩) Q E ⟨h,g,d,t,os⟩:=by
 have B:builtinKind "BaseException.__getattribute__" = some .slot:=by decide +kernel
 have hs:splitId "BaseException.__getattribute__" = some ("BaseException", "__getattribute__"):=by decide +kernel
 have p:Looks M h (isInstance (.ref a)<|.type "BaseException") true:=(I.type (M:=M)).andThen<|looks_subIn X x.bs;have k:=F.args_bexc_ga (.ref a) nv;dsimp[checkBuiltinCall,B,hs];refine aG<|p.at ?_;show wpAny M A (match Manifest.signature? "BaseException.__getattribute__" with
  | some f=>Bind.checkArgs "BaseException.__getattribute__" f { pos:=[Value.ref a,nv]}
  | x=>pure Unit.unit) Q E _
 cases j:Manifest.signature? "BaseException.__getattribute__" with
 | none=>exact aL J
 | some f=>
  dsimp[argsOk,j]at k;have m:Bind.checkArgs "BaseException.__getattribute__" f ⟨[.ref a,nv],[]⟩=pure Unit.unit:=k;show wpAny M A (Bind.checkArgs "BaseException.__getattribute__" f ⟨[.ref a,nv],[]⟩) Q E _;rw[m];exact aL J
def O_(self:aa):bindSpecial (.builtin "BaseException.__getattribute__") self=pure (.builtin "BaseException.__getattribute__",[self]):=by
 have h1:withoutEnding? "BaseException.__getattribute__" "#opaque" = none:=by decide +kernel
 have f:withoutEnding? "BaseException.__getattribute__" "#data" = none:=by decide +kernel
 have d:builtinKind "BaseException.__getattribute__" = some .slot:=by decide +kernel
 dsimp[bindSpecial,typeOf,builtinType,h1,f,d];rfl
def Wu{Q:aa->aA->Prop}(x:XCls K C)(X:K.In h)(I:PySem.W.InstAt h a ox C none)(J:Q (.ref C) ⟨h,g,d,t,os⟩):wpAny (model prog w) A (getAttrBy (.ref a) (.str "__class__" tk) false) Q E ⟨h,g,d,t,os⟩:=by
 have j:=I.type (M:=model prog w);have k:=looks_findIn (M:=model prog w) X x.ga;have L2:=looks_findIn (M:=model prog w) X x.gt;unfold getAttrBy;refine b_<|aG<|j.at<|aG<|k.at ?_;show wpAny _ _ (if (onTheHeap (Value.ref C) && Value.builtin "BaseException.__getattribute__" == Value.builtin "object.__getattribute__")=true then _ else getAttrByItsOwn (.ref a) (.str "__class__" tk) (.ref C) (.builtin "BaseException.__getattribute__") false false) _ _ _;have f:(Value.builtin "BaseException.__getattribute__" == Value.builtin "object.__getattribute__")=false:=by decide +kernel
 rw[f,fu,aO bh];unfold getAttrByItsOwn hookBefore;rw[aQ<|show onTheHeap (Value.ref C)=true from rfl];refine aG<|L2.at<|aG<|ff<|b_ ?_;unfold callGetattribute boundAndCalled
 skip
 rw[O_,pure_bind];refine iV<|codeAny_call_builtin ∅ F.entry_bexc_ga (K7 x X I<|KI x X I ?_);exact aL J
def Km{Q:bj->aA->Prop}(x:XCls K C)(X:K.In h)(I:PySem.W.InstAt h a ox C none)(j:Q (some<|.ref C) ⟨h,g,d,t+1,os⟩):wpAny (model prog w) A (getAttr? (.ref a) "__class__") Q E ⟨h,g,d,t,os⟩:=by
 unfold getAttr? getAttrBy?;refine aG<|wpAny_mkText<|aG<|ff<|Wu x X I ?_;exact aL j
abbrev Zr (C a:aj):ak->Prop:=λh=>∃ox,PySem.W.InstAt h a ox C none
def Ke(x:XCls K C)(hc:(clsIn K C).isSome=true):KitX K (.ref a) (.ref C) (Zr C a) where
 ty:=λ_ _ _ ⟨_,I⟩=>I.type
 it:=λ_ _ X _=>by
  unfold clsIn at hc;split at hc
  ·rename_i d;intro m G F s' k q;unfold isType loadHead;exact aG (wpAny_loadPart (k _ _<|X _ _ d)<|aL q)
  ·cases hc
 ne:=λh tp dd g n J X f=>by
  refine dU.mpr λq=>?_;have e:C=tp:=Value.ref.inj<|dW.mp q;subst e;unfold clsIn at hc;split at hc
  ·rename_i d;have z:=(X _ _ d).symm.trans f
   cases z
  ·cases hc
 ca:=λ{_ _ _ _ _ s} X ⟨_,I⟩ k=>by
  obtain⟨B,L,dd,j,p⟩:=s;exact Km x X I k
end
section
variable {X:Cx}{C:aj}{pins:bv}{σ:L2.St}{H:Hp}{s:aA}
def Eu{A:az}{E:aa->aA->Prop}{Q:aa->aA->Prop}{a:aj}{b:Bool}(x:XCls X.K C)(hc:(PySem.W.clsIn X.K C).isSome=true)(I:Inv X pins σ H s)(J:H a=some (.frz oe xu))(L:XO C oe)(e:PySem.W.kitOne X.K (.ref C) c=some b)(h:∀tk,Q (.bool b) { s with toks:=tk }) :
  wpAny (model X.prog X.w) A (call (.builtin "isinstance") [.ref a,c]) Q E s:=by
 obtain⟨j,_⟩:=I.hok a _ J;obtain⟨g,d,vs,f,k⟩:=L;refine cR (Ke x hc) I.zu ⟨oe,j,g,?_,?_⟩ e (λz=>nomatch z) h
 ·unfold PySem.W.notCls;rw[f]
 ·rw[d];trivial
end
end L2
namespace L2
open PySem PySem.Spec PyProof.Rows
def Ag:entryFor table "proto.unchain" = some Builtin.«proto.unchain»:=entryFor_of_fast<|by kernel_rfl
section
variable {prog:ah}{w:af}{A:az}{E:aa->aA->Prop}{s:aA}{e n:aj}{oe on:Obj}{vs ns:Array aa}
def ET{α:Type}{Q:α->aA->Prop}(hh:A.handled=some (.ref e))(j:s.heap.get? e=some oe)(hd:oe.data=.fields vs)(J:vs[2]?=some .none)(hn:s.heap.get? n=some on)(L:on.data=.fields ns)(U:2<ns.size)(ne:e≠n)
  (h:E (.ref n) { s with heap:=s.heap.update n<|Obj.mapFields (·.setIfInBounds 2 (.ref e))}):wpAny (model prog w) A (raiseNew (.ref n):Sem α) Q E s:=by
 unfold raiseNew;refine aG<|wpAny_handled ?_;rw[hh];show wpAny _ _ (if (Value.ref e != Value.ref n)=true then _ else _) _ _ _;rw[aQ<|by simp[ne]];refine aG<|b_<|iX<|d8 Ag ?_;unfold Builtin.«proto.unchain»;refine aG<|d7 j hd J ?_;rw[aQ<|show(Value.none == Value.none)=true from rfl];refine aL ?_
 skip
 exact aG<|eE hn L U<|wpAny_throw h
def E4{i:Nat}{Q:bj->aA->Prop}(hh:A.handled=some (.ref e))(Z:s.heap.get? e=some oe)(hd:oe.data=.fields vs)(h2:vs[2]?=some .none)(U:e≠it)
  (L:s.heap.IsListIter it l i) (hl:s.heap.IsList l items) (hx:items[i]?=none) (hQ:∀h',Heap.ExtBut it s.heap h'->Q none { s with heap:=h' }):wpAny (model prog w) A (pyNext<|.ref it) Q E s:=by
 obtain⟨o,p,hc,d⟩:=id L;obtain⟨J,k,_,K,j⟩:=hl;unfold pyNext;refine aG<|ff<|dz (name:=Str.ofString "__next__") L.typeIs slot_listiter_next<|c9 slot_listiter_next L.typeIs entry_listiter_next ?_<|args_listiter_next _;show wpAny _ _ (field (.ref it) 0 >>= _) _ _ _;refine aG (d7 p d (x:=.ref l) rfl ?_)
 skip
 rw[aO<|show ¬((Value.ref l == Value.none)=true)from bh]
 skip
 refine aG (d7 p d (x:=.int i 0) rfl ?_)
 skip
 refine aG<|wpAny_seqItems k j ?_;dsimp[bY,hx];refine aG (gF<|aG<|eE p d (by simp) ?_)
 skip
 refine aG ?_;dsimp[newExc,newTuple];refine aG (bG ?_<|by size_fits);refine aG (m:=firstArgMember _ _) (iG (a:=Value.none) (by first|rfl|(dsimp[firstArgMember];rfl)) ?_);refine bG ?_ (by size_fits);have g:∀(f:Obj->Obj),(s.heap.update it f).get? e=some oe:=λf=>by rw[cB _ _<|cL U];exact Z
 have B:∀(f:Obj->Obj) (F:Obj),e≠((s.heap.update it f).push F).objs.size:=λf F=>bq<|aW<|aM _<|g f;refine ET (A:=A.in1) hh (aM _<|aM _<|g _) hd h2 (a_ _ rfl) rfl (by simp[ownMembersOf]) (B _ _) ?_;refine aG<|iw (T := "StopIteration") (b:=true) ⟨_,bX _ (a_ _ rfl)<|di<|b6 rfl _,gS ..⟩ isSubtype_stop ?_;refine aL<|hQ _ λb o' G q=>?_;have C:=((dh it (Obj.mapFields λx=>x.setIfInBounds 0 Value.none) (h:=s.heap)).extBut.push { cls:=Value.type "tuple",data:=Data.seq #[]}) b o' G q;rw[cB _ _<|cL<|bq<|aW C];exact aM _ C
def B3(hh:A.handled=some (.ref e))(hd:oe.data=.fields vs)(h2:vs[2]?=some .none)(it L:aj)(Z:L≠it)(U:e≠it)(J:Array aa) :
  Walks prog w A it [it,L,e] [it] J.size (λi v=>J[i]?=some v) (λi h=>(h.IsListIter it L i/\h.IsList L J)/\h.get? e=some oe) where
 sub:=λb d=>by simp at d;simp[d]
 frame:=λ_ _ _ st k=>⟨⟨st.1.1.at λo q=>k it (by simp) o q,st.1.2.at λo q=>k L (by simp) o q⟩,k e (by simp) oe st.2⟩
 item:=λi s Q E hi st f=>by
  refine wpAny_pyNext_list_item st.1.1 st.1.2 (x:=J[i]) (by simp[hi]) λh' j g=>?_;exact f _ h' s.toks (by simp[hi]) ⟨⟨j,st.1.2.extBut g.extBut Z⟩,g.extBut e oe U st.2⟩ λb o d q=>g.extBut b o (λz=>d<|by simp[z]) q
 done:=λs Q E st f=>E4 hh st.2 hd h2 U st.1.1 st.1.2 (by simp) λh' q=>f h' s.toks λb o d z=>q b o (λy=>d<|by simp[y]) z
 self:=λ_ _ _ _ st f=>wpAny_pyIter_listiter st.1.1 f
end
section
variable {X:Cx}{e C:aj}{oe:Obj}
def IS(hh:X.A.handled=some (.ref e))(h0:X.H₀ e=some (.frz oe xu))(U:XO C oe):kE X (.builtin "any") (λxs H Q=>∃(p:aj) (bs:List Bool),xs=[.ref p]/\nh X.K H p (bs.map V.bl)/\Q (.bl<|bs.any id) H):=by
 fin2;obtain⟨p,bs,rfl,J,q⟩:=h;kln_w
 cases rx
 obtain⟨d,m,pl,N⟩:=I.list J;have j:=DG m;have f:=pl.isList;obtain⟨ge,_⟩:=I.hok e _<|I.base.frzs e oe xu h0;obtain⟨vs,F,B⟩:=U.ctx;have g:p<s.heap.objs.size:=by obtain⟨_,z,_⟩:=f;exact aW z
 refine call_any_walk<|gM f ?_;refine⟨s.heap.objs.size,[s.heap.objs.size,p,e],[s.heap.objs.size],d.toArray.size,_,_,λi=>(bs[i]?).getD false,rfl,B3 (A:=X.A.in1) hh F B _ p (bq g) (bq<|aW ge) d.toArray,
  ⟨⟨⟨_,a_ _ rfl,rfl,rfl⟩,f.push _⟩,aM _ ge⟩,λi v s' O L hP k=>?_,λh' tk G=>?_⟩
 ·obtain⟨b,z,rfl⟩:=j.get i v (by simpa using hP);dsimp[z,fh]at k;exact dj k
 ·have z:((List.range d.toArray.size).any λi=>(bs[i]?).getD false)=bs.any id:=by
   rw[aY,j.length];exact LSm.range_any bs
  rw[z];exact⟨.bl _,H,I.kept<|LSm.kept_iter G,rfl,q⟩
end
end L2
namespace L2
open PySem PySem.Spec PyProof.Rows PySem.SeqAt
def Tv:bootBuiltins "zip" = some (.type "zip"):=by decide +kernel
abbrev Xh (K:au)(j J:aj):It:=
 ⟨λi H=>∃xs ys x y,nh K H j xs/\nh K H J ys/\xs[i]?=some x/\ys[i]?=some y,
  λi H v H'=>∃T,H T=none/\v=.ref T/\∀xs ys x y,nh K H j xs->nh K H J ys->xs[i]?=some x->ys[i]?=some y->H'=upd H T (.tup [x,y]),
  λi H=>∃xs ys,nh K H j xs/\nh K H J ys/\(xs[i]?=none\/ys[i]?=none)⟩
def Np{P:ah}{w:af}{K:au}{TI TO:aj}(D:ZipApart z TI TO i1 i2 l1 l2) :
  Turn P w K (.Tuple elts x1 tpos) (Xh K l1 l2) [z,TI,TO,i1,i2] z (λi h=>IsZip h z TI TO .none/\IsPair h TI (.ref i1) (.ref i2)/\(∃a b,IsPair h TO a b)/\h.IsListIter i1 l1 i/\h.IsListIter i2 l2 i) where
 mem:=by simp
 obj:=λi h st b G=>by
  obtain⟨s1,s2,⟨a,b',s3⟩,⟨o4,e4,c4,d4⟩,⟨o5,e5,c5,d5⟩⟩:=st;have C:b=z\/b=TI\/b=TO\/b=i1\/b=i2:=by simpa using G
  rcases C with rfl|rfl|rfl|rfl|rfl
  ·exact⟨_,s1,λv z=>by cases z⟩
  ·exact⟨_,s2,λv z=>by cases z⟩
  ·exact⟨_,s3,λv z=>by cases z⟩
  ·exact⟨o4,e4,λv z=>by rw[d4]at z;cases z⟩
  ·exact⟨o5,e5,λv z=>by rw[d5]at z;cases z⟩
 keep:=λi h h' st k=>by
  obtain⟨s1,s2,⟨a,b',s3⟩,s4,s5⟩:=st;exact⟨k z (by simp) _ s1,k TI (by simp) _ s2,⟨a,b',k TO (by simp) _ s3⟩,s4.at λo F=>k i1 (by simp) o F,s5.at λo F=>k i2 (by simp) o F⟩
 item:=by
  x_go;subst hP hw hK;obtain⟨s1,s2,⟨a,b',s3⟩,s4,s5⟩:=st;obtain⟨xs,ys,x,y,V,U,hx,hy⟩:=hg;obtain⟨Z,rv1,p1,hz1⟩:=I.list V;obtain⟨its2,rv2,p2,hz2⟩:=I.list U;obtain⟨u1,hu1,ru1⟩:=rv1.get hx;obtain⟨u2,hu2,ru2⟩:=rv2.get hy;refine wpAny_pyNext_zip_item D s1 s2 s3 s4 s5 p1.isList p2.isList (x:=u1) (y:=u2) (by simpa using hu1) (by simpa using hu2) λh' hz' hTO' h1' h2' hT hsz hk=>?_;refine⟨_,rfl,wpAny_letOwnedTupleGo_zip hz' λh2 he2 T=>?_⟩;have fT:H s.heap.objs.size=none:=I.hok.fresh<|aP _;have lz:z<s.heap.objs.size:=aW s1;have lTI:TI<s.heap.objs.size:=aW s2;have lTO:TO<s.heap.objs.size:=aW s3;have li1:i1<s.heap.objs.size:=by obtain⟨o,F,_⟩:=s4;exact aW F
  have li2:i2<s.heap.objs.size:=by obtain⟨o,F,_⟩:=s5;exact aW F
  have k2:∀b o,b≠z->b≠TO->b≠i1->b≠i2->s.heap.get? b=some o->h2.get? b=some o:=λb o J N O L q=>T.extBut b o J<|hk b o J N O L q;have hT2:IsPair h2 s.heap.objs.size u1 u2:=T.extBut _ _ (f_ lz) hT;have fz:=hf z (by simp);have fTI:=hf TI (by simp);have d:=hf TO (by simp);have g:=hf i1 (by simp);have f:=hf i2 (by simp);have nT:∀b o,s.heap.get? b=some o->b≠s.heap.objs.size:=λb o q=>bq<|aW q;have p:∀c v,H c=some v->c≠z/\c≠TO/\c≠i1/\c≠i2:=λc v q=>⟨(λw=>by rw[w,fz.1]at q;cases q),(λw=>by rw[w,d.1]at q;cases q),(λw=>by rw[w,g.1]at q;cases q),(λw=>by rw[w,f.1]at q;cases q)⟩;have B:∀b,b∉[z,TO,i1,i2]->b≠z/\b≠TO/\b≠i1/\b≠i2:=λb G=>by simpa using G
  have I2:Inv X pins σ (upd H s.heap.objs.size<|.tup [x,y]) { s with heap:=h2,toks:=s.toks }:=by
   refine I.step (g':=s.gens) (d':=s.drawn) (ch:=[z,TO,i1,i2]) (λb G=>?_) (λb o _ _ j q _=>?_) (λb o _ _ j q _=>?_) (λb o j q n=>?_) (λb o j q=>?_) (λb ys q=>?_) (λb o u' q=>?_) (λb ps q=>?_) (λm hm=>?_) (λb u' q=>?_) I.bare
   ·have C:b=z\/b=TO\/b=i1\/b=i2:=by simpa using G
    rcases C with rfl|rfl|rfl|rfl
    ·exact⟨fz.2.2.2.1,fz.2.1,fz.2.2.2.2.1,fz.2.2.2.2.2⟩
    ·exact⟨d.2.2.2.1,d.2.1,d.2.2.2.2.1,d.2.2.2.2.2⟩
    ·exact⟨g.2.2.2.1,g.2.1,g.2.2.2.2.1,g.2.2.2.2.2⟩
    ·exact⟨f.2.2.2.1,f.2.1,f.2.2.2.2.1,f.2.2.2.2.2⟩
   ·obtain⟨J,N,O,L⟩:=B b j;exact k2 b o J N O L q
   ·obtain⟨J,N,O,L⟩:=B b j;exact⟨o.slots,k2 b o J N O L q⟩
   ·rw[jR<|nT b o q];exact n
   ·obtain⟨J,N,O,L⟩:=B b j;exact⟨o,k2 b o J N O L q⟩
   ·rw[jR<|j4 q fT];exact q
   ·rw[jR<|j4 q fT];exact q
   ·exact⟨#[],by rw[jR<|j4 q fT,q];simp⟩
   ·obtain⟨o,es,ep,F,r⟩:=hm;exact⟨o,es,ep,k2 _ o (cL fz.2.1) (cL d.2.1) (cL g.2.1) (cL f.2.1) F,r⟩
   ·by_cases G:b=s.heap.objs.size
    ·subst G;rw[kJ]at q
     cases q
     exact⟨by show 2<=sizeLine;decide,[u1,u2],.cons ru1<|.cons ru2 .nil,⟨_,hT2,rfl,rfl,0,rfl⟩⟩
    ·rw[jR G]at q;refine(I.hok b u' q).stay (λc v hc q'=>?_) (λc q'=>?_) λc ys q'=>?_
     ·have Y:c≠z/\c≠TO/\c≠i1/\c≠i2:=by
       rcases hc with w|w
       ·rw[w];exact p b u' q
       ·exact p c _ w
      exact k2 c v Y.1 Y.2.1 Y.2.2.1 Y.2.2.2 q'
     ·rw[jR<|j4 q' fT];exact q'
     ·rw[jR<|j4 q' fT];exact q'
  refine⟨.ref s.heap.objs.size,_,I2,rfl,⟨s.heap.objs.size,fT,rfl,λxs' ys' x' y' hy1 hy2 e1 e2=>?_⟩,⟨he2,?_,⟨u1,u2,?_⟩,?_,?_⟩,λb G=>?_⟩
  ·rw[I.wF hy1 V,hx]at e1;rw[I.wF hy2 U,hy]at e2
   cases e1;cases e2;rfl
  ·exact k2 TI _ D.TIz D.TITO D.TIi1 D.TIi2 s2
  ·exact T.extBut TO _ D.TOz hTO'
  ·exact h1'.at λo F=>T.extBut i1 o D.i1z F
  ·exact h2'.at λo F=>T.extBut i2 o D.i2z F
  ·have C:b=z\/b=TI\/b=TO\/b=i1\/b=i2:=by simpa using G
   rcases C with rfl|rfl|rfl|rfl|rfl
   ·rw[jR<|bq lz];exact fz.1
   ·rw[jR<|bq lTI];exact fTI.1
   ·rw[jR<|bq lTO];exact d.1
   ·rw[jR<|bq li1];exact g.1
   ·rw[jR<|bq li2];exact f.1
 done:=by
  x_go;subst hP hw hK;obtain⟨s1,s2,⟨a,b',s3⟩,s4,s5⟩:=st;obtain⟨xs,ys,V,U,hend⟩:=hg;obtain⟨Z,rv1,p1,hz1⟩:=I.list V;obtain⟨its2,rv2,p2,hz2⟩:=I.list U;have hl1:=rv1.length;have hl2:=rv2.length;have fz:=hf z (by simp);have d:=hf TO (by simp);have g:=hf i1 (by simp);have f:=hf i2 (by simp);have hend':Z.toArray[i]?=none\/its2.toArray[i]?=none:=by
   rcases hend with q|q
   ·left;rw[fE]at q;simp;lia
   ·right;rw[fE]at q;simp;lia
  refine wpAny_pyNext_zip_end (I.ok.hd hc) D s1 s2 s3 s4 s5 p1.isList p2.isList hend' λh' hk=>⟨rfl,?_⟩;have B:∀b,b∉[z,TO,i1,i2]->b≠z/\b≠TO/\b≠i1/\b≠i2:=λb G=>by simpa using G
  have p:∀c v,H c=some v->c≠z/\c≠TO/\c≠i1/\c≠i2:=λc v q=>⟨(λw=>by rw[w,fz.1]at q;cases q),(λw=>by rw[w,d.1]at q;cases q),(λw=>by rw[w,g.1]at q;cases q),(λw=>by rw[w,f.1]at q;cases q)⟩;refine I.step (g':=s.gens) (d':=s.drawn) (t':=s.toks) (ch:=[z,TO,i1,i2]) (λb G=>?_) (λb o _ _ j q _=>?_) (λb o _ _ j q _=>?_) (λb o j q n=>n) (λb o j q=>?_) (λb ys q=>q) (λb o u' q=>q) (λb ps q=>⟨#[],by rw[q];simp⟩) (λm hm=>?_) (λb u' q=>?_) I.bare
  ·have C:b=z\/b=TO\/b=i1\/b=i2:=by simpa using G
   rcases C with rfl|rfl|rfl|rfl
   ·exact⟨fz.2.2.2.1,fz.2.1,fz.2.2.2.2.1,fz.2.2.2.2.2⟩
   ·exact⟨d.2.2.2.1,d.2.1,d.2.2.2.2.1,d.2.2.2.2.2⟩
   ·exact⟨g.2.2.2.1,g.2.1,g.2.2.2.2.1,g.2.2.2.2.2⟩
   ·exact⟨f.2.2.2.1,f.2.1,f.2.2.2.2.1,f.2.2.2.2.2⟩
  ·obtain⟨J,N,O,L⟩:=B b j;exact hk b o J N O L q
  ·obtain⟨J,N,O,L⟩:=B b j;exact⟨o.slots,hk b o J N O L q⟩
  ·obtain⟨J,N,O,L⟩:=B b j;exact⟨o,hk b o J N O L q⟩
  ·obtain⟨o,es,ep,F,r⟩:=hm;exact⟨o,es,ep,hk _ o (cL fz.2.1) (cL d.2.1) (cL g.2.1) (cL f.2.1) F,r⟩
  ·refine(I.hok b u' q).stay (λc v hc q'=>?_) (λc q'=>q') λc ys q'=>q';have Y:c≠z/\c≠TO/\c≠i1/\c≠i2:=by
    rcases hc with w|w
    ·rw[w];exact p b u' q
    ·exact p c _ w
   exact hk c v Y.1 Y.2.1 Y.2.2.1 Y.2.2.2 q'
 self:=λ_ _ _ _ _ st h=>wpAny_pyIter_zip st.1 h
section
variable {X:Cx}
abbrev XI (K:au)(ta:TA):TI:=λσ H R=>ta σ H λvs H1=>∃a b xs ys,vs=[.ref a,.ref b]/\nh K H1 a xs/\nh K H1 b ys/\R (Xh K a b) H1
def Rq{a b:aE}{ta:TA}{p:Pos}(hg:Gl X "zip")(hm:X.mg "zip" = none)(ha:PA X [a,b] ta)(hs:starEach [a,b] X.env=(false,eval a X.env)::starEach [b] X.env<|>ε)(hpl:((backTo pos<|starEach [b] X.env).any (·.1)=false)<|>ε):PI X (.Tuple elts x1 tpos) (.Call (.Name "zip" p) [a,b] [] pos) (XI X.K ta):=by
 intro pins s σ H R I h;refine Call_<|uw I hg hm Tv<|dw (l_ (ha pos pins s σ H _ I h) λus d ⟨vs,H1,I1,r1,q1⟩=>?_) hs hpl;obtain⟨U,t2,xs,ys,e,g,j,q⟩:=q1;subst e;obtain⟨u1,f,rfl,B,r2⟩:∃u f,us=u::f/\RelV (.ref U) u/\Vals [.ref t2] f:=by
  cases r1 with|cons h t=>exact⟨_,_,rfl,h,t⟩
 obtain⟨u2,rfl,C⟩:=vals1 r2
 cases B
 cases C
 obtain⟨V,rv1,p1,hz1⟩:=I1.list g;obtain⟨Y,rv2,p2,hz2⟩:=I1.list j;refine call_zip_2 p1.isList p2.isList λh' Z O m N G hsz hk=>?_;have I2:Inv X pins σ H1 { d with heap:=h' }:=I1.kept (t':=d.toks) hk;have L:U<d.heap.objs.size:=by obtain⟨o,J,_⟩:=p1.isList;exact aW J
 have P:t2<d.heap.objs.size:=by obtain⟨o,J,_⟩:=p2.isList;exact aW J
 have fr:∀k,H1 (d.heap.objs.size+k)=none:=λk=>I1.hok.fresh<|Nat.le_add_right _ k;refine wpAny_pyIter_zip Z ⟨_,[d.heap.objs.size+4,d.heap.objs.size+2,d.heap.objs.size+3,d.heap.objs.size,d.heap.objs.size+1],_,_,H1,rfl,I2,Np<|zipApart_new L P,⟨Z,O,⟨_,_,m⟩,N,G⟩,λb T=>?_,q⟩;have F:∃k,b=d.heap.objs.size+k:=by
  dsimp[bf,fP,or_false]at T
  rcases T with rfl|rfl|rfl|rfl|rfl
  ·exact⟨4,rfl⟩
  ·exact⟨2,rfl⟩
  ·exact⟨3,rfl⟩
  ·exact⟨0,rfl⟩
  ·exact⟨1,rfl⟩
 obtain⟨k,rfl⟩:=F;exact I1.B6 (Nat.le_add_right _ k)<|fr k
end
end L2
namespace L2
open PySem PySem.Spec PyProof.Rows
abbrev RK (K:au)(a:aj):It:=
 ⟨λi H=>∃xs x,nh K H a xs/\xs[i]?=some x,λi H x H'=>∃T,H T=none/\x=.ref T/\∀xs y,nh K H a xs->xs[i]?=some y->H'=upd H T (.tup [.int i,y]),λi H=>∃xs,nh K H a xs/\xs.length=i⟩
def E6{P:ah}{w:af}{K:au}(a e it:aj)(hei:e≠it):Turn P w K (.Tuple elts x1 tpos) (RK K a) [e,it] e (λi h=>(∃old,IsEnum h e it i old)/\h.IsListIter it a i) where
 mem:=by simp
 obj:=λi h st b O=>by
  obtain⟨⟨old,f⟩,g⟩:=st;have L:b=e\/b=it:=by simpa using O
  rcases L with rfl|rfl
  ·exact⟨_,f,λv z=>by cases z⟩
  ·obtain⟨o,e,c,d⟩:=g;exact⟨o,e,λv z=>by rw[d]at z;cases z⟩
 keep:=λi h h' st k=>by
  obtain⟨⟨old,f⟩,g⟩:=st;exact⟨⟨old,k e (by simp) _ f⟩,g.at λo C=>k it (by simp) o C⟩
 item:=by
  x_go;subst hP hw hK;obtain⟨⟨old,f⟩,g⟩:=st;obtain⟨xs,x,hq,hx⟩:=hg;obtain⟨F,rv,p,hz⟩:=I.list hq;obtain⟨u,hu,ru⟩:=rv.get hx;have U:a≠it:=by
   obtain⟨o,C,J,_⟩:=p.isList;obtain⟨o2,N,G,_⟩:=g;intro z;rw[z,N]at C
   cases C
   rw[J]at G;exact absurd (Value.type.inj G) ⋯
  have hea:e≠a:=by
   obtain⟨o,C,J,_⟩:=p.isList;intro z;rw[<- z,f]at C
   cases C
   exact absurd (Value.type.inj J) ⋯
  have hlt:i<F.toArray.size:=by
   rw[aY];exact(aZ.mp hu).1
  refine wpAny_pyNext_enum_itemD (Draws.list (A:=X.A.in1) (I.ok.hd hc) it a U F.toArray) f ⟨g,p.isList⟩ hlt hei (by simp[hei,hea]) λx' h' tk hP hout hst hT hsz hk=>?_;have ex:x'=u:=by
   have:F.toArray[i]?=some u:=by simpa using hu
   rw[this]at hP;exact(aU hP).symm
  subst ex;refine⟨_,rfl,wpAny_letOwnedTupleGo_enum hout λh2 he2 V=>?_⟩;have Y:H s.heap.objs.size=none:=I.hok.fresh<|aP _;have Z:e<s.heap.objs.size:=aW f;have hil:it<s.heap.objs.size:=by obtain⟨o,C,_⟩:=g;exact aW C
  have k2:∀b o,b≠e->b≠it->s.heap.get? b=some o->h2.get? b=some o:=λb o h1 h3 q=>V.extBut b o h1<|hk b o h1 h3 q;have hT2:h2.get? s.heap.objs.size=some { cls:=.type "tuple",data:=.seq #[.int i tk,x']}:=V.extBut _ _ (f_ Z) hT;obtain⟨e0,e1,e2,e3,e4,e5⟩:=hf e (by simp);obtain⟨i0,i1,i2,i3,i4,i5⟩:=hf it (by simp);have nT:∀b o,s.heap.get? b=some o->b≠s.heap.objs.size:=λb o q=>bq<|aW q;have B:∀c v,H c=some v->c≠e/\c≠it:=λc v q=>⟨(λz=>by rw[z,e0]at q;cases q),(λz=>by rw[z,i0]at q;cases q)⟩;have I2:Inv X pins σ (upd H s.heap.objs.size<|.tup [.int i,x]) { s with heap:=h2,toks:=tk+1 }:=by
   refine I.step (g':=s.gens) (d':=s.drawn) (ch:=[e,it]) (λb O=>?_) (λb o _ _ j q _=>?_) (λb o _ _ j q _=>?_) (λb o j q n=>?_) (λb o j q=>?_) (λb ys q=>?_) (λb o u' q=>?_) (λb ps q=>?_) (λm hm=>?_) (λb u' q=>?_) I.bare
   ·have L:b=e\/b=it:=by simpa using O
    rcases L with rfl|rfl
    ·exact⟨e3,e1,e4,e5⟩
    ·exact⟨i3,i1,i4,i5⟩
   ·exact k2 b o (λz=>j<|by simp[z]) (λz=>j<|by simp[z]) q
   ·exact⟨o.slots,k2 b o (λz=>j<|by simp[z]) (λz=>j<|by simp[z]) q⟩
   ·rw[jR<|nT b o q];exact n
   ·exact⟨o,k2 b o (λz=>j<|by simp[z]) (λz=>j<|by simp[z]) q⟩
   ·rw[jR<|j4 q Y];exact q
   ·rw[jR<|j4 q Y];exact q
   ·exact⟨#[],by rw[jR<|j4 q Y,q];simp⟩
   ·obtain⟨o,es,ep,C,r⟩:=hm;exact⟨o,es,ep,k2 _ o (cL e1) (cL i1) C,r⟩
   ·by_cases z:b=s.heap.objs.size
    ·subst z;rw[kJ]at q
     cases q
     exact⟨by show 2<=sizeLine;decide,[.int i tk,x'],.cons ⟨tk,rfl⟩<|.cons ru .nil,⟨_,hT2,rfl,rfl,0,rfl⟩⟩
    ·rw[jR z]at q;refine(I.hok b u' q).stay (λc v hc q'=>k2 c v ?_ ?_ q') (λc q'=>?_) λc ys q'=>?_
     ·rcases hc with z|z
      ·rw[z];exact(B b u' q).1
      ·exact(B c _ z).1
     ·rcases hc with z|z
      ·rw[z];exact(B b u' q).2
      ·exact(B c _ z).2
     ·rw[jR<|j4 q' Y];exact q'
     ·rw[jR<|j4 q' Y];exact q'
  refine⟨.ref s.heap.objs.size,_,I2,rfl,⟨s.heap.objs.size,Y,rfl,λys y hy T=>?_⟩,⟨⟨x',by simpa using he2⟩,?_⟩,λb O=>?_⟩
  ·rw[I.wF hy hq]at T;rw[hx]at T
   cases T
   rfl
  ·exact hst.1.at λo C=>V.extBut it o (cL hei) C
  ·have L:b=e\/b=it:=by simpa using O
   rcases L with rfl|rfl
   ·rw[jR<|bq Z];exact e0
   ·rw[jR<|bq hil];exact i0
 done:=by
  x_go;subst hP hw hK;obtain⟨⟨old,f⟩,g⟩:=st;obtain⟨xs,hq,hx⟩:=hg;obtain⟨F,rv,p,hz⟩:=I.list hq;obtain⟨i0,i1,i2,i3,i4,i5⟩:=hf it (by simp);have U:a≠it:=by
   obtain⟨o,C,J,_⟩:=p.isList;obtain⟨o2,N,G,_⟩:=g;intro z;rw[z,N]at C
   cases C
   rw[J]at G;exact absurd (Value.type.inj G) ⋯
  have hl:=rv.length;have ei:F.toArray.size=i:=by rw[aY,<- hl,hx]
  exact wpAny_pyNext_enum_endD (Draws.list (A:=X.A.in1) (I.ok.hd hc) it a U F.toArray) f ⟨by rw[ei];exact g,p.isList⟩ λh' eb=>⟨rfl,I.turned (t':=s.toks) (λb o O q=>eb b o O q) i0 i1 i3 i4 i5⟩
 self:=λ_ _ _ _ _ st h=>let⟨⟨_,f⟩,_⟩:=st;wpAny_pyIter_enum f h
section
variable {X:Cx}
abbrev UB (K:au)(ta:TA):TI:=λσ H R=>ta σ H λvs H1=>∃a xs,vs=[.ref a]/\nh K H1 a xs/\R (RK K a) H1
def JU{a:aE}{ta:TA}{p:Pos}(hg:Gl X "enumerate")(U:X.mg "enumerate" = none)(Z:PA X [a] ta)(hs:starEach [a] X.env=[(false,eval a X.env)]<|>ε):PI X (.Tuple elts x1 tpos) (.Call (.Name "enumerate" p) [a] [] pos) (UB X.K ta):=by
 intro pins s σ H R I h;refine Call_<|uw I hg U Bm<|dw (l_ (Z pos pins s σ H _ I h) λus d ⟨vs,H1,I1,r1,C⟩=>?_) hs rfl;obtain⟨t,xs,e,N,q⟩:=C;subst e;obtain⟨u,rfl,rx⟩:=vals1 r1
 cases rx
 obtain⟨G,O,B,P⟩:=I1.list N;refine call_enumerate_list B.isList λh' k j F J=>?_;have L:Inv X pins σ H1 { d with heap:=h' }:=I1.kept (t':=d.toks) J;have f:d.heap.objs.size+1≠d.heap.objs.size:=()
 refine wpAny_pyIter_enum k ⟨_,[_,d.heap.objs.size],_,_,H1,rfl,L,E6 t _ d.heap.objs.size f,⟨⟨.none,k⟩,j⟩,λb m=>?_,q⟩;have g:b=d.heap.objs.size+1\/b=d.heap.objs.size:=by simpa using m
 rcases g with rfl|rfl
 ·exact I1.B6 (jv _) (I1.hok.fresh<|jv _)
 ·exact I1.B6 (aP _)<|I1.hok.fresh<|aP _
end
def Nu{X:Cx}{i:Nat}{spos:Pos}{iter:aE}{N:ba}{wi:TI}{g:TG}{tc:TT}{te:TE}
  (hN:X.N.Nodup) (hi':X.N[i]?=some y) (hx:Loc X.env.scope y) (hc:X.calm=true) (S:CpScope X scope N cap) (hi:PI X tg iter wi)
  (hg:∀C s₀ H₀ ex,PG (lM X scope N C s₀ H₀ ex) tg g) (ht:∀C s₀ H₀ ex,Q9 (lM X scope N C s₀ H₀ ex) ifs tc) (he:∀C s₀ H₀ ex,PE (lM X scope N C s₀ H₀ ex) elt te)
  (hsw:swapsWith (.ListComp elt [⟨tg,iter,ifs,0⟩] scope pos) (some<|.Name y py) spos.line X.env=pure true)
  (hf:X.fn y=true\/X.env.scope.names.lookup y=some .local) (hs:(∀x,foldedSetIterable iter X.env x=pure x)<|>ζ) :
  PS X (.Assign [.Name y py] (.ListComp elt [⟨tg,iter,ifs,0⟩] scope pos) spos) (OD (Rv cap wi g tc te)<|JE i):=by
 kst_p;rw[exec_Assign_Name_used _ _ _ _ hsw];refine aG (iC<|aG ?_)
 skip
 refine aG<|cS (HW (ok:=λY=>Y.calm=true) (Q':=λ_ s'=>SP X pins D .next s') S (λ_ _ _ _ _=>hc) (PI.g hi) hg ht he hs pins s σ H _ I h ?_) (λ_ s' hq=>aL<|aL hq) λ_ _ e=>e;intro J C P U m hn k G q v;have V:=G J.heap<|je _ _;obtain⟨K,j⟩:∃o,J.heap.get? C=some o/\∀v,o.data≠.cell v:=by
  obtain⟨o,es,ep,e,d,_⟩:=hn;exact⟨o,e,λv z=>by rw[d]at z;cases z⟩
 have T:=V.pinned (fp:=[C]) (λb f=>by rw[aX]at f;rw[f];exact k) (λb f=>by rw[aX]at f;rw[f];exact⟨K,j⟩)
 skip
 refine l_ (HK hN hi' hx hf _ J σ U (.ref P) (.ref P) _ T rfl q) λ_ s7 h9=>?_;obtain⟨F,L,p,Z⟩:=h9;have hp:=p.pin (C,K)<|bK _<|bK _<|oE (aX.mpr rfl) j.1;refine⟨m,hn.at' λo e=>by rw[j.1]at e;cases e;exact hp.1,λh' B=>?_⟩;have O:∀c v,L c=some v->c≠C:=λc v e z=>by rw[z,hp.2.1]at e;cases e
 refine⟨F,L,?_,Z⟩;refine p.r_.Mg (ch:=[C]) rfl ⟨λb o e n f hx=>?_,λb o e n f hx=>?_,λb o e n hx=>n,λb o e hx=>?_,λ_ _ e=>e,λ_ _ _ e=>e,λ_ _ e=>⟨#[],by rw[Array.append_empty];exact e⟩⟩ ?_ p.bare ?_
 ·exact B.extBut b o (by simpa using hx) e
 ·exact⟨o.slots,B.extBut b o (by simpa using hx) e⟩
 ·exact⟨o,B.extBut b o (by simpa using hx) e⟩
 ·intro b o e;refine(p.hok b o e).stay (λc v hc q=>B.extBut c v ?_ q) (λ_ q=>q) λ_ _ q=>q
  rcases hc with z|z
  ·rw[z];exact O b o e
  ·exact O c _ z
 ·intro b f;rw[aX]at f;rw[f];exact⟨k.2.2.2.1,k.2.1,k.2.2.2.2.1,k.2.2.2.2.2⟩
end L2
namespace Sx
open PySem PyProof.Rows
structure Ord where
 lt:Nat->Nat->Bool
 OT:∀i,lt i i=false
 tr:∀i j k,lt i j=true->lt j k=true->lt i k=true
 neg:∀i j k,lt i k=true->lt i j=true\/lt j k=true
abbrev P (o:Ord)(i j:Nat):Prop:=o.lt i j=true\/(o.lt j i=false/\i<j)
def Ord.Xz(o:Ord)(h:o.lt i j=true):o.lt j i=false:=by
 cases e:o.lt j i with
 | false=>rfl
 | true=>have:=o.tr _ _ _ h e;rw[o.OT]at this;cases this
def P.OT(h:P o i i):False:=by
 rcases h with h|⟨_,h⟩
 ·rw[o.OT]at h;cases h
 ·lia
def P.trans{k:Nat}(a:P o i j)(b:P o j k):P o i k:=by
 rcases a with a|⟨a,f⟩
 ·rcases b with b|⟨b,d⟩
  ·exact .inl (o.tr _ _ _ a b)
  ·rcases o.neg i k j a with z|z
   ·exact .inl z
   ·rw[b]at z;cases z
 ·rcases b with b|⟨b,d⟩
  ·rcases o.neg j i k b with z|z
   ·rw[a]at z;cases z
   ·exact .inl z
  ·refine .inr ⟨?_,()⟩
   cases e:o.lt k i with
   | false=>rfl
   | true=>
    rcases o.neg k j i e with z|z
    ·rw[b]at z;cases z
    ·rw[a]at z;cases z
def P.of_lt{o:Ord}(h:o.lt i j=true):P o i j:=.inl h
def P.HU{o:Ord}(h:o.lt j i=false)(J:i<j):P o i j:=.inr ⟨h,J⟩
def P.ge{o:Ord}(h:P o i j):o.lt j i=false:=by
 rcases h with h|⟨h,_⟩
 ·exact o.Xz h
 ·exact h
abbrev So (o:Ord)(g:Nat->Nat)(a b:Nat):Prop:=∀i j,a<=i->i<j->j<b->P o (g i) (g j)
abbrev Cl (g:Nat->Nat)(a b:Nat):Prop:=∀i,a<=i->i<b->a<=g i/\g i<b
abbrev rev (g:Nat->Nat)(i j:Nat):Nat->Nat:=λk=>if i<=k/\k<j then g (i+j-1-k)else g k
abbrev mv (g:Nat->Nat)(src j:Nat):Nat->Nat:=λk=>if k=j then g src else if j<k/\k<=src then g (k-1)else g k
def za{g:Nat->Nat}{k:Nat}(h:i<=k)(J:k<j):rev g i j k=g (i+j-1-k):=aQ ⟨h,J⟩
def pW{g:Nat->Nat}{k:Nat}(h:k<i\/j<=k):rev g i j k=g k:=aO ()
def JM{g:Nat->Nat}:mv g s d d=g s:=aQ rfl
def C_{g:Nat->Nat}{k:Nat}(h:d<k)(j:k<=s):mv g s d k=g (k-1):=by
 unfold mv;rw[aO (),aQ ⟨h,j⟩]
def Cp{g:Nat->Nat}{k:Nat}(hd:d<=s)(h:k<d\/s<k):mv g s d k=g k:=by
 unfold mv;rw[aO (),aO ()]
section
variable {prog:ah}{w:af}{A:az}{E:aa->aA->Prop}{s:aA}{o:Ord}{N:Nat}{f:Nat->Keyed}{kd:SortKind}{g:Nat->Nat}{p:Array (Nat×Nat×Nat)}{st:SortSt}
abbrev NC (prog:ah)(w:af)(A:az)(s:aA)(o:Ord)(N:Nat)(f:Nat->Keyed)(kd:SortKind):Prop:=
 ∀i j,i<N->j<N->∀(d:aa->aA->Prop) (Q:Bool->aA->Prop),Q (o.lt i j) s->wpAny (model prog w) A (keyLt' kd (f i).1 (f j).1) Q d s
structure Sg (N:Nat)(f:Nat->Keyed)(kd:SortKind)(g:Nat->Nat)(p:Array (Nat×Nat×Nat))(st:SortSt):Prop where
 size:(arrOf st).size=N
 get:∀i,i<N->(arrOf st)[i]?=some (f<|g i)
 lt:∀i,i<N->g i<N
 kind:kindOf st=kd
 failed:failedOf st=none
 pend:pendingOf st=p
def Tw(C:NC prog w A s o N f kd)(J:kindOf st=kd)(hi:i<N)(L:j<N){Q:bp->SortSt->Prop}(q:Q (some<|o.lt i j) st):wpS (model prog w) A E s (lt' (f i)<|f j) Q st:=by
 rw[lt'_eq];refine cG<|wpS_get ?_;rw[J];refine cG<|wpS_lift<|ff<|C i j hi L _ _ ⟨rfl,?_⟩;exact dR q
def CK{xs:Array Keyed}{i:Nat}{x:Keyed}(e:xs[i]?=some x){Q:Keyed->SortSt->Prop}(q:Q x st):wpS (model prog w) A E s (elem' xs i) Q st:=by
 rw[elem'_eq,e];exact dR q
def wH(C:NC prog w A s o N f kd)(h:Sg N f kd g p st)(hi:i<N)(J:j<N){Q:bp->SortSt->Prop}(q:Q (some<|o.lt (g i)<|g j) st):wpS (model prog w) A E s (ltAt' i j) Q st:=by
 rw[ltAt'_eq];refine cG (wpS_get ?_)
 skip
 exact cG<|CK (h.get i hi)<|cG<|CK (h.get j J)<|Tw C h.kind (h.lt i hi) (h.lt j J) q
def Sg.arr(h:Sg N f kd g p st){xs:Array Keyed}{g':Nat->Nat}(hs:xs.size=N)(hg:∀i,i<N->xs[i]?=some (f<|g' i))(j:∀i,i<N->g' i<N):Sg N f kd g' p (setArr st xs):=⟨hs,hg,j,h.kind,h.failed,h.pend⟩
def yM(h:Sg N f kd g p st)(J:j<=N){Q:Unit->SortSt->Prop}(q:∀st',Sg N f kd (rev g i j) p st'->Q Unit.unit st'):wpS (model prog w) A E s (reverseSlice' i j) Q st:=by
 rw[reverseSlice'_eq];refine wpS_modify (q _<|h.arr (by rw[mirror_size];exact h.size) (λk d=>?_) λk d=>?_)
 ·rw[getElem?_mirror_all<|by rw[h.size];exact J];unfold rev;by_cases c:i<=k/\k<j
  ·rw[aQ c,aQ c];exact h.get _ (by omega)
  ·rw[aO c,aO c];exact h.get _ d
 ·unfold rev;by_cases c:i<=k/\k<j
  ·rw[aQ c];exact h.lt _ (by omega)
  ·rw[aO c];exact h.lt _ d
def Q7(h:Sg N f kd g p st){a b:Nat}(j:a<N)(hb:b<=a){Q:Unit->SortSt->Prop}(q:∀st',Sg N f kd (mv g a b) p st'->Q Unit.unit st'):wpS (model prog w) A E s (moveDown' a b) Q st:=by
 rw[moveDown'_eq];refine wpS_modify (q _<|h.arr (by rw[bubble_size];exact h.size) (λk d=>?_) λk d=>?_)
 ·rw[getElem?_bubble (by rw[h.size];exact j) _ (),show a-(a-b)=b by lia];unfold mv;by_cases c:k=b
  ·rw[aQ c,aQ c];exact h.get _ j
  ·rw[aO c,aO c];by_cases c2:b<k/\k<=a
   ·rw[aQ c2,aQ c2];exact h.get _ ()
   ·rw[aO c2,aO c2];exact h.get _ d
 ·unfold mv;by_cases c:k=b
  ·rw[aQ c];exact h.lt _ j
  ·rw[aO c];by_cases c2:b<k/\k<=a
   ·rw[aQ c2];exact h.lt _ ()
   ·rw[aO c2];exact h.lt _ d
structure Rn (o:Ord)(g0 g:Nat->Nat)(a b:Nat):Prop where
 out:∀i,i<a\/b<=i->g i=g0 i
 cl:Cl g a b
 so:So o g a b
def Su{g0:Nat->Nat}{lo k:Nat}(R:Rn o g0 g lo<|lo+k)(J:g (lo+k)=lo+k)(U:l<=k)(h1:∀i,i<l->P o (g<|lo+i) (lo+k))(L:∀i,l<=i->i<k->P o (lo+k) (g<|lo+i)):Rn o g0 (mv g (lo+k)<|lo+l) lo (lo+(k+1)) where
 out i hi:=by rw[Cp () ()];exact R.out i ()
 cl i a b:=by
  by_cases c:i=lo+l
  ·subst c;rw[JM,J];lia
  ·by_cases c2:lo+l<i
   ·rw[C_ c2 ()];have:=R.cl (i-1) () ()
    lia
   ·rw[Cp () ()];have:=R.cl i () ()
    lia
 so i j a b d:=by
  by_cases c:i=lo+l
  ·subst c;rw[JM,C_ b (),J];have:=L (j-1-lo) () ()
   rwa [show lo+(j-1-lo)=j-1 by lia]at this
  ·by_cases c2:lo+l<i
   ·rw[C_ c2 (),C_ () ()];exact R.so _ _ () () ()
   ·rw[Cp (k:=i) () ()];by_cases c3:j=lo+l
    ·subst c3;rw[JM,J];have:=h1 (i-lo) ()
     rwa [show lo+(i-lo)=i by lia]at this
    ·by_cases f:lo+l<j
     ·rw[C_ f ()];exact R.so _ _ () () ()
     ·rw[Cp () ()];exact R.so _ _ () () ()
def SO(C:NC prog w A s o N f kd){g0:Nat->Nat}{lo n ok:Nat}(h:Sg N f kd g p st)(hn:lo+n<=N)(h1:1<=ok)(hok:ok<=n)(R:Rn o g0 g lo<|lo+ok)(hid:∀i,lo+ok<=i->i<lo+n->g0 i=i)
  {Q:Bool->SortSt->Prop} (q:∀g' st',Sg N f kd g' p st'->Rn o g0 g' lo (lo+n)->Q true st'):wpS (model prog w) A E s (binarySort' lo n ok) Q st:=by
 rw[binarySort'_eq,show max ok 1=ok by lia];refine cG (wpS_mono (gV (I:=λk c st'=>c=(none,Unit.unit)/\∃g',Sg N f kd g' p st'/\Rn o g0 g' lo (lo+min k n))
  (Q:=λc st'=>c=(none,Unit.unit)/\∃g',Sg N f kd g' p st'/\Rn o g0 g' lo (lo+n)) ?step ?fin ?init) ?post)
 case post=>
  rintro c st' ⟨rfl,g',h',j⟩;exact dR<|q g' st' h' j
 case init=>exact⟨rfl,g,h,by rw[show min ok n=ok by lia];exact R⟩
 case fin=>
  rintro c st' ⟨hc,g',h',j⟩;exact⟨hc,g',h',by rwa [show min (max ok n) n=n by lia]at j⟩
 case step=>
  rintro k c st' Y Z ⟨rfl,g',h',j⟩;rw[show min k n=k by lia]at j;have K:g' (lo+k)=lo+k:=by rw[j.out _ ()];exact hid _ () ()
  refine cG (wpS_mono (gV (I:=λx c s2=>s2=st'/\∃u v,c=(none,u,v)/\u<=v/\v<=k/\v-u<=k-x /\
    (∀i,i<u->P o (g'<|lo+i) (lo+k))/\(∀i,v<=i->i<k->P o (lo+k) (g'<|lo+i)))
   (Q:=λc s2=>s2=st'/\∃u v,c=(none,u,v)/\u<=k /\
    (∀i,i<u->P o (g'<|lo+i) (lo+k))/\(∀i,u<=i->i<k->P o (lo+k) (g'<|lo+i))) ?istep ?ifin ?iinit) ?ipost)
  case iinit=>exact⟨rfl,0,k,rfl,(),(),(),λi hi=>(),λi h1 T=>()⟩
  case ifin=>
   rintro c s2 ⟨rfl,u,v,rfl,J,B,O,low,top⟩;have:u=v:=()
   subst this;exact⟨rfl,u,u,rfl,B,low,top⟩
  case istep=>
   rintro x c s2 _ hxk ⟨rfl,u,v,rfl,J,B,O,low,top⟩;dsimp only;by_cases F:u>=v
   ·rw[aQ F];have:u=v:=()
    subst this;exact dR ⟨rfl,u,u,rfl,B,low,top⟩
   ·rw[aO F];have hmk:(u+v) / 2<k:=()
    have L:=j.cl (lo+(u+v) / 2) () ();refine cG<|wH C h' () () ?_;rw[K]
    cases d:o.lt (lo+k) (g'<|lo+(u+v) / 2)
    case true=>
     dsimp[dB];refine dR ⟨rfl,u,(u+v) / 2,rfl,(),(),(),low,λi h1 T=>?_⟩;by_cases c:i=(u+v) / 2
     ·subst c;exact .inl d
     ·exact(P.of_lt d).trans (j.so _ _ () () ())
    case false=>
     dsimp[bZ,dS];refine dR ⟨rfl,(u+v) / 2+1,v,rfl,(),(),(),λi h1=>?_,top⟩;have m:=P.HU d L.2;by_cases c:i=(u+v) / 2
     ·subst c;exact m
     ·exact(j.so _ _ () () ()).trans m
  case ipost=>
   rintro c s2 ⟨rfl,u,v,rfl,G,low,top⟩;dsimp only;refine cG<|Q7 h' () () λU V=>?_;refine dR ⟨rfl,_,V,?_⟩;rw[show min (k+1) n=k+1 by lia];exact Su j K G low top
end
meta abbrev As:=Option (bt)×Nat
meta abbrev Ds:=Option (bt)×Nat×Nat
abbrev MB (lo a j:Nat):StateT SortSt Sem As:=
 forIn [a:j] ((none,a):As) λ_ c=>do
  let x <- ltAt' (lo+c.2) (lo+c.2-1)
  match x with
  | some b=>if b=true then pure (ForInStep.done (none,c.2))else pure (ForInStep.yield (none,c.2+1))
  | _=>pure<|ForInStep.done (some none,c.2)
abbrev CF (lo n j:Nat):StateT SortSt Sem (bt):=do
 reverseSlice' lo (lo+n)
 let c <- MB lo n j
 match c.1 with
 | some r=>pure r
 | none=>pure<|some c.2
abbrev NO (lo n j:Nat):StateT SortSt Sem Ds:=
 forIn [n:j] ((none,n,0):Ds) λ_ c=>do
  let x <- ltAt' (lo+c.2.1) (lo+c.2.1-1)
  match x with
  | some b=>
   if b=true then
    if c.2.2>0 then do
     reverseSlice' (lo+c.2.1-(c.2.2+1)) (lo+c.2.1)
     pure (ForInStep.yield (none,c.2.1+1,0))
    else pure (ForInStep.yield (none,c.2.1+1,0))
   else do
    let x <- ltAt' (lo+c.2.1-1) (lo+c.2.1)
    match x with
    | some b=>
     if b=true then pure (ForInStep.done (none,c.2.1,c.2.2))
     else pure (ForInStep.yield (none,c.2.1+1,c.2.2+1))
    | _=>pure<|ForInStep.done (some none,c.2.1,c.2.2)
  | _=>pure<|ForInStep.done (some none,c.2.1,c.2.2)
abbrev Jz (lo n j:Nat):StateT SortSt Sem (bt):=do
 liftM (rule "list.sort.descending-run")
 let c <- NO lo (n+1) j
 match c.1 with
 | some r=>pure r
 | none=>
  if c.2.2>0 then do
   reverseSlice' (lo+c.2.1-(c.2.2+1)) (lo+c.2.1)
   CF lo c.2.1 j
  else CF lo c.2.1 j
def count_eq(lo J:Nat):countRun' lo J=(do
  let c <- MB lo 1 J
  match c.1 with
  | some r=>pure r
  | none=>
   if (c.2 == J)=true then pure (some c.2)
   else if c.2>1 then do
    let x <- ltAt' lo (lo+c.2-1)
    match x with
    | some b=>if b=true then pure (some c.2)else do
      reverseSlice' lo (lo+c.2)
      Jz lo c.2 J
    | _=>pure none
   else Jz lo c.2 J):=by
 rw[countRun'_eq];dsimp only;unfold Jz CF NO MB;congr 1
 funext c
 obtain⟨r,n⟩:=c
 cases r with
 | some r=>rfl
 | none=>
  dsimp only;split
  ·rfl
  ·split
   ·congr 1
    funext x
    cases x with
    | none=>rfl
    | some b=>
     dsimp only;split
     ·rfl
     ·congr 1
      funext _r
      congr 1
      funext _u
      congr 1;congr 1
      funext s2
      obtain⟨r2,j,g⟩:=s2
      cases r2 with
      | some r2=>rfl
      | none=>
       dsimp only;split
       ·congr 1
        funext _v
        congr 1
        funext _w
        congr 1
        funext s3
        obtain⟨d,f⟩:=s3
        cases d<;>rfl
       ·congr 1
        funext _w
        congr 1
        funext s3
        obtain⟨d,f⟩:=s3
        cases d<;>rfl
   ·congr 1
    funext _u
    congr 1;congr 1
    funext s2
    obtain⟨r2,j,g⟩:=s2
    cases r2 with
    | some r2=>rfl
    | none=>
     dsimp only;split
     ·congr 1
      funext _v
      congr 1
      funext _w
      congr 1
      funext s3
      obtain⟨d,f⟩:=s3
      cases d<;>rfl
     ·congr 1
      funext _w
      congr 1
      funext s3
      obtain⟨d,f⟩:=s3
      cases d<;>rfl
section
variable {prog:ah}{w:af}{A:az}{E:aa->aA->Prop}{s:aA}{o:Ord}{N:Nat}{f:Nat->Keyed}{kd:SortKind}{g g0:Nat->Nat}{p:Array (Nat×Nat×Nat)}{st:SortSt}
def Rn.snoc{a b:Nat}(R:Rn o g0 g a b)(J:a<b)(hb:g b=b)(h:o.lt b (g<|b-1)=false):Rn o g0 g a (b+1) where
 out i hi:=R.out i ()
 cl i h1 h2:=by
  by_cases c:i=b
  ·subst c;lia
  ·have:=R.cl i h1 ();lia
 so i j h1 h2 h3:=by
  by_cases c:j=b
  ·subst c;rw[hb];have l:=R.cl (j-1) () ();have d:P o (g<|j-1) j:=P.HU h l.2;by_cases c2:i=j-1
   ·subst c2;exact d
   ·exact(R.so i (j-1) h1 () ()).trans d
  ·exact R.so i j h1 h2 ()
def J9(C:NC prog w A s o N f kd){lo a:Nat}(h:Sg N f kd g p st)(hn:lo+nrem<=N)(h1:1<=a)(J:a<=nrem)(R:Rn o g0 g lo<|lo+a)(L:∀i,lo+a<=i->i<lo+nrem->g0 i=i)
  {Q:As->SortSt->Prop} (q:∀n,a<=n->n<=nrem->Rn o g0 g lo (lo+n)->(n=nrem\/o.lt (lo+n) (g<|lo+n-1)=true)->Q (none,n) st):wpS (model prog w) A E s (MB lo a nrem) Q st:=by
 unfold MB;refine gV (I:=λx c d=>d=st/\c=(none,x)/\Rn o g0 g lo (lo+x)) ?step ?fin ⟨rfl,rfl,R⟩
 case fin=>
  rintro c d ⟨rfl,rfl,j⟩;rw[show max a nrem=nrem by lia]at j ⊢;exact q nrem J (aP _) j<|.inl rfl
 case step=>
  rintro x c d k F ⟨rfl,rfl,j⟩;dsimp only;have m:g (lo+x)=lo+x:=by rw[j.out _ ()];exact L _ () ()
  refine cG<|wH C h () () ?_;rw[m]
  cases B:o.lt (lo+x) (g<|lo+x-1)
  case true=>
   dsimp[dB];exact dR<|q x k () j<|.inr B
  case false=>
   dsimp[bZ,dS];exact dR ⟨rfl,rfl,j.snoc () m B⟩
structure Dc (o:Ord)(g0 g:Nat->Nat)(a b q:Nat):Prop where
 out:∀i,i<a\/b<=i->g i=g0 i
 cl:Cl g a b
 few:a+(q+1)<=b
 dn:∀i j,a<=i->i<j->j<b->i<b-(q+1)->P o (g j) (g i)
 id:∀i,b-(q+1)<=i->i<b->g i=i
 al:∀i j,b-(q+1)<=i->i<b->b-(q+1)<=j->j<b->o.lt i j=false
def Dc.turn{a b q:Nat}(D:Dc o g0 g a b q):(∀i,i<a\/b<=i->rev g (b-(q+1)) b i=g0 i)/\Cl (rev g (b-(q+1)) b) a b/\(∀i j,a<=i->i<j->j<b->P o (rev g (b-(q+1)) b j) (rev g (b-(q+1)) b i))/\(∀i,b-(q+1)<=i->i<b->∃k,rev g (b-(q+1)) b i=k/\b-(q+1)<=k/\k<b):=by
 have few:=D.few;have d:∀i,b-(q+1)<=i->i<b->rev g (b-(q+1)) b i=b-(q+1)+b-1-i:=λi h1 f=>by
  rw[za h1 f];exact D.id _ (by omega)<|by omega
 refine⟨λi hi=>?_,λi h1 f=>?_,λi j h1 f m=>?_,λi h1 f=>⟨_,d i h1 f,by omega,by omega⟩⟩
 ·rw[pW<|by omega];exact D.out i hi
 ·by_cases c:i<b-(q+1)
  ·rw[pW<|by omega];exact D.cl i h1 f
  ·rw[d i (by omega) f];omega
 ·by_cases c:i<b-(q+1)
  ·rw[pW (k:=i)<|by omega];by_cases c2:j<b-(q+1)
   ·rw[pW<|by omega];exact D.dn i j h1 f m c
   ·rw[d j (by omega) m];have:=D.dn i (b-(q+1)+b-1-j) h1 (by omega) (by omega) c
    rwa [D.id _ (by omega)<|by omega]at this
  ·rw[d i (by omega)<|by omega,d j (by omega) m];exact P.HU (D.al _ _ (by omega) (by omega) (by omega)<|by omega)<|by omega
abbrev Fin (o:Ord)(g0 g:Nat->Nat)(a b:Nat):Prop:=(∀i,i<a\/b<=i->g i=g0 i)/\Cl g a b/\(∀i j,a<=i->i<j->j<b->P o (g j) (g i))
def Dc.Ws{a b:Nat}(D:Dc o g0 g a b 0):Fin o g0 g a b:=⟨D.out,D.cl,λi j h1 d f=>D.dn i j h1 d f ()⟩
def Fin.rn{a b:Nat}(D:Fin o g0 g a b):Rn o g0 (rev g a b) a b where
 out i hi:=by rw[pW hi];exact D.1 i hi
 cl i h1 h2:=by
  rw[za h1 h2];exact D.2.1 _ () ()
 so i j h1 h2 h3:=by
  rw[za h1 (),za () h3];exact D.2.2 _ _ () () ()
def Fin.add{a b:Nat}(D:Fin o g0 g a b)(hb:g b=b)(J:a<b)(h:∀i,a<=i->i<b->P o b (g i)):Dc o g0 g a (b+1) 0 where
 out i hi:=D.1 i ()
 cl i h1 h2:=by
  by_cases c:i=b
  ·subst c;lia
  ·have:=D.2.1 i h1 ();lia
 few:=()
 dn i j h1 h2 h3 _:=by
  by_cases c:j=b
  ·subst c;rw[hb];exact h i h1 h2
  ·exact D.2.2 i j h1 h2 ()
 id i h1 h2:=by
  have:i=b:=()
  rw[this,hb]
 al i j h1 h2 h3 h4:=by
  have:i=j:=()
  rw[this];exact o.OT _
def Fg(C:NC prog w A s o N f kd){lo n:Nat}(h:Sg N f kd g p st)(hn:lo+nrem<=N)(h1:1<=n)(J:n<=nrem)(D:Fin o g0 g lo<|lo+n)(L:∀i,lo<=i->i<lo+nrem->g0 i=i)
  {Q:bt->SortSt->Prop} (q:∀m g' st',Sg N f kd g' p st'->1<=m->m<=nrem->Rn o g0 g' lo (lo+m)->Q (some m) st'):wpS (model prog w) A E s (CF lo n nrem) Q st:=by
 unfold CF;refine cG<|yM h () λk j=>?_;exact cG<|J9 C j hn h1 J D.rn (λi a b=>L i () b) λm B d R _=>dR<|q m _ _ j () d R
def TU(C:NC prog w A s o N f kd){lo n:Nat}(h:Sg N f kd g p st)(hn:lo+nrem<=N)(h1:1<=n)(han:n<=nrem)(D:Dc o g0 g lo (lo+n) 0)(hid:∀i,lo<=i->i<lo+nrem->g0 i=i)
  {Q:Ds->SortSt->Prop} (q:∀m e g' st',Sg N f kd g' p st'->1<=m->m<=nrem->Dc o g0 g' lo (lo+m) e->Q (none,m,e) st'):wpS (model prog w) A E s (NO lo n nrem) Q st:=by
 unfold NO;refine gV (I:=λx c st'=>∃e g',c=(none,x,e)/\Sg N f kd g' p st'/\Dc o g0 g' lo (lo+x) e) ?step ?fin ⟨0,g,rfl,h,D⟩
 case fin=>
  rintro c st' ⟨e,g',rfl,h',D'⟩;rw[show max n nrem=nrem by lia]at D' ⊢;exact q nrem e g' st' h' () (aP _) D'
 case step=>
  rintro x c st' hax V ⟨e,g',rfl,h',D'⟩;dsimp only;have few:=D'.few;have F:g' (lo+x)=lo+x:=by rw[D'.out _ ()];exact hid _ () ()
  have B:g' (lo+x-1)=lo+x-1:=D'.id _ () ();refine cG<|wH C h' () () ?_;rw[F,B]
  cases G:o.lt (lo+x) (lo+x-1)
  case true=>
   dsimp[dB];by_cases K:e>0
   ·rw[aQ K];obtain⟨L,t2,Z,T⟩:=D'.turn;refine cG<|yM h' () λU O=>dR ⟨0,_,rfl,O,?_⟩;refine Fin.add (b:=lo+x) ⟨L,t2,Z⟩ (by rw[pW ()];exact F) () λi a b=>?_;by_cases c:lo+x-(e+1)<=i
    ·obtain⟨k,Y,k1,k2⟩:=T i c b;rw[Y]
     rcases o.neg _ k _ G with z|z
     ·exact .inl z
     ·rw[D'.al _ _ k1 k2 () ()]at z;cases z
    ·rw[pW ()];have:=D'.dn i (lo+x-1) a () () ();rw[B]at this;exact(P.of_lt G).trans this
   ·rw[aO K];have:e=0:=()
    subst this;refine dR ⟨0,_,rfl,h',Fin.add (b:=lo+x) D'.Ws F () λi a b=>?_⟩;by_cases c:i=lo+x-1
    ·subst c;rw[B];exact .inl G
    ·have:=D'.dn i (lo+x-1) a () () ();rw[B]at this;exact(P.of_lt G).trans this
  case false=>
   dsimp[bZ,dS];refine cG<|wH C h' () () ?_;rw[F,B]
   cases hg:o.lt (lo+x-1) (lo+x)
   case true=>
    dsimp[dB];exact dR<|q x e g' st' h' () () D'
   case false=>
    dsimp[bZ,dS];refine dR ⟨e+1,g',rfl,h',?_⟩;have J:∀i,lo+x-(e+1)<=i->i<lo+x->o.lt i (lo+x)=false/\o.lt (lo+x) i=false:=λi a b=>by
     constructor
     ·cases z:o.lt i (lo+x)with
      | false=>rfl
      | true=>
       rcases o.neg _ (lo+x-1) _ z with y|y
       ·rw[D'.al _ _ a b () ()]at y;cases y
       ·rw[hg]at y;cases y
     ·cases z:o.lt (lo+x) i with
      | false=>rfl
      | true=>
       rcases o.neg _ (lo+x-1) _ z with y|y
       ·rw[G]at y;cases y
       ·rw[D'.al _ _ () () a b]at y;cases y
    exact {
     out:=λi hi=>D'.out i ()
     cl:=λi a b=>by
      by_cases c:i=lo+x
      ·subst c;lia
      ·have:=D'.cl i a ();lia
     few:=()
     dn:=λi j a b c d=>by
      by_cases z:j=lo+x
      ·subst z;rw[F];have y:=D'.dn i (lo+x-1) a () () ();rw[B]at y;have gi:=D'.cl i a ()
       rcases y with y|⟨_,y⟩
       ·rcases o.neg _ (lo+x) _ y with v|v
        ·rw[hg]at v;cases v
        ·exact .inl v
       ·lia
      ·exact D'.dn i j a b () ()
     id:=λi a b=>by
      by_cases z:i=lo+x
      ·subst z;exact F
      ·exact D'.id i () ()
     al:=λi j a b c d=>by
      by_cases z:i=lo+x
      ·subst z;by_cases y:j=lo+x
       ·subst y;exact o.OT _
       ·exact(J j () ()).2
      ·by_cases y:j=lo+x
       ·subst y;exact(J i () ()).1
       ·exact D'.al i j () () () ()}
def F9(C:NC prog w A s o N f kd){lo n:Nat}(h:Sg N f kd g p st)(hn:lo+nrem<=N)(U:n+1<=nrem)(D:Dc o g0 g lo (lo+(n+1)) 0)(L:∀i,lo<=i->i<lo+nrem->g0 i=i)
  {Q:bt->SortSt->Prop} (q:∀m g' st',Sg N f kd g' p st'->1<=m->m<=nrem->Rn o g0 g' lo (lo+m)->Q (some m) st'):wpS (model prog w) A E s (Jz lo n nrem) Q st:=by
 unfold Jz;refine cG<|wpS_lift<|gF ⟨rfl,?_⟩;refine cG<|TU C h hn () U D L λm e g' st' h' k d D'=>?_;dsimp only;by_cases j:e>0
 ·rw[aQ j];obtain⟨J,K,G,_⟩:=D'.turn;exact cG (yM h' () λB F=>Fg C F hn k d ⟨J,K,G⟩ L q)
 ·rw[aO j];have:e=0:=()
  subst this;exact Fg C h' hn k d D'.Ws L q
def J7(C:NC prog w A s o N f kd){lo:Nat}(h:Sg N f kd g p st)(hn:lo+nrem<=N)(h1:1<=nrem)(Z:∀i,lo<=i->i<lo+nrem->g i=i)
  {Q:bt->SortSt->Prop} (q:∀m g' st',Sg N f kd g' p st'->1<=m->m<=nrem->Rn o g g' lo (lo+m)->Q (some m) st'):wpS (model prog w) A E s (countRun' lo nrem) Q st:=by
 rw[count_eq];refine cG (J9 C h hn (aP 1) h1 (g0:=g) ⟨λ_ _=>rfl,λi a b=>?_,λi j a b c=>()⟩ (λi a b=>Z i () b) λn L T R J=>?_)
 ·have:i=lo:=()
  subst this;rw[Z i (aP _) ()];lia
 dsimp only;by_cases F:n=nrem
 ·rw[aQ<|by simpa using F];exact dR (q n g st h L T R)
 ·rw[aO<|by simpa using F];have k:=J.resolve_left F;rw[Z (lo+n-1) () ()]at k;have K:g (lo+n)=lo+n:=Z _ () ();by_cases G:n>1
  ·rw[aQ G];refine cG<|wH C h () () ?_;rw[Z lo () (),Z (lo+n-1) () ()]
   cases Y:o.lt lo (lo+n-1)
   case true=>
    dsimp[dB];exact dR<|q n g st h L T R
   case false=>
    dsimp[bZ,dS];have d:∀i,lo<=i->i<lo+n->g i=i:=λi a b=>Z i a ();have O:∀i j,lo<=i->i<j->j<lo+n->o.lt i j=false/\o.lt j i=false:=λi j a b c=>by
     have r:=R.so i j a b c;rw[d i a (),d j () c]at r;refine⟨?_,r.ge⟩
     cases z:o.lt i j with
     | false=>rfl
     | true=>
      rcases o.neg _ lo _ z with y|y
      ·by_cases x:i=lo
       ·subst x;rw[o.OT]at y;cases y
       ·have r2:=R.so lo i () () ();rw[d i a (),d lo () ()]at r2;rw[r2.ge]at y;cases y
      ·rcases o.neg _ (lo+n-1) _ y with x|x
       ·rw[Y]at x;cases x
       ·by_cases v:j=lo+n-1
        ·subst v;rw[o.OT]at x;cases x
        ·have r2:=R.so j (lo+n-1) () () ();rw[d j () c,d (lo+n-1) () ()]at r2;rw[r2.ge]at x;cases x
    refine cG<|yM h () λV U=>F9 C U hn () ?_ Z q;have B:∀i,lo<=i->i<lo+n->rev g lo (lo+n) i=lo+(lo+n)-1-i:=λi a b=>by rw[za a b];exact d _ () ()
    refine Fin.add (b:=lo+n) ⟨λi hi=>pW hi,λi a b=>by rw[B i a b];lia,λi j a b c=>?_⟩ (by rw[pW ()];exact K) () λi a b=>?_
    ·rw[B i a (),B j () c];exact P.HU (O _ _ () () ()).2 ()
    ·rw[B i a b];by_cases x:lo+(lo+n)-1-i=lo+n-1
     ·rw[x];exact .inl k
     ·rcases o.neg _ (lo+(lo+n)-1-i) _ k with z|z
      ·exact .inl z
      ·rw[(O _ _ () () ()).1]at z;cases z
  ·rw[aO G];have:n=1:=()
   subst this;refine F9 C h hn () ?_ Z q;refine Fin.add (b:=lo+1) ⟨λi hi=>rfl,R.cl,λi j a b c=>()⟩ K () λi a b=>?_;have:i=lo:=()
   subst this;rw[Z i () ()];rw[show i+1-1=i by lia]at k;exact .inl k
end
abbrev OV (N:Nat):Prop:=∀{prog:ah}{w:af}{A:az}{E:aa->aA->Prop}{s:aA}{o:Ord}{f:Nat->Keyed}{kd:SortKind}{st:SortSt}{Q:Unit->SortSt->Prop},NC prog w A s o N f kd->Sg N f kd (λi=>i) #[] st->(∀g' g d,Sg N f kd g' g d->Cl g' 0 N->So o g' 0 N->Q Unit.unit d)->wpS (model prog w) A E s sortRuns' Q st
abbrev RO (N:Nat):Prop:=2<=N->OV N
def Sg.Zd{N:Nat}{f:Nat->Keyed}{kd:SortKind}{g:Nat->Nat}{p:Array<|Nat×Nat×Nat}{st:SortSt}(h:Sg N f kd g p st)(j:Array<|Nat×Nat×Nat):Sg N f kd g j (setPending st j):=⟨h.size,h.get,h.lt,h.kind,h.failed,rfl⟩
def Xi{N:Nat}(h64:N<64):RO N:=by
 intro h2 prog w A E s o f kd st Q C h q;rw[sortRuns'_eq];refine cG<|wpS_get ?_;dsimp only;have F:minRun' N N 0=N:=by
  obtain⟨k,hk⟩:∃k,N=k+1:=⟨N-1,()⟩;have:minRun' (k+1) N 0=N:=by rw[minRun'_succ,aQ h64];rfl
  rwa [<- hk]at this
 rw[h.size,F];refine cG (wpS_mono (gV
  (I:=λx c j=>(x=0/\c=(none,0)/\Sg N f kd (λi=>i) #[] j)\/(1<=x/\c=(none,N)/\∃g p,Sg N f kd g p j/\Cl g 0 N/\So o g 0 N/\p.size=1))
  (Q:=λc j=>c=(none,N)/\∃g p,Sg N f kd g p j/\Cl g 0 N/\So o g 0 N/\p.size=1) ?step ?fin (.inl ⟨rfl,rfl,h⟩)) ?post)
 case fin=>
  rintro c j (⟨J,_,_⟩|⟨_,hc,G⟩)
  ·lia
  ·exact⟨hc,G⟩
 case step=>
  rintro x c j _ J (⟨rfl,rfl,U⟩|⟨K,rfl,G⟩)
  ·dsimp only;rw[aO ()];refine cG<|J7 C U () () (λi a b=>rfl) λm Y Z s1 L m2 R1=>?_;dsimp only;by_cases c2:m<N
   ·rw[aQ c2];refine cG<|wpS_lift<|gF ⟨rfl,?_⟩;rw[show min (N-0) N=N by lia];refine cG<|SO C s1 () L () R1 (λi a b=>rfl) λV P s2 R2=>?_;rw[aO ⋯];refine cG<|wpS_get ?_;rw[s2.pend];show wpS _ _ _ _ _ _ _;refine cG (wpS_modify<|dR<|.inr ⟨(),by rw[eX],V,_,s2.Zd _,by have:=R2.cl;rwa [eX]at this,by have:=R2.so;rwa [eX]at this,?_⟩);rw[s2.pend];rfl
   ·rw[aO c2];have O:m=N:=()
    subst O;refine cG<|wpS_get ?_;rw[s1.pend];refine cG (wpS_modify<|dR<|.inr ⟨(),by rw[eX],Y,_,s1.Zd _,by have:=R1.cl;rwa [eX]at this,by have:=R1.so;rwa [eX]at this,?_⟩);rw[s1.pend];rfl
  ·dsimp only;rw[aQ<|aP _];exact dR ⟨rfl,G⟩
 case post=>
  rintro c j ⟨rfl,g,p,h1,B,T,h4⟩;dsimp only;refine cG (wpS_mono (gV (I:=λx c d=>c=(none,Unit.unit)/\Sg N f kd g p d) (Q:=λc d=>c=(none,Unit.unit)/\Sg N f kd g p d) ?fstep (λ_ _ z=>z) ⟨rfl,h1⟩) ?fpost)
  case fstep=>
   rintro x c d _ J ⟨rfl,h1⟩;refine cG<|wpS_get ?_;rw[h1.pend,aQ ()];exact dR ⟨rfl,h1⟩
  case fpost=>
   rintro c d ⟨rfl,h1⟩;dsimp only;exact dR<|q g p d h1 B T
abbrev HA:Bool->Keyed->Array Keyed->Nat->Nat->Nat->StateT SortSt Sem (bt):=sortPriv% PySem.Builtin.gallop
abbrev Vf:Nat->StateT SortSt Sem Unit:=sortPriv% PySem.Builtin.setMinGallop
section
variable {o:Ord}{N:Nat}{f:Nat->Keyed}{A B hs:ar}{ia ib:Nat}
abbrev fa (f:Nat->Keyed)(l:ar):Array Keyed:=(l.map f).toArray
abbrev Res (o:Ord)(f:Nat->Keyed)(A B:ar)(out:Array Keyed):Prop:=∃hs:ar,out=fa f hs/\hs.length=A.length+B.length/\hs.Pairwise (P o)/\∀x∈hs,x∈A\/x∈B
end
structure Sm (st st':SortSt):Prop where
 a:arrOf st'=arrOf st
 k:kindOf st'=kindOf st
 p:pendingOf st'=pendingOf st
 f:failedOf st'=failedOf st
meta abbrev G:=Option (Array Keyed)×Array Keyed×Nat×Nat×Nat×Nat×Nat
abbrev T3 (a b out:Array Keyed)(ia ib mg j J:Nat):StateT SortSt Sem (ForInStep G):=do
 let x <- elem' a ia
 if (ia+1+1 == a.size)=true then pure (ForInStep.done (some<|out.push x++b.extract ib b.size++a.extract (ia+1) a.size,out.push x,ia+1,ib,mg,j,J))
 else if (decide (j<7) && decide (J<7))=true then pure (ForInStep.done (none,out.push x,ia+1,ib,mg,j,J))
 else pure (ForInStep.yield (none,out.push x,ia+1,ib,mg,j,J))
abbrev T2 (a b out:Array Keyed)(ia ib mg j J:Nat):StateT SortSt Sem (ForInStep G):=do
 let x <- elem' b ib
 if (ib+1 == b.size)=true then pure (ForInStep.done (some<|out.push x++a.extract ia a.size++b.extract (ib+1) b.size,out.push x,ia,ib+1,mg,j,J))
 else
  let y <- elem' a ia
  let r <- HA true y b (ib+1) (b.size-(ib+1)) 0
  match r with
  | some k=>
   if k>0 then
    if (ib+1+k == b.size)=true then pure (ForInStep.done (some<|out.push x++b.extract (ib+1) (ib+1+k)++a.extract ia a.size++b.extract (ib+1+k) b.size,out.push x++b.extract (ib+1) (ib+1+k),ia,ib+1+k,mg,j,k))
    else T3 a b (out.push x++b.extract (ib+1) (ib+1+k)) ia (ib+1+k) mg j k
   else T3 a b (out.push x) ia (ib+1) mg j k
  | _=>pure<|ForInStep.done (some<|out.push x++a.extract ia a.size++b.extract (ib+1) b.size,out.push x,ia,ib+1,mg,j,J)
abbrev T1 (a b out:Array Keyed)(ia ib mg J j:Nat):StateT SortSt Sem (ForInStep G):=do
 Vf mg
 let x <- elem' b ib
 let r <- HA false x a ia (a.size-ia) 0
 match r with
 | some k=>
  if k>0 then
   if (ia+k+1 == a.size)=true then pure (ForInStep.done (some<|out++a.extract ia (ia+k)++b.extract ib b.size++a.extract (ia+k) a.size,out++a.extract ia (ia+k),ia+k,ib,mg,k,j))
   else if (ia+k == a.size)=true then pure (ForInStep.done (some<|out++a.extract ia (ia+k)++a.extract (ia+k) a.size++b.extract ib b.size,out++a.extract ia (ia+k),ia+k,ib,mg,k,j))
   else T2 a b (out++a.extract ia (ia+k)) (ia+k) ib mg k j
  else T2 a b out ia ib mg k j
 | _=>pure<|ForInStep.done (some<|out++a.extract ia a.size++b.extract ib b.size,out,ia,ib,mg,J,j)
section
variable {o:Ord}{A B ts:ar}{na nb:Nat}
structure Mh (o:Ord)(A B ts:ar)(na nb:Nat):Prop where
 la:na<=A.length
 lb:nb<=B.length
 len:ts.length+na+nb=A.length+B.length
 so:ts.Pairwise (P o)
 mem:∀x∈ts,x∈A\/x∈B
 ua:∀y∈A.take na,∀x∈ts,P o y x
 ub:∀y∈B.take nb,∀x∈ts,P o y x
end
meta abbrev H:=Option (Array Keyed)×Nat×Nat×Array Keyed×Nat×Nat×Nat
section
variable {o:Ord}{f:Nat->Keyed}{st0:SortSt}{X Y ts:ar}{na nb:Nat}
abbrev Oh (o:Ord)(X Y:ar)(n:Nat)(ts:ar)(na nb:Nat):Prop:=Mh o X Y ts na nb/\1<=na/\2<=nb/\na+nb+n<=X.length+Y.length
abbrev H2 (o:Ord)(f:Nat->Keyed)(X Y:ar)(n:Nat)(st0:SortSt):ForInStep H->SortSt->Prop:=λr j=>Sm st0 j/\match r with
 | .done c=>(∃r z,c=(some r,z)/\Res o f X Y r)\/∃ts na nb mg g d,c=(none,na,nb,fa f ts.reverse,mg,g,d)/\Oh o X Y n ts na nb
 | .yield c=>∃ts na nb mg g d,c=(none,na,nb,fa f ts.reverse,mg,g,d)/\Oh o X Y n ts na nb
end
meta abbrev pr (x:Nat×Nat×Nat):Nat×Nat:=(x.1,x.2.1)
abbrev U1 (o:Ord)(g:Nat->Nat):List (Nat×Nat)->Nat->Nat->Prop
 | [],a,b=>a=b
 | x::l,a,b=>x.1=a/\1<=x.2/\Cl g a (a+x.2)/\So o g a (a+x.2)/\U1 o g l (a+x.2) b
abbrev PA (o:Ord)(g:Nat->Nat)(p:Array<|Nat×Nat×Nat)(b:Nat):Prop:=U1 o g (p.toList.map pr) 0 b
meta abbrev NK (h:ak)(a:aj)(vs:be):ak:=((h.update a<|Obj.mapSeq λ_=>#[]).push<|seqObj "tuple" vs.toArray 0).push<|seqObj "list" #[] 0
meta abbrev vv (vs:be)(i:Nat):Keyed:=(vs.getD i .none,vs.getD i .none)
def zip_get(vs:be){i:Nat}(h:i<vs.length):(vs.toArray.zip vs.toArray)[i]?=some (vv vs i):=by
 have e:vs[i]?=some (vs.getD i .none):=by rw[aN,aH h];rfl
 rw[Array.getElem?_zip_eq_some];exact⟨by rw[fD];exact e,by rw[fD];exact e⟩
section
variable {prog:ah}{w:af}{A:az}{E:aa->aA->Prop}{s:aA}{o:Ord}{kd:SortKind}
def IM{a:aj}{vs:be}{n:Nat}{P:PySem.Fin->aA->Prop}(hL:s.heap.get? a=some (seqObj "list" vs.toArray n))(hsz:vs.length<=sizeLine)(ro:RO vs.length)
  (hkk:2<=vs.length->∀Q:SortKind->aA->Prop,Q kd { s with heap:=NK s.heap a vs }->wpAny (model prog w) A (keyKind' vs.toArray) Q E { s with heap:=NK s.heap a vs })
  (C:2<=vs.length->NC prog w A { s with heap:=NK s.heap a vs } o vs.length (vv vs) kd)
  (h:∀g,Cl g 0 vs.length->So o g 0 vs.length->P (.done<|.ret .none) { s with heap:=sortedHeap s.heap a vs ((List.range vs.length).map λi=>vs.getD (g i) .none).toArray }) :
  wpAny (model prog w) A (Builtin.«list.sort» ⟨[.ref a],[]⟩) P E s:=by
 rw[list_sort_plain];have G:a<s.heap.objs.size:=aW hL;refine aG<|listItems_at hL rfl ?_;refine aG (listUpdate_at hL rfl ?_ (by rw[aY];exact hsz)<|cz _);obtain⟨ep,J⟩:∃ep,(s.heap.update a<|Obj.mapSeq λ_=>#[]).get? a=some (seqObj "list" #[] ep):=⟨_,get?_update_seq hL λ_=>#[]⟩;refine aG<|seqEpoch_at J rfl ?_;refine aG<|wpAny_newTuple ?_;refine aG<|wpAny_newList ?_;refine b_ ?_;have m:(NK s.heap a vs).get? a=some (seqObj "list" #[] ep):=by
  rw[Heap.get?_push_ne _ _ _<|by rw[size_push',Heap.size_update];exact bq<|fK G,Heap.get?_push_ne _ _ _<|by rw[Heap.size_update];exact bq G];exact J
 skip
 dsimp only;have L:vs.toArray.size=vs.length:=by simp
 have O:∀i,i<vs.length->vs[i]?=some (vs.getD i .none):=λi hi=>by rw[aN,aH hi];rfl
 have B:∀(arr:Array Keyed) (g:Nat->Nat),arr.size=vs.length->(∀i,i<vs.length->arr[i]?=some (vv vs<|g i))->arr.map (·.2)=((List.range vs.length).map λi=>vs.getD (g i) .none).toArray:=λarr g h1 d=>by
  apply Array.ext_getElem?;intro i;have e0:((List.range vs.length).map λi=>vs.getD (g i) Value.none).toArray[i]?=((List.range vs.length).map λi=>vs.getD (g i) Value.none)[i]?:=fD ..;rw[Array.getElem?_map,e0,bu];by_cases c:i<vs.length
  ·rw[d i c,dZ c];rfl
  ·rw[fU (),bN<|by rw[bW];lia];rfl
 by_cases d:vs.toArray.size<2
 ·rw[aQ d,aQ d];refine aG<|aL ?_;rw[StateT.run_pure];refine aG<|aL ?_;dsimp only;refine aG<|seqEpoch_at m rfl ?_;have oe:=B (vs.toArray.zip vs.toArray) (λi=>i) (by rw[jw,L];lia) λi hi=>zip_get vs hi;refine aG (listUpdate_at m rfl ?_ (by simp) (hsz2:=by rw[size_map];show(vs.toArray.zip vs.toArray).size<=_;rw[jw,L];lia));dsimp[bne_self_eq_false,bZ,dS];refine aL ?_;have:=h (λi=>i) (λi a b=>⟨a,b⟩) λi j a b c=>();rw[<- oe]at this;exact this
 ·rw[aO d,aO d];have F:2<=vs.length:=()
  refine aG<|hkk F _ ?_;refine aG (cS (ro F (f:=vv vs) (st:=SortSt.mk' kd (vs.toArray.zip vs.toArray) #[] 7 none)
   (Q:=λ_ k=>∃g p,Sg vs.length (vv vs) kd g p k/\Cl g 0 vs.length/\So o g 0 vs.length)
   (C F) ⟨by show(vs.toArray.zip vs.toArray).size=_;rw[jw,L];lia,λi hi=>zip_get vs hi,λi hi=>hi,rfl,rfl,rfl⟩ λg' Y k Z T U=>⟨g',Y,Z,T,U⟩) ?_ λ_ _ e=>e)
  rintro⟨⟨⟩,k⟩ s' ⟨rfl,g,p,K,hc,N⟩;dsimp only;refine aG<|seqEpoch_at m rfl ?_;have oe:=B (arrOf k) g K.size K.get;refine aG (listUpdate_at m rfl ?_ (by simp) (hsz2:=by have V:(arrOf k).size=vs.length:=K.size;show((arrOf k).map (·.2)).size<=_;rw[size_map,V];lia));rw[K.failed];dsimp[bne_self_eq_false,bZ,dS];have:=h g hc N;rw[<- oe]at this;exact aL this
end
section
variable {prog:ah}{w:af}{A:az}{E:aa->aA->Prop}{s:aA}
def O3(b:Bool){x y:Int}{Q:Bool->aA->Prop}(h:Q (decide<|x<y) s):wpAny (model prog w) A (oneLt' b (.int x t)<|.int y u) Q E s:=by
 cases b with
 | true=>exact oneLt_int h
 | false=>
  rw[oneLt'_eq];dsimp[bZ,dS];exact aG<|PySem.P.lt_int<|dj h
end
end Sx
namespace Am
open PySem
inductive A where
 | unb|non|bl (b:Bool)|int (i:Int)|str (x:Str)|tup (xs:List A)|frz (xs:List A)|rng (lo hi:Int)|ref (n:Nat)|exn (c:Str)|ty (n:String)|ktu (xs:List A)
@[reducible]def ae:=List A
inductive O where
 | lst (xs:ae)|dct (kvs:List<|ag×A)|dki (kvs:List<|Int×A)|dks (kvs:List<|Str×A)|dcp (kvs:List<|L2.Jh×A)|dcf (kvs:List<|ag×A)|dkf (kvs:List<|Int×A)|ins (c:Str) (fs:List<|Str×A)
meta abbrev jL:=List O
inductive R (α:Type) where
 | ok (a:α) (S:jL)|ex (c:Str) (S:jL)|no
abbrev R.bind {α β:Type}(r:R α)(f:α->jL->R β):R β:=match r with
 | .ok a S=>f a S
 | .ex c S=>.ex c S
 | .no=>.no
abbrev R.post {α:Type}(r:R α)(P:α->jL->Prop)(E:Str->jL->Prop):Prop:=match r with
 | .ok a S=>P a S
 | .ex c S=>E c S
 | .no=>False
def jN{α β:Type}{r:R α}{f:α->jL->R β}{P:β->jL->Prop}{E:Str->jL->Prop}(h:(r.bind f).post P E):r.post (λa S=>(f a S).post P E) E:=by
 cases r<;>exact h
def nR{α:Type}{r:R α}{P j:α->jL->Prop}{E J:Str->jL->Prop}(h:r.post P E)(hp:∀a S,P a S->j a S)(L:∀c S,E c S->J c S):r.post j J:=by
 cases r with
 | ok a S=>exact hp _ _ h
 | ex c S=>exact L _ _ h
 | no=>exact h.elim
abbrev gd {α:Type}(c:Prop)[Decidable c](r:R α):R α:=if c then r else .no
abbrev opt {α β:Type}(o:Option β)(f:β->R α):R α:=match o with
 | some b=>f b
 | none=>.no
def kc{α:Type}{c:Prop}[Decidable c]{r:R α}{P:α->jL->Prop}{E:Str->jL->Prop}(h:(gd c r).post P E):c/\r.post P E:=by
 unfold gd at h;by_cases hc:c
 ·rw[aQ hc]at h;exact⟨hc,h⟩
 ·rw[aO hc]at h;exact h.elim
def jY{α β:Type}{o:Option β}{f:β->R α}{P:α->jL->Prop}{E:Str->jL->Prop}(h:(opt o f).post P E):∃b,o=some b/\(f b).post P E:=by
 cases o with
 | none=>exact h.elim
 | some b=>exact⟨b,rfl,h⟩
def Wm{α:Type}{c:Prop}[Decidable c]{r:R α}(h:c):gd c r=r:=aQ h
abbrev jF (S:jL)(n:Nat):Option (ae):=match S[n]? with
 | some (.lst xs)=>some xs
 | _=>none
def jX{n:Nat}(h:jF S n=some xs):S[n]?=some (.lst xs):=by
 unfold jF at h;split at h
 ·rename_i e;cases h;exact e
 ·cases h
def wG{S:jL}{n:Nat}(h:S[n]?=some (.lst xs)):jF S n=some xs:=by
 unfold jF;rw[h]
inductive RS where
 | nx (τ:ae) (S:jL)|rt (a:A) (S:jL)|bk (τ:ae) (S:jL)|ct (τ:ae) (S:jL)|ex (c:Str) (S:jL)|no
meta abbrev Ex:=ae->jL->R A
meta abbrev rW:=ae->jL->R (ae)
meta abbrev Te:=ae->jL->R Bool
meta abbrev Sm:=ae->jL->RS
meta abbrev Tg:=A->ae->jL->R (ae)
end Am
namespace Am
open PySem L2
section
variable (K:au) (ρ:bi) (H:Hp)
abbrev DZ (K:au)(c:Str)(C:aj):Prop:=PySem.W.nsIn K mainGlobals c=some (some<|.ref C)
abbrev Fz (K:au)(H:Hp)(a:aj)(vs:List V):Prop:=
 (∃o,H a=some (.frz o<|.lst vs))\/∃(o:Obj) (d:Array aa) (n:Nat),K.lookup a=some o/\o.cls=.type "list" /\ o.dict=none/\o.data=.seq d n/\d.size<=sizeLine/\Vals vs d.toList
abbrev Zu (K:au)(a:aj)(vs:List V):Prop:=∃(o:Obj) (d:Array aa) (n:Nat),K.lookup a=some o/\o.cls=.type "tuple" /\ o.dict=none/\o.data=.seq d n/\d.size<=sizeLine/\Vals vs d.toList
mutual
inductive AV:A->V->Prop
 | non:AV .non .non
 | bl (b:Bool):AV (.bl b) (.bl b)
 | int (i:Int):AV (.int i) (.int i)
 | str (x:Str):AV (.str x) (.str x)
 | ty (n:String):AV (.ty n) (.ty n)
 | tup {a:aj} {xs:ae} {vs:List V} (h:H a=some (.tup vs)) (r:AVs xs vs):AV (.tup xs) (.ref a)
 | frz {a:aj} {xs:ae} {vs:List V} (h:Fz K H a vs) (r:AVs xs vs):AV (.frz xs) (.ref a)
 | rng {a:aj} {lo hi:Int} (h:H a=some (.rng lo hi)):AV (.rng lo hi) (.ref a)
 | ref {a:aj} {n:Nat} (h:ρ[n]?=some a):AV (.ref n) (.ref a)
 | exn {a C:aj} {c:Str} {oe:Obj} (n:DZ K c C) (h:H a=some (.frz oe xu)) (x:XO C oe):AV (.exn c) (.ref a)
 | ktu {a:aj} {xs:ae} {vs:List V} (h:Zu K a vs) (r:AVs xs vs):AV (.ktu xs)<|.ref a
inductive AVs:ae->List V->Prop
 | nil:AVs [] []
 | cons {x:A} {v:V} {xs:ae} {vs:List V} (h:AV x v) (t:AVs xs vs):AVs (x::xs) (v::vs)
end
abbrev DV:List (ag×A)->List (List Key×V)->Prop
 | [],[]=>True
 | p::r,q::r'=>(q.1=p.1.map Sum.inl/\AV K ρ H p.2 q.2)/\DV r r'
 | _,_=>False
abbrev DI:List (Int×A)->List (Key×V)->Prop
 | [],[]=>True
 | p::r,q::r'=>(q.1=Sum.inl p.1/\AV K ρ H p.2 q.2)/\DI r r'
 | _,_=>False
abbrev DS:List (Str×A)->List (Key×V)->Prop
 | [],[]=>True
 | p::r,q::r'=>(q.1=Sum.inr p.1/\AV K ρ H p.2 q.2)/\DS r r'
 | _,_=>False
abbrev DP:List (L2.Jh×A)->List (L2.Jh×aj×aa)->Prop
 | [],[]=>True
 | p::r,q::r'=>(q.1=p.1/\L2.CD H q.2.1 q.1/\∃v,RelV v q.2.2/\AV K ρ H p.2 v)/\DP r r'
 | _,_=>False
abbrev OR (a:aj):O->Prop
 | .lst xs=>∃vs,H a=some (.lst vs)/\AVs K ρ H xs vs
 | .dct d=>∃ks,H a=some (.dT ks)/\DV K ρ H d ks
 | .dki d=>∃ks,H a=some (.dK ks)/\DI K ρ H d ks
 | .dks d=>∃ks,H a=some (.dK ks)/\DS K ρ H d ks
 | .dcp d=>∃xs,H a=some (.ext<|L2.X0 a xs)/\DP K ρ H d xs
 | .dcf d=>∃o ks,H a=some (.frz o<|.dT ks)/\DV K ρ H d ks
 | .dkf d=>∃o ks,H a=some (.frz o<|.dK ks)/\DI K ρ H d ks
 | .ins _ _=>∃o u,H a=some (.frz o u)
structure Rel (S:jL):Prop where
 len:ρ.length=S.length
 nd:ρ.Nodup
 «at»:∀(n:Nat) (a:aj) (o:O),ρ[n]?=some a->S[n]?=some o->OR K ρ H a o
end
abbrev Zn:HO->Prop
 | .tup _=>True
 | .rng _ _=>True
 | .frz _ _=>True
 | _=>False
structure Ext0 (ρ ρ':bi)(H H':Hp):Prop where
 pre:ρ <+: ρ'
 im:∀a u,Zn u->H a=some u->H' a=some u
structure Ext (ρ ρ':bi)(H H':Hp):Prop extends Ext0 ρ ρ' H H' where
 fr:∀a u,H a=some u->a∉ρ->H' a=some u
 nw:∀a,a∈ρ'->a∈ρ\/H a=none
def Ext.refl{H:Hp}:Ext ρ ρ H H:=⟨⟨iy _,λ_ _ _ h=>h⟩,λ_ _ h _=>h,λ_ h=>.inl h⟩
def Ext.trans{H H1 H2:Hp}(a:Ext ρ ρ1 H H1)(b:Ext ρ1 ρ2 H1 H2):Ext ρ ρ2 H H2:=⟨⟨a.pre.trans b.pre,λx u i h=>b.im x u i<|a.im x u i h⟩,λx u h n=>b.fr x u (a.fr x u h n) λz=>(a.nw x z).elim n λz=>by(rw[z]at h;cases h),λx h=>by
 by_cases d:x∈ρ
 ·exact .inl d
 ·right
  cases q:H x with
  | none=>rfl
  | some u=>
   rcases b.nw x h with z|z
   ·exact((a.nw x z).elim d λz=>by(rw[z]at q;cases q)).elim
   ·rw[a.fr x u q d]at z;cases z⟩
def Ext0.get{H H':Hp}(e:Ext0 ρ ρ' H H'){n:Nat}{a:aj}(h:ρ[n]?=some a):ρ'[n]?=some a:=by
 obtain⟨t,rfl⟩:=e.pre;rw[bR (aZ.mp h).1];exact h
section
variable {K:au}{ρ ρ':bi}{H H':Hp}
def Ext0.YT(e:Ext0 ρ ρ' H H'){a:aj}(h:pJ K H a vs):pJ K H' a vs:=by
 rcases h with(h|⟨o,h⟩)|h
 ·exact .inl (.inl<|e.im _ _ trivial h)
 ·exact .inl (.inr ⟨o,e.im _ _ trivial h⟩)
 ·exact .inr h
def Ext0.fz(e:Ext0 ρ ρ' H H'){a:aj}(h:Fz K H a vs):Fz K H' a vs:=by
 rcases h with⟨o,h⟩|h
 ·exact .inl ⟨o,e.im _ _ trivial h⟩
 ·exact .inr h
def Fz.ND{a:aj}(h:Fz K H a vs):nh K H a vs:=by
 rcases h with⟨o,h⟩|h
 ·exact .inl (.inr ⟨o,h⟩)
 ·exact .inr h
mutual
theorem AV.mq(e:Ext0 ρ ρ' H H'):∀{x:A}{v:V},AV K ρ H x v->AV K ρ' H' x v
 | _,_,.non=>.non
 | _,_,.bl b=>.bl b
 | _,_,.int i=>.int i
 | _,_,.str x=>.str x
 | _,_,.ty x=>.ty x
 | _,_,.tup h r=>.tup (e.im _ _ trivial h) (AVs.mq e r)
 | _,_,.frz h r=>.frz (e.fz h) (AVs.mq e r)
 | _,_,.rng h=>.rng (e.im _ _ trivial h)
 | _,_,.ref h=>.ref (e.get h)
 | _,_,.exn n h x=>.exn n (e.im _ _ trivial h) x
 | _,_,.ktu h r=>.ktu h<|AVs.mq e r
theorem AVs.mq(e:Ext0 ρ ρ' H H'):∀{xs:ae}{vs:List V},AVs K ρ H xs vs->AVs K ρ' H' xs vs
 | _,_,.nil=>.nil
 | _,_,.cons h t=>.cons (AV.mq e h)<|AVs.mq e t
end
theorem DV.mq(e:Ext0 ρ ρ' H H'):∀{xs:List<|ag×A}{vs:List<|List Key×V},DV K ρ H xs vs->DV K ρ' H' xs vs
 | [],[],_=>trivial
 | _::_,_::_,⟨⟨a,b⟩,r⟩=>⟨⟨a,AV.mq e b⟩,DV.mq e r⟩
def DV.ext{x:List<|ag×A}{v:List<|List Key×V}(h:DV K ρ H x v)(e:Ext ρ ρ' H H'):DV K ρ' H' x v:=DV.mq e.toExt0 h
theorem DI.mq(e:Ext0 ρ ρ' H H'):∀{xs:List<|Int×A}{vs:List<|Key×V},DI K ρ H xs vs->DI K ρ' H' xs vs
 | [],[],_=>trivial
 | _::_,_::_,⟨⟨a,b⟩,r⟩=>⟨⟨a,AV.mq e b⟩,DI.mq e r⟩
def DI.ext{x:List<|Int×A}{v:List<|Key×V}(h:DI K ρ H x v)(e:Ext ρ ρ' H H'):DI K ρ' H' x v:=DI.mq e.toExt0 h
theorem DS.mq(e:Ext0 ρ ρ' H H'):∀{xs:List<|Str×A}{vs:List<|Key×V},DS K ρ H xs vs->DS K ρ' H' xs vs
 | [],[],_=>trivial
 | _::_,_::_,⟨⟨a,b⟩,r⟩=>⟨⟨a,AV.mq e b⟩,DS.mq e r⟩
def DS.ext{x:List<|Str×A}{v:List<|Key×V}(h:DS K ρ H x v)(e:Ext ρ ρ' H H'):DS K ρ' H' x v:=DS.mq e.toExt0 h
def CD.mq{b:aj}{k:L2.Jh}(e:Ext0 ρ ρ' H H'):L2.CD H b k->L2.CD H' b k:=λ⟨r1,r2,h1,d,f⟩=>⟨r1,r2,e.im _ _ trivial h1,e.im _ _ trivial d,e.im _ _ trivial f⟩
theorem DP.mq(e:Ext0 ρ ρ' H H'):∀{xs:List<|L2.Jh×A}{vs:List<|L2.Jh×aj×aa},DP K ρ H xs vs->DP K ρ' H' xs vs
 | [],[],_=>trivial
 | _::_,_::_,⟨⟨a,k,v,c,b⟩,r⟩=>⟨⟨a,CD.mq e k,v,c,AV.mq e b⟩,DP.mq e r⟩
def DP.ext{x:List<|L2.Jh×A}{v:List<|L2.Jh×aj×aa}(h:DP K ρ H x v)(e:Ext ρ ρ' H H'):DP K ρ' H' x v:=DP.mq e.toExt0 h
def AV.ext{x:A}{v:V}(h:AV K ρ H x v)(e:Ext ρ ρ' H H'):AV K ρ' H' x v:=AV.mq e.toExt0 h
def AVs.ext{x:ae}{v:List V}(h:AVs K ρ H x v)(e:Ext ρ ρ' H H'):AVs K ρ' H' x v:=AVs.mq e.toExt0 h
theorem AVs.length:∀{xs:ae}{vs:List V},AVs K ρ H xs vs->xs.length=vs.length
 | _,_,.nil=>rfl
 | _,_,.cons _ t=>cg (·+1)<|AVs.length t
theorem AVs.append:∀{xs ys:ae}{vs ws:List V},AVs K ρ H xs vs->AVs K ρ H ys ws->AVs K ρ H (xs++ys) (vs++ws)
 | _,_,_,_,.nil,s=>s
 | _,_,_,_,.cons h t,s=>.cons h<|AVs.append t s
theorem AVs.take:∀{xs:ae}{vs:List V}(n:Nat),AVs K ρ H xs vs->AVs K ρ H (xs.take n) (vs.take n)
 | _,_,0,_=>.nil
 | _,_,_+1,.nil=>.nil
 | _,_,n+1,.cons h t=>.cons h<|AVs.take n t
theorem AVs.drop:∀{xs:ae}{vs:List V}(n:Nat),AVs K ρ H xs vs->AVs K ρ H (xs.drop n) (vs.drop n)
 | _,_,0,r=>r
 | _,_,_+1,.nil=>.nil
 | _,_,n+1,.cons _ t=>AVs.drop n t
theorem AVs.reverse:∀{xs:ae}{vs:List V},AVs K ρ H xs vs->AVs K ρ H xs.reverse vs.reverse
 | _,_,.nil=>.nil
 | _,_,.cons h t=>by rw[gP,gP];exact(AVs.reverse t).append (.cons h .nil)
theorem AVs.get:∀{xs:ae}{vs:List V}{i:Nat}{x:A},AVs K ρ H xs vs->xs[i]?=some x->∃v,vs[i]?=some v/\AV K ρ H x v
 | _,_,_,_,.nil,e=>by simp at e
 | _,_,0,_,.cons h _,e=>by simp at e;subst e;exact⟨_,rfl,h⟩
 | _,_,i+1,x,.cons _ t,e=>by
  obtain⟨u,h1,d⟩:=AVs.get (i:=i) (x:=x) t (by simpa using e);exact⟨u,by simpa using h1,d⟩
theorem AVs.set{x:A}{v:V}(h:AV K ρ H x v):∀{xs:ae}{vs:List V}(i:Nat),AVs K ρ H xs vs->AVs K ρ H (xs.set i x) (vs.set i v)
 | _,_,_,.nil=>.nil
 | _,_,0,.cons _ t=>.cons h t
 | _,_,i+1,.cons q t=>.cons q<|AVs.set h i t
def AVs.one{x:A}{v:V}(h:AV K ρ H x v):AVs K ρ H [x] [v]:=.cons h .nil
theorem uS:∀(ns:ag),AVs K ρ H (ns.map .int) (ns.map .int)
 | []=>.nil
 | n::ns=>.cons (.int n)<|uS ns
def Rel.lay{S:jL}{p:aj}(R:Rel K ρ H S)(hp:H p=none)(r:AVs K ρ H xs vs):Ext ρ (ρ++[p]) H (upd H p<|.lst vs)/\Rel K (ρ++[p]) (upd H p<|.lst vs) (S++[.lst xs])/\(ρ++[p])[S.length]?=some p:=by
 have ex:Ext ρ (ρ++[p]) H (upd H p<|.lst vs):=⟨⟨iZ _ _,λa u _ h=>by rw[jR<|j4 h hp];exact h⟩,λa u h _=>by rw[jR<|j4 h hp];exact h,λa h=>by
  rcases bF.mp h with z|z
  ·exact .inl z
  ·have e:a=p:=by simpa using z
   rw[e];exact .inr hp⟩
 have np:∀(n:Nat) (a:aj),ρ[n]?=some a->a≠p:=by
  intro n a e z;subst z;have hn:n<S.length:=by rw[<- R.len];exact(aZ.mp e).1
  have:=R.at n a S[n] e (aH hn)
  cases j:S[n]with
  | lst xs=>rw[j]at this;obtain⟨vs,h,_⟩:=this;rw[hp]at h;cases h
  | dct _|dki _|dks _|dcp _=>rw[j]at this;obtain⟨vs,h,_⟩:=this;rw[hp]at h;cases h
  | dcf _|dkf _=>rw[j]at this;obtain⟨_,vs,h,_⟩:=this;rw[hp]at h;cases h
  | ins _ _=>rw[j]at this;obtain⟨_,_,h⟩:=this;rw[hp]at h;cases h
 have d:(ρ++[p])[S.length]?=some p:=by rw[<- R.len];simp
 refine⟨ex,⟨by simp[R.len],?_,?_⟩,d⟩
 ·rw[gW];refine⟨R.nd,by simp,λa m b B e=>?_⟩;have:b=p:=by simpa using B
  obtain⟨n,hn,C⟩:=iH.mp m;exact np n a (by rw[aH hn,C])<|e.trans this
 ·intro n a o h1 g;by_cases hn:n<S.length
  ·rw[bR<|by rw[R.len];exact hn]at h1;rw[bR hn]at g;have:=R.at n a o h1 g
   cases o with
   | lst ys=>obtain⟨f,e,q⟩:=this;exact⟨f,by rw[jR<|np n a h1];exact e,q.ext ex⟩
   | dct _|dki _|dks _|dcp _=>obtain⟨f,e,q⟩:=this;exact⟨f,by rw[jR<|np n a h1];exact e,q.ext ex⟩
   | dcf _|dkf _=>obtain⟨k,f,e,q⟩:=this;exact⟨k,f,by rw[jR<|np n a h1];exact e,q.ext ex⟩
   | ins _ _=>obtain⟨k,F,e⟩:=this;exact⟨k,F,by rw[jR<|np n a h1];exact e⟩
  ·have e:n=S.length:=by
    have:=(aZ.mp g).1;simp at this
    lia
   subst e;rw[d]at h1
   cases h1
   simp at g;subst g;exact⟨vs,kJ,r.ext ex⟩
def Rel.im{p:aj}(R:Rel K ρ H S)(hp:H p=none):Ext ρ ρ H (upd H p u)/\Rel K ρ (upd H p u) S:=by
 have ex:Ext ρ ρ H (upd H p u):=⟨⟨iy _,λa u _ h=>by rw[jR<|j4 h hp];exact h⟩,λa u h _=>by rw[jR<|j4 h hp];exact h,λ_ h=>.inl h⟩;refine⟨ex,R.len,R.nd,λn a o h1 g=>?_⟩;have:=R.at n a o h1 g
 cases o with
 | lst ys=>obtain⟨d,e,q⟩:=this;exact⟨d,by rw[jR<|j4 e hp];exact e,q.ext ex⟩
 | dct _|dki _|dks _|dcp _=>obtain⟨d,e,q⟩:=this;exact⟨d,by rw[jR<|j4 e hp];exact e,q.ext ex⟩
 | dcf _|dkf _=>obtain⟨f,d,e,q⟩:=this;exact⟨f,d,by rw[jR<|j4 e hp];exact e,q.ext ex⟩
 | ins _ _=>obtain⟨f,j,e⟩:=this;exact⟨f,j,by rw[jR<|j4 e hp];exact e⟩
def Rel.put{S:jL}{n:Nat}{a:aj}(R:Rel K ρ H S)(J:ρ[n]?=some a)(L:S[n]?=some (.lst xs))(r:AVs K ρ H ys ws):Ext ρ ρ H (upd H a<|.lst ws)/\Rel K ρ (upd H a<|.lst ws) (S.set n<|.lst ys):=by
 obtain⟨vs,e,_⟩:=R.at n a _ J L;have ex:Ext ρ ρ H (upd H a<|.lst ws):=⟨⟨iy _,λb u i h=>by
  have:b≠a:=by
   intro z;subst z;rw[e]at h;cases h;exact i
  rw[jR this];exact h⟩,λb u h n=>by
  rw[jR λz=>n<|by rw[z];exact dP J];exact h,λ_ h=>.inl h⟩
 refine⟨ex,by rw[fH];exact R.len,R.nd,λm b o h1 g=>?_⟩;by_cases k:m=n
 ·subst k;rw[J]at h1;cases h1;rw[cM (aZ.mp L).1]at g
  cases g
  exact⟨ws,kJ,r.ext ex⟩
 ·rw[cN<|cL k]at g;have nb:b≠a:=λz=>by
   subst z;obtain⟨C,e1⟩:=aZ.mp J;obtain⟨B,e2⟩:=aZ.mp h1;exact k<|(List.getElem_inj R.nd).mp<|e2.trans e1.symm
  have:=R.at m b o h1 g
  cases o with
  | lst ys=>obtain⟨d,f,q⟩:=this;exact⟨d,by rw[jR nb];exact f,q.ext ex⟩
  | dct _|dki _|dks _|dcp _=>obtain⟨d,f,q⟩:=this;exact⟨d,by rw[jR nb];exact f,q.ext ex⟩
  | dcf _|dkf _=>obtain⟨j,d,f,q⟩:=this;exact⟨j,d,by rw[jR nb];exact f,q.ext ex⟩
  | ins _ _=>obtain⟨j,p,f⟩:=this;exact⟨j,p,by rw[jR nb];exact f⟩
def Rel.lst{n:Nat}{a:aj}(R:Rel K ρ H S)(j:ρ[n]?=some a)(J:S[n]?=some (.lst xs)):∃vs,H a=some (.lst vs)/\AVs K ρ H xs vs:=R.at n a _ j J
structure SR (K:au)(ρ:bi)(H:Hp)(τ:ae)(σ:St):Prop where
 len:τ.length=σ.length
 «at»:∀(i:Nat) (a:A),τ[i]?=some a->a=.unb\/∃v,σ[i]?=some (some v)/\AV K ρ H a v
def SR.mq(s:SR K ρ H τ σ)(e:Ext0 ρ ρ' H H'):SR K ρ' H' τ σ:=⟨s.len,λi a h=>by
 rcases s.at i a h with z|⟨v,h1,d⟩
 ·exact .inl z
 ·exact .inr ⟨v,h1,AV.mq e d⟩⟩
def SR.ext(s:SR K ρ H τ σ)(e:Ext ρ ρ' H H'):SR K ρ' H' τ σ:=s.mq e.toExt0
def Rel.out(R:Rel K ρ H S)(J:H D=some (.lst vs))(hn:D∉ρ):Ext0 ρ ρ H (upd H D<|.lst ws)/\Rel K ρ (upd H D<|.lst ws) S:=by
 have ex:Ext0 ρ ρ H (upd H D<|.lst ws):=⟨iy _,λb u i h=>by
  have:b≠D:=by
   intro z;subst z;rw[J]at h;cases h;exact i
  rw[jR this];exact h⟩
 refine⟨ex,R.len,R.nd,λn a o h1 g=>?_⟩;have na:a≠D:=λz=>hn (by rw[<- z];exact dP h1);have:=R.at n a o h1 g
 cases o with
 | lst ys=>obtain⟨d,e,q⟩:=this;exact⟨d,by rw[jR na];exact e,AVs.mq ex q⟩
 | dct _|dki _|dks _|dcp _=>obtain⟨d,e,q⟩:=this;exact⟨d,by rw[jR na];exact e,q.mq ex⟩
 | dcf _|dkf _=>obtain⟨f,d,e,q⟩:=this;exact⟨f,d,by rw[jR na];exact e,q.mq ex⟩
 | ins _ _=>obtain⟨f,j,e⟩:=this;exact⟨f,j,by rw[jR na];exact e⟩
def Rel.take{S:jL}{D:aj}(R:Rel K ρ H S)(J:H D=some (.lst vs))(hn:D∉ρ)(r:AVs K ρ H xs vs):Rel K (ρ++[D]) H (S++[.lst xs])/\(ρ++[D])[S.length]?=some D:=by
 have ex:Ext0 ρ (ρ++[D]) H H:=⟨iZ _ _,λ_ _ _ h=>h⟩;have d:(ρ++[D])[S.length]?=some D:=by rw[<- R.len];simp
 refine⟨⟨by simp[R.len],?_,λn a o h1 g=>?_⟩,d⟩
 ·rw[gW];refine⟨R.nd,by simp,λa p b k e=>?_⟩;have:b=D:=by simpa using k
  exact hn<|by rw[<- this,<- e];exact p
 ·by_cases hs:n<S.length
  ·rw[bR<|by rw[R.len];exact hs]at h1;rw[bR hs]at g;have:=R.at n a o h1 g
   cases o with
   | lst ys=>obtain⟨f,e,q⟩:=this;exact⟨f,e,AVs.mq ex q⟩
   | dct _|dki _|dks _|dcp _=>obtain⟨f,e,q⟩:=this;exact⟨f,e,q.mq ex⟩
   | dcf _|dkf _=>obtain⟨j,f,e,q⟩:=this;exact⟨j,f,e,q.mq ex⟩
   | ins _ _=>obtain⟨j,m,e⟩:=this;exact⟨j,m,e⟩
  ·have e:n=S.length:=by
    have:=(aZ.mp g).1;simp at this
    lia
   subst e;rw[d]at h1
   cases h1
   simp at g;subst g;exact⟨vs,J,AVs.mq ex r⟩
def SR.set{τ:ae}{σ:St}{a:A}{v:V}(s:SR K ρ H τ σ)(h:AV K ρ H a v):SR K ρ H (τ.set i a) (σ.set i<|some v):=by
 refine⟨by simp[s.len],λj b e=>?_⟩;by_cases d:j=i
 ·subst d;have f:j<τ.length:=by
   have:=(aZ.mp e).1;simpa using this
  rw[cM f]at e
  cases e
  exact .inr ⟨v,cM<|by rw[<- s.len];exact f,h⟩
 ·rw[cN<|cL d]at e;rw[cN<|cL d];exact s.at j b e
end
end Am
namespace Am
open PySem PySem.Spec PyProof.Rows L2
abbrev XE (X:Cx)(ρ:bi)(H:Hp):Str->jL->Prop:=λc d=>∀(C:aj) (ρ':bi) (H':Hp),DZ X.K c C->Ext ρ ρ' H H'->Rel X.K ρ' H' d->EX X (.ref C) none H'
def XE.ext{H H':Hp}(h:XE X ρ H c S)(e:Ext ρ ρ' H H'):XE X ρ' H' c S:=λC d H2 n e2=>h C d H2 n<|e.trans e2
abbrev ug (X:Cx)(ρ:bi)(H:Hp)(Q:VK):A->jL->Prop:=λa d=>∀ρ' H' v,Ext ρ ρ' H H'->Rel X.K ρ' H' d->AV X.K ρ' H' a v->Q v H'
abbrev WT (X:Cx)(ρ:bi)(H:Hp)(Q:Bool->Hp->Prop):Bool->jL->Prop:=λb d=>∀ρ' H',Ext ρ ρ' H H'->Rel X.K ρ' H' d->Q b H'
abbrev NJ (X:Cx)(ρ:bi)(H:Hp)(Q:List V->Hp->Prop):ae->jL->Prop:=λf d=>∀ρ' H' vs,Ext ρ ρ' H H'->Rel X.K ρ' H' d->AVs X.K ρ' H' f vs->Q vs H'
def ug.ext{H H':Hp}{Q:VK}{a:A}(h:ug X ρ H Q a S)(e:Ext ρ ρ' H H'):ug X ρ' H' Q a S:=λd H2 v e2=>h d H2 v<|e.trans e2
def WT.ext{H H':Hp}{Q:Bool->Hp->Prop}{a:Bool}(h:WT X ρ H Q a S)(e:Ext ρ ρ' H H'):WT X ρ' H' Q a S:=λd H2 e2=>h d H2<|e.trans e2
def jM{α:Type}{H H':Hp}{r:R α}{P j:α->jL->Prop}(h:r.post P<|XE X ρ H)(e:Ext ρ ρ' H H')(hp:∀a S,P a S->j a S):r.post j (XE X ρ' H'):=nR h hp λ_ _ z=>z.ext e
abbrev tE (X:Cx)(c:Ex):TE:=λσ H Q=>∃ρ S τ,Rel X.K ρ H S/\SR X.K ρ H τ σ/\(c τ S).post (ug X ρ H Q) (XE X ρ H)
abbrev tT (X:Cx)(c:Te):TT:=λσ H Q=>∃ρ S τ,Rel X.K ρ H S/\SR X.K ρ H τ σ/\(c τ S).post (WT X ρ H Q) (XE X ρ H)
abbrev tL (X:Cx)(c:rW):TA:=λσ H Q=>∃ρ S τ,Rel X.K ρ H S/\SR X.K ρ H τ σ/\(c τ S).post (NJ X ρ H Q) (XE X ρ H)
abbrev AE (X:Cx)(e:aE)(c:Ex):Prop:=PE X e<|tE X c
abbrev AT (X:Cx)(e:aE)(c:Te):Prop:=PT X e<|tT X c
abbrev AW (X:Cx)(e:aE)(c:Te):Prop:=PW X e<|tT X c
abbrev AL (X:Cx)(es:List aE)(c:rW):Prop:=PA X es<|tL X c
def PE.imp{t t':TE}(h:PE X e t)(i:∀σ H Q,t' σ H Q->t σ H Q):PE X e t':=λpins s σ H Q I q=>h pins s σ H Q I<|i σ H Q q
def PT.imp{t t':TT}(h:PT X e t)(i:∀σ H Q,t' σ H Q->t σ H Q):PT X e t':=λpins s σ H Q I q=>h pins s σ H Q I<|i σ H Q q
def PW.imp{t t':TT}(h:PW X e t)(i:∀σ H Q,t' σ H Q->t σ H Q):PW X e t':=λw pins s σ H Q I q=>h w pins s σ H Q I<|i σ H Q q
def PA.imp{t t':TA}(h:PA X e t)(i:∀σ H Q,t' σ H Q->t σ H Q):PA X e t':=λp pins s σ H Q I q=>h p pins s σ H Q I<|i σ H Q q
def AW.at{c:Te}(h:AW X e c):AT X e c:=h _
abbrev A.oS:A->Bool
 | .unb=>true
 | _=>false
abbrev jE (i:Nat):Ex:=λτ S=>if (τ.getD i .unb).oS then .no else .ok (τ.getD i .unb) S
abbrev eC (a:A):Ex:=λ_ S=>.ok a S
section
variable {X:Cx}{pos:Pos}{a b:aE}
def jB(i:Nat){x:Str}(J:X.N[i]?=some x<|>ε)(hv:WH X.env.scope x:=by first|exact Or.inl rfl|exact Or.inr (Or.inl rfl)|exact Or.inr<|Or.inr rfl)(hd:(x == ("__debug__" : Str))=false:=by decide)
  (j:(x == ("__classdict__" : Str))=false:=by decide):AE X (.Name x pos) (jE i):=PE.imp (T_ J hv hd j) λσ H Q h9=>by
 z_go;unfold jE at h
 cases hi:τ[i]? with
 | none=>
  rw[aN,hi]at h;exact h.elim
 | some x=>
  rw[aN,hi]at h
  rcases r.at i x hi with z|⟨v,e,q⟩
  ·subst z;exact h.elim
  ·refine⟨v,e,?_⟩
   cases x<;>first|(exact h ρ H v .refl R q)|exact h.elim
def jH{i:Int}{j pos}:AE X (.Constant (.int i) j pos) (eC<|.int i):=PE.imp EA λσ H Q ⟨ρ,S,τ,R,r,h⟩=>h ρ H _ .refl R<|.int i
def Ba{j pos}:AE X (.Constant (.bool i) j pos) (eC<|.bl i):=PE.imp VN λσ H Q ⟨ρ,S,τ,R,r,h⟩=>h ρ H _ .refl R<|.bl i
def mF{j pos}:AE X (.Constant .none j pos) (eC .non):=PE.imp RB λσ H Q ⟨ρ,S,τ,R,r,h⟩=>h ρ H _ .refl R .non
def jO{x:Str}{j pos}:AE X (.Constant (.str x) j pos) (eC<|.str x):=PE.imp M3 λσ H Q ⟨ρ,S,τ,R,r,h⟩=>h ρ H _ .refl R<|.str x
def qk{x:Str}{i:Int}(j:X.mg x=some (.int i t))(hg:Gl X x<|>ε)(hd:(x == ("__debug__" : Str))=false<|>δ):AE X (.Name x pos) (eC<|.int i):=
 PE.imp (BL (v:=.int i) hg j ⟨t,rfl⟩ hd) λσ H Q ⟨ρ,S,τ,R,r,h⟩=>h ρ H _ .refl R<|.int i
abbrev jJ (f:A->A->jL->R A)(ca j:Ex):Ex:=λτ S=>(ca τ S).bind λa S1=>(j τ S1).bind λb d=>f a b d
abbrev r2 (X:Cx)(f:A->A->jL->R A):R2:=λx y H Q=>∃ρ S a b,Rel X.K ρ H S/\AV X.K ρ H a x/\AV X.K ρ H b y/\(f a b S).post (ug X ρ H Q) (XE X ρ H)
abbrev r1 (X:Cx)(f:A->jL->R A):V->Hp->VK->Prop:=λx H Q=>∃ρ S a,Rel X.K ρ H S/\AV X.K ρ H a x/\(f a S).post (ug X ρ H Q) (XE X ρ H)
abbrev rN (X:Cx)(f:ae->jL->R A):List V->Hp->VK->Prop:=λxs H Q=>∃ρ S d,Rel X.K ρ H S/\AVs X.K ρ H d xs/\(f d S).post (ug X ρ H Q) (XE X ρ H)
def nZ.imp{f:aa->aa->Sem aa}{r j:R2}(h:nZ X f r)(i:∀x y H Q,j x y H Q->r x y H Q):nZ X f j:=λpins s σ H x y v u Q I rx ry q=>h pins s σ H x y v u Q I rx ry<|i _ _ _ _ q
def kE.imp{f:aa}{r j:List V->Hp->VK->Prop}(h:kE X f r)(i:∀x H Q,j x H Q->r x H Q):kE X f j:=λpins s σ H x v Q I rx q=>h pins s σ H x v Q I rx<|i _ _ _ q
def yI{f:A->A->jL->R A}{ca J:Ex}{H:Hp}{Q:VK}(h:tE X (jJ f ca J) σ H Q):Wz (r2 X f) (tE X ca) (tE X J) σ H Q:=by
 ksr_p;refine⟨ρ,S,τ,R,r,jM (jN h) .refl λa S1 h1 ρ1 H1 x e1 R1 p=>⟨ρ1,S1,τ,R1,r.ext e1,jM (jN h1) e1 λb m g d H2 y e2 R2 j=>?_⟩⟩;exact⟨d,m,a,b,R2,p.ext e2,j,jM g (e1.trans e2) λc B k=>k.ext<|e1.trans e2⟩
def jS{f:A->A->jL->R A}{ca j:Ex}(J:nZ X (binaryOp op)<|r2 X f)(L:AE X a ca)(hb:AE X b j):AE X (.BinOp a op b pos) (jJ f ca j):=
 PE.imp (VM J L hb) λσ H Q h=>yI h
def nc{j:CmpOp}{f:A->A->jL->R A}{ca J:Ex}(L:nZ X (compareOp j)<|r2 X f)(U:AE X a ca)(hb:AE X b J)(Z:behindInMarks j b=false:=by first|exact Le _|with_unfolding_all rfl):AE X (.Compare a [j] [b] pos) (jJ f ca J):=
 PE.imp (Pf L U hb Z) λσ H Q h=>yI h
abbrev A.Qi:A->jL->bp
 | .non,_=>some false
 | .bl b,_=>some b
 | .int i,_=>some (i != 0)
 | .str x,_=>if x.length<=sizeLine then some ((x.length:Int) != 0)else none
 | .tup xs,_=>some (!xs.isEmpty)
 | .frz xs,_=>some (!xs.isEmpty)
 | .ref n,S=>(jF S n).map λxs=>!xs.isEmpty
 | _,_=>none
abbrev nY (c:Ex):Te:=λτ S=>(c τ S).bind λa S1=>opt (a.Qi S1) λb=>.ok b S1
abbrev oH (c:Ex):Te:=λτ S=>(c τ S).bind λa S1=>match a with
 | .bl b=>.ok b S1
 | _=>.no
def A8{K:au}{H:Hp}{b:Bool}{v:V}(h:AV K ρ H (.bl b) v):v=.bl b:=by cases h;rfl
def j_{j:CmpOp}{f:A->A->jL->R A}{ca J:Ex}(L:nZ X (compareOp j)<|r2 X f)(U:AE X a ca)(hb:AE X b J)(Z:behindInMarks j b=false:=by first|exact Le _|with_unfolding_all rfl):AT X (.Compare a [j] [b] pos) (oH<|jJ f ca J):=
 PT.imp (OZ L U hb Z) λσ H Q h9=>by
  z_go;refine yI ⟨ρ,S,τ,R,r,jM (jN h) .refl λc S1 h1 ρ1 H1 x e1 R1 d=>?_⟩
  cases c with
  | bl k=>cases A8 d;exact⟨k,rfl,h1 ρ1 H1 e1 R1⟩
  | _=>exact h1.elim
def Ti{K:au}{H:Hp}{x:A}{v:V}{b:Bool}(R:Rel K ρ H S)(h:AV K ρ H x v)(e:x.Qi S=some b):Sa K v H b:=by
 have d:∀{xs:ae} {vs:List V},AVs K ρ H xs vs->(!xs.isEmpty)=!vs.isEmpty:=λr=>by cases r<;>rfl
 cases h with
 | non=>exact(aU e).symm
 | bl b=>exact(aU e).symm
 | int i=>exact(aU e).symm
 | str x=>
  by_cases f:x.length<=sizeLine
  ·exact⟨f,by have:=(aQ f).symm.trans e;exact(aU this).symm⟩
  ·have:=(aO f).symm.trans e;cases this
 | tup h r=>exact .inr (.inl ⟨_,pJ.of h,by rw[<- d r];exact(aU e).symm⟩)
 | frz h r=>exact .inl ⟨_,h.ND,by rw[<- d r];exact(aU e).symm⟩
 | rng h=>cases e
 | ty n=>cases e
 | exn n h x=>cases e
 | ktu h r=>cases e
 | @ref a n h=>
  have e:(jF S n).map (λxs=>!xs.isEmpty)=some b:=e;obtain⟨xs,hn,e⟩:=br.mp e;obtain⟨vs,h1,g⟩:=R.lst h<|jX hn;exact .inl ⟨vs,nh.of h1,by rw[<- d g];exact e.symm⟩
def lR{ca:Ex}(j:AE X a ca)(J:(∀whole,isTrue a X.env whole=(do let v <- whole;standAt a.pos;holding [v] (truthy v)))<|>ζ):AT X a (nY ca):=
 PT.imp (Nv j J) λσ H Q ⟨ρ,S,τ,R,r,h⟩=>⟨ρ,S,τ,R,r,jM (jN h) .refl λc S1 h1 ρ1 H1 x e1 R1 f=>by
  obtain⟨b,d,h1⟩:=jY h1;exact⟨b,Ti R1 f d,h1 ρ1 H1 e1 R1⟩⟩
abbrev qv (c:Te):Te:=λτ S=>(c τ S).bind λb S1=>.ok (!b) S1
abbrev Aq (c d:Te):Te:=λτ S=>(c τ S).bind λb S1=>match b with|true=>d τ S1|false=>.ok false S1
abbrev zC (c d:Te):Te:=λτ S=>(c τ S).bind λb S1=>match b with|true=>.ok true S1|false=>d τ S1
def nF{c:Te}(h:AT X a c):AT X (.UnaryOp .Not a pos) (qv c):=PT.imp (TZ h) λσ H Q ⟨ρ,S,τ,R,r,h⟩=>⟨ρ,S,τ,R,r,jM (jN h) .refl λb S1 h1=>h1⟩
def and_imp{c d:Te}{H:Hp}{Q:Bool->Hp->Prop}(h:tT X (Aq c d) σ H Q):WN (tT X c) (tT X d) σ H Q:=by
 ksr_p;refine⟨ρ,S,τ,R,r,jM (jN h) .refl λb S1 h1 ρ1 H1 e1 R1=>?_⟩
 cases b with
 | true=>
  rw[aQ rfl];kpc_g
 | false=>
  rw[aO bh];exact h1 ρ1 H1 e1 R1
def or_imp{c d:Te}{H:Hp}{Q:Bool->Hp->Prop}(h:tT X (zC c d) σ H Q):YM (tT X c) (tT X d) σ H Q:=by
 ksr_p;refine⟨ρ,S,τ,R,r,jM (jN h) .refl λb S1 h1 ρ1 H1 e1 R1=>?_⟩
 cases b with
 | false=>
  rw[aO bh];kpc_g
 | true=>
  rw[aQ rfl];exact h1 ρ1 H1 e1 R1
variable {rest:List aE}
def yN{c:Te}(h:AT X a c):AW X (.BoolOp .And [a] pos) c:=Oc h
def pO{c:Te}(h:AT X a c):AW X (.BoolOp .Or [a] pos) c:=Uy h
def BD{c d:Te}(h:AT X a c)(j:AW X (.BoolOp .And (b::rest) pos) d):AW X (.BoolOp .And (a::b::rest) pos) (Aq c d):=PW.imp (Ul h j) λ_ _ _ q=>and_imp q
def oG{c d:Te}(h:AT X a c)(j:AW X (.BoolOp .Or (b::rest) pos) d):AW X (.BoolOp .Or (a::b::rest) pos) (zC c d):=PW.imp (UX h j) λ_ _ _ q=>or_imp q
abbrev zw (c d:Ex):Ex:=λτ S=>(c τ S).bind λa S1=>match a with | .bl true=>d τ S1 | .bl false=>.ok (.bl false) S1|_=>.no
abbrev YN (c d:Ex):Ex:=λτ S=>(c τ S).bind λa S1=>match a with | .bl true=>.ok (.bl true) S1 | .bl false=>d τ S1|_=>.no
abbrev PK (c:Ex):Ex:=λτ S=>(c τ S).bind λa S1=>match a with | .bl b=>.ok (.bl !b) S1|_=>.no
def zm{op}{c:Ex}(h:AE X a c):AE X (.BoolOp op [a] pos) c:=Se h
def vt{c d:Ex}(h:AE X a c)(j:AE X (.BoolOp .And (b::rest) pos) d):AE X (.BoolOp .And (a::b::rest) pos) (zw c d):=PE.imp (TV h j) λσ H Q h9=>by
 z_go;refine⟨ρ,S,τ,R,r,jM (jN h) .refl λb S1 h1 ρ1 H1 x e1 R1 f=>?_⟩
 cases b with
 | bl k=>
  cases A8 f
  refine⟨k,rfl,?_⟩
  cases k with
  | true=>
   rw[aQ rfl];kpc_g
  | false=>
   rw[aO bh];exact h1 ρ1 H1 _ e1 R1<|.bl false
 | _=>exact h1.elim
def KO{c:Ex}(h:AE X a c):AE X (.UnaryOp .Not a pos) (PK c):=PE.imp (Tr h) λσ H Q h9=>by
 z_go;refine⟨ρ,S,τ,R,r,jM (jN h) .refl λb S1 h1 ρ1 H1 x e1 R1 d=>?_⟩
 cases b with
 | bl k=>
  cases A8 d
  exact⟨k,rfl,h1 ρ1 H1 _ e1 R1<|.bl _⟩
 | _=>exact h1.elim
abbrev z_ (t:Te)(c d:Ex):Ex:=λτ S=>(t τ S).bind λb S1=>match b with|true=>c τ S1|false=>d τ S1
def sj{t:Te}{c d:Ex}(j:AT X e t)(J:AE X a c)(hb:AE X b d):AE X (.IfExp e a b pos) (z_ t c d):=PE.imp (JC j J hb) λσ H Q h9=>by
 z_go;refine⟨ρ,S,τ,R,r,jM (jN h) .refl λb S1 h1 ρ1 H1 e1 R1=>?_⟩
 cases b with
 | true=>
  rw[aQ rfl];kpc_g
 | false=>
  rw[aO bh];kpc_g
abbrev jK:rW:=λ_ S=>.ok [] S
abbrev jC (c:Ex)(d:rW):rW:=λτ S=>(c τ S).bind λa S1=>(d τ S1).bind λf g=>.ok (a::f) g
def jI:AL X [] jK:=PA.imp qR λσ H Q ⟨ρ,S,τ,R,r,h⟩=>h ρ H _ .refl R .nil
def jD{c:Ex}{d:rW}(J:AE X e c)(L:AL X es d)(hs:starEach (e::es) X.env=(false,eval e X.env)::starEach es X.env<|>ε):AL X (e::es) (jC c d):=
 PA.imp (mQ J L hs) λσ H Q h9=>by
  z_go;refine⟨ρ,S,τ,R,r,jM (jN h) .refl λa S1 h1 ρ1 H1 x e1 R1 k=>⟨ρ1,S1,τ,R1,r.ext e1,jM (jN h1) e1 λp m g f H2 xs e2 R2 j=>?_⟩⟩;exact g f H2 _ (e1.trans e2) R2<|.cons (k.ext e2) j
abbrev yE (d:rW):Ex:=λτ S=>(d τ S).bind λf S1=>gd (f.length<=sizeLine)<|.ok (.tup f) S1
abbrev newL (j:ae)(S:jL):R A:=gd (j.length<=sizeLine)<|.ok (.ref S.length)<|S++[.lst j]
abbrev oQ (d:rW):Ex:=λτ S=>(d τ S).bind λf S1=>newL f S1
def qB{H j:Hp}{J:ae}{Q:VK}(R:Rel X.K ρ H S)(r:AVs X.K ρ H J vs)(e:Ext ρ0 ρ j H)(h:ug X ρ0 j Q (.tup J) S):∀p,H p=none->Q (.ref p) (upd H p<|.tup vs):=λp hp=>by
 obtain⟨ex,d⟩:=R.im (u:=.tup vs) hp;exact h ρ _ _ (e.trans ex) d<|.tup kJ<|r.ext ex
def nO{H j:Hp}{S:jL}{J:ae}{Q:VK}(R:Rel X.K ρ H S)(r:AVs X.K ρ H J vs)(e:Ext ρ0 ρ j H)(h:ug X ρ0 j Q (.ref S.length)<|S++[.lst J]):∀p,H p=none->Q (.ref p) (upd H p<|.lst vs):=λp hp=>by
 obtain⟨ex,d,g⟩:=R.lay hp r;exact h _ _ _ (e.trans ex) d<|.ref g
def NI{H j:Hp}{J:ae}{vs:List V}{Q:VK}(R:Rel X.K ρ H S)(r:AVs X.K ρ H J vs)(e:Ext ρ0 ρ j H)(h:(newL J S).post (ug X ρ0 j Q)<|XE X ρ0 j):vs.length<=sizeLine/\∀p,H p=none->Q (.ref p) (upd H p<|.lst vs):=by
 obtain⟨d,h⟩:=kc h;exact⟨by rw[<- r.length];exact d,nO R r e h⟩
def vI{d:rW}{x1}(h:AL X es d):AE X (.Tuple es x1 pos) (yE d):=PE.imp (UA h) λσ H Q h9=>by
 z_go;refine⟨ρ,S,τ,R,r,jM (jN h) .refl λj S1 h1 ρ1 H1 xs e1 R1 f=>?_⟩;obtain⟨g,h1⟩:=kc h1;exact⟨by rw[<- f.length];exact g,qB R1 f e1 h1⟩
def lD{d:rW}(h:AL X es d):AE X (.List es pos) (oQ d):=PE.imp (RX h) λσ H Q ⟨ρ,S,τ,R,r,h⟩=>
 ⟨ρ,S,τ,R,r,jM (jN h) .refl λg S1 h1 ρ1 H1 xs e1 R1 f=>NI R1 f e1 h1⟩
end
section
variable {X:Cx}{pos:Pos}{a b:aE}
abbrev aSub (a b:A)(S:jL):R A:=match a,b with
 | .int i,.int j=>.ok (.int<|i-j) S
 | _,_=>.no
def Fp:nZ X (binaryOp .Sub) (r2 X aSub):=nZ.imp Rr λx y H Q h9=>by
 w_up
 cases va<;>first|exact h.elim|(cases vb<;>first|exact h.elim|exact⟨_,_,rfl,rfl,h _ _ _ .refl R<|.int _⟩)
abbrev Dw (i j:Int):Bool:=(decide (-(2 ^ 64)<i) && decide (i<2 ^ 64)) || (decide (-(2 ^ 64)<j) && decide (j<2 ^ 64))
def mulOk_of{i j:Int}(h:Dw i j=true):NZ i j:=by
 unfold Dw at h;dsimp[gA,bE,eK]at h;exact h
abbrev oR (a b:A)(S:jL):R A:=match a,b with
 | .int i,.int j=>gd (Dw i j) (.ok (.int<|i * j) S)
 | .ref n,.int k=>opt (jF S n) λxs=>gd (-(2 ^ 63)<=k/\k<2 ^ 63/\xs.length * k.toNat<=sizeLine) (.ok (.ref S.length)<|S++[.lst (List.replicate k.toNat xs).flatten])
 | _,_=>.no
theorem AVs.rep{K:au}{H:Hp}(r:AVs K ρ H xs vs):∀k:Nat,AVs K ρ H (List.replicate k xs).flatten (List.replicate k vs).flatten
 | 0=>.nil
 | k+1=>by rw[dJ,dJ,fJ,fJ];exact r.append<|AVs.rep r k
def vf:nZ X (binaryOp .Mult) (r2 X oR):=λpins s σ H x y v u Q I rx ry h9=>by
 w_up
 cases va with
 | int i=>
  cases vb with
  | int j=>
   obtain⟨f,h⟩:=kc h;exact TF pins s σ H _ _ v u Q I rx ry ⟨i,j,rfl,rfl,mulOk_of f,h _ _ _ .refl R<|.int _⟩
  | _=>exact h.elim
 | @ref p n hp=>
  cases vb with
  | int k=>
   kj_on;obtain⟨hc,h⟩:=kc h;obtain⟨vs,h1,d⟩:=R.lst hp<|jX hn;exact RL pins s σ H _ _ v u Q I rx ry ⟨p,k,vs,rfl,rfl,h1,hc.1,hc.2.1,by rw[<- d.length];exact hc.2.2,nO R (d.rep _) .refl h⟩
  | _=>exact h.elim
 | _=>exact h.elim
abbrev yr (a b:A)(S:jL):R A:=match a,b with
 | .int i,.int j=>gd (0<j) (.ok (.int<|i % j) S)
 | _,_=>.no
def Bc:nZ X (binaryOp .Mod) (r2 X yr):=nZ.imp Rk λx y H Q h9=>by
 w_up
 cases va<;>first|exact h.elim|(cases vb<;>first|exact h.elim|exact⟨_,_,rfl,rfl,(kc h).1,(kc h).2 _ _ _ .refl R<|.int _⟩)
abbrev N6 (a b:A)(S:jL):R A:=match a,b with
 | .int i,.int j=>gd (0<=j/\j<=1000000/\i.natAbs<2 ^ 64) (.ok (.int<|i ^ j.toNat) S)
 | _,_=>.no
def UU:nZ X (binaryOp .Pow) (r2 X N6):=nZ.imp T5 λx y H Q h9=>by
 w_up
 cases va<;>first|exact h.elim|(cases vb<;>first|exact h.elim|exact⟨_,_,rfl,rfl,(kc h).1,(kc h).2 _ _ _ .refl R<|.int _⟩)
abbrev kq (a b:A)(S:jL):R A:=match a,b with
 | .int i,.int j=>.ok (.int<|i+j) S
 | .tup xs,.tup ys=>gd (xs.length+ys.length<=sizeLine) (.ok (.tup<|xs++ys) S)
 | .str x,.str y=>gd (x.length+y.length<=sizeLine) (.ok (.str<|x++y) S)
 | .ref n,.ref m=>opt (jF S n) λxs=>opt (jF S m) λys=>gd (xs.length+ys.length<=sizeLine) (.ok (.ref S.length)<|S++[.lst<|xs++ys])
 | _,_=>.no
def AVs.nil_inv{K:au}{H:Hp}(r:AVs K ρ H xs vs):xs=[] ↔ vs=[]:=by cases r<;>simp
def kF:nZ X (binaryOp .Add) (r2 X kq):=λpins s σ H x y v u Q I rx ry h9=>by
 w_up
 cases va with
 | int i=>
  cases vb with
  | int j=>exact SQ pins s σ H _ _ v u Q I rx ry ⟨i,j,rfl,rfl,h _ _ _ .refl R<|.int _⟩
  | _=>exact h.elim
 | str x=>
  cases vb with
  | str y=>
   obtain⟨hc,h⟩:=kc h;exact Ei pins s σ H _ _ v u Q I rx ry ⟨x,y,rfl,rfl,hc,h _ _ _ .refl R<|.str _⟩
  | _=>exact h.elim
 | @tup p xs vs h1 r1=>
  cases vb with
  | @tup q ys f d r2=>
   obtain⟨hc,h⟩:=kc h;by_cases hv:vs=[]
   ·have B:=r1.nil_inv.mpr hv;subst hv B;exact Kc pins s σ H _ _ v u Q I rx ry ⟨p,q,f,rfl,rfl,pJ.of h1,pJ.of d,h _ _ _ .refl R<|.tup d r2⟩
   ·refine O4 pins s σ H _ _ v u Q I rx ry ⟨p,q,vs,f,rfl,rfl,pJ.of h1,pJ.of d,hv,by rw[<- r1.length,<- r2.length];exact hc,λe=>?_,λ_=>qB R (r1.append r2) .refl h⟩;have hy:=r2.nil_inv.mpr e;subst hy;rw[bS]at h;exact h _ _ _ .refl R<|.tup h1 r1
  | _=>exact h.elim
 | @ref p n hp=>
  cases vb with
  | @ref q m F=>
   kj_on;obtain⟨ys,k,h⟩:=jY h;obtain⟨hc,h⟩:=kc h;obtain⟨vs,h1,d⟩:=R.lst hp<|jX hn;obtain⟨f,C,g⟩:=R.lst F<|jX k;exact Sk pins s σ H _ _ v u Q I rx ry ⟨p,q,vs,f,rfl,rfl,h1,C,by rw[<- d.length,<- g.length];exact hc,nO R (d.append g) .refl h⟩
  | _=>exact h.elim
 | _=>exact h.elim
abbrev A.ints:ae->Option (ag)
 | []=>some []
 | .int i::xs=>(A.ints xs).map (i::·)
 | _=>none
def UI{x:A}{bs:ag}(e:A.ints (x::xs)=some bs):∃b cs,x=.int b/\A.ints xs=some cs/\bs=b::cs:=by
 unfold A.ints at e;split at e
 ·rename_i z;cases z
 ·rename_i i ys z
  cases z
  obtain⟨cs,h1,d⟩:=br.mp e;exact⟨i,cs,rfl,h1,d.symm⟩
 ·cases e
def HG{K:au}{H:Hp}:∀{xs:ae}{vs:List V}{bs:ag},AVs K ρ H xs vs->A.ints xs=some bs->vs=bs.map V.int:=by
 intro xs
 induction xs with
 | nil=>
  intro vs bs h e
  cases h
  cases e
  rfl
 | cons x xs d=>
  intro vs bs h e;obtain⟨b,cs,rfl,e1,rfl⟩:=UI e
  cases h with
  | cons h t=>
   cases h
   rw[d t e1];rfl
abbrev Aw (a b:A)(S:jL):R A:=match a,b with
 | .int i,.int j=>.ok (.bl<|decide<|i<j) S
 | _,_=>.no
def BG(J:X.A.units+64<cLine):nZ X (compareOp .Lt) (r2 X Aw):=λpins s σ H x y v u Q I rx ry h9=>by
 w_up
 cases va with
 | int i=>
  cases vb with
  | int j=>exact VP pins s σ H _ _ v u Q I rx ry ⟨i,j,rfl,rfl,h _ _ _ .refl R<|.bl _⟩
  | _=>exact h.elim
 | _=>exact h.elim
abbrev Ay (a b:A)(S:jL):R A:=match a,b with
 | .int i,.int j=>.ok (.bl<|decide<|i<=j) S
 | _,_=>.no
def DA:nZ X (compareOp .LtE) (r2 X Ay):=nZ.imp VD λx y H Q h9=>by
 w_up
 cases va<;>first|exact h.elim|(cases vb<;>first|exact h.elim|exact⟨_,_,rfl,rfl,h _ _ _ .refl R<|.bl _⟩)
abbrev Dy (a b:A)(S:jL):R A:=match a,b with
 | .int i,.int j=>.ok (.bl<|decide<|j<i) S
 | _,_=>.no
def yv(J:X.A.units+64<cLine):nZ X (compareOp .Gt) (r2 X Dy):=λpins s σ H x y v u Q I rx ry h9=>by
 w_up
 cases va with
 | int i=>
  cases vb with
  | int j=>exact V_ pins s σ H _ _ v u Q I rx ry ⟨i,j,rfl,rfl,h _ _ _ .refl R<|.bl _⟩
  | _=>exact h.elim
 | _=>exact h.elim
abbrev Wq (a b:A)(S:jL):R A:=match a,b with
 | .int i,.int j=>.ok (.bl<|decide<|j<=i) S
 | _,_=>.no
def U4:nZ X (compareOp .GtE) (r2 X Wq):=nZ.imp U9 λx y H Q h9=>by
 w_up
 cases va<;>first|exact h.elim|(cases vb<;>first|exact h.elim|exact⟨_,_,rfl,rfl,h _ _ _ .refl R<|.bl _⟩)
abbrev Aa (J:Bool)(a b:A)(S:jL):R A:=match a,b with
 | .bl i,.bl j=>.ok (.bl<|if J then i != j else i == j) S
 | .non,.non=>.ok (.bl<|!J) S
 | .unb,.non=>.no
 | .exn _,.non=>.no
 | _,.non=>.ok (.bl J) S
 | _,_=>.no
def Uh{n:Bool}{a b:A}(h1:b≠.non)(J:∀j,b≠.bl j):Aa n a b S=.no:=by
 unfold Aa;split<;>first|rfl|exact absurd rfl h1|exact absurd rfl<|J _
def MC{n:Bool}{a b:A}{F:A->jL->Prop}{G:Str->jL->Prop}(h:(Aa n a b S).post F G)(h1:b≠.non)(J:∀j,b≠.bl j):False:=by
 rw[Uh h1 J]at h;exact h
def Ii:nZ X (compareOp .Is) (r2 X<|Aa false):=λpins s σ H x y v u Q I rx ry h9=>by
 w_up
 cases vb with
 | non=>
  refine RC pins s σ H _ _ v u Q I rx ry ⟨rfl,?_⟩
  cases va<;>first|exact h _ _ _ .refl R (.bl _)|exact h.elim
 | bl j=>
  cases va with
  | bl i=>exact Um pins s σ H _ _ v u Q I rx ry ⟨i,j,rfl,rfl,h _ _ _ .refl R<|.bl _⟩
  | _=>exact h.elim
 | _=>
  exact(MC h (λz=>nomatch z) nofun).elim
def N7:nZ X (compareOp .IsNot) (r2 X<|Aa true):=λpins s σ H x y v u Q I rx ry h9=>by
 w_up
 cases vb with
 | non=>
  refine PD pins s σ H _ _ v u Q I rx ry ⟨rfl,?_⟩
  cases va<;>first|exact h _ _ _ .refl R (.bl _)|exact h.elim
 | bl j=>
  cases va with
  | bl i=>exact Il pins s σ H _ _ v u Q I rx ry ⟨i,j,rfl,rfl,h _ _ _ .refl R<|.bl _⟩
  | _=>exact h.elim
 | _=>
  exact(MC h (λz=>nomatch z) nofun).elim
abbrev Cr (f:A->jL->R A)(c:Ex):Ex:=λτ S=>(c τ S).bind λa S1=>f a S1
abbrev sU (a:A)(S:jL):R A:=match a with
 | .int i=>.ok (.int<|-i) S
 | _=>.no
def WC:W9 X (unaryOp .USub) (r1 X sU):=λpins s σ H x v Q I rx h9=>by
 obtain⟨ρ,S,a,R,va,h⟩:=h9
 cases va with
 | int i=>exact EW pins s σ H _ v Q I rx ⟨i,rfl,h _ _ _ .refl R<|.int _⟩
 | _=>exact h.elim
def RG{f:A->jL->R A}{c:Ex}{H:Hp}{Q:VK}(h:tE X (Cr f c) σ H Q):Zm (r1 X f) (tE X c) σ H Q:=by
 ksr_p;exact⟨ρ,S,τ,R,r,jM (jN h) .refl λa S1 h1 ρ1 H1 x e1 R1 d=>⟨ρ1,S1,a,R1,d,jM h1 e1 λc j g=>g.ext e1⟩⟩
def sX{c:Ex}(h:AE X a c):AE X (.UnaryOp .USub a pos) (Cr sU c):=PE.imp (M9 WC h) λ_ _ _ q=>RG q
abbrev oJ (a b:A)(S:jL):R A:=match a,b with
 | .tup xs,.int i=>opt (qE xs i) λx=>.ok x S
 | .frz xs,.int i=>opt (qE xs i) λx=>.ok x S
 | .ref n,.int i=>opt (jF S n) λxs=>opt (qE xs i) λx=>.ok x S
 | .str z,.int i=>gd (z.length<=sizeLine) (opt (qE z.cps.toList i) λc=>.ok (.str ⟨#[c]⟩) S)
 | _,_=>.no
def AVs.qE{K:au}{H:Hp}{i:Int}{x:A}(r:AVs K ρ H xs vs)(h:L2.qE xs i=some x):∃v,L2.qE vs i=some v/\AV K ρ H x v:=by
 unfold L2.qE at h ⊢;rw[<- r.length]
 cases d:z9 xs.length i with
 | none=>rw[d]at h;cases h
 | some j=>
  rw[d]at h;exact r.get h
def VO:VT X (r2 X oJ):=λf d pins s σ H x y v u Q I rx ry ⟨ρ,S,a,b,R,va,vb,h⟩ hs=>by
 cases va with
 | @tup p xs vs h1 r1=>
  cases vb with
  | int i=>
   obtain⟨x,g,h⟩:=jY h;obtain⟨z,e,q⟩:=r1.qE g;exact TH f d pins s σ H _ _ v u Q I rx ry ⟨p,vs,i,z,rfl,rfl,pJ.of h1,e,h _ _ _ .refl R q⟩ hs
  | _=>exact h.elim
 | @frz p xs vs h1 r1=>
  cases vb with
  | int i=>
   obtain⟨x,g,h⟩:=jY h;obtain⟨z,e,q⟩:=r1.qE g;exact Hf f d pins s σ H _ _ v u Q I rx ry ⟨p,vs,i,z,rfl,rfl,h1.ND,e,h _ _ _ .refl R q⟩ hs
  | _=>exact h.elim
 | @ref p n hp=>
  cases vb with
  | int i=>
   kj_on;obtain⟨x,g,h⟩:=jY h;obtain⟨vs,h1,r1⟩:=R.lst hp<|jX hn;obtain⟨z,e,q⟩:=r1.qE g;exact Hf f d pins s σ H _ _ v u Q I rx ry ⟨p,vs,i,z,rfl,rfl,nh.of h1,e,h _ _ _ .refl R q⟩ hs
  | _=>exact h.elim
 | str z=>
  cases vb with
  | int i=>
   obtain⟨j,h⟩:=kc h;obtain⟨c,hc,h⟩:=jY h;exact Sd f d pins s σ H _ _ v u Q I rx ry ⟨z,i,c,rfl,rfl,j,hc,h _ _ _ .refl R<|.str _⟩ hs
  | _=>exact h.elim
 | _=>exact h.elim
def lO{ca j:Ex}(J:AE X a ca)(hb:AE X b j)(hs:Gj b<|>θ):AE X (.Subscript a b pos) (jJ oJ ca j):=PE.imp (Vd VO J hb hs) λσ H Q h=>yI h
end
abbrev yi (f:A->A->bp):ae->ae->bp
 | [],[]=>some true
 | x::xs,y::ys=>(f x y).bind λp=>(yi f xs ys).map λq=>p && q
 | _,_=>some false
inductive Sh
 | non
 | bl (b:Bool)
 | int (i:Int)
 | str (x:Str)
 | tup (xs:ae)
 | lst
abbrev Tp (S:jL):A->Option Sh
 | .non=>some .non
 | .bl b=>some (.bl b)
 | .int i=>some (.int i)
 | .str x=>some (.str x)
 | .tup xs=>some (.tup xs)
 | .ref i=>(jF S i).map λ_=>.lst
 | _=>none
abbrev NN (f:A->A->bp):Sh->Sh->bp
 | .non,.non=>some true
 | .bl x,.bl y=>some (x == y)
 | .bl x,.int y=>some ((if x then 1 else 0) == y)
 | .int x,.bl y=>some (x == (if y then 1 else 0))
 | .int x,.int y=>some (x == y)
 | .str x,.str y=>some (x == y)
 | .tup xs,.tup ys=>yi f xs ys
 | .lst,.lst=>none
 | _,_=>some false
abbrev wU (S:jL):Nat->A->A->bp
 | 0,_,_=>none
 | n+1,a,b=>match a,b with
  | .ref i,.ref j=>(jF S i).bind λxs=>(jF S j).bind λys=>yi (wU S n) xs ys
  | _,_=>(Tp S a).bind λx=>(Tp S b).bind λy=>NN (wU S n) x y
section
variable {X:Cx}{pins:bv}{σ:L2.St}{H:Hp}{s:aA}{ρ:bi}{S:jL}
inductive KdV (s:aA):Sh->aa->Prop
 | non:KdV s .non .none
 | bl (b:Bool):KdV s (.bl b) (.bool b)
 | int (i:Int) (t:Tok):KdV s (.int i) (.int i t)
 | str (x:Str) (t:Tok):KdV s (.str x) (.str x t)
 | tup {p:aj} {us:be} (xs:ae) (h:s.heap.IsTuple p us.toArray):KdV s (.tup xs) (.ref p)
 | lst {p:aj} {us:be} (h:s.heap.IsList p us.toArray):KdV s .lst<|.ref p
def HQ{p:aj}(h:s.heap.IsTuple p us)(h':s.heap.IsList p ws):False:=by
 obtain⟨o,e,c,_⟩:=h;obtain⟨o',d,f,_⟩:=h';rw[e]at d
 cases d
 exact absurd (c.symm.trans f) ⋯
def FA(I:Inv X pins σ H s)(R:Rel X.K ρ H S){a:A}{x:V}(j:AV X.K ρ H a x)(r:RelV x u)(e:Tp S a=some h):KdV s h u:=by
 cases j with
 | non=>cases e;cases(show u=Value.none from r);exact .non
 | bl b=>cases e;cases(show u=Value.bool b from r);exact .bl b
 | int i=>cases e;obtain⟨t,rfl⟩:∃t,u=Value.int i t:=r;exact .int i t
 | str i=>cases e;obtain⟨t,rfl⟩:∃t,u=Value.str i t:=r;exact .str i t
 | tup h1 r1=>cases e;cases(show u=Value.ref _ from r);obtain⟨us,_,p,_⟩:=I.tuple<|pJ.of h1;exact .tup _ p
 | ref h1=>
  obtain⟨xs,e1,rfl⟩:=br.mp e
  cases(show u=Value.ref _ from r)
  obtain⟨vs,d,r1⟩:=R.lst h1<|jX e1;obtain⟨us,_,p,_⟩:=I.list<|nh.of d;exact .lst p.isList
 | _=>cases e
abbrev Al (B:az)(s:aA)(u v:aa)(k:Bool):Prop:=SeqAt.RcAt B s u v k/\SeqAt.EqAt B s u v k/\SeqAt.RcNeAt B s u v (!k)
def V0{B:az}(J:B.units<cLine){f:A->A->bp}{v:aa}{k:Bool}(d:KdV s h u)(d':KdV s h' v)(L:∀xs ys,h=.tup xs->h'≠.tup ys)(e:NN f h h'=some k):Al B s u v k:=by
 cases d with
 | non=>cases d' with
  | non=>cases e;exact⟨.none_none,.same _,.none_none⟩
  | bl b=>cases e;exact⟨.none_bool _,.none_bool _,.none_bool _⟩
  | int i t=>cases e;exact⟨.none_int _ _,.none_int _ _,.none_int _ _⟩
  | str x t=>cases e;exact⟨.none_str _ _,.none_str _ _,.none_str _ _⟩
  | tup xs p=>cases e;exact⟨.none_tuple p J,.none_tuple p J,.none_tuple p J⟩
  | lst p=>cases e;exact⟨.none_list p J,.none_list p J,.none_list p J⟩
 | bl c=>cases d' with
  | non=>cases e;exact⟨.bool_none _,.bool_none _,.bool_none _⟩
  | bl b=>cases e;exact⟨.bool_bool _ _,.bool_bool _ _,.bool_bool _ _⟩
  | int i t=>cases e;exact⟨.bool_int _ _ _,.bool_int _ _ _,.bool_int _ _ _⟩
  | str x t=>cases e;exact⟨.bool_str _ _ _,.bool_str _ _ _,.bool_str _ _ _⟩
  | tup xs p=>cases e;exact⟨.bool_tuple _ p J,.bool_tuple _ p J,.bool_tuple _ p J⟩
  | lst p=>cases e;exact⟨.bool_list _ p J,.bool_list _ p J,.bool_list _ p J⟩
 | int c j=>cases d' with
  | non=>cases e;exact⟨.int_none _ _,.int_none _ _,.int_none _ _⟩
  | bl b=>cases e;exact⟨.int_bool _ _ _,.int_bool _ _ _,.int_bool _ _ _⟩
  | int i t=>cases e;exact⟨.int_int _ _ _ _,.int_int _ _ _ _,.int_int _ _ _ _⟩
  | str x t=>cases e;exact⟨.int_str _ _ _ _,.int_str _ _ _ _,.int_str _ _ _ _⟩
  | tup xs p=>cases e;exact⟨.int_tuple _ _ p J,.int_tuple _ _ p J,.int_tuple _ _ p J⟩
  | lst p=>cases e;exact⟨.int_list _ _ p J,.int_list _ _ p J,.int_list _ _ p J⟩
 | str c j=>cases d' with
  | non=>cases e;exact⟨.str_none _ _,.str_none _ _,.str_none _ _⟩
  | bl b=>cases e;exact⟨.str_bool _ _ _,.str_bool _ _ _,.str_bool _ _ _⟩
  | int i t=>cases e;exact⟨.str_int _ _ _ _,.str_int _ _ _ _,.str_int _ _ _ _⟩
  | str x t=>cases e;exact⟨.str_str _ _ _ _,.str_str _ _ _ _,.str_str _ _ _ _⟩
  | tup xs p=>cases e;exact⟨.str_tuple _ _ p J,.str_tuple _ _ p J,.str_tuple _ _ p J⟩
  | lst p=>cases e;exact⟨.str_list _ _ p J,.str_list _ _ p J,.str_list _ _ p J⟩
 | tup zs g=>cases d' with
  | non=>cases e;exact⟨.tuple_none g J,.tuple_none g J,.tuple_none g J⟩
  | bl b=>cases e;exact⟨.tuple_bool _ g J,.tuple_bool _ g J,.tuple_bool _ g J⟩
  | int i t=>cases e;exact⟨.tuple_int _ _ g J,.tuple_int _ _ g J,.tuple_int _ _ g J⟩
  | str x t=>cases e;exact⟨.tuple_str _ _ g J,.tuple_str _ _ g J,.tuple_str _ _ g J⟩
  | tup xs p=>exact absurd rfl (L _ _ rfl)
  | lst p=>cases e;exact⟨.tuple_list g p J,.of_refs (λz=>by subst z;exact HQ g p)<|.tuple_list g p J,.tuple_list g p J⟩
 | lst g=>cases d' with
  | non=>cases e;exact⟨.list_none g J,.list_none g J,.list_none g J⟩
  | bl b=>cases e;exact⟨.list_bool _ g J,.list_bool _ g J,.list_bool _ g J⟩
  | int i t=>cases e;exact⟨.list_int _ _ g J,.list_int _ _ g J,.list_int _ _ g J⟩
  | str x t=>cases e;exact⟨.list_str _ _ g J,.list_str _ _ g J,.list_str _ _ g J⟩
  | tup xs p=>cases e;exact⟨.list_tuple g p J,.of_refs (λz=>by subst z;exact HQ p g)<|.list_tuple g p J,.list_tuple g p J⟩
  | lst p=>cases e
def BR{a:A}{x:V}(h:AV X.K ρ H a x)(e:Tp S a=some (.tup xs)):a=.tup xs/\∃p vs,x=.ref p/\H p=some (.tup vs)/\AVs X.K ρ H xs vs:=by
 cases h with
 | tup h r=>cases e;exact⟨rfl,_,_,rfl,h,r⟩
 | ref h=>obtain⟨_,_,z⟩:=br.mp e;cases z
 | _=>cases e
def BZ{i:Nat}{x:V}(h:AV X.K ρ H (.ref i) x):∃p,x=.ref p/\ρ[i]?=some p:=by
 cases h with
 | ref h=>exact⟨_,rfl,h⟩
def M1{a:A}(e:Tp S a=some .lst):∃i,a=.ref i:=by
 cases a with
 | ref i=>exact⟨i,rfl⟩
 | _=>cases e
def Nf{n:Nat}{a b:A}{k:Bool}(e:wU S (n+1) a b=some k):(∃i j xs ys,a=.ref i/\b=.ref j/\jF S i=some xs/\jF S j=some ys/\yi (wU S n) xs ys=some k)\/(∃h h',Tp S a=some h/\Tp S b=some h'/\NN (wU S n) h h'=some k/\(h=.lst->h'≠.lst)):=by
 unfold wU at e;split at e
 ·obtain⟨xs,e1,e⟩:=bC.mp e;obtain⟨ys,e2,e⟩:=bC.mp e;exact .inl ⟨_,_,xs,ys,rfl,rfl,e1,e2,e⟩
 ·rename_i g;obtain⟨h,e1,e⟩:=bC.mp e;obtain⟨h',e2,e⟩:=bC.mp e;refine .inr ⟨h,h',e1,e2,e,λd f=>?_⟩;subst d f;obtain⟨i,rfl⟩:=M1 e1;obtain⟨j,rfl⟩:=M1 e2;exact g i j rfl rfl
def Pa{f:A->A->bp}{k:Bool}(d:KdV s h u)(d':KdV s h' u)(j:∀xs ys,h=.tup xs->h'≠.tup ys)(e:NN f h h'=some k):k=true:=by
 cases d with
 | non=>cases d';exact(aU e).symm
 | bl b=>cases d';exact(aU e).symm.trans (bx b)
 | int b=>cases d';exact(aU e).symm.trans (bx b)
 | str b=>cases d';exact(aU e).symm.trans (bx b)
 | tup xs p=>cases d' with
  | tup=>exact absurd rfl (j _ _ rfl)
  | lst q=>exact(HQ p q).elim
 | lst p=>cases d' with
  | tup _ q=>exact(HQ q p).elim
  | lst q=>cases e
def Di{f:A->A->bp}(hf:∀a b x u k,AV X.K ρ H a x->AV X.K ρ H b x->RelV x u->f a b=some k->k=true):∀{xs ys:ae}{vs:List V}{us:be}{k:Bool},AVs X.K ρ H xs vs->AVs X.K ρ H ys vs->Vals vs us->yi f xs ys=some k->k=true:=by
 intro xs ys vs us k h1 d q e
 induction q generalizing xs ys k with
 | nil=>cases h1;cases d;exact(aU e).symm
 | cons g _ m=>
  cases h1 with
  | cons h t=>cases d with
   | cons h' j=>
    obtain⟨p,e1,e⟩:=bC.mp e;obtain⟨q,e2,e3⟩:=br.mp e;rw[<- e3,hf _ _ _ _ p h h' g e1,m t j e2];rfl
def FQ(h h':Sh):(∃xs ys,h=.tup xs/\h'=.tup ys)\/(∀xs ys,h=.tup xs->h'≠.tup ys):=by
 cases h with
 | tup xs=>cases h' with
  | tup ys=>exact .inl ⟨xs,ys,rfl,rfl⟩
  | _=>exact .inr λ_ _ _ z=>nomatch z
 | _=>exact .inr λ_ _ z=>nomatch z
theorem Cg(I:Inv X pins σ H s)(R:Rel X.K ρ H S):∀(n:Nat) (a b:A) (x:V) (u:aa) (k:Bool),AV X.K ρ H a x->AV X.K ρ H b x->RelV x u->wU S n a b=some k->k=true
 | 0,_,_,_,_,_,_,_,_,e=>nomatch e
 | n+1,a,b,x,u,k,ha,hb,ru,e=>by
  rcases Nf e with⟨i,j,xs,ys,rfl,rfl,e1,e2,e⟩|⟨h,h',e1,e2,e,_⟩
  ·obtain⟨p,rfl,h1⟩:=BZ ha;obtain⟨q,z,g⟩:=BZ hb
   cases z
   obtain⟨vs,d,r1⟩:=R.lst h1<|jX e1;obtain⟨m,f,r2⟩:=R.lst g<|jX e2;rw[d]at f
   cases f
   obtain⟨us,q,_⟩:=I.list<|nh.of d;exact Di (λa b x u k=>Cg I R n a b x u k) r1 r2 q e
  ·rcases FQ h h' with⟨xs,ys,rfl,rfl⟩|B
   ·obtain⟨rfl,p,vs,rfl,d,r1⟩:=BR ha e1;obtain⟨rfl,q,m,z,f,r2⟩:=BR hb e2
    cases z
    have:=I.AD (pJ.of d)<|pJ.of f;subst this;obtain⟨us,q,_⟩:=I.tuple<|pJ.of d;exact Di (λa b x u k=>Cg I R n a b x u k) r1 r2 q e
   ·exact Pa (FA I R ha ru e1) (FA I R hb ru e2) B e
abbrev Av (f:A->A->bp)(xs ys:ae)(j:Nat):Bool:=match xs[j]?,ys[j]? with
 | some x,some y=>(f x y).getD true
 | _,_=>true
theorem yP{f:A->A->bp}:∀{xs ys:ae}{k:Bool},yi f xs ys=some k->k=((List.range<|min xs.length ys.length).all (Av f xs ys) && xs.length == ys.length)/\∀j x y,xs[j]?=some x->ys[j]?=some y->f x y=some (Av f xs ys j)
 | [],[],k,e=>⟨(aU e).symm,λj x y h=>by simp at h⟩
 | [],_::_,k,e=>⟨(aU e).symm,λj x y h=>by simp at h⟩
 | _::_,[],k,e=>⟨(aU e).symm,λj x y _ h=>by simp at h⟩
 | x::xs,y::ys,k,e=>by
  unfold yi at e
  cases e1:f x y with
  | none=>rw[e1]at e;cases e
  | some p=>
   rw[e1]at e;obtain⟨q,e2,e3⟩:=br.mp e;obtain⟨h1,B⟩:=yP e2;have m:Av f (x::xs) (y::ys) 0=p:=by simp[Av,e1]
   have ps:∀j,Av f (x::xs) (y::ys) (j+1)=Av f xs ys j:=λj=>by simp[Av]
   refine⟨?_,λj a b g d=>?_⟩
   ·rw[<- e3,h1,aR,aR,Nat.succ_min_succ,gX,gq,List.all_map,m];have:(Av f (x::xs) (y::ys) ∘ Nat.succ)=Av f xs ys:=funext ps;rw[this,Bool.and_assoc];simp
   ·cases j with
    | zero=>
     simp at g d;subst g d;rw[m];exact e1
    | succ j=>rw[ps];exact B j a b (by simpa using g)<|by simpa using d
def yS{f:A->A->bp}(hf:∀a b x y u v k,AV X.K ρ H a x->AV X.K ρ H b y->RelV x u->RelV y v->f a b=some k->SeqAt.EqAt B s u v k){us ts:be}{k:Bool}
  (r1:AVs X.K ρ H xs vs) (r2:AVs X.K ρ H ys ws) (U:Vals vs us) (Z:Vals ws ts) (e:yi f xs ys=some k):∀j (h1:j<us.toArray.size) (h2:j<ts.toArray.size),SeqAt.EqAt B s us.toArray[j] ts.toArray[j] (Av f xs ys j):=by
 intro j h1 h2;have O:=r1.length;have N:=r2.length;have P:=U.length;have T:=Z.length;have C:j<xs.length:=by simp at h1;lia
 have hy:j<ys.length:=by simp at h2;lia
 have e1:xs[j]?=some xs[j]:=aH C;have e2:ys[j]?=some ys[j]:=aH hy;obtain⟨x,ex,d⟩:=r1.get e1;obtain⟨y,G,p⟩:=r2.get e2;obtain⟨u,J,g⟩:=U.get ex;obtain⟨t,F,rt⟩:=Z.get G;have L:us.toArray[j]=u:=by
  have:us[j]?=some us.toArray[j]:=by simp at h1;simp[h1]
  rw[J]at this;exact(aU this).symm
 have m:ts.toArray[j]=t:=by
  have:ts[j]?=some ts.toArray[j]:=by simp at h2;simp[h2]
  rw[F]at this;exact(aU this).symm
 rw[L,m];exact hf _ _ x y u t _ d p g rt<|(yP e).2 j _ _ e1 e2
def in1_units(B:az):B.in1.units=B.units+1:=rfl
theorem Fi(I:Inv X pins σ H s)(R:Rel X.K ρ H S):∀(n:Nat) (B:az) (a b:A) (x y:V) (u v:aa) (k:Bool),B.units+n<cLine->AV X.K ρ H a x->AV X.K ρ H b y->RelV x u->RelV y v->wU S n a b=some k->Al B s u v k
 | 0,_,_,_,_,_,_,_,_,_,_,_,_,_,e=>nomatch e
 | n+1,B,a,b,x,y,u,v,k,hu,ha,hb,rx,ry,e=>by
  have f:B.units<cLine:=()
  have d:∀a b x y u v k,AV X.K ρ H a x->AV X.K ρ H b y->RelV x u->RelV y v->wU S n a b=some k->SeqAt.EqAt B.in1 s u v k:=λa b x y u v k h1 T N O Z=>(Fi I R n B.in1 a b x y u v k (by rw[in1_units];lia) h1 T N O Z).2.1;have same:=λ(z:y=x)=>Cg I R (n+1) a b x u k ha (z ▸ hb) rx e;have m:∀{p q:aj},x=.ref p->y=.ref q->u=.ref p->v=.ref q->SeqAt.RcAt B s u v k->SeqAt.EqAt B s u v k:=λ{p q} g F z3 z4 h=>by
   subst z3 z4;by_cases hp:p=q
   ·subst hp;rw[same<|F.trans g.symm];exact .same _
   ·exact .of_refs hp h
  rcases Nf e with⟨i,j,xs,ys,rfl,rfl,e1,e2,e⟩|⟨h,h',e1,e2,e,_⟩
  ·obtain⟨p,rfl,h1⟩:=BZ ha;obtain⟨q,rfl,T⟩:=BZ hb;obtain⟨vs,N,r1⟩:=R.lst h1<|jX e1;obtain⟨ws,O,r2⟩:=R.lst T<|jX e2;obtain⟨us,G,p1,_⟩:=I.list<|nh.of N;obtain⟨ts,C,p2,_⟩:=I.list<|nh.of O;have P:=m rfl rfl rx ry
   cases(show u=Value.ref p from rx)
   cases(show v=Value.ref q from ry)
   have l1:=r1.length;have l2:=r2.length;have Y:=G.length;have l4:=C.length;have J:=(yP e).1;by_cases U:xs.length=ys.length
   ·rw[<- U,Nat.min_self,bx,iD]at J;have L:us.toArray.size=ts.toArray.size:=by simp;lia
    have g:=SeqAt.RcAt.lists p1.isList p2.isList L f<|yS d r1 r2 G C e;have F:=SeqAt.RcNeAt.lists p1.isList p2.isList L f<|yS d r1 r2 G C e;rw[aY,<- Y,<- l1,<- J]at g F;exact⟨g,P g,F⟩
   ·have:(xs.length == ys.length)=false:=by simpa using U
    rw[this,fu]at J;subst J;have L:(us.toArray.size != ts.toArray.size)=true:=by simp;lia
    have g:=SeqAt.RcAt.lists_lengths p1.isList p2.isList L f;exact⟨g,P g,SeqAt.RcNeAt.lists_lengths p1.isList p2.isList L f⟩
  ·rcases FQ h h' with⟨xs,ys,rfl,rfl⟩|nt
   ·obtain⟨rfl,p,vs,rfl,N,r1⟩:=BR ha e1;obtain⟨rfl,q,ws,rfl,O,r2⟩:=BR hb e2;have P:=m rfl rfl rx ry
    cases(show u=Value.ref p from rx)
    cases(show v=Value.ref q from ry)
    obtain⟨us,G,p1,_⟩:=I.tuple<|pJ.of N;obtain⟨ts,C,p2,_⟩:=I.tuple<|pJ.of O;have J:=(yP e).1;have g:=SeqAt.RcAt.tuples p1 p2 f<|yS d r1 r2 G C e;have F:=SeqAt.RcNeAt.tuples p1 p2 f<|yS d r1 r2 G C e;rw[aY,aY,<- G.length,<- C.length,<- r1.length,<- r2.length,<- J]at g F;exact⟨g,P g,F⟩
   ·exact V0 f (FA I R ha rx e1) (FA I R hb ry e2) nt e
end
section
variable {X:Cx}
abbrev mJ (j:Bool)(a b:A)(S:jL):R A:=opt (wU S 12 a b) λk=>.ok (.bl<|if j then !k else k) S
def oN(j:X.A.units+64<cLine):nZ X (compareOp .Eq) (r2 X<|mJ false):=λpins s σ H x y v u Q I rx ry h9=>by
 w_up;obtain⟨k,e,h⟩:=jY h;exact(Fi I R 12 X.A a b x y v u k (by omega) va vb rx ry e).1 _ _ _ _ ⟨.bl _,H,I,rfl,h _ _ _ .refl R<|.bl _⟩
def EM(j:X.A.units+64<cLine):nZ X (compareOp .NotEq) (r2 X<|mJ true):=λpins s σ H x y v u Q I rx ry h9=>by
 w_up;obtain⟨k,e,h⟩:=jY h;exact(Fi I R 12 X.A a b x y v u k (by omega) va vb rx ry e).2.2 _ _ _ _ ⟨.bl _,H,I,rfl,h _ _ _ .refl R<|.bl _⟩
end
section
variable {X:Cx}{pos:Pos}{a b:aE}
meta abbrev Pt:=ae->jL->R (bo)
abbrev lP:Pt:=λ_ S=>.ok none S
abbrev kP (c:Ex):Pt:=λτ S=>(c τ S).bind λa S1=>match a with
 | .int i=>.ok (some i) S1
 | _=>.no
abbrev tO (X:Cx)(c:Pt):TO:=λσ H Q=>∃ρ S τ,Rel X.K ρ H S/\SR X.K ρ H τ σ/\(c τ S).post (λo d=>∀ρ' H',Ext ρ ρ' H H'->Rel X.K ρ' H' d->Q o H') (XE X ρ H)
abbrev AO (X:Cx)(e:Option aE)(c:Pt):Prop:=PO X e<|tO X c
def nu:AO X none lP:=λpins s σ H Q I ⟨ρ,S,τ,R,r,h⟩=>OB pins s σ H Q I<|h ρ H .refl R
def mz{c:Ex}(j:AE X a c):AO X (some a) (kP c):=λpins s σ H Q I ⟨ρ,S,τ,R,r,h⟩=>Pw j pins s σ H Q I ⟨ρ,S,τ,R,r,jM (jN h) .refl λx S1 h1 ρ1 H1 v e1 R1 d=>by
 cases d<;>first|exact h1.elim|exact⟨_,rfl,h1 ρ1 H1 e1 R1⟩⟩
abbrev yt (xs:ae)(lo hi:bo):ae:=(xs.drop<|HT.oO xs.length 0 lo).take<|HT.oO xs.length xs.length hi-HT.oO xs.length 0 lo
def AVs.cut{K:au}{H:Hp}(r:AVs K ρ H xs vs)(lo hi:bo):AVs K ρ H (yt xs lo hi) (C3 vs lo hi):=by
 unfold yt C3;rw[r.length];exact(r.drop _).take _
abbrev Vl (a:A)(lo hi:bo)(S:jL):R A:=match a with
 | .ref n=>opt (jF S n) λxs=>.ok (.ref S.length) (S++[.lst<|yt xs lo hi])
 | .frz xs=>.ok (.ref S.length) (S++[.lst<|yt xs lo hi])
 | .tup xs=>gd (¬(HT.oO xs.length 0 lo=0/\HT.oO xs.length xs.length hi=xs.length)) (.ok (.tup<|yt xs lo hi) S)
 | _=>.no
abbrev W8 (c:Ex)(lo hi:Pt):Ex:=λτ S=>(c τ S).bind λa S1=>(lo τ S1).bind λl f=>(hi τ f).bind λu d=>Vl a l u d
abbrev rS (X:Cx):V->bo->bo->Hp->VK->Prop:=λx lo hi H Q=>∃ρ S a,Rel X.K ρ H S/\AV X.K ρ H a x/\(Vl a lo hi S).post (ug X ρ H Q) (XE X ρ H)
def RJ:UK X (rS X):=λpins s σ H x v f g lo hi j Q I rx hs pl d h9=>by
 obtain⟨ρ,S,a,R,va,h⟩:=h9
 cases va with
 | @tup p xs vs h1 r1=>
  obtain⟨hc,h⟩:=kc h;exact Tz pins s σ H _ v f g lo hi j Q I rx hs pl d ⟨p,vs,rfl,(pJ.of h1),by rw[<- r1.length];exact hc,qB R (r1.cut lo hi) .refl h⟩
 | @frz p xs vs h1 r1=>exact Gi pins s σ H _ v f g lo hi j Q I rx hs pl d ⟨p,vs,rfl,h1.ND,nO R (r1.cut lo hi) .refl h⟩
 | @ref p n hp=>
  kj_on;obtain⟨vs,h1,r1⟩:=R.lst hp<|jX hn;exact Gi pins s σ H _ v f g lo hi j Q I rx hs pl d ⟨p,vs,rfl,nh.of h1,nO R (r1.cut lo hi) .refl h⟩
 | _=>exact h.elim
def PN{lo:Option aE}{c:Ex}{cl ch:Pt}(J:AE X e c)(L:AO X lo cl)(hh:AO X hi ch):AE X (.Subscript e (.Slice lo hi none p2) pos) (W8 c cl ch):=PE.imp (DH RJ J L hh) λσ H Q h9=>by
 z_go;refine⟨ρ,S,τ,R,r,jM (jN h) .refl λa S1 h1 ρ1 H1 x e1 R1 B=>⟨ρ1,S1,τ,R1,r.ext e1,jM (jN h1) e1 λl p g d H2 e2 R2=>⟨d,p,τ,R2,r.ext<|e1.trans e2,jM (jN g) (e1.trans e2) λu k m f H3 e3 j=>?_⟩⟩⟩;exact⟨f,k,a,j,B.ext<|e2.trans e3,jM m (e1.trans<|e2.trans e3) λ_ _ z=>z.ext<|e1.trans<|e2.trans e3⟩
abbrev Lk (a:A)(S:jL):R A:=match a with
 | .ref n=>opt (jF S n) λxs=>.ok (.ref S.length) (S++[.lst xs.reverse])
 | .tup xs=>.ok (.tup xs.reverse) S
 | _=>.no
def Uv{J cp:Pos}{c:Ex}(j:AE X e c):AE X (.Subscript e (.Slice none none (some<|.UnaryOp .USub (.Constant (.int 1) kk cp) J) p2) pos) (Cr Lk c):=λpins s σ H Q I h9=>by
 z_go;have d:=jN h
 cases hc:c τ S with
 | no=>rw[hc]at d;exact d.elim
 | ex x S1=>
  rw[hc]at d;exact GN j pins s σ H Q I ⟨ρ,S,τ,R,r,by rw[hc];exact d⟩
 | ok a S1=>
  rw[hc]at d;have d:(Lk a S1).post (ug X ρ H Q) (XE X ρ H):=d
  cases a with
  | tup xs=>
   refine GN j pins s σ H Q I ⟨ρ,S,τ,R,r,?_⟩;rw[hc];intro ρ1 H1 x e1 R1 f
   cases f with
   | tup h1 r1=>exact⟨_,_,rfl,(pJ.of h1),qB R1 r1.reverse e1 d⟩
  | ref n=>
   refine O8 j pins s σ H Q I ⟨ρ,S,τ,R,r,?_⟩;rw[hc];intro ρ1 H1 x e1 R1 f;obtain⟨xs,hn,h⟩:=jY d
   cases f with
   | ref hp=>
    obtain⟨vs,h1,r1⟩:=R1.lst hp<|jX hn;exact⟨_,_,rfl,nh.of h1,nO R1 r1.reverse e1 h⟩
  | _=>exact d.elim
abbrev jV (f:ae->jL->R A)(d:rW):Ex:=λτ S=>(d τ S).bind λg S1=>f g S1
def CU{f:ae->jL->R A}{d:rW}{H:Hp}{Q:VK}(h:tE X (jV f d) σ H Q):Yx (rN X f) (tL X d) σ H Q:=by
 ksr_p;exact⟨ρ,S,τ,R,r,jM (jN h) .refl λj S1 h1 ρ1 H1 vs e1 R1 g=>⟨ρ1,S1,j,R1,g,jM h1 e1 λ_ _ z=>z.ext e1⟩⟩
variable {x:Str}{p:Pos}{e:aE}{es:List aE}{id T:String}{f:ae->jL->R A}{d:rW}
def jW(hc:kE X (.builtin id)<|rN X f)(L:X.mg x=none)(hv:bootBuiltins x=some (.builtin id))(U:AL X (e::es) d)(hg:Gl X x<|>ε)(hn:x ≠ "__name__"<|>δ)(j:(x == ("__debug__" : Str))=false<|>δ)
  (Z:starEach (e::es) X.env=(false,eval e X.env)::starEach es X.env<|>ε) (J:((backTo pos<|starEach es X.env).any (·.1)=false)<|>ε):AE X (.Call (.Name x p) (e::es) [] pos) (jV f d):=
 PE.imp (yY hc hg L hv U hn j Z J) λ_ _ _ h=>CU h
def ko(hc:kE X (.type T)<|rN X f)(L:X.mg x=none)(hv:bootBuiltins x=some (.type T))(U:AL X (e::es) d)(hg:Gl X x<|>ε)(hn:x ≠ "__name__"<|>δ)(j:(x == ("__debug__" : Str))=false<|>δ)
  (Z:starEach (e::es) X.env=(false,eval e X.env)::starEach es X.env<|>ε) (J:((backTo pos<|starEach es X.env).any (·.1)=false)<|>ε):AE X (.Call (.Name x p) (e::es) [] pos) (jV f d):=
 PE.imp (AN hc hg L hv U hn j Z J) λ_ _ _ h=>CU h
def F8(J:X.mg x=none)(hv:bootBuiltins x=some (.type T))(hg:Gl X x<|>ε)(hn:x ≠ "__name__"<|>δ)(j:(x == ("__debug__" : Str))=false<|>δ):AE X (.Name x pos) (eC<|.ty T):=
 PE.imp (Gq (v:=.ty T) hg J hv rfl hn j) λσ H Q ⟨ρ,S,τ,R,r,h⟩=>h ρ H _ .refl R<|.ty T
abbrev A.seq (S:jL):A->Option (ae)
 | .tup xs=>some xs
 | .frz xs=>some xs
 | .ref n=>jF S n
 | _=>none
def MP{K:au}{H:Hp}{x:A}{v:V}(R:Rel K ρ H S)(h:AV K ρ H x v)(e:x.seq S=some xs):∃p vs,v=.ref p/\(nh K H p vs\/pJ K H p vs)/\AVs K ρ H xs vs:=by
 cases h with
 | tup h r=>cases aU e;exact⟨_,_,rfl,.inr<|pJ.of h,r⟩
 | frz h r=>cases aU e;exact⟨_,_,rfl,.inl h.ND,r⟩
 | ref h=>
  obtain⟨vs,h1,r1⟩:=R.lst h<|jX e;exact⟨_,vs,rfl,.inl<|nh.of h1,r1⟩
 | _=>cases e
def Ek{K:au}{H:Hp}{x:A}(h:AVs K ρ H [x] vs):∃v,vs=[v]/\AV K ρ H x v:=by
 cases h with
 | cons h t=>cases t;exact⟨_,rfl,h⟩
def Xm{K:au}{H:Hp}{x:A}(h:AVs K ρ H [x,y] vs):∃v w,vs=[v,w]/\AV K ρ H x v/\AV K ρ H y w:=by
 cases h with
 | cons h t=>obtain⟨w,rfl,h'⟩:=Ek t;exact⟨_,_,rfl,h,h'⟩
abbrev f1 (g:A->jL->R A):ae->jL->R A:=λd S=>match d with
 | [x]=>g x S
 | _=>.no
abbrev f2 (g:A->A->jL->R A):ae->jL->R A:=λd S=>match d with
 | [x,y]=>g x y S
 | _=>.no
def O9{g:A->jL->R A}{j:ae}{P:A->jL->Prop}{E:Str->jL->Prop}(h:(f1 g j S).post P E):∃x,j=[x]/\(g x S).post P E:=by
 match j,h with
 | [],h=>exact h.elim
 | [x],h=>exact⟨x,rfl,h⟩
 | _::_::_,h=>exact h.elim
def OM{g:A->A->jL->R A}{j:ae}{P:A->jL->Prop}{E:Str->jL->Prop}(h:(f2 g j S).post P E):∃x y,j=[x,y]/\(g x y S).post P E:=by
 match j,h with
 | [],h=>exact h.elim
 | [_],h=>exact h.elim
 | [x,y],h=>exact⟨x,y,rfl,h⟩
 | _::_::_::_,h=>exact h.elim
def Px{g:A->jL->R A}{H:Hp}{Q:VK}(h:rN X (f1 g) vs H Q):∃v,vs=[v]/\∃ρ S x,Rel X.K ρ H S/\AV X.K ρ H x v/\(g x S).post (ug X ρ H Q) (XE X ρ H):=by
 obtain⟨ρ,S,d,R,v,h⟩:=h;obtain⟨x,rfl,h⟩:=O9 h;obtain⟨w,rfl,hv⟩:=Ek v;exact⟨w,rfl,ρ,S,x,R,hv,h⟩
def W_{g:A->A->jL->R A}{H:Hp}{Q:VK}(h:rN X (f2 g) vs H Q):∃v w,vs=[v,w]/\∃ρ S x y,Rel X.K ρ H S/\AV X.K ρ H x v/\AV X.K ρ H y w/\(g x y S).post (ug X ρ H Q) (XE X ρ H):=by
 obtain⟨ρ,S,j,R,v,h⟩:=h;obtain⟨x,y,rfl,h⟩:=OM h;obtain⟨w,f,rfl,hv,d⟩:=Xm v;exact⟨w,f,rfl,ρ,S,x,y,R,hv,d,h⟩
abbrev mw (x:A)(S:jL):R A:=match x with
 | .str x=>gd (x.length<=sizeLine) (.ok (.int x.length) S)
 | .tup xs=>.ok (.int xs.length) S
 | .frz xs=>.ok (.int xs.length) S
 | .ref n=>opt (jF S n) λxs=>.ok (.int xs.length) S
 | _=>.no
def nX:kE X (.builtin "len") (rN X<|f1 mw):=kE.imp MH λvs H Q h0=>by
 gp_on;clear h0
 cases hv with
 | str z=>
  obtain⟨d,h⟩:=kc h;exact⟨_,_,rfl,⟨d,rfl⟩,h _ _ _ .refl R<|.int _⟩
 | @tup p xs us h1 r=>exact⟨_,us.length,rfl,.inr ⟨us,(pJ.of h1),rfl⟩,by rw[<- r.length];exact h _ _ _ .refl R<|.int _⟩
 | @frz p xs us h1 r=>exact⟨_,us.length,rfl,.inl ⟨us,h1.ND,rfl⟩,by rw[<- r.length];exact h _ _ _ .refl R<|.int _⟩
 | ref hp=>
  kj_on;obtain⟨us,h1,r⟩:=R.lst hp<|jX hn;exact⟨_,us.length,rfl,.inl ⟨us,nh.of h1,rfl⟩,by rw[<- r.length];exact h _ _ _ .refl R<|.int _⟩
 | _=>exact h.elim
abbrev Ih (x:A)(S:jL):R A:=match x with
 | .int i=>.ok (.int<|if i<0 then -i else i) S
 | _=>.no
def JV:kE X (.builtin "abs") (rN X<|f1 Ih):=kE.imp Ng λvs H Q h0=>by
 gp_on;clear h0
 cases hv<;>first|exact h.elim|exact⟨_,rfl,h _ _ _ .refl R<|.int _⟩
abbrev Lf (x y:A)(S:jL):R A:=match x,y with
 | .int i,.int j=>.ok (.int<|if j>i then j else i) S
 | _,_=>.no
def Rb(hc:X.calm=true):kE X (.builtin "max") (rN X<|f2 Lf):=kE.imp (Ig hc) λvs H Q h0=>by
 obtain⟨w,f,rfl,ρ,S,x,y,R,hv,d,h⟩:=W_ h0;clear h0
 cases hv<;>first|exact h.elim|(cases d<;>first|exact h.elim|exact⟨_,_,rfl,h _ _ _ .refl R<|.int _⟩)
abbrev LB (x y:A)(S:jL):R A:=match x,y with
 | .int i,.int j=>.ok (.int<|if j<i then j else i) S
 | _,_=>.no
def Rt(hc:X.calm=true):kE X (.builtin "min") (rN X<|f2 LB):=kE.imp (IL hc) λvs H Q h0=>by
 obtain⟨w,f,rfl,ρ,S,x,y,R,hv,d,h⟩:=W_ h0;clear h0
 cases hv<;>first|exact h.elim|(cases d<;>first|exact h.elim|exact⟨_,_,rfl,h _ _ _ .refl R<|.int _⟩)
abbrev mG (x:A)(S:jL):R A:=match x with
 | .int i=>.ok (.int i) S
 | .bl k=>.ok (.int<|if k then 1 else 0) S
 | .str y=>opt (PySem.intText? y) λn=>gd (y.length<=640) (.ok (.int n) S)
 | _=>.no
def pM:kE X (.type "int") (rN X<|f1 mG):=λpins s σ H xs us Q I d h0=>by
 gp_on;clear h0
 cases hv with
 | int i=>exact AR pins s σ H _ us Q I d (.inl ⟨i,rfl,h _ _ _ .refl R<|.int _⟩)
 | bl k=>exact AR pins s σ H _ us Q I d (.inr ⟨k,rfl,h _ _ _ .refl R<|.int _⟩)
 | str y=>
  obtain⟨n,hn,h⟩:=jY h;obtain⟨f,h⟩:=kc h;exact IC pins s σ H _ us Q I d ⟨y,n,rfl,f,hn,h _ _ _ .refl R<|.int _⟩
 | _=>exact h.elim
abbrev u5 (x y:A)(S:jL):R A:=match x,y with
 | .int i,.int j=>.ok (.rng i j) S
 | _,_=>.no
def wY:kE X (.type "range") (rN X<|f2 u5):=kE.imp BP λvs H Q h0=>by
 obtain⟨w,g,rfl,ρ,S,x,y,R,hv,d,h⟩:=W_ h0;clear h0
 cases hv with
 | int i=>
  cases d with
  | int j=>
   refine⟨i,j,rfl,λp hp=>?_⟩;obtain⟨ex,f⟩:=R.im (u:=.rng i j) hp;exact h ρ _ _ ex f<|.rng kJ
  | _=>exact h.elim
 | _=>exact h.elim
abbrev Bl (i j:Int):Prop:=(-(2 ^ 62)<=i/\i<2 ^ 62/\-(2 ^ 62)<=j/\j<2 ^ 62)/\(j-i).toNat<=1000
instance (i j:Int):Decidable (Bl i j):=by unfold Bl;infer_instance
abbrev wD (x:A)(S:jL):R A:=match x with
 | .rng i j=>gd (Bl i j) (.ok (.ref S.length)<|S++[.lst<|(lE i j).map .int])
 | .tup xs=>.ok (.ref S.length) (S++[.lst xs])
 | .frz xs=>.ok (.ref S.length) (S++[.lst xs])
 | .ref n=>opt (jF S n) λxs=>.ok (.ref S.length) (S++[.lst xs])
 | _=>.no
def BF(hc:X.calm=true):kE X (.type "list") (rN X<|f1 wD):=λpins s σ H vs us Q I rx h0=>by
 gp_on;clear h0
 cases hv with
 | @rng p i j hp=>
  obtain⟨d,h⟩:=kc h;exact An hc pins s σ H _ us Q I rx ⟨p,i,j,rfl,hp,d.1,d.2,nO R (uS _) .refl h⟩
 | @tup p xs vs h1 r=>exact sD pins s σ H _ us Q I rx ⟨p,vs,rfl,.inr<|pJ.of h1,nO R r .refl h⟩
 | @frz p xs vs h1 r=>exact sD pins s σ H _ us Q I rx ⟨p,vs,rfl,.inl h1.ND,nO R r .refl h⟩
 | @ref p n hp=>
  kj_on;obtain⟨vs,h1,r⟩:=R.lst hp<|jX hn;exact sD pins s σ H _ us Q I rx ⟨p,vs,rfl,.inl<|nh.of h1,nO R r .refl h⟩
 | _=>exact h.elim
abbrev qj (x:A)(S:jL):R A:=match x with
 | .rng i j=>gd (Bl i j) (.ok (.tup<|(lE i j).map .int) S)
 | .tup xs=>.ok (.tup xs) S
 | .frz xs=>.ok (.tup xs) S
 | .ref n=>opt (jF S n) λxs=>.ok (.tup xs) S
 | _=>.no
def yR(hc:X.calm=true):kE X (.type "tuple") (rN X<|f1 qj):=λpins s σ H vs us Q I rx h0=>by
 gp_on;clear h0
 cases hv with
 | @rng p i j hp=>
  obtain⟨d,h⟩:=kc h;exact zD hc pins s σ H _ us Q I rx ⟨p,i,j,rfl,hp,d.1,d.2,qB R (uS _) .refl h⟩
 | @tup p xs vs h1 r=>exact rR pins s σ H _ us Q I rx ⟨p,vs,rfl,.inr ⟨(pJ.of h1),h _ _ _ .refl R<|.tup h1 r⟩⟩
 | @frz p xs vs h1 r=>exact rR pins s σ H _ us Q I rx ⟨p,vs,rfl,.inl ⟨h1.ND,qB R r .refl h⟩⟩
 | @ref p n hp=>
  kj_on;obtain⟨vs,h1,r⟩:=R.lst hp<|jX hn;exact rR pins s σ H _ us Q I rx ⟨p,vs,rfl,.inl ⟨nh.of h1,qB R r .refl h⟩⟩
 | _=>exact h.elim
abbrev A.EE:ae->Option (List Bool)
 | []=>some []
 | .bl b::xs=>(A.EE xs).map (b::·)
 | _=>none
theorem D7{K:au}{H:Hp}:∀{xs:ae}{vs:List V}{bs:List Bool},AVs K ρ H xs vs->A.EE xs=some bs->vs=bs.map V.bl
 | _,_,_,.nil,e=>by cases e;rfl
 | x::xs,_,bs,.cons h t,e=>by
  cases x with
  | bl b=>
   obtain⟨cs,e1,rfl⟩:=br.mp (show(A.EE xs).map (b::·)=some bs from e)
   cases h
   rw[D7 t e1];rfl
  | _=>cases e
abbrev wO (x:A)(S:jL):R A:=match x with
 | .ref n=>opt (jF S n) λxs=>opt (A.EE xs) λbs=>.ok (.bl<|bs.all λb=>b) S
 | _=>.no
def yo(hc:X.calm=true):kE X (.builtin "all") (rN X<|f1 wO):=kE.imp (IF hc) λvs H Q h0=>by
 gp_on;clear h0
 cases hv with
 | @ref p n hp=>
  kj_on;obtain⟨bs,d,h⟩:=jY h;obtain⟨vs,h1,r⟩:=R.lst hp<|jX hn;rw[D7 r d]at h1;exact⟨p,bs,rfl,nh.of h1,h _ _ _ .refl R<|.bl _⟩
 | _=>exact h.elim
abbrev O5 (x:A)(S:jL):R A:=match x with
 | .ref n=>opt (jF S n) λxs=>opt (A.EE xs) λbs=>.ok (.bl<|bs.any λb=>b) S
 | _=>.no
abbrev insI (x:Int):ag->ag
 | []=>[x]
 | y::ys=>if x<=y then x::y::ys else y::insI x ys
abbrev sortI:ag->ag
 | []=>[]
 | x::xs=>insI x<|sortI xs
theorem insI_perm(x:Int):∀ys:ag,(insI x ys).Perm (x::ys)
 | []=>gY _
 | y::ys=>by
  unfold insI;by_cases h:x<=y
  ·rw[aQ h]
  ·rw[aO h];exact((insI_perm x ys).cons y).trans (List.Perm.swap x y ys)
theorem sortI_perm:∀xs:ag,(sortI xs).Perm xs
 | []=>gY _
 | x::xs=>(insI_perm x<|sortI xs).trans<|(sortI_perm xs).cons x
theorem GQ(x:Int):∀ys:ag,ys.Pairwise (·<=·)->(insI x ys).Pairwise (·<=·)
 | [],_=>List.pairwise_singleton _ _
 | y::ys,h=>by
  unfold insI;obtain⟨h1,g⟩:=fV.mp h;by_cases f:x<=y
  ·rw[aQ f];exact fV.mpr ⟨λz d=>(bf.mp d).elim (λe=>e ▸ f) λd=>Int.le_trans f<|h1 z d,h⟩
  ·rw[aO f];refine fV.mpr ⟨λz d=>?_,GQ x ys g⟩
   rcases bf.mp ((insI_perm x ys).mem_iff.mp d)with e|d
   ·subst e;lia
   ·exact h1 z d
theorem qe:∀xs:ag,(sortI xs).Pairwise (·<=·)
 | []=>List.Pairwise.nil
 | x::xs=>GQ x _<|qe xs
abbrev zg (x:A)(S:jL):R A:=opt (x.seq S) λxs=>opt (A.ints xs) λns=>gd (ns.length<64)<|.ok (.ref S.length)<|S++[.lst<|(sortI ns).map .int]
def Fw:kE X (.builtin "sorted") (rN X<|f1 zg):=kE.imp Cb λvs H Q h0=>by
 gp_on;clear h0;kj_on;obtain⟨ns,g,h⟩:=jY h;obtain⟨j,h⟩:=kc h;obtain⟨p,us,rfl,hs,r⟩:=MP R hv hn;rw[HG r g]at hs;refine⟨p,ns,rfl,hs,j,λl f d hp hw=>?_⟩;have:f=sortI ns:=yK (hp.trans (sortI_perm ns).symm) hw<|qe ns;rw[this];exact nO R (uS _) .refl h l d
abbrev A.kd:A->jL->Option Kd
 | .non,_=>some .non
 | .bl _,_=>some .bl
 | .int _,_=>some .int
 | .str _,_=>some .str
 | .tup _,_=>some .tup
 | .ref n,S=>(jF S n).map λ_=>.lst
 | _,_=>none
def OG{K:au}(k:Kd):PySem.W.kitOne K k.ty (.type "str")=some (decide<|k=.str):=by cases k<;>rfl
abbrev zX (k:Kd)(c:String):bp:=if c = "int" then some (decide<|k=.int\/k=.bl)else if c = "bool" then some (decide<|k=.bl)else if c = "tuple" then some (decide<|k=.tup)else if c = "list" then some (decide<|k=.lst)else if c = "str" then some (decide<|k=.str)else none
def G3{K:au}{k:Kd}{b:Bool}(h:zX k c=some b):PySem.W.kitOne K k.ty (.type c)=some b:=by
 unfold zX at h;split at h
 ·rename_i e;subst e;rw[<- h];exact Oq k
 ·split at h
  ·rename_i e;subst e;rw[<- h];exact Kw k
  ·split at h
   ·rename_i e;subst e;rw[<- h];exact kit_tuple k
   ·split at h
    ·rename_i e;subst e;rw[<- h];exact Mx k
    ·split at h
     ·rename_i e;subst e;rw[<- h];exact OG k
     ·cases h
abbrev H_ (x y:A)(S:jL):R A:=match y with
 | .ty c=>opt (x.kd S) λk=>opt (zX k c) λb=>.ok (.bl b) S
 | _=>.no
def UY{K:au}{H:Hp}{x:A}{v:V}{k:Kd}(R:Rel K ρ H S)(h:AV K ρ H x v)(e:x.kd S=some k):(∃p vs,v=.ref p/\pJ K H p vs/\k=.tup)\/Ut H v k:=by
 cases h with
 | non=>cases e;exact .inr rfl
 | bl b=>cases e;exact .inr ⟨b,rfl⟩
 | int i=>cases e;exact .inr ⟨i,rfl⟩
 | str i=>cases e;exact .inr ⟨i,rfl⟩
 | tup h r=>cases e;exact .inl ⟨_,_,rfl,(pJ.of h),rfl⟩
 | ref h=>
  obtain⟨xs,e1,e2⟩:=br.mp e;obtain⟨vs,h1,_⟩:=R.lst h (jX e1)
  cases e2
  exact .inr ⟨_,vs,rfl,h1⟩
 | _=>cases e
def Gf:kE X (.builtin "isinstance") (rN X<|f2 H_):=λpins s σ H vs us Q I rx h0=>by
 obtain⟨w,F,rfl,ρ,S,x,y,R,hv,f,h⟩:=W_ h0;clear h0
 cases f with
 | ty c=>
  obtain⟨k,C,h⟩:=jY h;obtain⟨b,g,d⟩:=jY h;have d:ug X ρ H Q (.bl b) S:=d;clear h
  rcases UY R hv C with⟨p,vs,rfl,m,rfl⟩|hd
  ·obtain⟨G,J,rfl,r1,r2⟩:=vals2 rx;obtain⟨B,q,⟨o,h1,j,_⟩,_⟩:=I.tuple m
   cases(show _=Value.ref p from r1)
   cases(show _=Value.type c from r2)
   exact cR PySem.W.kitx_tuple I.zu ⟨o,h1,j⟩ (G3 g) (λz=>nomatch z) λtk=>⟨.bl b,H,I.tok _,rfl,d _ _ _ .refl R<|.bl _⟩
  ·exact DR (c:=c) pins s σ H _ us Q I rx ⟨w,_,b,rfl,hd.XX,G3 g,d _ _ _ .refl R<|.bl _⟩
 | _=>exact h.elim
end
theorem YY:∀(N:Nat) (l:ar),l.Nodup->(∀x∈l,x<N)->l.length<=N
 | 0,l,_,h=>by
  cases l with
  | nil=>exact aP _
  | cons a l=>exact absurd (h a<|aT ..)<|ju _
 | N+1,l,nd,h=>by
  have h1:=YY N (l.erase N) (nd.erase N) λx d=>by
   have:=h x<|List.mem_of_mem_erase d;have:x≠N:=λz=>by
    subst z;exact(List.Nodup.not_mem_erase nd) d
   lia
  have:=List.le_length_erase (l:=l) (a:=N)
  lia
def EN{N:Nat}{g:Nat->Nat}(h:∀i,i<N->g i<N)(inj:∀i j,i<j->j<N->g i≠g j):((List.range N).map g).Perm (List.range N):=by
 have p:((List.range N).map g).Nodup:=by
  unfold List.Nodup;rw[fF];intro i j hi m f;rw[aK,bW]at hi m;rw[iz,iz,gG,gG];exact inj i j f m
 have lt:∀x∈(List.range N).map g,x<N:=λx d=>by
  obtain⟨i,hi,rfl⟩:=cj.mp d;exact h i<|dF.mp hi
 refine(List.perm_ext_iff_of_nodup p List.nodup_range).mpr λa=>⟨λk=>dF.mpr<|lt a k,λk=>?_⟩;refine d_ λhn=>?_;have:=YY N (a::(List.range N).map g) (eO.mpr ⟨hn,p⟩) λx d=>by
  rcases bf.mp d with rfl|d
  ·exact dF.mp k
  ·exact lt x d
 rw[aR,aK,bW]at this
 lia
def range_getD{α:Type}(l:List α)(d:α):(List.range l.length).map (λi=>l.getD i d)=l:=by
 apply eN;intro i;rw[bu];by_cases c:i<l.length
 ·rw[dZ c];show some (l.getD i d)=_;rw[aN,aH c];rfl
 ·rw[bN<|by rw[bW];lia,bN ()];rfl
theorem ML{K:au}{H:Hp}{α:Type}{f:α->A}{h:α->V}:∀{l:List α},(∀a∈l,AV K ρ H (f a)<|h a)->AVs K ρ H (l.map f) (l.map h)
 | [],_=>.nil
 | a::l,e=>.cons (e a<|aT ..)<|ML λb d=>e b<|aS _ d
abbrev RS.post (r:RS)(N:ae->jL->Prop)(T:A->jL->Prop)(B C:ae->jL->Prop)(E:Str->jL->Prop):Prop:=match r with
 | .nx τ S=>N τ S
 | .rt a S=>T a S
 | .bk τ S=>B τ S
 | .ct τ S=>C τ S
 | .ex c S=>E c S
 | .no=>False
abbrev RS.of {α:Type}(r:R α)(f:α->jL->RS):RS:=match r with
 | .ok a S=>f a S
 | .ex c S=>.ex c S
 | .no=>.no
def of_post{α:Type}{r:R α}{f:α->jL->RS}{N B C:ae->jL->Prop}{T:A->jL->Prop}{E:Str->jL->Prop}(h:(RS.of r f).post N T B C E):r.post (λa S=>(f a S).post N T B C E) E:=by
 cases r<;>exact h
def RS.mono{r:RS}{N B C N' j J:ae->jL->Prop}{T L:A->jL->Prop}{E U:Str->jL->Prop}(h:r.post N T B C E)(hn:∀τ S,N τ S->N' τ S)(Z:∀a S,T a S->L a S)(hb:∀τ S,B τ S->j τ S)(hc:∀τ S,C τ S->J τ S)(he:∀c S,E c S->U c S):r.post N' L j J U:=by
 cases r with
 | nx τ S=>exact hn _ _ h
 | rt a S=>exact Z _ _ h
 | bk τ S=>exact hb _ _ h
 | ct τ S=>exact hc _ _ h
 | ex c S=>exact he _ _ h
 | no=>exact h.elim
abbrev A1 (X:Cx)(ρ:bi)(H:Hp)(N:L2.St->Hp->Prop):ae->jL->Prop:=λf g=>∀ρ' H' d,Ext ρ ρ' H H'->Rel X.K ρ' H' g->SR X.K ρ' H' f d->N d H'
def A1.ext{H H':Hp}{N:L2.St->Hp->Prop}(h:A1 X ρ H N τ S)(e:Ext ρ ρ' H H'):A1 X ρ' H' N τ S:=λd H2 σ2 e2=>h d H2 σ2<|e.trans e2
abbrev z8 (X:Cx)(ρ:bi)(H:Hp)(D:Ends)(r:RS):Prop:=r.post (A1 X ρ H D.nx) (ug X ρ H D.rt) (A1 X ρ H D.bk) (A1 X ρ H D.ct)<|XE X ρ H
def z8.ext{H H':Hp}{r:RS}(h:z8 X ρ H D r)(e:Ext ρ ρ' H H'):z8 X ρ' H' D r:=RS.mono h (λ_ _ z=>z.ext e) (λ_ _ z=>z.ext e) (λ_ _ z=>z.ext e) (λ_ _ z=>z.ext e) λ_ _ z=>z.ext e
abbrev tS (X:Cx)(c:Sm):TS:=λD σ H=>∃ρ S τ,Rel X.K ρ H S/\SR X.K ρ H τ σ/\z8 X ρ H D (c τ S)
abbrev AS (X:Cx)(st:aF)(c:Sm):Prop:=PS X st<|tS X c
abbrev LW (X:Cx)(j:List aF)(c:Sm):Prop:=AH X j<|tS X c
abbrev tG (X:Cx)(g:Tg):TG:=λv σ H Q=>∃ρ S τ a,Rel X.K ρ H S/\SR X.K ρ H τ σ/\AV X.K ρ H a v/\(g a τ S).post (A1 X ρ H Q) (XE X ρ H)
abbrev AG (X:Cx)(e:aE)(g:Tg):Prop:=PG X e<|tG X g
meta abbrev Nz:=ae->ae->jL->R (ae)
abbrev Zy (X:Cx)(g:Nz):P_:=λvs σ H Q=>∃ρ S τ d,Rel X.K ρ H S/\SR X.K ρ H τ σ/\AVs X.K ρ H d vs/\(g d τ S).post (A1 X ρ H Q) (XE X ρ H)
abbrev W4 (X:Cx)(es:List aE)(g:Nz):Prop:=VG X es<|Zy X g
section
variable {X:Cx}{pos:Pos}{a b e:aE}{st:aF}{rest:List aF}{c d:Sm}
def PS.imp{t t':TS}(h:PS X st t)(i:∀D σ H,t' D σ H->t D σ H):PS X st t':=λpins s σ H D I q=>h pins s σ H D I<|i D σ H q
def AH.imp{t t':TS}(h:AH X rest t)(i:∀D σ H,t' D σ H->t D σ H):AH X rest t':=λpins s σ H D I q=>h pins s σ H D I<|i D σ H q
def PG.imp{t t':TG}(h:PG X e t)(i:∀v σ H Q,t' v σ H Q->t v σ H Q):PG X e t':=λpins s σ H v u Q I r q=>h pins s σ H v u Q I r<|i _ _ _ _ q
abbrev kB (i:Nat):Tg:=λa τ S=>.ok (τ.set i a) S
def kh{i:Nat}{x:Str}(j:X.N.Nodup)(hi:X.N[i]?=some x<|>ε)(J:Loc X.env.scope x:=by first|exact Or.inl rfl|exact Or.inr rfl)(hf:X.fn x=true\/X.env.scope.names.lookup x=some .local<|>γ):AG X (.Name x pos) (kB i):=
 PG.imp (HK j hi J hf) λv σ H Q ⟨ρ,S,τ,a,R,r,va,h⟩=>h ρ H _ .refl R<|r.set va
abbrev A9:Nz:=λd τ S=>match d with
 | []=>.ok τ S
 | _=>.no
abbrev su (g:Tg)(gs:Nz):Nz:=λf τ S=>match f with
 | a::f=>(g a τ S).bind λd S1=>gs f d S1
 | []=>.no
def pD:W4 X [] A9:=λpins s σ H vs us Q I r ⟨ρ,S,τ,f,R,d,va,h⟩=>Oa pins s σ H vs us Q I r (by
 cases va with
 | nil=>exact⟨rfl,h ρ H σ .refl R d⟩
 | cons _ _=>exact h.elim)
def kG{g:Tg}{gs:Nz}(h1:AG X e g)(J:W4 X es gs)(hs:(assignEach (e::es) X.env).map (·.2)=assign e X.env::(assignEach es X.env).map (·.2)<|>ε):W4 X (e::es) (su g gs):=
 λpins s σ H vs us Q I r ⟨ρ,S,τ,B,R,m,va,h⟩=>Ko h1 J hs pins s σ H vs us Q I r (by
  cases va with
  | nil=>exact h.elim
  | cons p k=>exact⟨_,_,rfl,ρ,S,τ,_,R,m,p,jM (jN h) .refl λd S1 h1 ρ1 H1 j e1 R1 f=>⟨ρ1,S1,d,_,R1,f,k.ext e1,jM h1 e1 λ_ _ z=>z.ext e1⟩⟩)
abbrev Bj (n:Nat)(gs:Nz):Tg:=λa τ S=>match a with
 | .tup xs | .ktu xs=>gd (xs.length=n) (gs xs τ S)
 | _=>.no
def rJ{k n:Nat}{gs:Nz}(hc:X.calm=true)(h:W4 X es gs)(hn:(assignEach es X.env).length=n<|>ε)(j:(assignEach es X.env).findIdx? (·.1)=none<|>ε):AG X (.Tuple es k pos) (Bj n gs):=
 PG.imp (R_ hc h hn j) λv σ H Q h9=>by
  obtain⟨ρ,S,τ,a,R,r,va,h⟩:=h9
  cases va with
  | tup h1 r1=>
   obtain⟨d,h⟩:=kc h;exact⟨_,_,rfl,pJ.of h1,by rw[<- r1.length];exact d,ρ,S,τ,_,R,r,r1,h⟩
  | ktu h1 r1=>
   obtain⟨d,h⟩:=kc h;exact⟨_,_,rfl,.inr h1,by rw[<- r1.length];exact d,ρ,S,τ,_,R,r,r1,h⟩
  | _=>exact h.elim
abbrev B_ (o i v:A)(S:jL):R Unit:=match o,i with
 | .ref n,.int k=>opt (jF S n) λxs=>opt (z9 xs.length k) λj=>.ok Unit.unit (S.set n<|.lst<|xs.set j v)
 | _,_=>.no
abbrev Zz (X:Cx):Pp:=λo i v H Q=>∃ρ S g d f,Rel X.K ρ H S/\AV X.K ρ H g o/\AV X.K ρ H d i/\AV X.K ρ H f v/\(B_ g d f S).post (λ_ j=>∀ρ' H',Ext ρ ρ' H H'->Rel X.K ρ' H' j->Q H') (XE X ρ H)
def NV:RZ X (Zz X):=λpins s σ H o i v m iv u Q I G C d h9=>by
 obtain⟨ρ,S,L,J,K,R,h1,g,F,h⟩:=h9
 cases h1 with
 | @ref p n hp=>
  cases g with
  | int k=>
   kj_on;obtain⟨j,B,h⟩:=jY h;obtain⟨vs,e,r⟩:=R.lst hp<|jX hn;obtain⟨ex,f⟩:=R.put hp (jX hn)<|r.set F j;exact set_list pins s σ H _ _ v m iv u Q I G C d ⟨p,vs,k,j,rfl,rfl,e,by rw[<- r.length];exact B,h _ _ ex f⟩
  | _=>exact h.elim
 | _=>exact h.elim
abbrev Sv (co j:Ex):Tg:=λa τ S=>(co τ S).bind λo S1=>(j τ S1).bind λi f=>(B_ o i a f).bind λ_ d=>.ok τ d
def zz{co J:Ex}(L:AE X o co)(hi:AE X i J)
  (U:(∀v,assign (.Subscript o i pos) X.env v=(do
   let ov <- holding [v] (eval o X.env)
   let iv <- holding [v,ov] (eval i X.env)
   standAt pos
   holding [v,ov,iv] (setItem ov iv v)
   release [v,ov,iv] []))<|>ζ):AG X (.Subscript o i pos) (Sv co J):=PG.imp (Sj L hi NV U) λv σ H Q h9=>by
 obtain⟨ρ,S,τ,a,R,r,va,h⟩:=h9;refine⟨ρ,S,τ,R,r,jM (jN h) .refl λo S1 h1 ρ1 H1 x e1 R1 B=>⟨ρ1,S1,τ,R1,r.ext e1,jM (jN h1) e1 λi p g d H2 y e2 R2 k=>?_⟩⟩;refine⟨d,p,o,i,a,R2,B.ext e2,k,va.ext<|e1.trans e2,jM (jN g) (e1.trans e2) λ_ C m f H3 e3 j=>?_⟩;exact m f H3 σ ((e1.trans e2).trans e3) j<|r.ext<|(e1.trans e2).trans e3
abbrev ny:Sm:=λτ S=>.nx τ S
abbrev j6 (c d:Sm):Sm:=λτ S=>match c τ S with
 | .nx f g=>d f g
 | r=>r
def kr:LW X [] ny:=AH.imp Oi λD σ H ⟨ρ,S,τ,R,r,h⟩=>h ρ H σ .refl R r
def OU{H:Hp}(h:tS X (j6 c d) D σ H):Vq (tS X c) (tS X d) D σ H:=by
 ksr_p;refine⟨ρ,S,τ,R,r,?_⟩;unfold j6 at h
 cases hc:c τ S with
 | nx f S1=>
  rw[hc]at h;exact λρ1 H1 g e1 R1 r1=>⟨ρ1,S1,f,R1,r1,z8.ext h e1⟩
 | rt a S1=>rw[hc]at h;exact h
 | bk f S1=>rw[hc]at h;exact h
 | ct f S1=>rw[hc]at h;exact h
 | ex x S1=>rw[hc]at h;exact h
 | no=>rw[hc]at h;exact h
def jG(h1:AS X st c)(j:LW X rest d):LW X (st::rest) (j6 c d):=AH.imp (LN h1 j) λD σ H h=>OU h
def jP(h1:AS X st c):LW X [st] c:=yF h1
abbrev Ri:Sm:=λτ S=>.bk τ S
abbrev VA:Sm:=λτ S=>.ct τ S
abbrev DU (e:Ex):Sm:=λτ S=>.of (e τ S) λ_ S1=>.nx τ S1
def Bt{f:Ex}(j:AE X e f)(hs:swapsWith e none pos.line X.env=pure false<|>ε):AS X (.Expr e pos) (DU f):=PS.imp (OH j hs) λD σ H ⟨ρ,S,τ,R,r,h⟩=>
 ⟨ρ,S,τ,R,r,jM (of_post h) .refl λa S1 h1 ρ1 H1 x e1 R1 d=>h1 ρ1 H1 σ e1 R1<|r.ext e1⟩
abbrev kL (e:Ex):Sm:=λτ S=>.of (e τ S) λa S1=>.rt a S1
def j5{f:Ex}(j:AE X e f):AS X (.Return (some e) pos) (kL f):=PS.imp (Uu j) λD σ H ⟨ρ,S,τ,R,r,h⟩=>⟨ρ,S,τ,R,r,jM (of_post h) .refl λa S1 h1=>h1⟩
abbrev U0:Sm:=λτ S=>.rt .non S
abbrev tN (t:Te)(c d:Sm):Sm:=λτ S=>.of (t τ S) λb S1=>match b with|true=>c τ S1|false=>d τ S1
def lq{t:Te}(j:AT X e t)(J:LW X ca c)(hb:LW X cb d):AS X (.If e ca cb pos) (tN t c d):=PS.imp (QF j J hb) λD σ H h9=>by
 z_go;refine⟨ρ,S,τ,R,r,jM (of_post h) .refl λb S1 h1 ρ1 H1 e1 R1=>?_⟩
 cases b with
 | true=>rw[aQ rfl];exact⟨ρ1,S1,τ,R1,r.ext e1,z8.ext h1 e1⟩
 | false=>rw[aO bh];exact⟨ρ1,S1,τ,R1,r.ext e1,z8.ext h1 e1⟩
abbrev kC (e:Ex)(g:Tg):Sm:=λτ S=>.of (e τ S) λa S1=>.of (g a τ S1) λd f=>.nx d f
def Oe{f:Ex}{g:Tg}{H:Hp}(h:tS X (kC f g) D σ H):OD (tE X f) (tG X g) D σ H:=by
 ksr_p;exact⟨ρ,S,τ,R,r,jM (of_post h) .refl λa S1 h1 ρ1 H1 x e1 R1 k=>⟨ρ1,S1,τ,a,R1,r.ext e1,k,jM (of_post h1) e1 λj m d=>A1.ext d e1⟩⟩
def xJ{tg:aE}{f:Ex}{g:Tg}(j:AE X e f)(hg:AG X tg g)(hs:swapsWithSole [tg] e pos.line X.env=pure false<|>ε)(hw:swappedStores [tg] e X.env=pure none<|>ε)
  (h1:(assignEach [tg] X.env).map (·.2)=[assign tg X.env]<|>ε):AS X (.Assign [tg] e pos) (kC f g):=PS.imp (Sq j hg hs hw h1) λD σ H h=>Oe h
def jZ{i:Nat}{x:Str}{f:Ex}(j:X.N.Nodup)(J:AE X e f)(hi:X.N[i]?=some x<|>ε)(L:Loc X.env.scope x:=by first|exact Or.inl rfl|exact Or.inr rfl)(hs:(swapsWith e (some<|.Name x pos') pos.line X.env=pure false)<|>ε)(hf:X.fn x=true\/X.env.scope.names.lookup x=some .local<|>γ) :
  AS X (.Assign [.Name x pos'] e pos) (kC f<|kB i):=PS.imp (JY j hi L J hs hf) λD σ H ⟨ρ,S,τ,R,r,h⟩=>
 ⟨ρ,S,τ,R,r,jM (of_post h) .refl λa S1 h1 ρ1 H1 x e1 R1 d=>h1 ρ1 H1 _ e1 R1<|(r.ext e1).set d⟩
abbrev XW (i j:Nat)(c:rW):Sm:=λτ S=>.of (c τ S) λd S1=>match d with
 | [a,b]=>.nx ((τ.set i a).set j b) S1
 | _=>.no
abbrev ip (X:Cx)(f:A->A->jL->R A):W2:=λx y H Q=>∃ρ S a b,Rel X.K ρ H S/\AV X.K ρ H a x/\AV X.K ρ H b y/\(f a b S).post (ug X ρ H Q) (XE X ρ H)
abbrev XJ (a b:A)(S:jL):R A:=match a,b with
 | .int i,.int j=>.ok (.int<|i+j) S
 | _,_=>.no
abbrev Kh (i:Nat)(f:A->A->jL->R A)(e:Ex):Sm:=λτ S=>if (τ.getD i .unb).oS then .no else .of (e τ S) λb S1=>.of (f (τ.getD i .unb) b S1) λc d=>.nx (τ.set i c) d
def Uq{i:Nat}{x:Str}{c:Ex}{f:A->A->jL->R A}(L:X.N.Nodup)(U:AE X e c)(Z:XS X op<|ip X f)(hi:X.N[i]?=some x<|>ε)(J:Loc X.env.scope x:=by first|exact Or.inl rfl|exact Or.inr rfl)(hf:X.fn x=true\/X.env.scope.names.lookup x=some .local<|>γ) :
  AS X (.AugAssign (.Name x pos') op e pos) (Kh i f c):=PS.imp (Tc L hi J U Z hf) λD σ H h9=>by
 z_go;have d:∀x,τ[i]?=some x->x.oS=false->(RS.of (c τ S) λb S1=>.of (f x b S1) λc j=>.nx (τ.set i c) j).post (A1 X ρ H D.nx) (ug X ρ H D.rt) (A1 X ρ H D.bk) (A1 X ρ H D.ct) (XE X ρ H) ->
   ∃x,σ[i]?=some (some x)/\tE X c σ H λy H1=>ip X f x y H1 λz H2=>D.nx (σ.set i<|some z) H2:=by
  intro x hi J h
  rcases r.at i x hi with z|⟨v,e,q⟩
  ·subst z;cases J
  ·refine⟨v,e,ρ,S,τ,R,r,jM (of_post h) .refl λb S1 h1 ρ1 H1 y e1 R1 p=>⟨ρ1,S1,x,b,R1,q.ext e1,p,jM (of_post h1) e1 λw j k g H2 z e2 R2 m=>?_⟩⟩;exact k g H2 _ (e1.trans e2) R2<|(r.ext<|e1.trans e2).set m
 unfold Kh z8 at h;rw[aN]at h
 cases hi:τ[i]? with
 | none=>rw[hi]at h;exact h.elim
 | some x=>
  rw[hi]at h
  cases J:x.oS with
  | true=>rw[show(some x).getD .unb=x from rfl,J]at h;exact h.elim
  | false=>rw[show(some x).getD .unb=x from rfl,J]at h;exact d x hi J h
abbrev Ob (a b:A)(S:jL):R A:=match a,b with
 | .ref n,.int i=>opt (jF S n) λxs=>gd (0<=i) (opt (xs[i.toNat]?) λx=>.ok x S)
 | _,_=>.no
abbrev Vo (co J L:Ex)(f:A->A->jL->R A):Sm:=λτ S=>.of (co τ S) λo S1=>.of (J τ S1) λi m=>.of (Ob o i m) λx d=>.of (L τ d) λy k=>.of (f x y k) λz g=>.of (B_ o i z g) λ_ j=>.nx τ j
abbrev mT (t:Te)(c:Sm):Nat->Sm
 | 0=>λ_ _=>.no
 | n+1=>λτ S=>.of (t τ S) λb S1=>match b with
  | false=>.nx τ S1
  | true=>match c τ S1 with
   | .nx d f=>mT t c n d f
   | .ct d f=>mT t c n d f
   | .bk d f=>.nx d f
   | r=>r
def zI(n:Nat){t:Te}(hp:PassesOwn (model X.prog X.w) X.A X.env X.xe)(U:AT X e t)(hb:LW X body c):AS X (.While e body [] pos) (mT t c n):=PS.imp (Ju hp U hb) λD σ H h9=>by
 z_go;refine⟨λm k H'=>∃ρ' g d,Ext ρ ρ' H H'/\Rel X.K ρ' H' g/\SR X.K ρ' H' d k/\z8 X ρ' H' D (mT t c m d g),⟨n,ρ,S,τ,.refl,R,r,h⟩,?_⟩;rintro m L H1 ⟨ρ1,S1,j,e1,R1,r1,h1⟩
 cases m with
 | zero=>exact h1.elim
 | succ m=>
  refine⟨ρ1,S1,j,R1,r1,jM (of_post h1) .refl λb N f F H2 e2 R2=>?_⟩
  cases b with
  | false=>rw[aO bh];exact f F H2 L e2 R2 (r1.ext e2)
  | true=>
   rw[aQ rfl];refine⟨λk H'=>∃ρ' g d,Ext ρ ρ' H H'/\Rel X.K ρ' H' g/\SR X.K ρ' H' d k/\z8 X ρ' H' D (mT t c m d g),λk H' z=>⟨m,dI _,z⟩,F,N,j,R2,r1.ext e2,?_⟩;have f:z8 X ρ1 H1 D (match c j N with
    | .nx d g=>mT t c m d g
    | .ct d g=>mT t c m d g
    | .bk d g=>.nx d g
    | r=>r):=f
   cases hc:c j N with
   | nx p C=>rw[hc]at f;exact λB H3 O e3 G J=>⟨B,C,p,(e1.trans e2).trans e3,G,J,z8.ext f<|e2.trans e3⟩
   | ct p C=>rw[hc]at f;exact λB H3 O e3 G J=>⟨B,C,p,(e1.trans e2).trans e3,G,J,z8.ext f<|e2.trans e3⟩
   | bk p C=>rw[hc]at f;exact A1.ext f e2
   | rt a C=>rw[hc]at f;exact ug.ext f e2
   | ex x C=>rw[hc]at f;exact XE.ext f e2
   | no=>rw[hc]at f;exact f
end
structure Src where
 k:Nat
 get:Nat->jL->Option A
 fin:jL->Bool
structure JR (K:au)(s:Src)(J:It)(ρ0:bi)(H0:Hp):Prop where
 go:∀(i:Nat) (S:jL) (H:Hp) (ρ:bi) (x:A),Ext0 ρ0 ρ H0 H->Rel K ρ H S->s.get i S=some x->J.go i H/\∀v H',J.yld i H v H'->Ext ρ ρ H H'/\Rel K ρ H' S/\AV K ρ H' x v
 stop:∀(S:jL) (H:Hp) (ρ:bi),Ext0 ρ0 ρ H0 H->Rel K ρ H S->s.fin S=true->J.stop s.k H
meta abbrev Ic:=ae->jL->R Src
abbrev tI (X:Cx)(c:Ic):TI:=λσ H Q=>∃ρ S τ,Rel X.K ρ H S/\SR X.K ρ H τ σ/\(c τ S).post (λs d=>∀ρ' H' J,Ext ρ ρ' H H'->Rel X.K ρ' H' d->JR X.K s J ρ' H'->Q J H') (XE X ρ H)
abbrev AI (X:Cx)(tg iter:aE)(c:Ic):Prop:=PI X tg iter<|tI X c
abbrev qM (xs:ae):Src:=⟨xs.length,λi _=>xs[i]?,λ_=>true⟩
abbrev lW (n k:Nat):Src:=⟨k,λi S=>(jF S n).bind (·[i]?),λS=>match jF S n with
 | some ys=>decide (ys.length<=k)
 | none=>false⟩
abbrev oA (lo hi:Int):Src:=⟨(hi-lo).toNat,λi _=>if i<(hi-lo).toNat then some (.int<|lo+i)else none,λ_=>true⟩
abbrev mL (c:Ex):Ic:=λτ S=>(c τ S).bind λa S1=>match a with
 | .tup xs=>.ok (qM xs) S1
 | .frz xs=>.ok (qM xs) S1
 | .ref n=>opt (jF S1 n) λxs=>.ok (lW n xs.length) S1
 | .str x=>gd (x.cps.all (· < 128)=true) (.ok (qM<|x.cps.toList.map λc=>.str ⟨#[c]⟩) S1)
 | _=>.no
section
variable {X:Cx}{pos:Pos}{tg e a b:aE}
def T8{K:au}{j:Hp}{p:aj}(h:pJ K j p vs)(r:AVs K ρ0 j xs vs):JR K (qM xs) (XZ K p) ρ0 j where
 go:=λi S H ρ x e R g=>by
  obtain⟨v,d,f⟩:=(AVs.mq e r).get g;have hs:=e.YT h;refine⟨⟨vs,v,hs,d⟩,λw H' ⟨e1,y⟩=>?_⟩;subst e1;have:=y vs hs;rw[d]at this
  cases this
  exact⟨.refl,R,f⟩
 stop:=λS H ρ e R _=>⟨vs,e.YT h,by rw[<- r.length];exact aP _⟩
def Sf{K:au}{j:Hp}{p:aj}(h:Fz K j p vs)(r:AVs K ρ0 j xs vs):JR K (qM xs) (WW K p) ρ0 j where
 go:=λi S H ρ x e R g=>by
  obtain⟨v,d,f⟩:=(AVs.mq e r).get g;have hs:=(e.fz h).ND;refine⟨⟨vs,v,hs,d⟩,λw H' ⟨e1,y⟩=>?_⟩;subst e1;have:=y vs hs;rw[d]at this
  cases this
  exact⟨.refl,R,f⟩
 stop:=λS H ρ e R _=>⟨vs,(e.fz h).ND,by rw[<- r.length];exact aP _⟩
def Uc{K:au}{J:bi}{L:Hp}{p:aj}{n k:Nat}(h:J[n]?=some p):JR K (lW n k) (WW K p) J L where
 go:=λi S H ρ x e R g=>by
  obtain⟨ys,hn,j⟩:=bC.mp<|show(jF S n).bind (·[i]?)=some x from g;obtain⟨vs,h1,r⟩:=R.lst (e.get h)<|jX hn;obtain⟨v,d,f⟩:=r.get j;refine⟨⟨vs,v,nh.of h1,d⟩,λw H' ⟨e1,y⟩=>?_⟩;subst e1;have:=y vs<|nh.of h1;rw[d]at this
  cases this
  exact⟨.refl,R,f⟩
 stop:=λS H ρ e R g=>by
  have g:(match jF S n with
   | some ys=>decide (ys.length<=k)
   | none=>false)=true:=g
  cases hn:jF S n with
  | none=>rw[hn]at g;cases g
  | some ys=>
   rw[hn]at g;obtain⟨vs,h1,r⟩:=R.lst (e.get h)<|jX hn;exact⟨vs,nh.of h1,by rw[<- r.length];exact bO g⟩
def Lz{K:au}{j:Hp}{lo hi:Int}:JR K (oA lo hi) (Vs lo (hi-lo).toNat) ρ0 j where
 go:=λi S H ρ x e R g=>by
  have g:(if i<(hi-lo).toNat then some (A.int<|lo+i)else none)=some x:=g;by_cases d:i<(hi-lo).toNat
  ·rw[aQ d]at g
   cases g
   refine⟨d,λw H' ⟨e1,y⟩=>?_⟩;subst e1 y;exact⟨.refl,R,.int _⟩
  ·rw[aO d]at g;cases g
 stop:=λS H ρ e R _=>aP _
def Ry{K:au}{J:Hp}{x:Str}:JR K (qM<|x.cps.toList.map λc=>A.str ⟨#[c]⟩) (Yq x) ρ0 J where
 go:=λi S H ρ y e R g=>by
  have g:(x.cps.toList.map λc=>A.str ⟨#[c]⟩)[i]?=some y:=g;rw[bu]at g;obtain⟨c,hc,rfl⟩:=br.mp g;rw[dM]at hc;refine⟨(dX.mp hc).1,λw H' ⟨e1,j,d,f⟩=>?_⟩;rw[hc]at d
  cases d
  subst e1 f;exact⟨.refl,R,.str _⟩
 stop:=λS H ρ e R _=>by
  show(x.cps.toList.map λc=>A.str ⟨#[c]⟩).length=x.cps.size;rw[aK,bJ]
def nJ{c:Ex}(j:AE X e c):AI X tg e (mL c):=λpins s σ H Q I h9=>by
 z_go;have d:=jN h
 cases hc:c τ S with
 | no=>rw[hc]at d;exact d.elim
 | ex x S1=>
  rw[hc]at d;exact Nd j pins s σ H Q I ⟨ρ,S,τ,R,r,by rw[hc];exact d⟩
 | ok a S1=>
  rw[hc]at d
  cases a with
  | tup xs=>
   refine Nd j pins s σ H Q I ⟨ρ,S,τ,R,r,?_⟩;rw[hc];intro ρ1 H1 x e1 R1 f
   cases f with
   | tup h1 r1=>exact⟨_,rfl,⟨_,(pJ.of h1)⟩,d ρ1 H1 _ e1 R1<|T8 (pJ.of h1) r1⟩
  | frz xs=>
   refine HP j pins s σ H Q I ⟨ρ,S,τ,R,r,?_⟩;rw[hc];intro ρ1 H1 x e1 R1 f
   cases f with
   | frz h1 r1=>exact⟨_,rfl,⟨_,h1.ND⟩,d ρ1 H1 _ e1 R1<|Sf h1 r1⟩
  | ref n=>
   obtain⟨xs,hn,d⟩:=jY d;refine HP j pins s σ H Q I ⟨ρ,S,τ,R,r,?_⟩;rw[hc];intro ρ1 H1 x e1 R1 f
   cases f with
   | ref hp=>
    obtain⟨vs,h1,r1⟩:=R1.lst hp<|jX hn;exact⟨_,rfl,⟨_,nh.of h1⟩,d ρ1 H1 _ e1 R1<|Uc hp⟩
  | str x=>
   obtain⟨g,d⟩:=kc d;refine S_ j pins s σ H Q I ⟨ρ,S,τ,R,r,?_⟩;rw[hc];intro ρ1 H1 v e1 R1 f
   cases f with
   | str=>exact⟨x,rfl,g,d ρ1 H1 _ e1 R1 Ry⟩
  | _=>exact d.elim
abbrev bnd (i:Int):Prop:=-(2 ^ 62)<=i/\i<2 ^ 62
instance (i:Int):Decidable (bnd i):=by unfold bnd;infer_instance
abbrev tU (c:Ex):Ic:=λτ S=>(c τ S).bind λa S1=>match a with
 | .int j=>gd (bnd j) (.ok (oA 0 j) S1)
 | _=>.no
abbrev uy (c d:Ex):Ic:=λτ S=>(c τ S).bind λa S1=>(d τ S1).bind λb f=>match a,b with
 | .int i,.int j=>gd (bnd i/\bnd j) (.ok (oA i j) f)
 | _,_=>.no
def rY{p:Pos}{c:Ex}(J:X.mg "range" = none)(L:AE X a c)(hg:Gl X "range"<|>ε)(hs:starEach [a] X.env=[(false,eval a X.env)]<|>ε):AI X tg (.Call (.Name "range" p) [a] [] pos) (tU c):=λpins s σ H Q I h9=>by
 z_go;refine Ib hg J (mQ L qR hs) hs pins s σ H Q I ⟨ρ,S,τ,R,r,jM (jN h) .refl λx S1 h1 ρ1 H1 v e1 R1 f=>?_⟩
 cases f with
 | int j=>
  obtain⟨d,h1⟩:=kc h1;exact⟨_,rfl,d.1,d.2,by have:=h1 ρ1 H1 _ e1 R1 Lz;rwa [Int.sub_zero]at this⟩
 | _=>exact h1.elim
def AM{p:Pos}{c d:Ex}(L:X.mg "range" = none)(U:AE X a c)(hb:AE X b d)(hg:Gl X "range"<|>ε)(hs:starEach [a,b] X.env=[(false,eval a X.env),(false,eval b X.env)]<|>ε)(J:starEach [b] X.env=[(false,eval b X.env)]<|>ε):AI X tg (.Call (.Name "range" p) [a,b] [] pos) (uy c d):=λpins s σ H Q I h9=>by
 z_go;refine Iw hg L (mQ U (mQ hb qR J)<|by rw[hs,J]) hs J pins s σ H Q I ⟨ρ,S,τ,R,r,jM (jN h) .refl λx S1 h1 ρ1 H1 v e1 R1 m=>⟨ρ1,S1,τ,R1,r.ext e1,jM (jN h1) e1 λy B f g H2 w e2 R2 k=>?_⟩⟩
 cases m with
 | int i=>
  cases k with
  | int j=>
   obtain⟨hb,f⟩:=kc f;exact⟨_,_,rfl,⟨hb.1.1,hb.1.2,hb.2.1,hb.2.2⟩,f g H2 _ (e1.trans e2) R2 Lz⟩
  | _=>exact f.elim
 | _=>exact f.elim
abbrev qD (s:Src)(g:Tg)(c:Sm):Nat->Nat->Sm
 | 0,_=>λτ S=>if s.fin S then .nx τ S else .no
 | k+1,i=>λτ S=>match s.get i S with
  | none=>.no
  | some x=>.of (g x τ S) λj S1=>match c j S1 with
   | .nx d f=>qD s g c k (i+1) d f
   | .ct d f=>qD s g c k (i+1) d f
   | .bk d f=>.nx d f
   | r=>r
abbrev vD (src:Ic)(g:Tg)(c:Sm):Sm:=λτ S=>.of (src τ S) λs S1=>qD s g c s.k 0 τ S1
def vY{iter:aE}{src:Ic}{g:Tg}{c:Sm}(hp:PassesOwn (model X.prog X.w) X.A X.env X.xe)(hc:X.calm=true)(hi:AI X tg iter src)(hg:AG X tg g)(hb:LW X body c)
  (hs:(∀x,foldedSetIterable iter X.env x=pure x)<|>ζ):AS X (.For tg iter body [] pos) (vD src g c):=PS.imp (Tq hp hc hi hg hb hs) λD σ H h9=>by
 z_go;refine⟨ρ,S,τ,R,r,jM (of_post h) .refl λs S1 h1 ρ1 H1 J e1 R1 jr=>?_⟩;refine⟨λi m N H'=>m+i=s.k/\∃ρ' F d,Ext ρ1 ρ' H1 H'/\Rel X.K ρ' H' F/\SR X.K ρ' H' d N/\z8 X ρ' H' D (qD s g c m i d F),⟨s.k,rfl,ρ1,S1,τ,.refl,R1,r.ext e1,z8.ext h1 e1⟩,?_⟩;rintro i m σ2 H2 ⟨hm,j,G,P,e2,R2,r2,B⟩
 cases m with
 | zero=>
  left;have B:z8 X j H2 D (if s.fin G then .nx P G else .no):=B
  cases hf:s.fin G with
  | false=>rw[hf]at B;exact B.elim
  | true=>
   rw[hf]at B;refine⟨by rw[show i=s.k by lia];exact jr.stop G H2 j e2.toExt0 R2 hf,B j H2 σ2 .refl R2 r2⟩
 | succ m=>
  right;have B:z8 X j H2 D (match s.get i G with
   | none=>.no
   | some x=>.of (g x P G) λτ1 S1=>match c τ1 S1 with
    | .nx d F=>qD s g c m (i+1) d F
    | .ct d F=>qD s g c m (i+1) d F
    | .bk d F=>.nx d F
    | r=>r):=B
  cases hx:s.get i G with
  | none=>rw[hx]at B;exact B.elim
  | some x=>
   rw[hx]at B;obtain⟨hgo,hy⟩:=jr.go i G H2 j x e2.toExt0 R2 hx;refine⟨hgo,λN H'=>m+(i+1)=s.k/\∃ρ' F d,Ext ρ1 ρ' H1 H'/\Rel X.K ρ' H' F/\SR X.K ρ' H' d N/\z8 X ρ' H' D (qD s g c m (i+1) d F),λN H' z=>⟨m,dI _,z⟩,λv H3 y=>?_⟩;obtain⟨e3,R3,v3⟩:=hy v H3 y;refine⟨j,G,P,x,R3,r2.ext e3,v3,jM (of_post B) e3 λV S4 C ρ4 H4 σ4 e4 R4 r4=>⟨ρ4,S4,V,R4,r4,?_⟩⟩;have f:=e3.trans e4
   cases p:c V S4 with
   | nx L T=>rw[p]at C;exact λO H5 σ5 U Z Y=>⟨(),O,T,L,(e2.trans f).trans U,Z,Y,z8.ext C<|f.trans U⟩
   | ct L T=>rw[p]at C;exact λO H5 σ5 U Z Y=>⟨(),O,T,L,(e2.trans f).trans U,Z,Y,z8.ext C<|f.trans U⟩
   | bk L T=>rw[p]at C;exact A1.ext C f
   | rt x5 T=>rw[p]at C;exact ug.ext C f
   | ex x5 T=>rw[p]at C;exact XE.ext C f
   | no=>rw[p]at C;exact C
end
abbrev R.pR {α β:Type}(r:R α)(f:α->jL->R β):R β:=match r with
 | .ok a S=>f a S
 | _=>.no
def wI{α β:Type}{r:R α}{f:α->jL->R β}{b:β}(h:r.pR f=.ok b S2):∃a S,r=.ok a S/\f a S=.ok b S2:=by
 cases r with
 | ok a S=>exact⟨a,S,rfl,h⟩
 | ex _ _=>cases h
 | no=>cases h
def vC{α β:Type}{r:R α}{f:α->jL->R β}{P:β->jL->Prop}{E:Str->jL->Prop}(h:(r.pR f).post P E):∃a S,r=.ok a S/\(f a S).post P E:=by
 cases r with
 | ok a S=>exact⟨a,S,rfl,h⟩
 | ex _ _=>exact h.elim
 | no=>exact h.elim
def Uk{α β:Type}{o:Option β}{f:β->R α}{a:α}(h:opt o f=.ok a S):∃b,o=some b/\f b=.ok a S:=by
 cases o with
 | none=>cases h
 | some b=>exact⟨b,rfl,h⟩
abbrev nj (s:Src)(g:Tg)(t:Te)(e:Ex):Nat->Nat->ae->jL->R (ae)
 | 0,_=>λ_ S=>if s.fin S then .ok [] S else .no
 | k+1,i=>λτ S=>opt (s.get i S) λx=>(g x τ S).pR λd S1=>(t d S1).pR λb f=>match b with
  | true=>(e d f).pR λy j=>(nj s g t e k (i+1) d j).pR λys m=>.ok (y::ys) m
  | false=>nj s g t e k (i+1) d f
abbrev mH (cap:List<|bt)(τ:ae):ae:=cap.map λo=>match o with
 | some j=>τ.getD j .unb
 | none=>.unb
abbrev kI (cap:List<|bt)(src:Ic)(g:Tg)(t:Te)(e:Ex):Ex:=λτ S=>(src τ S).bind λs S1=>(nj s g t e s.k 0 (mH cap τ) S1).pR λys d=>newL ys d
abbrev kR:Te:=λ_ S=>.ok true S
def DM{s:Src}{g:Tg}{t:Te}{e:Ex}{k:Nat}{T:Prop}(h:nj s g t e (k+1) i τ S=.ok zs S')
  (q:∀x τ1 S1 b S2,s.get i S=some x->g x τ S=.ok τ1 S1->t τ1 S1=.ok b S2->(b=true->∃y S3 ws,e τ1 S2=.ok y S3/\nj s g t e k (i+1) τ1 S3=.ok ws S'/\zs=y::ws)->(b=false->nj s g t e k (i+1) τ1 S2=.ok zs S')->T):T:=by
 obtain⟨x,p,h⟩:=Uk h;obtain⟨τ1,S1,h1,h⟩:=wI h;obtain⟨b,S2,f,h⟩:=wI h;refine q x τ1 S1 b S2 p h1 f (λd=>?_) λd=>?_
 ·subst d;obtain⟨y,S3,j,h⟩:=wI h;obtain⟨ws,B,m,h⟩:=wI h
  cases h
  exact⟨y,S3,ws,j,m,rfl⟩
 ·subst d;exact h
structure Out (ρ1:bi)(H1:Hp)(D:aj)(accV:List V)(ρ:bi)(H:Hp):Prop where
 e0:Ext0 ρ1 ρ H1 H
 fr:∀a u,a≠D->H1 a=some u->a∉ρ1->H a=some u
 nw:∀a∈ρ,a∈ρ1\/H1 a=none
 nD:D∉ρ
 hD:H D=some (.lst accV)
def Out.stay{H1 H3 U:Hp}(o:Out ρ1 H1 D accV ρ3 H3)(L:H1 D=none)(J:Ext ρ3 ρ7 H3 U):Out ρ1 H1 D accV ρ7 U:=by
 refine⟨⟨o.e0.pre.trans J.pre,λa u i h=>J.im a u i<|o.e0.im a u i h⟩,λa u na f g=>J.fr a u (o.fr a u na f g) λz=>(o.nw a z).elim g λz=>by(rw[z]at f;cases f),λa k=>?_,λz=>(J.nw D z).elim o.nD λz=>by(rw[o.hD]at z;cases z),J.fr D _ o.hD o.nD⟩;by_cases d:a∈ρ1
 ·exact .inl d
 ·right
  cases q:H1 a with
  | none=>rfl
  | some u=>
   have j:a≠D:=j4 q L
   rcases J.nw a k with z|z
   ·exact((o.nw a z).elim d λz=>by(rw[z]at q;cases q)).elim
   ·rw[o.fr a u j q d]at z;cases z
def Out.put{H1 H:Hp}(o:Out ρ1 H1 D accV ρ H)(ex:Ext0 ρ ρ H<|upd H D<|.lst vs):Out ρ1 H1 D vs ρ (upd H D<|.lst vs):=
 ⟨⟨o.e0.pre,λa u i h=>ex.im a u i<|o.e0.im a u i h⟩,λa u na f d=>by rw[jR na];exact o.fr a u na f d,o.nw,o.nD,kJ⟩
def Out.end{H1 H:Hp}{D:aj}(o:Out ρ1 H1 D accV ρ H)(j:H1 D=none):Ext ρ1 (ρ++[D]) H1 H:=by
 refine⟨⟨o.e0.pre.trans<|iZ _ _,o.e0.im⟩,λa u d na=>o.fr a u (j4 d j) d na,λa f=>?_⟩
 rcases bF.mp f with z|z
 ·exact o.nw a z
 ·have:a=D:=by simpa using z
  rw[this];exact .inr j
abbrev Cq (K:au)(ρ1:bi)(H1:Hp)(D:aj)(ys:ae)(k:Nat)(E:bi->Hp->Prop)(P:Nat->Nat->ae->jL->ae->Prop)(i m:Nat)(σ:L2.St)(H:Hp):Prop:=
 m+i=k/\∃ρ S τ acc zs accV,Out ρ1 H1 D accV ρ H/\E ρ H/\Rel K ρ H S/\SR K ρ H τ σ/\AVs K ρ H acc accV/\P m i τ S zs/\acc++zs=ys
section
variable {K:au}{ρ1 ρ:bi}{H1 H:Hp}{D:aj}{ys acc zs:ae}{accV:List V}{k i m:Nat}{E:bi->Hp->Prop}{P:Nat->Nat->ae->jL->ae->Prop}{σ:L2.St}{S:jL}{τ:ae}
def Cq.el{T:Prop}(h:Cq K ρ1 H1 D ys k E P i m σ H)(q:∀ρ S τ acc zs accV,m+i=k->Out ρ1 H1 D accV ρ H->E ρ H->Rel K ρ H S->SR K ρ H τ σ->AVs K ρ H acc accV->P m i τ S zs->acc++zs=ys->T):T:=by
 obtain⟨g,ρ,S,τ,acc,zs,accV,h1,d,j,f,p,h6,B⟩:=h;exact q ρ S τ acc zs accV g h1 d j f p h6 B
def Cq.of(j:m+i=k)(o:Out ρ1 H1 D accV ρ H)(e:E ρ H)(R:Rel K ρ H S)(r:SR K ρ H τ σ)(v:AVs K ρ H acc accV)(p:P m i τ S zs)(q:acc++zs=ys):Cq K ρ1 H1 D ys k E P i m σ H:=⟨j,ρ,S,τ,acc,zs,accV,o,e,R,r,v,p,q⟩
end
abbrev WU (K:au)(c:Ex):TE:=λσ H Q=>∃ρ S τ a d,Rel K ρ H S/\SR K ρ H τ σ/\c τ S=.ok a d/\∀ρ' H' v,Ext ρ ρ' H H'->Rel K ρ' H' d->AV K ρ' H' a v->Q v H'
abbrev UN (K:au)(c:Te):TT:=λσ H Q=>∃ρ S τ a d,Rel K ρ H S/\SR K ρ H τ σ/\c τ S=.ok a d/\∀ρ' H',Ext ρ ρ' H H'->Rel K ρ' H' d->Q a H'
abbrev UO (K:au)(g:Tg):TG:=λv σ H Q=>∃ρ S τ a f j,Rel K ρ H S/\SR K ρ H τ σ/\AV K ρ H a v/\g a τ S=.ok f j/\∀ρ' H' d,Ext ρ ρ' H H'->Rel K ρ' H' j->SR K ρ' H' f d->Q d H'
section
variable {X:Cx}{pos:Pos}{tg iter elt e:aE}{ifs:List aE}{scope:Scope}{N:ba}{cap:List (bt)}{src:Ic}{g:Tg}{t:Te}{c:Ex}
def AE.e0{K:au}(hK:X.K=K)(h:AE X e c):PE X e (WU K c):=PE.imp h λσ H Q ⟨ρ,S,τ,a,g,R,r,hc,q⟩=>⟨ρ,S,τ,by rw[hK];exact R,by rw[hK];exact r,by rw[hc];exact λρ' H' v e d f=>q ρ' H' v e (by rw[<- hK];exact d)<|by rw[<- hK];exact f⟩
def AG.g0{K:au}(hK:X.K=K)(h:AG X e g):PG X e (UO K g):=by
 subst hK;refine PG.imp h λv σ H Q h9=>?_;obtain⟨ρ,S,τ,a,d,f,R,r,va,hc,q⟩:=h9;exact⟨ρ,S,τ,a,R,r,va,by rw[hc];exact q⟩
abbrev WS (X:Cx)(ifs:List aE)(t:Te):Prop:=Q9 X ifs<|UN X.K t
def lB:WS X [] kR:=λpins s σ H Q I ⟨ρ,S,τ,a,d,R,r,hc,q⟩=>OS pins s σ H Q I<|by cases hc;exact q ρ H .refl R
def QO{K:au}{H:Hp}(r:SR K ρ H τ σ)(cap:List<|bt):SR K ρ H (mH cap τ) (cap.map<|Sz σ):=by
 refine⟨by simp[mH],λi a h=>?_⟩;unfold mH at h;rw[bu]at h;obtain⟨o,g,e⟩:=br.mp h
 cases o with
 | none=>exact .inl e.symm
 | some j=>
  have e:τ.getD j .unb=a:=e
  cases d:τ[j]? with
  | none=>rw[aN,d]at e;exact .inl e.symm
  | some b=>
   rw[aN,d]at e;have e:b=a:=e;subst e
   rcases r.at j b d with z|⟨v,h1,f⟩
   ·exact .inl z
   ·exact .inr ⟨v,by rw[bu,g];show some ((σ[j]?).getD none)=_;rw[h1];rfl,f⟩
def Rel.P4{K:au}{H:Hp}{p:aj}(R:Rel K ρ H S)(hp:H p=none):p∉ρ:=λf=>by
 obtain⟨n,hn,e⟩:=iH.mp f;have g:n<S.length:=by rw[<- R.len];exact hn
 have:=R.at n p S[n] (by rw[aH hn,e]) (aH g)
 cases d:S[n]with
 | lst xs=>rw[d]at this;obtain⟨vs,h,_⟩:=this;rw[hp]at h;cases h
 | dct _|dki _|dks _|dcp _=>rw[d]at this;obtain⟨vs,h,_⟩:=this;rw[hp]at h;cases h
 | dcf _|dkf _=>rw[d]at this;obtain⟨_,vs,h,_⟩:=this;rw[hp]at h;cases h
 | ins _ _=>rw[d]at this;obtain⟨_,_,h⟩:=this;rw[hp]at h;cases h
def Dk(σ:L2.St)(H:Hp)(Q:VK)(h:tE X (kI cap src g t c) σ H Q):Rv cap (tI X src) (UO X.K g) (UN X.K t) (WU X.K c) σ H Q:=by
 ksr_p;refine⟨ρ,S,τ,R,r,jM (jN h) .refl λs S1 h1 ρ1 H1 J e1 R1 jr D hD=>?_⟩;obtain⟨ys,U,Z,h1⟩:=vC h1;obtain⟨L,h1⟩:=kc h1;have h1:ug X ρ H Q (.ref U.length) (U++[.lst ys]):=h1;obtain⟨eD,RD⟩:=R1.im (u:=.lst []) hD;refine⟨Cq X.K ρ1 H1 D ys s.k (λ_ _=>True) λm i τ S zs=>nj s g t c m i τ S=.ok zs U,⟨s.k,.of rfl ⟨eD.toExt0,λa u na hu _=>by rw[jR na];exact hu,λa ha=>.inl ha,R1.P4 hD,kJ⟩ trivial RD (QO ((r.ext e1).ext eD) cap) .nil Z rfl⟩,?_⟩;intro i m σ3 H3 hw;refine hw.el λB N τ3 acc zs accV hm F _ R3 r3 j d f=>?_;clear hw
 cases m with
 | zero=>
  left;have d:(if s.fin N then Am.R.ok [] N else .no)=.ok zs U:=d
  cases hf:s.fin N with
  | false=>rw[hf]at d;cases d
  | true=>
   rw[hf]at d
   cases d
   rw[bS]at f;subst f;refine⟨by rw[show i=s.k by lia];exact jr.stop _ H3 B F.e0 R3 hf,?_⟩;obtain⟨RT,gt⟩:=R3.take F.hD F.nD j;exact h1 (B++[D]) H3 _ (e1.trans<|F.end hD) RT<|.ref gt
 | succ m=>
  right;refine DM d λx G S4 b S5 hx Y ht5 hT hF=>?_;have jg:=jr.go i N H3 B x F.e0 R3 hx;refine⟨jg.1,λv H4 y=>?_⟩;obtain⟨e4,R4,v4⟩:=jg.2 v H4 y;refine⟨B,N,τ3,x,G,S4,R4,r3.ext e4,v4,Y,λρ5 H5 σ5 e5 R5 P=>⟨ρ5,S4,G,b,S5,R5,P,ht5,λρ6 H6 V R6=>?_⟩⟩;have p:=(e4.trans e5).trans V
  cases b with
  | false=>
   dsimp only;rw[aO bh];exact⟨m,dI _,.of () (F.stay hD p) trivial R6 (P.ext V) (j.ext p) (hF rfl) f⟩
  | true=>
   dsimp only;rw[aQ rfl];obtain⟨y,S6,ws,he6,cg6,O⟩:=hT rfl;refine⟨ρ6,S5,G,y,S6,R6,P.ext V,he6,λρ7 H7 w e7 R7 v7=>?_⟩;have T:=F.stay hD<|p.trans e7;obtain⟨C,R8⟩:=R7.out (ws:=accV++[w]) T.hD T.nD;have l1:=j.length;refine⟨accV,T.hD,?_,m,dI _,.of () (T.put C) trivial R8 ((P.ext<|V.trans e7).mq C) (AVs.mq C<|(j.ext<|p.trans e7).append<|.one v7) cg6 ?_⟩
   ·have:(acc++zs).length<=sizeLine:=by rw[f];exact L
    rw[O,aV,aR]at this
    lia
   ·rw[bI,<- f,O];rfl
def nq(hc:X.calm=true)(j:CpScope X scope N cap)(hi:AI X tg iter src)(hg:∀C s₀ H₀ ex,AG (lM X scope N C s₀ H₀ ex) tg g)(J:∀C s₀ H₀ ex,WS (lM X scope N C s₀ H₀ ex) ifs t)(L:∀C s₀ H₀ ex,AE (lM X scope N C s₀ H₀ ex) elt c)
  (hs:(∀x,foldedSetIterable iter X.env x=pure x)<|>ζ):AE X (.ListComp elt [⟨tg,iter,ifs,0⟩] scope pos) (kI cap src g t c):=
 PE.imp (Vk hc j hi (g:=UO X.K g) (tc:=UN X.K t) (te:=WU X.K c) (λC s₀ H₀ ex=>(hg C s₀ H₀ ex).g0 rfl) (λC s₀ H₀ ex=>J C s₀ H₀ ex) (λC s₀ H₀ ex=>(L C s₀ H₀ ex).e0 rfl) hs) Dk
def yL{i:Nat}{x:Str}{j:Pos}(U:X.N.Nodup)(hc:X.calm=true)(Z:CpScope X scope N cap)(hi:AI X tg iter src)(hg:∀C s₀ H₀ ex,AG (lM X scope N C s₀ H₀ ex) tg g)(ht:∀C s₀ H₀ ex,WS (lM X scope N C s₀ H₀ ex) ifs t)(he:∀C s₀ H₀ ex,AE (lM X scope N C s₀ H₀ ex) elt c)
  (J:X.N[i]?=some x<|>ε) (hx:Loc X.env.scope x:=by first|exact Or.inl rfl|exact Or.inr rfl)
  (L:(swapsWith (.ListComp elt [⟨tg,iter,ifs,0⟩] scope pos) (some<|.Name x pos') j.line X.env=pure true)<|>ε) (hf:X.fn x=true\/X.env.scope.names.lookup x=some .local<|>γ)
  (hs:(∀x,foldedSetIterable iter X.env x=pure x)<|>ζ):AS X (.Assign [.Name x pos'] (.ListComp elt [⟨tg,iter,ifs,0⟩] scope pos) j) (kC (kI cap src g t c)<|kB i):=
 PS.imp (Nu U J hx hc Z hi (g:=UO X.K g) (tc:=UN X.K t) (te:=WU X.K c) (λC s₀ H₀ ex=>(hg C s₀ H₀ ex).g0 rfl) (λC s₀ H₀ ex=>ht C s₀ H₀ ex) (λC s₀ H₀ ex=>(he C s₀ H₀ ex).e0 rfl) L hf hs) λD σ H ⟨ρ,S,τ,R,r,h⟩=>
  Dk σ H _ ⟨ρ,S,τ,R,r,jM (of_post h) .refl λa S1 h1 ρ1 H1 x e1 R1 d=>h1 ρ1 H1 _ e1 R1<|(r.ext e1).set d⟩
end
abbrev A.lst? (S:jL):A->Option (ae)
 | .ref n=>jF S n
 | _=>none
abbrev Wn (f:A->ae->jL->R A)(co:Ex)(d:rW):Ex:=λτ S=>(co τ S).bind λo S1=>opt (o.lst? S1) λ_=>(d τ S1).bind λg j=>f o g j
abbrev X8 (f:A->ae->jL->R A)(co:Ex):Ex:=λτ S=>(co τ S).bind λo S1=>opt (o.lst? S1) λ_=>f o [] S1
abbrev rM (X:Cx)(f:A->ae->jL->R A):V->List V->Hp->VK->Prop:=λx vs H Q=>∃ρ S o d,Rel X.K ρ H S/\AV X.K ρ H o x/\AVs X.K ρ H d vs/\(f o d S).post (ug X ρ H Q) (XE X ρ H)
section
variable {X:Cx}{apos cpos:Pos}{o e:aE}{es:List aE}{name:Str}{id:String}{f:A->ae->jL->R A}{co:Ex}{d:rW}
def lst?_ty{K:au}{H:Hp}{x:A}{v:V}(R:Rel K ρ H S)(h:AV K ρ H x v)(e:x.lst? S=some xs):WX K "list" v H:=by
 cases h with
 | ref h=>
  obtain⟨vs,h1,_⟩:=R.lst h<|jX e;exact .inl ⟨rfl,vs,nh.of h1⟩
 | _=>cases e
def Kf(slot:Slot "list" name id)(hty:typeOf (.builtin id)=pure (.type "method_descriptor"))(hm:C8 X id<|rM X f)(ho:AE X o co)(ha:AL X (e::es) d)
  (L:attributeBase o name X.env (eval o X.env)=eval o X.env<|>ε)
  (Z:(((backTo cpos<|starEach (e::es) X.env).all (λx=>!x.1) && (backToKw cpos<|keywordEach [] X.env).all (λx=>x.1.isSome)
   && decide ((e::es).length+([]:List Keyword).length+(if ([]:List Keyword).isEmpty then 0 else 1)<30))=true)<|>ε)
  (U:(apos.endLine == cpos.line)=true<|>ε) (hs:starEach (e::es) X.env=(false,eval e X.env)::starEach es X.env<|>ε) (J:((backTo cpos<|starEach es X.env).any (·.1)=false)<|>ε) :
  AE X (.Call (.Attribute o name apos) (e::es) [] cpos) (Wn f co d):=PE.imp (QX PySem.F.plainAttrs_list slot hty hm ho ha L Z U hs J) λσ H Q h9=>by
 z_go;refine⟨ρ,S,τ,R,r,jM (jN h) .refl λx S1 h1 ρ1 H1 v e1 R1 j=>?_⟩;obtain⟨xs,p,h1⟩:=jY h1;refine⟨lst?_ty R1 j p,ρ1,S1,τ,R1,r.ext e1,jM (jN h1) e1 λC B k g H2 vs e2 R2 m=>?_⟩;exact⟨g,B,x,C,R2,j.ext e2,m,jM k (e1.trans e2) λ_ _ z=>z.ext<|e1.trans e2⟩
abbrev sN (o:A)(j:ae)(S:jL):R A:=match o,j with
 | .ref n,[x]=>opt (jF S n) λxs=>gd (xs.length<sizeLine) (.ok .non<|S.set n<|.lst<|xs++[x])
 | _,_=>.no
def zq:C8 X "list.append" (rM X sN):=λpins s σ H x vs v us Q I rx d h9=>by
 obtain⟨ρ,S,o,m,R,j,va,h⟩:=h9
 cases j with
 | @ref p n hp=>
  match m,va,h with
  | [],_,h=>exact h.elim
  | _::_::_,_,h=>exact h.elim
  | [y],va,h=>
   obtain⟨w,rfl,hw⟩:=Ek va;kj_on;obtain⟨f,h⟩:=kc h;obtain⟨k,h1,r⟩:=R.lst hp<|jX hn;obtain⟨ex,g⟩:=R.put hp (jX hn)<|r.append<|.one hw;exact xN pins s σ H _ _ v us Q I rx d ⟨p,k,w,rfl,rfl,h1,by rw[<- r.length];exact f,h _ _ _ ex g .non⟩
 | _=>exact h.elim
end
abbrev mP (N:ba)(m:Sm)(j:ae)(S:jL):R A:=match m (j++List.replicate (N.length-j.length) .unb) S with
 | .rt a d=>.ok a d
 | .nx _ d=>.ok .non d
 | .ex c d=>.ex c d
 | _=>.no
abbrev vN (K:au)(n:Nat)(F:ae->jL->R A):Sp:=λvs H Q _=>vs.length=n/\∃ρ S f a d,Rel K ρ H S/\AVs K ρ H f vs/\F f S=.ok a d/\∀ρ' H' v,Ext ρ ρ' H H'->Rel K ρ' H' d->AV K ρ' H' a v->Q v H'
def Hz{K:au}{H:Hp}{j:ae}(r:AVs K ρ H j vs)(N:ba):SR K ρ H (j++List.replicate (N.length-j.length) .unb) (L2.start N vs):=by
 have f:=r.length;refine⟨by unfold L2.start;simp[f],λi a h=>?_⟩;by_cases hi:i<j.length
 ·rw[bR hi]at h;obtain⟨v,hv,d⟩:=r.get h;exact .inr ⟨v,by unfold L2.start;rw[bR<|by simp;lia,bu,hv];rfl,d⟩
 ·rw[fq (),List.getElem?_replicate]at h;split at h
  ·exact .inl (aU h).symm
  ·cases h
section
variable {P:ah}{w:af}{K:au}{mg:Str->bj}{base:ak}
def yT{x:Str}{st:aF}{f:aj}{N ps:ba}{k:Nat}{m:Sm}(F:Fun K x qual st f fd)(Z:FnScope N ps<|jU st)
  (U:∀(cdv:aa) (A:az) (outer:List Env) (s:aA) (H:Hp) (E:XK),Room k (A.deeper<|envOfC qual (jU st) s.heap.objs.size f cdv)->LW (yC uY P w K mg base N qual (jU st) f cdv A outer s H E).Wa (o8 st) m) :
  FnOk P w K mg base uY (k+1) f fd ps (vN K ps.length<|mP N m):=by
 refine F.ok Z (λvs H Q E h=>h.1) λcdv B outer s H vs Q E J ⟨O,ρ,S,p,a,L,R,va,d,q⟩=>⟨_,U cdv B outer s H E J,ρ,S,_,R,Hz va N,?_⟩;unfold mP at d
 cases g:m (p++List.replicate (N.length-p.length) .unb) S with
 | rt b j=>rw[g]at d;cases d;exact q
 | nx τ j=>rw[g]at d;cases d;exact λρ' H' G e C _=>q ρ' H' _ e C .non
 | bk τ j=>rw[g]at d;cases d
 | ct τ j=>rw[g]at d;cases d
 | ex c j=>rw[g]at d;cases d
 | no=>rw[g]at d;cases d
end
meta abbrev tH (P:ah)(w:af)(K:au)(mg:Str->bj)(base:ak)(k:Nat)(x:Str)(ps:ba)(F:ae->jL->R A):Prop:=Kn P w K mg base k x ps<|vN K ps.length F
abbrev eFn (F:ae->jL->R A)(d:rW):Ex:=λτ S=>(d τ S).bind λf S1=>match F f S1 with
 | .ok a g=>.ok a g
 | _=>.no
section
variable {X:Cx}{pos p:Pos}{e:aE}{es:List aE}{x:Str}{ps:ba}{k:Nat}{F:ae->jL->R A}{d:rW}
def Ma(G:tH X.prog X.w X.K X.mg X.base k x ps F)(U:Room k X.A)(Z:AL X (e::es) d)(hl:∀τ S as S',d τ S=.ok as S'->as.length=ps.length)(hg:Gl X x<|>ε)(L:(x == ("__debug__" : Str))=false<|>δ)
  (hs:starEach (e::es) X.env=(false,eval e X.env)::starEach es X.env<|>ε) (J:((backTo pos<|starEach es X.env).any (·.1)=false)<|>ε):AE X (.Call (.Name x p) (e::es) [] pos) (eFn F d):=
 PE.imp (Wk G U Z hg L hs J) λσ H Q h9=>by
  z_go;refine⟨ρ,S,τ,R,r,?_⟩;have f:=jN h
  cases hd:d τ S with
  | no=>rw[hd]at f;exact f
  | ex c S1=>rw[hd]at f;exact f
  | ok as S1=>
   rw[hd]at f;intro ρ1 H1 vs e1 R1 B;rw[bS];refine⟨by rw[<- B.length];exact hl τ S as S1 hd,ρ1,S1,as,?_⟩;have f:Am.R.post (match F as S1 with
    | .ok a g=>.ok a g
    | _=>.no) (ug X ρ H Q) (XE X ρ H):=f
   cases j:F as S1 with
   | ok a g=>rw[j]at f;exact⟨a,g,R1,B,rfl,λm H2 v e2=>f m H2 v<|e1.trans e2⟩
   | ex c g=>rw[j]at f;exact f.elim
   | no=>rw[j]at f;exact f.elim
def qy:∀τ S as S',jK τ S=.ok as S'->as.length=0:=λτ S as S' h=>by cases h;rfl
def mW{c:Ex}{d:rW}{n:Nat}(h:∀τ S as S',d τ S=.ok as S'->as.length=n):∀τ S as S',jC c d τ S=.ok as S'->as.length=n+1:=λτ S as S' e=>by
 unfold jC at e
 cases hc:c τ S with
 | ok a S1=>
  rw[hc]at e
  cases hd:d τ S1 with
  | ok bs f=>
   have e:R.bind (d τ S1) (λas f=>.ok (a::as) f)=.ok as S':=e;rw[hd]at e;cases e;rw[aR,h τ S1 bs _ hd]
  | ex _ _=>
   have e:R.bind (d τ S1) (λas f=>.ok (a::as) f)=.ok as S':=e;rw[hd]at e;cases e
  | no=>
   have e:R.bind (d τ S1) (λas f=>.ok (a::as) f)=.ok as S':=e;rw[hd]at e;cases e
 | ex _ _=>rw[hc]at e;cases e
 | no=>rw[hc]at e;cases e
end
section
variable {X:Cx}{pos:Pos}{a b c:aE}
abbrev Zj (j:A->A->jL->R A)(J:Ex)(τ:ae)(b k:A)(S:jL):R A:=match k with
 | .bl true=>(J τ S).bind λc d=>j b c d
 | .bl false=>.ok (.bl false) S
 | _=>.no
abbrev AY (f j:A->A->jL->R A)(ca J L:Ex):Ex:=λτ S=>(ca τ S).bind λa S1=>(J τ S1).bind λb g=>(f a b g).bind λk d=>Zj j L τ b k d
def J_{f Z:A->A->jL->R A}{ca cb cc:Ex}{H:Hp}{Q:VK}(h:tE X (AY f Z ca cb cc) σ H Q):EF (r2 X f) (r2 X Z) (tE X ca) (tE X cb) (tE X cc) σ H Q:=by
 ksr_p;refine⟨ρ,S,τ,R,r,jM (jN h) .refl λa S1 h1 ρ1 H1 x e1 R1 U=>⟨ρ1,S1,τ,R1,r.ext e1,jM (jN h1) e1 λb P K m H2 y e2 R2 G=>?_⟩⟩;have g:=e1.trans e2;refine⟨m,P,a,b,R2,U.ext e2,G,jM (jN K) g λk L C j H3 z e3 F O=>?_⟩;have d:=g.trans e3
 cases k with
 | bl k=>
  cases A8 O
  refine⟨k,rfl,?_⟩
  cases k with
  | true=>
   rw[aQ rfl];exact⟨j,L,τ,F,r.ext d,jM (jN C) d λc N V p Y w B J T=>⟨p,N,b,c,J,G.ext<|e3.trans B,T,jM V (d.trans B) λ_ _ q=>q.ext<|d.trans B⟩⟩
  | false=>
   rw[aO bh];exact C j H3 _ d F<|.bl false
 | _=>exact C.elim
def L6{f J:A->A->jL->R A}{ca L U:Ex}(Z:nZ X (compareOp op)<|r2 X f)(j:nZ X (compareOp op')<|r2 X J)(ha:AE X a ca)(hb:AE X b L)(hc:AE X c U)(hm:lastMarks [op,op'] [b,c]=false<|>η) :
  AE X (.Compare a [op,op'] [b,c] pos) (AY f J ca L U):=PE.imp (MG Z j ha hb hc hm) λ_ _ _ h=>J_ h
def Qh{f J:A->A->jL->R A}{ca L U:Ex}(Z:nZ X (compareOp op)<|r2 X f)(j:nZ X (compareOp op')<|r2 X J)(ha:AE X a ca)(hb:AE X b L)(hc:AE X c U)(hm:lastMarks [op,op'] [b,c]=false<|>η) :
  AT X (.Compare a [op,op'] [b,c] pos) (oH<|AY f J ca L U):=PT.imp (Mc Z j ha hb hc hm) λσ H Q h9=>by
 z_go;refine J_ ⟨ρ,S,τ,R,r,jM (jN h) .refl λc S1 h1 ρ1 H1 x e1 R1 d=>?_⟩
 cases c with
 | bl k=>cases A8 d;exact⟨k,rfl,h1 ρ1 H1 e1 R1⟩
 | _=>exact h1.elim
abbrev Ro (S:jL)(x:A):ae->bp
 | []=>some false
 | z::zs=>(wU S 12 z x).bind λp=>(Ro S x zs).map λq=>p || q
abbrev NT (j:Bool)(x y:A)(S:jL):R A:=opt (y.seq S) λys=>opt (Ro S x ys) λb=>.ok (.bl<|if j then !b else b) S
def HS{H:Hp}{x:A}{v:aa}(I:Inv X pins σ H s)(R:Rel X.K ρ H S)(Z:X.A.units+64<cLine)(U:AV X.K ρ H x vx)(rx:RelV vx v) :
  ∀{ys:ae} {us:List V} {its:be} {b:Bool},AVs X.K ρ H ys us->Vals us its->Ro S x ys=some b->∃e:aa->Bool,(∀w∈its,SeqAt.EqAt X.A.in1 s w v<|e w)/\its.any e=b:=by
 intro ys
 induction ys with
 | nil=>
  intro us its b h1 k h
  cases h1
  cases k
  exact⟨λ_=>false,(λw hw=>by cases hw),aU h⟩
 | cons z zs m=>
  intro us its b h1 k h
  cases h1 with
  | cons J B=>
   rename_i u us
   cases k with
   | cons r G=>
    rename_i f its
    classical
    obtain⟨p,hp,h⟩:=bC.mp h;obtain⟨q,L,h⟩:=br.mp h;obtain⟨e,g,C⟩:=m B G L;have h0:=(Fi I R 12 X.A.in1 z x u vx f v p (by rw[in1_units];omega) J U r rx hp).2.1;subst h
    cases p with
    | true=>
     refine⟨λw=>if w=f then true else e w,λw hw=>?_,?_⟩
     ·by_cases d:w=f
      ·dsimp[d,dB];exact h0
      ·dsimp[d,dS]
       rcases bf.mp hw with z|z
       ·exact absurd z d
       ·exact g w z
     ·simp
    | false=>
     by_cases j:f∈its
     ·refine⟨e,λw hw=>?_,?_⟩
      ·rcases bf.mp hw with z|z
       ·rw[z];exact g f j
       ·exact g w z
      ·rw[iE,C,ji]
       cases q with
       | true=>simp
       | false=>
        have:=List.any_eq_false.mp C f j;simpa using this
     ·refine⟨λw=>if w=f then false else e w,λw hw=>?_,?_⟩
      ·by_cases d:w=f
       ·dsimp[d,dB];exact h0
       ·dsimp[d,dS]
        rcases bf.mp hw with z|z
        ·exact absurd z d
        ·exact g w z
      ·rw[iE,<- C];dsimp[dB,ji];have:∀l:be,(∀w∈l,w≠f)->l.any (λw=>if w=f then false else e w)=l.any e:=λl F=>by
        induction l with
        | nil=>rfl
        | cons c l m=>rw[iE,iE,m λw hw=>F w<|aS _ hw,aO<|F c<|aT ..]
       exact this its λw hw z=>j<|z ▸ hw
def Ph(J:X.A.units+64<cLine):nZ X (compareOp .In) (r2 X<|NT false):=λpins s σ H x y v u Q I rx ry h9=>by
 w_up;obtain⟨ys,hy,h⟩:=jY h;obtain⟨k,m,h⟩:=jY h;obtain⟨p,us,rfl,hs,r⟩:=MP R vb hy
 cases ry
 rcases hs with hs|hs
 ·obtain⟨d,f,pl,B⟩:=I.list hs;obtain⟨e,g,j⟩:=HS I R J va rx r f m;refine SeqAt.in_listAt e pl.isList (λw hw=>g w<|by simpa using hw) ⟨.bl _,H,I,rfl,?_⟩;rw[show d.toArray.any e=d.any e by simp,j];exact h _ _ _ .refl R (.bl _)
 ·obtain⟨d,f,pl,B⟩:=I.tuple hs;obtain⟨e,g,j⟩:=HS I R J va rx r f m;refine SeqAt.in_tupleAt e pl (λw hw=>g w<|by simpa using hw) ⟨.bl _,H,I,rfl,?_⟩;rw[show d.toArray.any e=d.any e by simp,j];exact h _ _ _ .refl R<|.bl _
end
section
variable {X:Cx}{pos apos cpos:Pos}{a b o e:aE}{es:List aE}
abbrev qC (x:A)(S:jL):R A:=match x with
 | .int i=>gd (i.natAbs.log2<1920) (.ok (.str<|toString i) S)
 | _=>.no
def xD:kE X (.type "str") (rN X<|f1 qC):=kE.imp Br λvs H Q h0=>by
 gp_on;clear h0
 cases hv with
 | int i=>
  obtain⟨hc,h⟩:=kc h;exact⟨i,rfl,hc,h _ _ _ .refl R<|.str _⟩
 | _=>exact h.elim
abbrev A.strs:ae->Option (ba)
 | []=>some []
 | .str i::xs=>(A.strs xs).map (i::·)
 | _=>none
def OP{K:au}{H:Hp}:∀{xs:ae}{vs:List V}{bs:ba},AVs K ρ H xs vs->A.strs xs=some bs->vs=bs.map V.str:=by
 intro xs
 induction xs with
 | nil=>intro vs bs r e;cases e;cases r;rfl
 | cons x xs d=>
  intro vs bs r e
  cases x with
  | str z=>
   obtain⟨cs,e1,rfl⟩:=br.mp (show(A.strs xs).map (z::·)=some bs from e)
   cases r with
   | cons h t=>cases h;rw[d t e1];rfl
  | _=>cases e
abbrev Bk (o:A)(j:ae)(S:jL):R A:=match o,j with
 | .str z,[.ref n]=>opt (jF S n) λxs=>opt (A.strs xs) λys=>gd ((ys.map (·.length)).sum+ys.length * z.length<=16777216) (.ok (.str<|Txt.join z ys) S)
 | _,_=>.no
def Ec:C8 X "str.join" (rM X Bk):=λpins s σ H x vs v us Q I rx f h9=>by
 obtain⟨ρ,S,o,k,R,j,va,h⟩:=h9
 cases j with
 | str z=>
  match k,va,h with
  | [],_,h=>exact h.elim
  | y::_::_,_,h=>exact(by cases y<;>exact h.elim)
  | [y],va,h=>
   obtain⟨w,rfl,hw⟩:=Ek va
   cases hw with
   | @ref p n hp=>
    kj_on;obtain⟨ys,d,h⟩:=jY h;obtain⟨g,h⟩:=kc h;obtain⟨vs,h1,r⟩:=R.lst hp<|jX hn;rw[OP r d]at h1;exact NW pins s σ H _ _ v us Q I rx f ⟨z,p,ys,rfl,rfl,nh.of h1,g,h _ _ _ .refl R<|.str _⟩
   | _=>exact h.elim
 | _=>exact h.elim
abbrev rT (o:A)(j:ae)(S:jL):R A:=match o,j with
 | .str y,[.str z]=>gd ((z.length == 0)=false/\y.length<=sizeLine/\(Txt.split y z).length<=sizeLine) (.ok (.ref S.length)<|S++[.lst<|(Txt.split y z).map .str])
 | _,_=>.no
theorem C6{K:au}{H:Hp}:∀(ys:ba),AVs K ρ H (ys.map .str) (ys.map .str)
 | []=>.nil
 | y::ys=>.cons (.str y)<|C6 ys
def m_split:C8 X "str.split" (rM X rT):=λpins s σ H x vs v us Q I rx d h9=>by
 obtain⟨ρ,S,o,k,R,g,va,h⟩:=h9
 cases g with
 | str y=>
  match k,va,h with
  | [],_,h=>exact h.elim
  | w::_::_,_,h=>exact(by cases w<;>exact h.elim)
  | [w],va,h=>
   obtain⟨m,rfl,hw⟩:=Ek va
   cases hw with
   | str z=>
    obtain⟨⟨h1,f,j⟩,h⟩:=kc h;exact LC pins s σ H _ _ v us Q I rx d ⟨y,z,rfl,rfl,h1,f,j,nO R (C6 _) .refl h⟩
   | _=>exact h.elim
 | _=>exact h.elim
abbrev qJ (o:A)(j:ae)(S:jL):R A:=match o,j with
 | .str y,[.str z]=>.ok (.bl<|0+z.length<=y.length && Builtin.Str.subAt y z 0) S
 | _,_=>.no
def wL:C8 X "str.startswith" (rM X qJ):=λpins s σ H x vs v us Q I rx d h9=>by
 obtain⟨ρ,S,o,g,R,f,va,h⟩:=h9
 cases f with
 | str y=>
  match g,va,h with
  | [],_,h=>exact h.elim
  | w::_::_,_,h=>exact(by cases w<;>exact h.elim)
  | [w],va,h=>
   obtain⟨j,rfl,hw⟩:=Ek va
   cases hw with
   | str z=>exact Ah pins s σ H _ _ v us Q I rx d ⟨y,z,rfl,rfl,h _ _ _ .refl R<|.bl _⟩
   | _=>exact h.elim
 | _=>exact h.elim
abbrev Ja (x y:A)(S:jL):R A:=match x,y with
 | .str i,.str j=>.ok (.bl<|!(Builtin.Str.occurrences j i 0 j.length 1).isEmpty) S
 | _,_=>.no
def Q0:nZ X (compareOp .In) (r2 X Ja):=nZ.imp IZ λx y H Q h9=>by
 w_up
 cases va<;>first|exact h.elim|(cases vb<;>first|exact h.elim|exact⟨_,_,rfl,rfl,h _ _ _ .refl R<|.bl _⟩)
def KW{x:Str}{pos:Pos}(j:X.mg x=some (.str y t))(hg:Gl X x<|>ε)(hd:(x == ("__debug__" : Str))=false<|>δ):AE X (.Name x pos) (eC<|.str y):=
 PE.imp (BL (v:=.str y) hg j ⟨t,rfl⟩ hd) λσ H Q ⟨ρ,S,τ,R,r,h⟩=>h ρ H _ .refl R<|.str y
abbrev A.isStr:A->Bool
 | .str _=>true
 | _=>false
abbrev yV (f:A->ae->jL->R A)(co:Ex)(d:rW):Ex:=λτ S=>(co τ S).bind λo S1=>gd (o.isStr=true)<|(d τ S1).bind λg j=>f o g j
def ql{id:String}{f:A->ae->jL->R A}{co:Ex}{d:rW}(slot:Slot "str" name id)(hty:typeOf (.builtin id)=pure (.type "method_descriptor"))(hm:C8 X id<|rM X f)(ho:AE X o co)(ha:AL X (e::es) d)
  (L:attributeBase o name X.env (eval o X.env)=eval o X.env<|>ε)
  (Z:(((backTo cpos<|starEach (e::es) X.env).all (λx=>!x.1) && (backToKw cpos<|keywordEach [] X.env).all (λx=>x.1.isSome)
   && decide ((e::es).length+([]:List Keyword).length+(if ([]:List Keyword).isEmpty then 0 else 1)<30))=true)<|>ε)
  (U:(apos.endLine == cpos.line)=true<|>ε) (hs:starEach (e::es) X.env=(false,eval e X.env)::starEach es X.env<|>ε) (J:((backTo cpos<|starEach es X.env).any (·.1)=false)<|>ε) :
  AE X (.Call (.Attribute o name apos) (e::es) [] cpos) (yV f co d):=PE.imp (QX PySem.F.plainAttrs_str slot hty hm ho ha L Z U hs J) λσ H Q h9=>by
 z_go;refine⟨ρ,S,τ,R,r,jM (jN h) .refl λx S1 h1 ρ1 H1 v e1 R1 j=>?_⟩;obtain⟨p,h1⟩:=kc h1;have ty:WX X.K "str" v H1:=by
  cases j with
  | str z=>rfl
  | _=>cases p
 refine⟨ty,ρ1,S1,τ,R1,r.ext e1,jM (jN h1) e1 λC B k g H2 vs e2 R2 m=>?_⟩;exact⟨g,B,x,C,R2,j.ext e2,m,jM k (e1.trans e2) λ_ _ z=>z.ext<|e1.trans e2⟩
end
section
variable {X:Cx}{pos:Pos}{a b:aE}
abbrev Az (n m k:Nat):Src:=⟨k,λi S=>(jF S n).bind λxs=>(jF S m).bind λys=>(xs[i]?).bind λx=>(ys[i]?).map λy=>.tup [x,y],λS=>match jF S n,jF S m with
 | some xs,some ys=>decide (xs.length<=k) || decide (ys.length<=k)
 | _,_=>false⟩
abbrev Yp (a b:A)(S:jL):R Src:=match a,b with
 | .ref n,.ref m=>opt (jF S n) λxs=>opt (jF S m) λys=>.ok (Az n m<|min xs.length ys.length) S
 | _,_=>.no
abbrev A2 (c d:Ex):Ic:=λτ S=>(c τ S).bind λa S1=>(d τ S1).bind λb f=>Yp a b f
def Si{K:au}{Z:bi}{H0:Hp}{p q:aj}{n m k:Nat}(hp:Z[n]?=some p)(hq:Z[m]?=some q):JR K (Az n m k) (Xh K p q) Z H0 where
 go:=λi S H ρ x e R g=>by
  obtain⟨xs,hn,g⟩:=bC.mp g;obtain⟨ys,d,g⟩:=bC.mp g;obtain⟨U,N,g⟩:=bC.mp g;obtain⟨V,hy,rfl⟩:=br.mp g;obtain⟨vs,h1,r1⟩:=R.lst (e.get hp)<|jX hn;obtain⟨j,f,r2⟩:=R.lst (e.get hq)<|jX d;obtain⟨v,F,G⟩:=r1.get N;obtain⟨w,C,O⟩:=r2.get hy;refine⟨⟨vs,j,v,w,nh.of h1,nh.of f,F,C⟩,λu H' z=>?_⟩;obtain⟨T,J,rfl,P⟩:=z;have B:=P vs j v w (nh.of h1) (nh.of f) F C;subst B;obtain⟨ex,L⟩:=R.im (u:=.tup [v,w]) J;exact⟨ex,L,.tup kJ<|.cons (G.ext ex)<|.cons (O.ext ex) .nil⟩
 stop:=λS H ρ e R hf=>by
  have hf:(match jF S n,jF S m with
   | some xs,some ys=>decide (xs.length<=k) || decide (ys.length<=k)
   | _,_=>false)=true:=hf
  cases hn:jF S n with
  | none=>rw[hn]at hf;cases hf
  | some xs=>
   cases d:jF S m with
   | none=>rw[hn,d]at hf;cases hf
   | some ys=>
    rw[hn,d]at hf;obtain⟨vs,h1,r1⟩:=R.lst (e.get hp)<|jX hn;obtain⟨j,f,r2⟩:=R.lst (e.get hq)<|jX d;refine⟨vs,j,nh.of h1,nh.of f,?_⟩;rw[fE,fE,<- r1.length,<- r2.length];have hf:(decide (xs.length<=k) || decide (ys.length<=k))=true:=hf;rw[gA,eK,eK]at hf;exact hf
def Uj{p:Pos}{c d:Ex}(hm:X.mg "zip" = none)(ha:AE X a c)(hb:AE X b d)(hg:Gl X "zip"<|>ε)(hs:starEach [a,b] X.env=(false,eval a X.env)::starEach [b] X.env<|>ε)(U:starEach [b] X.env=[(false,eval b X.env)]<|>ε)(Z:((backTo pos<|starEach [b] X.env).any (·.1)=false)<|>ε) :
  AI X (.Tuple elts x1 tpos) (.Call (.Name "zip" p) [a,b] [] pos) (A2 c d):=λpins s σ H Q I h9=>by
 z_go;refine Rq hg hm (mQ ha (mQ hb qR U) hs) hs Z pins s σ H Q I ⟨ρ,S,τ,R,r,jM (jN h) .refl λx S1 h1 ρ1 H1 v e1 R1 K=>⟨ρ1,S1,τ,R1,r.ext e1,jM (jN h1) e1 λy L f g H2 w e2 R2 C=>?_⟩⟩;have j:=K.ext e2
 cases j with
 | @ref p n hp=>
  cases C with
  | @ref q m B=>
   obtain⟨xs,hn,f⟩:=jY f;obtain⟨ys,k,f⟩:=jY f;obtain⟨vs,J,r1⟩:=R2.lst hp<|jX hn;obtain⟨F,G,r2⟩:=R2.lst B<|jX k;exact⟨_,_,vs,F,rfl,nh.of J,nh.of G,f g H2 _ (e1.trans e2) R2<|Si hp B⟩
  | _=>exact f.elim
 | _=>exact f.elim
def JX{c d:Ex}{n:Nat}{xs ys:ae}(h1:c τ S=.ok (.ref n) S1)(j:d τ S1=.ok (.ref m) S2)(hn:jF S2 n=some xs)(J:jF S2 m=some ys):A2 c d τ S=.ok (Az n m<|min xs.length ys.length) S2:=by
 unfold A2;rw[h1];show(d τ S1).bind _=_;rw[j];show opt (jF S2 n) _=_;rw[hn]
 skip
 rw[J];rfl
end
section
variable {X:Cx}{pos:Pos}{a:aE}
abbrev Ct (n k:Nat):Src:=⟨k,λi S=>(jF S n).bind λxs=>(xs[i]?).map λx=>.tup [.int i,x],λS=>match jF S n with
 | some ys=>decide (ys.length=k)
 | none=>false⟩
abbrev ZH (a:A)(S:jL):R Src:=match a with
 | .ref n=>opt (jF S n) λxs=>.ok (Ct n xs.length) S
 | _=>.no
abbrev Ow (c:Ex):Ic:=λτ S=>(c τ S).bind λa S1=>ZH a S1
def RP{K:au}{J:bi}{L:Hp}{p:aj}{n k:Nat}(hp:J[n]?=some p):JR K (Ct n k) (RK K p) J L where
 go:=λi S H ρ x e R g=>by
  obtain⟨xs,hn,g⟩:=bC.mp g;obtain⟨y,hy,rfl⟩:=br.mp g;obtain⟨vs,h1,r1⟩:=R.lst (e.get hp)<|jX hn;obtain⟨v,j,m⟩:=r1.get hy;refine⟨⟨vs,v,nh.of h1,j⟩,λw H' q=>?_⟩;obtain⟨F,f,rfl,C⟩:=q;have d:=C vs v (nh.of h1) j;subst d;obtain⟨ex,B⟩:=R.im (u:=.tup [.int i,v]) f;exact⟨ex,B,.tup kJ<|.cons (.int _)<|.cons (m.ext ex) .nil⟩
 stop:=λS H ρ e R hf=>by
  have hf:(match jF S n with
   | some ys=>decide (ys.length=k)
   | none=>false)=true:=hf
  cases hn:jF S n with
  | none=>rw[hn]at hf;cases hf
  | some xs=>
   rw[hn]at hf;obtain⟨vs,h1,r1⟩:=R.lst (e.get hp)<|jX hn;exact⟨vs,nh.of h1,by rw[<- r1.length];exact bO hf⟩
def SY{p:Pos}{c:Ex}(j:X.mg "enumerate" = none)(J:AE X a c)(hg:Gl X "enumerate"<|>ε)(hs:starEach [a] X.env=[(false,eval a X.env)]<|>ε):AI X (.Tuple elts x1 tpos) (.Call (.Name "enumerate" p) [a] [] pos) (Ow c):=λpins s σ H Q I h9=>by
 z_go;refine JU hg j (mQ J qR hs) hs pins s σ H Q I ⟨ρ,S,τ,R,r,jM (jN h) .refl λx S1 h1 ρ1 H1 v e1 R1 f=>?_⟩
 cases f with
 | @ref p n hp=>
  obtain⟨xs,hn,h1⟩:=jY h1;obtain⟨vs,d,r1⟩:=R1.lst hp<|jX hn;exact⟨_,vs,rfl,nh.of d,h1 ρ1 H1 _ e1 R1<|RP hp⟩
 | _=>exact h1.elim
def N3{c:Ex}{n:Nat}{xs:ae}(h:c τ S=.ok (.ref n) S1)(hn:jF S1 n=some xs):Ow c τ S=.ok (Ct n xs.length) S1:=by
 unfold Ow;rw[h];show opt (jF S1 n) _=_;rw[hn];rfl
end
abbrev Jg (K:au)(n:Nat)(F:ae->jL->R A):Sp:=λvs H Q E=>vs.length=n/\∃ρ S f,Rel K ρ H S/\AVs K ρ H f vs/\(F f S).post (λa d=>∀ρ' H' v,Ext ρ ρ' H H'->Rel K ρ' H' d->AV K ρ' H' a v->Q v H') (λc d=>∀C ρ' H',DZ K c C->Ext ρ ρ' H H'->Rel K ρ' H' d->E (.ref C) none H')
section
variable {P:ah}{w:af}{K:au}{mg:Str->bj}{base:ak}
def Fun.ZI{x:Str}{st:aF}{f:aj}{N ps:ba}{k:Nat}{sp:Sp}(F:Fun K x qual st f fd)(S:FnScope N ps<|jU st)(len:∀vs H Q E,sp vs H Q E->vs.length=ps.length)
  (hb:∀(cdv:aa) (A:az) (outer:List Env) (s:aA) (H:Hp) (vs:List V) (Q:VK) (E:XK),Room k (A.deeper<|envOfC qual (jU st) s.heap.objs.size f cdv)->sp vs H Q E->∃t,AH (yC (Bw P w) P w K mg base N qual (jU st) f cdv A outer s H E) (o8 st) t/\t { nx:=λ_ H'=>Q .non H',rt:=Q } (L2.start N vs) H):FnOk P w K mg base (Bw P w) (k+1) f fd ps sp:=by
 obtain⟨C,L,kV,j,G,J,cdv,ct,B,rfl,m,d⟩:=F.ex;exact PX m d S len λA outer s H vs Q E p g=>hb cdv A outer s H vs Q E p g
def fnX{x:Str}{st:aF}{f:aj}{N ps:ba}{k:Nat}{m:Sm}(F:Fun K x qual st f fd)(Z:FnScope N ps<|jU st)
  (U:∀(cdv:aa) (A:az) (outer:List Env) (s:aA) (H:Hp) (E:XK),Room k (A.deeper<|envOfC qual (jU st) s.heap.objs.size f cdv)->LW (yC (Bw P w) P w K mg base N qual (jU st) f cdv A outer s H E) (o8 st) m) :
  FnOk P w K mg base (Bw P w) (k+1) f fd ps (Jg K ps.length<|mP N m):=by
 refine Fun.ZI F Z (λvs H Q E h=>h.1) λcdv B outer s H vs Q E L ⟨T,ρ,S,G,R,va,q⟩=>⟨_,U cdv B outer s H E L,ρ,S,_,R,Hz va N,?_⟩;unfold mP at q
 cases d:m (G++List.replicate (N.length-G.length) .unb) S with
 | rt b g=>rw[d]at q;exact q
 | nx τ g=>rw[d]at q;exact λρ' H' p e j _=>q ρ' H' _ e j .non
 | bk τ g=>rw[d]at q;exact q.elim
 | ct τ g=>rw[d]at q;exact q.elim
 | no=>rw[d]at q;exact q.elim
 | ex c g=>
  rw[d]at q;intro C ρ' H' n e j;exact λpins p s' O I J=>II I rfl J<|q C ρ' H' n e j
end
abbrev D4 (P:ah)(w:af)(K:au)(mg:Str->bj)(base:ak)(k:Nat)(x:Str)(ps:ba)(F:ae->jL->R A):Prop:=
 ∃(f:aj) (fd:FuncData),FnOk P w K mg base (Bw P w) k f fd ps (Jg K ps.length F)/\mg x=some (.ref f)/\PySem.W.keepIn K (.ref f)=true/\Binds K fd ps []
abbrev qw (F:ae->jL->R A)(d:rW):Ex:=λτ S=>(d τ S).bind λf S1=>F f S1
section
variable {X:Cx}{pos p:Pos}{e:aE}{es:List aE}{x:Str}{ps:ba}{k:Nat}{F:ae->jL->R A}{d:rW}
def KJ(G:D4 X.prog X.w X.K X.mg X.base k x ps F)(hr:Room k X.A)(ha:AL X (e::es) d)(hl:∀τ S as S',d τ S=.ok as S'->as.length=ps.length)(hg:Gl X x<|>ε)(Z:(x == ("__debug__" : Str))=false<|>δ)
  (hs:starEach (e::es) X.env=(false,eval e X.env)::starEach es X.env<|>ε) (U:((backTo pos<|starEach es X.env).any (·.1)=false)<|>ε):AE X (.Call (.Name x p) (e::es) [] pos) (qw F d):=by
 obtain⟨f,fd,N,J,O,B⟩:=G;refine PE.imp (Gv N hr hg J O B .nil (JZ (X:=X) rfl rfl) ha Z hs U) λσ H Q h9=>?_;z_go;refine⟨ρ,S,τ,R,r,?_⟩;have j:=jN h
 cases hd:d τ S with
 | no=>rw[hd]at j;exact j
 | ex c S1=>rw[hd]at j;exact j
 | ok as S1=>
  rw[hd]at j;intro ρ1 H1 vs e1 R1 m;rw[bS];refine⟨by rw[<- m.length];exact hl τ S as S1 hd,ρ1,S1,as,R1,m,nR j (λa L q g H2 v e2=>q g H2 v<|e1.trans e2) λc L q C g H2 n e2=>q C g H2 n<|e1.trans e2⟩
end
abbrev Uz:be:=[.type "ValueError",.type "Exception",.type "BaseException",.type "object"]
def Ve{K:au}{mg:Str->bj}{base:ak}{x:Str}{C:aj}(M:Mod K mg base)(e:DZ K x C)(q:PySem.W.excIn K C bmB newId=true):OwnCls x C bmB newId mg base:=by
 refine⟨cu M.kin M.glob e,?_⟩;unfold PySem.W.excIn at q;split at q
 ·rename_i dd cd B L;split at q
  ·rename_i N bm k0 k1 k2 k3 O k5 g hs;rw[bE,bE,bE,bE,bE]at q;obtain⟨⟨⟨⟨⟨j,f⟩,d⟩,G⟩,F⟩,m⟩:=q;have j:=dW.mp j;have f:=dW.mp f;have d:cd.hasDel=false:=by simpa using d
   have m:=dW.mp m;subst j f;obtain⟨nm,bs,p,ns,J,hd,sn,sub,ab,col,k⟩:=cd;have g:p=_:=g;have d:k=false:=d;subst g d;obtain⟨B⟩:=B;have hs:B=_:=hs;subst hs;exact⟨bm,ns,nm,J,bs,hd,sn,sub,ab,col,dd,k0,k1,k2,k3,k5,_,M.kin _ _ L,.of_isNs<|PySem.W.isNs_of_in M.kin F,PySem.W.nsMap_none_of_in M.kin F m,PySem.W.tail_of_in M.kin G⟩
  ·cases q
 ·cases q
abbrev Pc:List (Str ⊕ Ex)->ae->jL->R Unit
 | [],_,S=>.ok Unit.unit S
 | .inl _::ps,τ,S=>Pc ps τ S
 | .inr e::ps,τ,S=>(e τ S).bind λv S1=>match v with
  | .int i=>gd (i.natAbs.log2<64) (Pc ps τ S1)
  | _=>.no
abbrev uc (c:Str)(ps:List<|Str ⊕ Ex):Sm:=λτ S=>.of (Pc ps τ S) λ_ S1=>.ex c S1
abbrev W0 (X:Cx):List (Str ⊕ Ex)->List (Str ⊕ TE)
 | []=>[]
 | .inl x::ps=>.inl x::W0 X ps
 | .inr e::ps=>.inr (tE X e)::W0 X ps
section
variable {X:Cx}{pos np cpos:Pos}{x:Str}{C:aj}
def pZ{j tp}(hn:DZ X.K x C)(L:PySem.W.excIn X.K C Uz "ValueError.__new__" = true)(hh:X.A.handled=none)(hg:Gl X x<|>ε)
  (hs:starEach [.Constant (.str t) j tp] X.env=(false,eval (.Constant (.str t) j tp) X.env)::starEach [] X.env<|>ε) (J:((backTo cpos<|starEach [] X.env).any (·.1)=false)<|>ε) (hd:(x == ("__debug__" : Str))=false<|>δ) :
  AS X (.Raise (some<|.Call (.Name x np) [.Constant (.str t) j tp] [] cpos) none pos) (uc x []):=by
 intro pins s σ H D I ⟨ρ,S,τ,R,r,h⟩;refine LR (Ve I.mod hn L) PySem.F.excBase_ValueError hh (mQ M3 qR hs) hg hs J hd pins s σ H D I ?_;exact⟨(show 1<=sizeLine by decide),h C ρ H hn .refl R⟩
end
abbrev NH (i:Nat):RS->RS
 | .nx τ S=>.nx (τ.set i .unb) S
 | .bk τ S=>.bk (τ.set i .unb) S
 | .ct τ S=>.ct (τ.set i .unb) S
 | .rt a S=>.rt a S
 | _=>.no
abbrev V9 (i n:Nat)(cs:ba)(c d:Sm):Sm:=λτ S=>match c τ S with
 | .ex x S1=>if x∈cs then NH i (d ((List.replicate n .unb).set i<|.exn x) S1)else .no
 | r=>r
def SR.unset{K:au}{H:Hp}{τ:ae}{σ:L2.St}(s:SR K ρ H τ σ):SR K ρ H (τ.set i .unb) (σ.set i none):=by
 refine⟨by simp[s.len],λj b e=>?_⟩;by_cases d:j=i
 ·subst d;have f:j<τ.length:=by
   have:=(aZ.mp e).1;simpa using this
  rw[cM f]at e
  cases e
  exact .inl rfl
 ·rw[cN<|cL d]at e;rw[cN<|cL d];exact s.at j b e
abbrev wN (f:Str->bp)(c:Ex):Ex:=λτ S=>(c τ S).bind λv S1=>match v with
 | .exn x=>opt (f x) λb=>.ok (.bl b) S1
 | _=>.no
section
variable {X:Cx}{pos p py:Pos}{a:aE}{y:Str}{vy:V}{cy:aa}{f:Str->bp}{c:Ex}
def JW(ry:∀u,RelV vy u->u=cy)(hf:∀x b C,f x=some b->DZ X.K x C->XCls X.K C/\(PySem.W.clsIn X.K C).isSome=true/\PySem.W.kitOne X.K (.ref C) cy=some b) :
  kE X (.builtin "isinstance") (λxs H Q=>∃ρ S x v b,Rel X.K ρ H S/\xs=[v,vy]/\AV X.K ρ H (.exn x) v/\f x=some b/\Q (.bl b) H):=by
 intro pins s σ H xs us Q I r ⟨ρ,S,x,v,b,R,d,va,g,q⟩;subst d;obtain⟨u,B,rfl,r1,r2⟩:=vals2 r;have:=ry _ r2;subst this
 cases va with
 | exn n h k=>
  obtain⟨p,m,j⟩:=hf _ _ _ g n
  cases(show u=Value.ref _ from r1)
  exact Eu p m I h k j λtk=>⟨.bl b,H,I.tok tk,rfl,q⟩
def Kl(hy:PE X (.Name y py)<|tC vy)(ry:∀u,RelV vy u->u=cy)(hf:∀x b C,f x=some b->DZ X.K x C->XCls X.K C/\(PySem.W.clsIn X.K C).isSome=true/\PySem.W.kitOne X.K (.ref C) cy=some b)(U:AE X a c)(Z:X.mg "isinstance" = none)(hg:Gl X "isinstance"<|>ε)
  (L:starEach [a,.Name y py] X.env=(false,eval a X.env)::starEach [.Name y py] X.env<|>ε) (j:starEach [.Name y py] X.env=(false,eval (.Name y py) X.env)::starEach [] X.env<|>ε) (J:((backTo pos<|starEach [.Name y py] X.env).any (·.1)=false)<|>ε) :
  AE X (.Call (.Name "isinstance" p) [a,.Name y py] [] pos) (wN f c):=
 PE.imp (yY (JW ry hf) hg Z n_ (mQ U (mQ hy qR j) L) ⋯ ⋯ L J) λσ H Q h9=>by
  z_go;refine⟨ρ,S,τ,R,r,jM (jN h) .refl λv S1 h1 ρ1 H1 x e1 R1 g=>?_⟩
  cases v with
  | exn n=>
   obtain⟨b,d,h1⟩:=jY h1;exact⟨ρ1,S1,n,x,b,R1,rfl,g,d,h1 ρ1 H1 _ e1 R1<|.bl b⟩
  | _=>exact h1.elim
end
def RQ{X:Cx}{C:aj}(hh:X.A.handled=some (.ref e))(h0:X.H₀ e=some (.frz oe xu))(j:XO C oe):kE X (.builtin "any") (rN X<|f1 O5):=kE.imp (IS hh h0 j) λvs H Q h0=>by
 gp_on;clear h0
 cases hv with
 | @ref p n hp=>
  kj_on;obtain⟨bs,d,h⟩:=jY h;obtain⟨vs,h1,r⟩:=R.lst hp<|jX hn;rw[D7 r d]at h1;exact⟨p,bs,rfl,nh.of h1,h _ _ _ .refl R<|.bl _⟩
 | _=>exact h.elim
structure ExcK (K:au)(U:aj)(c:Str)(C:aj):Prop where
 n:DZ K c C
 q:PySem.W.excIn K C Uz "ValueError.__new__" = true
 r:L2.mroIn K C=some (.ref U::Uz)
 x:XCls K C
 cl:(PySem.W.clsIn K C).isSome=true
 v:PySem.W.kitOne K (.ref C) (.type "ValueError")=some true
def Aj:bootBuiltins "ValueError" = some (.type "ValueError"):=by decide +kernel
abbrev EG (tb:List<|Str×Bool):Str->bp:=λx=>tb.lookup x
def QY{K:au}{tb:List<|Str×Bool}(h:∀p∈tb,∃C,DZ K p.1 C/\XCls K C/\(PySem.W.clsIn K C).isSome=true/\PySem.W.kitOne K (.ref C) cy=some p.2):∀x b C,EG tb x=some b->DZ K x C->XCls K C/\(PySem.W.clsIn K C).isSome=true/\PySem.W.kitOne K (.ref C) cy=some b:=λx b C e n=>by
 obtain⟨d,f,g⟩:=h (x,b)<|cQ e;have:d=C:=by
  have z:=f.symm.trans n
  injection z with z
  injection z with z
  injection z
 subst this;exact g
section
variable {X:Cx}{pos p py:Pos}{a:aE}{y:Str}{Cy:aj}{tb:List (Str×Bool)}{c:Ex}
def uo(Z:X.mg y=some (.ref Cy))(h:∀p∈tb,∃C,DZ X.K p.1 C/\XCls X.K C/\(PySem.W.clsIn X.K C).isSome=true/\PySem.W.kitOne X.K (.ref C) (.ref Cy)=some p.2)(ha:AE X a c)(hi:X.mg "isinstance" = none)(hg:Gl X "isinstance"<|>ε)(j:Gl X y<|>ε)(J:(y == ("__debug__" : Str))=false<|>δ)
  (he:starEach [a,.Name y py] X.env=(false,eval a X.env)::starEach [.Name y py] X.env<|>ε) (L:starEach [.Name y py] X.env=(false,eval (.Name y py) X.env)::starEach [] X.env<|>ε) (U:((backTo pos<|starEach [.Name y py] X.env).any (·.1)=false)<|>ε) :
  AE X (.Call (.Name "isinstance" p) [a,.Name y py] [] pos) (wN (EG tb) c):=Kl (vy:=.ref Cy) (cy:=.ref Cy) (BL j Z rfl J) (λu r=>r) (QY h) ha hi hg he L U
def Q_(U:X.mg "ValueError" = none)(h:∀p∈tb,∃C,DZ X.K p.1 C/\XCls X.K C/\(PySem.W.clsIn X.K C).isSome=true/\PySem.W.kitOne X.K (.ref C) (.type "ValueError")=some p.2)(Z:AE X a c)(hi:X.mg "isinstance" = none)(hg:Gl X "isinstance"<|>ε)(j:Gl X "ValueError"<|>ε)
  (he:starEach [a,.Name "ValueError" py] X.env=(false,eval a X.env)::starEach [.Name "ValueError" py] X.env<|>ε) (J:starEach [.Name "ValueError" py] X.env=(false,eval (.Name "ValueError" py) X.env)::starEach [] X.env<|>ε) (L:((backTo pos<|starEach [.Name "ValueError" py] X.env).any (·.1)=false)<|>ε) :
  AE X (.Call (.Name "isinstance" p) [a,.Name "ValueError" py] [] pos) (wN (EG tb) c):=Kl (vy:=.ty "ValueError") (cy:=.type "ValueError") (Gq j U Aj rfl ⋯ ⋯) (λu r=>r) (QY h) Z hi hg he J L
end
abbrev Yr (X:Cx)(σ:L2.St)(cls:aa)(H':Hp):Prop:=∀pins s' e,Inv X pins σ H' s'->vJ X H' e cls s'->X.xe (.ref e) s'
abbrev P7 (X:Cx)(σ:L2.St)(ρ:bi)(H:Hp):Str->jL->Prop:=λc d=>∀(C:aj) (ρ':bi) (H':Hp),DZ X.K c C->Ext ρ ρ' H H'->Rel X.K ρ' H' d->Yr X σ (.ref C) H'
abbrev ZG (X:Cx)(c:Ex):TE:=λσ H Q=>∃ρ S τ,Rel X.K ρ H S/\SR X.K ρ H τ σ/\(c τ S).post (ug X ρ H Q) (P7 X σ ρ H)
abbrev Zb (X:Cx)(e:aE)(c:Ex):Prop:=PE X e<|ZG X c
abbrev Zo (X:Cx)(c:Sm):TS:=λD σ H=>∃ρ S τ,Rel X.K ρ H S/\SR X.K ρ H τ σ/\(c τ S).post (A1 X ρ H D.nx) (ug X ρ H D.rt) (A1 X ρ H D.bk) (A1 X ρ H D.ct) (P7 X σ ρ H)
abbrev WL (X:Cx)(st:aF)(c:Sm):Prop:=PS X st<|Zo X c
abbrev Cd (F:ae->jL->R A)(d:rW):Ex:=λτ S=>match d τ S with
 | .ok f S1=>F f S1
 | _=>.no
section
variable {X:Cx}{pos p:Pos}{e:aE}{es:List aE}{x:Str}{ps:ba}{k:Nat}{F:ae->jL->R A}{d:rW}
def Eg(G:D4 X.prog X.w X.K X.mg X.base k x ps F)(hr:Room k X.A)(ha:AL X (e::es) d)(hl:∀τ S as S',d τ S=.ok as S'->as.length=ps.length)(hg:Gl X x<|>ε)(hdb:(x == ("__debug__" : Str))=false<|>δ)
  (hs:starEach (e::es) X.env=(false,eval e X.env)::starEach es X.env<|>ε) (hplain:((backTo pos<|starEach es X.env).any (·.1)=false)<|>ε):Zb X (.Call (.Name x p) (e::es) [] pos) (Cd F d):=by
 obtain⟨f,fd,Fo,Y,hk,N⟩:=G;intro pins s σ H Q I ⟨ρ,S,τ,R,r,h⟩;unfold Cd at h
 cases hd:d τ S with
 | no=>rw[hd]at h;exact h.elim
 | ex c S1=>rw[hd]at h;exact h.elim
 | ok as S1=>
  rw[hd]at h;have h:(F as S1).post (ug X ρ H Q) (P7 X σ ρ H):=h;refine gB<|wg I hg Y ?_ hdb;refine PySem.W.callWith_K (h₀:=X.base) I.ok.mod.kin hk (l_ (ha pos pins s σ H (λvs H1=>Jg X.K ps.length F vs H1 Q λcls _ H'=>Yr X σ cls H') I ⟨ρ,S,τ,R,r,?_⟩) λus T ⟨vs,H1,I1,V,q⟩=>⟨I1.zu,?_⟩) hs hplain
  ·rw[hd];intro ρ1 H1 vs e1 R1 U;exact⟨by rw[<- U.length];exact hl τ S as S1 hd,ρ1,S1,as,R1,U,nR h (λa S2 q j H2 v e2=>q j H2 v<|e1.trans e2) λc S2 q C j H2 n e2=>q C j H2 n<|e1.trans e2⟩
  ·have L:us.length=ps.length:=by rw[<- V.length];exact q.1
   refine iV (eW (Fo.run X.A X.stack T H1 ⟨us,[]⟩ us vs Q (λcls _ H'=>Yr X σ cls H') hr I1.WA (by have:=N T us I1.zu (by rw[bS];exact L);rwa [bS]at this) V q) λr s' J=>?_)
   cases r with
   | error ev=>
    obtain⟨ea,cls,H',he,os,m,un,P,⟨B,a0,Fl,c1,c2,_,k0⟩,hE⟩:=J;subst he;obtain⟨Z,g,dd,t,O⟩:=s';obtain rfl:O=T.os:=os;refine hE pins _ ea (I1.call (h':=Z) (g':=g) (d':=dd) (t':=t) (ch:=[]) un P m λb z=>absurd z<|by simp) (.inr<|.inl ⟨B,a0,Fl,c1,λb o q N hx=>?_,λp hp=>?_,k0⟩)
    ·obtain⟨o',q'⟩:=I1.base.there b o q hx;exact c2 b o' q' N (by simp)
    ·obtain⟨q,_,n1,n2,_⟩:=I1.pin p<|cC _ hp;exact c2 p.1 _ q (λz=>(bf.mp<|I1.vA _ z).elim n1 n2)<|by simp
   | ok fl=>
    cases fl with
    | ret u=>exact I1.after J
    | next=>exact J.elim
    | brk=>exact J.elim
    | cont=>exact J.elim
abbrev CJ (t:Te)(c d:Sm):Sm:=λτ S=>match t τ S with
 | .ok true S1=>c τ S1
 | .ok false S1=>d τ S1
 | _=>.no
def P7.ext{H H':Hp}(h:P7 X σ ρ H c S)(e:Ext ρ ρ' H H'):P7 X σ ρ' H' c S:=λC d H2 n e2=>h C d H2 n<|e.trans e2
def JT{t:Te}{j J:aF}{c d:Sm}(L:AT X e t)(U:WL X j c)(hb:WL X J d):WL X (.If e [j] [J] pos) (CJ t c d):=PS.imp (QF L (yF U)<|yF hb) λD σ H h9=>by
 z_go;refine⟨ρ,S,τ,R,r,?_⟩;unfold CJ at h
 cases hc:t τ S with
 | no=>rw[hc]at h;exact h.elim
 | ex _ _=>rw[hc]at h;exact h.elim
 | ok b S1=>
  rw[hc]at h;intro ρ1 H1 e1 R1
  cases b with
  | true=>rw[aQ rfl];exact⟨ρ1,S1,τ,R1,r.ext e1,RS.mono h (λ_ _ z=>z.ext e1) (λ_ _ z=>z.ext e1) (λ_ _ z=>z.ext e1) (λ_ _ z=>z.ext e1) λ_ _ z=>z.ext e1⟩
  | false=>rw[aO bh];exact⟨ρ1,S1,τ,R1,r.ext e1,RS.mono h (λ_ _ z=>z.ext e1) (λ_ _ z=>z.ext e1) (λ_ _ z=>z.ext e1) (λ_ _ z=>z.ext e1) λ_ _ z=>z.ext e1⟩
def BQ{i:Nat}{f:Ex}(j:X.N.Nodup)(J:Zb X e f)(hi:X.N[i]?=some y<|>ε)(L:Loc X.env.scope y:=by first|exact Or.inl rfl|exact Or.inr rfl)(hs:(swapsWith e (some<|.Name y pos') pos.line X.env=pure false)<|>ε)(hf:X.fn y=true\/X.env.scope.names.lookup y=some .local<|>γ) :
  WL X (.Assign [.Name y pos'] e pos) (kC f<|kB i):=PS.imp (JY j hi L J hs hf) λD σ H ⟨ρ,S,τ,R,r,h⟩=>
 ⟨ρ,S,τ,R,r,nR (of_post h) (λa S1 h1 ρ1 H1 x e1 R1 d=>h1 ρ1 H1 _ e1 R1<|(r.ext e1).set d) λ_ _ z=>z⟩
end
abbrev yk (i:Nat)(cs:ba)(c d:Sm):Sm:=λτ S=>match c τ S with
 | .ex x S1=>if x∈cs then NH i (d (τ.set i<|.exn x) S1)else .no
 | r=>r
section
variable {X:Cx}{pos np hp:Pos}{y n:Str}{Dc:aj}{i:Nat}{suite:List aF}{b b0:aF}{c d:Sm}{cs:ba}
def Om(hb:∀pn' xe',WL (X.sW pn' xe') b c)(hh:∀pn' e oe C,XO C oe->LW (X.hand pn' e oe) (b0::suite) d)(hN:X.N.Nodup)(hD:DZ X.K y Dc)(mD:L2.mroIn X.K Dc=some Uz)(hcs:∀x∈cs,∃C,DZ X.K x C/\L2.mroIn X.K C=some (.ref Dc::Uz))
  (hi:X.N[i]?=some n<|>ε) (hlo:X.env.scope.names.lookup n=some .local<|>ε) (hst:X.stack=X.env::X.outer<|>ε) (hf:X.env.frame=some X.env.locals<|>ε) (hex:X.ex=[]<|>ε) (hg:Gl X y<|>ε) (hdb:(y == ("__debug__" : Str))=false<|>δ) :
  AS X (.Try [b] [.ExceptHandler (some<|.Name y np) (some n) (b0::suite) hp] [] [] pos) (yk i cs c d):=by
 intro pins s σ H D I ⟨ρ,S,τ,R,r,h⟩;refine wpAny_Try_except ?_;have h:z8 X ρ H D (yk i cs c d τ S):=h;unfold yk at h;have O:∀xe',(∀x S1,c τ S=.ex x S1->P7 (X.sW (X.pn++pins) xe') σ ρ H x S1)->(c τ S).post (A1 (X.sW (X.pn++pins) xe') ρ H D.nx) (ug (X.sW (X.pn++pins) xe') ρ H D.rt) (A1 (X.sW (X.pn++pins) xe') ρ H D.bk) (A1 (X.sW (X.pn++pins) xe') ρ H D.ct) (P7 (X.sW (X.pn++pins) xe') σ ρ H):=λxe' F=>by
  cases hc:c τ S with
  | nx j m=>rw[hc]at h;exact h
  | rt a m=>rw[hc]at h;exact h
  | bk j m=>rw[hc]at h;exact h
  | ct j m=>rw[hc]at h;exact h
  | no=>rw[hc]at h;exact h
  | ex x S1=>exact F x S1 hc
 refine cS (yF (hb (X.pn++pins) _) [] s σ H D (I.sW _) ⟨ρ,S,τ,R,r,O _ λx S1 hc C ρ1 H1 hn e1 R1=>?_⟩) (λf s1 hs=>?_) λe s1 z=>z
 ·intro pins' s' e Z k;rw[hc]at h;have h:z8 X ρ H D (if x∈cs then NH i (d (τ.set i<|.exn x) S1)else .no):=h;by_cases F:x∈cs
  ·rw[aQ F]at h;obtain⟨P,G,mC⟩:=hcs x F;have:P=C:=by
    have z:=G.symm.trans hn
    injection z with z
    injection z with z
    injection z
   subst this;have V:X.mg y=some (.ref Dc):=cu I.mod.kin I.mod.glob hD;refine L8 hst hf hex hN hi hlo hg V mD ⋯ Z k mC (by simp) (λoe s6 T L Y=>?_) I.ok hdb;obtain⟨ex,Rn⟩:=R1.im (u:=.frz oe xu) L;have e2:=e1.trans ex;refine hh (X.pn++pins) e oe P T [] s6 _ _ (Yh i D) Y ⟨ρ1,S1,τ.set i<|.exn x,Rn,SR.set (r.ext e2)<|.exn G kJ T,?_⟩
   cases hd:d (τ.set i<|.exn x) S1 with
   | nx j m=>rw[hd]at h;exact λρ' H' g p k B=>h ρ' H' _ (e2.trans p) k B.unset
   | bk j m=>rw[hd]at h;exact λρ' H' g p k B=>h ρ' H' _ (e2.trans p) k B.unset
   | ct j m=>rw[hd]at h;exact λρ' H' g p k B=>h ρ' H' _ (e2.trans p) k B.unset
   | rt a m=>rw[hd]at h;exact λρ' H' v p k B=>h ρ' H' v (e2.trans p) k B
   | ex _ _=>rw[hd]at h;exact h.elim
   | no=>rw[hd]at h;exact h.elim
  ·rw[aO F]at h;exact h.elim
 ·cases f with
  | next=>obtain⟨g,H',J,q⟩:=hs;exact gz ⟨g,H',J.AB,q⟩
  | brk=>obtain⟨g,H',J,q⟩:=hs;exact⟨g,H',J.AB,q⟩
  | cont=>obtain⟨g,H',J,q⟩:=hs;exact⟨g,H',J.AB,q⟩
  | ret u=>obtain⟨v,g,H',J,U,q⟩:=hs;exact⟨v,g,H',J.AB,U,q⟩
end
abbrev Xb:Sm:=λ_ _=>.no
def P1{st:aF}:AS X st Xb:=PS.imp KP λD σ H ⟨ρ,S,τ,R,r,h⟩=>h.elim
def Ij{K:au}{H:Hp}{a:aj}{ns:ag}{F:ae->jL->R A}(j:NP H)(J:nh K H a<|ns.map V.int)(h:∃S',F [.frz<|ns.map .int] []=.ok (.bl true) S'):vN K 1 F [.ref a] H (λv _=>v=.bl true) λ_ _ _=>False:=by
 obtain⟨S',h⟩:=h;have fz:Fz K H a (ns.map V.int):=by
  rcases J with(h|⟨o,h⟩)|h
  ·rcases j a with z|⟨d,xs,z⟩
   ·rw[h]at z;cases z
   ·rw[h]at z;cases z
  ·exact .inl ⟨o,h⟩
  ·exact .inr h
 exact⟨rfl,[],[],_,_,S',⟨rfl,jx,λn a o h=>by simp at h⟩,.cons (.frz fz<|uS ns) .nil,h,λρ' H' v _ _ hv=>A8 hv⟩
def Af{P:be->Prop}(h:∀a0,P [a0]):∀us:be,us.length=1->P us
 | [_],_=>h _
def Oo{P:be->Prop}(h:∀a0 a1,P [a0,a1]):∀us:be,us.length=2->P us
 | [_,_],_=>h _ _
def TQ{n:Nat}{us:be}(h:us.length=n+1):∃a t,us=a::t/\t.length=n:=by
 cases us with
 | nil=>simp at h
 | cons a t=>exact⟨a,t,rfl,by simpa using h⟩
def ZC{P:be->Prop}(h:∀a0 a1 a2,P [a0,a1,a2]):∀us:be,us.length=3->P us:=λus e=>by
 obtain⟨a0,d,rfl,e0⟩:=TQ e;obtain⟨a1,f,rfl,e1⟩:=TQ e0;obtain⟨a2,g,rfl,e2⟩:=TQ e1
 cases cH.mp e2
 exact h _ _ _
end Am
namespace Am
open PySem L2
section
variable {α β:Type}{a b:A}{S S1:jL}{τ:ae}{x:α}
@[simp]def R.kO {f:α->jL->R β}:(R.ok x S).bind f=f x S:=rfl
@[simp]def R.HN {f:α->jL->R β}{c:Str}:(R.ex c S:R α).bind f=.ex c S:=rfl
@[simp]def R.kY {f:α->jL->R β}:(R.ok x S).pR f=f x S:=rfl
@[simp]def RS.of_ok {f:α->jL->RS}:RS.of (R.ok x S) f=f x S:=rfl
@[simp]def RS.QD {f:α->jL->RS}{c:Str}:RS.of (R.ex c S:R α) f=.ex c S:=rfl
@[simp]def kD {f:β->R α}{y:β}:opt (some y) f=f y:=rfl
@[simp]def F3 {r:R α}:gd True r=r:=aQ trivial
theorem j9{c:Prop}[Decidable c]{r:R α}(h:c):gd c r=r:=aQ h
@[simp]def pX {i:Nat}:jE i τ S=bif (τ.getD i .unb).oS then .no else .ok (τ.getD i .unb) S:=by unfold jE;cases(τ.getD i .unb).oS<;>rfl
@[simp]def GV {xs:ae}:A.oS (.tup xs)=false:=rfl
@[simp]def F4 {xs:ae}:A.oS (.frz xs)=false:=rfl
@[simp]def HZ {i:Int}:A.oS (.int i)=false:=rfl
@[simp]def ME {i:Bool}:A.oS (.bl i)=false:=rfl
@[simp]def GU {i:Str}:A.oS (.str i)=false:=rfl
@[simp]def GF {i:Nat}:A.oS (.ref i)=false:=rfl
@[simp]def G2:A.oS .non=false:=rfl
@[simp]def Ht {i j:Int}:A.oS (.rng i j)=false:=rfl
@[simp]def Gm {c:Str}:A.oS (.exn c)=false:=rfl
@[simp]def Ql:eC a τ S=.ok a S:=rfl
abbrev Wc (f:A->A->jL->R A)(j:Ex)(τ:ae)(a:A)(S:jL):R A:=(j τ S).bind<|f a
@[simp]def GJ {f:A->A->jL->R A}{j:Ex}:Wc f j τ a S=(j τ S).bind (f a):=rfl
@[simp]def Ge {f:A->A->jL->R A}{ca j:Ex}:jJ f ca j τ S=(ca τ S).bind (Wc f j τ):=rfl
@[simp]def M8 {f:A->jL->R A}{ca:Ex}:Cr f ca τ S=(ca τ S).bind f:=rfl
@[simp]def FI {c:Ex}:nY c τ S=(c τ S).bind λa S1=>opt (a.Qi S1) λb=>.ok b S1:=rfl
abbrev aB (a:A)(S:jL):R Bool:=match a with
 | .bl b=>.ok b S
 | _=>.no
@[simp]def Qd {b:Bool}:aB (.bl b) S=.ok b S:=rfl
@[simp]def MJ {c:Ex}:oH c τ S=(c τ S).bind aB:=rfl
@[simp]def Fx {c:Te}:qv c τ S=(c τ S).bind λb S1=>.ok (!b) S1:=rfl
abbrev T7 (d:Te)(τ:ae)(b:Bool)(S:jL):R Bool:=match b with|true=>d τ S|false=>.ok false S
abbrev XY (d:Te)(τ:ae)(b:Bool)(S:jL):R Bool:=match b with|true=>.ok true S|false=>d τ S
@[simp]def J6 {d:Te}:T7 d τ true S=d τ S:=rfl
@[simp]def Ka {d:Te}:T7 d τ false S=.ok false S:=rfl
@[simp]def Qn {d:Te}:XY d τ true S=.ok true S:=rfl
@[simp]def PZ {d:Te}:XY d τ false S=d τ S:=rfl
@[simp]def Fq {c d:Te}:Aq c d τ S=(c τ S).bind (T7 d τ):=rfl
@[simp]def JG {c d:Te}:zC c d τ S=(c τ S).bind (XY d τ):=rfl
@[simp]def Gb:kR τ S=.ok true S:=rfl
abbrev JD (d:Ex)(τ:ae)(a:A)(S:jL):R A:=match a with | .bl true=>d τ S | .bl false=>.ok (.bl false) S|_=>.no
abbrev UG (d:Ex)(τ:ae)(a:A)(S:jL):R A:=match a with | .bl true=>.ok (.bl true) S | .bl false=>d τ S|_=>.no
@[simp]def GX {d:Ex}:JD d τ (.bl true) S=d τ S:=rfl
@[simp]def G0 {d:Ex}:JD d τ (.bl false) S=.ok (.bl false) S:=rfl
@[simp]def Mr {d:Ex}:UG d τ (.bl true) S=.ok (.bl true) S:=rfl
@[simp]def MM {d:Ex}:UG d τ (.bl false) S=d τ S:=rfl
@[simp]def GW {c d:Ex}:zw c d τ S=(c τ S).bind (JD d τ):=by
 unfold zw
 cases c τ S with
 | ok a S1=>cases a<;>first|rfl|(rename_i b;cases b<;>rfl)
 | _=>rfl
@[simp]def Ly {c d:Ex}:YN c d τ S=(c τ S).bind (UG d τ):=by
 unfold YN
 cases c τ S with
 | ok a S1=>cases a<;>first|rfl|(rename_i b;cases b<;>rfl)
 | _=>rfl
abbrev Qm (a:A)(S:jL):R A:=match a with | .bl b=>.ok (.bl !b) S|_=>.no
@[simp]def CQ {b:Bool}:Qm (.bl b) S=.ok (.bl !b) S:=rfl
@[simp]def HD {c:Ex}:PK c τ S=(c τ S).bind Qm:=rfl
abbrev Rz (c d:Ex)(τ:ae)(b:Bool)(S:jL):R A:=match b with|true=>c τ S|false=>d τ S
@[simp]def Lg {c d:Ex}:Rz c d τ true S=c τ S:=rfl
@[simp]def Kv {c d:Ex}:Rz c d τ false S=d τ S:=rfl
@[simp]def Lo {t:Te}{c d:Ex}:z_ t c d τ S=(t τ S).bind (Rz c d τ):=rfl
@[simp]def FZ:jK τ S=.ok [] S:=rfl
abbrev ES (a:A)(j:ae)(S:jL):R (ae):=.ok (a::j) S
abbrev P6 (d:rW)(τ:ae)(a:A)(S:jL):R (ae):=(d τ S).bind<|ES a
@[simp]def A4 {j:ae}:ES a j S=.ok (a::j) S:=rfl
@[simp]def DF {d:rW}:P6 d τ a S=(d τ S).bind (ES a):=rfl
@[simp]def DK {c:Ex}{d:rW}:jC c d τ S=(c τ S).bind (P6 d τ):=rfl
@[simp]def Fb {d:rW}:yE d τ S=(d τ S).bind λas S1=>gd (as.length<=sizeLine) (.ok (.tup as) S1):=rfl
@[simp]def Gp {d:rW}:oQ d τ S=(d τ S).bind newL:=rfl
theorem lg{j:ae}(h:j.length<=16777216):newL j S=.ok (.ref S.length) (S++[.lst j]):=j9<|by rw[bB];exact h
@[simp]def Dr {f:ae->jL->R A}{d:rW}:jV f d τ S=(d τ S).bind f:=rfl
abbrev Xq (r:R A):R A:=match r with
 | .ok a S=>.ok a S
 | _=>.no
@[simp]def M6:Xq (.ok a S)=.ok a S:=rfl
abbrev Ze (f:ae->jL->R A)(j:ae)(S:jL):R A:=Xq<|f j S
@[simp]def KY {f:ae->jL->R A}{j:ae}:Ze f j S=Xq (f j S):=rfl
@[simp]def Me {f:ae->jL->R A}{d:rW}:eFn f d τ S=(d τ S).bind (Ze f):=rfl
@[simp]def QZ {g:A->jL->R A}:f1 g [a] S=g a S:=rfl
@[simp]def QH {g:A->A->jL->R A}:f2 g [a,b] S=g a b S:=rfl
abbrev Sn (h:Pt)(τ:ae)(a:A)(l:bo)(S:jL):R A:=(h τ S).bind<|Vl a l
abbrev YZ (l h:Pt)(τ:ae)(a:A)(S:jL):R A:=(l τ S).bind<|Sn h τ a
@[simp]def HF {h:Pt}{l:bo}:Sn h τ a l S=(h τ S).bind (Vl a l):=rfl
@[simp]def LZ {l h:Pt}:YZ l h τ a S=(l τ S).bind (Sn h τ a):=rfl
@[simp]def Jx {c:Ex}{l h:Pt}:W8 c l h τ S=(c τ S).bind (YZ l h τ):=rfl
@[simp]def Dt:lP τ S=.ok none S:=rfl
abbrev YQ (a:A)(S:jL):R (bo):=match a with
 | .int i=>.ok (some i) S
 | _=>.no
@[simp]def Fd {i:Int}:YQ (.int i) S=.ok (some i) S:=rfl
@[simp]def Dq {c:Ex}:kP c τ S=(c τ S).bind YQ:=rfl
abbrev Ug (f:A->ae->jL->R A)(d:rW)(τ:ae)(o:A)(S:jL)(_:ae):R A:=(d τ S).bind<|f o
abbrev Y4 (f:A->ae->jL->R A)(d:rW)(τ:ae)(o:A)(S:jL):R A:=opt (o.lst? S)<|Ug f d τ o S
@[simp]def Ff {f:A->ae->jL->R A}{d:rW}{xs:ae}:Ug f d τ a S xs=(d τ S).bind (f a):=rfl
@[simp]def Jt {f:A->ae->jL->R A}{d:rW}:Y4 f d τ a S=opt (a.lst? S) (Ug f d τ a S):=rfl
@[simp]def Nh {f:A->ae->jL->R A}{c:Ex}{d:rW}:Wn f c d τ S=(c τ S).bind (Y4 f d τ):=rfl
@[simp]def HV {f:A->ae->jL->R A}{c:Ex}:X8 f c τ S=(c τ S).bind λo S1=>opt (o.lst? S1) λ_=>f o [] S1:=rfl
@[simp]def lst?_ref {n:Nat}:A.lst? S (.ref n)=jF S n:=rfl
abbrev RS.seq (r:RS)(d:Sm):RS:=match r with
 | .nx τ S=>d τ S
 | r=>r
@[simp]def RS.Jy {d:Sm}:RS.seq (.nx τ S) d=d τ S:=rfl
@[simp]def RS.JK {d:Sm}:RS.seq (.rt a S) d=.rt a S:=rfl
@[simp]def RS.MD {d:Sm}{c:Str}:RS.seq (.ex c S) d=.ex c S:=rfl
@[simp]def RS.Jq {d:Sm}:RS.seq (.bk τ S) d=.bk τ S:=rfl
@[simp]def RS.LQ {d:Sm}:RS.seq (.ct τ S) d=.ct τ S:=rfl
@[simp]def GI {c d:Sm}:j6 c d τ S=RS.seq (c τ S) d:=by unfold j6 RS.seq;cases c τ S<;>rfl
@[simp]def HX:ny τ S=.nx τ S:=rfl
@[simp]def Bg:Ri τ S=.bk τ S:=rfl
@[simp]def CM:VA τ S=.ct τ S:=rfl
@[simp]def CS {e:Ex}:DU e τ S=RS.of (e τ S) λ_ S1=>.nx τ S1:=rfl
@[simp]def Hx {e:Ex}:kL e τ S=RS.of (e τ S) .rt:=rfl
@[simp]def CW:U0 τ S=.rt .non S:=rfl
abbrev WV (c d:Sm)(τ:ae)(b:Bool)(S:jL):RS:=match b with|true=>c τ S|false=>d τ S
@[simp]def P0 {c d:Sm}:WV c d τ true S=c τ S:=rfl
@[simp]def PY {c d:Sm}:WV c d τ false S=d τ S:=rfl
@[simp]def MO {t:Te}{c d:Sm}:tN t c d τ S=RS.of (t τ S) (WV c d τ):=rfl
abbrev VV (g:Tg)(τ:ae)(a:A)(S:jL):RS:=RS.of (g a τ S) .nx
@[simp]def FW {g:Tg}:VV g τ a S=RS.of (g a τ S) .nx:=rfl
@[simp]def G4 {e:Ex}{g:Tg}:kC e g τ S=RS.of (e τ S) (VV g τ):=rfl
@[simp]def XQ {i:Nat}:kB i a τ S=.ok (τ.set i a) S:=rfl
abbrev Ru (a o:A)(τ:ae)(i:A)(S:jL):R (ae):=(B_ o i a S).bind λ_ d=>.ok τ d
abbrev Y5 (j:Ex)(τ:ae)(a o:A)(S:jL):R (ae):=(j τ S).bind<|Ru a o τ
@[simp]def HB {o i:A}:Ru a o τ i S=(B_ o i a S).bind λ_ S3=>.ok τ S3:=rfl
@[simp]def MN {j:Ex}{o:A}:Y5 j τ a o S=(j τ S).bind (Ru a o τ):=rfl
@[simp]def JI {co j:Ex}:Sv co j a τ S=(co τ S).bind (Y5 j τ a):=rfl
@[simp]def M5 {n:Nat}{gs:Nz}{xs:ae}:Bj n gs (.tup xs) τ S=gd (xs.length=n) (gs xs τ S):=rfl
@[simp]def JP:A9 [] τ S=.ok τ S:=rfl
@[simp]def Kr {g:Tg}{gs:Nz}{j:ae}:su g gs (a::j) τ S=(g a τ S).bind (gs j):=rfl
abbrev YL (i j:Nat)(τ:ae)(J:ae)(S:jL):RS:=match J with
 | [a,b]=>.nx ((τ.set i a).set j b) S
 | _=>.no
@[simp]def Mk {i j:Nat}:YL i j τ [a,b] S=.nx ((τ.set i a).set j b) S:=rfl
@[simp]def Fy {i j:Nat}{c:rW}:XW i j c τ S=RS.of (c τ S) (YL i j τ):=rfl
abbrev Nl (i:Nat)(τ:ae)(c:A)(S:jL):RS:=.nx (τ.set i c) S
abbrev VU (i:Nat)(f:A->A->jL->R A)(τ:ae)(b:A)(S:jL):RS:=.of (f (τ.getD i .unb) b S)<|Nl i τ
@[simp]def CT {i:Nat}:Nl i τ a S=.nx (τ.set i a) S:=rfl
@[simp]def Gr {i:Nat}{f:A->A->jL->R A}:VU i f τ a S=.of (f (τ.getD i .unb) a S) (Nl i τ):=rfl
@[simp]def FD {i:Nat}{f:A->A->jL->R A}{e:Ex}:Kh i f e τ S=bif (τ.getD i .unb).oS then .no else .of (e τ S) (VU i f τ):=by
 unfold Kh;cases(τ.getD i .unb).oS<;>rfl
abbrev XD (o i:A)(τ:ae)(z:A)(S:jL):RS:=.of (B_ o i z S) λ_ d=>.nx τ d
abbrev X7 (f:A->A->jL->R A)(o i x:A)(τ:ae)(y:A)(S:jL):RS:=.of (f x y S)<|XD o i τ
abbrev Ye (j:Ex)(f:A->A->jL->R A)(o i:A)(τ:ae)(x:A)(S:jL):RS:=.of (j τ S)<|X7 f o i x τ
abbrev Xk (j:Ex)(f:A->A->jL->R A)(o:A)(τ:ae)(i:A)(S:jL):RS:=.of (Ob o i S)<|Ye j f o i τ
abbrev YS (j J:Ex)(f:A->A->jL->R A)(τ:ae)(o:A)(S:jL):RS:=.of (j τ S)<|Xk J f o τ
@[simp]def JA {o i:A}:XD o i τ a S=.of (B_ o i a S) λ_ S6=>.nx τ S6:=rfl
@[simp]def MK {f:A->A->jL->R A}{o i x:A}:X7 f o i x τ a S=.of (f x a S) (XD o i τ):=rfl
@[simp]def J0 {j:Ex}{f:A->A->jL->R A}{o i:A}:Ye j f o i τ a S=.of (j τ S) (X7 f o i a τ):=rfl
@[simp]def Ks {j:Ex}{f:A->A->jL->R A}{o:A}:Xk j f o τ a S=.of (Ob o a S) (Ye j f o a τ):=rfl
@[simp]def Lb {j J:Ex}{f:A->A->jL->R A}:YS j J f τ a S=.of (j τ S) (Xk J f a τ):=rfl
@[simp]def Dj {co j J:Ex}{f:A->A->jL->R A}:Vo co j J f τ S=RS.of (co τ S) (YS j J f τ):=rfl
abbrev RS.end (r:RS):R A:=match r with
 | .rt a d=>.ok a d
 | .nx _ d=>.ok .non d
 | .ex c d=>.ex c d
 | _=>.no
@[simp]def RS.MT:RS.end (.rt a S)=.ok a S:=rfl
@[simp]def RS.Jr:RS.end (.nx τ S)=.ok .non S:=rfl
@[simp]def RS.MR {c:Str}:RS.end (.ex c S)=.ex c S:=rfl
theorem yG {N:ba}{m:Sm}{j:ae}:mP N m j S=RS.end (m (j++List.replicate (N.length-j.length) .unb) S):=by
 unfold mP RS.end;cases m (j++List.replicate (N.length-j.length) .unb) S<;>rfl
@[simp]def My {i j:Int}:kq (.int i) (.int j) S=.ok (.int<|i+j) S:=rfl
@[simp]def Nt {i j:Int}:aSub (.int i) (.int j) S=.ok (.int<|i-j) S:=rfl
@[simp]def Mj {i j:Int}:XJ (.int i) (.int j) S=.ok (.int<|i+j) S:=rfl
theorem C9{i j:Int}(h:-18446744073709551616<i)(h':i<18446744073709551616):oR (.int i) (.int j) S=.ok (.int<|i * j) S:=j9<|by unfold Dw;simp;left;exact⟨by omega,by omega⟩
def mul_r{i j:Int}(h:-18446744073709551616<j)(h':j<18446744073709551616):oR (.int i) (.int j) S=.ok (.int<|i * j) S:=j9<|by unfold Dw;simp;right;exact⟨(),()⟩
def A6{i j:Int}(h:0<j):yr (.int i) (.int j) S=.ok (.int<|i % j) S:=j9 h
@[simp]def PM {i j:Int}:Aw (.int i) (.int j) S=.ok (.bl<|decide<|i<j) S:=rfl
@[simp]def PL {i j:Int}:Ay (.int i) (.int j) S=.ok (.bl<|decide<|i<=j) S:=rfl
@[simp]def P9 {i j:Int}:Dy (.int i) (.int j) S=.ok (.bl<|decide<|j<i) S:=rfl
@[simp]def QU {i j:Int}:Wq (.int i) (.int j) S=.ok (.bl<|decide<|j<=i) S:=rfl
@[simp]def Qu {i j:Bool}:Aa false (.bl i) (.bl j) S=.ok (.bl<|i == j) S:=rfl
@[simp]def Jl {i j:Bool}:Aa true (.bl i) (.bl j) S=.ok (.bl<|i != j) S:=rfl
@[simp]def Mu {i:Int}:sU (.int i) S=.ok (.int<|-i) S:=rfl
@[simp]def JN {xs:ae}:mw (.tup xs) S=.ok (.int xs.length) S:=rfl
@[simp]def Jp {xs:ae}:mw (.frz xs) S=.ok (.int xs.length) S:=rfl
@[simp]def KU {n:Nat}:mw (.ref n) S=opt (jF S n) λxs=>.ok (.int xs.length) S:=rfl
@[simp]def Ms {i:Int}:Ih (.int i) S=.ok (.int<|if i<0 then -i else i) S:=rfl
@[simp]def Ft {i j:Int}:Lf (.int i) (.int j) S=.ok (.int<|if j>i then j else i) S:=rfl
@[simp]def Gw {i j:Int}:LB (.int i) (.int j) S=.ok (.int<|if j<i then j else i) S:=rfl
@[simp]def Ho {i:Int}:mG (.int i) S=.ok (.int i) S:=rfl
@[simp]def GS {i:Bool}:mG (.bl i) S=.ok (.int<|if i then 1 else 0) S:=rfl
@[simp]def AX {i j:Int}:u5 (.int i) (.int j) S=.ok (.rng i j) S:=rfl
@[simp]def QA {xs:ae}{i:Int}:oJ (.tup xs) (.int i) S=opt (qE xs i) λx=>.ok x S:=rfl
@[simp]def Qk {xs:ae}{i:Int}:oJ (.frz xs) (.int i) S=opt (qE xs i) λx=>.ok x S:=rfl
@[simp]def Q4 {n:Nat}{i:Int}:oJ (.ref n) (.int i) S=opt (jF S n) λxs=>opt (qE xs i) λx=>.ok x S:=rfl
@[simp]def LY {n:Nat}{k:Int}:B_ (.ref n) (.int k) a S=opt (jF S n) λxs=>opt (z9 xs.length k) λj=>.ok Unit.unit (S.set n<|.lst<|xs.set j a):=rfl
@[simp]def KD {n:Nat}{i:Int}:Ob (.ref n) (.int i) S=opt (jF S n) λxs=>gd (0<=i) (opt (xs[i.toNat]?) λx=>.ok x S):=rfl
theorem se{i j:Int}(h:Bl i j):wD (.rng i j) S=.ok (.ref S.length) (S++[.lst<|(lE i j).map .int]):=j9 h
@[simp]def HM {xs:ae}:wD (.tup xs) S=.ok (.ref S.length) (S++[.lst xs]):=rfl
@[simp]def FN {xs:ae}:wD (.frz xs) S=.ok (.ref S.length) (S++[.lst xs]):=rfl
@[simp]def Fv {n:Nat}:wD (.ref n) S=opt (jF S n) λxs=>.ok (.ref S.length) (S++[.lst xs]):=rfl
@[simp]def Du {xs:ae}:qj (.tup xs) S=.ok (.tup xs) S:=rfl
@[simp]def CL {n:Nat}:qj (.ref n) S=opt (jF S n) λxs=>.ok (.tup xs) S:=rfl
@[simp]def Na {xs:ae}:Lk (.tup xs) S=.ok (.tup xs.reverse) S:=rfl
@[simp]def LH {n:Nat}:Lk (.ref n) S=opt (jF S n) λxs=>.ok (.ref S.length) (S++[.lst xs.reverse]):=rfl
@[simp]def QG {n:Nat}{l u:bo}:Vl (.ref n) l u S=opt (jF S n) λxs=>.ok (.ref S.length) (S++[.lst<|yt xs l u]):=rfl
@[simp]def zJ {n:Nat}:sN (.ref n) [a] S=opt (jF S n) λxs=>gd (xs.length<sizeLine) (.ok .non<|S.set n<|.lst<|xs++[a]):=rfl
@[simp]def M7 {b:Bool}:A.Qi (.bl b) S=some b:=rfl
@[simp]def FU {i:Int}:A.Qi (.int i) S=some (i != 0):=rfl
theorem Tu{o:O}:(S++[o])[S.length]?=some o:=by simp
@[simp]def jT {xs:ae}:jF (S++[.lst xs]) S.length=some xs:=wG Tu
theorem k_{o:O}{n:Nat}(h:jF S n=some xs):jF (S++[o]) n=some xs:=by
 have h':=jX h;exact wG<|by rw[bR (aZ.mp h').1];exact h'
def oV{n:Nat}(h:jF S n=some xs):n<S.length:=(aZ.mp<|jX h).1
def qI{n:Nat}(h:n<S.length):jF (S.set n<|.lst ys) n=some ys:=wG<|cM h
def om{n:Nat}(h:n≠m):jF (S.set n<|.lst ys) m=jF S m:=by unfold jF;rw[cN h]
def vK{xs:ae}{i:Int}{k:Nat}{x:A}(h:i=k)(j:xs[k]?=some x):qE xs i=some x:=by rw[h];exact Hl j
def zQ{n:Nat}{i:Int}{k:Nat}(h:i=k)(j:k<n):z9 n i=some k:=by
 subst h;unfold z9;rw[aQ (),aQ ()];simp
end
structure Kp (b:Nat->Prop)(S S':jL):Prop where
 len:S.length<=S'.length
 obj:∀(n:Nat) (o:O),¬b n->S[n]?=some o->S'[n]?=some o
meta abbrev lH:=Kp λ_=>False
def Kp.lst{b:Nat->Prop}(h:Kp b S S')(n:Nat)(xs:ae)(hb:¬b n)(e:jF S n=some xs):jF S' n=some xs:=wG<|h.obj n _ hb<|jX e
def Kp.refl{b:Nat->Prop}:Kp b S S:=⟨aP _,λ_ _ _ h=>h⟩
def Kp.trans{b:Nat->Prop}(h:Kp b S S1)(h':Kp b S1 S2):Kp b S S2:=⟨cK h.len h'.len,λn xs d e=>h'.obj n xs d<|h.obj n xs d e⟩
def MU{S:jL}{n:Nat}(e:S[n]?=some o):n<S.length:=(aZ.mp e).1
def Kp.lay{b:Nat->Prop}{o:O}(h:Kp b S S1):Kp b S (S1++[o]):=⟨cK h.len<|by simp,λn xs d e=>by
 have:=h.obj n xs d e;rw[bR<|MU this];exact this⟩
def Kp.XT{b:Nat->Prop}{S S1:jL}(h:Kp b S S1)(j:b m\/S.length<=m):Kp b S (S1.set m o):=⟨by rw[fH];exact h.len,λn xs d e=>by
 have:m≠n:=λz=>by
  subst z
  rcases j with z|z
  ·exact d z
  ·exact absurd (MU e) ()
 rw[cN this];exact h.obj n xs d e⟩
def Kp.set{b:Nat->Prop}{S S1:jL}(h:Kp b S S1)(j:b m\/S.length<=m):Kp b S (S1.set m<|.lst ys):=h.XT j
theorem wo{t:Te}{c:Sm}(Inv:ae->jL->Prop)(J:ae->jL->Nat)(j:RS->Prop)
  (h:∀τ S,Inv τ S->(∃S1,t τ S=.ok false S1/\j (.nx τ S1))\/(∃S1,t τ S=.ok true S1/\((∃τ' S',c τ S1=.nx τ' S'/\Inv τ' S'/\J τ' S'<J τ S)\/(∃a S',c τ S1=.rt a S'/\j (.rt a S'))))) :
  ∀n τ S,Inv τ S->J τ S<n->j (mT t c n τ S)
 | 0,_,_,_,hn=>absurd hn (ju _)
 | n+1,τ,S,hi,hn=>by
  unfold mT
  rcases h τ S hi with⟨S1,e,q⟩|⟨S1,e,⟨τ',S',e2,d,f⟩|⟨a,S',e2,q⟩⟩
  ·rw[e];exact q
  ·rw[e];show j (match c τ S1 with
    | .nx τ' S'=>mT t c n τ' S'
    | .ct τ' S'=>mT t c n τ' S'
    | .bk τ' S'=>.nx τ' S'
    | r=>r)
   rw[e2];exact wo Inv J j h n τ' S' d ()
  ·rw[e];show j (match c τ S1 with
    | .nx τ' S'=>mT t c n τ' S'
    | .ct τ' S'=>mT t c n τ' S'
    | .bk τ' S'=>.nx τ' S'
    | r=>r)
   rw[e2];exact q
theorem BE{s:Src}{g:Tg}{c:Sm}(Inv:Nat->ae->jL->Prop)(j:RS->Prop)
  (step:∀i τ S,i<s.k->Inv i τ S->∃x τ1 S1,s.get i S=some x/\g x τ S=.ok τ1 S1/\((∃τ' S',c τ1 S1=.nx τ' S'/\Inv (i+1) τ' S')\/(∃a S',c τ1 S1=.rt a S'/\j (.rt a S'))))
  (fin:∀τ S,Inv s.k τ S->s.fin S=true/\j (.nx τ S)):∀k i τ S,k+i=s.k->Inv i τ S->j (qD s g c k i τ S)
 | 0,i,τ,S,hk,hi=>by
  have:i=s.k:=()
  subst this;obtain⟨hf,q⟩:=fin τ S hi;unfold qD;rw[aQ hf];exact q
 | k+1,i,τ,S,hk,hi=>by
  obtain⟨x,τ1,S1,f,hg,h⟩:=step i τ S () hi;unfold qD;rw[f];show j (RS.of (g x τ S) λτ1 S1=>match c τ1 S1 with
   | .nx τ' S'=>qD s g c k (i+1) τ' S'
   | .ct τ' S'=>qD s g c k (i+1) τ' S'
   | .bk τ' S'=>.nx τ' S'
   | r=>r)
  rw[hg];show j (match c τ1 S1 with
   | .nx τ' S'=>qD s g c k (i+1) τ' S'
   | .ct τ' S'=>qD s g c k (i+1) τ' S'
   | .bk τ' S'=>.nx τ' S'
   | r=>r)
  rcases h with⟨τ',S',e,d⟩|⟨a,S',e,q⟩
  ·rw[e];exact BE Inv j step fin k (i+1) τ' S' () d
  ·rw[e];exact q
def yQ{lo hi:Int}{c:Sm}{src:Ic}{τ:ae}(hs:src τ S=.ok (oA lo hi) S1)(Inv:Nat->ae->jL->Prop)(J:RS->Prop)(h0:Inv 0 τ S1)
  (step:∀(i:Nat) τ S,(i:Int)<hi-lo->Inv i τ S->(∃τ' S',c (τ.set j<|.int<|lo+i) S=.nx τ' S'/\Inv (i+1) τ' S')\/(∃a S',c (τ.set j<|.int<|lo+i) S=.rt a S'/\J (.rt a S')))
  (fin:∀τ S,Inv (hi-lo).toNat τ S->J (.nx τ S)):J (vD src (kB j) c τ S):=by
 unfold vD;rw[hs];refine BE (s:=oA lo hi) Inv J (λi τ S d h=>?_) (λτ S h=>⟨rfl,fin τ S h⟩) _ 0 τ S1 rfl h0;have d:i<(hi-lo).toNat:=d;exact⟨.int<|lo+i,_,S,aQ d,rfl,step i τ S (by omega) h⟩
def G1{n:Nat}{xs:ae}{g:Tg}{c:Sm}{src:Ic}(hs:src τ S=.ok (lW n xs.length) S1)(Inv:Nat->ae->jL->Prop)(j:RS->Prop)(h0:Inv 0 τ S1)(J:∀i τ S,Inv i τ S->jF S n=some xs)
  (step:∀(i:Nat) x τ S,xs[i]?=some x->Inv i τ S->∃τ1 S1,g x τ S=.ok τ1 S1/\((∃τ' S',c τ1 S1=.nx τ' S'/\Inv (i+1) τ' S')\/(∃a S',c τ1 S1=.rt a S'/\j (.rt a S'))))
  (fin:∀τ S,Inv xs.length τ S->j (.nx τ S)):j (vD src g c τ S):=by
 unfold vD;rw[hs];refine BE (s:=lW n xs.length) Inv j (λi τ S d h=>?_) (λτ S h=>⟨?_,fin τ S h⟩) _ 0 τ S1 rfl h0
 ·have d:i<xs.length:=d;obtain⟨τ1,S1,e,q⟩:=step i xs[i] τ S (aH d) h;exact⟨xs[i],τ1,S1,by show(jF S n).bind _=_;rw[J i τ S h];exact aH d,e,q⟩
 ·show(match jF S n with
   | some ys=>decide (ys.length<=xs.length)
   | none=>false)=true
  rw[J _ τ S h];exact aJ<|aP _
@[simp]def uT {c:Ex}{τ:ae}{S S1:jL}{j:Int}(h:c τ S=.ok (.int j) S1)(hb:bnd j):tU c τ S=.ok (oA 0 j) S1:=by
 unfold tU;rw[h];exact j9 hb
def CV{c d:Ex}{i j:Int}(h:c τ S=.ok (.int i) S1)(h':d τ S1=.ok (.int j) S2)(hb:bnd i)(J:bnd j):uy c d τ S=.ok (oA i j) S2:=by
 unfold uy;rw[h];show(d τ S1).bind _=_;rw[h'];exact j9 ⟨hb,J⟩
def JQ{c:Ex}(h:c τ S=.ok (.tup xs) S1):mL c τ S=.ok (qM xs) S1:=by unfold mL;rw[h];rfl
def rq{c:Ex}{n:Nat}{xs:ae}(h:c τ S=.ok (.ref n) S1)(j:jF S1 n=some xs):mL c τ S=.ok (lW n xs.length) S1:=by
 unfold mL;rw[h];show opt (jF S1 n) _=_;rw[j];rfl
theorem sQ{s:Src}{g:Tg}{t:Te}{e:Ex}{P:jL->Prop}{T:ae->Prop}(it:Nat->A)(p:Nat->Bool)(f:Nat->A)
  (J:∀i S,i<s.k->P S->s.get i S=some (it i)) (L:∀S,P S->s.fin S=true)
  (step:∀i τ S,i<s.k->T τ->P S->∃τ1 S1 S2,g (it i) τ S=.ok τ1 S1/\t τ1 S1=.ok (p i) S2/\T τ1/\(p i=false->P S2)/\(p i=true->∃S3,e τ1 S2=.ok (f i) S3/\P S3)) :
  ∀k i τ S,k+i=s.k->T τ->P S->∃S',nj s g t e k i τ S=.ok (((List.range' i k).filter p).map f) S'/\P S'
 | 0,i,τ,S,hk,hT,hP=>⟨S,by unfold nj;rw[aQ<|L S hP];rfl,hP⟩
 | k+1,i,τ,S,hk,hT,hP=>by
  obtain⟨τ1,S1,S2,hg,G,d,C,B⟩:=step i τ S (by omega) hT hP;unfold nj;rw[J i S (by omega) hP,kD,hg,R.kY,G,R.kY,fO,jj]
  cases hp:p i with
  | false=>
   obtain⟨S',h1,m⟩:=sQ it p f J L step k (i+1) τ1 S2 (by omega) d<|C hp;exact⟨S',by simpa using h1,m⟩
  | true=>
   obtain⟨S3,F,j⟩:=B hp;obtain⟨S',h1,m⟩:=sQ it p f J L step k (i+1) τ1 S3 (by omega) d j;refine⟨S',?_,m⟩
   skip
   rw[F,R.kY,h1];rfl
def xj{s:Src}{src:Ic}{t:Te}{e:Ex}{S1:jL}(hs:src τ S=.ok s S1)(it:Nat->A)(p:Nat->Bool)(f:Nat->A)(J:∀i,i<s.k->s.get i S1=some (it i))(L:s.fin S1=true)
  (U:∀i,i<s.k->t (it i::mH cap τ) S1=.ok (p i) S1) (Z:∀i,i<s.k->p i=true->e (it i::mH cap τ) S1=.ok (f i) S1) (hl:s.k<=16777216) :
  kI (none::cap) src (kB 0) t e τ S=.ok (.ref S1.length) (S1++[.lst<|((List.range s.k).filter p).map f]):=by
 unfold kI;rw[hs,R.kO];obtain⟨m,h1,j⟩:=sQ (s:=s) (g:=kB 0) (t:=t) (e:=e) (P:=λS=>S=S1) (T:=λd=>∃y,d=y::mH cap τ) it p f (λi S hi h=>by subst h;exact J i hi) (λS h=>by subst h;exact L)
  (λi d S hi ⟨y,hy⟩ h=>by
   subst h hy;exact⟨it i::mH cap τ,S,S,rfl,U i hi,⟨_,rfl⟩,λ_=>rfl,λhp=>⟨S,Z i hi hp,rfl⟩⟩) s.k 0 (mH (none::cap) τ) S1 rfl ⟨_,rfl⟩ rfl
 subst j;rw[h1,R.kY,cW];refine lg ?_;rw[aK];refine cK (List.length_filter_le _ _) ?_;rw[List.length_range'];exact hl
def nW{α β:Type}(xs:List α)(p:α->Bool)(f:α->β):∀(d:α) ,(((List.range xs.length).filter λi=>p<|xs.getD i d).map λi=>f<|xs.getD i d)=(xs.filter p).map f:=by
 intro d
 induction xs with
 | nil=>rfl
 | cons x xs g=>
  rw[aR,gX,jj,jj];have e:((List.filter (λi=>p<|(x::xs).getD i d)<|List.map Nat.succ<|List.range xs.length).map λi=>f<|(x::xs).getD i d)=(xs.filter p).map f:=by
   rw[List.filter_map,bL];rw[<- g];rfl
  show List.map _ (if p x=true then _ else _)=List.map f (if p x=true then _ else _);by_cases hp:p x=true
  ·rw[aQ hp,aQ hp,bP,bP,e];rfl
  ·rw[aO hp,aO hp,e]
def LP{xs:ae}{src:Ic}{t:Te}{e:Ex}{S1:jL}(hs:src τ S=.ok (qM xs) S1)(p:A->Bool)(f:A->A)
  (j:∀x∈xs,t (x::mH cap τ) S1=.ok (p x) S1) (J:∀x∈xs,p x=true->e (x::mH cap τ) S1=.ok (f x) S1) (L:xs.length<=16777216) :
  kI (none::cap) src (kB 0) t e τ S=.ok (.ref S1.length) (S1++[.lst<|(xs.filter p).map f]):=by
 have d:∀i,i<xs.length->xs.getD i .unb∈xs:=λi hi=>by
  rw[aN,aH hi];exact cJ hi
 rw[xj hs (λi=>xs.getD i .unb) (λi=>p<|xs.getD i .unb) (λi=>f<|xs.getD i .unb) (λi hi=>by
  have hi:i<xs.length:=hi;show xs[i]?=_;rw[aN,aH hi];rfl) rfl (λi hi=>j _<|d i hi) (λi hi=>J _<|d i hi) L]
 have:=nW xs p f .unb;show R.ok _ (S1++[O.lst<|((List.range xs.length).filter _).map _])=_;rw[this]
def zP{xs:ae}{src:Ic}{e:Ex}{S1:jL}(hs:src τ S=.ok (qM xs) S1)(f:A->A)
  (j:∀x∈xs,e (x::mH cap τ) S1=.ok (f x) S1) (J:xs.length<=16777216) :
  kI (none::cap) src (kB 0) kR e τ S=.ok (.ref S1.length) (S1++[.lst<|xs.map f]):=by
 rw[LP hs (λ_=>true) f (λ_ _=>rfl) (λx d _=>j x d) J,cI.mpr λ_ _=>rfl]
def Dh{lo hi:Int}{src:Ic}{t:Te}{e:Ex}{S1:jL}(hs:src τ S=.ok (oA lo hi) S1)(p:Int->Bool)(f:Int->A)
  (j:∀k,lo<=k->k<hi->t (.int k::mH cap τ) S1=.ok (p k) S1) (J:∀k,lo<=k->k<hi->p k=true->e (.int k::mH cap τ) S1=.ok (f k) S1) (L:(hi-lo).toNat<=16777216) :
  kI (none::cap) src (kB 0) t e τ S=.ok (.ref S1.length) (S1++[.lst<|((lE lo hi).filter p).map f]):=by
 rw[xj hs (λi=>.int<|lo+i) (λi=>p<|lo+i) (λi=>f<|lo+i) (λi d=>aQ d) rfl (λi d=>j _ () (by have:i<(hi-lo).toNat:=d;lia)) (λi d=>J _ () (by have:i<(hi-lo).toNat:=d;lia)) L];unfold lE;rw[List.filter_map,bL];rfl
@[simp]def KL {cap:List<|bt}{τ:ae}:mH (none::cap) τ=.unb::mH cap τ:=rfl
@[simp]def L7 {cap:List<|bt}{τ:ae}{j:Nat}:mH (some j::cap) τ=τ.getD j .unb::mH cap τ:=rfl
@[simp]def CH {τ:ae}:mH [] τ=[]:=rfl
theorem L3{x:A}:qE (x::xs) 0=some x:=vK (k:=0) rfl rfl
def Qw{x:A}:qE (x::y::xs) 1=some y:=vK (k:=1) rfl rfl
def yU{ns:ag}{i:Int}{k:Nat}{x:Int}(h:i=k)(j:ns[k]?=some x):qE (ns.map A.int) i=some (.int x):=vK h<|by rw[bu,j];rfl
def p6{j:Int}(h:-4611686018427387904<=j)(h':j<4611686018427387904):bnd j:=⟨(),()⟩
def uF{i j:Int}(h1:-1000000<=i)(J:i<=1000000)(L:-1000000<=j)(U:j<=1000000)(Z:j-i<=1000):Bl i j:=⟨⟨(),(),(),()⟩,()⟩
theorem ints_map:∀(ns:ag),A.ints (ns.map .int)=some ns
 | []=>rfl
 | n::ns=>by show(A.ints<|ns.map .int).map (n::·)=_;rw[ints_map ns];rfl
def IA(xs:ae)(j:Nat)(h:j<xs.length):yt xs none (some (j:Int))=xs.take j:=by
 unfold yt;rw[HT.HY,HT.CO,dY,iL (),iU]
def Ik(xs:ae)(j:Nat)(h:j<xs.length):yt xs (some<|(j:Int)+1) none=xs.drop (j+1):=by
 unfold yt;rw[show((j:Int)+1)=((j+1:Nat):Int)by lia,HT.HY,HT.CO,iL ()];exact cX<|by rw[cE];exact aP _
theorem u7{n:Nat}:∀(xs ys:ag),yi (wU S<|n+1) (xs.map .int) (ys.map .int)=some (decide<|xs=ys)
 | [],[]=>rfl
 | [],_::_=>rfl
 | _::_,[]=>rfl
 | x::xs,y::ys=>by
  skip
  skip
  show Option.map _ (yi (wU S<|n+1) (xs.map .int)<|ys.map .int)=_;rw[u7 xs ys]
  skip
  by_cases h1:x=y<;>by_cases d:xs=ys<;>simp[h1,d]
@[simp]def Qq {S:jL}{x y:Bool}:mJ false (.bl x) (.bl y) S=.ok (.bl<|x == y) S:=rfl
@[simp]def Qs {S:jL}{x y:Bool}:mJ true (.bl x) (.bl y) S=.ok (.bl<|!(x == y)) S:=rfl
@[simp]def QW {S:jL}{x y:Int}:mJ false (.int x) (.int y) S=.ok (.bl<|x == y) S:=rfl
@[simp]def Qo {S:jL}{x y:Int}:mJ true (.int x) (.int y) S=.ok (.bl<|!(x == y)) S:=rfl
@[simp]def qA {S:jL}:Aa false .non .non S=.ok (.bl true) S:=rfl
@[simp]def F0 {S:jL}{xs:ae}:Aa false (.tup xs) .non S=.ok (.bl false) S:=rfl
@[simp]def HE {S:jL}{n:Nat}:Aa false (.ref n) .non S=.ok (.bl false) S:=rfl
@[simp]def C5 {S:jL}:Aa true .non .non S=.ok (.bl false) S:=rfl
@[simp]def zM {S:jL}{xs:ae}:Aa true (.tup xs) .non S=.ok (.bl true) S:=rfl
@[simp]def DC {S:jL}{n:Nat}:Aa true (.ref n) .non S=.ok (.bl true) S:=rfl
@[simp]def Hw {S:jL}{x:A}{c:String}:H_ x (.ty c) S=opt (x.kd S) λk=>opt (zX k c) λb=>.ok (.bl b) S:=rfl
@[simp]def QL {S:jL}{b:Bool}:A.kd (.bl b) S=some .bl:=rfl
@[simp]def Js {S:jL}{b:Int}:A.kd (.int b) S=some .int:=rfl
@[simp]def L_ {S:jL}{b:ae}:A.kd (.tup b) S=some .tup:=rfl
@[simp]def MW {S:jL}:A.kd .non S=some .non:=rfl
@[simp]def LV {S:jL}{b:Str}:A.kd (.str b) S=some .str:=rfl
@[simp]def Ls {S:jL}{n:Nat}:A.kd (.ref n) S=(jF S n).map λ_=>.lst:=rfl
@[simp]def M0 {S:jL}:newL [] S=.ok (.ref S.length) (S++[.lst []]):=lg<|by simp
@[simp]def LK {S:jL}{j:A}:newL [j] S=.ok (.ref S.length) (S++[.lst [j]]):=lg<|by simp
@[simp]def Kx {S:jL}{j J:A}:newL [j,J] S=.ok (.ref S.length) (S++[.lst [j,J]]):=lg<|by simp
@[simp]def KH {S:jL}{j J L:A}:newL [j,J,L] S=.ok (.ref S.length) (S++[.lst [j,J,L]]):=lg<|by simp
@[simp]def Kz {S:jL}{j J L U:A}:newL [j,J,L,U] S=.ok (.ref S.length) (S++[.lst [j,J,L,U]]):=lg<|by simp
@[simp]def MV {S:jL}{j J L U Z:A}:newL [j,J,L,U,Z] S=.ok (.ref S.length) (S++[.lst [j,J,L,U,Z]]):=lg<|by simp
@[simp]def Lu {S:jL}{j J L U Z x5:A}:newL [j,J,L,U,Z,x5] S=.ok (.ref S.length) (S++[.lst [j,J,L,U,Z,x5]]):=lg<|by simp
@[simp]def Nc {S:jL}{j J L U Z x5 x6:A}:newL [j,J,L,U,Z,x5,x6] S=.ok (.ref S.length) (S++[.lst [j,J,L,U,Z,x5,x6]]):=lg<|by simp
@[simp]def KC {S:jL}{j J L U Z x5 x6 x7:A}:newL [j,J,L,U,Z,x5,x6,x7] S=.ok (.ref S.length) (S++[.lst [j,J,L,U,Z,x5,x6,x7]]):=lg<|by simp
@[simp]def J2 {S:jL}{j J L U Z x5 x6 x7 x8:A}:newL [j,J,L,U,Z,x5,x6,x7,x8] S=.ok (.ref S.length) (S++[.lst [j,J,L,U,Z,x5,x6,x7,x8]]):=lg<|by simp
@[simp]def Hs {S:jL}{j J L U Z x5 x6 x7 x8 x9:A}:newL [j,J,L,U,Z,x5,x6,x7,x8,x9] S=.ok (.ref S.length) (S++[.lst [j,J,L,U,Z,x5,x6,x7,x8,x9]]):=lg<|by simp
theorem lI{α:Type}{n:Nat}{r:R α}(h:n<=16777216):gd (n<=sizeLine) r=r:=j9<|by rw[bB];exact h
def L5{α:Type}{n:Nat}{r:R α}(h:n<16777216):gd (n<sizeLine) r=r:=j9<|by rw[bB];exact h
def Q3 {x:A}{xs:ae}:(x::xs).getD 0 .unb=x:=rfl
def QM {x:A}{xs:ae}{n:Nat}:(x::xs).getD (n+1) .unb=xs.getD n .unb:=rfl
def V6 {x y:A}{xs:ae}:(x::xs).set 0 y=y::xs:=rfl
def sets {x y:A}{xs:ae}{n:Nat}:(x::xs).set (n+1) y=x::xs.set n y:=rfl
def rep0 {x:A}:List.replicate 0 x=[]:=rfl
def reps {x:A}{n:Nat}:List.replicate (n+1) x=x::List.replicate n x:=rfl
def WE {x:A}{xs ys:ae}:(x::xs)++ys=x::(xs++ys):=rfl
def UP {ys:ae}:[]++ys=ys:=rfl
def AU{S:jL}{n:Nat}{xs ys:ae}(h:jF S n=some xs)(h':jF S m=some ys)(j:xs.length+ys.length<=16777216):kq (.ref n) (.ref m) S=.ok (.ref S.length) (S++[.lst<|xs++ys]):=by
 show opt (jF S n) _=_;rw[h,kD,h',kD];exact j9<|by rw[bB];exact j
abbrev uV (x:A)(S:jL):R A:=bif x.oS then .no else .ok x S
def LA {xs:ae}{S:jL}:uV (.tup xs) S=.ok (.tup xs) S:=rfl
def Mv {xs:ae}{S:jL}:uV (.frz xs) S=.ok (.frz xs) S:=rfl
def Ji {i:Int}{S:jL}:uV (.int i) S=.ok (.int i) S:=rfl
def Qc {b:Bool}{S:jL}:uV (.bl b) S=.ok (.bl b) S:=rfl
def J8 {s:Str}{S:jL}:uV (.str s) S=.ok (.str s) S:=rfl
def Ku {n:Nat}{S:jL}:uV (.ref n) S=.ok (.ref n) S:=rfl
def Mm  {S:jL}:uV (.non) S=.ok (.non) S:=rfl
def Mb {i j:Int}{S:jL}:uV (.rng i j) S=.ok (.rng i j) S:=rfl
def Jv {s:Str}{S:jL}:uV (.exn s) S=.ok (.exn s) S:=rfl
def Y9 {j:A}{xs:ae}{S:jL}:jE 0 (j::xs) S=uV j S:=pX
def YX {J j:A}{xs:ae}{S:jL}:jE 1 (J::j::xs) S=uV j S:=pX
def YK {J L j:A}{xs:ae}{S:jL}:jE 2 (J::L::j::xs) S=uV j S:=pX
def YV {J L U j:A}{xs:ae}{S:jL}:jE 3 (J::L::U::j::xs) S=uV j S:=pX
def YO {J L U Z j:A}{xs:ae}{S:jL}:jE 4 (J::L::U::Z::j::xs) S=uV j S:=pX
def Zh {J L U Z x4 j:A}{xs:ae}{S:jL}:jE 5 (J::L::U::Z::x4::j::xs) S=uV j S:=pX
def Zc {J L U Z x4 x5 j:A}{xs:ae}{S:jL}:jE 6 (J::L::U::Z::x4::x5::j::xs) S=uV j S:=pX
def Y_ {J L U Z x4 x5 x6 j:A}{xs:ae}{S:jL}:jE 7 (J::L::U::Z::x4::x5::x6::j::xs) S=uV j S:=pX
def Zl {J L U Z x4 x5 x6 x7 j:A}{xs:ae}{S:jL}:jE 8 (J::L::U::Z::x4::x5::x6::x7::j::xs) S=uV j S:=pX
def YW {a j:A}{xs:ae}{S:jL}:kB 0 a (j::xs) S=.ok (a::xs) S:=rfl
def Zk {a j J:A}{xs:ae}{S:jL}:kB 1 a (j::J::xs) S=.ok (j::a::xs) S:=rfl
def Zg {a j J L:A}{xs:ae}{S:jL}:kB 2 a (j::J::L::xs) S=.ok (j::J::a::xs) S:=rfl
def Y7 {a j J L U:A}{xs:ae}{S:jL}:kB 3 a (j::J::L::U::xs) S=.ok (j::J::L::a::xs) S:=rfl
def Za {a j J L U Z:A}{xs:ae}{S:jL}:kB 4 a (j::J::L::U::Z::xs) S=.ok (j::J::L::U::a::xs) S:=rfl
def Y6 {a j J L U Z x5:A}{xs:ae}{S:jL}:kB 5 a (j::J::L::U::Z::x5::xs) S=.ok (j::J::L::U::Z::a::xs) S:=rfl
def YR {a j J L U Z x5 x6:A}{xs:ae}{S:jL}:kB 6 a (j::J::L::U::Z::x5::x6::xs) S=.ok (j::J::L::U::Z::x5::a::xs) S:=rfl
def Y3 {a j J L U Z x5 x6 x7:A}{xs:ae}{S:jL}:kB 7 a (j::J::L::U::Z::x5::x6::x7::xs) S=.ok (j::J::L::U::Z::x5::x6::a::xs) S:=rfl
def Zf {a j J L U Z x5 x6 x7 x8:A}{xs:ae}{S:jL}:kB 8 a (j::J::L::U::Z::x5::x6::x7::x8::xs) S=.ok (j::J::L::U::Z::x5::x6::x7::a::xs) S:=rfl
def j3:type_of% (anI @R.kO<|anI @R.HN<|anI @R.kY<|anI @RS.of_ok<|anI @RS.QD<|anI @kD<|anI @F3<|anI @Y9<|anI @YX<|anI @YK<|anI @YV<|anI @YO<|anI @Zh<|anI @Zc<|anI @Y_<|anI @Zl<|anI @LA<|anI @Mv<|anI @Ji<|anI @Qc<|anI @J8<|anI @Ku<|anI @Mm<|anI @Mb<|anI @Jv<|anI @GV<|anI @F4<|anI @HZ<|anI @ME<|anI @GU<|anI @GF<|anI @G2<|anI @Ht<|anI @Gm<|anI @Ql<|anI @Ge<|anI @M8<|anI @FI<|anI @Qd<|anI @MJ<|anI @Fx<|anI @Fq<|anI @JG<|anI @Gb<|anI @GX<|anI @G0<|anI @Mr<|anI @MM<|anI @GW<|anI @Ly<|anI @CQ<|anI @HD<|anI @Lo<|anI @FZ<|anI @DK<|anI @Fb<|anI @Gp<|anI @Dr<|anI @M6<|anI @Me<|anI @QZ<|anI @QH<|anI @Jx<|anI @Dt<|anI @Fd<|anI @Dq<|anI @Nh<|anI @HV<|anI @lst?_ref<|anI @RS.Jy<|anI @RS.JK<|anI @RS.MD<|anI @RS.Jq<|anI @RS.LQ<|anI @GI<|anI @HX<|anI @Bg<|anI @CM<|anI @CS<|anI @Hx<|anI @CW<|anI @MO<|anI @G4<|anI @YW<|anI @Zk<|anI @Zg<|anI @Y7<|anI @Za<|anI @Y6<|anI @YR<|anI @Y3<|anI @Zf<|anI @JI<|anI @M5<|anI @JP<|anI @Kr<|anI @Mk<|anI @Fy<|anI @FD<|anI @Dj<|anI @RS.MT<|anI @RS.Jr<|anI @RS.MR<|anI @My<|anI @Nt<|anI @Mj<|anI @PM<|anI @PL<|anI @P9<|anI @QU<|anI @Qu<|anI @Jl<|anI @Mu<|anI @JN<|anI @Jp<|anI @KU<|anI @Ms<|anI @Ft<|anI @Gw<|anI @Ho<|anI @GS<|anI @AX<|anI @QA<|anI @Qk<|anI @Q4<|anI @LY<|anI @KD<|anI @HM<|anI @FN<|anI @Fv<|anI @Du<|anI @CL<|anI @Na<|anI @LH<|anI @QG<|anI @zJ<|anI @M7<|anI @FU<|anI @jT<|anI @KL<|anI @L7<|anI @CH<|anI @Qq<|anI @Qs<|anI @QW<|anI @Qo<|anI @qA<|anI @F0<|anI @HE<|anI @C5<|anI @zM<|anI @DC<|anI @Hw<|anI @QL<|anI @Js<|anI @L_<|anI @MW<|anI @LV<|anI @Ls<|anI @M0<|anI @LK<|anI @Kx<|anI @KH<|anI @Kz<|anI @MV<|anI @Lu<|anI @Nc<|anI @KC<|anI @J2<|anI @Hs<|anI @Q3<|anI @QM<|anI @V6<|anI @sets<|anI @rep0<|anI @reps<|anI @WE<|anI @UP<|anI @yG<|anI @GJ<|anI @J6<|anI @Ka<|anI @Qn<|anI @PZ<|anI @Lg<|anI @Kv<|anI @A4<|anI @DF<|anI @KY<|anI @HF<|anI @LZ<|anI @Ff<|anI @Jt<|anI @P0<|anI @PY<|anI @FW<|anI @HB<|anI @MN<|anI @CT<|anI @Gr<|anI @Lb<|anI @Ks<|anI @J0<|anI @MK<|@JA):=anI @R.kO<|anI @R.HN<|anI @R.kY<|anI @RS.of_ok<|anI @RS.QD<|anI @kD<|anI @F3<|anI @Y9<|anI @YX<|anI @YK<|anI @YV<|anI @YO<|anI @Zh<|anI @Zc<|anI @Y_<|anI @Zl<|anI @LA<|anI @Mv<|anI @Ji<|anI @Qc<|anI @J8<|anI @Ku<|anI @Mm<|anI @Mb<|anI @Jv<|anI @GV<|anI @F4<|anI @HZ<|anI @ME<|anI @GU<|anI @GF<|anI @G2<|anI @Ht<|anI @Gm<|anI @Ql<|anI @Ge<|anI @M8<|anI @FI<|anI @Qd<|anI @MJ<|anI @Fx<|anI @Fq<|anI @JG<|anI @Gb<|anI @GX<|anI @G0<|anI @Mr<|anI @MM<|anI @GW<|anI @Ly<|anI @CQ<|anI @HD<|anI @Lo<|anI @FZ<|anI @DK<|anI @Fb<|anI @Gp<|anI @Dr<|anI @M6<|anI @Me<|anI @QZ<|anI @QH<|anI @Jx<|anI @Dt<|anI @Fd<|anI @Dq<|anI @Nh<|anI @HV<|anI @lst?_ref<|anI @RS.Jy<|anI @RS.JK<|anI @RS.MD<|anI @RS.Jq<|anI @RS.LQ<|anI @GI<|anI @HX<|anI @Bg<|anI @CM<|anI @CS<|anI @Hx<|anI @CW<|anI @MO<|anI @G4<|anI @YW<|anI @Zk<|anI @Zg<|anI @Y7<|anI @Za<|anI @Y6<|anI @YR<|anI @Y3<|anI @Zf<|anI @JI<|anI @M5<|anI @JP<|anI @Kr<|anI @Mk<|anI @Fy<|anI @FD<|anI @Dj<|anI @RS.MT<|anI @RS.Jr<|anI @RS.MR<|anI @My<|anI @Nt<|anI @Mj<|anI @PM<|anI @PL<|anI @P9<|anI @QU<|anI @Qu<|anI @Jl<|anI @Mu<|anI @JN<|anI @Jp<|anI @KU<|anI @Ms<|anI @Ft<|anI @Gw<|anI @Ho<|anI @GS<|anI @AX<|anI @QA<|anI @Qk<|anI @Q4<|anI @LY<|anI @KD<|anI @HM<|anI @FN<|anI @Fv<|anI @Du<|anI @CL<|anI @Na<|anI @LH<|anI @QG<|anI @zJ<|anI @M7<|anI @FU<|anI @jT<|anI @KL<|anI @L7<|anI @CH<|anI @Qq<|anI @Qs<|anI @QW<|anI @Qo<|anI @qA<|anI @F0<|anI @HE<|anI @C5<|anI @zM<|anI @DC<|anI @Hw<|anI @QL<|anI @Js<|anI @L_<|anI @MW<|anI @LV<|anI @Ls<|anI @M0<|anI @LK<|anI @Kx<|anI @KH<|anI @Kz<|anI @MV<|anI @Lu<|anI @Nc<|anI @KC<|anI @J2<|anI @Hs<|anI @Q3<|anI @QM<|anI @V6<|anI @sets<|anI @rep0<|anI @reps<|anI @WE<|anI @UP<|anI @yG<|anI @GJ<|anI @J6<|anI @Ka<|anI @Qn<|anI @PZ<|anI @Lg<|anI @Kv<|anI @A4<|anI @DF<|anI @KY<|anI @HF<|anI @LZ<|anI @Ff<|anI @Jt<|anI @P0<|anI @PY<|anI @FW<|anI @HB<|anI @MN<|anI @CT<|anI @Gr<|anI @Lb<|anI @Ks<|anI @J0<|anI @MK<|@JA
def bools:(∀b:Bool,cond false b b=b)/\(∀(α:Type) (x y:α),cond false x y=y)/\(∀(α:Type) (x y:α),cond true x y=x):=⟨λ_=>rfl,λ_ _ _=>rfl,λ_ _ _=>rfl⟩
def kj:(∀(x:Str) (xs:ba),(x::xs).length=xs.length+1)/\([]:ba).length=0/\(∀(x:A) (xs:ae),(x::xs).length=xs.length+1)/\([]:ae).length=0:=⟨λ_ _=>rfl,rfl,λ_ _=>rfl,rfl⟩
section
variable {τ:ae}{S:jL}
def G6 {f:ae->jL->R A}{d:rW}:qw f d τ S=(d τ S).bind f:=rfl
abbrev Y8 (c:Str):Unit->jL->RS:=λ_ S1=>.ex c S1
def Nm {c:Str}{u:Unit}:Y8 c u S=.ex c S:=rfl
def AA {c:Str}{ps:List<|Str ⊕ Ex}:uc c ps τ S=RS.of (Pc ps τ S) (Y8 c):=rfl
def FH:Pc [] τ S=.ok Unit.unit S:=rfl
def GR {x:Str}{ps:List<|Str ⊕ Ex}:Pc (.inl x::ps) τ S=Pc ps τ S:=rfl
abbrev ZJ (ps:List<|Str ⊕ Ex)(τ:ae):A->jL->R Unit:=λv S1=>match v with
 | .int i=>gd (i.natAbs.log2<64) (Pc ps τ S1)
 | _=>.no
def GA {e:Ex}{ps:List<|Str ⊕ Ex}:Pc (.inr e::ps) τ S=(e τ S).bind (ZJ ps τ):=rfl
abbrev RS.try (i n:Nat)(cs:ba)(d:Sm):RS->RS
 | .ex x S1=>if x∈cs then NH i (d ((List.replicate n .unb).set i<|.exn x) S1)else .no
 | r=>r
def GH {i n:Nat}{cs:ba}{c d:Sm}:V9 i n cs c d τ S=RS.try i n cs d (c τ S):=by
 unfold V9 RS.try;cases c τ S<;>rfl
def MY {i n:Nat}{cs:ba}{d:Sm}:RS.try i n cs d (.nx τ S)=.nx τ S:=rfl
def JH {i n:Nat}{cs:ba}{d:Sm}{a:A}:RS.try i n cs d (.rt a S)=.rt a S:=rfl
def LX {i n:Nat}{x:Str}{cs:ba}{d:Sm}:RS.try i n (x::cs) d (.ex x S)=NH i (d ((List.replicate n .unb).set i<|.exn x) S):=aQ<|.head _
def Ni {i:Nat}{a:A}:NH i (.rt a S)=.rt a S:=rfl
def K9 {i:Nat}:NH i (.nx τ S)=.nx (τ.set i .unb) S:=rfl
abbrev Vu (f:Str->bp):A->jL->R A:=λv S1=>match v with
 | .exn x=>opt (f x) λb=>.ok (.bl b) S1
 | _=>.no
def Gn {f:Str->bp}{c:Ex}:wN f c τ S=(c τ S).bind (Vu f):=rfl
def J1 {x:Str}{b:Bool}{tb:List<|Str×Bool}:Vu (EG ((x,b)::tb)) (.exn x) S=.ok (.bl b) S:=by
 show opt (List.lookup x ((x,b)::tb)) _=_;rw[fj,bx];rfl
abbrev R.Jj {α β:Type}(r:R α)(f:α->jL->R β):R β:=match r with
 | .ok a S=>f a S
 | _=>.no
def CB {α β:Type}{a:α}{f:α->jL->R β}:R.Jj (.ok a S) f=f a S:=rfl
def GD {f:ae->jL->R A}{d:rW}:Cd f d τ S=R.Jj (d τ S) f:=by unfold Cd R.Jj;cases d τ S<;>rfl
abbrev RS.Xw {α:Type}(r:R α)(f:α->jL->RS):RS:=match r with
 | .ok a S=>f a S
 | _=>.no
def Lm {α:Type}{a:α}{f:α->jL->RS}:RS.Xw (.ok a S) f=f a S:=rfl
def GO {t:Te}{c d:Sm}:CJ t c d τ S=RS.Xw (t τ S) (WV c d τ):=by
 unfold CJ RS.Xw
 cases t τ S with
 | ok b S1=>cases b<;>rfl
 | ex _ _=>rfl
 | no=>rfl
abbrev RS.Nq (i:Nat)(cs:ba)(d:Sm)(τ:ae):RS->RS
 | .ex x S1=>if x∈cs then NH i (d (τ.set i<|.exn x) S1)else .no
 | r=>r
def CC {i:Nat}{cs:ba}{c d:Sm}:yk i cs c d τ S=RS.Nq i cs d τ (c τ S):=by
 unfold yk RS.Nq;cases c τ S<;>rfl
def FT {i:Nat}{cs:ba}{d:Sm}{j:ae}:RS.Nq i cs d τ (.nx j S)=.nx j S:=rfl
def GP {i:Nat}{cs:ba}{d:Sm}{a:A}:RS.Nq i cs d τ (.rt a S)=.rt a S:=rfl
def FF {i:Nat}{x:Str}{cs:ba}{d:Sm}:RS.Nq i (x::cs) d τ (.ex x S)=NH i (d (τ.set i<|.exn x) S):=aQ<|.head _
def DO:A.EE []=some []:=rfl
def yj {b:Bool}{xs:ae}:A.EE (.bl b::xs)=(A.EE xs).map (b::·):=rfl
end
def lC:type_of% (anI @G6<|anI @AA<|anI @Nm<|anI @FH<|anI @GR<|anI @GA<|anI @GH<|anI @MY<|anI @JH<|anI @LX<|anI @Ni<|anI @K9<|anI @Gn<|anI @J1<|anI @DO<|anI @yj<|anI @CB<|anI @GD<|anI @Lm<|anI @GO<|anI @CC<|anI @FT<|anI @GP<|anI @FF<|trivial):=anI @G6<|anI @AA<|anI @Nm<|anI @FH<|anI @GR<|anI @GA<|anI @GH<|anI @MY<|anI @JH<|anI @LX<|anI @Ni<|anI @K9<|anI @Gn<|anI @J1<|anI @DO<|anI @yj<|anI @CB<|anI @GD<|anI @Lm<|anI @GO<|anI @CC<|anI @FT<|anI @GP<|anI @FF<|trivial
end Am
namespace Am
open PySem PySem.Spec PyProof.Rows L2
abbrev Df (K:au)(x:Str)(st:aF):Prop:=∃(f:aj) (fd:FuncData),PySem.W.nsIn K mainGlobals x=some (some<|.ref f)/\Fun K x x st f fd
inductive En (P:ah) (w:af) (K:au) (mg:Str->bj) (base:ak):Prop
 | mk (h:ak) (X:K.In h) (G:h.Ns mainGlobals mg)
section
variable {P:ah}{w:af}{K:au}{mg:Str->bj}{base:ak}{x:Str}{st:aF}{ps:ba}{k:Nat}{F:ae->jL->R A}
def En.at(E:En P w K mg base){f:aj}(h:PySem.W.nsIn K mainGlobals x=some (some<|.ref f)):mg x=some (.ref f):=by
 obtain⟨_,X,G⟩:=E;exact cu X G h
def Df.of{f:aj}{kV ct:aa}(a:PySem.W.nsIn K mainGlobals x=some (some<|.ref f))(l:K.lookup f=some ⟨oc,od,.func<|PySem.W.fnOf x x (uZ st) (o8 st) (jU st) .none kV doc pm an cdv ct,osl⟩)(c:PySem.W.codeIn K cdv x=true)(k:PySem.W.keepIn K (.ref f)=true):Df K x st:=⟨f,_,a,SV l c k⟩
meta abbrev Bi (x:Str)(st:aF)(ps:ba):Prop:=∀us:be,us.length=ps.length->∀(kV f g:aa) (j:Option aj) (d ct:aa),bindArgs (PySem.W.fnOf x x (uZ st) (o8 st) (jU st) .none kV f g j d ct) ⟨us,[]⟩=pure (ps.zip us)
def Df.get(d:Df K x st)(E:En P w K mg base)(b:Bi x st ps):∃f fd,Fun K x x st f fd/\mg x=some (.ref f)/\PySem.W.keepIn K (.ref f)=true/\Binds K fd ps []:=by
 obtain⟨f,fd,a,F⟩:=d;exact⟨f,fd,F,E.at a,F.kp,F.binds λkV j k p g ct us m=>b us m kV j k p g ct⟩
def Df.kA(d:Df K x st)(E:En P w K mg base)(h:∀{f fd},Fun K x x st f fd->FnOk P w K mg base uY k f fd ps (vN K ps.length F))(b:Bi x st ps):tH P w K mg base k x ps F:=by
 obtain⟨f,fd,a,c,e,g⟩:=d.get E b;exact⟨f,fd,h a,c,e,g⟩
def Df.kX(d:Df K x st)(E:En P w K mg base)(h:∀{f fd},Fun K x x st f fd->FnOk P w K mg base (Bw P w) k f fd ps (Jg K ps.length F))(b:Bi x st ps):D4 P w K mg base k x ps F:=by
 obtain⟨f,fd,a,c,e,g⟩:=d.get E b;exact⟨f,fd,h a,c,e,g⟩
end
section
variable {X:Cx}{pos p:Pos}{e1 e2 e3:aE}{x p1 p2 p3:Str}{k K0:Nat}{F:ae->jL->R A}{c1 c2 c3:Ex}
def Bu(G:tH X.prog X.w X.K X.mg X.base k x [p1] F)(L:Room K0 X.A)(h1:AE X e1 c1)(U:k<=K0<|>δ)(hg:Gl X x<|>ε)(j:(x == ("__debug__" : Str))=false<|>δ)(J:starEach [e1] X.env=(false,eval e1 X.env)::starEach [] X.env<|>ε)(hp:((backTo pos<|starEach [] X.env).any (·.1)=false)<|>ε):AE X (.Call (.Name x p) [e1] [] pos) (eFn F<|jC c1 jK):=Ma G (L.mono U) (jD h1 jI J) (mW qy) hg j J hp
def yd(G:tH X.prog X.w X.K X.mg X.base k x [p1,p2] F)(L:Room K0 X.A)(h1:AE X e1 c1)(U:AE X e2 c2)(Z:k<=K0<|>δ)(hg:Gl X x<|>ε)(j:(x == ("__debug__" : Str))=false<|>δ)(J:starEach [e1,e2] X.env=(false,eval e1 X.env)::starEach [e2] X.env<|>ε)(s2:starEach [e2] X.env=(false,eval e2 X.env)::starEach [] X.env<|>ε)(hp:((backTo pos<|starEach [e2] X.env).any (·.1)=false)<|>ε):AE X (.Call (.Name x p) [e1,e2] [] pos) (eFn F<|jC c1<|jC c2 jK):=Ma G (L.mono Z) (jD h1 (jD U jI s2) J) (mW<|mW qy) hg j J hp
def ZF(G:tH X.prog X.w X.K X.mg X.base k x [p1,p2,p3] F)(L:Room K0 X.A)(h1:AE X e1 c1)(U:AE X e2 c2)(Z:AE X e3 c3)(hk:k<=K0<|>δ)(hg:Gl X x<|>ε)(j:(x == ("__debug__" : Str))=false<|>δ)(J:starEach [e1,e2,e3] X.env=(false,eval e1 X.env)::starEach [e2,e3] X.env<|>ε)(s2:starEach [e2,e3] X.env=(false,eval e2 X.env)::starEach [e3] X.env<|>ε)(s3:starEach [e3] X.env=(false,eval e3 X.env)::starEach [] X.env<|>ε)(hp:((backTo pos<|starEach [e2,e3] X.env).any (·.1)=false)<|>ε):AE X (.Call (.Name x p) [e1,e2,e3] [] pos) (eFn F<|jC c1<|jC c2<|jC c3 jK):=Ma G (L.mono hk) (jD h1 (jD U (jD Z jI s3) s2) J) (mW<|mW<|mW qy) hg j J hp
def Qv(G:D4 X.prog X.w X.K X.mg X.base k x [p1] F)(L:Room K0 X.A)(h1:AE X e1 c1)(U:k<=K0<|>δ)(hg:Gl X x<|>ε)(j:(x == ("__debug__" : Str))=false<|>δ)(J:starEach [e1] X.env=(false,eval e1 X.env)::starEach [] X.env<|>ε)(hp:((backTo pos<|starEach [] X.env).any (·.1)=false)<|>ε):AE X (.Call (.Name x p) [e1] [] pos) (qw F<|jC c1 jK):=KJ G (L.mono U) (jD h1 jI J) (mW qy) hg j J hp
def Zs(G:D4 X.prog X.w X.K X.mg X.base k x [p1,p2] F)(L:Room K0 X.A)(h1:AE X e1 c1)(U:AE X e2 c2)(Z:k<=K0<|>δ)(hg:Gl X x<|>ε)(j:(x == ("__debug__" : Str))=false<|>δ)(J:starEach [e1,e2] X.env=(false,eval e1 X.env)::starEach [e2] X.env<|>ε)(s2:starEach [e2] X.env=(false,eval e2 X.env)::starEach [] X.env<|>ε)(hp:((backTo pos<|starEach [e2] X.env).any (·.1)=false)<|>ε):AE X (.Call (.Name x p) [e1,e2] [] pos) (qw F<|jC c1<|jC c2 jK):=KJ G (L.mono Z) (jD h1 (jD U jI s2) J) (mW<|mW qy) hg j J hp
def vp{N P:ba}{sc:Scope}(a:sc.kind=.function)(b:sc.isCoroutine=false)(c:sc.isGenerator=false)(h:N.Nodup/\N.take P.length=P/\(∀x∈P,sc.names.lookup x=some .local\/sc.names.lookup x=some .cell)/\∀y∈sc.names,y.2≠.free):FnScope N P sc:=⟨a,b,c,h.1,h.2.1,h.2.2.1,h.2.2.2⟩
end
end Am
namespace L2
open PySem PySem.Spec PyProof.Rows
section
variable {X:Cx}
def part_of{v:aa}(p:IsPart v o):∃q:Option<|Int×Tok,v=partValue q/\q.map (·.1)=o:=by
 cases p with
 | none=>exact⟨none,rfl,rfl⟩
 | int i t=>exact⟨some (i,t),rfl,rfl⟩
def Td:UK X (λx lo hi H Q=>∃y:Str,x=.str y/\(Txt.slice y lo hi).length<=sizeLine/\Q (.str<|Txt.slice y lo hi) H):=by
 intro pins s σ H x v j k lo hi m Q I rx hs pl d h;obtain⟨y,rfl,hy,q⟩:=h;gn_on;obtain⟨g,rfl,rfl⟩:=part_of pl;obtain⟨f,rfl,rfl⟩:=part_of d;obtain⟨o,a,b,c⟩:=hs;refine⟨"str",_,slot_str_getitem.lookup,gD _ _ _,wpAny_getItem_str_slice (l:=g) (u:=f) (st:=none) ⟨o,a,b,c⟩ rfl ?_⟩;unfold sliceMade;unfold Txt.slice at q hy;split
 ·rename_i z;rw[aQ<|by exact z]at q;exact⟨.str y,H,I,⟨t,rfl⟩,q⟩
 ·rename_i z;rw[aO<|by exact z]at q hy;unfold Made.post;exact⟨hy,.str _,H,I.tok _,⟨_,rfl⟩,q⟩
def CY:C8 X "str.removeprefix" (λx xs H Q=>∃y z:Str,x=.str y/\xs=[.str z]/\y.length<=sizeLine/\Q (.str<|Txt.removeprefix y z) H):=by
 intro pins s σ H x xs v us Q I rx f h;obtain⟨y,z,rfl,rfl,hy,q⟩:=h;gn_on;obtain⟨w,rfl,d⟩:=vals1 f;obtain⟨u,rfl⟩:=d;exact SCL.removeprefix (λj k g=>⟨.str _,H,I.tok _,⟨_,rfl⟩,q⟩) hy
def DJ:C8 X "str.removesuffix" (λx xs H Q=>∃y z:Str,x=.str y/\xs=[.str z]/\y.length<=sizeLine/\Q (.str<|Txt.removesuffix y z) H):=by
 intro pins s σ H x xs v us Q I rx f h;obtain⟨y,z,rfl,rfl,hy,q⟩:=h;gn_on;obtain⟨w,rfl,d⟩:=vals1 f;obtain⟨u,rfl⟩:=d;exact SCL.removesuffix (λj k g=>⟨.str _,H,I.tok _,⟨_,rfl⟩,q⟩) hy
abbrev XH (y z:Str):List V:=[.str (Txt.partition y z).1,.str (Txt.partition y z).2.1,.str (Txt.partition y z).2.2]
def Cn:C8 X "str.partition" (λx xs H Q=>∃y z:Str,x=.str y/\xs=[.str z]/\(z.length == 0)=false/\y.length<=sizeLine/\∀p,H p=none->Q (.ref p) (upd H p<|.tup<|XH y z)):=by
 intro pins s σ H x xs v us Q I rx k h;obtain⟨y,z,rfl,rfl,m,hy,q⟩:=h;gn_on;obtain⟨w,rfl,g⟩:=vals1 k;obtain⟨u,rfl⟩:=g;have d:∀(f:Nat) (a b c:Tok),EP X pins σ Q (.ref s.heap.objs.size) { s with toks:=f,heap:=s.heap.push { cls:=.type "tuple",data:=.seq #[.str (Txt.partition y z).1 a,.str (Txt.partition y z).2.1 b,.str (Txt.partition y z).2.2 c]}}:=λf a b c=>
  ⟨.ref s.heap.objs.size,_,I.laid (t':=f) (o:=.tup<|XH y z) (λb B q=>aM _ q) (aP _) ⟨(show 3<=sizeLine by decide),[.str (Txt.partition y z).1 a,.str (Txt.partition y z).2.1 b,.str (Txt.partition y z).2.2 c],.cons ⟨a,rfl⟩<|.cons ⟨b,rfl⟩<|.cons ⟨c,rfl⟩ .nil,oM.new _ _⟩,rfl,q _<|I.hok.fresh<|aP _⟩
 refine gE F.slot_str_partition (gD _ _ _) F.entry_str_partition (F.args_str_partition_2 _ _) (meets_str_partition y z t u m hy) ?_;unfold Txt.partition at d
 cases j:Builtin.Str.occurrences y z 0 y.length 1 with
 | nil=>rw[j]at d;exact d _ _ _ _
 | cons i l=>rw[j]at d;exact d _ _ _ _
def Nb:nZ X (binaryOp .FloorDiv) (rI (λ_ j=>0<j/\j<1267650600228229401496703205376) λi j=>.int<|i / j):=W5 λi j _ _ _ _ _ hc q=>by
 have h1:(0:Int)<j:=hc.1;have d:j<1267650600228229401496703205376:=hc.2;refine floordiv_int () (by rw[Int.fdiv_eq_ediv_of_nonneg i ()];exact q)<|.inl<|PyProof.noPylong_of_log2 ?_;exact bD ((log2_lt ()).mpr<|show j.natAbs<2 ^ 100 by lia) ⋯
abbrev UL:List (Str ⊕ TE)->Str->St->Hp->(Str->Hp->Prop)->Prop
 | [],out,_,H,k=>k out H
 | .inl x::ps,out,σ,H,k=>x.length<=1000/\UL ps (out++x) σ H k
 | .inr t::ps,out,σ,H,k=>t σ H λv H'=>(∃i,v=.int i/\i.natAbs.log2<64/\UL ps (out++Str.ofString (toString i)) σ H' k)\/∃y:Str,v=.str y/\y.length<=1000/\UL ps (out++y) σ H' k
theorem yH{Q:VK}:∀{es:List aE}{ps:List<|Str ⊕ TE},FParts X es ps->∀(H:Hp) (s:aA) (out:Str),Inv X pins σ H s->out.length+2000 * es.length<=sizeLine ->
  UL ps out σ H (λx H'=>Q (.str x) H')->wpAny (model X.prog X.w) X.A (joinParts out<|evalEach es X.env) (EP X pins σ Q) X.xe s
 | _,_,.nil,H,s,out,I,f,h=>joinParts_nilE (joinParts_nil (show EP X pins σ Q _ _ from⟨.str out,H,I.tok _,⟨_,rfl⟩,h⟩)<|by simpa using f)
 | _,_,.txt (x:=x) hp,H,s,out,I,f,h=>by
  refine joinParts_consE<|joinParts_cons<|Calls.Constant_str ?_;rw[aR]at f;have g:=h.1;have d:(out++x).length=out.length+x.length:=strLen_append ..;exact⟨by rw[d];lia,yH hp H _ _ (I.tok _) (by rw[d];lia) h.2⟩
 | _,_,.val (e:=e) (t:=t) he hp,H,s,out,I,f,h=>by
  rw[aR]at f;refine joinParts_consE (joinParts_cons<|FormattedValue_plain<|l_ (he pins s σ H _ I h) λv C ⟨x,H1,j,r1,m⟩=>?_)
  rcases m with⟨i,g,hi,h1⟩|⟨y,g,hi,h1⟩
  ·subst g;obtain⟨tk,rfl⟩:=r1;refine formatField_int_small () ?_;have p:(Str.ofString<|toString i).length<=65:=by
    have:=int_text_length_le (a:=i) (k:=64) ⋯ hi;rw[PySem.ofString_length];exact this
   have d:(out++Str.ofString (toString i)).length=out.length+(Str.ofString<|toString i).length:=strLen_append ..;exact⟨by rw[d];lia,yH hp H1 _ _ (j.tok _) (by rw[d];lia) h1⟩
  ·subst g;obtain⟨tk,rfl⟩:=r1;have d:(out++y).length=out.length+y.length:=strLen_append ..;refine PyProof.Rows.formatField_str (λB k=>?_) ();exact⟨by rw[d];lia,yH hp H1 _ _ (j.tok _) (by rw[d];lia) h1⟩
abbrev Zx (ps:List<|Str ⊕ TE):TE:=λσ H Q=>UL ps Str.empty σ H λx H'=>Q (.str x) H'
def Vr(h:FParts X (e1::e2::es) ps)(j:2000 * (e1::e2::es).length<=sizeLine<|>δ):PE X (.JoinedStr (e1::e2::es) pos) (Zx ps):=
 λpins s σ H Q I q=>JoinedStr_many<|yH h H s Str.empty I (by rw[show Str.empty.length=0 from rfl,eX];exact j) q
end
end L2
namespace Am
open PySem PySem.Spec PyProof.Rows L2
section
variable {X:Cx}{pos:Pos}
abbrev OC (a:A)(lo hi:bo)(S:jL):R A:=match a with
 | .str y=>gd ((Txt.slice y lo hi).length<=sizeLine) (.ok (.str<|Txt.slice y lo hi) S)
 | _=>.no
abbrev ou (c:Ex)(lo hi:Pt):Ex:=λτ S=>(c τ S).bind λa S1=>(lo τ S1).bind λl f=>(hi τ f).bind λu d=>OC a l u d
abbrev Zw (X:Cx):V->bo->bo->Hp->VK->Prop:=λx lo hi H Q=>∃ρ S a,Rel X.K ρ H S/\AV X.K ρ H a x/\(OC a lo hi S).post (ug X ρ H Q) (XE X ρ H)
def Yl:UK X (Zw X):=λpins s σ H x v f g lo hi j Q I rx hs pl d h9=>by
 obtain⟨ρ,S,a,R,va,h⟩:=h9
 cases va with
 | str y=>
  obtain⟨hc,h⟩:=kc h;exact Td pins s σ H _ v f g lo hi j Q I rx hs pl d ⟨y,rfl,hc,h _ _ _ .refl R<|.str _⟩
 | _=>exact h.elim
def oX{lo:Option aE}{c:Ex}{cl ch:Pt}(J:AE X e c)(L:AO X lo cl)(hh:AO X hi ch):AE X (.Subscript e (.Slice lo hi none p2) pos) (ou c cl ch):=PE.imp (DH Yl J L hh) λσ H Q h9=>by
 z_go;refine⟨ρ,S,τ,R,r,jM (jN h) .refl λa S1 h1 ρ1 H1 x e1 R1 B=>⟨ρ1,S1,τ,R1,r.ext e1,jM (jN h1) e1 λl p g d H2 e2 R2=>⟨d,p,τ,R2,r.ext<|e1.trans e2,jM (jN g) (e1.trans e2) λu k m f H3 e3 j=>?_⟩⟩⟩;exact⟨f,k,a,j,B.ext<|e2.trans e3,jM m (e1.trans<|e2.trans e3) λ_ _ z=>z.ext<|e1.trans<|e2.trans e3⟩
abbrev WZ (ok:Str->Str->Prop)[∀y z,Decidable<|ok y z](g:Str->Str->A)(o:A)(j:ae)(S:jL):R A:=match o,j with
 | .str y,[.str z]=>gd (ok y z) (.ok (g y z) S)
 | _,_=>.no
def RV{id:String}{ok:Str->Str->Prop}[∀y z,Decidable<|ok y z]{g:Str->Str->A}{G:VK->Str->Str->Hp->Prop}
  (J:C8 X id λx xs H Q=>∃y z:Str,x=.str y/\xs=[.str z]/\ok y z/\G Q y z H) (hg:∀{ρ H S Q y z},Rel X.K ρ H S->ug X ρ H Q (g y z) S->G Q y z H):C8 X id (rM X<|WZ ok g):=λpins s σ H x vs v us Q I rx d h9=>by
 obtain⟨ρ,S,o,j,R,f,va,h⟩:=h9
 cases f with
 | str y=>
  match j,va,h with
  | [],_,h=>exact h.elim
  | w::_::_,_,h=>exact(by cases w<;>exact h.elim)
  | [w],va,h=>
   obtain⟨k,rfl,hw⟩:=Ek va
   cases hw with
   | str z=>
    obtain⟨hc,h⟩:=kc h;exact J pins s σ H _ _ v us Q I rx d ⟨y,z,rfl,rfl,hc,hg R h⟩
   | _=>exact h.elim
 | _=>exact h.elim
abbrev Rl:=WZ (λy _=>y.length<=sizeLine) λy z=>.str<|Txt.removeprefix y z
def Wh:C8 X "str.removeprefix" (rM X Rl):=RV CY λR h=>h _ _ _ .refl R<|.str _
abbrev MQ:=WZ (λy _=>y.length<=sizeLine) λy z=>.str<|Txt.removesuffix y z
def Wg:C8 X "str.removesuffix" (rM X MQ):=RV DJ λR h=>h _ _ _ .refl R<|.str _
abbrev HL:=WZ (λy z=>(z.length == 0)=false/\y.length<=sizeLine) λy z=>.tup [.str (Txt.partition y z).1,.str (Txt.partition y z).2.1,.str (Txt.partition y z).2.2]
def Li:C8 X "str.partition" (rM X HL):=RV (G:=λQ y z H=>∀p,H p=none->Q (.ref p) (upd H p<|.tup<|XH y z)) (λpins s σ H x xs v us Q I rx f ⟨y,z,a,b,c,d⟩=>Cn pins s σ H x xs v us Q I rx f ⟨y,z,a,b,c.1,c.2,d⟩) λ{ρ H S Q y z} R h=>qB R (.cons (.str _)<|.cons (.str _)<|.cons (.str _) .nil) .refl h
abbrev D3:List (Str ⊕ Ex)->Str->ae->jL->R Str
 | [],out,_,S=>.ok out S
 | .inl x::ps,out,τ,S=>gd (x.length<=1000) (D3 ps (out++x) τ S)
 | .inr e::ps,out,τ,S=>(e τ S).bind λv S1=>match v with
  | .int i=>gd (i.natAbs.log2<64) (D3 ps (out++Str.ofString (toString i)) τ S1)
  | .str y=>gd (y.length<=1000) (D3 ps (out++y) τ S1)
  | _=>.no
abbrev UJ (ps:List<|Str ⊕ Ex):Ex:=λτ S=>(D3 ps Str.empty τ S).bind λx d=>.ok (.str x) d
theorem Cm{j:Hp}{k:Str->Hp->Prop}:∀(ps:List<|Str ⊕ Ex) (out:Str) (ρ:bi) (H:Hp) (S:jL),Ext ρ0 ρ j H->Rel X.K ρ H S->SR X.K ρ H τ σ ->
  (D3 ps out τ S).post (λx S'=>∀ρ' H',Ext ρ0 ρ' j H'->Rel X.K ρ' H' S'->k x H') (XE X ρ0 j)->UL (W0 X ps) out σ H k
 | [],out,ρ,H,S,e,R,r,h=>h ρ H e R
 | .inl x::ps,out,ρ,H,S,e,R,r,h=>by
  obtain⟨f,h⟩:=kc h;exact⟨f,Cm ps _ ρ H S e R r h⟩
 | .inr a::ps,out,ρ,H,S,e,R,r,h=>by
  refine⟨ρ,S,τ,R,r,?_⟩;have h:=jN h;refine nR h (λv S1 h1 ρ1 H1 u e1 R1 d=>?_) λg S' z=>z.ext e
  cases v with
  | int i=>
   obtain⟨hi,h1⟩:=kc h1
   cases d
   exact .inl ⟨i,rfl,hi,Cm ps _ ρ1 H1 S1 (e.trans e1) R1 (r.ext e1) h1⟩
  | str y=>
   obtain⟨hi,h1⟩:=kc h1
   cases d
   exact .inr ⟨y,rfl,hi,Cm ps _ ρ1 H1 S1 (e.trans e1) R1 (r.ext e1) h1⟩
  | _=>exact h1.elim
def K2(hp:FParts X (e1::e2::es)<|W0 X ps)(j:2000 * (e1::e2::es).length<=sizeLine<|>δ):AE X (.JoinedStr (e1::e2::es) pos) (UJ ps):=
 PE.imp (Vr hp j) λσ H Q h9=>by
 z_go;exact Cm ps _ ρ H S .refl R r<|nR (jN h) (λx S1 h1 ρ1 H1 e1 R1=>h1 ρ1 H1 _ e1 R1<|.str _) λ_ _ z=>z
abbrev Mt (a b:A)(S:jL):R A:=match a,b with
 | .str x,.str y=>gd (x.length+y.length<=sizeLine) (.ok (.str<|x++y) S)
 | _,_=>.no
def Oz:XS X .Add (ip X Mt):=λpins s σ H x y v u Q I r1 r2 h9=>by
 w_up
 cases va with
 | str x=>
  cases vb with
  | str y=>
   obtain⟨hc,h⟩:=kc h;obtain⟨t,rfl⟩:=r1;obtain⟨d,rfl⟩:=r2;exact PyProof.Rows.iadd_str (λ_ _=>⟨.str _,H,I.tok _,⟨_,rfl⟩,h _ _ _ .refl R<|.str _⟩) hc
  | _=>exact h.elim
 | _=>exact h.elim
abbrev zK (a b:A)(S:jL):R A:=match a,b with
 | .int i,.int j=>gd (0<j/\j<1267650600228229401496703205376) (.ok (.int<|i / j) S)
 | _,_=>.no
def BK:nZ X (binaryOp .FloorDiv) (r2 X zK):=nZ.imp Nb λx y H Q h9=>by
 w_up
 cases va<;>first|exact h.elim|(cases vb<;>first|exact h.elim|exact⟨_,_,rfl,rfl,(kc h).1,(kc h).2 _ _ _ .refl R<|.int _⟩)
abbrev JO (a b:A)(S:jL):R A:=match a,b with
 | .int i,.int j=>.ok (.int<|Builtin.bitAnd i j) S
 | _,_=>.no
def Q6:nZ X (binaryOp .BitAnd) (r2 X JO):=λpins s σ H x y v u Q I rx ry h9=>by
 w_up
 cases va with
 | int i=>
  cases vb with
  | int j=>
   gn_on;obtain⟨d,rfl⟩:=ry;exact and_int ⟨.int _,H,I.tok _,⟨_,rfl⟩,h _ _ _ .refl R<|.int _⟩
  | _=>exact h.elim
 | _=>exact h.elim
end
end Am
namespace L2
open PySem PySem.Spec PyProof.Rows
abbrev WY (lo:Int)(n:Nat):It:=⟨λi _=>i<n,λi H x H'=>H'=H/\x=.int (lo+2 * i),λi _=>n<=i⟩
def Lv{P:ah}{w:af}{K:au}(it:aj)(lo:Int)(n:Nat):Turn P w K tg (WY lo n) [it] it (λi h=>IsRangeIter h it (lo+(i:Nat) * 2) ((n:Int)-(i:Nat)) 2) where
 mem:=by simp
 obj:=λi h st b d=>by
  have e:b=it:=by simpa using d
  subst e;exact⟨_,st,λv z=>by
   have p:Data.fields _=Data.cell v:=z
   cases p⟩
 keep:=λi h h' st k=>k it (by simp) _ st
 item:=by
  x_go;subst hP hw hK;kd_p;have W:=Walks.range (prog:=X.prog) (w:=X.w) (I.ok.hd hc) it lo 2 n;refine W.item i s _ _ hg st λv h' tk hv f g=>?_;obtain⟨t,rfl⟩:=hv;have m:Inv X pins σ H { s with heap:=h',toks:=tk }:=I.turned (λb o d e=>g b o (by simpa using d) e) f0 f1 f3 f4 f5;refine⟨_,rfl,CN (s:={ s with heap:=h',toks:=tk }) (n := "range_iterator") f rfl rfl ⋯ ⟨.int<|lo+2 * i,H,m,⟨t,?_⟩,⟨rfl,rfl⟩,f,λb d=>(hf b d).1⟩⟩;rw[show lo+(i:Int) * 2=lo+2 * i by lia]
 done:=by
  x_go;subst hP hw hK;kd_p;exact wpAny_pyNext_range_end (I.ok.hd hc) st (by have:n<=i:=hg;lia) λh' j=>⟨rfl,I.turned (t':=s.toks) (λb o d e=>j b o d e) f0 f1 f3 f4 f5⟩
 self:=λ_ _ _ _ _ st h=>wpAny_pyIter_rangeiter st h
def DL(a b:Int):Builtin.Range.rangeSize a b 2=if a<b then(b-a+1) / 2 else 0:=by
 unfold Builtin.Range.rangeSize;dsimp[show((2:Int)>0)by decide,dB];split<;>lia
def IU{a b:Int}(L:-(2 ^ 62)<=a)(j:a<2 ^ 62)(hb:-(2 ^ 62)<=b)(J:b<2 ^ 62):Builtin.Range.small a b 2=true:=by
 unfold Builtin.Range.small;rw[DL];dsimp[Builtin.Range.rangeFitsLong,bE,gA,eK,dW,show((2:Int)>0)by decide,dB];split<;>lia
section
variable {X:Cx}{tg:aE}
def SK{H:Hp}{s:aA}{R:It->Hp->Prop}{E:aa->aA->Prop}{lo hi:Int}{v:Tok}{tk:Nat}(I:Inv X pins σ H s)(h1:-(2 ^ 62)<=lo)(j:lo<2 ^ 62)(J:-(2 ^ 62)<=hi)(L:hi<2 ^ 62)
  (q:R (WY lo ((hi-lo+1) / 2).toNat) H):wpAny (model X.prog X.w) X.A (pyIter<|.ref s.heap.objs.size) (XF X pins σ tg R) E { s with heap:=s.heap.push { cls:=.type "range",data:=.fields #[.int lo t,.int hi u,.int 2 v]},toks:=tk }:=by
 refine wpAny_pyIter_range (IsRange.new ..) (IU h1 j J L) ?_;have I1:Inv X pins σ H { s with heap:=s.heap.push { cls:=.type "range",data:=.fields #[.int lo t,.int hi u,.int 2 v]},toks:=tk }:=I.kept λb o e=>aM _ e;refine⟨(s.heap.push { cls:=.type "range",data:=.fields #[.int lo t,.int hi u,.int 2 v]}).objs.size,[(s.heap.push { cls:=.type "range",data:=.fields #[.int lo t,.int hi u,.int 2 v]}).objs.size],_,_,H,rfl,
  I1.kept (t':=tk) λb o e=>aM _ e,Lv _ lo ((hi-lo+1) / 2).toNat,?_,λb d=>?_,q⟩
 ·have e1:lo+((0:Nat):Int) * 2=lo:=by simp
  have e2:((((hi-lo+1) / 2).toNat:Nat):Int)-((0:Nat):Int)=Builtin.Range.rangeSize lo hi 2:=by rw[DL];split<;>lia
  show IsRangeIter _ _ (lo+((0:Nat):Int) * 2) (((((hi-lo+1) / 2).toNat:Nat):Int)-((0:Nat):Int)) 2;rw[e1,e2];exact a_ _ rfl
 ·have e:b=(s.heap.push { cls:=.type "range",data:=.fields #[.int lo t,.int hi u,.int 2 v]}).objs.size:=by simpa using d
  subst e;exact I1.B6 (aP _)<|I1.hok.fresh<|aP _
abbrev X6 (ta:TA):TI:=λσ H R=>ta σ H λvs H1=>∃i j:Int,vs=[.int i,.int j,.int 2]/\(-(2 ^ 62)<=i/\i<2 ^ 62/\-(2 ^ 62)<=j/\j<2 ^ 62)/\R (WY i ((j-i+1) / 2).toNat) H1
def TY{a b:aE}{ta:TA}{p:Pos}(hg:Gl X "range")(U:X.mg "range" = none)(Z:PA X [a,b,c] ta)(hs:starEach [a,b,c] X.env=[(false,eval a X.env),(false,eval b X.env),(false,eval c X.env)]<|>ε)(L:starEach [b,c] X.env=[(false,eval b X.env),(false,eval c X.env)]<|>ε) :
  PI X tg (.Call (.Name "range" p) [a,b,c] [] pos) (X6 ta):=by
 intro pins s σ H R I h;refine Call_ (uw I hg U boot_range<|dw (l_ (Z pos pins s σ H _ I h) λus J ⟨vs,H1,C,r1,f⟩=>?_) (by rw[hs,L])<|by rw[L];rfl);obtain⟨i,j,e,⟨f,k,B,m⟩,q⟩:=f;subst e
 cases r1 with
 | cons r d=>
  cases d with
  | cons F d=>
   cases d with
   | cons g d=>
    cases d
    obtain⟨t,rfl⟩:=r;obtain⟨K,rfl⟩:=F;obtain⟨G,rfl⟩:=g;exact call_range_3 ⋯ (SK C f k B m q)
end
end L2
namespace Am
open PySem PySem.Spec PyProof.Rows L2
section
variable {X:Cx}{tg a b c0:aE}{pos:Pos}
abbrev ym (lo hi:Int):Src:=⟨((hi-lo+1) / 2).toNat,λi _=>if i<((hi-lo+1) / 2).toNat then some (.int<|lo+2 * i)else none,λ_=>true⟩
def VX{K:au}{j:Hp}{lo hi:Int}:JR K (ym lo hi) (WY lo ((hi-lo+1) / 2).toNat) ρ0 j where
 go:=λi S H ρ x e R g=>by
  have g:(if i<((hi-lo+1) / 2).toNat then some (A.int<|lo+2 * i)else none)=some x:=g;by_cases d:i<((hi-lo+1) / 2).toNat
  ·rw[aQ d]at g
   cases g
   refine⟨d,λw H' ⟨e1,y⟩=>?_⟩;subst e1 y;exact⟨.refl,R,.int _⟩
  ·rw[aO d]at g;cases g
 stop:=λS H ρ e R _=>aP _
abbrev Xe (a b k:A)(J:jL):R Src:=match a,b,k with
 | .int i,.int j,.int m=>gd (m=2/\bnd i/\bnd j) (.ok (ym i j) J)
 | _,_,_=>.no
def LG{a b k:A}{P:Src->jL->Prop}{E:Str->jL->Prop}(h:(Xe a b k S3).post P E):∃i j,a=.int i/\b=.int j/\k=.int 2/\bnd i/\bnd j/\P (ym i j) S3:=by
 unfold Xe at h;split at h
 ·obtain⟨⟨z,h1,d⟩,h⟩:=kc h;exact⟨_,_,rfl,rfl,by rw[z],h1,d,h⟩
 ·exact h.elim
abbrev w_ (c d:Ex)(e:Ex):Ic:=λτ S=>(c τ S).bind λa S1=>(d τ S1).bind λb g=>(e τ g).bind λk f=>Xe a b k f
def IP{c d e:Ex}{i j:Int}(h:c τ S=.ok (.int i) S1)(h':d τ S1=.ok (.int j) S2)(J:e τ S2=.ok (.int 2) S3)(hb:bnd i)(L:bnd j):w_ c d e τ S=.ok (ym i j) S3:=by
 unfold w_;rw[h];show(d τ S1).bind _=_;rw[h'];show(e τ S2).bind _=_;rw[J];exact aQ ⟨rfl,hb,L⟩
def Ew{p:Pos}{c d e:Ex}(hm:X.mg "range" = none)(ha:AE X a c)(hb:AE X b d)(hc:AE X c0 e)(hg:Gl X "range"<|>ε)(hs:starEach [a,b,c0] X.env=[(false,eval a X.env),(false,eval b X.env),(false,eval c0 X.env)]<|>ε)(U:starEach [b,c0] X.env=[(false,eval b X.env),(false,eval c0 X.env)]<|>ε)(Z:starEach [c0] X.env=[(false,eval c0 X.env)]<|>ε) :
  AI X tg (.Call (.Name "range" p) [a,b,c0] [] pos) (w_ c d e):=λpins s σ H Q I h9=>by
 z_go;refine TY hg hm (mQ ha (mQ hb (mQ hc qR Z)<|by rw[U,Z])<|by rw[hs,U]) hs U pins s σ H Q I ⟨ρ,S,τ,R,r,jM (jN h) .refl λx S1 h1 ρ1 H1 v e1 R1 O=>⟨ρ1,S1,τ,R1,r.ext e1,jM (jN h1) e1 λy L B k H2 w e2 R2 F=>⟨k,L,τ,R2,(r.ext e1).ext e2,jM (jN B) (e1.trans e2) λz T K m H3 u e3 C J=>?_⟩⟩⟩;obtain⟨i,j,G,hy,N,g,f,P⟩:=LG K;subst G hy N
 cases O
 cases F
 cases J
 exact⟨_,_,rfl,⟨g.1,g.2,f.1,f.2⟩,P m H3 _ ((e1.trans e2).trans e3) C VX⟩
end
end Am
namespace L2
open PySem PySem.Spec PyProof.Rows
section
variable {X:Cx}
abbrev Pe (ns:ag):Sx.Ord where
 lt i j:=decide (ns.getD i 0<ns.getD j 0)
 OT i:=aI (by omega)
 tr i j k h1 h2:=aJ (by have:=bO h1;have:=bO h2;omega)
 neg i j k h:=by
  have:=bO h;by_cases c:ns.getD i 0<ns.getD j 0
  ·exact .inl (aJ c)
  ·exact .inr<|aJ<|by omega
theorem Bv:∀{vs:be}{ns:ag},IntsAre vs ns->vs.length=ns.length/\∀i,i<vs.length->∃t,vs.getD i .none=.int (ns.getD i 0) t
 | _,_,.nil=>⟨rfl,λi h=>absurd h<|ju _⟩
 | _,_,.cons n t h=>by
  obtain⟨h1,d⟩:=Bv h;refine⟨cg (·+1) h1,λi hi=>?_⟩
  cases i with
  | zero=>exact⟨t,rfl⟩
  | succ i=>exact d i<|by simpa using hi
theorem zh{f:Nat->Int}{h:Nat->aa}:∀(l:ar),(∀i∈l,∃t,h i=.int (f i) t)->Vals (l.map λi=>V.int<|f i) (l.map h)
 | [],_=>.nil
 | i::l,e=>.cons (e i<|aT ..)<|zh l λj d=>e j<|aS _ d
def El{s:aA}{H:Hp}{Q:VK}{h':ak}{tk:Nat}{vs:be}{ns:ag}(U:Inv X pins σ H { s with heap:=h',toks:=tk })(Z:Sx.RO ns.length)(hi:IntsAre vs ns)(hz:vs.length<=sizeLine)
  (q:∀l g,H l=none->Sx.Cl g 0 ns.length->Sx.So (Pe ns) g 0 ns.length->Q (.ref l) (upd H l<|.lst<|(List.range ns.length).map λi=>V.int<|ns.getD (g i) 0)) :
  wpAny (model X.prog X.w) X.A.in1 (do
   let l <- newList vs
   let _ <- holding [l] (call (Value.builtin "list.sort") [l] [])
   ret l) (λfin s'=>∃v,fin=Fin.done (Flow.ret v)/\EP X pins σ Q v s') X.xe { s with heap:=h',toks:=tk }:=by
 obtain⟨G,f⟩:=Bv hi;refine aG<|wpAny_newList ?_;have d:(h'.push<|seqObj "list" vs.toArray 0).get? h'.objs.size=some (seqObj "list" vs.toArray 0):=a_ _ rfl
 skip
 refine aG (b_<|c9 slot_list_sort ⟨_,d,rfl⟩ entry_list_sort (Sx.IM (o:=Pe ns) (kd:=oneType') d hz (by rw[G];exact Z) (λB F q'=>?_) (λB i j k J K F q'=>?_) λg hc hs=>⟨_,rfl,?_⟩)<|args_list_sort _)
 ·obtain⟨a,b,r,rfl⟩:∃a b r,vs=a::b::r:=by
   cases vs with
   | nil=>simp at B
   | cons a vs=>cases vs with
    | nil=>simp at B
    | cons b r=>exact⟨a,b,r,rfl⟩
  exact iG (keyKind_ints hi) q'
 ·obtain⟨t,e1⟩:=f i k;obtain⟨u,e2⟩:=f j J;show wpAny _ _ (keyLt' oneType' (vs.getD i .none)<|vs.getD j .none) F K _;rw[e1,e2,keyLt'_oneType];exact Sx.O3 true q'
 ·rw[G]at hc hs ⊢;obtain⟨e,L⟩:=sortedHeap_at (out:=((List.range ns.length).map λi=>vs.getD (g i) .none).toArray) d;have C:∀b m,h'.get? b=some m->(sortedHeap (h'.push<|seqObj "list" vs.toArray 0) h'.objs.size vs ((List.range ns.length).map λi=>vs.getD (g i) .none).toArray).get? b=some m:=λb m p=>by
   rw[sortedHeap_old (bq<|aW p)<|by rw[dG];exact fK<|aW p];exact aM _ p
  refine aL ⟨_,rfl,.ref h'.objs.size,_,U.laid (t':=tk) (o:=.lst<|(List.range ns.length).map λi=>V.int<|ns.getD (g i) 0) C (aP _) ?_,rfl,q _ g (U.hok.fresh<|aP _) hc hs⟩;refine⟨by rw[aK,bW];omega,(List.range ns.length).map λi=>vs.getD (g i) .none,e,zh _ λi hi=>f _ (by have:=(hc i (cz _)<|dF.mp hi).2;omega),L⟩
end
end L2
namespace Am
open PySem PySem.Spec PyProof.Rows L2
section
def OY{ns:ag}{g:Nat->Nat}(c:Sx.Cl g 0 ns.length)(so:Sx.So (Pe ns) g 0 ns.length):(List.range ns.length).map (λi=>ns.getD (g i) 0)=sortI ns:=by
 refine yK ?_ ?_ (qe ns)
 ·refine List.Perm.trans ?_ (sortI_perm ns).symm;have p:=EN (N:=ns.length) (g:=g) (λi hi=>(c i (cz _) hi).2) λi j d f z=>by
   have:=so i j (cz _) d f;rw[z]at this;exact this.OT
  have:=p.map λi=>ns.getD i 0;rw[bL,range_getD]at this;exact this
 ·rw[fF];intro i j hi f d;rw[aK,bW]at hi f;rw[iz,iz,gG,gG];have:=of_decide_eq_false (so i j (cz _) d f).ge
  lia
end
end Am
namespace L2
open PySem PySem.Spec PyProof.Rows
def T9:bootBuiltins "set" = some (.type "set"):=by decide +kernel
theorem Dv:∀{ns:ag}{its:be},Vals (ns.map V.int) its->IntsAre its ns
 | [],_,.nil=>.nil
 | n::ns,_::its,.cons r rs=>by
  obtain⟨t,rfl⟩:=r;exact .cons n t<|Dv rs
def K5(ns:ag):firstMet (λi=>ns.getD i 0) ns.length=ns.foldl step_dedup []:=by
 unfold firstMet;congr 1;refine jk (by simp) λi h1 d=>?_;simp[aH d]
abbrev Up (xs:Array Nat):Prop:=∀i j (hi:i<j) (hj:j<xs.size),xs[i]<xs[j]
theorem BW(xs:Array Nat)(j:Nat)(u:Up xs):∀(f lo hi:Nat),hi-lo<=f->lo<=hi->hi<=xs.size->(∀i (h:i<xs.size),i<lo->xs[i]<j)->(∀i (h:i<xs.size),hi<=i->j<=xs[i]) ->
  SetTable.below.go xs j f lo hi<=xs.size/\(∀i (h:i<xs.size),i<SetTable.below.go xs j f lo hi->xs[i]<j)/\(∀i (h:i<xs.size),SetTable.below.go xs j f lo hi<=i->j<=xs[i])
 | 0,lo,hi,hf,hl,hs,h1,h2=>by
  unfold SetTable.below.go;have:lo=hi:=()
  subst this;exact⟨hs,h1,h2⟩
 | f+1,lo,hi,hf,hl,hs,h1,h2=>by
  unfold SetTable.below.go;by_cases c:lo<hi
  ·rw[aQ c];have k:(lo+hi) / 2<xs.size:=()
   have e:xs.getD ((lo+hi) / 2) j=xs[(lo+hi) / 2]:=by simp[Array.getD,k]
   dsimp only;rw[e];by_cases d:xs[(lo+hi) / 2]<j
   ·rw[aQ d];refine BW xs j u f _ _ () () hs (λi h g=>?_) h2;by_cases q:i=(lo+hi) / 2
    ·subst q;exact d
    ·exact lt_trans (u i _ () k) d
   ·rw[aO d];refine BW xs j u f _ _ () () () h1 λi h g=>?_;by_cases q:i=(lo+hi) / 2
    ·subst q;lia
    ·have:=u ((lo+hi) / 2) i () h
     lia
  ·rw[aO c];have:lo=hi:=()
   subst this;exact⟨hs,h1,h2⟩
def vR{xs:Array Nat}(u:Up xs)(j:Nat):SetTable.below xs j<=xs.size/\(∀i (h:i<xs.size),i<SetTable.below xs j->xs[i]<j)/\(∀i (h:i<xs.size),SetTable.below xs j<=i->j<=xs[i]):=
 BW xs j u xs.size 0 xs.size () () () (λi h z=>absurd z ()) λi h z=>absurd h ()
def Et{xs:Array Nat}(u:Up xs){i:Nat}(h:i<xs.size):SetTable.below xs (xs[i]+1)=i+1:=by
 obtain⟨h1,d,f⟩:=vR u<|xs[i]+1;refine Nat.le_antisymm (iu λc=>?_) (iu λc=>?_)
 ·have a:=d (i+1) () c;have b:=u i (i+1) () ()
  lia
 ·have:=f i h ()
  lia
def IB(u:Up xs):SetTable.below xs 0=0:=by
 obtain⟨h1,d,f⟩:=vR u 0;refine Nat.le_antisymm (iu λc=>?_)<|cz _;have:=d 0 () c
 lia
def Mz{xs:Array Nat}{p x:Nat}(h:p<=xs.size)(i:Nat):(SetTable.insertAt xs p x)[i]?=if i<p then xs[i]? else if i=p then some x else xs[i-1]?:=by
 unfold SetTable.insertAt;rw[Array.getElem?_append];have f:((xs.extract 0 p).push x).size=p+1:=by simp;lia
 rw[f];by_cases c:i<p
 ·rw[aQ (),aQ c,Array.getElem?_push,aO<|by simp;lia];rw[Array.getElem?_extract];simp[c]
  lia
 ·rw[aO c];by_cases d:i=p
  ·subst d;rw[aQ (),aQ rfl,Array.getElem?_push,aQ<|by simp;lia]
  ·rw[aO (),aO d,Array.getElem?_extract];by_cases q:i-(p+1)<xs.size-p
   ·rw[aQ ()];congr 1
    lia
   ·rw[aO (),fU ()]
def RI:Up xs ↔ ∀i j a b:Nat,i<j->xs[i]?=some a->xs[j]?=some b->a<b:=by
 constructor
 ·intro u i j a b d m g;obtain⟨h1,rfl⟩:=dX.mp m;obtain⟨k,rfl⟩:=dX.mp g;exact u i j d k
 ·intro h i j d f;exact h i j _ _ d (cA ())<|cA f
def Tn(u:Up xs)(hn:xs[SetTable.below xs j]?≠some j):Up (SetTable.insertAt xs (SetTable.below xs j) j):=by
 obtain⟨h1,J,B⟩:=vR u j;have F:∀i (h:i<xs.size),SetTable.below xs j<=i->j<xs[i]:=λi h hi=>by
  have a:=B i h hi;by_cases q:xs[i]=j
  ·by_cases r:SetTable.below xs j=i
   ·exact absurd (by rw[r,cA h,q]) hn
   ·have b:=B (SetTable.below xs j) ()<|aP _;have c:=u (SetTable.below xs j) i () h
    lia
  ·lia
 refine RI.mpr λi k a b p f d=>?_;rw[Mz h1]at f d;have m:∀{i a:Nat},xs[i]?=some a->∃h:i<xs.size,xs[i]=a:=λh=>dX.mp h;by_cases c1:i<SetTable.below xs j
 ·rw[aQ c1]at f;obtain⟨C,rfl⟩:=m f;have G:=J i C c1;by_cases c2:k<SetTable.below xs j
  ·rw[aQ c2]at d;obtain⟨g,rfl⟩:=m d;exact u i k p g
  ·rw[aO c2]at d;by_cases c3:k=SetTable.below xs j
   ·rw[aQ c3]at d
    cases d
    exact G
   ·rw[aO c3]at d;obtain⟨g,rfl⟩:=m d;exact lt_trans G<|F _ g ()
 ·rw[aO c1]at f;rw[aO<|show ¬k<SetTable.below xs j by lia,aO<|show ¬k=SetTable.below xs j by lia]at d;obtain⟨g,rfl⟩:=m d;by_cases c3:i=SetTable.below xs j
  ·rw[aQ c3]at f
   cases f
   exact F _ g ()
  ·rw[aO c3]at f;obtain⟨C,rfl⟩:=m f;exact u _ _ () g
def K6(n:Nat):Up (Array.range n):=λi j d f=>by
 simp at f;simp;exact d
structure Sr (t:SetTable):Prop where
 up:Up t.place
 dm:t.dummies=#[]
def Hu(j:Nat):SetTable.has #[] j=false:=rfl
def Sr.slot{t:SetTable}(r:Sr t)(j:Nat):t.slot j=if t.place[SetTable.below t.place j]? == some j then .live (SetTable.below t.place j)else .empty:=by
 unfold SetTable.slot;rw[r.dm,Hu];rfl
def Ub(t:SetTable)(p:SetTable.Probe):(t.advance p).dummy=p.dummy:=by
 unfold SetTable.advance;split<;>rfl
theorem Dn{t:SetTable}(r:Sr t)(f:Nat->Int)(h:Int):∀(n:Nat) (p:SetTable.Probe) (j:Nat) (d:bt),p.dummy=none->SetTable.probe.go t f h n p=some (.empty j d)->d=none/\t.slot j=.empty
 | 0,p,j,d,_,e=>by unfold SetTable.probe.go at e;cases e
 | n+1,p,j,d,hp,e=>by
  unfold SetTable.probe.go at e
  cases hs:t.slot p.j with
  | empty=>
   rw[hs]at e
   cases e
   exact⟨hp,hs⟩
  | dummy=>
   rw[r.slot]at hs;split at hs<;>cases hs
  | live i=>
   rw[hs]at e;dsimp only at e;split at e
   ·cases e
   ·exact Dn r f h n _ j d (by rw[Ub];exact hp) e
def O2{t:SetTable}(r:Sr t){h:Int}{b:Bool}(e:t.freeSlot h=some (j,b)):b=false/\t.place[SetTable.below t.place j]?≠some j:=by
 unfold SetTable.freeSlot at e;split at e
 ·next j' d hp=>
  obtain⟨hd,hs⟩:=Dn r _ _ _ _ _ _ rfl hp;subst hd
  cases e
  refine⟨rfl,λz=>?_⟩;rw[r.slot,show Option.getD none j'=j' from rfl]at *
  rw[z]at hs;simp at hs
 ·cases e
def Sr.F_(t:SetTable)(n:Nat):Sr (t.standIn n):=⟨K6 n,rfl⟩
def Sr.put{t:SetTable}(r:Sr t)(h:t.place[SetTable.below t.place j]?≠some j):Sr (t.put j).1:=by
 refine⟨Tn r.up h,?_⟩;show(if SetTable.has t.dummies j=true then _ else t.dummies)=#[];rw[r.dm,Hu];rfl
def Sr.lay{t:SetTable}(r:Sr t)(es:Array<|Int×aa)(h:Int)(x:aa):Sr (layNew t es h x).2.1/\(layNew t es h x).2.1.led=t.led:=by
 unfold layNew;split
 ·next j b e=>
  have q:=r.put (O2 r e).2;dsimp only;unfold SetTable.orStandIn;split
  ·exact⟨q,rfl⟩
  ·exact⟨Sr.F_ _ _,rfl⟩
 ·exact⟨Sr.F_ _ _,rfl⟩
def Sr.laid{plain:Bool}{t:SetTable}(e:SetTable.laid mask finger moves led plain hs=some (t,o)):Sr t/\t.led=led:=by
 unfold SetTable.laid at e
 cases hc:SetTable.layClean mask hs with
 | none=>rw[hc]at e;cases e
 | some d=>
  rw[hc]at e
  cases e
  refine⟨⟨?_,rfl⟩,rfl⟩;have g:(((List.range<|mask+1).filterMap λj=>(d.getD j none).map (j,·)).map (·.1)).Pairwise (· < ·):=by
   rw[fY,List.pairwise_filterMap];refine List.Pairwise.imp (λ{a b} hab x hx y hy=>?_) List.pairwise_lt_range;obtain⟨_,_,rfl⟩:=br.mp hx;obtain⟨_,_,rfl⟩:=br.mp hy;exact hab
  intro i j f k;rw[List.getElem_toArray,List.getElem_toArray];exact fF.mp g i j _ _ f
def Sr.UT{t:SetTable}(r:Sr t)(es:Array<|Int×aa)(n:Nat):Sr (relayAll t es n).2.1/\(relayAll t es n).2.1.led=t.led:=by
 unfold relayAll;split
 ·next t' o e=>
  dsimp only;split
  ·exact Sr.laid e
  ·exact⟨Sr.F_ _ _,rfl⟩
 ·exact⟨Sr.F_ _ _,rfl⟩
section
variable {P:ah}{w:af}{A:az}{E:aa->aA->Prop}{s:aA}
abbrev vd (P:ah)(w:af)(b:Bool)(h:ak)(a:aj)(S:Int->Bool)(n:Nat):Prop:=
 ∃o es ep t,h.get? a=some o/\o.ExactSet/\o.data=.set es ep t/\ElemsOf (intKind P w) es.toList/\(∀k,S k=true ↔ ∃e∈es.toList,(intKind P w).is k e.2=true)/\es.size<scanBound/\t.fits es.size=true/\es.size=n/\Sr t/\t.led=b
def stored{h:ak}{a:aj}{o:Obj}{es:Array<|Int×aa}(J:h.get? a=some o)(hd:o.data=.set es ep t)(j:Array<|Int×aa)(t':SetTable):(h.update a<|Obj.putSet j t').get? a=some { o with data:=.set j (ep+1) t' }:=by
 have q:=bX (Obj.putSet j t') J (by rw[putSet_of j t' hd];rfl)
 rwa [putSet_of j t' hd]at q
def Qt{g:Bool->Sem Unit}{b:Bool}(hg:∀(c:Bool) (s1:aA) (q:Unit->aA->Prop),q Unit.unit s1->wpAny (model P w) A (g c) q E s1){a:aj}{o:Obj}{es J:Array<|Int×aa}{U:SetTable}(Z:s.heap.get? a=some o)(hx:o.ExactSet)(hd:o.data=.set es ep t)
  {S':Int->Bool} (el:ElemsOf (intKind P w) J.toList) (mm:∀k',S' k'=true ↔ ∃e∈J.toList,(intKind P w).is k' e.2=true) (hb:J.size<scanBound) (hf:U.fits J.size=true) (r:Sr U) (hl:U.led=b) {wd:Bool} {R:bp->aA->Prop}
  (k:∀h',Heap.SameBut a s.heap h'->vd P w b h' a S' J.size->R (some true) { s with heap:=h' }) :
  wpAny (model P w) A (do
   storeSet a J U
   if (!wd && U.tooFull)=true then do
     g (relayAll U J<|SetTable.grown J.size).2.2
     storeSet a (relayAll U J<|SetTable.grown J.size).1 (relayAll U J<|SetTable.grown J.size).2.1
     pure (some true)
    else pure (some true)) R E s:=by
 refine aG<|wpAny_storeSet_of Z hd ?_<|fits_of_scanBound hb;have h1:=stored Z hd J U;have F:=dh s.heap a<|Obj.putSet J U;split
 ·have f:=relayAll_perm U J<|SetTable.grown J.size;have m:=relayAll_fits U J<|SetTable.grown J.size;have j:=r.UT J<|SetTable.grown J.size;generalize relayAll U J (SetTable.grown J.size)=L at f m j ⊢;obtain⟨d,B,G⟩:=L;dsimp only at f m j ⊢;have sz:d.size=J.size:=by rw[<- bJ,f.length_eq,bJ]
  have C:d.size<scanBound:=by rw[sz];exact hb
  refine aG<|hg _ _ _<|aG<|wpAny_storeSet_of h1 rfl ?_<|fits_of_scanBound C;exact aL<|k _ (F.trans<|dh _ a _) ⟨_,d,_,B,stored h1 rfl d B,hx,rfl,el.perm f,λk'=>(mm k').trans ⟨λ⟨e,p,q⟩=>⟨e,f.mem_iff.mpr p,q⟩,λ⟨e,p,q⟩=>⟨e,f.mem_iff.mp p,q⟩⟩,C,m,sz,j.1,j.2.trans hl⟩
 ·exact aL<|k _ F ⟨_,J,_,U,h1,hx,rfl,el,mm,hb,hf,rfl,r,hl⟩
def XU{a:aj}{S:Int->Bool}{n:Nat}{k:Int}{x:aa}{b:Bool}{Q:Bool->aA->Prop}(hk:(intKind P w).is k x=true)(hx:x.scannable=true)(hS:vd P w b s.heap a S n)(room:n+1<scanBound)
  (q:∀h',Heap.SameBut a s.heap h'->vd P w b h' a (λk'=>S k' || decide (k'=k)) (if S k then n else n+1)->Q (!S k) { s with heap:=h' }):wpAny (model P w) A (setAddHashed a x<|(intKind P w).hash k) Q E s:=by
 obtain⟨o,es,ep,t,T,oe,hd,el,U,Y,hf,hn,r,V⟩:=hS;have b1:es.size+1<scanBound:=by rw[hn];exact room
 unfold setAddHashed setAddHashedIn;refine b_<|aG<|ck T hd hf ?_;dsimp only;rw[byScan_of hx Y el];dsimp[↓reduceIte];unfold setAddByScan;refine aG (aG<|gF<|aG<|wpAny_setScan_of hk T hd hf el ?_)
 cases hr:List.findIdx? (λe=>(intKind P w).is k e.2) es.toList with
 | some j=>
  dsimp only;obtain⟨hj,pj,_⟩:=List.findIdx?_eq_some_iff_getElem.mp hr;have K:S k=true:=(U k).mpr ⟨_,cJ hj,pj⟩;have z:=q s.heap (je a s.heap) ⟨o,es,ep,t,T,oe,hd,el,λk'=>by
   rw[gA,eK,<- U k'];exact⟨λv=>v.elim id λe=>by rw[e];exact K,.inl⟩,Y,hf,by rw[K];exact hn,r,V⟩
  rw[K]at z;exact aL<|aL z
 | none=>
  dsimp only;have K:S k=false:=dU.mpr λz=>by
   obtain⟨e,he,hp⟩:=(U k).mp z;have:=List.findIdx?_eq_none_iff.mp hr e he;rw[hp]at this;cases this
  have p:=layNew_perm t es ((intKind P w).hash k) x;have J:=layNew_fits t es ((intKind P w).hash k) x;have f:=r.lay es ((intKind P w).hash k) x;generalize layNew t es ((intKind P w).hash k) x=L at p J f ⊢;obtain⟨m,t1,wd,gv⟩:=L;dsimp only at p J f ⊢;rw[jf]at p;have B:=(el.push hk hx).perm p;have O:=mem_push_iff hk U p;have Z:m.size=n+1:=by rw[<- bJ,p.length_eq,aV,bJ,hn];rfl
  have C:m.size<scanBound:=by rw[Z];exact room
  have G:∀h',Heap.SameBut a s.heap h'->vd P w b h' a (λk'=>S k' || decide (k'=k)) m.size->Q true { s with heap:=h' }:=λh' F d=>by
   have z:=q h' F;rw[K]at z;rw[Z]at d;exact z d
  have gw:∀(c:Bool) (N:aA) (q':Unit->aA->Prop),q' Unit.unit N->wpAny (model P w) A (match c with|true=>rule "set.scan.the-table-gave-way" | false=>pure Unit.unit) q' E N:=λc N q' g=>by cases c<;>first|exact aL g|exact gF g
  refine aG<|gw _ _ _ ?_;split
  ·refine aG ?_;rw[hashByValue_scannable 8 hx];refine aL (Qt (λc N q' g=>by cases c<;>first|exact aL g|exact gF g) T oe hd B O C ?_ ?_ ?_ λh' F d=>aL<|G h' F d)
   ·split
    ·exact J
    ·exact SetTable.fits_plain_off J
   ·split
    ·exact f.1
    ·exact⟨f.1.up,f.1.dm⟩
   ·split
    ·exact f.2.trans V
    ·exact f.2.trans V
  ·refine aG<|aL ?_;dsimp[↓reduceIte];exact Qt (λc N q' g=>by cases c<;>first|exact aL g|exact gF g) T oe hd B O C J f.1 (f.2.trans V) λh' F d=>aL<|G h' F d
end
section
variable {P:ah}{w:af}{A:az}{E:aa->aA->Prop}{s:aA}
abbrev Co (w:af):Bool:=!w.params.followText "set-order"
abbrev qN (w:af):Obj:={ cls:=.type "set",dict:=none,data:=.set #[] 0 (.fresh 0 0<|Co w)}
def JJ(a:aa){q:aa->aA->Prop}(h:q (.ref s.heap.objs.size) { s with heap:=s.heap.push<|qN w}):codeAny (model P w) A (.call (.builtin "set.__new__") ⟨[.type "set",a],[]⟩) (wants q E) s:=by
 refine codeAny_of_tree ?_;show wpAny (model P w) A.in1 (do checkBuiltinCall "set.__new__" ⟨[.type "set",a],[]⟩;again (.builtin "set.__new__" ⟨[.type "set",a],[]⟩)) _ _ s;refine aG<|iG (PySem.F.newCall_set_1 a)<|aL ⟨gp PySem.F.plain_set_new _,d8 PySem.F.entry_set_new ?_⟩;rw[dQ PySem.F.plain_set_new _];unfold Builtin.«set.__new__» Builtin.Frozenset.newClass;have f:=sub_set_self;obtain⟨hp,g,d,tk,os⟩:=s;dsimp only
 wp_walk
 refine wpAny_askSetting<|aL ?_;dsimp only;dsimp[newObj];refine aG<|wpAny_alloc<|aL<|aL ?_;exact h
def Q8{h:ak}{a:aj}(J:h.get? a=some (qN w)):vd P w (Co w) h a (λ_=>false) 0:=
 ⟨_,#[],0,_,J,⟨rfl,rfl,rfl⟩,rfl,(λe d=>by cases d),(λk=>⟨(λz=>by cases z),(λ⟨e,d,_⟩=>by cases d)⟩),⋯,rfl,rfl,⟨(λi j g f=>absurd f<|by simp[SetTable.fresh]),rfl⟩,rfl⟩
def vd.congr{b:Bool}{a:aj}{S S':Int->Bool}{n:Nat}(r:vd P w b h a S n)(e:∀k,S k=S' k)(j:n=n'):vd P w b h a S' n':=by
 have:S=S':=funext e;subst this;subst j;exact r
def vd.at{b:Bool}{h h':ak}{a:aj}{S:Int->Bool}{n:Nat}(r:vd P w b h a S n)(k:∀o,h.get? a=some o->h'.get? a=some o):vd P w b h' a S n:=by
 obtain⟨o,es,ep,t,d,rest⟩:=r;exact⟨o,es,ep,t,k o d,rest⟩
section
variable {R:Result->aA->Prop}{I:aj}{fp wr:bi}{G:Array GenState->Array GenState->Prop}{n:Nat}{V:Nat->aa->Prop}{St:Nat->aA->Prop}
def VI{b:Bool}(W:WalksS P w A.in1 I fp wr G n V St)(a:aj)(Z:a∉fp)(val:Nat->Int)(hv:∀i v,V i v->∃t,v=.int (val i) t)(hb:n+1<scanBound) :
  ∀(k i:Nat) (s:aA),n-i=k->i<=n->St i s->vd P w b s.heap a (λk'=>(firstMet val i).any (· == k')) (firstMet val i).length ->
   (∀s',Moved (a::wr) G s s'->vd P w b s'.heap a (λk'=>(firstMet val n).any (· == k')) (firstMet val n).length->R (.ok<|.ret .none) s') ->
   codeAny (model P w) A (.builtin "set.update.loop" ⟨[.ref a,.ref I],[]⟩) R s:=by
 have O:a∉wr:=λh=>Z<|W.sub _ h;have sub:∀c∈wr,c∈a::wr:=λc hc=>aS _ hc;intro k
 induction k with
 | zero=>
  intro i s U hi d J K;have:i=n:=()
  subst this;refine d8 gb ?_;rw[dQ eU _];show wpAny (model P w) A.in1 (pyNext (.ref I) >>= _) _ _ s;refine aG<|W.done s _ _ d λs' f=>?_;show wpAny (model P w) A.in1 (ret Value.none) _ _ s';exact aL<|K s' (f.mono sub)<|J.at λo e=>f.heap a _ O e
 | succ k T=>
  intro i s U hi d J K;have lt:i<n:=()
  refine d8 gb ?_;rw[dQ eU _];show wpAny (model P w) A.in1 (pyNext (.ref I) >>= _) _ _ s;refine aG<|W.item i s _ _ lt d λv s' hP m f=>?_;obtain⟨t,rfl⟩:=hv i v hP;have B:=J.at (h':=s'.heap) λo e=>f.heap a _ O e;show wpAny (model P w) A.in1 (holding [Value.int (val i) t] (setAdd a<|.int (val i) t) >>= _) _ _ s';refine aG<|b_ ?_;unfold setAdd;refine b_<|aG<|(intKind P w).pyHash (k:=val i) (intKind_is _ _ _ _) ?_;have j:(firstMet val i).length+1<scanBound:=by have:=firstMet_length_le val i;lia
  refine XU (s:={ s' with toks:=s'.toks+1 }) (intKind_is _ _ _ _) rfl B j λh' N F=>?_;have L:=F.congr (S':=λk'=>(firstMet val<|i+1).any (· == k')) (n':=(firstMet val<|i+1).length) (λk'=>by rw[firstMet_succ,step_any]) (by rw[firstMet_succ,step_length]);refine aL ⟨gp eU _,T (i+1) _ () lt (W.frame _ s' _ _ m (jv _) λc hc o e=>?_) L λC g p=>?_⟩
  ·rw[N.2 c (λz:c=a=>Z<|by rw[<- z];exact hc)];exact e
  ·refine K C (Moved.trans W.gtrans ((f.mono sub).then_heap (jv _) λc o hc e=>?_) g) p;rw[N.2 c (λz:c=a=>hc<|by rw[z];exact aT)];exact e
end
end
section
variable {P:ah}{w:af}{A:az}{E:aa->aA->Prop}{s:aA}
def Ir{items:Array aa}{ns:ag}{q:aa->aA->Prop}(hh:A.handled=none)(hl:s.heap.IsList l items)(hi:IntsAre items.toList ns)(hb:items.size+1<scanBound)
  (h:∀(h':ak) (tk:Nat),vd P w (Co w) h' s.heap.objs.size (λk'=>(firstMet (λi=>ns.getD i 0) items.size).any (· == k')) (firstMet (λi=>ns.getD i 0) items.size).length ->
   (∀b o,b<s.heap.objs.size->s.heap.get? b=some o->h'.get? b=some o)->q (.ref s.heap.objs.size) { s with heap:=h',toks:=tk }) :
  wpAny (model P w) A (call (.type "set") [.ref l]) q E s:=by
 obtain⟨c,tl,Y⟩:=dO.mro;have N:=dO.made;have U:=dO.sub;refine iV<|codeAny_of_tree ?_;show wpAny (model P w) _ (callAny (.type "set") _) _ _ _;refine aL ⟨Code.quiet_builtin _ ∅,d8 PySem.F.entry_type_call ?_⟩;rw[Around.under_plain (weight_type_call_type "set" [.ref l] []) rfl];have h1:=dO.notType;have h2:=dO.canCreate;have hct:=PySem.F.typeCall_set_1 (.ref l)
 repeat (any_goals (first|assumption|wp_step))
 refine eW (JJ (.ref l) (E:=E) (q:=λV Z=>V=.ref s.heap.objs.size/\Z={ s with heap:=s.heap.push<|qN w}) ⟨rfl,rfl⟩) λr Z L=>?_
 cases r with
 | error e=>exact L
 | ok fl=>
  cases fl with
  | ret V=>
   obtain⟨rfl,rfl⟩:=L;have T:(s.heap.push<|qN w).get? s.heap.objs.size=some (qN w):=a_ _ rfl;have hT:Shared.TypeIs { s with heap:=s.heap.push<|qN w} (.ref s.heap.objs.size) "set" := ⟨_,T,rfl⟩;have hli:=dO.init.lookup;have hbi:=dO.init.bind (.ref s.heap.objs.size)
   repeat (any_goals (first|assumption|wp_step))
   refine eW (codeAny_call_builtin (R:=wants (λr s2=>r=.none/\∃h' tk,s2={ s with heap:=h',toks:=tk }/\vd P w (Co w) h' s.heap.objs.size (λk'=>(firstMet (λi=>ns.getD i 0) items.size).any (· == k')) (firstMet (λi=>ns.getD i 0) items.size).length /\
     (∀b o,b<s.heap.objs.size->s.heap.get? b=some o->h'.get? b=some o)) E) dO.init.plain PySem.F.entry_set_init<|check_set_init_1 hT ?_) λr2 s2 d=>?_
   ·obtain⟨ol,m,p,nl,g⟩:=hl;obtain⟨oc,od,oda,O⟩:=ol;simp only at p g;subst p;subst g;have k:(s.heap.push<|qN w).get? l=some { cls:=.type "list",dict:=od,data:=.seq items nl,slots:=O }:=aM _ m;have g1:=PySem.F.sub_list_set;have g2:=PySem.F.sub_list_frozenset;have g3:(Value.type "list" == Value.type "dict")=false:=by decide
    have j:(s.heap.push<|qN w).IsList l items:=⟨_,k,rfl,nl,rfl⟩;unfold Builtin.«set.__init__» noKeywords Builtin.Frozenset.updateFrom;generalize hPI:pyIter=PI
    wp_walk
    subst hPI;refine gM j<|aG<|iX ?_;have lS:l<s.heap.objs.size:=aW m;have h3:A.in1.in1.in1.handled=none:=by simp[hh]
    have nI:l≠(s.heap.push<|qN w).objs.size:=by rw[dG];exact bq (fK lS)
    have sf:s.heap.objs.size∉[(s.heap.push<|qN w).objs.size,l]:=by
     rw[dG];dsimp[bf,aX,fP,or_false,not_or];exact⟨bq<|dI _,f_ lS⟩
    refine VI ((Walks.list h3 _ l nI items).toS) s.heap.objs.size sf (λi=>ns.getD i 0) (λi v hv=>IntsAre.int_at hi i v<|by rw[dM];exact hv) hb (items.size-0) 0 _ () (cz _)
     ⟨⟨_,a_ _ rfl,rfl,rfl⟩,(j.push _)⟩ ((Q8<|aM _ T).congr (λ_=>rfl) rfl) λs' B f=>?_
    obtain⟨h',g',d',K,J⟩:=s';have eg:g'=s.gens:=B.gens;have ed:d'=s.drawn:=B.drawn;have eo:J=s.os:=B.os;subst eg;subst ed;subst eo;show wpAny _ _ _ _ _ _;refine aL ?_;show wpAny (model P w) _ (ret Value.none) _ _ _;refine aL ⟨rfl,h',K,rfl,f,λb o hb e=>B.heap b o ?_<|aM _<|aM _ e⟩;dsimp[bf,aX,fP,or_false,not_or];exact⟨bq hb,by rw[dG];exact bq<|fK hb⟩
   ·cases r2 with
    | error e=>exact d
    | ok C=>
     cases C with
     | ret r=>
      obtain⟨rfl,h',tk,rfl,f,G⟩:=d
      repeat (any_goals (first|assumption|wp_step))
      exact h _ _ f G
     | _=>exact d.elim
  | _=>exact L.elim
end
def mX:Slot "set_iterator" "__next__" "set_iterator.__next__" :=
 .of (owner := "set_iterator") (n := "__next__") (by rw[typeLookup_type,h_];kernel_rfl) ∅ ∅ ∅ (by first|exact .inl ∅|exact .inr ∅) (by rw[i6];kernel_rfl)
def wm:entryFor table "set_iterator.__next__" = some Builtin.«set_iterator.__next__»:=entryFor_of_tree<|by kernel_rfl
def MI:Manifest.owners.lookup (String.ofList ['r','o','t','a','r','e','t','i','_','t','e','s'].reverse)=some Manifest.sig_set_iterator:=by kernel_rfl
def wB(a:aa):argsOk "set_iterator.__next__" ⟨[a],[]⟩:=by
 unfold argsOk;rw[signature?_of (id := "set_iterator.__next__") (n:=['_','_','t','x','e','n','_','_']) (o:=['r','o','t','a','r','e','t','i','_','t','e','s']) (by kernel_rfl) MI];kernel_rfl
def Ln:entryFor table "set.__iter__" = some Builtin.«frozenset.__iter__»:=entryFor_alias (id' := "frozenset.__iter__") (by kernel_rfl) rfl ∅ (by kernel_rfl)
section
variable {P:ah}{w:af}{A:az}{E:aa->aA->Prop}{s:aA}
theorem B8{α:Type}:∀(l:List α) (i:Nat) (h:i<l.length),(l[i]::l.eraseIdx i).Perm l
 | x::l,0,_=>.refl _
 | x::l,i+1,h=>((List.Perm.swap x _ _)).trans<|(B8 l i<|by simpa using h).cons x
theorem FL{α:Type}(next:Nat->Nat):∀(f k:Nat) (l:List α) (out:Array α),l.length=f->(pickOrder.go next f k l out).toList.Perm (out.toList++l)
 | 0,k,l,out,h=>by
  rw[cH.mp h];unfold pickOrder.go;rw[bS]
 | f+1,k,l,out,h=>by
  have lt:next k % l.length<l.length:=mod_lt _ ();unfold pickOrder.go;rw[aH lt];refine(FL next f (k+1) _ _ (by rw[f6 lt];lia)).trans ?_;rw[jf,bI];exact List.Perm.append_left _<|B8 _ _ lt
def xS{α:Type}(next:Nat->Nat)(xs:Array α):(pickOrder next xs).toList.Perm xs.toList:=by
 have:=FL next xs.size 0 xs.toList #[] (by rw[bJ]);simpa[pickOrder]using this
theorem FG{α:Type}:∀(n:Nat) (xs:List α) (s:aA) (Q:List α->aA->Prop),xs.length=n->(∀ys d,ys.Perm xs->Q ys { s with drawn:=d })->wpAny M A (drawOrder n xs) Q E s
 | 0,xs,s,Q,h,q=>by
  rw[cH.mp h];rw[cH.mp h]at q;unfold drawOrder;exact aL<|q [] s.drawn<|.refl _
 | n+1,[],s,Q,h,q=>nomatch h
 | n+1,x::xs,s,Q,h,q=>by
  unfold drawOrder;refine aG (λg p f=>⟨by simp,?_⟩);generalize hj:M.w.draws .order (s.drawn.get .order) % (x::xs).length=j;have lt:j<(x::xs).length:=by rw[<- hj];exact mod_lt _ (by simp)
  show wpAny M A _ Q E { s with drawn:=s.drawn.bump .order };rw[aH lt];refine aG (FG n ((x::xs).eraseIdx j) _ _ (by rw[f6 lt];simp at h ⊢;lia) λys d hy=>aL<|q _ d ?_);exact(List.Perm.cons _ hy).trans (B8 _ _ lt)
abbrev yJ (h:ak)(I a:aj)(first:aa)(i n ep:Nat):Prop:=∃o,h.get? I=some o/\o.cls=.type "set_iterator" /\ o.data=.fields #[first,.int i 0,.ref a,.int n 0,.int ep 0]
def yJ.ty {I a:aj}{f:aa}{i n ep:Nat}(h:yJ s.heap I a f i n ep):s.TypeIs (.ref I) "set_iterator" := let⟨o,ho,hc,_⟩:=h;⟨o,ho,hc⟩
def yJ.at {h h':ak}{I a:aj}{f:aa}{i n ep:Nat}(x:yJ h I a f i n ep)(k:∀o,h.get? I=some o->h'.get? I=some o):yJ h' I a f i n ep:=let⟨o,ho,r⟩:=x;⟨o,k o ho,r⟩
def yJ.set {h:ak}{I a:aj}{f g:aa}{i j n ep:Nat}(x:yJ h I a f i n ep):yJ ((h.update I<|Obj.mapFields λfs=>fs.setIfInBounds 0 g).update I<|Obj.mapFields λfs=>fs.setIfInBounds 1<|.int j 0) I a g j n ep:=by
 obtain⟨o,k,hc,hd⟩:=x;have h1:=bX (Obj.mapFields λfs=>fs.setIfInBounds 0 g) k<|di<|b6 hd _;have d:=b6 hd λfs=>fs.setIfInBounds 0 g;refine⟨_,bX _ h1<|di<|b6 d _,(gS ..).trans<|(gS ..).trans hc,?_⟩;rw[b6 d];simp
def yJ.Xv {h:ak}{I a:aj}{f:aa}{i j n ep:Nat}(x:yJ h I a f i n ep):yJ (h.update I<|Obj.mapFields λfs=>fs.setIfInBounds 1<|.int j 0) I a f j n ep:=by
 obtain⟨o,d,hc,hd⟩:=x;refine⟨_,bX _ d<|di<|b6 hd _,(gS ..).trans hc,?_⟩;rw[b6 hd];simp
section
variable {I a:aj}{i ep:Nat}{o:Obj}{es:Array (Int×aa)}{t:SetTable}{Q:bj->aA->Prop}
def KQ {J sl':Nat}{x:aa}(hi:yJ s.heap I a (.int J 0) i es.size ep)(L:s.heap.get? a=some o)(hd:o.data=.set es ep t)(hf:t.fits es.size=true)
  (hn:∀(A:az) (E:aa->aA->Prop) (Q:Option (aa×Nat)->aA->Prop),Q (some (x,sl')) s->wpAny (model P w) A (setNext a J i ep) Q E s)
  (q:∀h',yJ h' I a (.int sl' 0) (i+1) es.size ep->Heap.SameBut I s.heap h'->Q (some x) { s with heap:=h' }):wpAny (model P w) A (pyNext<|.ref I) Q E s:=by
 have ty:=hi.ty;obtain⟨B,f,k,d⟩:=id hi;unfold pyNext;kcf_m;refine aG<|aL<|aG<|i7 f d ?_;show wpAny (model P w) _ (setEntries a >>= _) _ _ s;refine aG<|aG<|ck L hd hf<|aL ?_;rw[aO<|show ¬_ by simp];show wpAny (model P w) _ (setNext a (J:Int).toNat (i:Int).toNat (ep:Int).toNat >>= _) _ _ s;rw[bY,bY,bY];refine aG<|hn _ _ _ ?_;have p:=bX (Obj.mapFields λfs=>fs.setIfInBounds 0<|rawInt sl') f<|di<|b6 d _;have m:=b6 d λfs=>fs.setIfInBounds 0<|rawInt sl';refine aG (eE f d (show _ by simp) ?_);refine aG (eE (i:=1) (x:=rawInt<|(i:Int)+1) p m (show _ by simp) ?_);refine aL ⟨_,rfl,aL<|q _ (hi.set (g:=.int sl' 0) (j:=i+1))<|(dh ..).trans<|dh ..⟩
def F2 {J:Nat}(hh:A.handled=none)(hi:yJ s.heap I a (.int J 0) i es.size ep)(L:s.heap.get? a=some o)(hd:o.data=.set es ep t)(hf:t.fits es.size=true)
  (hn:∀(A:az) (E:aa->aA->Prop) (Q:Option (aa×Nat)->aA->Prop),Q none s->wpAny (model P w) A (setNext a J i ep) Q E s)
  (q:∀h',Heap.ExtBut I s.heap h'->Q none { s with heap:=h' }):wpAny (model P w) A (pyNext<|.ref I) Q E s:=by
 have ty:=hi.ty;obtain⟨j,f,g,d⟩:=id hi;unfold pyNext;kcf_m;refine aG<|aL<|aG<|i7 f d ?_;show wpAny (model P w) _ (setEntries a >>= _) _ _ s;refine aG<|aG<|ck L hd hf<|aL ?_;rw[aO<|show ¬_ by simp];show wpAny (model P w) _ (setNext a (J:Int).toNat (i:Int).toNat (ep:Int).toNat >>= _) _ _ s;rw[bY,bY,bY];refine aG<|hn _ _ _ ?_;refine aG (eE f d (show _ by simp) ?_);show wpAny (model P w) _ (newExc (.type "StopIteration") [] >>= _) _ _ _;refine aG ?_;dsimp[newExc,newTuple];refine aG (bG (aG (m:=firstArgMember _ _)<|iG (a:=Value.none) (by first|rfl|(dsimp[firstArgMember];rfl))<|bG ?_<|by size_fits)<|by size_fits);dsimp[raiseNew];have hn:A.in1.handled=none:=hh;refine aG<|wpAny_handled<|?_;rw[hn];refine aG<|aL<|wpAny_throw<|?_;refine aG<|iw (b:=true) (T := "StopIteration") ⟨_,a_ _ rfl,rfl⟩ isSubtype_stop<|aL<|q _<|((dh ..).extBut.push _).push _
section
variable {T:aj}{pl:ar}{oT:Obj}{kT:Nat}
def T6 {p:Nat}{e:Int×aa}(hi:yJ s.heap I a (.ref T) i es.size ep)(L:s.heap.get? T=some oT)(dT:oT.data=.seq (pl.map λi:Nat=>rawInt i).toArray kT)(J:s.heap.get? a=some o)(hd:o.data=.set es ep t)(hf:t.fits es.size=true)
  (hp:pl[i]?=some p) (U:es[p]?=some e) (q:∀h',yJ h' I a (.ref T) (i+1) es.size ep->Heap.SameBut I s.heap h'->Q (some e.2) { s with heap:=h' }):wpAny (model P w) A (pyNext<|.ref I) Q E s:=by
 have ty:=hi.ty;obtain⟨k,f,g,d⟩:=id hi;unfold pyNext;kcf_m;refine aG<|aL<|aG<|i7 f d ?_;show wpAny (model P w) _ (setEntries a >>= _) _ _ s;refine aG<|aG<|ck J hd hf<|aL ?_;rw[aO<|show ¬_ by simp];refine aG<|wpAny_seqItems L dT ?_;have e1:(pl.map λi:Nat=>rawInt i).toArray[(i:Int).toNat]?=some (rawInt p):=by
  rw[bY,fD,bu,hp];rfl
 dsimp only;rw[e1];show wpAny (model P w) _ (setNextDrawn a (p:Int).toNat (ep:Int).toNat >>= _) _ _ s;rw[bY,bY];unfold setNextDrawn;refine aG<|aG<|ck J hd hf ?_;dsimp only;rw[aO<|show ¬_ by simp];refine aG<|aL ?_;rw[U];refine aL ?_;refine aG (eE (i:=1) (x:=rawInt<|(i:Int)+1) f d (show _ by simp) ?_);exact aL ⟨_,rfl,aL<|q _ (hi.Xv (j:=i+1))<|dh ..⟩
def OO (hh:A.handled=none)(hi:yJ s.heap I a (.ref T) i es.size ep)(J:s.heap.get? T=some oT)(dT:oT.data=.seq (pl.map λi:Nat=>rawInt i).toArray kT)(L:s.heap.get? a=some o)(hd:o.data=.set es ep t)(hf:t.fits es.size=true)
  (hp:pl.length<=i) (q:∀h',Heap.ExtBut I s.heap h'->Q none { s with heap:=h' }):wpAny (model P w) A (pyNext<|.ref I) Q E s:=by
 have ty:=hi.ty;obtain⟨p,f,g,d⟩:=id hi;unfold pyNext;kcf_m;refine aG<|aL<|aG<|i7 f d ?_;show wpAny (model P w) _ (setEntries a >>= _) _ _ s;refine aG<|aG<|ck L hd hf<|aL ?_;rw[aO<|show ¬_ by simp];refine aG<|wpAny_seqItems J dT ?_;have e1:(pl.map λi:Nat=>rawInt i).toArray[(i:Int).toNat]?=none:=by
  rw[bY,fD,bN<|by rw[aK];exact hp]
 dsimp only;rw[e1];have j:=bX (Obj.mapFields λfs=>fs.setIfInBounds 0<|rawInt 0) f<|di<|b6 d _;have k:=b6 d λfs=>fs.setIfInBounds 0<|rawInt 0;refine aG (eE f d (show _ by simp) ?_);refine aG (eE (i:=2) (x:=.none) j k (show _ by simp) ?_);show wpAny (model P w) _ (newExc (.type "StopIteration") [] >>= _) _ _ _;refine aG ?_;dsimp[newExc,newTuple];refine aG (bG (aG (m:=firstArgMember _ _)<|iG (a:=Value.none) (by first|rfl|(dsimp[firstArgMember];rfl))<|bG ?_<|by size_fits)<|by size_fits);dsimp[raiseNew];have hn:A.in1.handled=none:=hh;refine aG<|wpAny_handled<|?_;rw[hn];refine aG<|aL<|wpAny_throw<|?_;refine aG<|iw (b:=true) (T := "StopIteration") ⟨_,a_ _ rfl,rfl⟩ isSubtype_stop<|aL<|q _<|(((dh ..).trans<|dh ..).extBut.push _).push _
end
end
end
def DY:Slot "set_iterator" "__iter__" "set_iterator.__iter__" :=
 .of (owner := "set_iterator") (n := "__iter__") (by rw[typeLookup_type,h_];kernel_rfl) ∅ ∅ ∅ (by first|exact .inl ∅|exact .inr ∅) (by rw[i6];kernel_rfl)
def Lj:entryFor table "set_iterator.__iter__" = some Builtin.«dict_keyiterator.__iter__»:=entryFor_alias (id' := "dict_keyiterator.__iter__") (by kernel_rfl) rfl ∅ (by kernel_rfl)
def LS(a:aa):argsOk "set_iterator.__iter__" ⟨[a],[]⟩:=by
 unfold argsOk;rw[signature?_of (id := "set_iterator.__iter__") (n:=['_','_','r','e','t','i','_','_']) (o:=['r','o','t','a','r','e','t','i','_','t','e','s']) (by kernel_rfl) MI];kernel_rfl
def y_:Slot "set" "__iter__" "set.__iter__" :=
 .of (owner := "set") (n := "__iter__") (by rw[typeLookup_type,h_];kernel_rfl) ∅ ∅ ∅ (by first|exact .inl ∅|exact .inr ∅) (by rw[i6];kernel_rfl)
def TX:Manifest.owners.lookup (String.ofList ['t','e','s'].reverse)=some Manifest.sig_set:=by kernel_rfl
def EO(a:aa):argsOk "set.__iter__" ⟨[a],[]⟩:=by
 unfold argsOk;rw[signature?_of (id := "set.__iter__") (n:=['_','_','r','e','t','i','_','_']) (o:=['t','e','s']) (by kernel_rfl) TX];kernel_rfl
section
variable {P:ah}{w:af}{A:az}{E:aa->aA->Prop}{s:aA}{I a:aj}{ep:Nat}{o:Obj}{es:Array (Int×aa)}{t:SetTable}
def BS{Q:Bool->aA->Prop}(h:Q (w.params.followText "set-order") s):wpAny (model P w) A setsByText Q E s:=by
 unfold setsByText;exact aG<|wpAny_askSetting<|aL h
def A_ {j i:Nat}{Q:Option (aa×Nat)->aA->Prop}(hb:w.params.followText "set-order" = true)(J:s.heap.get? a=some o)(hd:o.data=.set es ep t)(hf:t.fits es.size=true)
  (h:Q (((pickOrder (w.params.setOrder a ep) es)[i]?).map λe=>(e.2,j)) s):wpAny (model P w) A (setNext a j i ep) Q E s:=by
 unfold setNext;refine aG<|ck J hd hf ?_;dsimp only;refine aG<|BS ?_;rw[aQ hb,aO<|show ¬_ by simp];unfold setWalk;refine aG<|aG<|ck J hd hf ?_;dsimp only;refine aG<|BS ?_;rw[aQ hb];refine aG<|wpAny_askSetting<|aL<|aL h
def zB {J i:Nat}{Q:Option (aa×Nat)->aA->Prop}(hb:w.params.followText "set-order" = false)(L:s.heap.get? a=some o)(hd:o.data=.set es ep t)(hf:t.fits es.size=true)(U:t.led=true)(hp:(!t.plain && decide (es.size>1))=false)
  (h:Q (match es[SetTable.below t.place J]?,t.place[SetTable.below t.place J]? with
   | some (_,x),some j=>some (x,j+1)
   | _,_=>none) s):wpAny (model P w) A (setNext a J i ep) Q E s:=by
 unfold setNext;refine aG<|ck L hd hf ?_;dsimp only;refine aG<|BS ?_;rw[aO<|by rw[hb];exact bh];show wpAny (model P w) A (if (!t.plain && decide (es.size>1))=true then _ else _) _ _ s;rw[aO<|by rw[hp];exact bh];refine aG (m:=if (!t.led && !es.isEmpty)=true then unsupported "set:maker-not-led" else pure Unit.unit) ?_;rw[aO<|by rw[U];exact bh];exact aL<|aL h
abbrev SW (P:ah)(w:af)(A:az)(a:aj)(h0:ak)(vals:be)(v:aa)(h':ak):Prop:=
 ∃(I:aj) (fp:bi) (ord:be) (St:Nat->ak->Prop),v=.ref I/\ord.Perm vals/\h0.objs.size<=I/\(∀b,b<h0.objs.size->b≠a->b∉fp)/\Walks P w A I fp [I] ord.length (λi v=>ord[i]?=some v) St/\St 0 h'/\∀b o,h0.get? b=some o->h'.get? b=some o
def xF {first:aa}{i n:Nat}{Q:aa->aA->Prop}(hi:yJ s.heap I a first i n ep)(q:Q (.ref I) s):wpAny (model P w) A (pyIter<|.ref I) Q E s:=by
 refine wpAny_pyIter_slot hi.ty DY<|c9 DY hi.ty Lj ?_<|LS _;exact aL ⟨_,rfl, "set_iterator",_,hi.ty,mX.lookup,q⟩
def E9 (hh:A.handled=none)(ne:a≠I)(hb:w.params.followText "set-order" = true)(hd:o.data=.set es ep t)(hf:t.fits es.size=true) :
  Walks P w A I [I,a] [I] es.size (λi v=>((pickOrder (w.params.setOrder a ep) es).toList.map (·.2))[i]?=some v) (λi h=>yJ h I a (.int 0 0) i es.size ep/\h.get? a=some o):=by
 have sz:(pickOrder (w.params.setOrder a ep) es).size=es.size:=by
  have:=(xS (w.params.setOrder a ep) es).length_eq
  rwa [bJ,bJ]at this
 exact {
  sub:=λb hb=>by rw[aX.mp hb];exact aT ..
  frame:=λ_ _ _ st d=>⟨st.1.at<|d I<|aT ..,d a (aS _<|aT ..) o st.2⟩
  item:=λi s Q E lt st q=>KQ (x:=((pickOrder (w.params.setOrder a ep) es)[i]'()).2) (sl':=0) st.1 st.2 hd hf (λf g j q'=>A_ hb st.2 hd hf<|by rw[cA ()];exact q')
   λh' k1 k2=>q _ h' s.toks (by rw[bu,dM,cA ()];rfl) ⟨k1,k2.extBut a o ne st.2⟩ λb x nb e=>k2.extBut b x (λz=>nb<|aX.mpr z) e
  done:=λs Q E st q=>F2 hh st.1 st.2 hd hf (λf g j q'=>A_ hb st.2 hd hf<|by rw[fU ()];exact q') λh' k=>q h' s.toks λb x nb e=>k b x (λz=>nb<|aX.mpr z) e
  self:=λ_ _ _ _ st q=>xF st.1 q }
def Cv (hh:A.handled=none)(ne:a≠I)(hb:w.params.followText "set-order" = false)(hd:o.data=.set es ep t)(hf:t.fits es.size=true)(J:t.led=true)(hp:(!t.plain && decide (es.size>1))=false)(hs:Sr t) :
  Walks P w A I [I,a] [I] es.size (λi v=>(es.toList.map (·.2))[i]?=some v) (λi h=>(∃sl:Nat,SetTable.below t.place sl=i/\yJ h I a (.int sl 0) i es.size ep)/\h.get? a=some o):=by
 have sz:t.place.size=es.size:=by
  unfold SetTable.fits at hf;rw[bE,dW]at hf;exact hf.1
 exact {
  sub:=λb hb=>by rw[aX.mp hb];exact aT ..
  frame:=λ_ _ _ st g=>by
   obtain⟨⟨sl,h1,f⟩,d⟩:=st;exact⟨⟨sl,h1,f.at<|g I<|aT ..⟩,g a (aS _<|aT ..) o d⟩
  item:=λi s Q E lt st q=>by
   obtain⟨⟨sl,h1,f⟩,d⟩:=st;refine KQ (x:=(es[i]'lt).2) (sl':=t.place[i]'()+1) f d hd hf (λj m p q'=>zB hb d hd hf J hp ?_) λh' k1 k2=>q _ h' s.toks (by rw[bu,dM,cA lt];rfl) ⟨⟨_,Et hs.up (),k1⟩,k2.extBut a o ne d⟩ λb x nb e=>k2.extBut b x (λz=>nb<|aX.mpr z) e;rw[h1,cA lt,cA<|show i<t.place.size by lia];exact q'
  done:=λs Q E st q=>by
   obtain⟨⟨sl,h1,f⟩,d⟩:=st;refine F2 hh f d hd hf (λj m p q'=>zB hb d hd hf J hp ?_) λh' k=>q h' s.toks λb x nb e=>k b x (λz=>nb<|aX.mpr z) e;rw[h1,fU<|aP _];exact q'
  self:=λ_ _ _ _ st q=>by
   obtain⟨⟨sl,h1,f⟩,d⟩:=st;exact xF f q }
def CI {T:aj}{oT:Obj}{pl:ar}{kT:Nat}(hh:A.handled=none)(ne:a≠I)(L:T≠I)(dT:oT.data=.seq (pl.map λi:Nat=>rawInt i).toArray kT)(J:pl.Perm<|List.range es.size)(hd:o.data=.set es ep t)(hf:t.fits es.size=true) :
  Walks P w A I [I,a,T] [I] es.size (λi v=>(pl.map λp=>(es.getD p (0,.none)).2)[i]?=some v) (λi h=>yJ h I a (.ref T) i es.size ep/\h.get? a=some o/\h.get? T=some oT):=by
 have j:pl.length=es.size:=by rw[J.length_eq,bW]
 exact {
  sub:=λb g=>by rw[aX.mp g];exact aT ..
  frame:=λ_ _ _ st d=>⟨st.1.at<|d I<|by simp,d a (by simp) o st.2.1,d T (by simp) oT st.2.2⟩
  item:=λi s Q E lt st q=>by
   have hp:pl[i]?=some (pl[i]'()):=aH _;have f:pl[i]'()<es.size:=dF.mp<|J.mem_iff.mp<|cJ _;refine T6 st.1 st.2.2 dT st.2.1 hd hf hp (cA f) λh' k1 k2=>q _ h' s.toks (by rw[bu,hp];simp[Array.getD,f]) ⟨k1,k2.extBut a o ne st.2.1,k2.extBut T oT L st.2.2⟩ λb x nb e=>k2.extBut b x (λz=>nb<|aX.mpr z) e
  done:=λs Q E st q=>OO hh st.1 st.2.2 dT st.2.1 hd hf () λh' k=>q h' s.toks λb x nb e=>k b x (λz=>nb<|aX.mpr z) e
  self:=λ_ _ _ _ st q=>xF st.1 q }
def WQ {Q:aa->aA->Prop}(hh:A.handled=none)(J:s.heap.get? a=some o)(L:o.ExactSet)(hd:o.data=.set es ep t)(hf:t.fits es.size=true)(hz:es.size<scanBound)(hs:Sr t)(U:t.led=Co w)
  (q:∀v h' d,SW P w A a s.heap (es.toList.map (·.2)) v h'->Q v { s with heap:=h',drawn:=d }):wpAny (model P w) A (pyIter<|.ref a) Q E s:=by
 have ty:s.TypeIs (.ref a) "set" := ⟨o,J,L.1⟩;have m:=aW J;have G:(es.toList.map (·.2)).length=es.size:=by simp
 refine wpAny_pyIter_slot ty y_<|c9 y_ ty Ln ?_<|EO _;unfold Builtin.«frozenset.__iter__»;refine aG<|aG<|aL<|aL ?_;refine aG<|aG<|aG<|ck J hd hf<|aL<|aL ?_;refine aG<|aG<|ck J hd hf ?_;dsimp only;refine aG (BS<|aL ?_)
 cases k:w.params.followText "set-order" with
 | true=>
  rw[aO<|show ¬((!true && _)=true)by simp];refine aG<|aL<|aG<|aG<|ck J hd hf<|aL ?_;refine aG<|bG<|aL ⟨_,rfl, "set_iterator",_,⟨_,a_ _ rfl,rfl⟩,mX.lookup,?_⟩;refine q _ _ s.drawn ⟨s.heap.objs.size,[s.heap.objs.size,a],(pickOrder (w.params.setOrder a ep) es).toList.map (·.2),(λi h=>yJ h s.heap.objs.size a (.int 0 0) i es.size ep/\h.get? a=some o),rfl,(xS _ _).map _,aP _,λb h1 g=>by simp;exact⟨bq h1,g⟩,?_,⟨⟨_,a_ _ rfl,rfl,rfl⟩,aM _ J⟩,λb o e=>aM _ e⟩;have W:=E9 (P:=P) (I:=s.heap.objs.size) (a:=a) hh (bq m) k hd hf;rw[aK,(xS (w.params.setOrder a ep) es).length_eq,bJ];exact W
 | false=>
  have B:t.led=true:=by rw[U];unfold Co;rw[k];rfl
  by_cases hp:(!t.plain && decide (es.size>1))=true
  ·show wpAny (model P w) A.in1 (if (!false && (!t.plain && decide (es.size>1)))=true then _ else _) _ _ s;rw[aQ<|show(!false && (!t.plain && decide (es.size>1)))=true by rw[hp];rfl];refine aG<|FG es.size (List.range es.size) s _ bW λys d hy=>?_;refine aG (wpAny_newTuple ?_<|by rw[aK,hy.length_eq,bW];unfold scanBound at hz;unfold sizeLine;lia);have j:(s.heap.push { cls:=.type "tuple",data:=.seq (ys.map λi:Nat=>rawInt i).toArray }).get? a=some o:=aM _ J;refine aG<|aG<|ck j hd hf<|aL ?_;refine aG<|bG<|aL ⟨_,rfl, "set_iterator",_,⟨_,a_ _ rfl,rfl⟩,mX.lookup,?_⟩;have f:(s.heap.push { cls:=.type "tuple",data:=.seq (ys.map λi:Nat=>rawInt i).toArray }).objs.size=s.heap.objs.size+1:=dG ..;have F:(s.heap.push { cls:=.type "tuple",data:=.seq (ys.map λi:Nat=>rawInt i).toArray }).get? s.heap.objs.size=some { cls:=.type "tuple",data:=.seq (ys.map λi:Nat=>rawInt i).toArray }:=a_ _ rfl;refine q _ _ d ⟨_,[(s.heap.push { cls:=.type "tuple",data:=.seq (ys.map λi:Nat=>rawInt i).toArray }).objs.size,a,s.heap.objs.size],ys.map λp=>(es.getD p (0,.none)).2,(λi h=>yJ h (s.heap.push { cls:=.type "tuple",data:=.seq (ys.map λi:Nat=>rawInt i).toArray }).objs.size a (.ref s.heap.objs.size) i es.size ep/\h.get? a=some o/\h.get? s.heap.objs.size=some { cls:=.type "tuple",data:=.seq (ys.map λi:Nat=>rawInt i).toArray }),rfl,?_,by rw[f];lia,λb h1 g=>by rw[f];simp;exact⟨(),g,()⟩,?_,⟨⟨_,a_ _ rfl,rfl,rfl⟩,aM _ j,aM _ F⟩,λb o e=>aM _<|aM _ e⟩
   ·refine(hy.map _).trans (.of_eq ?_);refine jk (by simp) λi h1 g=>?_;simp at h1;simp[Array.getD,h1]
   ·rw[aK,hy.length_eq,bW];exact CI hh (by rw[f];exact bq<|fK m) (by rw[f];exact bq<|dI _) rfl hy hd hf
  ·have hp:(!t.plain && decide (es.size>1))=false:=by simpa using hp
   show wpAny (model P w) A.in1 (if (!false && (!t.plain && decide (es.size>1)))=true then _ else _) _ _ s;rw[aO<|show ¬((!false && (!t.plain && decide (es.size>1)))=true)by rw[hp];simp];refine aG<|aL<|aG<|aG<|ck J hd hf<|aL ?_;refine aG<|bG<|aL ⟨_,rfl, "set_iterator",_,⟨_,a_ _ rfl,rfl⟩,mX.lookup,?_⟩;refine q _ _ s.drawn ⟨s.heap.objs.size,[s.heap.objs.size,a],es.toList.map (·.2),(λi h=>(∃C:Nat,SetTable.below t.place C=i/\yJ h s.heap.objs.size a (.int C 0) i es.size ep)/\h.get? a=some o),rfl,.refl _,aP _,λb h1 g=>by simp;exact⟨bq h1,g⟩,?_,⟨⟨0,IB hs.up,⟨_,a_ _ rfl,rfl,rfl⟩⟩,aM _ J⟩,λb o e=>aM _ e⟩;rw[G];exact Cv hh (bq m) k hd hf B hp hs
end
section
variable {P:ah}{w:af}{A:az}{E:aa->aA->Prop}{s:aA}{I a:aj}{ep:Nat}{o:Obj}{es:Array (Int×aa)}{t:SetTable}
def KA{Q:Bool->aA->Prop}(j:s.TypeIs (.ref a) "set")(h:Q false s):wpAny (model P w) A (Builtin.List.listLengthHint<|.ref a) Q E s:=by
 unfold Builtin.List.listLengthHint;refine aG<|wpAny_specialOf j PySem.F.slot_set_len.lookup ?_;generalize hid:("set.__len__" : String)=id0
 wp_delta
 rw[show splitId id0=some ("set", "__len__")from by subst hid;decide +kernel];subst hid;refine aG (iw (T := "set") (b:=true) j (by rw[i6];kernel_rfl) ?_);refine wpAny_ite_split (λd=>absurd d ⋯) λ_=>?_;refine wpAny_ite_split (λ_=>?_) λd=>absurd ∅ d;refine aG<|iS j ?_;exact aL h
def U3{R:be->aA->Prop}(hh:A.handled=none)(ho:s.heap.get? a=some o)(hx:o.ExactSet)(hd:o.data=.set es ep t)(hf:t.fits es.size=true)(hz:es.size<scanBound)(hs:Sr t)(hl:t.led=Co w)
  (h:∀(h':ak) (tk:Nat) (d:Drawn) (ord:be),ord.Perm (es.toList.map (·.2))->(∀b o,s.heap.get? b=some o->h'.get? b=some o)->R ord { s with heap:=h',toks:=tk,drawn:=d }) :
  wpAny (model P w) A (collect<|.ref a) R E s:=by
 have la:=aW ho;unfold collect;refine aG<|iX<|d8 entry_proto_collect' ?_;rw[dQ PySem.F.plain_proto_collect _];refine aG<|bG ?_;refine aL ⟨gp PySem.F.plain_list_iadd _,d8 entry_list_iadd' ?_⟩;rw[dQ PySem.F.plain_list_iadd _];have g0:(s.heap.push {}).get? s.heap.objs.size=some { cls:=.type "list",data:=.seq #[]}:=a_ _ rfl;have U:(s.heap.push {}).get? a=some o:=aM _ ho;have ty:Shared.TypeIs { s with heap:=s.heap.push {}} (.ref a) "set" := ⟨o,U,hx.1⟩;have sz:(s.heap.push {}).objs.size=s.heap.objs.size+1:=dG ..;show wpAny _ A.in1 (Builtin.List.listExtendWith (.ref s.heap.objs.size) (.ref a)<|.ref s.heap.objs.size) _ _ _;unfold Builtin.List.listExtendWith;refine aG<|iS ty ?_;have n1:Builtin.List.listSameRef (.ref s.heap.objs.size) (.ref a)=false:=by simp[Builtin.List.listSameRef,cL<|bq la]
 dsimp[n1,show(Value.type "set" == Value.type "list")=false by decide,show(Value.type "set" == Value.type "tuple")=false by decide,Bool.or_false,bZ,dS];refine aG<|WQ (A:=A.in1) (s:={ s with heap:=s.heap.push {}}) hh U hx hd hf hz hs hl λv h1 d W=>?_;obtain⟨I,fp,ord,St,rfl,K,hI,O,W,st,Z⟩:=W;have on:ord.length=es.size:=by rw[K.length_eq];simp
 have nS:s.heap.objs.size∉fp:=O _ (by rw[sz];lia)<|f_ la;have m:∀(p:ak) (c:Nat),St 0 p->(∀b f,b≠s.heap.objs.size->h1.get? b=some f->p.get? b=some f)->p.get? s.heap.objs.size=some { cls:=.type "list",data:=.seq #[] c } ->
   codeAny (model P w) A (.builtin "list.extend.loop" ⟨[.ref s.heap.objs.size,.ref I,.ref s.heap.objs.size],[]⟩) (λr s'=>∃(h':ak) (tk:Nat) (B:Nat),r=.ok (.ret<|.ref s.heap.objs.size)/\s'={ s with heap:=h',toks:=tk,drawn:=d } /\
    (∀b f,s.heap.get? b=some f->h'.get? b=some f)/\h'.get? s.heap.objs.size=some { cls:=.type "list",dict:=none,data:=.seq ord.toArray B,slots:=#[]}) { s with heap:=p,drawn:=d }:=by
  intro p c L k2 C;refine codeAny_extend_loopS W.toS (by rw[on];unfold scanBound at hz;unfold sizeLine;lia) _ nS _ ord.length 0 _ #[] c rfl (cz _) L C (ItemsOf.nil _) λs' acc B hm J g=>?_;rw[Moved.eq_with hm];have ea:acc=ord.toArray:=by
   apply Array.ext';refine eN λj=>?_;show acc.toList[j]?=ord[j]?;rw[dM]
   cases e:acc[j]? with
   | some v=>exact(g.2 j v e).symm
   | none=>
    have:acc.size<=j:=Array.getElem?_eq_none_iff.mp e;rw[bN<|by rw[<- g.1];exact this]
  subst ea;refine⟨s'.heap,s'.toks,B,rfl,rfl,λb f e=>hm.heap b f (λG=>?_)<|k2 b f (bq<|aW e)<|Z b f<|aM _ e,J⟩;have lb:=aW e
  rcases bf.mp G with z|z
  ·exact absurd z (bq lb)
  ·have:=aX.mp z;have k:(s.heap.push {}).objs.size<=I:=hI;rw[sz]at k;exact absurd lb<|by rw[this];exact Nat.not_lt.mpr<|Nat.le_of_succ_le k
 have Y:=Z _ _ g0;have T:Shared.TypeIs { s with heap:=h1,drawn:=d } (.ref a) "set" := ⟨o,Z _ _ U,hx.1⟩;refine aG<|b_<|KA T ?_;refine wpAny_ite_split (λ_=>?_) (λ_=>aL ⟨gp PySem.F.plain_extend_loop _,eW (m h1 0 st (λ_ _ _ e=>e) Y) λr s' V=>?_⟩)
 ·refine aG<|gF ?_;refine aG ?_;show wpAny _ _ (updateSeq s.heap.objs.size (·.push .none) >>= λ_=>updateSeq s.heap.objs.size (·.pop)) _ _ _;refine aG<|wpAny_updateSeq Y rfl ?_;have C:=bX (Obj.mapSeq (·.push Value.none)) Y rfl;refine wpAny_updateSeq (hz:=by seq_fits) C rfl ?_;have J:=bX (Obj.mapSeq (·.pop)) C rfl;refine aL ⟨gp PySem.F.plain_extend_loop _,eW (m _ _ (W.frame 0 _ _ st λb G f e=>?_) (λb f nb e=>?_) J) λr s' V=>?_⟩
  ·have nb:b≠s.heap.objs.size:=λz=>nS<|z ▸ G;exact(cB _ _<|cL nb).trans ((cB _ _<|cL nb).trans e)
  ·exact(cB _ _<|cL nb).trans ((cB _ _<|cL nb).trans e)
  ·obtain⟨h',tk,B,rfl,rfl,N,g'⟩:=V;show wpAny _ A (load s.heap.objs.size >>= _) _ _ _;refine aG<|wpAny_load g' ?_;exact aL<|h h' tk d ord K N
 ·obtain⟨h',tk,B,rfl,rfl,N,g'⟩:=V;show wpAny _ A (load s.heap.objs.size >>= _) _ _ _;refine aG<|wpAny_load g' ?_;exact aL<|h h' tk d ord K N
end
abbrev Sl (P:ah)(w:af)(o:Obj)(ns:ag):Prop:=∃es ep t,o.ExactSet/\o.data=.set es ep t/\(∃ms:ag,IntsAre (es.toList.map (·.2)) ms/\ms.Perm ns)/\es.size<scanBound/\t.fits es.size=true/\Sr t/\t.led=Co w
theorem zp{P:ah}{w:af}:∀(es:List<|Int×aa),ElemsOf (intKind P w) es->∃ms:ag,IntsAre (es.map (·.2)) ms/\∀k,(∃e∈es,(intKind P w).is k e.2=true)->k∈ms
 | [],_=>⟨[],.nil,λk ⟨_,h,_⟩=>nomatch h⟩
 | e::es,h=>by
  obtain⟨ms,h1,m⟩:=zp es λx d=>h x<|aS _ d;obtain⟨⟨k,p,_⟩,_⟩:=h e<|aT ..;obtain⟨t,g⟩:=jb (k:=k) (v:=e.2) p;refine⟨k::ms,by rw[bP,g];exact .cons k t h1,λj ⟨x,d,q⟩=>?_⟩
  rcases bf.mp d with rfl|d
  ·obtain⟨B,f⟩:=jb (k:=j) (v:=x.2) q;have z:=g.symm.trans f
   injection z with z
   rw[<- z];exact aT ..
  ·exact aS _<|m j ⟨x,d,q⟩
def LU{ds ms:ag}(j:ds.Nodup)(h:∀x∈ds,x∈ms)(J:ms.length=ds.length):ms.Perm ds:=by
 induction ds generalizing ms with
 | nil=>rw[cH.mp J]
 | cons d ds g=>
  have hd:=h d<|aT ..;have p:=List.perm_cons_erase hd;refine p.trans (List.Perm.cons d<|g (eO.mp j).2 (λx f=>?_) (by have:=p.length_eq;simp at this J;lia));have nx:x≠d:=λz=>(eO.mp j).1 (z ▸ f)
  rcases bf.mp (p.mem_iff.mp<|h x<|aS _ f)with z|z
  ·exact absurd z nx
  ·exact z
def Iu:∀{vs ws:be},ws.Perm vs->∀{ms:ag},IntsAre vs ms->∃ks:ag,IntsAre ws ks/\ks.Perm ms:=by
 intro vs ws p
 induction p with
 | nil=>exact λh=>⟨_,h,.refl _⟩
 | cons x _ C=>
  intro ms h
  cases h with
  | cons n t h=>
   obtain⟨ks,h1,f⟩:=C h;exact⟨n::ks,.cons n t h1,f.cons n⟩
 | swap x y l=>
  intro ms h
  cases h with
  | cons n t h=>cases h with
   | cons m u h=>exact⟨m::n::_,.cons m u<|.cons n t h,.swap ..⟩
 | trans _ _ g d=>
  intro ms h;obtain⟨ks,h1,f⟩:=d h;obtain⟨k,j,B⟩:=g h1;exact⟨k,j,B.trans f⟩
def TN{P:ah}{w:af}{h:ak}{a:aj}{ns:ag}(J:ns.Nodup)(r:vd P w (Co w) h a (λk=>ns.any (· == k)) ns.length):∃o,h.get? a=some o/\Sl P w o ns:=by
 obtain⟨o,es,ep,t,p,d,hd,el,j,C,hf,hn,hs,g⟩:=r;obtain⟨f,h1,m⟩:=zp es.toList el;have B:f.length=es.size:=by
  have:=(Bv h1).1;rw[aK,bJ]at this;exact this.symm
 refine⟨o,p,es,ep,t,d,hd,⟨f,h1,LU J (λx d=>m x<|(j x).mp ?_)<|by rw[B,hn]⟩,C,hf,hs,g⟩;rw[jl];exact⟨x,d,bx _⟩
theorem DT:∀(ns acc:ag),(acc++ns).Nodup->ns.foldl step_dedup acc=acc++ns
 | [],acc,_=>(bS _).symm
 | n::ns,acc,h=>by
  have hn:n∉acc:=λz=>by
   have:=gW.mp h;exact this.2.2 n z n (aT ..) rfl
  have e:step_dedup acc n=acc++[n]:=by
   unfold step_dedup;rw[aO<|by rw[jl];rintro⟨x,d,q⟩;exact hn<|by rw[<- (dW.mp q)];exact d]
  rw[iK,e,DT ns (acc++[n])<|by rw[bI];exact h,bI];rfl
section
variable {X:Cx}
def Inv.ZE{H:Hp}{s:aA}{d:Drawn}(I:Inv X pins σ H s):Inv X pins σ H { s with drawn:=d }:=⟨I.ok,I.os,I.bare,I.base,I.loc,I.cell,I.free,I.freeC,I.pin,I.hok,I.len⟩
end
abbrev Gg (ns:ag):ag:=ns.foldl step_dedup []
theorem Qx:∀(ns acc:ag),acc.Nodup->(ns.foldl step_dedup acc).Nodup
 | [],acc,h=>h
 | n::ns,acc,h=>by
  rw[iK];refine Qx ns _ ?_;unfold step_dedup;split
  ·exact h
  ·next q=>
   refine gW.mpr ⟨h,eO.mpr ⟨fP,jx⟩,λa f b d=>?_⟩;rw[aX.mp d];exact λz=>q<|jl.mpr ⟨a,f,by rw[z];exact bx _⟩
def Kg(ns:ag):(Gg ns).Nodup:=Qx ns [] jx
section
variable {X:Cx}
def IE(hc:X.calm=true):kE X (.type "set") (λxs H Q=>∃(p:aj) (ns:ag),xs=[.ref p]/\nh X.K H p (ns.map V.int)/\ns.length<4000/\∀r o,Sl X.prog X.w o (Gg ns)->H r=none->Q (.ref r) (upd H r<|.frz o<|.own r)):=by
 fin2;obtain⟨p,ns,rfl,hs,B,q⟩:=h;kln_w
 cases rx
 obtain⟨its,d,pl,j⟩:=I.list hs;have g:its.toArray.size=ns.length:=by
  have:=d.length;rw[aK]at this;rw[aY,this]
 refine Ir (I.ok.hd hc) pl.isList (Dv (its:=its.toArray.toList)<|by simpa using d) (by rw[g];unfold scanBound;lia) λh' tk so m=>?_;rw[g,K5]at so;obtain⟨o,f,k⟩:=TN (Kg ns) so;exact⟨.ref s.heap.objs.size,_,I.laid (o:=.frz o<|.own s.heap.objs.size) (t':=tk) (λb o e=>m b o (aW e) e) (aP _) ⟨f,_,f⟩,rfl,q _ o k I.fresh⟩
def BC(hc:X.calm=true):kE X (.builtin "sorted") (λxs H Q=>∃(r:aj) (o:Obj) (u:HO) (ns:ag),xs=[.ref r]/\H r=some (.frz o u)/\Sl X.prog X.w o ns/\ns.length<64 /\
  ∀l g (ms:ag),ms.Perm ns->H l=none->Sx.Cl g 0 ms.length->Sx.So (Pe ms) g 0 ms.length->Q (.ref l) (upd H l<|.lst<|(List.range ms.length).map λi=>V.int<|ms.getD (g i) 0)):=by
 fin2;obtain⟨C,o,u,ns,rfl,U,Y,p,q⟩:=h;obtain⟨v,rfl,rx⟩:=vals1 r
 cases rx
 obtain⟨es,ep,t,P,hd,⟨ms,N,G⟩,J,hf,hs,O⟩:=Y;have T:s.heap.get? C=some o:=(show nB _ _ H s.heap C (.frz o u)from I.hok C _ U).1;refine Calls.call_function_entry kind_sorted plain_sorted entry_sorted (args_sorted1 _) ?_;unfold Builtin.«sorted»;refine aG (m:=checkCount "sorted" 1 1 _)<|aL ?_;refine aG<|U3 (show X.A.in1.handled=none from I.ok.hd hc) T P hd hf J hs O λh' tk d L K Z=>?_;obtain⟨ks,B,f⟩:=Iu K N;exact El (s:={ s with drawn:=d }) (I.kept (t':=tk) Z).ZE (Sx.Xi<|by rw[(f.trans G).length_eq];exact p) B (by
  have:=K.length_eq;dsimp[aK,bJ]at this;unfold scanBound at J;unfold sizeLine;lia) λl g F j k=>q l g ks (f.trans G) F j k
def OA(ns:ag):(Gg ns).length<=ns.length:=by
 have:=length_foldl_step_dedup_le ns [];rw[iM,eX]at this;exact this
end
end L2
namespace Am
open PySem PySem.Spec PyProof.Rows L2
section
variable {X:Cx}
abbrev VZ (a:A)(S:jL):R A:=match a with
 | .ref n=>opt (jF S n) λxs=>opt (A.ints xs) λns=>gd (ns.length<64) (.ok (.ref S.length)<|S++[.lst<|(sortI<|Gg ns).map .int])
 | _=>.no
abbrev O0 (c:Ex):Ex:=λτ S=>(c τ S).bind λa S1=>VZ a S1
def C1{x:Str}{p:Pos}{e:aE}{c:Ex}(hc:X.calm=true)(hm:X.mg x=none)(hv:bootBuiltins x=some (.builtin "sorted"))(hm':X.mg y=none)(hv':bootBuiltins y=some (.type "set"))(ha:AE X e c)
  (hg:Gl X x<|>ε) (hn:x ≠ "__name__"<|>δ) (hdb:(x == ("__debug__" : Str))=false<|>δ) (hg':Gl X y<|>ε) (hn':y ≠ "__name__"<|>δ) (U:(y == ("__debug__" : Str))=false<|>δ)
  (Z:starEach [e] X.env=(false,eval e X.env)::starEach [] X.env<|>ε) (hpl':((backTo cpos<|starEach [] X.env).any (·.1)=false)<|>ε)
  (he:starEach [.Call (.Name y p') [e] [] cpos] X.env=(false,eval (.Call (.Name y p') [e] [] cpos) X.env)::starEach [] X.env<|>ε) (hpl:((backTo pos<|starEach [] X.env).any (·.1)=false)<|>ε) :
  AE X (.Call (.Name x p) [.Call (.Name y p') [e] [] cpos] [] pos) (O0 c):=
 PE.imp (yY (BC hc) hg hm hv (mQ (AN (IE hc) hg' hm' hv' (mQ ha qR Z) hn' U Z hpl') qR he) hn hdb he hpl) λσ H Q h9=>by
  z_go;refine⟨ρ,S,τ,R,r,jM (jN h) .refl λa S1 h1 ρ1 H1 v e1 R1 P=>?_⟩
  cases P with
  | ref hp=>
   rename_i p' n;obtain⟨xs,hn,h1⟩:=jY h1;obtain⟨ns,hi,h1⟩:=jY h1;obtain⟨F,h1⟩:=kc h1;obtain⟨vs,O,C⟩:=R1.lst hp<|jX hn;have G:=HG C hi;subst G;refine⟨p',ns,rfl,nh.of O,(),λB o L N=>?_⟩;obtain⟨ex,R2⟩:=R1.im (u:=.frz o<|.own B) N;refine⟨B,o,_,Gg ns,rfl,kJ,L,Nat.lt_of_le_of_lt (OA ns) F,λl g d J m j k=>?_⟩;have e:(List.range d.length).map (λi=>d.getD (g i) 0)=sortI (Gg ns):=by
    rw[OY j k];exact yK (((sortI_perm d).trans J).trans (sortI_perm _).symm) (qe d)<|qe _
   have f:∀ρ H,AVs X.K ρ H ((sortI<|Gg ns).map .int) ((List.range d.length).map λi=>V.int<|d.getD (g i) 0):=by
    intro ρ H;rw[<- e,bL];exact ML λi _=>.int _
   exact nO R2 (f _ _) (e1.trans ex) h1 l m
  | _=>exact h1.elim
end
end Am
namespace Po
open Am
meta abbrev Pl:=List<|Int×Int
abbrev val (d:Pl)(k:Int):Int:=((d.find? λp=>decide<|p.1=k).map (·.2)).getD 0
abbrev has (d:Pl)(k:Int):Bool:=d.any λp=>decide<|p.1=k
abbrev put (d:Pl)(k v:Int):Pl:=if has d k=true then d.map (λp=>if p.1=k then(p.1,v)else p)else d++[(k,v)]
abbrev acc (d:Pl)(k v:Int):Pl:=put d k<|val d k+v
structure Ok (l:Pl):Prop where
 up:l.Pairwise λp q=>p.1<q.1
 nz:∀p∈l,p.2≠0
abbrev turn (a:Pl):Pl:=a.reverse.map λp=>(-p.1,p.2)
abbrev iv (d:Pl):List (Int×A):=d.map λp=>(p.1,.int p.2)
abbrev pA (p:Int×Int):A:=.tup [.int p.1,.int p.2]
abbrev pl (l:Pl):ae:=l.map pA
end Po
namespace Tb
abbrev fg (r:ag)(x:Int):Nat:=r.findIdx λy=>decide<|x<y
abbrev put:List (ag)->Int->List (ag)
 | [],x=>[[x]]
 | r::rs,x=>if fg r x=r.length then(r++[x])::rs else r.set (fg r x) x::put rs (r.getD (fg r x) 0)
abbrev row:List (ag)->Int->Nat
 | [],_=>0
 | r::rs,x=>if fg r x=r.length then 0 else row rs (r.getD (fg r x) 0)+1
abbrev bump:ar->Nat->ar
 | [],_=>[1]
 | n::ns,0=>(n+1)::ns
 | n::ns,i+1=>n::bump ns i
abbrev add:List (ag)->Nat->Int->List (ag)
 | [],_,k=>[[k]]
 | q::qs,0,k=>(q++[k])::qs
 | q::qs,i+1,k=>q::add qs i k
abbrev gs (r:ag)(x:Int):ar:=(List.range r.length).filter λk=>decide<|x<r.getD k 0
end Tb
namespace Am
open PySem L2
abbrev Rows (S:jL):ar->List (ag)->Prop
 | [],[]=>True
 | r::rs,x::T=>jF S r=some (x.map .int)/\Rows S rs T
 | _,_=>False
theorem zW{s:Src}{g:Tg}{e:Ex}{T:ae->Prop}(P:Nat->ae->jL->Prop)
  (step:∀i acc τ S,i<s.k->T τ->P i acc S->∃x τ1 S1 y S3,s.get i S=some x/\g x τ S=.ok τ1 S1/\T τ1/\e τ1 S1=.ok y S3/\P (i+1) (acc++[y]) S3) (J:∀acc S,P s.k acc S->s.fin S=true) :
  ∀k i acc τ S,k+i=s.k->T τ->P i acc S->∃ys S',nj s g kR e k i τ S=.ok ys S'/\P s.k (acc++ys) S'
 | 0,i,acc,τ,S,hk,hT,hP=>by
  have:i=s.k:=()
  subst this;exact⟨[],S,by unfold nj;rw[aQ<|J acc S hP],by rw[bS];exact hP⟩
 | k+1,i,acc,τ,S,hk,hT,hP=>by
  obtain⟨x,τ1,S1,y,S3,p,hg,f,m,d⟩:=step i acc τ S () hT hP;obtain⟨ys,S',h1,j⟩:=zW P step J k (i+1) (acc++[y]) τ1 S3 () f d;refine⟨y::ys,S',?_,by rw[bI]at j;exact j⟩;unfold nj;rw[p,kD,hg,R.kY];show(e τ1 S1).pR _=_;rw[m,R.kY,h1];rfl
def Hi{a b:Nat}{xs ys:ag}(h:jF S a=some (xs.map .int))(h':jF S b=some (ys.map .int)):wU S 12 (.ref a) (.ref b)=some (decide<|xs=ys):=by
 show(jF S a).bind (λxs=>(jF S b).bind λys=>yi (wU S 11) xs ys)=_;rw[h,bH,h',bH];exact u7 xs ys
def yX{a b:A}{k:Bool}(h:wU S 12 a b=some k):mJ false a b S=.ok (.bl k) S:=by unfold mJ;rw[h];rfl
def Nk{a b:A}{k:Bool}(h:wU S 12 a b=some k):mJ true a b S=.ok (.bl<|!k) S:=by unfold mJ;rw[h];rfl
def zN{xs:ae}{n:Nat}{src:Ic}{t:Te}{e:Ex}{S:jL}(hs:src τ S=.ok (lW n xs.length) S)(j:jF S n=some xs)(p:A->Bool)(f:A->A)
  (J:∀x∈xs,t (x::mH cap τ) S=.ok (p x) S) (L:∀x∈xs,p x=true->e (x::mH cap τ) S=.ok (f x) S) (U:xs.length<=16777216) :
  kI (none::cap) src (kB 0) t e τ S=.ok (.ref S.length) (S++[.lst<|(xs.filter p).map f]):=by
 have d:∀i,i<xs.length->xs.getD i .unb∈xs:=λi hi=>by
  rw[aN,aH hi];exact cJ hi
 rw[xj hs (λi=>xs.getD i .unb) (λi=>p<|xs.getD i .unb) (λi=>f<|xs.getD i .unb) (λi hi=>by
  have hi:i<xs.length:=hi;show(jF S n).bind _=_;rw[j,bH,aN,aH hi];rfl) (by
   show(match jF S n with
    | some ys=>decide (ys.length<=xs.length)
    | none=>false)=true
   rw[j];simp) (λi hi=>J _<|d i hi) (λi hi=>L _<|d i hi) U]
 have:=nW xs p f .unb;show R.ok _ (S++[O.lst<|((List.range xs.length).filter _).map _])=_;rw[this]
end Am
namespace L2
open PySem PySem.Spec PyProof.Rows
abbrev oq (z:Str)(n:Nat):Str:=⟨(List.replicate n z.cps).foldl (·++·) #[]⟩
theorem Dm:∀(n:Nat) (a z:Array Nat),((List.replicate n z).foldl (·++·) a).size=a.size+n * z.size
 | 0,a,z=>by rw[List.replicate_zero,List.foldl_nil,Nat.zero_mul,Nat.add_zero]
 | n+1,a,z=>by rw[dJ,iK,Dm n,Array.size_append,iT];lia
def MA(z:Str)(n:Nat):(oq z n).length=n * z.length:=by
 show((List.replicate n z.cps).foldl (·++·) #[]).size=_;rw[Dm];show 0+_=_;rw[eX];rfl
section
variable {X:Cx}
def ON:nZ X (binaryOp .Mult) (λx y H Q=>∃(z:Str) (n:Int),x=.str z/\y=.int n/\2<=n/\n<=1000/\1<=z.length/\z.length<=100/\Q (.str<|oq z n.toNat) H):=by
 intro pins s σ H x y v u Q I rx ry ⟨z,n,e1,e2,h0,h1,p,g,q⟩;subst e1 e2;obtain⟨k,rfl⟩:=(show ∃k,v=Value.str z k from rx);obtain⟨B,rfl⟩:=(show ∃k,u=Value.int n k from ry);have hn:¬n<1:=()
 have f:(n == 1 || z.length == 0)=false:=by
  rw[Bool.or_eq_false_iff];exact⟨bw.mpr (),bw.mpr ()⟩
 have sz:z.length * n.toNat<=100 * 1000:=Nat.mul_le_mul g ();have d:∀m,m<=100 * 1000->Builtin.Str.tooLong m=false:=λm j=>by
  unfold Builtin.Str.tooLong;rw[decide_eq_false_iff_not];rw[bB];lia
 refine P.mul_str (by rw[aI (),aI ()];rfl) (λ_ _=>?_) (λ_ _=>d _ sz) ?_
 ·have:(100:Int)<=(2 ^ 63-1) / n:=(Int.le_ediv_iff_mul_le ()).2 ()
  lia
 ·rw[aO hn,aO<|by rw[f];exact bh];refine⟨?_,.str<|oq z n.toNat,H,I.tok _,⟨_,rfl⟩,q⟩;show(oq z n.toNat).length<=_;rw[MA,Nat.mul_comm,bB];exact cK sz ⋯
end
end L2
namespace Am
open PySem PySem.Spec PyProof.Rows L2
section
variable {X:Cx}
abbrev tX (a b:A)(S:jL):R A:=match a,b with
 | .str z,.int n=>gd (2<=n/\n<=1000/\1<=z.length/\z.length<=100) (.ok (.str<|oq z n.toNat) S)
 | _,_=>.no
def xh:nZ X (binaryOp .Mult) (r2 X tX):=nZ.imp ON λx y H Q h9=>by
 w_up
 cases va<;>first|exact h.elim|(cases vb<;>first|exact h.elim|(obtain⟨hc,h⟩:=kc h;exact⟨_,_,rfl,rfl,hc.1,hc.2.1,hc.2.2.1,hc.2.2.2,h _ _ _ .refl R<|.str _⟩))
end
end Am
namespace L2
open PySem PySem.Spec PyProof.Rows
def IJ{x:aa}{env j:Env}(h:env.frame=j.frame):noteFrame x env=noteFrame x j:=by
 unfold noteFrame PySem.frameOf;rw[h]
abbrev W7 (M:Model)(A:az)(E:aa->aA->Prop)(Q:aa->aA->Prop)(acc:aa)(C:aj)(cenv:Env)(r:Result)(s':aA):Prop:=
 ∃m,s'.heap.Ns C m/\∀h',Heap.SameBut C s'.heap h'->match r with
  | .ok _=>Q acc { s' with heap:=h' }
  | .error x=>wpAny M A (PySem.passOn "comprehension.variables-let-go" x cenv:Sem aa) (λ_ _=>False) E { s' with heap:=h' }
def Eb{A:az}{E:aa->aA->Prop}{env:Env}{scope:Scope}{L first:Sem aa}{g:Comprehension}{gs:List Comprehension}{cl:List<|Str×aj}{Q:aa->aA->Prop}
  (Z:clausesOf e=g::gs) (hs:∀x,foldedSetIterable g.iter env x=pure x) (U:closureFor scope env=pure cl) (hk:scope.kind=.function) (hnm:∀x∈scope.names,x.2=.local->scope.names.lookup x.1=some .local)
  (h:wpAny M A first (λx s₁=>wpAny M A (pyIter x) (λit s₂=>wpAny M A L (λacc s₃=>wpAny M A (newFunctionEnv scope env.globals cl [] env.qual none .none<|some env) (λcenv s₄=>
   codeAny M A (.compStart e 0 it acc { cenv with scope:=relabel scope env }) (W7 M A E Q acc cenv.locals { cenv with scope:=relabel scope env }) s₄) E s₃) E s₂) E s₁) E s):wpAny M A (comprehension e scope env pos L false first none) Q E s:=by
 have d:∀{B:Type} {m:Sem B} {P p:B->aA->Prop} {t:aA},wpAny M A m P E t->(∀a u,P a u->p a u)->wpAny M A m p E t:=λC hp=>cS C hp λ_ _ z=>z;unfold comprehension;rw[U,Z];refine aG<|d h λx s₁ h1=>aG<|iC<|aG<|iG (hs x)<|aG<|b_<|d h1 λit s₂ F=>?_;refine wpAny_standIf<|aG<|d F λacc s₃ J=>aG<|aL<|aG<|d J λcenv s₄ K=>?_;dsimp only;have hv:∀x∈(scope.names.filter λx=>(x.2 == .local || x.2 == .cell) && x.1 != (".0" : Str)).reverse,x.2=.local->Env.kindOf { cenv with scope:=relabel scope env } x.1=some .local:=
  λx G l=>lookup_relabel_local<|hnm x (jq.mp<|List.mem_reverse.mp G).1 l
 refine b_<|aG<|ff<|b_<|wpAny_run<|eW K λr s' j=>?_;obtain⟨m,hn,j⟩:=j
 cases r with
 | ok f=>exact aG (b_<|wpAny_comp_letGo (cenv:={ cenv with scope:=relabel scope env }) hk _ s' m hv hn λh' _ _ k=>aL<|j h' k)
 | error x=>exact aG<|b_<|wpAny_comp_letGo (cenv:={ cenv with scope:=relabel scope env }) hk _ s' m hv hn λh' _ _ k=>cS (j h' k) (λ_ _ z=>z.elim) λ_ _ z=>z
theorem Qj{h h' B J:ak}{C:aj}:∀{l:List Env},h.FunFrames B l->(∀env∈l,∀L,env.frame=some L->L≠C)->(∀b o,b≠C->h.get? b=some o->(∀vs,o.data≠.fields vs)->∃o',h'.get? b=some o'/\o'.data=o.data)->(∀b,B.get? b=none->J.get? b=none)->h'.FunFrames J l
 | [],_,_,_,_=>trivial
 | env::l,⟨k,⟨L,o,f,n,q,d⟩,r⟩,hC,hk,hB=>by
  obtain⟨o',q',g⟩:=hk L o (hC env (aT ..) L f) q d;exact⟨k,⟨L,o',f,hB L n,q',λvs=>by rw[g];exact d vs⟩,Qj r (λe j=>hC e<|aS _ j) hk hB⟩
section
variable {X:Cx}{pins:bv}{σ:St}{H:Hp}{s':aA}{e:aj}{cls:aa}{g:ak}{xs:bi}
def MF(I:Inv X pins σ H s')(hst:X.stack=X.env::X.outer)(hf:X.env.frame=some X.env.locals)
  (R:(∃(g':ak) (vs:be),Heap.MadeExcOf g' s'.heap e cls vs/\g'.FunFrames X.base X.stack/\(∀a u,H a=some u->∃o,g'.get? a=some o)/\∀b o,g.get? b=some o->b∉xs->∃o',g'.get? b=some o') \/
   ∃(B:ak) (a0:aa),(Heap.FlyingW B X.stack e cls a0 s'.heap\/Heap.HeldW B X.stack e cls a0 X.env.locals s'.heap)/\(∀a u,H a=some u->∃o,B.get? a=some o)/\(∀b o,g.get? b=some o->b∉frs X.stack->b∉xs->∃o',B.get? b=some o')/\C0 e s'.heap) {Q:Unit->aA->Prop} {E:aa->aA->Prop}
  (hQ:∀h' B a0,Heap.HeldW B (X.env::X.outer) e cls a0 X.env.locals h'->B.StaysIn s'.heap->s'.heap.UpToSlots h'->(∀a u,H a=some u->∃o,B.get? a=some o)->(∀b o,g.get? b=some o->b∉frs X.stack->b∉xs->∃o',B.get? b=some o')->C0 e h'->Q Unit.unit { s' with heap:=h' }) :
  wpAny (model X.prog X.w) X.A (noteFrame (.ref e) X.env) Q E s':=by
 have m:X.A.frames=some (X.env::X.outer):=by rw[<- hst];exact I.ok.frames
 rcases R with⟨g',vs,M,p,N,U⟩|⟨B,a0,F|F,c1,c2,k0⟩
 ·rw[hst]at p;have P:=gQ p λenv C b k=>(fm.mpr ⟨env,C,k⟩:b∈frs (X.env::X.outer));obtain⟨t,C,O,ht⟩:=M.there;have J:(PySem.W.hideAll g'<|frs (X.env::X.outer)).get? e=none:=by
   cases Y:(PySem.W.hideAll g'<|frs (X.env::X.outer)).get? e with
   | none=>rfl
   | some o'=>have:=dD _ Y;rw[M.new]at this;cases this
  kl_no;have V:wpAny (model X.prog X.w) X.A (noteFrame (.ref e) X.env) (λ_ d=>∃h',d={ s' with heap:=h' }/\Heap.HeldW (PySem.W.hideAll g'<|frs (X.env::X.outer)) (X.env::X.outer) e cls (.ref t) X.env.locals h'/\s'.heap.UpToSlots h') (λ_ _=>False) s':=by
   unfold noteFrame;dsimp[hf];refine aG<|d7 C rfl (x:=.none) rfl ?_;rw[aO ⋯];refine wpAny_entryW (base:=PySem.W.hideAll g'<|frs (X.env::X.outer)) (a0:=.ref t) m (P.of_keeps λb o k _=>⟨o,M.keeps b o k,rfl⟩) hf C k1 J rfl (by simp) rfl λh' Z=>?_;obtain⟨f,K,L,j⟩:=Z;exact⟨h',rfl,⟨f,J,K,L⟩,j⟩
  refine cS (ku.any (e:=e) (ku.note _ _) V<|BJ M) (λ_ d z=>?_) λ_ _ z=>z.1.elim;obtain⟨⟨h',rfl,f,j⟩,k0⟩:=z;refine hQ h' _ _ f k1 j (λa u G=>?_) (λb o q k T=>?_) k0
  ·obtain⟨o,q⟩:=N a u G;refine⟨o,c_ _ q λz=>?_⟩;rw[<- hst]at z;rw[I.u9 a z]at G;cases G
  ·obtain⟨o',q'⟩:=U b o q T;exact⟨o',c_ _ q'<|by rw[<- hst];exact k⟩
 ·rw[hst]at F;refine cS (ku.any (e:=e) (ku.note _ _) (wpAny_looks_onW (Q:=λ_ d=>∃h',d={ s' with heap:=h' }/\Heap.HeldW B (X.env::X.outer) e cls a0 X.env.locals h'/\s'.heap.UpToSlots h') (E:=λ_ _=>False) m hf F λh' f j=>⟨h',rfl,f,j⟩) k0) (λ_ d z=>?_) λ_ _ z=>z.1.elim;obtain⟨⟨h',rfl,f,j⟩,k0'⟩:=z;exact hQ h' B a0 f F.1 j c1 c2 k0'
 ·rw[hst]at F;refine gR hf F.2.2.2 ?_;exact hQ s'.heap B a0 F F.1 (Heap.UpToSlots.refl _) c1 c2 k0
end
section
variable {X:Cx}{scope:Scope}{N:ba}{C:aj}{s3 s2:aA}{H3 H':Hp}{fp:bi}{pins pins2:bv}{σ σ2:St}
def comp_back(I3:Inv X pins σ H3 s3)(f3:∀b∈fp,tR X pins H3 b)(J:Inv (lM X scope N C s3 H3 fp) pins2 σ2 H' s2){hh:ak}
  (keep:∀b o,s3.heap.get? b=some o->H3 b=none->b∉frs X.stack->b∉fp->hh.get? b=some o) (slot:∀b o,s3.heap.get? b=some o->H3 b=none->b∈frs X.stack->b∉fp->∃sl,hh.get? b=some { o with slots:=sl })
  (there:∀b o,s3.heap.get? b=some o->b∉fp->∃o',hh.get? b=some o') (L:w9 X.prog X.w H' hh):Inv X pins σ H' { s2 with heap:=hh }:=by
 have u:=J.base;refine I3.Mg (s':={ s2 with heap:=hh }) (ch:=fp) J.os ⟨keep,slot,λb o e n k=>u.free b o e n k,there,u.tups,u.frzs,u.tbls⟩ L J.bare λb f=>?_;obtain⟨_,d,_,g,m,j⟩:=f3 b f;exact⟨g,d,m,j⟩
def AJ(U:C=s3.heap.objs.size)(Z:Inv X pins σ H3 s3)(f3:∀b∈fp,tR X pins H3 b)(J:Inv (lM X scope N C s3 H3 fp) pins2 σ2 H' s2){hh:ak}(L:Heap.SameBut C s2.heap hh):Inv X pins σ H' { s2 with heap:=hh }:=by
 have u:=J.base;have f:∀b o,s3.heap.get? b=some o->b≠C:=λb o e=>by rw[U];exact bq (aW e)
 have m:H' C=none:=J.free;have g:∀c v,H' c=some v->c≠C:=λc v e z=>by rw[z,m]at e;cases e
 refine comp_back Z f3 J (λb o e n h9 d=>?_) (λb o e n h9 d=>?_) (λb o e d=>?_) λa j k=>?_
 ·rw[L.2 b<|f b o e];exact u.keep b o e n h9 d
 ·rw[L.2 b<|f b o e];exact u.slot b o e n h9 d
 ·rw[L.2 b<|f b o e];exact u.there b o e d
 ·refine(J.hok a j k).stay (λc v hc q=>?_) (λ_ q=>q) λ_ _ q=>q;rw[L.2 c<|hc.elim (λz=>by rw[z];exact g a j k) λz=>g c _ z];exact q
def D6(hC:C=s3.heap.objs.size)(I3:Inv X pins σ H3 s3)(f3:∀b∈fp,tR X pins H3 b)(hX:X.ex=[])(hst:X.stack=X.env::X.outer)(hf:X.env.frame=some X.env.locals){fr:Env}(hfr:fr.frame=X.env.frame){Q:aa->aA->Prop}{acc:aa}
  {pn':bv} {xe0:aa->aA->Prop} {e:aj} {cls:aa} (I2:Inv (lM X scope N C s3 H3 fp) pins2 σ2 H' s2) (R2:vJ ((lM X scope N C s3 H3 fp).sW pn' xe0) H' e cls s2) (hE:EX X cls none H') :
  notedBy (model X.prog X.w) X.A fr (λx s''=>W7 (model X.prog X.w) X.A X.xe Q acc C fr (.error x) s'') (.ref e) s2:=by
 have u:=I2.base;have nC:∀b o,s3.heap.get? b=some o->b≠C:=λb o e=>by rw[hC];exact bq (aW e)
 have fC:H' C=none:=I2.free;have O:∀b o,X.s₀.heap.get? b=some o->∃o',s3.heap.get? b=some o':=λb o q=>I3.base.there b o q (by rw[hX];simp);have nfp:∀b o,X.s₀.heap.get? b=some o->b∉fp:=λb o q f=>by
  obtain⟨_,_,_,z3,_⟩:=f3 b f
  rcases z3 with z|z
  ·rw[hX]at z;cases z
  ·exact absurd (bD (aW q) z)<|e_ _
 have pin3:∀p∈X.pn,∃o,s3.heap.get? p.1=some o/\p.1∉fp/\p.1∉frs X.stack:=λp hp=>by
  obtain⟨q,_,n1,n2,_⟩:=I3.pin p<|cC _ hp;refine⟨_,q,λf=>?_,λz=>(bf.mp<|I3.vA _ z).elim n1 n2⟩;obtain⟨_,_,_,_,_,z5⟩:=f3 _ f;exact z5 p (cC _ hp) rfl
 have IX:=AJ hC I3 f3 I2<|je C s2.heap;have frX:∀b∈frs X.stack,∃o,s3.heap.get? b=some o/\∀vs,o.data≠.fields vs:=λb f=>by
  obtain⟨_,o,q,d⟩:=I3.stack.mem f;exact⟨o,q,d⟩
 have hm:∃m,s2.heap.Ns C m:=by obtain⟨m,hm,_⟩:=I2.loc;exact⟨m,hm⟩
 show wpAny _ _ (noteFrame (.ref e) fr) _ _ s2;rw[IJ hfr];refine MF (g:=s3.heap) (xs:=fp) (cls:=cls) IX hst hf ?_ λh1 B a0 held k1 up c1 c2 k0=>?_
 ·rcases R2 with⟨g',vs,M,ffg,m1,m2,_⟩|⟨B,a0,F,c1,c2,_,k0⟩|⟨B,a0,L,eL,F,c1,c2,_,k0⟩
  ·exact .inl ⟨g',vs,M,ffg,m1,m2⟩
  ·exact .inr ⟨B,a0,.inl F,c1,c2,k0⟩
  ·have eL:X.env.frame=some L:=eL;rw[hf]at eL
   cases eL
   exact .inr ⟨B,a0,.inr F,c1,c2,k0⟩
 obtain⟨m,hm⟩:=hm;refine⟨m,up.ns hm,λh' sb=>?_⟩;obtain⟨oC,esC,epC,hoC,hdC,_⟩:=up.ns hm;obtain⟨b1,b2,b3,oe,vs,T,oT,ts,he,hcls,hd,Y,hnT,hTe,hT,G,h3⟩:=held;have eC:e≠C:=λz=>by
  rw[z,hoC]at he;cases he;rw[hdC]at hd;cases hd
 have TC:T≠C:=λz=>by
  rw[z,hoC]at hT;cases hT;rw[hdC]at G;cases G
 have he':h'.get? e=some oe:=by rw[sb.2 e eC];exact he
 have hT':h'.get? T=some oT:=by rw[sb.2 T TC];exact hT
 have hsz:3<ts.size:=(dX.mp h3).1;have nT:(Value.ref T == Value.none)=false:=by simp
 have nT':(Value.ref T != Value.none)=true:=by simp
 obtain⟨k,hh2⟩:∃k,k=h'.update T (Obj.mapFields (·.setIfInBounds 3 (rawInt X.env.locals))):=⟨_,rfl⟩;have fin:X.xe (.ref e) { s2 with heap:=k }:=by
  have o2:∀b,b≠T->k.get? b=h'.get? b:=λb f=>by rw[hh2];exact cB h' _ (cL f)
  have j:∀b,b≠C->b≠T->k.get? b=h1.get? b:=λb f ht=>(o2 b ht).trans<|sb.2 b f;have kk:∀b o,b≠C->B.get? b=some o->k.get? b=some o:=λb o f q=>by
   rw[j b f λz=>by rw[z,hnT]at q;cases q];exact b1 b o q
  have nf:∀b o,h1.get? b=some o->(∀vs,o.data≠.fields vs)->b≠T:=λb o q d z=>by
   rw[z,hT]at q;cases q;exact d _ G
  have upp:∀b o,b≠C->s2.heap.get? b=some o->(∀vs,o.data≠.fields vs)->∃V,k.get? b=some { o with slots:=V }:=λb o f q d=>by
   obtain⟨V,q1⟩:=up b o q d;exact⟨V,by rw[j b f<|nf b _ q1 d];exact q1⟩
  have cov:∀b o o',b≠C->B.get? b=some o'->s2.heap.get? b=some o->k.get? b=some o:=λb o o' f K es=>by
   have:=k1 b o' K;rw[es]at this;cases this;exact kk b o f K
  have slot:∀b o,s3.heap.get? b=some o->H3 b=none->b∈frs X.stack->b∉fp->∃V,k.get? b=some { o with slots:=V }:=λb o J n f hx=>by
   obtain⟨V,q1⟩:=u.slot b o J n f hx;obtain⟨P,U,d9⟩:=frX b f;rw[J]at U;cases U;obtain⟨sl',z⟩:=upp b { o with slots:=V } (nC b o J) q1 d9;exact⟨sl',z⟩
  have I4:Inv X pins σ H' { s2 with heap:=k }:=by
   refine comp_back I3 f3 I2 (λb o J n h9 hx=>?_) slot (λb o J hx=>?_) λa u' Z=>?_
   ·obtain⟨o',K⟩:=c2 b o J h9 hx;exact cov b o o' (nC b o J) K (u.keep b o J n h9 hx)
   ·by_cases h9:b∈frs X.stack
    ·obtain⟨V,z⟩:=slot b o J (I3.u9 b h9) h9 hx;exact⟨_,z⟩
    ·obtain⟨o',K⟩:=c2 b o J h9 hx;exact⟨o',kk b o' (nC b o J) K⟩
   ·have aC:∀c v,H' c=some v->c≠C:=λc v q z=>by rw[z,fC]at q;cases q
    refine(I2.hok a u' Z).stay (λc v hc q=>?_) (λ_ q=>q) λ_ _ q=>q
    rcases hc with z|z
    ·subst z;obtain⟨o',K⟩:=c1 _ u' Z;exact cov _ v o' (aC _ _ Z) K q
    ·obtain⟨o',K⟩:=c1 c _ z;exact cov c v o' (aC _ _ z) K q
  have hB:∀b,B.get? b=none->(PySem.W.hideAll B [C]).get? b=none:=λb f=>by
   cases q:(PySem.W.hideAll B [C]).get? b with
   | none=>rfl
   | some o=>have:=dD _ q;rw[f]at this;cases this
  have inB:∀b o,B.get? b=some o->b≠C->(PySem.W.hideAll B [C]).get? b=some o:=λb o q f=>c_ _ q (by simpa using f);refine hE pins σ _ e I4 (.inr<|.inr ⟨PySem.W.hideAll B [C],a0,X.env.locals,hf,⟨λb o q=>?_,hB e b2,?_,oe,vs,T,Obj.mapFields (·.setIfInBounds 3 (rawInt X.env.locals)) oT,ts.setIfInBounds 3<|rawInt X.env.locals,?_,hcls,hd,Y,hB T hnT,hTe,?_,b6 G _,?_⟩,λa u' Z=>?_,λb o q h9 _=>?_,λp hp=>?_,?_⟩)
  ·refine kk b o (λz=>?_)<|dD _ q;rw[z,PySem.W.hideAll_none [C]<|aX.mpr rfl]at q;cases q
  ·rw[hst];refine Qj b3 (λenv hen L hL=>?_) (λb o f q d=>⟨o,by rw[j b f<|nf b o q d];exact q,rfl⟩) hB;obtain⟨P,U,_⟩:=frX L (by rw[hst];exact fm.mpr ⟨env,hen,hL⟩);exact nC L P U
  ·show k.get? e=some oe;rw[o2 e<|cL hTe];exact he'
  ·show k.get? T=_;rw[hh2];exact bX _ hT' (di<|b6 G _)
  ·rw[Array.getElem?_setIfInBounds_self_of_lt hsz]
  ·obtain⟨o,q⟩:=c1 a u' Z;exact⟨o,inB a o q λz=>by rw[z,fC]at Z;cases Z⟩
  ·obtain⟨o',q'⟩:=O b o q;obtain⟨P,U⟩:=c2 b o' q' h9<|nfp b o q;exact⟨P,inB b P U<|nC b o' q'⟩
  ·obtain⟨o,q,n,n2⟩:=pin3 p hp;obtain⟨P,U⟩:=c2 _ o q n2 n;exact⟨P,inB _ P U<|nC _ o q⟩
  ·obtain⟨o,vs',q1,q2,q3,q4⟩:=k0;exact⟨o,vs',by show k.get? e=some o;rw[j e eC<|cL hTe];exact q1,q2,q3,q4⟩
 have step:wpAny (model X.prog X.w) X.A (setFlight (.ref e) fr.frame) (λ_ s₂=>wpAny (model X.prog X.w) X.A (throw (.ref e):Sem aa) (λ_ _=>False) X.xe s₂) X.xe { s2 with heap:=h' }:=by
  unfold setFlight;refine aG<|d7 (s:={ s2 with heap:=h' }) he' hd Y ?_;rw[aQ nT',hfr,hf];show wpAny _ _ (setField (.ref T) 3<|rawInt X.env.locals) _ _ _;refine eE (s:={ s2 with heap:=h' }) hT' G hsz<|wpAny_throw ?_;rw[<- hh2];exact fin
 show wpAny _ _ (PySem.passOn "comprehension.variables-let-go" (.ref e) fr:Sem aa) _ _ { s2 with heap:=h' };unfold PySem.passOn;refine aG<|d7 (s:={ s2 with heap:=h' }) he' hd Y ?_;rw[aO<|show ¬((Value.ref T == Value.none)=true)from by simp]
 first
  | exact aG (aL<|aG step)
  | exact aG step
end
def TJ{X:Cx}{iter:aE}{N:ba}{wi:TI}{g:TG}{tc:TT}{te:TE}(hX:X.ex=[])(hst:X.stack=X.env::X.outer)(hf:X.env.frame=some X.env.locals)(hca:X.calm=true)(S:CpScope X scope N cap)(hi:PI X tg iter wi)
  (hg:∀C s₀ H₀ ex,PG (lM X scope N C s₀ H₀ ex) tg g) (ht:∀C s₀ H₀ ex,Q9 (lM X scope N C s₀ H₀ ex) ifs tc)
  (he:∀C s₀ H₀ ex pn' xe',(∀cls H',EX X cls none H'->EX ((lM X scope N C s₀ H₀ ex).sW pn' xe') cls none H')->PE ((lM X scope N C s₀ H₀ ex).sW pn' xe') elt te)
  (hs:(∀x,foldedSetIterable iter X.env x=pure x)<|>ζ):PE X (.ListComp elt [⟨tg,iter,ifs,0⟩] scope pos) (Rv cap wi g tc te):=by
 k_ne;rw[eval_ListComp];kpf_c;refine Eb rfl hs (zl hfree) S.kind S.nm<|l_ (hi pins s σ H _ I h) λxv s1 h1=>l_ h1 λitv s2 h2=>?_;obtain⟨it,fp,tn,J,H2,rfl,I2,T,st2,f2,h2⟩:=h2;refine bG<|Hq λV k old B=>?_;obtain⟨W,⟨m0,w0⟩,turn⟩:=h2 s2.heap.objs.size I2.fresh;dsimp only at k old B ⊢;have I3:Inv X pins σ (upd H2 s2.heap.objs.size<|.lst []) { s2 with heap:=s2.heap.push {}}:=I2.KZ (t':=s2.toks) (its:=[]) .nil<|cz _;have hfp:∀b∈fp,∃o,s2.heap.get? b=some o:=λb f=>by
  obtain⟨o,e,_⟩:=T.obj 0 _ st2 b f;exact⟨o,e⟩
 have neD:∀b∈fp,b≠s2.heap.objs.size:=λb f=>by
  obtain⟨o,e⟩:=hfp b f;exact bq<|aW e
 have f3:∀b∈fp,tR X pins (upd H2 s2.heap.objs.size<|.lst []) b:=λb f=>⟨by rw[jR<|neD b f];exact(f2 b f).1,(f2 b f).2⟩;have hDC:s2.heap.objs.size≠(s2.heap.push {}).objs.size:=by rw[dG];exact bq (dI _)
 have I4:=LF (tk:=s2.toks+([]:List<|Str×aa).length) (fp:=fp) S I3 f3 (λb f=>by
  obtain⟨o,e⟩:=hfp b f;exact⟨o,aM _ e⟩) k B old
 have st4:tn 0 V:=T.keep _ _ _ st2 λb f o e=>old b o<|aM _ e;have hc:(lM X scope N (s2.heap.push {}).objs.size { s2 with heap:=s2.heap.push {}} (upd H2 s2.heap.objs.size<|.lst []) fp).calm=true:=hca;have O:∀{H':Hp},(∀b∈fp,H' b=none)->∀b∈fp,tR (lM X scope N (s2.heap.push {}).objs.size { s2 with heap:=s2.heap.push {}} (upd H2 s2.heap.objs.size<|.lst []) fp) [] H' b:=λhn b f=>by
  have ok:=I4.ok;refine⟨hn b f,(ok.exf b f).1,ok.exfs b f,.inl f,λx c e=>(ok.exf b f).2 x c e,λp hp=>nomatch hp⟩
 have U:∀s4:aA,s4={ s2 with heap:=V,toks:=s2.toks+([]:List<|Str×aa).length } ->
   codeAny (model X.prog X.w) X.A (.compLoop (.ListComp elt [⟨tg,iter,ifs,0⟩] scope pos) 0 (.ref it) (.ref s2.heap.objs.size)<|compEnvC scope (cellsFrom ((s2.heap.push {}).objs.size+1) scope.names<|r8 X.env scope.names []) (s2.heap.push {}).objs.size X.env)
    (W7 (model X.prog X.w) X.A X.xe (EP X pins σ Q) (.ref s2.heap.objs.size) (s2.heap.push {}).objs.size<|compEnvC scope (cellsFrom ((s2.heap.push {}).objs.size+1) scope.names<|r8 X.env scope.names []) (s2.heap.push {}).objs.size X.env) s4:=by
  rintro s4 rfl;refine codeAny_loop rfl (λn s'=>∃i L H',Inv (lM X scope N (s2.heap.push {}).objs.size { s2 with heap:=s2.heap.push {}} (upd H2 s2.heap.objs.size<|.lst []) fp) [] L H' s'/\tn i s'.heap/\(∀b∈fp,H' b=none)/\W i n L H') (λn s5 hI=>?_) m0 ⟨0,_,_,I4,st4,λb f=>(f3 b f).1,w0⟩;obtain⟨i,P,H5,I5,st5,fr5,w5⟩:=hI;show wpAny _ X.A ((compTurn (.ListComp elt [⟨tg,iter,ifs,0⟩] scope pos) 0 (.ref it) (.ref s2.heap.objs.size)<|compEnvC scope (cellsFrom ((s2.heap.push {}).objs.size+1) scope.names<|r8 X.env scope.names []) (s2.heap.push {}).objs.size X.env).onRaise λx=>do noteFrame x _;theTreesLotGoes x) _ _ s5;refine wpAny_noted ?_;rw[compTurn_list];refine aG (iC<|aG ?_)
  rcases turn i n P H5 w5 with⟨stop,q⟩|⟨go,step⟩
  ·refine l_ (T.done (lM X scope N (s2.heap.push {}).objs.size { s2 with heap:=s2.heap.push {}} (upd H2 s2.heap.objs.size<|.lst []) fp) rfl rfl rfl hc i [] s5 P H5 _ I5 (O fr5) st5 stop) λr s6 h9=>?_;obtain⟨hr,I6⟩:=h9;subst hr;obtain⟨m6,hn6,_⟩:=I6.loc;refine aL ⟨m6,hn6,λh' sb=>⟨.ref s2.heap.objs.size,H5,AJ rfl I3 f3 I6 sb,rfl,q⟩⟩
  ·refine l_ (T.item (lM X scope N (s2.heap.push {}).objs.size { s2 with heap:=s2.heap.push {}} (upd H2 s2.heap.objs.size<|.lst []) fp) rfl rfl rfl hc i [] s5 P H5 _ I5 (O fr5) st5 go) λr s6 h9=>?_;obtain⟨u,hr,h6⟩:=h9;subst hr;refine aG<|l_ h6 λ_ s7 ⟨x,H7,I7,r7,y7,st7,fr7⟩=>?_;have I7':=I7.pinned (O fr7)<|T.obj _ _ st7;refine aG<|Ed (hg _ _ _ fp _ s7 P H7 x u _ I7' r7<|step x H7 y7) λ_ s8 ⟨G,H8,I8,q8⟩=>?_;refine aG<|Ed (ht _ _ _ fp _ s8 G H8 _ I8 q8) λok s9 ⟨H9,I9,q9⟩=>?_;have again:∀{F:aA} {j:Hp},Inv (lM X scope N (s2.heap.push {}).objs.size { s2 with heap:=s2.heap.push {}} (upd H2 s2.heap.objs.size<|.lst []) fp) ([]++v8 fp s7.heap) G j F->(∃m',m'<n/\W (i+1) m' G j) ->
     ∃m,m<n/\∃i L H',Inv (lM X scope N (s2.heap.push {}).objs.size { s2 with heap:=s2.heap.push {}} (upd H2 s2.heap.objs.size<|.lst []) fp) [] L H' F/\tn i F.heap/\(∀b∈fp,H' b=none)/\W i m L H':=λ{F j} K h9=>by
    obtain⟨m',hm,Y⟩:=h9;refine⟨m',hm,i+1,G,j,K.r_,T.keep _ _ _ st7 λb f o e=>(K.pin (b,o)<|bK _<|bK _<|oE f e).1,λb f=>?_,Y⟩;obtain⟨o,e,d⟩:=T.obj _ _ st7 b f;exact(K.pin (b,o)<|bK _<|bK _<|oE f e).2.1
   cases ok with
   | false=>
    rw[aO bh]at q9;exact aL ⟨rfl,again I9 q9⟩
   | true=>
    rw[aQ rfl]at q9;refine aG<|aG<|cS (he (s2.heap.push {}).objs.size { s2 with heap:=s2.heap.push {}} (upd H2 s2.heap.objs.size<|.lst []) fp ((lM X scope N (s2.heap.push {}).objs.size { s2 with heap:=s2.heap.push {}} (upd H2 s2.heap.objs.size<|.lst []) fp).pn++([]++v8 fp s7.heap)) (notedBy (model X.prog X.w) X.A (compEnvC scope (cellsFrom ((s2.heap.push {}).objs.size+1) scope.names<|r8 X.env scope.names []) (s2.heap.push {}).objs.size X.env) λx s''=>W7 (model X.prog X.w) X.A X.xe (EP X pins σ Q) (.ref s2.heap.objs.size) (s2.heap.push {}).objs.size (compEnvC scope (cellsFrom ((s2.heap.push {}).objs.size+1) scope.names<|r8 X.env scope.names []) (s2.heap.push {}).objs.size X.env) (.error x) s'') (λcls H' hE pins2 σ2 s' e I' R'=>D6 rfl I3 f3 hX hst hf (fr:=(compEnvC scope (cellsFrom ((s2.heap.push {}).objs.size+1) scope.names<|r8 X.env scope.names []) (s2.heap.push {}).objs.size X.env)) rfl (Inv.AB I') R' hE) _ s9 G H9 _ (I9.sW _) q9) (λy F h9=>?_) λ_ _ z=>z;obtain⟨Z,j,I10',r10,ys,hD,hz,Y⟩:=h9;have K:=Inv.AB I10';refine aG<|Ed (xN _ F G j (.ref s2.heap.objs.size) [Z] _ [y] (λ_ H'=>H'=upd j s2.heap.objs.size (.lst<|ys++[Z])) K rfl (.cons r10 .nil) ⟨_,ys,Z,rfl,rfl,hD,hz,rfl⟩) λ_ s11 ⟨_,H11,I11,_,e11⟩=>?_;subst e11;exact aL<|aL ⟨rfl,again I11 Y⟩
 exact codeAny_compStart_list (U _ rfl)<|T.self _ 0 _ _ _ st4<|U _ rfl
end L2
namespace Am
open PySem PySem.Spec PyProof.Rows L2
abbrev nk (s:Src)(g:Tg)(t:Te)(e:Ex):Nat->Nat->ae->jL->R (ae)
 | 0,_=>λ_ S=>if s.fin S then .ok [] S else .no
 | k+1,i=>λτ S=>opt (s.get i S) λx=>(g x τ S).pR λd S1=>(t d S1).pR λb f=>match b with
  | true=>(e d f).bind λy j=>(nk s g t e k (i+1) d j).bind λys m=>.ok (y::ys) m
  | false=>nk s g t e k (i+1) d f
abbrev rg (cap:List<|bt)(src:Ic)(g:Tg)(t:Te)(e:Ex):Ex:=λτ S=>(src τ S).bind λs S1=>gd (s.k<=sizeLine)<|(nk s g t e s.k 0 (mH cap τ) S1).bind λys d=>.ok (.ref d.length)<|d++[.lst ys]
def Out.now{H1 H:Hp}(o:Out ρ1 H1 D accV ρ H)(j:H1 D=none):Ext ρ1 ρ H1 H:=⟨o.e0,λa u d na=>o.fr a u (j4 d j) d na,o.nw⟩
abbrev ZD (K:au)(ρ1:bi)(H1:Hp)(D:aj)(k:Nat)(P:Nat->Nat->ae->jL->ae->Prop)(i m:Nat)(σ:L2.St)(H:Hp):Prop:=
 m+i=k/\∃ρ S τ acc accV,Out ρ1 H1 D accV ρ H/\Rel K ρ H S/\SR K ρ H τ σ/\AVs K ρ H acc accV/\acc.length<=i/\P m i τ S acc
section
variable {X:Cx}{pos:Pos}{tg iter elt:aE}{ifs:List aE}{scope:Scope}{N:ba}{cap:List (bt)}{src:Ic}{g:Tg}{t:Te}{c:Ex}
def Iv(σ:L2.St)(H:Hp)(Q:VK)(h:tE X (rg cap src g t c) σ H Q):Rv cap (tI X src) (UO X.K g) (UN X.K t) (tE X c) σ H Q:=by
 ksr_p;refine⟨ρ,S,τ,R,r,jM (jN h) .refl λs S1 h1 ρ1 H1 J e1 R1 jr D hD=>?_⟩;obtain⟨hlen,h1⟩:=kc h1;have h1:(nk s g t c s.k 0 (mH cap τ) S1).post (λys j=>ug X ρ H Q (.ref j.length)<|j++[.lst ys]) (XE X ρ H):=jN h1;obtain⟨eD,RD⟩:=R1.im (u:=.lst []) hD;refine⟨ZD X.K ρ1 H1 D s.k λm i τ S acc=>(nk s g t c m i τ S).post (λzs j=>ug X ρ H Q (.ref j.length)<|j++[.lst<|acc++zs])<|XE X ρ H,⟨s.k,rfl,ρ1,S1,mH cap τ,[],[],⟨eD.toExt0,λa u na hu _=>by rw[jR na];exact hu,λa ha=>.inl ha,R1.P4 hD,kJ⟩,RD,QO ((r.ext e1).ext eD) cap,.nil,aP _,h1⟩,?_⟩;rintro i m σ3 H3 ⟨hm,F,B,τ3,acc,accV,G,R3,r3,C,la,d⟩
 cases m with
 | zero=>
  left;have d:(if s.fin B then Am.R.ok [] B else .no).post (λzs j=>ug X ρ H Q (.ref j.length)<|j++[.lst<|acc++zs]) (XE X ρ H):=d
  cases hf:s.fin B with
  | false=>rw[hf]at d;exact d.elim
  | true=>
   rw[hf]at d;have d:ug X ρ H Q (.ref B.length) (B++[.lst<|acc++[]]):=d;rw[bS]at d;refine⟨by rw[show i=s.k by lia];exact jr.stop _ H3 F G.e0 R3 hf,?_⟩;obtain⟨RT,gt⟩:=R3.take G.hD G.nD C;exact d (F++[D]) H3 _ (e1.trans<|G.end hD) RT<|.ref gt
 | succ m=>
  right;obtain⟨x,hx,d⟩:=jY d;obtain⟨f,T,Z,d⟩:=vC d;obtain⟨b,U,ht5,d⟩:=vC d;have jg:=jr.go i B H3 F x G.e0 R3 hx;refine⟨jg.1,λv H4 y=>?_⟩;obtain⟨e4,R4,v4⟩:=jg.2 v H4 y;refine⟨F,B,τ3,x,f,T,R4,r3.ext e4,v4,Z,λρ5 H5 σ5 e5 R5 O=>⟨ρ5,T,f,b,U,R5,O,ht5,λN H6 V R6=>?_⟩⟩;have p:=(e4.trans e5).trans V
  cases b with
  | false=>
   dsimp only;rw[aO bh];exact⟨m,dI _,(),N,U,f,acc,accV,G.stay hD p,R6,O.ext V,C.ext p,(),d⟩
  | true=>
   dsimp only;rw[aQ rfl];have d:((c f U).bind λy B=>(nk s g t c m (i+1) f B).bind λys T=>.ok (y::ys) T).post (λzs j=>ug X ρ H Q (.ref j.length)<|j++[.lst<|acc++zs]) (XE X ρ H):=d;have o6:=G.stay hD p;refine⟨N,U,f,R6,O.ext V,nR (jN d) (λy S6 q Y H7 w e7 R7 v7=>?_) λcl S6 q=>q.ext<|e1.trans<|o6.now hD⟩;have P:=G.stay hD<|p.trans e7;obtain⟨L,R8⟩:=R7.out (ws:=accV++[w]) P.hD P.nD;have l1:=C.length;refine⟨accV,P.hD,?_,m,dI _,(),Y,S6,f,acc++[y],accV++[w],P.put L,R8,(O.ext<|V.trans e7).mq L,AVs.mq L<|(C.ext<|p.trans e7).append<|.one v7,?_,?_⟩
   ·lia
   ·rw[aV];show acc.length+1<=_;lia
   ·refine nR (jN q) (λzs j z=>?_) λ_ _ z=>z;have z:ug X ρ H Q (.ref j.length) (j++[.lst<|acc++(y::zs)]):=z;rw[bI];exact z
def Cw(J:X.calm=true)(U:CpScope X scope N cap)(hi:AI X tg iter src)(hg:∀C s₀ H₀ ex,AG (lM X scope N C s₀ H₀ ex) tg g)(Z:∀C s₀ H₀ ex,WS (lM X scope N C s₀ H₀ ex) ifs t)(he:∀C s₀ H₀ ex pn' xe',AE ((lM X scope N C s₀ H₀ ex).sW pn' xe') elt c)
  (hs:(∀x,foldedSetIterable iter X.env x=pure x)<|>ζ) (hX:X.ex=[]<|>ε) (L:X.stack=X.env::X.outer<|>ε) (hf:X.env.frame=some X.env.locals<|>ε):AE X (.ListComp elt [⟨tg,iter,ifs,0⟩] scope pos) (rg cap src g t c):=
 PE.imp (TJ hX L hf J U hi (g:=UO X.K g) (tc:=UN X.K t) (te:=tE X c) (λC s₀ H₀ ex=>(hg C s₀ H₀ ex).g0 rfl) (λC s₀ H₀ ex=>Z C s₀ H₀ ex)
  (λC s₀ H₀ ex pn' xe' k=>PE.imp (he C s₀ H₀ ex pn' xe') λσ H Q ⟨ρ,S,τ,R,r,q⟩=>⟨ρ,S,τ,R,r,nR q (λ_ _ z=>z) λp m z j ρ' H' n f d=>k _ _<|z j ρ' H' n f d⟩) hs) Iv
end
end Am
namespace K83
open PySem L2 Am
abbrev top (i:Nat):aF:=PySem.Challenge.pw_undercells_k83_texts_that_are_none.main.body.getD i<|.Pass ⟨0,0,0,0⟩
meta abbrev vz:aF:=top 12
meta abbrev vO:ba:=["thing"]
meta abbrev sM:ba:=["thing"]
abbrev vQ:Sm:=
 kL (zw (jV (f2 H_)<|jC (jE 0)<|jC (eC<|.ty "int") jK)<|PK<|jV (f2 H_)<|jC (jE 0)<|jC (eC<|.ty "bool") jK)
abbrev nG:ae->jL->R A:=mP vO vQ
meta abbrev vM:aF:=top 13
meta abbrev vq:ba:=["thing"]
meta abbrev v_:ba:=["thing"]
abbrev vZ:Sm:=
 j6 (tN (zC (qv<|nY<|jV (f2 H_)<|jC (jE 0)<|jC (eC<|.ty "tuple") jK)<|zC (oH<|jJ Aw (jV (f1 mw)<|jC (jE 0) jK)<|eC<|.int 1)<|oH<|jJ Dy (jV (f1 mw)<|jC (jE 0) jK)<|eC<|.int 20)
 (kL<|eC<|.bl false)
 ny)
 (j6 (tN (qv<|nY<|jV (f1 wO)<|jC (kI [none] (mL<|jE 0) (kB 0) kR<|eFn nG<|jC (jE 0) jK) jK)
 (kL<|eC<|.bl false)
 ny)
 (kL<|jJ (mJ false) (jV (f1 zg)<|jC (jE 0) jK)<|jV (f1 wD)<|jC (jV (f2 u5)<|jC (eC<|.int 1)<|jC (jJ kq (jV (f1 mw)<|jC (jE 0) jK)<|eC<|.int 1) jK) jK))
abbrev qu:ae->jL->R A:=mP vq vZ
meta abbrev rF:aF:=top 14
meta abbrev q_:ba:=["n", "thing"]
meta abbrev rC:ba:=["n", "thing"]
abbrev qV:Sm:=
 kL (zw (eFn nG<|jC (jE 1) jK)<|AY Ay Aw (eC<|.int 1) (jE 1)<|jE 0)
abbrev mZ:ae->jL->R A:=mP q_ qV
meta abbrev xZ:aF:=top 17
meta abbrev ye:ba:=["n", "thing"]
meta abbrev yf:ba:=["n", "thing"]
abbrev xH:Sm:=
 j6 (tN (zC (qv<|nY<|jV (f2 H_)<|jC (jE 1)<|jC (eC<|.ty "list") jK)<|oH<|jJ Dy (jV (f1 mw)<|jC (jE 1) jK)<|eC<|.int 200)
 (kL<|eC<|.bl false)
 ny)
 (kL<|jV (f1 wO)<|jC (kI [none,some 0] (mL<|jE 1) (kB 0) kR<|eFn mZ<|jC (jE 1)<|jC (jE 0) jK) jK)
abbrev sd:ae->jL->R A:=mP ye xH
meta abbrev uO:aF:=top 25
meta abbrev uU:ba:=["number", "told", "piece"]
meta abbrev uN:ba:=["number"]
abbrev qS:Te:=
 oH (jJ Wq (jE 0)<|eC<|.int 10000000000000000000000000000000000000000000000000000000000000000)
abbrev vg:Sm:=
 j6 (Xb)
 (Xb)
abbrev t8:Sm:=
 j6 (kC (jV (f1 Ih)<|jC (jE 0) jK)<|kB 0)
 (j6 (kC (eC<|.str<|PySem.Str.ofString "")<|kB 1)
 (j6 (mT qS
 vg 1000000)
 (kL<|jJ kq (jV (f1 qC)<|jC (jE 0) jK)<|jE 1)))
abbrev pI:ae->jL->R A:=mP uU t8
meta abbrev uv:aF:=top 26
meta abbrev uJ:ba:=["power", "number", "size", "letter"]
meta abbrev tZ:ba:=["power", "number"]
abbrev ur:Sm:=
 j6 (kC (eFn pI<|jC (jE 1) jK)<|kB 2)
 (j6 (tN (oH<|jJ (mJ false) (jE 0)<|eC<|.int 0)
 (kL<|jE 2)
 ny)
 (j6 (kC (z_ (oH<|jJ (mJ false) (jE 0)<|eC<|.int 1) (eC<|.str<|PySem.Str.ofString "v")<|UJ [.inl "v^",.inr<|jE 0])<|kB 3)
 (kL<|z_ (oH<|jJ (mJ false) (jE 2)<|eC<|.str<|PySem.Str.ofString "1") (jE 3)<|UJ [.inr<|jE 2,.inl "*",.inr<|jE 3])))
abbrev nK:ae->jL->R A:=mP uJ ur
meta abbrev uA:aF:=top 27
meta abbrev ue:ba:=["poly", "told", "power", "number", "sign"]
meta abbrev uH:ba:=["poly"]
abbrev vn:Ic:=
 mL (jE 0)
abbrev rH:Sm:=
 j6 (kC (z_ (oH<|jJ Aw (jE 3)<|eC<|.int 0) (eC<|.str<|PySem.Str.ofString "-")<|eC<|.str<|PySem.Str.ofString "+")<|kB 4)
 (Kh 1 Mt<|UJ [.inl " ",.inr<|jE 4,.inl " ",.inr<|eFn nK<|jC (jE 2)<|jC (jE 3) jK])
abbrev uQ:Sm:=
 j6 (tN (qv<|nY<|jE 0)
 (kL<|eC<|.str<|PySem.Str.ofString "0")
 ny)
 (j6 (kC (eC<|.str<|PySem.Str.ofString "")<|kB 1)
 (j6 (vD vn (Bj 2<|su (kB 2)<|su (kB 3) A9)
 rH)
 (kL<|z_ (nY<|yV qJ (jE 1)<|jC (eC<|.str<|PySem.Str.ofString " + ") jK) (ou (jE 1) (kP<|eC<|.int 3) lP)<|jJ kq (eC<|.str<|PySem.Str.ofString "-")<|ou (jE 1) (kP<|eC<|.int 3) lP)))
abbrev pG:ae->jL->R A:=mP ue uQ
meta abbrev qQ:aF:=top 28
meta abbrev rP:ba:=["text"]
meta abbrev n9:ba:=["text"]
abbrev qY:Sm:=
 j6 (tN (zC (qv<|oH<|AY Ay Ay (eC<|.int 1) (jV (f1 mw)<|jC (jE 0) jK)<|eC<|.int 30)<|qv<|nY<|jV (f1 wO)<|jC (kI [none] (mL<|jE 0) (kB 0) kR<|jJ Ja (jE 0)<|eC<|.str<|PySem.Str.ofString "0123456789") jK)
 (uc "NoText" [])
 ny)
 (j6 (tN (Aq (nY<|yV qJ (jE 0)<|jC (eC<|.str<|PySem.Str.ofString "0") jK)<|oH<|jJ (mJ true) (jE 0)<|eC<|.str<|PySem.Str.ofString "0")
 (uc "NoText" [])
 ny)
 (kL<|jV (f1 mG)<|jC (jE 0) jK))
abbrev kg:ae->jL->R A:=mP rP qY
meta abbrev qa:aF:=top 29
meta abbrev qt:ba:=["text"]
meta abbrev oK:ba:=["text"]
abbrev qo:Sm:=
 kL (rg [none] (mL<|yV rT (jE 0)<|jC (eC<|.str<|PySem.Str.ofString " ") jK) (kB 0) kR<|qw kg<|jC (jE 0) jK)
abbrev k6:ae->jL->R A:=mP qt qo
meta abbrev tB:aF:=top 30
meta abbrev sC:ba:=["text", "order"]
meta abbrev sZ:ba:=["text"]
abbrev sI:Sm:=
 j6 (kC (jV (f1 qj)<|jC (qw k6<|jC (jE 0) jK) jK)<|kB 1)
 (j6 (tN (qv<|nY<|eFn qu<|jC (jE 1) jK)
 (uc "NoText" [])
 ny)
 (kL<|jE 1))
abbrev mV:ae->jL->R A:=mP sC sI
meta abbrev t6:aF:=top 31
meta abbrev tY:ba:=["text", "word"]
meta abbrev tV:ba:=["text"]
abbrev uP:Sm:=
 j6 (kC (z_ (oH<|jJ (mJ false) (jE 0)<|eC<|.str<|PySem.Str.ofString "-") (oQ jK)<|qw k6<|jC (jE 0) jK)<|kB 1)
 (j6 (tN (qv<|nY<|eFn sd<|jC (eC<|.int 20)<|jC (jE 1) jK)
 (uc "NoText" [])
 ny)
 (kL<|jE 1))
abbrev nE:ae->jL->R A:=mP tY uP
meta abbrev sS:aF:=top 32
meta abbrev sy:ba:=["text", "power"]
meta abbrev sY:ba:=["text"]
abbrev sJ:Sm:=
 j6 (tN (oH<|jJ (mJ false) (jE 0)<|eC<|.str<|PySem.Str.ofString "")
 (kL<|eC<|.int 1)
 ny)
 (j6 (kC (yV Rl (jE 0)<|jC (eC<|.str<|PySem.Str.ofString "^") jK)<|kB 1)
 (kL<|z_ (nY<|yV qJ (jE 1)<|jC (eC<|.str<|PySem.Str.ofString "-") jK) (Cr sU<|qw kg<|jC (ou (jE 1) (kP<|eC<|.int 1) lP) jK)<|qw kg<|jC (jE 1) jK))
abbrev l9:ae->jL->R A:=mP sy sJ
meta abbrev uq:aF:=top 33
meta abbrev uL:ba:=["sign", "text", "ahead", "letter", "behind", "power", "size"]
meta abbrev uM:ba:=["sign", "text"]
abbrev uI:Sm:=
 j6 (kC (yV HL (jE 1)<|jC (eC<|.str<|PySem.Str.ofString "v") jK)<|Bj 3<|su (kB 2)<|su (kB 3)<|su (kB 4) A9)
 (j6 (kC (z_ (nY<|jE 3) (qw l9<|jC (jE 4) jK)<|eC<|.int 0)<|kB 5)
 (j6 (kC (z_ (Aq (nY<|jE 3)<|qv<|nY<|jE 2) (eC<|.int 1)<|qw kg<|jC (yV MQ (jE 2)<|jC (eC<|.str<|PySem.Str.ofString "*") jK) jK)<|kB 6)
 (kL<|yE<|jC (jE 5)<|jC (z_ (oH<|jJ (mJ false) (jE 0)<|eC<|.str<|PySem.Str.ofString "-") (Cr sU<|jE 6)<|jE 6) jK)))
abbrev lZ:ae->jL->R A:=mP uL uI
meta abbrev sO:aF:=top 34
meta abbrev sR:ba:=["text", "signed", "parts"]
meta abbrev tD:ba:=["text"]
abbrev sG:Sm:=
 j6 (kC (z_ (nY<|yV qJ (jE 0)<|jC (eC<|.str<|PySem.Str.ofString "-") jK) (jJ kq (eC<|.str<|PySem.Str.ofString "- ")<|ou (jE 0) (kP<|eC<|.int 1) lP)<|jJ kq (eC<|.str<|PySem.Str.ofString "+ ")<|jE 0)<|kB 1)
 (j6 (kC (yV rT (jE 1)<|jC (eC<|.str<|PySem.Str.ofString " ") jK)<|kB 2)
 (j6 (tN (nY<|jJ JO (jV (f1 mw)<|jC (jE 2) jK)<|eC<|.int 1)
 (uc "NoText" [])
 ny)
 (kL<|rg [none,some 2] (w_ (eC<|.int 0) (jV (f1 mw)<|jC (jE 2) jK)<|eC<|.int 2) (kB 0) kR<|qw lZ<|jC (jJ oJ (jE 1)<|jE 0)<|jC (jJ oJ (jE 1)<|jJ kq (jE 0)<|eC<|.int 1) jK)))
abbrev mS:ae->jL->R A:=mP sR sG
meta abbrev ow:aF:=top 35
meta abbrev oh:ba:=["poly", "powers"]
meta abbrev oB:ba:=["poly"]
abbrev kZ:Sm:=
 j6 (kC (kI [none,none] (mL<|jE 0) (Bj 2<|su (kB 0)<|su (kB 1) A9) kR<|jE 0)<|kB 1)
 (j6 (tN (zC (oH<|jJ Dy (jV (f1 mw)<|jC (jE 0) jK)<|eC<|.int 40)<|oH<|jJ (mJ true) (jE 1)<|O0<|jE 1)
 (kL<|eC<|.bl false)
 ny)
 (kL<|jV (f1 wO)<|jC (kI [none,none] (mL<|jE 0) (Bj 2<|su (kB 0)<|su (kB 1) A9) kR<|zw (jJ (mJ true) (jE 1)<|eC<|.int 0)<|jJ Ay (jV (f1 Ih)<|jC (jE 0) jK)<|eC<|.int 60) jK))
abbrev kQ:ae->jL->R A:=mP oh kZ
meta abbrev uK:aF:=top 36
meta abbrev qH:ba:=["text", "poly"]
meta abbrev uR:ba:=["text"]
abbrev qG:Sm:=
 j6 (kC (z_ (oH<|jJ (mJ false) (jE 0)<|eC<|.str<|PySem.Str.ofString "0") (oQ jK)<|qw mS<|jC (jE 0) jK)<|kB 1)
 (j6 (tN (zC (qv<|nY<|eFn kQ<|jC (jE 1) jK)<|oH<|jJ (mJ true) (eFn pG<|jC (jE 1) jK)<|jE 0)
 (uc "NoText" [])
 ny)
 (kL<|jE 1))
abbrev lG:ae->jL->R A:=mP qH qG
meta abbrev xK:aF:=top 38
meta abbrev xC:ba:=["_law_script", "_law_k", "_law_cell", "_law_state"]
meta abbrev xP:ba:=["_law_script", "_law_k"]
abbrev xT:Sm:=
 j6 (kC (eC<|.int 0)<|kB 2)
 (j6 (tN (oH<|jJ Aw (jE 1)<|jV (f1 mw)<|jC (jE 0) jK)
 (kC (jV (f1 Ih)<|jC (jJ oJ (jE 0)<|jE 1) jK)<|kB 2)
 ny)
 (j6 (kC (jJ kq (eC<|.int 1)<|jJ yr (jJ kq (jJ kq (jJ kq (jJ yr (jE 2)<|eC<|.int 2147483647)<|jJ oR (jJ oR (eC<|.int 7919)<|jE 1)<|jE 1)<|jJ oR (eC<|.int 17)<|jE 1)<|eC<|.int 3)<|eC<|.int 2147483646)<|kB 3)
 (kL<|oQ<|jC (jJ oR (jE 2)<|jV (f1 mG)<|jC (jJ Wq (jE 2)<|jJ N6 (eC<|.int 10)<|eC<|.int 18) jK)<|jC (jE 3) jK)))
abbrev sq:ae->jL->R A:=mP xC xT
meta abbrev uz:aF:=top 39
meta abbrev qz:ba:=["_law_bag_here", "_law_many", "_law_found"]
meta abbrev lY:ba:=["_law_bag_here", "_law_many"]
abbrev qF:Sm:=
 j6 (tN (oH<|jJ Dy (jJ oJ (jE 0)<|eC<|.int 0)<|eC<|.int 0)
 (j6 (kC (jJ yr (jJ oJ (jE 0)<|eC<|.int 0)<|jE 1)<|kB 2)
 (j6 (kC (jJ zK (jJ oJ (jE 0)<|eC<|.int 0)<|jE 1)<|Sv (jE 0)<|eC<|.int 0)
 (kL<|jE 2)))
 ny)
 (j6 (kC (jJ yr (jJ oR (jJ oJ (jE 0)<|eC<|.int 1)<|eC<|.int 48271)<|eC<|.int 2147483647)<|Sv (jE 0)<|eC<|.int 1)
 (kL<|jJ yr (jJ zK (jJ yr (jJ oR (jJ oJ (jE 0)<|eC<|.int 1)<|jJ kq (jJ zK (jJ oJ (jE 0)<|eC<|.int 1)<|eC<|.int 65536)<|eC<|.int 9)<|eC<|.int 2147483629)<|eC<|.int 32)<|jE 1))
abbrev jQ:ae->jL->R A:=mP qz qF
meta abbrev xU:aF:=top 40
meta abbrev ya:ba:=["_law_bag_here", "_law_n", "_law_left", "_law_found", "_law_at"]
meta abbrev xy:ba:=["_law_bag_here", "_law_n"]
abbrev um:Te:=
 oH (jJ Dy (jV (f1 mw)<|jC (jE 2) jK)<|eC<|.int 0)
abbrev uh:Sm:=
 j6 (kC (eFn jQ<|jC (jE 0)<|jC (jV (f1 mw)<|jC (jE 2) jK) jK)<|kB 4)
 (j6 (DU<|Wn sN (jE 3)<|jC (jJ oJ (jE 2)<|jE 4) jK)
 (kC (jJ kq (W8 (jE 2) lP<|kP<|jE 4)<|W8 (jE 2) (kP<|jJ kq (jE 4)<|eC<|.int 1) lP)<|kB 2))
abbrev yb:Sm:=
 j6 (kC (jV (f1 wD)<|jC (jV (f2 u5)<|jC (eC<|.int 1)<|jC (jJ kq (jE 1)<|eC<|.int 1) jK) jK)<|kB 2)
 (j6 (kC (oQ jK)<|kB 3)
 (j6 (mT um
 uh 1000000)
 (kL<|jV (f1 qj)<|jC (jE 3) jK)))
abbrev r6:ae->jL->R A:=mP ya yb
meta abbrev uD:aF:=top 41
meta abbrev t9:ba:=["_law_bag_here", "_law_n", "_law_way", "_law_found", "_law_k", "_law_i", "_law_j"]
meta abbrev uB:ba:=["_law_bag_here", "_law_n"]
abbrev vh:Ic:=
 tU (eFn jQ<|jC (jE 0)<|jC (eC<|.int 7) jK)
abbrev rB:Sm:=
 j6 (kC (eFn jQ<|jC (jE 0)<|jC (jE 1) jK)<|kB 5)
 (j6 (kC (eFn jQ<|jC (jE 0)<|jC (jE 1) jK)<|kB 6)
 (kC (yE<|jC (jJ oJ (jE 3)<|jE 6)<|jC (jJ oJ (jE 3)<|jE 5) jK)<|Bj 2<|su (Sv (jE 3)<|jE 5)<|su (Sv (jE 3)<|jE 6) A9))
abbrev uE:Sm:=
 j6 (kC (eFn jQ<|jC (jE 0)<|jC (eC<|.int 4) jK)<|kB 2)
 (j6 (tN (oH<|jJ Dy (jE 2)<|eC<|.int 1)
 (kL<|eFn r6<|jC (jE 0)<|jC (jE 1) jK)
 ny)
 (j6 (kC (jV (f1 wD)<|jC (jV (f2 u5)<|jC (eC<|.int 1)<|jC (jJ kq (jE 1)<|eC<|.int 1) jK) jK)<|kB 3)
 (j6 (tN (oH<|jJ (mJ false) (jE 2)<|eC<|.int 1)
 (kC (Cr Lk<|jE 3)<|kB 3)
 ny)
 (j6 (vD vh (kB 4)
 rB)
 (kL<|jV (f1 qj)<|jC (jE 3) jK)))))
abbrev pF:ae->jL->R A:=mP t9 uE
meta abbrev qU:aF:=top 42
meta abbrev rO:ba:=["_law_word"]
meta abbrev m9:ba:=["_law_word"]
abbrev qP:Sm:=
 j6 (tN (zC (qv<|oH<|AY Ay Ay (eC<|.int 1) (jV (f1 mw)<|jC (jE 0) jK)<|eC<|.int 30)<|qv<|nY<|jV (f1 wO)<|jC (kI [none] (mL<|jE 0) (kB 0) kR<|jJ Ja (jE 0)<|eC<|.str<|PySem.Str.ofString "0123456789") jK)
 (kL<|eC .non)
 ny)
 (j6 (tN (Aq (oH<|jJ Dy (jV (f1 mw)<|jC (jE 0) jK)<|eC<|.int 1)<|oH<|jJ (mJ false) (jJ oJ (jE 0)<|eC<|.int 0)<|eC<|.str<|PySem.Str.ofString "0")
 (kL<|eC .non)
 ny)
 (kL<|jV (f1 mG)<|jC (jE 0) jK))
abbrev ki:ae->jL->R A:=mP rO qP
meta abbrev p_:aF:=top 43
meta abbrev qq:ba:=["_law_text", "_law_found"]
meta abbrev qg:ba:=["_law_text"]
abbrev qd:Sm:=
 j6 (kC (kI [none] (mL<|yV rT (jE 0)<|jC (eC<|.str<|PySem.Str.ofString " ") jK) (kB 0) kR<|eFn ki<|jC (jE 0) jK)<|kB 1)
 (j6 (tN (zC (oH<|jJ (NT false) (eC .non)<|jE 1)<|zC (oH<|jJ Dy (jV (f1 mw)<|jC (jE 1) jK)<|eC<|.int 20)<|oH<|jJ (mJ true) (jV (f1 zg)<|jC (jE 1) jK)<|jV (f1 wD)<|jC (jV (f2 u5)<|jC (eC<|.int 1)<|jC (jJ kq (jV (f1 mw)<|jC (jE 1) jK)<|eC<|.int 1) jK) jK)
 (kL<|eC .non)
 ny)
 (kL<|jV (f1 qj)<|jC (jE 1) jK))
abbrev mE:ae->jL->R A:=mP qq qd
meta abbrev rj:aF:=top 44
meta abbrev qT:ba:=["_law_text", "_law_found"]
meta abbrev rz:ba:=["_law_text"]
abbrev rQ:Sm:=
 j6 (tN (oH<|jJ (mJ false) (jE 0)<|eC<|.str<|PySem.Str.ofString "-")
 (kL<|oQ jK)
 ny)
 (j6 (kC (kI [none] (mL<|yV rT (jE 0)<|jC (eC<|.str<|PySem.Str.ofString " ") jK) (kB 0) kR<|eFn ki<|jC (jE 0) jK)<|kB 1)
 (j6 (tN (zC (oH<|jJ (NT false) (eC .non)<|jE 1)<|zC (oH<|jJ Dy (jV (f1 mw)<|jC (jE 1) jK)<|eC<|.int 200)<|qv<|nY<|jV (f1 wO)<|jC (kI [none] (mL<|jE 1) (kB 0) kR<|AY Aw Aw (eC<|.int 0) (jE 0)<|eC<|.int 20) jK)
 (kL<|eC .non)
 ny)
 (kL<|jE 1)))
abbrev mh:ae->jL->R A:=mP qT rQ
meta abbrev qi:aF:=top 45
meta abbrev qc:ba:=["_law_word", "_law_low", "_law_number"]
meta abbrev p9:ba:=["_law_word"]
abbrev qh:Sm:=
 j6 (tN (oH<|jJ (mJ false) (jE 0)<|eC<|.str<|PySem.Str.ofString "")
 (kL<|eC<|.int 1)
 ny)
 (j6 (kC (jJ (mJ false) (ou (jE 0) lP<|kP<|eC<|.int 2)<|eC<|.str<|PySem.Str.ofString "^-")<|kB 1)
 (j6 (kC (eFn ki<|jC (ou (jE 0) (kP<|jJ kq (eC<|.int 1)<|jV (f1 mG)<|jC (jE 1) jK) lP) jK)<|kB 2)
 (j6 (tN (zC (oH<|jJ (mJ true) (jJ oJ (jE 0)<|eC<|.int 0)<|eC<|.str<|PySem.Str.ofString "^")<|zC (oH<|jJ (Aa false) (jE 2)<|eC .non)<|zC (oH<|jJ (mJ false) (jE 2)<|eC<|.int 0)<|Aq (oH<|jJ (mJ false) (jE 2)<|eC<|.int 1)<|qv<|nY<|jE 1)
 (kL<|eC .non)
 ny)
 (kL<|jJ oR (jE 2)<|jJ aSub (eC<|.int 1)<|jJ oR (eC<|.int 2)<|jV (f1 mG)<|jC (jE 1) jK))))
abbrev nH:ae->jL->R A:=mP qc qh
meta abbrev qW:aF:=top 46
meta abbrev qO:ba:=["_law_word", "_law_before", "_law_letter", "_law_power_text", "_law_number", "_law_power"]
meta abbrev rE:ba:=["_law_word"]
abbrev rK:Sm:=
 j6 (kC (yV HL (jE 0)<|jC (eC<|.str<|PySem.Str.ofString "v") jK)<|Bj 3<|su (kB 1)<|su (kB 2)<|su (kB 3) A9)
 (j6 (tN (oH<|jJ (mJ false) (jE 2)<|eC<|.str<|PySem.Str.ofString "")
 (j6 (kC (eFn ki<|jC (jE 0) jK)<|kB 4)
 (kL<|z_ (zC (oH<|jJ (Aa false) (jE 4)<|eC .non)<|oH<|jJ (mJ false) (jE 4)<|eC<|.int 0) (eC .non)<|yE<|jC (eC<|.int 0)<|jC (jE 4) jK))
 ny)
 (j6 (kC (eFn nH<|jC (jE 3) jK)<|kB 5)
 (j6 (tN (oH<|jJ (mJ false) (jE 1)<|eC<|.str<|PySem.Str.ofString "")
 (kL<|z_ (oH<|jJ (Aa false) (jE 5)<|eC .non) (eC .non)<|yE<|jC (jE 5)<|jC (eC<|.int 1) jK)
 ny)
 (j6 (kC (eFn ki<|jC (ou (jE 1) lP<|kP<|Cr sU<|eC<|.int 1) jK)<|kB 4)
 (j6 (tN (zC (oH<|jJ (mJ true) (jJ oJ (jE 1)<|Cr sU<|eC<|.int 1)<|eC<|.str<|PySem.Str.ofString "*")<|zC (oH<|jJ (Aa false) (jE 4)<|eC .non)<|zC (oH<|jJ Aw (jE 4)<|eC<|.int 2)<|oH<|jJ (Aa false) (jE 5)<|eC .non)
 (kL<|eC .non)
 ny)
 (kL<|yE<|jC (jE 5)<|jC (jE 4) jK))))))
abbrev m_:ae->jL->R A:=mP qO rK
meta abbrev qL:aF:=top 47
meta abbrev o_:ba:=["_law_text", "_law_signs", "_law_words", "_law_at", "_law_terms"]
meta abbrev rG:ba:=["_law_text"]
abbrev mY:Te:=
 oH (jJ Aw (jE 3)<|jV (f1 mw)<|jC (jE 0) jK)
abbrev kN:Sm:=
 tN (oH<|jJ (NT false) (ou (jE 0) (kP<|jE 3)<|kP<|jJ kq (jE 3)<|eC<|.int 3)<|yE<|jC (eC<|.str<|PySem.Str.ofString " + ")<|jC (eC<|.str<|PySem.Str.ofString " - ") jK)
 (j6 (DU<|Wn sN (jE 1)<|jC (jJ oJ (oQ<|jC (Cr sU<|eC<|.int 1)<|jC (eC<|.int 1) jK)<|jV (f1 mG)<|jC (jJ (mJ false) (jJ oJ (jE 0)<|jJ kq (jE 3)<|eC<|.int 1)<|eC<|.str<|PySem.Str.ofString "+") jK) jK)
 (j6 (DU<|Wn sN (jE 2)<|jC (eC<|.str<|PySem.Str.ofString "") jK)
 (kC (jJ kq (jE 3)<|eC<|.int 3)<|kB 3)))
 (j6 (kC (jJ kq (jJ oJ (jE 2)<|Cr sU<|eC<|.int 1)<|jJ oJ (jE 0)<|jE 3)<|Sv (jE 2)<|Cr sU<|eC<|.int 1)
 (kC (jJ kq (jE 3)<|eC<|.int 1)<|kB 3))
abbrev pC:Sm:=
 j6 (tN (oH<|jJ (mJ false) (jE 0)<|eC<|.str<|PySem.Str.ofString "0")
 (kL<|oQ jK)
 ny)
 (j6 (kC (oQ<|jC (jJ aSub (eC<|.int 1)<|jJ oR (eC<|.int 2)<|jV (f1 mG)<|jC (jJ (mJ false) (ou (jE 0) lP<|kP<|eC<|.int 1)<|eC<|.str<|PySem.Str.ofString "-") jK) jK)<|kB 1)
 (j6 (kC (oQ<|jC (eC<|.str<|PySem.Str.ofString "") jK)<|kB 2)
 (j6 (kC (jV (f1 mG)<|jC (jJ (mJ false) (ou (jE 0) lP<|kP<|eC<|.int 1)<|eC<|.str<|PySem.Str.ofString "-") jK)<|kB 3)
 (j6 (mT mY
 kN 1000000)
 (j6 (kC (kI [none] (mL<|jE 2) (kB 0) kR<|eFn m_<|jC (jE 0) jK)<|kB 4)
 (j6 (tN (zC (oH<|jJ (NT false) (eC .non)<|jE 4)<|zC (oH<|jJ Dy (jV (f1 mw)<|jC (jE 4) jK)<|eC<|.int 40)<|qv<|nY<|jV (f1 wO)<|jC (kI [none,none] (mL<|jE 4) (Bj 2<|su (kB 0)<|su (kB 1) A9) kR<|AY Ay Ay (Cr sU<|eC<|.int 60) (jE 0)<|eC<|.int 60) jK)
 (kL<|eC .non)
 ny)
 (j6 (tN (qv<|nY<|jV (f1 wO)<|jC (kI [none,some 4] (uy (eC<|.int 1)<|jV (f1 mw)<|jC (jE 4) jK) (kB 0) kR<|jJ Aw (jJ oJ (jJ oJ (jE 1)<|jJ aSub (jE 0)<|eC<|.int 1)<|eC<|.int 0)<|jJ oJ (jJ oJ (jE 1)<|jE 0)<|eC<|.int 0) jK)
 (kL<|eC .non)
 ny)
 (kL<|kI [none,none,none] (A2 (jE 4)<|jE 1) (Bj 2<|su (Bj 2<|su (kB 0)<|su (kB 1) A9)<|su (kB 2) A9) kR<|yE<|jC (jE 0)<|jC (jJ oR (jE 1)<|jE 2) jK))))))))
abbrev kM:ae->jL->R A:=mP o_ pC
meta abbrev vS:aF:=top 48
meta abbrev vG:ba:=["_law_bag_here", "_law_some"]
meta abbrev vH:ba:=["_law_bag_here"]
abbrev vX:Sm:=
 j6 (kC (eC<|.str<|PySem.Str.ofString " !\"#$&'\x28\x29*+,-./0123456789:;<=>?@ABCDEFGHIJKLMNOPQRSTUVWXYZ[\\]^_`abcdefghijklmnopqrstuvwxyz{|}~")<|kB 1)
 (j6 (tN (oH<|jJ Dy (eFn jQ<|jC (jE 0)<|jC (eC<|.int 3) jK)<|eC<|.int 0)
 (kC (eC<|.str<|PySem.Str.ofString " 0123v^*+-")<|kB 1)
 ny)
 (kL<|jJ oJ (jE 1)<|eFn jQ<|jC (jE 0)<|jC (jV (f1 mw)<|jC (jE 1) jK) jK))
abbrev qm:ae->jL->R A:=mP vG vX
meta abbrev qK:aF:=top 49
meta abbrev rf:ba:=["_law_bag_here", "_law_text", "_law_turn", "_law_at", "_law_way"]
meta abbrev qX:ba:=["_law_bag_here", "_law_text"]
abbrev tM:Ic:=
 tU (eFn jQ<|jC (jE 0)<|jC (eC<|.int 3) jK)
abbrev pQ:Sm:=
 j6 (kC (eFn jQ<|jC (jE 0)<|jC (jJ kq (jV (f1 mw)<|jC (jE 1) jK)<|eC<|.int 1) jK)<|kB 3)
 (j6 (kC (eFn jQ<|jC (jE 0)<|jC (eC<|.int 3) jK)<|kB 4)
 (kC (jJ kq (jJ kq (ou (jE 1) lP<|kP<|jE 3)<|jJ oJ (oQ<|jC (eFn qm<|jC (jE 0) jK)<|jC (eC<|.str<|PySem.Str.ofString "") jK)<|jV (f1 mG)<|jC (jJ (mJ false) (jE 4)<|eC<|.int 1) jK)<|ou (jE 1) (kP<|jJ kq (jE 3)<|jV (f1 mG)<|jC (jJ Dy (jE 4)<|eC<|.int 0) jK) lP)<|kB 1))
abbrev qZ:Sm:=
 j6 (vD tM (kB 2)
 pQ)
 (kL<|jE 1)
abbrev mj:ae->jL->R A:=mP rf qZ
meta abbrev vB:aF:=top 50
meta abbrev vF:ba:=["_law_bag_here", "_law_power", "_law_text", "_law_place", "_law_word"]
meta abbrev vE:ba:=["_law_bag_here"]
abbrev wk:Ic:=
 tU (jJ kq (eC<|.int 1)<|eFn jQ<|jC (jE 0)<|jC (eC<|.int 5) jK)
abbrev sL:Sm:=
 j6 (kC (jJ kq (jJ oJ (oQ<|jC (eC<|.str<|PySem.Str.ofString "")<|jC (eC<|.str<|PySem.Str.ofString "3*")<|jC (eC<|.str<|PySem.Str.ofString "20*") jK)<|eFn jQ<|jC (jE 0)<|jC (eC<|.int 3) jK)<|jJ oJ (oQ<|jC (jJ kq (eC<|.str<|PySem.Str.ofString "v^")<|jV (f1 qC)<|jC (jE 1) jK)<|jC (eC<|.str<|PySem.Str.ofString "v") jK)<|jV (f1 mG)<|jC (jJ (mJ false) (jE 1)<|eC<|.int 1) jK)<|kB 4)
 (j6 (tN (oH<|jJ (mJ false) (jE 1)<|eC<|.int 0)
 (kC (jV (f1 qC)<|jC (jJ kq (eC<|.int 1)<|eFn jQ<|jC (jE 0)<|jC (eC<|.int 99) jK) jK)<|kB 4)
 ny)
 (j6 (kC (jJ kq (jJ kq (jE 2)<|jJ oJ (jJ oJ (oQ<|jC (oQ<|jC (eC<|.str<|PySem.Str.ofString " + ")<|jC (eC<|.str<|PySem.Str.ofString " - ") jK)<|jC (oQ<|jC (eC<|.str<|PySem.Str.ofString "")<|jC (eC<|.str<|PySem.Str.ofString "-") jK) jK)<|jV (f1 mG)<|jC (jJ (mJ false) (jE 2)<|eC<|.str<|PySem.Str.ofString "") jK)<|eFn jQ<|jC (jE 0)<|jC (eC<|.int 2) jK)<|jE 4)<|kB 2)
 (kC (jJ kq (jJ kq (jE 1)<|eC<|.int 1)<|eFn jQ<|jC (jE 0)<|jC (eC<|.int 3) jK)<|kB 1)))
abbrev v5:Sm:=
 j6 (kC (jJ aSub (eFn jQ<|jC (jE 0)<|jC (eC<|.int 9) jK)<|eC<|.int 4)<|kB 1)
 (j6 (kC (eC<|.str<|PySem.Str.ofString "")<|kB 2)
 (j6 (vD wk (kB 3)
 sL)
 (kL<|jE 2)))
abbrev qf:ae->jL->R A:=mP vF v5
meta abbrev xx:aF:=top 51
meta abbrev xG:ba:=["_law_bag_here", "_law_row", "_law_some"]
meta abbrev xg:ba:=["_law_bag_here"]
abbrev yh:Sm:=
 j6 (kC (yV Bk (eC<|.str<|PySem.Str.ofString " ")<|jC (kI [none] (uy (eC<|.int 1)<|eC<|.int 22) (kB 0) kR<|jV (f1 qC)<|jC (jE 0) jK) jK)<|kB 1)
 (j6 (kC (oQ<|jC (eC<|.str<|PySem.Str.ofString "")<|jC (eC<|.str<|PySem.Str.ofString " ")<|jC (eC<|.str<|PySem.Str.ofString "1 1")<|jC (eC<|.str<|PySem.Str.ofString "2 1 2")<|jC (jE 1)<|jC (ou (jE 1) lP<|kP<|Cr sU<|eC<|.int 3)<|jC (eC<|.str<|PySem.Str.ofString "0")<|jC (eC<|.str<|PySem.Str.ofString "0 1")<|jC (eC<|.str<|PySem.Str.ofString "20")<|jC (eC<|.str<|PySem.Str.ofString "1 20")<|jC (eC<|.str<|PySem.Str.ofString "19 1") jK)<|kB 2)
 (j6 (kC (jJ kq (jE 2)<|oQ<|jC (jJ kq (jJ tX (eC<|.str<|PySem.Str.ofString "1 ")<|eC<|.int 200)<|eC<|.str<|PySem.Str.ofString "1")<|jC (jJ kq (jJ tX (eC<|.str<|PySem.Str.ofString "1 ")<|eC<|.int 199)<|eC<|.str<|PySem.Str.ofString "1")<|jC (jJ tX (eC<|.str<|PySem.Str.ofString "1")<|eC<|.int 31)<|jC (jJ kq (jJ tX (eC<|.str<|PySem.Str.ofString "1")<|eC<|.int 30)<|eC<|.str<|PySem.Str.ofString "*v")<|jC (jJ kq (jJ tX (eC<|.str<|PySem.Str.ofString "1")<|eC<|.int 31)<|eC<|.str<|PySem.Str.ofString "*v")<|jC (jJ kq (eC<|.str<|PySem.Str.ofString "v^")<|jJ tX (eC<|.str<|PySem.Str.ofString "1")<|eC<|.int 31) jK)<|kB 2)
 (j6 (kC (jJ kq (jE 2)<|oQ<|jC (eC<|.str<|PySem.Str.ofString "v^2 + v")<|jC (eC<|.str<|PySem.Str.ofString "v + v")<|jC (eC<|.str<|PySem.Str.ofString "v^61")<|jC (eC<|.str<|PySem.Str.ofString "v^60")<|jC (eC<|.str<|PySem.Str.ofString "v^-61")<|jC (eC<|.str<|PySem.Str.ofString "0*v")<|jC (eC<|.str<|PySem.Str.ofString "1*v")<|jC (eC<|.str<|PySem.Str.ofString "v^1")<|jC (eC<|.str<|PySem.Str.ofString "v^0")<|jC (eC<|.str<|PySem.Str.ofString "v^-0")<|jC (eC<|.str<|PySem.Str.ofString "-0")<|jC (eC<|.str<|PySem.Str.ofString "+v")<|jC (eC<|.str<|PySem.Str.ofString "- v") jK)<|kB 2)
 (j6 (kC (jJ kq (jE 2)<|oQ<|jC (eC<|.str<|PySem.Str.ofString "v^-1 + 1 + v")<|jC (eC<|.str<|PySem.Str.ofString "v^-1 +1")<|jC (eC<|.str<|PySem.Str.ofString "1+v")<|jC (eC<|.str<|PySem.Str.ofString "vv")<|jC (eC<|.str<|PySem.Str.ofString "2v") jK)<|kB 2)
 (kL<|jJ oJ (jE 2)<|eFn jQ<|jC (jE 0)<|jC (eC<|.int 35) jK)))))
abbrev rV:ae->jL->R A:=mP xG yh
meta abbrev vV:aF:=top 52
meta abbrev sV:ba:=["_law_text", "_law_due", "_law_way", "_law_found", "e", "_law_others"]
meta abbrev we:ba:=["_law_text", "_law_due", "_law_way"]
abbrev sP:Sm:=
 j6 (yk 4 ["NoText"] (CJ (oH<|jJ (mJ false) (jE 2)<|eC<|.int 0) (kC (Cd mV<|jC (jE 0) jK)<|kB 3)<|CJ (oH<|jJ (mJ false) (jE 2)<|eC<|.int 1) (kC (Cd nE<|jC (jE 0) jK)<|kB 3)<|kC (Cd lG<|jC (jE 0) jK)<|kB 3)
 (j6 (kC (oQ<|jC (wN (EG [("NoText",false)])<|jE 4)<|jC (wN (EG [("NoText",false)])<|jE 4)<|jC (wN (EG [("NoText",false)])<|jE 4)<|jC (wN (EG [("NoText",false)])<|jE 4) jK)<|kB 5)
 (j6 (kC (jJ kq (jE 5)<|oQ<|jC (wN (EG [("NoText",false)])<|jE 4)<|jC (wN (EG [("NoText",false)])<|jE 4)<|jC (wN (EG [("NoText",false)])<|jE 4) jK)<|kB 5)
 (kL<|zw (jJ (Aa false) (jE 1)<|eC .non)<|zw (wN (EG [("NoText",true)])<|jE 4)<|zw (wN (EG [("NoText",true)])<|jE 4)<|PK<|jV (f1 O5)<|jC (jE 5) jK))))
 (kL<|zw (jJ (Aa true) (jE 1)<|eC .non)<|jJ (mJ false) (jE 3)<|jE 1)
abbrev nM:ae->jL->R A:=mP sV sP
meta abbrev K8:aF:=top 53
meta abbrev Lr:ba:=["_law_script", "_law_k", "_law_bag_here", "_law_order_here", "_law_word", "_law_texts", "_law_text", "_law_way", "_law_due"]
meta abbrev QV:ba:=["_law_script"]
abbrev F7:Ic:=
 Ow (oQ<|jC (eFn mE<|jC (jE 6) jK)<|jC (eFn mh<|jC (jE 6) jK)<|jC (eFn kM<|jC (jE 6) jK) jK)
abbrev G9:Sm:=
 tN (qv<|nY<|eFn nM<|jC (jE 6)<|jC (jE 8)<|jC (jE 7) jK)
 (kL<|eC<|.bl false)
 ny
abbrev HJ:Ic:=
 mL (jE 5)
abbrev Ce:Sm:=
 vD F7 (Bj 2<|su (kB 7)<|su (kB 8) A9)
 G9
abbrev GK:Ic:=
 tU (jV (f2 Lf)<|jC (eC<|.int 1)<|jC (jV (f2 LB)<|jC (eC<|.int 5)<|jC (jV (f1 mw)<|jC (jE 0) jK) jK) jK)
abbrev Ci:Sm:=
 j6 (kC (eFn sq<|jC (jE 0)<|jC (jE 1) jK)<|kB 2)
 (j6 (kC (eFn pF<|jC (jE 2)<|jC (jJ kq (eC<|.int 1)<|eFn jQ<|jC (jE 2)<|jC (eC<|.int 12) jK) jK)<|kB 3)
 (j6 (kC (kI [none,some 2] (tU<|jJ kq (eC<|.int 1)<|eFn jQ<|jC (jE 2)<|jC (eC<|.int 8) jK) (kB 0) kR<|jJ kq (eC<|.int 1)<|eFn jQ<|jC (jE 1)<|jC (eC<|.int 19) jK)<|kB 4)
 (j6 (kC (oQ<|jC (yV Bk (eC<|.str<|PySem.Str.ofString " ")<|jC (kI [none] (mL<|jE 3) (kB 0) kR<|jV (f1 qC)<|jC (jE 0) jK) jK)<|jC (yV Bk (eC<|.str<|PySem.Str.ofString " ")<|jC (kI [none] (mL<|jE 4) (kB 0) kR<|jV (f1 qC)<|jC (jE 0) jK) jK)<|jC (eFn qf<|jC (jE 2) jK) jK)<|kB 5)
 (j6 (kC (jJ kq (kI [none,some 2] (mL<|jE 5) (kB 0) kR<|eFn mj<|jC (jE 1)<|jC (jE 0) jK)<|oQ<|jC (eFn rV<|jC (jE 2) jK) jK)<|kB 5)
 (vD HJ (kB 6)
 Ce)))))
abbrev Jk:Sm:=
 j6 (vD GK (kB 1)
 Ci)
 (kL<|eC<|.bl true)
abbrev AQ:ae->jL->R A:=mP Lr Jk
section
variable {P:ah}{w:af}{K:au}{mg:Str->bj}{base:ak}{f:aj}{fd:FuncData}
def CZ:FnScope vO sM (jU vz):=vp rfl rfl rfl ∅
def CG(F:Fun K "is_whole" "is_whole" vz f fd)(j:mg "isinstance" = none)(J:mg "bool" = none)(L:mg "int" = none):FnOk P w K mg base uY 1 f fd sM (vN K 1 nG):=yT (m:=vQ) F CZ λd B outer s H E g=>
 jP (j5<|vt (jW Gf j n_<|jD (jB 0)<|jD (F8 L oZ) jI)<|zm<|KO<|jW Gf j n_<|jD (jB 0)<|jD (F8 J Ou) jI)
def C7:FnScope vq v_ (jU vM):=vp rfl rfl rfl ∅
def Dp(F:Fun K "is_order" "is_order" vM f fd)(j:mg "len" = none)(J:mg "isinstance" = none)(L:mg "tuple" = none)(U:mg "all" = none)(Z:mg "sorted" = none)(ZS:mg "list" = none)(ZN:mg "range" = none)(ZY:∃t,mg "MOST_THINGS" = some (.int 20 t))(ZZ:tH P w K mg base 1 "is_whole" sM nG):FnOk P w K mg base uY 2 f fd v_ (vN K 1 qu):=yT (m:=vZ) F C7 λg B outer s H E d=>
 jG (lq (AW.at<|oG (nF<|lR<|jW Gf J n_<|jD (jB 0)<|jD (F8 L ud) jI)<|oG (j_ (BG d.units) (jW nX j lQ<|jD (jB 0) jI) jH)<|pO<|j_ (yv d.units) (jW nX j lQ<|jD (jB 0) jI)<|qk ZY.choose_spec)
 (jP<|j5 Ba)
 kr)
 (jG (lq (nF<|lR<|jW (yo rfl) U tW<|jD (nq (N:=["part"]) (cap:=[none]) rfl (oF [] rfl ∅ ∅ ∅ ∅ ∅ (nofun) trivial) (nJ<|jB 0) (λ_ _ _ _=>kh (i:=0) (show(["part"]:ba).Nodup by decide +kernel) rfl (Or.inl rfl)<|.inr rfl) (λ_ _ _ _=>lB) λ_ _ _ _=>Bu ZZ d<|jB 0) jI)
 (jP<|j5 Ba)
 kr)
 (jP<|j5<|nc (oN d.units) (jW Fw Z xq<|jD (jB 0) jI)<|ko (BF rfl) ZS wV<|jD (ko wY ZN wW<|jD jH<|jD (jS kF (jW nX j lQ<|jD (jB 0) jI) jH) jI) jI))
def zY:FnScope q_ rC (jU rF):=vp rfl rfl rfl ∅
def zO(F:Fun K "is_exchange" "is_exchange" rF f fd)(j:tH P w K mg base 1 "is_whole" sM nG):FnOk P w K mg base uY 2 f fd rC (vN K 2 mZ):=yT (m:=qV) F zY λg B outer s H E d=>
 jP (j5<|vt (Bu j d<|jB 1)<|zm<|L6 DA (BG d.units) jH (jB 1)<|jB 0)
def Eo:FnScope ye yf (jU xZ):=vp rfl rfl rfl ∅
def EV(F:Fun K "is_word" "is_word" xZ f fd)(j:mg "len" = none)(J:mg "isinstance" = none)(L:mg "list" = none)(U:mg "all" = none)(Z:∃t,mg "MOST_NUMBERS" = some (.int 200 t))(Z3:tH P w K mg base 2 "is_exchange" rC mZ):FnOk P w K mg base uY 3 f fd yf (vN K 2 sd):=yT (m:=xH) F Eo λg B outer s H E d=>
 jG (lq (AW.at<|oG (nF<|lR<|jW Gf J n_<|jD (jB 1)<|jD (F8 L wV) jI)<|pO<|j_ (yv d.units) (jW nX j lQ<|jD (jB 1) jI)<|qk Z.choose_spec)
 (jP<|j5 Ba)
 kr)
 (jP<|j5<|jW (yo rfl) U tW<|jD (nq (N:=["part", "n"]) (cap:=[none,some 0]) rfl (oF ["n"] rfl ∅ ∅ ∅ ∅ ∅ (bQ.mpr ⟨by first|exact Or.inl rfl|exact Or.inr rfl,(nofun)⟩) ⟨rfl,by decide +kernel,trivial⟩) (nJ<|jB 1) (λ_ _ _ _=>kh (i:=0) (show(["part", "n"]:ba).Nodup by decide +kernel) rfl (Or.inl rfl)<|.inr rfl) (λ_ _ _ _=>lB) λ_ _ _ _=>yd Z3 d (jB 1)<|jB 0) jI)
def s_:FnScope uU uN (jU uO):=vp rfl rfl rfl ∅
def Bo(F:Fun K "show_size" "show_size" uO f fd)(j:mg "abs" = none)(J:mg "str" = none)(L:∃t,mg "PIECE" = some (.int 10000000000000000000000000000000000000000000000000000000000000000 t)):FnOk P w K mg base uY 1 f fd uN (vN K 1 pI):=yT (m:=t8) F s_ λd B outer s H E g=>
 jG (jZ (i:=0) s_.nd<|jW JV j EH<|jD (jB 0) jI)
 (jG (jZ (i:=1) s_.nd jO)
 (jG (zI 1000000 dN (j_ U4 (jB 0)<|qk L.choose_spec)
 (jG (P1)
 (jP<|P1)))
 (jP<|j5<|jS kF (ko xD J xw<|jD (jB 0) jI)<|jB 1)))
theorem tw:FnScope uJ tZ (jU uv):=vp rfl rfl rfl ∅
def Cc(F:Fun K "show_term" "show_term" uv f fd)(j:tH P w K mg base 1 "show_size" uN pI):FnOk P w K mg base uY 2 f fd tZ (vN K 2 nK):=yT (m:=ur) F tw λg B outer s H E d=>
 jG (jZ (i:=2) tw.nd<|Bu j d<|jB 1)
 (jG (lq (j_ (oN d.units) (jB 0) jH)
 (jP<|j5<|jB 2)
 kr)
 (jG (jZ (i:=3) tw.nd<|sj (j_ (oN d.units) (jB 0) jH) jO<|K2 (ps:=[.inl "v^",.inr<|jE 0])<|.txt<|.val (jB 0) .nil)
 (jP<|j5<|sj (j_ (oN d.units) (jB 2) jO) (jB 3)<|K2 (ps:=[.inr<|jE 2,.inl "*",.inr<|jE 3])<|.val (jB 2)<|.txt<|.val (jB 3) .nil)))
def nP:FnScope ue uH (jU uA):=vp rfl rfl rfl ∅
def B0(F:Fun K "show_poly" "show_poly" uA f fd)(j:tH P w K mg base 2 "show_term" tZ nK):FnOk P w K mg base uY 3 f fd uH (vN K 1 pG):=yT (m:=uQ) F nP λg B outer s H E d=>
 jG (lq (nF<|lR<|jB 0)
 (jP<|j5 jO)
 kr)
 (jG (jZ (i:=1) nP.nd jO)
 (jG (vY dN rfl (nJ<|jB 0) (rJ rfl<|kG (kh (i:=2) nP.nd)<|kG (kh (i:=3) nP.nd) pD)
 (jG (jZ (i:=4) nP.nd<|sj (j_ (BG d.units) (jB 3) jH) jO jO)
 (jP<|Uq (i:=1) nP.nd (K2 (ps:=[.inl " ",.inr<|jE 4,.inl " ",.inr<|eFn nK<|jC (jE 2)<|jC (jE 3) jK])<|.txt<|.val (jB 4)<|.txt<|.val (yd j d (jB 2)<|jB 3) .nil) Oz)))
 (jP<|j5<|sj (lR<|ql eY eZ wL (jB 1)<|jD jO jI) (oX (jB 1) (mz jH) nu)<|jS kF jO<|oX (jB 1) (mz jH) nu)))
def zG:FnScope rP n9 (jU qQ):=vp rfl rfl rfl ∅
def z0(F:Fun K "read_number" "read_number" qQ f fd)(j:ExcK K U "NoText" C_NoText)(J:mg "all" = none)(L:mg "len" = none)(Z:mg "int" = none)(Z7:∃t,mg "FIGURES" = some (.str (PySem.Str.ofString "0123456789") t))(Z8:∃t,mg "MOST_FIGURES" = some (.int 30 t)):FnOk P w K mg base (Bw P w) 1 f fd n9 (Jg K 1 kg):=fnX (m:=qY) F zG λg B outer s H E d=>
 jG (lq (AW.at<|oG (nF<|Qh DA DA jH (jW nX L lQ<|jD (jB 0) jI)<|qk Z8.choose_spec)<|pO<|nF<|lR<|jW (yo rfl) J tW<|jD (nq (N:=["sign"]) (cap:=[none]) rfl (oF [] rfl ∅ ∅ ∅ ∅ ∅ (nofun) trivial) (nJ<|jB 0) (λ_ _ _ _=>kh (i:=0) (show(["sign"]:ba).Nodup by decide +kernel) rfl (Or.inl rfl)<|.inr rfl) (λ_ _ _ _=>lB) λ_ _ _ _=>nc Q0 (jB 0)<|KW Z7.choose_spec) jI)
 (jP<|pZ j.n j.q d.hd)
 kr)
 (jG (lq (AW.at<|BD (lR<|ql eY eZ wL (jB 0)<|jD jO jI)<|yN<|j_ (EM d.units) (jB 0) jO)
 (jP<|pZ j.n j.q d.hd)
 kr)
 (jP<|j5<|ko pM Z oZ<|jD (jB 0) jI))
def yu:FnScope qt oK (jU qa):=vp rfl rfl rfl ∅
def yy(F:Fun K "read_numbers" "read_numbers" qa f fd)(j:D4 P w K mg base 1 "read_number" n9 kg):FnOk P w K mg base (Bw P w) 2 f fd oK (Jg K 1 k6):=fnX (m:=qo) F yu λg B outer s H E d=>
 jP (j5<|Cw (N:=["part"]) (cap:=[none]) rfl (oF [] rfl ∅ ∅ ∅ ∅ ∅ (nofun) trivial) (nJ<|ql fW fX m_split (jB 0)<|jD jO jI) (λ_ _ _ _=>kh (i:=0) (show(["part"]:ba).Nodup by decide +kernel) rfl (Or.inl rfl)<|.inr rfl) (λ_ _ _ _=>lB) λ_ _ _ _ _ _=>Qv j d<|jB 0)
def vm:FnScope sC sZ (jU tB):=vp rfl rfl rfl ∅
def Ao(F:Fun K "read_order" "read_order" tB f fd)(j:ExcK K U "NoText" C_NoText)(J:mg "tuple" = none)(L:D4 P w K mg base 2 "read_numbers" oK k6)(Z:tH P w K mg base 2 "is_order" v_ qu):FnOk P w K mg base (Bw P w) 3 f fd sZ (Jg K 1 mV):=fnX (m:=sI) F vm λg B outer s H E d=>
 jG (jZ (i:=1) vm.nd<|ko (yR rfl) J ud<|jD (Qv L d<|jB 0) jI)
 (jG (lq (nF<|lR<|Bu Z d<|jB 1)
 (jP<|pZ j.n j.q d.hd)
 kr)
 (jP<|j5<|jB 1))
def wu:FnScope tY tV (jU t6):=vp rfl rfl rfl ∅
def Ck(F:Fun K "read_word" "read_word" t6 f fd)(j:ExcK K U "NoText" C_NoText)(J:∃t,mg "MOST_THINGS" = some (.int 20 t))(L:D4 P w K mg base 2 "read_numbers" oK k6)(Z:tH P w K mg base 3 "is_word" yf sd):FnOk P w K mg base (Bw P w) 4 f fd tV (Jg K 1 nE):=fnX (m:=uP) F wu λg B outer s H E d=>
 jG (jZ (i:=1) wu.nd<|sj (j_ (oN d.units) (jB 0) jO) (lD jI)<|Qv L d<|jB 0)
 (jG (lq (nF<|lR<|yd Z d (qk J.choose_spec)<|jB 1)
 (jP<|pZ j.n j.q d.hd)
 kr)
 (jP<|j5<|jB 1))
def vj:FnScope sy sY (jU sS):=vp rfl rfl rfl ∅
def Ar(F:Fun K "read_power" "read_power" sS f fd)(j:D4 P w K mg base 1 "read_number" n9 kg):FnOk P w K mg base (Bw P w) 2 f fd sY (Jg K 1 l9):=fnX (m:=sJ) F vj λg B outer s H E d=>
 jG (lq (j_ (oN d.units) (jB 0) jO)
 (jP<|j5 jH)
 kr)
 (jG (jZ (i:=1) vj.nd<|ql PySem.F.slot_str_removeprefix PySem.F.type_str_removeprefix Wh (jB 0)<|jD jO jI)
 (jP<|j5<|sj (lR<|ql eY eZ wL (jB 1)<|jD jO jI) (sX<|Qv j d<|oX (jB 1) (mz jH) nu)<|Qv j d<|jB 1))
def nN:FnScope uL uM (jU uq):=vp rfl rfl rfl ∅
def Cj(F:Fun K "read_term" "read_term" uq f fd)(j:D4 P w K mg base 2 "read_power" sY l9)(J:D4 P w K mg base 1 "read_number" n9 kg):FnOk P w K mg base (Bw P w) 3 f fd uM (Jg K 2 lZ):=fnX (m:=uI) F nN λg B outer s H E d=>
 jG (xJ (ql i8 i9 Li (jB 1)<|jD jO jI)<|rJ rfl<|kG (kh (i:=2) nN.nd)<|kG (kh (i:=3) nN.nd)<|kG (kh (i:=4) nN.nd) pD)
 (jG (jZ (i:=5) nN.nd<|sj (lR<|jB 3) (Qv j d<|jB 4) jH)
 (jG (jZ (i:=6) nN.nd<|sj (AW.at<|BD (lR<|jB 3)<|yN<|nF<|lR<|jB 2) jH<|Qv J d<|ql PySem.F.slot_str_removesuffix PySem.F.type_str_removesuffix Wg (jB 2)<|jD jO jI)
 (jP<|j5<|vI<|jD (jB 5)<|jD (sj (j_ (oN d.units) (jB 0) jO) (sX<|jB 6)<|jB 6) jI)))
def rL:FnScope sR tD (jU sO):=vp rfl rfl rfl ∅
def Au(F:Fun K "read_terms" "read_terms" sO f fd)(J:ExcK K U "NoText" C_NoText)(L:mg "len" = none)(Z:mg "range" = none)(j:D4 P w K mg base 3 "read_term" uM lZ):FnOk P w K mg base (Bw P w) 4 f fd tD (Jg K 1 mS):=fnX (m:=sG) F rL λg B outer s H E d=>
 jG (jZ (i:=1) rL.nd<|sj (lR<|ql eY eZ wL (jB 0)<|jD jO jI) (jS kF jO<|oX (jB 0) (mz jH) nu)<|jS kF jO<|jB 0)
 (jG (jZ (i:=2) rL.nd<|ql fW fX m_split (jB 1)<|jD jO jI)
 (jG (lq (lR<|jS Q6 (jW nX L lQ<|jD (jB 2) jI) jH)
 (jP<|pZ J.n J.q d.hd)
 kr)
 (jP<|j5<|Cw (N:=["at", "parts"]) (cap:=[none,some 2]) rfl (oF ["parts"] rfl ∅ ∅ ∅ ∅ ∅ (bQ.mpr ⟨by first|exact Or.inl rfl|exact Or.inr rfl,(nofun)⟩) ⟨rfl,by decide +kernel,trivial⟩) (Ew Z jH (jW nX L lQ<|jD (jB 2) jI) jH) (λ_ _ _ _=>kh (i:=0) (show(["at", "parts"]:ba).Nodup by decide +kernel) rfl (Or.inl rfl)<|.inr rfl) (λ_ _ _ _=>lB) λ_ _ _ _ _ _=>Zs j d (lO (jB 1)<|jB 0)<|lO (jB 1)<|jS kF (jB 0) jH)))
def pU:FnScope oh oB (jU ow):=vp rfl rfl rfl ∅
def vc(F:Fun K "is_within_bounds" "is_within_bounds" ow f fd)(U:mg "sorted" = none)(j:mg "set" = none)(Z:mg "len" = none)(ZP:mg "all" = none)(ZX:mg "abs" = none)(J:∃t,mg "MOST_TERMS" = some (.int 40 t))(L:∃t,mg "GREATEST_POWER" = some (.int 60 t)):FnOk P w K mg base uY 1 f fd oB (vN K 1 kQ):=yT (m:=kZ) F pU λg B outer s H E d=>
 jG (yL (i:=1) (N:=["power", "number"]) (cap:=[none,none]) pU.nd rfl (oF [] rfl ∅ ∅ ∅ ∅ ∅ (nofun) trivial) (nJ<|jB 0) (λ_ _ _ _=>rJ rfl<|kG (kh (i:=0) (show(["power", "number"]:ba).Nodup by decide +kernel) rfl (Or.inl rfl)<|.inr rfl)<|kG (kh (i:=1) (show(["power", "number"]:ba).Nodup by decide +kernel) rfl (Or.inl rfl)<|.inr rfl) pD) (λ_ _ _ _=>lB) λ_ _ _ _=>jB 0)
 (jG (lq (AW.at<|oG (j_ (yv d.units) (jW nX Z lQ<|jD (jB 0) jI)<|qk J.choose_spec)<|pO<|j_ (EM d.units) (jB 1)<|C1 rfl U xq j T9<|jB 1)
 (jP<|j5 Ba)
 kr)
 (jP<|j5<|jW (yo rfl) ZP tW<|jD (nq (N:=["power", "number"]) (cap:=[none,none]) rfl (oF [] rfl ∅ ∅ ∅ ∅ ∅ (nofun) trivial) (nJ<|jB 0) (λ_ _ _ _=>rJ rfl<|kG (kh (i:=0) (show(["power", "number"]:ba).Nodup by decide +kernel) rfl (Or.inl rfl)<|.inr rfl)<|kG (kh (i:=1) (show(["power", "number"]:ba).Nodup by decide +kernel) rfl (Or.inl rfl)<|.inr rfl) pD) (λ_ _ _ _=>lB) λ_ _ _ _=>vt (nc (EM d.units) (jB 1) jH)<|zm<|nc DA (jW JV ZX EH<|jD (jB 0) jI)<|qk L.choose_spec) jI))
def wX:FnScope qH uR (jU uK):=vp rfl rfl rfl ∅
def B4(F:Fun K "read_poly" "read_poly" uK f fd)(Z:ExcK K U "NoText" C_NoText)(j:D4 P w K mg base 4 "read_terms" tD mS)(J:tH P w K mg base 3 "show_poly" uH pG)(L:tH P w K mg base 1 "is_within_bounds" oB kQ):FnOk P w K mg base (Bw P w) 5 f fd uR (Jg K 1 lG):=fnX (m:=qG) F wX λg B outer s H E d=>
 jG (jZ (i:=1) wX.nd<|sj (j_ (oN d.units) (jB 0) jO) (lD jI)<|Qv j d<|jB 0)
 (jG (lq (AW.at<|oG (nF<|lR<|Bu L d<|jB 1)<|pO<|j_ (EM d.units) (Bu J d<|jB 1)<|jB 0)
 (jP<|pZ Z.n Z.q d.hd)
 kr)
 (jP<|j5<|jB 1))
def sH:FnScope xC xP (jU xK):=vp rfl rfl rfl ∅
def EI(F:Fun K "_law_bag" "_law_bag" xK f fd)(j:mg "len" = none)(J:mg "abs" = none)(L:mg "int" = none):FnOk P w K mg base uY 1 f fd xP (vN K 2 sq):=yT (m:=xT) F sH λg B outer s H E d=>
 jG (jZ (i:=2) sH.nd jH)
 (jG (lq (j_ (BG d.units) (jB 1)<|jW nX j lQ<|jD (jB 0) jI)
 (jP<|jZ (i:=2) sH.nd<|jW JV J EH<|jD (lO (jB 0)<|jB 1) jI)
 kr)
 (jG (jZ (i:=3) sH.nd<|jS kF jH<|jS Bc (jS kF (jS kF (jS kF (jS Bc (jB 2) jH)<|jS vf (jS vf jH<|jB 1)<|jB 1)<|jS vf jH<|jB 1) jH) jH)
 (jP<|j5<|lD<|jD (jS vf (jB 2)<|ko pM L oZ<|jD (nc U4 (jB 2)<|jS UU jH jH) jI)<|jD (jB 3) jI)))
def wC:FnScope qz lY (jU uz):=vp rfl rfl rfl ∅
def BO(F:Fun K "_law_digit" "_law_digit" uz f fd):FnOk P w K mg base uY 1 f fd lY (vN K 2 jQ):=yT (m:=qF) F wC λg B outer s H E d=>
 jG (lq (j_ (yv d.units) (lO (jB 0) jH) jH)
 (jG (jZ (i:=2) wC.nd<|jS Bc (lO (jB 0) jH)<|jB 1)
 (jG (xJ (jS BK (lO (jB 0) jH)<|jB 1)<|zz (jB 0) jH)
 (jP<|j5<|jB 2)))
 kr)
 (jG (xJ (jS Bc (jS vf (lO (jB 0) jH) jH) jH)<|zz (jB 0) jH)
 (jP<|j5<|jS Bc (jS BK (jS Bc (jS vf (lO (jB 0) jH)<|jS kF (jS BK (lO (jB 0) jH) jH) jH) jH) jH)<|jB 1))
def p5:FnScope ya xy (jU xU):=vp rfl rfl rfl ∅
def EC(F:Fun K "_law_any" "_law_any" xU f fd)(J:mg "list" = none)(L:mg "range" = none)(j:mg "len" = none)(U:mg "tuple" = none)(Z:tH P w K mg base 1 "_law_digit" lY jQ):FnOk P w K mg base uY 2 f fd xy (vN K 2 r6):=yT (m:=yb) F p5 λg B outer s H E d=>
 jG (jZ (i:=2) p5.nd<|ko (BF rfl) J wV<|jD (ko wY L wW<|jD jH<|jD (jS kF (jB 1) jH) jI) jI)
 (jG (jZ (i:=3) p5.nd<|lD jI)
 (jG (zI 1000000 dN (j_ (yv d.units) (jW nX j lQ<|jD (jB 2) jI) jH)
 (jG (jZ (i:=4) p5.nd<|yd Z d (jB 0)<|jW nX j lQ<|jD (jB 2) jI)
 (jG (Bt<|Kf gr gu zq (jB 3)<|jD (lO (jB 2)<|jB 4) jI)
 (jP<|jZ (i:=2) p5.nd<|jS kF (PN (jB 2) nu<|mz<|jB 4)<|PN (jB 2) (mz<|jS kF (jB 4) jH) nu))))
 (jP<|j5<|ko (yR rfl) U ud<|jD (jB 3) jI)))
def mR:FnScope t9 uB (jU uD):=vp rfl rfl rfl ∅
def BI(F:Fun K "_law_order" "_law_order" uD f fd)(U:mg "list" = none)(L:mg "range" = none)(Z:mg "tuple" = none)(j:tH P w K mg base 1 "_law_digit" lY jQ)(J:tH P w K mg base 2 "_law_any" xy r6):FnOk P w K mg base uY 3 f fd uB (vN K 2 pF):=yT (m:=uE) F mR λg B outer s H E d=>
 jG (jZ (i:=2) mR.nd<|yd j d (jB 0) jH)
 (jG (lq (j_ (yv d.units) (jB 2) jH)
 (jP<|j5<|yd J d (jB 0)<|jB 1)
 kr)
 (jG (jZ (i:=3) mR.nd<|ko (BF rfl) U wV<|jD (ko wY L wW<|jD jH<|jD (jS kF (jB 1) jH) jI) jI)
 (jG (lq (j_ (oN d.units) (jB 2) jH)
 (jP<|jZ (i:=3) mR.nd<|Uv<|jB 3)
 kr)
 (jG (vY dN rfl (rY L<|yd j d (jB 0) jH) (kh (i:=4) mR.nd)
 (jG (jZ (i:=5) mR.nd<|yd j d (jB 0)<|jB 1)
 (jG (jZ (i:=6) mR.nd<|yd j d (jB 0)<|jB 1)
 (jP<|xJ (vI<|jD (lO (jB 3)<|jB 6)<|jD (lO (jB 3)<|jB 5) jI)<|rJ rfl<|kG (zz (jB 3)<|jB 5)<|kG (zz (jB 3)<|jB 6) pD))))
 (jP<|j5<|ko (yR rfl) Z ud<|jD (jB 3) jI)))))
def zb:FnScope rO m9 (jU qU):=vp rfl rfl rfl ∅
def zj(F:Fun K "_law_numeral" "_law_numeral" qU f fd)(J:mg "all" = none)(j:mg "len" = none)(L:mg "int" = none):FnOk P w K mg base uY 1 f fd m9 (vN K 1 ki):=yT (m:=qP) F zb λg B outer s H E d=>
 jG (lq (AW.at<|oG (nF<|Qh DA DA jH (jW nX j lQ<|jD (jB 0) jI) jH)<|pO<|nF<|lR<|jW (yo rfl) J tW<|jD (nq (N:=["_law_sign_here"]) (cap:=[none]) rfl (oF [] rfl ∅ ∅ ∅ ∅ ∅ (nofun) trivial) (nJ<|jB 0) (λ_ _ _ _=>kh (i:=0) (show(["_law_sign_here"]:ba).Nodup by decide +kernel) rfl (Or.inl rfl)<|.inr rfl) (λ_ _ _ _=>lB) λ_ _ _ _=>nc Q0 (jB 0) jO) jI)
 (jP<|j5<|mF)
 kr)
 (jG (lq (AW.at<|BD (j_ (yv d.units) (jW nX j lQ<|jD (jB 0) jI) jH)<|yN<|j_ (oN d.units) (lO (jB 0) jH) jO)
 (jP<|j5<|mF)
 kr)
 (jP<|j5<|ko pM L oZ<|jD (jB 0) jI))
def tK:FnScope qq qg (jU p_):=vp rfl rfl rfl ∅
def yz(F:Fun K "_law_order_in" "_law_order_in" p_ f fd)(J:mg "sorted" = none)(L:mg "list" = none)(U:mg "range" = none)(j:mg "len" = none)(Z:mg "tuple" = none)(ZU:tH P w K mg base 1 "_law_numeral" m9 ki):FnOk P w K mg base uY 2 f fd qg (vN K 1 mE):=yT (m:=qd) F tK λg B outer s H E d=>
 jG (yL (i:=1) (N:=["_law_word"]) (cap:=[none]) tK.nd rfl (oF [] rfl ∅ ∅ ∅ ∅ ∅ (nofun) trivial) (nJ<|ql fW fX m_split (jB 0)<|jD jO jI) (λ_ _ _ _=>kh (i:=0) (show(["_law_word"]:ba).Nodup by decide +kernel) rfl (Or.inl rfl)<|.inr rfl) (λ_ _ _ _=>lB) λ_ _ _ _=>Bu ZU d<|jB 0)
 (jG (lq (AW.at<|oG (j_ (Ph d.units) (mF)<|jB 1)<|oG (j_ (yv d.units) (jW nX j lQ<|jD (jB 1) jI) jH)<|pO<|j_ (EM d.units) (jW Fw J xq<|jD (jB 1) jI)<|ko (BF rfl) L wV<|jD (ko wY U wW<|jD jH<|jD (jS kF (jW nX j lQ<|jD (jB 1) jI) jH) jI) jI)
 (jP<|j5<|mF)
 kr)
 (jP<|j5<|ko (yR rfl) Z ud<|jD (jB 1) jI))
def uX:FnScope qT rz (jU rj):=vp rfl rfl rfl ∅
def zk(F:Fun K "_law_word_in" "_law_word_in" rj f fd)(j:mg "all" = none)(J:mg "len" = none)(L:tH P w K mg base 1 "_law_numeral" m9 ki):FnOk P w K mg base uY 2 f fd rz (vN K 1 mh):=yT (m:=rQ) F uX λg B outer s H E d=>
 jG (lq (j_ (oN d.units) (jB 0) jO)
 (jP<|j5<|lD jI)
 kr)
 (jG (yL (i:=1) (N:=["_law_word"]) (cap:=[none]) uX.nd rfl (oF [] rfl ∅ ∅ ∅ ∅ ∅ (nofun) trivial) (nJ<|ql fW fX m_split (jB 0)<|jD jO jI) (λ_ _ _ _=>kh (i:=0) (show(["_law_word"]:ba).Nodup by decide +kernel) rfl (Or.inl rfl)<|.inr rfl) (λ_ _ _ _=>lB) λ_ _ _ _=>Bu L d<|jB 0)
 (jG (lq (AW.at<|oG (j_ (Ph d.units) (mF)<|jB 1)<|oG (j_ (yv d.units) (jW nX J lQ<|jD (jB 1) jI) jH)<|pO<|nF<|lR<|jW (yo rfl) j tW<|jD (nq (N:=["_law_number"]) (cap:=[none]) rfl (oF [] rfl ∅ ∅ ∅ ∅ ∅ (nofun) trivial) (nJ<|jB 1) (λ_ _ _ _=>kh (i:=0) (show(["_law_number"]:ba).Nodup by decide +kernel) rfl (Or.inl rfl)<|.inr rfl) (λ_ _ _ _=>lB) λ_ _ _ _=>L6 (BG d.units) (BG d.units) jH (jB 0) jH) jI)
 (jP<|j5<|mF)
 kr)
 (jP<|j5<|jB 1)))
def pK:FnScope qc p9 (jU qi):=vp rfl rfl rfl ∅
def yx(F:Fun K "_law_power_in" "_law_power_in" qi f fd)(j:mg "int" = none)(J:tH P w K mg base 1 "_law_numeral" m9 ki):FnOk P w K mg base uY 2 f fd p9 (vN K 1 nH):=yT (m:=qh) F pK λg B outer s H E d=>
 jG (lq (j_ (oN d.units) (jB 0) jO)
 (jP<|j5 jH)
 kr)
 (jG (jZ (i:=1) pK.nd<|nc (oN d.units) (oX (jB 0) nu<|mz jH) jO)
 (jG (jZ (i:=2) pK.nd<|Bu J d<|oX (jB 0) (mz<|jS kF jH<|ko pM j oZ<|jD (jB 1) jI) nu)
 (jG (lq (AW.at<|oG (j_ (EM d.units) (lO (jB 0) jH) jO)<|oG (j_ Ii (jB 2)<|mF)<|oG (j_ (oN d.units) (jB 2) jH)<|pO<|AW.at<|BD (j_ (oN d.units) (jB 2) jH)<|yN<|nF<|lR<|jB 1)
 (jP<|j5<|mF)
 kr)
 (jP<|j5<|jS vf (jB 2)<|jS Fp jH<|jS vf jH<|ko pM j oZ<|jD (jB 1) jI))))
def lK:FnScope qO rE (jU qW):=vp rfl rfl rfl ∅
def zc(F:Fun K "_law_term_in" "_law_term_in" qW f fd)(J:tH P w K mg base 1 "_law_numeral" m9 ki)(j:tH P w K mg base 2 "_law_power_in" p9 nH):FnOk P w K mg base uY 3 f fd rE (vN K 1 m_):=yT (m:=rK) F lK λg B outer s H E d=>
 jG (xJ (ql i8 i9 Li (jB 0)<|jD jO jI)<|rJ rfl<|kG (kh (i:=1) lK.nd)<|kG (kh (i:=2) lK.nd)<|kG (kh (i:=3) lK.nd) pD)
 (jG (lq (j_ (oN d.units) (jB 2) jO)
 (jG (jZ (i:=4) lK.nd<|Bu J d<|jB 0)
 (jP<|j5<|sj (AW.at<|oG (j_ Ii (jB 4)<|mF)<|pO<|j_ (oN d.units) (jB 4) jH) (mF)<|vI<|jD jH<|jD (jB 4) jI))
 kr)
 (jG (jZ (i:=5) lK.nd<|Bu j d<|jB 3)
 (jG (lq (j_ (oN d.units) (jB 1) jO)
 (jP<|j5<|sj (j_ Ii (jB 5)<|mF) (mF)<|vI<|jD (jB 5)<|jD jH jI)
 kr)
 (jG (jZ (i:=4) lK.nd<|Bu J d<|oX (jB 1) nu<|mz<|sX jH)
 (jG (lq (AW.at<|oG (j_ (EM d.units) (lO (jB 1)<|sX jH) jO)<|oG (j_ Ii (jB 4)<|mF)<|oG (j_ (BG d.units) (jB 4) jH)<|pO<|j_ Ii (jB 5)<|mF)
 (jP<|j5<|mF)
 kr)
 (jP<|j5<|vI<|jD (jB 5)<|jD (jB 4) jI))))))
def lJ:FnScope o_ rG (jU qL):=vp rfl rfl rfl ∅
def zS(F:Fun K "_law_poly_in" "_law_poly_in" qL f fd)(j:mg "int" = none)(J:mg "len" = none)(Z:mg "all" = none)(ZN:mg "range" = none)(L:mg "zip" = none)(U:tH P w K mg base 3 "_law_term_in" rE m_):FnOk P w K mg base uY 4 f fd rG (vN K 1 kM):=yT (m:=pC) F lJ λg B outer s H E d=>
 jG (lq (j_ (oN d.units) (jB 0) jO)
 (jP<|j5<|lD jI)
 kr)
 (jG (jZ (i:=1) lJ.nd<|lD<|jD (jS Fp jH<|jS vf jH<|ko pM j oZ<|jD (nc (oN d.units) (oX (jB 0) nu<|mz jH) jO) jI) jI)
 (jG (jZ (i:=2) lJ.nd<|lD<|jD jO jI)
 (jG (jZ (i:=3) lJ.nd<|ko pM j oZ<|jD (nc (oN d.units) (oX (jB 0) nu<|mz jH) jO) jI)
 (jG (zI 1000000 dN (j_ (BG d.units) (jB 3)<|jW nX J lQ<|jD (jB 0) jI)
 (jP (lq (j_ (Ph d.units) (oX (jB 0) (mz<|jB 3)<|mz<|jS kF (jB 3) jH)<|vI<|jD jO<|jD jO jI)
 (jG (Bt<|Kf gr gu zq (jB 1)<|jD (lO (lD<|jD (sX jH)<|jD jH jI)<|ko pM j oZ<|jD (nc (oN d.units) (lO (jB 0)<|jS kF (jB 3) jH) jO) jI) jI)
 (jG (Bt<|Kf gr gu zq (jB 2)<|jD jO jI)
 (jP<|jZ (i:=3) lJ.nd<|jS kF (jB 3) jH)))
 (jG (xJ (jS kF (lO (jB 2)<|sX jH)<|lO (jB 0)<|jB 3)<|zz (jB 2)<|sX jH)
 (jP<|jZ (i:=3) lJ.nd<|jS kF (jB 3) jH)))))
 (jG (jZ (i:=4) lJ.nd<|nq (N:=["_law_word"]) (cap:=[none]) rfl (oF [] rfl ∅ ∅ ∅ ∅ ∅ (nofun) trivial) (nJ<|jB 2) (λ_ _ _ _=>kh (i:=0) (show(["_law_word"]:ba).Nodup by decide +kernel) rfl (Or.inl rfl)<|.inr rfl) (λ_ _ _ _=>lB) λ_ _ _ _=>Bu U d<|jB 0)
 (jG (lq (AW.at<|oG (j_ (Ph d.units) (mF)<|jB 4)<|oG (j_ (yv d.units) (jW nX J lQ<|jD (jB 4) jI) jH)<|pO<|nF<|lR<|jW (yo rfl) Z tW<|jD (nq (N:=["_law_power", "_law_number"]) (cap:=[none,none]) rfl (oF [] rfl ∅ ∅ ∅ ∅ ∅ (nofun) trivial) (nJ<|jB 4) (λ_ _ _ _=>rJ rfl<|kG (kh (i:=0) (show(["_law_power", "_law_number"]:ba).Nodup by decide +kernel) rfl (Or.inl rfl)<|.inr rfl)<|kG (kh (i:=1) (show(["_law_power", "_law_number"]:ba).Nodup by decide +kernel) rfl (Or.inl rfl)<|.inr rfl) pD) (λ_ _ _ _=>lB) λ_ _ _ _=>L6 DA DA (sX jH) (jB 0) jH) jI)
 (jP<|j5<|mF)
 kr)
 (jG (lq (nF<|lR<|jW (yo rfl) Z tW<|jD (nq (N:=["_law_k", "_law_terms"]) (cap:=[none,some 4]) rfl (oF ["_law_terms"] rfl ∅ ∅ ∅ ∅ ∅ (bQ.mpr ⟨by first|exact Or.inl rfl|exact Or.inr rfl,(nofun)⟩) ⟨rfl,by decide +kernel,trivial⟩) (AM ZN jH<|jW nX J lQ<|jD (jB 4) jI) (λ_ _ _ _=>kh (i:=0) (show(["_law_k", "_law_terms"]:ba).Nodup by decide +kernel) rfl (Or.inl rfl)<|.inr rfl) (λ_ _ _ _=>lB) λ_ _ _ _=>nc (BG d.units) (lO (lO (jB 1)<|jS Fp (jB 0) jH) jH)<|lO (lO (jB 1)<|jB 0) jH) jI)
 (jP<|j5<|mF)
 kr)
 (jP<|j5<|nq (N:=["_law_power", "_law_number", "_law_sign_here"]) (cap:=[none,none,none]) rfl (oF [] rfl ∅ ∅ ∅ ∅ ∅ (nofun) trivial) (Uj L (jB 4)<|jB 1) (λ_ _ _ _=>rJ rfl<|kG (rJ rfl<|kG (kh (i:=0) (show(["_law_power", "_law_number", "_law_sign_here"]:ba).Nodup by decide +kernel) rfl (Or.inl rfl)<|.inr rfl)<|kG (kh (i:=1) (show(["_law_power", "_law_number", "_law_sign_here"]:ba).Nodup by decide +kernel) rfl (Or.inl rfl)<|.inr rfl) pD)<|kG (kh (i:=2) (show(["_law_power", "_law_number", "_law_sign_here"]:ba).Nodup by decide +kernel) rfl (Or.inl rfl)<|.inr rfl) pD) (λ_ _ _ _=>lB) λ_ _ _ _=>vI<|jD (jB 0)<|jD (jS vf (jB 1)<|jB 2) jI))))))))
def t_:FnScope vG vH (jU vS):=vp rfl rfl rfl ∅
def DE(F:Fun K "_law_sign" "_law_sign" vS f fd)(J:mg "len" = none)(j:tH P w K mg base 1 "_law_digit" lY jQ):FnOk P w K mg base uY 2 f fd vH (vN K 1 qm):=yT (m:=vX) F t_ λg B outer s H E d=>
 jG (jZ (i:=1) t_.nd jO)
 (jG (lq (j_ (yv d.units) (yd j d (jB 0) jH) jH)
 (jP<|jZ (i:=1) t_.nd jO)
 kr)
 (jP<|j5<|lO (jB 1)<|yd j d (jB 0)<|jW nX J lQ<|jD (jB 1) jI))
def nA:FnScope rf qX (jU qK):=vp rfl rfl rfl ∅
def zR(F:Fun K "_law_spoiled" "_law_spoiled" qK f fd)(U:mg "range" = none)(Z:mg "len" = none)(L:mg "int" = none)(j:tH P w K mg base 1 "_law_digit" lY jQ)(J:tH P w K mg base 2 "_law_sign" vH qm):FnOk P w K mg base uY 3 f fd qX (vN K 2 mj):=yT (m:=qZ) F nA λg B outer s H E d=>
 jG (vY dN rfl (rY U<|yd j d (jB 0) jH) (kh (i:=2) nA.nd)
 (jG (jZ (i:=3) nA.nd<|yd j d (jB 0)<|jS kF (jW nX Z lQ<|jD (jB 1) jI) jH)
 (jG (jZ (i:=4) nA.nd<|yd j d (jB 0) jH)
 (jP<|jZ (i:=1) nA.nd<|jS kF (jS kF (oX (jB 1) nu<|mz<|jB 3)<|lO (lD<|jD (Bu J d<|jB 0)<|jD jO jI)<|ko pM L oZ<|jD (nc (oN d.units) (jB 4) jH) jI)<|oX (jB 1) (mz<|jS kF (jB 3)<|ko pM L oZ<|jD (nc (yv d.units) (jB 4) jH) jI) nu))))
 (jP<|j5<|jB 1)
def mK:FnScope vF vE (jU vB):=vp rfl rfl rfl ∅
def Cs(F:Fun K "_law_poly" "_law_poly" vB f fd)(U:mg "range" = none)(J:mg "str" = none)(L:mg "int" = none)(j:tH P w K mg base 1 "_law_digit" lY jQ):FnOk P w K mg base uY 2 f fd vE (vN K 1 qf):=yT (m:=v5) F mK λg B outer s H E d=>
 jG (jZ (i:=1) mK.nd<|jS Fp (yd j d (jB 0) jH) jH)
 (jG (jZ (i:=2) mK.nd jO)
 (jG (vY dN rfl (rY U<|jS kF jH<|yd j d (jB 0) jH) (kh (i:=3) mK.nd)
 (jG (jZ (i:=4) mK.nd<|jS kF (lO (lD<|jD jO<|jD jO<|jD jO jI)<|yd j d (jB 0) jH)<|lO (lD<|jD (jS kF jO<|ko xD J xw<|jD (jB 1) jI)<|jD jO jI)<|ko pM L oZ<|jD (nc (oN d.units) (jB 1) jH) jI)
 (jG (lq (j_ (oN d.units) (jB 1) jH)
 (jP<|jZ (i:=4) mK.nd<|ko xD J xw<|jD (jS kF jH<|yd j d (jB 0) jH) jI)
 kr)
 (jG (jZ (i:=2) mK.nd<|jS kF (jS kF (jB 2)<|lO (lO (lD<|jD (lD<|jD jO<|jD jO jI)<|jD (lD<|jD jO<|jD jO jI) jI)<|ko pM L oZ<|jD (nc (oN d.units) (jB 2) jO) jI)<|yd j d (jB 0) jH)<|jB 4)
 (jP<|jZ (i:=1) mK.nd<|jS kF (jS kF (jB 1) jH)<|yd j d (jB 0) jH)))))
 (jP<|j5<|jB 2)))
def oW:FnScope xG xg (jU xx):=vp rfl rfl rfl ∅
def EY(F:Fun K "_law_odd" "_law_odd" xx f fd)(j:mg "range" = none)(J:mg "str" = none)(L:tH P w K mg base 1 "_law_digit" lY jQ):FnOk P w K mg base uY 2 f fd xg (vN K 1 rV):=yT (m:=yh) F oW λg B outer s H E d=>
 jG (jZ (i:=1) oW.nd<|ql ie ig Ec jO<|jD (nq (N:=["_law_k"]) (cap:=[none]) rfl (oF [] rfl ∅ ∅ ∅ ∅ ∅ (nofun) trivial) (AM j jH jH) (λ_ _ _ _=>kh (i:=0) (show(["_law_k"]:ba).Nodup by decide +kernel) rfl (Or.inl rfl)<|.inr rfl) (λ_ _ _ _=>lB) λ_ _ _ _=>ko xD J xw<|jD (jB 0) jI) jI)
 (jG (jZ (i:=2) oW.nd<|lD<|jD jO<|jD jO<|jD jO<|jD jO<|jD (jB 1)<|jD (oX (jB 1) nu<|mz<|sX jH)<|jD jO<|jD jO<|jD jO<|jD jO<|jD jO jI)
 (jG (jZ (i:=2) oW.nd<|jS kF (jB 2)<|lD<|jD (jS kF (jS xh jO jH) jO)<|jD (jS kF (jS xh jO jH) jO)<|jD (jS xh jO jH)<|jD (jS kF (jS xh jO jH) jO)<|jD (jS kF (jS xh jO jH) jO)<|jD (jS kF jO<|jS xh jO jH) jI)
 (jG (jZ (i:=2) oW.nd<|jS kF (jB 2)<|lD<|jD jO<|jD jO<|jD jO<|jD jO<|jD jO<|jD jO<|jD jO<|jD jO<|jD jO<|jD jO<|jD jO<|jD jO<|jD jO jI)
 (jG (jZ (i:=2) oW.nd<|jS kF (jB 2)<|lD<|jD jO<|jD jO<|jD jO<|jD jO<|jD jO jI)
 (jP<|j5<|lO (jB 2)<|yd L d (jB 0) jH)))))
def nL:FnScope sV we (jU vV):=vp rfl rfl rfl ∅
def DN(F:Fun K "_law_told" "_law_told" vV f fd)(hU:DZ K "UnderError" U)(mU:L2.mroIn K U=some Uz)(Z:ExcK K U "NoText" C_NoText)(aan:mg "NoTables" = some (.ref C_NoTables))(aao:mg "NoRow" = some (.ref C_NoRow))(aap:mg "NoNumber" = some (.ref C_NoNumber))(aaq:mg "NoName" = some (.ref C_NoName))(aar:mg "TooMany" = some (.ref C_TooMany))(aas:mg "NoWord" = some (.ref C_NoWord))(aat:mg "NoPair" = some (.ref C_NoPair))(aau:mg "NoText" = some (.ref C_NoText))(J:PySem.W.kitOne K (.ref C_NoText) (.ref C_NoTables)=some false)(k_NoText_NoRow:PySem.W.kitOne K (.ref C_NoText) (.ref C_NoRow)=some false)(L:PySem.W.kitOne K (.ref C_NoText) (.ref C_NoNumber)=some false)(k_NoText_NoName:PySem.W.kitOne K (.ref C_NoText) (.ref C_NoName)=some false)(k_NoText_TooMany:PySem.W.kitOne K (.ref C_NoText) (.ref C_TooMany)=some false)(k_NoText_NoWord:PySem.W.kitOne K (.ref C_NoText) (.ref C_NoWord)=some false)(k_NoText_NoPair:PySem.W.kitOne K (.ref C_NoText) (.ref C_NoPair)=some false)(k_NoText_NoText:PySem.W.kitOne K (.ref C_NoText) (.ref C_NoText)=some true)(ZQ:mg "isinstance" = none)(aav:mg "any" = none)(aaw:mg "ValueError" = none)(aax:D4 P w K mg base 3 "read_order" sZ mV)(aay:D4 P w K mg base 4 "read_word" tV nE)(aaz:D4 P w K mg base 5 "read_poly" uR lG):FnOk P w K mg base uY 6 f fd we (vN K 3 nM):=yT (m:=sP) F nL λg B outer s H E d=>
 jG (by(refine Om (i:=4) (cs:=["NoText"]) ?hb ?hh nL.nd hU mU<|bQ.mpr ⟨⟨_,Z.n,Z.r⟩,(nofun)⟩;(case hb=>exact(λ_ _=>JT (j_ (oN d.units) (jB 2) jH) (BQ (i:=3) nL.nd<|Eg aax (d.mono ⋯) (jD (jB 0) jI)<|mW qy)<|JT (j_ (oN d.units) (jB 2) jH) (BQ (i:=3) nL.nd<|Eg aay (d.mono ⋯) (jD (jB 0) jI)<|mW qy)<|BQ (i:=3) nL.nd<|Eg aaz (d.mono ⋯) (jD (jB 0) jI)<|mW qy));(case hh=>exact(λ_ _ _ _ j=>jG (jZ (i:=5) nL.nd<|lD<|jD (uo aaq (tb:=[("NoText",false)]) (bQ.mpr ⟨⟨_,Z.n,Z.x,Z.cl,k_NoText_NoName⟩,(nofun)⟩) (jB 4) ZQ)<|jD (uo aap (tb:=[("NoText",false)]) (bQ.mpr ⟨⟨_,Z.n,Z.x,Z.cl,L⟩,(nofun)⟩) (jB 4) ZQ)<|jD (uo aao (tb:=[("NoText",false)]) (bQ.mpr ⟨⟨_,Z.n,Z.x,Z.cl,k_NoText_NoRow⟩,(nofun)⟩) (jB 4) ZQ)<|jD (uo aan (tb:=[("NoText",false)]) (bQ.mpr ⟨⟨_,Z.n,Z.x,Z.cl,J⟩,(nofun)⟩) (jB 4) ZQ) jI)
 (jG (jZ (i:=5) nL.nd<|jS kF (jB 5)<|lD<|jD (uo aat (tb:=[("NoText",false)]) (bQ.mpr ⟨⟨_,Z.n,Z.x,Z.cl,k_NoText_NoPair⟩,(nofun)⟩) (jB 4) ZQ)<|jD (uo aas (tb:=[("NoText",false)]) (bQ.mpr ⟨⟨_,Z.n,Z.x,Z.cl,k_NoText_NoWord⟩,(nofun)⟩) (jB 4) ZQ)<|jD (uo aar (tb:=[("NoText",false)]) (bQ.mpr ⟨⟨_,Z.n,Z.x,Z.cl,k_NoText_TooMany⟩,(nofun)⟩) (jB 4) ZQ) jI)
 (jP<|j5<|vt (nc Ii (jB 1)<|mF)<|vt (uo aau (tb:=[("NoText",true)]) (bQ.mpr ⟨⟨_,Z.n,Z.x,Z.cl,k_NoText_NoText⟩,(nofun)⟩) (jB 4) ZQ)<|vt (Q_ aaw (tb:=[("NoText",true)]) (bQ.mpr ⟨⟨_,Z.n,Z.x,Z.cl,Z.v⟩,(nofun)⟩) (jB 4) ZQ)<|zm<|KO<|jW (RQ rfl kJ j) aav SH<|jD (jB 5) jI))))))
 (jP<|j5<|vt (nc N7 (jB 1)<|mF)<|zm<|nc (oN d.units) (jB 3)<|jB 1)
def rA:FnScope Lr QV (jU K8):=vp rfl rfl rfl ∅
set_option smartUnfolding false in
theorem RW(F:Fun K "law" "law" K8 f fd)(ZN:mg "range" = none)(j:mg "max" = none)(J:mg "min" = none)(ZL:mg "len" = none)(ZT:mg "str" = none)(L:mg "enumerate" = none)(U:tH P w K mg base 1 "_law_bag" xP sq)(Z:tH P w K mg base 3 "_law_order" uB pF)(ZM:tH P w K mg base 1 "_law_digit" lY jQ)(aaF:tH P w K mg base 2 "_law_poly" vE qf)(aaG:tH P w K mg base 3 "_law_spoiled" qX mj)(aaH:tH P w K mg base 2 "_law_odd" xg rV)(aaI:tH P w K mg base 4 "_law_poly_in" rG kM)(aaJ:tH P w K mg base 2 "_law_word_in" rz mh)(aaK:tH P w K mg base 2 "_law_order_in" qg mE)(aaL:tH P w K mg base 6 "_law_told" we nM):FnOk P w K mg base uY 7 f fd QV (vN K 1 AQ):=yT (m:=Jk) F rA λg B outer s H E d=>
 jG (vY dN rfl (rY ZN<|jW (Rb rfl) j Tf<|jD jH<|jD (jW (Rt rfl) J Rw<|jD jH<|jD (jW nX ZL lQ<|jD (jB 0) jI) jI) jI) (kh (i:=1) rA.nd)
 (jG (jZ (i:=2) rA.nd<|yd U d (jB 0)<|jB 1)
 (jG (jZ (i:=3) rA.nd<|yd Z d (jB 2)<|jS kF jH<|yd ZM d (jB 2) jH)
 (jG (yL (i:=4) (N:=["_law_place", "_law_bag_here"]) (cap:=[none,some 2]) rA.nd rfl (oF ["_law_bag_here"] rfl ∅ ∅ ∅ ∅ ∅ (bQ.mpr ⟨by first|exact Or.inl rfl|exact Or.inr rfl,(nofun)⟩) ⟨rfl,by decide +kernel,trivial⟩) (rY ZN<|jS kF jH<|yd ZM d (jB 2) jH) (λ_ _ _ _=>kh (i:=0) (show(["_law_place", "_law_bag_here"]:ba).Nodup by decide +kernel) rfl (Or.inl rfl)<|.inr rfl) (λ_ _ _ _=>lB) λ_ _ _ _=>jS kF jH<|yd ZM d (jB 1) jH)
 (jG (jZ (i:=5) rA.nd<|lD<|jD (ql ie ig Ec jO<|jD (nq (N:=["_law_thing"]) (cap:=[none]) rfl (oF [] rfl ∅ ∅ ∅ ∅ ∅ (nofun) trivial) (nJ<|jB 3) (λ_ _ _ _=>kh (i:=0) (show(["_law_thing"]:ba).Nodup by decide +kernel) rfl (Or.inl rfl)<|.inr rfl) (λ_ _ _ _=>lB) λ_ _ _ _=>ko xD ZT xw<|jD (jB 0) jI) jI)<|jD (ql ie ig Ec jO<|jD (nq (N:=["_law_one"]) (cap:=[none]) rfl (oF [] rfl ∅ ∅ ∅ ∅ ∅ (nofun) trivial) (nJ<|jB 4) (λ_ _ _ _=>kh (i:=0) (show(["_law_one"]:ba).Nodup by decide +kernel) rfl (Or.inl rfl)<|.inr rfl) (λ_ _ _ _=>lB) λ_ _ _ _=>ko xD ZT xw<|jD (jB 0) jI) jI)<|jD (Bu aaF d<|jB 2) jI)
 (jG (jZ (i:=5) rA.nd<|jS kF (nq (N:=["_law_text", "_law_bag_here"]) (cap:=[none,some 2]) rfl (oF ["_law_bag_here"] rfl ∅ ∅ ∅ ∅ ∅ (bQ.mpr ⟨by first|exact Or.inl rfl|exact Or.inr rfl,(nofun)⟩) ⟨rfl,by decide +kernel,trivial⟩) (nJ<|jB 5) (λ_ _ _ _=>kh (i:=0) (show(["_law_text", "_law_bag_here"]:ba).Nodup by decide +kernel) rfl (Or.inl rfl)<|.inr rfl) (λ_ _ _ _=>lB) λ_ _ _ _=>yd aaG d (jB 1)<|jB 0)<|lD<|jD (Bu aaH d<|jB 2) jI)
 (jP (vY dN rfl (nJ<|jB 5) (kh (i:=6) rA.nd)
 (jP (vY dN rfl (SY L<|lD<|jD (Bu aaK d<|jB 6)<|jD (Bu aaJ d<|jB 6)<|jD (Bu aaI d<|jB 6) jI) (rJ rfl<|kG (kh (i:=7) rA.nd)<|kG (kh (i:=8) rA.nd) pD)
 (jP (lq (nF<|lR<|ZF aaL d (jB 6) (jB 8)<|jB 7)
 (jP<|j5 Ba)
 kr))))))))))))
 (jP<|j5 Ba)
end
end K83
namespace Tx
open PySem
def GZ(a:Str):Str.empty++a=a:=by
 show(⟨#[]++a.cps⟩:Str)=a;rw[Array.empty_append]
def Pj(a:Str):a++Str.empty=a:=by
 show(⟨a.cps++#[]⟩:Str)=a;rw[Array.append_empty]
def nQ(a b:Str):(a++b).length=a.length+b.length:=by
 show(a.cps++b.cps).size=_;rw[Array.size_append];rfl
abbrev tx (i:Int):Str:=Str.ofString<|toString i
theorem BN:∀(l:ba),(∀x∈l,x.length<=B)->(l.map (·.length)).sum<=l.length * B
 | [],_=>cz _
 | x::l,h=>by
  have h1:=h x<|aT ..;have f:=BN l λz d=>h z<|aS _ d;rw[bP,sum_cons,aR,iT];lia
def wK{a:Str}:(a == (Str.ofString ""))=decide (a.length=0):=by
 have e0:Str.ofString "" = Str.empty:=by decide
 by_cases h:a.length=0
 ·have:a=Str.empty:=by
   obtain⟨c⟩:=a;show(⟨c⟩:Str)=⟨#[]⟩;have:c=#[]:=Array.eq_empty_of_size_eq_zero h;rw[this]
  rw[this,e0,show decide (Str.empty.length=0)=true from rfl];simp
 ·rw[aI h,bw];intro z;rw[z,e0]at h;exact h rfl
end Tx
namespace Sp
open PySem L2
open Builtin.Str (occurrences partsBetween strSub subAt)
open StrLaws (occBody partsFrom)
abbrev P (x:Str)(c i:Nat):Bool:=decide<|x.cps.toList[i]?=some c
def BH(x:Str)(c i:Nat):subAt x ⟨#[c]⟩ i=true ↔ x.cps.toList[i]?=some c:=by
 rw[StrLaws.subAt_eq];exact StrLaws.take1_drop
def xO(c:Nat):(⟨#[c]⟩:Str).length=1:=rfl
def size_eq(x:Str):x.length=x.cps.toList.length:=by rw[bJ];rfl
theorem Ez(x:Str)(c:Nat):∀(k a:Nat) (st:Array Nat×Nat),a+k=x.length+1->st.1.size<=a->st.2<=a ->
  (forIn (List.range' a k) st<|occBody x ⟨#[c]⟩ x.length<|x.length+1).run.fst.toList=st.1.toList++(List.range' a k).filter (P x c)
 | 0,a,st,_,_,_=>by
  show st.1.toList=st.1.toList++[];rw[bS]
 | k+1,a,st,h,h1,h2=>by
  rw[fO,List.forIn_cons];unfold occBody;by_cases q:x.cps.toList[a]?=some c
  ·have d:a<x.length:=by
    rw[size_eq];exact(aZ.mp q).1
   have hp:P x c a=true:=aJ q;rw[aQ ⟨⟨⟨(),h2⟩,by rw[xO];lia⟩,(BH x c a).mpr q⟩,List.filter_cons_of_pos hp];have:=Ez x c k (a+1) (st.1.push a,a+1) () (by dsimp[Array.size_push];lia)<|aP _;rw[jf]at this;show(forIn (List.range' (a+1) k) (st.1.push a,a+(⟨#[c]⟩:Str).length)<|occBody x ⟨#[c]⟩ x.length<|x.length+1).run.fst.toList=_;rw[xO,this,bI];rfl
  ·have hp:¬P x c a=true:=λz=>q<|bO z;rw[aO λz=>q<|(BH x c a).mp z.2,gK hp];exact Ez x c k (a+1) (st.1,st.2) () (show st.1.size<=a+1 by lia)<|show st.2<=a+1 by lia
def YJ(x:Str)(c:Nat):occurrences x ⟨#[c]⟩ 0 x.length (x.length+1)=(List.range' 0<|x.length+1).filter (P x c):=by
 rw[StrLaws.occ_eq];exact Ez x c (x.length+1) 0 (#[],0) () (aP _)<|aP _
abbrev ni (c:Nat):ar->ar->List (ar)
 | cur,[]=>[cur]
 | cur,d::ds=>if d=c then cur::ni c [] ds else ni c (cur++[d]) ds
abbrev mk (l:ar):Str:=⟨l.toArray⟩
def Iz(x:Str):mk x.cps.toList=x:=rfl
def xA(x:Str)(i j:Nat):strSub x i j=mk ((x.cps.toList.drop i).take<|j-i):=by
 rw[<- StrLaws.strSub_toList];rfl
theorem ze(x:Str)(c:Nat):∀(k a i:Nat),i+k=x.length->a<=i->partsFrom x 1 a ((List.range' i<|k+1).filter<|P x c)=(ni c ((x.cps.toList.drop a).take<|i-a)<|x.cps.toList.drop i).map mk
 | 0,a,i,h,ha=>by
  have hp:¬P x c i=true:=λz=>by
   have:=(aZ.mp<|bO z).1;rw[<- size_eq]at this
   lia
  rw[fO,gK hp,gZ<|show x.cps.toList.length<=i by rw[<- size_eq];lia];show[strSub x a x.length]=[mk _];rw[xA,show i=x.length by lia]
 | k+1,a,i,h,ha=>by
  have hi:i<x.cps.toList.length:=by rw[<- size_eq];lia
  rw[fO,List.drop_eq_getElem_cons hi];by_cases q:x.cps.toList[i]=c
  ·have hp:P x c i=true:=aJ (by rw[aH hi,q]);rw[List.filter_cons_of_pos hp];show strSub x a i::partsFrom x 1 (i+1) ((List.range' (i+1)<|k+1).filter<|P x c)=(if x.cps.toList[i]=c then _ else _:List<|ar).map mk;rw[aQ q,ze x c k (i+1) (i+1) ()<|aP _,bP,xA,g_,jy]
  ·have hp:¬P x c i=true:=λz=>by
    have z:=bO z;rw[aH hi]at z;exact q<|aU z
   rw[gK hp,ze x c k a (i+1) () ()];show _=(if x.cps.toList[i]=c then _ else ni c _ _:List<|ar).map mk;rw[aO q];congr 2;rw[show i+1-a=(i-a)+1 by lia,List.take_add_one,gH,show a+(i-a)=i by lia,aH hi];rfl
def Wj(x:Str){c:Nat}(h:c<256):¬Builtin.Str.strKind x<Builtin.Str.strKind ⟨#[c]⟩:=by
 have:Builtin.Str.strKind ⟨#[c]⟩=1:=by
  unfold Builtin.Str.strKind;rw[aQ<|by simp;exact h]
 rw[this];unfold Builtin.Str.strKind;split
 ·lia
 ·split<;>lia
def DQ(x:Str){c:Nat}(hc:c<256)(h:1<=x.length):Txt.split x ⟨#[c]⟩=(ni c [] x.cps.toList).map mk:=by
 have e0:=ze x c x.length 0 0 ()<|aP _;rw[dY,g_,jy]at e0;unfold Txt.split;rw[aO<|by rw[gA,eK,eK];exact λz=>z.elim (λz=>by rw[xO]at z;lia)<|Wj x hc,YJ,<- e0,StrLaws.partsBetween_eq,xO];split
 ·rename_i z;rw[List.isEmpty_iff]at z;rw[z];show[x]=[strSub x 0 x.length];rw[xA,dY,cX<|by rw[<- size_eq];lia,Iz]
 ·rfl
theorem v9(c:Nat):∀(a cur r:ar),c∉a->ni c cur (a++r)=ni c (cur++a) r
 | [],cur,r,_=>by rw[bS];rfl
 | d::a,cur,r,h=>by
  show(if d=c then _ else ni c (cur++[d]) (a++r))=_;rw[aO λz=>h<|by rw[z];exact aT ..,v9 c a _ r λz=>h<|aS _ z,bI];rfl
def xW(a b:Str):(a++b).cps.toList=a.cps.toList++b.cps.toList:=Array.toList_append
theorem sE(c:Nat):∀(a:Str) (rest:ba),(Str.join ⟨#[c]⟩ (a::rest)).cps.toList=a.cps.toList++rest.flatMap λt=>c::t.cps.toList
 | a,[]=>(bS _).symm
 | a,b::rest=>by
  show(a++⟨#[c]⟩++Str.join ⟨#[c]⟩ (b::rest)).cps.toList=_;rw[xW,xW,sE c b rest,bI];rfl
theorem yl(c:Nat):∀(a:Str) (rest:ba),c∉a.cps.toList->(∀t∈rest,c∉t.cps.toList)->ni c [] (a.cps.toList++rest.flatMap λt=>c::t.cps.toList)=(a::rest).map λt=>t.cps.toList
 | a,[],h,_=>by
  rw[v9 c _ _ _ h];rfl
 | a,b::rest,h,h'=>by
  rw[v9 c _ _ _ h];show ni c ([]++a.cps.toList) (c::(b.cps.toList++rest.flatMap λt=>c::t.cps.toList))=_;show(if c=c then([]++a.cps.toList)::ni c [] _ else _)=_;rw[aQ rfl,yl c b rest (h' b<|aT ..) λt d=>h' t<|aS _ d];rfl
def D8{l:ba}{c:Nat}(hc:c<256)(j:l≠[])(h:∀t∈l,c∉t.cps.toList)(J:1<=(Str.join ⟨#[c]⟩ l).length):Txt.split (Str.join ⟨#[c]⟩ l) ⟨#[c]⟩=l:=by
 rw[DQ _ hc J]
 cases l with
 | nil=>exact absurd rfl j
 | cons a rest=>
  rw[sE,yl c a rest (h a<|aT ..) λt d=>h t<|aS _ d,bL];exact map_id _
def small:∀i:Nat,i<21->((Tx.tx (i:Int)).cps.toList.all λc=>decide (48<=c) && decide (c<=57))=true/\1<=(Tx.tx (i:Int)).length/\(Tx.tx (i:Int)).length<=2/\(0<i->subAt (Tx.tx (i:Int)) "0" 0=false):=by decide +kernel
def Yu:∀c:Nat,c<58->48<=c->(occurrences (Str.ofString "0123456789") ⟨#[c]⟩ 0 (Str.ofString "0123456789").length 1).isEmpty=false:=by decide +kernel
end Sp
namespace Pt
open PySem L2
open Builtin.Str (occurrences strSub subAt)
open Sp (mk)
meta abbrev C (x:Str):ar:=x.cps.toList
def ext{a b:Str}(h:C a=C b):a=b:=by
 cases a;cases b
 exact cg Str.mk<|Array.toList_inj.mp h
def rZ(a b:Str):C (a++b)=C a++C b:=Sp.xW a b
def pY(l:ar):C (mk l)=l:=rfl
abbrev dg (m:Nat):ar:=(Nat.toDigits 10 m).map Char.toNat
def vW(m:Nat):C (Tx.tx m)=dg m:=PySem.W.KIN.signs_num m
def sF(m:Nat):∀c∈dg m,48<=c/\c<=57:=λc hc=>by
 obtain⟨d,h,e⟩:=cj.mp hc;have:=Char.isDigit_iff_toNat.mp<|Nat.isDigit_of_mem_toDigits ⋯ ⋯ h;rw[<- e];exact this
def Hg(m:Nat):dg m≠[]:=λh=>Nat.toDigits_ne_nil<|List.map_eq_nil_iff.mp h
def yZ(h:m<10 ^ 30):(dg m).length<=30:=by
 unfold dg;rw[aK];exact(fy ⋯ ⋯).mpr h
def JS{k:Nat}(h:dg m=dg k):m=k:=by
 rw[<- iI m,<- iI k];exact cg _ h
def WG:∀d<10,d≠0->(Nat.digitChar d).toNat≠48:=by decide
def Hy:∀(m:Nat),0<m->∃c l,dg m=c::l/\c≠48:=by
 intro m
 induction m using Nat.strongRecOn with
 | ind m f=>
  intro h;unfold dg;rw[i_ ⋯];by_cases c:m<10
  ·rw[aQ c];exact⟨_,[],rfl,WG m c ()⟩
  ·rw[aO c,cY];obtain⟨d,l,e,q⟩:=f (m / 10) () ();unfold dg at e;rw[e];exact⟨d,l++_,rfl,q⟩
def reads{m:Nat}(h:m<10 ^ 30):PySem.intText? (Tx.tx m)=some (m:Int):=by
 have hd:NumText.AllDigits (C<|Tx.tx m):=by rw[vW];exact sF m
 have hn:C (Tx.tx m)≠[]:=by rw[vW];exact Hg m
 have d:(C<|Tx.tx m).length<=30:=by rw[vW];exact yZ h
 have e:PySem.intText? (Tx.tx m)=some ((NumText.digitsVal (C<|Tx.tx m):Nat):Int):=intText_digits hd hn (by rw[Sp.size_eq];exact cK d ⋯);rw[vW]at e;exact e.trans<|cg (λz:Nat=>some (z:Int))<|iI m
def VF {m:Nat}:Tx.tx m=Str.ofString "1" ↔ m=1:=by
 constructor
 ·intro h;have:C (Tx.tx m)=C (Tx.tx (1:Nat)):=cg C h;rw[vW,vW]at this;exact JS this
 ·intro h;subst h;rfl
theorem Ea{α β:Type}{f:α->Option β}{g:α->β}:∀(l:List α),(∀x∈l,f x=some (g x))->l.filterMap f=l.map g
 | [],_=>rfl
 | x::l,h=>by rw[eT,h x<|aT ..,Ea l λy hy=>h y<|aS _ hy];rfl
def mO(y:Str){k:Nat}(h:k<=y.length):C (Txt.slice y (some (k:Int)) none)=(C y).drop k:=by
 have e:Builtin.Str.strSliceIndices (some (k:Int)) none 1 y.length=(List.range<|y.length-k).map λj=>k+j:=by
  rw[<- fQ (a:=k) (b:=y.length) h (aP _)];unfold Builtin.Str.strSliceIndices;simp;congr 1;rw[aO ()]
  lia
 unfold Txt.slice;rw[e];split
 ·rename_i z;have:y.length-k=y.length:=by simpa using z
  by_cases k0:k=0
  ·rw[k0,dY]
  ·have g:y.length=0:=()
   have:C y=[]:=eF (by rw[<- Sp.size_eq];exact g);rw[this,drop_nil]
 ·show((List.range<|y.length-k).map λj=>k+j).filterMap (λx=>y.cps[x]?)=_;rw[gC];refine eN λi=>?_;have f:(List.range<|y.length-k).filterMap ((λx=>y.cps[x]?) ∘ λj=>k+j)=(List.range<|y.length-k).map λj=>(C y).getD (k+j) 0:=by
   refine Ea _ λj d=>?_;have:=dF.mp d;have lt:k+j<(C y).length:=by rw[<- Sp.size_eq];lia
   show y.cps[k+j]?=some ((C y).getD (k+j) 0);rw[<- dM,aN,aH lt];rfl
  rw[f,bu,gH];by_cases hi:i<y.length-k
  ·have lt:k+i<(C y).length:=by rw[<- Sp.size_eq];lia
   rw[dZ hi,aH lt,cZ,aN,aH lt];rfl
  ·rw[bN<|by rw[bW];lia,bN<|by rw[<- Sp.size_eq];lia];rfl
def Bq{x:Str}{c i:Nat}:StrLaws.At x ⟨#[c]⟩ x.length i ↔ (C x)[i]?=some c:=by
 constructor
 ·intro h;exact(Sp.BH x c i).mp h.2
 ·intro h;have:=(aZ.mp h).1;have:i<x.length:=by rw[Sp.size_eq];exact this
  exact⟨by rw[Sp.xO];lia,(Sp.BH x c i).mpr h⟩
def FE{x:Str}{c:Nat}(h:c∉C x):Txt.partition x ⟨#[c]⟩=(x,Str.empty,Str.empty):=by
 rcases iO x ⟨#[c]⟩with z|⟨i,_,z,_⟩
 ·exact z.1
 ·exact absurd (dP<|Bq.mp z) h
def GG{x:Str}{c:Nat}{a b:ar}(e:C x=a++c::b)(h:c∉a):Txt.partition x ⟨#[c]⟩=(mk a,⟨#[c]⟩,mk b):=by
 have f:(C x)[a.length]?=some c:=by rw[e,fq<|aP _,g_];rfl
 rcases iO x ⟨#[c]⟩with z|⟨i,z,q,r⟩
 ·exact absurd (Bq.mpr f) (z.2 _)
 ·have hi:i=a.length:=by
   have q:=Bq.mp q
   rcases Nat.lt_trichotomy i a.length with l|l|l
   ·rw[e,bR l]at q;exact absurd (dP q) h
   ·exact l
   ·exact absurd (Bq.mpr f)<|r _ l
  have l:x.length=a.length+(b.length+1):=by rw[Sp.size_eq];show(C x).length=_;rw[e,aV,aR]
  rw[z,Sp.xA,Sp.xA,hi,Sp.xO];show(mk<|(C x).drop 0 |>.take (a.length-0),_,mk<|((C x).drop<|a.length+1).take<|x.length-(a.length+1))=_;rw[e,dY,iU,List.take_left];have d:(a++c::b).drop (a.length+1)=b:=by
   rw[<- jz,List.drop_left];rfl
  rw[d,l,cX ()]
def T4{x:Str}{c:Nat}{a:ar}(e:C x=a++[c]):Txt.removesuffix x ⟨#[c]⟩=mk a:=by
 have l:x.length=a.length+1:=by rw[Sp.size_eq];show(C x).length=_;rw[e,aV];rfl
 rw[StrLaws.removesuffix_eq,aQ]
 ·show mk (((C x).drop 0).take<|x.length-(⟨#[c]⟩:Str).length-0)=_;rw[e,dY,l,Sp.xO,iU,ja,List.take_left]
 ·rw[bE];refine⟨aJ<|by rw[Sp.xO,l];lia,(Sp.BH x c _).mpr ?_⟩;show(C x)[_]?=_;rw[e,l,Sp.xO,ja,fq<|aP _,g_];rfl
def Sw{x:Str}{c:Nat}{b:ar}(e:C x=c::b):Txt.removeprefix x ⟨#[c]⟩=mk b:=by
 have l:x.length=b.length+1:=by rw[Sp.size_eq];show(C x).length=_;rw[e];rfl
 unfold Txt.removeprefix;rw[aQ<|(Sp.BH x c 0).mpr<|by show(C x)[0]?=_;rw[e];rfl];show(if (x.length-(⟨#[c]⟩:Str).length == x.length)=true then x else strSub x (⟨#[c]⟩:Str).length x.length)=_;rw[Sp.xO,aO<|by rw[dW];lia,Sp.xA];show mk (((C x).drop 1).take<|x.length-1)=_;rw[e,l];show mk (b.take<|b.length+1-1)=_;rw[ja,iA]
abbrev qx (q:Int×Int):Nat:=if q.2<0 then 45 else 43
abbrev tQ (p:Int):Str:=if p=1 then "v" else "v^" ++ Tx.tx p
abbrev term (q:Int×Int):Str:=if q.1=0 then Tx.tx q.2.natAbs else if q.2.natAbs=1 then tQ q.1 else Tx.tx q.2.natAbs ++ "*" ++ tQ q.1
abbrev sg (q:Int×Int):Str:=⟨#[qx q]⟩
abbrev pH (p:Int):ar:=(if p<0 then[45]else[])++dg p.natAbs
def UR:∀m<60,C (Tx.tx<|Int.negSucc m)=pH (Int.negSucc m):=by decide +kernel
def Ym{p:Int}(h0:-60<=p):C (Tx.tx p)=pH p:=by
 cases p with
 | ofNat m=>
  unfold pH;rw[aO<|show ¬Int.ofNat m<0 from Int.not_lt.mpr<|Int.natCast_nonneg m,cF];exact vW m
 | negSucc m=>exact UR m ()
abbrev tF (p:Int):ar:=118::if p=1 then[]else 94::pH p
def MS{p:Int}(h0:-60<=p):C (tQ p)=tF p:=by
 unfold tQ tF;by_cases h:p=1
 ·rw[aQ h,aQ h];rfl
 ·rw[aO h,aO h,rZ,Ym h0];rfl
def BB{q:Int×Int}(h0:-60<=q.1):C (term q)=if q.1=0 then dg q.2.natAbs else if q.2.natAbs=1 then tF q.1 else dg q.2.natAbs++42::tF q.1:=by
 unfold term;by_cases h:q.1=0
 ·rw[aQ h,aQ h];exact vW _
 ·rw[aO h,aO h];by_cases d:q.2.natAbs=1
  ·rw[aQ d,aQ d];exact MS h0
  ·rw[aO d,aO d,rZ,rZ,vW,MS h0,bI];rfl
def PB{p:Int}:∀c∈pH p,c=45\/(48<=c/\c<=57):=λc hc=>by
 unfold pH at hc
 rcases bF.mp hc with z|z
 ·split at z
  ·exact .inl (aX.mp z)
  ·cases z
 ·exact .inr<|sF _ c z
def Bs{p:Int}:∀c∈tF p,c=118\/c=94\/c=45\/(48<=c/\c<=57):=λc hc=>by
 unfold tF at hc
 rcases bf.mp hc with z|z
 ·exact .inl z
 ·split at z
  ·cases z
  ·rcases bf.mp z with z|z
   ·exact .inr (.inl z)
   ·exact .inr<|.inr<|PB c z
def Ml{q:Int×Int}(h0:-60<=q.1):∀c∈C (term q),c=118\/c=94\/c=45\/c=42\/(48<=c/\c<=57):=λc hc=>by
 rw[BB h0]at hc;split at hc
 ·exact .inr (.inr<|.inr<|.inr<|sF _ c hc)
 ·split at hc
  ·rcases Bs c hc with z|z|z|z
   ·exact .inl z
   ·exact .inr (.inl z)
   ·exact .inr (.inr<|.inl z)
   ·exact .inr<|.inr<|.inr<|.inr z
  ·rcases bF.mp hc with z|z
   ·exact .inr (.inr<|.inr<|.inr<|sF _ c z)
   ·rcases bf.mp z with z|z
    ·exact .inr (.inr<|.inr<|.inl z)
    ·rcases Bs c z with z|z|z|z
     ·exact .inl z
     ·exact .inr (.inl z)
     ·exact .inr (.inr<|.inl z)
     ·exact .inr<|.inr<|.inr<|.inr z
def xX{q:Int×Int}(h0:-60<=q.1):∃c l,C (term q)=c::l/\c≠45/\c≠32:=by
 have fd:∀(m:Nat) (r:ar),∃c l,dg m++r=c::l/\c≠45/\c≠32:=λm r=>by
  cases e:dg m with
  | nil=>exact absurd e (Hg m)
  | cons c l=>
   have:=sF m c (by rw[e];exact aT ..);exact⟨c,l++r,rfl,(),()⟩
 rw[BB h0];split
 ·have:=fd q.2.natAbs []
  rwa [bS]at this
 ·split
  ·exact⟨118,_,rfl,by decide,by decide⟩
  ·exact fd _ _
def zL{q:Int×Int}(h0:-60<=q.1)(h1:q.1<=60)(h:q.2.natAbs<10 ^ 30):(term q).length<=36:=by
 have hp:(pH q.1).length<=3:=by
  unfold pH;rw[aV];have:(dg q.1.natAbs).length<=2:=by
   unfold dg;rw[aK];exact(fy ⋯ ⋯).mpr ()
  split
  ·show 1+_<=_;lia
  ·show 0+_<=_;lia
 have d:(tF q.1).length<=5:=by
  unfold tF;split
  ·decide
  ·show(_+1)+1<=5;lia
 have hd:=yZ h;rw[Sp.size_eq];show(C<|term q).length<=_;rw[BB h0];split
 ·lia
 ·split
  ·lia
  ·rw[aV,aR];lia
abbrev pT (q:Int×Int):ar:=32::qx q::32::C (term q)
abbrev R0 (q:Int×Int):ar:=(if q.2<0 then[45]else[])++C (term q)
abbrev tp:List (Int×Int)->Str
 | [] => "0"
 | q::l=>mk<|R0 q++l.flatMap pT
abbrev rX (l:List<|Int×Int):ba:=l.flatMap λq=>[sg q,term q]
theorem A0:∀(l:List<|Int×Int),(rX l).flatMap (λt=>32::C t)=l.flatMap pT
 | []=>rfl
 | q::l=>by
  show 32::C (sg q)++(32::C (term q)++(rX l).flatMap λt=>32::C t)=_;rw[A0 l];rfl
def C4(q:Int×Int)(l:List<|Int×Int):C (Str.join ⟨#[32]⟩<|rX (q::l))=qx q::32::(C (term q)++l.flatMap pT):=by
 show C (Str.join ⟨#[32]⟩ (sg q::term q::rX l))=_;rw[show C (Str.join ⟨#[32]⟩ (sg q::term q::rX l))=C (sg q)++(term q::rX l).flatMap (λt=>32::C t)from Sp.sE 32 _ _];show qx q::(32::C (term q)++(rX l).flatMap λt=>32::C t)=_;rw[A0];rfl
def OQ{l:List<|Int×Int}{t:Str}(h:t∈rX l):∃q∈l,t=sg q\/t=term q:=by
 obtain⟨q,d,h⟩:=List.mem_flatMap.mp h
 rcases bf.mp h with z|z
 ·exact⟨q,d,.inl z⟩
 ·exact⟨q,d,.inr<|aX.mp z⟩
def Im{q:Int×Int}(h0:∀x∈q::l,-60<=x.1):Txt.split (Str.join ⟨#[32]⟩<|rX (q::l)) ⟨#[32]⟩=rX (q::l):=by
 refine Sp.D8 ⋯ (λz=>nomatch z) (λt d z=>?_) ?_
 ·obtain⟨x,f,e⟩:=OQ d
  rcases e with e|e
  ·rw[e]at z;have:32=qx x:=aX.mp z;unfold qx at this;split at this<;>lia
  ·rw[e]at z;have:=Ml (h0 x f) 32 z
   lia
 ·rw[Sp.size_eq];show 1<=(C _).length;rw[C4];show 1<=_+1
  lia
end Pt
namespace Pn
open PySem L2 Pt
abbrev lA (l:ar):Bool:=decide (1<=l.length/\l.length<=30) && (l.all λc=>decide<|48<=c/\c<=57) && !(decide (l.head?=some 48) && decide (l≠[48]))
def Mf:∀c,48<=c->c<=57->dg (c-48)=[c]:=by
 have:∀c<58,48<=c->dg (c-48)=[c]:=by decide +kernel
 exact λc h1 d=>this c (by omega) h1
def NX{c:Nat}(J:0<m)(h1:48<=c)(j:c<=57):dg (10 * m+(c-48))=dg m++[c]:=by
 have e:=Mf c h1 j;unfold dg at *
 rw[i_ ⋯,aO<|by omega,cY];rw[i_ ⋯,aQ<|by omega]at e;have e1:(10 * m+(c-48)) / 10=m:=by omega
 have e2:(10 * m+(c-48)) % 10=c-48:=by omega
 rw[e1,e2];congr 1
theorem Wd:∀(k:Nat) {l:ar},l.length=k->l≠[]->(∀c∈l,48<=c/\c<=57)->l.head?≠some 48->∃m,0<m/\l=dg m
 | 0,l,hk,hn,_,_=>absurd (cH.1 hk) hn
 | k+1,l,hk,hn,ha,hh=>by
  obtain⟨f,c,rfl⟩:∃f c,l=f++[c]:=⟨l.dropLast,l.getLast hn,(eS hn).symm⟩;obtain⟨c1,c2⟩:=ha c<|bF.2<|.inr<|aX.2 rfl;by_cases z:f=[]
  ·subst z;have hc:c≠48:=λq=>hh (by rw[q];rfl);exact⟨c-48,by omega,by rw[Mf c c1 c2];rfl⟩
  ·have j:f.length=k:=by rw[aV]at hk;exact Nat.succ.inj hk
   obtain⟨m,g,e⟩:=Wd k j z (λd hd=>ha d<|bF.2<|.inl hd) (λq=>hh (by
    cases f with
    | nil=>exact absurd rfl z
    | cons d f=>exact q))
   exact⟨10 * m+(c-48),by omega,by rw[NX g c1 c2,<- e]⟩
def Sb(h:lA l=true):∃m,m<10 ^ 30/\l=dg m:=by
 unfold lA at h;rw[bE,bE,decide_eq_true_iff]at h;obtain⟨⟨⟨h1,d⟩,g⟩,f⟩:=h;have k:∀c∈l,48<=c/\c<=57:=λc hc=>bO<|cV.1 g c hc;have small:∀{m},l=dg m->m<10 ^ 30:=λ{m} e=>by
  rw[e]at d;unfold dg at d;rw[aK]at d;exact(fy ⋯ ⋯).1 d
 by_cases z:l=[48]
 ·exact⟨0,by decide,by rw[z];rfl⟩
 ·have j:l.head?≠some 48:=λq=>by
   rw[aJ q,aJ z]at f;cases f
  obtain⟨m,_,e⟩:=Wd l.length rfl (λq=>by rw[q]at h1;cases h1) k j;exact⟨m,small e,e⟩
def rD(h:m<10 ^ 30):lA (dg m)=true:=by
 unfold lA;rw[bE,bE,decide_eq_true_iff];refine⟨⟨⟨gc.2<|Hg m,yZ h⟩,cV.2 λc hc=>aJ<|sF m c hc⟩,?_⟩;by_cases z:m=0
 ·subst z;rfl
 ·obtain⟨c,l,e,q⟩:=Hy m (by omega);have:(dg m).head?≠some 48:=λy=>by rw[e]at y;exact q (aU y)
  rw[aI this];rfl
def BA{x:Str}(h:lA (C x)=true):∃m,m<10 ^ 30/\x=Tx.tx (m:Nat):=by
 obtain⟨m,h1,d⟩:=Sb h;exact⟨m,h1,Pt.ext<|by rw[d,vW]⟩
def BY {m:Nat}(h:m<10 ^ 30):lA (C<|Tx.tx m)=true:=by rw[vW];exact rD h
abbrev uC (p:Int)(m:Nat):ar:=if p=0 then dg m else if m=1 then tF p else dg m++42::tF p
def wM{q:Int×Int}(h0:-60<=q.1):C (term q)=uC q.1 q.2.natAbs:=BB h0
def K_{p:Int}:32∉uC p m:=λz=>by
 have hd:∀m,32∉dg m:=λm z=>by have:=sF m 32 z;omega
 have d:∀p,32∉tF p:=λp z=>by have:=Bs 32 z;omega
 unfold uC at z;split at z
 ·exact hd m z
 ·split at z
  ·exact d p z
  ·rcases bF.1 z with z|z
   ·exact hd m z
   ·rcases bf.1 z with z|z
    ·omega
    ·exact d p z
abbrev scan:Int->ar->ar->List (Int×ar)
 | s,cur,[]=>[(s,cur)]
 | s,cur,c::r=>if c=32/\r.take 2=[43,32]then(s,cur)::scan 1 [] (r.drop 2)else if c=32/\r.take 2=[45,32]then(s,cur)::scan (-1) [] (r.drop 2)else scan s (cur++[c]) r
termination_by _ _ l=>l.length
decreasing_by all_goals dsimp[aR,cE];lia
abbrev sc (s:Int):Nat:=if s<0 then 45 else 43
abbrev rest (l:List<|Int×ar):ar:=l.flatMap λq=>32::sc q.1::32::q.2
def wz(s:Int)(cur:ar):scan s cur []=[(s,cur)]:=by rw[scan]
def oY(s:Int)(cur:ar)(c:Nat)(r:ar):scan s cur (c::r)=if c=32/\r.take 2=[43,32]then(s,cur)::scan 1 [] (r.drop 2)else if c=32/\r.take 2=[45,32]then(s,cur)::scan (-1) [] (r.drop 2)else scan s (cur++[c]) r:=by rw[scan]
def take2{r:ar}{a b:Nat}(h:r.take 2=[a,b]):r=a::b::r.drop 2:=by
 have:=List.take_append_drop 2 r;rw[h]at this;exact this.symm
theorem r9:∀(k:Nat) (l:ar) (s:Int) (cur:ar),l.length<=k->∃w t,scan s cur l=(s,w)::t/\cur++l=w++rest t/\∀q∈t,q.1=1\/q.1=-1
 | 0,l,s,cur,h=>by
  have:l=[]:=cH.1 (by omega);subst this;exact⟨cur,[],wz s cur,rfl,λ_ z=>by cases z⟩
 | k+1,[],s,cur,_=>⟨cur,[],wz s cur,rfl,λ_ z=>by cases z⟩
 | k+1,c::r,s,cur,h=>by
  rw[oY];have f:r.length<=k:=Nat.le_of_succ_le_succ h;by_cases h1:c=32/\r.take 2=[43,32]
  ·rw[aQ h1];obtain⟨w,t,e,q,a⟩:=r9 k (r.drop 2) 1 [] (by rw[cE];omega);refine⟨cur,(1,w)::t,by rw[e],?_,λp hp=>?_⟩
   ·have e2:=take2 h1.2;rw[cF]at q;show cur++c::r=cur++(32::43::32::w++rest t);rw[e2,h1.1,q];rfl
   ·rcases bf.1 hp with z|z
    ·exact .inl (by rw[z])
    ·exact a p z
  ·rw[aO h1];by_cases d:c=32/\r.take 2=[45,32]
   ·rw[aQ d];obtain⟨w,t,e,q,a⟩:=r9 k (r.drop 2) (-1) [] (by rw[cE];omega);refine⟨cur,(-1,w)::t,by rw[e],?_,λp hp=>?_⟩
    ·have e2:=take2 d.2;rw[cF]at q;show cur++c::r=cur++(32::45::32::w++rest t);rw[e2,d.1,q];rfl
    ·rcases bf.1 hp with z|z
     ·exact .inr (by rw[z])
     ·exact a p z
   ·rw[aO d];obtain⟨w,t,e,q,a⟩:=r9 k r s (cur++[c]) f;exact⟨w,t,e,by rw[<- q,bI];rfl,a⟩
theorem xR:∀{w:ar}{s:Int}{cur r:ar},32∉w->scan s cur (w++r)=scan s (cur++w) r
 | [],_,_,_,_=>by rw[cF,bS]
 | c::w,s,cur,r,h=>by
  have hc:¬c=32:=λz=>h (by rw[z];exact aT ..);rw[List.cons_append,oY,aO λz=>hc z.1,aO λz=>hc z.1,xR λz=>h<|aS _ z,bI];rfl
theorem Bf:∀{t:List<|Int×ar}{s:Int}{w:ar},32∉w->(∀q∈t,(q.1=1\/q.1=-1)/\32∉q.2)->scan s [] (w++rest t)=(s,w)::t
 | [],s,w,hw,_=>by rw[xR hw];exact wz s ([]++w)
 | q::t,s,w,hw,ht=>by
  obtain⟨h1,f⟩:=ht q<|aT ..;have d:∀s,scan s [] (q.2++rest t)=(s,q.2)::t:=λs=>Bf f λp hp=>ht p<|aS _ hp;rw[xR hw,cF];show scan s w (32::sc q.1::32::(q.2++rest t))=_
  rcases h1 with z|z
  ·have e:sc q.1=43:=by unfold sc;rw[z];rfl
   rw[oY,e,aQ ⟨rfl,rfl⟩];show(s,w)::scan 1 [] (q.2++rest t)=_;rw[d,<- z]
  ·have e:sc q.1=45:=by unfold sc;rw[z];rfl
   rw[oY,e,aO λy=>absurd (cD y.2).1 ⋯,aQ ⟨rfl,rfl⟩];show(s,w)::scan (-1) [] (q.2++rest t)=_;rw[d,<- z]
end Pn
namespace Sy
open Tb
abbrev hd (T:List<|ag)(y:Int):ag:=match T with
 | []=>[y]
 | u::_=>if fg u y=u.length then u++[y]else u.set (fg u y) y
abbrev plain (T:List<|ag):ag:=T.reverse.flatten
end Sy
namespace K83
open PySem L2 Am
abbrev oU (S:jL)(b:Nat):Prop:=∃g st:Int,jF S b=some [.int g,.int st]/\0<=g/\0<=st/\st<4294967296
def oU.kp{b:Nat}{c:Nat->Prop}(h:oU S b)(k:Kp c S S')(hb:¬c b):oU S' b:=by
 obtain⟨g,st,e,q⟩:=h;exact⟨g,st,k.lst b _ hb e,q⟩
def Ov{S:jL}{ns:ag}{k:Int}(h0:0<=k)(h1:k<=100):∃S',sq [.frz<|ns.map .int,.int k] S=.ok (.ref S.length) S'/\oU S' S.length/\lH S S':=by
 have e3:N6 (.int 10) (.int 18)=λS=>R.ok (.int 1000000000000000000) S:=by
  funext S;exact j9 ⟨by decide,by decide,by decide⟩
 have f:∀d:Int,0<=d->∃S',((RS.seq (.nx [A.frz<|ns.map .int,.int k,.int d,.unb] S) (j6 (kC (jJ kq (eC<|.int 1)<|jJ yr (jJ kq (jJ kq (jJ kq (jJ yr (jE 2)<|eC<|.int 2147483647)<|jJ oR (jJ oR (eC<|.int 7919)<|jE 1)<|jE 1)<|jJ oR (eC<|.int 17)<|jE 1)<|eC<|.int 3)<|eC<|.int 2147483646)<|kB 3)
   (kL<|oQ<|jC (jJ oR (jE 2)<|jV (f1 mG)<|jC (jJ Wq (jE 2)<|jJ N6 (eC<|.int 10)<|eC<|.int 18)<|jK)<|jC (jE 3)<|jK))).end=.ok (.ref S.length) S')/\oU S' S.length/\lH S S':=by
  intro d hc;have m:yr (.int d) (.int 2147483647)=λS=>R.ok (.int<|d % 2147483647) S:=by funext S;exact A6 ⋯
  have J:∀x:Int,yr (.int x) (.int 2147483646)=λS=>R.ok (.int<|x % 2147483646) S:=λx=>by funext S;exact A6 ⋯
  have B:∀x:Int,oR (.int 7919) (.int x)=λS=>R.ok (.int<|7919 * x) S:=λx=>by funext S;exact C9 ⋯ ⋯
  have F:oR (.int<|7919 * k) (.int k)=λS=>R.ok (.int<|7919 * k * k) S:=by funext S;exact mul_r () ()
  have p:∀x:Int,oR (.int 17) (.int x)=λS=>R.ok (.int<|17 * x) S:=λx=>by funext S;exact C9 ⋯ ⋯
  have K:∀b:Bool,oR (.int d) (.int<|if b=true then 1 else 0)=λS=>R.ok (.int<|d * (if b=true then 1 else 0)) S:=λb=>by
   funext S
   refine mul_r ?_ ?_<;>cases b<;>decide
  have G:0<=1+(d % 2147483647+7919 * k * k+17 * k+3) % 2147483646:=by
   have:=iP (d % 2147483647+7919 * k * k+17 * k+3) (show(2147483646:Int)≠0 by decide)
   lia
  have C:1+(d % 2147483647+7919 * k * k+17 * k+3) % 2147483646<4294967296:=by
   have:=gI (d % 2147483647+7919 * k * k+17 * k+3) (show(0:Int)<2147483646 by decide)
   lia
  refine⟨S++[.lst [.int<|d * (if decide (1000000000000000000<=d)=true then 1 else 0),.int<|1+(d % 2147483647+7919 * k * k+17 * k+3) % 2147483646]],?_,⟨_,_,jT,?_,G,C⟩,Kp.refl.lay⟩
  ·dsimp[j3,bools,m,J,B,F,p,e3,K]
  ·refine Int.mul_nonneg hc ?_;split<;>decide
 have j:∀x:Int,0<=(if x<0 then -x else x):=by intro x;split<;>lia
 unfold sq xT xC;dsimp[j3,bools,kj,Nat.reduceAdd,Nat.reduceSub,aK];by_cases g:k<(ns.length:Int)
 ·have hn:k.toNat<ns.length:=()
  have L:qE (ns.map A.int) k=some (.int ns[k.toNat]):=yU (k:=k.toNat) ()<|aH hn;rw[aJ g];dsimp[j3,bools,L];exact f _<|j _
 ·rw[aI g];dsimp[j3,bools];exact f 0<|Int.le_refl 0
def By{i j:Int}(h:0<j)(h':j<1267650600228229401496703205376):zK (.int i) (.int j) S=.ok (.int<|i / j) S:=j9 ⟨h,h'⟩
def digit{b:Nat}{m:Int}(h:oU S b)(h1:1<=m)(U:m<1267650600228229401496703205376):∃d S',jQ [.ref b,.int m] S=.ok (.int d) S'/\0<=d/\d<m/\oU S' b/\Kp (·=b) S S':=by
 obtain⟨g,st,k,hg,hs,p⟩:=h;have C:=oV k;have F:z9 2 0=some 0:=zQ rfl ⋯;have G:z9 2 1=some 1:=zQ rfl ⋯;have j:∀d g' f:Int,0<=d->d<m->0<=g'->0<=f->f<4294967296->jQ [.ref b,.int m] S=.ok (.int d) (S.set b<|.lst [.int g',.int f])->∃d S',jQ [.ref b,.int m] S=.ok (.int d) S'/\0<=d/\d<m/\oU S' b/\Kp (·=b) S S':=
  λd g' f N J K L O e=>⟨d,_,e,N,J,⟨g',f,qI C,K,L,O⟩,Kp.refl.set<|.inl rfl⟩
 by_cases B:0<g
 ·refine j (g % m) (g / m) st (iP _ ()) (gI _ ()) (Int.ediv_nonneg hg ()) hs p ?_;unfold jQ qF qz;rw[yG];simp[k,L3,Qw,B,A6<|show 0<m by lia,By (show 0<m by lia) U,F]
 ·have:g=0:=()
  subst this;have e1:0<=st * 48271 % 2147483647:=iP _ ⋯;have e2:st * 48271 % 2147483647<2147483647:=gI _ ⋯;refine j ((st * 48271 % 2147483647) * ((st * 48271 % 2147483647) / 65536+9) % 2147483629 / 32 % m) 0 (st * 48271 % 2147483647) (iP _ ()) (gI _ ()) ⋯ e1 () ?_;unfold jQ qF qz;rw[yG];simp[k,L3,Qw,A6<|show 0<m by lia,F,G,C9 (show -18446744073709551616<st by lia) (),A6<|show(0:Int)<2147483647 by decide,qI C,By (show(0:Int)<65536 by decide) ⋯,C9 (show -18446744073709551616<st * 48271 % 2147483647 by lia) (),A6<|show(0:Int)<2147483629 by decide,By (show(0:Int)<32 by decide) ⋯]
theorem z7:∀(l:ag) (j:Nat) (h:j<l.length),(l[j]::l.eraseIdx j).Perm l
 | x::l,0,_=>gY _
 | x::l,j+1,h=>(List.Perm.swap x _ _).trans<|List.Perm.cons x<|z7 l j<|Nat.lt_of_succ_lt_succ h
def IY{J fs:ag}{j:Nat}(h:j<J.length):((fs++[J[j]])++J.eraseIdx j).Perm (fs++J):=by
 rw[bI];refine List.Perm.append_left fs ?_
 skip
 exact z7 J j h
def Rx{b:Nat}{n:Int}(h:oU S b)(h1:1<=n)(h2:n<=20):∃(xs:ag) (S':jL),r6 [.ref b,.int n] S=.ok (.tup<|xs.map .int) S'/\xs.Perm (lE 1<|n+1)/\oU S' b/\Kp (·=b) S S':=by
 have hbS:b<S.length:=by obtain⟨_,_,e,_⟩:=h;exact oV e
 unfold r6 yb ya;dsimp[j3,bools,kj,Nat.reduceAdd,Nat.reduceSub,se<|uF (show(-1000000:Int)<=1 by decide) ⋯ (show -1000000<=n+1 by lia) () (),aV];have V:=wo (t:=um) (c:=uh)
  (λτ S1=>∃(L:Nat) (x4:A) (f fs:ag),τ=[.ref b,.int n,.ref L,.ref<|S.length+1,x4]/\jF S1 L=some (f.map .int)/\jF S1 (S.length+1)=some (fs.map .int)/\L≠S.length+1/\S.length<=L/\(fs++f).Perm (lE 1<|n+1)/\oU S1 b/\Kp (·=b) S S1)
  (λτ S1=>match τ with
   | [_,_,.ref L,_,_]=>((jF S1 L).getD []).length
   | _=>0)
  (λr=>∃(xs:ag) (S':jL),RS.end (RS.seq r<|kL<|jV (f1 qj)<|jC (jE 3) jK)=.ok (.tup<|xs.map .int) S'/\xs.Perm (lE 1<|n+1)/\oU S' b/\Kp (·=b) S S') ?_ 1000000
 ·refine V _ _ ⟨S.length,.unb,lE 1<|n+1,[],rfl,?_,?_,(),aP _,gY _,h.kp (c:=λ_=>False) (Kp.refl.lay.lay) λz=>z,Kp.refl.lay.lay⟩ ?_
  ·exact k_ jT
  ·have:jF (S++[.lst<|(lE 1<|n+1).map .int]++[.lst []]) (S++[O.lst<|(lE 1<|n+1).map .int]).length=some []:=jT;simpa using this
  ·show((jF _ S.length).getD []).length<_;rw[k_ jT,fh,aK,qb]
   lia
 ·rintro τ S1 ⟨L,x4,f,fs,rfl,Z,hF,P,hLS,hp,hb,hk⟩;have hlen:f.length<=20:=by
   have:=hp.length_eq;rw[aV,qb]at this
   lia
  unfold um uh;dsimp[j3,bools,Z,aK];by_cases h0:f=[]
  ·subst h0;left;refine⟨S1,rfl,fs,S1,?_,by simpa using hp,hb,hk⟩;dsimp[j3,bools,hF]
  ·right;have hpos:0<f.length:=gc.mpr h0;refine⟨S1,by rw[aJ ()],.inl ?_⟩;obtain⟨d,C,e2,d0,d1,U,p⟩:=digit (m:=(f.length:Int)) hb () ();have Y:¬L=b:=()
   have B:=p.lst L _ Y Z;have N:=p.lst (S.length+1) _ () hF;have hd:d.toNat<f.length:=()
   have ha:qE (f.map A.int) d=some (.int f[d.toNat]):=yU (k:=d.toNat) ()<|aH hd;have lF:=oV N;have lL:=oV B;have hfl:fs.length<=20:=by
    have:=hp.length_eq;rw[aV,qb]at this
    lia
   have G:jF (C.set (S.length+1)<|.lst<|fs.map .int++[.int f[d.toNat]]) L=some (f.map .int):=by rw[om<|cL P];exact B
   have T:yt (f.map A.int) none (some d)=(f.take d.toNat).map .int:=by
    have:=IA (f.map A.int) d.toNat (by rw[aK];exact hd);rw[show((d.toNat:Nat):Int)=d by lia]at this;rw[this,List.map_take]
   have K:yt (f.map A.int) (some<|d+1) none=(f.drop<|d.toNat+1).map .int:=by
    have:=Ik (f.map A.int) d.toNat (by rw[aK];exact hd);rw[show((d.toNat:Nat):Int)=d by lia]at this;rw[this,List.map_drop]
   dsimp[j3,bools,Z,aK,e2,N,B,ha,L5<|show(fs.length)<16777216 by lia,G,T,K];have g1:jF (C.set (S.length+1) (.lst<|fs.map .int++[.int f[d.toNat]])++[.lst<|(f.take d.toNat).map .int]) L=some (f.map .int):=k_ G;dsimp[j3,bools,g1,K];have F:=AU (S:=C.set (S.length+1) (.lst<|fs.map .int++[.int f[d.toNat]])++[.lst<|(f.take d.toNat).map .int]++[.lst<|(f.drop<|d.toNat+1).map .int]) (k_ jT) jT (by rw[aK,aK,cU,cE];lia);rw[F];dsimp[j3,bools];have J:(f.take d.toNat).map A.int++(f.drop<|d.toNat+1).map A.int=(f.eraseIdx d.toNat).map .int:=by rw[<- cY,<- List.eraseIdx_eq_take_drop_succ]
   rw[J];have j:(C.set (S.length+1) (.lst<|fs.map .int++[.int f[d.toNat]])++[O.lst<|(f.take d.toNat).map .int]++[O.lst<|(f.drop<|d.toNat+1).map .int]).length=C.length+2:=by simp
   have k3:Kp (·=b) S (C.set (S.length+1)<|.lst<|fs.map .int++[.int f[d.toNat]]):=(hk.trans p).set<|.inr ();have b3:oU (C.set (S.length+1)<|.lst<|fs.map .int++[.int f[d.toNat]]) b:=by
    obtain⟨g,st,e,q⟩:=U;exact⟨g,st,by rw[om ()];exact e,q⟩
   refine⟨_,_,rfl,⟨_,_,f.eraseIdx d.toNat,fs++[f[d.toNat]],rfl,jT,?_,?_,?_,?_,b3.kp (c:=λ_=>False) Kp.refl.lay.lay.lay λz=>z,k3.lay.lay.lay⟩,?_⟩
   ·rw[cY];exact k_ (k_<|k_<|qI ())
   ·rw[j];lia
   ·rw[j];lia
   ·exact(IY hd).trans hp
   ·dsimp[jT,fh,aK,f6 hd]
    lia
def Jw{xs:ag}{i j:Nat}{x y:Int}(hi:xs[i]?=some x)(J:xs[j]?=some y):((xs.set i y).set j x).Perm xs:=by
 obtain⟨g,d⟩:=aZ.mp hi;obtain⟨f,k⟩:=aZ.mp J;subst d k;exact List.set_set_perm g f
def LJ{b:Nat}{n:Int}(h:oU S b)(h1:1<=n)(h2:n<=20):∃(xs:ag) (S':jL),pF [.ref b,.int n] S=.ok (.tup<|xs.map .int) S'/\xs.Perm (lE 1<|n+1)/\oU S' b/\Kp (·=b) S S':=by
 unfold pF uE t9;obtain⟨d,S1,e1,d0,d1,hb1,f⟩:=digit (m:=4) h ⋯ ⋯;dsimp[j3,bools,kj,Nat.reduceAdd,Nat.reduceSub,e1];by_cases hw:1<d
 ·obtain⟨xs,K,e2,hp,F,C⟩:=Rx hb1 h1 h2;rw[aJ hw];dsimp[j3,bools,e2];exact⟨xs,K,rfl,hp,F,f.trans C⟩
 ·rw[aI hw];have hbS:b<S.length:=by obtain⟨_,_,e,_⟩:=h;exact oV e
  have hl1:=f.len;dsimp[j3,bools,se<|uF (show(-1000000:Int)<=1 by decide) ⋯ (show -1000000<=n+1 by lia) () ()];have go:∀(L:Nat) (fs:ag) (K:jL),jF K L=some (fs.map .int)->fs.Perm (lE 1<|n+1)->oU K b->Kp (·=b) S K->S.length<=L ->
    ∃(xs:ag) (S':jL),RS.end (RS.seq (vD vh (kB 4) rB [.ref b,.int n,.int d,.ref L,.unb,.unb,.unb] K)<|kL<|jV (f1 qj)<|jC (jE 3)<|jK)=.ok (.tup<|xs.map .int) S'/\xs.Perm (lE 1<|n+1)/\oU S' b/\Kp (·=b) S S':=by
   intro L fs K hL hp F C Y;obtain⟨m,S3,e3,m0,m1,hb3,hk3⟩:=digit (m:=7) F ⋯ ⋯;refine yQ (lo:=0) (hi:=m) (S1:=S3) ?_ (λ_ τ T=>∃(x4 x5 x6:A) (fs:ag),τ=[.ref b,.int n,.int d,.ref L,x4,x5,x6]/\jF T L=some (fs.map .int)/\fs.Perm (lE 1<|n+1)/\oU T b/\Kp (·=b) S T) (λr=>∃(xs:ag) (S':jL),RS.end (RS.seq r _)=.ok (.tup<|xs.map .int) S'/\xs.Perm (lE 1<|n+1)/\oU S' b/\Kp (·=b) S S') ⟨_,_,_,fs,rfl,hk3.lst L _ () hL,hp,hb3,C.trans hk3⟩ ?_ ?_
   ·refine uT ?_<|p6 () ();dsimp[j3,bools,e3]
   ·rintro i τ T hi ⟨x4,x5,x6,fs,rfl,G,j,J,N⟩;left;obtain⟨p,S5,e5,p0,p1,hb5,U⟩:=digit (m:=n) J h1 ();obtain⟨q,S6,e6,q0,q1,hb6,V⟩:=digit (m:=n) hb5 h1 ();have hL6:=V.lst L _ ()<|U.lst L _ () G;have hlen:(fs.length:Int)=n:=by rw[j.length_eq,qb];lia
    have B:p.toNat<fs.length:=()
    have P:q.toNat<fs.length:=()
    have ap:qE (fs.map A.int) p=some (.int fs[p.toNat]):=yU (k:=p.toNat) ()<|aH B;have aq:qE (fs.map A.int) q=some (.int fs[q.toNat]):=yU (k:=q.toNat) ()<|aH P;have ip:z9 fs.length p=some p.toNat:=zQ () B;have iq:z9 fs.length q=some q.toNat:=zQ () P;have Z:=oV hL6;unfold rB;dsimp[j3,bools,e5,e6,hL6,ap,aq,lI<|show([_,_]:ae).length<=16777216 by simp,j9<|show([_,_]:ae).length=2 from rfl,aK,ip,iq,qI Z,fH];refine⟨_,_,rfl,_,_,_,(fs.set p.toNat fs[q.toNat]).set q.toNat fs[p.toNat],rfl,?_,?_,?_,?_⟩
    ·rw[qI<|by rw[fH];exact Z,map_set,map_set]
    ·exact(Jw (aH B)<|aH P).trans j
    ·obtain⟨g,st,e,z⟩:=hb6;exact⟨g,st,by rw[om (),om ()];exact e,z⟩
    ·exact((((N.trans U).trans V).set<|.inr Y).set<|.inr Y)
   ·rintro τ T ⟨x4,x5,x6,fs,rfl,G,j,J,N⟩;refine⟨fs,T,?_,j,J,N⟩;dsimp[j3,bools,G]
  have b2:oU (S1++[O.lst<|(lE 1<|n+1).map .int]) b:=hb1.kp (c:=λ_=>False) Kp.refl.lay λz=>z;by_cases h1':d=1
  ·subst h1';dsimp[j3,bools,bx];exact go _ (lE 1<|n+1).reverse _ (by rw[List.map_reverse];exact jT) (List.reverse_perm _) (b2.kp (c:=λ_=>False) Kp.refl.lay λz=>z) f.lay.lay (by simp;lia)
  ·rw[show(d == 1)=false by simpa using h1'];dsimp[j3,bools];exact go _ (lE 1<|n+1) _ jT (gY _) b2 f.lay hl1
end K83
namespace K83
open PySem L2 Am
open Pt (C qx term tQ sg tp rX pT R0 pH tF dg)
meta abbrev tA (q:Int×Int):A:=.tup [.int q.1,.int q.2]
def kH{f:A->ae->jL->Am.R A}{co:Ex}{d:rW}:yV f co d τ S=(co τ S).bind λo S1=>gd (o.isStr=true) ((d τ S1).bind λas S2=>f o as S2):=rfl
def n8{x:Str}{r:Am.R A}:gd (A.isStr (.str x)=true) r=r:=aQ rfl
def B5:UJ ps τ S=(D3 ps Str.empty τ S).bind λx S'=>.ok (.str x) S':=rfl
def Hh{x:Str}{out:Str}:D3 (.inl x::ps) out τ S=gd (x.length<=1000) (D3 ps (out++x) τ S):=rfl
def Jo{out:Str}:D3 [] out τ S=.ok out S:=rfl
def UW{e:Ex}{i:Int}{out:Str}(h:e τ S=.ok (.int i) S1)(hi:i.natAbs.log2<64):D3 (.inr e::ps) out τ S=D3 ps (out++Tx.tx i) τ S1:=by
 show(e τ S).bind _=_;rw[h];exact aQ hi
def Ga{e:Ex}{y:Str}{out:Str}(h:e τ S=.ok (.str y) S1)(hi:y.length<=1000):D3 (.inr e::ps) out τ S=D3 ps (out++y) τ S1:=by
 show(e τ S).bind _=_;rw[h];exact aQ hi
def xE{x:Int}(h:x.natAbs<10 ^ 30):qC (.int x) S=.ok (.str<|Tx.tx x) S:=j9 (by
 by_cases d:x.natAbs=0
 ·rw[d];decide
 ·exact bD ((log2_lt d).mpr<|show x.natAbs<2 ^ 100 by lia) ⋯)
def pS{a b:Str}(h:a.length+b.length<=100000):kq (.str a) (.str b) S=.ok (.str<|a++b) S:=j9<|by rw[bB];lia
def MZ{t:Te}{n:Nat}(h:t τ S=.ok false S):mT t c (n+1) τ S=.nx τ S:=by
 unfold mT;rw[h];rfl
def Lh{n:Int}(h:n.natAbs<10 ^ 30):(Tx.tx (n.natAbs:Nat)).length<=30:=by
 rw[Sp.size_eq];show(C _).length<=30;rw[Pt.vW];exact Pt.yZ h
def abs_eq(n:Int):(if n<0 then -n else n)=((n.natAbs:Nat):Int):=by split<;>lia
def Fe{n:Int}(h:n.natAbs<10 ^ 30):pI [.int n] S=.ok (.str<|Tx.tx (n.natAbs:Nat)) S:=by
 have l:=Lh h;have d:qS [.int ((n.natAbs:Nat):Int),.str<|PySem.Str.ofString "",.unb] S=.ok false S:=by
  unfold qS;dsimp[j3,bools,aI<|show ¬((n.natAbs:Nat):Int)>=10000000000000000000000000000000000000000000000000000000000000000 by lia]
 have f:kq (.str<|Tx.tx (n.natAbs:Nat)) (.str<|PySem.Str.ofString "") S=.ok (.str<|Tx.tx (n.natAbs:Nat)) S:=by
  rw[pS<|by show _+0<=_;lia];exact cg (λz=>R.ok (A.str z) S)<|Tx.Pj _
 have w:=MZ (c:=vg) (n:=999999) d;unfold pI t8 uU;dsimp[j3,bools,kj,Nat.reduceAdd,Nat.reduceSub,abs_eq,↓w,xE (S:=S) (x:=((n.natAbs:Nat):Int))<|by rw[dH];exact h,f]
def VR{p:Int}(h0:-60<=p)(h1:p<=60):p.natAbs.log2<64:=by
 by_cases d:p.natAbs=0
 ·rw[d];decide
 ·exact bD ((log2_lt d).mpr<|show p.natAbs<2 ^ 6 by lia) ⋯
def Va {m:Nat}{S:jL}:mJ false (.str<|Tx.tx m) (.str<|PySem.Str.ofString "1") S=.ok (.bl<|decide<|m=1) S:=by
 have e:wU S 12 (.str<|Tx.tx m) (.str<|PySem.Str.ofString "1")=some (decide<|m=1):=by
  show some (Tx.tx m == Str.ofString "1")=_;by_cases c:m=1
  ·rw[aJ c,Pt.VF.mpr c,bx]
  ·rw[aI c,bw.mpr λz=>c<|Pt.VF.mp z]
 unfold mJ;rw[e];rfl
def NR{p:Int}(h0:-60<=p)(h1:p<=60):(tQ p).length<=5:=by
 have:=Pt.zL (q:=(p,1)) h0 h1 (show(1:Nat)<10 ^ 30 by decide);have hp:(pH p).length<=3:=by
  unfold pH;rw[aV];have:(dg p.natAbs).length<=2:=by
   unfold dg;rw[aK];exact(fy ⋯ ⋯).mpr ()
  split
  ·show 1+_<=_;lia
  ·show 0+_<=_;lia
 rw[Sp.size_eq];show(C _).length<=_;rw[Pt.MS h0];unfold tF;split
 ·decide
 ·show(_+1)+1<=5;lia
def N9{p n:Int}(h0:-60<=p)(h1:p<=60)(h:n.natAbs<10 ^ 30):nK [.int p,.int n] S=.ok (.str<|term (p,n)) S:=by
 have l:=Lh h;have g:=NR h0 h1;unfold nK ur uJ term;by_cases c0:p=0
 ·subst c0;dsimp[j3,bools,kj,Nat.reduceAdd,Nat.reduceSub,Fe h,bx,dB]
 ·have b0:(p == 0)=false:=bw.mpr c0;have lt:z_ (oH<|jJ (mJ false) (jE 0)<|eC<|.int 1) (eC<|.str<|PySem.Str.ofString "v") (UJ [.inl "v^",.inr<|jE 0]) [.int p,.int n,.str<|Tx.tx (n.natAbs:Nat),.unb] S=.ok (.str<|tQ p) S:=by
   unfold tQ;by_cases c1:p=1
   ·subst c1;dsimp[j3,bools,bx,dB]
   ·have d:(p == 1)=false:=bw.mpr c1;have f:D3 [.inl "v^",.inr<|jE 0] Str.empty [.int p,.int n,.str<|Tx.tx (n.natAbs:Nat),.unb] S=.ok ("v^" ++ Tx.tx p) S:=by
     rw[Hh,j9<|show("v^" : Str).length<=1000 by decide,UW (i:=p) (S1:=S) (by dsimp[j3,bools])<|VR h0 h1,Jo,Tx.GZ]
    dsimp[j3,bools,d,B5,f,aO c1]
  dsimp[j3,bools,kj,Nat.reduceAdd,Nat.reduceSub,Fe h,b0,↓lt,Va,aO c0];by_cases c2:n.natAbs=1
  ·dsimp[aJ c2,j3,bools,aQ c2]
  ·have f:D3 [.inr<|jE 2,.inl "*",.inr<|jE 3] Str.empty [.int p,.int n,.str<|Tx.tx (n.natAbs:Nat),.str<|tQ p] S=.ok (Tx.tx (n.natAbs:Nat) ++ "*" ++ tQ p) S:=by
    rw[Ga (y:=Tx.tx (n.natAbs:Nat)) (S1:=S) (by dsimp[j3,bools]) (),Hh,j9<|show("*" : Str).length<=1000 by decide,Ga (y:=tQ p) (S1:=S) (by dsimp[j3,bools]) (),Jo,Tx.GZ]
   dsimp[aI c2,j3,bools,B5,f,aO c2]
end K83
namespace K83
open PySem L2 Am
open Pt (C qx term tQ sg tp rX pT R0 pH tF dg)
structure Pq (l:List (Int×Int)):Prop where
 b:∀q∈l,-60<=q.1/\q.1<=60/\q.2≠0/\q.2.natAbs<10 ^ 30
 up:l.Pairwise λp q=>p.1<q.1
 len:l.length<=40
abbrev td (l:List<|Int×Int):Str:=Sp.mk<|l.flatMap pT
def PJ{q:Int×Int}(h:-60<=q.1/\q.1<=60/\q.2≠0/\q.2.natAbs<10 ^ 30):(pT q).length<=39:=by
 have:=Pt.zL h.1 h.2.1 h.2.2.2;rw[Sp.size_eq]at this;show(C<|term q).length+1+1+1<=39;have this:(C<|term q).length<=36:=this
 lia
theorem Jm:∀{l:List<|Int×Int},(∀q∈l,-60<=q.1/\q.1<=60/\q.2≠0/\q.2.natAbs<10 ^ 30)->(l.flatMap pT).length<=l.length * 39
 | [],_=>aP _
 | q::l,h=>by
  rw[fM,aV,aR,iT];have:=PJ<|h q<|aT ..;have:=Jm (l:=l) λx d=>h x (aS _ d)
  lia
def Ej(l:ar):(Sp.mk l).length=l.length:=by rw[Sp.size_eq];rfl
def Er{l:List<|Int×Int}(h:Pq l)(i:Nat):(td<|l.take i).length<=1560:=by
 unfold td;rw[Ej];have:=Jm (l:=l.take i) λq d=>h.b q<|List.mem_of_mem_take d;have:(l.take i).length<=40:=cK (List.length_take_le' _ _) h.len
 lia
def Yv{n:Nat}{xs:ae}(h:jF S n=some xs):A.Qi (.ref n) S=some (!xs.isEmpty):=by
 show(jF S n).map _=_;rw[h];rfl
def Pz{l:List<|Int×Int}{i:Nat}{q:Int×Int}(h:l[i]?=some q):l.take (i+1)=l.take i++[q]:=by
 rw[List.take_add_one,h];rfl
def P8(q:Int×Int):sg q=if q.2<0 then Str.ofString "-" else Str.ofString "+" := by
 unfold sg qx;split<;>rfl
def WK(l:List<|Int×Int)(q:Int×Int):td l++(Str.empty ++ " " ++ sg q ++ " " ++ term q)=td (l++[q]):=by
 apply Pt.ext;unfold td;rw[Pt.rZ,Pt.rZ,Pt.rZ,Pt.rZ,Pt.rZ,Pt.pY,Pt.pY,List.flatMap_append];dsimp[fM,List.flatMap_nil,bS];rfl
def YG{a b:Str}(h:a.length+b.length<=100000):Mt (.str a) (.str b) S=.ok (.str<|a++b) S:=j9<|by rw[bB];lia
theorem nQ(a b:Str):(a++b).length=a.length+b.length:=Tx.nQ a b
def Pu{l:List<|Int×Int}{i:Nat}{p n:Int}(h:Pq l)(J:l[i]?=some (p,n)):rH [a0,.str<|td<|l.take i,.int p,.int n,a4] S=.nx [a0,.str<|td<|l.take<|i+1,.int p,.int n,.str<|sg (p,n)] S:=by
 have d:=h.b _<|dP J;have tl:=Pt.zL d.1 d.2.1 d.2.2.2;have k:=Er h i;have st:=N9 (S:=S) d.1 d.2.1 d.2.2.2;have j:(sg (p,n)).length=1:=rfl;have f:D3 [.inl " ",.inr<|jE 4,.inl " ",.inr<|eFn nK<|jC (jE 2)<|jC (jE 3) jK] Str.empty [a0,.str<|td<|l.take i,.int p,.int n,.str<|sg (p,n)] S=.ok (Str.empty ++ " " ++ sg (p,n) ++ " " ++ term (p,n)) S:=by
  rw[Hh,j9<|show(" " : Str).length<=1000 by decide,Ga (y:=sg (p,n)) (S1:=S) (by dsimp[j3,bools]) (),Hh,j9<|show(" " : Str).length<=1000 by decide,Ga (y:=term (p,n)) (S1:=S) (by dsimp[j3,bools,st]) (),Jo]
 have g:=YG (S:=S) (a:=td<|l.take i) (b:=Str.empty ++ " " ++ sg (p,n) ++ " " ++ term (p,n)) (by
  rw[nQ,nQ,nQ,nQ,j];show _+(0+1+1+1+_)<=_
  lia)
 rw[WK,<- Pz J]at g;unfold rH;by_cases c:n<0
 ·have e:sg (p,n)=Str.ofString "-" := by rw[P8,aQ c]
  rw[e]at f g ⊢;dsimp[j3,lC,bools,aJ c,B5,f,g]
 ·have e:sg (p,n)=Str.ofString "+" := by rw[P8,aO c]
  rw[e]at f g ⊢;dsimp[j3,lC,bools,aI c,B5,f,g]
def IW(q:Int×Int)(l:List<|Int×Int):C (td (q::l))=32::qx q::32::(C (term q)++l.flatMap pT):=by
 unfold td;rw[Pt.pY,fM];rfl
def Og(q:Int×Int)(l:List<|Int×Int):Txt.slice (td (q::l)) (some 3) none=Sp.mk (C (term q)++l.flatMap pT):=by
 apply Pt.ext;rw[show(some 3:bo)=some ((3:Nat):Int)from rfl,Pt.mO _ (by
  rw[Sp.size_eq];show 3<=(C<|td (q::l)).length;rw[IW];dsimp[aR]
  lia),IW]
 rfl
def N5{r:Nat}{l:List<|Int×Int}(h:Pq l)(Z:jF S r=some (l.map tA)):pG [.ref r] S=.ok (.str<|tp l) S:=by
 have j:=Yv Z;unfold pG uQ ue
 cases l with
 | nil=>
  dsimp[j3,bools,kj,Nat.reduceAdd,Nat.reduceSub,j,map_nil,List.isEmpty_nil,bg,bA];rfl
 | cons q l=>
  dsimp[j3,bools,kj,Nat.reduceAdd,Nat.reduceSub,j,bP,List.isEmpty_cons,bg,bA];refine G1 (n:=r) (xs:=(q::l).map tA) (S1:=S) (show vn _ _=_ from rq (by dsimp[j3,bools]) Z)
   (λi τ T=>(∃f g d,τ=[.ref r,.str<|td<|(q::l).take i,f,g,d])/\T=S) (λz=>RS.end (RS.seq z _)=.ok (.str<|tp (q::l)) S) ⟨⟨_,_,_,rfl⟩,rfl⟩ (λi τ T G=>by rw[G.2];exact Z) ?_ ?_
  ·rintro i z τ T k ⟨⟨f,g,d,rfl⟩,rfl⟩;rw[bu]at k;obtain⟨⟨p,n⟩,J,rfl⟩:=br.mp k;exact⟨[.ref r,.str<|td<|(q::l).take i,.int p,.int n,d],T,rfl,.inl ⟨_,_,Pu h J,⟨_,_,_,rfl⟩,rfl⟩⟩
  ·rintro τ T ⟨⟨f,g,d,rfl⟩,rfl⟩;rw[aK,iA];have F:=Og q l;have B:(Sp.mk<|C (term q)++l.flatMap pT).length<=16777216:=by
    have:=Er h (q::l).length;rw[iA]at this;rw[Sp.size_eq]at this;have this:(C<|td (q::l)).length<=1560:=this;rw[IW]at this;rw[Ej];dsimp[aR]at this
    lia
   have L:∀U:jL,OC (.str<|td (q::l)) (some 3) none U=.ok (.str<|Sp.mk<|C (term q)++l.flatMap pT) U:=λU=>by
    show gd ((Txt.slice (td (q::l)) (some 3) none).length<=sizeLine) _=_;rw[F];exact j9<|by rw[bB];exact B
   have es:ou (jE 1) (kP<|eC<|.int 3) lP [.ref r,.str<|td (q::l),f,g,d] T=.ok (.str<|Sp.mk<|C (term q)++l.flatMap pT) T:=L T;have st:qJ (.str<|td (q::l)) [.str<|PySem.Str.ofString " + "] T=.ok (.bl<|decide<|¬q.2<0) T:=by
    show R.ok (A.bl<|decide (0+_<=_) && Builtin.Str.subAt (td (q::l)) (PySem.Str.ofString " + ") 0) T=_;have K:(PySem.Str.ofString " + ").length=3:=by decide +kernel
    have c3:(PySem.Str.ofString " + ").cps.toList=[32,43,32]:=by decide +kernel
    have tl:3<=(td (q::l)).length:=by
     rw[Sp.size_eq];show 3<=(C<|td (q::l)).length;rw[IW];dsimp[aR]
     lia
    rw[StrLaws.subAt_eq,K,c3,dY,aJ<|show 0+3<=(td (q::l)).length by lia,cO];show R.ok (A.bl<|(C<|td (q::l)).take 3 == [32,43,32]) T=_;rw[IW];show R.ok (A.bl<|[32,qx q,32] == [32,43,32]) T=_;unfold qx;by_cases c:q.2<0
    ·rw[aQ c,aI λz=>z c];rfl
    ·rw[aO c,aJ c];rfl
   by_cases c:q.2<0
   ·have m:=pS (S:=T) (a:=PySem.Str.ofString "-") (b:=Sp.mk<|C (term q)++l.flatMap pT) (by
     have:=Er h (q::l).length;rw[iA]at this;rw[Sp.size_eq]at this;have this:(C<|td (q::l)).length<=1560:=this;rw[IW]at this;rw[Ej];dsimp[aR]at this;show 1+_<=_
     lia)
    have e2:PySem.Str.ofString "-" ++ Sp.mk (C (term q)++l.flatMap pT)=tp (q::l):=by
     apply Pt.ext;rw[Pt.rZ];show _=R0 q++l.flatMap pT;unfold R0;rw[aQ c,bI];rfl
    rw[e2]at m;dsimp[j3,bools,kH,n8,st,aI (λz:¬q.2<0=>z c),es,m]
   ·have e2:Sp.mk (C (term q)++l.flatMap pT)=tp (q::l):=by
     show _=Sp.mk (R0 q++l.flatMap pT);unfold R0;rw[aO c,cF]
    rw[e2]at es;dsimp[j3,bools,kH,n8,st,aJ c,es]
end K83
namespace K83
open PySem L2 Am
open Pt (C qx term tQ sg tp rX pT R0 pH tF dg)
def Mq{n:Nat}{bs:List Bool}(h:jF S n=some xs)(hb:A.EE xs=some bs):wO (.ref n) S=.ok (.bl<|bs.all λb=>b) S:=by
 show opt (jF S n) _=_;rw[h];show opt (A.EE xs) _=_;rw[hb];rfl
theorem PR:∀(xs:ae),A.EE (xs.map λ_=>.bl true)=some (xs.map λ_=>true)
 | []=>rfl
 | x::xs=>by rw[bP,yj,PR xs];rfl
theorem Qg:∀(xs:ae),((xs.map λ_=>true).all λb=>b)=true
 | []=>rfl
 | _::xs=>Qg xs
def O6{S:jL}{L:ae}:wO (.ref S.length) (S++[O.lst<|L.map λ_=>A.bl true])=.ok (.bl true) (S++[O.lst<|L.map λ_=>A.bl true]):=by
 rw[Mq jT<|PR _,Qg]
def RH{c:Ex}{x:Str}(h:c τ S=.ok (.str x) S1)(j:x.cps.all (· < 128)=true):mL c τ S=.ok (qM<|x.cps.toList.map λc=>.str ⟨#[c]⟩) S1:=by
 unfold mL;rw[h];exact Wm j
def KR{f g:A->A->jL->Am.R A}{ca J j:Ex}{a b:A}(h1:ca τ S=.ok a S)(L:J τ S=.ok b S)(U:f a b S=.ok (.bl true) S)(Z:j τ S=.ok c S):AY f g ca J j τ S=g b c S:=by
 unfold AY;rw[h1,R.kO,L,R.kO,U,R.kO];unfold Zj;show(j τ S).bind _=_;rw[Z];rfl
def UE{x:Str}{c:Nat}(hz:z=⟨#[c]⟩):qJ (.str x) [.str z] S=.ok (.bl<|(C x).head? == some c) S:=by
 subst hz;show R.ok (A.bl<|decide (0+_<=_) && Builtin.Str.subAt x ⟨#[c]⟩ 0) S=_;have e:=Sp.BH x c 0
 cases f:C x with
 | nil=>
  have l:x.length=0:=by rw[Sp.size_eq];show(C x).length=0;rw[f];rfl
  rw[aI<|by rw[Sp.xO,l];decide];rfl
 | cons d l=>
  have g:1<=x.length:=by rw[Sp.size_eq];show 1<=(C x).length;rw[f,aR];omega
  rw[aJ<|by rw[Sp.xO];omega,cO];have e:Builtin.Str.subAt x ⟨#[c]⟩ 0=true ↔ (C x)[0]?=some c:=e;rw[f]at e;have e:Builtin.Str.subAt x ⟨#[c]⟩ 0=true ↔ d=c:=e.trans ⟨λz=>aU z,λz=>cg some z⟩;show R.ok (A.bl<|Builtin.Str.subAt x ⟨#[c]⟩ 0) S=R.ok (A.bl<|some d == some c) S;by_cases q:d=c
  ·rw[e.mpr q,q,bx]
  ·rw[dU.mpr λz=>q<|e.mp z,bw.mpr λz=>q<|aU z]
def qp{x:Str}:mJ false (.str x) (.str y) S=.ok (.bl<|x == y) S:=yX (k:=x == y) rfl
def Fj{x:Str}:mJ true (.str x) (.str y) S=.ok (.bl<|!(x == y)) S:=by unfold mJ;rfl
open Pt (C qx term tQ sg tp rX pT R0 pH tF dg)
def NU{f g:A->A->jL->Am.R A}{ca j J:Ex}{a b:A}(h1:ca τ S=.ok a S)(L:j τ S=.ok b S)(U:f a b S=.ok (.bl false) S):AY f g ca j J τ S=.ok (.bl false) S:=by
 unfold AY;rw[h1,R.kO,L,R.kO,U,R.kO];rfl
structure Pl (x:Str):Prop where
 as:∀c∈C x,c<128
 le:x.length<=1000
def Pl.cps{x:Str}(h:Pl x):x.cps.all (· < 128)=true:=by
 rw[<- Array.all_toList,cV];exact λc hc=>aJ<|h.as c hc
def kK(x:Str):(C x).length=x.length:=(Sp.size_eq x).symm
def Jb{x:Str}(h:Pl x):mw (.str x) S=.ok (.int x.length) S:=j9 (by rw[bB];have:=h.le;omega)
def OE:∀c:Nat,c<128->¬(48<=c/\c<=57)->(Builtin.Str.occurrences (Str.ofString "0123456789") ⟨#[c]⟩ 0 (Str.ofString "0123456789").length 1).isEmpty=true:=by decide +kernel
def Wl{c:Nat}(h:c<128):Ja (.str ⟨#[c]⟩) (.str<|PySem.Str.ofString "0123456789") S=.ok (.bl<|decide<|48<=c/\c<=57) S:=by
 show R.ok (A.bl<|!(Builtin.Str.occurrences (Str.ofString "0123456789") ⟨#[c]⟩ 0 (Str.ofString "0123456789").length 1).isEmpty) S=_;by_cases q:48<=c/\c<=57
 ·rw[Sp.Yu c (by omega) q.1,aJ q];rfl
 ·rw[OE c h q,aI q];rfl
abbrev Y0 (y:A):A:=match y with
 | .str z=>.bl ((C z).all λc=>decide<|48<=c/\c<=57)
 | _=>.non
def Fc{S:jL}{x:Str}(h:Pl x):kI [none] (mL<|jE 0) (kB 0) kR (jJ Ja (jE 0)<|eC<|.str<|PySem.Str.ofString "0123456789") [.str x] S=.ok (.ref S.length) (S++[O.lst<|((C x).map λc=>decide<|48<=c/\c<=57).map .bl]):=by
 have d:=zP (cap:=[]) (src:=mL<|jE 0) (e:=jJ Ja (jE 0)<|eC<|.str<|PySem.Str.ofString "0123456789") (τ:=[.str x]) (S:=S) (S1:=S) (xs:=x.cps.toList.map λc=>A.str ⟨#[c]⟩) (RH (by dsimp[j3,bools]) h.cps) Y0 (λy hy=>by
  obtain⟨c,hc,rfl⟩:=cj.mp hy;have e:=Wl (S:=S)<|h.as c hc;dsimp[j3,bools,e];show R.ok (A.bl _) S=R.ok (A.bl<|decide (48<=c/\c<=57) && true) S;rw[iD]) (by rw[aK,bJ];have:=h.le;show x.length<=_;omega)
 rw[d,bL,bL];have:(C x).map (Y0 ∘ λc=>A.str ⟨#[c]⟩)=(C x).map (A.bl ∘ λc=>decide<|48<=c/\c<=57):=gf λc _=>by
  show A.bl (decide (48<=c/\c<=57) && true)=A.bl _;rw[iD]
 rw[this]
theorem PV:∀(bs:List Bool),A.EE (bs.map A.bl)=some bs
 | []=>rfl
 | b::bs=>by
  show(A.EE<|bs.map A.bl).map _=_;rw[PV bs];rfl
def vP{S:jL}{bs:List Bool}:wO (.ref S.length) (S++[O.lst<|bs.map .bl])=.ok (.bl<|bs.all λb=>b) (S++[O.lst<|bs.map .bl]):=Mq jT<|PV bs
theorem all_map{α:Type}(p:α->Bool):∀(l:List α),((l.map p).all λb=>b)=l.all p
 | []=>rfl
 | a::l=>by rw[bP,gq,gq,all_map p l]
def JB{x:Str}(h:Pl x):AY Ay Ay (eC<|.int 1) (jV (f1 mw)<|jC (jE 0) jK) (eC<|.int 30) (.str x::τ) S=.ok (.bl<|decide<|1<=(C x).length/\(C x).length<=30) S:=by
 rw[kK];have f:mw (.str x) S=.ok (.int x.length) S:=Jb h;by_cases h1:1<=x.length
 ·rw[KR (a:=.int 1) (b:=.int x.length) (c:=.int 30) rfl (by dsimp[j3,bools,f]) (by dsimp[j3,aJ<|show(1:Int)<=(x.length:Int)by omega]) rfl];by_cases d:x.length<=30
  ·dsimp[j3,aJ<|show(x.length:Int)<=30 by omega,aJ<|show 1<=x.length/\x.length<=30 from⟨h1,d⟩]
  ·dsimp[j3,aI<|show ¬(x.length:Int)<=30 by omega,aI<|show ¬(1<=x.length/\x.length<=30)from λz=>d z.2]
 ·rw[NU (a:=.int 1) (b:=.int x.length) rfl (by dsimp[j3,bools,f])<|by dsimp[j3,aI<|show ¬(1:Int)<=(x.length:Int)by omega],aI<|show ¬(1<=x.length/\x.length<=30)from λz=>h1 z.1]
def Ll {m:Nat}{S:jL}(h:m<10 ^ 30):mG (.str<|Tx.tx m) S=.ok (.int (m:Int)) S:=by
 have d:(Tx.tx m).length<=30:=by rw[<- kK,Pt.vW];exact Pt.yZ h
 show opt (PySem.intText?<|Tx.tx m) _=_;rw[Pt.reads h,kD];exact Wm<|by omega
def eq_0{x:Str}:(x == PySem.Str.ofString "0")=decide (C x=[48]):=by
 by_cases h:x=PySem.Str.ofString "0"
 ·subst h;decide +kernel
 ·rw[bw.mpr h,aI λz=>h<|Pt.ext<|by rw[z];decide +kernel]
def OF{x:Str}(h:Pl x):(∃m S',m<10 ^ 30/\x=Tx.tx (m:Nat)/\kg [.str x] S=.ok (.int (m:Int)) S'/\lH S S')\/(Pn.lA (C x)=false/\∃S',kg [.str x] S=.ex "NoText" S'/\lH S S'):=by
 have kT:lH S (S++[O.lst<|((C x).map λc=>decide<|48<=c/\c<=57).map .bl]):=Kp.refl.lay;obtain⟨T,p⟩:∃T,T=S++[O.lst<|((C x).map λc=>decide<|48<=c/\c<=57).map .bl]:=⟨_,rfl⟩;have f:=Fc (S:=S) h;have d:=vP (S:=S) (bs:=(C x).map λc=>decide<|48<=c/\c<=57);rw[<- p]at f d kT;rw[all_map]at d;have g:=JB (S:=S) (τ:=[]) h;have st:=UE (x:=x) (c:=48) (z:=PySem.Str.ofString "0") (S:=T) ∅;have j:mJ true (.str x) (.str<|PySem.Str.ofString "0") T=.ok (.bl<|!decide (C x=[48])) T:=by rw[Fj,eq_0]
 unfold kg qY rP;by_cases c1:1<=(C x).length/\(C x).length<=30
 ·by_cases c2:((C x).all λc=>decide<|48<=c/\c<=57)=true
  ·by_cases c3:(C x).head?=some 48/\C x≠[48]
   ·right;refine⟨?_,T,?_,kT⟩
    ·unfold Pn.lA;rw[aJ c3.1,aJ c3.2,iD,bg,fu]
    ·dsimp[j3,lC,bools,kj,Nat.reduceAdd,Nat.reduceSub,g,aJ c1,bg,f,d,c2,kH,n8,st,c3.1,bx,j,aI c3.2,bA]
   ·left;have num:Pn.lA (C x)=true:=by
     unfold Pn.lA;rw[aJ c1,c2];by_cases q:(C x).head?=some 48
     ·have:C x=[48]:=d_ λz=>c3 ⟨q,z⟩;rw[aI<|show ¬C x≠[48]from λz=>z this,fu];rfl
     ·rw[aI q];rfl
    obtain⟨m,k,e⟩:=Pn.BA num;refine⟨m,T,k,e,?_,kT⟩;have it:=Ll (S:=T) k;rw[<- e]at it;by_cases q:(C x).head?=some 48
    ·have z:C x=[48]:=d_ λz=>c3 ⟨q,z⟩;dsimp[j3,lC,bools,kj,Nat.reduceAdd,Nat.reduceSub,g,aJ c1,bg,f,d,c2,kH,n8,st,q,bx,j,aJ z,it]
    ·have q':((C x).head? == some 48)=false:=bw.mpr q;dsimp[j3,lC,bools,kj,Nat.reduceAdd,Nat.reduceSub,g,aJ c1,bg,f,d,c2,kH,n8,st,q',it]
  ·right;have c2:=dU.mpr c2;refine⟨by unfold Pn.lA;rw[c2,fu,cT],T,?_,kT⟩;dsimp[j3,lC,bools,kj,Nat.reduceAdd,Nat.reduceSub,g,aJ c1,bg,f,d,c2,bA]
 ·right;refine⟨by unfold Pn.lA;rw[aI c1,cT,cT],S,?_,Kp.refl⟩;dsimp[j3,lC,bools,kj,Nat.reduceAdd,Nat.reduceSub,g,aI c1,bA]
def SM{α:Type}(c:α)(l:List α):qE (c::l) 0=some c:=by
 unfold qE;have e:z9 (c::l).length 0=some 0:=zQ (k:=0) rfl (by rw[aR];omega);rw[e];rfl
def Wt{x:Str}{c:Nat}(h:Pl x)(e:C x=c::l):oJ (.str x) (.int 0) S=.ok (.str ⟨#[c]⟩) S:=by
 show gd _ (opt (qE x.cps.toList 0) _)=_;rw[j9 (by rw[bB];have:=h.le;omega),show x.cps.toList=c::l from e,SM];rfl
def Mn{x:Str}(h:Pl x):(∃m S',m<10 ^ 30/\x=Tx.tx (m:Nat)/\ki [.str x] S=.ok (.int (m:Int)) S'/\lH S S')\/(Pn.lA (C x)=false/\∃S',ki [.str x] S=.ok .non S'/\lH S S'):=by
 have kT:lH S (S++[O.lst<|((C x).map λc=>decide<|48<=c/\c<=57).map .bl]):=Kp.refl.lay;obtain⟨T,F⟩:∃T,T=S++[O.lst<|((C x).map λc=>decide<|48<=c/\c<=57).map .bl]:=⟨_,rfl⟩;have f:=Fc (S:=S) h;have d:=vP (S:=S) (bs:=(C x).map λc=>decide<|48<=c/\c<=57);rw[<- F]at f d kT;rw[all_map]at d;have g:=JB (S:=S) (τ:=[]) h;have j:mw (.str x) T=.ok (.int x.length) T:=Jb h;unfold ki qP rO;by_cases c1:1<=(C x).length/\(C x).length<=30
 ·by_cases c2:((C x).all λc=>decide<|48<=c/\c<=57)=true
  ·obtain⟨c,l,e⟩:∃c l,C x=c::l:=by
    cases e:C x with
    | nil=>rw[e]at c1;exact absurd c1.1 ⋯
    | cons c l=>exact⟨c,l,rfl⟩
   have G:x.length=l.length+1:=by rw[<- kK,e];rfl
   have a0:=Wt (S:=T) h e;have p:mJ false (.str ⟨#[c]⟩) (.str<|PySem.Str.ofString "0") T=.ok (.bl<|decide<|c=48) T:=by
    rw[qp,eq_0];show R.ok (A.bl<|decide<|[c]=[48]) T=_;by_cases q:c=48
    ·rw[q];rfl
    ·rw[aI q,aI λz=>q (cD z).1]
   by_cases c3:1<x.length/\c=48
   ·right;refine⟨?_,T,?_,kT⟩
    ·unfold Pn.lA;rw[e,aJ<|show(c::l).head?=some 48 by rw[c3.2];rfl,aJ (show c::l≠[48]from λz=>by have:=cg List.length z;rw[aR]at this;have:l.length+1=1:=this;omega),iD,bg,fu]
    ·dsimp[j3,bools,kj,Nat.reduceAdd,Nat.reduceSub,g,aJ c1,bg,f,d,c2,j,aJ<|show(x.length:Int)>1 by omega,a0,p,aJ c3.2]
   ·left;have num:Pn.lA (C x)=true:=by
     unfold Pn.lA;rw[aJ c1,c2,e];by_cases q:c=48
     ·have:l=[]:=cH.1 (by have:¬1<x.length:=λz=>c3 ⟨z,q⟩;omega);rw[this,q];rfl
     ·rw[aI<|show ¬(c::l).head?=some 48 from λz=>q<|aU z];rfl
    obtain⟨m,k,ex⟩:=Pn.BA num;refine⟨m,T,k,ex,?_,kT⟩;have it:=Ll (S:=T) k;rw[<- ex]at it;by_cases q:1<x.length
    ·have B:¬c=48:=λz=>c3 ⟨q,z⟩;dsimp[j3,bools,kj,Nat.reduceAdd,Nat.reduceSub,g,aJ c1,bg,f,d,c2,j,aJ<|show(x.length:Int)>1 by omega,a0,p,aI B,it]
    ·dsimp[j3,bools,kj,Nat.reduceAdd,Nat.reduceSub,g,aJ c1,bg,f,d,c2,j,aI<|show ¬(x.length:Int)>1 by omega,it]
  ·right;have c2:=dU.mpr c2;refine⟨by unfold Pn.lA;rw[c2,fu,cT],T,?_,kT⟩;dsimp[j3,bools,kj,Nat.reduceAdd,Nat.reduceSub,g,aJ c1,bg,f,d,c2,bA]
 ·right;refine⟨by unfold Pn.lA;rw[aI c1,cT,cT],S,?_,Kp.refl⟩;dsimp[j3,bools,kj,Nat.reduceAdd,Nat.reduceSub,g,aI c1,bA]
end K83
namespace K83
open PySem L2 Am
theorem zo{s:Src}{g:Tg}{e:Ex}{T:ae->Prop}{cl:Str}(it:Nat->A)(p:Nat->Bool)(f:Nat->A)(J:∀i S,i<s.k->lH S1 S->s.get i S=some (it i))(L:∀S,lH S1 S->s.fin S=true)
  (step:∀i τ S,i<s.k->T τ->lH S1 S->∃τ1,g (it i) τ S=.ok τ1 S/\T τ1/\(p i=true->∃S',e τ1 S=.ok (f i) S'/\lH S S')/\(p i=false->∃S',e τ1 S=.ex cl S'/\lH S S')) :
  ∀k i τ S,k+i=s.k->T τ->lH S1 S->((List.range' i k).all p=true->∃S',nk s g kR e k i τ S=.ok ((List.range' i k).map f) S'/\lH S1 S')/\((List.range' i k).all p=false->∃S',nk s g kR e k i τ S=.ex cl S'/\lH S1 S')
 | 0,i,τ,S,hk,hT,hP=>⟨λ_=>⟨S,by unfold nk;rw[aQ<|L S hP];rfl,hP⟩,λh=>by cases h⟩
 | k+1,i,τ,S,hk,hT,hP=>by
  obtain⟨τ1,hg,j,h1,C⟩:=step i τ S () hT hP;have e0:nk s g kR e (k+1) i τ S=(e τ1 S).bind λy F=>(nk s g kR e k (i+1) τ1 F).bind λys d=>.ok (y::ys) d:=by
   conv=>lhs;unfold nk
   rw[J i S () hP,kD,hg,R.kY];rfl
  rw[e0,fO,gq,bP]
  cases hp:p i with
  | false=>
   obtain⟨S',e1,k1⟩:=C hp;refine⟨λz=>(by cases z),λ_=>⟨S',by rw[e1];rfl,hP.trans k1⟩⟩
  | true=>
   obtain⟨S',e1,k1⟩:=h1 hp;obtain⟨r1,r2⟩:=zo it p f J L step k (i+1) τ1 S' () j<|hP.trans k1;rw[cO];refine⟨λz=>?_,λz=>?_⟩
   ·obtain⟨d,B,m⟩:=r1 z;exact⟨d,by rw[e1,R.kO,B];rfl,m⟩
   ·obtain⟨d,B,m⟩:=r2 z;exact⟨d,by rw[e1,R.kO,B];rfl,m⟩
def Jc{n:Nat}{xs:ae}{src:Ic}{e:Ex}{cl:Str}(hs:src τ S=.ok (lW n xs.length) S1)(J:jF S1 n=some xs)(p:A->Bool)(f:A->A)
  (step:∀x∈xs,∀T,lH S1 T->(p x=true->∃T',e (x::mH cap τ) T=.ok (f x) T'/\lH T T')/\(p x=false->∃T',e (x::mH cap τ) T=.ex cl T'/\lH T T')) (L:xs.length<=16777216) :
  (xs.all p=true->∃S',rg (none::cap) src (kB 0) kR e τ S=.ok (.ref S'.length) (S'++[.lst<|xs.map f])/\lH S1 S')/\(xs.all p=false->∃S',rg (none::cap) src (kB 0) kR e τ S=.ex cl S'/\lH S1 S'):=by
 have m:∀i,i<xs.length->xs.getD i .unb∈xs:=λi hi=>by
  rw[aN,aH hi];exact cJ hi
 obtain⟨r1,r2⟩:=zo (s:=lW n xs.length) (g:=kB 0) (e:=e) (cl:=cl) (S1:=S1) (T:=λd=>∃y,d=y::mH cap τ) (λi=>xs.getD i .unb) (λi=>p<|xs.getD i .unb) (λi=>f<|xs.getD i .unb)
  (λi T hi k=>by
   have hi:i<xs.length:=hi;show(jF T n).bind _=_;rw[k.lst _ _ (λz=>z) J,bH,aN,aH hi];rfl)
  (λT k=>by
   show(match jF T n with
    | some ys=>decide (ys.length<=xs.length)
    | none=>false)=true
   rw[k.lst _ _ (λz=>z) J];exact aJ<|aP _)
  (λi d T hi ⟨y,hy⟩ k=>by
   subst hy;exact⟨xs.getD i .unb::mH cap τ,rfl,⟨_,rfl⟩,step _ (m i hi) T k⟩) xs.length 0 (mH (none::cap) τ) S1 rfl ⟨_,rfl⟩ Kp.refl
 have e0:rg (none::cap) src (kB 0) kR e τ S=gd (xs.length<=sizeLine) ((nk (lW n xs.length) (kB 0) kR e xs.length 0 (mH (none::cap) τ) S1).bind λys B=>.ok (.ref B.length)<|B++[.lst ys]):=by
  unfold rg;rw[hs,R.kO];rfl
 have F:(List.range' 0 xs.length).all (λi=>p<|xs.getD i .unb)=xs.all p:=by
  rw[<- cW];have:=nW xs (λ_=>true) id .unb;rw[Bool.eq_iff_iff,cV,cV];constructor
  ·intro h x j;obtain⟨i,hi,rfl⟩:=iH.1 j;have:=h i<|dF.2 hi;rw[aN,aH hi]at this;exact this
  ·intro h i hi;exact h _<|m i<|dF.1 hi
 have C:(List.range' 0 xs.length).map (λi=>f<|xs.getD i .unb)=xs.map f:=by
  rw[<- cW];refine jk (by simp) λi h1 G=>?_;have hi:i<xs.length:=by simpa using h1
  simp[aN,aH hi]
 rw[F]at r1 r2;rw[C]at r1;rw[e0,j9<|show xs.length<=sizeLine by rw[bB];exact L];refine⟨λz=>?_,λz=>?_⟩
 ·obtain⟨S',e1,k1⟩:=r1 z;exact⟨S',by rw[e1];rfl,k1⟩
 ·obtain⟨S',e1,k1⟩:=r2 z;exact⟨S',by rw[e1];rfl,k1⟩
def Pg{s:Src}{xs:ae}{src:Ic}{t:Te}{e:Ex}(hs:src τ S=.ok s S1)(L:s.k=xs.length)(b:Nat->Prop)(hg:∀T,Kp b S1 T->∀i:Nat,i<xs.length->s.get i T=xs[i]?)(J:∀T,Kp b S1 T->s.fin T=true)(p:A->Bool)(f:A->A)
  (step:∀x∈xs,∀T,Kp b S1 T->∃T1,t (x::mH cap τ) T=.ok (p x) T1/\Kp b T T1/\(p x=true->∃T2,e (x::mH cap τ) T1=.ok (f x) T2/\Kp b T1 T2)) (U:xs.length<=16777216) :
  ∃S',kI (none::cap) src (kB 0) t e τ S=.ok (.ref S'.length) (S'++[.lst<|(xs.filter p).map f])/\Kp b S1 S':=by
 have j:∀i,i<xs.length->xs.getD i .unb∈xs:=λi hi=>by
  rw[aN,aH hi];exact cJ hi
 obtain⟨S',h1,m⟩:=sQ (s:=s) (g:=kB 0) (t:=t) (e:=e) (P:=λT=>Kp b S1 T) (T:=λd=>∃y,d=y::mH cap τ) (λi=>xs.getD i .unb) (λi=>p<|xs.getD i .unb) (λi=>f<|xs.getD i .unb) (λi T hi h=>by
   rw[L]at hi;rw[hg T h i hi,aN,aH hi];rfl) J
  (λi d T hi hy h=>by
   obtain⟨y,rfl⟩:=hy;rw[L]at hi;obtain⟨T1,e1,k1,q⟩:=step _ (j i hi) T h;refine⟨xs.getD i .unb::mH cap τ,T,T1,rfl,e1,⟨_,rfl⟩,λ_=>h.trans k1,λhp=>?_⟩;obtain⟨T2,e2,k2⟩:=q hp;exact⟨T2,e2,(h.trans k1).trans k2⟩) s.k 0 (mH (none::cap) τ) S1 rfl ⟨_,rfl⟩ Kp.refl
 refine⟨S',?_,m⟩;unfold kI;rw[hs,R.kO,h1,R.kY,L,<- cW,nW xs p f .unb];refine lg ?_;rw[aK];exact cK (List.length_filter_le _ _) U
def Gz{n:Nat}{xs:ae}{src:Ic}{t:Te}{e:Ex}(hs:src τ S=.ok (lW n xs.length) S1)(j:jF S1 n=some xs)(p:A->Bool)(f:A->A)
  (step:∀x∈xs,∀T,lH S1 T->∃T1,t (x::mH cap τ) T=.ok (p x) T1/\lH T T1/\(p x=true->∃T2,e (x::mH cap τ) T1=.ok (f x) T2/\lH T1 T2)) (J:xs.length<=16777216) :
  ∃S',kI (none::cap) src (kB 0) t e τ S=.ok (.ref S'.length) (S'++[.lst<|(xs.filter p).map f])/\lH S1 S':=
 Pg hs rfl _ (λT k i _=>by show(jF T n).bind _=_;rw[k.lst _ _ (λz=>z) j];rfl) (λT k=>by
  show(match jF T n with
   | some ys=>decide (ys.length<=xs.length)
   | none=>false)=true
  rw[k.lst _ _ (λz=>z) j];exact aJ<|aP _) p f step J
open Pt (C qx term tQ sg tp rX pT R0 pH tF dg)
abbrev pP (x:Str):ba:=Txt.split x ⟨#[32]⟩
theorem xY(c:Nat):∀(l cur:ar),(∀t∈Sp.ni c cur l,(∀d∈t,d∈cur\/d∈l)/\t.length<=cur.length+l.length)/\(Sp.ni c cur l).length<=l.length+1/\Sp.ni c cur l≠[]
 | [],cur=>⟨λt f=>by
   have:t=cur:=aX.1 f;subst this;exact⟨λd hd=>.inl hd,aP _⟩,aP _,λz=>by cases z⟩
 | d::l,cur=>by
  have e:Sp.ni c cur (d::l)=if d=c then cur::Sp.ni c [] l else Sp.ni c (cur++[d]) l:=rfl
  rw[e];by_cases h:d=c
  ·rw[aQ h];obtain⟨a,b,_⟩:=xY c l [];refine⟨λt f=>?_,by rw[aR,aR];omega,λz=>by cases z⟩
   rcases bf.1 f with z|z
   ·subst z;exact⟨λd hd=>.inl hd,by omega⟩
   ·obtain⟨k,g⟩:=a t z;refine⟨λj hd=>.inr ?_,by rw[aR];rw[iM]at g;omega⟩
    rcases k j hd with q|q
    ·cases q
    ·exact aS _ q
  ·rw[aO h];obtain⟨a,b,n⟩:=xY c l<|cur++[d];refine⟨λt f=>?_,by rw[aR];omega,n⟩;obtain⟨k,g⟩:=a t f;refine⟨λj hd=>?_,by rw[aV,fB]at g;rw[aR];omega⟩
   rcases k j hd with q|q
   ·rcases bF.1 q with q|q
    ·exact .inl q
    ·exact .inr<|by rw[aX.1 q];exact aT ..
   ·exact .inr<|aS _ q
def Of(x:Str):pP x=(Sp.ni 32 []<|C x).map Sp.mk:=by
 by_cases h:1<=x.length
 ·exact Sp.DQ x ⋯ h
 ·have e:C x=[]:=cH.1 (by rw[kK];omega);have:x=Sp.mk []:=Pt.ext (by rw[e];rfl);rw[this];decide +kernel
def pV{x:Str}(h:Pl x):(∀t∈pP x,Pl t)/\(pP x).length<=x.length+1/\pP x≠[]:=by
 rw[Of];obtain⟨a,b,n⟩:=xY 32 (C x) [];refine⟨λt d=>?_,by rw[aK,<- kK];exact b,λz=>n<|List.map_eq_nil_iff.1 z⟩;obtain⟨l,j,rfl⟩:=cj.1 d;obtain⟨g,f⟩:=a l j;refine⟨λc hc=>?_,?_⟩
 ·rcases g c hc with q|q
  ·cases q
  ·exact h.as c q
 ·have:=h.le;rw[iM,kK]at f;rw[<- kK];show l.length<=_;omega
def Cz{x:Str}{S:jL}(h:Pl x):rT (.str x) [.str<|PySem.Str.ofString " "] S=.ok (.ref S.length) (S++[O.lst<|(pP x).map .str]):=by
 have e:PySem.Str.ofString " " = ⟨#[32]⟩:=by decide +kernel
 have:=(pV h).2.1;have:=h.le;rw[e];refine j9 ⟨by decide,by rw[bB];omega,?_⟩;show(pP x).length<=sizeLine;rw[bB];omega
abbrev nv (x:Str):Int:=(PySem.intText? x).getD 0
def Dl {m:Nat}(h:m<10 ^ 30):nv (Tx.tx m)=m:=by unfold nv;rw[Pt.reads h];rfl
abbrev pN (y:A):Bool:=match y with
 | .str z=>Pn.lA (C z)
 | _=>false
abbrev fN (y:A):A:=match y with
 | .str z=>.int (nv z)
 | _=>.non
abbrev fL (y:A):A:=match y with
 | .str z=>if Pn.lA (C z)=true then .int (nv z)else .non
 | _=>.non
def QT{x:Str}(h:Pl x):(Pn.lA (C x)=true->∃S',kg [.str x] S=.ok (.int<|nv x) S'/\lH S S')/\(Pn.lA (C x)=false->∃S',kg [.str x] S=.ex "NoText" S'/\lH S S'):=by
 rcases OF (S:=S) h with⟨m,S',d,ex,e,k⟩|⟨n,S',e,k⟩
 ·refine⟨λ_=>⟨S',by rw[e,ex,Dl d],k⟩,λz=>?_⟩;rw[ex,Pn.BY d]at z;cases z
 ·exact⟨λz=>(by rw[n]at z;cases z),λ_=>⟨S',e,k⟩⟩
def LL{x:Str}(h:Pl x):∃S',ki [.str x] S=.ok (fL<|.str x) S'/\lH S S':=by
 rcases Mn (S:=S) h with⟨m,S',d,ex,e,k⟩|⟨n,S',e,k⟩
 ·refine⟨S',?_,k⟩;have:fL (.str x)=.int (m:Int):=by
   show(if Pn.lA (C x)=true then A.int (nv x)else .non)=_;rw[ex,aQ<|Pn.BY d,Dl d]
  rw[e,this]
 ·refine⟨S',?_,k⟩;have:fL (.str x)=.non:=aO (by rw[n];exact bh);rw[e,this]
abbrev okN (x:Str):Bool:=(pP x).all λt=>Pn.lA<|C t
abbrev vals (x:Str):ag:=(pP x).map nv
def AZ{x:Str}{S:jL}(h:Pl x):mL (yV rT (jE 0)<|jC (eC<|.str<|PySem.Str.ofString " ") jK) (.str x::τ) S=.ok (lW S.length ((pP x).map A.str).length) (S++[O.lst<|(pP x).map .str]):=by
 have sp:=Cz (S:=S) h;refine rq (S:=S) ?_ jT;dsimp[j3,bools,kH,n8,sp]
def Gd{S:jL}{x:Str}(h:Pl x):(okN x=true->∃(W:Nat) (S':jL),k6 [.str x] S=.ok (.ref W) S'/\jF S' W=some ((vals x).map .int)/\lH S S'/\S.length<=W)/\(okN x=false->∃S',k6 [.str x] S=.ex "NoText" S'/\lH S S'):=by
 obtain⟨pl,B,_⟩:=pV h;have p:=h.le;have k0:lH S (S++[O.lst<|(pP x).map .str]):=Kp.refl.lay;obtain⟨r1,r2⟩:=Jc (cl := "NoText") (cap:=[]) (src:=mL<|yV rT (jE 0)<|jC (eC<|.str<|PySem.Str.ofString " ") jK) (e:=qw kg<|jC (jE 0) jK) (τ:=[.str x]) (AZ (S:=S) (τ:=[]) h) jT pN fN (λy hy T k=>by
  obtain⟨t,g,rfl⟩:=cj.1 hy;obtain⟨a,b⟩:=QT (S:=T)<|pl t g;refine⟨λz=>?_,λz=>?_⟩
  ·obtain⟨f,e,d⟩:=a z;exact⟨f,by dsimp[j3,lC,bools,e];rfl,d⟩
  ·obtain⟨f,e,d⟩:=b z;exact⟨f,by dsimp[j3,lC,bools,e],d⟩)<|by rw[aK];omega
 have m:((pP x).map A.str).all pN=okN x:=by unfold okN;rw[List.all_map];rfl
 have j:((pP x).map A.str).map fN=(vals x).map .int:=by unfold vals;rw[bL,bL];rfl
 rw[m]at r1 r2;rw[j]at r1;unfold k6 qo qt;refine⟨λz=>?_,λz=>?_⟩
 ·obtain⟨S',e,k⟩:=r1 z;have d:=k0.trans k;exact⟨_,S'++[O.lst<|(vals x).map .int],by dsimp[j3,lC,bools,kj,Nat.reduceAdd,Nat.reduceSub,e],jT,d.lay,d.len⟩
 ·obtain⟨S',e,k⟩:=r2 z;exact⟨S',by dsimp[j3,lC,bools,kj,Nat.reduceAdd,Nat.reduceSub,e],k0.trans k⟩
end K83
namespace K83
open PySem L2 Am
open Pt (C qx term tQ sg tp rX pT R0 pH tF dg)
def Ox{i:Int}:nG [.int i] S=.ok (.bl true) S:=by
 unfold nG vQ vO;dsimp[j3,bools,kj,Nat.reduceAdd,Nat.reduceSub,show zX .int "int" = some true from rfl,show zX .int "bool" = some false from rfl,bA]
abbrev E_ (ns:ag):Bool:=decide (1<=ns.length/\ns.length<=20) && decide (sortI ns=lE 1 ((ns.length:Int)+1))
def Uw{S:jL}{ns:ag}(h:ns.length<64):zg (.tup<|ns.map .int) S=.ok (.ref S.length) (S++[O.lst<|(sortI ns).map .int]):=by
 show opt (some<|ns.map A.int) _=_;rw[kD,ints_map,kD];exact j9 h
def Th{S:jL}{n:Nat}{ns:ag}(hn:jF S n=some (ns.map .int))(h:ns.length<64):zg (.ref n) S=.ok (.ref S.length) (S++[O.lst<|(sortI ns).map .int]):=by
 show opt (jF S n) _=_;rw[hn,kD,ints_map,kD];exact j9 h
def Vh{ns:ag}(J:ns.length<=2000):∃S',qu [.tup<|ns.map .int] S=.ok (.bl<|E_ ns) S'/\lH S S':=by
 unfold qu vZ vq E_;by_cases h1:1<=ns.length/\ns.length<=20
 ·have w:=zP (cap:=[]) (src:=mL<|jE 0) (e:=eFn nG<|jC (jE 0) jK) (τ:=[.tup<|ns.map .int]) (S:=S) (S1:=S) (xs:=ns.map A.int) (JQ<|by dsimp[j3,bools]) (λ_=>.bl true) (λy hy=>by
   obtain⟨i,_,rfl⟩:=cj.1 hy;dsimp[j3,bools,Ox])<|by rw[aK];omega
  obtain⟨T,d⟩:∃T,T=S++[O.lst<|(ns.map A.int).map λ_=>A.bl true]:=⟨_,rfl⟩;have f:wO (.ref S.length) T=.ok (.bl true) T:=by rw[d];exact O6
  rw[<- d]at w;have kT:lH S T:=by rw[d];exact Kp.refl.lay
  have so:=Uw (S:=T) (ns:=ns) (by omega);have g:mJ false (.ref T.length) (.ref (T++[O.lst<|(sortI ns).map A.int]).length) (T++[O.lst<|(sortI ns).map A.int]++[O.lst<|(lE 1<|(ns.length:Int)+1).map A.int])=.ok (.bl<|decide<|sortI ns=lE 1 ((ns.length:Int)+1)) (T++[O.lst<|(sortI ns).map A.int]++[O.lst<|(lE 1<|(ns.length:Int)+1).map A.int]):=
   yX (Hi (k_ jT) jT)
  refine⟨T++[O.lst<|(sortI ns).map A.int]++[O.lst<|(lE 1<|(ns.length:Int)+1).map A.int],?_,kT.lay.lay⟩;dsimp[j3,bools,kj,Nat.reduceAdd,Nat.reduceSub,show zX Kd.tup "tuple" = some true from rfl,bg,aK,aI<|show ¬(ns.length:Int)<1 by omega,aI<|show ¬(20:Int)<(ns.length:Int)by omega,w,f,so,se<|uF (show(-1000000:Int)<=1 by decide) ⋯ (show(-1000000:Int)<=(ns.length:Int)+1 by omega) (by omega) (by omega),g,aJ h1,cO]
 ·rw[aI h1,cT];refine⟨S,?_,Kp.refl⟩;by_cases j:ns.length<1
  ·dsimp[j3,bools,kj,Nat.reduceAdd,Nat.reduceSub,show zX Kd.tup "tuple" = some true from rfl,bg,aK,aJ<|show(ns.length:Int)<1 by omega]
  ·dsimp[j3,bools,kj,Nat.reduceAdd,Nat.reduceSub,show zX Kd.tup "tuple" = some true from rfl,bg,aK,aI<|show ¬(ns.length:Int)<1 by omega,aJ<|show(20:Int)<(ns.length:Int)by omega]
def t7(x:Str):(vals x).length=(pP x).length:=aK ..
abbrev Je (x:Str):Bool:=okN x && E_ (vals x)
def Hj{x:Str}(h:Pl x):(Je x=true->∃S',mV [.str x] S=.ok (.tup<|(vals x).map .int) S'/\lH S S')/\(Je x=false->∃S',mV [.str x] S=.ex "NoText" S'/\lH S S'):=by
 have m:=h.le;have p:=(pV h).2.1;obtain⟨r1,r2⟩:=Gd (S:=S) h;unfold mV sI sC Je
 cases j:okN x with
 | false=>
  obtain⟨S',e,k⟩:=r2 j;refine⟨λz=>(by cases z),λ_=>⟨S',?_,k⟩⟩;dsimp[j3,lC,bools,kj,Nat.reduceAdd,Nat.reduceSub,e]
 | true=>
  obtain⟨W,S1,e,g,k,_⟩:=r1 j;obtain⟨d,e2,k2⟩:=Vh (S:=S1) (ns:=vals x) (by rw[t7];omega);rw[cO];have f:qj (.ref W) S1=.ok (.tup<|(vals x).map .int) S1:=by dsimp[j3,bools,g]
  refine⟨λz=>⟨d,?_,k.trans k2⟩,λz=>⟨d,?_,k.trans k2⟩⟩
  ·rw[z]at e2;dsimp[j3,lC,bools,kj,Nat.reduceAdd,Nat.reduceSub,e,f,e2,bg]
  ·rw[z]at e2;dsimp[j3,lC,bools,kj,Nat.reduceAdd,Nat.reduceSub,e,f,e2,bA]
theorem Lq:∀(l:ba),Ro S .non ((l.map A.str).map fL)=some (!(l.all λt=>Pn.lA<|C t))
 | []=>rfl
 | t::l=>by
  rw[bP,bP,gq];have e:wU S 12 (fL<|.str t) .non=some (!Pn.lA (C t)):=by
   show wU S 12 (if Pn.lA (C t)=true then A.int (nv t)else .non) .non=_
   cases Pn.lA (C t)with
   | true=>rw[aQ rfl];rfl
   | false=>rw[aO bh];rfl
  show(wU S 12 (fL<|.str t) .non).bind (λp=>(Ro S .non<|(l.map A.str).map fL).map λq=>p || q)=_;rw[e,Lq l,Bool.not_and];rfl
def Q2{x:Str}(h:Pl x):∃(W:Nat) (S':jL),kI [none] (mL<|yV rT (jE 0)<|jC (eC<|.str<|PySem.Str.ofString " ") jK) (kB 0) kR (eFn ki<|jC (jE 0) jK) [.str x,y1] S=.ok (.ref W) S'/\jF S' W=some (((pP x).map A.str).map fL)/\lH S S'/\NT false .non (.ref W) S'=.ok (.bl<|!okN x) S':=by
 obtain⟨pl,m,_⟩:=pV h;have g:=h.le;have k0:lH S (S++[O.lst<|(pP x).map .str]):=Kp.refl.lay;obtain⟨S',e,k⟩:=Gz (cap:=[]) (src:=mL<|yV rT (jE 0)<|jC (eC<|.str<|PySem.Str.ofString " ") jK) (t:=kR) (e:=eFn ki<|jC (jE 0) jK) (τ:=[.str x,y1]) (AZ (S:=S) (τ:=[y1]) h) jT (λ_=>true) fL (λy hy T k=>by
  obtain⟨t,f,rfl⟩:=cj.1 hy;obtain⟨j,e,d⟩:=LL (S:=T)<|pl t f;exact⟨T,rfl,Kp.refl,λ_=>⟨j,by dsimp[j3,bools,e],d⟩⟩)<|by rw[aK];omega
 rw[cI.mpr λ_ _=>rfl]at e;refine⟨_,_,e,jT,(k0.trans k).lay,?_⟩;show opt (jF _ _) _=_;rw[jT,kD,Lq,kD];rfl
def JL{x:Str}(h:okN x=true):((pP x).map A.str).map fL=(vals x).map .int:=by
 unfold vals;rw[bL,bL];refine gf λt d=>?_;have:Pn.lA (C t)=true:=cV.1 h t d;exact aQ this
def Ny{x:Str}(h:Pl x):∃S',mE [.str x] S=.ok (if Je x=true then .tup ((vals x).map .int)else .non) S'/\lH S S':=by
 have K:=h.le;obtain⟨_,U,G⟩:=pV h;obtain⟨W,S1,e,g,k,i⟩:=Q2 (S:=S) (y1:=.unb) h;have j:mw (.ref W) S1=.ok (.int (vals x).length) S1:=by dsimp[j3,bools,g,aK,t7]
 unfold mE qd qq Je
 cases p:okN x with
 | false=>
  rw[p]at i;refine⟨S1,?_,k⟩;dsimp[j3,bools,kj,Nat.reduceAdd,Nat.reduceSub,e,i,bA,cT];rfl
 | true=>
  rw[p]at i;rw[JL p]at g;have N:1<=(vals x).length:=by rw[t7];exact gc.2 G
  rw[cO];by_cases P:(vals x).length>20
  ·refine⟨S1,?_,k⟩;have:E_ (vals x)=false:=by unfold E_;rw[aI<|show ¬(1<=(vals x).length/\(vals x).length<=20)by omega,cT]
   rw[this];dsimp[j3,bools,kj,Nat.reduceAdd,Nat.reduceSub,e,i,bg,j,aJ<|show((vals x).length:Int)>20 by omega];rfl
  ·have so:=Th (S:=S1) g (by omega);obtain⟨T,m⟩:∃T,T=S1++[O.lst<|(sortI<|vals x).map A.int]:=⟨_,rfl⟩;have kT:lH S1 T:=by rw[m];exact Kp.refl.lay
   have C:=kT.lst _ _ (λz=>z) g;have d:mw (.ref W) T=.ok (.int (vals x).length) T:=by dsimp[j3,bools,C,aK]
   have B:lH T (T++[O.lst<|(lE 1<|((vals x).length:Int)+1).map A.int]):=Kp.refl.lay;have L:=B.lst _ _ (λz=>z) C;have f:mJ true (.ref S1.length) (.ref T.length) (T++[O.lst<|(lE 1<|((vals x).length:Int)+1).map A.int])=.ok (.bl<|!decide (sortI (vals x)=lE 1 (((vals x).length:Int)+1))) (T++[O.lst<|(lE 1<|((vals x).length:Int)+1).map A.int]):=
    Nk (Hi (B.lst _ _ (λz=>z)<|by rw[m];exact jT) jT)
   rw[<- m]at so;have F:E_ (vals x)=decide (sortI (vals x)=lE 1 (((vals x).length:Int)+1)):=by unfold E_;rw[aJ<|show 1<=(vals x).length/\(vals x).length<=20 by omega,cO]
   have J:qj (.ref W) (T++[O.lst<|(lE 1<|((vals x).length:Int)+1).map A.int])=.ok (.tup<|(vals x).map .int) (T++[O.lst<|(lE 1<|((vals x).length:Int)+1).map A.int]):=by dsimp[j3,bools,L]
   rw[F];refine⟨T++[O.lst<|(lE 1<|((vals x).length:Int)+1).map A.int],?_,(k.trans kT).lay⟩
   cases hd:decide (sortI (vals x)=lE 1 (((vals x).length:Int)+1))with
   | true=>
    rw[hd]at f;dsimp[j3,bools,kj,Nat.reduceAdd,Nat.reduceSub,e,i,bg,j,aI<|show ¬((vals x).length:Int)>20 by omega,so,d,se<|uF (show(-1000000:Int)<=1 by decide) ⋯ (show(-1000000:Int)<=((vals x).length:Int)+1 by omega) (by omega) (by omega),f,J];rfl
   | false=>
    rw[hd]at f;dsimp[j3,bools,kj,Nat.reduceAdd,Nat.reduceSub,e,i,bg,j,aI<|show ¬((vals x).length:Int)>20 by omega,so,d,se<|uF (show(-1000000:Int)<=1 by decide) ⋯ (show(-1000000:Int)<=((vals x).length:Int)+1 by omega) (by omega) (by omega),f,bA];rfl
end K83
namespace K83
open PySem L2 Am
open Pt (C qx term tQ sg tp rX pT R0 pH tF dg)
abbrev Gh (k:Int):Bool:=decide<|1<=k/\k<20
def Xc{k:Int}:mZ [.int 20,.int k] S=.ok (.bl<|Gh k) S:=by
 unfold mZ qV q_ Gh;by_cases h1:(1:Int)<=k
 ·by_cases d:k<20
  ·have c:AY Ay Aw (eC<|.int 1) (jE 1) (jE 0) [.int 20,.int k] S=.ok (.bl true) S:=by
    rw[KR (a:=.int 1) (b:=.int k) (c:=.int 20) rfl rfl (by dsimp[j3,aJ h1]) rfl];dsimp[j3,aJ d]
   dsimp[j3,bools,kj,Nat.reduceAdd,Nat.reduceSub,Ox,c,aJ<|show 1<=k/\k<20 from⟨h1,d⟩]
  ·have c:AY Ay Aw (eC<|.int 1) (jE 1) (jE 0) [.int 20,.int k] S=.ok (.bl false) S:=by
    rw[KR (a:=.int 1) (b:=.int k) (c:=.int 20) rfl rfl (by dsimp[j3,aJ h1]) rfl];dsimp[j3,aI d]
   dsimp[j3,bools,kj,Nat.reduceAdd,Nat.reduceSub,Ox,c,aI<|show ¬(1<=k/\k<20)from λz=>d z.2]
 ·have c:AY Ay Aw (eC<|.int 1) (jE 1) (jE 0) [.int 20,.int k] S=.ok (.bl false) S:=by
   rw[NU (a:=.int 1) (b:=.int k) rfl rfl<|by dsimp[j3,aI h1]]
  dsimp[j3,bools,kj,Nat.reduceAdd,Nat.reduceSub,Ox,c,aI<|show ¬(1<=k/\k<20)from λz=>h1 z.1]
abbrev YE (y:A):A:=match y with
 | .int k=>.bl (Gh k)
 | _=>.non
abbrev yq (ns:ag):Bool:=decide (ns.length<=200) && ns.all Gh
def Gs(ns:ag):(ns.map A.int).map YE=(ns.map Gh).map A.bl:=by rw[bL,bL];rfl
def YU{ns:ag}(j:jF S W=some (ns.map .int))(J:ns.length<=2000):∃S',sd [.int 20,.ref W] S=.ok (.bl<|yq ns) S'/\lH S S':=by
 unfold sd xH ye yq;by_cases h:ns.length<=200
 ·have f:=zN (cap:=[some 0]) (src:=mL<|jE 1) (t:=kR) (e:=eFn mZ<|jC (jE 1)<|jC (jE 0) jK) (τ:=[.int 20,.ref W]) (S:=S) (rq (by dsimp[j3,bools]) j) j (λ_=>true) YE (λ_ _=>rfl) (λx g _=>by
   obtain⟨i,hi,rfl⟩:=cj.mp g;dsimp[j3,bools,Xc];rfl)<|by rw[aK];omega
  rw[cI.mpr λ_ _=>rfl,Gs]at f;have d:=vP (S:=S) (bs:=ns.map Gh);rw[all_map]at d;refine⟨S++[O.lst<|(ns.map Gh).map .bl],?_,Kp.refl.lay⟩;dsimp[j3,bools,kj,Nat.reduceAdd,Nat.reduceSub,j,cZ,show zX .lst "list" = some true from rfl,bg,aK,aI<|show ¬((200:Int)<(ns.length:Int))by omega,f,d,aJ h,cO]
 ·refine⟨S,?_,Kp.refl⟩;dsimp[j3,bools,kj,Nat.reduceAdd,Nat.reduceSub,j,cZ,show zX .lst "list" = some true from rfl,bg,aK,aJ<|show((200:Int)<(ns.length:Int))by omega,aI h,cT]
abbrev dash (x:Str):Bool:=x == PySem.Str.ofString "-"
abbrev zE (x:Str):Bool:=dash x || (okN x && yq (vals x))
abbrev wv (x:Str):ag:=if dash x=true then[]else vals x
def Hr{x:Str}(h:Pl x):(zE x=true->∃(W:Nat) (S':jL),nE [.str x] S=.ok (.ref W) S'/\jF S' W=some ((wv x).map .int)/\lH S S')/\(zE x=false->∃S',nE [.str x] S=.ex "NoText" S'/\lH S S'):=by
 have p:=h.le;have B:=(pV h).2.1;have d:mJ false (.str x) (.str<|PySem.Str.ofString "-") S=.ok (.bl<|dash x) S:=qp;unfold nE uP tY zE wv
 cases hd:dash x with
 | true=>
  rw[hd]at d;have g:jF (S++[O.lst []]) S.length=some (([]:ag).map .int):=jT;obtain⟨f,e2,k2⟩:=YU g ⋯;have m:yq []=true:=rfl;rw[m]at e2;refine⟨λ_=>⟨S.length,f,?_,k2.lst _ _ (λz=>z) g,Kp.refl.lay.trans k2⟩,λz=>(by cases z)⟩;dsimp[j3,lC,bools,kj,Nat.reduceAdd,Nat.reduceSub,d,lg<|show([]:ae).length<=16777216 by decide,e2,bg]
 | false=>
  rw[hd]at d;rw[ji,aO bh];obtain⟨r1,r2⟩:=Gd (S:=S) h
  cases j:okN x with
  | false=>
   obtain⟨S',e,k⟩:=r2 j;refine⟨λz=>(by cases z),λ_=>⟨S',?_,k⟩⟩;dsimp[j3,lC,bools,kj,Nat.reduceAdd,Nat.reduceSub,d,e]
  | true=>
   obtain⟨W,S1,e,g,k,_⟩:=r1 j;obtain⟨f,e2,k2⟩:=YU g (by rw[t7];omega);rw[cO];refine⟨λz=>⟨W,f,?_,k2.lst _ _ (λz=>z) g,k.trans k2⟩,λz=>⟨f,?_,k.trans k2⟩⟩
   ·rw[z]at e2;dsimp[j3,lC,bools,kj,Nat.reduceAdd,Nat.reduceSub,d,e,e2,bg]
   ·rw[z]at e2;dsimp[j3,lC,bools,kj,Nat.reduceAdd,Nat.reduceSub,d,e,e2,bA]
def Vx{k:Int}:AY Aw Aw (eC<|.int 0) (jE 0) (eC<|.int 20) (.int k::τ) S=.ok (.bl<|Gh k) S:=by
 unfold Gh;by_cases h1:(0:Int)<k
 ·rw[KR (a:=.int 0) (b:=.int k) (c:=.int 20) rfl (by dsimp[j3,bools]) (by dsimp[j3,aJ h1]) rfl];by_cases d:k<20
  ·dsimp[j3,aJ d,aJ<|show 1<=k/\k<20 from⟨h1,d⟩]
  ·dsimp[j3,aI d,aI<|show ¬(1<=k/\k<20)from λz=>d z.2]
 ·rw[NU (a:=.int 0) (b:=.int k) rfl (by dsimp[j3,bools])<|by dsimp[j3,aI h1],aI<|show ¬(1<=k/\k<20)from λz=>h1 z.1]
def Ie{x:Str}(h:Pl x):(zE x=true->∃(W:Nat) (S':jL),mh [.str x] S=.ok (.ref W) S'/\jF S' W=some ((wv x).map .int)/\lH S S')/\(zE x=false->∃S',mh [.str x] S=.ok .non S'/\lH S S'):=by
 have F:=h.le;have G:=(pV h).2.1;have d:mJ false (.str x) (.str<|PySem.Str.ofString "-") S=.ok (.bl<|dash x) S:=qp;unfold mh rQ qT zE wv
 cases hd:dash x with
 | true=>
  rw[hd]at d;refine⟨λ_=>⟨S.length,S++[O.lst []],?_,jT,Kp.refl.lay⟩,λz=>(by cases z)⟩;dsimp[j3,bools,kj,Nat.reduceAdd,Nat.reduceSub,d,lg<|show([]:ae).length<=16777216 by decide]
 | false=>
  rw[hd]at d;rw[ji,aO bh];obtain⟨W,S1,e,g,k,i⟩:=Q2 (S:=S) (y1:=.unb) h;have j:mw (.ref W) S1=.ok (.int (vals x).length) S1:=by dsimp[j3,bools,g,aK,t7]
  cases p:okN x with
  | false=>
   rw[p]at i;refine⟨λz=>(by cases z),λ_=>⟨S1,?_,k⟩⟩;dsimp[j3,bools,kj,Nat.reduceAdd,Nat.reduceSub,d,e,i,bA]
  | true=>
   rw[p]at i;rw[JL p]at g;rw[cO];by_cases C:(vals x).length<=200
   ·have B:=zN (cap:=[]) (src:=mL<|jE 1) (t:=kR) (e:=AY Aw Aw (eC<|.int 0) (jE 0)<|eC<|.int 20) (τ:=[.str x,.ref W]) (S:=S1) (rq (by dsimp[j3,bools]) g) g (λ_=>true) YE (λ_ _=>rfl) (λy hy _=>by
     obtain⟨i,hi,rfl⟩:=cj.mp hy;exact Vx)<|by rw[aK];omega
    rw[cI.mpr λ_ _=>rfl,Gs]at B;have f:=vP (S:=S1) (bs:=(vals x).map Gh);rw[all_map]at f;have m:yq (vals x)=(vals x).all Gh:=by unfold yq;rw[aJ C,cO]
    have kT:lH S1 (S1++[O.lst<|((vals x).map Gh).map .bl]):=Kp.refl.lay;rw[m];refine⟨λz=>⟨W,S1++[O.lst<|((vals x).map Gh).map .bl],?_,kT.lst _ _ (λz=>z) g,k.trans kT⟩,λz=>⟨S1++[O.lst<|((vals x).map Gh).map .bl],?_,k.trans kT⟩⟩
    ·rw[z]at f;dsimp[j3,bools,kj,Nat.reduceAdd,Nat.reduceSub,d,e,i,bg,j,aI<|show ¬((vals x).length:Int)>200 by omega,B,f]
    ·rw[z]at f;dsimp[j3,bools,kj,Nat.reduceAdd,Nat.reduceSub,d,e,i,bg,j,aI<|show ¬((vals x).length:Int)>200 by omega,B,f,bA]
   ·have m:yq (vals x)=false:=by unfold yq;rw[aI C,cT]
    rw[m];refine⟨λz=>(by cases z),λ_=>⟨S1,?_,k⟩⟩;dsimp[j3,bools,kj,Nat.reduceAdd,Nat.reduceSub,d,e,i,bg,j,aJ<|show((vals x).length:Int)>200 by omega]
end K83
namespace K83
open PySem L2 Am
open Pt (C qx term tQ sg tp rX pT R0 pH tF dg)
abbrev num (x:Str):bo:=if Pn.lA (C x)=true then some (nv x)else none
def M_{x:Str}{v:Int}(h:num x=some v):0<=v/\v.natAbs<10 ^ 30:=by
 unfold num at h;by_cases q:Pn.lA (C x)=true
 ·rw[aQ q]at h;obtain⟨m,d,e⟩:=Pn.BA q;rw[e,Dl d]at h
  cases h
  exact⟨Int.natCast_nonneg m,by rw[dH];exact d⟩
 ·rw[aO q]at h;cases h
def Kq{x:Str}(h:Pl x):(∀v,num x=some v->∃S',kg [.str x] S=.ok (.int v) S'/\lH S S')/\(num x=none->∃S',kg [.str x] S=.ex "NoText" S'/\lH S S'):=by
 obtain⟨a,b⟩:=QT (S:=S) h;unfold num
 cases q:Pn.lA (C x)with
 | true=>exact⟨λv z=>(by rw[aQ rfl]at z;cases z;exact a q),λz=>(by rw[aQ rfl]at z;cases z)⟩
 | false=>exact⟨λv z=>(by rw[aO bh]at z;cases z),λ_=>b q⟩
@[irreducible] noncomputable def Ad (x:Str):Str:=Txt.removeprefix x ⟨#[94]⟩
theorem SE{x:Str}{c:Nat}(h:(C x).head?≠some c):Txt.removeprefix x ⟨#[c]⟩=x:=by
 unfold Txt.removeprefix;rw[aO λz=>h<|by rw[List.head?_eq_getElem?];exact(Sp.BH x c 0).mp z];rfl
def Mi(x:Str):C (Ad x)=if (C x).head?=some 94 then(C x).tail else C x:=by
 unfold Ad;by_cases h:(C x).head?=some 94
 ·rw[aQ h]
  cases e:C x with
  | nil=>rw[e]at h;cases h
  | cons c l=>
   rw[e]at h;have:c=94:=aU h;subst this;rw[Pt.Sw e,Pt.pY];rfl
 ·rw[aO h,SE h]
def uW{x:Str}(h:Pl x)(hs:∀c∈C y,c∈C x)(j:(C y).length<=(C x).length):Pl y:=⟨λc hc=>h.as c<|hs c hc,by have:=h.le;rw[kK,kK]at j;omega⟩
def Ss{x:Str}(h:Pl x):Pl (Ad x):=by
 refine uW h (λc hc=>?_) ?_
 ·rw[Mi]at hc;split at hc
  ·exact iJ hc
  ·exact hc
 ·rw[Mi];split
  ·rw[jm];omega
  ·exact aP _
def yO{x:Str}(h:1<=x.length):C (Txt.slice x (some 1) none)=(C x).tail:=by
 rw[show(some 1:bo)=some ((1:Nat):Int)from rfl,Pt.mO _<|by omega,List.drop_one]
def Hv{x:Str}(h:Pl x)(h1:1<=x.length):Pl (Txt.slice x (some 1) none):=
 uW h (λc hc=>by rw[yO h1]at hc;exact iJ hc) (by rw[yO h1,jm];omega)
abbrev rp (x:Str):bo:=if x.length=0 then some 1 else if ((C<|Ad x).head? == some 45)=true then(num<|Txt.slice (Ad x) (some 1) none).map (λv=>-v)else num (Ad x)
def Xj{x:Str}{v:Int}(h:rp x=some v):v.natAbs<10 ^ 30:=by
 unfold rp at h;split at h
 ·cases h;exact(by omega:(1:Nat)<10 ^ 30)
 ·split at h
  ·obtain⟨w,hw,e⟩:=br.1 h;have:=(M_ hw).2;rw[<- e,f7];exact this
  ·exact(M_ h).2
def QK(i:Int)(S:jL):sU (.int i) S=.ok (.int<|-i) S:=rfl
def Vz{x:Str}(h:x.length<=100000):A.Qi (.str x) S=some ((x.length:Int) != 0):=aQ<|by rw[bB];omega
def U6{x:Str}(h:Pl x):(∀v,rp x=some v->∃S',l9 [.str x] S=.ok (.int v) S'/\lH S S')/\(rp x=none->∃S',l9 [.str x] S=.ex "NoText" S'/\lH S S'):=by
 have p:=h.le;have d:mJ false (.str x) (.str<|PySem.Str.ofString "") S=.ok (.bl<|decide<|x.length=0) S:=by rw[qp,Tx.wK]
 have pr:Rl (.str x) [.str<|PySem.Str.ofString "^"] S=.ok (.str<|Ad x) S:=by
  show gd (x.length<=sizeLine) (R.ok (A.str<|Txt.removeprefix x<|PySem.Str.ofString "^") S)=_;rw[j9<|by rw[bB];omega,show PySem.Str.ofString "^" = ⟨#[94]⟩by decide +kernel];unfold Ad;rfl
 have f:=Ss h;have st:=UE (x:=Ad x) (c:=45) (z:=PySem.Str.ofString "-") (S:=S) ∅;unfold l9 sJ sy rp;by_cases h0:x.length=0
 ·rw[aQ h0];rw[aJ h0]at d;refine⟨λv z=>?_,λz=>(by cases z)⟩
  cases z
  exact⟨S,by dsimp[j3,lC,bools,kj,Nat.reduceAdd,Nat.reduceSub,d],Kp.refl⟩
 ·rw[aO h0];rw[aI h0]at d
  cases hd:(C<|Ad x).head? == some 45 with
  | true=>
   rw[hd]at st;rw[aQ rfl];have m:1<=(Ad x).length:=by
    rw[<- kK]
    cases e:C (Ad x)with
    | nil=>rw[e]at hd;cases hd
    | cons c l=>rw[aR];omega
   have g:=Hv f m;obtain⟨a,b⟩:=Kq (S:=S) g;have j:ou (jE 1) (kP<|eC<|.int 1) lP [.str x,.str<|Ad x] S=.ok (.str<|Txt.slice (Ad x) (some 1) none) S:=by
    show gd ((Txt.slice (Ad x) (some 1) none).length<=sizeLine) (R.ok (A.str<|Txt.slice (Ad x) (some 1) none) S)=_;exact j9 (by have:=g.le;rw[bB];omega)
   refine⟨λv z=>?_,λz=>?_⟩
   ·obtain⟨w,hw,e⟩:=br.1 z;obtain⟨S',e1,k⟩:=a w hw;exact⟨S',by dsimp[j3,lC,bools,kj,Nat.reduceAdd,Nat.reduceSub,d,kH,n8,pr,st,j,e1,QK,e],k⟩
   ·obtain⟨S',e1,k⟩:=b<|Option.map_eq_none_iff.1 z;exact⟨S',by dsimp[j3,lC,bools,kj,Nat.reduceAdd,Nat.reduceSub,d,kH,n8,pr,st,j,e1],k⟩
  | false=>
   rw[hd]at st;rw[aO bh];obtain⟨a,b⟩:=Kq (S:=S) f;refine⟨λv z=>?_,λz=>?_⟩
   ·obtain⟨S',e1,k⟩:=a v z;exact⟨S',by dsimp[j3,lC,bools,kj,Nat.reduceAdd,Nat.reduceSub,d,kH,n8,pr,st,e1],k⟩
   ·obtain⟨S',e1,k⟩:=b z;exact⟨S',by dsimp[j3,lC,bools,kj,Nat.reduceAdd,Nat.reduceSub,d,kH,n8,pr,st,e1],k⟩
abbrev pA (x:Str):Str:=(Txt.partition x ⟨#[118]⟩).1
abbrev pL (x:Str):Str:=(Txt.partition x ⟨#[118]⟩).2.1
abbrev pB (x:Str):Str:=(Txt.partition x ⟨#[118]⟩).2.2
theorem CA{c:Nat}:∀{l:ar},c∈l->∃a b,l=a++c::b/\c∉a
 | [],h=>by cases h
 | d::l,h=>by
  by_cases q:d=c
  ·exact⟨[],l,by rw[q];rfl,λz=>by cases z⟩
  ·rcases bf.1 h with z|z
   ·exact absurd z.symm q
   ·obtain⟨a,b,e,n⟩:=CA z;refine⟨d::a,b,by rw[e];rfl,λz=>?_⟩
    rcases bf.1 z with z|z
    ·exact q z.symm
    ·exact n z
def zH(x:Str):(118∉C x/\pA x=x/\pL x=Str.empty/\pB x=Str.empty)\/∃a b,C x=a++118::b/\118∉a/\pA x=Sp.mk a/\pL x=⟨#[118]⟩/\pB x=Sp.mk b:=by
 unfold pA pL pB;by_cases h:118∈C x
 ·obtain⟨a,b,e,n⟩:=CA h;rw[Pt.GG e n];exact .inr ⟨a,b,e,n,rfl,rfl,rfl⟩
 ·rw[Pt.FE h];exact .inl ⟨h,rfl,rfl,rfl⟩
def zd{x:Str}(h:Pl x):Pl (pA x)/\Pl (pL x)/\Pl (pB x):=by
 have e0:C Str.empty=[]:=rfl
 rcases zH x with⟨_,a,b,c⟩|⟨a,b,e,_,p,q,r⟩
 ·rw[a,b,c];have f:Pl Str.empty:=uW h (λd hd=>by rw[e0]at hd;cases hd) (by rw[e0];exact cz _);exact⟨h,f,f⟩
 ·rw[p,q,r];refine⟨uW h (λd hd=>?_) ?_,uW h (λd hd=>?_) ?_,uW h (λd hd=>?_) ?_⟩
  ·rw[Pt.pY]at hd;rw[e];exact bF.2 (.inl hd)
  ·rw[Pt.pY,e,aV,aR];omega
  ·have:d=118:=aX.1 hd;rw[this,e];exact bF.2 (.inr<|aT ..)
  ·have g:(118::b).length=b.length+1:=rfl;rw[e,aV];show 1<=_;omega
  ·rw[Pt.pY]at hd;rw[e];exact bF.2 (.inr<|aS _ hd)
  ·rw[Pt.pY,e,aV,aR];omega
abbrev UM (x:Str):Str:=Txt.removesuffix x ⟨#[42]⟩
def F1(x:Str):C (UM x)=if (C x).getLast?=some 42 then(C x).dropLast else C x:=by
 unfold UM;by_cases h:(C x).getLast?=some 42
 ·rw[aQ h];have n:C x≠[]:=λz=>by rw[z]at h;cases h
  have e:C x=(C x).dropLast++[42]:=by
   have:=eS n;rw[eG n]at h;rw[aU h]at this;exact this.symm
  rw[Pt.T4 e,Pt.pY]
 ·rw[aO h,StrLaws.removesuffix_eq,aO];intro z;rw[bE]at z;have q:=(Sp.BH x 42 _).mp z.2;have l:=bO z.1;rw[Sp.xO]at l q;have q:(C x)[x.length-1]?=some 42:=q;rw[<- kK,<- List.getLast?_eq_getElem?]at q;exact h q
def Ui{x:Str}(h:Pl x):Pl (UM x):=by
 refine uW h (λc hc=>?_) ?_
 ·rw[F1]at hc;split at hc
  ·exact(List.dropLast_sublist _).subset hc
  ·exact hc
 ·rw[F1];split
  ·rw[List.length_dropLast];omega
  ·exact aP _
abbrev MX (x:Str):bo:=if (pL x).length≠0/\(pA x).length=0 then some 1 else num (UM<|pA x)
abbrev LO (x:Str):bo:=if (pL x).length=0 then some 0 else rp (pB x)
abbrev rt (s x:Str):Option (Int×Int):=(LO x).bind λp=>(MX x).map λz=>(p,if dash s=true then -z else z)
end K83
namespace K83
open PySem L2 Am
open Pt (C qx term tQ sg tp rX pT R0 pH tF dg)
def zy(x y:A):gd (([x,y]:ae).length<=sizeLine)=λr:Am.R A=>r:=by funext r;kcj_m
def zU:gd (2<=sizeLine)=λr:Am.R A=>r:=by funext r;kcj_m
def FP{x:Str}(h:Pl x):HL (.str x) [.str<|PySem.Str.ofString "v"] S=.ok (.tup [.str<|pA x,.str<|pL x,.str<|pB x]) S:=by
 have v:PySem.Str.ofString "v" = ⟨#[118]⟩:=by decide +kernel
 rw[v];exact j9 ⟨by decide +kernel,by rw[bB];have:=h.le;omega⟩
def SS{x:Str}(h:Pl x):MQ (.str x) [.str<|PySem.Str.ofString "*"] S=.ok (.str<|UM x) S:=by
 have v:PySem.Str.ofString "*" = ⟨#[42]⟩:=by decide +kernel
 rw[v];exact j9 (by rw[bB];have:=h.le;omega)
def LM{x:Str}(h:Pl x):A.Qi (.str x) S=some (!decide (x.length=0)):=by
 rw[Vz (by have:=h.le;omega)];by_cases q:x.length=0
 ·rw[q];rfl
 ·rw[aI q];exact cg some<|bne_iff_ne.mpr<|by omega
def VW{x:Str}{p:Int}(h:LO x=some p):p.natAbs<10 ^ 30:=by
 unfold LO at h;split at h
 ·cases h;exact(by omega:(0:Nat)<10 ^ 30)
 ·exact Xj h
def Wi{x:Str}{z:Int}(h:MX x=some z):0<=z/\z.natAbs<10 ^ 30:=by
 unfold MX at h;split at h
 ·cases h;exact⟨by decide,(by omega:(1:Nat)<10 ^ 30)⟩
 ·exact M_ h
def YH{x:Str}{q:Int×Int}(h:rt s x=some q):q.1.natAbs<10 ^ 30/\q.2.natAbs<10 ^ 30:=by
 unfold rt at h;obtain⟨p,hp,h⟩:=bC.1 h;obtain⟨z,d,h⟩:=br.1 h;rw[<- h];refine⟨VW hp,?_⟩;have:=(Wi d).2;show(if dash s=true then -z else z).natAbs<_;split
 ·rw[f7];exact this
 ·exact this
def YB{x:Str}(h:Pl x) :
  (∀p,LO x=some p->∃S',z_ (nY<|jE 3) (qw l9<|jC (jE 4) jK) (eC<|.int 0) [a0,a1,a2,.str<|pL x,.str<|pB x,a5,a6] S=.ok (.int p) S'/\lH S S')/\(LO x=none->∃S',z_ (nY<|jE 3) (qw l9<|jC (jE 4) jK) (eC<|.int 0) [a0,a1,a2,.str<|pL x,.str<|pB x,a5,a6] S=.ex "NoText" S'/\lH S S'):=by
 obtain⟨_,f,g⟩:=zd h;have t:=LM (S:=S) f;unfold LO;by_cases d:(pL x).length=0
 ·rw[aQ d];rw[aJ d]at t;refine⟨λp z=>?_,λz=>(by cases z)⟩
  cases z
  exact⟨S,by dsimp[j3,lC,bools,t,bg],Kp.refl⟩
 ·rw[aO d];rw[aI d]at t;obtain⟨a,b⟩:=U6 (S:=S) g;refine⟨λp z=>?_,λz=>?_⟩
  ·obtain⟨S',e,k⟩:=a p z;exact⟨S',by dsimp[j3,lC,bools,t,bA,e],k⟩
  ·obtain⟨S',e,k⟩:=b z;exact⟨S',by dsimp[j3,lC,bools,t,bA,e],k⟩
def XC{x:Str}(h:Pl x) :
  (∀z,MX x=some z->∃S',z_ (Aq (nY<|jE 3)<|qv<|nY<|jE 2) (eC<|.int 1) (qw kg<|jC (yV MQ (jE 2)<|jC (eC<|.str<|PySem.Str.ofString "*") jK) jK) [a0,a1,.str<|pA x,.str<|pL x,a4,a5,a6] S=.ok (.int z) S'/\lH S S')/\(MX x=none->∃S',z_ (Aq (nY<|jE 3)<|qv<|nY<|jE 2) (eC<|.int 1) (qw kg<|jC (yV MQ (jE 2)<|jC (eC<|.str<|PySem.Str.ofString "*") jK) jK) [a0,a1,.str<|pA x,.str<|pL x,a4,a5,a6] S=.ex "NoText" S'/\lH S S'):=by
 obtain⟨f,p,_⟩:=zd h;have t:=LM (S:=S) p;have g:=LM (S:=S) f;have B:=SS (S:=S) f;obtain⟨a,b⟩:=Kq (S:=S)<|Ui f;have d:(Aq (nY<|jE 3)<|qv<|nY<|jE 2) [a0,a1,.str<|pA x,.str<|pL x,a4,a5,a6] S=.ok (decide<|(pL x).length≠0/\(pA x).length=0) S:=by
  by_cases m:(pL x).length=0
  ·rw[aJ m]at t;rw[aI<|show ¬((pL x).length≠0/\(pA x).length=0)from λz=>z.1 m];dsimp[j3,bools,t,bg]
  ·rw[aI m]at t;by_cases j:(pA x).length=0
   ·rw[aJ j]at g;rw[aJ<|show(pL x).length≠0/\(pA x).length=0 from⟨m,j⟩];dsimp[j3,bools,t,g,bg,bA]
   ·rw[aI j]at g;rw[aI<|show ¬((pL x).length≠0/\(pA x).length=0)from λz=>j z.2];dsimp[j3,bools,t,g,bg,bA]
 unfold MX;by_cases c:(pL x).length≠0/\(pA x).length=0
 ·rw[aQ c];rw[aJ c]at d;refine⟨λz e=>?_,λe=>(by cases e)⟩
  cases e
  exact⟨S,by dsimp[j3,lC,bools,↓d],Kp.refl⟩
 ·rw[aO c];rw[aI c]at d;refine⟨λz e=>?_,λe=>?_⟩
  ·obtain⟨S',e1,k⟩:=a z e;exact⟨S',by dsimp[j3,lC,bools,↓d,kH,n8,B,e1],k⟩
  ·obtain⟨S',e1,k⟩:=b e;exact⟨S',by dsimp[j3,lC,bools,↓d,kH,n8,B,e1],k⟩
def Vi{x:Str}(h:Pl x):(∀q,rt s x=some q->∃S',lZ [.str s,.str x] S=.ok (tA q) S'/\lH S S')/\(rt s x=none->∃S',lZ [.str s,.str x] S=.ex "NoText" S'/\lH S S'):=by
 have p1:=FP (S:=S) h;have j:gd (([A.str<|pA x,.str<|pL x,.str<|pB x]:ae).length=3)=λr:Am.R (ae)=>r:=by funext r;exact j9 rfl
 obtain⟨a,b⟩:=YB (S:=S) (a0:=.str s) (a1:=.str x) (a2:=.str<|pA x) (a5:=.unb) (a6:=.unb) h;unfold lZ uI uL rt
 cases hp:LO x with
 | none=>
  obtain⟨S1,e1,k1⟩:=b hp;refine⟨λq z=>(by cases z),λ_=>⟨S1,?_,k1⟩⟩;dsimp[j3,lC,bools,kj,Nat.reduceAdd,Nat.reduceSub,kH,n8,p1,j9<|show([_,_,_]:ae).length=3 from rfl,↓e1]
 | some p=>
  obtain⟨S1,e1,k1⟩:=a p hp;obtain⟨c,d⟩:=XC (S:=S1) (a0:=.str s) (a1:=.str x) (a4:=.str<|pB x) (a5:=.int p) (a6:=.unb) h;rw[bH]
  cases g:MX x with
  | none=>
   obtain⟨f,e2,k2⟩:=d g;refine⟨λq z=>(by cases z),λ_=>⟨f,?_,k1.trans k2⟩⟩;dsimp[j3,lC,bools,kj,Nat.reduceAdd,Nat.reduceSub,kH,n8,p1,j9<|show([_,_,_]:ae).length=3 from rfl,↓e1,↓e2]
  | some z=>
   obtain⟨f,e2,k2⟩:=c z g;refine⟨λq e=>⟨f,?_,k1.trans k2⟩,λe=>(by cases e)⟩
   cases e
   have ds:mJ false (.str s) (.str<|PySem.Str.ofString "-") f=.ok (.bl<|dash s) f:=qp
   cases hd:dash s with
   | true=>
    rw[hd]at ds;dsimp[j3,lC,bools,kj,Nat.reduceAdd,Nat.reduceSub,kH,n8,p1,j9<|show([_,_,_]:ae).length=3 from rfl,↓e1,↓e2,ds,QK,zy,zU];rfl
   | false=>
    rw[hd]at ds;dsimp[j3,lC,bools,kj,Nat.reduceAdd,Nat.reduceSub,kH,n8,p1,j9<|show([_,_,_]:ae).length=3 from rfl,↓e1,↓e2,ds,zy,zU];rfl
end K83
namespace K83
open PySem L2 Am
open Pt (C qx term tQ sg tp rX pT R0 pH tF dg)
abbrev prs:ba->Option (List<|Int×Int)
 | []=>some []
 | [_]=>none
 | s::t::r=>(rt s t).bind λq=>(prs r).map λl=>q::l
theorem Gy:∀{ts:ba},ts.length % 2=1->prs ts=none
 | [],h=>by cases h
 | [_],_=>rfl
 | s::t::r,h=>by
  have:prs r=none:=Gy (by rw[aR,aR]at h;omega);show(rt s t).bind _=none;rw[this]
  cases rt s t<;>rfl
abbrev Ur (ts:ba)(i:Nat):Bool:=(rt (ts.getD (2 * i) Str.empty)<|ts.getD (2 * i+1) Str.empty).isSome
abbrev NG (ts:ba)(i:Nat):Int×Int:=(rt (ts.getD (2 * i) Str.empty)<|ts.getD (2 * i+1) Str.empty).getD (0,0)
theorem GL:∀(ts:ba) (k:Nat),ts.length=2 * k->(List.range k).all (Ur ts)=(prs ts).isSome/\∀l,prs ts=some l->(List.range k).map (NG ts)=l
 | [],k,h=>by
  have:k=0:=by rw[iM]at h;omega
  subst this;exact⟨rfl,λl z=>by cases z;rfl⟩
 | [_],k,h=>by rw[fB]at h;omega
 | s::t::r,0,h=>by cases h
 | s::t::r,k+1,h=>by
  obtain⟨a,b⟩:=GL r k (by rw[aR,aR]at h;omega);have e1:∀i,(Ur (s::t::r) ∘ Nat.succ) i=Ur r i:=λi=>by
   show Ur (s::t::r) (i+1)=_;unfold Ur;rw[show 2 * (i+1)+1=(2 * i+1)+1+1 by omega,show 2 * (i+1)=2 * i+1+1 by omega];rfl
  have e2:∀i,(NG (s::t::r) ∘ Nat.succ) i=NG r i:=λi=>by
   show NG (s::t::r) (i+1)=_;unfold NG;rw[show 2 * (i+1)+1=(2 * i+1)+1+1 by omega,show 2 * (i+1)=2 * i+1+1 by omega];rfl
  have d:Ur (s::t::r) 0=(rt s t).isSome:=rfl;have f0:NG (s::t::r) 0=(rt s t).getD (0,0):=rfl;rw[gX,gq,bP,List.all_map,bL,funext e1,funext e2,d,f0,a];show((rt s t).isSome && (prs r).isSome)=((rt s t).bind λq=>(prs r).map λl=>q::l).isSome/\∀l,((rt s t).bind λq=>(prs r).map λl=>q::l)=some l->_
  cases h1:rt s t with
  | none=>exact⟨rfl,λl z=>by cases z⟩
  | some q=>
   cases f:prs r with
   | none=>exact⟨rfl,λl z=>by cases z⟩
   | some g=>
    refine⟨rfl,λl z=>?_⟩
    cases z
    rw[b g f];rfl
theorem Q5:∀{ts:ba}{l:List<|Int×Int},prs ts=some l->(∀q∈l,q.1.natAbs<10 ^ 30/\q.2.natAbs<10 ^ 30)/\l.length<=ts.length
 | [],l,h=>by cases h;exact⟨λq z=>(by cases z),aP _⟩
 | [_],l,h=>by cases h
 | s::t::r,l,h=>by
  have h:((rt s t).bind λq=>(prs r).map λl=>q::l)=some l:=h;obtain⟨q,f,h⟩:=bC.1 h;obtain⟨g,d,h⟩:=br.1 h;obtain⟨a,b⟩:=Q5 d;rw[<- h];refine⟨λp hp=>?_,by rw[aR,aR,aR];omega⟩
  rcases bf.1 hp with z|z
  ·rw[z];exact YH f
  ·exact a p z
abbrev E7 (x:Str):Str:=if ((C x).head? == some 45)=true then PySem.Str.ofString "- " ++ Txt.slice x (some 1) none else PySem.Str.ofString "+ " ++ x
def K1(x:Str):C (E7 x)=if (C x).head?=some 45 then 45::32::(C x).tail else 43::32::C x:=by
 unfold E7;by_cases h:(C x).head?=some 45
 ·rw[aQ<|dW.mpr h,aQ h,Pt.rZ,yO (by
   rw[<- kK]
   cases e:C x with
   | nil=>rw[e]at h;cases h
   | cons c l=>rw[aR];omega)];rfl
 ·rw[aO λz=>h<|dW.mp z,aO h,Pt.rZ];rfl
def Em{x:Str}(h:Pl x)(j:x.length<=900):Pl (E7 x):=by
 refine⟨λc hc=>?_,?_⟩
 ·rw[K1]at hc;split at hc
  ·rcases bf.1 hc with z|z
   ·omega
   ·rcases bf.1 z with z|z
    ·omega
    ·exact h.as c<|iJ z
  ·rcases bf.1 hc with z|z
   ·omega
   ·rcases bf.1 z with z|z
    ·omega
    ·exact h.as c z
 ·rw[<- kK,K1];rw[<- kK]at j;split
  ·rw[aR,aR,jm];omega
  ·rw[aR,aR];omega
def SG(n:Nat)(S:jL):JO (.int (n:Int)) (.int 1) S=.ok (.int ((n % 2:Nat):Int)) S:=by
 show R.ok (A.int<|Builtin.bitAnd (n:Int) 1) S=_;refine cg (λz=>R.ok (A.int z) S) ?_;unfold Builtin.bitAnd;rw[aJ<|show(0:Int)<=(n:Int)by omega,aJ<|show(0:Int)<=1 by decide];show((((n:Int).toNat &&& (1:Int).toNat:Nat)):Int)=_;rw[show(1:Int).toNat=1 from rfl,Nat.and_one_is_mod,bY]
def Vp{x:Str}(h:Pl x)(J:x.length<=900):z_ (nY<|yV qJ (jE 0)<|jC (eC<|.str<|PySem.Str.ofString "-") jK) (jJ kq (eC<|.str<|PySem.Str.ofString "- ")<|ou (jE 0) (kP<|eC<|.int 1) lP) (jJ kq (eC<|.str<|PySem.Str.ofString "+ ")<|jE 0) [.str x,.unb,.unb] S=.ok (.str<|E7 x) S:=by
 have st:=UE (x:=x) (c:=45) (z:=PySem.Str.ofString "-") (S:=S) ∅;have k:(PySem.Str.ofString "- ").length=2:=by decide +kernel
 have m:(PySem.Str.ofString "+ ").length=2:=by decide +kernel
 unfold E7
 cases hd:(C x).head? == some 45 with
 | true=>
  rw[hd]at st;have g:1<=x.length:=by
   rw[<- kK]
   cases e:C x with
   | nil=>rw[e]at hd;cases hd
   | cons c l=>rw[aR];omega
  have j:=(Hv h g).le;have f:ou (jE 0) (kP<|eC<|.int 1) lP [.str x,.unb,.unb] S=.ok (.str<|Txt.slice x (some 1) none) S:=by
   show gd ((Txt.slice x (some 1) none).length<=sizeLine) (R.ok (A.str<|Txt.slice x (some 1) none) S)=_;exact j9<|by rw[bB];omega
  have d:=pS (S:=S) (a:=PySem.Str.ofString "- ") (b:=Txt.slice x (some 1) none) (by omega);dsimp[j3,lC,bools,kH,n8,st,↓f,d,dB]
 | false=>
  rw[hd]at st;have d:=pS (S:=S) (a:=PySem.Str.ofString "+ ") (b:=x) (by omega);dsimp[j3,lC,bools,kH,n8,st,d,bZ,dS]
def Qe{ts:ba}{j:Nat}(h:j<ts.length):(ts.map A.str)[j]?=some (.str<|ts.getD j Str.empty):=by
 rw[bu,aN,aH h];rfl
def Wf{x:Str}(h:Pl x)(hl:x.length<=900):(∀l,prs (pP<|E7 x)=some l->∃(W:Nat) (S':jL),mS [.str x] S=.ok (.ref W) S'/\jF S' W=some (l.map tA)/\lH S S')/\(prs (pP<|E7 x)=none->∃S',mS [.str x] S=.ex "NoText" S'/\lH S S'):=by
 have ps:=Em h hl;obtain⟨U,ln,_⟩:=pV ps;have lle:=ps.le;have G:=Vp (S:=S) h hl;have j:=Cz (S:=S) ps;obtain⟨ts,K⟩:∃ts,ts=pP (E7 x):=⟨_,rfl⟩;rw[<- K]at U ln j ⊢;obtain⟨S1,d⟩:∃S1,S1=S++[O.lst<|ts.map .str]:=⟨_,rfl⟩;have k1:lH S S1:=by rw[d];exact Kp.refl.lay
 have f:jF S1 S.length=some (ts.map .str):=by rw[d];exact jT
 rw[<- d]at j;have m:=SG ts.length S1;unfold mS sG sR;by_cases Y:ts.length % 2=1
 ·rw[Y]at m;refine⟨λl z=>?_,λ_=>⟨S1,?_,k1⟩⟩
  ·rw[Gy Y]at z;cases z
  ·dsimp[j3,lC,bools,kj,Nat.reduceAdd,Nat.reduceSub,↓G,kH,n8,j,f,aK,m,show(((1:Nat):Int) != 0)=true from rfl]
 ·obtain⟨k,hk⟩:∃k,ts.length=2 * k:=⟨ts.length / 2,by omega⟩;rw[show ts.length % 2=0 by omega]at m;obtain⟨al,mp⟩:=GL ts k hk;have sr:w_ (eC<|.int 0) (jV (f1 mw)<|jC (jE 2) jK) (eC<|.int 2) [.str x,.str<|E7 x,.ref S.length] S1=.ok (ym 0 ((ts.length:Nat):Int)) S1:=
   IP (S1:=S1) (S2:=S1) (by dsimp[j3,bools]) (by dsimp[j3,bools,f,aK]) (by dsimp[j3,bools]) (p6 ⋯ ⋯) (p6 (by omega)<|by omega)
  have L:(((ts.length:Nat):Int)-0+1) / 2=(k:Int):=by omega
  have B:(ym 0 ((ts.length:Nat):Int)).k=k:=by show((((ts.length:Nat):Int)-0+1) / 2).toNat=k;rw[L,bY]
  obtain⟨r1,r2⟩:=zo (s:=ym 0 ((ts.length:Nat):Int)) (g:=kB 0) (e:=qw lZ<|jC (jJ oJ (jE 1)<|jE 0)<|jC (jJ oJ (jE 1)<|jJ kq (jE 0)<|eC<|.int 1) jK) (cl := "NoText") (S1:=S1) (T:=λp=>∃y,p=[y,.ref S.length]) (λi=>.int ((2 * i:Nat):Int)) (Ur ts) (λi=>tA<|NG ts i)
   (λi T hi _=>by
    show(if i<((((ts.length:Nat):Int)-0+1) / 2).toNat then some (A.int<|0+2 * i)else none)=_;rw[B]at hi;rw[L,aQ<|by rw[bY];exact hi,Int.zero_add];rfl) (λ_ _=>rfl)
   (λi p T hi ⟨y,hy⟩ kT=>by
    subst hy;rw[B]at hi;have P:=kT.lst _ _ (λz=>z) f;have V:qE (ts.map A.str) ((2 * i:Nat):Int)=some (.str<|ts.getD (2 * i) Str.empty):=vK (k:=2 * i) rfl (Qe<|by omega);have N:qE (ts.map A.str) (((2 * i:Nat):Int)+1)=some (.str<|ts.getD (2 * i+1) Str.empty):=vK (k:=2 * i+1) (by omega) (Qe<|by omega);have pm:Pl (ts.getD (2 * i+1) Str.empty):=by
     rw[aN,aH<|show 2 * i+1<ts.length by omega];exact U _<|cJ _
    obtain⟨a,b⟩:=Vi (S:=T) (s:=ts.getD (2 * i) Str.empty) pm;refine⟨[.int ((2 * i:Nat):Int),.ref S.length],rfl,⟨_,rfl⟩,λz=>?_,λz=>?_⟩
    ·obtain⟨q,Z⟩:=eB.1<|show(rt (ts.getD (2 * i) Str.empty)<|ts.getD (2 * i+1) Str.empty).isSome=true from z;obtain⟨C,F,J⟩:=a q Z;have fe:NG ts i=q:=by unfold NG;rw[Z];rfl
     exact⟨C,by dsimp[j3,lC,bools,P,V,N,F,fe],J⟩
    ·obtain⟨C,F,J⟩:=b (Option.isNone_iff_eq_none.1 (by
      have:(rt (ts.getD (2 * i) Str.empty)<|ts.getD (2 * i+1) Str.empty).isSome=false:=z;rw[<- Option.not_isSome,this];rfl))
     exact⟨C,by dsimp[j3,lC,bools,P,V,N,F],J⟩) k 0 [.unb,.ref S.length] S1 (by rw[B];omega) ⟨_,rfl⟩ Kp.refl
  rw[<- cW,al]at r1 r2;have e0:rg [none,some 2] (w_ (eC<|.int 0) (jV (f1 mw)<|jC (jE 2) jK)<|eC<|.int 2) (kB 0) kR (qw lZ<|jC (jJ oJ (jE 1)<|jE 0)<|jC (jJ oJ (jE 1)<|jJ kq (jE 0)<|eC<|.int 1) jK) [.str x,.str<|E7 x,.ref S.length] S1=(nk (ym 0 ((ts.length:Nat):Int)) (kB 0) kR (qw lZ<|jC (jJ oJ (jE 1)<|jE 0)<|jC (jJ oJ (jE 1)<|jJ kq (jE 0)<|eC<|.int 1) jK) k 0 [.unb,.ref S.length] S1).bind λys S2=>.ok (.ref S2.length) (S2++[.lst ys]):=by
   unfold rg;rw[sr,R.kO,B];exact j9<|by rw[bB];omega
  refine⟨λl z=>?_,λz=>?_⟩
  ·obtain⟨S2,e2,k2⟩:=r1 (by rw[z];rfl);have me:(List.range k).map (λi=>tA<|NG ts i)=l.map tA:=by rw[<- mp l z,bL];rfl
   rw[me]at e2;rw[e2,R.kO]at e0;refine⟨S2.length,S2++[O.lst<|l.map tA],?_,jT,(k1.trans k2).lay⟩;dsimp[j3,lC,bools,kj,Nat.reduceAdd,Nat.reduceSub,↓G,kH,n8,j,f,aK,m,show(((0:Nat):Int) != 0)=false from rfl,↓e0]
  ·obtain⟨S2,e2,k2⟩:=r2 (by rw[z];rfl);rw[e2]at e0;refine⟨S2,?_,k1.trans k2⟩
   replace e0:_=Am.R.ex "NoText" S2:=e0
   dsimp[j3,lC,bools,kj,Nat.reduceAdd,Nat.reduceSub,↓G,kH,n8,j,f,aK,m,show(((0:Nat):Int) != 0)=false from rfl,↓e0]
end K83
namespace K83
open PySem L2 Am
open Pt (C qx term tQ sg tp rX pT R0 pH tF dg)
def rD{x:Str}{m:Nat}(h:m<10 ^ 30)(e:C x=dg m):num x=some (m:Int):=by
 have:x=Tx.tx (m:Nat):=Pt.ext (by rw[e,Pt.vW]);subst this;unfold num;rw[aQ<|Pn.BY h,Dl h]
def xQ(h:c<48\/57<c):c∉dg m:=λz=>by have:=Pt.sF m c z;omega
def OW{x:Str}{a b:ar}(e:C x=a++118::b)(n:118∉a):pA x=Sp.mk a/\pL x=⟨#[118]⟩/\pB x=Sp.mk b:=by
 unfold pA pL pB;rw[Pt.GG e n];exact⟨rfl,rfl,rfl⟩
def VH{x:Str}(h:118∉C x):pA x=x/\pL x=Str.empty/\pB x=Str.empty:=by
 unfold pA pL pB;rw[Pt.FE h];exact⟨rfl,rfl,rfl⟩
def xV(l:ar):(Sp.mk l).length=l.length:=by rw[<- kK];rfl
def RU{x:Str}(h:42∉C x):C (UM x)=C x:=by
 rw[F1,aO];exact λz=>h<|List.mem_of_getLast? z
abbrev QC (p:Int):ar:=if p=1 then[]else 94::pH p
def HH{p:Int}(h:p≠1):QC p=94::pH p:=aO h
def VB(l:ar):C (Ad<|Sp.mk (94::l))=l:=by
 rw[Mi,Pt.pY];exact aQ rfl
def Wx{p:Int}(hp:p.natAbs<10 ^ 30):rp (Sp.mk<|QC p)=some p:=by
 unfold rp;by_cases c1:p=1
 ·subst c1;rw[aQ<|by rw[xV];rfl]
 ·rw[HH c1,aO<|by rw[xV,aR];omega];have d:=VB<|pH p;by_cases c2:p<0
  ·have ep:pH p=45::dg p.natAbs:=by unfold pH;rw[aQ c2];rfl
   have e1:C (Ad<|Sp.mk (94::pH p))=45::dg p.natAbs:=d.trans ep;rw[aQ<|by rw[e1];rfl];have es:C (Txt.slice (Ad<|Sp.mk (94::pH p)) (some 1) none)=dg p.natAbs:=by
    rw[yO<|by rw[<- kK,e1,aR];omega,e1];rfl
   rw[rD hp es];show some (-((p.natAbs:Nat):Int))=some p;exact cg some<|by omega
  ·have ep:pH p=dg p.natAbs:=by unfold pH;rw[aO c2];rfl
   have e1:C (Ad<|Sp.mk (94::pH p))=dg p.natAbs:=d.trans ep;have hd:((C<|Ad<|Sp.mk (94::pH p)).head? == some 45)=false:=bw.mpr λz=>by
    rw[e1]at z;exact xQ (m:=p.natAbs) (c:=45) (by omega)<|List.mem_of_head? z
   rw[aO<|by rw[hd];exact bh,rD hp e1];exact cg some<|by omega
def OI(q:Int×Int):dash (sg q)=decide (q.2<0):=by
 unfold dash sg qx;by_cases h:q.2<0
 ·rw[aQ h,aJ h];rfl
 ·rw[aO h,aI h];rfl
def Xl{q:Int×Int}(h0:-60<=q.1)(h1:q.1<=60)(h:q.2.natAbs<10 ^ 30):rt (sg q) (term q)=some q:=by
 have ct:=Pn.wM (q:=q) h0;have hp:q.1.natAbs<10 ^ 30:=by omega
 have d:LO (term q)=some q.1/\MX (term q)=some ((q.2.natAbs:Nat):Int):=by
  unfold Pn.uC at ct;by_cases c0:q.1=0
  ·rw[aQ c0]at ct;obtain⟨a,b,_⟩:=VH (x:=term q) (by rw[ct];exact xQ<|by omega);unfold LO MX;rw[b,a];have f:(Str.empty).length=0:=rfl;rw[aQ f,aO λz=>z.1 f,c0];exact⟨rfl,rD h<|by rw[RU<|by rw[ct];exact xQ<|by omega,ct]⟩
  ·rw[aO c0]at ct;have el:(⟨#[118]⟩:Str).length=1:=rfl;by_cases c1:q.2.natAbs=1
   ·rw[aQ c1]at ct;obtain⟨a,b,c⟩:=OW (x:=term q) (a:=[]) (b:=QC q.1) ct fP;unfold LO MX;rw[b,a,c,aO<|show ¬(⟨#[118]⟩:Str).length=0 by rw[el];omega,aQ<|show(⟨#[118]⟩:Str).length≠0/\(Sp.mk []).length=0 from⟨by rw[el];omega,rfl⟩,c1];exact⟨Wx hp,rfl⟩
   ·rw[aO c1]at ct;obtain⟨a,b,c⟩:=OW (x:=term q) (a:=dg q.2.natAbs++[42]) (b:=QC q.1) (by rw[ct,bI];rfl) (λz=>by
     rcases bF.1 z with z|z
     ·exact xQ (by omega) z
     ·have:=aX.1 z;omega)
    unfold LO MX;rw[b,a,c,aO<|show ¬(⟨#[118]⟩:Str).length=0 by rw[el];omega,aO (show ¬((⟨#[118]⟩:Str).length≠0/\(Sp.mk<|dg q.2.natAbs++[42]).length=0)from λz=>by
     have:=z.2;rw[xV,aV,fB]at this;omega)]
    refine⟨Wx hp,rD h ?_⟩;rw[F1,Pt.pY,List.getLast?_concat,aQ rfl,List.dropLast_concat]
 unfold rt;rw[d.1,d.2,bH,cZ,OI];refine cg some ?_;by_cases c:q.2<0
 ·rw[aJ c,aQ rfl];exact Prod.ext rfl (by show -((q.2.natAbs:Nat):Int)=q.2;omega)
 ·rw[aI c,aO bh];exact Prod.ext rfl<|by show((q.2.natAbs:Nat):Int)=q.2;omega
theorem QE:∀{l:List<|Int×Int},(∀q∈l,-60<=q.1/\q.1<=60/\q.2≠0/\q.2.natAbs<10 ^ 30)->prs (rX l)=some l
 | [],_=>rfl
 | q::l,h=>by
  obtain⟨a,b,_,d⟩:=h q<|aT ..;show(rt (sg q)<|term q).bind (λq=>(prs<|rX l).map λl=>q::l)=_;rw[Xl a b d,QE λx f=>h x<|aS _ f];rfl
def SD(q:Int×Int)(l:List<|Int×Int):C (tp (q::l))=R0 q++l.flatMap pT:=rfl
def Tt{q:Int×Int}(h:Pq (q::l)):pP (E7<|tp (q::l))=rX (q::l):=by
 have e:E7 (tp (q::l))=Str.join ⟨#[32]⟩ (rX (q::l)):=by
  apply Pt.ext;rw[K1,Pt.C4,SD];obtain⟨c,r,e,hc,_⟩:=Pt.xX (h.b q<|aT ..).1;unfold R0 qx;by_cases n:q.2<0
  ·rw[aQ n,aQ n];exact aQ rfl
  ·rw[aO n,aO n,cF,aO<|by rw[e];exact λz=>hc<|aU z]
 unfold pP;rw[e,Pt.Im λx d=>(h.b x d).1]
def VJ{q:Int×Int}(h:Pq (q::l)):C (tp (q::l))≠[48]:=λz=>by
 obtain⟨a,b,n,d⟩:=h.b q<|aT ..;rw[SD]at z;have ct:=Pn.wM (q:=q) a;have f:C (term q)≠[]:=by
  obtain⟨c,r,e,_⟩:=Pt.xX a;rw[e];exact λz=>by cases z
 unfold R0 at z;by_cases s:q.2<0
 ·rw[aQ s]at z;exact absurd (cD z).1 ⋯
 ·rw[aO s,cF]at z;have tl:C (term q)=[48]:=by
   cases e:C (term q)with
   | nil=>exact absurd e f
   | cons c r=>
    rw[e]at z;have g:=(cD z);rw[g.1,(List.append_eq_nil_iff.1 g.2).1]
  rw[ct]at tl;unfold Pn.uC at tl;by_cases c0:q.1=0
  ·rw[aQ c0]at tl;have:dg q.2.natAbs=dg 0:=tl;have:=Pt.JS this;omega
  ·rw[aO c0]at tl;by_cases c1:q.2.natAbs=1
   ·rw[aQ c1]at tl;exact absurd (cD tl).1 ⋯
   ·rw[aO c1]at tl;have:=cg List.length tl;have j:=gc.2<|Pt.Hg q.2.natAbs;rw[aV,aR,fB]at this;omega
end K83
namespace K83
open PySem L2 Am
open Pt (C qx term tQ sg tp rX pT R0 pH tF dg)
def Qy{S:jL}{r:Nat}{l:List<|Int×Int}{e:Ex}(f:Int×Int->A)(J:jF S r=some (l.map tA))(L:∀q∈l,∀T,e [.int q.1,.int q.2] T=.ok (f q) T)(U:l.length<=10000) :
  kI [none,none] (mL<|jE 0) (Bj 2<|su (kB 0)<|su (kB 1) A9) kR e [.ref r,a1] S=.ok (.ref S.length) (S++[.lst<|l.map f]):=by
 obtain⟨p,j,m⟩:=sQ (s:=lW r (l.map tA).length) (g:=Bj 2<|su (kB 0)<|su (kB 1) A9) (t:=kR) (e:=e)
  (P:=λS1=>S1=S) (T:=λd=>∃y z,d=[y,z]) (λi=>tA<|l.getD i (0,0)) (λ_=>true) (λi=>f<|l.getD i (0,0))
  (λi S1 hi k=>by
   have hi:i<l.length:=by have:i<(l.map tA).length:=hi;rwa [aK]at this
   show(jF S1 r).bind _=_;rw[k,J,bH,bu,aN,aH hi];rfl)
  (λS1 k=>by
   show(match jF S1 r with
    | some ys=>decide (ys.length<=(l.map tA).length)
    | none=>false)=true
   rw[k,J];simp)
  (λi d S1 hi ⟨y,z,hy⟩ k=>by
   have hi:i<l.length:=by have:i<(l.map tA).length:=hi;rwa [aK]at this
   subst hy k;have B:l.getD i (0,0)∈l:=by rw[aN,aH hi];exact cJ hi
   exact⟨[.int (l.getD i (0,0)).1,.int (l.getD i (0,0)).2],S1,S1,by dsimp[j3,bools,j9<|show([_,_]:ae).length=2 from rfl],rfl,⟨_,_,rfl⟩,λ_=>rfl,λ_=>⟨S1,L _ B S1,rfl⟩⟩)
  (l.map tA).length 0 (mH [none,none] [.ref r,a1]) S rfl ⟨_,_,rfl⟩ rfl
 subst m;have C:((List.range' 0 (l.map tA).length).filter λ_=>true).map (λi=>f<|l.getD i (0,0))=l.map f:=by
  rw[cI.mpr λ_ _=>rfl,aK];refine eN λi=>?_;rw[bu,bu,<- cW];by_cases hi:i<l.length
  ·rw[dZ hi,aH hi,cZ,cZ,aN,aH hi];rfl
  ·rw[bN<|by rw[bW];omega,bN<|by omega];rfl
 rw[C]at j;unfold kI;rw[rq (S1:=p) (by dsimp[j3,bools]) J,R.kO];show R.pR (nj (lW r (l.map tA).length) _ _ _ (l.map tA).length 0 _ _) _=_;rw[j,R.kY,lg<|by rw[aK];omega]
abbrev Wb (l:List<|Int×Int):Prop:=l.length<=40/\(l.map Prod.fst).Pairwise (· < ·)/\∀q∈l,q.2≠0/\q.1.natAbs<=60
def QI{l:List<|Int×Int}(hb:∀q∈l,q.1.natAbs<10 ^ 30/\q.2.natAbs<10 ^ 30):Wb l ↔ Pq l:=
 ⟨λh=>⟨λq d=>by
  obtain⟨a,b⟩:=h.2.2 q d;exact⟨by omega,by omega,a,(hb q d).2⟩,fY.mp h.2.1,h.1⟩,
  λh=>⟨h.len,fY.mpr h.up,λq d=>by
  obtain⟨a,b,c,_⟩:=h.b q d;exact⟨c,by omega⟩⟩⟩
def HR(ps:ag):ps=sortI (Gg ps) ↔ ps.Pairwise (· < ·):=by
 constructor
 ·intro h;have d:(sortI<|Gg ps).Nodup:=(sortI_perm _).nodup_iff.mpr<|Kg ps;rw[h];refine(List.Pairwise.and (qe<|Gg ps) d).imp λh=>?_;have:=h.1;have:=h.2;omega
 ·intro h;have e:Gg ps=ps:=(DT ps []<|h.imp λh=>Int.ne_of_lt h).trans<|cF _;rw[e];exact yK (sortI_perm ps).symm (h.imp λh=>Int.le_of_lt h)<|qe ps
abbrev NF (q:Int×Int):Bool:=decide (q.2≠0) && decide (q.1.natAbs<=60)
def WR{r:Nat}{l:List<|Int×Int}(hl:l.length<=2000)(Z:jF S r=some (l.map tA)):(Wb l->∃S',kQ [.ref r] S=.ok (.bl true) S'/\lH S S')/\(¬Wb l->∃S',kQ [.ref r] S=.ok (.bl false) S'/\lH S S'):=by
 have c1:=Qy (S:=S) (a1:=.unb) (e:=jE 0) (λq=>.int q.1) Z (λq _ T=>rfl) (by omega);obtain⟨S1,j⟩:∃S1,S1=S++[O.lst<|l.map λq=>A.int q.1]:=⟨_,rfl⟩;have k1:lH S S1:=by rw[j];exact Kp.refl.lay
 have U:(l.map λq=>A.int q.1)=(l.map Prod.fst).map .int:=by rw[bL];rfl
 have J:jF S1 S.length=some ((l.map Prod.fst).map .int):=by rw[j,<- U];exact jT
 rw[<- j]at c1;have m:=k1.lst _ _ (λz=>z) Z;unfold kQ kZ oh;by_cases k:l.length<=40
 ·obtain⟨d,f⟩:∃d,d=S1++[O.lst<|(sortI<|Gg<|l.map Prod.fst).map .int]:=⟨_,rfl⟩;have k2:lH S1 d:=by rw[f];exact Kp.refl.lay
  have P:jF d S1.length=some ((sortI<|Gg<|l.map Prod.fst).map .int):=by rw[f];exact jT
  have K:VZ (.ref S.length) S1=.ok (.ref S1.length) d:=by
   show opt (jF S1 S.length) _=_;rw[J,kD,ints_map,kD,f];exact j9<|by rw[aK];omega
  have e2:mJ true (.ref S.length) (.ref S1.length) d=.ok (.bl<|!decide (l.map Prod.fst=sortI (Gg<|l.map Prod.fst))) d:=Nk<|Hi (k2.lst _ _ (λz=>z) J) P;by_cases p:(l.map Prod.fst).Pairwise (· < ·)
  ·rw[aJ<|(HR _).mpr p]at e2;have r2:=k2.lst _ _ (λz=>z) m;have c2:=Qy (S:=d) (a1:=.ref S.length) (e:=zw (jJ (mJ true) (jE 1)<|eC<|.int 0)<|jJ Ay (jV (f1 Ih)<|jC (jE 0) jK)<|eC<|.int 60) (λq=>.bl<|NF q) r2 (λq F T=>by
    unfold NF;by_cases C:q.2=0
    ·have B:(q.2 == 0)=true:=dW.mpr C;dsimp[j3,lC,bools,B,bg,aI<|show ¬q.2≠0 from λz=>z C,cT]
    ·have B:(q.2 == 0)=false:=bw.mpr C;by_cases N:q.1.natAbs<=60
     ·dsimp[j3,lC,bools,B,bA,abs_eq,aJ<|show((q.1.natAbs:Nat):Int)<=60 by omega,aJ<|show q.2≠0 from C,aJ N,Bool.and_self]
     ·dsimp[j3,lC,bools,B,bA,abs_eq,aI<|show ¬((q.1.natAbs:Nat):Int)<=60 by omega,aI N,fu])<|by omega
   have V:(l.map λq:Int×Int=>A.bl<|NF q)=(l.map NF).map A.bl:=by rw[bL];rfl
   rw[V]at c2;have L:=vP (S:=d) (bs:=l.map NF);rw[all_map]at L;have G:l.all NF=true ↔ Wb l:=by
    rw[cV];constructor
    ·intro z;refine⟨k,p,λq F=>?_⟩;have:=z q F;unfold NF at this;rw[bE]at this;exact⟨bO this.1,bO this.2⟩
    ·intro z q F;obtain⟨a,b⟩:=z.2.2 q F;unfold NF;rw[aJ a,aJ b];rfl
   have g:mP ["poly", "powers"] kZ [.ref r] S=.ok (.bl<|l.all NF) (d++[O.lst<|(l.map NF).map .bl]):=by
    unfold kZ;dsimp[j3,lC,bools,kj,Nat.reduceAdd,Nat.reduceSub,↓c1,m,aK,aI<|show ¬((l.length:Int)>40)by omega,O0,K,e2,bg,↓c2,L]
   unfold kZ at g;refine⟨λz=>⟨_,by rw[g,G.mpr z],(k1.trans k2).lay⟩,λz=>⟨_,by rw[g,dU.mpr λy=>z<|G.mp y],(k1.trans k2).lay⟩⟩
  ·rw[aI λz=>p<|(HR _).mp z]at e2;refine⟨λz=>absurd z.2.1 p,λ_=>⟨d,?_,k1.trans k2⟩⟩;dsimp[j3,lC,bools,kj,Nat.reduceAdd,Nat.reduceSub,↓c1,m,aK,aI<|show ¬((l.length:Int)>40)by omega,O0,K,e2,bA]
 ·refine⟨λz=>absurd z.1 k,λ_=>⟨S1,?_,k1⟩⟩;dsimp[j3,lC,bools,kj,Nat.reduceAdd,Nat.reduceSub,↓c1,m,aK,aJ<|show((l.length:Int)>40)by omega]
abbrev vU (x:Str)(l:List<|Int×Int):Prop:=Pq l/\x=tp l
def BV{x:Str}(h:vU x l):(C x=[48]/\l=[])\/(C x≠[48]/\prs (pP<|E7 x)=some l):=by
 obtain⟨h,e⟩:=h;subst e
 cases l with
 | nil=>exact .inl ⟨by decide +kernel,rfl⟩
 | cons q l=>exact .inr ⟨VJ h,by rw[Tt h,QE h.b]⟩
def Nj:Pq []:=⟨λq z=>(by cases z),List.Pairwise.nil,cz _⟩
def KN{x:Str}(h:Pl x)(hl:x.length<=900):(∀l,vU x l->∃(W:Nat) (S':jL),lG [.str x] S=.ok (.ref W) S'/\jF S' W=some (l.map tA)/\lH S S')/\((∀l,¬vU x l)->∃S',lG [.str x] S=.ex "NoText" S'/\lH S S'):=by
 have e0:mJ false (.str x) (.str<|PySem.Str.ofString "0") S=.ok (.bl<|decide<|C x=[48]) S:=by rw[qp,eq_0]
 have d:∀(W:Nat) (S1:jL) (l:List<|Int×Int),(∀q∈l,q.1.natAbs<10 ^ 30/\q.2.natAbs<10 ^ 30)->l.length<=2000->jF S1 W=some (l.map tA)->lH S S1->z_ (oH<|jJ (mJ false) (jE 0)<|eC<|.str<|PySem.Str.ofString "0") (oQ jK) (qw mS<|jC (jE 0) jK) [.str x,.unb] S=.ok (.ref W) S1 ->
   (vU x l->∃(W:Nat) (S':jL),lG [.str x] S=.ok (.ref W) S'/\jF S' W=some (l.map tA)/\lH S S')/\(¬vU x l->∃S',lG [.str x] S=.ex "NoText" S'/\lH S S'):=λW S1 l B K J k1 e=>by
  obtain⟨V,P⟩:=WR K J;unfold lG qG qH;by_cases j:Wb l
  ·obtain⟨f,e2,k2⟩:=V j;have F:=(QI B).mp j;have G:=k2.lst _ _ (λz=>z) J;have e3:=N5 F G;have g:mJ true (.str<|tp l) (.str x) f=.ok (.bl<|!(tp l == x)) f:=Fj;refine⟨λt=>⟨W,f,?_,G,k1.trans k2⟩,λt=>⟨f,?_,k1.trans k2⟩⟩
   ·rw[t.2.symm,bx]at g;dsimp[j3,lC,bools,kj,Nat.reduceAdd,Nat.reduceSub,↓e,e2,bg,e3,t.2.symm,g]
   ·rw[bw.mpr λz=>t ⟨F,z.symm⟩]at g;dsimp[j3,lC,bools,kj,Nat.reduceAdd,Nat.reduceSub,↓e,e2,bg,e3,g,bA]
  ·obtain⟨f,e2,k2⟩:=P j;refine⟨λt=>absurd ((QI B).mpr t.1) j,λt=>⟨f,?_,k1.trans k2⟩⟩;dsimp[j3,lC,bools,kj,Nat.reduceAdd,Nat.reduceSub,↓e,e2,bA]
 by_cases z:C x=[48]
 ·rw[aJ z]at e0;have U:newL [] S=.ok (.ref S.length) (S++[O.lst []]):=lI (show 0<=16777216 by decide);obtain⟨m,p⟩:=d S.length (S++[O.lst []]) [] (λq y=>by cases y) (cz _) jT Kp.refl.lay (by dsimp[j3,lC,bools,e0,U]);have T:vU x []:=⟨Nj,Pt.ext<|by rw[z];decide +kernel⟩;refine⟨λl t=>?_,λt=>p<|t []⟩
  rcases BV t with⟨_,y⟩|⟨y,_⟩
  ·rw[y];exact m T
  ·exact absurd z y
 ·rw[aI z]at e0;obtain⟨r1,r2⟩:=Wf (S:=S) h hl;have ex:∀l,vU x l->prs (pP<|E7 x)=some l:=λl t=>by
   rcases BV t with⟨y,_⟩|⟨_,y⟩
   ·exact absurd y z
   ·exact y
  cases hp:prs (pP<|E7 x)with
  | none=>
   obtain⟨S',e,k⟩:=r2 hp;refine⟨λl t=>(by have:=ex l t;rw[hp]at this;cases this),λ_=>⟨S',?_,k⟩⟩;unfold lG qG qH;dsimp[j3,lC,bools,kj,Nat.reduceAdd,Nat.reduceSub,e0,e]
  | some l=>
   obtain⟨W,S1,e,w,k⟩:=r1 l hp;obtain⟨L,Y⟩:=Q5 hp;have Z:=(pV<|Em h hl).2.1;have ll:=(Em h hl).le;obtain⟨m,p⟩:=d W S1 l L (by omega) w k (by dsimp[j3,lC,bools,e0,e]);refine⟨λN t=>?_,λt=>p<|t l⟩;have:=ex N t;rw[hp]at this
   cases this
   exact m t
end K83
namespace Pn
open PySem L2 Pt
def G8(y:Str){lo:bo}{a b:Nat}(J:a<=b)(hb:b<=y.length)(e:Builtin.Str.strSliceIndices lo hi 1 y.length=Builtin.Str.strSliceIndices (some (a:Int)) (some (b:Int)) 1 y.length):C (Txt.slice y lo hi)=((C y).drop a).take (b-a):=by
 have g:(C y).length=y.length:=(Sp.size_eq y).symm;unfold Txt.slice;rw[e];split
 ·rename_i z;rw[fQ J hb]at z;have z:b-a=y.length:=by simpa using z
  by_cases p:y.length=0
  ·have:C y=[]:=eF (by rw[g];exact p);rw[this,drop_nil,List.take_nil]
  ·have a0:a=0:=by omega
   rw[a0,dY,cX<|by rw[g];omega]
 ·have B:=fQ J hb;show(Builtin.Str.strSliceIndices (some (a:Int)) (some (b:Int)) 1 y.length).filterMap (y.cps[·]?)=_;rw[B,gC];refine eN λi=>?_;have f:(List.range<|b-a).filterMap ((λx=>y.cps[x]?) ∘ λk=>a+k)=(List.range<|b-a).map λj=>(C y).getD (a+j) 0:=by
   refine Ea _ λj m=>?_;have:=dF.mp m;have lt:a+j<(C y).length:=by omega
   show y.cps[a+j]?=some ((C y).getD (a+j) 0);rw[<- dM,aN,aH lt];rfl
  rw[f,bu];by_cases d:i<b-a
  ·have lt:a+i<(C y).length:=by omega
   rw[dZ d,gh d,gH,aH lt,cZ,aN,aH lt];rfl
  ·rw[bN<|by rw[bW];omega,bN<|by rw[cU];omega];rfl
def WI(y:Str){a k:Nat}{lo:bo}(J:a<=y.length)(h1:lo=some (a:Int))(j:hi=some ((a+k:Nat):Int)):C (Txt.slice y lo hi)=((C y).drop a).take k:=by
 have d:(C y).length=y.length:=(Sp.size_eq y).symm;subst h1 j;rw[G8 y (a:=a) (b:=min (a+k) y.length) (by omega) (by omega) ?_]
 ·by_cases h:a+k<=y.length
  ·rw[iL h,Nat.add_sub_cancel_left]
  ·rw[Nat.min_eq_right<|by omega,cX<|by rw[cE];omega,cX<|by rw[cE];omega]
 ·unfold Builtin.Str.strSliceIndices;dsimp[show((1:Int)>0)=True from by simp,dB];congr 1;rw[aO<|by omega,aO<|by omega];omega
def G5(y:Str)(k:Nat):C (Txt.slice y none<|some (k:Int))=(C y).take k:=by
 have d:(C y).length=y.length:=(Sp.size_eq y).symm;rw[G8 y (a:=0) (b:=min k y.length) (cz _) (by omega) ?_]
 ·rw[dY,iU];by_cases h:k<=y.length
  ·rw[iL h]
  ·rw[Nat.min_eq_right<|by omega,cX<|by omega,cX<|by omega]
 ·unfold Builtin.Str.strSliceIndices;dsimp[show((1:Int)>0)=True from by simp,dB];congr 1;rw[aO<|by omega,aO<|by omega];omega
def KS(y:Str)(h:1<=y.length):C (Txt.slice y none<|some<|-1)=(C y).dropLast:=by
 have d:(C y).length=y.length:=(Sp.size_eq y).symm;rw[G8 y (a:=0) (b:=y.length-1) (cz _) (by omega) ?_]
 ·rw[dY,iU,List.dropLast_eq_take,d]
 ·unfold Builtin.Str.strSliceIndices;dsimp[show((1:Int)>0)=True from by simp,dB];congr 1;rw[aQ ⋯,aO<|by omega];omega
end Pn
namespace K83
open PySem L2 Am
open Pt (C qx term tQ sg tp rX pT R0 pH tF dg)
abbrev oI (o:bo):A:=match o with
 | none=>.non
 | some v=>.int v
def BU{x:Str}(h:Pl x):∃S',ki [.str x] S=.ok (oI<|num x) S'/\lH S S':=by
 obtain⟨S',e,k⟩:=LL (S:=S) h;refine⟨S',?_,k⟩;rw[e];show R.ok (if Pn.lA (C x)=true then A.int (nv x)else .non) S'=_;unfold num;split<;>rfl
abbrev low (y:Str):Bool:=decide<|(C y).take 2=[94,45]
abbrev NB (y:Str):bo:=if y.length=0 then some 1 else if low y=true then(num<|Txt.slice y (some 2) none).bind λn=>if n=0 then none else some (-n)else(num<|Txt.slice y (some 1) none).bind λn=>if (C y).head?≠some 94\/n=0\/n=1 then none else some n
def M4(h:Pl y){k:Nat}(e:C z=(C y).drop k):Pl z:=
 uW h (λc hc=>by rw[e]at hc;exact List.mem_of_mem_drop hc) (by rw[e,cE];omega)
def Qz(n:Int)(S:jL):oR (.int n) (.int 1) S=.ok (.int n) S:=by rw[mul_r ⋯ ⋯,fZ]
def RY(n:Int)(S:jL):oR (.int n) (.int<|-1) S=.ok (.int<|-n) S:=by rw[mul_r ⋯ ⋯,mul_neg,fZ]
def mul_0(n:Int)(S:jL):oR (.int n) (.int 0) S=.ok (.int 0) S:=by rw[mul_r ⋯ ⋯,Int.mul_zero]
def yD{i:Int}:Aa false (.int i) .non S=.ok (.bl false) S:=rfl
def VQ(h:Pl y):∃S',nH [.str y] S=.ok (oI<|NB y) S'/\lH S S':=by
 have G:=h.le;have e0:mJ false (.str y) (.str<|PySem.Str.ofString "") S=.ok (.bl<|decide<|y.length=0) S:=by rw[qp,Tx.wK]
 unfold nH qh qc NB;by_cases h0:y.length=0
 ·rw[aJ h0]at e0;rw[aQ h0];exact⟨S,by dsimp[j3,bools,kj,Nat.reduceAdd,Nat.reduceSub,e0];rfl,Kp.refl⟩
 ·rw[aI h0]at e0;rw[aO h0];obtain⟨c,l,B⟩:∃c l,C y=c::l:=by
   cases e:C y with
   | nil=>exact absurd (by rw[<- kK,e];rfl) h0
   | cons c l=>exact⟨c,l,rfl⟩
  have s2:ou (jE 0) lP (kP<|eC<|.int 2) [.str y,.unb,.unb] S=.ok (.str<|Txt.slice y none<|some 2) S:=by
   show gd ((Txt.slice y none<|some 2).length<=sizeLine) (R.ok (A.str<|Txt.slice y none<|some 2) S)=_;refine j9 ?_;have:=Pn.G5 y 2;rw[<- kK,show C (Txt.slice y none<|some 2)=_ from this,cU,bB];omega
  have f:mJ false (.str<|Txt.slice y none<|some 2) (.str<|PySem.Str.ofString "^-") S=.ok (.bl<|low y) S:=by
   rw[qp];refine cg (λz=>R.ok (A.bl z) S) ?_;unfold low;have e:=Pn.G5 y 2;rw[<- e];by_cases q:Txt.slice y none (some 2)=PySem.Str.ofString "^-"
   ·rw[dW.mpr q,aJ<|by rw[show Txt.slice y none (some ((2:Nat):Int))=_ from q];decide +kernel]
   ·rw[bw.mpr q,show decide (C (Txt.slice y none<|some ((2:Nat):Int))=[94,45])=false from aI λz=>q<|Pt.ext<|jA (show C (Txt.slice y none<|some 2)=[94,45]from z)<|show[94,45]=C (PySem.Str.ofString "^-")by decide +kernel]
  have a0:∀T:jL,oJ (.str y) (.int 0) T=.ok (.str ⟨#[c]⟩) T:=λT=>Wt h B;have g:∀T:jL,mJ true (.str ⟨#[c]⟩) (.str<|PySem.Str.ofString "^") T=.ok (.bl<|!decide (c=94)) T:=λT=>by
   rw[Fj];refine cg (λz=>R.ok (A.bl !z) T) ?_;have:PySem.Str.ofString "^" = ⟨#[94]⟩:=by decide +kernel
   rw[this];by_cases q:c=94
   ·subst q;rfl
   ·rw[aI q,bw.mpr λz=>q (by injection z with z;have:=cg Array.toList z;exact(cD this).1)]
  have hd:(C y).head?=some c:=by rw[B];rfl
  cases hw:low y with
  | true=>
   rw[hw]at f;rw[aQ rfl];have tk:(C y).take 2=[94,45]:=bO hw;have F:2<=y.length:=by
    have:=cg List.length tk;rw[cU,kK]at this;have:min 2 y.length=2:=this;omega
   have d:c=94:=by
    rw[B]at tk;exact(cD tk).1
   subst d;have e3:C (Txt.slice y (some 2) none)=(C y).drop 2:=Pt.mO y (k:=2) F;have p3:=M4 h e3;obtain⟨S1,e1,k1⟩:=BU (S:=S) p3;have s3:ou (jE 0) (kP<|jJ kq (eC<|.int 1)<|jV (f1 mG)<|jC (jE 1) jK) lP [.str y,.bl true,.unb] S=.ok (.str<|Txt.slice y (some 2) none) S:=by
    show gd ((Txt.slice y (some 2) none).length<=sizeLine) (R.ok (A.str<|Txt.slice y (some 2) none) S)=_;exact j9 (by have:=p3.le;rw[bB];omega)
   refine⟨S1,?_,k1⟩
   cases hn:num (Txt.slice y (some 2) none)with
   | none=>
    rw[hn]at e1;dsimp[j3,lC,bools,kj,Nat.reduceAdd,Nat.reduceSub,e0,↓s2,f,↓s3,e1,oI,a0,g,jo,f9,bg,qA,iB]
   | some n=>
    rw[hn]at e1;rw[bH];by_cases j:n=0
    ·subst j;dsimp[j3,lC,bools,kj,Nat.reduceAdd,Nat.reduceSub,e0,↓s2,f,↓s3,e1,oI,a0,g,jo,f9,bg,yD,bx,dB]
    ·have b0:(n == 0)=false:=bw.mpr j;by_cases m:n=1
     ·subst m;dsimp[j3,lC,bools,kj,Nat.reduceAdd,Nat.reduceSub,e0,↓s2,f,↓s3,e1,oI,a0,g,jo,f9,bg,yD,b0,aO j,bx];rfl
     ·have p:(n == 1)=false:=bw.mpr m;dsimp[j3,lC,bools,kj,Nat.reduceAdd,Nat.reduceSub,e0,↓s2,f,↓s3,e1,oI,a0,g,jo,f9,bg,yD,b0,p,aO j,dB,Qz,Int.reduceSub,RY]
  | false=>
   rw[hw]at f;rw[aO bh];have e3:C (Txt.slice y (some 1) none)=(C y).drop 1:=Pt.mO y (k:=1) (by omega);have p3:=M4 h e3;obtain⟨S1,e1,k1⟩:=BU (S:=S) p3;have s3:ou (jE 0) (kP<|jJ kq (eC<|.int 1)<|jV (f1 mG)<|jC (jE 1) jK) lP [.str y,.bl false,.unb] S=.ok (.str<|Txt.slice y (some 1) none) S:=by
    show gd ((Txt.slice y (some 1) none).length<=sizeLine) (R.ok (A.str<|Txt.slice y (some 1) none) S)=_;exact j9 (by have:=p3.le;rw[bB];omega)
   refine⟨S1,?_,k1⟩;rw[hd];by_cases d:c=94
   ·subst d
    cases hn:num (Txt.slice y (some 1) none)with
    | none=>
     rw[hn]at e1;dsimp[j3,lC,bools,kj,Nat.reduceAdd,Nat.reduceSub,e0,↓s2,f,↓s3,e1,oI,a0,g,jo,f9,bg,qA,iB]
    | some n=>
     rw[hn]at e1;rw[bH];by_cases j:n=0
     ·subst j;rw[aQ<|.inr<|.inl rfl];dsimp[j3,lC,bools,kj,Nat.reduceAdd,Nat.reduceSub,e0,↓s2,f,↓s3,e1,oI,a0,g,jo,f9,bg,yD,bx]
     ·have b0:(n == 0)=false:=bw.mpr j;by_cases m:n=1
      ·subst m;rw[aQ<|.inr<|.inr rfl];dsimp[j3,lC,bools,kj,Nat.reduceAdd,Nat.reduceSub,e0,↓s2,f,↓s3,e1,oI,a0,g,jo,f9,bg,bA,yD,b0,bx]
      ·have p:(n == 1)=false:=bw.mpr m;rw[aO λz=>z.elim (λz=>z rfl) λz=>z.elim j m];dsimp[j3,lC,bools,kj,Nat.reduceAdd,Nat.reduceSub,e0,↓s2,f,↓s3,e1,oI,a0,g,jo,f9,bg,yD,b0,p,bZ,dS,mul_0,Int.reduceSub,Qz]
   ·have:(num<|Txt.slice y (some 1) none).bind (λn=>if some c≠some 94\/n=0\/n=1 then none else some n)=none:=by
     cases num (Txt.slice y (some 1) none)with
     | none=>rfl
     | some n=>exact aQ<|.inl λz=>d<|aU z
    rw[this];dsimp[j3,lC,bools,kj,Nat.reduceAdd,Nat.reduceSub,e0,↓s2,f,↓s3,e1,a0,g,aI d,bA,oI]
end K83
namespace K83
open PySem L2 Am
open Pt (C qx term tQ sg tp rX pT R0 pH tF dg)
abbrev oT (o:Option<|Int×Int):A:=match o with
 | none=>.non
 | some q=>tA q
abbrev Jf (x:Str):Option (Int×Int):=if (pL x).length=0 then(num x).bind λn=>if n=0 then none else some (0,n)
 else if (pA x).length=0 then(NB<|pB x).map λp=>(p,1)
 else(num<|Txt.slice (pA x) none<|some<|-1).bind λn=>if (C<|pA x).getLast?≠some 42\/n<2 then none else(NB<|pB x).map λp=>(p,n)
def Ol{α:Type}{l:List α}{c:α}(h:l.getLast?=some c):qE l (-1)=some c:=by
 have n:l≠[]:=λz=>by rw[z]at h;cases h
 have e:=eS n;rw[eG n]at h;rw[aU h]at e;rw[<- e];exact L2.C2 _ _
def B9:oI none=.non:=rfl
def Ca(v:Int):oI (some v)=.int v:=rfl
def Ak:oT none=.non:=rfl
def Ai(q:Int×Int):oT (some q)=tA q:=rfl
def US{x:Str}(h:Pl x):∃S',m_ [.str x] S=.ok (oT<|Jf x) S'/\lH S S':=by
 obtain⟨B,N,J⟩:=zd h;have p1:=FP (S:=S) h;have e0:∀T:jL,mJ false (.str<|pL x) (.str<|PySem.Str.ofString "") T=.ok (.bl<|decide<|(pL x).length=0) T:=λT=>by rw[qp,Tx.wK]
 have e1:∀T:jL,mJ false (.str<|pA x) (.str<|PySem.Str.ofString "") T=.ok (.bl<|decide<|(pA x).length=0) T:=λT=>by rw[qp,Tx.wK]
 unfold m_ rK qO Jf;by_cases G:(pL x).length=0
 ·rw[aQ G];rw[aJ G]at e0;obtain⟨S1,d,k1⟩:=BU (S:=S) h;refine⟨S1,?_,k1⟩
  cases hn:num x with
  | none=>
   rw[hn]at d;dsimp[j3,lC,bools,kj,Nat.reduceAdd,Nat.reduceSub,kH,n8,p1,j9<|show([_,_,_]:ae).length=3 from rfl,e0,d,B9,Ca,qA,iB,Ak,Ai]
  | some n=>
   rw[hn]at d;rw[bH];by_cases K:n=0
   ·subst K;dsimp[j3,lC,bools,kj,Nat.reduceAdd,Nat.reduceSub,kH,n8,p1,j9<|show([_,_,_]:ae).length=3 from rfl,e0,d,B9,Ca,yD,bx,dB,Ak,Ai]
   ·have b0:(n == 0)=false:=bw.mpr K;dsimp[j3,lC,bools,kj,Nat.reduceAdd,Nat.reduceSub,kH,n8,p1,j9<|show([_,_,_]:ae).length=3 from rfl,e0,d,B9,Ca,yD,b0,aO K,Ak,Ai,zy,zU]
 ·rw[aO G];rw[aI G]at e0;obtain⟨S1,ep,k1⟩:=VQ (S:=S) J;by_cases k:(pA x).length=0
  ·rw[aQ k];rw[aJ k]at e1;refine⟨S1,?_,k1⟩
   cases hp:NB (pB x)with
   | none=>
    rw[hp]at ep;dsimp[j3,lC,bools,kj,Nat.reduceAdd,Nat.reduceSub,kH,n8,p1,j9<|show([_,_,_]:ae).length=3 from rfl,e0,e1,ep,B9,Ca,qA,Option.map_none,Ak,Ai]
   | some p=>
    rw[hp]at ep;dsimp[j3,lC,bools,kj,Nat.reduceAdd,Nat.reduceSub,kH,n8,p1,j9<|show([_,_,_]:ae).length=3 from rfl,e0,e1,ep,B9,Ca,yD,cZ,Ak,Ai,zy,zU]
  ·rw[aO k];rw[aI k]at e1;have L:=Pn.KS (pA x) (by omega);have p3:Pl (Txt.slice (pA x) none<|some<|-1):=uW B (λc hc=>by rw[L]at hc;exact(List.dropLast_sublist _).subset hc) (by rw[L,List.length_dropLast];omega);obtain⟨j,d,k2⟩:=BU (S:=S1) p3;have s3:∀a:A,ou (jE 1) lP (kP<|Cr sU<|eC<|.int 1) [.str x,.str<|pA x,.str<|pL x,.str<|pB x,.unb,a] S1=.ok (.str<|Txt.slice (pA x) none<|some<|-1) S1:=λa=>by
    show gd ((Txt.slice (pA x) none<|some<|-1).length<=sizeLine) (R.ok (A.str<|Txt.slice (pA x) none<|some<|-1) S1)=_;exact j9 (by have:=p3.le;rw[bB];omega)
   obtain⟨c,hc⟩:∃c,(C<|pA x).getLast?=some c:=by
    have n:C (pA x)≠[]:=λz=>k (by rw[<- kK,z];rfl);exact⟨_,eG n⟩
   have m:oJ (.str<|pA x) (.int<|-1) j=.ok (.str ⟨#[c]⟩) j:=by
    show gd _ (opt (qE (pA x).cps.toList<|-1) _)=_;rw[j9 (by rw[bB];have:=B.le;omega),show qE (pA x).cps.toList (-1)=some c from Ol hc];rfl
   have f:mJ true (.str ⟨#[c]⟩) (.str<|PySem.Str.ofString "*") j=.ok (.bl<|!decide (c=42)) j:=by
    rw[Fj];refine cg (λz=>R.ok (A.bl !z) j) ?_;have:PySem.Str.ofString "*" = ⟨#[42]⟩:=by decide +kernel
    rw[this];by_cases q:c=42
    ·subst q;rfl
    ·rw[aI q,bw.mpr λz=>q (by injection z with z;have:=cg Array.toList z;exact(cD this).1)]
   refine⟨j,?_,k1.trans k2⟩;rw[hc];generalize num (Txt.slice (pA x) none<|some<|-1)=nn at d ⊢;generalize NB (pB x)=pp at ep ⊢;by_cases g:c=42
   ·subst g;rw[aJ rfl]at f
    cases nn with
    | none=>dsimp[j3,lC,bools,kj,Nat.reduceAdd,Nat.reduceSub,kH,n8,p1,j9<|show([_,_,_]:ae).length=3 from rfl,e0,e1,ep,↓s3,d,m,f,bg,B9,Ca,qA,iB,Ak,Ai]
    | some n=>
     rw[bH];by_cases F:n<2
     ·rw[aQ<|.inr F];dsimp[j3,lC,bools,kj,Nat.reduceAdd,Nat.reduceSub,kH,n8,p1,j9<|show([_,_,_]:ae).length=3 from rfl,e0,e1,ep,↓s3,d,m,f,bg,B9,Ca,yD,aJ F,Ak,Ai]
     ·rw[aO λz=>z.elim (λz=>z rfl) F]
      cases pp with
      | none=>dsimp[j3,lC,bools,kj,Nat.reduceAdd,Nat.reduceSub,kH,n8,p1,j9<|show([_,_,_]:ae).length=3 from rfl,e0,e1,ep,↓s3,d,m,f,bg,B9,Ca,yD,aI F,qA,Option.map_none,Ak,Ai]
      | some p=>dsimp[j3,lC,bools,kj,Nat.reduceAdd,Nat.reduceSub,kH,n8,p1,j9<|show([_,_,_]:ae).length=3 from rfl,e0,e1,ep,↓s3,d,m,f,bg,B9,Ca,yD,aI F,cZ,Ak,Ai,zy,zU]
   ·rw[aI g]at f;have:nn.bind (λn=>if some c≠some 42\/n<2 then none else pp.map λp=>(p,n))=none:=by
     cases nn with
     | none=>rfl
     | some n=>exact aQ<|.inl λz=>g<|aU z
    rw[this];dsimp[j3,lC,bools,kj,Nat.reduceAdd,Nat.reduceSub,kH,n8,p1,j9<|show([_,_,_]:ae).length=3 from rfl,e0,e1,ep,↓s3,d,m,f,bA,Ak,Ai]
end K83
namespace K83
open PySem L2 Am
open Pt (C qx term tQ sg tp rX pT R0 pH tF dg)
def GC{x:Str}{v:Int}(h:num x=some v):∃m:Nat,v=m/\m<10 ^ 30/\C x=dg m:=by
 unfold num at h;by_cases q:Pn.lA (C x)=true
 ·rw[aQ q]at h;obtain⟨m,d,e⟩:=Pn.BA q;rw[e,Dl d]at h
  cases h
  exact⟨m,rfl,d,by rw[e,Pt.vW]⟩
 ·rw[aO q]at h;cases h
def FO {m:Nat}(h:m≠0):pH (-(m:Int))=45::dg m:=by
 unfold pH;rw[aQ<|by omega,f7,dH];rfl
def Gk(m:Nat):pH (m:Int)=dg m:=by
 unfold pH;rw[aO<|by omega,dH];rfl
def P5{p:Int}(h:NB y=some p):p≠0/\p.natAbs<10 ^ 30/\C y=QC p:=by
 unfold NB at h;by_cases h0:y.length=0
 ·rw[aQ h0]at h
  cases h
  exact⟨by decide,(by omega:(1:Nat)<10 ^ 30),eF<|by rw[kK];exact h0⟩
 ·rw[aO h0]at h
  cases hw:low y with
  | true=>
   rw[hw,aQ rfl]at h;have tk:(C y).take 2=[94,45]:=bO hw;have g:=Pn.take2 tk;obtain⟨n,hn,h⟩:=bC.1 h;obtain⟨m,rfl,f,d⟩:=GC hn;by_cases j:(m:Int)=0
   ·rw[aQ j]at h;cases h
   ·rw[aO j]at h
    cases h
    have e3:C (Txt.slice y (some 2) none)=(C y).drop 2:=Pt.mO y (k:=2) (by rw[<- kK,g,aR,aR];omega);rw[e3]at d;refine⟨by omega,by rw[f7];exact f,?_⟩;rw[HH<|by omega,FO<|by omega,<- d];exact g
  | false=>
   rw[hw,aO bh]at h;obtain⟨n,hn,h⟩:=bC.1 h;obtain⟨m,rfl,f,d⟩:=GC hn;by_cases q:(C y).head?≠some 94\/(m:Int)=0\/(m:Int)=1
   ·rw[aQ q]at h;cases h
   ·rw[aO q]at h
    cases h
    have B:(m:Int)≠1:=λz=>q<|.inr<|.inr z;have e3:C (Txt.slice y (some 1) none)=(C y).drop 1:=Pt.mO y (k:=1) (by omega);rw[e3]at d;refine⟨λz=>q<|.inr<|.inl z,by rw[dH];exact f,?_⟩;rw[HH B,Gk,<- d];have hd:(C y).head?=some 94:=d_ λz=>q (.inl z)
    cases e:C y with
    | nil=>rw[e]at hd;cases hd
    | cons c l=>
     rw[e]at hd;rw[aU hd];rfl
def Mp{p:Int}(h0:p≠0)(hp:p.natAbs<10 ^ 30)(e:C y=QC p):NB y=some p:=by
 unfold NB;by_cases c1:p=1
 ·subst c1;rw[aQ<|by rw[<- kK,e];rfl]
 ·rw[HH c1]at e;have d:y.length=(pH p).length+1:=by rw[<- kK,e];rfl
  rw[aO<|by omega];by_cases c2:p<0
  ·obtain⟨m,rfl⟩:∃m:Nat,p=-(m:Int):=⟨p.natAbs,by omega⟩;rw[FO<|by omega]at e d;have hw:low y=true:=by unfold low;rw[e];exact aJ rfl
   rw[hw,aQ rfl];have e3:C (Txt.slice y (some 2) none)=dg m:=by
    rw[show C (Txt.slice y (some 2) none)=(C y).drop 2 from Pt.mO y (k:=2)<|by rw[d,aR];omega,e];rfl
   rw[f7,dH]at hp;rw[rD hp e3,bH,aO<|by omega]
  ·obtain⟨m,rfl⟩:∃m:Nat,p=(m:Int):=⟨p.natAbs,by omega⟩;rw[Gk]at e d;have hw:low y=false:=by
    unfold low;refine aI λz=>?_;rw[e]at z;obtain⟨c,l,f,_⟩:=Pt.Hy m (by omega);rw[f]at z;have g:c=45:=(cD (cD z).2).1;have:=Pt.sF m c (by rw[f];exact aT ..);omega
   rw[hw,aO bh];have e3:C (Txt.slice y (some 1) none)=dg m:=by
    rw[show C (Txt.slice y (some 1) none)=(C y).drop 1 from Pt.mO y (k:=1)<|by omega,e];rfl
   rw[dH]at hp;rw[rD hp e3,bH,aO (λz=>by
    rcases z with z|z|z
    ·exact z (by rw[e];rfl)
    ·exact h0 z
    ·exact c1 z)]
def U5{x:Str}{q:Int×Int}(h:Jf x=some q):∃k:Nat,q.2=k/\0<k/\k<10 ^ 30/\q.1.natAbs<10 ^ 30/\C x=Pn.uC q.1 k:=by
 unfold Jf at h;have el:(⟨#[118]⟩:Str).length=1:=rfl;have e0:(Str.empty).length=0:=rfl
 rcases zH x with⟨_,_,b,_⟩|⟨a,b,e,na,K,pl,L⟩
 ·rw[aQ<|by rw[b];exact e0]at h;obtain⟨n,hn,h⟩:=bC.1 h;obtain⟨m,rfl,j,g⟩:=GC hn;by_cases J:(m:Int)=0
  ·rw[aQ J]at h;cases h
  ·rw[aO J]at h
   cases h
   exact⟨m,rfl,by omega,j,(by omega:(0:Nat)<10 ^ 30),by rw[g];unfold Pn.uC;rw[aQ rfl]⟩
 ·rw[aO<|by rw[pl,el];omega]at h;rw[K,L]at h;by_cases f:(Sp.mk a).length=0
  ·rw[aQ f]at h;obtain⟨p,hp,h⟩:=br.1 h;obtain⟨B,p1,ep⟩:=P5 hp;rw[<- h];have a0:a=[]:=eF (by rw[xV]at f;exact f);subst a0;refine⟨1,rfl,by decide,(by omega:(1:Nat)<10 ^ 30),p1,?_⟩;rw[Pt.pY]at ep;unfold Pn.uC;rw[aO B,aQ rfl,e,ep];rfl
  ·rw[aO f]at h;obtain⟨n,hn,h⟩:=bC.1 h;obtain⟨m,rfl,j,g⟩:=GC hn;by_cases c:(C<|Sp.mk a).getLast?≠some 42\/(m:Int)<2
   ·rw[aQ c]at h;cases h
   ·rw[aO c]at h;obtain⟨p,hp,h⟩:=br.1 h;obtain⟨B,p1,ep⟩:=P5 hp;rw[<- h];have d:(C<|Sp.mk a).getLast?=some 42:=d_ λz=>c<|.inl z;have N:¬(m:Int)<2:=λz=>c<|.inr z;rw[Pn.KS _<|by omega,Pt.pY]at g;rw[Pt.pY]at ep d;have G:a≠[]:=λz=>by rw[z]at d;cases d
    have F:=eS G;rw[eG G]at d;rw[aU d,g]at F;refine⟨m,rfl,by omega,j,p1,?_⟩;unfold Pn.uC;rw[aO B,aO<|by omega,e,ep,<- F,bI];rfl
def TL{x:Str}{p:Int}{k:Nat}(h0:0<k)(j:k<10 ^ 30)(hp:p.natAbs<10 ^ 30)(e:C x=Pn.uC p k):Jf x=some (p,(k:Int)):=by
 have el:(⟨#[118]⟩:Str).length=1:=rfl;unfold Pn.uC at e;unfold Jf;by_cases c0:p=0
 ·rw[aQ c0]at e;obtain⟨a,b,_⟩:=VH (x:=x) (by rw[e];exact xQ<|by omega);rw[aQ<|by rw[b];rfl,rD j e,bH,aO<|by omega,c0]
 ·rw[aO c0]at e;by_cases c1:k=1
  ·rw[aQ c1]at e;obtain⟨a,b,c⟩:=OW (x:=x) (a:=[]) (b:=QC p) e fP;rw[aO<|by rw[b,el];omega,aQ<|by rw[a];rfl,c,Mp c0 hp<|Pt.pY _,c1];rfl
  ·rw[aO c1]at e;obtain⟨a,b,c⟩:=OW (x:=x) (a:=dg k++[42]) (b:=QC p) (by rw[e,bI];rfl) (λz=>by
    rcases bF.1 z with z|z
    ·exact xQ (by omega) z
    ·have:=aX.1 z;omega)
   have d:(Sp.mk<|dg k++[42]).length=(dg k).length+1:=by rw[xV,aV];rfl
   rw[aO<|by rw[b,el];omega,aO<|by rw[a,d];omega,a,c,rD j<|by rw[Pn.KS _<|by omega,Pt.pY,List.dropLast_concat],bH,aO (λz=>by
    rcases z with z|z
    ·exact z (by rw[Pt.pY,List.getLast?_concat])
    ·omega),Mp c0 hp<|Pt.pY _];rfl
end K83
namespace K83
open PySem L2 Am
open Pt (C qx term tQ sg tp rX pT R0 pH tF dg)
open Pn (scan)
def XG{w:Str}:NT false (.str w) (.tup [.str<|PySem.Str.ofString " + ",.str<|PySem.Str.ofString " - "]) S=.ok (.bl<|decide (C w=[32,43,32]) || decide (C w=[32,45,32])) S:=by
 show R.ok (A.bl<|(PySem.Str.ofString " + " == w) || ((PySem.Str.ofString " - " == w) || false)) S=_;have e1:(PySem.Str.ofString " + " == w)=decide (C w=[32,43,32]):=by
  by_cases q:C w=[32,43,32]
  ·have:PySem.Str.ofString " + " = w:=Pt.ext<|jA ∅ q.symm;rw[this,bx,aJ q]
  ·rw[aI q,bw.mpr λz=>q<|by rw[<- z];decide +kernel]
 have e2:(PySem.Str.ofString " - " == w)=decide (C w=[32,45,32]):=by
  by_cases q:C w=[32,45,32]
  ·have:PySem.Str.ofString " - " = w:=Pt.ext<|jA ∅ q.symm;rw[this,bx,aJ q]
  ·rw[aI q,bw.mpr λz=>q<|by rw[<- z];decide +kernel]
 rw[e1,e2,Bool.or_false]
def EU{x:Str}{i c:Nat}{j:Int}(h:Pl x)(J:j=(i:Int))(e:(C x)[i]?=some c):oJ (.str x) (.int j) S=.ok (.str ⟨#[c]⟩) S:=by
 show gd _ (opt (qE x.cps.toList j) _)=_;rw[j9 (by rw[bB];have:=h.le;omega),show qE x.cps.toList j=some c by rw[J];exact Hl e];rfl
def Mw{x:Str}{i:Nat}(h:Pl x)(hi:i<=x.length):(oH<|jJ (NT false) (ou (jE 0) (kP<|jE 3)<|kP<|jJ kq (jE 3)<|eC<|.int 3)<|yE<|jC (eC<|.str<|PySem.Str.ofString " + ")<|jC (eC<|.str<|PySem.Str.ofString " - ") jK) [.str x,a1,a2,.int (i:Int),a4] S=.ok (decide (((C x).drop i).take 3=[32,43,32]) || decide (((C x).drop i).take 3=[32,45,32])) S:=by
 have e:=Pn.WI x (a:=i) (k:=3) (lo:=some (i:Int)) (hi:=some<|(i:Int)+3) hi rfl rfl;have f:ou (jE 0) (kP<|jE 3) (kP<|jJ kq (jE 3)<|eC<|.int 3) [.str x,a1,a2,.int (i:Int),a4] S=.ok (.str<|Txt.slice x (some (i:Int))<|some<|(i:Int)+3) S:=by
  show gd ((Txt.slice x (some (i:Int))<|some<|(i:Int)+3).length<=sizeLine) (R.ok (A.str<|Txt.slice x (some (i:Int))<|some<|(i:Int)+3) S)=_;refine j9 ?_;rw[<- kK,e,cU,bB];omega
 have d:=XG (w:=Txt.slice x (some (i:Int))<|some<|(i:Int)+3) (S:=S);rw[e]at d;dsimp[j3,lC,bools,↓f,zy,zU,d]
def LD {S:jL}{x:Str}{r1 r2 i e:Nat}{v:Int}{xs ys:ae}(h:Pl x)(hr:r1≠r2)(hi:i<=x.length)(Z:((C x).drop i).take 3=[32,e,32])(U:(e=43/\v=1)\/(e=45/\v=-1))(g1:jF S r1=some xs)(g2:jF S r2=some ys)(l1:xs.length<=2000)(l2:ys.length<=2000) :
  kN [.str x,.ref r1,.ref r2,.int (i:Int),.unb] S=.nx [.str x,.ref r1,.ref r2,.int<|(i:Int)+3,.unb] (((S++[O.lst [.int<|-1,.int 1]]).set r1<|.lst<|xs++[.int v]).set r2<|.lst<|ys++[.str<|PySem.Str.ofString ""]):=by
 have cd:=Mw (S:=S) (a1:=.ref r1) (a2:=.ref r2) (a4:=.unb) h hi;have F:(decide (((C x).drop i).take 3=[32,43,32]) || decide (((C x).drop i).take 3=[32,45,32]))=true:=by
  rw[Z]
  rcases U with⟨z,_⟩|⟨z,_⟩<;>subst z<;>rfl
 rw[F]at cd;have B:(C x)[i+1]?=some e:=by
  have:(((C x).drop i).take 3)[1]?=some e:=by rw[Z];rfl
  rw[gh ⋯,gH]at this;exact this
 obtain⟨S1,d⟩:∃S1,S1=S++[O.lst [.int<|-1,.int 1]]:=⟨_,rfl⟩;have L:newL [.int<|-1,.int 1] S=.ok (.ref S.length) S1:=by rw[d];kcj_m
 have m:jF S1 S.length=some [.int<|-1,.int 1]:=by rw[d];exact jT
 have f:=EU (S:=S1) (j:=(i:Int)+1) h (by omega) B;have g:mJ false (.str ⟨#[e]⟩) (.str<|PySem.Str.ofString "+") S1=.ok (.bl<|decide<|e=43) S1:=by
  rw[qp]
  rcases U with⟨z,_⟩|⟨z,_⟩<;>subst z<;>rfl
 have G:∀T:jL,sU (.int 1) T=.ok (.int<|-1) T:=λT=>rfl;have p:oJ (.ref S.length) (.int<|if decide (e=43)=true then 1 else 0) S1=.ok (.int v) S1:=by
  rcases U with⟨z,w⟩|⟨z,w⟩
  ·subst z w;show opt (jF S1 S.length) _=_;rw[m];rfl
  ·subst z w;show opt (jF S1 S.length) _=_;rw[m];rfl
 have h1:jF S1 r1=some xs:=by rw[d];exact k_ g1
 have k:jF (S1.set r1<|.lst<|xs++[.int v]) r2=some ys:=by rw[om hr,d];exact k_ g2
 have K:sN (.ref r1) [.int v] S1=.ok .non (S1.set r1<|.lst<|xs++[.int v]):=by
  show opt (jF S1 r1) _=_;rw[h1];exact j9<|by rw[bB];omega
 have J:sN (.ref r2) [.str<|PySem.Str.ofString ""] (S1.set r1<|.lst<|xs++[.int v])=.ok .non ((S1.set r1<|.lst<|xs++[.int v]).set r2<|.lst<|ys++[.str<|PySem.Str.ofString ""]):=by
  show opt (jF _ r2) _=_;rw[k];exact j9<|by rw[bB];omega
 rw[<- d];unfold kN;dsimp[j3,lC,bools,↓cd,g1,G,L,f,g,p,h1,L5<|show xs.length<16777216 by omega,k,L5<|show ys.length<16777216 by omega]
end K83
namespace K83
open PySem L2 Am
open Pt (C qx term tQ sg tp rX pT R0 pH tF dg)
open Pn (scan)
def WO(cur:ar)(c:Nat):Sp.mk cur++(⟨#[c]⟩:Str)=Sp.mk (cur++[c]):=Pt.ext<|by rw[Pt.rZ];rfl
def Nr{S:jL}{x:Str}{r1 r2 i c:Nat}{cur:ar}(h:Pl x)(hi:(C x)[i]?=some c)(U:¬((C x).drop i).take 3=[32,43,32])(J:¬((C x).drop i).take 3=[32,45,32])(L:jF S r2=some (ys++[.str<|Sp.mk cur]))(Z:cur.length<=2000) :
  kN [.str x,.ref r1,.ref r2,.int (i:Int),.unb] S=.nx [.str x,.ref r1,.ref r2,.int<|(i:Int)+1,.unb] (S.set r2<|.lst<|ys++[.str<|Sp.mk<|cur++[c]]):=by
 have p:i<x.length:=by
  have:=(aZ.1 hi).1;rw[kK]at this;exact this
 have cd:=Mw (S:=S) (a1:=.ref r1) (a2:=.ref r2) (a4:=.unb) h<|fR p;rw[aI U,aI J]at cd;have f:=EU (S:=S) (j:=(i:Int)) h rfl hi;have k:qE (ys++[A.str<|Sp.mk cur]) (-1)=some (.str<|Sp.mk cur):=L2.C2 _ _;have g:=pS (S:=S) (a:=Sp.mk cur) (b:=⟨#[c]⟩) (by rw[xV];show cur.length+1<=_;omega);rw[WO]at g;have d:z9 (ys++[A.str<|Sp.mk cur]).length (-1)=some ys.length:=by
  rw[aV];show z9 (ys.length+1) (-1)=_;unfold z9;rw[aO ⋯,aQ<|by omega];congr 1;omega
 have st:(ys++[A.str<|Sp.mk cur]).set ys.length (.str<|Sp.mk<|cur++[c])=ys++[.str<|Sp.mk<|cur++[c]]:=by
  rw[List.set_append_right _ _<|aP _,g_];rfl
 have m:∀T:jL,sU (.int 1) T=.ok (.int<|-1) T:=λT=>rfl;have B:B_ (.ref r2) (.int<|-1) (.str<|Sp.mk<|cur++[c]) S=.ok Unit.unit (S.set r2<|.lst<|ys++[.str<|Sp.mk<|cur++[c]]):=by
  show opt (jF S r2) _=_;rw[L,kD,d,kD,st]
 unfold kN;dsimp[j3,lC,bools,↓cd,Bool.or_self,m,L,k,f,g,d,kD,st]
abbrev sA (l:List<|Int×ar):ae:=l.map λq=>.int q.1
abbrev wA (l:List<|Int×ar):ae:=l.map λq=>.str<|Sp.mk q.2
def Ef(a b:List<|Int×ar):sA (a++b)=sA a++sA b:=cY
def Ey(a b:List<|Int×ar):wA (a++b)=wA a++wA b:=cY
theorem Py{S0:jL}{x:Str}{r1 r2 i0:Nat}{s0:Int}(h:Pl x)(hr:r1≠r2)(h1:S0.length<=r1)(h2:S0.length<=r2)(k0:lH S0 S)(hi0:i0<=x.length)(g1:jF S r1=some [.int s0])(g2:jF S r2=some [.str<|PySem.Str.ofString ""]) :
  ∃S',mT mY kN 1000000 [.str x,.ref r1,.ref r2,.int (i0:Int),.unb] S=.nx [.str x,.ref r1,.ref r2,.int (x.length:Int),.unb] S'/\jF S' r1=some (sA<|scan s0 []<|(C x).drop i0)/\jF S' r2=some (wA<|scan s0 []<|(C x).drop i0)/\lH S0 S':=by
 have Z:=h.le;have F:=wo (t:=mY) (c:=kN)
  (λτ T=>∃(i:Nat) (d:List<|Int×ar) (s:Int) (cur:ar),τ=[.str x,.ref r1,.ref r2,.int (i:Int),.unb]/\i<=x.length/\jF T r1=some (sA<|d++[(s,cur)])/\jF T r2=some (wA<|d++[(s,cur)])/\scan s0 [] ((C x).drop i0)=d++scan s cur ((C x).drop i)/\d.length<=i/\cur.length<=i/\lH S0 T)
  (λτ _=>match τ with
   | [_,_,_,.int i,_]=>x.length-i.toNat
   | _=>0)
  (λr=>∃S',r=.nx [.str x,.ref r1,.ref r2,.int (x.length:Int),.unb] S'/\jF S' r1=some (sA<|scan s0 []<|(C x).drop i0)/\jF S' r2=some (wA<|scan s0 []<|(C x).drop i0)/\lH S0 S') ?_ 1000000
 ·refine F _ _ ⟨i0,[],s0,[],rfl,hi0,g1,?_,rfl,cz _,cz _,k0⟩ ?_
  ·rw[g2];rfl
  ·show x.length-((i0:Int)).toNat<_;omega
 ·rintro τ T ⟨i,d,s,cur,rfl,hi,hs,hw,hp,hd,hc,G⟩;have Y:mw (.str x) T=.ok (.int x.length) T:=Jb h;have m:mY [.str x,.ref r1,.ref r2,.int (i:Int),.unb] T=.ok (decide<|(i:Int)<x.length) T:=by
   unfold mY;dsimp[j3,lC,bools,Y]
  by_cases c:i<x.length
  ·right;rw[aJ<|show(i:Int)<x.length by omega]at m;refine⟨T,m,.inl ?_⟩;have K:i<(C x).length:=by rw[kK];exact c
   have j:(C x).drop i=(C x)[i]::(C x).drop (i+1):=List.drop_eq_getElem_cons K;have ls:(sA<|d++[(s,cur)]).length<=2000:=by unfold sA;rw[aK,aV];show d.length+1<=_;omega
   have P:(wA<|d++[(s,cur)]).length<=2000:=by unfold wA;rw[aK,aV];show d.length+1<=_;omega
   have k:∀(e:Nat) (v:Int),((e=43/\v=1)\/(e=45/\v=-1))->((C x).drop i).take 3=[32,e,32]->scan s cur ((C x).drop i)=(s,cur)::scan v [] ((C x).drop<|i+3)->∃f S',kN [.str x,.ref r1,.ref r2,.int (i:Int),.unb] T=.nx f S'/\(∃(i:Nat) (d:List<|Int×ar) (s:Int) (cur:ar),f=[.str x,.ref r1,.ref r2,.int (i:Int),.unb]/\i<=x.length/\jF S' r1=some (sA<|d++[(s,cur)])/\jF S' r2=some (wA<|d++[(s,cur)])/\scan s0 [] ((C x).drop i0)=d++scan s cur ((C x).drop i)/\d.length<=i/\cur.length<=i/\lH S0 S')/\(match f with
     | [_,_,_,.int i,_]=>x.length-i.toNat
     | _=>0)<x.length-((i:Int)).toNat:=λe v O J B=>by
    have U:i+3<=x.length:=by
     have:=cg List.length J;rw[cU,cE,kK]at this;have:min 3 (x.length-i)=3:=this;omega
    have V:=oV hs;have L:=oV hw;refine⟨_,_,LD h hr hi J O hs hw ls P,⟨i+3,d++[(s,cur)],v,[],by rw[show((i+3:Nat):Int)=(i:Int)+3 by omega],U,?_,?_,?_,?_,cz _,?_⟩,?_⟩
    ·rw[om<|cL hr,qI<|by rw[aV];omega,Ef<|d++[(s,cur)]];rfl
    ·rw[qI<|by rw[fH,aV];omega,Ey<|d++[(s,cur)]];rfl
    ·rw[hp,B,bI];rfl
    ·rw[aV];show d.length+1<=_;omega
    ·exact(G.lay.set<|.inr h1).set (.inr h2)
    ·show x.length-((i:Int)+3).toNat<x.length-((i:Int)).toNat;omega
   by_cases c1:((C x).drop i).take 3=[32,43,32]
   ·refine k 43 1 (.inl ⟨rfl,rfl⟩) c1 ?_;rw[j]at c1 ⊢;have c0:=(cD c1).1;have c2:((C x).drop<|i+1).take 2=[43,32]:=(cD c1).2;rw[Pn.oY,aQ ⟨c0,c2⟩,jz]
   ·by_cases c2:((C x).drop i).take 3=[32,45,32]
    ·refine k 45 (-1) (.inr ⟨rfl,rfl⟩) c2 ?_;rw[j]at c2 ⊢;have c0:=(cD c2).1;have c3:((C x).drop<|i+1).take 2=[45,32]:=(cD c2).2;rw[Pn.oY,aO λz=>by rw[c3]at z;exact absurd (cD z.2).1 ⋯,aQ ⟨c0,c3⟩,jz]
    ·have e2:wA (d++[(s,cur)])=wA d++[.str<|Sp.mk cur]:=Ey _ _;have g:=hw;rw[e2]at g;have p:(C x)[i]?=some (C x)[i]:=aH K;refine⟨_,_,Nr (r1:=r1) h p c1 c2 g<|by omega,⟨i+1,d,s,cur++[(C x)[i]],by rw[show((i+1:Nat):Int)=(i:Int)+1 by omega],c,?_,?_,?_,by omega,by rw[aV];show cur.length+1<=_;omega,G.set<|.inr h2⟩,?_⟩
     ·rw[om<|cL hr,hs,Ef,Ef];rfl
     ·rw[qI<|oV hw,Ey];rfl
     ·rw[hp,j,Pn.oY,aO λz=>c1<|by rw[j,z.1];exact cg (List.cons 32) z.2,aO λz=>c2<|by rw[j,z.1];exact cg (List.cons 32) z.2]
     ·show x.length-((i:Int)+1).toNat<x.length-((i:Int)).toNat;omega
  ·left;rw[aI<|show ¬(i:Int)<x.length by omega]at m;have N:i=x.length:=by omega
   subst N;have e0:(C x).drop x.length=[]:=gZ (by rw[kK];exact aP _);rw[e0,Pn.wz]at hp;refine⟨T,m,T,rfl,?_,?_,G⟩
   ·rw[hs,hp]
   ·rw[hw,hp]
end K83
namespace K83
open PySem L2 Am
open Pt (C qx term tQ sg tp rX pT R0 pH tF dg)
open Pn (scan)
def RA{S:jL}{r:Nat}{l:List<|Int×Int}{src:Ic}{e:Ex}(hs:src τ S=.ok (lW r (l.map tA).length) S)(f:Int×Int->A)(J:jF S r=some (l.map tA))(L:∀q∈l,∀T,e [.int q.1,.int q.2] T=.ok (f q) T)(U:l.length<=10000) :
  kI [none,none] src (Bj 2<|su (kB 0)<|su (kB 1) A9) kR e τ S=.ok (.ref S.length) (S++[.lst<|l.map f]):=by
 obtain⟨C,j,m⟩:=sQ (s:=lW r (l.map tA).length) (g:=Bj 2<|su (kB 0)<|su (kB 1) A9) (t:=kR) (e:=e)
  (P:=λS1=>S1=S) (T:=λd=>∃y z,d=[y,z]) (λi=>tA<|l.getD i (0,0)) (λ_=>true) (λi=>f<|l.getD i (0,0))
  (λi S1 hi k=>by
   have hi:i<l.length:=by have:i<(l.map tA).length:=hi;rwa [aK]at this
   show(jF S1 r).bind _=_;rw[k,J,bH,bu,aN,aH hi];rfl)
  (λS1 k=>by
   show(match jF S1 r with
    | some ys=>decide (ys.length<=(l.map tA).length)
    | none=>false)=true
   rw[k,J];simp)
  (λi d S1 hi ⟨y,z,hy⟩ k=>by
   have hi:i<l.length:=by have:i<(l.map tA).length:=hi;rwa [aK]at this
   subst hy k;have p:l.getD i (0,0)∈l:=by rw[aN,aH hi];exact cJ hi
   exact⟨[.int (l.getD i (0,0)).1,.int (l.getD i (0,0)).2],S1,S1,by dsimp[j3,bools,j9<|show([_,_]:ae).length=2 from rfl],rfl,⟨_,_,rfl⟩,λ_=>rfl,λ_=>⟨S1,L _ p S1,rfl⟩⟩)
  (l.map tA).length 0 (mH [none,none] τ) S rfl ⟨_,_,rfl⟩ rfl
 subst m;have B:((List.range' 0 (l.map tA).length).filter λ_=>true).map (λi=>f<|l.getD i (0,0))=l.map f:=by
  rw[cI.mpr λ_ _=>rfl,aK];refine eN λi=>?_;rw[bu,bu,<- cW];by_cases hi:i<l.length
  ·rw[dZ hi,aH hi,cZ,cZ,aN,aH hi];rfl
  ·rw[bN<|by rw[bW];omega,bN<|by omega];rfl
 rw[B]at j;unfold kI;rw[hs,R.kO];show R.pR (nj (lW r (l.map tA).length) _ _ _ (l.map tA).length 0 _ _) _=_;rw[j,R.kY,lg<|by rw[aK];omega]
theorem Qf:∀(l:ag),(∀k,k+1<l.length->l.getD k 0<l.getD (k+1) 0)->l.Pairwise (· < ·)
 | [],_=>List.Pairwise.nil
 | [a],_=>List.pairwise_singleton _ _
 | a::b::l,h=>by
  have d:(b::l).Pairwise (· < ·):=Qf (b::l) λk f=>h (k+1)<|Nat.succ_lt_succ f;have ab:a<b:=h 0<|Nat.succ_lt_succ<|Nat.succ_pos _;refine fV.mpr ⟨λc hc=>?_,d⟩
  rcases bf.1 hc with z|z
  ·rw[z];exact ab
  ·have:=(fV.1 d).1 c z;omega
def VY{l:ag}(h:l.Pairwise (· < ·))(k:Nat)(j:k+1<l.length):l.getD k 0<l.getD (k+1) 0:=by
 have:=fF.1 h k (k+1) (by omega) j (by omega);rw[aN,aH<|by omega,aN,aH j];exact this
abbrev WJ (l:List<|Int×Int):Bool:=(lE 1 (l.length:Int)).all λk=>decide<|(l.getD (k-1).toNat (0,0)).1<(l.getD k.toNat (0,0)).1
def FJ(l:List<|Int×Int)(k:Nat):(l.map Prod.fst).getD k 0=(l.getD k (0,0)).1:=by
 rw[aN,aN,bu]
 cases l[k]?<;>rfl
def Gu(l:List<|Int×Int):WJ l=true ↔ (l.map Prod.fst).Pairwise (· < ·):=by
 unfold WJ;rw[cV];constructor
 ·intro h;refine Qf _ λk d=>?_;rw[aK]at d;have:=bO (h ((k:Int)+1)<|wj.mpr ⟨by omega,by omega⟩);rw[FJ,FJ];rw[show((k:Int)+1-1).toNat=k by omega,show((k:Int)+1).toNat=k+1 by omega]at this;exact this
 ·intro h k d;obtain⟨k1,k2⟩:=wj.mp d;have:=VY h (k-1).toNat (by rw[aK];omega);rw[FJ,FJ,show(k-1).toNat+1=k.toNat by omega]at this;exact aJ this
theorem G_:∀(os:List<|Option<|Int×Int),Ro S .non (os.map oT)=some (os.any λo=>o.isNone)
 | []=>rfl
 | o::os=>by
  rw[bP,iE];have e:wU S 12 (oT o) .non=some o.isNone:=by cases o<;>rfl
  show(wU S 12 (oT o) .non).bind (λp=>(Ro S .non<|os.map oT).map λq=>p || q)=_;rw[e,G_ os];rfl
theorem D9:∀{os:List<|Option<|Int×Int},(os.any λo=>o.isNone)=false->os.map oT=(os.filterMap id).map tA/\os=(os.filterMap id).map some
 | [],_=>⟨rfl,rfl⟩
 | none::os,h=>by cases h
 | some q::os,h=>by
  obtain⟨a,b⟩:=D9 (os:=os) h;constructor
  ·show tA q::os.map oT=tA q::(os.filterMap id).map tA;rw[a]
  ·show some q::os=some q::(os.filterMap id).map some;rw[<- b]
abbrev yg (x:Str):Nat:=if (C x).head?=some 45 then 1 else 0
abbrev D0 (x:Str):List (Int×ar):=scan (1-2 * (yg x:Int)) []<|(C x).drop<|yg x
def N_{s:Int}{cur:ar}:(∀q∈scan s cur l,(∀c∈q.2,c∈cur++l)/\q.2.length<=(cur++l).length)/\(scan s cur l).length<=(cur++l).length+1/\(∀q∈scan s cur l,q.1=s\/q.1=1\/q.1=-1):=by
 obtain⟨w,t,e,h,a⟩:=Pn.r9 l.length l s cur<|aP _;have k:∀t:List<|Int×ar,t.length<=(Pn.rest t).length:=λt=>by
  induction t with
  | nil=>exact aP _
  | cons q t f=>
   show t.length+1<=((32::Pn.sc q.1::32::q.2)++Pn.rest t).length;rw[aV,aR];omega
 have g:∀(t:List<|Int×ar) (q:Int×ar),q∈t->(∀c∈q.2,c∈Pn.rest t)/\q.2.length<=(Pn.rest t).length:=λt=>by
  induction t with
  | nil=>exact λq z=>by cases z
  | cons p t f=>
   intro q d;have j:Pn.rest (p::t)=(32::Pn.sc p.1::32::p.2)++Pn.rest t:=rfl;rw[j]
   rcases bf.1 d with z|z
   ·subst z;exact⟨λc hc=>bF.2<|.inl<|aS _<|aS _<|aS _ hc,by rw[aV,aR,aR,aR];omega⟩
   ·obtain⟨x,y⟩:=f q z;exact⟨λc hc=>bF.2<|.inr<|x c hc,by rw[aV];omega⟩
 rw[e,h];refine⟨λq d=>?_,?_,λq d=>?_⟩
 ·rcases bf.1 d with z|z
  ·rw[z];exact⟨λc hc=>bF.2<|.inl hc,by rw[aV];show w.length<=_;omega⟩
  ·obtain⟨x,y⟩:=g t q z;exact⟨λc hc=>bF.2<|.inr<|x c hc,by rw[aV];omega⟩
 ·have:=k t;rw[aR,aV];omega
 ·rcases bf.1 d with z|z
  ·exact .inl (by rw[z])
  ·exact .inr<|a q z
def K3{x:Str}(h:Pl x):(∀q∈D0 x,Pl<|Sp.mk q.2)/\(D0 x).length<=x.length+1/\(∀q∈D0 x,q.1=1\/q.1=-1):=by
 obtain⟨a,b,c⟩:=N_ (s:=1-2 * (yg x:Int)) (cur:=[]) (l:=(C x).drop<|yg x);rw[cF]at a b;refine⟨λq f=>?_,?_,λq f=>?_⟩
 ·obtain⟨j,g⟩:=a q f;exact uW h (λd hd=>by rw[Pt.pY]at hd;exact List.mem_of_mem_drop<|j d hd) (by rw[Pt.pY];rw[cE]at g;omega)
 ·rw[cE,kK]at b;exact cK b (by omega)
 ·rcases c q f with z|z
  ·rw[z];unfold yg;split
   ·exact .inr rfl
   ·exact .inl rfl
  ·exact z
end K83
namespace K83
open PySem L2 Am
open Pt (C qx term tQ sg tp rX pT R0 pH tF dg)
open Pn (scan)
abbrev os (x:Str):List (Option<|Int×Int):=(D0 x).map λq=>Jf<|Sp.mk q.2
abbrev tP (x:Str):List (Int×Int):=(os x).filterMap id
abbrev Pd (q:Int×Int):Bool:=decide<|-60<=q.1/\q.1<=60
abbrev NJ (x:Str):Bool:=!((os x).any λo=>o.isNone) && (decide ((tP x).length<=40) && ((tP x).all Pd && WJ (tP x)))
abbrev Es (x:Str):List (Int×Int):=List.zipWith (λ(t:Int×Int) (q:Int×ar)=>(t.1,t.2 * q.1)) (tP x)<|D0 x
def Rc{q:Int×Int}:AY Ay Ay (Cr sU<|eC<|.int 60) (jE 0) (eC<|.int 60) (.int q.1::τ) S=.ok (.bl<|Pd q) S:=by
 unfold Pd;by_cases h1:(-60:Int)<=q.1
 ·rw[KR (a:=.int<|-60) (b:=.int q.1) (c:=.int 60) rfl (by dsimp[j3,bools]) (by dsimp[j3,aJ h1]) rfl];by_cases d:q.1<=60
  ·dsimp[j3,aJ d,aJ<|show -60<=q.1/\q.1<=60 from⟨h1,d⟩]
  ·dsimp[j3,aI d,aI<|show ¬(-60<=q.1/\q.1<=60)from λz=>d z.2]
 ·rw[NU (a:=.int<|-60) (b:=.int q.1) rfl (by dsimp[j3,bools])<|by dsimp[j3,aI h1],aI<|show ¬(-60<=q.1/\q.1<=60)from λz=>h1 z.1]
def Ud{S:jL}{r:Nat}{l:List<|Int×Int}(J:jF S r=some (l.map tA))(L:l.length<=40) :
  kI [none,some 4] (uy (eC<|.int 1)<|jV (f1 mw)<|jC (jE 4) jK) (kB 0) kR (jJ Aw (jJ oJ (jJ oJ (jE 1)<|jJ aSub (jE 0)<|eC<|.int 1)<|eC<|.int 0)<|jJ oJ (jJ oJ (jE 1)<|jE 0)<|eC<|.int 0) [a0,a1,a2,a3,.ref r] S=.ok (.ref S.length) (S++[O.lst<|((lE 1 (l.length:Int)).map λk=>decide<|(l.getD (k-1).toNat (0,0)).1<(l.getD k.toNat (0,0)).1).map .bl]):=by
 have f:uy (eC<|.int 1) (jV (f1 mw)<|jC (jE 4) jK) [a0,a1,a2,a3,.ref r] S=.ok (oA 1 (l.length:Int)) S:=CV (S1:=S) (by dsimp[j3,bools]) (by dsimp[j3,bools,J,aK]) (p6 ⋯ ⋯) (p6 (by omega)<|by omega);have g:∀j:Int,0<=j->j<(l.length:Int)->qE (l.map tA) j=some (tA<|l.getD j.toNat (0,0)):=λj h0 h1=>by
  refine vK (k:=j.toNat) (by omega) ?_;rw[bu,aN,aH<|show j.toNat<l.length by omega];rfl
 have p:=Dh (lo:=1) (hi:=(l.length:Int)) (cap:=[some 4]) (t:=kR) (e:=jJ Aw (jJ oJ (jJ oJ (jE 1)<|jJ aSub (jE 0)<|eC<|.int 1)<|eC<|.int 0)<|jJ oJ (jJ oJ (jE 1)<|jE 0)<|eC<|.int 0) f (λ_=>true) (λk=>.bl<|decide<|(l.getD (k-1).toNat (0,0)).1<(l.getD k.toNat (0,0)).1) (λ_ _ _=>rfl) (λk k1 k2 _=>by
  have m:=g (k-1) (by omega) (by omega);have d:=g k (by omega) k2;dsimp[j3,bools,J,m,d,L3])<|by omega
 rw[p,cI.mpr λ_ _=>rfl,bL];rfl
def VC {n s:Int}{S:jL}(h:s=1\/s=-1):oR (.int n) (.int s) S=.ok (.int<|n * s) S:=mul_r (by omega)<|by omega
def Wy{S:jL}{r1:Nat}{l:List<|Int×Int}{ps:List<|Int×ar}(L:jF S r4=some (l.map tA))(h1:jF S r1=some (sA ps))(U:l.length=ps.length)(Z:l.length<=40)(hs:∀q∈ps,q.1=1\/q.1=-1) :
  kI [none,none,none] (A2 (jE 4)<|jE 1) (Bj 2<|su (Bj 2<|su (kB 0)<|su (kB 1) A9)<|su (kB 2) A9) kR (yE<|jC (jE 0)<|jC (jJ oR (jE 1)<|jE 2) jK) [a0,.ref r1,a2,a3,.ref r4] S=.ok (.ref S.length) (S++[O.lst<|(List.zipWith (λ(t:Int×Int) (q:Int×ar)=>(t.1,t.2 * q.1)) l ps).map tA]):=by
 have j:A2 (jE 4) (jE 1) [a0,.ref r1,a2,a3,.ref r4] S=.ok (Az r4 r1<|min (l.map tA).length (sA ps).length) S:=JX (S1:=S) (by dsimp[j3,bools]) (by dsimp[j3,bools]) L h1;have C:min (l.map tA).length (sA ps).length=l.length:=by
  unfold sA;rw[aK,aK,<- U,Nat.min_self]
 rw[C]at j;obtain⟨J,p,F⟩:=sQ (s:=Az r4 r1 l.length) (g:=Bj 2<|su (Bj 2<|su (kB 0)<|su (kB 1) A9)<|su (kB 2) A9) (t:=kR) (e:=yE<|jC (jE 0)<|jC (jJ oR (jE 1)<|jE 2) jK)
  (P:=λS1=>S1=S) (T:=λd=>∃y z w,d=[y,z,w]) (λi=>.tup [tA<|l.getD i (0,0),.int (ps.getD i (0,[])).1]) (λ_=>true) (λi=>tA ((l.getD i (0,0)).1,(l.getD i (0,0)).2 * (ps.getD i (0,[])).1))
  (λi S1 hi k=>by
   have hi:i<l.length:=hi;show(jF S1 r4).bind (λxs=>(jF S1 r1).bind λys=>(xs[i]?).bind λx=>(ys[i]?).map λy=>A.tup [x,y])=_;rw[k,L,h1,bH,bH];unfold sA;rw[bu,bu,aN,aH hi,aN,aH<|show i<ps.length by omega];rfl)
  (λS1 k=>by
   show(match jF S1 r4,jF S1 r1 with
    | some xs,some ys=>decide (xs.length<=l.length) || decide (ys.length<=l.length)
    | _,_=>false)=true
   rw[k,L,h1];simp)
  (λi d S1 hi ⟨y,z,w,hy⟩ k=>by
   have hi:i<l.length:=hi;subst hy k;have G:(ps.getD i (0,[])).1=1\/(ps.getD i (0,[])).1=-1:=hs _ (by rw[aN,aH<|show i<ps.length by omega];exact cJ _);have m:=VC (n:=(l.getD i (0,0)).2) (S:=S1) G;exact⟨[.int (l.getD i (0,0)).1,.int (l.getD i (0,0)).2,.int (ps.getD i (0,[])).1],S1,S1,by dsimp[j3,bools,j9<|show([_,_]:ae).length=2 from rfl],rfl,⟨_,_,_,rfl⟩,λ_=>rfl,λ_=>⟨S1,by dsimp[j3,bools,m,zy,zU],rfl⟩⟩)
  l.length 0 (mH [none,none,none] [a0,.ref r1,a2,a3,.ref r4]) S rfl ⟨_,_,_,rfl⟩ rfl
 subst F;have B:((List.range' 0 l.length).filter λ_=>true).map (λi=>tA ((l.getD i (0,0)).1,(l.getD i (0,0)).2 * (ps.getD i (0,[])).1))=(List.zipWith (λ(t:Int×Int) (q:Int×ar)=>(t.1,t.2 * q.1)) l ps).map tA:=by
  rw[cI.mpr λ_ _=>rfl];refine eN λi=>?_;rw[bu,bu,<- cW,List.getElem?_zipWith];by_cases hi:i<l.length
  ·have f:i<ps.length:=by omega
   rw[dZ hi,aH hi,aH f,cZ,aN,aH hi,aN,aH f];rfl
  ·rw[bN<|by rw[bW];omega,bN<|by omega];rfl
 rw[B]at p;unfold kI;rw[j,R.kO];show R.pR (nj (Az r4 r1 l.length) _ _ _ l.length 0 _ _) _=_;rw[p,R.kY,lg<|by rw[aK,List.length_zipWith];omega]
end K83
namespace K83
open PySem L2 Am
open Pt (C qx term tQ sg tp rX pT R0 pH tF dg)
open Pn (scan)
def VE{x:Str}(h:Pl x):jJ (mJ false) (ou (jE 0) lP<|kP<|eC<|.int 1) (eC<|.str<|PySem.Str.ofString "-") [.str x,a1,a2,a3,a4] S=.ok (.bl<|decide<|(C x).head?=some 45) S:=by
 have e:=Pn.G5 x 1;have g:ou (jE 0) lP (kP<|eC<|.int 1) [.str x,a1,a2,a3,a4] S=.ok (.str<|Txt.slice x none<|some 1) S:=by
  show gd ((Txt.slice x none<|some 1).length<=sizeLine) (R.ok (A.str<|Txt.slice x none<|some 1) S)=_;refine j9 ?_;rw[<- kK,show C (Txt.slice x none<|some 1)=_ from e,cU,bB];omega
 have q:mJ false (.str<|Txt.slice x none<|some 1) (.str<|PySem.Str.ofString "-") S=.ok (.bl<|decide<|(C x).head?=some 45) S:=by
  rw[qp];refine cg (λz=>R.ok (A.bl z) S) ?_;have m:PySem.Str.ofString "-" = Sp.mk [45]:=by decide +kernel
  rw[m];by_cases q:(C x).head?=some 45
  ·rw[aJ q];refine dW.mpr<|Pt.ext<|jA e ?_;rw[Pt.pY]
   cases d:C x with
   | nil=>rw[d]at q;cases q
   | cons c l=>rw[d]at q;rw[aU q];rfl
  ·rw[aI q];refine bw.mpr λz=>q ?_;have f:(C x).take 1=[45]:=jA e.symm (by rw[show Txt.slice x none (some ((1:Nat):Int))=Sp.mk [45]from z,Pt.pY])
   cases d:C x with
   | nil=>rw[d]at f;cases f
   | cons c l=>rw[d]at f;rw[(cD f).1];rfl
 dsimp[j3,lC,bools,↓g,q]
def O7{x:Str}(h:Pl x)(n0:C x≠[48]):(NJ x=true->∃(W:Nat) (S':jL),kM [.str x] S=.ok (.ref W) S'/\jF S' W=some ((Es x).map tA)/\lH S S')/\(NJ x=false->∃S',kM [.str x] S=.ok .non S'/\lH S S'):=by
 have hle:=h.le;obtain⟨pp,pn,ps⟩:=K3 h;have e0:mJ false (.str x) (.str<|PySem.Str.ofString "0") S=.ok (.bl<|decide<|C x=[48]) S:=by rw[qp,eq_0]
 rw[aI n0]at e0;have hx1:yg x<=x.length:=by
  unfold yg;split
  ·next q=>
   rw[<- kK]
   cases ec:C x with
   | nil=>rw[ec]at q;cases q
   | cons c l=>rw[aR];omega
  ·exact cz _
 have ib:∀T:jL,mG (.bl<|decide<|(C x).head?=some 45) T=.ok (.int (yg x:Int)) T:=λT=>by
  unfold yg;by_cases q:(C x).head?=some 45
  ·rw[aJ q,aQ q];rfl
  ·rw[aI q,aO q];rfl
 have L:∀T:jL,oR (.int 2) (.int (yg x:Int)) T=.ok (.int<|2 * (yg x:Int)) T:=λT=>C9 ⋯ ⋯;obtain⟨S1,p⟩:∃S1,S1=S++[O.lst [.int<|1-2 * (yg x:Int)]]:=⟨_,rfl⟩;obtain⟨G,j⟩:∃G,G=S1++[O.lst [.str<|PySem.Str.ofString ""]]:=⟨_,rfl⟩;have K:newL [.int<|1-2 * (yg x:Int)] S=.ok (.ref S.length) S1:=by rw[p];exact lI (show 1<=16777216 by decide)
 have N:newL [.str<|PySem.Str.ofString ""] S1=.ok (.ref S1.length) G:=by rw[j];exact lI (show 1<=16777216 by decide)
 have l1:S1.length=S.length+1:=by rw[p];simp
 have g1:jF G S.length=some [.int<|1-2 * (yg x:Int)]:=by rw[j];exact k_ (by rw[p];exact jT)
 have g2:jF G S1.length=some [.str<|PySem.Str.ofString ""]:=by rw[j];exact jT
 have k2:lH S G:=by rw[j,p];exact Kp.refl.lay.lay
 obtain⟨T,P,t1,Y,kT⟩:=Py (S0:=S) (S:=G) h (show S.length≠S1.length by omega) (aP _) (by omega) k2 hx1 g1 g2;have t1:jF T S.length=some (sA<|D0 x):=t1;have Y:jF T S1.length=some (wA<|D0 x):=Y;obtain⟨T3,e3,k3⟩:=Gz (cap:=[]) (src:=mL<|jE 2) (t:=kR) (e:=eFn m_<|jC (jE 0) jK) (τ:=[.str x,.ref S.length,.ref S1.length,.int (x.length:Int),.unb]) (S:=T) (S1:=T) (xs:=wA<|D0 x) (rq (by dsimp[j3,bools]) Y) Y (λ_=>true) (λy=>match y with
  | .str z=>oT (Jf z)
  | _=>.non) (λy hy U k=>by
   obtain⟨q,hq,rfl⟩:=cj.1 hy;obtain⟨U',e,k'⟩:=US (S:=U)<|pp q hq;exact⟨U,rfl,Kp.refl,λ_=>⟨U',by dsimp[j3,bools,e],k'⟩⟩)<|by unfold wA;rw[aK];omega
 rw[cI.mpr λ_ _=>rfl]at e3;have em:(wA<|D0 x).map (λy=>match y with
  | .str z=>oT (Jf z)
  | _=>.non)=(os x).map oT:=by unfold wA os;rw[bL,bL];rfl
 rw[em]at e3;obtain⟨U,hU⟩:∃U,U=T3++[O.lst<|(os x).map oT]:=⟨_,rfl⟩;rw[<- hU]at e3;have B:jF U T3.length=some ((os x).map oT):=by rw[hU];exact jT
 have kU:lH T U:=by rw[hU];exact k3.lay
 have u1:=kU.lst _ _ (λz=>z) t1;have F:NT false .non (.ref T3.length) U=.ok (.bl<|(os x).any λo=>o.isNone) U:=by
  show opt (jF U T3.length) _=_;rw[B,kD,G_,kD];rfl
 have g:=kT.trans kU;have f:∀a1 a2 a3 a4 (T:jL),jJ (mJ false) (ou (jE 0) lP<|kP<|eC<|.int 1) (eC<|.str<|PySem.Str.ofString "-") [.str x,a1,a2,a3,a4] T=.ok (.bl<|decide<|(C x).head?=some 45) T:=λa1 a2 a3 a4 T=>VE h;unfold kM pC o_ NJ
 cases hN:(os x).any λo=>o.isNone with
 | true=>
  rw[hN]at F;refine⟨λz=>(by cases z),λ_=>⟨U,?_,g⟩⟩;dsimp[j3,lC,bools,kj,Nat.reduceAdd,Nat.reduceSub,e0,↓f,ib,L,K,N,↓P,↓e3,F]
 | false=>
  rw[hN]at F;obtain⟨o1,o2⟩:=D9 hN;rw[o1]at B;have B:jF U T3.length=some ((tP x).map tA):=B;have tl:(tP x).length=(D0 x).length:=by
   have:=cg List.length o2;rw[aK]at this;unfold tP;rw[<- this];exact aK ..
  rw[bA,cO];have ln:mw (.ref T3.length) U=.ok (.int ((tP x).length:Int)) U:=by dsimp[j3,bools,B,aK]
  by_cases m:(tP x).length<=40
  ·rw[aJ m,cO];have c1:=RA (S:=U) (src:=mL<|jE 4) (τ:=[.str x,.ref S.length,.ref S1.length,.int (x.length:Int),.ref T3.length]) (e:=AY Ay Ay (Cr sU<|eC<|.int 60) (jE 0)<|eC<|.int 60) (rq (by dsimp[j3,bools]) B) (λq=>.bl<|Pd q) B (λq _ V=>Rc) (by omega);have m1:((tP x).map λq:Int×Int=>A.bl<|Pd q)=((tP x).map Pd).map A.bl:=by rw[bL];rfl
   rw[m1]at c1;have J:=vP (S:=U) (bs:=(tP x).map Pd);rw[all_map]at J;obtain⟨V,hV⟩:∃V,V=U++[O.lst<|((tP x).map Pd).map .bl]:=⟨_,rfl⟩;rw[<- hV]at c1 J;have kV:lH U V:=by rw[hV];exact Kp.refl.lay
   have v4:=kV.lst _ _ (λz=>z) B;have v1:=kV.lst _ _ (λz=>z) u1
   cases hb:(tP x).all Pd with
   | false=>
    rw[hb]at J;refine⟨λz=>(by cases z),λ_=>⟨V,?_,g.trans kV⟩⟩;dsimp[j3,lC,bools,kj,Nat.reduceAdd,Nat.reduceSub,e0,↓f,ib,L,K,N,↓P,↓e3,F,ln,aI<|show ¬((tP x).length:Int)>40 by omega,↓c1,J,bA]
   | true=>
    rw[hb]at J;rw[cO];have c2:=Ud (S:=V) (a0:=.str x) (a1:=.ref S.length) (a2:=.ref S1.length) (a3:=.int (x.length:Int)) v4 m;have d:=vP (S:=V) (bs:=(lE 1 ((tP x).length:Int)).map λk=>decide<|((tP x).getD (k-1).toNat (0,0)).1<((tP x).getD k.toNat (0,0)).1);rw[all_map]at d;have d:wO (.ref V.length) (V++[O.lst<|((lE 1 ((tP x).length:Int)).map λk=>decide<|((tP x).getD (k-1).toNat (0,0)).1<((tP x).getD k.toNat (0,0)).1).map .bl])=.ok (.bl<|WJ<|tP x) _:=d;obtain⟨W,hW⟩:∃W,W=V++[O.lst<|((lE 1 ((tP x).length:Int)).map λk=>decide<|((tP x).getD (k-1).toNat (0,0)).1<((tP x).getD k.toNat (0,0)).1).map .bl]:=⟨_,rfl⟩;rw[<- hW]at c2 d;have Z:lH V W:=by rw[hW];exact Kp.refl.lay
    have w4:=Z.lst _ _ (λz=>z) v4;have w1:=Z.lst _ _ (λz=>z) v1
    cases hu:WJ (tP x)with
    | false=>
     rw[hu]at d;refine⟨λz=>(by cases z),λ_=>⟨W,?_,(g.trans kV).trans Z⟩⟩;dsimp[j3,lC,bools,kj,Nat.reduceAdd,Nat.reduceSub,e0,↓f,ib,L,K,N,↓P,↓e3,F,ln,aI<|show ¬((tP x).length:Int)>40 by omega,↓c1,J,bg,↓c2,d,bA]
    | true=>
     rw[hu]at d;have c3:=Wy (S:=W) (a0:=.str x) (a2:=.ref S1.length) (a3:=.int (x.length:Int)) w4 w1 tl m ps;refine⟨λ_=>⟨W.length,W++[O.lst<|(Es x).map tA],?_,jT,((g.trans kV).trans Z).lay⟩,λz=>(by cases z)⟩;dsimp[j3,lC,bools,kj,Nat.reduceAdd,Nat.reduceSub,e0,↓f,ib,L,K,N,↓P,↓e3,F,ln,aI<|show ¬((tP x).length:Int)>40 by omega,↓c1,J,bg,↓c2,d,↓c3];rfl
  ·rw[aI m,cT];refine⟨λz=>(by cases z),λ_=>⟨U,?_,g⟩⟩;dsimp[j3,lC,bools,kj,Nat.reduceAdd,Nat.reduceSub,e0,↓f,ib,L,K,N,↓P,↓e3,F,ln,aJ<|show((tP x).length:Int)>40 by omega]
end K83
namespace K83
open PySem L2 Am
open Pt (C qx term tQ sg tp rX pT R0 pH tF dg)
open Pn (scan)
abbrev zf (t:Int×Int)(q:Int×ar):Int×Int:=(t.1,t.2 * q.1)
def V5{t:Int×Int}{q:Int×ar}(h:Jf (Sp.mk q.2)=some t)(hs:q.1=1\/q.1=-1)(h0:-60<=t.1)(h1:t.1<=60):(-60<=(zf t q).1/\(zf t q).1<=60/\(zf t q).2≠0/\(zf t q).2.natAbs<10 ^ 30)/\C (term<|zf t q)=q.2/\qx (zf t q)=Pn.sc q.1/\((zf t q).2<0 ↔ q.1=-1):=by
 obtain⟨k,e2,k0,k1,_,d⟩:=U5 h;rw[Pt.pY]at d;have a:(zf t q).2=(k:Int) * q.1:=by unfold zf;rw[e2]
 have na:(zf t q).2.natAbs=k:=by
  rw[a]
  rcases hs with z|z
  ·rw[z,fZ,dH]
  ·rw[z,mul_neg,fZ,f7,dH]
 have lt:(zf t q).2<0 ↔ q.1=-1:=by
  rw[a]
  rcases hs with z|z
  ·rw[z,fZ];omega
  ·rw[z,mul_neg,fZ];omega
 refine⟨⟨h0,h1,by omega,by rw[na];exact k1⟩,?_,?_,lt⟩
 ·rw[Pn.wM (q:=zf t q) h0,na,d];rfl
 ·unfold qx Pn.sc
  rcases hs with z|z
  ·rw[aO (λy=>by have:=lt.mp y;omega),aO<|by omega]
  ·rw[aQ<|lt.mpr z,aQ<|by omega]
theorem Eh:∀(ps:List<|Int×ar) (ts:List<|Int×Int),ps.map (λq=>Jf<|Sp.mk q.2)=ts.map some->(∀q∈ps,q.1=1\/q.1=-1)->(∀t∈ts,-60<=t.1/\t.1<=60) ->
  (∀q∈List.zipWith zf ts ps,-60<=q.1/\q.1<=60/\q.2≠0/\q.2.natAbs<10 ^ 30)/\(List.zipWith zf ts ps).map Prod.fst=ts.map Prod.fst/\(List.zipWith zf ts ps).flatMap pT=Pn.rest ps
 | [],[],_,_,_=>⟨λq z=>(by cases z),rfl,rfl⟩
 | [],t::ts,h,_,_=>by cases h
 | q::ps,[],h,_,_=>by cases h
 | q::ps,t::ts,h,hs,hb=>by
  rw[bP,bP]at h;obtain⟨h1,j⟩:=cD h;obtain⟨a,b,c⟩:=Eh ps ts j (λx g=>hs x<|aS _ g) λx g=>hb x<|aS _ g;obtain⟨k,m⟩:=hb t<|aT ..;obtain⟨d,e,f,_⟩:=V5 h1 (hs q<|aT ..) k m;rw[List.zipWith_cons_cons];refine⟨λx g=>?_,?_,?_⟩
  ·rcases bf.1 g with z|z
   ·rw[z];exact d
   ·exact a x z
  ·rw[bP,bP,b];rfl
  ·rw[fM,c];show(32::qx (zf t q)::32::C (term<|zf t q))++Pn.rest ps=(32::Pn.sc q.1::32::q.2)++Pn.rest ps;rw[e,f]
def Nx{x:Str}(h:Pl x)(hk:NJ x=true):vU x (Es x):=by
 obtain⟨_,_,ps⟩:=K3 h;unfold NJ at hk;rw[bE,bE,bE]at hk;obtain⟨p,F,j,P⟩:=hk;have p:((os x).any λo=>o.isNone)=false:=by
  rw[Bool.not_eq_true']at p;exact p
 obtain⟨_,g⟩:=D9 p;have g:(D0 x).map (λq=>Jf<|Sp.mk q.2)=(tP x).map some:=g;have j:∀t∈tP x,-60<=t.1/\t.1<=60:=λt Y=>bO<|cV.1 j t Y;obtain⟨a,b,c⟩:=Eh (D0 x) (tP x) g ps j;have B:Es x=List.zipWith zf (tP x) (D0 x):=rfl;have N:(Es x).length=(tP x).length:=by rw[<- aK (f:=Prod.fst),B,b,aK]
 refine⟨⟨by rw[B];exact a,fY.mp<|by rw[B,b];exact(Gu _).mp P,by rw[N];exact bO F⟩,?_⟩;obtain⟨w,t,e,f,_⟩:=Pn.r9 ((C x).drop<|yg x).length ((C x).drop<|yg x) (1-2 * (yg x:Int)) []<|aP _;have e:D0 x=(1-2 * (yg x:Int),w)::t:=e;rw[cF]at f
 cases m:tP x with
 | nil=>rw[e,m]at g;cases g
 | cons K ts=>
  rw[e,m,bP,bP]at g;obtain⟨L,Z⟩:=cD g;obtain⟨O,U⟩:=j K (by rw[m];exact aT ..);have V:(1-2 * (yg x:Int))=1\/(1-2 * (yg x:Int))=-1:=ps (1-2 * (yg x:Int),w) (by rw[e];exact aT ..);obtain⟨d,T,e6,k⟩:=V5 (q:=(1-2 * (yg x:Int),w)) L V O U;obtain⟨_,_,c2⟩:=Eh t ts Z (λq G=>ps q<|by rw[e];exact aS _ G) (λq G=>j q<|by rw[m];exact aS _ G);rw[B,m,e,List.zipWith_cons_cons];apply Pt.ext;rw[SD,c2];unfold R0;rw[T];show _=((if (zf K (1-2 * (yg x:Int),w)).2<0 then[45]else[])++w)++Pn.rest t;rw[bI,<- f];unfold yg at k ⊢;by_cases q:(C x).head?=some 45
  ·rw[aQ q]at k ⊢;rw[aQ<|k.mpr rfl]
   cases J:C x with
   | nil=>rw[J]at q;cases q
   | cons c l=>rw[J]at q;rw[aU q];rfl
  ·rw[aO q]at k ⊢;rw[aO λy=>absurd (show(1:Int)=-1 from k.mp y) ⋯];rfl
abbrev QN (r:Int×Int):Int:=if r.2<0 then -1 else 1
abbrev gi (r:Int×Int):Int×ar:=(QN r,C<|term r)
theorem Gx:∀(l:List<|Int×Int),l.flatMap pT=Pn.rest (l.map gi)
 | []=>rfl
 | r::l=>by
  rw[fM,Gx l];show(32::qx r::32::C (term r))++_=(32::Pn.sc (QN r)::32::C (term r))++_;have:qx r=Pn.sc (QN r):=by
   unfold qx Pn.sc QN;by_cases n:r.2<0
   ·rw[aQ n,aQ n];rfl
   ·rw[aO n,aO n];rfl
  rw[this];rfl
def GY{q:Int×Int}(h0:-60<=q.1):32∉C (term q):=by rw[Pn.wM h0];exact Pn.K_
def Lp{x:Str}{l:List<|Int×Int}(h:vU x l)(J:C x≠[48]):D0 x=l.map gi:=by
 rcases BV h with⟨z,_⟩|_
 ·exact absurd z J
 ·obtain⟨g,e⟩:=h
  cases l with
  | nil=>exact absurd (by rw[e];decide +kernel) J
  | cons q l=>
   have f:=g.b q<|aT ..;obtain⟨c,r,j,hc,_⟩:=Pt.xX f.1;have ex:C x=R0 q++l.flatMap pT:=by rw[e];rfl
   have d:yg x=(if q.2<0 then 1 else 0)/\(C x).drop (yg x)=C (term q)++l.flatMap pT:=by
    unfold yg;rw[ex];unfold R0;by_cases n:q.2<0
    ·rw[aQ n,aQ n];have hd:(([45]++C (term q))++l.flatMap pT).head?=some 45:=rfl;rw[aQ hd];exact⟨rfl,rfl⟩
    ·rw[aO n,aO n,cF];have hd:¬(C (term q)++l.flatMap pT).head?=some 45:=by rw[j];exact λz=>hc (aU z)
     rw[aO hd];exact⟨rfl,rfl⟩
   unfold D0;rw[d.2,d.1,Gx];rw[Pn.Bf (GY f.1) (λp hp=>by
    obtain⟨r,k,rfl⟩:=cj.1 hp;refine⟨?_,GY (g.b r<|aS _ k).1⟩;unfold gi QN;by_cases n:r.2<0
    ·rw[aQ n];exact .inr rfl
    ·rw[aO n];exact .inl rfl)]
   rw[bP];refine cg (λz=>z::l.map gi) ?_;unfold gi QN;by_cases n:q.2<0
   ·rw[aQ n,aQ n];rfl
   ·rw[aO n,aO n];rfl
theorem any_some{α:Type}:∀(l:List α),((l.map some).any λo=>o.isNone)=false
 | []=>rfl
 | _::l=>any_some l
theorem FY{α:Type}:∀(l:List α),(l.map some).filterMap id=l
 | []=>rfl
 | a::l=>by
  show a::(l.map some).filterMap id=_;rw[FY l]
def K4{x:Str}(h:vU x l)(J:C x≠[48]):NJ x=true/\Es x=l:=by
 have ep:=Lp h J;have g:=h.1.b;have j:os x=(l.map λr=>(r.1,((r.2.natAbs:Nat):Int))).map some:=by
  unfold os;rw[ep,bL,bL];refine gf λr f=>?_;obtain⟨a,b,c,d⟩:=g r f;exact TL (by omega) d (by omega)<|by rw[Pt.pY];exact Pn.wM a
 have k:tP x=l.map λr=>(r.1,((r.2.natAbs:Nat):Int)):=by unfold tP;rw[j,FY]
 constructor
 ·unfold NJ;rw[j,any_some,k,aK,aJ h.1.len,bA,cO,cO,bE];constructor
  ·refine cV.2 λt m=>?_;obtain⟨r,f,rfl⟩:=cj.1 m;obtain⟨a,b,_⟩:=g r f;exact aJ ⟨a,b⟩
  ·refine(Gu _).mpr ?_;rw[bL];exact fY.mpr h.1.up
 ·unfold Es;rw[k,ep,List.zipWith_map,List.zipWith_self];refine(gf λr f=>?_).trans (map_id l);refine Prod.ext rfl ?_;show((r.2.natAbs:Nat):Int) * QN r=r.2;unfold QN;by_cases n:r.2<0
  ·rw[aQ n];omega
  ·rw[aO n];omega
def Od{x:Str}(h:Pl x):(∀l,vU x l->∃(W:Nat) (S':jL),kM [.str x] S=.ok (.ref W) S'/\jF S' W=some (l.map tA)/\lH S S')/\((∀l,¬vU x l)->∃S',kM [.str x] S=.ok .non S'/\lH S S'):=by
 by_cases z:C x=[48]
 ·have e0:mJ false (.str x) (.str<|PySem.Str.ofString "0") S=.ok (.bl<|decide<|C x=[48]) S:=by rw[qp,eq_0]
  rw[aJ z]at e0;have d:newL [] S=.ok (.ref S.length) (S++[O.lst []]):=lI (show 0<=16777216 by decide);have f:vU x []:=⟨Nj,Pt.ext<|by rw[z];decide +kernel⟩;refine⟨λl t=>?_,λt=>absurd f<|t []⟩
  rcases BV t with⟨_,y⟩|⟨y,_⟩
  ·subst y;refine⟨S.length,S++[O.lst []],?_,jT,Kp.refl.lay⟩;unfold kM pC o_;dsimp[j3,lC,bools,kj,Nat.reduceAdd,Nat.reduceSub,e0,d]
  ·exact absurd z y
 ·obtain⟨a,b⟩:=O7 (S:=S) h z;refine⟨λl t=>?_,λt=>?_⟩
  ·obtain⟨k,e⟩:=K4 t z;rw[<- e];exact a k
  ·refine b<|dU.mpr λk=>t _<|Nx h k
end K83
namespace K83
open PySem L2 Am
open Pt (C qx term tQ sg tp rX pT R0 pH tF dg)
abbrev Vv (w:Int)(F:ae->jL->Am.R A):Prop:=(w=0/\F=mV)\/(w=1/\F=nE)\/(w=2/\F=lG)
def Uo{n:Nat}{bs:List Bool}(h:jF S n=some xs)(hb:A.EE xs=some bs):O5 (.ref n) S=.ok (.bl<|bs.any λb=>b) S:=by
 show opt (jF S n) _=_;rw[h];show opt (A.EE xs) _=_;rw[hb];rfl
def D_{F:ae->jL->Am.R A}{w:Int}{x:Str}{v:A}(hw:Vv w F)(e:F [.str x] S=.ok v S1)(hd:(∃xs ys,v=.tup xs/\due=.tup ys)\/∃n m,v=.ref n/\due=.ref m)(j:mJ false v due S1=.ok (.bl true) S1):nM [.str x,due,.int w] S=.ok (.bl true) S1:=by
 have d:∀(n:Nat) (T:jL),Aa true (.ref n) .non T=.ok (.bl true) T:=λ_ _=>rfl;unfold nM sP sV
 rcases hd with⟨xs,ys,rfl,rfl⟩|⟨n,m,rfl,rfl⟩<;>rcases hw with⟨rfl,rfl⟩|⟨rfl,rfl⟩|⟨rfl,rfl⟩ <;>
  dsimp[j3,lC,bools,kj,Nat.reduceAdd,Nat.reduceSub,yk,CJ,Cd,bx,show((1:Int) == 0)=false from rfl,show((2:Int) == 0)=false from rfl,show((2:Int) == 1)=false from rfl,e,d,zM,j]
def EK{F:ae->jL->Am.R A}{w:Int}{x:Str}(hw:Vv w F)(e:F [.str x] S=.ex "NoText" S1):∃S2,nM [.str x,.non,.int w] S=.ok (.bl true) S2/\lH S1 S2:=by
 obtain⟨T1,h1⟩:∃T1,T1=S1++[O.lst [.bl false,.bl false,.bl false,.bl false]]:=⟨_,rfl⟩;obtain⟨T2,d⟩:∃T2,T2=T1++[O.lst [.bl false,.bl false,.bl false]]:=⟨_,rfl⟩;obtain⟨T3,f⟩:∃T3,T3=T2++[O.lst [.bl false,.bl false,.bl false,.bl false,.bl false,.bl false,.bl false]]:=⟨_,rfl⟩;have g:newL [.bl false,.bl false,.bl false,.bl false] S1=.ok (.ref S1.length) T1:=by rw[h1];exact lI (show 4<=16777216 by decide)
 have G:newL [.bl false,.bl false,.bl false] T1=.ok (.ref T1.length) T2:=by rw[d];exact lI (show 3<=16777216 by decide)
 have J:jF T2 S1.length=some [.bl false,.bl false,.bl false,.bl false]:=by rw[d];exact k_ (by rw[h1];exact jT)
 have j:jF T2 T1.length=some [.bl false,.bl false,.bl false]:=by rw[d];exact jT
 have k:kq (.ref S1.length) (.ref T1.length) T2=.ok (.ref T2.length) T3:=by rw[f];exact AU J j ⋯
 have B:jF T3 T2.length=some [.bl false,.bl false,.bl false,.bl false,.bl false,.bl false,.bl false]:=by rw[f];exact jT
 have K:O5 (.ref T2.length) T3=.ok (.bl false) T3:=Uo B (bs:=[false,false,false,false,false,false,false]) rfl;have p:EG [("NoText",false)] "NoText" = some false:=by decide +kernel
 have C:EG [("NoText",true)] "NoText" = some true:=by decide +kernel
 refine⟨T3,?_,by rw[f,d,h1];exact Kp.refl.lay.lay.lay⟩;have m:("NoText" : Str)∈(["NoText"]:ba):=aX.2 rfl;unfold nM sP sV
 rcases hw with⟨rfl,rfl⟩|⟨rfl,rfl⟩|⟨rfl,rfl⟩ <;>
  dsimp[j3,lC,bools,kj,Nat.reduceAdd,Nat.reduceSub,yk,CJ,Cd,bx,show((1:Int) == 0)=false from rfl,show((2:Int) == 0)=false from rfl,show((2:Int) == 1)=false from rfl,e,aQ m,wN,p,C,g,G,k,K,kD,bA,NH]
end K83
namespace K83
open PySem L2 Am
open Pt (C qx term tQ sg tp rX pT R0 pH tF dg)
def NL{x:Str}{k:Nat}(h:(C x).all (λc=>decide<|c<128)=true)(j:x.length<=k)(J:k<=1000):Pl x:=⟨λc hc=>bO<|cV.1 h c hc,cK j J⟩
def xB{x y:Str}(h:Pl x)(h':Pl y)(j:x.length+y.length<=1000):Pl (x++y):=⟨λc hc=>by
 rw[Pt.rZ]at hc;exact(bF.1 hc).elim (h.as c) (h'.as c),by rw[nQ];exact j⟩
def Xy{c:Nat}(h:c<128):Pl (⟨#[c]⟩:Str):=⟨λd hd=>by rw[aX.1 hd];exact h,by show 1<=1000;decide⟩
def N8{x:Str}{d:Int}(h:Pl x)(h0:0<=d)(h1:d<x.length):∃c,c<128/\oJ (.str x) (.int d) S=.ok (.str ⟨#[c]⟩) S:=by
 have lt:d.toNat<(C x).length:=by rw[kK];omega
 exact⟨(C x)[d.toNat],h.as _<|cJ lt,EU h (i:=d.toNat) (by omega)<|aH lt⟩
abbrev A7:Str:=PySem.Str.ofString " !\"#$&'\x28\x29*+,-./0123456789:;<=>?@ABCDEFGHIJKLMNOPQRSTUVWXYZ[\\]^_`abcdefghijklmnopqrstuvwxyz{|}~"
abbrev AK:Str:=PySem.Str.ofString " 0123v^*+-"
def Yw:Pl A7/\1<=A7.length:=⟨NL (k:=100) ∅ ∅ ⋯,by decide +kernel⟩
def Yo:Pl AK/\1<=AK.length:=⟨NL (k:=100) ∅ ∅ ⋯,by decide +kernel⟩
def Vb{b:Nat}(h:oU S b):∃c S',qm [.ref b] S=.ok (.str ⟨#[c]⟩) S'/\c<128/\oU S' b/\Kp (·=b) S S':=by
 obtain⟨d,S1,e1,F,G,p,k1⟩:=digit (m:=3) h ⋯ ⋯;have j:∀y:Str,Pl y->1<=y.length->∃c S',(∃d,jQ [.ref b,.int (y.length:Int)] S1=.ok (.int d) S'/\oJ (.str y) (.int d) S'=.ok (.str ⟨#[c]⟩) S')/\c<128/\oU S' b/\Kp (·=b) S S':=λy py J=>by
  obtain⟨e,f,e2,B,C,g,k2⟩:=digit (m:=(y.length:Int)) p (by omega) (by have:=py.le;omega);obtain⟨c,hc,a⟩:=N8 (S:=f) py B C;exact⟨c,f,⟨e,e2,a⟩,hc,g,k1.trans k2⟩
 unfold qm vX vG;rw[show PySem.Str.ofString " !\"#$&'\x28\x29*+,-./0123456789:;<=>?@ABCDEFGHIJKLMNOPQRSTUVWXYZ[\\]^_`abcdefghijklmnopqrstuvwxyz{|}~" = A7 from rfl,show PySem.Str.ofString " 0123v^*+-" = AK from rfl];by_cases hd:d>0
 ·obtain⟨c,f,⟨e,e2,a⟩,hc,g,k2⟩:=j AK Yo.1 Yo.2;have k:mw (.str AK) S1=.ok (.int AK.length) S1:=Jb Yo.1;exact⟨c,f,by dsimp[j3,lC,bools,kj,Nat.reduceAdd,Nat.reduceSub,e1,aJ hd,k,e2,a],hc,g,k2⟩
 ·obtain⟨c,f,⟨e,e2,a⟩,hc,g,k2⟩:=j A7 Yw.1 Yw.2;have k:mw (.str A7) S1=.ok (.int A7.length) S1:=Jb Yw.1;exact⟨c,f,by dsimp[j3,lC,bools,kj,Nat.reduceAdd,Nat.reduceSub,e1,aI hd,k,e2,a],hc,g,k2⟩
def Oj{b:Nat}{x:Str}(h:oU S b)(hx:Pl x)(hl:x.length<=900):∃(y:Str) (a3' a4':A) (S':jL),pQ [.ref b,.str x,a2,a3,a4] S=.nx [.ref b,.str y,a2,a3',a4'] S'/\Pl y/\y.length<=x.length+1/\oU S' b/\Kp (·=b) S S':=by
 have ln:∀T:jL,mw (.str x) T=.ok (.int x.length) T:=λT=>Jb hx;obtain⟨i,S1,e1,i0,i1,V,k1⟩:=digit (m:=(x.length:Int)+1) h (by omega) (by omega);obtain⟨w,S2,e2,w0,w1,b2,k2⟩:=digit (m:=3) V ⋯ ⋯;obtain⟨c,f,e3,hc,Y,k3⟩:=Vb b2;obtain⟨d,g⟩:∃d,d=f++[O.lst [.str ⟨#[c]⟩,.str<|PySem.Str.ofString ""]]:=⟨_,rfl⟩;have Z:newL [.str ⟨#[c]⟩,.str<|PySem.Str.ofString ""] f=.ok (.ref f.length) d:=by rw[g];kcj_m
 have P:jF d f.length=some [.str ⟨#[c]⟩,.str<|PySem.Str.ofString ""]:=by rw[g];exact jT
 have k4:Kp (·=b) f d:=by rw[g];exact Kp.refl.lay
 have b4:oU d b:=Y.kp (c:=λ_=>False) (by rw[g];exact Kp.refl.lay) λz=>z;obtain⟨s,hs,ps,ls⟩:∃s:Str,oJ (.ref f.length) (.int<|if w=1 then 1 else 0) d=.ok (.str s) d/\Pl s/\s.length<=1:=by
  by_cases q:w=1
  ·refine⟨PySem.Str.ofString "",?_,NL (k:=1) ∅ ∅ ⋯,by decide +kernel⟩;rw[aQ q];show opt (jF d f.length) _=_;rw[P];rfl
  ·refine⟨⟨#[c]⟩,?_,Xy hc,aP _⟩;rw[aO q];show opt (jF d f.length) _=_;rw[P];rfl
 have G:∀T:jL,mG (.bl<|w == 1) T=.ok (.int<|if w=1 then 1 else 0) T:=λT=>by
  by_cases q:w=1
  ·rw[dW.mpr q,aQ q];rfl
  ·rw[bw.mpr q,aO q];rfl
 have N:∀T:jL,mG (.bl<|decide<|w>0) T=.ok (.int<|if w>0 then 1 else 0) T:=λT=>by
  by_cases q:w>0
  ·rw[aJ q,aQ q];rfl
  ·rw[aI q,aO q];rfl
 have p:C (Txt.slice x none<|some i)=(C x).take i.toNat:=by
  have:=Pn.G5 x i.toNat;rw[show((i.toNat:Nat):Int)=i by omega]at this;exact this
 obtain⟨j,F⟩:∃j,j=i+(if w>0 then 1 else 0):=⟨_,rfl⟩;have j0:0<=j:=by rw[F];split<;>omega
 have U:C (Txt.slice x (some j) none)=(C x).drop j.toNat:=by
  by_cases q:j.toNat<=x.length
  ·have:=Pt.mO x q;rw[show((j.toNat:Nat):Int)=j by omega]at this;exact this
  ·rw[gZ<|by rw[kK];omega,Pn.G8 x (a:=x.length) (b:=x.length) (aP _) (aP _) ?_,g_,jy];unfold Builtin.Str.strSliceIndices;dsimp[show((1:Int)>0)=True from by simp,dB];congr 1
   all_goals
    repeat' split
    all_goals omega
 have p1:Pl (Txt.slice x none<|some i):=uW hx (λc hc=>by rw[p]at hc;exact List.mem_of_mem_take hc) (by rw[p,cU];omega);have p2:Pl (Txt.slice x (some j) none):=M4 hx U;have q1:(Txt.slice x none<|some i).length=i.toNat:=by rw[<- kK,p,cU,kK];omega
 have q2:(Txt.slice x (some j) none).length=x.length-j.toNat:=by rw[<- kK,U,cE,kK]
 have ij:i<=j:=by rw[F];split<;>omega
 have J:∀(a2 a3 a4:A) (T:jL),ou (jE 1) lP (kP<|jE 3) [.ref b,.str x,a2,.int i,a4] T=.ok (.str<|Txt.slice x none<|some i) T:=λa2 a3 a4 T=>by
  show gd ((Txt.slice x none<|some i).length<=sizeLine) (R.ok (A.str<|Txt.slice x none<|some i) T)=_;exact j9<|by rw[bB];omega
 have a1:kq (.str<|Txt.slice x none<|some i) (.str s) d=.ok (.str<|Txt.slice x none (some i)++s) d:=pS (by omega);have ls2:(Txt.slice x none (some i)++s).length<=i.toNat+1:=by rw[nQ];omega
 have K:OC (.str x) (some j) none d=.ok (.str<|Txt.slice x (some j) none) d:=j9 (by rw[bB];omega);have L:kq (.str<|Txt.slice x none (some i)++s) (.str<|Txt.slice x (some j) none) d=.ok (.str<|Txt.slice x none (some i)++s++Txt.slice x (some j) none) d:=pS (by omega);have B:ou (jE 1) (kP<|jJ kq (jE 3)<|jV (f1 mG)<|jC (jJ Dy (jE 4)<|eC<|.int 0) jK) lP [.ref b,.str x,a2,.int i,.int w] d=.ok (.str<|Txt.slice x (some j) none) d:=by
  have e:kP (jJ kq (jE 3)<|jV (f1 mG)<|jC (jJ Dy (jE 4)<|eC<|.int 0) jK) [.ref b,.str x,a2,.int i,.int w] d=.ok (some j) d:=by
   show((jJ kq (jE 3) (jV (f1 mG)<|jC (jJ Dy (jE 4)<|eC<|.int 0) jK) [.ref b,.str x,a2,.int i,.int w] d).bind _)=_;dsimp[j3,lC,bools,N,F]
  unfold ou;rw[show jE 1 [.ref b,.str x,a2,.int i,.int w] d=.ok (.str x) d from rfl,R.kO,e,R.kO];exact K
 refine⟨Txt.slice x none (some i)++s++Txt.slice x (some j) none,.int i,.int w,d,?_,xB (xB p1 ps<|by omega) p2<|by omega,by rw[nQ];omega,b4,((k1.trans k2).trans k3).trans k4⟩;unfold pQ;dsimp[j3,lC,bools,ln,e1,e2,↓J a2 a3,e3,Z,G,hs,a1,↓B,L]
end K83
namespace K83
open PySem L2 Am
open Pt (C qx term tQ sg tp rX pT R0 pH tF dg)
def RM{b:Nat}{x:Str}(h:oU S b)(U:Pl x)(hl:x.length<=800):∃(y:Str) (S':jL),mj [.ref b,.str x] S=.ok (.str y) S'/\Pl y/\y.length<=x.length+2/\oU S' b/\Kp (·=b) S S':=by
 obtain⟨d,S1,e1,J,L,j,k1⟩:=digit (m:=3) h ⋯ ⋯;unfold mj qZ rf;dsimp[j3,lC,bools,kj,Nat.reduceAdd,Nat.reduceSub];refine yQ (lo:=0) (hi:=d) (S1:=S1) (show tM _ _=_ from uT (by dsimp[j3,bools,e1])<|p6 (by omega)<|by omega)
  (λi τ T=>∃y a2 a3 a4,τ=[.ref b,.str y,a2,a3,a4]/\Pl y/\y.length<=x.length+i/\oU T b/\Kp (·=b) S T)
  (λZ=>∃(y:Str) (S':jL),RS.end (RS.seq Z _)=.ok (.str y) S'/\Pl y/\y.length<=x.length+2/\oU S' b/\Kp (·=b) S S') ⟨x,_,_,_,rfl,U,aP _,j,k1⟩ ?_ ?_
 ·rintro i τ T hi ⟨y,a2,a3,a4,rfl,py,F,f,kT⟩;left;obtain⟨z,p,C,G,e,B,K,g,k⟩:=Oj (a2:=.int<|0+(i:Int)) (a3:=a3) (a4:=a4) f py (by omega);exact⟨_,_,e,z,_,_,_,rfl,B,by omega,g,kT.trans k⟩
 ·rintro τ T ⟨y,a2,a3,a4,rfl,py,F,f,kT⟩;exact⟨y,T,by dsimp[j3,bools],py,by omega,f,kT⟩
def VS:∀k:Nat,k<161->((C<|Tx.tx<|(k:Int)-60).all λc=>decide<|c<128)=true/\(Tx.tx<|(k:Int)-60).length<=3:=by decide +kernel
def Dz{p:Int}(h0:-60<=p)(h1:p<=100):Pl (Tx.tx p)/\(Tx.tx p).length<=3:=by
 obtain⟨a,b⟩:=VS (p+60).toNat (by omega);rw[show(((p+60).toNat:Nat):Int)-60=p by omega]at a b;exact⟨NL a b ⋯,b⟩
def V8{n:Nat}{xs:ae}{d:Int}{k:Nat}(h:jF S n=some xs)(j:xs.length=k)(h0:0<=d)(h1:d<k):∃a∈xs,oJ (.ref n) (.int d) S=.ok a S:=by
 have lt:d.toNat<xs.length:=by omega
 refine⟨xs[d.toNat],cJ lt,?_⟩;show opt (jF S n) _=_;rw[h,kD,show qE xs d=some xs[d.toNat]from vK (k:=d.toNat) (by omega)<|aH lt];rfl
abbrev Yi (a:A)(k:Nat):Prop:=∃z:Str,a=.str z/\Pl z/\z.length<=k
def Ep(z:Str)(h:(C z).all (λc=>decide<|c<128)=true)(j:z.length<=4):Yi (.str z) 4:=⟨z,rfl,NL h j ⋯,j⟩
def U7{n:Nat}{xs:ae}{d:Int}{k:Nat}(h:jF S n=some xs)(J:xs.length=k)(h0:0<=d)(h1:d<k)(hs:∀a∈xs,Yi a 4):∃z:Str,oJ (.ref n) (.int d) S=.ok (.str z) S/\Pl z/\z.length<=4:=by
 obtain⟨a,j,e⟩:=V8 h J h0 h1;obtain⟨z,rfl,g,f⟩:=hs a j;exact⟨z,e,g,f⟩
def Rj{S:jL}{b:Nat}(h:oU S b):b<S.length:=by obtain⟨_,_,e,_⟩:=h;exact oV e
def UZ{b:Nat}{p:Int}{x:Str}(h:oU S b)(hx:Pl x)(hl:x.length<=200)(h0:-4<=p)(h1:p<=40):∃(p':Int) (y:Str) (a4':A) (S':jL),sL [.ref b,.int p,.str x,a3,a4] S=.nx [.ref b,.int p',.str y,a3,a4'] S'/\Pl y/\y.length<=x.length+20/\p<=p'/\p'<=p+3/\oU S' b/\Kp (·=b) S S':=by
 obtain⟨ptx,ltx⟩:=Dz (p:=p) (by omega) (by omega);obtain⟨S1,P⟩:∃S1,S1=S++[O.lst [.str<|PySem.Str.ofString "",.str<|PySem.Str.ofString "3*",.str<|PySem.Str.ofString "20*"]]:=⟨_,rfl⟩;have n1:newL [.str<|PySem.Str.ofString "",.str<|PySem.Str.ofString "3*",.str<|PySem.Str.ofString "20*"] S=.ok (.ref S.length) S1:=by rw[P];exact lI (show 3<=16777216 by decide)
 have l1:jF S1 S.length=some [.str<|PySem.Str.ofString "",.str<|PySem.Str.ofString "3*",.str<|PySem.Str.ofString "20*"]:=by rw[P];exact jT
 have b1:oU S1 b:=h.kp (c:=λ_=>False) (by rw[P];exact Kp.refl.lay) λz=>z;have k1:Kp (·=b) S S1:=by rw[P];exact Kp.refl.lay
 obtain⟨d,Y,e2,d0,d1,b2,k2⟩:=digit (m:=3) b1 ⋯ ⋯;have nb:¬S.length=b:=f_<|Rj h;have l2:=k2.lst _ _ nb l1;obtain⟨Z,x1,pw1,lw1⟩:=U7 l2 rfl d0 d1 (by
  intro a F
  rcases bf.1 F with z|F
  ·rw[z];exact Ep _ ∅ ∅
  ·rcases bf.1 F with z|F
   ·rw[z];exact Ep _ ∅ ∅
   ·rw[aX.1 F];exact Ep _ ∅ ∅)
 have vv:(PySem.Str.ofString "v^").length=2:=by decide +kernel
 have plv:Pl (PySem.Str.ofString "v^"):=NL (k:=2) ∅ ∅ ⋯;have av:∀T:jL,kq (.str<|PySem.Str.ofString "v^") (.str<|Tx.tx p) T=.ok (.str<|PySem.Str.ofString "v^" ++ Tx.tx p) T:=λT=>pS (by omega);have plt:Pl (PySem.Str.ofString "v^" ++ Tx.tx p):=xB plv ptx (by omega);have llt:(PySem.Str.ofString "v^" ++ Tx.tx p).length<=5:=by rw[nQ];omega
 obtain⟨B,V⟩:∃B,B=Y++[O.lst [.str<|PySem.Str.ofString "v^" ++ Tx.tx p,.str<|PySem.Str.ofString "v"]]:=⟨_,rfl⟩;have n3:newL [.str<|PySem.Str.ofString "v^" ++ Tx.tx p,.str<|PySem.Str.ofString "v"] Y=.ok (.ref Y.length) B:=by rw[V];kcj_m
 have l3:jF B Y.length=some [.str<|PySem.Str.ofString "v^" ++ Tx.tx p,.str<|PySem.Str.ofString "v"]:=by rw[V];exact jT
 have b3:oU B b:=b2.kp (c:=λ_=>False) (by rw[V];exact Kp.refl.lay) λz=>z;have k3:Kp (·=b) Y B:=by rw[V];exact Kp.refl.lay
 obtain⟨L,x2,pw2,lw2⟩:∃L:Str,oJ (.ref Y.length) (.int<|if p=1 then 1 else 0) B=.ok (.str L) B/\Pl L/\L.length<=5:=by
  by_cases q:p=1
  ·refine⟨PySem.Str.ofString "v",?_,NL (k:=5) ∅ ∅ ⋯,by decide +kernel⟩;rw[aQ q];show opt (jF B Y.length) _=_;rw[l3];rfl
  ·refine⟨_,?_,plt,llt⟩;rw[aO q];show opt (jF B Y.length) _=_;rw[l3];rfl
 have i1:∀T:jL,mG (.bl<|p == 1) T=.ok (.int<|if p=1 then 1 else 0) T:=λT=>by
  by_cases q:p=1
  ·rw[dW.mpr q,aQ q];rfl
  ·rw[bw.mpr q,aO q];rfl
 have aw:kq (.str Z) (.str L) B=.ok (.str<|Z++L) B:=pS (by omega);have pw:Pl (Z++L):=xB pw1 pw2 (by omega);have lw:(Z++L).length<=9:=by rw[nQ];omega
 have k13:=(k1.trans k2).trans k3;have mid:∃(w:Str) (j:jL),tN (oH<|jJ (mJ false) (jE 1)<|eC<|.int 0) (kC (jV (f1 qC)<|jC (jJ kq (eC<|.int 1)<|eFn jQ<|jC (jE 0)<|jC (eC<|.int 99) jK) jK)<|kB 4) ny [.ref b,.int p,.str x,a3,.str<|Z++L] B=.nx [.ref b,.int p,.str x,a3,.str w] j/\Pl w/\w.length<=9/\oU j b/\Kp (·=b) B j:=by
  by_cases q:p=0
  ·subst q;obtain⟨d,j,e4,d0,d1,b4,k4⟩:=digit (m:=99) b3 ⋯ ⋯;obtain⟨py,ly⟩:=Dz (p:=1+d) (by omega) (by omega);refine⟨Tx.tx<|1+d,j,?_,py,by omega,b4,k4⟩;dsimp[j3,lC,bools,bx,e4,xE (S:=j) (x:=1+d)<|by omega]
  ·refine⟨Z++L,B,?_,pw,lw,b3,Kp.refl⟩;have q1:(p == 0)=false:=bw.mpr q;dsimp[j3,lC,bools,q1]
 obtain⟨w,j,e4,pw4,lw4,b4,k4⟩:=mid;obtain⟨G,U⟩:∃G,G=j++[O.lst [.str<|PySem.Str.ofString " + ",.str<|PySem.Str.ofString " - "]]:=⟨_,rfl⟩;obtain⟨K,N⟩:∃K,K=G++[O.lst [.str<|PySem.Str.ofString "",.str<|PySem.Str.ofString "-"]]:=⟨_,rfl⟩;obtain⟨C,J⟩:∃C,C=K++[O.lst [.ref j.length,.ref G.length]]:=⟨_,rfl⟩;have n5:newL [.str<|PySem.Str.ofString " + ",.str<|PySem.Str.ofString " - "] j=.ok (.ref j.length) G:=by rw[U];kcj_m
 have n6:newL [.str<|PySem.Str.ofString "",.str<|PySem.Str.ofString "-"] G=.ok (.ref G.length) K:=by rw[N];kcj_m
 have n7:newL [.ref j.length,.ref G.length] K=.ok (.ref K.length) C:=by rw[J];kcj_m
 have k7:∀{c},Kp c j C:=λ{c}=>by rw[J,N,U];exact Kp.refl.lay.lay.lay
 have b7:oU C b:=b4.kp (c:=λ_=>False) k7 λz=>z;have l5:jF C j.length=some [.str<|PySem.Str.ofString " + ",.str<|PySem.Str.ofString " - "]:=by rw[J,N];exact k_ (k_<|by rw[U];exact jT)
 have l6:jF C G.length=some [.str<|PySem.Str.ofString "",.str<|PySem.Str.ofString "-"]:=by rw[J];exact k_ (by rw[N];exact jT)
 have l7:jF C K.length=some [.ref j.length,.ref G.length]:=by rw[J];exact jT
 have ee:∀T:jL,mJ false (.str x) (.str<|PySem.Str.ofString "") T=.ok (.bl<|decide<|x.length=0) T:=λT=>by rw[qp,Tx.wK]
 have i2:∀T:jL,mG (.bl<|decide<|x.length=0) T=.ok (.int<|if x.length=0 then 1 else 0) T:=λT=>by
  by_cases q:x.length=0
  ·rw[aJ q,aQ q];rfl
  ·rw[aI q,aO q];rfl
 obtain⟨r,xr,xs,hr,hs,hlen,hne⟩:∃(r:Nat) (_:oJ (.ref K.length) (.int<|if x.length=0 then 1 else 0) C=.ok (.ref r) C) (xs:ae),jF C r=some xs/\(∀a∈xs,Yi a 4)/\xs.length=2/\¬r=b:=by
  have bl:b<j.length:=by obtain⟨_,_,e,_⟩:=b4;exact oV e
  have l45:j.length<=G.length:=by rw[U];simp
  by_cases q:x.length=0
  ·refine⟨G.length,?_,_,l6,?_,rfl,by omega⟩
   ·rw[aQ q];show opt (jF C K.length) _=_;rw[l7];rfl
   ·intro a F
    rcases bf.1 F with z|F
    ·rw[z];exact Ep _ ∅ ∅
    ·rw[aX.1 F];exact Ep _ ∅ ∅
  ·refine⟨j.length,?_,_,l5,?_,rfl,by omega⟩
   ·rw[aO q];show opt (jF C K.length) _=_;rw[l7];rfl
   ·intro a F
    rcases bf.1 F with z|F
    ·rw[z];exact Ep _ ∅ ∅
    ·rw[aX.1 F];exact Ep _ ∅ ∅
 obtain⟨g,S8,e8,g0,g1,b8,k8⟩:=digit (m:=2) b7 ⋯ ⋯;obtain⟨u,x8,pu,lu⟩:=U7 (k8.lst _ _ hne hr) hlen g0 g1 hs;have a8:kq (.str x) (.str u) S8=.ok (.str<|x++u) S8:=pS (by omega);have lxu:(x++u).length<=x.length+4:=by rw[nQ];omega
 have a9:kq (.str<|x++u) (.str w) S8=.ok (.str<|x++u++w) S8:=pS (by omega);obtain⟨f,S9,e9,f0,f1,b9,k9⟩:=digit (m:=3) b8 ⋯ ⋯;refine⟨p+1+f,x++u++w,.str w,S9,?_,xB (xB hx pu<|by omega) pw4<|by omega,by rw[nQ];omega,by omega,by omega,b9,(((k13.trans k4).trans k7).trans k8).trans k9⟩;have st:∀T:jL,qC (.int p) T=.ok (.str<|Tx.tx p) T:=λT=>xE (by omega);unfold sL;dsimp[j3,lC,bools,n1,e2,x1,st,av,n3,i1,x2,aw,↓e4,n5,n6,n7,ee,i2,xr,e8,x8,a8,a9,e9]
end K83
namespace K83
open PySem L2 Am
open Pt (C qx term tQ sg tp rX pT R0 pH tF dg)
abbrev jn (ts:ba):Str:=Str.join ⟨#[32]⟩ ts
theorem BN{k:Nat}:∀{ts:ba},(∀t∈ts,t.length<=k)->(ts.map (·.length)).sum<=ts.length * k
 | [],_=>cz _
 | t::ts,h=>by
  have:=BN (ts:=ts) λx d=>h x<|aS _ d;have:=h t<|aT ..;rw[bP,sum_cons,aR,iT];omega
theorem A3:∀(ts:ba),A.strs (ts.map .str)=some ts
 | []=>rfl
 | t::ts=>by show(A.strs<|ts.map .str).map (t::·)=_;rw[A3 ts];rfl
def EB{n:Nat}{ts:ba}(h:jF S n=some (ts.map .str))(j:∀t∈ts,t.length<=3)(J:ts.length<=100):Bk (.str<|PySem.Str.ofString " ") [.ref n] S=.ok (.str<|jn ts) S:=by
 have e:PySem.Str.ofString " " = ⟨#[32]⟩:=by decide +kernel
 have:=BN j;have d:(⟨#[32]⟩:Str).length=1:=rfl;rw[e];show opt (jF S n) _=_;rw[h,kD,A3,kD,j9<|by rw[d];omega];show R.ok (A.str<|Builtin.Str.glued ⟨#[32]⟩ ts) S=_;rw[StrLaws.glued_eq_join];rfl
def Vm{ts:ba}(h:∀t∈ts,Pl t/\t.length<=3)(J:ts.length<=100):Pl (jn ts)/\(jn ts).length<=4 * ts.length:=by
 have g:∀ts:ba,(∀t∈ts,Pl t/\t.length<=3)->(∀c∈ts.flatMap (λt=>32::C t),c<128)/\(ts.flatMap (λt=>32::C t)).length<=4 * ts.length:=λts=>by
  induction ts with
  | nil=>exact λ_=>⟨λc z=>(by cases z),cz _⟩
  | cons t ts j=>
   intro h;obtain⟨a,b⟩:=j λx f=>h x<|aS _ f;obtain⟨d,lt⟩:=h t<|aT ..;rw[<- kK]at lt;rw[fM];refine⟨λc hc=>?_,?_⟩
   ·rcases bF.1 hc with z|z
    ·rcases bf.1 z with z|z
     ·omega
     ·exact d.as c z
    ·exact a c z
   ·rw[aV,aR,aR];omega
 cases ts with
 | nil=>
  have e:jn []=Sp.mk []:=Pt.ext ∅;rw[e];exact⟨⟨λc hc=>(by cases hc),cz _⟩,aP _⟩
 | cons t ts=>
  obtain⟨a,b⟩:=g ts λx f=>h x<|aS _ f;obtain⟨d,lt⟩:=h t<|aT ..;have e:C (jn (t::ts))=C t++ts.flatMap (λt=>32::C t):=Sp.sE 32 _ _;rw[<- kK]at lt;have k:(jn (t::ts)).length<=4 * (t::ts).length:=by
   rw[<- kK,e,aV,aR];omega
  refine⟨⟨λc hc=>?_,by omega⟩,k⟩;rw[e]at hc;exact(bF.1 hc).elim (d.as c) (a c)
def PU{xs:ag}(h:∀x∈xs,0<=x/\x<=100)(j:xs.length<=100):Pl (jn<|xs.map Tx.tx)/\(jn<|xs.map Tx.tx).length<=4 * xs.length:=by
 have:=Vm (ts:=xs.map Tx.tx) (λt f=>by
  obtain⟨x,d,rfl⟩:=cj.1 f;exact Dz (by have:=h x d;omega) (h x d).2)<|by rw[aK];exact j
 rw[aK]at this;exact this
abbrev so (s:String):Str:=PySem.Str.ofString s
abbrev row:Str:=jn<|(lE 1 22).map Tx.tx
abbrev OJ:ba:=[so "",so " ",so "1 1",so "2 1 2",row,Txt.slice row none<|some<|-3,so "0",so "0 1",so "20",so "1 20",so "19 1"]
abbrev Pb:ba:=[oq (so "1 ") 200++so "1",oq (so "1 ") 199++so "1",oq (so "1") 31,oq (so "1") 30++so "*v",oq (so "1") 31++so "*v",so "v^" ++ oq (so "1") 31]
abbrev SJ:ba:=[so "v^2 + v",so "v + v",so "v^61",so "v^60",so "v^-61",so "0*v",so "1*v",so "v^1",so "v^0",so "v^-0",so "-0",so "+v",so "- v"]
abbrev V7:ba:=[so "v^-1 + 1 + v",so "v^-1 +1",so "1+v",so "vv",so "2v"]
def Wv:((OJ++Pb++SJ++V7).all λz=>((C z).all λc=>decide<|c<128) && decide (z.length<=402))=true:=by decide +kernel
def Xn{b:Nat}(h:oU S b):∃(z:Str) (S':jL),rV [.ref b] S=.ok (.str z) S'/\Pl z/\z.length<=402/\oU S' b/\Kp (·=b) S S':=by
 obtain⟨S1,g⟩:∃S1,S1=S++[O.lst<|((lE 1 22).map Tx.tx).map .str]:=⟨_,rfl⟩;have c1:∀a0 V Y:A,kI [none] (uy (eC<|.int 1)<|eC<|.int 22) (kB 0) kR (jV (f1 qC)<|jC (jE 0) jK) [a0,V,Y] S=.ok (.ref S.length) S1:=λa0 V Y=>by
  have cc:=Dh (lo:=1) (hi:=22) (cap:=[]) (src:=uy (eC<|.int 1)<|eC<|.int 22) (t:=kR) (e:=jV (f1 qC)<|jC (jE 0) jK) (τ:=[a0,V,Y]) (S:=S) (S1:=S) (CV (S1:=S) rfl rfl (p6 ⋯ ⋯)<|p6 ⋯ ⋯) (λ_=>true) (λk=>.str<|Tx.tx k) (λ_ _ _=>rfl) (λk k1 k2 _=>by
   dsimp[j3,bools,xE (S:=S) (x:=k)<|by omega]) ⋯
  rw[cc,cI.mpr λ_ _=>rfl,g,bL];rfl
 have l1:jF S1 S.length=some (((lE 1 22).map Tx.tx).map .str):=by rw[g];exact jT
 have j1:=EB l1 (λt ht=>by
  obtain⟨x,hx,rfl⟩:=cj.1 ht;obtain⟨a,b⟩:=wj.mp hx;exact(Dz (by omega)<|by omega).2) ∅
 have b1:oU S1 b:=h.kp (c:=λ_=>False) (by rw[g];exact Kp.refl.lay) λz=>z;have k1:Kp (·=b) S S1:=by rw[g];exact Kp.refl.lay
 obtain⟨P,G⟩:∃P,P=S1++[O.lst<|OJ.map .str]:=⟨_,rfl⟩;obtain⟨C,p⟩:∃C,C=P++[O.lst<|Pb.map .str]:=⟨_,rfl⟩;obtain⟨N,K⟩:∃N,N=C++[O.lst<|OJ.map .str++Pb.map .str]:=⟨_,rfl⟩;obtain⟨F,j⟩:∃F,F=N++[O.lst<|SJ.map .str]:=⟨_,rfl⟩;obtain⟨L,J⟩:∃L,L=F++[O.lst<|OJ.map .str++Pb.map .str++SJ.map .str]:=⟨_,rfl⟩;obtain⟨f,B⟩:∃f,f=L++[O.lst<|V7.map .str]:=⟨_,rfl⟩;obtain⟨Z,U⟩:∃Z,Z=f++[O.lst<|OJ.map .str++Pb.map .str++SJ.map .str++V7.map .str]:=⟨_,rfl⟩;have n2:newL [.str<|PySem.Str.ofString "",.str<|PySem.Str.ofString " ",.str<|PySem.Str.ofString "1 1",.str<|PySem.Str.ofString "2 1 2",.str<|row,.str<|Txt.slice row none<|some<|-3,.str<|PySem.Str.ofString "0",.str<|PySem.Str.ofString "0 1",.str<|PySem.Str.ofString "20",.str<|PySem.Str.ofString "1 20",.str<|PySem.Str.ofString "19 1"] S1=.ok (.ref S1.length) P:=by rw[G];exact lI (show 11<=16777216 by decide)
 have n3:newL [.str<|oq (PySem.Str.ofString "1 ") 200++PySem.Str.ofString "1",.str<|oq (PySem.Str.ofString "1 ") 199++PySem.Str.ofString "1",.str<|oq (PySem.Str.ofString "1") 31,.str<|oq (PySem.Str.ofString "1") 30++PySem.Str.ofString "*v",.str<|oq (PySem.Str.ofString "1") 31++PySem.Str.ofString "*v",.str<|PySem.Str.ofString "v^" ++ oq (PySem.Str.ofString "1") 31] P=.ok (.ref P.length) C:=by rw[p];exact lI (show 6<=16777216 by decide)
 have n5:newL [.str<|PySem.Str.ofString "v^2 + v",.str<|PySem.Str.ofString "v + v",.str<|PySem.Str.ofString "v^61",.str<|PySem.Str.ofString "v^60",.str<|PySem.Str.ofString "v^-61",.str<|PySem.Str.ofString "0*v",.str<|PySem.Str.ofString "1*v",.str<|PySem.Str.ofString "v^1",.str<|PySem.Str.ofString "v^0",.str<|PySem.Str.ofString "v^-0",.str<|PySem.Str.ofString "-0",.str<|PySem.Str.ofString "+v",.str<|PySem.Str.ofString "- v"] N=.ok (.ref N.length) F:=by rw[j];exact lI (show 13<=16777216 by decide)
 have n7:newL [.str<|PySem.Str.ofString "v^-1 + 1 + v",.str<|PySem.Str.ofString "v^-1 +1",.str<|PySem.Str.ofString "1+v",.str<|PySem.Str.ofString "vv",.str<|PySem.Str.ofString "2v"] L=.ok (.ref L.length) f:=by rw[B];exact lI (show 5<=16777216 by decide)
 have g2:jF C S1.length=some (OJ.map .str):=by rw[p];exact k_ (by rw[G];exact jT)
 have g3:jF C P.length=some (Pb.map .str):=by rw[p];exact jT
 have a4:kq (.ref S1.length) (.ref P.length) C=.ok (.ref C.length) N:=by rw[K];exact AU g2 g3 ⋯
 have g4:jF F C.length=some (OJ.map .str++Pb.map .str):=by rw[j];exact k_ (by rw[K];exact jT)
 have g5:jF F N.length=some (SJ.map .str):=by rw[j];exact jT
 have a6:kq (.ref C.length) (.ref N.length) F=.ok (.ref F.length) L:=by rw[J];exact AU g4 g5 ⋯
 have g6:jF f F.length=some (OJ.map .str++Pb.map .str++SJ.map .str):=by rw[B];exact k_ (by rw[J];exact jT)
 have g7:jF f L.length=some (V7.map .str):=by rw[B];exact jT
 have a8:kq (.ref F.length) (.ref L.length) f=.ok (.ref f.length) Z:=by rw[U];exact AU g6 g7 ⋯
 have g8:jF Z f.length=some ((OJ++Pb++SJ++V7).map .str):=by rw[U,cY,cY,cY];exact jT
 have kk:∀{c},Kp c S1 Z:=λ{c}=>by rw[U,B,J,j,K,p,G];exact Kp.refl.lay.lay.lay.lay.lay.lay.lay
 have b8:oU Z b:=b1.kp (c:=λ_=>False) kk λz=>z;obtain⟨d,S9,e9,d0,d1,b9,k9⟩:=digit (m:=35) b8 ⋯ ⋯;have nb:¬f.length=b:=by
  have bl:b<S.length:=by obtain⟨_,_,e,_⟩:=h;exact oV e
  have:S.length<=S1.length:=by rw[g];simp
  have:S1.length<=f.length:=by rw[B,J,j,K,p,G];simp
  omega
 have g9:=k9.lst _ _ nb g8;obtain⟨a,ha,xa⟩:=V8 (k:=35) g9 rfl d0 d1;obtain⟨z,hz,rfl⟩:=cj.1 ha;have oz:=cV.1 Wv z hz;rw[bE]at oz;have lz:=bO oz.2;refine⟨z,S9,?_,NL oz.1 lz ⋯,lz,b9,(k1.trans kk).trans k9⟩;have j1:Bk (.str<|PySem.Str.ofString " ") [.ref S.length] S1=.ok (.str row) S1:=j1;have sl:∀V Y:A,ou (jE 1) lP (kP<|Cr sU<|eC<|.int 3) [V,.str row,Y] S1=.ok (.str<|Txt.slice row none<|some<|-3) S1:=λV Y=>by
  show gd ((Txt.slice row none<|some<|-3).length<=sizeLine) (R.ok (A.str<|Txt.slice row none<|some<|-3) S1)=_;exact j9 ∅
 have r0:∀T:jL,tX (.str<|PySem.Str.ofString "1 ") (.int 200) T=.ok (.str<|oq (PySem.Str.ofString "1 ") 200) T:=λT=>j9 ∅;have r1:∀T:jL,tX (.str<|PySem.Str.ofString "1 ") (.int 199) T=.ok (.str<|oq (PySem.Str.ofString "1 ") 199) T:=λT=>j9 ∅;have r2:∀T:jL,tX (.str<|PySem.Str.ofString "1") (.int 31) T=.ok (.str<|oq (PySem.Str.ofString "1") 31) T:=λT=>j9 ∅;have r3:∀T:jL,tX (.str<|PySem.Str.ofString "1") (.int 30) T=.ok (.str<|oq (PySem.Str.ofString "1") 30) T:=λT=>j9 ∅;have q0:∀T:jL,kq (.str<|oq (PySem.Str.ofString "1 ") 200) (.str<|PySem.Str.ofString "1") T=.ok (.str<|oq (PySem.Str.ofString "1 ") 200++PySem.Str.ofString "1") T:=λT=>pS ∅;have q1:∀T:jL,kq (.str<|oq (PySem.Str.ofString "1 ") 199) (.str<|PySem.Str.ofString "1") T=.ok (.str<|oq (PySem.Str.ofString "1 ") 199++PySem.Str.ofString "1") T:=λT=>pS ∅;have q2:∀T:jL,kq (.str<|oq (PySem.Str.ofString "1") 30) (.str<|PySem.Str.ofString "*v") T=.ok (.str<|oq (PySem.Str.ofString "1") 30++PySem.Str.ofString "*v") T:=λT=>pS ∅;have q3:∀T:jL,kq (.str<|oq (PySem.Str.ofString "1") 31) (.str<|PySem.Str.ofString "*v") T=.ok (.str<|oq (PySem.Str.ofString "1") 31++PySem.Str.ofString "*v") T:=λT=>pS ∅;have q4:∀T:jL,kq (.str<|PySem.Str.ofString "v^") (.str<|oq (PySem.Str.ofString "1") 31) T=.ok (.str<|PySem.Str.ofString "v^" ++ oq (PySem.Str.ofString "1") 31) T:=λT=>pS ∅;unfold rV yh xG;dsimp[j3,lC,bools,kj,Nat.reduceAdd,Nat.reduceSub,kH,n8,↓c1,j1,↓sl,n2,r0,r1,r2,r3,q0,q1,q2,q3,q4,n3,a4,n5,a6,n7,a8,e9,xa]
end K83
namespace K83
open PySem L2 Am
open Pt (C qx term tQ sg tp rX pT R0 pH tF dg)
def SN{n:Nat}{xs:ae}{g:Tg}{src:Ic}(hs:src τ S=.ok (Ct n xs.length) S1)(Inv:Nat->ae->jL->Prop)(j:RS->Prop)(h0:Inv 0 τ S1)(J:∀i τ S,Inv i τ S->jF S n=some xs)
  (step:∀(i:Nat) x τ S,xs[i]?=some x->Inv i τ S->∃τ1 S1,g (.tup [.int i,x]) τ S=.ok τ1 S1/\((∃τ' S',c τ1 S1=.nx τ' S'/\Inv (i+1) τ' S')\/(∃a S',c τ1 S1=.rt a S'/\j (.rt a S'))))
  (fin:∀τ S,Inv xs.length τ S->j (.nx τ S)):j (vD src g c τ S):=by
 unfold vD;rw[hs];refine BE (s:=Ct n xs.length) Inv j (λi τ S d h=>?_) (λτ S h=>⟨?_,fin τ S h⟩) _ 0 τ S1 rfl h0
 ·have d:i<xs.length:=d;obtain⟨τ1,S1,e,q⟩:=step i xs[i] τ S (aH d) h;exact⟨.tup [.int i,xs[i]],τ1,S1,by show(jF S n).bind _=_;rw[J i τ S h,bH,aH d];rfl,e,q⟩
 ·show(match jF S n with
   | some ys=>decide (ys.length=xs.length)
   | none=>false)=true
  rw[J _ τ S h];exact aJ rfl
theorem DX{n:Nat}:∀(l:List<|Int×Int),yi (wU S<|n+2) (l.map tA) (l.map tA)=some true
 | []=>rfl
 | q::l=>by
  have h:wU S (n+2) (tA q) (tA q)=some true:=by
   have:=u7 (S:=S) (n:=n) [q.1,q.2] [q.1,q.2];rw[aJ rfl]at this;exact this
  show(wU S (n+2) (tA q)<|tA q).bind _=_;rw[h,bH,DX l];rfl
def Xr{a b:Nat}{l:List<|Int×Int}(h:jF S a=some (l.map tA))(h':jF S b=some (l.map tA)):wU S 12 (.ref a) (.ref b)=some true:=by
 show(jF S a).bind _=_;rw[h,bH,h',bH];exact DX (n:=9) l
def UH(xs ys:ag):wU S 12 (.tup<|xs.map .int) (.tup<|ys.map .int)=some (decide<|xs=ys):=by
 show yi (wU S 11) _ _=_;exact u7 (n:=10) xs ys
abbrev Due (S:jL)(x:Str)(w:Int)(d:A):Prop:=(d=.non\/(∃xs,d=.tup xs)\/∃n,d=.ref n)/\∀T,lH S T->∃f,nM [.str x,d,.int w] T=.ok (.bl true) f/\lH T f
def Due.mono{x:Str}{w:Int}(h:Due S x w d)(k:lH S S1):Due S1 x w d:=⟨h.1,λT kT=>h.2 T<|k.trans kT⟩
def Vy{x:Str}(h:Pl x):∃d S1,mE [.str x] S=.ok d S1/\lH S S1/\Due S1 x 0 d:=by
 obtain⟨S1,e,k⟩:=Ny (S:=S) h;refine⟨_,S1,e,k,?_⟩;by_cases q:Je x=true
 ·rw[aQ q];refine⟨.inr<|.inl ⟨_,rfl⟩,λT _=>?_⟩;obtain⟨g,j,f⟩:=(Hj (S:=T) h).1 q;refine⟨g,D_ (.inl ⟨rfl,rfl⟩) j (.inl ⟨_,_,rfl,rfl⟩) ?_,f⟩;have:=yX<|UH (S:=g) (vals x)<|vals x;rw[aJ rfl]at this;exact this
 ·rw[aO q];refine⟨.inl rfl,λT _=>?_⟩;obtain⟨g,j,f⟩:=(Hj (S:=T) h).2<|dU.mpr q;obtain⟨T2,e2,k2⟩:=EK (.inl ⟨rfl,rfl⟩) j;exact⟨T2,e2,f.trans k2⟩
def U8{x:Str}(h:Pl x):∃d S1,mh [.str x] S=.ok d S1/\lH S S1/\Due S1 x 1 d:=by
 obtain⟨a,b⟩:=Ie (S:=S) h
 cases q:zE x with
 | true=>
  obtain⟨W,S1,e,g,k⟩:=a q;refine⟨_,S1,e,k,.inr<|.inr ⟨_,rfl⟩,λT kT=>?_⟩;obtain⟨p,m,j,g',f⟩:=(Hr (S:=T) h).1 q;refine⟨m,D_ (.inr<|.inl ⟨rfl,rfl⟩) j (.inr ⟨_,_,rfl,rfl⟩) ?_,f⟩;have:=yX<|Hi g'<|f.lst _ _ (λz=>z)<|kT.lst _ _ (λz=>z) g;rw[aJ rfl]at this;exact this
 | false=>
  obtain⟨S1,e,k⟩:=b q;refine⟨_,S1,e,k,.inl rfl,λT kT=>?_⟩;obtain⟨m,j,f⟩:=(Hr (S:=T) h).2 q;obtain⟨T2,e2,k2⟩:=EK (.inr<|.inl ⟨rfl,rfl⟩) j;exact⟨T2,e2,f.trans k2⟩
def Vg{x:Str}(h:Pl x)(J:x.length<=900):∃d S1,kM [.str x] S=.ok d S1/\lH S S1/\Due S1 x 2 d:=by
 obtain⟨a,b⟩:=Od (S:=S) h;by_cases q:∃l,vU x l
 ·obtain⟨l,q⟩:=q;obtain⟨W,S1,e,g,k⟩:=a l q;refine⟨_,S1,e,k,.inr<|.inr ⟨_,rfl⟩,λT kT=>?_⟩;obtain⟨p,m,j,g',f⟩:=(KN (S:=T) h J).1 l q;exact⟨m,D_ (.inr<|.inr ⟨rfl,rfl⟩) j (.inr ⟨_,_,rfl,rfl⟩)<|yX<|Xr g'<|f.lst _ _ (λz=>z)<|kT.lst _ _ (λz=>z) g,f⟩
 ·have q:∀l,¬vU x l:=λl z=>q ⟨l,z⟩;obtain⟨S1,e,k⟩:=b q;refine⟨_,S1,e,k,.inl rfl,λT kT=>?_⟩;obtain⟨m,j,f⟩:=(KN (S:=T) h J).2 q;obtain⟨T2,e2,k2⟩:=EK (.inr<|.inr ⟨rfl,rfl⟩) j;exact⟨T2,e2,f.trans k2⟩
def OX{x:Str}(h:Pl x)(hl:x.length<=900):∃(b7 b8:A) (S':jL),Ce [a0,a1,a2,a3,a4,a5,.str x,a7,a8] S=.nx [a0,a1,a2,a3,a4,a5,.str x,b7,b8] S'/\lH S S':=by
 obtain⟨p,S1,e1,k1,F⟩:=Vy (S:=S) h;obtain⟨B,S2,e2,k2,u1⟩:=U8 (S:=S1) h;obtain⟨m,j,e3,k3,u2⟩:=Vg (S:=S2) h hl;obtain⟨f,g⟩:∃f,f=j++[O.lst [p,B,m]]:=⟨_,rfl⟩;have G:newL [p,B,m] j=.ok (.ref j.length) f:=by rw[g];exact lI (show 3<=16777216 by decide)
 have C:jF f j.length=some [p,B,m]:=by rw[g];exact jT
 have k:lH j f:=by rw[g];exact Kp.refl.lay
 have V:=F.mono<|(k2.trans k3).trans k;have v1:=u1.mono<|k3.trans k;have P:=u2.mono k;have N:=((k1.trans k2).trans k3).trans k;unfold Ce;refine SN (n:=j.length) (xs:=[p,B,m]) (S1:=f) (show F7 _ _=_ from N3 (by dsimp[j3,bools,e1,e2,e3,G]) C)
  (λi τ T=>(∃b7 b8,τ=[a0,a1,a2,a3,a4,a5,.str x,b7,b8])/\lH f T) (λZ=>∃(b7 b8:A) (S':jL),Z=.nx [a0,a1,a2,a3,a4,a5,.str x,b7,b8] S'/\lH S S') ⟨⟨_,_,rfl⟩,Kp.refl⟩ (λi τ T J=>J.2.lst _ _ (λz=>z) C) ?_ ?_
 ·rintro i z τ T d ⟨⟨b7,b8,rfl⟩,kT⟩;have hd:Due f x (i:Int) z:=by
   match i,d with
   | 0,d=>cases d;exact V
   | 1,d=>cases d;exact v1
   | 2,d=>cases d;exact P
   | i+3,d=>cases d
  obtain⟨hc,Y⟩:=hd;obtain⟨K,L,U⟩:=Y T kT;refine⟨[a0,a1,a2,a3,a4,a5,.str x,.int i,z],T,by dsimp[j3,bools,j9<|show([_,_]:ae).length=2 from rfl],.inl ⟨[a0,a1,a2,a3,a4,a5,.str x,.int i,z],K,?_,⟨_,_,rfl⟩,kT.trans U⟩⟩;unfold G9
  rcases hc with rfl|⟨xs,rfl⟩|⟨n,rfl⟩<;>dsimp[j3,lC,bools,L,bg]
 ·rintro τ T ⟨⟨b7,b8,rfl⟩,kT⟩;exact⟨b7,b8,T,rfl,N.trans kT⟩
end K83
namespace K83
open PySem L2 Am
open Pt (C qx term tQ sg tp rX pT R0 pH tF dg)
def Ua{b:Nat}(h:oU S b):∃(z:Str) (S':jL),qf [.ref b] S=.ok (.str z) S'/\Pl z/\z.length<=200/\oU S' b/\Kp (·=b) S S':=by
 obtain⟨d,S1,e1,Y,d1,B,k1⟩:=digit (m:=9) h ⋯ ⋯;obtain⟨e,K,e2,f0,f1,G,k2⟩:=digit (m:=5) B ⋯ ⋯;unfold qf v5 vF;dsimp[j3,lC,bools,kj,Nat.reduceAdd,Nat.reduceSub,e1];refine yQ (lo:=0) (hi:=1+e) (S1:=K) (show wk _ _=_ from uT (by dsimp[j3,bools,e2])<|p6 (by omega)<|by omega)
  (λi τ T=>∃p y a3 a4,τ=[.ref b,.int p,.str y,a3,a4]/\Pl y/\y.length<=20 * i/\-4<=p/\p<=4+3 * (i:Int)/\oU T b/\Kp (·=b) S T)
  (λZ=>∃(z:Str) (S':jL),RS.end (RS.seq Z _)=.ok (.str z) S'/\Pl z/\z.length<=200/\oU S' b/\Kp (·=b) S S') ⟨d-4,_,_,_,rfl,NL (k:=0) ∅ ∅ ⋯,by decide +kernel,by omega,by omega,G,k1.trans k2⟩ ?_ ?_
 ·rintro i τ T hi ⟨p,y,a3,a4,rfl,py,O,g,p1,f,kT⟩;left;obtain⟨F,z,N,V,J,L,lz,P,U,j,C⟩:=UZ (a3:=.int<|0+(i:Int)) (a4:=a4) f py (by omega) g (by omega);exact⟨_,_,J,F,z,_,_,rfl,L,by omega,by omega,by omega,j,kT.trans C⟩
 ·rintro τ T ⟨p,y,a3,a4,rfl,py,O,g,p1,f,kT⟩;exact⟨y,T,by dsimp[j3,bools],py,by omega,f,kT⟩
def y9{S:jL}{b:Nat}(h:oU S b):b<S.length:=by obtain⟨_,_,e,_⟩:=h;exact oV e
def draws{b:Nat}{hi:Int}{src:Ic}(hs:src (a0::a1::.ref b::τ) S0=.ok (oA 0 hi) S)(hh:hi<=20)(h:oU S b):∃(ys:ag) (S':jL),kI [none,some 2] src (kB 0) kR (jJ kq (eC<|.int 1)<|eFn jQ<|jC (jE 1)<|jC (eC<|.int 19) jK) (a0::a1::.ref b::τ) S0=.ok (.ref S'.length) (S'++[O.lst<|ys.map .int])/\ys.length<=20/\(∀y∈ys,0<=y/\y<=100)/\oU S' b/\Kp (·=b) S S':=by
 obtain⟨out,S',Y,⟨ys,G,J,hy,N,L⟩⟩:=zW (s:=oA 0 hi) (g:=kB 0) (e:=jJ kq (eC<|.int 1)<|eFn jQ<|jC (jE 1)<|jC (eC<|.int 19) jK) (T:=λf=>∃y,f=[y,.ref b])
  (λi acc T=>∃ys:ag,acc=ys.map .int/\ys.length=i/\(∀y∈ys,0<=y/\y<=100)/\oU T b/\Kp (·=b) S T)
  (λi acc f T j ⟨y,hy⟩ ⟨ys,V,el,U,K,kT⟩=>by
   subst hy V;obtain⟨d,P,e,Z,d1,p,B⟩:=digit (m:=19) K ⋯ ⋯;exact⟨.int<|0+(i:Int),[.int<|0+(i:Int),.ref b],T,.int<|1+d,P,aQ j,rfl,⟨_,rfl⟩,by dsimp[j3,lC,bools,e],ys++[1+d],by rw[cY];rfl,by rw[aV,el];rfl,λz C=>by
    rcases bF.1 C with q|q
    ·exact U z q
    ·rw[aX.1 q];omega,p,kT.trans B⟩) (λ_ _ _=>rfl) (oA 0 hi).k 0 [] [.unb,.ref b] S rfl ⟨_,rfl⟩ ⟨[],rfl,rfl,(λz C=>by cases C),h,Kp.refl⟩
 rw[cF]at G;have F:(oA 0 hi).k=(hi-0).toNat:=rfl;subst G;refine⟨ys,S',?_,by rw[J,F];omega,hy,N,L⟩;unfold kI;rw[hs,R.kO];show R.pR (nj (oA 0 hi) (kB 0) kR _ (oA 0 hi).k 0 [.unb,.ref b] S) _=_;rw[Y,R.kY,lg<|by rw[aK,J,F];omega]
def Rp{b n:Nat}{src:Ic}{xs:ba}(hs:src (a0::a1::.ref b::τ) S=.ok (lW n xs.length) S)(hn:jF S n=some (xs.map .str))(nb:¬n=b)(hx:∀x∈xs,Pl x/\x.length<=300)(hl:xs.length<=20)(h:oU S b):∃(ys:ba) (S':jL),kI [none,some 2] src (kB 0) kR (eFn mj<|jC (jE 1)<|jC (jE 0) jK) (a0::a1::.ref b::τ) S=.ok (.ref S'.length) (S'++[O.lst<|ys.map .str])/\ys.length<=20/\(∀y∈ys,Pl y/\y.length<=900)/\oU S' b/\Kp (·=b) S S':=by
 obtain⟨out,S',Y,⟨ys,B,C,hy,J,G⟩⟩:=zW (s:=lW n xs.length) (g:=kB 0) (e:=eFn mj<|jC (jE 1)<|jC (jE 0) jK) (T:=λf=>∃y,f=[y,.ref b])
  (λi acc T=>∃ys:ba,acc=ys.map .str/\ys.length=i/\(∀y∈ys,Pl y/\y.length<=900)/\oU T b/\Kp (·=b) S T)
  (λi acc f T d ⟨y,hy⟩ ⟨ys,N,el,L,F,kT⟩=>by
   subst hy N;have d:i<xs.length:=d;obtain⟨V,lx⟩:=hx xs[i] (cJ d);obtain⟨z,K,e,P,Z,j,m⟩:=RM F V (by omega);refine⟨.str xs[i],[.str xs[i],.ref b],T,.str z,K,?_,rfl,⟨_,rfl⟩,by dsimp[j3,lC,bools,e],ys++[z],by rw[cY];rfl,by rw[aV,el];rfl,λw hw=>?_,j,kT.trans m⟩
   ·show(jF T n).bind _=_;rw[kT.lst _ _ nb hn,bH,bu,aH d];rfl
   ·rcases bF.1 hw with q|q
    ·exact L w q
    ·rw[aX.1 q];exact⟨P,by omega⟩) (λacc T ⟨ys,_,_,_,_,kT⟩=>by
   show(match jF T n with
    | some ys=>decide (ys.length<=xs.length)
    | none=>false)=true
   rw[kT.lst _ _ nb hn];exact aJ<|by rw[aK];exact aP _) (lW n xs.length).k 0 [] [.unb,.ref b] S rfl ⟨_,rfl⟩ ⟨[],rfl,rfl,(λz U=>by cases U),h,Kp.refl⟩
 rw[cF]at B;have p:(lW n xs.length).k=xs.length:=rfl;subst B;refine⟨ys,S',?_,by rw[C,p];exact hl,hy,J,G⟩;unfold kI;rw[hs,R.kO];show R.pR (nj (lW n xs.length) (kB 0) kR _ (lW n xs.length).k 0 [.unb,.ref b] S) _=_;rw[Y,R.kY,lg<|by rw[aK,C,p];omega]
def O1{ns:ag}{k:Int}(h0:0<=k)(h1:k<=100):∃(c2 c3 c4 c5 c6 c7 c8:A) (S':jL),Ci [.frz<|ns.map .int,.int k,a2,a3,a4,a5,a6,a7,a8] S=.nx [.frz<|ns.map .int,.int k,c2,c3,c4,c5,c6,c7,c8] S':=by
 obtain⟨S1,e1,b1,_⟩:=Ov (S:=S) (ns:=ns) (k:=k) h0 h1;obtain⟨d,S2,e2,d0,d1,b2,k2⟩:=digit (m:=12) b1 ⋯ ⋯;obtain⟨xs,S3,e3,pm,b3,k3⟩:=LJ (n:=1+d) b2 (by omega) (by omega);obtain⟨g,S4,e4,g0,g1,b4,k4⟩:=digit (m:=8) b3 ⋯ ⋯;obtain⟨ys,F,e5,ly,hy,b5,k5⟩:=draws (S0:=S3) (S:=S4) (hi:=1+g) (a0:=.frz<|ns.map .int) (a1:=.int k) (τ:=[.tup<|xs.map .int,a4,a5,a6,a7,a8]) (src:=tU<|jJ kq (eC<|.int 1)<|eFn jQ<|jC (jE 2)<|jC (eC<|.int 8) jK) (uT (by dsimp[j3,bools,e4])<|p6 (by omega)<|by omega) (by omega) b4;have J:∀x∈xs,0<=x/\x<=100:=λx J=>by
  obtain⟨a,b⟩:=wj.mp<|pm.mem_iff.mp J;omega
 have lx:xs.length<=20:=by
  have:=pm.length_eq;rw[qb]at this;omega
 obtain⟨B,K⟩:∃B,B=F++[O.lst<|ys.map .int]:=⟨_,rfl⟩;obtain⟨C,p⟩:∃C,C=B++[O.lst<|(xs.map Tx.tx).map .str]:=⟨_,rfl⟩;obtain⟨S8,N⟩:∃S8,S8=C++[O.lst<|(ys.map Tx.tx).map .str]:=⟨_,rfl⟩;rw[<- K]at e5;have w6:jF B F.length=some (ys.map .int):=by rw[K];exact jT
 have w7:jF C F.length=some (ys.map .int):=by rw[p];exact k_ w6
 have c7:=zP (cap:=[]) (src:=mL<|jE 3) (e:=jV (f1 qC)<|jC (jE 0) jK) (τ:=[.frz<|ns.map .int,.int k,.ref S.length,.tup<|xs.map .int,.ref F.length,a5,a6,a7,a8]) (S:=B) (S1:=B) (xs:=xs.map A.int) (JQ<|by dsimp[j3,bools]) (λy=>match y with
  | .int i=>.str (Tx.tx i)
  | _=>.non) (λy hy=>by
   obtain⟨i,hi,rfl⟩:=cj.1 hy;have:=J i hi;dsimp[j3,bools,xE (S:=B) (x:=i)<|by omega])<|by rw[aK];omega
 have m7:(xs.map A.int).map (λy=>match y with
  | .int i=>A.str (Tx.tx i)
  | _=>.non)=(xs.map Tx.tx).map .str:=by rw[bL,bL];rfl
 rw[m7,<- p]at c7;have l7:jF C B.length=some ((xs.map Tx.tx).map .str):=by rw[p];exact jT
 have tl:∀(zs:ag),(∀z∈zs,0<=z/\z<=100)->∀t∈zs.map Tx.tx,t.length<=3:=λzs hz t ht=>by
  obtain⟨x,J,rfl⟩:=cj.1 ht;have:=hz x J;exact(Dz (by omega)<|by omega).2
 have j7:=EB l7 (tl xs J) (by rw[aK];omega);obtain⟨p7,q7⟩:=PU J (by omega);have c8:=zN (cap:=[]) (src:=mL<|jE 4) (t:=kR) (e:=jV (f1 qC)<|jC (jE 0) jK) (τ:=[.frz<|ns.map .int,.int k,.ref S.length,.tup<|xs.map .int,.ref F.length,a5,a6,a7,a8]) (S:=C) (rq (by dsimp[j3,bools]) w7) w7 (λ_=>true) (λy=>match y with
  | .int i=>.str (Tx.tx i)
  | _=>.non) (λ_ _=>rfl) (λy hy' _=>by
   obtain⟨i,hi,rfl⟩:=cj.1 hy';have:=hy i hi;dsimp[j3,bools,xE (S:=C) (x:=i)<|by omega])<|by rw[aK];omega
 have m8:(ys.map A.int).map (λy=>match y with
  | .int i=>A.str (Tx.tx i)
  | _=>.non)=(ys.map Tx.tx).map .str:=by rw[bL,bL];rfl
 rw[cI.mpr λ_ _=>rfl,m8,<- N]at c8;have l8:jF S8 C.length=some ((ys.map Tx.tx).map .str):=by rw[N];exact jT
 have j8:=EB l8 (tl ys hy) (by rw[aK];omega);obtain⟨p8,q8⟩:=PU hy (by omega);have b8:oU S8 S.length:=b5.kp (c:=λ_=>False) (by rw[N,p,K];exact Kp.refl.lay.lay.lay) λz=>z;obtain⟨z,P,e9,pz,lz,b9,k9⟩:=Ua b8;obtain⟨U,hU⟩:∃U,U=P++[O.lst [.str<|jn<|xs.map Tx.tx,.str<|jn<|ys.map Tx.tx,.str z]]:=⟨_,rfl⟩;have nU:newL [.str<|jn<|xs.map Tx.tx,.str<|jn<|ys.map Tx.tx,.str z] P=.ok (.ref P.length) U:=by rw[hU];exact lI (show 3<=16777216 by decide)
 have lU:jF U P.length=some ([jn<|xs.map Tx.tx,jn<|ys.map Tx.tx,z].map .str):=by rw[hU];exact jT
 have bU:oU U S.length:=b9.kp (c:=λ_=>False) (by rw[hU];exact Kp.refl.lay) λz=>z;have nb:¬P.length=S.length:=by have:=y9 b9;omega
 obtain⟨us,V,eV,lus,hus,bV,kV⟩:=Rp (a0:=.frz<|ns.map .int) (a1:=.int k) (τ:=[.tup<|xs.map .int,.ref F.length,.ref P.length,a6,a7,a8]) (src:=mL<|jE 5) (xs:=[jn<|xs.map Tx.tx,jn<|ys.map Tx.tx,z]) (rq (by dsimp[j3,bools]) lU) lU nb (λx f=>by
  rcases bf.1 f with q|f
  ·rw[q];exact⟨p7,by omega⟩
  ·rcases bf.1 f with q|f
   ·rw[q];exact⟨p8,by omega⟩
   ·rw[aX.1 f];exact⟨pz,by omega⟩) (by show 3<=20;decide) bU
 obtain⟨V1,G⟩:∃V1,V1=V++[O.lst<|us.map .str]:=⟨_,rfl⟩;rw[<- G]at eV;have lV:jF V1 V.length=some (us.map .str):=by rw[G];exact jT
 have bV1:oU V1 S.length:=bV.kp (c:=λ_=>False) (by rw[G];exact Kp.refl.lay) λz=>z;obtain⟨o,V2,eo,po,lo,bV2,kV2⟩:=Xn bV1;obtain⟨j,L⟩:∃j,j=V2++[O.lst [.str o]]:=⟨_,rfl⟩;obtain⟨Y,hV4⟩:∃Y,Y=j++[O.lst<|us.map .str++[.str o]]:=⟨_,rfl⟩;have nV:newL [.str o] V2=.ok (.ref V2.length) j:=by rw[L];exact lI (show 1<=16777216 by decide)
 have nb2:¬V.length=S.length:=by have:=y9 bV;omega
 have lV2:=kV2.lst _ _ nb2 lV;have lV3:jF j V.length=some (us.map .str):=by rw[L];exact k_ lV2
 have lo3:jF j V2.length=some [.str o]:=by rw[L];exact jT
 have ad:kq (.ref V.length) (.ref V2.length) j=.ok (.ref j.length) Y:=by rw[hV4];exact AU lV3 lo3 (by rw[aK];show us.length+1<=_;omega)
 have l4:jF Y j.length=some ((us++[o]).map .str):=by rw[hV4,cY];exact jT
 have hall:∀x∈us++[o],Pl x/\x.length<=900:=λx f=>by
  rcases bF.1 f with q|q
  ·exact hus x q
  ·rw[aX.1 q];exact⟨po,by omega⟩
 unfold Ci;dsimp[j3,lC,bools,e1,e2,e3,↓e5,kH,n8,↓c7,j7,↓c8,j8,e9,nU,↓eV,eo,nV,ad];refine G1 (n:=j.length) (xs:=(us++[o]).map A.str) (S1:=Y) (show HJ _ _=_ from rq (by dsimp[j3,bools]) l4)
  (λi τ T=>(∃c6 c7 c8,τ=[.frz<|ns.map .int,.int k,.ref S.length,.tup<|xs.map .int,.ref F.length,.ref j.length,c6,c7,c8])/\lH Y T) (λZ=>∃(c2 c3 c4 c5 c6 c7 c8:A) (S':jL),Z=.nx [.frz<|ns.map .int,.int k,c2,c3,c4,c5,c6,c7,c8] S') ⟨⟨_,_,_,rfl⟩,Kp.refl⟩ (λi τ T hh=>hh.2.lst _ _ (λz=>z) l4) ?_ ?_
 ·rintro i q τ T hz ⟨⟨c6,c7,c8,rfl⟩,kT⟩;rw[bu]at hz;obtain⟨x,f,rfl⟩:=br.mp hz;obtain⟨px,lx'⟩:=hall x<|dP f;obtain⟨b7,b8',T',e,k'⟩:=OX (S:=T) (a0:=.frz<|ns.map .int) (a1:=.int k) (a2:=.ref S.length) (a3:=.tup<|xs.map .int) (a4:=.ref F.length) (a5:=.ref j.length) (a7:=c7) (a8:=c8) px lx';exact⟨_,T,rfl,.inl ⟨_,T',e,⟨_,_,_,rfl⟩,kT.trans k'⟩⟩
 ·rintro τ T ⟨⟨c6,c7,c8,rfl⟩,kT⟩;exact⟨_,_,_,_,_,_,_,T,rfl⟩
def Rf(ns:ag)(U:ns.length<=63):∃S',AQ [.frz<|ns.map .int] []=.ok (.bl true) S':=by
 unfold AQ Jk Lr;dsimp[j3,lC,bools,kj,Nat.reduceAdd,Nat.reduceSub];obtain⟨M,G,J⟩:∃M:Int,(if (if (ns.length:Int)<5 then(ns.length:Int)else 5)>1 then(if (ns.length:Int)<5 then(ns.length:Int)else 5)else 1)=M/\M<=5:=⟨_,rfl,by split<;>split<;>omega⟩;refine yQ (lo:=0) (hi:=M) (S1:=[]) (show GK _ _=_ from uT (by dsimp[j3,lC,bools,aK,G])<|p6 (by omega)<|by omega)
  (λi τ T=>∃C j f p d B g m,τ=[.frz<|ns.map .int,C,j,f,p,d,B,g,m])
  (λZ=>∃S',RS.end (RS.seq Z _)=.ok (.bl true) S') ⟨_,_,_,_,_,_,_,_,rfl⟩ ?_ ?_
 ·rintro i τ T hi ⟨C,j,f,p,d,B,g,m,rfl⟩;left;obtain⟨c2,c3,K,O,P,L,N,F,e⟩:=O1 (S:=T) (ns:=ns) (k:=0+(i:Int)) (a2:=j) (a3:=f) (a4:=p) (a5:=d) (a6:=B) (a7:=g) (a8:=m) (by omega) (by omega);exact⟨_,F,e,_,_,_,_,_,_,_,_,rfl⟩
 ·rintro τ T ⟨C,j,f,p,d,B,g,m,rfl⟩;exact⟨T,by dsimp[j3,bools]⟩
end K83
namespace K83
open PySem L2 Am
def all_mk{l:PySem.W.OpenLaw}{w:af}{K:au}{h:ak}{mg:Str->bj}{fa:aj}(X:K.In h)(G:h.Ns mainGlobals mg)(hfa:mg "law" = some (.ref fa))
  (a1:Df K "is_whole" vz)
  (a2:Df K "is_order" vM)
  (a3:Df K "is_exchange" rF)
  (a4:Df K "is_word" xZ)
  (a5:Df K "show_size" uO)
  (a6:Df K "show_term" uv)
  (a7:Df K "show_poly" uA)
  (a8:Df K "read_number" qQ)
  (a9:Df K "read_numbers" qa)
  (a10:Df K "read_order" tB)
  (a11:Df K "read_word" t6)
  (a12:Df K "read_power" sS)
  (a13:Df K "read_term" uq)
  (a14:Df K "read_terms" sO)
  (a15:Df K "is_within_bounds" ow)
  (a16:Df K "read_poly" uK)
  (a17:Df K "_law_bag" xK)
  (a18:Df K "_law_digit" uz)
  (a19:Df K "_law_any" xU)
  (a20:Df K "_law_order" uD)
  (a21:Df K "_law_numeral" qU)
  (a22:Df K "_law_order_in" p_)
  (a23:Df K "_law_word_in" rj)
  (a24:Df K "_law_power_in" qi)
  (a25:Df K "_law_term_in" qW)
  (a26:Df K "_law_poly_in" qL)
  (a27:Df K "_law_sign" vS)
  (a28:Df K "_law_spoiled" qK)
  (a29:Df K "_law_poly" vB)
  (a30:Df K "_law_odd" xx)
  (a31:Df K "_law_told" vV)
  (a32:Df K "law" K8)
  (aaT:PySem.W.nsIn K mainGlobals "isinstance" = some none)
  (aaU:PySem.W.nsIn K mainGlobals "bool" = some none)
  (aaV:PySem.W.nsIn K mainGlobals "int" = some none)
  (aaW:PySem.W.nsIn K mainGlobals "len" = some none)
  (aaX:PySem.W.nsIn K mainGlobals "tuple" = some none)
  (aaY:PySem.W.nsIn K mainGlobals "all" = some none)
  (aaZ:PySem.W.nsIn K mainGlobals "sorted" = some none)
  (aa0:PySem.W.nsIn K mainGlobals "list" = some none)
  (aa1:PySem.W.nsIn K mainGlobals "range" = some none)
  (aa2:PySem.W.nsIn K mainGlobals "abs" = some none)
  (aa3:PySem.W.nsIn K mainGlobals "str" = some none)
  (aa4:PySem.W.nsIn K mainGlobals "set" = some none)
  (aa5:PySem.W.nsIn K mainGlobals "zip" = some none)
  (aa6:PySem.W.nsIn K mainGlobals "any" = some none)
  (aa7:PySem.W.nsIn K mainGlobals "ValueError" = some none)
  (aa8:PySem.W.nsIn K mainGlobals "max" = some none)
  (aa9:PySem.W.nsIn K mainGlobals "min" = some none)
  (aa_:PySem.W.nsIn K mainGlobals "enumerate" = some none)
  {aaM:Tok} (aba:PySem.W.nsIn K mainGlobals "MOST_THINGS" = some (some<|.int 20 aaM))
  {aaN:Tok} (abb:PySem.W.nsIn K mainGlobals "MOST_NUMBERS" = some (some<|.int 200 aaN))
  {aaO:Tok} (abc:PySem.W.nsIn K mainGlobals "PIECE" = some (some<|.int 10000000000000000000000000000000000000000000000000000000000000000 aaO))
  {aaP:Tok} (abd:PySem.W.nsIn K mainGlobals "FIGURES" = some (some<|.str (PySem.Str.ofString "0123456789") aaP))
  {aaQ:Tok} (abe:PySem.W.nsIn K mainGlobals "MOST_FIGURES" = some (some<|.int 30 aaQ))
  {aaR:Tok} (abf:PySem.W.nsIn K mainGlobals "MOST_TERMS" = some (some<|.int 40 aaR))
  {aaS:Tok} (abg:PySem.W.nsIn K mainGlobals "GREATEST_POWER" = some (some<|.int 60 aaS))
  {U C_NoText C_NoTables C_NoRow C_NoNumber C_NoName C_TooMany C_NoWord C_NoPair:aj} (u0:PySem.W.nsIn K mainGlobals "UnderError" = some (some<|.ref U)) (u1:L2.mroIn K U=some Uz)
  (ZK:ExcK K U "NoText" C_NoText)
  (n_NoTables:PySem.W.nsIn K mainGlobals "NoTables" = some (some<|.ref C_NoTables))
  (n_NoRow:PySem.W.nsIn K mainGlobals "NoRow" = some (some<|.ref C_NoRow))
  (n_NoNumber:PySem.W.nsIn K mainGlobals "NoNumber" = some (some<|.ref C_NoNumber))
  (n_NoName:PySem.W.nsIn K mainGlobals "NoName" = some (some<|.ref C_NoName))
  (n_TooMany:PySem.W.nsIn K mainGlobals "TooMany" = some (some<|.ref C_TooMany))
  (n_NoWord:PySem.W.nsIn K mainGlobals "NoWord" = some (some<|.ref C_NoWord))
  (n_NoPair:PySem.W.nsIn K mainGlobals "NoPair" = some (some<|.ref C_NoPair))
  (k_NoText_NoTables:PySem.W.kitOne K (.ref C_NoText) (.ref C_NoTables)=some false)
  (k_NoText_NoRow:PySem.W.kitOne K (.ref C_NoText) (.ref C_NoRow)=some false)
  (k_NoText_NoNumber:PySem.W.kitOne K (.ref C_NoText) (.ref C_NoNumber)=some false)
  (k_NoText_NoName:PySem.W.kitOne K (.ref C_NoText) (.ref C_NoName)=some false)
  (k_NoText_TooMany:PySem.W.kitOne K (.ref C_NoText) (.ref C_TooMany)=some false)
  (k_NoText_NoWord:PySem.W.kitOne K (.ref C_NoText) (.ref C_NoWord)=some false)
  (k_NoText_NoPair:PySem.W.kitOne K (.ref C_NoText) (.ref C_NoPair)=some false)
  (k_NoText_NoText:PySem.W.kitOne K (.ref C_NoText) (.ref C_NoText)=some true)
  : ∃fd:FuncData,(∀(s:aA) (v:aa),BindsTo s fd ⟨[v],[]⟩ [("_law_script",v)])/\∀base:ak,K.In base->base.Ns mainGlobals mg->FnOk l.prog w K mg base uY 7 fa fd ["_law_script"] (vN K 1 AQ):=by
 obtain⟨f,fd,a,F⟩:=a32;have e:=hfa.symm.trans (cu X G a)
 cases e
 have P:=cu X G n_NoTables;have aao:=cu X G n_NoRow;have V:=cu X G n_NoNumber;have aaq:=cu X G n_NoName;have aar:=cu X G n_TooMany;have aas:=cu X G n_NoWord;have aat:=cu X G n_NoPair;have aau:=cu X G ZK.n;have L:=bM X G aaT;have Z1:=bM X G aaU;have j:=bM X G aaV;have d:=bM X G aaW;have p:=bM X G aaX;have k:=bM X G aaY;have ZW:=bM X G aaZ;have B:=bM X G aa0;have g:=bM X G aa1;have ZX:=bM X G aa2;have C:=bM X G aa3;have aac:=bM X G aa4;have aak:=bM X G aa5;have aav:=bM X G aa6;have aaw:=bM X G aa7;have aaA:=bM X G aa8;have aaB:=bM X G aa9;have aaC:=bM X G aa_;have ZY:∃t,mg "MOST_THINGS" = some (.int 20 t):=⟨aaM,cu X G aba⟩;have Z2:∃t,mg "MOST_NUMBERS" = some (.int 200 t):=⟨aaN,cu X G abb⟩;have Z4:∃t,mg "PIECE" = some (.int 10000000000000000000000000000000000000000000000000000000000000000 t):=⟨aaO,cu X G abc⟩;have Z7:∃t,mg "FIGURES" = some (.str (PySem.Str.ofString "0123456789") t):=⟨aaP,cu X G abd⟩;have Z8:∃t,mg "MOST_FIGURES" = some (.int 30 t):=⟨aaQ,cu X G abe⟩;have aad:∃t,mg "MOST_TERMS" = some (.int 40 t):=⟨aaR,cu X G abf⟩;have aae:∃t,mg "GREATEST_POWER" = some (.int 60 t):=⟨aaS,cu X G abg⟩;refine⟨fd,λs v=>(by obtain⟨_,_,_,_,_,_,_,_,_,rfl,_,_⟩:=F.ex;exact .of_eq rfl),λbase _ _=>?_⟩;have E:En l.prog w K mg base:=⟨h,X,G⟩;have ZZ:=a1.kA E (λF=>CG F L Z1 j)<|Af λ_ _ _ _ _ _ _=>rfl;have Z9:=a2.kA E (λF=>Dp F d L p k ZW B g ZY ZZ)<|Af λ_ _ _ _ _ _ _=>rfl;have Z3:=a3.kA E (λF=>zO F ZZ)<|Oo λ_ _ _ _ _ _ _ _=>rfl;have Z_:=a4.kA E (λF=>EV F d L B k Z2 Z3)<|Oo λ_ _ _ _ _ _ _ _=>rfl;have Z5:=a5.kA E (λF=>Bo F ZX C Z4)<|Af λ_ _ _ _ _ _ _=>rfl;have Z6:=a6.kA E (λF=>Cc F Z5)<|Oo λ_ _ _ _ _ _ _ _=>rfl;have Y:=a7.kA E (λF=>B0 F Z6)<|Af λ_ _ _ _ _ _ _=>rfl;have ZV:=a8.kX E (λF=>z0 F ZK k d j Z7 Z8)<|Af λ_ _ _ _ _ _ _=>rfl;have Z0:=a9.kX E (λF=>yy F ZV)<|Af λ_ _ _ _ _ _ _=>rfl;have aax:=a10.kX E (λF=>Ao F ZK p Z0 Z9)<|Af λ_ _ _ _ _ _ _=>rfl;have aay:=a11.kX E (λF=>Ck F ZK ZY Z0 Z_)<|Af λ_ _ _ _ _ _ _=>rfl;have aaa:=a12.kX E (λF=>Ar F ZV)<|Af λ_ _ _ _ _ _ _=>rfl;have aab:=a13.kX E (λF=>Cj F aaa ZV)<|Oo λ_ _ _ _ _ _ _ _=>rfl;have aaf:=a14.kX E (λF=>Au F ZK d g aab)<|Af λ_ _ _ _ _ _ _=>rfl;have T:=a15.kA E (λF=>vc F ZW aac d k ZX aad aae)<|Af λ_ _ _ _ _ _ _=>rfl;have aaz:=a16.kX E (λF=>B4 F ZK aaf Y T)<|Af λ_ _ _ _ _ _ _=>rfl;have aaD:=a17.kA E (λF=>EI F d ZX j)<|Oo λ_ _ _ _ _ _ _ _=>rfl;have m:=a18.kA E (λF=>BO F)<|Oo λ_ _ _ _ _ _ _ _=>rfl;have aai:=a19.kA E (λF=>EC F B g d p m)<|Oo λ_ _ _ _ _ _ _ _=>rfl;have aaE:=a20.kA E (λF=>BI F B g p m aai)<|Oo λ_ _ _ _ _ _ _ _=>rfl;have J:=a21.kA E (λF=>zj F k d j)<|Af λ_ _ _ _ _ _ _=>rfl;have N:=a22.kA E (λF=>yz F ZW B g d p J)<|Af λ_ _ _ _ _ _ _=>rfl;have Z:=a23.kA E (λF=>zk F k d J)<|Af λ_ _ _ _ _ _ _=>rfl;have aaj:=a24.kA E (λF=>yx F j J)<|Af λ_ _ _ _ _ _ _=>rfl;have aal:=a25.kA E (λF=>zc F J aaj)<|Af λ_ _ _ _ _ _ _=>rfl;have O:=a26.kA E (λF=>zS F j d k g aak aal)<|Af λ_ _ _ _ _ _ _=>rfl;have aam:=a27.kA E (λF=>DE F d m)<|Af λ_ _ _ _ _ _ _=>rfl;have aaG:=a28.kA E (λF=>zR F g d j m aam)<|Oo λ_ _ _ _ _ _ _ _=>rfl;have aaF:=a29.kA E (λF=>Cs F g C j m)<|Af λ_ _ _ _ _ _ _=>rfl;have aaH:=a30.kA E (λF=>EY F g C m)<|Af λ_ _ _ _ _ _ _=>rfl;have aaL:=a31.kA E (λF=>DN F u0 u1 ZK P aao V aaq aar aas aat aau k_NoText_NoTables k_NoText_NoRow k_NoText_NoNumber k_NoText_NoName k_NoText_TooMany k_NoText_NoWord k_NoText_NoPair k_NoText_NoText L aav aaw aax aay aaz)<|ZC λ_ _ _ _ _ _ _ _ _=>rfl;exact RW F g aaA aaB d C aaC aaD aaE m aaF aaG aaH O Z N aaL
def walk{l:PySem.W.OpenLaw}{q:ah}{U:(Str->bj)->ak->Prop}{L:af->ak->Prop}{d:DefRec}{K:Params->au}(hn:l.most=some 63)(J:d.params.defaults=[])
  (Z:∀(w:af) (h:ak),L w h->(K w.params).In h)
  (F:∀(w:af) (mg:Str->bj) (fa:aj) (h:ak),(K w.params).In h->h.Ns mainGlobals mg->mg d.name=some (.ref fa) ->
   ∃fd:FuncData,(∀(s:aA) (u:aa),BindsTo s fd ⟨[u],[]⟩ [("_law_script",u)])/\∀base:ak,(K w.params).In base->base.Ns mainGlobals mg->FnOk l.prog w (K w.params) mg base uY 7 fa fd ["_law_script"] (vN (K w.params) 1 AQ)) :
  PySem.W.WalkO q loose U L l.row.toRowW d [] (λf vs=>PySem.call f vs):=
 L2.Pr (n:=63) (k:=7) (x := "_law_script") (CX:=λ_=>uY) (sp:=λw=>vN (K w.params) 1 AQ) hn ⋯ J ⟨rfl,by decide,by decide,rfl⟩ Z F (λ_ H a ns j m g=>Ij m g<|Rf ns j) λ_ _ _ _ _ z=>z
end K83
open PySem PySem.W PyProof.Rows
namespace PySem.W.Fast
local macro_rules|`(command|universe $x*)=>do return Lean.mkNullNode (←x.mapM λx=>`(command|def $x:ident:=Nat))
universe tw15011428601858713978 tw13423380902677927803 tw15189883322338821781 tw8657448366901062870 tw16082166561700979136 tw14745909839421296544 tw16946782837551650312 tw5551795209096021413 tw5865573190293419773 tw12032301420686407045 tw11465410427316248320 tw13646248466815205585 tw12277203897575154013 tw3522403893406050223 tw15886743489067671316 tw3778243439267534765 tw2430727393335053551 tw798680715472054688 tw13220554107243672701 tw16180912110704330564 tw4183438896849685338 tw3182866979413096865 tw12653251915666027427 tw3865195459004383927 tw9709613046915786450 tw5694215578014663352 tw11844921932281163728 tw15921397626445884803 tw3885405466110281567 tw16564902067818381784 tw2740779352697207524 tw13002462191752346928 tw10216224867553209821 tw16484666717952840516 tw1841238525850698391 tw12356669372669212571 tw2385886109204488250 tw9765631301063616594 tw16981334404697201948 tw3255863809492570412 tw3045186132586464521 tw5111853426879715472 tw5114220763856950764 tw3663958054367296801 tw14993534441889173085 tw477331032582538356 tw1658063736706910471 tw7640124579998633436 tw5308757408686989440 tw181811196601546060 tw3479526141772053176 tw11095054017329338645 tw6920859750946717931 tw5834255255733502091 tw10062282074560254562 tw6964682713734772073 tw13621114199323097892 tw4535882350946706174 tw15798534937407707950 tw3981894010156738979 tw3472449437796899613 tw11141974168288258705 tw2585727599028589966 tw13957966740316254152 tw15102711848163167303 tw3115055761088272996 tw13635930243821603802 tw4660087329516066750 tw15770652782303879069 tw13514072770916756385 tw7398497217565643078 tw9256985833283585874 tw4070989040663685752 tw3000408266576206017 tw6613503955658536819 tw7950060021098460440 tw3969785745104684688 tw13665776768391351814 tw12258357636398275768 tw14116481584129944316 tw3874902826024581880 tw524865806640339929 tw6367728782272123557 tw12146076083404764041 tw3688581046832650487 tw12635503534304632985 tw11255466614609504982 tw9376882314380156815 tw9304956462864899942 tw8676323990451449620 tw5685180177604119094 tw13984776702553329004 tw15415313767889683132 tw5039710639675948183 tw15625024820027575583 tw13452559411387171398 tw8536880236734629196 tw18266752766303180914 tw11715947494962883020 tw17161423832766361082 tw963606177114883954 tw7038322614502643297 tw7816814824238886731 tw18044812056002349270 tw16098285876585051839 tw7440547689361083014 tw12845851431604012002 tw9258463094908537109 tw17899310247134147094 tw1393898922826796654 tw17080433151399558757 tw9559531416386873363 tw10106303715497604669 tw7413696033531165822 tw4107800996376760666 tw9069692502416100139 tw10906724005093172932 tw17558512084688126743 tw12526049142957695399 tw5285270559180854760 tw16540671468618102540 tw14291247063777286173 tw14655836008486871592 tw7966994918525278681 tw5689320457995107434 tw11963816250766402862 tw6328165542502414134 tw7714619878856410232 tw12162145477334507064 tw14749864880103932280 tw6336814725063448129 tw3462074507965040966 tw6485869419683317867 tw1504385661958400191 tw794476835696982015 tw1520439086950970469 tw7524254538585304402 tw10813909246278796661 tw9296542027285657704 tw13636955009410163486
end PySem.W.Fast
set_option maxRecDepth 100000 in
set_option maxHeartbeats 0 in
theorem PySem.Challenge.cw_undercells_k83_texts_that_are_none_holds : PySem.Challenge.rw_undercells_k83_texts_that_are_none.Holds := by
 w_on;o_law;k_head;(case hw=>w_witness2)
 k_fill
 refine K83.walk (l:=PySem.Challenge.rw_undercells_k83_texts_that_are_none) rfl rfl (fun w h Y=>PySem.W.kIn_of Y) ?F
 case F=>
  intro w mg fa h KX G hmg;refine' K83.all_mk KX G hmg (.of ?_ ?_ ?_ ?_) (.of ?_ ?_ ?_ ?_) (.of ?_ ?_ ?_ ?_) (.of ?_ ?_ ?_ ?_) (.of ?_ ?_ ?_ ?_) (.of ?_ ?_ ?_ ?_) (.of ?_ ?_ ?_ ?_) (.of ?_ ?_ ?_ ?_) (.of ?_ ?_ ?_ ?_) (.of ?_ ?_ ?_ ?_) (.of ?_ ?_ ?_ ?_) (.of ?_ ?_ ?_ ?_) (.of ?_ ?_ ?_ ?_) (.of ?_ ?_ ?_ ?_) (.of ?_ ?_ ?_ ?_) (.of ?_ ?_ ?_ ?_) (.of ?_ ?_ ?_ ?_) (.of ?_ ?_ ?_ ?_) (.of ?_ ?_ ?_ ?_) (.of ?_ ?_ ?_ ?_) (.of ?_ ?_ ?_ ?_) (.of ?_ ?_ ?_ ?_) (.of ?_ ?_ ?_ ?_) (.of ?_ ?_ ?_ ?_) (.of ?_ ?_ ?_ ?_) (.of ?_ ?_ ?_ ?_) (.of ?_ ?_ ?_ ?_) (.of ?_ ?_ ?_ ?_) (.of ?_ ?_ ?_ ?_) (.of ?_ ?_ ?_ ?_) (.of ?_ ?_ ?_ ?_) (.of ?_ ?_ ?_ ?_) ?_ ?_ ?_ ?_ ?_ ?_ ?_ ?_ ?_ ?_ ?_ ?_ ?_ ?_ ?_ ?_ ?_ ?_ ?_ ?_ ?_ ?_ ?_ ?_ ?_ ?_ ?_ ⟨(show nsIn _ _ _=_ from ?_),?_,?_,⟨?_,?_,?_,?_,?_⟩,?_,?_⟩ ?_ ?_ ?_ ?_ ?_ ?_ ?_ ?_ ?_ ?_ ?_ ?_ ?_ ?_ ?_
  any_goals first|k_is|kernel_rfl
