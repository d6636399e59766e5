import PyProof.Rows.All
import Wide.All
import OpenK.AllK
import Wide.FinOn
import Lean
import PyProof.EqAt
import PyProof.EqKinds
import PyProof.TupleCall
import PySem.Challenge.RW_undercells_k64_whole_rows_by_moves
set_option autoImplicit true
set_option relaxedAutoImplicit true
set_option Elab.async false
set_option linter.all false
set_option maxRecDepth 100000
set_option compiler.extract_closed false
set_option maxHeartbeats 4000000
local macro_rules|`($a<|>$b)=>`(autoParam $a $b)
local macro_rules|`(command|abbrev $n:declId $s:optDeclSig $v:declVal)=>`(command|noncomputable def $n:declId $s:optDeclSig $v:declVal)|`(command|meta abbrev $n:declId $s:optDeclSig $v:declVal)=>`(command|@[reducible]noncomputable def $n:declId $s:optDeclSig $v:declVal)
local macro_rules|`(∅)=>`(by decide +kernel)
local macro_rules|`(⋯)=>`(by decide)
local macro_rules|`(tactic|dsimp[$l,*])=>`(tactic|simp only[$l,*])|`(tactic|dsimp[$l,*]$o:location)=>`(tactic|simp only[$l,*]$o:location)
local macro_rules(kind:=Lean.Parser.Term.structInst)|`({})=>`({cls:=.type "list",data:=.seq ([]:List PySem.Value).toArray})
set_option hygiene false
local macro_rules|`(tactic|room)=>`(tactic|intro X hP hw hK hc i pins s σ H E I hf st hg)
local macro_rules|`(tactic|z_go)=>`(tactic|obtain⟨ρ,S,τ,R,r,h⟩:=h9)
local macro_rules|`(tactic|x_go)=>`(tactic|obtain⟨ρ,S,a,b,R,va,vb,h⟩:=h9)
local macro_rules|`(tactic|w_up)=>`(tactic|obtain⟨f0,f1,f2,f3,f4,f5⟩:=hf it (by simp))
local macro_rules|`(tactic|k_ne)=>`(tactic|intro pins s σ H Q I h)
local macro_rules|`(tactic|kt_k)=>`(tactic|obtain⟨xs,hn,h⟩:=iT h)
local macro_rules|`(tactic|kd_p)=>`(tactic|intro pins s σ H xs us Q I r h)
local macro_rules|`(tactic|gn_on)=>`(tactic|intro pins s σ H x y v u Q I rx ry h)
local macro_rules|`(tactic|gp_on)=>`(tactic|exact Kp.refl.lay)
local macro_rules|`(tactic|kj_on)=>`(tactic|have hfree:∀y∈scope.names,y.2=.free->∃c,X.env.cells.lookup y.1=some c:=λy hy e=>I.ok.has _ (S.fr y hy e))
local macro_rules|`(tactic|kcf_m)=>`(tactic|exact I1.w_ (aM _) (I1.hok.fresh (aM _)))
local macro_rules|`(tactic|kcj_m)=>`(tactic|intro pins s σ H D I h)
local macro_rules|`(tactic|kpc_g)=>`(tactic|obtain⟨w,rfl,ρ,S,x,R,hv,h⟩:=Ot h0)
local macro_rules|`(tactic|kpf_c)=>`(tactic|obtain⟨ρ,S,τ,R,r,h⟩:=h)
local macro_rules|`(tactic|ksr_p)=>`(tactic|refine aT (wpS_lift (er ⟨rfl,?_⟩)))
local macro_rules|`(tactic|kst_p)=>`(tactic|obtain⟨t,rfl⟩:=rx)
local macro_rules|`(tactic|kln_w)=>`(tactic|obtain⟨u,rfl,rx⟩:=vals1 r)
local macro_rules|`(tactic|kl_no)=>`(tactic|refine aT (jd (j8 hy) ?_))
set_option hygiene true
local macro_rules|`(())=>`(by lia)
@[reducible]def ae:=List Int
@[reducible]def ag:=List Nat
@[reducible]def am:=List PySem.Str
@[reducible]def ap:=List PySem.Value
@[reducible]def ar:=List PySem.Addr
@[reducible]def aw:=Option PySem.Value
@[reducible]def ba:=Option Int
@[reducible]def bd:=Option Bool
@[reducible]def bi:=Option Nat
@[reducible]def bj:=List<|PySem.Addr×PySem.Obj
def aE:=@List.getElem?_eq_getElem
def aF:=@List.getD_eq_getElem?_getD
def aG:=@List.length_map
def aH:=@PySem.wpAny_bind
def aI:=@List.getElem?_eq_some_iff
def aJ:=@List.mem_cons_of_mem
def aK:=@List.mem_cons_self
def aL:=@List.length_append
def aM:=@Nat.le_refl
def aN:=@if_pos
def aO:=@if_neg
def aP:=@List.mem_singleton
def aQ:=@List.size_toArray
def aR:=@List.getElem?_map
def aS:=@PySem.Heap.get?_push_of_some
def aT:=@PyProof.Rows.wpS_bind
def aU:=@Option.some.inj
def aV:=@List.mem_append
def aW:=@PySem.wpAny_pure
def aX:=@List.mem_of_getElem?
def aY:=@List.mem_cons
def aZ:=@decide_eq_false
def a_:=@List.drop_eq_getElem_cons
def bf:=@decide_eq_true
def bg:=@PyProof.Rows.wpS_pure
def bh:=@List.mem_append_right
def bq:=@PySem.Heap.lt_size
def br:=@List.append_assoc
def bu:=@List.length_cons
def bw:=@List.getElem?_append_left
def bx:=@List.pairwise_append
def bz:=@List.getElem?_set_ne
def bA:=@List.pairwise_cons
def bB:=@Option.bind_some
def bC:=@Option.map_eq_some_iff
def bD:=@List.length_set
def bE:=@List.map_append
def bF:=@List.getElem?_set_self
def bG:=@List.length_take
def bH:=@Nat.le_trans
def bI:=@PySem.Heap.get?_push_size
def bJ:=@List.append_nil
def bK:=@Nat.ne_of_lt
def bL:=@List.nodup_cons
def bM:=@List.pairwise_singleton
def bN:=@Bool.false_ne_true
def bO:=@Bool.false_eq_true
def bP:=@Nat.lt_of_lt_of_le
def bQ:=@Nat.zero_le
def bR:=@beq_self_eq_true
def bS:=@List.map_cons
def bT:=@Option.bind_eq_some_iff
def bU:=@List.mem_map
def bV:=@List.take_succ_eq_append_getElem
def bW:=@List.mem_range
def bX:=@List.take_zero
def bY:=@Bool.and_eq_true
def bZ:=@of_decide_eq_true
def b6:=@PySem.PassesOwn.never
def b7:=@List.getElem?_append_right
def b8:=@PySem.wpAny_loadPart'
def b9:=@List.take_length
def b_:=@List.drop_of_length_le
def cg:=@decide_eq_true_iff
def cu:=@PySem.W.mg_none_of
def cC:=@List.take_append_drop
def cD:=@PyProof.Rows.wpS_forRange
def cE:=@Nat.lt_succ_self
def cF:=@List.length_range
def cG:=@List.pairwise_iff_getElem
def cH:=@List.take_of_length_le
def cI:=@List.nil_append
def cJ:=@Bool.or_eq_true
def cK:=@Nat.not_lt_zero
def cL:=@List.length_drop
def cM:=@PySem.F.slot_list_append
def cN:=@PySem.F.type_list_append
def cO:=@PySem.mem_of_lookup
def cP:=@List.getElem?_eq_none
def cQ:=@List.set_append_right
def cR:=@if_false
def cS:=@PySem.wpAny_newObj_type
def cT:=@List.mem_of_mem_take
def cU:=@if_true
def cV:=@List.foldl_append
def cW:=@Option.isSome_iff_exists
def cX:=@List.map_map
def cY:=@List.mem_append_left
def cZ:=@List.cons_append
def c5:=@List.mem_iff_getElem
def c6:=@List.getElem_mem
def c7:=@PyProof.Rows.callWith_type1
def c8:=@Nat.sub_self
def c9:=@beq_eq_false_iff_ne
def c_:=@List.replicate_succ
def dc:=@List.length_reverse
def dh:=@Nat.le_of_lt
def di:=@PySem.wpAny_holding
def dw:=@List.sum_cons
def dz:=@PySem.sizeLine_eq
def dB:=@List.mem_of_mem_drop
def dD:=@List.Perm.refl
def dG:=@List.forall_mem_cons
def dH:=@PySem.wpAny_truthy_bool
def dI:=@List.flatten_cons
def dJ:=@List.length_eq_zero_iff
def dM:=@Nat.add_sub_cancel_left
def dN:=@List.find?_cons
def dO:=@List.dropLast_concat_getLast
def dP:=@PyProof.Rows.wpS_mono
def dQ:=@Nat.zero_add
def dR:=@List.not_of_lt_findIdx
def dS:=@PySem.wpAny_standAt
def dU:=@PySem.wpAny_call_entry
def dW:=@List.lookup_cons
def dX:=@PySem.Heap.size_push
def dY:=@List.perm_ext_iff_of_nodup
def dZ:=@List.mem_filter
def d7:=@PySem.wpAny_passesOwn
def d8:=@List.length_nil
def d9:=@congrArg
def d_:=@List.nodup_append
def ee:=@List.pairwise_map
def eg:=@List.findIdx_getElem
def eo:=@List.take_add_one
def er:=@PySem.wpAny_rule
def eB:=@PyProof.Rows.slot_tuple_getitem
def eE:=@Ne.symm
def eF:=@Array.length_toList
def eG:=@List.map_congr_left
def eK:=@List.prefix_refl
def eL:=@List.getElem_map
def eN:=@List.drop_length
def eO:=@PySem.wpAny_field
def eS:=@PySem.W.cellsFrom_some
def eU:=@List.map_nil
def eV:=@PyProof.Rows.wpS_modify
def eW:=@List.getElem_range
def eX:=@Nat.lt_irrefl
def eY:=@List.any_cons
def eZ:=@PySem.builtinLookup_eq_fast
def e_:=@List.getElem?_toArray
def ff:=@List.length_filter_le
def fh:=@Nat.lt_succ_of_lt
def fj:=@PySem.wpAny_mono
def fm:=@PySem.Around.under_plainId
def fu:=@PySem.isSubtype_type
def fy:=@List.getElem?_of_mem
def fB:=@List.getElem_inj
def fC:=@Option.getD_some
def fD:=@List.countP_cons
def fE:=@Nat.lt_or_ge
def fG:=@List.filterMap_cons
def fH:=@List.filter_sublist
def fJ:=@List.length_pos_iff
def fK:=@List.getElem?_take_of_lt
def fL:=@PySem.F.args_tuple_add_2
def fM:=@PySem.AutoSeq1.wpAny_loadPart'
def fN:=@List.Perm.eq_of_pairwise
def fO:=@List.Pairwise.imp_of_mem
def fQ:=@PySem.codeAny_builtin
def fR:=@PySem.call_meets
def fS:=@List.prefix_append
def fU:=@Int.emod_lt_of_pos
def fV:=@List.getElem?_replicate
def fW:=@PySem.F.entry_tuple_add
def fX:=@PySem.wpAny_callSpecial?_slot
def fY:=@List.getElem?_cons_succ
def fZ:=@List.set_eq_take_append_cons_drop
def f7:=@PySem.codeAny_mono
def f9:=@PySem.F.slot_tuple_add
def f_:=@Int.toNat_natCast
def gb:=@PyProof.Rows.wpS_get
def gc:=@PySem.Heap.get?_push_ne
def gf:=@List.pairwise_lt_range
def gg:=@Nat.lt_of_succ_lt_succ
def gh:=@List.findIdx_le_length
def gp:=@List.getElem?_set
def gq:=@List.eraseIdxIfInBounds_toArray
def gu:=@List.length_replicate
def gv:=@Array.getElem?_toList
def gw:=@Nat.add_sub_add_right
def gz:=@Nat.succ_le_succ
def gA:=@PySem.Heap.size_update
def gB:=@List.nodup_range
def gC:=@Nat.succ_lt_succ
def gD:=@List.perm_middle
def gE:=@Bool.false_or
def gF:=@PySem.F.slot_list_reversed
def gH:=@Nat.pow_le_pow_right
def gI:=@PySem.wpAny_execs_nil
def gJ:=@PySem.typeLookup_type
def gK:=@Int.emod_nonneg
def gM:=@List.getElem?_range
def gO:=@PySem.wpAny_typeOf
def gP:=@Nat.sub_zero
def gQ:=@PySem.wpAny_Call_Name_kw
def gR:=@List.getElem?_drop
def gS:=@List.drop_zero
def gT:=@List.take_sublist
def gU:=@Option.isSome_map
def gV:=@decide_eq_true_eq
def gW:=@List.ext_getElem?
def gX:=@Int.le_refl
def gY:=@PySem.Paired.length
def gZ:=@Bool.not_true
def g8:=@Nat.add_assoc
def g9:=@Bool.true_and
def g_:=@Option.getD_none
def h_:=@List.zipIdx_cons
def ie:=@Nat.min_eq_right
def ig:=@List.all_eq_true
def ir:=@Nat.zero_lt_succ
def iu:=@List.mem_flatMap
def iw:=@List.of_mem_zip
def iy:=@List.foldl_cons
def iz:=@Nat.min_eq_left
def iA:=@Bool.eq_iff_iff
def iB:=@Nat.le_succ
def iC:=@List.nodup_nil
def iD:=@Bool.not_false
def iE:=@Array.size_zip
def iF:=@Nat.mul_le_mul
@[reducible]def aa:=PySem.Value
@[reducible]def af:=PySem.World
@[reducible]def ah:=PySem.Program
@[reducible]def aj:=PySem.Addr
@[reducible]def ak:=PySem.Heap
@[reducible]def aq:=PySem.W.Frag
@[reducible]def au:=PySem.Around
@[reducible]def az:=PySem.Shared
@[reducible]def aA:=PySem.Expr
@[reducible]def aC:=PySem.Stmt
def anI{a b:Prop}(h:a)(k:b):a/\b:=⟨h,k⟩
open Array (size_map)
open List (all_map map_drop map_set map_take set_set take_nil)
open Nat (ne_of_gt not_lt)
open Option (isSome_some)
namespace L2
open PySem PySem.Spec PyProof.Rows
meta abbrev Key:=Sum Int Str
abbrev wH:Key->aa->Bool
 | .inl k,v=>Value.isInt k v
 | .inr x,v=>Value.isStrOf x v
abbrev RC (w:af):Key->Int
 | .inl k=>hashInt k
 | .inr x=>hashStr w x
def jJ:∀{k:Key}{v:aa},wH k v=true->(∃i t,k=Sum.inl i/\v=Value.int i t)\/(∃x t,k=Sum.inr x/\v=Value.str x t)
 | .inl i,v,h=>by
  obtain⟨t,e⟩:=Value.isInt_shape (k:=i) (v:=v) h;exact .inl ⟨i,t,rfl,e⟩
 | .inr x,v,h=>by
  obtain⟨t,e⟩:=Value.isStrOf_shape (x:=x) (v:=v) h;exact .inr ⟨x,t,rfl,e⟩
def Ep(i:Int)(t:Tok):wH (.inl i) (.int i t)=true:=by simp[wH,Value.isInt]
def DW(x:Str)(t:Tok):wH (.inr x) (.str x t)=true:=by simp[wH,Value.isStrOf]
def Mz(a b:Int):decide ((Sum.inl a:Key)=Sum.inl b)=(a == b):=by
 by_cases e:a=b
 ·subst e;simp
 ·have h:¬(Sum.inl a:Key)=Sum.inl b:=λq=>e<|Sum.inl.inj q;rw[aZ h];exact(c9.mpr e).symm
def Oc(a b:Str):decide ((Sum.inr a:Key)=Sum.inr b)=decide (a=b):=by
 by_cases e:a=b
 ·subst e;simp
 ·have h:¬(Sum.inr a:Key)=Sum.inr b:=λq=>e<|Sum.inr.inj q;rw[aZ h,aZ e]
def Nf(a:Int)(b:Str):decide ((Sum.inl a:Key)=Sum.inr b)=false:=aZ λq=>nomatch q
def M6(a:Str)(b:Int):decide ((Sum.inr a:Key)=Sum.inl b)=false:=aZ λq=>nomatch q
abbrev jY (prog:ah)(w:af):PySem.KeyKind prog w Key where
 is:=wH
 hash:=RC w
 inj:=λv a b g d=>by
  rcases jJ g with⟨i,t,rfl,rfl⟩|⟨x,t,rfl,rfl⟩
  ·rcases jJ d with⟨j,u,rfl,e⟩|⟨y,u,rfl,e⟩
   ·injection e with e1 _;rw[e1]
   ·exact nomatch e
  ·rcases jJ d with⟨j,u,rfl,e⟩|⟨y,u,rfl,e⟩
   ·exact nomatch e
   ·injection e with e1 _;rw[e1]
 byValue:=λk v h=>by
  rcases jJ h with⟨i,t,rfl,rfl⟩|⟨x,t,rfl,rfl⟩<;>rfl
 pyHash:=λhv h=>by
  rcases jJ hv with⟨i,t,rfl,rfl⟩|⟨x,t,rfl,rfl⟩
  ·exact wpAny_pyHash_int h
  ·exact wpAny_pyHash_str h
 eqBool:=λf hv h=>by
  rcases jJ f with⟨i,t,rfl,rfl⟩|⟨x,t,rfl,rfl⟩
  ·rcases jJ hv with⟨j,u,rfl,rfl⟩|⟨y,u,rfl,rfl⟩
   ·rw[Mz]at h;exact wpAny_eqBool_int h
   ·rw[Nf]at h;exact SeqAt.EqAt.int_str i t y u _ _ _ _ h
  ·rcases jJ hv with⟨j,u,rfl,rfl⟩|⟨y,u,rfl,rfl⟩
   ·rw[M6]at h;exact SeqAt.EqAt.str_int x t j u _ _ _ _ h
   ·rw[Oc]at h;exact wpAny_eqBool_str h
 «strs»:=λk x t v h=>by
  rcases jJ h with⟨i,u,rfl,e⟩|⟨y,u,rfl,e⟩
  ·exact nomatch e
  ·injection e with e1 _
   subst e1
   cases v<;>rfl
def zE(prog:ah)(w:af)(i:Int)(t:Tok):(jY prog w).is (.inl i) (.int i t)=true:=Ep i t
def yZ(prog:ah)(w:af)(x:Str)(t:Tok):(jY prog w).is (.inr x) (.str x t)=true:=DW x t
inductive V where
 | non|bl (b:Bool)|int (i:Int)|str (x:Str)|byt (b:Array UInt8)|flt (b:UInt64)|ref (a:aj)|ty (n:String)
 deriving DecidableEq
abbrev RelV:V->aa->Prop
 | .non,u=>u=Value.none
 | .bl b,u=>u=Value.bool b
 | .int i,u=>∃t,u=Value.int i t
 | .str x,u=>∃t,u=Value.str x t
 | .byt b,u=>∃t,u=Value.bytes b t
 | .flt b,u=>∃t,u=Value.float b t
 | .ref a,u=>u=Value.ref a
 | .ty n,u=>u=Value.type n
meta abbrev Vals:List V->ap->Prop:=Paired RelV
def Vals.length{xs:List V}{us:ap}(r:Vals xs us):xs.length=us.length:=gY r
theorem Vals.get:∀{xs:List V}{us:ap}{i:Nat}{x:V},Vals xs us->xs[i]?=some x->∃u,us[i]?=some u/\RelV x u
 | _,_,_,_,.nil,e=>by simp at e
 | _,_,0,_,.cons r _,e=>by simp at e;subst e;exact⟨_,rfl,r⟩
 | _,_,i+1,x,.cons _ t,e=>by
  obtain⟨u,h1,d⟩:=Vals.get (i:=i) (x:=x) t (by simpa using e);exact⟨u,by simpa using h1,d⟩
theorem Vals.set{x:V}(r:RelV x u):∀{xs:List V}{us:ap}(i:Nat),Vals xs us->Vals (xs.set i x) (us.set i u)
 | _,_,_,.nil=>.nil
 | _,_,0,.cons _ t=>.cons r t
 | _,_,i+1,.cons q t=>.cons q<|Vals.set r i t
theorem Vals.append:∀{xs ys:List V}{us ws:ap},Vals xs us->Vals ys ws->Vals (xs++ys) (us++ws)
 | _,_,_,_,.nil,s=>s
 | _,_,_,_,.cons r t,s=>.cons r<|Vals.append t s
theorem Vals.take:∀{xs:List V}{us:ap}(n:Nat),Vals xs us->Vals (xs.take n) (us.take n)
 | _,_,0,_=>.nil
 | _,_,_+1,.nil=>.nil
 | _,_,n+1,.cons r t=>.cons r<|Vals.take n t
theorem Vals.drop:∀{xs:List V}{us:ap}(n:Nat),Vals xs us->Vals (xs.drop n) (us.drop n)
 | _,_,0,r=>r
 | _,_,_+1,.nil=>.nil
 | _,_,n+1,.cons _ t=>Vals.drop n t
abbrev DU:Option V->aw->Prop
 | some v,some u=>RelV v u
 | none,none=>True
 | _,_=>False
abbrev KV {κ:Type}:List (κ×V)->List (κ×aa)->Prop:=Paired λ(p:κ×V) (q:κ×aa)=>p.1=q.1/\RelV p.2 q.2
abbrev kV:Key->V
 | .inl i=>.int i
 | .inr x=>.str x
inductive HO where
 | lst (xs:List V)
 | tup (xs:List V)
 | dK (kvs:List<|Key×V)|dT (kvs:List<|List Key×V)
 | set (S:Int->Bool) (n:Nat)
 | ins (C dx:aj) (fs:List<|Str×V)
 | own (x:aj)
 | xd (fs:List<|Str×V)
 | met (f x:aj)
 | rng (lo hi:Int)
 | frz (o:Obj) (u:HO)
 | tbl (ps:Array aa)
 | ext (φ:ak->Prop)
meta abbrev Hp:=aj->Option HO
abbrev upd (H:Hp)(a:aj)(o:HO):Hp:=λb=>if b=a then some o else H b
def jI{H:Hp}{a:aj}:upd H a o a=some o:=by unfold upd;rw[aN rfl]
def iV{H:Hp}{a:aj}(h:b≠a):upd H a o b=H b:=by unfold upd;rw[aO h]
def LB{H:Hp}{a:aj}(h:H a=some o)(h':H b=some u)(d:o≠u):a≠b:=by
 intro e;subst e;rw[h]at h';exact d<|aU h'
def i7{H:Hp}{a:aj}(h:H a=some o)(h':H b=none):a≠b:=by
 intro e;subst e;rw[h]at h';cases h'
abbrev mD (h:ak)(a:aj)(J:Array aa):Prop:=∃o,h.get? a=some o/\o.cls=.type "tuple" /\ o.dict=none/\∃n,o.data=.seq J n
def mD.tup{a:aj}:mD h a items->IsTup h a items:=λ⟨o,e,c,_,n,d⟩=>⟨o,e,c,n,d⟩
def mD.new(h:ak)(J:Array aa):mD (h.push { cls:=.type "tuple",data:=.seq J }) h.objs.size J:=⟨_,bI _ rfl,rfl,rfl,_,rfl⟩
def mD.lt{h:ak}{a:aj}(x:mD h a items):a<h.objs.size:=let⟨_,ho,_⟩:=x;bq ho
section
variable (P:ah) (w:af)
abbrev kj (H:Hp)(h:ak)(a:aj):HO->Prop
 | .lst xs=>xs.length<=sizeLine/\∃(d:ap) (n:Nat),Vals xs d/\h.get? a=some { cls:=.type "list",data:=.seq d.toArray n }
 | .tup xs=>xs.length<=sizeLine/\∃d:ap,Vals xs d/\mD h a d.toArray
 | .dK g=>g.length<=sizeLine/\(a == sysModules)=false/\∃z,KV g z/\h.DictOf (jY P w) a z
 | .dT g=>g.length<=sizeLine/\(a == sysModules)=false/\∃xs:List<|List Key×aj×aa,
   Paired (λ(p:List Key×V) (q:List Key×aj×aa)=>p.1=q.1/\H q.2.1=some (.tup<|p.1.map kV)/\RelV p.2 q.2.2) g xs /\
   ∃o es F,h.get? a=some o/\o.ExactDict/\o.data=.dict es F/\es.toList=xs.map (entryOfKey<|tupleKind<|jY P w)/\(xs.map (·.1)).Nodup
 | .set S n=>h.SetOf (intKind P w) a S n
 | .ins C k fs=>H k=some (.own a)/\fs.length<=1000/\k≠a/\h.get? a=some (PySem.W.instObj C k) /\
   ∃j,h.Ns1 k j/\(∀f,DU (fs.lookup f)<|j f)/\PySem.Within j (fs.map (·.1))
 | .own _=>∃o,h.get? a=some o
 | .xd fs=>∃j,h.Ns1 a j/\∀f,DU (fs.lookup f) (j f)
 | .rng lo hi=>∃t u v,h.get? a=some { cls:=.type "range",data:=.fields #[.int lo t,.int hi u,.int 1 v]}
 | .frz o u=>h.get? a=some o/\kj H h a u
 | .tbl ps=>h.get? a=some { cls:=.none,data:=.fields ps }
 | .met f x=>h.get? a=some (PySem.W.methodObj (.ref f)<|.ref x)
 | .ext m=>m h/\(∃o,h.get? a=some o)/\∀h1 B:ak,m h1->(∀o,h1.get? a=some o->B.get? a=some o)->m B
abbrev qB (H:Hp)(h:ak):Prop:=∀a o,H a=some o->kj P w H h a o
end
section
variable {P:ah}{w:af}{H H':Hp}{h h':ak}{a:aj}{o:HO}
def kj.lt(x:kj P w H h a o):a<h.objs.size:=by
 cases o with
 | lst xs=>obtain⟨_,_,_,_,e⟩:=x;exact bq e
 | tup xs=>obtain⟨_,_,_,p⟩:=x;exact mD.lt p
 | dK d=>obtain⟨_,_,_,_,o,_,_,e,_⟩:=x;exact bq e
 | dT d=>obtain⟨_,_,_,_,o,_,_,e,_⟩:=x;exact bq e
 | set S n=>obtain⟨o,_,_,_,e,_⟩:=x;exact bq e
 | ins C k fs=>obtain⟨_,_,_,e,_⟩:=x;exact bq e
 | own y=>obtain⟨_,e⟩:=x;exact bq e
 | xd fs=>obtain⟨_,⟨_,_,_,e,_⟩,_⟩:=x;exact bq e
 | rng lo hi=>obtain⟨_,_,_,e⟩:=x;exact bq e
 | frz g u=>obtain⟨e,_⟩:=x;exact bq e
 | tbl ps=>exact bq (show h.get? a=some _ from x)
 | met f y=>exact bq (show h.get? a=some _ from x)
 | ext j=>obtain⟨_,⟨_,e⟩,_⟩:=x;exact bq e
theorem Paired.Mi{α β:Type}{F G:α->β->Prop}:∀{l₁:List α}{l₂:List β},Paired F l₁ l₂->(∀a b,F a b->G a b)->Paired G l₁ l₂
 | _,_,.nil,_=>.nil
 | _,_,.cons r t,f=>.cons (f _ _ r)<|Paired.Mi t f
def kj.stay(x:kj P w H h a o)(k:∀b u,(b=a\/H b=some (.own a))->h.get? b=some u->h'.get? b=some u)
  (ho:∀b,H b=some (.own a)->H' b=some (.own a)) (ht:∀b xs,H b=some (.tup xs)->H' b=some (.tup xs)):kj P w H' h' a o:=by
 induction o with
 | lst xs=>obtain⟨z,m,n,r,e⟩:=x;exact⟨z,m,n,r,k _ _ (.inl rfl) e⟩
 | tup xs=>obtain⟨z,m,r,g,e,c⟩:=x;exact⟨z,m,r,g,k _ _ (.inl rfl) e,c⟩
 | dK G=>obtain⟨z,y,J,r,g,es,j,e,c⟩:=x;exact⟨z,y,J,r,g,es,j,k _ _ (.inl rfl) e,c⟩
 | dT G=>
  obtain⟨z,y,xs,r,g,es,j,e,c⟩:=x;exact⟨z,y,xs,Paired.Mi r λp q z=>⟨z.1,ht _ _ z.2.1,z.2.2⟩,g,es,j,k _ _ (.inl rfl) e,c⟩
 | set S n=>obtain⟨g,es,j,t,e,c⟩:=x;exact⟨g,es,j,t,k _ _ (.inl rfl) e,c⟩
 | ins C M fs=>
  obtain⟨d,z,K,e,B,⟨F,es,j,e2,c⟩,r⟩:=x;exact⟨ho _ d,z,K,k _ _ (.inl rfl) e,B,⟨F,es,j,k _ _ (.inr d) e2,c⟩,r⟩
 | own y=>obtain⟨g,e⟩:=x;exact⟨g,k _ _ (.inl rfl) e⟩
 | xd fs=>obtain⟨B,⟨F,es,j,e,c⟩,r⟩:=x;exact⟨B,⟨F,es,j,k _ _ (.inl rfl) e,c⟩,r⟩
 | rng lo hi=>obtain⟨t,u,v,e⟩:=x;exact⟨t,u,v,k _ _ (.inl rfl) e⟩
 | frz g u L=>obtain⟨e,q⟩:=x;exact⟨k _ _ (.inl rfl) e,L q⟩
 | tbl ps=>
  have e:h.get? a=some { cls:=.none,data:=.fields ps }:=x
  skip
  exact k a _ (.inl rfl) e
 | met f y=>
  have e:h.get? a=some (PySem.W.methodObj (.ref f)<|.ref y):=x
  skip
  exact k a _ (.inl rfl) e
 | ext N=>obtain⟨p,⟨o,e⟩,st⟩:=x;exact⟨st _ _ p λo q=>k _ _ (.inl rfl) q,⟨o,k _ _ (.inl rfl) e⟩,st⟩
def qB.lt(x:qB P w H h)(e:H a=some o):a<h.objs.size:=(x a o e).lt
def qB.fresh(x:qB P w H h)(e:h.objs.size<=a):H a=none:=by
 cases q:H a with
 | none=>rfl
 | some u=>exact absurd (bP (x.lt q) e)<|eX _
def qB.kept(x:qB P w H h)(k:∀b u,h.get? b=some u->h'.get? b=some u):qB P w H h':=λa o e=>
 (x a o e).stay (λb u _ q=>k b u q) (λ_ q=>q) λ_ _ q=>q
def qB.laid(x:qB P w H h)(k:∀b u,h.get? b=some u->h'.get? b=some u)(J:h.objs.size<=a)(new:kj P w (upd H a o) h' a o):qB P w (upd H a o) h':=λb u e=>by
 have hn:=x.fresh J;by_cases d:b=a
 ·subst d;rw[jI]at e;cases e;exact new
 ·rw[iV d]at e;exact(x b u e).stay (λc v _ q=>k c v q) (λc q=>by rw[iV<|i7 q hn];exact q) λc xs q=>by rw[iV<|i7 q hn];exact q
end
abbrev Rd (H:Hp)(a:aj)(u:HO):Prop:=H a=some u\/∃o,H a=some (.frz o u)
def Rd.ok{P:ah}{w:af}{H:Hp}{a:aj}(r:Rd H a u)(x:qB P w H h):kj P w H h a u:=by
 rcases r with r|⟨o,r⟩
 ·exact x a u r
 ·obtain⟨_,q⟩:=x a _ r;exact q
abbrev PN:Option HO->Prop
 | some (.lst _)=>True
 | some (.dK _)=>True
 | some (.dT _)=>True
 | some (.set _ _)=>True
 | some (.ins _ _ _)=>True
 | some (.ext _)=>True
 | _=>False
section
variable {P:ah}{w:af}{H:Hp}{h h':ak}{x e:aj}{o':HO}
def qB.write(ok:qB P w H h)(J:PN<|H x)(he:e=x\/H e=some (.own x))(k:∀b u,b≠e->h.get? b=some u->h'.get? b=some u)(heo:∃u,h'.get? e=some u)
  (new:kj P w (upd H x o') h' x o'):qB P w (upd H x o') h':=λb u q=>by
 have f:∀c y,H c=some (.own y)->c≠x:=λc y r z=>by subst z;rw[r]at J;exact J
 have g:∀c xs,H c=some (.tup xs)->c≠x:=λc xs r z=>by subst z;rw[r]at J;exact J
 by_cases j:b=x
 ·subst j;rw[jI]at q;cases q;exact new
 ·rw[iV j]at q;by_cases d:b=e
  ·have m:H b=some (.own x):=by
    rcases he with z|z
    ·exact absurd (d.trans z) j
    ·rw[d];exact z
   rw[q]at m;cases m;obtain⟨v,hv⟩:=heo;exact⟨v,by rw[d];exact hv⟩
  ·refine(ok b u q).stay (λc v hc r=>k c v ?_ r) (λc r=>by rw[iV<|f c b r];exact r) λc xs r=>by rw[iV<|g c xs r];exact r
   rcases hc with rfl|hc
   ·exact d
   ·rintro rfl
    rcases he with z|z
    ·exact f c b hc z
    ·rw[hc]at z;cases z;exact j rfl
end
structure Un (fs ex:ar)(H H':Hp)(h h':ak):Prop where
 keep:∀b o,h.get? b=some o->H b=none->b∉fs->b∉ex->h'.get? b=some o
 slot:∀b o,h.get? b=some o->H b=none->b∈fs->b∉ex->∃sl,h'.get? b=some { o with slots:=sl }
 free:∀b o,h.get? b=some o->H b=none->b∉ex->H' b=none
 there:∀b o,h.get? b=some o->b∉ex->∃o',h'.get? b=some o'
 tups:∀b xs,H b=some (.tup xs)->H' b=some (.tup xs)
 frzs:∀b o u,H b=some (.frz o u)->H' b=some (.frz o u)
 tbls:∀b ps,H b=some (.tbl ps)->∃more,H' b=some (.tbl<|ps++more)
section
variable {fs ex:ar}{H H1:Hp}{h h1 h':ak}{a x e:aj}{o:HO}
def Un.any(u:Un fs ex H H1 h h1){J:Obj}(q:h.get? b=some J)(n:H b=none)(hx:b∉ex):∃sl,h1.get? b=some { J with slots:=sl }:=by
 by_cases d:b∈fs
 ·exact u.slot b J q n d hx
 ·exact⟨J.slots,u.keep b J q n d hx⟩
def Un.kept(k:∀b u,h.get? b=some u->h'.get? b=some u):Un fs ex H H h h':=
 ⟨λb d q _ _ _=>k b d q,λb d q _ _ _=>⟨d.slots,k b d q⟩,λ_ _ _ n _=>n,λb d q _=>⟨d,k b d q⟩,λ_ _ q=>q,λ_ _ _ q=>q,λ_ ps q=>⟨#[],by rw[q];simp⟩⟩
def Un.refl:Un fs ex H H h h:=Un.kept λ_ _ q=>q
def Un.laid(k:∀b u,h.get? b=some u->h'.get? b=some u)(J:h.objs.size<=a)(hn:H a=none):Un fs ex H (upd H a o) h h' where
 keep:=λb u q _ _ _=>k b u q
 slot:=λb u q _ _ _=>⟨u.slots,k b u q⟩
 free:=λb u q n _=>by rw[iV<|bK<|bP (bq q) J];exact n
 there:=λb u q _=>⟨u,k b u q⟩
 tups:=λb xs q=>by rw[iV<|i7 q hn];exact q
 frzs:=λb u xs q=>by rw[iV<|i7 q hn];exact q
 tbls:=λb ps q=>⟨#[],by rw[iV<|i7 q hn,q];simp⟩
def Un.write(J:PN<|H x)(he:e=x\/H e=some (.own x))(k:∀b u,b≠e->h.get? b=some u->h'.get? b=some u)(heo:∃u,h'.get? e=some u):Un fs ex H (upd H x o) h h':=by
 have j:∀b,H b=none->b≠x:=λb n z=>by subst z;rw[n]at J;exact J
 have g:∀b,H b=none->b≠e:=λb n z=>by
  subst z
  rcases he with r|r
  ·exact j b n r
  ·rw[n]at r;cases r
 have f:∀b u,H b=some u->¬PN (some u)->b≠x:=λb u q m z=>by subst z;rw[q]at J;exact m J
 refine⟨λb u q n _ _=>k b u (g b n) q,λb u q n _ _=>⟨u.slots,k b u (g b n) q⟩,λb u q n _=>by rw[iV<|j b n];exact n,λb u q _=>?_,
  λb xs q=>by rw[iV<|f b _ q λz=>z];exact q,λb u xs q=>by rw[iV<|f b _ q λz=>z];exact q,λb ps q=>⟨#[],by rw[iV<|f b _ q λz=>z,q];simp⟩⟩
 by_cases d:b=e
 ·subst d;exact heo
 ·exact⟨u,k b u d q⟩
end
abbrev QD (h:ak)(H:Hp):ar:=(List.range h.objs.size).filter λa=>(H a).isSome
abbrev xC (h:ak)(H:Hp):ak:=PySem.W.hideAll h<|QD h H
def D_(h:ak)(H:Hp):(xC h H).objs.size=h.objs.size:=PySem.W.hideAll_size _ _
def G4{h:ak}{H:Hp}(e:h.get? b=some o)(n:H b=none):(xC h H).get? b=some o:=
 PySem.W.hideAll_get _ e λd=>by
  have q:(H b).isSome=true:=(dZ.mp d).2;rw[n]at q;simp at q
def Ke{h:ak}{H:Hp}(e:(xC h H).get? b=some o):h.get? b=some o/\H b=none:=by
 have d:h.get? b=some o:=PySem.W.of_hideAll (QD h H) e;refine⟨d,?_⟩
 cases q:H b with
 | none=>rfl
 | some x=>
  have f:b∈QD h H:=dZ.mpr ⟨bW.mpr<|bq d,by simp[q]⟩;have z:(xC h H).get? b=none:=PySem.W.hideAll_none (QD h H) f;rw[z]at e;cases e
abbrev Jj (g h:ak)(L:aj):bj:=(List.range h.objs.size).filterMap λa=>if a=L\/(g.get? a).isSome=true then none else(h.get? a).map λo=>(a,o)
abbrev rest (g h:ak)(L d:aj):bj:=(Jj g h L).filter λp=>decide<|p.1≠d
structure Mod (K:aq)(mg:Str->aw)(base:ak):Prop where
 kin:K.In base
 glob:base.Ns mainGlobals mg
 blt:∃mb,base.Ns builtinsNs mb/\∀x:Str,x ≠ "__name__" -> mb x=bootBuiltins x
 nolimit:base.NoLimit
structure Cx where
 prog:ah
 w:af
 K:aq
 mg:Str->aw
 base:ak
 A:au
 N:am
 s₀:az
 H₀:Hp
 env:Env
 outer:List Env
 stack:List Env
 ex:ar
 fn:Str->Bool
 calm:Bool
 pn:bj
 xe:aa->az->Prop
abbrev frs (l:List Env):ar:=l.filterMap (·.frame)
meta abbrev Cx.fs (X:Cx):ar:=frs X.outer
abbrev OO (sc:Scope)(x:Str):Prop:=sc.names.lookup x=some .local\/sc.names.lookup x=some .cell\/sc.names.lookup x=some .free
abbrev Loc (sc:Scope)(x:Str):Prop:=sc.names.lookup x=some .local\/sc.names.lookup x=some .cell
abbrev Look (env:Env)(h:ak)(m:Str->aw)(x:Str)(u:aa):Prop:=
 (env.kindOf x=some .local/\m x=some u)\/((env.kindOf x=some .cell\/env.kindOf x=some .free)/\∃c,env.cells.lookup x=some c/\h.IsCell c (some u))
structure Cx.Ok (X:Cx):Prop where
 mod:Mod X.K X.mg X.base
 kind:X.env.scope.kind=.function
 glob:X.env.globals=mainGlobals
 blt:X.env.builtins=builtinsNs
 above:X.s₀.heap.objs.size<=X.env.locals
 inj:∀x y c,X.env.cells.lookup x=some c->X.env.cells.lookup y=some c->x=y
 has:∀x,(X.env.kindOf x=some .cell\/X.env.kindOf x=some .free)->∃c,X.env.cells.lookup x=some c
 cab:∀x c,X.fn x=true->X.env.cells.lookup x=some c->X.s₀.heap.objs.size<=c
 hd:X.calm=true->X.A.handled=none
 frames:X.A.frames=some X.stack
 stk:X.stack=X.outer\/(X.stack=X.env::X.outer/\X.env.frame=some X.env.locals)
 exf:∀b∈X.ex,b≠X.env.locals/\∀x c,X.env.cells.lookup x=some c->c≠b
 bs:∀b o,X.base.get? b=some o->X.s₀.heap.get? b=some o/\X.H₀ b=none
 bsz:X.base.objs.size<=X.s₀.heap.objs.size
 noex:∀b o,X.base.get? b=some o->b∉X.ex
 exfs:∀b∈X.ex,b∉X.fs
 uM:X.s₀.heap.FunFrames X.base X.outer
 frf:∀b∈X.fs,X.H₀ b=none
structure Inv (X:Cx)(pins:bj)(σ:List (Option V))(H:Hp)(s:az):Prop where
 ok:X.Ok
 os:s.os=X.s₀.os
 bare:AllBare s.gens
 base:Un X.fs X.ex X.H₀ H X.s₀.heap s.heap
 loc:∃m,s.heap.Ns X.env.locals m/\∀(i:Nat) (x:Str) (v:V),X.N[i]?=some x->σ[i]?=some (some v)->OO X.env.scope x->∃u,RelV v u/\Look X.env s.heap m x u
 cell:∀x c,X.env.cells.lookup x=some c->∃v,s.heap.IsCell c v
 free:H X.env.locals=none
 freeC:∀x c,X.env.cells.lookup x=some c->H c=none
 pin:∀p∈X.pn++pins,s.heap.get? p.1=some p.2/\H p.1=none/\p.1≠X.env.locals/\p.1∉X.fs/\∀v,p.2.data≠.cell v
 hok:qB X.prog X.w H s.heap
 len:σ.length=X.N.length
section
variable {X:Cx}{pins:bj}{σ:List (Option V)}{H H':Hp}{s:az}{h':ak}
def Cx.Ok.Ry(ok:X.Ok)(e:X.base.get? b=some o):b∉X.fs:=λd=>by
 have:=(ok.uM.mem d).1;rw[e]at this;cases this
def Inv.bs(I:Inv X pins σ H s):∀b o,X.base.get? b=some o->s.heap.get? b=some o/\H b=none:=λb o e=>
 ⟨I.base.keep b o (I.ok.bs b o e).1 (I.ok.bs b o e).2 (I.ok.Ry e)<|I.ok.noex b o e,I.base.free b o (I.ok.bs b o e).1 (I.ok.bs b o e).2<|I.ok.noex b o e⟩
def Inv.bk(I:Inv X pins σ H s):∀b o,X.base.get? b=some o->s.heap.get? b=some o:=λb o e=>(I.bs b o e).1
def Inv.mod(I:Inv X pins σ H s):Mod X.K X.mg X.base:=I.ok.mod
def Inv.OH(I:Inv X pins σ H s):X.K.In s.heap:=I.ok.mod.kin.keeps I.bk
def Inv.lt(I:Inv X pins σ H s):X.env.locals<s.heap.objs.size:=let⟨_,hn,_⟩:=I.loc;hn.lt
def Inv.sz(I:Inv X pins σ H s):X.s₀.heap.objs.size<=s.heap.objs.size:=bH I.ok.above<|dh I.lt
def Inv.QU(I:Inv X pins σ H s){a:aj}(h:s.heap.objs.size<=a):a∉X.fs:=λd=>by
 obtain⟨_,o,f,_⟩:=I.ok.uM.mem d;exact absurd (bP (bq f)<|bH I.sz h)<|eX _
def Inv.Nt(I:Inv X pins σ H s):∀x c,X.env.cells.lookup x=some c->c≠X.env.locals:=λx c e z=>by
 obtain⟨v,o,g,hd⟩:=I.cell x c e;obtain⟨m,⟨o',es,j,f,d,_⟩,_⟩:=I.loc;rw[z,f]at g;cases g;rw[d]at hd;cases hd
def Inv.uM(I:Inv X pins σ H s):s.heap.FunFrames X.base X.outer:=by
 have all:∀(l:List Env),(∀b∈frs l,b∈X.fs)->X.s₀.heap.FunFrames X.base l->s.heap.FunFrames X.base l:=by
  intro l
  induction l with
  | nil=>intro _ _;trivial
  | cons env r m=>
   intro hs k;obtain⟨g,⟨L,o,hf,hn,p,hd⟩,j⟩:=k;have f:L∈X.fs:=hs L (by unfold frs;rw[fG,hf];exact aK);obtain⟨q,e⟩:=I.base.slot L o p (I.ok.frf L f) f λz=>I.ok.exfs L z f;exact⟨g,⟨L,_,hf,hn,e,hd⟩,m (λb d=>hs b<|by unfold frs;rw[fG,hf];exact aJ _ d) j⟩
 exact all X.outer (λ_ d=>d) I.ok.uM
def Inv.stack(I:Inv X pins σ H s):s.heap.FunFrames X.base X.stack:=by
 rcases I.ok.stk with e|⟨e,hf⟩
 ·rw[e];exact I.uM
 ·rw[e];obtain⟨m,hn,_⟩:=I.loc;refine .cons (by rw[I.ok.kind];decide) hf hn ?_ I.uM;exact Heap.get?_none_of_le<|bH I.ok.bsz I.ok.above
def Inv.AZ(I:Inv X pins σ H s):∀b∈frs X.stack,b∈X.env.locals::X.fs:=λb d=>by
 rcases I.ok.stk with e|⟨e,hf⟩
 ·rw[e]at d;exact aJ _ d
 ·rw[e]at d;unfold frs at d;rw[fG,hf]at d;exact d
def Inv.Cm(I:Inv X pins σ H s):∀b∈frs X.stack,H b=none:=λb d=>by
 rcases aY.mp (I.AZ b d)with e|d
 ·rw[e];exact I.free
 ·obtain⟨_,o,f,_⟩:=I.ok.uM.mem d;exact I.base.free b o f (I.ok.frf b d) λz=>I.ok.exfs b z d
def Inv.step{g':Array GenState}{t':Nat}{d':Drawn}{ch:ar}(I:Inv X pins σ H s)
  (hch:∀b∈ch,(b∈X.ex\/X.s₀.heap.objs.size<=b)/\b≠X.env.locals/\(∀x c,X.env.cells.lookup x=some c->c≠b)/\∀p∈X.pn++pins,p.1≠b)
  (keep:∀b o,b≠X.env.locals->b∉X.fs->b∉ch->s.heap.get? b=some o->H b=none->h'.get? b=some o)
  (slot:∀b o,b≠X.env.locals->b∈X.fs->b∉ch->s.heap.get? b=some o->H b=none->∃sl,h'.get? b=some { o with slots:=sl }) (free:∀b o,b∉ch->s.heap.get? b=some o->H b=none->H' b=none)
  (there:∀b o,b∉ch->s.heap.get? b=some o->∃o',h'.get? b=some o')
  (tups:∀b xs,H b=some (.tup xs)->H' b=some (.tup xs)) (frzs:∀b o u,H b=some (.frz o u)->H' b=some (.frz o u)) (tbls:∀b ps,H b=some (.tbl ps)->∃more,H' b=some (.tbl<|ps++more))
  (ns:∀m,s.heap.Ns X.env.locals m->h'.Ns X.env.locals m) (hok:qB X.prog X.w H' h') (hg:AllBare g') :
  Inv X pins σ H' { s with heap:=h',gens:=g',drawn:=d',toks:=t' }:=by
 have G:∀b o,X.s₀.heap.get? b=some o->b≠X.env.locals:=λb o e=>bK<|bP (bq e) I.ok.above;have B:∀b o,X.s₀.heap.get? b=some o->b∉X.ex->b∉ch:=λb o e f C=>by
  rcases(hch b C).1 with z|z
  ·exact f z
  ·exact absurd (bP (bq e) z)<|eX _
 have g:∀x c,X.env.cells.lookup x=some c->∀v,s.heap.IsCell c v->h'.IsCell c v:=λx c e v ⟨o,F,hd⟩=>by
  have j:c∉ch:=λz=>(hch c z).2.2.1 x c e rfl;by_cases hc:c∈X.fs
  ·obtain⟨sl,q⟩:=slot c o (I.Nt x c e) hc j F<|I.freeC x c e;exact⟨_,q,hd⟩
  ·exact⟨o,keep c o (I.Nt x c e) hc j F<|I.freeC x c e,hd⟩
 refine⟨I.ok,I.os,hg,⟨λb o e n C f=>?_,λb o e n C f=>?_,λb o e n f=>?_,λb o e f=>?_,λb xs e=>tups b xs<|I.base.tups b xs e,λb o xs e=>frzs b o xs<|I.base.frzs b o xs e,λb ps e=>?_⟩,?_,λx c e=>?_,?_,λx c e=>?_,λp L=>?_,hok,I.len⟩
 ·exact keep b o (G b o e) C (B b o e f) (I.base.keep b o e n C f) (I.base.free b o e n f)
 ·obtain⟨sl,e1⟩:=I.base.slot b o e n C f;obtain⟨J,e2⟩:=slot b _ (G b o e) C (B b o e f) e1<|I.base.free b o e n f;exact⟨J,e2⟩
 ·obtain⟨o',e1⟩:=I.base.there b o e f;exact free b o' (B b o e f) e1 (I.base.free b o e n f)
 ·obtain⟨o',e1⟩:=I.base.there b o e f;exact there b o' (B b o e f) e1
 ·obtain⟨P,e1⟩:=I.base.tbls b ps e;obtain⟨N,e2⟩:=tbls b _ e1;exact⟨P++N,by rw[e2,Array.append_assoc]⟩
 ·obtain⟨m,hn,O⟩:=I.loc;refine⟨m,ns m hn,λi x v e1 e2 e3=>?_⟩;obtain⟨u,r,l⟩:=O i x v e1 e2 e3;refine⟨u,r,?_⟩
  rcases l with l|⟨k,c,e,z⟩
  ·exact .inl l
  ·exact .inr ⟨k,c,e,g x c e _ z⟩
 ·obtain⟨v,z⟩:=I.cell x c e;exact⟨v,g x c e v z⟩
 ·obtain⟨m,⟨o,_,_,F,_⟩,_⟩:=I.loc;exact free _ o (λz=>(hch _ z).2.1 rfl) F I.free
 ·obtain⟨v,o,F,hd⟩:=I.cell x c e;exact free c o (λz=>(hch c z).2.2.1 x c e rfl) F (I.freeC x c e)
 ·obtain⟨e,n,K,M,d⟩:=I.pin p L;have j:p.1∉ch:=λz=>(hch p.1 z).2.2.2 p L rfl;exact⟨keep p.1 p.2 K M j e n,free p.1 p.2 j e n,K,M,d⟩
def Inv.un{t':Nat}(I:Inv X pins σ H s)(u:Un X.fs [] H H' s.heap h')(hok:qB X.prog X.w H' h'):Inv X pins σ H' { s with heap:=h',toks:=t' }:=by
 obtain⟨m,⟨o,es,F,k,r⟩,_⟩:=id I.loc;obtain⟨B,z⟩:=u.any k I.free (by simp);exact I.step (g':=s.gens) (d':=s.drawn) (ch:=[]) (nofun) (λb o _ f _ e n=>u.keep b o e n f<|by simp) (λb o _ f _ e n=>u.slot b o e n f<|by simp) (λb o _ e n=>u.free b o e n<|by simp) (λb o _ e=>u.there b o e<|by simp) u.tups u.frzs u.tbls (λC p=>by
  obtain⟨o',j,g,d,q⟩:=p;rw[k]at d;cases d;exact⟨_,j,g,z,q⟩) hok I.bare
def Inv.call{g':Array GenState}{t':Nat}{d':Drawn}{ch:ar}(I:Inv X pins σ H s)(u:Un (frs X.stack) ch H H' s.heap h')(hok:qB X.prog X.w H' h')(hg:AllBare g')
  (hch:∀b∈ch,(b∈X.ex\/X.s₀.heap.objs.size<=b)/\b≠X.env.locals/\(∀x c,X.env.cells.lookup x=some c->c≠b)/\∀p∈X.pn++pins,p.1≠b) :
  Inv X pins σ H' { s with heap:=h',gens:=g',drawn:=d',toks:=t' }:=by
 obtain⟨m,⟨o,es,J,k,r⟩,_⟩:=id I.loc;obtain⟨F,j⟩:=u.any k I.free λz=>(hch _ z).2.1 rfl;exact I.step (ch:=ch) hch (λb o j B hc e n=>u.keep b o e n (λz=>(aY.mp<|I.AZ b z).elim j B) hc) (λb o _ _ hc e n=>u.any e n hc) (λb o hc e n=>u.free b o e n hc) (λb o hc e=>u.there b o e hc) u.tups u.frzs u.tbls (λG q=>by
  obtain⟨o',g,f,d,C⟩:=q;rw[k]at d;cases d;exact⟨_,g,f,j,C⟩) hok hg
def Inv.turned{t':Nat}{it:aj}(I:Inv X pins σ H s)(k:∀b o,b≠it->s.heap.get? b=some o->h'.get? b=some o)(hn:H it=none)(J:it≠X.env.locals)
  (h1:it∈X.ex\/X.s₀.heap.objs.size<=it) (h2:∀x c,X.env.cells.lookup x=some c->c≠it) (h3:∀p∈X.pn++pins,p.1≠it):Inv X pins σ H { s with heap:=h',toks:=t' }:=by
 have d:∀b u,H b=some u->b≠it:=λb u e z=>by rw[z,hn]at e;cases e
 refine I.step (g':=s.gens) (d':=s.drawn) (ch:=[it]) (λb g=>?_) (λb o _ _ hc e _=>k b o (λz=>hc<|by simp[z]) e) (λb o _ _ hc e _=>⟨o.slots,k b o (λz=>hc<|by simp[z]) e⟩) (λ_ _ _ _ n=>n)
  (λb o hc e=>⟨o,k b o (λz=>hc<|by simp[z]) e⟩) (λ_ _ e=>e) (λ_ _ _ e=>e) (λb ps e=>⟨#[],by rw[e];simp⟩) (λm f=>?_) (λb u e=>?_) I.bare
 ·have e:b=it:=by simpa using g
  subst e;exact⟨h1,J,h2,h3⟩
 ·obtain⟨o,es,j,B,r⟩:=f;exact⟨o,es,j,k _ o (eE J) B,r⟩
 ·refine(I.hok b u e).stay (λc v hc q=>k c v ?_ q) (λ_ q=>q) λ_ _ q=>q
  rcases hc with z|z
  ·rw[z];exact d b u e
  ·exact d c _ z
def Inv.tok(I:Inv X pins σ H s)(t:Nat):Inv X pins σ H { s with toks:=t }:=I.un (h':=s.heap) (t':=t) Un.refl I.hok
def Inv.kept{t':Nat}(I:Inv X pins σ H s)(k:∀b u,s.heap.get? b=some u->h'.get? b=some u):Inv X pins σ H { s with heap:=h',toks:=t' }:=I.un (Un.kept k)<|I.hok.kept k
def Inv.laid{a:aj}{t':Nat}(I:Inv X pins σ H s)(k:∀b u,s.heap.get? b=some u->h'.get? b=some u)(J:s.heap.objs.size<=a)(new:kj X.prog X.w (upd H a o) h' a o) :
  Inv X pins σ (upd H a o) { s with heap:=h',toks:=t' }:=I.un (Un.laid k J<|I.hok.fresh J)<|I.hok.laid k J new
def Inv.write{x:aj}{t':Nat}(I:Inv X pins σ H s)(mu:PN<|H x)(he:e=x\/H e=some (.own x))(k:∀b u,b≠e->s.heap.get? b=some u->h'.get? b=some u)(J:∃u,h'.get? e=some u)
  (new:kj X.prog X.w (upd H x o) h' x o):Inv X pins σ (upd H x o) { s with heap:=h',toks:=t' }:=I.un (Un.write mu he k J)<|I.hok.write mu he k J new
def Inv.Cr{J:bj}(I:Inv X pins σ H s)(h:∀p∈J,s.heap.get? p.1=some p.2/\H p.1=none/\p.1≠X.env.locals/\p.1∉X.fs/\∀v,p.2.data≠.cell v):Inv X J σ H s:=
 ⟨I.ok,I.os,I.bare,I.base,I.loc,I.cell,I.free,I.freeC,λp d=>(aV.mp d).elim (λz=>I.pin p<|cY _ z)<|h p,I.hok,I.len⟩
def zA{N:am}(J:N.Nodup){i j:Nat}{x:Str}(a:N[i]?=some x)(b:N[j]?=some x):i=j:=by
 obtain⟨h1,e1⟩:=aI.mp a;obtain⟨d,e2⟩:=aI.mp b;exact(fB J).mp (e1.trans e2.symm)
def _root_.γ0(h:1=1:=by first|exact .inl rfl|exact .inr rfl|assumption):1=1:=h
def _root_.γ:Lean.Syntax:=γ0._auto_1
def _root_.η0(h:1=1:=by decide):1=1:=h
def _root_.η:Lean.Syntax:=η0._auto_1
def _root_.θ0(h:1=1:=by rfl):1=1:=h
def _root_.θ:Lean.Syntax:=θ0._auto_1
def _root_.ι0(h:1=1:=by intro _;rfl):1=1:=h
def _root_.ι:Lean.Syntax:=ι0._auto_1
def _root_.ν0(h:1=1:=by with_unfolding_all rfl):1=1:=h
def _root_.ν:Lean.Syntax:=ν0._auto_1
def _root_.ξ0(h:1=1:=by exact λ_ _=>rfl):1=1:=h
def _root_.ξ:Lean.Syntax:=ξ0._auto_1
def DB{A:au}{E:aa->az->Prop}{i:Nat}{x:Str}{v:V}{Q:Unit->az->Prop}(I:Inv X pins σ H s)(hN:X.N.Nodup)(hi:X.N[i]?=some x)(hx:Loc X.env.scope x)(r:RelV v u)
  (h:∀s',Inv X pins (σ.set i<|some v) H s'->(∃a,Heap.SameBut a s.heap s'.heap/\(a=X.env.locals\/X.env.cells.lookup x=some a))->Q Unit.unit s') (hf:X.fn x=true\/X.env.scope.names.lookup x=some .local<|>γ):wpAny M A (storeName X.env x u) Q E s:=by
 obtain⟨m,hn,hl⟩:=id I.loc;have O:(X.env.scope.kind == .class || (X.env.scope.kind == .module && X.env.locals != X.env.globals))=false:=by rw[I.ok.kind];rfl
 have B:i<σ.length:=by rw[I.len];exact(aI.mp hi).1
 have Nt:=I.Nt;have f:∀{a:aj} {h':ak},(∃o,s.heap.get? a=some o/\H a=none)->Heap.SameBut a s.heap h'->qB X.prog X.w H h':=λ{a h'} ha hs b ob e=>by
  obtain⟨_,_,hfree⟩:=ha;refine(I.hok b ob e).stay (λc U hc q=>(hs.2 c ?_).trans q) (λ_ q=>q) λ_ _ q=>q;rintro rfl
  rcases hc with rfl|hc
  ·rw[hfree]at e;cases e
  ·rw[hfree]at hc;cases hc
 rcases hx with g|g
 ·refine wpAny_storeName_local g hn (λh' Y hs=>?_) O;obtain⟨oL,_,_,hoL,_⟩:=id hn;refine h _ ⟨I.ok,I.os,I.bare,⟨λb o e n C hx=>?_,λb o e n C hx=>?_,I.base.free,λb o e hx=>?_,I.base.tups,I.base.frzs,I.base.tbls⟩,⟨_,Y,λj y v' e1 e2 e3=>?_⟩,λy c e=>?_,I.free,I.freeC,λp hp=>?_,f ⟨oL,hoL,I.free⟩ hs,by simpa using I.len⟩ ⟨_,hs,.inl rfl⟩
  ·exact(hs.2 b<|bK<|bP (bq e) I.ok.above).trans (I.base.keep b o e n C hx)
  ·obtain⟨Z,e1⟩:=I.base.slot b o e n C hx;exact⟨Z,(hs.2 b<|bK<|bP (bq e) I.ok.above).trans e1⟩
  ·obtain⟨o',e1⟩:=I.base.there b o e hx;exact⟨o',(hs.2 b<|bK<|bP (bq e) I.ok.above).trans e1⟩
  ·by_cases G:j=i
   ·subst G;rw[hi]at e1;cases e1;rw[bF B]at e2
    cases e2
    exact⟨u,r,.inl ⟨g,by simp⟩⟩
   ·rw[bz<|eE G]at e2;obtain⟨u',r',q⟩:=hl j y v' e1 e2 e3;refine⟨u',r',?_⟩
    rcases q with⟨k,e⟩|⟨k,c,e,z⟩
    ·refine .inl ⟨k,?_⟩;have:y≠x:=λe=>G<|zA hN e1<|e ▸ hi;simp[this,e]
    ·exact .inr ⟨k,c,e,z.sameBut hs<|Nt y c e⟩
  ·obtain⟨U,z⟩:=I.cell y c e;exact⟨U,z.sameBut hs<|Nt y c e⟩
  ·obtain⟨e,n,T,nf,d⟩:=I.pin p hp;exact⟨(hs.2 p.1 T).trans e,n,T,nf,d⟩
 ·have F:X.fn x=true:=by
   rcases hf with z|z
   ·exact z
   ·rw[z]at g;cases g
  obtain⟨c,hc⟩:=I.ok.has x<|.inl g;obtain⟨U,z⟩:=I.cell x c hc;refine wpAny_storeName_cell I.ok.kind g hc z λh' L hs=>?_;obtain⟨oc,P,J⟩:=id z;refine h { s with heap:=h' } ⟨I.ok,I.os,I.bare,⟨λb o e n C hx=>?_,λb o e n C hx=>?_,I.base.free,λb o e hx=>?_,I.base.tups,I.base.frzs,I.base.tbls⟩,⟨m,hn.sameBut hs<|eE<|Nt x c hc,λj y v' e1 e2 e3=>?_⟩,λy W e=>?_,I.free,I.freeC,λp hp=>?_,f ⟨oc,P,I.freeC x c hc⟩ hs,by simpa using I.len⟩ ⟨c,hs,.inr hc⟩
  ·exact(hs.2 b<|bK<|bP (bq e)<|I.ok.cab x c F hc).trans (I.base.keep b o e n C hx)
  ·obtain⟨Z,e1⟩:=I.base.slot b o e n C hx;exact⟨Z,(hs.2 b<|bK<|bP (bq e)<|I.ok.cab x c F hc).trans e1⟩
  ·obtain⟨o',e1⟩:=I.base.there b o e hx;exact⟨o',(hs.2 b<|bK<|bP (bq e)<|I.ok.cab x c F hc).trans e1⟩
  ·by_cases G:j=i
   ·subst G;rw[hi]at e1;cases e1;rw[bF B]at e2
    cases e2
    exact⟨u,r,.inr ⟨.inl g,c,hc,L⟩⟩
   ·rw[bz<|eE G]at e2;obtain⟨u',r',q⟩:=hl j y v' e1 e2 e3;refine⟨u',r',?_⟩
    rcases q with q|⟨k,W,e,z'⟩
    ·exact .inl q
    ·refine .inr ⟨k,W,e,z'.sameBut hs ?_⟩;rintro rfl;exact G<|zA hN e1<|I.ok.inj _ _ _ e hc ▸ hi
  ·by_cases K:W=c
   ·subst K;exact⟨_,L⟩
   ·obtain⟨w2,z2⟩:=I.cell y W e;exact⟨w2,z2.sameBut hs K⟩
  ·obtain⟨e,n,T,nf,d⟩:=I.pin p hp;refine⟨(hs.2 p.1 ?_).trans e,n,T,nf,d⟩;intro q;rw[q,P]at e;have q':oc=p.2:=aU e;exact d U<|by rw[<- q'];exact J
def uO{A:au}{E:aa->az->Prop}{i:Nat}{x:Str}{v:V}{Q:Unit->az->Prop}(I:Inv X pins σ H s)(J:X.N.Nodup)(hi:X.N[i]?=some x)(hx:Loc X.env.scope x)(r:RelV v u)
  (h:∀s',Inv X pins (σ.set i<|some v) H s'->Q Unit.unit s') (hf:X.fn x=true\/X.env.scope.names.lookup x=some .local<|>γ):wpAny M A (storeName X.env x u) Q E s:=
 DB I J hi hx r (λs' d _=>h s' d) hf
def Inv.Fp{s':az}{ch:ar}(I:Inv X pins σ H s)(ho:s'.os=s.os)(u:Un (frs X.stack) ch H H' s.heap s'.heap)(hok:qB X.prog X.w H' s'.heap)(hg:AllBare s'.gens)
  (J:∀b∈ch,(b∈X.ex\/X.s₀.heap.objs.size<=b)/\b≠X.env.locals/\(∀x c,X.env.cells.lookup x=some c->c≠b)/\∀p∈X.pn++pins,p.1≠b):Inv X pins σ H' s':=by
 obtain⟨h',g',d',t',o'⟩:=s';have e:o'=s.os:=ho;subst e;exact I.call (g':=g') (t':=t') (d':=d') u hok hg J
end
meta abbrev XK:=aa->Option aj->Hp->Prop
meta abbrev St:=List<|Option V
meta abbrev VK:=V->Hp->Prop
meta abbrev TE:=St->Hp->VK->Prop
meta abbrev TT:=St->Hp->(Bool->Hp->Prop)->Prop
meta abbrev TA:=St->Hp->(List V->Hp->Prop)->Prop
structure Ends where
 nx:St->Hp->Prop
 rt:VK
 bk:St->Hp->Prop:=λ_ _=>False
 ct:St->Hp->Prop:=λ_ _=>False
meta abbrev TS:=Ends->St->Hp->Prop
abbrev EP (X:Cx)(pins:bj)(σ:St)(Q:VK)(u:aa)(s':az):Prop:=∃v H',Inv X pins σ H' s'/\RelV v u/\Q v H'
abbrev TP (X:Cx)(pins:bj)(σ:St)(Q:Bool->Hp->Prop)(b:Bool)(s':az):Prop:=∃H',Inv X pins σ H' s'/\Q b H'
abbrev AP (X:Cx)(pins:bj)(σ:St)(Q:List V->Hp->Prop)(us:ap)(s':az):Prop:=∃d H',Inv X pins σ H' s'/\Vals d us/\Q d H'
abbrev SP (X:Cx)(pins:bj)(D:Ends)(f:Flow)(s':az):Prop:=
 match f with
 | .next=>∃d H',Inv X pins d H' s'/\D.nx d H'
 | .brk=>∃d H',Inv X pins d H' s'/\D.bk d H'
 | .cont=>∃d H',Inv X pins d H' s'/\D.ct d H'
 | .ret u=>∃v d H',Inv X pins d H' s'/\RelV v u/\D.rt v H'
abbrev PE (X:Cx)(e:aA)(t:TE):Prop:=
 ∀(pins:bj) (s:az) (σ:St) (H:Hp) (Q:VK),Inv X pins σ H s->t σ H Q->wpAny (model X.prog X.w) X.A (eval e X.env) (EP X pins σ Q) X.xe s
abbrev PT (X:Cx)(e:aA)(t:TT):Prop:=
 ∀(pins:bj) (s:az) (σ:St) (H:Hp) (Q:Bool->Hp->Prop),Inv X pins σ H s->t σ H Q->wpAny (model X.prog X.w) X.A (isTrue e X.env<|eval e X.env) (TP X pins σ Q) X.xe s
abbrev PW (X:Cx)(e:aA)(t:TT):Prop:=
 ∀(d:Sem aa) (pins:bj) (s:az) (σ:St) (H:Hp) (Q:Bool->Hp->Prop),Inv X pins σ H s->t σ H Q->wpAny (model X.prog X.w) X.A (isTrue e X.env d) (TP X pins σ Q) X.xe s
abbrev PA (X:Cx)(es:List aA)(t:TA):Prop:=
 ∀(pos:Pos) (pins:bj) (s:az) (σ:St) (H:Hp) (Q:List V->Hp->Prop),Inv X pins σ H s->t σ H Q->wpAny (model X.prog X.w) X.A (spliced<|backTo pos<|starEach es X.env) (AP X pins σ Q) X.xe s
abbrev PS (X:Cx)(st:aC)(t:TS):Prop:=
 ∀(pins:bj) (s:az) (σ:St) (H:Hp) (D:Ends),Inv X pins σ H s->t D σ H->wpAny (model X.prog X.w) X.A (exec st X.env) (SP X pins D) X.xe s
abbrev xF (X:Cx)(st:List aC)(t:TS):Prop:=
 ∀(pins:bj) (s:az) (σ:St) (H:Hp) (D:Ends),Inv X pins σ H s->t D σ H->wpAny (model X.prog X.w) X.A (execs st X.env) (SP X pins D) X.xe s
def jM{α:Type}{t:Sem α}{Q Q':α->az->Prop}{A:au}{E:aa->az->Prop}(h:wpAny M A t Q E s)(J:∀a s,Q a s->Q' a s):wpAny M A t Q' E s:=fj h J λ_ _ x=>x
section
variable {X:Cx}
abbrev PV (i:Nat):TE:=λσ H Q=>∃v,σ[i]?=some (some v)/\Q v H
abbrev tC (v:V):TE:=λ_ H Q=>Q v H
def IB{i:Nat}{x:Str}(hN:X.N[i]?=some x)(hv:OO X.env.scope x)(hd:(x == ("__debug__" : Str))=false<|>η)(J:(x == ("__classdict__" : Str))=false<|>η):PE X (.Name x pos) (PV i):=by
 k_ne;obtain⟨v,e,h⟩:=h;obtain⟨m,hn,j⟩:=I.loc;obtain⟨u,r,l⟩:=j i x v hN e hv;have fin:EP X pins σ Q u s:=⟨v,H,I,r,h⟩
 rcases l with⟨f,g⟩|⟨f,c,hc,d⟩
 ·exact wpAny_Name (wpAny_loadName_local I.ok.kind f hn g fin) hd
 ·rcases f with f|f
  ·exact wpAny_Name (wpAny_loadName_cell I.ok.kind f hc d fin) hd
  ·exact wpAny_Name (wpAny_loadName_free I.ok.kind f hc d fin J) hd
def MD{i j pos}:PE X (.Constant (.int i) j pos) (tC<|.int i):=λ_ _ _ H _ I h=>wpAny_Constant_int ⟨.int i,H,I.tok _,⟨_,rfl⟩,h⟩
def Pq{b j pos}:PE X (.Constant (.bool b) j pos) (tC<|.bl b):=λ_ _ _ H _ I h=>Constant_bool ⟨.bl b,H,I,rfl,h⟩
abbrev Gl (X:Cx)(x:Str):Prop:=X.env.kindOf x=some .globalImplicit
def Cb{E:aa->az->Prop}{H:Hp}{x:Str}{Q:aa->az->Prop}(I:Inv X pins σ H s)(hg:Gl X x)(J:X.mg x=some u)(h:Q u s)
  (hd:(x == ("__debug__" : Str))=false<|>η):wpAny (model X.prog X.w) X.A (eval (.Name x pos) X.env) Q E s:=
 Calls.Name_function_global I.ok.kind hg (Calls.loadGlobal_global (by rw[I.ok.glob];exact I.mod.glob.keeps I.bk) J h) hd
def rE{E:aa->az->Prop}{H:Hp}{x:Str}{Q:aa->az->Prop}(I:Inv X pins σ H s)(hg:Gl X x)(J:X.mg x=none)(hv:bootBuiltins x=some u)(h:Q u s)
  (hn:x ≠ "__name__"<|>η) (hd:(x == ("__debug__" : Str))=false<|>η):wpAny (model X.prog X.w) X.A (eval (.Name x pos) X.env) Q E s:=by
 obtain⟨f,h1,d⟩:=I.mod.blt;exact Calls.Name_function_global I.ok.kind hg (Calls.loadGlobal_builtin (by rw[I.ok.glob];exact I.mod.glob.keeps I.bk) J (by rw[I.ok.blt];exact h1.keeps I.bk) ((d x hn).trans hv) h) hd
def JF{x:Str}{v:V}(hg:Gl X x)(J:X.mg x=some u)(r:RelV v u)(hd:(x == ("__debug__" : Str))=false<|>η):PE X (.Name x pos) (tC v):=
 λ_ _ _ H _ I h=>Cb I hg J ⟨v,H,I,r,h⟩ hd
variable {a b:aA}{ta tb:TE}{pos:Pos}
variable {tA tB':TT}{rest:List aA}
abbrev Qj (t u:TT):TT:=λσ H Q=>t σ H λc H1=>if c=true then u σ H1 Q else Q false H1
abbrev SW (t u:TT):TT:=λσ H Q=>t σ H λc H1=>if c=true then Q true H1 else u σ H1 Q
def K7(J:PT X a tA):PW X (.BoolOp .And [a] pos) tA:=by
 intro wh pins s σ H Q I h;refine isTrue_and (jM (J pins s σ H Q I h) λc d e=>?_)
 cases c with
 | true=>exact isTrue_and_nil e
 | false=>exact e
def Oa(J:PT X a tA):PW X (.BoolOp .Or [a] pos) tA:=by
 intro wh pins s σ H Q I h;refine isTrue_or (jM (J pins s σ H Q I h) λc d e=>?_)
 cases c with
 | false=>exact isTrue_or_nil e
 | true=>exact e
def Mf(J:PT X a tA)(hb:PW X (.BoolOp .And (b::rest) pos) tB'):PW X (.BoolOp .And (a::b::rest) pos) (Qj tA tB'):=by
 intro wh pins s σ H Q I h;refine isTrue_and (jM (J pins s σ H _ I h) λc f ⟨H1,I1,d⟩=>?_)
 cases c with
 | true=>exact hb wh pins f σ H1 Q I1 d
 | false=>exact⟨H1,I1,d⟩
def Ph(J:PT X a tA)(hb:PW X (.BoolOp .Or (b::rest) pos) tB'):PW X (.BoolOp .Or (a::b::rest) pos) (SW tA tB'):=by
 intro wh pins s σ H Q I h;refine isTrue_or (jM (J pins s σ H _ I h) λc f ⟨H1,I1,d⟩=>?_)
 cases c with
 | true=>exact⟨H1,I1,d⟩
 | false=>exact hb wh pins f σ H1 Q I1 d
abbrev Pz (ta tb:TE):TE:=λσ H Q=>ta σ H λx H1=>∃c,x=.bl c/\if c=true then tb σ H1 Q else Q (.bl false) H1
def MN{op}{t:TE}(h:PE X a t):PE X (.BoolOp op [a] pos) t:=λpins s σ H Q I hw=>BoolOp_one<|h pins s σ H Q I hw
def Ou(J:PE X a ta)(hb:PE X (.BoolOp .And (b::rest) pos) tb):PE X (.BoolOp .And (a::b::rest) pos) (Pz ta tb):=by
 k_ne;refine BoolOp_and<|jM (J pins s σ H _ I h) λv f ⟨x,H1,I1,r1,d⟩=>?_;obtain⟨c,rfl,d⟩:=d
 cases r1
 refine dH ?_
 cases c with
 | true=>exact hb pins f σ H1 Q I1 d
 | false=>exact⟨.bl false,H1,I1,rfl,d⟩
end
abbrev kJ (K:aq)(H:Hp)(a:aj)(xs:List V):Prop:=
 Rd H a (.lst xs) \/
  ∃(o:Obj) (d:Array aa) (n:Nat),K.lookup a=some o/\o.cls=.type "list" /\ o.dict=none/\o.data=.seq d n/\d.size<=sizeLine/\Vals xs d.toList
abbrev mZ (K:aq)(H:Hp)(a:aj)(xs:List V):Prop:=
 Rd H a (.tup xs) \/
  ∃(o:Obj) (d:Array aa) (n:Nat),K.lookup a=some o/\o.cls=.type "tuple" /\ o.dict=none/\o.data=.seq d n/\d.size<=sizeLine/\Vals xs d.toList
abbrev RK:aa->Option V
 | .none=>some .non
 | .bool b=>some (.bl b)
 | .int i _=>some (.int i)
 | .str x _=>some (.str x)
 | .bytes b _=>some (.byt b)
 | .float b _=>some (.flt b)
 | .ref a=>some (.ref a)
 | .type n=>some (.ty n)
 | _=>none
def RelV.abs{x:V}(r:RelV x u):RK u=some x:=by
 cases x with
 | non=>cases r;rfl
 | bl _=>cases r;rfl
 | int _=>obtain⟨t,rfl⟩:=r;rfl
 | str _=>obtain⟨t,rfl⟩:=r;rfl
 | byt _=>obtain⟨t,rfl⟩:=r;rfl
 | flt _=>obtain⟨t,rfl⟩:=r;rfl
 | ref _=>cases r;rfl
 | ty _=>cases r;rfl
def RelV.inj{x:V}(r:RelV x u)(q:RelV y u):x=y:=aU<|r.abs.symm.trans q.abs
theorem Vals.inj:∀{xs ys:List V}{us:ap},Vals xs us->Vals ys us->xs=ys
 | _,_,_,.nil,.nil=>rfl
 | _,_,_,.cons r t,.cons f d=>by rw[r.inj f,Vals.inj t d]
section
variable {X:Cx}{pins:bj}{σ:St}{H:Hp}{s:az}{a:aj}{xs ys:List V}
def kJ.of{K:aq}(h:H a=some (.lst xs)):kJ K H a xs:=.inl<|.inl h
def mZ.of{K:aq}(h:H a=some (.tup xs)):mZ K H a xs:=.inl<|.inl h
def Inv.list(I:Inv X pins σ H s)(h:kJ X.K H a xs):∃its:ap,Vals xs its/\PlainL s.heap a its.toArray/\xs.length<=sizeLine:=by
 rcases h with h|⟨o,its,n,d,hc,hd,hs,f,r⟩
 ·obtain⟨z,its,n,r,e⟩:=h.ok I.hok;exact⟨its,r,⟨_,n,e,rfl,rfl,rfl⟩,z⟩
 ·refine⟨its.toList,r,⟨o,n,I.OH a o d,hc,hd,by simpa using hs⟩,?_⟩;have e:=r.length;dsimp[eF]at e
  lia
def Inv.tuple(I:Inv X pins σ H s)(h:mZ X.K H a xs):∃its:ap,Vals xs its/\IsTup s.heap a its.toArray/\xs.length<=sizeLine:=by
 rcases h with h|⟨o,its,n,d,hc,_,hs,f,r⟩
 ·obtain⟨z,its,r,p⟩:=h.ok I.hok;exact⟨its,r,p.tup,z⟩
 ·refine⟨its.toList,r,⟨o,I.OH a o d,hc,n,by simpa using hs⟩,?_⟩;have e:=r.length;dsimp[eF]at e
  lia
def Inv.um(I:Inv X pins σ H s)(h:kJ X.K H a xs)(h':kJ X.K H a ys):xs=ys:=by
 obtain⟨g,r,⟨o,n,e,_,_,d⟩,_⟩:=I.list h;obtain⟨f,m,⟨o',q,j,_,_,k⟩,_⟩:=I.list h';rw[e]at j;cases j;rw[d]at k
 injection k with p _
 have:g=f:=by simpa using d9 Array.toList p
 subst this;exact r.inj m
def Inv.vQ(I:Inv X pins σ H s)(h:mZ X.K H a xs)(h':mZ X.K H a ys):xs=ys:=by
 obtain⟨g,r,⟨o,e,_,n,d⟩,_⟩:=I.tuple h;obtain⟨f,m,⟨o',j,_,q,k⟩,_⟩:=I.tuple h';rw[e]at j;cases j;rw[d]at k
 injection k with p _
 have:g=f:=by simpa using d9 Array.toList p
 subst this;exact r.inj m
end
meta abbrev Cx.vM (X:Cx)(E:aa->az->Prop):Cx:={ X with xe:=E }
meta abbrev Cx.Pe (X:Cx):Cx:=X.vM λ_ _=>False
def Cx.Ok.vM{X:Cx}(ok:X.Ok)(E:aa->az->Prop):(X.vM E).Ok:=
 ⟨ok.mod,ok.kind,ok.glob,ok.blt,ok.above,ok.inj,ok.has,ok.cab,ok.hd,ok.frames,ok.stk,ok.exf,ok.bs,ok.bsz,ok.noex,ok.exfs,ok.uM,ok.frf⟩
def Cx.Ok.pP{X:Cx}{E:aa->az->Prop}(ok:(X.vM E).Ok):X.Ok:=
 ⟨ok.mod,ok.kind,ok.glob,ok.blt,ok.above,ok.inj,ok.has,ok.cab,ok.hd,ok.frames,ok.stk,ok.exf,ok.bs,ok.bsz,ok.noex,ok.exfs,ok.uM,ok.frf⟩
section
variable {X:Cx}{pins:bj}{σ:St}{H:Hp}{s:az}{E:aa->az->Prop}
def Inv.vM(I:Inv X pins σ H s)(E:aa->az->Prop):Inv (X.vM E) pins σ H s:=⟨I.ok.vM E,I.os,I.bare,I.base,I.loc,I.cell,I.free,I.freeC,I.pin,I.hok,I.len⟩
def Inv.pP(I:Inv (X.vM E) pins σ H s):Inv X pins σ H s:=⟨I.ok.pP,I.os,I.bare,I.base,I.loc,I.cell,I.free,I.freeC,I.pin,I.hok,I.len⟩
def SP.pP{f:Flow}(h:SP (X.vM E) pins D f s'):SP X pins D f s':=by
 cases f with
 | next=>obtain⟨d,H',I,q⟩:=h;exact⟨d,H',I.pP,q⟩
 | brk=>obtain⟨d,H',I,q⟩:=h;exact⟨d,H',I.pP,q⟩
 | cont=>obtain⟨d,H',I,q⟩:=h;exact⟨d,H',I.pP,q⟩
 | ret u=>obtain⟨v,d,H',I,r,q⟩:=h;exact⟨v,d,H',I.pP,r,q⟩
def xF.Pe{st:List aC}{t:TS}(h:xF X.Pe st t):xF X st t:=λpins s σ H D I hw=>
 fj (h pins s σ H D (I.vM _) hw) (λ_ _ q=>q.pP) λ_ _ z=>False.elim z
end
section
variable {X:Cx}{st:aC}{rest:List aC}{t u:TS}{e:aA}{te:TE}{pos:Pos}
abbrev Pd:TS:=λD σ H=>D.nx σ H
abbrev Qh (t u:TS):TS:=λD σ H=>t { D with nx:=u D } σ H
def JJ:xF X [] Pd:=λ_ _ σ H _ I h=>gI ⟨σ,H,I,h⟩
def FG(h1:PS X st t)(J:xF X rest u):xF X (st::rest) (Qh t u):=by
 kcj_m;refine wpAny_execs_cons (jM (h1 pins s σ H { D with nx:=u D } I h) λf j q=>?_)
 cases f with
 | next=>
  obtain⟨d,H',g,q⟩:=q;exact J pins j d H' D g q
 | ret v=>exact q
 | brk=>exact q
 | cont=>exact q
def JB(h1:PS X st t):xF X [st] t:=by
 kcj_m;refine wpAny_execs_cons (jM (h1 pins s σ H D I h) λf d q=>?_)
 cases f with
 | next=>exact gI q
 | ret v=>exact q
 | brk=>exact q
 | cont=>exact q
def Inv.quiet{H:Hp}(I:Inv X pins σ H s):interactive X.env=false:=by simp[interactive,I.ok.kind]
abbrev PC (te:TE):TS:=λD σ H=>te σ H λ_ H1=>D.nx σ H1
def Kw(J:PE X e te)(hs:swapsWith e none pos.line X.env=pure false<|>θ):PS X (.Expr e pos) (PC te):=by
 kcj_m;exact wpAny_Expr_any (jM (J pins s σ H _ I h) λv f ⟨x,H1,I1,r1,d⟩=>⟨σ,H1,I1,d⟩) I.quiet hs
abbrev Rg (te:TE):TS:=λD σ H=>te σ H D.rt
def M8(J:PE X e te):PS X (.Return (some e) pos) (Rg te):=by
 kcj_m;exact wpAny_Return_some<|jM (J pins s σ H _ I h) λv f ⟨x,H1,I1,r1,d⟩=>⟨x,σ,H1,I1,r1,d⟩
abbrev PM:TS:=λD _ H=>D.rt .non H
def J8:PS X (.Return none pos) PM:=λ_ _ σ H _ I h=>wpAny_Return_none ⟨.non,σ,H,I,rfl,h⟩
abbrev Sd (c:TT)(t u:TS):TS:=λD σ H=>c σ H λb H1=>if b=true then t D σ H1 else u D σ H1
def O7{a:List aC}{tc:TT}(hc:PT X c tc)(J:xF X a t)(hb:xF X b u):PS X (.If c a b pos) (Sd tc t u):=by
 kcj_m;refine wpAny_If (jM (hc pins s σ H _ I h) λd g ⟨H1,I1,f⟩=>?_)
 cases d with
 | true=>exact J pins g σ H1 D I1 f
 | false=>exact hb pins g σ H1 D I1 f
abbrev Nl:TS:=λ_ _ _=>False
def F1:PS X st Nl:=λ_ _ _ _ _ _ h=>h.elim
end
meta abbrev TG:=V->St->Hp->(St->Hp->Prop)->Prop
meta abbrev Lx:=List V->St->Hp->(St->Hp->Prop)->Prop
abbrev PG (X:Cx)(J:aA)(t:TG):Prop:=
 ∀(pins:bj) (s:az) (σ:St) (H:Hp) (v:V) (u:aa) (Q:St->Hp->Prop),Inv X pins σ H s->RelV v u->t v σ H Q ->
  wpAny (model X.prog X.w) X.A (assign J X.env u) (λ_ s'=>∃d H',Inv X pins d H' s'/\Q d H') X.xe s
abbrev Qz (X:Cx)(ts:List aA)(t:Lx):Prop:=
 ∀(pins:bj) (s:az) (σ:St) (H:Hp) (f:List V) (us:ap) (Q:St->Hp->Prop),Inv X pins σ H s->Vals f us->t f σ H Q ->
  wpAny (model X.prog X.w) X.A (assignInOrder ((assignEach ts X.env).map (·.2)) us) (λ_ s'=>∃d H',Inv X pins d H' s'/\Q d H') X.xe s
meta abbrev HZ:=V->V->V->Hp->(Hp->Prop)->Prop
abbrev Gd (X:Cx)(t:HZ):Prop:=
 ∀(pins:bj) (s:az) (σ:St) (H:Hp) (o i v:V) (d f u:aa) (Q:Hp->Prop),Inv X pins σ H s->RelV o d->RelV i f->RelV v u->t o i v H Q ->
  wpAny (model X.prog X.w) X.A (setItem d f u) (λ_ s'=>∃H',Inv X pins σ H' s'/\Q H') X.xe s
meta abbrev OV:=V->V->Hp->VK->Prop
abbrev QH (X:Cx)(J:Operator)(t:OV):Prop:=
 ∀(pins:bj) (s:az) (σ:St) (H:Hp) (x y:V) (v u:aa) (Q:VK),Inv X pins σ H s->RelV x v->RelV y u->t x y H Q ->
  wpAny (model X.prog X.w) X.A (inplaceOp J v u) (EP X pins σ Q) X.xe s
section
variable {X:Cx}{pos:Pos}
abbrev Gj (i:Nat):TG:=λv σ H Q=>Q (σ.set i<|some v) H
def Cs{i:Nat}{x:Str}(J:X.N.Nodup)(hi:X.N[i]?=some x)(hx:Loc X.env.scope x)(hf:X.fn x=true\/X.env.scope.names.lookup x=some .local<|>γ):PG X (.Name x pos) (Gj i):=by
 intro pins s σ H v u Q I r h;exact wpAny_assign_Name<|uO I J hi hx r (λs' d=>⟨_,H,d,h⟩) hf
abbrev Sn:Lx:=λd σ H Q=>d=[]/\Q σ H
abbrev Qq (t:TG)(u:Lx):Lx:=λf σ H Q=>∃v r,f=v::r/\t v σ H λd H'=>u r d H' Q
def JV:Qz X [] Sn:=by
 intro pins s σ H d us Q I r h;obtain⟨e,h⟩:=h;subst e
 cases r
 exact assignInOrder_nil ⟨σ,H,I,h⟩
def Ho{t:TG}{u:Lx}(h1:PG X e t)(J:Qz X es u)
  (hs:(assignEach (e::es) X.env).map (·.2)=assign e X.env::(assignEach es X.env).map (·.2)<|>θ):Qz X (e::es) (Qq t u):=by
 intro pins s σ H k us Q I r h;obtain⟨v,m,e1,h⟩:=h;subst e1
 cases r with
 | cons r f=>
  rw[hs];refine assignInOrder_cons<|jM (h1 pins s σ H _ _ _ I r h) λ_ j ⟨d,H1,I1,g⟩=>?_;exact J pins j d H1 _ _ Q I1 f g
abbrev Sj (K:aq)(n:Nat)(t:Lx):TG:=λv σ H Q=>∃a xs,v=.ref a/\mZ K H a xs/\xs.length=n/\t xs σ H Q
def NG{k:Nat}{t:Lx}{n:Nat}(hc:X.calm=true)(h:Qz X es t)
  (hn:(assignEach es X.env).length=n<|>θ) (J:(assignEach es X.env).findIdx? (·.1)=none<|>θ):PG X (.Tuple es k pos) (Sj X.K n t):=by
 intro pins s σ H v u Q I r hw;obtain⟨a,xs,e1,m,f,hw⟩:=hw;subst e1
 cases r
 obtain⟨p,d,j,q⟩:=I.tuple m;refine assign_Tuple_tuple (I.ok.hd hc) j (by simp[hn,<- f,d.length]) J λh' g=>?_;have I1:Inv X pins σ H { s with heap:=h' }:=I.kept (t':=s.toks) λb o e=>g b o (bK<|bq e) e;exact h pins _ σ H xs _ Q I1 (by simpa using d) hw
abbrev Rf (to J:TE)(t:HZ):TG:=λv σ H Q=>to σ H λo H1=>J σ H1 λi H2=>t o i v H2 λd=>Q σ d
def Ft{to J:TE}{t:HZ}(ho:PE X o to)(hi:PE X i J)(hs:Gd X t)
  (ha:(∀v,assign (.Subscript o i pos) X.env v=(do
   let ov <- holding [v] (eval o X.env)
   let iv <- holding [v,ov] (eval i X.env)
   standAt pos
   holding [v,ov,iv] (setItem ov iv v)
   release [v,ov,iv] []))<|>ι):PG X (.Subscript o i pos) (Rf to J t):=by
 intro pins s σ H v u Q I r h;rw[ha];refine aH<|di<|jM (ho pins s σ H _ I h) λov m ⟨x,H1,I1,r1,k⟩=>?_;refine aH<|di<|jM (hi pins m σ H1 _ I1 k) λiv q ⟨y,H2,g,r2,f⟩=>?_;refine aH<|dS<|aH<|di<|jM (hs pins q σ H2 x y v ov iv u _ g r1 r2 r f) λ_ z ⟨p,j,d⟩=>?_;exact wpAny_release ⟨σ,p,j,d⟩
abbrev J5 (te:TE)(g:TG):TS:=λD σ H=>te σ H λx H1=>g x σ H1 D.nx
def M9{tg:aA}{te:TE}{g:TG}(J:PE X e te)(hg:PG X tg g)(hs:swapsWithSole [tg] e pos.line X.env=pure false<|>θ)(hw:swappedStores [tg] e X.env=pure none<|>θ)
  (h1:(assignEach [tg] X.env).map (·.2)=[assign tg X.env]<|>θ):PS X (.Assign [tg] e pos) (J5 te g):=by
 kcj_m;refine wpAny_Assign_stores (jM (J pins s σ H _ I h) λv f ⟨x,H1,I1,r1,d⟩=>?_) hs hw;rw[h1];exact jM (hg pins f σ H1 x v _ I1 r1 d) λ_ j q=>q
def M0{i:Nat}{x:Str}{te:TE}(J:X.N.Nodup)(hi:X.N[i]?=some x)(hx:Loc X.env.scope x)(he:PE X e te)(hs:(swapsWith e (some<|.Name x pos') pos.line X.env=pure false)<|>θ)(hf:X.fn x=true\/X.env.scope.names.lookup x=some .local<|>γ) :
  PS X (.Assign [.Name x pos'] e pos) (J5 te<|Gj i):=by
 kcj_m;refine wpAny_Assign_Name (jM (he pins s σ H _ I h) λv g ⟨y,H1,I1,r1,f⟩=>?_) hs;exact uO I1 J hi hx r1 (λj d=>⟨_,H1,d,f⟩) hf
abbrev RG (i:Nat)(te:TE)(J:OV):TS:=λD σ H=>∃x,σ[i]?=some (some x)/\te σ H λy H1=>J x y H1 λz H2=>D.nx (σ.set i<|some z) H2
def Nm{i:Nat}{x:Str}{te:TE}{ti:OV}(hN:X.N.Nodup)(hi:X.N[i]?=some x)(hx:Loc X.env.scope x)(he:PE X e te)(ho:QH X op ti)(hf:X.fn x=true\/X.env.scope.names.lookup x=some .local<|>γ) :
  PS X (.AugAssign (.Name x pos') op e pos) (RG i te ti):=by
 kcj_m;obtain⟨v,e1,h⟩:=h;obtain⟨m,hn,J⟩:=I.loc;have p:OO X.env.scope x:=by rcases hx with k|k;exact .inl k;exact .inr (.inl k)
 obtain⟨u,r,l⟩:=J i x v hi e1 p;refine wpAny_AugAssign_Name ?_;have q:wpAny (model X.prog X.w) X.A (eval e X.env) (λw g=>wpAny (model X.prog X.w) X.A (inplaceOp op u w) (λr j=>wpAny (model X.prog X.w) X.A (storeName X.env x r) (λ_=>SP X pins D .next) X.xe j) X.xe g) X.xe s:=by
  refine jM (he pins s σ H _ I h) λw L ⟨y,H1,I1,r1,K⟩=>?_;refine jM (ho pins L σ H1 v y u w _ I1 r r1 K) λz P ⟨M,H2,F,r2,C⟩=>?_;exact uO F hN hi hx r2 (λO G=>⟨_,H2,G,C⟩) hf
 rcases l with⟨d,B⟩|⟨d,c,hc,f⟩
 ·exact wpAny_loadName_local I.ok.kind d hn B q
 ·rcases d with d|d
  ·exact wpAny_loadName_cell I.ok.kind d hc f q
  ·rcases hx with k|k
   ·have:X.env.scope.names.lookup x=some .free:=d;rw[k]at this;cases this
   ·have:X.env.scope.names.lookup x=some .free:=d;rw[k]at this;cases this
abbrev T9 (f:Int->Int->Int):OV:=λx y H Q=>∃i j,x=.int i/\y=.int j/\Q (.int<|f i j) H
def OD:QH X .Add (T9 λi j=>i+j):=by
 intro pins s σ H x y v u Q I r1 r2 h;obtain⟨i,j,e1,e2,q⟩:=h;subst e1;subst e2;obtain⟨t,rfl⟩:=r1;obtain⟨d,rfl⟩:=r2;exact iadd_int ⟨.int _,H,I.tok _,⟨_,rfl⟩,q⟩
end
section
variable {X:Cx}{pos:Pos}
abbrev EK (c:TT)(tb:TS):TS:=λD σ H=>∃W:Nat->St->Hp->Prop,(∃m,W m σ H)/\∀m σ H,W m σ H ->
 c σ H λb H1=>if b=true then ∃N:St->Hp->Prop,(∀d H',N d H'->∃f,f<m/\W f d H')/\tb { D with nx:=N,ct:=N,bk:=D.nx } σ H1 else D.nx σ H1
def F2{tc:TT}{tb:TS}(hp:PassesOwn (model X.prog X.w) X.A X.env X.xe)(hc:PT X c tc)(hb:xF X body tb):PS X (.While c body [] pos) (EK tc tb):=by
 kcj_m;obtain⟨W,⟨O,K⟩,turn⟩:=h;refine wpAny_While<|codeAny_whileLoop (λn s'=>∃j H',Inv X pins j H' s'/\W n j H') ?_ O ⟨σ,H,I,K⟩;rintro n L ⟨g,H1,I1,M⟩;refine d7 hp (jM (hc pins L g H1 _ I1<|turn n g H1 M) λb P ⟨H2,J,p⟩=>?_)
 cases b with
 | true=>
  obtain⟨N,G,p⟩:=p;rw[aN rfl];refine d7 hp (jM (hb pins P g H2 _ J p) λf T m=>?_)
  cases f with
  | next=>
   obtain⟨d,k,z,C⟩:=m;obtain⟨F,q,B⟩:=G d k C;exact⟨F,q,d,k,z,B⟩
  | cont=>
   obtain⟨d,k,z,C⟩:=m;obtain⟨F,q,B⟩:=G d k C;exact⟨F,q,d,k,z,B⟩
  | brk=>exact m
  | ret v=>exact m
 | false=>
  rw[aO bN];exact gI ⟨g,H2,J,p⟩
end
structure It where
 go:Nat->Hp->Prop
 yld:Nat->Hp->V->Hp->Prop
 stop:Nat->Hp->Prop
abbrev pJ (X:Cx)(pins:bj)(H:Hp)(b:aj):Prop:=
 H b=none/\b≠X.env.locals/\b∉X.fs/\(b∈X.ex\/X.s₀.heap.objs.size<=b)/\(∀x c,X.env.cells.lookup x=some c->c≠b)/\∀p∈X.pn++pins,p.1≠b
def Inv.w_{H H':Hp}{s:az}(I:Inv X pins σ H s)(J:s.heap.objs.size<=b)(hn:H' b=none):pJ X pins H' b:=by
 refine⟨hn,ne_of_gt<|bP I.lt J,I.QU J,.inr<|bH I.sz J,λx c e z=>?_,λp d z=>?_⟩
 ·obtain⟨v,q⟩:=I.cell x c e;exact absurd (bP q.lt<|by rw[z];exact J) (eX _)
 ·exact absurd (bP (bq (I.pin p d).1)<|by rw[z];exact J)<|eX _
structure Turn (P:ah)(w:af)(K:aq)(tg:aA)(J:It)(fp:ar)(it:aj)(tn:Nat->ak->Prop):Prop where
 mem:it∈fp
 obj:∀i h,tn i h->∀b∈fp,∃o,h.get? b=some o/\∀v,o.data≠.cell v
 keep:∀i h h',tn i h->(∀b∈fp,∀o,h.get? b=some o->h'.get? b=some o)->tn i h'
 item:∀(X:Cx),X.prog=P->X.w=w->X.K=K->X.calm=true->∀(i:Nat) (pins:bj) (s:az) (σ:St) (H:Hp) (E:aa->az->Prop),Inv X pins σ H s->(∀b∈fp,pJ X pins H b)->tn i s.heap->J.go i H ->
  wpAny (model P w) X.A (pyNext<|.ref it) (λr s1=>∃u,r=some u /\
   wpAny (model P w) X.A (letOwnedTupleGo tg (.ref it) u) (λ_ s2=>∃x H',Inv X pins σ H' s2/\RelV x u/\J.yld i H x H'/\tn (i+1) s2.heap/\∀b∈fp,H' b=none) E s1) E s
 done:∀(X:Cx),X.prog=P->X.w=w->X.K=K->X.calm=true->∀(i:Nat) (pins:bj) (s:az) (σ:St) (H:Hp) (E:aa->az->Prop),Inv X pins σ H s->(∀b∈fp,pJ X pins H b)->tn i s.heap->J.stop i H ->
  wpAny (model P w) X.A (pyNext<|.ref it) (λr s1=>r=none/\Inv X pins σ H s1) E s
 self:∀(A:au) (i:Nat) (s:az) (Q:aa->az->Prop) (E:aa->az->Prop),tn i s.heap->Q (.ref it) s->wpAny (model P w) A (pyIter<|.ref it) Q E s
meta abbrev TI:=St->Hp->(It->Hp->Prop)->Prop
abbrev Rk (X:Cx)(pins:bj)(σ:St)(tg:aA)(R:It->Hp->Prop)(itv:aa)(s2:az):Prop:=
 ∃(it:aj) (f:ar) (d:Nat->ak->Prop) (J:It) (H':Hp),itv=.ref it/\Inv X pins σ H' s2/\Turn X.prog X.w X.K tg J f it d/\d 0 s2.heap/\(∀b∈f,pJ X pins H' b)/\R J H'
abbrev PI (X:Cx)(tg iter:aA)(J:TI):Prop:=
 ∀(pins:bj) (s:az) (σ:St) (H:Hp) (R:It->Hp->Prop),Inv X pins σ H s->J σ H R ->
  wpAny (model X.prog X.w) X.A (eval iter X.env) (λv d=>wpAny (model X.prog X.w) X.A (pyIter v) (Rk X pins σ tg R) X.xe d) X.xe s
def vY{A:au}{E:aa->az->Prop}{s:az}{o:Obj}{n:String}{Q:Unit->az->Prop}(ho:s.heap.get? it=some o)(hc:o.cls=.type n)(hd:o.data=.fields vs)
  (hn:["enumerate", "zip", "dict_itemiterator", "dict_reverseitemiterator", "odict_iterator", "itertools.zip_longest", "itertools.pairwise"].contains n=false) (J:Q Unit.unit s):wpAny M A (letOwnedTupleGo tg (.ref it) u) Q E s:=by
 unfold letOwnedTupleGo
 cases tg<;>first
  | exact aW J
  | (cases u<;>first
    | exact aW J
    | (refine aH (wpAny_load ho ?_)
       rw[hc,hd];show wpAny M A (if (["enumerate", "zip", "dict_itemiterator", "dict_reverseitemiterator", "odict_iterator", "itertools.zip_longest", "itertools.pairwise"].contains n && vs[0]? == some (rawInt _))=true then _ else _) Q E s;rw[aO<|by intro h;rw[hn,Bool.false_and]at h;cases h];exact aW J))
abbrev QM (K:aq)(a:aj):It:=
 ⟨λi H=>∃xs x,kJ K H a xs/\xs[i]?=some x,λi H x H'=>H'=H/\∀xs,kJ K H a xs->xs[i]?=some x,λi H=>∃xs,kJ K H a xs/\xs.length<=i⟩
abbrev RV (K:aq)(a:aj):It:=
 ⟨λi H=>∃xs x,mZ K H a xs/\xs[i]?=some x,λi H x H'=>H'=H/\∀xs,mZ K H a xs->xs[i]?=some x,λi H=>∃xs,mZ K H a xs/\xs.length<=i⟩
abbrev QN (lo:Int)(n:Nat):It:=⟨λi _=>i<n,λi H x H'=>H'=H/\x=.int (lo+i),λi _=>n<=i⟩
def DJ{P:ah}{w:af}{K:aq}(a it:aj):Turn P w K tg (QM K a) [it] it (λi h=>h.IsListIter it a i) where
 mem:=by simp
 obj:=λi h st b f=>by
  have e:b=it:=by simpa using f
  subst e;obtain⟨o,e,c,d⟩:=st;exact⟨o,e,λv z=>by rw[d]at z;cases z⟩
 keep:=λi h h' st k=>st.at λo e=>k it (by simp) o e
 item:=by
  room;subst hP hw hK;obtain⟨xs,x,j,m⟩:=hg;obtain⟨B,q,p,G⟩:=I.list j;obtain⟨u,F,C⟩:=q.get m;w_up;refine wpAny_pyNext_list_item st p.isList (x:=u) (by simpa using F) λh' g J=>?_;have I1:Inv X pins σ H { s with heap:=h' }:=I.turned (t':=s.toks) (λb o f e=>(J.2 b f).trans e) f0 f1 f3 f4 f5;obtain⟨o,e,c,d⟩:=id g;exact⟨u,rfl,vY (s:={ s with heap:=h' }) e c d ⋯ ⟨x,H,I1,C,⟨rfl,λys hy=>by rw[I.um hy j];exact m⟩,g,λb f=>(hf b f).1⟩⟩
 done:=by
  room;subst hP hw hK;obtain⟨xs,j,m⟩:=hg;obtain⟨B,q,p,G⟩:=I.list j;w_up;have M:=q.length;exact wpAny_pyNext_list_end (I.ok.hd hc) st p.isList (by simp;omega) λh' L=>⟨rfl,I.turned (t':=s.toks) (λb o f e=>L b o f e) f0 f1 f3 f4 f5⟩
 self:=λ_ _ _ _ _ st h=>wpAny_pyIter_listiter st h
def AD{P:ah}{w:af}{K:aq}(a it:aj):Turn P w K tg (RV K a) [it] it (λi h=>h.IsTupleIter it a i) where
 mem:=by simp
 obj:=λi h st b f=>by
  have e:b=it:=by simpa using f
  subst e;obtain⟨o,e,c,d⟩:=st;exact⟨o,e,λv z=>by rw[d]at z;cases z⟩
 keep:=λi h h' st k=>st.at λo e=>k it (by simp) o e
 item:=by
  room;subst hP hw hK;obtain⟨xs,x,m,q⟩:=hg;obtain⟨g,B,p,G⟩:=I.tuple m;obtain⟨u,F,C⟩:=B.get q;w_up;refine wpAny_pyNext_tuple_item st (show s.heap.IsTuple a g.toArray from p) (x:=u) (by simpa using F) λh' j J=>?_;have I1:Inv X pins σ H { s with heap:=h' }:=I.turned (t':=s.toks) (λb o f e=>(J.2 b f).trans e) f0 f1 f3 f4 f5;obtain⟨o,e,c,d⟩:=id j;exact⟨u,rfl,vY (s:={ s with heap:=h' }) e c d ⋯ ⟨x,H,I1,C,⟨rfl,λys hy=>by rw[I.vQ hy m];exact q⟩,j,λb f=>(hf b f).1⟩⟩
 done:=by
  room;subst hP hw hK;obtain⟨xs,m,q⟩:=hg;obtain⟨g,B,p,G⟩:=I.tuple m;w_up;have M:=B.length;exact wpAny_pyNext_tuple_end (I.ok.hd hc) st (show s.heap.IsTuple a g.toArray from p) (by simp;omega) λh' L=>⟨rfl,I.turned (t':=s.toks) (λb o f e=>L b o f e) f0 f1 f3 f4 f5⟩
 self:=λ_ _ _ _ _ st h=>wpAny_pyIter_tupleiter st h
def A1{P:ah}{w:af}{K:aq}(it:aj)(lo:Int)(n:Nat):Turn P w K tg (QN lo n) [it] it (λi h=>IsRangeIter h it (lo+(i:Nat) * 1) ((n:Int)-(i:Nat)) 1) where
 mem:=by simp
 obj:=λi h st b d=>by
  have e:b=it:=by simpa using d
  subst e;exact⟨_,st,λv z=>by
   have m:Data.fields _=Data.cell v:=z
   cases m⟩
 keep:=λi h h' st k=>k it (by simp) _ st
 item:=by
  room;subst hP hw hK;w_up;have W:=Walks.range (prog:=X.prog) (w:=X.w) (I.ok.hd hc) it lo 1 n;refine W.item i s _ _ hg st λv h' g hv f j=>?_;obtain⟨t,rfl⟩:=hv;have I1:Inv X pins σ H { s with heap:=h',toks:=g }:=I.turned (λb o d e=>j b o (by simpa using d) e) f0 f1 f3 f4 f5;refine⟨_,rfl,vY (s:={ s with heap:=h',toks:=g }) (n := "range_iterator") f rfl rfl ⋯ ⟨.int<|lo+i,H,I1,⟨t,?_⟩,⟨rfl,rfl⟩,f,λb d=>(hf b d).1⟩⟩;rw[Int.mul_one]
 done:=by
  room;subst hP hw hK;w_up;exact wpAny_pyNext_range_end (I.ok.hd hc) st (by have:n<=i:=hg;lia) λh' p=>⟨rfl,I.turned (t':=s.toks) (λb o d e=>p b o d e) f0 f1 f3 f4 f5⟩
 self:=λ_ _ _ _ _ st h=>wpAny_pyIter_rangeiter st h
section
variable {X:Cx}{tg:aA}
abbrev Pb (K:aq)(tl:TE):TI:=λσ H R=>tl σ H λx H1=>∃a,x=.ref a/\(∃xs,kJ K H1 a xs)/\R (QM K a) H1
abbrev Ro (K:aq)(tl:TE):TI:=λσ H R=>tl σ H λx H1=>∃a,x=.ref a/\(∃xs,mZ K H1 a xs)/\R (RV K a) H1
def BV{tl:TE}(J:PE X l tl):PI X tg l (Pb X.K tl):=by
 intro pins s σ H R I h;refine jM (J pins s σ H _ I h) λv d ⟨x,H1,I1,r1,g⟩=>?_;obtain⟨a,e,⟨xs,j⟩,q⟩:=g;subst e
 cases r1
 obtain⟨k,z,p,m⟩:=I1.list j;refine wpAny_pyIter_list p.isList ?_;refine⟨d.heap.objs.size,[d.heap.objs.size],_,_,H1,rfl,I1.kept (t':=d.toks) λb o e=>aS _ e,DJ a _,⟨_,bI _ rfl,rfl,rfl⟩,λb f=>?_,q⟩;have e:b=d.heap.objs.size:=by simpa using f
 subst e;kcf_m
def HC{tl:TE}(J:PE X l tl):PI X tg l (Ro X.K tl):=by
 intro pins s σ H R I h;refine jM (J pins s σ H _ I h) λv d ⟨x,H1,I1,r1,j⟩=>?_;obtain⟨a,e,⟨xs,k⟩,q⟩:=j;subst e
 cases r1
 obtain⟨f,z,p,m⟩:=I1.tuple k;refine wpAny_pyIter_tuple (show d.heap.IsTuple a f.toArray from p) ?_;refine⟨d.heap.objs.size,[d.heap.objs.size],_,_,H1,rfl,I1.kept (t':=d.toks) λb o e=>aS _ e,AD a _,⟨_,bI _ rfl,rfl,rfl⟩,λb g=>?_,q⟩;have e:b=d.heap.objs.size:=by simpa using g
 subst e;kcf_m
def Hg{H:Hp}{s:az}{R:It->Hp->Prop}{E:aa->az->Prop}{lo hi:Int}{t v:Tok}{tk:Nat}(I:Inv X pins σ H s)(h1:-(2 ^ 62)<=lo)(J:lo<2 ^ 62)(h3:-(2 ^ 62)<=hi)(h4:hi<2 ^ 62)
  (q:R (QN lo (hi-lo).toNat) H):wpAny (model X.prog X.w) X.A (pyIter<|.ref s.heap.objs.size) (Rk X pins σ tg R) E { s with heap:=s.heap.push { cls:=.type "range",data:=.fields #[.int lo t,.int hi u,.int 1 v]},toks:=tk }:=by
 refine wpAny_pyIter_range (IsRange.new ..) (small_one h1 J h3 h4) ?_;have I1:Inv X pins σ H { s with heap:=s.heap.push { cls:=.type "range",data:=.fields #[.int lo t,.int hi u,.int 1 v]},toks:=tk }:=I.kept λb o e=>aS _ e;refine⟨(s.heap.push { cls:=.type "range",data:=.fields #[.int lo t,.int hi u,.int 1 v]}).objs.size,[(s.heap.push { cls:=.type "range",data:=.fields #[.int lo t,.int hi u,.int 1 v]}).objs.size],_,_,H,rfl,
  I1.kept (t':=tk) λb o e=>aS _ e,A1 _ lo (hi-lo).toNat,?_,λb d=>?_,q⟩
 ·have e1:lo+((0:Nat):Int) * 1=lo:=by simp
  have e2:(((hi-lo).toNat:Nat):Int)-((0:Nat):Int)=Builtin.Range.rangeSize lo hi 1:=by rw[rangeSize_one];split<;>lia
  skip
  rw[e1,e2];exact bI _ rfl
 ·have e:b=(s.heap.push { cls:=.type "range",data:=.fields #[.int lo t,.int hi u,.int 1 v]}).objs.size:=by simpa using d
  subst e;kcf_m
abbrev n6 (ta:TA):TI:=λσ H R=>ta σ H λd H1=>∃j:Int,d=[.int j]/\-(2 ^ 62)<=j/\j<2 ^ 62/\R (QN 0 j.toNat) H1
def DR{a:aA}{ta:TA}{p:Pos}(hg:Gl X "range")(J:X.mg "range" = none)(ha:PA X [a] ta)(hs:starEach [a] X.env=[(false,eval a X.env)]<|>θ):PI X tg (.Call (.Name "range" p) [a] [] pos) (n6 ta):=by
 intro pins s σ H R I h;refine Call_<|rE I hg J boot_range<|c7 (jM (ha pos pins s σ H _ I h) λus m ⟨k,H1,I1,r1,d⟩=>?_) hs rfl;obtain⟨j,e,d,f,q⟩:=d;subst e
 cases r1 with
 | cons r g=>
  cases g
  obtain⟨t,rfl⟩:=r;exact call_range_1<|Hg I1 () () d f<|by simpa using q
abbrev RL (wi:TI)(g:TG)(tb:TS):TS:=λD σ H=>wi σ H λJ H1=>∃W:Nat->Nat->St->Hp->Prop,(∃m,W 0 m σ H1)/\∀i m σ H,W i m σ H ->
 (J.stop i H/\D.nx σ H)\/(J.go i H/\∃N:St->Hp->Prop,(∀d H',N d H'->∃j,j<m/\W (i+1) j d H')/\∀x H',J.yld i H x H'->g x σ H' λf H2=>tb { D with nx:=N,ct:=N,bk:=D.nx } f H2)
abbrev qe (fp:ar)(h:ak):bj:=fp.filterMap λb=>(h.get? b).map λo=>(b,o)
def jS{fp:ar}{h:ak}{b:aj}(J:b∈fp)(e:h.get? b=some o):(b,o)∈qe fp h:=List.mem_filterMap.mpr ⟨b,J,by rw[e];rfl⟩
def Er{fp:ar}{h:ak}{p:aj×Obj}(J:p∈qe fp h):p.1∈fp/\h.get? p.1=some p.2:=by
 obtain⟨b,d,e⟩:=List.mem_filterMap.mp J
 cases q:h.get? b with
 | none=>rw[q]at e;cases e
 | some o=>
  rw[q]at e;have f:(b,o)=p:=aU e;subst f;exact⟨d,q⟩
def Inv.pinned{H:Hp}{s:az}{fp:ar}(I:Inv X pins σ H s)(hf:∀b∈fp,pJ X pins H b)(J:∀b∈fp,∃o,s.heap.get? b=some o/\∀v,o.data≠.cell v):Inv X (pins++qe fp s.heap) σ H s:=
 I.Cr λp j=>(aV.mp j).elim (λz=>I.pin p<|bh _ z) λz=>by
  obtain⟨g,e⟩:=Er z;obtain⟨f0,f1,f2,_⟩:=hf p.1 g;obtain⟨o,f,d⟩:=J p.1 g;rw[e]at f;cases f;exact⟨e,f0,f1,f2,d⟩
def Inv.nj{H:Hp}(I:Inv X (pins++pl) σ H s):Inv X pins σ H s:=I.Cr λp d=>I.pin p<|bh _<|cY _ d
def MG{iter:aA}{wi:TI}{g:TG}{tb:TS}(hp:PassesOwn (model X.prog X.w) X.A X.env X.xe)(hc:X.calm=true)(hi:PI X tg iter wi)(hg:PG X tg g)(hb:xF X body tb)
  (hs:(∀x,foldedSetIterable iter X.env x=pure x)<|>ι):PS X (.For tg iter body [] pos) (RL wi g tb):=by
 kcj_m;refine wpAny_For (jM (hi pins s σ H _ I h) λv s1 h1=>jM h1 λitv s2 h2=>?_) hs;obtain⟨it,M,tn,J,H2,e,I2,T,Z,f2,W,⟨m0,w0⟩,turn⟩:=h2;subst e;have q:∀{H':Hp},(∀b∈M,H' b=none)->∀b∈M,pJ X pins H' b:=λhn b hb=>⟨hn b hb,(f2 b hb).2⟩;refine codeAny_forLoop_any (λn s'=>∃i B H',Inv X pins B H' s'/\tn i s'.heap/\(∀b∈M,H' b=none)/\W i n B H') ?_ m0 ⟨0,σ,H2,I2,Z,λb hb=>(f2 b hb).1,w0⟩;rintro n s3 ⟨i,p,P,I3,G,O,w3⟩
 rcases turn i n p P w3 with⟨K,qn⟩|⟨go,N,hN,step⟩
 ·refine d7 hp<|jM (T.done X rfl rfl rfl hc i pins s3 p P X.xe I3 (q O) G K) λr s4 ⟨U,I4⟩=>?_;subst U;exact gI ⟨p,P,I4,qn⟩
 ·refine d7 hp<|jM (T.item X rfl rfl rfl hc i pins s3 p P X.xe I3 (q O) G go) λr s4 ⟨u,U,h4⟩=>?_;subst U;refine d7 hp<|jM h4 λ_ s5 ⟨x,H5,I5,r5,y5,F,Y⟩=>?_;have I5':=I5.pinned (q Y)<|T.obj _ _ F;refine d7 hp<|jM (hg _ s5 p H5 x u _ I5' r5<|step x H5 y5) λ_ s6 ⟨V,H6,I6,q6⟩=>?_;refine d7 hp<|jM (hb _ s6 V H6 _ I6 q6) λf s7 C=>?_;have again:∀{j:St} {k:Hp},Inv X (pins++qe M s5.heap) j k s7->N j k->∃m,m<n/\∃i B H',Inv X pins B H' s7/\tn i s7.heap/\(∀b∈M,H' b=none)/\W i m B H':=λ{j k} z L=>by
   obtain⟨m',hm,w7⟩:=hN j k L;refine⟨m',hm,i+1,j,k,z.nj,T.keep _ _ _ F λb hb o e=>(z.pin (b,o)<|bh _<|bh _<|jS hb e).1,λb hb=>?_,w7⟩;obtain⟨o,e,d⟩:=T.obj _ _ F b hb;exact(z.pin (b,o)<|bh _<|bh _<|jS hb e).2.1
  cases f with
  | next=>obtain⟨j,k,z,L⟩:=C;exact again z L
  | cont=>obtain⟨j,k,z,L⟩:=C;exact again z L
  | brk=>obtain⟨j,k,z,C⟩:=C;exact⟨j,k,z.nj,C⟩
  | ret v=>obtain⟨x7,j,k,z,r7,C⟩:=C;exact⟨x7,j,k,z.nj,r7,C⟩
end
def pA{c:TT}{tb:TS}{D:Ends}{H:Hp}(J:St->Hp->Prop)(μ:St->Hp->Nat)(h0:J σ H)
  (hs:∀σ H,J σ H->c σ H λb H1=>if b=true then tb { D with nx:=λσ' H'=>J σ' H'/\μ σ' H'<μ σ H,ct:=λσ' H'=>J σ' H'/\μ σ' H'<μ σ H,bk:=D.nx } σ H1 else D.nx σ H1)
  (mono:∀σ H Q Q',(∀b H1,Q b H1->Q' b H1)->c σ H Q->c σ H Q'):EK c tb D σ H:=by
 refine⟨λm σ H=>m=μ σ H/\J σ H,⟨_,rfl,h0⟩,?_⟩;rintro m σ H ⟨rfl,p⟩;refine mono σ H _ _ (λb H1 q=>?_) (hs σ H p)
 cases b with
 | true=>exact⟨_,λσ' H' ⟨d,l⟩=>⟨_,l,rfl,d⟩,q⟩
 | false=>exact q
meta abbrev R2:=V->V->Hp->VK->Prop
abbrev ly (X:Cx)(f:aa->aa->Sem aa)(r:R2):Prop:=
 ∀(pins:bj) (s:az) (σ:St) (H:Hp) (x y:V) (v u:aa) (Q:VK),Inv X pins σ H s->RelV x v->RelV y u->r x y H Q ->
  wpAny (model X.prog X.w) X.A (f v u) (EP X pins σ Q) X.xe s
abbrev QO (X:Cx)(f:aa->Sem aa)(r:V->Hp->VK->Prop):Prop:=
 ∀(pins:bj) (s:az) (σ:St) (H:Hp) (x:V) (v:aa) (Q:VK),Inv X pins σ H s->RelV x v->r x H Q ->
  wpAny (model X.prog X.w) X.A (f v) (EP X pins σ Q) X.xe s
abbrev jo (X:Cx)(f:aa)(r:List V->Hp->VK->Prop):Prop:=
 ∀(pins:bj) (s:az) (σ:St) (H:Hp) (xs:List V) (us:ap) (Q:VK),Inv X pins σ H s->Vals xs us->r xs H Q ->
  wpAny (model X.prog X.w) X.A (call f us) (EP X pins σ Q) X.xe s
abbrev Q_ (X:Cx)(r:V->Hp->(Bool->Hp->Prop)->Prop):Prop:=
 ∀(pins:bj) (s:az) (σ:St) (H:Hp) (x:V) (v:aa) (Q:Bool->Hp->Prop),Inv X pins σ H s->RelV x v->r x H Q ->
  wpAny (model X.prog X.w) X.A (truthy v) (TP X pins σ Q) X.xe s
abbrev PD (r:R2)(ta tb:TE):TE:=λσ H Q=>ta σ H λx H1=>tb σ H1 λy H2=>r x y H2 Q
abbrev SJ (r:V->Hp->VK->Prop)(ta:TE):TE:=λσ H Q=>ta σ H λx H1=>r x H1 Q
abbrev rI (C:Int->Int->Prop)(g:Int->Int->V):R2:=λx y H Q=>∃i j,x=.int i/\y=.int j/\C i j/\Q (g i j) H
abbrev L7 (g:Int->Int->V):R2:=λx y H Q=>∃i j,x=.int i/\y=.int j/\Q (g i j) H
abbrev rU (g:Int->V):V->Hp->VK->Prop:=λx H Q=>∃i,x=.int i/\Q (g i) H
section
variable {X:Cx}{a b:aA}{ta tb:TE}{pos:Pos}
def Mw(J:PE X a ta)(hb:PE X b tb){H:Hp}{R:V->V->Hp->Prop}(I:Inv X pins σ H s)
  (h:ta σ H λx H1=>tb σ H1 λy H2=>R x y H2) {Q:aa->az->Prop} {f:aa->aa->Sem aa}
  (hf:∀v u s2 x y H2,Inv X pins σ H2 s2->RelV x v->RelV y u->R x y H2->wpAny (model X.prog X.w) X.A (f v u) Q X.xe s2) :
  wpAny (model X.prog X.w) X.A (eval a X.env) (λv s₁=>wpAny (model X.prog X.w) X.A (eval b X.env) (λu s₂=>wpAny (model X.prog X.w) X.A (f v u) Q X.xe s₂) X.xe s₁) X.xe s:=by
 refine jM (J pins s σ H _ I h) λv k ⟨x,H1,I1,r1,j⟩=>?_;refine jM (hb pins k σ H1 _ I1 j) λu s2 ⟨y,H2,g,r2,d⟩=>?_;exact hf v u s2 x y H2 g r1 r2 d
def O_{r:R2}(J:ly X (binaryOp op) r)(ha:PE X a ta)(hb:PE X b tb):PE X (.BinOp a op b pos) (PD r ta tb):=by
 k_ne;exact wpAny_BinOp<|Mw ha hb I h λv u f x y H2 d rx ry q=>J pins f σ H2 x y v u Q d rx ry q
def PJ{r:V->Hp->VK->Prop}(J:QO X (unaryOp op) r)(ha:PE X a ta):PE X (.UnaryOp op a pos) (SJ r ta):=by
 k_ne;exact UnaryOp_<|jM (ha pins s σ H _ I h) λv f ⟨x,H1,I1,r1,d⟩=>J pins f σ H1 x v Q I1 r1 d
def QB{f:aa->aa->Sem aa}{C:Int->Int->Prop}{g:Int->Int->Int}
  (J:∀(i j:Int) (t u:Tok) (s:az) (Q:aa->az->Prop) (E:aa->az->Prop),C i j->Q (.int (g i j) s.toks) { s with toks:=s.toks+1 }->wpAny (model X.prog X.w) X.A (f (.int i t)<|.int j u) Q E s) :
  ly X f (rI C λi j=>.int<|g i j):=by
 gn_on;obtain⟨i,j,rfl,rfl,hc,q⟩:=h;kst_p;obtain⟨d,rfl⟩:=ry;exact J i j t d s _ _ hc ⟨.int<|g i j,H,I.tok _,⟨_,rfl⟩,q⟩
def Pa{f:aa->aa->Sem aa}{g:Int->Int->Int}
  (J:∀(i j:Int) (t u:Tok) (s:az) (Q:aa->az->Prop) (E:aa->az->Prop),Q (.int (g i j) s.toks) { s with toks:=s.toks+1 }->wpAny (model X.prog X.w) X.A (f (.int i t)<|.int j u) Q E s) :
  ly X f (L7 λi j=>.int<|g i j):=by
 gn_on;obtain⟨i,j,rfl,rfl,q⟩:=h;kst_p;obtain⟨d,rfl⟩:=ry;exact J i j t d s _ _ ⟨.int<|g i j,H,I.tok _,⟨_,rfl⟩,q⟩
def JX{f:aa->aa->Sem aa}{g:Int->Int->Bool}
  (J:∀(i j:Int) (t u:Tok) (s:az) (Q:aa->az->Prop) (E:aa->az->Prop),Q (.bool<|g i j) s->wpAny (model X.prog X.w) X.A (f (.int i t)<|.int j u) Q E s) :
  ly X f (L7 λi j=>.bl<|g i j):=by
 gn_on;obtain⟨i,j,rfl,rfl,q⟩:=h;kst_p;obtain⟨d,rfl⟩:=ry;exact J i j t d s _ _ ⟨.bl<|g i j,H,I,rfl,q⟩
abbrev Sk (i j:Int):Prop:=0<=j/\j<=1000000/\i.natAbs<2 ^ 64
abbrev Ko (i j:Int):Prop:=(-(2 ^ 64)<i/\i<2 ^ 64)\/(-(2 ^ 64)<j/\j<2 ^ 64)
def Ko.ok{i j:Int}(h:Ko i j):IntMulOk i j:=by
 rcases h with⟨h1,d⟩|⟨h1,d⟩
 ·exact .of_left (intBits_le_64 h1 d)
 ·exact .of_right<|intBits_le_64 h1 d
def ME:ly X (binaryOp .Add) (L7 λi j=>.int<|i+j):=Pa λ_ _ _ _ _ _ _ q=>add_int q
def Og:ly X (binaryOp .Sub) (L7 λi j=>.int<|i-j):=Pa λ_ _ _ _ _ _ _ q=>sub_int q
def Od:ly X (binaryOp .Mult) (rI Ko λi j=>.int<|i * j):=QB λ_ _ _ _ _ _ _ hc q=>mul_int q hc.ok
def N3:ly X (binaryOp .Mod) (rI (λ_ j=>0<j) λi j=>.int<|i % j):=QB λi j _ _ _ _ _ hc q=>by
 have h1:(0:Int)<j:=hc;exact mod_int' ()<|by rw[Int.fmod_eq_emod_of_nonneg i ()];exact q
def Nd:ly X (binaryOp .Pow) (rI Sk λi j=>.int<|i ^ j.toNat):=QB λ_ _ _ _ _ _ _ hc q=>pow_int_small hc.1 hc.2.1 hc.2.2 q
def T_{f:aa->Sem aa}{g:Int->Int}
  (J:∀(i:Int) (t:Tok) (s:az) (Q:aa->az->Prop) (E:aa->az->Prop),Q (.int (g i) s.toks) { s with toks:=s.toks+1 }->wpAny (model X.prog X.w) X.A (f<|.int i t) Q E s) :
  QO X f (rU λi=>.int<|g i):=by
 intro pins s σ H x v Q I rx h;obtain⟨i,rfl,q⟩:=h;kst_p;exact J i t s _ _ ⟨.int<|g i,H,I.tok _,⟨_,rfl⟩,q⟩
def N2:QO X (unaryOp .USub) (rU λi=>.int<|-i):=T_ λ_ _ _ _ _ q=>neg_int q
end
section
variable {X:Cx}{a b c:aA}{ta tb tc:TE}{pos:Pos}
def Qv:ly X (compareOp .Lt) (L7 λi j=>.bl<|decide<|i<j):=JX λ_ _ _ _ _ _ _ q=>lt_int q
def Qt:ly X (compareOp .LtE) (L7 λi j=>.bl<|decide<|i<=j):=JX λ_ _ _ _ _ _ _ q=>le_int q
def OX:ly X (compareOp .Gt) (L7 λi j=>.bl<|decide<|j<i):=JX λ_ _ _ _ _ _ _ q=>gt_int q
def Pf:ly X (compareOp .GtE) (L7 λi j=>.bl<|decide<|j<=i):=JX λ_ _ _ _ _ _ _ q=>ge_int q
def Ij(b:aA)(h:op≠.In<|>η)(J:op≠.NotIn<|>η):behindInMarks op b=false:=by
 have e1:(op == CmpOp.In)=false:=by cases op<;>first|rfl|exact absurd rfl h
 have e2:(op == CmpOp.NotIn)=false:=by cases op<;>first|rfl|exact absurd rfl J
 cases b<;>simp[behindInMarks,e1,e2]
def JQ{J:CmpOp}{r:R2}(ho:ly X (compareOp J) r)(ha:PE X a ta)(hb:PE X b tb)(hm:behindInMarks J b=false):PE X (.Compare a [J] [b] pos) (PD r ta tb):=by
 k_ne;exact wpAny_Compare1 (Mw ha hb I h λv u f x y H2 d rx ry q=>ho pins f σ H2 x y v u Q d rx ry q) hm
abbrev Ly (t:TE):TT:=λσ H Q=>t σ H λx H'=>∃k,x=.bl k/\Q k H'
def Kx{J:CmpOp}{r:R2}(ho:ly X (compareOp J) r)(ha:PE X a ta)(hb:PE X b tb)(hm:behindInMarks J b=false):PT X (.Compare a [J] [b] pos) (Ly<|PD r ta tb):=by
 k_ne;refine wpAny_isTrue_Compare1 (jM (ha pins s σ H _ I h) λv q ⟨x,H1,I1,r1,p⟩=>jM (hb pins q σ H1 _ I1 p) λu C ⟨y,H2,j,r2,f⟩=>
  jM (ho pins C σ H2 x y v u _ j r1 r2 f) λc F ⟨z,B,m,g,k,e,d⟩=>?_) hm
 subst e
 cases g
 exact dH ⟨B,m,d⟩
abbrev Ah (r J:R2)(ta tb tc:TE):TE:=λσ H Q=>ta σ H λx H1=>tb σ H1 λy H2=>r x y H2 λz d=>∃k,z=.bl k /\
 (if k=true then tc σ d λf g=>J y f g Q else Q (.bl false) d)
def EG{r r':R2}(ho:ly X (compareOp op) r)(ho':ly X (compareOp op') r')(ha:PE X a ta)(hb:PE X b tb)(hc:PE X c tc)
  (hm:lastMarks [op,op'] [b,c]=false<|>ν):PE X (.Compare a [op,op'] [b,c] pos) (Ah r r' ta tb tc):=by
 k_ne;refine Compare_chain (jM (ha pins s σ H _ I h) λv M ⟨x,H1,I1,r1,K⟩=>chain_link (jM (hb pins M σ H1 _ I1 K) λu P ⟨y,H2,G,r2,p⟩=>
  jM (ho pins P σ H2 x y v u _ G r1 r2 p) λd F ⟨z,j,g,B,k,e,f⟩=>?_)) hm
 subst e
 cases B
 refine dH ?_
 cases k with
 | false=>exact ite_ff ⟨.bl false,j,g,rfl,f⟩
 | true=>exact ite_tt<|chain_last<|jM (hc pins F σ j _ g f) λL C ⟨O,N,m,q,J⟩=>ho' pins C σ N y O u L Q m r2 q J
def HG{r r':R2}(ho:ly X (compareOp op) r)(ho':ly X (compareOp op') r')(ha:PE X a ta)(hb:PE X b tb)(hc:PE X c tc)
  (hm:lastMarks [op,op'] [b,c]=false<|>ν):PT X (.Compare a [op,op'] [b,c] pos) (Ly<|Ah r r' ta tb tc):=by
 k_ne;refine isTrue_chain (jM (ha pins s σ H _ I h) λv U ⟨x,H1,I1,r1,P⟩=>test_link (jM (hb pins U σ H1 _ I1 P) λu Z ⟨y,H2,L,r2,B⟩=>
  jM (ho pins Z σ H2 x y v u _ L r1 r2 B) λd J ⟨z,j,g,F,k,e,f⟩=>?_)) hm
 subst e
 cases F
 refine dH ?_
 cases k with
 | false=>
  obtain⟨k',p,N⟩:=f
  cases p
  exact ite_ff ⟨j,g,N⟩
 | true=>
  refine ite_tt<|test_last<|jM (hc pins J σ j _ g f) λT G ⟨Y,V,q,C,M⟩=>jM (ho' pins G σ V y Y u T _ q r2 C M) λd' s5 ⟨z2,O,W,K,k2,e2,m⟩=>?_;subst e2
  cases K
  exact dH ⟨O,W,m⟩
abbrev NT (K:aq)(x:V)(H:Hp)(k:Bool):Prop:=
 match x with
 | .non=>k=false
 | .bl b=>k=b
 | .int i=>k=(i != 0)
 | .str y=>y.length<=sizeLine/\k=((y.length:Int) != 0)
 | .byt y=>y.size<=sizeLine/\k=((y.size:Int) != 0)
 | .ref p=>(∃xs,kJ K H p xs/\k=!xs.isEmpty)\/(∃xs,mZ K H p xs/\k=!xs.isEmpty)\/∃d,H p=some (.dK d)/\k=!d.isEmpty
 | _=>False
def Av{κ:Type}{kvs:List<|κ×V}{vs:List<|κ×aa}(r:KV kvs vs):(!vs.isEmpty)=!kvs.isEmpty:=by
 cases r<;>rfl
def vA{xs:List V}{its:ap}(r:Vals xs its):(!its.toArray.isEmpty)=!xs.isEmpty:=by
 cases r<;>simp
def qj:(sizeLine:Nat)<2 ^ 63:=by rw[dz];decide
def NR:Q_ X (λx H Q=>∃k,NT X.K x H k/\Q k H):=by
 intro pins s σ H x v Q I rx h;obtain⟨k,e,q⟩:=h;have J:=qj;have hs:sizeLine=16777216:=dz
 cases x with
 | non=>
  cases rx
  have d:k=false:=e;subst d;exact truthy_none ⟨H,I,q⟩
 | bl b=>
  cases rx
  have d:k=b:=e;subst d;exact dH ⟨H,I,q⟩
 | int i=>
  kst_p;have d:k=(i != 0):=e;subst d;exact PySem.P.truthy_int ⟨H,I,q⟩
 | str y=>
  kst_p;obtain⟨hy,d⟩:y.length<=sizeLine/\k=((y.length:Int) != 0):=e;subst d;exact PySem.P.truthy_str () ⟨H,I.tok _,q⟩
 | byt y=>
  kst_p;obtain⟨hy,d⟩:y.size<=sizeLine/\k=((y.size:Int) != 0):=e;subst d;exact PySem.W.truthy_bytes () ⟨H,I.tok _,q⟩
 | ref p=>
  cases rx
  have d:(∃xs,kJ X.K H p xs/\k=!xs.isEmpty)\/(∃xs,mZ X.K H p xs/\k=!xs.isEmpty)\/∃f,H p=some (.dK f)/\k=!f.isEmpty:=e
  rcases d with⟨xs,j,d⟩|⟨xs,j,d⟩|⟨f,j,d⟩
  ·subst d;obtain⟨B,r,C,F⟩:=I.list j;have g:=r.length;exact wpAny_truthy_list C.isList (by dsimp[aQ];lia) ⟨H,I.tok _,by rw[vA r];exact q⟩
  ·subst d;obtain⟨B,r,C,F⟩:=I.tuple j;have g:=r.length;exact truthy_tuple C (by dsimp[aQ];lia) ⟨H,I.tok _,by rw[vA r];exact q⟩
  ·subst d;obtain⟨F,G,z,r,m⟩:f.length<=sizeLine/\(p == sysModules)=false/\∃z,KV f z/\s.heap.DictOf (jY X.prog X.w) p z:=I.hok p _ j;have g:f.length=z.length:=gY r;exact wpAny_truthy_dict G m () ⟨H,I.tok _,by rw[Av r];exact q⟩
 | _=>exact(show False from e).elim
def GG(J:PE X a ta)(he:∀whole,isTrue a X.env whole=(do let v <- whole;standAt a.pos;holding [v] (truthy v))) :
  PT X a (λσ H Q=>ta σ H λx H'=>∃k,NT X.K x H' k/\Q k H'):=by
 k_ne;exact isTrue_plain (jM (J pins s σ H _ I h) λv f ⟨x,H1,I1,r1,d⟩=>NR pins f σ H1 x v Q I1 r1 d)<|he _
def AH:ly X (binaryOp .Add) (λx y H Q=>∃i j,x=.str i/\y=.str j/\i.length+j.length<=sizeLine/\Q (.str<|i++j) H):=by
 gn_on;obtain⟨i,j,rfl,rfl,f,q⟩:=h;kst_p;obtain⟨d,rfl⟩:=ry;exact add_str (λd g=>⟨.str<|i++j,H,I.tok _,⟨_,rfl⟩,q⟩) f
def vals1{x:V}(r:Vals [x] us):∃u,us=[u]/\RelV x u:=by
 cases r with
 | cons r1 r2=>cases r2;exact⟨_,rfl,r1⟩
def vals2{x:V}(r:Vals [x,y] us):∃u w',us=[u,w']/\RelV x u/\RelV y w':=by
 cases r with
 | cons r1 r2=>
  cases r2 with
  | cons d f=>cases f;exact⟨_,_,rfl,r1,d⟩
def D6(hc:X.calm=true):jo X (.builtin "max") (λxs H Q=>∃i j,xs=[.int i,.int j]/\Q (.int<|if j>i then j else i) H):=by
 kd_p;obtain⟨i,j,rfl,q⟩:=h;obtain⟨u,m,rfl,⟨t,rfl⟩,⟨g,rfl⟩⟩:=vals2 r;refine max_two_ints (I.ok.hd hc) λh' f k=>⟨_,H,I.kept k,?_,q⟩;by_cases d:j>i
 ·rw[aN d,aN d];exact⟨_,rfl⟩
 ·rw[aO d,aO d];exact⟨_,rfl⟩
def DF(hc:X.calm=true):jo X (.builtin "min") (λxs H Q=>∃i j,xs=[.int i,.int j]/\Q (.int<|if j<i then j else i) H):=by
 kd_p;obtain⟨i,j,rfl,q⟩:=h;obtain⟨u,m,rfl,⟨t,rfl⟩,⟨g,rfl⟩⟩:=vals2 r;refine min_two_ints (I.ok.hd hc) λh' f k=>⟨_,H,I.kept k,?_,q⟩;by_cases d:j<i
 ·rw[aN d,aN d];exact⟨_,rfl⟩
 ·rw[aO d,aO d];exact⟨_,rfl⟩
def v5:jo X (.type "int") (λxs H Q=>(∃i,xs=[.int i]/\Q (.int i) H)\/∃k,xs=[.bl k]/\Q (.int<|if k then 1 else 0) H):=by
 kd_p
 rcases h with⟨i,rfl,q⟩|⟨k,rfl,q⟩
 ·obtain⟨u,rfl,t,rfl⟩:=vals1 r;exact call_int_int ⟨.int i,H,I,⟨_,rfl⟩,q⟩
 ·obtain⟨u,rfl,r1⟩:=vals1 r
  cases r1
  exact call_int_bool ⟨.int<|if k then 1 else 0,H,I.tok _,⟨_,rfl⟩,q⟩
abbrev RB (K:aq)(x:V)(H:Hp)(n:Nat):Prop:=
 match x with
 | .str y=>y.length<=sizeLine/\n=y.length
 | .byt y=>y.size<=sizeLine/\n=y.size
 | .ref p=>(∃xs,kJ K H p xs/\n=xs.length)\/∃xs,mZ K H p xs/\n=xs.length
 | _=>False
def Hw:jo X (.builtin "len") (λxs H Q=>∃x n,xs=[x]/\RB X.K x H n/\Q (.int n) H):=by
 kd_p;obtain⟨x,n,rfl,e,q⟩:=h;kln_w;have B:=qj;have hs:sizeLine=16777216:=dz
 cases x with
 | str y=>
  kst_p;obtain⟨hy,f⟩:y.length<=sizeLine/\n=y.length:=e;subst f;exact len_str () ⟨.int _,H,I.tok _,⟨_,rfl⟩,q⟩
 | byt y=>
  kst_p;obtain⟨hy,f⟩:y.size<=sizeLine/\n=y.size:=e;subst f;exact PySem.W.len_bytes () ⟨.int _,H,I.tok _,⟨_,rfl⟩,q⟩
 | ref p=>
  cases rx
  have f:(∃xs,kJ X.K H p xs/\n=xs.length)\/∃xs,mZ X.K H p xs/\n=xs.length:=e
  rcases f with⟨xs,k,f⟩|⟨xs,k,f⟩
  ·subst f;obtain⟨m,g,j,z⟩:=I.list k;have d:=g.length;exact Calls.call_len_list j.isList (by dsimp[aQ];lia) ⟨.int xs.length,H,I.tok _,⟨_,by dsimp[aQ];rw[d]⟩,q⟩
  ·subst f;obtain⟨m,g,j,z⟩:=I.tuple k;have d:=g.length;exact len_tuple j (by dsimp[aQ];lia) ⟨.int xs.length,H,I.tok _,⟨_,by dsimp[aQ];rw[d]⟩,q⟩
 | _=>exact(show False from e).elim
end
section
variable {H:Hp}
end
structure Room (k:Nat)(A:au):Prop where
 hd:A.handled=none
 dp:A.depth+3 * k+5<recursionLimit
 un:A.units+16 * k+200<cLine
 gs:A.guards=some []
def Room.mono{k:Nat}{A:au}(r:Room k A)(h:j<=k):Room j A:=⟨r.hd,by have:=r.dp;lia,by have:=r.un;lia,r.gs⟩
def Room.deeper{k:Nat}{A:au}(r:Room (k+1) A)(env:Env):Room k (A.deeper env):=
 ⟨r.hd,by have:=r.dp;show A.depth+1+3 * k+5<_;lia,by have:=r.un;show A.units+3+16 * k+200<_;lia,r.gs⟩
def Room.depth{k:Nat}{A:au}(r:Room k A):A.depth<recursionLimit:=by have:=r.dp;lia
def Room.units{k:Nat}{A:au}(r:Room k A):A.units+64<cLine:=by have:=r.un;lia
abbrev Q3:TA:=λ_ H Q=>Q [] H
abbrev Pw (ta:TE)(J:TA):TA:=λσ H Q=>ta σ H λx H1=>J σ H1 λxs H2=>Q (x::xs) H2
section
variable {X:Cx}{e:aA}{es:List aA}{te:TE}{t:TA}{pos:Pos}
def uf:PA X [] Q3:=λ_ _ _ _ H Q I h=>Calls.spliced_nil ⟨[],H,I,.nil,h⟩
def oN(J:PE X e te)(hr:PA X es t)(hs:starEach (e::es) X.env=(false,eval e X.env)::starEach es X.env<|>θ):PA X (e::es) (Pw te t):=by
 intro pos pins s σ H Q I h;rw[hs]
 skip
 refine Calls.spliced_cons<|jM (J pins s σ H _ I h) λu j ⟨x,H1,I1,r1,g⟩=>?_;exact jM (hr pos pins j σ H1 _ I1 g) λus k ⟨xs,H2,f,r2,d⟩=>⟨x::xs,H2,f,.cons r1 r2,d⟩
abbrev Ri (t:TA):TE:=λσ H Q=>t σ H λxs H1=>xs.length<=sizeLine/\∀p,H1 p=none->Q (.ref p) (upd H1 p<|.tup xs)
abbrev RZ (t:TA):TE:=λσ H Q=>t σ H λxs H1=>xs.length<=sizeLine/\∀p,H1 p=none->Q (.ref p) (upd H1 p<|.lst xs)
def Om{x1}(h:PA X es t):PE X (.Tuple es x1 pos) (Ri t):=by
 intro pins s σ H Q I f;refine wpAny_Tuple_spliced (jM (h pos pins s σ H _ I f) λus d ⟨xs,H1,I1,r,z,q⟩=>⟨by rw[<- r.length];exact z,?_⟩);have hf:H1 d.heap.objs.size=none:=I1.hok.fresh<|aM _;refine⟨.ref d.heap.objs.size,upd H1 d.heap.objs.size<|.tup xs,I1.laid (t':=d.toks) (λb u e=>aS _ e) (aM _) ?_,rfl,q _ hf⟩;exact⟨z,us,r,⟨_,bI _ rfl,rfl,rfl,_,rfl⟩⟩
def MV(h:PA X es t):PE X (.List es pos) (RZ t):=by
 intro pins s σ H Q I f;refine wpAny_List_spliced (jM (h pos pins s σ H _ I f) λus d ⟨xs,H1,I1,r,z,q⟩=>⟨by rw[<- r.length];exact z,?_⟩);have hf:H1 d.heap.objs.size=none:=I1.hok.fresh<|aM _;refine⟨.ref d.heap.objs.size,upd H1 d.heap.objs.size<|.lst xs,I1.laid (t':=d.toks) (λb u e=>aS _ e) (aM _) ?_,rfl,q _ hf⟩;exact⟨z,us,0,r,bI _ rfl⟩
end
meta abbrev Sp:=List V->Hp->VK->XK->Prop
meta abbrev Jg:=List Env->Hp->az->XK->aa->az->Prop
structure Env0 (P:ah)(w:af)(K:aq)(mg:Str->aw)(base:ak)(A:au)(outer:List Env)(s:az)(H:Hp):Prop where
 frames:A.frames=some outer
 mod:Mod K mg base
 bs:∀b o,base.get? b=some o->s.heap.get? b=some o/\H b=none
 bsz:base.objs.size<=s.heap.objs.size
 uM:s.heap.FunFrames base outer
 frf:∀b∈frs outer,H b=none
 hok:qB P w H s.heap
 bare:AllBare s.gens
abbrev CE (outer:List Env)(P:ah)(w:af)(H:Hp)(s:az)(Q:VK)(u:aa)(s':az):Prop:=
 ∃v H',s'.os=s.os/\AllBare s'.gens/\Un (frs outer) [] H H' s.heap s'.heap/\qB P w H' s'.heap/\RelV v u/\Q v H'
abbrev CR (CX:Jg)(outer:List Env)(P:ah)(w:af)(H:Hp)(s:az)(Q:VK)(E:XK)(r:Result)(s':az):Prop:=
 match r with
 | .ok (.ret u)=>CE outer P w H s Q u s'
 | .ok _=>False
 | .error e=>CX outer H s E e s'
structure FnOk (P:ah)(w:af)(K:aq)(mg:Str->aw)(base:ak)(CX:Jg)(k:Nat)(f:aj)(fd:FuncData)(ps:am)(sp:Sp):Prop where
 len:∀vs H Q E,sp vs H Q E->vs.length=ps.length
 run:∀(A:au) (outer:List Env) (s:az) (H:Hp) (args:Args) (us:ap) (vs:List V) (Q:VK) (E:XK),Room k A->Env0 P w K mg base A outer s H->BindsTo s fd args (ps.zip us)->Vals vs us->sp vs H Q E ->
  codeAny (model P w) A (.call (.ref f) args) (CR CX outer P w H s Q E) s
section
variable {X:Cx}{pins:bj}{σ:St}{H:Hp}{s s':az}
def Inv.Rb(I:Inv X pins σ H s):Env0 X.prog X.w X.K X.mg X.base X.A X.stack s H:=
 ⟨I.ok.frames,I.ok.mod,I.bs,bH I.ok.bsz I.sz,I.stack,I.Cm,I.hok,I.bare⟩
def Inv.after{Q:VK}(I:Inv X pins σ H s)(h:CE X.stack X.prog X.w H s Q u s'):EP X pins σ Q u s':=by
 obtain⟨v,H',os,f,un,hok,r,q⟩:=h;obtain⟨k,g,d,t,j⟩:=s';obtain rfl:j=s.os:=os;exact⟨v,H',I.call (h':=k) (g':=g) (d':=d) (t':=t) (ch:=[]) un hok f λb z=>absurd z<|by simp,r,q⟩
end
abbrev Lc (sp:Sp)(dvs:List V)(E:XK)(t:TA):TE:=λσ H Q=>t σ H λd H1=>sp (d++dvs) H1 Q E
abbrev Binds (K:aq)(fd:FuncData)(ps:am)(ds:ap):Prop:=
 ∀(s:az) (us:ap),K.In s.heap->(us++ds).length=ps.length->BindsTo s fd ⟨us,[]⟩ (ps.zip<|us++ds)
def Binds.all{K:aq}{ps:am}(h:∀us:ap,us.length=ps.length->bindArgs fd ⟨us,[]⟩=pure (ps.zip us)):Binds K fd ps []:=λs us _ d=>by
 rw[bJ]at d ⊢;exact .of_eq<|h us d
abbrev Passes (CX:Jg)(X:Cx)(E:XK):Prop:=∀(pins:bj) (σ:St) (H:Hp) (s:az) (e:aa) (s':az),Inv X pins σ H s->CX X.stack H s E e s'->X.xe e s'
section
variable {X:Cx}{CX:Jg}{k:Nat}{f C:aj}{fd:FuncData}{ps:am}{sp:Sp}{dvs:List V}{ds:ap}{E:XK}{x:Str}{p pos:Pos}{e:aA}{es:List aA}{t:TA}
def MT{H:Hp}{Q:VK}(F:FnOk X.prog X.w X.K X.mg X.base CX k f fd ps sp)(J:Room k X.A)(hb:Binds X.K fd ps ds)(hd:Vals dvs ds)(hx:Passes CX X E)
  (I:Inv X pins σ H s) (r:Vals vs us) (h:sp (vs++dvs) H Q E):wpAny (model X.prog X.w) X.A (call (.ref f) us) (EP X pins σ Q) X.xe s:=by
 have r2:Vals (vs++dvs) (us++ds):=r.append hd;have j:(us++ds).length=ps.length:=by rw[<- r2.length];exact F.len _ _ _ _ h
 refine wpAny_call (f7 (F.run X.A X.stack s H ⟨us,[]⟩ (us++ds) (vs++dvs) Q E J I.Rb (hb s us I.OH j) r2 h) λr s' d=>?_)
 cases r with
 | error e=>exact hx pins σ H s e s' I d
 | ok g=>
  cases g with
  | ret u=>exact I.after d
  | next=>exact False.elim d
  | brk=>exact False.elim d
  | cont=>exact False.elim d
def JL(F:FnOk X.prog X.w X.K X.mg X.base CX k f fd ps sp)(hr:Room k X.A)(hg:Gl X x)(hm:X.mg x=some (.ref f))(hk:PySem.W.keepIn X.K (.ref f)=true)(hb:Binds X.K fd ps ds)(hd:Vals dvs ds)(hx:Passes CX X E)
  (ha:PA X (e::es) t) (J:(x == ("__debug__" : Str))=false<|>η) (he:starEach (e::es) X.env=(false,eval e X.env)::starEach es X.env<|>θ) (hpl:((backTo pos<|starEach es X.env).any (·.1)=false)<|>θ) :
  PE X (.Call (.Name x p) (e::es) [] pos) (Lc sp dvs E t):=by
 k_ne;refine gQ<|Cb I hg hm ?_ J;refine PySem.W.callWith_K (h₀:=X.base) I.ok.mod.kin hk (jM (ha pos pins s σ H _ I h) λus g ⟨d,H1,I1,r,q⟩=>⟨I1.OH,?_⟩) he hpl;exact MT F hr hb hd hx I1 r q
end
section
variable {fd:FuncData}{ps ks:am}
end
structure FnScope (N P:am)(sc:Scope):Prop where
 kind:sc.kind=.function
 co:sc.isCoroutine=false
 gen:sc.isGenerator=false
 nd:N.Nodup
 pre:N.take P.length=P
 par:∀x∈P,sc.names.lookup x=some .local\/sc.names.lookup x=some .cell
 nofree:∀y∈sc.names,y.2≠.free
theorem vV{J:Str->Option NameKind}{x:Str}:∀{binds:List<|Str×aa}{m:Str->aw},(∀v,(x,v)∉binds)->bindL J binds m x=m x
 | [],_,_=>rfl
 | (n,v)::r,m,h=>by
  unfold bindL;rw[vV λw hw=>h w<|aJ _ hw];split
  ·have:x≠n:=by rintro rfl;exact h v aK
   simp[this]
  ·rfl
theorem v_{J:Str->Option NameKind}{x:Str}:∀{binds:List<|Str×aa}{m:Str->aw},(∀v,(x,v)∉binds)->bindC J binds m x=m x
 | [],_,_=>rfl
 | (n,v)::r,m,h=>by
  unfold bindC;rw[v_ λw hw=>h w<|aJ _ hw];split
  ·rfl
  ·have:x≠n:=by rintro rfl;exact h v aK
   simp[this]
theorem wm{J:Str->Option NameKind}{x:Str}{v:aa}:∀{P:am}{vs:ap}{i:Nat}{m:Str->aw},P.Nodup->P[i]?=some x->vs[i]?=some v->J x=some .local ->
  bindL J (P.zip vs) m x=some v
 | [],_,_,_,_,h,_,_=>by simp at h
 | _::_,[],_,_,_,_,h,_=>by simp at h
 | p::P,w::vs,0,m,nd,h1,h2,hk=>by
  simp at h1 h2;subst h1;subst h2;show bindL J ((p,w)::P.zip vs) m p=_;unfold bindL;rw[vV λv hv=>(bL.mp nd).1 (iw hv).1,aN hk];simp
 | p::P,w::vs,i+1,m,nd,h1,h2,hk=>by
  skip
  unfold bindL;exact wm (i:=i) (bL.mp nd).2 (by simpa using h1) (by simpa using h2) hk
theorem wD{J:Str->Option NameKind}{x:Str}{v:aa}:∀{P:am}{vs:ap}{i:Nat}{m:Str->aw},P.Nodup->P[i]?=some x->vs[i]?=some v->J x≠some .local ->
  bindC J (P.zip vs) m x=some v
 | [],_,_,_,_,h,_,_=>by simp at h
 | _::_,[],_,_,_,_,h,_=>by simp at h
 | p::P,w::vs,0,m,nd,h1,h2,hk=>by
  simp at h1 h2;subst h1;subst h2;show bindC J ((p,w)::P.zip vs) m p=_;unfold bindC;rw[v_ λv hv=>(bL.mp nd).1 (iw hv).1,aO hk];simp
 | p::P,w::vs,i+1,m,nd,h1,h2,hk=>by
  skip
  unfold bindC;exact wD (i:=i) (bL.mp nd).2 (by simpa using h1) (by simpa using h2) hk
abbrev start (N:am)(vs:List V):St:=vs.map some++List.replicate (N.length-vs.length) none
abbrev Ag (CX:Jg)(P:ah)(w:af)(K:aq)(mg:Str->aw)(base:ak)(N:am)(J:Str)(scope:Scope)(f:aj)(cd:aa)(A:au)(outer:List Env)(s:az)(H:Hp)(E:XK):Cx where
 prog:=P
 w:=w
 K:=K
 mg:=mg
 base:=base
 A:=A.deeper (envOfC J scope s.heap.objs.size f cd)
 N:=N
 s₀:=s
 H₀:=H
 env:=envOfC J scope s.heap.objs.size f cd
 outer:=outer
 stack:=envOfC J scope s.heap.objs.size f cd::outer
 ex:=[]
 calm:=true
 fn:=λ_=>true
 pn:=[]
 xe:=λe s'=>wpAny (model P w) (A.deeper<|envOfC J scope s.heap.objs.size f cd) (leaving (envOfC J scope s.heap.objs.size f cd) e) (λ_ d=>CX outer H s E e d) (λg d=>CX outer H s E g d) s'
def yK{sc:Scope}{n:Nat}{x:Str}(h:sc.names.lookup x=some .cell):∃c,(cellsFrom n sc.names []).lookup x=some c:=by
 have q:=eS sc.names n []<|.inl h;exact cW.mp q
def D4{CX:Jg}{P:ah}{w:af}{K:aq}{mg:Str->aw}{base:ak}{N ps:am}{scope:Scope}{f:aj}{A:au}{outer:List Env}{s:az}{H:Hp}{E:XK}{vs:List V}
  (S:FnScope N ps scope) (hd:A.handled=none) (e0:Env0 P w K mg base A outer s H) (hl:vs.length=ps.length) (r:Vals vs us)
  (x:InCallC s s.heap.objs.size (bindL (envOfC qual scope s.heap.objs.size f cd).kindOf (ps.zip us) λ_=>none) (cellsFrom (s.heap.objs.size+1) scope.names []) (bindC (envOfC qual scope s.heap.objs.size f cd).kindOf (ps.zip us) λ_=>none) s1) :
  Inv (Ag CX P w K mg base N qual scope f cd A outer s H E) [] (start N vs) H s1:=by
 have F:ps.length<=N.length:=by have:=d9 List.length S.pre;rw[bG]at this;lia
 obtain⟨h1,L,rfl,C⟩:=x.done;have g:∀b:aj,b∉(Ag CX P w K mg base N qual scope f cd A outer s H E).ex:=λb z=>absurd (show b∈([]:ar)from z) (by simp);refine⟨⟨e0.mod,S.kind,rfl,rfl,aM _,λy z c h1 d=>?_,λy hy=>?_,λy c _ h=>?_,λ_=>hd,Around.frames_deeper e0.frames,.inr ⟨rfl,rfl⟩,λb z=>absurd z<|g b,e0.bs,e0.bsz,λb _ _=>g b,λb z=>absurd z<|g b,e0.uM,e0.frf⟩,
  rfl,e0.bare,Un.kept C,⟨_,x.toInCall.ns,λi y v h1 d M=>?_⟩,λy c h=>⟨_,x.cell y c h⟩,e0.hok.fresh<|aM _,λy c h=>?_,λp j=>absurd (show p∈([]:bj)from j)<|by simp,e0.hok.kept C,?_⟩
 ·exact name_of_addr x.apart (cO h1) (cO d)
 ·have hy:scope.names.lookup y=some .cell\/scope.names.lookup y=some .free:=hy
  rcases hy with hy|hy
  ·exact yK hy
  ·exact absurd rfl<|S.nofree _<|cO hy
 ·exact dh (x.above y c<|cO h)
 ·have hi:i<vs.length:=by
   unfold start at d;by_cases hi:i<vs.length
   ·exact hi
   ·rw[b7<|by simpa using hi]at d;rw[fV]at d;split at d<;>cases d
  have J:vs[i]?=some v:=by
   unfold start at d;rw[bw<|by simpa using hi,aR]at d
   cases e:vs[i]? with
   | none=>rw[e]at d;cases d
   | some a=>rw[e]at d;cases d;rfl
  obtain⟨u,B,G⟩:=r.get J;have j:ps[i]?=some y:=by
   rw[<- S.pre,fK ()];exact h1
  have m:ps.Nodup:=by rw[<- S.pre];exact S.nd.sublist (gT _ _)
  refine⟨u,G,?_⟩
  rcases S.par y (aX j)with k|k
  ·exact .inl ⟨k,wm m j B k⟩
  ·obtain⟨c,e⟩:=yK (n:=s.heap.objs.size+1) k;refine .inr ⟨.inl k,c,e,?_⟩;have q:=x.cell y c e;rw[wD m j B<|by show scope.names.lookup y≠_;rw[k];decide]at q;exact q
 ·exact e0.hok.fresh (dh<|x.above y c<|cO h)
 ·unfold start;show _=N.length;rw[aL,aG,gu]
  lia
def Pr{CX:Jg}{P:ah}{w:af}{K:aq}{mg:Str->aw}{base:ak}{k:Nat}{f:aj}{kV ct:aa}
  {osl:Array<|aw} {N ps:am} {sp:Sp} (lk:K.lookup f=some ⟨oc,od,.func<|PySem.W.fnOf name qual params body scope dV kV doc pm an cdv ct,osl⟩) (hcd:PySem.W.codeIn K cdv qual=true) (S:FnScope N ps scope)
  (len:∀vs H Q E,sp vs H Q E->vs.length=ps.length)
  (hbody:∀(A:au) (outer:List Env) (s:az) (H:Hp) (vs:List V) (Q:VK) (E:XK),Room k (A.deeper<|envOfC qual scope s.heap.objs.size f cdv)->sp vs H Q E ->
   ∃t,xF (Ag CX P w K mg base N qual scope f cdv A outer s H E) body t/\t { nx:=λ_ H'=>Q .non H',rt:=Q } (start N vs) H) :
  FnOk P w K mg base CX (k+1) f (PySem.W.fnOf name qual params body scope dV kV doc pm an cdv ct) ps sp:=by
 refine⟨len,λA outer s H B us vs Q E m e0 G r j=>?_⟩;have O:=len _ _ _ _ j;have C:K.In s.heap:=e0.mod.kin.keeps λb o e=>(e0.bs b o e).1;have p:s.heap.NoLimit:=e0.mod.nolimit.keeps λb o e=>(e0.bs b o e).1;have g:∀y∈ps.zip us,scope.names.lookup y.1=some .local\/(scope.names.lookup y.1=some .cell/\((cellsFrom (s.heap.objs.size+1) scope.names []).lookup y.1).isSome=true):=λ⟨n,v⟩ hy=>by
  rcases S.par n (iw hy).1 with q|q
  ·exact .inl q
  ·exact .inr ⟨q,eS _ _ _<|.inl q⟩
 refine codeAny_call_function m.depth (C _ _ lk) rfl S.co S.gen rfl (PySem.W.codeRec_of C hcd)<|G _ _ _ _ ?_;refine wpAny_newFunctionEnv_cells S.kind g λenv M F x=>?_;subst M;refine⟨p.keeps x.toInCall.keep,codeAny_func ?_⟩;obtain⟨t,T,U⟩:=hbody A outer s H vs Q E (m.deeper _) j;have I:Inv (Ag CX P w K mg base N qual scope f cdv A outer s H E) [] (start N vs) H F:=D4 S m.hd e0 O r x;refine fj (T [] F (start N vs) H _ I U) (λL s' hs=>?_) λe s' hs=>hs;have fin:∀{d:St} {H':Hp} {v:V} {u:aa},Inv (Ag CX P w K mg base N qual scope f cdv A outer s H E) [] d H' s'->RelV v u->Q v H'->CE outer P w H s Q u s':=
  λ{d H' v u} J z q=>⟨v,H',J.os,J.bare,J.base,J.hok,z,q⟩
 cases L with
 | ret u=>
  obtain⟨v,d,H',J,z,q⟩:=hs;exact fin J z q
 | next=>
  obtain⟨d,H',J,q⟩:=hs;exact fin (v:=V.non) (u:=Value.none) J rfl q
 | brk=>
  obtain⟨_,_,_,q⟩:=hs;exact False.elim q
 | cont=>
  obtain⟨_,_,_,q⟩:=hs;exact False.elim q
section
variable {X:Cx}{x:Str}{p pos:Pos}{e:aA}{es:List aA}{t:TA}{id T:String}{r:List V->Hp->VK->Prop}
abbrev Rv (r:List V->Hp->VK->Prop)(t:TA):TE:=λσ H Q=>t σ H λd H1=>r d H1 Q
def Gn(hc:jo X (.builtin id) r)(hg:Gl X x)(hm:X.mg x=none)(hv:bootBuiltins x=some (.builtin id))(ha:PA X (e::es) t)(hn:x ≠ "__name__"<|>η)(J:(x == ("__debug__" : Str))=false<|>η)
  (he:starEach (e::es) X.env=(false,eval e X.env)::starEach es X.env<|>θ) (hpl:((backTo pos<|starEach es X.env).any (·.1)=false)<|>θ):PE X (.Call (.Name x p) (e::es) [] pos) (Rv r t):=by
 k_ne;refine gQ<|rE I hg hm hv ?_ hn J;exact PyProof.Rows.callWith_builtin1 (jM (ha pos pins s σ H _ I h) λus g ⟨d,H1,I1,r1,f⟩=>hc pins g σ H1 d us Q I1 r1 f) he hpl
def Ed(hc:jo X (.type T) r)(hg:Gl X x)(hm:X.mg x=none)(hv:bootBuiltins x=some (.type T))(ha:PA X (e::es) t)(hn:x ≠ "__name__"<|>η)(J:(x == ("__debug__" : Str))=false<|>η)
  (he:starEach (e::es) X.env=(false,eval e X.env)::starEach es X.env<|>θ) (hpl:((backTo pos<|starEach es X.env).any (·.1)=false)<|>θ):PE X (.Call (.Name x p) (e::es) [] pos) (Rv r t):=by
 k_ne;refine gQ<|rE I hg hm hv ?_ hn J;exact c7 (jM (ha pos pins s σ H _ I h) λus g ⟨d,H1,I1,r1,f⟩=>hc pins g σ H1 d us Q I1 r1 f) he hpl
end
end L2
namespace HT
open PySem PyProof.Rows
abbrev lexLt:ae->ae->Bool
 | [],[]=>false
 | [],_::_=>true
 | _::_,[]=>false
 | x::xs,y::ys=>if x=y then lexLt xs ys else decide (x<y)
def oB(x y:Int)(xs ys:ae):lexLt (x::xs) (y::ys)=if x=y then lexLt xs ys else decide (x<y):=rfl
def nV:lexLt [] []=false:=rfl
def kM(y:Int)(ys:ae):lexLt [] (y::ys)=true:=rfl
def mW(x:Int)(xs:ae):lexLt (x::xs) []=false:=rfl
def Fe(A:au)(s:az)(a:Int)(t:Tok)(c:Int)(u:Tok):∃e,SeqAt.EqAt A s (.int a t) (.int c u) e/\(e=true ↔ a=c):=
 ⟨(a == c),SeqAt.EqAt.int_int a t c u,by simp⟩
def HW(A:au)(s:az)(a:Int)(t:Tok)(c:Int)(u:Tok)(prog:ah)(w:af)(E:aa->az->Prop)(Q:aa->az->Prop)(h:Q (.bool<|decide<|a<c) s) :
  wpAny (model prog w) A (richCompare .Lt (.int a t)<|.int c u) Q E s:=
 (PyProof.Rows.lt_int h:wpAny (model prog w) A (compareOp .Lt (.int a t)<|.int c u) Q E s)
section
variable {prog:ah}{w:af}{A:au}{E:aa->az->Prop}{s:az}
def Jp{t:aj}{vs ws:ap}{Q:aa->az->Prop}(J:IsTup s.heap t vs.toArray)(hb:IsTup s.heap b ws.toArray)(hv:vs≠[])
  (h1:ws=[]->Q (.ref t) s) (h2:ws≠[]->Q (.ref s.heap.objs.size) { s with heap:=s.heap.push { cls:=.type "tuple",data:=.seq (vs++ws).toArray }})
  (hsz:vs.length+ws.length<=sizeLine):wpAny (model prog w) A (binaryOp .Add (.ref t)<|.ref b) Q E s:=by
 obtain⟨⟨cls,dd,data,z⟩,m,hc,n,hd⟩:=id J;obtain⟨⟨q,k,p,g⟩,d,f,B,j⟩:=id hb;simp only at hc hd f j;subst hc hd f j;have e:vs.toArray++ws.toArray=(vs++ws).toArray:=by simp
 by_cases hw:ws=[]
 ·exact concat_meets ⟨_,m,rfl⟩ ⟨_,d,rfl⟩ noFill_tuple_add seq_tuple_add f9 fW (fL _ _)
   (tuple_addW1 t b vs.toArray ws.toArray n B dd k z g (by simpa using hv)<|by simp[hw]) ⟨m,d,h1 hw⟩
 ·refine concat_meets ⟨_,m,rfl⟩ ⟨_,d,rfl⟩ noFill_tuple_add seq_tuple_add f9 fW (fL _ _)
   (tuple_addW2 t b vs.toArray ws.toArray n B dd k z g (by simpa using hv) (by simpa using hw)<|by rw[aQ,aQ];exact hsz) ⟨m,d,?_⟩
  rw[e];exact h2 hw
abbrev lu (n d:Nat):ba->Nat
 | none=>d
 | some v=>if v<0 then(v+(n:Int)).toNat else min v.toNat n
def yN(n d:Nat):lu n d none=d:=rfl
def Cc(n d k:Nat):lu n d (some (k:Int))=min k n:=by
 show(if (k:Int)<0 then((k:Int)+(n:Int)).toNat else min (k:Int).toNat n)=min k n;rw[aO (),f_]
def Nk(n d:Nat)(hd:d<=n)(o:ba):lu n d o<=n:=by
 cases o with
 | none=>exact hd
 | some v=>
  show(if v<0 then(v+(n:Int)).toNat else min v.toNat n)<=n;by_cases hv:v<0
  ·rw[aN hv];lia
  ·rw[aO hv];exact Nat.min_le_right _ _
def BG(v:Int)(n d:Nat):(if v<0 then max (v+(n:Int)) 0 else min v (n:Int))=((lu n d (some v):Nat):Int):=by
 show(if v<0 then max (v+(n:Int)) 0 else min v (n:Int))=(((if v<0 then(v+(n:Int)).toNat else min v.toNat n):Nat):Int);by_cases hv:v<0
 ·dsimp[aN hv];lia
 ·dsimp[aO hv];lia
def AA(lo hi:ba)(n:Nat):Builtin.Slice.sliceAdjust lo hi 1 (n:Int)=(((lu n 0 lo:Nat):Int),((lu n n hi:Nat):Int)):=by
 have h1:¬((1:Int)<0):=()
 unfold Builtin.Slice.sliceAdjust;dsimp[h1,cR];refine Prod.ext ?_ ?_
 ·cases lo with
  | none=>rfl
  | some v=>exact BG v n 0
 ·cases hi with
  | none=>rfl
  | some v=>exact BG v n n
def Ak(i j:Nat):Builtin.Slice.slicePlaces (i:Int) (j:Int) 1=j-i:=by
 unfold Builtin.Slice.slicePlaces;have h1:(1:Int)>0:=()
 dsimp[h1,cU,Int.ediv_one];split<;>lia
def vn{v:aa}{Q:ba->az->Prop}(p:IsPart v o)(h:Q o s):wpAny (model prog w) A (Builtin.Slice.slicePartIndex v) Q E s:=by
 cases p with
 | none=>exact slicePart_none h
 | int i t=>exact slicePart_int h
def rT{lo hi:ba}{n:Nat}{Q:Int×Int×Nat->az->Prop}(hs:s.heap.IsSliceOf sl vl vu .none)(J:IsPart vl lo)(pu:IsPart vu hi)
  (h:Q (((lu n 0 lo:Nat):Int),1,lu n n hi-lu n 0 lo) s):wpAny (model prog w) A (Builtin.Slice.sliceApplied (.ref sl)<|pure (n:Int)) Q E s:=by
 obtain⟨j,d,g,f⟩:=id hs;unfold Builtin.Slice.sliceApplied Builtin.Slice.sliceFields;refine aH<|aH<|eO d f (x:=vl) rfl<|aH<|eO d f (x:=vu) rfl<|aH<|eO d f (x:=.none) rfl<|aW ?_;refine aH (slicePart_none ?_)
 skip
 rw[aO ⋯];refine aH<|vn J<|aH<|vn pu<|aH<|aW ?_;show wpAny _ _ (match Builtin.Slice.sliceAdjust lo hi 1 (n:Int)with|(lo,hi)=>pure (lo,(1:Int),Builtin.Slice.slicePlaces lo hi 1)) _ _ s;rw[AA lo hi n];show wpAny _ _ (pure (((lu n 0 lo:Nat):Int),(1:Int),Builtin.Slice.slicePlaces ((lu n 0 lo:Nat):Int) ((lu n n hi:Nat):Int) 1)) _ _ s;rw[Ak];exact aW h
def Fg(xs:Array aa)(i k:Nat):((List.range k).filterMap λ(m:Nat)=>xs[((i:Int)+(m:Int) * 1).toNat]?).toArray=((xs.toList.drop i).take k).toArray:=by
 have e:(λ(m:Nat)=>xs[((i:Int)+(m:Int) * 1).toNat]?)=λm=>xs[i+m]?:=by
  funext m
  have:((i:Int)+(m:Int) * 1).toNat=i+m:=()
  rw[this]
 rw[e];have:=pick_run xs i k;rw[List.filterMap_map]at this;have e2:((λx=>xs[x]?) ∘ λx=>i+x)=λm=>xs[i+m]?:=rfl;rw[e2]at this;rw[this]
def qE{t:aj}{J:Array aa}{lo hi:ba}{Q:aa->az->Prop}(ht:IsTup s.heap t J)(hs:s.heap.IsSliceOf sl vl vu .none)(pl:IsPart vl lo)(pu:IsPart vu hi)
  (hw:¬(lu J.size 0 lo=0/\lu J.size J.size hi=J.size))
  (h:Q (.ref s.heap.objs.size) { s with heap:=s.heap.push { cls:=.type "tuple",data:=.seq ((J.toList.drop<|lu J.size 0 lo).take<|lu J.size J.size hi-lu J.size 0 lo).toArray }})
  (hsz:J.size<=sizeLine):wpAny (model prog w) A (getItem (.ref t)<|.ref sl) Q E s:=by
 have d:sizeOk (.seq ((J.toList.drop<|lu J.size 0 lo).take<|lu J.size J.size hi-lu J.size 0 lo).toArray):=by
  show((J.toList.drop<|lu J.size 0 lo).take<|lu J.size J.size hi-lu J.size 0 lo).toArray.size<=sizeLine;rw[aQ,bG,cL,eF];omega
 have F:lu J.size J.size hi<=J.size:=Nk _ _ (aM _) hi;obtain⟨p,f,k,z⟩:=id hs;have j:s.TypeIs (.ref sl) "slice" := ⟨p,f,k⟩;unfold getItem
 try with_reducible refine di ?_
 first|refine aH (aW ?_)|skip
 refine aH<|wpAny_sequenceKey ht.typeIs ⋯ ?_;refine aH (fX (name:=Str.ofString "__getitem__") ht.typeIs eB
  (dU eB ht.typeIs entry_tuple_getitem ?_<|args_tuple_getitem _ _))
 show wpAny _ _ (Builtin.Tuple.tupleItemsOf (.ref t) >>= _) _ _ s;refine aH<|tupleItemsOf_ ht ?_;refine aH<|gO j ?_;rw[aN ⋯];refine aH<|rT hs pl pu ?_;have g:¬((((lu J.size 0 lo:Nat):Int) == 0 && (1:Int) == 1 && (lu J.size J.size hi-lu J.size 0 lo) == J.size)=true):=by
  intro q;rw[bY,bY]at q;have C:((lu J.size 0 lo:Nat):Int)=0:=eq_of_beq q.1.1;have B:lu J.size J.size hi-lu J.size 0 lo=J.size:=eq_of_beq q.2;exact hw ⟨by omega,by omega⟩
 show wpAny _ _ (if (((lu J.size 0 lo:Nat):Int) == 0 && (1:Int) == 1 && (lu J.size J.size hi-lu J.size 0 lo) == J.size)=true then _ else _) _ _ s;rw[aO g,Fg]
 first
  | exact aH (m:=Builtin.Tuple.tupleExact _) (cS (aW ⟨_,rfl,aW h⟩) d)
  | exact aH (m:=Builtin.Tuple.tupleExact _) (cS (aH<|aW<|aW ⟨_,rfl,aW h⟩) d)
  | exact aH (aH (m:=Builtin.Tuple.tupleExact _)<|cS (aW<|aW ⟨_,rfl,aW h⟩) d)
  | exact aH<|aH (m:=Builtin.Tuple.tupleExact _)<|cS (aW ⟨_,rfl,aW h⟩) d
end
end HT
namespace L2
open PySem PySem.Spec PyProof.Rows
meta abbrev TO:=St->Hp->(ba->Hp->Prop)->Prop
abbrev PO (X:Cx)(e:Option aA)(t:TO):Prop:=
 ∀(pins:bj) (s:az) (σ:St) (H:Hp) (Q:ba->Hp->Prop),Inv X pins σ H s->t σ H Q ->
  wpAny (model X.prog X.w) X.A (evalPart e X.env) (λu s'=>∃o H',Inv X pins σ H' s'/\IsPart u o/\Q o H') X.xe s
abbrev Kl:TO:=λ_ H Q=>Q none H
abbrev O1 (t:TE):TO:=λσ H Q=>t σ H λx H1=>∃i,x=.int i/\Q (some i) H1
def intsAre_of{ns:ae}:∀{us:ap},Vals (ns.map V.int) us->IntsAre us ns:=by
 induction ns with
 | nil=>intro us r;rw[eU]at r;cases r;exact .nil
 | cons n ns d=>
  intro us r;rw[bS]at r
  cases r with
  | cons r1 r2=>
   obtain⟨t,e⟩:=r1;subst e;exact .cons n t<|d r2
section
variable {X:Cx}{e:aA}{te:TE}{lo hi:Option aA}{tl th:TO}{pos p2:Pos}
def JA:PO X none Kl:=by
 k_ne;rw[evalPart_none];exact aW ⟨none,H,I,.none,h⟩
def B4(h:PE X e te):PO X (some e) (O1 te):=by
 intro pins s σ H Q I hw;rw[evalPart_some];refine jM (h pins s σ H _ I hw) λu f ⟨x,H1,I1,r1,d⟩=>?_;obtain⟨i,rfl,q⟩:=d;obtain⟨t,rfl⟩:=r1;exact⟨some i,H1,I1,.int i t,q⟩
abbrev QK (X:Cx)(r:V->ba->ba->Hp->VK->Prop):Prop:=
 ∀(pins:bj) (s:az) (σ:St) (H:Hp) (x:V) (v f d:aa) (lo hi:ba) (g:aj) (Q:VK),Inv X pins σ H s->RelV x v->s.heap.IsSliceOf g f d .none->IsPart f lo->IsPart d hi->r x lo hi H Q ->
  ∃T id,typeLookup (.type T) "__getitem__" = pure (some<|.builtin id)/\s.TypeIs v T/\wpAny (model X.prog X.w) X.A (getItem v<|.ref g) (EP X pins σ Q) X.xe s
abbrev Ub (r:V->ba->ba->Hp->VK->Prop)(te:TE)(tl th:TO):TE:=λσ H Q=>te σ H λx H1=>tl σ H1 λl H2=>th σ H2 λu d=>r x l u d Q
def HK{r:V->ba->ba->Hp->VK->Prop}(hr:QK X r)(he:PE X e te)(hl:PO X lo tl)(hu:PO X hi th):PE X (.Subscript e (.Slice lo hi none p2) pos) (Ub r te tl th):=by
 k_ne;refine Subscript_<|jM (he pins s σ H _ I h) λv J ⟨x,H1,I1,r1,G⟩=>?_;refine wpAny_Slice<|jM (hl pins J σ H1 _ I1 G) λg K ⟨l,H2,z,F,p⟩=>jM (hu pins K σ H2 _ z p) λf d ⟨u,j,B,C,k⟩=>?_;rw[evalPart_none];refine aW ?_;have m:Inv X pins σ j { d with heap:=d.heap.push { cls:=.type "slice",data:=.fields #[g,f,.none]}}:=B.kept (t':=d.toks) λb L q=>aS _ q;obtain⟨T,id,hT,ht,hg⟩:=hr pins { d with heap:=d.heap.push { cls:=.type "slice",data:=.fields #[g,f,.none]}} σ j x v g f l u d.heap.objs.size Q m r1 (Heap.IsSliceOf.new ..) F C k
 skip
 exact tail_any (ops:=[.ref d.heap.objs.size,v]) ht hT hg<|by with_unfolding_all rfl
abbrev zI (xs:List V)(lo hi:ba):List V:=(xs.drop<|HT.lu xs.length 0 lo).take<|HT.lu xs.length xs.length hi-HT.lu xs.length 0 lo
def sS(xs:List V)(lo hi:ba):(zI xs lo hi).length<=xs.length:=by
 unfold zI;rw[bG,cL]
 lia
abbrev QY (K:aq):V->ba->ba->Hp->VK->Prop:=λx lo hi H Q=>∃a xs,x=.ref a/\mZ K H a xs /\
 ¬(HT.lu xs.length 0 lo=0/\HT.lu xs.length xs.length hi=xs.length)/\∀p,H p=none->Q (.ref p) (upd H p<|.tup<|zI xs lo hi)
def MY:QK X (QY X.K):=by
 intro pins s σ H x v F B lo hi C Q I rx hs k m h;obtain⟨a,xs,rfl,p,hw,q⟩:=h
 cases rx
 obtain⟨f,r,j,g⟩:=I.tuple p;have d:f.toArray.size=xs.length:=by rw[aQ];exact r.length.symm
 refine⟨"tuple",_,eB.lookup,j.typeIs,?_⟩;refine HT.qE j hs k m (by rw[d];exact hw) ?_ (by rw[d];exact g);rw[d];refine⟨.ref s.heap.objs.size,_,I.laid (t':=s.toks) (o:=.tup<|zI xs lo hi) (λb z q=>aS _ q) (aM _) ?_,rfl,q _<|I.hok.fresh<|aM _⟩;exact⟨bH (sS xs lo hi) g,_,(r.drop<|HT.lu xs.length 0 lo).take<|HT.lu xs.length xs.length hi-HT.lu xs.length 0 lo,mD.new _ _⟩
abbrev OU (K:aq):R2:=λx y H Q=>∃a b xs ys,x=.ref a/\y=.ref b/\mZ K H a xs/\mZ K H b ys/\xs≠[]/\xs.length+ys.length<=sizeLine /\
 (ys=[]->Q (.ref a) H)/\(ys≠[]->∀p,H p=none->Q (.ref p) (upd H p<|.tup<|xs++ys))
def Vals.yg(r:Vals xs us):us=[] ↔ xs=[]:=by
 cases r with
 | nil=>simp
 | cons _ _=>simp
def KA:ly X (binaryOp .Add) (OU X.K):=by
 gn_on;obtain⟨a,b,xs,ys,rfl,rfl,p,g,m,f,k,j⟩:=h
 cases rx
 cases ry
 obtain⟨B,r1,p1,_⟩:=I.tuple p;obtain⟨d,r2,p2,_⟩:=I.tuple g;refine HT.Jp p1 p2 (λz=>m<|r1.yg.mp z) (λz=>⟨.ref a,H,I,rfl,k<|r2.yg.mp z⟩) (λz=>?_) (by rw[<- r1.length,<- r2.length];exact f);refine⟨.ref s.heap.objs.size,_,I.laid (t':=s.toks) (o:=.tup<|xs++ys) (λb C q=>aS _ q) (aM _) ?_,rfl,j (λw=>z<|r2.yg.mpr w) _<|I.hok.fresh<|aM _⟩;exact⟨by rw[aL];exact f,_,r1.append r2,mD.new _ _⟩
end
abbrev yy (n:Nat)(i:Int):bi:=if 0<=i then(if i<n then some i.toNat else none)else if -(n:Int)<=i then some (i+n).toNat else none
abbrev mL {α:Type}(xs:List α)(i:Int):Option α:=(yy xs.length i).bind λj=>xs[j]?
def Dy{n:Nat}{i:Int}(h:yy n i=some j):seqIndex? i n=some j/\j<n/\-(n:Int)<=i/\i<n:=by
 unfold yy at h;by_cases h0:0<=i
 ·rw[aN h0]at h;by_cases h1:i<n
  ·rw[aN h1]at h;have e:i.toNat=j:=aU h;exact⟨by rw[seqIndex_of h0 h1,e],(),(),h1⟩
  ·rw[aO h1]at h;cases h
 ·rw[aO h0]at h;by_cases h1:-(n:Int)<=i
  ·rw[aN h1]at h;have e:(i+n).toNat=j:=aU h;exact⟨by rw[seqIndex_neg () h1,e],(),h1,()⟩
  ·rw[aO h1]at h;cases h
def xg{α:Type}{xs:List α}{i:Int}{v:α}(h:mL xs i=some v):∃j,seqIndex? i xs.length=some j/\xs[j]?=some v/\j<xs.length/\-(xs.length:Int)<=i/\i<xs.length:=by
 unfold mL at h
 cases e:yy xs.length i with
 | none=>rw[e]at h;cases h
 | some j=>
  rw[e]at h;obtain⟨h1,g,d,f⟩:=Dy e;exact⟨j,h1,h,g,d,f⟩
def Ju{α:Type}{xs:List α}{j:Nat}{v:α}(h:xs[j]?=some v):mL xs (j:Int)=some v:=by
 have d:j<xs.length:=(aI.mp h).1;have e:yy xs.length (j:Int)=some j:=by
  unfold yy;rw[aN (),aN ()];simp
 unfold mL;rw[e];exact h
abbrev Ba (b:aA):Prop:=∀o i,subscripted b false o i=operate [o,i] (getItem o i)
abbrev Qw (X:Cx)(r:R2):Prop:=
 ∀(f d:aA) (pins:bj) (s:az) (σ:St) (H:Hp) (x y:V) (v u:aa) (Q:VK),Inv X pins σ H s->RelV x v->RelV y u->r x y H Q ->
  subscripted d false v u=operate [v,u] (getItem v u)->wpAny (model X.prog X.w) X.A (subscriptTail f d v u) (EP X pins σ Q) X.xe s
abbrev OJ (X:Cx)(id:String)(r:V->List V->Hp->VK->Prop):Prop:=
 ∀(pins:bj) (s:az) (σ:St) (H:Hp) (x:V) (xs:List V) (v:aa) (us:ap) (Q:VK),Inv X pins σ H s->RelV x v->Vals xs us->r x xs H Q ->
  wpAny (model X.prog X.w) X.A (call (.builtin id) (v::us)) (EP X pins σ Q) X.xe s
section
variable {X:Cx}{a b:aA}{ta tb:TE}{pos:Pos}
def Po{r:R2}(J:Qw X r)(ha:PE X a ta)(hb:PE X b tb)(hs:Ba b):PE X (.Subscript a b pos) (PD r ta tb):=by
 k_ne;exact Subscript_<|Mw ha hb I h λv u f x y H2 d rx ry q=>J a b pins f σ H2 x y v u Q d rx ry q<|hs _ _
abbrev Q8 (K:aq):R2:=λx y H Q=>∃p xs i v,x=.ref p/\y=.int i/\kJ K H p xs/\mL xs i=some v/\Q v H
abbrev Rr (K:aq):R2:=λx y H Q=>∃p xs i v,x=.ref p/\y=.int i/\mZ K H p xs/\mL xs i=some v/\Q v H
abbrev RA:R2:=λx y H Q=>∃z i c,x=.str z/\y=.int i/\z.length<=sizeLine/\mL z.cps.toList i=some c/\Q (.str ⟨#[c]⟩) H
def CL:Qw X (Q8 X.K):=by
 intro m k pins s σ H x y v u Q I rx ry h hs;obtain⟨p,xs,i,z,rfl,rfl,N,J,q⟩:=h
 cases rx
 obtain⟨t,rfl⟩:=ry;obtain⟨B,r,g,P⟩:=I.list N;obtain⟨j,h1,F,O,M,G⟩:=xg J;obtain⟨w,C,d⟩:=r.get F;have L:=r.length;have hn:=qj;have fin:EP X pins σ Q w s:=⟨z,H,I,d,q⟩;by_cases h0:0<=i
 ·have f:i.toNat=j:=by
   rw[seqIndex_of h0 G]at h1;exact aU h1
  exact item_listR g.isList h0 () (by rw[f];simpa using C) fin hs
 ·have f:(i+(B.toArray.size:Int)).toNat=j:=by
   rw[seqIndex_neg () M]at h1;rw[aQ,<- L];exact aU h1
  exact subscriptTail_builtinR (x:=w) g.isList.typeIs slot_list_getitem.lookup
   (wpAny_getItem_list_neg (Q:=λr s'=>r=w/\EP X pins σ Q r s') g.isList () (by rw[aQ]<;>lia) () (by rw[f];simpa using C) ⟨rfl,fin⟩) hs
def NS:Qw X (Rr X.K):=by
 intro g f pins s σ H x y v u Q I rx ry h hs;obtain⟨p,xs,i,z,rfl,rfl,G,B,q⟩:=h
 cases rx
 obtain⟨t,rfl⟩:=ry;obtain⟨J,r,k,N⟩:=I.tuple G;obtain⟨j,h1,m,M,O,L⟩:=xg B;obtain⟨w,C,d⟩:=r.get m;have F:=r.length;have hn:=qj;have fin:EP X pins σ Q w s:=⟨z,H,I,d,q⟩;exact subscriptTail_builtinR (x:=w) k.typeIs slot_tuple_getitem.lookup
  (getItem_tuple (j:=j) (Q:=λr s'=>r=w/\EP X pins σ Q r s') k () () (by rw[aQ,<- F];exact h1) (by simpa using C) ⟨rfl,fin⟩) hs
def Nj:Qw X RA:=by
 intro f d pins s σ H x y v u Q I rx ry h hs;obtain⟨z,i,c,rfl,rfl,G,m,q⟩:=h;kst_p;obtain⟨C,rfl⟩:=ry;obtain⟨j,h1,g,F,B,k⟩:=xg m;have p:z.cps.toList.length=z.length:=by simp[Str.length]
 rw[p]at h1 B k;have hn:=qj;exact tail_any (typeIs_str s z t) slot_str_getitem.lookup (getItem_str (c:=c) (by
  have e1:decide (i < -(2 ^ 63:Int))=false:=aZ ();have e2:decide (i>=2 ^ 63)=false:=aZ ();rw[e1,e2,Bool.or_false]) (by rw[h1];simpa using g) ⟨.str ⟨#[c]⟩,H,I.tok _,⟨_,rfl⟩,q⟩) hs
def AQ(its:ap)(n j:Nat)(u:aa):Obj.mapSeq (·.setIfInBounds j u) { cls:=.type "list",data:=.seq its.toArray n }={ cls:=.type "list",data:=.seq (its.set j u).toArray n }:=by
 simp[Obj.mapSeq]
def Inv.lst{H:Hp}{s:az}{p:aj}{xs:List V}(I:Inv X pins σ H s)(h:H p=some (.lst xs)) :
  ∃(its:ap) (n:Nat),Vals xs its/\s.heap.get? p=some { cls:=.type "list",data:=.seq its.toArray n }/\xs.length<=sizeLine:=by
 obtain⟨z,its,n,r,e⟩:=I.hok p _ h;exact⟨its,n,r,e,z⟩
def Inv.N5{H:Hp}{s:az}{p:aj}{ys:List V}{its its':ap}{n:Nat}{f:Obj->Obj}(I:Inv X pins σ H s)(h:H p=some (.lst xs))
  (J:s.heap.get? p=some { cls:=.type "list",data:=.seq its.toArray n }) (hf:f { cls:=.type "list",data:=.seq its.toArray n }={ cls:=.type "list",data:=.seq its'.toArray n' }) (r:Vals ys its') (hz:ys.length<=sizeLine) (t:Nat) :
  Inv X pins σ (upd H p<|.lst ys) { s with heap:=s.heap.update p f,toks:=t }:=by
 have e:(s.heap.update p f).get? p=some { cls:=.type "list",data:=.seq its'.toArray n' }:=by
  rw[Heap.get?_update_self f J<|by rw[hf]<;>rfl,hf]
 refine I.write (x:=p) (e:=p) (by rw[h];trivial) (.inl rfl) (λb u d q=>(Heap.get?_update_other _ _<|eE d).trans q) ⟨_,e⟩ ?_;exact⟨hz,its',n',r,e⟩
abbrev PX:V->V->V->Hp->(Hp->Prop)->Prop:=λo i v H Q=>∃p xs k j,o=.ref p/\i=.int k/\H p=some (.lst xs)/\yy xs.length k=some j/\Q (upd H p<|.lst<|xs.set j v)
def set_list:Gd X PX:=by
 intro pins s σ H o i v O P u Q I L J M h;obtain⟨p,xs,k,j,rfl,rfl,B,G,q⟩:=h
 cases L
 obtain⟨t,rfl⟩:=J;obtain⟨d,n,r,m,K⟩:=I.lst B;obtain⟨h1,N,C,F⟩:=Dy G;have g:=r.length;have hn:=qj;have z:Inv X pins σ (upd H p<|.lst<|xs.set j v) { s with heap:=s.heap.update p<|Obj.mapSeq (·.setIfInBounds j u)}:=
  I.N5 B m (AQ d n j u) (r.set M j) (by rw[bD];exact K) s.toks
 by_cases h0:0<=k
 ·have f:k.toNat=j:=by
   rw[seqIndex_of h0 F]at h1;exact aU h1
  exact PySem.W.ki_setAt m h0 () (by rw[aQ,<- g];exact F)<|by rw[f];exact⟨_,z,q⟩
 ·have f:(k+(d.toArray.size:Int)).toNat=j:=by
   rw[seqIndex_neg () C]at h1;rw[aQ,<- g];exact aU h1
  exact PySem.W.ki_setBack m () (by rw[aQ,<- g];exact C) ()<|by rw[f];exact⟨_,z,q⟩
def wW(lo hi:ba)(n:Nat):(sliceBounds lo hi none n).1=((HT.lu n 0 lo:Nat):Int)/\(sliceBounds lo hi none n).2.1=((HT.lu n n hi:Nat):Int)/\(sliceBounds lo hi none n).2.2=1:=by
 refine⟨?_,?_,rfl⟩
 ·cases lo with
  | none=>simp[sliceBounds,HT.lu]
  | some i=>
   dsimp[sliceBounds,HT.lu,g_,show(1:Int)>0 by decide,cU];by_cases h:i<0
   ·dsimp[h,cU]<;>lia
   ·dsimp[h,cR]<;>lia
 ·cases hi with
  | none=>simp[sliceBounds,HT.lu]
  | some i=>
   dsimp[sliceBounds,HT.lu,g_,show(1:Int)>0 by decide,cU];by_cases h:i<0
   ·dsimp[h,cU]<;>lia
   ·dsimp[h,cR]<;>lia
def vG(its:ap)(lo hi:ba):slicePick its.toArray lo hi none=((its.drop<|HT.lu its.length 0 lo).take<|HT.lu its.length its.length hi-HT.lu its.length 0 lo).toArray:=by
 obtain⟨h1,d,f⟩:=wW lo hi its.toArray.size;unfold slicePick;rw[h1,d,f];dsimp[sliceRange_one,pick_run,aQ]<;>rfl
abbrev RM (K:aq):V->ba->ba->Hp->VK->Prop:=λx lo hi H Q=>∃a xs,x=.ref a/\kJ K H a xs/\∀p,H p=none->Q (.ref p) (upd H p<|.lst<|zI xs lo hi)
def BS:QK X (RM X.K):=by
 intro pins s σ H x v F B lo hi C Q I rx hs j k h;obtain⟨a,xs,rfl,m,q⟩:=h
 cases rx
 obtain⟨p,r,f,g⟩:=I.list m;have d:=r.length;refine⟨"list",_,slot_list_getitem.lookup,f.isList.typeIs,?_⟩;refine wpAny_getItem_list_slice f.isList hs j k .none (by simp) ?_ (by rw[aQ]<;>lia);rw[vG,<- d];refine⟨.ref s.heap.objs.size,_,I.laid (t':=s.toks) (o:=.lst<|zI xs lo hi) (λb z q=>aS _ q) (aM _) ?_,rfl,q _<|I.hok.fresh<|aM _⟩;exact⟨bH (sS xs lo hi) g,_,0,(r.drop<|HT.lu xs.length 0 lo).take<|HT.lu xs.length xs.length hi-HT.lu xs.length 0 lo,bI _ rfl⟩
abbrev T6:V->V->Bool
 | .non,.non=>true
 | .bl a,.bl b=>a == b
 | .bl a,.int b=>(if a then 1 else 0) == b
 | .int a,.bl b=>a == (if b then 1 else 0)
 | .int a,.int b=>a == b
 | .str a,.str b=>a == b
 | _,_=>false
def oH:jo X (.type "list") (λxs H Q=>∃p ys,xs=[.ref p]/\(kJ X.K H p ys\/mZ X.K H p ys)/\∀l,H l=none->Q (.ref l) (upd H l<|.lst ys)):=by
 kd_p;obtain⟨p,ys,rfl,m,q⟩:=h;kln_w
 cases rx
 have fin:∀(d:ap),Vals ys d->ys.length<=sizeLine->∀(h':ak) (g:Nat),(∀b o',s.heap.get? b=some o'->h'.get? b=some o') ->
   h'.get? s.heap.objs.size=some { cls:=.type "list",dict:=none,data:=.seq d.toArray g,slots:=#[]}->EP X pins σ Q (.ref s.heap.objs.size) { s with heap:=h' }:=λd f k h' g kp e=>
  ⟨.ref s.heap.objs.size,_,I.laid (t':=s.toks) kp (aM _)<|show kj X.prog X.w _ h' _ (.lst ys)from⟨k,d,g,f,e⟩,rfl,q _<|I.hok.fresh<|aM _⟩
 rcases m with m|m
 ·obtain⟨d,f,z,k⟩:=I.list m;have j:=f.length;obtain⟨o,B,hc,n,hd⟩:=z.isList;exact call_list_seq p (.inl rfl) B hc hd (λh' g kp e=>fin d f k h' g kp e) (by dsimp[aQ]<;>lia)
 ·obtain⟨d,f,z,k⟩:=I.tuple m;have j:=f.length;obtain⟨o,B,hc,n,hd⟩:=z;exact call_list_seq p (.inr rfl) B hc hd (λh' g kp e=>fin d f k h' g kp e)<|by dsimp[aQ]<;>lia
def nP:jo X (.type "tuple") (λxs H Q=>∃p ys,xs=[.ref p]/\((kJ X.K H p ys/\∀l,H l=none->Q (.ref l) (upd H l<|.tup ys))\/(mZ X.K H p ys/\Q (.ref p) H))):=by
 kd_p;obtain⟨p,ys,rfl,h⟩:=h;kln_w
 cases rx
 rcases h with⟨j,q⟩|⟨j,q⟩
 ·obtain⟨d,f,g,m⟩:=I.list j;have k:=f.length;refine call_tuple_list g.isList (λh' kp=>?_) (by dsimp[aQ]<;>lia);have I1:Inv X pins σ H { s with heap:=h' }:=I.kept (t':=s.toks) kp;have z:Inv X pins σ (upd H h'.objs.size<|.tup ys) { s with heap:=h'.push { cls:=.type "tuple",data:=.seq d.toArray }}:=
   I1.laid (t':=s.toks) (λb o e=>aS _ e) (aM _) (show kj X.prog X.w _ _ _ (.tup ys)from⟨m,d,f,mD.new _ _⟩)
  exact⟨.ref h'.objs.size,_,z,rfl,q _<|I1.hok.fresh<|aM _⟩
 ·obtain⟨d,f,g,m⟩:=I.tuple j;exact call_tuple_same g ⟨.ref p,H,I,rfl,q⟩
abbrev Rc (K:aq)(T:String)(x:V)(H:Hp):Prop:=match x with
 | .str _=>T = "str"
 | .int _=>T = "int"
 | .ref p=>(T = "list" /\ ∃xs,kJ K H p xs)\/(T = "tuple" /\ ∃o,K.lookup p=some o/\o.cls=.type "tuple" /\ o.dict=none) \/
   (T = "dict" /\ ((∃d,H p=some (.dK d))\/∃d,H p=some (.dT d)))\/(T = "set" /\ ∃S n,H p=some (.set S n))
 | _=>False
def NN{H:Hp}{s:az}{x:V}{v:aa}(I:Inv X pins σ H s)(r:RelV x v)(ty:Rc X.K T x H) :
  s.TypeIs v T/\∀a,v=.ref a->∃ob,s.heap.get? a=some ob/\ob.dict=none:=by
 cases x with
 | str z=>
  obtain⟨t,rfl⟩:=r
  cases(show T = "str" from ty)
  exact⟨typeIs_str s z t,nofun⟩
 | int i=>
  obtain⟨t,rfl⟩:=r
  cases(show T = "int" from ty)
  exact⟨typeIs_int s i t,nofun⟩
 | ref p=>
  cases r
  rcases ty with⟨rfl,xs,j⟩|⟨rfl,o,d,hc,hd⟩|⟨rfl,d⟩|⟨rfl,S,n,d⟩
  ·obtain⟨k,_,g,_⟩:=I.list j;refine⟨g.isList.typeIs,λa e=>?_⟩
   cases e
   obtain⟨o,n,e,c,hd,_⟩:=g;exact⟨o,e,hd⟩
  ·refine⟨⟨o,I.OH p o d,hc⟩,λa e=>?_⟩
   cases e
   exact⟨o,I.OH _ o d,hd⟩
  ·have z:∃o,s.heap.get? p=some o/\o.ExactDict:=by
    rcases d with⟨f,d⟩|⟨f,d⟩
    ·obtain⟨_,_,_,_,o,_,_,e,ex,_⟩:=I.hok p _ d;exact⟨o,e,ex⟩
    ·obtain⟨_,_,_,_,o,_,_,e,ex,_⟩:=I.hok p _ d;exact⟨o,e,ex⟩
   obtain⟨o,e,ex⟩:=z;refine⟨⟨o,e,ex.1⟩,λa e2=>?_⟩
   cases e2
   exact⟨o,e,ex.2.1⟩
  ·obtain⟨o,_,_,_,e,ex,_⟩:=I.hok p _ d;refine⟨⟨o,e,ex.1⟩,λa e2=>?_⟩
   cases e2
   exact⟨o,e,ex.2.1⟩
 | _=>exact False.elim ty
abbrev TX (K:aq)(T:String)(r:V->List V->Hp->VK->Prop)(to:TE)(t:TA):TE:=λσ H Q=>to σ H λx H1=>Rc K T x H1/\t σ H1 λxs H2=>r x xs H2 Q
variable {o e:aA}{es:List aA}{to:TE}{t:TA}{name:Str}{apos cpos:Pos}{T id:String}{r:V->List V->Hp->VK->Prop}
def O2(pa:PlainAttrs T)(slot:Slot T name id)(hty:typeOf (.builtin id)=pure (.type "method_descriptor"))(hm:OJ X id r)(ho:PE X o to)(ha:PA X (e::es) t)
  (hbase:attributeBase o name X.env (eval o X.env)=eval o X.env<|>θ)
  (hfew:(((backTo cpos<|starEach (e::es) X.env).all (λx=>!x.1) && (backToKw cpos<|keywordEach [] X.env).all (λx=>x.1.isSome)
   && decide ((e::es).length+([]:List Keyword).length+(if ([]:List Keyword).isEmpty then 0 else 1)<30))=true)<|>θ)
  (hline:(apos.endLine == cpos.line)=true<|>θ) (hs:starEach (e::es) X.env=(false,eval e X.env)::starEach es X.env<|>θ) (J:((backTo cpos<|starEach es X.env).any (·.1)=false)<|>θ) :
  PE X (.Call (.Attribute o name apos) (e::es) [] cpos) (TX X.K T r to t):=by
 k_ne;refine wpAny_Call_method_late hbase hfew hline rfl<|jM (ho pins s σ H _ I h) λv q ⟨x,H1,I1,r1,ty,m⟩=>?_;obtain⟨h1,p⟩:=NN I1 r1 ty;refine⟨T,id,pa,slot,hty,h1,p,?_⟩;have d:=ha cpos pins q σ H1 _ I1 m;rw[hs]at d ⊢;refine Calls.callWith_builtin (by show(false || (backTo cpos<|starEach es X.env).any (·.1))=false;rw[J]<;>rfl)<|Calls.evalArgs_plain ?_;exact jM d λus g ⟨k,H2,j,r2,f⟩=>hm pins g σ H2 x k v us Q j r1 r2 f
end
abbrev TH (X:Cx)(id:String)(r:V->List V->Hp->VK->Prop):Prop:=
 ∀(pins:bj) (s:az) (σ:St) (H:Hp) (x:V) (xs:List V) (v:aa) (us:ap) (Q:VK),Inv X pins σ H s->RelV x v->Vals xs us->r x xs H Q ->
  wpAny (model X.prog X.w) X.A (call (.builtin id) (v::us)) (EP X pins σ Q) X.xe s
def Vals.one:∀{x:V}{us:ap},Vals [x] us->∃u,us=[u]/\RelV x u
 | _,_,.cons r .nil=>⟨_,rfl,r⟩
theorem Vals.eraseIdx:∀{xs:List V}{us:ap}(i:Nat),Vals xs us->Vals (xs.eraseIdx i) (us.eraseIdx i)
 | _,_,_,.nil=>.nil
 | _,_,0,.cons _ t=>t
 | _,_,i+1,.cons r t=>.cons r<|Vals.eraseIdx i t
theorem Vals.rep(h:Vals xs us):∀k:Nat,Vals (List.replicate k xs).flatten (List.replicate k us).flatten
 | 0=>.nil
 | k+1=>by
  rw[c_,c_,dI,dI];exact Vals.append h<|Vals.rep h k
theorem v9{α:Type}:∀(l:List α) (i:Nat),(l.eraseIdx i).length<=l.length
 | [],_=>aM _
 | _::_,0=>iB _
 | _::r,i+1=>gz<|v9 r i
theorem foldl_rep(its:ap):∀(k:Nat) (acc:ap),
  List.foldl (λx1 x2=>x1++x2) acc.toArray (List.replicate k its.toArray)=(acc++(List.replicate k its).flatten).toArray
 | 0,acc=>by simp
 | k+1,acc=>by
  have e:acc.toArray++its.toArray=(acc++its).toArray:=by simp
  have e2:(acc++its)++(List.replicate k its).flatten=acc++(List.replicate (k+1) its).flatten:=by
   rw[c_,dI,br]
  rw[<- e2,<- foldl_rep its k (acc++its),<- e,c_,iy]
section
variable {X:Cx}{pins:bj}{σ:St}{H:Hp}{s:az}{l:aj}{xs ys:List V}
def Inv.MB{its its':ap}{n:Nat}{f:Array aa->Array aa}{t':Nat}(I:Inv X pins σ H s)(J:H l=some (.lst xs))
  (e:s.heap.get? l=some { cls:=.type "list",data:=.seq its.toArray n }) (hf:f its.toArray=its'.toArray) (hv:Vals ys its') (hz:ys.length<=sizeLine) :
  Inv X pins σ (upd H l<|.lst ys) { s with heap:=s.heap.update l<|Obj.mapSeq f,toks:=t' }:=by
 have q:=PySem.IsL.update e f;rw[hf]at q;refine I.write (x:=l) (e:=l) (by rw[J];exact trivial) (.inl rfl) (λj u d g=>(Heap.get?_update_other s.heap (Obj.mapSeq f)<|eE d).trans g) ⟨_,q⟩ ?_;exact⟨hz,its',_,hv,q⟩
def Inv.K2{its:ap}{t':Nat}(I:Inv X pins σ H s)(hv:Vals ys its)(J:ys.length<=sizeLine) :
  Inv X pins σ (upd H s.heap.objs.size<|.lst ys) { s with heap:=s.heap.push { cls:=.type "list",data:=.seq its.toArray },toks:=t' }:=
 I.laid (λ_ _ q=>aS _ q) (aM _) ⟨J,its,0,hv,bI _ rfl⟩
def Inv.fresh(I:Inv X pins σ H s):H s.heap.objs.size=none:=I.hok.fresh<|aM _
def Inv.zL(I:Inv X pins σ H s)(J:H l=some (.lst xs)):xs.length<=sizeLine/\∃(its:ap) (n:Nat),Vals xs its/\xs.length=its.length/\s.heap.get? l=some { cls:=.type "list",data:=.seq its.toArray n }:=by
 obtain⟨z,its,n,r,e⟩:=I.hok l _ J;exact⟨z,its,n,r,r.length,e⟩
def zg{n:Nat}(h:n<=sizeLine):Builtin.List.listTooLong n=false:=by
 unfold Builtin.List.listTooLong;exact aZ ()
end
section
variable {X:Cx}
abbrev K8:V->List V->Hp->VK->Prop:=λx d H Q=>∃l xs y,x=.ref l/\d=[y]/\H l=some (.lst xs)/\xs.length<sizeLine/\Q .non (upd H l<|.lst<|xs++[y])
def sd:TH X "list.append" K8:=by
 intro pins s σ H x k v us Q I rx j h;obtain⟨l,xs,y,rfl,rfl,f,m,q⟩:=h
 cases rx
 obtain⟨u,rfl,g⟩:=j.one;obtain⟨z,d,n,r,p,e⟩:=I.zL f;refine fR F.slot_list_append ⟨_,e,rfl⟩ F.entry_list_append (F.args_list_append_2 _ _) (PySem.list_append l d.toArray n u<|by rw[aQ];lia) ⟨e,?_⟩;refine⟨.non,_,I.MB (its':=d++[u]) f e (by simp) (r.append<|.cons g .nil) ?_,rfl,q⟩;rw[aL,List.length_singleton]
 lia
abbrev K3:V->List V->Hp->VK->Prop:=λx d H Q=>∃l b xs zs,x=.ref l/\d=[.ref b]/\H l=some (.lst xs)/\H b=some (.lst zs)/\xs.length+zs.length<=sizeLine/\Q .non (upd H l<|.lst<|xs++zs)
def DA:TH X "list.extend" K3:=by
 intro pins s σ H x J v us Q I rx G h;obtain⟨l,b,xs,zs,rfl,rfl,k,B,L,q⟩:=h
 cases rx
 obtain⟨u,rfl,m⟩:=G.one
 cases m
 obtain⟨z,f,n,r,M,e⟩:=I.zL k;obtain⟨K,d,p,r2,C,e2⟩:=I.zL B;have j:f.toArray.size+d.toArray.size<=sizeLine:=by rw[aQ,aQ];lia
 have g:¬(!f.toArray.isEmpty && Builtin.List.listTooLong (f.toArray.size+d.toArray.size))=true:=by
  rw[zg j,Bool.and_false];exact bN
 refine fR F.slot_list_extend ⟨_,e,rfl⟩ F.entry_list_extend (F.args_list_extend_2 _ _)
  (AutoSeq1.list_extend_list_list_0 l f.toArray n b d.toArray p g (by rw[aQ];lia) ()) ⟨e,e2,?_⟩
 refine⟨.non,_,I.MB (its':=f++d) k e (by simp) (r.append r2) ?_,rfl,q⟩;rw[aL]
 lia
abbrev Q6:R2:=λx y H Q=>∃l b xs zs,x=.ref l/\y=.ref b/\H l=some (.lst xs)/\H b=some (.lst zs)/\xs.length+zs.length<=sizeLine/\∀p,H p=none->Q (.ref p) (upd H p<|.lst<|xs++zs)
def NB:ly X (binaryOp .Add) Q6:=by
 gn_on;obtain⟨l,b,xs,zs,rfl,rfl,m,j,C,q⟩:=h
 cases rx
 cases ry
 obtain⟨z,f,n,r,F,e⟩:=I.zL m;obtain⟨B,d,p,r2,k,e2⟩:=I.zL j;refine PySem.P.add_list e e2 ?_ (by rw[aQ,aQ];lia);have g:f.toArray++d.toArray=(f++d).toArray:=by simp
 rw[g];exact⟨.ref _,_,I.K2 (t':=s.toks) (r.append r2)<|by rw[aL];lia,rfl,q _ I.fresh⟩
abbrev RQ:R2:=λx y H Q=>∃l k xs,x=.ref l/\y=.int k/\H l=some (.lst xs)/\-(2 ^ 63)<=k/\k<2 ^ 63/\xs.length * k.toNat<=sizeLine /\
 ∀p,H p=none->Q (.ref p) (upd H p<|.lst (List.replicate k.toNat xs).flatten)
def len_rep{α:Type}(xs:List α)(k:Nat):(List.replicate k xs).flatten.length=k * xs.length:=by
 induction k with
 | zero=>simp
 | succ k d=>rw[c_,dI,aL,d,Nat.succ_mul,Nat.add_comm]
def MH:ly X (binaryOp .Mult) RQ:=by
 gn_on;obtain⟨l,k,xs,rfl,rfl,M,h1,K,J,q⟩:=h
 cases rx
 obtain⟨t,rfl⟩:=ry;obtain⟨z,d,n,r,L,e⟩:=I.zL M;have j:d.toArray.size * k.toNat<=sizeLine:=by rw[aQ,<- L];exact J
 have p:¬d.toArray.size * k.toNat>(2 ^ 63-1) / 8:=by
  have:(sizeLine:Nat)<=(2 ^ 63-1) / 8:=by decide
  omega
 have g:¬(!Builtin.List.listFitsIndex k)=true:=by
  rw[fitsIndex_both h1 K];exact bN
 have f:¬Builtin.List.listTooLong (d.toArray.size * k.toNat)=true:=by
  rw[zg j];exact bN
 have B:List.foldl (λG C=>G++C) #[] (List.replicate (if d.toArray.isEmpty=true then 0 else k.toNat) d.toArray)=(List.replicate k.toNat d).flatten.toArray:=by
  have f0:∀m:Nat,List.foldl (λG C=>G++C) #[] (List.replicate m d.toArray)=(List.replicate m d).flatten.toArray:=λm=>by
   have:=foldl_rep d m [];rw[cI]at this;exact this
  rw[f0]
  cases d with
  | nil=>simp
  | cons a N=>rw[aO<|by simp]
 refine wpAny_binaryOp_repeat_ref (T := "list") (U := "int") ⋯ ⟨_,e,rfl⟩ (λs'=>typeIs_int s' k t) noFill_list_mul F.fills_int_mul F.slot_int_rmul repeat_list F.slot_int_index.lookup
  (fR F.slot_int_rmul (typeIs_int s k t) F.entry_int_rmul (F.args_int_rmul_2 _ _) (int___rmul___int_list k t l d.toArray n)
   ⟨e,rfl,⟨_,e,rfl⟩,fR F.slot_list_mul ⟨_,e,rfl⟩ F.entry_list_mul (F.args_list_mul_2 _ _) (AutoListH.list___mul___list_int_3 l d.toArray n k t g p f) ⟨e,?_⟩⟩)
 rw[B];exact⟨.ref _,_,I.K2 (t':=s.toks) (r.rep k.toNat)<|by rw[len_rep,Nat.mul_comm];exact J,rfl,q _ I.fresh⟩
end
end L2
namespace Att
open PySem PySem.W PySem.Calls PyProof.Rows
def s_{P:Params}:∀(ns:ae) (vs:ap),WellAll P h vs (ns.map WData.int)->IntsAre vs ns:=by
 intro ns
 induction ns with
 | nil=>
  intro vs w;rw[eU]at w
  cases w
  exact .nil
 | cons n ns d=>
  intro vs w;rw[bS]at w
  cases w with
  | cons a b=>
   cases a
   exact .cons _ _<|d _ b
def Ec{l:OpenLaw}{n:Nat}(hn:l.most=some n){P:Params}{h:ak}
  (J:l.row.toRowW.claim.pre args=true) (hwl:WellAll P h vals args) :
  ∃a vs ns,vals=[Value.ref a]/\args=[WData.list<|ns.map WData.int]/\h.get? a=some { cls:=.type "list",data:=.seq vs.toArray }/\IntsAre vs ns/\ns.length<=n:=by
 have m:WShape.hasAll [] args [.list .int]=true:=(pre_splitW J).1;have hc:l.pre.holds [] { args:=args }=true:=(pre_splitW J).2;obtain⟨d,r,rfl,h1,C⟩:=hasAllW_cons m;obtain rfl:=hasAllW_nil C;obtain⟨xs,rfl,z⟩:=hasW_list h1;obtain⟨ns,rfl⟩:=items_int z;have g:ns.length<=n:=by
  unfold OpenLaw.pre at hc;have k:(WTm.not<|.lt (.lit<|.int (n:Int))<|.len<|.arg 0).holds [] { args:=[.list<|ns.map .int]}=true:=by
   have k:=(holds_andW hc).1;rw[hn]at k;exact k
  have j:=condW_of k<|w_not<|w_lt w_lit<|w_len_list<|w_arg rfl;rw[aG]at j;refine Nat.le_of_not_lt λq=>?_;have B:(n:Int)<((ns.length:Nat):Int):=by omega
  first
   | (rw[bf B]at j;exact absurd j ⋯)
   | (simp at j;omega)
 cases hwl with
 | cons G p=>
  cases p
  cases G with
  | list F f=>exact⟨_,_,ns,rfl,rfl,F,s_ ns _ f,g⟩
def Ek(l:OpenLaw)(args:List WData):l.row.toRowW.claim.post args (.bool true) args=true:=
 postW_of (r:=l.row.toRowW) (X:=(true == true))
  (show WShape.has [] (.bool true) .bool=true by first|rfl|decide|simp[WShape.has,WShape.arms,WShape.armsAll])
  (show(WTm.eq .res<|.lit<|.bool true).value [] { args:=args,res:=some<|.bool true,after:=args }=some (.bool<|true == true)from w_eq_bool (w_res rfl) w_lit) rfl
def yE{l:OpenLaw}{n:Nat}{q:ah}{XP:(Str->aw)->ak->Prop}{YP:af->ak->Prop}{d:DefRec}
  (hn:l.most=some n) (hdf:d.params.defaults=[])
  (call:∀(w:af) (s₀ s₁:az) (mg mb:Str->aw) (fa:aj) (o:Obj) (pm cd doc:aa) (a:aj) (vs:ap) (ns:ae),
   Ground q loose [] XP w s₀ mg mb s₁.heap->YP w s₁.heap ->
   s₁.heap.get? fa=some o->o.data=.func (docDef d.name d.params d.body d.scope pm cd doc)->s₁.heap.CodeRec cd d.name->mg d.name=some (.ref fa) ->
   s₁.heap.get? a=some { cls:=.type "list",data:=.seq vs.toArray }->IntsAre vs ns->ns.length<=n->s₁.gens=#[] ->
   codeAny (model l.prog w) callerA (.call (.ref fa) ⟨[.ref a],[]⟩) (λr s'=>r=.ok (.ret<|.bool true)/\OldK s₁.heap s'.heap/\s'.os=s₁.os/\AllBare s'.gens) s₁) :
  WalkO q loose XP YP l.row.toRowW d [] (λf vs=>PySem.call f vs):=by
 intro w s₀ s₁ mg mb G Y fa o pm cd doc O kV U hd B F z hg K C Z m J N p V;obtain rfl:O=.none:=Dflts.none F hdf;obtain rfl:kV=.none:=Dflts.noKw F;obtain⟨a,vs,ns,rfl,rfl,j,g,k⟩:=Ec hn m p;refine enter_call<|f7 (call w s₀ s₁ mg mb fa o pm cd doc a vs ns G Y U (fd_plain hd) B z j g k hg) λr s' W=>?_;obtain⟨rfl,M,P,T⟩:=W;exact⟨.inl ⟨.bool true,.bool true,[],rfl,λ_=>rfl,.bool true,Ek l _,λ_=>⟨List.Pairwise.nil,λ_ L=>(nomatch L)⟩⟩,M,P,T⟩
end Att
namespace L2
open PySem PySem.Spec PyProof.Rows
theorem se:∀{vs:ap}{ns:ae},IntsAre vs ns->Vals (ns.map V.int) vs
 | _,_,.nil=>.nil
 | _,_,.cons n t h=>.cons ⟨t,rfl⟩<|se h
abbrev Jz (H:Hp):Prop:=∀b,H b=none\/∃o xs,H b=some (.frz o<|.lst xs)
def FA{P:ah}{w:af}{K:aq}{mg mb:Str->aw}{CX:Jg}{k:Nat}{fa a:aj}{x:Str}{sp:Sp}{s₁:az}{vs:ap}{ns:ae}
  (KX:K.In s₁.heap) (hns:s₁.heap.Ns mainGlobals mg) (hb:s₁.heap.Ns builtinsNs mb) (hbb:∀x:Str,x ≠ "__name__" -> mb x=bootBuiltins x) (hlim:s₁.heap.NoLimit) (hg:s₁.gens=#[])
  (ha:s₁.heap.get? a=some { cls:=.type "list",data:=.seq vs.toArray }) (hi:IntsAre vs ns) (hl:ns.length<=sizeLine) (hr:Room k callerA)
  (F:∀base:ak,K.In base->base.Ns mainGlobals mg->FnOk P w K mg base CX k fa fd [x] sp) (hbind:∀(s:az) (u:aa),BindsTo s fd ⟨[u],[]⟩ [(x,u)])
  (hsp:∀H:Hp,Jz H->kJ K H a (ns.map V.int)->sp [.ref a] H (λv _=>v=.bl true) λ_ _ _=>False)
  (hCX:∀H e s',CX [] H s₁ (λ_ _ _=>False) e s'->False) :
  codeAny (model P w) callerA (.call (.ref fa) ⟨[.ref a],[]⟩) (λr s'=>r=.ok (.ret<|.bool true)/\OldK s₁.heap s'.heap/\s'.os=s₁.os/\AllBare s'.gens) s₁:=by
 have W:=se hi;have G:=hi.length;have j:∀H:Hp,Jz H->kJ K H a (ns.map V.int)->qB P w H s₁.heap->(∀b,H b≠none->b=a)->(H a≠none->K.lookup a=none) ->
   codeAny (model P w) callerA (.call (.ref fa) ⟨[.ref a],[]⟩) (λr s'=>r=.ok (.ret<|.bool true)/\OldK s₁.heap s'.heap/\s'.os=s₁.os/\AllBare s'.gens) s₁:=by
  intro H T hS hok U hK;have f:∀{b:aj} {o:Obj},s₁.heap.get? b=some o->H b=none->(xC s₁.heap H).get? b=some o:=λe n=>G4 e n;have O:∀{b:aj} {o:Obj} {es:Array DictEntry} {C:Nat},s₁.heap.get? b=some o->o.data=.dict es C->H b=none:=λ{b o es C} e d=>by
   cases q:H b with
   | none=>rfl
   | some u=>
    have M:b=a:=U b (by rw[q];simp);subst M;rw[ha]at e;cases e;have d':Data.seq vs.toArray _=Data.dict es C:=d
    cases d'
  have g:∀{b:aj} {m:Str->aw},s₁.heap.Ns b m->(xC s₁.heap H).Ns b m:=λ{b m} ⟨o,es,C,e,d,r⟩=>⟨o,es,C,f e<|O e d,d,r⟩;have p:K.In (xC s₁.heap H):=λb o e=>f (KX b o e) (by
   cases q:H b with
   | none=>rfl
   | some u=>
    have M:b=a:=U b (by rw[q];simp);subst M;rw[hK<|by rw[q];simp]at e;cases e)
  have Z:Mod K mg (xC s₁.heap H):=⟨p,g hns,⟨mb,g hb,hbb⟩,let⟨mc,h1,h2⟩:=hlim;⟨mc,g h1,h2⟩⟩;have e0:Env0 P w K mg (xC s₁.heap H) callerA [] s₁ H:=⟨rfl,Z,λb o e=>Ke e,Nat.le_of_eq<|D_ _ _,trivial,λb hb=>absurd (show b∈([]:ar)from hb)<|by simp,hok,.of_eq hg⟩;refine f7 ((F _ p<|g hns).run callerA [] s₁ H ⟨[.ref a],[]⟩ [.ref a] [.ref a] _ _ hr e0 (hbind s₁<|.ref a) (.cons rfl .nil)<|hsp H T hS) λr s' h=>?_
  cases r with
  | error e=>exact(hCX H e s' h).elim
  | ok fl=>
   cases fl with
   | next=>exact False.elim h
   | brk=>exact False.elim h
   | cont=>exact False.elim h
   | ret u=>
    obtain⟨v,H',os,B,un,L,r',q⟩:=h;have q':v=.bl true:=q;subst q';obtain rfl:u=Value.bool true:=r';refine⟨rfl,OldK.of_keep λb o e=>?_,os,B⟩
    cases q:H b with
    | none=>exact un.keep b o e q (by intro z;exact absurd (show b∈([]:ar)from z)<|by simp) (by simp)
    | some u=>
     rcases T b with z|⟨Y,xs,z⟩
     ·rw[q]at z;cases z
     ·have z2:=un.frzs b Y _ z;obtain⟨e1,_⟩:=hok b _ z;obtain⟨e2,_⟩:=L b _ z2;rw[e]at e1;cases e1;exact e2
 cases N:K.lookup a with
 | some o=>
  have e:=KX a o N;rw[ha]at e
  cases e
  refine j (λ_=>none) (λ_=>.inl rfl) (.inr ⟨_,vs.toArray,_,N,rfl,rfl,rfl,by rw[aQ,G];exact hl,by simpa using W⟩) (λb u z=>by have J:(none:Option HO)=some u:=z;cases J) (λb z=>absurd rfl z) λz=>absurd rfl z
 | none=>
  refine j (λb=>if b=a then some (.frz { cls:=.type "list",data:=.seq vs.toArray } (.lst<|ns.map V.int))else none) (λb=>?_) (.inl<|.inr ⟨{ cls:=.type "list",data:=.seq vs.toArray },aN rfl⟩) (λb u z=>?_) (λb z=>?_) λ_=>N
  ·by_cases hb:b=a
   ·exact .inr ⟨_,_,aN hb⟩
   ·exact .inl<|aO hb
  ·by_cases hb:b=a
   ·have J:=(aN hb).symm.trans z
    cases J
    subst hb;exact⟨ha,by rw[aG];exact hl,vs,_,W,ha⟩
   ·have J:=(aO hb).symm.trans z
    cases J
  ·by_cases hb:b=a
   ·exact hb
   ·exact absurd (aO hb) z
def K6{l:PySem.W.OpenLaw}{n k:Nat}{q:ah}{XP:(Str->aw)->ak->Prop}{YP:af->ak->Prop}{d:DefRec}{K:Params->aq}{CX:af->Jg}{sp:af->Sp}{x:Str}
  (hn:l.most=some n) (hn2:n<=sizeLine) (hdf:d.params.defaults=[]) (hr:Room k callerA)
  (hY:∀(w:af) (h:ak),YP w h->(K w.params).In h)
  (F:∀(w:af) (mg:Str->aw) (fa:aj) (h:ak),(K w.params).In h->h.Ns mainGlobals mg->mg d.name=some (.ref fa) ->
   ∃fd:FuncData,(∀(s:az) (u:aa),BindsTo s fd ⟨[u],[]⟩ [(x,u)]) /\
    ∀base:ak,(K w.params).In base->base.Ns mainGlobals mg->FnOk l.prog w (K w.params) mg base (CX w) k fa fd [x] (sp w))
  (hsp:∀(w:af) (H:Hp) (a:aj) (ns:ae),ns.length<=n->Jz H->kJ (K w.params) H a (ns.map V.int)->sp w [.ref a] H (λv _=>v=.bl true) λ_ _ _=>False)
  (hCX:∀(w:af) (H:Hp) (s:az) (e:aa) (s':az),CX w [] H s (λ_ _ _=>False) e s'->False) :
  PySem.W.WalkO q loose XP YP l.row.toRowW d [] (λf vs=>PySem.call f vs):=by
 refine Att.yE hn hdf λw C z mg mb fa o pm Z N a vs ns G Y ho hd O B p m j hg=>?_;have J:=hY w _ Y;obtain⟨fd,M,U⟩:=F w mg fa _ J G.T.g B;exact FA J G.T.g G.T.b G.T.builtins G.T.nolimit hg p m (bH j hn2) hr U M (λH L P=>hsp w H a ns j L P) λH e s'=>hCX w H z e s'
abbrev pX (s:aC):Arguments:=match s with
 | .FunctionDef _ a _ _ _ _ _ _ _ _=>a
 | _=>{ posonlyargs:=[],args:=[],vararg:=none,kwonlyargs:=[],kw_defaults:=[],kwarg:=none,defaults:=[]}
abbrev nI (s:aC):List aC:=match s with
 | .FunctionDef _ _ b _ _ _ _ _ _ _=>b
 | _=>[]
abbrev i6 (s:aC):Scope:=match s with
 | .FunctionDef _ _ _ _ _ _ sc _ _ _=>sc
 | _=>{ kind:=.function,names:=[],isGenerator:=false,isCoroutine:=false }
meta abbrev p6:Jg:=λ_ _ _ _ _ _=>False
meta abbrev E0:XK:=λ_ _ _=>False
def Qk:Passes p6 X E0:=λ_ _ _ _ _ _ _ h=>h.elim
structure Fun (K:aq)(x qual:Str)(st:aC)(f:aj)(fd:FuncData):Prop where
 ex:∃(oc:aa) (od:Option aj) (kV doc pm:aa) (an:Option aj) (cdv ct:aa) (osl:Array<|aw),
  fd=PySem.W.fnOf x qual (pX st) (nI st) (i6 st) .none kV doc pm an cdv ct/\K.lookup f=some ⟨oc,od,.func fd,osl⟩/\PySem.W.codeIn K cdv qual=true
 kp:PySem.W.keepIn K (.ref f)=true
section
variable {P:ah}{w:af}{K:aq}{mg:Str->aw}{base:ak}
def Fun.ok{x:Str}{st:aC}{f:aj}{N ps:am}{k:Nat}{sp:Sp}(F:Fun K x qual st f fd)(S:FnScope N ps<|i6 st)(len:∀vs H Q E,sp vs H Q E->vs.length=ps.length)
  (hbody:∀(cdv:aa) (A:au) (outer:List Env) (s:az) (H:Hp) (vs:List V) (Q:VK) (E:XK),Room k (A.deeper<|envOfC qual (i6 st) s.heap.objs.size f cdv)->sp vs H Q E ->
   ∃t,xF (Ag p6 P w K mg base N qual (i6 st) f cdv A outer s H E).Pe (nI st) t/\t { nx:=λ_ H'=>Q .non H',rt:=Q } (start N vs) H):FnOk P w K mg base p6 (k+1) f fd ps sp:=by
 obtain⟨J,C,kV,j,G,B,cdv,ct,m,rfl,z,g⟩:=F.ex;refine Pr z g S len λA outer s H vs Q E p d=>?_;obtain⟨t,h,q⟩:=hbody cdv A outer s H vs Q E p d;exact⟨t,h.Pe,q⟩
def Fun.binds{x:Str}{st:aC}{f:aj}{ps:am}(F:Fun K x qual st f fd)
  (h:∀(kV doc pm:aa) (an:Option aj) (cdv ct:aa) (us:ap),us.length=ps.length->bindArgs (PySem.W.fnOf x qual (pX st) (nI st) (i6 st) .none kV doc pm an cdv ct) ⟨us,[]⟩=pure (ps.zip us)):Binds K fd ps []:=by
 obtain⟨m,j,kV,doc,pm,an,cdv,ct,g,rfl,k,d⟩:=F.ex;exact .all<|h kV doc pm an cdv ct
def MX{x:Str}{st:aC}{f:aj}{kV ct:aa}(l:K.lookup f=some ⟨oc,od,.func<|PySem.W.fnOf x qual (pX st) (nI st) (i6 st) .none kV doc pm an cdv ct,osl⟩)
  (c:PySem.W.codeIn K cdv qual=true) (k:PySem.W.keepIn K (.ref f)=true):Fun K x qual st f (PySem.W.fnOf x qual (pX st) (nI st) (i6 st) .none kV doc pm an cdv ct):=⟨⟨oc,od,kV,doc,pm,an,cdv,ct,osl,rfl,l,c⟩,k⟩
end
section
variable {X:Cx}
def pv(i:Nat){x:Str}(hN:X.N[i]?=some x<|>θ)(hv:OO X.env.scope x:=by first|exact Or.inl rfl|exact Or.inr (Or.inl rfl)|exact Or.inr<|Or.inr rfl)(hd:(x == ("__debug__" : Str))=false:=by decide)
  (J:(x == ("__classdict__" : Str))=false:=by decide):PE X (.Name x pos) (PV i):=IB hN hv hd J
end
set_option maxHeartbeats 4000000
abbrev JK (σ:St):bi->Option V
 | some j=>(σ[j]?).getD none
 | none=>none
abbrev pY (env:Env):List (Str×NameKind)->List (Str×aj)->List (Str×aj)
 | [],cs=>cs
 | (n,k)::r,cs=>pY env r (if k == .free then(n,(env.cells.lookup n).getD 0)::cs else cs)
def uF{scope:Scope}{env:Env}(h:∀y∈scope.names,y.2=.free->∃c,env.cells.lookup y.1=some c):closureFor scope env=pure (pY env scope.names []):=by
 have j:∀(l:List<|Str×NameKind) (d:List<|Str×aj),(∀y∈l,y.2=.free->∃c,env.cells.lookup y.1=some c) ->
   (forIn l d (λ(x:Str×NameKind) (r:List<|Str×aj)=>(match x with
    | (name,kind)=>if (kind == NameKind.free)=true then(do let c <- cellOf env name;pure (ForInStep.yield ((name,c)::r)))else pure (ForInStep.yield r):Sem<|ForInStep<|List<|Str×aj)))=(pure (pY env l d):Sem<|List<|Str×aj):=by
  intro l
  induction l with
  | nil=>intro d _;rfl
  | cons y r q=>
   intro d g;obtain⟨n,k⟩:=y;rw[List.forIn_cons];by_cases p:k=.free
   ·subst p;obtain⟨c,hc⟩:=g (n,.free) aK rfl;have e1:cellOf env n=pure c:=by
     unfold cellOf;rw[hc]
    dsimp[bR,cU,e1,pure_bind];rw[q _ λz f=>g z<|aJ _ f];dsimp[pY,bR,cU,hc,fC]
   ·have m:(k == NameKind.free)=false:=by simpa using p
    dsimp[m,bO,cR,pure_bind];rw[q _ λz f=>g z<|aJ _ f];dsimp[pY,m,bO,cR]
 have:=j scope.names [] h;exact(d9 (λz=>z >>= λd=>(pure d:Sem<|List<|Str×aj)) this).trans (pure_bind _ _)
theorem uI:∀{l:List<|Str×NameKind}{x:Str}{k:NameKind},l.lookup x=some k->(x,k)∈l
 | [],_,_,h=>nomatch h
 | (n,k')::r,x,k,h=>by
  rw[dW]at h
  cases d:x == n with
  | true=>
   rw[d]at h;have e:x=n:=by simpa using d
   subst e
   cases h
   exact aK
  | false=>rw[d]at h;exact aJ _<|uI h
theorem vP{env:Env}{x:Str}:∀{l:List<|Str×NameKind}{cs:List<|Str×aj},(∀y∈l,y.2=.free->∃c,env.cells.lookup y.1=some c)->(pY env l cs).lookup x=some c->env.cells.lookup x=some c\/cs.lookup x=some c
 | [],cs,_,h=>.inr h
 | (n,k)::r,cs,hl,h=>by
  have h':=vP (l:=r) (λz g=>hl z<|aJ _ g) h
  rcases h' with h'|h'
  ·exact .inl h'
  ·by_cases f:k=.free
   ·subst f;dsimp[bR,cU]at h';obtain⟨m,hc⟩:=hl (n,.free) aK rfl;rw[hc,fC,dW]at h'
    cases d:x == n with
    | true=>
     rw[d]at h';have e:x=n:=by simpa using d
     subst e;left;rw[hc];exact h'
    | false=>rw[d]at h';exact .inr h'
   ·have j:(k == NameKind.free)=false:=by simpa using f
    dsimp[j,bO,cR]at h';exact .inr h'
theorem wc{env:Env}{x:Str}:∀{l:List<|Str×NameKind}{cs:List<|Str×aj},(cs.lookup x).isSome=true->((pY env l cs).lookup x).isSome=true
 | [],cs,h=>h
 | (n,k)::r,cs,h=>by
  skip
  refine wc (l:=r) ?_;by_cases d:(k == NameKind.free)=true
  ·rw[aN d,dW]
   cases f:x == n with
   | true=>rfl
   | false=>exact h
  ·rw[aO d];exact h
theorem ug{env:Env}{x:Str}:∀{l:List<|Str×NameKind}{cs:List<|Str×aj},(x,NameKind.free)∈l->((pY env l cs).lookup x).isSome=true
 | [],_,h=>nomatch h
 | (n,k)::r,cs,h=>by
  rcases aY.mp h with e|h
  ·cases e
   skip
   refine wc (l:=r) ?_;rw[aN<|by rfl,dW];simp
  ·exact ug (l:=r) h
theorem qi:∀(names:List<|Str×NameKind) (n:Nat) (acc:List<|Str×aj),cellsFrom n names acc=cellsFrom n names []++acc
 | [],_,_=>rfl
 | (x,k)::r,n,acc=>by
  unfold cellsFrom;split
  ·rw[qi r (n+1) ((x,n)::acc),qi r (n+1) [(x,n)],br];rfl
  ·exact qi r n acc
theorem A2:∀(names:List<|Str×NameKind) (n:Nat) {x:Str}{c:aj},(x,c)∈cellsFrom n names []->(x,NameKind.cell)∈names
 | [],_,_,_,h=>nomatch h
 | (y,k)::r,n,x,c,h=>by
  unfold cellsFrom at h;split at h
  ·rename_i d;rw[qi]at h
   rcases aV.mp h with z|z
   ·exact aJ _ (A2 r _ z)
   ·rw[aP]at z
    cases z
    have:k=.cell:=by simpa using d
    rw[this];exact aK
  ·exact aJ _<|A2 r _ h
theorem qC{α:Type}{x:Str}:∀{l m:List<|Str×α},(l++m).lookup x=match l.lookup x with|some c=>some c|none=>m.lookup x
 | [],_=>rfl
 | (y,c)::l,m=>by
  rw[cZ,dW,dW]
  cases x == y with
  | true=>rfl
  | false=>exact qC
def Ky{n:Nat}{acc:List<|Str×aj}{x:Str}(h:(cellsFrom n names acc).lookup x=some c):(cellsFrom n names []).lookup x=some c\/((cellsFrom n names []).lookup x=none/\acc.lookup x=some c):=by
 rw[qi,qC]at h
 cases e:(cellsFrom n names []).lookup x with
 | some d=>rw[e]at h;exact .inl h
 | none=>rw[e]at h;exact .inr ⟨rfl,h⟩
def OA{n:Nat}{acc:List<|Str×aj}{x:Str}(h:(x,NameKind.cell)∉names):(cellsFrom n names acc).lookup x=acc.lookup x:=by
 rw[qi,qC]
 cases e:(cellsFrom n names []).lookup x with
 | some d=>exact absurd (A2 names n<|cO e) h
 | none=>rfl
def De{A:au}{E:aa->az->Prop}{s:az}{scope:Scope}{J:aj}{cl:List<|Str×aj}{env:Env}{Q:Env->az->Prop}
  (hQ:∀h':ak,h'.Ns s.heap.objs.size (λ_=>none)->(∀b o,s.heap.get? b=some o->h'.get? b=some o)->CellsOk h' (s.heap.objs.size+1) (cellsFrom (s.heap.objs.size+1) scope.names []) ->
   Q (newEnv scope s.heap.objs.size J (cellsFrom (s.heap.objs.size+1) scope.names cl) qual none .none (some env) builtinsNs) { s with heap:=h',toks:=s.toks+([]:List<|Str×aa).length }) :
  wpAny M A (newFunctionEnv scope J cl [] qual none .none<|some env) Q E s:=by
 dsimp[newFunctionEnv,isSome_some,cU];refine aH<|wpAny_alloc ?_;refine aH (wpAny_layCells _ (λname kind cells=>by cases d:kind == NameKind.cell<;>simp[d]) _ _ _ _ ?_);have ok:=cellsFrom_ok scope.names (s.heap.push { cls:=.type "dict",data:=.dict #[]}) (s.heap.objs.size+1) [] ⟨λ_ _ f=>(nomatch f),List.Pairwise.nil⟩ (by rw[dX];exact aM _);rw[dX]at ok;rw[show({ s with heap:=s.heap.push { cls:=.type "dict",data:=.dict #[]}}:az).heap.objs.size=s.heap.objs.size+1 from dX ..];rw[List.forIn_nil];refine aH<|aW<|aW ?_;exact hQ _ ((Heap.Ns.new s.heap<|.type "dict").keeps<|pushCells_keeps _ _) (λb o e=>pushCells_keeps _ _ b o<|aS _ e) ok
abbrev jG (X:Cx)(scope:Scope)(N:am)(C:aj)(s₀:az)(H₀:Hp)(ex:ar):Cx where
 prog:=X.prog
 w:=X.w
 K:=X.K
 mg:=X.mg
 base:=X.base
 A:=X.A
 N:=N
 s₀:=s₀
 H₀:=H₀
 env:=compEnvC scope (cellsFrom (C+1) scope.names<|pY X.env scope.names []) C X.env
 outer:=X.stack
 stack:=X.stack
 ex:=ex
 fn:=λx=>scope.names.lookup x == some .cell
 calm:=X.calm
 pn:=[]
 xe:=λ_ _=>False
structure CpScope (X:Cx)(scope:Scope)(N:am)(cap:List (bi)):Prop where
 kind:scope.kind=.function
 nocf:∀x,(x,NameKind.free)∈scope.names->(x,NameKind.cell)∉scope.names
 nm:∀y∈scope.names,y.2=.local->scope.names.lookup y.1=some .local
 fr:∀y∈scope.names,y.2=.free->X.env.kindOf y.1=some .cell\/X.env.kindOf y.1=some .free
 rl:∀y,((relabel scope X.env).names.lookup y=some .cell\/(relabel scope X.env).names.lookup y=some .free)->(y,NameKind.free)∈scope.names\/scope.names.lookup y=some .cell
 len:cap.length=N.length
 nolf:∀x,(x,NameKind.free)∈scope.names->scope.names.lookup x≠some .local
 cp:∀(i j:Nat) (x:Str),N[i]?=some x->cap[i]?=some (some j)->X.N[j]?=some x/\(x,NameKind.free)∈scope.names
def GP{scope:Scope}{N:am}{cap:List<|bi}{H:Hp}{s:az}{fp:ar}{h₁:ak}{m:Str->aw}{tk:Nat}(S:CpScope X scope N cap)(I:Inv X pins σ H s)
  (hf:∀b∈fp,pJ X pins H b) (ho:∀b∈fp,∃o,s.heap.get? b=some o) (hn:h₁.Ns s.heap.objs.size m) (hC:CellsOk h₁ (s.heap.objs.size+1)<|cellsFrom (s.heap.objs.size+1) scope.names []) (hk:∀b o,s.heap.get? b=some o->h₁.get? b=some o) :
  Inv (jG X scope N s.heap.objs.size s H fp) [] (cap.map<|JK σ) H { s with heap:=h₁,toks:=tk }:=by
 kj_on;have Y:∀x c,(pY X.env scope.names []).lookup x=some c->X.env.cells.lookup x=some c:=λx c e=>by
  rcases vP hfree e with z|z
  ·exact z
  ·cases z
 have f:∀x c,(cellsFrom (s.heap.objs.size+1) scope.names<|pY X.env scope.names []).lookup x=some c->((x,c)∈cellsFrom (s.heap.objs.size+1) scope.names []/\h₁.IsCell c none/\s.heap.objs.size+1<=c)\/X.env.cells.lookup x=some c:=λx c e=>by
  rcases Ky e with z|z
  ·exact .inl ⟨cO z,hC.empty x c<|cO z⟩
  ·exact .inr<|Y x c z.2
 have old:∀x c,X.env.cells.lookup x=some c->c<s.heap.objs.size:=λx c e=>by
  obtain⟨v,z⟩:=I.cell x c e;exact z.lt
 have lt:∀b o,s.heap.get? b=some o->b≠s.heap.objs.size:=λb o e=>bK<|bq e;refine⟨⟨I.ok.mod,?_,I.ok.glob,I.ok.blt,aM _,?_,?_,?_,I.ok.hd,I.ok.frames,.inl rfl,?_,I.bs,bH I.ok.bsz I.sz,?_,?_,I.stack,I.Cm⟩,rfl,I.bare,Un.kept hk,?_,?_,I.hok.fresh<|aM _,?_,?_,I.hok.kept hk,?_⟩
 ·exact S.kind
 ·intro x y c e1 e2
  rcases f x c e1 with a|a
  ·rcases f y c e2 with b|b
   ·exact name_of_addr hC.apart a.1 b.1
   ·exact absurd (old y c b)<|not_lt.mpr<|dh a.2.2
  ·rcases f y c e2 with b|b
   ·exact absurd (old x c a) (not_lt.mpr<|dh b.2.2)
   ·exact I.ok.inj x y c a b
 ·intro x e;refine cW.mp (eS _ _ _ ?_)
  rcases S.rl x e with B|B
  ·exact .inr (ug (env:=X.env) (cs:=[]) B)
  ·exact .inl B
 ·intro x c e G;have e:scope.names.lookup x=some .cell:=by
   have e:(scope.names.lookup x == some .cell)=true:=e;simpa using e
  obtain⟨d,hd⟩:=cW.mp<|eS scope.names (s.heap.objs.size+1) []<|.inl e;have G:(cellsFrom (s.heap.objs.size+1) scope.names<|pY X.env scope.names []).lookup x=some c:=G;rw[qi,qC,hd]at G
  cases G
  exact dh (hC.empty x c<|cO hd).2
 ·intro b J;obtain⟨o,e⟩:=ho b J;refine⟨lt b o e,λx c e2=>?_⟩
  rcases f x c e2 with z|z
  ·exact ne_of_gt (Nat.lt_trans (bq e) z.2.2)
  ·exact(hf b J).2.2.2.2.1 x c z
 ·intro b o e J;obtain⟨_,_,_,h3,_⟩:=hf b J
  rcases h3 with z|z
  ·exact I.ok.noex b o e z
  ·exact absurd (bP (bq (I.ok.bs b o e).1) z)<|eX _
 ·intro b J hz;obtain⟨_,h1,O,_⟩:=hf b J
  rcases aY.mp (I.AZ b hz)with z|z
  ·exact h1 z
  ·exact O z
 ·refine⟨m,hn,λi x v e1 e2 e3=>?_⟩;rw[aR]at e2
  cases hc:cap[i]? with
  | none=>rw[hc]at e2;cases e2
  | some oj=>
   rw[hc]at e2
   cases oj with
   | none=>cases e2
   | some j=>
    have q:(σ[j]?).getD none=some v:=aU e2;obtain⟨hj,B⟩:=S.cp i j x e1 hc;obtain⟨m0,hn0,U⟩:=I.loc;have V:σ[j]?=some (some v):=by
     cases h:σ[j]? with
     | none=>rw[h]at q;cases q
     | some z=>rw[h,fC]at q;rw[q]
    have L:=S.fr (x,.free) B rfl;have hv:OO X.env.scope x:=.inr L;obtain⟨u,Z,lo⟩:=U j x v hj V hv;refine⟨u,Z,?_⟩
    rcases lo with⟨lo,_⟩|⟨_,c,G,ic⟩
    ·rcases L with z|z<;>(rw[z]at lo;cases lo)
    ·have O:=ug (env:=X.env) (cs:=[]) B;obtain⟨W,F⟩:=cW.mp O;have:W=c:=aU<|(Y x W F).symm.trans G;subst this;refine .inr ⟨?_,W,(OA<|S.nocf x B).trans F,?_⟩
     ·rcases e3 with z|z|z
      ·exfalso;have:(relabel scope X.env).names.lookup x=some .local:=z;have K:scope.names.lookup x=some .local:=by
        have M:∃k,(x,k)∈(relabel scope X.env).names/\k=.local:=by
         clear F O;have:=uI this;exact⟨_,this,rfl⟩
        obtain⟨k,P,rfl⟩:=M;obtain⟨⟨n',k'⟩,T,g⟩:=bU.mp P;dsimp only at g;split at g
        ·cases g
        ·cases g
         exact S.nm (x,.local) T rfl
       exact False.elim<|S.nolf x B K
      ·exact .inl z
      ·exact .inr z
     ·obtain⟨o,C,hd⟩:=ic;exact⟨o,hk _ _ C,hd⟩
 ·intro x c e
  rcases f x c e with z|z
  ·exact⟨_,z.2.1⟩
  ·obtain⟨v,o,C,hd⟩:=I.cell x c z;exact⟨v,o,hk _ _ C,hd⟩
 ·intro x c e
  rcases f x c e with z|z
  ·exact I.hok.fresh (dh z.2.2)
  ·exact I.freeC x c z
 ·intro p hp
  cases hp
 ·rw[aG,S.len];rfl
abbrev Jc (X:Cx)(ifs:List aA)(t:TT):Prop:=
 ∀(pins:bj) (s:az) (σ:St) (H:Hp) (Q:Bool->Hp->Prop),Inv X pins σ H s->t σ H Q ->
  wpAny (model X.prog X.w) X.A (forIn ifs true λc r=>if r=true then do let ok <- isTrue c X.env (eval c X.env);pure (ForInStep.yield ok)else pure (ForInStep.yield r)) (TP X pins σ Q) X.xe s
abbrev Rh:TT:=λ_ H Q=>Q true H
def KU:Jc X [] Rh:=λ_ _ _ H _ I h=>wpAny_tests_nil ⟨H,I,h⟩
def JU{c:aA}{t:TT}(h:PT X c t):Jc X [c] t:=λpins s σ H Q I q=>wpAny_tests_one<|h pins s σ H Q I q
abbrev Mu (cap:List<|bi)(g:TG)(tc:TT)(te:TE)(σ:St)(Q:VK)(J:It)(H1:Hp):Prop:=∀D,H1 D=none ->
 ∃W:Nat->Nat->St->Hp->Prop,(∃m,W 0 m (cap.map<|JK σ)<|upd H1 D<|.lst [])/\∀i m f H',W i m f H' ->
  (J.stop i H'/\Q (.ref D) H')\/(J.go i H'/\∀x H2,J.yld i H' x H2->g x f H2 λd q=>tc d q λb p=>
   if b=true then te d p λy k=>∃ys,k D=some (.lst ys)/\ys.length<sizeLine/\∃j,j<m/\W (i+1) j d (upd k D<|.lst<|ys++[y])
   else ∃j,j<m/\W (i+1) j d p)
abbrev O4 (cap:List<|bi)(J:TI)(g:TG)(tc:TT)(te:TE):TE:=λσ H Q=>J σ H<|Mu cap g tc te σ Q
def ya{α:Type}{t:Sem α}{Q Q':α->az->Prop}{A:au}{E:aa->az->Prop}(h:wpAny M A t Q (λ_ _=>False) s)(J:∀a s,Q a s->Q' a s):wpAny M A t Q' E s:=
 fj h J λ_ _ f=>f.elim
structure TurnG (ok:Cx->Prop)(P:ah)(w:af)(K:aq)(tg:aA)(J:It)(fp:ar)(it:aj)(tn:Nat->ak->Prop):Prop where
 obj:∀i h,tn i h->∀b∈fp,∃o,h.get? b=some o/\∀v,o.data≠.cell v
 keep:∀i h h',tn i h->(∀b∈fp,∀o,h.get? b=some o->h'.get? b=some o)->tn i h'
 item:∀(X:Cx),X.prog=P->X.w=w->X.K=K->ok X->∀(i:Nat) (pins:bj) (s:az) (σ:St) (H:Hp) (E:aa->az->Prop),Inv X pins σ H s->(∀b∈fp,pJ X pins H b)->tn i s.heap->J.go i H ->
  wpAny (model P w) X.A (pyNext<|.ref it) (λr s1=>∃u,r=some u /\
   wpAny (model P w) X.A (letOwnedTupleGo tg (.ref it) u) (λ_ s2=>∃x H',Inv X pins σ H' s2/\RelV x u/\J.yld i H x H'/\tn (i+1) s2.heap/\∀b∈fp,H' b=none) E s1) E s
 done:∀(X:Cx),X.prog=P->X.w=w->X.K=K->ok X->∀(i:Nat) (pins:bj) (s:az) (σ:St) (H:Hp) (E:aa->az->Prop),Inv X pins σ H s->(∀b∈fp,pJ X pins H b)->tn i s.heap->J.stop i H ->
  wpAny (model P w) X.A (pyNext<|.ref it) (λr s1=>r=none/\Inv X pins σ H s1) E s
 self:∀(A:au) (i:Nat) (s:az) (Q:aa->az->Prop) (E:aa->az->Prop),tn i s.heap->Q (.ref it) s->wpAny (model P w) A (pyIter<|.ref it) Q E s
abbrev Rx (ok:Cx->Prop)(X:Cx)(pins:bj)(σ:St)(tg:aA)(R:It->Hp->Prop)(itv:aa)(s2:az):Prop:=
 ∃(it:aj) (f:ar) (d:Nat->ak->Prop) (J:It) (H':Hp),itv=.ref it/\Inv X pins σ H' s2/\TurnG ok X.prog X.w X.K tg J f it d/\d 0 s2.heap/\(∀b∈f,pJ X pins H' b)/\R J H'
abbrev RX (ok:Cx->Prop)(X:Cx)(tg iter:aA)(J:TI):Prop:=
 ∀(pins:bj) (s:az) (σ:St) (H:Hp) (R:It->Hp->Prop),Inv X pins σ H s->J σ H R ->
  wpAny (model X.prog X.w) X.A (eval iter X.env) (λv d=>wpAny (model X.prog X.w) X.A (pyIter v) (Rx ok X pins σ tg R) X.xe d) X.xe s
def PI.g{iter:aA}{wi:TI}(h:PI X tg iter wi):RX (λY=>Y.calm=true) X tg iter wi:=λpins s σ H R I q=>
 jM (h pins s σ H R I q) λv m h1=>jM h1 λj p ⟨it,d,k,J,H',e,f,T,a,b,c⟩=>⟨it,d,k,J,H',e,f,⟨T.obj,T.keep,T.item,T.done,T.self⟩,a,b,c⟩
def CT{ok:Cx->Prop}{X:Cx}{use:Option<|aa->Sem Unit}{Q':aa->az->Prop}{iter:aA}{N:am}{wi:TI}{g:TG}{tc:TT}{te:TE}(S:CpScope X scope N cap)(hok:∀C s₀ H₀ ex,(∀a o u,X.H₀ a=some (.frz o u)->H₀ a=some (.frz o u))->ok (jG X scope N C s₀ H₀ ex))(hi:RX ok X tg iter wi)
  (hg:∀C s₀ H₀ ex,PG (jG X scope N C s₀ H₀ ex) tg g) (ht:∀C s₀ H₀ ex,Jc (jG X scope N C s₀ H₀ ex) ifs tc) (he:∀C s₀ H₀ ex,PE (jG X scope N C s₀ H₀ ex) elt te)
  (hs:(∀x,foldedSetIterable iter X.env x=pure x)<|>ι):∀(pins:bj) (s:az) (σ:St) (H:Hp) (Q:VK),Inv X pins σ H s->O4 cap wi g tc te σ H Q ->
  (∀(s6:az) (C D:aj) (H5:Hp) (m:Str->aw),s6.heap.Ns C m->pJ X pins H5 C->(∀h',Heap.SameBut C s6.heap h'->Inv X pins σ H5 { s6 with heap:=h' })->Q (.ref D) H5->∀v,compPost (model X.prog X.w) X.A X.xe use Q' (.ref D) C (.ok v) s6) ->
  wpAny (model X.prog X.w) X.A (comprehension (.ListComp elt [⟨tg,iter,ifs,0⟩] scope pos) scope X.env (firstIterPos [⟨tg,iter,ifs,0⟩] pos) (newList []) (firstAsync [⟨tg,iter,ifs,0⟩]) (firstIter [⟨tg,iter,ifs,0⟩] X.env) use) Q' X.xe s:=by
 intro pins s σ H Q I h hfin;kj_on;refine wpAny_comprehension_free (use:=use) rfl hs (uF hfree) S.kind S.nm<|jM (hi pins s σ H _ I h) λxv s1 h1=>jM h1 λitv f h2=>?_;obtain⟨it,fp,tn,J,H2,rfl,I2,T,st2,f2,h2⟩:=h2;refine cS<|De λU B old F=>?_;obtain⟨W,⟨m0,w0⟩,turn⟩:=h2 f.heap.objs.size I2.fresh;dsimp only at B old F ⊢;have I3:Inv X pins σ (upd H2 f.heap.objs.size<|.lst []) { f with heap:=f.heap.push {}}:=I2.K2 (t':=f.toks) (its:=[]) .nil<|bQ _;have hfp:∀b∈fp,∃o,f.heap.get? b=some o:=λb j=>by
  obtain⟨o,e,_⟩:=T.obj 0 _ st2 b j;exact⟨o,e⟩
 have neD:∀b∈fp,b≠f.heap.objs.size:=λb j=>by
  obtain⟨o,e⟩:=hfp b j;exact bK<|bq e
 have f3:∀b∈fp,pJ X pins (upd H2 f.heap.objs.size<|.lst []) b:=λb j=>⟨by rw[iV<|neD b j];exact(f2 b j).1,(f2 b j).2⟩;have hDC:f.heap.objs.size≠(f.heap.push {}).objs.size:=by rw[dX];exact bK (cE _)
 have I4:=GP (tk:=f.toks+([]:List<|Str×aa).length) (fp:=fp) S I3 f3 (λb j=>by
  obtain⟨o,e⟩:=hfp b j;exact⟨o,aS _ e⟩) B F old
 have st4:tn 0 U:=T.keep _ _ _ st2 λb j o e=>old b o<|aS _ e;have hc:=hok (f.heap.push {}).objs.size { f with heap:=f.heap.push {}} (upd H2 f.heap.objs.size<|.lst []) fp λa o u e=>by
  have z:=I2.base.frzs a o u e;rw[iV λq=>by rw[q,I2.fresh]at z;cases z];exact z
 have M:∀{H':Hp},(∀b∈fp,H' b=none)->∀b∈fp,pJ (jG X scope N (f.heap.push {}).objs.size { f with heap:=f.heap.push {}} (upd H2 f.heap.objs.size<|.lst []) fp) [] H' b:=λhn b j=>by
  have ok:=I4.ok;refine⟨hn b j,(ok.exf b j).1,ok.exfs b j,.inl j,λx c e=>(ok.exf b j).2 x c e,λp hp=>nomatch hp⟩
 have V:∀s4:az,s4={ f with heap:=U,toks:=f.toks+([]:List<|Str×aa).length } ->
   codeAny (model X.prog X.w) X.A (.compLoop (.ListComp elt [⟨tg,iter,ifs,0⟩] scope pos) 0 (.ref it) (.ref f.heap.objs.size)<|compEnvC scope (cellsFrom ((f.heap.push {}).objs.size+1) scope.names<|pY X.env scope.names []) (f.heap.push {}).objs.size X.env)
    (compPost (model X.prog X.w) X.A X.xe use Q' (.ref f.heap.objs.size) (f.heap.push {}).objs.size) s4:=by
  rintro s4 rfl;refine codeAny_loop rfl (λn s'=>∃i O H',Inv (jG X scope N (f.heap.push {}).objs.size { f with heap:=f.heap.push {}} (upd H2 f.heap.objs.size<|.lst []) fp) [] O H' s'/\tn i s'.heap/\(∀b∈fp,H' b=none)/\W i n O H') (λn s5 hI=>?_) m0 ⟨0,_,_,I4,st4,λb j=>(f3 b j).1,w0⟩;obtain⟨i,P,H5,I5,st5,fr5,w5⟩:=hI;show wpAny _ X.A ((compTurn (.ListComp elt [⟨tg,iter,ifs,0⟩] scope pos) 0 (.ref it) (.ref f.heap.objs.size)<|compEnvC scope (cellsFrom ((f.heap.push {}).objs.size+1) scope.names<|pY X.env scope.names []) (f.heap.push {}).objs.size X.env).onRaise λx=>do noteFrame x _;theTreesLotGoes x) _ _ s5;refine wpAny_noted ?_;rw[compTurn_list];refine aH (dS<|aH ?_)
  rcases turn i n P H5 w5 with⟨stop,q⟩|⟨go,step⟩
  ·refine jM (T.done (jG X scope N (f.heap.push {}).objs.size { f with heap:=f.heap.push {}} (upd H2 f.heap.objs.size<|.lst []) fp) rfl rfl rfl hc i [] s5 P H5 _ I5 (M fr5) st5 stop) λr s6 h9=>?_;obtain⟨hr,Z⟩:=h9;subst hr;obtain⟨m6,hn6,_⟩:=Z.loc;refine aW<|hfin s6 _ _ H5 m6 hn6 (I3.w_ (aM _) Z.free) (λh' sb=>?_) q _;have u6:=Z.base;have nC:∀b o,(f.heap.push {}).get? b=some o->b≠(f.heap.push {}).objs.size:=λb o e=>bK<|bq e;refine I3.Fp (ch:=fp) Z.os ⟨λb o e n j hx=>?_,λb o e n j hx=>?_,λb o e n hx=>?_,λb o e hx=>?_,u6.tups,u6.frzs,u6.tbls⟩ ?_ Z.bare ?_
   ·exact sb.extBut b o (nC b o e) (u6.keep b o e n j hx)
   ·obtain⟨sl,z⟩:=u6.slot b o e n j hx;exact⟨sl,sb.extBut b _ (nC b o e) z⟩
   ·exact u6.free b o e n hx
   ·obtain⟨o',z⟩:=u6.there b o e hx;exact⟨o',sb.extBut b _ (nC b o e) z⟩
   ·intro b o e;have j:∀c v,H5 c=some v->c≠(f.heap.push {}).objs.size:=λc v e z=>by
     rw[z]at e;have:=Z.free;rw[show H5 (f.heap.push {}).objs.size=none from this]at e
     cases e
    refine(Z.hok b o e).stay (λc v hc q=>sb.extBut c v ?_ q) (λ_ q=>q) λ_ _ q=>q
    rcases hc with z|z
    ·rw[z];exact j b o e
    ·exact j c _ z
   ·intro b j;obtain⟨_,z1,_,z3,z4,z5⟩:=f3 b j;exact⟨z3,z1,z4,z5⟩
  ·refine jM (T.item (jG X scope N (f.heap.push {}).objs.size { f with heap:=f.heap.push {}} (upd H2 f.heap.objs.size<|.lst []) fp) rfl rfl rfl hc i [] s5 P H5 _ I5 (M fr5) st5 go) λr s6 h9=>?_;obtain⟨u,hr,h6⟩:=h9;subst hr;refine aH<|jM h6 λ_ s7 ⟨x,H7,I7,r7,y7,st7,fr7⟩=>?_;have I7':=I7.pinned (M fr7)<|T.obj _ _ st7;refine aH<|ya (hg _ _ _ fp _ s7 P H7 x u _ I7' r7<|step x H7 y7) λ_ s8 ⟨G,H8,I8,q8⟩=>?_;refine aH<|ya (ht _ _ _ fp _ s8 G H8 _ I8 q8) λok s9 ⟨H9,I9,q9⟩=>?_;have again:∀{K:az} {k:Hp},Inv (jG X scope N (f.heap.push {}).objs.size { f with heap:=f.heap.push {}} (upd H2 f.heap.objs.size<|.lst []) fp) ([]++qe fp s7.heap) G k K->(∃m',m'<n/\W (i+1) m' G k) ->
     ∃m,m<n/\∃i O H',Inv (jG X scope N (f.heap.push {}).objs.size { f with heap:=f.heap.push {}} (upd H2 f.heap.objs.size<|.lst []) fp) [] O H' K/\tn i K.heap/\(∀b∈fp,H' b=none)/\W i m O H':=λ{K k} L h9=>by
    obtain⟨m',hm,w10⟩:=h9;refine⟨m',hm,i+1,G,k,L.nj,T.keep _ _ _ st7 λb j o e=>(L.pin (b,o)<|bh _<|bh _<|jS j e).1,λb j=>?_,w10⟩;obtain⟨o,e,d⟩:=T.obj _ _ st7 b j;exact(L.pin (b,o)<|bh _<|bh _<|jS j e).2.1
   cases ok with
   | false=>
    rw[aO bN]at q9;exact aW ⟨rfl,again I9 q9⟩
   | true=>
    rw[aN rfl]at q9;refine aH<|aH<|ya (he _ _ _ fp _ s9 G H9 _ I9 q9) λy K ⟨Y,k,L,r10,ys,hD,hz,w10⟩=>?_;refine aH<|ya (sd _ K G k (.ref f.heap.objs.size) [Y] _ [y] (λ_ H'=>H'=upd k f.heap.objs.size (.lst<|ys++[Y])) L rfl (.cons r10 .nil) ⟨_,ys,Y,rfl,rfl,hD,hz,rfl⟩) λ_ s11 ⟨_,H11,I11,_,e11⟩=>?_;subst e11;exact aW<|aW ⟨rfl,again I11 w10⟩
 exact codeAny_compStart_list (V _ rfl)<|T.self _ 0 _ _ _ st4<|V _ rfl
def N1{ok:Cx->Prop}{X:Cx}{iter:aA}{N:am}{J:TI}{g:TG}{tc:TT}{te:TE}(S:CpScope X scope N cap)(hok:∀C s₀ H₀ ex,(∀a o u,X.H₀ a=some (.frz o u)->H₀ a=some (.frz o u))->ok (jG X scope N C s₀ H₀ ex))(hi:RX ok X tg iter J)
  (hg:∀C s₀ H₀ ex,PG (jG X scope N C s₀ H₀ ex) tg g) (ht:∀C s₀ H₀ ex,Jc (jG X scope N C s₀ H₀ ex) ifs tc) (he:∀C s₀ H₀ ex,PE (jG X scope N C s₀ H₀ ex) elt te)
  (hs:(∀x,foldedSetIterable iter X.env x=pure x)<|>ι):PE X (.ListComp elt [⟨tg,iter,ifs,0⟩] scope pos) (O4 cap J g tc te):=by
 k_ne;rw[eval_ListComp];exact CT (use:=none) (Q':=EP X pins σ Q) S hok hi hg ht he hs pins s σ H Q I h λk C D d m hn j inv q v=>⟨m,hn,λh' f=>⟨.ref D,d,inv h' f,rfl,q⟩⟩
def Qm{X:Cx}{iter:aA}{N:am}{J:TI}{g:TG}{tc:TT}{te:TE}(hc:X.calm=true)(S:CpScope X scope N cap)(hi:PI X tg iter J)
  (hg:∀C s₀ H₀ ex,PG (jG X scope N C s₀ H₀ ex) tg g) (ht:∀C s₀ H₀ ex,Jc (jG X scope N C s₀ H₀ ex) ifs tc) (he:∀C s₀ H₀ ex,PE (jG X scope N C s₀ H₀ ex) elt te)
  (hs:(∀x,foldedSetIterable iter X.env x=pure x)<|>ι):PE X (.ListComp elt [⟨tg,iter,ifs,0⟩] scope pos) (O4 cap J g tc te):=
 N1 S (λ_ _ _ _ _=>hc) hi.g hg ht he hs
section
variable {X:Cx}
def xx:jo X (.builtin "sorted") (λxs H Q=>∃(p:aj) (ns:ae),xs=[.ref p]/\(kJ X.K H p (ns.map V.int)\/mZ X.K H p (ns.map V.int))/\ns.length<64 /\
  ∀l (ns':ae),H l=none->ns'.Perm ns->ns'.Pairwise (·<=·)->Q (.ref l) (upd H l<|.lst<|ns'.map V.int)):=by
 kd_p;obtain⟨p,ns,rfl,B,Z,q⟩:=h;kln_w
 cases rx
 have M:∀(d:ap) (T:String) (o:Obj) (n:Nat),(T = "list" \/ T = "tuple")->s.heap.get? p=some o->o.cls=.type T->o.data=.seq d.toArray n->Vals (ns.map V.int) d ->
   wpAny (model X.prog X.w) X.A (call (.builtin "sorted") [.ref p]) (EP X pins σ Q) X.xe s:=by
  intro d T o n hT z f hd j;have U:=intsAre_of j;have k:d.length=ns.length:=by have:=j.length;rw[aG]at this;exact this.symm
  refine Calls.call_function_entry kind_sorted plain_sorted entry_sorted (args_sorted1 _) ?_;unfold Builtin.«sorted»;refine aH (m:=checkCount "sorted" 1 1 _)<|aW ?_;refine aH (wpAny_collect_seq p hT z f hd (λh' N=>?_)<|by rw[aQ,k,dz];lia);refine aH<|wpAny_newList ?_;have g:(h'.push<|seqObj "list" d.toArray 0).get? h'.objs.size=some (seqObj "list" d.toArray 0):=bI _ rfl
  skip
  refine aH<|di<|dU slot_list_sort ⟨_,g,rfl⟩ entry_list_sort (list_sort_tree g U () λout ns' Y L O=>⟨_,rfl,?_⟩)<|args_list_sort _;obtain⟨e,P⟩:=sortedHeap_at (out:=out) g;have G:ns'.length=ns.length:=L.length_eq;have I1:Inv X pins σ H { s with heap:=h' }:=I.kept (t':=s.toks) N;have old:∀b C,h'.get? b=some C->(sortedHeap (h'.push<|seqObj "list" d.toArray 0) h'.objs.size d out).get? b=some C:=λb C J=>by
   rw[sortedHeap_old (bK<|bq J)<|by rw[dX];exact fh<|bq J];exact aS _ J
  refine aW ⟨_,rfl,.ref h'.objs.size,_,I1.laid (t':=s.toks) (o:=.lst<|ns'.map V.int) old (aM _) ?_,rfl,q _ ns' (I1.hok.fresh<|aM _) L O⟩;refine⟨by rw[aG,G,dz];lia,out.toList,e,se Y,?_⟩;rw[P]
 rcases B with B|B
 ·obtain⟨d,j,F,W⟩:=I.list B;obtain⟨o,z,f,n,hd⟩:=F.isList;exact M d "list" o n (.inl rfl) z f hd j
 ·obtain⟨d,j,F,W⟩:=I.tuple B;obtain⟨o,z,f,n,hd⟩:=F;exact M d "tuple" o n (.inr rfl) z f hd j
abbrev QX (xs ys:List V)(j:Nat):Bool:=match xs[j]?,ys[j]? with|some x,some y=>T6 x y|_,_=>true
abbrev zj (i j:Int):ae:=(List.range (j-i).toNat).map λk:Nat=>i+(k:Int)
def z7(i j:Int):(zj i j).length=(j-i).toNat:=by unfold zj;rw[aG,cF]
def ux{i:Int}{n:Nat}{acc:Array aa}(h:ItemsOf (λk v=>∃t,v=Value.int (i+(k:Int) * 1) t) acc n):Vals (((List.range n).map λk:Nat=>i+(k:Int)).map V.int) acc.toList:=by
 obtain⟨hs,hv⟩:=h;have d:∀(l:ap) (b:Nat),(∀j v,l[j]?=some v->∃t,v=Value.int (i+((b+j:Nat):Int)) t)->Vals (((List.range' b l.length).map λk:Nat=>i+(k:Int)).map V.int) l:=by
  intro l
  induction l with
  | nil=>intro b _;exact .nil
  | cons v l g=>
   intro b f;rw[bu,List.range'_succ,bS,bS];refine .cons ?_ ?_
   ·obtain⟨t,e⟩:=f 0 v rfl;exact⟨t,by rw[e];simp⟩
   ·refine g (b+1) λj w hw=>?_;obtain⟨t,e⟩:=f (j+1) w hw;exact⟨t,by rw[e,show b+(j+1)=b+1+j by lia]⟩
 have:=d acc.toList 0 λj v m=>by
  obtain⟨t,e⟩:=hv j v (by simpa using m);exact⟨t,by rw[e,dQ,Int.mul_one]⟩
 rw[eF,hs,<- List.range_eq_range']at this;exact this
def G7{i j:Int}:Builtin.Range.rangeSize i j 1=(((j-i).toNat:Nat):Int):=by rw[rangeSize_one];split<;>omega
def vF(hc:X.calm=true):jo X (.type "list") (λxs H Q=>∃p i j,xs=[.ref p]/\H p=some (.rng i j)/\(-(2 ^ 62)<=i/\i<2 ^ 62/\-(2 ^ 62)<=j/\j<2 ^ 62)/\(j-i).toNat<=1000/\∀l,H l=none->Q (.ref l) (upd H l<|.lst<|(zj i j).map V.int)):=by
 kd_p;obtain⟨p,i,j,rfl,B,⟨m,g,G,z⟩,hn,q⟩:=h;kln_w
 cases rx
 obtain⟨t,K,v,e⟩:=I.hok p _ B;refine call_list_range (n:=(j-i).toNat) (I.ok.hd hc) e (small_one m g G z) G7 () λh' J f C k F d=>?_;refine⟨.ref s.heap.objs.size,_,I.laid (o:=.lst<|(zj i j).map V.int) k (aM _) ⟨?_,f.toList,C,ux d,by rw[F]⟩,rfl,q _ I.fresh⟩;rw[aG,z7,dz];lia
end
section
variable {X:Cx}
def z6{prog:ah}{w:af}{A:au}{E:aa->az->Prop}{s:az}{Q:ap->az->Prop}{r:aj}{a b c:Int}{t v:Tok}{n:Nat}(hh:A.handled=none)(hr:IsRange s.heap r a b c t u v)(J:Builtin.Range.small a b c=true)
  (hn:Builtin.Range.rangeSize a b c=n) (hlen:n<=2 ^ 24)
  (hQ:∀h' tk (acc':Array aa),(∀b o,s.heap.get? b=some o->h'.get? b=some o)->ItemsOf (λi v=>∃t,v=.int (a+i * c) t) acc' n->Q acc'.toList { s with heap:=h',toks:=tk }) :
  wpAny (model prog w) A (collect<|.ref r) Q E s:=by
 unfold collect;refine aH<|wpAny_runValue<|fQ F.entry_proto_collect ?_;rw[fm F.plain_proto_collect _]
 skip
 refine aH<|cS ?_;refine aW ⟨plainId_quiet F.plain_list_iadd _,fQ F.entry_list_iadd ?_⟩;rw[fm F.plain_list_iadd _]
 skip
 have z:(s.heap.push {}).get? s.heap.objs.size=some { cls:=.type "list",data:=.seq #[] 0 }:=bI _ rfl;have k:∀(h':ak) (tk:Nat) (acc':Array aa) (j:Nat),(∀b o,b≠s.heap.objs.size->(s.heap.push {}).get? b=some o->h'.get? b=some o) ->
   h'.get? s.heap.objs.size=some { cls:=.type "list",dict:=none,data:=.seq acc' j,slots:=#[]}->ItemsOf (λi v=>∃t,v=.int (a+i * c) t) acc' n ->
   wpAny (model prog w) A (match Value.ref s.heap.objs.size with
   | Value.ref a=>do
    match (<- load a).data with
     | Data.seq xs _=>pure xs.toList
     | _=>unsupported "internal:collect"
   | _=>unsupported "internal:collect") Q E { s with heap:=h',toks:=tk }:=by
  intro h' tk acc' j m g d
  skip
  refine aH<|wpAny_load g ?_;refine aW ?_;exact hQ h' tk acc' (λb o e=>m b o (bK<|bq e)<|aS _ e) d
 refine fj (wpAny_extend_range (A:=A) (R:=λq s'=>q=.ok (.ret<|.ref s.heap.objs.size)/\∃h' tk acc' j,s'={ s with heap:=h',toks:=tk }/\(∀b o,b≠s.heap.objs.size->(s.heap.push {}).get? b=some o->h'.get? b=some o) /\
   h'.get? s.heap.objs.size=some { cls:=.type "list",dict:=none,data:=.seq acc' j,slots:=#[]}/\ItemsOf (λi v=>∃t,v=.int (a+i * c) t) acc' n)
  (s:={ s with heap:=s.heap.push {}}) hh (aS _ hr) J hn hlen s.heap.objs.size (.ref s.heap.objs.size) 0 z
  (λh' tk acc' j m g d=>⟨rfl,h',tk,acc',j,rfl,m,g,d⟩)) (λfin s' h=>?_) λe s' h=>?_
 ·cases fin with
  | done f=>
   obtain⟨e,h',tk,acc',j,rfl,m,g,d⟩:=h
   cases e
   exact k h' tk acc' j m g d
  | again j=>exact⟨h.1,f7 h.2 λr p hr=>by
    obtain⟨rfl,h',tk,acc',j,rfl,m,g,d⟩:=hr;exact k h' tk acc' j m g d⟩
 ·exact absurd h.1<|by simp
def p5(l:aj){a b:Int}{t v:Tok}{n:Nat}(hsmall:Builtin.Range.small a b 1=true)
  (hn:Builtin.Range.rangeSize a b 1=n) (hlen:n<=1000) :
  Meets (Builtin.«tuple.__new__» ⟨[.type "tuple",.ref l],[]⟩)
   (λA R s=>A.handled=none/\IsRange s.heap l a b 1 t u v/\∀(h':ak) (tk:Nat) (acc':Array aa),(∀b o',s.heap.get? b=some o'->h'.get? b=some o')->ItemsOf (λi v=>∃t,v=.int (a+i * 1) t) acc' n->R (.ok<|.ret<|.ref h'.objs.size) { s with heap:=h'.push { cls:=.type "tuple",data:=.seq acc' },toks:=tk }):=
 .of_wp λprog w A R s h=>by
  obtain⟨B,g,d,tk,C⟩:=s;obtain⟨G,p,h⟩:=h;have q:=sub_tuple_self;have m:=init_tuple_lookup;have F:=madeHere_tuple;have J:Shared.TypeIs ⟨B,g,d,tk,C⟩ (.ref l) "range" := ⟨_,p,rfl⟩;have j:A.in1.handled=none:=G
  wp_walk using fM p,gO J,z6 (A:=A.in1) j p hsmall hn (by omega)
  intro h' k acc' z f;show wpAny _ _ (Builtin.Tuple.tupleExact acc'.toList.toArray >>= λv=>ret v) _ _ _;unfold Builtin.Tuple.tupleExact;have e:acc'.toList.toArray=acc':=by simp
  refine aH (cS ?_<|by show acc'.toList.toArray.size<=sizeLine;rw[e,f.1,dz];omega);refine aW ⟨_,rfl,?_⟩;rw[e];exact h h' k acc' z f
def uq(hc:X.calm=true):jo X (.type "tuple") (λxs H Q=>∃p i j,xs=[.ref p]/\H p=some (.rng i j)/\(-(2 ^ 62)<=i/\i<2 ^ 62/\-(2 ^ 62)<=j/\j<2 ^ 62)/\(j-i).toNat<=1000/\∀l,H l=none->Q (.ref l) (upd H l<|.tup<|(zj i j).map V.int)):=by
 kd_p;obtain⟨p,i,j,rfl,G,⟨B,m,J,C⟩,hn,q⟩:=h;kln_w
 cases rx
 obtain⟨t,K,v,e⟩:=I.hok p _ G;refine callType_new F.called_tuple ⋯ (F.typeCall_tuple_1 _) (F.newCall_tuple_1 _) (λg=>F.args_object_init_2 g _) F.entry_tuple_new
  (p5 (n:=(j-i).toNat) p (small_one B m J C) G7 hn) ⟨I.ok.hd hc,e,λh' k d z f=>⟨⟨_,bI _ rfl,rfl⟩,?_⟩⟩
 have I1:Inv X pins σ H { s with heap:=h',toks:=k }:=I.kept z;refine⟨.ref h'.objs.size,_,I1.laid (t':=k) (o:=.tup<|(zj i j).map V.int) (λb o e=>aS _ e) (aM _) ⟨?_,d.toList,ux f,?_⟩,rfl,q _<|I1.hok.fresh<|aM _⟩
 ·rw[aG,z7,dz];lia
 ·have e:d.toList.toArray=d:=by simp
  rw[e];exact mD.new _ _
abbrev Mp (K:aq):R2:=λx y H Q=>∃a b ys,x=.ref a/\y=.ref b/\mZ K H a []/\mZ K H b ys/\Q (.ref b) H
def Hl:ly X (binaryOp .Add) (Mp X.K):=by
 gn_on;obtain⟨a,b,ys,rfl,rfl,h1,F,q⟩:=h
 cases rx
 cases ry
 obtain⟨us,r1,p1,_⟩:=I.tuple h1;obtain⟨G,r2,p2,_⟩:=I.tuple F
 cases r1
 obtain⟨⟨cls,dd,data,B⟩,z,hc,n,hd⟩:=id p1;obtain⟨⟨p,k,m,j⟩,f,g,C,d⟩:=id p2;simp only at hc hd g d;subst hc hd g d;exact concat_meets ⟨_,z,rfl⟩ ⟨_,f,rfl⟩ noFill_tuple_add seq_tuple_add f9 fW (fL _ _)
   (tuple_addW0 a b _ G.toArray n C dd k B j<|by simp) ⟨z,f,⟨.ref b,H,I,rfl,q⟩⟩
end
def j_:bootBuiltins "len" = some (.builtin "len"):=by decide +kernel
def Io:bootBuiltins "max" = some (.builtin "max"):=by decide +kernel
def GL:bootBuiltins "min" = some (.builtin "min"):=by decide +kernel
def rV:bootBuiltins "sorted" = some (.builtin "sorted"):=by decide +kernel
def Oe:bootBuiltins "int" = some (.type "int"):=by decide +kernel
def ny:bootBuiltins "list" = some (.type "list"):=by decide +kernel
def uT:bootBuiltins "tuple" = some (.type "tuple"):=by decide +kernel
def Kf:∀{a b:ae},a.Perm b->a.Pairwise (·<=·)->b.Pairwise (·<=·)->a=b:=λp f d=>
 fN (λx y _ _ h1 g=>Int.le_antisymm h1 g) f d p
abbrev Kn (P:ah)(w:af)(K:aq)(mg:Str->aw)(base:ak)(k:Nat)(x:Str)(ps:am)(sp:Sp):Prop:=
 ∃(f:aj) (fd:FuncData),FnOk P w K mg base p6 k f fd ps sp/\mg x=some (.ref f)/\PySem.W.keepIn K (.ref f)=true/\Binds K fd ps []
def Pu{X:Cx}{k:Nat}{x:Str}{sp:Sp}{t:TA}{p:Pos}(G:Kn X.prog X.w X.K X.mg X.base k x ps sp)(hr:Room k X.A)(ha:PA X (e::es) t)(hg:Gl X x<|>θ)
  (hdb:(x == ("__debug__" : Str))=false<|>η) (hs:starEach (e::es) X.env=(false,eval e X.env)::starEach es X.env<|>θ) (J:((backTo pos<|starEach es X.env).any (·.1)=false)<|>θ) :
  PE X (.Call (.Name x p) (e::es) [] pos) (Lc sp [] E0 t):=by
 obtain⟨f,fd,F,d,j,g⟩:=G;exact JL F hr hg d j g .nil Qk ha hdb hs J
abbrev uR (J fs:am):am->List (bi)->Prop
 | [],[]=>True
 | _::N,none::c=>uR J fs N c
 | x::N,some j::c=>J[j]?=some x/\x∈fs/\uR J fs N c
 | _,_=>False
theorem uR.len{fs:am}:∀{N:am}{c:List<|bi},uR XN fs N c->c.length=N.length
 | [],[],_=>rfl
 | _::N,none::c,h=>d9 (·+1) (uR.len (N:=N) (c:=c) h)
 | _::N,some j::c,h=>d9 (·+1) (uR.len (N:=N) (c:=c) h.2.2)
 | [],_::_,h=>h.elim
 | _::_,[],h=>h.elim
theorem uR.cp{fs:am}:∀{N:am}{c:List<|bi},uR XN fs N c->∀(i j:Nat) (x:Str),N[i]?=some x->c[i]?=some (some j)->XN[j]?=some x/\x∈fs
 | [],[],_,i,j,x,h1,_=>by simp at h1
 | y::N,none::c,h,i,j,x,h1,h2=>by
  cases i with
  | zero=>simp at h2
  | succ i=>exact uR.cp (N:=N) (c:=c) h i j x (by simpa using h1)<|by simpa using h2
 | y::N,some k::c,h,i,j,x,h1,h2=>by
  cases i with
  | zero=>
   simp at h1 h2;subst h1 h2;exact⟨h.1,h.2.1⟩
  | succ i=>exact uR.cp (N:=N) (c:=c) h.2.2 i j x (by simpa using h1)<|by simpa using h2
 | [],_::_,h,_,_,_,_,_=>h.elim
 | _::_,[],h,_,_,_,_,_=>h.elim
def qU{X:Cx}{scope:Scope}{N:am}(fs:am)(kind:scope.kind=.function)(nocf:∀y∈scope.names,y.2=.cell->scope.names.lookup y.1=some .cell/\(y.1,NameKind.free)∉scope.names)(nm:∀y∈scope.names,y.2=.local->scope.names.lookup y.1=some .local)
  (nolf:∀y∈scope.names,y.2=.free->scope.names.lookup y.1≠some .local) (hf:∀y∈scope.names,y.2=.free->y.1∈fs) (J:∀x∈fs,(x,NameKind.free)∈scope.names) (hk:∀x∈fs,X.env.kindOf x=some .cell\/X.env.kindOf x=some .free) (cp:uR X.N fs N cap):CpScope X scope N cap where
 kind:=kind
 nocf:=λx hf hc=>(nocf (x,.cell) hc rfl).2 hf
 nm:=nm
 fr:=λy hy e=>hk _ (hf y hy e)
 rl:=λy h=>by
  have g:∀k,(k=NameKind.cell\/k=NameKind.free)->(relabel scope X.env).names.lookup y=some k->(y,NameKind.free)∈scope.names\/scope.names.lookup y=some .cell:=λk hk e=>by
   obtain⟨⟨z,m⟩,f,d⟩:=bU.mp<|uI e;dsimp only at d;split at d
   ·rename_i hc
    cases d
    have:m=.free:=by
     dsimp[bY]at hc;simpa using hc.1.1
    subst this;exact .inl f
   ·cases d
    rcases hk with rfl|rfl
    ·exact .inr (nocf _ f rfl).1
    ·exact .inl f
  rcases h with h|h
  ·exact g _ (.inl rfl) h
  ·exact g _ (.inr rfl) h
 len:=cp.len
 nolf:=λx q=>nolf (x,.free) q rfl
 cp:=λi j x h1 p=>by
  obtain⟨a,b⟩:=cp.cp i j x h1 p;exact⟨a,J x b⟩
inductive Kd where
 | non|bl|int|str|lst|tup
 deriving DecidableEq
abbrev Kd.ty:Kd->aa
 | .non=>.type "NoneType" | .bl=>.type "bool" | .int=>.type "int" | .str=>.type "str" | .lst=>.type "list" | .tup=>.type "tuple"
def yk:bootBuiltins "enumerate" = some (.type "enumerate"):=by decide +kernel
def xj(elt t1 i1 t2 i2:aA)(f1 f2:List aA)(scope:Scope)(pos:Pos)(it acc:aa)(env:Env) :
  compTurn (.ListComp elt [⟨t1,i1,f1,0⟩,⟨t2,i2,f2,0⟩] scope pos) 0 it acc env=(do
   standAt i1.pos
   match <- pyNext it with
   | none=>pure (.done .next)
   | some v=>
    letOwnedTupleGo t1 it v
    assign t1 env v
    let mut ok:=true
    for c in f1 do
     if ok then ok <- isTrue c env (eval c env)
    if ok then
     let x <- eval i2 env
     standAt i2.pos
     let x <- foldedSetIterable i2 env x
     let _ <- runOwn (.compStart (.ListComp elt [⟨t1,i1,f1,0⟩,⟨t2,i2,f2,0⟩] scope pos) 1 (<- holding [x] (pyIter x)) acc env) env
    again (.compLoop (.ListComp elt [⟨t1,i1,f1,0⟩,⟨t2,i2,f2,0⟩] scope pos) 0 it acc env)):=by rfl
def yj(elt t1 i1 t2 i2:aA)(f1 f2:List aA)(scope:Scope)(pos:Pos)(it acc:aa)(env:Env) :
  compTurn (.ListComp elt [⟨t1,i1,f1,0⟩,⟨t2,i2,f2,0⟩] scope pos) 1 it acc env=(do
   standAt i2.pos
   match <- pyNext it with
   | none=>pure (.done .next)
   | some v=>
    letOwnedTupleGo t2 it v
    assign t2 env v
    let mut ok:=true
    for c in f2 do
     if ok then ok <- isTrue c env (eval c env)
    if ok then
     (do let _ <- call (.builtin "list.append") [acc,<- eval elt env])
    again (.compLoop (.ListComp elt [⟨t1,i1,f1,0⟩,⟨t2,i2,f2,0⟩] scope pos) 1 it acc env)):=by rfl
section
variable {prog:ah}{w:af}{A:au}{R:Result->az->Prop}{s:az}
def oW{f1 f2:List aA}{env:Env}
  (h0:codeAny (model prog w) A (.compLoop (.ListComp elt [⟨t1,i1,f1,0⟩,⟨t2,i2,f2,0⟩] scope pos) 1 it acc env) R s)
  (h:wpAny (model prog w) A (pyIter it) (λit' s'=>codeAny (model prog w) A (.compLoop (.ListComp elt [⟨t1,i1,f1,0⟩,⟨t2,i2,f2,0⟩] scope pos) 1 it' acc env) R s')
   (notedBy (model prog w) A env λx s'=>R (.error x) s') s) :
  codeAny (model prog w) A (.compStart (.ListComp elt [⟨t1,i1,f1,0⟩,⟨t2,i2,f2,0⟩] scope pos) 1 it acc env) R s:=by
 refine codeAny_of_tree ?_
 skip
 refine wpAny_notedAt ?_;unfold compStart
 skip
 refine aH<|wpAny_askSetting<|wpAny_ite ?_;split
 ·first
   | exact aH (aW<|aW<|anI rfl h0)
   | exact aW<|anI rfl h0
 ·first
   | exact aH (er<|aH<|dS<|aH<|fj h (λit' s' h'=>aW<|anI rfl h') λ_ _ x=>x)
   | (refine aH<|er ?_;show wpAny _ _ (standAt i2.pos >>= _) _ _ s;exact aH<|dS<|aH<|fj h (λit' s' h'=>aW<|anI rfl h') λ_ _ x=>x)
end
abbrev Fy (g:TG)(tc:TT)(te:TE)(D:aj)(Nn:L2.St->Hp->Prop)(σ:L2.St)(J:It)(H1:Hp):Prop:=
 ∃V:Nat->Nat->L2.St->Hp->Prop,(∃m,V 0 m σ H1)/\∀i m f H',V i m f H' ->
  (J.stop i H'/\Nn f H')\/(J.go i H'/\∀x H2,J.yld i H' x H2->g x f H2 λd q=>tc d q λb p=>
   if b=true then te d p λy k=>∃ys,k D=some (.lst ys)/\ys.length<sizeLine/\∃j,j<m/\V (i+1) j d (upd k D<|.lst<|ys++[y])
   else ∃j,j<m/\V (i+1) j d p)
def Ad{Z:Cx}{f1:List aA}{fp:ar}{tn:Nat->ak->Prop}{H:Hp}{s:az}{g:TG}{tc:TT}{te:TE}{Nn:L2.St->Hp->Prop}
  (hc:Z.calm=true) (hxe:Z.xe=λ_ _=>False) (T:Turn Z.prog Z.w Z.K tg J fp it tn) (I:Inv Z pins σ H s) (st:tn 0 s.heap) (hf:∀b∈fp,pJ Z pins H b) (hg:PG Z tg g) (ht:Jc Z ifs tc) (he:PE Z elt te) (goal:Fy g tc te D Nn σ J H) :
  codeAny (model Z.prog Z.w) Z.A (.compLoop (.ListComp elt [⟨t1,i1,f1,0⟩,⟨tg,i2,ifs,0⟩] scope pos) 1 (.ref it) (.ref D) Z.env) (λr s'=>r=.ok .next/\∃σ' H',Inv Z pins σ' H' s'/\Nn σ' H') s:=by
 obtain⟨V,⟨m0,v0⟩,turn⟩:=goal;have B:∀{H':Hp},(∀b∈fp,H' b=none)->∀b∈fp,pJ Z pins H' b:=λhn b C=>⟨hn b C,(hf b C).2⟩;refine codeAny_loop rfl (λn s'=>∃i σ' H',Inv Z pins σ' H' s'/\tn i s'.heap/\(∀b∈fp,H' b=none)/\V i n σ' H') (λn s5 hI=>?_) m0 ⟨0,σ,H,I,st,λb C=>(hf b C).1,v0⟩;obtain⟨i,p,Y,I5,P,N,w5⟩:=hI
 skip
 refine wpAny_noted ?_;rw[yj];refine aH (dS<|aH ?_)
 rcases turn i n p Y w5 with⟨O,q⟩|⟨go,step⟩
 ·refine jM (T.done Z rfl rfl rfl hc i pins s5 p Y _ I5 (B N) P O) λr s6 h9=>?_;obtain⟨hr,I6⟩:=h9;subst hr;exact aW ⟨rfl,p,Y,I6,q⟩
 ·refine jM (T.item Z rfl rfl rfl hc i pins s5 p Y _ I5 (B N) P go) λr s6 h9=>?_;obtain⟨u,hr,h6⟩:=h9;subst hr;refine aH<|jM h6 λ_ s7 ⟨x,H7,I7,r7,y7,M,fr7⟩=>?_;have I7':=I7.pinned (B fr7)<|T.obj _ _ M;have F:∀{α:Type} {t:Sem α} {Q Q':α->az->Prop} {E:aa->az->Prop} {s:az},wpAny (model Z.prog Z.w) Z.A t Q Z.xe s->(∀a s,Q a s->Q' a s)->wpAny (model Z.prog Z.w) Z.A t Q' E s:=λh hQ=>by
   rw[hxe]at h;exact ya h hQ
  refine aH<|F (hg _ s7 p H7 x u _ I7' r7<|step x H7 y7) λ_ s8 ⟨j,H8,I8,q8⟩=>?_;refine aH<|F (ht _ s8 j H8 _ I8 q8) λok s9 ⟨H9,I9,W⟩=>?_;have again:∀{k:az} {f:Hp},Inv Z (pins++qe fp s7.heap) j f k->(∃U,U<n/\V (i+1) U j f) ->
    ∃m,m<n/\∃i σ' H',Inv Z pins σ' H' k/\tn i k.heap/\(∀b∈fp,H' b=none)/\V i m σ' H':=λ{k f} z h9=>by
   obtain⟨U,hm,L⟩:=h9;refine⟨U,hm,i+1,j,f,z.nj,T.keep _ _ _ M λb C o e=>(z.pin (b,o)<|bh _<|bh _<|jS C e).1,λb C=>?_,L⟩;obtain⟨o,e,d⟩:=T.obj _ _ M b C;exact(z.pin (b,o)<|bh _<|bh _<|jS C e).2.1
  cases ok with
  | false=>
   rw[aO bN]at W;exact aW ⟨rfl,again I9 W⟩
  | true=>
   rw[aN rfl]at W;refine aH<|aH<|F (he _ s9 j H9 _ I9 W) λy k ⟨G,f,z,r10,ys,hD,hz,L⟩=>?_;refine aH<|F (sd _ k j f (.ref D) [G] _ [y] (λ_ H'=>H'=upd f D (.lst<|ys++[G])) z rfl (.cons r10 .nil) ⟨_,ys,G,rfl,rfl,hD,hz,rfl⟩) λ_ s11 ⟨_,H11,I11,_,e11⟩=>?_;subst e11;exact aW<|aW ⟨rfl,again I11 L⟩
abbrev KC (cap:List<|bi)(g:TG)(tc:TT)(wi2:TI)(g2:TG)(tc2:TT)(te:TE)(σ:L2.St)(Q:VK)(J:It)(H1:Hp):Prop:=∀D,H1 D=none ->
 ∃W:Nat->Nat->L2.St->Hp->Prop,(∃m,W 0 m (cap.map<|JK σ)<|upd H1 D<|.lst [])/\∀i m f H',W i m f H' ->
  (J.stop i H'/\Q (.ref D) H')\/(J.go i H'/\∀x H2,J.yld i H' x H2->g x f H2 λd z=>tc d z λb p=>
   if b=true then wi2 d p (Fy g2 tc2 te D (λk q=>∃j,j<m/\W (i+1) j k q) d)
   else ∃j,j<m/\W (i+1) j d p)
abbrev QZ (cap:List<|bi)(J:TI)(g:TG)(tc:TT)(wi2:TI)(g2:TG)(tc2:TT)(te:TE):TE:=λσ H Q=>J σ H<|KC cap g tc wi2 g2 tc2 te σ Q
def OE{X:Cx}{iter:aA}{N:am}{wi wi2:TI}{g g2:TG}{tc tc2:TT}{te:TE}(hc:X.calm=true)(S:CpScope X scope N cap)(hi:PI X tg iter wi)
  (hg:∀C s₀ H₀ ex,PG (jG X scope N C s₀ H₀ ex) tg g) (ht:∀C s₀ H₀ ex,Jc (jG X scope N C s₀ H₀ ex) ifs tc) (hi2:∀C s₀ H₀ ex,PI (jG X scope N C s₀ H₀ ex) tg2 iter2 wi2)
  (hg2:∀C s₀ H₀ ex,PG (jG X scope N C s₀ H₀ ex) tg2 g2) (ht2:∀C s₀ H₀ ex,Jc (jG X scope N C s₀ H₀ ex) ifs2 tc2) (he:∀C s₀ H₀ ex,PE (jG X scope N C s₀ H₀ ex) elt te)
  (hs:(∀x,foldedSetIterable iter X.env x=pure x)<|>ι) (hs2:∀env x,foldedSetIterable iter2 env x=pure x:=by intro _ _;rfl):PE X (.ListComp elt [⟨tg,iter,ifs,0⟩,⟨tg2,iter2,ifs2,0⟩] scope pos) (QZ cap wi g tc wi2 g2 tc2 te):=by
 k_ne;kj_on;rw[eval_ListComp];refine wpAny_comprehension_free (use:=none) rfl hs (uF hfree) S.kind S.nm<|jM (hi pins s σ H _ I h) λxv s1 h1=>jM h1 λitv f h2=>?_;obtain⟨it,fp,tn,J,H2,rfl,I2,T,st2,f2,h2⟩:=h2;refine cS<|De λV B old F=>?_;obtain⟨W,⟨m0,w0⟩,turn⟩:=h2 f.heap.objs.size I2.fresh;dsimp only at B old F ⊢;have I3:Inv X pins σ (upd H2 f.heap.objs.size<|.lst []) { f with heap:=f.heap.push {}}:=I2.K2 (t':=f.toks) (its:=[]) .nil<|bQ _;have hfp:∀b∈fp,∃o,f.heap.get? b=some o:=λb j=>by
  obtain⟨o,e,_⟩:=T.obj 0 _ st2 b j;exact⟨o,e⟩
 have neD:∀b∈fp,b≠f.heap.objs.size:=λb j=>by
  obtain⟨o,e⟩:=hfp b j;exact bK<|bq e
 have f3:∀b∈fp,pJ X pins (upd H2 f.heap.objs.size<|.lst []) b:=λb j=>⟨by rw[iV<|neD b j];exact(f2 b j).1,(f2 b j).2⟩;have hDC:f.heap.objs.size≠(f.heap.push {}).objs.size:=by rw[dX];exact bK (cE _)
 have I4:=GP (tk:=f.toks+([]:List<|Str×aa).length) (fp:=fp) S I3 f3 (λb j=>by
  obtain⟨o,e⟩:=hfp b j;exact⟨o,aS _ e⟩) B F old
 have st4:tn 0 V:=T.keep _ _ _ st2 λb j o e=>old b o<|aS _ e;have K:∀{H':Hp},(∀b∈fp,H' b=none)->∀b∈fp,pJ (jG X scope N (f.heap.push {}).objs.size { f with heap:=f.heap.push {}} (upd H2 f.heap.objs.size<|.lst []) fp) [] H' b:=λhn b j=>by
  have ok:=I4.ok;refine⟨hn b j,(ok.exf b j).1,ok.exfs b j,.inl j,λx c e=>(ok.exf b j).2 x c e,λp hp=>nomatch hp⟩
 have Y:∀s4:az,s4={ f with heap:=V,toks:=f.toks+([]:List<|Str×aa).length } ->
   codeAny (model X.prog X.w) X.A (.compLoop (.ListComp elt [⟨tg,iter,ifs,0⟩,⟨tg2,iter2,ifs2,0⟩] scope pos) 0 (.ref it) (.ref f.heap.objs.size)<|compEnvC scope (cellsFrom ((f.heap.push {}).objs.size+1) scope.names<|pY X.env scope.names []) (f.heap.push {}).objs.size X.env)
    (compPost (model X.prog X.w) X.A X.xe none (EP X pins σ Q) (.ref f.heap.objs.size) (f.heap.push {}).objs.size) s4:=by
  rintro s4 rfl;refine codeAny_loop rfl (λn s'=>∃i L H',Inv (jG X scope N (f.heap.push {}).objs.size { f with heap:=f.heap.push {}} (upd H2 f.heap.objs.size<|.lst []) fp) [] L H' s'/\tn i s'.heap/\(∀b∈fp,H' b=none)/\W i n L H') (λn s5 hI=>?_) m0 ⟨0,_,_,I4,st4,λb j=>(f3 b j).1,w0⟩;obtain⟨i,O,H5,I5,st5,fr5,w5⟩:=hI;show wpAny _ X.A ((compTurn (.ListComp elt [⟨tg,iter,ifs,0⟩,⟨tg2,iter2,ifs2,0⟩] scope pos) 0 (.ref it) (.ref f.heap.objs.size)<|compEnvC scope (cellsFrom ((f.heap.push {}).objs.size+1) scope.names<|pY X.env scope.names []) (f.heap.push {}).objs.size X.env).onRaise λx=>do noteFrame x _;theTreesLotGoes x) _ _ s5;refine wpAny_noted ?_;rw[xj];refine aH (dS<|aH ?_)
  rcases turn i n O H5 w5 with⟨stop,q⟩|⟨go,step⟩
  ·refine jM (T.done (jG X scope N (f.heap.push {}).objs.size { f with heap:=f.heap.push {}} (upd H2 f.heap.objs.size<|.lst []) fp) rfl rfl rfl hc i [] s5 O H5 _ I5 (K fr5) st5 stop) λr s6 h9=>?_;obtain⟨hr,I6⟩:=h9;subst hr;obtain⟨m6,hn6,_⟩:=I6.loc;refine aW ⟨m6,hn6,λh' sb=>?_⟩;have u6:=I6.base;have nC:∀b o,(f.heap.push {}).get? b=some o->b≠(f.heap.push {}).objs.size:=λb o e=>bK<|bq e;refine⟨.ref f.heap.objs.size,H5,?_,rfl,q⟩;refine I3.Fp (ch:=fp) I6.os ⟨λb o e n j hx=>?_,λb o e n j hx=>?_,λb o e n hx=>?_,λb o e hx=>?_,u6.tups,u6.frzs,u6.tbls⟩ ?_ I6.bare ?_
   ·exact sb.extBut b o (nC b o e) (u6.keep b o e n j hx)
   ·obtain⟨sl,z⟩:=u6.slot b o e n j hx;exact⟨sl,sb.extBut b _ (nC b o e) z⟩
   ·exact u6.free b o e n hx
   ·obtain⟨o',z⟩:=u6.there b o e hx;exact⟨o',sb.extBut b _ (nC b o e) z⟩
   ·intro b o e;have j:∀c v,H5 c=some v->c≠(f.heap.push {}).objs.size:=λc v e z=>by
     rw[z]at e;have:=I6.free;rw[show H5 (f.heap.push {}).objs.size=none from this]at e
     cases e
    refine(I6.hok b o e).stay (λc v hc q=>sb.extBut c v ?_ q) (λ_ q=>q) λ_ _ q=>q
    rcases hc with z|z
    ·rw[z];exact j b o e
    ·exact j c _ z
   ·intro b j;obtain⟨_,z1,_,z3,z4,z5⟩:=f3 b j;exact⟨z3,z1,z4,z5⟩
  ·refine jM (T.item (jG X scope N (f.heap.push {}).objs.size { f with heap:=f.heap.push {}} (upd H2 f.heap.objs.size<|.lst []) fp) rfl rfl rfl hc i [] s5 O H5 _ I5 (K fr5) st5 go) λr s6 h9=>?_;obtain⟨u,hr,h6⟩:=h9;subst hr;refine aH<|jM h6 λ_ s7 ⟨x,H7,I7,r7,y7,st7,fr7⟩=>?_;have I7':=I7.pinned (K fr7)<|T.obj _ _ st7;refine aH<|ya (hg _ _ _ fp _ s7 O H7 x u _ I7' r7<|step x H7 y7) λ_ s8 ⟨σ8,H8,I8,q8⟩=>?_;refine aH<|ya (ht _ _ _ fp _ s8 σ8 H8 _ I8 q8) λok s9 ⟨H9,I9,q9⟩=>?_;have again:∀{M:az} {P:Hp} {k:L2.St},Inv (jG X scope N (f.heap.push {}).objs.size { f with heap:=f.heap.push {}} (upd H2 f.heap.objs.size<|.lst []) fp) ([]++qe fp s7.heap) k P M->(∃m',m'<n/\W (i+1) m' k P) ->
     ∃m,m<n/\∃i L H',Inv (jG X scope N (f.heap.push {}).objs.size { f with heap:=f.heap.push {}} (upd H2 f.heap.objs.size<|.lst []) fp) [] L H' M/\tn i M.heap/\(∀b∈fp,H' b=none)/\W i m L H':=λ{M P k} I10 h9=>by
    obtain⟨m',hm,w10⟩:=h9;refine⟨m',hm,i+1,k,P,I10.nj,T.keep _ _ _ st7 λb j o e=>(I10.pin (b,o)<|bh _<|bh _<|jS j e).1,λb j=>?_,w10⟩;obtain⟨o,e,d⟩:=T.obj _ _ st7 b j;exact(I10.pin (b,o)<|bh _<|bh _<|jS j e).2.1
   cases ok with
   | false=>
    rw[aO bN]at q9;exact aW ⟨rfl,again I9 q9⟩
   | true=>
    rw[aN rfl]at q9;refine aH<|ya (hi2 _ _ _ fp _ s9 σ8 H9 _ I9 q9) λxv M h10=>aH<|dS ?_;rw[hs2];refine aH<|aW<|aH<|di<|ya h10 λitv s11 h11=>?_;obtain⟨it2,fp2,tn2,J2,H11,rfl,I11,T2,U,f11,goal⟩:=h11;have hcz:=hc;have G:=(λ(Z:Cx) (h1:Z.calm=true) (h2:Z.xe=λ_ _=>False) T2 I11=>Ad (Z:=Z) (t1:=tg) (i1:=iter) (f1:=ifs) (i2:=iter2) (scope:=scope) (pos:=pos) h1 h2 T2 I11) _ (show(jG X scope N _ _ _ fp).calm=true from hcz) rfl T2 I11 U f11 (hg2 _ _ _ fp) (ht2 _ _ _ fp) (he _ _ _ fp) goal;refine aH<|wpAny_runOwn<|f7 (oW G<|T2.self _ 0 _ _ _ U G) λr s12 hr12=>?_;obtain⟨hr,σ12,H12,I12,n12⟩:=hr12;subst hr;exact aW ⟨rfl,again I12 n12⟩
 exact codeAny_compStart_list (Y _ rfl)<|T.self _ 0 _ _ _ st4<|Y _ rfl
end L2
namespace L2
open PySem PySem.Spec PyProof.Rows
open PySem.SeqAt
open PySem.AutoSeq1 (wpAny_loadPart')
open PySem.MeetsSeq PySem.MeetsSeq2 PySem.MeetsSeq3 PySem.SeqAt
section
variable {X:Cx}
def Gk:ly X (binaryOp .FloorDiv) (rI (λ_ j=>0<j/\j<18446744073709551616) λi j=>.int<|i / j):=QB λi j _ _ _ _ _ hc q=>by
 have h1:(0:Int)<j:=hc.1;have d:j<18446744073709551616:=hc.2;refine floordiv_int (by omega) (by rw[Int.fdiv_eq_ediv_of_nonneg i<|by omega];exact q)<|.inl<|PyProof.noPylong_of_log2 ?_;exact bP ((Nat.log2_lt<|by omega).mpr<|show j.natAbs<2 ^ 64 by omega) ⋯
end
end L2
namespace L2
open PySem PySem.Spec PyProof.Rows
abbrev Si (x:Str):It:=⟨λi _=>i<x.cps.size,λi H v H'=>H'=H/\∃c,x.cps[i]?=some c/\v=.str ⟨#[c]⟩,λi _=>i=x.cps.size⟩
def Fx{P:ah}{w:af}{K:aq}(x:Str)(t:Tok)(it:aj):Turn P w K tg (Si x) [it] it (λi h=>h.IsStrIter it "str_ascii_iterator" x t i) where
 mem:=by simp
 obj:=λi h st b f=>by
  have e:b=it:=by simpa using f
  subst e;obtain⟨o,e,c,d⟩:=st;exact⟨o,e,λv z=>by rw[d]at z;cases z⟩
 keep:=λi h h' st k=>let⟨o,ho,r⟩:=st;⟨o,k it (by simp) o ho,r⟩
 item:=by
  room;subst hP hw hK;w_up;have W:=Walks.strAscii (prog:=X.prog) (w:=X.w) (I.ok.hd hc) it x t;refine W.item i s _ _ hg st λv h' m hv g j=>?_;obtain⟨c,u,p,rfl⟩:=hv;have I1:Inv X pins σ H { s with heap:=h',toks:=m }:=I.turned (λb o f e=>j b o (by simpa using f) e) f0 f1 f3 f4 f5;obtain⟨o,e,q,d⟩:=id g;exact⟨_,rfl,vY (s:={ s with heap:=h',toks:=m }) e q d ⋯ ⟨.str ⟨#[c]⟩,H,I1,⟨u,rfl⟩,⟨rfl,c,p,rfl⟩,g,λb f=>(hf b f).1⟩⟩
 done:=by
  room;subst hP hw hK;w_up;have hg:i=x.cps.size:=hg;subst hg;have W:=Walks.strAscii (prog:=X.prog) (w:=X.w) (I.ok.hd hc) it x t;exact W.done s _ _ st λh' m j=>⟨rfl,I.turned (λb o f e=>j b o (by simpa using f) e) f0 f1 f3 f4 f5⟩
 self:=λ_ _ _ _ _ st h=>wpAny_pyIter_striter_ascii st h
section
variable {X:Cx}{tg:aA}
abbrev RW (tl:TE):TI:=λσ H R=>tl σ H λx H1=>∃y:Str,x=.str y/\y.cps.all (· < 128)=true/\R (Si y) H1
def Mr{tl:TE}(J:PE X l tl):PI X tg l (RW tl):=by
 intro pins s σ H R I h;refine jM (J pins s σ H _ I h) λv d h9=>?_;obtain⟨x,H1,I1,r1,g⟩:=h9;obtain⟨y,e,j,q⟩:=g;subst e;obtain⟨t,rfl⟩:=r1;refine wpAny_pyIter_ascii j ?_;refine⟨d.heap.objs.size,[d.heap.objs.size],_,_,H1,rfl,I1.kept (t':=d.toks) λb o e=>aS _ e,Fx y t _,⟨_,bI _ rfl,rfl,rfl⟩,λb f=>?_,q⟩;have e:b=d.heap.objs.size:=by simpa using f
 subst e;kcf_m
def Eg:jo X (.type "int") (λxs H Q=>∃(y:Str) (n:Int),xs=[.str y]/\y.length<=640/\PySem.intText? y=some n/\Q (.int n) H):=by
 intro pins s σ H xs us Q I g h;obtain⟨y,n,rfl,f,hn,q⟩:=h;obtain⟨w,rfl,d⟩:=vals1 g;obtain⟨u,rfl⟩:=d;exact PySem.W.KIN.call_text hn f ⟨.int n,H,I.tok _,⟨_,rfl⟩,q⟩
end
section
variable {κ:Type}[DecidableEq κ]
abbrev qx (kvs:List<|κ×V)(k:κ):Option V:=(kvs.find? λd=>decide<|d.1=k).map (·.2)
abbrev putK (kvs:List<|κ×V)(k:κ)(v:V):List (κ×V):=
 if (kvs.any λd=>decide<|d.1=k)=true then kvs.map (λd=>if d.1=k then(d.1,v)else d)else kvs++[(k,v)]
def qG{p:κ×V}{r:List<|κ×V}{k:κ}(e:p.1=k):qx (p::r) k=some p.2:=by simp[qx,dN,e]
def qS{p:κ×V}{r:List<|κ×V}{k:κ}(e:¬p.1=k):qx (p::r) k=qx r k:=by simp[qx,dN,e]
theorem vq(k:κ):∀kvs:List<|κ×V,(kvs.any λkv=>decide<|kv.1=k)=(qx kvs k).isSome
 | []=>rfl
 | p::r=>by
  rw[eY];by_cases e:p.1=k
  ·dsimp[qG e,bf e,Bool.true_or,isSome_some]
  ·rw[qS e,aZ e,gE];exact vq k r
def sR(kvs:List<|κ×V)(k:κ)(v:V):(putK kvs k v).length<=kvs.length+1:=by
 unfold putK;split
 ·rw[aG];lia
 ·rw[aL,bu,d8];lia
def DU.rD{o:Option V}{u:aw}(r:DU o u):o.isSome=u.isSome:=by
 cases o with
 | none=>cases u with
  | none=>rfl
  | some _=>exact(show False from r).elim
 | some _=>cases u with
  | none=>exact(show False from r).elim
  | some _=>rfl
def KV.val(r:KV kvs vs)(k:κ):DU (qx kvs k) (valueAt vs k):=by
 unfold KV at r
 induction r with
 | nil=>exact True.intro
 | @cons p q ps d h t g=>
  obtain⟨h1,j⟩:=h;by_cases e:p.1=k
  ·have f:q.1=k:=h1.symm.trans e;have b:valueAt (q::d) k=some q.2:=by simp[valueAt,dN,f]
   rw[qG e,b];exact j
  ·have f:¬q.1=k:=λz=>e<|h1.trans z;have b:valueAt (q::d) k=valueAt d k:=by simp[valueAt,dN,f]
   rw[qS e,b];exact g
def KV.any{kvs:List<|κ×V}{vs:List<|κ×aa}(r:KV kvs vs)(k:κ):(kvs.any λkv=>decide<|kv.1=k)=vs.any λkv=>decide (kv.1=k):=by
 unfold KV at r
 induction r with
 | nil=>rfl
 | cons h t d=>rw[eY,eY,d,h.1]
def KV.repl{kvs:List<|κ×V}{vs:List<|κ×aa}(r:KV kvs vs)(k:κ)(ry:RelV y u) :
  KV (kvs.map λkv=>if kv.1=k then(kv.1,y)else kv) (vs.map λkv=>if kv.1=k then(kv.1,u)else kv):=by
 unfold KV at r ⊢
 induction r with
 | nil=>exact .nil
 | @cons p q ps g h t d=>
  rw[bS,bS];refine .cons ?_ d;obtain⟨h1,f⟩:=h;by_cases e:p.1=k
  ·rw[aN e,aN<|h1.symm.trans e];exact⟨h1,ry⟩
  ·rw[aO e,aO λz=>e<|h1.trans z];exact⟨h1,f⟩
def KV.put(r:KV kvs vs)(k:κ)(ry:RelV y u):KV (putK kvs k y) (stored vs k u):=by
 unfold putK stored;rw[r.any k];by_cases e:(vs.any λd=>decide<|d.1=k)=true
 ·rw[aN e,aN e];exact r.repl k ry
 ·rw[aO e,aO e];exact Paired.snoc r ⟨rfl,ry⟩
def KV.length{kvs:List<|κ×V}{vs:List<|κ×aa}(r:KV kvs vs):kvs.length=vs.length:=gY r
end
def IV{P:ah}{w:af}{k:Key}(r:RelV (kV k) u):(jY P w).is k u=true:=by
 cases k with
 | inl i=>obtain⟨t,e⟩:=(show ∃t,u=Value.int i t from r);subst e;exact zE P w i t
 | inr x=>obtain⟨t,e⟩:=(show ∃t,u=Value.str x t from r);subst e;exact yZ P w x t
theorem wG{P:ah}{w:af}:∀{ks:List Key}{us:ap},Vals (ks.map kV) us->ItemsAre (jY P w) ks us
 | [],_,r=>by rw[eU]at r;cases r;exact .nil
 | k::ks,_,r=>by
  rw[bS]at r
  cases r with
  | cons h t=>exact .cons (IV h)<|wG t
meta abbrev KT (H:Hp):List (List Key×V)->List (List Key×aj×aa)->Prop:=Paired λp q=>p.1=q.1/\H q.2.1=some (.tup<|p.1.map kV)/\RelV p.2 q.2.2
def KT.val{H:Hp}(r:KT H kvs xs)(k:List Key):DU (qx kvs k) ((atKey xs k).map (·.2)):=by
 induction r with
 | nil=>exact True.intro
 | @cons p q ps d h t g=>
  obtain⟨h1,_,j⟩:=h;by_cases e:p.1=k
  ·have f:q.1=k:=h1.symm.trans e;have b:atKey (q::d) k=some q.2:=by simp[atKey,dN,f]
   rw[qG e,b];exact j
  ·have f:¬q.1=k:=λz=>e<|h1.trans z;have b:atKey (q::d) k=atKey d k:=by simp[atKey,dN,f]
   rw[qS e,b];exact g
def KT.repl{H:Hp}{kvs:List<|List Key×V}{xs:List<|List Key×aj×aa}(r:KT H kvs xs)(k:List Key)(ry:RelV y u) :
  KT H (kvs.map λkv=>if kv.1=k then(kv.1,y)else kv) (xs.map<|putAt k u):=by
 induction r with
 | nil=>exact .nil
 | @cons p q ps j h t g=>
  rw[bS,bS];refine .cons ?_ g;obtain⟨h1,d,f⟩:=h;unfold putAt;by_cases e:p.1=k
  ·rw[aN e,aN<|h1.symm.trans e];exact⟨h1,d,ry⟩
  ·rw[aO e,aO λz=>e<|h1.trans z];exact⟨h1,d,f⟩
def KT.put{H:Hp}(r:KT H kvs xs)(k:List Key)(J:H b=some (.tup<|k.map kV))(ry:RelV y u) :
  KT H (putK kvs k y) (storedH xs k b u):=by
 have e:(kvs.any λd=>decide<|d.1=k)=(atKey xs k).isSome:=by
  rw[vq,(r.val k).rD,gU]
 unfold putK storedH;rw[e];by_cases q:(atKey xs k).isSome=true
 ·rw[aN q,aN q];exact r.repl k ry
 ·rw[aO q,aO q];exact Paired.snoc r ⟨rfl,J,ry⟩
def KT.keeps{H H':Hp}(r:KT H kvs xs)(J:∀b ys,H b=some (.tup ys)->H' b=some (.tup ys)):KT H' kvs xs:=
 Paired.Mi r λ_ _ z=>⟨z.1,J _ _ z.2.1,z.2.2⟩
section
variable {P:ah}{w:af}{H:Hp}{h:ak}{a:aj}
def L4(ok:qB P w H h)(e:Rd H a u):kj P w H h a u:=e.ok ok
def Lr{kvs:List<|Key×V}(ok:qB P w H h)(e:Rd H a<|.dK kvs):kvs.length<=sizeLine/\(a == sysModules)=false/\∃vs,KV kvs vs/\h.DictOf (jY P w) a vs:=
 show kj P w H h a (.dK kvs)from L4 ok e
def P8{kvs:List<|Key×V}(ok:qB P w H h)(e:H a=some (.dK kvs)):kvs.length<=sizeLine/\(a == sysModules)=false/\∃vs,KV kvs vs/\h.DictOf (jY P w) a vs:=Lr ok<|.inl e
def wQ{ks:List Key}(ok:qB P w H h)(e:H a=some (.tup<|ks.map kV)):(tupleKind<|jY P w).is h ks a:=by
 obtain⟨_,d,r,o,h1,g,_,n,f⟩:=(show kj P w H h a (.tup<|ks.map kV)from ok a _ e);exact⟨o,d.toArray,n,h1,g,f,by simpa using wG r⟩
def LV{kvs:List<|List Key×V}(ok:qB P w H h)(e:Rd H a<|.dT kvs):kvs.length<=sizeLine/\(a == sysModules)=false /\
  ∃xs,KT H kvs xs/\h.DictOfH (tupleKind<|jY P w) a xs:=by
 obtain⟨z,y,xs,r,o,es,F,h1,k,g,C,B⟩:=(show kj P w H h a (.dT kvs)from L4 ok e);refine⟨z,y,xs,r,o,es,F,h1,k,g,C,λx d=>?_,B⟩;have all:∀{l:List<|List Key×V} {m:List<|List Key×aj×aa},KT H l m->∀x∈m,(tupleKind<|jY P w).is h x.1 x.2.1:=by
  intro l m q
  induction q with
  | nil=>intro x d;exact nomatch d
  | @cons p q ps G f t j=>
   intro x d
   rcases aY.mp d with e|d
   ·subst e;exact wQ ok (by rw[<- f.1];exact f.2.1)
   ·exact j x d
 exact all r x d
def L8{kvs:List<|List Key×V}(ok:qB P w H h)(e:H a=some (.dT kvs)):kvs.length<=sizeLine/\(a == sysModules)=false /\
  ∃xs,KT H kvs xs/\h.DictOfH (tupleKind<|jY P w) a xs:=LV ok<|.inl e
end
abbrev Em (H:Hp)(a:aj)(y:V)(r:Option V):Prop:=
 (∃d k,Rd H a (.dK d)/\y=kV k/\r=qx d k)\/∃d k b,Rd H a (.dT d)/\y=.ref b/\H b=some (.tup<|k.map kV)/\r=qx d k
abbrev FI (H:Hp)(a:aj)(y v:V)(H':Hp):Prop:=
 (∃d k,H a=some (.dK d)/\y=kV k/\d.length<sizeLine/\H'=upd H a (.dK<|putK d k v)) \/
 ∃d k b,H a=some (.dT d)/\y=.ref b/\H b=some (.tup<|k.map kV)/\d.length<sizeLine/\H'=upd H a (.dT<|putK d k v)
def Em.t{H:Hp}{a:aj}{k:List Key}(e:H a=some (.dT kvs))(J:H b=some (.tup<|k.map kV)):Em H a (.ref b) (qx kvs k):=.inr ⟨kvs,k,b,.inl e,rfl,J,rfl⟩
def FI.t{H:Hp}{a:aj}{kvs:List<|List Key×V}{k:List Key}{v:V}(e:H a=some (.dT kvs))(J:H b=some (.tup<|k.map kV))(hl:kvs.length<sizeLine) :
  FI H a (.ref b) v (upd H a<|.dT<|putK kvs k v):=.inr ⟨kvs,k,b,e,rfl,J,hl,rfl⟩
section
variable {X:Cx}{pins:bj}{σ:St}{H:Hp}{s:az}{a:aj}{y v:V}{u r:aa}{o:Option V}{A:au}{E:aa->az->Prop}
def Inv.big(I:Inv X pins σ H s):sysModules<s.heap.objs.size:=by
 have h:mainGlobals<s.heap.objs.size:=(I.mod.glob.keeps I.bk).lt;exact Nat.lt_trans ⋯ h
def Ku{Q:aa->az->Prop}(J:A.units+1<cLine)(I:Inv X pins σ H s)(g:Em H a y o)(ry:RelV y u)(h:∀s',Inv X pins σ H s'->Q (.bool<|!o.isSome) s') :
  wpAny (model X.prog X.w) A (compareOp .NotIn u<|.ref a) Q E s:=by
 rcases g with⟨j,k,e,f,l⟩|⟨j,k,b,e,f,m,l⟩
 ·subst f;obtain⟨z,hd,p,d,dd⟩:=Lr I.hok e;refine wpAny_notIn_of (IV ry) hd dd.mapOf ?_;rw[<- (d.val k).rD,<- l];exact h _ (I.tok _)
 ·subst f
  cases(show u=Value.ref b from ry)
  obtain⟨z,hd,xs,d,dd⟩:=LV I.hok e;refine wpAny_notIn_heap (tupleKind_room_in1 J) (wQ I.hok m) hd dd ?_;have q:=(d.val k).rD;rw[gU]at q;rw[<- q,<- l];exact h _<|I.tok _
def xq{h':ak}{t':Nat}{J:HO}(I:Inv X pins σ H s)(mu:PN<|H a)(hs:Heap.SameBut a s.heap h')(he:∃q,h'.get? a=some q)(new:kj X.prog X.w (upd H a J) h' a J) :
  Inv X pins σ (upd H a J) { s with heap:=h',toks:=t' }:=
 I.write (x:=a) (e:=a) mu (.inl rfl) (λb q d z=>(hs.2 b d).trans z) he new
def My{P:ah}{w:af}{H':Hp}{h':ak}{kvs:List<|Key×V}(z:kvs.length<=sizeLine)(hd:(a == sysModules)=false)(J:KV kvs vs)(dd:h'.DictOf (jY P w) a vs) :
  kj P w H' h' a (.dK kvs):=⟨z,hd,vs,J,dd⟩
def El{H':Hp}{Q:Unit->az->Prop}(hu:A.units+1<cLine)(I:Inv X pins σ H s)(g:FI H a y v H')(ry:RelV y u)(rv:RelV v r)(h:∀s',Inv X pins σ H' s'->Q Unit.unit s') :
  wpAny (model X.prog X.w) A (setItem (.ref a) u r) Q E s:=by
 rcases g with⟨f,k,e,B,l,p⟩|⟨f,k,b,e,B,J,l,p⟩
 ·subst B p;obtain⟨z,hd,K,d,dd⟩:=P8 I.hok e;have C:K.length<=sizeLine:=by rw[<- d.length];exact z
  have F:(putK f k v).length<=sizeLine:=by have:=sR f k v;lia
  refine wpAny_setItem_pairs (hsz:=C) (IV ry) dd λh' j hs=>h _ ?_;have N:∃q,h'.get? a=some q:=let⟨q,_,_,m,_⟩:=j;⟨q,m⟩
  exact xq I (by rw[e];exact True.intro) hs N<|My F hd (d.put k rv) j
 ·subst B p
  cases(show u=Value.ref b from ry)
  obtain⟨z,hd,xs,d,dd⟩:=L8 I.hok e;have C:xs.length<=sizeLine:=by rw[<- gY d];exact z
  have F:(putK f k v).length<=sizeLine:=by have:=sR f k v;lia
  refine wpAny_setItem_heap (hsz:=C) (tupleKind_room_in1 hu) (wQ I.hok J) dd λh' j hs=>h _ ?_;obtain⟨q,es,O,m,L,P,T,_,M⟩:=j;refine xq I (by rw[e];exact True.intro) hs ⟨q,m⟩ ⟨F,hd,_,(d.put k J rv).keeps λc ys G=>?_,q,es,O,m,L,P,T,M⟩;rw[iV<|LB G e λz=>nomatch z];exact G
end
def EV{P:ah}{w:af}{H:Hp}(h:ak)(J:sysModules<h.objs.size):kj P w H (h.push { cls:=.type "dict",data:=.dict #[]}) h.objs.size (.dT []):=
 ⟨bQ _,c9.mpr<|eE<|bK J,[],.nil,_,#[],0,bI _ rfl,⟨rfl,rfl,rfl⟩,rfl,rfl,iC⟩
meta abbrev Et:=ae×ae
abbrev LS (x:ae):Int:=reduceHash<|Builtin.Tuple.tupleHashOf<|x.map hashInt
abbrev O0 (k:Et):Int:=reduceHash<|Builtin.Tuple.tupleHashOf [LS k.1,LS k.2]
abbrev TV (x:(Et×aj×aa)):DictEntry:=⟨O0 x.1,.ref x.2.1,x.2.2⟩
abbrev RE (a:aj)(xs:List<|Et×aj×aa)(h:ak):Prop:=(a == sysModules)=false/\xs.length<=sizeLine/\∃o es d,h.get? a=some o/\o.ExactDict/\o.data=.dict es d/\es.toList=xs.map TV/\(xs.map (·.1)).Nodup
abbrev yO (H:Hp)(b:aj)(k:Et):Prop:=∃r1 r2,H b=some (.tup [.ref r1,.ref r2])/\H r1=some (.tup<|k.1.map V.int)/\H r2=some (.tup<|k.2.map V.int)
section
variable {X:Cx}
def DT(J:X.A.units+1<cLine):ly X (compareOp .NotIn) (λy x H Q=>∃a o,x=.ref a/\Em H a y o/\Q (.bl<|!o.isSome) H):=by
 intro pins s σ H y x v u Q I ry rx h;obtain⟨a,o,rfl,g,q⟩:=h
 cases rx
 exact Ku J I g ry λf d=>⟨.bl<|!o.isSome,H,d,rfl,q⟩
def set_dict(J:X.A.units+1<cLine):Gd X (λo i v H Q=>∃a H',o=.ref a/\FI H a i v H'/\Q H'):=by
 intro pins s σ H o i v p z u Q I j f k h;obtain⟨a,H',rfl,g,q⟩:=h
 cases j
 exact El J I g f k λm d=>⟨H',d,q⟩
abbrev Ng (tk J:TE):TE:=λσ H Q=>∀p,H p=none->tk σ (upd H p<|.dT []) λx H1=>J σ H1 λy H2=>H2 p=some (.dT [])/\∃b ks,x=.ref b/\H2 b=some (.tup<|ks.map kV)/\Q (.ref p) (upd H2 p<|.dT [(ks,y)])
def FT{k v:aA}{tk tv:TE}(hu:X.A.units+1<cLine)(hk:PE X k tk)(hv:PE X v tv):PE X (.Dict [some k] [v] pos) (Ng tk tv):=by
 intro pins s σ H Q I q;have hn:=I.hok.fresh<|aM s.heap.objs.size;have I1:=I.laid (a:=s.heap.objs.size) (o:=.dT []) (h':=s.heap.push { cls:=.type "dict",data:=.dict #[]}) (t':=s.toks) (λ_ _ q=>aS _ q) (aM _)<|EV s.heap I.big;refine wpAny_Dict_any rfl rfl (by simp) (show 1<=15 by decide) ?_;refine pairTrees_cons_walk<|jM (hk pins _ σ _ _ I1<|q _ hn) λP N ⟨x,H1,K,rx,M⟩=>jM (hv pins N σ H1 _ K M) λvv T ⟨y,H2,g,ry,e,b,ks,ex,p,G⟩=>pairTrees_nil_walk ?_;subst ex
 cases rx
 obtain⟨z,hd,xs,f,dd⟩:=L8 g.hok e
 cases f
 unfold storeAll;rw[List.forIn_cons];refine aH (aH<|wpAny_dictSet_heap (hsz:=by simp) (show X.A.units<cLine by lia) (wQ g.hok p) dd λh' d hs=>aW ?_);dsimp only;rw[List.forIn_nil];refine aW ⟨.ref s.heap.objs.size,_,?_,rfl,G⟩;obtain⟨m,es,J,B,C,L,O,_,F⟩:=d;refine xq g (by rw[e];exact True.intro) hs ⟨m,B⟩ ⟨by show 1<=sizeLine;decide,hd,_,(KT.put (kvs:=[]) .nil ks p ry).keeps λc ys j=>?_,m,es,J,B,C,L,O,F⟩;rw[iV<|LB j e λz=>nomatch z];exact j
end
abbrev C0 (e:aj)(h:ak):Prop:=∃o d,h.get? e=some o/\o.data=.fields d/\d[2]?=some .none/\o.dict=none
structure Fly (l:List Env)(g:ak)(pn:bj)(H:Hp)(e:aj)(cls:aa)(h:ak):Prop where
 ex:∃(B:ak) (a0:aa),Heap.FlyingW B l e cls a0 h/\(∀a u,H a=some u->∃o,B.get? a=some o)/\(∀b o,g.get? b=some o->b∉frs l->∃o',B.get? b=some o')/\(∀p∈pn,∃o',B.get? p.1=some o')/\C0 e h
structure Made (X:Cx)(H:Hp)(e:aj)(cls:aa)(g:ak)(h:ak):Prop where
 ex:∃(g':ak) (vs:ap),Heap.MadeExcOf g' h e cls vs/\g'.FunFrames X.base X.stack/\(∀a u,H a=some u->∃o,g'.get? a=some o)/\(∀b o,g.get? b=some o->∃o',g'.get? b=some o')/\(∀p∈X.pn,∃o',g'.get? p.1=some o')
abbrev Nx (X:Cx)(H:Hp)(e:aj)(cls:aa)(s':az):Prop:=Made X H e cls X.s₀.heap s'.heap\/Fly X.stack X.s₀.heap X.pn H e cls s'.heap
section
abbrev EX (X:Cx):XK:=λcls _ H'=>X.ex=[]/\∀pins d s' e,Inv X pins d H' s'->Nx X H' e cls s'->X.xe (.ref e) s'
end
abbrev xu:HO:=.ext λ_=>True
structure XO (C:aj)(o:Obj):Prop where
 cls:o.cls=.ref C
 dict:o.dict=none
 ctx:∃vs,o.data=.fields vs/\vs[2]?=some .none
abbrev mroIn (K:aq)(C:aj):Option (ap):=match K.lookup C with
 | some ⟨.type "type",_,.cls cd,sl⟩=>(match cd.mro,sl.toList with
  | .ref C'::bm,[_,_,_,_,some<|.builtin _,_]=>if C'=C/\cd.hasDel=false then some bm else none
  | _,_=>none)
 | _=>none
open PySem.W in
structure XCls (K:aq)(C:aj):Prop where
 ga:findIn K (.ref C) "__getattribute__" = some (some<|.builtin "BaseException.__getattribute__")
 gt:findIn K (.ref C) "__getattr__" = some none
 fc:findObj K C none "__class__" = some (.bind (.builtin "getset_descriptor.__get__")<|.builtin "object.__class__")
 ob:PySem.W.mroIn K C (.type "object")=some true
 bs:subIn K (.ref C) (.type "BaseException")=some true
end L2
namespace L2
open PySem PySem.Spec PyProof.Rows PySem.SeqAt
def NO:bootBuiltins "sum" = some (.builtin "sum"):=by decide +kernel
def zX:bootBuiltins "reversed" = some (.type "reversed"):=by decide +kernel
section
variable {X:Cx}
def Es(hc:X.calm=true):jo X (.builtin "sum") (λxs H Q=>∃(p:aj) (ns:ae),xs=[.ref p]/\kJ X.K H p (ns.map V.int)/\Q (.int ns.sum) H):=by
 kd_p;obtain⟨p,ns,rfl,k,q⟩:=h;kln_w
 cases rx
 obtain⟨B,j,m,F⟩:=I.list k;have hi:=intsAre_of j;have f:=m.isList;obtain⟨ys,e⟩:=hi.allInts.items;have d:ns=ys.toList.map (·.1):=by
  rw[<- hi.numsOf,<- nums_intItems,<- e]
 rw[e]at f;refine sum_intListG (I.ok.hd hc) f λh' C g z=>?_;refine⟨.int _,H,I.kept z,⟨g,rfl⟩,?_⟩;rw[preSum_eq,cH<|by simp,<- d];exact q
end
def owner_lri:Manifest.owners.lookup (String.ofList ['r','o','t','a','r','e','t','i','e','s','r','e','v','e','r','_','t','s','i','l'].reverse)=some Manifest.sig_list_reverseiterator:=by kernel_rfl
def slot_lri_next:Slot "list_reverseiterator" "__next__" "list_reverseiterator.__next__" :=
 .of (owner := "list_reverseiterator") (n := "__next__") (by rw[gJ,eZ];kernel_rfl) ∅ ∅ ∅
  (by first|exact .inl ∅|exact .inr ∅) (by rw[fu];kernel_rfl)
def entry_lri_next:entryFor table "list_reverseiterator.__next__" = some Builtin.«list_reverseiterator.__next__»:=entryFor_of_tree<|by kernel_rfl
def p8(a:aa):argsOk "list_reverseiterator.__next__" ⟨[a],[]⟩:=by
 unfold argsOk;rw[signature?_of (id := "list_reverseiterator.__next__") (n:=['_','_','t','x','e','n','_','_']) (o:=['r','o','t','a','r','e','t','i','e','s','r','e','v','e','r','_','t','s','i','l']) (by kernel_rfl) owner_lri];kernel_rfl
def slot_lri_iter:Slot "list_reverseiterator" "__iter__" "list_reverseiterator.__iter__" :=
 .of (owner := "list_reverseiterator") (n := "__iter__") (by rw[gJ,eZ];kernel_rfl) ∅ ∅ ∅
  (by first|exact .inl ∅|exact .inr ∅) (by rw[fu];kernel_rfl)
def entry_lri_iter:entryFor table "list_reverseiterator.__iter__" = some Builtin.«dict_keyiterator.__iter__»:=
 entryFor_alias (id' := "dict_keyiterator.__iter__") (by kernel_rfl) (by first|rfl|decide +kernel|(unfold String.splitOn;simp +decide [String.splitOnAux])) ∅ (by kernel_rfl)
def vJ(a:aa):argsOk "list_reverseiterator.__iter__" ⟨[a],[]⟩:=by
 unfold argsOk;rw[signature?_of (id := "list_reverseiterator.__iter__") (n:=['_','_','r','e','t','i','_','_']) (o:=['r','o','t','a','r','e','t','i','e','s','r','e','v','e','r','_','t','s','i','l']) (by kernel_rfl) owner_lri];kernel_rfl
def qb:Slot "reversed" "__init__" "object.__init__" :=
 .of (owner := "object") (n := "__init__") (by rw[gJ,eZ];kernel_rfl) ∅ ∅ ∅
  (by first|exact .inl ∅|exact .inr ∅) (by rw[fu];kernel_rfl)
def mro_reversed:mroOf (.type "reversed")=pure [.type "reversed",.type "object"]:=by rw[mroOf_type];kernel_rfl
def lookup_reversed_new:typeLookup (.type "reversed") "__new__" = pure (some<|.builtin "reversed.__new__"):=by rw[gJ,eZ];kernel_rfl
def sZ:TypeCalled "reversed" "reversed.__new__" "object.__init__" :=
 ⟨by decide +kernel,by decide +kernel,⟨_,_,mro_reversed⟩,madeBy_type mro_reversed lookup_reversed_new ∅,by decide +kernel,by rw[fu];kernel_rfl,qb⟩
def typeCall_reversed_1(a:aa):checkTypeCall "reversed" ⟨[a],[]⟩=pure Unit.unit:=by kernel_rfl
def newCall_reversed_1(a:aa):checkBuiltinCall "reversed.__new__" ⟨[.type "reversed",a],[]⟩=pure Unit.unit:=by kernel_rfl
def entry_reversed_new:entryFor table "reversed.__new__" = some Builtin.«reversed.__new__»:=entryFor_of_tree<|by kernel_rfl
def sub_lri_reversed:isSubtype (.type "list_reverseiterator") (.type "reversed")=pure false:=by rw[fu];kernel_rfl
def w9:isSubtype (.type "reversed") (.type "reversed")=pure true:=by rw[fu];kernel_rfl
section
variable {prog:ah}{w:af}{A:au}{E:aa->az->Prop}{s:az}
def callType_other{Q:aa->az->Prop}(ft:TypeCalled T newId "object.__init__")
  (hct:checkTypeCall T ⟨args,[]⟩=pure Unit.unit) (hcn:checkBuiltinCall newId ⟨.type T::args,[]⟩=pure Unit.unit)
  (J:entryFor table newId=some Bn) (g:Meets (Bn ⟨.type T::args,[]⟩) S) (hns:isSubtype (.type T') (.type T)=pure false)
  (h:S A.in1 (wants (λobj s₁=>s₁.TypeIs obj T'/\Q obj s₁) E) s):wpAny (model prog w) A (call (.type T) args) Q E s:=by
 obtain⟨c,tl,j⟩:=ft.mro;have f:=ft.made;refine wpAny_call (codeAny_of_tree ?_)
 skip
 refine aW ⟨Code.quiet_builtin _ ∅,fQ F.entry_type_call ?_⟩;rw[Around.under_plain (weight_type_call_type T args [])<|units_type_call_type T args []];have h1:=ft.notType;have m:=ft.canCreate
 repeat (any_goals (first|assumption|wp_step))
 refine f7 (codeAny_call_builtin ft.plain J<|wpAny_of_eq hcn<|g prog w A.in1 _ s h) λr s₁ d=>?_
 cases r with
 | error e=>exact d
 | ok k=>
  cases k with
  | ret obj=>
   obtain⟨p,q⟩:=d
   repeat (any_goals (first|assumption|wp_step))
  | _=>exact d.elim
end
abbrev o4 (h:ak)(a l:aj)(i:Int):Prop:=∃o,h.get? a=some o/\o.cls=.type "list_reverseiterator" /\ o.data=.fields #[.ref l,rawInt i]
def o4.typeIs{s:az}{a:aj}{i:Int}(x:o4 s.heap a l i):s.TypeIs (.ref a) "list_reverseiterator" := let⟨o,ho,hc,_⟩:=x;⟨o,ho,hc⟩
def o4.at{h h':ak}{a:aj}{i:Int}(x:o4 h a l i)(k:∀o,h.get? a=some o->h'.get? a=some o):o4 h' a l i:=let⟨o,ho,r⟩:=x;⟨o,k o ho,r⟩
section
variable {prog:ah}{w:af}{A:au}{E:aa->az->Prop}{s:az}
def uK{i:Int}{Q:aa->az->Prop}(J:o4 s.heap it l i)(h:Q (.ref it) s):wpAny (model prog w) A (pyIter<|.ref it) Q E s:=by
 refine wpAny_pyIter_slot J.typeIs slot_lri_iter (dU slot_lri_iter J.typeIs entry_lri_iter ?_<|vJ _)
 skip
 exact aW ⟨_,rfl, "list_reverseiterator",_,J.typeIs,slot_lri_next.lookup,h⟩
def sY{i:Nat}{x:aa}{Q:aw->az->Prop}(J:o4 s.heap it l i)
  (ht:s.heap.IsList l items) (hx:items[i]?=some x) (hQ:∀h',o4 h' it l ((i:Int)-1)->Heap.SameBut it s.heap h'->Q (some x) { s with heap:=h' }) :
  wpAny (model prog w) A (pyNext<|.ref it) Q E s:=by
 obtain⟨o,d,hc,hd⟩:=id J;obtain⟨k,g,_,j,f⟩:=ht;unfold pyNext;refine aH (wpAny_attempt (fX (name:=Str.ofString "__next__") J.typeIs slot_lri_next
  (dU slot_lri_next J.typeIs entry_lri_next ?_<|p8 _)))
 show wpAny _ _ (field (.ref it) 1 >>= _) _ _ s;refine aH<|eO d hd (x:=rawInt i) rfl ?_;show wpAny _ _ (if (i:Int)<0 then _ else _) _ _ s;rw[aO ()]
 skip
 refine aH (eO d hd (x:=.ref l) rfl ?_)
 skip
 refine aH<|wpAny_seqItems g f ?_;dsimp[f_,hx];refine aH (wpAny_setField d hd (by simp)<|aW ⟨x,rfl,aW<|hQ _ ?_<|Heap.SameBut.update ..⟩);exact⟨_,Heap.get?_update_self _ d<|Obj.isFreed_of_fields<|Obj.data_mapFields hd _,(Obj.cls_mapFields ..).trans hc,by
  rw[Obj.data_mapFields hd];simp[rawInt]⟩
def uC{i:Int}{Q:aw->az->Prop}(hh:A.handled=none)(J:o4 s.heap it l i)(hi:i<0)
  (hQ:∀h',(∀b o,s.heap.get? b=some o->h'.get? b=some o)->Q none { s with heap:=h' }):wpAny (model prog w) A (pyNext<|.ref it) Q E s:=by
 obtain⟨o,d,hc,hd⟩:=id J;unfold pyNext;refine aH (wpAny_attempt (fX (name:=Str.ofString "__next__") J.typeIs slot_lri_next
  (dU slot_lri_next J.typeIs entry_lri_next ?_<|p8 _)))
 show wpAny _ _ (field (.ref it) 1 >>= _) _ _ s;refine aH<|eO d hd (x:=rawInt i) rfl ?_;show wpAny _ _ (if i<0 then _ else _) _ _ s;rw[aN hi];refine aH<|er ?_;refine aH ?_
 skip
 refine aH ?_;dsimp[newExc,newTuple];refine aH (cS ?_<|by size_fits);refine aH (m:=firstArgMember _ _) (wpAny_of_eq (a:=Value.none) (by first|rfl|(dsimp[firstArgMember];rfl)) ?_);refine cS ?_ (by size_fits);dsimp[raiseNew];refine aH (wpAny_handled ?_)
 first|rw[show A.in1.handled=none from hh]|rw[hh]
 refine aH<|aW<|wpAny_throw ?_;refine aH<|wpAny_isInstance (T := "StopIteration") (b:=true) ⟨_,bI _ rfl,rfl⟩ isSubtype_stop ?_;exact aW<|hQ _ λb o e=>aS _<|aS _ e
end
def DY(l:aj)(J:Array aa)(n:Nat)(dd:Option aj)(sl:Array<|aw) :
  Meets (Builtin.«list.__reversed__» ⟨[.ref l],[]⟩) (λ_ R s=>s.heap.get? l=some { cls:=.type "list",dict:=dd,data:=.seq J n,slots:=sl }/\R (.ok<|.ret<|Value.ref s.heap.objs.size) { s with heap:=s.heap.push { cls:=Value.type "list_reverseiterator",data:=Data.fields #[Value.ref l,rawInt<|((J.size:Nat):Int)-1]},toks:=s.toks }):=
 .of_wp λprog w A R s h=>by obtain⟨m,g,d,j,k⟩:=s;obtain⟨f,h⟩:=h;wp_walk using fM f;exact⟨_,rfl,h⟩
def vc(l:aj)(J:Array aa)(n:Nat)(dd:Option aj)(sl:Array<|aw) :
  Meets (Builtin.«reversed.__new__» ⟨[.type "reversed",.ref l],[]⟩) (λ_ R s=>s.heap.get? l=some { cls:=.type "list",dict:=dd,data:=.seq J n,slots:=sl } /\
   R (.ok<|.ret<|.ref s.heap.objs.size) { s with heap:=s.heap.push { cls:=Value.type "list_reverseiterator",data:=Data.fields #[Value.ref l,rawInt<|((J.size:Nat):Int)-1]}}):=
 .of_wp λprog w A R s h=>by
  obtain⟨z,g,d,m,p⟩:=s;obtain⟨f,h⟩:=h;have k:=w9;have j:=gF.lookup;have q:Shared.TypeIs ⟨z,g,d,m,p⟩ (.ref l) "list" := ⟨_,f,rfl⟩
  wp_walk using fM f,wpAny_specialOf q j
  refine wpAny_of_eq (gF.bind<|.ref l) ?_;show wpAny _ _ (if (Value.builtin "list.__reversed__" == Value.none)=true then _ else _) _ _ _;rw[aO<|show ¬((Value.builtin "list.__reversed__" == Value.none)=true)from by decide];refine aH (er ?_)
  skip
  refine aH<|fR gF ⟨_,f,rfl⟩ F.entry_list_reversed (F.args_list_reversed_1 _) (DY l J n dd sl) ⟨f,?_⟩;exact aW ⟨_,rfl,h⟩
abbrev QS (K:aq)(a:aj)(n:Nat):It:=
 ⟨λi H=>i<n/\∃xs x,kJ K H a xs/\xs[n-1-i]?=some x,λi H x H'=>H'=H/\∀xs y,kJ K H a xs->xs[n-1-i]?=some y->x=y,λi H=>n<=i⟩
def GY{P:ah}{w:af}{K:aq}(a it:aj)(n:Nat) :
  Turn P w K tg (QS K a n) [it] it (λi h=>o4 h it a<|(n:Int)-1-i) where
 mem:=by simp
 obj:=λi h st b g=>by
  rw[aP]at g;subst g;obtain⟨o,e,c,d⟩:=st;exact⟨o,e,λv z=>by rw[d]at z;cases z⟩
 keep:=λi h h' st k=>st.at λo U=>k it (by simp) o U
 item:=by
  room;subst hP hw hK;obtain⟨hi,xs,x,C,B⟩:=hg;obtain⟨W,V,p,Y⟩:=I.list C;obtain⟨u,J,F⟩:=V.get B;obtain⟨i0,M,i2,G,O,T⟩:=hf it (by simp);refine sY (i:=n-1-i) (by rw[show(((n-1-i:Nat)):Int)=(n:Int)-1-i by lia];exact st) p.isList (x:=u) (by simpa using J) λh' f m=>?_;obtain⟨Z,e1,c1,N⟩:=id f;refine⟨u,rfl,vY (s:={ s with heap:=h' }) e1 c1 N ⋯ ⟨x,H,I.turned (t':=s.toks) (λb o g q=>m.extBut b o g q) i0 M G O T,F,⟨rfl,λys y hy j=>?_⟩,?_,λb g=>?_⟩⟩
  ·rw[I.um hy C,B]at j;exact aU j
  ·rw[show(n:Int)-1-((i+1:Nat):Int)=((n-1-i:Nat):Int)-1 by lia];exact f
  ·rw[aP]at g;rw[g];exact i0
 done:=by
  room;subst hP hw hK;have hg:n<=i:=hg;exact uC (I.ok.hd hc) st () λh' L=>⟨rfl,I.kept (t':=s.toks) L⟩
 self:=λ_ _ _ _ _ st h=>uK st h
section
variable {X:Cx}
abbrev Rt (K:aq)(ta:TA):TI:=λσ H R=>ta σ H λd H1=>∃a xs,d=[.ref a]/\kJ K H1 a xs/\R (QS K a xs.length) H1
def Ow{a:aA}{ta:TA}{p:Pos}(hg:Gl X "reversed")(hm:X.mg "reversed" = none)(ha:PA X [a] ta)(hs:starEach [a] X.env=[(false,eval a X.env)]<|>θ):PI X tg (.Call (.Name "reversed" p) [a] [] pos) (Rt X.K ta):=by
 intro pins s σ H R I h;refine Call_<|rE I hg hm zX<|c7 (jM (ha pos pins s σ H _ I h) λus f ⟨M,H1,I1,r1,F⟩=>?_) hs rfl;obtain⟨t,xs,e,L,q⟩:=F;subst e;obtain⟨u,rfl,rx⟩:=vals1 r1
 cases rx
 obtain⟨d,J,⟨⟨cls,dd,data,z⟩,n,G,g2,m,g⟩,N⟩:=I1.list L;simp only at g2 m g;subst g2 m g;have C:=J.length;refine callType_other (T' := "list_reverseiterator") sZ (typeCall_reversed_1 _) (newCall_reversed_1 _) entry_reversed_new (vc t d.toArray n none z) sub_lri_reversed ⟨G,⟨_,bI _ rfl,rfl⟩,?_⟩;have B:Inv X pins σ H1 { f with heap:=f.heap.push { cls:=.type "list_reverseiterator",data:=.fields #[.ref t,rawInt<|((d.toArray.size:Nat):Int)-1]}}:=I1.kept (t':=f.toks) λb o e=>aS _ e;have k:o4 (f.heap.push { cls:=.type "list_reverseiterator",data:=.fields #[.ref t,rawInt<|((d.toArray.size:Nat):Int)-1]}) f.heap.objs.size t ((xs.length:Int)-1-((0:Nat):Int)):=⟨_,bI _ rfl,rfl,by rw[aQ,C];simp⟩;refine uK k ⟨_,[f.heap.objs.size],_,_,H1,rfl,B,GY t _ xs.length,k,λb j=>?_,q⟩;rw[aP]at j;rw[j];kcf_m
end
end L2
namespace L2
open PySem PySem.Spec PyProof.Rows
abbrev Mq (K:aq)(a:aj):It:=
 ⟨λi H=>∃xs x,kJ K H a xs/\xs[i]?=some x,λi H x H'=>∃T,H T=none/\x=.ref T/\∀xs y,kJ K H a xs->xs[i]?=some y->H'=upd H T (.tup [.int i,y]),λi H=>∃xs,kJ K H a xs/\xs.length=i⟩
def Ac{P:ah}{w:af}{K:aq}(a e it:aj)(hei:e≠it):Turn P w K (.Tuple elts x1 tpos) (Mq K a) [e,it] e (λi h=>(∃old,IsEnum h e it i old)/\h.IsListIter it a i) where
 mem:=by simp
 obj:=λi h st b T=>by
  obtain⟨⟨old,f⟩,g⟩:=st;have G:b=e\/b=it:=by simpa using T
  rcases G with rfl|rfl
  ·exact⟨_,f,λv z=>by cases z⟩
  ·obtain⟨o,e,c,d⟩:=g;exact⟨o,e,λv z=>by rw[d]at z;cases z⟩
 keep:=λi h h' st k=>by
  obtain⟨⟨old,f⟩,g⟩:=st;exact⟨⟨old,k e (by simp) _ f⟩,g.at λo C=>k it (by simp) o C⟩
 item:=by
  room;subst hP hw hK;obtain⟨⟨old,f⟩,g⟩:=st;obtain⟨xs,x,hq,hx⟩:=hg;obtain⟨F,rv,p,hz⟩:=I.list hq;obtain⟨u,hu,ru⟩:=rv.get hx;have V:a≠it:=by
   obtain⟨o,C,L,_⟩:=p.isList;obtain⟨o2,O,J,_⟩:=g;intro z;rw[z,O]at C
   cases C
   rw[L]at J;exact absurd (Value.type.inj J) ⋯
  have hea:e≠a:=by
   obtain⟨o,C,L,_⟩:=p.isList;intro z;rw[<- z,f]at C
   cases C
   exact absurd (Value.type.inj L) ⋯
  have hlt:i<F.toArray.size:=by
   rw[aQ];exact(aI.mp hu).1
  refine wpAny_pyNext_enum_itemD (Draws.list (A:=X.A.in1) (I.ok.hd hc) it a V F.toArray) f ⟨g,p.isList⟩ hlt hei (by simp[hei,hea]) λx' h' tk hP hout hst hT hsz hk=>?_;have ex:x'=u:=by
   have:F.toArray[i]?=some u:=by simpa using hu
   rw[this]at hP;exact(aU hP).symm
  subst ex;refine⟨_,rfl,wpAny_letOwnedTupleGo_enum hout λh2 he2 M=>?_⟩;have W:H s.heap.objs.size=none:=I.hok.fresh<|aM _;have Z:e<s.heap.objs.size:=bq f;have hil:it<s.heap.objs.size:=by obtain⟨o,C,_⟩:=g;exact bq C
  have Y:∀b o,b≠e->b≠it->s.heap.get? b=some o->h2.get? b=some o:=λb o h1 h3 q=>M.extBut b o h1<|hk b o h1 h3 q;have hT2:h2.get? s.heap.objs.size=some { cls:=.type "tuple",data:=.seq #[.int i tk,x']}:=M.extBut _ _ (ne_of_gt Z) hT;obtain⟨e0,e1,e2,e3,e4,e5⟩:=hf e (by simp);obtain⟨i0,i1,i2,i3,i4,i5⟩:=hf it (by simp);have nT:∀b o,s.heap.get? b=some o->b≠s.heap.objs.size:=λb o q=>bK<|bq q;have B:∀c v,H c=some v->c≠e/\c≠it:=λc v q=>⟨(λz=>by rw[z,e0]at q;cases q),(λz=>by rw[z,i0]at q;cases q)⟩;have I2:Inv X pins σ (upd H s.heap.objs.size<|.tup [.int i,x]) { s with heap:=h2,toks:=tk+1 }:=by
   refine I.step (g':=s.gens) (d':=s.drawn) (ch:=[e,it]) (λb T=>?_) (λb o _ _ j q _=>?_) (λb o _ _ j q _=>?_) (λb o j q n=>?_) (λb o j q=>?_) (λb ys q=>?_) (λb o u' q=>?_) (λb ps q=>?_) (λm hm=>?_) (λb u' q=>?_) I.bare
   ·have G:b=e\/b=it:=by simpa using T
    rcases G with rfl|rfl
    ·exact⟨e3,e1,e4,e5⟩
    ·exact⟨i3,i1,i4,i5⟩
   ·exact Y b o (λz=>j<|by simp[z]) (λz=>j<|by simp[z]) q
   ·exact⟨o.slots,Y b o (λz=>j<|by simp[z]) (λz=>j<|by simp[z]) q⟩
   ·rw[iV<|nT b o q];exact n
   ·exact⟨o,Y b o (λz=>j<|by simp[z]) (λz=>j<|by simp[z]) q⟩
   ·rw[iV<|i7 q W];exact q
   ·rw[iV<|i7 q W];exact q
   ·exact⟨#[],by rw[iV<|i7 q W,q];simp⟩
   ·obtain⟨o,es,ep,C,r⟩:=hm;exact⟨o,es,ep,Y _ o (eE e1) (eE i1) C,r⟩
   ·by_cases z:b=s.heap.objs.size
    ·subst z;rw[jI]at q
     cases q
     exact⟨by show 2<=sizeLine;decide,[.int i tk,x'],.cons ⟨tk,rfl⟩<|.cons ru .nil,⟨_,hT2,rfl,rfl,0,rfl⟩⟩
    ·rw[iV z]at q;refine(I.hok b u' q).stay (λc v hc U=>Y c v ?_ ?_ U) (λc U=>?_) λc ys U=>?_
     ·rcases hc with z|z
      ·rw[z];exact(B b u' q).1
      ·exact(B c _ z).1
     ·rcases hc with z|z
      ·rw[z];exact(B b u' q).2
      ·exact(B c _ z).2
     ·rw[iV<|i7 U W];exact U
     ·rw[iV<|i7 U W];exact U
  refine⟨.ref s.heap.objs.size,_,I2,rfl,⟨s.heap.objs.size,W,rfl,λys y hy N=>?_⟩,⟨⟨x',by simpa using he2⟩,?_⟩,λb T=>?_⟩
  ·rw[I.um hy hq]at N;rw[hx]at N
   cases N
   rfl
  ·exact hst.1.at λo C=>M.extBut it o (eE hei) C
  ·have G:b=e\/b=it:=by simpa using T
   rcases G with rfl|rfl
   ·rw[iV<|bK Z];exact e0
   ·rw[iV<|bK hil];exact i0
 done:=by
  room;subst hP hw hK;obtain⟨⟨old,f⟩,g⟩:=st;obtain⟨xs,hq,hx⟩:=hg;obtain⟨F,rv,p,hz⟩:=I.list hq;obtain⟨i0,i1,i2,i3,i4,i5⟩:=hf it (by simp);have V:a≠it:=by
   obtain⟨o,C,L,_⟩:=p.isList;obtain⟨o2,O,J,_⟩:=g;intro z;rw[z,O]at C
   cases C
   rw[L]at J;exact absurd (Value.type.inj J) ⋯
  have hl:=rv.length;have ei:F.toArray.size=i:=by rw[aQ,<- hl,hx]
  exact wpAny_pyNext_enum_endD (Draws.list (A:=X.A.in1) (I.ok.hd hc) it a V F.toArray) f ⟨by rw[ei];exact g,p.isList⟩ λh' eb=>⟨rfl,I.turned (t':=s.toks) (λb o T q=>eb b o T q) i0 i1 i3 i4 i5⟩
 self:=λ_ _ _ _ _ st h=>let⟨⟨_,f⟩,_⟩:=st;wpAny_pyIter_enum f h
section
variable {X:Cx}
abbrev MR (K:aq)(ta:TA):TI:=λσ H R=>ta σ H λd H1=>∃a xs,d=[.ref a]/\kJ K H1 a xs/\R (Mq K a) H1
def EE{a:aA}{ta:TA}{p:Pos}(hg:Gl X "enumerate")(hm:X.mg "enumerate" = none)(ha:PA X [a] ta)(hs:starEach [a] X.env=[(false,eval a X.env)]<|>θ):PI X (.Tuple elts x1 tpos) (.Call (.Name "enumerate" p) [a] [] pos) (MR X.K ta):=by
 intro pins s σ H R I h;refine Call_<|rE I hg hm yk<|c7 (jM (ha pos pins s σ H _ I h) λus d ⟨M,H1,I1,r1,F⟩=>?_) hs rfl;obtain⟨t,xs,e,J,q⟩:=F;subst e;obtain⟨u,rfl,rx⟩:=vals1 r1
 cases rx
 obtain⟨L,O,G,N⟩:=I1.list J;refine call_enumerate_list G.isList λh' k f z B=>?_;have C:Inv X pins σ H1 { d with heap:=h' }:=I1.kept (t':=d.toks) B;have j:d.heap.objs.size+1≠d.heap.objs.size:=()
 refine wpAny_pyIter_enum k ⟨_,[_,d.heap.objs.size],_,_,H1,rfl,C,Ac t _ d.heap.objs.size j,⟨⟨.none,k⟩,f⟩,λb m=>?_,q⟩;have g:b=d.heap.objs.size+1\/b=d.heap.objs.size:=by simpa using m
 rcases g with rfl|rfl
 ·exact I1.w_ (iB _) (I1.hok.fresh<|iB _)
 ·kcf_m
end
def Hi{X:Cx}{i:Nat}{spos:Pos}{iter:aA}{N:am}{wi:TI}{g:TG}{tc:TT}{te:TE}
  (hN:X.N.Nodup) (hi':X.N[i]?=some y) (hx:Loc X.env.scope y) (hc:X.calm=true) (S:CpScope X scope N cap) (hi:PI X tg iter wi)
  (hg:∀C s₀ H₀ ex,PG (jG X scope N C s₀ H₀ ex) tg g) (ht:∀C s₀ H₀ ex,Jc (jG X scope N C s₀ H₀ ex) ifs tc) (he:∀C s₀ H₀ ex,PE (jG X scope N C s₀ H₀ ex) elt te)
  (hsw:swapsWith (.ListComp elt [⟨tg,iter,ifs,0⟩] scope pos) (some<|.Name y py) spos.line X.env=pure true)
  (hf:X.fn y=true\/X.env.scope.names.lookup y=some .local) (hs:(∀x,foldedSetIterable iter X.env x=pure x)<|>ι) :
  PS X (.Assign [.Name y py] (.ListComp elt [⟨tg,iter,ifs,0⟩] scope pos) spos) (J5 (O4 cap wi g tc te)<|Gj i):=by
 kcj_m;rw[exec_Assign_Name_used _ _ _ _ hsw];refine aH (dS<|aH ?_)
 skip
 refine aH<|fj (CT (ok:=λY=>Y.calm=true) (Q':=λ_ s'=>SP X pins D .next s') S (λ_ _ _ _ _=>hc) (PI.g hi) hg ht he hs pins s σ H _ I h ?_) (λ_ s' U=>aW<|aW U) λ_ _ e=>e;intro G C O T m hn k inv q v;have W:=inv G.heap<|Heap.SameBut.refl _ _;obtain⟨K,j⟩:∃o,G.heap.get? C=some o/\∀v,o.data≠.cell v:=by
  obtain⟨o,es,ep,e,d,_⟩:=hn;exact⟨o,e,λv z=>by rw[d]at z;cases z⟩
 have P:=W.pinned (fp:=[C]) (λb f=>by rw[aP]at f;rw[f];exact k) (λb f=>by rw[aP]at f;rw[f];exact⟨K,j⟩)
 skip
 refine jM (Cs hN hi' hx hf _ G σ T (.ref O) (.ref O) _ P rfl q) λ_ Z h9=>?_;obtain⟨F,M,p,V⟩:=h9;have L:=p.pin (C,K)<|bh _<|bh _<|jS (aP.mpr rfl) j.1;refine⟨m,hn.at' λo e=>by rw[j.1]at e;cases e;exact L.1,λh' B=>?_⟩;have J:∀c v,M c=some v->c≠C:=λc v e z=>by rw[z,L.2.1]at e;cases e
 refine⟨F,M,?_,V⟩;refine p.nj.Fp (ch:=[C]) rfl ⟨λb o e n f hx=>?_,λb o e n f hx=>?_,λb o e n hx=>n,λb o e hx=>?_,λ_ _ e=>e,λ_ _ _ e=>e,λ_ _ e=>⟨#[],by rw[Array.append_empty];exact e⟩⟩ ?_ p.bare ?_
 ·exact B.extBut b o (by simpa using hx) e
 ·exact⟨o.slots,B.extBut b o (by simpa using hx) e⟩
 ·exact⟨o,B.extBut b o (by simpa using hx) e⟩
 ·intro b o e;refine(p.hok b o e).stay (λc v hc q=>B.extBut c v ?_ q) (λ_ q=>q) λ_ _ q=>q
  rcases hc with z|z
  ·rw[z];exact J b o e
  ·exact J c _ z
 ·intro b f;rw[aP]at f;rw[f];exact⟨k.2.2.2.1,k.2.1,k.2.2.2.2.1,k.2.2.2.2.2⟩
abbrev QL (lo:Int)(n:Nat):It:=⟨λi _=>i<n,λi H x H'=>H'=H/\x=.int (lo-i),λi _=>n<=i⟩
def D9{P:ah}{w:af}{K:aq}(it:aj)(lo:Int)(n:Nat):Turn P w K tg (QL lo n) [it] it (λi h=>IsRangeIter h it (lo+(i:Nat) * (-1)) ((n:Int)-(i:Nat))<|-1) where
 mem:=by simp
 obj:=λi h st b d=>by
  have e:b=it:=by simpa using d
  subst e;exact⟨_,st,λv z=>by
   have m:Data.fields _=Data.cell v:=z
   cases m⟩
 keep:=λi h h' st k=>k it (by simp) _ st
 item:=by
  room;subst hP hw hK;w_up;have W:=Walks.range (prog:=X.prog) (w:=X.w) (I.ok.hd hc) it lo (-1) n;refine W.item i s _ _ hg st λv h' g hv f j=>?_;obtain⟨t,rfl⟩:=hv;have I1:Inv X pins σ H { s with heap:=h',toks:=g }:=I.turned (λb o d e=>j b o (by simpa using d) e) f0 f1 f3 f4 f5;refine⟨_,rfl,vY (s:={ s with heap:=h',toks:=g }) (n := "range_iterator") f rfl rfl ⋯ ⟨.int<|lo-i,H,I1,⟨t,?_⟩,⟨rfl,rfl⟩,f,λb d=>(hf b d).1⟩⟩;rw[show lo+(i:Int) * (-1)=lo-i by lia]
 done:=by
  room;subst hP hw hK;w_up;exact wpAny_pyNext_range_end (I.ok.hd hc) st (by have:n<=i:=hg;lia) λh' p=>⟨rfl,I.turned (t':=s.toks) (λb o d e=>p b o d e) f0 f1 f3 f4 f5⟩
 self:=λ_ _ _ _ _ st h=>wpAny_pyIter_rangeiter st h
def wI(a b:Int):Builtin.Range.rangeSize a b (-1)=if a>b then a-b else 0:=by
 unfold Builtin.Range.rangeSize;dsimp[show ¬((-1:Int)>0)by decide,cR,Int.neg_neg,Int.ediv_one];split<;>lia
def small_down{a b:Int}(ha:-(2 ^ 62)<=a)(J:a<2 ^ 62)(hb:-(2 ^ 62)<=b)(hb':b<2 ^ 62):Builtin.Range.small a b (-1)=true:=by
 unfold Builtin.Range.small;rw[wI];dsimp[Builtin.Range.rangeFitsLong,bY,cJ,gV,beq_iff_eq,show ¬((-1:Int)>0)by decide,cR];split<;>lia
section
variable {X:Cx}{tg:aA}
def Jr{H:Hp}{s:az}{R:It->Hp->Prop}{E:aa->az->Prop}{lo hi:Int}{t v:Tok}{tk:Nat}(I:Inv X pins σ H s)(h1:-(2 ^ 62)<=lo)(J:lo<2 ^ 62)(h3:-(2 ^ 62)<=hi)(h4:hi<2 ^ 62)
  (q:R (QL lo (lo-hi).toNat) H):wpAny (model X.prog X.w) X.A (pyIter<|.ref s.heap.objs.size) (Rk X pins σ tg R) E { s with heap:=s.heap.push { cls:=.type "range",data:=.fields #[.int lo t,.int hi u,.int (-1) v]},toks:=tk }:=by
 refine wpAny_pyIter_range (IsRange.new ..) (small_down h1 J h3 h4) ?_;have I1:Inv X pins σ H { s with heap:=s.heap.push { cls:=.type "range",data:=.fields #[.int lo t,.int hi u,.int (-1) v]},toks:=tk }:=I.kept λb o e=>aS _ e;refine⟨(s.heap.push { cls:=.type "range",data:=.fields #[.int lo t,.int hi u,.int (-1) v]}).objs.size,[(s.heap.push { cls:=.type "range",data:=.fields #[.int lo t,.int hi u,.int (-1) v]}).objs.size],_,_,H,rfl,
  I1.kept (t':=tk) λb o e=>aS _ e,D9 _ lo (lo-hi).toNat,?_,λb d=>?_,q⟩
 ·have e1:lo+((0:Nat):Int) * (-1)=lo:=by simp
  have e2:(((lo-hi).toNat:Nat):Int)-((0:Nat):Int)=Builtin.Range.rangeSize lo hi (-1):=by rw[wI];split<;>lia
  skip
  rw[e1,e2];exact bI _ rfl
 ·have e:b=(s.heap.push { cls:=.type "range",data:=.fields #[.int lo t,.int hi u,.int (-1) v]}).objs.size:=by simpa using d
  subst e;kcf_m
abbrev PF (ta:TA):TI:=λσ H R=>ta σ H λd H1=>∃i j:Int,d=[.int i,.int j,.int<|-1]/\(-(2 ^ 62)<=i/\i<2 ^ 62/\-(2 ^ 62)<=j/\j<2 ^ 62)/\R (QL i (i-j).toNat) H1
def K1{a:aA}{ta:TA}{p:Pos}(hg:Gl X "range")(hm:X.mg "range" = none)(ha:PA X [a,b,c] ta)(hs:starEach [a,b,c] X.env=[(false,eval a X.env),(false,eval b X.env),(false,eval c X.env)]<|>θ)(hs2:starEach [b,c] X.env=[(false,eval b X.env),(false,eval c X.env)]<|>θ) :
  PI X tg (.Call (.Name "range" p) [a,b,c] [] pos) (PF ta):=by
 intro pins s σ H R I h;refine Call_ (rE I hg hm boot_range<|c7 (jM (ha pos pins s σ H _ I h) λus J ⟨F,H1,I1,r1,f⟩=>?_) (by rw[hs,hs2])<|by rw[hs2];rfl);obtain⟨i,j,e,⟨f,z,k,C⟩,q⟩:=f;subst e
 cases r1 with
 | cons r d=>
  cases d with
  | cons B d=>
   cases d with
   | cons g d=>
    cases d
    obtain⟨t,rfl⟩:=r;obtain⟨G,rfl⟩:=B;obtain⟨m,rfl⟩:=g;exact call_range_3 ⋯ (Jr I1 f z k C q)
end
abbrev NY (start stop step:Int)(i:Nat):Bool:=
 if step>0 then decide (start<=i) && decide ((i:Int)<stop) && ((i-start) % step == 0)
 else decide (stop<i) && decide ((i:Int)<=start) && ((start-i) % (-step) == 0)
def GX{a n:Nat}(h:i<n):NY a n 1 i=decide (a<=i):=by
 unfold NY;rw[aN ⋯,bf<|show(i:Int)<(n:Int)by lia,Bool.and_true,Int.emod_one];by_cases c:a<=i
 ·rw[bf<|show(a:Int)<=(i:Int)by lia,bf c];rfl
 ·rw[aZ<|show ¬(a:Int)<=(i:Int)by lia,aZ c];rfl
theorem rj{α:Type}(a n:Nat):∀(xs:List α) (i:Nat),i+xs.length<=n->(xs.zipIdx i).filterMap (λ(p:α×Nat)=>if NY a n 1 p.2=true then none else some p.1)=xs.take (a-i)
 | [],i,_=>by simp
 | x::xs,i,h=>by
  rw[bu]at h;rw[h_,fG];dsimp[GX<|show i<n by lia];by_cases c:a<=i
  ·rw[aN<|by simpa using c,rj a n xs (i+1) (),show a-(i+1)=0 by lia,show a-i=0 by lia,bX,bX]
  ·rw[aO<|by simpa using c,rj a n xs (i+1) (),show a-i=a-(i+1)+1 by lia,List.take_succ_cons]
section
variable {prog:ah}{w:af}{A:au}{E:aa->az->Prop}{s:az}
def wN{items:Array aa}{n:Nat}{k:Nat}{t:Tok}{Q:Unit->az->Prop}(ho:s.heap.get? l=some { cls:=.type "list",data:=.seq items n })
  (hs:s.heap.IsSliceOf sl (.int k t) .none .none) (hsz:items.size<=sizeLine)
  (h:∀h' m,h'.get? l=some { cls:=.type "list",data:=.seq (items.toList.take k).toArray m }->(∀b,b≠l->h'.get? b=s.heap.get? b)->Q Unit.unit { s with heap:=h' }):wpAny (model prog w) A (delItem (.ref l)<|.ref sl) Q E s:=by
 obtain⟨K,d,B,g⟩:=id hs;have p:s.TypeIs (.ref sl) "slice" := ⟨K,d,B⟩;have j:s.TypeIs (.ref l) "list" := ⟨_,ho,rfl⟩;refine wpAny_delItem_slot j ⋯ PySem.F.slot_list_delitem (dU PySem.F.slot_list_delitem j PySem.F.entry_list_delitem ?_<|PySem.F.args_list_delitem_2 _ _);show wpAny _ _ (Builtin.List.listSubscript? (.ref sl) >>= _) _ _ s;refine aH ?_;unfold Builtin.List.listSubscript?;refine aH<|wpAny_specialOf p slice_no_index ?_;dsimp[Option.isNone_none,cU];refine aW ?_
 skip
 refine aH<|gO p ?_;rw[aO ⋯];rw[listSliceParts_eq];refine aH<|aH<|eO d g (x:=.none) rfl<|aH<|wpAny_listPart .none ?_;rw[aO ⋯];refine aH<|eO d g (x:=.int k t) rfl<|aH<|wpAny_listPart (.int k t) ?_;refine aH<|eO d g (x:=.none) rfl<|aH<|wpAny_listPart .none<|aW ?_;refine aH<|listItems_at ho rfl ?_;refine aH (wpAny_of_eq (sliceIndices_raw (some (k:Int)) none none items.size<|by simp) ?_);refine aH<|er ?_;have L:sliceBounds (some (k:Int)) none none items.size=(((min k items.size:Nat):Int),(items.size:Int),1):=by
  unfold sliceBounds;dsimp[g_,show(1:Int)>0 by decide,cU];rw[aO ()];congr 1
  lia
 rw[L];have C:=rj (min k items.size) items.size items.toList 0 (by simp);have G:items.toList.take (min k items.size-0)=items.toList.take k:=by
  rw[gP];by_cases c:k<=items.size
  ·rw[iz c]
  ·rw[ie (),cH<|by simp,cH<|by simp;lia]
 rw[G]at C;refine aH (listUpdate_at ho rfl ?_ hsz ?_)
 ·refine aH<|wpAny_letGo<|aW ⟨_,rfl,?_⟩;have g0:∀f:Array aa->Array aa,∃m,(s.heap.update l<|Obj.mapSeq f).get? l=some (seqObj "list" (f items) m):=λf=>⟨_,get?_update_seq ho f⟩;obtain⟨m,J⟩:=g0 _;exact h _ m (J.trans<|d9 (λz:ap=>some<|seqObj "list" z.toArray m) C) λb q=>Heap.get?_update_ne _ _ _ _ q
 ·have:(items.toList.take k).toArray.size<=sizeLine+1:=by
   rw[aQ,bG];have:items.toList.length=items.size:=rfl
   lia
  rw[<- C]at this;exact this
end
section
variable {X:Cx}{o e:aA}{to:TE}{tl:TO}{p2 spos pos:Pos}
abbrev Rz (to:TE)(tl:TO):TS:=λD σ H=>to σ H λx H1=>tl σ H1 λl H2=>∃a xs k,x=.ref a/\H2 a=some (.lst xs)/\l=some ((k:Nat):Int)/\D.nx σ (upd H2 a<|.lst<|xs.take k)
theorem wF:∀{xs:List V}{us:ap}(k:Nat),Vals xs us->Vals (xs.take k) (us.take k)
 | _,_,0,_=>by rw[bX,bX];exact .nil
 | _,_,k+1,.nil=>.nil
 | _,_,k+1,.cons h t=>.cons h<|wF k t
def M5(ho:PE X o to)(he:PO X (some e) tl):PS X (.Delete [.Subscript o (.Slice (some e) none none p2) spos] pos) (Rz to tl):=by
 kcj_m;refine wpAny_Delete<|wpAny_deleteEach_cons ?_;rw[arm_delete_Subscript];refine aH<|jM (ho pins s σ H _ I h) λv L ⟨x,H1,I1,r1,K⟩=>?_;refine aH<|di<|wpAny_Slice<|jM (he pins L σ H1 _ I1 K) λN d ⟨l,H2,G,J,F⟩=>?_;rw[evalPart_none];refine aW ?_;refine aW ?_;obtain⟨a,xs,k,rfl,p,rfl,q⟩:=F
 cases r1
 cases J with
 | int i t=>
  have g:Inv X pins σ H2 { d with heap:=d.heap.push { cls:=.type "slice",data:=.fields #[.int (k:Int) t,.none,.none]}}:=G.kept (t':=d.toks) λb M q=>aS _ q;obtain⟨z,f,n,r,O,e1⟩:=g.zL p;refine aH<|dS ?_;refine aH (di<|wN (k:=k) (t:=t) e1 (Heap.IsSliceOf.new ..) (by rw[aQ];lia) λh' m j g2=>?_);refine wpAny_release<|wpAny_deleteEach_nil ?_;refine⟨σ,_,g.write (t':=d.toks) (x:=a) (e:=a) (o:=.lst<|xs.take k) (by rw[p];exact trivial) (.inl rfl) (λb u B C=>(g2 b B).trans C) ⟨_,j⟩ ?_,q⟩;exact⟨by rw[bG];lia,f.take k,m,wF k r,j⟩
end
end L2
namespace Sx
open PySem PyProof.Rows
structure Ord where
 lt:Nat->Nat->Bool
 Ji:∀i,lt i i=false
 tr:∀i j k,lt i j=true->lt j k=true->lt i k=true
 neg:∀i j k,lt i k=true->lt i j=true\/lt j k=true
abbrev P (o:Ord)(i j:Nat):Prop:=o.lt i j=true\/(o.lt j i=false/\i<j)
def Ord.Q5(o:Ord)(h:o.lt i j=true):o.lt j i=false:=by
 cases e:o.lt j i with
 | false=>rfl
 | true=>have:=o.tr _ _ _ h e;rw[o.Ji]at this;cases this
def P.Ji(h:P o i i):False:=by
 rcases h with h|⟨_,h⟩
 ·rw[o.Ji]at h;cases h
 ·lia
def P.trans{k:Nat}(a:P o i j)(b:P o j k):P o i k:=by
 rcases a with a|⟨a,f⟩
 ·rcases b with b|⟨b,d⟩
  ·exact .inl (o.tr _ _ _ a b)
  ·rcases o.neg i k j a with z|z
   ·exact .inl z
   ·rw[b]at z;cases z
 ·rcases b with b|⟨b,d⟩
  ·rcases o.neg j i k b with z|z
   ·rw[a]at z;cases z
   ·exact .inl z
  ·refine .inr ⟨?_,()⟩
   cases e:o.lt k i with
   | false=>rfl
   | true=>
    rcases o.neg k j i e with z|z
    ·rw[b]at z;cases z
    ·rw[a]at z;cases z
def P.of_lt{o:Ord}(h:o.lt i j=true):P o i j:=.inl h
def P.sH{o:Ord}(h:o.lt j i=false)(J:i<j):P o i j:=.inr ⟨h,J⟩
def P.lt{o:Ord}(h:P o i j)(J:j<i):o.lt i j=true:=by
 rcases h with h|⟨_,h⟩
 ·exact h
 ·lia
def P.ge{o:Ord}(h:P o i j):o.lt j i=false:=by
 rcases h with h|⟨h,_⟩
 ·exact o.Q5 h
 ·exact h
abbrev So (o:Ord)(g:Nat->Nat)(a b:Nat):Prop:=∀i j,a<=i->i<j->j<b->P o (g i) (g j)
abbrev Cl (g:Nat->Nat)(a b:Nat):Prop:=∀i,a<=i->i<b->a<=g i/\g i<b
abbrev rev (g:Nat->Nat)(i j:Nat):Nat->Nat:=λk=>if i<=k/\k<j then g (i+j-1-k)else g k
abbrev mv (g:Nat->Nat)(src J:Nat):Nat->Nat:=λk=>if k=J then g src else if J<k/\k<=src then g (k-1)else g k
def ud{g:Nat->Nat}{k:Nat}(h:i<=k)(J:k<j):rev g i j k=g (i+j-1-k):=aN ⟨h,J⟩
def mR{g:Nat->Nat}{k:Nat}(h:k<i\/j<=k):rev g i j k=g k:=aO ()
def Ik{g:Nat->Nat}:mv g s d d=g s:=aN rfl
def zZ{g:Nat->Nat}{k:Nat}(h:d<k)(J:k<=s):mv g s d k=g (k-1):=by
 unfold mv;rw[aO (),aN ⟨h,J⟩]
def yf{g:Nat->Nat}{k:Nat}(hd:d<=s)(h:k<d\/s<k):mv g s d k=g k:=by
 unfold mv;rw[aO (),aO ()]
section
variable {prog:ah}{w:af}{A:au}{E:aa->az->Prop}{s:az}{o:Ord}{N:Nat}{f:Nat->Keyed}{kd:SortKind}{g:Nat->Nat}{p:Array (Nat×Nat×Nat)}{st:SortSt}
abbrev vH (prog:ah)(w:af)(A:au)(s:az)(o:Ord)(N:Nat)(f:Nat->Keyed)(kd:SortKind):Prop:=
 ∀i j,i<N->j<N->∀(d:aa->az->Prop) (Q:Bool->az->Prop),Q (o.lt i j) s->wpAny (model prog w) A (keyLt' kd (f i).1 (f j).1) Q d s
structure Sg (N:Nat)(f:Nat->Keyed)(kd:SortKind)(g:Nat->Nat)(p:Array (Nat×Nat×Nat))(st:SortSt):Prop where
 size:(arrOf st).size=N
 get:∀i,i<N->(arrOf st)[i]?=some (f<|g i)
 lt:∀i,i<N->g i<N
 kind:kindOf st=kd
 failed:failedOf st=none
 pend:pendingOf st=p
def uS(C:vH prog w A s o N f kd)(J:kindOf st=kd)(hi:i<N)(hj:j<N){Q:bd->SortSt->Prop}(q:Q (some<|o.lt i j) st):wpS (model prog w) A E s (lt' (f i)<|f j) Q st:=by
 rw[lt'_eq];refine aT<|gb ?_;rw[J];refine aT<|wpS_lift<|wpAny_attempt<|C i j hi hj _ _ ⟨rfl,?_⟩;exact bg q
def jd{xs:Array Keyed}{i:Nat}{x:Keyed}(e:xs[i]?=some x){Q:Keyed->SortSt->Prop}(q:Q x st):wpS (model prog w) A E s (elem' xs i) Q st:=by
 rw[elem'_eq,e];exact bg q
def qz(C:vH prog w A s o N f kd)(h:Sg N f kd g p st)(hi:i<N)(J:j<N){Q:bd->SortSt->Prop}(q:Q (some<|o.lt (g i)<|g j) st):wpS (model prog w) A E s (ltAt' i j) Q st:=by
 rw[ltAt'_eq];refine aT (gb ?_)
 skip
 exact aT<|jd (h.get i hi)<|aT<|jd (h.get j J)<|uS C h.kind (h.lt i hi) (h.lt j J) q
def Sg.arr(h:Sg N f kd g p st){xs:Array Keyed}{g':Nat->Nat}(hs:xs.size=N)(hg:∀i,i<N->xs[i]?=some (f<|g' i))(J:∀i,i<N->g' i<N):Sg N f kd g' p (setArr st xs):=⟨hs,hg,J,h.kind,h.failed,h.pend⟩
def tB(h:Sg N f kd g p st)(J:j<=N){Q:Unit->SortSt->Prop}(q:∀st',Sg N f kd (rev g i j) p st'->Q Unit.unit st'):wpS (model prog w) A E s (reverseSlice' i j) Q st:=by
 rw[reverseSlice'_eq];refine eV (q _<|h.arr (by rw[mirror_size];exact h.size) (λk d=>?_) λk d=>?_)
 ·rw[getElem?_mirror_all<|by rw[h.size];exact J];unfold rev;by_cases c:i<=k/\k<j
  ·rw[aN c,aN c];exact h.get _ (by omega)
  ·rw[aO c,aO c];exact h.get _ d
 ·unfold rev;by_cases c:i<=k/\k<j
  ·rw[aN c];exact h.lt _ (by omega)
  ·rw[aO c];exact h.lt _ d
def N9(h:Sg N f kd g p st){a:Nat}(J:a<N)(hb:b<=a){Q:Unit->SortSt->Prop}(q:∀st',Sg N f kd (mv g a b) p st'->Q Unit.unit st'):wpS (model prog w) A E s (moveDown' a b) Q st:=by
 rw[moveDown'_eq];refine eV (q _<|h.arr (by rw[bubble_size];exact h.size) (λk d=>?_) λk d=>?_)
 ·rw[getElem?_bubble (by rw[h.size];exact J) _ (),show a-(a-b)=b by lia];unfold mv;by_cases c:k=b
  ·rw[aN c,aN c];exact h.get _ J
  ·rw[aO c,aO c];by_cases c2:b<k/\k<=a
   ·rw[aN c2,aN c2];exact h.get _ ()
   ·rw[aO c2,aO c2];exact h.get _ d
 ·unfold mv;by_cases c:k=b
  ·rw[aN c];exact h.lt _ J
  ·rw[aO c];by_cases c2:b<k/\k<=a
   ·rw[aN c2];exact h.lt _ ()
   ·rw[aO c2];exact h.lt _ d
structure Rn (o:Ord)(g0 g:Nat->Nat)(a b:Nat):Prop where
 out:∀i,i<a\/b<=i->g i=g0 i
 cl:Cl g a b
 so:So o g a b
def OC{g0:Nat->Nat}{lo k:Nat}(R:Rn o g0 g lo<|lo+k)(J:g (lo+k)=lo+k)(hl:l<=k)(h1:∀i,i<l->P o (g<|lo+i) (lo+k))(h2:∀i,l<=i->i<k->P o (lo+k) (g<|lo+i)):Rn o g0 (mv g (lo+k)<|lo+l) lo (lo+(k+1)) where
 out i hi:=by rw[yf () ()];exact R.out i ()
 cl i a b:=by
  by_cases c:i=lo+l
  ·subst c;rw[Ik,J];lia
  ·by_cases c2:lo+l<i
   ·rw[zZ c2 ()];have:=R.cl (i-1) () ()
    lia
   ·rw[yf () ()];have:=R.cl i () ()
    lia
 so i j a b d:=by
  by_cases c:i=lo+l
  ·subst c;rw[Ik,zZ b (),J];have:=h2 (j-1-lo) () ()
   rwa [show lo+(j-1-lo)=j-1 by lia]at this
  ·by_cases c2:lo+l<i
   ·rw[zZ c2 (),zZ () ()];exact R.so _ _ () () ()
   ·rw[yf (k:=i) () ()];by_cases c3:j=lo+l
    ·subst c3;rw[Ik,J];have:=h1 (i-lo) ()
     rwa [show lo+(i-lo)=i by lia]at this
    ·by_cases f:lo+l<j
     ·rw[zZ f ()];exact R.so _ _ () () ()
     ·rw[yf () ()];exact R.so _ _ () () ()
def N7(C:vH prog w A s o N f kd){g0:Nat->Nat}{lo n ok:Nat}(h:Sg N f kd g p st)(hn:lo+n<=N)(h1:1<=ok)(hok:ok<=n)(R:Rn o g0 g lo<|lo+ok)(hid:∀i,lo+ok<=i->i<lo+n->g0 i=i)
  {Q:Bool->SortSt->Prop} (q:∀g' st',Sg N f kd g' p st'->Rn o g0 g' lo (lo+n)->Q true st'):wpS (model prog w) A E s (binarySort' lo n ok) Q st:=by
 rw[binarySort'_eq,show max ok 1=ok by lia];refine aT (dP (cD (I:=λk c st'=>c=(none,Unit.unit)/\∃g',Sg N f kd g' p st'/\Rn o g0 g' lo (lo+min k n))
  (Q:=λc st'=>c=(none,Unit.unit)/\∃g',Sg N f kd g' p st'/\Rn o g0 g' lo (lo+n)) ?step ?fin ?init) ?post)
 case post=>
  rintro c st' ⟨rfl,g',h',m⟩;exact bg<|q g' st' h' m
 case init=>exact⟨rfl,g,h,by rw[show min ok n=ok by lia];exact R⟩
 case fin=>
  rintro c st' ⟨hc,g',h',m⟩;exact⟨hc,g',h',by rwa [show min (max ok n) n=n by lia]at m⟩
 case step=>
  rintro k c st' O U ⟨rfl,g',h',m⟩;rw[show min k n=k by lia]at m;have gk:g' (lo+k)=lo+k:=by rw[m.out _ ()];exact hid _ () ()
  refine aT (dP (cD (I:=λx c F=>F=st'/\∃u v,c=(none,u,v)/\u<=v/\v<=k/\v-u<=k-x /\
    (∀i,i<u->P o (g'<|lo+i) (lo+k))/\(∀i,v<=i->i<k->P o (lo+k) (g'<|lo+i)))
   (Q:=λc F=>F=st'/\∃u v,c=(none,u,v)/\u<=k /\
    (∀i,i<u->P o (g'<|lo+i) (lo+k))/\(∀i,u<=i->i<k->P o (lo+k) (g'<|lo+i))) ?istep ?ifin ?iinit) ?ipost)
  case iinit=>exact⟨rfl,0,k,rfl,(),(),(),λi hi=>(),λi h1 T=>()⟩
  case ifin=>
   rintro c F ⟨rfl,u,v,rfl,J,B,L,j,top⟩;have:u=v:=()
   subst this;exact⟨rfl,u,u,rfl,B,j,top⟩
  case istep=>
   rintro x c F _ V ⟨rfl,u,v,rfl,J,B,L,j,top⟩;dsimp only;by_cases G:u>=v
   ·rw[aN G];have:u=v:=()
    subst this;exact bg ⟨rfl,u,u,rfl,B,j,top⟩
   ·rw[aO G];have Z:(u+v) / 2<k:=()
    have M:=m.cl (lo+(u+v) / 2) () ();refine aT<|qz C h' () () ?_;rw[gk]
    cases d:o.lt (lo+k) (g'<|lo+(u+v) / 2)
    case true=>
     dsimp[cU];refine bg ⟨rfl,u,(u+v) / 2,rfl,(),(),(),j,λi h1 T=>?_⟩;by_cases c:i=(u+v) / 2
     ·subst c;exact .inl d
     ·exact(P.of_lt d).trans (m.so _ _ () () ())
    case false=>
     dsimp[bO,cR];refine bg ⟨rfl,(u+v) / 2+1,v,rfl,(),(),(),λi h1=>?_,top⟩;have z:=P.sH d M.2;by_cases c:i=(u+v) / 2
     ·subst c;exact z
     ·exact(m.so _ _ () () ()).trans z
  case ipost=>
   rintro c F ⟨rfl,u,v,rfl,K,j,top⟩;dsimp only;refine aT<|N9 h' () () λW Y=>?_;refine bg ⟨rfl,_,Y,?_⟩;rw[show min (k+1) n=k+1 by lia];exact OC m gk K j top
end
meta abbrev As:=Option (bi)×Nat
meta abbrev Ds:=Option (bi)×Nat×Nat
abbrev IM (lo a J:Nat):StateT SortSt Sem As:=
 forIn [a:J] ((none,a):As) λ_ c=>do
  let x <- ltAt' (lo+c.2) (lo+c.2-1)
  match x with
  | some b=>if b=true then pure (ForInStep.done (none,c.2))else pure (ForInStep.yield (none,c.2+1))
  | _=>pure<|ForInStep.done (some none,c.2)
abbrev y_ (lo n J:Nat):StateT SortSt Sem (bi):=do
 reverseSlice' lo (lo+n)
 let c <- IM lo n J
 match c.1 with
 | some r=>pure r
 | none=>pure<|some c.2
abbrev KS (lo n J:Nat):StateT SortSt Sem Ds:=
 forIn [n:J] ((none,n,0):Ds) λ_ c=>do
  let x <- ltAt' (lo+c.2.1) (lo+c.2.1-1)
  match x with
  | some b=>
   if b=true then
    if c.2.2>0 then do
     reverseSlice' (lo+c.2.1-(c.2.2+1)) (lo+c.2.1)
     pure (ForInStep.yield (none,c.2.1+1,0))
    else pure (ForInStep.yield (none,c.2.1+1,0))
   else do
    let x <- ltAt' (lo+c.2.1-1) (lo+c.2.1)
    match x with
    | some b=>
     if b=true then pure (ForInStep.done (none,c.2.1,c.2.2))
     else pure (ForInStep.yield (none,c.2.1+1,c.2.2+1))
    | _=>pure<|ForInStep.done (some none,c.2.1,c.2.2)
  | _=>pure<|ForInStep.done (some none,c.2.1,c.2.2)
abbrev H_ (lo n J:Nat):StateT SortSt Sem (bi):=do
 liftM (rule "list.sort.descending-run")
 let c <- KS lo (n+1) J
 match c.1 with
 | some r=>pure r
 | none=>
  if c.2.2>0 then do
   reverseSlice' (lo+c.2.1-(c.2.2+1)) (lo+c.2.1)
   y_ lo c.2.1 J
  else y_ lo c.2.1 J
def count_eq(lo J:Nat):countRun' lo J=(do
  let c <- IM lo 1 J
  match c.1 with
  | some r=>pure r
  | none=>
   if (c.2 == J)=true then pure (some c.2)
   else if c.2>1 then do
    let x <- ltAt' lo (lo+c.2-1)
    match x with
    | some b=>if b=true then pure (some c.2)else do
      reverseSlice' lo (lo+c.2)
      H_ lo c.2 J
    | _=>pure none
   else H_ lo c.2 J):=by
 rw[countRun'_eq];dsimp only;unfold H_ y_ KS IM;congr 1
 funext c
 obtain⟨r,n⟩:=c
 cases r with
 | some r=>rfl
 | none=>
  dsimp only;split
  ·rfl
  ·split
   ·congr 1
    funext x
    cases x with
    | none=>rfl
    | some b=>
     dsimp only;split
     ·rfl
     ·congr 1
      funext _r
      congr 1
      funext _u
      congr 1;congr 1
      funext s2
      obtain⟨r2,j,g⟩:=s2
      cases r2 with
      | some r2=>rfl
      | none=>
       dsimp only;split
       ·congr 1
        funext _v
        congr 1
        funext _w
        congr 1
        funext s3
        obtain⟨d,f⟩:=s3
        cases d<;>rfl
       ·congr 1
        funext _w
        congr 1
        funext s3
        obtain⟨d,f⟩:=s3
        cases d<;>rfl
   ·congr 1
    funext _u
    congr 1;congr 1
    funext s2
    obtain⟨r2,j,g⟩:=s2
    cases r2 with
    | some r2=>rfl
    | none=>
     dsimp only;split
     ·congr 1
      funext _v
      congr 1
      funext _w
      congr 1
      funext s3
      obtain⟨d,f⟩:=s3
      cases d<;>rfl
     ·congr 1
      funext _w
      congr 1
      funext s3
      obtain⟨d,f⟩:=s3
      cases d<;>rfl
section
variable {prog:ah}{w:af}{A:au}{E:aa->az->Prop}{s:az}{o:Ord}{N:Nat}{f:Nat->Keyed}{kd:SortKind}{g g0:Nat->Nat}{p:Array (Nat×Nat×Nat)}{st:SortSt}
def Rn.snoc{a:Nat}(R:Rn o g0 g a b)(J:a<b)(hb:g b=b)(h:o.lt b (g<|b-1)=false):Rn o g0 g a (b+1) where
 out i hi:=R.out i ()
 cl i h1 h2:=by
  by_cases c:i=b
  ·subst c;lia
  ·have:=R.cl i h1 ();lia
 so i j h1 h2 h3:=by
  by_cases c:j=b
  ·subst c;rw[hb];have l:=R.cl (j-1) () ();have d:P o (g<|j-1) j:=P.sH h l.2;by_cases c2:i=j-1
   ·subst c2;exact d
   ·exact(R.so i (j-1) h1 () ()).trans d
  ·exact R.so i j h1 h2 ()
def EI(C:vH prog w A s o N f kd){lo a:Nat}(h:Sg N f kd g p st)(hn:lo+nrem<=N)(h1:1<=a)(J:a<=nrem)(R:Rn o g0 g lo<|lo+a)(hid:∀i,lo+a<=i->i<lo+nrem->g0 i=i)
  {Q:As->SortSt->Prop} (q:∀n,a<=n->n<=nrem->Rn o g0 g lo (lo+n)->(n=nrem\/o.lt (lo+n) (g<|lo+n-1)=true)->Q (none,n) st):wpS (model prog w) A E s (IM lo a nrem) Q st:=by
 unfold IM;refine cD (I:=λx c d=>d=st/\c=(none,x)/\Rn o g0 g lo (lo+x)) ?step ?fin ⟨rfl,rfl,R⟩
 case fin=>
  rintro c d ⟨rfl,rfl,j⟩;rw[show max a nrem=nrem by lia]at j ⊢;exact q nrem J (aM _) j<|.inl rfl
 case step=>
  rintro x c d k B ⟨rfl,rfl,j⟩;dsimp only;have m:g (lo+x)=lo+x:=by rw[j.out _ ()];exact hid _ () ()
  refine aT<|qz C h () () ?_;rw[m]
  cases z:o.lt (lo+x) (g<|lo+x-1)
  case true=>
   dsimp[cU];exact bg<|q x k () j<|.inr z
  case false=>
   dsimp[bO,cR];exact bg ⟨rfl,rfl,j.snoc () m z⟩
structure Dc (o:Ord)(g0 g:Nat->Nat)(a b q:Nat):Prop where
 out:∀i,i<a\/b<=i->g i=g0 i
 cl:Cl g a b
 few:a+(q+1)<=b
 dn:∀i j,a<=i->i<j->j<b->i<b-(q+1)->P o (g j) (g i)
 id:∀i,b-(q+1)<=i->i<b->g i=i
 al:∀i j,b-(q+1)<=i->i<b->b-(q+1)<=j->j<b->o.lt i j=false
def Dc.turn{a q:Nat}(D:Dc o g0 g a b q):(∀i,i<a\/b<=i->rev g (b-(q+1)) b i=g0 i)/\Cl (rev g (b-(q+1)) b) a b/\(∀i j,a<=i->i<j->j<b->P o (rev g (b-(q+1)) b j) (rev g (b-(q+1)) b i))/\(∀i,b-(q+1)<=i->i<b->∃k,rev g (b-(q+1)) b i=k/\b-(q+1)<=k/\k<b):=by
 have few:=D.few;have d:∀i,b-(q+1)<=i->i<b->rev g (b-(q+1)) b i=b-(q+1)+b-1-i:=λi h1 f=>by
  rw[ud h1 f];exact D.id _ (by omega)<|by omega
 refine⟨λi hi=>?_,λi h1 f=>?_,λi j h1 f m=>?_,λi h1 f=>⟨_,d i h1 f,by omega,by omega⟩⟩
 ·rw[mR<|by omega];exact D.out i hi
 ·by_cases c:i<b-(q+1)
  ·rw[mR<|by omega];exact D.cl i h1 f
  ·rw[d i (by omega) f];omega
 ·by_cases c:i<b-(q+1)
  ·rw[mR (k:=i)<|by omega];by_cases c2:j<b-(q+1)
   ·rw[mR<|by omega];exact D.dn i j h1 f m c
   ·rw[d j (by omega) m];have:=D.dn i (b-(q+1)+b-1-j) h1 (by omega) (by omega) c
    rwa [D.id _ (by omega)<|by omega]at this
  ·rw[d i (by omega)<|by omega,d j (by omega) m];exact P.sH (D.al _ _ (by omega) (by omega) (by omega)<|by omega)<|by omega
abbrev Fin (o:Ord)(g0 g:Nat->Nat)(a b:Nat):Prop:=(∀i,i<a\/b<=i->g i=g0 i)/\Cl g a b/\(∀i j,a<=i->i<j->j<b->P o (g j) (g i))
def Dc.zf{a:Nat}(D:Dc o g0 g a b 0):Fin o g0 g a b:=⟨D.out,D.cl,λi j h1 f d=>D.dn i j h1 f d ()⟩
def Fin.rn{a:Nat}(D:Fin o g0 g a b):Rn o g0 (rev g a b) a b where
 out i hi:=by rw[mR hi];exact D.1 i hi
 cl i h1 h2:=by
  rw[ud h1 h2];exact D.2.1 _ () ()
 so i j h1 h2 h3:=by
  rw[ud h1 (),ud () h3];exact D.2.2 _ _ () () ()
def Fin.add{a:Nat}(D:Fin o g0 g a b)(J:g b=b)(hab:a<b)(h:∀i,a<=i->i<b->P o b (g i)):Dc o g0 g a (b+1) 0 where
 out i hi:=D.1 i ()
 cl i h1 h2:=by
  by_cases c:i=b
  ·subst c;lia
  ·have:=D.2.1 i h1 ();lia
 few:=()
 dn i j h1 h2 h3 _:=by
  by_cases c:j=b
  ·subst c;rw[J];exact h i h1 h2
  ·exact D.2.2 i j h1 h2 ()
 id i h1 h2:=by
  have:i=b:=()
  rw[this,J]
 al i j h1 h2 h3 h4:=by
  have:i=j:=()
  rw[this];exact o.Ji _
def BE(C:vH prog w A s o N f kd){lo n:Nat}(h:Sg N f kd g p st)(hn:lo+nrem<=N)(h1:1<=n)(J:n<=nrem)(D:Fin o g0 g lo<|lo+n)(hid:∀i,lo<=i->i<lo+nrem->g0 i=i)
  {Q:bi->SortSt->Prop} (q:∀m g' st',Sg N f kd g' p st'->1<=m->m<=nrem->Rn o g0 g' lo (lo+m)->Q (some m) st'):wpS (model prog w) A E s (y_ lo n nrem) Q st:=by
 unfold y_;refine aT<|tB h () λk j=>?_;exact aT<|EI C j hn h1 J D.rn (λi a b=>hid i () b) λm z d R _=>bg<|q m _ _ j () d R
def M1(C:vH prog w A s o N f kd){lo n:Nat}(h:Sg N f kd g p st)(hn:lo+nrem<=N)(h1:1<=n)(han:n<=nrem)(D:Dc o g0 g lo (lo+n) 0)(hid:∀i,lo<=i->i<lo+nrem->g0 i=i)
  {Q:Ds->SortSt->Prop} (q:∀m e g' st',Sg N f kd g' p st'->1<=m->m<=nrem->Dc o g0 g' lo (lo+m) e->Q (none,m,e) st'):wpS (model prog w) A E s (KS lo n nrem) Q st:=by
 unfold KS;refine cD (I:=λx c st'=>∃e g',c=(none,x,e)/\Sg N f kd g' p st'/\Dc o g0 g' lo (lo+x) e) ?step ?fin ⟨0,g,rfl,h,D⟩
 case fin=>
  rintro c st' ⟨e,g',rfl,h',B⟩;rw[show max n nrem=nrem by lia]at B ⊢;exact q nrem e g' st' h' () (aM _) B
 case step=>
  rintro x c st' hax V ⟨e,g',rfl,h',B⟩;dsimp only;have few:=B.few;have F:g' (lo+x)=lo+x:=by rw[B.out _ ()];exact hid _ () ()
  have G:g' (lo+x-1)=lo+x-1:=B.id _ () ();refine aT<|qz C h' () () ?_;rw[F,G]
  cases K:o.lt (lo+x) (lo+x-1)
  case true=>
   dsimp[cU];by_cases L:e>0
   ·rw[aN L];obtain⟨t1,t2,O,W⟩:=B.turn;refine aT<|tB h' () λZ T=>bg ⟨0,_,rfl,T,?_⟩;refine Fin.add (b:=lo+x) ⟨t1,t2,O⟩ (by rw[mR ()];exact F) () λi a b=>?_;by_cases c:lo+x-(e+1)<=i
    ·obtain⟨k,Y,M,U⟩:=W i c b;rw[Y]
     rcases o.neg _ k _ K with z|z
     ·exact .inl z
     ·rw[B.al _ _ M U () ()]at z;cases z
    ·rw[mR ()];have:=B.dn i (lo+x-1) a () () ();rw[G]at this;exact(P.of_lt K).trans this
   ·rw[aO L];have:e=0:=()
    subst this;refine bg ⟨0,_,rfl,h',Fin.add (b:=lo+x) B.zf F () λi a b=>?_⟩;by_cases c:i=lo+x-1
    ·subst c;rw[G];exact .inl K
    ·have:=B.dn i (lo+x-1) a () () ();rw[G]at this;exact(P.of_lt K).trans this
  case false=>
   dsimp[bO,cR];refine aT<|qz C h' () () ?_;rw[F,G]
   cases hg:o.lt (lo+x-1) (lo+x)
   case true=>
    dsimp[cU];exact bg<|q x e g' st' h' () () B
   case false=>
    dsimp[bO,cR];refine bg ⟨e+1,g',rfl,h',?_⟩;have J:∀i,lo+x-(e+1)<=i->i<lo+x->o.lt i (lo+x)=false/\o.lt (lo+x) i=false:=λi a b=>by
     constructor
     ·cases z:o.lt i (lo+x)with
      | false=>rfl
      | true=>
       rcases o.neg _ (lo+x-1) _ z with y|y
       ·rw[B.al _ _ a b () ()]at y;cases y
       ·rw[hg]at y;cases y
     ·cases z:o.lt (lo+x) i with
      | false=>rfl
      | true=>
       rcases o.neg _ (lo+x-1) _ z with y|y
       ·rw[K]at y;cases y
       ·rw[B.al _ _ () () a b]at y;cases y
    exact {
     out:=λi hi=>B.out i ()
     cl:=λi a b=>by
      by_cases c:i=lo+x
      ·subst c;lia
      ·have:=B.cl i a ();lia
     few:=()
     dn:=λi j a b c d=>by
      by_cases z:j=lo+x
      ·subst z;rw[F];have y:=B.dn i (lo+x-1) a () () ();rw[G]at y;have gi:=B.cl i a ()
       rcases y with y|⟨_,y⟩
       ·rcases o.neg _ (lo+x) _ y with v|v
        ·rw[hg]at v;cases v
        ·exact .inl v
       ·lia
      ·exact B.dn i j a b () ()
     id:=λi a b=>by
      by_cases z:i=lo+x
      ·subst z;exact F
      ·exact B.id i () ()
     al:=λi j a b c d=>by
      by_cases z:i=lo+x
      ·subst z;by_cases y:j=lo+x
       ·subst y;exact o.Ji _
       ·exact(J j () ()).2
      ·by_cases y:j=lo+x
       ·subst y;exact(J i () ()).1
       ·exact B.al i j () () () ()}
def B7(C:vH prog w A s o N f kd){lo n:Nat}(h:Sg N f kd g p st)(hn:lo+nrem<=N)(han:n+1<=nrem)(D:Dc o g0 g lo (lo+(n+1)) 0)(hid:∀i,lo<=i->i<lo+nrem->g0 i=i)
  {Q:bi->SortSt->Prop} (q:∀m g' st',Sg N f kd g' p st'->1<=m->m<=nrem->Rn o g0 g' lo (lo+m)->Q (some m) st'):wpS (model prog w) A E s (H_ lo n nrem) Q st:=by
 unfold H_;ksr_p;refine aT<|M1 C h hn () han D hid λm e g' st' h' z k d=>?_;dsimp only;by_cases j:e>0
 ·rw[aN j];obtain⟨J,t2,G,_⟩:=d.turn;exact aT (tB h' () λF B=>BE C B hn z k ⟨J,t2,G⟩ hid q)
 ·rw[aO j];have:e=0:=()
  subst this;exact BE C h' hn z k d.zf hid q
def Gp(C:vH prog w A s o N f kd){lo:Nat}(h:Sg N f kd g p st)(hn:lo+nrem<=N)(h1:1<=nrem)(hid:∀i,lo<=i->i<lo+nrem->g i=i)
  {Q:bi->SortSt->Prop} (q:∀m g' st',Sg N f kd g' p st'->1<=m->m<=nrem->Rn o g g' lo (lo+m)->Q (some m) st'):wpS (model prog w) A E s (countRun' lo nrem) Q st:=by
 rw[count_eq];refine aT (EI C h hn (aM 1) h1 (g0:=g) ⟨λ_ _=>rfl,λi a b=>?_,λi j a b c=>()⟩ (λi a b=>hid i () b) λn O K R J=>?_)
 ·have:i=lo:=()
  subst this;rw[hid i (aM _) ()];lia
 dsimp only;by_cases F:n=nrem
 ·rw[aN<|by simpa using F];exact bg (q n g st h O K R)
 ·rw[aO<|by simpa using F];have k:=J.resolve_left F;rw[hid (lo+n-1) () ()]at k;have M:g (lo+n)=lo+n:=hid _ () ();by_cases G:n>1
  ·rw[aN G];refine aT<|qz C h () () ?_;rw[hid lo () (),hid (lo+n-1) () ()]
   cases U:o.lt lo (lo+n-1)
   case true=>
    dsimp[cU];exact bg<|q n g st h O K R
   case false=>
    dsimp[bO,cR];have d:∀i,lo<=i->i<lo+n->g i=i:=λi a b=>hid i a ();have L:∀i j,lo<=i->i<j->j<lo+n->o.lt i j=false/\o.lt j i=false:=λi j a b c=>by
     have r:=R.so i j a b c;rw[d i a (),d j () c]at r;refine⟨?_,r.ge⟩
     cases z:o.lt i j with
     | false=>rfl
     | true=>
      rcases o.neg _ lo _ z with y|y
      ·by_cases x:i=lo
       ·subst x;rw[o.Ji]at y;cases y
       ·have r2:=R.so lo i () () ();rw[d i a (),d lo () ()]at r2;rw[r2.ge]at y;cases y
      ·rcases o.neg _ (lo+n-1) _ y with x|x
       ·rw[U]at x;cases x
       ·by_cases v:j=lo+n-1
        ·subst v;rw[o.Ji]at x;cases x
        ·have r2:=R.so j (lo+n-1) () () ();rw[d j () c,d (lo+n-1) () ()]at r2;rw[r2.ge]at x;cases x
    refine aT<|tB h () λV T=>B7 C T hn () ?_ hid q;have B:∀i,lo<=i->i<lo+n->rev g lo (lo+n) i=lo+(lo+n)-1-i:=λi a b=>by rw[ud a b];exact d _ () ()
    refine Fin.add (b:=lo+n) ⟨λi hi=>mR hi,λi a b=>by rw[B i a b];lia,λi j a b c=>?_⟩ (by rw[mR ()];exact M) () λi a b=>?_
    ·rw[B i a (),B j () c];exact P.sH (L _ _ () () ()).2 ()
    ·rw[B i a b];by_cases x:lo+(lo+n)-1-i=lo+n-1
     ·rw[x];exact .inl k
     ·rcases o.neg _ (lo+(lo+n)-1-i) _ k with z|z
      ·exact .inl z
      ·rw[(L _ _ () () ()).1]at z;cases z
  ·rw[aO G];have:n=1:=()
   subst this;refine B7 C h hn () ?_ hid q;refine Fin.add (b:=lo+1) ⟨λi hi=>rfl,R.cl,λi j a b c=>()⟩ M () λi a b=>?_;have:i=lo:=()
   subst this;rw[hid i () ()];rw[show i+1-1=i by lia]at k;exact .inl k
end
abbrev Jo (N:Nat):Prop:=∀{prog:ah}{w:af}{A:au}{E:aa->az->Prop}{s:az}{o:Ord}{f:Nat->Keyed}{kd:SortKind}{st:SortSt}{Q:Unit->SortSt->Prop},vH prog w A s o N f kd->Sg N f kd (λi=>i) #[] st->(∀g j d,Sg N f kd g j d->Cl g 0 N->So o g 0 N->Q Unit.unit d)->wpS (model prog w) A E s sortRuns' Q st
abbrev RO (N:Nat):Prop:=2<=N->Jo N
def Sg.OI{N:Nat}{f:Nat->Keyed}{kd:SortKind}{g:Nat->Nat}{p:Array<|Nat×Nat×Nat}{st:SortSt}(h:Sg N f kd g p st)(J:Array<|Nat×Nat×Nat):Sg N f kd g J (setPending st J):=⟨h.size,h.get,h.lt,h.kind,h.failed,rfl⟩
abbrev j6:Bool->Keyed->Array Keyed->Nat->Nat->Nat->StateT SortSt Sem (bi):=sortPriv% PySem.Builtin.gallop
abbrev MP (ask:Nat->StateT SortSt Sem (bd))(n J:Nat):StateT SortSt Sem (bi):=do
 let mut was:=0
 let mut far:=1
 let mut low:=0
 let mut top:=0
 let some yes <- ask J|return none
 if yes then
  let d:=n-J
  for _ in [0:n] do
   if far>=d then break
   let some ok <- ask (J+far)|return none
   if !ok then break
   was:=far
   far:=2 * far+1
  low:=J+was+1
  top:=J+min far d
 else
  let d:=J+1
  for _ in [0:n] do
   if far>=d then break
   let some hit <- ask (J-far)|return none
   if hit then break
   was:=far
   far:=2 * far+1
  low:=J+1-min far d
  top:=J-was
 for _ in [0:n] do
  if low>=top then break
  let m:=low+(top-low) / 2
  let some ok <- ask m|return none
  if ok then low:=m+1 else top:=m
 return some top
def vU(left:Bool)(key:Keyed)(arr:Array Keyed)(base n J:Nat):j6 left key arr base n J=MP (λi=>do
  let x <- elem' arr (base+i)
  if left then lt' x key else return (<- lt' key x).map (!·)) n J:=rfl
section
variable {prog:ah}{w:af}{A:au}{E:aa->az->Prop}{s:az}{st:SortSt}
abbrev QE (J:Nat->StateT SortSt Sem (bd))(n l0 h0:Nat):StateT SortSt Sem (bi):=do
 let mut low:=l0
 let mut top:=h0
 for _ in [0:n] do
  if low>=top then break
  let m:=low+(top-low) / 2
  let some ok <- J m|return none
  if ok then low:=m+1 else top:=m
 return some top
def K9{be:Nat->StateT SortSt Sem (bd)}{n h0:Nat}(b:Nat->Bool)(hbe:∀i,i<n->∀Q:bd->SortSt->Prop,Q (some<|b i) st->wpS (model prog w) A E s (be i) Q st)(hb:∀i j,i<=j->j<n->b j=true->b i=true)
  (hlh:l0<=h0) (hn:h0<=n) (hl:∀i,i<l0->b i=true) (hh:∀i,h0<=i->i<n->b i=false)
  {Q:bi->SortSt->Prop} (q:∀k,k<=n->(∀i,i<k->b i=true)->(∀i,k<=i->i<n->b i=false)->Q (some k) st):wpS (model prog w) A E s (QE be n l0 h0) Q st:=by
 unfold QE;refine aT (dP (cD (I:=λx c d=>d=st/\∃lo hi,c=(none,lo,hi)/\lo<=hi/\hi<=n/\hi-lo<=n-x/\(∀i,i<lo->b i=true)/\(∀i,hi<=i->i<n->b i=false))
  (Q:=λc d=>d=st/\∃k,c=(none,k,k)/\k<=n/\(∀i,i<k->b i=true)/\(∀i,k<=i->i<n->b i=false)) ?step ?fin ⟨rfl,l0,h0,rfl,hlh,hn,(),hl,hh⟩) ?post)
 case post=>
  rintro c d ⟨rfl,k,rfl,h1,f,F⟩;exact bg<|q k h1 f F
 case fin=>
  rintro c d ⟨rfl,lo,hi,rfl,h1,f,F,B,p⟩;have:lo=hi:=()
  subst this;exact⟨rfl,lo,rfl,f,B,p⟩
 case step=>
  rintro x c d _ J ⟨rfl,lo,hi,rfl,h1,f,F,B,p⟩;dsimp only;by_cases g:lo>=hi
  ·rw[aN g];have:lo=hi:=()
   subst this;exact bg ⟨rfl,lo,rfl,f,B,p⟩
  ·rw[aO g];have G:lo+(hi-lo) / 2<hi:=()
   obtain⟨m,C⟩:∃m,m=lo+(hi-lo) / 2:=⟨_,rfl⟩;rw[<- C]at G ⊢;refine aT (hbe m () _ ?_)
   cases hv:b m
   ·dsimp[bO,cR];refine bg ⟨rfl,lo,m,rfl,(),(),(),B,λi a c=>?_⟩
    cases z:b i with
    | false=>rfl
    | true=>rw[hb m i a c z]at hv;cases hv
   ·dsimp[cU];exact bg ⟨rfl,m+1,hi,rfl,(),f,(),λi a=>hb i m () () hv,p⟩
def C2{be:Nat->StateT SortSt Sem (bd)}{n:Nat}(b:Nat->Bool)(J:∀i,i<n->∀Q:bd->SortSt->Prop,Q (some<|b i) st->wpS (model prog w) A E s (be i) Q st)(hb:∀i j,i<=j->j<n->b j=true->b i=true)(hh:hint<n)
  {Q:bi->SortSt->Prop} (q:∀k,k<=n->(∀i,i<k->b i=true)->(∀i,k<=i->i<n->b i=false)->Q (some k) st):wpS (model prog w) A E s (MP be n hint) Q st:=by
 unfold MP;have C:∀i j,i<=j->j<n->b i=false->b j=false:=λi j a c d=>by
  cases z:b j with
  | false=>rfl
  | true=>rw[hb i j a c z]at d;cases d
 refine aT (J hint hh _ ?_)
 cases F:b hint
 ·dsimp only;dsimp[bO,cR];refine aT (dP (cD (I:=λx c f=>f=st/\∃l u,c=(none,l,u)/\x+1<=u/\l<u/\l<=hint/\b (hint-l)=false)
   (Q:=λc f=>f=st/\∃l u,c=(none,l,u)/\l<u/\l<=hint/\b (hint-l)=false/\(u>=hint+1\/b (hint-u)=true)) ?step ?fin ⟨rfl,0,1,rfl,by omega,by omega,by omega,F⟩) ?post)
  case post=>
   rintro c f ⟨rfl,l,u,rfl,h1,B,p,g⟩;dsimp only;refine(K9 b J hb (l0:=hint+1-min u (hint+1)) (h0:=hint-l) (by omega) (by omega) (λi a=>?_) (λi a c=>C _ _ a c p) q:wpS (model prog w) A E s (QE be n _ _) Q f)
   rcases g with g|g
   ·omega
   ·exact hb i (hint-u) (by omega) (by omega) g
  case fin=>
   rintro c f ⟨rfl,l,u,rfl,h1,B,p,g⟩;exact⟨rfl,l,u,rfl,B,p,g,.inl<|by omega⟩
  case step=>
   rintro x c f _ G ⟨rfl,l,u,rfl,h1,B,p,g⟩;dsimp only;by_cases m:u>=hint+1
   ·rw[aN m];exact bg ⟨rfl,l,u,rfl,B,p,g,.inl m⟩
   ·rw[aO m];refine aT (J _ (by omega) _ ?_)
    cases hv:b (hint-u)
    ·dsimp[bO,cR];exact bg ⟨rfl,u,2 * u+1,rfl,by omega,by omega,by omega,hv⟩
    ·dsimp[cU];exact bg ⟨rfl,l,u,rfl,B,p,g,.inr hv⟩
 ·dsimp only;dsimp[cU];refine aT (dP (cD (I:=λx c f=>f=st/\∃l u,c=(none,l,u)/\x+1<=u/\l<u/\hint+l<n/\b (hint+l)=true)
   (Q:=λc f=>f=st/\∃l u,c=(none,l,u)/\l<u/\hint+l<n/\b (hint+l)=true/\(u>=n-hint\/b (hint+u)=false)) ?step2 ?fin2 ⟨rfl,0,1,rfl,by omega,by omega,by omega,F⟩) ?post2)
  case post2=>
   rintro c f ⟨rfl,l,u,rfl,h1,B,p,g⟩;dsimp only;refine(K9 b J hb (l0:=hint+l+1) (h0:=hint+min u (n-hint)) (by omega) (by omega) (λi a=>hb i _ (by omega) B p) (λi a c=>?_) q:wpS (model prog w) A E s (QE be n _ _) Q f)
   rcases g with g|g
   ·omega
   ·exact C (hint+u) i (by omega) c g
  case fin2=>
   rintro c f ⟨rfl,l,u,rfl,h1,B,p,g⟩;exact⟨rfl,l,u,rfl,B,p,g,.inl<|by omega⟩
  case step2=>
   rintro x c f _ G ⟨rfl,l,u,rfl,h1,B,p,g⟩;dsimp only;by_cases m:u>=n-hint
   ·rw[aN m];exact bg ⟨rfl,l,u,rfl,B,p,g,.inl m⟩
   ·rw[aO m];refine aT (J _ (by omega) _ ?_)
    cases hv:b (hint+u)
    ·dsimp[iD,cU];exact bg ⟨rfl,l,u,rfl,B,p,g,.inr hv⟩
    ·dsimp[gZ,bO,cR];exact bg ⟨rfl,u,2 * u+1,rfl,by omega,by omega,by omega,hv⟩
end
section
variable {prog:ah}{w:af}{A:au}{E:aa->az->Prop}{s:az}{o:Ord}{N:Nat}{f:Nat->Keyed}{kd:SortKind}{st:SortSt}
def EA(C:vH prog w A s o N f kd)(hk:kindOf st=kd){base n:Nat}{arr:Array Keyed}{h:Nat->Nat}(ha:∀i,i<n->arr[base+i]?=some (f<|h i))(J:∀i,i<n->h i<key)(hkN:key<N)(so:So o h 0 n)(hh:hint<n)
  {Q:bi->SortSt->Prop} (q:∀k,k<=n->(∀i,i<k->P o (h i) key)->(∀i,k<=i->i<n->P o key (h i))->Q (some k) st):wpS (model prog w) A E s (j6 false (f key) arr base n hint) Q st:=by
 rw[vU];refine C2 (λi=>!o.lt key (h i)) (λi hi B m=>?_) (λi j a b c=>?_) hh λk h1 p g=>q k h1 (λi a=>?_) λi a b=>?_
 ·refine aT<|jd (ha i hi) ?_;dsimp[bO,cR];exact aT (uS C hk hkN (by have:=J i hi;lia)<|bg m)
 ·by_cases z:i=j
  ·subst z;exact c
  ·have r:=so i j (bQ _) () b;have d:o.lt key (h j)=false:=by simpa using c
   cases e:o.lt key (h i)with
   | false=>rfl
   | true=>
    have:=(P.of_lt e).trans r;rw[this.lt<|J j b]at d;cases d
 ·have:=p i a;exact P.sH (by simpa using this) (J i ())
 ·have:=g i a b;exact .inl<|by simpa using this
def E2(C:vH prog w A s o N f kd)(hk:kindOf st=kd){base n:Nat}{arr:Array Keyed}{h:Nat->Nat}(ha:∀i,i<n->arr[base+i]?=some (f<|h i))(J:∀i,i<n->key<h i/\h i<N)(so:So o h 0 n)(hh:hint<n)
  {Q:bi->SortSt->Prop} (q:∀k,k<=n->(∀i,i<k->P o (h i) key)->(∀i,k<=i->i<n->P o key (h i))->Q (some k) st):wpS (model prog w) A E s (j6 true (f key) arr base n hint) Q st:=by
 rw[vU];refine C2 (λi=>o.lt (h i) key) (λi hi p g=>?_) (λi j a b c=>?_) hh λk h1 m d=>q k h1 (λi a=>?_) λi a b=>?_
 ·refine aT<|jd (ha i hi) ?_;dsimp[cU];exact uS C hk (J i hi).2 (by have:=J i hi;lia) g
 ·by_cases z:i=j
  ·subst z;exact c
  ·have r:=so i j (bQ _) () b;exact(r.trans<|P.of_lt c).lt (J i ()).1
 ·exact .inl (m i a)
 ·exact P.sH (d i a b) (J i b).1
end
abbrev u7:Array Keyed->Array Keyed->StateT SortSt Sem (Array Keyed):=sortPriv% PySem.Builtin.mergeLo
abbrev uH:Array Keyed->Array Keyed->StateT SortSt Sem (Array Keyed):=sortPriv% PySem.Builtin.mergeHi
abbrev sF:Nat->StateT SortSt Sem Unit:=sortPriv% PySem.Builtin.setMinGallop
def JE(m:Nat):sF m=modify λs=>SortSt.mk' (kindOf s) (arrOf s) (pendingOf s) m (failedOf s):=rfl
def AF(a b:Array Keyed):u7 a b=(do
 rule "list.sort.merge-lo"
 let all_:=a.size+b.size
 let end1 (acc:Array Keyed) (p q:Nat):=acc++a.extract p a.size++b.extract q b.size
 let end2 (acc:Array Keyed) (p q:Nat):=acc++b.extract q b.size++a.extract p a.size
 let mut acc:Array Keyed:=#[<- elem' b 0]
 let mut p:=0
 let mut q:=1
 if q == b.size then return end1 acc p q
 if p+1 == a.size then return end2 acc p q
 let mut mg:=gallopOf (<- get)
 for _ in [0:all_] do
  let mut ca:=0
  let mut cb:=0
  for _ in [0:all_] do
   let some won <- lt' (<- elem' b q) (<- elem' a p)|return end1 acc p q
   if won then
    acc:=acc.push<|<- elem' b q;q:=q+1;cb:=cb+1;ca:=0
    if q == b.size then return end1 acc p q
    if cb>=mg then break
   else
    acc:=acc.push<|<- elem' a p;p:=p+1;ca:=ca+1;cb:=0
    if p+1 == a.size then return end2 acc p q
    if ca>=mg then break
  rule "list.sort.gallop"
  mg:=mg+1
  for _ in [0:all_] do
   if mg>1 then mg:=mg-1
   sF mg
   let some k <- j6 false (<- elem' b q) a p (a.size-p) 0|return end1 acc p q
   ca:=k
   if k>0 then
    acc:=acc++a.extract p (p+k);p:=p+k
    if p+1 == a.size then return end2 acc p q
    if p == a.size then return end1 acc p q
   acc:=acc.push<|<- elem' b q;q:=q+1
   if q == b.size then return end1 acc p q
   let some k <- j6 true (<- elem' a p) b q (b.size-q) 0|return end1 acc p q
   cb:=k
   if k>0 then
    acc:=acc++b.extract q (q+k);q:=q+k
    if q == b.size then return end1 acc p q
   acc:=acc.push<|<- elem' a p;p:=p+1
   if p+1 == a.size then return end2 acc p q
   if ca<7 && cb<7 then break
  mg:=mg+1
  sF mg
 unsupported "internal:list.sort.merge-bound"):=rfl
section
variable {o:Ord}{N:Nat}{f:Nat->Keyed}{A B hs:ag}{ia ib:Nat}
abbrev fa (f:Nat->Keyed)(l:ag):Array Keyed:=(l.map f).toArray
def kB(l:ag):(fa f l).size=l.length:=by unfold fa;rw[aQ,aG]
def Gw(l:ag)(i:Nat):(fa f l)[i]?=(l[i]?).map f:=by unfold fa;rw[e_,aR]
def j8{l:ag}{i x:Nat}(h:l[i]?=some x):(fa f l)[i]?=some (f x):=by rw[Gw,h];rfl
def qH(l:ag)(x:Nat):(fa f l).push (f x)=fa f (l++[x]):=by
 unfold fa;rw[List.push_toArray,bE];rfl
def nh(l m:ag):fa f l++fa f m=fa f (l++m):=by
 unfold fa;rw[List.append_toArray,bE]
def r8(l:ag)(i j:Nat):(fa f l).extract i j=fa f ((l.drop i).take<|j-i):=by
 unfold fa;rw[List.extract_toArray,List.extract_eq_take_drop,map_take,map_drop]
def tX(l:ag)(i:Nat):(fa f l).extract i l.length=fa f (l.drop i):=by
 rw[r8,cH<|by rw[cL];lia]
structure Ab (o:Ord)(N:Nat)(A B:ag):Prop where
 sa:A.Pairwise (P o)
 sb:B.Pairwise (P o)
 lt:∀x∈A,∀y∈B,x<y
 nb:∀y∈B,y<N
 na:∀x∈A,x<N
structure Mg (o:Ord)(A B hs:ag)(ia ib:Nat):Prop where
 la:ia<=A.length
 lb:ib<=B.length
 len:hs.length=ia+ib
 so:hs.Pairwise (P o)
 mem:∀x∈hs,x∈A\/x∈B
 ua:∀x∈hs,∀y∈A.drop ia,P o x y
 ub:∀x∈hs,∀y∈B.drop ib,P o x y
abbrev Res (o:Ord)(f:Nat->Keyed)(A B:ag)(out:Array Keyed):Prop:=∃hs:ag,out=fa f hs/\hs.length=A.length+B.length/\hs.Pairwise (P o)/\∀x∈hs,x∈A\/x∈B
def pL{l:ag}(h:l.Pairwise<|P o){i j x:Nat}(hx:l[i]?=some x)(hy:l[j]?=some y)(J:i<j):P o x y:=by
 obtain⟨h1,e1⟩:=aI.mp hx;obtain⟨d,e2⟩:=aI.mp hy;rw[<- e1,<- e2];exact cG.mp h i j h1 d J
def qP{l:ag}{y:Nat}(h:y∈l.drop i):∃j,i<=j/\l[j]?=some y:=by
 obtain⟨k,d⟩:=fy h;rw[gR]at d;exact⟨i+k,(),d⟩
def Mg.sM(ab:Ab o N A B)(m:Mg o A B hs ia ib){x:Nat}(J:A[ia]?=some x)(h:∀y∈B.drop ib,P o x y):Mg o A B (hs++[x]) (ia+1) ib:=by
 obtain⟨h1,e1⟩:=aI.mp J;have hd:A.drop ia=x::A.drop (ia+1):=by rw[<- e1];exact a_ h1
 refine⟨(),m.lb,by rw[aL,m.len];show ia+ib+1=_;lia,?_,λz f=>?_,λz f y hy=>?_,λz f y hy=>?_⟩
 ·rw[bx];exact⟨m.so,bM ..,λa p b k=>by rw[aP.mp k];exact m.ua a p x<|by rw[hd];exact aK ..⟩
 ·rcases aV.mp f with d|d
  ·exact m.mem z d
  ·rw[aP.mp d];exact .inl<|aX J
 ·rcases aV.mp f with d|d
  ·exact m.ua z d y (by rw[hd];exact aJ _ hy)
  ·rw[aP.mp d];obtain⟨j,q,g⟩:=qP hy;exact pL ab.sa J g ()
 ·rcases aV.mp f with d|d
  ·exact m.ub z d y hy
  ·rw[aP.mp d];exact h y hy
def Ab.tM(ab:Ab o N A B)(m:Mg o A B hs ia ib){x:Nat}(J:B[ib]?=some x)(h:∀y∈A.drop ia,P o x y):Mg o A B (hs++[x]) ia (ib+1):=by
 obtain⟨h1,e1⟩:=aI.mp J;have hd:B.drop ib=x::B.drop (ib+1):=by rw[<- e1];exact a_ h1
 refine⟨m.la,(),by rw[aL,m.len];rfl,?_,λz f=>?_,λz f y hy=>?_,λz f y hy=>?_⟩
 ·rw[bx];exact⟨m.so,bM ..,λa p b k=>by rw[aP.mp k];exact m.ub a p x<|by rw[hd];exact aK ..⟩
 ·rcases aV.mp f with d|d
  ·exact m.mem z d
  ·rw[aP.mp d];exact .inr<|aX J
 ·rcases aV.mp f with d|d
  ·exact m.ua z d y hy
  ·rw[aP.mp d];exact h y hy
 ·rcases aV.mp f with d|d
  ·exact m.ub z d y (by rw[hd];exact aJ _ hy)
  ·rw[aP.mp d];obtain⟨j,q,g⟩:=qP hy;exact pL ab.sb J g ()
def oq{l:ag}(h:l.Pairwise<|P o){i x:Nat}(hx:l[i]?=some x)(J:P o y x):∀z∈l.drop i,P o y z:=λz f=>by
 obtain⟨j,g,d⟩:=qP f;by_cases c:j=i
 ·subst c;rw[hx]at d;cases d;exact J
 ·exact J.trans<|pL h hx d ()
def take_snoc{l:ag}{k x:Nat}(h:l[i+k]?=some x):(l.drop i).take (k+1)=(l.drop i).take k++[x]:=by
 have h':(l.drop i)[k]?=some x:=by rw[gR];exact h
 obtain⟨h1,e1⟩:=aI.mp h';rw[bV h1,e1]
theorem Mg.ur(J:Ab o N A B)(m:Mg o A B hs ia ib)(hy:B[ib]?=some y):∀k,ia+k<=A.length->(∀i x,i<k->A[ia+i]?=some x->P o x y)->Mg o A B (hs++(A.drop ia).take k) (ia+k) ib
 | 0,_,_=>by rw[bX,bJ];exact m
 | k+1,hk,h=>by
  have f:=Mg.ur J m hy k () λi x hi=>h i x ();have d:A[ia+k]?=some (A[ia+k]'()):=aE _;rw[take_snoc d,<- br];exact f.sM J d<|oq J.sb hy<|h k _ () d
theorem Mg.u0(J:Ab o N A B)(m:Mg o A B hs ia ib)(hy:A[ia]?=some y):∀k,ib+k<=B.length->(∀i x,i<k->B[ib+i]?=some x->P o x y)->Mg o A B (hs++(B.drop ib).take k) ia (ib+k)
 | 0,_,_=>by rw[bX,bJ];exact m
 | k+1,hk,h=>by
  have f:=Mg.u0 J m hy k () λi x hi=>h i x ();have d:B[ib+k]?=some (B[ib+k]'()):=aE _;rw[take_snoc d,<- br];exact J.tM f d<|oq J.sa hy<|h k _ () d
def tQ{l:ag}(h:l.Pairwise<|P o)(i:Nat):(l.drop i).Pairwise (P o):=h.sublist<|List.drop_sublist ..
def Mg.fin(J:Ab o N A B)(m:Mg o A B hs ia ib)(h:∀x∈A.drop ia,∀y∈B.drop ib,P o x y):Res o f A B (fa f hs++(fa f A).extract ia A.length++(fa f B).extract ib B.length):=by
 rw[tX,tX,nh,nh];have la:=m.la;have lb:=m.lb;refine⟨_,rfl,by rw[aL,aL,m.len,cL,cL];lia,?_,λx d=>?_⟩
 ·rw[bx,bx];refine⟨⟨m.so,tQ J.sa _,m.ua⟩,tQ J.sb _,λx d y hy=>?_⟩
  rcases aV.mp d with z|z
  ·exact m.ub x z y hy
  ·exact h x z y hy
 ·rcases aV.mp d with z|z
  ·rcases aV.mp z with z|z
   ·exact m.mem x z
   ·exact .inl<|dB z
  ·exact .inr<|dB z
def Mg.NV(J:Ab o N A B)(m:Mg o A B hs ia ib)(h:∀x∈A.drop ia,∀y∈B.drop ib,P o y x):Res o f A B (fa f hs++(fa f B).extract ib B.length++(fa f A).extract ia A.length):=by
 rw[tX,tX,nh,nh];have la:=m.la;have lb:=m.lb;refine⟨_,rfl,by rw[aL,aL,m.len,cL,cL];omega,?_,λx d=>?_⟩
 ·rw[bx,bx];refine⟨⟨m.so,tQ J.sb _,m.ub⟩,tQ J.sa _,λx d y hy=>?_⟩
  rcases aV.mp d with z|z
  ·exact m.ua x z y hy
  ·exact h y hy x z
 ·rcases aV.mp d with z|z
  ·rcases aV.mp z with z|z
   ·exact m.mem x z
   ·exact .inr<|dB z
  ·exact .inl<|dB z
def drop_nil{l:ag}(h:l.length<=i):l.drop i=[]:=List.drop_eq_nil_of_le h
def A7{l:ag}(h:l.Pairwise<|P o)(b n:Nat)(hn:b+n<=l.length):So o (λi=>l.getD (b+i) 0) 0 n:=λi j _ d f=>
 pL h (i:=b+i) (j:=b+j) (by show _=some (l.getD (b+i) 0);rw[aF,aE<|show b+i<l.length by lia];rfl) (by show _=some (l.getD (b+j) 0);rw[aF,aE<|show b+j<l.length by lia];rfl) ()
def getD_at{l:ag}{i:Nat}(h:i<l.length):l[i]?=some (l.getD i 0):=by
 rw[aF,aE h];rfl
end
structure Sm (st st':SortSt):Prop where
 a:arrOf st'=arrOf st
 k:kindOf st'=kindOf st
 p:pendingOf st'=pendingOf st
 f:failedOf st'=failedOf st
def Sm.refl{st:SortSt}:Sm st st:=⟨rfl,rfl,rfl,rfl⟩
def Sm.trans{st:SortSt}(a:Sm st st')(b:Sm st' st''):Sm st st'':=⟨b.a.trans a.a,b.k.trans a.k,b.p.trans a.p,b.f.trans a.f⟩
meta abbrev G:=Option (Array Keyed)×Array Keyed×Nat×Nat×Nat×Nat×Nat
abbrev T3 (a b out:Array Keyed)(ia ib mg ac bc:Nat):StateT SortSt Sem (ForInStep G):=do
 let x <- elem' a ia
 if (ia+1+1 == a.size)=true then pure (ForInStep.done (some<|out.push x++b.extract ib b.size++a.extract (ia+1) a.size,out.push x,ia+1,ib,mg,ac,bc))
 else if (decide (ac<7) && decide (bc<7))=true then pure (ForInStep.done (none,out.push x,ia+1,ib,mg,ac,bc))
 else pure (ForInStep.yield (none,out.push x,ia+1,ib,mg,ac,bc))
abbrev T2 (a b out:Array Keyed)(ia ib mg ac bc:Nat):StateT SortSt Sem (ForInStep G):=do
 let x <- elem' b ib
 if (ib+1 == b.size)=true then pure (ForInStep.done (some<|out.push x++a.extract ia a.size++b.extract (ib+1) b.size,out.push x,ia,ib+1,mg,ac,bc))
 else
  let y <- elem' a ia
  let r <- j6 true y b (ib+1) (b.size-(ib+1)) 0
  match r with
  | some k=>
   if k>0 then
    if (ib+1+k == b.size)=true then pure (ForInStep.done (some<|out.push x++b.extract (ib+1) (ib+1+k)++a.extract ia a.size++b.extract (ib+1+k) b.size,out.push x++b.extract (ib+1) (ib+1+k),ia,ib+1+k,mg,ac,k))
    else T3 a b (out.push x++b.extract (ib+1) (ib+1+k)) ia (ib+1+k) mg ac k
   else T3 a b (out.push x) ia (ib+1) mg ac k
  | _=>pure<|ForInStep.done (some<|out.push x++a.extract ia a.size++b.extract (ib+1) b.size,out.push x,ia,ib+1,mg,ac,bc)
abbrev T1 (a b out:Array Keyed)(ia ib mg ac bc:Nat):StateT SortSt Sem (ForInStep G):=do
 sF mg
 let x <- elem' b ib
 let r <- j6 false x a ia (a.size-ia) 0
 match r with
 | some k=>
  if k>0 then
   if (ia+k+1 == a.size)=true then pure (ForInStep.done (some<|out++a.extract ia (ia+k)++b.extract ib b.size++a.extract (ia+k) a.size,out++a.extract ia (ia+k),ia+k,ib,mg,k,bc))
   else if (ia+k == a.size)=true then pure (ForInStep.done (some<|out++a.extract ia (ia+k)++a.extract (ia+k) a.size++b.extract ib b.size,out++a.extract ia (ia+k),ia+k,ib,mg,k,bc))
   else T2 a b (out++a.extract ia (ia+k)) (ia+k) ib mg k bc
  else T2 a b out ia ib mg k bc
 | _=>pure<|ForInStep.done (some<|out++a.extract ia a.size++b.extract ib b.size,out,ia,ib,mg,ac,bc)
section
variable {prog:ah}{w:af}{A:au}{E:aa->az->Prop}{s:az}{o:Ord}{N:Nat}{f:Nat->Keyed}{kd:SortKind}{st st0:SortSt}{X Y hs:ag}{ia ib:Nat}
def qu(h:Sm st0 st){Q:Unit->SortSt->Prop}(q:∀st',Sm st0 st'->Q Unit.unit st'):wpS (model prog w) A E s (sF m) Q st:=by
 rw[JE];exact eV<|q _<|h.trans ⟨rfl,rfl,rfl,rfl⟩
abbrev On (o:Ord)(f:Nat->Keyed)(X Y:ag)(n:Nat)(hs:ag)(ia ib:Nat):Prop:=Mg o X Y hs ia ib/\ia+1<X.length/\ib<Y.length/\n<=ia+ib
abbrev G2 (o:Ord)(f:Nat->Keyed)(X Y:ag)(n:Nat)(st0:SortSt):ForInStep G->SortSt->Prop:=λr j=>Sm st0 j/\match r with
 | .done c=>(∃r z,c=(some r,z)/\Res o f X Y r)\/∃hs ia ib mg g d,c=(none,fa f hs,ia,ib,mg,g,d)/\On o f X Y n hs ia ib
 | .yield c=>∃hs ia ib mg g d,c=(none,fa f hs,ia,ib,mg,g,d)/\On o f X Y n hs ia ib
abbrev Top (o:Ord)(X Y:ag):Prop:=∀i x,X[i]?=some x->i+1=X.length->∀y∈Y,P o y x
def T8{α β J κ:Type}{g:α->κ}{O:α->β->J->Prop}{T:κ->Prop}(k:∀a b c,O a b c->T (g a)):∀q,(∃a b c,q=g a/\O a b c)->T q:=by
 rintro _ ⟨a,b,c,rfl,h⟩;exact k a b c h
def SV{α β J δ κ:Type}{S:Prop}{g:α->β->J->δ->κ}{O:α->β->J->δ->Prop}{T:κ->Prop}(k:S->∀a b c d,O a b c d->T (g a b c d)):∀q,(S/\∃a b c d,q=g a b c d/\O a b c d)->T q:=by
 rintro q ⟨s,a,b,c,d,rfl,o⟩;exact k s a b c d o
def Tu{α β J δ ε κ:Type}{S:Prop}{g:α->β->J->δ->ε->κ}{O:α->β->J->δ->ε->Prop}{T:κ->Prop}(k:S->∀a b c d e,O a b c d e->T (g a b c d e)):∀q,(S/\∃a b c d e,q=g a b c d e/\O a b c d e)->T q:=by
 rintro q ⟨s,a,b,c,d,e,rfl,o⟩;exact k s a b c d e o
def Tw{α β J δ ε ζ κ:Type}{S:Prop}{g:α->β->J->δ->ε->ζ->κ}{O:α->β->J->δ->ε->ζ->Prop}{T:κ->Prop}(k:S->∀a b c d e f,O a b c d e f->T (g a b c d e f)):∀q,(S/\∃a b c d e f,q=g a b c d e f/\O a b c d e f)->T q:=by
 rintro q ⟨s,a,b,c,d,e,f,rfl,o⟩;exact k s a b c d e f o
def Ti{α β J δ ε κ ρ σ:Type}{S:Prop}{j:ρ->σ->κ}{R:ρ->Prop}{g:α->β->J->δ->ε->κ}{O:α->β->J->δ->ε->Prop}{T:κ->Prop}(k1:S->∀r z,R r->T (j r z))(k:S->∀a b c d e,O a b c d e->T (g a b c d e)):∀q,(S/\((∃r z,q=j r z/\R r)\/∃a b c d e,q=g a b c d e/\O a b c d e))->T q:=by
 rintro q ⟨s,⟨r,z,rfl,f⟩|⟨a,b,c,d,e,rfl,o⟩⟩
 ·exact k1 s r z f
 ·exact k s a b c d e o
def SS{α β J δ ε ζ κ ρ σ:Type}{S:Prop}{j:ρ->σ->κ}{R:ρ->Prop}{g:α->β->J->δ->ε->ζ->κ}{O:α->β->J->δ->ε->ζ->Prop}{T:κ->Prop}(k1:S->∀r z,R r->T (j r z))(k:S->∀a b c d e f,O a b c d e f->T (g a b c d e f)):∀q,(S/\((∃r z,q=j r z/\R r)\/∃a b c d e f,q=g a b c d e f/\O a b c d e f))->T q:=by
 rintro q ⟨s,⟨r,z,rfl,m⟩|⟨a,b,c,d,e,f,rfl,o⟩⟩
 ·exact k1 s r z m
 ·exact k s a b c d e f o
def qo(J:Ab o N X Y)(tp:Top o X Y)(m:Mg o X Y hs ia ib)(h:ia+1=X.length):Res o f X Y (fa f hs++(fa f Y).extract ib Y.length++(fa f X).extract ia X.length):=
 m.NV J λx g y hy=>by
  obtain⟨j,k,d⟩:=qP g;have:=(aI.mp d).1;exact tp j x d () y<|dB hy
def Le(J:Ab o N X Y)(tp:Top o X Y)(hm:Sm st0 st){n mg x:Nat}(m:Mg o X Y hs ia ib)(ha:ia+1<X.length)(hb:ib<Y.length)(hn:n<=ia+ib)(hx:X[ia]?=some x)(hy:Y[ib]?=some y)(hxy:P o x y) :
  wpS (model prog w) A E s (T3 (fa f X) (fa f Y) (fa f hs) ia ib mg ac bc) (G2 o f X Y n st0) st:=by
 unfold T3;rw[kB,kB];refine aT<|jd (j8 hx) ?_;have d:=m.sM J hx<|oq J.sb hy hxy;rw[qH];by_cases c:ia+1+1=X.length
 ·rw[aN<|by rw[c];exact bR _];exact bg ⟨hm,.inl ⟨_,_,rfl,qo J tp d c⟩⟩
 ·rw[aO<|by simpa using c];by_cases c2:(decide (ac<7) && decide (bc<7))=true
  ·rw[aN c2];exact bg ⟨hm,.inr ⟨_,_,_,_,_,_,rfl,d,(),hb,()⟩⟩
  ·rw[aO c2];exact bg ⟨hm,⟨_,_,_,_,_,_,rfl,d,(),hb,()⟩⟩
def Mc(C:vH prog w A s o N f kd)(hk:kindOf st=kd)(J:Ab o N X Y)(tp:Top o X Y)(hm:Sm st0 st){n mg x:Nat}(m:Mg o X Y hs ia ib)(ha:ia+1<X.length)(hb:ib<Y.length)(hn:n<=ia+ib)(hx:X[ia]?=some x)(hy:Y[ib]?=some y)(hxy:P o y x) :
  wpS (model prog w) A E s (T2 (fa f X) (fa f Y) (fa f hs) ia ib mg ac bc) (G2 o f X Y n st0) st:=by
 unfold T2;rw[kB,kB];kl_no;have d:=J.tM m hy<|oq J.sa hx hxy;rw[qH];by_cases c:ib+1=Y.length
 ·rw[aN<|by rw[c];exact bR _];exact bg ⟨hm,.inl ⟨_,_,rfl,d.fin J λx _ y hy=>by rw[drop_nil ()]at hy;cases hy⟩⟩
 ·rw[aO<|by simpa using c];refine aT<|jd (j8 hx) ?_;refine aT (E2 C hk (h:=λi=>Y.getD (ib+1+i) 0) (λi hi=>j8<|getD_at ()) (λi hi=>?_) (A7 J.sb _ _ ()) () λk B q j=>?_)
  ·have:=aX<|getD_at (l:=Y) (i:=ib+1+i) ();exact⟨J.lt x (aX hx) _ this,J.nb _ this⟩
  ·dsimp only;have g:=d.u0 J hx k () λi z hi p=>by
    have:=q i hi;rw[aF,p]at this;exact this
   by_cases c2:k>0
   ·rw[aN c2,r8,show ib+1+k-(ib+1)=k by lia,nh];by_cases c3:ib+1+k=Y.length
    ·rw[aN<|by rw[c3];exact bR _];exact bg ⟨hm,.inl ⟨_,_,rfl,g.fin J λx _ y hy=>by rw[drop_nil ()]at hy;cases hy⟩⟩
    ·rw[aO<|by simpa using c3];exact Le J tp hm g ha () () hx (getD_at ())<|j k (aM _) ()
   ·rw[aO c2];have:k=0:=()
    subst this;exact Le J tp hm d ha () () hx (getD_at ())<|j 0 (aM _) ()
def O9(C:vH prog w A s o N f kd)(hk:kindOf st0=kd)(ab:Ab o N X Y)(tp:Top o X Y)(hm:Sm st0 st){n mg:Nat}(m:Mg o X Y hs ia ib)(ha:ia+1<X.length)(hb:ib<Y.length)(hn:n<=ia+ib) :
  wpS (model prog w) A E s (T1 (fa f X) (fa f Y) (fa f hs) ia ib mg ac bc) (G2 o f X Y n st0) st:=by
 unfold T1;rw[kB,kB];refine aT<|qu hm λF d=>?_;have hy:=getD_at (l:=Y) (i:=ib) hb;have q:=aX hy;kl_no;refine aT (EA C (by rw[d.k];exact hk) (h:=λi=>X.getD (ia+i) 0) (λi hi=>j8<|getD_at ()) (λi hi=>ab.lt _ (aX<|getD_at (l:=X) (i:=ia+i) ()) _ q) (ab.nb _ q) (A7 ab.sa _ _ ()) () λk K G p=>?_);dsimp only;have g:=m.ur ab hy k () λi z hi J=>by
  have:=G i hi;rw[aF,J]at this;exact this
 by_cases c2:k>0
 ·rw[aN c2,r8,show ia+k-ia=k by lia,nh];by_cases c3:ia+k+1=X.length
  ·rw[aN<|by rw[c3];exact bR _];exact bg ⟨d,.inl ⟨_,_,rfl,qo ab tp g c3⟩⟩
  ·rw[aO<|by simpa using c3];by_cases j:ia+k=X.length
   ·rw[aN<|by rw[j];exact bR _];exact bg ⟨d,.inl ⟨_,_,rfl,g.fin ab λx B y _=>by rw[drop_nil ()]at B;cases B⟩⟩
   ·rw[aO<|by simpa using j];exact Mc C (by rw[d.k];exact hk) ab tp d g () hb () (getD_at ()) hy<|p k (aM _) ()
 ·rw[aO c2];have:k=0:=()
  subst this;exact Mc C (by rw[d.k];exact hk) ab tp d m ha hb hn (getD_at ()) hy<|p 0 (aM _) ()
def Qp(C:vH prog w A s o N f kd)(hk:kindOf st=kd)(ab:Ab o N X Y)(tp:Top o X Y)(h1:1<=X.length)(hy0:Y[0]?=some y0)(h0:∀x∈X,P o y0 x)
  {Q:Array Keyed->SortSt->Prop} (q:∀out st',Sm st st'->Res o f X Y out->Q out st'):wpS (model prog w) A E s (u7 (fa f X)<|fa f Y) Q st:=by
 rw[AF];ksr_p;dsimp only;rw[kB,kB];have hY:=(aI.mp hy0).1;refine aT<|jd (j8 hy0) ?_;have m0:Mg o X Y [] 0 0:=⟨bQ _,bQ _,rfl,List.Pairwise.nil,(nofun),(nofun),(nofun)⟩;have m1:Mg o X Y [y0] 0 1:=ab.tM m0 hy0 h0;have e1:(#[f y0]:Array Keyed)=fa f [y0]:=rfl;rw[e1];by_cases c:1=Y.length
 ·rw[aN<|by rw[<- c];rfl];exact bg (q _ _ Sm.refl<|m1.fin ab λx _ y hy=>by rw[drop_nil ()]at hy;cases hy)
 ·rw[aO<|by simpa using c];by_cases c2:0+1=X.length
  ·rw[aN<|by rw[<- c2];rfl];exact bg (q _ _ Sm.refl<|qo ab tp m1 c2)
  ·rw[aO<|by simpa using c2];refine aT<|gb ?_;refine aT (dP (cD (I:=λx c st'=>Sm st st'/\∃hs ia ib mg,c=(none,fa f hs,ia,ib,mg)/\On o f X Y (x+1) hs ia ib)
    (Q:=λc st'=>Sm st st'/\∃r z,c=(some r,z)/\Res o f X Y r) ?step ?fin ⟨Sm.refl,_,_,_,_,rfl,m1,(),(),aM _⟩) ?post)
   case post=>
    rintro c st' ⟨V,r,z,rfl,M⟩;exact bg<|q _ _ V M
   case fin=>
    rintro c st' ⟨V,hs,ia,ib,mg,rfl,m,F,B,K⟩;exfalso
    lia
   case step=>
    intro x c st' _ hx J;revert J;revert c;refine SV λV hs ia ib mg g=>?_;have m:=g.1;have F:=g.2.1;have B:=g.2.2.1;have K:=g.2.2.2;clear g;dsimp only;refine aT (dP (cD (I:=λW c d=>Sm st d/\∃hs ia ib ac bc,c=(none,fa f hs,ia,ib,ac,bc)/\On o f X Y (x+1+min W 1) hs ia ib)
     (Q:=λc d=>Sm st d/\((∃r z,c=(some r,z)/\Res o f X Y r)\/∃hs ia ib ac bc,c=(none,fa f hs,ia,ib,ac,bc)/\On o f X Y (x+1+1) hs ia ib)) ?istep ?ifin ⟨V,_,_,_,_,_,rfl,m,F,B,K⟩) ?ipost)
    case ifin=>
     rintro c d ⟨j,hs,ia,ib,ac,bc,rfl,m,F,B,K⟩;exact⟨j,.inr ⟨_,_,_,_,_,rfl,m,F,B,()⟩⟩
    case istep=>
     intro W c d _ hx' J;revert J;revert c;refine Tu λj hs ia ib ac bc g=>?_;have m:=g.1;have F:=g.2.1;have B:=g.2.2.1;have K:=g.2.2.2;clear g;dsimp only;have hy:=getD_at (l:=Y) (i:=ib) B;have G:=getD_at (l:=X) (i:=ia) ();have yB:=aX hy;have xA:=aX G;have lt:=ab.lt _ xA _ yB;kl_no;refine aT<|jd (j8 G) ?_;refine aT (uS C (by rw[j.k];exact hk) (ab.nb _ yB) (ab.na _ xA) ?_)
     cases hl:o.lt (Y.getD ib 0) (X.getD ia 0)
     ·dsimp[bO,cR];refine aT<|jd (j8 G) ?_;have O:=m.sM ab G<|oq ab.sb hy<|P.sH hl lt;rw[qH];by_cases c3:ia+1+1=X.length
      ·rw[aN<|by rw[c3];exact bR _];exact bg ⟨j,.inl ⟨_,_,rfl,qo ab tp O c3⟩⟩
      ·rw[aO<|by simpa using c3];by_cases T:ac+1>=mg
       ·rw[aN T];exact bg ⟨j,.inr ⟨_,_,_,_,_,rfl,O,(),B,()⟩⟩
       ·rw[aO T];exact bg ⟨j,_,_,_,_,_,rfl,O,(),B,()⟩
     ·dsimp[cU];kl_no;have O:=ab.tM m hy<|oq ab.sa G<|P.of_lt hl;rw[qH];by_cases c3:ib+1=Y.length
      ·rw[aN<|by rw[c3];exact bR _];exact bg ⟨j,.inl ⟨_,_,rfl,O.fin ab λx _ y hy=>by rw[drop_nil ()]at hy;cases hy⟩⟩
      ·rw[aO<|by simpa using c3];by_cases T:bc+1>=mg
       ·rw[aN T];exact bg ⟨j,.inr ⟨_,_,_,_,_,rfl,O,F,(),()⟩⟩
       ·rw[aO T];exact bg ⟨j,_,_,_,_,_,rfl,O,F,(),()⟩
    case ipost=>
     intro c d J;revert J;revert c;refine Ti (λj r z M=>?_) λj hs ia ib ac bc g=>?_
     ·dsimp only;exact bg ⟨j,r,_,rfl,M⟩
     ·have m:=g.1;have F:=g.2.1;have B:=g.2.2.1;have K:=g.2.2.2;clear g;dsimp only;ksr_p;refine aT (dP (cD (I:=λW c d=>Sm st d/\∃hs ia ib mg ac bc,c=(none,fa f hs,ia,ib,mg,ac,bc)/\On o f X Y (x+1+1) hs ia ib)
       (Q:=λc d=>Sm st d/\((∃r z,c=(some r,z)/\Res o f X Y r)\/∃hs ia ib mg ac bc,c=(none,fa f hs,ia,ib,mg,ac,bc)/\On o f X Y (x+1+1) hs ia ib)) ?jstep ?jfin ⟨j,_,_,_,_,_,_,rfl,m,F,B,K⟩) ?jpost)
      case jfin=>
       rintro c U ⟨p,J⟩;exact⟨p,.inr J⟩
      case jstep=>
       intro W c U _ hx' J;revert J;revert c;refine Tw λp hs ia ib mg ac bc g=>?_;have m:=g.1;have F:=g.2.1;have B:=g.2.2.1;have K:=g.2.2.2;clear g;dsimp only;have Z:=λmg=>O9 (n:=x+1+1) (mg:=mg) (ac:=ac) (bc:=bc) (E:=E) C hk ab tp p m F B K;unfold T1 T2 T3 at Z;rw[kB,kB]at Z;refine dP (Q:=G2 o f X Y (x+1+1) st) ?_ ?_
       ·by_cases c3:mg>1
        ·rw[aN c3];exact Z (mg-1)
        ·rw[aO c3];exact Z mg
       ·rintro r st4 ⟨L,M⟩
        cases r with
        | done c=>exact⟨L,M⟩
        | yield c=>exact⟨L,M⟩
      case jpost=>
       intro c U J;revert J;revert c;refine SS (λp r z M=>?_) λp hs ia ib mg ac bc g=>?_
       ·dsimp only;exact bg ⟨p,r,_,rfl,M⟩
       ·have m:=g.1;have F:=g.2.1;have B:=g.2.2.1;have K:=g.2.2.2;clear g;dsimp only;refine aT<|qu p λst4 L=>?_;exact bg ⟨L,_,_,_,_,rfl,m,F,B,K⟩
end
def Ai(a b:Array Keyed):uH a b=(do
 rule "list.sort.merge-hi"
 let all_:=a.size+b.size
 let end1 (acc:Array Keyed) (p q:Nat):=a.extract 0 p++b.extract 0 q++acc.reverse
 let end2 (acc:Array Keyed) (p q:Nat):=b.extract 0 q++a.extract 0 p++acc.reverse
 let mut p:=a.size-1
 let mut q:=b.size
 let mut acc:Array Keyed:=#[<- elem' a p]
 if p == 0 then return end1 acc p q
 if q == 1 then return end2 acc p q
 let mut mg:=gallopOf (<- get)
 for _ in [0:all_] do
  let mut ca:=0
  let mut cb:=0
  for _ in [0:all_] do
   let some won <- lt' (<- elem' b (q-1)) (<- elem' a (p-1))|return end1 acc p q
   if won then
    p:=p-1;acc:=acc.push<|<- elem' a p;ca:=ca+1;cb:=0
    if p == 0 then return end1 acc p q
    if ca>=mg then break
   else
    q:=q-1;acc:=acc.push<|<- elem' b q;cb:=cb+1;ca:=0
    if q == 1 then return end2 acc p q
    if cb>=mg then break
  rule "list.sort.gallop"
  mg:=mg+1
  for _ in [0:all_] do
   if mg>1 then mg:=mg-1
   sF mg
   let some t <- j6 false (<- elem' b (q-1)) a 0 p (p-1)|return end1 acc p q
   let k:=p-t
   ca:=k
   if k>0 then
    acc:=acc++(a.extract t p).reverse;p:=t
    if p == 0 then return end1 acc p q
   q:=q-1;acc:=acc.push (<- elem' b q)
   if q == 1 then return end2 acc p q
   let some t <- j6 true (<- elem' a (p-1)) b 0 q (q-1)|return end1 acc p q
   let k:=q-t
   cb:=k
   if k>0 then
    acc:=acc++(b.extract t q).reverse;q:=t
    if q == 1 then return end2 acc p q
    if q == 0 then return end1 acc p q
   p:=p-1;acc:=acc.push (<- elem' a p)
   if p == 0 then return end1 acc p q
   if ca<7 && cb<7 then break
  mg:=mg+1
  sF mg
 unsupported "internal:list.sort.merge-bound"):=rfl
section
variable {o:Ord}{N:Nat}{f:Nat->Keyed}{A B ts:ag}{na nb:Nat}
def ET(l:ag):(fa f l).reverse=fa f l.reverse:=by
 unfold fa;rw[List.reverse_toArray,List.map_reverse]
def tW(l:ag)(i:Nat):(fa f l).extract 0 i=fa f (l.take i):=by
 rw[r8,gS,gP]
structure Mh (o:Ord)(A B ts:ag)(na nb:Nat):Prop where
 la:na<=A.length
 lb:nb<=B.length
 len:ts.length+na+nb=A.length+B.length
 so:ts.Pairwise (P o)
 mem:∀x∈ts,x∈A\/x∈B
 ua:∀y∈A.take na,∀x∈ts,P o y x
 ub:∀y∈B.take nb,∀x∈ts,P o y x
def qk{l:ag}{y:Nat}(h:y∈l.take i):∃j,j<i/\l[j]?=some y:=by
 obtain⟨k,d⟩:=fy h;have:=(aI.mp d).1;rw[bG]at this;rw[fK ()]at d;exact⟨k,(),d⟩
def take_one{l:ag}{i x:Nat}(h:l[i]?=some x):l.take (i+1)=l.take i++[x]:=by
 obtain⟨h1,e1⟩:=aI.mp h;rw[bV h1,e1]
def Mh.sM(ab:Ab o N A B)(m:Mh o A B ts (na+1) nb){x:Nat}(J:A[na]?=some x)(h:∀y∈B.take nb,P o y x):Mh o A B (x::ts) na nb:=by
 have la:=m.la;have len:=m.len;have k:=take_one J;have g:x∈A.take (na+1):=by rw[k];exact bh _ (aP.mpr rfl)
 refine⟨(),m.lb,by rw[bu];lia,bA.mpr ⟨λy hy=>m.ua x g y hy,m.so⟩,λz f=>?_,λy hy z f=>?_,λy hy z f=>?_⟩
 ·rcases aY.mp f with rfl|d
  ·exact .inl (aX J)
  ·exact m.mem z d
 ·rcases aY.mp f with rfl|d
  ·obtain⟨j,q,p⟩:=qk hy;exact pL ab.sa p J q
  ·exact m.ua y (by rw[k];exact cY _ hy) z d
 ·rcases aY.mp f with rfl|d
  ·exact h y hy
  ·exact m.ub y hy z d
def Mh.Iq(ab:Ab o N A B)(m:Mh o A B ts na<|nb+1){x:Nat}(J:B[nb]?=some x)(h:∀y∈A.take na,P o y x):Mh o A B (x::ts) na nb:=by
 have lb:=m.lb;have len:=m.len;have k:=take_one J;have g:x∈B.take (nb+1):=by rw[k];exact bh _ (aP.mpr rfl)
 refine⟨m.la,(),by rw[bu];lia,bA.mpr ⟨λy hy=>m.ub x g y hy,m.so⟩,λz f=>?_,λy hy z f=>?_,λy hy z f=>?_⟩
 ·rcases aY.mp f with rfl|d
  ·exact .inr (aX J)
  ·exact m.mem z d
 ·rcases aY.mp f with rfl|d
  ·exact h y hy
  ·exact m.ua y hy z d
 ·rcases aY.mp f with rfl|d
  ·obtain⟨j,p,q⟩:=qk hy;exact pL ab.sb q J p
  ·exact m.ub y (by rw[k];exact cY _ hy) z d
def n8{l:ag}(h:l.Pairwise<|P o){i x:Nat}(hx:l[i]?=some x)(J:P o x y):∀z∈l.take (i+1),P o z y:=λz f=>by
 obtain⟨j,g,d⟩:=qk f;by_cases c:j=i
 ·subst c;rw[hx]at d;cases d;exact J
 ·exact(pL h d hx ()).trans J
theorem Mh.ur(ab:Ab o N A B){J:Nat}(hy:B[J]?=some y):∀(k:Nat) {ts:ag}{at_:Nat},Mh o A B ts (at_+k) (J+1)->(∀i x,at_<=i->i<at_+k->A[i]?=some x->P o y x)->Mh o A B ((A.drop at_).take k++ts) at_ (J+1)
 | 0,ts,at_,m,_=>by rw[bX];exact m
 | k+1,ts,at_,m,h=>by
  have la:=m.la;have d:A[at_+k]?=some (A[at_+k]'()):=aE _;have g:=Mh.sM ab (show Mh o A B ts (at_+k+1) (J+1)from m) d<|n8 ab.sb hy<|h _ _ () () d;have f:=Mh.ur ab hy k g λi x h1 j=>h i x h1 ();rw[take_snoc d,br];exact f
theorem Mh.u0(ab:Ab o N A B){J:Nat}(hy:A[J]?=some y):∀(k:Nat) {ts:ag}{at_:Nat},Mh o A B ts (J+1) (at_+k)->(∀i x,at_<=i->i<at_+k->B[i]?=some x->P o y x)->Mh o A B ((B.drop at_).take k++ts) (J+1) at_
 | 0,ts,at_,m,_=>by rw[bX];exact m
 | k+1,ts,at_,m,h=>by
  have lb:=m.lb;have d:B[at_+k]?=some (B[at_+k]'()):=aE _;have g:=Mh.Iq ab (show Mh o A B ts (J+1) (at_+k+1)from m) d<|n8 ab.sa hy<|h _ _ () () d;have f:=Mh.u0 ab hy k g λi x h1 j=>h i x h1 ();rw[take_snoc d,br];exact f
def tH{l:ag}(h:l.Pairwise<|P o)(i:Nat):(l.take i).Pairwise (P o):=h.sublist<|gT ..
def Mh.fin(J:Ab o N A B)(m:Mh o A B ts na nb)(h:∀x∈A.take na,∀y∈B.take nb,P o x y):Res o f A B ((fa f A).extract 0 na++(fa f B).extract 0 nb++fa f ts):=by
 rw[tW,tW,nh,nh];have la:=m.la;have lb:=m.lb;have len:=m.len;refine⟨_,rfl,by rw[aL,aL,bG,bG];lia,?_,λx d=>?_⟩
 ·rw[bx,bx];refine⟨⟨tH J.sa _,tH J.sb _,h⟩,m.so,λx d y hy=>?_⟩
  rcases aV.mp d with z|z
  ·exact m.ua x z y hy
  ·exact m.ub x z y hy
 ·rcases aV.mp d with z|z
  ·rcases aV.mp z with z|z
   ·exact .inl (cT z)
   ·exact .inr<|cT z
  ·exact m.mem x z
def Mh.NV(J:Ab o N A B)(m:Mh o A B ts na nb)(h:∀x∈A.take na,∀y∈B.take nb,P o y x):Res o f A B ((fa f B).extract 0 nb++(fa f A).extract 0 na++fa f ts):=by
 rw[tW,tW,nh,nh];have la:=m.la;have lb:=m.lb;have len:=m.len;refine⟨_,rfl,by rw[aL,aL,bG,bG];lia,?_,λx d=>?_⟩
 ·rw[bx,bx];refine⟨⟨tH J.sb _,tH J.sa _,λx d y hy=>h y hy x d⟩,m.so,λx d y hy=>?_⟩
  rcases aV.mp d with z|z
  ·exact m.ub x z y hy
  ·exact m.ua x z y hy
 ·rcases aV.mp d with z|z
  ·rcases aV.mp z with z|z
   ·exact .inr (cT z)
   ·exact .inl<|cT z
  ·exact m.mem x z
abbrev P9 (o:Ord)(X Y:ag):Prop:=∀y,Y[0]?=some y->∀x∈X,P o y x
def pW(J:Ab o N A B)(bt:P9 o A B)(m:Mh o A B ts na nb)(h:nb=1):Res o f A B ((fa f B).extract 0 nb++(fa f A).extract 0 na++fa f ts):=
 m.NV J λx g y hy=>by
  obtain⟨j,k,d⟩:=qk hy;have:j=0:=()
  subst this;exact bt y d x<|cT g
def Mh.zf(J:Ab o N A B)(m:Mh o A B ts na nb)(h:na=0\/nb=0):Res o f A B ((fa f A).extract 0 na++(fa f B).extract 0 nb++fa f ts):=
 m.fin J λx d y hy=>by
  rcases h with rfl|rfl
  ·rw[bX]at d;cases d
  ·rw[bX]at hy;cases hy
def tV(l:ag)(x:Nat):(fa f l.reverse).push (f x)=fa f (x::l).reverse:=by rw[qH,List.reverse_cons]
def Ff(l m:ag):fa f l.reverse++(fa f m).reverse=fa f (m++l).reverse:=by rw[ET,nh,List.reverse_append]
def qa(l:ag):(fa f l.reverse).reverse=fa f l:=by rw[ET,List.reverse_reverse]
end
meta abbrev H:=Option (Array Keyed)×Nat×Nat×Array Keyed×Nat×Nat×Nat
abbrev U3 (a b out:Array Keyed)(na nb mg ac bc:Nat):StateT SortSt Sem (ForInStep H):=do
 let x <- elem' a (na-1)
 if (na-1 == 0)=true then pure (ForInStep.done (some<|a.extract 0 (na-1)++b.extract 0 nb++(out.push x).reverse,na-1,nb,out.push x,mg,ac,bc))
 else if (decide (ac<7) && decide (bc<7))=true then pure (ForInStep.done (none,na-1,nb,out.push x,mg,ac,bc))
 else pure (ForInStep.yield (none,na-1,nb,out.push x,mg,ac,bc))
abbrev U2 (a b out:Array Keyed)(na nb mg ac bc:Nat):StateT SortSt Sem (ForInStep H):=do
 let x <- elem' b (nb-1)
 if (nb-1 == 1)=true then pure (ForInStep.done (some<|b.extract 0 (nb-1)++a.extract 0 na++(out.push x).reverse,na,nb-1,out.push x,mg,ac,bc))
 else
  let y <- elem' a (na-1)
  let r <- j6 true y b 0 (nb-1) (nb-1-1)
  match r with
  | some t=>
   if nb-1-t>0 then
    if (t == 1)=true then pure (ForInStep.done (some<|b.extract 0 t++a.extract 0 na++(out.push x++(b.extract t<|nb-1).reverse).reverse,na,t,out.push x++(b.extract t<|nb-1).reverse,mg,ac,nb-1-t))
    else if (t == 0)=true then pure (ForInStep.done (some<|a.extract 0 na++b.extract 0 t++(out.push x++(b.extract t<|nb-1).reverse).reverse,na,t,out.push x++(b.extract t<|nb-1).reverse,mg,ac,nb-1-t))
    else U3 a b (out.push x++(b.extract t<|nb-1).reverse) na t mg ac (nb-1-t)
   else U3 a b (out.push x) na (nb-1) mg ac (nb-1-t)
  | _=>pure<|ForInStep.done (some<|a.extract 0 na++b.extract 0 (nb-1)++(out.push x).reverse,na,nb-1,out.push x,mg,ac,bc)
abbrev U1 (a b out:Array Keyed)(na nb mg ac bc:Nat):StateT SortSt Sem (ForInStep H):=do
 sF mg
 let x <- elem' b (nb-1)
 let r <- j6 false x a 0 na (na-1)
 match r with
 | some t=>
  if na-t>0 then
   if (t == 0)=true then pure (ForInStep.done (some<|a.extract 0 t++b.extract 0 nb++(out++(a.extract t na).reverse).reverse,t,nb,out++(a.extract t na).reverse,mg,na-t,bc))
   else U2 a b (out++(a.extract t na).reverse) t nb mg (na-t) bc
  else U2 a b out na nb mg (na-t) bc
 | _=>pure<|ForInStep.done (some<|a.extract 0 na++b.extract 0 nb++out.reverse,na,nb,out,mg,ac,bc)
section
variable {prog:ah}{w:af}{A:au}{E:aa->az->Prop}{s:az}{o:Ord}{N:Nat}{f:Nat->Keyed}{kd:SortKind}{st st0:SortSt}{X Y ts:ag}{na nb:Nat}
abbrev Oh (o:Ord)(X Y:ag)(n:Nat)(ts:ag)(na nb:Nat):Prop:=Mh o X Y ts na nb/\1<=na/\2<=nb/\na+nb+n<=X.length+Y.length
abbrev H2 (o:Ord)(f:Nat->Keyed)(X Y:ag)(n:Nat)(st0:SortSt):ForInStep H->SortSt->Prop:=λr g=>Sm st0 g/\match r with
 | .done c=>(∃r z,c=(some r,z)/\Res o f X Y r)\/∃ts na nb mg j d,c=(none,na,nb,fa f ts.reverse,mg,j,d)/\Oh o X Y n ts na nb
 | .yield c=>∃ts na nb mg j d,c=(none,na,nb,fa f ts.reverse,mg,j,d)/\Oh o X Y n ts na nb
def Ma(J:Ab o N X Y)(hm:Sm st0 st){n mg x:Nat}(m:Mh o X Y ts (na+1)<|nb+1)(hb:1<=nb)(hn:na+1+(nb+1)+n<=X.length+Y.length)(hx:X[na]?=some x)(hy:Y[nb]?=some y)(hxy:P o y x) :
  wpS (model prog w) A E s (U3 (fa f X) (fa f Y) (fa f ts.reverse) (na+1) (nb+1) mg ac bc) (H2 o f X Y n st0) st:=by
 unfold U3;rw[show na+1-1=na by lia];refine aT<|jd (j8 hx) ?_;have d:=m.sM J hx<|n8 J.sb hy hxy;rw[tV,qa];by_cases c:na=0
 ·rw[aN<|by rw[c];rfl];exact bg ⟨hm,.inl ⟨_,_,rfl,d.zf J<|.inl c⟩⟩
 ·rw[aO<|by simpa using c];by_cases c2:(decide (ac<7) && decide (bc<7))=true
  ·rw[aN c2];exact bg ⟨hm,.inr ⟨_,_,_,_,_,_,rfl,d,(),(),()⟩⟩
  ·rw[aO c2];exact bg ⟨hm,⟨_,_,_,_,_,_,rfl,d,(),(),()⟩⟩
def Lh(C:vH prog w A s o N f kd)(hk:kindOf st=kd)(J:Ab o N X Y)(bt:P9 o X Y)(hm:Sm st0 st){n mg x:Nat}(m:Mh o X Y ts (na+1)<|nb+1)(hb:1<=nb)(hn:na+1+(nb+1)+n<=X.length+Y.length)(hx:X[na]?=some x)(hy:Y[nb]?=some y)(hxy:P o x y) :
  wpS (model prog w) A E s (U2 (fa f X) (fa f Y) (fa f ts.reverse) (na+1) (nb+1) mg ac bc) (H2 o f X Y n st0) st:=by
 unfold U2;rw[show nb+1-1=nb by lia,show na+1-1=na by lia];kl_no;have j:=m.Iq J hy<|n8 J.sa hx hxy;have lb:=m.lb;rw[tV,qa];by_cases c:nb=1
 ·rw[aN<|by rw[c];rfl];exact bg ⟨hm,.inl ⟨_,_,rfl,pW J bt j c⟩⟩
 ·rw[aO<|by simpa using c];refine aT<|jd (j8 hx) ?_;refine aT (E2 C hk (h:=λi=>Y.getD (0+i) 0) (λi hi=>j8<|getD_at ()) (λi hi=>?_) (A7 J.sb _ _ ()) () λt F t2 p=>?_)
  ·have:=aX<|getD_at (l:=Y) (i:=0+i) ();exact⟨J.lt x (aX hx) _ this,J.nb _ this⟩
  ·dsimp only;have g:=Mh.u0 J hx (nb-t) (at_:=t) (by rw[show t+(nb-t)=nb by lia];exact j) λi z k q B=>by
    have:=p i k ();rw[dQ,aF (l:=Y),B]at this;exact this
   by_cases c2:nb-t>0
   ·rw[aN c2,r8 Y t nb,Ff,qa];by_cases c3:t=1
    ·rw[aN<|by rw[c3];rfl];exact bg ⟨hm,.inl ⟨_,_,rfl,pW J bt g c3⟩⟩
    ·rw[aO<|by simpa using c3];by_cases d:t=0
     ·rw[aN<|by rw[d];rfl];exact bg ⟨hm,.inl ⟨_,_,rfl,g.zf J<|.inr d⟩⟩
     ·rw[aO<|by simpa using d];obtain⟨u,rfl⟩:∃u,t=u+1:=⟨t-1,()⟩;have:=t2 u ();rw[dQ]at this;exact Ma J hm g () () hx (getD_at ()) this
   ·rw[aO c2];have:t=nb:=()
    subst this;obtain⟨u,rfl⟩:∃u,t=u+1:=⟨t-1,()⟩;have:=t2 u ();rw[dQ]at this;exact Ma J hm j () () hx (getD_at ()) this
def Qi(C:vH prog w A s o N f kd)(hk:kindOf st0=kd)(ab:Ab o N X Y)(bt:P9 o X Y)(hm:Sm st0 st){n mg:Nat}(m:Mh o X Y ts (na+1)<|nb+1)(hb:1<=nb)(hn:na+1+(nb+1)+n<=X.length+Y.length) :
  wpS (model prog w) A E s (U1 (fa f X) (fa f Y) (fa f ts.reverse) (na+1) (nb+1) mg ac bc) (H2 o f X Y n st0) st:=by
 unfold U1;refine aT<|qu hm λB d=>?_;have lb:=m.lb;have la:=m.la;rw[show nb+1-1=nb by lia,show na+1-1=na by lia];have hy:=getD_at (l:=Y) (i:=nb) ();have q:=aX hy;kl_no;refine aT (EA C (by rw[d.k];exact hk) (h:=λi=>X.getD (0+i) 0) (λi hi=>j8<|getD_at ()) (λi hi=>ab.lt _ (aX<|getD_at (l:=X) (i:=0+i) ()) _ q) (ab.nb _ q) (A7 ab.sa _ _ ()) () λt K t2 F=>?_);dsimp only;have p:=Mh.ur ab hy (na+1-t) (at_:=t) (by rw[show t+(na+1-t)=na+1 by lia];exact m) λi z j G J=>by
  have:=F i j ();rw[dQ,aF (l:=X),J]at this;exact this
 by_cases c2:na+1-t>0
 ·rw[aN c2,r8 X t<|na+1,Ff,qa];by_cases g:t=0
  ·rw[aN<|by rw[g];rfl];exact bg ⟨d,.inl ⟨_,_,rfl,p.zf ab<|.inl g⟩⟩
  ·rw[aO<|by simpa using g];obtain⟨u,rfl⟩:∃u,t=u+1:=⟨t-1,()⟩;have:=t2 u ();rw[dQ]at this;exact Lh C (by rw[d.k];exact hk) ab bt d p hb () (getD_at ()) hy this
 ·rw[aO c2];have:t=na+1:=()
  subst this;have:=t2 na ();rw[dQ]at this;exact Lh C (by rw[d.k];exact hk) ab bt d m hb hn (getD_at ()) hy this
def Qx(C:vH prog w A s o N f kd)(hk:kindOf st=kd)(ab:Ab o N X Y)(tp:Top o X Y)(bt:P9 o X Y)(h1:1<=X.length)(h2:1<=Y.length)
  {Q:Array Keyed->SortSt->Prop} (q:∀out st',Sm st st'->Res o f X Y out->Q out st'):wpS (model prog w) A E s (uH (fa f X)<|fa f Y) Q st:=by
 rw[Ai];ksr_p;dsimp only;rw[kB,kB];have T:=getD_at (l:=X) (i:=X.length-1) ();refine aT<|jd (j8 T) ?_;have m0:Mh o X Y [] (X.length-1+1) Y.length:=⟨(),aM _,by rw[d8];lia,List.Pairwise.nil,(nofun),(λ_ _ _ h=>nomatch h),(λ_ _ _ h=>nomatch h)⟩;have m1:=m0.sM ab T λy hy=>tp _ _ T () y<|cT hy;obtain⟨Z,ex0⟩:∃Z,Z=X.getD (X.length-1) 0:=⟨_,rfl⟩;rw[<- ex0]at m1 ⊢;have e1:(#[f Z]:Array Keyed)=fa f [Z].reverse:=rfl;rw[e1,qa];by_cases c:X.length-1=0
 ·rw[aN<|by rw[c];rfl];exact bg (q _ _ Sm.refl<|m1.zf ab<|.inl c)
 ·rw[aO<|by simpa using c];by_cases c2:Y.length=1
  ·rw[aN<|by rw[c2];rfl];exact bg (q _ _ Sm.refl<|pW ab bt m1 c2)
  ·rw[aO<|by simpa using c2];refine aT<|gb ?_;refine aT (dP (cD (I:=λx c st'=>Sm st st'/\∃ts na nb mg,c=(none,na,nb,fa f ts.reverse,mg)/\Oh o X Y (x+1) ts na nb)
    (Q:=λc st'=>Sm st st'/\∃r z,c=(some r,z)/\Res o f X Y r) ?step ?fin ⟨Sm.refl,_,_,_,_,rfl,m1,(),(),()⟩) ?post)
   case post=>
    rintro c st' ⟨W,r,z,rfl,M⟩;exact bg<|q _ _ W M
   case fin=>
    rintro c st' ⟨W,ts,na,nb,mg,rfl,m,B,F,K⟩;exfalso
    lia
   case step=>
    intro x c st' _ hx J;revert J;revert c;refine SV λW ts na nb mg g=>?_;have m:=g.1;have B:=g.2.1;have F:=g.2.2.1;have K:=g.2.2.2;clear g;dsimp only;refine aT (dP (cD (I:=λx' c d=>Sm st d/\∃ts na nb ac bc,c=(none,na,nb,fa f ts.reverse,ac,bc)/\Oh o X Y (x+1+min x' 1) ts na nb)
     (Q:=λc d=>Sm st d/\((∃r z,c=(some r,z)/\Res o f X Y r)\/∃ts na nb ac bc,c=(none,na,nb,fa f ts.reverse,ac,bc)/\Oh o X Y (x+1+1) ts na nb)) ?istep ?ifin ⟨W,_,_,_,_,_,rfl,m,B,F,K⟩) ?ipost)
    case ifin=>
     rintro c d ⟨j,ts,na,nb,ac,bc,rfl,m,B,F,K⟩;exact⟨j,.inr ⟨_,_,_,_,_,rfl,m,B,F,()⟩⟩
    case istep=>
     intro x' c d _ hx' J;revert J;revert c;refine Tu λj ts na nb ac bc g=>?_;have m:=g.1;have B:=g.2.1;have F:=g.2.2.1;have K:=g.2.2.2;clear g;dsimp only;obtain⟨u,rfl⟩:∃u,na=u+1:=⟨na-1,()⟩;obtain⟨v,rfl⟩:∃v,nb=v+1:=⟨nb-1,()⟩;have la:=m.la;have lb:=m.lb;rw[show u+1-1=u by lia,show v+1-1=v by lia];have hy:=getD_at (l:=Y) (i:=v) ();have G:=getD_at (l:=X) (i:=u) ();have yB:=aX hy;have xA:=aX G;have lt:=ab.lt _ xA _ yB;kl_no;refine aT<|jd (j8 G) ?_;refine aT (uS C (by rw[j.k];exact hk) (ab.nb _ yB) (ab.na _ xA) ?_)
     cases hl:o.lt (Y.getD v 0) (X.getD u 0)
     ·dsimp[bO,cR];kl_no;have O:=m.Iq ab hy<|n8 ab.sa G<|P.sH hl lt;rw[tV,qa];by_cases c3:v=1
      ·rw[aN<|by rw[c3];rfl];exact bg ⟨j,.inl ⟨_,_,rfl,pW ab bt O c3⟩⟩
      ·rw[aO<|by simpa using c3];by_cases U:bc+1>=mg
       ·rw[aN U];exact bg ⟨j,.inr ⟨_,_,_,_,_,rfl,O,B,(),()⟩⟩
       ·rw[aO U];exact bg ⟨j,_,_,_,_,_,rfl,O,B,(),()⟩
     ·dsimp[cU];refine aT<|jd (j8 G) ?_;have O:=m.sM ab G<|n8 ab.sb hy<|P.of_lt hl;rw[tV,qa];by_cases c3:u=0
      ·rw[aN<|by rw[c3];rfl];exact bg ⟨j,.inl ⟨_,_,rfl,O.zf ab<|.inl c3⟩⟩
      ·rw[aO<|by simpa using c3];by_cases U:ac+1>=mg
       ·rw[aN U];exact bg ⟨j,.inr ⟨_,_,_,_,_,rfl,O,(),F,()⟩⟩
       ·rw[aO U];exact bg ⟨j,_,_,_,_,_,rfl,O,(),F,()⟩
    case ipost=>
     intro c d J;revert J;revert c;refine Ti (λj r z M=>?_) λj ts na nb ac bc g=>?_
     ·dsimp only;exact bg ⟨j,r,_,rfl,M⟩
     ·have m:=g.1;have B:=g.2.1;have F:=g.2.2.1;have K:=g.2.2.2;clear g;dsimp only;ksr_p;refine aT (dP (cD (I:=λx' c d=>Sm st d/\∃ts na nb mg ac bc,c=(none,na,nb,fa f ts.reverse,mg,ac,bc)/\Oh o X Y (x+1+1) ts na nb)
       (Q:=λc d=>Sm st d/\((∃r z,c=(some r,z)/\Res o f X Y r)\/∃ts na nb mg ac bc,c=(none,na,nb,fa f ts.reverse,mg,ac,bc)/\Oh o X Y (x+1+1) ts na nb)) ?jstep ?jfin ⟨j,_,_,_,_,_,_,rfl,m,B,F,K⟩) ?jpost)
      case jfin=>
       rintro c V ⟨p,J⟩;exact⟨p,.inr J⟩
      case jstep=>
       intro x' c V _ hx' J;revert J;revert c;refine Tw λp ts na nb mg ac bc g=>?_;have m:=g.1;have B:=g.2.1;have F:=g.2.2.1;have K:=g.2.2.2;clear g;dsimp only;obtain⟨u,rfl⟩:∃u,na=u+1:=⟨na-1,()⟩;obtain⟨v,rfl⟩:∃v,nb=v+1:=⟨nb-1,()⟩;have t1:=λmg=>Qi (n:=x+1+1) (mg:=mg) (ac:=ac) (bc:=bc) (E:=E) C hk ab bt p m () K;unfold U1 U2 U3 at t1;refine dP (Q:=H2 o f X Y (x+1+1) st) ?_ ?_
       ·by_cases c3:mg>1
        ·rw[aN c3];exact t1 (mg-1)
        ·rw[aO c3];exact t1 mg
       ·rintro r st4 ⟨L,M⟩
        cases r with
        | done c=>exact⟨L,M⟩
        | yield c=>exact⟨L,M⟩
      case jpost=>
       intro c V J;revert J;revert c;refine SS (λp r z M=>?_) λp ts na nb mg ac bc g=>?_
       ·dsimp only;exact bg ⟨p,r,_,rfl,M⟩
       ·have m:=g.1;have B:=g.2.1;have F:=g.2.2.1;have K:=g.2.2.2;clear g;dsimp only;refine aT<|qu p λst4 L=>?_;exact bg ⟨L,_,_,_,_,rfl,m,B,F,K⟩
end
def AK(i:Nat):mergeAt' i=(do
 let s <- get
 let(some (a1,n1,pw),some (a2,n2,_)):=((pendingOf s)[i]?,(pendingOf s)[i+1]?)|unsupported "internal:list.sort.pending"
 set (setPending s<|((pendingOf s).setIfInBounds i (a1,n1+n2,pw)).eraseIdxIfInBounds<|i+1)
 let some k <- j6 false (<- elem' (arrOf s) a2) (arrOf s) a1 n1 0|return false
 let(a1,n1):=(a1+k,n1-k)
 if n1 == 0 then return true
 let some n2 <- j6 true (<- elem' (arrOf s) (a1+n1-1)) (arrOf s) a2 n2 (n2-1)|return false
 if n2 == 0 then return true
 let x:=(arrOf s).extract a1 a2
 let y:=(arrOf s).extract a2 (a2+n2)
 let both <- if n1<=n2 then u7 x y else uH x y
 modify λs=>setArr s (both.toList.zipIdx.foldl (λa (p,j)=>a.setIfInBounds (a1+j) p)<|arrOf s)
 return (failedOf<|<- get).isNone):=rfl
abbrev seg (g:Nat->Nat)(a n:Nat):ag:=(List.range n).map λi=>g<|a+i
section
variable {o:Ord}{N:Nat}{f:Nat->Keyed}{g:Nat->Nat}
def lS(g:Nat->Nat)(a n:Nat):(seg g a n).length=n:=by unfold seg;rw[aG,cF]
def oF{a n i:Nat}(h:i<n):(seg g a n)[i]?=some (g<|a+i):=by unfold seg;rw[aR,gM h];rfl
def nB{a n x:Nat}(h:x∈seg g a n):∃i,i<n/\x=g (a+i):=by
 obtain⟨i,hi,rfl⟩:=bU.mp h;exact⟨i,bW.mp hi,rfl⟩
def EO{a n:Nat}(h:So o g a<|a+n):(seg g a n).Pairwise (P o):=by
 rw[cG];intro i j hi d f;rw[lS]at hi d;have e1:=oF (g:=g) (a:=a) hi;have e2:=oF (g:=g) (a:=a) d;rw[aE<|by rw[lS];exact hi]at e1;rw[aE<|by rw[lS];exact d]at e2;rw[aU e1,aU e2];exact h _ _ () () ()
def Dq{arr:Array Keyed}(hs:arr.size=N)(hg:∀i,i<N->arr[i]?=some (f<|g i)){a n:Nat}(h:a+n<=N):arr.extract a (a+n)=fa f (seg g a n):=by
 apply Array.ext_getElem?;intro i;rw[Gw,Array.getElem?_extract];by_cases c:i<n
 ·rw[aN (),oF c,hg _ ()];rfl
 ·rw[aO (),cP<|by rw[lS];lia];rfl
theorem wA{α:Type}(b:Nat):∀(l:List α) (n:Nat) (arr:Array α),((l.zipIdx n).foldl (λa (p,j)=>a.setIfInBounds (b+j) p) arr).size=arr.size
 | [],_,_=>rfl
 | x::l,n,arr=>by
  rw[h_,iy,wA b l<|n+1];exact Array.size_setIfInBounds ..
theorem zO{α:Type}(b:Nat):∀(l:List α) (n:Nat) (arr:Array α) (k:Nat),b+n+l.length<=arr.size->((l.zipIdx n).foldl (λa (p,j)=>a.setIfInBounds (b+j) p) arr)[k]?=if b+n<=k/\k<b+n+l.length then l[k-(b+n)]? else arr[k]?
 | [],n,arr,k,h=>by rw[aO<|by rw[d8];lia];rfl
 | x::l,n,arr,k,h=>by
  rw[bu]at h;rw[h_,iy,zO b l (n+1) _ k<|by rw[Array.size_setIfInBounds];lia,bu];by_cases c:k=b+n
  ·subst c;rw[aO (),aN (),c8];show(arr.setIfInBounds (b+n) x)[b+n]?=some x;rw[Array.getElem?_setIfInBounds_self_of_lt ()]
  ·by_cases c2:b+n<=k/\k<b+n+(l.length+1)
   ·rw[aN (),aN c2,show k-(b+n)=k-(b+(n+1))+1 by lia,fY]
   ·rw[aO (),aO c2]
    skip
    rw[Array.getElem?_setIfInBounds_ne ()]
end
section
variable {prog:ah}{w:af}{A:au}{E:aa->az->Prop}{s:az}{o:Ord}{N:Nat}{f:Nat->Keyed}{kd:SortKind}{g:Nat->Nat}{st:SortSt}
def KP{Q:PUnit->SortSt->Prop}(h:Q ⟨⟩ st'):wpS (model prog w) A E s (set st':StateT SortSt Sem PUnit) Q st:=by
 unfold wpS;rw[StateT.run_set];exact aW ⟨rfl,h⟩
def Pn(C:vH prog w A s o N f kd){l1:List<|Nat×Nat×Nat}{sa na nb pw pv:Nat}(h:Sg N f kd g (l1++(sa,na,pw)::(sa+na,nb,pv)::l2).toArray st)(ha:1<=na)(hb:1<=nb)(hN:sa+na+nb<=N)
  (c1:Cl g sa<|sa+na) (s1:So o g sa<|sa+na) (c2:Cl g (sa+na)<|sa+na+nb) (s2:So o g (sa+na)<|sa+na+nb)
  {Q:Bool->SortSt->Prop} (q:∀g' st',Sg N f kd g' (l1++(sa,na+nb,pw)::l2).toArray st'->Rn o g g' sa (sa+na+nb)->Q true st'):wpS (model prog w) A E s (mergeAt' l1.length) Q st:=by
 rw[AK];refine aT<|gb ?_;have e1:(pendingOf st)[l1.length]?=some (sa,na,pw):=by rw[h.pend];simp
 have e2:(pendingOf st)[l1.length+1]?=some (sa+na,nb,pv):=by rw[h.pend];simp
 have e3:((pendingOf st).setIfInBounds l1.length (sa,na+nb,pw)).eraseIdxIfInBounds (l1.length+1)=(l1++(sa,na+nb,pw)::l2).toArray:=by
  rw[h.pend,List.setIfInBounds_toArray,gq];congr 1;rw[cQ _ _<|aM _,c8,List.eraseIdx_append_of_length_le (),show l1.length+1-l1.length=1 by lia];rfl
 rw[e1,e2];dsimp only;rw[e3];refine aT<|KP ?_;have h':Sg N f kd g (l1++(sa,na+nb,pw)::l2).toArray (setPending st (l1++(sa,na+nb,pw)::l2).toArray):=⟨h.size,h.get,h.lt,h.kind,h.failed,rfl⟩;obtain⟨F,W⟩:∃F,F=setPending st (l1++(sa,na+nb,pw)::l2).toArray:=⟨_,rfl⟩;rw[<- W]at h' ⊢;refine aT<|jd (h.get (sa+na) ()) ?_;have b0:=c2 (sa+na) () ();refine aT (EA C h'.kind (h:=λi=>g<|sa+i) (λi hi=>h.get _ ()) (λi hi=>by have:=c1 (sa+i) () ();lia) () (λi j _ a b=>s1 _ _ () () ()) () λk k1 k2 k3=>?_);dsimp only;by_cases cz:na-k=0
 ·rw[aN<|by rw[cz];rfl];refine bg (q g F h' ⟨λ_ _=>rfl,λi a b=>?_,λi j a b c=>?_⟩)
  ·by_cases d:i<sa+na
   ·have:=c1 i a d;lia
   ·have:=c2 i () b;lia
  ·by_cases d:j<sa+na
   ·exact s1 i j a b d
   ·by_cases J:sa+na<=i
    ·exact s2 i j J b c
    ·have r:=k2 (i-sa) ();rw[show sa+(i-sa)=i by lia]at r;by_cases T:j=sa+na
     ·subst T;exact r
     ·exact r.trans<|s2 _ _ () () c
 ·rw[aO<|by simpa using cz];have P:sa+k+(na-k)-1=sa+na-1:=()
  rw[P];refine aT<|jd (h.get (sa+na-1) ()) ?_;have a0:=c1 (sa+na-1) () ();refine aT (E2 C h'.kind (h:=λi=>g<|sa+na+i) (λi hi=>h.get _ ()) (λi hi=>by have:=c2 (sa+na+i) () ();lia) (λi j _ a b=>s2 _ _ () () ()) () λt t1 t2 t3=>?_);dsimp only;by_cases cy:t=0
  ·rw[aN<|by rw[cy];rfl];subst cy;refine bg (q g F h' ⟨λ_ _=>rfl,λi a b=>?_,λi j a b c=>?_⟩)
   ·by_cases d:i<sa+na
    ·have:=c1 i a d;lia
    ·have:=c2 i () b;lia
   ·by_cases d:j<sa+na
    ·exact s1 i j a b d
    ·by_cases J:sa+na<=i
     ·exact s2 i j J b c
     ·have r:=t3 (j-(sa+na)) () ();rw[show sa+na+(j-(sa+na))=j by lia]at r;by_cases T:i=sa+na-1
      ·subst T;exact r
      ·exact(s1 i (sa+na-1) a () ()).trans r
  ·rw[aO<|by simpa using cy];have x1:(arrOf st).extract (sa+k) (sa+na)=fa f (seg g (sa+k)<|na-k):=by
    have:=Dq (f:=f) (g:=g) h.size h.get (a:=sa+k) (n:=na-k) ()
    rwa [show sa+k+(na-k)=sa+na by lia]at this
   have x2:(arrOf st).extract (sa+na) (sa+na+t)=fa f (seg g (sa+na) t):=Dq h.size h.get ();rw[x1,x2];have sx:So o g (sa+k) (sa+k+(na-k)):=λi j a b c=>s1 i j () b ();have sy:So o g (sa+na) (sa+na+t):=λi j a b c=>s2 i j a b ();have ab:Ab o N (seg g (sa+k)<|na-k) (seg g (sa+na) t):={
    sa:=EO sx
    sb:=EO sy
    lt:=λx U y hy=>by
     obtain⟨i,hi,rfl⟩:=nB U;obtain⟨j,M,rfl⟩:=nB hy;have:=c1 (sa+k+i) () ();have:=c2 (sa+na+j) () ()
     lia
    nb:=λy hy=>by
     obtain⟨j,M,rfl⟩:=nB hy;exact h.lt _ ()
    na:=λy hy=>by
     obtain⟨j,M,rfl⟩:=nB hy;exact h.lt _ ()}
   have tp:Top o (seg g (sa+k)<|na-k) (seg g (sa+na) t):=λi x U hi y hy=>by
    rw[lS]at hi;rw[oF ()]at U
    cases U
    obtain⟨j,M,rfl⟩:=nB hy;rw[show sa+k+i=sa+na-1 by lia];exact t2 j M
   have bt:P9 o (seg g (sa+k)<|na-k) (seg g (sa+na) t):=λy hy x U=>by
    rw[oF ()]at hy
    cases hy
    obtain⟨i,hi,rfl⟩:=nB U;have:=k3 (k+i) () ()
    rwa [<- g8]at this
   have fin:∀out B,Sm F B->Res o f (seg g (sa+k)<|na-k) (seg g (sa+na) t) out->wpS (model prog w) A E s (do
     modify λs=>setArr s (out.toList.zipIdx.foldl (λa (p,j)=>a.setIfInBounds (sa+k+j) p)<|arrOf s)
     let s <- get
     pure (failedOf s).isNone) Q B:=by
    rintro out B O ⟨hs,rfl,G,Z,V⟩;rw[lS,lS]at G;refine aT<|eV<|aT<|gb ?_;have hf:(failedOf B)=none:=by rw[O.f];exact h'.failed
    have L:∀j x,hs[j]?=some x->(∃i,i<na-k/\x=g (sa+k+i))\/∃i,i<t/\x=g (sa+na+i):=λj x e=>by
     rcases V x (aX e)with z|z
     ·exact .inl (nB z)
     ·exact .inr<|nB z
    have ez:(fa f hs).toList=hs.map f:=by unfold fa;rfl
    have Y:sa+k+0+(hs.map f).length<=(arrOf B).size:=by rw[aG,G,O.a,h'.size];lia
    refine bg ?_
    skip
    rw[hf];refine q (λi=>if sa+k<=i/\i<sa+k+(na-k+t)then hs.getD (i-(sa+k)) 0 else g i) _ ⟨?_,λi hi=>?_,λi hi=>?_,by rw[show kindOf (setArr B _)=kindOf B from rfl,O.k];exact h'.kind,hf,by rw[show pendingOf (setArr B _)=pendingOf B from rfl,O.p];exact h'.pend⟩ ?_
    ·have:=wA (sa+k) (fa f hs).toList 0<|arrOf B;rw[O.a,h'.size]at this;rw[<- this,<- O.a]
    ·skip
     rw[ez,zO _ _ _ _ _ Y,aG,G,O.a];by_cases d:sa+k<=i/\i<sa+k+(na-k+t)
     ·rw[aN (),aN d,aR,Nat.add_zero,getD_at (l:=hs) ()];rfl
     ·rw[aO (),aO d];exact h'.get i hi
    ·by_cases d:sa+k<=i/\i<sa+k+(na-k+t)
     ·rw[aN d]
      rcases L _ _ (getD_at (l:=hs) (i:=i-(sa+k)) ())with⟨j,M,e⟩|⟨j,M,e⟩
      ·rw[e];exact h.lt _ ()
      ·rw[e];exact h.lt _ ()
     ·rw[aO d];exact h.lt i hi
    ·have K:∀i,sa+k<=i->i<sa+na+t->(if sa+k<=i/\i<sa+k+(na-k+t)then hs.getD (i-(sa+k)) 0 else g i)=hs.getD (i-(sa+k)) 0:=λi a b=>aN ();have m:∀i,i<sa+k\/sa+na+t<=i->(if sa+k<=i/\i<sa+k+(na-k+t)then hs.getD (i-(sa+k)) 0 else g i)=g i:=λi a=>aO ();refine⟨λi hi=>m i (),λi a b=>?_,λi j a b c=>?_⟩
     ·by_cases d:sa+k<=i/\i<sa+na+t
      ·skip
       rw[K i d.1 d.2]
       rcases L _ _ (getD_at (l:=hs) (i:=i-(sa+k)) ())with⟨j,M,e⟩|⟨j,M,e⟩
       ·rw[e];have:=c1 (sa+k+j) () ();lia
       ·rw[e];have:=c2 (sa+na+j) () ();lia
      ·skip
       rw[m i ()];by_cases J:i<sa+na
       ·have:=c1 i a J;lia
       ·have:=c2 i () b;lia
     ·skip
      by_cases d1:i<sa+k
      ·rw[m i<|.inl d1];have r:=k2 (i-sa) ();rw[show sa+(i-sa)=i by lia]at r;by_cases J:j<sa+k
       ·rw[m j<|.inl J];exact s1 i j a b ()
       ·by_cases T:j<sa+na+t
        ·rw[K j () T]
         rcases L _ _ (getD_at (l:=hs) (i:=j-(sa+k)) ())with⟨v,hv,e⟩|⟨v,hv,e⟩
         ·rw[e];exact s1 _ _ a () ()
         ·rw[e];by_cases d4:v=0
          ·subst d4;exact r
          ·exact r.trans<|s2 _ _ () () ()
        ·rw[m j ()];exact r.trans<|s2 _ _ () () c
      ·by_cases J:i<sa+na+t
       ·rw[K i () J];by_cases T:j<sa+na+t
        ·rw[K j () T];exact pL Z (getD_at ()) (getD_at ()) ()
        ·rw[m j ()]
         rcases L _ _ (getD_at (l:=hs) (i:=i-(sa+k)) ())with⟨v,hv,e⟩|⟨v,hv,e⟩
         ·rw[e];have r:=t3 (j-(sa+na)) () ();rw[show sa+na+(j-(sa+na))=j by lia]at r;by_cases d4:sa+k+v=sa+na-1
          ·rw[d4];exact r
          ·exact(s1 _ (sa+na-1) () () ()).trans r
         ·rw[e];exact s2 _ _ () () c
       ·rw[m i (),m j ()];exact s2 i j () b c
   by_cases cl:na-k<=t
   ·rw[aN cl];exact aT (Qp C h'.kind ab tp (by rw[lS];lia) (oF ()) (bt _<|oF ()) fin)
   ·rw[aO cl];exact aT<|Qx C h'.kind ab tp bt (by rw[lS];lia) (by rw[lS];lia) fin
end
meta abbrev pr (x:Nat×Nat×Nat):Nat×Nat:=(x.1,x.2.1)
abbrev oO (o:Ord)(g:Nat->Nat):List (Nat×Nat)->Nat->Nat->Prop
 | [],a,b=>a=b
 | x::l,a,b=>x.1=a/\1<=x.2/\Cl g a (a+x.2)/\So o g a (a+x.2)/\oO o g l (a+x.2) b
abbrev PA (o:Ord)(g:Nat->Nat)(p:Array<|Nat×Nat×Nat)(b:Nat):Prop:=oO o g (p.toList.map pr) 0 b
section
variable {o:Ord}{g:Nat->Nat}
def oO.le:∀{l:List<|Nat×Nat}{a b:Nat},oO o g l a b->a+l.length<=b
 | [],a,b,h=>by have h:a=b:=h;rw[d8];lia
 | x::l,a,b,h=>by
  have:=h.2.2.2.2.le;have:=h.2.1;rw[bu];lia
def oO.congr{g':Nat->Nat}:∀{l:List<|Nat×Nat}{a b:Nat},oO o g l a b->(∀i,a<=i->i<b->g' i=g i)->oO o g' l a b
 | [],a,b,h,_=>h
 | x::l,a,b,h,e=>by
  have k:=h.2.2.2.2.le;refine⟨h.1,h.2.1,λi h1 d=>?_,λi j h1 d f=>?_,h.2.2.2.2.congr λi h1 d=>e i () d⟩
  ·rw[e i h1 ()];exact h.2.2.1 i h1 d
  ·rw[e i h1 (),e j () ()];exact h.2.2.2.1 i j h1 d f
theorem oO.app:∀{l m:List<|Nat×Nat}{a b:Nat},oO o g (l++m) a b ↔ ∃c,oO o g l a c/\oO o g m c b
 | [],m,a,b=>⟨λh=>⟨a,rfl,h⟩,λ⟨c,h1,d⟩=>by have h1:a=c:=h1;subst h1;exact d⟩
 | x::l,m,a,b=>by
  constructor
  ·rintro⟨h1,d,j,p,k⟩;obtain⟨c,f,q⟩:=oO.app.mp k;exact⟨c,⟨h1,d,j,p,f⟩,q⟩
  ·rintro⟨c,⟨h1,d,j,p,k⟩,f⟩;exact⟨h1,d,j,p,oO.app.mpr ⟨c,k,f⟩⟩
def MK{p:Array<|Nat×Nat×Nat}(h:i+1<p.size):∃l1 x y l2,p=(l1++x::y::l2).toArray/\l1.length=i:=by
 have h':i+1<p.toList.length:=h;refine⟨p.toList.take i,p.toList[i],p.toList[i+1],p.toList.drop<|i+2,?_,by rw[bG];lia⟩;apply Array.toList_inj.mp
 skip
 conv=>lhs;rw[<- cC i p.toList,a_<|show i<p.toList.length by lia,a_ h']
end
section
variable {prog:ah}{w:af}{A:au}{E:aa->az->Prop}{s:az}{o:Ord}{N:Nat}{f:Nat->Keyed}{kd:SortKind}{g:Nat->Nat}{p:Array (Nat×Nat×Nat)}{st:SortSt}
def AR(C:vH prog w A s o N f kd)(h:Sg N f kd g p st){lo:Nat}(hp:PA o g p lo)(hlo:lo<=N)(hi:i+1<p.size)
  {Q:Bool->SortSt->Prop} (q:∀g' p' st',Sg N f kd g' p' st'->PA o g' p' lo->p'.size+1=p.size->(∀k,lo<=k->g' k=g k)->Q true st'):wpS (model prog w) A E s (mergeAt' i) Q st:=by
 obtain⟨z,⟨d,na,pw⟩,⟨K,nb,pv⟩,j,rfl,rfl⟩:=MK hi;unfold PA at hp;rw[show(z++(d,na,pw)::(K,nb,pv)::j).toArray.toList=z++(d,na,pw)::(K,nb,pv)::j from rfl,bE]at hp;obtain⟨c,h1,O⟩:=oO.app.mp hp;obtain⟨e1,L,M,J,e2,F,B,G,rest⟩:=O;have e1:d=c:=e1;subst e1;have e2:K=d+na:=e2;subst e2;have m:=rest.le;have L:1<=na:=L;have F:1<=nb:=F;have m:d+na+nb<=lo:=by
  have:d+na+nb+(List.map pr j).length<=lo:=m
  lia
 refine Pn C h L F () M J B G λg' st' h' R=>q g' _ st' h' ?_ (by simp;lia) λk P=>R.out k ();unfold PA;rw[show(z++(d,na+nb,pw)::j).toArray.toList=z++(d,na+nb,pw)::j from rfl,bE];refine oO.app.mpr ⟨d,h1.congr λi a b=>R.out i (),rfl,by show 1<=na+nb;lia,?_,?_,?_⟩
 ·show Cl g' d (d+(na+nb));rw[<- g8];exact R.cl
 ·show So o g' d (d+(na+nb));rw[<- g8];exact R.so
 ·skip
  rw[<- g8];exact rest.congr λi a b=>R.out i<|.inr a
def wk{p:Array<|Nat×Nat×Nat}{lo:Nat}{u:Nat×Nat×Nat->Nat×Nat×Nat}(J:∀x,pr (u x)=pr x)(h:PA o g p lo):PA o g (p.modify i u) lo:=by
 unfold PA at h ⊢;have:(p.modify i u).toList.map pr=p.toList.map pr:=by
  rw[Array.toList_modify];apply gW;intro k;rw[aR,aR,List.getElem?_modify]
  cases p.toList[k]? with
  | none=>rfl
  | some x=>
   show some (pr<|if i=k then u x else x)=some (pr x);by_cases c:i=k
   ·rw[aN c,J x]
   ·rw[aO c]
 rw[this];exact h
def t8{p:Array<|Nat×Nat×Nat}{lo n v:Nat}(h:PA o g p lo)(hn:1<=n)(c:Cl g lo<|lo+n)(d:So o g lo<|lo+n):PA o g (p.push (lo,n,v)) (lo+n):=by
 unfold PA at h ⊢;rw[Array.toList_push,bE];exact oO.app.mpr ⟨lo,h,rfl,hn,c,d,rfl⟩
def Ks(C:vH prog w A s o N f kd)(h:Sg N f kd (λi=>i) #[] st)(hN:1<=N)
  {Q:Unit->SortSt->Prop} (q:∀g' p' st',Sg N f kd g' p' st'->Cl g' 0 N->So o g' 0 N->Q Unit.unit st'):wpS (model prog w) A E s sortRuns' Q st:=by
 rw[sortRuns'_eq];refine aT<|gb ?_;dsimp only;rw[h.size];refine aT (dP (cD
  (I:=λx c st'=>∃lo g p,c=(none,lo)/\lo<=N/\(x<=lo\/lo=N)/\Sg N f kd g p st'/\PA o g p lo/\(∀i,lo<=i->g i=i))
  (Q:=λc st'=>∃g p,c=(none,N)/\Sg N f kd g p st'/\PA o g p N) ?step ?fin ⟨0,_,_,rfl,bQ _,.inl<|aM _,h,rfl,λ_ _=>rfl⟩) ?post)
 case fin=>
  rintro c st' ⟨lo,g,p,rfl,h1,B,z,V,K⟩;have:lo=N:=()
  subst this;exact⟨g,p,rfl,z,V⟩
 case step=>
  intro x c st' _ hx J;revert J;revert c;refine T8 λlo g p J=>?_;have h1:=J.1;have B:=J.2.1;have z:=J.2.2.1;have V:=J.2.2.2.1;have K:=J.2.2.2.2;clear J;dsimp only;by_cases P:lo>=N
  ·rw[aN P];have:lo=N:=()
   subst this;exact bg ⟨g,p,rfl,z,V⟩
  ·rw[aO P];refine aT<|Gp C z () () (λi a b=>K i a) λm g1 st1 s1 m1 m2 R1=>?_;dsimp only;by_cases c2:m<minRun' N N 0
   ·rw[aN c2];ksr_p;refine aT<|N7 C s1 () m1 () R1 (λi a b=>K i ()) λg2 st2 s2 R2=>?_;rw[aO ⋯];have M:1<=min (N-lo) (minRun' N N 0):=()
    have W:lo+min (N-lo) (minRun' N N 0)<=N:=()
    refine aT<|gb ?_;rw[s2.pend];have G:=oO.congr V λi a b=>R2.out i (.inl b)
    cases e:p.back? with
    | none=>
     dsimp only;refine aT (eV<|bg ⟨_,_,_,rfl,W,(),s2.OI _,?_,λi hi=>by rw[R2.out i<|.inr hi,K i ()]⟩);rw[s2.pend];exact t8 G M R2.cl R2.so
    | some y=>
     obtain⟨y1,y2,y3⟩:=y;dsimp only;refine aT (dP (cD (I:=λ_ c st'=>c=(none,Unit.unit)/\∃g' p',Sg N f kd g' p' st'/\PA o g' p' lo/\(∀k,lo<=k->g' k=g2 k)) (Q:=λc st'=>c=(none,Unit.unit)/\∃g' p',Sg N f kd g' p' st'/\PA o g' p' lo/\(∀k,lo<=k->g' k=g2 k)) ?vstep (λ_ _ h=>h) ⟨rfl,_,_,s2,G,λ_ _=>rfl⟩) ?vpost)
     case vstep=>
      rintro x c st' _ hx ⟨rfl,g',p',h1,B,z⟩;refine aT<|gb ?_;rw[h1.pend];by_cases c:p'.size>1
      ·rw[aN c]
       cases e:p'[p'.size-2]? with
       | none=>exact bg ⟨rfl,g',p',h1,B,z⟩
       | some y=>
        obtain⟨y1,y2,y3⟩:=y;dsimp only;split
        ·exact bg ⟨rfl,g',p',h1,B,z⟩
        ·refine aT<|AR C h1 B () () λg3 p3 U T L _ Z=>?_;exact bg ⟨rfl,g3,p3,T,L,λk O=>by rw[Z k O,z k O]⟩
      ·rw[aO c];exact bg ⟨rfl,g',p',h1,B,z⟩
     case vpost=>
      rintro c st' ⟨rfl,g',p',h1,B,z⟩;dsimp only;refine aT (eV<|aT<|eV<|bg ⟨_,_,_,rfl,W,(),(h1.OI _).OI _,?_,λi hi=>by rw[z i (),R2.out i<|.inr hi,K i ()]⟩)
      skip
      rw[h1.pend];exact t8 (wk (λ_=>rfl) B) M (λi a b=>by rw[z i a];exact R2.cl i a b) λi j a b c=>by rw[z i a,z j ()];exact R2.so i j a b c
   ·rw[aO c2];have W:lo+m<=N:=()
    obtain⟨g2,hg2⟩:∃g2,g2=g1:=⟨_,rfl⟩;rw[<- hg2]at R1 s1;have R2:=R1;have s2:=s1;have M:=m1;refine aT<|gb ?_;rw[s2.pend];have G:=oO.congr V λi a b=>R2.out i (.inl b)
    cases e:p.back? with
    | none=>
     dsimp only;refine aT (eV<|bg ⟨_,_,_,rfl,W,(),s2.OI _,?_,λi hi=>by rw[R2.out i<|.inr hi,K i ()]⟩);rw[s2.pend];exact t8 G M R2.cl R2.so
    | some y=>
     obtain⟨y1,y2,y3⟩:=y;dsimp only;refine aT (dP (cD (I:=λ_ c st'=>c=(none,Unit.unit)/\∃g' p',Sg N f kd g' p' st'/\PA o g' p' lo/\(∀k,lo<=k->g' k=g2 k)) (Q:=λc st'=>c=(none,Unit.unit)/\∃g' p',Sg N f kd g' p' st'/\PA o g' p' lo/\(∀k,lo<=k->g' k=g2 k)) ?vstep (λ_ _ h=>h) ⟨rfl,_,_,s2,G,λ_ _=>rfl⟩) ?vpost)
     case vstep=>
      rintro x c st' _ hx ⟨rfl,g',p',h1,B,z⟩;refine aT<|gb ?_;rw[h1.pend];by_cases c:p'.size>1
      ·rw[aN c]
       cases e:p'[p'.size-2]? with
       | none=>exact bg ⟨rfl,g',p',h1,B,z⟩
       | some y=>
        obtain⟨y1,y2,y3⟩:=y;dsimp only;split
        ·exact bg ⟨rfl,g',p',h1,B,z⟩
        ·refine aT<|AR C h1 B () () λg3 p3 U T L _ Z=>?_;exact bg ⟨rfl,g3,p3,T,L,λk O=>by rw[Z k O,z k O]⟩
      ·rw[aO c];exact bg ⟨rfl,g',p',h1,B,z⟩
     case vpost=>
      rintro c st' ⟨rfl,g',p',h1,B,z⟩;dsimp only;refine aT (eV<|aT<|eV<|bg ⟨_,_,_,rfl,W,(),(h1.OI _).OI _,?_,λi hi=>by rw[z i (),R2.out i<|.inr hi,K i ()]⟩)
      skip
      rw[h1.pend];exact t8 (wk (λ_=>rfl) B) M (λi a b=>by rw[z i a];exact R2.cl i a b) λi j a b c=>by rw[z i a,z j ()];exact R2.so i j a b c
 case post=>
  rintro c st' ⟨g,p,rfl,h1,B⟩;dsimp only;refine aT (dP (cD
   (I:=λx c F=>c=(none,Unit.unit)/\∃g p,Sg N f kd g p F/\PA o g p N/\(p.size<=1\/p.size+x<=N))
   (Q:=λc F=>c=(none,Unit.unit)/\∃g p,Sg N f kd g p F/\PA o g p N/\p.size<=1) ?fstep ?ffin ⟨rfl,g,p,h1,B,.inr ?finit⟩) ?fpost)
  case finit=>
   have:=oO.le B;rw[aG]at this;show p.toList.length+0<=N
   lia
  case ffin=>
   rintro c F ⟨rfl,g,p,h1,B,z⟩;exact⟨rfl,g,p,h1,B,()⟩
  case fstep=>
   rintro x c F _ hx ⟨rfl,g,p,h1,B,z⟩;refine aT<|gb ?_;rw[h1.pend];by_cases c:p.size<=1
   ·rw[aN c];exact bg ⟨rfl,g,p,h1,B,c⟩
   ·rw[aO c];have il:∀(d:Prop) [Decidable d],(if d then p.size-2-1 else p.size-2)+1<p.size:=λd _=>by
     by_cases hd:d
     ·rw[aN hd];lia
     ·rw[aO hd];lia
    refine aT<|AR C h1 B (aM _) (il _) λg' p' U T L Z _=>?_;exact bg ⟨rfl,g',p',T,L,()⟩
  case fpost=>
   rintro c F ⟨rfl,g,p,h1,B,z⟩;dsimp only;refine bg ?_;unfold PA at B;have z:p.toList.length<=1:=z
   match hl:p.toList,z with
   | [],_=>
    rw[hl]at B;have:0=N:=B
    lia
   | [x],_=>
    rw[hl]at B;obtain⟨e1,e2,e3,Y,e5⟩:=B;have e5:0+x.2.1=N:=e5;have e3:Cl g 0 (0+x.2.1):=e3;have Y:So o g 0 (0+x.2.1):=Y;rw[e5]at e3 Y;exact q g p F h1 e3 Y
end
def Nu(N:Nat):RO N:=λd=>λC h q=>Ks C h () q
meta abbrev DQ (h:ak)(a:aj)(vs:ap):ak:=((h.update a<|Obj.mapSeq λ_=>#[]).push<|seqObj "tuple" vs.toArray 0).push<|seqObj "list" #[] 0
def JP{h:ak}{a:aj}(hb:b≠a)(J:b<h.objs.size):(DQ h a vs).get? b=h.get? b:=by
 rw[gc _ _ _<|by rw[size_push',gA];exact bK<|fh J,
  gc _ _ _ (by rw[gA];exact bK J),Heap.get?_update_ne _ _ _ _ hb]
meta abbrev vv (vs:ap)(i:Nat):Keyed:=(vs.getD i .none,vs.getD i .none)
def zip_get(vs:ap){i:Nat}(h:i<vs.length):(vs.toArray.zip vs.toArray)[i]?=some (vv vs i):=by
 have e:vs[i]?=some (vs.getD i .none):=by rw[aF,aE h];rfl
 rw[Array.getElem?_zip_eq_some];exact⟨by rw[e_];exact e,by rw[e_];exact e⟩
section
variable {prog:ah}{w:af}{A:au}{E:aa->az->Prop}{s:az}{o:Ord}{kd:SortKind}
def D5{a:aj}{vs:ap}{n:Nat}{P:PySem.Fin->az->Prop}(hL:s.heap.get? a=some (seqObj "list" vs.toArray n))(hsz:vs.length<=sizeLine)(ro:RO vs.length)
  (hkk:2<=vs.length->∀Q:SortKind->az->Prop,Q kd { s with heap:=DQ s.heap a vs }->wpAny (model prog w) A (keyKind' vs.toArray) Q E { s with heap:=DQ s.heap a vs })
  (C:2<=vs.length->vH prog w A { s with heap:=DQ s.heap a vs } o vs.length (vv vs) kd)
  (h:∀g,Cl g 0 vs.length->So o g 0 vs.length->P (.done<|.ret .none) { s with heap:=sortedHeap s.heap a vs ((List.range vs.length).map λi=>vs.getD (g i) .none).toArray }) :
  wpAny (model prog w) A (Builtin.«list.sort» ⟨[.ref a],[]⟩) P E s:=by
 rw[list_sort_plain];have z:a<s.heap.objs.size:=bq hL;refine aH<|listItems_at hL rfl ?_;refine aH (listUpdate_at hL rfl ?_ (by rw[aQ];exact hsz)<|bQ _);obtain⟨J,B⟩:∃J,(s.heap.update a<|Obj.mapSeq λ_=>#[]).get? a=some (seqObj "list" #[] J):=⟨_,get?_update_seq hL λ_=>#[]⟩;refine aH<|seqEpoch_at B rfl ?_;refine aH<|wpAny_newTuple ?_;refine aH<|wpAny_newList ?_;refine di ?_;have k:(DQ s.heap a vs).get? a=some (seqObj "list" #[] J):=by
  rw[gc _ _ _<|by rw[size_push',gA];exact bK<|fh z,gc _ _ _<|by rw[gA];exact bK z];exact B
 skip
 dsimp only;have K:vs.toArray.size=vs.length:=by simp
 have M:∀i,i<vs.length->vs[i]?=some (vs.getD i .none):=λi hi=>by rw[aF,aE hi];rfl
 have m:∀(arr:Array Keyed) (g:Nat->Nat),arr.size=vs.length->(∀i,i<vs.length->arr[i]?=some (vv vs<|g i))->arr.map (·.2)=((List.range vs.length).map λi=>vs.getD (g i) .none).toArray:=λarr g h1 two=>by
  apply Array.ext_getElem?;intro i;have e0:((List.range vs.length).map λi=>vs.getD (g i) Value.none).toArray[i]?=((List.range vs.length).map λi=>vs.getD (g i) Value.none)[i]?:=e_ ..;rw[Array.getElem?_map,e0,aR];by_cases c:i<vs.length
  ·rw[two i c,gM c];rfl
  ·rw[Array.getElem?_eq_none (),cP<|by rw[cF];lia];rfl
 by_cases two:vs.toArray.size<2
 ·rw[aN two,aN two];refine aH<|aW ?_;rw[StateT.run_pure];refine aH<|aW ?_;dsimp only;refine aH<|seqEpoch_at k rfl ?_;have G:=m (vs.toArray.zip vs.toArray) (λi=>i) (by rw[iE,K];lia) λi hi=>zip_get vs hi;refine aH (listUpdate_at k rfl ?_ (by simp) (hsz2:=by rw[size_map];show(vs.toArray.zip vs.toArray).size<=_;rw[iE,K];lia));dsimp[bne_self_eq_false,bO,cR];refine aW ?_;have:=h (λi=>i) (λi a b=>⟨a,b⟩) λi j a b c=>();rw[<- G]at this;exact this
 ·rw[aO two,aO two];have q:2<=vs.length:=()
  refine aH<|hkk q _ ?_;refine aH (fj (ro q (f:=vv vs) (st:=SortSt.mk' kd (vs.toArray.zip vs.toArray) #[] 7 none)
   (Q:=λ_ d=>∃g p,Sg vs.length (vv vs) kd g p d/\Cl g 0 vs.length/\So o g 0 vs.length)
   (C q) ⟨by show(vs.toArray.zip vs.toArray).size=_;rw[iE,K];lia,λi hi=>zip_get vs hi,λi hi=>hi,rfl,rfl,rfl⟩ λU T d V N O=>⟨U,T,V,N,O⟩) ?_ λ_ _ e=>e)
  rintro⟨⟨⟩,d⟩ s' ⟨rfl,g,p,F,hc,L⟩;dsimp only;refine aH<|seqEpoch_at k rfl ?_;have G:=m (arrOf d) g F.size F.get;refine aH (listUpdate_at k rfl ?_ (by simp) (hsz2:=by have W:(arrOf d).size=vs.length:=F.size;show((arrOf d).map (·.2)).size<=_;rw[size_map,W];lia));rw[F.failed];dsimp[bne_self_eq_false,bO,cR];have:=h g hc L;rw[<- G]at this;exact aW this
end
theorem oM:∀a:ae,HT.lexLt a a=false
 | []=>HT.nV
 | x::a=>by rw[HT.oB,aN rfl];exact oM a
theorem rz:∀{a b c:ae},HT.lexLt a b=true->HT.lexLt b c=true->HT.lexLt a c=true
 | [],[],_,h,_=>by rw[HT.nV]at h;cases h
 | x::a,[],_,h,_=>by rw[HT.mW]at h;cases h
 | _,y::b,[],_,h=>by rw[HT.mW]at h;cases h
 | [],y::b,z::c,_,_=>HT.kM ..
 | x::a,y::b,z::c,h1,h2=>by
  rw[HT.oB]at h1 h2 ⊢;by_cases e1:x=y
  ·rw[aN e1]at h1;by_cases e2:y=z
   ·rw[aN e2]at h2;rw[aN<|e1.trans e2];exact rz h1 h2
   ·rw[aO e2]at h2;have:=bZ h2;rw[aO<|by omega];exact bf<|by omega
  ·rw[aO e1]at h1;have d:=bZ h1;by_cases e2:y=z
   ·rw[aO<|by omega];exact bf (by omega)
   ·rw[aO e2]at h2;have:=bZ h2;rw[aO<|by omega];exact bf<|by omega
theorem qp:∀{a b:ae},HT.lexLt a b=false->HT.lexLt b a=false->a=b
 | [],[],_,_=>rfl
 | [],y::b,h,_=>by rw[HT.kM]at h;cases h
 | x::a,[],_,h=>by rw[HT.kM]at h;cases h
 | x::a,y::b,h1,h2=>by
  rw[HT.oB]at h1 h2;by_cases e:x=y
  ·rw[aN e]at h1;rw[aN e.symm]at h2;rw[e,qp h1 h2]
  ·rw[aO e]at h1;rw[aO λz=>e z.symm]at h2;have:=of_decide_eq_false h1;have:=of_decide_eq_false h2;omega
def BD{a:ae}(h:HT.lexLt a c=true):HT.lexLt a b=true\/HT.lexLt b c=true:=by
 cases e:HT.lexLt a b with
 | true=>exact .inl rfl
 | false=>
  right
  cases e2:HT.lexLt b a with
  | true=>exact rz e2 h
  | false=>rw[<- qp e e2];exact h
abbrev yR (kss:List<|ae):Ord where
 lt i j:=HT.lexLt (kss.getD i []) (kss.getD j [])
 Ji i:=oM _
 tr i j k:=rz
 neg i j k:=BD
section
variable {A:au}{E:aa->az->Prop}{s:az}
theorem C6{α β:Type}{f:α->Sem β}(r:α->β):∀(l:List α),(∀a∈l,∀Q:β->az->Prop,Q (r a) s->wpAny M A (f a) Q E s)->∀Q:List β->az->Prop,Q (l.map r) s->wpAny M A (l.mapM f) Q E s
 | [],_,Q,q=>by rw[List.mapM_nil];exact aW q
 | a::l,h,Q,q=>by
  rw[List.mapM_cons];refine aH<|h a (aK ..) _<|aH<|C6 r l (λb d=>h b<|aJ _ d) _<|aW q
def C8{α β:Type}{f:α->Sem β}(r:α->β)(l:List α)(h:∀a∈l,∀Q:β->az->Prop,Q (r a) s->wpAny M A (f a) Q E s)(Q:Array β->az->Prop)(q:Q (l.map r).toArray s):wpAny M A (l.toArray.mapM f) Q E s:=by
 rw[List.mapM_toArray,map_eq_pure_bind];exact aH<|C6 r l h _<|aW q
def FQ(u:aa):firstOfTuple' u=(do
  if (<- typeOf u) != .type "tuple" then return none
  return (<- Builtin.List.listItems u)[0]?):=rfl
end
end Sx
namespace L2
open PySem PySem.Spec PyProof.Rows
section
theorem vZ:∀{rs:ar}{its:ap},Vals (rs.map V.ref) its->its=rs.map Value.ref
 | [],_,r=>by cases r;rfl
 | a::rs,_,r=>by
  cases r with
  | cons h t=>
   have e:_=Value.ref a:=h;rw[e,vZ t];rfl
theorem we:∀(rs:ar),Vals (rs.map V.ref) (rs.map Value.ref)
 | []=>.nil
 | a::rs=>.cons (show RelV (.ref a) (.ref a)from rfl)<|we rs
end
end L2
namespace Sx
open PySem PyProof.Rows
open PySem.AutoSeq1 (wpAny_loadPart')
open PySem.MeetsSeq PySem.MeetsSeq2 PySem.MeetsSeq3
theorem qA:∀{xs:ap}{ns:ae}{i:Nat},IntsAre xs ns->i<ns.length->∃t,xs[i]?=some (.int (ns.getD i 0) t)
 | _,_,i,.nil,h=>absurd h (cK _)
 | _,_,0,.cons n t h,_=>⟨t,rfl⟩
 | _,_,i+1,.cons n t h,hi=>by
  obtain⟨d,e⟩:=qA h (i:=i) (by simpa using hi);exact⟨d,by simpa using e⟩
def Gs{ns J:ae}(h1:i<ns.length)(h2:i<J.length):HT.lexLt (ns.drop i) (J.drop i)=if ns.getD i 0=J.getD i 0 then HT.lexLt (ns.drop<|i+1) (J.drop<|i+1)else decide (ns.getD i 0<J.getD i 0):=by
 rw[a_ h1,a_ h2,HT.oB,aF,aE h1,aF,aE h2];rfl
def JH(l b:aj)(items items2:Array aa)(n n2:Nat)(dd dd2:Option aj)(sl sl2:Array<|aw)(ns ms:ae)(hi:IntsAre items.toList ns)(hj:IntsAre items2.toList ms)(k:Nat) :
  ∀i:Nat,ns.length-i=k->i<=ns.length->i<=ms.length->Meets (Builtin.«list.__eq__.loop» ⟨[.ref l,.ref b,rawInt i,rawInt 0],[]⟩)
   (λA R s=>s.heap.get? l=some { cls:=.type "list",dict:=dd,data:=.seq items n,slots:=sl }/\s.heap.get? b=some { cls:=.type "list",dict:=dd2,data:=.seq items2 n2,slots:=sl2 } /\
    R (.ok<|.ret<|.bool<|HT.lexLt (ns.drop i)<|ms.drop i) s):=by
 have K:items.size=ns.length:=by rw[<- hi.length];simp
 have O:items2.size=ms.length:=by rw[<- hj.length];simp
 have j:∀i,i<=ns.length->i<=ms.length->(i=ns.length\/i=ms.length)->Meets (Builtin.«list.__eq__.loop» ⟨[.ref l,.ref b,rawInt i,rawInt 0],[]⟩)
   (λA R s=>s.heap.get? l=some { cls:=.type "list",dict:=dd,data:=.seq items n,slots:=sl }/\s.heap.get? b=some { cls:=.type "list",dict:=dd2,data:=.seq items2 n2,slots:=sl2 } /\
    R (.ok<|.ret<|.bool<|HT.lexLt (ns.drop i)<|ms.drop i) s):=λi h1 z F=>by
  intro prog w A R s h;obtain⟨B,g,d,C,G⟩:=s;obtain⟨m,f,h⟩:=h;have hv:HT.lexLt (ns.drop i) (ms.drop i)=decide (items.size<items2.size):=by
   rw[K,O];by_cases c:i=ns.length
   ·rw[b_ ()];by_cases c2:i=ms.length
    ·rw[b_ (),HT.nV,aZ ()]
    ·rw[a_<|show i<ms.length by lia,HT.kM,bf ()]
   ·have c2:i=ms.length:=()
    rw[a_<|show i<ns.length by lia,b_<|show ms.length<=i by lia,HT.mW,aZ ()]
  rw[hv]at h
  wp_walk using b8 m,b8 f
  rcases F with F|F
  ·have e1:items[((i:Nat):Int).toNat]?=none:=by simp;lia
   rw[e1]
   wp_walk using b8 m,b8 f
   exact h
  ·have e1:items2[((i:Nat):Int).toNat]?=none:=by simp;lia
   rw[e1]
   cases items[((i:Nat):Int).toNat]? with
   | none=>
    wp_walk using b8 m,b8 f
    exact h
   | some y=>
    wp_walk using b8 m,b8 f
    exact h
 induction k with
 | zero=>exact λi N h1 z=>j i h1 z (.inl ())
 | succ k T=>
  intro i N h1 z;by_cases c:i=ms.length
  ·exact j i h1 z (.inr c)
  ·intro prog w A R s h;obtain⟨B,g,d,C,G⟩:=s;obtain⟨m,f,h⟩:=h;obtain⟨t,M⟩:=qA hi (i:=i) ();obtain⟨u,L⟩:=qA hj (i:=i) ();have e1:items[((i:Nat):Int).toNat]?=some (.int (ns.getD i 0) t):=by rw[f_,<- gv];exact M
   have e2:items2[((i:Nat):Int).toNat]?=some (.int (ms.getD i 0) u):=by rw[f_,<- gv];exact L
   rw[Gs () ()]at h
   wp_walk using b8 m,b8 f
   rw[e1,e2];obtain⟨e,P,p⟩:=HT.Fe A.in1 ⟨B,g,d,C,G⟩ (ns.getD i 0) t (ms.getD i 0) u;refine aH<|P prog w _ _ ?_;have hc:((i:Int)+1)=((i+1:Nat):Int):=by push_cast;rfl
   cases e with
   | true=>
    rw[aN<|p.mp rfl]at h
    wp_walk
    rw[hc];exact⟨plainId_quiet plain_eq_loop _,fQ entry_eq_loop (by
     rw[fm plain_eq_loop _];exact T (i+1) () () () prog w A R _ ⟨m,f,h⟩)⟩
   | false=>
    rw[aO λq=>absurd (p.mpr q) bN]at h
    wp_walk using b8 m,b8 f
    rw[e1,e2];have J:=HT.HW A.in1 ⟨B,g,d,C,G⟩ (ns.getD i 0) t (ms.getD i 0) u prog w
    wp_walk using J
    exact h
def xP(l b:aj)(items J:Array aa)(n n2:Nat)(dd dd2:Option aj)(sl sl2:Array<|aw)(ns ms:ae)(hi:IntsAre items.toList ns)(hj:IntsAre J.toList ms) :
  Meets (Builtin.«list.__lt__» ⟨[.ref l,.ref b],[]⟩)
   (λA R s=>s.heap.get? l=some { cls:=.type "list",dict:=dd,data:=.seq items n,slots:=sl }/\s.heap.get? b=some { cls:=.type "list",dict:=dd2,data:=.seq J n2,slots:=sl2 } /\
    R (.ok<|.ret<|.bool<|HT.lexLt ns ms) s):=by
 intro prog w A R s h;obtain⟨p,g,d,k,m⟩:=s;obtain⟨j,f,h⟩:=h;have f3:=AutoSeq1.sub_list_list
 wp_walk using b8 j,b8 f
 exact⟨plainId_quiet plain_eq_loop _,fQ entry_eq_loop (by
  rw[fm plain_eq_loop _];exact JH l b items J n n2 dd dd2 sl sl2 ns ms hi hj _ 0 rfl (bQ _) (bQ _) prog w A R _ ⟨j,f,h⟩)⟩
section
variable {prog:ah}{w:af}{A:au}{E:aa->az->Prop}{s:az}
def I_{k:aj}{xs ys:Array aa}{ns:ae}{Q:Bool->az->Prop}(J:s.heap.IsList l xs)(hk:s.heap.IsList k ys)(hi:IntsAre xs.toList ns)(hj:IntsAre ys.toList ms)(hu:A.units<cLine)(h:Q (HT.lexLt ns ms) s) :
  wpAny (model prog w) A (keyLt' oneType' (.ref l)<|.ref k) Q E s:=by
 rw[keyLt'_oneType,oneLt'_eq];dsimp[cU];obtain⟨⟨cls,dd,data,B⟩,g,hc,n,hd⟩:=id J;obtain⟨⟨z,q,j,p⟩,m,d,C,f⟩:=id hk;simp only at hc hd d f;subst hc hd d f;refine aH<|wpAny_cRoomFor hu ?_;refine aH<|wpAny_callSpecialIfBound?_slot (T := "list") (id := "list.__lt__") ⟨_,g,rfl⟩ PySem.F.slot_list_lt<|fR PySem.F.slot_list_lt ⟨_,g,rfl⟩ PySem.F.entry_list_lt (PySem.F.args_list_lt_2 _ _) (xP l k xs ys n C dd q B p ns ms hi hj) ⟨g,m,?_⟩;exact dH h
def Ay{v:aa}(e:v=.ref l)(h:s.heap.IsList l xs){Q:aw->az->Prop}(q:Q none s):wpAny (model prog w) A (firstOfTuple' v) Q E s:=by
 subst e;obtain⟨o,d,hc,n,hd⟩:=h;rw[FQ];refine aH<|gO (T := "list") ⟨o,d,hc⟩ ?_;rw[aN ⋯];exact aW q
def A5{vs:ap}(h0:vs≠[])(J:∀v∈vs,∃(l:aj) (xs:Array aa),v=.ref l/\s.heap.IsList l xs){Q:SortKind->az->Prop}(q:Q oneType' s) :
  wpAny (model prog w) A (keyKind' vs.toArray) Q E s:=by
 rw[keyKind'_eq];obtain⟨f,d,rfl⟩:∃f d,vs=f::d:=by
  cases vs with
  | nil=>exact absurd rfl h0
  | cons a b=>exact⟨a,b,rfl⟩
 refine aH (C8 (λ_=>(none:aw)) (f::d) (λv hv m g=>?_) _ ?_)
 ·obtain⟨l,xs,e,h⟩:=J v hv;exact Ay e h g
 ·rw[aO<|by simp,aO<|by simp,oneTypeOnly'_eq];refine aH (aH<|C8 (λ_=>Value.type "list") _ (λv hv m g=>?_) _ ?_)
  ·obtain⟨l,xs,rfl,o,k,hc,_⟩:=J v hv;exact gO (T := "list") ⟨o,k,hc⟩ g
  ·have p:((List.map (λ_=>Value.type "list") (f::d)).toArray.all λx=>x == Value.type "list")=true:=by
    rw[List.all_toArray,all_map,ig];intro _ _;rfl
   have j:(List.map (λ_=>Value.type "list") (f::d)).toArray[0]?=some (Value.type "list"):=by simp
   rw[j];dsimp[p,cU];exact aW<|aW q
end
end Sx
namespace L2
open PySem PySem.Spec PyProof.Rows
section
variable {X:Cx}
def xS(hu:X.A.units+64<cLine):jo X (.builtin "sorted") (λxs H Q=>∃(p:aj) (rs:ar) (kss:List<|ae),xs=[.ref p]/\kJ X.K H p (rs.map V.ref)/\Sx.RO kss.length/\rs.length=kss.length /\
  (∀(i:Nat) (r:aj) (ks:ae),rs[i]?=some r->kss[i]?=some ks->kJ X.K H r (ks.map V.int)) /\
  ∀l g,H l=none->Sx.Cl g 0 kss.length->Sx.So (Sx.yR kss) g 0 kss.length->Q (.ref l) (upd H l<|.lst<|((List.range kss.length).map λi=>rs.getD (g i) 0).map V.ref)):=by
 intro pins s σ H xs us Q I rr h;obtain⟨p,rs,kss,rfl,hq,ro,B,hT,q⟩:=h;obtain⟨u,rfl,rx⟩:=vals1 rr
 cases rx
 obtain⟨d,F,O,hz⟩:=I.list hq;have Z:=vZ F;subst Z;obtain⟨o,C,M,n,hd⟩:=O.isList;rw[aG]at hz;have k:(rs.map Value.ref).length=kss.length:=by rw[aG,B]
 refine Calls.call_function_entry kind_sorted plain_sorted entry_sorted (args_sorted1 _) ?_;unfold Builtin.«sorted»;refine aH (m:=checkCount "sorted" 1 1 _)<|aW ?_;refine aH (wpAny_collect_seq p (.inl rfl) C M hd (λh' hk=>?_)<|by rw[aQ,k];lia);refine aH<|wpAny_newList ?_;have f:(h'.push<|seqObj "list" (rs.map Value.ref).toArray 0).get? h'.objs.size=some (seqObj "list" (rs.map Value.ref).toArray 0):=bI _ rfl
 skip
 have I1:Inv X pins σ H { s with heap:=h' }:=I.kept (t':=s.toks) hk;have lst:∀(i:Nat) (r:aj) (ks:ae),rs[i]?=some r->kss[i]?=some ks->∃d:ap,IntsAre d ks/\(Sx.DQ (h'.push<|seqObj "list" (rs.map Value.ref).toArray 0) h'.objs.size<|rs.map Value.ref).IsList r d.toArray:=λi r ks e1 e2=>by
  obtain⟨d,F,O,_⟩:=I1.list<|hT i r ks e1 e2;obtain⟨o,C,hc,n,hd⟩:=O.isList;refine⟨d,intsAre_of F,o,?_,hc,n,hd⟩;have lt:r<h'.objs.size:=bq C;rw[Sx.JP (bK lt)<|by rw[dX];exact fh lt];exact aS _ C
 refine aH (di<|dU slot_list_sort ⟨_,f,rfl⟩ entry_list_sort (Sx.D5 (o:=Sx.yR kss) (kd:=oneType') f (by rw[k];lia) (by rw[k];exact ro) (λJ W N=>?_) (λJ i j hi U E' W N=>?_) λg hc hs=>⟨_,rfl,?_⟩)<|args_list_sort _)
 ·refine Sx.A5 (λz=>by rw[z]at J;simp at J) (λv hv=>?_) N;obtain⟨i,hi⟩:=fy hv;rw[aR]at hi;obtain⟨r,T,rfl⟩:=bC.mp hi;have lt:=(aI.mp T).1;obtain⟨d,_,h3⟩:=lst i r _ T (aE<|show i<kss.length by lia);exact⟨r,_,rfl,h3⟩
 ·rw[k]at hi U;have e1:rs[i]?=some (rs[i]'()):=aE _;have e2:rs[j]?=some (rs[j]'()):=aE _;have Y:kss[i]?=some kss[i]:=aE hi;have P:kss[j]?=some kss[j]:=aE U;obtain⟨x1,a1,b1⟩:=lst i _ _ e1 Y;obtain⟨x2,a2,b2⟩:=lst j _ _ e2 P;have v1:(rs.map Value.ref).getD i .none=.ref (rs[i]'()):=by rw[aF,aR,e1];rfl
  have v2:(rs.map Value.ref).getD j .none=.ref (rs[j]'()):=by rw[aF,aR,e2];rfl
  show wpAny _ _ (keyLt' oneType' ((rs.map Value.ref).getD i .none)<|(rs.map Value.ref).getD j .none) W E' _;rw[v1,v2];refine Sx.I_ b1 b2 a1 a2 (by show X.A.units+1+1<_;lia) ?_;have d1:kss.getD i []=kss[i]:=by rw[aF,Y];rfl
  have d2:kss.getD j []=kss[j]:=by rw[aF,P];rfl
  have:(Sx.yR kss).lt i j=HT.lexLt kss[i] kss[j]:=by show HT.lexLt _ _=_;rw[d1,d2]
  rw[<- this];exact N
 ·rw[k]at hc hs ⊢;obtain⟨e,he⟩:=sortedHeap_at (out:=((List.range kss.length).map λi=>(rs.map Value.ref).getD (g i) .none).toArray) f;have old:∀b L,h'.get? b=some L->(sortedHeap (h'.push<|seqObj "list" (rs.map Value.ref).toArray 0) h'.objs.size (rs.map Value.ref) ((List.range kss.length).map λi=>(rs.map Value.ref).getD (g i) .none).toArray).get? b=some L:=λb L G=>by
   rw[sortedHeap_old (bK<|bq G)<|by rw[dX];exact fh<|bq G];exact aS _ G
  refine aW ⟨_,rfl,.ref h'.objs.size,_,I1.laid (t':=s.toks) (o:=.lst<|((List.range kss.length).map λi=>rs.getD (g i) 0).map V.ref) old (aM _) ?_,rfl,q _ g (I1.hok.fresh<|aM _) hc hs⟩;refine⟨by rw[aG,aG,cF];lia,((List.range kss.length).map λi=>rs.getD (g i) 0).map Value.ref,e,we _,?_⟩;rw[he];congr 2;rw[cX];congr 1;refine eG λi hi=>?_;have:=(hc i (bQ _)<|bW.mp hi).2;have lt:g i<rs.length:=()
  show(rs.map Value.ref).getD (g i) .none=Value.ref (rs.getD (g i) 0);rw[aF,aR,aE lt,aF,aE lt];rfl
end
end L2
namespace Am
open PySem
inductive A where
 | unb|non|bl (b:Bool)|int (i:Int)|str (x:Str)|tup (xs:List A)|frz (xs:List A)|rng (lo hi:Int)|ref (n:Nat)|exn (c:Str)|ty (n:String)|ktu (xs:List A)
@[reducible]def ad:=List A
inductive O where
 | lst (xs:ad)|dct (kvs:List<|ae×A)|dki (kvs:List<|Int×A)|dks (kvs:List<|Str×A)|dcp (kvs:List<|L2.Et×A)|dcf (kvs:List<|ae×A)|dkf (kvs:List<|Int×A)|ins (c:Str) (fs:List<|Str×A)
meta abbrev iK:=List O
inductive R (α:Type) where
 | ok (a:α) (S:iK)|ex (c:Str) (S:iK)|no
abbrev R.bind {α β:Type}(r:R α)(f:α->iK->R β):R β:=match r with
 | .ok a S=>f a S
 | .ex c S=>.ex c S
 | .no=>.no
abbrev R.post {α:Type}(r:R α)(P:α->iK->Prop)(E:Str->iK->Prop):Prop:=match r with
 | .ok a S=>P a S
 | .ex c S=>E c S
 | .no=>False
def iP{α β:Type}{r:R α}{f:α->iK->R β}{P:β->iK->Prop}{E:Str->iK->Prop}(h:(r.bind f).post P E):r.post (λa S=>(f a S).post P E) E:=by
 cases r<;>exact h
def Ei{α:Type}{r:R α}{P J:α->iK->Prop}{E E':Str->iK->Prop}(h:r.post P E)(hp:∀a S,P a S->J a S)(he:∀c S,E c S->E' c S):r.post J E':=by
 cases r with
 | ok a S=>exact hp _ _ h
 | ex c S=>exact he _ _ h
 | no=>exact h.elim
abbrev gd {α:Type}(c:Prop)[Decidable c](r:R α):R α:=if c then r else .no
abbrev opt {α β:Type}(o:Option β)(f:β->R α):R α:=match o with
 | some b=>f b
 | none=>.no
def i8{α:Type}{c:Prop}[Decidable c]{r:R α}{P:α->iK->Prop}{E:Str->iK->Prop}(h:(gd c r).post P E):c/\r.post P E:=by
 unfold gd at h;by_cases hc:c
 ·rw[aN hc]at h;exact⟨hc,h⟩
 ·rw[aO hc]at h;exact h.elim
def iT{α β:Type}{o:Option β}{f:β->R α}{P:α->iK->Prop}{E:Str->iK->Prop}(h:(opt o f).post P E):∃b,o=some b/\(f b).post P E:=by
 cases o with
 | none=>exact h.elim
 | some b=>exact⟨b,rfl,h⟩
def RN{α:Type}{c:Prop}[Decidable c]{r:R α}(h:c):gd c r=r:=aN h
abbrev iI (S:iK)(n:Nat):Option (ad):=match S[n]? with
 | some (.lst xs)=>some xs
 | _=>none
def iS{n:Nat}(h:iI S n=some xs):S[n]?=some (.lst xs):=by
 unfold iI at h;split at h
 ·rename_i e;cases h;exact e
 ·cases h
def ou{S:iK}{n:Nat}(h:S[n]?=some (.lst xs)):iI S n=some xs:=by
 unfold iI;rw[h]
inductive RS where
 | nx (τ:ad) (S:iK)|rt (a:A) (S:iK)|bk (τ:ad) (S:iK)|ct (τ:ad) (S:iK)|ex (c:Str) (S:iK)|no
meta abbrev Ex:=ad->iK->R A
meta abbrev oX:=ad->iK->R (ad)
meta abbrev Te:=ad->iK->R Bool
meta abbrev Sm:=ad->iK->RS
meta abbrev Tg:=A->ad->iK->R (ad)
end Am
namespace Am
open PySem L2
section
variable (K:aq) (ρ:ar) (H:Hp)
abbrev SN (K:aq)(c:Str)(C:aj):Prop:=PySem.W.nsIn K mainGlobals c=some (some<|.ref C)
abbrev Fz (K:aq)(H:Hp)(a:aj)(vs:List V):Prop:=
 (∃o,H a=some (.frz o<|.lst vs))\/∃(o:Obj) (d:Array aa) (n:Nat),K.lookup a=some o/\o.cls=.type "list" /\ o.dict=none/\o.data=.seq d n/\d.size<=sizeLine/\Vals vs d.toList
abbrev Ua (K:aq)(a:aj)(vs:List V):Prop:=∃(o:Obj) (d:Array aa) (n:Nat),K.lookup a=some o/\o.cls=.type "tuple" /\ o.dict=none/\o.data=.seq d n/\d.size<=sizeLine/\Vals vs d.toList
mutual
inductive AV:A->V->Prop
 | non:AV .non .non
 | bl (b:Bool):AV (.bl b) (.bl b)
 | int (i:Int):AV (.int i) (.int i)
 | str (x:Str):AV (.str x) (.str x)
 | ty (n:String):AV (.ty n) (.ty n)
 | tup {a:aj} {xs:ad} {vs:List V} (h:H a=some (.tup vs)) (r:AVs xs vs):AV (.tup xs) (.ref a)
 | frz {a:aj} {xs:ad} {vs:List V} (h:Fz K H a vs) (r:AVs xs vs):AV (.frz xs) (.ref a)
 | rng {a:aj} {lo hi:Int} (h:H a=some (.rng lo hi)):AV (.rng lo hi) (.ref a)
 | ref {a:aj} {n:Nat} (h:ρ[n]?=some a):AV (.ref n) (.ref a)
 | exn {a C:aj} {c:Str} {oe:Obj} (n:SN K c C) (h:H a=some (.frz oe xu)) (x:XO C oe):AV (.exn c) (.ref a)
 | ktu {a:aj} {xs:ad} {vs:List V} (h:Ua K a vs) (r:AVs xs vs):AV (.ktu xs)<|.ref a
inductive AVs:ad->List V->Prop
 | nil:AVs [] []
 | cons {x:A} {v:V} {xs:ad} {vs:List V} (h:AV x v) (t:AVs xs vs):AVs (x::xs) (v::vs)
end
abbrev DV:List (ae×A)->List (List Key×V)->Prop
 | [],[]=>True
 | p::r,q::r'=>(q.1=p.1.map Sum.inl/\AV K ρ H p.2 q.2)/\DV r r'
 | _,_=>False
abbrev DI:List (Int×A)->List (Key×V)->Prop
 | [],[]=>True
 | p::r,q::r'=>(q.1=Sum.inl p.1/\AV K ρ H p.2 q.2)/\DI r r'
 | _,_=>False
abbrev DS:List (Str×A)->List (Key×V)->Prop
 | [],[]=>True
 | p::r,q::r'=>(q.1=Sum.inr p.1/\AV K ρ H p.2 q.2)/\DS r r'
 | _,_=>False
abbrev DP:List (L2.Et×A)->List (L2.Et×aj×aa)->Prop
 | [],[]=>True
 | p::r,q::r'=>(q.1=p.1/\L2.yO H q.2.1 q.1/\∃v,RelV v q.2.2/\AV K ρ H p.2 v)/\DP r r'
 | _,_=>False
abbrev OR (a:aj):O->Prop
 | .lst xs=>∃f,H a=some (.lst f)/\AVs K ρ H xs f
 | .dct d=>∃ks,H a=some (.dT ks)/\DV K ρ H d ks
 | .dki d=>∃ks,H a=some (.dK ks)/\DI K ρ H d ks
 | .dks d=>∃ks,H a=some (.dK ks)/\DS K ρ H d ks
 | .dcp d=>∃xs,H a=some (.ext<|L2.RE a xs)/\DP K ρ H d xs
 | .dcf d=>∃o ks,H a=some (.frz o<|.dT ks)/\DV K ρ H d ks
 | .dkf d=>∃o ks,H a=some (.frz o<|.dK ks)/\DI K ρ H d ks
 | .ins _ _=>∃o u,H a=some (.frz o u)
structure Rel (S:iK):Prop where
 len:ρ.length=S.length
 nd:ρ.Nodup
 «at»:∀(n:Nat) (a:aj) (o:O),ρ[n]?=some a->S[n]?=some o->OR K ρ H a o
end
abbrev TQ:HO->Prop
 | .tup _=>True
 | .rng _ _=>True
 | .frz _ _=>True
 | _=>False
structure Ext0 (ρ ρ':ar)(H H':Hp):Prop where
 pre:ρ <+: ρ'
 im:∀a u,TQ u->H a=some u->H' a=some u
structure Ext (ρ ρ':ar)(H H':Hp):Prop extends Ext0 ρ ρ' H H' where
 fr:∀a u,H a=some u->a∉ρ->H' a=some u
 nw:∀a,a∈ρ'->a∈ρ\/H a=none
def Ext.refl{H:Hp}:Ext ρ ρ H H:=⟨⟨eK _,λ_ _ _ h=>h⟩,λ_ _ h _=>h,λ_ h=>.inl h⟩
def Ext.trans{H H1 H2:Hp}(a:Ext ρ ρ1 H H1)(b:Ext ρ1 ρ2 H1 H2):Ext ρ ρ2 H H2:=⟨⟨a.pre.trans b.pre,λx u i h=>b.im x u i<|a.im x u i h⟩,λx u h n=>b.fr x u (a.fr x u h n) λz=>(a.nw x z).elim n λz=>by(rw[z]at h;cases h),λx h=>by
 by_cases d:x∈ρ
 ·exact .inl d
 ·right
  cases q:H x with
  | none=>rfl
  | some u=>
   rcases b.nw x h with z|z
   ·exact((a.nw x z).elim d λz=>by(rw[z]at q;cases q)).elim
   ·rw[a.fr x u q d]at z;cases z⟩
def Ext0.get{H H':Hp}(e:Ext0 ρ ρ' H H'){n:Nat}{a:aj}(h:ρ[n]?=some a):ρ'[n]?=some a:=by
 obtain⟨t,rfl⟩:=e.pre;rw[bw (aI.mp h).1];exact h
section
variable {K:aq}{ρ ρ':ar}{H H':Hp}
def Ext0.SI(e:Ext0 ρ ρ' H H'){a:aj}(h:mZ K H a vs):mZ K H' a vs:=by
 rcases h with(h|⟨o,h⟩)|h
 ·exact .inl (.inl<|e.im _ _ trivial h)
 ·exact .inl (.inr ⟨o,e.im _ _ trivial h⟩)
 ·exact .inr h
def Ext0.fz(e:Ext0 ρ ρ' H H'){a:aj}(h:Fz K H a vs):Fz K H' a vs:=by
 rcases h with⟨o,h⟩|h
 ·exact .inl ⟨o,e.im _ _ trivial h⟩
 ·exact .inr h
def Fz.Jh{a:aj}(h:Fz K H a vs):kJ K H a vs:=by
 rcases h with⟨o,h⟩|h
 ·exact .inl (.inr ⟨o,h⟩)
 ·exact .inr h
mutual
theorem AV.jF(e:Ext0 ρ ρ' H H'):∀{x:A}{v:V},AV K ρ H x v->AV K ρ' H' x v
 | _,_,.non=>.non
 | _,_,.bl b=>.bl b
 | _,_,.int i=>.int i
 | _,_,.str x=>.str x
 | _,_,.ty x=>.ty x
 | _,_,.tup h r=>.tup (e.im _ _ trivial h) (AVs.jF e r)
 | _,_,.frz h r=>.frz (e.fz h) (AVs.jF e r)
 | _,_,.rng h=>.rng (e.im _ _ trivial h)
 | _,_,.ref h=>.ref (e.get h)
 | _,_,.exn n h x=>.exn n (e.im _ _ trivial h) x
 | _,_,.ktu h r=>.ktu h<|AVs.jF e r
theorem AVs.jF(e:Ext0 ρ ρ' H H'):∀{xs:ad}{vs:List V},AVs K ρ H xs vs->AVs K ρ' H' xs vs
 | _,_,.nil=>.nil
 | _,_,.cons h t=>.cons (AV.jF e h)<|AVs.jF e t
end
theorem DV.jF(e:Ext0 ρ ρ' H H'):∀{xs:List<|ae×A}{vs:List<|List Key×V},DV K ρ H xs vs->DV K ρ' H' xs vs
 | [],[],_=>trivial
 | _::_,_::_,⟨⟨a,b⟩,r⟩=>⟨⟨a,AV.jF e b⟩,DV.jF e r⟩
def DV.ext{x:List<|ae×A}{v:List<|List Key×V}(h:DV K ρ H x v)(e:Ext ρ ρ' H H'):DV K ρ' H' x v:=DV.jF e.toExt0 h
theorem DI.jF(e:Ext0 ρ ρ' H H'):∀{xs:List<|Int×A}{vs:List<|Key×V},DI K ρ H xs vs->DI K ρ' H' xs vs
 | [],[],_=>trivial
 | _::_,_::_,⟨⟨a,b⟩,r⟩=>⟨⟨a,AV.jF e b⟩,DI.jF e r⟩
def DI.ext{x:List<|Int×A}{v:List<|Key×V}(h:DI K ρ H x v)(e:Ext ρ ρ' H H'):DI K ρ' H' x v:=DI.jF e.toExt0 h
theorem DS.jF(e:Ext0 ρ ρ' H H'):∀{xs:List<|Str×A}{vs:List<|Key×V},DS K ρ H xs vs->DS K ρ' H' xs vs
 | [],[],_=>trivial
 | _::_,_::_,⟨⟨a,b⟩,r⟩=>⟨⟨a,AV.jF e b⟩,DS.jF e r⟩
def DS.ext{x:List<|Str×A}{v:List<|Key×V}(h:DS K ρ H x v)(e:Ext ρ ρ' H H'):DS K ρ' H' x v:=DS.jF e.toExt0 h
def yO.jF{k:L2.Et}(e:Ext0 ρ ρ' H H'):L2.yO H b k->L2.yO H' b k:=λ⟨r1,r2,h1,f,d⟩=>⟨r1,r2,e.im _ _ trivial h1,e.im _ _ trivial f,e.im _ _ trivial d⟩
theorem DP.jF(e:Ext0 ρ ρ' H H'):∀{xs:List<|L2.Et×A}{vs:List<|L2.Et×aj×aa},DP K ρ H xs vs->DP K ρ' H' xs vs
 | [],[],_=>trivial
 | _::_,_::_,⟨⟨a,k,v,c,b⟩,r⟩=>⟨⟨a,yO.jF e k,v,c,AV.jF e b⟩,DP.jF e r⟩
def DP.ext{x:List<|L2.Et×A}{v:List<|L2.Et×aj×aa}(h:DP K ρ H x v)(e:Ext ρ ρ' H H'):DP K ρ' H' x v:=DP.jF e.toExt0 h
def AV.ext{x:A}{v:V}(h:AV K ρ H x v)(e:Ext ρ ρ' H H'):AV K ρ' H' x v:=AV.jF e.toExt0 h
def AVs.ext{x:ad}{v:List V}(h:AVs K ρ H x v)(e:Ext ρ ρ' H H'):AVs K ρ' H' x v:=AVs.jF e.toExt0 h
theorem AVs.length:∀{xs:ad}{vs:List V},AVs K ρ H xs vs->xs.length=vs.length
 | _,_,.nil=>rfl
 | _,_,.cons _ t=>d9 (·+1)<|AVs.length t
theorem AVs.append:∀{xs ys:ad}{vs ws:List V},AVs K ρ H xs vs->AVs K ρ H ys ws->AVs K ρ H (xs++ys) (vs++ws)
 | _,_,_,_,.nil,s=>s
 | _,_,_,_,.cons h t,s=>.cons h<|AVs.append t s
theorem AVs.take:∀{xs:ad}{vs:List V}(n:Nat),AVs K ρ H xs vs->AVs K ρ H (xs.take n) (vs.take n)
 | _,_,0,_=>.nil
 | _,_,_+1,.nil=>.nil
 | _,_,n+1,.cons h t=>.cons h<|AVs.take n t
theorem AVs.drop:∀{xs:ad}{vs:List V}(n:Nat),AVs K ρ H xs vs->AVs K ρ H (xs.drop n) (vs.drop n)
 | _,_,0,r=>r
 | _,_,_+1,.nil=>.nil
 | _,_,n+1,.cons _ t=>AVs.drop n t
theorem AVs.get:∀{xs:ad}{vs:List V}{i:Nat}{x:A},AVs K ρ H xs vs->xs[i]?=some x->∃v,vs[i]?=some v/\AV K ρ H x v
 | _,_,_,_,.nil,e=>by simp at e
 | _,_,0,_,.cons h _,e=>by simp at e;subst e;exact⟨_,rfl,h⟩
 | _,_,i+1,x,.cons _ t,e=>by
  obtain⟨u,h1,d⟩:=AVs.get (i:=i) (x:=x) t (by simpa using e);exact⟨u,by simpa using h1,d⟩
theorem AVs.set{x:A}{v:V}(h:AV K ρ H x v):∀{xs:ad}{vs:List V}(i:Nat),AVs K ρ H xs vs->AVs K ρ H (xs.set i x) (vs.set i v)
 | _,_,_,.nil=>.nil
 | _,_,0,.cons _ t=>.cons h t
 | _,_,i+1,.cons q t=>.cons q<|AVs.set h i t
def AVs.one{x:A}{v:V}(h:AV K ρ H x v):AVs K ρ H [x] [v]:=.cons h .nil
theorem AVs.eraseIdx:∀{xs:ad}{vs:List V}(i:Nat),AVs K ρ H xs vs->AVs K ρ H (xs.eraseIdx i) (vs.eraseIdx i)
 | _,_,_,.nil=>.nil
 | _,_,0,.cons _ t=>t
 | _,_,i+1,.cons q t=>.cons q<|AVs.eraseIdx i t
theorem pC:∀(ns:ae),AVs K ρ H (ns.map .int) (ns.map .int)
 | []=>.nil
 | n::ns=>.cons (.int n)<|pC ns
def Rel.lay{S:iK}{p:aj}(R:Rel K ρ H S)(J:H p=none)(r:AVs K ρ H xs vs):Ext ρ (ρ++[p]) H (upd H p<|.lst vs)/\Rel K (ρ++[p]) (upd H p<|.lst vs) (S++[.lst xs])/\(ρ++[p])[S.length]?=some p:=by
 have ex:Ext ρ (ρ++[p]) H (upd H p<|.lst vs):=⟨⟨fS _ _,λa u _ h=>by rw[iV<|i7 h J];exact h⟩,λa u h _=>by rw[iV<|i7 h J];exact h,λa h=>by
  rcases aV.mp h with z|z
  ·exact .inl z
  ·have e:a=p:=by simpa using z
   rw[e];exact .inr J⟩
 have j:∀(n:Nat) (a:aj),ρ[n]?=some a->a≠p:=by
  intro n a e z;subst z;have hn:n<S.length:=by rw[<- R.len];exact(aI.mp e).1
  have:=R.at n a S[n] e (aE hn)
  cases k:S[n]with
  | lst xs=>rw[k]at this;obtain⟨vs,h,_⟩:=this;rw[J]at h;cases h
  | dct _|dki _|dks _|dcp _=>rw[k]at this;obtain⟨vs,h,_⟩:=this;rw[J]at h;cases h
  | dcf _|dkf _=>rw[k]at this;obtain⟨_,vs,h,_⟩:=this;rw[J]at h;cases h
  | ins _ _=>rw[k]at this;obtain⟨_,_,h⟩:=this;rw[J]at h;cases h
 have d:(ρ++[p])[S.length]?=some p:=by rw[<- R.len];simp
 refine⟨ex,⟨by simp[R.len],?_,?_⟩,d⟩
 ·rw[d_];refine⟨R.nd,by simp,λa G b C e=>?_⟩;have:b=p:=by simpa using C
  obtain⟨n,hn,B⟩:=c5.mp G;exact j n a (by rw[aE hn,B])<|e.trans this
 ·intro n a o h1 g;by_cases hn:n<S.length
  ·rw[bw<|by rw[R.len];exact hn]at h1;rw[bw hn]at g;have:=R.at n a o h1 g
   cases o with
   | lst ys=>obtain⟨f,e,q⟩:=this;exact⟨f,by rw[iV<|j n a h1];exact e,q.ext ex⟩
   | dct _|dki _|dks _|dcp _=>obtain⟨f,e,q⟩:=this;exact⟨f,by rw[iV<|j n a h1];exact e,q.ext ex⟩
   | dcf _|dkf _=>obtain⟨m,f,e,q⟩:=this;exact⟨m,f,by rw[iV<|j n a h1];exact e,q.ext ex⟩
   | ins _ _=>obtain⟨m,F,e⟩:=this;exact⟨m,F,by rw[iV<|j n a h1];exact e⟩
  ·have e:n=S.length:=by
    have:=(aI.mp g).1;simp at this
    lia
   subst e;rw[d]at h1
   cases h1
   simp at g;subst g;exact⟨vs,jI,r.ext ex⟩
def Rel.im{p:aj}(R:Rel K ρ H S)(J:H p=none):Ext ρ ρ H (upd H p u)/\Rel K ρ (upd H p u) S:=by
 have ex:Ext ρ ρ H (upd H p u):=⟨⟨eK _,λa u _ h=>by rw[iV<|i7 h J];exact h⟩,λa u h _=>by rw[iV<|i7 h J];exact h,λ_ h=>.inl h⟩;refine⟨ex,R.len,R.nd,λn a o h1 g=>?_⟩;have:=R.at n a o h1 g
 cases o with
 | lst ys=>obtain⟨d,e,q⟩:=this;exact⟨d,by rw[iV<|i7 e J];exact e,q.ext ex⟩
 | dct _|dki _|dks _|dcp _=>obtain⟨d,e,q⟩:=this;exact⟨d,by rw[iV<|i7 e J];exact e,q.ext ex⟩
 | dcf _|dkf _=>obtain⟨f,d,e,q⟩:=this;exact⟨f,d,by rw[iV<|i7 e J];exact e,q.ext ex⟩
 | ins _ _=>obtain⟨f,j,e⟩:=this;exact⟨f,j,by rw[iV<|i7 e J];exact e⟩
def Rel.put{S:iK}{n:Nat}{a:aj}(R:Rel K ρ H S)(J:ρ[n]?=some a)(hS:S[n]?=some (.lst xs))(r:AVs K ρ H ys ws):Ext ρ ρ H (upd H a<|.lst ws)/\Rel K ρ (upd H a<|.lst ws) (S.set n<|.lst ys):=by
 obtain⟨C,e,_⟩:=R.at n a _ J hS;have ex:Ext ρ ρ H (upd H a<|.lst ws):=⟨⟨eK _,λb u i h=>by
  have:b≠a:=by
   intro z;subst z;rw[e]at h;cases h;exact i
  rw[iV this];exact h⟩,λb u h n=>by
  rw[iV λz=>n<|by rw[z];exact aX J];exact h,λ_ h=>.inl h⟩
 refine⟨ex,by rw[bD];exact R.len,R.nd,λm b o h1 g=>?_⟩;by_cases j:m=n
 ·subst j;rw[J]at h1;cases h1;rw[bF (aI.mp hS).1]at g
  cases g
  exact⟨ws,jI,r.ext ex⟩
 ·rw[bz<|eE j]at g;have nb:b≠a:=λz=>by
   subst z;obtain⟨B,e1⟩:=aI.mp J;obtain⟨F,e2⟩:=aI.mp h1;exact j<|(fB R.nd).mp<|e2.trans e1.symm
  have:=R.at m b o h1 g
  cases o with
  | lst ys=>obtain⟨d,f,q⟩:=this;exact⟨d,by rw[iV nb];exact f,q.ext ex⟩
  | dct _|dki _|dks _|dcp _=>obtain⟨d,f,q⟩:=this;exact⟨d,by rw[iV nb];exact f,q.ext ex⟩
  | dcf _|dkf _=>obtain⟨k,d,f,q⟩:=this;exact⟨k,d,by rw[iV nb];exact f,q.ext ex⟩
  | ins _ _=>obtain⟨k,p,f⟩:=this;exact⟨k,p,by rw[iV nb];exact f⟩
def Rel.lst{n:Nat}{a:aj}(R:Rel K ρ H S)(J:ρ[n]?=some a)(hS:S[n]?=some (.lst xs)):∃vs,H a=some (.lst vs)/\AVs K ρ H xs vs:=R.at n a _ J hS
structure SR (K:aq)(ρ:ar)(H:Hp)(τ:ad)(σ:St):Prop where
 len:τ.length=σ.length
 «at»:∀(i:Nat) (a:A),τ[i]?=some a->a=.unb\/∃v,σ[i]?=some (some v)/\AV K ρ H a v
def SR.jF(s:SR K ρ H τ σ)(e:Ext0 ρ ρ' H H'):SR K ρ' H' τ σ:=⟨s.len,λi a h=>by
 rcases s.at i a h with z|⟨v,h1,d⟩
 ·exact .inl z
 ·exact .inr ⟨v,h1,AV.jF e d⟩⟩
def SR.ext(s:SR K ρ H τ σ)(e:Ext ρ ρ' H H'):SR K ρ' H' τ σ:=s.jF e.toExt0
def Rel.out(R:Rel K ρ H S)(J:H D=some (.lst vs))(hn:D∉ρ):Ext0 ρ ρ H (upd H D<|.lst ws)/\Rel K ρ (upd H D<|.lst ws) S:=by
 have ex:Ext0 ρ ρ H (upd H D<|.lst ws):=⟨eK _,λb u i h=>by
  have:b≠D:=by
   intro z;subst z;rw[J]at h;cases h;exact i
  rw[iV this];exact h⟩
 refine⟨ex,R.len,R.nd,λn a o h1 g=>?_⟩;have na:a≠D:=λz=>hn (by rw[<- z];exact aX h1);have:=R.at n a o h1 g
 cases o with
 | lst ys=>obtain⟨d,e,q⟩:=this;exact⟨d,by rw[iV na];exact e,AVs.jF ex q⟩
 | dct _|dki _|dks _|dcp _=>obtain⟨d,e,q⟩:=this;exact⟨d,by rw[iV na];exact e,q.jF ex⟩
 | dcf _|dkf _=>obtain⟨f,d,e,q⟩:=this;exact⟨f,d,by rw[iV na];exact e,q.jF ex⟩
 | ins _ _=>obtain⟨f,j,e⟩:=this;exact⟨f,j,by rw[iV na];exact e⟩
def Rel.take{S:iK}{D:aj}(R:Rel K ρ H S)(J:H D=some (.lst vs))(hn:D∉ρ)(r:AVs K ρ H xs vs):Rel K (ρ++[D]) H (S++[.lst xs])/\(ρ++[D])[S.length]?=some D:=by
 have ex:Ext0 ρ (ρ++[D]) H H:=⟨fS _ _,λ_ _ _ h=>h⟩;have d:(ρ++[D])[S.length]?=some D:=by rw[<- R.len];simp
 refine⟨⟨by simp[R.len],?_,λn a o h1 g=>?_⟩,d⟩
 ·rw[d_];refine⟨R.nd,by simp,λa p b k e=>?_⟩;have:b=D:=by simpa using k
  exact hn<|by rw[<- this,<- e];exact p
 ·by_cases hs:n<S.length
  ·rw[bw<|by rw[R.len];exact hs]at h1;rw[bw hs]at g;have:=R.at n a o h1 g
   cases o with
   | lst ys=>obtain⟨f,e,q⟩:=this;exact⟨f,e,AVs.jF ex q⟩
   | dct _|dki _|dks _|dcp _=>obtain⟨f,e,q⟩:=this;exact⟨f,e,q.jF ex⟩
   | dcf _|dkf _=>obtain⟨j,f,e,q⟩:=this;exact⟨j,f,e,q.jF ex⟩
   | ins _ _=>obtain⟨j,m,e⟩:=this;exact⟨j,m,e⟩
  ·have e:n=S.length:=by
    have:=(aI.mp g).1;simp at this
    lia
   subst e;rw[d]at h1
   cases h1
   simp at g;subst g;exact⟨vs,J,AVs.jF ex r⟩
def SR.set{τ:ad}{σ:St}{a:A}{v:V}(s:SR K ρ H τ σ)(h:AV K ρ H a v):SR K ρ H (τ.set i a) (σ.set i<|some v):=by
 refine⟨by simp[s.len],λj b e=>?_⟩;by_cases d:j=i
 ·subst d;have f:j<τ.length:=by
   have:=(aI.mp e).1;simpa using this
  rw[bF f]at e
  cases e
  exact .inr ⟨v,bF<|by rw[<- s.len];exact f,h⟩
 ·rw[bz<|eE d]at e;rw[bz<|eE d];exact s.at j b e
end
end Am
namespace Am
open PySem PySem.Spec PyProof.Rows L2
abbrev XE (X:Cx)(ρ:ar)(H:Hp):Str->iK->Prop:=λc d=>∀(C:aj) (ρ':ar) (H':Hp),SN X.K c C->Ext ρ ρ' H H'->Rel X.K ρ' H' d->EX X (.ref C) none H'
def XE.ext{H H':Hp}(h:XE X ρ H c S)(e:Ext ρ ρ' H H'):XE X ρ' H' c S:=λC d H2 n e2=>h C d H2 n<|e.trans e2
abbrev vD (X:Cx)(ρ:ar)(H:Hp)(Q:VK):A->iK->Prop:=λa d=>∀ρ' H' v,Ext ρ ρ' H H'->Rel X.K ρ' H' d->AV X.K ρ' H' a v->Q v H'
abbrev QF (X:Cx)(ρ:ar)(H:Hp)(Q:Bool->Hp->Prop):Bool->iK->Prop:=λb d=>∀ρ' H',Ext ρ ρ' H H'->Rel X.K ρ' H' d->Q b H'
abbrev Uc (X:Cx)(ρ:ar)(H:Hp)(Q:List V->Hp->Prop):ad->iK->Prop:=λf g=>∀ρ' H' d,Ext ρ ρ' H H'->Rel X.K ρ' H' g->AVs X.K ρ' H' f d->Q d H'
def vD.ext{H H':Hp}{Q:VK}{a:A}(h:vD X ρ H Q a S)(e:Ext ρ ρ' H H'):vD X ρ' H' Q a S:=λd H2 v e2=>h d H2 v<|e.trans e2
def QF.ext{H H':Hp}{Q:Bool->Hp->Prop}{a:Bool}(h:QF X ρ H Q a S)(e:Ext ρ ρ' H H'):QF X ρ' H' Q a S:=λd H2 e2=>h d H2<|e.trans e2
def iM{α:Type}{H H':Hp}{r:R α}{P J:α->iK->Prop}(h:r.post P<|XE X ρ H)(e:Ext ρ ρ' H H')(hp:∀a S,P a S->J a S):r.post J (XE X ρ' H'):=Ei h hp λ_ _ z=>z.ext e
abbrev tE (X:Cx)(c:Ex):TE:=λσ H Q=>∃ρ S τ,Rel X.K ρ H S/\SR X.K ρ H τ σ/\(c τ S).post (vD X ρ H Q) (XE X ρ H)
abbrev tT (X:Cx)(c:Te):TT:=λσ H Q=>∃ρ S τ,Rel X.K ρ H S/\SR X.K ρ H τ σ/\(c τ S).post (QF X ρ H Q) (XE X ρ H)
abbrev tL (X:Cx)(c:oX):TA:=λσ H Q=>∃ρ S τ,Rel X.K ρ H S/\SR X.K ρ H τ σ/\(c τ S).post (Uc X ρ H Q) (XE X ρ H)
abbrev AE (X:Cx)(e:aA)(c:Ex):Prop:=PE X e<|tE X c
abbrev AT (X:Cx)(e:aA)(c:Te):Prop:=PT X e<|tT X c
abbrev AW (X:Cx)(e:aA)(c:Te):Prop:=PW X e<|tT X c
abbrev AL (X:Cx)(es:List aA)(c:oX):Prop:=PA X es<|tL X c
def PE.imp{t t':TE}(h:PE X e t)(i:∀σ H Q,t' σ H Q->t σ H Q):PE X e t':=λpins s σ H Q I q=>h pins s σ H Q I<|i σ H Q q
def PT.imp{t t':TT}(h:PT X e t)(i:∀σ H Q,t' σ H Q->t σ H Q):PT X e t':=λpins s σ H Q I q=>h pins s σ H Q I<|i σ H Q q
def PW.imp{t t':TT}(h:PW X e t)(i:∀σ H Q,t' σ H Q->t σ H Q):PW X e t':=λw pins s σ H Q I q=>h w pins s σ H Q I<|i σ H Q q
def PA.imp{t t':TA}(h:PA X e t)(i:∀σ H Q,t' σ H Q->t σ H Q):PA X e t':=λp pins s σ H Q I q=>h p pins s σ H Q I<|i σ H Q q
def AW.at{c:Te}(h:AW X e c):AT X e c:=h _
abbrev A.lE:A->Bool
 | .unb=>true
 | _=>false
abbrev iH (i:Nat):Ex:=λτ S=>if (τ.getD i .unb).lE then .no else .ok (τ.getD i .unb) S
abbrev eC (a:A):Ex:=λ_ S=>.ok a S
section
variable {X:Cx}{pos:Pos}{a b:aA}
def iG(i:Nat){x:Str}(hN:X.N[i]?=some x<|>θ)(hv:OO X.env.scope x:=by first|exact Or.inl rfl|exact Or.inr (Or.inl rfl)|exact Or.inr<|Or.inr rfl)(hd:(x == ("__debug__" : Str))=false:=by decide)
  (J:(x == ("__classdict__" : Str))=false:=by decide):AE X (.Name x pos) (iH i):=PE.imp (IB hN hv hd J) λσ H Q h9=>by
 z_go;unfold iH at h
 cases hi:τ[i]? with
 | none=>
  rw[aF,hi]at h;exact h.elim
 | some x=>
  rw[aF,hi]at h
  rcases r.at i x hi with z|⟨v,e,q⟩
  ·subst z;exact h.elim
  ·refine⟨v,e,?_⟩
   cases x<;>first|(exact h ρ H v .refl R q)|exact h.elim
def iX{i:Int}{j pos}:AE X (.Constant (.int i) j pos) (eC<|.int i):=PE.imp MD λσ H Q ⟨ρ,S,τ,R,r,h⟩=>h ρ H _ .refl R<|.int i
def vj{j pos}:AE X (.Constant (.bool i) j pos) (eC<|.bl i):=PE.imp Pq λσ H Q ⟨ρ,S,τ,R,r,h⟩=>h ρ H _ .refl R<|.bl i
def IK{x:Str}{i:Int}{t:Tok}(J:X.mg x=some (.int i t))(hg:Gl X x<|>θ)(hd:(x == ("__debug__" : Str))=false<|>η):AE X (.Name x pos) (eC<|.int i):=
 PE.imp (JF (v:=.int i) hg J ⟨t,rfl⟩ hd) λσ H Q ⟨ρ,S,τ,R,r,h⟩=>h ρ H _ .refl R<|.int i
abbrev iQ (f:A->A->iK->R A)(ca cb:Ex):Ex:=λτ S=>(ca τ S).bind λa S1=>(cb τ S1).bind λb d=>f a b d
abbrev r2 (X:Cx)(f:A->A->iK->R A):R2:=λx y H Q=>∃ρ S a b,Rel X.K ρ H S/\AV X.K ρ H a x/\AV X.K ρ H b y/\(f a b S).post (vD X ρ H Q) (XE X ρ H)
abbrev r1 (X:Cx)(f:A->iK->R A):V->Hp->VK->Prop:=λx H Q=>∃ρ S a,Rel X.K ρ H S/\AV X.K ρ H a x/\(f a S).post (vD X ρ H Q) (XE X ρ H)
abbrev rN (X:Cx)(f:ad->iK->R A):List V->Hp->VK->Prop:=λxs H Q=>∃ρ S d,Rel X.K ρ H S/\AVs X.K ρ H d xs/\(f d S).post (vD X ρ H Q) (XE X ρ H)
def ly.imp{f:aa->aa->Sem aa}{r J:R2}(h:ly X f r)(i:∀x y H Q,J x y H Q->r x y H Q):ly X f J:=λpins s σ H x y v u Q I rx ry q=>h pins s σ H x y v u Q I rx ry<|i _ _ _ _ q
def jo.imp{f:aa}{r J:List V->Hp->VK->Prop}(h:jo X f r)(i:∀x H Q,J x H Q->r x H Q):jo X f J:=λpins s σ H x v Q I rx q=>h pins s σ H x v Q I rx<|i _ _ _ q
def tK{f:A->A->iK->R A}{ca cb:Ex}{H:Hp}{Q:VK}(h:tE X (iQ f ca cb) σ H Q):PD (r2 X f) (tE X ca) (tE X cb) σ H Q:=by
 kpf_c;refine⟨ρ,S,τ,R,r,iM (iP h) .refl λa S1 h1 ρ1 H1 x e1 k m=>⟨ρ1,S1,τ,k,r.ext e1,iM (iP h1) e1 λb p g d H2 y e2 R2 j=>?_⟩⟩;exact⟨d,p,a,b,R2,m.ext e2,j,iM g (e1.trans e2) λc z q=>q.ext<|e1.trans e2⟩
def i_{f:A->A->iK->R A}{ca cb:Ex}(J:ly X (binaryOp op)<|r2 X f)(ha:AE X a ca)(hb:AE X b cb):AE X (.BinOp a op b pos) (iQ f ca cb):=
 PE.imp (O_ J ha hb) λσ H Q h=>tK h
def Gy{J:CmpOp}{f:A->A->iK->R A}{ca cb:Ex}(ho:ly X (compareOp J)<|r2 X f)(ha:AE X a ca)(hb:AE X b cb)(hm:behindInMarks J b=false:=by first|exact Ij _|with_unfolding_all rfl):AE X (.Compare a [J] [b] pos) (iQ f ca cb):=
 PE.imp (JQ ho ha hb hm) λσ H Q h=>tK h
abbrev A.Qy:A->iK->bd
 | .non,_=>some false
 | .bl b,_=>some b
 | .int i,_=>some (i != 0)
 | .str x,_=>if x.length<=sizeLine then some ((x.length:Int) != 0)else none
 | .tup xs,_=>some (!xs.isEmpty)
 | .frz xs,_=>some (!xs.isEmpty)
 | .ref n,S=>(iI S n).map λxs=>!xs.isEmpty
 | _,_=>none
abbrev Fq (c:Ex):Te:=λτ S=>(c τ S).bind λa S1=>opt (a.Qy S1) λb=>.ok b S1
abbrev oY (c:Ex):Te:=λτ S=>(c τ S).bind λa S1=>match a with
 | .bl b=>.ok b S1
 | _=>.no
def zx{K:aq}{H:Hp}{b:Bool}{v:V}(h:AV K ρ H (.bl b) v):v=.bl b:=by cases h;rfl
def jn{J:CmpOp}{f:A->A->iK->R A}{ca cb:Ex}(ho:ly X (compareOp J)<|r2 X f)(ha:AE X a ca)(hb:AE X b cb)(hm:behindInMarks J b=false:=by first|exact Ij _|with_unfolding_all rfl):AT X (.Compare a [J] [b] pos) (oY<|iQ f ca cb):=
 PT.imp (Kx ho ha hb hm) λσ H Q h9=>by
  z_go;refine tK ⟨ρ,S,τ,R,r,iM (iP h) .refl λc S1 h1 ρ1 H1 x e1 g d=>?_⟩
  cases c with
  | bl k=>cases zx d;exact⟨k,rfl,h1 ρ1 H1 e1 g⟩
  | _=>exact h1.elim
def Oo{K:aq}{H:Hp}{x:A}{v:V}{b:Bool}(R:Rel K ρ H S)(h:AV K ρ H x v)(e:x.Qy S=some b):NT K v H b:=by
 have d:∀{xs:ad} {f:List V},AVs K ρ H xs f->(!xs.isEmpty)=!f.isEmpty:=λr=>by cases r<;>rfl
 cases h with
 | non=>exact(aU e).symm
 | bl b=>exact(aU e).symm
 | int i=>exact(aU e).symm
 | str x=>
  by_cases g:x.length<=sizeLine
  ·exact⟨g,by have:=(aN g).symm.trans e;exact(aU this).symm⟩
  ·have:=(aO g).symm.trans e;cases this
 | tup h r=>exact .inr (.inl ⟨_,mZ.of h,by rw[<- d r];exact(aU e).symm⟩)
 | frz h r=>exact .inl ⟨_,h.Jh,by rw[<- d r];exact(aU e).symm⟩
 | rng h=>cases e
 | ty n=>cases e
 | exn n h x=>cases e
 | ktu h r=>cases e
 | @ref a n h=>
  have e:(iI S n).map (λxs=>!xs.isEmpty)=some b:=e;obtain⟨xs,hn,e⟩:=bC.mp e;obtain⟨f,h1,j⟩:=R.lst h<|iS hn;exact .inl ⟨f,kJ.of h1,by rw[<- d j];exact e.symm⟩
def Ms{ca:Ex}(J:AE X a ca)(he:(∀whole,isTrue a X.env whole=(do let v <- whole;standAt a.pos;holding [v] (truthy v)))<|>ι):AT X a (Fq ca):=
 PT.imp (GG J he) λσ H Q ⟨ρ,S,τ,R,r,h⟩=>⟨ρ,S,τ,R,r,iM (iP h) .refl λc S1 h1 ρ1 H1 x e1 d g=>by
  obtain⟨b,f,h1⟩:=iT h1;exact⟨b,Oo d g f,h1 ρ1 H1 e1 d⟩⟩
abbrev RI (c:Te):Te:=λτ S=>(c τ S).bind λb S1=>.ok (!b) S1
abbrev Ef (c d:Te):Te:=λτ S=>(c τ S).bind λb S1=>match b with|true=>d τ S1|false=>.ok false S1
abbrev OL (c d:Te):Te:=λτ S=>(c τ S).bind λb S1=>match b with|true=>.ok true S1|false=>d τ S1
def and_imp{c d:Te}{H:Hp}{Q:Bool->Hp->Prop}(h:tT X (Ef c d) σ H Q):Qj (tT X c) (tT X d) σ H Q:=by
 kpf_c;refine⟨ρ,S,τ,R,r,iM (iP h) .refl λb S1 h1 ρ1 H1 e1 f=>?_⟩
 cases b with
 | true=>
  rw[aN rfl];exact⟨ρ1,S1,τ,f,r.ext e1,iM h1 e1 λ_ _ z=>z.ext e1⟩
 | false=>
  rw[aO bN];exact h1 ρ1 H1 e1 f
def or_imp{c d:Te}{H:Hp}{Q:Bool->Hp->Prop}(h:tT X (OL c d) σ H Q):SW (tT X c) (tT X d) σ H Q:=by
 kpf_c;refine⟨ρ,S,τ,R,r,iM (iP h) .refl λb S1 h1 ρ1 H1 e1 f=>?_⟩
 cases b with
 | false=>
  rw[aO bN];exact⟨ρ1,S1,τ,f,r.ext e1,iM h1 e1 λ_ _ z=>z.ext e1⟩
 | true=>
  rw[aN rfl];exact h1 ρ1 H1 e1 f
variable {rest:List aA}
def wO{c:Te}(h:AT X a c):AW X (.BoolOp .And [a] pos) c:=K7 h
def Aw{c:Te}(h:AT X a c):AW X (.BoolOp .Or [a] pos) c:=Oa h
def A6{c d:Te}(h:AT X a c)(J:AW X (.BoolOp .And (b::rest) pos) d):AW X (.BoolOp .And (a::b::rest) pos) (Ef c d):=PW.imp (Mf h J) λ_ _ _ q=>and_imp q
def GF{c d:Te}(h:AT X a c)(J:AW X (.BoolOp .Or (b::rest) pos) d):AW X (.BoolOp .Or (a::b::rest) pos) (OL c d):=PW.imp (Ph h J) λ_ _ _ q=>or_imp q
abbrev Hy (c d:Ex):Ex:=λτ S=>(c τ S).bind λa S1=>match a with | .bl true=>d τ S1 | .bl false=>.ok (.bl false) S1|_=>.no
abbrev SO (c d:Ex):Ex:=λτ S=>(c τ S).bind λa S1=>match a with | .bl true=>.ok (.bl true) S1 | .bl false=>d τ S1|_=>.no
abbrev Rl (c:Ex):Ex:=λτ S=>(c τ S).bind λa S1=>match a with | .bl b=>.ok (.bl !b) S1|_=>.no
def Ny{op}{c:Ex}(h:AE X a c):AE X (.BoolOp op [a] pos) c:=MN h
def NC{c d:Ex}(h:AE X a c)(J:AE X (.BoolOp .And (b::rest) pos) d):AE X (.BoolOp .And (a::b::rest) pos) (Hy c d):=PE.imp (Ou h J) λσ H Q h9=>by
 z_go;refine⟨ρ,S,τ,R,r,iM (iP h) .refl λb S1 h1 ρ1 H1 x e1 f g=>?_⟩
 cases b with
 | bl k=>
  cases zx g
  refine⟨k,rfl,?_⟩
  cases k with
  | true=>
   rw[aN rfl];exact⟨ρ1,S1,τ,f,r.ext e1,iM h1 e1 λ_ _ z=>z.ext e1⟩
  | false=>
   rw[aO bN];exact h1 ρ1 H1 _ e1 f<|.bl false
 | _=>exact h1.elim
abbrev TR (t:Te)(c d:Ex):Ex:=λτ S=>(t τ S).bind λb S1=>match b with|true=>c τ S1|false=>d τ S1
abbrev iU:oX:=λ_ S=>.ok [] S
abbrev iJ (c:Ex)(d:oX):oX:=λτ S=>(c τ S).bind λa S1=>(d τ S1).bind λf g=>.ok (a::f) g
def iR:AL X [] iU:=PA.imp uf λσ H Q ⟨ρ,S,τ,R,r,h⟩=>h ρ H _ .refl R .nil
def iO{c:Ex}{d:oX}(J:AE X e c)(hr:AL X es d)(hs:starEach (e::es) X.env=(false,eval e X.env)::starEach es X.env<|>θ):AL X (e::es) (iJ c d):=
 PA.imp (oN J hr hs) λσ H Q h9=>by
  z_go;refine⟨ρ,S,τ,R,r,iM (iP h) .refl λa S1 h1 ρ1 H1 x e1 k m=>⟨ρ1,S1,τ,k,r.ext e1,iM (iP h1) e1 λq p g f H2 xs e2 R2 j=>?_⟩⟩;exact g f H2 _ (e1.trans e2) R2<|.cons (m.ext e2) j
abbrev JM (d:oX):Ex:=λτ S=>(d τ S).bind λf S1=>gd (f.length<=sizeLine)<|.ok (.tup f) S1
abbrev newL (J:ad)(S:iK):R A:=gd (J.length<=sizeLine)<|.ok (.ref S.length)<|S++[.lst J]
abbrev mS (d:oX):Ex:=λτ S=>(d τ S).bind λf S1=>newL f S1
def pU{H J:Hp}{Q:VK}(R:Rel X.K ρ H S)(r:AVs X.K ρ H as vs)(e:Ext ρ0 ρ J H)(h:vD X ρ0 J Q (.tup as) S):∀p,H p=none->Q (.ref p) (upd H p<|.tup vs):=λp f=>by
 obtain⟨ex,d⟩:=R.im (u:=.tup vs) f;exact h ρ _ _ (e.trans ex) d<|.tup jI<|r.ext ex
def kQ{H J:Hp}{S:iK}{Q:VK}(R:Rel X.K ρ H S)(r:AVs X.K ρ H as vs)(e:Ext ρ0 ρ J H)(h:vD X ρ0 J Q (.ref S.length)<|S++[.lst as]):∀p,H p=none->Q (.ref p) (upd H p<|.lst vs):=λp f=>by
 obtain⟨ex,d,g⟩:=R.lay f r;exact h _ _ _ (e.trans ex) d<|.ref g
def JO{H J:Hp}{vs:List V}{Q:VK}(R:Rel X.K ρ H S)(r:AVs X.K ρ H as vs)(e:Ext ρ0 ρ J H)(h:(newL as S).post (vD X ρ0 J Q)<|XE X ρ0 J):vs.length<=sizeLine/\∀p,H p=none->Q (.ref p) (upd H p<|.lst vs):=by
 obtain⟨d,h⟩:=i8 h;exact⟨by rw[<- r.length];exact d,kQ R r e h⟩
def HJ{d:oX}{x1}(h:AL X es d):AE X (.Tuple es x1 pos) (JM d):=PE.imp (Om h) λσ H Q h9=>by
 z_go;refine⟨ρ,S,τ,R,r,iM (iP h) .refl λk S1 h1 ρ1 H1 xs e1 j f=>?_⟩;obtain⟨g,h1⟩:=i8 h1;exact⟨by rw[<- f.length];exact g,pU j f e1 h1⟩
def j0{d:oX}(h:AL X es d):AE X (.List es pos) (mS d):=PE.imp (MV h) λσ H Q ⟨ρ,S,τ,R,r,h⟩=>
 ⟨ρ,S,τ,R,r,iM (iP h) .refl λj S1 h1 ρ1 H1 xs e1 g f=>JO g f e1 h1⟩
end
section
variable {X:Cx}{pos:Pos}{a b:aA}
abbrev aSub (a b:A)(S:iK):R A:=match a,b with
 | .int i,.int j=>.ok (.int<|i-j) S
 | _,_=>.no
def sP:ly X (binaryOp .Sub) (r2 X aSub):=ly.imp Og λx y H Q h9=>by
 x_go
 cases va<;>first|exact h.elim|(cases vb<;>first|exact h.elim|exact⟨_,_,rfl,rfl,h _ _ _ .refl R<|.int _⟩)
abbrev zY (i j:Int):Bool:=(decide (-(2 ^ 64)<i) && decide (i<2 ^ 64)) || (decide (-(2 ^ 64)<j) && decide (j<2 ^ 64))
def mulOk_of{i j:Int}(h:zY i j=true):Ko i j:=by
 unfold zY at h;dsimp[cJ,bY,gV]at h;exact h
abbrev rR (a b:A)(S:iK):R A:=match a,b with
 | .int i,.int j=>gd (zY i j) (.ok (.int<|i * j) S)
 | .ref n,.int k=>opt (iI S n) λxs=>gd (-(2 ^ 63)<=k/\k<2 ^ 63/\xs.length * k.toNat<=sizeLine) (.ok (.ref S.length)<|S++[.lst (List.replicate k.toNat xs).flatten])
 | _,_=>.no
theorem AVs.rep{K:aq}{H:Hp}(r:AVs K ρ H xs vs):∀k:Nat,AVs K ρ H (List.replicate k xs).flatten (List.replicate k vs).flatten
 | 0=>.nil
 | k+1=>by rw[c_,c_,dI,dI];exact r.append<|AVs.rep r k
def By:ly X (binaryOp .Mult) (r2 X rR):=λpins s σ H x y v u Q I rx ry h9=>by
 x_go
 cases va with
 | int i=>
  cases vb with
  | int j=>
   obtain⟨f,h⟩:=i8 h;exact Od pins s σ H _ _ v u Q I rx ry ⟨i,j,rfl,rfl,mulOk_of f,h _ _ _ .refl R<|.int _⟩
  | _=>exact h.elim
 | @ref p n m=>
  cases vb with
  | int k=>
   kt_k;obtain⟨hc,h⟩:=i8 h;obtain⟨g,h1,d⟩:=R.lst m<|iS hn;exact MH pins s σ H _ _ v u Q I rx ry ⟨p,k,g,rfl,rfl,h1,hc.1,hc.2.1,by rw[<- d.length];exact hc.2.2,kQ R (d.rep _) .refl h⟩
  | _=>exact h.elim
 | _=>exact h.elim
abbrev BY (a b:A)(S:iK):R A:=match a,b with
 | .int i,.int j=>gd (0<j/\j<18446744073709551616) (.ok (.int<|i / j) S)
 | _,_=>.no
def Ib:ly X (binaryOp .FloorDiv) (r2 X BY):=ly.imp Gk λx y H Q h9=>by
 x_go
 cases va<;>first|exact h.elim|(cases vb<;>first|exact h.elim|exact⟨_,_,rfl,rfl,(i8 h).1,(i8 h).2 _ _ _ .refl R<|.int _⟩)
abbrev wX (a b:A)(S:iK):R A:=match a,b with
 | .int i,.int j=>gd (0<j) (.ok (.int<|i % j) S)
 | _,_=>.no
def zB:ly X (binaryOp .Mod) (r2 X wX):=ly.imp N3 λx y H Q h9=>by
 x_go
 cases va<;>first|exact h.elim|(cases vb<;>first|exact h.elim|exact⟨_,_,rfl,rfl,(i8 h).1,(i8 h).2 _ _ _ .refl R<|.int _⟩)
abbrev JC (a b:A)(S:iK):R A:=match a,b with
 | .int i,.int j=>gd (0<=j/\j<=1000000/\i.natAbs<2 ^ 64) (.ok (.int<|i ^ j.toNat) S)
 | _,_=>.no
def OY:ly X (binaryOp .Pow) (r2 X JC):=ly.imp Nd λx y H Q h9=>by
 x_go
 cases va<;>first|exact h.elim|(cases vb<;>first|exact h.elim|exact⟨_,_,rfl,rfl,(i8 h).1,(i8 h).2 _ _ _ .refl R<|.int _⟩)
abbrev jK (a b:A)(S:iK):R A:=match a,b with
 | .int i,.int j=>.ok (.int<|i+j) S
 | .tup xs,.tup ys=>gd (xs.length+ys.length<=sizeLine) (.ok (.tup<|xs++ys) S)
 | .str x,.str y=>gd (x.length+y.length<=sizeLine) (.ok (.str<|x++y) S)
 | .ref n,.ref m=>opt (iI S n) λxs=>opt (iI S m) λys=>gd (xs.length+ys.length<=sizeLine) (.ok (.ref S.length)<|S++[.lst<|xs++ys])
 | _,_=>.no
def AVs.nil_inv{K:aq}{H:Hp}(r:AVs K ρ H xs vs):xs=[] ↔ vs=[]:=by cases r<;>simp
def kq:ly X (binaryOp .Add) (r2 X jK):=λpins s σ H x y v u Q I rx ry h9=>by
 x_go
 cases va with
 | int i=>
  cases vb with
  | int j=>exact ME pins s σ H _ _ v u Q I rx ry ⟨i,j,rfl,rfl,h _ _ _ .refl R<|.int _⟩
  | _=>exact h.elim
 | str x=>
  cases vb with
  | str y=>
   obtain⟨hc,h⟩:=i8 h;exact AH pins s σ H _ _ v u Q I rx ry ⟨x,y,rfl,rfl,hc,h _ _ _ .refl R<|.str _⟩
  | _=>exact h.elim
 | @tup p xs f h1 r1=>
  cases vb with
  | @tup q ys g d r2=>
   obtain⟨hc,h⟩:=i8 h;by_cases hv:f=[]
   ·have F:=r1.nil_inv.mpr hv;subst hv F;exact Hl pins s σ H _ _ v u Q I rx ry ⟨p,q,g,rfl,rfl,mZ.of h1,mZ.of d,h _ _ _ .refl R<|.tup d r2⟩
   ·refine KA pins s σ H _ _ v u Q I rx ry ⟨p,q,f,g,rfl,rfl,mZ.of h1,mZ.of d,hv,by rw[<- r1.length,<- r2.length];exact hc,λe=>?_,λ_=>pU R (r1.append r2) .refl h⟩;have hy:=r2.nil_inv.mpr e;subst hy;rw[bJ]at h;exact h _ _ _ .refl R<|.tup h1 r1
  | _=>exact h.elim
 | @ref p n B=>
  cases vb with
  | @ref q m G=>
   kt_k;obtain⟨ys,z,h⟩:=iT h;obtain⟨hc,h⟩:=i8 h;obtain⟨f,h1,d⟩:=R.lst B<|iS hn;obtain⟨g,C,k⟩:=R.lst G<|iS z;exact NB pins s σ H _ _ v u Q I rx ry ⟨p,q,f,g,rfl,rfl,h1,C,by rw[<- d.length,<- k.length];exact hc,kQ R (d.append k) .refl h⟩
  | _=>exact h.elim
 | _=>exact h.elim
abbrev A.ints:ad->Option (ae)
 | []=>some []
 | .int i::xs=>(A.ints xs).map (i::·)
 | _=>none
def MM{x:A}{bs:ae}(e:A.ints (x::xs)=some bs):∃b cs,x=.int b/\A.ints xs=some cs/\bs=b::cs:=by
 unfold A.ints at e;split at e
 ·rename_i z;cases z
 ·rename_i i ys z
  cases z
  obtain⟨cs,h1,d⟩:=bC.mp e;exact⟨i,cs,rfl,h1,d.symm⟩
 ·cases e
def pV{K:aq}{H:Hp}:∀{xs:ad}{vs:List V}{bs:ae},AVs K ρ H xs vs->A.ints xs=some bs->vs=bs.map V.int:=by
 intro xs
 induction xs with
 | nil=>
  intro vs bs h e
  cases h
  cases e
  rfl
 | cons x xs d=>
  intro vs bs h e;obtain⟨b,f,rfl,e1,rfl⟩:=MM e
  cases h with
  | cons h t=>
   cases h
   rw[d t e1];rfl
abbrev Eo (a b:A)(S:iK):R A:=match a,b with
 | .int i,.int j=>.ok (.bl<|decide<|i<j) S
 | _,_=>.no
def yz(J:X.A.units+64<cLine):ly X (compareOp .Lt) (r2 X Eo):=λpins s σ H x y v u Q I rx ry h9=>by
 x_go
 cases va with
 | int i=>
  cases vb with
  | int j=>exact Qv pins s σ H _ _ v u Q I rx ry ⟨i,j,rfl,rfl,h _ _ _ .refl R<|.bl _⟩
  | _=>exact h.elim
 | _=>exact h.elim
abbrev Ll (a b:A)(S:iK):R A:=match a,b with
 | .int i,.int j=>.ok (.bl<|decide<|i<=j) S
 | _,_=>.no
def N8:ly X (compareOp .LtE) (r2 X Ll):=ly.imp Qt λx y H Q h9=>by
 x_go
 cases va<;>first|exact h.elim|(cases vb<;>first|exact h.elim|exact⟨_,_,rfl,rfl,h _ _ _ .refl R<|.bl _⟩)
abbrev La (a b:A)(S:iK):R A:=match a,b with
 | .int i,.int j=>.ok (.bl<|decide<|j<i) S
 | _,_=>.no
def FL(J:X.A.units+64<cLine):ly X (compareOp .Gt) (r2 X La):=λpins s σ H x y v u Q I rx ry h9=>by
 x_go
 cases va with
 | int i=>
  cases vb with
  | int j=>exact OX pins s σ H _ _ v u Q I rx ry ⟨i,j,rfl,rfl,h _ _ _ .refl R<|.bl _⟩
  | _=>exact h.elim
 | _=>exact h.elim
abbrev QG (a b:A)(S:iK):R A:=match a,b with
 | .int i,.int j=>.ok (.bl<|decide<|j<=i) S
 | _,_=>.no
def Sb:ly X (compareOp .GtE) (r2 X QG):=ly.imp Pf λx y H Q h9=>by
 x_go
 cases va<;>first|exact h.elim|(cases vb<;>first|exact h.elim|exact⟨_,_,rfl,rfl,h _ _ _ .refl R<|.bl _⟩)
abbrev Lb (J:Bool)(a b:A)(S:iK):R A:=match a,b with
 | .bl i,.bl j=>.ok (.bl<|if J then i != j else i == j) S
 | .non,.non=>.ok (.bl<|!J) S
 | .unb,.non=>.no
 | .exn _,.non=>.no
 | _,.non=>.ok (.bl J) S
 | _,_=>.no
abbrev LQ (f:A->iK->R A)(c:Ex):Ex:=λτ S=>(c τ S).bind λa S1=>f a S1
abbrev zC (a:A)(S:iK):R A:=match a with
 | .int i=>.ok (.int<|-i) S
 | _=>.no
def Qg:QO X (unaryOp .USub) (r1 X zC):=λpins s σ H x v Q I rx h9=>by
 obtain⟨ρ,S,a,R,va,h⟩:=h9
 cases va with
 | int i=>exact N2 pins s σ H _ v Q I rx ⟨i,rfl,h _ _ _ .refl R<|.int _⟩
 | _=>exact h.elim
def NH{f:A->iK->R A}{c:Ex}{H:Hp}{Q:VK}(h:tE X (LQ f c) σ H Q):SJ (r1 X f) (tE X c) σ H Q:=by
 kpf_c;exact⟨ρ,S,τ,R,r,iM (iP h) .refl λa S1 h1 ρ1 H1 x e1 j d=>⟨ρ1,S1,a,j,d,iM h1 e1 λc k g=>g.ext e1⟩⟩
def ue{c:Ex}(h:AE X a c):AE X (.UnaryOp .USub a pos) (LQ zC c):=PE.imp (PJ Qg h) λ_ _ _ q=>NH q
abbrev m9 (a b:A)(S:iK):R A:=match a,b with
 | .tup xs,.int i=>opt (mL xs i) λx=>.ok x S
 | .frz xs,.int i=>opt (mL xs i) λx=>.ok x S
 | .ref n,.int i=>opt (iI S n) λxs=>opt (mL xs i) λx=>.ok x S
 | .str z,.int i=>gd (z.length<=sizeLine) (opt (mL z.cps.toList i) λc=>.ok (.str ⟨#[c]⟩) S)
 | _,_=>.no
def AVs.mL{K:aq}{H:Hp}{i:Int}{x:A}(r:AVs K ρ H xs vs)(h:L2.mL xs i=some x):∃v,L2.mL vs i=some v/\AV K ρ H x v:=by
 unfold L2.mL at h ⊢;rw[<- r.length]
 cases d:yy xs.length i with
 | none=>rw[d]at h;cases h
 | some j=>
  rw[d]at h;exact r.get h
def P_:Qw X (r2 X m9):=λf d pins s σ H x y v u Q I rx ry ⟨ρ,S,a,b,R,va,vb,h⟩ hs=>by
 cases va with
 | @tup p xs g h1 r1=>
  cases vb with
  | int i=>
   obtain⟨x,j,h⟩:=iT h;obtain⟨z,e,q⟩:=r1.mL j;exact NS f d pins s σ H _ _ v u Q I rx ry ⟨p,g,i,z,rfl,rfl,mZ.of h1,e,h _ _ _ .refl R q⟩ hs
  | _=>exact h.elim
 | @frz p xs g h1 r1=>
  cases vb with
  | int i=>
   obtain⟨x,j,h⟩:=iT h;obtain⟨z,e,q⟩:=r1.mL j;exact CL f d pins s σ H _ _ v u Q I rx ry ⟨p,g,i,z,rfl,rfl,h1.Jh,e,h _ _ _ .refl R q⟩ hs
  | _=>exact h.elim
 | @ref p n k=>
  cases vb with
  | int i=>
   kt_k;obtain⟨x,j,h⟩:=iT h;obtain⟨g,h1,r1⟩:=R.lst k<|iS hn;obtain⟨z,e,q⟩:=r1.mL j;exact CL f d pins s σ H _ _ v u Q I rx ry ⟨p,g,i,z,rfl,rfl,kJ.of h1,e,h _ _ _ .refl R q⟩ hs
  | _=>exact h.elim
 | str z=>
  cases vb with
  | int i=>
   obtain⟨m,h⟩:=i8 h;obtain⟨c,hc,h⟩:=iT h;exact Nj f d pins s σ H _ _ v u Q I rx ry ⟨z,i,c,rfl,rfl,m,hc,h _ _ _ .refl R<|.str _⟩ hs
  | _=>exact h.elim
 | _=>exact h.elim
def jw{ca cb:Ex}(J:AE X a ca)(hb:AE X b cb)(hs:Ba b<|>ξ):AE X (.Subscript a b pos) (iQ m9 ca cb):=PE.imp (Po P_ J hb hs) λσ H Q h=>tK h
end
abbrev pZ (f:A->A->bd):ad->ad->bd
 | [],[]=>some true
 | x::xs,y::ys=>(f x y).bind λp=>(pZ f xs ys).map λq=>p && q
 | _,_=>some false
inductive Sh
 | non
 | bl (b:Bool)
 | int (i:Int)
 | str (x:Str)
 | tup (xs:ad)
 | lst
abbrev NZ (S:iK):A->Option Sh
 | .non=>some .non
 | .bl b=>some (.bl b)
 | .int i=>some (.int i)
 | .str x=>some (.str x)
 | .tup xs=>some (.tup xs)
 | .ref i=>(iI S i).map λ_=>.lst
 | _=>none
abbrev KY (f:A->A->bd):Sh->Sh->bd
 | .non,.non=>some true
 | .bl x,.bl y=>some (x == y)
 | .bl x,.int y=>some ((if x then 1 else 0) == y)
 | .int x,.bl y=>some (x == (if y then 1 else 0))
 | .int x,.int y=>some (x == y)
 | .str x,.str y=>some (x == y)
 | .tup xs,.tup ys=>pZ f xs ys
 | .lst,.lst=>none
 | _,_=>some false
abbrev o_ (S:iK):Nat->A->A->bd
 | 0,_,_=>none
 | n+1,a,b=>match a,b with
  | .ref i,.ref j=>(iI S i).bind λxs=>(iI S j).bind λys=>pZ (o_ S n) xs ys
  | _,_=>(NZ S a).bind λx=>(NZ S b).bind λy=>KY (o_ S n) x y
section
variable {X:Cx}{pins:bj}{σ:L2.St}{H:Hp}{s:az}{ρ:ar}{S:iK}
inductive KdV (s:az):Sh->aa->Prop
 | non:KdV s .non .none
 | bl (b:Bool):KdV s (.bl b) (.bool b)
 | int (i:Int) (t:Tok):KdV s (.int i) (.int i t)
 | str (x:Str) (t:Tok):KdV s (.str x) (.str x t)
 | tup {p:aj} {us:ap} (xs:ad) (h:s.heap.IsTuple p us.toArray):KdV s (.tup xs) (.ref p)
 | lst {p:aj} {us:ap} (h:s.heap.IsList p us.toArray):KdV s .lst<|.ref p
def C7{p:aj}(h:s.heap.IsTuple p us)(h':s.heap.IsList p ws):False:=by
 obtain⟨o,e,c,_⟩:=h;obtain⟨o',d,f,_⟩:=h';rw[e]at d
 cases d
 exact absurd (c.symm.trans f) ⋯
def C_(I:Inv X pins σ H s)(R:Rel X.K ρ H S){a:A}{x:V}(J:AV X.K ρ H a x)(r:RelV x u)(e:NZ S a=some h):KdV s h u:=by
 cases J with
 | non=>cases e;cases(show u=Value.none from r);exact .non
 | bl b=>cases e;cases(show u=Value.bool b from r);exact .bl b
 | int i=>cases e;obtain⟨t,rfl⟩:∃t,u=Value.int i t:=r;exact .int i t
 | str i=>cases e;obtain⟨t,rfl⟩:∃t,u=Value.str i t:=r;exact .str i t
 | tup h1 r1=>cases e;cases(show u=Value.ref _ from r);obtain⟨us,_,p,_⟩:=I.tuple<|mZ.of h1;exact .tup _ p
 | ref h1=>
  obtain⟨xs,e1,rfl⟩:=bC.mp e
  cases(show u=Value.ref _ from r)
  obtain⟨f,d,r1⟩:=R.lst h1<|iS e1;obtain⟨us,_,p,_⟩:=I.list<|kJ.of d;exact .lst p.isList
 | _=>cases e
abbrev Al (B:au)(s:az)(u v:aa)(k:Bool):Prop:=SeqAt.RcAt B s u v k/\SeqAt.EqAt B s u v k/\SeqAt.RcNeAt B s u v (!k)
def Pk{B:au}(J:B.units<cLine){f:A->A->bd}{v:aa}{k:Bool}(d:KdV s h u)(d':KdV s h' v)(nt:∀xs ys,h=.tup xs->h'≠.tup ys)(e:KY f h h'=some k):Al B s u v k:=by
 cases d with
 | non=>cases d' with
  | non=>cases e;exact⟨.none_none,.same _,.none_none⟩
  | bl b=>cases e;exact⟨.none_bool _,.none_bool _,.none_bool _⟩
  | int i t=>cases e;exact⟨.none_int _ _,.none_int _ _,.none_int _ _⟩
  | str x t=>cases e;exact⟨.none_str _ _,.none_str _ _,.none_str _ _⟩
  | tup xs p=>cases e;exact⟨.none_tuple p J,.none_tuple p J,.none_tuple p J⟩
  | lst p=>cases e;exact⟨.none_list p J,.none_list p J,.none_list p J⟩
 | bl c=>cases d' with
  | non=>cases e;exact⟨.bool_none _,.bool_none _,.bool_none _⟩
  | bl b=>cases e;exact⟨.bool_bool _ _,.bool_bool _ _,.bool_bool _ _⟩
  | int i t=>cases e;exact⟨.bool_int _ _ _,.bool_int _ _ _,.bool_int _ _ _⟩
  | str x t=>cases e;exact⟨.bool_str _ _ _,.bool_str _ _ _,.bool_str _ _ _⟩
  | tup xs p=>cases e;exact⟨.bool_tuple _ p J,.bool_tuple _ p J,.bool_tuple _ p J⟩
  | lst p=>cases e;exact⟨.bool_list _ p J,.bool_list _ p J,.bool_list _ p J⟩
 | int c j=>cases d' with
  | non=>cases e;exact⟨.int_none _ _,.int_none _ _,.int_none _ _⟩
  | bl b=>cases e;exact⟨.int_bool _ _ _,.int_bool _ _ _,.int_bool _ _ _⟩
  | int i t=>cases e;exact⟨.int_int _ _ _ _,.int_int _ _ _ _,.int_int _ _ _ _⟩
  | str x t=>cases e;exact⟨.int_str _ _ _ _,.int_str _ _ _ _,.int_str _ _ _ _⟩
  | tup xs p=>cases e;exact⟨.int_tuple _ _ p J,.int_tuple _ _ p J,.int_tuple _ _ p J⟩
  | lst p=>cases e;exact⟨.int_list _ _ p J,.int_list _ _ p J,.int_list _ _ p J⟩
 | str c j=>cases d' with
  | non=>cases e;exact⟨.str_none _ _,.str_none _ _,.str_none _ _⟩
  | bl b=>cases e;exact⟨.str_bool _ _ _,.str_bool _ _ _,.str_bool _ _ _⟩
  | int i t=>cases e;exact⟨.str_int _ _ _ _,.str_int _ _ _ _,.str_int _ _ _ _⟩
  | str x t=>cases e;exact⟨.str_str _ _ _ _,.str_str _ _ _ _,.str_str _ _ _ _⟩
  | tup xs p=>cases e;exact⟨.str_tuple _ _ p J,.str_tuple _ _ p J,.str_tuple _ _ p J⟩
  | lst p=>cases e;exact⟨.str_list _ _ p J,.str_list _ _ p J,.str_list _ _ p J⟩
 | tup zs g=>cases d' with
  | non=>cases e;exact⟨.tuple_none g J,.tuple_none g J,.tuple_none g J⟩
  | bl b=>cases e;exact⟨.tuple_bool _ g J,.tuple_bool _ g J,.tuple_bool _ g J⟩
  | int i t=>cases e;exact⟨.tuple_int _ _ g J,.tuple_int _ _ g J,.tuple_int _ _ g J⟩
  | str x t=>cases e;exact⟨.tuple_str _ _ g J,.tuple_str _ _ g J,.tuple_str _ _ g J⟩
  | tup xs p=>exact absurd rfl (nt _ _ rfl)
  | lst p=>cases e;exact⟨.tuple_list g p J,.of_refs (λz=>by subst z;exact C7 g p)<|.tuple_list g p J,.tuple_list g p J⟩
 | lst g=>cases d' with
  | non=>cases e;exact⟨.list_none g J,.list_none g J,.list_none g J⟩
  | bl b=>cases e;exact⟨.list_bool _ g J,.list_bool _ g J,.list_bool _ g J⟩
  | int i t=>cases e;exact⟨.list_int _ _ g J,.list_int _ _ g J,.list_int _ _ g J⟩
  | str x t=>cases e;exact⟨.list_str _ _ g J,.list_str _ _ g J,.list_str _ _ g J⟩
  | tup xs p=>cases e;exact⟨.list_tuple g p J,.of_refs (λz=>by subst z;exact C7 p g)<|.list_tuple g p J,.list_tuple g p J⟩
  | lst p=>cases e
def xh{a:A}{x:V}(h:AV X.K ρ H a x)(e:NZ S a=some (.tup xs)):a=.tup xs/\∃p vs,x=.ref p/\H p=some (.tup vs)/\AVs X.K ρ H xs vs:=by
 cases h with
 | tup h r=>cases e;exact⟨rfl,_,_,rfl,h,r⟩
 | ref h=>obtain⟨_,_,z⟩:=bC.mp e;cases z
 | _=>cases e
def xR{i:Nat}{x:V}(h:AV X.K ρ H (.ref i) x):∃p,x=.ref p/\ρ[i]?=some p:=by
 cases h with
 | ref h=>exact⟨_,rfl,h⟩
def Ig{a:A}(e:NZ S a=some .lst):∃i,a=.ref i:=by
 cases a with
 | ref i=>exact⟨i,rfl⟩
 | _=>cases e
def G0{n:Nat}{a:A}{k:Bool}(e:o_ S (n+1) a b=some k):(∃i j xs ys,a=.ref i/\b=.ref j/\iI S i=some xs/\iI S j=some ys/\pZ (o_ S n) xs ys=some k)\/(∃h h',NZ S a=some h/\NZ S b=some h'/\KY (o_ S n) h h'=some k/\(h=.lst->h'≠.lst)):=by
 unfold o_ at e;split at e
 ·obtain⟨xs,e1,e⟩:=bT.mp e;obtain⟨ys,e2,e⟩:=bT.mp e;exact .inl ⟨_,_,xs,ys,rfl,rfl,e1,e2,e⟩
 ·rename_i g;obtain⟨h,e1,e⟩:=bT.mp e;obtain⟨h',e2,e⟩:=bT.mp e;refine .inr ⟨h,h',e1,e2,e,λf d=>?_⟩;subst f d;obtain⟨i,rfl⟩:=Ig e1;obtain⟨j,rfl⟩:=Ig e2;exact g i j rfl rfl
def KR{f:A->A->bd}{k:Bool}(d:KdV s h u)(d':KdV s h' u)(J:∀xs ys,h=.tup xs->h'≠.tup ys)(e:KY f h h'=some k):k=true:=by
 cases d with
 | non=>cases d';exact(aU e).symm
 | bl b=>cases d';exact(aU e).symm.trans (bR b)
 | int b=>cases d';exact(aU e).symm.trans (bR b)
 | str b=>cases d';exact(aU e).symm.trans (bR b)
 | tup xs p=>cases d' with
  | tup=>exact absurd rfl (J _ _ rfl)
  | lst q=>exact(C7 p q).elim
 | lst p=>cases d' with
  | tup _ q=>exact(C7 q p).elim
  | lst q=>cases e
def zm{f:A->A->bd}(hf:∀a b x u k,AV X.K ρ H a x->AV X.K ρ H b x->RelV x u->f a b=some k->k=true):∀{xs ys:ad}{vs:List V}{us:ap}{k:Bool},AVs X.K ρ H xs vs->AVs X.K ρ H ys vs->Vals vs us->pZ f xs ys=some k->k=true:=by
 intro xs ys vs us k h1 d q e
 induction q generalizing xs ys k with
 | nil=>cases h1;cases d;exact(aU e).symm
 | cons m _ g=>
  cases h1 with
  | cons h t=>cases d with
   | cons h' j=>
    obtain⟨p,e1,e⟩:=bT.mp e;obtain⟨q,e2,e3⟩:=bC.mp e;rw[<- e3,hf _ _ _ _ p h h' m e1,g t j e2];rfl
def CB(h h':Sh):(∃xs ys,h=.tup xs/\h'=.tup ys)\/(∀xs ys,h=.tup xs->h'≠.tup ys):=by
 cases h with
 | tup xs=>cases h' with
  | tup ys=>exact .inl ⟨xs,ys,rfl,rfl⟩
  | _=>exact .inr λ_ _ _ z=>nomatch z
 | _=>exact .inr λ_ _ z=>nomatch z
theorem yw(I:Inv X pins σ H s)(R:Rel X.K ρ H S):∀(n:Nat) (a b:A) (x:V) (u:aa) (k:Bool),AV X.K ρ H a x->AV X.K ρ H b x->RelV x u->o_ S n a b=some k->k=true
 | 0,_,_,_,_,_,_,_,_,e=>nomatch e
 | n+1,a,b,x,u,k,ha,hb,ru,e=>by
  rcases G0 e with⟨i,j,xs,ys,rfl,rfl,e1,e2,e⟩|⟨h,h',e1,e2,e,_⟩
  ·obtain⟨p,rfl,h1⟩:=xR ha;obtain⟨q,z,B⟩:=xR hb
   cases z
   obtain⟨g,d,r1⟩:=R.lst h1<|iS e1;obtain⟨C,f,r2⟩:=R.lst B<|iS e2;rw[d]at f
   cases f
   obtain⟨us,q,_⟩:=I.list<|kJ.of d;exact zm (λa b x u k=>yw I R n a b x u k) r1 r2 q e
  ·rcases CB h h' with⟨xs,ys,rfl,rfl⟩|m
   ·obtain⟨rfl,p,g,rfl,d,r1⟩:=xh ha e1;obtain⟨rfl,q,C,z,f,r2⟩:=xh hb e2
    cases z
    have:=I.vQ (mZ.of d)<|mZ.of f;subst this;obtain⟨us,q,_⟩:=I.tuple<|mZ.of d;exact zm (λa b x u k=>yw I R n a b x u k) r1 r2 q e
   ·exact KR (C_ I R ha ru e1) (C_ I R hb ru e2) m e
abbrev vE (f:A->A->bd)(xs ys:ad)(j:Nat):Bool:=match xs[j]?,ys[j]? with
 | some x,some y=>(f x y).getD true
 | _,_=>true
theorem tP{f:A->A->bd}:∀{xs ys:ad}{k:Bool},pZ f xs ys=some k->k=((List.range<|min xs.length ys.length).all (vE f xs ys) && xs.length == ys.length)/\∀j x y,xs[j]?=some x->ys[j]?=some y->f x y=some (vE f xs ys j)
 | [],[],k,e=>⟨(aU e).symm,λj x y h=>by simp at h⟩
 | [],_::_,k,e=>⟨(aU e).symm,λj x y h=>by simp at h⟩
 | _::_,[],k,e=>⟨(aU e).symm,λj x y _ h=>by simp at h⟩
 | x::xs,y::ys,k,e=>by
  unfold pZ at e
  cases e1:f x y with
  | none=>rw[e1]at e;cases e
  | some p=>
   rw[e1]at e;obtain⟨q,e2,e3⟩:=bC.mp e;obtain⟨h1,z⟩:=tP e2;have m:vE f (x::xs) (y::ys) 0=p:=by simp[vE,e1]
   have ps:∀j,vE f (x::xs) (y::ys) (j+1)=vE f xs ys j:=λj=>by simp[vE]
   refine⟨?_,λj a b g d=>?_⟩
   ·rw[<- e3,h1,bu,bu,Nat.succ_min_succ,List.range_succ_eq_map,List.all_cons,all_map,m];have:(vE f (x::xs) (y::ys) ∘ Nat.succ)=vE f xs ys:=funext ps;rw[this,Bool.and_assoc];simp
   ·cases j with
    | zero=>
     simp at g d;subst g d;rw[m];exact e1
    | succ j=>rw[ps];exact z j a b (by simpa using g)<|by simpa using d
def tF{f:A->A->bd}(hf:∀a b x y u v k,AV X.K ρ H a x->AV X.K ρ H b y->RelV x u->RelV y v->f a b=some k->SeqAt.EqAt B s u v k){us ts:ap}{k:Bool}
  (r1:AVs X.K ρ H xs vs) (r2:AVs X.K ρ H ys ws) (q1:Vals vs us) (q2:Vals ws ts) (e:pZ f xs ys=some k):∀j (h1:j<us.toArray.size) (h2:j<ts.toArray.size),SeqAt.EqAt B s us.toArray[j] ts.toArray[j] (vE f xs ys j):=by
 intro j h1 h2;have J:=r1.length;have L:=r2.length;have M:=q1.length;have N:=q2.length;have z:j<xs.length:=by simp at h1;lia
 have hy:j<ys.length:=by simp at h2;lia
 have e1:xs[j]?=some xs[j]:=aE z;have e2:ys[j]?=some ys[j]:=aE hy;obtain⟨x,ex,q⟩:=r1.get e1;obtain⟨y,p,C⟩:=r2.get e2;obtain⟨u,g,d⟩:=q1.get ex;obtain⟨t,m,rt⟩:=q2.get p;have F:us.toArray[j]=u:=by
  have:us[j]?=some us.toArray[j]:=by simp at h1;simp[h1]
  rw[g]at this;exact(aU this).symm
 have G:ts.toArray[j]=t:=by
  have:ts[j]?=some ts.toArray[j]:=by simp at h2;simp[h2]
  rw[m]at this;exact(aU this).symm
 rw[F,G];exact hf _ _ x y u t _ q C d rt<|(tP e).2 j _ _ e1 e2
def in1_units(B:au):B.in1.units=B.units+1:=rfl
theorem yI(I:Inv X pins σ H s)(R:Rel X.K ρ H S):∀(n:Nat) (B:au) (a b:A) (x y:V) (u v:aa) (k:Bool),B.units+n<cLine->AV X.K ρ H a x->AV X.K ρ H b y->RelV x u->RelV y v->o_ S n a b=some k->Al B s u v k
 | 0,_,_,_,_,_,_,_,_,_,_,_,_,_,e=>nomatch e
 | n+1,B,a,b,x,y,u,v,k,hu,ha,hb,rx,ry,e=>by
  have f:B.units<cLine:=()
  have d:∀a b x y u v k,AV X.K ρ H a x->AV X.K ρ H b y->RelV x u->RelV y v->o_ S n a b=some k->SeqAt.EqAt B.in1 s u v k:=λa b x y u v k h1 P M N h5=>(yI I R n B.in1 a b x y u v k (by rw[in1_units];lia) h1 P M N h5).2.1;have same:=λ(z:y=x)=>yw I R (n+1) a b x u k ha (z ▸ hb) rx e;have m:∀{p q:aj},x=.ref p->y=.ref q->u=.ref p->v=.ref q->SeqAt.RcAt B s u v k->SeqAt.EqAt B s u v k:=λ{p q} g C z3 z4 h=>by
   subst z3 z4;by_cases U:p=q
   ·subst U;rw[same<|C.trans g.symm];exact .same _
   ·exact .of_refs U h
  rcases G0 e with⟨i,j,xs,ys,rfl,rfl,e1,e2,e⟩|⟨h,h',e1,e2,e,_⟩
  ·obtain⟨p,rfl,h1⟩:=xR ha;obtain⟨q,rfl,P⟩:=xR hb;obtain⟨Y,M,r1⟩:=R.lst h1<|iS e1;obtain⟨ws,N,r2⟩:=R.lst P<|iS e2;obtain⟨us,F,p1,_⟩:=I.list<|kJ.of M;obtain⟨ts,G,p2,_⟩:=I.list<|kJ.of N;have O:=m rfl rfl rx ry
   cases(show u=Value.ref p from rx)
   cases(show v=Value.ref q from ry)
   have W:=r1.length;have l2:=r2.length;have l3:=F.length;have l4:=G.length;have J:=(tP e).1;by_cases T:xs.length=ys.length
   ·rw[<- T,Nat.min_self,bR,Bool.and_true]at J;have L:us.toArray.size=ts.toArray.size:=by simp;lia
    have g:=SeqAt.RcAt.lists p1.isList p2.isList L f<|tF d r1 r2 F G e;have C:=SeqAt.RcNeAt.lists p1.isList p2.isList L f<|tF d r1 r2 F G e;rw[aQ,<- l3,<- W,<- J]at g C;exact⟨g,O g,C⟩
   ·have:(xs.length == ys.length)=false:=by simpa using T
    rw[this,Bool.and_false]at J;subst J;have L:(us.toArray.size != ts.toArray.size)=true:=by simp;lia
    have g:=SeqAt.RcAt.lists_lengths p1.isList p2.isList L f;exact⟨g,O g,SeqAt.RcNeAt.lists_lengths p1.isList p2.isList L f⟩
  ·rcases CB h h' with⟨xs,ys,rfl,rfl⟩|Z
   ·obtain⟨rfl,p,Y,rfl,M,r1⟩:=xh ha e1;obtain⟨rfl,q,ws,rfl,N,r2⟩:=xh hb e2;have O:=m rfl rfl rx ry
    cases(show u=Value.ref p from rx)
    cases(show v=Value.ref q from ry)
    obtain⟨us,F,p1,_⟩:=I.tuple<|mZ.of M;obtain⟨ts,G,p2,_⟩:=I.tuple<|mZ.of N;have J:=(tP e).1;have g:=SeqAt.RcAt.tuples p1 p2 f<|tF d r1 r2 F G e;have C:=SeqAt.RcNeAt.tuples p1 p2 f<|tF d r1 r2 F G e;rw[aQ,aQ,<- F.length,<- G.length,<- r1.length,<- r2.length,<- J]at g C;exact⟨g,O g,C⟩
   ·exact Pk f (C_ I R ha rx e1) (C_ I R hb ry e2) Z e
end
section
variable {X:Cx}
abbrev sL (J:Bool)(a b:A)(S:iK):R A:=opt (o_ S 12 a b) λk=>.ok (.bl<|if J then !k else k) S
def zd(J:X.A.units+64<cLine):ly X (compareOp .Eq) (r2 X<|sL false):=λpins s σ H x y v u Q I rx ry h9=>by
 x_go;obtain⟨k,e,h⟩:=iT h;exact(yI I R 12 X.A a b x y v u k (by omega) va vb rx ry e).1 _ _ _ _ ⟨.bl _,H,I,rfl,h _ _ _ .refl R<|.bl _⟩
def K4(J:X.A.units+64<cLine):ly X (compareOp .NotEq) (r2 X<|sL true):=λpins s σ H x y v u Q I rx ry h9=>by
 x_go;obtain⟨k,e,h⟩:=iT h;exact(yI I R 12 X.A a b x y v u k (by omega) va vb rx ry e).2.2 _ _ _ _ ⟨.bl _,H,I,rfl,h _ _ _ .refl R<|.bl _⟩
end
section
variable {X:Cx}{pos:Pos}{a b:aA}
meta abbrev Pt:=ad->iK->R (ba)
abbrev p9:Pt:=λ_ S=>.ok none S
abbrev p_ (c:Ex):Pt:=λτ S=>(c τ S).bind λa S1=>match a with
 | .int i=>.ok (some i) S1
 | _=>.no
abbrev tO (X:Cx)(c:Pt):TO:=λσ H Q=>∃ρ S τ,Rel X.K ρ H S/\SR X.K ρ H τ σ/\(c τ S).post (λo d=>∀ρ' H',Ext ρ ρ' H H'->Rel X.K ρ' H' d->Q o H') (XE X ρ H)
abbrev AO (X:Cx)(e:Option aA)(c:Pt):Prop:=PO X e<|tO X c
def BB:AO X none p9:=λpins s σ H Q I ⟨ρ,S,τ,R,r,h⟩=>JA pins s σ H Q I<|h ρ H .refl R
def BQ{c:Ex}(J:AE X a c):AO X (some a) (p_ c):=λpins s σ H Q I ⟨ρ,S,τ,R,r,h⟩=>B4 J pins s σ H Q I ⟨ρ,S,τ,R,r,iM (iP h) .refl λx S1 h1 ρ1 H1 v e1 d f=>by
 cases f<;>first|exact h1.elim|exact⟨_,rfl,h1 ρ1 H1 e1 d⟩⟩
abbrev vK (xs:ad)(lo hi:ba):ad:=(xs.drop<|HT.lu xs.length 0 lo).take<|HT.lu xs.length xs.length hi-HT.lu xs.length 0 lo
def AVs.cut{K:aq}{H:Hp}(r:AVs K ρ H xs vs)(lo hi:ba):AVs K ρ H (vK xs lo hi) (zI vs lo hi):=by
 unfold vK zI;rw[r.length];exact(r.drop _).take _
abbrev OQ (a:A)(lo hi:ba)(S:iK):R A:=match a with
 | .ref n=>opt (iI S n) λxs=>.ok (.ref S.length) (S++[.lst<|vK xs lo hi])
 | .frz xs=>.ok (.ref S.length) (S++[.lst<|vK xs lo hi])
 | .tup xs=>gd (¬(HT.lu xs.length 0 lo=0/\HT.lu xs.length xs.length hi=xs.length)) (.ok (.tup<|vK xs lo hi) S)
 | _=>.no
abbrev Jd (c:Ex)(lo hi:Pt):Ex:=λτ S=>(c τ S).bind λa S1=>(lo τ S1).bind λl d=>(hi τ d).bind λu f=>OQ a l u f
abbrev rS (X:Cx):V->ba->ba->Hp->VK->Prop:=λx lo hi H Q=>∃ρ S a,Rel X.K ρ H S/\AV X.K ρ H a x/\(OQ a lo hi S).post (vD X ρ H Q) (XE X ρ H)
def Oq:QK X (rS X):=λpins s σ H x v j f lo hi g Q I rx hs k m h9=>by
 obtain⟨ρ,S,a,R,va,h⟩:=h9
 cases va with
 | @tup p xs d h1 r1=>
  obtain⟨hc,h⟩:=i8 h;exact MY pins s σ H _ v j f lo hi g Q I rx hs k m ⟨p,d,rfl,(mZ.of h1),by rw[<- r1.length];exact hc,pU R (r1.cut lo hi) .refl h⟩
 | @frz p xs d h1 r1=>exact BS pins s σ H _ v j f lo hi g Q I rx hs k m ⟨p,d,rfl,h1.Jh,kQ R (r1.cut lo hi) .refl h⟩
 | @ref p n q=>
  kt_k;obtain⟨d,h1,r1⟩:=R.lst q<|iS hn;exact BS pins s σ H _ v j f lo hi g Q I rx hs k m ⟨p,d,rfl,kJ.of h1,kQ R (r1.cut lo hi) .refl h⟩
 | _=>exact h.elim
def LL{lo hi:Option aA}{c:Ex}{cl ch:Pt}(J:AE X e c)(hl:AO X lo cl)(hh:AO X hi ch):AE X (.Subscript e (.Slice lo hi none p2) pos) (Jd c cl ch):=PE.imp (HK Oq J hl hh) λσ H Q h9=>by
 z_go;refine⟨ρ,S,τ,R,r,iM (iP h) .refl λa S1 h1 ρ1 H1 x e1 m p=>⟨ρ1,S1,τ,m,r.ext e1,iM (iP h1) e1 λl q g d H2 e2 R2=>⟨d,q,τ,R2,r.ext<|e1.trans e2,iM (iP g) (e1.trans e2) λu k B f C e3 j=>?_⟩⟩⟩;exact⟨f,k,a,j,p.ext<|e2.trans e3,iM B (e1.trans<|e2.trans e3) λ_ _ z=>z.ext<|e1.trans<|e2.trans e3⟩
abbrev P4 (a:A)(S:iK):R A:=match a with
 | .ref n=>opt (iI S n) λxs=>.ok (.ref S.length) (S++[.lst xs.reverse])
 | .tup xs=>.ok (.tup xs.reverse) S
 | _=>.no
abbrev ja (f:ad->iK->R A)(d:oX):Ex:=λτ S=>(d τ S).bind λg S1=>f g S1
def yW{f:ad->iK->R A}{d:oX}{H:Hp}{Q:VK}(h:tE X (ja f d) σ H Q):Rv (rN X f) (tL X d) σ H Q:=by
 kpf_c;exact⟨ρ,S,τ,R,r,iM (iP h) .refl λg S1 h1 ρ1 H1 m e1 k j=>⟨ρ1,S1,g,k,j,iM h1 e1 λ_ _ z=>z.ext e1⟩⟩
variable {x:Str}{p:Pos}{e:aA}{es:List aA}{id T:String}{f:ad->iK->R A}{d:oX}
def je(hc:jo X (.builtin id)<|rN X f)(hm:X.mg x=none)(hv:bootBuiltins x=some (.builtin id))(ha:AL X (e::es) d)(hg:Gl X x<|>θ)(hn:x ≠ "__name__"<|>η)(J:(x == ("__debug__" : Str))=false<|>η)
  (he:starEach (e::es) X.env=(false,eval e X.env)::starEach es X.env<|>θ) (hpl:((backTo pos<|starEach es X.env).any (·.1)=false)<|>θ):AE X (.Call (.Name x p) (e::es) [] pos) (ja f d):=
 PE.imp (Gn hc hg hm hv ha hn J he hpl) λ_ _ _ h=>yW h
def jW(hc:jo X (.type T)<|rN X f)(hm:X.mg x=none)(hv:bootBuiltins x=some (.type T))(ha:AL X (e::es) d)(hg:Gl X x<|>θ)(hn:x ≠ "__name__"<|>η)(J:(x == ("__debug__" : Str))=false<|>η)
  (he:starEach (e::es) X.env=(false,eval e X.env)::starEach es X.env<|>θ) (hpl:((backTo pos<|starEach es X.env).any (·.1)=false)<|>θ):AE X (.Call (.Name x p) (e::es) [] pos) (ja f d):=
 PE.imp (Ed hc hg hm hv ha hn J he hpl) λ_ _ _ h=>yW h
abbrev A.seq (S:iK):A->Option (ad)
 | .tup xs=>some xs
 | .frz xs=>some xs
 | .ref n=>iI S n
 | _=>none
def AY{K:aq}{H:Hp}{x:A}{v:V}(R:Rel K ρ H S)(h:AV K ρ H x v)(e:x.seq S=some xs):∃p vs,v=.ref p/\(kJ K H p vs\/mZ K H p vs)/\AVs K ρ H xs vs:=by
 cases h with
 | tup h r=>cases aU e;exact⟨_,_,rfl,.inr<|mZ.of h,r⟩
 | frz h r=>cases aU e;exact⟨_,_,rfl,.inl h.Jh,r⟩
 | ref h=>
  obtain⟨vs,h1,r1⟩:=R.lst h<|iS e;exact⟨_,vs,rfl,.inl<|kJ.of h1,r1⟩
 | _=>cases e
def D3{K:aq}{H:Hp}{x:A}(h:AVs K ρ H [x] vs):∃v,vs=[v]/\AV K ρ H x v:=by
 cases h with
 | cons h t=>cases t;exact⟨_,rfl,h⟩
def R_{K:aq}{H:Hp}{x:A}(h:AVs K ρ H [x,y] vs):∃v w,vs=[v,w]/\AV K ρ H x v/\AV K ρ H y w:=by
 cases h with
 | cons h t=>obtain⟨w,rfl,h'⟩:=D3 t;exact⟨_,_,rfl,h,h'⟩
abbrev f1 (g:A->iK->R A):ad->iK->R A:=λd S=>match d with
 | [x]=>g x S
 | _=>.no
abbrev f2 (g:A->A->iK->R A):ad->iK->R A:=λd S=>match d with
 | [x,y]=>g x y S
 | _=>.no
def Jq{g:A->iK->R A}{P:A->iK->Prop}{E:Str->iK->Prop}(h:(f1 g as S).post P E):∃x,as=[x]/\(g x S).post P E:=by
 match as,h with
 | [],h=>exact h.elim
 | [x],h=>exact⟨x,rfl,h⟩
 | _::_::_,h=>exact h.elim
def Jx{g:A->A->iK->R A}{P:A->iK->Prop}{E:Str->iK->Prop}(h:(f2 g as S).post P E):∃x y,as=[x,y]/\(g x y S).post P E:=by
 match as,h with
 | [],h=>exact h.elim
 | [_],h=>exact h.elim
 | [x,y],h=>exact⟨x,y,rfl,h⟩
 | _::_::_::_,h=>exact h.elim
def Ot{g:A->iK->R A}{H:Hp}{Q:VK}(h:rN X (f1 g) vs H Q):∃v,vs=[v]/\∃ρ S x,Rel X.K ρ H S/\AV X.K ρ H x v/\(g x S).post (vD X ρ H Q) (XE X ρ H):=by
 obtain⟨ρ,S,d,R,v,h⟩:=h;obtain⟨x,rfl,h⟩:=Jq h;obtain⟨w,rfl,hv⟩:=D3 v;exact⟨w,rfl,ρ,S,x,R,hv,h⟩
def Th{g:A->A->iK->R A}{H:Hp}{Q:VK}(h:rN X (f2 g) vs H Q):∃v w,vs=[v,w]/\∃ρ S x y,Rel X.K ρ H S/\AV X.K ρ H x v/\AV X.K ρ H y w/\(g x y S).post (vD X ρ H Q) (XE X ρ H):=by
 obtain⟨ρ,S,j,R,v,h⟩:=h;obtain⟨x,y,rfl,h⟩:=Jx h;obtain⟨w,f,rfl,hv,d⟩:=R_ v;exact⟨w,f,rfl,ρ,S,x,y,R,hv,d,h⟩
abbrev nv (x:A)(S:iK):R A:=match x with
 | .str x=>gd (x.length<=sizeLine) (.ok (.int x.length) S)
 | .tup xs=>.ok (.int xs.length) S
 | .frz xs=>.ok (.int xs.length) S
 | .ref n=>opt (iI S n) λxs=>.ok (.int xs.length) S
 | _=>.no
def mP:jo X (.builtin "len") (rN X<|f1 nv):=jo.imp Hw λg H Q h0=>by
 kpc_g;clear h0
 cases hv with
 | str z=>
  obtain⟨d,h⟩:=i8 h;exact⟨_,_,rfl,⟨d,rfl⟩,h _ _ _ .refl R<|.int _⟩
 | @tup p xs us h1 r=>exact⟨_,us.length,rfl,.inr ⟨us,(mZ.of h1),rfl⟩,by rw[<- r.length];exact h _ _ _ .refl R<|.int _⟩
 | @frz p xs us h1 r=>exact⟨_,us.length,rfl,.inl ⟨us,h1.Jh,rfl⟩,by rw[<- r.length];exact h _ _ _ .refl R<|.int _⟩
 | ref f=>
  kt_k;obtain⟨us,h1,r⟩:=R.lst f<|iS hn;exact⟨_,us.length,rfl,.inl ⟨us,kJ.of h1,rfl⟩,by rw[<- r.length];exact h _ _ _ .refl R<|.int _⟩
 | _=>exact h.elim
abbrev Rq (x:A)(S:iK):R A:=match x with
 | .int i=>.ok (.int<|if i<0 then -i else i) S
 | _=>.no
abbrev BC (x y:A)(S:iK):R A:=match x,y with
 | .int i,.int j=>.ok (.int<|if j>i then j else i) S
 | _,_=>.no
def FY(hc:X.calm=true):jo X (.builtin "max") (rN X<|f2 BC):=jo.imp (D6 hc) λf H Q h0=>by
 obtain⟨w,g,rfl,ρ,S,x,y,R,hv,d,h⟩:=Th h0;clear h0
 cases hv<;>first|exact h.elim|(cases d<;>first|exact h.elim|exact⟨_,_,rfl,h _ _ _ .refl R<|.int _⟩)
abbrev BF (x y:A)(S:iK):R A:=match x,y with
 | .int i,.int j=>.ok (.int<|if j<i then j else i) S
 | _,_=>.no
def Gq(hc:X.calm=true):jo X (.builtin "min") (rN X<|f2 BF):=jo.imp (DF hc) λf H Q h0=>by
 obtain⟨w,g,rfl,ρ,S,x,y,R,hv,d,h⟩:=Th h0;clear h0
 cases hv<;>first|exact h.elim|(cases d<;>first|exact h.elim|exact⟨_,_,rfl,h _ _ _ .refl R<|.int _⟩)
abbrev Ct (x:A)(S:iK):R A:=match x with
 | .int i=>.ok (.int i) S
 | .bl k=>.ok (.int<|if k then 1 else 0) S
 | .str y=>opt (PySem.intText? y) λn=>gd (y.length<=640) (.ok (.int n) S)
 | _=>.no
def Np:jo X (.type "int") (rN X<|f1 Ct):=λpins s σ H xs us Q I d h0=>by
 kpc_g;clear h0
 cases hv with
 | int i=>exact v5 pins s σ H _ us Q I d (.inl ⟨i,rfl,h _ _ _ .refl R<|.int _⟩)
 | bl k=>exact v5 pins s σ H _ us Q I d (.inr ⟨k,rfl,h _ _ _ .refl R<|.int _⟩)
 | str y=>
  obtain⟨n,hn,h⟩:=iT h;obtain⟨f,h⟩:=i8 h;exact Eg pins s σ H _ us Q I d ⟨y,n,rfl,f,hn,h _ _ _ .refl R<|.int _⟩
 | _=>exact h.elim
abbrev KD (x y:A)(S:iK):R A:=match x,y with
 | .int i,.int j=>.ok (.rng i j) S
 | _,_=>.no
abbrev C1 (i j:Int):Prop:=(-(2 ^ 62)<=i/\i<2 ^ 62/\-(2 ^ 62)<=j/\j<2 ^ 62)/\(j-i).toNat<=1000
instance (i j:Int):Decidable (C1 i j):=by unfold C1;infer_instance
abbrev kX (x:A)(S:iK):R A:=match x with
 | .rng i j=>gd (C1 i j) (.ok (.ref S.length)<|S++[.lst<|(zj i j).map .int])
 | .tup xs=>.ok (.ref S.length) (S++[.lst xs])
 | .frz xs=>.ok (.ref S.length) (S++[.lst xs])
 | .ref n=>opt (iI S n) λxs=>.ok (.ref S.length) (S++[.lst xs])
 | _=>.no
def pI(hc:X.calm=true):jo X (.type "list") (rN X<|f1 kX):=λpins s σ H d us Q I rx h0=>by
 kpc_g;clear h0
 cases hv with
 | @rng p i j g=>
  obtain⟨f,h⟩:=i8 h;exact vF hc pins s σ H _ us Q I rx ⟨p,i,j,rfl,g,f.1,f.2,kQ R (pC _) .refl h⟩
 | @tup p xs d h1 r=>exact oH pins s σ H _ us Q I rx ⟨p,d,rfl,.inr<|mZ.of h1,kQ R r .refl h⟩
 | @frz p xs d h1 r=>exact oH pins s σ H _ us Q I rx ⟨p,d,rfl,.inl h1.Jh,kQ R r .refl h⟩
 | @ref p n g=>
  kt_k;obtain⟨d,h1,r⟩:=R.lst g<|iS hn;exact oH pins s σ H _ us Q I rx ⟨p,d,rfl,.inl<|kJ.of h1,kQ R r .refl h⟩
 | _=>exact h.elim
abbrev qf (x:A)(S:iK):R A:=match x with
 | .rng i j=>gd (C1 i j) (.ok (.tup<|(zj i j).map .int) S)
 | .tup xs=>.ok (.tup xs) S
 | .frz xs=>.ok (.tup xs) S
 | .ref n=>opt (iI S n) λxs=>.ok (.tup xs) S
 | _=>.no
def yh(hc:X.calm=true):jo X (.type "tuple") (rN X<|f1 qf):=λpins s σ H d us Q I rx h0=>by
 kpc_g;clear h0
 cases hv with
 | @rng p i j g=>
  obtain⟨f,h⟩:=i8 h;exact uq hc pins s σ H _ us Q I rx ⟨p,i,j,rfl,g,f.1,f.2,pU R (pC _) .refl h⟩
 | @tup p xs d h1 r=>exact nP pins s σ H _ us Q I rx ⟨p,d,rfl,.inr ⟨(mZ.of h1),h _ _ _ .refl R<|.tup h1 r⟩⟩
 | @frz p xs d h1 r=>exact nP pins s σ H _ us Q I rx ⟨p,d,rfl,.inl ⟨h1.Jh,pU R r .refl h⟩⟩
 | @ref p n g=>
  kt_k;obtain⟨d,h1,r⟩:=R.lst g<|iS hn;exact nP pins s σ H _ us Q I rx ⟨p,d,rfl,.inl ⟨kJ.of h1,pU R r .refl h⟩⟩
 | _=>exact h.elim
abbrev A.QI:ad->Option (List Bool)
 | []=>some []
 | .bl b::xs=>(A.QI xs).map (b::·)
 | _=>none
abbrev insI (x:Int):ae->ae
 | []=>[x]
 | y::ys=>if x<=y then x::y::ys else y::insI x ys
abbrev sortI:ae->ae
 | []=>[]
 | x::xs=>insI x<|sortI xs
theorem insI_perm(x:Int):∀ys:ae,(insI x ys).Perm (x::ys)
 | []=>dD _
 | y::ys=>by
  unfold insI;by_cases h:x<=y
  ·rw[aN h]
  ·rw[aO h];exact((insI_perm x ys).cons y).trans (List.Perm.swap x y ys)
theorem sortI_perm:∀xs:ae,(sortI xs).Perm xs
 | []=>dD _
 | x::xs=>(insI_perm x<|sortI xs).trans<|(sortI_perm xs).cons x
theorem Dp(x:Int):∀ys:ae,ys.Pairwise (·<=·)->(insI x ys).Pairwise (·<=·)
 | [],_=>bM _ _
 | y::ys,h=>by
  unfold insI;obtain⟨h1,g⟩:=bA.mp h;by_cases f:x<=y
  ·rw[aN f];exact bA.mpr ⟨λz d=>(aY.mp d).elim (λe=>e ▸ f) λd=>Int.le_trans f<|h1 z d,h⟩
  ·rw[aO f];refine bA.mpr ⟨λz d=>?_,Dp x ys g⟩
   rcases aY.mp ((insI_perm x ys).mem_iff.mp d)with e|d
   ·subst e;lia
   ·exact h1 z d
theorem uc:∀xs:ae,(sortI xs).Pairwise (·<=·)
 | []=>List.Pairwise.nil
 | x::xs=>Dp x _<|uc xs
abbrev uG (x:A)(S:iK):R A:=opt (x.seq S) λxs=>opt (A.ints xs) λd=>gd (d.length<64)<|.ok (.ref S.length)<|S++[.lst<|(sortI d).map .int]
def JZ:jo X (.builtin "sorted") (rN X<|f1 uG):=jo.imp xx λq H Q h0=>by
 kpc_g;clear h0;kt_k;obtain⟨d,k,h⟩:=iT h;obtain⟨m,h⟩:=i8 h;obtain⟨p,us,rfl,hs,r⟩:=AY R hv hn;rw[pV r k]at hs;refine⟨p,d,rfl,hs,m,λl f g j hw=>?_⟩;have:f=sortI d:=Kf (j.trans (sortI_perm d).symm) hw<|uc d;rw[this];exact kQ R (pC _) .refl h l g
abbrev A.kd:A->iK->Option Kd
 | .non,_=>some .non
 | .bl _,_=>some .bl
 | .int _,_=>some .int
 | .str _,_=>some .str
 | .tup _,_=>some .tup
 | .ref n,S=>(iI S n).map λ_=>.lst
 | _,_=>none
abbrev OZ (k:Kd)(c:String):bd:=if c = "int" then some (decide<|k=.int\/k=.bl)else if c = "bool" then some (decide<|k=.bl)else if c = "tuple" then some (decide<|k=.tup)else if c = "list" then some (decide<|k=.lst)else if c = "str" then some (decide<|k=.str)else none
abbrev QW (x y:A)(S:iK):R A:=match y with
 | .ty c=>opt (x.kd S) λk=>opt (OZ k c) λb=>.ok (.bl b) S
 | _=>.no
end
abbrev DO (x:ae):List (ae)->List (ae)
 | []=>[x]
 | y::ys=>if HT.lexLt y x=true then y::DO x ys else x::y::ys
abbrev kg:List (ae)->List (ae)
 | []=>[]
 | x::xs=>DO x<|kg xs
abbrev yP (a b:ae):Prop:=HT.lexLt b a=false
def yP.trans{a:ae}(h1:yP a b)(J:yP b c):yP a c:=by
 unfold yP at *
 cases e:HT.lexLt c a with
 | false=>rfl
 | true=>
  rcases Sx.BD (b:=b) e with z|z
  ·rw[J]at z;cases z
  ·rw[h1]at z;cases z
theorem rX(x:ae):∀ys:List<|ae,(DO x ys).Perm (x::ys)
 | []=>dD _
 | y::ys=>by
  unfold DO;by_cases h:HT.lexLt y x=true
  ·rw[aN h];exact((rX x ys).cons y).trans (List.Perm.swap x y ys)
  ·rw[aO h]
theorem kK:∀xs:List<|ae,(kg xs).Perm xs
 | []=>dD _
 | x::xs=>(rX x<|kg xs).trans<|(kK xs).cons x
theorem B8(x:ae):∀ys:List<|ae,ys.Pairwise yP->(DO x ys).Pairwise yP
 | [],_=>bM _ _
 | y::ys,h=>by
  unfold DO;obtain⟨h1,j⟩:=bA.mp h;by_cases g:HT.lexLt y x=true
  ·rw[aN g];refine bA.mpr ⟨λz d=>?_,B8 x ys j⟩
   rcases aY.mp ((rX x ys).mem_iff.mp d)with e|d
   ·subst e;unfold yP
    cases e:HT.lexLt z y with
    | false=>rfl
    | true=>have:=Sx.rz g e;rw[Sx.oM]at this;cases this
   ·exact h1 z d
  ·rw[aO g];have f:yP x y:=by unfold yP;simpa using g
   exact bA.mpr ⟨λz d=>(aY.mp d).elim (λe=>e ▸ f) λd=>f.trans<|h1 z d,h⟩
theorem uZ:∀xs:List<|ae,(kg xs).Pairwise yP
 | []=>List.Pairwise.nil
 | x::xs=>B8 x _<|uZ xs
def qh{xs:List<|ae}(p:xs.Perm ys)(h:xs.Pairwise yP):xs=kg ys:=
 fN (λa b _ _ h1 d=>(Sx.qp h1 d).symm) h (uZ ys) (p.trans (kK ys).symm)
theorem Tz:∀(N:Nat) (l:ag),l.Nodup->(∀x∈l,x<N)->l.length<=N
 | 0,l,_,h=>by
  cases l with
  | nil=>exact aM _
  | cons a l=>exact absurd (h a<|aK ..)<|cK _
 | N+1,l,nd,h=>by
  have h1:=Tz N (l.erase N) (nd.erase N) λx d=>by
   have:=h x<|List.mem_of_mem_erase d;have:x≠N:=λz=>by
    subst z;exact(List.Nodup.not_mem_erase nd) d
   lia
  have:=List.le_length_erase (l:=l) (a:=N)
  lia
def A3{N:Nat}{g:Nat->Nat}(h:∀i,i<N->g i<N)(inj:∀i j,i<j->j<N->g i≠g j):((List.range N).map g).Perm (List.range N):=by
 have m:((List.range N).map g).Nodup:=by
  unfold List.Nodup;rw[cG];intro i j hi p f;rw[aG,cF]at hi p;rw[eL,eL,eW,eW];exact inj i j f p
 have lt:∀x∈(List.range N).map g,x<N:=λx d=>by
  obtain⟨i,hi,rfl⟩:=bU.mp d;exact h i<|bW.mp hi
 refine(dY m gB).mpr λa=>⟨λk=>bW.mpr<|lt a k,λk=>?_⟩;refine Classical.byContradiction λhn=>?_;have:=Tz N (a::(List.range N).map g) (bL.mpr ⟨hn,m⟩) λx d=>by
  rcases aY.mp d with rfl|d
  ·exact bW.mp k
  ·exact lt x d
 rw[bu,aG,cF]at this
 lia
def range_getD{α:Type}(l:List α)(d:α):(List.range l.length).map (λi=>l.getD i d)=l:=by
 apply gW;intro i;rw[aR];by_cases c:i<l.length
 ·rw[gM c];show some (l.getD i d)=_;rw[aF,aE c];rfl
 ·rw[cP<|by rw[cF];lia,cP ()];rfl
theorem EW{K:aq}{H:Hp}{α:Type}{f:α->A}{h:α->V}:∀{l:List α},(∀a∈l,AV K ρ H (f a)<|h a)->AVs K ρ H (l.map f) (l.map h)
 | [],_=>.nil
 | a::l,e=>.cons (e a<|aK ..)<|EW λb d=>e b<|aJ _ d
abbrev DL (k:Nat->ae)(i:Nat):ag->ag
 | []=>[i]
 | j::js=>if HT.lexLt (k j) (k i)=true then j::DL k i js else i::j::js
abbrev G5 (k:Nat->ae):ag->ag
 | []=>[]
 | i::is=>DL k i<|G5 k is
theorem qY(k:Nat->ae)(i:Nat):∀js:ag,(DL k i js).Perm (i::js)
 | []=>dD _
 | j::js=>by
  unfold DL;by_cases h:HT.lexLt (k j) (k i)=true
  ·rw[aN h];exact((qY k i js).cons j).trans (List.Perm.swap i j js)
  ·rw[aO h]
theorem mV(k:Nat->ae):∀is:ag,(G5 k is).Perm is
 | []=>dD _
 | i::is=>(qY k i<|G5 k is).trans<|(mV k is).cons i
theorem Bc{kss:List<|ae}:∀{js:ag},(∀j∈js,i<j)->js.Pairwise (Sx.P<|Sx.yR kss)->(DL (λi=>kss.getD i []) i js).Pairwise (Sx.P<|Sx.yR kss)
 | [],_,_=>bM _ _
 | j::js,hi,h=>by
  obtain⟨h1,k⟩:=bA.mp h;unfold DL;by_cases c:HT.lexLt (kss.getD j []) (kss.getD i [])=true
  ·rw[aN c];refine bA.mpr ⟨λz d=>?_,Bc (λg f=>hi g<|aJ _ f) k⟩
   rcases aY.mp ((qY _ i js).mem_iff.mp d)with e|d
   ·subst e;exact .inl c
   ·exact h1 z d
  ·rw[aO c];have p:Sx.P (Sx.yR kss) i j:=.inr ⟨by show HT.lexLt _ _=false;simpa using c,hi j<|aK ..⟩;exact bA.mpr ⟨λz d=>(aY.mp d).elim (λe=>e ▸ p) λd=>p.trans<|h1 z d,h⟩
theorem yu{kss:List<|ae}:∀{is:ag},is.Pairwise (· < ·)->(G5 (λi=>kss.getD i []) is).Pairwise (Sx.P<|Sx.yR kss)
 | [],_=>List.Pairwise.nil
 | i::is,h=>by
  obtain⟨h1,d⟩:=bA.mp h;exact Bc (λj f=>h1 j<|(mV _ is).mem_iff.mp f)<|yu d
abbrev Aq (kss:List<|ae):ag:=G5 (λi=>kss.getD i [])<|List.range kss.length
def PL{kss:List<|ae}{g:Nat->Nat}(c:Sx.Cl g 0 kss.length)(J:Sx.So (Sx.yR kss) g 0 kss.length):(List.range kss.length).map g=Aq kss:=by
 refine fN (λa b _ _ h1 k=>absurd (h1.trans k) λz=>z.Ji) ?_ (yu<|gf) ?_
 ·rw[cG];intro i j hi f d;rw[aG,cF]at hi f;rw[eL,eL,eW,eW];exact J i j (bQ _) d f
 ·exact(A3 (λi hi=>(c i (bQ _) hi).2) λi j d f z=>by
   have:=J i j (bQ _) d f;rw[z]at this;exact this.Ji).trans (mV _ _).symm
def zH(kss:List<|ae):(Aq kss).map (λi=>kss.getD i [])=kg kss:=by
 refine qh ?_ ?_
 ·have:=(mV (λi=>kss.getD i [])<|List.range kss.length).map λi=>kss.getD i [];rw[range_getD]at this;exact this
 ·have:=yu (kss:=kss) (is:=List.range kss.length) gf;unfold Aq;rw[ee];exact this.imp λh=>h.ge
abbrev OG (S:iK):ad->Option (List<|ae)
 | []=>some []
 | .ref n::r=>(iI S n).bind λxs=>(A.ints xs).bind λks=>(OG S r).map λd=>ks::d
 | _=>none
theorem LX{K:aq}{H:Hp}(R:Rel K ρ H S):∀{xs:ad}{vs:List V}{kss:List<|ae},AVs K ρ H xs vs->OG S xs=some kss ->
  ∃rs:ar,vs=rs.map V.ref/\rs.length=kss.length/\xs.length=kss.length/\(∀(i:Nat) (r:aj) (ks:ae),rs[i]?=some r->kss[i]?=some ks->kJ K H r (ks.map V.int))/\∀(i:Nat) (r:aj) (x:A),rs[i]?=some r->xs[i]?=some x->AV K ρ H x (.ref r)
 | [],_,_,.nil,e=>by cases e;exact⟨[],rfl,rfl,rfl,λi r ks h=>by simp at h,λi r x h=>by simp at h⟩
 | x::xs,_,kss,.cons h t,e=>by
  cases h with
  | ref p=>
   rename_i a n;have q:((iI S n).bind λj=>(A.ints j).bind λks=>(OG S xs).map λrs=>ks::rs)=some kss:=e;obtain⟨ys,e1,e2⟩:=bT.mp q;obtain⟨ks,e3,z⟩:=bT.mp e2;obtain⟨m,B,rfl⟩:=bC.mp z;obtain⟨rs,rfl,F,G,L,hv⟩:=LX R t B;obtain⟨us,h1,r⟩:=R.lst p<|iS e1;have J:=pV r e3;subst J;refine⟨a::rs,rfl,by rw[bu,bu,F],by rw[bu,bu,G],λi k g f d=>?_,λi k C f d=>?_⟩
   ·cases i with
    | zero=>
     cases f
     cases d
     exact kJ.of h1
    | succ i=>exact L i k g (by simpa using f)<|by simpa using d
   ·cases i with
    | zero=>
     cases f
     cases d
     exact .ref p
    | succ i=>exact hv i k C (by simpa using f)<|by simpa using d
  | _=>cases e
section
variable {X:Cx}
abbrev rB (n:Nat)(S:iK):R A:=opt (iI S n) λxs=>opt (OG S xs) λd=>.ok (.ref S.length)<|S++[.lst<|(Aq d).map λi=>xs.getD i .non]
def JW(J:X.A.units+64<cLine):jo X (.builtin "sorted") (rN X<|f1 λx S=>match x with | .ref n=>rB n S|_=>.no):=jo.imp (xS J) λC H Q h0=>by
 kpc_g;clear h0
 cases hv with
 | ref B=>
  rename_i p n;kt_k;obtain⟨d,k,h⟩:=iT h;obtain⟨us,h1,r⟩:=R.lst B<|iS hn;obtain⟨f,rfl,m,F,z,hv⟩:=LX R r k;refine⟨p,f,d,rfl,kJ.of h1,Sx.Nu _,m,z,λl g j hc hs=>?_⟩;have q:AVs X.K ρ H ((Aq d).map λi=>xs.getD i .non) (((List.range d.length).map λi=>f.getD (g i) 0).map V.ref):=by
   rw[<- PL hc hs,cX,cX];refine EW λi hi=>?_;have lt:=(hc i (bQ _)<|bW.mp hi).2;have e1:f[g i]?=some (f.getD (g i) 0):=by rw[aF,aE ()];rfl
   have e2:xs[g i]?=some (xs.getD (g i) .non):=by rw[aF,aE ()];rfl
   exact hv _ _ _ e1 e2
  exact kQ R q .refl h l j
 | _=>exact h.elim
abbrev sC (x:A)(S:iK):R A:=match x with
 | .ref n=>rB n S
 | _=>.no
def BI(J:X.A.units+64<cLine):jo X (.builtin "sorted") (rN X<|f1 sC):=JW J
end
abbrev RS.post (r:RS)(N:ad->iK->Prop)(T:A->iK->Prop)(B C:ad->iK->Prop)(E:Str->iK->Prop):Prop:=match r with
 | .nx τ S=>N τ S
 | .rt a S=>T a S
 | .bk τ S=>B τ S
 | .ct τ S=>C τ S
 | .ex c S=>E c S
 | .no=>False
abbrev RS.of {α:Type}(r:R α)(f:α->iK->RS):RS:=match r with
 | .ok a S=>f a S
 | .ex c S=>.ex c S
 | .no=>.no
def of_post{α:Type}{r:R α}{f:α->iK->RS}{N B C:ad->iK->Prop}{T:A->iK->Prop}{E:Str->iK->Prop}(h:(RS.of r f).post N T B C E):r.post (λa S=>(f a S).post N T B C E) E:=by
 cases r<;>exact h
def RS.mono{r:RS}{N B C J B' C':ad->iK->Prop}{T T':A->iK->Prop}{E E':Str->iK->Prop}(h:r.post N T B C E)(hn:∀τ S,N τ S->J τ S)(ht:∀a S,T a S->T' a S)(hb:∀τ S,B τ S->B' τ S)(hc:∀τ S,C τ S->C' τ S)(he:∀c S,E c S->E' c S):r.post J T' B' C' E':=by
 cases r with
 | nx τ S=>exact hn _ _ h
 | rt a S=>exact ht _ _ h
 | bk τ S=>exact hb _ _ h
 | ct τ S=>exact hc _ _ h
 | ex c S=>exact he _ _ h
 | no=>exact h.elim
abbrev Bk (X:Cx)(ρ:ar)(H:Hp)(N:L2.St->Hp->Prop):ad->iK->Prop:=λf g=>∀ρ' H' d,Ext ρ ρ' H H'->Rel X.K ρ' H' g->SR X.K ρ' H' f d->N d H'
def Bk.ext{H H':Hp}{N:L2.St->Hp->Prop}(h:Bk X ρ H N τ S)(e:Ext ρ ρ' H H'):Bk X ρ' H' N τ S:=λd H2 f e2=>h d H2 f<|e.trans e2
abbrev wj (X:Cx)(ρ:ar)(H:Hp)(D:Ends)(r:RS):Prop:=r.post (Bk X ρ H D.nx) (vD X ρ H D.rt) (Bk X ρ H D.bk) (Bk X ρ H D.ct)<|XE X ρ H
def wj.ext{H H':Hp}{r:RS}(h:wj X ρ H D r)(e:Ext ρ ρ' H H'):wj X ρ' H' D r:=RS.mono h (λ_ _ z=>z.ext e) (λ_ _ z=>z.ext e) (λ_ _ z=>z.ext e) (λ_ _ z=>z.ext e) λ_ _ z=>z.ext e
abbrev tS (X:Cx)(c:Sm):TS:=λD σ H=>∃ρ S τ,Rel X.K ρ H S/\SR X.K ρ H τ σ/\wj X ρ H D (c τ S)
abbrev AS (X:Cx)(st:aC)(c:Sm):Prop:=PS X st<|tS X c
abbrev J6 (X:Cx)(J:List aC)(c:Sm):Prop:=xF X J<|tS X c
abbrev tG (X:Cx)(g:Tg):TG:=λv σ H Q=>∃ρ S τ a,Rel X.K ρ H S/\SR X.K ρ H τ σ/\AV X.K ρ H a v/\(g a τ S).post (Bk X ρ H Q) (XE X ρ H)
abbrev AG (X:Cx)(e:aA)(g:Tg):Prop:=PG X e<|tG X g
meta abbrev Jb:=ad->ad->iK->R (ad)
abbrev T7 (X:Cx)(g:Jb):Lx:=λf σ H Q=>∃ρ S τ d,Rel X.K ρ H S/\SR X.K ρ H τ σ/\AVs X.K ρ H d f/\(g d τ S).post (Bk X ρ H Q) (XE X ρ H)
abbrev QC (X:Cx)(es:List aA)(g:Jb):Prop:=Qz X es<|T7 X g
section
variable {X:Cx}{pos:Pos}{a b e:aA}{st:aC}{rest:List aC}{c d:Sm}
def PS.imp{t t':TS}(h:PS X st t)(i:∀D σ H,t' D σ H->t D σ H):PS X st t':=λpins s σ H D I q=>h pins s σ H D I<|i D σ H q
def xF.imp{t t':TS}(h:xF X rest t)(i:∀D σ H,t' D σ H->t D σ H):xF X rest t':=λpins s σ H D I q=>h pins s σ H D I<|i D σ H q
def PG.imp{t t':TG}(h:PG X e t)(i:∀v σ H Q,t' v σ H Q->t v σ H Q):PG X e t':=λpins s σ H v u Q I r q=>h pins s σ H v u Q I r<|i _ _ _ _ q
abbrev jj (i:Nat):Tg:=λa τ S=>.ok (τ.set i a) S
def jh{i:Nat}{x:Str}(J:X.N.Nodup)(hi:X.N[i]?=some x<|>θ)(hx:Loc X.env.scope x:=by first|exact Or.inl rfl|exact Or.inr rfl)(hf:X.fn x=true\/X.env.scope.names.lookup x=some .local<|>γ):AG X (.Name x pos) (jj i):=
 PG.imp (Cs J hi hx hf) λv σ H Q ⟨ρ,S,τ,a,R,r,va,h⟩=>h ρ H _ .refl R<|r.set va
abbrev Jm:Jb:=λd τ S=>match d with
 | []=>.ok τ S
 | _=>.no
abbrev z9 (g:Tg)(gs:Jb):Jb:=λf τ S=>match f with
 | a::f=>(g a τ S).bind λd S1=>gs f d S1
 | []=>.no
def tN:QC X [] Jm:=λpins s σ H f us Q I r ⟨ρ,S,τ,g,R,d,va,h⟩=>JV pins s σ H f us Q I r (by
 cases va with
 | nil=>exact⟨rfl,h ρ H σ .refl R d⟩
 | cons _ _=>exact h.elim)
def lW{g:Tg}{gs:Jb}(h1:AG X e g)(J:QC X es gs)(hs:(assignEach (e::es) X.env).map (·.2)=assign e X.env::(assignEach es X.env).map (·.2)<|>θ):QC X (e::es) (z9 g gs):=
 λpins s σ H k us Q I r ⟨ρ,S,τ,C,R,j,va,h⟩=>Ho h1 J hs pins s σ H k us Q I r (by
  cases va with
  | nil=>exact h.elim
  | cons m q=>exact⟨_,_,rfl,ρ,S,τ,_,R,j,m,iM (iP h) .refl λd S1 h1 ρ1 H1 B e1 p f=>⟨ρ1,S1,d,_,p,f,q.ext e1,iM h1 e1 λ_ _ z=>z.ext e1⟩⟩)
abbrev JI (n:Nat)(gs:Jb):Tg:=λa τ S=>match a with
 | .tup xs | .ktu xs=>gd (xs.length=n) (gs xs τ S)
 | _=>.no
def xm{k n:Nat}{gs:Jb}(hc:X.calm=true)(h:QC X es gs)(hn:(assignEach es X.env).length=n<|>θ)(J:(assignEach es X.env).findIdx? (·.1)=none<|>θ):AG X (.Tuple es k pos) (JI n gs):=
 PG.imp (NG hc h hn J) λv σ H Q h9=>by
  obtain⟨ρ,S,τ,a,R,r,va,h⟩:=h9
  cases va with
  | tup h1 r1=>
   obtain⟨d,h⟩:=i8 h;exact⟨_,_,rfl,mZ.of h1,by rw[<- r1.length];exact d,ρ,S,τ,_,R,r,r1,h⟩
  | ktu h1 r1=>
   obtain⟨d,h⟩:=i8 h;exact⟨_,_,rfl,.inr h1,by rw[<- r1.length];exact d,ρ,S,τ,_,R,r,r1,h⟩
  | _=>exact h.elim
abbrev zT (o i v:A)(S:iK):R Unit:=match o,i with
 | .ref n,.int k=>opt (iI S n) λxs=>opt (yy xs.length k) λj=>.ok Unit.unit (S.set n<|.lst<|xs.set j v)
 | _,_=>.no
abbrev TN (X:Cx):HZ:=λo i v H Q=>∃ρ S d g f,Rel X.K ρ H S/\AV X.K ρ H d o/\AV X.K ρ H g i/\AV X.K ρ H f v/\(zT d g f S).post (λ_ j=>∀ρ' H',Ext ρ ρ' H H'->Rel X.K ρ' H' j->Q H') (XE X ρ H)
def Jk:Gd X (TN X):=λpins s σ H o i v G J u Q I C q F h9=>by
 obtain⟨ρ,S,K,M,L,R,h1,g,z,h⟩:=h9
 cases h1 with
 | @ref p n d=>
  cases g with
  | int k=>
   kt_k;obtain⟨j,m,h⟩:=iT h;obtain⟨f,e,r⟩:=R.lst d<|iS hn;obtain⟨ex,B⟩:=R.put d (iS hn)<|r.set z j;exact set_list pins s σ H _ _ v G J u Q I C q F ⟨p,f,k,j,rfl,rfl,e,by rw[<- r.length];exact m,h _ _ ex B⟩
  | _=>exact h.elim
 | _=>exact h.elim
abbrev N4 (co ci:Ex):Tg:=λa τ S=>(co τ S).bind λo S1=>(ci τ S1).bind λi d=>(zT o i a d).bind λ_ f=>.ok τ f
def xZ{co ci:Ex}(J:AE X o co)(hi:AE X i ci)
  (ha:(∀v,assign (.Subscript o i pos) X.env v=(do
   let ov <- holding [v] (eval o X.env)
   let iv <- holding [v,ov] (eval i X.env)
   standAt pos
   holding [v,ov,iv] (setItem ov iv v)
   release [v,ov,iv] []))<|>ι):AG X (.Subscript o i pos) (N4 co ci):=PG.imp (Ft J hi Jk ha) λv σ H Q h9=>by
 obtain⟨ρ,S,τ,a,R,r,va,h⟩:=h9;refine⟨ρ,S,τ,R,r,iM (iP h) .refl λo S1 h1 ρ1 H1 x e1 m p=>⟨ρ1,S1,τ,m,r.ext e1,iM (iP h1) e1 λi q g d H2 y e2 R2 k=>?_⟩⟩;refine⟨d,q,o,i,a,R2,p.ext e2,k,va.ext<|e1.trans e2,iM (iP g) (e1.trans e2) λ_ C z f B e3 j=>?_⟩;exact z f B σ ((e1.trans e2).trans e3) j<|r.ext<|(e1.trans e2).trans e3
abbrev oh:Sm:=λτ S=>.nx τ S
abbrev jb (c d:Sm):Sm:=λτ S=>match c τ S with
 | .nx f g=>d f g
 | r=>r
def jL:J6 X [] oh:=xF.imp JJ λD σ H ⟨ρ,S,τ,R,r,h⟩=>h ρ H σ .refl R r
def KW{H:Hp}(h:tS X (jb c d) D σ H):Qh (tS X c) (tS X d) D σ H:=by
 kpf_c;refine⟨ρ,S,τ,R,r,?_⟩;unfold jb at h
 cases hc:c τ S with
 | nx f S1=>
  rw[hc]at h;exact λρ1 H1 j e1 g r1=>⟨ρ1,S1,f,g,r1,wj.ext h e1⟩
 | rt a S1=>rw[hc]at h;exact h
 | bk f S1=>rw[hc]at h;exact h
 | ct f S1=>rw[hc]at h;exact h
 | ex x S1=>rw[hc]at h;exact h
 | no=>rw[hc]at h;exact h
def iL(h1:AS X st c)(J:J6 X rest d):J6 X (st::rest) (jb c d):=xF.imp (FG h1 J) λD σ H h=>KW h
def iW(h1:AS X st c):J6 X [st] c:=JB h1
abbrev Nb:Sm:=λτ S=>.bk τ S
abbrev P7:Sm:=λτ S=>.ct τ S
abbrev lH (e:Ex):Sm:=λτ S=>.of (e τ S) λ_ S1=>.nx τ S1
def j7{f:Ex}(J:AE X e f)(hs:swapsWith e none pos.line X.env=pure false<|>θ):AS X (.Expr e pos) (lH f):=PS.imp (Kw J hs) λD σ H ⟨ρ,S,τ,R,r,h⟩=>
 ⟨ρ,S,τ,R,r,iM (of_post h) .refl λa S1 h1 ρ1 H1 x e1 d g=>h1 ρ1 H1 σ e1 d<|r.ext e1⟩
abbrev ko (e:Ex):Sm:=λτ S=>.of (e τ S) λa S1=>.rt a S1
def jA{f:Ex}(J:AE X e f):AS X (.Return (some e) pos) (ko f):=PS.imp (M8 J) λD σ H ⟨ρ,S,τ,R,r,h⟩=>⟨ρ,S,τ,R,r,iM (of_post h) .refl λa S1 h1=>h1⟩
abbrev GN:Sm:=λτ S=>.rt .non S
def Kh:AS X (.Return none pos) GN:=PS.imp J8 λD σ H ⟨ρ,S,τ,R,r,h⟩=>h ρ H _ .refl R .non
abbrev vL (t:Te)(c d:Sm):Sm:=λτ S=>.of (t τ S) λb S1=>match b with|true=>c τ S1|false=>d τ S1
def lU{t:Te}(J:AT X e t)(ha:J6 X ca c)(hb:J6 X cb d):AS X (.If e ca cb pos) (vL t c d):=PS.imp (O7 J ha hb) λD σ H h9=>by
 z_go;refine⟨ρ,S,τ,R,r,iM (of_post h) .refl λb S1 h1 ρ1 H1 e1 f=>?_⟩
 cases b with
 | true=>rw[aN rfl];exact⟨ρ1,S1,τ,f,r.ext e1,wj.ext h1 e1⟩
 | false=>rw[aO bN];exact⟨ρ1,S1,τ,f,r.ext e1,wj.ext h1 e1⟩
abbrev jm (e:Ex)(g:Tg):Sm:=λτ S=>.of (e τ S) λa S1=>.of (g a τ S1) λd f=>.nx d f
def Js{f:Ex}{g:Tg}{H:Hp}(h:tS X (jm f g) D σ H):J5 (tE X f) (tG X g) D σ H:=by
 kpf_c;exact⟨ρ,S,τ,R,r,iM (of_post h) .refl λa S1 h1 ρ1 H1 x e1 k d=>⟨ρ1,S1,τ,a,k,r.ext e1,d,iM (of_post h1) e1 λj p m=>Bk.ext m e1⟩⟩
def uA{tg:aA}{f:Ex}{g:Tg}(J:AE X e f)(hg:AG X tg g)(hs:swapsWithSole [tg] e pos.line X.env=pure false<|>θ)(hw:swappedStores [tg] e X.env=pure none<|>θ)
  (h1:(assignEach [tg] X.env).map (·.2)=[assign tg X.env]<|>θ):AS X (.Assign [tg] e pos) (jm f g):=PS.imp (M9 J hg hs hw h1) λD σ H h=>Js h
def jc{i:Nat}{x:Str}{f:Ex}(J:X.N.Nodup)(he:AE X e f)(hi:X.N[i]?=some x<|>θ)(hx:Loc X.env.scope x:=by first|exact Or.inl rfl|exact Or.inr rfl)(hs:(swapsWith e (some<|.Name x pos') pos.line X.env=pure false)<|>θ)(hf:X.fn x=true\/X.env.scope.names.lookup x=some .local<|>γ) :
  AS X (.Assign [.Name x pos'] e pos) (jm f<|jj i):=PS.imp (M0 J hi hx he hs hf) λD σ H ⟨ρ,S,τ,R,r,h⟩=>
 ⟨ρ,S,τ,R,r,iM (of_post h) .refl λa S1 h1 ρ1 H1 x e1 g d=>h1 ρ1 H1 _ e1 g<|(r.ext e1).set d⟩
abbrev RY (i j:Nat)(c:oX):Sm:=λτ S=>.of (c τ S) λd S1=>match d with
 | [a,b]=>.nx ((τ.set i a).set j b) S1
 | _=>.no
abbrev ip (X:Cx)(f:A->A->iK->R A):OV:=λx y H Q=>∃ρ S a b,Rel X.K ρ H S/\AV X.K ρ H a x/\AV X.K ρ H b y/\(f a b S).post (vD X ρ H Q) (XE X ρ H)
abbrev JG (a b:A)(S:iK):R A:=match a,b with
 | .int i,.int j=>.ok (.int<|i+j) S
 | _,_=>.no
def Ca:QH X .Add (ip X JG):=λpins s σ H x y v u Q I r1 r2 h9=>by
 x_go
 cases va with
 | int i=>
  cases vb with
  | int j=>exact OD pins s σ H _ _ v u Q I r1 r2 ⟨i,j,rfl,rfl,h _ _ _ .refl R<|.int _⟩
  | _=>exact h.elim
 | _=>exact h.elim
abbrev D0 (i:Nat)(f:A->A->iK->R A)(e:Ex):Sm:=λτ S=>if (τ.getD i .unb).lE then .no else .of (e τ S) λb S1=>.of (f (τ.getD i .unb) b S1) λc d=>.nx (τ.set i c) d
def IX{i:Nat}{x:Str}{c:Ex}{f:A->A->iK->R A}(hN:X.N.Nodup)(he:AE X e c)(ho:QH X op<|ip X f)(hi:X.N[i]?=some x<|>θ)(J:Loc X.env.scope x:=by first|exact Or.inl rfl|exact Or.inr rfl)(hf:X.fn x=true\/X.env.scope.names.lookup x=some .local<|>γ) :
  AS X (.AugAssign (.Name x pos') op e pos) (D0 i f c):=PS.imp (Nm hN hi J he ho hf) λD σ H h9=>by
 z_go;have g:∀x,τ[i]?=some x->x.lE=false->(RS.of (c τ S) λb S1=>.of (f x b S1) λc j=>.nx (τ.set i c) j).post (Bk X ρ H D.nx) (vD X ρ H D.rt) (Bk X ρ H D.bk) (Bk X ρ H D.ct) (XE X ρ H) ->
   ∃x,σ[i]?=some (some x)/\tE X c σ H λy H1=>ip X f x y H1 λz H2=>D.nx (σ.set i<|some z) H2:=by
  intro x hi J h
  rcases r.at i x hi with z|⟨v,e,q⟩
  ·subst z;cases J
  ·refine⟨v,e,ρ,S,τ,R,r,iM (of_post h) .refl λb S1 h1 ρ1 H1 y e1 p B=>⟨ρ1,S1,x,b,p,q.ext e1,B,iM (of_post h1) e1 λw j k d H2 z e2 R2 m=>?_⟩⟩;exact k d H2 _ (e1.trans e2) R2<|(r.ext<|e1.trans e2).set m
 unfold D0 wj at h;rw[aF]at h
 cases hi:τ[i]? with
 | none=>rw[hi]at h;exact h.elim
 | some x=>
  rw[hi]at h
  cases J:x.lE with
  | true=>rw[show(some x).getD .unb=x from rfl,J]at h;exact h.elim
  | false=>rw[show(some x).getD .unb=x from rfl,J]at h;exact g x hi J h
abbrev KN (a b:A)(S:iK):R A:=match a,b with
 | .ref n,.int i=>opt (iI S n) λxs=>gd (0<=i) (opt (xs[i.toNat]?) λx=>.ok x S)
 | _,_=>.no
abbrev P1 (co ci J:Ex)(f:A->A->iK->R A):Sm:=λτ S=>.of (co τ S) λo S1=>.of (ci τ S1) λi d=>.of (KN o i d) λx k=>.of (J τ k) λy g=>.of (f x y g) λz m=>.of (zT o i z m) λ_ j=>.nx τ j
abbrev j9 (t:Te)(c:Sm):Nat->Sm
 | 0=>λ_ _=>.no
 | n+1=>λτ S=>.of (t τ S) λb S1=>match b with
  | false=>.nx τ S1
  | true=>match c τ S1 with
   | .nx d f=>j9 t c n d f
   | .ct d f=>j9 t c n d f
   | .bk d f=>.nx d f
   | r=>r
def uo(n:Nat){t:Te}(hp:PassesOwn (model X.prog X.w) X.A X.env X.xe)(ht:AT X e t)(hb:J6 X body c):AS X (.While e body [] pos) (j9 t c n):=PS.imp (F2 hp ht hb) λD σ H h9=>by
 z_go;refine⟨λm p H'=>∃ρ' g d,Ext ρ ρ' H H'/\Rel X.K ρ' H' g/\SR X.K ρ' H' d p/\wj X ρ' H' D (j9 t c m d g),⟨n,ρ,S,τ,.refl,R,r,h⟩,?_⟩;rintro m J H1 ⟨ρ1,S1,k,e1,N,r1,h1⟩
 cases m with
 | zero=>exact h1.elim
 | succ m=>
  refine⟨ρ1,S1,k,N,r1,iM (of_post h1) .refl λb L f C H2 e2 R2=>?_⟩
  cases b with
  | false=>rw[aO bN];exact f C H2 J e2 R2 (r1.ext e2)
  | true=>
   rw[aN rfl];refine⟨λp H'=>∃ρ' g d,Ext ρ ρ' H H'/\Rel X.K ρ' H' g/\SR X.K ρ' H' d p/\wj X ρ' H' D (j9 t c m d g),λp H' z=>⟨m,cE _,z⟩,C,L,k,R2,r1.ext e2,?_⟩;have f:wj X ρ1 H1 D (match c k L with
    | .nx d g=>j9 t c m d g
    | .ct d g=>j9 t c m d g
    | .bk d g=>.nx d g
    | r=>r):=f
   cases hc:c k L with
   | nx j B=>rw[hc]at f;exact λq O M e3 F G=>⟨q,B,j,(e1.trans e2).trans e3,F,G,wj.ext f<|e2.trans e3⟩
   | ct j B=>rw[hc]at f;exact λq O M e3 F G=>⟨q,B,j,(e1.trans e2).trans e3,F,G,wj.ext f<|e2.trans e3⟩
   | bk j B=>rw[hc]at f;exact Bk.ext f e2
   | rt a B=>rw[hc]at f;exact vD.ext f e2
   | ex x B=>rw[hc]at f;exact XE.ext f e2
   | no=>rw[hc]at f;exact f
end
section
variable {X:Cx}{o e:aA}{p2 spos pos:Pos}{co ci:Ex}
abbrev MS (x y:A)(S:iK):R Unit:=match x,y with
 | .ref n,.int k=>opt (iI S n) λxs=>gd (0<=k) (.ok Unit.unit<|S.set n<|.lst<|xs.take k.toNat)
 | _,_=>.no
abbrev IU (co ci:Ex):Sm:=λτ S=>.of (co τ S) λx S1=>.of (ci τ S1) λy d=>.of (MS x y d) λ_ f=>.nx τ f
def J7{S2:iK}{n:Nat}{k:Int}{xs:ad}(h1:co τ S=.ok (.ref n) S1)(J:ci τ S1=.ok (.int k) S2)(h3:iI S2 n=some xs)(hk:0<=k):IU co ci τ S=.nx τ (S2.set n<|.lst<|xs.take k.toNat):=by
 unfold IU;rw[h1];show RS.of (ci τ S1) _=_;rw[J];show RS.of (opt (iI S2 n) _) _=_;rw[h3];show RS.of (gd (0<=k) _) _=_;unfold gd;rw[aN hk];rfl
def DX{x:A}{S2:iK}{P:Unit->iK->Prop}{E:Str->iK->Prop}(h:(MS x y S2).post P E):∃n k xs,x=.ref n/\y=.int k/\iI S2 n=some xs/\0<=k/\P Unit.unit (S2.set n<|.lst<|xs.take k.toNat):=by
 unfold MS at h;split at h
 ·obtain⟨xs,hn,d⟩:=iT h;obtain⟨f,d⟩:=i8 d;exact⟨_,_,xs,rfl,rfl,hn,f,d⟩
 ·exact h.elim
def Mn(ho:AE X o co)(he:AE X e ci):AS X (.Delete [.Subscript o (.Slice (some e) none none p2) spos] pos) (IU co ci):=PS.imp (M5 ho<|B4 he) λD σ H h9=>by
 z_go;refine⟨ρ,S,τ,R,r,iM (of_post h) .refl λx S1 h1 ρ1 H1 v e1 z B=>⟨ρ1,S1,τ,z,r.ext e1,iM (of_post h1) e1 λy K p d H2 w e2 R2 q=>?_⟩⟩;obtain⟨n,k,xs,G,hy,hn,J,C⟩:=DX<|of_post p;subst G hy
 cases q
 have f:=B.ext e2
 cases f with
 | @ref a _ g=>
  obtain⟨us,m,j⟩:=R2.lst g<|iS hn;obtain⟨ex,F⟩:=R2.put g (iS hn)<|j.take k.toNat;exact⟨k,rfl,a,us,k.toNat,rfl,m,by rw[show((k.toNat:Nat):Int)=k by lia],C d _ _ ((e1.trans e2).trans ex) F<|((r.ext e1).ext e2).ext ex⟩
end
structure Src where
 k:Nat
 get:Nat->iK->Option A
 fin:iK->Bool
structure JR (K:aq)(s:Src)(J:It)(ρ0:ar)(H0:Hp):Prop where
 go:∀(i:Nat) (S:iK) (H:Hp) (ρ:ar) (x:A),Ext0 ρ0 ρ H0 H->Rel K ρ H S->s.get i S=some x->J.go i H/\∀v H',J.yld i H v H'->Ext ρ ρ H H'/\Rel K ρ H' S/\AV K ρ H' x v
 stop:∀(S:iK) (H:Hp) (ρ:ar),Ext0 ρ0 ρ H0 H->Rel K ρ H S->s.fin S=true->J.stop s.k H
meta abbrev Ic:=ad->iK->R Src
abbrev tI (X:Cx)(c:Ic):TI:=λσ H Q=>∃ρ S τ,Rel X.K ρ H S/\SR X.K ρ H τ σ/\(c τ S).post (λs d=>∀ρ' H' J,Ext ρ ρ' H H'->Rel X.K ρ' H' d->JR X.K s J ρ' H'->Q J H') (XE X ρ H)
abbrev AI (X:Cx)(tg iter:aA)(c:Ic):Prop:=PI X tg iter<|tI X c
abbrev q_ (xs:ad):Src:=⟨xs.length,λi _=>xs[i]?,λ_=>true⟩
abbrev jq (n k:Nat):Src:=⟨k,λi S=>(iI S n).bind (·[i]?),λS=>match iI S n with
 | some ys=>decide (ys.length<=k)
 | none=>false⟩
abbrev m_ (lo hi:Int):Src:=⟨(hi-lo).toNat,λi _=>if i<(hi-lo).toNat then some (.int<|lo+i)else none,λ_=>true⟩
abbrev l5 (c:Ex):Ic:=λτ S=>(c τ S).bind λa S1=>match a with
 | .tup xs=>.ok (q_ xs) S1
 | .frz xs=>.ok (q_ xs) S1
 | .ref n=>opt (iI S1 n) λxs=>.ok (jq n xs.length) S1
 | .str x=>gd (x.cps.all (· < 128)=true) (.ok (q_<|x.cps.toList.map λc=>.str ⟨#[c]⟩) S1)
 | _=>.no
section
variable {X:Cx}{pos:Pos}{tg e a:aA}
def MJ{K:aq}{J:Hp}{p:aj}(h:mZ K J p vs)(r:AVs K ρ0 J xs vs):JR K (q_ xs) (RV K p) ρ0 J where
 go:=λi S H ρ x e R g=>by
  obtain⟨v,d,f⟩:=(AVs.jF e r).get g;have hs:=e.SI h;refine⟨⟨vs,v,hs,d⟩,λw H' ⟨e1,y⟩=>?_⟩;subst e1;have:=y vs hs;rw[d]at this
  cases this
  exact⟨.refl,R,f⟩
 stop:=λS H ρ e R _=>⟨vs,e.SI h,by rw[<- r.length];exact aM _⟩
def Ox{K:aq}{J:Hp}{p:aj}(h:Fz K J p vs)(r:AVs K ρ0 J xs vs):JR K (q_ xs) (QM K p) ρ0 J where
 go:=λi S H ρ x e R g=>by
  obtain⟨v,d,f⟩:=(AVs.jF e r).get g;have hs:=(e.fz h).Jh;refine⟨⟨vs,v,hs,d⟩,λw H' ⟨e1,y⟩=>?_⟩;subst e1;have:=y vs hs;rw[d]at this
  cases this
  exact⟨.refl,R,f⟩
 stop:=λS H ρ e R _=>⟨vs,(e.fz h).Jh,by rw[<- r.length];exact aM _⟩
def NF{K:aq}{J:ar}{H0:Hp}{p:aj}{n k:Nat}(h:J[n]?=some p):JR K (jq n k) (QM K p) J H0 where
 go:=λi S H ρ x e R g=>by
  obtain⟨ys,hn,j⟩:=bT.mp<|show(iI S n).bind (·[i]?)=some x from g;obtain⟨d,h1,r⟩:=R.lst (e.get h)<|iS hn;obtain⟨v,f,m⟩:=r.get j;refine⟨⟨d,v,kJ.of h1,f⟩,λw H' ⟨e1,y⟩=>?_⟩;subst e1;have:=y d<|kJ.of h1;rw[f]at this
  cases this
  exact⟨.refl,R,m⟩
 stop:=λS H ρ e R g=>by
  have g:(match iI S n with
   | some ys=>decide (ys.length<=k)
   | none=>false)=true:=g
  cases hn:iI S n with
  | none=>rw[hn]at g;cases g
  | some ys=>
   rw[hn]at g;obtain⟨d,h1,r⟩:=R.lst (e.get h)<|iS hn;exact⟨d,kJ.of h1,by rw[<- r.length];exact bZ g⟩
def OF{K:aq}{J:Hp}{lo hi:Int}:JR K (m_ lo hi) (QN lo (hi-lo).toNat) ρ0 J where
 go:=λi S H ρ x e R g=>by
  have g:(if i<(hi-lo).toNat then some (A.int<|lo+i)else none)=some x:=g;by_cases d:i<(hi-lo).toNat
  ·rw[aN d]at g
   cases g
   refine⟨d,λw H' ⟨e1,y⟩=>?_⟩;subst e1 y;exact⟨.refl,R,.int _⟩
  ·rw[aO d]at g;cases g
 stop:=λS H ρ e R _=>aM _
def NJ{K:aq}{J:Hp}{x:Str}:JR K (q_<|x.cps.toList.map λc=>A.str ⟨#[c]⟩) (Si x) ρ0 J where
 go:=λi S H ρ y e R g=>by
  have g:(x.cps.toList.map λc=>A.str ⟨#[c]⟩)[i]?=some y:=g;rw[aR]at g;obtain⟨c,hc,rfl⟩:=bC.mp g;rw[gv]at hc;refine⟨(Array.getElem?_eq_some_iff.mp hc).1,λw H' ⟨e1,j,d,f⟩=>?_⟩;rw[hc]at d
  cases d
  subst e1 f;exact⟨.refl,R,.str _⟩
 stop:=λS H ρ e R _=>by
  show(x.cps.toList.map λc=>A.str ⟨#[c]⟩).length=x.cps.size;rw[aG,eF]
def nu{c:Ex}(J:AE X e c):AI X tg e (l5 c):=λpins s σ H Q I h9=>by
 z_go;have d:=iP h
 cases hc:c τ S with
 | no=>rw[hc]at d;exact d.elim
 | ex x S1=>
  rw[hc]at d;exact HC J pins s σ H Q I ⟨ρ,S,τ,R,r,by rw[hc];exact d⟩
 | ok a S1=>
  rw[hc]at d
  cases a with
  | tup xs=>
   refine HC J pins s σ H Q I ⟨ρ,S,τ,R,r,?_⟩;rw[hc];intro ρ1 H1 x e1 f g
   cases g with
   | tup h1 r1=>exact⟨_,rfl,⟨_,(mZ.of h1)⟩,d ρ1 H1 _ e1 f<|MJ (mZ.of h1) r1⟩
  | frz xs=>
   refine BV J pins s σ H Q I ⟨ρ,S,τ,R,r,?_⟩;rw[hc];intro ρ1 H1 x e1 f g
   cases g with
   | frz h1 r1=>exact⟨_,rfl,⟨_,h1.Jh⟩,d ρ1 H1 _ e1 f<|Ox h1 r1⟩
  | ref n=>
   obtain⟨xs,hn,d⟩:=iT d;refine BV J pins s σ H Q I ⟨ρ,S,τ,R,r,?_⟩;rw[hc];intro ρ1 H1 x e1 f g
   cases g with
   | ref j=>
    obtain⟨m,h1,r1⟩:=f.lst j<|iS hn;exact⟨_,rfl,⟨_,kJ.of h1⟩,d ρ1 H1 _ e1 f<|NF j⟩
  | str x=>
   obtain⟨k,d⟩:=i8 d;refine Mr J pins s σ H Q I ⟨ρ,S,τ,R,r,?_⟩;rw[hc];intro ρ1 H1 v e1 f g
   cases g with
   | str=>exact⟨x,rfl,k,d ρ1 H1 _ e1 f NJ⟩
  | _=>exact d.elim
abbrev bnd (i:Int):Prop:=-(2 ^ 62)<=i/\i<2 ^ 62
instance (i:Int):Decidable (bnd i):=by unfold bnd;infer_instance
abbrev n6 (c:Ex):Ic:=λτ S=>(c τ S).bind λa S1=>match a with
 | .int j=>gd (bnd j) (.ok (m_ 0 j) S1)
 | _=>.no
def n9{p:Pos}{c:Ex}(J:X.mg "range" = none)(ha:AE X a c)(hg:Gl X "range"<|>θ)(hs:starEach [a] X.env=[(false,eval a X.env)]<|>θ):AI X tg (.Call (.Name "range" p) [a] [] pos) (n6 c):=λpins s σ H Q I h9=>by
 z_go;refine DR hg J (oN ha uf hs) hs pins s σ H Q I ⟨ρ,S,τ,R,r,iM (iP h) .refl λx S1 h1 ρ1 H1 v e1 f g=>?_⟩
 cases g with
 | int j=>
  obtain⟨d,h1⟩:=i8 h1;exact⟨_,rfl,d.1,d.2,by have:=h1 ρ1 H1 _ e1 f OF;rwa [Int.sub_zero]at this⟩
 | _=>exact h1.elim
abbrev nJ (s:Src)(g:Tg)(c:Sm):Nat->Nat->Sm
 | 0,_=>λτ S=>if s.fin S then .nx τ S else .no
 | k+1,i=>λτ S=>match s.get i S with
  | none=>.no
  | some x=>.of (g x τ S) λj S1=>match c j S1 with
   | .nx d f=>nJ s g c k (i+1) d f
   | .ct d f=>nJ s g c k (i+1) d f
   | .bk d f=>.nx d f
   | r=>r
abbrev kN (src:Ic)(g:Tg)(c:Sm):Sm:=λτ S=>.of (src τ S) λs S1=>nJ s g c s.k 0 τ S1
def l7{iter:aA}{src:Ic}{g:Tg}{c:Sm}(hp:PassesOwn (model X.prog X.w) X.A X.env X.xe)(hc:X.calm=true)(hi:AI X tg iter src)(hg:AG X tg g)(hb:J6 X body c)
  (hs:(∀x,foldedSetIterable iter X.env x=pure x)<|>ι):AS X (.For tg iter body [] pos) (kN src g c):=PS.imp (MG hp hc hi hg hb hs) λD σ H h9=>by
 z_go;refine⟨ρ,S,τ,R,r,iM (of_post h) .refl λs S1 h1 ρ1 H1 J e1 R1 jr=>?_⟩;refine⟨λi m L H'=>m+i=s.k/\∃ρ' C d,Ext ρ1 ρ' H1 H'/\Rel X.K ρ' H' C/\SR X.K ρ' H' d L/\wj X ρ' H' D (nJ s g c m i d C),⟨s.k,rfl,ρ1,S1,τ,.refl,R1,r.ext e1,wj.ext h1 e1⟩,?_⟩;rintro i m V H2 ⟨hm,j,F,M,e2,R2,r2,q⟩
 cases m with
 | zero=>
  left;have q:wj X j H2 D (if s.fin F then .nx M F else .no):=q
  cases hf:s.fin F with
  | false=>rw[hf]at q;exact q.elim
  | true=>
   rw[hf]at q;refine⟨by rw[show i=s.k by lia];exact jr.stop F H2 j e2.toExt0 R2 hf,q j H2 V .refl R2 r2⟩
 | succ m=>
  right;have q:wj X j H2 D (match s.get i F with
   | none=>.no
   | some x=>.of (g x M F) λW S1=>match c W S1 with
    | .nx d C=>nJ s g c m (i+1) d C
    | .ct d C=>nJ s g c m (i+1) d C
    | .bk d C=>.nx d C
    | r=>r):=q
  cases hx:s.get i F with
  | none=>rw[hx]at q;exact q.elim
  | some x=>
   rw[hx]at q;obtain⟨Y,hy⟩:=jr.go i F H2 j x e2.toExt0 R2 hx;refine⟨Y,λL H'=>m+(i+1)=s.k/\∃ρ' C d,Ext ρ1 ρ' H1 H'/\Rel X.K ρ' H' C/\SR X.K ρ' H' d L/\wj X ρ' H' D (nJ s g c m (i+1) d C),λL H' z=>⟨m,cE _,z⟩,λv H3 y=>?_⟩;obtain⟨e3,R3,v3⟩:=hy v H3 y;refine⟨j,F,M,x,R3,r2.ext e3,v3,iM (of_post q) e3 λT S4 B Z H4 σ4 e4 R4 r4=>⟨Z,S4,T,R4,r4,?_⟩⟩;have f:=e3.trans e4
   cases p:c T S4 with
   | nx G O=>rw[p]at B;exact λN H5 U P R5 r5=>⟨(),N,O,G,(e2.trans f).trans P,R5,r5,wj.ext B<|f.trans P⟩
   | ct G O=>rw[p]at B;exact λN H5 U P R5 r5=>⟨(),N,O,G,(e2.trans f).trans P,R5,r5,wj.ext B<|f.trans P⟩
   | bk G O=>rw[p]at B;exact Bk.ext B f
   | rt x5 O=>rw[p]at B;exact vD.ext B f
   | ex x5 O=>rw[p]at B;exact XE.ext B f
   | no=>rw[p]at B;exact B
end
section
variable {X:Cx}{tg a b c0:aA}{pos:Pos}
abbrev vh (lo hi:Int):Src:=⟨(lo-hi).toNat,λi _=>if i<(lo-hi).toNat then some (.int<|lo-i)else none,λ_=>true⟩
def PK{K:aq}{J:Hp}{lo hi:Int}:JR K (vh lo hi) (QL lo (lo-hi).toNat) ρ0 J where
 go:=λi S H ρ x e R g=>by
  have g:(if i<(lo-hi).toNat then some (A.int<|lo-i)else none)=some x:=g;by_cases d:i<(lo-hi).toNat
  ·rw[aN d]at g
   cases g
   refine⟨d,λw H' ⟨e1,y⟩=>?_⟩;subst e1 y;exact⟨.refl,R,.int _⟩
  ·rw[aO d]at g;cases g
 stop:=λS H ρ e R _=>aM _
abbrev Sa (a b k:A)(J:iK):R Src:=match a,b,k with
 | .int i,.int j,.int m=>gd (m=-1/\bnd i/\bnd j) (.ok (vh i j) J)
 | _,_,_=>.no
def GR{a b k:A}{P:Src->iK->Prop}{E:Str->iK->Prop}(h:(Sa a b k S3).post P E):∃i j,a=.int i/\b=.int j/\k=.int (-1)/\bnd i/\bnd j/\P (vh i j) S3:=by
 unfold Sa at h;split at h
 ·obtain⟨⟨z,h1,d⟩,h⟩:=i8 h;exact⟨_,_,rfl,rfl,by rw[z],h1,d,h⟩
 ·exact h.elim
abbrev zF (c d:Ex)(e:Ex):Ic:=λτ S=>(c τ S).bind λa S1=>(d τ S1).bind λb f=>(e τ f).bind λk g=>Sa a b k g
def yX{c d e:Ex}{i j:Int}(h:c τ S=.ok (.int i) S1)(h':d τ S1=.ok (.int j) S2)(J:e τ S2=.ok (.int<|-1) S3)(hb:bnd i)(hb':bnd j):zF c d e τ S=.ok (vh i j) S3:=by
 unfold zF;rw[h];show(d τ S1).bind _=_;rw[h'];show(e τ S2).bind _=_;rw[J];exact aN ⟨rfl,hb,hb'⟩
def wJ{p:Pos}{c d e:Ex}(hm:X.mg "range" = none)(ha:AE X a c)(hb:AE X b d)(hc:AE X c0 e)(hg:Gl X "range"<|>θ)(hs:starEach [a,b,c0] X.env=[(false,eval a X.env),(false,eval b X.env),(false,eval c0 X.env)]<|>θ)(hs2:starEach [b,c0] X.env=[(false,eval b X.env),(false,eval c0 X.env)]<|>θ)(hs3:starEach [c0] X.env=[(false,eval c0 X.env)]<|>θ) :
  AI X tg (.Call (.Name "range" p) [a,b,c0] [] pos) (zF c d e):=λpins s σ H Q I h9=>by
 z_go;refine K1 hg hm (oN ha (oN hb (oN hc uf hs3)<|by rw[hs2,hs3])<|by rw[hs,hs2]) hs hs2 pins s σ H Q I ⟨ρ,S,τ,R,r,iM (iP h) .refl λx S1 h1 ρ1 H1 v e1 F G=>⟨ρ1,S1,τ,F,r.ext e1,iM (iP h1) e1 λy J q k H2 w e2 R2 C=>⟨k,J,τ,R2,(r.ext e1).ext e2,iM (iP q) (e1.trans e2) λz T K m O u e3 B P=>?_⟩⟩⟩;obtain⟨i,j,M,hy,L,f,g,N⟩:=GR K;subst M hy L
 cases G
 cases C
 cases P
 exact⟨_,_,rfl,⟨f.1,f.2,g.1,g.2⟩,N m O _ ((e1.trans e2).trans e3) B PK⟩
end
abbrev R.jD {α β:Type}(r:R α)(f:α->iK->R β):R β:=match r with
 | .ok a S=>f a S
 | _=>.no
def jN{α β:Type}{r:R α}{f:α->iK->R β}{b:β}(h:r.jD f=.ok b S2):∃a S,r=.ok a S/\f a S=.ok b S2:=by
 cases r with
 | ok a S=>exact⟨a,S,rfl,h⟩
 | ex _ _=>cases h
 | no=>cases h
def uY{α β:Type}{r:R α}{f:α->iK->R β}{P:β->iK->Prop}{E:Str->iK->Prop}(h:(r.jD f).post P E):∃a S,r=.ok a S/\(f a S).post P E:=by
 cases r with
 | ok a S=>exact⟨a,S,rfl,h⟩
 | ex _ _=>exact h.elim
 | no=>exact h.elim
def Ax{α β:Type}{o:Option β}{f:β->R α}{a:α}(h:opt o f=.ok a S):∃b,o=some b/\f b=.ok a S:=by
 cases o with
 | none=>cases h
 | some b=>exact⟨b,rfl,h⟩
abbrev jt (s:Src)(g:Tg)(t:Te)(e:Ex):Nat->Nat->ad->iK->R (ad)
 | 0,_=>λ_ S=>if s.fin S then .ok [] S else .no
 | k+1,i=>λτ S=>opt (s.get i S) λx=>(g x τ S).jD λd S1=>(t d S1).jD λb f=>match b with
  | true=>(e d f).jD λy m=>(jt s g t e k (i+1) d m).jD λys j=>.ok (y::ys) j
  | false=>jt s g t e k (i+1) d f
abbrev mG (cap:List<|bi)(τ:ad):ad:=cap.map λo=>match o with
 | some j=>τ.getD j .unb
 | none=>.unb
abbrev jH (cap:List<|bi)(src:Ic)(g:Tg)(t:Te)(e:Ex):Ex:=λτ S=>(src τ S).bind λs S1=>(jt s g t e s.k 0 (mG cap τ) S1).jD λys d=>newL ys d
abbrev lX:Te:=λ_ S=>.ok true S
def yY{s:Src}{g:Tg}{t:Te}{e:Ex}{k:Nat}{T:Prop}(h:jt s g t e (k+1) i τ S=.ok zs S')
  (q:∀x τ1 S1 b S2,s.get i S=some x->g x τ S=.ok τ1 S1->t τ1 S1=.ok b S2->(b=true->∃y S3 ws,e τ1 S2=.ok y S3/\jt s g t e k (i+1) τ1 S3=.ok ws S'/\zs=y::ws)->(b=false->jt s g t e k (i+1) τ1 S2=.ok zs S')->T):T:=by
 obtain⟨x,m,h⟩:=Ax h;obtain⟨τ1,S1,h1,h⟩:=jN h;obtain⟨b,S2,j,h⟩:=jN h;refine q x τ1 S1 b S2 m h1 j (λd=>?_) λd=>?_
 ·subst d;obtain⟨y,S3,f,h⟩:=jN h;obtain⟨ws,z,p,h⟩:=jN h
  cases h
  exact⟨y,S3,ws,f,p,rfl⟩
 ·subst d;exact h
structure Out (ρ1:ar)(H1:Hp)(D:aj)(accV:List V)(ρ:ar)(H:Hp):Prop where
 e0:Ext0 ρ1 ρ H1 H
 fr:∀a u,a≠D->H1 a=some u->a∉ρ1->H a=some u
 nw:∀a∈ρ,a∈ρ1\/H1 a=none
 nD:D∉ρ
 hD:H D=some (.lst accV)
def Out.stay{H1 H3 H7:Hp}(o:Out ρ1 H1 D accV ρ3 H3)(hD1:H1 D=none)(J:Ext ρ3 ρ7 H3 H7):Out ρ1 H1 D accV ρ7 H7:=by
 refine⟨⟨o.e0.pre.trans J.pre,λa u i h=>J.im a u i<|o.e0.im a u i h⟩,λa u na d g=>J.fr a u (o.fr a u na d g) λz=>(o.nw a z).elim g λz=>by(rw[z]at d;cases d),λa k=>?_,λz=>(J.nw D z).elim o.nD λz=>by(rw[o.hD]at z;cases z),J.fr D _ o.hD o.nD⟩;by_cases f:a∈ρ1
 ·exact .inl f
 ·right
  cases q:H1 a with
  | none=>rfl
  | some u=>
   have j:a≠D:=i7 q hD1
   rcases J.nw a k with z|z
   ·exact((o.nw a z).elim f λz=>by(rw[z]at q;cases q)).elim
   ·rw[o.fr a u j q f]at z;cases z
def Out.put{H1 H:Hp}(o:Out ρ1 H1 D accV ρ H)(ex:Ext0 ρ ρ H<|upd H D<|.lst vs):Out ρ1 H1 D vs ρ (upd H D<|.lst vs):=
 ⟨⟨o.e0.pre,λa u i h=>ex.im a u i<|o.e0.im a u i h⟩,λa u na d f=>by rw[iV na];exact o.fr a u na d f,o.nw,o.nD,jI⟩
def Out.end{H1 H:Hp}{D:aj}(o:Out ρ1 H1 D accV ρ H)(J:H1 D=none):Ext ρ1 (ρ++[D]) H1 H:=by
 refine⟨⟨o.e0.pre.trans<|fS _ _,o.e0.im⟩,λa u d na=>o.fr a u (i7 d J) d na,λa f=>?_⟩
 rcases aV.mp f with z|z
 ·exact o.nw a z
 ·have:a=D:=by simpa using z
  rw[this];exact .inr J
abbrev Cq (K:aq)(ρ1:ar)(H1:Hp)(D:aj)(ys:ad)(k:Nat)(E:ar->Hp->Prop)(P:Nat->Nat->ad->iK->ad->Prop)(i m:Nat)(σ:L2.St)(H:Hp):Prop:=
 m+i=k/\∃ρ S τ acc zs accV,Out ρ1 H1 D accV ρ H/\E ρ H/\Rel K ρ H S/\SR K ρ H τ σ/\AVs K ρ H acc accV/\P m i τ S zs/\acc++zs=ys
section
variable {K:aq}{ρ1 ρ:ar}{H1 H:Hp}{D:aj}{ys acc zs:ad}{accV:List V}{k i m:Nat}{E:ar->Hp->Prop}{P:Nat->Nat->ad->iK->ad->Prop}{σ:L2.St}{S:iK}{τ:ad}
def Cq.el{T:Prop}(h:Cq K ρ1 H1 D ys k E P i m σ H)(q:∀ρ S τ acc zs accV,m+i=k->Out ρ1 H1 D accV ρ H->E ρ H->Rel K ρ H S->SR K ρ H τ σ->AVs K ρ H acc accV->P m i τ S zs->acc++zs=ys->T):T:=by
 obtain⟨d,ρ,S,τ,acc,zs,accV,h1,p,g,B,z,f,j⟩:=h;exact q ρ S τ acc zs accV d h1 p g B z f j
def Cq.of(J:m+i=k)(o:Out ρ1 H1 D accV ρ H)(e:E ρ H)(R:Rel K ρ H S)(r:SR K ρ H τ σ)(v:AVs K ρ H acc accV)(p:P m i τ S zs)(q:acc++zs=ys):Cq K ρ1 H1 D ys k E P i m σ H:=⟨J,ρ,S,τ,acc,zs,accV,o,e,R,r,v,p,q⟩
end
abbrev Pg (K:aq)(c:Ex):TE:=λσ H Q=>∃ρ S τ a d,Rel K ρ H S/\SR K ρ H τ σ/\c τ S=.ok a d/\∀ρ' H' v,Ext ρ ρ' H H'->Rel K ρ' H' d->AV K ρ' H' a v->Q v H'
abbrev M_ (K:aq)(c:Te):TT:=λσ H Q=>∃ρ S τ a d,Rel K ρ H S/\SR K ρ H τ σ/\c τ S=.ok a d/\∀ρ' H',Ext ρ ρ' H H'->Rel K ρ' H' d->Q a H'
abbrev ON (K:aq)(g:Tg):TG:=λv σ H Q=>∃ρ S τ a f j,Rel K ρ H S/\SR K ρ H τ σ/\AV K ρ H a v/\g a τ S=.ok f j/\∀ρ' H' d,Ext ρ ρ' H H'->Rel K ρ' H' j->SR K ρ' H' f d->Q d H'
section
variable {X:Cx}{pos:Pos}{tg iter elt e:aA}{ifs:List aA}{scope:Scope}{N:am}{cap:List (bi)}{src:Ic}{g:Tg}{t:Te}{c:Ex}
def AE.e0{K:aq}(hK:X.K=K)(h:AE X e c):PE X e (Pg K c):=PE.imp h λσ H Q ⟨ρ,S,τ,a,g,R,r,hc,q⟩=>⟨ρ,S,τ,by rw[hK];exact R,by rw[hK];exact r,by rw[hc];exact λρ' H' v e f d=>q ρ' H' v e (by rw[<- hK];exact f)<|by rw[<- hK];exact d⟩
def AT.t0{K:aq}(hK:X.K=K)(h:AT X e t):PT X e (M_ K t):=PT.imp h λσ H Q ⟨ρ,S,τ,a,f,R,r,hc,q⟩=>⟨ρ,S,τ,by rw[hK];exact R,by rw[hK];exact r,by rw[hc];exact λρ' H' e d=>q ρ' H' e<|by rw[<- hK];exact d⟩
def AG.g0{K:aq}(hK:X.K=K)(h:AG X e g):PG X e (ON K g):=by
 subst hK;refine PG.imp h λv σ H Q h9=>?_;obtain⟨ρ,S,τ,a,d,f,R,r,va,hc,q⟩:=h9;exact⟨ρ,S,τ,a,R,r,va,by rw[hc];exact q⟩
abbrev OM (X:Cx)(ifs:List aA)(t:Te):Prop:=Jc X ifs<|M_ X.K t
def oK:OM X [] lX:=λpins s σ H Q I ⟨ρ,S,τ,a,d,R,r,hc,q⟩=>KU pins s σ H Q I<|by cases hc;exact q ρ H .refl R
def yt(h:AT X e t):OM X [e] t:=JU<|h.t0 rfl
def LR{K:aq}{H:Hp}(r:SR K ρ H τ σ)(cap:List<|bi):SR K ρ H (mG cap τ) (cap.map<|JK σ):=by
 refine⟨by simp[mG],λi a h=>?_⟩;unfold mG at h;rw[aR]at h;obtain⟨o,f,e⟩:=bC.mp h
 cases o with
 | none=>exact .inl e.symm
 | some j=>
  have e:τ.getD j .unb=a:=e
  cases d:τ[j]? with
  | none=>rw[aF,d]at e;exact .inl e.symm
  | some b=>
   rw[aF,d]at e;have e:b=a:=e;subst e
   rcases r.at j b d with z|⟨v,h1,g⟩
   ·exact .inl z
   ·exact .inr ⟨v,by rw[aR,f];show some ((σ[j]?).getD none)=_;rw[h1];rfl,g⟩
def Rel.EL{K:aq}{H:Hp}{p:aj}(R:Rel K ρ H S)(J:H p=none):p∉ρ:=λg=>by
 obtain⟨n,hn,e⟩:=c5.mp g;have j:n<S.length:=by rw[<- R.len];exact hn
 have:=R.at n p S[n] (by rw[aE hn,e]) (aE j)
 cases d:S[n]with
 | lst xs=>rw[d]at this;obtain⟨f,h,_⟩:=this;rw[J]at h;cases h
 | dct _|dki _|dks _|dcp _=>rw[d]at this;obtain⟨f,h,_⟩:=this;rw[J]at h;cases h
 | dcf _|dkf _=>rw[d]at this;obtain⟨_,f,h,_⟩:=this;rw[J]at h;cases h
 | ins _ _=>rw[d]at this;obtain⟨_,_,h⟩:=this;rw[J]at h;cases h
def yS(σ:L2.St)(H:Hp)(Q:VK)(h:tE X (jH cap src g t c) σ H Q):O4 cap (tI X src) (ON X.K g) (M_ X.K t) (Pg X.K c) σ H Q:=by
 kpf_c;refine⟨ρ,S,τ,R,r,iM (iP h) .refl λs S1 h1 ρ1 H1 J e1 R1 jr D hD=>?_⟩;obtain⟨ys,M,Z,h1⟩:=uY h1;obtain⟨G,h1⟩:=i8 h1;have h1:vD X ρ H Q (.ref M.length) (M++[.lst ys]):=h1;obtain⟨eD,RD⟩:=R1.im (u:=.lst []) hD;refine⟨Cq X.K ρ1 H1 D ys s.k (λ_ _=>True) λm i τ S zs=>jt s g t c m i τ S=.ok zs M,⟨s.k,.of rfl ⟨eD.toExt0,λa u na hu _=>by rw[iV na];exact hu,λa ha=>.inl ha,R1.EL hD,jI⟩ trivial RD (LR ((r.ext e1).ext eD) cap) .nil Z rfl⟩,?_⟩;intro i m σ3 H3 hw;refine hw.el λp F τ3 acc zs accV hm C _ V r3 q d f=>?_;clear hw
 cases m with
 | zero=>
  left;have d:(if s.fin F then Am.R.ok [] F else .no)=.ok zs M:=d
  cases hf:s.fin F with
  | false=>rw[hf]at d;cases d
  | true=>
   rw[hf]at d
   cases d
   rw[bJ]at f;subst f;refine⟨by rw[show i=s.k by lia];exact jr.stop _ H3 p C.e0 V hf,?_⟩;obtain⟨RT,gt⟩:=V.take C.hD C.nD q;exact h1 (p++[D]) H3 _ (e1.trans<|C.end hD) RT<|.ref gt
 | succ m=>
  right;refine yY d λx z S4 b S5 hx hg4 ht5 hT hF=>?_;have jg:=jr.go i F H3 p x C.e0 V hx;refine⟨jg.1,λv H4 y=>?_⟩;obtain⟨e4,R4,v4⟩:=jg.2 v H4 y;refine⟨p,F,τ3,x,z,S4,R4,r3.ext e4,v4,hg4,λU H5 σ5 e5 R5 P=>⟨U,S4,z,b,S5,R5,P,ht5,λY H6 O R6=>?_⟩⟩;have j:=(e4.trans e5).trans O
  cases b with
  | false=>
   dsimp only;rw[aO bN];exact⟨m,cE _,.of () (C.stay hD j) trivial R6 (P.ext O) (q.ext j) (hF rfl) f⟩
  | true=>
   dsimp only;rw[aN rfl];obtain⟨y,S6,ws,he6,T,L⟩:=hT rfl;refine⟨Y,S5,z,y,S6,R6,P.ext O,he6,λρ7 H7 w W R7 v7=>?_⟩;have N:=C.stay hD<|j.trans W;obtain⟨B,R8⟩:=R7.out (ws:=accV++[w]) N.hD N.nD;have l1:=q.length;refine⟨accV,N.hD,?_,m,cE _,.of () (N.put B) trivial R8 ((P.ext<|O.trans W).jF B) (AVs.jF B<|(q.ext<|j.trans W).append<|.one v7) T ?_⟩
   ·have:(acc++zs).length<=sizeLine:=by rw[f];exact G
    rw[L,aL,bu]at this
    lia
   ·rw[br,<- f,L];rfl
def qK(hc:X.calm=true)(J:CpScope X scope N cap)(hi:AI X tg iter src)(hg:∀C s₀ H₀ ex,AG (jG X scope N C s₀ H₀ ex) tg g)(ht:∀C s₀ H₀ ex,OM (jG X scope N C s₀ H₀ ex) ifs t)(he:∀C s₀ H₀ ex,AE (jG X scope N C s₀ H₀ ex) elt c)
  (hs:(∀x,foldedSetIterable iter X.env x=pure x)<|>ι):AE X (.ListComp elt [⟨tg,iter,ifs,0⟩] scope pos) (jH cap src g t c):=
 PE.imp (Qm hc J hi (g:=ON X.K g) (tc:=M_ X.K t) (te:=Pg X.K c) (λC s₀ H₀ ex=>(hg C s₀ H₀ ex).g0 rfl) (λC s₀ H₀ ex=>ht C s₀ H₀ ex) (λC s₀ H₀ ex=>(he C s₀ H₀ ex).e0 rfl) hs) yS
def xE{i:Nat}{x:Str}{spos:Pos}(hN:X.N.Nodup)(hc:X.calm=true)(Sc:CpScope X scope N cap)(hi:AI X tg iter src)(hg:∀C s₀ H₀ ex,AG (jG X scope N C s₀ H₀ ex) tg g)(ht:∀C s₀ H₀ ex,OM (jG X scope N C s₀ H₀ ex) ifs t)(he:∀C s₀ H₀ ex,AE (jG X scope N C s₀ H₀ ex) elt c)
  (J:X.N[i]?=some x<|>θ) (hx:Loc X.env.scope x:=by first|exact Or.inl rfl|exact Or.inr rfl)
  (hsw:(swapsWith (.ListComp elt [⟨tg,iter,ifs,0⟩] scope pos) (some<|.Name x pos') spos.line X.env=pure true)<|>θ) (hf:X.fn x=true\/X.env.scope.names.lookup x=some .local<|>γ)
  (hs:(∀x,foldedSetIterable iter X.env x=pure x)<|>ι):AS X (.Assign [.Name x pos'] (.ListComp elt [⟨tg,iter,ifs,0⟩] scope pos) spos) (jm (jH cap src g t c)<|jj i):=
 PS.imp (Hi hN J hx hc Sc hi (g:=ON X.K g) (tc:=M_ X.K t) (te:=Pg X.K c) (λC s₀ H₀ ex=>(hg C s₀ H₀ ex).g0 rfl) (λC s₀ H₀ ex=>ht C s₀ H₀ ex) (λC s₀ H₀ ex=>(he C s₀ H₀ ex).e0 rfl) hsw hf hs) λD σ H ⟨ρ,S,τ,R,r,h⟩=>
  yS σ H _ ⟨ρ,S,τ,R,r,iM (of_post h) .refl λa S1 h1 ρ1 H1 x e1 d f=>h1 ρ1 H1 _ e1 d<|(r.ext e1).set f⟩
end
abbrev A.lst? (S:iK):A->Option (ad)
 | .ref n=>iI S n
 | _=>none
abbrev z8 (f:A->ad->iK->R A)(co:Ex)(d:oX):Ex:=λτ S=>(co τ S).bind λo S1=>opt (o.lst? S1) λ_=>(d τ S1).bind λg j=>f o g j
abbrev Sf (f:A->ad->iK->R A)(co:Ex):Ex:=λτ S=>(co τ S).bind λo S1=>opt (o.lst? S1) λ_=>f o [] S1
abbrev rM (X:Cx)(f:A->ad->iK->R A):V->List V->Hp->VK->Prop:=λx g H Q=>∃ρ S o d,Rel X.K ρ H S/\AV X.K ρ H o x/\AVs X.K ρ H d g/\(f o d S).post (vD X ρ H Q) (XE X ρ H)
section
variable {X:Cx}{apos cpos:Pos}{o e:aA}{es:List aA}{name:Str}{id:String}{f:A->ad->iK->R A}{co:Ex}{d:oX}
def lst?_ty{K:aq}{H:Hp}{x:A}{v:V}(R:Rel K ρ H S)(h:AV K ρ H x v)(e:x.lst? S=some xs):Rc K "list" v H:=by
 cases h with
 | ref h=>
  obtain⟨d,h1,_⟩:=R.lst h<|iS e;exact .inl ⟨rfl,d,kJ.of h1⟩
 | _=>cases e
def p7(slot:Slot "list" name id)(hty:typeOf (.builtin id)=pure (.type "method_descriptor"))(hm:OJ X id<|rM X f)(ho:AE X o co)(ha:AL X (e::es) d)
  (hbase:attributeBase o name X.env (eval o X.env)=eval o X.env<|>θ)
  (hfew:(((backTo cpos<|starEach (e::es) X.env).all (λx=>!x.1) && (backToKw cpos<|keywordEach [] X.env).all (λx=>x.1.isSome)
   && decide ((e::es).length+([]:List Keyword).length+(if ([]:List Keyword).isEmpty then 0 else 1)<30))=true)<|>θ)
  (hline:(apos.endLine == cpos.line)=true<|>θ) (hs:starEach (e::es) X.env=(false,eval e X.env)::starEach es X.env<|>θ) (J:((backTo cpos<|starEach es X.env).any (·.1)=false)<|>θ) :
  AE X (.Call (.Attribute o name apos) (e::es) [] cpos) (z8 f co d):=PE.imp (O2 PySem.F.plainAttrs_list slot hty hm ho ha hbase hfew hline hs J) λσ H Q h9=>by
 z_go;refine⟨ρ,S,τ,R,r,iM (iP h) .refl λx S1 h1 ρ1 H1 v e1 j k=>?_⟩;obtain⟨xs,B,h1⟩:=iT h1;refine⟨lst?_ty j k B,ρ1,S1,τ,j,r.ext e1,iM (iP h1) e1 λC q m g H2 G e2 R2 p=>?_⟩;exact⟨g,q,x,C,R2,k.ext e2,p,iM m (e1.trans e2) λ_ _ z=>z.ext<|e1.trans e2⟩
abbrev kU (o:A)(J:ad)(S:iK):R A:=match o,J with
 | .ref n,[x]=>opt (iI S n) λxs=>gd (xs.length<sizeLine) (.ok .non<|S.set n<|.lst<|xs++[x])
 | _,_=>.no
def m7:OJ X "list.append" (rM X kU):=λpins s σ H x z v us Q I rx q h9=>by
 obtain⟨ρ,S,o,m,R,f,va,h⟩:=h9
 cases f with
 | @ref p n d=>
  match m,va,h with
  | [],_,h=>exact h.elim
  | _::_::_,_,h=>exact h.elim
  | [y],va,h=>
   obtain⟨w,rfl,hw⟩:=D3 va;kt_k;obtain⟨j,h⟩:=i8 h;obtain⟨g,h1,r⟩:=R.lst d<|iS hn;obtain⟨ex,k⟩:=R.put d (iS hn)<|r.append<|.one hw;exact sd pins s σ H _ _ v us Q I rx q ⟨p,g,w,rfl,rfl,h1,by rw[<- r.length];exact j,h _ _ _ ex k .non⟩
 | _=>exact h.elim
end
abbrev mE (N:am)(m:Sm)(J:ad)(S:iK):R A:=match m (J++List.replicate (N.length-J.length) .unb) S with
 | .rt a d=>.ok a d
 | .nx _ d=>.ok .non d
 | .ex c d=>.ex c d
 | _=>.no
abbrev qt (K:aq)(n:Nat)(F:ad->iK->R A):Sp:=λg H Q _=>g.length=n/\∃ρ S d a f,Rel K ρ H S/\AVs K ρ H d g/\F d S=.ok a f/\∀ρ' H' v,Ext ρ ρ' H H'->Rel K ρ' H' f->AV K ρ' H' a v->Q v H'
def Jy{K:aq}{H:Hp}{J:ad}(r:AVs K ρ H J vs)(N:am):SR K ρ H (J++List.replicate (N.length-J.length) .unb) (L2.start N vs):=by
 have f:=r.length;refine⟨by unfold L2.start;simp[f],λi a h=>?_⟩;by_cases hi:i<J.length
 ·rw[bw hi]at h;obtain⟨v,hv,d⟩:=r.get h;exact .inr ⟨v,by unfold L2.start;rw[bw<|by simp;lia,aR,hv];rfl,d⟩
 ·rw[b7 (),fV]at h;split at h
  ·exact .inl (aU h).symm
  ·cases h
section
variable {P:ah}{w:af}{K:aq}{mg:Str->aw}{base:ak}
def xB{x:Str}{st:aC}{f:aj}{N ps:am}{k:Nat}{m:Sm}(F:Fun K x qual st f fd)(Sc:FnScope N ps<|i6 st)
  (body:∀(cdv:aa) (A:au) (outer:List Env) (s:az) (H:Hp) (E:XK),Room k (A.deeper<|envOfC qual (i6 st) s.heap.objs.size f cdv)->J6 (Ag p6 P w K mg base N qual (i6 st) f cdv A outer s H E).Pe (nI st) m) :
  FnOk P w K mg base p6 (k+1) f fd ps (qt K ps.length<|mE N m):=by
 refine F.ok Sc (λz H Q E h=>h.1) λcdv B outer s H z Q E C ⟨M,ρ,S,p,a,L,R,va,d,q⟩=>⟨_,body cdv B outer s H E C,ρ,S,_,R,Jy va N,?_⟩;unfold mE at d
 cases g:m (p++List.replicate (N.length-p.length) .unb) S with
 | rt b j=>rw[g]at d;cases d;exact q
 | nx τ j=>rw[g]at d;cases d;exact λρ' H' J e G _=>q ρ' H' _ e G .non
 | bk τ j=>rw[g]at d;cases d
 | ct τ j=>rw[g]at d;cases d
 | ex c j=>rw[g]at d;cases d
 | no=>rw[g]at d;cases d
end
meta abbrev qV (P:ah)(w:af)(K:aq)(mg:Str->aw)(base:ak)(k:Nat)(x:Str)(ps:am)(F:ad->iK->R A):Prop:=Kn P w K mg base k x ps<|qt K ps.length F
abbrev eFn (F:ad->iK->R A)(d:oX):Ex:=λτ S=>(d τ S).bind λf S1=>match F f S1 with
 | .ok a g=>.ok a g
 | _=>.no
section
variable {X:Cx}{pos p:Pos}{e:aA}{es:List aA}{x:Str}{ps:am}{k:Nat}{F:ad->iK->R A}{d:oX}
def BN(G:qV X.prog X.w X.K X.mg X.base k x ps F)(hr:Room k X.A)(ha:AL X (e::es) d)(hl:∀τ S as S',d τ S=.ok as S'->as.length=ps.length)(hg:Gl X x<|>θ)(hdb:(x == ("__debug__" : Str))=false<|>η)
  (hs:starEach (e::es) X.env=(false,eval e X.env)::starEach es X.env<|>θ) (J:((backTo pos<|starEach es X.env).any (·.1)=false)<|>θ):AE X (.Call (.Name x p) (e::es) [] pos) (eFn F d):=
 PE.imp (Pu G hr ha hg hdb hs J) λσ H Q h9=>by
  z_go;refine⟨ρ,S,τ,R,r,?_⟩;have f:=iP h
  cases hd:d τ S with
  | no=>rw[hd]at f;exact f
  | ex c S1=>rw[hd]at f;exact f
  | ok as S1=>
   rw[hd]at f;intro ρ1 H1 B e1 z q;rw[bJ];refine⟨by rw[<- q.length];exact hl τ S as S1 hd,ρ1,S1,as,?_⟩;have f:Am.R.post (match F as S1 with
    | .ok a g=>.ok a g
    | _=>.no) (vD X ρ H Q) (XE X ρ H):=f
   cases m:F as S1 with
   | ok a g=>rw[m]at f;exact⟨a,g,z,q,rfl,λj H2 v e2=>f j H2 v<|e1.trans e2⟩
   | ex c g=>rw[m]at f;exact f.elim
   | no=>rw[m]at f;exact f.elim
def tZ:∀τ S as S',iU τ S=.ok as S'->as.length=0:=λτ S as S' h=>by cases h;rfl
def mY{c:Ex}{d:oX}{n:Nat}(h:∀τ S as S',d τ S=.ok as S'->as.length=n):∀τ S as S',iJ c d τ S=.ok as S'->as.length=n+1:=λτ S as S' e=>by
 unfold iJ at e
 cases hc:c τ S with
 | ok a S1=>
  rw[hc]at e
  cases hd:d τ S1 with
  | ok bs f=>
   have e:R.bind (d τ S1) (λas f=>.ok (a::as) f)=.ok as S':=e;rw[hd]at e;cases e;rw[bu,h τ S1 bs _ hd]
  | ex _ _=>
   have e:R.bind (d τ S1) (λas f=>.ok (a::as) f)=.ok as S':=e;rw[hd]at e;cases e
  | no=>
   have e:R.bind (d τ S1) (λas f=>.ok (a::as) f)=.ok as S':=e;rw[hd]at e;cases e
 | ex _ _=>rw[hc]at e;cases e
 | no=>rw[hc]at e;cases e
end
section
variable {X:Cx}{pos:Pos}{a b c:aA}
abbrev To (J:A->A->iK->R A)(cc:Ex)(τ:ad)(b k:A)(S:iK):R A:=match k with
 | .bl true=>(cc τ S).bind λc d=>J b c d
 | .bl false=>.ok (.bl false) S
 | _=>.no
abbrev Lw (f J:A->A->iK->R A)(ca cb cc:Ex):Ex:=λτ S=>(ca τ S).bind λa S1=>(cb τ S1).bind λb d=>(f a b d).bind λk g=>To J cc τ b k g
def ED{f f':A->A->iK->R A}{ca cb cc:Ex}{H:Hp}{Q:VK}(h:tE X (Lw f f' ca cb cc) σ H Q):Ah (r2 X f) (r2 X f') (tE X ca) (tE X cb) (tE X cc) σ H Q:=by
 kpf_c;refine⟨ρ,S,τ,R,r,iM (iP h) .refl λa S1 h1 ρ1 H1 x e1 N O=>⟨ρ1,S1,τ,N,r.ext e1,iM (iP h1) e1 λb P K m H2 y e2 R2 G=>?_⟩⟩;have j:=e1.trans e2;refine⟨m,P,a,b,R2,O.ext e2,G,iM (iP K) j λk M C g V z e3 F W=>?_⟩;have d:=j.trans e3
 cases k with
 | bl k=>
  cases zx W
  refine⟨k,rfl,?_⟩
  cases k with
  | true=>
   rw[aN rfl];exact⟨g,M,τ,F,r.ext d,iM (iP C) d λc J T p Y w B U L=>⟨p,J,b,c,U,G.ext<|e3.trans B,L,iM T (d.trans B) λ_ _ q=>q.ext<|d.trans B⟩⟩
  | false=>
   rw[aO bN];exact C g V _ d F<|.bl false
 | _=>exact C.elim
def O6{f f':A->A->iK->R A}{ca cb cc:Ex}(ho:ly X (compareOp op)<|r2 X f)(J:ly X (compareOp op')<|r2 X f')(ha:AE X a ca)(hb:AE X b cb)(hc:AE X c cc)(hm:lastMarks [op,op'] [b,c]=false<|>ν) :
  AE X (.Compare a [op,op'] [b,c] pos) (Lw f f' ca cb cc):=PE.imp (EG ho J ha hb hc hm) λ_ _ _ h=>ED h
def Ql{f f':A->A->iK->R A}{ca cb cc:Ex}(ho:ly X (compareOp op)<|r2 X f)(J:ly X (compareOp op')<|r2 X f')(ha:AE X a ca)(hb:AE X b cb)(hc:AE X c cc)(hm:lastMarks [op,op'] [b,c]=false<|>ν) :
  AT X (.Compare a [op,op'] [b,c] pos) (oY<|Lw f f' ca cb cc):=PT.imp (HG ho J ha hb hc hm) λσ H Q h9=>by
 z_go;refine ED ⟨ρ,S,τ,R,r,iM (iP h) .refl λc S1 h1 ρ1 H1 x e1 g d=>?_⟩
 cases c with
 | bl k=>cases zx d;exact⟨k,rfl,h1 ρ1 H1 e1 g⟩
 | _=>exact h1.elim
abbrev QJ (S:iK)(x:A):ad->bd
 | []=>some false
 | z::zs=>(o_ S 12 z x).bind λp=>(QJ S x zs).map λq=>p || q
abbrev Jf (J:Bool)(x y:A)(S:iK):R A:=opt (y.seq S) λys=>opt (QJ S x ys) λb=>.ok (.bl<|if J then !b else b) S
def tY{H:Hp}{x:A}{v:aa}(I:Inv X pins σ H s)(R:Rel X.K ρ H S)(hu:X.A.units+64<cLine)(hx:AV X.K ρ H x vx)(rx:RelV vx v) :
  ∀{ys:ad} {us:List V} {its:ap} {b:Bool},AVs X.K ρ H ys us->Vals us its->QJ S x ys=some b->∃e:aa->Bool,(∀w∈its,SeqAt.EqAt X.A.in1 s w v<|e w)/\its.any e=b:=by
 intro ys
 induction ys with
 | nil=>
  intro us its b h1 k h
  cases h1
  cases k
  exact⟨λ_=>false,(λw hw=>by cases hw),aU h⟩
 | cons z zs B=>
  intro us its b h1 k h
  cases h1 with
  | cons J m=>
   rename_i u us
   cases k with
   | cons r L=>
    rename_i f its
    classical
    obtain⟨p,G,h⟩:=bT.mp h;obtain⟨q,M,h⟩:=bC.mp h;obtain⟨e,g,C⟩:=B m L M;have h0:=(yI I R 12 X.A.in1 z x u vx f v p (by rw[in1_units];omega) J hx r rx G).2.1;subst h
    cases p with
    | true=>
     refine⟨λw=>if w=f then true else e w,λw hw=>?_,?_⟩
     ·by_cases d:w=f
      ·dsimp[d,cU];exact h0
      ·dsimp[d,cR]
       rcases aY.mp hw with z|z
       ·exact absurd z d
       ·exact g w z
     ·simp
    | false=>
     by_cases j:f∈its
     ·refine⟨e,λw hw=>?_,?_⟩
      ·rcases aY.mp hw with z|z
       ·rw[z];exact g f j
       ·exact g w z
      ·rw[eY,C,gE]
       cases q with
       | true=>simp
       | false=>
        have:=List.any_eq_false.mp C f j;simpa using this
     ·refine⟨λw=>if w=f then false else e w,λw hw=>?_,?_⟩
      ·by_cases d:w=f
       ·dsimp[d,cU];exact h0
       ·dsimp[d,cR]
        rcases aY.mp hw with z|z
        ·exact absurd z d
        ·exact g w z
      ·rw[eY,<- C];dsimp[cU,gE];have:∀l:ap,(∀w∈l,w≠f)->l.any (λw=>if w=f then false else e w)=l.any e:=λl F=>by
        induction l with
        | nil=>rfl
        | cons c l B=>rw[eY,eY,B λw hw=>F w<|aJ _ hw,aO<|F c<|aK ..]
       exact this its λw hw z=>j<|z ▸ hw
def Rp(J:X.A.units+64<cLine):ly X (compareOp .In) (r2 X<|Jf false):=λpins s σ H x y v u Q I rx ry h9=>by
 x_go;obtain⟨ys,hy,h⟩:=iT h;obtain⟨k,q,h⟩:=iT h;obtain⟨p,us,rfl,hs,r⟩:=AY R vb hy
 cases ry
 rcases hs with hs|hs
 ·obtain⟨d,j,g,z⟩:=I.list hs;obtain⟨e,f,m⟩:=tY I R J va rx r j q;refine SeqAt.in_listAt e g.isList (λw hw=>f w<|by simpa using hw) ⟨.bl _,H,I,rfl,?_⟩;rw[show d.toArray.any e=d.any e by simp,m];exact h _ _ _ .refl R (.bl _)
 ·obtain⟨d,j,g,z⟩:=I.tuple hs;obtain⟨e,f,m⟩:=tY I R J va rx r j q;refine SeqAt.in_tupleAt e g (λw hw=>f w<|by simpa using hw) ⟨.bl _,H,I,rfl,?_⟩;rw[show d.toArray.any e=d.any e by simp,m];exact h _ _ _ .refl R<|.bl _
def Cj(J:X.A.units+64<cLine):ly X (compareOp .NotIn) (r2 X<|Jf true):=λpins s σ H x y v u Q I rx ry h9=>by
 x_go;obtain⟨ys,hy,h⟩:=iT h;obtain⟨k,q,h⟩:=iT h;obtain⟨p,us,rfl,hs,r⟩:=AY R vb hy
 cases ry
 rcases hs with hs|hs
 ·obtain⟨d,j,g,z⟩:=I.list hs;obtain⟨e,f,m⟩:=tY I R J va rx r j q;refine SeqAt.notIn_listAt e g.isList (λw hw=>f w<|by simpa using hw) ⟨.bl _,H,I,rfl,?_⟩;rw[show d.toArray.any e=d.any e by simp,m];exact h _ _ _ .refl R (.bl _)
 ·obtain⟨d,j,g,z⟩:=I.tuple hs;obtain⟨e,f,m⟩:=tY I R J va rx r j q;refine SeqAt.notIn_tupleAt e g (λw hw=>f w<|by simpa using hw) ⟨.bl _,H,I,rfl,?_⟩;rw[show d.toArray.any e=d.any e by simp,m];exact h _ _ _ .refl R<|.bl _
abbrev wK (o:A)(J:ad)(S:iK):R A:=match o,J with
 | .ref n,[.ref m]=>opt (iI S n) λxs=>opt (iI S m) λys=>gd (xs.length+ys.length<=sizeLine) (.ok .non<|S.set n<|.lst<|xs++ys)
 | _,_=>.no
def GO:OJ X "list.extend" (rM X wK):=λpins s σ H x K v us Q I rx G h9=>by
 obtain⟨ρ,S,o,F,R,j,va,h⟩:=h9
 cases j with
 | @ref p n d=>
  match F,va,h with
  | [],_,h=>exact h.elim
  | y::_::_,_,h=>exact(by cases y<;>exact h.elim)
  | [y],va,h=>
   obtain⟨w,rfl,hw⟩:=D3 va
   cases hw with
   | @ref q m J=>
    kt_k;obtain⟨ys,g,h⟩:=iT h;obtain⟨B,h⟩:=i8 h;obtain⟨z,h1,r⟩:=R.lst d<|iS hn;obtain⟨zs,k,f⟩:=R.lst J<|iS g;obtain⟨ex,C⟩:=R.put d (iS hn)<|r.append f;exact DA pins s σ H _ _ v us Q I rx G ⟨p,q,z,zs,rfl,rfl,h1,k,by rw[<- r.length,<- f.length];exact B,h _ _ _ ex C .non⟩
   | _=>exact h.elim
 | _=>exact h.elim
end
abbrev A.isRef:A->Bool
 | .ref _=>true
 | _=>false
abbrev yD (o:A)(J:ad)(S:iK):R A:=match o,J with
 | .ref n,[x]=>opt (iI S n) λxs=>gd (xs.all A.isRef=true/\(∀z∈xs,(o_ S 12 z x).isSome=true)) (opt (xs.findIdx? λz=>decide<|o_ S 12 z x=some true) λk=>.ok (.int (k:Nat)) S)
 | _,_=>.no
section
variable {X:Cx}
open Classical in
def NI(hu:X.A.units+64<cLine):OJ X "list.index" (rM X yD):=λpins s σ H x vs v us Q I rx M h9=>by
 obtain⟨ρ,S,o,as,R,vo,va,h⟩:=h9
 cases vo with
 | @ref p n hp=>
  match as,va,h with
  | [],_,h=>exact h.elim
  | _::_::_,_,h=>exact h.elim
  | [y],va,h=>
   obtain⟨w,rfl,hw⟩:=D3 va;kt_k;obtain⟨⟨hr,hs⟩,h⟩:=i8 h;obtain⟨k,hk,h⟩:=iT h;obtain⟨ws,h1,r⟩:=R.lst hp (iS hn)
   cases rx
   obtain⟨u,rfl,ru⟩:=M.one;obtain⟨f,M,pl,hsz⟩:=I.list<|kJ.of h1;obtain⟨⟨cls,dd,data,sl⟩,ho,hc,nn,hd⟩:=id pl.isList;simp only at hc hd;subst hc hd;rw[List.findIdx?_eq_some_iff_getElem]at hk;obtain⟨P,hk1,Z⟩:=hk;have G:∀(m:Nat) (g:m<f.toArray.size),∃(z:A) (q:Nat) (a:aj),xs[m]?=some z/\z=.ref q/\ρ[q]?=some a/\f.toArray[m]=.ref a:=λm g=>by
    have l1:=r.length;have l2:=M.length;have d:m<xs.length:=by simp at g;lia
    obtain⟨vz,W,L⟩:=r.get<|aE d;obtain⟨uz,T,V⟩:=M.get W;have e1:f.toArray[m]=uz:=by
     obtain⟨_,e⟩:=aI.mp T;simpa using e
    have f1:=ig.mp hr _<|c6 d;generalize hz:xs[m]=z at L f1
    cases z with
    | ref q=>
     cases L with
     | @ref a _ ha=>
      cases V
      exact⟨_,q,a,by rw[aE d,hz],rfl,ha,e1⟩
    | _=>cases f1
   have K:∀{q q':Nat} {a:aj},ρ[q]?=some a->ρ[q']?=some a->q=q':=λ{q q' a} e1 e2=>by
    obtain⟨l1,e1⟩:=aI.mp e1;obtain⟨l2,e2⟩:=aI.mp e2;exact(fB R.nd).mp (e1.trans e2.symm)
   have QX:∀{q:Nat} {a:aj} {b:Bool},ρ[q]?=some a->o_ S 12 (.ref q) y=some b->decide (∃m,ρ[m]?=some a/\o_ S 12 (.ref m) y=some true)=b:=λ{q a b} e1 e2=>by
    cases b with
    | true=>exact bf ⟨q,e1,e2⟩
    | false=>
     refine aZ λh9=>?_;obtain⟨m,j,g2⟩:=h9;rw[K j e1,e2]at g2;cases g2
   have:=qj;have lx:=M.length;have lr:=r.length;have B:k<f.toArray.size:=by simp;lia
   have val:∀(m:Nat) (g:m<f.toArray.size) (d:m<xs.length),(match f.toArray[m]with | .ref a=>decide (∃m,ρ[m]?=some a/\o_ S 12 (.ref m) y=some true)|_=>false)=decide (o_ S 12 xs[m] y=some true):=λm g d=>by
    obtain⟨z,q,a,j,g2,N,U⟩:=G m g;have O:xs[m]=.ref q:=by rw[aE d]at j;rw[<- g2];exact aU j
    rw[U,O];have C:=hs _<|c6 d;rw[O]at C;obtain⟨b,J⟩:=cW.mp C;rw[J];refine(QX N J).trans ?_
    cases b<;>rfl
   refine fR F.slot_list_index ⟨_,ho,rfl⟩ F.entry_list_index (F.args_list_index_2 _ _) (SeqAt.list_indexAt p f.toArray nn dd sl u (λw=>match w with | .ref a=>decide (∃m,ρ[m]?=some a/\o_ S 12 (.ref m) y=some true)|_=>false) k B () ?_ ?_) ⟨ho,λz hz=>?_,.int k,H,I.tok _,⟨_,rfl⟩,h _ _ _ .refl R<|.int _⟩
   ·rw[val k B P];exact hk1
   ·intro m g Y;rw[val m g ()];have:=Z m Y;simpa using this
   ·obtain⟨m,g,e⟩:=Array.mem_iff_getElem.mp hz;subst e;obtain⟨z,q,a,j,g2,N,U⟩:=G m g;have d:m<xs.length:=by simp at g;lia
    have O:xs[m]=.ref q:=by rw[aE d]at j;rw[<- g2];exact aU j
    have C:=hs _<|c6 d;rw[O]at C;obtain⟨b,J⟩:=cW.mp C;rw[U];show SeqAt.EqAt _ _ _ _ (decide (∃m,ρ[m]?=some a/\o_ S 12 (.ref m) y=some true));rw[QX N J];exact(yI I R 12 X.A.in1 (.ref q) y (.ref a) w (.ref a) u b (by rw[in1_units];lia) (.ref N) hw rfl ru J).2.1
 | _=>exact h.elim
end
section
variable {X:Cx}
abbrev Nc (x:A)(S:iK):R A:=match x with
 | .ref n=>opt (iI S n) λxs=>opt (A.ints xs) λd=>.ok (.int d.sum) S
 | _=>.no
def Qo(hc:X.calm=true):jo X (.builtin "sum") (rN X<|f1 Nc):=jo.imp (Es hc) λj H Q h0=>by
 kpc_g;clear h0
 cases hv with
 | @ref p n d=>
  kt_k;obtain⟨f,g,h⟩:=iT h;obtain⟨j,h1,r⟩:=R.lst d<|iS hn;rw[pV r g]at h1;exact⟨p,f,rfl,kJ.of h1,h _ _ _ .refl R<|.int _⟩
 | _=>exact h.elim
end
abbrev ku (S:iK)(n:Nat):Option (List<|ae×A):=match S[n]? with
 | some (.dct xs)=>some xs
 | _=>none
def pN{n:Nat}(h:ku S n=some xs):S[n]?=some (.dct xs):=by
 unfold ku at h;split at h
 ·rename_i e;cases h;exact e
 ·cases h
def u5{S:iK}{n:Nat}(h:S[n]?=some (.dct xs)):ku S n=some xs:=by
 unfold ku;rw[h]
abbrev nE (kvs:List<|ae×A)(k:ae):Option A:=(kvs.find? λd=>decide<|d.1=k).map (·.2)
abbrev putD (kvs:List<|ae×A)(k:ae)(v:A):List (ae×A):=
 if (nE kvs k).isSome=true then kvs.map (λd=>if d.1=k then(d.1,v)else d)else kvs++[(k,v)]
theorem xJ:∀{a b:ae},a.map (Sum.inl:Int->Key)=b.map Sum.inl->a=b
 | [],[],_=>rfl
 | [],_::_,e=>by simp at e
 | _::_,[],e=>by simp at e
 | x::xs,y::ys,e=>by
  rw[bS,bS]at e
  injection e with e1 e2
  injection e1 with e1
  rw[e1,xJ e2]
def BW(ns:ae):(ns.map (Sum.inl:Int->Key)).map kV=ns.map V.int:=by rw[cX];rfl
section
variable {K:aq}{ρ:ar}{H:Hp}
def DM{p:ae×A}{r:List<|ae×A}{k:ae}(e:p.1=k):nE (p::r) k=some p.2:=by simp[nE,dN,e]
def Eh{p:ae×A}{r:List<|ae×A}{k:ae}(e:¬p.1=k):nE (p::r) k=nE r k:=by simp[nE,dN,e]
theorem DV.look:∀{kvs:List<|ae×A}{ks:List<|List Key×V}(k:ae),DV K ρ H kvs ks->(nE kvs k).isSome=(qx ks<|k.map Sum.inl).isSome/\∀x,nE kvs k=some x->∃v,qx ks (k.map Sum.inl)=some v/\AV K ρ H x v
 | [],[],k,_=>⟨rfl,λx h=>nomatch h⟩
 | p::r,q::r',k,⟨⟨e,a⟩,t⟩=>by
  by_cases c:p.1=k
  ·have d:q.1=k.map Sum.inl:=by rw[e,c]
   rw[DM c,qG d];exact⟨rfl,λx h=>by cases h;exact⟨_,rfl,a⟩⟩
  ·have d:¬q.1=k.map Sum.inl:=λz=>c<|xJ<|e.symm.trans z;rw[Eh c,qS d];exact DV.look k t
theorem DV.repl{x:A}{v:V}(h:AV K ρ H x v)(k:ae):∀{kvs:List<|ae×A}{ks:List<|List Key×V},DV K ρ H kvs ks->DV K ρ H (kvs.map λkv=>if kv.1=k then(kv.1,x)else kv) (ks.map λkv=>if kv.1=k.map Sum.inl then(kv.1,v)else kv)
 | [],[],_=>trivial
 | p::r,q::r',⟨⟨e,a⟩,t⟩=>by
  refine⟨?_,DV.repl h k t⟩;dsimp only;by_cases c:p.1=k
  ·rw[aN c,aN<|by rw[e,c]];exact⟨e,h⟩
  ·rw[aO c,aO λz=>c<|xJ<|e.symm.trans z];exact⟨e,a⟩
theorem DV.snoc{x:A}{v:V}(h:AV K ρ H x v)(k:ae):∀{kvs:List<|ae×A}{ks:List<|List Key×V},DV K ρ H kvs ks->DV K ρ H (kvs++[(k,x)]) (ks++[(k.map Sum.inl,v)])
 | [],[],_=>⟨⟨rfl,h⟩,trivial⟩
 | p::r,q::r',⟨a,t⟩=>⟨a,DV.snoc h k t⟩
def DV.put{x:A}{v:V}(h:AV K ρ H x v)(k:ae)(d:DV K ρ H kvs ks):DV K ρ H (putD kvs k x) (putK ks (k.map Sum.inl) v):=by
 unfold putD putK;rw[vq,<- (d.look k).1];by_cases c:(nE kvs k).isSome=true
 ·rw[aN c,aN c];exact DV.repl h k d
 ·rw[aO c,aO c];exact DV.snoc h k d
def DV.length:∀{kvs:List<|ae×A}{ks:List<|List Key×V},DV K ρ H kvs ks->kvs.length=ks.length
 | [],[],_=>rfl
 | _::_,_::_,⟨_,t⟩=>d9 (·+1) t.length
def Rel.dct{n:Nat}{a:aj}(R:Rel K ρ H S)(J:ρ[n]?=some a)(hS:S[n]?=some (.dct xs)):∃vs,H a=some (.dT vs)/\DV K ρ H xs vs:=R.at n a _ J hS
def Rel.putD{S:iK}{n:Nat}{a:aj}(R:Rel K ρ H S)(J:ρ[n]?=some a)(hS:S[n]?=some (.dct xs))(r:DV K ρ H ys ws):Ext ρ ρ H (upd H a<|.dT ws)/\Rel K ρ (upd H a<|.dT ws) (S.set n<|.dct ys):=by
 obtain⟨C,e,_⟩:=R.at n a _ J hS;have ex:Ext ρ ρ H (upd H a<|.dT ws):=⟨⟨eK _,λb u i h=>by
  have:b≠a:=by
   intro z;subst z;rw[e]at h;cases h;exact i
  rw[iV this];exact h⟩,λb u h n=>by
  rw[iV λz=>n<|by rw[z];exact aX J];exact h,λ_ h=>.inl h⟩
 refine⟨ex,by rw[bD];exact R.len,R.nd,λm b o h1 g=>?_⟩;by_cases j:m=n
 ·subst j;rw[J]at h1;cases h1;rw[bF (aI.mp hS).1]at g
  cases g
  exact⟨ws,jI,r.ext ex⟩
 ·rw[bz<|eE j]at g;have nb:b≠a:=λz=>by
   subst z;obtain⟨B,e1⟩:=aI.mp J;obtain⟨F,e2⟩:=aI.mp h1;exact j<|(fB R.nd).mp<|e2.trans e1.symm
  have:=R.at m b o h1 g
  cases o with
  | lst ys=>obtain⟨d,f,q⟩:=this;exact⟨d,by rw[iV nb];exact f,q.ext ex⟩
  | dct _|dki _|dks _|dcp _=>obtain⟨d,f,q⟩:=this;exact⟨d,by rw[iV nb];exact f,q.ext ex⟩
  | dcf _|dkf _=>obtain⟨k,d,f,q⟩:=this;exact⟨k,d,by rw[iV nb];exact f,q.ext ex⟩
  | ins _ _=>obtain⟨k,p,f⟩:=this;exact⟨k,p,by rw[iV nb];exact f⟩
end
section
variable {X:Cx}{pos:Pos}{a b:aA}
def CQ{H:Hp}{p q:aj}{n:Nat}{ns:ae}(R:Rel X.K ρ H S)(hp:ρ[n]?=some p)(hn:ku S n=some kvs)(J:H q=some (.tup vs))(r:AVs X.K ρ H xs vs)(hi:A.ints xs=some ns) :
  ∃ks,H p=some (.dT ks)/\DV X.K ρ H kvs ks/\H q=some (.tup<|(ns.map (Sum.inl:Int->Key)).map kV)/\Em H p (.ref q) (qx ks<|ns.map Sum.inl):=by
 obtain⟨ks,e,d⟩:=R.dct hp<|pN hn;have z:=pV r hi;subst z;rw[<- BW]at J;exact⟨ks,e,d,J,Em.t e J⟩
abbrev K5 (J:Bool)(x y:A)(S:iK):R A:=match x,y with
 | .tup xs,.ref n=>opt (ku S n) λd=>opt (A.ints xs) λf=>.ok (.bl<|if J then !(nE d f).isSome else(nE d f).isSome) S
 | _,_=>.no
def Fd(J:X.A.units+64<cLine):ly X (compareOp .NotIn) (r2 X<|K5 true):=λpins s σ H x y v u Q I rx ry h9=>by
 x_go
 cases va with
 | @tup q xs B m r=>
  cases vb with
  | @ref p n z=>
   obtain⟨j,hn,h⟩:=iT h;obtain⟨k,hi,h⟩:=iT h;obtain⟨ks,e,d,f,g⟩:=CQ R z hn m r hi;exact DT (by omega) pins s σ H _ _ v u Q I rx ry ⟨p,_,rfl,g,by rw[<- (d.look k).1];exact h _ _ _ .refl R<|.bl _⟩
  | _=>exact h.elim
 | _=>exact h.elim
abbrev zu (o i v:A)(S:iK):R Unit:=match o,i with
 | .ref n,.tup xs=>opt (ku S n) λd=>opt (A.ints xs) λf=>gd (d.length<sizeLine) (.ok Unit.unit<|S.set n<|.dct<|putD d f v)
 | _,_=>.no
abbrev Rj (X:Cx):HZ:=λo i v H Q=>∃ρ S d g f,Rel X.K ρ H S/\AV X.K ρ H d o/\AV X.K ρ H g i/\AV X.K ρ H f v/\(zu d g f S).post (λ_ j=>∀ρ' H',Ext ρ ρ' H H'->Rel X.K ρ' H' j->Q H') (XE X ρ H)
def J9(hu:X.A.units+64<cLine):Gd X (Rj X):=λpins s σ H o i v M N u Q I F m J h9=>by
 obtain⟨ρ,S,P,U,T,R,h1,k,z,h⟩:=h9
 cases h1 with
 | @ref p n j=>
  cases k with
  | @tup q xs O L r=>
   obtain⟨G,hn,h⟩:=iT h;obtain⟨K,hi,h⟩:=iT h;obtain⟨B,h⟩:=i8 h;obtain⟨ks,e,d,f,g⟩:=CQ R j hn L r hi;obtain⟨ex,C⟩:=R.putD j (pN hn)<|d.put z K;exact set_dict () pins s σ H _ _ v M N u Q I F m J ⟨p,_,rfl,FI.t e f<|by rw[<- d.length];exact B,h _ _ ex C⟩
  | _=>exact h.elim
 | _=>exact h.elim
abbrev Oz (co ci:Ex):Tg:=λa τ S=>(co τ S).bind λo S1=>(ci τ S1).bind λi d=>(zu o i a d).bind λ_ f=>.ok τ f
def Ka(J:X.A.units+64<cLine){co ci:Ex}(ho:AE X o co)(hi:AE X i ci)
  (ha:(∀v,assign (.Subscript o i pos) X.env v=(do
   let ov <- holding [v] (eval o X.env)
   let iv <- holding [v,ov] (eval i X.env)
   standAt pos
   holding [v,ov,iv] (setItem ov iv v)
   release [v,ov,iv] []))<|>ι):AG X (.Subscript o i pos) (Oz co ci):=PG.imp (Ft ho hi (J9 J) ha) λv σ H Q h9=>by
 obtain⟨ρ,S,τ,a,R,r,va,h⟩:=h9;refine⟨ρ,S,τ,R,r,iM (iP h) .refl λo S1 h1 ρ1 H1 x e1 m p=>⟨ρ1,S1,τ,m,r.ext e1,iM (iP h1) e1 λi q g d H2 y e2 R2 k=>?_⟩⟩;refine⟨d,q,o,i,a,R2,p.ext e2,k,va.ext<|e1.trans e2,iM (iP g) (e1.trans e2) λ_ C z f B e3 j=>?_⟩;exact z f B σ ((e1.trans e2).trans e3) j<|r.ext<|(e1.trans e2).trans e3
abbrev C5 (ck cv:Ex):Ex:=λτ S=>(ck τ S).bind λk S1=>(cv τ S1).bind λv d=>match k with
 | .tup xs=>opt (A.ints xs) λf=>.ok (.ref d.length) (d++[.dct [(f,v)]])
 | _=>.no
def Rel.O5{K:aq}{H:Hp}{S:iK}{D:aj}(R:Rel K ρ H S)(J:H D=some (.dT us))(hn:D∉ρ)(r:DV K ρ H xs vs):Ext0 ρ (ρ++[D]) H (upd H D<|.dT vs)/\Rel K (ρ++[D]) (upd H D<|.dT vs) (S++[.dct xs])/\(ρ++[D])[S.length]?=some D:=by
 have ex:Ext0 ρ (ρ++[D]) H (upd H D<|.dT vs):=⟨fS _ _,λb u i h=>by
  have:b≠D:=by
   intro z;subst z;rw[J]at h;cases h;exact i
  rw[iV this];exact h⟩
 have d:(ρ++[D])[S.length]?=some D:=by rw[<- R.len];simp
 refine⟨ex,⟨by simp[R.len],?_,λn a o h1 g=>?_⟩,d⟩
 ·rw[d_];refine⟨R.nd,by simp,λa p b k e=>?_⟩;have:b=D:=by simpa using k
  exact hn<|by rw[<- this,<- e];exact p
 ·by_cases hs:n<S.length
  ·rw[bw<|by rw[R.len];exact hs]at h1;rw[bw hs]at g;have na:a≠D:=λz=>hn (by rw[<- z];exact aX h1);have:=R.at n a o h1 g
   cases o with
   | lst ys=>obtain⟨f,e,q⟩:=this;exact⟨f,by rw[iV na];exact e,AVs.jF ex q⟩
   | dct _|dki _|dks _|dcp _=>obtain⟨f,e,q⟩:=this;exact⟨f,by rw[iV na];exact e,q.jF ex⟩
   | dcf _|dkf _=>obtain⟨j,f,e,q⟩:=this;exact⟨j,f,by rw[iV na];exact e,q.jF ex⟩
   | ins _ _=>obtain⟨j,m,e⟩:=this;exact⟨j,m,by rw[iV na];exact e⟩
  ·have e:n=S.length:=by
    have:=(aI.mp g).1;simp at this
    lia
   subst e;rw[d]at h1
   cases h1
   simp at g;subst g;exact⟨vs,jI,r.jF ex⟩
def JY(hu:X.A.units+64<cLine){k v:aA}{ck cv:Ex}(hk:AE X k ck)(hv:AE X v cv):AE X (.Dict [some k] [v] pos) (C5 ck cv):=PE.imp (FT () hk hv) λσ H Q ⟨ρ,S,τ,R,r,h⟩ p j=>by
 obtain⟨e0,J⟩:=R.im (u:=.dT []) j;have F:p∉ρ:=R.EL j;refine⟨ρ,S,τ,J,r.ext e0,iM (iP h) e0 λa S1 h1 ρ1 H1 x e1 O P=>⟨ρ1,S1,τ,O,(r.ext e0).ext e1,iM (iP h1) (e0.trans e1) λb V g m H2 y e2 R2 M=>?_⟩⟩;have d:=e1.trans e2;have f:H2 p=some (.dT []):=d.fr p _ jI F;have B:p∉m:=λG=>(d.nw p G).elim F λz=>by rw[jI]at z;cases z
 cases P.ext e2 with
 | @tup q xs vs U L=>
  obtain⟨C,hi,g⟩:=iT g;have z:=pV L hi;subst z;refine⟨f,q,C.map Sum.inl,rfl,by rw[BW];exact U,?_⟩;obtain⟨e3,K,T⟩:=R2.O5 (xs:=[(C,b)]) (vs:=[(C.map Sum.inl,y)]) f B ⟨⟨rfl,M⟩,trivial⟩;refine g _ _ _ ⟨⟨(e0.trans d).pre.trans e3.pre,λc u i hc=>e3.im c u i<|(e0.trans d).im c u i hc⟩,λc u hc N=>?_,λc hc=>?_⟩ K (.ref T)
  ·rw[iV<|i7 hc j];exact(e0.trans d).fr c u hc N
  ·rcases aV.mp hc with z|z
   ·exact(e0.trans d).nw c z
   ·have:c=p:=by simpa using z
    rw[this];exact .inr j
 | _=>exact g.elim
end
section
variable {X:Cx}{pos:Pos}{a tg:aA}
abbrev qq (n k:Nat):Src:=⟨k,λi S=>(iI S n).bind λxs=>if i<k then xs[k-1-i]? else none,λ_=>true⟩
abbrev TY (a:A)(S:iK):R Src:=match a with
 | .ref n=>opt (iI S n) λxs=>.ok (qq n xs.length) S
 | _=>.no
abbrev OP (c:Ex):Ic:=λτ S=>(c τ S).bind λa S1=>TY a S1
def PU{K:aq}{J:ar}{H0:Hp}{p:aj}{n k:Nat}(hp:J[n]?=some p):JR K (qq n k) (QS K p k) J H0 where
 go:=λi S H ρ x e R g=>by
  obtain⟨xs,hn,g⟩:=bT.mp g;by_cases hi:i<k
  ·rw[aN hi]at g;obtain⟨d,h1,r1⟩:=R.lst (e.get hp)<|iS hn;obtain⟨v,f,m⟩:=r1.get g;refine⟨⟨hi,d,v,kJ.of h1,f⟩,λw H' z=>?_⟩;obtain⟨rfl,j⟩:=z;rw[j d v (kJ.of h1) f];exact⟨.refl,R,m⟩
  ·rw[aO hi]at g;cases g
 stop:=λS H ρ e R hf=>aM _
def MU{p:Pos}{c:Ex}(J:X.mg "reversed" = none)(ha:AE X a c)(hg:Gl X "reversed"<|>θ)(hs:starEach [a] X.env=[(false,eval a X.env)]<|>θ):AI X tg (.Call (.Name "reversed" p) [a] [] pos) (OP c):=λpins s σ H Q I h9=>by
 z_go;refine Ow hg J (oN ha uf hs) hs pins s σ H Q I ⟨ρ,S,τ,R,r,iM (iP h) .refl λx S1 h1 ρ1 H1 v e1 d g=>?_⟩
 cases g with
 | @ref p n f=>
  obtain⟨xs,hn,h1⟩:=iT h1;obtain⟨j,k,r1⟩:=d.lst f<|iS hn;exact⟨_,j,rfl,kJ.of k,h1 ρ1 H1 _ e1 d<|by rw[<- r1.length];exact PU f⟩
 | _=>exact h1.elim
abbrev oV (n k:Nat):Src:=⟨k,λi S=>(iI S n).bind λxs=>(xs[i]?).map λx=>.tup [.int i,x],λS=>match iI S n with
 | some ys=>decide (ys.length=k)
 | none=>false⟩
abbrev TU (a:A)(S:iK):R Src:=match a with
 | .ref n=>opt (iI S n) λxs=>.ok (oV n xs.length) S
 | _=>.no
abbrev xD (c:Ex):Ic:=λτ S=>(c τ S).bind λa S1=>TU a S1
def NK{K:aq}{J:ar}{H0:Hp}{p:aj}{n k:Nat}(hp:J[n]?=some p):JR K (oV n k) (Mq K p) J H0 where
 go:=λi S H ρ x e R g=>by
  obtain⟨xs,hn,g⟩:=bT.mp g;obtain⟨y,hy,rfl⟩:=bC.mp g;obtain⟨d,h1,r1⟩:=R.lst (e.get hp)<|iS hn;obtain⟨v,m,C⟩:=r1.get hy;refine⟨⟨d,v,kJ.of h1,m⟩,λw H' q=>?_⟩;obtain⟨F,f,rfl,z⟩:=q;have j:=z d v (kJ.of h1) m;subst j;obtain⟨ex,B⟩:=R.im (u:=.tup [.int i,v]) f;exact⟨ex,B,.tup jI<|.cons (.int _)<|.cons (C.ext ex) .nil⟩
 stop:=λS H ρ e R hf=>by
  have hf:(match iI S n with
   | some ys=>decide (ys.length=k)
   | none=>false)=true:=hf
  cases hn:iI S n with
  | none=>rw[hn]at hf;cases hf
  | some xs=>
   rw[hn]at hf;obtain⟨d,h1,r1⟩:=R.lst (e.get hp)<|iS hn;exact⟨d,kJ.of h1,by rw[<- r1.length];exact bZ hf⟩
def Af{p:Pos}{c:Ex}(J:X.mg "enumerate" = none)(ha:AE X a c)(hg:Gl X "enumerate"<|>θ)(hs:starEach [a] X.env=[(false,eval a X.env)]<|>θ):AI X (.Tuple elts x1 tpos) (.Call (.Name "enumerate" p) [a] [] pos) (xD c):=λpins s σ H Q I h9=>by
 z_go;refine EE hg J (oN ha uf hs) hs pins s σ H Q I ⟨ρ,S,τ,R,r,iM (iP h) .refl λx S1 h1 ρ1 H1 v e1 d g=>?_⟩
 cases g with
 | @ref p n f=>
  obtain⟨xs,hn,h1⟩:=iT h1;obtain⟨j,k,r1⟩:=d.lst f<|iS hn;exact⟨_,j,rfl,kJ.of k,h1 ρ1 H1 _ e1 d<|NK f⟩
 | _=>exact h1.elim
def MZ{c:Ex}{n:Nat}{xs:ad}(h:c τ S=.ok (.ref n) S1)(hn:iI S1 n=some xs):OP c τ S=.ok (qq n xs.length) S1:=by
 unfold OP;rw[h];show opt (iI S1 n) _=_;rw[hn];rfl
def xo{c:Ex}{n:Nat}{xs:ad}(h:c τ S=.ok (.ref n) S1)(hn:iI S1 n=some xs):xD c τ S=.ok (oV n xs.length) S1:=by
 unfold xD;rw[h];show opt (iI S1 n) _=_;rw[hn];rfl
end
abbrev mC (s:Src)(g:Tg)(t:Te)(e:Ex):Nat->Nat->ad->iK->R (ad×ad)
 | 0,_=>λτ S=>if s.fin S then .ok ([],τ) S else .no
 | k+1,i=>λτ S=>opt (s.get i S) λx=>(g x τ S).jD λd S1=>(t d S1).jD λb f=>match b with
  | true=>(e d f).jD λy m=>(mC s g t e k (i+1) d m).jD λp j=>.ok (y::p.1,p.2) j
  | false=>mC s g t e k (i+1) d f
abbrev kH (s:Src)(g:Tg)(t:Te)(src2:Ic)(g2:Tg)(t2:Te)(e:Ex):Nat->Nat->ad->iK->R (ad)
 | 0,_=>λ_ S=>if s.fin S then .ok [] S else .no
 | k+1,i=>λτ S=>opt (s.get i S) λx=>(g x τ S).jD λd S1=>(t d S1).jD λb f=>match b with
  | true=>(src2 d f).jD λj z=>(mC j g2 t2 e j.k 0 d z).jD λp m=>(kH s g t src2 g2 t2 e k (i+1) p.2 m).jD λys q=>.ok (p.1++ys) q
  | false=>kH s g t src2 g2 t2 e k (i+1) d f
abbrev wU (cap:List<|bi)(src:Ic)(g:Tg)(t:Te)(src2:Ic)(g2:Tg)(t2:Te)(e:Ex):Ex:=λτ S=>(src τ S).bind λs S1=>(kH s g t src2 g2 t2 e s.k 0 (mG cap τ) S1).jD λys d=>newL ys d
def zM{s:Src}{g:Tg}{t:Te}{e:Ex}{k:Nat}{T:Prop}(h:mC s g t e (k+1) i τ S=.ok (zs,τ') S')
  (q:∀x τ1 S1 b S2,s.get i S=some x->g x τ S=.ok τ1 S1->t τ1 S1=.ok b S2->(b=true->∃y S3 ws,e τ1 S2=.ok y S3/\mC s g t e k (i+1) τ1 S3=.ok (ws,τ') S'/\zs=y::ws)->(b=false->mC s g t e k (i+1) τ1 S2=.ok (zs,τ') S')->T):T:=by
 obtain⟨x,p,h⟩:=Ax h;obtain⟨τ1,S1,h1,h⟩:=jN h;obtain⟨b,S2,m,h⟩:=jN h;refine q x τ1 S1 b S2 p h1 m (λd=>?_) λd=>?_
 ·subst d;obtain⟨y,S3,f,h⟩:=jN h;obtain⟨⟨ws,j⟩,B,z,h⟩:=jN h
  cases h
  exact⟨y,S3,ws,f,z,rfl⟩
 ·subst d;exact h
def xN{s:Src}{g:Tg}{t:Te}{src2:Ic}{g2:Tg}{t2:Te}{e:Ex}{k:Nat}{T:Prop}(h:kH s g t src2 g2 t2 e (k+1) i τ S=.ok zs S')
  (q:∀x τ1 S1 b S2,s.get i S=some x->g x τ S=.ok τ1 S1->t τ1 S1=.ok b S2->(b=true->∃s2 S3 ps τ2 S4 ws,src2 τ1 S2=.ok s2 S3/\mC s2 g2 t2 e s2.k 0 τ1 S3=.ok (ps,τ2) S4/\kH s g t src2 g2 t2 e k (i+1) τ2 S4=.ok ws S'/\zs=ps++ws)->(b=false->kH s g t src2 g2 t2 e k (i+1) τ1 S2=.ok zs S')->T):T:=by
 obtain⟨x,p,h⟩:=Ax h;obtain⟨τ1,S1,h1,h⟩:=jN h;obtain⟨b,S2,f,h⟩:=jN h;refine q x τ1 S1 b S2 p h1 f (λd=>?_) λd=>?_
 ·subst d;obtain⟨s2,S3,m,h⟩:=jN h;obtain⟨⟨ps,τ2⟩,S4,z,h⟩:=jN h;obtain⟨ws,B,j,h⟩:=jN h
  cases h
  exact⟨s2,S3,ps,τ2,S4,ws,m,z,j,rfl⟩
 ·subst d;exact h
abbrev Td (K:aq)(c:Ic):TI:=λσ H Q=>∃ρ S τ s d,Rel K ρ H S/\SR K ρ H τ σ/\c τ S=.ok s d/\∀ρ' H' J,Ext ρ ρ' H H'->Rel K ρ' H' d->JR K s J ρ' H'->Q J H'
section
variable {X:Cx}{pos:Pos}{tg iter tg2 iter2 elt e:aA}{ifs ifs2:List aA}{scope:Scope}{N:am}{cap:List (bi)}{src src2:Ic}{g g2:Tg}{t t2:Te}{c:Ex}
def AI.i0{K:aq}(hK:X.K=K)(h:AI X tg e src):PI X tg e (Td K src):=λpins s σ H Q I ⟨ρ,S,τ,a,g,R,r,hc,q⟩=>h pins s σ H Q I ⟨ρ,S,τ,by rw[hK];exact R,by rw[hK];exact r,by rw[hc];exact λρ' H' J e f d=>q ρ' H' J e (by rw[<- hK];exact f)<|by rw[<- hK];exact d⟩
def IA(hc:X.calm=true)(Sc:CpScope X scope N cap)(hi:AI X tg iter src)(hg:∀C s₀ H₀ ex,AG (jG X scope N C s₀ H₀ ex) tg g)(ht:∀C s₀ H₀ ex,OM (jG X scope N C s₀ H₀ ex) ifs t)(hi2:∀C s₀ H₀ ex,AI (jG X scope N C s₀ H₀ ex) tg2 iter2 src2)
  (hg2:∀C s₀ H₀ ex,AG (jG X scope N C s₀ H₀ ex) tg2 g2) (ht2:∀C s₀ H₀ ex,OM (jG X scope N C s₀ H₀ ex) ifs2 t2) (he:∀C s₀ H₀ ex,AE (jG X scope N C s₀ H₀ ex) elt c)
  (hs:(∀x,foldedSetIterable iter X.env x=pure x)<|>ι) (hs2:∀env x,foldedSetIterable iter2 env x=pure x:=by intro _ _;rfl):AE X (.ListComp elt [⟨tg,iter,ifs,0⟩,⟨tg2,iter2,ifs2,0⟩] scope pos) (wU cap src g t src2 g2 t2 c):=by
 refine PE.imp (OE hc Sc hi (g:=ON X.K g) (tc:=M_ X.K t) (wi2:=Td X.K src2) (g2:=ON X.K g2) (tc2:=M_ X.K t2) (te:=Pg X.K c) (λC s₀ H₀ ex=>(hg C s₀ H₀ ex).g0 rfl) (λC s₀ H₀ ex=>ht C s₀ H₀ ex) (λC s₀ H₀ ex=>(hi2 C s₀ H₀ ex).i0 rfl) (λC s₀ H₀ ex=>(hg2 C s₀ H₀ ex).g0 rfl) (λC s₀ H₀ ex=>ht2 C s₀ H₀ ex) (λC s₀ H₀ ex=>(he C s₀ H₀ ex).e0 rfl) hs hs2) λσ H Q h9=>?_;z_go;refine⟨ρ,S,τ,R,r,iM (iP h) .refl λs S1 h1 ρ1 H1 J e1 R1 jr D hD=>?_⟩;obtain⟨ys,S2,hcg,h1⟩:=uY h1;obtain⟨hlen,h1⟩:=i8 h1;have h1:vD X ρ H Q (.ref S2.length) (S2++[.lst ys]):=h1;obtain⟨eD,RD⟩:=R1.im (u:=.lst []) hD;refine⟨Cq X.K ρ1 H1 D ys s.k (λ_ _=>True) λm i τ S zs=>kH s g t src2 g2 t2 c m i τ S=.ok zs S2,⟨s.k,.of rfl ⟨eD.toExt0,λa u na hu _=>by rw[iV na];exact hu,λa ha=>.inl ha,R1.EL hD,jI⟩ trivial RD (LR ((r.ext e1).ext eD) cap) .nil hcg rfl⟩,?_⟩;intro i m σ3 H3 hw;refine hw.el λP S3 τ3 acc zs accV hm o3 _ R3 r3 ac3 f L=>?_;clear hw
 cases m with
 | zero=>
  left;have f:(if s.fin S3 then Am.R.ok [] S3 else .no)=.ok zs S2:=f
  cases hf:s.fin S3 with
  | false=>rw[hf]at f;cases f
  | true=>
   rw[hf]at f
   cases f
   rw[bJ]at L;subst L;refine⟨by rw[show i=s.k by lia];exact jr.stop _ H3 P o3.e0 R3 hf,?_⟩;obtain⟨RT,gt⟩:=R3.take o3.hD o3.nD ac3;exact h1 (P++[D]) H3 _ (e1.trans<|o3.end hD) RT<|.ref gt
 | succ m=>
  right;refine xN f λx Y S4 b S5 hx hg4 ht5 hT hF=>?_;have jg:=jr.go i S3 H3 P x o3.e0 R3 hx;refine⟨jg.1,λv H4 y=>?_⟩;obtain⟨e4,R4,v4⟩:=jg.2 v H4 y;refine⟨P,S3,τ3,x,Y,S4,R4,r3.ext e4,v4,hg4,λρ5 H5 σ5 e5 R5 r5=>⟨ρ5,S4,Y,b,S5,R5,r5,ht5,λρ6 H6 e6 R6=>?_⟩⟩;have Z:=(e4.trans e5).trans e6
  cases b with
  | false=>
   dsimp only;rw[aO bN];exact⟨m,cE _,.of () (o3.stay hD Z) trivial R6 (r5.ext e6) (ac3.ext Z) (hF rfl) L⟩
  | true=>
   dsimp only;rw[aN rfl];obtain⟨s2,S6,ps,τ7,S7,ws,hs6,ci7,co7,ezs⟩:=hT rfl;refine⟨ρ6,S5,Y,s2,S6,R6,r5.ext e6,hs6,λρ8 H8 J2 e8 R8 jr2=>?_⟩;have e38:=Z.trans e8;refine⟨Cq X.K ρ1 H1 D (acc++ps) s2.k (λρ' H'=>Ext0 ρ8 ρ' H8 H') λm i τ S qs=>mC s2 g2 t2 c m i τ S=.ok (qs,τ7) S7,⟨s2.k,.of rfl (o3.stay hD e38) ⟨eK _,λ_ _ _ h=>h⟩ R8 (r5.ext<|e6.trans e8) (ac3.ext e38) ci7 rfl⟩,?_⟩;intro i2 m2 σ9 H9 hw;refine hw.el λρ9 S9 τ9 acc9 qs F hm2 o9 M R9 r9 U j z=>?_;clear hw
   cases m2 with
   | zero=>
    left;have j:(if s2.fin S9 then Am.R.ok ([],τ9) S9 else .no)=.ok (qs,τ7) S7:=j
    cases hf:s2.fin S9 with
    | false=>rw[hf]at j;cases j
    | true=>
     rw[hf]at j
     cases j
     rw[bJ]at z;subst z;exact⟨by rw[show i2=s2.k by lia];exact jr2.stop _ H9 ρ9 M R9 hf,m,cE _,.of () o9 trivial R9 r9 U co7<|by rw[br,<- ezs,L]⟩
   | succ m2=>
    right;refine zM j λx9 G S10 b10 S11 hx9 hg10 ht11 hT9 hF9=>?_;have jg2:=jr2.go i2 S9 H9 ρ9 x9 M R9 hx9;refine⟨jg2.1,λv10 H10 y10=>?_⟩;obtain⟨e10,R10,v10'⟩:=jg2.2 v10 H10 y10;refine⟨ρ9,S9,τ9,x9,G,S10,R10,r9.ext e10,v10',hg10,λρ11 H11 σ11 e11 R11 T=>⟨ρ11,S10,G,b10,S11,R11,T,ht11,λW H12 V R12=>?_⟩⟩;have d:=(e10.trans e11).trans V;have o12:=o9.stay hD d;have B:Ext0 ρ8 W H8 H12:=⟨M.pre.trans d.pre,λa u i h=>d.im a u i<|M.im a u i h⟩
    cases b10 with
    | false=>
     dsimp only;rw[aO bN];exact⟨m2,cE _,.of () o12 B R12 (T.ext V) (U.ext d) (hF9 rfl) z⟩
    | true=>
     dsimp only;rw[aN rfl];obtain⟨y,S13,us,he13,ci13,eus⟩:=hT9 rfl;refine⟨W,S11,G,y,S13,R12,T.ext V,he13,λρ14 H14 w q R14 v14=>?_⟩;have O:=o12.stay hD q;obtain⟨p,R15⟩:=R14.out (ws:=F++[w]) O.hD O.nD;have l1:=U.length;refine⟨F,O.hD,?_,m2,cE _,.of () (O.put p) ⟨B.pre.trans q.pre,λa u i h=>p.im a u i<|q.im a u i<|B.im a u i h⟩ R15 ((T.ext<|V.trans q).jF p) (AVs.jF p<|(U.ext<|d.trans q).append<|.one v14) ci13 ?_⟩
     ·have:((acc++ps)++ws).length<=sizeLine:=by rw[br,<- ezs,L];exact hlen
      rw[<- z,eus,aL,aL,bu]at this
      lia
     ·rw[br,<- z,eus];rfl
end
abbrev Sl (F:ad->iK->R A)(d:oX):Ex:=λτ S=>(d τ S).bind λf S1=>F f S1
abbrev Kz:List (Str ⊕ Ex)->ad->iK->R Unit
 | [],_,S=>.ok Unit.unit S
 | .inl _::ps,τ,S=>Kz ps τ S
 | .inr e::ps,τ,S=>(e τ S).bind λv S1=>match v with
  | .int i=>gd (i.natAbs.log2<64) (Kz ps τ S1)
  | _=>.no
abbrev Nh (c:Str)(ps:List<|Str ⊕ Ex):Sm:=λτ S=>.of (Kz ps τ S) λ_ S1=>.ex c S1
abbrev LH (i:Nat):RS->RS
 | .nx τ S=>.nx (τ.set i .unb) S
 | .bk τ S=>.bk (τ.set i .unb) S
 | .ct τ S=>.ct (τ.set i .unb) S
 | .rt a S=>.rt a S
 | _=>.no
abbrev Qf (i n:Nat)(cs:am)(c d:Sm):Sm:=λτ S=>match c τ S with
 | .ex x S1=>if x∈cs then LH i (d ((List.replicate n .unb).set i<|.exn x) S1)else .no
 | r=>r
abbrev RP (f:Str->bd)(c:Ex):Ex:=λτ S=>(c τ S).bind λv S1=>match v with
 | .exn x=>opt (f x) λb=>.ok (.bl b) S1
 | _=>.no
abbrev T5 (tb:List<|Str×Bool):Str->bd:=λx=>tb.lookup x
abbrev OW (F:ad->iK->R A)(d:oX):Ex:=λτ S=>match d τ S with
 | .ok f S1=>F f S1
 | _=>.no
section
variable {d:oX}
abbrev Px (t:Te)(c d:Sm):Sm:=λτ S=>match t τ S with
 | .ok true S1=>c τ S1
 | .ok false S1=>d τ S1
 | _=>.no
end
abbrev Lp (i:Nat)(cs:am)(c d:Sm):Sm:=λτ S=>match c τ S with
 | .ex x S1=>if x∈cs then LH i (d (τ.set i<|.exn x) S1)else .no
 | r=>r
abbrev SY:Sm:=λ_ _=>.no
def O3{st:aC}:AS X st SY:=PS.imp F1 λD σ H ⟨ρ,S,τ,R,r,h⟩=>h.elim
def DZ{K:aq}{H:Hp}{a:aj}{ns:ae}{F:ad->iK->R A}(J:Jz H)(hS:kJ K H a<|ns.map V.int)(h:∃S',F [.frz<|ns.map .int] []=.ok (.bl true) S'):qt K 1 F [.ref a] H (λv _=>v=.bl true) λ_ _ _=>False:=by
 obtain⟨S',h⟩:=h;have fz:Fz K H a (ns.map V.int):=by
  rcases hS with(h|⟨o,h⟩)|h
  ·rcases J a with z|⟨d,xs,z⟩
   ·rw[h]at z;cases z
   ·rw[h]at z;cases z
  ·exact .inl ⟨o,h⟩
  ·exact .inr h
 exact⟨rfl,[],[],_,_,S',⟨rfl,iC,λn a o h=>by simp at h⟩,.cons (.frz fz<|pC ns) .nil,h,λρ' H' v _ _ hv=>zx hv⟩
section
variable {P:ah}{w:af}{K:aq}{mg:Str->aw}{base:ak}{f:aj}{fd:FuncData}{ps:am}{k n:Nat}
def NP(h:n=ps.length):FnOk P w K mg base p6 k f fd ps (qt K n λ_ _=>.no):=
 ⟨λ_ _ _ _ z=>z.1.trans h,λ_ _ _ _ _ _ _ _ _ _ _ _ _ z=>by obtain⟨_,_,_,_,_,_,_,_,e,_⟩:=z;cases e⟩
end
def J_{P:ap->Prop}(h:∀a0,P [a0]):∀us:ap,us.length=1->P us
 | [_],_=>h _
def Lu{P:ap->Prop}(h:∀a0 a1,P [a0,a1]):∀us:ap,us.length=2->P us
 | [_,_],_=>h _ _
def Ni{n:Nat}{us:ap}(h:us.length=n+1):∃a t,us=a::t/\t.length=n:=by
 cases us with
 | nil=>simp at h
 | cons a t=>exact⟨a,t,rfl,by simpa using h⟩
def TM{P:ap->Prop}(h:∀a0 a1 a2,P [a0,a1,a2]):∀us:ap,us.length=3->P us:=λus e=>by
 obtain⟨a0,t0,rfl,e0⟩:=Ni e;obtain⟨a1,d,rfl,e1⟩:=Ni e0;obtain⟨a2,t2,rfl,e2⟩:=Ni e1
 cases dJ.mp e2
 exact h _ _ _
end Am
namespace Am
open PySem L2
section
variable {α β:Type}{a b:A}{S S1:iK}{τ:ad}{x:α}
@[simp]def R.jv {f:α->iK->R β}:(R.ok x S).bind f=f x S:=rfl
@[simp]def R.Be {f:α->iK->R β}{c:Str}:(R.ex c S:R α).bind f=.ex c S:=rfl
@[simp]def R.i9 {f:α->iK->R β}:(R.ok x S).jD f=f x S:=rfl
@[simp]def RS.of_ok {f:α->iK->RS}:RS.of (R.ok x S) f=f x S:=rfl
@[simp]def RS.LM {f:α->iK->RS}{c:Str}:RS.of (R.ex c S:R α) f=.ex c S:=rfl
@[simp]def iZ {f:β->R α}{y:β}:opt (some y) f=f y:=rfl
@[simp]def CU {r:R α}:gd True r=r:=aN trivial
theorem mO{c:Prop}[Decidable c]{r:R α}(h:c):gd c r=r:=aN h
@[simp]def mQ {i:Nat}:iH i τ S=bif (τ.getD i .unb).lE then .no else .ok (τ.getD i .unb) S:=by unfold iH;cases(τ.getD i .unb).lE<;>rfl
@[simp]def B6 {xs:ad}:A.lE (.tup xs)=false:=rfl
@[simp]def Dl {xs:ad}:A.lE (.frz xs)=false:=rfl
@[simp]def Bo {i:Int}:A.lE (.int i)=false:=rfl
@[simp]def Ez {i:Bool}:A.lE (.bl i)=false:=rfl
@[simp]def Cp {i:Str}:A.lE (.str i)=false:=rfl
@[simp]def Ci {i:Nat}:A.lE (.ref i)=false:=rfl
@[simp]def Cd:A.lE .non=false:=rfl
@[simp]def Dv {i j:Int}:A.lE (.rng i j)=false:=rfl
@[simp]def CJ {c:Str}:A.lE (.exn c)=false:=rfl
@[simp]def LD:eC a τ S=.ok a S:=rfl
abbrev P5 (f:A->A->iK->R A)(cb:Ex)(τ:ad)(a:A)(S:iK):R A:=(cb τ S).bind<|f a
@[simp]def Dz {f:A->A->iK->R A}{cb:Ex}:P5 f cb τ a S=(cb τ S).bind (f a):=rfl
@[simp]def CM {f:A->A->iK->R A}{ca cb:Ex}:iQ f ca cb τ S=(ca τ S).bind (P5 f cb τ):=rfl
@[simp]def F0 {f:A->iK->R A}{ca:Ex}:LQ f ca τ S=(ca τ S).bind f:=rfl
@[simp]def Di {c:Ex}:Fq c τ S=(c τ S).bind λa S1=>opt (a.Qy S1) λb=>.ok b S1:=rfl
abbrev aB (a:A)(S:iK):R Bool:=match a with
 | .bl b=>.ok b S
 | _=>.no
@[simp]def LF {b:Bool}:aB (.bl b) S=.ok b S:=rfl
@[simp]def Fl {c:Ex}:oY c τ S=(c τ S).bind aB:=rfl
@[simp]def BH {c:Te}:RI c τ S=(c τ S).bind λb S1=>.ok (!b) S1:=rfl
abbrev M7 (d:Te)(τ:ad)(b:Bool)(S:iK):R Bool:=match b with|true=>d τ S|false=>.ok false S
abbrev Ra (d:Te)(τ:ad)(b:Bool)(S:iK):R Bool:=match b with|true=>.ok true S|false=>d τ S
@[simp]def IZ {d:Te}:M7 d τ true S=d τ S:=rfl
@[simp]def F6 {d:Te}:M7 d τ false S=.ok false S:=rfl
@[simp]def Ln {d:Te}:Ra d τ true S=.ok true S:=rfl
@[simp]def Lo {d:Te}:Ra d τ false S=d τ S:=rfl
@[simp]def Dr {c d:Te}:Ef c d τ S=(c τ S).bind (M7 d τ):=rfl
@[simp]def Hv {c d:Te}:OL c d τ S=(c τ S).bind (Ra d τ):=rfl
@[simp]def Dm:lX τ S=.ok true S:=rfl
abbrev E_ (d:Ex)(τ:ad)(a:A)(S:iK):R A:=match a with | .bl true=>d τ S | .bl false=>.ok (.bl false) S|_=>.no
abbrev NX (d:Ex)(τ:ad)(a:A)(S:iK):R A:=match a with | .bl true=>.ok (.bl true) S | .bl false=>d τ S|_=>.no
@[simp]def Cg {d:Ex}:E_ d τ (.bl true) S=d τ S:=rfl
@[simp]def Cv {d:Ex}:E_ d τ (.bl false) S=.ok (.bl false) S:=rfl
@[simp]def IP {d:Ex}:NX d τ (.bl true) S=.ok (.bl true) S:=rfl
@[simp]def G9 {d:Ex}:NX d τ (.bl false) S=d τ S:=rfl
@[simp]def CF {c d:Ex}:Hy c d τ S=(c τ S).bind (E_ d τ):=by
 unfold Hy
 cases c τ S with
 | ok a S1=>cases a<;>first|rfl|(rename_i b;cases b<;>rfl)
 | _=>rfl
@[simp]def Ge {c d:Ex}:SO c d τ S=(c τ S).bind (NX d τ):=by
 unfold SO
 cases c τ S with
 | ok a S1=>cases a<;>first|rfl|(rename_i b;cases b<;>rfl)
 | _=>rfl
abbrev Mb (a:A)(S:iK):R A:=match a with | .bl b=>.ok (.bl !b) S|_=>.no
@[simp]def zp {b:Bool}:Mb (.bl b) S=.ok (.bl !b) S:=rfl
@[simp]def Dt {c:Ex}:Rl c τ S=(c τ S).bind Mb:=rfl
abbrev Na (c d:Ex)(τ:ad)(b:Bool)(S:iK):R A:=match b with|true=>c τ S|false=>d τ S
@[simp]def Gv {c d:Ex}:Na c d τ true S=c τ S:=rfl
@[simp]def E9 {c d:Ex}:Na c d τ false S=d τ S:=rfl
@[simp]def GB {t:Te}{c d:Ex}:TR t c d τ S=(t τ S).bind (Na c d τ):=rfl
@[simp]def BR:iU τ S=.ok [] S:=rfl
abbrev Aj (a:A)(J:ad)(S:iK):R (ad):=.ok (a::J) S
abbrev Lv (d:oX)(τ:ad)(a:A)(S:iK):R (ad):=(d τ S).bind<|Aj a
@[simp]def vO {J:ad}:Aj a J S=.ok (a::J) S:=rfl
@[simp]def y9 {d:oX}:Lv d τ a S=(d τ S).bind (Aj a):=rfl
@[simp]def yT {c:Ex}{d:oX}:iJ c d τ S=(c τ S).bind (Lv d τ):=rfl
@[simp]def Cu {d:oX}:JM d τ S=(d τ S).bind λas S1=>gd (as.length<=sizeLine) (.ok (.tup as) S1):=rfl
@[simp]def Bf {d:oX}:mS d τ S=(d τ S).bind newL:=rfl
theorem ju{J:ad}(h:J.length<=16777216):newL J S=.ok (.ref S.length) (S++[.lst J]):=mO<|by rw[dz];exact h
@[simp]def yF {f:ad->iK->R A}{d:oX}:ja f d τ S=(d τ S).bind f:=rfl
abbrev QV (r:R A):R A:=match r with
 | .ok a S=>.ok a S
 | _=>.no
@[simp]def ER:QV (.ok a S)=.ok a S:=rfl
abbrev SQ (f:ad->iK->R A)(J:ad)(S:iK):R A:=QV<|f J S
@[simp]def EM {f:ad->iK->R A}{J:ad}:SQ f J S=QV (f J S):=rfl
@[simp]def Gm {f:ad->iK->R A}{d:oX}:eFn f d τ S=(d τ S).bind (SQ f):=rfl
@[simp]def LU {g:A->iK->R A}:f1 g [a] S=g a S:=rfl
@[simp]def Me {g:A->A->iK->R A}:f2 g [a,b] S=g a b S:=rfl
abbrev Nv (h:Pt)(τ:ad)(a:A)(l:ba)(S:iK):R A:=(h τ S).bind<|OQ a l
abbrev SX (l h:Pt)(τ:ad)(a:A)(S:iK):R A:=(l τ S).bind<|Nv h τ a
@[simp]def Dn {h:Pt}{l:ba}:Nv h τ a l S=(h τ S).bind (OQ a l):=rfl
@[simp]def Hz {l h:Pt}:SX l h τ a S=(l τ S).bind (Nv h τ a):=rfl
@[simp]def GH {c:Ex}{l h:Pt}:Jd c l h τ S=(c τ S).bind (SX l h τ):=rfl
@[simp]def zU:p9 τ S=.ok none S:=rfl
abbrev SD (a:A)(S:iK):R (ba):=match a with
 | .int i=>.ok (some i) S
 | _=>.no
@[simp]def Bg {i:Int}:SD (.int i) S=.ok (some i) S:=rfl
@[simp]def zK {c:Ex}:p_ c τ S=(c τ S).bind SD:=rfl
abbrev MQ (f:A->ad->iK->R A)(d:oX)(τ:ad)(o:A)(S:iK)(_:ad):R A:=(d τ S).bind<|f o
abbrev SE (f:A->ad->iK->R A)(d:oX)(τ:ad)(o:A)(S:iK):R A:=opt (o.lst? S)<|MQ f d τ o S
@[simp]def CP {f:A->ad->iK->R A}{d:oX}{xs:ad}:MQ f d τ a S xs=(d τ S).bind (f a):=rfl
@[simp]def Ga {f:A->ad->iK->R A}{d:oX}:SE f d τ a S=opt (a.lst? S) (MQ f d τ a S):=rfl
@[simp]def GZ {f:A->ad->iK->R A}{c:Ex}{d:oX}:z8 f c d τ S=(c τ S).bind (SE f d τ):=rfl
@[simp]def CK {f:A->ad->iK->R A}{c:Ex}:Sf f c τ S=(c τ S).bind λo S1=>opt (o.lst? S1) λ_=>f o [] S1:=rfl
@[simp]def lst?_ref {n:Nat}:A.lst? S (.ref n)=iI S n:=rfl
abbrev RS.seq (r:RS)(d:Sm):RS:=match r with
 | .nx τ S=>d τ S
 | r=>r
@[simp]def RS.IE {d:Sm}:RS.seq (.nx τ S) d=d τ S:=rfl
@[simp]def RS.Hx {d:Sm}:RS.seq (.rt a S) d=.rt a S:=rfl
@[simp]def RS.G1 {d:Sm}{c:Str}:RS.seq (.ex c S) d=.ex c S:=rfl
@[simp]def RS.FZ {d:Sm}:RS.seq (.bk τ S) d=.bk τ S:=rfl
@[simp]def RS.Fi {d:Sm}:RS.seq (.ct τ S) d=.ct τ S:=rfl
@[simp]def wM {c d:Sm}:jb c d τ S=RS.seq (c τ S) d:=by unfold jb RS.seq;cases c τ S<;>rfl
@[simp]def Dg:oh τ S=.nx τ S:=rfl
@[simp]def vR:Nb τ S=.bk τ S:=rfl
@[simp]def zw:P7 τ S=.ct τ S:=rfl
@[simp]def zN {e:Ex}:lH e τ S=RS.of (e τ S) λ_ S1=>.nx τ S1:=rfl
@[simp]def C3 {e:Ex}:ko e τ S=RS.of (e τ S) .rt:=rfl
@[simp]def zQ:GN τ S=.rt .non S:=rfl
abbrev QA (c d:Sm)(τ:ad)(b:Bool)(S:iK):RS:=match b with|true=>c τ S|false=>d τ S
@[simp]def Lm {c d:Sm}:QA c d τ true S=c τ S:=rfl
@[simp]def LK {c d:Sm}:QA c d τ false S=d τ S:=rfl
@[simp]def HB {t:Te}{c d:Sm}:vL t c d τ S=RS.of (t τ S) (QA c d τ):=rfl
abbrev OT (g:Tg)(τ:ad)(a:A)(S:iK):RS:=RS.of (g a τ S) .nx
@[simp]def BP {g:Tg}:OT g τ a S=RS.of (g a τ S) .nx:=rfl
@[simp]def Bd {e:Ex}{g:Tg}:jm e g τ S=RS.of (e τ S) (OT g τ):=rfl
@[simp]def RU {i:Nat}:jj i a τ S=.ok (τ.set i a) S:=rfl
abbrev M3 (a o:A)(τ:ad)(i:A)(S:iK):R (ad):=(zT o i a S).bind λ_ d=>.ok τ d
abbrev Tr (ci:Ex)(τ:ad)(a o:A)(S:iK):R (ad):=(ci τ S).bind<|M3 a o τ
@[simp]def B5 {o i:A}:M3 a o τ i S=(zT o i a S).bind λ_ S3=>.ok τ S3:=rfl
@[simp]def GQ {ci:Ex}{o:A}:Tr ci τ a o S=(ci τ S).bind (M3 a o τ):=rfl
@[simp]def E8 {co ci:Ex}:N4 co ci a τ S=(co τ S).bind (Tr ci τ a):=rfl
@[simp]def Ie {n:Nat}{gs:Jb}{xs:ad}:JI n gs (.tup xs) τ S=gd (xs.length=n) (gs xs τ S):=rfl
@[simp]def Ir:Jm [] τ S=.ok τ S:=rfl
@[simp]def Hr {g:Tg}{gs:Jb}{J:ad}:z9 g gs (a::J) τ S=(g a τ S).bind (gs J):=rfl
abbrev Ss (i j:Nat)(τ:ad)(J:ad)(S:iK):RS:=match J with
 | [a,b]=>.nx ((τ.set i a).set j b) S
 | _=>.no
@[simp]def Gz {i j:Nat}:Ss i j τ [a,b] S=.nx ((τ.set i a).set j b) S:=rfl
@[simp]def Bs {i j:Nat}{c:oX}:RY i j c τ S=RS.of (c τ S) (Ss i j τ):=rfl
abbrev E3 (i:Nat)(τ:ad)(c:A)(S:iK):RS:=.nx (τ.set i c) S
abbrev Pp (i:Nat)(f:A->A->iK->R A)(τ:ad)(b:A)(S:iK):RS:=.of (f (τ.getD i .unb) b S)<|E3 i τ
@[simp]def zV {i:Nat}:E3 i τ a S=.nx (τ.set i a) S:=rfl
@[simp]def Bu {i:Nat}{f:A->A->iK->R A}:Pp i f τ a S=.of (f (τ.getD i .unb) a S) (E3 i τ):=rfl
@[simp]def CI {i:Nat}{f:A->A->iK->R A}{e:Ex}:D0 i f e τ S=bif (τ.getD i .unb).lE then .no else .of (e τ S) (Pp i f τ):=by
 unfold D0;cases(τ.getD i .unb).lE<;>rfl
abbrev RH (o i:A)(τ:ad)(z:A)(S:iK):RS:=.of (zT o i z S) λ_ d=>.nx τ d
abbrev QT (f:A->A->iK->R A)(o i x:A)(τ:ad)(y:A)(S:iK):RS:=.of (f x y S)<|RH o i τ
abbrev Rm (J:Ex)(f:A->A->iK->R A)(o i:A)(τ:ad)(x:A)(S:iK):RS:=.of (J τ S)<|QT f o i x τ
abbrev Ru (J:Ex)(f:A->A->iK->R A)(o:A)(τ:ad)(i:A)(S:iK):RS:=.of (KN o i S)<|Rm J f o i τ
abbrev SM (ci J:Ex)(f:A->A->iK->R A)(τ:ad)(o:A)(S:iK):RS:=.of (ci τ S)<|Ru J f o τ
@[simp]def HV {o i:A}:RH o i τ a S=.of (zT o i a S) λ_ S6=>.nx τ S6:=rfl
@[simp]def HX {f:A->A->iK->R A}{o i x:A}:QT f o i x τ a S=.of (f x a S) (RH o i τ):=rfl
@[simp]def F5 {J:Ex}{f:A->A->iK->R A}{o i:A}:Rm J f o i τ a S=.of (J τ S) (QT f o i a τ):=rfl
@[simp]def GU {J:Ex}{f:A->A->iK->R A}{o:A}:Ru J f o τ a S=.of (KN o a S) (Rm J f o a τ):=rfl
@[simp]def FW {ci J:Ex}{f:A->A->iK->R A}:SM ci J f τ a S=.of (ci τ S) (Ru J f a τ):=rfl
@[simp]def zP {co ci J:Ex}{f:A->A->iK->R A}:P1 co ci J f τ S=RS.of (co τ S) (SM ci J f τ):=rfl
abbrev RS.end (r:RS):R A:=match r with
 | .rt a d=>.ok a d
 | .nx _ d=>.ok .non d
 | .ex c d=>.ex c d
 | _=>.no
@[simp]def RS.HN:RS.end (.rt a S)=.ok a S:=rfl
@[simp]def RS.Fc:RS.end (.nx τ S)=.ok .non S:=rfl
@[simp]def RS.G6 {c:Str}:RS.end (.ex c S)=.ex c S:=rfl
theorem tw {N:am}{m:Sm}{J:ad}:mE N m J S=RS.end (m (J++List.replicate (N.length-J.length) .unb) S):=by
 unfold mE RS.end;cases m (J++List.replicate (N.length-J.length) .unb) S<;>rfl
@[simp]def GD {i j:Int}:jK (.int i) (.int j) S=.ok (.int<|i+j) S:=rfl
@[simp]def EN {i j:Int}:aSub (.int i) (.int j) S=.ok (.int<|i-j) S:=rfl
@[simp]def F7 {i j:Int}:JG (.int i) (.int j) S=.ok (.int<|i+j) S:=rfl
theorem FN{i j:Int}(h:-18446744073709551616<i)(h':i<18446744073709551616):rR (.int i) (.int j) S=.ok (.int<|i * j) S:=mO<|by unfold zY;simp;left;exact⟨by omega,by omega⟩
def mul_r{i j:Int}(h:-18446744073709551616<j)(h':j<18446744073709551616):rR (.int i) (.int j) S=.ok (.int<|i * j) S:=mO<|by unfold zY;simp;right;exact⟨(),()⟩
def F9{i j:Int}(h:0<j)(h':j<1073741824):BY (.int i) (.int j) S=.ok (.int<|i / j) S:=mO ⟨h,()⟩
def yQ{i j:Int}(h:0<j):wX (.int i) (.int j) S=.ok (.int<|i % j) S:=mO h
@[simp]def LC {i j:Int}:Eo (.int i) (.int j) S=.ok (.bl<|decide<|i<j) S:=rfl
@[simp]def Ls {i j:Int}:Ll (.int i) (.int j) S=.ok (.bl<|decide<|i<=j) S:=rfl
@[simp]def Lk {i j:Int}:La (.int i) (.int j) S=.ok (.bl<|decide<|j<i) S:=rfl
@[simp]def L3 {i j:Int}:QG (.int i) (.int j) S=.ok (.bl<|decide<|j<=i) S:=rfl
@[simp]def LO {i j:Bool}:Lb false (.bl i) (.bl j) S=.ok (.bl<|i == j) S:=rfl
@[simp]def HF {i j:Bool}:Lb true (.bl i) (.bl j) S=.ok (.bl<|i != j) S:=rfl
@[simp]def GS {i:Int}:zC (.int i) S=.ok (.int<|-i) S:=rfl
@[simp]def I0 {xs:ad}:nv (.tup xs) S=.ok (.int xs.length) S:=rfl
@[simp]def EB {xs:ad}:nv (.frz xs) S=.ok (.int xs.length) S:=rfl
@[simp]def Fw {n:Nat}:nv (.ref n) S=opt (iI S n) λxs=>.ok (.int xs.length) S:=rfl
@[simp]def IG {i:Int}:Rq (.int i) S=.ok (.int<|if i<0 then -i else i) S:=rfl
@[simp]def Cf {i j:Int}:BC (.int i) (.int j) S=.ok (.int<|if j>i then j else i) S:=rfl
@[simp]def A8 {i j:Int}:BF (.int i) (.int j) S=.ok (.int<|if j<i then j else i) S:=rfl
@[simp]def BU {i:Int}:Ct (.int i) S=.ok (.int i) S:=rfl
@[simp]def BJ {i:Bool}:Ct (.bl i) S=.ok (.int<|if i then 1 else 0) S:=rfl
@[simp]def vN {i j:Int}:KD (.int i) (.int j) S=.ok (.rng i j) S:=rfl
@[simp]def Lq {xs:ad}{i:Int}:m9 (.tup xs) (.int i) S=opt (mL xs i) λx=>.ok x S:=rfl
@[simp]def L0 {xs:ad}{i:Int}:m9 (.frz xs) (.int i) S=opt (mL xs i) λx=>.ok x S:=rfl
@[simp]def Lg {n:Nat}{i:Int}:m9 (.ref n) (.int i) S=opt (iI S n) λxs=>opt (mL xs i) λx=>.ok x S:=rfl
@[simp]def F8 {n:Nat}{k:Int}:zT (.ref n) (.int k) a S=opt (iI S n) λxs=>opt (yy xs.length k) λj=>.ok Unit.unit (S.set n<|.lst<|xs.set j a):=rfl
@[simp]def IW {n:Nat}{i:Int}:KN (.ref n) (.int i) S=opt (iI S n) λxs=>gd (0<=i) (opt (xs[i.toNat]?) λx=>.ok x S):=rfl
@[simp]def CZ {xs:ad}:kX (.tup xs) S=.ok (.ref S.length) (S++[.lst xs]):=rfl
@[simp]def Bp {xs:ad}:kX (.frz xs) S=.ok (.ref S.length) (S++[.lst xs]):=rfl
@[simp]def BX {n:Nat}:kX (.ref n) S=opt (iI S n) λxs=>.ok (.ref S.length) (S++[.lst xs]):=rfl
@[simp]def za {xs:ad}:qf (.tup xs) S=.ok (.tup xs) S:=rfl
@[simp]def yC {n:Nat}:qf (.ref n) S=opt (iI S n) λxs=>.ok (.tup xs) S:=rfl
@[simp]def IL {xs:ad}:P4 (.tup xs) S=.ok (.tup xs.reverse) S:=rfl
@[simp]def HM {n:Nat}:P4 (.ref n) S=opt (iI S n) λxs=>.ok (.ref S.length) (S++[.lst xs.reverse]):=rfl
@[simp]def Lf {n:Nat}{l u:ba}:OQ (.ref n) l u S=opt (iI S n) λxs=>.ok (.ref S.length) (S++[.lst<|vK xs l u]):=rfl
@[simp]def vB {n:Nat}:kU (.ref n) [a] S=opt (iI S n) λxs=>gd (xs.length<sizeLine) (.ok .non<|S.set n<|.lst<|xs++[a]):=rfl
@[simp]def Hf {b:Bool}:A.Qy (.bl b) S=some b:=rfl
@[simp]def A9 {i:Int}:A.Qy (.int i) S=some (i != 0):=rfl
theorem EH{o:O}:(S++[o])[S.length]?=some o:=by simp
@[simp]def iY {xs:ad}:iI (S++[.lst xs]) S.length=some xs:=ou EH
theorem jE{o:O}{n:Nat}(h:iI S n=some xs):iI (S++[o]) n=some xs:=by
 have h':=iS h;exact ou<|by rw[bw (aI.mp h').1];exact h'
def jQ{n:Nat}(h:iI S n=some xs):n<S.length:=(aI.mp<|iS h).1
def kR{n:Nat}(h:n<S.length):iI (S.set n<|.lst ys) n=some ys:=ou<|bF h
def jC{n:Nat}(h:n≠m):iI (S.set n<|.lst ys) m=iI S m:=by unfold iI;rw[bz h]
def pO{xs:ad}{i:Int}{k:Nat}{x:A}(h:i=k)(J:xs[k]?=some x):mL xs i=some x:=by rw[h];exact Ju J
def xK{n:Nat}{i:Int}{k:Nat}(h:i=k)(J:k<n):yy n i=some k:=by
 subst h;unfold yy;rw[aN (),aN ()];simp
end
structure Kp (b:Nat->Prop)(S S':iK):Prop where
 len:S.length<=S'.length
 obj:∀(n:Nat) (o:O),¬b n->S[n]?=some o->S'[n]?=some o
meta abbrev kC:=Kp λ_=>False
def Kp.lst{b:Nat->Prop}(h:Kp b S S')(n:Nat)(xs:ad)(J:¬b n)(e:iI S n=some xs):iI S' n=some xs:=ou<|h.obj n _ J<|iS e
def Kp.dct{b:Nat->Prop}(h:Kp b S S')(n:Nat)(xs:List<|ae×A)(J:¬b n)(e:ku S n=some xs):ku S' n=some xs:=u5<|h.obj n _ J<|pN e
def Kp.refl{b:Nat->Prop}:Kp b S S:=⟨aM _,λ_ _ _ h=>h⟩
def Kp.trans{b:Nat->Prop}(h:Kp b S S1)(h':Kp b S1 S2):Kp b S S2:=⟨bH h.len h'.len,λn xs d e=>h'.obj n xs d<|h.obj n xs d e⟩
def w6{S:iK}{n:Nat}(e:S[n]?=some o):n<S.length:=(aI.mp e).1
def Kp.lay{b:Nat->Prop}{o:O}(h:Kp b S S1):Kp b S (S1++[o]):=⟨bH h.len<|by simp,λn xs d e=>by
 have:=h.obj n xs d e;rw[bw<|w6 this];exact this⟩
def Kp.Nq{b:Nat->Prop}{S S1:iK}(h:Kp b S S1)(J:b m\/S.length<=m):Kp b S (S1.set m o):=⟨by rw[bD];exact h.len,λn xs d e=>by
 have:m≠n:=λz=>by
  subst z
  rcases J with z|z
  ·exact d z
  ·exact absurd (w6 e) ()
 rw[bz this];exact h.obj n xs d e⟩
def Kp.set{b:Nat->Prop}{S S1:iK}(h:Kp b S S1)(J:b m\/S.length<=m):Kp b S (S1.set m<|.lst ys):=h.Nq J
def Kp.mono{b c:Nat->Prop}{S:iK}(h:Kp b S S1)(J:∀n,n<S.length->b n->c n):Kp c S S1:=⟨h.len,λn xs hc e=>h.obj n xs (λz=>hc<|J n (w6 e) z) e⟩
def Kp.of0{b:Nat->Prop}(h:kC S S1):Kp b S S1:=h.mono λ_ _ z=>z.elim
def Kp.old{b c:Nat->Prop}{S:iK}(h:Kp b S S1)(h':Kp c S1 S2)(hc:∀n,n<S.length->¬b n->¬c n):Kp b S S2:=⟨bH h.len h'.len,λn xs d e=>h'.obj n xs (hc n (w6 e) d)<|h.obj n xs d e⟩
theorem pA{t:Te}{c:Sm}(Inv:ad->iK->Prop)(μ:ad->iK->Nat)(J:RS->Prop)
  (h:∀τ S,Inv τ S->(∃S1,t τ S=.ok false S1/\J (.nx τ S1))\/(∃S1,t τ S=.ok true S1/\((∃τ' S',c τ S1=.nx τ' S'/\Inv τ' S'/\μ τ' S'<μ τ S)\/(∃a S',c τ S1=.rt a S'/\J (.rt a S'))))) :
  ∀n τ S,Inv τ S->μ τ S<n->J (j9 t c n τ S)
 | 0,_,_,_,hn=>absurd hn (cK _)
 | n+1,τ,S,hi,hn=>by
  unfold j9
  rcases h τ S hi with⟨S1,e,q⟩|⟨S1,e,⟨τ',S',e2,d,f⟩|⟨a,S',e2,q⟩⟩
  ·rw[e];exact q
  ·rw[e];show J (match c τ S1 with
    | .nx τ' S'=>j9 t c n τ' S'
    | .ct τ' S'=>j9 t c n τ' S'
    | .bk τ' S'=>.nx τ' S'
    | r=>r)
   rw[e2];exact pA Inv μ J h n τ' S' d ()
  ·rw[e];show J (match c τ S1 with
    | .nx τ' S'=>j9 t c n τ' S'
    | .ct τ' S'=>j9 t c n τ' S'
    | .bk τ' S'=>.nx τ' S'
    | r=>r)
   rw[e2];exact q
theorem rL{s:Src}{g:Tg}{c:Sm}(Inv:Nat->ad->iK->Prop)(J:RS->Prop)
  (step:∀i τ S,i<s.k->Inv i τ S->∃x τ1 S1,s.get i S=some x/\g x τ S=.ok τ1 S1/\((∃τ' S',c τ1 S1=.nx τ' S'/\Inv (i+1) τ' S')\/(∃a S',c τ1 S1=.rt a S'/\J (.rt a S'))))
  (fin:∀τ S,Inv s.k τ S->s.fin S=true/\J (.nx τ S)):∀k i τ S,k+i=s.k->Inv i τ S->J (nJ s g c k i τ S)
 | 0,i,τ,S,hk,hi=>by
  have:i=s.k:=()
  subst this;obtain⟨hf,q⟩:=fin τ S hi;unfold nJ;rw[aN hf];exact q
 | k+1,i,τ,S,hk,hi=>by
  obtain⟨x,τ1,S1,f,hg,h⟩:=step i τ S () hi;unfold nJ;rw[f];show J (RS.of (g x τ S) λτ1 S1=>match c τ1 S1 with
   | .nx τ' S'=>nJ s g c k (i+1) τ' S'
   | .ct τ' S'=>nJ s g c k (i+1) τ' S'
   | .bk τ' S'=>.nx τ' S'
   | r=>r)
  rw[hg];show J (match c τ1 S1 with
   | .nx τ' S'=>nJ s g c k (i+1) τ' S'
   | .ct τ' S'=>nJ s g c k (i+1) τ' S'
   | .bk τ' S'=>.nx τ' S'
   | r=>r)
  rcases h with⟨τ',S',e,d⟩|⟨a,S',e,q⟩
  ·rw[e];exact rL Inv J step fin k (i+1) τ' S' () d
  ·rw[e];exact q
def xO{lo hi:Int}{c:Sm}{src:Ic}{τ:ad}(hs:src τ S=.ok (m_ lo hi) S1)(Inv:Nat->ad->iK->Prop)(J:RS->Prop)(h0:Inv 0 τ S1)
  (step:∀(i:Nat) τ S,(i:Int)<hi-lo->Inv i τ S->(∃τ' S',c (τ.set j<|.int<|lo+i) S=.nx τ' S'/\Inv (i+1) τ' S')\/(∃a S',c (τ.set j<|.int<|lo+i) S=.rt a S'/\J (.rt a S')))
  (fin:∀τ S,Inv (hi-lo).toNat τ S->J (.nx τ S)):J (kN src (jj j) c τ S):=by
 unfold kN;rw[hs];refine rL (s:=m_ lo hi) Inv J (λi τ S d h=>?_) (λτ S h=>⟨rfl,fin τ S h⟩) _ 0 τ S1 rfl h0;have d:i<(hi-lo).toNat:=d;exact⟨.int<|lo+i,_,S,aN d,rfl,step i τ S (by omega) h⟩
def qO{n:Nat}{xs:ad}{g:Tg}{c:Sm}{src:Ic}(hs:src τ S=.ok (jq n xs.length) S1)(Inv:Nat->ad->iK->Prop)(J:RS->Prop)(h0:Inv 0 τ S1)(hl:∀i τ S,Inv i τ S->iI S n=some xs)
  (step:∀(i:Nat) x τ S,xs[i]?=some x->Inv i τ S->∃τ1 S1,g x τ S=.ok τ1 S1/\((∃τ' S',c τ1 S1=.nx τ' S'/\Inv (i+1) τ' S')\/(∃a S',c τ1 S1=.rt a S'/\J (.rt a S'))))
  (fin:∀τ S,Inv xs.length τ S->J (.nx τ S)):J (kN src g c τ S):=by
 unfold kN;rw[hs];refine rL (s:=jq n xs.length) Inv J (λi τ S d h=>?_) (λτ S h=>⟨?_,fin τ S h⟩) _ 0 τ S1 rfl h0
 ·have d:i<xs.length:=d;obtain⟨τ1,S1,e,q⟩:=step i xs[i] τ S (aE d) h;exact⟨xs[i],τ1,S1,by show(iI S n).bind _=_;rw[hl i τ S h];exact aE d,e,q⟩
 ·show(match iI S n with
   | some ys=>decide (ys.length<=xs.length)
   | none=>false)=true
  rw[hl _ τ S h];exact bf<|aM _
@[simp]def oZ {c:Ex}{τ:ad}{S S1:iK}{j:Int}(h:c τ S=.ok (.int j) S1)(J:bnd j):n6 c τ S=.ok (m_ 0 j) S1:=by
 unfold n6;rw[h];exact mO J
def m8{c:Ex}{n:Nat}{xs:ad}(h:c τ S=.ok (.ref n) S1)(J:iI S1 n=some xs):l5 c τ S=.ok (jq n xs.length) S1:=by
 unfold l5;rw[h];show opt (iI S1 n) _=_;rw[J];rfl
theorem xT{s:Src}{g:Tg}{t:Te}{e:Ex}{P:iK->Prop}{T:ad->Prop}(it:Nat->A)(p:Nat->Bool)(f:Nat->A)
  (J:∀i S,i<s.k->P S->s.get i S=some (it i)) (hfin:∀S,P S->s.fin S=true)
  (step:∀i τ S,i<s.k->T τ->P S->∃τ1 S1 S2,g (it i) τ S=.ok τ1 S1/\t τ1 S1=.ok (p i) S2/\T τ1/\(p i=false->P S2)/\(p i=true->∃S3,e τ1 S2=.ok (f i) S3/\P S3)) :
  ∀k i τ S,k+i=s.k->T τ->P S->∃S',jt s g t e k i τ S=.ok (((List.range' i k).filter p).map f) S'/\P S'
 | 0,i,τ,S,hk,hT,hP=>⟨S,by unfold jt;rw[aN<|hfin S hP];rfl,hP⟩
 | k+1,i,τ,S,hk,hT,hP=>by
  obtain⟨τ1,S1,S2,hg,C,d,F,q⟩:=step i τ S (by omega) hT hP;unfold jt;rw[J i S (by omega) hP,iZ,hg,R.i9,C,R.i9,List.range'_succ,List.filter_cons]
  cases z:p i with
  | false=>
   obtain⟨S',h1,j⟩:=xT it p f J hfin step k (i+1) τ1 S2 (by omega) d<|F z;exact⟨S',by simpa using h1,j⟩
  | true=>
   obtain⟨S3,B,m⟩:=q z;obtain⟨S',h1,j⟩:=xT it p f J hfin step k (i+1) τ1 S3 (by omega) d m;refine⟨S',?_,j⟩
   skip
   rw[B,R.i9,h1];rfl
def D7{s:Src}{src:Ic}{t:Te}{e:Ex}{S1:iK}(hs:src τ S=.ok s S1)(it:Nat->A)(p:Nat->Bool)(f:Nat->A)(J:∀i,i<s.k->s.get i S1=some (it i))(hfin:s.fin S1=true)
  (ht:∀i,i<s.k->t (it i::mG cap τ) S1=.ok (p i) S1) (he:∀i,i<s.k->p i=true->e (it i::mG cap τ) S1=.ok (f i) S1) (hl:s.k<=16777216) :
  jH (none::cap) src (jj 0) t e τ S=.ok (.ref S1.length) (S1++[.lst<|((List.range s.k).filter p).map f]):=by
 unfold jH;rw[hs,R.jv];obtain⟨q,h1,j⟩:=xT (s:=s) (g:=jj 0) (t:=t) (e:=e) (P:=λS=>S=S1) (T:=λd=>∃y,d=y::mG cap τ) it p f (λi S hi h=>by subst h;exact J i hi) (λS h=>by subst h;exact hfin)
  (λi d S hi ⟨y,hy⟩ h=>by
   subst h hy;exact⟨it i::mG cap τ,S,S,rfl,ht i hi,⟨_,rfl⟩,λ_=>rfl,λm=>⟨S,he i hi m,rfl⟩⟩) s.k 0 (mG (none::cap) τ) S1 rfl ⟨_,rfl⟩ rfl
 subst j;rw[h1,R.i9,List.range_eq_range'];refine ju ?_;rw[aG];refine bH (ff _ _) ?_;rw[List.length_range'];exact hl
@[simp]def Hh {cap:List<|bi}{τ:ad}:mG (none::cap) τ=.unb::mG cap τ:=rfl
@[simp]def Iw {cap:List<|bi}{τ:ad}{j:Nat}:mG (some j::cap) τ=τ.getD j .unb::mG cap τ:=rfl
@[simp]def zo {τ:ad}:mG [] τ=[]:=rfl
theorem zR{x:A}:mL (x::xs) 0=some x:=pO (k:=0) rfl rfl
def GW{x:A}:mL (x::y::xs) 1=some y:=pO (k:=1) rfl rfl
def xV{ns:ae}{i:Int}{k:Nat}{x:Int}(h:i=k)(J:ns[k]?=some x):mL (ns.map A.int) i=some (.int x):=pO h<|by rw[aR,J];rfl
def oJ{j:Int}(h:-4611686018427387904<=j)(h':j<4611686018427387904):bnd j:=⟨(),()⟩
theorem ints_map:∀(ns:ae),A.ints (ns.map .int)=some ns
 | []=>rfl
 | n::ns=>by show(A.ints<|ns.map .int).map (n::·)=_;rw[ints_map ns];rfl
theorem rO{n:Nat}:∀(xs ys:ae),pZ (o_ S<|n+1) (xs.map .int) (ys.map .int)=some (decide<|xs=ys)
 | [],[]=>rfl
 | [],_::_=>rfl
 | _::_,[]=>rfl
 | x::xs,y::ys=>by
  skip
  skip
  show Option.map _ (pZ (o_ S<|n+1) (xs.map .int)<|ys.map .int)=_;rw[rO xs ys]
  skip
  by_cases h1:x=y<;>by_cases d:xs=ys<;>simp[h1,d]
@[simp]def L_ {S:iK}{x y:Bool}:sL false (.bl x) (.bl y) S=.ok (.bl<|x == y) S:=rfl
@[simp]def Lz {S:iK}{x y:Bool}:sL true (.bl x) (.bl y) S=.ok (.bl<|!(x == y)) S:=rfl
@[simp]def K_ {S:iK}{x y:Int}:sL false (.int x) (.int y) S=.ok (.bl<|x == y) S:=rfl
@[simp]def LZ {S:iK}{x y:Int}:sL true (.int x) (.int y) S=.ok (.bl<|!(x == y)) S:=rfl
@[simp]def BL {S:iK}:Lb false .non .non S=.ok (.bl true) S:=rfl
@[simp]def CD {S:iK}{xs:ad}:Lb false (.tup xs) .non S=.ok (.bl false) S:=rfl
@[simp]def Cy {S:iK}{n:Nat}:Lb false (.ref n) .non S=.ok (.bl false) S:=rfl
@[simp]def zl {S:iK}:Lb true .non .non S=.ok (.bl false) S:=rfl
@[simp]def zq {S:iK}{xs:ad}:Lb true (.tup xs) .non S=.ok (.bl true) S:=rfl
@[simp]def zy {S:iK}{n:Nat}:Lb true (.ref n) .non S=.ok (.bl true) S:=rfl
@[simp]def BO {S:iK}{x:A}{c:String}:QW x (.ty c) S=opt (x.kd S) λk=>opt (OZ k c) λb=>.ok (.bl b) S:=rfl
@[simp]def LG {S:iK}{b:Bool}:A.kd (.bl b) S=some .bl:=rfl
@[simp]def Il {S:iK}{b:Int}:A.kd (.int b) S=some .int:=rfl
@[simp]def E7 {S:iK}{b:ad}:A.kd (.tup b) S=some .tup:=rfl
@[simp]def FD {S:iK}:A.kd .non S=some .non:=rfl
@[simp]def EY {S:iK}{b:Str}:A.kd (.str b) S=some .str:=rfl
@[simp]def FO {S:iK}{n:Nat}:A.kd (.ref n) S=(iI S n).map λ_=>.lst:=rfl
@[simp]def GJ {S:iK}:newL [] S=.ok (.ref S.length) (S++[.lst []]):=ju<|by simp
@[simp]def G8 {S:iK}{x0:A}:newL [x0] S=.ok (.ref S.length) (S++[.lst [x0]]):=ju<|by simp
@[simp]def EJ {S:iK}{x0 x1:A}:newL [x0,x1] S=.ok (.ref S.length) (S++[.lst [x0,x1]]):=ju<|by simp
@[simp]def Iz {S:iK}{x0 x1 x2:A}:newL [x0,x1,x2] S=.ok (.ref S.length) (S++[.lst [x0,x1,x2]]):=ju<|by simp
@[simp]def IY {S:iK}{x0 x1 x2 x3:A}:newL [x0,x1,x2,x3] S=.ok (.ref S.length) (S++[.lst [x0,x1,x2,x3]]):=ju<|by simp
@[simp]def IF {S:iK}{x0 x1 x2 x3 x4:A}:newL [x0,x1,x2,x3,x4] S=.ok (.ref S.length) (S++[.lst [x0,x1,x2,x3,x4]]):=ju<|by simp
@[simp]def IC {S:iK}{x0 x1 x2 x3 x4 x5:A}:newL [x0,x1,x2,x3,x4,x5] S=.ok (.ref S.length) (S++[.lst [x0,x1,x2,x3,x4,x5]]):=ju<|by simp
@[simp]def E6 {S:iK}{x0 x1 x2 x3 x4 x5 x6:A}:newL [x0,x1,x2,x3,x4,x5,x6] S=.ok (.ref S.length) (S++[.lst [x0,x1,x2,x3,x4,x5,x6]]):=ju<|by simp
@[simp]def GK {S:iK}{x0 x1 x2 x3 x4 x5 x6 J:A}:newL [x0,x1,x2,x3,x4,x5,x6,J] S=.ok (.ref S.length) (S++[.lst [x0,x1,x2,x3,x4,x5,x6,J]]):=ju<|by simp
@[simp]def Ht {S:iK}{x0 x1 x2 x3 x4 x5 x6 J x8:A}:newL [x0,x1,x2,x3,x4,x5,x6,J,x8] S=.ok (.ref S.length) (S++[.lst [x0,x1,x2,x3,x4,x5,x6,J,x8]]):=ju<|by simp
@[simp]def CG {S:iK}{x0 x1 x2 x3 x4 x5 x6 J x8 x9:A}:newL [x0,x1,x2,x3,x4,x5,x6,J,x8,x9] S=.ok (.ref S.length) (S++[.lst [x0,x1,x2,x3,x4,x5,x6,J,x8,x9]]):=ju<|by simp
theorem j4{α:Type}{n:Nat}{r:R α}(h:n<=16777216):gd (n<=sizeLine) r=r:=mO<|by rw[dz];exact h
def qv{α:Type}{n:Nat}{r:R α}(h:n<16777216):gd (n<sizeLine) r=r:=mO<|by rw[dz];exact h
def L5 {x:A}{xs:ad}:(x::xs).getD 0 .unb=x:=rfl
def L6 {x:A}{xs:ad}{n:Nat}:(x::xs).getD (n+1) .unb=xs.getD n .unb:=rfl
def Pj {x y:A}{xs:ad}:(x::xs).set 0 y=y::xs:=rfl
def sets {x y:A}{xs:ad}{n:Nat}:(x::xs).set (n+1) y=x::xs.set n y:=rfl
def rep0 {x:A}:List.replicate 0 x=[]:=rfl
def reps {x:A}{n:Nat}:List.replicate (n+1) x=x::List.replicate n x:=rfl
def Qe {x:A}{xs ys:ad}:(x::xs)++ys=x::(xs++ys):=rfl
def Py {ys:ad}:[]++ys=ys:=rfl
abbrev uV (x:A)(S:iK):R A:=bif x.lE then .no else .ok x S
def Gr {xs:ad}{S:iK}:uV (.tup xs) S=.ok (.tup xs) S:=rfl
def F4 {xs:ad}{S:iK}:uV (.frz xs) S=.ok (.frz xs) S:=rfl
def Hu {i:Int}{S:iK}:uV (.int i) S=.ok (.int i) S:=rfl
def L1 {b:Bool}{S:iK}:uV (.bl b) S=.ok (.bl b) S:=rfl
def HD {s:Str}{S:iK}:uV (.str s) S=.ok (.str s) S:=rfl
def Hq {n:Nat}{S:iK}:uV (.ref n) S=.ok (.ref n) S:=rfl
def EC  {S:iK}:uV (.non) S=.ok (.non) S:=rfl
def HP {i j:Int}{S:iK}:uV (.rng i j) S=.ok (.rng i j) S:=rfl
def Fo {s:Str}{S:iK}:uV (.exn s) S=.ok (.exn s) S:=rfl
def TF {x0:A}{xs:ad}{S:iK}:iH 0 (x0::xs) S=uV x0 S:=mQ
def Tf {x0 x1:A}{xs:ad}{S:iK}:iH 1 (x0::x1::xs) S=uV x1 S:=mQ
def SA {x0 x1 x2:A}{xs:ad}{S:iK}:iH 2 (x0::x1::x2::xs) S=uV x2 S:=mQ
def S_ {x0 x1 x2 x3:A}{xs:ad}{S:iK}:iH 3 (x0::x1::x2::x3::xs) S=uV x3 S:=mQ
def Tv {x0 x1 x2 x3 x4:A}{xs:ad}{S:iK}:iH 4 (x0::x1::x2::x3::x4::xs) S=uV x4 S:=mQ
def Tt {x0 x1 x2 x3 x4 x5:A}{xs:ad}{S:iK}:iH 5 (x0::x1::x2::x3::x4::x5::xs) S=uV x5 S:=mQ
def TJ {x0 x1 x2 x3 x4 x5 x6:A}{xs:ad}{S:iK}:iH 6 (x0::x1::x2::x3::x4::x5::x6::xs) S=uV x6 S:=mQ
def Tj {x0 x1 x2 x3 x4 x5 x6 J:A}{xs:ad}{S:iK}:iH 7 (x0::x1::x2::x3::x4::x5::x6::J::xs) S=uV J S:=mQ
def Su {x0 x1 x2 x3 x4 x5 x6 x7 J:A}{xs:ad}{S:iK}:iH 8 (x0::x1::x2::x3::x4::x5::x6::x7::J::xs) S=uV J S:=mQ
def Sq {a x0:A}{xs:ad}{S:iK}:jj 0 a (x0::xs) S=.ok (a::xs) S:=rfl
def Tq {a x0 x1:A}{xs:ad}{S:iK}:jj 1 a (x0::x1::xs) S=.ok (x0::a::xs) S:=rfl
def Tp {a x0 x1 x2:A}{xs:ad}{S:iK}:jj 2 a (x0::x1::x2::xs) S=.ok (x0::x1::a::xs) S:=rfl
def Sw {a x0 x1 x2 x3:A}{xs:ad}{S:iK}:jj 3 a (x0::x1::x2::x3::xs) S=.ok (x0::x1::x2::a::xs) S:=rfl
def Sv {a x0 x1 x2 x3 x4:A}{xs:ad}{S:iK}:jj 4 a (x0::x1::x2::x3::x4::xs) S=.ok (x0::x1::x2::x3::a::xs) S:=rfl
def Sz {a x0 x1 x2 x3 x4 x5:A}{xs:ad}{S:iK}:jj 5 a (x0::x1::x2::x3::x4::x5::xs) S=.ok (x0::x1::x2::x3::x4::a::xs) S:=rfl
def SG {a x0 x1 x2 x3 x4 x5 x6:A}{xs:ad}{S:iK}:jj 6 a (x0::x1::x2::x3::x4::x5::x6::xs) S=.ok (x0::x1::x2::x3::x4::x5::a::xs) S:=rfl
def Tn {a x0 x1 x2 x3 x4 x5 x6 J:A}{xs:ad}{S:iK}:jj 7 a (x0::x1::x2::x3::x4::x5::x6::J::xs) S=.ok (x0::x1::x2::x3::x4::x5::x6::a::xs) S:=rfl
def Tc {a x0 x1 x2 x3 x4 x5 x6 J x8:A}{xs:ad}{S:iK}:jj 8 a (x0::x1::x2::x3::x4::x5::x6::J::x8::xs) S=.ok (x0::x1::x2::x3::x4::x5::x6::J::a::xs) S:=rfl
def ji:type_of% (anI @R.jv<|anI @R.Be<|anI @R.i9<|anI @RS.of_ok<|anI @RS.LM<|anI @iZ<|anI @CU<|anI @TF<|anI @Tf<|anI @SA<|anI @S_<|anI @Tv<|anI @Tt<|anI @TJ<|anI @Tj<|anI @Su<|anI @Gr<|anI @F4<|anI @Hu<|anI @L1<|anI @HD<|anI @Hq<|anI @EC<|anI @HP<|anI @Fo<|anI @B6<|anI @Dl<|anI @Bo<|anI @Ez<|anI @Cp<|anI @Ci<|anI @Cd<|anI @Dv<|anI @CJ<|anI @LD<|anI @CM<|anI @F0<|anI @Di<|anI @LF<|anI @Fl<|anI @BH<|anI @Dr<|anI @Hv<|anI @Dm<|anI @Cg<|anI @Cv<|anI @IP<|anI @G9<|anI @CF<|anI @Ge<|anI @zp<|anI @Dt<|anI @GB<|anI @BR<|anI @yT<|anI @Cu<|anI @Bf<|anI @yF<|anI @ER<|anI @Gm<|anI @LU<|anI @Me<|anI @GH<|anI @zU<|anI @Bg<|anI @zK<|anI @GZ<|anI @CK<|anI @lst?_ref<|anI @RS.IE<|anI @RS.Hx<|anI @RS.G1<|anI @RS.FZ<|anI @RS.Fi<|anI @wM<|anI @Dg<|anI @vR<|anI @zw<|anI @zN<|anI @C3<|anI @zQ<|anI @HB<|anI @Bd<|anI @Sq<|anI @Tq<|anI @Tp<|anI @Sw<|anI @Sv<|anI @Sz<|anI @SG<|anI @Tn<|anI @Tc<|anI @E8<|anI @Ie<|anI @Ir<|anI @Hr<|anI @Gz<|anI @Bs<|anI @CI<|anI @zP<|anI @RS.HN<|anI @RS.Fc<|anI @RS.G6<|anI @GD<|anI @EN<|anI @F7<|anI @LC<|anI @Ls<|anI @Lk<|anI @L3<|anI @LO<|anI @HF<|anI @GS<|anI @I0<|anI @EB<|anI @Fw<|anI @IG<|anI @Cf<|anI @A8<|anI @BU<|anI @BJ<|anI @vN<|anI @Lq<|anI @L0<|anI @Lg<|anI @F8<|anI @IW<|anI @CZ<|anI @Bp<|anI @BX<|anI @za<|anI @yC<|anI @IL<|anI @HM<|anI @Lf<|anI @vB<|anI @Hf<|anI @A9<|anI @iY<|anI @Hh<|anI @Iw<|anI @zo<|anI @L_<|anI @Lz<|anI @K_<|anI @LZ<|anI @BL<|anI @CD<|anI @Cy<|anI @zl<|anI @zq<|anI @zy<|anI @BO<|anI @LG<|anI @Il<|anI @E7<|anI @FD<|anI @EY<|anI @FO<|anI @GJ<|anI @G8<|anI @EJ<|anI @Iz<|anI @IY<|anI @IF<|anI @IC<|anI @E6<|anI @GK<|anI @Ht<|anI @CG<|anI @L5<|anI @L6<|anI @Pj<|anI @sets<|anI @rep0<|anI @reps<|anI @Qe<|anI @Py<|anI @tw<|anI @Dz<|anI @IZ<|anI @F6<|anI @Ln<|anI @Lo<|anI @Gv<|anI @E9<|anI @vO<|anI @y9<|anI @EM<|anI @Dn<|anI @Hz<|anI @CP<|anI @Ga<|anI @Lm<|anI @LK<|anI @BP<|anI @B5<|anI @GQ<|anI @zV<|anI @Bu<|anI @FW<|anI @GU<|anI @F5<|anI @HX<|@HV):=anI @R.jv<|anI @R.Be<|anI @R.i9<|anI @RS.of_ok<|anI @RS.LM<|anI @iZ<|anI @CU<|anI @TF<|anI @Tf<|anI @SA<|anI @S_<|anI @Tv<|anI @Tt<|anI @TJ<|anI @Tj<|anI @Su<|anI @Gr<|anI @F4<|anI @Hu<|anI @L1<|anI @HD<|anI @Hq<|anI @EC<|anI @HP<|anI @Fo<|anI @B6<|anI @Dl<|anI @Bo<|anI @Ez<|anI @Cp<|anI @Ci<|anI @Cd<|anI @Dv<|anI @CJ<|anI @LD<|anI @CM<|anI @F0<|anI @Di<|anI @LF<|anI @Fl<|anI @BH<|anI @Dr<|anI @Hv<|anI @Dm<|anI @Cg<|anI @Cv<|anI @IP<|anI @G9<|anI @CF<|anI @Ge<|anI @zp<|anI @Dt<|anI @GB<|anI @BR<|anI @yT<|anI @Cu<|anI @Bf<|anI @yF<|anI @ER<|anI @Gm<|anI @LU<|anI @Me<|anI @GH<|anI @zU<|anI @Bg<|anI @zK<|anI @GZ<|anI @CK<|anI @lst?_ref<|anI @RS.IE<|anI @RS.Hx<|anI @RS.G1<|anI @RS.FZ<|anI @RS.Fi<|anI @wM<|anI @Dg<|anI @vR<|anI @zw<|anI @zN<|anI @C3<|anI @zQ<|anI @HB<|anI @Bd<|anI @Sq<|anI @Tq<|anI @Tp<|anI @Sw<|anI @Sv<|anI @Sz<|anI @SG<|anI @Tn<|anI @Tc<|anI @E8<|anI @Ie<|anI @Ir<|anI @Hr<|anI @Gz<|anI @Bs<|anI @CI<|anI @zP<|anI @RS.HN<|anI @RS.Fc<|anI @RS.G6<|anI @GD<|anI @EN<|anI @F7<|anI @LC<|anI @Ls<|anI @Lk<|anI @L3<|anI @LO<|anI @HF<|anI @GS<|anI @I0<|anI @EB<|anI @Fw<|anI @IG<|anI @Cf<|anI @A8<|anI @BU<|anI @BJ<|anI @vN<|anI @Lq<|anI @L0<|anI @Lg<|anI @F8<|anI @IW<|anI @CZ<|anI @Bp<|anI @BX<|anI @za<|anI @yC<|anI @IL<|anI @HM<|anI @Lf<|anI @vB<|anI @Hf<|anI @A9<|anI @iY<|anI @Hh<|anI @Iw<|anI @zo<|anI @L_<|anI @Lz<|anI @K_<|anI @LZ<|anI @BL<|anI @CD<|anI @Cy<|anI @zl<|anI @zq<|anI @zy<|anI @BO<|anI @LG<|anI @Il<|anI @E7<|anI @FD<|anI @EY<|anI @FO<|anI @GJ<|anI @G8<|anI @EJ<|anI @Iz<|anI @IY<|anI @IF<|anI @IC<|anI @E6<|anI @GK<|anI @Ht<|anI @CG<|anI @L5<|anI @L6<|anI @Pj<|anI @sets<|anI @rep0<|anI @reps<|anI @Qe<|anI @Py<|anI @tw<|anI @Dz<|anI @IZ<|anI @F6<|anI @Ln<|anI @Lo<|anI @Gv<|anI @E9<|anI @vO<|anI @y9<|anI @EM<|anI @Dn<|anI @Hz<|anI @CP<|anI @Ga<|anI @Lm<|anI @LK<|anI @BP<|anI @B5<|anI @GQ<|anI @zV<|anI @Bu<|anI @FW<|anI @GU<|anI @F5<|anI @HX<|@HV
def bools:(∀b:Bool,cond false b b=b)/\(∀(α:Type) (x y:α),cond false x y=y)/\(∀(α:Type) (x y:α),cond true x y=x):=⟨λ_=>rfl,λ_ _ _=>rfl,λ_ _ _=>rfl⟩
def nk:(∀(x:Str) (xs:am),(x::xs).length=xs.length+1)/\([]:am).length=0/\(∀(x:A) (xs:ad),(x::xs).length=xs.length+1)/\([]:ad).length=0:=⟨λ_ _=>rfl,rfl,λ_ _=>rfl,rfl⟩
section
variable {τ:ad}{S:iK}
def Bm {f:ad->iK->R A}{d:oX}:Sl f d τ S=(d τ S).bind f:=rfl
abbrev SK (c:Str):Unit->iK->RS:=λ_ S1=>.ex c S1
def Ew {c:Str}{u:Unit}:SK c u S=.ex c S:=rfl
def wC {c:Str}{ps:List<|Str ⊕ Ex}:Nh c ps τ S=RS.of (Kz ps τ S) (SK c):=rfl
def Bj:Kz [] τ S=.ok Unit.unit S:=rfl
def CC {x:Str}{ps:List<|Str ⊕ Ex}:Kz (.inl x::ps) τ S=Kz ps τ S:=rfl
abbrev TL (ps:List<|Str ⊕ Ex)(τ:ad):A->iK->R Unit:=λv S1=>match v with
 | .int i=>gd (i.natAbs.log2<64) (Kz ps τ S1)
 | _=>.no
def Bv {e:Ex}{ps:List<|Str ⊕ Ex}:Kz (.inr e::ps) τ S=(e τ S).bind (TL ps τ):=rfl
abbrev RS.try (i n:Nat)(cs:am)(d:Sm):RS->RS
 | .ex x S1=>if x∈cs then LH i (d ((List.replicate n .unb).set i<|.exn x) S1)else .no
 | r=>r
def Br {i n:Nat}{cs:am}{c d:Sm}:Qf i n cs c d τ S=RS.try i n cs d (c τ S):=by
 unfold Qf RS.try;cases c τ S<;>rfl
def IS {i n:Nat}{cs:am}{d:Sm}:RS.try i n cs d (.nx τ S)=.nx τ S:=rfl
def F_ {i n:Nat}{cs:am}{d:Sm}{a:A}:RS.try i n cs d (.rt a S)=.rt a S:=rfl
def ES {i n:Nat}{x:Str}{cs:am}{d:Sm}:RS.try i n (x::cs) d (.ex x S)=LH i (d ((List.replicate n .unb).set i<|.exn x) S):=aN<|.head _
def G3 {i:Nat}{a:A}:LH i (.rt a S)=.rt a S:=rfl
def Gb {i:Nat}:LH i (.nx τ S)=.nx (τ.set i .unb) S:=rfl
abbrev PY (f:Str->bd):A->iK->R A:=λv S1=>match v with
 | .exn x=>opt (f x) λb=>.ok (.bl b) S1
 | _=>.no
def CO {f:Str->bd}{c:Ex}:RP f c τ S=(c τ S).bind (PY f):=rfl
def Gg {x:Str}{b:Bool}{tb:List<|Str×Bool}:PY (T5 ((x,b)::tb)) (.exn x) S=.ok (.bl b) S:=by
 show opt (List.lookup x ((x,b)::tb)) _=_;rw[dW,bR];rfl
abbrev R.FU {α β:Type}(r:R α)(f:α->iK->R β):R β:=match r with
 | .ok a S=>f a S
 | _=>.no
def yM {α β:Type}{a:α}{f:α->iK->R β}:R.FU (.ok a S) f=f a S:=rfl
def BA {f:ad->iK->R A}{d:oX}:OW f d τ S=R.FU (d τ S) f:=by unfold OW R.FU;cases d τ S<;>rfl
abbrev RS.Q7 {α:Type}(r:R α)(f:α->iK->RS):RS:=match r with
 | .ok a S=>f a S
 | _=>.no
def G_ {α:Type}{a:α}{f:α->iK->RS}:RS.Q7 (.ok a S) f=f a S:=rfl
def Cw {t:Te}{c d:Sm}:Px t c d τ S=RS.Q7 (t τ S) (QA c d τ):=by
 unfold Px RS.Q7
 cases t τ S with
 | ok b S1=>cases b<;>rfl
 | ex _ _=>rfl
 | no=>rfl
abbrev RS.GA (i:Nat)(cs:am)(d:Sm)(τ:ad):RS->RS
 | .ex x S1=>if x∈cs then LH i (d (τ.set i<|.exn x) S1)else .no
 | r=>r
def zG {i:Nat}{cs:am}{c d:Sm}:Lp i cs c d τ S=RS.GA i cs d τ (c τ S):=by
 unfold Lp RS.GA;cases c τ S<;>rfl
def Dj {i:Nat}{cs:am}{d:Sm}{τ':ad}:RS.GA i cs d τ (.nx τ' S)=.nx τ' S:=rfl
def CH {i:Nat}{cs:am}{d:Sm}{a:A}:RS.GA i cs d τ (.rt a S)=.rt a S:=rfl
def Dh {i:Nat}{x:Str}{cs:am}{d:Sm}:RS.GA i (x::cs) d τ (.ex x S)=LH i (d (τ.set i<|.exn x) S):=aN<|.head _
def zb:A.QI []=some []:=rfl
def wo {b:Bool}{xs:ad}:A.QI (.bl b::xs)=(A.QI xs).map (b::·):=rfl
end
def Kg:type_of% (anI @Bm<|anI @wC<|anI @Ew<|anI @Bj<|anI @CC<|anI @Bv<|anI @Br<|anI @IS<|anI @F_<|anI @ES<|anI @G3<|anI @Gb<|anI @CO<|anI @Gg<|anI @zb<|anI @wo<|anI @yM<|anI @BA<|anI @G_<|anI @Cw<|anI @zG<|anI @Dj<|anI @CH<|anI @Dh<|trivial):=anI @Bm<|anI @wC<|anI @Ew<|anI @Bj<|anI @CC<|anI @Bv<|anI @Br<|anI @IS<|anI @F_<|anI @ES<|anI @G3<|anI @Gb<|anI @CO<|anI @Gg<|anI @zb<|anI @wo<|anI @yM<|anI @BA<|anI @G_<|anI @Cw<|anI @zG<|anI @Dj<|anI @CH<|anI @Dh<|trivial
end Am
namespace Am
open PySem PySem.Spec PyProof.Rows L2
abbrev Df (K:aq)(x:Str)(st:aC):Prop:=∃(f:aj) (fd:FuncData),PySem.W.nsIn K mainGlobals x=some (some<|.ref f)/\Fun K x x st f fd
inductive En (P:ah) (w:af) (K:aq) (mg:Str->aw) (base:ak):Prop
 | mk (h:ak) (X:K.In h) (G:h.Ns mainGlobals mg)
section
variable {P:ah}{w:af}{K:aq}{mg:Str->aw}{base:ak}{x:Str}{st:aC}{ps:am}{k:Nat}{F:ad->iK->R A}
def En.at(E:En P w K mg base){f:aj}(h:PySem.W.nsIn K mainGlobals x=some (some<|.ref f)):mg x=some (.ref f):=by
 obtain⟨_,X,G⟩:=E;exact PySem.W.mg_of X G h
def Df.of{f:aj}{kV ct:aa}(a:PySem.W.nsIn K mainGlobals x=some (some<|.ref f))(l:K.lookup f=some ⟨oc,od,.func<|PySem.W.fnOf x x (pX st) (nI st) (i6 st) .none kV doc pm an cdv ct,osl⟩)(c:PySem.W.codeIn K cdv x=true)(k:PySem.W.keepIn K (.ref f)=true):Df K x st:=⟨f,_,a,MX l c k⟩
meta abbrev Bi (x:Str)(st:aC)(ps:am):Prop:=∀us:ap,us.length=ps.length->∀(kV d g:aa) (j:Option aj) (f ct:aa),bindArgs (PySem.W.fnOf x x (pX st) (nI st) (i6 st) .none kV d g j f ct) ⟨us,[]⟩=pure (ps.zip us)
def Df.get(d:Df K x st)(E:En P w K mg base)(b:Bi x st ps):∃f fd,Fun K x x st f fd/\mg x=some (.ref f)/\PySem.W.keepIn K (.ref f)=true/\Binds K fd ps []:=by
 obtain⟨f,fd,a,F⟩:=d;exact⟨f,fd,F,E.at a,F.kp,F.binds λkV g k m j ct us p=>b us p kV g k m j ct⟩
def Df.kA(d:Df K x st)(E:En P w K mg base)(h:∀{f fd},Fun K x x st f fd->FnOk P w K mg base p6 k f fd ps (qt K ps.length F))(b:Bi x st ps):qV P w K mg base k x ps F:=by
 obtain⟨f,fd,a,c,e,g⟩:=d.get E b;exact⟨f,fd,h a,c,e,g⟩
def Df.rA(d:Df K x st)(E:En P w K mg base)(h:∀{f fd},Fun K x x st f fd->mg x=some (.ref f)->PySem.W.keepIn K (.ref f)=true->Binds K fd ps []->FnOk P w K mg base p6 k f fd ps (qt K ps.length F))(b:Bi x st ps):qV P w K mg base k x ps F:=by
 obtain⟨f,fd,a,c,e,g⟩:=d.get E b;exact⟨f,fd,h a c e g,c,e,g⟩
end
section
variable {X:Cx}{pos p:Pos}{e1 e2 e3:aA}{x p1 p2 p3:Str}{k K0:Nat}{F:ad->iK->R A}{c1 c2 c3:Ex}
def Je(G:qV X.prog X.w X.K X.mg X.base k x [p1] F)(hr:Room K0 X.A)(h1:AE X e1 c1)(hk:k<=K0<|>η)(hg:Gl X x<|>θ)(J:(x == ("__debug__" : Str))=false<|>η)(s1:starEach [e1] X.env=(false,eval e1 X.env)::starEach [] X.env<|>θ)(hp:((backTo pos<|starEach [] X.env).any (·.1)=false)<|>θ):AE X (.Call (.Name x p) [e1] [] pos) (eFn F<|iJ c1 iU):=BN G (hr.mono hk) (iO h1 iR s1) (mY tZ) hg J s1 hp
def A_(G:qV X.prog X.w X.K X.mg X.base k x [p1,p2] F)(hr:Room K0 X.A)(h1:AE X e1 c1)(h2:AE X e2 c2)(hk:k<=K0<|>η)(hg:Gl X x<|>θ)(J:(x == ("__debug__" : Str))=false<|>η)(s1:starEach [e1,e2] X.env=(false,eval e1 X.env)::starEach [e2] X.env<|>θ)(s2:starEach [e2] X.env=(false,eval e2 X.env)::starEach [] X.env<|>θ)(hp:((backTo pos<|starEach [e2] X.env).any (·.1)=false)<|>θ):AE X (.Call (.Name x p) [e1,e2] [] pos) (eFn F<|iJ c1<|iJ c2 iU):=BN G (hr.mono hk) (iO h1 (iO h2 iR s2) s1) (mY<|mY tZ) hg J s1 hp
def TZ(G:qV X.prog X.w X.K X.mg X.base k x [p1,p2,p3] F)(hr:Room K0 X.A)(h1:AE X e1 c1)(h2:AE X e2 c2)(h3:AE X e3 c3)(hk:k<=K0<|>η)(hg:Gl X x<|>θ)(J:(x == ("__debug__" : Str))=false<|>η)(s1:starEach [e1,e2,e3] X.env=(false,eval e1 X.env)::starEach [e2,e3] X.env<|>θ)(s2:starEach [e2,e3] X.env=(false,eval e2 X.env)::starEach [e3] X.env<|>θ)(s3:starEach [e3] X.env=(false,eval e3 X.env)::starEach [] X.env<|>θ)(hp:((backTo pos<|starEach [e2,e3] X.env).any (·.1)=false)<|>θ):AE X (.Call (.Name x p) [e1,e2,e3] [] pos) (eFn F<|iJ c1<|iJ c2<|iJ c3 iU):=BN G (hr.mono hk) (iO h1 (iO h2 (iO h3 iR s3) s2) s1) (mY<|mY<|mY tZ) hg J s1 hp
def xM{N P:am}{sc:Scope}(a:sc.kind=.function)(b:sc.isCoroutine=false)(c:sc.isGenerator=false)(h:N.Nodup/\N.take P.length=P/\(∀x∈P,sc.names.lookup x=some .local\/sc.names.lookup x=some .cell)/\∀y∈sc.names,y.2≠.free):FnScope N P sc:=⟨a,b,c,h.1,h.2.1,h.2.2.1,h.2.2.2⟩
end
end Am
namespace L2
open PySem PySem.Spec PyProof.Rows
section
theorem qA:∀{vs:ap}{ns:ae},IntsAre vs ns->vs.length=ns.length/\∀i,i<vs.length->∃t,vs.getD i .none=.int (ns.getD i 0) t
 | _,_,.nil=>⟨rfl,λi h=>absurd h<|cK _⟩
 | _,_,.cons n t h=>by
  obtain⟨h1,d⟩:=qA h;refine⟨d9 (·+1) h1,λi hi=>?_⟩
  cases i with
  | zero=>exact⟨t,rfl⟩
  | succ i=>exact d i<|by simpa using hi
end
end L2
namespace Am
open PySem PySem.Spec PyProof.Rows L2
section
@[irreducible] noncomputable def big:Nat:=2 ^ 4096
end
abbrev kA (p:Int×Int):A:=.ktu [.int p.1,.int p.2]
abbrev isIn (b:Int):aa->Bool
 | .int c _=>c == b
 | _=>false
theorem F3(b:Int):∀{bs:ae}{its:ap},Vals (bs.map V.int) its->its.countP (isIn b)=bs.countP (· == b)/\∀z∈its,∃c t,z=.int c t
 | [],_,.nil=>⟨rfl,nofun⟩
 | c::bs,_::its,.cons r rs=>by
  obtain⟨h1,f⟩:=F3 b (bs:=bs) rs;obtain⟨t,rfl⟩:=r;refine⟨by rw[fD,fD,h1];rfl,λz d=>?_⟩
  rcases aY.mp d with rfl|d
  ·exact⟨c,t,rfl⟩
  ·exact f z d
abbrev wY (o:A)(J:ad)(S:iK):R A:=match o,J with
 | .ref n,[x]=>(match x with
  | .int b=>opt (iI S n) λxs=>opt (A.ints xs) λbs=>gd (bs.idxOf b<bs.length/\bs.length<=sizeLine) (.ok .non<|S.set n<|.lst<|xs.eraseIdx<|bs.idxOf b)
  | _=>.no)
 | _,_=>.no
theorem Lj(b:Int):∀{bs:ae}{its:ap},Vals (bs.map V.int) its->its.length=bs.length/\∀(i:Nat) (hi:i<its.length),isIn b its[i]=(bs.getD i 0 == b)
 | [],_,.nil=>⟨rfl,nofun⟩
 | c::bs,_::its,.cons r rs=>by
  obtain⟨h1,d⟩:=Lj b (bs:=bs) rs;obtain⟨t,rfl⟩:=r;refine⟨by rw[bu,bu,h1],λi hi=>?_⟩
  cases i with
  | zero=>rfl
  | succ i=>exact d i<|gg hi
section
variable {X:Cx}
def Im:OJ X "list.remove" (rM X wY):=λpins s σ H x N v us Q I rx M h9=>by
 obtain⟨ρ,S,o,L,R,G,va,h⟩:=h9
 cases G with
 | @ref p n q=>
  match L,va,h with
  | [],_,h=>exact h.elim
  | _::_::_,_,h=>exact h.elim
  | [y],va,h=>
   cases y with
   | int b=>
    obtain⟨w,rfl,hw⟩:=D3 va;kt_k;obtain⟨bs,f,h⟩:=iT h;obtain⟨hi,h⟩:=i8 h;obtain⟨P,h1,r⟩:=R.lst q<|iS hn;have T:=r.length;obtain⟨ex,K⟩:=R.put q (iS hn) (r.eraseIdx<|bs.idxOf b)
    cases rx
    obtain⟨u,rfl,C⟩:=M.one
    cases hw
    obtain⟨t,rfl⟩:=C;obtain⟨O,d,k,j,U,e⟩:=I.zL h1;have J:=pV r f;subst J;obtain⟨c0,c1⟩:=Lj b j;obtain⟨_,c2⟩:=F3 b j;have z:bs.idxOf b<d.length:=by rw[c0];exact hi.1
    refine fR F.slot_list_remove ⟨_,e,rfl⟩ F.entry_list_remove (F.args_list_remove_2 _ _)
     (MeetsSeq.list_remove p d.toArray k (.int b t) (isIn b) (λy hy=>by
      obtain⟨c,t2,rfl⟩:=c2 y<|List.mem_toArray.mp hy;exact MeetsSeq.EqGives.int c b t2 t) (bs.idxOf b) (by rw[aQ];exact z) ?_ ?_<|by rw[aQ,c0];exact hi.2) ⟨e,?_⟩
    ·show isIn b d[bs.idxOf b]=true;rw[c1 _ z,aF,aE hi.1,fC,List.getElem_idxOf hi.1,bR]
    ·intro m B lt;have g:m<d.length:=by rw[<- aQ];exact B
     show isIn b d[m]=false;rw[c1 m g,aF,aE (),fC];exact dR lt
    ·refine⟨.non,_,I.MB (its':=d.eraseIdx<|bs.idxOf b) h1 e ?_ (j.eraseIdx _) ?_,rfl,h _ _ _ ex K .non⟩
     ·show d.toArray.eraseIdxIfInBounds _=(d.eraseIdx _).toArray;rw[gq]
     ·have:=v9 (bs.map V.int) (bs.idxOf b)
      lia
   | _=>exact h.elim
 | _=>exact h.elim
end
end Am
namespace K64
open PySem L2 Am
abbrev top (i:Nat):aC:=PySem.Challenge.pw_undercells_k64_whole_rows_by_moves.main.body.getD i<|.Pass ⟨0,0,0,0⟩
meta abbrev mj:aC:=top 4
meta abbrev mH:am:=["row", "letter", "place"]
meta abbrev kD:am:=["row", "letter"]
abbrev k_:Te:=
 Ef (oY<|iQ Eo (iH 2)<|ja (f1 nv)<|iJ (iH 0) iU) (oY<|iQ Ll (iQ m9 (iH 0)<|iH 2)<|iH 1)
abbrev kW:Sm:=
 D0 2 JG (eC<|.int 1)
abbrev mw:Sm:=
 jb (jm (eC<|.int 0)<|jj 2)
 (jb (j9 k_
 kW 1000000)
 (ko<|iH 2))
abbrev jz:ad->iK->R A:=mE mH mw
meta abbrev mz:aC:=top 5
meta abbrev l9:am:=["rows", "letter", "at", "place"]
meta abbrev kF:am:=["rows", "letter"]
abbrev kP:Te:=
 oY (iQ Eo (iH 2)<|ja (f1 nv)<|iJ (iH 0) iU)
abbrev kY:Sm:=
 jb (jm (eFn jz<|iJ (iQ m9 (iH 0)<|iH 2)<|iJ (iH 1) iU)<|jj 3)
 (jb (vL (oY<|iQ (sL false) (iH 3)<|ja (f1 nv)<|iJ (iQ m9 (iH 0)<|iH 2) iU)
 (jb (lH<|z8 kU (iQ m9 (iH 0)<|iH 2)<|iJ (iH 1) iU)
 (ko<|iH 2))
 oh)
 (jb (jm (JM<|iJ (iH 1)<|iJ (iQ m9 (iQ m9 (iH 0)<|iH 2)<|iH 3) iU)<|JI 2<|z9 (N4 (iQ m9 (iH 0)<|iH 2)<|iH 3)<|z9 (jj 1) Jm)
 (D0 2 JG<|eC<|.int 1)))
abbrev mF:Sm:=
 jb (jm (eC<|.int 0)<|jj 2)
 (jb (j9 kP
 kY 1000000)
 (jb (lH<|z8 kU (iH 0)<|iJ (mS<|iJ (iH 1) iU) iU)
 (ko<|iH 2)))
abbrev jx:ad->iK->R A:=mE l9 mF
meta abbrev uE:aC:=top 6
meta abbrev uw:am:=["table"]
meta abbrev uD:am:=["table"]
abbrev vt:Sm:=
 ko (jH [none] (l5<|iH 0) (jj 0) lX<|ja (f1 kX)<|iJ (iH 0) iU)
abbrev pB:ad->iK->R A:=mE uw vt
meta abbrev vf:aC:=top 7
meta abbrev uh:am:=["table", "letter", "told"]
meta abbrev uy:am:=["table", "letter"]
abbrev ve:Sm:=
 jb (jm (eFn pB<|iJ (iH 0) iU)<|jj 2)
 (jb (lH<|eFn jx<|iJ (iH 2)<|iJ (iH 1) iU)
 (ko<|iH 2))
abbrev pK:ad->iK->R A:=mE uh ve
meta abbrev uQ:aC:=top 8
meta abbrev u_:am:=["row", "first", "second", "at", "letter", "new"]
meta abbrev uX:am:=["row"]
abbrev uL:Ic:=
 xD (iH 0)
abbrev uN:Sm:=
 jb (jm (eFn jx<|iJ (iH 1)<|iJ (iH 4) iU)<|jj 5)
 (jb (vL (oY<|iQ (sL false) (iH 5)<|ja (f1 nv)<|iJ (iH 2) iU)
 (lH<|z8 kU (iH 2)<|iJ (mS iU) iU)
 oh)
 (lH<|z8 kU (iQ m9 (iH 2)<|iH 5)<|iJ (iQ jK (iH 3)<|eC<|.int 1) iU))
abbrev uU:Sm:=
 jb (jm (mS iU)<|jj 1)
 (jb (jm (mS iU)<|jj 2)
 (jb (kN uL (JI 2<|z9 (jj 3)<|z9 (jj 4) Jm)
 uN)
 (ko<|JM<|iJ (iH 1)<|iJ (iH 2) iU)))
abbrev lY:ad->iK->R A:=mE u_ uU
meta abbrev yv:aC:=top 9
meta abbrev yc:am:=["table"]
meta abbrev ye:am:=["table"]
abbrev xU:Sm:=
 ko (jH [none] (l5<|iH 0) (jj 0) lX<|ja (f1 nv)<|iJ (iH 0) iU)
abbrev qQ:ad->iK->R A:=mE yc xU
meta abbrev pg:aC:=top 12
meta abbrev pq:am:=["table"]
meta abbrev pF:am:=["table"]
abbrev pG:Sm:=
 ko (wU [none,none] (OP<|iH 0) (jj 0) lX (l5<|iH 0) (jj 1) lX<|iH 1)
abbrev lV:ad->iK->R A:=mE pq pG
meta abbrev oG:aC:=top 13
meta abbrev oQ:am:=["row", "at", "low", "high"]
meta abbrev oE:am:=["row", "at"]
abbrev oA:Sm:=
 jb (jm (ja (f2 BF)<|iJ (iQ m9 (iH 0)<|iH 1)<|iJ (iQ m9 (iH 0)<|iQ jK (iH 1)<|eC<|.int 1) iU)<|jj 2)
 (jb (jm (ja (f2 BC)<|iJ (iQ m9 (iH 0)<|iH 1)<|iJ (iQ m9 (iH 0)<|iQ jK (iH 1)<|eC<|.int 1) iU)<|jj 3)
 (jb (vL (Ef (oY<|iQ Eo (iQ jK (iH 1)<|eC<|.int 2)<|ja (f1 nv)<|iJ (iH 0) iU)<|oY<|Lw Ll Eo (iH 2) (iQ m9 (iH 0)<|iQ jK (iH 1)<|eC<|.int 2)<|iH 3)
 (ko<|eC<|.bl true)
 oh)
 (ko<|Hy (iQ La (iH 1)<|eC<|.int 0)<|Lw Eo Ll (iH 2) (iQ m9 (iH 0)<|iQ aSub (iH 1)<|eC<|.int 1)<|iH 3)))
abbrev jT:ad->iK->R A:=mE oQ oA
meta abbrev qX:aC:=top 14
meta abbrev su:am:=["row", "at"]
meta abbrev pR:am:=["row", "at"]
abbrev sf:Sm:=
 ko (iQ jK (iQ jK (Jd (iH 0) p9<|p_<|iH 1)<|mS<|iJ (iQ m9 (iH 0)<|iQ jK (iH 1)<|eC<|.int 1)<|iJ (iQ m9 (iH 0)<|iH 1) iU)<|Jd (iH 0) (p_<|iQ jK (iH 1)<|eC<|.int 2) p9)
abbrev j5:ad->iK->R A:=mE su sf
meta abbrev yp:aC:=top 15
meta abbrev yb:am:=["row"]
meta abbrev yo:am:=["row"]
abbrev w4:Sm:=
 ko (ja (f1 sC)<|iJ (jH [none,some 0] (n6<|iQ aSub (ja (f1 nv)<|iJ (iH 0) iU)<|eC<|.int 1) (jj 0) (Fq<|eFn jT<|iJ (iH 1)<|iJ (iH 0) iU)<|eFn j5<|iJ (iH 1)<|iJ (iH 0) iU) iU)
abbrev qR:ad->iK->R A:=mE yb w4
meta abbrev yx:aC:=top 16
meta abbrev tU:am:=["road", "at", "here"]
meta abbrev xQ:am:=["road", "at"]
abbrev tD:Sm:=
 jb (jm (eFn j5<|iJ (iQ m9 (iH 0)<|LQ zC<|eC<|.int 1)<|iJ (iH 1) iU)<|jj 2)
 (vL (oY<|iQ (Jf false) (iH 2)<|iH 0)
 (IU (iH 0)<|iQ jK (z8 yD (iH 0)<|iJ (iH 2) iU)<|eC<|.int 1)
 (lH<|z8 kU (iH 0)<|iJ (iH 2) iU))
abbrev nG:ad->iK->R A:=mE tU tD
meta abbrev r6:aC:=top 17
meta abbrev qZ:am:=["road", "table", "end", "row", "letter", "start", "place", "at"]
meta abbrev rf:am:=["road", "table", "end"]
abbrev nK:Ic:=
 zF (iQ aSub (iH 2)<|eC<|.int 1) (iH 6) (LQ zC<|eC<|.int 1)
abbrev sG:Sm:=
 lH (eFn nG<|iJ (iH 0)<|iJ (iH 7) iU)
abbrev nL:Ic:=
 zF (iQ aSub (iH 6)<|eC<|.int 1) (iQ aSub (iH 5)<|eC<|.int 1) (LQ zC<|eC<|.int 1)
abbrev sW:Sm:=
 lH (eFn nG<|iJ (iH 0)<|iJ (iH 7) iU)
abbrev sX:Ic:=
 l5 (iH 1)
abbrev sQ:Sm:=
 jb (jm (iQ m9 (iQ m9 (iH 0)<|LQ zC<|eC<|.int 1)<|iH 2)<|jj 4)
 (jb (jm (iQ aSub (iH 2)<|ja (f1 nv)<|iJ (iH 3) iU)<|jj 5)
 (jb (jm (iQ jK (iH 5)<|eFn jz<|iJ (iH 3)<|iJ (iH 4) iU)<|jj 6)
 (jb (vL (oY<|iQ (sL false) (iH 6)<|iH 2)
 (GN)
 oh)
 (jb (kN nK (jj 7)
 sG)
 (jb (kN nL (jj 7)
 sW)
 (jm (iH 5)<|jj 2))))))
abbrev sj:Sm:=
 kN sX (jj 3)
 sQ
abbrev ow:ad->iK->R A:=mE qZ sj
meta abbrev mh:aC:=top 18
meta abbrev mK:am:=["row", "road", "table", "at", "letter"]
meta abbrev l6:am:=["row"]
abbrev nO:Ic:=
 xD (iH 0)
abbrev nA:Sm:=
 jb (lH<|eFn ow<|iJ (iH 1)<|iJ (iH 2)<|iJ (iH 3) iU)
 (jm (eFn pK<|iJ (iH 2)<|iJ (iH 4) iU)<|jj 2)
abbrev l_:Sm:=
 jb (vL (oY<|iQ La (ja (f1 nv)<|iJ (iH 0) iU)<|eC<|.int 12)
 (SY)
 oh)
 (jb (jm (mS<|iJ (ja (f1 kX)<|iJ (iH 0) iU) iU)<|jj 1)
 (jb (jm (mS iU)<|jj 2)
 (jb (kN nO (JI 2<|z9 (jj 3)<|z9 (jj 4) Jm)
 nA)
 (ko<|iH 1))))
abbrev jy:ad->iK->R A:=mE mK l_
meta abbrev rQ:aC:=top 20
meta abbrev rg:am:=["_law_script", "_law_at", "_law_cell", "_law_great"]
meta abbrev rH:am:=["_law_script", "_law_at"]
abbrev sE:Sm:=
 jb (jm (eC<|.int 0)<|jj 2)
 (jb (vL (oY<|iQ Eo (iH 1)<|ja (f1 nv)<|iJ (iH 0) iU)
 (jm (iQ m9 (iH 0)<|iH 1)<|jj 2)
 oh)
 (jb (jm (eC<|.int 0)<|jj 3)
 (jb (vL (oY<|iQ QG (iH 2)<|iQ JC (eC<|.int 10)<|eC<|.int 18)
 (jm (iH 2)<|jj 3)
 oh)
 (ko<|mS<|iJ (iH 3)<|iJ (iQ wX (iQ jK (iQ jK (iH 2)<|iQ rR (eC<|.int 7919)<|iH 1)<|eC<|.int 13)<|eC<|.int 2147483647) iU))))
abbrev om:ad->iK->R A:=mE rg sE
meta abbrev o8:aC:=top 21
meta abbrev nM:am:=["_law_bag_here", "_law_many", "_law_found"]
meta abbrev o5:am:=["_law_bag_here", "_law_many"]
abbrev nH:Sm:=
 jb (vL (oY<|iQ La (iQ m9 (iH 0)<|eC<|.int 0)<|eC<|.int 0)
 (jb (jm (iQ wX (iQ m9 (iH 0)<|eC<|.int 0)<|iH 1)<|jj 2)
 (jb (jm (iQ BY (iQ m9 (iH 0)<|eC<|.int 0)<|iH 1)<|N4 (iH 0)<|eC<|.int 0)
 (ko<|iH 2)))
 oh)
 (jb (jm (iQ wX (iQ jK (iQ rR (iQ m9 (iH 0)<|eC<|.int 1)<|eC<|.int 48271)<|eC<|.int 11)<|eC<|.int 2147483647)<|N4 (iH 0)<|eC<|.int 1)
 (ko<|iQ wX (iQ wX (iQ rR (iQ BY (iQ m9 (iH 0)<|eC<|.int 1)<|eC<|.int 8)<|eC<|.int 69621)<|eC<|.int 2147483629)<|iH 1))
abbrev jk:ad->iK->R A:=mE nM nH
meta abbrev rK:aC:=top 22
meta abbrev sq:am:=["_law_letters", "_law_found", "_law_k", "_law_grown", "_law_some", "_law_left", "_law_one"]
meta abbrev r_:am:=["_law_letters"]
abbrev sV:Ic:=
 l5 (iH 4)
abbrev pM:Sm:=
 lH (z8 wY (iH 5)<|iJ (iH 6) iU)
abbrev sO:Ic:=
 l5 (iH 1)
abbrev pQ:Sm:=
 jb (jm (ja (f1 kX)<|iJ (iH 0) iU)<|jj 5)
 (jb (kN sV (jj 6)
 pM)
 (lH<|z8 wK (iH 3)<|iJ (jH [none,some 4] (l5<|ja (f1 uG)<|iJ (iH 5) iU) (jj 0) lX<|iQ jK (iH 1)<|mS<|iJ (iH 0) iU) iU))
abbrev sN:Ic:=
 l5 (iH 3)
abbrev pH:Sm:=
 vL (OL (oY<|iQ (sL false) (iH 1)<|mS iU)<|oY<|iQ (sL true) (iQ m9 (iH 1)<|LQ zC<|eC<|.int 1)<|iH 4)
 (lH<|z8 kU (iH 1)<|iJ (iH 4) iU)
 oh
abbrev zD:Ic:=
 n6 (ja (f1 nv)<|iJ (iH 0) iU)
abbrev sU:Sm:=
 jb (jm (mS iU)<|jj 3)
 (jb (kN sO (jj 4)
 pQ)
 (jb (jm (mS iU)<|jj 1)
 (kN sN (jj 4)
 pH)))
abbrev rJ:Sm:=
 jb (jm (mS<|iJ (mS iU) iU)<|jj 1)
 (jb (kN zD (jj 2)
 sU)
 (ko<|iH 1))
abbrev lI:ad->iK->R A:=mE sq rJ
meta abbrev nY:aC:=top 23
meta abbrev nW:am:=["_law_letters", "_law_found", "_law_seen", "_law_at", "_law_one"]
meta abbrev nX:am:=["_law_letters"]
abbrev kE:Ic:=
 l5 (eFn qR<|iJ (ja (f1 kX)<|iJ (iQ m9 (iH 1)<|iH 3) iU) iU)
abbrev mJ:Sm:=
 vL (oY<|iQ (K5 true) (ja (f1 qf)<|iJ (iH 4) iU)<|iH 2)
 (jb (jm (eC<|.bl true)<|Oz (iH 2)<|ja (f1 qf)<|iJ (iH 4) iU)
 (lH<|z8 kU (iH 1)<|iJ (iH 4) iU))
 oh
abbrev kG:Te:=
 oY (iQ Eo (iH 3)<|ja (f1 nv)<|iJ (iH 1) iU)
abbrev l8:Sm:=
 jb (kN kE (jj 4)
 mJ)
 (jm (iQ jK (iH 3)<|eC<|.int 1)<|jj 3)
abbrev nS:Sm:=
 jb (jm (mS<|iJ (iH 0) iU)<|jj 1)
 (jb (jm (C5 (ja (f1 qf)<|iJ (iH 0) iU)<|eC<|.bl true)<|jj 2)
 (jb (jm (eC<|.int 0)<|jj 3)
 (jb (j9 kG
 l8 1000000)
 (ko<|ja (f1 sC)<|iJ (iH 1) iU))))
abbrev kh:ad->iK->R A:=mE nW nS
meta abbrev lK:aC:=top 24
meta abbrev kc:am:=["_law_lengths", "_law_total", "_law_at", "_law_less"]
meta abbrev jX:am:=["_law_lengths"]
abbrev tu (J:ad->iK->R A):Ic:=
 n6 (ja (f1 nv)<|iJ (iH 0) iU)
abbrev oU (J:ad->iK->R A):Sm:=
 vL (Ef (oY<|iQ La (iQ m9 (iH 0)<|iH 2)<|eC<|.int 0)<|OL (oY<|iQ (sL false) (iH 2)<|iQ aSub (ja (f1 nv)<|iJ (iH 0) iU)<|eC<|.int 1)<|oY<|iQ Eo (iQ m9 (iH 0)<|iQ jK (iH 2)<|eC<|.int 1)<|iQ m9 (iH 0)<|iH 2)
 (jb (jm (ja (f1 kX)<|iJ (iH 0) iU)<|jj 3)
 (jb (jm (iQ aSub (iQ m9 (iH 3)<|iH 2)<|eC<|.int 1)<|N4 (iH 3)<|iH 2)
 (jm (iQ jK (iH 1)<|eFn J<|iJ (iH 3) iU)<|jj 1)))
 oh
abbrev ki (J:ad->iK->R A):Sm:=
 jb (vL (oY<|iQ (sL false) (ja (f1 Nc)<|iJ (iH 0) iU)<|eC<|.int 0)
 (ko<|eC<|.int 1)
 oh)
 (jb (jm (eC<|.int 0)<|jj 1)
 (jb (kN (tu J) (jj 2)
 (oU J))
 (ko<|iH 1)))
abbrev jP:Nat->ad->iK->R A
 | 0=>λ_ _=>.no
 | k+1=>mE kc<|ki<|jP k
abbrev nZ:ad->iK->R A:=jP 12
meta abbrev HR:aC:=top 25
meta abbrev Fv:am:=["_law_script", "_law_k", "_law_bag_here", "_law_many", "_law_base", "_law_letters", "_law_first", "_law_reached_here", "_law_due"]
meta abbrev LA:am:=["_law_script"]
abbrev CV:Ic:=
 n6 (ja (f2 BC)<|iJ (eC<|.int 1)<|iJ (ja (f2 BF)<|iJ (ja (f1 nv)<|iJ (iH 0) iU)<|iJ (eC<|.int 2) iU) iU)
abbrev CY:Sm:=
 jb (jm (eFn om<|iJ (iH 0)<|iJ (iH 1) iU)<|jj 2)
 (jb (jm (eFn jk<|iJ (iH 2)<|iJ (iQ m9 (mS<|iJ (eC<|.int 7)<|iJ (eC<|.int 6) iU)<|ja (f1 Ct)<|iJ (iQ La (iH 1)<|eC<|.int 0) iU) iU)<|jj 3)
 (jb (jm (iQ jK (eC<|.int 1)<|eFn jk<|iJ (iH 2)<|iJ (eC<|.int 5) iU)<|jj 4)
 (jb (jm (jH [none,some 2,some 4] (n6<|iH 3) (jj 0) lX<|iQ jK (eC<|.int 1)<|eFn jk<|iJ (iH 1)<|iJ (iH 2) iU)<|jj 5)
 (jb (vL (oY<|iQ (sL false) (iH 4)<|eC<|.int 5)
 (jm (jH [none,none] (xD<|iH 5) (JI 2<|z9 (jj 0)<|z9 (jj 1) Jm) lX<|iQ jK (iQ rR (iH 1)<|eC<|.int 7)<|iH 0)<|jj 5)
 oh)
 (jb (jm (iQ m9 (eFn lY<|iJ (ja (f1 kX)<|iJ (iH 5) iU) iU)<|eC<|.int 0)<|jj 6)
 (jb (jm (eFn kh<|iJ (iH 5) iU)<|jj 7)
 (jb (jm (jH [none,some 6] (l5<|eFn lI<|iJ (iH 5) iU) (jj 0) (oY<|iQ (sL false) (iQ m9 (eFn lY<|iJ (ja (f1 kX)<|iJ (iH 0) iU) iU)<|eC<|.int 0)<|iH 1)<|iH 0)<|jj 8)
 (jb (vL (oY<|iQ (sL true) (iH 7)<|iH 8)
 (ko<|eC<|.bl false)
 oh)
 (jb (vL (OL (oY<|iQ (sL true) (ja (f1 nv)<|iJ (iH 7) iU)<|eFn nZ<|iJ (eFn qQ<|iJ (iH 6) iU) iU)<|oY<|iQ (Jf true) (eFn lV<|iJ (iH 6) iU)<|iH 7)
 (ko<|eC<|.bl false)
 oh)
 (vL (oY<|iQ (sL true) (jH [none,some 7] (l5<|eFn jy<|iJ (ja (f1 kX)<|iJ (iH 5) iU) iU) (jj 0) (oY<|iQ (Jf true) (iH 0)<|iH 1)<|iH 0)<|mS iU)
 (ko<|eC<|.bl false)
 oh))))))))))
abbrev Gx:Sm:=
 jb (kN CV (jj 1)
 CY)
 (ko<|eC<|.bl true)
abbrev v8:ad->iK->R A:=mE Fv Gx
section
variable {P:ah}{w:af}{K:aq}{mg:Str->aw}{base:ak}{f:aj}{fd:FuncData}
def lJ:FnScope mH kD (i6 mj):=xM rfl rfl rfl ∅
def sD(F:Fun K "first_greater" "first_greater" mj f fd)(J:mg "len" = none):FnOk P w K mg base p6 1 f fd kD (qt K 2 jz):=xB (m:=mw) F lJ λj B d s H E g=>
 iL (jc (i:=2) lJ.nd iX)
 (iL (uo 1000000 b6 (AW.at<|A6 (jn (yz g.units) (iG 2)<|je mP J j_<|iO (iG 0) iR)<|wO<|jn N8 (jw (iG 0)<|iG 2)<|iG 1)
 (iW<|IX (i:=2) lJ.nd iX Ca))
 (iW<|jA<|iG 2))
def jR:FnScope l9 kF (i6 mz):=xM rfl rfl rfl ∅
def sA(F:Fun K "put_into_rows" "put_into_rows" mz f fd)(J:mg "len" = none)(Uj:qV P w K mg base 1 "first_greater" kD jz):FnOk P w K mg base p6 2 f fd kF (qt K 2 jx):=xB (m:=mF) F jR λj B d s H E g=>
 iL (jc (i:=2) jR.nd iX)
 (iL (uo 1000000 b6 (jn (yz g.units) (iG 2)<|je mP J j_<|iO (iG 0) iR)
 (iL (jc (i:=3) jR.nd<|A_ Uj g (jw (iG 0)<|iG 2)<|iG 1)
 (iL (lU (jn (zd g.units) (iG 3)<|je mP J j_<|iO (jw (iG 0)<|iG 2) iR)
 (iL (j7<|p7 cM cN m7 (jw (iG 0)<|iG 2)<|iO (iG 1) iR)
 (iW<|jA<|iG 2))
 jL)
 (iL (uA (HJ<|iO (iG 1)<|iO (jw (jw (iG 0)<|iG 2)<|iG 3) iR)<|xm rfl<|lW (xZ (jw (iG 0)<|iG 2)<|iG 3)<|lW (jh (i:=1) jR.nd) tN)
 (iW<|IX (i:=2) jR.nd iX Ca)))))
 (iL (j7<|p7 cM cN m7 (iG 0)<|iO (j0<|iO (iG 1) iR) iR)
 (iW<|jA<|iG 2)))
def Ej:FnScope uw uD (i6 uE):=xM rfl rfl rfl ∅
def DE(F:Fun K "copied" "copied" uE f fd)(J:mg "list" = none):FnOk P w K mg base p6 1 f fd uD (qt K 1 pB):=xB (m:=vt) F Ej λg B d s H E j=>
 iW (jA<|qK (N:=["row"]) (cap:=[none]) rfl (qU [] rfl ∅ ∅ ∅ ∅ ∅ (nofun) trivial) (nu<|iG 0) (λ_ _ _ _=>jh (i:=0) (show(["row"]:am).Nodup by decide +kernel) rfl (Or.inl rfl)<|.inr rfl) (λ_ _ _ _=>oK) λ_ _ _ _=>jW (pI rfl) J ny<|iO (iG 0) iR)
def wB:FnScope uh uy (i6 vf):=xM rfl rfl rfl ∅
def DN(F:Fun K "put_in" "put_in" vf f fd)(J:qV P w K mg base 1 "copied" uD pB)(Uk:qV P w K mg base 2 "put_into_rows" kF jx):FnOk P w K mg base p6 3 f fd uy (qt K 2 pK):=xB (m:=ve) F wB λj B d s H E g=>
 iL (jc (i:=2) wB.nd<|Je J g<|iG 0)
 (iL (j7<|A_ Uk g (iG 2)<|iG 1)
 (iW<|jA<|iG 2))
def mT:FnScope u_ uX (i6 uQ):=xM rfl rfl rfl ∅
def Eb(F:Fun K "tables" "tables" uQ f fd)(J:mg "enumerate" = none)(Ud:mg "len" = none)(Uk:qV P w K mg base 2 "put_into_rows" kF jx):FnOk P w K mg base p6 3 f fd uX (qt K 1 lY):=xB (m:=uU) F mT λj B d s H E g=>
 iL (jc (i:=1) mT.nd<|j0 iR)
 (iL (jc (i:=2) mT.nd<|j0 iR)
 (iL (l7 b6 rfl (Af J<|iG 0) (xm rfl<|lW (jh (i:=3) mT.nd)<|lW (jh (i:=4) mT.nd) tN)
 (iL (jc (i:=5) mT.nd<|A_ Uk g (iG 1)<|iG 4)
 (iL (lU (jn (zd g.units) (iG 5)<|je mP Ud j_<|iO (iG 2) iR)
 (iW<|j7<|p7 cM cN m7 (iG 2)<|iO (j0 iR) iR)
 jL)
 (iW<|j7<|p7 cM cN m7 (jw (iG 2)<|iG 5)<|iO (i_ kq (iG 3) iX) iR))))
 (iW<|jA<|HJ<|iO (iG 1)<|iO (iG 2) iR)))
def FH:FnScope yc ye (i6 yv):=xM rfl rfl rfl ∅
def Iu(F:Fun K "shape" "shape" yv f fd)(J:mg "len" = none):FnOk P w K mg base p6 1 f fd ye (qt K 1 qQ):=xB (m:=xU) F FH λg B d s H E j=>
 iW (jA<|qK (N:=["row"]) (cap:=[none]) rfl (qU [] rfl ∅ ∅ ∅ ∅ ∅ (nofun) trivial) (nu<|iG 0) (λ_ _ _ _=>jh (i:=0) (show(["row"]:am).Nodup by decide +kernel) rfl (Or.inl rfl)<|.inr rfl) (λ_ _ _ _=>oK) λ_ _ _ _=>je mP J j_<|iO (iG 0) iR)
def wV:FnScope pq pF (i6 pg):=xM rfl rfl rfl ∅
def xG(F:Fun K "plain_row" "plain_row" pg f fd)(J:mg "reversed" = none):FnOk P w K mg base p6 1 f fd pF (qt K 1 lV):=xB (m:=pG) F wV λg B d s H E j=>
 iW (jA<|IA (N:=["row", "letter"]) (cap:=[none,none]) rfl (qU [] rfl ∅ ∅ ∅ ∅ ∅ (nofun) trivial) (MU J<|iG 0) (λ_ _ _ _=>jh (i:=0) (show(["row", "letter"]:am).Nodup by decide +kernel) rfl (Or.inl rfl)<|.inr rfl) (λ_ _ _ _=>oK) (λ_ _ _ _=>nu<|iG 0) (λ_ _ _ _=>jh (i:=1) (show(["row", "letter"]:am).Nodup by decide +kernel) rfl (Or.inl rfl)<|.inr rfl) (λ_ _ _ _=>oK) λ_ _ _ _=>iG 1)
def nQ:FnScope oQ oE (i6 oG):=xM rfl rfl rfl ∅
def vI(F:Fun K "may_change" "may_change" oG f fd)(J:mg "min" = none)(Um:mg "max" = none)(Ud:mg "len" = none):FnOk P w K mg base p6 1 f fd oE (qt K 2 jT):=xB (m:=oA) F nQ λj B g s H E d=>
 iL (jc (i:=2) nQ.nd<|je (Gq rfl) J GL<|iO (jw (iG 0)<|iG 1)<|iO (jw (iG 0)<|i_ kq (iG 1) iX) iR)
 (iL (jc (i:=3) nQ.nd<|je (FY rfl) Um Io<|iO (jw (iG 0)<|iG 1)<|iO (jw (iG 0)<|i_ kq (iG 1) iX) iR)
 (iL (lU (AW.at<|A6 (jn (yz d.units) (i_ kq (iG 1) iX)<|je mP Ud j_<|iO (iG 0) iR)<|wO<|Ql N8 (yz d.units) (iG 2) (jw (iG 0)<|i_ kq (iG 1) iX)<|iG 3)
 (iW<|jA vj)
 jL)
 (iW<|jA<|NC (Gy (FL d.units) (iG 1) iX)<|Ny<|O6 (yz d.units) N8 (iG 2) (jw (iG 0)<|i_ sP (iG 1) iX)<|iG 3)))
def Ao:FnScope su pR (i6 qX):=xM rfl rfl rfl ∅
def AM(F:Fun K "changed" "changed" qX f fd):FnOk P w K mg base p6 1 f fd pR (qt K 2 j5):=xB (m:=sf) F Ao λg B d s H E j=>
 iW (jA<|i_ kq (i_ kq (LL (iG 0) BB<|BQ<|iG 1)<|j0<|iO (jw (iG 0)<|i_ kq (iG 1) iX)<|iO (jw (iG 0)<|iG 1) iR)<|LL (iG 0) (BQ<|i_ kq (iG 1) iX) BB)
def Hj:FnScope yb yo (i6 yp):=xM rfl rfl rfl ∅
def Fb(F:Fun K "moved" "moved" yp f fd)(J:mg "sorted" = none)(Ug:mg "range" = none)(Ud:mg "len" = none)(Uw:qV P w K mg base 1 "may_change" oE jT)(Uo:qV P w K mg base 1 "changed" pR j5):FnOk P w K mg base p6 2 f fd yo (qt K 1 qR):=xB (m:=w4) F Hj λj B d s H E g=>
 iW (jA<|je (BI g.units) J rV<|iO (qK (N:=["at", "row"]) (cap:=[none,some 0]) rfl (qU ["row"] rfl ∅ ∅ ∅ ∅ ∅ (dG.mpr ⟨by first|exact Or.inl rfl|exact Or.inr rfl,(nofun)⟩) ⟨rfl,by decide +kernel,trivial⟩) (n9 Ug<|i_ sP (je mP Ud j_<|iO (iG 0) iR) iX) (λ_ _ _ _=>jh (i:=0) (show(["at", "row"]:am).Nodup by decide +kernel) rfl (Or.inl rfl)<|.inr rfl) (λ_ _ _ _=>yt<|Ms<|A_ Uw g (iG 1)<|iG 0) λ_ _ _ _=>A_ Uo g (iG 1)<|iG 0) iR)
def yU:FnScope tU xQ (i6 yx):=xM rfl rfl rfl ∅
def IJ(F:Fun K "go_on" "go_on" yx f fd)(J:qV P w K mg base 1 "changed" pR j5):FnOk P w K mg base p6 2 f fd xQ (qt K 2 nG):=xB (m:=tD) F yU λj B d s H E g=>
 iL (jc (i:=2) yU.nd<|A_ J g (jw (iG 0)<|ue iX)<|iG 1)
 (iW (lU (jn (Rp g.units) (iG 2)<|iG 0)
 (iW<|Mn (iG 0)<|i_ kq (p7 PySem.F.slot_list_index PySem.F.type_list_index (NI g.units) (iG 0)<|iO (iG 2) iR) iX)
 (iW<|j7<|p7 cM cN m7 (iG 0)<|iO (iG 2) iR)))
def j3:FnScope qZ rf (i6 r6):=xM rfl rfl rfl ∅
def An(F:Fun K "lead_in" "lead_in" r6 f fd)(Ud:mg "len" = none)(J:mg "range" = none)(Uj:qV P w K mg base 1 "first_greater" kD jz)(Us:qV P w K mg base 2 "go_on" xQ nG):FnOk P w K mg base p6 3 f fd rf (qt K 3 ow):=xB (m:=sj) F j3 λj B g s H E d=>
 iW (l7 b6 rfl (nu<|iG 1) (jh (i:=3) j3.nd)
 (iL (jc (i:=4) j3.nd<|jw (jw (iG 0)<|ue iX)<|iG 2)
 (iL (jc (i:=5) j3.nd<|i_ sP (iG 2)<|je mP Ud j_<|iO (iG 3) iR)
 (iL (jc (i:=6) j3.nd<|i_ kq (iG 5)<|A_ Uj d (iG 3)<|iG 4)
 (iL (lU (jn (zd d.units) (iG 6)<|iG 2)
 (iW<|Kh)
 jL)
 (iL (l7 b6 rfl (wJ J (i_ sP (iG 2) iX) (iG 6)<|ue iX) (jh (i:=7) j3.nd)
 (iW<|j7<|A_ Us d (iG 0)<|iG 7))
 (iL (l7 b6 rfl (wJ J (i_ sP (iG 6) iX) (i_ sP (iG 5) iX)<|ue iX) (jh (i:=7) j3.nd)
 (iW<|j7<|A_ Us d (iG 0)<|iG 7))
 (iW<|jc (i:=2) j3.nd<|iG 5))))))))
def jB:FnScope mK l6 (i6 mh):=xM rfl rfl rfl ∅
def rZ(F:Fun K "road_of_moves" "road_of_moves" mh f fd)(J:mg "len" = none)(Ue:mg "list" = none)(Uh:mg "enumerate" = none)(Ux:∃t,mg "MOST_LED_LETTERS" = some (.int 12 t))(Uy:qV P w K mg base 3 "lead_in" rf ow)(Uz:qV P w K mg base 3 "put_in" uy pK):FnOk P w K mg base p6 4 f fd l6 (qt K 1 jy):=xB (m:=l_) F jB λj B d s H E g=>
 iL (lU (jn (FL g.units) (je mP J j_<|iO (iG 0) iR)<|IK Ux.choose_spec)
 (iW<|O3)
 jL)
 (iL (jc (i:=1) jB.nd<|j0<|iO (jW (pI rfl) Ue ny<|iO (iG 0) iR) iR)
 (iL (jc (i:=2) jB.nd<|j0 iR)
 (iL (l7 b6 rfl (Af Uh<|iG 0) (xm rfl<|lW (jh (i:=3) jB.nd)<|lW (jh (i:=4) jB.nd) tN)
 (iL (j7<|TZ Uy g (iG 1) (iG 2)<|iG 3)
 (iW<|jc (i:=2) jB.nd<|A_ Uz g (iG 2)<|iG 4)))
 (iW<|jA<|iG 1))))
def mX:FnScope rg rH (i6 rQ):=xM rfl rfl rfl ∅
def Aa(F:Fun K "_law_bag" "_law_bag" rQ f fd)(J:mg "len" = none):FnOk P w K mg base p6 1 f fd rH (qt K 2 om):=xB (m:=sE) F mX λj B d s H E g=>
 iL (jc (i:=2) mX.nd iX)
 (iL (lU (jn (yz g.units) (iG 1)<|je mP J j_<|iO (iG 0) iR)
 (iW<|jc (i:=2) mX.nd<|jw (iG 0)<|iG 1)
 jL)
 (iL (jc (i:=3) mX.nd iX)
 (iL (lU (jn Sb (iG 2)<|i_ OY iX iX)
 (iW<|jc (i:=3) mX.nd<|iG 2)
 jL)
 (iW<|jA<|j0<|iO (iG 3)<|iO (i_ zB (i_ kq (i_ kq (iG 2)<|i_ By iX<|iG 1) iX) iX) iR))))
def qw:FnScope nM o5 (i6 o8):=xM rfl rfl rfl ∅
def ym(F:Fun K "_law_digit" "_law_digit" o8 f fd):FnOk P w K mg base p6 1 f fd o5 (qt K 2 jk):=xB (m:=nH) F qw λj B d s H E g=>
 iL (lU (jn (FL g.units) (jw (iG 0) iX) iX)
 (iL (jc (i:=2) qw.nd<|i_ zB (jw (iG 0) iX)<|iG 1)
 (iL (uA (i_ Ib (jw (iG 0) iX)<|iG 1)<|xZ (iG 0) iX)
 (iW<|jA<|iG 2)))
 jL)
 (iL (uA (i_ zB (i_ kq (i_ By (jw (iG 0) iX) iX) iX) iX)<|xZ (iG 0) iX)
 (iW<|jA<|i_ zB (i_ zB (i_ By (i_ Ib (jw (iG 0) iX) iX) iX) iX)<|iG 1))
def jU:FnScope sq r_ (i6 rK):=xM rfl rfl rfl ∅
def AJ(F:Fun K "_law_all" "_law_all" rK f fd)(J:mg "range" = none)(Ud:mg "len" = none)(Ue:mg "list" = none)(Ui:mg "sorted" = none):FnOk P w K mg base p6 1 f fd r_ (qt K 1 lI):=xB (m:=rJ) F jU λj B d s H E g=>
 iL (jc (i:=1) jU.nd<|j0<|iO (j0 iR) iR)
 (iL (l7 b6 rfl (n9 J<|je mP Ud j_<|iO (iG 0) iR) (jh (i:=2) jU.nd)
 (iL (jc (i:=3) jU.nd<|j0 iR)
 (iL (l7 b6 rfl (nu<|iG 1) (jh (i:=4) jU.nd)
 (iL (jc (i:=5) jU.nd<|jW (pI rfl) Ue ny<|iO (iG 0) iR)
 (iL (l7 b6 rfl (nu<|iG 4) (jh (i:=6) jU.nd)
 (iW<|j7<|p7 PySem.F.slot_list_remove PySem.F.type_list_remove Im (iG 5)<|iO (iG 6) iR))
 (iW<|j7<|p7 PySem.F.slot_list_extend PySem.F.type_list_extend GO (iG 3)<|iO (qK (N:=["_law_one", "_law_some"]) (cap:=[none,some 4]) rfl (qU ["_law_some"] rfl ∅ ∅ ∅ ∅ ∅ (dG.mpr ⟨by first|exact Or.inl rfl|exact Or.inr rfl,(nofun)⟩) ⟨rfl,by decide +kernel,trivial⟩) (nu<|je JZ Ui rV<|iO (iG 5) iR) (λ_ _ _ _=>jh (i:=0) (show(["_law_one", "_law_some"]:am).Nodup by decide +kernel) rfl (Or.inl rfl)<|.inr rfl) (λ_ _ _ _=>oK) λ_ _ _ _=>i_ kq (iG 1)<|j0<|iO (iG 0) iR) iR))))
 (iL (jc (i:=1) jU.nd<|j0 iR)
 (iW (l7 b6 rfl (nu<|iG 3) (jh (i:=4) jU.nd)
 (iW (lU (AW.at<|GF (jn (zd g.units) (iG 1)<|j0 iR)<|Aw<|jn (K4 g.units) (jw (iG 1)<|ue iX)<|iG 4)
 (iW<|j7<|p7 cM cN m7 (iG 1)<|iO (iG 4) iR)
 jL))))))))
 (iW<|jA<|iG 1))
def jO:FnScope nW nX (i6 nY):=xM rfl rfl rfl ∅
def vd(F:Fun K "_law_reached" "_law_reached" nY f fd)(J:mg "tuple" = none)(Ud:mg "len" = none)(Ue:mg "list" = none)(Ui:mg "sorted" = none)(UA:qV P w K mg base 2 "moved" yo qR):FnOk P w K mg base p6 3 f fd nX (qt K 1 kh):=xB (m:=nS) F jO λj B g s H E d=>
 iL (jc (i:=1) jO.nd<|j0<|iO (iG 0) iR)
 (iL (jc (i:=2) jO.nd<|JY d.units (jW (yh rfl) J uT<|iO (iG 0) iR) vj)
 (iL (jc (i:=3) jO.nd iX)
 (iL (uo 1000000 b6 (jn (yz d.units) (iG 3)<|je mP Ud j_<|iO (iG 1) iR)
 (iL (l7 b6 rfl (nu<|Je UA d<|jW (pI rfl) Ue ny<|iO (jw (iG 1)<|iG 3) iR) (jh (i:=4) jO.nd)
 (iW (lU (jn (Fd d.units) (jW (yh rfl) J uT<|iO (iG 4) iR)<|iG 2)
 (iL (uA vj<|Ka d.units (iG 2)<|jW (yh rfl) J uT<|iO (iG 4) iR)
 (iW<|j7<|p7 cM cN m7 (iG 1)<|iO (iG 4) iR))
 jL)))
 (iW<|jc (i:=3) jO.nd<|i_ kq (iG 3) iX)))
 (iW<|jA<|je (BI d.units) Ui rV<|iO (iG 1) iR))))
def jZ:FnScope kc jX (i6 lK):=xM rfl rfl rfl ∅
def uW{J:ad->iK->R A}(F:Fun K "_law_seconds" "_law_seconds" lK f fd)(Up:mg "sum" = none)(Ug:mg "range" = none)(Ud:mg "len" = none)(Ue:mg "list" = none)(UL:qV P w K mg base (1+kr) "_law_seconds" jX J):FnOk P w K mg base p6 (1+kr+1) f fd jX (qt K 1<|mE kc<|ki J):=xB (m:=ki J) F jZ λj B g s H E d=>
 iL (lU (jn (zd d.units) (je (Qo rfl) Up NO<|iO (iG 0) iR) iX)
 (iW<|jA iX)
 jL)
 (iL (jc (i:=1) jZ.nd iX)
 (iL (l7 b6 rfl (n9 Ug<|je mP Ud j_<|iO (iG 0) iR) (jh (i:=2) jZ.nd)
 (iW (lU (AW.at<|A6 (jn (FL d.units) (jw (iG 0)<|iG 2) iX)<|wO<|AW.at<|GF (jn (zd d.units) (iG 2)<|i_ sP (je mP Ud j_<|iO (iG 0) iR) iX)<|Aw<|jn (yz d.units) (jw (iG 0)<|i_ kq (iG 2) iX)<|jw (iG 0)<|iG 2)
 (iL (jc (i:=3) jZ.nd<|jW (pI rfl) Ue ny<|iO (iG 0) iR)
 (iL (uA (i_ sP (jw (iG 3)<|iG 2) iX)<|xZ (iG 3)<|iG 2)
 (iW<|jc (i:=1) jZ.nd<|i_ kq (iG 1)<|BN UL (d.mono ()) (iO (iG 3) iR)<|mY tZ)))
 jL)))
 (iW<|jA<|iG 1)))
theorem oS(F:Fun K "_law_seconds" "_law_seconds" lK f fd)(J:mg "sum" = none)(Ug:mg "range" = none)(Ud:mg "len" = none)(Ue:mg "list" = none)(hm:mg "_law_seconds" = some (.ref f))(hk:PySem.W.keepIn K (.ref f)=true)(hb:Binds K fd jX []):∀kr,FnOk P w K mg base p6 (1+kr) f fd jX (qt K 1<|jP kr)
 | 0=>NP rfl
 | kr+1=>uW F J Ug Ud Ue ⟨f,fd,oS F J Ug Ud Ue hm hk hb kr,hm,hk,hb⟩
def nU:FnScope Fv LA (i6 HR):=xM rfl rfl rfl ∅
set_option smartUnfolding false in
theorem NQ(F:Fun K "law" "law" HR f fd)(Ug:mg "range" = none)(Um:mg "max" = none)(Ul:mg "min" = none)(Ud:mg "len" = none)(UB:mg "int" = none)(Uh:mg "enumerate" = none)(J:mg "list" = none)(UC:qV P w K mg base 1 "_law_bag" rH om)(Ur:qV P w K mg base 1 "_law_digit" o5 jk)(Ut:qV P w K mg base 3 "tables" uX lY)(UD:qV P w K mg base 3 "_law_reached" nX kh)(UE:qV P w K mg base 1 "_law_all" r_ lI)(UG:qV P w K mg base 1 "plain_row" pF lV)(UH:qV P w K mg base 13 "_law_seconds" jX nZ)(UI:qV P w K mg base 1 "shape" ye qQ)(UJ:qV P w K mg base 4 "road_of_moves" l6 jy):FnOk P w K mg base p6 14 f fd LA (qt K 1 v8):=xB (m:=Gx) F nU λj B g s H E d=>
 iL (l7 b6 rfl (n9 Ug<|je (FY rfl) Um Io<|iO iX<|iO (je (Gq rfl) Ul GL<|iO (je mP Ud j_<|iO (iG 0) iR)<|iO iX iR) iR) (jh (i:=1) nU.nd)
 (iL (jc (i:=2) nU.nd<|A_ UC d (iG 0)<|iG 1)
 (iL (jc (i:=3) nU.nd<|A_ Ur d (iG 2)<|jw (j0<|iO iX<|iO iX iR)<|jW Np UB Oe<|iO (Gy (FL d.units) (iG 1) iX) iR)
 (iL (jc (i:=4) nU.nd<|i_ kq iX<|A_ Ur d (iG 2) iX)
 (iL (xE (i:=5) (N:=["_law_j", "_law_bag_here", "_law_base"]) (cap:=[none,some 2,some 4]) nU.nd rfl (qU ["_law_bag_here", "_law_base"] rfl ∅ ∅ ∅ ∅ ∅ (dG.mpr ⟨by first|exact Or.inl rfl|exact Or.inr rfl,(dG.mpr ⟨by first|exact Or.inl rfl|exact Or.inr rfl,(nofun)⟩)⟩) ⟨rfl,by decide +kernel,⟨rfl,by decide +kernel,trivial⟩⟩) (n9 Ug<|iG 3) (λ_ _ _ _=>jh (i:=0) (show(["_law_j", "_law_bag_here", "_law_base"]:am).Nodup by decide +kernel) rfl (Or.inl rfl)<|.inr rfl) (λ_ _ _ _=>oK) λ_ _ _ _=>i_ kq iX<|A_ Ur d (iG 1)<|iG 2)
 (iL (lU (jn (zd d.units) (iG 4) iX)
 (iW<|xE (i:=5) (N:=["_law_j", "_law_one"]) (cap:=[none,none]) nU.nd rfl (qU [] rfl ∅ ∅ ∅ ∅ ∅ (nofun) trivial) (Af Uh<|iG 5) (λ_ _ _ _=>xm rfl<|lW (jh (i:=0) (show(["_law_j", "_law_one"]:am).Nodup by decide +kernel) rfl (Or.inl rfl)<|.inr rfl)<|lW (jh (i:=1) (show(["_law_j", "_law_one"]:am).Nodup by decide +kernel) rfl (Or.inl rfl)<|.inr rfl) tN) (λ_ _ _ _=>oK) λ_ _ _ _=>i_ kq (i_ By (iG 1) iX)<|iG 0)
 jL)
 (iL (jc (i:=6) nU.nd<|jw (Je Ut d<|jW (pI rfl) J ny<|iO (iG 5) iR) iX)
 (iL (jc (i:=7) nU.nd<|Je UD d<|iG 5)
 (iL (xE (i:=8) (N:=["_law_one", "_law_first"]) (cap:=[none,some 6]) nU.nd rfl (qU ["_law_first"] rfl ∅ ∅ ∅ ∅ ∅ (dG.mpr ⟨by first|exact Or.inl rfl|exact Or.inr rfl,(nofun)⟩) ⟨rfl,by decide +kernel,trivial⟩) (nu<|Je UE d<|iG 5) (λ_ _ _ _=>jh (i:=0) (show(["_law_one", "_law_first"]:am).Nodup by decide +kernel) rfl (Or.inl rfl)<|.inr rfl) (λ_ _ _ _=>yt<|jn (zd d.units) (jw (Je Ut d<|jW (pI rfl) J ny<|iO (iG 0) iR) iX)<|iG 1) λ_ _ _ _=>iG 0)
 (iL (lU (jn (K4 d.units) (iG 7)<|iG 8)
 (iW<|jA vj)
 jL)
 (iL (lU (AW.at<|GF (jn (K4 d.units) (je mP Ud j_<|iO (iG 7) iR)<|Je UH d<|Je UI d<|iG 6)<|Aw<|jn (Cj d.units) (Je UG d<|iG 6)<|iG 7)
 (iW<|jA vj)
 jL)
 (iW (lU (jn (K4 d.units) (qK (N:=["_law_one", "_law_reached_here"]) (cap:=[none,some 7]) rfl (qU ["_law_reached_here"] rfl ∅ ∅ ∅ ∅ ∅ (dG.mpr ⟨by first|exact Or.inl rfl|exact Or.inr rfl,(nofun)⟩) ⟨rfl,by decide +kernel,trivial⟩) (nu<|Je UJ d<|jW (pI rfl) J ny<|iO (iG 5) iR) (λ_ _ _ _=>jh (i:=0) (show(["_law_one", "_law_reached_here"]:am).Nodup by decide +kernel) rfl (Or.inl rfl)<|.inr rfl) (λ_ _ _ _=>yt<|jn (Cj d.units) (iG 0)<|iG 1) λ_ _ _ _=>iG 0)<|j0 iR)
 (iW<|jA vj)
 jL)))))))))))))
 (iW<|jA vj)
end
end K64
namespace Tb
abbrev fg (r:ae)(x:Int):Nat:=r.findIdx λy=>decide<|x<y
def Dk(r:ae)(x:Int):fg r x<=r.length:=gh
def u9{r:ae}{x:Int}(h:fg r x≠r.length):fg r x<r.length:=Nat.lt_of_le_of_ne (Dk r x) h
abbrev put:List (ae)->Int->List (ae)
 | [],x=>[[x]]
 | r::rs,x=>if fg r x=r.length then(r++[x])::rs else r.set (fg r x) x::put rs (r.getD (fg r x) 0)
abbrev row:List (ae)->Int->Nat
 | [],_=>0
 | r::rs,x=>if fg r x=r.length then 0 else row rs (r.getD (fg r x) 0)+1
def lO{r:ae}{x:Int}(h:fg r x=r.length):put (r::rs) x=(r++[x])::rs:=aN h
def n5{r:ae}{x:Int}(h:fg r x≠r.length):put (r::rs) x=r.set (fg r x) x::put rs (r.getD (fg r x) 0):=aO h
def pT{r:ae}{x:Int}(h:fg r x=r.length):row (r::rs) x=0:=aN h
def rW{r:ae}{x:Int}(h:fg r x≠r.length):row (r::rs) x=row rs (r.getD (fg r x) 0)+1:=aO h
theorem AX:∀(T:List<|ae) (x:Int),row T x<=T.length
 | [],_=>aM _
 | r::rs,x=>by
  by_cases h:fg r x=r.length
  ·rw[pT h];exact bQ _
  ·rw[rW h,bu];exact gz<|AX rs _
abbrev bump:ag->Nat->ag
 | [],_=>[1]
 | n::ns,0=>(n+1)::ns
 | n::ns,i+1=>n::bump ns i
theorem mU:∀(T:List<|ae) (x:Int),(put T x).map List.length=bump (T.map List.length) (row T x)
 | [],_=>rfl
 | r::rs,x=>by
  by_cases h:fg r x=r.length
  ·rw[lO h,pT h,bS,bS,aL];rfl
  ·rw[n5 h,rW h,bS,bS,bD,mU rs];rfl
theorem C9:∀(ns:ag) (i j:Nat),i<=ns.length->(bump ns i).getD j 0=ns.getD j 0+if j=i then 1 else 0
 | [],i,j,h=>by
  have:i=0:=by simpa using h
  subst this
  cases j with
  | zero=>rfl
  | succ j=>simp[bump]
 | n::ns,0,j,_=>by cases j<;>simp[bump]
 | n::ns,i+1,j,h=>by
  cases j with
  | zero=>simp[bump]
  | succ j=>
   have:=C9 ns i j<|Nat.le_of_succ_le_succ h;simpa[bump]using this
theorem zS:∀(ns:ag) (i:Nat),(bump ns i).sum=ns.sum+1
 | [],_=>rfl
 | n::ns,0=>by simp[bump];lia
 | n::ns,i+1=>by simp[bump,zS ns i];lia
def n_(T:List<|ae)(j:Nat):(T.map List.length).getD j 0=(T.getD j []).length:=by
 rw[aF,aF,aR]
 cases T[j]?<;>rfl
def Ii(T:List<|ae)(x:Int)(j:Nat):((put T x).getD j []).length=(T.getD j []).length+if j=row T x then 1 else 0:=by
 rw[<- n_,mU,C9 _ _ _<|by rw[aG];exact AX T x,n_]
def qI(T:List<|ae)(x:Int):((put T x).map List.length).sum=(T.map List.length).sum+1:=by
 rw[mU,zS]
abbrev add:List (ae)->Nat->Int->List (ae)
 | [],_,k=>[[k]]
 | q::qs,0,k=>(q++[k])::qs
 | q::qs,i+1,k=>q::add qs i k
theorem vS:∀(Q:List<|ae) (i:Nat) (k:Int),(add Q i k).map List.length=bump (Q.map List.length) i
 | [],_,_=>rfl
 | q::qs,0,k=>by simp[add,bump]
 | q::qs,i+1,k=>by simp[add,bump,vS qs i k]
theorem B3:∀(Q:List<|ae) (k:Int),add Q Q.length k=Q++[[k]]
 | [],_=>rfl
 | q::qs,k=>by show q::add qs qs.length k=_;rw[B3 qs k];rfl
theorem Gh:∀(Q:List<|ae) (i:Nat) (k:Int),i<Q.length->add Q i k=Q.set i (Q.getD i []++[k])
 | [],_,_,h=>absurd h (cK _)
 | q::qs,0,k,_=>rfl
 | q::qs,i+1,k,h=>by show q::add qs i k=_;rw[Gh qs i k<|gg h];rfl
abbrev tabs (xs:ae):Nat->List (ae)×List (ae)
 | 0=>([],[])
 | i+1=>(put (tabs xs i).1<|xs.getD i 0,add (tabs xs i).2 (row (tabs xs i).1<|xs.getD i 0)<|(i:Int)+1)
theorem qg(xs:ae):∀i,(tabs xs i).2.map List.length=(tabs xs i).1.map List.length
 | 0=>rfl
 | i+1=>by
  show(add _ _ _).map List.length=(put _ _).map List.length;rw[vS,mU,qg xs i]
def IQ(xs:ae)(i:Nat):(tabs xs i).2.length=(tabs xs i).1.length:=by
 have:=d9 List.length<|qg xs i;simpa using this
theorem qN(xs:ae):∀i,((tabs xs i).1.map List.length).sum=i
 | 0=>rfl
 | i+1=>by
  show((put _ _).map List.length).sum=_;rw[qI,qN xs i]
theorem vC:∀{ns:ag},(∀n∈ns,0<n)->ns.length<=ns.sum
 | [],_=>aM _
 | n::ns,h=>by
  have h1:=h n<|aK ..;have f:=vC λm d=>h m<|aJ _ d;rw[bu,dw];lia
theorem wg:∀(ns:ag) (j:Nat),ns.getD j 0<=ns.sum
 | [],j=>by simp
 | n::ns,0=>by simp
 | n::ns,j+1=>by have:=wg ns j;rw[dw];dsimp[List.getD_cons_succ];lia
theorem zJ:∀{ns:ag}{i:Nat},(∀n∈ns,0<n)->∀n∈bump ns i,0<n
 | [],_,_,n,h=>by simp[bump]at h;lia
 | m::ns,0,hp,n,h=>by
  rcases aY.mp h with z|z
  ·lia
  ·exact hp n<|aJ _ z
 | m::ns,i+1,hp,n,h=>by
  rcases aY.mp h with z|z
  ·rw[z];exact hp m (aK ..)
  ·exact zJ (λk d=>hp k<|aJ _ d) n z
theorem yL(xs:ae):∀i,∀n∈(tabs xs i).1.map List.length,0<n
 | 0=>λn h=>by cases h
 | i+1=>by
  show ∀n∈(put _ _).map List.length,0<n;rw[mU];exact zJ<|yL xs i
def qd(xs:ae)(i:Nat):(tabs xs i).1.length<=i/\∀j,((tabs xs i).1.getD j []).length<=i:=by
 refine⟨?_,λj=>?_⟩
 ·have:=vC<|yL xs i;rw[qN,aG]at this;exact this
 ·have:=wg ((tabs xs i).1.map List.length) j;rw[n_,qN]at this;exact this
abbrev gs (r:ae)(x:Int):ag:=(List.range r.length).filter λk=>decide<|x<r.getD k 0
end Tb
namespace Am
open PySem L2
abbrev Rows (S:iK):ag->List (ae)->Prop
 | [],[]=>True
 | r::rs,x::T=>iI S r=some (x.map .int)/\Rows S rs T
 | _,_=>False
theorem Rows.len:∀{rs:ag}{T:List<|ae},Rows S rs T->rs.length=T.length
 | [],[],_=>rfl
 | _::_,_::_,h=>d9 (·+1) (Rows.len h.2)
 | [],_::_,h=>h.elim
 | _::_,[],h=>h.elim
theorem Rows.get:∀{rs:ag}{T:List<|ae}{i:Nat}{r:Nat},Rows S rs T->rs[i]?=some r->i<T.length/\iI S r=some ((T.getD i []).map .int)
 | [],[],_,_,_,e=>by simp at e
 | r::rs,x::T,0,_,h,e=>by simp at e;subst e;exact⟨ir _,h.1⟩
 | r::rs,x::T,i+1,q,h,e=>by
  obtain⟨h1,d⟩:=Rows.get (i:=i) (r:=q) h.2 (by simpa using e);exact⟨gC h1,by simpa using d⟩
 | [],_::_,_,_,h,_=>h.elim
 | _::_,[],_,_,h,_=>h.elim
theorem Rows.mono:∀{rs:ag}{T:List<|ae},Rows S rs T->(∀r∈rs,∀xs,iI S r=some xs->iI S' r=some xs)->Rows S' rs T
 | [],[],_,_=>trivial
 | r::rs,x::T,h,k=>⟨k r (aK ..) _ h.1,Rows.mono h.2 λq d=>k q<|aJ _ d⟩
 | [],_::_,h,_=>h.elim
 | _::_,[],h,_=>h.elim
theorem Rows.mk:∀{rs:ag}{T:List<|ae},rs.length=T.length->(∀i,i<T.length->iI S (rs.getD i 0)=some ((T.getD i []).map .int))->Rows S rs T
 | [],[],_,_=>trivial
 | r::rs,x::T,hl,h=>⟨h 0<|ir _,Rows.mk (by simpa using hl) λi hi=>by have:=h (i+1)<|gC hi;simpa using this⟩
 | [],_::_,h,_=>by simp at h
 | _::_,[],h,_=>by simp at h
theorem Rows.set{S:iK}{ys:ae}:∀{rs:ag}{T:List<|ae}{i:Nat}{r:Nat},Rows S rs T->rs.Nodup->rs[i]?=some r->Rows (S.set r<|.lst<|ys.map .int) rs (T.set i ys)
 | [],[],_,_,_,_,e=>by simp at e
 | r::rs,x::T,0,q,h,nd,e=>by
  simp at e;subst e;refine⟨kR<|jQ h.1,Rows.mono h.2 λq f xs e=>?_⟩;rw[jC<|show r≠q from λz=>(bL.mp nd).1<|by rw[z];exact f];exact e
 | r::rs,x::T,i+1,q,h,nd,e=>by
  have d:rs[i]?=some q:=by simpa using e
  refine⟨?_,Rows.set h.2 (bL.mp nd).2 d⟩;rw[jC<|show q≠r from λz=>(bL.mp nd).1<|by rw[<- z];exact aX d];exact h.1
 | [],_::_,_,_,h,_,_=>h.elim
 | _::_,[],_,_,h,_,_=>h.elim
theorem Rows.app:∀{rs rs':ag}{T T':List<|ae},Rows S rs T->Rows S rs' T'->Rows S (rs++rs') (T++T')
 | [],_,[],_,_,h=>h
 | r::rs,_,x::T,_,h,h'=>⟨h.1,Rows.app h.2 h'⟩
 | [],_,_::_,_,h,_=>h.elim
 | _::_,_,[],_,h,_=>h.elim
theorem rC{n:Nat}:∀{rs rs':ag}{T T':List<|ae},Rows S rs T->Rows S rs' T'->pZ (o_ S<|n+2) (rs.map .ref) (rs'.map .ref)=some (decide<|T=T')
 | [],[],[],[],_,_=>rfl
 | [],_::_,[],_::_,_,_=>rfl
 | _::_,[],_::_,[],_,_=>rfl
 | r::rs,q::qs,x::T,y::T',h,h'=>by
  show(o_ S (n+2) (.ref r)<|.ref q).bind _=_;have e:o_ S (n+2) (.ref r) (.ref q)=some (decide<|x=y):=by
   show(iI S r).bind (λxs=>(iI S q).bind λys=>pZ (o_ S<|n+1) xs ys)=_;rw[h.1,bB,h'.1,bB];exact rO x y
  rw[e,bB]
  skip
  rw[rC h.2 h'.2]
  skip
  by_cases h1:x=y<;>by_cases d:T=T'<;>simp[h1,d]
 | [],_,_::_,_,h,_=>h.elim
 | _::_,_,[],_,h,_=>h.elim
 | _,[],_,_::_,_,h=>h.elim
 | _,_::_,_,[],_,h=>h.elim
structure Tab (S:iK)(n:Nat)(rs:ag)(T:List (ae)):Prop where
 top:iI S n=some (rs.map .ref)
 rows:Rows S rs T
 nd:(n::rs).Nodup
def Tab.len{n:Nat}{J:ag}{T:List<|ae}(h:Tab S n J T):J.length=T.length:=h.rows.len
def Tab.kp{n:Nat}{c:Nat->Prop}(h:Tab S n rs T)(k:Kp c S S')(hc:∀r∈n::rs,¬c r):Tab S' n rs T:=
 ⟨k.lst _ _ (hc n<|aK ..) h.top,h.rows.mono λr d xs e=>k.lst r xs (hc r<|aJ _ d) e,h.nd⟩
def Tab.Mk{n:Nat}(h:Tab S n rs T)(k:kC S S'):Tab S' n rs T:=h.kp k λ_ _ z=>z
def Rows.lt{S:iK}{J:ag}(h:Rows S J T):∀r∈J,r<S.length:=λr d=>by
 obtain⟨i,hi,e⟩:=c5.mp d;exact jQ (h.get<|by rw[aE hi,e]).2
def Tab.lt{S:iK}{n:Nat}(h:Tab S n rs T):∀r∈n::rs,r<S.length:=λr d=>by
 rcases aY.mp d with z|z
 ·rw[z];exact jQ h.top
 ·exact h.rows.lt r z
def Tab.set{S:iK}{n:Nat}{T:List<|ae}{i r:Nat}{ys:ae}(h:Tab S n rs T)(hi:rs[i]?=some r):Tab (S.set r<|.lst<|ys.map .int) n rs (T.set i ys):=
 ⟨by rw[jC<|show r≠n from λz=>(bL.mp h.nd).1<|by rw[<- z];exact aX hi];exact h.top,h.rows.set (bL.mp h.nd).2 hi,h.nd⟩
def Tab.push{S:iK}{n:Nat}{ys:ae}(h:Tab S n rs T):Tab ((S++[O.lst<|ys.map .int]).set n<|.lst<|(rs++[S.length]).map .ref) n (rs++[S.length]) (T++[ys]):=by
 have hn:n<S.length:=h.lt n<|aK ..;have f:∀r∈rs,n≠r:=λr d z=>(bL.mp h.nd).1<|z ▸ d;refine⟨kR<|by rw[aL];simp;lia,Rows.app (h.rows.mono λr d xs e=>?_) ⟨?_,trivial⟩,?_⟩
 ·rw[jC<|f r d];exact jE e
 ·rw[jC ()];exact iY
 ·rw[bL,d_];refine⟨λz=>?_,(bL.mp h.nd).2,by simp,λa k b g z=>?_⟩
  ·rcases aV.mp z with z|z
   ·exact f n z rfl
   ·have:n=S.length:=by simpa using z
    lia
  ·have j:b=S.length:=by simpa using g
   have:=h.rows.lt a k
   lia
def Tab.nil{n:Nat}(h:iI S n=some []):Tab S n [] []:=⟨h,trivial,by simp⟩
theorem BZ{s:Src}{g:Tg}{e:Ex}{T:ad->Prop}(P:Nat->iK->Prop)(it:Nat->A)(f:Nat->A)
  (J:∀i S,i<s.k->P i S->s.get i S=some (it i)) (hfin:∀S,P s.k S->s.fin S=true)
  (step:∀i τ S,i<s.k->T τ->P i S->∃τ1 S1 S3,g (it i) τ S=.ok τ1 S1/\T τ1/\e τ1 S1=.ok (f i) S3/\P (i+1) S3) :
  ∀k i τ S,k+i=s.k->T τ->P i S->∃S',jt s g lX e k i τ S=.ok ((List.range' i k).map f) S'/\P s.k S'
 | 0,i,τ,S,hk,hT,hP=>by
  have:i=s.k:=()
  subst this;exact⟨S,by unfold jt;rw[aN<|hfin S hP];rfl,hP⟩
 | k+1,i,τ,S,hk,hT,hP=>by
  obtain⟨τ1,S1,S3,hg,j,m,d⟩:=step i τ S () hT hP;obtain⟨S',h1,p⟩:=BZ P it f J hfin step k (i+1) τ1 S3 () j d;refine⟨S',?_,p⟩;unfold jt;rw[J i S () hP,iZ,hg,R.i9];show(e τ1 S1).jD _=_;rw[m,R.i9,h1];rfl
theorem qJ{s:Src}{g:Tg}{e:Ex}{T:ad->Prop}(P:Nat->ad->iK->Prop)
  (step:∀i acc τ S,i<s.k->T τ->P i acc S->∃x τ1 S1 y S3,s.get i S=some x/\g x τ S=.ok τ1 S1/\T τ1/\e τ1 S1=.ok y S3/\P (i+1) (acc++[y]) S3) (J:∀acc S,P s.k acc S->s.fin S=true) :
  ∀k i acc τ S,k+i=s.k->T τ->P i acc S->∃ys S',jt s g lX e k i τ S=.ok ys S'/\P s.k (acc++ys) S'
 | 0,i,acc,τ,S,hk,hT,hP=>by
  have:i=s.k:=()
  subst this;exact⟨[],S,by unfold jt;rw[aN<|J acc S hP],by rw[bJ];exact hP⟩
 | k+1,i,acc,τ,S,hk,hT,hP=>by
  obtain⟨x,τ1,S1,y,S3,p,hg,f,m,d⟩:=step i acc τ S () hT hP;obtain⟨ys,S',h1,j⟩:=qJ P step J k (i+1) (acc++[y]) τ1 S3 () f d;refine⟨y::ys,S',?_,by rw[br]at j;exact j⟩;unfold jt;rw[p,iZ,hg,R.i9];show(e τ1 S1).jD _=_;rw[m,R.i9,h1];rfl
def D8{src:Ic}{S:iK}{n:Nat}{J:ag}{T:List<|ae}(h:Tab S n J T)(hs:src τ S=.ok (jq n (J.map A.ref).length) S)(hl:T.length<=16777216) :
  ∃(qs:ag) (m:Nat) (S':iK),jH (none::cap) src (jj 0) lX (ja (f1 kX)<|iJ (iH 0) iU) τ S=.ok (.ref m) S'/\Tab S' m qs T/\kC S S'/\∀r∈m::qs,S.length<=r:=by
 have f:=h.len;rw[aG]at hs;obtain⟨S',h1,G,F,B⟩:=BZ (s:=jq n J.length) (g:=jj 0) (e:=ja (f1 kX)<|iJ (iH 0) iU) (T:=λp=>∃y,p=y::mG cap τ)
  (λi S1=>kC S S1/\S1.length=S.length+i/\∀j,j<i->iI S1 (S.length+j)=some ((T.getD j []).map .int)) (λi=>.ref<|J.getD i 0) (λi=>.ref<|S.length+i)
  (λi S1 hi h9=>by
   obtain⟨k,_,_⟩:=h9;have hi:i<J.length:=hi;show(iI S1 n).bind _=_;rw[k.lst n _ (λz=>z) h.top,bB,aR,aE hi,aF,aE hi];rfl)
  (λS1 h9=>by
   obtain⟨k,_,_⟩:=h9;show(match iI S1 n with
    | some ys=>decide (ys.length<=J.length)
    | none=>false)=true
   rw[k.lst n _ (λz=>z) h.top];simp)
  (λi p S1 hi ⟨y,hy⟩ ⟨k,d,C⟩=>by
   have hi:i<J.length:=hi;subst hy;have e1:iI S1 (J.getD i 0)=some ((T.getD i []).map .int):=k.lst _ _ (λz=>z) (h.rows.get<|by rw[aF,aE hi];rfl).2;refine⟨.ref (J.getD i 0)::mG cap τ,S1,S1++[.lst<|(T.getD i []).map .int],rfl,⟨_,rfl⟩,?_,k.lay,by rw[aL,d];rfl,λj q=>?_⟩
   ·dsimp[ji,bools,e1,<- d]
   ·by_cases z:j<i
    ·exact jE (C j z)
    ·have:j=i:=()
     subst this;rw[<- d];exact iY)
  J.length 0 (mG (none::cap) τ) S rfl ⟨_,rfl⟩ ⟨Kp.refl,rfl,λj q=>absurd q<|cK _⟩
 have F:S'.length=S.length+J.length:=F;have B:∀j,j<J.length->iI S' (S.length+j)=some ((T.getD j []).map .int):=B;refine⟨(List.range' 0 J.length).map (S.length+·),S'.length,S'++[.lst<|((List.range' 0 J.length).map (S.length+·)).map .ref],?_,⟨iY,Rows.mk (by simp[f]) λi hi=>?_,?_⟩,G.lay,λr C=>?_⟩
 ·unfold jH;rw[hs,R.jv];show R.jD (jt (jq n J.length) (jj 0) lX _ J.length 0 (mG (none::cap) τ) S) _=_;rw[h1,R.i9,ju<|by simp;lia,cX];rfl
 ·refine jE ?_;have:((List.range' 0 J.length).map (S.length+·)).getD i 0=S.length+i:=by
   rw[aF,aR,List.getElem?_range' ()];simp
  rw[this];exact B i ()
 ·rw[bL];refine⟨λz=>?_,?_⟩
  ·obtain⟨j,q,e⟩:=bU.mp z;have:=List.mem_range'.mp q
   lia
  ·rw[List.nodup_iff_pairwise_ne,ee];exact(List.nodup_range' (step:=1)).imp λh z=>h ()
 ·rcases aY.mp C with z|z
  ·rw[z];lia
  ·obtain⟨j,q,e⟩:=bU.mp z
   lia
def AU{n:Nat}:(List.range n).filter (λ_=>true)=List.range n:=List.filter_eq_self.mpr λ_ _=>rfl
def DG{src:Ic}{S:iK}{n:Nat}{J:ag}{T:List<|ae}(h:Tab S n J T)(hs:src τ S=.ok (jq n (J.map A.ref).length) S)(hl:T.length<=1000000) :
  jH (none::cap) src (jj 0) lX (ja (f1 nv)<|iJ (iH 0) iU) τ S=.ok (.ref S.length) (S++[.lst<|(T.map λr=>(r.length:Int)).map .int]):=by
 have d:=h.len;rw[aG]at hs;rw[D7 (s:=jq n J.length) hs (λi=>.ref<|J.getD i 0) (λ_=>true) (λi=>.int ((T.getD i []).length:Int)) (λi hi=>by
   have hi:i<J.length:=hi;show(iI S n).bind _=_;rw[h.top,bB,aR,aE hi,aF,aE hi];rfl) (by
   show(match iI S n with
    | some ys=>decide (ys.length<=J.length)
    | none=>false)=true
   rw[h.top];simp) (λ_ _=>rfl) (λi hi _=>by
   have hi:i<J.length:=hi;have e1:iI S (J.getD i 0)=some ((T.getD i []).map .int):=(h.rows.get<|by rw[aF,aE hi];rfl).2;dsimp[ji,bools,e1,aG])<|by show J.length<=_;lia]
 show R.ok (A.ref S.length) (S++[O.lst<|List.map _<|List.filter (λ_=>true)<|List.range J.length])=_;have f:(List.range J.length).map (λi=>A.int ((T.getD i []).length:Int))=(T.map λr=>(r.length:Int)).map .int:=by
  rw[d,cX];refine List.ext_getElem (by rw[aG,aG,cF]) λi h1 g=>?_;have hi:i<T.length:=by rw[aG]at g;exact g
  rw[eL,eL,eW,aF,aE hi];rfl
 rw[AU,<- f]
def Bh{a:Nat}{xs ys:ae}(h:iI S a=some (xs.map .int))(h':iI S b=some (ys.map .int)):o_ S 12 (.ref a) (.ref b)=some (decide<|xs=ys):=by
 show(iI S a).bind (λxs=>(iI S b).bind λys=>pZ (o_ S 11) xs ys)=_;rw[h,bB,h',bB];exact rO xs ys
def getD_at{r:ae}{k:Nat}(h:k<r.length):r[k]?=some (r.getD k 0):=by rw[aF,aE h];rfl
def Gf{r:ae}{i:Int}{k:Nat}(h:i=k)(J:k<r.length):mL (r.map A.int) i=some (.int<|r.getD k 0):=xV h<|getD_at J
end Am
namespace Kn
open Tb (fg put)
theorem uB:∀{A B:ae}{x:Int},(∀a∈A,a<=x)->(∀b∈B,x<b)->fg (A++B) x=A.length
 | [],[],_,_,_=>rfl
 | [],b::B,x,_,hB=>by
  have:=hB b<|aK ..;unfold Tb.fg;simp[List.findIdx_cons,this]
 | a::A,B,x,hA,hB=>by
  have h:=hA a<|aK ..;have d:=uB (A:=A) (B:=B) (x:=x) (λc hc=>hA c<|aJ _ hc) hB;unfold Tb.fg at d ⊢;rw[cZ,List.findIdx_cons,aZ ()];simp[d]
def LW{A:ae}{x:Int}(J:∀a∈A,a<=x):put (A::T) x=(A++[x])::T:=by
 refine Tb.lO ?_;have:=uB (A:=A) (B:=[]) (x:=x) J (λb d=>absurd d<|by simp)
 rwa [bJ]at this
def LY{A B:ae}{x b:Int}(J:∀a∈A,a<=x)(hb:x<b)(hB:∀c∈B,x<c):put ((A++b::B)::T) x=(A++x::B)::put T b:=by
 have e:=uB (A:=A) (B:=b::B) (x:=x) J (λc hc=>by
  rcases aY.mp hc with rfl|z
  ·exact hb
  ·exact hB c z)
 rw[Tb.n5<|by rw[e];simp,e];simp[aF]
theorem cut(x:Int):∀{R:ae},R.Pairwise (·<=·)->∃A B,R=A++B/\(∀a∈A,a<=x)/\∀b∈B,x<b
 | [],_=>⟨[],[],rfl,λa d=>absurd d<|by simp,λa d=>absurd d<|by simp⟩
 | r::R,h=>by
  rw[bA]at h;by_cases c:r<=x
  ·obtain⟨A,B,rfl,f,j⟩:=cut x h.2;refine⟨r::A,B,rfl,λa d=>?_,j⟩
   rcases aY.mp d with rfl|z
   ·exact c
   ·exact f a z
  ·refine⟨[],r::R,rfl,λa d=>absurd d<|by simp,λb g=>?_⟩
   rcases aY.mp g with rfl|z
   ·lia
   ·have:=h.1 b z;lia
inductive Mv:ae->ae->Prop
 | one (x y z:Int) (h:x<=y) (h':y<z):Mv [x,z,y] [z,x,y]
 | two (x y z:Int) (h:x<y) (h':y<=z):Mv [y,x,z] [y,z,x]
abbrev J4 (T:List<|ae):Prop:=∀R∈T,R.Pairwise (·<=·)
def le_app{A B:ae}{x:Int}(h1:∀a∈A,a<=x)(J:∀b∈B,b<=x):∀a∈A++B,a<=x:=λa d=>(aV.mp d).elim (h1 a)<|J a
def jf{B:ae}{b x:Int}(h1:b<=x)(J:∀b∈B,b<=x):∀a∈b::B,a<=x:=λa d=>(aY.mp d).elim (λz=>z ▸ h1)<|J a
def nR{A B:ae}{x:Int}(h1:∀a∈A,x<a)(J:∀b∈B,x<b):∀a∈A++B,x<a:=λa d=>(aV.mp d).elim (h1 a)<|J a
def kO{B:ae}{b x:Int}(h1:x<b)(J:∀b∈B,x<b):∀a∈b::B,x<a:=λa d=>(aY.mp d).elim (λz=>z ▸ h1)<|J a
def le_nil{x:Int}:∀a∈([]:ae),a<=x:=λa d=>absurd d<|by simp
def kI{x:Int}:∀a∈([]:ae),x<a:=λa d=>absurd d<|by simp
def zk{A:ae}{x y:Int}(h:∀a∈A,a<=x)(k:x<=y):∀a∈A,a<=y:=λa d=>by have:=h a d;lia
def sJ{A:ae}{x y:Int}(h:∀a∈A,y<a)(k:x<=y):∀a∈A,x<a:=λa d=>by have:=h a d;lia
def pe{L:ae}{R:ae}{x:Int}(e:R=L)(J:∀a∈L,a<=x)(e':R'=L++[x]):put (R::T) x=R'::T:=by rw[e,e',LW J]
def pb{L M R:ae}{x b:Int}(e:R=L++b::M)(J:∀a∈L,a<=x)(hb:x<b)(hM:∀c∈M,x<c)(e':R'=L++x::M):put (R::T) x=R'::put T b:=by rw[e,e',LY J hb hM]
def ID(J:∀w w',Mv w w'->w.foldl put T=w'.foldl put T){x y z:Int}(h:x<y)(h':y<=z):put (put (put T y) x) z=put (put (put T y) z) x:=J _ _<|.two x y z h h'
def N6(J:∀w w',Mv w w'->w.foldl put T=w'.foldl put T){x y z:Int}(h:x<=y)(h':y<z):put (put (put T x) z) y=put (put (put T z) x) y:=J _ _<|.one x y z h h'
def JN{R:ae}(hR:R.Pairwise (·<=·))(ih:∀w w',Mv w w'->w.foldl put T=w'.foldl put T){x y z:Int}(h:x<y)(h':y<=z):put (put (put (R::T) y) x) z=put (put (put (R::T) y) z) x:=by
 obtain⟨A0,E,rfl,K,hE⟩:=cut y hR;obtain⟨h1,Y,_⟩:=bx.mp hR;obtain⟨A,B,rfl,m,V⟩:=cut x h1;have O:∀b∈B,b<=y:=λb G=>K b<|bh _ G;have hAy:=zk m (show x<=y by lia);have g:=zk m (show x<=z by lia);have p:=zk O h'
 cases E with
 | nil=>
  rw[pe (R':=A++B++[y]) (bJ _) K rfl]
  cases B with
  | nil=>
   rw[pb (L:=A) (M:=[]) (b:=y) (R':=A++[x]) (by simp) m h kI rfl,pe (R':=A++[x]++[z]) rfl (le_app g<|jf () le_nil) rfl,
    pe (R:=A++[]++[y]) (R':=A++[y]++[z]) (L:=A++[y]) (by simp) (le_app g<|jf h' le_nil) rfl,pb (L:=A) (M:=[z]) (b:=y) (R':=A++[x]++[z]) (by simp) m h (kO () kI)<|by simp]
  | cons b B=>
   have G:=V b<|aK ..;have k:∀c∈B,x<c:=λc hc=>V c<|aJ _ hc;have j:∀c∈B,c<=z:=λc hc=>p c<|aJ _ hc;rw[pb (L:=A) (M:=B++[y]) (b:=b) (R':=A++x::(B++[y])) (by simp) m G (nR k<|kO h kI) rfl,
    pe (R':=A++x::(B++[y])++[z]) rfl (le_app g<|jf ()<|le_app j<|jf h' le_nil) rfl,
    pe (R:=A++b::B++[y]) (R':=A++b::B++[y]++[z]) rfl (le_app (le_app g p)<|jf h' le_nil) rfl,
    pb (L:=A) (M:=B++[y]++[z]) (b:=b) (R':=A++x::(B++[y])++[z]) (by simp) m G (nR (nR k<|kO h kI)<|kO () kI) (by simp)]
 | cons e E=>
  have he:=hE e<|aK ..;have P:∀c∈E,y<c:=λc hc=>hE c<|aJ _ hc;rw[bA]at Y;obtain⟨C,D,rfl,hC,hD⟩:=cut z Y.2;have q:∀c∈C++D,x<c:=λc hc=>by have:=P c hc;lia
  rw[pb (L:=A++B) (M:=C++D) (b:=e) (R':=A++B++y::(C++D)) rfl K he P rfl];obtain⟨f,X,hf,U,ex,ez⟩:∃(f:Int) (X:ae),f<e/\(∀a∈X++C,a<=z)/\(∀T,put ((A++B++y::(C++D))::T) x=(X++(C++D))::put T f)/\∀(N:ae) T,(∀c∈N,x<c)->put ((A++B++y::N)::T) x=(X++N)::put T f:=by
   cases B with
   | nil=>
    refine⟨y,A++[x],he,le_app (le_app g<|jf () le_nil) hC,λT=>?_,λN T Z=>?_⟩
    ·exact pb (L:=A) (M:=C++D) (b:=y) (by simp) m h q (by simp)
    ·exact pb (L:=A) (M:=N) (b:=y) (by simp) m h Z<|by simp
   | cons b B=>
    have G:=V b<|aK ..;have k:∀c∈B,x<c:=λc hc=>V c<|aJ _ hc;have hby:=O b<|aK ..;have j:∀c∈B,c<=z:=λc hc=>p c<|aJ _ hc;refine⟨b,A++x::(B++[y]),(),le_app (le_app g<|jf ()<|le_app j<|jf h' le_nil) hC,λT=>?_,λN T Z=>?_⟩
    ·exact pb (L:=A) (M:=B++y::(C++D)) (b:=b) (by simp) m G (nR k<|kO h q) (by simp)
    ·exact pb (L:=A) (M:=B++y::N) (b:=b) (by simp) m G (nR k<|kO h Z)<|by simp
  have F:∀a∈A++B++y::C,a<=z:=le_app (le_app g p)<|jf h' hC;rw[ex]
  cases D with
  | nil=>
   rw[pe (L:=X++C) (R':=X++(C++[z])) (by simp) U<|by simp,pe (L:=A++B++y::C) (R:=A++B++y::(C++[])) (R':=A++B++y::(C++[z])) (by simp) F<|by simp,
    ez _ _ (λc hc=>by
     rcases aV.mp hc with w|w
     ·exact q c (cY _ w)
     ·rw[show c=z by simpa using w];lia)]
  | cons d D=>
   have hd:=hD d<|aK ..;have J:∀c∈D,z<c:=λc hc=>hD c<|aJ _ hc;have W:e<=d:=Y.1 d (by simp);rw[pb (L:=X++C) (M:=D) (b:=d) (R':=X++(C++z::D)) (by simp) U hd J<|by simp,pb (L:=A++B++y::C) (R:=A++B++y::(C++d::D)) (M:=D) (b:=d) (R':=A++B++y::(C++z::D)) (by simp) F hd J<|by simp,
    ez _ _ (nR (λc hc=>q c<|cY _ hc)<|kO ()<|sJ J ()),ID ih hf W]
def JT{R:ae}(hR:R.Pairwise (·<=·))(ih:∀w w',Mv w w'->w.foldl put T=w'.foldl put T){x y z:Int}(h:x<=y)(h':y<z):put (put (put (R::T) x) z) y=put (put (put (R::T) z) x) y:=by
 obtain⟨A,G,rfl,J,hG⟩:=cut x hR;obtain⟨_,h2,_⟩:=bx.mp hR;obtain⟨C,D,rfl,hC,W⟩:=cut z h2;have q:x<z:=()
 have m:=zk J h;have k:=zk J (show x<=z by lia);obtain⟨g1,g2,g3⟩:=bx.mp h2
 cases C with
 | nil=>
  cases D with
  | nil=>
   rw[pe (L:=A) (R':=A++[x]) (by simp) J rfl,pe (L:=A++[x]) (R':=A++[x]++[z]) rfl (le_app k<|jf () le_nil) rfl,pb (L:=A++[x]) (M:=[]) (b:=z) (R':=A++[x]++[y]) rfl (le_app m<|jf h le_nil) h' kI rfl,
    pe (L:=A) (R':=A++[z]) (R:=A++([]++[])) (by simp) k rfl,pb (L:=A) (M:=[]) (b:=z) (R':=A++[x]) rfl J q kI rfl,pe (L:=A++[x]) (R':=A++[x]++[y]) rfl (le_app m<|jf h le_nil) rfl]
  | cons d D=>
   have hd:=W d<|aK ..;have j:∀c∈D,z<c:=λc hc=>W c<|aJ _ hc;rw[pb (L:=A) (M:=D) (b:=d) (R:=A++([]++d::D)) (R':=A++x::D) rfl J () (sJ j ()) rfl];rw[pb (L:=A) (M:=D) (b:=d) (R:=A++([]++d::D)) (R':=A++z::D) rfl k hd j rfl,pb (L:=A) (M:=D) (b:=z) (R':=A++x::D) rfl J q (sJ j ()) rfl]
   cases D with
   | nil=>
    rw[pe (L:=A++[x]) (R':=A++[x]++[z]) rfl (le_app k<|jf () le_nil) rfl,pb (L:=A++[x]) (M:=[]) (b:=z) (R':=A++[x]++[y]) rfl (le_app m<|jf h le_nil) h' kI rfl,
     pe (L:=A++[x]) (R':=A++[x]++[y]) rfl (le_app m<|jf h le_nil) rfl]
   | cons U D=>
    have hd2:=j U<|aK ..;have O:∀c∈D,z<c:=λc hc=>j c<|aJ _ hc;have hdd:d<=U:=(bA.mp g2).1 U<|aK ..;rw[pb (L:=A++[x]) (M:=D) (b:=U) (R':=A++[x]++z::D) (by simp) (le_app k<|jf () le_nil) hd2 O rfl,pb (L:=A++[x]) (M:=D) (b:=z) (R':=A++[x]++y::D) rfl (le_app m<|jf h le_nil) h' (sJ O ()) rfl,
     pb (L:=A++[x]) (M:=D) (b:=U) (R':=A++[x]++y::D) (by simp) (le_app m<|jf h le_nil) () (sJ O ()) rfl,ID ih hd hdd]
 | cons c C=>
  have hc:=hC c<|aK ..;have p:∀a∈C,a<=z:=λa B=>hC a<|aJ _ B;have K:=hG c (by simp);have P:∀a∈C,x<a:=λa B=>hG a (by simp[B]);have hDx:∀a∈D,x<a:=λa B=>hG a (by simp[B]);rw[bA]at g1;obtain⟨F,H,rfl,hF,hH⟩:=cut y g1.2;obtain⟨f,Y,hcf,hfz,V⟩:∃(f:Int) (Y:ae),c<=f/\f<=z/\∀(N:ae) T,(∀a∈N,z<a)->put ((A++x::(F++H++z::N))::T) y=(Y++N)::put T f:=by
   cases H with
   | nil=>exact⟨z,A++x::(F++[y]),hc,gX _,λN T Z=>pb (L:=A++x::F) (M:=N) (b:=z) (by simp) (le_app m<|jf h hF) h' (sJ Z ())<|by simp⟩
   | cons g H=>
    have hg:=hH g<|aK ..;have hH':∀a∈H,y<a:=λa B=>hH a<|aJ _ B;exact⟨g,A++x::(F++y::(H++[z])),g1.1 g<|by simp,p g<|by simp,λN T Z=>pb (L:=A++x::F) (M:=H++z::N) (b:=g) (by simp) (le_app m<|jf h hF) hg (nR hH'<|kO h'<|sJ Z ())<|by simp⟩
  rw[pb (L:=A) (M:=F++H++D) (b:=c) (R':=A++x::(F++H++D)) (by simp) J K (nR P hDx) rfl]
  cases D with
  | nil=>
   rw[pe (L:=A++x::(F++H)) (R':=A++x::(F++H++z::[])) (by simp) (le_app k<|jf () p)<|by simp,V _ _ kI,
    pe (L:=A++c::(F++H)) (R:=A++(c::(F++H)++[])) (R':=A++c::(F++H++z::[])) (by simp) (le_app k<|jf hc p) (by simp),pb (L:=A) (M:=F++H++z::[]) (b:=c) (R':=A++x::(F++H++z::[])) rfl J K (nR P<|kO q kI) rfl,V _ _ kI]
  | cons d D=>
   have hd:=W d<|aK ..;have j:∀a∈D,z<a:=λa B=>W a<|aJ _ B;rw[pb (L:=A++x::(F++H)) (M:=D) (b:=d) (R':=A++x::(F++H++z::D)) (by simp) (le_app k<|jf () p) hd j<|by simp,V _ _ j,
    pb (L:=A++c::(F++H)) (R:=A++(c::(F++H)++d::D)) (M:=D) (b:=d) (R':=A++c::(F++H++z::D)) (by simp) (le_app k<|jf hc p) hd j (by simp),pb (L:=A) (M:=F++H++z::D) (b:=c) (R':=A++x::(F++H++z::D)) rfl J K (nR P<|kO q<|sJ j ()) rfl,V _ _ j,N6 ih hcf ()]
theorem keeps:∀{T:List<|ae}{w w':ae},J4 T->Mv w w'->w.foldl put T=w'.foldl put T
 | [],_,_,_,.one x y z h h'=>by
  show put (put [[x]] z) y=put (put [[z]] x) y;have f:x<z:=()
  rw[pe (L:=[x]) (R':=[x]++[z]) rfl (jf () le_nil) rfl,pb (L:=[x]) (M:=[]) (b:=z) (R':=[x]++[y]) rfl (jf h le_nil) h' kI rfl,
   pb (L:=[]) (M:=[]) (b:=z) (R:=[z]) (R':=[x]) rfl le_nil f kI rfl,pe (L:=[x]) (R':=[x]++[y]) rfl (jf h le_nil) rfl]
 | [],_,_,_,.two x y z h h'=>by
  show put (put [[y]] x) z=put (put [[y]] z) x;rw[pb (L:=[]) (M:=[]) (b:=y) (R:=[y]) (R':=[x]) rfl le_nil h kI rfl,pe (L:=[x]) (R':=[x]++[z]) rfl (jf () le_nil) rfl,
   pe (L:=[y]) (R':=[y]++[z]) rfl (jf h' le_nil) rfl,pb (L:=[]) (M:=[z]) (b:=y) (R:=[y]++[z]) (R':=[x]++[z]) rfl le_nil h (kO () kI) rfl]
 | R::T,_,_,hs,.one x y z h h'=>JT (hs R<|aK ..) (λw w' m=>keeps (λR' d=>hs R'<|aJ _ d) m) h h'
 | R::T,_,_,hs,.two x y z h h'=>JN (hs R<|aK ..) (λw w' m=>keeps (λR' d=>hs R'<|aJ _ d) m) h h'
end Kn
namespace Bl
open L2
end Bl
namespace Iv
open L2 Bl
abbrev inv:ae->Nat
 | []=>0
 | x::l=>l.countP (λy=>decide<|y<x)+inv l
abbrev kZ (a b:ae):Nat:=(a.map λx=>b.countP λy=>decide<|y<x).sum
def qc(x:Int)(a b:ae):kZ (x::a) b=b.countP (λy=>decide<|y<x)+kZ a b:=rfl
theorem jV:∀(a b:ae),inv (a++b)=inv a+inv b+kZ a b
 | [],b=>by show inv b=0+inv b+0;lia
 | x::a,b=>by
  show(a++b).countP _+inv (a++b)=(a.countP _+inv a)+inv b+kZ (x::a) b;rw[List.countP_append,jV a b,qc];lia
theorem qL:∀{a b:ag},a.Perm b->a.sum=b.sum
 | _,_,.nil=>rfl
 | _,_,.cons x h=>by rw[dw,dw,qL h]
 | _,_,.swap x y l=>by rw[dw,dw,dw,dw];lia
 | _,_,.trans h k=>(qL h).trans<|qL k
def JD{a:ae}(b:ae)(h:a.Perm a'):kZ a b=kZ a' b:=qL<|h.map _
def KL(a:ae){b:ae}(h:b.Perm b'):kZ a b=kZ a b':=by
 unfold kZ;congr 1;refine eG λx _=>h.countP_eq _
def xr{M:ae}{x y:Int}(h:∀m∈M,m<x\/y<m)(J:x<y):M.countP (λm=>decide<|m<x)=M.countP (λm=>decide<|m<y):=by
 refine List.countP_congr λm d=>?_;rw[cg,cg]
 rcases h m d with z|z<;>omega
theorem sI:∀{M:ae}{x y:Int},(∀m∈M,m<x\/y<m)->x<y->kZ M [x]=kZ M [y]
 | [],_,_,_,_=>rfl
 | m::M,x,y,h,hxy=>by
  rw[qc,qc,sI (λd f=>h d<|aJ _ f) hxy];congr 1;have:=h m<|aK ..;dsimp[fD,List.countP_nil];by_cases c:x<m
  ·rw[bf c,bf<|show y<m by omega]
  ·rw[aZ c,aZ<|show ¬y<m by omega]
def mid{M:ae}{x y:Int}(h:∀m∈M,m<x\/y<m)(J:x<y):inv ([y]++M++[x])=inv ([x]++M++[y])+1:=by
 rw[jV,jV,jV<|[x]++M,jV [x]];have e1:kZ [y] M=kZ [x] M:=by
  show M.countP _+0=M.countP _+0;rw[xr h J]
 have e2:kZ ([y]++M) [x]=1+kZ M [x]:=by
  show[x].countP _+kZ M [x]=_;rw[fD,bf J];rfl
 have e3:kZ ([x]++M) [y]=kZ M [y]:=by
  show[y].countP _+kZ M [y]=_;rw[fD,aZ (by lia:¬y<x)];simp
 rw[e1,e2,e3,sI h J]
 skip
 lia
def IT(M:ae)(x y:Int):([y]++M++[x]).Perm ([x]++M++[y]):=by
 refine(List.perm_append_comm (l₁:=[y]++M) (l₂:=[x])).trans ?_
 skip
 exact .cons x<|List.perm_append_comm (l₁:=[y]) (l₂:=M)
def step{P M R:ae}{x y:Int}(h:∀m∈M,m<x\/y<m)(J:x<y):inv (P++([y]++M++[x])++R)=inv (P++([x]++M++[y])++R)+1:=by
 have p:=IT M x y;rw[jV,jV P,jV<|P++([x]++M++[y]),jV P,mid h J,KL P p,JD R<|p.append_left P]
 lia
abbrev sw (a:ae)(i j:Nat):ae:=(a.set i<|a.getD j 0).set j<|a.getD i 0
def Of(a:ae)(i j:Nat):(sw a i j).length=a.length:=by unfold sw;rw[bD,bD]
def split{a:ae}(hij:i<j)(hj:j<a.length):∃P M R:ae,a=P++([a.getD i 0]++M++[a.getD j 0])++R/\P=a.take i/\(∀m∈M,∃k,i<k/\k<j/\a[k]?=some m)/\sw a i j=P++([a.getD j 0]++M++[a.getD i 0])++R:=by
 have G:a.getD i 0=a[i]:=by rw[aF,aE ()];rfl
 have N:a.getD j 0=a[j]:=by rw[aF,aE hj];rfl
 obtain⟨M,g⟩:∃M,M=(a.drop<|i+1).take (j-i-1):=⟨_,rfl⟩;have L:M.length=j-i-1:=by rw[g,bG,cL];lia
 have B:a=a.take i++([a.getD i 0]++M++[a.getD j 0])++a.drop (j+1):=by
  have h1:a.drop i=a[i]::a.drop (i+1):=a_ ();have K:a.drop (i+1)=M++a.drop j:=by
   rw[g];have:=cC (j-i-1)<|a.drop<|i+1;rw[List.drop_drop,show i+1+(j-i-1)=j by lia]at this;exact this.symm
  have J:a.drop j=a[j]::a.drop (j+1):=a_ hj
  conv=>lhs;rw[<- cC i a,h1,K,J]
  rw[G,N];simp
 refine⟨a.take i,M,a.drop<|j+1,B,rfl,λm C=>?_,?_⟩
 ·rw[g]at C;obtain⟨k,q⟩:=fy C;have p:k<j-i-1:=by
   have:=(aI.mp q).1;rw[bG]at this;lia
  rw[fK p,gR]at q;exact⟨i+1+k,(),(),q⟩
 ·have z:∀(P R:ae) (x y d f:Int),P.length=i->((P++([x]++M++[y])++R).set i f).set j d=P++([f]++M++[d])++R:=λP R x y d f F=>by
   rw[br,cQ _ _ (),F,c8];show(P++(f::((M++[y])++R))).set j d=_;rw[cQ _ _ (),F,show j-i=(j-i-1)+1 by lia,List.set_cons_succ,br,cQ _ _ (),L,c8];simp
  have:=z (a.take i) (a.drop<|j+1) (a.getD i 0) (a.getD j 0) (a.getD i 0) (a.getD j 0) (by rw[bG];lia);rw[<- B]at this;exact this
def Ce{a:ae}{i:Nat}(h:i<a.length):a[i]?=some (a.getD i 0):=by rw[aF,aE h];rfl
def NL{a:ae}(J:i<j)(hj:j<a.length)(p:Nat):(sw a i j).getD p 0=if p=j then a.getD i 0 else if p=i then a.getD j 0 else a.getD p 0:=by
 unfold sw;rw[aF];by_cases c:p=j
 ·subst c;rw[aN rfl,bF<|by rw[bD];exact hj];rfl
 ·rw[aO c,bz<|eE c];by_cases d:p=i
  ·subst d;rw[aN rfl,bF ()];rfl
  ·rw[aO d,bz<|eE d,<- aF]
end Iv
namespace Stp
open PySem L2 Iv
abbrev mm (a:ae)(i j:Nat):ae:=(a.drop<|i+1).take<|j-i-1
def parts{a:ae}(hij:i<j)(J:j<a.length):a=a.take i++([a.getD i 0]++mm a i j++[a.getD j 0])++a.drop (j+1):=by
 have d:a.getD i 0=a[i]:=by rw[aF,aE ()];rfl
 have k:a.getD j 0=a[j]:=by rw[aF,aE J];rfl
 have h1:a.drop i=a[i]::a.drop (i+1):=a_ ();have g:a.drop (i+1)=mm a i j++a.drop j:=by
  have:=cC (j-i-1)<|a.drop<|i+1;rw[List.drop_drop,show i+1+(j-i-1)=j by lia]at this;exact this.symm
 have f:a.drop j=a[j]::a.drop (j+1):=a_ J
 conv=>lhs;rw[<- cC i a,h1,g,f]
 rw[d,k];simp
def RJ{a:ae}(J:i<j)(hj:j<a.length):sw a i j=a.take i++([a.getD j 0]++mm a i j++[a.getD i 0])++a.drop (j+1):=by
 have m:(mm a i j).length=j-i-1:=by unfold mm;rw[bG,cL];lia
 have g:∀(P R:ae) (x y d f:Int),P.length=i->((P++([x]++mm a i j++[y])++R).set i f).set j d=P++([f]++mm a i j++[d])++R:=λP R x y d f k=>by
  rw[br,cQ _ _ (),k,c8];show(P++(f::((mm a i j++[y])++R))).set j d=_;rw[cQ _ _ (),k,show j-i=(j-i-1)+1 by lia,List.set_cons_succ,br,cQ _ _ (),m,c8];simp
 have:=g (a.take i) (a.drop<|j+1) (a.getD i 0) (a.getD j 0) (a.getD i 0) (a.getD j 0) (by rw[bG];lia);rw[<- parts J hj]at this;exact this
def Q0{a:ae}(J:i<j)(hj:j<a.length):(sw a i j).getD i 0=a.getD j 0:=by
 unfold sw;rw[aF,bz (),bF ()];rfl
def Q9{a:ae}(J:i<j)(hj:j<a.length):(sw a i j).getD j 0=a.getD i 0:=by
 unfold sw;rw[aF,bF<|by rw[bD];exact hj];rfl
def Qa{a:ae}(J:i<j)(hj:j<a.length):sw (sw a i j) i j=a:=by
 have h1:=Q0 J hj;have d:=Q9 J hj;unfold sw at h1 d ⊢;rw[h1,d];apply gW;intro k;by_cases c:k=j
 ·subst c;rw[bF<|by dsimp[bD];exact hj,Iv.Ce hj]
 ·rw[bz ()];by_cases c2:k=i
  ·subst c2;rw[bF<|by dsimp[bD];lia,Iv.Ce ()]
  ·rw[bz (),bz (),bz ()]
end Stp
namespace Mo
open PySem L2 Am Tb
abbrev chg (r:ae)(k:Nat):ae:=Iv.sw r k<|k+1
abbrev lo (r:ae)(k:Nat):Int:=if r.getD (k+1) 0<r.getD k 0 then r.getD (k+1) 0 else r.getD k 0
abbrev hi (r:ae)(k:Nat):Int:=if r.getD (k+1) 0>r.getD k 0 then r.getD (k+1) 0 else r.getD k 0
abbrev c1 (r:ae)(k:Nat):Bool:=decide (k+2<r.length) && (decide (lo r k<=r.getD (k+2) 0) && decide (r.getD (k+2) 0<hi r k))
abbrev c2 (r:ae)(k:Nat):Bool:=decide (0<k) && (decide (lo r k<r.getD (k-1) 0) && decide (r.getD (k-1) 0<=hi r k))
abbrev may (r:ae)(k:Nat):Bool:=c1 r k || c2 r k
abbrev qW (r:ae):List (ae):=((List.range<|r.length-1).filter<|may r).map<|chg r
abbrev lA (r:ae)(k:Nat):Bool:=(decide (r.getD k 0<=r.getD (k+2) 0) && decide (r.getD (k+2) 0<r.getD (k+1) 0)) || (decide (r.getD (k+1) 0<=r.getD (k+2) 0) && decide (r.getD (k+2) 0<r.getD k 0))
abbrev lB (r:ae)(k:Nat):Bool:=(decide (r.getD (k+1) 0<r.getD k 0) && decide (r.getD k 0<=r.getD (k+2) 0)) || (decide (r.getD (k+2) 0<r.getD k 0) && decide (r.getD k 0<=r.getD (k+1) 0))
abbrev J3 (r:ae)(k:Nat):List (ae):=(if lA r k=true then[chg r k]else[])++(if lB r k=true then[chg r<|k+1]else[])
abbrev P0 (r:ae):List (ae):=(List.range<|r.length-2).flatMap<|J3 r
def yd{r:ae}{k:Nat}(h:k+1<r.length):chg r k=r.take k++[r.getD (k+1) 0,r.getD k 0]++r.drop (k+2):=by
 unfold chg;rw[Stp.RJ () h];unfold Stp.mm;rw[show k+1-k-1=0 by lia,bX];rfl
def yr(r:ae)(k:Nat):(chg r k).length=r.length:=Iv.Of ..
def rY{r:ae}{k:Nat}(h:k+1<r.length)(p:Nat):(chg r k).getD p 0=if p=k+1 then r.getD k 0 else if p=k then r.getD (k+1) 0 else r.getD p 0:=Iv.NL () h p
def KG{r:ae}{k:Nat}(h:k+1<r.length):chg (chg r k) k=r:=Stp.Qa () h
def Q2{r:ae}{k:Nat}(h:k+1<r.length):lo (chg r k) k=lo r k/\hi (chg r k) k=hi r k:=by
 have e1:(chg r k).getD (k+1) 0=r.getD k 0:=by rw[rY h,aN rfl]
 have e2:(chg r k).getD k 0=r.getD (k+1) 0:=by rw[rY h,aO (),aN rfl]
 unfold lo hi;rw[e1,e2];constructor
 ·by_cases a:r.getD (k+1) 0<r.getD k 0
  ·rw[aN a,aO ()]
  ·rw[aO a];split<;>lia
 ·by_cases a:r.getD (k+1) 0>r.getD k 0
  ·rw[aN a,aO ()]
  ·rw[aO a];split<;>lia
def JS{r:ae}{k:Nat}(h:k+1<r.length):may (chg r k) k=may r k:=by
 obtain⟨e1,e2⟩:=Q2 h;unfold may c1 c2;rw[e1,e2,yr,rY h<|k+2,aO (),aO ()];by_cases c:0<k
 ·rw[rY h<|k-1,aO (),aO ()]
 ·rw[aZ c];simp
def C4{r:ae}{k:Nat}(h:k+2<r.length):c1 r k=lA r k:=by
 unfold c1 lA lo hi;rw[bf h,g9,iA];dsimp[bY,cJ,cg];by_cases a:r.getD (k+1) 0<r.getD k 0
 ·rw[aN a,aO ()];lia
 ·rw[aO a];split<;>lia
def Co{r:ae}{k:Nat}:c2 r (k+1)=lB r k:=by
 unfold c2 lB lo hi;rw[bf (),g9,iA,show k+1-1=k by lia,show k+1+1=k+2 by lia];dsimp[bY,cJ,cg];by_cases a:r.getD (k+2) 0<r.getD (k+1) 0
 ·rw[aN a,aO ()];lia
 ·rw[aO a];split<;>lia
def qy{r x:ae}:x∈qW r ↔ ∃k,k+1<r.length/\may r k=true/\x=chg r k:=by
 unfold qW;rw[bU];constructor
 ·rintro⟨k,f,rfl⟩;obtain⟨h1,d⟩:=dZ.mp f;have:=bW.mp h1;exact⟨k,(),d,rfl⟩
 ·rintro⟨k,h1,d,rfl⟩;exact⟨k,dZ.mpr ⟨bW.mpr (),d⟩,rfl⟩
def both{r x:ae}:x∈qW r ↔ x∈P0 r:=by
 rw[qy];unfold P0;rw[iu];constructor
 ·rintro⟨k,h1,d,rfl⟩
  rcases cJ _ _ ▸ (show(c1 r k || c2 r k)=true from d)with z|z
  ·have f:k+2<r.length:=by
    unfold c1 at z;exact bZ (bY _ _ ▸ z).1
   refine⟨k,bW.mpr (),?_⟩;unfold J3;rw[<- C4 f,z];exact cY _<|by simp
  ·have f:0<k:=by
    unfold c2 at z;exact bZ (bY _ _ ▸ z).1
   obtain⟨m,rfl⟩:∃m,k=m+1:=⟨k-1,()⟩;refine⟨m,bW.mpr (),?_⟩;unfold J3;rw[<- Co,z];exact bh _<|by simp
 ·rintro⟨k,h1,d⟩;have f:=bW.mp h1;unfold J3 at d
  rcases aV.mp d with z|z
  ·by_cases c:lA r k=true
   ·rw[aN c]at z;exact⟨k,(),by unfold may;rw[C4 (),c];rfl,aP.mp z⟩
   ·rw[aO c]at z;cases z
  ·by_cases c:lB r k=true
   ·rw[aN c]at z;exact⟨k+1,(),by unfold may;rw[Co,c,Bool.or_true],aP.mp z⟩
   ·rw[aO c]at z;cases z
def Mt{r:ae}{k:Nat}(h:may r k=true):r.getD k 0≠r.getD (k+1) 0:=λz=>by
 unfold may c1 c2 lo hi at h;rw[<- z]at h;dsimp[cJ,bY,cg,gt_iff_lt,Int.lt_irrefl,cR]at h
 lia
def ND(r:ae):(qW r).Nodup:=by
 unfold qW List.Nodup;rw[ee];have:=(gB (n:=r.length-1)).sublist<|fH (p:=may r);refine fO ?_<|(gf (n:=r.length-1)).sublist<|fH (p:=may r);intro a b k g j z;obtain⟨f,m⟩:=dZ.mp k;obtain⟨d,q⟩:=dZ.mp g;have f:=bW.mp f;have d:=bW.mp d;have e:(chg r a).getD a 0=(chg r b).getD a 0:=by rw[z]
 rw[rY (),aO (),aN rfl,rY (),aO (),aO ()]at e;exact Mt m e.symm
def back{r x:ae}(h:x∈qW r):x.length=r.length/\r∈qW x:=by
 obtain⟨k,h1,d,rfl⟩:=qy.mp h;refine⟨yr r k,qy.mpr ⟨k,by rw[yr];exact h1,by rw[JS h1];exact d,(KG h1).symm⟩⟩
theorem B9:∀{T:List<|ae}{x:Int},Kn.J4 T->Kn.J4 (put T x)
 | [],x,_=>λR f=>by
  have:R=[x]:=aP.mp f;rw[this];exact bM ..
 | R::T,x,h=>by
  have f:=h R<|aK ..;have m:Kn.J4 T:=λQ d=>h Q<|aJ _ d;obtain⟨L,B,e,g,k⟩:=Kn.cut x f
  cases B with
  | nil=>
   rw[bJ]at e;subst e;rw[Kn.LW g];intro Q d
   rcases aY.mp d with rfl|z
   ·rw[bx];exact⟨f,bM ..,λa j b q=>by rw[aP.mp q];exact g a j⟩
   ·exact m Q z
  | cons b B=>
   subst e;rw[Kn.LY g (k b<|aK ..) λc hc=>k c<|aJ _ hc];intro Q d
   rcases aY.mp d with rfl|z
   ·have p:=bx.mp f;rw[bx];refine⟨p.1,bA.mpr ⟨λc hc=>?_,(bA.mp p.2.1).2⟩,λa j c hc=>?_⟩
    ·have:=k c<|aJ _ hc;lia
    ·rcases aY.mp hc with rfl|z
     ·exact g a j
     ·exact p.2.2 a j c<|aJ _ z
   ·exact B9 m Q z
theorem uJ:∀{w:ae}{T:List<|ae},Kn.J4 T->Kn.J4 (w.foldl put T)
 | [],_,h=>h
 | x::w,_,h=>uJ (w:=w)<|B9 h
def CW{P R:ae}(h:Kn.Mv P Q\/Kn.Mv Q P):(R++P++S).foldl put []=(R++Q++S).foldl put []:=by
 rw[cV,cV,cV,cV];have s:Kn.J4 (R.foldl put []):=uJ λ_ h=>absurd h (by simp)
 rcases h with h|h
 ·rw[Kn.keeps s h]
 ·rw[Kn.keeps s h]
def Ey{r:ae}{k:Nat}(h:k+2<r.length):r=r.take k++[r.getD k 0,r.getD (k+1) 0,r.getD (k+2) 0]++r.drop (k+3):=by
 have e:∀i,i<r.length->r.drop i=r.getD i 0::r.drop (i+1):=λi hi=>by
  rw[a_ hi,aF,aE hi];rfl
 conv=>lhs;rw[<- cC k r,e k (),e (k+1) (),e (k+2) ()]
 simp
def tab{r:ae}{k:Nat}(h:k+1<r.length)(J:may r k=true):(chg r k).foldl put []=r.foldl put []:=by
 have j:∀{i:Nat},i<r.length->r.drop i=r.getD i 0::r.drop (i+1):=λ{i} hi=>by
  rw[a_ hi,aF,aE hi];rfl
 rcases cJ _ _ ▸ (show(c1 r k || c2 r k)=true from J)with z|z
 ·have g:k+2<r.length:=by
   unfold c1 at z;exact bZ (bY _ _ ▸ z).1
  rw[C4 g]at z;have e1:=Ey g;have e2:chg r k=r.take k++[r.getD (k+1) 0,r.getD k 0,r.getD (k+2) 0]++r.drop (k+3):=by
   rw[yd h,j g];simp
  rw[e2]
  conv=>rhs;rw[e1]
  refine CW ?_;unfold lA at z;dsimp[cJ,bY,cg]at z
  rcases z with⟨f,d⟩|⟨f,d⟩
  ·exact .inr (.one _ _ _ f d)
  ·exact .inl<|.one _ _ _ f d
 ·have g:0<k:=by
   unfold c2 at z;exact bZ (bY _ _ ▸ z).1
  obtain⟨m,rfl⟩:∃m,k=m+1:=⟨k-1,()⟩;rw[Co]at z;have e1:=Ey (r:=r) (k:=m) ();have e2:chg r (m+1)=r.take m++[r.getD m 0,r.getD (m+2) 0,r.getD (m+1) 0]++r.drop (m+3):=by
   rw[yd h];have:r.take (m+1)=r.take m++[r.getD m 0]:=by
    rw[bV<|show m<r.length by lia,aF,aE<|show m<r.length by lia];rfl
   rw[this];simp
  rw[e2]
  conv=>rhs;rw[e1]
  refine CW ?_;unfold lB at z;dsimp[cJ,bY,cg]at z
  rcases z with⟨f,d⟩|⟨f,d⟩
  ·exact .inr (.two _ _ _ f d)
  ·exact .inl<|.two _ _ _ f d
theorem kL(xs:ae):∀i,i<=xs.length->(tabs xs i).1=(xs.take i).foldl put []
 | 0,_=>rfl
 | i+1,h=>by
  have d:=kL xs i ();rw[bV<|show i<xs.length by lia,cV,<- d];show put (tabs xs i).1 (xs.getD i 0)=put (tabs xs i).1 xs[i];rw[aF,aE<|show i<xs.length by lia];rfl
abbrev dd:List (ae)->List (ae)->List (ae)
 | acc,[]=>acc
 | acc,x::xs=>dd (if x∈acc then acc else acc++[x]) xs
theorem BK:∀(xs:List<|ae) (acc:List<|ae) (x:ae),dd acc (xs++[x])=if x∈dd acc xs then dd acc xs else dd acc xs++[x]
 | [],acc,x=>rfl
 | y::xs,acc,x=>BK xs _ x
theorem CS:∀{xs acc:List<|ae},xs.Pairwise yP->acc.Pairwise (λa b=>HT.lexLt a b=true)->(∀a∈acc,∀x∈xs,yP a x)->(dd acc xs).Pairwise (λa b=>HT.lexLt a b=true)/\∀z,z∈dd acc xs ↔ z∈acc\/z∈xs
 | [],acc,_,h,_=>⟨h,λz=>by show z∈acc ↔ _;simp⟩
 | x::xs,acc,hx,h,hle=>by
  obtain⟨m,k⟩:=bA.mp hx;show(dd (if x∈acc then acc else acc++[x]) xs).Pairwise _/\∀z,z∈dd (if x∈acc then acc else acc++[x]) xs ↔ _;by_cases c:x∈acc
  ·rw[aN c];obtain⟨g,j⟩:=CS k h λa f y hy=>hle a f y<|aJ _ hy;refine⟨g,λz=>?_⟩;rw[j z,aY];constructor
   ·rintro(d|d)
    ·exact .inl d
    ·exact .inr<|.inr d
   ·rintro(d|d|d)
    ·exact .inl d
    ·exact .inl (d ▸ c)
    ·exact .inr d
  ·rw[aO c];obtain⟨g,j⟩:=CS (acc:=acc++[x]) k (bx.mpr ⟨h,bM ..,λa f b p=>by
    rw[aP.mp p]
    cases e:HT.lexLt a x with
    | true=>rfl
    | false=>exact absurd (Sx.qp e (hle a f x<|aK ..) ▸ f) c⟩) λa f y hy=>by
     rcases aV.mp f with z|z
     ·exact hle a z y (aJ _ hy)
     ·rw[aP.mp z];exact m y hy
   refine⟨g,λz=>?_⟩;rw[j z,aV,aP,aY,or_assoc]
def due(r:ae):dd [] (kg<|P0 r)=kg (qW r):=by
 obtain⟨p1,p2⟩:=CS (acc:=[]) (uZ<|P0 r) List.Pairwise.nil λa d=>absurd d (by simp);have f:(dd []<|kg<|P0 r).Nodup:=p1.imp λh z=>by rw[z,Sx.oM]at h;cases h
 refine qh ((dY f<|ND r).mpr λz=>?_) (p1.imp λ{a b} h=>?_)
 ·rw[p2 z,(kK _).mem_iff,both];simp
 ·show HT.lexLt b a=false
  cases e:HT.lexLt b a with
  | false=>rfl
  | true=>have:=Sx.rz h e;rw[Sx.oM]at this;cases this
end Mo
namespace Sy
open Tb
abbrev Eu (r:ae):Prop:=r.Pairwise (·<=·)
abbrev Fits (u r:ae):Prop:=u.length<=r.length/\∀(j:Nat) (x y:Int),r[j]?=some x->u[j]?=some y->x<y
abbrev o6:List (ae)->Prop
 | []=>True
 | r::T=>r≠[]/\Eu r/\(∀u,T.head?=some u->Fits u r)/\o6 T
def oz{r:ae}{x:Int}{j:Nat}{y:Int}(h:j<fg r x)(hy:r[j]?=some y):y<=x:=by
 obtain⟨d,e⟩:=aI.mp hy;have:=dR (xs:=r) (p:=λy=>decide<|x<y) (i:=j) h;rw[<- e];simpa using this
def zc{r:ae}{x y:Int}(hy:r[fg r x]?=some y):x<y:=by
 obtain⟨d,e⟩:=aI.mp hy;have:=eg (xs:=r) (p:=λy=>decide<|x<y) (w:=d);rw[<- e];exact bZ this
def EF{r:ae}{x y:Int}{p:Nat}(hy:r[p]?=some y)(h:x<y):fg r x<=p:=by
 rcases fE p (fg r x)with z|z
 ·exact absurd (oz z hy) ()
 ·exact z
abbrev hd (T:List<|ae)(y:Int):ae:=match T with
 | []=>[y]
 | u::_=>if fg u y=u.length then u++[y]else u.set (fg u y) y
def HY(T:List<|ae)(y:Int):(put T y).head?=some (hd T y):=by
 cases T with
 | nil=>rfl
 | cons u T=>
  by_cases h:fg u y=u.length
  ·rw[lO h];show _=some (if _ then _ else _);rw[aN h];rfl
  ·rw[n5 h];show _=some (if _ then _ else _);rw[aO h];rfl
def FJ{r:ae}{T:List<|ae}{p:Nat}{x y:Int}(J:r[p]?=some y)(hxy:x<y)(hb:∀j z,j<p->r[j]?=some z->z<=x)(hf:∀u,T.head?=some u->Fits u r):Fits (hd T y) (r.set p x):=by
 obtain⟨k,B⟩:=aI.mp J;have g:∀(q:Nat) (z:Int),q<=p->(r.set p x)[q]?=some z->z<y:=λq z G d=>by
  rw[gp]at d;by_cases e:p=q
  ·rw[aN e,aN k]at d;have:=aU d;lia
  ·rw[aO e]at d;have:=hb q z () d;lia
 cases T with
 | nil=>
  refine⟨by rw[bD];show 1<=_;lia,λj z w d hw=>?_⟩;have hw:([y]:ae)[j]?=some w:=hw
  cases j with
  | zero=>have:=aU hw;have:=g 0 z (bQ _) d;lia
  | succ j=>simp at hw
 | cons u T=>
  obtain⟨C,hc⟩:=hf u rfl;have F:fg u y<=p:=by
   rcases fE p u.length with z|z
   ·have m:=aE z;exact EF m (hc p y _ J m)
   ·exact bH (Dk u y) z
  have f:∀(j:Nat) (z w:Int),(r.set p x)[j]?=some z->u[j]?=some w->z<w:=λj z w d hw=>by
   rw[gp]at d;by_cases e:p=j
   ·rw[aN e,aN k]at d;have:=aU d;have:=hc p y w J (by rw[e];exact hw)
    lia
   ·rw[aO e]at d;exact hc j z w d hw
  show Fits (if fg u y=u.length then u++[y]else u.set (fg u y) y) (r.set p x);by_cases h:fg u y=u.length
  ·rw[aN h];refine⟨by rw[bD,aL];show u.length+1<=_;lia,λj z w d hw=>?_⟩
   rcases fE j u.length with q|q
   ·rw[bw q]at hw;exact f j z w d hw
   ·rw[b7 q]at hw;have e:j-u.length=0:=by
     rcases Nat.eq_zero_or_pos (j-u.length)with z|z
     ·exact z
     ·rw[cP<|by show([y]:ae).length<=_;exact z]at hw;cases hw
    rw[e]at hw;have:=aU hw;have:=g j z () d
    lia
  ·rw[aO h];refine⟨by rw[bD,bD];exact C,λj z w d hw=>?_⟩;rw[gp]at hw;by_cases e:fg u y=j
   ·rw[aN e,aN<|u9 h]at hw;have:=aU hw;have:=g j z () d
    lia
   ·rw[aO e]at hw;exact f j z w d hw
def EZ{r:ae}{x:Int}(h:Eu r)(J:∀y∈r,y<=x):Eu (r++[x]):=by
 unfold Eu;rw[bx];exact⟨h,by simp,λa f b d=>by rw[aP.mp d];exact J a f⟩
def Kr{r:ae}{x:Int}(h:fg r x=r.length):∀y∈r,y<=x:=λy hy=>by
 obtain⟨j,d,e⟩:=c5.mp hy;exact oz (r:=r) (j:=j) ()<|by rw[aE d,e]
def Jt{r:ae}{x:Int}(h:Eu r)(hf:fg r x≠r.length):Eu (r.set (fg r x) x):=by
 have d:=u9 hf;have k:=zc<|aE d;unfold Eu at h ⊢;rw[cG]at h ⊢;intro i j hi g f;rw[bD]at hi g;rw[List.getElem_set,List.getElem_set];by_cases e1:fg r x=i
 ·rw[aN e1,aO ()];have:=h (fg r x) j d g ()
  lia
 ·rw[aO e1];by_cases e2:fg r x=j
  ·rw[aN e2];exact oz (j:=i) () (aE hi)
  ·rw[aO e2];exact h i j hi g f
theorem yH:∀{T:List<|ae}{x:Int},o6 T->o6 (put T x)
 | [],x,_=>⟨by simp,by show List.Pairwise _ _;simp,(λu h=>by cases h),trivial⟩
 | r::T,x,h=>by
  obtain⟨h1,k,p,q⟩:=h;by_cases hf:fg r x=r.length
  ·rw[lO hf];refine⟨by simp,EZ k<|Kr hf,λu d=>?_,q⟩;obtain⟨F,g2⟩:=p u d;refine⟨by rw[aL];lia,λj a b B g=>?_⟩;have m:=(aI.mp g).1;rw[bw ()]at B;exact g2 j a b B g
  ·rw[n5 hf];have f:=u9 hf;have hy:r[fg r x]?=some (r.getD (fg r x) 0):=by rw[aF,aE f];rfl
   refine⟨λz=>h1<|by simpa using z,Jt k hf,λu d=>?_,yH q⟩;rw[HY]at d;rw[<- aU d];exact FJ hy (zc hy) (λj z m C=>oz m C) p
theorem kL(xs:ae):∀i,i<=xs.length->(tabs xs i).1=(xs.take i).foldl put []
 | 0,_=>rfl
 | i+1,h=>by
  show put (tabs xs i).1 (xs.getD i 0)=_;rw[kL xs i (),bV (),cV,aF,aE ()];rfl
theorem wz:∀(xs:ae) {T:List<|ae},o6 T->o6 (xs.foldl put T)
 | [],_,h=>h
 | x::xs,_,h=>wz xs<|yH h
abbrev plain (T:List<|ae):ae:=T.reverse.flatten
def oR(r:ae)(T:List<|ae):plain (r::T)=plain T++r:=by unfold plain;simp
theorem plain_len:∀(T:List<|ae),(plain T).length=(T.map List.length).sum
 | []=>rfl
 | r::T=>by rw[oR,aL,plain_len T,bS,dw];lia
end Sy
namespace Ld
open Tb Mo
section
variable {r0 c:ae}{R:List (ae)}
def gl{x:ae}(h:i<R.length):(R++[x]).getD i []=R.getD i []:=by
 rw[aF,bw h,<- aF]
def gr{x:ae}:(R++[x]).getD R.length []=x:=by
 rw[aF,b7<|aM _,c8];rfl
def gk(h:i<j):(R.take j).getD i []=R.getD i []:=by
 rw[aF,List.getElem?_take,aN h,<- aF]
structure Road (r0 c:ae)(R:List (ae)):Prop where
 ne:0<R.length
 first:R.getD 0 []=r0
 last:R.getD (R.length-1) []=c
 ch:∀i,i+1<R.length->R.getD (i+1) []∈qW (R.getD i [])
def Road.one(r:ae):Road r r [r]:=⟨Nat.zero_lt_one,rfl,rfl,λi h=>by simp at h⟩
def Road.app(h:Road r0 c R){k:Nat}(h1:k+1<c.length)(J:may c k=true):Road r0 (chg c k) (R++[chg c k]):=by
 have ne:=h.ne;refine⟨by rw[aL];simp,by rw[gl h.ne];exact h.first,by rw[aL];exact gr,λi hi=>?_⟩;rw[aL]at hi;have hi:i+1<R.length+1:=hi;by_cases e:i+1=R.length
 ·rw[e,gr,gl (),show i=R.length-1 by lia,h.last];exact qy.mpr ⟨k,h1,J,rfl⟩
 ·rw[gl (),gl ()];exact h.ch i ()
def Road.cut(h:Road r0 c R)(J:j<R.length):Road r0 (R.getD j []) (R.take<|j+1):=by
 have l:(R.take<|j+1).length=j+1:=by rw[bG];lia
 refine⟨(),by rw[gk ()];exact h.first,by rw[l,Nat.add_sub_cancel,gk ()],λi hi=>?_⟩;rw[gk (),gk ()];exact h.ch i ()
def Road.len(h:Road r0 c R):∀i,i<R.length->(R.getD i []).length=r0.length
 | 0,_=>by rw[h.first]
 | i+1,hi=>by rw[(Mo.back<|h.ch i hi).1];exact h.len i ()
def Road.Nz(h:Road r0 c R):c.length=r0.length:=by
 have:=h.ne;rw[<- h.last];exact h.len _ ()
end
def vg{A:ae}{y:Int}:(A++y::B).getD A.length 0=y:=by
 rw[aF,b7<|aM _,c8];rfl
def wZ{A:ae}{x y:Int}:(A++x::y::B).getD (A.length+1) 0=y:=by
 rw[aF,b7 (),dM];rfl
def Dw{A:ae}{x y z:Int}:(A++x::y::z::B).getD (A.length+2) 0=z:=by
 rw[aF,b7 (),dM];rfl
def CA{A:ae}{y z:Int}:chg (A++y::z::B) A.length=A++z::y::B:=by
 rw[yd<|by simp,vg,wZ,List.take_left' rfl,List.drop_append,b_ (),dM];simp
def PB{A:ae}{q y x:Int}(h1:x<q)(J:q<=y):may (A++q::y::x::B) (A.length+1)=true:=by
 unfold may;rw[Co,cJ];right;unfold lB;rw[vg,wZ,Dw];simp[h1,J]
def LJ{A:ae}{y b q:Int}(h1:y<=q)(J:q<b):may (A++y::b::q::B) A.length=true:=by
 unfold may;rw[C4<|by simp,cJ];left;unfold lA;rw[vg,wZ,Dw];simp[h1,J]
section
variable (U L M Z:ae) (b x:Int)
abbrev cA (i:Nat):ae:=U++L++b::(M.take<|M.length-i)++x::(M.drop<|M.length-i)++Z
abbrev cB (i:Nat):ae:=U++L.take (L.length-i)++b::L.drop (L.length-i)++x::M++Z
def Se:cA U L M Z b x 0=U++(L++b::M)++x::Z:=by
 unfold cA;rw[gP,b9,eN];simp
def Ol:cA U L M Z b x M.length=cB U L M Z b x 0:=by
 unfold cA cB;rw[c8,gP,b9,eN];simp
def Ob:cB U L M Z b x L.length=U++b::((L++x::M)++Z):=by
 unfold cB;rw[c8];simp
end
def O8{U L M:ae}{b x:Int}(hi:i<M.length)(hs:(b::M).Pairwise (·<=·))(hx:x<b) :
  may (cA U L M Z b x i) (U.length+L.length+(M.length-i))=true/\chg (cA U L M Z b x i) (U.length+L.length+(M.length-i))=cA U L M Z b x (i+1):=by
 obtain⟨j,F⟩:∃j,M.length-i=j+1:=⟨M.length-i-1,()⟩;have d:j<M.length:=()
 have e1:M.take (j+1)=M.take j++[M[j]]:=by rw[bV d]
 have e2:M.drop j=M[j]::M.drop (j+1):=a_ d;have m:cA U L M Z b x i=(U++L++b::M.take j)++M[j]::x::(M.drop (j+1)++Z):=by
  unfold cA;rw[F,e1];dsimp[br,cZ,cI]
 have G:cA U L M Z b x (i+1)=(U++L++b::M.take j)++x::M[j]::(M.drop (j+1)++Z):=by
  unfold cA;rw[show M.length-(i+1)=j by lia,e2];dsimp[br,cZ,cI]
 have el:(U++L++b::M.take j).length=U.length+L.length+(M.length-i):=by
  dsimp[aL,bu,bG];lia
 rw[m,G,<- el];refine⟨?_,CA⟩;obtain⟨Q,q,f⟩:∃Q q,b::M.take j=Q++[q]:=⟨(b::M.take j).dropLast,(b::M.take j).getLast<|by simp,(dO _).symm⟩;have g:b::M=(Q++[q])++M[j]::M.drop (j+1):=by
  rw[<- f,cZ,<- e2,cC]
 have p:=hs;rw[g,bx]at p;have k:q<=M[j]:=p.2.2 q (by simp) _<|aK ..;have C:x<q:=by
  have:q∈b::M:=by rw[g];simp
  rcases aY.mp this with z|z
  ·rw[z];exact hx
  ·have:=(bA.mp hs).1 q z;lia
 have:=PB (A:=U++L++Q) (B:=M.drop (j+1)++Z) C k;rw[f];have J:U++L++(Q++[q])++M[j]::x::(M.drop (j+1)++Z)=(U++L++Q)++q::M[j]::x::(M.drop (j+1)++Z):=by simp
 rw[J,show(U++L++(Q++[q])).length=(U++L++Q).length+1 by simp;lia];exact this
def Qd{U L:ae}{b x:Int}(hi:i<L.length)(hs:L.Pairwise (·<=·))(J:∀a∈L,a<=x)(hx:x<b) :
  may (cB U L M Z b x i) (U.length+(L.length-i)-1)=true/\chg (cB U L M Z b x i) (U.length+(L.length-i)-1)=cB U L M Z b x (i+1):=by
 obtain⟨j,k⟩:∃j,L.length-i=j+1:=⟨L.length-i-1,()⟩;have d:j<L.length:=()
 have e1:L.take (j+1)=L.take j++[L[j]]:=by rw[bV d]
 have e2:L.drop j=L[j]::L.drop (j+1):=a_ d;have f:cB U L M Z b x i=(U++L.take j)++L[j]::b::(L.drop (j+1)++x::M++Z):=by
  unfold cB;rw[k,e1];dsimp[br,cZ,cI]
 have z:cB U L M Z b x (i+1)=(U++L.take j)++b::L[j]::(L.drop (j+1)++x::M++Z):=by
  unfold cB;rw[show L.length-(i+1)=j by lia,e2];dsimp[br,cZ,cI]
 have el:(U++L.take j).length=U.length+(L.length-i)-1:=by
  dsimp[aL,bG];lia
 rw[f,z,<- el];refine⟨?_,CA⟩;have m:L[j]<=x:=J _ (c6 d)
 cases hd:L.drop (j+1)with
 | nil=>exact LJ (B:=M++Z) m hx
 | cons q D=>
  have g:q∈L:=dB (by rw[hd];exact aK ..);have C:L[j]<=q:=by
   have p:(L.drop j).Pairwise (·<=·):=hs.sublist<|List.drop_sublist ..;rw[e2,hd]at p;exact(bA.mp p).1 q (aK ..)
  have:=J q g;exact LJ (B:=D++x::M++Z) C ()
def split{R:ae}{x:Int}(hs:R.Pairwise (·<=·))(h:fg R x≠R.length):∃L b M,R=L++b::M/\(∀a∈L,a<=x)/\x<b/\(b::M).Pairwise (·<=·)/\L.Pairwise (·<=·)/\fg R x=L.length/\R.getD (fg R x) 0=b/\R.set (fg R x) x=L++x::M:=by
 obtain⟨L,B,e,f,g⟩:=Kn.cut x hs
 cases B with
 | nil=>
  rw[bJ]at e;have:fg (L++[]) x=L.length:=Kn.uB f (λ_ h=>absurd h<|by simp);rw[bJ]at this;rw[e]at h;exact absurd this h
 | cons b M=>
  have d:fg R x=L.length:=by rw[e];exact Kn.uB f g
  have p:=hs;rw[e,bx]at p;refine⟨L,b,M,e,f,g b<|aK ..,p.2.1,p.1,d,?_,?_⟩
  ·rw[d,e];exact vg
  ·rw[d,e,cQ _ _<|aM _,c8];rfl
end Ld
namespace K64
open PySem L2 Am
theorem Li{r:Nat}{R:ae}{x:Int}(h:iI S r=some (R.map .int))(J:R.length<=1000):jz [.ref r,.int x] S=.ok (.int (Tb.fg R x:Nat)) S:=by
 unfold jz mw mH;dsimp[ji,bools,nk,Nat.reduceAdd,Nat.reduceSub];have j:=Tb.Dk R x;have f:=pA (t:=k_) (c:=kW)
  (λτ S1=>S1=S/\∃k:Nat,τ=[.ref r,.int x,.int k]/\k<=Tb.fg R x)
  (λτ S1=>match τ with
   | [_,_,.int k]=>R.length-k.toNat
   | _=>0)
  (λq=>RS.end (RS.seq q<|ko<|iH 2)=.ok (.int (Tb.fg R x:Nat)) S) ?_ 1000000
 ·refine f _ _ ⟨rfl,0,rfl,bQ _⟩ ?_;show R.length-_<_
  lia
 ·rintro τ S1 ⟨rfl,k,rfl,m⟩;unfold k_ kW;dsimp[ji,bools,h,aG];by_cases h1:k<R.length
  ·have g:mL (R.map A.int) (k:Int)=some (.int<|R.getD k 0):=Gf rfl h1;rw[bf<|show(k:Int)<R.length by lia];dsimp[ji,bools,h,g];by_cases d:k=Tb.fg R x
   ·have hg:x<R.getD k 0:=by
     have:=eg (xs:=R) (p:=λy=>decide<|x<y) (w:=by subst d;exact h1);have e:R.findIdx (λy=>decide<|x<y)=k:=d.symm;dsimp[e]at this;rw[aF,aE h1];simpa using this
    left;refine⟨S1,by rw[aZ ()],?_⟩;dsimp[ji,bools,d]
   ·have hg:R.getD k 0<=x:=by
     have:=dR (xs:=R) (p:=λy=>decide<|x<y) (i:=k) (show k<Tb.fg R x by lia);rw[aF,aE h1];simpa using this
    right;refine⟨S1,by rw[bf hg],.inl ⟨_,_,rfl,⟨rfl,k+1,rfl,()⟩,?_⟩⟩;show R.length-((k:Int)+1).toNat<R.length-(k:Int).toNat
    lia
  ·left;rw[aZ<|show ¬(k:Int)<R.length by lia];have:k=Tb.fg R x:=()
   refine⟨S1,by dsimp[ji,bools],?_⟩;dsimp[ji,bools,this]
def EU{S:iK}{m:Nat}{qs:ag}{T:List<|ae}{x:Int}(h:Tab S m qs T)(hl:T.length<=1000)(hr:∀i,(T.getD i []).length<=1000) :
  ∃(qs':ag) (S':iK),jx [.ref m,.int x] S=.ok (.int (Tb.row T x:Nat)) S'/\Tab S' m qs' (Tb.put T x)/\Kp (·∈m::qs) S S'/\∀r∈qs',r∈qs\/S.length<=r:=by
 unfold jx mF l9;dsimp[ji,bools,nk,Nat.reduceAdd,Nat.reduceSub];have hq1:=h.len;have hm:m∈m::qs:=aK ..;have key:=pA (t:=kP) (c:=kY)
  (λτ L=>∃(i:Nat) (U:List<|ae) (y:Int) (a3:A),τ=[.ref m,.int y,.int i,a3]/\i<=T.length/\Tab L m qs U/\Kp (·∈m::qs) S L/\U.length=T.length/\(∀j,(U.getD j []).length<=1000)/\Tb.put T x=U.take i++Tb.put (U.drop i) y/\Tb.row T x=i+Tb.row (U.drop i) y)
  (λτ S1=>match τ with
   | [_,_,.int k,_]=>T.length-k.toNat
   | _=>0)
  (λq=>∃(qs':ag) (S':iK),RS.end (RS.seq q<|jb (lH<|z8 kU (iH 0)<|iJ (mS<|iJ (iH 1) iU) iU)<|ko<|iH 2)=.ok (.int (Tb.row T x:Nat)) S'/\Tab S' m qs' (Tb.put T x)/\Kp (·∈m::qs) S S'/\∀r∈qs',r∈qs\/S.length<=r) ?_ 1000000
 ·refine key _ _ ⟨0,T,x,_,rfl,bQ _,h,Kp.refl,rfl,hr,rfl,by rw[dQ];rfl⟩ ?_;show T.length-_<_
  lia
 ·rintro τ L ⟨i,U,y,a3,rfl,hi0,F,V,hU,P,p,d⟩;unfold kP;dsimp[ji,bools,F.top,aG,hq1];by_cases hi':i<T.length
  ·right;refine⟨L,by rw[bf ()],?_⟩;have W:i<qs.length:=()
   have hi:i<U.length:=()
   generalize hr0:qs.getD i 0=r;have C:qs[i]?=some r:=by rw[<- hr0,aF,aE W];rfl
   obtain⟨_,g⟩:=F.rows.get C;generalize hR:U.getD i []=R at g;have N:R.length<=1000:=by rw[<- hR];exact P i
   have f:U.drop i=R::U.drop (i+1):=by
    rw[a_ hi,<- hR,aF,aE hi];rfl
   have J:r∈m::qs:=aJ _<|aX C;have hnm:r≠m:=λz=>(bL.mp F.nd).1 (by rw[<- z];exact aX C);have Z:mL (qs.map A.ref) (i:Int)=some (.ref r):=pO rfl (by rw[aR,C];rfl);have Y:∀R',U.set i R'=U.take i++R'::U.drop (i+1):=λR'=>by rw[fZ,aN hi]
   unfold kY;dsimp[ji,bools,F.top,Z,Li g N,g,aG];by_cases B:Tb.fg R y=R.length
   ·right;rw[show(((Tb.fg R y:Nat):Int) == (R.length:Int))=true by rw[B];simp];dsimp[ji,bools,F.top,Z,g,aG,qv<|show R.length<16777216 by lia];have G:=F.set (i:=i) (r:=r) (ys:=R++[y]) C;rw[bE]at G;rw[f,Tb.pT B]at d;refine⟨_,_,rfl,qs,_,by rw[d];rfl,?_,V.set<|.inl J,λr hr=>.inl hr⟩;rw[p,f,Tb.lO B,<- Y];exact G
   ·left;have M:=Tb.u9 B;have e1:mL (R.map A.int) (Tb.fg R y:Int)=some (.int<|R.getD (Tb.fg R y) 0):=Gf rfl M;have e2:yy R.length (Tb.fg R y:Int)=some (Tb.fg R y):=xK rfl M;rw[show(((Tb.fg R y:Nat):Int) == (R.length:Int))=false by rw[c9];lia];dsimp[ji,bools,F.top,Z,g,e1,aG,e2,j4<|show([_,_]:ad).length<=16777216 by simp,mO<|show([_,_]:ad).length=2 from rfl];have G:=F.set (i:=i) (r:=r) (ys:=R.set (Tb.fg R y) y) C;rw[map_set]at G;have l1:(U.take i).length=i:=by rw[bG];lia
    have d1:(U.set i<|R.set (Tb.fg R y) y).drop (i+1)=U.drop (i+1):=by
     rw[Y,List.drop_append,l1,dM,b_ (by lia:(U.take i).length<=i+1)];simp
    have t1:(U.set i<|R.set (Tb.fg R y) y).take (i+1)=U.take i++[R.set (Tb.fg R y) y]:=by
     rw[Y,List.take_append,l1,dM,cH (by lia:(U.take i).length<=i+1)];simp
    refine⟨_,_,rfl,⟨i+1,U.set i<|R.set (Tb.fg R y) y,_,_,rfl,(),G,V.set<|.inl J,by rw[bD];exact hU,λj=>?_,?_,?_⟩,?_⟩
    ·rw[aF,gp];by_cases hj:i=j
     ·rw[aN hj,aN hi];simpa using N
     ·rw[aO hj,<- aF];exact P j
    ·rw[p,f,Tb.n5 B,t1,d1];simp
    ·rw[d,f,Tb.rW B,d1];lia
    ·show T.length-((i:Int)+1).toNat<T.length-(i:Int).toNat
     lia
  ·left;have K:i=U.length:=()
   refine⟨L,by rw[aZ ()],?_⟩;rw[K,b9,eN]at p;rw[K,eN]at d;have lm:iI (L++[O.lst [.int y]]) m=some (qs.map .ref):=jE F.top;dsimp[ji,bools,F.top,lm,aG,qv<|show qs.length<16777216 by lia];have G:=F.push (ys:=[y]);rw[bE]at G;refine⟨qs++[L.length],_,by rw[d,K];rfl,?_,V.lay.set<|.inl hm,λr hr=>?_⟩
   ·rw[p];exact G
   ·rcases aV.mp hr with z|z
    ·exact .inl z
    ·right;rw[aP.mp z];exact V.len
def DC{S:iK}{n:Nat}{T:List<|ae}{x:Int}(h:Tab S n rs T)(hl:T.length<=1000)(J:∀i,(T.getD i []).length<=1000) :
  ∃(qs:ag) (m:Nat) (S':iK),pK [.ref n,.int x] S=.ok (.ref m) S'/\Tab S' m qs (Tb.put T x)/\kC S S'/\∀r∈m::qs,S.length<=r:=by
 obtain⟨qs,m,S1,e1,h1,k,d⟩:=D8 (cap:=[]) (τ:=[.ref n]) (src:=l5<|iH 0) h (m8 (by dsimp[ji,bools]) h.top) ();have f:pB [.ref n] S=.ok (.ref m) S1:=by
  unfold pB vt uw;dsimp[ji,bools,nk,Nat.reduceAdd,Nat.reduceSub,e1]
 obtain⟨g,B,e2,p,q,j⟩:=EU (x:=x) h1 hl J;unfold pK ve uh;dsimp[ji,bools,nk,Nat.reduceAdd,Nat.reduceSub,f,e2];refine⟨g,m,B,rfl,p,k.old q λa C _ z=>absurd (d a z) (),λr J=>?_⟩
 rcases aY.mp J with z|z
 ·rw[z];exact d m (aK ..)
 ·rcases j r z with z|z
  ·exact d r (aJ _ z)
  ·exact bH k.len z
def yG{S:iK}{xs:ae}(h:iI S L=some (xs.map .int))(hl:xs.length<=100) :
  ∃(rs qs:ag) (n m:Nat) (S':iK),lY [.ref L] S=.ok (.tup [.ref n,.ref m]) S'/\Tab S' n rs (Tb.tabs xs xs.length).1/\Tab S' m qs (Tb.tabs xs xs.length).2/\kC S S'/\(∀r∈n::rs,S.length<=r)/\(∀r∈m::qs,S.length<=r)/\∀r∈n::rs,r∉m::qs:=by
 have lL:=jQ h;unfold lY uU u_;dsimp[ji,bools,nk,Nat.reduceAdd,Nat.reduceSub];have lb:(S++[O.lst []]).length=S.length+1:=by rw[aL];rfl
 have k0:kC S (S++[O.lst []]++[O.lst []]):=Kp.refl.lay.lay;have h0:=k0.lst _ _ (λz=>z) h;have hs:uL [.ref L,.ref S.length,.ref (S++[O.lst []]).length,.unb,.unb,.unb] (S++[O.lst []]++[O.lst []])=.ok (oV L (xs.map A.int).length) (S++[O.lst []]++[O.lst []]):=xo (by dsimp[ji,bools]) h0;unfold kN;rw[hs];refine rL (s:=oV L (xs.map A.int).length)
  (λi τ S1=>∃(rs qs:ag) (a3 a4 a5:A),τ=[.ref L,.ref S.length,.ref (S++[O.lst []]).length,a3,a4,a5]/\Tab S1 S.length rs (Tb.tabs xs i).1/\Tab S1 (S++[O.lst []]).length qs (Tb.tabs xs i).2/\kC S S1/\(∀r∈S.length::rs,S.length<=r)/\(∀r∈(S++[O.lst []]).length::qs,S.length<=r)/\∀r∈S.length::rs,r∉(S++[O.lst []]).length::qs)
  (λq=>∃(rs qs:ag) (n m:Nat) (S':iK),RS.end (RS.seq q _)=.ok (.tup [.ref n,.ref m]) S'/\Tab S' n rs (Tb.tabs xs xs.length).1/\Tab S' m qs (Tb.tabs xs xs.length).2/\kC S S'/\(∀r∈n::rs,S.length<=r)/\(∀r∈m::qs,S.length<=r)/\∀r∈n::rs,r∉m::qs)
  ?_ ?_ (xs.map A.int).length 0 _ _ rfl
  ⟨[],[],_,_,_,rfl,Tab.nil<|jE iY,Tab.nil iY,k0,(λr d=>by rw[aP.mp d];exact aM _),(λr d=>by rw[aP.mp d,lb];lia),λr d G=>by rw[aP.mp d]at G;have:=aP.mp G;lia⟩
 ·rintro i τ S1 hi ⟨rs,qs,a3,a4,a5,rfl,Z,U,N,fr,P,W⟩;have hi:i<(xs.map A.int).length:=hi;rw[aG]at hi;generalize hm:(S++[O.lst []]).length=m at U P W;obtain⟨z1,z2⟩:=Tb.qd xs i;have hL1:=N.lst _ _ (λz=>z) h;obtain⟨J,g,e2,p,k2,fr2⟩:=EU (x:=xs.getD i 0) Z () (λj=>by have:=z2 j;lia);have f:Tab g m qs (Tb.tabs xs i).2:=U.kp k2 λr d z=>W r z d;generalize hX:xs.getD i 0=x at e2 p;generalize hTT:(Tb.tabs xs i).1=T at Z p z1 z2 e2;generalize hQQ:(Tb.tabs xs i).2=Q at U f;have hQl:Q.length=T.length:=by rw[<- hQQ,<- hTT];exact Tb.IQ xs i
  have hrl:=Tb.AX T x;have lQ:=f.len;have l12:=k2.len;have ltQ:=U.lt;have ltT:=Z.lt;have K:m∈m::qs:=aK ..;have nx:Tb.tabs xs (i+1)=(Tb.put T x,Tb.add Q (Tb.row T x)<|(i:Int)+1):=by rw[<- hTT,<- hQQ,<- hX];rfl
  have frS:∀r∈S.length::J,S.length<=r:=λr d=>by
   rcases aY.mp d with z|z
   ·rw[z];exact aM _
   ·rcases fr2 r z with z|z
    ·exact fr r (aJ _ z)
    ·exact bH N.len z
  have F:∀r∈S.length::J,r∉m::qs:=λr d G=>by
   rcases aY.mp d with z|z
   ·exact W r (by rw[z];exact aK ..) G
   ·rcases fr2 r z with z|z
    ·exact W r (aJ _ z) G
    ·have:=ltQ r G;lia
  have k02:kC S g:=N.old k2 λa ha _ z=>absurd (fr a z) ();refine⟨.tup [.int i,.int x],[.ref L,.ref S.length,.ref m,.int i,.int x,a5],S1,?_,by dsimp[ji,bools,mO<|show([_,_]:ad).length=2 from rfl],.inl ?_⟩
  ·show(iI S1 L).bind _=_;rw[hL1,bB,aR,aE hi,<- hX,aF,aE hi];rfl
  unfold uN;dsimp[ji,bools,e2,f.top,aG,lQ,hQl];by_cases d:Tb.row T x=T.length
  ·rw[show(((Tb.row T x:Nat):Int) == (T.length:Int))=true by rw[d];simp];have lm:iI (g++[O.lst []]) m=some (qs.map .ref):=jE f.top;have hP:=f.push (ys:=[]);rw[eU]at hP;have hPq:=hP.rows.get (i:=qs.length) (r:=g.length) (by simp);have V:=hPq.2;have e4:(Q++[([]:ae)]).getD qs.length []=[]:=by rw[aF,lQ];simp
   rw[e4,eU]at V;have B:mL ((qs++[g.length]).map A.ref) (Tb.row T x:Int)=some (.ref g.length):=pO (k:=qs.length) () (by simp);have C:=hP.top;rw[bE]at C B V;dsimp[ji,bools,f.top,lm,aG,qv<|show qs.length<16777216 by lia];dsimp[bS,eU]at C B V;dsimp[ji,bools,C,B,V,d8,qv<|show 0<16777216 by decide];have Y:=hP.set (i:=qs.length) (r:=g.length) (ys:=[(i:Int)+1]) (by simp);have s5:(Q++[[]]).set qs.length [(i:Int)+1]=Tb.add Q (Tb.row T x) ((i:Int)+1):=by
    rw[show Tb.row T x=Q.length by lia,Tb.B3,lQ];simp
   rw[s5,bE]at Y;dsimp[bS,eU,cI]at Y;have kk:Kp (λa=>a∈m::qs\/g.length<=a) g (((g++[O.lst []]).set m<|O.lst<|List.map A.ref qs++[A.ref g.length]).set g.length<|O.lst<|[]++[A.int<|(i:Int)+1]):=(Kp.refl.lay.set<|.inl<|.inl K).set<|.inr<|aM _;refine⟨_,_,rfl,J,qs++[g.length],_,_,_,rfl,?_,?_,?_,frS,λr d=>?_,λr d G=>?_⟩
   ·rw[nx];exact p.kp kk λr d z=>by
     rcases z with z|z
     ·exact F r d z
     ·exact absurd (p.lt r d) ()
   ·rw[nx];exact Y
   ·exact(k02.lay.set<|.inr<|P m K).set (.inr<|bH N.len l12)
   ·rcases aY.mp d with z|z
    ·rw[z];exact P m K
    ·rcases aV.mp z with z|z
     ·exact P r (aJ _ z)
     ·rw[aP.mp z];exact bH N.len l12
   ·have hrl:=p.lt r d
    rcases aY.mp G with z|z
    ·exact F r d (by rw[z];exact K)
    ·rcases aV.mp z with z|z
     ·exact F r d (aJ _ z)
     ·have:=aP.mp z;lia
  ·rw[show(((Tb.row T x:Nat):Int) == (T.length:Int))=false by rw[c9];lia];have hrq:Tb.row T x<qs.length:=()
   generalize hq0:qs.getD (Tb.row T x) 0=q;have M:qs[Tb.row T x]?=some q:=by rw[<- hq0,aF,aE hrq];rfl
   have V:=(f.rows.get M).2;have B:mL (qs.map A.ref) (Tb.row T x:Int)=some (.ref q):=pO rfl (by rw[aR,M];rfl);have hbq:(Q.getD (Tb.row T x) []).length<=100:=by
    have e:=Tb.n_ Q<|Tb.row T x;have:=Tb.qg xs i;rw[hTT,hQQ]at this;rw[<- e,this,Tb.n_];have:=z2<|Tb.row T x;lia
   have hmq:q∈m::qs:=aJ _<|aX M;dsimp[ji,bools,f.top,B,V,aG,qv<|show(Q.getD (Tb.row T x) []).length<16777216 by lia];have Y:=f.set (i:=Tb.row T x) (r:=q) (ys:=Q.getD (Tb.row T x) []++[(i:Int)+1]) M;rw[<- Tb.Gh Q (Tb.row T x) _ (),bE]at Y;have kk:Kp (·∈m::qs) g (g.set q<|O.lst<|(Q.getD (Tb.row T x) []).map A.int++[A.int<|(i:Int)+1]):=Kp.refl.set<|.inl hmq;refine⟨_,_,rfl,J,qs,_,_,_,rfl,?_,?_,?_,frS,λr d=>P r d,λr d G=>F r d G⟩
   ·rw[nx];exact p.kp kk λr d z=>F r d z
   ·rw[nx];exact Y
   ·exact k02.set<|.inr<|P q hmq
 ·rintro τ S1 ⟨rs,qs,a3,a4,a5,rfl,Z,U,N,fr,P,W⟩;have ek:(oV L (xs.map A.int).length).k=xs.length:=aG ..;rw[ek]at Z U;refine⟨?_,?_⟩
  ·show(match iI S1 L with
    | some ys=>decide (ys.length=(xs.map A.int).length)
    | none=>false)=true
   rw[N.lst _ _ (λz=>z) h];simp
  ·dsimp[ji,bools,j4<|show([_,_]:ad).length<=16777216 by simp];exact⟨rs,qs,_,_,_,rfl,Z,U,N,fr,P,W⟩
end K64
namespace K64
open PySem L2 Am
theorem t_{x:ae}(J:iI S o=some (x.map .int)):∀{rs:ag}{T:List<|ae},Rows S rs T->QJ S (.ref o) (rs.map .ref)=some (decide<|x∈T)
 | [],[],_=>rfl
 | r::rs,y::T,h=>by
  show(o_ S 12 (.ref r)<|.ref o).bind _=_;rw[Bh h.1 J,bB,t_ J h.2];show some (decide (y=x) || decide (x∈T))=_;congr 1;rw[iA,cJ,cg,cg,cg,aY];constructor
  ·rintro(z|z)
   ·exact .inl z.symm
   ·exact .inr z
  ·rintro(z|z)
   ·exact .inl z.symm
   ·exact .inr z
 | [],x::T,h=>h.elim
 | r::rs,[],h=>h.elim
open Mo
def Oj{l:ae}{k:Nat}{i:Int}(h:i=k)(J:k<l.length):mL (l.map A.int) i=some (.int<|l.getD k 0):=xV h<|by rw[aF,aE J];rfl
def OS{f g:A->A->iK->R A}{ca cb cc:Ex}{a:A}{x:Bool}(h1:ca τ S=.ok a S)(J:cb τ S=.ok b S)(h3:f a b S=.ok (.bl x) S)(h4:cc τ S=.ok c S)(h5:g b c S=.ok (.bl y) S):Lw f g ca cb cc τ S=.ok (.bl<|x && y) S:=by
 unfold Lw;rw[h1,R.jv,J,R.jv,h3,R.jv]
 cases x with
 | true=>unfold To;show(cc τ S).bind _=_;rw[h4];exact h5
 | false=>rfl
def AB{S:iK}{n:Nat}{xs ys:ad}(h1:iI S n=some xs)(J:iI S m=some ys)(h3:xs.length+ys.length<=16777216):jK (.ref n) (.ref m) S=.ok (.ref S.length) (S++[.lst<|xs++ys]):=by
 show opt (iI S n) _=_;rw[h1];show opt (iI S m) _=_;rw[J];exact RN h3
def MW(xs:ad)(j:Nat):vK xs none (some (j:Int))=xs.take j:=by
 unfold vK;rw[HT.Cc,HT.yN,gS,gP];by_cases h:j<=xs.length
 ·rw[iz h]
 ·rw[ie (),cH<|aM _,cH ()]
def MO(xs:ad)(j:Nat):vK xs (some (j:Int)) none=xs.drop j:=by
 unfold vK;rw[HT.Cc,HT.yN];by_cases h:j<=xs.length
 ·rw[iz h,cH<|by rw[cL];lia]
 ·rw[ie (),b_<|aM _,b_ ()];simp
def Q4{S:iK}{i j:Nat}{r:ae}{mid:ae}{ci cj:Ex}{cm:Ex}(h:iI S L=some (r.map .int))(hl:r.length<=100)(hmid:mid.length<=3)
  (hi:∀T,ci (.ref L::ρ) T=.ok (.int i) T) (hj:∀T,cj (.ref L::ρ) T=.ok (.int j) T) (hm:∀T,kC S T->cm (.ref L::ρ) T=.ok (.ref T.length) (T++[.lst<|mid.map .int])) :
  ∃S',(iQ jK (iQ jK (Jd (iH 0) p9<|p_ ci) cm)<|Jd (iH 0) (p_ cj) p9) (.ref L::ρ) S=.ok (.ref<|S.length+4) S'/\iI S' (S.length+4)=some ((r.take i++mid++r.drop j).map .int)/\kC S S'/\S'.length=S.length+5:=by
 obtain⟨S1,p⟩:∃S1,S1=S++[O.lst<|(r.take i).map .int]:=⟨_,rfl⟩;have G:kC S S1:=by rw[p];gp_on
 have e1:(Jd (iH 0) p9<|p_ ci) (.ref L::ρ) S=.ok (.ref S.length) S1:=by
  dsimp[ji,bools,hi,h,MW];rw[p,map_take]
 have e2:=hm S1 G;obtain⟨d,m⟩:∃d,d=S1++[O.lst<|mid.map .int]:=⟨_,rfl⟩;rw[<- m]at e2;have J:kC S1 d:=by rw[m];gp_on
 have g1:iI d S.length=some ((r.take i).map .int):=J.lst _ _ (λz=>z) (by rw[p];exact iY);have g2:iI d S1.length=some (mid.map .int):=by rw[m];exact iY
 have l1:(r.take i).length<=100:=by rw[bG];lia
 have l2:(r.drop j).length<=100:=by rw[cL];lia
 have e3:=AB g1 g2 (by rw[aG,aG];lia);obtain⟨f,g⟩:∃f,f=d++[O.lst<|(r.take i).map .int++mid.map .int]:=⟨_,rfl⟩;rw[<- g]at e3;have Y:kC d f:=by rw[g];gp_on
 have K:kC S f:=(G.trans J).trans Y;have F:=K.lst _ _ (λz=>z) h;have W:iI f d.length=some ((r.take i).map .int++mid.map .int):=by rw[g];exact iY
 obtain⟨q,k⟩:∃q,q=f++[O.lst<|(r.drop j).map .int]:=⟨_,rfl⟩;have M:kC f q:=by rw[k];gp_on
 have U:(Jd (iH 0) (p_ cj) p9) (.ref L::ρ) f=.ok (.ref f.length) q:=by
  dsimp[ji,bools,hj,F,MO];rw[k,map_drop]
 have N:iI q f.length=some ((r.drop j).map .int):=by rw[k];exact iY
 have C:=M.lst _ _ (λz=>z) W;have V:=AB C N (by rw[aL,aG,aG,aG];lia);have Z:S1.length=S.length+1:=by rw[p,aL];rfl
 have P:d.length=S.length+2:=by rw[m,aL,Z];rfl
 have n3:f.length=S.length+3:=by rw[g,aL,P];rfl
 have B:q.length=S.length+4:=by rw[k,aL,n3];rfl
 refine⟨q++[O.lst<|(r.take i).map .int++mid.map .int++(r.drop j).map .int],?_,?_,(K.trans M).lay,by rw[aL,B];rfl⟩
 ·show(((((Jd (iH 0) p9<|p_ ci) (.ref L::ρ) S).bind λa S1=>(cm (.ref L::ρ) S1).bind λb d=>jK a b d)).bind λa S1=>((Jd (iH 0) (p_ cj) p9) (.ref L::ρ) S1).bind λb d=>jK a b d)=_;rw[e1,R.jv,e2,R.jv,e3,R.jv,U,R.jv,V,B]
 ·rw[<- B,iY,bE,bE]
def uP{S:iK}{k:Nat}{r:ae}(h:iI S L=some (r.map .int))(J:k+1<r.length)(hl:r.length<=100):∃S',j5 [.ref L,.int k] S=.ok (.ref<|S.length+4) S'/\iI S' (S.length+4)=some ((chg r k).map .int)/\kC S S'/\S'.length=S.length+5:=by
 have f:mL (r.map A.int) (k:Int)=some (.int<|r.getD k 0):=Oj rfl ();have d:mL (r.map A.int) ((k:Int)+1)=some (.int<|r.getD (k+1) 0):=Oj (k:=k+1) () J;obtain⟨S',e,g,kp,n⟩:=Q4 (S:=S) (L:=L) (i:=k) (j:=k+2) (r:=r) (mid:=[r.getD (k+1) 0,r.getD k 0]) (ρ:=[.int k]) (ci:=iH 1) (cj:=iQ jK (iH 1)<|eC<|.int 2) (cm:=mS<|iJ (iQ m9 (iH 0)<|iQ jK (iH 1)<|eC<|.int 1)<|iJ (iQ m9 (iH 0)<|iH 1)<|iU) h hl (iB 2) (λT=>rfl) (λT=>by dsimp[ji,bools];rfl) λT B=>by
  have p:=B.lst _ _ (λz=>z) h;dsimp[ji,bools,p,f,d];rfl
 refine⟨S',?_,by rw[yd J];exact g,kp,n⟩;unfold j5 sf su;have m:RS.end (ko _ _ S)=_:=d9 RS.end<|show ko _ [.ref L,.int k] S=_ from d9 (λq=>RS.of q λa S1=>RS.rt a S1) e;exact m
end K64
namespace K64
open PySem L2 Am
open Mo Ld
def Ck{n:Nat}{J:ag}{T:List<|ae}(h:Tab S n J T)(hn:0<T.length):∃q,mL (J.map A.ref) (-1)=some (.ref q)/\J[T.length-1]?=some q/\iI S q=some ((T.getD (T.length-1) []).map .int):=by
 have l:=h.len;have d:J[T.length-1]?=some J[T.length-1]:=aE ();refine⟨J[T.length-1],?_,d,(h.rows.get d).2⟩;unfold L2.mL L2.yy;rw[aG,aO ⋯,aN (),bB,show((-1:Int)+(J.length:Int)).toNat=T.length-1 by lia,aR,d];rfl
def KJ{S:iK}{n q:Nat}{ys:ae}(h:Tab S n rs T)(J:iI S q=some (ys.map .int))(hn:q∉n::rs):Tab (S.set n<|.lst<|(rs++[q]).map .ref) n (rs++[q]) (T++[ys]):=by
 have g:=h.lt n<|aK ..;refine⟨kR g,Rows.app (h.rows.mono λr k xs e=>?_) ⟨?_,trivial⟩,?_⟩
 ·rw[jC λz=>(bL.mp h.nd).1<|by rw[z];exact k];exact e
 ·rw[jC λz=>hn<|by rw[z];exact aK ..];exact J
 ·rw[<- cZ,d_];refine⟨h.nd,by simp,λa j b f z=>hn ?_⟩;have d:b=q:=by simpa using f
  rw[<- d,<- z];exact j
theorem wu:∀{rs:ag}{T:List<|ae}(k:Nat),Rows S rs T->Rows S (rs.take k) (T.take k)
 | [],[],k,_=>by rw[take_nil,take_nil];trivial
 | r::rs,y::T,0,_=>trivial
 | r::rs,y::T,k+1,h=>⟨h.1,wu k h.2⟩
 | [],_::_,_,h=>h.elim
 | _::_,[],_,h=>h.elim
def KQ{S:iK}{n:Nat}{J:ag}{T:List<|ae}(h:Tab S n J T)(k:Nat):Tab (S.set n<|.lst<|(J.map .ref).take k) n (J.take k) (T.take k):=by
 have d:=h.lt n<|aK ..;refine⟨by rw[kR d,map_take],(wu k h.rows).mono λr f xs e=>?_,?_⟩
 ·rw[jC λz=>(bL.mp h.nd).1<|by rw[z];exact cT f];exact e
 ·exact h.nd.sublist<|(gT k J).cons_cons n
theorem yV{x:ae}(J:iI S o=some (x.map .int)):∀{rs:ag}{T:List<|ae},Rows S rs T->x∈T->∃j,((rs.map A.ref).findIdx? λz=>decide<|o_ S 12 z (.ref o)=some true)=some j/\j<T.length/\T.getD j []=x
 | [],[],_,hx=>absurd hx (by simp)
 | r::rs,y::T,h,hx=>by
  rw[bS,List.findIdx?_cons,Bh h.1 J];by_cases c:y=x
  ·rw[bf c,aN ⋯];exact⟨0,rfl,ir _,c⟩
  ·rw[aZ c,aO ⋯];have d:x∈T:=(aY.mp hx).resolve_left λz=>c z.symm;obtain⟨j,e,l,g⟩:=yV J h.2 d;exact⟨j+1,by rw[e];rfl,gC l,g⟩
 | [],_::_,h,_=>h.elim
 | _::_,[],h,_=>h.elim
def HU(J:ag):(J.map A.ref).all A.isRef=true:=by
 rw[ig];intro z d;obtain⟨q,_,rfl⟩:=bU.mp d;rfl
def Pc{S:iK}{k:Nat}{rs:ag}{R:List<|ae}{c:ae}(h:Tab S road rs R)(hr:Road r0 c R)(h1:k+1<c.length)(h2:may c k=true)(hl:R.length<=1000)(hc:c.length<=100) :
  ∃(rs':ag) (R':List<|ae) (S':iK),nG [.ref road,.int k] S=.ok .non S'/\Tab S' road rs' R'/\Road r0 (chg c k) R'/\R'.length<=R.length+1/\Kp (·=road) S S'/\∀q∈rs',q∈rs\/S.length<=q:=by
 obtain⟨q,e1,_,B⟩:=Ck h hr.ne;rw[hr.last]at B;obtain⟨S1,e2,g2,m,M⟩:=uP B h1 hc;have t2:=h.Mk m;have f:Jf false (.ref<|S.length+4) (.ref road) S1=.ok (.bl<|decide<|chg c k∈R) S1:=by
  show opt (iI S1 road) _=_;rw[t2.top,iZ,t_ g2 t2.rows,iZ];rfl
 have L:=h.lt road<|aK ..;have N:=h.len;by_cases d:chg c k∈R
 ·obtain⟨j,f1,f2,f3⟩:=yV g2 t2.rows d;have K:yD (.ref road) [.ref<|S.length+4] S1=.ok (.int j) S1:=by
   show opt (iI S1 road) _=_;rw[t2.top,iZ];refine(mO ⟨HU rs,λz J=>?_⟩).trans ?_
   ·rw[f1,iZ]
   ·obtain⟨p,g,rfl⟩:=bU.mp J;obtain⟨i,hi,rfl⟩:=c5.mp g;have:=(t2.rows.get<|aE hi).2;rw[Bh this g2];rfl
  have F:IU (iH 0) (iQ jK (z8 yD (iH 0)<|iJ (iH 2)<|iU)<|eC<|.int 1) [.ref road,.int k,.ref<|S.length+4] S1=.nx [.ref road,.int k,.ref<|S.length+4] (S1.set road<|.lst<|(rs.map .ref).take<|j+1):=by
   have:=J7 (co:=iH 0) (ci:=iQ jK (z8 yD (iH 0)<|iJ (iH 2)<|iU)<|eC<|.int 1) (τ:=[.ref road,.int k,.ref<|S.length+4]) (S:=S1) (S1:=S1) (S2:=S1) (n:=road) (k:=(j:Int)+1) (xs:=rs.map .ref) (by dsimp[ji,bools]) (by dsimp[ji,bools,t2.top,K]) t2.top ();rw[show((j:Int)+1).toNat=j+1 by lia]at this;exact this
  have C:=KQ t2<|j+1;refine⟨rs.take<|j+1,R.take<|j+1,_,?_,C,by rw[<- f3];exact hr.cut f2,by rw[bG];lia,(m.of0).set<|.inl rfl,λp g=>.inl<|cT g⟩;unfold nG tD tU;dsimp[ji,bools,nk,Nat.reduceAdd,Nat.reduceSub,h.top,e1,e2,f,bf d,F]
 ·have G:S.length+4∉road::rs:=λz=>absurd (h.lt _ z) ();refine⟨rs++[S.length+4],R++[chg c k],S1.set road<|.lst<|(rs++[S.length+4]).map .ref,?_,KJ t2 g2 G,hr.app h1 h2,by rw[aL];exact aM _,(m.of0).set<|.inl rfl,λp g=>?_⟩
  ·unfold nG tD tU;dsimp[ji,bools,nk,Nat.reduceAdd,Nat.reduceSub,h.top,e1,e2,f,aZ d,t2.top,aG,qv<|show rs.length<16777216 by lia,bE,bS,eU]
  ·rcases aV.mp g with z|z
   ·exact .inl z
   ·have:p=S.length+4:=by simpa using z
    exact .inr ()
end K64
namespace K64
open PySem L2 Am
open Mo Ld
def Ml{lo hi:Int}{c:Sm}{src:Ic}{τ:ad}(hs:src τ S=.ok (vh lo hi) S1)(Inv:Nat->ad->iK->Prop)(J:RS->Prop)(h0:Inv 0 τ S1)
  (step:∀(i:Nat) τ S,i<(lo-hi).toNat->Inv i τ S->(∃τ' S',c (τ.set j<|.int<|lo-i) S=.nx τ' S'/\Inv (i+1) τ' S')\/(∃a S',c (τ.set j<|.int<|lo-i) S=.rt a S'/\J (.rt a S')))
  (fin:∀τ S,Inv (lo-hi).toNat τ S->J (.nx τ S)):J (kN src (jj j) c τ S):=by
 unfold kN;rw[hs];refine rL (s:=vh lo hi) Inv J (λi τ S d h=>?_) (λτ S h=>⟨rfl,fin τ S h⟩) _ 0 τ S1 rfl h0;have d:i<(lo-hi).toNat:=d;exact⟨.int<|lo-i,_,S,aN d,rfl,step i τ S d h⟩
def B_{S:iK}{rs:ag}{R:List<|ae}{r0:ae}{ic:Ic}{lo hi:Int}{n:Nat}(hs:ic [.ref road,t1,t2,t3,t4,t5,t6,t7] S=.ok (vh lo hi) S)(hn:(lo-hi).toNat=n)(f:Nat->ae)
  (h:Tab S road rs R) (hr:Road r0 (f 0) R) (hc:r0.length<=100) (hl:R.length+n<=1000) (step:∀i,i<n->∃k:Nat,lo-i=k/\k+1<r0.length/\may (f i) k=true/\chg (f i) k=f (i+1)) :
  ∃(rs':ag) (R':List<|ae) (S':iK) (a7:A),kN ic (jj 7) (lH<|eFn nG<|iJ (iH 0)<|iJ (iH 7)<|iU) [.ref road,t1,t2,t3,t4,t5,t6,t7] S=.nx [.ref road,t1,t2,t3,t4,t5,t6,a7] S'/\Tab S' road rs' R'/\Road r0 (f n) R'/\R'.length<=R.length+n/\Kp (·=road) S S'/\∀q∈rs',q∈rs\/S.length<=q:=by
 subst hn;refine Ml hs
  (λi τ S1=>∃(d:ag) (g:List<|ae) (a7:A),τ=[.ref road,t1,t2,t3,t4,t5,t6,a7]/\Tab S1 road d g/\Road r0 (f i) g/\g.length<=R.length+i/\Kp (·=road) S S1/\∀q∈d,q∈rs\/S.length<=q)
  (λz=>∃(rs':ag) (R':List<|ae) (S':iK) (a7:A),z=.nx [.ref road,t1,t2,t3,t4,t5,t6,a7] S'/\Tab S' road rs' R'/\Road r0 (f (lo-hi).toNat) R'/\R'.length<=R.length+(lo-hi).toNat/\Kp (·=road) S S'/\∀q∈rs',q∈rs\/S.length<=q)
  ⟨rs,R,t7,rfl,h,hr,aM _,Kp.refl,λq F=>.inl F⟩ ?_ ?_
 ·rintro i τ S1 B ⟨d,g,a7,rfl,C,g2,G,j,m⟩;left;obtain⟨k,e1,e2,e3,J⟩:=step i B;have M:=g2.Nz;obtain⟨p,R2,K,f1,f2,f3,f4,f5,L⟩:=Pc C g2 () e3 () ();refine⟨_,K,?_,p,R2,.int k,rfl,f2,by rw[<- J];exact f3,(),j.trans f5,λq F=>?_⟩
  ·rw[e1];dsimp[ji,bools,f1]
  ·rcases L q F with z|z
   ·exact m q z
   ·exact .inr<|bH j.len z
 ·rintro τ S1 ⟨d,g,a7,rfl,C,g2,G,j,m⟩;exact⟨d,g,S1,a7,rfl,C,g2,G,j,m⟩
def Ea{S:iK}{rs:ag}{R:List<|ae}{r0 U L M Zi:ae}{b y e p u:Int}(h:Tab S road rs R)(hr:Road r0 (cA U L M Zi b y 0) R)(hc:r0.length<=100)(hl:R.length<=900)(lw:U.length+(L.length+1+M.length)+Zi.length+1=r0.length)
  (he:e=((U.length+(L.length+1+M.length):Nat):Int)) (hp:p=((U.length+L.length:Nat):Int)) (hu:u=(U.length:Int)) (hsM:(b::M).Pairwise (·<=·)) (hb:y<b) (hsL:L.Pairwise (·<=·)) (hL:∀a∈L,a<=y) :
  ∃(rs':ag) (R':List<|ae) (S1 S':iK) (a7 a8:A),kN nK (jj 7) sG [.ref road,t1,.int e,t3,t4,.int u,.int p,t7] S=.nx [.ref road,t1,.int e,t3,t4,.int u,.int p,a7] S1/\kN nL (jj 7) sW [.ref road,t1,.int e,t3,t4,.int u,.int p,a7] S1=.nx [.ref road,t1,.int e,t3,t4,.int u,.int p,a8] S'/\Tab S' road rs' R'/\Road r0 (cB U L M Zi b y L.length) R'/\R'.length<=R.length+(L.length+M.length)/\Kp (·=road) S S'/\∀q∈rs',q∈rs\/S.length<=q:=by
 obtain⟨O,R2,S2,d,m,C,j,W,k,B⟩:=B_ (ic:=nK) (t1:=t1) (t2:=.int e) (t3:=t3) (t4:=t4) (t5:=.int u) (t6:=.int p) (t7:=t7) (lo:=e-1) (hi:=p) (n:=M.length) (S:=S)
  (show nK _ _=_ from yX (S1:=S) (S2:=S) (by dsimp[ji,bools]) (by dsimp[ji,bools]) (by dsimp[ji,bools]) (oJ () ())<|oJ () ()) () (cA U L M Zi b y) h hr hc () λi hi=>⟨U.length+L.length+(M.length-i),by clear hc hl lw hr h;lia,by clear hc hl he hp hu;lia,O8 hi hsM hb⟩
 rw[Ol]at j;obtain⟨g,G,K,f,T,J,F,Y,V,N⟩:=B_ (ic:=nL) (t1:=t1) (t2:=.int e) (t3:=t3) (t4:=t4) (t5:=.int u) (t6:=.int p) (t7:=d) (lo:=p-1) (hi:=u-1) (n:=L.length) (S:=S2)
  (show nL _ _=_ from yX (S1:=S2) (S2:=S2) (by dsimp[ji,bools]) (by dsimp[ji,bools]) (by dsimp[ji,bools]) (oJ () ())<|oJ () ()) () (cB U L M Zi b y) C j hc () λi hi=>⟨U.length+(L.length-i)-1,by clear hc hl lw hr h he;lia,by clear hc hl he hp hu;lia,Qd hi hsL hL hb⟩
 refine⟨g,G,S2,K,d,f,m,T,J,F,by clear he hp hu lw hc;lia,k.trans V,λq P=>?_⟩
 rcases N q P with z|z
 ·exact B q z
 ·exact .inr<|bH k.len z
def KH{S:iK}{tb:Nat}{rs:ag}{R:List<|ae}{r0:ae}{x:Int}{e:Int}(h:Tab S road rs R)(ht:Tab S tb ts T)(dj:∀q∈tb::ts,q≠road)(hs:Kn.J4 T)(hr:Road r0 (Sy.plain T++x::Z) R)(hc:r0.length<=100)(hl:R.length<=800)(he:e=((Sy.plain T).length:Int)) :
  ∃(rs':ag) (R':List<|ae) (S':iK),ow [.ref road,.ref tb,.int e] S=.ok .non S'/\Tab S' road rs' R'/\Road r0 (Sy.plain (Tb.put T x)++Z) R'/\R'.length<=R.length+(Sy.plain T).length/\Kp (·=road) S S'/\∀q∈rs',q∈rs\/S.length<=q:=by
 subst he;have lc:=hr.Nz;have lp:(Sy.plain T).length+Z.length+1=r0.length:=by rw[<- lc];simp;lia
 unfold ow sj qZ;dsimp[ji,bools,nk,Nat.reduceAdd,Nat.reduceSub];refine qO (n:=tb) (xs:=ts.map .ref) (S1:=S) (show sX _ _=_ from m8 (by dsimp[ji,bools]) ht.top)
  (λi τ S1=>∃(y:Int) (f:ae) (j:ag) (F:List<|ae) (a3 a4 a5 a6 N:A),τ=[.ref road,.ref tb,.int ((Sy.plain<|T.drop i).length:Nat),a3,a4,a5,a6,N]/\Tab S1 road j F/\Tab S1 tb ts T/\Road r0 (Sy.plain (T.drop i)++y::f) F/\Sy.plain (Tb.put T x)++Z=Sy.plain (Tb.put (T.drop i) y)++f/\F.length+(Sy.plain<|T.drop i).length<=R.length+(Sy.plain T).length/\Kp (·=road) S S1/\∀q∈j,q∈rs\/S.length<=q)
  (λz=>∃(rs':ag) (R':List<|ae) (S':iK),RS.end z=.ok .non S'/\Tab S' road rs' R'/\Road r0 (Sy.plain (Tb.put T x)++Z) R'/\R'.length<=R.length+(Sy.plain T).length/\Kp (·=road) S S'/\∀q∈rs',q∈rs\/S.length<=q)
  ⟨x,Z,rs,R,_,_,_,_,_,rfl,h,ht,hr,rfl,aM _,Kp.refl,λq G=>.inl G⟩ (λi τ S1 ⟨_,_,_,_,_,_,_,_,_,_,_,g,_⟩=>g.top) ?_ ?_
 ·rintro i z τ S1 hz ⟨y,f,j,F,a3,a4,a5,a6,N,rfl,J,g2,g3,K,g5,P,g7⟩;rw[aR]at hz;obtain⟨r,hr',rfl⟩:=bC.mp hz;obtain⟨hi,C⟩:=g2.rows.get hr';have W:(T.getD i []).Pairwise (·<=·):=hs _ (by rw[aF,aE hi];exact c6 hi);generalize hR:T.getD i []=Rw at C W;have d:T.drop i=Rw::T.drop (i+1):=by
   rw[a_ hi,<- hR,aF,aE hi];rfl
  have O:Sy.plain (T.drop i)=Sy.plain (T.drop<|i+1)++Rw:=by rw[d,Sy.oR]
  generalize hU:Sy.plain (T.drop<|i+1)=U at O;rw[O]at g3 g5 ⊢;have lc1:=g3.Nz;have lw:U.length+Rw.length+f.length+1=r0.length:=by rw[<- lc1];dsimp[aL,bu];lia
  rw[aL]at g5 ⊢;refine⟨[.ref road,.ref tb,.int ((U.length+Rw.length:Nat):Int),.ref r,a4,a5,a6,N],S1,rfl,?_⟩;obtain⟨q,e1,_,G⟩:=Ck J g3.ne;rw[g3.last]at G;have ey:(U++Rw++y::f).getD (U.length+Rw.length) 0=y:=by
   have:=vg (A:=U++Rw) (B:=f) (y:=y)
   rwa [aL]at this
  have e2:mL ((U++Rw++y::f).map A.int) ((U.length+Rw.length:Nat):Int)=some (.int y):=by
   have:=Oj (l:=U++Rw++y::f) (k:=U.length+Rw.length) (i:=((U.length+Rw.length:Nat):Int)) rfl (by simp);rw[ey]at this;exact this
  have e3:=Li (x:=y) C ();have e4:((U.length+Rw.length:Nat):Int)-(Rw.length:Int)=(U.length:Int):=()
  have e5:(U.length:Int)+((Tb.fg Rw y:Nat):Int)=((U.length+Tb.fg Rw y:Nat):Int):=()
  unfold sQ;dsimp[ji,bools,J.top,e1,G,e2,C,aG,e4,e3,e5];by_cases m:Tb.fg Rw y=Rw.length
  ·right;rw[m];dsimp[ji,bools,bR];refine⟨_,_,rfl,j,F,S1,rfl,J,?_,(),P,g7⟩;rw[K,d,Tb.lO m,Sy.oR,hU];have:U++(Rw++[y])++f=U++Rw++y::f:=by simp
   rw[this];exact g3
  ·left;have hlt:=Tb.u9 m;have hne:((((U.length+Tb.fg Rw y:Nat):Int)) == ((U.length+Rw.length:Nat):Int))=false:=by
    rw[c9];lia
   dsimp[ji,bools,hne];obtain⟨L,b,M,Y,hL,hb,hsM,hsL,hfl,hgb,V⟩:=split W m;have lR:Rw.length=L.length+1+M.length:=by rw[Y];simp;lia
   have c0:U++Rw++y::f=cA U L M f b y 0:=by rw[Se,Y]
   rw[c0]at g3;obtain⟨rs3,R3,S2,S3,a7',a7'',k1,m1,m2,m3,m4,kk,m6⟩:=Ea (t1:=.ref tb) (t3:=.ref r) (t4:=.int y) (t7:=N) (e:=((U.length+Rw.length:Nat):Int)) (p:=((U.length+Tb.fg Rw y:Nat):Int)) (u:=(U.length:Int)) J g3 hc () (by rw[<- lR];exact lw) (by rw[lR]) (by rw[hfl]) rfl hsM hb hsL hL;rw[k1];dsimp[ji,bools];rw[m1];dsimp[ji,bools];rw[Ob,<- V]at m3;refine⟨_,_,rfl,b,Rw.set (Tb.fg Rw y) y++f,rs3,R3,_,_,_,_,_,rfl,m2,g2.kp kk dj,m3,?_,(),P.trans kk,λq G=>?_⟩
   ·rw[K,d,Tb.n5 m,Sy.oR,hgb,br]
   ·rcases m6 q G with z|z
    ·exact g7 q z
    ·exact .inr<|bH P.len z
 ·rintro τ S1 ⟨y,f,j,F,a3,a4,a5,a6,N,rfl,J,g2,g3,K,g5,P,g7⟩;rw[aG,ht.len,eN]at g3 K g5;refine⟨j,F,S1,rfl,J,?_,(),P,g7⟩;rw[K];exact g3
end K64
namespace K64
open PySem L2 Am
open Mo Ld
def Mm{n:Nat}{xs:ad}{g:Tg}{c:Sm}{src:Ic}(hs:src τ S=.ok (oV n xs.length) S1)(Inv:Nat->ad->iK->Prop)(J:RS->Prop)(h0:Inv 0 τ S1)(hl:∀i τ S,Inv i τ S->iI S n=some xs)
  (step:∀(i:Nat) x τ S,xs[i]?=some x->Inv i τ S->∃τ1 S1,g (.tup [.int i,x]) τ S=.ok τ1 S1/\((∃τ' S',c τ1 S1=.nx τ' S'/\Inv (i+1) τ' S')\/(∃a S',c τ1 S1=.rt a S'/\J (.rt a S'))))
  (fin:∀τ S,Inv xs.length τ S->J (.nx τ S)):J (kN src g c τ S):=by
 unfold kN;rw[hs];refine rL (s:=oV n xs.length) Inv J (λi τ S d h=>?_) (λτ S h=>⟨?_,fin τ S h⟩) _ 0 τ S1 rfl h0
 ·have d:i<xs.length:=d;obtain⟨τ1,S1,e,q⟩:=step i xs[i] τ S (aE d) h;exact⟨.tup [.int i,xs[i]],τ1,S1,by show(iI S n).bind _=_;rw[hl i τ S h,bB,aE d];rfl,e,q⟩
 ·show(match iI S n with
   | some ys=>decide (ys.length=xs.length)
   | none=>false)=true
  rw[hl _ τ S h];simp
def Bw{S:iK}{xs:ae}(h:iI S L=some (xs.map .int))(hl:xs.length<=12) :
  ∃(rd:Nat) (rs:ag) (R:List<|ae) (S':iK),jy [.ref L] S=.ok (.ref rd) S'/\Tab S' rd rs R/\Road xs (Sy.plain (Tb.tabs xs xs.length).1) R/\R.length<=200/\kC S S'/\∀q∈rd::rs,S.length<=q:=by
 have lL:=jQ h;have W:decide ((xs.length:Int)>12)=false:=aZ ();obtain⟨k,d⟩:∃k,k=S++[O.lst<|xs.map A.int]++[O.lst [.ref S.length]]++[O.lst []]:=⟨_,rfl⟩;have k0:kC S k:=by rw[d];exact Kp.refl.lay.lay.lay
 have F:(S++[O.lst<|xs.map A.int]).length=S.length+1:=by rw[aL];rfl
 have V:(S++[O.lst<|xs.map A.int]++[O.lst [.ref S.length]]).length=S.length+2:=by rw[aL,F];rfl
 have l3:k.length=S.length+3:=by rw[d,aL,V];rfl
 have hR0:Tab k (S.length+1) [S.length] [xs]:=by
  refine⟨?_,⟨?_,trivial⟩,by simp⟩
  ·rw[d,<- F];exact jE iY
  ·rw[d];exact jE<|jE iY
 have M:Tab k (S.length+2) [] []:=Tab.nil (by rw[d,<- V];exact iY);have h0:=k0.lst _ _ (λz=>z) h;have hs:nO [.ref L,.ref<|S.length+1,.ref<|S.length+2,.unb,.unb] k=.ok (oV L (xs.map A.int).length) k:=xo (by dsimp[ji,bools]) h0;have q0:∀q∈(S.length+2)::([]:ag),q≠S.length+1:=λq f=>by
  have:q=S.length+2:=by simpa using f
  lia
 have q1:∀q∈[S.length],S.length<=q:=λq f=>by
  have:q=S.length:=by simpa using f
  lia
 unfold jy l_ mK;dsimp[ji,Kg,bools,nk,Nat.reduceAdd,Nat.reduceSub,h,aG,W,j4<|show(xs.map A.int).length<=16777216 by rw[aG];lia,F,V,<- d];refine Mm hs
  (λi τ S1=>∃(rs:ag) (R:List<|ae) (tb:Nat) (ts:ag) (K G:A),τ=[.ref L,.ref<|S.length+1,.ref tb,K,G]/\Tab S1 (S.length+1) rs R/\Tab S1 tb ts (Tb.tabs xs i).1/\(∀q∈tb::ts,q≠S.length+1)/\Road xs (Sy.plain (Tb.tabs xs i).1++xs.drop i) R/\R.length<=1+12 * i/\kC S S1/\∀q∈rs,S.length<=q)
  (λz=>∃(rd:Nat) (rs:ag) (R:List<|ae) (S':iK),RS.end (RS.seq z _)=.ok (.ref rd) S'/\Tab S' rd rs R/\Road xs (Sy.plain (Tb.tabs xs xs.length).1) R/\R.length<=200/\kC S S'/\∀q∈rd::rs,S.length<=q)
  ⟨_,_,_,_,_,_,rfl,hR0,M,q0,Road.one xs,aM _,k0,q1⟩
  (λi τ S1 ⟨_,_,_,_,_,_,_,_,_,_,_,_,g,_⟩=>g.lst _ _ (λz=>z) h) ?_ ?_
 ·rintro i z τ S1 hz ⟨rs,R,tb,ts,K,G,rfl,Y,g2,P,p,g5,C,J⟩;rw[aR]at hz;obtain⟨y,hy,rfl⟩:=bC.mp hz;obtain⟨hi,Z⟩:=aI.mp hy;refine⟨[.ref L,.ref<|S.length+1,.ref tb,.int i,.int y],S1,?_,.inl ?_⟩
  ·dsimp[ji,bools,mO<|show([_,_]:ad).length=2 from rfl]
  have hd:xs.drop i=y::xs.drop (i+1):=by rw[a_ hi,Z]
  have pl:(Sy.plain (Tb.tabs xs i).1).length=i:=by rw[Sy.plain_len,Tb.qN]
  have B:Kn.J4 (Tb.tabs xs i).1:=by rw[Mo.kL _ _ ()];exact Mo.uJ λ_ h=>absurd h (by simp)
  rw[hd]at p;obtain⟨z1,z2⟩:=Tb.qd xs i;obtain⟨U,R2,S2,e2,t2,r2,n2,k2,f2⟩:=KH (e:=(i:Int)) Y g2 P B p () () ();have T:=g2.kp k2 P;obtain⟨qs,m,S3,e3,t3,k3,f3⟩:=DC (x:=y) T () (λj=>by have:=z2 j;lia);have lr:=t2.lt _<|aK ..;have lS1:=C.len;have N:kC S S2:=((C.of0 (b:=(·=S.length+1))).trans k2).mono λn hn (f:n=S.length+1)=>()
  have et:(Tb.tabs xs<|i+1).1=Tb.put (Tb.tabs xs i).1 y:=by
   show Tb.put (Tb.tabs xs i).1 (xs.getD i 0)=_;rw[aF,hy];rfl
  unfold nA;dsimp[ji,bools,e2,e3];refine⟨_,_,rfl,U,R2,m,qs,_,_,rfl,t2.Mk k3,by rw[et];exact t3,λq f=>?_,by rw[et];exact r2,(),N.trans k3,λq f=>?_⟩
  ·have:=f3 q f;lia
  ·rcases f2 q f with z|z
   ·exact J q z
   ·lia
 ·rintro τ S1 ⟨rs,R,tb,ts,K,G,rfl,Y,g2,P,p,g5,C,J⟩;rw[aG,eN,bJ]at p;rw[aG]at g5;dsimp[ji,bools];exact⟨_,rs,R,S1,rfl,Y,p,(),C,λq f=>by
   rcases aY.mp f with z|z
   ·lia
   ·exact J q z⟩
theorem LI{r:Nat}{R:ae}(h:iI S r=some (R.map .int)):∀(k t:Nat) (x1:A),k+t=R.length->∃x1',mC (jq r R.length) (jj 1) lX (iH 1) k t [a0,x1] S=.ok ((R.drop t).map .int,[a0,x1']) S
 | 0,t,x1,e=>by
  refine⟨x1,?_⟩;have hf:(jq r R.length).fin S=true:=by
   show(match iI S r with
    | some ys=>decide (ys.length<=R.length)
    | none=>false)=true
   rw[h];simp
  unfold mC;rw[aN hf,b_ ()];rfl
 | k+1,t,x1,e=>by
  have d:t<R.length:=()
  obtain⟨x1',e1⟩:=LI (a0:=a0) h k (t+1) (.int R[t]) ();refine⟨x1',?_⟩;have hg:(jq r R.length).get t S=some (.int R[t]):=by
   show(iI S r).bind _=_;rw[h,bB,aR,aE d];rfl
  unfold mC;dsimp[ji,bools,hg,e1];rw[a_ d];rfl
theorem HE{n:Nat}{T:List<|ae}(h:Tab S n rs T):∀(k t:Nat) (x0 x1:A),k+t=T.length->kH (qq n T.length) (jj 0) lX (l5<|iH 0) (jj 1) lX (iH 1) k t [x0,x1] S=.ok ((T.reverse.drop t).flatten.map .int) S
 | 0,t,x0,x1,e=>by
  unfold kH;rw[aN<|show(qq n T.length).fin S=true from rfl,b_<|by rw[dc];lia];rfl
 | k+1,t,x0,x1,e=>by
  have f:t<T.length:=()
  have m:=h.len;have hi:T.length-1-t<rs.length:=()
  have d:=(h.rows.get (i:=T.length-1-t) (r:=rs[T.length-1-t])<|aE hi).2;have j:T.getD (T.length-1-t) []=T.reverse[t]'(by rw[dc];exact f):=by
   rw[aF,aE<|show T.length-1-t<T.length by lia,List.getElem_reverse];rfl
  rw[j]at d;have hg:(qq n T.length).get t S=some (.ref rs[T.length-1-t]):=by
   show(iI S n).bind _=_;rw[h.top,bB,aN f,aR,aE hi];rfl
  obtain⟨g,e1⟩:=LI (a0:=.ref rs[T.length-1-t]) d (T.reverse[t]'(by rw[dc];exact f)).length 0 x1 rfl;have e2:=HE h k (t+1) (.ref rs[T.length-1-t]) g ();have hs:l5 (iH 0) [.ref rs[T.length-1-t],x1] S=.ok (jq rs[T.length-1-t] ((T.reverse[t]'(by rw[dc];exact f)).map A.int).length) S:=m8 (by dsimp[ji,bools]) d;rw[aG]at hs;unfold kH;dsimp[ji,bools,hg,hs];show R.jD (mC (jq rs[T.length-1-t] (T.reverse[t]'(by rw[dc];exact f)).length) (jj 1) lX (iH 1) (T.reverse[t]'(by rw[dc];exact f)).length 0 [.ref rs[T.length-1-t],x1] S) _=_;rw[e1,R.i9];show R.jD (kH (qq n T.length) (jj 0) lX (l5<|iH 0) (jj 1) lX (iH 1) k (t+1) [.ref rs[T.length-1-t],g] S) _=_;rw[e2,R.i9,gS,a_<|show t<T.reverse.length by rw[dc];exact f,dI,bE]
def HS{S:iK}{n:Nat}(h:Tab S n rs T)(J:(Sy.plain T).length<=1000):lV [.ref n] S=.ok (.ref S.length) (S++[.lst<|(Sy.plain T).map .int]):=by
 have e:=HE h T.length 0 .unb .unb rfl;rw[gS]at e;have hs:OP (iH 0) [.ref n] S=.ok (qq n (rs.map A.ref).length) S:=MZ (by dsimp[ji,bools]) h.top;rw[aG,h.len]at hs;have d:wU [none,none] (OP<|iH 0) (jj 0) lX (l5<|iH 0) (jj 1) lX (iH 1) [.ref n] S=.ok (.ref S.length) (S++[.lst<|(Sy.plain T).map .int]):=by
  unfold wU;rw[hs,R.jv];show R.jD (kH (qq n T.length) _ _ _ _ _ _ T.length 0 [.unb,.unb] S) _=_;rw[e,R.i9,ju<|by rw[aG];exact bH J ⋯];rfl
 unfold lV pG pq;dsimp[ji,bools,nk,Nat.reduceAdd,Nat.reduceSub,d]
end K64
namespace K64
open PySem L2 Am
open Mo
def MF{k:Nat}{r:ae}(h:iI S L=some (r.map .int))(J:k+1<r.length):jT [.ref L,.int k] S=.ok (.bl<|may r k) S:=by
 have q:mL (r.map A.int) (k:Int)=some (.int<|r.getD k 0):=Oj rfl ();have p:mL (r.map A.int) ((k:Int)+1)=some (.int<|r.getD (k+1) 0):=Oj (k:=k+1) () J;have j:(if r.getD (k+1) 0<r.getD k 0 then r.getD (k+1) 0 else r.getD k 0)=lo r k:=rfl;have d:(if r.getD (k+1) 0>r.getD k 0 then r.getD (k+1) 0 else r.getD k 0)=hi r k:=rfl;have e2:(Hy (iQ La (iH 1)<|eC<|.int 0)<|Lw Eo Ll (iH 2) (iQ m9 (iH 0)<|iQ aSub (iH 1)<|eC<|.int 1)<|iH 3) [.ref L,.int k,.int<|lo r k,.int<|hi r k] S=.ok (.bl<|c2 r k) S:=by
  unfold c2;by_cases c:0<k
  ·have z:mL (r.map A.int) ((k:Int)-1)=some (.int<|r.getD (k-1) 0):=Oj (k:=k-1) () ();have m:=OS (f:=Eo) (g:=Ll) (ca:=iH 2) (cb:=iQ m9 (iH 0)<|iQ aSub (iH 1)<|eC<|.int 1) (cc:=iH 3) (τ:=[.ref L,.int k,.int<|lo r k,.int<|hi r k]) (S:=S) (a:=.int<|lo r k) (b:=.int<|r.getD (k-1) 0) (c:=.int<|hi r k) (x:=decide<|lo r k<r.getD (k-1) 0) (y:=decide<|r.getD (k-1) 0<=hi r k) rfl (by dsimp[ji,bools,h,z]) (by dsimp[ji]) rfl (by dsimp[ji]);dsimp[ji,bools,bf<|show(k:Int)>0 by lia,m,bf c,g9]
  ·dsimp[ji,bools,aZ<|show ¬(k:Int)>0 by lia,aZ c,Bool.false_and]
 unfold jT oA oQ may;by_cases c:k+2<r.length
 ·have z:mL (r.map A.int) ((k:Int)+2)=some (.int<|r.getD (k+2) 0):=Oj (k:=k+2) () c;have m:=OS (f:=Ll) (g:=Eo) (ca:=iH 2) (cb:=iQ m9 (iH 0)<|iQ jK (iH 1)<|eC<|.int 2) (cc:=iH 3) (τ:=[.ref L,.int k,.int<|lo r k,.int<|hi r k]) (S:=S) (a:=.int<|lo r k) (b:=.int<|r.getD (k+2) 0) (c:=.int<|hi r k) (x:=decide<|lo r k<=r.getD (k+2) 0) (y:=decide<|r.getD (k+2) 0<hi r k) rfl (by dsimp[ji,bools,h,z]) (by dsimp[ji]) rfl (by dsimp[ji]);have e1:c1 r k=(decide (lo r k<=r.getD (k+2) 0) && decide (r.getD (k+2) 0<hi r k)):=by unfold c1;rw[bf c,g9]
  rw[e1]
  cases B:(decide (lo r k<=r.getD (k+2) 0) && decide (r.getD (k+2) 0<hi r k))
  ·rw[B]at m;rw[gE,<- e2];dsimp[ji,bools,nk,Nat.reduceAdd,Nat.reduceSub,h,q,p,j,d,aG,bf<|show(k:Int)+2<(r.length:Int)by lia,m];dsimp[ji,bools,nk,Nat.reduceAdd,Nat.reduceSub,h,q,p,j,d]at e2 ⊢;rw[e2];rfl
  ·rw[B]at m;dsimp[ji,bools,nk,Nat.reduceAdd,Nat.reduceSub,h,q,p,j,d,aG,bf<|show(k:Int)+2<(r.length:Int)by lia,m,Bool.true_or]
 ·have e1:c1 r k=false:=by unfold c1;rw[aZ c];rfl
  rw[e1,gE];dsimp[ji,bools,nk,Nat.reduceAdd,Nat.reduceSub,h,q,p,j,d,aG,aZ<|show ¬(k:Int)+2<(r.length:Int)by lia];dsimp[ji,bools,nk,Nat.reduceAdd,Nat.reduceSub]at e2;rw[e2];rfl
open Mo
theorem oi{s:Src}{g:Tg}{t:Te}{e:Ex}{T:ad->Prop}(P:Nat->ad->iK->Prop)(p:Nat->Bool)
  (step:∀i acc τ S,i<s.k->T τ->P i acc S->∃x τ1 S1 S2,s.get i S=some x/\g x τ S=.ok τ1 S1/\T τ1/\t τ1 S1=.ok (p i) S2/\(p i=false->P (i+1) acc S2)/\(p i=true->∃y S3,e τ1 S2=.ok y S3/\P (i+1) (acc++[y]) S3)) (J:∀acc S,P s.k acc S->s.fin S=true) :
  ∀k i acc τ S,k+i=s.k->T τ->P i acc S->∃ys S',jt s g t e k i τ S=.ok ys S'/\P s.k (acc++ys) S'
 | 0,i,acc,τ,S,hk,hT,hP=>by
  have:i=s.k:=()
  subst this;exact⟨[],S,by unfold jt;rw[aN<|J acc S hP],by rw[bJ];exact hP⟩
 | k+1,i,acc,τ,S,hk,hT,hP=>by
  obtain⟨x,τ1,S1,S2,B,hg,d,C,F,j⟩:=step i acc τ S () hT hP;unfold jt;rw[B,iZ,hg,R.i9,C,R.i9]
  cases q:p i with
  | false=>
   obtain⟨ys,S',h1,f⟩:=oi P p step J k (i+1) acc τ1 S2 () d<|F q;exact⟨ys,S',by simpa using h1,f⟩
  | true=>
   obtain⟨y,S3,z,m⟩:=j q;obtain⟨ys,S',h1,f⟩:=oi P p step J k (i+1) (acc++[y]) τ1 S3 () d m;refine⟨y::ys,S',?_,by rw[br]at f;exact f⟩;show(e τ1 S2).jD _=_;rw[z,R.i9,h1];rfl
theorem uv:∀{rs:ag}{T:List<|ae},Rows S rs T->OG S (rs.map .ref)=some T
 | [],[],_=>rfl
 | r::rs,x::T,h=>by
  show((iI S r).bind λxs=>(A.ints xs).bind λks=>(OG S<|rs.map .ref).map λq=>ks::q)=_;rw[h.1,bB,ints_map,bB,uv h.2];rfl
 | [],x::T,h=>h.elim
 | r::rs,[],h=>h.elim
def getD_inj{rs:ag}(J:rs.Nodup)(hi:i<rs.length)(hj:j<rs.length)(h:rs.getD i 0=rs.getD j 0):i=j:=by
 rw[aF,aF,aE hi,aE hj]at h;exact(fB J).mp h
def pD{T:List<|ae}{i:Nat}(h:i∈Aq T):i<T.length:=bW.mp<|(mV _ _).mem_iff.mp h
def II{S:iK}{n:Nat}{J:ag}(h:Tab S n J T):∃fs:ag,sC (.ref n) S=.ok (.ref S.length) (S++[.lst<|fs.map .ref])/\Tab (S++[.lst<|fs.map .ref]) S.length fs (kg T)/\∀q∈fs,q∈J:=by
 have B:=h.len;have d:=h.rows.lt;have f:∀i,i<T.length->J.getD i 0∈J:=λi hi=>by rw[aF,aE ()];exact c6 _
 refine⟨(Aq T).map λi=>J.getD i 0,?_,⟨iY,?_,?_⟩,λq p=>?_⟩
 ·show rB n S=_;unfold rB;rw[h.top,iZ,uv h.rows,iZ,cX];have:(Aq T).map (λi=>(J.map A.ref).getD i .non)=(Aq T).map (A.ref ∘ λi=>J.getD i 0):=eG λi hi=>by
   have:=pD hi;show(J.map A.ref).getD i .non=.ref (J.getD i 0);rw[aF,aR,aE (),aF,aE ()];rfl
  rw[this]
 ·rw[<- zH T];have:∀(l:ag),(∀i∈l,i<T.length)->Rows (S++[.lst<|((Aq T).map λi=>J.getD i 0).map .ref]) (l.map λi=>J.getD i 0) (l.map λi=>T.getD i []):=by
   intro l
   induction l with
   | nil=>intro _;trivial
   | cons i l m=>
    intro g;refine⟨jE ?_,m λj k=>g j<|aJ _ k⟩;have hi:=g i<|aK ..;exact(h.rows.get (i:=i) (r:=J.getD i 0)<|by rw[aF,aE ()];rfl).2
  exact this _ λi hi=>pD hi
 ·rw[bL];refine⟨λz=>?_,?_⟩
  ·obtain⟨i,hi,e⟩:=bU.mp z;have:=d _ (f i<|pD hi)
   lia
  ·unfold List.Nodup;rw[ee];have nd:(Aq T).Nodup:=(mV _ _).nodup_iff.mpr gB;exact fO (λ{a b} ha hb hab z=>hab<|getD_inj (bL.mp h.nd).2 (by have:=pD ha;lia) (by have:=pD hb;lia) z) nd
 ·obtain⟨i,hi,rfl⟩:=bU.mp p;exact f i<|pD hi
def nN(p:Nat->Bool)(i:Nat):(List.range<|i+1).filter p=(List.range i).filter p++(if p i=true then[i]else[]):=by
 rw[List.range_succ,List.filter_append];congr 1;by_cases c:p i=true
 ·rw[aN c,List.filter_cons_of_pos c];rfl
 ·rw[aO c,List.filter_cons_of_neg c];rfl
def E1{S:iK}{r:ae}(h:iI S L=some (r.map .int))(hl:r.length<=100):∃(F:Nat) (fs:ag) (S':iK),qR [.ref L] S=.ok (.ref F) S'/\Tab S' F fs (kg<|qW r)/\kC S S'/\∀q∈F::fs,S.length<=q:=by
 obtain⟨ys,S1,g1,rs,p,d,m,f,hL1,O⟩:=oi (s:=m_ 0<|(r.length:Int)-1) (g:=jj 0) (t:=Fq<|eFn jT<|iJ (iH 1)<|iJ (iH 0)<|iU) (e:=eFn j5<|iJ (iH 1)<|iJ (iH 0)<|iU) (T:=λτ=>∃y,τ=[y,.ref L])
  (λi acc T=>∃rs:ag,acc=rs.map .ref/\Rows T rs (((List.range i).filter<|may r).map<|chg r)/\rs.Nodup/\(∀q∈rs,S.length<=q)/\iI T L=some (r.map .int)/\kC S T) (may r)
  (λi acc τ T hi ⟨y,hy⟩ ⟨rs,U,J,m,f,B,K⟩=>by
   have hi:i<((r.length:Int)-1-0).toNat:=hi;subst hy;have P:i+1<r.length:=()
   have em:=MF B P;refine⟨.int<|0+(i:Int),[.int<|0+(i:Int),.ref L],T,T,aN hi,rfl,⟨_,rfl⟩,by rw[show(0:Int)+(i:Int)=i by lia];dsimp[ji,bools,em],λM=>?_,λM=>?_⟩
   ·refine⟨rs,U,?_,m,f,B,K⟩;rw[nN,M];simpa using J
   ·obtain⟨T',e,g,kp,n⟩:=uP B P hl;refine⟨.ref<|T.length+4,T',by rw[show(0:Int)+(i:Int)=i by lia];dsimp[ji,bools,e],rs++[T.length+4],by rw[U,bE];rfl,?_,?_,λq N=>?_,kp.lst _ _ (λz=>z) B,K.trans kp⟩
    ·rw[nN,M,bE];exact(J.mono λq _ xs e=>kp.lst q xs (λz=>z) e).app ⟨g,trivial⟩
    ·rw[d_];refine⟨m,by simp,λa C b W z=>?_⟩;have hb':b=T.length+4:=by simpa using W
     have:=J.lt a C
     lia
    ·have Z:=K.len
     rcases aV.mp N with z|z
     ·exact f q z
     ·have:q=T.length+4:=by simpa using z
      lia)
  (λacc T _=>rfl) ((r.length:Int)-1-0).toNat 0 [] (mG [none,some 0] [.ref L]) S rfl ⟨_,rfl⟩ ⟨[],rfl,trivial,iC,(nofun),h,Kp.refl⟩
 rw[cI]at p;have d:Rows S1 rs (qW r):=by
  have e:(m_ 0<|(r.length:Int)-1).k=r.length-1:=by show((r.length:Int)-1-0).toNat=_;lia
  rw[e]at d;exact d
 have Y:=d.len;have ml:(qW r).length<=100:=by
  unfold qW;rw[aG];have:=ff (may r)<|List.range<|r.length-1;rw[cF]at this
  lia
 have V:jH [none,some 0] (n6<|iQ aSub (ja (f1 nv)<|iJ (iH 0)<|iU)<|eC<|.int 1) (jj 0) (Fq<|eFn jT<|iJ (iH 1)<|iJ (iH 0)<|iU) (eFn j5<|iJ (iH 1)<|iJ (iH 0)<|iU) [.ref L] S=.ok (.ref S1.length) (S1++[.lst<|rs.map .ref]):=by
  unfold jH;rw[oZ (S1:=S) (j:=(r.length:Int)-1) (by dsimp[ji,bools,h,aG])<|oJ () (),R.jv];show R.jD (jt (m_ 0<|(r.length:Int)-1) _ _ _ ((r.length:Int)-1-0).toNat 0 _ _) _=_;rw[g1,R.i9,p,ju<|by rw[aG];lia]
 have t1:Tab (S1++[.lst<|rs.map .ref]) S1.length rs (qW r):=⟨iY,d.mono λq _ xs e=>jE e,bL.mpr ⟨λz=>by have:=d.lt _ z;lia,m⟩⟩;obtain⟨fs,e2,t2,G⟩:=II t1;have Z:=O.len;refine⟨_,fs,_,?_,t2,O.lay.lay,λq N=>?_⟩
 ·unfold qR w4 yb;dsimp[ji,bools,nk,Nat.reduceAdd,Nat.reduceSub,V,e2]
 ·rcases aY.mp N with rfl|z
  ·rw[aL];lia
  ·exact f q<|G q z
end K64
namespace Sy
open Tb
abbrev ls (r:ae)(y:Int):Nat:=(r.findIdx λz=>decide<|y<=z)-1
abbrev ng:List (ae)->Nat->Int×List (ae)
 | [],_=>(0,[])
 | r::T,0=>(r.getLastD 0,r.dropLast::T)
 | r::T,a+1=>(r.getD (ls r (ng T a).1) 0,r.set (ls r (ng T a).1) (ng T a).1::(ng T a).2)
abbrev pad (T:List<|ae)(n:Nat):List (ae):=T++List.replicate (n-T.length) []
def Qs{r:ae}{y:Int}{p:Nat}(hp:p<r.length)(h1:∀j z,j<=p->r[j]?=some z->z<y)(J:∀j z,p<j->r[j]?=some z->y<=z):ls r y=p:=by
 have a:¬r.findIdx (λz=>decide<|y<=z)<=p:=λc=>by
  have d:r.findIdx (λz=>decide<|y<=z)<r.length:=()
  have:=eg (xs:=r) (p:=λz=>decide<|y<=z) (w:=d);have:=h1 _ _ c<|aE d;simp at *;lia
 have b:r.findIdx (λz=>decide<|y<=z)<=p+1:=by
  rcases fE (p+1) (r.findIdx λz=>decide<|y<=z)with c|c
  ·exfalso;have d:p+1<r.length:=by have:=gh (xs:=r) (p:=λz=>decide<|y<=z);lia
   have q:=dR (xs:=r) (p:=λz=>decide<|y<=z) (i:=p+1) c;have:=J (p+1) _ (cE _)<|aE d;simp at q;lia
  ·exact c
 unfold ls
 lia
def pS{r:ae}(h:Eu r){i j:Nat}{x y:Int}(J:i<=j)(hx:r[i]?=some x)(hy:r[j]?=some y):x<=y:=by
 rcases Nat.lt_or_eq_of_le J with c|c
 ·obtain⟨hi,e1⟩:=aI.mp hx;obtain⟨d,e2⟩:=aI.mp hy;rw[<- e1,<- e2];exact cG.mp h i j hi d c
 ·subst c;rw[hx]at hy;cases hy;exact gX _
theorem Cz:∀{T:List<|ae}{x:Int},(∀r∈T,Eu r)->ng (put T x) (row T x)=(x,pad T (put T x).length)
 | [],x,_=>rfl
 | r::T,x,h=>by
  by_cases c:fg r x=r.length
  ·rw[lO c,pT c];show((r++[x]).getLastD 0,(r++[x]).dropLast::T)=_;unfold pad;simp
  ·have g:=u9 c;have hy:r[fg r x]?=some (r.getD (fg r x) 0):=by rw[aF,aE g];rfl
   have k:=zc hy;have B:=Cz (T:=T) (x:=r.getD (fg r x) 0) λq p=>h q<|aJ _ p;have C:=h r<|aK ..;rw[n5 c,rW c];have e:ls (r.set (fg r x) x) (r.getD (fg r x) 0)=fg r x:=by
    refine Qs (by rw[bD];exact g) (λj z m f=>?_) λj z m f=>?_
    ·rcases Nat.lt_or_eq_of_le m with d|d
     ·rw[bz ()]at f;have:=oz d f
      lia
     ·rw[d,bF g]at f
      cases f;exact k
    ·rw[bz ()]at f;exact pS C (dh m) hy f
   show((r.set (fg r x) x).getD (ls _ (ng (put T _)<|row T _).1) 0,(r.set (fg r x) x).set (ls _ (ng (put T _)<|row T _).1) (ng (put T _)<|row T _).1::(ng (put T _)<|row T _).2)=_;rw[B];show((r.set (fg r x) x).getD (ls _<|r.getD (fg r x) 0) 0,(r.set (fg r x) x).set (ls _<|r.getD (fg r x) 0) (r.getD (fg r x) 0)::pad T _)=_;rw[e,set_set];refine Prod.ext ?_ ?_
   ·show(r.set (fg r x) x).getD (fg r x) 0=x;rw[aF,bF g];rfl
   ·show r.set (fg r x) (r.getD (fg r x) 0)::pad T _=pad (r::T) _;have:r.set (fg r x) (r.getD (fg r x) 0)=r:=by
     rw[aF,aE g];exact List.set_getElem_self g
    rw[this];unfold pad;rw[bu,bu,gw];rfl
def Jw{r:ae}{y z:Int}{q:Nat}(h:Eu r)(J:r[q]?=some z)(hlt:z<y):q<=ls r y/\ls r y<r.length/\(∀j z,j<=ls r y->r[j]?=some z->z<y)/\∀j z,ls r y<j->r[j]?=some z->y<=z:=by
 have B:=(aI.mp J).1;have le:=gh (xs:=r) (p:=λz=>decide<|y<=z);have b:∀j w,j<r.findIdx (λz=>decide<|y<=z)->r[j]?=some w->w<y:=λj w f hw=>by
  have m:=dR (xs:=r) (p:=λz=>decide<|y<=z) (i:=j) f;obtain⟨d,e⟩:=aI.mp hw;rw[e]at m;simp at m;lia
 have a:q<r.findIdx λz=>decide (y<=z):=by
  rcases fE q (r.findIdx λz=>decide<|y<=z)with c|c
  ·exact c
  ·exfalso;have d:r.findIdx (λz=>decide<|y<=z)<r.length:=()
   have m:=eg (xs:=r) (p:=λz=>decide<|y<=z) (w:=d);have:=pS h c (aE d) J;simp at m;lia
 refine⟨by unfold ls;lia,by unfold ls;lia,λj w f hw=>b j w (by unfold ls at f;lia) hw,λj w f hw=>?_⟩;have g:r.findIdx (λz=>decide<|y<=z)<=j:=by unfold ls at f;lia
 have k:=(aI.mp hw).1;have d:r.findIdx (λz=>decide<|y<=z)<r.length:=()
 have m:=eg (xs:=r) (p:=λz=>decide<|y<=z) (w:=d);have:=pS h g (aE d) hw;simp at m;lia
def OB{r:ae}(h:∀(i j:Nat) (x y:Int),i<j->r[i]?=some x->r[j]?=some y->x<=y):Eu r:=
 cG.mpr λi j hi f d=>h i j _ _ d (aE hi)<|aE f
abbrev xW (T:List<|ae)(a:Nat):Prop:=a<T.length/\∀u,T[a+1]?=some u->u.length<(T.getD a []).length
theorem Du:∀{T:List<|ae}{a:Nat},o6 T->xW T a->∃T',o6 T'/\(ng T a).2=pad T' T.length/\put T' (ng T a).1=T/\row T' (ng T a).1=a/\T'.length<=T.length /\
  ∃(u:ae) (q:Nat),T.head?=some u/\u[q]?=some (ng T a).1/\∀u',T'.head?=some u'->u'.length<=u.length/\(∀(j:Nat) (z:Int),q<=j->u'[j]?=some z->(ng T a).1<z)/\∀(j:Nat) (z:Int),u'[j]?=some z->∃z0,u[j]?=some z0/\z0<=z
 | [],a,_,c=>absurd c.1 (cK _)
 | r::T,0,h,c=>by
  obtain⟨h1,C,V,L⟩:=h;have rl:0<r.length:=fJ.mpr h1;have f:r[r.length-1]?=some (r.getLastD 0):=by
   rw[List.getLastD_eq_getLast?,List.getLast?_eq_getElem?];rw[aE ()];rfl
  have app:r.dropLast++[r.getLastD 0]=r:=by
   rw[List.getLastD_eq_getLast?,List.getLast?_eq_some_getLast h1];exact dO h1
  have dl:r.dropLast.length=r.length-1:=List.length_dropLast;have G:∀j z,r.dropLast[j]?=some z->j<r.length-1/\r[j]?=some z:=λj z d=>by
   have F:=(aI.mp d).1;refine⟨(),?_⟩;rw[<- app,bw F];exact d
  show ∃T',o6 T'/\r.dropLast::T=pad T' (T.length+1)/\put T' (r.getLastD 0)=r::T/\row T' (r.getLastD 0)=0/\T'.length<=T.length+1/\∃(u:ae) (q:Nat),some r=some u/\u[q]?=some (r.getLastD 0)/\_;by_cases e:r.dropLast=[]
  ·have rl1:r.length=1:=by rw[e]at dl;simp at dl;lia
   have eT:T=[]:=by
    cases T with
    | nil=>rfl
    | cons u U=>
     have:=c.2 u rfl;have nz:=fJ.mpr L.1;simp at this
     lia
   subst eT;refine⟨[],trivial,by rw[e];rfl,?_,rfl,bQ _,r,r.length-1,rfl,f,λu' k=>by cases k⟩;show[[r.getLastD 0]]=[r];rw[e]at app;rw[<- app];rfl
  ·have Z:fg r.dropLast (r.getLastD 0)=r.dropLast.length:=by
    rcases fE (fg r.dropLast<|r.getLastD 0) r.dropLast.length with z|z
    ·exfalso;have g:=aE z;have Y:=zc g;have g2:=G _ _ g;have:=pS C (dh g2.1) g2.2 f
     lia
    ·exact Nat.le_antisymm (Dk _ _) z
   refine⟨r.dropLast::T,⟨e,C.sublist<|List.dropLast_sublist _,λu k=>⟨?_,λj x y K hy=>(V u k).2 j x y (G j x K).2 hy⟩,L⟩,?_,?_,pT Z,aM _,r,r.length-1,rfl,f,λu' k=>?_⟩
   ·have:=c.2 u (by rw[fY,<- List.head?_eq_getElem?];exact k);simp at this
    lia
   ·unfold pad;simp
   ·rw[lO Z,app]
   ·cases k
    exact⟨(),λj z F d=>absurd (G j z d).1 (),λj z d=>⟨z,(G j z d).2,gX _⟩⟩
 | r::T,a+1,h,c=>by
  obtain⟨h1,C,V,L⟩:=h;have c':xW T a:=⟨by have:=c.1;simp at this;lia,λu k=>by have:=c.2 u (by rw[fY];exact k);simpa using this⟩;obtain⟨T',t1,t2,t3,t4,t5,u,q,k,hq,hh⟩:=Du L c';generalize hy:(ng T a).1=y at *
  have J:=V u k;have ql:=(aI.mp hq).1;have qr:q<r.length:=by have:=J.1;lia
  have rq:r[q]?=some r[q]:=aE qr;obtain⟨s1,O,s3,s4⟩:=Jw C rq<|J.2 q _ _ rq hq;generalize hP:ls r y=P at *
  have M:r[P]?=some (r.getD P 0):=by rw[aF,aE O];rfl
  generalize K:r.getD P 0=x at *
  have xy:=s3 P x (aM _) M;have p:(r.set P y)[P]?=some y:=bF O;have B:∀j,j≠P->(r.set P y)[j]?=r[j]?:=λj F=>bz<|eE F;have N:fg (r.set P y) x=P:=by
   have l1:=EF p xy
   rcases fE (fg (r.set P y) x) P with z|z
   ·exfalso;have hl:fg (r.set P y) x<(r.set P y).length:=by rw[bD];lia
    have g:=aE hl;have Y:=zc g;rw[B _ ()]at g;have:=pS C (dh z) g M
    lia
   ·lia
  have tk:ng (r::T) (a+1)=(x,r.set P y::(ng T a).2):=by
   show(r.getD (ls r (ng T a).1) 0,r.set (ls r (ng T a).1) (ng T a).1::(ng T a).2)=_;rw[hy,hP,K]
  rw[tk];refine⟨r.set P y::T',⟨λz=>h1<|dJ.mp<|by rw[<- bD (i:=P) (a:=y),z];rfl,OB λi j v w W hv hw=>?_,λu' m=>⟨?_,λj v w hv hw=>?_⟩,t1⟩,?_,?_,?_,by simpa using t5,r,P,rfl,M,λu' m=>?_⟩
  ·by_cases e1:i=P
   ·rw[e1,p]at hv;cases hv;rw[B j ()]at hw;exact s4 j w () hw
   ·rw[B i e1]at hv;by_cases e2:j=P
    ·rw[e2,p]at hw;cases hw;have:=s3 i v () hv
     lia
    ·rw[B j e2]at hw;exact pS C (dh W) hv hw
  ·have:=(hh u' m).1;have:=J.1;rw[bD];lia
  ·obtain⟨_,k2,k3⟩:=hh u' m;by_cases e1:j=P
   ·rw[e1,p]at hv;cases hv;exact k2 j w () hw
   ·rw[B j e1]at hv;obtain⟨z0,Y,g2⟩:=k3 j w hw;have:=J.2 j v z0 hv Y
    lia
  ·show r.set P y::(ng T a).2=_;rw[t2];unfold pad;rw[bu,bu,gw];rfl
  ·show put (r.set P y::T') x=r::T;rw[n5<|by rw[N,bD];lia,N,set_set];have g:(r.set P y).getD P 0=y:=by rw[aF,p];rfl
   rw[g,t3,<- K];congr 1;rw[aF,aE O];exact List.set_getElem_self O
  ·show row (r.set P y::T') x=a+1;rw[rW<|by rw[N,bD];lia,N];have g:(r.set P y).getD P 0=y:=by rw[aF,p];rfl
   rw[g,t4]
  ·cases m
   refine⟨by rw[bD];exact aM _,λj z F d=>?_,λj z d=>?_⟩
   ·by_cases e1:j=P
    ·rw[e1,p]at d;cases d;exact xy
    ·rw[B j e1]at d;have:=s4 j z () d
     lia
   ·by_cases e1:j=P
    ·rw[e1,p]at d;cases d;exact⟨x,by rw[e1];exact M,()⟩
    ·rw[B j e1]at d;exact⟨z,d,gX _⟩
end Sy
namespace Sy
open Tb
abbrev wh (Q:List<|ae)(k:Int):Nat:=Q.findIdx λq=>decide<|k∈q
theorem FF:∀(T:List<|ae) (x:Int),row T x<(put T x).length/\row T x<=T.length
 | [],x=>⟨cE _,aM _⟩
 | r::T,x=>by
  by_cases c:fg r x=r.length
  ·rw[lO c,pT c];exact⟨Nat.succ_pos _,bQ _⟩
  ·rw[n5 c,rW c];have:=FF T<|r.getD (fg r x) 0;exact⟨gC this.1,gz this.2⟩
def qT(r:ae)(T:List<|ae)(m:Nat):pad (r::T) (m+1)=r::pad T m:=by
 unfold pad;rw[bu,gw];rfl
theorem xX:∀{T:List<|ae}{a m:Nat},a<T.length->T.length<=m->ng (pad T m) a=((ng T a).1,pad (ng T a).2 m)
 | [],a,m,h,_=>absurd h (cK _)
 | r::T,0,m,_,hm=>by
  obtain⟨m,rfl⟩:∃k,m=k+1:=⟨m-1,by simp at hm;lia⟩;rw[qT];show(r.getLastD 0,r.dropLast::pad T m)=(r.getLastD 0,pad (r.dropLast::T)<|m+1);rw[qT]
 | r::T,a+1,m,h,hm=>by
  obtain⟨m,rfl⟩:∃k,m=k+1:=⟨m-1,by simp at hm;lia⟩;rw[qT];show(r.getD (ls r (ng (pad T m) a).1) 0,r.set (ls r (ng (pad T m) a).1) (ng (pad T m) a).1::(ng (pad T m) a).2)=(r.getD (ls r (ng T a).1) 0,pad (r.set (ls r (ng T a).1) (ng T a).1::(ng T a).2)<|m+1);rw[xX (by simpa using h)<|by simpa using hm,qT]
def Bt{T:List<|ae}(h:T.length<=l)(J:l<=m):pad (pad T l) m=pad T m:=by
 unfold pad;rw[br,List.replicate_append_replicate,aL,gu];congr 2
 lia
theorem zW:∀{T:List<|ae},o6 T->∀r∈T,Eu r
 | [],_,r,h=>nomatch h
 | q::T,⟨_,h2,_,h4⟩,r,h=>by
  rcases aY.mp h with e|e
  ·rw[e];exact h2
  ·exact zW h4 r e
def KZ(T:List<|ae)(x:Int):T.length<=(put T x).length:=by
 have:=d9 List.length<|mU T x;rw[aG]at this;rw[this];have:∀(l:ag) (i:Nat),l.length<=(bump l i).length:=λl=>by
  induction l with
  | nil=>intro i;exact bQ _
  | cons n l d=>
   intro i
   cases i with
   | zero=>exact aM _
   | succ i=>exact gz<|d i
 have:=this (T.map List.length)<|row T x;rw[aG]at this;exact this
end Sy
namespace Kc
open PySem L2 Am Tb Mo
open Sy (o6 ng pad xW)
def getD_in{r:ae}{k:Nat}(h:k<r.length):r=r.take k++r.getD k 0::r.drop (k+1):=by
 conv=>lhs;rw[<- cC k r,a_ h]
 rw[aF,aE h];rfl
theorem GI:∀(T:List<|ae) (x:Int),(put T x).flatten.Perm (x::T.flatten)
 | [],x=>dD _
 | r::T,x=>by
  by_cases c:fg r x=r.length
  ·rw[lO c];show((r++[x])++T.flatten).Perm (x::(r++T.flatten));rw[br];exact gD
  ·have d:=u9 c;rw[n5 c];show(r.set (fg r x) x++(put T<|r.getD (fg r x) 0).flatten).Perm (x::(r++T.flatten));refine((GI T _).append_left _).trans ?_;have e:=getD_in d;rw[fZ,aN d]
   conv=>rhs;rw[e]
   dsimp[br,cZ];refine gD.trans<|List.Perm.cons _<|(List.Perm.append_left _ ?_);exact gD
theorem Ih:∀(w:ae) (T:List<|ae),(w.foldl put T).flatten.Perm (w++T.flatten)
 | [],T=>dD _
 | x::w,T=>by
  show(w.foldl put<|put T x).flatten.Perm _;exact(Ih w<|put T x).trans (((GI T x).append_left w).trans gD)
def lZ(w:ae):(w.foldl put []).flatten.Perm w:=by
 have:=Ih w []
 rwa [List.flatten_nil,bJ]at this
abbrev sec:Nat->ag->Nat
 | 0,_=>1
 | n+1,l=>if l.sum=0 then 1 else((List.range l.length).map λa=>if l.getD (a+1) 0<l.getD a 0 then sec n (l.set a<|l.getD a 0-1)else 0).sum
abbrev cr (P:List<|ae)(a:Nat):Bool:=decide<|(P.getD (a+1) []).length<(P.getD a []).length
abbrev dr:Nat->List (ae)->List (ae)
 | 0,_=>[[]]
 | n+1,P=>(List.range P.length).flatMap λa=>if cr P a=true then(dr n (ng P a).2).map (·++[(ng P a).1])else[]
theorem Ae:∀(P:List<|ae) (a:Nat),a<P.length->(ng P a).2.map List.length=(P.map List.length).set a ((P.getD a []).length-1)
 | [],a,h=>absurd h (cK _)
 | r::P,0,_=>by
  show r.dropLast.length::P.map List.length=_;rw[List.length_dropLast];rfl
 | r::P,a+1,h=>by
  show(r.set _ _).length::(ng P a).2.map List.length=_;rw[bD,Ae P a<|gg h];rfl
theorem wL:∀(l:ag) (a:Nat),0<l.getD a 0->(l.set a<|l.getD a 0-1).sum+1=l.sum
 | [],a,h=>absurd h (eX _)
 | n::l,0,h=>by
  have h:0<n:=h;show(n-1+l.sum)+1=n+l.sum
  lia
 | n::l,a+1,h=>by
  have:=wL l a h;show(n+(l.set a<|l.getD a 0-1).sum)+1=n+l.sum
  lia
def KI(P:List<|ae)(a:Nat):(P.map List.length).getD a 0=(P.getD a []).length:=Tb.n_ P a
theorem GC:∀(n:Nat) (P:List<|ae),(P.map List.length).sum=n->(dr n P).length=sec n (P.map List.length)
 | 0,P,_=>rfl
 | n+1,P,h=>by
  unfold dr sec;rw[aO (),List.length_flatMap,aG];congr 1;refine eG λa d=>?_;have d:=bW.mp d;unfold cr;rw[KI,KI];by_cases c:(P.getD (a+1) []).length<(P.getD a []).length
  ·have hs:=wL (P.map List.length) a (by rw[KI];lia);rw[KI]at hs;rw[aN<|bf c,aN c,aG,GC n _<|by rw[Ae P a d];lia,Ae P a d]
  ·rw[aO λz=>c<|bZ z,aO c];rfl
def xH(T:List<|ae)(m j:Nat):(pad T m).getD j []=T.getD j []:=by
 unfold pad;rw[aF,aF];by_cases c:j<T.length
 ·rw[bw c]
 ·rw[b7 (),fV,cP ()];split<;>rfl
def J1{T:List<|ae}(h:T.length<=m):(pad T m).length=m:=by
 unfold pad;rw[aL,gu];lia
def DK{a:Nat}(h:cr (pad T m) a=true):xW T a:=by
 unfold cr at h;rw[xH,xH]at h;have h:=bZ h;refine⟨Nat.lt_of_not_le λz=>?_,λu d=>?_⟩
 ·rw[aF (i:=a),cP z]at h;exact absurd h (cK _)
 ·rw[aF (i:=a+1),d]at h;exact h
def part{T:List<|ae}{a:Nat}(hT:o6 T)(J:T.length<=m)(h:cr (pad T m) a=true):∃T',o6 T'/\T'.length<=m/\(ng (pad T m) a).2=pad T' m/\put T' (ng (pad T m) a).1=T/\Tb.row T' (ng (pad T m) a).1=a:=by
 have c:=DK h;obtain⟨T',j,t2,d,g,f,_⟩:=Sy.Du hT c;have e:=Sy.xX c.1 J;refine⟨T',j,(),?_,?_,?_⟩
 ·rw[e,t2,Sy.Bt f J]
 ·rw[e];exact d
 ·rw[e];exact g
def ze(w:ae):o6 (w.foldl put []):=Sy.wz w trivial
def xw(w:ae):((w.foldl put []).map List.length).sum=w.length:=by
 rw[<- List.length_flatten,(lZ w).length_eq]
def Kv{x:ae}(h:x.foldl put []=[]):x=[]:=by
 have:=(lZ x).length_eq;rw[h]at this;exact dJ.mp this.symm
def Ar{z:Int}(h:o6 T):(((put T z).getD (Tb.row T z+1) []).length<((put T z).getD (Tb.row T z) []).length):=by
 rw[Tb.Ii,Tb.Ii,aO (),aN rfl];have:∀{T:List<|ae},o6 T->∀j,(T.getD (j+1) []).length<=(T.getD j []).length:=by
  intro T
  induction T with
  | nil=>intro _ j;exact aM _
  | cons r T f=>
   intro⟨_,_,d,g⟩ j
   cases j with
   | zero=>
    cases T with
    | nil=>exact bQ _
    | cons u T=>exact(d u rfl).1
   | succ j=>exact f g j
 have:=this h (Tb.row T z)
 lia
theorem yi:∀(n:Nat) {T:List<|ae}{m:Nat},o6 T->T.length<=m->(T.map List.length).sum=n->∀x,x∈dr n (pad T m) ↔ x.foldl put []=T
 | 0,T,m,hT,hm,hs,x=>by
  have e:T=[]:=by
   cases T with
   | nil=>rfl
   | cons r T=>
    have:=fJ.mpr hT.1;rw[bS,dw]at hs
    lia
  subst e;show x∈[[]] ↔ _;rw[aP];exact⟨λz=>by rw[z];rfl,Kv⟩
 | n+1,T,m,hT,hm,hs,x=>by
  unfold dr;rw[iu];constructor
  ·rintro⟨a,_,h⟩;by_cases c:cr (pad T m) a=true
   ·rw[aN c]at h;obtain⟨y,hy,rfl⟩:=bU.mp h;obtain⟨g,d,t2,C,B,_⟩:=part hT hm c;have hn:(g.map List.length).sum=n:=by
     have:=Tb.qI g (ng (pad T m) a).1;rw[B]at this;lia
    rw[C]at hy;rw[cV,(yi n d t2 hn y).mp hy];exact B
   ·rw[aO c]at h;cases h
  ·intro e;have p:x≠[]:=λz=>by
    rw[z]at e;rw[<- e]at hs
    cases hs
   obtain⟨y,z,rfl⟩:∃y z,x=y++[z]:=⟨x.dropLast,x.getLast p,(dO p).symm⟩;rw[cV]at e;have e:put (y.foldl put []) z=T:=e;have d:=ze y;have k:=Sy.Cz (T:=y.foldl put []) (x:=z)<|Sy.zW d;have q:=Ar (z:=z) d;have j:=(Sy.FF (y.foldl put []) z).1;rw[e]at k q j;have f:=Sy.xX (m:=m) j hm;rw[k]at f;have tl:=Sy.KZ (y.foldl put []) z;rw[e]at tl;have f:ng (pad T m) (Tb.row (y.foldl put []) z)=(z,pad (y.foldl put []) m):=by rw[f,Sy.Bt tl hm]
   have c:cr (pad T m) (Tb.row (y.foldl put []) z)=true:=by
    unfold cr;rw[xH,xH];exact bf q
   refine⟨Tb.row (y.foldl put []) z,bW.mpr<|by rw[J1 hm];lia,?_⟩;rw[aN c,f];refine bU.mpr ⟨y,(yi n d () ?_ y).mpr rfl,rfl⟩;have:=Tb.qI (y.foldl put []) z;rw[e]at this;lia
theorem LP:∀(n:Nat) {T:List<|ae}{m:Nat},o6 T->T.length<=m->(T.map List.length).sum=n->(dr n<|pad T m).Nodup
 | 0,T,m,_,_,_=>bM ..
 | n+1,T,m,hT,hm,hs=>by
  unfold dr List.Nodup;rw[List.pairwise_flatMap];have g:∀a y,cr (pad T m) a=true->y∈dr n (ng (pad T m) a).2->Tb.row (y.foldl put []) (ng (pad T m) a).1=a:=by
   intro a y c hy;obtain⟨f,q,t2,j,k,F⟩:=part hT hm c;have hn:(f.map List.length).sum=n:=by
    have:=Tb.qI f (ng (pad T m) a).1;rw[k]at this;lia
   rw[j]at hy;rw[(yi n q t2 hn y).mp hy];exact F
  refine⟨λa _=>?_,gB.imp λ{a b} hab x hx y hy=>?_⟩
  ·by_cases c:cr (pad T m) a=true
   ·rw[aN c,ee];obtain⟨f,q,t2,j,k,F⟩:=part hT hm c;have hn:(f.map List.length).sum=n:=by
     have:=Tb.qI f (ng (pad T m) a).1;rw[k]at this;lia
    rw[j];exact(LP n q t2 hn).imp λh z=>h<|List.append_cancel_right z
   ·rw[aO c];exact List.Pairwise.nil
  ·by_cases c:cr (pad T m) a=true
   ·by_cases d:cr (pad T m) b=true
    ·rw[aN c]at hx;rw[aN d]at hy;obtain⟨M,p,rfl⟩:=bU.mp hx;obtain⟨J,B,rfl⟩:=bU.mp hy;intro z;obtain⟨G,L⟩:=List.append_inj' z rfl;have C:=g a M c p;have K:=g b J d B;rw[G,(List.cons.inj L).1]at C;exact hab (C.symm.trans K)
    ·rw[aO d]at hy;cases hy
   ·rw[aO c]at hx;cases hx
def Hs(T:List<|ae):pad T T.length=T:=by
 unfold pad;rw[c8];exact bJ T
def many{w:ae}{L:List<|ae}(J:L.Nodup)(h:∀x,x∈L ↔ x.foldl put []=w.foldl put []):L.length=sec w.length ((w.foldl put []).map List.length):=by
 have d:=ze w;have m:=yi w.length d (aM _)<|xw w;have n:=LP w.length d (aM _)<|xw w;rw[Hs]at m n;rw[<- GC w.length _ (xw w)];exact((dY J n).mpr λx=>(h x).trans (m x).symm).length_eq
theorem vp{C:ae->Prop}(J:∀r x,C r->x∈qW r->C x){r:ae}{R:List<|ae}(h:Ld.Road r c R)(h0:C r):∀i,i<R.length->C (R.getD i [])
 | 0,_=>by rw[h.first];exact h0
 | i+1,hi=>J _ _ (vp J h h0 i ())<|h.ch i hi
def x_{C:ae->Prop}(J:∀r x,C r->x∈qW r->C x){r:ae}{R:List<|ae}(h:Ld.Road r c R)(h0:C r):C c:=by
 rw[<- h.last];exact vp J h h0 _ (by have:=h.ne;lia)
def J0{C:ae->Prop}(J:∀r x,C r->x∈qW r->C x){r:ae}{R:List<|ae}(h:Ld.Road r c R)(h0:C c):C r:=
 x_ (C:=λy=>C y->C r) (λy x hy f d=>hy<|J x y d (Mo.back f).2) h (λz=>z) h0
def HH{C:ae->Prop}(J:∀r x,C r->x∈qW r->C x){r x:ae}{R:List<|ae}(h:Ld.Road r c R)(h':Ld.Road x c R')(h0:C r):C x:=
 J0 J h' (x_ J h h0)
def keep{r x:ae}(h:x∈qW r):x.foldl put []=r.foldl put []:=by
 obtain⟨k,h1,d,rfl⟩:=qy.mp h;exact tab h1 d
theorem yJ:∀(s:ae) (u v:ae),HT.lexLt (s++u) (s++v)=HT.lexLt u v
 | [],_,_=>rfl
 | x::s,u,v=>by
  show(if x=x then HT.lexLt (s++u) (s++v)else _)=_;rw[aN rfl,yJ s u v]
theorem Bx:∀{s t:ae}(u v:ae),s.length=t.length->HT.lexLt s t=true->HT.lexLt (s++u) (t++v)=true
 | [],[],_,_,_,h=>nomatch h
 | [],_::_,_,_,h,_=>nomatch h
 | _::_,[],_,_,h,_=>nomatch h
 | x::s,y::t,u,v,hl,h=>by
  have h:(if x=y then HT.lexLt s t else decide (x<y))=true:=h;show(if x=y then HT.lexLt (s++u) (t++v)else decide (x<y))=true;by_cases c:x=y
  ·rw[aN c]at h ⊢;exact Bx u v (Nat.succ.inj hl) h
  ·rw[aO c]at h ⊢;exact h
def B0{a:ae}(h:HT.lexLt a b=true):HT.lexLt b a=false:=by
 cases e:HT.lexLt b a with
 | false=>rfl
 | true=>have:=Sx.rz h e;rw[Sx.oM]at this;cases this
abbrev Ja (l s:ae):ae:=s.foldl List.erase l
theorem xY:∀{s l t:ae},(s++t).Perm l->(Ja l s).Perm t
 | [],l,t,h=>h.symm
 | a::s,l,t,h=>xY (s:=s) (l:=l.erase a) (List.cons_perm_iff_perm_erase.mp h).2
abbrev grown (l:ae)(F:List<|ae):List (ae):=F.flatMap λs=>(sortI<|Ja l s).map λz=>s++[z]
abbrev da:List (ae)->List (ae)->List (ae)
 | acc,[]=>acc
 | acc,x::xs=>da (if acc.getLast?=some x then acc else acc++[x]) xs
theorem CN:∀(xs:List<|ae) (acc:List<|ae) (x:ae),da acc (xs++[x])=if (da acc xs).getLast?=some x then da acc xs else da acc xs++[x]
 | [],acc,x=>rfl
 | y::xs,acc,x=>CN xs _ x
theorem GV:∀{xs acc:List<|ae},xs.Pairwise yP->acc.Pairwise (λa b=>HT.lexLt a b=true)->(∀a∈acc,∀x∈xs,yP a x)->da acc xs=dd acc xs
 | [],acc,_,_,_=>rfl
 | x::xs,acc,hx,ha,hle=>by
  obtain⟨j,f⟩:=bA.mp hx;have e:(if acc.getLast?=some x then acc else acc++[x])=if x∈acc then acc else acc++[x]:=by
   by_cases c:x∈acc
   ·rw[aN c];refine aN ?_;obtain⟨A,B,rfl⟩:=List.append_of_mem c
    cases g:B.getLast? with
    | none=>
     rw[List.getLast?_eq_none_iff.mp g];simp
    | some b=>
     have d:=List.mem_of_getLast? g;have p:=(bx.mp ha).2.1;have p:=(bA.mp p).1 b d;have q:HT.lexLt x b=false:=hle b (by simp[d]) x<|aK ..;rw[p]at q;cases q
   ·rw[aO c];exact aO λz=>c<|List.mem_of_getLast? z
  show da (if acc.getLast?=some x then acc else acc++[x]) xs=dd (if x∈acc then acc else acc++[x]) xs;rw[e];by_cases c:x∈acc
  ·rw[aN c];exact GV f ha λa h y hy=>hle a h y (aJ _ hy)
  ·rw[aO c];refine GV f (bx.mpr ⟨ha,bM ..,λa h b d=>?_⟩) λa h y hy=>?_
   ·rw[aP.mp d]
    cases e:HT.lexLt a x with
    | true=>rfl
    | false=>exact absurd (Sx.qp e (hle a h x<|aK ..) ▸ h) c
   ·rcases aV.mp h with z|z
    ·exact hle a z y (aJ _ hy)
    ·rw[aP.mp z];exact j y hy
abbrev lv (l:ae):Nat->List (ae)
 | 0=>[[]]
 | k+1=>da []<|grown l<|lv l k
def HL:∀(xs:ae),(sortI xs).Pairwise (·<=·):=uc
structure Lev (l:ae)(k:Nat)(F:List (ae)):Prop where
 up:F.Pairwise (λa b=>HT.lexLt a b=true)
 mem:∀s,s∈F ↔ s.length=k/\∃t,(s++t).Perm l
def Lev.pw{k:Nat}(h:Lev l k F):(grown l F).Pairwise yP:=by
 unfold grown;rw[List.pairwise_flatMap];refine⟨λs _=>?_,fO (λ{a b} ha hb hab x hx y hy=>?_) h.up⟩
 ·rw[ee];refine(HL _).imp λ{a b} hab=>?_;show HT.lexLt (s++[b]) (s++[a])=false;rw[yJ];show(if b=a then HT.lexLt [] []else decide (b<a))=false;by_cases c:b=a
  ·rw[aN c];rfl
  ·rw[aO c];exact aZ ()
 ·obtain⟨u,_,rfl⟩:=bU.mp hx;obtain⟨v,_,rfl⟩:=bU.mp hy;exact B0<|Bx _ _ ((((h.mem a).mp ha).1).trans ((h.mem b).mp hb).1.symm) hab
def Lev.step{k:Nat}(h:Lev l k F):Lev l (k+1) (da []<|grown l F):=by
 rw[GV h.pw List.Pairwise.nil λa g=>nomatch g];obtain⟨q,p⟩:=CS (acc:=[]) h.pw List.Pairwise.nil λa g=>nomatch g;refine⟨q,λs=>?_⟩;rw[p s];unfold grown;rw[iu];constructor
 ·rintro(z|⟨s,hs,f⟩)
  ·cases z
  ·obtain⟨z,j,rfl⟩:=bU.mp f;obtain⟨h1,t,d⟩:=(h.mem s).mp hs;have f:z∈t:=(xY d).mem_iff.mp<|(sortI_perm _).mem_iff.mp j;refine⟨by rw[aL,h1];rfl,t.erase z,?_⟩;rw[br];exact((List.perm_cons_erase f).symm.append_left s).trans d
 ·rintro⟨h1,t,d⟩;have m:s≠[]:=λz=>by rw[z]at h1;cases h1
  obtain⟨y,z,rfl⟩:∃y z,s=y++[z]:=⟨s.dropLast,s.getLast m,(dO m).symm⟩;rw[br]at d;refine .inr ⟨y,(h.mem y).mpr ⟨?_,_,d⟩,bU.mpr ⟨z,?_,rfl⟩⟩
  ·rw[aL]at h1;have h1:y.length+1=k+1:=h1
   lia
  ·exact(sortI_perm _).mem_iff.mpr ((xY d).mem_iff.mpr<|aK ..)
theorem Qn(l:ae):∀k,Lev l k (lv l k)
 | 0=>⟨bM ..,λs=>by
  show s∈[[]] ↔ _;rw[aP];exact⟨λz=>by rw[z];exact⟨rfl,l,dD _⟩,λ⟨z,_⟩=>dJ.mp z⟩⟩
 | k+1=>(Qn l k).step
def Au{l x:ae}:x∈lv l l.length ↔ x.Perm l:=by
 rw[(Qn l l.length).mem x];constructor
 ·rintro⟨h,t,d⟩;have:=d.length_eq;rw[aL]at this;have:t=[]:=dJ.mp ()
  rwa [this,bJ]at d
 ·exact λh=>⟨h.length_eq,[],by rwa [bJ]⟩
def Qu(l:ae)(k:Nat):(lv l k).Nodup:=(Qn l k).up.imp λh z=>by rw[z,Sx.oM]at h;cases h
theorem E5:∀(xs acc:List<|ae),(da acc xs).length<=acc.length+xs.length
 | [],acc=>aM _
 | x::xs,acc=>by
  have:=E5 xs<|if acc.getLast?=some x then acc else acc++[x];have h:(if acc.getLast?=some x then acc else acc++[x]).length<=acc.length+1:=by
   split
   ·lia
   ·rw[aL];exact aM _
  show(da _ xs).length<=acc.length+(xs.length+1)
  lia
theorem qD:∀(s l:ae),(Ja l s).length<=l.length
 | [],l=>aM _
 | a::s,l=>bH (qD s<|l.erase a)<|List.length_erase_le ..
theorem qM(l:ae):∀(F:List<|ae),(grown l F).length<=F.length * l.length
 | []=>bQ _
 | s::F=>by
  have:=qM l F;have h:=qD s l;show(((sortI<|Ja l s).map λz=>s++[z])++grown l F).length<=(F.length+1) * l.length;rw[aL,aG,(sortI_perm _).length_eq,Nat.succ_mul]
  lia
theorem Cn{l:ae}(h:l.length<=6):∀k,(lv l k).length<=6 ^ k
 | 0=>aM _
 | k+1=>by
  have h1:=E5 (grown l<|lv l k) [];have f:=qM l<|lv l k;have d:=Cn h k;have g:(lv l k).length * l.length<=6 ^ k * 6:=iF d h;rw[Nat.pow_succ];show(da []<|grown l<|lv l k).length<=_;dsimp[d8,dQ]at h1
  lia
def due{w:ae}{F:List<|ae}(nd:F.Nodup)(h0:w∈F)(hF:∀x∈F,x.foldl put []=w.foldl put [])(hC:∀r∈F,∀x∈qW r,x∈F)
  (J:∀x:ae,x.length=w.length->∃R,Ld.Road x (Sy.plain<|x.foldl put []) R) :
  kg F=(lv w w.length).filter (λx=>decide<|x.foldl put []=w.foldl put [])/\F.length=sec w.length ((w.foldl put []).map List.length)/\Sy.plain (w.foldl put [])∈F:=by
 have m:∀{x:ae},x.foldl put []=w.foldl put []->x.Perm w:=λ{x} e=>by
  have:=lZ x;rw[e]at this;exact this.symm.trans<|lZ w
 have f:∀x,x∈F ↔ x.foldl put []=w.foldl put []:=λx=>⟨hF x,λe=>by
  obtain⟨R,d⟩:=J w rfl;obtain⟨p,g⟩:=J x (m e).length_eq;rw[e]at g;exact HH (C:=(·∈F)) (λr x k j=>hC r k x j) d g h0⟩
 refine⟨(qh ((dY ((Qu w w.length).sublist fH) nd).mpr λx=>?_) ?_).symm,many nd f,?_⟩
 ·rw[dZ,Au,f x,cg];exact⟨λz=>z.2,λe=>⟨m e,e⟩⟩
 ·exact((Qn w w.length).up.sublist fH).imp λh=>B0 h
 ·obtain⟨R,d⟩:=J w rfl;exact x_ (C:=(·∈F)) (λr x k j=>hC r k x j) d h0
theorem AN:∀(xs acc:List<|ae),∃ys,dd acc xs=acc++ys
 | [],acc=>⟨[],(bJ _).symm⟩
 | x::xs,acc=>by
  by_cases c:x∈acc
  ·obtain⟨ys,e⟩:=AN xs acc;exact⟨ys,by show dd (if x∈acc then acc else acc++[x]) xs=_;rw[aN c,e]⟩
  ·obtain⟨ys,e⟩:=AN xs<|acc++[x];exact⟨x::ys,by show dd (if x∈acc then acc else acc++[x]) xs=_;rw[aO c,e,br];rfl⟩
theorem Az:∀(xs acc:List<|ae) (z:ae),z∈dd acc xs ↔ z∈acc\/z∈xs
 | [],acc,z=>by show z∈acc ↔ _;simp
 | x::xs,acc,z=>by
  show z∈dd (if x∈acc then acc else acc++[x]) xs ↔ _;by_cases c:x∈acc
  ·rw[aN c,Az xs acc z,aY];exact⟨λh=>h.elim .inl λh=>.inr<|.inr h,λh=>h.elim .inl λh=>h.elim (λh=>.inl<|h ▸ c) .inr⟩
  ·rw[aO c,Az xs _ z,aV,aP,aY,or_assoc]
theorem E4:∀(xs:List<|ae) {acc:List<|ae},acc.Nodup->(dd acc xs).Nodup
 | [],_,h=>h
 | x::xs,acc,h=>by
  show(dd (if x∈acc then acc else acc++[x]) xs).Nodup;by_cases c:x∈acc
  ·rw[aN c];exact E4 xs h
  ·rw[aO c];refine E4 xs<|bx.mpr ⟨h,bM ..,λa f b d z=>c ?_⟩;rw[<- aP.mp d,<- z];exact f
theorem FP:∀{l L:List<|ae},l.Nodup->(∀x∈l,x∈L)->l.length<=L.length
 | [],L,_,_=>bQ _
 | x::l,L,h,s=>by
  obtain⟨h1,f⟩:=bL.mp h;have:=FP (l:=l) (L:=L.erase x) f λy hy=>(List.mem_erase_of_ne λ(z:y=x)=>h1<|z ▸ hy).mpr<|s y<|aJ _ hy;have d:=s x<|aK ..;rw[List.length_erase_of_mem d]at this;have:=List.length_pos_of_mem d;rw[bu];lia
def few{w:ae}{F:List<|ae}(hw:w.length<=6)(J:F.Nodup)(hF:∀x∈F,x.foldl put []=w.foldl put []):F.length<=46656:=by
 refine bH (FP (L:=lv w w.length) J λx d=>?_)<|bH (Cn hw _)<|gH ⋯ hw;refine Au.mpr ?_;have:=lZ x;rw[hF x d]at this;exact this.symm.trans<|lZ w
end Kc
namespace K64
open PySem L2 Am
abbrev HQ (S:iK)(b:Nat):Prop:=∃g st:Int,iI S b=some [.int g,.int st]/\0<=g/\0<=st/\st<4294967296
def HQ.kp{c:Nat->Prop}(h:HQ S b)(k:Kp c S S')(J:¬c b):HQ S' b:=by
 obtain⟨g,st,e,q⟩:=h;exact⟨g,st,k.lst b _ J e,q⟩
def Jl{S:iK}{ns:ae}{k:Int}(h0:0<=k)(h1:k<=100):∃S',om [.frz<|ns.map .int,.int k] S=.ok (.ref S.length) S'/\HQ S' S.length/\kC S S':=by
 have e3:JC (.int 10) (.int 18)=λS=>R.ok (.int 1000000000000000000) S:=by
  funext S;exact mO ⟨by decide,by decide,by decide⟩
 have g:∀x:Int,wX (.int x) (.int 2147483647)=λS=>R.ok (.int<|x % 2147483647) S:=λx=>by funext S;exact yQ ⋯
 have f:∀x:Int,rR (.int 7919) (.int x)=λS=>R.ok (.int<|7919 * x) S:=λx=>by funext S;exact FN ⋯ ⋯
 have j:∀d:Int,∃S',((RS.seq (.nx [A.frz<|ns.map .int,.int k,.int d,.unb] S) (jb (jm (eC<|.int 0)<|jj 3)
 (jb (vL (oY<|iQ QG (iH 2)<|iQ JC (eC<|.int 10)<|eC<|.int 18)
 (jm (iH 2)<|jj 3)
 oh)
 (ko<|mS<|iJ (iH 3)<|iJ (iQ wX (iQ jK (iQ jK (iH 2)<|iQ rR (eC<|.int 7919)<|iH 1)<|eC<|.int 13)<|eC<|.int 2147483647) iU)))).end=.ok (.ref S.length) S')/\HQ S' S.length/\kC S S':=by
  intro d;have m:0<=(d+7919 * k+13) % 2147483647:=gK _ ⋯;have p:(d+7919 * k+13) % 2147483647<4294967296:=by
   have:=fU (d+7919 * k+13) (show(0:Int)<2147483647 by decide)
   lia
  by_cases hc:1000000000000000000<=d
  ·refine⟨S++[.lst [.int d,.int<|(d+7919 * k+13) % 2147483647]],?_,⟨_,_,iY,(),m,p⟩,Kp.refl.lay⟩;dsimp[ji,bools,g,f,e3,bf hc]
  ·refine⟨S++[.lst [.int 0,.int<|(d+7919 * k+13) % 2147483647]],?_,⟨_,_,iY,gX 0,m,p⟩,Kp.refl.lay⟩;dsimp[ji,bools,g,f,e3,aZ hc]
 unfold om sE rg;dsimp[ji,bools,nk,Nat.reduceAdd,Nat.reduceSub,aG];by_cases q:k<(ns.length:Int)
 ·have hn:k.toNat<ns.length:=()
  have z:mL (ns.map A.int) k=some (.int ns[k.toNat]):=xV (k:=k.toNat) ()<|aE hn;rw[bf q];dsimp[ji,bools,z];exact j _
 ·rw[aZ q];dsimp[ji,bools];exact j 0
def digit{m:Int}(h:HQ S b)(h1:1<=m)(h2:m<1073741824):∃d S',jk [.ref b,.int m] S=.ok (.int d) S'/\0<=d/\d<m/\HQ S' b/\Kp (·=b) S S':=by
 obtain⟨g,st,p,hg,hs,k⟩:=h;have z:=jQ p;have i0:yy 2 0=some 0:=xK rfl ⋯;have C:yy 2 1=some 1:=xK rfl ⋯;have fin:∀d j f:Int,0<=d->d<m->0<=j->0<=f->f<4294967296->jk [.ref b,.int m] S=.ok (.int d) (S.set b<|.lst [.int j,.int f])->∃d S',jk [.ref b,.int m] S=.ok (.int d) S'/\0<=d/\d<m/\HQ S' b/\Kp (·=b) S S':=
  λd j f J K F B G e=>⟨d,_,e,J,K,⟨j,f,kR z,F,B,G⟩,Kp.refl.set<|.inl rfl⟩
 by_cases q:0<g
 ·refine fin (g % m) (g / m) st (gK _ ()) (fU _ ()) (Int.ediv_nonneg hg ()) hs k ?_;unfold jk nH nM;rw[tw];simp[p,zR,GW,q,yQ<|show 0<m by lia,F9 (show 0<m by lia) h2,i0]
 ·have:g=0:=()
  subst this;have e1:0<=(st * 48271+11) % 2147483647:=gK _ ⋯;have e2:(st * 48271+11) % 2147483647<2147483647:=fU _ ⋯;refine fin ((st * 48271+11) % 2147483647 / 8 * 69621 % 2147483629 % m) 0 ((st * 48271+11) % 2147483647) (gK _ ()) (fU _ ()) ⋯ e1 () ?_;unfold jk nH nM;rw[tw];simp[p,zR,GW,yQ<|show 0<m by lia,i0,C,FN (show -18446744073709551616<st by lia) (),yQ<|show(0:Int)<2147483647 by decide,kR z,F9 (show(0:Int)<8 by decide) ⋯,FN (show -18446744073709551616<(st * 48271+11) % 2147483647 / 8 by lia) (),yQ<|show(0:Int)<2147483629 by decide]
end K64
namespace K64
open PySem L2 Am
def NW{S:iK}{m base:Int}(h:HQ S b)(J:0<=m)(m1:m<=7)(b1:1<=base)(b2:base<=6) :
  ∃(xs:ae) (L:Nat) (S':iK),jH [none,some 2,some 4] (n6<|iH 3) (jj 0) lX (iQ jK (eC<|.int 1)<|eFn jk<|iJ (iH 1)<|iJ (iH 2) iU) (x0::x1::.ref b::.int m::.int base::τ') S=.ok (.ref L) S'/\iI S' L=some (xs.map .int)/\(xs.length:Int)=m/\HQ S' b/\Kp (·=b) S S'/\S.length<=L:=by
 obtain⟨ys,j,C,g2⟩:=qJ (s:=m_ 0 m) (g:=jj 0) (e:=iQ jK (eC<|.int 1)<|eFn jk<|iJ (iH 1)<|iJ (iH 2) iU) (T:=λτ=>∃y,τ=[y,.ref b,.int base])
  (λi acc S'=>∃w:ae,acc=w.map .int/\w.length=i/\HQ S' b/\Kp (·=b) S S')
  (λi acc τ S' hi ⟨y,hy⟩ ⟨w,hw,d,f,kp⟩=>by
   have hi:i<(m-0).toNat:=hi;subst hy;obtain⟨v,k,p,F,G,q,B⟩:=digit (m:=base) f () ();exact⟨.int<|0+(i:Int),[.int<|0+(i:Int),.ref b,.int base],S',.int<|1+v,k,aN hi,rfl,⟨_,rfl⟩,by dsimp[ji,bools,p],w++[1+v],by rw[hw,bE];rfl,by simp[d],q,kp.trans B⟩) (λacc S' _=>rfl)
  (m-0).toNat 0 [] (mG [none,some 2,some 4] (x0::x1::.ref b::.int m::.int base::τ')) S rfl ⟨_,rfl⟩ ⟨[],rfl,rfl,h,Kp.refl⟩
 obtain⟨w,hw,d,f,kp⟩:=g2;rw[cI]at hw;have d:w.length=(m-0).toNat:=d;refine⟨w,j.length,j++[.lst<|w.map .int],?_,iY,(),f.kp (c:=λ_=>False) Kp.refl.lay λz=>z,kp.lay,kp.len⟩;unfold jH;have hs:n6 (iH 3) (x0::x1::.ref b::.int m::.int base::τ') S=.ok (m_ 0 m) S:=oZ (by dsimp[ji,bools])<|oJ () ();rw[hs,R.jv];show R.jD (jt (m_ 0 m) _ _ _ (m-0).toNat 0 _ _) _=_;rw[C,R.i9,ju<|by rw[hw,aG];lia,hw]
def MI{S:iK}{xs:ae}(h:iI S L=some (xs.map .int))(J:xs.length<=7) :
  ∃(ys:ae) (L':Nat) (S':iK),jH [none,none] (xD<|iH 5) (JI 2<|z9 (jj 0)<|z9 (jj 1) Jm) lX (iQ jK (iQ rR (iH 1)<|eC<|.int 7)<|iH 0) (x0::x1::x2::x3::x4::.ref L::τ') S=.ok (.ref L') S'/\iI S' L'=some (ys.map .int)/\ys.length=xs.length/\kC S S'/\S.length<=L':=by
 obtain⟨ys,j,m,g2⟩:=qJ (s:=oV L xs.length) (g:=JI 2<|z9 (jj 0)<|z9 (jj 1) Jm) (e:=iQ jK (iQ rR (iH 1)<|eC<|.int 7)<|iH 0) (T:=λτ=>∃y z,τ=[y,z])
  (λi acc S'=>S'=S/\∃w:ae,acc=w.map .int/\w.length=i)
  (λi acc τ S' hi ⟨y,z,hy⟩ ⟨f,w,hw,d⟩=>by
   have hi:i<xs.length:=hi;subst hy f;have k:∀x:Int,rR (.int x) (.int 7)=λS=>R.ok (.int<|x * 7) S:=λx=>by funext S;exact mul_r ⋯ ⋯
   exact⟨.tup [.int i,.int xs[i]],[.int i,.int xs[i]],S',.int<|xs[i] * 7+i,S',by
    show(iI S' L).bind _=_;rw[h,bB,aR,aE hi];rfl,by
    dsimp[ji,bools,mO<|show([_,_]:ad).length=2 from rfl],⟨_,_,rfl⟩,by dsimp[ji,bools,k],rfl,w++[xs[i] * 7+i],by rw[hw,bE];rfl,by simp[d]⟩) (λacc S' ⟨f,_⟩=>by
   show(match iI S' L with
    | some ys=>decide (ys.length=xs.length)
    | none=>false)=true
   rw[f,h];simp)
  xs.length 0 [] (mG [none,none] (x0::x1::x2::x3::x4::.ref L::τ')) S rfl ⟨_,_,rfl⟩ ⟨rfl,[],rfl,rfl⟩
 obtain⟨f,w,hw,d⟩:=g2;rw[cI]at hw;have d:w.length=xs.length:=d;subst f;refine⟨w,j.length,j++[.lst<|w.map .int],?_,iY,d,Kp.refl.lay,aM _⟩;have hs:xD (iH 5) (x0::x1::x2::x3::x4::.ref L::τ') j=.ok (oV L (xs.map A.int).length) j:=xo (by dsimp[ji,bools]) h;unfold jH;rw[hs,R.jv,aG];show R.jD (jt (oV L xs.length) _ _ _ xs.length 0 _ _) _=_;rw[m,R.i9,ju<|by rw[hw,aG];lia,hw]
end K64
namespace K64
open PySem L2 Am
theorem vX(b:Int):∀(l:ae),(l.map A.int).eraseIdx (l.idxOf b)=(l.erase b).map A.int
 | []=>rfl
 | c::l=>by
  rw[List.idxOf_cons,List.erase_cons];by_cases e:(c == b)=true
  ·rw[aN e,cond_eq_ite,aN e];rfl
  ·rw[aO e,cond_eq_ite,aO e];show A.int c::(l.map A.int).eraseIdx (l.idxOf b)=_;rw[vX b l];rfl
def Mx{S:iK}{n:Nat}{l:ae}{b:Int}(h:iI S n=some (l.map .int))(J:b∈l)(hl:l.length<=100):wY (.ref n) [.int b] S=.ok .non (S.set n<|.lst<|(l.erase b).map .int):=by
 show opt (iI S n) _=_;rw[h,iZ,ints_map,iZ,vX];exact mO ⟨List.idxOf_lt_length_iff.mpr J,by rw[dz];lia⟩
def Qc{r q:Nat}{l s rest:ae}(hr:iI S r=some (s.map .int))(hq:iI S q=some (l.map .int))(J:q≠r)(hp:(s++rest).Perm l)(hl:l.length<=100) :
  ∃(x6':A) (S':iK),kN sV (jj 6) pM [x0,x1,x2,x3,.ref r,.ref q,x6] S=.nx [x0,x1,x2,x3,.ref r,.ref q,x6'] S'/\iI S' q=some ((Kc.Ja l s).map .int)/\Kp (·=q) S S':=by
 refine qO (n:=r) (xs:=s.map .int) (S1:=S) (m8 (by dsimp[ji,bools]) hr)
  (λi τ T=>∃x6',τ=[x0,x1,x2,x3,.ref r,.ref q,x6']/\iI T q=some ((Kc.Ja l<|s.take i).map .int)/\Kp (·=q) S T)
  (λz=>∃(x6':A) (S':iK),z=.nx [x0,x1,x2,x3,.ref r,.ref q,x6'] S'/\iI S' q=some ((Kc.Ja l s).map .int)/\Kp (·=q) S S')
  ⟨_,rfl,by rw[bX];exact hq,Kp.refl⟩ (λi τ T ⟨_,_,_,k⟩=>k.lst _ _ (λz=>J z.symm) hr) ?_ ?_
 ·rintro i z τ T g ⟨x6',rfl,d,k⟩;rw[aR]at g;obtain⟨y,hy,rfl⟩:=bC.mp g;obtain⟨hi,f⟩:=aI.mp hy;have j:y∈Kc.Ja l (s.take i):=by
   refine(Kc.xY (s:=s.take i) (t:=s.drop i++rest) ?_).mem_iff.mpr ?_
   ·rw[<- br,cC];exact hp
   ·rw[a_ hi,f];simp
  have e:=Mx d j<|bH (Kc.qD _ _) hl;refine⟨[x0,x1,x2,x3,.ref r,.ref q,.int y],T,by dsimp[ji,bools],.inl ?_⟩;unfold pM;dsimp[ji,bools,d,e];refine⟨_,_,rfl,_,rfl,?_,k.set<|.inl rfl⟩;rw[kR<|jQ d,eo,hy];unfold Kc.Ja;rw[cV];rfl
 ·rintro τ T ⟨x6',rfl,d,k⟩;rw[aG,b9]at d;exact⟨_,_,rfl,d,k⟩
def MC{S:iK}{r q:Nat}{s zs:ae}(hr:iI S r=some (s.map .int))(hq:iI S q=some (zs.map .int))(hs:s.length<=100)(hz:zs.length<=6) :
  ∃(qs:ag) (C:Nat) (S':iK),jH [none,some 4] (l5<|ja (f1 uG)<|iJ (iH 5) iU) (jj 0) lX (iQ jK (iH 1)<|mS<|iJ (iH 0) iU) [x0,x1,x2,x3,.ref r,.ref q,x6] S=.ok (.ref C) S'/\iI S' C=some (qs.map .ref)/\Rows S' qs ((sortI zs).map λz=>s++[z])/\kC S S'/\S.length<=C/\∀p∈qs,S.length<=p:=by
 have V:(sortI zs).length=zs.length:=(sortI_perm zs).length_eq;obtain⟨S1,f⟩:∃S1,S1=S++[O.lst<|(sortI zs).map .int]:=⟨_,rfl⟩;have F:kC S S1:=by rw[f];gp_on
 have hc:iI S1 S.length=some ((sortI zs).map .int):=by rw[f];exact iY
 have es:l5 (ja (f1 uG)<|iJ (iH 5) iU) [x0,x1,x2,x3,.ref r,.ref q,x6] S=.ok (jq S.length ((sortI zs).map A.int).length) S1:=by
  refine m8 ?_ hc;have:uG (.ref q) S=.ok (.ref S.length) S1:=by
   show opt (iI S q) _=_;rw[hq,iZ,ints_map,iZ,f];exact mO ()
  dsimp[ji,bools,this]
 rw[aG]at es;obtain⟨ys,G,N,g2⟩:=qJ (s:=jq S.length (sortI zs).length) (g:=jj 0) (e:=iQ jK (iH 1)<|mS<|iJ (iH 0) iU) (T:=λτ=>∃y,τ=[y,.ref r])
  (λi acc T=>∃qs:ag,acc=qs.map .ref/\Rows T qs (((sortI zs).take i).map λz=>s++[z])/\kC S1 T/\∀p∈qs,S.length<=p)
  (λi acc τ T hi ⟨y,hy⟩ ⟨qs,B,j,k,d⟩=>by
   have hi:i<(sortI zs).length:=hi;subst hy;have K:kC T (T++[O.lst [.int (sortI zs)[i]]]):=Kp.refl.lay;have M:=AB (K.lst _ _ (λz=>z)<|k.lst _ _ (λz=>z)<|F.lst _ _ (λz=>z) hr) (iY (S:=T) (xs:=[.int (sortI zs)[i]])) (by rw[aG];show s.length+1<=_;lia);have U:=F.len;have P:=k.len;refine⟨.int (sortI zs)[i],[.int (sortI zs)[i],.ref r],T,.ref (T++[O.lst [.int (sortI zs)[i]]]).length,T++[O.lst [.int (sortI zs)[i]]]++[O.lst<|s.map .int++[.int (sortI zs)[i]]],by
    show(iI T S.length).bind _=_;rw[k.lst _ _ (λz=>z) hc,bB,aR,aE hi];rfl,rfl,⟨_,rfl⟩,by dsimp[ji,bools,j4<|show([_]:ad).length<=16777216 by simp,M],qs++[(T++[O.lst [.int (sortI zs)[i]]]).length],by rw[B,bE];rfl,?_,k.lay.lay,λp m=>?_⟩
   ·rw[eo,aE hi,bE];refine Rows.app (j.mono λp m xs e=>jE<|jE e) ⟨?_,trivial⟩;rw[bE];exact iY
   ·rcases aV.mp m with z|z
    ·exact d p z
    ·have:p=(T++[O.lst [A.int (sortI zs)[i]]]).length:=by simpa using z
     rw[this,aL];lia)
  (λacc T ⟨qs,_,_,k,_⟩=>by
   show(match iI T S.length with
    | some ys=>decide (ys.length<=(sortI zs).length)
    | none=>false)=true
   rw[k.lst _ _ (λz=>z) hc];simp)
  (sortI zs).length 0 [] (mG [none,some 4] [x0,x1,x2,x3,.ref r,.ref q,x6]) S1 rfl ⟨_,rfl⟩ ⟨[],rfl,by rw[bX];trivial,Kp.refl,λp m=>nomatch m⟩
 obtain⟨qs,B,j,k,d⟩:=g2;rw[cI]at B;have j:Rows G qs (((sortI zs).take (sortI zs).length).map λz=>s++[z]):=j;rw[b9]at j;have L:=j.len;rw[aG]at L;have J:=(F.trans k).len;refine⟨qs,G.length,G++[.lst<|qs.map .ref],?_,iY,j.mono λp m xs e=>jE e,(F.trans k).lay,J,d⟩;unfold jH;rw[es,R.jv];show R.jD (jt (jq S.length (sortI zs).length) _ _ _ (sortI zs).length 0 _ _) _=_;rw[N,R.i9,ju<|by rw[B,aG];lia,B]
def NU{S:iK}{n:Nat}{xs ys:ad}(h1:iI S n=some xs)(J:iI S m=some ys)(h3:xs.length+ys.length<=16777216):wK (.ref n) [.ref m] S=.ok .non (S.set n<|.lst<|xs++ys):=by
 show opt (iI S n) _=_;rw[h1,iZ,J,iZ];exact j4 h3
def lN{J:ag}{c:Nat->Prop}(h:Rows S J T)(k:Kp c S S')(hc:∀r∈J,¬c r):Rows S' J T:=h.mono λr d xs e=>k.lst r xs (hc r d) e
def z_(l:ae)(D:List<|ae)(s:ae):Kc.grown l (D++[s])=Kc.grown l D++(sortI<|Kc.Ja l s).map λz=>s++[z]:=by
 unfold Kc.grown;rw[List.flatMap_append];simp
def P6{G:Nat}{l:ae}{fs:ag}{D:List<|ae}(hL:iI S L=some (l.map .int))(hF:iI S F=some (fs.map .ref))(hR:Rows S fs D)(hG:iI S G=some [])(n1:G≠L)(n2:G≠F)(n3:G∉fs)(hD:∀s∈D,∃t,(s++t).Perm l)(hl:l.length<=6)(hb:D.length<=100000) :
  ∃(x4' x5' x6':A) (gs:ag) (S':iK),kN sO (jj 4) pQ [.ref L,.ref F,x2,.ref G,x4,x5,x6] S=.nx [.ref L,.ref F,x2,.ref G,x4',x5',x6'] S'/\iI S' G=some (gs.map .ref)/\Rows S' gs (Kc.grown l D)/\Kp (·=G) S S':=by
 have lD:=hR.len;have lG:=jQ hG;refine qO (n:=F) (xs:=fs.map .ref) (S1:=S) (m8 (by dsimp[ji,bools]) hF)
  (λi τ T=>∃(x4' x5' x6':A) (gs:ag),τ=[.ref L,.ref F,x2,.ref G,x4',x5',x6']/\iI T G=some (gs.map .ref)/\Rows T gs (Kc.grown l<|D.take i)/\Kp (·=G) S T/\∀p∈gs,S.length<=p)
  (λz=>∃(x4' x5' x6':A) (gs:ag) (S':iK),z=.nx [.ref L,.ref F,x2,.ref G,x4',x5',x6'] S'/\iI S' G=some (gs.map .ref)/\Rows S' gs (Kc.grown l D)/\Kp (·=G) S S')
  ⟨_,_,_,[],rfl,hG,trivial,Kp.refl,λp d=>nomatch d⟩ (λi τ T ⟨_,_,_,_,_,_,_,k,_⟩=>k.lst _ _ (λz=>n2 z.symm) hF) ?_ ?_
 ·rintro i z τ T hz ⟨x4',x5',x6',gs,rfl,K,hg,k,m⟩;rw[aR]at hz;obtain⟨r,Z,rfl⟩:=bC.mp hz;obtain⟨hi,hs⟩:=hR.get Z;have rm:r∈fs:=aX Z;obtain⟨s,es⟩:∃s,s=D.getD i []:=⟨_,rfl⟩;rw[<- es]at hs;have q:D[i]?=some s:=by rw[es,aF,aE hi];rfl
  obtain⟨rest,d⟩:=hD s<|aX q;have hsl:s.length<=6:=by have:=d.length_eq;rw[aL]at this;lia
  have rlt:=jQ hs;have lT:=k.len;have rG:r≠G:=λz=>n3<|z ▸ rm;have B:=k.lst _ _ rG hs;have N:=k.lst _ _ (λz=>n1 z.symm) hL;obtain⟨T1,f⟩:∃T1,T1=T++[O.lst<|l.map .int]:=⟨_,rfl⟩;have J:kC T T1:=by rw[f];gp_on
  obtain⟨M,T2,e2,q2,P⟩:=Qc (x0:=.ref L) (x1:=.ref F) (x2:=x2) (x3:=.ref G) (x6:=x6') (J.lst _ _ (λz=>z) B) (show iI T1 T.length=some (l.map .int)by rw[f];exact iY) () d ();obtain⟨V,C,T3,e3,c3,Y,k3,lC,g⟩:=MC (x0:=.ref L) (x1:=.ref F) (x2:=x2) (x3:=.ref G) (x6:=M) (P.lst _ _ ()<|J.lst _ _ (λz=>z) B) q2 ()<|bH (Kc.qD _ _) hl;have lT1:=J.len;have lT2:=P.len;have lT3:=k3.len;have lGT:G<T.length:=()
  have gl:gs.length<=600000:=by
   have:=hg.len;have b:=Kc.qM l<|D.take i;have:(D.take i).length<=D.length:=by rw[bG];lia
   have:(D.take i).length * l.length<=100000 * 6:=iF () hl
   lia
  have ql:V.length<=6:=by
   have:=Y.len;rw[aG,(sortI_perm _).length_eq]at this;have:=Kc.qD s l
   lia
  have j:kC T T2:=J.old P λn hn _ z=>();have U:kC T T3:=j.trans k3;have W:=j.lst _ _ (λz=>z) K;have e4:=NU (U.lst _ _ (λz=>z) K) c3 (by rw[aG,aG];lia);refine⟨[.ref L,.ref F,x2,.ref G,.ref r,x5',x6'],T,by dsimp[ji,bools],.inl ?_⟩;unfold pQ;dsimp[ji,bools,N,j4<|show(l.map A.int).length<=16777216 by rw[aG];lia,<- f,↓e2,W,↓e3,e4];have gG:∀p∈gs++V,p≠G:=λp d z=>by
   rcases aV.mp d with w|w
   ·have:=m p w;lia
   ·have:=g p w;lia
  refine⟨_,_,rfl,_,_,_,gs++V,rfl,?_,?_,?_,λp d=>?_⟩
  ·rw[kR (),bE]
  ·rw[eo,q];show Rows _ _ (Kc.grown l<|D.take i++[s]);rw[z_];refine((lN hg U λ_ _ z=>z).app Y).mono λp d xs e=>?_;rw[jC (gG p d).symm];exact e
  ·exact(k.trans U.of0).set (.inl rfl)
  ·rcases aV.mp d with w|w
   ·exact m p w
   ·have:=g p w;lia
 ·rintro τ T ⟨x4',x5',x6',gs,rfl,K,hg,k,_⟩;rw[aG,lD,b9]at hg;exact⟨_,_,_,_,_,rfl,K,hg,k⟩
def PZ{G:Nat}{gs:ag}{D:List<|ae}(hG:iI S G=some (gs.map .ref))(hR:Rows S gs D)(hF:iI S F=some [])(n2:F≠G)(n3:F∉gs)(hb:D.length<=1000000) :
  ∃(x4':A) (ds:ag) (S':iK),kN sN (jj 4) pH [.ref L,.ref F,x2,.ref G,x4,x5,x6] S=.nx [.ref L,.ref F,x2,.ref G,x4',x5,x6] S'/\iI S' F=some (ds.map .ref)/\Rows S' ds (Kc.da [] D)/\Kp (·=F) S S':=by
 have lD:=hR.len;have lF:=jQ hF;refine qO (n:=G) (xs:=gs.map .ref) (S1:=S) (m8 (by dsimp[ji,bools]) hG)
  (λi τ T=>∃(x4':A) (ds:ag),τ=[.ref L,.ref F,x2,.ref G,x4',x5,x6]/\iI T F=some (ds.map .ref)/\Rows T ds (Kc.da []<|D.take i)/\Kp (·=F) S T/\∀p∈ds,p∈gs)
  (λz=>∃(x4':A) (ds:ag) (S':iK),z=.nx [.ref L,.ref F,x2,.ref G,x4',x5,x6] S'/\iI S' F=some (ds.map .ref)/\Rows S' ds (Kc.da [] D)/\Kp (·=F) S S')
  ⟨_,[],rfl,hF,trivial,Kp.refl,λp C=>nomatch C⟩ (λi τ T ⟨_,_,_,_,_,k,_⟩=>k.lst _ _ (λz=>n2 z.symm) hG) ?_ ?_
 ·rintro i z τ T hz ⟨x4',ds,rfl,W,hg,k,B⟩;rw[aR]at hz;obtain⟨r,hr,rfl⟩:=bC.mp hz;obtain⟨hi,hs⟩:=hR.get hr;have rm:r∈gs:=aX hr;obtain⟨s,es⟩:∃s,s=D.getD i []:=⟨_,rfl⟩;rw[<- es]at hs;have Z:D[i]?=some s:=by rw[es,aF,aE hi];rfl
  have rF:r≠F:=λz=>n3<|z ▸ rm;have P:=k.lst _ _ rF hs;have lT:=k.len;have nF:∀p∈ds,p≠F:=λp C z=>n3<|z ▸ B p C;have snoc:Kc.da [] (D.take<|i+1)=if (Kc.da []<|D.take i).getLast?=some s then Kc.da [] (D.take i)else Kc.da [] (D.take i)++[s]:=by
   rw[eo,Z];exact Kc.CN _ _ _
  have dl:ds.length<=1000000:=by
   have:=hg.len;have:=Kc.E5 (D.take i) [];have:(D.take i).length<=D.length:=by rw[bG];lia
   dsimp[d8,dQ]at *
   lia
  obtain⟨T1,f⟩:∃T1,T1=T++[O.lst []]:=⟨_,rfl⟩;have K:kC T T1:=by rw[f];gp_on
  have g:=K.lst _ _ (λz=>z) W;have hs1:=K.lst _ _ (λz=>z) P;have J:=lN hg K λ_ _ z=>z;have hn1:iI T1 T.length=some []:=by rw[f];exact iY
  have e1:sL false (.ref F) (.ref T.length) T1=.ok (.bl<|decide<|Kc.da [] (D.take i)=[]) T1:=by
   show opt ((iI T1 F).bind λxs=>(iI T1 T.length).bind λys=>pZ (o_ T1 11) xs ys) _=_;rw[g,bB,hn1,bB];have:=rC (n:=9) (rs':=[]) (T':=[]) J trivial;rw[show(([]:ag).map A.ref)=[]from rfl]at this;rw[this,iZ];rfl
  refine⟨[.ref L,.ref F,x2,.ref G,.ref r,x5,x6],T,by dsimp[ji,bools],.inl ?_⟩;unfold pH;have app:∀T2:iK,kC T T2->∃j S',lH (z8 kU (iH 1)<|iJ (iH 4) iU) [.ref L,.ref F,x2,.ref G,.ref r,x5,x6] T2=.nx j S'/\∃(x4':A) (m:ag),j=[.ref L,.ref F,x2,.ref G,x4',x5,x6]/\iI S' F=some (m.map .ref)/\Rows S' m (Kc.da [] (D.take i)++[s])/\Kp (·=F) S S'/\∀p∈m,p∈gs:=by
   intro T2 V;have N:=V.lst _ _ (λz=>z) W;dsimp[ji,bools,N,aG,qv<|show ds.length<16777216 by lia];refine⟨_,_,rfl,_,ds++[r],rfl,?_,?_,(k.trans V.of0).set<|.inl rfl,λp C=>?_⟩
   ·rw[kR<|jQ N,bE];rfl
   ·refine((lN hg V λ_ _ z=>z).app (rs':=[r]) (T':=[s]) ⟨V.lst _ _ (λz=>z) P,trivial⟩).mono λp C xs e=>?_;rw[jC ?_]
    ·exact e
    ·rcases aV.mp C with w|w
     ·exact(nF p w).symm
     ·rw[aP.mp w];exact rF.symm
   ·rcases aV.mp C with w|w
    ·exact B p w
    ·rw[aP.mp w];exact rm
  by_cases c:Kc.da [] (D.take i)=[]
  ·rw[c]at snoc;rw[snoc,aO<|by simp];obtain⟨j,S',a1,U⟩:=app T1 K;rw[c]at U;dsimp[ji,bools,<- f,e1,bf c,↓a1];exact⟨_,_,rfl,U⟩
  ·have lg:=hg.len;have hpos:0<ds.length:=by
    rw[lg];exact fJ.mpr c
   have hq:ds[ds.length-1]?=some ds[ds.length-1]:=aE ();obtain⟨q,eq⟩:∃q,q=ds[ds.length-1]:=⟨_,rfl⟩;rw[<- eq]at hq;have Y:=(J.get hq).2;have M:(Kc.da []<|D.take i).getLast?=some ((Kc.da []<|D.take i).getD (ds.length-1) []):=by
    rw[List.getLast?_eq_getElem?,<- lg,aF,aE ()];rfl
   have ei:mL (ds.map A.ref) (-1)=some (.ref q):=by
    unfold L2.mL L2.yy;rw[aG,aO ⋯,aN (),bB,show((-1:Int)+(ds.length:Int)).toNat=ds.length-1 by lia,aR,hq];rfl
   have e2:sL true (.ref q) (.ref r) T1=.ok (.bl<|!decide ((Kc.da []<|D.take i).getD (ds.length-1) []=s)) T1:=by
    show opt (o_ T1 12 _ _) _=_;rw[Bh Y hs1,iZ];rfl
   by_cases d:(Kc.da []<|D.take i).getD (ds.length-1) []=s
   ·rw[snoc,aN<|by rw[M,d]];dsimp[ji,bools,<- f,e1,aZ c,g,ei,e2,bf d,gZ];exact⟨_,_,rfl,_,ds,rfl,g,J,k.trans K.of0,B⟩
   ·rw[snoc,aO<|by rw[M];exact λz=>d<|aU z];obtain⟨j,S',a1,U⟩:=app T1 K;dsimp[ji,bools,<- f,e1,aZ c,g,ei,e2,aZ d,iD,↓a1];exact⟨_,_,rfl,U⟩
 ·rintro τ T ⟨x4',ds,rfl,W,hg,k,_⟩;rw[aG,lD,b9]at hg;exact⟨_,_,_,rfl,W,hg,k⟩
def N_{l:ae}(hL:iI S L=some (l.map .int))(hl:l.length<=6) :
  ∃(F:Nat) (fs:ag) (S':iK),lI [.ref L] S=.ok (.ref F) S'/\iI S' F=some (fs.map .ref)/\Rows S' fs (Kc.lv l l.length)/\kC S S':=by
 have lL:=jQ hL;have f:∀k,k<=6->(Kc.lv l k).length<=46656:=λk hk=>bH (Kc.Cn hl k)<|gH ⋯ hk;obtain⟨m,d⟩:∃m,m=S++[O.lst []]++[O.lst [.ref S.length]]:=⟨_,rfl⟩;have k0:kC S m:=by rw[d];exact Kp.refl.lay.lay
 have l1:(S++[O.lst []]).length=S.length+1:=by rw[aL];rfl
 have h0:=k0.lst _ _ (λz=>z) hL;have W:iI m (S.length+1)=some ([S.length].map .ref):=by rw[d,<- l1];exact iY
 have Z:Rows m [S.length] (Kc.lv l 0):=⟨by rw[d];exact jE iY,trivial⟩;unfold lI rJ sq;dsimp[ji,bools,nk,Nat.reduceAdd,Nat.reduceSub,j4<|show([]:ad).length<=16777216 by simp,j4<|show([_]:ad).length<=16777216 by simp,l1,<- d];refine xO (lo:=0) (hi:=(l.length:Int)) (S1:=m) (oZ (by dsimp[ji,bools,h0,aG])<|oJ () ())
  (λi τ T=>∃(F:Nat) (fs:ag) (x2 V x4 x5 x6:A),τ=[.ref L,.ref F,x2,V,x4,x5,x6]/\iI T F=some (fs.map .ref)/\Rows T fs (Kc.lv l i)/\kC S T)
  (λq=>∃(F:Nat) (fs:ag) (S':iK),RS.end (RS.seq q _)=.ok (.ref F) S'/\iI S' F=some (fs.map .ref)/\Rows S' fs (Kc.lv l l.length)/\kC S S')
  ⟨_,_,_,_,_,_,_,rfl,W,Z,k0⟩ ?_ ?_
 ·rintro i τ T hi ⟨F,fs,x2,V,x4,x5,x6,rfl,G,C,k⟩;left;have p:i<=6:=()
  have M:=k.lst _ _ (λz=>z) hL;have lT:=k.len;obtain⟨T1,g⟩:∃T1,T1=T++[O.lst []]:=⟨_,rfl⟩;have B:kC T T1:=by rw[g];gp_on
  have U:iI T1 T.length=some []:=by rw[g];exact iY
  have flt:=C.lt;have lF:=jQ G;obtain⟨x4a,Y,P,gs,T2,e2,g2,r2,k2⟩:=P6 (x2:=.int<|0+(i:Int)) (x4:=x4) (x5:=x5) (x6:=x6) (B.lst _ _ (λz=>z) M) (B.lst _ _ (λz=>z) G) (lN C B λ_ _ z=>z) U () () (λz=>absurd (flt _ z) ()) (λs hs=>(((Kc.Qn l i).mem s).mp hs).2) hl<|bH (f i p) ⋯;obtain⟨T3,j⟩:∃T3,T3=T2++[O.lst []]:=⟨_,rfl⟩;have J:kC T2 T3:=by rw[j];gp_on
  have N:iI T3 T2.length=some []:=by rw[j];exact iY
  have K:=r2.lt;have gG:=jQ g2;obtain⟨x4b,ds,T4,e4,f4,r4,k4⟩:=PZ (L:=L) (x2:=.int<|0+(i:Int)) (x4:=x4a) (x5:=Y) (x6:=P) (J.lst _ _ (λz=>z) g2) (lN r2 J λ_ _ z=>z) N () (λz=>absurd (K _ z) ()) (by
   have:=Kc.qM l<|Kc.lv l i;have:(Kc.lv l i).length * l.length<=46656 * 6:=iF (f i p) hl
   lia)
  have l2:=k2.len;have l3:=J.len;have lT1:=B.len;unfold sU;dsimp[ji,bools,j4<|show([]:ad).length<=16777216 by simp,<- g,↓e2,<- j,↓e4];exact⟨_,_,rfl,_,ds,_,_,_,_,_,rfl,f4,r4,(((k.trans B).old k2 λn hn _ z=>()).trans J).old k4 λn hn _ z=>()⟩
 ·rintro τ T ⟨F,fs,x2,V,x4,x5,x6,rfl,G,C,k⟩;rw[show((l.length:Int)-0).toNat=l.length by lia]at C;exact⟨F,fs,T,by dsimp[ji,bools],G,C,k⟩
end K64
namespace K64
open PySem L2 Am
open Mo Ld
def SH{kvs:List<|ae×A}{k:ae}:(nE kvs k).isSome=decide (k∈kvs.map (·.1)):=by
 unfold nE;rw[gU]
 cases h:kvs.find? λf=>decide (f.1=k)with
 | none=>
  refine(aZ λz=>?_).symm;obtain⟨p,g,e⟩:=bU.mp z;have:=List.find?_eq_none.mp h p g;exact this<|bf e
 | some p=>
  refine(bf ?_).symm;have h1:=List.mem_of_find?_eq_some h;have d:=List.find?_some h;have d:=bZ d;exact bU.mpr ⟨p,h1,d⟩
def Kq{kvs:List<|ae×A}{k:ae}{v:A}(h:k∉kvs.map (·.1)):putD kvs k v=kvs++[(k,v)]:=by
 unfold putD;rw[SH,aO<|by rw[gV];exact h]
abbrev mk (R:List<|ae):List (ae×A):=R.map λo=>(o,.bl true)
def Bb(R:List<|ae):(mk R).map (·.1)=R:=by
 unfold mk;rw[cX];exact List.map_id _
def ML{o:ae}:K5 true (.tup<|o.map .int) (.ref d) S=opt (ku S d) λkvs=>.ok (.bl<|!(nE kvs o).isSome) S:=by
 show opt (ku S d) (λkvs=>opt (A.ints<|o.map .int) λf=>_)=_;rw[ints_map];rfl
def Gu{n:Nat}{o:ae}{v:A}{S:iK}:zu (.ref n) (.tup<|o.map .int) v S=opt (ku S n) λkvs=>gd (kvs.length<sizeLine) (.ok Unit.unit<|S.set n<|.dct<|putD kvs o v):=by
 show opt (ku S n) (λkvs=>opt (A.ints<|o.map .int) λd=>gd (kvs.length<sizeLine)<|.ok Unit.unit<|S.set n<|.dct<|putD kvs d v)=_;rw[ints_map];rfl
def Jv{co ci:Ex}{a:A}:Oz co ci a τ S=(co τ S).bind λo S1=>(ci τ S1).bind λi S2=>(zu o i a S2).bind λ_ S3=>.ok τ S3:=rfl
def M4{S:iK}{n:Nat}(h:ku S n=some xs):n<S.length:=(aI.mp<|pN h).1
def wR{n:Nat}(h:ku S n=some d)(h':iI S m=some xs):n≠m:=λz=>by
 subst z;have e1:=pN h;rw[iS h']at e1
 cases e1
abbrev Bq (r q:Nat)(n:Nat):Prop:=n=r\/n=q
def Nr{W xs:List<|ae}{fs qs:ag}(hs:kE [.ref L,.ref F,.ref d,x3,x4] S0=.ok (jq m (qs.map A.ref).length) S)(hm:iI S m=some (qs.map .ref))(hq:Rows S qs xs)(hF:iI S F=some (fs.map .ref))(hf:Rows S fs W)(hd:ku S d=some (mk W))(nm:m≠F)(nq:F∉qs)(nf:F∉fs)(hb:W.length+xs.length<=1000000) :
  ∃(x4':A) (fs':ag) (S':iK),kN kE (jj 4) mJ [.ref L,.ref F,.ref d,x3,x4] S0=.nx [.ref L,.ref F,.ref d,x3,x4'] S'/\iI S' F=some (fs'.map .ref)/\Rows S' fs' (dd W xs)/\ku S' d=some (mk<|dd W xs)/\Kp (Bq d F) S S'/\F∉fs':=by
 have lq:=hq.len;have N:=wR hd hF;have dm:=wR hd hm;refine qO (n:=m) (xs:=qs.map .ref) (S1:=S) hs
  (λi τ T=>∃(x4':A) (fs':ag),τ=[.ref L,.ref F,.ref d,x3,x4']/\iI T F=some (fs'.map .ref)/\Rows T fs' (dd W<|xs.take i)/\ku T d=some (mk<|dd W<|xs.take i)/\Kp (Bq d F) S T/\(∀p∈fs',p∈fs\/p∈qs)/\(dd W<|xs.take i).length<=W.length+i)
  (λz=>∃(x4':A) (fs':ag) (S':iK),z=.nx [.ref L,.ref F,.ref d,x3,x4'] S'/\iI S' F=some (fs'.map .ref)/\Rows S' fs' (dd W xs)/\ku S' d=some (mk<|dd W xs)/\Kp (Bq d F) S S'/\F∉fs')
  ⟨_,fs,rfl,hF,by rw[bX];exact hf,by rw[bX];exact hd,Kp.refl,λp g=>.inl g,by rw[bX];exact aM _⟩ (λi τ T ⟨_,_,_,_,_,_,k,_⟩=>k.lst _ _ (λz=>z.elim (λz=>dm z.symm) nm) hm) ?_ ?_
 ·rintro i z τ T V ⟨x4',fs',rfl,J,C,f,k,g,hl⟩;rw[aR]at V;obtain⟨q,G,rfl⟩:=bC.mp V;obtain⟨hi,hs⟩:=hq.get G;have U:q∈qs:=aX G;obtain⟨s,es⟩:∃s,s=xs.getD i []:=⟨_,rfl⟩;rw[<- es]at hs;have K:xs[i]?=some s:=by rw[es,aF,aE hi];rfl
  have O:=wR hd hs;have Y:q≠F:=λz=>nq<|z ▸ U;have B:=k.lst _ _ (λz=>z.elim (λz=>O z.symm) Y) hs;have st:dd W (xs.take<|i+1)=if s∈dd W (xs.take i)then dd W (xs.take i)else dd W (xs.take i)++[s]:=by
   rw[eo,K];exact BK _ _ _
  have P:K5 true (.tup<|s.map .int) (.ref d) T=.ok (.bl<|!decide (s∈dd W (xs.take i))) T:=by
   rw[ML,f,iZ,SH,Bb]
  have fF:∀p∈fs',p≠F:=λp h z=>(g p h).elim (λw=>nf<|z ▸ w) λw=>nq<|z ▸ w;have fd:∀p∈fs',p≠d:=λp h z=>by
   obtain⟨j,hj,e⟩:=c5.mp h;have:=(C.get<|aE hj).2;rw[e,z]at this;exact wR f this rfl
  refine⟨[.ref L,.ref F,.ref d,x3,.ref q],T,by dsimp[ji,bools],.inl ?_⟩;unfold mJ;by_cases c:s∈dd W (xs.take i)
  ·dsimp[ji,Kg,bools,B,P,bf c,gZ];exact⟨_,_,rfl,_,fs',rfl,J,by rw[st,aN c];exact C,by rw[st,aN c];exact f,k,g,by rw[st,aN c];lia⟩
  ·have e1:zu (.ref d) (.tup<|s.map .int) (.bl true) T=.ok Unit.unit (T.set d<|.dct<|mk<|dd W (xs.take i)++[s]):=by
    rw[Gu,f,iZ,Kq<|by rw[Bb];exact c];rw[qv<|by unfold mk;rw[aG];lia];unfold mk;rw[bE];rfl
   have Z:=M4 f;have M:iI (T.set d<|.dct<|mk<|dd W (xs.take i)++[s]) F=some (fs'.map .ref):=ou (by rw[bz N];exact iS J);have lf:=C.len;have lF:=jQ J;dsimp[ji,Kg,bools,B,P,aZ c,iD,Jv,e1,M,aG,qv<|show fs'.length<16777216 by lia];refine⟨_,_,rfl,_,fs'++[q],rfl,?_,?_,?_,(k.Nq<|.inl<|.inl rfl).Nq<|.inl<|.inr rfl,λp h=>?_,?_⟩
   ·rw[kR<|by rw[bD];exact lF,bE];rfl
   ·rw[st,aO c];refine(C.app (rs':=[q]) (T':=[s]) ⟨B,trivial⟩).mono λp h xs e=>?_;have:p≠F/\p≠d:=by
     rcases aV.mp h with w|w
     ·exact⟨fF p w,fd p w⟩
     ·rw[aP.mp w];exact⟨Y,λz=>O z.symm⟩
    rw[jC this.1.symm];exact ou<|by rw[bz this.2.symm];exact iS e
   ·rw[st,aO c];exact u5 (by rw[bz N.symm,bF Z])
   ·rcases aV.mp h with w|w
    ·exact g p w
    ·rw[aP.mp w];exact .inr U
   ·rw[st,aO c,aL];show _+1<=_
    lia
 ·rintro τ T ⟨x4',fs',rfl,J,C,f,k,g,hl⟩;rw[aG,lq,b9]at C f;exact⟨_,fs',T,rfl,J,C,f,k,λh=>(g _ h).elim nf nq⟩
def HA{ck cv:Ex}{S2:iK}{o:ae}{v:A}(h1:ck τ S=.ok (.tup<|o.map .int) S1)(J:cv τ S1=.ok v S2):C5 ck cv τ S=.ok (.ref S2.length) (S2++[.dct [(o,v)]]):=by
 unfold C5;rw[h1,R.jv,J,R.jv];show opt (A.ints<|o.map .int) _=_;rw[ints_map];rfl
def DH{S:iK}{n:Nat}{J:ag}(ht:iI S n=some (J.map .ref))(hr:Rows S J T):∃fs:ag,sC (.ref n) S=.ok (.ref S.length) (S++[.lst<|fs.map .ref])/\Rows (S++[.lst<|fs.map .ref]) fs (kg T):=by
 have k:=hr.len;refine⟨(Aq T).map λi=>J.getD i 0,?_,?_⟩
 ·show rB n S=_;unfold rB;rw[ht,iZ,uv hr,iZ,cX];have:(Aq T).map (λi=>(J.map A.ref).getD i .non)=(Aq T).map (A.ref ∘ λi=>J.getD i 0):=eG λi hi=>by
   have:=pD hi;show(J.map A.ref).getD i .non=.ref (J.getD i 0);rw[aF,aR,aE (),aF,aE ()];rfl
  rw[this]
 ·rw[<- zH T];have:∀(l:ag),(∀i∈l,i<T.length)->Rows (S++[.lst<|((Aq T).map λi=>J.getD i 0).map .ref]) (l.map λi=>J.getD i 0) (l.map λi=>T.getD i []):=by
   intro l
   induction l with
   | nil=>intro _;trivial
   | cons i l f=>
    intro d;refine⟨jE ?_,f λj g=>d j<|aJ _ g⟩;have hi:=d i<|aK ..;exact(hr.get (i:=i) (r:=J.getD i 0)<|by rw[aF,aE ()];rfl).2
  exact this _ λi hi=>pD hi
structure Rea (w:ae)(a:Nat)(W:List (ae)):Prop where
 nd:W.Nodup
 me:w∈W
 tb:∀x∈W,x.foldl Tb.put []=w.foldl Tb.put []
 cl:∀i,i<a->∀y∈qW (W.getD i []),y∈W
 le:a<=W.length
def Rea.step{w:ae}{a:Nat}{W:List<|ae}(h:Rea w a W)(J:a<W.length):Rea w (a+1) (dd W<|kg<|qW<|W.getD a []):=by
 obtain⟨ys,e⟩:=Kc.AN (kg<|qW<|W.getD a []) W;have f:∀i,i<W.length->(dd W<|kg<|qW<|W.getD a []).getD i []=W.getD i []:=λi hi=>by
  rw[e,aF,bw hi,<- aF]
 have d:=Kc.Az (kg<|qW<|W.getD a []) W;refine⟨Kc.E4 _ h.nd,(d _).mpr<|.inl h.me,λx g=>?_,λi hi y hy=>?_,by rw[e,aL];lia⟩
 ·rcases(d x).mp g with z|z
  ·exact h.tb x z
  ·rw[Kc.keep<|(kK _).mem_iff.mp z];exact h.tb _<|by rw[aF,aE J];exact c6 _
 ·rw[f i ()]at hy;by_cases c:i<a
  ·exact(d y).mpr (.inl<|h.cl i c y hy)
  ·rw[show i=a by lia]at hy;exact(d y).mpr (.inr<|(kK _).mem_iff.mpr hy)
def vW(xs:List<|ae):(kg xs).length=xs.length:=(kK xs).length_eq
def Km(r:ae):(qW r).length<=r.length:=by
 unfold qW;rw[aG];have:=ff (may r)<|List.range<|r.length-1;rw[cF]at this
 lia
def A4{w:ae}(hL:iI S L=some (w.map .int))(hw:w.length<=6) :
  ∃(F:Nat) (fs:ag) (W:List<|ae) (S':iK),kh [.ref L] S=.ok (.ref F) S'/\iI S' F=some (fs.map .ref)/\Rows S' fs (kg W)/\Rea w W.length W/\kC S S':=by
 have lL:=jQ hL;obtain⟨S1,d⟩:∃S1,S1=S++[O.lst [.ref L]]:=⟨_,rfl⟩;have k1:kC S S1:=by rw[d];gp_on
 have l1:S1.length=S.length+1:=by rw[d,aL];rfl
 obtain⟨S2,g⟩:∃S2,S2=S1++[O.dct [(w,.bl true)]]:=⟨_,rfl⟩;have V:kC S1 S2:=by rw[g];gp_on
 have J:=k1.lst _ _ (λz=>z) hL;have P:=V.lst _ _ (λz=>z) J;have N:iI S1 S.length=some ([L].map .ref):=by rw[d];exact iY
 have hF2:=V.lst _ _ (λz=>z) N;have hd2:ku S2 S1.length=some (mk [w]):=by rw[g];exact u5 EH
 have e0:=HA (ck:=ja (f1 qf)<|iJ (iH 0) iU) (cv:=eC<|.bl true) (τ:=[.ref L,.ref S.length,.unb,.unb,.unb]) (S:=S1) (S1:=S1) (S2:=S1) (o:=w) (v:=.bl true) (by dsimp[ji,Kg,bools,J]) rfl;rw[<- g]at e0;unfold kh nS nW;dsimp[ji,Kg,bools,nk,Nat.reduceAdd,Nat.reduceSub,j4<|show([_]:ad).length<=16777216 by simp,<- d,e0];have key:=pA (t:=kG) (c:=l8)
  (λτ T=>∃(a:Nat) (x4:A) (fs:ag) (W:List<|ae),τ=[.ref L,.ref S.length,.ref S1.length,.int a,x4]/\iI T S.length=some (fs.map .ref)/\Rows T fs W/\ku T S1.length=some (mk W)/\Rea w a W/\kC S T/\S.length∉fs)
  (λτ T=>match τ with
   | [_,_,_,.int a,_]=>50000-a.toNat
   | _=>0)
  (λq=>∃(F:Nat) (fs:ag) (W:List<|ae) (S':iK),RS.end (RS.seq q<|ko<|ja (f1 sC)<|iJ (iH 1) iU)=.ok (.ref F) S'/\iI S' F=some (fs.map .ref)/\Rows S' fs (kg W)/\Rea w W.length W/\kC S S') ?_ 1000000
 ·refine key _ _ ⟨0,_,[L],[w],rfl,hF2,⟨P,trivial⟩,hd2,⟨bM ..,aP.mpr rfl,λx hx=>by rw[aP.mp hx],λi hi=>absurd hi<|cK _,bQ _⟩,k1.trans V,λz=>by have:=aP.mp z;lia⟩ ?_;show 50000-_<1000000
  lia
 ·rintro τ T ⟨a,x4,fs,W,rfl,C,M,hd,p,k,nf⟩;have lf:=M.len;have Wl:=Kc.few hw p.nd p.tb;have lT:=k.len;have t1:kG [.ref L,.ref S.length,.ref S1.length,.int a,x4] T=.ok (decide<|(a:Int)<(W.length:Int)) T:=by
   unfold kG;dsimp[ji,Kg,bools,C,aG,lf]
  rw[t1];by_cases c:a<W.length
  ·right;refine⟨T,by rw[bf ()],.inl ?_⟩;have B:fs[a]?=some (fs.getD a 0):=by rw[aF,aE<|show a<fs.length by lia];rfl
   have U:=(M.get B).2;have hx:W.getD a []∈W:=by rw[aF,aE c];exact c6 _
   have xl:(W.getD a []).length<=6:=by
    have:=(Kc.lZ<|W.getD a []).length_eq;rw[p.tb _ hx,(Kc.lZ w).length_eq]at this
    lia
   have ia:mL (fs.map A.ref) (a:Int)=some (.ref<|fs.getD a 0):=pO (k:=a) rfl (by rw[aR,B];rfl);obtain⟨T1,f⟩:∃T1,T1=T++[O.lst<|(W.getD a []).map .int]:=⟨_,rfl⟩;have G:kC T T1:=by rw[f];gp_on
   obtain⟨m,qs,T2,e2,j,kt2,f2⟩:=E1 (S:=T1) (L:=T.length) (r:=W.getD a []) (by rw[f];exact iY) ();have K:=G.trans kt2;have lT1:=G.len;have hs:kE [.ref L,.ref S.length,.ref S1.length,.int a,x4] T=.ok (jq m (qs.map A.ref).length) T2:=by
    refine m8 ?_ j.top;dsimp[ji,Kg,bools,C,ia,U,j4<|show((W.getD a []).map A.int).length<=16777216 by rw[aG];lia,<- f,e2]
   have lFT:=jQ C;obtain⟨x4',fs',T3,e3,hF3,hR3,Y,k3,Z⟩:=Nr (x3:=.int a) (x4:=x4) hs j.top j.rows (K.lst _ _ (λz=>z) C) (lN M K λ_ _ z=>z) (K.dct _ _ (λz=>z) hd) (λz=>by have:=f2 m<|aK ..;lia) (λz=>by have:=f2 _<|aJ _ z;lia) nf (by
    rw[vW];have:=Km (W.getD a [])
    lia)
   unfold l8;dsimp[ji,Kg,bools,↓e3];refine⟨_,_,rfl,⟨a+1,x4',fs',_,rfl,hF3,hR3,Y,p.step c,(k.trans K).old k3 λn hn _ z=>z.elim (λz=>()) λz=>(),Z⟩,?_⟩;show 50000-((a:Int)+1).toNat<50000-(a:Int).toNat
   lia
  ·left;refine⟨T,by rw[aZ ()],?_⟩;have ha:a=W.length:=by have:=p.le;lia
   obtain⟨gs,es,rs⟩:=DH C M;refine⟨T.length,gs,W,T++[.lst<|gs.map .ref],?_,iY,rs,ha ▸ p,k.lay⟩;dsimp[ji,Kg,bools,es]
end K64
namespace K64
open PySem L2 Am
abbrev ni (l:ag):ae:=l.map λn:Nat=>(n:Int)
theorem FE:∀(l:ag),(ni l).sum=(l.sum:Nat)
 | []=>rfl
 | n::l=>by
  show(n:Int)+(ni l).sum=((n+l.sum:Nat):Int);rw[FE l];lia
def LN{l:ag}{i:Nat}(h:i<l.length):mL ((ni l).map A.int) (i:Int)=some (.int (l.getD i 0:Nat)):=by
 refine pO (k:=i) rfl ?_;unfold ni;rw[cX,aR,aE h,aF,aE h];rfl
def Ov(l:ag)(i m:Nat):((ni l).map A.int).set i (.int (m:Int))=(ni<|l.set i m).map A.int:=by
 unfold ni;rw[cX,cX,map_set];rfl
abbrev sc (n:Nat)(l:ag)(a:Nat):Nat:=if l.getD (a+1) 0<l.getD a 0 then Kc.sec n (l.set a<|l.getD a 0-1)else 0
def KO(f:Nat->Nat)(i:Nat):((List.range<|i+1).map f).sum=((List.range i).map f).sum+f i:=by
 rw[List.range_succ,bE,List.sum_append];simp
theorem Gi:∀(f n:Nat) {S:iK}{r:Nat}{l:ag},iI S r=some ((ni l).map .int)->l.sum=n->n<f->l.length<=100->∃S',jP f [.ref r] S=.ok (.int (Kc.sec n l:Nat)) S'/\kC S S'
 | 0,n,_,_,_,_,_,hf,_=>absurd hf (cK _)
 | f+1,n,S,r,l,hr,hs,hf,hl=>by
  have es:Nc (.ref r) S=.ok (.int (n:Nat)) S:=by
   show opt (iI S r) _=_;rw[hr,iZ,ints_map,iZ,FE,hs]
  have p:(ni l).length=l.length:=by unfold ni;rw[aG]
  have lr:=jQ hr;show ∃S',mE kc (ki<|jP f) [.ref r] S=_/\_;unfold ki kc
  cases n with
  | zero=>
   dsimp[ji,bools,nk,Nat.reduceAdd,Nat.reduceSub,es,show(((0:Nat):Int) == 0)=true from rfl];exact⟨S,rfl,Kp.refl⟩
  | succ n=>
   have c0:(((n+1:Nat):Int) == 0)=false:=by rw[c9];lia
   have e0:Kc.sec (n+1) l=((List.range l.length).map<|sc n l).sum:=by
    unfold Kc.sec;rw[aO ()];rfl
   rw[e0];dsimp[ji,bools,nk,Nat.reduceAdd,Nat.reduceSub,es,c0];refine xO (lo:=0) (hi:=(l.length:Int)) (S1:=S) (oZ (by dsimp[ji,bools,hr,aG,p])<|oJ () ())
    (λi τ T=>∃(C B:A),τ=[.ref r,.int (((List.range i).map<|sc n l).sum:Nat),C,B]/\kC S T)
    (λq=>∃S',RS.end (RS.seq q _)=.ok (.int (((List.range l.length).map<|sc n l).sum:Nat)) S'/\kC S S')
    ⟨_,_,rfl,Kp.refl⟩ ?_ ?_
   ·rintro i τ T hi ⟨C,B,rfl,k⟩;left;have hi:i<l.length:=()
    have G:=k.lst _ _ (λz=>z) hr;have F:=LN hi;rw[KO,show(0:Int)+(i:Int)=(i:Int)by lia];unfold oU;have K:l.getD (i+1) 0<l.getD i 0->∃g S',(jb (jm (ja (f1 kX)<|iJ (iH 0) iU)<|jj 3)<|jb (jm (iQ aSub (iQ m9 (iH 3)<|iH 2)<|eC<|.int 1)<|N4 (iH 3)<|iH 2)<|jm (iQ jK (iH 1)<|eFn (jP f)<|iJ (iH 3) iU)<|jj 1) [.ref r,.int (((List.range i).map<|sc n l).sum:Nat),.int (i:Int),B] T=.nx g S'/\∃(C B:A),g=[.ref r,.int ((((List.range i).map<|sc n l).sum+sc n l i:Nat):Int),C,B]/\kC S S':=by
     intro c;obtain⟨T1,m⟩:∃T1,T1=T++[O.lst<|(ni l).map .int]:=⟨_,rfl⟩;have h1:iI T1 T.length=some ((ni l).map .int):=by rw[m];exact iY
     have V:kC T T1:=by rw[m];gp_on
     have W:yy ((ni l).map A.int).length (i:Int)=some i:=xK rfl (by rw[aG,p];exact hi);obtain⟨T2,j⟩:∃T2,T2=T1.set T.length (O.lst<|(ni<|l.set i<|l.getD i 0-1).map .int):=⟨_,rfl⟩;have N:iI T2 T.length=some ((ni<|l.set i<|l.getD i 0-1).map .int):=by rw[j];exact kR (jQ h1)
     have lT:=k.len;have P:kC T T2:=by rw[j];exact V.set (.inr<|aM _)
     have L:=Kc.wL l i ();obtain⟨T3,e3,Y⟩:=Gi f n N () () (by rw[bD];exact hl);have U:((ni l).map A.int).set i (.int ((l.getD i 0:Nat)-1:Int))=(ni<|l.set i<|l.getD i 0-1).map A.int:=by
      rw[<- Ov];congr 2;lia
     dsimp[ji,bools,G,j4<|show((ni l).map A.int).length<=16777216 by rw[aG,p];lia,<- m,h1,F,W,U,<- j,e3];have d:sc n l i=Kc.sec n (l.set i<|l.getD i 0-1):=aN c;rw[d,Int.natCast_add];exact⟨_,_,rfl,_,_,rfl,(k.trans P).trans Y⟩
    by_cases p0:0<l.getD i 0
    ·by_cases Z:i+1=l.length
     ·have hz:l.getD (i+1) 0=0:=by rw[aF,cP ()];rfl
      obtain⟨g,S',e,q⟩:=K ();have J:((i:Int) == (l.length:Int)-1)=true:=by rw[beq_iff_eq];lia
      dsimp[ji,bools,G,F,bf<|show(0:Int)<(l.getD i 0:Nat)by lia,aG,p,J,↓e];exact⟨_,_,rfl,q⟩
     ·have M:mL ((ni l).map A.int) ((i:Int)+1)=some (.int (l.getD (i+1) 0:Nat)):=LN (i:=i+1) ();have J:((i:Int) == (l.length:Int)-1)=false:=by rw[c9];lia
      by_cases c:l.getD (i+1) 0<l.getD i 0
      ·obtain⟨g,S',e,q⟩:=K c;dsimp[ji,bools,G,F,M,bf<|show(0:Int)<(l.getD i 0:Nat)by lia,aG,p,J,bf<|show((l.getD (i+1) 0:Nat):Int)<(l.getD i 0:Nat)by lia,↓e];exact⟨_,_,rfl,q⟩
      ·dsimp[ji,bools,G,F,M,bf<|show(0:Int)<(l.getD i 0:Nat)by lia,aG,p,J,aZ<|show ¬((l.getD (i+1) 0:Nat):Int)<(l.getD i 0:Nat)by lia];have d:sc n l i=0:=aO c;rw[d];exact⟨_,_,rfl,_,_,rfl,k⟩
    ·dsimp[ji,bools,G,F,aZ<|show ¬(0:Int)<(l.getD i 0:Nat)by lia];have d:sc n l i=0:=aO ();rw[d];exact⟨_,_,rfl,_,_,rfl,k⟩
   ·rintro τ T ⟨C,B,rfl,k⟩;rw[show((l.length:Int)-0).toNat=l.length by lia];exact⟨T,by dsimp[ji,bools],k⟩
def Fj{S:iK}{n:Nat}{T:List<|ae}(h:Tab S n rs T)(J:T.length<=1000):qQ [.ref n] S=.ok (.ref S.length) (S++[.lst<|(ni<|T.map List.length).map .int]):=by
 have e:=DG (cap:=[]) (τ:=[.ref n]) (src:=l5<|iH 0) h (m8 (by dsimp[ji,bools]) h.top) ();have m:(T.map λr=>(r.length:Int))=ni (T.map List.length):=by unfold ni;rw[cX];rfl
 rw[m]at e;unfold qQ xU yc;dsimp[ji,bools,nk,Nat.reduceAdd,Nat.reduceSub,e]
end K64
namespace K64
open PySem L2 Am
open Mo Ld
def zh{a:Nat}{J qs:ag}(ha:iI S a=some (J.map .ref))(hb:iI S b=some (qs.map .ref))(h:Rows S J T)(h':Rows S qs U):o_ S 12 (.ref a) (.ref b)=some (decide<|T=U):=by
 show(iI S a).bind (λxs=>(iI S b).bind λys=>pZ (o_ S 11) xs ys)=_;rw[ha,bB,hb,bB];exact rC h h'
def Mj{w:ae}(hL:iI S L=some (w.map .int))(hw:w.length<=6)(hF:Tab S f0 qs<|w.foldl Tb.put []) :
  ∃(ds:ag) (D:Nat) (S':iK),jH [none,some 6] (l5<|eFn lI<|iJ (iH 5) iU) (jj 0) (oY<|iQ (sL false) (iQ m9 (eFn lY<|iJ (ja (f1 kX)<|iJ (iH 0) iU) iU)<|eC<|.int 0)<|iH 1) (iH 0) (x0::x1::x2::x3::x4::.ref L::.ref f0::τ') S=.ok (.ref D) S'/\iI S' D=some (ds.map .ref)/\Rows S' ds ((Kc.lv w w.length).filter λx=>decide<|x.foldl Tb.put []=w.foldl Tb.put [])/\kC S S':=by
 obtain⟨F,fs,S1,e1,f,B,k1⟩:=N_ hL hw;obtain⟨V,W⟩:∃V,V=Kc.lv w w.length:=⟨_,rfl⟩;rw[<- W]at B ⊢;have vm:∀i,i<V.length->(V.getD i []).length<=6:=λi hi=>by
  have U:V.getD i []∈V:=by rw[aF,aE hi];exact c6 _
  rw[W]at U ⊢;have:=(Kc.Au.mp U).length_eq
  lia
 have lf:=B.len;have vl:V.length<=46656:=by rw[W];exact bH (Kc.Cn hw _) (gH ⋯ hw)
 have es:l5 (eFn lI<|iJ (iH 5) iU) (x0::x1::x2::x3::x4::.ref L::.ref f0::τ') S=.ok (jq F (fs.map A.ref).length) S1:=m8 (by dsimp[ji,bools,e1]) f;rw[aG]at es;obtain⟨ys,Y,g1,g2⟩:=oi (s:=jq F fs.length) (g:=jj 0) (t:=oY<|iQ (sL false) (iQ m9 (eFn lY<|iJ (ja (f1 kX)<|iJ (iH 0) iU) iU)<|eC<|.int 0)<|iH 1) (e:=iH 0) (T:=λτ=>∃y,τ=[y,.ref f0])
  (λi acc T=>∃d:ag,acc=d.map .ref/\Rows T d ((V.take i).filter λx=>decide<|x.foldl Tb.put []=w.foldl Tb.put [])/\kC S1 T)
  (λi=>decide<|(V.getD i []).foldl Tb.put []=w.foldl Tb.put [])
  (λi acc τ T hi ⟨y,hy⟩ ⟨d,C,q,k⟩=>by
   have hi:i<fs.length:=hi;subst hy;have M:fs[i]?=some (fs.getD i 0):=by rw[aF,aE hi];rfl
   obtain⟨K,U⟩:=B.get M;have G:=k.lst _ _ (λz=>z) U;have Z:V[i]?=some (V.getD i []):=by rw[aF,aE K];rfl
   have xl:=vm i K;obtain⟨T1,j⟩:∃T1,T1=T++[O.lst<|(V.getD i []).map .int]:=⟨_,rfl⟩;have kt1:kC T T1:=by rw[j];gp_on
   obtain⟨ns,ms,n,m,T2,e2,tn,tm,kt2,_⟩:=yG (S:=T1) (L:=T.length) (xs:=V.getD i []) (by rw[j];exact iY) ();rw[Mo.kL _ _<|aM _,b9]at tn;have J:=kt1.trans kt2;have f2:=(hF.Mk k1).Mk<|k.trans J;have eq:=zh tn.top f2.top tn.rows f2.rows;have eq:sL false (.ref n) (.ref f0) T2=.ok (.bl<|decide<|(V.getD i []).foldl Tb.put []=w.foldl Tb.put []) T2:=by
    show opt (o_ T2 12 _ _) _=_;rw[eq,iZ];rfl
   have snoc:(V.take<|i+1).filter (λx=>decide<|x.foldl Tb.put []=w.foldl Tb.put [])=(V.take i).filter (λx=>decide<|x.foldl Tb.put []=w.foldl Tb.put [])++if decide ((V.getD i []).foldl Tb.put []=w.foldl Tb.put [])=true then[V.getD i []]else[]:=by
    rw[eo,Z,List.filter_append];congr 1;by_cases c:decide ((V.getD i []).foldl Tb.put []=w.foldl Tb.put [])=true
    ·rw[aN c];exact List.filter_cons_of_pos c
    ·rw[aO c];exact List.filter_cons_of_neg c
   have N:=lN q J λ_ _ z=>z;refine⟨.ref<|fs.getD i 0,[.ref<|fs.getD i 0,.ref f0],T,T2,?_,rfl,⟨_,rfl⟩,?_,λP=>⟨d,C,?_,k.trans J⟩,λP=>⟨.ref<|fs.getD i 0,T2,by dsimp[ji,bools],d++[fs.getD i 0],by rw[C,bE];rfl,?_,k.trans J⟩⟩
   ·show(iI T F).bind _=_;rw[k.lst _ _ (λz=>z) f,bB,aR,M];rfl
   ·dsimp[ji,bools,G,j4<|show((V.getD i []).map A.int).length<=16777216 by rw[aG];lia,<- j,e2,show mL [A.ref n,A.ref m] (0:Int)=some (.ref n)from zR,eq]
   ·rw[snoc,P,aO<|by simp,bJ];exact N
   ·rw[snoc,P,aN rfl];exact N.app ⟨J.lst _ _ (λz=>z) G,trivial⟩)
  (λacc T ⟨_,_,_,k⟩=>by
   show(match iI T F with
    | some ys=>decide (ys.length<=fs.length)
    | none=>false)=true
   rw[k.lst _ _ (λz=>z) f];simp)
  fs.length 0 [] (mG [none,some 6] (x0::x1::x2::x3::x4::.ref L::.ref f0::τ')) S1 rfl ⟨_,rfl⟩ ⟨[],rfl,by rw[bX];trivial,Kp.refl⟩
 obtain⟨d,C,q,k⟩:=g2;rw[cI]at C;have q:Rows Y d ((V.take fs.length).filter λx=>decide<|x.foldl Tb.put []=w.foldl Tb.put []):=q;rw[lf,b9]at q;have lq:=q.len;have fl:=ff (λx=>decide<|x.foldl Tb.put []=w.foldl Tb.put []) V;refine⟨d,Y.length,Y++[.lst<|d.map .ref],?_,iY,q.mono λp P xs e=>jE e,(k1.trans k).lay⟩;unfold jH;rw[es,R.jv];show R.jD (jt (jq F fs.length) _ _ _ fs.length 0 _ _) _=_;rw[g1,R.i9,ju<|by rw[C,aG];lia,C]
def Oi{w:ae}{fs:ag}{W:List<|ae}(hL:iI S L=some (w.map .int))(hw:w.length<=6)(hF:iI S F=some (fs.map .ref))(hR:Rows S fs W)(hin:∀Q c,Road w c Q->∀i,i<Q.length->Q.getD i []∈W) :
  ∃(S':iK),jH [none,some 7] (l5<|eFn jy<|iJ (ja (f1 kX)<|iJ (iH 5) iU) iU) (jj 0) (oY<|iQ (Jf true) (iH 0)<|iH 1) (iH 0) (x0::x1::x2::x3::x4::.ref L::x6::.ref F::τ') S=.ok (.ref S'.length) (S'++[.lst []])/\kC S S':=by
 obtain⟨S1,j⟩:∃S1,S1=S++[O.lst<|w.map .int]:=⟨_,rfl⟩;have P:kC S S1:=by rw[j];gp_on
 obtain⟨k,d,Q,J,e2,m,K,lR,U,_⟩:=Bw (S:=S1) (L:=S.length) (xs:=w) (by rw[j];exact iY) ();have f:=P.trans U;have lr:=m.len;have es:l5 (eFn jy<|iJ (ja (f1 kX)<|iJ (iH 5) iU) iU) (x0::x1::x2::x3::x4::.ref L::x6::.ref F::τ') S=.ok (jq k (d.map A.ref).length) J:=m8 (by dsimp[ji,bools,hL,j4<|show(w.map A.int).length<=16777216 by rw[aG];lia,<- j,e2]) m.top;rw[aG]at es;have N:=f.lst _ _ (λz=>z) hF;have M:=lN hR f λ_ _ z=>z;obtain⟨ys,V,Z,g2⟩:=oi (s:=jq k d.length) (g:=jj 0) (t:=oY<|iQ (Jf true) (iH 0)<|iH 1) (e:=iH 0) (T:=λτ=>∃y,τ=[y,.ref F])
  (λi acc T=>acc=[]/\T=J) (λ_=>false)
  (λi acc τ T hi ⟨y,hy⟩ ⟨B,q⟩=>by
   have hi:i<d.length:=hi;subst hy q;have p:d[i]?=some (d.getD i 0):=by rw[aF,aE hi];rfl
   obtain⟨C,Y⟩:=m.rows.get p;have G:Jf true (.ref<|d.getD i 0) (.ref F) T=.ok (.bl false) T:=by
    show opt (iI T F) _=_;rw[N,iZ,t_ Y M,iZ,bf<|hin Q _ K i C];rfl
   refine⟨.ref<|d.getD i 0,[.ref<|d.getD i 0,.ref F],T,T,?_,rfl,⟨_,rfl⟩,by dsimp[ji,bools,G],λ_=>⟨B,rfl⟩,nofun⟩;show(iI T k).bind _=_;rw[m.top,bB,aR,p];rfl)
  (λacc T ⟨_,q⟩=>by
   show(match iI T k with
    | some ys=>decide (ys.length<=d.length)
    | none=>false)=true
   rw[q,m.top];simp)
  d.length 0 [] (mG [none,some 7] (x0::x1::x2::x3::x4::.ref L::x6::.ref F::τ')) J rfl ⟨_,rfl⟩ ⟨rfl,rfl⟩
 obtain⟨B,q⟩:=g2;rw[cI]at B;subst q B;refine⟨V,?_,f⟩;unfold jH;rw[es,R.jv];show R.jD (jt (jq k d.length) _ _ _ d.length 0 _ _) _=_;rw[Z,R.i9,ju<|by simp]
def PR(x:ae)(h:x.length<=6):∃R,Road x (Sy.plain<|x.foldl Tb.put []) R:=by
 obtain⟨_,_,R,_,_,_,d,_⟩:=Bw (S:=[.lst<|x.map .int]) (L:=0) (xs:=x) rfl ();rw[Mo.kL _ _<|aM _,b9]at d;exact⟨R,d⟩
def MA(ns:ae)(hl:ns.length<=63):∃S',v8 [.frz<|ns.map .int] []=.ok (.bl true) S':=by
 unfold v8 Gx Fv;dsimp[ji,bools,nk,Nat.reduceAdd,Nat.reduceSub];refine xO (lo:=0) (hi:=if (if 2<(ns.length:Int)then 2 else(ns.length:Int))>1 then(if 2<(ns.length:Int)then 2 else(ns.length:Int))else 1) (S1:=[]) (show CV _ _=_ from oZ (by dsimp[ji,bools,aG])<|oJ (by split<;>split<;>lia)<|by split<;>split<;>lia)
  (λ_ τ _=>∃a1 a2 a3 a4 a5 a6 a7 T:A,τ=[.frz<|ns.map .int,a1,a2,a3,a4,a5,a6,a7,T]) (λr=>∃S',RS.end (RS.seq r _)=.ok (.bl true) S') ⟨_,_,_,_,_,_,_,_,rfl⟩ ?_ ?_
 ·rintro i τ S hi ⟨a1,a2,a3,a4,a5,a6,a7,T,rfl⟩;left;have hi2:(i:Int)<2:=by split at hi<;>split at hi<;>lia
  obtain⟨S1,e1,b1,kp1⟩:=Jl (S:=S) (ns:=ns) (k:=0+(i:Int)) () ();obtain⟨S2,hS2⟩:∃S2,S2=S1++[O.lst [.int 7,.int 6]]:=⟨_,rfl⟩;have k2:kC S1 S2:=by rw[hS2];gp_on
  have h2:iI S2 S1.length=some [.int 7,.int 6]:=by rw[hS2];exact iY
  have lb:S.length<S1.length:=by obtain⟨_,_,e,_⟩:=b1;exact jQ e
  obtain⟨mm,emm,m0,m1⟩:∃mm:Int,mL [A.int 7,A.int 6] (if decide (0<0+(i:Int))=true then 1 else 0)=some (.int mm)/\1<=mm/\mm<=7:=by
   by_cases c:0<0+(i:Int)
   ·rw[bf c];exact⟨6,GW,by decide,by decide⟩
   ·rw[aZ c];exact⟨7,zR,by decide,by decide⟩
  obtain⟨m,S3,e3,d0,d1,b3,k3⟩:=digit (m:=mm) (b1.kp k2 λz=>z) m0 ();obtain⟨bb,S4,e4,d2,d3,b4,k4⟩:=digit (m:=5) b3 ⋯ ⋯;obtain⟨xs,L,S5,e5,hL5,xl,b5,k5,lL⟩:=NW (x0:=.frz<|ns.map .int) (x1:=.int<|0+(i:Int)) (m:=m) (base:=1+bb) (τ':=[a5,a6,a7,T]) b4 d0 () () ();have pre:∃(w:ae) (L':Nat) (Y:iK),(vL (oY<|iQ (sL false) (iH 4)<|eC<|.int 5)
 (jm (jH [none,none] (xD<|iH 5) (JI 2<|z9 (jj 0)<|z9 (jj 1) Jm) lX<|iQ jK (iQ rR (iH 1)<|eC<|.int 7)<|iH 0)<|jj 5)
 oh) [.frz<|ns.map .int,.int<|0+(i:Int),.ref S.length,.int m,.int<|1+bb,.ref L,a6,a7,T] S5=.nx [.frz<|ns.map .int,.int<|0+(i:Int),.ref S.length,.int m,.int<|1+bb,.ref L',a6,a7,T] Y/\iI Y L'=some (w.map .int)/\w.length<=6:=by
   cases hd:(1+bb == 5)
   ·refine⟨xs,L,S5,?_,hL5,()⟩;dsimp[ji,bools,hd]
   ·obtain⟨ys,L',Y,e6,P,yl,_⟩:=MI (x0:=.frz<|ns.map .int) (x1:=.int<|0+(i:Int)) (x2:=.ref S.length) (x3:=.int m) (x4:=.int<|1+bb) (τ':=[a6,a7,T]) hL5 ();refine⟨ys,L',Y,?_,P,()⟩;dsimp[ji,bools,hd,e6]
  obtain⟨w,L',Y,e6,P,wl⟩:=pre;obtain⟨S7,hS7⟩:∃S7,S7=Y++[O.lst<|w.map .int]:=⟨_,rfl⟩;have k7:kC Y S7:=by rw[hS7];gp_on
  have gl:(w.map A.int).length<=16777216:=by rw[aG];lia
  obtain⟨rs,qs,n,n',S8,e8,tn,_,k8,_⟩:=yG (S:=S7) (L:=Y.length) (xs:=w) (by rw[hS7];exact iY) ();rw[Mo.kL _ _<|aM _,b9]at tn;have hL8:=(k7.trans k8).lst _ _ (λz=>z) P;obtain⟨F,fs,W,S9,e9,hF9,hR9,q,k9⟩:=A4 hL8 wl;have hL9:=k9.lst _ _ (λz=>z) hL8;have t9:=tn.Mk k9;obtain⟨ds,D,d,e10,hD10,hR10,K⟩:=Mj (x0:=.frz<|ns.map .int) (x1:=.int<|0+(i:Int)) (x2:=.ref S.length) (x3:=.int m) (x4:=.int<|1+bb) (τ':=[.ref F,T]) hL9 wl t9;have hC:∀r∈W,∀x∈qW r,x∈W:=λr hr x hx=>by
   obtain⟨j,hj,rfl⟩:=c5.mp hr;exact q.cl j hj x<|by rw[aF,aE hj];exact hx
  obtain⟨q1,q2,q3⟩:=Kc.due q.nd q.me q.tb hC λx hx=>PR x ();have J:=K.lst _ _ (λz=>z) hF9;have p:=lN hR9 K λ_ _ z=>z;have eqD:sL true (.ref F) (.ref D) d=.ok (.bl false) d:=by
   show opt (o_ d 12 _ _) _=_;rw[zh J hD10 p hR10,iZ,bf q1];rfl
  have t10:=t9.Mk K;have sm:((w.foldl Tb.put []).map List.length).sum=w.length:=Kc.xw w;have tl:(w.foldl Tb.put []).length<=6:=by
   have h:=Tb.qd w w.length;rw[Mo.kL _ _<|aM _,b9]at h;exact bH h.1 wl
  have e11:=Fj t10 ();obtain⟨G,g⟩:∃G,G=d++[O.lst<|(ni<|(w.foldl Tb.put []).map List.length).map .int]:=⟨_,rfl⟩;rw[<- g]at e11;have k11:kC d G:=by rw[g];gp_on
  obtain⟨M,e12,k12⟩:=Gi 12 w.length (S:=G) (r:=d.length) (by rw[g];exact iY) sm () (by rw[aG];lia);have lfs:=hR9.len;rw[vW]at lfs;have V:=k11.trans k12;have t12:=t10.Mk V;have e13:=HS t12 (by rw[Sy.plain_len,sm];lia);obtain⟨f,B⟩:∃f,f=M++[O.lst<|(Sy.plain<|w.foldl Tb.put []).map .int]:=⟨_,rfl⟩;rw[<- B]at e13;have k13:kC M f:=by rw[B];gp_on
  have kk:=V.trans k13;have Z:=kk.lst _ _ (λz=>z) J;have U:=lN p kk λ_ _ z=>z;have ms:∀x,x∈kg W ↔ x∈W:=λx=>(kK W).mem_iff;have ein:Jf true (.ref M.length) (.ref F) f=.ok (.bl false) f:=by
   show opt (iI f F) _=_;rw[Z,iZ,t_ (by rw[B];exact iY) U,iZ,bf<|(ms _).mpr q3];rfl
  have hL13:=(K.trans kk).lst _ _ (λz=>z) hL9;obtain⟨N,e14,k14⟩:=Oi (x0:=.frz<|ns.map .int) (x1:=.int<|0+(i:Int)) (x2:=.ref S.length) (x3:=.int m) (x4:=.int<|1+bb) (x6:=.ref n) (τ':=[.ref D]) hL13 wl Z U λR c hRd j hj=>(ms _).mpr<|Kc.vp (C:=(·∈W)) (λr x hr hx=>hC r hr x hx) hRd q.me j hj;have e15:sL true (.ref N.length) (.ref (N++[O.lst []]).length) (N++[O.lst []]++[O.lst []])=.ok (.bl false) (N++[O.lst []]++[O.lst []]):=by
   show opt ((iI _ _).bind λxs=>(iI _ _).bind λys=>pZ _ xs ys) _=_;rw[jE iY,bB,iY,bB];rfl
  have e12:nZ [.ref d.length] G=.ok (.int (Kc.sec w.length ((w.foldl Tb.put []).map List.length):Nat)) M:=e12;have ne:((fs.length:Int) == (Kc.sec w.length ((w.foldl Tb.put []).map List.length):Nat))=true:=by rw[beq_iff_eq];lia
  unfold CY;dsimp[wM];dsimp[ji,bools,e1,j4<|show([_,_]:ad).length<=16777216 by simp,<- hS2,h2,emm,e3,e4,e5]at e6 ⊢;rw[e6];dsimp[ji,bools,P,j4 gl,<- hS7,e8,show mL [A.ref n,A.ref n'] (0:Int)=some (.ref n)from zR,e9,e10,eqD,J,aG,e11,e12,ne,gZ,e13,ein,e14,j4<|show([]:ad).length<=16777216 by simp,e15];exact⟨_,_,rfl,_,_,_,_,_,_,_,_,rfl⟩
 ·rintro τ S ⟨a1,a2,a3,a4,a5,a6,a7,T,rfl⟩;dsimp[ji,bools];exact⟨_,rfl⟩
end K64
namespace K64
open PySem L2 Am
def all_mk{l:PySem.W.OpenLaw}{w:af}{K:aq}{h:ak}{mg:Str->aw}{fa:aj}(X:K.In h)(G:h.Ns mainGlobals mg)(hfa:mg "law" = some (.ref fa))
  (a1:Df K "first_greater" mj)
  (a2:Df K "put_into_rows" mz)
  (a3:Df K "copied" uE)
  (a4:Df K "put_in" vf)
  (a5:Df K "tables" uQ)
  (a6:Df K "shape" yv)
  (a7:Df K "plain_row" pg)
  (a8:Df K "may_change" oG)
  (a9:Df K "changed" qX)
  (a10:Df K "moved" yp)
  (a11:Df K "go_on" yx)
  (a12:Df K "lead_in" r6)
  (a13:Df K "road_of_moves" mh)
  (a14:Df K "_law_bag" rQ)
  (a15:Df K "_law_digit" o8)
  (a16:Df K "_law_all" rK)
  (a17:Df K "_law_reached" nY)
  (a18:Df K "_law_seconds" lK)
  (a19:Df K "law" HR)
  (UM:PySem.W.nsIn K mainGlobals "len" = some none)
  (UN:PySem.W.nsIn K mainGlobals "list" = some none)
  (UO:PySem.W.nsIn K mainGlobals "enumerate" = some none)
  (UP:PySem.W.nsIn K mainGlobals "reversed" = some none)
  (UQ:PySem.W.nsIn K mainGlobals "min" = some none)
  (UR:PySem.W.nsIn K mainGlobals "max" = some none)
  (US:PySem.W.nsIn K mainGlobals "sorted" = some none)
  (UT:PySem.W.nsIn K mainGlobals "range" = some none)
  (UU:PySem.W.nsIn K mainGlobals "tuple" = some none)
  (UW:PySem.W.nsIn K mainGlobals "sum" = some none)
  (UX:PySem.W.nsIn K mainGlobals "int" = some none)
  {UK:Tok} (UY:PySem.W.nsIn K mainGlobals "MOST_LED_LETTERS" = some (some<|.int 12 UK))
  : ∃fd:FuncData,(∀(s:az) (v:aa),BindsTo s fd ⟨[v],[]⟩ [("_law_script",v)])/\∀base:ak,K.In base->base.Ns mainGlobals mg->FnOk l.prog w K mg base p6 14 fa fd ["_law_script"] (qt K 1 v8):=by
 obtain⟨f,fd,a,F⟩:=a19;have e:=hfa.symm.trans (PySem.W.mg_of X G a)
 cases e
 have d:=cu X G UM;have g:=cu X G UN;have k:=cu X G UO;have U:=cu X G UP;have p:=cu X G UQ;have z:=cu X G UR;have m:=cu X G US;have j:=cu X G UT;have T:=cu X G UU;have Up:=cu X G UW;have UB:=cu X G UX;have Ux:∃t,mg "MOST_LED_LETTERS" = some (.int 12 t):=⟨UK,PySem.W.mg_of X G UY⟩;refine⟨fd,λs v=>(by obtain⟨_,_,_,_,_,_,_,_,_,rfl,_,_⟩:=F.ex;exact .of_eq rfl),λbase _ _=>?_⟩;have E:En l.prog w K mg base:=⟨h,X,G⟩;have C:=a1.kA E (λF=>sD F d)<|Lu λ_ _ _ _ _ _ _ _=>rfl;have B:=a2.kA E (λF=>sA F d C)<|Lu λ_ _ _ _ _ _ _ _=>rfl;have Uu:=a3.kA E (λF=>DE F g)<|J_ λ_ _ _ _ _ _ _=>rfl;have Uz:=a4.kA E (λF=>DN F Uu B)<|Lu λ_ _ _ _ _ _ _ _=>rfl;have Ut:=a5.kA E (λF=>Eb F k d B)<|J_ λ_ _ _ _ _ _ _=>rfl;have L:=a6.kA E (λF=>Iu F d)<|J_ λ_ _ _ _ _ _ _=>rfl;have UG:=a7.kA E (λF=>xG F U)<|J_ λ_ _ _ _ _ _ _=>rfl;have Uw:=a8.kA E (λF=>vI F p z d)<|Lu λ_ _ _ _ _ _ _ _=>rfl;have q:=a9.kA E (λF=>AM F)<|Lu λ_ _ _ _ _ _ _ _=>rfl;have V:=a10.kA E (λF=>Fb F m j d Uw q)<|J_ λ_ _ _ _ _ _ _=>rfl;have P:=a11.kA E (λF=>IJ F q)<|Lu λ_ _ _ _ _ _ _ _=>rfl;have M:=a12.kA E (λF=>An F d j C P)<|TM λ_ _ _ _ _ _ _ _ _=>rfl;have UJ:=a13.kA E (λF=>rZ F d g k Ux M Uz)<|J_ λ_ _ _ _ _ _ _=>rfl;have UC:=a14.kA E (λF=>Aa F d)<|Lu λ_ _ _ _ _ _ _ _=>rfl;have N:=a15.kA E (λF=>ym F)<|Lu λ_ _ _ _ _ _ _ _=>rfl;have Y:=a16.kA E (λF=>AJ F j d g m)<|J_ λ_ _ _ _ _ _ _=>rfl;have UD:=a17.kA E (λF=>vd F T d g m V)<|J_ λ_ _ _ _ _ _ _=>rfl;have UH:=a18.rA E (λF J Z O=>oS F Up j d g J Z O 12)<|J_ λ_ _ _ _ _ _ _=>rfl;exact NQ F j z p d UB k g UC N Ut UD Y UG UH L UJ
def walk{l:PySem.W.OpenLaw}{q:ah}{XP:(Str->aw)->ak->Prop}{YP:af->ak->Prop}{d:DefRec}{K:Params->aq}(hn:l.most=some 63)(J:d.params.defaults=[])
  (hY:∀(w:af) (h:ak),YP w h->(K w.params).In h)
  (F:∀(w:af) (mg:Str->aw) (fa:aj) (h:ak),(K w.params).In h->h.Ns mainGlobals mg->mg d.name=some (.ref fa) ->
   ∃fd:FuncData,(∀(s:az) (u:aa),BindsTo s fd ⟨[u],[]⟩ [("_law_script",u)])/\∀base:ak,(K w.params).In base->base.Ns mainGlobals mg->FnOk l.prog w (K w.params) mg base p6 14 fa fd ["_law_script"] (qt (K w.params) 1 v8)) :
  PySem.W.WalkO q loose XP YP l.row.toRowW d [] (λf vs=>PySem.call f vs):=
 L2.K6 (n:=63) (k:=14) (x := "_law_script") (CX:=λ_=>p6) (sp:=λw=>qt (K w.params) 1 v8) hn ⋯ J ⟨rfl,by decide,by decide,rfl⟩ hY F (λ_ H a j p g m=>DZ g m<|MA j p) λ_ _ _ _ _ z=>z
end K64
open PySem PySem.W PyProof.Rows
namespace PySem.W.Fast
local macro_rules|`(command|universe $x*)=>do return Lean.mkNullNode (←x.mapM λx=>`(command|def $x:ident:=Nat))
universe tw3242308503297305086 tw14293019016021536218 tw14777948066470467203 tw14832555781707556878 tw16634131183288739247 tw14769001843802802109 tw2947952799609288643 tw4889614346253922640 tw10187475339965464905 tw2290791354075860363 tw14710068536954998616 tw12616132989021145518 tw10283952974416349289 tw18295940245144134781 tw3617272788950246412 tw15311667002166178860 tw10683780812814526352 tw2252464104519132203 tw3179533293899899922 tw6503701293197348796 tw6413264162110223925 tw10138056972440982911 tw17233738282441722661 tw10106097534226708128 tw5017941458866369549 tw17608148856571742432 tw13554373709283287462 tw5733101135957302625 tw16003942682538989237 tw7533212293814200274 tw3784890791493518579 tw3741212249176071067 tw16046119893675334748 tw10357485287532337961 tw15396528285529755574 tw7844194815385641850 tw15179297939085715820 tw12299877227799543318 tw287580811653837045 tw5984094058855991095 tw17055556970132101486 tw6964910433385035494 tw11103954801709472819 tw8508382958118422124 tw5846999892799348879 tw17271508100349715659 tw12886833333006406192 tw15158899482924775538 tw15590186180655367013 tw5105196778722206661 tw632117087294128833 tw9271601065048146358 tw3395366009662871125 tw2714726124646812096 tw11718785498704358584 tw12538594366866455278 tw2750667384155540879 tw6772201104037480955 tw12983002218717558722 tw15091316618439612458 tw4696320998565292610 tw11531503558311607523 tw2232763927038241189 tw12173037699106476011 tw11754215611485996607 tw2817022324144770767 tw1457917375473524638 tw16113339521907389395 tw712757171121439299 tw9905238278552071333 tw17745369011482282614 tw9184122393038130998 tw16692191769730933151 tw6601307610458542951 tw12458431136724505217 tw9109333744134835313 tw17204479166203954189 tw4615774021960531019 tw2619426036223566711 tw10714344744023066478 tw2073453178521064894 tw15446313497048597248 tw17791933914643031565 tw4195567688468877291 tw3468150764876934303 tw2928273456576347378 tw17649905124249507298 tw17209653339597701305 tw601364840816262771 tw16837087300379201153 tw14061942917208512786 tw7922764510651064168 tw14122506489793869704 tw17205382114560679842 tw11132617556566564454 tw15955972945396710325 tw10333140979439186752 tw15335052073973857761 tw3863078771300907721 tw14331749048353357876 tw16874893053863656488 tw17262065634427257443 tw7881103936468001790 tw14074933248593525448 tw9744654381415581613 tw11024540014005781886 tw11329552572003143494 tw3370522785366023396 tw5347239478399522236 tw3041437357400128348 tw6117776369081193994 tw5815903364461935920 tw17590661265266515563 tw12319251486402272646 tw13653726630918664627 tw16312289815951119253 tw3110846895028904493 tw13553710687211534442 tw12526012967930181771 tw16993759497260831778 tw5468302319184788155 tw17786704337759794941 tw17573932396179371328 tw10222547660545349612 tw15511773216716076775 tw13130057370868272763 tw12497615908883072680 tw8194932901489042661 tw2017360776780398517 tw609153972001957157 tw7397961836866047353 tw10783725980958609063 tw3006025773256241350 tw16363475739892340721 tw4904927777185767193 tw7452459187031221908 tw9361215943877349502 tw5055176624248518361 tw8353565704701524378 tw7288231381924005992
end PySem.W.Fast
set_option maxRecDepth 100000 in
set_option maxHeartbeats 0 in
theorem PySem.Challenge.cw_undercells_k64_whole_rows_by_moves_holds : PySem.Challenge.rw_undercells_k64_whole_rows_by_moves.Holds := by
 w_on;o_law;k_head;(case hw=>w_witness2)
 k_fill
 refine K64.walk (l:=PySem.Challenge.rw_undercells_k64_whole_rows_by_moves) rfl rfl (fun w h Y=>PySem.W.kIn_of Y) ?F
 case F=>
  intro w mg fa h KX G hmg;refine' K64.all_mk KX G hmg (.of ?_ ?_ ?_ ?_) (.of ?_ ?_ ?_ ?_) (.of ?_ ?_ ?_ ?_) (.of ?_ ?_ ?_ ?_) (.of ?_ ?_ ?_ ?_) (.of ?_ ?_ ?_ ?_) (.of ?_ ?_ ?_ ?_) (.of ?_ ?_ ?_ ?_) (.of ?_ ?_ ?_ ?_) (.of ?_ ?_ ?_ ?_) (.of ?_ ?_ ?_ ?_) (.of ?_ ?_ ?_ ?_) (.of ?_ ?_ ?_ ?_) (.of ?_ ?_ ?_ ?_) (.of ?_ ?_ ?_ ?_) (.of ?_ ?_ ?_ ?_) (.of ?_ ?_ ?_ ?_) (.of ?_ ?_ ?_ ?_) (.of ?_ ?_ ?_ ?_) ?_ ?_ ?_ ?_ ?_ ?_ ?_ ?_ ?_ ?_ ?_ ?_
  any_goals first|k_is|kernel_rfl
