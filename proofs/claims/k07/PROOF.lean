import PyProof.Rows.All
import Wide.All
import OpenK.AllK
import Wide.FinOn
import Lean
import PyProof.EqAt
import PyProof.EqKinds
import PyProof.TupleCall
import PyProof.CollectIter
import PyProof.JoinWalk
import PyProof.StrOps
import PyProof.ListOps
import PyProof.StrLawsJoin
import KE.KRevIter
import PyProof.StrLawsFirst
import PyProof.Rows.StrNews2
import PyProof.StrLawsTight
import PyProof.StrLawsChain
import KE.KIntText
import KE.IntTextLaws
import PyProof.ListStr
import KE.KDictLaws
import KE.KDictList
import PyProof.Rows.SetFrom
import PyProof.FitsReplace
import KE.KEqDict
import PyProof.Rows.SumAny
import PyProof.Rows.CallKwBuiltin
import PyProof.EnumMake
import PyProof.TupleIter
import PyProof.Rows.TupIter
import PyProof.FactsAll.range_2
import PyProof.AutoSeq1
import PyProof.Rows.Range3
import PyProof.ZipIter
import PyProof.Rows.SortRuns
import PyProof.Rows.SortPure
import PyProof.Rows.SortShell
import PyProof.Rows.SortStr
import PyProof.MeetsSeq3
import KE.KSortTup
import KE.KSortKey
import PyProof.MeetsDictList
import PyProof.CollectStr
import PyProof.SetKind
import PyProof.SetScanFacts
import PyProof.TupleKey
import PySem.Challenge.RW_quiltlaw_k07_whole_seen_in
set_option bootstrap.genMatcherCode false
set_option tactic.hygienic false
def nop(x:Lean.Syntax):Lean.Syntax:=x.rewriteBottomUp λ|.atom _ v=>.atom .none v|.ident _ r n p=>.ident .none r n p|.node _ k a=>.node .none k a|y=>y
local macro_rules|`($m:declModifiers theorem $i:declId $s:declSig $v:declVal)=>do
 if i.raw.getPos?.isNone then Lean.Macro.throwUnsupported
 return nop (<-`($m:declModifiers theorem $i $s:declSig $v:declVal))
local macro_rules|`($m:declModifiers def $i:declId $s:optDeclSig $v:declVal)=>do
 if m.raw != (<-`(def x:=0)).raw[0]then Lean.Macro.throwUnsupported
 return nop (<-`(noncomputable def $i $s $v:declVal))
local macro_rules|`($m:declModifiers abbrev $i:declId $s:optDeclSig $v:declVal)=>do
 if m.raw != (<-`(def x:=0)).raw[0]then Lean.Macro.throwUnsupported
 return nop (<-`(noncomputable abbrev $i $s $v:declVal))
local macro_rules|`(command|set_option $o:ident $s:str)=>do
 if o.getId != `tw then Lean.Macro.throwUnsupported
 let n:=s.getString.toList.toArray.map λc=>if c.toNat<64 then c.toNat-35 else if c.toNat<92 then c.toNat-36 else c.toNat-37
 let a<-(List.range (n.size/10)).toArray.mapM λi=>let x:=(List.range 10).foldl (λa j=>a*90+n[10*i+j]!) 0;let y:=Lean.mkIdent (.mkSimple s!"tw{x}");`(command|theorem $y:ident:True:=⟨⟩)
 return Lean.mkNullNode a
namespace PySem.W.Fast
set_option tw "LcZ&FEgcNi5Nm5=l*ySg93iSjPkwK5&|KSp)OHoy?K|&A8kYK{B,'JexX_i#1w=0%3zIwuId;j13N?FP<NsEaLCOw,Jq1}]wqgSWO-Dc[e2qh.<ZL:PuCf^>L>*)K2o]GxBUx49H^i>qAg:h_%dDDo)a&}ICqvOv;%6(VEn$AY%ep,WXT=;p)^K.Vdesyx6YV4J0[YuM3*4-bH.^f2MimWQcM4?E.=E'Jfl`ZYR~Ws_>uS?%SZDH0+$$li8li=H|Yp(DDj:[VPM_A'0m]2{S&Z>mN]OE>=K[x'EfGpyl';{_JqaN2(A0o{Ntdo_Fi|'GOoAcz(Dn,M*W/1BpAOodN}z>.+]hH7CGeo$EO4L/.Xc+V^;k7<=iBPIyw}I|%JhWcT#Teo<z*v5.U/.H1~=(fEIn{wJt1C9JV',$/>f/kMZqHW/>^B(PM>+l9^:2r4w6]S$g<z.dl)SID}6bS>KUKn7:Rfpr$ke`BCJq~yu/rNFq/lRsaGmu+oq}z<^FEW&>esb~[11f-xPY|6p:`.EPZAM}g>+EOHf9NIm=Gm/2-RP|:p>a2,V6^/uSeW$,4,&>Y+jY=]z[|bzTCU*6-hCgvL/t.P9ZfVdvp8SPy$QGjE>{F=f5e?bl3PJb%UNRG6T/SQri(QfSo<;1dvyMVzvhI6A5thFx)o)w9LL7%H)Z,/JfLvoujU0L5<iwfX4E:~eb/^z[+SN/4UctFN-lCuQz.U4fEcR~+_;v%8TDClDYQ,^~/DFS(Ta`pwa0(Q)lf|{/pK;-(P8x?28+PqK*j|R50a-H8=^rLT(H4pT<eiW(w9-YK_s4CJL)PlrM#_X3h,6Z|=`>rrm`;lD'O}3-K~LoNk1iW&yO'mYbxJF{YrKVu*WS%4Ve2rB9y:6oQ:Of;Vlk=F-c4zgD98Uu/OFmd{y5CHKb?=*xY]XEx,>#W5}K{&Dt/ktAyfA1_lFEoB6uLA{/0M]o*TYM&g?By}mi.]6Z>N9JRyxxu;;3Ca_ACmYwErO`L_drc(Cc5bE9rMWiOgG=o.9>JZJw|LnQ7:k[?V#fT%w,>j"
end PySem.W.Fast
set_option autoImplicit true
set_option relaxedAutoImplicit true
abbrev q04:=@PySem.wpAny_bind
abbrev q05:=@PySem.wpAny_pure
abbrev q06:=@if_neg
abbrev q07:=@if_pos
abbrev q08:=@decide_eq_false
abbrev q09:=@decide_eq_true
abbrev q0A:=@List.getD_eq_getElem?_getD
abbrev q0B:=@List.mem_cons_self
abbrev q0C:=@List.mem_append_right
abbrev q0D:=@List.mem_append_left
abbrev q0E:=@List.take_add_one
abbrev q0F:=@List.take_of_length_le
abbrev q0G:=@Array.getElem?_toList
abbrev q0H:=@List.mem_of_mem_take
abbrev q0I:=@List.mem_of_mem_drop
abbrev q0J:=@List.length_range
abbrev q0K:=@List.map_congr_left
abbrev q0L:=@Option.getD_some
abbrev q0M:=@List.range_succ
abbrev q0N:=@List.length_zip
abbrev q0O:=@Bool.and_eq_true
abbrev q0P:=@Nat.le_of_lt
abbrev q0Q:=@absurd
abbrev q0R:=@congrArg
abbrev q0S:=@Option.some.inj
abbrev q0T:=@List.drop_eq_getElem_cons
abbrev q0U:=@List.filterMap_cons
abbrev q0V:=@Array.toList_append
abbrev q0W:=@PySem.sizeLine_eq
abbrev q0X:=@PySem.wpAny_mono
abbrev q0Y:=@PySem.wpAny_holding
abbrev q0Z:=@Bool.false_eq_true
abbrev q0a:=@decide_eq_true_eq
theorem zzl(h:1=1:=by exact Or.inl rfl):1=1:=h
theorem zz0(h:1=1:=by rfl):1=1:=h
theorem zz1(h:1=1:=by decide):1=1:=h
theorem zz2(h:1=1:=by first | exact .inl rfl | exact .inr rfl | assumption):1=1:=h
theorem zz3(h:1=1:=by intro _;rfl):1=1:=h
theorem zz4(h:1=1:=by first | exact Or.inl rfl | exact Or.inr (Or.inl rfl) | exact Or.inr (Or.inr rfl)):1=1:=h
theorem zz5(h:1=1:=by decide +kernel):1=1:=h
local macro_rules|`(tactic|omega)=>`(tactic|first|lia|omega +splitDisjunctions)
set_option linter.all false
set_option Elab.async false
set_option maxRecDepth 100000
abbrev Aa:=PySem.Value->PySem.Shared->Prop
abbrev Ab:=PySem.W.Frag
abbrev Ac:=List (PySem.Addr×PySem.Obj)
abbrev Ad:=List Nat
abbrev Ae:=PySem.Shared
abbrev Af:=List PySem.Value
abbrev Ag:=List PySem.Addr
abbrev Ah:=PySem.Str->Option PySem.Value
abbrev Ai:=PySem.FuncData
abbrev Aj:=PySem.Program
abbrev Ak:=List PySem.Str
abbrev Al:=PySem.Around
abbrev Am:=PySem.World
abbrev An:=Option PySem.Addr
abbrev Ao:=List PySem.Expr
local macro_rules|`(term|⋯)=>`(by omega)
local macro_rules|`(term|nofun)=>`(by decide)
abbrev wQ:=@List.getElem?_eq_getElem
abbrev wR:=@List.getElem?_eq_some_iff
abbrev wS:=@PySem.Heap.get?_push_of_some
abbrev wT:=@List.length_map
abbrev wU:=@List.mem_singleton
abbrev wV:=@List.getElem?_map
abbrev wW:=@List.mem_of_getElem?
abbrev wX:=@PySem.Heap.get?_update_other
abbrev wY:=@PySem.Heap.get?_push_size
abbrev wZ:=@List.size_toArray
abbrev w6:=@List.getElem_mem
abbrev w8:=@Int.toNat_natCast
abbrev w9:=@PySem.Heap.get?_update_self
abbrev w_:=@List.length_cons
abbrev xa:=@List.map_append
abbrev xb:=@List.mem_append
abbrev xc:=@List.map_map
abbrev xf:=@List.mem_cons
abbrev xg:=@List.mem_cons_of_mem
abbrev xh:=@List.length_reverse
abbrev xi:=@Nat.lt_of_lt_of_le
abbrev xj:=@Nat.ne_of_lt
abbrev xk:=@List.getElem?_append_right
abbrev xm:=@List.getElem?_append_left
abbrev xo:=@List.length_append
abbrev xp:=@Nat.le_refl
abbrev xq:=@Nat.zero_le
abbrev xt:=@Bool.false_ne_true
abbrev xu:=@PySem.Heap.lt_size
abbrev xv:=@Option.map_eq_some_iff
abbrev xw:=@List.getElem_map
abbrev xx:=@List.getElem?_cons_succ
abbrev xy:=@List.map_cons
abbrev xz:=@Nat.le_trans
abbrev xA:=@Nat.lt_irrefl
abbrev xB:=@Nat.lt_succ_self
abbrev xC:=@List.append_nil
abbrev xD:=@List.append_assoc
abbrev xE:=@List.getElem?_set_self
abbrev xF:=@List.take_length
abbrev xG:=@List.length_take
abbrev xH:=@List.length_drop
abbrev xI:=@List.reverse_append
abbrev xJ:=@List.reverse_reverse
abbrev xK:=@Nat.lt_of_le_of_lt
abbrev xL:=@List.length_eq_zero_iff
abbrev xM:=@List.mem_map
abbrev xN:=@List.all_eq_true
abbrev xO:=@Nat.add_le_add_left
abbrev xP:=@List.getElem_toArray
abbrev xQ:=@List.nil_append
abbrev xR:=@Int.emod_nonneg
abbrev xS:=@Int.emod_lt_of_pos
abbrev xT:=@Int.toNat_of_nonneg
abbrev xU:=@Nat.min_eq_left
abbrev xV:=@List.drop_zero
set_option hygiene false
local macro_rules|`(a⁻¹)=>`((model prog w))
local macro_rules|`(↑$f)=>`($f P w K mg base cv)
local macro_rules|`($a∣$b)=>`(($a).cal l.prog w base X G (λ_ F m k b=>$b))
set_option hygiene true
namespace L2
open PySem PySem.Spec PyProof.Rows
abbrev b7:=Sum Int Str
def hZ:b7->Value->Bool
 | .inl k,v=>Value.isInt k v
 | .inr x,v=>Value.isStrOf x v
def vw(w:Am):b7->Int
 | .inl k=>hashInt k
 | .inr x=>hashStr w x
theorem bi:∀{k:b7} {v:Value},hZ k v=true->(∃i t,k=Sum.inl i/\v=Value.int i t)\/(∃x t,k=Sum.inr x/\v=Value.str x t)
 | .inl i,v,h=>by
  obtain⟨t,e⟩:=Value.isInt_shape (k:=i) (v:=v) h;exact .inl ⟨i,t,rfl,e⟩
 | .inr x,v,h=>by
  obtain⟨t,e⟩:=Value.isStrOf_shape (x:=x) (v:=v) h;exact .inr ⟨x,t,rfl,e⟩
theorem nR(i:Int)(t:Tok):hZ (.inl i) (.int i t)=true:=by simp[hZ,Value.isInt]
theorem nn(x:Str)(t:Tok):hZ (.inr x) (.str x t)=true:=by simp[hZ,Value.isStrOf]
theorem tG(a b:Int):decide ((Sum.inl a:b7)=Sum.inl b)=(a==b):=by
 by_cases e:a=b
 ·subst e;simp
 ·have h:¬ (Sum.inl a:b7)=Sum.inl b:=λq=>e (Sum.inl.inj q)
  rw[q08 h];exact(beq_eq_false_iff_ne.mpr e).symm
theorem sC(a b:Str):decide ((Sum.inr a:b7)=Sum.inr b)=decide (a=b):=by
 by_cases e:a=b
 ·subst e;simp
 ·have h:¬ (Sum.inr a:b7)=Sum.inr b:=λq=>e (Sum.inr.inj q)
  rw[q08 h,q08 e]
theorem sB(a:Int)(b:Str):decide ((Sum.inl a:b7)=Sum.inr b)=false:=q08 (λq=>nomatch q)
theorem tT(a:Str)(b:Int):decide ((Sum.inr a:b7)=Sum.inl b)=false:=q08 (λq=>nomatch q)
def bz(prog:Aj)(w:Am):PySem.KeyKind prog w b7 where
 is:=hZ
 hash:=vw w
 inj:=λv a b ha hb=>by
  rcases bi ha with⟨i,t,rfl,rfl⟩ | ⟨x,t,rfl,rfl⟩
  ·rcases bi hb with⟨j,u,rfl,e⟩ | ⟨y,u,rfl,e⟩
   ·injection e with e1 _;rw[e1]
   ·exact nomatch e
  ·rcases bi hb with⟨j,u,rfl,e⟩ | ⟨y,u,rfl,e⟩
   ·exact nomatch e
   ·injection e with e1 _;rw[e1]
 byValue:=λk v h=>by
  rcases bi h with⟨i,t,rfl,rfl⟩ | ⟨x,t,rfl,rfl⟩<;>rfl
 pyHash:=λhv h=>by
  rcases bi hv with⟨i,t,rfl,rfl⟩ | ⟨x,t,rfl,rfl⟩
  ·exact wpAny_pyHash_int h
  ·exact wpAny_pyHash_str h
 eqBool:=λhu hv h=>by
  rcases bi hu with⟨i,t,rfl,rfl⟩ | ⟨x,t,rfl,rfl⟩
  ·rcases bi hv with⟨j,u,rfl,rfl⟩ | ⟨y,u,rfl,rfl⟩
   ·rw[tG]at h;exact wpAny_eqBool_int h
   ·rw[sB]at h;exact SeqAt.EqAt.int_str i t y u _ _ _ _ h
  ·rcases bi hv with⟨j,u,rfl,rfl⟩ | ⟨y,u,rfl,rfl⟩
   ·rw[tT]at h;exact SeqAt.EqAt.str_int x t j u _ _ _ _ h
   ·rw[sC]at h;exact wpAny_eqBool_str h
 «strs»:=λk x t v h=>by
  rcases bi h with⟨i,u,rfl,e⟩ | ⟨y,u,rfl,e⟩
  ·exact nomatch e
  ·injection e with e1 _
   subst e1;cases v<;>rfl
theorem j7(prog:Aj)(w:Am)(i:Int)(t:Tok):(bz prog w).is (.inl i) (.int i t)=true:=nR i t
theorem jN(prog:Aj)(w:Am)(x:Str)(t:Tok):(bz prog w).is (.inr x) (.str x t)=true:=nn x t
inductive V where
 |non | bl (b:Bool) | int (i:Int) | str (x:Str) | byt (b:Array UInt8) | flt (b:UInt64) | ref (a:Addr) | ty (n:String)
 deriving DecidableEq
def aI:V->Value->Prop
 | .non,u=>u=Value.none
 | .bl b,u=>u=Value.bool b
 | .int i,u=>∃t,u=Value.int i t
 | .str x,u=>∃t,u=Value.str x t
 | .byt b,u=>∃t,u=Value.bytes b t
 | .flt b,u=>∃t,u=Value.float b t
 | .ref a,u=>u=Value.ref a
 | .ty n,u=>u=Value.type n
abbrev aD:List V->List Value->Prop:=Paired aI
theorem aD.length(r:aD xs us):xs.length=us.length:=Paired.length r
theorem aD.get:∀{xs:List V} {us:Af} {i:Nat} {x:V},aD xs us->xs[i]?=some x->∃u,us[i]?=some u/\aI x u
 |_,_,_,_,.nil,e=>by simp at e
 |_,_,0,_,.cons r _,e=>by simp at e;subst e;exact⟨_,rfl,r⟩
 |_,_,i+1,x,.cons _ t,e=>by
  obtain⟨u,h1,h2⟩:=aD.get (i:=i) (x:=x) t (by simpa using e);exact⟨u,by simpa using h1,h2⟩
theorem aD.set(r:aI x u):∀{xs:List V} {us:Af} (i:Nat),aD xs us->aD (xs.set i x) (us.set i u)
 |_,_,_,.nil=>.nil
 |_,_,0,.cons _ t=>.cons r t
 |_,_,i+1,.cons q t=>.cons q (aD.set r i t)
theorem aD.append:∀{xs ys:List V} {us ws:Af},aD xs us->aD ys ws->aD (xs++ys) (us++ws)
 |_,_,_,_,.nil,s=>s
 |_,_,_,_,.cons r t,s=>.cons r (aD.append t s)
theorem aD.take:∀{xs:List V} {us:Af} (n:Nat),aD xs us->aD (xs.take n) (us.take n)
 |_,_,0,_=>.nil
 |_,_,_+1,.nil=>.nil
 |_,_,n+1,.cons r t=>.cons r (aD.take n t)
theorem aD.drop:∀{xs:List V} {us:Af} (n:Nat),aD xs us->aD (xs.drop n) (us.drop n)
 |_,_,0,r=>r
 |_,_,_+1,.nil=>.nil
 |_,_,n+1,.cons _ t=>aD.drop n t
def mO:Option V->Option Value->Prop
 |some v,some u=>aI v u
 |none,none=>True
 |_,_=>False
def KV{κ:Type}:List (κ×V)->List (κ×Value)->Prop:=Paired fun(p:κ×V) (q:κ×Value)=>p.1=q.1/\aI p.2 q.2
def kV:b7->V
 | .inl i=>.int i
 | .inr x=>.str x
inductive HO where
  |lst (xs:List V)
  |tup (xs:List V)
  |dK (kvs:List (b7×V)) | dT (kvs:List (List b7×V))
  |set(S:Int->Bool) (n:Nat)
  |ins (C dx:Addr) (fs:List (Str×V))
  |own (x:Addr)
  |xd (fs:List (Str×V))
  |met (f x:Addr)
  |rng (lo hi:Int)
  |frz (o:Obj) (u:HO)
  |tbl (ps:Array Value)
  |ext (φ:Heap->Prop)
abbrev Hp:=Addr->Option HO
def aR(H:Hp)(a:Addr)(o:HO):Hp:=λb=>if b=a then some o else H b
theorem am:aR H a o a=some o:=by unfold aR;rw[q07 rfl]
theorem ar{a b:Addr}(h:b≠a):aR H a o b=H b:=by unfold aR;rw[q06 h]
theorem gr{H:Hp}{o u:HO}(h:H a=some o)(h':H b=some u)(d:o≠u):a≠b:=by
 intro e;subst e;rw[h]at h';exact d (q0S h')
theorem aw{H:Hp}{o:HO}(h:H a=some o)(h':H b=none):a≠b:=by
 intro e;subst e;rw[h]at h';cases h'
section
variable (P:Aj)(w:Am)
def ba(H:Hp)(h:Heap)(a:Addr):HO->Prop
 | .lst xs=>xs.length<=sizeLine/\∃(its:Af) (n:Nat),aD xs its/\h.get? a=some {cls:=.type "list",data:=.seq its.toArray n}
 | .tup xs=>xs.length<=sizeLine/\∃its:List Value,aD xs its/\IsTup h a its.toArray
 | .dK kvs=>kvs.length<=sizeLine/\(a==sysModules)=false/\∃vs,KV kvs vs/\h.DictOf (bz P w) a vs
 | .dT kvs=>kvs.length<=sizeLine/\(a==sysModules)=false/\∃xs:List (List b7×Addr×Value),
   Paired (fun(p:List b7×V) (q:List b7×Addr×Value)=>p.1=q.1/\H q.2.1=some (.tup (p.1.map kV))/\aI p.2 q.2.2) kvs xs /\
   ∃o es ep,h.get? a=some o/\o.ExactDict/\o.data=.dict es ep/\es.toList=xs.map (entryOfKey (tupleKind (bz P w)))/\(xs.map (·.1)).Nodup
 | .set S n=>h.SetOf (intKind P w) a S n
 | .ins C dx fs=>H dx=some (.own a)/\fs.length<=1000/\dx≠a/\h.get? a=some (PySem.W.instObj C dx) /\
   ∃mA,h.Ns1 dx mA/\(∀f,mO (fs.lookup f) (mA f))/\PySem.Within mA (fs.map (·.1))
 | .own _=>∃o,h.get? a=some o
 | .xd fs=>∃mA,h.Ns1 a mA/\∀f,mO (fs.lookup f) (mA f)
 | .rng lo hi=>∃t u v,h.get? a=some {cls:=.type "range",data:=.fields #[.int lo t,.int hi u,.int 1 v]}
 | .frz o u=>h.get? a=some o/\ba H h a u
 | .tbl ps=>h.get? a=some {cls:=.none,data:=.fields ps}
 | .met f x=>h.get? a=some (PySem.W.methodObj (.ref f) (.ref x))
 | .ext φ=>φ h/\(∃o,h.get? a=some o)/\∀h1 h2:Heap,φ h1->(∀o,h1.get? a=some o->h2.get? a=some o)->φ h2
def dN(H:Hp)(h:Heap):Prop:=∀a o,H a=some o->ba P w H h a o
end
section
variable {P:Aj}{w:Am}{H H':Hp}{h h':Heap}{a:Addr}{o:HO}
theorem ba.lt(x:ba P w H h a o):a<h.objs.size:=by
 cases o with
 |lst xs=>obtain⟨_,_,_,_,e⟩:=x;exact xu e
 |tup xs=>obtain⟨_,_,_,p⟩:=x;exact p.lt
 |dK kvs=>obtain⟨_,_,_,_,o,_,_,e,_⟩:=x;exact xu e
 |dT kvs=>obtain⟨_,_,_,_,o,_,_,e,_⟩:=x;exact xu e
 |set S n=>obtain⟨o,_,_,_,e,_⟩:=x;exact xu e
 |ins C dx fs=>obtain⟨_,_,_,e,_⟩:=x;exact xu e
 |own y=>obtain⟨_,e⟩:=x;exact xu e
 |xd fs=>obtain⟨_,⟨_,_,_,e,_⟩,_⟩:=x;exact xu e
 |rng lo hi=>obtain⟨_,_,_,e⟩:=x;exact xu e
 |frz ob u=>obtain⟨e,_⟩:=x;exact xu e
 |tbl ps=>exact xu (show h.get? a=some _ from x)
 |met f y=>exact xu (show h.get? a=some _ from x)
 |ext φ=>obtain⟨_,⟨_,e⟩,_⟩:=x;exact xu e
theorem Paired.mapP{α β:Type}{F G:α->β->Prop}:∀{l₁:List α} {l₂:List β},Paired F l₁ l₂->(∀a b,F a b->G a b)->Paired G l₁ l₂
 |_,_,.nil,_=>.nil
 |_,_,.cons r t,f=>.cons (f _ _ r) (Paired.mapP t f)
theorem ba.stay(x:ba P w H h a o)(k:∀b u,(b=a\/H b=some (.own a))->h.get? b=some u->h'.get? b=some u)
  (ho:∀b,H b=some (.own a)->H' b=some (.own a)) (ht:∀b xs,H b=some (.tup xs)->H' b=some (.tup xs)):ba P w H' h' a o:=by
 induction o with
 |lst xs=>obtain⟨z,l,n,r,e⟩:=x;exact⟨z,l,n,r,k _ _ (.inl rfl) e⟩
 |tup xs=>obtain⟨z,l,r,g,e,c⟩:=x;exact⟨z,l,r,g,k _ _ (.inl rfl) e,c⟩
 |dK kvs=>obtain⟨z,y,vs,r,g,i,j,e,c⟩:=x;exact⟨z,y,vs,r,g,i,j,k _ _ (.inl rfl) e,c⟩
 |dT kvs=>
  obtain⟨z,y,xs,r,g,i,j,e,c⟩:=x;exact⟨z,y,xs,Paired.mapP r λp q z=>⟨z.1,ht _ _ z.2.1,z.2.2⟩,g,i,j,k _ _ (.inl rfl) e,c⟩
 |set S n=>obtain⟨g,i,j,t,e,c⟩:=x;exact⟨g,i,j,t,k _ _ (.inl rfl) e,c⟩
 |ins C dx fs=>
  obtain⟨d,z,G,e,B,⟨m,i,j,I,c⟩,r⟩:=x;exact⟨ho _ d,z,G,k _ _ (.inl rfl) e,B,⟨m,i,j,k _ _ (.inr d) I,c⟩,r⟩
 |own y=>obtain⟨g,e⟩:=x;exact⟨g,k _ _ (.inl rfl) e⟩
 |xd fs=>obtain⟨B,⟨m,i,j,e,c⟩,r⟩:=x;exact⟨B,⟨m,i,j,k _ _ (.inl rfl) e,c⟩,r⟩
 |rng lo hi=>obtain⟨t,u,v,e⟩:=x;exact⟨t,u,v,k _ _ (.inl rfl) e⟩
 |frz g u ih=>obtain⟨e,q⟩:=x;exact⟨k _ _ (.inl rfl) e,ih q⟩
 |tbl ps=>
  have e:h.get? a=some {cls:=.none,data:=.fields ps}:=x;show h'.get? a=some {cls:=.none,data:=.fields ps};exact k a _ (.inl rfl) e
 |met f y=>
  have e:h.get? a=some (PySem.W.methodObj (.ref f) (.ref y)):=x;show h'.get? a=some (PySem.W.methodObj (.ref f) (.ref y));exact k a _ (.inl rfl) e
 |ext φ=>obtain⟨p,⟨o,e⟩,D⟩:=x;exact⟨D _ _ p λo q=>k _ _ (.inl rfl) q,⟨o,k _ _ (.inl rfl) e⟩,D⟩
theorem dN.lt(x:dN P w H h)(e:H a=some o):a<h.objs.size:=(x a o e).lt
theorem dN.fresh(x:dN P w H h)(e:h.objs.size<=a):H a=none:=by
 cases q:H a with
 |none=>rfl
 |some u=>exact q0Q (xi (x.lt q) e) (xA _)
theorem dN.kept(x:dN P w H h)(k:∀b u,h.get? b=some u->h'.get? b=some u):dN P w H h':=λa o e=>
 (x a o e).stay (λb u _ q=>k b u q) (λ_ q=>q) λ_ _ q=>q
theorem dN.laid(x:dN P w H h)(k:∀b u,h.get? b=some u->h'.get? b=some u)(hp:h.objs.size<=a)(new:ba P w (aR H a o) h' a o):dN P w (aR H a o) h':=λb u e=>by
 have hn:=x.fresh hp
 by_cases hb:b=a
 ·subst hb;rw[am]at e;cases e;exact new
 ·rw[ar hb]at e
  exact(x b u e).stay (λc v _ q=>k c v q) (λc q=>by rw[ar (aw q hn)];exact q) λc xs q=>by rw[ar (aw q hn)];exact q
end
def Rd(H:Hp)(a:Addr)(u:HO):Prop:=H a=some u\/∃o,H a=some (.frz o u)
theorem Rd.ok(r:Rd H a u)(x:dN P w H h):ba P w H h a u:=by
 rcases r with r | ⟨o,r⟩
 ·exact x a u r
 ·obtain⟨_,q⟩:=x a _ r
  exact q
def uz:Option HO->Prop
 |some (.lst _)=>True
 |some (.dK _)=>True
 |some (.dT _)=>True
 |some (.set _ _)=>True
 |some (.ins _ _ _)=>True
 |some (.ext _)=>True
 |_=>False
section
variable {P:Aj}{w:Am}{H:Hp}{h h':Heap}{x e:Addr}{o':HO}
theorem dN.write(ok:dN P w H h)(mu:uz (H x))(he:e=x\/H e=some (.own x))(k:∀b u,b≠e->h.get? b=some u->h'.get? b=some u)(heo:∃u,h'.get? e=some u)
  (new:ba P w (aR H x o') h' x o'):dN P w (aR H x o') h':=λb u q=>by
 have nown:∀c y,H c=some (.own y)->c≠x:=λc y r z=>by subst z;rw[r]at mu;exact mu
 have ntup:∀c xs,H c=some (.tup xs)->c≠x:=λc xs r z=>by subst z;rw[r]at mu;exact mu
 by_cases hb:b=x
 ·subst hb;rw[am]at q;cases q;exact new
 ·rw[ar hb]at q
  by_cases hbe:b=e
  ·have q':H b=some (.own x):=by
    rcases he with z | z
    ·exact q0Q (hbe.trans z) hb
    ·rw[hbe];exact z
   rw[q]at q';cases q'
   obtain⟨v,a⟩:=heo;exact⟨v,by rw[hbe];exact a⟩
  ·refine(ok b u q).stay (λc v hc r=>k c v ?_ r) (λc r=>by rw[ar (nown c b r)];exact r) λc xs r=>by rw[ar (ntup c xs r)];exact r
   rcases hc with rfl | hc
   ·exact hbe
   ·rintro rfl
    rcases he with z | z
    ·exact nown c b hc z
    ·rw[hc]at z;cases z;exact hb rfl
end
structure Un(fs ex:Ag)(H H':Hp)(h h':Heap):Prop where
 keep:∀b o,h.get? b=some o->H b=none->b∉fs->b∉ex->h'.get? b=some o
 slot:∀b o,h.get? b=some o->H b=none->b∈fs->b∉ex->∃sl,h'.get? b=some {o with slots:=sl}
 free:∀b o,h.get? b=some o->H b=none->b∉ex->H' b=none
 there:∀b o,h.get? b=some o->b∉ex->∃o',h'.get? b=some o'
 tups:∀b xs,H b=some (.tup xs)->H' b=some (.tup xs)
 frzs:∀b o u,H b=some (.frz o u)->H' b=some (.frz o u)
 tbls:∀b ps,H b=some (.tbl ps)->∃more,H' b=some (.tbl (ps++more))
section
variable {fs fs' ex ex':Ag}{H H1 H2:Hp}{h h1 h2 h':Heap}{a x e:Addr}{o:HO}
theorem Un.any(u:Un fs ex H H1 h h1){b:Addr}{ob:Obj}(q:h.get? b=some ob)(n:H b=none)(hx:b∉ex):∃sl,h1.get? b=some {ob with slots:=sl}:=by
 by_cases a:b∈fs
 ·exact u.slot b ob q n a hx
 ·exact⟨ob.slots,u.keep b ob q n a hx⟩
theorem Un.kept(k:∀b u,h.get? b=some u->h'.get? b=some u):Un fs ex H H h h':=
 ⟨λb ob q _ _ _=>k b ob q,λb ob q _ _ _=>⟨ob.slots,k b ob q⟩,λ_ _ _ n _=>n,λb ob q _=>⟨ob,k b ob q⟩,λ_ _ q=>q,λ_ _ _ q=>q,λ_ ps q=>⟨#[],by rw[q];simp⟩⟩
theorem Un.refl:Un fs ex H H h h:=Un.kept λ_ _ q=>q
theorem Un.laid(k:∀b u,h.get? b=some u->h'.get? b=some u)(hp:h.objs.size<=a)(hn:H a=none):Un fs ex H (aR H a o) h h' where
 keep:=λb u q _ _ _=>k b u q
 slot:=λb u q _ _ _=>⟨u.slots,k b u q⟩
 free:=λb u q n _=>by rw[ar (xj (xi (xu q) hp))];exact n
 there:=λb u q _=>⟨u,k b u q⟩
 tups:=λb xs q=>by rw[ar (aw q hn)];exact q
 frzs:=λb u xs q=>by rw[ar (aw q hn)];exact q
 tbls:=λb ps q=>⟨#[],by rw[ar (aw q hn),q];simp⟩
theorem Un.write(mu:uz (H x))(he:e=x\/H e=some (.own x))(k:∀b u,b≠e->h.get? b=some u->h'.get? b=some u)(heo:∃u,h'.get? e=some u):Un fs ex H (aR H x o) h h':=by
 have d:∀b,H b=none->b≠x:=λb n z=>by subst z;rw[n]at mu;exact mu
 have f:∀b,H b=none->b≠e:=λb n z=>by
  subst z;rcases he with r | r
  ·exact d b n r
  ·rw[n]at r;cases r
 have c:∀b u,H b=some u->¬ uz (some u)->b≠x:=λb u q i z=>by subst z;rw[q]at mu;exact i mu
 refine⟨λb u q n _ _=>k b u (f b n) q,λb u q n _ _=>⟨u.slots,k b u (f b n) q⟩,λb u q n _=>by rw[ar (d b n)];exact n,λb u q _=>?_,
  λb g q=>by rw[ar (c b _ q λz=>z)];exact q,λb u g q=>by rw[ar (c b _ q λz=>z)];exact q,λb ps q=>⟨#[],by rw[ar (c b _ q λz=>z),q];simp⟩⟩
 by_cases a:b=e
 ·subst a;exact heo
 ·exact⟨u,k b u a q⟩
end
def uS(h:Heap)(H:Hp):List Addr:=(List.range h.objs.size).filter λa=>(H a).isSome
def ja(h:Heap)(H:Hp):Heap:=PySem.W.hideAll h (uS h H)
theorem mR(h:Heap)(H:Hp):(ja h H).objs.size=h.objs.size:=PySem.W.hideAll_size _ _
theorem oG{h:Heap}{H:Hp}{b:Addr}{o:Obj}(e:h.get? b=some o)(n:H b=none):(ja h H).get? b=some o:=
 PySem.W.hideAll_get _ e λhm=>by
  have q:(H b).isSome=true:=(List.mem_filter.mp hm).2;rw[n]at q;simp at q
theorem qI{b:Addr}{o:Obj}(e:(ja h H).get? b=some o):h.get? b=some o/\H b=none:=by
 have a:h.get? b=some o:=PySem.W.of_hideAll (uS h H) e;refine⟨a,?_⟩;cases q:H b with
 |none=>rfl
 |some x=>
  have c:b∈uS h H:=List.mem_filter.mpr ⟨List.mem_range.mpr (xu a),by simp[q]⟩;have z:(ja h H).get? b=none:=PySem.W.hideAll_none (uS h H) c;rw[z]at e;cases e
def rm(g h:Heap)(L:Addr):List (Addr×Obj):=(List.range h.objs.size).filterMap λa=>if a=L\/(g.get? a).isSome=true then none else(h.get? a).map λo=>(a,o)
def aU(g h:Heap)(L d:Addr):List (Addr×Obj):=(rm g h L).filter λp=>decide (p.1≠d)
structure Mod(K:Ab)(mg:Ah)(base:Heap):Prop where
 kin:K.In base
 glob:base.Ns mainGlobals mg
 blt:∃mb,base.Ns builtinsNs mb/\∀x:Str,x≠"__name__"->mb x=bootBuiltins x
 nolimit:base.NoLimit
structure Cx where
 prog:Program
 w:World
 K:PySem.W.Frag
 mg:Str->Option Value
 base:Heap
 A:Around
 N:List Str
 s₀:Shared
 H₀:Hp
 env:Env
 outer:List Env
 stack:List Env
 ex:List Addr
 fn:Str->Bool
 calm:Bool
 pn:List (Addr×Obj)
 xe:Value->Shared->Prop
def lG(l:List Env):List Addr:=l.filterMap (·.frame)
abbrev Cx.fs(X:Cx):List Addr:=lG X.outer
def uT(sc:Scope)(x:Str):Prop:=sc.names.lookup x=some .local\/sc.names.lookup x=some .cell\/sc.names.lookup x=some .free
def Loc(sc:Scope)(x:Str):Prop:=sc.names.lookup x=some .local\/sc.names.lookup x=some .cell
def v6(env:Env)(h:Heap)(m:Ah)(x:Str)(u:Value):Prop:=
 (env.kindOf x=some .local/\m x=some u)\/((env.kindOf x=some .cell\/env.kindOf x=some .free)/\∃c,env.cells.lookup x=some c/\h.IsCell c (some u))
structure Cx.Ok(X:Cx):Prop where
 mod:Mod X.K X.mg X.base
 kind:X.env.scope.kind=.function
 glob:X.env.globals=mainGlobals
 blt:X.env.builtins=builtinsNs
 above:X.s₀.heap.objs.size<=X.env.locals
 inj:∀x y c,X.env.cells.lookup x=some c->X.env.cells.lookup y=some c->x=y
 has:∀x,(X.env.kindOf x=some .cell\/X.env.kindOf x=some .free)->∃c,X.env.cells.lookup x=some c
 cab:∀x c,X.fn x=true->X.env.cells.lookup x=some c->X.s₀.heap.objs.size<=c
 hd:X.calm=true->X.A.handled=none
 frames:X.A.frames=some X.stack
 stk:X.stack=X.outer\/(X.stack=X.env::X.outer/\X.env.frame=some X.env.locals)
 exf:∀b∈X.ex,b≠X.env.locals/\∀x c,X.env.cells.lookup x=some c->c≠b
 bs:∀b o,X.base.get? b=some o->X.s₀.heap.get? b=some o/\X.H₀ b=none
 bsz:X.base.objs.size<=X.s₀.heap.objs.size
 noex:∀b o,X.base.get? b=some o->b∉X.ex
 exfs:∀b∈X.ex,b∉X.fs
 funs:X.s₀.heap.FunFrames X.base X.outer
 frf:∀b∈X.fs,X.H₀ b=none
structure Inv(X:Cx)(pins:Ac)(σ:List (Option V))(H:Hp)(s:Ae):Prop where
 ok:X.Ok
 os:s.os=X.s₀.os
 bare:AllBare s.gens
 base:Un X.fs X.ex X.H₀ H X.s₀.heap s.heap
 loc:∃m,s.heap.Ns X.env.locals m/\∀(i:Nat) (x:Str) (v:V),X.N[i]?=some x->σ[i]?=some (some v)->uT X.env.scope x->∃u,aI v u/\v6 X.env s.heap m x u
 cell:∀x c,X.env.cells.lookup x=some c->∃v,s.heap.IsCell c v
 free:H X.env.locals=none
 freeC:∀x c,X.env.cells.lookup x=some c->H c=none
 pin:∀p∈X.pn++pins,s.heap.get? p.1=some p.2/\H p.1=none/\p.1≠X.env.locals/\p.1∉X.fs/\∀v,p.2.data≠.cell v
 hok:dN X.prog X.w H s.heap
 len:σ.length=X.N.length
section
variable {X:Cx}{pins:Ac}{σ:List (Option V)}{H H':Hp}{s:Ae}{h':Heap}
theorem Cx.Ok.nofr(ok:X.Ok){b:Addr}{o:Obj}(e:X.base.get? b=some o):b∉X.fs:=λhb=>by
 have:=(ok.funs.mem hb).1;rw[e]at this;cases this
theorem Inv.bs(I:Inv X pins σ H s):∀b o,X.base.get? b=some o->s.heap.get? b=some o/\H b=none:=λb o e=>
 ⟨I.base.keep b o (I.ok.bs b o e).1 (I.ok.bs b o e).2 (I.ok.nofr e) (I.ok.noex b o e),I.base.free b o (I.ok.bs b o e).1 (I.ok.bs b o e).2 (I.ok.noex b o e)⟩
theorem Inv.bk(I:Inv X pins σ H s):∀b o,X.base.get? b=some o->s.heap.get? b=some o:=λb o e=>(I.bs b o e).1
theorem Inv.mod(I:Inv X pins σ H s):Mod X.K X.mg X.base:=I.ok.mod
theorem Inv.kIn(I:Inv X pins σ H s):X.K.In s.heap:=I.ok.mod.kin.keeps I.bk
theorem Inv.lt(I:Inv X pins σ H s):X.env.locals<s.heap.objs.size:=let ⟨_,hn,_⟩:=I.loc;hn.lt
theorem Inv.sz(I:Inv X pins σ H s):X.s₀.heap.objs.size<=s.heap.objs.size:=xz I.ok.above (q0P I.lt)
theorem Inv.nofs(I:Inv X pins σ H s){a:Addr}(h:s.heap.objs.size<=a):a∉X.fs:=λhb=>by
 obtain⟨_,o,ho,_⟩:=I.ok.funs.mem hb;exact q0Q (xi (xu ho) (xz I.sz h)) (xA _)
theorem Inv.cne(I:Inv X pins σ H s):∀x c,X.env.cells.lookup x=some c->c≠X.env.locals:=λx c e z=>by
 obtain⟨v,o,ho,hd⟩:=I.cell x c e;obtain⟨m,⟨o',es,ep,ho',hd',_⟩,_⟩:=I.loc;rw[z,ho']at ho;cases ho;rw[hd']at hd;cases hd
theorem Inv.funs(I:Inv X pins σ H s):s.heap.FunFrames X.base X.outer:=by
 have all:∀(l:List Env),(∀b∈lG l,b∈X.fs)->X.s₀.heap.FunFrames X.base l->s.heap.FunFrames X.base l:=by
  intro l
  induction l with
  |nil=>intro _ _;trivial
  |cons env r ih=>
   intro f j;obtain⟨k,⟨L,o,a,i,g,m⟩,hr⟩:=j;have d:L∈X.fs:=f L (by unfold lG;rw[q0U,a];exact q0B);obtain⟨sl,e⟩:=I.base.slot L o g (I.ok.frf L d) d λz=>I.ok.exfs L z d;exact⟨k,⟨L,_,a,i,e,m⟩,ih (λb c=>f b (by unfold lG;rw[q0U,a];exact xg _ c)) hr⟩
 exact all X.outer (λ_ c=>c) I.ok.funs
theorem Inv.stack(I:Inv X pins σ H s):s.heap.FunFrames X.base X.stack:=by
 rcases I.ok.stk with e | ⟨e,b⟩
 ·rw[e];exact I.funs
 ·rw[e]
  obtain⟨m,a,_⟩:=I.loc;refine .cons (by rw[I.ok.kind];decide) b a ?_ I.funs;exact Heap.get?_none_of_le (xz I.ok.bsz I.ok.above)
theorem Inv.stkSub(I:Inv X pins σ H s):∀b∈lG X.stack,b∈X.env.locals::X.fs:=λb hb=>by
 rcases I.ok.stk with e | ⟨e,hf⟩
 ·rw[e]at hb;exact xg _ hb
 ·rw[e]at hb
  unfold lG at hb;rw[q0U,hf]at hb;exact hb
theorem Inv.stkFree(I:Inv X pins σ H s):∀b∈lG X.stack,H b=none:=λb hb=>by
 rcases xf.mp (I.stkSub b hb) with e | hb
 ·rw[e];exact I.free
 ·obtain⟨_,o,ho,_⟩:=I.ok.funs.mem hb
  exact I.base.free b o ho (I.ok.frf b hb) λz=>I.ok.exfs b z hb
theorem Inv.step{t':Nat}{d':Drawn}{ch:Ag}(I:Inv X pins σ H s)
  (hch:∀b∈ch,(b∈X.ex\/X.s₀.heap.objs.size<=b)/\b≠X.env.locals/\(∀x c,X.env.cells.lookup x=some c->c≠b)/\∀p∈X.pn++pins,p.1≠b)
  (keep:∀b o,b≠X.env.locals->b∉X.fs->b∉ch->s.heap.get? b=some o->H b=none->h'.get? b=some o)
  (slot:∀b o,b≠X.env.locals->b∈X.fs->b∉ch->s.heap.get? b=some o->H b=none->∃sl,h'.get? b=some {o with slots:=sl}) (free:∀b o,b∉ch->s.heap.get? b=some o->H b=none->H' b=none)
  (there:∀b o,b∉ch->s.heap.get? b=some o->∃o',h'.get? b=some o')
  (tups:∀b xs,H b=some (.tup xs)->H' b=some (.tup xs)) (frzs:∀b o u,H b=some (.frz o u)->H' b=some (.frz o u)) (tbls:∀b ps,H b=some (.tbl ps)->∃more,H' b=some (.tbl (ps++more)))
  (ns:∀m,s.heap.Ns X.env.locals m->h'.Ns X.env.locals m) (hok:dN X.prog X.w H' h') (hg:AllBare g') :
  Inv X pins σ H' {s with heap:=h',gens:=g',drawn:=d',toks:=t' }:=by
 have B:∀b o,X.s₀.heap.get? b=some o->b≠X.env.locals:=λb o e=>xj (xi (xu e) I.ok.above);have j:∀b o,X.s₀.heap.get? b=some o->b∉X.ex->b∉ch:=λb o e a w=>by
  rcases(hch b w).1 with z | z
  ·exact a z
  ·exact q0Q (xi (xu e) z) (xA _)
 have g:∀x c,X.env.cells.lookup x=some c->∀v,s.heap.IsCell c v->h'.IsCell c v:=λx c e v ⟨o,y,G⟩=>by
  have f:c∉ch:=λz=>(hch c z).2.2.1 x c e rfl
  by_cases R:c∈X.fs
  ·obtain⟨sl,q⟩:=slot c o (I.cne x c e) R f y (I.freeC x c e)
   exact⟨_,q,G⟩
  ·exact⟨o,keep c o (I.cne x c e) R f y (I.freeC x c e),G⟩
 refine⟨I.ok,I.os,hg,⟨λb o e n w a=>?_,λb o e n w a=>?_,λb o e n a=>?_,λb o e a=>?_,λb xs e=>tups b xs (I.base.tups b xs e),λb o xs e=>frzs b o xs (I.base.frzs b o xs e),λb ps e=>?_⟩,?_,λx c e=>?_,?_,λx c e=>?_,λp O=>?_,hok,I.len⟩
 ·exact keep b o (B b o e) w (j b o e a) (I.base.keep b o e n w a) (I.base.free b o e n a)
 ·obtain⟨sl,t⟩:=I.base.slot b o e n w a
  obtain⟨D,C⟩:=slot b _ (B b o e) w (j b o e a) t (I.base.free b o e n a);exact⟨D,C⟩
 ·obtain⟨o',t⟩:=I.base.there b o e a
  exact free b o' (j b o e a) t (I.base.free b o e n a)
 ·obtain⟨o',t⟩:=I.base.there b o e a
  exact there b o' (j b o e a) t
 ·obtain⟨m1,t⟩:=I.base.tbls b ps e
  obtain⟨S,C⟩:=tbls b _ t;exact⟨m1++S,by rw[C,Array.append_assoc]⟩
 ·obtain⟨m,T,U⟩:=I.loc
  refine⟨m,ns m T,λi x v t C Y=>?_⟩;obtain⟨u,r,l⟩:=U i x v t C Y;refine⟨u,r,?_⟩;rcases l with l | ⟨k,c,e,z⟩
  ·exact .inl l
  ·exact .inr ⟨k,c,e,g x c e _ z⟩
 ·obtain⟨v,z⟩:=I.cell x c e
  exact⟨v,g x c e v z⟩
 ·obtain⟨m,⟨o,_,_,y,_⟩,_⟩:=I.loc
  exact free _ o (λz=>(hch _ z).2.1 rfl) y I.free
 ·obtain⟨v,o,y,G⟩:=I.cell x c e
  exact free c o (λz=>(hch c z).2.2.1 x c e rfl) y (I.freeC x c e)
 ·obtain⟨e,n,M,L,d⟩:=I.pin p O
  have f:p.1∉ch:=λz=>(hch p.1 z).2.2.2 p O rfl;exact⟨keep p.1 p.2 M L f e n,free p.1 p.2 f e n,M,L,d⟩
theorem Inv.un{t':Nat}(I:Inv X pins σ H s)(u:Un X.fs [] H H' s.heap h')(hok:dN X.prog X.w H' h'):Inv X pins σ H' {s with heap:=h',toks:=t' }:=by
 obtain⟨m,⟨o,es,ep,g,r⟩,_⟩:=id I.loc;obtain⟨sl,k⟩:=u.any g I.free (by simp);exact I.step (g':=s.gens) (d':=s.drawn) (ch:=[]) (λ_ z=>nomatch z) (λb o _ c _ e n=>u.keep b o e n c (by simp)) (λb o _ c _ e n=>u.slot b o e n c (by simp)) (λb o _ e n=>u.free b o e n (by simp)) (λb o _ e=>u.there b o e (by simp)) u.tups u.frzs u.tbls (λm' j=>by
  obtain⟨o',d,f,a,i⟩:=j;rw[g]at a;cases a
  exact⟨_,d,f,k,i⟩) hok I.bare
theorem Inv.call{t':Nat}{d':Drawn}{ch:Ag}(I:Inv X pins σ H s)(u:Un (lG X.stack) ch H H' s.heap h')(hok:dN X.prog X.w H' h')(hg:AllBare g')
  (hch:∀b∈ch,(b∈X.ex\/X.s₀.heap.objs.size<=b)/\b≠X.env.locals/\(∀x c,X.env.cells.lookup x=some c->c≠b)/\∀p∈X.pn++pins,p.1≠b) :
  Inv X pins σ H' {s with heap:=h',gens:=g',drawn:=d',toks:=t' }:=by
 obtain⟨m,⟨o,es,ep,j,r⟩,_⟩:=id I.loc;obtain⟨sl,f⟩:=u.any j I.free λz=>(hch _ z).2.1 rfl;exact I.step (ch:=ch) hch (λb o f q a e n=>u.keep b o e n (λz=>(xf.mp (I.stkSub b z)).elim f q) a) (λb o _ _ a e n=>u.any e n a) (λb o a e n=>u.free b o e n a) (λb o a e=>u.there b o e a) u.tups u.frzs u.tbls (λm' l=>by
  obtain⟨o',g,i,d,k⟩:=l;rw[j]at d;cases d
  exact⟨_,g,i,f,k⟩) hok hg
theorem Inv.turned{t':Nat}{it:Addr}(I:Inv X pins σ H s)(k:∀b o,b≠it->s.heap.get? b=some o->h'.get? b=some o)(hn:H it=none)(hL:it≠X.env.locals)
  (h1:it∈X.ex\/X.s₀.heap.objs.size<=it) (h2:∀x c,X.env.cells.lookup x=some c->c≠it) (h3:∀p∈X.pn++pins,p.1≠it):Inv X pins σ H {s with heap:=h',toks:=t' }:=by
 have d:∀b u,H b=some u->b≠it:=λb u e z=>by rw[z,hn]at e;cases e
 refine I.step (g':=s.gens) (d':=s.drawn) (ch:=[it]) (λb i=>?_) (λb o _ _ a e _=>k b o (λz=>a (by simp[z])) e) (λb o _ _ a e _=>⟨o.slots,k b o (λz=>a (by simp[z])) e⟩) (λ_ _ _ _ n=>n)
  (λb o a e=>⟨o,k b o (λz=>a (by simp[z])) e⟩) (λ_ _ e=>e) (λ_ _ _ e=>e) (λb ps e=>⟨#[],by rw[e];simp⟩) (λm g=>?_) (λb u e=>?_) I.bare
 ·have e:b=it:=by simpa using i
  subst e;exact⟨h1,hL,h2,h3⟩
 ·obtain⟨o,j,l,f,r⟩:=g
  exact⟨o,j,l,k _ o (Ne.symm hL) f,r⟩
 ·refine(I.hok b u e).stay (λc v a q=>k c v ?_ q) (λ_ q=>q) λ_ _ q=>q
  rcases a with z | z
  ·rw[z];exact d b u e
  ·exact d c _ z
theorem Inv.tok(I:Inv X pins σ H s)(t:Nat):Inv X pins σ H {s with toks:=t}:=I.un (h':=s.heap) (t':=t) Un.refl I.hok
theorem Inv.kept{t':Nat}(I:Inv X pins σ H s)(k:∀b u,s.heap.get? b=some u->h'.get? b=some u):Inv X pins σ H {s with heap:=h',toks:=t' }:=I.un (Un.kept k) (I.hok.kept k)
theorem Inv.laid{a:Addr}{t':Nat}(I:Inv X pins σ H s)(k:∀b u,s.heap.get? b=some u->h'.get? b=some u)(hp:s.heap.objs.size<=a)(new:ba X.prog X.w (aR H a o) h' a o) :
  Inv X pins σ (aR H a o) {s with heap:=h',toks:=t' }:=I.un (Un.laid k hp (I.hok.fresh hp)) (I.hok.laid k hp new)
theorem Inv.write{e:Addr}{t':Nat}(I:Inv X pins σ H s)(mu:uz (H x))(he:e=x\/H e=some (.own x))(k:∀b u,b≠e->s.heap.get? b=some u->h'.get? b=some u)(heo:∃u,h'.get? e=some u)
  (new:ba X.prog X.w (aR H x o) h' x o):Inv X pins σ (aR H x o) {s with heap:=h',toks:=t' }:=I.un (Un.write mu he k heo) (I.hok.write mu he k heo new)
theorem Inv.pins_of{pins':Ac}(I:Inv X pins σ H s)(h:∀p∈pins',s.heap.get? p.1=some p.2/\H p.1=none/\p.1≠X.env.locals/\p.1∉X.fs/\∀v,p.2.data≠.cell v):Inv X pins' σ H s:=
 ⟨I.ok,I.os,I.bare,I.base,I.loc,I.cell,I.free,I.freeC,λp hp=>(xb.mp hp).elim (λz=>I.pin p (q0D _ z)) (h p),I.hok,I.len⟩
theorem jL{N:Ak}(hN:N.Nodup){i j:Nat}{x:Str}(a:N[i]?=some x)(b:N[j]?=some x):i=j:=by
 obtain⟨h1,d⟩:=wR.mp a;obtain⟨h2,c⟩:=wR.mp b;exact(List.getElem_inj hN).mp (d.trans c.symm)
theorem ir{i:Nat}{x:Str}{Q:Unit->Shared->Prop}(I:Inv X pins σ H s)(hN:X.N.Nodup)(hi:X.N[i]?=some x)(hx:Loc X.env.scope x)(r:aI v u)
  (h:∀s',Inv X pins (σ.set i (some v)) H s'->(∃a,Heap.SameBut a s.heap s'.heap/\(a=X.env.locals\/X.env.cells.lookup x=some a))->Q () s') (hf:autoParam (X.fn x=true\/X.env.scope.names.lookup x=some .local) zz2._auto_1):wpAny M A (storeName X.env x u) Q E s:=by
 obtain⟨m,hn,hl⟩:=id I.loc;have T:(X.env.scope.kind==.class||(X.env.scope.kind==.module&&X.env.locals != X.env.globals))=false:=by rw[I.ok.kind];rfl
 have S:i<σ.length:=by rw[I.len];exact(wR.mp hi).1
 have cne:=I.cne;have g:∀{a:Addr} {L:Heap},(∃o,s.heap.get? a=some o/\H a=none)->Heap.SameBut a s.heap L->dN X.prog X.w H L:=fun{a L} ha f b ob e=>by
  obtain⟨_,_,t⟩:=ha;refine(I.hok b ob e).stay (λc Z hc q=>(f.2 c ?_).trans q) (λ_ q=>q) λ_ _ q=>q;rintro rfl;rcases hc with rfl | hc
  ·rw[t]at e;cases e
  ·rw[t]at hc;cases hc
 rcases hx with hk | hk
 ·refine wpAny_storeName_local hk hn (λL a2 f=>?_) T
  obtain⟨oL,_,_,a1,_⟩:=id hn;refine h _ ⟨I.ok,I.os,I.bare,⟨λb o e n G hx=>?_,λb o e n G hx=>?_,I.base.free,λb o e hx=>?_,I.base.tups,I.base.frzs,I.base.tbls⟩,⟨_,a2,λj y v' l B e3=>?_⟩,λy c e=>?_,I.free,I.freeC,λp hp=>?_,g ⟨oL,a1,I.free⟩ f,by simpa using I.len⟩ ⟨_,f,.inl rfl⟩
  ·exact(f.2 b (xj (xi (xu e) I.ok.above))).trans (I.base.keep b o e n G hx)
  ·obtain⟨sl,l⟩:=I.base.slot b o e n G hx
   exact⟨sl,(f.2 b (xj (xi (xu e) I.ok.above))).trans l⟩
  ·obtain⟨o',l⟩:=I.base.there b o e hx
   exact⟨o',(f.2 b (xj (xi (xu e) I.ok.above))).trans l⟩
  ·by_cases C:j=i
   ·subst C
    rw[hi]at l;cases l
    rw[xE S]at B;cases B;exact⟨u,r,.inl ⟨hk,by simp⟩⟩
   ·rw[List.getElem?_set_ne (Ne.symm C)]at B
    obtain⟨u',r',q⟩:=hl j y v' l B e3;refine⟨u',r',?_⟩;rcases q with⟨k,e⟩ | ⟨k,c,e,z⟩
    ·refine .inl ⟨k,?_⟩
     have:y≠x:=λe=>C (jL hN l (e▸hi));simp[this,e]
    ·exact .inr ⟨k,c,e,z.sameBut f (cne y c e)⟩
  ·obtain⟨Z,z⟩:=I.cell y c e
   exact⟨Z,z.sameBut f (cne y c e)⟩
  ·obtain⟨e,n,ne,nf,d⟩:=I.pin p hp
   exact⟨(f.2 p.1 ne).trans e,n,ne,nf,d⟩
 ·have D:X.fn x=true:=by
   rcases hf with z | z
   ·exact z
   ·rw[z]at hk;cases hk
  obtain⟨c,hc⟩:=I.ok.has x (.inl hk);obtain⟨Z,z⟩:=I.cell x c hc;refine wpAny_storeName_cell I.ok.kind hk hc z (λL Y f=>?_);obtain⟨oc,R,O⟩:=id z;refine h {s with heap:=L } ⟨I.ok,I.os,I.bare,⟨λb o e n G hx=>?_,λb o e n G hx=>?_,I.base.free,λb o e hx=>?_,I.base.tups,I.base.frzs,I.base.tbls⟩,⟨m,hn.sameBut f (Ne.symm (cne x c hc)),λj y v' l B e3=>?_⟩,λy c' e=>?_,I.free,I.freeC,λp hp=>?_,g ⟨oc,R,I.freeC x c hc⟩ f,by simpa using I.len⟩ ⟨c,f,.inr hc⟩
  ·exact(f.2 b (xj (xi (xu e) (I.ok.cab x c D hc)))).trans (I.base.keep b o e n G hx)
  ·obtain⟨sl,l⟩:=I.base.slot b o e n G hx
   exact⟨sl,(f.2 b (xj (xi (xu e) (I.ok.cab x c D hc)))).trans l⟩
  ·obtain⟨o',l⟩:=I.base.there b o e hx
   exact⟨o',(f.2 b (xj (xi (xu e) (I.ok.cab x c D hc)))).trans l⟩
  ·by_cases C:j=i
   ·subst C
    rw[hi]at l;cases l
    rw[xE S]at B;cases B;exact⟨u,r,.inr ⟨.inl hk,c,hc,Y⟩⟩
   ·rw[List.getElem?_set_ne (Ne.symm C)]at B
    obtain⟨u',r',q⟩:=hl j y v' l B e3;refine⟨u',r',?_⟩;rcases q with q | ⟨k,c',e,z'⟩
    ·exact .inl q
    ·refine .inr ⟨k,c',e,z'.sameBut f ?_⟩
     rintro rfl;exact C (jL hN l (I.ok.inj _ _ _ e hc▸hi))
  ·by_cases U:c'=c
   ·subst U;exact⟨_,Y⟩
   ·obtain⟨w2,z2⟩:=I.cell y c' e
    exact⟨w2,z2.sameBut f U⟩
  ·obtain⟨e,n,ne,nf,d⟩:=I.pin p hp
   refine⟨(f.2 p.1 ?_).trans e,n,ne,nf,d⟩;intro q;rw[q,R]at e;have q':oc=p.2:=q0S e;exact d Z (by rw[<- q'];exact O)
theorem jQ{i:Nat}{x:Str}{Q:Unit->Shared->Prop}(I:Inv X pins σ H s)(hN:X.N.Nodup)(hi:X.N[i]?=some x)(hx:Loc X.env.scope x)(r:aI v u)
  (h:∀s',Inv X pins (σ.set i (some v)) H s'->Q () s') (hf:autoParam (X.fn x=true\/X.env.scope.names.lookup x=some .local) zz2._auto_1):wpAny M A (storeName X.env x u) Q E s:=
 ir I hN hi hx r (λs' I' _=>h s' I') hf
theorem Inv.call'{s':Ae}{ch:Ag}(I:Inv X pins σ H s)(ho:s'.os=s.os)(u:Un (lG X.stack) ch H H' s.heap s'.heap)(hok:dN X.prog X.w H' s'.heap)(hg:AllBare s'.gens)
  (hch:∀b∈ch,(b∈X.ex\/X.s₀.heap.objs.size<=b)/\b≠X.env.locals/\(∀x c,X.env.cells.lookup x=some c->c≠b)/\∀p∈X.pn++pins,p.1≠b):Inv X pins σ H' s':=by
 obtain⟨h',g',d',t',a⟩:=s';have e:a=s.os:=ho;subst e;exact I.call (g':=g') (t':=t') (d':=d') u hok hg hch
end
abbrev XK:=Value->Option Addr->Hp->Prop
abbrev St:=List (Option V)
abbrev VK:=V->Hp->Prop
abbrev TE:=St->Hp->VK->Prop
abbrev TT:=St->Hp->(Bool->Hp->Prop)->Prop
abbrev TA:=St->Hp->(List V->Hp->Prop)->Prop
structure cT where
 nx:St->Hp->Prop
 rt:VK
 bk:St->Hp->Prop:=λ_ _=>False
 ct:St->Hp->Prop:=λ_ _=>False
abbrev TS:=cT->St->Hp->Prop
inductive EP(X:Cx)(pins:Ac)(σ:St)(Q:VK)(u:Value)(s':Ae):Prop
 |mk (v:V) (H':Hp) (_:Inv X pins σ H' s') (_:aI v u) (_:Q v H')
inductive TP(X:Cx)(pins:Ac)(σ:St)(Q:Bool->Hp->Prop)(b:Bool)(s':Ae):Prop
 |mk (H':Hp) (_:Inv X pins σ H' s') (_:Q b H')
inductive AP(X:Cx)(pins:Ac)(σ:St)(Q:List V->Hp->Prop)(us:Af)(s':Ae):Prop
 |mk (vs:List V) (H':Hp) (_:Inv X pins σ H' s') (_:aD vs us) (_:Q vs H')
inductive SN(X:Cx)(pins:Ac)(D:St->Hp->Prop)(s':Ae):Prop
 |mk (σ':St) (H':Hp) (_:Inv X pins σ' H' s') (_:D σ' H')
inductive SR(X:Cx)(pins:Ac)(D:V->Hp->Prop)(u:Value)(s':Ae):Prop
 |mk (v:V) (σ':St) (H':Hp) (_:Inv X pins σ' H' s') (_:aI v u) (_:D v H')
inductive SH(X:Cx)(pins:Ac)(σ:St)(D:Hp->Prop)(s':Ae):Prop
 |mk (H':Hp) (_:Inv X pins σ H' s') (_:D H')
def SP(X:Cx)(pins:Ac)(D:cT)(f:Flow)(s':Ae):Prop:=
 match f with
 | .next=>SN X pins D.nx s'
 | .brk=>SN X pins D.bk s'
 | .cont=>SN X pins D.ct s'
 | .ret u=>SR X pins D.rt u s'
def PE(X:Cx)(e:Expr)(t:TE):Prop:=
 ∀(pins:Ac) (s:Ae) (σ:St) (H:Hp) (Q:VK),Inv X pins σ H s->t σ H Q->wpAny (model X.prog X.w) X.A (eval e X.env) (EP X pins σ Q) X.xe s
def PT(X:Cx)(e:Expr)(t:TT):Prop:=
 ∀(pins:Ac) (s:Ae) (σ:St) (H:Hp) (Q:Bool->Hp->Prop),Inv X pins σ H s->t σ H Q->wpAny (model X.prog X.w) X.A (isTrue e X.env (eval e X.env)) (TP X pins σ Q) X.xe s
def PW(X:Cx)(e:Expr)(t:TT):Prop:=
 ∀(whole:Sem Value) (pins:Ac) (s:Ae) (σ:St) (H:Hp) (Q:Bool->Hp->Prop),Inv X pins σ H s->t σ H Q->wpAny (model X.prog X.w) X.A (isTrue e X.env whole) (TP X pins σ Q) X.xe s
theorem PW.pt(h:PW X e t):PT X e t:=h _
def PA(X:Cx)(es:Ao)(t:TA):Prop:=
 ∀(pos:Pos) (pins:Ac) (s:Ae) (σ:St) (H:Hp) (Q:List V->Hp->Prop),Inv X pins σ H s->t σ H Q->wpAny (model X.prog X.w) X.A (spliced (backTo pos (starEach es X.env))) (AP X pins σ Q) X.xe s
def PS(X:Cx)(st:Stmt)(t:TS):Prop:=
 ∀(pins:Ac) (s:Ae) (σ:St) (H:Hp) (D:cT),Inv X pins σ H s->t D σ H->wpAny (model X.prog X.w) X.A (exec st X.env) (SP X pins D) X.xe s
def lI(X:Cx)(st:List Stmt)(t:TS):Prop:=
 ∀(pins:Ac) (s:Ae) (σ:St) (H:Hp) (D:cT),Inv X pins σ H s->t D σ H->wpAny (model X.prog X.w) X.A (execs st X.env) (SP X pins D) X.xe s
theorem bK{α:Type}{t:Sem α}{Q Q':α->Shared->Prop}{s:Ae}(h:wpAny M A t Q E s)(hQ:∀a s,Q a s->Q' a s):wpAny M A t Q' E s:=q0X h hQ λ_ _ x=>x
section
variable {X:Cx}
def q8(i:Nat):TE:=λσ H Q=>∃v,σ[i]?=some (some v)/\Q v H
def tC(v:V):TE:=λ_ H Q=>Q v H
theorem sw{i:Nat}{x:Str}{pos:Pos}(hN:X.N[i]?=some x)(hv:uT X.env.scope x)(hd:autoParam ((x==("__debug__":Str))=false) zz1._auto_1)(hcd:autoParam ((x==("__classdict__":Str))=false) zz1._auto_1):PE X (.Name x pos) (q8 i):=by
 intro b s σ H Q I h;obtain⟨v,e,h⟩:=h;obtain⟨m,f,j⟩:=I.loc;obtain⟨u,r,l⟩:=j i x v hN e hv;have fin:EP X b σ Q u s:=⟨v,H,I,r,h⟩;rcases l with⟨hk,g⟩ | ⟨hk,c,d,a⟩
 ·exact wpAny_Name (wpAny_loadName_local I.ok.kind hk f g fin) hd
 ·rcases hk with hk | hk
  ·exact wpAny_Name (wpAny_loadName_cell I.ok.kind hk d a fin) hd
  ·exact wpAny_Name (wpAny_loadName_free I.ok.kind hk d a fin hcd) hd
theorem aj{i j pos}:PE X (.Constant (.int i) j pos) (tC (.int i)):=λ_ _ _ H _ I h=>wpAny_Constant_int ⟨.int i,H,I.tok _,⟨_,rfl⟩,h⟩
theorem ku{b j pos}:PE X (.Constant (.bool b) j pos) (tC (.bl b)):=λ_ _ _ H _ I h=>Constant_bool ⟨.bl b,H,I,rfl,h⟩
theorem dO{x j pos}:PE X (.Constant (.str x) j pos) (tC (.str x)):=λ_ _ _ H _ I h=>Calls.Constant_str ⟨.str x,H,I.tok _,⟨_,rfl⟩,h⟩
def Gl(X:Cx)(x:Str):Prop:=X.env.kindOf x=some .globalImplicit
theorem lP{pins:Ac}{σ:St}{u:Value}{pos:Pos}{Q:Aa}(I:Inv X pins σ H s)(hg:Gl X x)(hm:X.mg x=some u)(h:Q u s)
  (hd:autoParam ((x==("__debug__":Str))=false) zz1._auto_1):wpAny (model X.prog X.w) X.A (eval (.Name x pos) X.env) Q E s:=
 Calls.Name_function_global I.ok.kind hg (Calls.loadGlobal_global (by rw[I.ok.glob];exact I.mod.glob.keeps I.bk) hm h) hd
theorem cJ{pins:Ac}{σ:St}{u:Value}{pos:Pos}{Q:Aa}(I:Inv X pins σ H s)(hg:Gl X x)(hm:X.mg x=none)(hv:bootBuiltins x=some u)(h:Q u s)
  (hn:autoParam (x≠"__name__") zz1._auto_1) (hd:autoParam ((x==("__debug__":Str))=false) zz1._auto_1):wpAny (model X.prog X.w) X.A (eval (.Name x pos) X.env) Q E s:=by
 obtain⟨mb,h1,h2⟩:=I.mod.blt;exact Calls.Name_function_global I.ok.kind hg (Calls.loadGlobal_builtin (by rw[I.ok.glob];exact I.mod.glob.keeps I.bk) hm (by rw[I.ok.blt];exact h1.keeps I.bk) ((h2 x hn).trans hv) h) hd
theorem lV{u:Value}{pos:Pos}(hg:Gl X x)(hm:X.mg x=some u)(r:aI v u)(hd:autoParam ((x==("__debug__":Str))=false) zz1._auto_1):PE X (.Name x pos) (tC v):=
 λ_ _ _ H _ I h=>lP I hg hm ⟨v,H,I,r,h⟩ hd
theorem i_{u:Value}{pos:Pos}(hg:Gl X x)(hm:X.mg x=none)(hv:bootBuiltins x=some u)(r:aI v u)(hn:autoParam (x≠"__name__") zz1._auto_1)(hd:autoParam ((x==("__debug__":Str))=false) zz1._auto_1):PE X (.Name x pos) (tC v):=
 λ_ _ _ H _ I h=>cJ I hg hm hv ⟨v,H,I,r,h⟩ hn hd
variable {a b:Expr}{ta tb:TE}{pos:Pos}
variable {tA tB':TT}{aU:Ao}
def vy(t u:TT):TT:=λσ H Q=>t σ H λc H1=>if c=true then Q true H1 else u σ H1 Q
def tq(t:TT):TT:=λσ H Q=>t σ H λc H1=>Q (!c) H1
theorem lF(ha:PT X a tA):PW X (.BoolOp .Or [a] pos) tA:=by
 intro wh b s σ H Q I h;refine isTrue_or (bK (ha b s σ H Q I h) λc s1 e=>?_);cases c with
 |false=>exact isTrue_or_nil e
 |true=>exact e
theorem oY(ha:PT X a tA)(hb:PW X (.BoolOp .Or (b::aU) pos) tB'):PW X (.BoolOp .Or (a::b::aU) pos) (vy tA tB'):=by
 intro g d s σ H Q I h;refine isTrue_or (bK (ha d s σ H _ I h) λc i ⟨H1,f,e⟩=>?_);cases c with
 |true=>exact⟨H1,f,e⟩
 |false=>exact hb g d i σ H1 Q f e
theorem gD(ha:PT X a tA):PT X (.UnaryOp .Not a pos) (tq tA):=by
 intro b s σ H Q I h;exact isTrue_not (bK (ha b s σ H (λc H1=>Q (!c) H1) I h) λ_ _ ⟨H1,d,q⟩=>⟨H1,d,q⟩)
def oo(ta tb:TE):TE:=λσ H Q=>ta σ H λx H1=>∃c,x=.bl c/\if c=true then tb σ H1 Q else Q (.bl false) H1
theorem tF{op}{t:TE}(h:PE X a t):PE X (.BoolOp op [a] pos) t:=λpins s σ H Q I hw=>BoolOp_one (h pins s σ H Q I hw)
theorem sA(ha:PE X a ta)(hb:PE X (.BoolOp .And (b::aU) pos) tb):PE X (.BoolOp .And (a::b::aU) pos) (oo ta tb):=by
 intro d s σ H Q I h;refine BoolOp_and (bK (ha d s σ H _ I h) λv g ⟨x,H1,f,i,e⟩=>?_);obtain⟨c,rfl,e⟩:=e;cases i;refine wpAny_truthy_bool ?_;cases c with
 |true=>exact hb d g σ H1 Q f e
 |false=>exact⟨.bl false,H1,f,rfl,e⟩
end
def aS(K:Ab)(H:Hp)(a:Addr)(xs:List V):Prop:=
 Rd H a (.lst xs) \/
  ∃(o:Obj) (its:Array Value) (n:Nat),K.lookup a=some o/\o.cls=.type "list"/\o.dict=none/\o.data=.seq its n/\its.size<=sizeLine/\aD xs its.toList
def fq(K:Ab)(H:Hp)(a:Addr)(xs:List V):Prop:=
 Rd H a (.tup xs) \/
  ∃(o:Obj) (its:Array Value) (n:Nat),K.lookup a=some o/\o.cls=.type "tuple"/\o.data=.seq its n/\its.size<=sizeLine/\aD xs its.toList
def vf:Value->Option V
 | .none=>some .non
 | .bool b=>some (.bl b)
 | .int i _=>some (.int i)
 | .str x _=>some (.str x)
 | .bytes b _=>some (.byt b)
 | .float b _=>some (.flt b)
 | .ref a=>some (.ref a)
 | .type n=>some (.ty n)
 |_=>none
theorem aI.abs(r:aI x u):vf u=some x:=by
 cases x with
 |non=>cases r;rfl
 |bl _=>cases r;rfl
 |int _=>obtain⟨t,rfl⟩:=r;rfl
 |str _=>obtain⟨t,rfl⟩:=r;rfl
 |byt _=>obtain⟨t,rfl⟩:=r;rfl
 |flt _=>obtain⟨t,rfl⟩:=r;rfl
 |ref _=>cases r;rfl
 |ty _=>cases r;rfl
theorem aI.inj(r:aI x u)(q:aI y u):x=y:=q0S (r.abs.symm.trans q.abs)
theorem aD.inj:∀{xs ys:List V} {us:Af},aD xs us->aD ys us->xs=ys
 |_,_,_,.nil,.nil=>rfl
 |_,_,_,.cons r t,.cons r' t'=>by rw[r.inj r',aD.inj t t']
section
variable {X:Cx}{pins:Ac}{σ:St}{H:Hp}{s:Ae}{a:Addr}{xs ys:List V}
theorem aS.of{K:Ab}(h:H a=some (.lst xs)):aS K H a xs:=.inl (.inl h)
theorem fq.of{K:Ab}(h:H a=some (.tup xs)):fq K H a xs:=.inl (.inl h)
theorem Inv.list(I:Inv X pins σ H s)(h:aS X.K H a xs):∃its:List Value,aD xs its/\PlainL s.heap a its.toArray/\xs.length<=sizeLine:=by
 rcases h with h | ⟨o,its,n,c,f,d,b,hz,r⟩
 ·obtain⟨z,its,n,r,e⟩:=h.ok I.hok
  exact⟨its,r,⟨_,n,e,rfl,rfl,rfl⟩,z⟩
 ·refine⟨its.toList,r,⟨o,n,I.kIn a o c,f,d,by simpa using b⟩,?_⟩
  have e:=r.length;simp only[Array.length_toList]at e;omega
theorem Inv.tuple(I:Inv X pins σ H s)(h:fq X.K H a xs):∃its:List Value,aD xs its/\IsTup s.heap a its.toArray/\xs.length<=sizeLine:=by
 rcases h with h | ⟨o,its,n,c,d,b,hz,r⟩
 ·obtain⟨z,its,r,p⟩:=h.ok I.hok
  exact⟨its,r,p,z⟩
 ·refine⟨its.toList,r,⟨o,I.kIn a o c,d,n,by simpa using b⟩,?_⟩
  have e:=r.length;simp only[Array.length_toList]at e;omega
theorem Inv.list_inj(I:Inv X pins σ H s)(h:aS X.K H a xs)(h':aS X.K H a ys):xs=ys:=by
 obtain⟨c,r,⟨o,n,e,_,_,d⟩,_⟩:=I.list h;obtain⟨b,i,⟨o',n',f,_,_,g⟩,_⟩:=I.list h';rw[e]at f;cases f
 rw[d]at g
 injection g with d1 _
 have:c=b:=by simpa using q0R Array.toList d1
 subst this;exact r.inj i
end
abbrev Cx.wish(X:Cx)(E:Aa):Cx:={X with xe:=E}
abbrev Cx.nox(X:Cx):Cx:=X.wish λ_ _=>False
theorem Cx.Ok.wish{X:Cx}(ok:X.Ok)(E:Aa):(X.wish E).Ok:=
 ⟨ok.mod,ok.kind,ok.glob,ok.blt,ok.above,ok.inj,ok.has,ok.cab,ok.hd,ok.frames,ok.stk,ok.exf,ok.bs,ok.bsz,ok.noex,ok.exfs,ok.funs,ok.frf⟩
theorem Cx.Ok.unwish{X:Cx}(ok:(X.wish E).Ok):X.Ok:=
 ⟨ok.mod,ok.kind,ok.glob,ok.blt,ok.above,ok.inj,ok.has,ok.cab,ok.hd,ok.frames,ok.stk,ok.exf,ok.bs,ok.bsz,ok.noex,ok.exfs,ok.funs,ok.frf⟩
section
variable {X:Cx}{pins:Ac}{σ:St}{H:Hp}{s:Ae}{E:Aa}
theorem Inv.wish(I:Inv X pins σ H s)(E:Aa):Inv (X.wish E) pins σ H s:=⟨I.ok.wish E,I.os,I.bare,I.base,I.loc,I.cell,I.free,I.freeC,I.pin,I.hok,I.len⟩
theorem Inv.unwish(I:Inv (X.wish E) pins σ H s):Inv X pins σ H s:=⟨I.ok.unwish,I.os,I.bare,I.base,I.loc,I.cell,I.free,I.freeC,I.pin,I.hok,I.len⟩
theorem SP.unwish(h:SP (X.wish E) pins D f s'):SP X pins D f s':=by
 cases f with
 |next=>obtain⟨σ',a,I,q⟩:=h;exact⟨σ',a,I.unwish,q⟩
 |brk=>obtain⟨σ',a,I,q⟩:=h;exact⟨σ',a,I.unwish,q⟩
 |cont=>obtain⟨σ',a,I,q⟩:=h;exact⟨σ',a,I.unwish,q⟩
 |ret u=>obtain⟨v,σ',a,I,r,q⟩:=h;exact⟨v,σ',a,I.unwish,r,q⟩
theorem lI.nox{st:List Stmt}(h:lI X.nox st t):lI X st t:=λpins s σ H D I hw=>
 q0X (h pins s σ H D (I.wish _) hw) (λ_ _ q=>q.unwish) λ_ _ z=>False.elim z
end
section
variable {X:Cx}{st:Stmt}{aU:List Stmt}{t u:TS}{e:Expr}{te:TE}{pos:Pos}
def oD:TS:=λD σ H=>D.nx σ H
def rB(t u:TS):TS:=λD σ H=>t {D with nx:=u D} σ H
theorem ca:lI X [] oD:=λ_ _ σ H _ I h=>wpAny_execs_nil ⟨σ,H,I,h⟩
theorem ai(h1:PS X st t)(h2:lI X aU u):lI X (st::aU) (rB t u):=by
 intro a s σ H D I h;refine wpAny_execs_cons (bK (h1 a s σ H {D with nx:=u D} I h) λf b q=>?_);cases f with
 |next=>
  obtain⟨σ',d,c,q⟩:=q;exact h2 a b σ' d D c q
 |ret v=>exact q
 |brk=>exact q
 |cont=>exact q
theorem ao(h1:PS X st t):lI X [st] t:=by
 intro a s σ H D I h;refine wpAny_execs_cons (bK (h1 a s σ H D I h) λf s1 q=>?_);cases f with
 |next=>exact wpAny_execs_nil q
 |ret v=>exact q
 |brk=>exact q
 |cont=>exact q
theorem Inv.quiet{pins:Ac}{σ:St}(I:Inv X pins σ H s):interactive X.env=false:=by simp[interactive,I.ok.kind]
def pQ(te:TE):TS:=λD σ H=>te σ H λ_ H1=>D.nx σ H1
theorem fN(he:PE X e te)(hs:autoParam (swapsWith e none pos.line X.env=pure false) zz0._auto_1):PS X (.Expr e pos) (pQ te):=by
 intro a s σ H D I h;exact wpAny_Expr_any (bK (he a s σ H _ I h) λv s1 ⟨x,H1,c,r1,b⟩=>⟨σ,H1,c,b⟩) I.quiet hs
def tQ(te:TE):TS:=λD σ H=>te σ H D.rt
theorem bg(he:PE X e te):PS X (.Return (some e) pos) (tQ te):=by
 intro a s σ H D I h;exact wpAny_Return_some (bK (he a s σ H _ I h) λv s1 ⟨x,H1,d,b,c⟩=>⟨x,σ,H1,d,b,c⟩)
def tH(c:TT)(t u:TS):TS:=λD σ H=>c σ H λb H1=>if b=true then t D σ H1 else u D σ H1
theorem dH{tc:TT}(hc:PT X c tc)(ha:lI X a t)(hb:lI X b u):PS X (.If c a b pos) (tH tc t u):=by
 intro e s σ H D I h;refine wpAny_If (bK (hc e s σ H _ I h) λd f ⟨H1,i,g⟩=>?_);cases d with
 |true=>exact ha e f σ H1 D i g
 |false=>exact hb e f σ H1 D i g
end
abbrev TG:=V->St->Hp->(St->Hp->Prop)->Prop
abbrev rO:=List V->St->Hp->(St->Hp->Prop)->Prop
def PG(X:Cx)(target:Expr)(t:TG):Prop:=
 ∀(pins:Ac) (s:Ae) (σ:St) (H:Hp) (v:V) (u:Value) (Q:St->Hp->Prop),Inv X pins σ H s->aI v u->t v σ H Q ->
  wpAny (model X.prog X.w) X.A (assign target X.env u) (λ_ s'=>SN X pins Q s') X.xe s
def uE(X:Cx)(ts:Ao)(t:rO):Prop:=
 ∀(pins:Ac) (s:Ae) (σ:St) (H:Hp) (vs:List V) (us:Af) (Q:St->Hp->Prop),Inv X pins σ H s->aD vs us->t vs σ H Q ->
  wpAny (model X.prog X.w) X.A (assignInOrder ((assignEach ts X.env).map (·.2)) us) (λ_ s'=>SN X pins Q s') X.xe s
abbrev s8:=V->V->V->Hp->(Hp->Prop)->Prop
def uo(X:Cx)(t:s8):Prop:=
 ∀(pins:Ac) (s:Ae) (σ:St) (H:Hp) (o i v:V) (ov iv u:Value) (Q:Hp->Prop),Inv X pins σ H s->aI o ov->aI i iv->aI v u->t o i v H Q ->
  wpAny (model X.prog X.w) X.A (setItem ov iv u) (λ_ s'=>SH X pins σ Q s') X.xe s
section
variable {X:Cx}{pos:Pos}
def fB(i:Nat):TG:=λv σ H Q=>Q (σ.set i (some v)) H
theorem aG{i:Nat}{x:Str}(hN:X.N.Nodup)(hi:X.N[i]?=some x)(hx:Loc X.env.scope x)(hf:autoParam (X.fn x=true\/X.env.scope.names.lookup x=some .local) zz2._auto_1):PG X (.Name x pos) (fB i):=by
 intro pins s σ H v u Q I r h;exact wpAny_assign_Name (jQ I hN hi hx r (λs' a=>⟨_,H,a,h⟩) hf)
theorem q02(i:Nat){x:Str}(hN:X.N.Nodup)(hi:autoParam (X.N[i]?=some x) zz0._auto_1)(hx:autoParam (Loc X.env.scope x) zzl._auto_1)(hf:autoParam (X.fn x=true\/X.env.scope.names.lookup x=some .local) zz2._auto_1):PG X (.Name x pos) (fB i):=aG hN hi hx hf
def sJ:rO:=λvs σ H Q=>vs=[]/\Q σ H
def oN(t:TG)(u:rO):rO:=λvs σ H Q=>∃v r,vs=v::r/\t v σ H λσ' H'=>u r σ' H' Q
theorem qQ:uE X [] sJ:=by
 intro pins s σ H vs us Q I r h;obtain⟨e,h⟩:=h;subst e;cases r;exact assignInOrder_nil ⟨σ,H,I,h⟩
theorem jx{e:Expr}{es:Ao}(h1:PG X e t)(h2:uE X es u)
  (hs:autoParam ((assignEach (e::es) X.env).map (·.2)=assign e X.env::(assignEach es X.env).map (·.2)) zz0._auto_1):uE X (e::es) (oN t u):=by
 intro a s σ H vs us Q I r h;obtain⟨v,vr,d,h⟩:=h;subst d;cases r with
 |cons r rr=>
  rw[hs];refine assignInOrder_cons (bK (h1 a s σ H _ _ _ I r h) λ_ b ⟨σ1,H1,f,c⟩=>?_);exact h2 a b σ1 H1 _ _ Q f rr c
def rc(K:Ab)(n:Nat)(t:rO):TG:=λv σ H Q=>∃a xs,v=.ref a/\fq K H a xs/\xs.length=n/\t xs σ H Q
theorem sS{es:Ao}{n:Nat}(hc:X.calm=true)(h:uE X es t)
  (hn:autoParam ((assignEach es X.env).length=n) zz0._auto_1) (hst:autoParam ((assignEach es X.env).findIdx? (·.1)=none) zz0._auto_1):PG X (.Tuple es k pos) (rc X.K n t):=by
 intro c s σ H v u Q I r d;obtain⟨a,g,q,l,m,d⟩:=d;subst q;cases r;obtain⟨its,f,j,hz⟩:=I.tuple l;refine assign_Tuple_tuple (I.ok.hd hc) j (by simp[hn,<- m,f.length]) hst λp i=>?_;have w:Inv X c σ H {s with heap:=p }:=I.kept (t':=s.toks) λb o e=>i b o (xj (xu e)) e;exact h c _ σ H g _ Q w (by simpa using f) d
def tK(to ti:TE)(t:s8):TG:=λv σ H Q=>to σ H λo H1=>ti σ H1 λi H2=>t o i v H2 λH3=>Q σ H3
theorem sT{to ti:TE}(ho:PE X o to)(hi:PE X i ti)(hs:uo X t)
  (ha:autoParam (∀v,assign (.Subscript o i pos) X.env v=(do
   let ov <- holding [v] (eval o X.env)
   let iv <- holding [v,ov] (eval i X.env)
   standAt pos
   holding [v,ov,iv] (setItem ov iv v)
   release [v,ov,iv] [])) zz3._auto_1):PG X (.Subscript o i pos) (tK to ti t):=by
 intro a s σ H v u Q I r h;rw[ha];refine q04 (q0Y (bK (ho a s σ H _ I h) λov c ⟨x,H1,m,e,j⟩=>?_));refine q04 (q0Y (bK (hi a c σ H1 _ m j) λiv b ⟨y,H2,l,d,g⟩=>?_));refine q04 (wpAny_standAt (q04 (q0Y (bK (hs a b σ H2 x y v ov iv u _ l e d r g) λ_ s3 ⟨n,k,f⟩=>?_))));exact wpAny_release ⟨σ,n,k,f⟩
def m3(te:TE)(g:TG):TS:=λD σ H=>te σ H λx H1=>g x σ H1 D.nx
theorem sU{tg:Expr}{te:TE}(he:PE X e te)(hg:PG X tg g)(hs:autoParam (swapsWithSole [tg] e pos.line X.env=pure false) zz0._auto_1)(hw:autoParam (swappedStores [tg] e X.env=pure none) zz0._auto_1)
  (h1:autoParam ((assignEach [tg] X.env).map (·.2)=[assign tg X.env]) zz0._auto_1):PS X (.Assign [tg] e pos) (m3 te g):=by
 intro a s σ H D I h;refine wpAny_Assign_stores (bK (he a s σ H _ I h) λv b ⟨x,H1,f,c,d⟩=>?_) hs hw;rw[h1];exact bK (hg a b σ H1 x v _ f c d) λ_ s2 q=>q
theorem aB{i:Nat}{x:Str}{te:TE}{pos':Pos}(hN:X.N.Nodup)(hi:X.N[i]?=some x)(hx:Loc X.env.scope x)(he:PE X e te)(hs:autoParam (swapsWith e (some (.Name x pos')) pos.line X.env=pure false) zz0._auto_1)(hf:autoParam (X.fn x=true\/X.env.scope.names.lookup x=some .local) zz2._auto_1) :
  PS X (.Assign [.Name x pos'] e pos) (m3 te (fB i)):=by
 intro a s σ H D I h;refine wpAny_Assign_Name (bK (he a s σ H _ I h) λv s1 ⟨y,H1,f,b,c⟩=>?_) hs;exact jQ f hN hi hx b (λs2 d=>⟨_,H1,d,c⟩) hf
theorem q01(i:Nat){x:Str}{e:Expr}{te:TE}{pos':Pos}(hN:X.N.Nodup)(he:PE X e te)(hi:autoParam (X.N[i]?=some x) zz0._auto_1)(hx:autoParam (Loc X.env.scope x) zzl._auto_1)(hs:autoParam (swapsWith e (some (.Name x pos')) pos.line X.env=pure false) zz0._auto_1)(hf:autoParam (X.fn x=true\/X.env.scope.names.lookup x=some .local) zz2._auto_1):
  PS X (.Assign [.Name x pos'] e pos) (m3 te (fB i)):=aB hN hi hx he hs hf
end
structure It where
 go:Nat->Hp->Prop
 yld:Nat->Hp->V->Hp->Prop
 stop:Nat->Hp->Prop
def gM(X:Cx)(pins:Ac)(H:Hp)(b:Addr):Prop:=
 H b=none/\b≠X.env.locals/\b∉X.fs/\(b∈X.ex\/X.s₀.heap.objs.size<=b)/\(∀x c,X.env.cells.lookup x=some c->c≠b)/\∀p∈X.pn++pins,p.1≠b
theorem Inv.fpOk{pins:Ac}{σ:St}{H':Hp}{b:Addr}(I:Inv X pins σ H s)(hb:s.heap.objs.size<=b)(hn:H' b=none):gM X pins H' b:=by
 refine⟨hn,Nat.ne_of_gt (xi I.lt hb),I.nofs hb,.inr (xz I.sz hb),λx c e z=>?_,λp a z=>?_⟩
 ·obtain⟨v,q⟩:=I.cell x c e
  exact q0Q (xi q.lt (by rw[z];exact hb)) (xA _)
 ·exact q0Q (xi (xu (I.pin p a).1) (by rw[z];exact hb)) (xA _)
structure pW(P:Aj)(w:Am)(K:Ab)(tg:Expr)(J:It)(fp:Ag)(it:Addr)(tn:Nat->Heap->Prop):Prop where
 mem:it∈fp
 obj:∀i h,tn i h->∀b∈fp,∃o,h.get? b=some o/\∀v,o.data≠.cell v
 keep:∀i h h',tn i h->(∀b∈fp,∀o,h.get? b=some o->h'.get? b=some o)->tn i h'
 item:∀(X:Cx),X.prog=P->X.w=w->X.K=K->X.calm=true->∀(i:Nat) (pins:Ac) (s:Ae) (σ:St) (H:Hp) (E:Aa),Inv X pins σ H s->(∀b∈fp,gM X pins H b)->tn i s.heap->J.go i H ->
  wpAny (model P w) X.A (pyNext (.ref it)) (λr s1=>∃u,r=some u /\
   wpAny (model P w) X.A (letOwnedTupleGo tg (.ref it) u) (λ_ s2=>∃x H',Inv X pins σ H' s2/\aI x u/\J.yld i H x H'/\tn (i+1) s2.heap/\∀b∈fp,H' b=none) E s1) E s
 done:∀(X:Cx),X.prog=P->X.w=w->X.K=K->X.calm=true->∀(i:Nat) (pins:Ac) (s:Ae) (σ:St) (H:Hp) (E:Aa),Inv X pins σ H s->(∀b∈fp,gM X pins H b)->tn i s.heap->J.stop i H ->
  wpAny (model P w) X.A (pyNext (.ref it)) (λr s1=>r=none/\Inv X pins σ H s1) E s
 self:∀(A:Al) (i:Nat) (s:Ae) (Q:Aa) (E:Aa),tn i s.heap->Q (.ref it) s->wpAny (model P w) A (pyIter (.ref it)) Q E s
abbrev TI:=St->Hp->(It->Hp->Prop)->Prop
def wb(X:Cx)(pins:Ac)(σ:St)(tg:Expr)(R:It->Hp->Prop)(itv:Value)(s2:Ae):Prop:=
 ∃(it:Addr) (fp:Ag) (tn:Nat->Heap->Prop) (J:It) (H':Hp),itv=.ref it/\Inv X pins σ H' s2/\pW X.prog X.w X.K tg J fp it tn/\tn 0 s2.heap/\(∀b∈fp,gM X pins H' b)/\R J H'
def PI(X:Cx)(tg iter:Expr)(wi:TI):Prop:=
 ∀(pins:Ac) (s:Ae) (σ:St) (H:Hp) (R:It->Hp->Prop),Inv X pins σ H s->wi σ H R ->
  wpAny (model X.prog X.w) X.A (eval iter X.env) (λv s1=>wpAny (model X.prog X.w) X.A (pyIter v) (wb X pins σ tg R) X.xe s1) X.xe s
theorem pj{s:Ae}{tg:Expr}{it:Addr}{u:Value}{o:Obj}{Q:Unit->Shared->Prop}(ho:s.heap.get? it=some o)(hc:o.cls=.type n)(hd:o.data=.fields vs)
  (hn:["enumerate","zip","dict_itemiterator","dict_reverseitemiterator","odict_iterator","itertools.zip_longest","itertools.pairwise"].contains n=false) (hQ:Q () s):wpAny M A (letOwnedTupleGo tg (.ref it) u) Q E s:=by
 unfold letOwnedTupleGo;cases tg<;>first
  |exact q05 hQ
  | (cases u<;>first
    |exact q05 hQ
    | (refine q04 (wpAny_load ho ?_)
       rw[hc,hd];show wpAny M A (if(["enumerate","zip","dict_itemiterator","dict_reverseitemiterator","odict_iterator","itertools.zip_longest","itertools.pairwise"].contains n&&vs[0]?==some (rawInt _))=true then _ else _) Q E s;rw[q06 (by intro h;rw[hn,Bool.false_and]at h;cases h)];exact q05 hQ))
def qz(K:Ab)(a:Addr):It:=
 ⟨λi H=>∃xs x,aS K H a xs/\xs[i]?=some x,λi H x H'=>H'=H/\∀xs,aS K H a xs->xs[i]?=some x,λi H=>∃xs,aS K H a xs/\xs.length<=i⟩
def nw(lo:Int)(n:Nat):It:=⟨λi _=>i<n,λi H x H'=>H'=H/\x=.int (lo+i),λi _=>n<=i⟩
theorem nO{K:Ab}{tg:Expr}(a it:Addr):pW P w K tg (qz K a) [it] it (λi h=>h.IsListIter it a i) where
 mem:=by simp
 obj:=λi h f b j=>by
  have e:b=it:=by simpa using j
  subst e;obtain⟨o,e,c,d⟩:=f;exact⟨o,e,λv z=>by rw[d]at z;cases z⟩
 keep:=λi h n f k=>f.at λo e=>k it (by simp) o e
 item:=by
  intro X B y C R i g s σ H E I hf f hg;subst B y C;obtain⟨S,x,m,t⟩:=hg;obtain⟨r,q,p,Y⟩:=I.list m;obtain⟨u,hu,U⟩:=q.get t;obtain⟨O,M,f2,L,G,D⟩:=hf it (by simp);refine wpAny_pyNext_list_item f p.isList (x:=u) (by simpa using hu) λn l T=>?_;have I1:Inv X g σ H {s with heap:=n }:=I.turned (t':=s.toks) (λb o j e=>(T.2 b j).trans e) O M L G D;obtain⟨o,e,c,d⟩:=id l;exact⟨u,rfl,pj (s:={s with heap:=n }) e c d nofun ⟨x,H,I1,U,⟨rfl,λys Z=>by rw[I.list_inj Z m];exact t⟩,l,λb j=>(hf b j).1⟩⟩
 done:=by
  intro X B y C R i g s σ H E I hf f hg;subst B y C;obtain⟨S,m,t⟩:=hg;obtain⟨r,q,p,Y⟩:=I.list m;obtain⟨O,M,f2,L,G,D⟩:=hf it (by simp);have hl:=q.length;exact wpAny_pyNext_list_end (I.ok.hd R) f p.isList (by simp;omega) λn eb=>⟨rfl,I.turned (t':=s.toks) (λb o j e=>eb b o j e) O M L G D⟩
 self:=λ_ _ _ _ _ f h=>wpAny_pyIter_listiter f h
theorem k_{K:Ab}{tg:Expr}(it:Addr)(lo:Int)(n:Nat):pW P w K tg (nw lo n) [it] it (λi h=>IsRangeIter h it (lo+(i:Nat)*1) ((n:Int)-(i:Nat)) 1) where
 mem:=by simp
 obj:=λi h a b d=>by
  have e:b=it:=by simpa using d
  subst e;exact⟨_,a,λv z=>by
   have C:Data.fields _=Data.cell v:=z;cases C⟩
 keep:=λi h g a k=>k it (by simp) _ a
 item:=by
  intro X m j p l i c s σ H E I hf a hg;subst m j p;obtain⟨y,x,L,u,r,q⟩:=hf it (by simp);have W:=Walks.range (prog:=X.prog) (w:=X.w) (I.ok.hd l) it lo 1 n;refine W.item i s _ _ hg a λv g B G f D=>?_;obtain⟨t,rfl⟩:=G;have O:Inv X c σ H {s with heap:=g,toks:=B}:=I.turned (λb o d e=>D b o (by simpa using d) e) y x u r q;refine⟨_,rfl,pj (s:={s with heap:=g,toks:=B}) (n:="range_iterator") f rfl rfl nofun ⟨.int (lo+i),H,O,⟨t,?_⟩,⟨rfl,rfl⟩,f,λb d=>(hf b d).1⟩⟩;rw[Int.mul_one]
 done:=by
  intro X m j p l i c s σ H E I hf a hg;subst m j p;obtain⟨y,x,L,u,r,q⟩:=hf it (by simp);exact wpAny_pyNext_range_end (I.ok.hd l) a (by have:n<=i:=hg;omega) λg M=>⟨rfl,I.turned (t':=s.toks) (λb o d e=>M b o d e) y x u r q⟩
 self:=λ_ _ _ _ _ a h=>wpAny_pyIter_rangeiter a h
section
variable {X:Cx}{tg:Expr}
def qa(K:Ab)(tl:TE):TI:=λσ H R=>tl σ H λx H1=>∃a,x=.ref a/\(∃xs,aS K H1 a xs)/\R (qz K a) H1
theorem qS{tl:TE}(hl:PE X l tl):PI X tg l (qa X.K tl):=by
 intro c s σ H R I h;refine bK (hl c s σ H _ I h) λv d ⟨x,H1,f,g,i⟩=>?_;obtain⟨a,e,⟨xs,j⟩,q⟩:=i;subst e;cases g;obtain⟨its,rv,p,hz⟩:=f.list j;refine wpAny_pyIter_list p.isList ?_;refine⟨d.heap.objs.size,[d.heap.objs.size],_,_,H1,rfl,f.kept (t':=d.toks) λb o e=>wS _ e,nO a _,⟨_,wY _ rfl,rfl,rfl⟩,λb k=>?_,q⟩;have e:b=d.heap.objs.size:=by simpa using k
 subst e;exact f.fpOk (xp _) (f.hok.fresh (xp _))
theorem jW{pins:Ac}{σ:St}{s:Ae}{R:It->Hp->Prop}{E:Aa}{lo hi:Int}{t u v:Tok}{tk:Nat}(I:Inv X pins σ H s)(h1:-(2 ^ 62)<=lo)(h2:lo<2 ^ 62)(h3:-(2 ^ 62)<=hi)(h4:hi<2 ^ 62)
  (q:R (nw lo (hi-lo).toNat) H):wpAny (model X.prog X.w) X.A (pyIter (.ref s.heap.objs.size)) (wb X pins σ tg R) E {s with heap:=s.heap.push {cls:=.type "range",data:=.fields #[.int lo t,.int hi u,.int 1 v]},toks:=tk}:=by
 refine wpAny_pyIter_range (IsRange.new ..) (small_one h1 h2 h3 h4) ?_;have a:Inv X pins σ H {s with heap:=s.heap.push {cls:=.type "range",data:=.fields #[.int lo t,.int hi u,.int 1 v]},toks:=tk}:=I.kept λb o e=>wS _ e;refine⟨(s.heap.push {cls:=.type "range",data:=.fields #[.int lo t,.int hi u,.int 1 v]}).objs.size,[(s.heap.push {cls:=.type "range",data:=.fields #[.int lo t,.int hi u,.int 1 v]}).objs.size],_,_,H,rfl,
  a.kept (t':=tk) λb o e=>wS _ e,k_ _ lo (hi-lo).toNat,?_,λb c=>?_,q⟩
 ·have f:lo+((0:Nat):Int)*1=lo:=by simp
  have d:(((hi-lo).toNat:Nat):Int)-((0:Nat):Int)=Builtin.Range.rangeSize lo hi 1:=by rw[rangeSize_one];split<;>omega
  show IsRangeIter _ _ (lo+((0:Nat):Int)*1) ((((hi-lo).toNat:Nat):Int)-((0:Nat):Int)) 1;rw[f,d];exact wY _ rfl
 ·have e:b=(s.heap.push {cls:=.type "range",data:=.fields #[.int lo t,.int hi u,.int 1 v]}).objs.size:=by simpa using c
  subst e;exact a.fpOk (xp _) (a.hok.fresh (xp _))
def jE(ta:TA):TI:=λσ H R=>ta σ H λvs H1=>∃j:Int,vs=[.int j]/\-(2 ^ 62)<=j/\j<2 ^ 62/\R (nw 0 j.toNat) H1
def o_(ta:TA):TI:=λσ H R=>ta σ H λvs H1=>∃i j:Int,vs=[.int i,.int j]/\(-(2 ^ 62)<=i/\i<2 ^ 62/\-(2 ^ 62)<=j/\j<2 ^ 62)/\R (nw i (j-i).toNat) H1
theorem h_{a:Expr}{ta:TA}{p pos:Pos}(hg:Gl X "range")(hm:X.mg "range"=none)(ha:PA X [a] ta)(hs:autoParam (starEach [a] X.env=[(false,eval a X.env)]) zz0._auto_1):PI X tg (.Call (.Name "range" p) [a] [] pos) (jE ta):=by
 intro b s σ H R I h;refine Call_ (cJ I hg hm boot_range (PyProof.Rows.callWith_type1 (bK (ha pos b s σ H _ I h) λus s1 ⟨vs,H1,g,d,c⟩=>?_) hs rfl));obtain⟨j,e,c,f,q⟩:=c;subst e;cases d with
 |cons r rr=>
  cases rr;obtain⟨t,rfl⟩:=r;exact call_range_1 (jW g ⋯ ⋯ c f (by simpa using q))
theorem dz{a b:Expr}{ta:TA}{p pos:Pos}(hg:Gl X "range")(hm:X.mg "range"=none)(ha:PA X [a,b] ta)(hs:autoParam (starEach [a,b] X.env=[(false,eval a X.env),(false,eval b X.env)]) zz0._auto_1)(hs2:autoParam (starEach [b] X.env=[(false,eval b X.env)]) zz0._auto_1) :
  PI X tg (.Call (.Name "range" p) [a,b] [] pos) (o_ ta):=by
 intro c s σ H R I h;refine Call_ (cJ I hg hm boot_range (PyProof.Rows.callWith_type1 (bK (ha pos c s σ H _ I h) λus s1 ⟨vs,H1,m,f,d⟩=>?_) (by rw[hs,hs2]) (by rw[hs2];rfl)));obtain⟨i,j,e,⟨d,l,k,g⟩,q⟩:=d;subst e;cases f with
 |cons r rr=>
  cases rr with
  |cons r' rr=>
   cases rr;obtain⟨t,rfl⟩:=r;obtain⟨t',rfl⟩:=r';exact call_range_2 (jW m d l k g q)
def vQ(wi:TI)(g:TG)(tb:TS):TS:=λD σ H=>wi σ H λJ H1=>∃W:Nat->Nat->St->Hp->Prop,(∃m,W 0 m σ H1)/\∀i m σ H,W i m σ H ->
 (J.stop i H/\D.nx σ H)\/(J.go i H/\∃N:St->Hp->Prop,(∀σ' H',N σ' H'->∃m',m'<m/\W (i+1) m' σ' H')/\∀x H',J.yld i H x H'->g x σ H' λσ2 H2=>tb {D with nx:=N,ct:=N,bk:=D.nx} σ2 H2)
def gq(fp:Ag)(h:Heap):List (Addr×Obj):=fp.filterMap λb=>(h.get? b).map λo=>(b,o)
theorem c9{fp:Ag}{h:Heap}{b:Addr}{o:Obj}(hb:b∈fp)(e:h.get? b=some o):(b,o)∈gq fp h:=List.mem_filterMap.mpr ⟨b,hb,by rw[e];rfl⟩
theorem mZ{fp:Ag}{p:Addr×Obj}(hp:p∈gq fp h):p.1∈fp/\h.get? p.1=some p.2:=by
 obtain⟨b,a,e⟩:=List.mem_filterMap.mp hp;cases q:h.get? b with
 |none=>rw[q]at e;cases e
 |some o=>
  rw[q]at e;have c:(b,o)=p:=q0S e;subst c;exact⟨a,q⟩
theorem Inv.pinned{pins:Ac}{σ:St}{fp:Ag}(I:Inv X pins σ H s)(hf:∀b∈fp,gM X pins H b)(ho:∀b∈fp,∃o,s.heap.get? b=some o/\∀v,o.data≠.cell v):Inv X (pins++gq fp s.heap) σ H s:=
 I.pins_of λp hp=>(xb.mp hp).elim (λz=>I.pin p (q0C _ z)) λz=>by
  obtain⟨hb,e⟩:=mZ z;obtain⟨f0,f1,f2,_⟩:=hf p.1 hb;obtain⟨o,e',d⟩:=ho p.1 hb;rw[e]at e';cases e'
  exact⟨e,f0,f1,f2,d⟩
theorem Inv.unpinned{pins pl:Ac}{σ:St}(I:Inv X (pins++pl) σ H s):Inv X pins σ H s:=I.pins_of λp hp=>I.pin p (q0C _ (q0D _ hp))
theorem tz{iter:Expr}{body:List Stmt}{wi:TI}{pos:Pos}(hp:PassesOwn (model X.prog X.w) X.A X.env X.xe)(hc:X.calm=true)(hi:PI X tg iter wi)(hg:PG X tg g)(hb:lI X body tb)
  (hs:autoParam (∀x,foldedSetIterable iter X.env x=pure x) zz3._auto_1):PS X (.For tg iter body [] pos) (vQ wi g tb):=by
 intro a s σ H D I h;refine wpAny_For (bK (hi a s σ H _ I h) λv s1 h1=>bK h1 λitv s2 h2=>?_) hs;obtain⟨it,C,S,J,H2,e,I2,T,L,f2,W,⟨m0,w0⟩,t⟩:=h2;subst e
 -- what stays true of the iterator's objects through the loop
 have c:∀{H':Hp},(∀b∈C,H' b=none)->∀b∈C,gM X a H' b:=λhn b hb=>⟨hn b hb,(f2 b hb).2⟩;refine codeAny_forLoop_any (λn Z=>∃i σ' H',Inv X a σ' H' Z/\S i Z.heap/\(∀b∈C,H' b=none)/\W i n σ' H') ?_ m0 ⟨0,σ,H2,I2,L,λb hb=>(f2 b hb).1,w0⟩;rintro n Y ⟨i,σ3,G,I3,y,B,w3⟩;rcases t i n σ3 G w3 with⟨w,qn⟩ | ⟨go,N,hN,step⟩
 ·refine wpAny_passesOwn hp (bK (T.done X rfl rfl rfl hc i a Y σ3 G X.xe I3 (c B) y w) λr s4 ⟨hr,I4⟩=>?_)
  subst hr;exact wpAny_execs_nil ⟨σ3,G,I4,qn⟩
 ·refine wpAny_passesOwn hp (bK (T.item X rfl rfl rfl hc i a Y σ3 G X.xe I3 (c B) y go) λr s4 ⟨u,hr,h4⟩=>?_)
  subst hr;refine wpAny_passesOwn hp (bK h4 λ_ U ⟨x,H5,I5,r5,y5,q,O⟩=>?_);have R:=I5.pinned (c O) (T.obj _ _ q);refine wpAny_passesOwn hp (bK (hg _ U σ3 H5 x u _ R r5 (step x H5 y5)) λ_ s6 ⟨σ6,H6,I6,q6⟩=>?_);refine wpAny_passesOwn hp (bK (hb _ s6 σ6 H6 _ I6 q6) λf M p=>?_);have j:∀{σ7:St} {l:Hp},Inv X (a++gq C U.heap) σ7 l M->N σ7 l->∃m,m<n/\∃i σ' H',Inv X a σ' H' M/\S i M.heap/\(∀b∈C,H' b=none)/\W i m σ' H':=fun{σ7 l} k z=>by
   obtain⟨m',hm,w7⟩:=hN σ7 l z;refine⟨m',hm,i+1,σ7,l,k.unpinned,T.keep _ _ _ q λb hb o e=>(k.pin (b,o) (q0C _ (q0C _ (c9 hb e)))).1,λb hb=>?_,w7⟩;obtain⟨o,e,d⟩:=T.obj _ _ q b hb;exact(k.pin (b,o) (q0C _ (q0C _ (c9 hb e)))).2.1
  cases f with
  |next=>obtain⟨σ7,l,k,z⟩:=p;exact j k z
  |cont=>obtain⟨σ7,l,k,z⟩:=p;exact j k z
  |brk=>obtain⟨σ7,l,k,p⟩:=p;exact⟨σ7,l,k.unpinned,p⟩
  |ret v=>obtain⟨x7,σ7,l,k,r7,p⟩:=p;exact⟨x7,σ7,l,k.unpinned,r7,p⟩
end
theorem pN{K:Ab}{xs:List V}{g:TG}{tb:TS}{D:cT}{σ:St}{H:Hp}(Pv:Nat->St->Hp->Prop)(h0:Pv 0 σ H)(hl:∀i σ H,i<=xs.length->Pv i σ H->aS K H a xs)
  (hs:∀i x σ H,xs[i]?=some x->Pv i σ H->g x σ H λσ2 H2=>tb {D with nx:=Pv (i+1),ct:=Pv (i+1),bk:=D.nx} σ2 H2) (hd:∀σ H,Pv xs.length σ H->D.nx σ H) :
  ∃W:Nat->Nat->St->Hp->Prop,(∃m,W 0 m σ H)/\∀i m σ H,W i m σ H ->
   ((qz K a).stop i H/\D.nx σ H)\/((qz K a).go i H/\∃N:St->Hp->Prop,(∀σ' H',N σ' H'->∃m',m'<m/\W (i+1) m' σ' H')/\∀x H',(qz K a).yld i H x H'->g x σ H' λσ2 H2=>tb {D with nx:=N,ct:=N,bk:=D.nx} σ2 H2):=by
 refine⟨λi m σ H=>m=xs.length-i/\i<=xs.length/\Pv i σ H,⟨xs.length,by simp,xq _,h0⟩,?_⟩;rintro i m σ H ⟨rfl,c,p⟩;have q:=hl i σ H c p
 by_cases b:i<xs.length
 ·refine .inr ⟨⟨xs,xs[i],q,by simp[b]⟩,Pv (i+1),λσ' H' p'=>⟨xs.length-(i+1),⋯,rfl,b,p'⟩,λx H' y=>?_⟩
  obtain⟨e,y⟩:=y;subst e;exact hs i x σ _ (y xs q) p
 ·have e:i=xs.length:=by omega
  subst e;exact .inl ⟨⟨xs,q,xp _⟩,hd σ H p⟩
theorem nI{lo:Int}{n:Nat}{g:TG}{tb:TS}{D:cT}{σ:St}{H:Hp}(Pv:Nat->St->Hp->Prop)(h0:Pv 0 σ H)
  (hs:∀i σ H,i<n->Pv i σ H->g (.int (lo+i)) σ H λσ2 H2=>tb {D with nx:=Pv (i+1),ct:=Pv (i+1),bk:=D.nx} σ2 H2) (hd:∀σ H,Pv n σ H->D.nx σ H) :
  ∃W:Nat->Nat->St->Hp->Prop,(∃m,W 0 m σ H)/\∀i m σ H,W i m σ H ->
   ((nw lo n).stop i H/\D.nx σ H)\/((nw lo n).go i H/\∃N:St->Hp->Prop,(∀σ' H',N σ' H'->∃m',m'<m/\W (i+1) m' σ' H')/\∀x H',(nw lo n).yld i H x H'->g x σ H' λσ2 H2=>tb {D with nx:=N,ct:=N,bk:=D.nx} σ2 H2):=by
 refine⟨λi m σ H=>m=n-i/\i<=n/\Pv i σ H,⟨n,by simp,xq _,h0⟩,?_⟩;rintro i m σ H ⟨rfl,hi,p⟩
 by_cases a:i<n
 ·refine .inr ⟨a,Pv (i+1),λσ' H' p'=>⟨n-(i+1),⋯,rfl,a,p'⟩,λx H' y=>?_⟩
  obtain⟨e,y⟩:=y;subst e y;exact hs i σ _ a p
 ·have e:i=n:=by omega
  subst e;exact .inl ⟨xp _,hd σ H p⟩
abbrev R2:=V->V->Hp->VK->Prop
def bn(X:Cx)(f:Value->Value->Sem Value)(r:R2):Prop:=
 ∀(pins:Ac) (s:Ae) (σ:St) (H:Hp) (x y:V) (v u:Value) (Q:VK),Inv X pins σ H s->aI x v->aI y u->r x y H Q ->
  wpAny (model X.prog X.w) X.A (f v u) (EP X pins σ Q) X.xe s
def vM(X:Cx)(f:Value->Sem Value)(r:V->Hp->VK->Prop):Prop:=
 ∀(pins:Ac) (s:Ae) (σ:St) (H:Hp) (x:V) (v:Value) (Q:VK),Inv X pins σ H s->aI x v->r x H Q ->
  wpAny (model X.prog X.w) X.A (f v) (EP X pins σ Q) X.xe s
def bV(X:Cx)(f:Value)(r:List V->Hp->VK->Prop):Prop:=
 ∀(pins:Ac) (s:Ae) (σ:St) (H:Hp) (xs:List V) (us:Af) (Q:VK),Inv X pins σ H s->aD xs us->r xs H Q ->
  wpAny (model X.prog X.w) X.A (call f us) (EP X pins σ Q) X.xe s
def sF(r:R2)(ta tb:TE):TE:=λσ H Q=>ta σ H λx H1=>tb σ H1 λy H2=>r x y H2 Q
def vJ(r:V->Hp->VK->Prop)(ta:TE):TE:=λσ H Q=>ta σ H λx H1=>r x H1 Q
def rI(C:Int->Int->Prop)(g:Int->Int->V):R2:=λx y H Q=>∃i j,x=.int i/\y=.int j/\C i j/\Q (g i j) H
def pA(g:Int->Int->V):R2:=λx y H Q=>∃i j,x=.int i/\y=.int j/\Q (g i j) H
def rU(g:Int->V):V->Hp->VK->Prop:=λx H Q=>∃i,x=.int i/\Q (g i) H
section
variable {X:Cx}{a b c:Expr}{ta tb tc:TE}{pos:Pos}
theorem tV(ha:PE X a ta)(hb:PE X b tb){pins:Ac}{s:Ae}{σ:St}{H:Hp}{R:V->V->Hp->Prop}(I:Inv X pins σ H s)
  (h:ta σ H λx H1=>tb σ H1 λy H2=>R x y H2) {Q:Aa} {f:Value->Value->Sem Value}
  (hf:∀v u s2 x y H2,Inv X pins σ H2 s2->aI x v->aI y u->R x y H2->wpAny (model X.prog X.w) X.A (f v u) Q X.xe s2) :
  wpAny (model X.prog X.w) X.A (eval a X.env) (λv s₁=>wpAny (model X.prog X.w) X.A (eval b X.env) (λu s₂=>wpAny (model X.prog X.w) X.A (f v u) Q X.xe s₂) X.xe s₁) X.xe s:=by
 refine bK (ha pins s σ H _ I h) λv c ⟨x,H1,k,e,i⟩=>?_;refine bK (hb pins c σ H1 _ k i) λu s2 ⟨y,H2,j,d,g⟩=>?_;exact hf v u s2 x y H2 j e d g
theorem au{op:Operator}{r:R2}(ho:bn X (binaryOp op) r)(ha:PE X a ta)(hb:PE X b tb):PE X (.BinOp a op b pos) (sF r ta tb):=by
 intro c s σ H Q I h;exact wpAny_BinOp (tV ha hb I h λv u d x y H2 g f e q=>ho c d σ H2 x y v u Q g f e q)
theorem r8{op:UnaryOp}{r:V->Hp->VK->Prop}(ho:vM X (unaryOp op) r)(ha:PE X a ta):PE X (.UnaryOp op a pos) (vJ r ta):=by
 intro b s σ H Q I h;exact UnaryOp_ (bK (ha b s σ H _ I h) λv c ⟨x,H1,f,d,e⟩=>ho b c σ H1 x v Q f d e)
theorem u6{f:Value->Value->Sem Value}{C:Int->Int->Prop}{g:Int->Int->Int}
  (rule:∀(i j:Int) (t u:Tok) (s:Ae) (Q:Aa) (E:Aa),C i j->Q (.int (g i j) s.toks) {s with toks:=s.toks+1}->wpAny (model X.prog X.w) X.A (f (.int i t) (.int j u)) Q E s) :
  bn X f (rI C λi j=>.int (g i j)):=by
 intro pins s σ H x y v u Q I rx ry h;obtain⟨i,j,rfl,rfl,b,q⟩:=h;obtain⟨t,rfl⟩:=rx;obtain⟨a,rfl⟩:=ry;exact rule i j t a s _ _ b ⟨.int (g i j),H,I.tok _,⟨_,rfl⟩,q⟩
theorem uC{f:Value->Value->Sem Value}{g:Int->Int->Int}
  (rule:∀(i j:Int) (t u:Tok) (s:Ae) (Q:Aa) (E:Aa),Q (.int (g i j) s.toks) {s with toks:=s.toks+1}->wpAny (model X.prog X.w) X.A (f (.int i t) (.int j u)) Q E s) :
  bn X f (pA λi j=>.int (g i j)):=by
 intro pins s σ H x y v u Q I rx ry h;obtain⟨i,j,rfl,rfl,q⟩:=h;obtain⟨t,rfl⟩:=rx;obtain⟨a,rfl⟩:=ry;exact rule i j t a s _ _ ⟨.int (g i j),H,I.tok _,⟨_,rfl⟩,q⟩
theorem uD{f:Value->Value->Sem Value}{g:Int->Int->Bool}
  (rule:∀(i j:Int) (t u:Tok) (s:Ae) (Q:Aa) (E:Aa),Q (.bool (g i j)) s->wpAny (model X.prog X.w) X.A (f (.int i t) (.int j u)) Q E s) :
  bn X f (pA λi j=>.bl (g i j)):=by
 intro pins s σ H x y v u Q I rx ry h;obtain⟨i,j,rfl,rfl,q⟩:=h;obtain⟨t,rfl⟩:=rx;obtain⟨a,rfl⟩:=ry;exact rule i j t a s _ _ ⟨.bl (g i j),H,I,rfl,q⟩
def qc(i j:Int):Prop:=(-(2 ^ 64)<i/\i<2 ^ 64)\/(-(2 ^ 64)<j/\j<2 ^ 64)
theorem qc.ok(h:qc i j):IntMulOk i j:=by
 rcases h with⟨h1,h2⟩ | ⟨h1,h2⟩
 ·exact .of_left (intBits_le_64 h1 h2)
 ·exact .of_right (intBits_le_64 h1 h2)
theorem bj:bn X (binaryOp .Add) (pA λi j=>.int (i+j)):=uC λ_ _ _ _ _ _ _ q=>add_int q
theorem qx:bn X (binaryOp .Sub) (pA λi j=>.int (i-j)):=uC λ_ _ _ _ _ _ _ q=>sub_int q
theorem dy:bn X (binaryOp .Mult) (rI qc λi j=>.int (i*j)):=u6 λ_ _ _ _ _ _ _ hc q=>mul_int q hc.ok
theorem bx:bn X (binaryOp .Mod) (rI (λ_ j=>0<j) λi j=>.int (i%j)):=u6 λi j _ _ _ _ _ hc q=>by
 have h1:(0:Int)<j:=hc;exact mod_int' ⋯ (by rw[Int.fmod_eq_emod_of_nonneg i ⋯];exact q)
theorem wm{f:Value->Sem Value}{g:Int->Int}
  (rule:∀(i:Int) (t:Tok) (s:Ae) (Q:Aa) (E:Aa),Q (.int (g i) s.toks) {s with toks:=s.toks+1}->wpAny (model X.prog X.w) X.A (f (.int i t)) Q E s) :
  vM X f (rU λi=>.int (g i)):=by
 intro pins s σ H x v Q I rx h;obtain⟨i,rfl,q⟩:=h;obtain⟨t,rfl⟩:=rx;exact rule i t s _ _ ⟨.int (g i),H,I.tok _,⟨_,rfl⟩,q⟩
theorem pS:vM X (unaryOp .USub) (rU λi=>.int (-i)):=wm λ_ _ _ _ _ q=>neg_int q
end
def rH:V->V->Bool
 | .non,.non=>true | .non,.int _=>true | .int _,.non=>true | .non,.bl _=>true | .bl _,.non=>true | .non,.str _=>true | .str _,.non=>true
 | .int _,.int _=>true | .bl _,.bl _=>true | .str _,.str _=>true | .byt _,.byt _=>true
 | .int _,.str _=>true | .str _,.int _=>true | .bl _,.str _=>true | .str _,.bl _=>true
 |_,_=>false
def vB:R2:=λx y H Q=>rH x y=true/\Q (.bl (decide (x=y))) H
def vk:R2:=λx y H Q=>rH x y=true/\Q (.bl (!decide (x=y))) H
theorem mB{i j:Int}:decide (V.int i=V.int j)=(i==j):=by
 rw[Bool.eq_iff_iff];simp
theorem pq:decide (V.bl i=V.bl j)=(i==j):=by
 rw[Bool.eq_iff_iff];simp
theorem lK:decide (V.str i=V.str j)=(i==j):=by
 rw[Bool.eq_iff_iff];simp
theorem lH:decide (V.byt i=V.byt j)=(i.toList==j.toList):=by
 rw[Bool.eq_iff_iff];cases i;cases j;simp
section
variable {X:Cx}{a b c:Expr}{ta tb tc:TE}{pos:Pos}
theorem aN{pins:Ac}{σ:St}{Q:VK}{k':Bool}(I:Inv X pins σ H s)(q:Q (.bl k) H)(e:k=k'):EP X pins σ Q (.bool k') s:=by
 subst e;exact⟨.bl k,H,I,rfl,q⟩
theorem rT:bn X (compareOp .Eq) vB:=by
 intro pins s σ H x y v u Q I rx ry h;obtain⟨b,q⟩:=h;cases x with
 |non=>
  cases rx;cases y with
  |non=>cases ry;exact PySem.EqNone.eq_none_none (aN I q (by simp))
  |bl j=>cases ry;exact PySem.EqNone.eq_none_bool (aN I q (by simp))
  |int j=>obtain⟨a,rfl⟩:=ry;exact PySem.EqNone.eq_none_int (aN I q (by simp))
  |str j=>obtain⟨a,rfl⟩:=ry;exact PySem.EqNone.eq_none_str (aN I q (by simp))
  |_=>exact q0Q (show false=true from b) xt
 |bl i=>
  cases rx;cases y with
  |non=>cases ry;exact PySem.EqNone.eq_bool_none (aN I q (by simp))
  |bl j=>cases ry;exact eq_bool (aN I q pq)
  |str j=>obtain⟨a,rfl⟩:=ry;exact PySem.EqMixed.eq_bool_str (aN I q (by simp))
  |_=>exact q0Q (show false=true from b) xt
 |int i=>
  obtain⟨t,rfl⟩:=rx;cases y with
  |non=>cases ry;exact PySem.EqNone.eq_int_none (aN I q (by simp))
  |int j=>obtain⟨a,rfl⟩:=ry;exact eq_int (aN I q mB)
  |str j=>obtain⟨a,rfl⟩:=ry;exact PySem.EqMixed.eq_int_str (aN I q (by simp))
  |_=>exact q0Q (show false=true from b) xt
 |str i=>
  obtain⟨t,rfl⟩:=rx;cases y with
  |non=>cases ry;exact PySem.EqNone.eq_str_none (aN I q (by simp))
  |bl j=>cases ry;exact PySem.EqMixed.eq_str_bool (aN I q (by simp))
  |int j=>obtain⟨a,rfl⟩:=ry;exact PySem.EqMixed.eq_str_int (aN I q (by simp))
  |str j=>obtain⟨a,rfl⟩:=ry;exact eq_str (aN I q lK)
  |_=>exact q0Q (show false=true from b) xt
 |byt i=>
  obtain⟨t,rfl⟩:=rx;cases y with
  |byt j=>obtain⟨a,rfl⟩:=ry;exact PySem.W.eq_bytes (aN I q lH)
  |_=>exact q0Q (show false=true from b) xt
 |_=>cases y<;>exact q0Q (show false=true from b) xt
theorem ua:bn X (compareOp .NotEq) vk:=by
 intro pins s σ H x y v u Q I rx ry h;obtain⟨b,q⟩:=h;cases x with
 |non=>
  cases rx;cases y with
  |non=>cases ry;exact PySem.EqNone.ne_none_none (aN I q (by simp))
  |bl j=>cases ry;exact PySem.EqNone.ne_none_bool (aN I q (by simp))
  |int j=>obtain⟨a,rfl⟩:=ry;exact PySem.EqNone.ne_none_int (aN I q (by simp))
  |str j=>obtain⟨a,rfl⟩:=ry;exact PySem.EqNone.ne_none_str (aN I q (by simp))
  |_=>exact q0Q (show false=true from b) xt
 |bl i=>
  cases rx;cases y with
  |non=>cases ry;exact PySem.EqNone.ne_bool_none (aN I q (by simp))
  |bl j=>cases ry;exact ne_bool (aN I q (q0R not pq))
  |str j=>obtain⟨a,rfl⟩:=ry;exact PySem.EqMixed.ne_bool_str (aN I q (by simp))
  |_=>exact q0Q (show false=true from b) xt
 |int i=>
  obtain⟨t,rfl⟩:=rx;cases y with
  |non=>cases ry;exact PySem.EqNone.ne_int_none (aN I q (by simp))
  |int j=>obtain⟨a,rfl⟩:=ry;exact ne_int (aN I q (q0R not mB))
  |str j=>obtain⟨a,rfl⟩:=ry;exact PySem.EqMixed.ne_int_str (aN I q (by simp))
  |_=>exact q0Q (show false=true from b) xt
 |str i=>
  obtain⟨t,rfl⟩:=rx;cases y with
  |non=>cases ry;exact PySem.EqNone.ne_str_none (aN I q (by simp))
  |bl j=>cases ry;exact PySem.EqMixed.ne_str_bool (aN I q (by simp))
  |int j=>obtain⟨a,rfl⟩:=ry;exact PySem.EqMixed.ne_str_int (aN I q (by simp))
  |str j=>obtain⟨a,rfl⟩:=ry;exact ne_str (aN I q (q0R not lK))
  |_=>exact q0Q (show false=true from b) xt
 |byt i=>
  obtain⟨t,rfl⟩:=rx;cases y with
  |byt j=>obtain⟨a,rfl⟩:=ry;exact PySem.W.ne_bytes (aN I q (q0R not lH))
  |_=>exact q0Q (show false=true from b) xt
 |_=>cases y<;>exact q0Q (show false=true from b) xt
theorem si:bn X (compareOp .Gt) (pA λi j=>.bl (decide (j<i))):=uD λ_ _ _ _ _ _ _ q=>gt_int q
theorem uH:bn X (compareOp .GtE) (pA λi j=>.bl (decide (j<=i))):=uD λ_ _ _ _ _ _ _ q=>ge_int q
theorem c4(b:Expr){op:CmpOp}(h:autoParam (op≠.In) zz1._auto_1)(h2:autoParam (op≠.NotIn) zz1._auto_1):behindInMarks op b=false:=by
 have c:(op==CmpOp.In)=false:=by cases op<;>first | rfl | exact q0Q rfl h
 have a:(op==CmpOp.NotIn)=false:=by cases op<;>first | rfl | exact q0Q rfl h2
 cases b<;>simp[behindInMarks,c,a]
theorem lZ{op:CmpOp}{r:R2}(ho:bn X (compareOp op) r)(ha:PE X a ta)(hb:PE X b tb)(hm:behindInMarks op b=false):PE X (.Compare a [op] [b] pos) (sF r ta tb):=by
 intro c s σ H Q I h;exact wpAny_Compare1 (tV ha hb I h λv u d x y H2 g f e q=>ho c d σ H2 x y v u Q g f e q) hm
def jM(t:TE):TT:=λσ H Q=>t σ H λx H'=>∃k,x=.bl k/\Q k H'
theorem lJ{op:CmpOp}{r:R2}(ho:bn X (compareOp op) r)(ha:PE X a ta)(hb:PE X b tb)(hm:behindInMarks op b=false):PT X (.Compare a [op] [b] pos) (jM (sF r ta tb)):=by
 intro d s σ H Q I h;refine wpAny_isTrue_Compare1 (bK (ha d s σ H _ I h) λv g ⟨x,H1,t,l,o⟩=>bK (hb d g σ H1 _ t o) λu f ⟨y,H2,q,j,n⟩=>
  bK (ho d f σ H2 x y v u _ q l j n) λc s3 ⟨z,w,p,i,k,e,m⟩=>?_) hm
 subst e;cases i;exact wpAny_truthy_bool ⟨w,p,m⟩
theorem eI:(sizeLine:Nat)<2 ^ 63:=by rw[q0W];decide
theorem dU:bn X (binaryOp .Add) (λx y H Q=>∃i j,x=.str i/\y=.str j/\i.length+j.length<=sizeLine/\Q (.str (i++j)) H):=by
 intro pins s σ H x y v u Q I rx ry h;obtain⟨i,j,rfl,rfl,b,q⟩:=h;obtain⟨t,rfl⟩:=rx;obtain⟨a,rfl⟩:=ry;exact add_str (λa tk=>⟨.str (i++j),H,I.tok _,⟨_,rfl⟩,q⟩) b
theorem g_{x:V}{us:Af}(r:aD [x] us):∃u,us=[u]/\aI x u:=by
 cases r with
 |cons r1 r2=>cases r2;exact⟨_,rfl,r1⟩
end
structure tw(h:Heap)(x dx C:Addr)(mA:Ah):Prop where
 obj:h.get? x=some (PySem.W.instObj C dx)
 ns:h.Ns1 dx mA
 ne:dx≠x
set_option tactic.hygienic true in
theorem nN{h:Heap}{mA:Ah}(n:h.Ns1 dx mA):∃od,h.get? dx=some od/\∀name,PySem.W.lookIn name od=some (mA name):=by
 obtain⟨o,es,ep,ho,hd,hk,_,hm⟩:=n;refine⟨o,ho,λname=>?_⟩;have e:=hm name;unfold nsFind findBy at e;rw[<- Array.find?_toList]at e;unfold PySem.W.lookIn;rw[hd];dsimp only
 split
 ·rename_i y q
  rw[q]at e;exact q0R some e
 ·rename_i q
  rw[q]at e;have a:es.toList.any (·.refKey)=false:=by
   rw[List.any_eq_false];intro y hy;obtain⟨z,t,hkey⟩:=hk y (Array.mem_toList_iff.mp hy);simp[DictEntry.refKey,hkey]
  have a':¬ es.toList.any (·.refKey)=true:=by rw[a];exact xt
  rw[q06 a'];exact q0R some e
theorem tw.look{mA:Ah}(I:tw h x dx C mA):∃od,PySem.W.InstAt h x (PySem.W.instObj C dx) C (some od)/\∀name,PySem.W.lookIn name od=some (mA name):=
 let ⟨od,ho,hl⟩:=nN I.ns
 ⟨od,⟨I.obj,rfl,rfl,ho⟩,hl⟩
section
variable {P:Aj}{w:Am}{H H':Hp}{h h':Heap}{a C dx:Addr}{fs fs':List (Str×V)}
theorem rp(hok:dN P w H h)(e:H a=some (.ins C dx fs)):∃mA,tw h a dx C mA/\(∀f,mO (fs.lookup f) (mA f))/\PySem.Within mA (fs.map (·.1))/\fs.length<=1000/\H dx=some (.own a):=by
 obtain⟨d,z,c,b,mA,n,r,q⟩:=(show ba P w H h a (.ins C dx fs) from hok a _ e);exact⟨mA,⟨b,n,c⟩,r,q,z,d⟩
end
structure uw(K:Ab)(C:Addr):Prop where
 pg:PySem.W.plainGet K C Str.empty=true
 hd:PySem.W.hasDictIn K C=true
 po:PySem.W.plainOver K C=true
 sa:PySem.W.findIn K (.ref C) "__setattr__"=some (some (.builtin "object.__setattr__"))
theorem uw.get{K:Ab}(c:uw K C)(f:Str):PySem.W.plainGet K C f=true:=c.pg
section
variable {X:Cx}{pins:Ac}{σ:St}{H:Hp}{s:Ae}{A:Al}{E:Aa}{Q:Aa}{c:Value}{b:Bool}
inductive dD(K:Ab)(H:Hp):V->Value->Prop where
 |non:dD K H .non (.type "NoneType")
 |bl (x:Bool):dD K H (.bl x) (.type "bool")
 |int (i:Int):dD K H (.int i) (.type "int")
 |str (x:Str):dD K H (.str x) (.type "str")
 |flt (x:UInt64):dD K H (.flt x) (.type "float")
 |lst {a:Addr} {xs:List V} (e:H a=some (.lst xs)):dD K H (.ref a) (.type "list")
 |frz {a:Addr} {o:Obj} {xs:List V} (e:H a=some (.frz o (.lst xs))):dD K H (.ref a) (.type "list")
 |tup {a:Addr} {xs:List V} (e:H a=some (.tup xs)):dD K H (.ref a) (.type "tuple")
 |dK {a:Addr} {kvs:List (b7×V)} (e:H a=some (.dK kvs)):dD K H (.ref a) (.type "dict")
 |dT {a:Addr} {kvs:List (List b7×V)} (e:H a=some (.dT kvs)):dD K H (.ref a) (.type "dict")
 |ins {a C dx:Addr} {fs:List (Str×V)} (e:H a=some (.ins C dx fs)) (cl:uw K C) (ha:PySem.W.findIn K (.ref C) "__class__"=some (some (.builtin "object.__class__")))
   (hn:PySem.W.specialIn K (.builtin "object.__class__") "__get__"=some (some (.builtin "getset_descriptor.__get__"))) (htk:PySem.W.takesIn K (.builtin "object.__class__")=some true)
   (hm:PySem.W.mroIn K C (.type "object")=some true):dD K H (.ref a) (.ref C)
theorem mV(I:Inv X pins σ H s)(rx:aI x u)(ty:dD X.K H x t)(e:PySem.W.kitOne X.K t c=some b)(h:∀tk,Q (.bool b) {s with toks:=tk}) :
  wpAny (model X.prog X.w) A (call (.builtin "isinstance") [u,c]) Q E s:=by
 cases ty with
 |non=>cases(show u=Value.none from rx);exact PySem.W.kia_one PySem.W.kitx_none I.kIn True.intro e (λz=>nomatch z) h
 |bl y=>cases(show u=Value.bool y from rx);exact PySem.W.kia_one PySem.W.kitx_bool I.kIn True.intro e (λz=>nomatch z) h
 |int i=>obtain⟨t,q⟩:=(show ∃t,u=Value.int i t from rx);cases q;exact PySem.W.kia_one PySem.W.kitx_int I.kIn True.intro e (λz=>nomatch z) h
 |str y=>obtain⟨t,q⟩:=(show ∃t,u=Value.str y t from rx);cases q;exact PySem.W.kia_one PySem.W.kitx_str I.kIn True.intro e (λz=>nomatch z) h
 |flt y=>obtain⟨t,q⟩:=(show ∃t,u=Value.float y t from rx);cases q;exact PySem.W.kia_one PySem.W.kitx_float I.kIn True.intro e (λz=>nomatch z) h
 | @lst a d ea=>
  cases(show u=Value.ref a from rx);obtain⟨_,_,n,_,h1⟩:=(show ba X.prog X.w H s.heap a (.lst d) from I.hok a _ ea);exact PySem.W.kia_one PySem.W.kitx_list I.kIn ⟨_,h1,rfl⟩ e (λz=>nomatch z) h
 | @frz a ob d ea=>
  cases(show u=Value.ref a from rx);obtain⟨_,_,_,n,_,h1⟩:=(show ba X.prog X.w H s.heap a (.frz ob (.lst d)) from I.hok a _ ea);exact PySem.W.kia_one PySem.W.kitx_list I.kIn ⟨_,h1,rfl⟩ e (λz=>nomatch z) h
 | @tup a d ea=>
  cases(show u=Value.ref a from rx);obtain⟨_,_,_,p⟩:=(show ba X.prog X.w H s.heap a (.tup d) from I.hok a _ ea);obtain⟨o,h1,h2,_⟩:=p;exact PySem.W.kia_one PySem.W.kitx_tuple I.kIn ⟨o,h1,h2⟩ e (λz=>nomatch z) h
 | @dK a kvs ea=>
  cases(show u=Value.ref a from rx);obtain⟨_,_,vs,_,p⟩:=(show ba X.prog X.w H s.heap a (.dK kvs) from I.hok a _ ea);obtain⟨o,f,g,h1,h2,_⟩:=p;exact PySem.W.kia_one PySem.W.kitx_dict I.kIn ⟨o,h1,h2.1⟩ e (λz=>nomatch z) h
 | @dT a kvs ea=>
  cases(show u=Value.ref a from rx);obtain⟨_,_,d,_,o,f,g,h1,h2,_⟩:=(show ba X.prog X.w H s.heap a (.dT kvs) from I.hok a _ ea);exact PySem.W.kia_one PySem.W.kitx_dict I.kIn ⟨o,h1,h2.1⟩ e (λz=>nomatch z) h
 | @ins a C dx fs ea cl ha hn htk hm=>
  cases(show u=Value.ref a from rx);obtain⟨mA,O,_⟩:=rp I.hok ea;obtain⟨od,J,_⟩:=O.look;exact PySem.W.kia_one (PySem.W.kitx_own (cl.get _) cl.hd ha hn htk hm) I.kIn J e (λz=>nomatch z) h
end
structure cr(k:Nat)(A:Al):Prop where
 hd:A.handled=none
 dp:A.depth+3*k+5<recursionLimit
 un:A.units+16*k+200<cLine
theorem cr.mono{j:Nat}(r:cr k A)(h:j<=k):cr j A:=⟨r.hd,by have:=r.dp;omega,by have:=r.un;omega⟩
theorem cr.deeper{k:Nat}{A:Al}(r:cr (k+1) A)(env:Env):cr k (A.deeper env):=
 ⟨r.hd,by have:=r.dp;show A.depth+1+3*k+5<_;omega,by have:=r.un;show A.units+3+16*k+200<_;omega⟩
theorem cr.in1{k:Nat}{A:Al}(r:cr (k+1) A):cr k A.in1:=
 ⟨r.hd,by have:=r.dp;show A.depth+3*k+5<_;omega,by have:=r.un;show A.units+1+16*k+200<_;omega⟩
theorem cr.depth(r:cr k A):A.depth<recursionLimit:=by have:=r.dp;omega
theorem cr.units(r:cr k A):A.units+64<cLine:=by have:=r.un;omega
def nT:TA:=λ_ H Q=>Q [] H
def iE(ta:TE)(tr:TA):TA:=λσ H Q=>ta σ H λx H1=>tr σ H1 λxs H2=>Q (x::xs) H2
section
variable {X:Cx}{e:Expr}{es:Ao}{te:TE}{t:TA}{pos:Pos}
theorem ae:PA X [] nT:=λ_ _ _ _ H Q I h=>Calls.spliced_nil ⟨[],H,I,.nil,h⟩
theorem ac(ha:PE X e te)(hr:PA X es t)(hs:autoParam (starEach (e::es) X.env=(false,eval e X.env)::starEach es X.env) zz0._auto_1):PA X (e::es) (iE te t):=by
 intro b a s σ H Q I h;rw[hs];show wpAny _ _ (spliced ((false,eval e X.env)::backTo b (starEach es X.env))) _ _ s;refine Calls.spliced_cons (bK (ha a s σ H _ I h) λu d ⟨x,H1,l,g,j⟩=>?_);exact bK (hr b a d σ H1 _ l j) λus s2 ⟨c,H2,k,f,i⟩=>⟨x::c,H2,k,.cons g f,i⟩
def sO(t:TA):TE:=λσ H Q=>t σ H λxs H1=>xs.length<=sizeLine/\∀p,H1 p=none->Q (.ref p) (aR H1 p (.tup xs))
def tf(t:TA):TE:=λσ H Q=>t σ H λxs H1=>xs.length<=sizeLine/\∀p,H1 p=none->Q (.ref p) (aR H1 p (.lst xs))
theorem lv{x1}(h:PA X es t):PE X (.Tuple es x1 pos) (sO t):=by
 intro a s σ H Q I hq;refine wpAny_Tuple_spliced (bK (h pos a s σ H _ I hq) λus c ⟨f,H1,d,r,z,q⟩=>⟨by rw[<- r.length];exact z,?_⟩);have g:H1 c.heap.objs.size=none:=d.hok.fresh (xp _);refine⟨.ref c.heap.objs.size,aR H1 c.heap.objs.size (.tup f),d.laid (t':=c.toks) (λb u e=>wS _ e) (xp _) ?_,rfl,q _ g⟩;exact⟨z,us,r,⟨_,wY _ rfl,rfl,_,rfl⟩⟩
theorem kU(h:PA X es t):PE X (.List es pos) (tf t):=by
 intro a s σ H Q I hq;refine wpAny_List_spliced (bK (h pos a s σ H _ I hq) λus c ⟨f,H1,d,r,z,q⟩=>⟨by rw[<- r.length];exact z,?_⟩);have g:H1 c.heap.objs.size=none:=d.hok.fresh (xp _);refine⟨.ref c.heap.objs.size,aR H1 c.heap.objs.size (.lst f),d.laid (t':=c.toks) (λb u e=>wS _ e) (xp _) ?_,rfl,q _ g⟩;exact⟨z,us,0,r,wY _ rfl⟩
end
abbrev Sp:=List V->Hp->VK->XK->Prop
abbrev eG:=List Env->Hp->Shared->XK->Value->Shared->Prop
structure kq(P:Aj)(w:Am)(K:Ab)(mg:Ah)(base:Heap)(A:Al)(outer:List Env)(s:Ae)(H:Hp):Prop where
 frames:A.frames=some outer
 mod:Mod K mg base
 bs:∀b o,base.get? b=some o->s.heap.get? b=some o/\H b=none
 bsz:base.objs.size<=s.heap.objs.size
 funs:s.heap.FunFrames base outer
 frf:∀b∈lG outer,H b=none
 hok:dN P w H s.heap
 bare:AllBare s.gens
def CE(outer:List Env)(P:Aj)(w:Am)(H:Hp)(s:Ae)(Q:VK)(u:Value)(s':Ae):Prop:=
 ∃v H',s'.os=s.os/\AllBare s'.gens/\Un (lG outer) [] H H' s.heap s'.heap/\dN P w H' s'.heap/\aI v u/\Q v H'
def CR(CX:eG)(outer:List Env)(P:Aj)(w:Am)(H:Hp)(s:Ae)(Q:VK)(E:XK)(r:Result)(s':Ae):Prop:=
 match r with
 | .ok (.ret u)=>CE outer P w H s Q u s'
 | .ok _=>False
 | .error e=>CX outer H s E e s'
structure bH(P:Aj)(w:Am)(K:Ab)(mg:Ah)(base:Heap)(CX:eG)(k:Nat)(f:Addr)(fd:Ai)(ps:Ak)(sp:Sp):Prop where
 len:∀vs H Q E,sp vs H Q E->vs.length=ps.length
 run:∀(A:Al) (outer:List Env) (s:Ae) (H:Hp) (args:Args) (us:Af) (vs:List V) (Q:VK) (E:XK),cr k A->kq P w K mg base A outer s H->BindsTo s fd args (ps.zip us)->aD vs us->sp vs H Q E ->
  codeAny (model P w) A (.call (.ref f) args) (CR CX outer P w H s Q E) s
theorem kq.in1{K:Ab}{mg:Ah}{base:Heap}{outer:List Env}(e:kq P w K mg base A outer s H) :
  kq P w K mg base A.in1 outer s H:=⟨e.frames,e.mod,e.bs,e.bsz,e.funs,e.frf,e.hok,e.bare⟩
section
variable {X:Cx}{pins:Ac}{σ:St}{H:Hp}{s s':Ae}
theorem Inv.env0(I:Inv X pins σ H s):kq X.prog X.w X.K X.mg X.base X.A X.stack s H:=
 ⟨I.ok.frames,I.ok.mod,I.bs,xz I.ok.bsz I.sz,I.stack,I.stkFree,I.hok,I.bare⟩
theorem Inv.after(I:Inv X pins σ H s)(h:CE X.stack X.prog X.w H s Q u s'):EP X pins σ Q u s':=by
 obtain⟨v,i,os,a,un,e,r,q⟩:=h;obtain⟨f,g,d,t,c⟩:=s';obtain rfl:c=s.os:=os;exact⟨v,i,I.call (h':=f) (g':=g) (d':=d) (t':=t) (ch:=[]) un e a (λb z=>q0Q z (by simp)),r,q⟩
end
def jR(sp:Sp)(dvs:List V)(E:XK)(t:TA):TE:=λσ H Q=>t σ H λvs H1=>sp (vs++dvs) H1 Q E
def cy(K:Ab)(fd:Ai)(ps:Ak)(ds:Af):Prop:=
 ∀(s:Ae) (us:Af),K.In s.heap->(us++ds).length=ps.length->BindsTo s fd ⟨us,[]⟩ (ps.zip (us++ds))
theorem cy.all{K:Ab}{ps:Ak}(h:∀us:List Value,us.length=ps.length->bindArgs fd ⟨us,[]⟩=pure (ps.zip us)):cy K fd ps []:=λs us _ hl=>by
 rw[xC]at hl ⊢;exact .of_eq (h us hl)
def iK(CX:eG)(X:Cx)(E:XK):Prop:=∀(pins:Ac) (σ:St) (H:Hp) (s:Ae) (e:Value) (s':Ae),Inv X pins σ H s->CX X.stack H s E e s'->X.xe e s'
section
variable {X:Cx}{CX:eG}{k:Nat}{f C:Addr}{fd:Ai}{ps:Ak}{sp:Sp}{dvs:List V}{ds:Af}{E:XK}{x m:Str}{p pos apos:Pos}{e o:Expr}{es:Ao}{ta:TE}{t:TA}
theorem sR{pins:Ac}{σ:St}(F:bH X.prog X.w X.K X.mg X.base CX k f fd ps sp)(hr:cr k X.A)(hb:cy X.K fd ps ds)(hd:aD dvs ds)(hx:iK CX X E)
  (I:Inv X pins σ H s) (r:aD vs us) (h:sp (vs++dvs) H Q E):wpAny (model X.prog X.w) X.A (call (.ref f) us) (EP X pins σ Q) X.xe s:=by
 have b:aD (vs++dvs) (us++ds):=r.append hd;have d:(us++ds).length=ps.length:=by rw[<- b.length];exact F.len _ _ _ _ h
 refine wpAny_call (codeAny_mono (F.run X.A X.stack s H ⟨us,[]⟩ (us++ds) (vs++dvs) Q E hr I.env0 (hb s us I.kIn d) b h) λr c a=>?_);cases r with
 |error e=>exact hx pins σ H s e c I a
 |ok fl=>
  cases fl with
  |ret u=>exact I.after a
  |next=>exact False.elim a
  |brk=>exact False.elim a
  |cont=>exact False.elim a
theorem qO(F:bH X.prog X.w X.K X.mg X.base CX k f fd ps sp)(hr:cr k X.A)(hg:Gl X x)(hm:X.mg x=some (.ref f))(hk:PySem.W.keepIn X.K (.ref f)=true)(hb:cy X.K fd ps ds)(hd:aD dvs ds)(hx:iK CX X E)
  (ha:PA X (e::es) t) (hdb:autoParam ((x==("__debug__":Str))=false) zz1._auto_1) (he:autoParam (starEach (e::es) X.env=(false,eval e X.env)::starEach es X.env) zz0._auto_1) (hpl:autoParam ((backTo pos (starEach es X.env)).any (·.1)=false) zz0._auto_1) :
  PE X (.Call (.Name x p) (e::es) [] pos) (jR sp dvs E t):=by
 intro a s σ H Q I h;refine wpAny_Call_Name_kw (lP I hg hm ?_ hdb);refine PySem.W.callWith_K (h₀:=X.base) I.ok.mod.kin hk (bK (ha pos a s σ H _ I h) λus s1 ⟨vs,H1,b,r,q⟩=>⟨b.kIn,?_⟩) he hpl;exact sR F hr hb hd hx b r q
end
def PK(X:Cx)(kws:List Keyword)(t:TA):Prop:=
 ∀(pos:Pos) (pins:Ac) (s:Ae) (σ:St) (H:Hp) (Q:List V->Hp->Prop),Inv X pins σ H s->t σ H Q->wpAny (model X.prog X.w) X.A (evalAll ((backToKw pos (keywordEach kws X.env)).map (·.2))) (AP X pins σ Q) X.xe s
section
variable {X:Cx}{CX:eG}{k:Nat}{f C:Addr}{fd:Ai}{ps ks:Ak}{sp:Sp}{E:XK}{x m:Str}{p pos apos kpos:Pos}{e o:Expr}{es:Ao}{kws:List Keyword}{te ta:TE}{t tk:TA}{nm:Option Str}
theorem sE:PK X [] nT:=λ_ _ _ _ H Q I h=>wpAny_evalAll_nil ⟨[],H,I,.nil,h⟩
theorem rn(ha:PE X e te)(hr:PK X kws t):PK X (⟨nm,e,kpos⟩::kws) (iE te t):=by
 intro b a s σ H Q I h;show wpAny _ _ (evalAll ((do let v <- eval e X.env;standAt b;pure v)::(backToKw b (keywordEach kws X.env)).map (·.2))) _ _ s;refine wpAny_evalAll_cons (q04 (bK (ha a s σ H _ I h) λu d ⟨x,H1,l,g,j⟩=>q04 (wpAny_standAt (q05 ?_))));exact bK (hr b a d σ H1 _ l j) λus s2 ⟨c,H2,k,f,i⟩=>⟨x::c,H2,k,.cons g f,i⟩
variable {g:List Value->List Value->List Value}{gV:List V->List V->List V}
end
structure aV(N P:Ak)(sc:Scope):Prop where
 kind:sc.kind=.function
 co:sc.isCoroutine=false
 gen:sc.isGenerator=false
 nd:N.Nodup
 pre:N.take P.length=P
 par:∀x∈P,sc.names.lookup x=some .local\/sc.names.lookup x=some .cell
 nofree:∀y∈sc.names,y.2≠.free
theorem hE{kindOf:Str->Option NameKind}{x:Str}:∀{binds:List (Str×Value)} {m:Ah},(∀v,(x,v)∉binds)->bindL kindOf binds m x=m x
 | [],_,_=>rfl
 | (n,v)::r,m,h=>by
  unfold bindL;rw[hE λw hw=>h w (xg _ hw)]
  split
  ·have:x≠n:=by rintro rfl;exact h v q0B
   simp[this]
  ·rfl
theorem hV{kindOf:Str->Option NameKind}{x:Str}:∀{binds:List (Str×Value)} {m:Ah},(∀v,(x,v)∉binds)->bindC kindOf binds m x=m x
 | [],_,_=>rfl
 | (n,v)::r,m,h=>by
  unfold bindC;rw[hV λw hw=>h w (xg _ hw)]
  split
  ·rfl
  ·have:x≠n:=by rintro rfl;exact h v q0B
   simp[this]
theorem iG{kindOf:Str->Option NameKind}{x:Str}{v:Value}:∀{P:Ak} {vs:Af} {i:Nat} {m:Ah},P.Nodup->P[i]?=some x->vs[i]?=some v->kindOf x=some .local ->
  bindL kindOf (P.zip vs) m x=some v
 | [],_,_,_,_,h,_,_=>by simp at h
 |_::_,[],_,_,_,_,h,_=>by simp at h
 |p::P,w::vs,0,m,nd,h1,h2,hk=>by
  simp at h1 h2;subst h1;subst h2
  show bindL kindOf ((p,w)::P.zip vs) m p=_;unfold bindL;rw[hE λv hv=>(List.nodup_cons.mp nd).1 (List.of_mem_zip hv).1,q07 hk];simp
 |p::P,w::vs,i+1,m,nd,h1,h2,hk=>by
  show bindL kindOf ((p,w)::P.zip vs) m x=_;unfold bindL;exact iG (i:=i) (List.nodup_cons.mp nd).2 (by simpa using h1) (by simpa using h2) hk
theorem iC{kindOf:Str->Option NameKind}{x:Str}{v:Value}:∀{P:Ak} {vs:Af} {i:Nat} {m:Ah},P.Nodup->P[i]?=some x->vs[i]?=some v->kindOf x≠some .local ->
  bindC kindOf (P.zip vs) m x=some v
 | [],_,_,_,_,h,_,_=>by simp at h
 |_::_,[],_,_,_,_,h,_=>by simp at h
 |p::P,w::vs,0,m,nd,h1,h2,hk=>by
  simp at h1 h2;subst h1;subst h2
  show bindC kindOf ((p,w)::P.zip vs) m p=_;unfold bindC;rw[hV λv hv=>(List.nodup_cons.mp nd).1 (List.of_mem_zip hv).1,q06 hk];simp
 |p::P,w::vs,i+1,m,nd,h1,h2,hk=>by
  show bindC kindOf ((p,w)::P.zip vs) m x=_;unfold bindC;exact iC (i:=i) (List.nodup_cons.mp nd).2 (by simpa using h1) (by simpa using h2) hk
def start(N:Ak)(vs:List V):St:=vs.map some++List.replicate (N.length-vs.length) none
def jD(CX:eG)(P:Aj)(w:Am)(K:Ab)(mg:Ah)(base:Heap)(N:Ak)(qual:Str)(scope:Scope)(f:Addr)(cd:Value)(A:Al)(outer:List Env)(s:Ae)(H:Hp)(E:XK):Cx where
 prog:=P
 w:=w
 K:=K
 mg:=mg
 base:=base
 A:=A.deeper (envOfC qual scope s.heap.objs.size f cd)
 N:=N
 s₀:=s
 H₀:=H
 env:=envOfC qual scope s.heap.objs.size f cd
 outer:=outer
 stack:=envOfC qual scope s.heap.objs.size f cd::outer
 ex:=[]
 calm:=true
 fn:=λ_=>true
 pn:=[]
 xe:=λe s'=>wpAny (model P w) (A.deeper (envOfC qual scope s.heap.objs.size f cd)) (leaving (envOfC qual scope s.heap.objs.size f cd) e) (λ_ s''=>CX outer H s E e s'') (λe' s''=>CX outer H s E e' s'') s'
theorem kh{sc:Scope}(h:sc.names.lookup x=some .cell):∃c,(cellsFrom n sc.names []).lookup x=some c:=by
 have q:=PySem.W.cellsFrom_some sc.names n [] (.inl h);exact Option.isSome_iff_exists.mp q
theorem mN{CX:eG}{K:Ab}{mg:Ah}{base:Heap}{ps:Ak}{qual:Str}{scope:Scope}{cd:Value}{A:Al}{outer:List Env}{s1:Ae}{vs:List V}
  (S:aV N ps scope) (hd:A.handled=none) (e0:kq P w K mg base A outer s H) (hl:vs.length=ps.length) (r:aD vs us)
  (x:InCallC s s.heap.objs.size (bindL (envOfC qual scope s.heap.objs.size f cd).kindOf (ps.zip us) λ_=>none) (cellsFrom (s.heap.objs.size+1) scope.names []) (bindC (envOfC qual scope s.heap.objs.size f cd).kindOf (ps.zip us) λ_=>none) s1) :
  Inv (jD CX P w K mg base N qual scope f cd A outer s H E) [] (start N vs) H s1:=by
 have hpl:ps.length<=N.length:=by have:=q0R List.length S.pre;rw[xG]at this;omega
 obtain⟨h1,tk,rfl,o⟩:=x.done;have d:∀b:Addr,b∉(jD CX P w K mg base N qual scope f cd A outer s H E).ex:=λb z=>q0Q (show b∈([]:List Addr) from z) (by simp);refine⟨⟨e0.mod,S.kind,rfl,rfl,xp _,λy z c h1 h2=>?_,λy hy=>?_,λy c _ h=>?_,λ_=>hd,Around.frames_deeper e0.frames,.inr ⟨rfl,rfl⟩,λb z=>q0Q z (d b),e0.bs,e0.bsz,λb _ _=>d b,λb z=>q0Q z (d b),e0.funs,e0.frf⟩,
  rfl,e0.bare,Un.kept o,⟨_,x.toInCall.ns,λi y v h1 h2 h3=>?_⟩,λy c h=>⟨_,x.cell y c h⟩,e0.hok.fresh (xp _),λy c h=>?_,λp j=>q0Q (show p∈([]:List (Addr×Obj)) from j) (by simp),e0.hok.kept o,?_⟩
 ·exact name_of_addr x.apart (PySem.mem_of_lookup h1) (PySem.mem_of_lookup h2)
 ·have hy:scope.names.lookup y=some .cell\/scope.names.lookup y=some .free:=hy
  rcases hy with hy | hy
  ·exact kh hy
  ·exact q0Q rfl (S.nofree _ (PySem.mem_of_lookup hy))
 ·exact q0P (x.above y c (PySem.mem_of_lookup h))
 ·have l:i<vs.length:=by
   unfold start at h2
   by_cases l:i<vs.length
   ·exact l
   ·rw[xk (by simpa using l)]at h2
    rw[List.getElem?_replicate]at h2
    split at h2<;>cases h2
  have B:vs[i]?=some v:=by
   unfold start at h2;rw[xm (by simpa using l),wV]at h2;cases e:vs[i]? with
   |none=>rw[e]at h2;cases h2
   |some a=>rw[e]at h2;cases h2;rfl
  obtain⟨u,m,t⟩:=r.get B;have j:ps[i]?=some y:=by
   rw[<- S.pre,List.getElem?_take_of_lt ⋯];exact h1
  have g:ps.Nodup:=by rw[<- S.pre];exact S.nd.sublist (List.take_sublist _ _)
  refine⟨u,t,?_⟩;rcases S.par y (wW j) with k | k
  ·exact .inl ⟨k,iG g j m k⟩
  ·obtain⟨c,e⟩:=kh (n:=s.heap.objs.size+1) k
   refine .inr ⟨.inl k,c,e,?_⟩;have q:=x.cell y c e;rw[iC g j m (by show scope.names.lookup y≠_;rw[k];decide)]at q;exact q
 ·exact e0.hok.fresh (q0P (x.above y c (PySem.mem_of_lookup h)))
 ·unfold start
  show _=N.length;rw[xo,wT,List.length_replicate];omega
theorem uy{CX:eG}{K:Ab}{mg:Ah}{base:Heap}{name qual:Str}{params:Arguments}{body:List Stmt}{scope:Scope}{dV kV doc pm cdv ct oc:Value}{an od:An}
  {osl:Array (Option Value)}{ps:Ak} {sp:Sp} (lk:K.lookup f=some ⟨oc,od,.func (PySem.W.fnOf name qual params body scope dV kV doc pm an cdv ct),osl⟩) (hcd:PySem.W.codeIn K cdv qual=true) (S:aV N ps scope)
  (len:∀vs H Q E,sp vs H Q E->vs.length=ps.length)
  (hbody:∀(A:Al) (outer:List Env) (s:Ae) (H:Hp) (vs:List V) (Q:VK) (E:XK),cr k (A.deeper (envOfC qual scope s.heap.objs.size f cdv))->sp vs H Q E ->
   ∃t,lI (jD CX P w K mg base N qual scope f cdv A outer s H E) body t/\t {nx:=λ_ H'=>Q .non H',rt:=Q} (start N vs) H) :
  bH P w K mg base CX (k+1) f (PySem.W.fnOf name qual params body scope dV kV doc pm an cdv ct) ps sp:=by
 refine⟨len,λA outer s H args z vs Q E hr g M r d=>?_⟩;have G:=len _ _ _ _ d;have p:K.In s.heap:=g.mod.kin.keeps λb o e=>(g.bs b o e).1;have l:s.heap.NoLimit:=g.mod.nolimit.keeps λb o e=>(g.bs b o e).1;have a:∀y∈ps.zip z,scope.names.lookup y.1=some .local\/(scope.names.lookup y.1=some .cell/\((cellsFrom (s.heap.objs.size+1) scope.names []).lookup y.1).isSome=true):=λ⟨n,v⟩ B=>by
  rcases S.par n (List.of_mem_zip B).1 with q | q
  ·exact .inl q
  ·exact .inr ⟨q,PySem.W.cellsFrom_some _ _ _ (.inl q)⟩
 refine codeAny_call_function hr.depth (p _ _ lk) rfl S.co S.gen rfl (PySem.W.codeRec_of p hcd) (M _ _ _ _ ?_);refine wpAny_newFunctionEnv_cells S.kind a λenv L m x=>?_;subst L;refine⟨l.keeps x.toInCall.keep,codeAny_func ?_⟩;obtain⟨t,C,D⟩:=hbody A outer s H vs Q E (hr.deeper _) d;have I:Inv (jD CX P w K mg base N qual scope f cdv A outer s H E) [] (start N vs) H m:=mN S hr.hd g G r x;refine q0X (C [] m (start N vs) H _ I D) (λO i c=>?_) λe i c=>c;have fin:∀{σ':St} {H':Hp} {v:V} {u:Value},Inv (jD CX P w K mg base N qual scope f cdv A outer s H E) [] σ' H' i->aI v u->Q v H'->CE outer P w H s Q u i:=
  fun{σ' H' v u} J j q=>⟨v,H',J.os,J.bare,J.base,J.hok,j,q⟩
 cases O with
 |ret u=>
  obtain⟨v,σ',H',J,j,q⟩:=c;exact fin J j q
 |next=>
  obtain⟨σ',H',J,q⟩:=c;exact fin (v:=V.non) (u:=Value.none) J rfl q
 |brk=>
  obtain⟨_,_,_,q⟩:=c;exact False.elim q
 |cont=>
  obtain⟨_,_,_,q⟩:=c;exact False.elim q
section
variable {X:Cx}{x:Str}{p pos:Pos}{e:Expr}{es:Ao}{t:TA}{id T:String}{r:List V->Hp->VK->Prop}
def uY(r:List V->Hp->VK->Prop)(t:TA):TE:=λσ H Q=>t σ H λvs H1=>r vs H1 Q
theorem az(hc:bV X (.builtin id) r)(hg:Gl X x)(hm:X.mg x=none)(hv:bootBuiltins x=some (.builtin id))(ha:PA X (e::es) t)(hn:autoParam (x≠"__name__") zz1._auto_1)(hdb:autoParam ((x==("__debug__":Str))=false) zz1._auto_1)
  (he:autoParam (starEach (e::es) X.env=(false,eval e X.env)::starEach es X.env) zz0._auto_1) (hpl:autoParam ((backTo pos (starEach es X.env)).any (·.1)=false) zz0._auto_1):PE X (.Call (.Name x p) (e::es) [] pos) (uY r t):=by
 intro a s σ H Q I h;refine wpAny_Call_Name_kw (cJ I hg hm hv ?_ hn hdb);exact PyProof.Rows.callWith_builtin1 (bK (ha pos a s σ H _ I h) λus b ⟨vs,H1,f,c,d⟩=>hc a b σ H1 vs us Q f c d) he hpl
theorem cO(hc:bV X (.type T) r)(hg:Gl X x)(hm:X.mg x=none)(hv:bootBuiltins x=some (.type T))(ha:PA X (e::es) t)(hn:autoParam (x≠"__name__") zz1._auto_1)(hdb:autoParam ((x==("__debug__":Str))=false) zz1._auto_1)
  (he:autoParam (starEach (e::es) X.env=(false,eval e X.env)::starEach es X.env) zz0._auto_1) (hpl:autoParam ((backTo pos (starEach es X.env)).any (·.1)=false) zz0._auto_1):PE X (.Call (.Name x p) (e::es) [] pos) (uY r t):=by
 intro a s σ H Q I h;refine wpAny_Call_Name_kw (cJ I hg hm hv ?_ hn hdb);exact PyProof.Rows.callWith_type1 (bK (ha pos a s σ H _ I h) λus b ⟨vs,H1,f,c,d⟩=>hc a b σ H1 vs us Q f c d) he hpl
end
end L2
namespace HT
open PySem PyProof.Rows
section
variable {prog:Aj}{w:Am}{A:Al}{E:Aa}{s:Ae}
def sIx(n d:Nat):Option Int->Nat
 |none=>d
 |some v=>if v<0 then(v+(n:Int)).toNat else min v.toNat n
theorem sIx_nat(n d k:Nat):sIx n d (some (k:Int))=min k n:=by
 show(if(k:Int)<0 then((k:Int)+(n:Int)).toNat else min (k:Int).toNat n)=min k n;rw[q06 ⋯,w8]
theorem sIx_le(n d:Nat)(hd:d<=n)(o:Option Int):sIx n d o<=n:=by
 cases o with
 |none=>exact hd
 |some v=>
  show(if v<0 then(v+(n:Int)).toNat else min v.toNat n)<=n
  by_cases a:v<0
  ·rw[q07 a];omega
  ·rw[q06 a];exact Nat.min_le_right _ _
end
end HT
namespace L2
open PySem PySem.Spec PyProof.Rows
abbrev TO:=St->Hp->(Option Int->Hp->Prop)->Prop
def PO(X:Cx)(e:Option Expr)(t:TO):Prop:=
 ∀(pins:Ac) (s:Ae) (σ:St) (H:Hp) (Q:Option Int->Hp->Prop),Inv X pins σ H s->t σ H Q ->
  wpAny (model X.prog X.w) X.A (evalPart e X.env) (λu s'=>∃o H',Inv X pins σ H' s'/\IsPart u o/\Q o H') X.xe s
def qj(t:TE):TO:=λσ H Q=>t σ H λx H1=>∃i,x=.int i/\Q (some i) H1
section
variable {X:Cx}{e:Expr}{te:TE}{lo hi:Option Expr}{tl th:TO}{pos p2:Pos}
theorem rG(h:PE X e te):PO X (some e) (qj te):=by
 intro a s σ H Q I hw;rw[evalPart_some];refine bK (h a s σ H _ I hw) λu s1 ⟨x,H1,d,b,c⟩=>?_;obtain⟨i,rfl,q⟩:=c;obtain⟨t,rfl⟩:=b;exact⟨some i,H1,d,.int i t,q⟩
def vU(X:Cx)(r:V->Option Int->Option Int->Hp->VK->Prop):Prop:=
 ∀(pins:Ac) (s:Ae) (σ:St) (H:Hp) (x:V) (v vl vu:Value) (lo hi:Option Int) (sl:Addr) (Q:VK),Inv X pins σ H s->aI x v->s.heap.IsSliceOf sl vl vu .none->IsPart vl lo->IsPart vu hi->r x lo hi H Q ->
  ∃T id,typeLookup (.type T) "__getitem__"=pure (some (.builtin id))/\s.TypeIs v T/\wpAny (model X.prog X.w) X.A (getItem v (.ref sl)) (EP X pins σ Q) X.xe s
def vY(r:V->Option Int->Option Int->Hp->VK->Prop)(te:TE)(tl th:TO):TE:=λσ H Q=>te σ H λx H1=>tl σ H1 λl H2=>th σ H2 λu H3=>r x l u H3 Q
theorem d6(hr:vU X r)(he:PE X e te)(hl:PO X lo tl)(hu:PO X hi th):PE X (.Subscript e (.Slice lo hi none p2) pos) (vY r te tl th):=by
 intro a s σ H Q I h;refine Subscript_ (bK (he a s σ H _ I h) λv g ⟨x,H1,D,i,m⟩=>?_);refine wpAny_Slice (bK (hl a g σ H1 _ D m) λvl f ⟨l,H2,C,o,k⟩=>bK (hu a f σ H2 _ C k) λvu c ⟨u,d,B,n,j⟩=>?_);rw[evalPart_none];refine q05 ?_;have z:Inv X a σ d {c with heap:=c.heap.push {cls:=.type "slice",data:=.fields #[vl,vu,.none]} }:=B.kept (t':=c.toks) λb ob q=>wS _ q;obtain⟨T,id,y,p,t⟩:=hr a {c with heap:=c.heap.push {cls:=.type "slice",data:=.fields #[vl,vu,.none]} } σ d x v vl vu l u c.heap.objs.size Q z i (Heap.IsSliceOf.new ..) o n j;show wpAny (model X.prog X.w) X.A (subscriptTail e (.Slice lo hi none p2) v (.ref c.heap.objs.size)) (EP X a σ Q) X.xe {c with heap:=c.heap.push {cls:=.type "slice",data:=.fields #[vl,vu,.none]} };exact tail_any (ops:=[.ref c.heap.objs.size,v]) p y t (by with_unfolding_all rfl)
def nh(xs:List V)(lo hi:Option Int):List V:=(xs.drop (HT.sIx xs.length 0 lo)).take (HT.sIx xs.length xs.length hi-HT.sIx xs.length 0 lo)
theorem jy(xs:List V)(lo hi:Option Int):(nh xs lo hi).length<=xs.length:=by
 unfold nh;rw[xG,xH];omega
end
def qi(n:Nat)(i:Int):Option Nat:=if 0<=i then(if i<n then some i.toNat else none) else if -(n:Int)<=i then some (i+n).toNat else none
def jm{α:Type}(xs:List α)(i:Int):Option α:=(qi xs.length i).bind λj=>xs[j]?
theorem lW{n:Nat}{j:Nat}(h:qi n i=some j):seqIndex? i n=some j/\j<n/\-(n:Int)<=i/\i<n:=by
 unfold qi at h
 by_cases a:0<=i
 ·rw[q07 a]at h
  by_cases h1:i<n
  ·rw[q07 h1]at h
   have e:i.toNat=j:=q0S h;exact⟨by rw[seqIndex_of a h1,e],⋯,⋯,h1⟩
  ·rw[q06 h1]at h;cases h
 ·rw[q06 a]at h
  by_cases h1:-(n:Int)<=i
  ·rw[q07 h1]at h
   have e:(i+n).toNat=j:=q0S h;exact⟨by rw[seqIndex_neg ⋯ h1,e],⋯,h1,⋯⟩
  ·rw[q06 h1]at h;cases h
theorem iP{α:Type}{xs:List α}{v:α}(h:jm xs i=some v):∃j,seqIndex? i xs.length=some j/\xs[j]?=some v/\j<xs.length/\-(xs.length:Int)<=i/\i<xs.length:=by
 unfold jm at h;cases e:qi xs.length i with
 |none=>rw[e]at h;cases h
 |some j=>
  rw[e]at h;obtain⟨h1,h2,b,a⟩:=lW e;exact⟨j,h1,h,h2,b,a⟩
theorem aW{α:Type}{xs:List α}{j:Nat}{v:α}(h:xs[j]?=some v):jm xs (j:Int)=some v:=by
 have hj:j<xs.length:=(wR.mp h).1;have e:qi xs.length (j:Int)=some j:=by
  unfold qi;rw[q07 ⋯,q07 ⋯];simp
 unfold jm;rw[e];exact h
theorem o8{α:Type}(xs:List α)(v:α):jm (xs++[v]) (-1)=some v:=by
 have a:(xs++[v]).length=xs.length+1:=by simp
 have e:qi (xs++[v]).length (-1)=some xs.length:=by
  unfold qi;rw[a,q06 nofun,q07 ⋯]
  congr 1
  omega
 unfold jm;rw[e];show(xs++[v])[xs.length]?=some v;simp
def q9(b:Expr):Prop:=∀o i,subscripted b false o i=operate [o,i] (getItem o i)
def sf(X:Cx)(r:R2):Prop:=
 ∀(value slice:Expr) (pins:Ac) (s:Ae) (σ:St) (H:Hp) (x y:V) (v u:Value) (Q:VK),Inv X pins σ H s->aI x v->aI y u->r x y H Q ->
  subscripted slice false v u=operate [v,u] (getItem v u)->wpAny (model X.prog X.w) X.A (subscriptTail value slice v u) (EP X pins σ Q) X.xe s
def wf(X:Cx)(id:String)(r:V->List V->Hp->VK->Prop):Prop:=
 ∀(pins:Ac) (s:Ae) (σ:St) (H:Hp) (x:V) (xs:List V) (v:Value) (us:Af) (Q:VK),Inv X pins σ H s->aI x v->aD xs us->r x xs H Q ->
  wpAny (model X.prog X.w) X.A (call (.builtin id) (v::us)) (EP X pins σ Q) X.xe s
section
variable {X:Cx}{a b:Expr}{ta tb:TE}{pos:Pos}
theorem bC(hr:sf X r)(ha:PE X a ta)(hb:PE X b tb)(hs:q9 b):PE X (.Subscript a b pos) (sF r ta tb):=by
 intro c s σ H Q I h;exact Subscript_ (tV ha hb I h λv u d x y H2 g f e q=>hr a b c d σ H2 x y v u Q g f e q (hs _ _))
def ny(K:Ab):R2:=λx y H Q=>∃p xs i v,x=.ref p/\y=.int i/\aS K H p xs/\jm xs i=some v/\Q v H
def ni(K:Ab):R2:=λx y H Q=>∃p xs i v,x=.ref p/\y=.int i/\fq K H p xs/\jm xs i=some v/\Q v H
def tY:R2:=λx y H Q=>∃z i c,x=.str z/\y=.int i/\z.length<=sizeLine/\jm z.cps.toList i=some c/\Q (.str ⟨#[c]⟩) H
theorem md:sf X (ny X.K):=by
 intro value slice a s σ H x y v u Q I rx ry h hs;obtain⟨p,xs,i,z,rfl,rfl,l,n,q⟩:=h;cases rx;obtain⟨t,rfl⟩:=ry;obtain⟨d,r,c,hz⟩:=I.list l;obtain⟨j,h1,h2,h3,B,o⟩:=iP n;obtain⟨w,g,b⟩:=r.get h2;have m:=r.length;have hn:=eI;have fin:EP X a σ Q w s:=⟨z,H,I,b,q⟩
 by_cases f:0<=i
 ·have e:i.toNat=j:=by
   rw[seqIndex_of f o]at h1;exact q0S h1
  exact item_listR c.isList f ⋯ (by rw[e];simpa using g) fin hs
 ·have e:(i+(d.toArray.size:Int)).toNat=j:=by
   rw[seqIndex_neg ⋯ B]at h1;rw[wZ,<- m];exact q0S h1
  exact subscriptTail_builtinR (x:=w) c.isList.typeIs slot_list_getitem.lookup
   (wpAny_getItem_list_neg (Q:=λr k=>r=w/\EP X a σ Q r k) c.isList ⋯ (by rw[wZ]<;>omega) ⋯ (by rw[e];simpa using g) ⟨rfl,fin⟩) hs
theorem qf:sf X (ni X.K):=by
 intro value slice a s σ H x y v u Q I rx ry h hs;obtain⟨p,xs,i,z,rfl,rfl,e,g,q⟩:=h;cases rx;obtain⟨t,rfl⟩:=ry;obtain⟨its,r,c,hz⟩:=I.tuple e;obtain⟨j,h1,h2,h3,h4,h5⟩:=iP g;obtain⟨w,k,b⟩:=r.get h2;have f:=r.length;have hn:=eI;have fin:EP X a σ Q w s:=⟨z,H,I,b,q⟩;exact subscriptTail_builtinR (x:=w) c.typeIs slot_tuple_getitem.lookup
  (getItem_tuple (j:=j) (Q:=λr d=>r=w/\EP X a σ Q r d) c ⋯ ⋯ (by rw[wZ,<- f];exact h1) (by simpa using k) ⟨rfl,fin⟩) hs
theorem iO:sf X tY:=by
 intro value slice pins s σ H x y v u Q I rx ry h hs;obtain⟨z,i,c,rfl,rfl,hz,b,q⟩:=h;obtain⟨t,rfl⟩:=rx;obtain⟨t',rfl⟩:=ry;obtain⟨j,h1,h2,h3,e,d⟩:=iP b;have a:z.cps.toList.length=z.length:=by simp[Str.length]
 rw[a]at h1 e d;have hn:=eI;exact tail_any (typeIs_str s z t) slot_str_getitem.lookup (getItem_str (c:=c) (by
  have g:decide (i < -(2 ^ 63:Int))=false:=q08 ⋯;have f:decide (i≥2 ^ 63)=false:=q08 ⋯;rw[g,f,Bool.or_false]) (by rw[h1];simpa using h2) ⟨.str ⟨#[c]⟩,H,I.tok _,⟨_,rfl⟩,q⟩) hs
theorem kQ(its:Af)(n j:Nat)(u:Value):Obj.mapSeq (·.setIfInBounds j u) {cls:=.type "list",data:=.seq its.toArray n}={cls:=.type "list",data:=.seq (its.set j u).toArray n}:=by
 simp[Obj.mapSeq]
theorem Inv.lst{pins:Ac}{σ:St}{H:Hp}{s:Ae}{p:Addr}{xs:List V}(I:Inv X pins σ H s)(h:H p=some (.lst xs)) :
  ∃(its:Af) (n:Nat),aD xs its/\s.heap.get? p=some {cls:=.type "list",data:=.seq its.toArray n}/\xs.length<=sizeLine:=by
 obtain⟨z,its,n,r,e⟩:=I.hok p _ h;exact⟨its,n,r,e,z⟩
theorem Inv.lstUpd{pins:Ac}{σ:St}{s:Ae}{its its':Af}{f:Obj->Obj}(I:Inv X pins σ H s)(h:H p=some (.lst xs))
  (ho:s.heap.get? p=some {cls:=.type "list",data:=.seq its.toArray n}) (hf:f {cls:=.type "list",data:=.seq its.toArray n}={cls:=.type "list",data:=.seq its'.toArray n' }) (r:aD ys its') (hz:ys.length<=sizeLine) (t:Nat) :
  Inv X pins σ (aR H p (.lst ys)) {s with heap:=s.heap.update p f,toks:=t}:=by
 have e:(s.heap.update p f).get? p=some {cls:=.type "list",data:=.seq its'.toArray n' }:=by
  rw[w9 f ho (by rw[hf]<;>rfl),hf]
 refine I.write (x:=p) (e:=p) (by rw[h];trivial) (.inl rfl) (λb u a q=>(wX _ _ (Ne.symm a)).trans q) ⟨_,e⟩ ?_;exact⟨hz,its',n',r,e⟩
def qk:V->V->V->Hp->(Hp->Prop)->Prop:=λo i v H Q=>∃p xs k j,o=.ref p/\i=.int k/\H p=some (.lst xs)/\qi xs.length k=some j/\Q (aR H p (.lst (xs.set j v)))
theorem oS:uo X qk:=by
 intro a s σ H o i v ov iv u Q I ro ri rv h;obtain⟨p,x,k,j,rfl,rfl,f,z,q⟩:=h;cases ro;obtain⟨t,rfl⟩:=ri;obtain⟨b,n,r,c,y⟩:=I.lst f;obtain⟨h1,h2,l,g⟩:=lW z;have d:=r.length;have hn:=eI;have w:Inv X a σ (aR H p (.lst (x.set j v))) {s with heap:=s.heap.update p (Obj.mapSeq (·.setIfInBounds j u))}:=
  I.lstUpd f c (kQ b n j u) (r.set rv j) (by rw[List.length_set];exact y) s.toks
 by_cases m:0<=k
 ·have e:k.toNat=j:=by
   rw[seqIndex_of m g]at h1;exact q0S h1
  exact PySem.W.ki_setAt c m ⋯ (by rw[wZ,<- d];exact g) (by rw[e];exact⟨_,w,q⟩)
 ·have e:(k+(b.toArray.size:Int)).toNat=j:=by
   rw[seqIndex_neg ⋯ l]at h1;rw[wZ,<- d];exact q0S h1
  exact PySem.W.ki_setBack c ⋯ (by rw[wZ,<- d];exact l) ⋯ (by rw[e];exact⟨_,w,q⟩)
theorem iS(lo hi:Option Int)(n:Nat):(sliceBounds lo hi none n).1=((HT.sIx n 0 lo:Nat):Int)/\(sliceBounds lo hi none n).2.1=((HT.sIx n n hi:Nat):Int)/\(sliceBounds lo hi none n).2.2=1:=by
 refine⟨?_,?_,rfl⟩
 ·cases lo with
  |none=>simp[sliceBounds,HT.sIx]
  |some i=>
   simp only[sliceBounds,HT.sIx,Option.getD_none,show(1:Int)>0 by decide,if_true]
   by_cases h:i<0
   ·simp only[h,if_true]<;>omega
   ·simp only[h,if_false]<;>omega
 ·cases hi with
  |none=>simp[sliceBounds,HT.sIx]
  |some i=>
   simp only[sliceBounds,HT.sIx,Option.getD_none,show(1:Int)>0 by decide,if_true]
   by_cases h:i<0
   ·simp only[h,if_true]<;>omega
   ·simp only[h,if_false]<;>omega
theorem gY(its:Af)(lo hi:Option Int):slicePick its.toArray lo hi none=((its.drop (HT.sIx its.length 0 lo)).take (HT.sIx its.length its.length hi-HT.sIx its.length 0 lo)).toArray:=by
 obtain⟨h1,h2,a⟩:=iS lo hi its.toArray.size;unfold slicePick;rw[h1,h2,a];simp only[sliceRange_one,pick_run,wZ]<;>rfl
def tu(K:Ab):V->Option Int->Option Int->Hp->VK->Prop:=λx lo hi H Q=>∃a xs,x=.ref a/\aS K H a xs/\∀p,H p=none->Q (.ref p) (aR H p (.lst (nh xs lo hi)))
theorem l8:vU X (tu X.K):=by
 intro pins s σ H x v vl vu lo hi sl Q I rx hs pl pu h;obtain⟨a,c,rfl,g,q⟩:=h;cases rx;obtain⟨its,r,e,f⟩:=I.list g;have d:=r.length;refine⟨"list",_,slot_list_getitem.lookup,e.isList.typeIs,?_⟩;refine wpAny_getItem_list_slice e.isList hs pl pu .none (by simp) ?_ (by rw[wZ]<;>omega);rw[gY,<- d];refine⟨.ref s.heap.objs.size,_,I.laid (t':=s.toks) (o:=.lst (nh c lo hi)) (λb ob q=>wS _ q) (xp _) ?_,rfl,q _ (I.hok.fresh (xp _))⟩;exact⟨xz (jy c lo hi) f,_,0,(r.drop (HT.sIx c.length 0 lo)).take (HT.sIx c.length c.length hi-HT.sIx c.length 0 lo),wY _ rfl⟩
def o0:V->Bool
 | .non=>true
 | .bl _=>true
 | .int _=>true
 | .str _=>true
 |_=>false
def s0:V->V->Bool
 | .non,.non=>true
 | .bl a,.bl b=>a==b
 | .bl a,.int b=>(if a then 1 else 0)==b
 | .int a,.bl b=>a==(if b then 1 else 0)
 | .int a,.int b=>a==b
 | .str a,.str b=>a==b
 |_,_=>false
theorem dj(ry:aI y u)(rx:aI x v)(fy:o0 y=true)(fx:o0 x=true):SeqAt.EqAt A s u v (s0 y x):=by
 cases y with
 |non=>
  cases ry;cases x with
  |non=>cases rx;exact SeqAt.EqAt.same _
  |bl b=>cases rx;exact SeqAt.EqAt.none_bool b
  |int b=>obtain⟨t,rfl⟩:=rx;exact SeqAt.EqAt.none_int b t
  |str b=>obtain⟨t,rfl⟩:=rx;exact SeqAt.EqAt.none_str b t
  |_=>exact q0Q (show false=true from fx) xt
 |bl a=>
  cases ry;cases x with
  |non=>cases rx;exact SeqAt.EqAt.bool_none a
  |bl b=>cases rx;exact SeqAt.EqAt.bool_bool a b
  |int b=>obtain⟨t,rfl⟩:=rx;exact SeqAt.EqAt.bool_int a b t
  |str b=>obtain⟨t,rfl⟩:=rx;exact SeqAt.EqAt.bool_str a b t
  |_=>exact q0Q (show false=true from fx) xt
 |int a=>
  obtain⟨c,rfl⟩:=ry;cases x with
  |non=>cases rx;exact SeqAt.EqAt.int_none a c
  |bl b=>cases rx;exact SeqAt.EqAt.int_bool a c b
  |int b=>obtain⟨t,rfl⟩:=rx;exact SeqAt.EqAt.int_int a c b t
  |str b=>obtain⟨t,rfl⟩:=rx;exact SeqAt.EqAt.int_str a c b t
  |_=>exact q0Q (show false=true from fx) xt
 |str a=>
  obtain⟨c,rfl⟩:=ry;cases x with
  |non=>cases rx;exact SeqAt.EqAt.str_none a c
  |bl b=>cases rx;exact SeqAt.EqAt.str_bool a c b
  |int b=>obtain⟨t,rfl⟩:=rx;exact SeqAt.EqAt.str_int a c b t
  |str b=>obtain⟨t,rfl⟩:=rx;exact SeqAt.EqAt.str_str a c b t
  |_=>exact q0Q (show false=true from fx) xt
 |_=>exact q0Q (show false=true from fy) xt
theorem eu:bV X (.builtin "len") (λxs H Q=>∃p ys,xs=[.ref p]/\(aS X.K H p ys\/fq X.K H p ys)/\Q (.int ys.length) H):=by
 intro pins s σ H xs us Q I r h;obtain⟨p,ys,rfl,hq,q⟩:=h;obtain⟨u,rfl,e⟩:=g_ r;cases e;have hn:=eI;rcases hq with hq | hq
 ·obtain⟨d,b,c,f⟩:=I.list hq
  have a:=b.length;exact Calls.call_len_list c.isList (by simp only[wZ]<;>omega) ⟨.int ys.length,H,I.tok _,⟨s.toks+1,by rw[wZ,a]⟩,q⟩
 ·obtain⟨d,b,c,f⟩:=I.tuple hq
  have a:=b.length;exact len_tuple c (by simp only[wZ]<;>omega) ⟨.int ys.length,H,I.tok _,⟨s.toks+1,by rw[wZ,a]⟩,q⟩
theorem iX:bV X (.builtin "len") (λxs H Q=>∃z,xs=[.str z]/\z.length<=sizeLine/\Q (.int z.length) H):=by
 intro pins s σ H xs us Q I r h;obtain⟨z,rfl,hz,q⟩:=h;obtain⟨u,rfl,t,rfl⟩:=g_ r;have hn:=eI;exact len_str ⋯ ⟨.int z.length,H,I.tok _,⟨_,rfl⟩,q⟩
theorem c8:bV X (.type "list") (λxs H Q=>∃p ys,xs=[.ref p]/\(aS X.K H p ys\/fq X.K H p ys)/\∀l,H l=none->Q (.ref l) (aR H l (.lst ys))):=by
 intro g s σ H xs us Q I r h;obtain⟨p,ys,rfl,hq,q⟩:=h;obtain⟨u,rfl,y⟩:=g_ r;cases y;have fin:∀(a:Af),aD ys a->ys.length<=sizeLine->∀(c:Heap) (f:Nat),(∀b o',s.heap.get? b=some o'->c.get? b=some o') ->
   c.get? s.heap.objs.size=some {cls:=.type "list",dict:=none,data:=.seq a.toArray f,slots:=#[]}->EP X g σ Q (.ref s.heap.objs.size) {s with heap:=c }:=λa d j c f i e=>
  ⟨.ref s.heap.objs.size,_,I.laid (t':=s.toks) i (xp _) (show ba X.prog X.w _ c _ (.lst ys) from⟨j,a,f,d,e⟩),rfl,q _ (I.hok.fresh (xp _))⟩
 rcases hq with hq | hq
 ·obtain⟨a,d,m,j⟩:=I.list hq
  have k:=d.length;obtain⟨o,t,x,n,v⟩:=m.isList;exact call_list_seq p (.inl rfl) t x v (λc f i e=>fin a d j c f i e) (by simp only[wZ]<;>omega)
 ·obtain⟨a,d,m,j⟩:=I.tuple hq
  have k:=d.length;obtain⟨o,t,x,n,v⟩:=m;exact call_list_seq p (.inr rfl) t x v (λc f i e=>fin a d j c f i e) (by simp only[wZ]<;>omega)
theorem gK:bV X (.type "tuple") (λxs H Q=>∃p ys,xs=[.ref p]/\((aS X.K H p ys/\∀l,H l=none->Q (.ref l) (aR H l (.tup ys)))\/(fq X.K H p ys/\Q (.ref p) H))):=by
 intro a s σ H xs us Q I r h;obtain⟨p,ys,rfl,h⟩:=h;obtain⟨u,rfl,m⟩:=g_ r;cases m;rcases h with⟨i,q⟩ | ⟨i,q⟩
 ·obtain⟨c,f,g,j⟩:=I.list i
  have hlen:=f.length;refine call_tuple_list g.isList (λd n=>?_) (by simp only[wZ]<;>omega);have k:Inv X a σ H {s with heap:=d }:=I.kept (t':=s.toks) n;have t:Inv X a σ (aR H d.objs.size (.tup ys)) {s with heap:=d.push {cls:=.type "tuple",data:=.seq c.toArray} }:=
   k.laid (t':=s.toks) (λb o e=>wS _ e) (xp _) (show ba X.prog X.w _ _ _ (.tup ys) from⟨j,c,f,IsTup.new _ _⟩)
  exact⟨.ref d.objs.size,_,t,rfl,q _ (k.hok.fresh (xp _))⟩
 ·obtain⟨c,f,g,j⟩:=I.tuple i
  exact call_tuple_same g ⟨.ref p,H,I,rfl,q⟩
def we(K:Ab)(T:String)(x:V)(H:Hp):Prop:=match x with
 | .str _=>T="str"
 | .int _=>T="int"
 | .ref p=>(T="list"/\∃xs,aS K H p xs)\/(T="tuple"/\∃o,K.lookup p=some o/\o.cls=.type "tuple"/\o.dict=none) \/
   (T="dict"/\((∃kvs,H p=some (.dK kvs))\/∃kvs,H p=some (.dT kvs)))\/(T="set"/\∃S n,H p=some (.set S n))
 |_=>False
theorem sN{pins:Ac}{σ:St}(I:Inv X pins σ H s)(r:aI x v)(ty:we X.K T x H) :
  s.TypeIs v T/\∀a,v=.ref a->∃ob,s.heap.get? a=some ob/\ob.dict=none:=by
 cases x with
 |str z=>
  obtain⟨t,rfl⟩:=r;cases(show T="str" from ty);exact⟨typeIs_str s z t,λ_ e=>nomatch e⟩
 |int i=>
  obtain⟨t,rfl⟩:=r;cases(show T="int" from ty);exact⟨typeIs_int s i t,λ_ e=>nomatch e⟩
 |ref p=>
  cases r;rcases ty with⟨rfl,xs,l⟩ | ⟨rfl,o,b,m,g⟩ | ⟨rfl,b⟩ | ⟨rfl,S,n,b⟩
  ·obtain⟨its,_,k,_⟩:=I.list l
   refine⟨k.isList.typeIs,λa e=>?_⟩;cases e;obtain⟨o,n,e,c,g,_⟩:=k;exact⟨o,e,g⟩
  ·refine⟨⟨o,I.kIn p o b,m⟩,λa e=>?_⟩
   cases e;exact⟨o,I.kIn _ o b,g⟩
  ·have z:∃o,s.heap.get? p=some o/\o.ExactDict:=by
    rcases b with⟨f,b⟩ | ⟨f,b⟩
    ·obtain⟨_,_,_,_,o,_,_,e,d,_⟩:=I.hok p _ b
     exact⟨o,e,d⟩
    ·obtain⟨_,_,_,_,o,_,_,e,d,_⟩:=I.hok p _ b
     exact⟨o,e,d⟩
   obtain⟨o,e,d⟩:=z;refine⟨⟨o,e,d.1⟩,λa j=>?_⟩;cases j;exact⟨o,e,d.2.1⟩
  ·obtain⟨o,_,_,_,e,d,_⟩:=I.hok p _ b
   refine⟨⟨o,e,d.1⟩,λa j=>?_⟩;cases j;exact⟨o,e,d.2.1⟩
 |_=>exact False.elim ty
def ug(K:Ab)(T:String)(r:V->List V->Hp->VK->Prop)(to:TE)(t:TA):TE:=λσ H Q=>to σ H λx H1=>we K T x H1/\t σ H1 λxs H2=>r x xs H2 Q
variable {o e:Expr}{es:Ao}{to:TE}{t:TA}{name:Str}{apos cpos:Pos}{T id:String}{r:V->List V->Hp->VK->Prop}
theorem ij(pa:PlainAttrs T)(slot:Slot T name id)(hty:typeOf (.builtin id)=pure (.type "method_descriptor"))(hm:wf X id r)(ho:PE X o to)(ha:PA X (e::es) t)
  (hbase:autoParam (attributeBase o name X.env (eval o X.env)=eval o X.env) zz0._auto_1)
  (hfew:autoParam (((backTo cpos (starEach (e::es) X.env)).all (λx=>!x.1)&&(backToKw cpos (keywordEach [] X.env)).all (λx=>x.1.isSome)
   && decide ((e::es).length+([]:List Keyword).length+(if([]:List Keyword).isEmpty then 0 else 1)<30))=true) zz0._auto_1)
  (hline:autoParam ((apos.endLine==cpos.line)=true) zz0._auto_1) (hs:autoParam (starEach (e::es) X.env=(false,eval e X.env)::starEach es X.env) zz0._auto_1) (hplain:autoParam ((backTo cpos (starEach es X.env)).any (·.1)=false) zz0._auto_1) :
  PE X (.Call (.Attribute o name apos) (e::es) [] cpos) (ug X.K T r to t):=by
 intro a s σ H Q I h;refine wpAny_Call_method_late hbase hfew hline rfl (bK (ho a s σ H _ I h) λv i ⟨x,H1,d,b,f,l⟩=>?_);obtain⟨h1,h2⟩:=sN d b f;refine⟨T,id,pa,slot,hty,h1,h2,?_⟩;have c:=ha cpos a i σ H1 _ d l;rw[hs]at c ⊢;refine Calls.callWith_builtin (by show(false||(backTo cpos (starEach es X.env)).any (·.1))=false;rw[hplain]<;>rfl) (Calls.evalArgs_plain ?_);exact bK c λus g ⟨vs,H2,m,j,k⟩=>hm a g σ H2 x vs v us Q m b j k
end
def vA(X:Cx)(id:String)(r:V->List V->Hp->VK->Prop):Prop:=
 ∀(pins:Ac) (s:Ae) (σ:St) (H:Hp) (x:V) (xs:List V) (v:Value) (us:Af) (Q:VK),Inv X pins σ H s->aI x v->aD xs us->r x xs H Q ->
  wpAny (model X.prog X.w) X.A (call (.builtin id) (v::us)) (EP X pins σ Q) X.xe s
theorem aD.one{x:V}{us:Af}(h:aD [x] us):∃u,us=[u]/\aI x u:=by
 cases h with | cons r h=>cases h;exact⟨_,rfl,r⟩
theorem aD.two{x y:V}{us:Af}(h:aD [x,y] us):∃u v,us=[u,v]/\aI x u/\aI y v:=by
 cases h with | cons r h=>obtain⟨u,rfl,q⟩:=aD.one h;exact⟨_,_,rfl,r,q⟩
theorem aD.eraseIdx:∀{xs:List V} {us:Af} (i:Nat),aD xs us->aD (xs.eraseIdx i) (us.eraseIdx i)
 |_,_,_,.nil=>.nil
 |_,_,0,.cons _ t=>t
 |_,_,i+1,.cons r t=>.cons r (aD.eraseIdx i t)
theorem ia{α:Type}:∀(l:List α) (i:Nat),(l.eraseIdx i).length<=l.length
 | [],_=>xp _
 |_::_,0=>Nat.le_succ _
 |_::r,i+1=>Nat.succ_le_succ (ia r i)
section
variable {X:Cx}{pins:Ac}{σ:St}{H:Hp}{s:Ae}{l b:Addr}{xs ys zs:List V}
theorem Inv.lset{its its':Af}{f:Array Value->Array Value}{t':Nat}(I:Inv X pins σ H s)(hH:H l=some (.lst xs))
  (e:s.heap.get? l=some {cls:=.type "list",data:=.seq its.toArray n}) (hf:f its.toArray=its'.toArray) (hv:aD ys its') (hz:ys.length<=sizeLine) :
  Inv X pins σ (aR H l (.lst ys)) {s with heap:=s.heap.update l (Obj.mapSeq f),toks:=t' }:=by
 have q:=PySem.IsL.update e f;rw[hf]at q;refine I.write (x:=l) (e:=l) (by rw[hH];exact trivial) (.inl rfl) (λb' u b a=>(wX s.heap (Obj.mapSeq f) (Ne.symm b)).trans a) ⟨_,q⟩ ?_;exact⟨hz,its',_,hv,q⟩
theorem Inv.lstM(I:Inv X pins σ H s)(hH:H l=some (.lst xs)):xs.length<=sizeLine/\∃(its:Af) (n:Nat),aD xs its/\xs.length=its.length/\s.heap.get? l=some {cls:=.type "list",data:=.seq its.toArray n}:=by
 obtain⟨z,its,n,r,e⟩:=I.hok l _ hH;exact⟨z,its,n,r,r.length,e⟩
end
section
variable {X:Cx}
def i5:V->List V->Hp->VK->Prop:=λx vs H Q=>∃l xs y,x=.ref l/\vs=[y]/\H l=some (.lst xs)/\xs.length<sizeLine/\Q .non (aR H l (.lst (xs++[y])))
theorem m6:vA X "list.append" i5:=by
 intro pins s σ H x vs v us Q I rx rv h;obtain⟨l,xs,y,rfl,rfl,b,hz,q⟩:=h;cases rx;obtain⟨u,rfl,c⟩:=rv.one;obtain⟨z,a,n,r,hl,e⟩:=I.lstM b;refine call_meets F.slot_list_append ⟨_,e,rfl⟩ F.entry_list_append (F.args_list_append_2 _ _) (PySem.list_append l a.toArray n u (by rw[wZ];omega)) ⟨e,?_⟩;refine⟨.non,_,I.lset (its':=a++[u]) b e (by simp) (r.append (.cons c .nil)) ?_,rfl,q⟩;rw[xo,List.length_singleton];omega
def kW:V->List V->Hp->VK->Prop:=λx vs H Q=>∃l xs i k y,x=.ref l/\vs=[.int i]/\H l=some (.lst xs)/\-(2 ^ 63)<=i/\i<2 ^ 63/\seqIndex? i xs.length=some k/\xs[k]?=some y/\Q y (aR H l (.lst (xs.eraseIdx k)))
theorem qd:vA X "list.pop" kW:=by
 intro pins s σ H x vs v us Q I rx rv h;obtain⟨l,d,i,k,y,rfl,rfl,c,h1,h2,o,g,q⟩:=h;cases rx;obtain⟨u,rfl,f⟩:=rv.one;obtain⟨t,rfl⟩:=f;obtain⟨z,a,n,r,m,e⟩:=I.lstM c;obtain⟨w,j,b⟩:=r.get g;refine call_meets F.slot_list_pop ⟨_,e,rfl⟩ F.entry_list_pop (F.args_list_pop_2 _ _)
  (MeetsSeq.list_pop_at l a.toArray n i t k w (fitsIndex_both h1 h2) (by rw[wZ,<- m];exact o) (by rw[<- q0G];exact j) (by rw[wZ];omega)) ⟨e,?_⟩
 refine⟨y,_,I.lset (its':=a.eraseIdx k) c e ?_ (r.eraseIdx k) ?_,b,q⟩
 ·show a.toArray.eraseIdxIfInBounds k=(a.eraseIdx k).toArray
  rw[List.eraseIdxIfInBounds_toArray]
 ·have:=ia d k
  omega
end
section
variable {κ:Type}[DecidableEq κ]
def lB(kvs:List (κ×V))(k:κ):Option V:=(kvs.find? λkv=>decide (kv.1=k)).map (·.2)
def eO(kvs:List (κ×V))(k:κ)(v:V):List (κ×V):=
 if(kvs.any λkv=>decide (kv.1=k))=true then kvs.map (λkv=>if kv.1=k then(kv.1,v) else kv) else kvs++[(k,v)]
theorem jP{p:κ×V}{r:List (κ×V)}{k:κ}(e:p.1=k):lB (p::r) k=some p.2:=by simp[lB,List.find?_cons,e]
theorem jZ{p:κ×V}{r:List (κ×V)}{k:κ}(e:¬ p.1=k):lB (p::r) k=lB r k:=by simp[lB,List.find?_cons,e]
theorem kw(k:κ):∀kvs:List (κ×V),(kvs.any λkv=>decide (kv.1=k))=(lB kvs k).isSome
 | []=>rfl
 |p::r=>by
  rw[List.any_cons]
  by_cases e:p.1=k
  ·simp only[jP e,q09 e,Bool.true_or,Option.isSome_some]
  ·rw[jZ e,q08 e,Bool.false_or];exact kw k r
theorem fA(kvs:List (κ×V))(k:κ)(v:V):(eO kvs k v).length<=kvs.length+1:=by
 unfold eO
 split
 ·rw[wT];omega
 ·rw[xo,w_,List.length_nil];omega
theorem mO.isSome_eq(r:mO o u):o.isSome=u.isSome:=by
 cases o with
 |none=>cases u with
  |none=>rfl
  |some _=>exact(show False from r).elim
 |some _=>cases u with
  |none=>exact(show False from r).elim
  |some _=>rfl
theorem KV.any{kvs:List (κ×V)}{vs:List (κ×Value)}(r:KV kvs vs)(k:κ):(kvs.any λkv=>decide (kv.1=k))=vs.any λkv=>decide (kv.1=k):=by
 unfold KV at r
 induction r with
 |nil=>rfl
 |cons h t ih=>rw[List.any_cons,List.any_cons,ih,h.1]
theorem KV.repl{kvs:List (κ×V)}{vs:List (κ×Value)}(r:KV kvs vs)(k:κ){y:V}{u:Value}(ry:aI y u) :
  KV (kvs.map λkv=>if kv.1=k then(kv.1,y) else kv) (vs.map λkv=>if kv.1=k then(kv.1,u) else kv):=by
 unfold KV at r ⊢
 induction r with
 |nil=>exact .nil
 | @cons p q ps qs h t ih=>
  rw[xy,xy];refine .cons ?_ ih;obtain⟨h1,h2⟩:=h
  by_cases e:p.1=k
  ·rw[q07 e,q07 (h1.symm.trans e)];exact⟨h1,ry⟩
  ·rw[q06 e,q06 (λz=>e (h1.trans z))];exact⟨h1,h2⟩
theorem KV.put{kvs:List (κ×V)}{vs:List (κ×Value)}(r:KV kvs vs)(k:κ){y:V}{u:Value}(ry:aI y u):KV (eO kvs k y) (stored vs k u):=by
 unfold eO stored;rw[r.any k]
 by_cases e:(vs.any λa=>decide (a.1=k))=true
 ·rw[q07 e,q07 e];exact r.repl k ry
 ·rw[q06 e,q06 e];exact Paired.snoc r ⟨rfl,ry⟩
theorem KV.length{kvs:List (κ×V)}{vs:List (κ×Value)}(r:KV kvs vs):kvs.length=vs.length:=Paired.length r
end
theorem rW{u:Value}(r:aI (kV k) u):(bz P w).is k u=true:=by
 cases k with
 |inl i=>obtain⟨t,e⟩:=(show ∃t,u=Value.int i t from r);subst e;exact j7 P w i t
 |inr x=>obtain⟨t,e⟩:=(show ∃t,u=Value.str x t from r);subst e;exact jN P w x t
theorem ib:∀{ks:List b7} {us:Af},aD (ks.map kV) us->ItemsAre (bz P w) ks us
 | [],_,r=>by rw[List.map_nil]at r;cases r;exact .nil
 |k::ks,_,r=>by
  rw[xy]at r;cases r with
  |cons h t=>exact .cons (rW h) (ib t)
abbrev KT(H:Hp):List (List b7×V)->List (List b7×Addr×Value)->Prop:=Paired λp q=>p.1=q.1/\H q.2.1=some (.tup (p.1.map kV))/\aI p.2 q.2.2
theorem KT.val(r:KT H kvs xs)(k:List b7):mO (lB kvs k) ((atKey xs k).map (·.2)):=by
 induction r with
 |nil=>exact True.intro
 | @cons p q ps qs h t ih=>
  obtain⟨h1,_,h2⟩:=h
  by_cases e:p.1=k
  ·have a:q.1=k:=h1.symm.trans e
   have b:atKey (q::qs) k=some q.2:=by simp[atKey,List.find?_cons,a]
   rw[jP e,b];exact h2
  ·have a:¬ q.1=k:=λz=>e (h1.trans z)
   have b:atKey (q::qs) k=atKey qs k:=by simp[atKey,List.find?_cons,a]
   rw[jZ e,b];exact ih
theorem KT.repl(r:KT H kvs xs)(k:List b7){y:V}{u:Value}(ry:aI y u) :
  KT H (kvs.map λkv=>if kv.1=k then(kv.1,y) else kv) (xs.map (putAt k u)):=by
 induction r with
 |nil=>exact .nil
 | @cons p q ps qs h t ih=>
  rw[xy,xy];refine .cons ?_ ih;obtain⟨h1,h2,a⟩:=h;unfold putAt
  by_cases e:p.1=k
  ·rw[q07 e,q07 (h1.symm.trans e)];exact⟨h1,h2,ry⟩
  ·rw[q06 e,q06 (λz=>e (h1.trans z))];exact⟨h1,h2,a⟩
theorem KT.put(r:KT H kvs xs)(k:List b7){b:Addr}{y:V}{u:Value}(hb:H b=some (.tup (k.map kV)))(ry:aI y u) :
  KT H (eO kvs k y) (storedH xs k b u):=by
 have e:(kvs.any λa=>decide (a.1=k))=(atKey xs k).isSome:=by
  rw[kw,(r.val k).isSome_eq,Option.isSome_map]
 unfold eO storedH;rw[e]
 by_cases q:(atKey xs k).isSome=true
 ·rw[q07 q,q07 q];exact r.repl k ry
 ·rw[q06 q,q06 q];exact Paired.snoc r ⟨rfl,hb,ry⟩
theorem KT.keeps{H':Hp}(r:KT H kvs xs)(ht:∀b ys,H b=some (.tup ys)->H' b=some (.tup ys)):KT H' kvs xs:=
 Paired.mapP r λ_ _ z=>⟨z.1,ht _ _ z.2.1,z.2.2⟩
section
variable {P:Aj}{w:Am}{H:Hp}{h:Heap}{a:Addr}
theorem rV(ok:dN P w H h)(e:Rd H a u):ba P w H h a u:=e.ok ok
theorem sd(ok:dN P w H h)(e:Rd H a (.dK kvs)):kvs.length<=sizeLine/\(a==sysModules)=false/\∃vs,KV kvs vs/\h.DictOf (bz P w) a vs:=
 show ba P w H h a (.dK kvs) from rV ok e
theorem qp(ok:dN P w H h)(e:H a=some (.dK kvs)):kvs.length<=sizeLine/\(a==sysModules)=false/\∃vs,KV kvs vs/\h.DictOf (bz P w) a vs:=sd ok (.inl e)
theorem n0{ks:List b7}(ok:dN P w H h)(e:H a=some (.tup (ks.map kV))):(tupleKind (bz P w)).is h ks a:=by
 obtain⟨_,b,r,o,h1,h2,n,c⟩:=(show ba P w H h a (.tup (ks.map kV)) from ok a _ e);exact⟨o,b.toArray,n,h1,h2,c,by simpa using ib r⟩
theorem sq(ok:dN P w H h)(e:Rd H a (.dT kvs)):kvs.length<=sizeLine/\(a==sysModules)=false /\
  ∃xs,KT H kvs xs/\h.DictOfH (tupleKind (bz P w)) a xs:=by
 obtain⟨z,y,xs,r,o,f,g,h1,h2,d,c,b⟩:=(show ba P w H h a (.dT kvs) from rV ok e);refine⟨z,y,xs,r,o,f,g,h1,h2,d,c,λx hx=>?_,b⟩;have all:∀{l:List (List b7×V)} {m:List (List b7×Addr×Value)},KT H l m->∀x∈m,(tupleKind (bz P w)).is h x.1 x.2.1:=by
  intro l m q
  induction q with
  |nil=>intro x hx;exact nomatch hx
  | @cons p q ps qs hq t ih=>
   intro x hx;rcases xf.mp hx with e | hx
   ·subst e
    exact n0 ok (by rw[<- hq.1];exact hq.2.1)
   ·exact ih x hx
 exact all r x hx
theorem t8(ok:dN P w H h)(e:H a=some (.dT kvs)):kvs.length<=sizeLine/\(a==sysModules)=false /\
  ∃xs,KT H kvs xs/\h.DictOfH (tupleKind (bz P w)) a xs:=sq ok (.inl e)
end
def uK(H:Hp)(a:Addr)(y v:V)(H':Hp):Prop:=
 (∃kvs k,H a=some (.dK kvs)/\y=kV k/\kvs.length<sizeLine/\H'=aR H a (.dK (eO kvs k v))) \/
 ∃kvs k b,H a=some (.dT kvs)/\y=.ref b/\H b=some (.tup (k.map kV))/\kvs.length<sizeLine/\H'=aR H a (.dT (eO kvs k v))
section
variable {X:Cx}{pins:Ac}{σ:St}{H:Hp}{s:Ae}{a:Addr}{y v:V}{u r:Value}{o:Option V}{A:Al}{E:Aa}
theorem Inv.big(I:Inv X pins σ H s):sysModules<s.heap.objs.size:=by
 have h:mainGlobals<s.heap.objs.size:=(I.mod.glob.keeps I.bk).lt;exact Nat.lt_trans nofun h
theorem mM{t':Nat}{ob:HO}(I:Inv X pins σ H s)(mu:uz (H a))(hs:Heap.SameBut a s.heap h')(he:∃q,h'.get? a=some q)(new:ba X.prog X.w (aR H a ob) h' a ob) :
  Inv X pins σ (aR H a ob) {s with heap:=h',toks:=t' }:=
 I.write (x:=a) (e:=a) mu (.inl rfl) (λb q hb z=>(hs.2 b hb).trans z) he new
theorem tU{h':Heap}{kvs:List (b7×V)}(z:kvs.length<=sizeLine)(hd:(a==sysModules)=false)(rel:KV kvs vs)(dd:h'.DictOf (bz P w) a vs) :
  ba P w H' h' a (.dK kvs):=⟨z,hd,vs,rel,dd⟩
theorem nG{Q:Unit->Shared->Prop}(hu:A.units+1<cLine)(I:Inv X pins σ H s)(g:uK H a y v H')(ry:aI y u)(rv:aI v r)(h:∀s',Inv X pins σ H' s'->Q () s') :
  wpAny (model X.prog X.w) A (setItem (.ref a) u r) Q E s:=by
 rcases g with⟨f,k,e,t,l,w⟩ | ⟨f,k,b,e,t,D,l,w⟩
 ·subst t w
  obtain⟨z,p,vs,d,x⟩:=qp I.hok e;have m:vs.length<=sizeLine:=by rw[<- d.length];exact z
  have o:(eO f k v).length<=sizeLine:=by have:=fA f k v;omega
  refine wpAny_setItem_pairs (hsz:=m) (rW ry) x λB i n=>h _ ?_;have L:∃q,B.get? a=some q:=let ⟨q,_,_,j,_⟩:=i;⟨q,j⟩
  exact mM I (by rw[e];exact True.intro) n L (tU o p (d.put k rv) i)
 ·subst t w
  cases(show u=Value.ref b from ry);obtain⟨z,p,G,d,x⟩:=t8 I.hok e;have m:G.length<=sizeLine:=by rw[<- Paired.length d];exact z
  have o:(eO f k v).length<=sizeLine:=by have:=fA f k v;omega
  refine wpAny_setItem_heap (hsz:=m) (tupleKind_room_in1 hu) (n0 I.hok D) x λB i n=>h _ ?_;obtain⟨q,S,T,j,h2,R,O,_,M⟩:=i;refine mM I (by rw[e];exact True.intro) n ⟨q,j⟩ ⟨o,p,_,(d.put k D rv).keeps λc ys C=>?_,q,S,T,j,h2,R,O,M⟩;rw[ar (gr C e (λz=>nomatch z))];exact C
end
def oJ(td ty tv:TE):TS:=λD σ H=>tv σ H λv H1=>td σ H1 λx H2=>ty σ H2 λy H3=>∃a H4,x=.ref a/\uK H3 a y v H4/\D.nx σ H4
section
variable {X:Cx}{o i e value:Expr}{pos pos' tpos:Pos}{td ty tv:TE}
theorem qB(hu:X.A.units+1<cLine)(ho:PE X o td)(hi:PE X i ty)(hv:PE X value tv)(hs:swapsWith value (some (.Subscript o i pos')) pos.line X.env=pure false) :
  PS X (.Assign [.Subscript o i pos'] value pos) (oJ td ty tv):=by
 intro b s σ H D I h;refine wpAny_Assign_Subscript (bK (hv b s σ H _ I h) λr d ⟨v,H1,w,j,m⟩=>bK (ho b d σ H1 _ w m) λu c ⟨x,H2,t,f,l⟩=>bK (hi b c σ H2 _ t l) λiv s3 ⟨y,H3,q,e,a,z,n,g,k⟩=>?_) hs;subst n;obtain rfl:u=Value.ref a:=f;exact nG hu q g e j λs4 p=>⟨σ,z,p,k⟩
end
theorem n5(h:Heap)(hb:sysModules<h.objs.size):ba P w H (h.push {cls:=.type "dict",data:=.dict #[]}) h.objs.size (.dK []):=
 ⟨xq _,beq_eq_false_iff_ne.mpr (Ne.symm (xj hb)),[],.nil,Heap.DictOf.new h⟩
def kG:TE:=λ_ H Q=>∀p,H p=none->Q (.ref p) (aR H p (.dK []))
section
variable {X:Cx}{pos:Pos}
theorem nX:PE X (.Dict [] [] pos) kG:=λpins s σ H Q I h=>
 wpAny_Dict_empty ⟨.ref s.heap.objs.size,_,I.laid (a:=s.heap.objs.size) (o:=.dK []) (t':=s.toks) (λ_ _ q=>wS _ q) (xp _) (n5 s.heap I.big),rfl,h _ (I.hok.fresh (xp _))⟩
end
structure M1(X:Cx)(o:Expr)(m:Str)(apos:Pos)(e:Expr)(cpos:Pos):Prop where
 base:attributeBase o m X.env (eval o X.env)=eval o X.env
 few:((backTo cpos (starEach [e] X.env)).all (λx=>!x.1)&&(backToKw cpos (keywordEach [] X.env)).all (λx=>x.1.isSome)
  && decide (([e]:List Expr).length+([]:List Keyword).length+(if([]:List Keyword).isEmpty then 0 else 1)<30))=true
 line:(apos.endLine==cpos.line)=true
 trees:backTo cpos (starEach [e] X.env)=[(false,eval e X.env)]
def wE(H:Hp)(a:Addr):Prop:=(∃kvs,Rd H a (.dK kvs))\/∃kvs,Rd H a (.dT kvs)
theorem tE{pins:Ac}{σ:St}(I:Inv X pins σ H s)(d:wE H a) :
  s.TypeIs (.ref a) "dict"/\(∀b,Value.ref a=.ref b->∃ob,s.heap.get? b=some ob/\ob.dict=none)/\(a==sysModules)=false:=by
 rcases d with⟨f,e⟩ | ⟨f,e⟩
 ·obtain⟨_,g,vs,_,c⟩:=sd I.hok e
  refine⟨c.typeIs,λb q=>?_,g⟩;cases q;obtain⟨ob,_,_,h1,h2,_⟩:=c;exact⟨ob,h1,h2.2.1⟩
 ·obtain⟨_,g,xs,_,c⟩:=sq I.hok e
  refine⟨c.typeIs,λb q=>?_,g⟩;cases q;obtain⟨ob,_,_,h1,h2,_⟩:=c;exact⟨ob,h1,h2.2.1⟩
end L2
namespace Att
open PySem PySem.W PySem.Calls PyProof.Rows
theorem fE:∀(ns:List Int) (vs:Af),WellAll P h vs (ns.map WData.int)->IntsAre vs ns:=by
 intro ns
 induction ns with
 |nil=>
  intro vs w;rw[List.map_nil]at w;cases w;exact .nil
 |cons n ns ih=>
  intro vs w;rw[xy]at w;cases w with
  |cons a b=>
   cases a;exact .cons _ _ (ih _ b)
theorem m8{l:OpenLaw}{n:Nat}(hn:l.most=some n){P:Params}{h:Heap}{args:List WData}{vals:Af}
  (hpre:l.row.toRowW.claim.pre args=true) (hwl:WellAll P h vals args) :
  ∃a vs ns,vals=[Value.ref a]/\args=[WData.list (ns.map WData.int)]/\h.get? a=some {cls:=.type "list",data:=.seq vs.toArray}/\IntsAre vs ns/\ns.length<=n:=by
 have f:WShape.hasAll [] args [.list .int]=true:=(pre_splitW hpre).1;have g:l.pre.holds [] {args:=args}=true:=(pre_splitW hpre).2;obtain⟨d,r,rfl,h1,h2⟩:=hasAllW_cons f;obtain rfl:=hasAllW_nil h2;obtain⟨xs,rfl,j⟩:=hasW_list h1;obtain⟨ns,rfl⟩:=items_int j;have b:ns.length<=n:=by
  unfold OpenLaw.pre at g;have e:(WTm.not (.lt (.lit (.int (n:Int))) (.len (.arg 0)))).holds [] {args:=[.list (ns.map .int)]}=true:=by
   have e:=(holds_andW g).1;rw[hn]at e;exact e
  have c:=condW_of e (w_not (w_lt w_lit (w_len_list (w_arg rfl))));rw[wT]at c;refine Nat.le_of_not_lt λq=>?_;have i:(n:Int)<((ns.length:Nat):Int):=by omega
  first
   | (rw[q09 i]at c;exact q0Q c nofun)
   | (simp at c;omega)
 cases hwl with
 |cons w1 w2=>
  cases w2;cases w1 with
  |list ho hall=>exact⟨_,_,ns,rfl,rfl,ho,fE ns _ hall,b⟩
theorem m_(l:OpenLaw)(args:List WData):l.row.toRowW.claim.post args (.bool true) args=true:=
 postW_of (r:=l.row.toRowW) (X:=(true==true))
  (show WShape.has [] (.bool true) .bool=true by first | rfl | decide | simp[WShape.has,WShape.arms,WShape.armsAll])
  (show(WTm.eq .res (.lit (.bool true))).value [] {args:=args,res:=some (.bool true),after:=args}=some (.bool (true==true)) from w_eq_bool (w_res rfl) w_lit) rfl
theorem attach_call{l:OpenLaw}{n:Nat}{loose:Ak}{XP:(Str->Option Value)->Heap->Prop}{YP:World->Heap->Prop}{d:DefRec}
  (hn:l.most=some n) (hdf:d.params.defaults=[])
  (call:∀(w:Am) (s₀ s₁:Ae) (mg mb:Ah) (fa:Addr) (o:Obj) (pm cd doc:Value) (a:Addr) (vs:Af) (ns:List Int),
   Ground q loose [] XP w s₀ mg mb s₁.heap->YP w s₁.heap ->
   s₁.heap.get? fa=some o->o.data=.func (docDef d.name d.params d.body d.scope pm cd doc)->s₁.heap.CodeRec cd d.name->mg d.name=some (.ref fa) ->
   s₁.heap.get? a=some {cls:=.type "list",data:=.seq vs.toArray}->IntsAre vs ns->ns.length<=n->s₁.gens=#[] ->
   codeAny (model l.prog w) callerA (.call (.ref fa) ⟨[.ref a],[]⟩) (λr s'=>r=.ok (.ret (.bool true))/\OldK s₁.heap s'.heap/\s'.os=s₁.os/\AllBare s'.gens) s₁) :
  WalkO q loose XP YP l.row.toRowW d [] (λf vs=>PySem.call f vs):=by
 intro w s₀ s₁ mg mb G Y fa o pm cd doc B kV t x k m j v args vals as c hlay hrd i hlo;obtain rfl:B=.none:=Dflts.none m hdf;obtain rfl:kV=.none:=Dflts.noKw m;obtain⟨a,vs,ns,rfl,rfl,e,b,g⟩:=m8 hn c i;refine enter_call (codeAny_mono (call w s₀ s₁ mg mb fa o pm cd doc a vs ns G Y t (fd_plain x) k j e b g v) λr s' p=>?_);obtain⟨rfl,h2,z,y⟩:=p;exact⟨.inl ⟨.bool true,.bool true,[],rfl,λ_=>rfl,.bool true,m_ l _,λ_=>⟨List.Pairwise.nil,λ_ u=>(nomatch u)⟩⟩,h2,z,y⟩
section
variable {prog:Aj}{w:Am}{A:Al}{E:Aa}{s:Ae}{K:Frag}
end
end Att
namespace L2
open PySem PySem.Spec PyProof.Rows
theorem iA:∀{vs:Af} {ns:List Int},IntsAre vs ns->aD (ns.map V.int) vs
 |_,_,.nil=>.nil
 |_,_,.cons n t h=>.cons ⟨t,rfl⟩ (iA h)
def sG(H:Hp):Prop:=∀b,H b=none\/∃o xs,H b=some (.frz o (.lst xs))
theorem oB{K:Ab}{mg mb:Ah}{CX:eG}{fa a:Addr}{x:Str}{sp:Sp}{s₁:Ae}{vs:Af}
  (KX:K.In s₁.heap) (hns:s₁.heap.Ns mainGlobals mg) (hb:s₁.heap.Ns builtinsNs mb) (hbb:∀x:Str,x≠"__name__"->mb x=bootBuiltins x) (hlim:s₁.heap.NoLimit) (hg:s₁.gens=#[])
  (ha:s₁.heap.get? a=some {cls:=.type "list",data:=.seq vs.toArray}) (hi:IntsAre vs ns) (hl:ns.length<=sizeLine) (hr:cr k callerA)
  (F:∀base:Heap,K.In base->base.Ns mainGlobals mg->bH P w K mg base CX k fa fd [x] sp) (hbind:∀(s:Ae) (u:Value),BindsTo s fd ⟨[u],[]⟩ [(x,u)])
  (hsp:∀H:Hp,sG H->aS K H a (ns.map V.int)->sp [.ref a] H (λv _=>v=.bl true) λ_ _ _=>False)
  (hCX:∀H e s',CX [] H s₁ (λ_ _ _=>False) e s'->False) :
  codeAny (model P w) callerA (.call (.ref fa) ⟨[.ref a],[]⟩) (λr s'=>r=.ok (.ret (.bool true))/\OldK s₁.heap s'.heap/\s'.os=s₁.os/\AllBare s'.gens) s₁:=by
 have G:=iA hi;have j:=hi.length
 -- from an abstract heap in which nothing but the script may be tracked
 have g:∀H:Hp,sG H->aS K H a (ns.map V.int)->dN P w H s₁.heap->(∀b,H b≠none->b=a)->(H a≠none->K.lookup a=none) ->
   codeAny (model P w) callerA (.call (.ref fa) ⟨[.ref a],[]⟩) (λr s'=>r=.ok (.ret (.bool true))/\OldK s₁.heap s'.heap/\s'.os=s₁.os/\AllBare s'.gens) s₁:=by
  intro H I U p L Z;have c:∀{b:Addr} {o:Obj},s₁.heap.get? b=some o->H b=none->(ja s₁.heap H).get? b=some o:=λe n=>oG e n;have B:∀{b:Addr} {o:Obj} {es:Array DictEntry} {ep:Nat},s₁.heap.get? b=some o->o.data=.dict es ep->H b=none:=fun{b o es ep} e d=>by
   cases q:H b with
   |none=>rfl
   |some u=>
    have D:b=a:=L b (by rw[q];simp);subst D;rw[ha]at e;cases e
    have d':Data.seq vs.toArray _=Data.dict es ep:=d;cases d'
  have f:∀{b:Addr} {m:Ah},s₁.heap.Ns b m->(ja s₁.heap H).Ns b m:=fun{b m} ⟨o,es,ep,e,d,r⟩=>⟨o,es,ep,c e (B e d),d,r⟩;have t:K.In (ja s₁.heap H):=λb o e=>c (KX b o e) (by
   cases q:H b with
   |none=>rfl
   |some u=>
    have D:b=a:=L b (by rw[q];simp);subst D;rw[Z (by rw[q];simp)]at e;cases e)
  have Y:Mod K mg (ja s₁.heap H):=⟨t,f hns,⟨mb,f hb,hbb⟩,let ⟨mc,h1,h2⟩:=hlim;⟨mc,f h1,h2⟩⟩;have e0:kq P w K mg (ja s₁.heap H) callerA [] s₁ H:=⟨rfl,Y,λb o e=>qI e,Nat.le_of_eq (mR _ _),trivial,λb hb=>q0Q (show b∈([]:List Addr) from hb) (by simp),p,.of_eq hg⟩;refine codeAny_mono ((F _ t (f hns)).run callerA [] s₁ H ⟨[.ref a],[]⟩ [.ref a] [.ref a] _ _ hr e0 (hbind s₁ (.ref a)) (.cons rfl .nil) (hsp H I U)) λr s' h=>?_;cases r with
  |error e=>exact(hCX H e s' h).elim
  |ok fl=>
   cases fl with
   |next=>exact False.elim h
   |brk=>exact False.elim h
   |cont=>exact False.elim h
   |ret u=>
    obtain⟨v,H',os,y,un,l,R,q⟩:=h;have S:v=.bl true:=q;subst S;obtain rfl:u=Value.bool true:=R;refine⟨rfl,OldK.of_keep λb o e=>?_,os,y⟩;cases q:H b with
    |none=>exact un.keep b o e q (by intro z;exact q0Q (show b∈([]:List Addr) from z) (by simp)) (by simp)
    |some u=>
     rcases I b with z | ⟨T,xs,z⟩
     ·rw[q]at z;cases z
     ·have O:=un.frzs b T _ z
      obtain⟨M,_⟩:=p b _ z;obtain⟨e2,_⟩:=l b _ O;rw[e]at M;cases M
      exact e2
 cases C:K.lookup a with
 |some o=>
  -- the script is one of the module's own objects
  have e:=KX a o C;rw[ha]at e;cases e;refine g (λ_=>none) (λ_=>.inl rfl) (.inr ⟨_,vs.toArray,_,C,rfl,rfl,rfl,by rw[wZ,j];exact hl,by simpa using G⟩) (λb u z=>by have i:(none:Option HO)=some u:=z;cases i) (λb z=>q0Q rfl z) λz=>q0Q rfl z
 |none=>
  refine g (λb=>if b=a then some (.frz {cls:=.type "list",data:=.seq vs.toArray} (.lst (ns.map V.int))) else none) (λb=>?_) (.inl (.inr ⟨{cls:=.type "list",data:=.seq vs.toArray},q07 rfl⟩)) (λb u z=>?_) (λb z=>?_) λ_=>C
  ·by_cases hb:b=a
   ·exact .inr ⟨_,_,q07 hb⟩
   ·exact .inl (q06 hb)
  ·by_cases hb:b=a
   ·have i:=(q07 hb).symm.trans z
    cases i;subst hb;exact⟨ha,by rw[wT];exact hl,vs,_,G,ha⟩
   ·have i:=(q06 hb).symm.trans z
    cases i
  ·by_cases hb:b=a
   ·exact hb
   ·exact q0Q (q06 hb) z
theorem walk_of{l:PySem.W.OpenLaw}{n:Nat}{loose:Ak}{XP:(Str->Option Value)->Heap->Prop}{YP:World->Heap->Prop}{d:DefRec}{K:Params->PySem.W.Frag}{CX:World->eG}{sp:World->Sp}{x:Str}
  (hn:l.most=some n) (hn2:n<=sizeLine) (hdf:d.params.defaults=[]) (hr:cr k callerA)
  (hY:∀(w:Am) (h:Heap),YP w h->(K w.params).In h)
  (F:∀(w:Am) (mg:Ah) (fa:Addr) (h:Heap),(K w.params).In h->h.Ns mainGlobals mg->mg d.name=some (.ref fa) ->
   ∃fd:FuncData,(∀(s:Ae) (u:Value),BindsTo s fd ⟨[u],[]⟩ [(x,u)]) /\
    ∀base:Heap,(K w.params).In base->base.Ns mainGlobals mg->bH l.prog w (K w.params) mg base (CX w) k fa fd [x] (sp w))
  (hsp:∀(w:Am) (H:Hp) (a:Addr) (ns:List Int),ns.length<=n->sG H->aS (K w.params) H a (ns.map V.int)->sp w [.ref a] H (λv _=>v=.bl true) λ_ _ _=>False)
  (hCX:∀(w:Am) (H:Hp) (s:Ae) (e:Value) (s':Ae),CX w [] H s (λ_ _ _=>False) e s'->False) :
  PySem.W.WalkO q loose XP YP l.row.toRowW d [] (λf vs=>PySem.call f vs):=by
 refine Att.attach_call hn hdf λw s₀ r mg mb fa o pm cd doc a vs ns G Y ho hd hcd m j i c t=>?_;have p:=hY w _ Y;obtain⟨fd,y,C⟩:=F w mg fa _ p G.T.g m;exact oB p G.T.g G.T.b G.T.builtins G.T.nolimit t j i (xz c hn2) hr C y (λH B z=>hsp w H a ns c B z) λH e s'=>hCX w H r e s'
def cc(s:Stmt):Arguments:=match s with
 | .FunctionDef _ a _ _ _ _ _ _ _ _=>a
 |_=>{posonlyargs:=[],args:=[],vararg:=none,kwonlyargs:=[],kw_defaults:=[],kwarg:=none,defaults:=[]}
def bX(s:Stmt):List Stmt:=match s with
 | .FunctionDef _ _ b _ _ _ _ _ _ _=>b
 |_=>[]
def av(s:Stmt):Scope:=match s with
 | .FunctionDef _ _ _ _ _ _ sc _ _ _=>sc
 |_=>{kind:=.function,names:=[],isGenerator:=false,isCoroutine:=false}
abbrev cv:eG:=λ_ _ _ _ _ _=>False
abbrev E0:XK:=λ_ _ _=>False
theorem bI:iK cv X E0:=λ_ _ _ _ _ _ _ h=>h.elim
structure fM(K:Ab)(x qual:Str)(st:Stmt)(f:Addr)(fd:Ai):Prop where
 ex:∃(oc:Value) (od:An) (kV doc pm:Value) (an:An) (cdv ct:Value) (osl:Array (Option Value)),
  fd=PySem.W.fnOf x qual (cc st) (bX st) (av st) .none kV doc pm an cdv ct/\K.lookup f=some ⟨oc,od,.func fd,osl⟩/\PySem.W.codeIn K cdv qual=true
 kp:PySem.W.keepIn K (.ref f)=true
section
variable {P:Aj}{w:Am}{K:Ab}{mg:Ah}{base:Heap}
theorem fM.ok{qual:Str}{st:Stmt}{ps:Ak}{sp:Sp}(F:fM K x qual st f fd)(S:aV N ps (av st))(len:∀vs H Q E,sp vs H Q E->vs.length=ps.length)
  (hbody:∀(cdv:Value) (A:Al) (outer:List Env) (s:Ae) (H:Hp) (vs:List V) (Q:VK) (E:XK),cr k (A.deeper (envOfC qual (av st) s.heap.objs.size f cdv))->sp vs H Q E ->
   ∃t,lI (jD cv P w K mg base N qual (av st) f cdv A outer s H E).nox (bX st) t/\t {nx:=λ_ H'=>Q .non H',rt:=Q} (start N vs) H):↑bH (k+1) f fd ps sp:=by
 obtain⟨oc,od,kV,doc,pm,an,cdv,ct,osl,rfl,c,b⟩:=F.ex;refine uy c b S len λA outer s H vs Q E hr a=>?_;obtain⟨t,h,q⟩:=hbody cdv A outer s H vs Q E hr a;exact⟨t,h.nox,q⟩
theorem fM.binds{qual:Str}{st:Stmt}{ps:Ak}(F:fM K x qual st f fd)
  (h:∀(kV doc pm:Value) (an:An) (cdv ct:Value) (us:Af),us.length=ps.length->bindArgs (PySem.W.fnOf x qual (cc st) (bX st) (av st) .none kV doc pm an cdv ct) ⟨us,[]⟩=pure (ps.zip us)):cy K fd ps []:=by
 obtain⟨oc,od,kV,doc,pm,an,cdv,ct,osl,rfl,lk,hcd⟩:=F.ex;exact .all (h kV doc pm an cdv ct)
theorem qy{qual:Str}{st:Stmt}{oc:Value}{od an:An}{osl:Array (Option Value)}{kV doc pm cdv ct:Value}(l:K.lookup f=some ⟨oc,od,.func (PySem.W.fnOf x qual (cc st) (bX st) (av st) .none kV doc pm an cdv ct),osl⟩)
  (c:PySem.W.codeIn K cdv qual=true) (k:PySem.W.keepIn K (.ref f)=true):fM K x qual st f (PySem.W.fnOf x qual (cc st) (bX st) (av st) .none kV doc pm an cdv ct):=⟨⟨oc,od,kV,doc,pm,an,cdv,ct,osl,rfl,l,c⟩,k⟩
end
section
variable {X:Cx}
theorem pv(i:Nat){x:Str}{pos:Pos}(hN:autoParam (X.N[i]?=some x) zz0._auto_1)(hv:autoParam (uT X.env.scope x) zz4._auto_1)(hd:autoParam ((x==("__debug__":Str))=false) zz1._auto_1)
  (hcd:autoParam ((x==("__classdict__":Str))=false) zz1._auto_1):PE X (.Name x pos) (q8 i):=sw hN hv hd hcd
end
def aE(H H':Hp):Prop:=∀b o,H b=some o->H' b=some o
theorem aE.refl(H:Hp):aE H H:=λ_ _ h=>h
theorem aE.trans{H1 H2:Hp}(a:aE H H1)(b:aE H1 H2):aE H H2:=λc o h=>b c o (a c o h)
theorem aE.free(e:aE H H'){l:Addr}(h:H' l=Option.none):H l=Option.none:=by
 cases q:H l with
 |none=>rfl
 |some o=>
  rw[e l o q]at h;cases h
theorem aE.seq{K:Ab}(e:aE H H')(h:aS K H a xs):aS K H' a xs:=by
 rcases h with(h | ⟨o,h⟩) | h
 ·exact .inl (.inl (e _ _ h))
 ·exact .inl (.inr ⟨o,e _ _ h⟩)
 ·exact .inr h
end L2
namespace PySem
open Sem (wp)
open Builtin Builtin.Str Builtin.Int
namespace F
theorem fb:Manifest.owners.lookup "reversed"=some Manifest.sig_reversed:=by kernel_rfl
theorem slot_rvs_next:Slot "reversed" "__next__" "reversed.__next__":=
 .of (owner:="reversed") (n:="__next__") (by rw[typeLookup_type,builtinLookup_eq_fast];kernel_rfl) (by decide +kernel) (by decide +kernel) (by decide +kernel)
  (by first | exact .inl (by decide +kernel) | exact .inr (by decide +kernel)) (by rw[isSubtype_type];kernel_rfl)
theorem entry_rvs_next:entryFor table "reversed.__next__"=some Builtin.«reversed.__next__»:=entryFor_of_tree (by kernel_rfl)
theorem slot_rvs_iter:Slot "reversed" "__iter__" "reversed.__iter__":=
 .of (owner:="reversed") (n:="__iter__") (by rw[typeLookup_type,builtinLookup_eq_fast];kernel_rfl) (by decide +kernel) (by decide +kernel) (by decide +kernel)
  (by first | exact .inl (by decide +kernel) | exact .inr (by decide +kernel)) (by rw[isSubtype_type];kernel_rfl)
theorem nolen_rvs:typeLookup (.type "reversed") "__len__"=pure none:=by rw[typeLookup_type,builtinLookup_eq_fast];kernel_rfl
theorem hint_rvs:typeLookup (.type "reversed") "__length_hint__"=pure (some (.builtin "reversed.__length_hint__")):=by rw[typeLookup_type,builtinLookup_eq_fast];kernel_rfl
theorem args_rvs_next_1(a:Value):argsOk "reversed.__next__" ⟨[a],[]⟩:=by
 unfold argsOk;rw[signature?_of (id:="reversed.__next__") (n:=['_','_','t','x','e','n','_','_']) (o:=['d','e','s','r','e','v','e','r']) (by kernel_rfl) fb];kernel_rfl
theorem args_rvs_iter_1(a:Value):argsOk "reversed.__iter__" ⟨[a],[]⟩:=by
 unfold argsOk;rw[signature?_of (id:="reversed.__iter__") (n:=['_','_','r','e','t','i','_','_']) (o:=['d','e','s','r','e','v','e','r']) (by kernel_rfl) fb];kernel_rfl
theorem entry_rvs_iter:entryFor table "reversed.__iter__"=some Builtin.«dict_keyiterator.__iter__»:=
 entryFor_alias (id':="dict_keyiterator.__iter__") (by kernel_rfl) (by first | rfl | decide +kernel | (unfold String.splitOn;simp +decide [String.splitOnAux])) (by decide +kernel) (by kernel_rfl)
theorem slot_rvs_hint:Slot "reversed" "__length_hint__" "reversed.__length_hint__":=
 .of (owner:="reversed") (n:="__length_hint__") (by rw[typeLookup_type,builtinLookup_eq_fast];kernel_rfl) (by decide +kernel) (by decide +kernel) (by decide +kernel)
  (by first | exact .inl (by decide +kernel) | exact .inr (by decide +kernel)) (by rw[isSubtype_type];kernel_rfl)
theorem entry_rvs_hint:entryFor table "reversed.__length_hint__"=some Builtin.«reversed.__length_hint__»:=entryFor_of_tree (by kernel_rfl)
theorem args_rvs_hint_1(a:Value):argsOk "reversed.__length_hint__" ⟨[a],[]⟩:=by
 unfold argsOk;rw[signature?_of (id:="reversed.__length_hint__") (n:=['_','_','t','n','i','h','_','h','t','g','n','e','l','_','_']) (o:=['d','e','s','r','e','v','e','r']) (by kernel_rfl) fb];kernel_rfl
end F
section
variable {prog:Aj}{w:Am}{A:Al}{E:Aa}{s:Ae}
def kP(x:Str)(t:Tok)(i:Int):Obj:={cls:=.type "reversed",data:=.fields #[.str x t,rawInt i]}
def Heap.IsRvs(h:Heap)(a:Addr)(x:Str)(t:Tok)(i:Int):Prop:=∃o,h.get? a=some o/\o.cls=.type "reversed"/\o.data=.fields #[.str x t,rawInt i]
theorem Heap.IsRvs.typeIs(y:s.heap.IsRvs a x t i):s.TypeIs (.ref a) "reversed":=let ⟨o,ho,hc,_⟩:=y;⟨o,ho,hc⟩
theorem Heap.IsRvs.at{h h':Heap}(y:h.IsRvs a x t i)(e:∀o,h.get? a=some o->h'.get? a=some o):h'.IsRvs a x t i:=let ⟨o,ho,r⟩:=y;⟨o,e _ ho,r⟩
theorem dc{it:Addr}{i c:Nat}{Q:Option Value->Shared->Prop}(hit:s.heap.IsRvs it x t (i:Int))(hx:x.cps[i]?=some c)(hsz:i<2 ^ 63)
  (hQ:∀h' tk tk',h'.IsRvs it x t ((i:Int)-1)->Heap.SameBut it s.heap h'->Q (some (.str ⟨#[c]⟩ tk)) {s with heap:=h',toks:=tk' }):wpAny a⁻¹ A (pyNext (.ref it)) Q E s:=by
 obtain⟨o,d,j,b⟩:=id hit;have f:i<x.length:=(Array.getElem?_eq_some_iff.mp hx).1;unfold pyNext;refine q04 (wpAny_attempt (wpAny_callSpecial?_slot (name:=Str.ofString "__next__") hit.typeIs F.slot_rvs_next
  (wpAny_call_entry F.slot_rvs_next hit.typeIs F.entry_rvs_next ?_ (F.args_rvs_next_1 _))))
 unfold Builtin.«reversed.__next__»;refine q04 (wpAny_of_eq (a:=(Value.ref it,[])) rfl ?_)
 try dsimp only
 refine q04 (wpAny_field d b (x:=.str x t) rfl ?_);refine q04 (wpAny_field d b (x:=rawInt (i:Int)) rfl ?_);show wpAny _ _ (if(i:Int)<0 then _ else _) _ _ s;rw[q06 ⋯];refine q04 (wpAny_specialOf (typeIs_str s x t) F.slot_str_getitem.lookup ?_)
 try dsimp only
 first
 |rw[q06 (show ¬ ((some (Value.builtin "str.__getitem__")).isNone=true) from xt)]
 |skip
 refine q04 (wpAny_mkInt ?_);refine q04 (wpAny_attempt ?_);have k:(seqIndex? (i:Int) x.length).bind (x.cps[·]?)=some c:=by
  have e:seqIndex? (i:Int) x.length=some i:=by
   have g:¬ ((i:Int)<0):=by omega
   unfold seqIndex?;simp[g,f]
  rw[e];exact hx
 refine P.getItem_str (c:=c) (by simp;omega) k ?_;dsimp only;refine q04 (wpAny_field d b (x:=rawInt (i:Int)) rfl ?_);show wpAny _ _ (setField (Value.ref it) 1 (rawInt ((i:Int)-1)) >>= λ_=>ret (Value.str ⟨#[c]⟩ _)) _ _ _;refine q04 (wpAny_setField d b (by simp) ?_);refine q05 ⟨_,rfl,q05 (hQ _ _ _ ?_ (Heap.SameBut.update ..))⟩;exact⟨_,w9 _ d (Obj.isFreed_of_fields (Obj.data_mapFields b _)),(Obj.cls_mapFields ..).trans j,by
  rw[Obj.data_mapFields b];simp⟩
theorem du{it:Addr}{Q:Option Value->Shared->Prop}(hh:A.handled=none)(hit:s.heap.IsRvs it x t (-1))
  (hQ:∀h',Heap.ExtBut it s.heap h'->Q none {s with heap:=h' }):wpAny a⁻¹ A (pyNext (.ref it)) Q E s:=by
 obtain⟨o,d,hc,c⟩:=id hit;unfold pyNext;refine q04 (wpAny_attempt (wpAny_callSpecial?_slot (name:=Str.ofString "__next__") hit.typeIs F.slot_rvs_next
  (wpAny_call_entry F.slot_rvs_next hit.typeIs F.entry_rvs_next ?_ (F.args_rvs_next_1 _))))
 unfold Builtin.«reversed.__next__»;refine q04 (wpAny_of_eq (a:=(Value.ref it,[])) rfl ?_)
 try dsimp only
 refine q04 (wpAny_field d c (x:=.str x t) rfl ?_);refine q04 (wpAny_field d c (x:=rawInt (-1)) rfl ?_);show wpAny _ _ (if(-1:Int)<0 then _ else _) _ _ s;rw[q07 nofun];refine q04 (wpAny_rule ?_);show wpAny _ _ ((setField (Value.ref it) 1 (rawInt (-1)) >>= λ_=>setField (Value.ref it) 0 .none) >>= _) _ _ _;refine q04 (q04 (wpAny_setField d c (by simp) ?_));have e:=w9 (Obj.mapFields (·.setIfInBounds 1 (rawInt (-1)))) d (Obj.isFreed_of_fields (Obj.data_mapFields c _));refine wpAny_setField e (Obj.data_mapFields c _) (by simp) ?_;dsimp only;show wpAny _ _ (SmallTypes.stopIteration >>= _) _ _ _;refine q04 ?_;unfold SmallTypes.stopIteration
 first
 |show wpAny _ _ (newExc (.type "StopIteration") [] >>= _) _ _ _
 | (refine q04 ?_;show wpAny _ _ (newExc (.type "StopIteration") [] >>= _) _ _ _)
 refine q04 ?_;simp only[newExc,newTuple];refine q04 (wpAny_newObj_type ?_ (by size_fits));refine q04 (m:=firstArgMember _ _) (wpAny_of_eq (a:=Value.none) (by first | rfl | (simp only[firstArgMember];rfl)) ?_);refine wpAny_newObj_type ?_ (by size_fits);simp only[raiseNew];refine q04 (wpAny_handled ?_)
 first | rw[show A.in1.handled=none from hh] | rw[hh]
 refine q04 (q05 (wpAny_throw ?_));refine q04 (wpAny_isInstance (T:="StopIteration") (b:=true) ⟨_,wY _ rfl,rfl⟩ isSubtype_stop ?_);refine q05 (hQ _ ?_);intro b ob f g;exact wS _ (wS _ ((wX _ _ (Ne.symm f)).trans ((wX _ _ (Ne.symm f)).trans g)))
theorem cR{it:Addr}{Q:Aa}(hit:s.heap.IsRvs it x t i)(h:Q (.ref it) s):wpAny a⁻¹ A (pyIter (.ref it)) Q E s:=by
 refine wpAny_pyIter_slot hit.typeIs F.slot_rvs_iter (wpAny_call_entry F.slot_rvs_iter hit.typeIs F.entry_rvs_iter ?_ (F.args_rvs_iter_1 _));show wpAny _ _ (ret (.ref it)) _ _ s;exact q05 ⟨_,rfl,"reversed",_,hit.typeIs,F.slot_rvs_next.lookup,h⟩
theorem hint_rvs{it:Addr}{Q:Aa}(hit:s.heap.IsRvs it x t i)(hi:i<x.length)(hz:x.length<=sizeLine)
  (h:∀u tk,s.toks<=tk->Q (.int (i+1) u) {s with toks:=tk}):wpAny a⁻¹ A (call (.builtin "reversed.__length_hint__") [.ref it]) Q E s:=by
 obtain⟨o,b,hc,c⟩:=id hit;refine wpAny_call_entry F.slot_rvs_hint hit.typeIs F.entry_rvs_hint ?_ (F.args_rvs_hint_1 _);unfold Builtin.«reversed.__length_hint__»;refine q04 (wpAny_of_eq (a:=Value.ref it) rfl ?_);refine q04 (wpAny_field b c (x:=.str x t) rfl ?_);show wpAny _ _ (if(Value.str x t==Value.none)=true then _ else _) _ _ s;rw[q06 (show ¬ ((Value.str x t==Value.none)=true) from λz=>by cases(eq_of_beq z))];have hs:sizeLine=16777216:=q0W;refine q04 (P.len_str ⋯ ?_);refine q04 (m:=asInt? _) (q05 ?_);dsimp only;refine q04 (wpAny_field b c (x:=rawInt i) rfl ?_);show wpAny _ _ (if(x.length:Int)<i+1 then _ else _) _ _ _;rw[q06 ⋯];show wpAny _ _ (mkInt (i+1) >>= λv=>ret v) _ _ _;exact q04 (wpAny_mkInt (q05 ⟨_,rfl,h _ _ (by simp;omega)⟩))
theorem Walks.rvs{A:Al}(hh:A.handled=none)(I:Addr)(x:Str)(t:Tok)(hz:x.length<=sizeLine) :
  Walks prog w A I [I] [I] x.length (λi v=>∃c tk,x.cps[x.length-1-i]?=some c/\v=.str ⟨#[c]⟩ tk) (λi h=>i<=x.length/\h.IsRvs I x t ((x.length:Int)-1-(i:Int))) where
 sub:=λb hb=>hb
 frame:=λ_ _ _ y hk=>⟨y.1,y.2.at λo e=>hk I (by simp) o e⟩
 item:=λi s Q E hi y hQ=>by
  have e:(x.length:Int)-1-(i:Int)=((x.length-1-i:Nat):Int):=by omega
  have a:=y.2;rw[e]at a;have hb:x.length-1-i<x.cps.size:=by have:x.length=x.cps.size:=rfl;omega
  have m:x.cps[x.length-1-i]?=some (x.cps[x.length-1-i]'hb):=Array.getElem?_eq_getElem hb;have hs:sizeLine=16777216:=q0W;refine dc a m ⋯ λk tk f d g=>?_;have n:((x.length-1-i:Nat):Int)-1=(x.length:Int)-1-((i+1:Nat):Int):=by omega
  rw[n]at d;exact hQ _ k f ⟨_,tk,m,rfl⟩ ⟨hi,d⟩ λb o hb l=>g.extBut b o (λh=>hb (by simp[h])) l
 done:=λs Q E y hQ=>by
  have e:(x.length:Int)-1-(x.length:Int) = -1:=by omega
  have a:=y.2;rw[e]at a;exact du hh a λk j=>hQ k s.toks λb o hb l=>j b o (λh=>hb (by simp[h])) l
 self:=λ_ _ _ _ y hQ=>cR y.2 hQ
theorem d_{Q:List Value->Shared->Prop}(hh:A.handled=none)(hit:s.heap.IsRvs I x t ((x.length:Int)-1))(hz:x.length<=sizeLine)
  (hQ:∀s' acc,Moved [I] (λa b=>b=a) s s'->ItemsOf (λi v=>∃c tk,x.cps[x.length-1-i]?=some c/\v=.str ⟨#[c]⟩ tk) acc x.length->Q acc.toList s'):wpAny a⁻¹ A (collect (.ref I)) Q E s:=by
 have W:=(Walks.rvs (prog:=prog) (w:=w) (A:=A.in1) hh I x t hz).toS;have hn:x.length<=sizeLine:=hz;have hst:(λi (s:Ae)=>i<=x.length/\s.heap.IsRvs I x t ((x.length:Int)-1-(i:Int))) 0 s:=⟨xq _,by simpa using hit⟩;have hT:∀i (s:Ae),(i<=x.length/\s.heap.IsRvs I x t ((x.length:Int)-1-(i:Int)))->s.TypeIs (.ref I) "reversed":=λi s y=>y.2.typeIs;have hlt:I<s.heap.objs.size:=by obtain⟨o,ho,_⟩:=hit;exact xu ho
 have hSI:s.heap.objs.size≠I:=λe=>xA _ (e▸hlt);have hSf:s.heap.objs.size∉[I]:=λhm=>hSI (wU.mp hm);unfold collect;refine q04 (wpAny_runValue (codeAny_builtin F.entry_proto_collect ?_));rw[Around.under_plainId F.plain_proto_collect _];show wpAny _ A.in1 (newList [] >>= λl=>again (.builtin "list.__iadd__" ⟨[l,.ref I],[]⟩)) _ _ s;refine q04 (wpAny_newObj_type ?_);refine q05 ⟨plainId_quiet F.plain_list_iadd _,codeAny_builtin F.entry_list_iadd ?_⟩;rw[Around.under_plainId F.plain_list_iadd _];have hst₁:=W.frame 0 s (s.heap.push {cls:=.type "list",data:=.seq ([]:List Value).toArray}) s.toks hst (xp _) λb _ o e=>wS _ e;have hS₁:(s.heap.push {cls:=.type "list",data:=.seq ([]:List Value).toArray}).get? s.heap.objs.size=some {cls:=.type "list",data:=.seq ([]:List Value).toArray}:=wY _ rfl;have h1:Builtin.List.listSameRef (.ref s.heap.objs.size) (.ref I)=false:=by simp[Builtin.List.listSameRef,hSI]
 show wpAny _ A.in1 (Builtin.List.listExtendWith (.ref s.heap.objs.size) (.ref I) (.ref s.heap.objs.size)) _ _ _;unfold Builtin.List.listExtendWith;refine q04 (wpAny_typeOf (hT 0 _ hst₁) ?_);rw[q06 (by rw[h1];decide)];refine q04 (W.self 0 _ _ _ hst₁ ?_);refine q04 (q0Y ?_);unfold Builtin.List.listLengthHint;refine q04 (wpAny_specialOf (hT 0 _ hst₁) F.nolen_rvs ?_);show wpAny _ A.in1 (specialOf (Value.ref I) (Str.ofString "__length_hint__") >>= _) _ _ _;refine q04 (wpAny_specialOf (hT 0 _ hst₁) F.hint_rvs ?_)
 (generalize hid:("reversed.__length_hint__":String)=id0;(fail_if_success (clear hid id0));wp_delta;rw[show splitId id0=some ("reversed","__length_hint__") from by subst hid;decide +kernel];subst hid)
 refine q04 (wpAny_isInstance (b:=true) (hT 0 _ hst₁) (by rw[isSubtype_type];kernel_rfl) ?_);rw[q06 (show ¬ ((!true)=true) by decide)];dsimp only
 split
 ·rename_i hsil
  exact q0Q hsil (by decide +kernel)
 refine q04 (wpAny_rule ?_);refine q04 (wpAny_of_eq (F.slot_rvs_hint.bind _) ?_);dsimp only;refine q04 (wpAny_attempt ?_);refine hint_rvs (i:=(x.length:Int)-1-((0:Nat):Int)) hst₁.2 ⋯ hz λu tk htk=>?_;dsimp only;have hs:sizeLine=16777216:=q0W;have hk:Builtin.List.listTooLong (Int.toNat ((x.length:Int)-1-((0:Nat):Int)+1))=false:=by
  unfold Builtin.List.listTooLong;have e:Int.toNat ((x.length:Int)-1-((0:Nat):Int)+1)=x.length:=by omega
  rw[e]
  simpa using hz
 refine q04 (m:=asInt? (.int _ u)) (q05 ?_);dsimp only;have hfit:Builtin.List.listFitsIndex ((x.length:Int)-1-((0:Nat):Int)+1)=true:=by
  unfold Builtin.List.listFitsIndex;simp;omega
 rw[q06 (by rw[hfit];decide),q06 ⋯,q06 (by rw[hk];decide)];refine q05 ?_
 -- the loop,from a list that may have been touched
 have fin:∀(h₂:Heap) (c:Nat),(∀b o,b≠s.heap.objs.size->(s.heap.push {cls:=.type "list",data:=.seq ([]:List Value).toArray}).get? b=some o->h₂.get? b=some o) ->
   h₂.get? s.heap.objs.size=some {cls:=.type "list",data:=.seq ([]:List Value).toArray c} ->
   codeAny a⁻¹ A (.builtin "list.extend.loop" ⟨[.ref s.heap.objs.size,.ref I,.ref s.heap.objs.size],[]⟩) (λr s'=>match r with
    | .ok (.ret v)=>wpAny a⁻¹ A (match v with
     | .ref a=>do
      let __do_lift <- load a
      match __do_lift.data with
       | .seq xs _=>pure xs.toList
       |_=>unsupported "internal:collect"
     |_=>unsupported "internal:collect") Q E s'
    | .ok _=>False
    | .error e=>E e s') {s with heap:=h₂,toks:=tk}:=λh₂ c keep hS₂=>by
  have hst₂:(λi (s:Ae)=>i<=x.length/\s.heap.IsRvs I x t ((x.length:Int)-1-(i:Int))) 0 {s with heap:=h₂,toks:=tk}:=⟨xq _,hst₁.2.at λo e=>keep I o (Ne.symm hSI) e⟩;refine codeAny_extend_loopS W hn _ hSf _ x.length 0 _ _ _ rfl (xq _) hst₂ hS₂ (ItemsOf.nil _) λs' acc' c' hm hS' hacc=>?_;show wpAny _ A (load s.heap.objs.size >>= _) _ _ s';refine q04 (wpAny_load hS' ?_);refine q05 (hQ s' acc' ?_ hacc);exact⟨λb ob hb e=>hm.heap b ob (λhm'=>by
    rcases xf.mp hm' with e1 | hm'
    ·exact q0Q (e1▸xu e) (xA _)
    ·exact hb hm') (keep b ob (λe1=>q0Q (e1▸xu e) (xA _)) (wS _ e)),hm.gens,hm.drawn,hm.os,xz htk hm.toks⟩
 have quiet:=plainId_quiet F.plain_extend_loop (⟨[.ref s.heap.objs.size,.ref I,.ref s.heap.objs.size],[]⟩:Args)
 split
 ·refine q04 (wpAny_rule ?_)
  show wpAny _ A.in1 ((updateSeq s.heap.objs.size (·.push .none) >>= λ_=>updateSeq s.heap.objs.size (·.pop)) >>= _) _ _ _;refine q04 (q04 (wpAny_updateSeq hS₁ rfl ?_ (by simp) (by simp)));have q1:=PySem.IsL.update (h:=s.heap.push {cls:=.type "list",data:=.seq ([]:List Value).toArray}) (l:=s.heap.objs.size) (items:=([]:List Value).toArray) (n:=0) hS₁ (·.push .none);refine wpAny_updateSeq q1 rfl ?_ (by simp;omega) (by simp);have q2:=PySem.IsL.update q1 (·.pop);exact q05 ⟨quiet,fin _ _ (λb o hb e=>(wX _ _ (Ne.symm hb)).trans ((wX _ _ (Ne.symm hb)).trans e)) (show _=some ({cls:=.type "list",data:=.seq ([]:List Value).toArray _}:Obj) from q2)⟩
 ·exact q05 ⟨quiet,fin _ _ (λb o hb e=>e) hS₁⟩
theorem ow{sep:Str}{Q:Aa}(hh:A.handled=none)(hit:s.heap.IsRvs I x t ((x.length:Int)-1))(hz:x.length<=1000)(hsep:sep.length<=1000)
  (h:∀(s':Ae) (t':Tok) (k:Nat),(∀b o,b≠I->s.heap.get? b=some o->s'.heap.get? b=some o)->s'.gens=s.gens->s'.drawn=s.drawn->s'.os=s.os ->
   Q (.str (Txt.join sep (x.cps.toList.reverse.map λc=>(⟨#[c]⟩:Str))) t') {s' with toks:=k}):wpAny a⁻¹ A (call (.builtin "str.join") [.str sep t0,.ref I]) Q E s:=by
 have hs:sizeLine=16777216:=q0W;refine wpAny_call (codeAny_call_builtin F.slot_str_join.plain F.entry_str_join (F.slot_str_join.check _ _ _ _ _ _ _ _ (typeIs_str _ _ _) (F.args_str_join_2 _ _) ?_));rw[join_tree_other];refine q04 (wpAny_typeOf hit.typeIs ?_);show wpAny _ A.in1 ((pyIter (.ref I)).tryCatch _ >>= λit=>collect it >>= λi=>joinTail sep i) _ _ s;refine q04 (wpAny_tryCatch (cR hit ?_));refine q04 (d_ hh hit ⋯ λs' n u d=>?_);obtain⟨l,B⟩:=exists_strValues n.toList λv T=>by
  obtain⟨j,C,rfl⟩:=Array.mem_iff_getElem.mp (Array.mem_toList_iff.mp T);obtain⟨c,S,_,e⟩:=d.2 j _ (Array.getElem?_eq_getElem C);exact⟨_,_,e⟩
 have m:l.map (·.1)=x.cps.toList.reverse.map λc=>(⟨#[c]⟩:Str):=by
  have Y:l.length=x.length:=by
   have q:=q0R List.length B;simp[strValues]at q;rw[q];exact d.1
  refine List.ext_getElem (by simp[Y];rfl) λj h1 h2=>?_;simp only[xw,List.getElem_reverse];have C:j<l.length:=by simpa using h1
  have U:n.toList[j]?=some (Value.str (l[j]).1 (l[j]).2):=by
   rw[<- B];simp[strValues,C]
  have L:n[j]?=some (Value.str (l[j]).1 (l[j]).2):=by simpa using U
  obtain⟨c,S,R,e⟩:=d.2 j _ L
  injection e with O _
  rw[O];have G:x.length-1-j<x.cps.size:=by have:x.length=x.cps.size:=rfl;omega
  rw[Array.getElem?_eq_getElem G]at R;have D:=q0S R;rw[<- D];simp only[Array.length_toList,Array.getElem_toList]
  rfl
 rw[<- B];have f:JoinOk sep (l.map (·.1))=true:=by
  unfold JoinOk;rw[StrLaws.joinTotal];have O:((l.map (·.1)).map (·.length)).sum=x.length:=by
   rw[m,xc];have:((λy:Str=>y.length)∘λc=>(⟨#[c]⟩:Str))=λ_=>1:=by funext c;rfl
   rw[this,List.map_const',List.sum_replicate_nat];simp
   rfl
  have Z:(l.map (·.1)).length=x.length:=by rw[m];simp;rfl
  rw[O,Z];have:x.length*sep.length<=1000*1000:=Nat.mul_le_mul hz hsep;unfold tooLong;rw[q08 ⋯]
  rfl
 have a:=λt' k=>h s' t' k (λb o G e=>u.heap b o (λz=>G (wU.mp z)) e) u.gens u.drawn u.os;unfold JoinOk at f;rw[Bool.not_eq_true']at f;have g:Gives (joinTail sep (strValues l)) (joinMade sep l):=by
  have M:=gives_joinTail sep l f;cases l with
  |nil=>exact M
  |cons p r=>cases r with
   |nil=>exact M
   |cons q r'=>exact M
 rw[<- m]at a;exact g prog w A (wants Q E) s' (post_join l ⟨joinFit_length f,a⟩)
end
namespace F
theorem gO:Slot "reversed" "__init__" "object.__init__":=
 .of (owner:="object") (n:="__init__") (by rw[typeLookup_type,builtinLookup_eq_fast];kernel_rfl) (by decide +kernel) (by decide +kernel) (by decide +kernel)
  (by first | exact .inl (by decide +kernel) | exact .inr (by decide +kernel)) (by rw[isSubtype_type];kernel_rfl)
theorem mJ:mroOf (.type "reversed")=pure [.type "reversed",.type "object"]:=by rw[mroOf_type];kernel_rfl
theorem fZ:typeLookup (.type "reversed") "__new__"=pure (some (.builtin "reversed.__new__")):=by rw[typeLookup_type,builtinLookup_eq_fast];kernel_rfl
theorem rvs_called:TypeCalled "reversed" "reversed.__new__" "object.__init__":=
 ⟨by decide +kernel,by decide +kernel,⟨_,_,mJ⟩,madeBy_type mJ fZ (by decide +kernel),by decide +kernel,by rw[isSubtype_type];kernel_rfl,gO⟩
theorem rvs_typeCall_1(a:Value):checkTypeCall "reversed" ⟨[a],[]⟩=pure ():=by kernel_rfl
theorem rvs_newCall_1(a:Value):checkBuiltinCall "reversed.__new__" ⟨[.type "reversed",a],[]⟩=pure ():=by kernel_rfl
theorem rvs_entry_new:entryFor table "reversed.__new__"=some Builtin.«reversed.__new__»:=entryFor_of_tree (by kernel_rfl)
theorem rvs_sub:isSubtype (.type "reversed") (.type "reversed")=pure true:=by rw[isSubtype_type];kernel_rfl
theorem rvs_nostr:typeLookup (.type "str") "__reversed__"=pure none:=by rw[typeLookup_type,builtinLookup_eq_fast];kernel_rfl
end F
section
variable {prog:Aj}{w:Am}{A:Al}{E:Aa}{s:Ae}
theorem i9(a:Value):Builtin.SmallTypes.newClass "reversed" ⟨[.type "reversed",a],[]⟩=pure (.type "reversed",[a]):=by
 unfold Builtin.SmallTypes.newClass;simp only[isType,F.rvs_sub,pure_bind,Bool.not_true,q0Z,if_false]
theorem gR(x:Str)(t:Tok)(hz:x.length<=sizeLine):Meets (Builtin.«reversed.__new__» ⟨[.type "reversed",.str x t],[]⟩)
  (λ_ R s=>R (.ok (.ret (.ref s.heap.objs.size))) {s with heap:=s.heap.push (kP x t ((x.length:Int)-1)),toks:=s.toks+1+1}):=
 .of_wp λprog w A R s h=>by
  have hs:sizeLine=16777216:=q0W;unfold Builtin.«reversed.__new__»;refine q04 (wpAny_of_eq (i9 _) ?_)
  try dsimp only
  refine q04 (wpAny_of_eq (a:=()) (by first | rfl | kernel_rfl) ?_);refine q04 (wpAny_of_eq (a:=()) (by first | rfl | kernel_rfl) ?_)
  try dsimp only
  refine q04 (wpAny_specialOf (typeIs_str s x t) F.rvs_nostr ?_)
  try dsimp only
  refine q04 ?_;refine q04 (wpAny_isInstance (T:="str") (b:=false) (typeIs_str s x t) (by rw[isSubtype_type];kernel_rfl) ?_);rw[q06 nofun];refine q04 (wpAny_specialOf (typeIs_str s x t) F.slot_str_getitem.lookup ?_);dsimp only
  split
  ·refine q05 ?_
   rw[q06 nofun];refine q04 (P.len_str ⋯ ?_);refine q04 (m:=asInt? _) (q05 ?_);dsimp only;show wpAny _ _ (newObj (.type "reversed") (.fields #[.str x t,rawInt ((x.length:Int)-1)]) >>= λv=>ret v) _ _ _;exact q04 (wpAny_newObj_type (q05 ⟨_,rfl,h⟩))
  ·rename_i hn
   exact q0Q (by decide +kernel) hn
theorem d0{x:Str}{Q:Aa}(hz:x.length<=sizeLine)
  (h:Q (.ref s.heap.objs.size) {s with heap:=s.heap.push (kP x t ((x.length:Int)-1)),toks:=s.toks+1+1}):wpAny a⁻¹ A (call (.type "reversed") [.str x t]) Q E s:=
 callType_new F.rvs_called nofun (F.rvs_typeCall_1 _) (F.rvs_newCall_1 _) (λobj=>F.args_object_init_2 obj _) F.rvs_entry_new (gR x t hz) ⟨⟨_,wY _ rfl,rfl⟩,h⟩
end
end PySem
namespace L2
open PySem PySem.Spec PyProof.Rows
def b_(env:Env):List (Str×NameKind)->List (Str×Addr)->List (Str×Addr)
 | [],acc=>acc
 | (n,k)::r,acc=>if k==.free then b_ env r ((n,(env.cells.lookup n).getD 0)::acc) else b_ env r acc
theorem fC{env:Env}:∀(ns:List (Str×NameKind)) (acc:List (Str×Addr)),(∀x∈ns,x.2=.free->∃c,env.cells.lookup x.1=some c) ->
  (forIn ns acc fun(x:Str×NameKind) (cs:List (Str×Addr))=>(if x.2==.free then do
    let c <- cellOf env x.1
    pure (ForInStep.yield ((x.1,c)::cs))
   else pure (ForInStep.yield cs):Sem (ForInStep (List (Str×Addr)))))=pure (b_ env ns acc)
 | [],acc,_=>rfl
 | (n,k)::r,acc,h=>by
  have ih:=λa=>fC (env:=env) r a λx hx=>h x (xg _ hx);rw[List.forIn_cons]
  by_cases hk:k=.free
  ·subst hk
   obtain⟨c,hc⟩:=h (n,.free) q0B rfl;have hc':env.cells.lookup n=some c:=hc;have e1:cellOf env n=pure c:=by unfold cellOf;rw[hc']
   simp only[b_,hc',q0L];show((do let c <- cellOf env n;pure (ForInStep.yield ((n,c)::acc))) >>= _)=_;rw[e1,pure_bind,pure_bind];exact ih _
  ·have b:(k==NameKind.free)=false:=by simpa using hk
   simp only[b_,b,q0Z,if_false];rw[pure_bind];exact ih _
theorem dq{env:Env}{scope:Scope}(h:∀x∈scope.names,x.2=.free->∃c,env.cells.lookup x.1=some c) :
  closureFor scope env=pure (b_ env scope.names []):=by
 unfold closureFor;have e:=fC (env:=env) scope.names [] h;have a:(forIn scope.names ([]:List (Str×Addr)) λx b=>(match x with
   | (name,kind)=>if kind==.free then do
     let c <- cellOf env name
     pure (ForInStep.yield ((name,c)::b))
    else pure (ForInStep.yield b):Sem (ForInStep (List (Str×Addr)))))=pure (b_ env scope.names []):=e
 simp only[]at a ⊢
 first
  | (rw[a];rfl)
  | (erw [a];rfl)
theorem cY{env:Env}:∀{ns:List (Str×NameKind)} {acc:List (Str×Addr)} {x:Str} {c:Addr},(∀y∈ns,y.2=.free->∃c,env.cells.lookup y.1=some c) ->
  (∀y c,acc.lookup y=some c->env.cells.lookup y=some c)->(b_ env ns acc).lookup x=some c->env.cells.lookup x=some c
 | [],_,_,_,_,ha,e=>ha _ _ e
 | (n,k)::r,acc,x,c,h,ha,e=>by
  have hr:∀y∈r,y.2=.free->∃c,env.cells.lookup y.1=some c:=λy hy=>h y (xg _ hy);unfold b_ at e
  by_cases hk:k=.free
  ·subst hk
   rw[q07 (by simp)]at e;obtain⟨c',hc⟩:=h (n,.free) q0B rfl;have hc':env.cells.lookup n=some c':=hc;refine cY hr (λy d z=>?_) e;rw[hc',q0L,List.lookup_cons]at z
   by_cases q:y=n
   ·subst q
    simp at z;subst z;exact hc'
   ·have q':(y==n)=false:=by simpa using q
    rw[q']at z;exact ha y d z
  ·rw[q06 (by simpa using hk)]at e
   exact cY hr ha e
theorem fH{env:Env}:∀{ns:List (Str×NameKind)} {acc:List (Str×Addr)} {x:Str},((∃c,acc.lookup x=some c)\/(x,NameKind.free)∈ns)->∃c,(b_ env ns acc).lookup x=some c
 | [],_,_,h=>by
  rcases h with h | h
  ·exact h
  ·exact nomatch h
 | (n,k)::r,acc,x,h=>by
  unfold b_
  by_cases hk:k=.free
  ·subst hk
   rw[q07 (by simp)];refine fH ?_
   by_cases q:x=n
   ·subst q
    left
    simp[List.lookup_cons]
   ·have q':(x==n)=false:=by simpa using q
    rcases h with⟨c,h⟩ | h
    ·exact .inl ⟨c,by rw[List.lookup_cons,q'];exact h⟩
    ·rcases xf.mp h with z | z
     ·cases z
      exact q0Q rfl q
     ·exact .inr z
  ·rw[q06 (by simpa using hk)]
   refine fH ?_;rcases h with h | h
   ·exact .inl h
   ·rcases xf.mp h with z | z
    ·cases z
     exact q0Q rfl hk
    ·exact .inr z
def jr(scope osc:Scope):Scope:=
 {scope with names:=scope.names.map fun(n,k)=>if(k==.free&&osc.kind==.function&&osc.names.lookup n==some .cell) then(n,.cell) else(n,k)}
def ph(scope osc:Scope):Bool:=
 (scope.kind==.function)&&(osc.kind==.function)&&scope.names.all fun(n,k)=>(k != .free || !scope.names.contains (n,NameKind.cell))&&(k != .local||scope.names.lookup n==some .local) &&
  (k != .free||osc.names.lookup n==some .cell||osc.names.lookup n==some .free)&&(k != .free||(jr scope osc).names.lookup n != some .local)
structure bf(scope osc:Scope):Prop where
 kind:scope.kind=.function
 sep:∀x∈scope.names,x.2=.free->(x.1,NameKind.cell)∉scope.names
 loc:∀x∈scope.names,x.2=.local->scope.names.lookup x.1=some .local
 free:∀x∈scope.names,x.2=.free->osc.names.lookup x.1=some .cell\/osc.names.lookup x.1=some .free
 nl:∀x∈scope.names,x.2=.free->(jr scope osc).names.lookup x.1≠some .local
theorem bf.of{scope osc:Scope}(h:ph scope osc=true):bf scope osc:=by
 unfold ph at h;rw[q0O,q0O,xN]at h;obtain⟨⟨h1,h0⟩,h2⟩:=h;refine⟨by simpa using h1,λx a e=>?_,λx a e=>?_,λx a e=>?_,λx a e=>?_⟩
 all_goals
  obtain⟨n,k⟩:=x;have q:=h2 (n,k) a;simp only[q0O,Bool.or_eq_true,bne_iff_ne,beq_iff_eq]at q
 ·have z:=q.1.1.1.resolve_left (λz=>z e)
  simpa using z
 ·exact q.1.1.2.resolve_left (λz=>z e)
 ·rcases q.1.2 with(z | z) | z
  ·exact q0Q e z
  ·exact .inl z
  ·exact .inr z
 ·exact q.2.resolve_left (λz=>z e)
theorem ck{osc:Scope}:∀{ns:List (Str×NameKind)} {x:Str} {k':NameKind},
  (ns.map fun(n,k)=>if(k==NameKind.free&&osc.kind==.function&&osc.names.lookup n==some .cell) then(n,NameKind.cell) else(n,k)).lookup x=some k' ->
  (k'=.cell\/k'=.free)->(x,NameKind.free)∈ns\/(x,NameKind.cell)∈ns
 | [],_,_,h,_=>by simp at h
 | (n,k)::r,x,k',h,hk'=>by
  rw[xy]at h
  by_cases q:x=n
  ·subst q
   by_cases z:(k==NameKind.free&&osc.kind==.function&&osc.names.lookup x==some .cell)=true
   ·have:k=.free:=by
     simp only[q0O,beq_iff_eq]at z;exact z.1.1
    subst this;exact .inl q0B
   ·simp only[z,q0Z,if_false]at h
    rw[List.lookup_cons]at h;simp at h;subst h;rcases hk' with e | e
    ·subst e;exact .inr q0B
    ·subst e;exact .inl q0B
  ·have a:(x==n)=false:=by simpa using q
   refine(ck (osc:=osc) (k':=k') (ns:=r) (x:=x) ?_ hk').imp (xg _) (xg _)
   by_cases z:(k==NameKind.free&&osc.kind==.function&&osc.names.lookup n==some .cell)=true
   ·simp only[z,if_true]at h
    rw[List.lookup_cons,a]at h;exact h
   ·simp only[z,q0Z,if_false]at h
    rw[List.lookup_cons,a]at h;exact h
theorem dv:∀(ns:List (Str×NameKind)) (n:Nat) (acc:List (Str×Addr)),cellsFrom n ns acc=cellsFrom n ns []++acc
 | [],_,_=>rfl
 | (x,k)::r,n,acc=>by
  unfold cellsFrom
  split
  ·rw[dv r (n+1) ((x,n)::acc),dv r (n+1) [(x,n)],xD];rfl
  ·exact dv r n acc
theorem iM:∀{ns:List (Str×NameKind)} {n:Nat} {x:Str} {c:Addr},(x,c)∈cellsFrom n ns []->(x,NameKind.cell)∈ns
 | [],_,_,_,h=>nomatch h
 | (y,k)::r,n,x,c,h=>by
  unfold cellsFrom at h
  split at h
  ·rename_i hk
   rw[dv]at h;rcases xb.mp h with h | h
   ·exact xg _ (iM h)
   ·cases wU.mp h
    have:k=.cell:=by simpa using hk
    subst this;exact q0B
  ·exact xg _ (iM h)
theorem ji:∀{ns:List (Str×NameKind)} {n:Nat} {x:Str} {acc:List (Str×Addr)},((x,NameKind.cell)∈ns\/∃c,acc.lookup x=some c)->∃c,(cellsFrom n ns acc).lookup x=some c
 | [],_,_,_,h=>h.elim (λz=>nomatch z) id
 | (y,k)::r,n,x,acc,h=>by
  unfold cellsFrom
  split
  ·refine ji ?_
   by_cases q:x=y
   ·subst q
    exact .inr ⟨n,by simp[List.lookup_cons]⟩
   ·have q':(x==y)=false:=by simpa using q
    rcases h with h | ⟨c,h⟩
    ·rcases xf.mp h with z | z
     ·cases z;exact q0Q rfl q
     ·exact .inl z
    ·exact .inr ⟨c,by rw[List.lookup_cons,q'];exact h⟩
  ·rename_i hk
   refine ji ?_;rcases h with h | h
   ·rcases xf.mp h with z | z
    ·cases z;exact q0Q rfl hk
    ·exact .inl z
   ·exact .inr h
def bU(env:Env)(scope:Scope)(C:Addr):List (Str×Addr):=cellsFrom (C+1) scope.names (b_ env scope.names [])
theorem eD:∀{ns:List (Str×NameKind)} {n:Nat} {x:Str} {c:Addr},(x,c)∈cellsFrom n ns []->n<=c
 | [],_,_,_,h=>nomatch h
 | (y,k)::r,n,x,c,h=>by
  unfold cellsFrom at h
  split at h
  ·rw[dv]at h
   rcases xb.mp h with h | h
   ·exact xz (Nat.le_succ _) (eD h)
   ·cases wU.mp h
    exact xp _
  ·exact eD h
theorem gj:∀{ns:List (Str×NameKind)} {n:Nat},(cellsFrom n ns []).Pairwise λx y=>x.2≠y.2
 | [],_=>List.Pairwise.nil
 | (y,k)::r,n=>by
  unfold cellsFrom
  split
  ·rw[dv]
   refine List.pairwise_append.mpr ⟨gj,by simp,λa ha b hb e=>?_⟩;cases wU.mp hb;have:=eD (x:=a.1) (c:=a.2) ha;rw[e]at this;exact q0Q this (Nat.not_succ_le_self _)
  ·exact gj
theorem c_{env:Env}{scope:Scope}{c:Addr}(h:(bU env scope C).lookup x=some c) :
  ((x,c)∈cellsFrom (C+1) scope.names []/\C<c/\(x,NameKind.cell)∈scope.names)\/((cellsFrom (C+1) scope.names []).lookup x=none/\(b_ env scope.names []).lookup x=some c):=by
 unfold bU at h;rw[dv,List.lookup_append]at h;cases q:(cellsFrom (C+1) scope.names []).lookup x with
 |none=>rw[q]at h;exact .inr ⟨rfl,h⟩
 |some d=>
  rw[q]at h;cases h;have:=mem_of_lookup q;exact .inl ⟨this,eD this,iM this⟩
theorem p_{ns:List (Str×NameKind)}{x:Str}(h:(x,NameKind.cell)∉ns):(cellsFrom n ns []).lookup x=none:=by
 cases q:(cellsFrom n ns []).lookup x with
 |none=>rfl
 |some d=>exact q0Q (iM (mem_of_lookup q)) h
section
variable {M:Model}{A:Al}{E:Aa}{s:Ae}
theorem cb{scope:Scope}{globals:Addr}{closure:List (Str×Addr)}{qual:Str}{func:An}{code:Value}{outer:Env}{builtins:Addr}{Q:Env->Shared->Prop}
  (hQ:Q (newEnv scope s.heap.objs.size globals (cellsFrom (s.heap.objs.size+1) scope.names closure) qual func code (some outer) builtins) {s with heap:=pushCells (s.heap.push {cls:=.type "dict",data:=.dict #[]}) scope.names}) :
  wpAny M A (newFunctionEnv scope globals closure [] qual func code (some outer) builtins) Q E s:=by
 simp only[newFunctionEnv,Option.isSome_some,if_true];simp only[newEnv]at hQ;refine q04 (wpAny_alloc ?_);refine q04 (wpAny_layCells _ (λname a cells=>by cases b:a==NameKind.cell<;>simp[b]) _ _ _ _ ?_);rw[show({s with heap:=s.heap.push {cls:=.type "dict",data:=.dict #[]} }:Shared).heap.objs.size=s.heap.objs.size+1 from Heap.size_push ..];rw[List.forIn_nil];exact q04 (q05 (q05 hQ))
end
def Cx.blk(X:Cx)(N':Ak)(s₂:Ae)(H₂:Hp)(scope:Scope)(fp:Ag)(C:Addr):Cx where
 prog:=X.prog
 w:=X.w
 K:=X.K
 mg:=X.mg
 base:=X.base
 A:=X.A
 N:=N'
 s₀:=s₂
 H₀:=H₂
 env:=compEnvC scope (bU X.env scope C) C X.env
 outer:=X.stack
 stack:=X.stack
 ex:=fp
 fn:=λx=>scope.names.contains (x,NameKind.cell)
 calm:=X.calm
 pn:=[]
 xe:=λ_ _=>False
def io(k:Nat)(js:Ad)(σ:St):St:=List.replicate k none++js.map λj=>(σ[j]?).join
def gm(own:Ak)(js:Ad)(N:Ak):List Str:=own++js.map λj=>N.getD j Str.empty
section
variable {X:Cx}
theorem Inv.capFree{pins:Ac}{σ:St}{scope:Scope}(I:Inv X pins σ H s)(hk:bf scope X.env.scope):∀x∈scope.names,x.2=.free->∃c,X.env.cells.lookup x.1=some c:=
 λx hx e=>I.ok.has x.1 (hk.free x hx e)
theorem Inv.capL{pins:Ac}{σ:St}{scope:Scope}{c:Addr}(I:Inv X pins σ H s)(hk:bf scope X.env.scope)(e:(b_ X.env scope.names []).lookup x=some c):X.env.cells.lookup x=some c:=
 cY (I.capFree hk) (λ_ _ z=>by simp at z) e
theorem Inv.blkL{pins:Ac}{σ:St}{scope:Scope}{c:Addr}(I:Inv X pins σ H s)(hk:bf scope X.env.scope)(e:(bU X.env scope C).lookup x=some c) :
  ((x,c)∈cellsFrom (C+1) scope.names []/\C<c/\(x,NameKind.cell)∈scope.names)\/X.env.cells.lookup x=some c:=
 (c_ e).imp id λz=>I.capL hk z.2
theorem tD{pins:Ac}{σ:St}{scope:Scope}{fp:Ag}{C:Addr}(I:Inv X pins σ H s)(hk:bf scope X.env.scope)(hC:s.heap.objs.size<=C)
  (hf:∀b∈fp,gM X pins H b) (ho:∀b∈fp,∃o,s.heap.get? b=some o):(X.blk N' s H scope fp C).Ok where
 mod:=I.ok.mod
 kind:=hk.kind
 glob:=I.ok.glob
 blt:=I.ok.blt
 above:=hC
 inj:=λx y c e1 e2=>by
  have low:∀z,X.env.cells.lookup z=some c->c<C:=λz e=>by
   obtain⟨v,q⟩:=I.cell z c e;exact xi q.lt hC
  rcases I.blkL hk e1 with⟨a1,a2,_⟩ | a<;>rcases I.blkL hk e2 with⟨b1,b2,_⟩ | b
  ·exact name_of_addr gj a1 b1
  ·exact q0Q (low _ b) (Nat.not_lt.mpr (q0P a2))
  ·exact q0Q (low _ a) (Nat.not_lt.mpr (q0P b2))
  ·exact I.ok.inj x y c a b
 has:=λx h=>by
  refine ji ?_;have z:(x,NameKind.free)∈scope.names\/(x,NameKind.cell)∈scope.names:=by
   rcases h with h | h
   ·exact ck (osc:=X.env.scope) h (.inl rfl)
   ·exact ck (osc:=X.env.scope) h (.inr rfl)
  rcases z with z | z
  ·exact .inr (fH (.inr z))
  ·exact .inl z
 cab:=λx c z e=>by
  have j:(x,NameKind.cell)∈scope.names:=by
   have i:scope.names.contains (x,NameKind.cell)=true:=z
   simpa using i
  have g:(bU X.env scope C).lookup x=some c:=e;rcases c_ g with⟨_,a,_⟩ | ⟨a,_⟩
  ·exact xz hC (q0P a)
  ·obtain⟨d,q⟩:=ji (n:=C+1) (acc:=[]) (.inl j)
   rw[a]at q;cases q
 hd:=I.ok.hd
 frames:=I.ok.frames
 stk:=.inl rfl
 exf:=λb f=>⟨λe=>by
  obtain⟨o,q⟩:=ho b f;have g:b=C:=e;rw[g]at q;exact q0Q (xu q) (Nat.not_lt.mpr hC),λx c e=>by
  rcases I.blkL hk e with⟨_,a,_⟩ | a
  ·obtain⟨o,q⟩:=ho b f
   intro z;rw[z]at a;exact q0Q (xi (xu q) hC) (Nat.not_lt.mpr (q0P a))
  ·exact(hf b f).2.2.2.2.1 x c a⟩
 bs:=I.bs
 bsz:=xz I.ok.bsz I.sz
 noex:=λb o e f=>by
  rcases(hf b f).2.2.2.1 with z | z
  ·exact I.ok.noex b o e z
  ·exact q0Q (xu (I.ok.bs b o e).1) (Nat.not_lt.mpr z)
 exfs:=λb f k=>by
  rcases xf.mp (I.stkSub b k) with z | z
  ·exact(hf b f).2.1 z
  ·exact(hf b f).2.2.1 z
 funs:=I.stack
 frf:=I.stkFree
theorem mW{pins:Ac}{σ:St}{s1:Ae}{own:Ak}{js:Ad}{scope:Scope}{fp:Ag}{C:Addr}(I:Inv X pins σ H s)(hk:bf scope X.env.scope)(hC:s.heap.objs.size<=C)
  (hf:∀b∈fp,gM X pins H b) (ho:∀b∈fp,∃o,s.heap.get? b=some o) (hos:s1.os=s.os) (hg:s1.gens=s.gens) (hn:s1.heap.Ns C m) (keep:∀b o,s.heap.get? b=some o->s1.heap.get? b=some o)
  (hown:∀x c,(x,c)∈cellsFrom (C+1) scope.names []->s1.heap.IsCell c none) (hcap:(js.all λj=>scope.names.contains (X.N.getD j Str.empty,NameKind.free))=true) :
  Inv (X.blk (gm own js X.N) s H scope fp C) [] (io own.length js σ) H s1:=by
 have cl:=fun{x:Str} {c:Addr} (e:(b_ X.env scope.names []).lookup x=some c)=>cY (I.capFree hk) (λ_ _ z=>by simp at z) e;refine⟨tD I hk hC hf ho,hos,hg▸I.bare,Un.kept keep,⟨m,hn,λi x v Z Y U=>?_⟩,λx c e=>?_,I.hok.fresh hC,λx c e=>(I.blkL hk e).elim (λz=>I.hok.fresh (xz hC (q0P z.2.1))) λz=>I.freeC x c z,λp M=>(nomatch M),I.hok.kept keep,?_⟩
 ·have d:(own++js.map λj=>X.N.getD j Str.empty)[i]?=some x:=Z
  have a:(List.replicate own.length none++js.map λj=>(σ[j]?).join)[i]?=some (some v):=Y
  by_cases t:i<own.length
  ·rw[xm (by rw[List.length_replicate];exact t),List.getElem?_replicate,q07 t]at a
   cases a
  ·have g:own.length<=i:=Nat.le_of_not_lt t
   rw[xk (by rw[List.length_replicate];exact g),List.length_replicate,wV]at a;rw[xk g,wV]at d;cases w:js[i-own.length]? with
   |none=>rw[w]at d;cases d
   |some j=>
    rw[w]at d a;have D:X.N.getD j Str.empty=x:=q0S d;have l:(σ[j]?).join=some v:=q0S a;have B:σ[j]?=some (some v):=by
     cases q:σ[j]? with
     |none=>rw[q]at l;cases l
     |some z=>rw[q]at l;simp at l;rw[l]
    have r:j<X.N.length:=by rw[<- I.len];exact(wR.mp B).1
    have S:X.N[j]?=some x:=by rw[<- D,q0A,wQ r];rfl
    have n:(x,NameKind.free)∈scope.names:=by
     have q:=xN.mp hcap j (wW w);rw[D]at q
     simpa using q
    have y:=hk.free _ n rfl;obtain⟨mo,hno,O⟩:=I.loc;obtain⟨u,G,L⟩:=O j x v S B (y.elim (λz=>.inr (.inl z)) λz=>.inr (.inr z));refine⟨u,G,?_⟩;rcases L with⟨f,_⟩ | ⟨f,c,T,R⟩
    ·rcases y with z | z
     ·rw[show X.env.kindOf x=X.env.scope.names.lookup x from rfl,z]at f;cases f
     ·rw[show X.env.kindOf x=X.env.scope.names.lookup x from rfl,z]at f;cases f
    ·obtain⟨c',k⟩:=fH (env:=X.env) (ns:=scope.names) (acc:=[]) (x:=x) (.inr n)
     have:=cl k;rw[T]at this;cases this;refine .inr ⟨?_,c,?_,R.keeps keep⟩
     case refine_2=>
      show(bU X.env scope C).lookup x=some c;unfold bU;rw[dv,List.lookup_append,p_ (hk.sep _ n rfl)];exact k
     -- its kind within the block
     rcases U with z | z | z
     ·exact q0Q z (hk.nl _ n rfl)
     ·exact .inl z
     ·exact .inr z
 ·rcases I.blkL hk e with z | z
  ·exact⟨none,hown x c z.1⟩
  ·obtain⟨v,z⟩:=I.cell x c z
   exact⟨v,z.keeps keep⟩
 ·show(List.replicate own.length none++js.map λj=>(σ[j]?).join).length=(own++js.map λj=>X.N.getD j Str.empty).length
  simp
def rR(env:Env)(ifs:Ao):Sem Bool:=forIn ifs true λc r=>if r=true then do let ok <- isTrue c env (eval c env);pure (ForInStep.yield ok) else pure (ForInStep.yield r)
theorem jh{prog:Aj}{A:Al}{R:Result->Shared->Prop}{s:Ae}{elt target iter:Expr}{ifs:Ao}{scope:Scope}{pos:Pos}{it acc:Value}{env:Env}(I:Nat->Shared->Prop)
  (turn:∀n s,I n s->wpAny a⁻¹ A (pyNext it) (λr s₁=>match r with
   |none=>R (.ok .next) s₁
   |some v=>wpAny a⁻¹ A (letOwnedTupleGo target it v) (λ_ s₁'=>wpAny a⁻¹ A (assign target env v) (λ_ s₂=>
     wpAny a⁻¹ A (rR env ifs) (λok s₃=>
      if ok=true then wpAny a⁻¹ A (eval elt env) (λx s₄=>
       wpAny a⁻¹ A (call (.builtin "list.append") [acc,x]) (λ_ s₅=>∃m,m<n/\I m s₅) (λ_ _=>False) s₄) (λ_ _=>False) s₃
      else ∃m,m<n/\I m s₃) (λ_ _=>False) s₂) (λ_ _=>False) s₁') (λ_ _=>False) s₁) (λ_ _=>False) s)
  (n:Nat) (h:I n s) :
  codeAny a⁻¹ A (.compLoop (.ListComp elt [⟨target,iter,ifs,0⟩] scope pos) 0 it acc env) R s:=by
 refine codeAny_loop rfl I (λn s k=>?_) n h;show wpAny _ A ((compTurn (.ListComp elt [⟨target,iter,ifs,0⟩] scope pos) 0 it acc env).onRaise (λx=>do noteFrame x env;theTreesLotGoes x)) _ _ s;refine wpAny_noted ?_;rw[compTurn_list];have up:∀{α:Type} {t:Sem α} {Q Q':α->Shared->Prop} {E':Aa} {s:Ae},wpAny a⁻¹ A t Q (λ_ _=>False) s->(∀a s,Q a s->Q' a s)->wpAny a⁻¹ A t Q' E' s:=
  λh j=>q0X h j λ_ _ f=>f.elim
 refine q04 (wpAny_standAt (q04 (up (turn n s k) λr s₁ d=>?_)));cases r with
 |none=>exact q05 d
 |some v=>
  refine q04 (up d λ_ s₁' b=>q04 (up b λ_ s₂ i=>q04 (up i λok s₃ c=>?_)));cases ok with
  |false=>exact q05 ⟨rfl,c⟩
  |true=>
   exact q04 (q04 (up c λx s₄ g=>q04 (up g λ_ s₅ e=>q05 (q05 ⟨rfl,e⟩))))
def uO(X:Cx)(ifs:Ao)(t:TT):Prop:=
 ∀(pins:Ac) (s:Ae) (σ:St) (H:Hp) (Q:Bool->Hp->Prop),Inv X pins σ H s->t σ H Q->wpAny (model X.prog X.w) X.A (rR X.env ifs) (TP X pins σ Q) X.xe s
def oa:TT:=λ_ H Q=>Q true H
theorem bN:uO X [] oa:=λpins s σ H Q I h=>wpAny_tests_nil ⟨H,I,h⟩
def fD(J:It)(g:TG)(ti:TT)(te:TE)(σ:St)(H:Hp)(Q:List V->Hp->Prop):Prop:=
 ∃W:Nat->Nat->List V->St->Hp->Prop,(∃m,W 0 m [] σ H)/\∀i m acc σ' H',W i m acc σ' H' ->
  acc.length<sizeLine/\((J.stop i H'/\Q acc H') \/
   (J.go i H'/\∃N:List V->St->Hp->Prop,(∀acc' σ2 H2,N acc' σ2 H2->∃m',m'<m/\W (i+1) m' acc' σ2 H2) /\
    ∀x H2,J.yld i H' x H2->g x σ' H2 λσ2 H3=>ti σ2 H3 λb H4=>if b=true then te σ2 H4 λv H5=>N (acc++[v]) σ2 H5 else N acc σ2 H4))
def mq(k:Nat)(js:Ad)(wi:TI)(g:TG)(ti:TT)(te:TE):TE:=λσ H Q=>wi σ H λJ H1=>fD J g ti te (io k js σ) H1 λacc H'=>∀l,H' l=none->Q (.ref l) (aR H' l (.lst acc))
abbrev cF(its:Af)(n:Nat):Obj:={cls:=.type "list",data:=.seq its.toArray n}
theorem ix{pins:Ac}{σ:St}{H:Hp}{s:Ae}{elt tg iter:Expr}{ifs:Ao}{scope:Scope}{pos:Pos}{own:Ak}{js:Ad}{ti:TT}{te:TE}{J:It}{fp:Ag}{it:Addr}{tn:Nat->Heap->Prop}{E:Aa}
  {RR:Value->Addr->Result->Shared->Prop} (hc:X.calm=true) (hk:bf scope X.env.scope) (hcap:(js.all λj=>scope.names.contains (X.N.getD j Str.empty,NameKind.free))=true)
  (hg:∀s H fp C,PG (X.blk (gm own js X.N) s H scope fp C) tg g) (hi:∀s H fp C,uO (X.blk (gm own js X.N) s H scope fp C) ifs ti) (he:∀s H fp C,PE (X.blk (gm own js X.N) s H scope fp C) elt te)
  (I:Inv X pins σ H s) (T:pW X.prog X.w X.K tg J fp it tn) (st:tn 0 s.heap) (hf:∀b∈fp,gM X pins H b)
  (hW:fD J g ti te (io own.length js σ) H Q)
  (hRR:∀(D C:Addr) (s':Ae) (H':Hp) (acc:List V) (m:Ah),Q acc H'->H' D=none->Inv X pins σ (aR H' D (.lst acc)) s'->s'.heap.Ns C m->aR H' D (.lst acc) C=none->C≠X.env.locals->X.s₀.heap.objs.size<=C ->
   (∀x c,X.env.cells.lookup x=some c->c≠C)->(∀p∈X.pn++pins,p.1≠C)->RR (.ref D) C (.ok .next) s') :
  wpAny (model X.prog X.w) X.A (newList []) (λacc s₃=>wpAny (model X.prog X.w) X.A (newFunctionEnv scope X.env.globals (b_ X.env scope.names []) [] X.env.qual none .none (some X.env)) (λcenv s₄=>
   codeAny (model X.prog X.w) X.A (.compStart (.ListComp elt [⟨tg,iter,ifs,0⟩] scope pos) 0 (.ref it) acc {cenv with scope:=relabel scope X.env}) (RR acc cenv.locals) s₄) E s₃) E s:=by
 obtain⟨W,⟨m0,w0⟩,c2⟩:=hW;refine wpAny_newObj_type (cb ?_);dsimp only;generalize b4:s.heap.push {cls:=.type "list",dict:=none,data:=.seq ([]:List Value).toArray}=H2;generalize e6:pushCells (H2.push {cls:=.type "dict",data:=.dict #[]}) scope.names=h₁;have b1:∀b o,(H2.push {cls:=.type "dict",data:=.dict #[]}).get? b=some o->h₁.get? b=some o:=λb o e=>e6▸pushCells_keeps _ _ b o e;have e4:h₁.Ns H2.objs.size λ_=>none:=by
  have q:(H2.push {cls:=.type "dict",data:=.dict #[]}).Ns H2.objs.size λ_=>none:=Heap.Ns.new ..;exact q.at' λo e=>b1 _ o e
 have b2:∀x c,(x,c)∈cellsFrom (H2.objs.size+1) scope.names []->h₁.IsCell c none:=λx c e=>by
  have ok:=cellsFrom_ok scope.names (H2.push {cls:=.type "dict",data:=.dict #[]}) (H2.objs.size+1) [] ⟨λ_ _ hm=>(nomatch hm),List.Pairwise.nil⟩ (by rw[Heap.size_push];exact xp _);rw[Heap.size_push,e6]at ok;exact(ok.empty x c e).1
 have hC:H2.objs.size=s.heap.objs.size+1:=by rw[<- b4,Heap.size_push]
 have c0:s.heap.objs.size≠H2.objs.size:=by rw[hC];exact xj (xB _)
 have t:s.heap.objs.size<=H2.objs.size:=by rw[hC];exact Nat.le_succ _
 have c1:∀b,b<s.heap.objs.size->b≠H2.objs.size/\b≠s.heap.objs.size:=λb f=>⟨by rw[hC];exact xj (Nat.lt_succ_of_lt f),xj f⟩;have e2:∀b o,s.heap.get? b=some o->h₁.get? b=some o:=λb o e=>b1 b o (wS _ (b4▸wS _ e));have e7:h₁.get? s.heap.objs.size=some (cF [] 0):=b1 _ _ (wS _ (b4▸wY _ rfl));have Y:∀b∈fp,∃o,s.heap.get? b=some o:=λb f=>let ⟨o,e,_⟩:=T.obj 0 _ st b f;⟨o,e⟩
 have d1:tn 0 h₁:=T.keep 0 _ _ st λb _ o e=>e2 b o e;generalize l:X.blk (gm own js X.N) s H scope fp H2.objs.size=Xb;have I₁:Inv Xb [] (io own.length js σ) H {s with heap:=h₁}:=l▸mW I hk t hf Y rfl rfl e4 e2 b2 hcap;have eP:Xb.prog=X.prog:=by rw[<- l];rfl
 have ew:Xb.w=X.w:=by rw[<- l];rfl
 have eK:Xb.K=X.K:=by rw[<- l];rfl
 have eA:Xb.A=X.A:=by rw[<- l];rfl
 have ec:Xb.calm=true:=by rw[<- l];exact hc
 have eE:Xb.env=compEnvC scope (bU X.env scope H2.objs.size) H2.objs.size X.env:=by rw[<- l];rfl
 have ex:Xb.xe=λ_ _=>False:=by rw[<- l];rfl
 have es:Xb.s₀=s:=by rw[<- l];rfl
 have eh:Xb.H₀=H:=by rw[<- l];rfl
 have ef:Xb.fs=lG X.stack:=by rw[<- l];rfl
 have f1:Xb.ex=fp:=by rw[<- l];rfl
 have ep:Xb.pn=[]:=by rw[<- l];rfl
 have eL:Xb.env.locals=H2.objs.size:=by rw[eE];rfl
 have g0:H s.heap.objs.size=none:=I.hok.fresh (xp _)
 -- D is no iterator's,no frame's
 have e8:∀b∈fp,b≠s.heap.objs.size:=λb f e=>by
  obtain⟨o,q⟩:=Y b f;rw[e]at q;exact q0Q (xu q) (xA _)
 have f9:s.heap.objs.size∉Xb.fs:=λz=>by
  rw[ef]at z;rcases xf.mp (I.stkSub _ z) with q | q
  ·exact q0Q I.lt (by rw[<- q];exact xA _)
  ·exact I.nofs (xp _) q
 have Z:∀x c,Xb.env.cells.lookup x=some c->c≠s.heap.objs.size:=λx c e q=>by
  rcases I.blkL hk (C:=H2.objs.size) (x:=x) (c:=c) (by rw[eE]at e;exact e) with⟨_,z,_⟩ | z
  ·rw[q]at z
   exact q0Q t (Nat.not_le.mpr z)
  ·obtain⟨v,o,ho,_⟩:=I.cell x c z
   rw[q]at ho;exact q0Q (xu ho) (xA _)
 have M:∀{pl:Ac} {H':Hp},(∀b∈fp,H' b=none)->(∀p∈pl,p.1=s.heap.objs.size)->∀b∈fp,gM Xb pl H' b:=λhn O b f=>by
  refine⟨hn b f,?_,?_,.inl (by rw[f1];exact f),λx c e=>?_,λp e3=>?_⟩
  ·rw[eL];exact(c1 b (let ⟨o,q⟩:=Y b f;xu q)).1
  ·rw[ef];intro z
   rcases xf.mp (I.stkSub b z) with q | q
   ·exact(hf b f).2.1 q
   ·exact(hf b f).2.2.1 q
  ·rcases I.blkL hk (C:=H2.objs.size) (x:=x) (c:=c) (by rw[eE]at e;exact e) with⟨_,z,_⟩ | z
   ·intro q
    rw[q]at z;obtain⟨o,q2⟩:=Y b f;exact q0Q (xi (xu q2) t) (Nat.not_lt.mpr (q0P z))
   ·exact(hf b f).2.2.2.2.1 x c z
  ·rw[ep,xQ]at e3
   rw[O p e3];exact(e8 b f).symm
 have a5:∀s₃:Shared,s₃={s with heap:=h₁} ->
   codeAny (model X.prog X.w) X.A (.compLoop (.ListComp elt [⟨tg,iter,ifs,0⟩] scope pos) 0 (.ref it) (.ref s.heap.objs.size) (compEnvC scope (bU X.env scope H2.objs.size) H2.objs.size X.env))
    (RR (.ref s.heap.objs.size) H2.objs.size) s₃:=by
  rintro s₃ rfl;refine jh (λn s'=>∃(i:Nat) (acc:List V) (a:Af) (k:Nat) (σ':St) (H':Hp),Inv Xb [] σ' H' s'/\tn i s'.heap/\(∀b∈fp,H' b=none)/\H' s.heap.objs.size=none/\s'.heap.get? s.heap.objs.size=some (cF a k)/\aD acc a/\W i n acc σ' H')
   ?_ m0 ⟨0,[],[],0,_,H,I₁,d1,λb f=>(hf b f).1,g0,e7,.nil,w0⟩
  rintro n s' ⟨i,acc,a,k,σ',H',I',e1,f0,B,f4,U,w'⟩;obtain⟨e5,tt⟩:=c2 i n acc σ' H' w'
  -- the gathered list,pinned
  have Ip:Inv Xb [(s.heap.objs.size,cF a k)] σ' H' s':=I'.pins_of λp O=>by
   have e:p=(s.heap.objs.size,cF a k):=by simpa using O
   subst e;exact⟨f4,B,by rw[eL];exact c0,f9,λv z=>by cases z⟩
  have a9:∀p∈[(s.heap.objs.size,cF a k)],p.1=s.heap.objs.size:=λp O=>by
   have e:p=(s.heap.objs.size,cF a k):=by simpa using O
   rw[e]
  rcases tt with⟨e0,q⟩ | ⟨go,N,hN,step⟩
  ·have d:=T.done Xb eP ew eK ec i _ s' σ' H' (λ_ _=>False) Ip (M f0 a9) e1 e0
   rw[eA]at d;refine q0X d (λr s1 hr=>?_) λ_ _ z=>z;obtain⟨rfl,I1⟩:=hr;have f3:s1.heap.get? s.heap.objs.size=some (cF a k):=(I1.pin _ (q0C _ (wU.mpr rfl))).1;obtain⟨mC,b3,_⟩:=I1.loc;rw[eL]at b3;obtain⟨oC,_,_,hoC,_⟩:=id b3;have g1:H' H2.objs.size=none:=by have:=I1.free;rwa [eL]at this
   have ub:Un (lG X.stack) fp H H' s.heap s1.heap:=by have:=I1.base;rwa [ef,f1,eh,es]at this
   refine hRR _ _ s1 H' acc mC q B ?_ b3 ?_ ?_ ?_ ?_ ?_
   ·-- vg outside
    refine I.call' (ch:=fp) (by have:=I1.os;rwa [es]at this) ⟨λb o e n1 h1 h2=>ub.keep b o e n1 h1 h2,λb o e n1 h1 h2=>ub.slot b o e n1 h1 h2,λb o e n1 h1=>?_,ub.there,λb xs e=>?_,λb o u e=>?_,λb ps e=>?_⟩ ?_ (by have:=I1.bare;exact this) λb f=>?_
    ·rw[ar (λz=>by rw[z]at e;exact q0Q (xu e) (xA _))]
     exact ub.free b o e n1 h1
    ·rw[ar (aw (ub.tups b xs e) B)]
     exact ub.tups b xs e
    ·rw[ar (aw (ub.frzs b o u e) B)]
     exact ub.frzs b o u e
    ·obtain⟨more,z⟩:=ub.tbls b ps e
     exact⟨more,by rw[ar (aw z B)];exact z⟩
    ·intro b u e
     have a6:=I1.hok;rw[eP,ew]at a6
     by_cases f:b=s.heap.objs.size
     ·subst f
      rw[am]at e;cases e;exact⟨q0P e5,a,k,U,f3⟩
     ·rw[ar f]at e
      refine(a6 b u e).stay (λc v _ z=>z) (λc z=>?_) λc xs z=>?_
      ·rw[ar (aw z B)];exact z
      ·rw[ar (aw z B)];exact z
    ·exact⟨(hf b f).2.2.2.1,(hf b f).2.1,(hf b f).2.2.2.2.1,(hf b f).2.2.2.2.2⟩
   ·rw[ar c0.symm];exact g1
   ·intro z;have:=I.lt;rw[<- z]at this;exact q0Q this (Nat.not_lt.mpr t)
   ·exact xz I.sz t
   ·intro x c e z
    obtain⟨v,o,ho,_⟩:=I.cell x c e;rw[z]at ho;exact q0Q (xu ho) (Nat.not_lt.mpr t)
   ·intro p O z
    have:=(I.pin p O).1;rw[z]at this;exact q0Q (xu this) (Nat.not_lt.mpr t)
  ·have d:=T.item Xb eP ew eK ec i _ s' σ' H' (λ_ _=>False) Ip (M f0 a9) e1 go
   rw[eA]at d;refine q0X d (λr s1 hr=>?_) λ_ _ z=>z;obtain⟨u,rfl,d2⟩:=hr;refine q0X d2 (λ_ s2 f8=>?_) λ_ _ z=>z;obtain⟨x,f2,I2,r2,y2,a8,g2⟩:=f8;have g3:=I2.pinned (M g2 a9) (T.obj _ _ a8);have G:=l▸hg s H fp H2.objs.size;have d3:=G _ s2 σ' f2 x u _ g3 r2 (step x f2 y2);rw[eP,ew,eA,ex,eE]at d3;refine q0X d3 (λ_ s3 f7=>?_) λ_ _ z=>z;obtain⟨σ3,H3,I3,q3⟩:=f7;have Gi:=l▸hi s H fp H2.objs.size;have d4:=Gi _ s3 σ3 H3 _ I3 q3;rw[eP,ew,eA,ex,eE]at d4;refine q0X d4 (λb s4 f6=>?_) λ_ _ z=>z;obtain⟨H4,I4,q4⟩:=f6;have R:∀{L:Ae} {S:Hp} {σ5:St},Inv Xb ([(s.heap.objs.size,cF a k)]++gq fp s2.heap) σ5 S L->L.heap.get? s.heap.objs.size=some (cF a k)/\S s.heap.objs.size=none/\tn (i+1) L.heap/\∀b∈fp,S b=none:=fun{L S σ5} I5=>by
    have pD:=I5.pin (s.heap.objs.size,cF a k) (q0C _ (q0D _ (wU.mpr rfl)));refine⟨pD.1,pD.2.1,T.keep _ _ _ a8 λb f o e=>(I5.pin (b,o) (q0C _ (q0C _ (c9 f e)))).1,λb f=>?_⟩;obtain⟨o,e,_⟩:=T.obj _ _ a8 b f;exact(I5.pin (b,o) (q0C _ (q0C _ (c9 f e)))).2.1
   have bare:∀{L:Ae} {S:Hp} {σ5:St} {pl:Ac},Inv Xb pl σ5 S L->Inv Xb [] σ5 S L:=λI5=>I5.pins_of λp O=>nomatch O;cases b with
   |false=>
    obtain⟨m',hm,w5⟩:=hN _ _ _ q4;obtain⟨a1,a2,a3,a4⟩:=R I4;exact⟨m',hm,i+1,acc,a,k,σ3,H4,bare I4,a3,a4,a2,a1,U,w5⟩
   |true=>
    have Ge:=l▸he s H fp H2.objs.size;have d5:=Ge _ s4 σ3 H4 _ I4 q4;rw[eP,ew,eA,ex,eE]at d5;refine q0X d5 (λy L f5=>?_) λ_ _ z=>z;obtain⟨v,S,I5,r5,q5⟩:=f5;obtain⟨m',hm,w5⟩:=hN _ _ _ q5;obtain⟨a1,a2,a3,a4⟩:=R I5;have hl:=U.length;refine call_meets F.slot_list_append ⟨_,a1,rfl⟩ F.entry_list_append (F.args_list_append_2 _ _) (PySem.list_append s.heap.objs.size a.toArray k y (by rw[wZ];omega)) ⟨a1,?_⟩;have qu:=PySem.IsL.update a1 (λa7=>a7.push y);have qe:(a.toArray.push y)=(a++[y]).toArray:=by simp
    rw[qe]at qu;have I6:Inv Xb [] σ3 S {L with heap:=L.heap.update s.heap.objs.size (Obj.mapSeq λa7=>a7.push y),toks:=L.toks}:=
     (bare I5).turned (λb o f e=>(wX L.heap _ (Ne.symm f)).trans e) a2 (by rw[eL];exact c0) (.inr (by rw[es];exact xp _)) Z (by rw[ep];intro p O;exact nomatch O)
    refine⟨m',hm,i+1,acc++[v],a++[y],_,σ3,S,I6,T.keep _ _ _ a3 (λb f o e=>(wX L.heap _ (e8 b f).symm).trans e),a4,a2,qu,U.append (.cons r5 .nil),w5⟩
 refine codeAny_compStart_list (a5 _ rfl) ?_;exact T.self _ 0 _ _ _ d1 (a5 _ rfl)
theorem bY{elt tg iter:Expr}{ifs:Ao}{scope:Scope}{pos:Pos}(own:Ak)(js:Ad){wi:TI}{g:TG}{ti:TT}{te:TE}(hc:X.calm=true)(hk:bf scope X.env.scope)
  (hcap:(js.all λj=>scope.names.contains (X.N.getD j Str.empty,NameKind.free))=true) (hw:PI X tg iter wi)
  (hg:∀s H fp C,PG (X.blk (gm own js X.N) s H scope fp C) tg g) (hi:∀s H fp C,uO (X.blk (gm own js X.N) s H scope fp C) ifs ti) (he:∀s H fp C,PE (X.blk (gm own js X.N) s H scope fp C) elt te)
  (hs:autoParam (∀x,foldedSetIterable iter X.env x=pure x) zz3._auto_1):PE X (.ListComp elt [⟨tg,iter,ifs,0⟩] scope pos) (mq own.length js wi g ti te):=by
 intro c s σ H Q I h;rw[eval_ListComp];refine wpAny_comprehension_free (use:=none) rfl hs (dq (I.capFree hk)) hk.kind hk.loc (bK (hw c s σ H _ I h) λv s1 h1=>bK h1 λitv s2 h2=>?_);obtain⟨it,fp,tn,J,H2,rfl,M,T,d,L,B⟩:=h2;refine ix (RR:=λa C=>compPost (model X.prog X.w) X.A X.xe none (EP X c σ Q) a C) (Q:=λa r=>∀l,r l=none->Q (.ref l) (aR r l (.lst a))) hc hk hcap hg hi he M T d L B ?_;intro D C u r a m q G O y p n f k i;refine⟨m,y,λh' t=>?_⟩;exact⟨.ref D,_,O.turned (t':=u.toks) (λb o z e=>(t.2 b z).trans e) p n (.inr f) k i,rfl,q D G⟩
theorem gF{i:Nat}{x:Str}{elt tg iter:Expr}{ifs:Ao}{scope:Scope}{pos spos:Pos}{px:Pos}(own:Ak)(js:Ad){wi:TI}{g:TG}{ti:TT}{te:TE}(hN:X.N.Nodup)(hxi:X.N[i]?=some x)(hx:Loc X.env.scope x)
  (hsw:swapsWith (.ListComp elt [⟨tg,iter,ifs,0⟩] scope pos) (some (.Name x px)) spos.line X.env=pure true)
  (hc:X.calm=true) (hk:bf scope X.env.scope)
  (hcap:(js.all λj=>scope.names.contains (X.N.getD j Str.empty,NameKind.free))=true) (hw:PI X tg iter wi)
  (hg:∀s H fp C,PG (X.blk (gm own js X.N) s H scope fp C) tg g) (hi:∀s H fp C,uO (X.blk (gm own js X.N) s H scope fp C) ifs ti) (he:∀s H fp C,PE (X.blk (gm own js X.N) s H scope fp C) elt te)
  (hs:autoParam (∀x,foldedSetIterable iter X.env x=pure x) zz3._auto_1) (hf:autoParam (X.fn x=true\/X.env.scope.names.lookup x=some .local) zz2._auto_1) :
  PS X (.Assign [.Name x px] (.ListComp elt [⟨tg,iter,ifs,0⟩] scope pos) spos) (m3 (mq own.length js wi g ti te) (fB i)):=by
 intro c s σ H Dn I h;rw[exec_Assign_Name_used _ _ _ _ hsw];refine q04 (wpAny_standAt (q04 ?_));show wpAny _ _ (do let _ <- comprehension (.ListComp elt [⟨tg,iter,ifs,0⟩] scope pos) scope X.env _ (newList []) false (eval iter X.env) (some (assign (.Name x px) X.env))) _ _ s;refine q04 (q0X (wpAny_comprehension_free (use:=some (assign (.Name x px) X.env)) (Q:=λ_ f=>SP X c Dn .next f) (E:=X.xe) rfl hs (dq (I.capFree hk)) hk.kind hk.loc ?_) (λ_ f q=>q05 (q05 q)) λ_ _ z=>z);refine(bK (hw c s σ H _ I h) λv s1 h1=>bK h1 λitv s2 h2=>?_);obtain⟨it,fp,tn,J,H2,rfl,I2,T,p,f2,Y⟩:=h2;refine ix (RR:=λd C=>compPost (model X.prog X.w) X.A X.xe (some (assign (.Name x px) X.env)) (λ_ f=>SP X c Dn .next f) d C) (Q:=λd O=>∀l,O l=none->fB i (.ref l) σ (aR O l (.lst d)) Dn.nx) hc hk hcap hg hi he I2 T p f2 Y ?_;intro D C f O d m q Z I' R L n y k B;show wpAny _ _ (assign (.Name x px) X.env (.ref D)) _ _ f;refine wpAny_assign_Name (ir I' hN hxi hx (v:=.ref D) rfl (λu M t=>?_) hf);obtain⟨a,t,U⟩:=t;have G:C≠a:=by
  rcases U with z | z
  ·rw[z];exact n
  ·exact(k x a z).symm
 refine⟨m,R.sameBut t G,λh' r=>?_⟩;exact⟨_,_,M.turned (t':=u.toks) (λb o S e=>(r.2 b S).trans e) L n (.inr y) k B,q D Z⟩
end
section
variable {K:Ab}{g:TG}{ti:TT}{te:TE}{σ:St}{H:Hp}{Q:List V->Hp->Prop}
theorem iT{J:It}{n:Nat}(Pv:Nat->List V->St->Hp->Prop)(h0:Pv 0 [] σ H)(hz:∀i acc σ H,Pv i acc σ H->acc.length<sizeLine)(hi:∀i acc σ H,Pv i acc σ H->i<=n)
  (stop:∀acc σ H,Pv n acc σ H->J.stop n H) (go:∀i acc σ H,i<n->Pv i acc σ H->J.go i H)
  (hs:∀i x acc σ H H2,i<n->Pv i acc σ H->J.yld i H x H2->g x σ H2 λσ2 H3=>ti σ2 H3 λb H4=>if b=true then te σ2 H4 λv H5=>Pv (i+1) (acc++[v]) σ2 H5 else Pv (i+1) acc σ2 H4)
  (he:∀acc σ H,Pv n acc σ H->Q acc H) :
  fD J g ti te σ H Q:=by
 refine⟨λi m acc σ H=>Pv i acc σ H/\m=n+1-i,⟨n+1,h0,rfl⟩,?_⟩;rintro i m acc σ' a ⟨w,rfl⟩;refine⟨hz i acc σ' a w,?_⟩;have hle:=hi i acc σ' a w;rcases Nat.lt_or_ge i n with c | hge
 ·refine .inr ⟨go i acc σ' a c w,λacc' σ2 H2=>Pv (i+1) acc' σ2 H2,λacc' σ2 H2 w2=>⟨n+1-(i+1),?_,w2,rfl⟩,λx H2 y=>hs i x acc σ' a H2 c w y⟩
  have:=hi (i+1) acc' σ2 H2 w2;omega
 ·have e:i=n:=by omega
  subst e;exact .inl ⟨stop acc σ' a w,he acc σ' a w⟩
theorem cS{xs:List V}(Pv:Nat->List V->St->Hp->Prop)(h0:Pv 0 [] σ H)(hz:∀i acc σ H,Pv i acc σ H->acc.length<sizeLine)(hi:∀i acc σ H,Pv i acc σ H->i<=xs.length)
  (hl:∀i acc σ H,Pv i acc σ H->aS K H a xs)
  (hs:∀i x acc σ H,xs[i]?=some x->Pv i acc σ H->g x σ H λσ2 H3=>ti σ2 H3 λb H4=>if b=true then te σ2 H4 λv H5=>Pv (i+1) (acc++[v]) σ2 H5 else Pv (i+1) acc σ2 H4)
  (he:∀acc σ H,Pv xs.length acc σ H->Q acc H):fD (qz K a) g ti te σ H Q:=by
 exact iT (J:=qz K a) (g:=g) (ti:=ti) (te:=te) (Q:=Q) (n:=xs.length) Pv h0 hz hi (λacc σ H w=>⟨xs,hl _ _ _ _ w,xp _⟩)
  (λi acc σ H hlt w=>⟨xs,xs[i],hl _ _ _ _ w,wQ hlt⟩) (λi x acc σ H H2 hlt w y=>by obtain⟨rfl,c⟩:=y;exact hs i x acc σ H2 (c xs (hl _ _ _ _ w)) w) he
theorem c7{lo:Int}{n:Nat}(Pv:Nat->List V->St->Hp->Prop)(h0:Pv 0 [] σ H)(hz:∀i acc σ H,Pv i acc σ H->acc.length<sizeLine)(hi:∀i acc σ H,Pv i acc σ H->i<=n)
  (hs:∀i acc σ H,i<n->Pv i acc σ H->g (.int (lo+i)) σ H λσ2 H3=>ti σ2 H3 λb H4=>if b=true then te σ2 H4 λv H5=>Pv (i+1) (acc++[v]) σ2 H5 else Pv (i+1) acc σ2 H4)
  (he:∀acc σ H,Pv n acc σ H->Q acc H):fD (nw lo n) g ti te σ H Q:=by
 exact iT (J:=nw lo n) (g:=g) (ti:=ti) (te:=te) (Q:=Q) (n:=n) Pv h0 hz hi (λacc σ H w=>xp _) (λi acc σ H hlt w=>hlt) (λi x acc σ H H2 hlt w y=>by obtain⟨rfl,rfl⟩:=y;exact hs i acc σ H2 hlt w) he
end
structure gN(P:Aj)(w:Am)(K:Ab)(mg:Ah)(base:Heap)(CX:eG)(k:Nat)(x:Str)(ps:Ak)(sp:Sp):Prop where
 ex:∃(f:Addr) (fd:Ai),bH P w K mg base CX k f fd ps sp/\mg x=some (.ref f)/\PySem.W.keepIn K (.ref f)=true/\cy K fd ps []
structure NB(mg:Ah):Prop where
 len:mg "len"=none
 range:mg "range"=none
 list:mg "list"=none
 tuple:mg "tuple"=none
 isinstance:mg "isinstance"=none
 int:mg "int"=none
 bool:mg "bool"=none
 str:mg "str"=none
 reversed:mg "reversed"=none
 all:mg "all"=none
 enumerate:mg "enumerate"=none
 zip:mg "zip"=none
 sorted:mg "sorted"=none
 set:mg "set"=none
 dict:mg "dict"=none
 min:mg "min"=none
 max:mg "max"=none
 sum:mg "sum"=none
 ValueError:mg "ValueError"=none
section
variable {X:Cx}{CX:eG}{k:Nat}{x:Str}{ps:Ak}{sp:Sp}{E:XK}{p pos:Pos}{e:Expr}{es:Ao}{t:TA}
theorem bh(C:gN X.prog X.w X.K X.mg X.base CX k x ps sp)(hr:cr k X.A)(hg:Gl X x)(hx:iK CX X E)(ha:PA X (e::es) t)(hdb:autoParam ((x==("__debug__":Str))=false) zz5._auto_1)
  (hst:autoParam (starEach (e::es) X.env=(false,eval e X.env)::starEach es X.env) zz0._auto_1) (hpl:autoParam ((backTo pos (starEach es X.env)).any (·.1)=false) zz0._auto_1):PE X (.Call (.Name x p) (e::es) [] pos) (jR sp [] E t):=by
 obtain⟨f,fd,F,a,b,c⟩:=C.ex;exact qO F hr hg a b c .nil hx ha hdb hst hpl
end
section
variable {X:Cx}{tg:Expr}
def pU(_ j:Int):Prop:=0<j/\j<18446744073709551616
theorem bR:bn X (binaryOp .FloorDiv) (rI pU λi j=>.int (i/j)):=u6 λi j _ _ _ _ _ hc q=>by
 have h1:(0:Int)<j:=hc.1;have h2:j<18446744073709551616:=hc.2;refine floordiv_int ⋯ (by rw[Int.fdiv_eq_ediv_of_nonneg i ⋯];exact q) (.inl (PyProof.noPylong_of_log2 ?_));have h64:j.natAbs.log2<64:=(Nat.log2_lt ⋯).mpr ⋯;omega
theorem cq:∀{ys:Ak} {us:Af},aD (ys.map V.str) us->StrsAre us ys
 | [],_,.nil=>.nil
 |y::ys,_,.cons r t=>by
  obtain⟨tk,rfl⟩:=r;exact .cons y tk (cq t)
def kc(K:Ab):V->List V->Hp->VK->Prop:=λx xs H Q=>∃z p ys,x=.str z/\xs=[.ref p]/\(aS K H p (ys.map V.str)\/fq K H p (ys.map V.str))/\(ys.map (·.length)).sum+ys.length*z.length<=16777216/\Q (.str (Txt.join z ys)) H
theorem qP:wf X "str.join" (kc X.K):=by
 intro pins s σ H x xs v us Q I rx rv h;obtain⟨z,p,ys,rfl,rfl,hs,d,q⟩:=h;obtain⟨t,rfl⟩:=rx;obtain⟨u,rfl,e⟩:=rv.one;cases e;rcases hs with hs | hs
 ·obtain⟨c,r,b,_⟩:=I.list hs
  exact join_list b.isList (by simpa using cq r) d λa k=>⟨.str _,H,I.tok k,⟨a,rfl⟩,q⟩
 ·obtain⟨c,r,b,_⟩:=I.tuple hs
  exact join_tuple b (by simpa using cq r) d λa k=>⟨.str _,H,I.tok k,⟨a,rfl⟩,q⟩
def uP(K:Ab)(a:Addr)(n:Nat):It:=
 ⟨λi H=>∃xs x,aS K H a xs/\i<n/\xs[n-1-i]?=some x,λi H x H'=>H'=H/\∀xs,aS K H a xs->xs[n-1-i]?=some x,λi _=>i=n⟩
theorem pR{K:Ab}(a it:Addr)(n:Nat):pW P w K tg (uP K a n) [it] it (λi h=>h.IsRevIter it a ((n:Int)-1-(i:Int))) where
 mem:=by simp
 obj:=λi h f b l=>by
  have e:b=it:=by simpa using l
  subst e;obtain⟨o,e,c,d⟩:=f;exact⟨o,e,λv z=>by rw[d]at z;cases z⟩
 keep:=λi h q f k=>f.at λo e=>k it (by simp) o e
 item:=by
  intro X t r y S i g s σ H E I hf f hg;subst t r y;obtain⟨xs,x,O,R,M⟩:=hg;obtain⟨its,U,p,hz⟩:=I.list O;obtain⟨u,hu,Y⟩:=U.get M;obtain⟨L,G,f2,D,C,B⟩:=hf it (by simp);have e:(n:Int)-1-(i:Int)=((n-1-i:Nat):Int):=by omega
  have m:=f;rw[e]at m;refine wpAny_pyNext_rev_item m p.isList (x:=u) (by simpa using hu) λq j T=>?_;have e2:((n-1-i:Nat):Int)-1=(n:Int)-1-((i+1:Nat):Int):=by omega
  rw[e2]at j;have I1:Inv X g σ H {s with heap:=q }:=I.turned (t':=s.toks) (λb o l e=>(T.2 b l).trans e) L G D C B;obtain⟨o,e,c,d⟩:=id j;exact⟨u,rfl,pj (s:={s with heap:=q }) e c d nofun ⟨x,H,I1,Y,⟨rfl,λys Z=>by rw[I.list_inj Z O];exact M⟩,j,λb l=>(hf b l).1⟩⟩
 done:=by
  intro X t r y S i g s σ H E I hf f hg;subst t r y;obtain⟨L,G,f2,D,C,B⟩:=hf it (by simp);have R:i=n:=hg;subst R;have e:(i:Int)-1-(i:Int) = -1:=by omega
  rw[e]at f;exact wpAny_pyNext_rev_end (I.ok.hd S) f λq eb=>⟨rfl,I.turned (t':=s.toks) (λb o l e=>eb b o l e) L G D C B⟩
 self:=λ_ _ _ _ _ f h=>wpAny_pyIter_revIter f h
def sM(K:Ab)(ta:TA):TI:=λσ H R=>ta σ H λvs H1=>∃a xs,vs=[.ref a]/\aS K H1 a xs/\R (uP K a xs.length) H1
theorem tI{a:Expr}{ta:TA}{p pos:Pos}(hg:Gl X "reversed")(hm:X.mg "reversed"=none)(ha:PA X [a] ta)(hs:autoParam (starEach [a] X.env=[(false,eval a X.env)]) zz0._auto_1):PI X tg (.Call (.Name "reversed" p) [a] [] pos) (sM X.K ta):=by
 intro d s σ H R I h;refine Call_ (cJ I hg hm boot_reversed (PyProof.Rows.callWith_type1 (bK (ha pos d s σ H _ I h) λus c ⟨vs,H1,i,r,t⟩=>?_) hs rfl));obtain⟨l,f,rfl,w,q⟩:=t;obtain⟨u,rfl,n⟩:=r.one;cases n;obtain⟨j,m,v,hz⟩:=i.list w;have g:=m.length;refine call_reversed_list v.isList ?_;have y:j.toArray.size=f.length:=by rw[wZ,g]
 rw[y];have z:Inv X d σ H1 {c with heap:=c.heap.push (revObj l ((f.length:Int)-1))}:=i.kept (t':=c.toks) λb o e=>wS _ e;have k:(c.heap.push (revObj l ((f.length:Int)-1))).IsRevIter c.heap.objs.size l ((f.length:Int)-1-((0:Nat):Int)):=⟨_,wY _ rfl,rfl,by simp[revObj]⟩;refine wpAny_pyIter_revIter k ?_;refine⟨c.heap.objs.size,[c.heap.objs.size],_,_,H1,rfl,z,pR l _ f.length,k,λb x=>?_,q⟩;have e:b=c.heap.objs.size:=by simpa using x
 subst e;exact i.fpOk (xp _) (i.hok.fresh (xp _))
def sD:V->Option Int->Option Int->Hp->VK->Prop:=λx lo hi H Q=>∃z,x=.str z/\z.length<=sizeLine/\Q (.str (Txt.slice z lo hi)) H
theorem nW:vU X sD:=by
 intro a s σ H x v vl vu lo hi sl Q I rx hs pl pu h;obtain⟨z,rfl,b,q⟩:=h;obtain⟨t,rfl⟩:=rx;have fin:∀c k,EP X a σ Q (.str (Txt.slice z lo hi) c) {s with toks:=k}:=λc k=>⟨.str _,H,I.tok k,⟨c,rfl⟩,q⟩;refine⟨"str",_,F.slot_str_getitem.lookup,typeIs_str _ _ _,?_⟩;cases pl with
 |none=>
  cases pu with
  |none=>exact wpAny_getItem_str_slice (l:=none) (u:=none) (st:=none) hs rfl (post_val_or_str ⟨xz (Txt.slice_le z _ _) b,fin⟩)
  |int j uj=>exact wpAny_getItem_str_slice (l:=none) (u:=some (j,uj)) (st:=none) hs rfl (post_val_or_str ⟨xz (Txt.slice_le z _ _) b,fin⟩)
 |int i ui=>
  cases pu with
  |none=>exact wpAny_getItem_str_slice (l:=some (i,ui)) (u:=none) (st:=none) hs rfl (post_val_or_str ⟨xz (Txt.slice_le z _ _) b,fin⟩)
  |int j uj=>exact wpAny_getItem_str_slice (l:=some (i,ui)) (u:=some (j,uj)) (st:=none) hs rfl (post_val_or_str ⟨xz (Txt.slice_le z _ _) b,fin⟩)
def vz(sep:Str)(ta:TA):TE:=λσ H Q=>ta σ H λvs H1=>∃x,vs=[.str x]/\x.length<=1000/\sep.length<=1000/\Q (.str (Txt.join sep (x.cps.toList.reverse.map λc=>(⟨#[c]⟩:Str)))) H1
theorem kY{e:Expr}{ta:TA}{sep:Str}{j:Nat}{ap p1 p2 cpos:Pos}(hc:X.calm=true)(hg:Gl X "reversed")(hm:X.mg "reversed"=none)(ha:PA X [e] ta)
  (hfew:autoParam (((backTo cpos (starEach [.Call (.Name "reversed" p1) [e] [] p2] X.env)).all (λx=>!x.1)&&(backToKw cpos (keywordEach [] X.env)).all (λx=>x.1.isSome)
   && decide ([Expr.Call (.Name "reversed" p1) [e] [] p2].length+([]:List Keyword).length+(if([]:List Keyword).isEmpty then 0 else 1)<30))=true) zz0._auto_1)
  (hline:autoParam ((ap.endLine==cpos.line)=true) zz0._auto_1) (hs:autoParam (starEach [e] X.env=[(false,eval e X.env)]) zz0._auto_1) :
  PE X (.Call (.Attribute (.Constant (.str sep) j p0) "join" ap) [.Call (.Name "reversed" p1) [e] [] p2] [] cpos) (vz sep ta):=by
 intro c s σ H Q I h;refine wpAny_Call_method_late rfl hfew hline rfl (bK (dO (X:=X) c s σ H (λv H1=>v=.str sep/\H1=H) I ⟨rfl,rfl⟩) λv i ⟨x,H1,m,w,C⟩=>?_);obtain⟨rfl,rfl⟩:=C;obtain⟨t0,rfl⟩:=w;refine⟨"str",_,F.plainAttrs_str,F.slot_str_join,F.type_str_join,typeIs_str _ _ _,(λa z=>nomatch z),?_⟩;refine Calls.callWith_builtin rfl (Calls.evalArgs_plain ?_);show wpAny _ _ (spliced ((false,eval (.Call (.Name "reversed" p1) [e] [] p2) X.env)::[])) _ _ i;refine Calls.spliced_cons ?_;refine Call_ (cJ m hg hm boot_reversed (PyProof.Rows.callWith_type1 (bK (ha p2 c i σ H1 _ m h) λus d ⟨vs,H2,g,r,y⟩=>?_) hs rfl));obtain⟨x,rfl,B,f,q⟩:=y;obtain⟨u,rfl,p⟩:=r.one;obtain⟨t,rfl⟩:=p;have hsl:sizeLine=16777216:=q0W;refine d0 ⋯ (Calls.spliced_nil ?_);have l:Inv X c σ H2 {d with heap:=d.heap.push (kP x t ((x.length:Int)-1)),toks:=d.toks+1+1}:=g.kept λb o e=>wS _ e;have G:=g.fpOk (b:=d.heap.objs.size) (H':=H2) (xp _) (g.hok.fresh (xp _));obtain⟨S,R,f2,O,M,L⟩:=G;refine ow (l.ok.hd hc) (I:=d.heap.objs.size) (x:=x) (t:=t) ⟨_,wY _ rfl,rfl,rfl⟩ B f λn t' k keep U Y T=>?_;obtain⟨h',g',d',k',o'⟩:=n;cases U;cases Y;cases T;exact⟨.str _,H2,l.turned (t':=k) (λb o D e=>keep b o D e) S R O M L,⟨t',rfl⟩,q⟩
def rE:V->Value
 | .ty n=>.type n
 | .ref a=>.ref a
 |_=>.none
def iH:V->Bool
 | .ty _=>true
 | .ref _=>true
 |_=>false
theorem qA(r:aI c u)(h:iH c=true):u=rE c:=by
 cases c with
 |ty n=>exact r
 |ref a=>exact r
 |_=>cases h
def qR(K:Ab):List V->Hp->VK->Prop:=λxs H Q=>∃x c t b,xs=[x,c]/\iH c=true/\dD K H x t/\PySem.W.kitOne K t (rE c)=some b/\Q (.bl b) H
theorem b8:bV X (.builtin "isinstance") (qR X.K):=by
 intro pins s σ H xs us Q I r h;obtain⟨x,c,t,b,rfl,i,a,e,q⟩:=h;obtain⟨u,v,rfl,g,f⟩:=r.two;rw[qA f i];exact mV I g a e λd=>⟨.bl b,H,I.tok d,rfl,q⟩
theorem gt(K:Ab)(n:String):PySem.W.kitOne K (.type n) (.type n)=some true:=by
 unfold PySem.W.kitOne;rw[q07 (beq_self_eq_true _)]
inductive Dt where
 |non | bl (b:Bool) | int (i:Int) | str (x:Str) | lst (ds:List Dt) | tup (ds:List Dt)
mutual
def fF(K:Ab)(H:Hp):Dt->V->Prop
 | .non,v=>v=.non
 | .bl b,v=>v=.bl b
 | .int i,v=>v=.int i
 | .str x,v=>v=.str x
 | .lst ds,v=>∃a xs,v=.ref a/\aS K H a xs/\cG K H ds xs
 | .tup ds,v=>∃a xs,v=.ref a/\fq K H a xs/\cG K H ds xs
def cG(K:Ab)(H:Hp):List Dt->List V->Prop
 | [],xs=>xs=[]
 |d::ds,xs=>∃x r,xs=x::r/\fF K H d x/\cG K H ds r
end
mutual
def Dt.dep:Dt->Nat
 | .lst ds=>Dt.deps ds+1
 | .tup ds=>Dt.deps ds+1
 |_=>0
def Dt.deps:List Dt->Nat
 | []=>0
 |d::ds=>max (Dt.dep d) (Dt.deps ds)
end
theorem cG.length{K:Ab}:∀{ds:List Dt} {xs:List V},cG K H ds xs->xs.length=ds.length
 | [],_,h=>by unfold cG at h;rw[h];rfl
 |d::ds,xs,h=>by
  unfold cG at h;obtain⟨x,r,rfl,_,h2⟩:=h;simp[cG.length h2]
theorem cG.get{K:Ab}:∀{ds:List Dt} {xs:List V} {j:Nat} {x:V},cG K H ds xs->xs[j]?=some x->∃d,ds[j]?=some d/\fF K H d x
 | [],_,_,_,h,e=>by unfold cG at h;rw[h]at e;simp at e
 |d::ds,xs,j,x,h,e=>by
  unfold cG at h;obtain⟨y,r,rfl,h1,h2⟩:=h;cases j with
  |zero=>simp at e;subst e;exact⟨d,rfl,h1⟩
  |succ j=>
   obtain⟨d',e1,e2⟩:=cG.get (j:=j) h2 (by simpa using e);exact⟨d',by simpa using e1,e2⟩
theorem dg:∀{ds:List Dt} {j:Nat} {d:Dt},ds[j]?=some d->d.dep<=Dt.deps ds
 | [],_,_,e=>by simp at e
 |d'::ds,0,d,e=>by simp at e;subst e;unfold Dt.deps;omega
 |d'::ds,j+1,d,e=>by
  have:=dg (ds:=ds) (j:=j) (by simpa using e);unfold Dt.deps;omega
theorem cP(n:Nat):(List.range n).all (λ_=>true)=true:=by simp
theorem pG{pins:Ac}{σ:St}(I:Inv X pins σ H s):∀(n:Nat) (d:Dt) (A:Al) {v u:V} {vv uu:Value},d.dep<=n->A.units+n<cLine->fF X.K H d v->fF X.K H d u->aI v vv->aI u uu->SeqAt.EqAt A s vv uu true:=by
 intro n
 induction n with
 |zero=>
  intro d A v u vv uu R hA h1 h2 k g;cases d with
  |non=>unfold fF at h1 h2;subst h1 h2;have:=dj (A:=A) (s:=s) k g rfl rfl;exact this
  |bl b=>unfold fF at h1 h2;subst h1 h2;have:=dj (A:=A) (s:=s) k g rfl rfl;simpa[s0]using this
  |int i=>unfold fF at h1 h2;subst h1 h2;have:=dj (A:=A) (s:=s) k g rfl rfl;simpa[s0]using this
  |str x=>unfold fF at h1 h2;subst h1 h2;have:=dj (A:=A) (s:=s) k g rfl rfl;simpa[s0]using this
  |lst ds=>unfold Dt.dep at R;omega
  |tup ds=>unfold Dt.dep at R;omega
 |succ n ih=>
  intro d A v u vv uu R hA h1 h2 k g;cases d with
  |non=>unfold fF at h1 h2;subst h1 h2;have:=dj (A:=A) (s:=s) k g rfl rfl;exact this
  |bl b=>unfold fF at h1 h2;subst h1 h2;have:=dj (A:=A) (s:=s) k g rfl rfl;simpa[s0]using this
  |int i=>unfold fF at h1 h2;subst h1 h2;have:=dj (A:=A) (s:=s) k g rfl rfl;simpa[s0]using this
  |str x=>unfold fF at h1 h2;subst h1 h2;have:=dj (A:=A) (s:=s) k g rfl rfl;simpa[s0]using this
  |lst ds=>
   unfold fF at h1 h2;obtain⟨a,D,rfl,ha,m⟩:=h1;obtain⟨b,B,rfl,hb,l⟩:=h2;cases k;cases g
   by_cases o:a=b
   ·subst o;exact SeqAt.EqAt.same _
   ·unfold Dt.dep at R
    obtain⟨f,M,pa,_⟩:=I.list ha;obtain⟨c,L,Z,_⟩:=I.list hb;have l1:=M.length;have l2:=L.length;have l3:=m.length;have l4:=l.length
    have a1:f.toArray.size=c.toArray.size:=by simp;omega
    have q:=SeqAt.RcAt.lists (A:=A) (s:=s) (e:=λ_=>true) pa.isList Z.isList a1 ⋯ λj g1 g2=>by
     have z:j<f.length:=by simpa using g1
     have y:j<c.length:=by simpa using g2
     have G:D[j]?=some D[j]:=wQ ⋯;have C:B[j]?=some B[j]:=wQ ⋯;obtain⟨d,Y,w⟩:=m.get G;obtain⟨d',U,t⟩:=l.get C;rw[Y]at U;cases U
     obtain⟨w1,T,r⟩:=M.get G;obtain⟨w2,S,p⟩:=L.get C;rw[wQ z]at T;rw[wQ y]at S;cases T;cases S
     have O:=dg Y;simp only[xP];exact ih d A.in1 ⋯ (by show A.units+1+n<cLine;omega) w t r p
    rw[cP]at q;exact SeqAt.EqAt.of_refs o q
  |tup ds=>
   unfold fF at h1 h2;obtain⟨a,D,rfl,ha,m⟩:=h1;obtain⟨b,B,rfl,hb,l⟩:=h2;cases k;cases g
   by_cases o:a=b
   ·subst o;exact SeqAt.EqAt.same _
   ·unfold Dt.dep at R
    obtain⟨f,M,pa,_⟩:=I.tuple ha;obtain⟨c,L,Z,_⟩:=I.tuple hb;have l1:=M.length;have l2:=L.length;have l3:=m.length;have l4:=l.length
    have q:=SeqAt.RcAt.tuples (A:=A) (s:=s) (e:=λ_=>true) (show s.heap.IsTuple a f.toArray from pa) (show s.heap.IsTuple b c.toArray from Z) ⋯ λj g1 g2=>by
     have z:j<f.length:=by simpa using g1
     have y:j<c.length:=by simpa using g2
     have G:D[j]?=some D[j]:=wQ ⋯;have C:B[j]?=some B[j]:=wQ ⋯;obtain⟨d,Y,w⟩:=m.get G;obtain⟨d',U,t⟩:=l.get C;rw[Y]at U;cases U
     obtain⟨w1,T,r⟩:=M.get G;obtain⟨w2,S,p⟩:=L.get C;rw[wQ z]at T;rw[wQ y]at S;cases T;cases S
     have O:=dg Y;simp only[xP];exact ih d A.in1 ⋯ (by show A.units+1+n<cLine;omega) w t r p
    have e0:((List.range (min f.toArray.size c.toArray.size)).all (λ_=>true)&&f.toArray.size==c.toArray.size)=true:=by
     rw[cP,Bool.true_and];simp;omega
    rw[e0]at q;exact SeqAt.EqAt.of_refs o q
def uB(K:Ab)(neg:Bool):R2:=λx y H Q=>
 (∃ds,Dt.deps ds<=40/\((fF K H (.lst ds) x/\fF K H (.lst ds) y)\/(fF K H (.tup ds) x/\fF K H (.tup ds) y))/\Q (.bl (!neg)) H) \/
 (∃a b xs ys,x=.ref a/\y=.ref b/\aS K H a xs/\aS K H b ys/\xs.length≠ys.length/\Q (.bl neg) H)
theorem tL(hu:X.A.units+64<cLine):bn X (compareOp .Eq) (uB X.K false):=by
 intro p s σ H x y v u Q I rx ry h;rcases h with⟨ds,hd,h,q⟩ | ⟨a,b,n,m,rfl,rfl,z,w,hne,q⟩
 ·have fin:EP X p σ Q (.bool true) s:=⟨.bl true,H,I,rfl,q⟩
  have o:∀{n m:List V} {f c:Af},cG X.K H ds n->cG X.K H ds m->aD n f->aD m c->∀j (h1:j<f.toArray.size) (h2:j<c.toArray.size),SeqAt.EqAt X.A.in1 s f.toArray[j] c.toArray[j] true:=fun{n m f c} i g l k j g1 g2=>by
   have M:=l.length;have L:=k.length;have Y:=i.length;have U:=g.length
   have R:j<f.length:=by simpa using g1
   have O:j<c.length:=by simpa using g2
   have T:n[j]?=some n[j]:=wQ ⋯;have S:m[j]?=some m[j]:=wQ ⋯;obtain⟨d,e1,G⟩:=i.get T;obtain⟨d',e2,D⟩:=g.get S;rw[e1]at e2;cases e2
   obtain⟨w1,f1,C⟩:=l.get T;obtain⟨w2,Z,B⟩:=k.get S;rw[wQ R]at f1;rw[wQ O]at Z;cases f1;cases Z
   have hdep:=dg e1;simp only[xP];exact pG I 40 d X.A.in1 ⋯ (by show X.A.units+1+40<cLine;omega) G D C B
  rcases h with⟨h1,h2⟩ | ⟨h1,h2⟩
  ·unfold fF at h1 h2
   obtain⟨a,n,rfl,z,i⟩:=h1;obtain⟨b,m,rfl,w,g⟩:=h2;cases rx;cases ry
   obtain⟨f,l,t,_⟩:=I.list z;obtain⟨c,k,r,_⟩:=I.list w;have M:=l.length;have L:=k.length;have Y:=i.length;have U:=g.length
   have q:=SeqAt.RcAt.lists (A:=X.A) (s:=s) (e:=λ_=>true) t.isList r.isList (by simp;omega) ⋯ (o i g l k);rw[cP]at q;exact q _ _ _ _ fin
  ·unfold fF at h1 h2
   obtain⟨a,n,rfl,z,i⟩:=h1;obtain⟨b,m,rfl,w,g⟩:=h2;cases rx;cases ry
   obtain⟨f,l,t,_⟩:=I.tuple z;obtain⟨c,k,r,_⟩:=I.tuple w;have M:=l.length;have L:=k.length;have Y:=i.length;have U:=g.length
   have q:=SeqAt.RcAt.tuples (A:=X.A) (s:=s) (e:=λ_=>true) (show s.heap.IsTuple a f.toArray from t) (show s.heap.IsTuple b c.toArray from r) ⋯ (o i g l k);have e0:((List.range (min f.toArray.size c.toArray.size)).all (λ_=>true)&&f.toArray.size==c.toArray.size)=true:=by
    rw[cP,Bool.true_and];simp;omega
   rw[e0]at q;exact q _ _ _ _ fin
 ·cases rx;cases ry
  obtain⟨f,l,t,_⟩:=I.list z;obtain⟨c,k,r,_⟩:=I.list w;have M:=l.length;have L:=k.length
  exact SeqAt.RcAt.lists_lengths t.isList r.isList (by simp;omega) ⋯ _ _ _ _ ⟨.bl false,H,I,rfl,q⟩
theorem om(hu:X.A.units+64<cLine):bn X (compareOp .NotEq) (uB X.K true):=by
 intro p s σ H x y v u Q I rx ry h;rcases h with⟨ds,hd,h,q⟩ | ⟨a,b,n,m,rfl,rfl,z,w,hne,q⟩
 ·have fin:EP X p σ Q (.bool false) s:=⟨.bl false,H,I,rfl,q⟩
  have o:∀{n m:List V} {f c:Af},cG X.K H ds n->cG X.K H ds m->aD n f->aD m c->∀j (h1:j<f.toArray.size) (h2:j<c.toArray.size),SeqAt.EqAt X.A.in1 s f.toArray[j] c.toArray[j] true:=fun{n m f c} i g l k j g1 g2=>by
   have M:=l.length;have L:=k.length;have Y:=i.length;have U:=g.length
   have R:j<f.length:=by simpa using g1
   have O:j<c.length:=by simpa using g2
   have T:n[j]?=some n[j]:=wQ ⋯;have S:m[j]?=some m[j]:=wQ ⋯;obtain⟨d,e1,G⟩:=i.get T;obtain⟨d',e2,D⟩:=g.get S;rw[e1]at e2;cases e2
   obtain⟨w1,f1,C⟩:=l.get T;obtain⟨w2,Z,B⟩:=k.get S;rw[wQ R]at f1;rw[wQ O]at Z;cases f1;cases Z
   have hdep:=dg e1;simp only[xP];exact pG I 40 d X.A.in1 ⋯ (by show X.A.units+1+40<cLine;omega) G D C B
  rcases h with⟨h1,h2⟩ | ⟨h1,h2⟩
  ·unfold fF at h1 h2
   obtain⟨a,n,rfl,z,i⟩:=h1;obtain⟨b,m,rfl,w,g⟩:=h2;cases rx;cases ry
   obtain⟨f,l,t,_⟩:=I.list z;obtain⟨c,k,r,_⟩:=I.list w;have M:=l.length;have L:=k.length;have Y:=i.length;have U:=g.length
   have q:=SeqAt.RcNeAt.lists (A:=X.A) (s:=s) (e:=λ_=>true) t.isList r.isList (by simp;omega) ⋯ (o i g l k);rw[cP]at q;exact q _ _ _ _ fin
  ·unfold fF at h1 h2
   obtain⟨a,n,rfl,z,i⟩:=h1;obtain⟨b,m,rfl,w,g⟩:=h2;cases rx;cases ry
   obtain⟨f,l,t,_⟩:=I.tuple z;obtain⟨c,k,r,_⟩:=I.tuple w;have M:=l.length;have L:=k.length;have Y:=i.length;have U:=g.length
   have q:=SeqAt.RcNeAt.tuples (A:=X.A) (s:=s) (e:=λ_=>true) (show s.heap.IsTuple a f.toArray from t) (show s.heap.IsTuple b c.toArray from r) ⋯ (o i g l k);have e0:((List.range (min f.toArray.size c.toArray.size)).all (λ_=>true)&&f.toArray.size==c.toArray.size)=true:=by
    rw[cP,Bool.true_and];simp;omega
   rw[e0]at q;exact q _ _ _ _ fin
 ·cases rx;cases ry
  obtain⟨f,l,t,_⟩:=I.list z;obtain⟨c,k,r,_⟩:=I.list w;have M:=l.length;have L:=k.length
  exact SeqAt.RcNeAt.lists_lengths t.isList r.isList (by simp;omega) ⋯ _ _ _ _ ⟨.bl true,H,I,rfl,q⟩
theorem qK{K:Ab}{ys:Ak}:cG K H (ys.map Dt.str) (ys.map V.str):=by
 induction ys with
 |nil=>unfold cG;rfl
 |cons y ys ih=>
  show cG K H (Dt.str y::ys.map Dt.str) (V.str y::ys.map V.str);unfold cG;exact⟨_,_,rfl,by unfold fF;rfl,ih⟩
theorem fm(ys:Ak):Dt.deps (ys.map Dt.str)=0:=by
 induction ys with
 |nil=>rfl
 |cons y ys ih=>show max (Dt.dep (.str y)) (Dt.deps (ys.map Dt.str))=0;rw[ih];rfl
end
end L2
namespace aO
abbrev wa:=List Nat
abbrev aO:=List wa
def bG(p:aO)(r c:Nat):Prop:=p.length=r/\∀x∈p,x.length=c
def mirror(p:aO):aO:=p.map List.reverse
def jt(p:aO)(i:Nat):wa:=p.reverse.map λx=>x.getD i 0
def bL(p:aO):aO:=(List.range (p.headD []).length).map (jt p)
def aJ:Nat->aO->aO
 |0,p=>p
 |n+1,p=>aJ n (bL p)
def turned(p:aO)(t:Nat):aO:=aJ (t%4) (if 4<=t then mirror p else p)
theorem pK{i:Nat}(h:bG p r c)(hi:i<r):(p.getD i []).length=c:=by
 have a:i<p.length:=by rw[h.1];exact hi
 rw[q0A,wQ a];exact h.2 _ (w6 a)
theorem ci(h:bG p r c)(hr:0<r):(p.headD []).length=c:=by
 have:=pK h hr;cases p with
 |nil=>have:=h.1;simp at this;omega
 |cons x p=>simpa using this
theorem cA(h:bG p r c):bG (mirror p) r c:=by
 refine⟨by simp[mirror,h.1],λx b=>?_⟩;obtain⟨y,a,rfl⟩:=xM.mp b;rw[xh];exact h.2 y a
theorem jk(h:bG p r c)(hr:0<r):bG (bL p) c r:=by
 refine⟨by unfold bL;rw[wT,q0J,ci h hr],λx a=>?_⟩;obtain⟨i,_,rfl⟩:=xM.mp a;simp[jt,h.1]
theorem bA:∀(n:Nat) {p:aO} {r c:Nat},bG p r c->0<r->0<c->bG (aJ n p) (if n%2=0 then r else c) (if n%2=0 then c else r)
 |0,_,_,_,h,_,_=>h
 |n+1,p,r,c,h,hr,hc=>by
  have:=bA n (jk h hr) hc hr;show bG (aJ n (bL p)) _ _
  by_cases e:n%2=0
  ·rw[q07 e,q07 e]at this
   rw[q06 ⋯,q06 ⋯];exact this
  ·rw[q06 e,q06 e]at this
   rw[q07 ⋯,q07 ⋯];exact this
theorem ka(h:bG p r c)(hr:0<r)(hc:0<c)(t:Nat):bG (turned p t) (if t%2=0 then r else c) (if t%2=0 then c else r):=by
 unfold turned;have e:t%4%2=t%2:=by omega
 rw[<- e]
 split
 ·exact bA _ (cA h) hr hc
 ·exact bA _ h hr hc
theorem c3(a b:Nat)(p:aO):aJ a (aJ b p)=aJ (b+a) p:=by
 induction b generalizing p with
 |zero=>rw[Nat.zero_add];rfl
 |succ b ih=>show aJ a (aJ b (bL p))=_;rw[ih,Nat.add_right_comm];rfl
def after(t u:Nat):Nat:=if u<4 then t/4*4+(t+u)%4 else(1-t/4)*4+(u+8-t)%4
def vg(t:Nat):Nat:=if t<4 then(4-t)%4 else t
end aO
namespace QL
open PySem L2 aO
def tx(r:Ad):Str:=⟨r.toArray⟩
def ak(p:aO):List V:=p.map λr=>V.str (tx r)
theorem al(r:Ad):(tx r).length=r.length:=by show r.toArray.size=r.length;simp
theorem cf(r:Ad):(tx r).cps.toList=r:=by show r.toArray.toList=r;simp
theorem ag(p:aO):(ak p).length=p.length:=by unfold ak;simp
theorem bW(p:aO):ak p=(p.map tx).map V.str:=by unfold ak;rw[xc];rfl
theorem bp{p:aO}{i:Nat}(h:i<p.length):(ak p)[i]?=some (V.str (tx p[i])):=by unfold ak;rw[wV,wQ h];rfl
theorem bF(p:aO)(r:Ad):ak (p++[r])=ak p++[V.str (tx r)]:=by unfold ak;simp
theorem nY:∀(ys:List (List Nat)),Txt.join (Str.ofString "") (ys.map tx)=tx ys.flatten
 | []=>rfl
 |y::ys=>by
  have key:∀(zs:List (List Nat)) (a:Ad),(zs.map tx).foldl (λacc (p:Str)=>acc++(Str.ofString "").cps++p.cps) a.toArray=(a++zs.flatten).toArray:=by
   intro zs
   induction zs with
   |nil=>intro a;simp
   |cons z zs ih=>
    intro a;rw[xy,List.foldl_cons];have e:a.toArray++(Str.ofString "").cps++(tx z).cps=(a++z).toArray:=by
     have b:(Str.ofString "").cps=#[]:=rfl;rw[b];show a.toArray ++ #[]++z.toArray=_;simp
    rw[e,ih];simp
  show(⟨(ys.map tx).foldl (λacc (p:Str)=>acc++(Str.ofString "").cps++p.cps) (tx y).cps⟩:Str)=_;show(⟨(ys.map tx).foldl (λacc (p:Str)=>acc++(Str.ofString "").cps++p.cps) y.toArray⟩:Str)=_;rw[key]
  rfl
theorem eV(r:Ad):Txt.join (Str.ofString "") (r.map λc=>(⟨#[c]⟩:Str))=tx r:=by
 have e:(r.map λc=>(⟨#[c]⟩:Str))=(r.map λc=>[c]).map tx:=by rw[xc];rfl
 rw[e,nY]
 congr 1
 clear e
 induction r with
 |nil=>rfl
 |cons c r ih=>simp[ih]
def eC(p:aO):Prop:=p.length<=64/\∀r∈p,r.length<=64
theorem eC.of(h:bG p r c)(hr:r<=64)(hc:c<=64):eC p:=⟨by rw[h.1];exact hr,λx hx=>by rw[h.2 x hx];exact hc⟩
theorem a_{n:Nat}(h:n<=1000000):n<sizeLine:=by have:=q0W;omega
theorem aZ{n:Nat}(h:n<=1000000):n<=sizeLine:=by have:=q0W;omega
theorem aA{H:Hp}(h:H l=none):aE H (aR H l o):=λb u e=>by rw[ar (aw e h)];exact e
theorem bw{H0:Hp}(s:aE H0 H)(h:H0 l=none):aE H0 (aR H l o):=λb u e=>by rw[ar (aw e h)];exact s b u e
theorem gA{i:Nat}(h:bG p r c)(hi:i<r):∃hl:i<p.length,(p[i]).length=c:=⟨by rw[h.1];exact hi,h.2 _ (w6 _)⟩
def di(H:Hp)(p:aO)(Q:VK):Prop:=∀(l:Addr) (H':Hp),H l=none->H' l=some (.lst (ak p))->aE H H'->Q (.ref l) H'
end QL
namespace L2
open PySem PySem.Spec PyProof.Rows
section
variable {X:Cx}
theorem iF:bV X (.builtin "len") (λxs H Q=>∃p ys,xs=[.ref p]/\aS X.K H p ys/\Q (.int ys.length) H):=λpins s σ H xs us Q I r ⟨p,ys,e,h,q⟩=>eu pins s σ H xs us Q I r ⟨p,ys,e,.inl h,q⟩
theorem mT:bV X (.builtin "len") (λxs H Q=>∃p ys,xs=[.ref p]/\fq X.K H p ys/\Q (.int ys.length) H):=λpins s σ H xs us Q I r ⟨p,ys,e,h,q⟩=>eu pins s σ H xs us Q I r ⟨p,ys,e,.inr h,q⟩
theorem ou{K:Ab}{g:TG}{ti:TT}{te:TE}{σ:St}{H:Hp}{Q:List V->Hp->Prop}{xs:List V}(Pv:Nat->List V->St->Hp->Prop)(h0:Pv 0 [] σ H)(hz:∀i acc σ H,Pv i acc σ H->acc.length<sizeLine)(hi:∀i acc σ H,Pv i acc σ H->i<=xs.length)
  (hl:∀i acc σ H,Pv i acc σ H->aS K H a xs)
  (hs:∀i x acc σ H,xs.reverse[i]?=some x->Pv i acc σ H->g x σ H λσ2 H3=>ti σ2 H3 λb H4=>if b=true then te σ2 H4 λv H5=>Pv (i+1) (acc++[v]) σ2 H5 else Pv (i+1) acc σ2 H4)
  (he:∀acc σ H,Pv xs.length acc σ H->Q acc H):fD (uP K a xs.length) g ti te σ H Q:=by
 have c:∀{i:Nat} {x:V},i<xs.length->xs[xs.length-1-i]?=some x->xs.reverse[i]?=some x:=fun{i x} hi e=>by rw[List.getElem?_reverse hi];exact e
 exact iT (J:=uP K a xs.length) (g:=g) (ti:=ti) (te:=te) (Q:=Q) (n:=xs.length) Pv h0 hz hi (λacc σ H w=>rfl)
  (λi acc σ H hlt w=>⟨xs,xs[xs.length-1-i]'⋯,hl _ _ _ _ w,hlt,wQ ⋯⟩) (λi x acc σ H H2 hlt w y=>by obtain⟨rfl,d⟩:=y;exact hs i x acc σ H2 (c hlt (d xs (hl _ _ _ _ w))) w) he
theorem qD(i j:Int):(rH (.int i) (.int j)=true)=True:=eq_true rfl
theorem ud{ta:TE}(ha:PE X a ta)(he:∀whole,isTrue a X.env whole=(do let v <- whole;standAt a.pos;holding [v] (truthy v))):PT X a (jM ta):=by
 intro b s σ H Q I h;rw[he];refine q04 (bK (ha b s σ H _ I h) λv s1 ⟨x,H1,d,c,k,e,q⟩=>?_);subst e;cases c;exact q04 (wpAny_standAt (q0Y (wpAny_truthy_bool ⟨H1,d,q⟩)))
def qX(J:It)(g:TG)(tb:TS)(D:cT)(σ:St)(H:Hp):Prop:=∃W:Nat->Nat->St->Hp->Prop,(∃m,W 0 m σ H)/\∀i m σ H,W i m σ H ->
 (J.stop i H/\D.nx σ H)\/(J.go i H/\∃N:St->Hp->Prop,(∀σ' H',N σ' H'->∃m',m'<m/\W (i+1) m' σ' H')/\∀x H',J.yld i H x H'->g x σ H' λσ2 H2=>tb {D with nx:=N,ct:=N,bk:=D.nx} σ2 H2)
def oR(wi:TI)(g:TG)(tb:TS):TS:=λD σ H=>wi σ H λJ H1=>qX J g tb D σ H1
theorem bo{tg iter:Expr}{body:List Stmt}{wi:TI}{pos:Pos}(hp:PassesOwn (model X.prog X.w) X.A X.env X.xe)(hc:X.calm=true)(hi:PI X tg iter wi)(hg:PG X tg g)(hb:lI X body tb)
  (hs:autoParam (∀x,foldedSetIterable iter X.env x=pure x) zz3._auto_1):PS X (.For tg iter body [] pos) (oR wi g tb):=tz hp hc hi hg hb hs
section
variable {K:Ab}{g:TG}{tb:TS}{D:cT}{σ:St}{H:Hp}
theorem nU{xs:List V}(Pv:Nat->St->Hp->Prop)(h0:Pv 0 σ H)(hl:∀i σ H,i<=xs.length->Pv i σ H->aS K H a xs)
  (hs:∀i x σ H,xs[i]?=some x->Pv i σ H->g x σ H λσ2 H2=>tb {D with nx:=Pv (i+1),ct:=Pv (i+1),bk:=D.nx} σ2 H2) (hd:∀σ H,Pv xs.length σ H->D.nx σ H):qX (qz K a) g tb D σ H:=pN Pv h0 hl hs hd
theorem aL{lo:Int}{n:Nat}(Pv:Nat->St->Hp->Prop)(h0:Pv 0 σ H)
  (hs:∀i σ H,i<n->Pv i σ H->g (.int (lo+i)) σ H λσ2 H2=>tb {D with nx:=Pv (i+1),ct:=Pv (i+1),bk:=D.nx} σ2 H2) (hd:∀σ H,Pv n σ H->D.nx σ H):qX (nw lo n) g tb D σ H:=nI Pv h0 hs hd
end
end
theorem aY:bootBuiltins "len"=some (.builtin "len"):=by decide +kernel
theorem dC:bootBuiltins "list"=some (.type "list"):=by decide +kernel
theorem pJ:bootBuiltins "tuple"=some (.type "tuple"):=by decide +kernel
theorem tO:bootBuiltins "str"=some (.type "str"):=by decide +kernel
theorem cE:bootBuiltins "isinstance"=some (.builtin "isinstance"):=by decide +kernel
theorem tX:bootBuiltins "all"=some (.builtin "all"):=by decide +kernel
theorem mU:bootBuiltins "sorted"=some (.builtin "sorted"):=by decide +kernel
end L2
namespace L2
open PySem PySem.Spec PyProof.Rows
section
variable {X:Cx}{a b c d:Expr}{ta tb tc td:TE}{pos:Pos}
def sW(K:Ab):List V->Hp->VK->Prop:=λxs H Q=>∃(p:Addr) (bs:List Bool),xs=[.ref p]/\aS K H p (bs.map V.bl)/\Q (.bl (bs.all id)) H
theorem mK:∀{bs:List Bool} {us:Af} {i:Nat} {u:Value},aD (bs.map V.bl) us->us[i]?=some u->∃k,bs[i]?=some k/\u=.bool k
 | [],_,_,_,.nil,e=>by simp at e
 |k::bs,_,0,u,.cons r _,e=>by simp at e;subst e;exact⟨k,rfl,r⟩
 |k::bs,_,i+1,u,.cons _ t,e=>by
  obtain⟨k',h1,h2⟩:=mK (i:=i) t (by simpa using e);exact⟨k',by simpa using h1,h2⟩
theorem nE(bs:List Bool):((List.range bs.length).all λi=>(bs[i]?).getD true)=bs.all id:=by
 rw[Bool.eq_iff_iff,xN,xN]
 constructor
 ·intro h x c
  obtain⟨i,b,e⟩:=List.getElem_of_mem c;have q:=h i (List.mem_range.mpr b);rw[wQ b,q0L,e]at q;exact q
 ·intro h i b
  have a:=List.mem_range.mp b;rw[wQ a,q0L];exact h _ (w6 a)
theorem pE(hc:X.calm=true):bV X (.builtin "all") (sW X.K):=by
 intro pins s σ H xs us Q I r h;obtain⟨p,bs,rfl,t,q⟩:=h;obtain⟨u,rfl,n⟩:=r.one;cases n;obtain⟨a,l,d,_⟩:=I.list t;have f:p<s.heap.objs.size:=by obtain⟨_,e,_⟩:=d.isList;exact xu e
 have c:a.length=bs.length:=by rw[<- l.length,wT]
 refine call_all_walk (wpAny_pyIter_list d.isList ?_);refine⟨s.heap.objs.size,[s.heap.objs.size,p],[s.heap.objs.size],a.toArray.size,_,_,λi=>(bs[i]?).getD true,rfl,Walks.list (A:=X.A.in1) (I.ok.hd hc) _ p (xj f) a.toArray,
  ⟨⟨_,wY _ rfl,rfl,rfl⟩,d.isList.push _⟩,λi v s' Q' E' y g=>?_,λh' m x=>?_⟩
 ·obtain⟨k,e,rfl⟩:=mK (i:=i) l (by simpa using y)
  dsimp only at g;rw[e,q0L]at g;exact wpAny_truthy_bool g
 ·have e:((List.range a.toArray.size).all λi=>(bs[i]?).getD true)=bs.all id:=by rw[wZ,c];exact nE bs
  rw[e];exact⟨.bl _,H,I.kept (t':=m) λb o j=>x b o (λw=>by rw[wU.mp w]at j;exact xA _ (xu j)) (wS _ j),rfl,q⟩
end
end L2
namespace QL
open PySem L2 aO PySem.Builtin PySem.Builtin.Str
theorem lh(row:Ad)(i k:Nat)(h:i+k<=row.length):((List.range k).map λm=>i+m).filterMap (λj=>row[j]?)=(row.drop i).take k:=by
 rw[List.filterMap_map]
 induction k with
 |zero=>simp
 |succ k ih=>
  rw[q0M,List.filterMap_append,ih ⋯,q0E,List.getElem?_drop];have e:i+k<row.length:=by omega
  simp[wQ e]
def pI(n:Nat)(d:Int):Option Int->Int
 |none=>d
 |some i=>max 0 (min (if i<0 then i+(n:Int) else i) (n:Int))
theorem j5(n d:Nat)(v:Option Int):pI n (d:Int) v=((HT.sIx n d v:Nat):Int):=by
 cases v with
 |none=>rfl
 |some v=>
  show max 0 (min (if v<0 then v+(n:Int) else v) (n:Int))=(((if v<0 then(v+(n:Int)).toNat else min v.toNat n:Nat)):Int)
  by_cases a:v<0
  ·rw[q07 a,q07 a,Int.max_def,Int.min_def]
   split<;>split at * <;> omega
  ·rw[q06 a,q06 a,Int.max_def,Int.min_def]
   split<;>split at * <;> omega
theorem kO(lo hi:Option Int)(n:Nat):strSliceIndices lo hi 1 n=sliceRange (pI n ((0:Nat):Int) lo) (pI n (n:Int) hi) 1:=by cases lo<;>cases hi<;>rfl
theorem nj(row:Ad)(lo hi:Option Int):Txt.slice (tx row) lo hi=tx ((row.drop (HT.sIx row.length 0 lo)).take (HT.sIx row.length row.length hi-HT.sIx row.length 0 lo)):=by
 have hl:=HT.sIx_le row.length 0 (xq _) lo;have hh:=HT.sIx_le row.length row.length (xp _) hi;have key:strSliceIndices lo hi 1 (tx row).length=(List.range (HT.sIx row.length row.length hi-HT.sIx row.length 0 lo)).map λm=>HT.sIx row.length 0 lo+m:=by
  rw[al,kO,j5,j5];generalize HT.sIx row.length 0 lo=a;generalize HT.sIx row.length row.length hi=b;unfold sliceRange;have en:(if(1:Int)>0 then(if(a:Int)<(b:Int) then((b:Int)-(a:Int)+1-1)/1 else 0) else(if(a:Int)>(b:Int) then((a:Int)-(b:Int)-1-1)/(-1) else 0)).toNat=b-a:=by
   rw[q07 nofun]
   split<;>omega
  show(List.range (if(1:Int)>0 then(if(a:Int)<(b:Int) then((b:Int)-(a:Int)+1-1)/1 else 0) else(if(a:Int)>(b:Int) then((a:Int)-(b:Int)-1-1)/(-1) else 0)).toNat).map (fun(k:Nat)=>((a:Int)+1*(k:Int)).toNat)=_;rw[en];refine q0K λm _=>?_;omega
 unfold Txt.slice;rw[key];generalize HT.sIx row.length 0 lo=a at hl ⊢;generalize HT.sIx row.length row.length hi=b at hh ⊢
 by_cases hab:a+(b-a)<=row.length
 ·have e:(((List.range (b-a)).map λm=>a+m).filterMap λj=>(tx row).cps[j]?)=(row.drop a).take (b-a):=by
   rw[<- lh row a (b-a) hab]
   congr 1
   funext j
   show row.toArray[j]?=row[j]?;simp
  rw[e]
  split
  ·rename_i hw
   simp at hw;rw[al]at hw;have ha0:a=0:=by omega
   have hb0:b-a=row.length:=by omega
   rw[ha0,xV];rw[ha0]at hb0;rw[hb0,xF]
  ·rfl
 ·exact q0Q hab ⋯
end QL
namespace L2
open PySem PySem.Spec PyProof.Rows
section
variable {X:Cx}{K:Ab}{tg:Expr}
theorem fg(hK:X.K=K):bV X (.builtin "isinstance") (qR K):=hK▸b8
theorem kN(hK:X.K=K):bV X (.builtin "len") (λxs H Q=>∃p ys,xs=[.ref p]/\aS K H p ys/\Q (.int ys.length) H):=hK▸iF
theorem kM(hK:X.K=K):bV X (.builtin "len") (λxs H Q=>∃p ys,xs=[.ref p]/\fq K H p ys/\Q (.int ys.length) H):=hK▸mT
theorem oz(hK:X.K=K):sf X (ny K):=hK▸md
theorem qY(hK:X.K=K):sf X (ni K):=hK▸qf
end
end L2
namespace PySem
open Sem (wp)
def TrD(cp:Value->Prop)(h base:Heap)(e:Addr)(cls:Value)(od:An)(fl:Value):Prop:=
 ∃oe vs T oT ts,h.get? e=some oe/\oe.cls=cls/\oe.dict=od/\oe.data=.fields vs/\vs[1]?=some (.ref T)/\base.get? T=none/\T≠e/\h.get? T=some oT/\oT.data=.fields ts/\ts[3]?=some fl/\∃cx,vs[2]?=some cx/\cp cx
end PySem
namespace L2
open PySem PySem.Spec PyProof.Rows
end L2
namespace PySem.W
open PySem PySem.Spec PySem.Calls PyProof.Rows
section
variable {prog:Aj}{w:Am}{A:Al}{E:Aa}{s:Ae}{K:Frag}{x D:Addr}{ox:Obj}{odo:Option Obj}{name:Str}
end
end PySem.W
namespace L2
open PySem PySem.Spec PyProof.Rows
theorem q_{X:Cx}{K:Ab}{es:Ao}{n:Nat}{pos:Pos}(hK:X.K=K)(hc:X.calm=true)(h:uE X es t)
  (hn:autoParam ((assignEach es X.env).length=n) zz0._auto_1) (hst:autoParam ((assignEach es X.env).findIdx? (·.1)=none) zz0._auto_1):PG X (.Tuple es k pos) (rc K n t):=hK▸sS hc h hn hst
end L2
namespace PySem.W
open PySem PySem.Spec PySem.Calls PyProof.Rows
open Builtin Builtin.ObjectAttr
def sh:List Value->List Value
 | .ref _::r=>sh r
 |l=>l
end PySem.W
namespace L2
open PySem PySem.Spec PyProof.Rows
end L2
namespace PySem.W
open PySem PySem.Spec PySem.Calls PyProof.Rows
end PySem.W
namespace SpM
open PySem
def glue(c:Nat):List (List Nat)->List Nat
 | []=>[]
 | [p]=>p
 |p::q::r=>p++c::glue c (q::r)
def step(c:Nat)(rows:List (List Nat))(d:Nat):List (List Nat):=if d=c then rows++[[]] else rows.dropLast++[rows.getLastD []++[d]]
theorem mj{c:Nat}:∀{p q a b:Ad},c∉p->c∉q->p++c::a=q++c::b->p=q/\a=b
 | [],[],a,b,_,_,e=>⟨rfl,by simpa using e⟩
 | [],y::q,a,b,_,hq,e=>by simp at e;exact q0Q e.1 (λz=>hq (by simp[z]))
 |x::p,[],a,b,hp,_,e=>by simp at e;exact q0Q e.1.symm (λz=>hp (by simp[z]))
 |x::p,y::q,a,b,hp,hq,e=>by
  simp at e;obtain⟨e1,e2⟩:=mj (p:=p) (q:=q) (λz=>hp (by simp[z])) (λz=>hq (by simp[z])) e.2;exact⟨by rw[e.1,e1],e2⟩
theorem glue_inj(c:Nat):∀{rows rows':List (List Nat)},rows≠[]->rows'≠[]->(∀p∈rows,c∉p)->(∀p∈rows',c∉p)->glue c rows=glue c rows'->rows=rows'
 | [p],[q],_,_,_,_,e=>by simpa[glue]using e
 | [p],q::q'::r,_,_,hf,_,e=>by
  have:c∈p:=by rw[show p=q++c::glue c (q'::r) from e];simp
  exact q0Q this (hf p (by simp))
 |p::p'::r,[q],_,_,_,hf,e=>by
  have:c∈q:=by rw[show q=p++c::glue c (p'::r) from e.symm];simp
  exact q0Q this (hf q (by simp))
 |p::p'::r,q::q'::r',_,_,h1,h2,e=>by
  obtain⟨d,b⟩:=mj (h1 p (by simp)) (h2 q (by simp)) (show p++c::glue c (p'::r)=q++c::glue c (q'::r') from e);have:=glue_inj c (rows:=p'::r) (rows':=q'::r') (by simp) (by simp) (λz a=>h1 z (by simp[a])) (λz a=>h2 z (by simp[a])) b;rw[d,this]
theorem join_glue(c:Nat):∀(ys:Ak),(Builtin.Str.glued ⟨#[c]⟩ ys).cps.toList=glue c (ys.map λy=>y.cps.toList)
 | []=>rfl
 |y::ys=>by
  have key:∀(zs:Ak) (a:Array Nat),(zs.foldl (λacc (p:Str)=>acc++(⟨#[c]⟩:Str).cps++p.cps) a).toList=glue c (a.toList::zs.map λy=>y.cps.toList):=by
   intro zs
   induction zs with
   |nil=>intro a;rfl
   |cons z zs ih=>
    intro a;rw[List.foldl_cons,ih];show glue c ((a ++ #[c]++z.cps).toList::_)=a.toList++c::glue c (z.cps.toList::_);have e:(a ++ #[c]++z.cps).toList=a.toList++c::z.cps.toList:=by simp
    rw[e];cases zs with
    |nil=>simp[glue]
    |cons w ws=>simp[glue]
  exact key ys y.cps
end SpM
namespace PyProof.Rows
open PySem PySem.Spec PySem.Builtin PySem.Builtin.Str
end PyProof.Rows
namespace L2
open PySem PySem.Spec PyProof.Rows QL
section
variable (P:Aj)(w:Am)(K:Ab)(mg:Ah)(base:Heap)(CX:eG)
end
end L2
namespace PyProof.Rows
open PySem PySem.Spec PySem.Builtin PySem.Builtin.Str
end PyProof.Rows
namespace L2
open PySem PySem.Spec PyProof.Rows QL
theorem l_:∀(xs:List V) (us:Af),xs.length=us.length->(∀(j:Nat) (x:V) (u:Value),xs[j]?=some x->us[j]?=some u->aI x u)->aD xs us
 | [],[],_,_=>.nil
 |x::xs,u::us,hl,h=>.cons (h 0 x u rfl rfl) (l_ xs us (by simpa using hl) λj y v e1 e2=>h (j+1) y v (by simpa using e1) (by simpa using e2))
section
variable {X:Cx}
def kZ:List V->Hp->VK->Prop:=λxs H Q=>∃z,xs=[.str z]/\z.length<=sizeLine/\∀l,H l=none->Q (.ref l) (aR H l (.lst (z.cps.toList.map λc=>V.str ⟨#[c]⟩)))
theorem k8(hc:X.calm=true):bV X (.type "list") kZ:=by
 intro pins s σ H xs us Q I r h;obtain⟨z,rfl,g,q⟩:=h;obtain⟨u,rfl,t,rfl⟩:=g_ r;refine PySem.call_list_str (hn:=g) (I.ok.hd hc) z t λh' i b v m n a=>?_;have k:aD (z.cps.toList.map λc=>V.str ⟨#[c]⟩) b.toList:=by
  refine l_ _ _ (by rw[wT];simp[a.1]) λj x u f p=>?_;obtain⟨c,tk2,d,rfl⟩:=a.2 j u (by simpa using p);rw[wV]at f;have o:z.cps.toList[j]?=some c:=by simpa using d
  rw[o]at f;cases f;exact⟨_,rfl⟩
 have l:(z.cps.toList.map λc=>V.str ⟨#[c]⟩).length<=sizeLine:=by
  rw[wT];have e:z.cps.toList.length=z.length:=by show z.cps.toList.length=z.cps.size;simp
  rw[e];exact g
 exact⟨.ref s.heap.objs.size,aR H s.heap.objs.size (.lst (z.cps.toList.map λc=>V.str ⟨#[c]⟩)),I.laid (t':=i) m (xp _) ⟨l,b.toList,v,k,by simpa using n⟩,rfl,q _ (I.hok.fresh (xp _))⟩
end
section
variable {K:Type}[DecidableEq K]
def bM(σ:List K)(v:K):List K:=if v∈σ then σ else σ++[v]
def met(l:List K):List K:=l.foldl bM []
theorem jT(σ:List K)(v k:K):decide (k∈bM σ v)=(decide (k∈σ)||decide (k=v)):=by
 unfold bM
 by_cases h:v∈σ
 ·rw[q07 h]
  by_cases e:k=v
  ·subst e;simp[h]
  ·simp[e]
 ·rw[q06 h]
  simp[xb]
theorem jq(σ:List K)(v:K):(bM σ v).length=if decide (v∈σ) then σ.length else σ.length+1:=by
 unfold bM
 by_cases h:v∈σ<;>simp[h]
theorem pT(l:List K)(v:K):met (l++[v])=bM (met l) v:=by unfold met;rw[List.foldl_append];rfl
theorem mn:∀(l σ:List K),(l.foldl bM σ).length<=σ.length+l.length
 | [],σ=>xp _
 |v::l,σ=>by
  have h:=mn l (bM σ v);have e:=jq σ v;rw[List.foldl_cons,w_]
  split at e<;>omega
theorem oy(n:Nat)(l:List K)(h:l.length=n):(met l).length<=n:=by
 have:=mn l [];rw[<- h];unfold met;simpa using this
end
section
variable {prog:Aj}{w:Am}{A:Al}{E:Aa}{s:Ae}
def mQ(s:Ae)(led:Bool):Shared:={s with heap:=s.heap.push {cls:=.type "set",dict:=none,data:=.set #[] 0 (.fresh 0 0 led)} }
end
section
variable {X:Cx}{K:Ab}{tg:Expr}
theorem gS(hK:X.K=K):bV X (.type "list") (λxs H Q=>∃p ys,xs=[.ref p]/\(aS K H p ys\/fq K H p ys)/\∀l,H l=none->Q (.ref l) (aR H l (.lst ys))):=hK▸c8
end
theorem oQ{X:Cx}{e:Expr}{t:TA}{x:Str}{j:Nat}{p apos cpos:Pos}(ha:PA X [e] t)(hline:(apos.endLine==cpos.line)=true)(hs:starEach [e] X.env=[(false,eval e X.env)]) :
  PE X (.Call (.Attribute (.Constant (.str x) j p) "join" apos) [e] [] cpos) (ug X.K "str" (kc X.K) (tC (.str x)) t):=
 ij PySem.F.plainAttrs_str PySem.F.slot_str_join PySem.F.type_str_join qP dO ha rfl (by rw[hs];rfl) hline hs rfl
theorem tB{X:Cx}{K:Ab}{e:Expr}{t:TA}{x:Str}{j:Nat}{p apos cpos:Pos}(hK:X.K=K)(ha:PA X [e] t)(hline:(apos.endLine==cpos.line)=true)(hs:starEach [e] X.env=[(false,eval e X.env)]) :
  PE X (.Call (.Attribute (.Constant (.str x) j p) "join" apos) [e] [] cpos) (ug K "str" (kc K) (tC (.str x)) t):=hK▸oQ ha hline hs
end L2
namespace L2
open PySem PySem.Spec PyProof.Rows QL
section
variable {K:Ab}{g:TG}{ti:TT}{te:TE}{σ:St}{H:Hp}{Q:List V->Hp->Prop}{α:Type}
theorem lN{as:List α}{f:α->Option V}{i:Nat}{x:α}(hx:as[i]?=some x):(as.take (i+1)).filterMap f=(as.take i).filterMap f++(f x).toList:=by
 rw[q0E,hx,List.filterMap_append];show _++List.filterMap f [x]=_;cases h:f x<;>simp[h]
theorem tW{as:List α}{f:α->Option V}(i:Nat):((as.take i).filterMap f).length<=as.length:=xz (List.length_filterMap_le _ _) (by rw[xG];omega)
theorem fJ{as:List α}(f:α->V):as.filterMap (λx=>some (f x))=as.map f:=by induction as with | nil=>rfl | cons x xs ih=>simp
theorem dR{as:List α}{emb:α->V}{f:α->Option V}(S:St->Prop)(h0:S σ)(hl:∀H',aE H H'->aS K H' a (as.map emb))(hn:as.length<=1000000)
  (hs:∀(i:Nat) x,as[i]?=some x->∀σ H' (N1:V->St->Hp->Prop) (N0:St->Hp->Prop),S σ->aE H H'->(∀v σ2 H2,f x=some v->aE H H2->S σ2->N1 v σ2 H2)->(∀σ2 H2,f x=none->aE H H2->S σ2->N0 σ2 H2) ->
   g (emb x) σ H' λσ2 H3=>ti σ2 H3 λb H4=>if b=true then te σ2 H4 λv H5=>N1 v σ2 H5 else N0 σ2 H4)
  (he:∀H',aE H H'->Q (as.filterMap f) H'):fD (qz K a) g ti te σ H Q:=by
 refine cS (xs:=as.map emb) (λi c σ H'=>aE H H'/\c=(as.take i).filterMap f/\i<=as.length/\S σ) ⟨λ_ _ e=>e,rfl,xq _,h0⟩ ?_ ?_ ?_ ?_ ?_
 ·rintro i c σ H' ⟨_,rfl,_⟩
  have:=tW (as:=as) (f:=f) i;exact a_ ⋯
 ·rintro i c σ H' ⟨_,_,h,_⟩
  rw[wT];exact h
 ·rintro i c σ H' ⟨j,_⟩
  exact hl _ j
 ·rintro i x c σ H' k ⟨j,rfl,hi,m⟩
  have d:i<as.length:=by have:=(wR.mp k).1;rwa [wT]at this
  rw[wV,wQ d]at k;cases k;have l:as[i]?=some as[i]:=wQ d;refine hs i as[i] l σ H' (λv σ2 H5=>_) (λσ2 H4=>_) m j (λv σ2 H2 hf s2 hS2=>⟨s2,?_,d,hS2⟩) (λσ2 H2 hf s2 hS2=>⟨s2,?_,d,hS2⟩)
  ·rw[lN l,hf];rfl
  ·rw[lN l,hf];simp
 ·rintro c σ H' ⟨j,rfl,_⟩
  have e:(as.take (as.map emb).length).filterMap f=as.filterMap f:=by rw[wT,xF]
  rw[e];exact he _ j
theorem jo{n:Nat}{f:Nat->Option V}(S:St->Prop)(h0:S σ)(hn:n<=1000000)
  (hs:∀i,i<n->∀σ H' (N1:V->St->Hp->Prop) (N0:St->Hp->Prop),S σ->aE H H'->(∀v σ2 H2,f i=some v->aE H H2->S σ2->N1 v σ2 H2)->(∀σ2 H2,f i=none->aE H H2->S σ2->N0 σ2 H2) ->
   g (.int (0+(i:Int))) σ H' λσ2 H3=>ti σ2 H3 λb H4=>if b=true then te σ2 H4 λv H5=>N1 v σ2 H5 else N0 σ2 H4)
  (he:∀H',aE H H'->Q ((List.range n).filterMap f) H'):fD (nw 0 n) g ti te σ H Q:=by
 refine c7 (lo:=0) (n:=n) (λi a σ H'=>aE H H'/\a=(List.range i).filterMap f/\i<=n/\S σ) ⟨λ_ _ e=>e,rfl,xq _,h0⟩ ?_ ?_ ?_ ?_
 ·rintro i a σ H' ⟨_,rfl,c,_⟩
  have:=List.length_filterMap_le f (List.range i);rw[q0J]at this;exact a_ ⋯
 ·rintro i a σ H' ⟨_,_,h,_⟩
  exact h
 ·rintro i a σ H' c ⟨d,rfl,_,j⟩
  refine hs i c σ H' (λv σ2 H5=>_) (λσ2 H4=>_) j d (λv σ2 H2 hf s2 hS2=>⟨s2,?_,c,hS2⟩) (λσ2 H2 hf s2 hS2=>⟨s2,?_,c,hS2⟩)
  ·rw[q0M,List.filterMap_append];simp[hf]
  ·rw[q0M,List.filterMap_append];simp[hf]
 ·rintro a σ H' ⟨d,rfl,_⟩
  exact he _ d
end
end L2
namespace ThM
open PySem L2
def p6(ks:Ak)(z:Str):List Str:=if z∈ks then ks else ks++[z]
section
variable {α:Type}(f:List α->List α)
def vN:Nat->List α->List α
 |0,s=>s
 |n+1,s=>f (vN n s)
variable {f}
end
abbrev NR:=Str×List Str
def rL(ks:Ak)(r:NR):List Str:=if(∀z∈r.2,z∈ks) then p6 ks r.1 else ks
def pO(rs:List NR)(ks:Ak):List Str:=rs.foldl rL ks
def sH(rs:List NR):List Str:=vN (pO rs) rs.length []
end ThM
namespace ThM
open PySem L2
def oq(ks:Ak)(r:NR):List Str:=if r.1∈ks then r.2.foldl p6 ks else ks
def nv(rs:List NR)(ks:Ak):List Str:=rs.foldl oq ks
def ur(ks:Ak)(r:NR):Prop:=r.1∈ks/\∀z∈r.2,z∈ks
noncomputable instance (ks:Ak)(r:NR):Decidable (ur ks r):=by unfold ur;infer_instance
def tj(st:Str)(rs:List NR):List Str:=vN (nv rs) rs.length [st]
def sj(rs:List NR)(r:NR):Bool:=decide (∀z∈r.2,z∈sH rs)
def vR(rs:List NR):List NR:=rs.filter (sj rs)
def vx(st:Str)(rs:List NR):List Str:=tj st (vR rs)
def keep(st:Str)(rs:List NR)(r:NR):Bool:=decide (r.1∈vx st rs)&&sj rs r
end ThM
namespace L2
open PySem PySem.Spec PyProof.Rows
section
variable {X:Cx}{es:Ao}{t:TA}{te:TE}
end
end L2
namespace L2
open PySem PySem.Spec PyProof.Rows
end L2
namespace L2
open PySem PySem.Spec PyProof.Rows QL
theorem aE.sqT{K:Ab}(e:aE H H')(h:fq K H a xs):fq K H' a xs:=by
 rcases h with(h | ⟨o,h⟩) | h
 ·exact .inl (.inl (e _ _ h))
 ·exact .inl (.inr ⟨o,e _ _ h⟩)
 ·exact .inr h
def TupS(H H':Hp):Prop:=∀b xs,H b=some (.tup xs)->H' b=some (.tup xs)
end L2
namespace L2
open PySem PySem.Spec PyProof.Rows QL aO
theorem pr{α β:Type}{g:α->β}:∀(l:List α) (f':α->Option β),(∀k∈l,f' k=some (g k))->l.filterMap f'=l.map g
 | [],_,_=>rfl
 |a::l,f',h=>by
  rw[q0U,h a q0B,xy,pr l f' λk hk=>h k (xg _ hk)]
section
variable {X:Cx}
def n6(te ts:TE):TE:=λσ H Q=>te σ H λx H1=>ts σ H1 λy H2=>∃r:List Nat,x=.str (tx r)/\y=.int (-1)/\r.length<=1000/\Q (.str (tx r.reverse)) H2
theorem tS(n:Nat):Builtin.Str.strSliceIndices none none (-1) n=(List.range n).map λk=>n-1-k:=by
 unfold Builtin.Str.strSliceIndices sliceRange
 by_cases a:n=0
 ·subst a;decide
 ·simp only[show ¬ ((-1:Int)>0) by decide,if_false]
  rw[q07 ⋯];have e:(((n:Int)-1 - -1 - -1-1)/(- -1)).toNat=n:=by
   have:(- -1:Int)=1:=by decide
   rw[this,Int.ediv_one];omega
  rw[e];refine q0K λk hk=>?_;omega
variable {e st:Expr}{te ts:TE}{p2 pos:Pos}
theorem rF(he:PE X e te)(hs:PE X st ts):PE X (.Subscript e (.Slice none none (some st) p2) pos) (n6 te ts):=by
 intro a s σ H Q I h;refine Subscript_ (bK (he a s σ H _ I h) λv p ⟨x,H1,R,u,z⟩=>?_);refine wpAny_Slice ?_;rw[evalPart_none];refine q05 (q05 ?_);show wpAny _ _ (eval st X.env) _ _ _;refine bK (hs a p σ H1 _ R z) λvs c ⟨y,H2,O,t,r,D,C,hl,q⟩=>?_;subst D;subst C;obtain⟨j,rfl⟩:=u;obtain⟨d,rfl⟩:=t;have M:Inv X a σ H2 {c with heap:=c.heap.push {cls:=.type "slice",data:=.fields #[.none,.none,.int (-1) d]} }:=O.kept (t':=c.toks) λb ob q=>wS _ q;have l:Heap.IsSlice (c.heap.push {cls:=.type "slice",data:=.fields #[.none,.none,.int (-1) d]}) c.heap.objs.size none none (some (-1,d)):=⟨_,wY _ rfl,rfl,rfl⟩;have f:(if((Option.map (λx:Int×Tok=>x.1) (some (-1,d))).getD 1==1&&(slicePicked (tx r) none none (some (-1,d))).length==(tx r).length)=true then tx r else⟨((slicePicked (tx r) none none (some (-1,d))).filterMap ((tx r).cps[·]?)).toArray⟩)=tx r.reverse:=by
  have L:slicePicked (tx r) none none (some (-1,d))=(List.range r.length).map λk=>r.length-1-k:=by
   unfold slicePicked;rw[<- tS,<- al r]
   rfl
  rw[q06 (by simp),L];have G:((List.range r.length).map λk=>r.length-1-k).filterMap ((tx r).cps[·]?)=r.reverse:=by
   have:∀k∈List.range r.length,(tx r).cps[r.length-1-k]?=some (r.reverse.getD k 0):=λk n=>by
    have m:=List.mem_range.mp n;rw[<- q0G,cf,q0A,List.getElem?_reverse m,wQ ⋯,q0L]
   rw[List.filterMap_map];refine(pr (g:=λk=>r.reverse.getD k 0) _ _ (λk n=>this k n)).trans ?_;apply List.ext_getElem?;intro i;rw[wV]
   by_cases o:i<r.length
   ·rw[List.getElem?_range o,Option.map_some,q0A,wQ (by rw[xh];exact o),q0L]
   ·rw[List.getElem?_eq_none (by rw[q0J];omega),List.getElem?_eq_none (by rw[xh];omega)];rfl
  rw[G]
  rfl
 have B:wpAny (model X.prog X.w) X.A (getItem (.str (tx r) j) (.ref c.heap.objs.size)) (EP X a σ Q) X.xe {c with heap:=c.heap.push {cls:=.type "slice",data:=.fields #[.none,.none,.int (-1) d]} }:=by
  refine wpAny_getItem_str_slice l (by rfl) ?_;unfold sliceMade;refine post_val_or_str ⟨?_,λt' k=>?_⟩
  ·rw[f];rw[al];exact aZ (by rw[xh];omega)
  ·rw[f];exact⟨.str _,H2,M.tok _,⟨_,rfl⟩,q⟩
 show wpAny (model X.prog X.w) X.A (subscriptTail e (.Slice none none (some st) p2) (.str (tx r) j) (.ref c.heap.objs.size)) (EP X a σ Q) X.xe _;exact tail_any (ops:=[.ref c.heap.objs.size,.str (tx r) j]) (typeIs_str _ _ _) F.slot_str_getitem.lookup B (by with_unfolding_all rfl)
end
theorem u8{P:Addr->Prop}:(∃p,V.ref a=V.ref p/\P p)=P a:=by simp
theorem vF{a:Int}{P:Int->Prop}:(∃p,V.int a=V.int p/\P p)=P a:=by simp
theorem vd{P:Bool->Prop}:(∃p,V.bl a=V.bl p/\P p)=P a:=by simp
theorem v3{P:Str->Prop}:(∃p,V.str a=V.str p/\P p)=P a:=by simp
theorem vO{α:Type}{P:Addr->α->Prop}:(∃p,∃x,V.ref a=V.ref p/\P p x) = ∃x,P a x:=by simp
theorem v_{α:Type}{P:Addr->α->Prop}:(∃p,∃x,[V.ref a]=[V.ref p]/\P p x) = ∃x,P a x:=by simp
theorem vP{α:Type}{v:V}{P:Addr->α->V->Prop}:(∃p,∃x,∃y,V.ref a=V.ref p/\[v]=[y]/\P p x y) = ∃x,P a x v:=by simp
theorem u_{α β:Type}{P:Addr->Addr->α->β->Prop}:(∃p,∃q,∃x,∃y,V.ref a=V.ref p/\V.ref b=V.ref q/\P p q x y) = ∃x,∃y,P a b x y:=by simp
def uR(i:Nat):TE:=λσ H Q=>match σ[i]? with
 |some (some v)=>Q v H
 |_=>False
def rj(g:Int->Int->V):R2
 | .int i,.int j,H,Q=>Q (g i j) H
 |x,y,H,Q=>pA g x y H Q
def u3(C:Int->Int->Prop)(g:Int->Int->V):R2
 | .int i,.int j,H,Q=>C i j/\Q (g i j) H
 |x,y,H,Q=>rI C g x y H Q
def lR(K:Ab):R2
 | .ref p,.int i,H,Q=>∃xs,aS K H p xs/\∃v,jm xs i=some v/\Q v H
 |x,y,H,Q=>ny K x y H Q
def mL(K:Ab):R2
 | .ref p,.int i,H,Q=>∃xs,fq K H p xs/\∃v,jm xs i=some v/\Q v H
 |x,y,H,Q=>ni K x y H Q
theorem oH:rj g x y H Q=pA g x y H Q:=by
 unfold rj;split
 ·simp[pA]
 ·rfl
theorem rM:u3 C g x y H Q=rI C g x y H Q:=by
 unfold u3;split
 ·simp[rI]
 ·rfl
theorem qT{K:Ab}:lR K x y H Q=ny K x y H Q:=by
 unfold lR;split
 ·simp[ny]
 ·rfl
theorem qM{K:Ab}:mL K x y H Q=ni K x y H Q:=by
 unfold mL;split
 ·simp[ni]
 ·rfl
theorem qE{i j:Int}{H:Hp}:rj g (.int i) (.int j) H Q=Q (g i j) H:=rfl
theorem sK{i j:Int}{H:Hp}:u3 C g (.int i) (.int j) H Q=(C i j/\Q (g i j) H):=rfl
theorem oK{K:Ab}{i:Int}{H:Hp}:lR K (.ref p) (.int i) H Q = ∃xs,aS K H p xs/\∃v,jm xs i=some v/\Q v H:=rfl
theorem oZ{K:Ab}{i:Int}{H:Hp}:mL K (.ref p) (.int i) H Q = ∃xs,fq K H p xs/\∃v,jm xs i=some v/\Q v H:=rfl
theorem ww{α β:Type}{f:α->β}{a:α}{l:List α}:List.map f (a::l)=f a::List.map f l:=rfl
theorem wH{α β:Type}{f:α->β}:List.map f []=[]:=rfl
theorem wA{α:Type}{a:α}{l m:List α}:(a::l)++m=a::(l++m):=rfl
theorem wu{α:Type}{m:List α}:[]++m=m:=rfl
theorem wy{α:Type}{a:α}{l:List α}:(a::l)[0]?=some a:=rfl
theorem wk{α:Type}{a:α}{l:List α}{n:Nat}:(a::l)[n+1]?=l[n]?:=rfl
theorem wF{α:Type}{a b:α}{l:List α}:(a::l).set 0 b=b::l:=rfl
theorem wz{α:Type}{a b:α}{l:List α}{n:Nat}:(a::l).set (n+1) b=a::l.set n b:=rfl
section
variable {X:Cx}
theorem aC(i:Nat){x:Str}{pos:Pos}(hN:autoParam (X.N[i]?=some x) zz0._auto_1)(hv:autoParam (uT X.env.scope x) zz4._auto_1)(hd:autoParam ((x==("__debug__":Str))=false) zz1._auto_1)
  (hc:autoParam ((x==("__classdict__":Str))=false) zz1._auto_1):PE X (.Name x pos) (uR i):=λpins s σ H Q I h=>pv i hN hv hd hc pins s σ H Q I (by
 unfold uR at h
 split at h
 ·exact⟨_,‹_›,h⟩
 ·exact h.elim)
theorem bn.m0(h:bn X f (pA g)):bn X f (rj g):=λpins s σ H x y v u Q I a b c=>h pins s σ H x y v u Q I a b (oH▸c)
theorem bn.m1(h:bn X f (rI C g)):bn X f (u3 C g):=λpins s σ H x y v u Q I a b c=>h pins s σ H x y v u Q I a b (rM▸c)
theorem br:sf X (lR X.K):=λe sl pins s σ H x y v u Q I a b c d=>md e sl pins s σ H x y v u Q I a b (qT▸c) d
theorem fP:sf X (mL X.K):=λe sl pins s σ H x y v u Q I a b c d=>qf e sl pins s σ H x y v u Q I a b (qM▸c) d
end
inductive TrD:Dt->Prop
 |mk (i:Int) (ds:List Dt):(∀d∈ds,TrD d)->TrD (.tup (.int i::ds))
end L2
namespace L2
open PySem PySem.Spec PyProof.Rows QL PySem.Builtin PySem.Builtin.Str
section
variable {X:Cx}
end
end L2
namespace TS
open PySem PyProof.Rows
section
variable {M:Model}{A:Al}{E:Aa}{J:Shared->Prop}{σ:Type}
def cg(M:Model)(A:Al)(E:Aa)(J:Shared->Prop){α:Type}(m:StateT σ Sem α)(Q:α->σ->Prop)(st:σ):Prop:=
 ∀s,J s->wpAny M A (m.run st) (λr s'=>J s'/\Q r.1 r.2) E s
theorem af{α:Type}{a:α}{Q:α->σ->Prop}{st:σ}(h:Q a st):cg M A E J (pure a:StateT σ Sem α) Q st:=by
 intro s j;rw[StateT.run_pure];exact q05 ⟨j,h⟩
theorem ad{α β:Type}{m:StateT σ Sem α}{f:α->StateT σ Sem β}{Q:β->σ->Prop}{st:σ}
  (h:cg M A E J m (λa st'=>cg M A E J (f a) Q st') st):cg M A E J (m >>= f) Q st:=by
 intro s j;rw[StateT.run_bind]
 exact q04 (q0X (h s j) (λr c b=>b.2 c b.1) λ_ _ e=>e)
theorem aK{α:Type}{m:StateT σ Sem α}{Q Q':α->σ->Prop}{st:σ}(h:cg M A E J m Q st)(hq:∀a st',Q a st'->Q' a st'):cg M A E J m Q' st:=
 λs j=>q0X (h s j) (λr _ h'=>⟨h'.1,hq _ _ h'.2⟩) λ_ _ e=>e
theorem cQ{Q:σ->σ->Prop}{st:σ}(h:Q st st):cg M A E J (get:StateT σ Sem σ) Q st:=by
 intro s j;rw[StateT.run_get];exact q05 ⟨j,h⟩
theorem bB{f:σ->σ}{Q:PUnit->σ->Prop}{st:σ}(h:Q ⟨⟩ (f st)):cg M A E J (modify f:StateT σ Sem PUnit) Q st:=by
 intro s j;rw[StateT.run_modify];exact q05 ⟨j,h⟩
theorem uf{x:σ}{Q:PUnit->σ->Prop}{st:σ}(h:Q ⟨⟩ x):cg M A E J (set x:StateT σ Sem PUnit) Q st:=by
 intro s j;rw[StateT.run_set];exact q05 ⟨j,h⟩
theorem dM{α:Type}{m:Sem α}{Q:α->σ->Prop}{st:σ}(h:∀s,J s->wpAny M A m (λa s'=>J s'/\Q a st) E s) :
  cg M A E J (liftM m:StateT σ Sem α) Q st:=by
 intro s j;show wpAny M A ((StateT.lift m:StateT σ Sem α).run st) _ E s;rw[StateT.run_lift];exact q04 (q0X (h s j) (λa s' b=>q05 b) λ_ _ e=>e)
theorem pc{β:Type}(f:Nat->β->StateT σ Sem (ForInStep β))(I:List Nat->β->σ->Prop)(Q:β->σ->Prop)
  (hs:∀x aU b st,I (x::aU) b st->cg M A E J (f x b) (λr st'=>match r with | .done b'=>Q b' st' | .yield b'=>I aU b' st') st)
  (he:∀b st,I [] b st->Q b st):∀(l:Ad) (b:β) (st:σ),I l b st->cg M A E J (forIn l b f) Q st
 | [],b,st,h=>by rw[List.forIn_nil];exact af (he _ _ h)
 |x::aU,b,st,h=>by
  rw[List.forIn_cons];refine ad (aK (hs x aU b st h) λr st' h'=>?_);cases r with
  |done b'=>exact af h'
  |yield b'=>exact pc f I Q hs he aU b' st' h'
theorem b5{β:Type}{a b:Nat}{f:Nat->β->StateT σ Sem (ForInStep β)}(I:Nat->β->σ->Prop){Q:β->σ->Prop}
  (hs:∀i c st,a<=i->i<b->I i c st->cg M A E J (f i c) (λr st'=>match r with | .done c'=>Q c' st' | .yield c'=>I (i+1) c' st') st)
  (he:∀c st,I (max a b) c st->Q c st) {c:β} {st:σ} (h:I a c st):cg M A E J (forIn [a:b] c f) Q st:=by
 rw[Std.Legacy.Range.forIn_eq_forIn_range'];have o:([a:b]:Std.Legacy.Range).size=b-a:=by simp[Std.Legacy.Range.size]
 show cg M A E J (forIn (List.range' a ([a:b]:Std.Legacy.Range).size 1) c f) Q st;rw[o];refine pc f (λl c st=>∃n,l.length=n/\∃i,a<=i/\l=List.range' i n 1/\i+n=max a b/\I i c st) Q ?_ ?_ _ c st ⟨b-a,by simp,a,xp _,rfl,⋯,h⟩
 ·rintro x aU c st ⟨n,e,i,d,g,j,k⟩
  cases n with
  |zero=>simp at e
  |succ n=>
   rw[List.range'_succ]at g;obtain⟨rfl,rfl⟩:=List.cons.inj g;refine aK (hs x c st d ⋯ k) λr st' m=>?_;cases r with
   |done c'=>exact m
   |yield c'=>exact⟨n,by simp,x+1,⋯,rfl,⋯,m⟩
 ·rintro c st ⟨n,e,i,d,g,j,k⟩
  simp at e;subst e
  have:i=max a b:=by omega
  subst this;exact he _ _ k
end
section
variable {prog:Aj}{w:Am}{A:Al}{E:Aa}{J:Shared->Prop}{a₀:Array Keyed}{kd:SortKind}{r:Keyed->Nat}
def gC(prog:Aj)(w:Am)(A:Al)(J:Shared->Prop)(a₀:Array Keyed)(kd:SortKind)(r:Keyed->Nat):Prop:=
 ∀x,x∈a₀.toList->∀y,y∈a₀.toList->∀s,J s->wpAny a⁻¹ A (keyLt' kd x.1 y.1) (λb s'=>J s'/\b=decide (r x<r y)) (λ_ _=>False) s
theorem pZ(C:gC prog w A J a₀ kd r){x y:Keyed}(hx:x∈a₀.toList)(hy:y∈a₀.toList){st:SortSt}(hk:kindOf st=kd){Q:Option Bool->SortSt->Prop}
  (h:Q (some (decide (r x<r y))) st):cg a⁻¹ A E J (lt' x y) Q st:=by
 rw[lt'_eq];refine ad (cQ ?_);rw[hk];refine ad (dM λs j=>wpAny_attempt (q0X (C x hx y hy s j) (λb s' c=>?_) λ_ _ e=>?_))
 ·obtain⟨a,rfl⟩:=c;exact⟨a,af h⟩
 ·exact e.elim
theorem bc{arr:Array Keyed}{i:Nat}{p:Keyed}(hp:arr[i]?=some p){st:SortSt}{Q:Keyed->SortSt->Prop}(h:Q p st):cg a⁻¹ A E J (elem' arr i) Q st:=by
 rw[elem'_eq,hp];exact af h
def cX:Bool->Keyed->Array Keyed->Nat->Nat->Nat->StateT SortSt Sem (Option Nat):=sortPriv% PySem.Builtin.gallop
theorem ju{n lo hi:Nat}{st:SortSt}{Q:Option Nat->SortSt->Prop}{B:Nat->Bool}{bey:Nat->StateT SortSt Sem (Option Bool)}
  (be:∀i,i<n->∀{Q':Option Bool->SortSt->Prop},Q' (some (B i)) st->cg a⁻¹ A E J (bey i) Q' st)
  (hm:∀i j,i<=j->j<n->B j=true->B i=true) (hl:lo<=hi) (hh:hi<=n) (fl:∀i,i<lo->B i=true) (fh:∀i,hi<=i->i<n->B i=false)
  (h:∀k,k<=n->(∀i,i<k->B i=true)->(∀i,k<=i->i<n->B i=false)->Q (some k) st)
  {F:Nat->Option (Option Nat)×Nat×Nat->StateT SortSt Sem (ForInStep (Option (Option Nat)×Nat×Nat))}
  (hF:∀x l u,F x (none,l,u)=if l≥u then pure (ForInStep.done (none,l,u)) else bey (l+(u-l)/2) >>= λo=>match o with
   |some t=>if t=true then pure (ForInStep.yield (none,l+(u-l)/2+1,u)) else pure (ForInStep.yield (none,l,l+(u-l)/2))
   |none=>pure (ForInStep.done (some none,l,u)))
  {G:Option (Option Nat)×Nat×Nat->StateT SortSt Sem (Option Nat)} (hG:∀l u,G (none,l,u)=pure (some u)) :
  cg a⁻¹ A E J (forIn [0:n] (none,lo,hi) F >>= G) Q st:=by
 refine ad (aK (b5 (I:=λx c a=>a=st/\∃l u,c=(none,l,u)/\l<=u/\u<=n/\u-l<=n-x/\(∀i,i<l->B i=true)/\(∀i,u<=i->i<n->B i=false))
  (Q:=λc a=>a=st/\∃l u,c=(none,l,u)/\u<=n/\(∀i,i<u->B i=true)/\(∀i,u<=i->i<n->B i=false)) ?s ?e ⟨rfl,lo,hi,rfl,hl,hh,⋯,fl,fh⟩) ?p)
 case e=>
  rintro c a ⟨rfl,l,u,rfl,h1,h2,y,d,b⟩;exact⟨rfl,l,u,rfl,h2,λi f=>d i ⋯,b⟩
 case s=>
  rintro x c a _ hxn ⟨rfl,l,u,rfl,h1,h2,y,d,b⟩;rw[hF]
  by_cases g:l≥u
  ·rw[q07 g];exact af ⟨rfl,l,u,rfl,h2,λi f=>d i ⋯,b⟩
  ·rw[q06 g]
   refine ad (be (l+(u-l)/2) ⋯ ?_);dsimp only
   by_cases m:B (l+(u-l)/2)=true
   ·rw[q07 m];exact af ⟨rfl,_,u,rfl,⋯,h2,⋯,λi f=>hm i _ ⋯ ⋯ m,b⟩
   ·rw[q06 m]
    refine af ⟨rfl,l,_,rfl,⋯,⋯,⋯,d,λi r q=>?_⟩;cases v:B i with
    |false=>rfl
    |true=>exact q0Q (hm _ i r q v) m
 case p=>
  rintro c a ⟨rfl,l,u,rfl,h2,d,b⟩;rw[hG];exact af (h u h2 d b)
theorem pH{left:Bool}{key:Keyed}{arr:Array Keyed}{base n hint:Nat}{st:SortSt}{Q:Option Nat->SortSt->Prop}{B:Nat->Bool}(C:gC prog w A J a₀ kd r)(hk:kindOf st=kd)
  (hkey:key∈a₀.toList) (hi:hint<n) (hx:∀i,i<n->∃x,arr[base+i]?=some x/\x∈a₀.toList/\B i=if left then decide (r x<r key) else !decide (r key<r x))
  (hm:∀i j,i<=j->j<n->B j=true->B i=true)
  (h:∀k,k<=n->(∀i,i<k->B i=true)->(∀i,k<=i->i<n->B i=false)->Q (some k) st) :
  cg a⁻¹ A E J (cX left key arr base n hint) Q st:=by
 have z:∀i,i<n->∀{D:Option Bool->SortSt->Prop},D (some (B i)) st->cg a⁻¹ A E J (do
   let x <- elem' arr (base+i)
   if left=true then lt' x key else do
    let y <- lt' key x
    pure (y.map (!·))) D st:=by
  intro i hi D q;obtain⟨x,e,m,b⟩:=hx i hi;refine ad (bc e ?_);cases left with
  |true=>rw[q07 rfl]at b ⊢;exact pZ C m hkey hk (by rw[<- b];exact q)
  |false=>
   rw[q06 nofun]at b ⊢;exact ad (pZ C hkey m hk (af (by show D (some (!decide _)) st;rw[<- b];exact q)))
 unfold cX;refine ad (z hint hi ?_);dsimp only
 by_cases O:B hint=true
 ·rw[q07 O]
  refine ad (aK (b5 (I:=λx c a=>a=st/\∃l o,c=(none,l,o)/\l<o/\x+1<=o/\hint+l<n/\B (hint+l)=true)
   (Q:=λc a=>a=st/\∃l o,c=(none,l,o)/\l<o/\hint+l<n/\B (hint+l)=true/\(n-hint<=o\/B (hint+o)=false)) ?s1 ?e1 ⟨rfl,0,1,rfl,⋯,⋯,⋯,O⟩) ?p1)
  case e1=>
   rintro c a ⟨rfl,l,o,rfl,h1,h2,g,f⟩;exact⟨rfl,l,o,rfl,h1,g,f,.inl ⋯⟩
  case s1=>
   rintro x c a _ L ⟨rfl,l,o,rfl,h1,h2,g,f⟩;dsimp only
   by_cases d:o≥n-hint
   ·rw[q07 d];exact af ⟨rfl,l,o,rfl,h1,g,f,.inl d⟩
   ·rw[q06 d]
    refine ad (z (hint+o) ⋯ ?_);dsimp only
    by_cases v:B (hint+o)=true
    ·rw[v,q06 nofun];exact af ⟨rfl,o,2*o+1,rfl,⋯,⋯,⋯,v⟩
    ·have p:B (hint+o)=false:=by cases t:B (hint+o)<;>simp_all
     rw[p,q07 nofun];exact af ⟨rfl,l,o,rfl,h1,g,f,.inr p⟩
  case p1=>
   rintro c a ⟨rfl,l,o,rfl,h1,g,f,h5⟩;dsimp only;have R:∀i,i<hint+l+1->B i=true:=λi hi'=>hm i (hint+l) ⋯ g f;have S:∀i,hint+min o (n-hint)<=i->i<n->B i=false:=by
    intro i T G;rcases h5 with h5 | h5
    ·omega
    ·cases t:B i with
     |false=>rfl
     |true=>exact q0Q (hm (hint+o) i ⋯ G t) (by rw[h5];decide)
   exact ju z hm ⋯ ⋯ R S h (λx l u=>ite_congr rfl (λ_=>rfl) λ_=>q0R _ (funext λo=>by cases o<;>rfl)) (λl u=>rfl)
 ·have M:B hint=false:=by cases t:B hint<;>simp_all
  rw[q06 O];refine ad (aK (b5 (I:=λx c a=>a=st/\∃l o,c=(none,l,o)/\l<o/\x+1<=o/\l<=hint/\B (hint-l)=false)
   (Q:=λc a=>a=st/\∃l o,c=(none,l,o)/\l<o/\l<=hint/\B (hint-l)=false/\(hint+1<=o\/(o<=hint/\B (hint-o)=true))) ?s2 ?e2 ⟨rfl,0,1,rfl,⋯,⋯,⋯,M⟩) ?p2)
  case e2=>
   rintro c a ⟨rfl,l,o,rfl,h1,h2,g,f⟩;exact⟨rfl,l,o,rfl,h1,g,f,.inl ⋯⟩
  case s2=>
   rintro x c a _ L ⟨rfl,l,o,rfl,h1,h2,g,f⟩;dsimp only
   by_cases d:o≥hint+1
   ·rw[q07 d];exact af ⟨rfl,l,o,rfl,h1,g,f,.inl d⟩
   ·rw[q06 d]
    refine ad (z (hint-o) ⋯ ?_);dsimp only
    by_cases v:B (hint-o)=true
    ·rw[q07 v];exact af ⟨rfl,l,o,rfl,h1,g,f,.inr ⟨⋯,v⟩⟩
    ·have p:B (hint-o)=false:=by cases t:B (hint-o)<;>simp_all
     rw[q06 v];exact af ⟨rfl,o,2*o+1,rfl,⋯,⋯,⋯,p⟩
  case p2=>
   rintro c a ⟨rfl,l,o,rfl,h1,g,f,h5⟩;dsimp only;have R:∀i,i<hint+1-min o (hint+1)->B i=true:=by
    intro i T;rcases h5 with h5 | ⟨h5,U⟩
    ·omega
    ·exact hm i (hint-o) ⋯ ⋯ U
   have S:∀i,hint-l<=i->i<n->B i=false:=by
    intro i T G;cases t:B i with
    |false=>rfl
    |true=>exact q0Q (hm (hint-l) i ⋯ G t) (by rw[f];decide)
   exact ju z hm ⋯ ⋯ R S h (λx l u=>ite_congr rfl (λ_=>rfl) λ_=>q0R _ (funext λo=>by cases o<;>rfl)) (λl u=>rfl)
end
structure MI{α:Type}(le:α->α->Prop)(X Y out rx ry:List α):Prop where
 ex:∃px py,X=px++rx/\Y=py++ry/\out.Perm (px++py)
 so:out.Pairwise le
 ah:∀p,p∈out->∀q,q∈rx++ry->le p q
namespace MI
variable {α:Type}{le:α->α->Prop}{X Y out rx ry:List α}
theorem start(X Y:List α):MI le X Y [] X Y:=⟨⟨[],[],rfl,rfl,List.Perm.refl _⟩,.nil,λp h=>nomatch h⟩
theorem swap(h:MI le X Y out rx ry):MI le Y X out ry rx:=by
 obtain⟨⟨d,c,i,g,f⟩,s,a⟩:=h;exact⟨⟨c,d,g,i,f.trans List.perm_append_comm⟩,s,λp e q b=>a p e q (by rw[xb]at b ⊢;exact b.symm)⟩
theorem takeX{c rx':List α}(h:MI le X Y out (c++rx') ry)(sX:X.Pairwise le)(hc:∀p,p∈c->∀q,q∈ry->le p q):MI le X Y (out++c) rx' ry:=by
 obtain⟨⟨d,g,e,j,i⟩,s,a⟩:=h;rw[e]at sX;have f:=(List.pairwise_append.mp sX).2.1;have b:=List.pairwise_append.mp f;refine⟨⟨d++c,g,by rw[e,xD],j,?_⟩,List.pairwise_append.mpr ⟨s,b.1,λp hp q hq=>a p hp q (by simp[hq])⟩,λp hp q hq=>?_⟩
 ·refine(i.append_right c).trans ?_
  rw[xD,xD];exact List.perm_append_comm.append_left d
 ·rcases xb.mp hp with hp | hp
  ·exact a p hp q (by rcases xb.mp hq with hq | hq<;>simp[hq])
  ·rcases xb.mp hq with hq | hq
   ·exact b.2.2 p hp q hq
   ·exact hc p hp q hq
theorem takeY{c ry':List α}(h:MI le X Y out rx (c++ry'))(sY:Y.Pairwise le)(hc:∀p,p∈c->∀q,q∈rx->le p q):MI le X Y (out++c) rx ry':=
 (h.swap.takeX sY hc).swap
theorem oneX{x:α}{rx':List α}(h:MI le X Y out (x::rx') ry)(sX:X.Pairwise le)(hc:∀q,q∈ry->le x q):MI le X Y (out++[x]) rx' ry:=
 takeX (c:=[x]) h sX λp hp q hq=>by rw[wU]at hp;subst hp;exact hc q hq
theorem oneY{y:α}{ry':List α}(h:MI le X Y out rx (y::ry'))(sY:Y.Pairwise le)(hc:∀q,q∈rx->le y q):MI le X Y (out++[y]) rx ry':=
 takeY (c:=[y]) h sY λp hp q hq=>by rw[wU]at hp;subst hp;exact hc q hq
theorem len(h:MI le X Y out rx ry):out.length+rx.length+ry.length=X.length+Y.length:=by
 obtain⟨⟨px,py,c,b,a⟩,_,_⟩:=h;have:=a.length_eq;rw[c,b];simp at this ⊢;omega
theorem fin{l:List α}(h:MI le X Y out rx ry)(hp:l.Perm (rx++ry))(hs:l.Pairwise le):(out++l).Pairwise le/\(out++l).Perm (X++Y):=by
 obtain⟨⟨b,py,e,d,c⟩,s,a⟩:=h;refine⟨List.pairwise_append.mpr ⟨s,hs,λp h1 q h2=>a p h1 q (hp.mem_iff.mp h2)⟩,?_⟩;rw[e,d];refine(c.append hp).trans ?_;rw[xD,xD];refine List.Perm.append_left b ?_;rw[<- xD,<- xD];exact List.perm_append_comm.append_right ry
theorem finX(h:MI le X Y out rx [])(sX:X.Pairwise le):(out++rx).Pairwise le/\(out++rx).Perm (X++Y):=by
 obtain⟨px,py,a,_,_⟩:=h.ex;exact h.fin (by rw[xC]) (by rw[a]at sX;exact(List.pairwise_append.mp sX).2.1)
theorem finY(h:MI le X Y out [] ry)(sY:Y.Pairwise le):(out++ry).Pairwise le/\(out++ry).Perm (X++Y):=by
 obtain⟨px,py,_,a,_⟩:=h.ex;exact h.fin (by rw[xQ]) (by rw[a]at sY;exact(List.pairwise_append.mp sY).2.1)
theorem lastX{x:α}(h:MI le X Y out [x] ry)(sY:Y.Pairwise le)(hx:∀q,q∈ry->le q x):(out++(ry++[x])).Pairwise le/\(out++(ry++[x])).Perm (X++Y):=by
 obtain⟨px,py,_,c,_⟩:=h.ex;refine h.fin List.perm_append_comm ?_;rw[c]at sY;exact List.pairwise_append.mpr ⟨(List.pairwise_append.mp sY).2.1,List.pairwise_singleton _ _,λp b q a=>by rw[wU]at a;subst a;exact hx p b⟩
end MI
theorem mf{α:Type}(a:Array α)(i:Nat):(a.extract i a.size).toList=a.toList.drop i:=by
 rw[Array.toList_extract];simp[List.extract];exact q0F (by simp)
theorem fO{α:Type}(a:Array α)(i k:Nat):(a.extract i (i+k)).toList=(a.toList.drop i).take k:=by
 rw[Array.toList_extract];simp[List.extract]
theorem cz{α:Type}(a:Array α){i:Nat}(h:i<a.toList.length):∃x,a[i]?=some x/\a.toList.drop i=x::a.toList.drop (i+1)/\x∈a.toList:=by
 refine⟨a.toList[i],?_,q0T h,w6 h⟩;rw[<- q0G,wQ h]
def SG(st st':SortSt):Prop:=kindOf st'=kindOf st/\arrOf st'=arrOf st/\pendingOf st'=pendingOf st/\failedOf st'=failedOf st
theorem SG.refl(st:SortSt):SG st st:=⟨rfl,rfl,rfl,rfl⟩
abbrev PA:=Array Keyed
abbrev SM:=StateT SortSt Sem
abbrev cI(r:Keyed->Nat):Keyed->Keyed->Prop:=λp q=>r p<=r q
def jK:PA->PA->SM PA:=sortPriv% PySem.Builtin.mergeLo
def eT:Nat->SM Unit:=sortPriv% PySem.Builtin.setMinGallop
abbrev L1:=Option PA×PA×Nat×Nat×Nat×Nat
abbrev u5:=Option PA×PA×Nat×Nat×Nat×Nat×Nat
abbrev L0:=Option PA×PA×Nat×Nat×Nat
abbrev pF(a b:PA)(o:PA)(i j:Nat):PA:=o++a.extract i a.size++b.extract j b.size
abbrev tN(a b:PA)(o:PA)(i j:Nat):PA:=o++b.extract j b.size++a.extract i a.size
def v8(a b:PA)(g:Nat)(o:PA)(i j m n:Nat):SM (ForInStep L1):=
 elem' b j >>= λy=>elem' a i >>= λx=>lt' y x >>= λt=>match t with
 |some t=>if t=true then elem' b j >>= λy=>
   if(j+1==b.size)=true then pure (.done (some (pF a b (o.push y) i (j+1)),o.push y,i,j+1,0,n+1))
   else if n+1≥g then pure (.done (none,o.push y,i,j+1,0,n+1)) else pure (.yield (none,o.push y,i,j+1,0,n+1))
  else elem' a i >>= λx=>
   if(i+1+1==a.size)=true then pure (.done (some (tN a b (o.push x) (i+1) j),o.push x,i+1,j,m+1,0))
   else if m+1≥g then pure (.done (none,o.push x,i+1,j,m+1,0)) else pure (.yield (none,o.push x,i+1,j,m+1,0))
 |_=>pure (.done (some (pF a b o i j),o,i,j,m,n))
def u1(a b:PA)(o:PA)(i j g m n:Nat):SM (ForInStep u5):=
 elem' a i >>= λx=>if(i+1+1==a.size)=true then pure (.done (some (tN a b (o.push x) (i+1) j),o.push x,i+1,j,g,m,n))
  else if(decide (m<7)&&decide (n<7))=true then pure (.done (none,o.push x,i+1,j,g,m,n)) else pure (.yield (none,o.push x,i+1,j,g,m,n))
def uW(a b:PA)(o:PA)(i j g m n:Nat):SM (ForInStep u5):=
 elem' b j >>= λy=>if(j+1==b.size)=true then pure (.done (some (pF a b (o.push y) i (j+1)),o.push y,i,j+1,g,m,n))
  else elem' a i >>= λx=>cX true x b (j+1) (b.size-(j+1)) 0 >>= λt=>match t with
  |some k=>if k>0 then
    if(j+1+k==b.size)=true then pure (.done (some (pF a b (o.push y++b.extract (j+1) (j+1+k)) i (j+1+k)),o.push y++b.extract (j+1) (j+1+k),i,j+1+k,g,m,k))
    else u1 a b (o.push y++b.extract (j+1) (j+1+k)) i (j+1+k) g m k
   else u1 a b (o.push y) i (j+1) g m k
  |_=>pure (.done (some (pF a b (o.push y) i (j+1)),o.push y,i,j+1,g,m,n))
def uh(a b:PA)(o:PA)(i j g m n:Nat):SM (ForInStep u5):=
 eT g >>= λ_=>elem' b j >>= λy=>cX false y a i (a.size-i) 0 >>= λt=>match t with
  |some k=>if k>0 then
    if(i+k+1==a.size)=true then pure (.done (some (tN a b (o++a.extract i (i+k)) (i+k) j),o++a.extract i (i+k),i+k,j,g,k,n))
    else if(i+k==a.size)=true then pure (.done (some (pF a b (o++a.extract i (i+k)) (i+k) j),o++a.extract i (i+k),i+k,j,g,k,n))
    else uW a b (o++a.extract i (i+k)) (i+k) j g k n
   else uW a b o i j g k n
  |_=>pure (.done (some (pF a b o i j),o,i,j,g,m,n))
def vK(a b:PA)(s:L0):SM (ForInStep L0):=
 forIn [0:a.size+b.size] ((none,s.2.1,s.2.2.1,s.2.2.2.1,0,0):L1) (λ_ t=>v8 a b s.2.2.2.2 t.2.1 t.2.2.1 t.2.2.2.1 t.2.2.2.2.1 t.2.2.2.2.2) >>= λt=>
 match t.1 with
 |some z=>pure (.done (some z,t.2.1,t.2.2.1,t.2.2.2.1,s.2.2.2.2))
 |none=>liftM (rule "list.sort.gallop") >>= λ_=>
  forIn [0:a.size+b.size] ((none,t.2.1,t.2.2.1,t.2.2.2.1,s.2.2.2.2+1,t.2.2.2.2.1,t.2.2.2.2.2):u5) (λ_ u=>
   if u.2.2.2.2.1>1 then uh a b u.2.1 u.2.2.1 u.2.2.2.1 (u.2.2.2.2.1-1) u.2.2.2.2.2.1 u.2.2.2.2.2.2 else uh a b u.2.1 u.2.2.1 u.2.2.2.1 u.2.2.2.2.1 u.2.2.2.2.2.1 u.2.2.2.2.2.2) >>= λu=>
  match u.1 with
  |some z=>pure (.done (some z,u.2.1,u.2.2.1,u.2.2.2.1,u.2.2.2.2.1))
  |none=>eT (u.2.2.2.2.1+1) >>= λ_=>pure (.yield (none,u.2.1,u.2.2.1,u.2.2.2.1,u.2.2.2.2.1+1))
def rN(a b:PA):SM PA:=
 liftM (rule "list.sort.merge-lo") >>= λ_=>elem' b 0 >>= λy=>
 if((1:Nat)==b.size)=true then pure (pF a b #[y] 0 1) else if((0:Nat)+1==a.size)=true then pure (tN a b #[y] 0 1) else
 get >>= λst=>forIn [0:a.size+b.size] ((none,#[y],0,1,gallopOf st):L0) (λ_ s=>vK a b s) >>= λs=>
 match s.1 with
 |some z=>pure z
 |none=>liftM (unsupported "internal:list.sort.merge-bound":Sem PA)
theorem aq{α β:Type}{m m':SM α}{f g:α->SM β}(e:m=m')(h:∀x,f x=g x):(m >>= f)=(m' >>= g):=by rw[e,funext h]
theorem cN{β:Type}{n:Nat}{c:β}{f g:Nat->β->SM (ForInStep β)}(h:∀x s,f x s=g x s):(forIn [0:n] c f:SM β)=forIn [0:n] c g:=by
 rw[show f=g from funext λx=>funext λs=>h x s]
theorem bS{α:Type}{c:Prop}[Decidable c]{a b a' b':α}(h:a=a')(k:b=b'):(if c then a else b)=if c then a' else b':=by rw[h,k]
theorem kL(a b:PA):jK a b=rN a b:=by
 refine aq rfl λ_=>aq rfl λy=>bS rfl (bS rfl (aq rfl λst=>aq (cN λ_ s=>?_) λs=>?_))
 ·refine aq (cN λ_ t=>?_) λt=>?_
  ·refine aq rfl λy=>aq rfl λx=>aq rfl λt=>?_
   rfl
  ·obtain⟨z,t⟩:=t
   cases z with
   |some z=>rfl
   |none=>
    refine aq rfl λ_=>aq (cN λ_ u=>bS ?_ ?_) λu=>?_
    ·rfl
    ·rfl
    ·obtain⟨z,u⟩:=u
     cases z<;>rfl
 ·obtain⟨z,s⟩:=s
  cases z<;>rfl
section
variable {prog:Aj}{w:Am}{A:Al}{E:Aa}{J:Shared->Prop}{a₀:Array Keyed}{kd:SortKind}{r:Keyed->Nat}
def bt(r:Keyed->Nat)(left:Bool)(key p:Keyed):Prop:=if left=true then r p<r key else r p<=r key
noncomputable instance (left:Bool)(key p:Keyed):Decidable (bt r left key p):=by unfold bt;infer_instance
theorem pf{arr:PA}{base n t:Nat}(hn:base+n<=arr.toList.length)(ht:t<n):arr[base+t]?=((arr.toList.drop base).take n)[t]?:=by
 rw[List.getElem?_take,q07 ht,List.getElem?_drop,q0G]
theorem hX{left:Bool}{key:Keyed}{arr:PA}{base n hint:Nat}{st:SortSt}{Q:Option Nat->SortSt->Prop}(C:gC prog w A J a₀ kd r)(hk:kindOf st=kd)(hkey:key∈a₀.toList)
  (hi:hint<n) (hn:base+n<=arr.toList.length) (mem:∀p,p∈(arr.toList.drop base).take n->p∈a₀.toList) (srt:((arr.toList.drop base).take n).Pairwise (cI r))
  (h:∀k,k<=n->(∀p,p∈((arr.toList.drop base).take n).take k->bt r left key p)->(∀p,p∈((arr.toList.drop base).take n).drop k->¬ bt r left key p)->Q (some k) st) :
  cg a⁻¹ A E J (cX left key arr base n hint) Q st:=by
 generalize hS:(arr.toList.drop base).take n=S at *;have lS:S.length=n:=by rw[<- hS];simp at hn ⊢;omega
 have at':∀t,t<n->arr[base+t]?=S[t]?:=λt ht=>by rw[<- hS];exact pf hn ht
 refine pH (B:=λt=>match S[t]? with | some x=>decide (bt r left key x) | none=>false) C hk hkey hi (λt ht=>?_) (λi j hij hj hB=>?_) λk hk' f g=>h k hk' (λp hp=>?_) λp hp=>?_
 ·have e:S[t]?=some S[t]:=wQ ⋯
  refine⟨S[t],by rw[at' t ht,e],mem _ (w6 _),?_⟩;rw[e];dsimp only
  unfold bt;cases left with
  |true=>simp
  |false=>
   simp only[q0Z,if_false]
   by_cases q:r key<r S[t]
   ·rw[q09 q,q08 ⋯];rfl
   ·rw[q08 q,q09 ⋯];rfl
 ·have e1:S[i]?=some S[i]:=wQ ⋯
  have e2:S[j]?=some S[j]:=wQ ⋯;rw[e2]at hB;rw[e1];dsimp only at hB ⊢
  have hle:r S[i]<=r S[j]:=by
   rcases Nat.lt_or_ge i j with q | q
   ·exact(List.pairwise_iff_getElem.mp srt) i j ⋯ ⋯ q
   ·have:i=j:=by omega
    subst this;exact xp _
  have hB':=of_decide_eq_true hB;refine q09 ?_;unfold bt at hB' ⊢
  split at hB'<;>rename_i hc
  ·rw[q07 hc];omega
  ·rw[q06 hc];omega
 ·obtain⟨t,ht,e⟩:=List.mem_iff_getElem.mp hp
  rw[xG]at ht;rw[List.getElem_take]at e;have:=f t ⋯;rw[wQ ⋯]at this;rw[<- e];exact of_decide_eq_true this
 ·obtain⟨t,ht,e⟩:=List.mem_iff_getElem.mp hp
  rw[xH]at ht;rw[List.getElem_drop]at e;have:=g (k+t) ⋯ ⋯;rw[wQ ⋯]at this;rw[<- e];exact of_decide_eq_false this
theorem eS{left:Bool}{key:Keyed}(h:¬ bt r left key p):if left=true then r key<=r p else r key<r p:=by
 unfold bt at h
 split at h<;>rename_i hc
 ·rw[q07 hc];omega
 ·rw[q06 hc];omega
structure MC(prog:Aj)(w:Am)(A:Al)(J:Shared->Prop)(a₀:PA)(kd:SortKind)(r:Keyed->Nat)(a b:PA):Prop where
 C:gC prog w A J a₀ kd r
 ha:∀p,p∈a.toList->p∈a₀.toList
 hb:∀p,p∈b.toList->p∈a₀.toList
 sa:a.toList.Pairwise (cI r)
 sb:b.toList.Pairwise (cI r)
 hl:∀x,a[a.toList.length-1]?=some x->∀q,q∈b.toList->r q<=r x
def dm(r:Keyed->Nat)(a b z:PA):Prop:=z.toList.Pairwise (cI r)/\z.toList.Perm (a.toList++b.toList)
structure dG(r:Keyed->Nat)(a b o:PA)(i j:Nat):Prop where
 mi:MI (cI r) a.toList b.toList o.toList (a.toList.drop i) (b.toList.drop j)
 hi:i+1<a.toList.length
 hj:j<b.toList.length
def PG(r:Keyed->Nat)(a b:PA)(k:Nat)(z:Option PA)(o:PA)(i j:Nat):Prop:=match z with
 |some z=>dm r a b z
 |none=>dG r a b o i j/\k<=o.size
variable {a b:PA}
theorem dG.lt(h:dG r a b o i j):o.size<a.size+b.size:=by
 have:=h.mi.len;have h1:=h.hi;have h2:=h.hj
 simp at this h1 h2;omega
theorem uN(m:MC prog w A J a₀ kd r a b){o:PA}{i j:Nat}(h:MI (cI r) a.toList b.toList o.toList (a.toList.drop i) (b.toList.drop j))(hj:(j==b.size)=true\/(i==a.size)=true):dm r a b (pF a b o i j):=by
 unfold dm;rw[show(pF a b o i j).toList=o.toList++(a.toList.drop i++b.toList.drop j) by simp only[pF,q0V,mf,xD]];rcases hj with hj | hj
 ·have e:b.toList.drop j=[]:=List.drop_eq_nil_of_le (by have:=eq_of_beq hj;simp;omega)
  rw[e]at h ⊢;rw[xC];exact h.finX m.sa
 ·have e:a.toList.drop i=[]:=List.drop_eq_nil_of_le (by have:=eq_of_beq hj;simp;omega)
  rw[e]at h ⊢;rw[xQ];exact h.finY m.sb
theorem uQ(m:MC prog w A J a₀ kd r a b){o:PA}{i j:Nat}(h:MI (cI r) a.toList b.toList o.toList (a.toList.drop i) (b.toList.drop j))(hi:(i+1==a.size)=true):dm r a b (tN a b o i j):=by
 have e:=eq_of_beq hi;obtain⟨x,g,d,e3⟩:=cz a (i:=i) (by simp;omega);have c:a.toList.drop (i+1)=[]:=List.drop_eq_nil_of_le (by simp;omega);unfold dm;rw[show(tN a b o i j).toList=o.toList++(b.toList.drop j++a.toList.drop i) by simp only[tN,q0V,mf,xD],d,c];rw[d,c]at h;refine h.lastX m.sb λq f=>m.hl x ?_ q (q0I f);rw[show a.toList.length-1=i by simp;omega];exact g
theorem fS{l:List Keyed}(s:l.Pairwise (cI r)){i:Nat}{y:Keyed}(e:l.drop i=y::l.drop (i+1)):∀q,q∈l.drop i->r y<=r q:=by
 intro q hq;have:=s.sublist (List.drop_sublist i l);rw[e]at this hq;rcases xf.mp hq with rfl | hq
 ·exact xp _
 ·exact(List.pairwise_cons.mp this).1 q hq
theorem bu{x y:Nat}(h:¬ (x==y)=true):x≠y:=λe=>h (by rw[e];exact beq_self_eq_true y)
theorem ut(m:MC prog w A J a₀ kd r a b){st:SortSt}(hk:kindOf st=kd){o:PA}{i j g u v:Nat}(h:dG r a b o i j) :
  cg a⁻¹ A E J (v8 a b g o i j u v) (λt st'=>st'=st/\match t with
   | .done s=>PG r a b (o.size+1) s.1 s.2.1 s.2.2.1 s.2.2.2.1
   | .yield s=>s.1=none/\PG r a b (o.size+1) s.1 s.2.1 s.2.2.1 s.2.2.2.1) st:=by
 unfold v8;obtain⟨y,n,l,B⟩:=cz b h.hj;obtain⟨x,z,p,D⟩:=cz a (i:=i) (by have:=h.hi;omega);refine ad (bc n (ad (bc z (ad (pZ m.C (m.hb _ B) (m.ha _ D) hk ?_)))));dsimp only;have mi:=h.mi
 by_cases k:r y<r x
 ·rw[q07 (q09 k)]
  refine ad (bc n ?_);rw[l]at mi;have c:MI (cI r) a.toList b.toList (o.push y).toList (a.toList.drop i) (b.toList.drop (j+1)):=by
   rw[Array.toList_push];exact mi.oneY m.sb λq f=>by have:=fS m.sa p q f;show r y<=r q;omega
  by_cases d:(j+1==b.size)=true
  ·rw[q07 d];exact af ⟨rfl,uN m c (.inl d)⟩
  ·rw[q06 d]
   have e:dG r a b (o.push y) i (j+1):=⟨c,h.hi,by have:=bu d;have:=h.hj;simp at this ⊢;omega⟩
   split
   ·exact af ⟨rfl,e,by simp⟩
   ·exact af ⟨rfl,rfl,e,by simp⟩
 ·rw[q06 (by simpa using k)]
  refine ad (bc z ?_);rw[p]at mi;have c:MI (cI r) a.toList b.toList (o.push x).toList (a.toList.drop (i+1)) (b.toList.drop j):=by
   rw[Array.toList_push];exact mi.oneX m.sa λq f=>by have:=fS m.sb l q f;show r x<=r q;omega
  by_cases d:(i+1+1==a.size)=true
  ·rw[q07 d];exact af ⟨rfl,uQ m c d⟩
  ·rw[q06 d]
   have e:dG r a b (o.push x) (i+1) j:=⟨c,by have:=bu d;have:=h.hi;simp at this ⊢;omega,h.hj⟩
   split
   ·exact af ⟨rfl,e,by simp⟩
   ·exact af ⟨rfl,rfl,e,by simp⟩
theorem fK{st:SortSt}{Q:Unit->SortSt->Prop}(h:∀st',SG st st'->Q () st'):cg a⁻¹ A E J (eT g) Q st:=by
 unfold eT;exact bB (h _ ⟨rfl,rfl,rfl,rfl⟩)
theorem mw{l:List Keyed}(i:Nat):(l.drop i).take (l.length-i)=l.drop i:=q0F (by simp)
theorem sv(m:MC prog w A J a₀ kd r a b){st:SortSt}{o:PA}{i j g u v k:Nat}(h:dG r a b o i j)(hk:k<=o.size)(hx:∀x,a[i]?=some x->∀q,q∈b.toList.drop j->r x<=r q) :
  cg a⁻¹ A E J (u1 a b o i j g u v) (λt st'=>st'=st/\match t with
   | .done s=>PG r a b (k+1) s.1 s.2.1 s.2.2.1 s.2.2.2.1
   | .yield s=>s.1=none/\PG r a b (k+1) s.1 s.2.1 s.2.2.1 s.2.2.2.1) st:=by
 unfold u1;obtain⟨x,f,l,a3⟩:=cz a (i:=i) (by have:=h.hi;omega);refine ad (bc f ?_);have mi:=h.mi;rw[l]at mi;have c:MI (cI r) a.toList b.toList (o.push x).toList (a.toList.drop (i+1)) (b.toList.drop j):=by
  rw[Array.toList_push];exact mi.oneX m.sa (hx x f)
 by_cases d:(i+1+1==a.size)=true
 ·rw[q07 d];exact af ⟨rfl,uQ m c d⟩
 ·rw[q06 d]
  have e:dG r a b (o.push x) (i+1) j:=⟨c,by have:=bu d;have:=h.hi;simp at this ⊢;omega,h.hj⟩
  split
  ·exact af ⟨rfl,e,by simp;omega⟩
  ·exact af ⟨rfl,rfl,e,by simp;omega⟩
theorem dL(l:List Keyed)(i k:Nat):l.drop i=(l.drop i).take k++l.drop (i+k):=by
 rw[<- List.drop_drop];exact(List.take_append_drop k _).symm
theorem r_(m:MC prog w A J a₀ kd r a b){st:SortSt}(hk:kindOf st=kd){o:PA}{i j g u v k:Nat}(h:dG r a b o i j)(hz:k<=o.size)(hy:∀y,b[j]?=some y->∀q,q∈a.toList.drop i->r y<=r q) :
  cg a⁻¹ A E J (uW a b o i j g u v) (λt st'=>st'=st/\match t with
   | .done s=>PG r a b (k+1) s.1 s.2.1 s.2.2.1 s.2.2.2.1
   | .yield s=>s.1=none/\PG r a b (k+1) s.1 s.2.1 s.2.2.1 s.2.2.2.1) st:=by
 unfold uW;obtain⟨y,T,b2,b3⟩:=cz b h.hj;obtain⟨x,L,a2,a3⟩:=cz a (i:=i) (by have:=h.hi;omega);refine ad (bc T ?_);have mi:=h.mi;rw[b2]at mi;have c:MI (cI r) a.toList b.toList (o.push y).toList (a.toList.drop i) (b.toList.drop (j+1)):=by
  rw[Array.toList_push];exact mi.oneY m.sb (hy y T)
 by_cases D:(j+1==b.size)=true
 ·rw[q07 D];exact af ⟨rfl,uN m c (.inl D)⟩
 ·rw[q06 D]
  have hj:=h.hj;have hj1:j+1<b.size:=by have:=bu D;simp at hj;omega
  have G:((b.toList.drop (j+1)).take (b.size-(j+1)))=b.toList.drop (j+1):=by have:=mw (l:=b.toList) (j+1);simpa using this
  refine ad (bc L (ad (hX m.C hk (m.ha _ a3) ⋯ (by simp;omega) (by rw[G];exact λp I=>m.hb p (q0I I)) (by rw[G];exact m.sb.sublist (List.drop_sublist _ _)) λe he S R=>?_)));rw[G]at S R;dsimp only;have Y:∀p,p∈(b.toList.drop (j+1)).take e->∀q,q∈a.toList.drop i->r p<=r q:=λp I q f=>by
   have M:r p<r x:=S p I;have:=fS m.sa a2 q f;omega
  have O:∀q,q∈b.toList.drop (j+1+e)->r x<=r q:=λq f=>by
   have M:=eS (R q (by rw[List.drop_drop];exact f));exact M
  by_cases z:e>0
  ·rw[q07 z]
   have n:MI (cI r) a.toList b.toList (o.push y++b.extract (j+1) (j+1+e)).toList (a.toList.drop i) (b.toList.drop (j+1+e)):=by
    rw[q0V,fO];rw[dL b.toList (j+1) e]at c;exact c.takeY m.sb Y
   by_cases d:(j+1+e==b.size)=true
   ·rw[q07 d];exact af ⟨rfl,uN m n (.inl d)⟩
   ·rw[q06 d]
    exact sv m ⟨n,h.hi,by have:=bu d;simp;omega⟩ (by simp;omega) λU B q f=>by rw[L]at B;cases B;exact O q f
  ·rw[q06 z]
   have Z:e=0:=by omega
   subst Z;exact sv m ⟨c,h.hi,by simp;omega⟩ (by simp;omega) λU B q f=>by rw[L]at B;cases B;exact O q f
theorem uq(m:MC prog w A J a₀ kd r a b){st:SortSt}(hk:kindOf st=kd){o:PA}{i j g u v:Nat}(h:dG r a b o i j) :
  cg a⁻¹ A E J (uh a b o i j g u v) (λt st'=>SG st st'/\match t with
   | .done s=>PG r a b (o.size+1) s.1 s.2.1 s.2.2.1 s.2.2.2.1
   | .yield s=>s.1=none/\PG r a b (o.size+1) s.1 s.2.1 s.2.2.1 s.2.2.2.1) st:=by
 unfold uh;refine ad (fK λst' x=>?_);have n:kindOf st'=kd:=x.1.trans hk;obtain⟨y,L,b2,b3⟩:=cz b h.hj;have hi:=h.hi;have hi0:i+1<a.size:=by simpa using hi
 have G:((a.toList.drop i).take (a.size-i))=a.toList.drop i:=by have:=mw (l:=a.toList) i;simpa using this
 refine ad (bc L (ad (hX m.C n (m.hb _ b3) ⋯ (by simp;omega) (by rw[G];exact λp I=>m.ha p (q0I I)) (by rw[G];exact m.sa.sublist (List.drop_sublist _ _)) λe he R O=>?_)));rw[G]at R O;dsimp only;have Y:∀p,p∈(a.toList.drop i).take e->∀q,q∈b.toList.drop j->r p<=r q:=λp I q f=>by
  have U:r p<=r y:=R p I;have:=fS m.sb b2 q f;omega
 have M:∀q,q∈a.toList.drop (i+e)->r y<=r q:=λq f=>by
  have U:r y<r q:=eS (O q (by rw[List.drop_drop];exact f));omega
 by_cases z:e>0
 ·rw[q07 z]
  have d:MI (cI r) a.toList b.toList (o++a.extract i (i+e)).toList (a.toList.drop (i+e)) (b.toList.drop j):=by
   rw[q0V,fO];have mi:=h.mi;rw[dL a.toList i e]at mi;exact mi.takeX m.sa Y
  by_cases D:(i+e+1==a.size)=true
  ·rw[q07 D];exact af ⟨x,uQ m d D⟩
  ·rw[q06 D]
   by_cases c:(i+e==a.size)=true
   ·rw[q07 c];exact af ⟨x,uN m d (.inr c)⟩
   ·rw[q06 c]
    refine aK (r_ (k:=o.size) m n ⟨d,by have:=bu D;have:=bu c;simp;omega,h.hj⟩ (by simp) λS B q f=>by rw[L]at B;cases B;exact M q f) λt T q=>⟨by rw[q.1];exact x,q.2⟩
 ·rw[q06 z]
  have Z:e=0:=by omega
  subst Z;exact aK (r_ (k:=o.size) m n h (xp _) λS B q f=>by rw[L]at B;cases B;exact M q f) λt T q=>⟨by rw[q.1];exact x,q.2⟩
theorem SG.trans(h:SG x y)(k:SG y z):SG x z:=⟨k.1.trans h.1,k.2.1.trans h.2.1,k.2.2.1.trans h.2.2.1,k.2.2.2.trans h.2.2.2⟩
theorem ue(m:MC prog w A J a₀ kd r a b){st:SortSt}(hk:kindOf st=kd){s:L0}(h:dG r a b s.2.1 s.2.2.1 s.2.2.2.1) :
  cg a⁻¹ A E J (vK a b s) (λt st'=>SG st st'/\match t with
   | .done u=>∃z,u.1=some z/\dm r a b z
   | .yield u=>u.1=none/\dG r a b u.2.1 u.2.2.1 u.2.2.2.1/\s.2.1.size+1<=u.2.1.size) st:=by
 unfold vK;refine ad (aK (b5 (I:=λx c st'=>st'=st/\c.1=none/\dG r a b c.2.1 c.2.2.1 c.2.2.2.1/\s.2.1.size+x<=c.2.1.size)
  (Q:=λc st'=>st'=st/\PG r a b (s.2.1.size+1) c.1 c.2.1 c.2.2.1 c.2.2.2.1) ?s1 ?e1 ⟨rfl,rfl,h,xp _⟩) ?p1)
 case e1=>
  rintro c st' ⟨rfl,C,f,B⟩;have:=f.lt;omega
 case s1=>
  rintro x c st' _ B ⟨rfl,C,f,D⟩;refine aK (ut m hk f) λt d q=>?_;obtain⟨rfl,q⟩:=q;cases t with
  |done u=>
   refine⟨rfl,?_⟩;dsimp only at q
   revert q;unfold PG;cases u.1 with
   |some z=>exact id
   |none=>exact λq=>⟨q.1,by have:=q.2;omega⟩
  |yield u=>
   obtain⟨p,n⟩:=q;rw[p]at n;exact⟨rfl,p,n.1,by have:=n.2;omega⟩
 case p1=>
  rintro⟨z,o,i,j,u,v⟩ st' ⟨rfl,q⟩;cases z with
  |some z=>exact af ⟨SG.refl _,z,rfl,q⟩
  |none=>
   obtain⟨f,D⟩:=q;dsimp only;refine ad (dM λ_ G=>wpAny_rule ⟨G,?_⟩);refine ad (aK (b5 (I:=λx c d=>SG st' d/\c.1=none/\dG r a b c.2.1 c.2.2.1 c.2.2.2.1/\s.2.1.size+1<=c.2.1.size)
    (Q:=λc d=>SG st' d/\PG r a b (s.2.1.size+1) c.1 c.2.1 c.2.2.1 c.2.2.2.1) ?s2 ?e2 ⟨SG.refl _,rfl,f,D⟩) ?p2)
   case e2=>
    rintro c d ⟨l,C,f,B⟩;exact⟨l,by rw[C];exact⟨f,B⟩⟩
   case s2=>
    rintro x c d _ B ⟨l,C,f,D⟩;have y:∀g,cg a⁻¹ A E J (uh a b c.2.1 c.2.2.1 c.2.2.2.1 g c.2.2.2.2.2.1 c.2.2.2.2.2.2) (λt e=>match t with
      | .done c'=>SG st' e/\PG r a b (s.2.1.size+1) c'.1 c'.2.1 c'.2.2.1 c'.2.2.2.1
      | .yield c'=>SG st' e/\c'.1=none/\dG r a b c'.2.1 c'.2.2.1 c'.2.2.2.1/\s.2.1.size+1<=c'.2.1.size) d:=by
     intro g;refine aK (uq m (l.1.trans hk) f) λt e q=>?_;obtain⟨k,q⟩:=q;cases t with
     |done u=>
      refine⟨l.trans k,?_⟩;dsimp only at q
      revert q;unfold PG;cases u.1 with
      |some z=>exact id
      |none=>exact λq=>⟨q.1,by have:=q.2;omega⟩
     |yield u=>
      obtain⟨p,n⟩:=q;rw[p]at n;exact⟨l.trans k,p,n.1,by have:=n.2;omega⟩
    split
    ·exact aK (y _) λt e q=>by cases t<;>exact q
    ·exact aK (y _) λt e q=>by cases t<;>exact q
   case p2=>
    rintro⟨z,o2,i2,j2,g2,u2,v2⟩ d ⟨l,q⟩;cases z with
    |some z=>exact af ⟨l,z,rfl,q⟩
    |none=>exact ad (fK λe k=>af ⟨l.trans k,rfl,q.1,q.2⟩)
theorem nH(m:MC prog w A J a₀ kd r a b){st:SortSt}(hk:kindOf st=kd){Q:PA->SortSt->Prop}(h0:∀y,b[0]?=some y->∀q,q∈a.toList->r y<=r q)
  (na:0<a.toList.length) (nb:0<b.toList.length) (h:∀l st',SG st st'->dm r a b l->Q l st'):cg a⁻¹ A E J (jK a b) Q st:=by
 rw[kL];unfold rN
 obtain⟨y,v,o,b3⟩:=cz b nb;refine ad (dM λs j=>wpAny_rule ⟨j,ad (bc v ?_)⟩);have k:MI (cI r) a.toList b.toList (#[y]:PA).toList (a.toList.drop 0) (b.toList.drop 1):=by
  have:=MI.start (le:=cI r) a.toList b.toList;rw[show b.toList=y::b.toList.drop 1 from o]at this;have h2:=MI.oneY (by rw[show b.toList=y::b.toList.drop 1 from o];exact this) m.sb (h0 y v);exact h2
 by_cases i:((1:Nat)==b.size)=true
 ·rw[q07 i];exact af (h _ _ (SG.refl _) (uN m k (.inl i)))
 ·rw[q06 i]
  by_cases d:((0:Nat)+1==a.size)=true
  ·rw[q07 d];exact af (h _ _ (SG.refl _) (uQ m k d))
  ·rw[q06 d]
   refine ad (cQ ?_);refine ad (aK (b5 (I:=λx c st'=>SG st st'/\c.1=none/\dG r a b c.2.1 c.2.2.1 c.2.2.2.1/\x+1<=c.2.1.size)
    (Q:=λc st'=>SG st st'/\∃z,c.1=some z/\dm r a b z) ?s ?e ⟨SG.refl _,rfl,⟨k,by have:=bu d;simp at na ⊢;omega,by have:=bu i;simp at nb ⊢;omega⟩,by simp⟩) ?p)
   case e=>
    rintro c st' ⟨_,C,n,B⟩;have:=n.lt;omega
   case s=>
    rintro x c st' _ B ⟨g,C,n,hz⟩;refine aK (ue m (g.1.trans hk) n) λt st2 q=>?_;obtain⟨f,q⟩:=q;cases t with
    |done u=>exact⟨g.trans f,q⟩
    |yield u=>exact⟨g.trans f,q.1,q.2.1,by have:=q.2.2;omega⟩
   case p=>
    rintro⟨z,u⟩ st' ⟨g,z',e,q⟩;dsimp only at e;subst e;exact af (h _ _ g q)
end
def ky:PA->PA->SM PA:=sortPriv% PySem.Builtin.mergeHi
abbrev H1:=Option PA×Nat×Nat×PA×Nat×Nat
abbrev H2:=Option PA×Nat×Nat×PA×Nat×Nat×Nat
abbrev H0:=Option PA×Nat×Nat×PA×Nat
abbrev oh(a b:PA)(i j:Nat)(o:PA):PA:=a.extract 0 i++b.extract 0 j++o.reverse
abbrev t7(a b:PA)(i j:Nat)(o:PA):PA:=b.extract 0 j++a.extract 0 i++o.reverse
def u9(a b:PA)(g:Nat)(i j:Nat)(o:PA)(m n:Nat):SM (ForInStep H1):=
 elem' b (j-1) >>= λy=>elem' a (i-1) >>= λx=>lt' y x >>= λt=>match t with
 |some t=>if t=true then elem' a (i-1) >>= λx=>
   if(i-1==0)=true then pure (.done (some (oh a b (i-1) j (o.push x)),i-1,j,o.push x,m+1,0))
   else if m+1≥g then pure (.done (none,i-1,j,o.push x,m+1,0)) else pure (.yield (none,i-1,j,o.push x,m+1,0))
  else elem' b (j-1) >>= λy=>
   if(j-1==1)=true then pure (.done (some (t7 a b i (j-1) (o.push y)),i,j-1,o.push y,0,n+1))
   else if n+1≥g then pure (.done (none,i,j-1,o.push y,0,n+1)) else pure (.yield (none,i,j-1,o.push y,0,n+1))
 |_=>pure (.done (some (oh a b i j o),i,j,o,m,n))
def uU(a b:PA)(i j:Nat)(o:PA)(g m n:Nat):SM (ForInStep H2):=
 elem' a (i-1) >>= λx=>if(i-1==0)=true then pure (.done (some (oh a b (i-1) j (o.push x)),i-1,j,o.push x,g,m,n))
  else if(decide (m<7)&&decide (n<7))=true then pure (.done (none,i-1,j,o.push x,g,m,n)) else pure (.yield (none,i-1,j,o.push x,g,m,n))
def uV(a b:PA)(i j:Nat)(o:PA)(g m n:Nat):SM (ForInStep H2):=
 elem' b (j-1) >>= λy=>if(j-1==1)=true then pure (.done (some (t7 a b i (j-1) (o.push y)),i,j-1,o.push y,g,m,n))
  else elem' a (i-1) >>= λx=>cX true x b 0 (j-1) (j-1-1) >>= λt=>match t with
  |some k=>if j-1-k>0 then
    if(k==1)=true then pure (.done (some (t7 a b i k (o.push y++(b.extract k (j-1)).reverse)),i,k,o.push y++(b.extract k (j-1)).reverse,g,m,j-1-k))
    else if(k==0)=true then pure (.done (some (oh a b i k (o.push y++(b.extract k (j-1)).reverse)),i,k,o.push y++(b.extract k (j-1)).reverse,g,m,j-1-k))
    else uU a b i k (o.push y++(b.extract k (j-1)).reverse) g m (j-1-k)
   else uU a b i (j-1) (o.push y) g m (j-1-k)
  |_=>pure (.done (some (oh a b i (j-1) (o.push y)),i,j-1,o.push y,g,m,n))
def ii(a b:PA)(i j:Nat)(o:PA)(g m n:Nat):SM (ForInStep H2):=
 eT g >>= λ_=>elem' b (j-1) >>= λy=>cX false y a 0 i (i-1) >>= λt=>match t with
  |some k=>if i-k>0 then
    if(k==0)=true then pure (.done (some (oh a b k j (o++(a.extract k i).reverse)),k,j,o++(a.extract k i).reverse,g,i-k,n))
    else uV a b k j (o++(a.extract k i).reverse) g (i-k) n
   else uV a b i j o g (i-k) n
  |_=>pure (.done (some (oh a b i j o),i,j,o,g,m,n))
def vD(a b:PA)(s:H0):SM (ForInStep H0):=
 forIn [0:a.size+b.size] ((none,s.2.1,s.2.2.1,s.2.2.2.1,0,0):H1) (λ_ t=>u9 a b s.2.2.2.2 t.2.1 t.2.2.1 t.2.2.2.1 t.2.2.2.2.1 t.2.2.2.2.2) >>= λt=>
 match t.1 with
 |some z=>pure (.done (some z,t.2.1,t.2.2.1,t.2.2.2.1,s.2.2.2.2))
 |none=>liftM (rule "list.sort.gallop") >>= λ_=>
  forIn [0:a.size+b.size] ((none,t.2.1,t.2.2.1,t.2.2.2.1,s.2.2.2.2+1,t.2.2.2.2.1,t.2.2.2.2.2):H2) (λ_ u=>
   if u.2.2.2.2.1>1 then ii a b u.2.1 u.2.2.1 u.2.2.2.1 (u.2.2.2.2.1-1) u.2.2.2.2.2.1 u.2.2.2.2.2.2 else ii a b u.2.1 u.2.2.1 u.2.2.2.1 u.2.2.2.2.1 u.2.2.2.2.2.1 u.2.2.2.2.2.2) >>= λu=>
  match u.1 with
  |some z=>pure (.done (some z,u.2.1,u.2.2.1,u.2.2.2.1,u.2.2.2.2.1))
  |none=>eT (u.2.2.2.2.1+1) >>= λ_=>pure (.yield (none,u.2.1,u.2.2.1,u.2.2.2.1,u.2.2.2.2.1+1))
def rZ(a b:PA):SM PA:=
 liftM (rule "list.sort.merge-hi") >>= λ_=>elem' a (a.size-1) >>= λx=>
 if(a.size-1==0)=true then pure (oh a b (a.size-1) b.size #[x]) else if(b.size==1)=true then pure (t7 a b (a.size-1) b.size #[x]) else
 get >>= λst=>forIn [0:a.size+b.size] ((none,a.size-1,b.size,#[x],gallopOf st):H0) (λ_ s=>vD a b s) >>= λs=>
 match s.1 with
 |some z=>pure z
 |none=>liftM (unsupported "internal:list.sort.merge-bound":Sem PA)
theorem k7(a b:PA):ky a b=rZ a b:=by
 refine aq rfl λ_=>aq rfl λy=>bS rfl (bS rfl (aq rfl λst=>aq (cN λ_ s=>?_) λs=>?_))
 ·refine aq (cN λ_ t=>?_) λt=>?_
  ·refine aq rfl λy=>aq rfl λx=>aq rfl λt=>?_
   rfl
  ·obtain⟨z,t⟩:=t
   cases z with
   |some z=>rfl
   |none=>
    refine aq rfl λ_=>aq (cN λ_ u=>bS ?_ ?_) λu=>?_
    ·rfl
    ·rfl
    ·obtain⟨z,u⟩:=u
     cases z<;>rfl
 ·obtain⟨z,s⟩:=s
  cases z<;>rfl
section
variable {prog:Aj}{w:Am}{A:Al}{E:Aa}{J:Shared->Prop}{a₀:Array Keyed}{kd:SortKind}{r:Keyed->Nat}{a b:PA}
abbrev ql(r:Keyed->Nat):Keyed->Keyed->Prop:=λp q=>r q<=r p
theorem cH{l:List Keyed}(h:l.Pairwise (cI r)):l.reverse.Pairwise (ql r):=List.pairwise_reverse.mpr h
theorem qr{α:Type}(a:Array α)(i:Nat):(a.extract 0 i).toList=a.toList.take i:=by
 rw[Array.toList_extract];simp[List.extract]
theorem me{α:Type}(a:Array α){k i:Nat}(h:k<=i):(a.extract k i).reverse.toList=((a.toList.take i).drop k).reverse:=by
 rw[Array.toList_reverse,Array.toList_extract];simp only[List.extract];rw[<- List.drop_take]
theorem cw(a:PA)(s:a.toList.Pairwise (cI r)){i:Nat}(h0:0<i)(h:i<=a.toList.length) :
  ∃x,a[i-1]?=some x/\(a.toList.take i).reverse=x::(a.toList.take (i-1)).reverse/\x∈a.toList/\∀q,q∈a.toList.take i->r q<=r x:=by
 have e:a.toList.take i=a.toList.take (i-1)++[a.toList[i-1]]:=by
  have:=List.take_succ_eq_append_getElem (l:=a.toList) (i:=i-1) ⋯
  rwa [show i-1+1=i by omega]at this
 refine⟨a.toList[i-1],?_,by rw[e,xI];rfl,w6 _,λq hq=>?_⟩
 ·rw[<- q0G,wQ ⋯]
 ·have b:=s.sublist (List.take_sublist i _)
  rw[e]at b hq;rcases xb.mp hq with hq | hq
  ·exact(List.pairwise_append.mp b).2.2 q hq _ (List.mem_singleton_self _)
  ·rw[wU.mp hq];exact xp _
structure MH(prog:Aj)(w:Am)(A:Al)(J:Shared->Prop)(a₀:PA)(kd:SortKind)(r:Keyed->Nat)(a b:PA):Prop where
 C:gC prog w A J a₀ kd r
 ha:∀p,p∈a.toList->p∈a₀.toList
 hb:∀p,p∈b.toList->p∈a₀.toList
 sa:a.toList.Pairwise (cI r)
 sb:b.toList.Pairwise (cI r)
 h0:∀y,b[0]?=some y->∀q,q∈a.toList->r y<=r q
abbrev jz(r:Keyed->Nat)(a b o:PA)(i j:Nat):Prop:=MI (ql r) a.toList.reverse b.toList.reverse o.toList (a.toList.take i).reverse (b.toList.take j).reverse
structure dF(r:Keyed->Nat)(a b o:PA)(i j:Nat):Prop where
 mi:jz r a b o i j
 hi:0<i
 hi':i<=a.toList.length
 hj:1<j
 hj':j<=b.toList.length
def PH(r:Keyed->Nat)(a b:PA)(k:Nat)(z:Option PA)(i j:Nat)(o:PA):Prop:=match z with
 |some z=>dm r a b z
 |none=>dF r a b o i j/\k<=o.size
theorem dF.lt(h:dF r a b o i j):o.size<a.size+b.size:=by
 have:=h.mi.len;have h1:=h.hi;have h2:=h.hj;have d:=h.hi';have c:=h.hj'
 simp at this d c;omega
theorem gc{z:PA}{l:List Keyed}(e:z.toList=l.reverse)(h:l.Pairwise (ql r)/\l.Perm (a.toList.reverse++b.toList.reverse)):dm r a b z:=by
 unfold dm;rw[e]
 exact⟨List.pairwise_reverse.mpr h.1,(List.reverse_perm _).trans (h.2.trans ((List.reverse_perm _).append (List.reverse_perm _)))⟩
theorem ux(m:MH prog w A J a₀ kd r a b){o:PA}{i j:Nat}(h:jz r a b o i j)(hj:i=0\/j=0):dm r a b (oh a b i j o):=by
 rcases hj with rfl | rfl
 ·have c:MI (ql r) a.toList.reverse b.toList.reverse o.toList [] (b.toList.take j).reverse:=h
  exact gc (by simp only[oh,q0V,qr,Array.toList_reverse,xI,xJ,List.take_zero,xQ]) (c.finY (cH m.sb))
 ·have c:MI (ql r) a.toList.reverse b.toList.reverse o.toList (a.toList.take i).reverse []:=h
  exact gc (by simp only[oh,q0V,qr,Array.toList_reverse,xI,xJ,List.take_zero,xC]) (c.finX (cH m.sa))
theorem u4(m:MH prog w A J a₀ kd r a b){o:PA}{i j:Nat}(h:jz r a b o i j)(hj:j=1)(hb:0<b.toList.length):dm r a b (t7 a b i j o):=by
 subst hj;obtain⟨y,k,g,e3,e4⟩:=cw b m.sb (i:=1) ⋯ ⋯;have c:(b.toList.take 1).reverse=[y]:=by rw[g];rfl
 have e:MI (ql r) a.toList.reverse b.toList.reverse o.toList (a.toList.take i).reverse [y]:=by rw[<- c];exact h
 have f:b.toList.take 1=[y]:=by have:=q0R List.reverse c;simpa using this
 refine gc (l:=o.toList++((a.toList.take i).reverse++[y])) ?_ ?_
 ·simp only[t7,q0V,qr,Array.toList_reverse,xI,xJ,f,List.reverse_singleton,xD]
 ·have:=e.swap.lastX (cH m.sa) λq d=>m.h0 y k q (q0H (List.mem_reverse.mp d))
  exact⟨this.1,this.2.trans List.perm_append_comm⟩
theorem uI(m:MH prog w A J a₀ kd r a b){st:SortSt}(hk:kindOf st=kd){o:PA}{i j g u v:Nat}(h:dF r a b o i j) :
  cg a⁻¹ A E J (u9 a b g i j o u v) (λt st'=>st'=st/\match t with
   | .done s=>PH r a b (o.size+1) s.1 s.2.1 s.2.2.1 s.2.2.2.1
   | .yield s=>s.1=none/\PH r a b (o.size+1) s.1 s.2.1 s.2.2.1 s.2.2.2.1) st:=by
 unfold u9;have h1:=h.hi;have h2:=h.hj;have n:=h.hi';have l:=h.hj'
 obtain⟨y,p,G,D,B⟩:=cw b m.sb (i:=j) ⋯ l;obtain⟨x,z,M,L,I⟩:=cw a m.sa (i:=i) ⋯ n;refine ad (bc p (ad (bc z (ad (pZ m.C (m.hb _ D) (m.ha _ L) hk ?_)))));dsimp only;have mi:MI (ql r) a.toList.reverse b.toList.reverse o.toList (a.toList.take i).reverse (b.toList.take j).reverse:=h.mi
 by_cases k:r y<r x
 ·rw[q07 (q09 k)]
  refine ad (bc z ?_);rw[M]at mi;have c:jz r a b (o.push x) (i-1) j:=by
   unfold jz;rw[Array.toList_push]
   exact mi.oneX (cH m.sa) λq f=>by have:=B q (List.mem_reverse.mp f);show r q<=r x;omega
  by_cases d:(i-1==0)=true
  ·rw[q07 d];exact af ⟨rfl,ux m c (.inl (eq_of_beq d))⟩
  ·rw[q06 d]
   have e:dF r a b (o.push x) (i-1) j:=⟨c,by have:=bu d;omega,⋯,h2,l⟩
   split
   ·exact af ⟨rfl,e,by simp⟩
   ·exact af ⟨rfl,rfl,e,by simp⟩
 ·rw[q06 (by simpa using k)]
  refine ad (bc p ?_);rw[G]at mi;have c:jz r a b (o.push y) i (j-1):=by
   unfold jz;rw[Array.toList_push]
   exact mi.oneY (cH m.sb) λq f=>by have:=I q (List.mem_reverse.mp f);show r q<=r y;omega
  by_cases d:(j-1==1)=true
  ·rw[q07 d];exact af ⟨rfl,u4 m c (eq_of_beq d) ⋯⟩
  ·rw[q06 d]
   have e:dF r a b (o.push y) i (j-1):=⟨c,h1,n,by have:=bu d;omega,⋯⟩
   split
   ·exact af ⟨rfl,e,by simp⟩
   ·exact af ⟨rfl,rfl,e,by simp⟩
theorem rQ(m:MH prog w A J a₀ kd r a b){st:SortSt}{o:PA}{i j g u v k:Nat}(h:dF r a b o i j)(hk:k<=o.size)(hx:∀x,a[i-1]?=some x->∀q,q∈b.toList.take j->r q<=r x) :
  cg a⁻¹ A E J (uU a b i j o g u v) (λt st'=>st'=st/\match t with
   | .done s=>PH r a b (k+1) s.1 s.2.1 s.2.2.1 s.2.2.2.1
   | .yield s=>s.1=none/\PH r a b (k+1) s.1 s.2.1 s.2.2.1 s.2.2.2.1) st:=by
 unfold uU;have h1:=h.hi;have h2:=h.hj;have p:=h.hi';have n:=h.hj'
 obtain⟨x,f,y,a3,a4⟩:=cw a m.sa (i:=i) ⋯ p;refine ad (bc f ?_);have mi:MI (ql r) a.toList.reverse b.toList.reverse o.toList (a.toList.take i).reverse (b.toList.take j).reverse:=h.mi;rw[y]at mi;have c:jz r a b (o.push x) (i-1) j:=by
  unfold jz;rw[Array.toList_push];exact mi.oneX (cH m.sa) λq l=>hx x f q (List.mem_reverse.mp l)
 by_cases d:(i-1==0)=true
 ·rw[q07 d];exact af ⟨rfl,ux m c (.inl (eq_of_beq d))⟩
 ·rw[q06 d]
  have e:dF r a b (o.push x) (i-1) j:=⟨c,by have:=bu d;omega,⋯,h2,n⟩
  split
  ·exact af ⟨rfl,e,by simp;omega⟩
  ·exact af ⟨rfl,rfl,e,by simp;omega⟩
theorem il(l:List Keyed){k i:Nat}(h:k<=i):(l.take i).reverse=((l.take i).drop k).reverse++(l.take k).reverse:=by
 rw[<- xI];have:=List.take_append_drop k (l.take i);rw[List.take_take,xU h]at this;rw[this]
theorem rX(m:MH prog w A J a₀ kd r a b){st:SortSt}(hk:kindOf st=kd){o:PA}{i j g u v k:Nat}(h:dF r a b o i j)(hz:k<=o.size)(hy:∀y,b[j-1]?=some y->∀q,q∈a.toList.take i->r q<=r y) :
  cg a⁻¹ A E J (uV a b i j o g u v) (λt st'=>st'=st/\match t with
   | .done s=>PH r a b (k+1) s.1 s.2.1 s.2.2.1 s.2.2.2.1
   | .yield s=>s.1=none/\PH r a b (k+1) s.1 s.2.1 s.2.2.1 s.2.2.2.1) st:=by
 unfold uV;have h1:=h.hi;have h2:=h.hj;have L:=h.hi';have Z:=h.hj'
 obtain⟨y,T,b2,b3,b4⟩:=cw b m.sb (i:=j) ⋯ Z;obtain⟨x,M,a2,a3,a4⟩:=cw a m.sa (i:=i) ⋯ L;refine ad (bc T ?_);have mi:MI (ql r) a.toList.reverse b.toList.reverse o.toList (a.toList.take i).reverse (b.toList.take j).reverse:=h.mi;rw[b2]at mi;have c:jz r a b (o.push y) i (j-1):=by
  unfold jz;rw[Array.toList_push];exact mi.oneY (cH m.sb) λq d=>hy y T q (List.mem_reverse.mp d)
 by_cases D:(j-1==1)=true
 ·rw[q07 D];exact af ⟨rfl,u4 m c (eq_of_beq D) ⋯⟩
 ·rw[q06 D]
  have hc':=bu D;refine ad (bc M (ad (hX m.C hk (m.ha _ a3) ⋯ ⋯ (by rw[xV];exact λp G=>m.hb p (q0H G)) (by rw[xV];exact m.sb.sublist (List.take_sublist _ _)) λe I S R=>?_)));rw[xV]at S R;dsimp only;have g1:∀p,p∈((b.toList.take (j-1)).drop e).reverse->∀q,q∈(a.toList.take i).reverse->r q<=r p:=λp G q d=>by
   have Y:r x<=r p:=eS (R p (List.mem_reverse.mp G));have:=a4 q (List.mem_reverse.mp d);omega
  have O:∀q,q∈b.toList.take e->r q<=r x:=λq d=>by
   have Y:r q<r x:=S q (by rw[List.take_take,xU I];exact d);omega
  by_cases z:j-1-e>0
  ·rw[q07 z]
   have n:jz r a b (o.push y++(b.extract e (j-1)).reverse) i e:=by
    unfold jz at c ⊢;rw[q0V,me b I];rw[il b.toList I]at c;exact c.takeY (cH m.sb) g1
   by_cases l:(e==1)=true
   ·rw[q07 l];exact af ⟨rfl,u4 m n (eq_of_beq l) ⋯⟩
   ·rw[q06 l]
    by_cases f:(e==0)=true
    ·rw[q07 f];exact af ⟨rfl,ux m n (.inr (eq_of_beq f))⟩
    ·rw[q06 f]
     exact rQ m ⟨n,h1,L,by have:=bu l;have:=bu f;omega,⋯⟩ (by simp;omega) λU B q d=>by rw[M]at B;cases B;exact O q d
  ·rw[q06 z]
   have e0:e=j-1:=by omega
   subst e0;exact rQ m ⟨c,h1,L,⋯,⋯⟩ (by simp;omega) λU B q d=>by rw[M]at B;cases B;exact O q d
theorem uJ(m:MH prog w A J a₀ kd r a b){st:SortSt}(hk:kindOf st=kd){o:PA}{i j g u v:Nat}(h:dF r a b o i j) :
  cg a⁻¹ A E J (ii a b i j o g u v) (λt st'=>SG st st'/\match t with
   | .done s=>PH r a b (o.size+1) s.1 s.2.1 s.2.2.1 s.2.2.2.1
   | .yield s=>s.1=none/\PH r a b (o.size+1) s.1 s.2.1 s.2.2.1 s.2.2.2.1) st:=by
 unfold ii;refine ad (fK λst' x=>?_);have d:kindOf st'=kd:=x.1.trans hk;have h1:=h.hi;have h2:=h.hj;have h3:=h.hi';have I:=h.hj'
 obtain⟨y,G,b2,Z,Y⟩:=cw b m.sb (i:=j) ⋯ I;refine ad (bc G (ad (hX m.C d (m.hb _ Z) ⋯ ⋯ (by rw[xV];exact λp B=>m.ha p (q0H B)) (by rw[xV];exact m.sa.sublist (List.take_sublist _ _)) λe D O M=>?_)));rw[xV]at O M;dsimp only;have T:∀p,p∈((a.toList.take i).drop e).reverse->∀q,q∈(b.toList.take j).reverse->r q<=r p:=λp B q c=>by
  have q1:r y<r p:=eS (M p (List.mem_reverse.mp B));have:=Y q (List.mem_reverse.mp c);omega
 have L:∀q,q∈a.toList.take e->r q<=r y:=λq c=>O q (by rw[List.take_take,xU D];exact c)
 by_cases l:i-e>0
 ·rw[q07 l]
  have f:jz r a b (o++(a.extract e i).reverse) e j:=by
   have mi:=h.mi;unfold jz at mi ⊢;rw[q0V,me a D];rw[il a.toList D]at mi;exact mi.takeX (cH m.sa) T
  by_cases z:(e==0)=true
  ·rw[q07 z];exact af ⟨x,ux m f (.inl (eq_of_beq z))⟩
  ·rw[q06 z]
   exact aK (rX (k:=o.size) m d ⟨f,by have:=bu z;omega,⋯,h2,I⟩ (by simp) λR n q c=>by rw[G]at n;cases n;exact L q c) λt S q=>⟨by rw[q.1];exact x,q.2⟩
 ·rw[q06 l]
  have U:e=i:=by omega
  subst U;exact aK (rX (k:=o.size) m d h (xp _) λR n q c=>by rw[G]at n;cases n;exact L q c) λt S q=>⟨by rw[q.1];exact x,q.2⟩
theorem uG(m:MH prog w A J a₀ kd r a b){st:SortSt}(hk:kindOf st=kd){s:H0}(h:dF r a b s.2.2.2.1 s.2.1 s.2.2.1) :
  cg a⁻¹ A E J (vD a b s) (λt st'=>SG st st'/\match t with
   | .done u=>∃z,u.1=some z/\dm r a b z
   | .yield u=>u.1=none/\dF r a b u.2.2.2.1 u.2.1 u.2.2.1/\s.2.2.2.1.size+1<=u.2.2.2.1.size) st:=by
 unfold vD;refine ad (aK (b5 (I:=λx c st'=>st'=st/\c.1=none/\dF r a b c.2.2.2.1 c.2.1 c.2.2.1/\s.2.2.2.1.size+x<=c.2.2.2.1.size)
  (Q:=λc st'=>st'=st/\PH r a b (s.2.2.2.1.size+1) c.1 c.2.1 c.2.2.1 c.2.2.2.1) ?s1 ?e1 ⟨rfl,rfl,h,xp _⟩) ?p1)
 case e1=>
  rintro c st' ⟨rfl,C,f,B⟩;have:=f.lt;omega
 case s1=>
  rintro x c st' _ B ⟨rfl,C,f,D⟩;refine aK (uI m hk f) λt d q=>?_;obtain⟨rfl,q⟩:=q;cases t with
  |done u=>
   refine⟨rfl,?_⟩;dsimp only at q
   revert q;unfold PH;cases u.1 with
   |some z=>exact id
   |none=>exact λq=>⟨q.1,by have:=q.2;omega⟩
  |yield u=>
   obtain⟨p,n⟩:=q;rw[p]at n;exact⟨rfl,p,n.1,by have:=n.2;omega⟩
 case p1=>
  rintro⟨z,i,j,o,u,v⟩ st' ⟨rfl,q⟩;cases z with
  |some z=>exact af ⟨SG.refl _,z,rfl,q⟩
  |none=>
   obtain⟨f,D⟩:=q;dsimp only;refine ad (dM λ_ G=>wpAny_rule ⟨G,?_⟩);refine ad (aK (b5 (I:=λx c d=>SG st' d/\c.1=none/\dF r a b c.2.2.2.1 c.2.1 c.2.2.1/\s.2.2.2.1.size+1<=c.2.2.2.1.size)
    (Q:=λc d=>SG st' d/\PH r a b (s.2.2.2.1.size+1) c.1 c.2.1 c.2.2.1 c.2.2.2.1) ?s2 ?e2 ⟨SG.refl _,rfl,f,D⟩) ?p2)
   case e2=>
    rintro c d ⟨l,C,f,B⟩;exact⟨l,by rw[C];exact⟨f,B⟩⟩
   case s2=>
    rintro x c d _ B ⟨l,C,f,D⟩;have y:∀g,cg a⁻¹ A E J (ii a b c.2.1 c.2.2.1 c.2.2.2.1 g c.2.2.2.2.2.1 c.2.2.2.2.2.2) (λt e=>match t with
      | .done c'=>SG st' e/\PH r a b (s.2.2.2.1.size+1) c'.1 c'.2.1 c'.2.2.1 c'.2.2.2.1
      | .yield c'=>SG st' e/\c'.1=none/\dF r a b c'.2.2.2.1 c'.2.1 c'.2.2.1/\s.2.2.2.1.size+1<=c'.2.2.2.1.size) d:=by
     intro g;refine aK (uJ m (l.1.trans hk) f) λt e q=>?_;obtain⟨k,q⟩:=q;cases t with
     |done u=>
      refine⟨l.trans k,?_⟩;dsimp only at q
      revert q;unfold PH;cases u.1 with
      |some z=>exact id
      |none=>exact λq=>⟨q.1,by have:=q.2;omega⟩
     |yield u=>
      obtain⟨p,n⟩:=q;rw[p]at n;exact⟨l.trans k,p,n.1,by have:=n.2;omega⟩
    split
    ·exact aK (y _) λt e q=>by cases t<;>exact q
    ·exact aK (y _) λt e q=>by cases t<;>exact q
   case p2=>
    rintro⟨z,i2,j2,o2,g2,u2,v2⟩ d ⟨l,q⟩;cases z with
    |some z=>exact af ⟨l,z,rfl,q⟩
    |none=>exact ad (fK λe k=>af ⟨l.trans k,rfl,q.1,q.2⟩)
theorem nQ(m:MH prog w A J a₀ kd r a b){st:SortSt}(hk:kindOf st=kd){Q:PA->SortSt->Prop}(hl:∀x,a[a.size-1]?=some x->∀q,q∈b.toList->r q<=r x)
  (na:0<a.toList.length) (nb:0<b.toList.length) (h:∀l st',SG st st'->dm r a b l->Q l st'):cg a⁻¹ A E J (ky a b) Q st:=by
 rw[k7];unfold rZ
 obtain⟨x,y,C,a3,a4⟩:=cw a m.sa (i:=a.toList.length) na (xp _);have B:a.toList.length=a.size:=by simp
 have v:b.toList.length=b.size:=by simp
 rw[B]at y C;refine ad (dM λs j=>wpAny_rule ⟨j,ad (bc y ?_)⟩);have n:jz r a b #[x] (a.size-1) b.size:=by
  have h1:=MI.start (le:=ql r) a.toList.reverse b.toList.reverse;have M:a.toList.reverse=x::(a.toList.take (a.size-1)).reverse:=by rw[<- C,<- B,xF]
  have h2:MI (ql r) a.toList.reverse b.toList.reverse [] (x::(a.toList.take (a.size-1)).reverse) b.toList.reverse:=by rw[<- M];exact h1
  have L:=h2.oneX (cH m.sa) λq G=>hl x y q (List.mem_reverse.mp G);unfold jz;rw[show b.toList.take b.size=b.toList by rw[<- v,xF]];exact L
 by_cases k:(a.size-1==0)=true
 ·rw[q07 k];exact af (h _ _ (SG.refl _) (ux m n (.inl (eq_of_beq k))))
 ·rw[q06 k]
  by_cases d:(b.size==1)=true
  ·rw[q07 d];exact af (h _ _ (SG.refl _) (u4 m n (eq_of_beq d) nb))
  ·rw[q06 d]
   refine ad (cQ ?_);refine ad (aK (b5 (I:=λx c st'=>SG st st'/\c.1=none/\dF r a b c.2.2.2.1 c.2.1 c.2.2.1/\x+1<=c.2.2.2.1.size)
    (Q:=λc st'=>SG st st'/\∃z,c.1=some z/\dm r a b z) ?s ?e ⟨SG.refl _,rfl,⟨n,by have:=bu k;show 0<a.size-1;omega,by show a.size-1<=_;omega,by have:=bu d;show 1<b.size;omega,by show b.size<=_;omega⟩,by simp⟩) ?p)
   case e=>
    rintro c st' ⟨_,O,o,D⟩;have:=o.lt;omega
   case s=>
    rintro x c st' _ D ⟨g,O,o,hz⟩;refine aK (uG m (g.1.trans hk) o) λt st2 q=>?_;obtain⟨f,q⟩:=q;cases t with
    |done u=>exact⟨g.trans f,q⟩
    |yield u=>exact⟨g.trans f,q.1,q.2.1,by have:=q.2.2;omega⟩
   case p=>
    rintro⟨z,u⟩ st' ⟨g,z',e,q⟩;dsimp only at e;subst e;exact af (h _ _ g q)
end
section
variable {prog:Aj}{w:Am}{A:Al}{E:Aa}{J:Shared->Prop}{a₀:Array Keyed}{kd:SortKind}{r:Keyed->Nat}
theorem mG(s:Nat):∀(l:List Keyed) (n:Nat) (arr:PA),s+n+l.length<=arr.toList.length ->
  ((l.zipIdx n).foldl (λa (x:Keyed×Nat)=>a.setIfInBounds (s+x.2) x.1) arr).toList=arr.toList.take (s+n)++l++arr.toList.drop (s+n+l.length)
 | [],n,arr,h=>by simp
 |p::l,n,arr,h=>by
  rw[List.zipIdx_cons,List.foldl_cons,mG s l (n+1) _ (by simp at h ⊢;omega),Array.toList_setIfInBounds];dsimp only;have hlt:s+n<arr.toList.length:=by simp at h ⊢;omega
  have c:(arr.toList.set (s+n) p).take (s+(n+1))=arr.toList.take (s+n)++[p]:=by
   rw[show s+(n+1)=(s+n)+1 by omega,List.take_succ_eq_append_getElem (by simpa using hlt),List.take_set_of_le (xp _),List.getElem_set_self]
  have b:(arr.toList.set (s+n) p).drop (s+(n+1)+l.length)=arr.toList.drop (s+n+(p::l).length):=by
   rw[List.drop_set_of_lt ⋯];congr 1;simp;omega
  rw[c,b];simp
structure SB(a₀:PA)(kd:SortKind)(st:SortSt):Prop where
 perm:(arrOf st).toList.Perm a₀.toList
 kind:kindOf st=kd
 failed:failedOf st=none
theorem iy{l u x v:List Keyed}(e:l=u++(x++v)):(l.drop u.length).take x.length=x:=by
 rw[e,List.drop_left,List.take_left]
theorem m4{st:SortSt}{Q:Bool->SortSt->Prop}(C:gC prog w A J a₀ kd r)(B:SB a₀ kd st){p1 p2:List (Nat×Nat×Nat)}{pw pw':Nat}{u x y v:List Keyed}
  (hp:(pendingOf st).toList=p1++(u.length,x.length,pw)::(u.length+x.length,y.length,pw')::p2) (ha:(arrOf st).toList=u++(x++(y++v)))
  (hx:x≠[]) (hy:y≠[]) (sx:x.Pairwise (cI r)) (sy:y.Pairwise (cI r))
  (h:∀st' z,SB a₀ kd st'->(pendingOf st').toList=p1++(u.length,x.length+y.length,pw)::p2->(arrOf st').toList=u++(z++v)->z.Perm (x++y)->z.Pairwise (cI r)->Q true st') :
  cg a⁻¹ A E J (mergeAt' p1.length) Q st:=by
 unfold mergeAt';refine ad (cQ ?_);have e1:(pendingOf st)[p1.length]?=some (u.length,x.length,pw):=by rw[<- q0G,hp];simp
 have e2:(pendingOf st)[p1.length+1]?=some (u.length+x.length,y.length,pw'):=by rw[<- q0G,hp];simp
 have hL:u.length+x.length+y.length<=(arrOf st).toList.length:=by rw[ha];simp;omega
 have j:∀p,p∈x++y->p∈a₀.toList:=λp c=>B.perm.mem_iff.mp (by
  rw[ha];rcases xb.mp c with q | q<;>simp[q])
 obtain⟨d,f,rfl⟩:∃d f,y=d::f:=by cases y with | nil=>exact q0Q rfl hy | cons p q=>exact⟨p,q,rfl⟩
 have ey:(arrOf st)[u.length+x.length]?=some d:=by rw[<- q0G,ha,xk ⋯,xk ⋯];simp
 have a1:0<x.length:=List.length_pos_iff.mpr hx;have ex:(arrOf st)[u.length+x.length-1]?=some (x[x.length-1]'⋯):=by
  rw[<- q0G,ha,xk ⋯,xm ⋯,wQ ⋯];congr 2;omega
 generalize L:(x[x.length-1]'⋯)=xl at ex;have a2:xl∈x:=by rw[<- L];exact w6 _
 have lst:∀p,p∈x->r p<=r xl:=λp c=>by
  obtain⟨t,ht,e⟩:=List.mem_iff_getElem.mp c;rw[<- e,<- L];rcases Nat.lt_or_ge t (x.length-1) with q | q
  ·exact(List.pairwise_iff_getElem.mp sx) _ _ _ _ q
  ·have:t=x.length-1:=by omega
   subst this;exact xp _
 have hd:∀q,q∈d::f->r d<=r q:=λq hq=>by
  rcases xf.mp hq with rfl | hq
  ·exact xp _
  ·exact(List.pairwise_cons.mp sy).1 q hq
 have D:((arrOf st).toList.drop u.length).take x.length=x:=iy ha;have o:((arrOf st).toList.drop (u.length+x.length)).take (d::f).length=d::f:=by
  have:=iy (l:=(arrOf st).toList) (u:=u++x) (x:=d::f) (v:=v) (by rw[ha];simp)
  rwa [xo]at this
 have i:(((pendingOf st).setIfInBounds p1.length (u.length,x.length+(d::f).length,pw)).eraseIdxIfInBounds (p1.length+1)).toList=p1++(u.length,x.length+(d::f).length,pw)::p2:=by
  rw[Array.toList_eraseIdxIfInBounds,Array.toList_setIfInBounds,hp];simp[List.eraseIdx_append_of_length_le]
 have m:∀st',SB a₀ kd st'->(pendingOf st').toList=p1++(u.length,x.length+(d::f).length,pw)::p2->arrOf st'=arrOf st->(∀p,p∈x->∀q,q∈d::f->r p<=r q)->Q true st':=λst' B' p' a' q=>
  h st' (x++(d::f)) B' p' (by rw[a',ha,xD]) (List.Perm.refl _) (List.pairwise_append.mpr ⟨sx,sy,q⟩)
 dsimp only;rw[e1,e2];dsimp only;refine ad (uf ?_);refine ad (bc ey (ad (hX C B.kind (j _ (by simp)) a1 (by show u.length+x.length<=(arrOf st).toList.length;omega) (by rw[D];exact λp q=>j p (q0D _ q)) (by rw[D];exact sx) λk hk f1 f2=>?_)));rw[D]at f1 f2;dsimp only;have g1:∀p,p∈x.take k->r p<=r d:=f1;have g2:∀p,p∈x.drop k->r d<r p:=λp c=>eS (f2 p c)
 by_cases Z:(x.length-k==0)=true
 ·rw[q07 Z]
  have:x.take k=x:=q0F (by have:=eq_of_beq Z;omega);rw[this]at g1;exact af (m _ ⟨B.perm,B.kind,B.failed⟩ i rfl λp c q hq=>xz (g1 p c) (hd q hq))
 ·rw[q06 Z]
  have hc':=bu Z;refine ad (bc (p:=xl) (by rw[show u.length+k+(x.length-k)-1=u.length+x.length-1 by omega];exact ex) (ad (hX C B.kind (j _ (q0D _ a2)) (by simp) (by simpa using hL) (by rw[o];exact λp q=>j p (q0C _ q)) (by rw[o];exact sy) λn hn f3 f4=>?_)));rw[o]at f3 f4;dsimp only;have g3:∀p,p∈(d::f).take n->r p<r xl:=f3;have g4:∀p,p∈(d::f).drop n->r xl<=r p:=λp c=>eS (f4 p c)
  by_cases G:(n==0)=true
  ·rw[q07 G]
   have e0:n=0:=eq_of_beq G;subst e0;exact af (m _ ⟨B.perm,B.kind,B.failed⟩ i rfl λp c q hq=>xz (lst p c) (g4 q hq))
  ·rw[q06 G]
   have hn0':=bu G;have R:((arrOf st).extract (u.length+k) (u.length+x.length)).toList=x.drop k:=by
    rw[show u.length+x.length=(u.length+k)+(x.length-k) by omega,fO,<- List.drop_drop,<- List.drop_take,D]
   have O:((arrOf st).extract (u.length+x.length) (u.length+x.length+n)).toList=(d::f).take n:=by
    rw[fO];have:=q0R (List.take n) o
    rwa [List.take_take,xU hn]at this
   generalize(arrOf st).extract (u.length+k) (u.length+x.length)=aa at R ⊢;generalize(arrOf st).extract (u.length+x.length) (u.length+x.length+n)=bb at O ⊢;have la:aa.toList.length=x.length-k:=by rw[R,xH]
   have lb:bb.toList.length=n:=by rw[O,xG];omega
   have h0:∀y,bb[0]?=some y->∀q,q∈aa.toList->r y<=r q:=λy e q hq=>by
    rw[<- q0G,O]at e;have:y=d:=by
     rw[List.getElem?_take,q07 ⋯]at e;exact(q0S e).symm
    subst this;rw[R]at hq;exact q0P (g2 q hq)
   have hl:∀z,aa[aa.toList.length-1]?=some z->∀q,q∈bb.toList->r q<=r z:=λz e q hq=>by
    rw[<- q0G,la,R,List.getElem?_drop,show k+(x.length-k-1)=x.length-1 by omega,wQ ⋯,L]at e;cases e;rw[O]at hq;exact q0P (g3 q hq)
   have Y:∀p,p∈aa.toList->p∈a₀.toList:=λp c=>j p (q0D _ (q0I (by rw[<- R];exact c)));have U:∀p,p∈bb.toList->p∈a₀.toList:=λp c=>j p (q0C _ (q0H (by rw[<- O];exact c)));have T:aa.toList.Pairwise (cI r):=by rw[R];exact sx.sublist (List.drop_sublist _ _)
   have S:bb.toList.Pairwise (cI r):=by rw[O];exact sy.sublist (List.take_sublist _ _)
   have fin:∀(l:PA) (st':SortSt),kindOf st'=kd->arrOf st'=arrOf st->(pendingOf st').toList=p1++(u.length,x.length+(d::f).length,pw)::p2->failedOf st'=none->dm r aa bb l ->
     Q true (setArr st' (l.toList.zipIdx.foldl (λa (x:Keyed×Nat)=>a.setIfInBounds (u.length+k+x.2) x.1) (arrOf st'))):=by
    intro l st' k' a' p' M kx;have g:=kx.2;rw[R,O]at g;have ll:=g.length_eq;rw[xo,xH,xG,xU hn]at ll;have ez:(l.toList.zipIdx.foldl (λa (x:Keyed×Nat)=>a.setIfInBounds (u.length+k+x.2) x.1) (arrOf st')).toList=u++((x.take k++l.toList++(d::f).drop n)++v):=by
     rw[mG (u.length+k) l.toList 0 _ (by rw[a'];omega),a',ha,ll];rw[show u.length+k+0=u.length+k by omega,List.take_length_add_append,List.take_append_of_le_length hk,
      show u.length+k+(x.length-k+n)=u.length+(x.length+n) by omega,List.drop_length_add_append,List.drop_length_add_append,List.drop_append_of_le_length hn]
     simp only[xD]
    have zp:(x.take k++l.toList++(d::f).drop n).Perm (x++(d::f)):=by
     refine((g.append_left (x.take k)).append_right _).trans ?_;rw[<- xD,List.take_append_drop,xD,List.take_append_drop]
    refine h _ (x.take k++l.toList++(d::f).drop n) ⟨?_,k',M⟩ p' ez zp ?_
    ·have pz:(u++((x.take k++l.toList++(d::f).drop n)++v)).Perm a₀.toList:=by
      refine List.Perm.trans ?_ (show((arrOf st).toList).Perm _ from B.perm);rw[ha];refine List.Perm.append_left u ?_;rw[<- xD x];exact zp.append_right v
     rw[<- ez]at pz;exact pz
    ·have ml:∀p,p∈l.toList->p∈x.drop k\/p∈(d::f).take n:=λp c=>xb.mp (g.mem_iff.mp c)
     refine List.pairwise_append.mpr ⟨List.pairwise_append.mpr ⟨sx.sublist (List.take_sublist _ _),kx.1,λp c q hq=>?_⟩,sy.sublist (List.drop_sublist _ _),λp c q hq=>?_⟩
     ·rcases ml q hq with q1 | q1
      ·exact xz (g1 p c) (q0P (g2 q q1))
      ·exact xz (g1 p c) (hd q (q0H q1))
     ·rcases xb.mp c with q1 | q1
      ·exact xz (lst p (q0H q1)) (g4 q hq)
      ·rcases ml p q1 with q2 | q2
       ·exact xz (lst p (q0I q2)) (g4 q hq)
       ·exact xz (q0P (g3 p q2)) (g4 q hq)
   split
   ·refine ad (nH (a:=aa) (b:=bb) ⟨C,Y,U,T,S,hl⟩ (by exact B.kind) h0 ⋯ ⋯ λl st' I kx=>?_)
    refine ad (bB (ad (cQ (af ?_))));have M:failedOf st'=none:=I.2.2.2.trans B.failed;have:=fin l st' (I.1.trans B.kind) I.2.1 (by rw[I.2.2.1];exact i) M kx;show Q (failedOf st').isNone _;rw[M];exact this
   ·refine ad (nQ (a:=aa) (b:=bb) ⟨C,Y,U,T,S,h0⟩ (by exact B.kind) (by simpa using hl) ⋯ ⋯ λl st' I kx=>?_)
    refine ad (bB (ad (cQ (af ?_))));have M:failedOf st'=none:=I.2.2.2.trans B.failed;have:=fin l st' (I.1.trans B.kind) I.2.1 (by rw[I.2.2.1];exact i) M kx;show Q (failedOf st').isNone _;rw[M];exact this
end
abbrev As:=Option (Option Nat)×Nat
abbrev Ds:=Option (Option Nat)×Nat×Nat
def t5(lo a n:Nat):SM As:=forIn [a:n] ((none,a):As) λ_ s=>ltAt' (lo+s.2) (lo+s.2-1) >>= λt=>match t with
 |some t=>if t=true then pure (.done (none,s.2)) else pure (.yield (none,s.2+1))
 |_=>pure (.done (some none,s.2))
def rP(lo m n:Nat):SM (Option Nat):=reverseSlice' lo (lo+m) >>= λ_=>t5 lo m n >>= λs=>match s.1 with
 |some z=>pure z
 |none=>pure (some s.2)
def uZ(lo m n:Nat):SM Ds:=forIn [m:n] ((none,m,0):Ds) λ_ s=>ltAt' (lo+s.2.1) (lo+s.2.1-1) >>= λt=>match t with
 |some t=>if t=true then
   if s.2.2>0 then reverseSlice' (lo+s.2.1-(s.2.2+1)) (lo+s.2.1) >>= λ_=>pure (.yield (none,s.2.1+1,0)) else pure (.yield (none,s.2.1+1,0))
  else ltAt' (lo+s.2.1-1) (lo+s.2.1) >>= λt=>match t with
   |some t=>if t=true then pure (.done (none,s.2.1,s.2.2)) else pure (.yield (none,s.2.1+1,s.2.2+1))
   |_=>pure (.done (some none,s.2.1,s.2.2))
 |_=>pure (.done (some none,s.2.1,s.2.2))
def t6(lo m n:Nat):SM (Option Nat):=liftM (rule "list.sort.descending-run") >>= λ_=>uZ lo (m+1) n >>= λs=>match s.1 with
 |some z=>pure z
 |none=>if s.2.2>0 then reverseSlice' (lo+s.2.1-(s.2.2+1)) (lo+s.2.1) >>= λ_=>rP lo s.2.1 n else rP lo s.2.1 n
def qv(lo n:Nat):SM (Option Nat):=t5 lo 1 n >>= λs=>match s.1 with
 |some z=>pure z
 |none=>if(s.2==n)=true then pure (some s.2) else if s.2>1 then ltAt' lo (lo+s.2-1) >>= λt=>match t with
   |some t=>if t=true then pure (some s.2) else reverseSlice' lo (lo+s.2) >>= λ_=>t6 lo s.2 n
   |_=>pure none
  else t6 lo s.2 n
theorem eN{β:Type}{rg:Std.Legacy.Range}{c:β}{f g:Nat->β->SM (ForInStep β)}(h:∀x s,f x s=g x s):(forIn rg c f:SM β)=forIn rg c g:=by
 rw[show f=g from funext λx=>funext λs=>h x s]
theorem iY(lo m n:Nat){f:As->SM (Option Nat)}(h:∀s,f s=match s.1 with | some z=>pure z | none=>pure (some s.2)){F:Nat->As->SM (ForInStep As)}
  (hF:∀x s,F x s=(ltAt' (lo+s.2) (lo+s.2-1) >>= λt=>match t with
   |some t=>if t=true then pure (.done (none,s.2)) else pure (.yield (none,s.2+1))
   |_=>pure (.done (some none,s.2)))):(reverseSlice' lo (lo+m) >>= λ_=>(forIn [m:n] ((none,m):As) F:SM As) >>= f)=rP lo m n:=by
 unfold rP t5;exact aq rfl λ_=>aq (eN hF) h
theorem kC(lo n:Nat):countRun' lo n=qv lo n:=by
 have a:∀(m:Nat) {G:Ds->SM (Option Nat)} {F:Nat->Ds->SM (ForInStep Ds)},
   (∀s:Ds,G s=match s.1 with
    |some z=>pure z
    |none=>if s.2.2>0 then reverseSlice' (lo+s.2.1-(s.2.2+1)) (lo+s.2.1) >>= λ_=>rP lo s.2.1 n else rP lo s.2.1 n) ->
   (∀x s,F x s=(ltAt' (lo+s.2.1) (lo+s.2.1-1) >>= λt=>match t with
    |some t=>if t=true then
      if s.2.2>0 then reverseSlice' (lo+s.2.1-(s.2.2+1)) (lo+s.2.1) >>= λ_=>pure (.yield (none,s.2.1+1,0)) else pure (.yield (none,s.2.1+1,0))
     else ltAt' (lo+s.2.1-1) (lo+s.2.1) >>= λt=>match t with
      |some t=>if t=true then pure (.done (none,s.2.1,s.2.2)) else pure (.yield (none,s.2.1+1,s.2.2+1))
      |_=>pure (.done (some none,s.2.1,s.2.2))
    |_=>pure (.done (some none,s.2.1,s.2.2)))) ->
   ((liftM (rule "list.sort.descending-run"):SM Unit) >>= λ_=>(forIn [m+1:n] ((none,m+1,0):Ds) F:SM Ds) >>= G)=t6 lo m n:=by
  intro m G F b c;unfold t6 uZ;exact aq rfl λ_=>aq (eN c) b
 unfold qv t5;refine aq (eN λx s=>rfl) λs=>?_;obtain⟨z,m⟩:=s;cases z with
 |some z=>rfl
 |none=>
  refine bS rfl (bS (aq rfl λt=>?_) ?_)
  ·cases t with
   |none=>rfl
   |some t=>
    refine bS rfl (aq rfl λ_=>a m (λs=>?_) λx s=>rfl);obtain⟨z,m,q⟩:=s;cases z with
    |some z=>rfl
    |none=>exact bS (aq rfl λ_=>iY lo m n (λs=>by obtain⟨z,m⟩:=s;cases z<;>rfl) λx s=>rfl) (iY lo m n (λs=>by obtain⟨z,m⟩:=s;cases z<;>rfl) λx s=>rfl)
  ·refine a m (λs=>?_) λx s=>rfl
   obtain⟨z,m,q⟩:=s;cases z with
   |some z=>rfl
   |none=>exact bS (aq rfl λ_=>iY lo m n (λs=>by obtain⟨z,m⟩:=s;cases z<;>rfl) λx s=>rfl) (iY lo m n (λs=>by obtain⟨z,m⟩:=s;cases z<;>rfl) λx s=>rfl)
section
variable {prog:Aj}{w:Am}{A:Al}{E:Aa}{J:Shared->Prop}{a₀:Array Keyed}{kd:SortKind}{r:Keyed->Nat}
def Kr(r:Keyed->Nat)(xs:PA)(i:Nat):Nat:=match xs[i]? with
 |some p=>r p
 |none=>0
theorem kE{xs ys:PA}{i j:Nat}(h:xs[i]?=ys[j]?):Kr r xs i=Kr r ys j:=by unfold Kr;rw[h]
def Up(r:Keyed->Nat)(xs:PA)(lo n:Nat):Prop:=∀i j,i<=j->j<n->Kr r xs (lo+i)<=Kr r xs (lo+j)
def Dn(r:Keyed->Nat)(xs:PA)(lo n:Nat):Prop:=∀i j,i<=j->j<n->Kr r xs (lo+j)<=Kr r xs (lo+i)
structure KB(a₀:PA)(kd:SortKind)(lo:Nat)(st₀ st:SortSt):Prop where
 sb:SB a₀ kd st
 pe:pendingOf st=pendingOf st₀
 be:∀i,i<lo->(arrOf st)[i]?=(arrOf st₀)[i]?
theorem SB.size{st:SortSt}(h:SB a₀ kd st):(arrOf st).size=a₀.size:=by simpa using h.perm.length_eq
theorem KB.set{lo:Nat}{st₀ st:SortSt}(h:KB a₀ kd lo st₀ st){xs:PA}(hp:xs.Perm (arrOf st))(hb:∀i,i<lo->xs[i]?=(arrOf st)[i]?):KB a₀ kd lo st₀ (setArr st xs):=
 ⟨⟨(Array.perm_iff_toList_perm.mp hp).trans h.sb.perm,h.sb.kind,h.sb.failed⟩,h.pe,λi hi=>(hb i hi).trans (h.be i hi)⟩
theorem j4(C:gC prog w A J a₀ kd r){st:SortSt}(B:SB a₀ kd st){i j:Nat}(hi:i<a₀.size)(hj:j<a₀.size){Q:Option Bool->SortSt->Prop}
  (h:Q (some (decide (Kr r (arrOf st) i<Kr r (arrOf st) j))) st):cg a⁻¹ A E J (ltAt' i j) Q st:=by
 have a:∀k,k<a₀.size->∃p,(arrOf st)[k]?=some p/\p∈a₀.toList:=λk f=>by
  have b:k<(arrOf st).size:=by rw[B.size];exact f
  exact⟨(arrOf st)[k],getElem?_pos _ k b,B.perm.mem_iff.mp (by simp)⟩
 obtain⟨p,d,m1⟩:=a i hi;obtain⟨q,c,e⟩:=a j hj;rw[ltAt'_eq];refine ad (cQ (ad (bc d (ad (bc c (pZ C m1 e B.kind ?_))))));unfold Kr at h;rw[d,c]at h;exact h
theorem eQ{xs:PA}{j:Nat}(hj:j<=xs.size)(k:Nat):Kr r (mirror xs i j ((j-i)/2)) k=if i<=k/\k<j then Kr r xs (i+j-1-k) else Kr r xs k:=by
 have e:=getElem?_mirror_all (i:=i) hj k
 by_cases h1:i<=k/\k<j
 ·rw[q07 h1]at e ⊢;exact kE e
 ·rw[q06 h1]at e ⊢;exact kE e
theorem bD{xs:PA}{i j:Nat}(hj:j<=xs.size)(heq:∀k,i<=k->k<j->Kr r xs k=Kr r xs (j-1))(k:Nat):Kr r (mirror xs i j ((j-i)/2)) k=Kr r xs k:=by
 rw[eQ hj]
 split
 ·rw[heq _ ⋯ ⋯,heq k ⋯ ⋯]
 ·rfl
theorem mD{lo i j:Nat}{st₀ st:SortSt}(B:KB a₀ kd lo st₀ st)(hi:lo<=i)(hj:j<=a₀.size){Q:Unit->SortSt->Prop}
  (h:KB a₀ kd lo st₀ (setArr st (mirror (arrOf st) i j ((j-i)/2)))->Q () (setArr st (mirror (arrOf st) i j ((j-i)/2)))):cg a⁻¹ A E J (reverseSlice' i j) Q st:=by
 rw[reverseSlice'_eq];refine bB (h (B.set (mirror_perm _ _ _ _) λk hk=>?_));rw[getElem?_mirror_all (by rw[B.sb.size];exact hj),q06 ⋯]
theorem r9(C:gC prog w A J a₀ kd r){st:SortSt}(B:SB a₀ kd st){lo a n:Nat}{Q:As->SortSt->Prop}(hn:lo+n<=a₀.size)(ha:1<=a)(han:a<=n)(hs:Up r (arrOf st) lo a)
  (h:∀m,a<=m->m<=n->Up r (arrOf st) lo m->(m=n\/Kr r (arrOf st) (lo+m)<Kr r (arrOf st) (lo+m-1))->Q (none,m) st):cg a⁻¹ A E J (t5 lo a n) Q st:=by
 unfold t5;refine b5 (I:=λx c d=>d=st/\c=(none,x)/\Up r (arrOf st) lo x) ?s ?e ⟨rfl,rfl,hs⟩
 case e=>
  rintro c d ⟨rfl,rfl,b⟩;rw[show max a n=n by omega]at b ⊢;exact h n han (xp _) b (.inl rfl)
 case s=>
  rintro x c d p hxn ⟨rfl,rfl,b⟩;dsimp only;refine ad (j4 C B ⋯ ⋯ ?_)
  by_cases f:Kr r (arrOf d) (lo+x)<Kr r (arrOf d) (lo+x-1)
  ·simp only[f,decide_true,if_true]
   exact af (h x p ⋯ b (.inr f))
  ·simp only[f,decide_false,q0Z,if_false]
   refine af ⟨rfl,rfl,λi j l hj=>?_⟩
   by_cases g:j<x
   ·exact b i j l g
   ·have k:j=x:=by omega
    subst k
    by_cases o:i=j
    ·subst o;exact xp _
    ·have:=b i (j-1) ⋯ ⋯
     rw[show lo+(j-1)=lo+j-1 by omega]at this;omega
theorem rS(C:gC prog w A J a₀ kd r){st₀ st:SortSt}{lo m n:Nat}(B:KB a₀ kd lo st₀ st){Q:Option Nat->SortSt->Prop}(hn:lo+n<=a₀.size)(h1:1<=m)(hm:m<=n)(hs:Dn r (arrOf st) lo m)
  (h:∀k st',KB a₀ kd lo st₀ st'->1<=k->k<=n->Up r (arrOf st') lo k->Q (some k) st'):cg a⁻¹ A E J (rP lo m n) Q st:=by
 unfold rP;have a:lo+m<=(arrOf st).size:=by rw[B.sb.size];omega
 refine ad (mD B (xp _) ⋯ λb=>?_);refine ad (r9 C b.sb hn h1 hm (λi j hij hj=>?_) λk k1 d c _=>af (h k _ b ⋯ d c));show Kr r (mirror (arrOf st) lo (lo+m) ((lo+m-lo)/2)) (lo+i)<=Kr r (mirror (arrOf st) lo (lo+m) ((lo+m-lo)/2)) (lo+j);rw[eQ a,eQ a,q07 ⋯,q07 ⋯];have:=hs (m-1-j) (m-1-i) ⋯ ⋯;rw[show lo+(lo+m)-1-(lo+i)=lo+(m-1-i) by omega,show lo+(lo+m)-1-(lo+j)=lo+(m-1-j) by omega];exact this
theorem uA(C:gC prog w A J a₀ kd r){st₀ st:SortSt}{lo m n:Nat}(B:KB a₀ kd lo st₀ st){Q:Ds->SortSt->Prop}(hn:lo+n<=a₀.size)(h1:1<=m)(hm:m<=n)(hs:Dn r (arrOf st) lo m)
  (h:∀k q st',KB a₀ kd lo st₀ st'->m<=k->k<=n->Dn r (arrOf st') lo k->q+1<=k->(∀i,k-(q+1)<=i->i<k->Kr r (arrOf st') (lo+i)=Kr r (arrOf st') (lo+k-1))->Q (none,k,q) st') :
  cg a⁻¹ A E J (uZ lo m n) Q st:=by
 unfold uZ;refine b5 (I:=λx c st'=>∃q,c=(none,x,q)/\KB a₀ kd lo st₀ st'/\Dn r (arrOf st') lo x/\q+1<=x/\(∀i,x-(q+1)<=i->i<x->Kr r (arrOf st') (lo+i)=Kr r (arrOf st') (lo+x-1))) ?s ?e
  ⟨0,rfl,B,hs,⋯,λi h1 h2=>by congr 1;omega⟩
 case e=>
  rintro c st' ⟨q,rfl,d,a,l,f⟩;rw[show max m n=n by omega]at a l f ⊢;exact h n q st' d hm (xp _) a l f
 case s=>
  rintro x c st' G hxn ⟨q,rfl,d,a,l,f⟩;dsimp only;have O:lo+x<=(arrOf st').size:=by rw[d.sb.size];omega
  have D:∀k,lo+x-(q+1)<=k->k<lo+x->Kr r (arrOf st') k=Kr r (arrOf st') (lo+x-1):=λk k1 k2=>by
   have:=f (k-lo) ⋯ ⋯
   rwa [show lo+(k-lo)=k by omega]at this
  have b:∀{p:PA},(∀k,Kr r p k=Kr r (arrOf st') k)->Kr r (arrOf st') (lo+x)<=Kr r (arrOf st') (lo+x-1)->Dn r p lo (x+1):=by
   intro p L hle i j y hj;rw[L,L]
   by_cases t:j<x
   ·exact a i j y t
   ·have u:j=x:=by omega
    subst u
    by_cases z:i=j
    ·subst z;exact xp _
    ·have:=a i (j-1) ⋯ ⋯
     rw[show lo+(j-1)=lo+j-1 by omega]at this;omega
  refine ad (j4 C d.sb ⋯ ⋯ ?_)
  by_cases o:Kr r (arrOf st') (lo+x)<Kr r (arrOf st') (lo+x-1)
  ·simp only[o,decide_true,if_true]
   by_cases g:q>0
   ·rw[q07 g]
    refine ad (mD d ⋯ ⋯ λS=>af ⟨0,rfl,S,b (bD O D) (q0P o),⋯,λi h1 h2=>by congr 1;omega⟩)
   ·rw[q06 g]
    exact af ⟨0,rfl,d,b (λ_=>rfl) (q0P o),⋯,λi h1 h2=>by congr 1;omega⟩
  ·simp only[o,decide_false,q0Z,if_false]
   refine ad (j4 C d.sb ⋯ ⋯ ?_)
   by_cases M:Kr r (arrOf st') (lo+x-1)<Kr r (arrOf st') (lo+x)
   ·simp only[M,decide_true,if_true]
    exact af (h x q st' d G ⋯ a l f)
   ·simp only[M,decide_false,q0Z,if_false]
    have R:Kr r (arrOf st') (lo+x)=Kr r (arrOf st') (lo+x-1):=by omega
    refine af ⟨q+1,rfl,d,b (λ_=>rfl) ⋯,⋯,λi h1 h2=>?_⟩;rw[show lo+(x+1)-1=lo+x by omega]
    by_cases v:i=x
    ·subst v;rfl
    ·rw[R];exact f i ⋯ ⋯
theorem rY(C:gC prog w A J a₀ kd r){st₀ st:SortSt}{lo m n:Nat}(B:KB a₀ kd lo st₀ st){Q:Option Nat->SortSt->Prop}(hn:lo+n<=a₀.size)(hm:m+1<=n)(hs:Dn r (arrOf st) lo (m+1))
  (h:∀k st',KB a₀ kd lo st₀ st'->1<=k->k<=n->Up r (arrOf st') lo k->Q (some k) st'):cg a⁻¹ A E J (t6 lo m n) Q st:=by
 unfold t6;refine ad (dM λs j=>wpAny_rule ⟨j,?_⟩);refine ad (uA C B hn ⋯ hm hs λk q st' f l d a hq p=>?_);dsimp only;have g:lo+k<=(arrOf st').size:=by rw[f.sb.size];omega
 by_cases b:q>0
 ·rw[q07 b]
  refine ad (mD f ⋯ ⋯ λu=>rS C u hn ⋯ d (λi j e o=>?_) h);have c:∀t,lo+k-(q+1)<=t->t<lo+k->Kr r (arrOf st') t=Kr r (arrOf st') (lo+k-1):=λt l d=>by
   have:=p (t-lo) ⋯ ⋯
   rwa [show lo+(t-lo)=t by omega]at this
  show Kr r (mirror (arrOf st') _ _ _) _<=Kr r (mirror (arrOf st') _ _ _) _;rw[bD g c,bD g c];exact a i j e o
 ·rw[q06 b]
  exact rS C f hn ⋯ d a h
theorem lg(C:gC prog w A J a₀ kd r){st:SortSt}{lo n:Nat}(B:SB a₀ kd st){Q:Option Nat->SortSt->Prop}(hn:lo+n<=a₀.size)(h1:1<=n)
  (h:∀k st',KB a₀ kd lo st st'->1<=k->k<=n->Up r (arrOf st') lo k->Q (some k) st'):cg a⁻¹ A E J (countRun' lo n) Q st:=by
 rw[kC];unfold qv
 have e:KB a₀ kd lo st st:=⟨B,rfl,λ_ _=>rfl⟩;refine ad (r9 C B hn (xp 1) h1 (λi j c u=>by
  have:i=j:=by omega
  subst this;exact xp _) λm m1 q d f=>?_)
 dsimp only
 by_cases p:m=n
 ·rw[q07 (by rw[p];exact beq_self_eq_true n)]
  exact af (h m st e m1 q d)
 ·rw[q06 (by simpa using p)]
  have b:=f.resolve_left p
  by_cases v:m>1
  ·rw[q07 v]
   refine ad (j4 C B ⋯ ⋯ ?_)
   by_cases hr:Kr r (arrOf st) lo<Kr r (arrOf st) (lo+m-1)
   ·simp only[hr,decide_true,if_true]
    exact af (h m st e m1 q d)
   ·simp only[hr,decide_false,q0Z,if_false]
    have t:lo+m<=(arrOf st).size:=by rw[B.size];omega
    have all:∀k,lo<=k->k<lo+m->Kr r (arrOf st) k=Kr r (arrOf st) (lo+m-1):=λk k1 k2=>by
     have y:=d 0 (k-lo) ⋯ ⋯;have x:=d (k-lo) (m-1) ⋯ ⋯;rw[show lo+(k-lo)=k by omega]at y x;rw[show lo+(m-1)=lo+m-1 by omega]at x;rw[show lo+0=lo by omega]at y;omega
    refine ad (mD e (xp _) ⋯ λD=>rY C D hn ⋯ (λi j c u=>?_) h);show Kr r (mirror (arrOf st) _ _ _) _<=Kr r (mirror (arrOf st) _ _ _) _;rw[bD t all,bD t all]
    by_cases hjn:j<m
    ·rw[all (lo+i) ⋯ ⋯,all (lo+j) ⋯ ⋯];exact xp _
    ·have l:j=m:=by omega
     subst l
     by_cases a:i=j
     ·subst a;exact xp _
     ·rw[all (lo+i) ⋯ ⋯];exact q0P b
  ·rw[q06 v]
   have z:m=1:=by omega
   subst z;refine rY C e hn ⋯ (λi j c u=>?_) h
   by_cases a:i=j
   ·subst a;exact xp _
   ·have o:i=0:=by omega
    have g:j=1:=by omega
    subst o;subst g
    exact q0P b
theorem iq{xs:PA}{src d:Nat}(hs:src<xs.size)(hd:d<=src)(k:Nat) :
  Kr r (bubble xs src d) k=if k=src-d then Kr r xs src else if src-d<k/\k<=src then Kr r xs (k-1) else Kr r xs k:=by
 have e:=getElem?_bubble hs d hd k
 by_cases h1:k=src-d
 ·rw[q07 h1]at e ⊢;exact kE e
 ·rw[q06 h1]at e ⊢
  by_cases h2:src-d<k/\k<=src
  ·rw[q07 h2]at e ⊢;exact kE e
  ·rw[q06 h2]at e ⊢;exact kE e
theorem uv(C:gC prog w A J a₀ kd r){st₀ st:SortSt}{lo n ok:Nat}(B:KB a₀ kd lo st₀ st){Q:Bool->SortSt->Prop}(hn:lo+n<=a₀.size)(hok:ok<=n)(hs:Up r (arrOf st) lo ok)
  (h:∀st',KB a₀ kd lo st₀ st'->Up r (arrOf st') lo n->Q true st'):cg a⁻¹ A E J (binarySort' lo n ok) Q st:=by
 rw[binarySort'_eq];refine ad (aK (b5 (I:=λk c st'=>c=(none,())/\KB a₀ kd lo st₀ st'/\Up r (arrOf st') lo (min k n)) (Q:=λc st'=>c=(none,())/\KB a₀ kd lo st₀ st'/\Up r (arrOf st') lo n) ?s ?e ?i) ?p)
 case p=>
  rintro c st' ⟨rfl,d,b⟩;exact af (h st' d b)
 case i=>
  refine⟨rfl,B,λi j m z=>?_⟩
  by_cases h1:ok=0
  ·have:i=j:=by omega
   subst this;exact xp _
  ·exact hs i j m ⋯
 case e=>
  rintro c st' ⟨G,d,b⟩;refine⟨G,d,?_⟩
  rwa [show min (max (max ok 1) n) n=n by omega]at b
 case s=>
  rintro k c st' hak hkn ⟨rfl,d,b⟩;rw[show min k n=k by omega]at b;refine ad (aK (b5 (I:=λx c a=>a=st'/\∃l u,c=(none,l,u)/\l<=u/\u<=k/\u-l<=k-x /\
    (∀i,i<l->Kr r (arrOf st') (lo+i)<=Kr r (arrOf st') (lo+k))/\(∀i,u<=i->i<k->Kr r (arrOf st') (lo+k)<Kr r (arrOf st') (lo+i)))
   (Q:=λc a=>a=st'/\∃l u,c=(none,l,u)/\l<=k /\
    (∀i,i<l->Kr r (arrOf st') (lo+i)<=Kr r (arrOf st') (lo+k))/\(∀i,l<=i->i<k->Kr r (arrOf st') (lo+k)<Kr r (arrOf st') (lo+i))) ?s2 ?e2 ?i2) ?p2)
  case i2=>exact⟨rfl,0,k,rfl,⋯,⋯,⋯,λi D=>by omega,λi h1 h2=>by omega⟩
  case e2=>
   rintro c a ⟨rfl,l,u,rfl,h1,h2,L,g,f⟩;have:l=u:=by omega
   subst this;exact⟨rfl,l,l,rfl,h2,g,f⟩
  case s2=>
   rintro x c a _ hxk ⟨rfl,l,u,rfl,h1,h2,L,g,f⟩;dsimp only
   by_cases v:l≥u
   ·rw[q07 v]
    have:l=u:=by omega
    subst this;exact af ⟨rfl,l,l,rfl,h2,g,f⟩
   ·rw[q06 v]
    refine ad (j4 C d.sb ⋯ ⋯ ?_)
    by_cases o:Kr r (arrOf a) (lo+k)<Kr r (arrOf a) (lo+(l+u)/2)
    ·simp only[o,decide_true,if_true]
     exact af ⟨rfl,l,(l+u)/2,rfl,⋯,⋯,⋯,g,λi t y=>xi o (b _ _ t y)⟩
    ·simp only[o,decide_false,q0Z,if_false]
     exact af ⟨rfl,(l+u)/2+1,u,rfl,⋯,⋯,⋯,λi t=>xz (b i ((l+u)/2) ⋯ ⋯) (Nat.not_lt.mp o),f⟩
  case p2=>
   rintro c a ⟨rfl,l,u,rfl,h2,g,f⟩;show cg _ _ _ _ (moveDown' (lo+k) (lo+l) >>= λ_=>pure (ForInStep.yield (none,()))) _ _;rw[moveDown'_eq];have q:lo+k<(arrOf a).size:=by rw[d.sb.size];omega
   refine ad (bB (af ⟨rfl,d.set (bubble_perm _ _ _) λi D=>?_,?_⟩))
   ·rw[getElem?_bubble q _ ⋯,q06 ⋯,q06 ⋯]
   ·rw[show min (k+1) n=k+1 by omega]
    intro i j m z;show Kr r (bubble (arrOf a) (lo+k) (lo+k-(lo+l))) (lo+i)<=Kr r (bubble (arrOf a) (lo+k) (lo+k-(lo+l))) (lo+j);rw[iq q ⋯,iq q ⋯,show lo+k-(lo+k-(lo+l))=lo+l by omega]
    repeat' split
    all_goals first
     | (exfalso;omega)
     |exact xp _
     |exact g _ ⋯
     | (rw[show lo+j-1=lo+(j-1) by omega];exact q0P (f _ ⋯ ⋯))
     | (rw[show lo+i-1=lo+(i-1) by omega,show lo+j-1=lo+(j-1) by omega];exact b _ _ ⋯ ⋯)
     | (rw[show lo+j-1=lo+(j-1) by omega];exact b _ _ ⋯ ⋯)
     |exact b _ _ ⋯ ⋯
theorem qG{xs:PA}{lo n:Nat}(hz:lo+n<=xs.size)(h:Up r xs lo n):((xs.toList.drop lo).take n).Pairwise (cI r):=by
 rw[List.pairwise_iff_getElem];intro i j f d c;have e:j<n:=by simp at d;omega
 have a:∀k (b:k<((xs.toList.drop lo).take n).length),Kr r xs (lo+k)=r ((xs.toList.drop lo).take n)[k]:=by
  intro k b;unfold Kr;rw[pf (n:=n) (by simpa using hz) (by simp at b;omega),wQ b]
 have:=h i j (q0P c) e;rw[a i f,a j d]at this;exact this
theorem KB.split{lo n:Nat}{st₀ st:SortSt}(B:KB a₀ kd lo st₀ st){u:List Keyed}{v:List Keyed}(e:(arrOf st₀).toList=u++v)(hu:u.length=lo)(hn:lo+n<=a₀.size)(hs:Up r (arrOf st) lo n) :
  ∃x v',(arrOf st).toList=u++(x++v')/\x.length=n/\x.Pairwise (cI r):=by
 have b:lo+n<=(arrOf st).size:=by rw[B.sb.size];exact hn
 refine⟨((arrOf st).toList.drop lo).take n,(arrOf st).toList.drop (lo+n),?_,by simp;omega,qG b hs⟩;have c:(arrOf st).toList.take lo=u:=by
  apply List.ext_getElem?;intro i
  by_cases a:i<lo
  ·rw[List.getElem?_take,q07 a,q0G,B.be i a,<- q0G,e,xm ⋯]
  ·rw[List.getElem?_take,q06 a,List.getElem?_eq_none ⋯]
 rw[<- List.drop_drop,List.take_append_drop,<- c,List.take_append_drop]
abbrev Pd:=Nat×Nat×Nat
def cm(r:Keyed->Nat):List Pd->List (List Keyed)->Nat->Prop
 | [],rs,_=>rs=[]
 |e::p,rs,k=>∃x rs',rs=x::rs'/\e.1=k/\e.2.1=x.length/\x≠[]/\x.Pairwise (cI r)/\cm r p rs' (k+x.length)
theorem cm.app:∀{p q:List Pd} {rs:List (List Keyed)} {k:Nat},cm r (p++q) rs k↔∃r1 r2,rs=r1++r2/\cm r p r1 k/\cm r q r2 (k+r1.flatten.length)
 | [],q,rs,k=>by
  constructor
  ·exact λh=>⟨[],rs,rfl,rfl,by simpa using h⟩
  ·rintro⟨r1,r2,rfl,h1,h2⟩
   cases(show r1=[] from h1)
   simpa using h2
 |e::p,q,rs,k=>by
  constructor
  ·rintro⟨x,rs',rfl,e1,e2,x0,xs,h⟩
   obtain⟨r1,r2,rfl,h1,h2⟩:=cm.app.mp h;exact⟨x::r1,r2,rfl,⟨x,r1,rfl,e1,e2,x0,xs,h1⟩,by rw[List.flatten_cons,xo,<- Nat.add_assoc];exact h2⟩
  ·rintro⟨r1,r2,rfl,⟨x,rs',rfl,e1,e2,x0,xs,h1⟩,h2⟩
   rw[List.flatten_cons,xo,<- Nat.add_assoc]at h2;exact⟨x,rs'++r2,rfl,e1,e2,x0,xs,cm.app.mpr ⟨rs',r2,rfl,h1,h2⟩⟩
theorem cm.many:∀{p:List Pd} {rs:List (List Keyed)} {k:Nat},cm r p rs k->p.length<=rs.flatten.length
 | [],rs,k,h=>by simp
 |e::p,rs,k,h=>by
  obtain⟨x,rs',rfl,e1,e2,x0,xs,h1⟩:=h;have:=cm.many h1;have:=List.length_pos_iff.mpr x0;simp;simp at *;omega
theorem cm.mod{f:Pd->Pd}(hf:∀e,(f e).1=e.1/\(f e).2.1=e.2.1):∀{p:List Pd} {i:Nat} {rs:List (List Keyed)} {k:Nat},cm r p rs k->cm r (p.modify i f) rs k
 | [],i,rs,k,h=>by simpa using h
 |e::p,0,rs,k,h=>by
  obtain⟨x,rs',rfl,e1,e2,q⟩:=h;rw[List.modify_zero_cons];exact⟨x,rs',rfl,(hf e).1.trans e1,(hf e).2.trans e2,q⟩
 |e::p,i+1,rs,k,h=>by
  obtain⟨x,rs',rfl,e1,e2,x0,xs,q⟩:=h;rw[List.modify_succ_cons];exact⟨x,rs',rfl,e1,e2,x0,xs,cm.mod hf q⟩
structure RI(a₀:PA)(kd:SortKind)(r:Keyed->Nat)(st:SortSt)(lo:Nat)(aU:List Keyed):Prop where
 sb:SB a₀ kd st
 ex:∃rs,(arrOf st).toList=rs.flatten++aU/\rs.flatten.length=lo/\cm r (pendingOf st).toList rs 0
theorem oM{α:Type}{l:List α}{i:Nat}(h:i+1<l.length):∃p1 e1 e2 p2,l=p1++e1::e2::p2/\p1.length=i:=by
 refine⟨l.take i,l[i],l[i+1],l.drop (i+2),?_,by simp;omega⟩;have e1:=q0T (l:=l) (i:=i) ⋯;have e2:=q0T (l:=l) (i:=i+1) ⋯;rw[show i+2=i+1+1 by omega,<- e2,<- e1,List.take_append_drop]
theorem fj(C:gC prog w A J a₀ kd r){st:SortSt}{lo i:Nat}{aU:List Keyed}(R:RI a₀ kd r st lo aU)(hi:i+1<(pendingOf st).size){Q:Bool->SortSt->Prop}
  (h:∀st',RI a₀ kd r st' lo aU->(pendingOf st').size+1=(pendingOf st).size->Q true st'):cg a⁻¹ A E J (mergeAt' i) Q st:=by
 obtain⟨B,rs,M,L,hr⟩:=R;obtain⟨p1,S,O,p2,d,rfl⟩:=oM (l:=(pendingOf st).toList) (i:=i) (by simpa using hi);rw[d]at hr;obtain⟨c,r2,rfl,h1,x,r3,rfl,g,o,j,D,y,b,rfl,f,n,q,t,m⟩:=cm.app.mp hr;obtain⟨s1,n1,w1⟩:=S;obtain⟨s2,n2,w2⟩:=O;dsimp only at g o f n;rw[Nat.zero_add]at g f;subst g;subst o;subst f;subst n
 refine m4 C B (u:=c.flatten) (x:=x) (y:=y) (v:=b.flatten++aU) d (by rw[M];simp) j q D t λst' z U k T a p=>h st' ⟨U,c++z::b,by rw[T];simp,?_,?_⟩ ?_
 ·have:=a.length_eq
  simp at this L ⊢;omega
 ·rw[k]
  refine cm.app.mpr ⟨c,z::b,rfl,h1,z,b,rfl,by simp,by have:=a.length_eq;simp at this ⊢;omega,?_,p,?_⟩
  ·intro e
   rw[e]at a;have:=a.length_eq;have:=List.length_pos_iff.mpr j;simp at *;omega
  ·have:=a.length_eq
   rw[xo]at this;rw[this,<- Nat.add_assoc,Nat.zero_add];rw[Nat.zero_add]at m;exact m
 ·have I:=q0R List.length k
  have G:=q0R List.length d;simp at I G;omega
theorem gk(C:gC prog w A J a₀ kd r){st:SortSt}{Q:Unit->SortSt->Prop}(B:SB a₀ kd st)(hp:pendingOf st=#[])(h1:1<=a₀.size)
  (h:∀st',SB a₀ kd st'->(arrOf st').toList.Pairwise (cI r)->Q () st'):cg a⁻¹ A E J sortRuns' Q st:=by
 rw[sortRuns'_eq];refine ad (cQ ?_);dsimp only;rw[B.size];generalize minRun' a₀.size a₀.size 0=mr;refine ad (aK (b5 (I:=λx c st'=>∃g,c=(none,g)/\x<=g/\g<=a₀.size/\∃aU,RI a₀ kd r st' g aU) (Q:=λc st'=>c=(none,a₀.size)/\∃aU,RI a₀ kd r st' a₀.size aU) ?s ?e ?i) ?p)
 case i=>exact⟨0,rfl,⋯,⋯,(arrOf st).toList,B,[],by simp,rfl,by rw[hp];rfl⟩
 case e=>
  rintro c st' ⟨g,rfl,h2,h3,R⟩;have:g=a₀.size:=by omega
  subst this;exact⟨rfl,R⟩
 case s=>
  rintro x c st' _ hx ⟨g,rfl,h2,h3,aU,R⟩;dsimp only
  by_cases hg:g≥a₀.size
  ·rw[q07 hg]
   have:g=a₀.size:=by omega
   subst this;exact af ⟨rfl,aU,R⟩
  ·rw[q06 hg]
   refine ad (lg C R.sb ⋯ ⋯ λm f B2 m1 m2 hu=>?_);dsimp only
   -- with a run of n from g on: merges,and the run is put behind the others
   have start:∀n d,KB a₀ kd g st' d->1<=n->n<=a₀.size-g->Up r (arrOf d) g n->∃y v,RI a₀ kd r d g (y++v)/\y.length=n/\y≠[]/\y.Pairwise (cI r):=by
    intro n d D L G j;obtain⟨_,o,t,k,hr⟩:=R;obtain⟨y,v,e,M,l⟩:=D.split t k ⋯ j;refine⟨y,v,⟨D.sb,o,e,k,by rw[D.pe];exact hr⟩,M,?_,l⟩;intro q;subst q;simp at M;omega
   have push:∀n d y v,1<=n->n<=a₀.size-g->RI a₀ kd r d g (y++v)->y.length=n->y≠[]->y.Pairwise (cI r) ->
     ∃lo',((none,g+n):Option Unit×Nat)=(none,lo')/\x+1<=lo'/\lo'<=a₀.size/\∃aU,RI a₀ kd r (setPending d ((pendingOf d).push (g,n,0))) lo' aU:=by
    intro n d y v L G O M S l;obtain⟨D,o,t,k,hr⟩:=O;refine⟨g+n,rfl,⋯,⋯,v,⟨D.perm,D.kind,D.failed⟩,o++[y],?_,?_,?_⟩
    ·show(arrOf d).toList=_
     rw[t];simp
    ·simp at k ⊢;omega
    ·show cm r ((pendingOf d).push (g,n,0)).toList _ _
     rw[Array.toList_push];exact cm.app.mpr ⟨o,[y],rfl,hr,y,[],rfl,by show g=0+_;rw[k];omega,M.symm,S,l,rfl⟩
   by_cases Y:m<mr
   ·rw[q07 Y]
    refine ad (dM λ_ jj=>wpAny_rule ⟨jj,?_⟩);refine ad (uv C B2 (n:=min (a₀.size-g) mr) ⋯ ⋯ hu λd D j=>?_);rw[q06 nofun];have L:1<=min (a₀.size-g) mr:=by omega
    have G:min (a₀.size-g) mr<=a₀.size-g:=by omega
    generalize min (a₀.size-g) mr=n at L G j ⊢;obtain⟨y,v,O,M,S,l⟩:=start n d D L G j;refine ad (cQ ?_);cases hb:(pendingOf d).back? with
    |none=>
     dsimp only;exact ad (bB (af (push n d y v L G O M S l)))
    |some e=>
     obtain⟨s1,l1,w1⟩:=e;dsimp only;refine ad (aK (b5 (I:=λ_ c b=>c=(none,())/\RI a₀ kd r b g (y++v)) (Q:=λc b=>c=(none,())/\RI a₀ kd r b g (y++v)) ?_ (λ_ _ q=>q) ⟨rfl,O⟩) ?_)
     ·rintro z c b _ _ ⟨rfl,u⟩
      refine ad (cQ ?_)
      by_cases hz:(pendingOf b).size>1
      ·rw[q07 hz]
       have T:(pendingOf b).size-2<(pendingOf b).size:=by omega
       rw[getElem?_pos (pendingOf b) _ T];generalize(pendingOf b)[(pendingOf b).size-2]=e;obtain⟨f1,f2,f3⟩:=e;dsimp only
       split
       ·exact af ⟨rfl,u⟩
       ·refine ad (fj C u ⋯ λa1 R5 _=>?_)
        rw[q06 nofun];exact af ⟨rfl,R5⟩
      ·rw[q06 hz];exact af ⟨rfl,u⟩
     ·rintro c b ⟨rfl,u⟩
      dsimp only;refine ad (bB (ad (bB (af (push n _ y v L G ?_ M S l)))));obtain⟨Z,o,t,k,hr⟩:=u;exact⟨⟨Z.perm,Z.kind,Z.failed⟩,o,t,k,by
       show cm r (Array.modify _ _ _).toList _ _;rw[Array.toList_modify];refine cm.mod ?_ hr;exact λe=>⟨rfl,rfl⟩⟩
   ·rw[q06 Y]
    clear Y
    revert hu m2 m1 B2;revert f m
    intro n d D L G j;obtain⟨y,v,O,M,S,l⟩:=start n d D L G j;refine ad (cQ ?_);cases hb:(pendingOf d).back? with
    |none=>
     dsimp only;exact ad (bB (af (push n d y v L G O M S l)))
    |some e=>
     obtain⟨s1,l1,w1⟩:=e;dsimp only;refine ad (aK (b5 (I:=λ_ c b=>c=(none,())/\RI a₀ kd r b g (y++v)) (Q:=λc b=>c=(none,())/\RI a₀ kd r b g (y++v)) ?_ (λ_ _ q=>q) ⟨rfl,O⟩) ?_)
     ·rintro z c b _ _ ⟨rfl,u⟩
      refine ad (cQ ?_)
      by_cases hz:(pendingOf b).size>1
      ·rw[q07 hz]
       have T:(pendingOf b).size-2<(pendingOf b).size:=by omega
       rw[getElem?_pos (pendingOf b) _ T];generalize(pendingOf b)[(pendingOf b).size-2]=e;obtain⟨f1,f2,f3⟩:=e;dsimp only
       split
       ·exact af ⟨rfl,u⟩
       ·refine ad (fj C u ⋯ λa1 R5 _=>?_)
        rw[q06 nofun];exact af ⟨rfl,R5⟩
      ·rw[q06 hz];exact af ⟨rfl,u⟩
     ·rintro c b ⟨rfl,u⟩
      dsimp only;refine ad (bB (ad (bB (af (push n _ y v L G ?_ M S l)))));obtain⟨Z,o,t,k,hr⟩:=u;exact⟨⟨Z.perm,Z.kind,Z.failed⟩,o,t,k,by
       show cm r (Array.modify _ _ _).toList _ _;rw[Array.toList_modify];refine cm.mod ?_ hr;exact λe=>⟨rfl,rfl⟩⟩
 case p=>
  rintro c st' ⟨rfl,aU,R⟩;dsimp only;have pz:(pendingOf st').size<=a₀.size:=by
   obtain⟨_,o,_,k,hr⟩:=R;have:=hr.many;simp at this k;omega
  refine ad (aK (b5 (I:=λx c f=>c=(none,())/\RI a₀ kd r f a₀.size aU/\(pendingOf f).size+x<=a₀.size\/c=(none,())/\RI a₀ kd r f a₀.size aU/\(pendingOf f).size<=1)
   (Q:=λc f=>c=(none,())/\RI a₀ kd r f a₀.size aU/\(pendingOf f).size<=1) ?s2 ?e2 (.inl ⟨rfl,R,pz⟩)) ?p2)
  case e2=>
   rintro c f (⟨rfl,R2,q⟩ | ⟨rfl,R2,q⟩)
   ·exact⟨rfl,R2,⋯⟩
   ·exact⟨rfl,R2,q⟩
  case s2=>
   intro x c f _ hx hI;have hc:c=(none,()):=by rcases hI with q | q<;>exact q.1
   have R2:RI a₀ kd r f a₀.size aU:=by rcases hI with q | q<;>exact q.2.1
   refine ad (cQ ?_)
   by_cases h2:(pendingOf f).size<=1
   ·rw[q07 h2];exact af ⟨rfl,R2,h2⟩
   ·rw[q06 h2]
    have q:(pendingOf f).size+x<=a₀.size:=by
     rcases hI with q | q
     ·exact q.2.2
     ·exact q0Q q.2.2 h2
    refine ad (fj C R2 ?_ λd O q3=>?_)
    ·repeat' split
     all_goals omega
    ·rw[q06 nofun]
     exact af (.inl ⟨rfl,O,⋯⟩)
  case p2=>
   rintro c f ⟨rfl,R2,q⟩;refine af (h f R2.sb ?_);obtain⟨B2,o,t,k,hr⟩:=R2;have lz:(arrOf f).toList.length=a₀.size:=by simpa using B2.size
   have r0:aU=[]:=by
    have:=q0R List.length t;rw[xo]at this;exact xL.mp ⋯
   subst r0;rw[xC]at t;rw[t];cases U:(pendingOf f).toList with
   |nil=>rw[U]at hr;cases(show o=[] from hr);exact .nil
   |cons e p=>
    rw[U]at hr;obtain⟨y,a2,rfl,_,_,_,l,q'⟩:=hr;have:p=[]:=by
     have:=q0R List.length U;exact xL.mp (by simp at this;omega)
    subst this;cases(show a2=[] from q')
    simpa using l
end
def rk(O:KeyOrd)(f:Keyed->O.α)(l:List Keyed)(p:Keyed):Nat:=l.countP λq=>O.blt (f q) (f p)
theorem kf{α:Type}{f g:α->Bool}:∀{l:List α},(∀x,x∈l->f x=true->g x=true)->(∃x,x∈l/\f x=false/\g x=true)->l.countP f<l.countP g
 | [],_,h=>by obtain⟨x,hx,_⟩:=h;exact nomatch hx
 |x::l,h,⟨y,hy,e1,e2⟩=>by
  rw[List.countP_cons,List.countP_cons];have le:l.countP f<=l.countP g:=List.countP_mono_left λx hx=>h x (xg _ hx);rcases xf.mp hy with rfl | hy
  ·rw[e1,e2];simp;omega
  ·have:=kf (f:=f) (g:=g) (l:=l) (λx hx=>h x (xg _ hx)) ⟨y,hy,e1,e2⟩
   have:=h x (q0B ..);cases hf:f x<;>cases hg:g x<;>simp_all<;>omega
theorem n8{O:KeyOrd}{f:Keyed->O.α}{l:List Keyed}{x:Keyed}(hx:x∈l):O.blt (f x) (f y)=decide (rk O f l x<rk O f l y):=by
 cases h:O.blt (f x) (f y) with
 |true=>
  refine(q09 ?_).symm;exact kf (λz _ a=>O.trans _ _ _ a h) ⟨x,hx,O.irrefl _,h⟩
 |false=>
  refine(q08 (Nat.not_lt.mpr ?_)).symm;refine List.countP_mono_left λz _ a=>?_;rcases O.negTrans _ (f x) _ a with q | q
  ·exact q
  ·rw[h]at q;exact q0Q q nofun
theorem t9{O:KeyOrd}{f:Keyed->O.α}{l:List Keyed}{y:Keyed}(hy:y∈l)(h:rk O f l x<=rk O f l y):O.blt (f y) (f x)=false:=by
 rw[n8 (f:=f) (l:=l) hy];exact q08 (Nat.not_lt.mpr h)
theorem lT{h:Heap}{a:Addr}{vs:Array Value}(ho:h.get? a=some (seqObj "list" vs n)):∃e1,(h.update a (Obj.mapSeq λ_=>#[])).get? a=some (seqObj "list" #[] e1):=⟨_,get?_update_seq ho _⟩
def sort1(h:Heap)(a:Addr)(vs:Af):Heap:=((h.update a (Obj.mapSeq λ_=>#[])).push (seqObj "tuple" vs.toArray 0)).push (seqObj "list" #[] 0)
section
variable {prog:Aj}{w:Am}{A:Al}{E:Aa}{s:Ae}
theorem g9{a:Addr}{vs:Af}{P:Fin->Shared->Prop}{kd:SortKind}(ho:s.heap.get? a=some (seqObj "list" vs.toArray n))(hz:vs.length<=sizeLine)
  (hkk:2<=vs.length->∀{Q:SortKind->Shared->Prop},Q kd {s with heap:=sort1 s.heap a vs}->wpAny a⁻¹ A (keyKind' vs.toArray) Q E {s with heap:=sort1 s.heap a vs})
  (C:2<=vs.length->gC prog w A (· = {s with heap:=sort1 s.heap a vs}) (pairsOf vs) kd r)
  (h:∀ps:List Keyed,ps.Perm (vs.zip vs)->ps.Pairwise (cI r)->P (.done (.ret .none)) {s with heap:=sortedHeap s.heap a vs (ps.map (·.2)).toArray}) :
  wpAny a⁻¹ A (Builtin.«list.sort» ⟨[.ref a],[]⟩) P E s:=by
 rw[list_sort_plain];refine q04 (listItems_at ho rfl (q04 (listUpdate_at ho rfl ?_)));obtain⟨m,g⟩:=lT ho;refine q04 (seqEpoch_at g rfl (q04 (wpAny_newTuple (q04 (wpAny_newList (q0Y ?_))))));have c:(sort1 s.heap a vs).get? a=some (seqObj "list" #[] m):=by
  exact wS _ (wS _ g)
 show wpAny a⁻¹ A _ P E {s with heap:=sort1 s.heap a vs};dsimp only;have k:vs.toArray.size=vs.length:=by simp
 have fin:∀d:PA,d.toList.Perm (pairsOf vs).toList->d.toList.Pairwise (cI r)->P (.done (.ret .none)) {s with heap:=sortedHeap s.heap a vs (d.map (·.2))}:=by
  intro d l f;have:=h d.toList (by rw[<- pairsOf_toList];exact l) f
  rwa [show(d.toList.map (·.2)).toArray=d.map (·.2) by rw[<- Array.toList_map]]at this
 by_cases h2:(vs.toArray).size<2
 ·rw[q07 h2,q07 h2]
  refine q04 (q05 ?_);rw[StateT.run_pure];refine q04 (q05 ?_);dsimp only;refine q04 (seqEpoch_at c rfl (q04 (listUpdate_at c rfl ?_ (hsz2:=by rw[Array.size_map];show(pairsOf vs).size<=_;rw[pairsOf_size,q0W];omega))));simp only[bne_self_eq_false,q0Z,if_false];refine q05 (fin (vs.toArray.zip vs.toArray) (List.Perm.refl _) ?_);show(pairsOf vs).toList.Pairwise _;rw[pairsOf_toList]
  match vs,k,h2 with
  | [],_,_=>exact .nil
  | [v],_,_=>exact List.pairwise_singleton _ _
  |_::_::_,_,h2=>simp at h2;omega
 ·rw[q06 h2,q06 h2]
  refine q04 (hkk ⋯ ?_);refine q04 (q0X (gk (a₀:=pairsOf vs) (kd:=kd) (r:=r) (C ⋯) (st:=SortSt.mk' kd (vs.toArray.zip vs.toArray) #[] 7 none)
   (Q:=λ_ b=>SB (pairsOf vs) kd b/\(arrOf b).toList.Pairwise (cI r)) ⟨List.Perm.refl _,rfl,rfl⟩ rfl (by rw[pairsOf_size];omega) (λb j i=>⟨j,i⟩) _ rfl) ?_ λ_ _ e=>e)
  rintro⟨⟨⟩,b⟩ s' ⟨rfl,B,f⟩;dsimp only;refine q04 (seqEpoch_at c rfl (q04 (listUpdate_at c rfl ?_ (hsz2:=by refine xz (Nat.le_of_eq ((Array.size_map ..).trans (B.size.trans (pairsOf_size _)))) ?_;omega))));rw[show failedOf b=none from B.failed];simp only[bne_self_eq_false,q0Z,if_false];exact q05 (fin (arrOf b) B.perm f)
end
section
variable {prog:Aj}{w:Am}{A:Al}{E:Aa}{s s2:Ae}
abbrev with1(s2:Ae)(vs:Af):Heap:=s2.heap.push (seqObj "list" vs.toArray 0)
theorem sorted_call{kd:SortKind}{Q:Aa}
  (hc:∀{Q':List Value->Shared->Prop},Q' vs s2->wpAny a⁻¹ A.in1 (collect v) Q' E s) (hz:vs.length<=sizeLine)
  (hkk:2<=vs.length->∀{Q:SortKind->Shared->Prop},Q kd {s2 with heap:=sort1 (with1 s2 vs) s2.heap.objs.size vs}->wpAny a⁻¹ A.in1.in1 (keyKind' vs.toArray) Q E {s2 with heap:=sort1 (with1 s2 vs) s2.heap.objs.size vs})
  (C:2<=vs.length->gC prog w A.in1.in1 (· = {s2 with heap:=sort1 (with1 s2 vs) s2.heap.objs.size vs}) (pairsOf vs) kd r)
  (h:∀ps:List Keyed,ps.Perm (vs.zip vs)->ps.Pairwise (cI r)->Q (.ref s2.heap.objs.size) {s2 with heap:=sortedHeap (with1 s2 vs) s2.heap.objs.size vs (ps.map (·.2)).toArray}) :
  wpAny a⁻¹ A (call (.builtin "sorted") [v]) Q E s:=by
 refine Calls.call_function_entry kind_sorted plain_sorted entry_sorted (args_sorted1 v) ?_;unfold Builtin.«sorted»;refine q04 (m:=checkCount "sorted" 1 1 _) (q05 ?_)
 refine q04 (hc (q04 (wpAny_newList ?_ (hsz:=by omega))));have a:(with1 s2 vs).get? s2.heap.objs.size=some (seqObj "list" vs.toArray 0):=wY _ rfl;show wpAny _ _ _ _ _ {s2 with heap:=with1 s2 vs};refine q04 (q0Y (wpAny_call_entry slot_list_sort ⟨_,a,rfl⟩ entry_list_sort (g9 (s:={s2 with heap:=with1 s2 vs}) a hz hkk C λps c b=>⟨_,rfl,?_⟩) (args_list_sort _)));exact q05 ⟨_,rfl,h ps c b⟩
theorem ranks_out{O:KeyOrd}{f:Keyed->O.α}{ps:List Keyed}(hp:ps.Perm l)(h:ps.Pairwise (cI (rk O f l))):ps.Pairwise λp q=>O.blt (f q) (f p)=false:=by
 have a:∀p,p∈ps->p∈l:=λp c=>hp.mem_iff.mp c;clear hp
 induction ps with
 |nil=>exact .nil
 |cons p ps ih=>
  rw[List.pairwise_cons]at h ⊢;exact⟨λq b=>t9 (a q (xg _ b)) (h.1 q b),ih h.2 λq b=>a q (xg _ b)⟩
end
end TS
namespace TS
open PySem PyProof.Rows PySem.MeetsSeq PySem.MeetsSeq3
open AutoSeq1 (wpAny_loadPart')
abbrev u0(s:Ae)(a:Addr)(xs:Array Value)(n:Nat)(dd:An)(sl:Array (Option Value)):Prop:=s.heap.get? a=some {cls:=.type "list",dict:=dd,data:=.seq xs n,slots:=sl}
def dk:List Str->List Str->Bool
 | [],[]=>false
 | [],_::_=>true
 |_::_,[]=>false
 |x::xs,y::ys=>if x==y then dk xs ys else decide (x.cps.toList<y.cps.toList)
section
variable {prog:Aj}{w:Am}{A:Al}{E:Aa}{s:Ae}
theorem ft{x y:Str}{Q:Aa}(h:Q (.bool (decide (x.cps.toList<y.cps.toList))) s):wpAny a⁻¹ A (richCompare .Lt (.str x t) (.str y u)) Q E s:=
 wpAny_richCompare_same (typeIs_str s x t) (typeIs_str s y u) slot_str_lt (call_str_lt ⟨(λq=>nomatch q),h⟩)
theorem gQ{x y:Str}{Q:Bool->Shared->Prop}(h:Q (decide (x.cps.toList<y.cps.toList)) s):wpAny a⁻¹ A (oneLt' b (.str x t) (.str y u)) Q E s:=by
 cases b with
 |true=>exact oneLt_str h
 |false=>
  rw[oneLt'_eq];simp only[q0Z,if_false];exact q04 (ft (wpAny_truthy_bool h))
end
set_option maxHeartbeats 1600000 in
theorem rq(l b:Addr)(items items2:Array Value)(n n2:Nat)(dd dd2:An)(sl sl2:Array (Option Value))(k:Nat) :
  ∀(i:Nat) (ss ts:Ak),ss.length+ts.length=k->i<=items.size->i<=items2.size->StrsAre (items.toList.drop i) ss->StrsAre (items2.toList.drop i) ts->Meets (Builtin.«list.__eq__.loop» ⟨[.ref l,.ref b,rawInt i,rawInt 0],[]⟩)
   (λA R s=>u0 s l items n dd sl/\u0 s b items2 n2 dd2 sl2 /\
    R (.ok (.ret (.bool (dk ss ts)))) s):=by
 induction k using Nat.strongRecOn with
 |_ k ih=>
 intro i ss ts T S I h1 h2 p w A R s h;obtain⟨hp,g,d,tk,os⟩:=s;obtain⟨m,o,h⟩:=h
 wp_walk using wpAny_loadPart' m,wpAny_loadPart' o
 have Y:((i:Nat):Int).toNat=i:=by simp
 rw[Y];have G:∀{xs:Array Value},xs.toList.drop i=[]->i<=xs.size->xs[i]?=none/\xs.size=i:=fun{xs} e q=>by
  have:=q0R List.length e;simp at this;exact⟨by simp;omega,⋯⟩
 have f:∀{xs:Array Value} {v:Value} {r:Af},xs.toList.drop i=v::r->xs[i]?=some v/\i<xs.size/\xs.toList.drop (i+1)=r:=fun{xs v r} e=>by
  have j:i<xs.toList.length:=by
   have:=q0R List.length e;simp at this ⊢;omega
  have q:=q0T (l:=xs.toList) j;rw[e]at q;obtain⟨O,M⟩:=List.cons.inj q;exact⟨by rw[<- q0G,wQ j,O],by simpa using j,M.symm⟩
 generalize B:items.toList.drop i=v1 at h1;generalize c:items2.toList.drop i=v2 at h2;cases h1 with
 |nil=>
  obtain⟨C,L⟩:=G B S;rw[C];cases h2 with
  |nil=>
   obtain⟨a,D⟩:=G c I;rw[a]
   wp_walk using wpAny_loadPart' m,wpAny_loadPart' o
   show R (.ok (.ret (.bool (decide (items.size<items2.size))))) _;rw[q08 ⋯];exact h
  |cons y u h2'=>
   obtain⟨a,D,_⟩:=f c;rw[a]
   wp_walk using wpAny_loadPart' m,wpAny_loadPart' o
   show R (.ok (.ret (.bool (decide (items.size<items2.size))))) _;rw[q09 ⋯];exact h
 |cons x t h1'=>
  obtain⟨C,L,d1⟩:=f B;rw[C];cases h2 with
  |nil=>
   obtain⟨a,D⟩:=G c I;rw[a]
   wp_walk using wpAny_loadPart' m,wpAny_loadPart' o
   show R (.ok (.ret (.bool (decide (items.size<items2.size))))) _;rw[q08 ⋯];exact h
  |cons y u h2'=>
   obtain⟨a,D,Z⟩:=f c;rw[a];refine q04 (eqBool_str ?_);unfold dk at h;cases z:x==y with
   |true=>
    rw[z,q07 rfl]at h
    wp_walk
    have U:((i:Int)+1)=((i+1:Nat):Int):=by push_cast;rfl
    rw[U];exact⟨plainId_quiet plain_eq_loop _,codeAny_builtin entry_eq_loop (by
     rw[Around.under_plainId plain_eq_loop _];exact ih _ (by rw[<- T];simp;omega) (i+1) _ _ rfl ⋯ ⋯ (by rw[d1];exact h1') (by rw[Z];exact h2') p w A R _ ⟨m,o,h⟩)⟩
   |false=>
    rw[z,q06 nofun]at h
    wp_walk using wpAny_loadPart' m,wpAny_loadPart' o
    rw[C,a];exact q04 (ft (q05 h))
theorem iI(l b:Addr)(items items2:Array Value)(n n2:Nat)(dd dd2:An)(sl sl2:Array (Option Value))(ss ts:Ak)(h1:StrsAre items.toList ss)(h2:StrsAre items2.toList ts) :
  Meets (Builtin.«list.__lt__» ⟨[.ref l,.ref b],[]⟩)
   (λA R s=>u0 s l items n dd sl/\u0 s b items2 n2 dd2 sl2 /\
    R (.ok (.ret (.bool (dk ss ts)))) s):=by
 intro a w A R s h;obtain⟨hp,g,d,tk,os⟩:=s;obtain⟨c,e,h⟩:=h
 have f3:=AutoSeq1.sub_list_list
 wp_walk using wpAny_loadPart' c,wpAny_loadPart' e
 exact⟨plainId_quiet plain_eq_loop _,codeAny_builtin entry_eq_loop (by
  rw[Around.under_plainId plain_eq_loop _];exact rq l b items items2 n n2 dd dd2 sl sl2 _ 0 ss ts rfl (xq _) (xq _) h1 h2 a w A R _ ⟨c,e,h⟩)⟩
abbrev cp(x:Str):List Nat:=x.cps.toList
theorem s9(h:cp x=cp y):x=y:=by
 cases x;cases y;exact q0R _ (Array.toList_inj.mp h)
abbrev ks(l:Ak):List (List Nat):=l.map cp
theorem fG:∀(l m:Ak),dk l m=decide (ks l<ks m)
 | [],[]=>by simp[dk,List.lt_irrefl]
 | [],_::_=>by simp[dk]
 |_::_,[]=>by simp[dk]
 |x::l,y::m=>by
  unfold dk;have e:(ks (x::l)<ks (y::m))↔(cp x<cp y\/cp x=cp y/\ks l<ks m):=List.cons_lt_cons_iff
  by_cases h:x=y
  ·subst h
   rw[q07 (beq_self_eq_true x),fG l m];refine decide_eq_decide.mpr (e.trans ⟨λq=>?_,λq=>.inr ⟨rfl,q⟩⟩).symm;rcases q with q | q
   ·exact q0Q q (List.lt_irrefl _)
   ·exact q.2
  ·rw[q06 (by simpa using h)]
   refine decide_eq_decide.mpr (e.trans ⟨λq=>?_,λq=>.inl q⟩).symm;rcases q with q | q
   ·exact q
   ·exact q0Q (s9 q.1) h
@[reducible] def ordL:KeyOrd where
 α:=List (List Nat)
 blt a b:=decide (a<b)
 irrefl x:=q08 (List.lt_irrefl x)
 trans x y z p q:=q09 (List.lt_trans (of_decide_eq_true p) (of_decide_eq_true q))
 negTrans a b c h:=by
  simp only[q0a]at *
  by_cases hab:a<b
  ·exact .inl hab
  ·exact .inr (List.lt_of_le_of_lt (List.not_lt.mp hab) h)
 total x y p q:=List.le_antisymm (List.not_lt.mp (of_decide_eq_false q)) (List.not_lt.mp (of_decide_eq_false p))
@[reducible] def ordI:KeyOrd where
 α:=Int×List (List Nat)
 blt a b:=decide (a.1<b.1\/a.1=b.1/\a.2<b.2)
 irrefl a:=by simp[List.lt_irrefl]
 trans a b c h1 h2:=by
  simp only[q0a]at *;rcases h1 with h1 | ⟨h1,h1'⟩<;>rcases h2 with h2 | ⟨h2,h2'⟩
  ·exact .inl ⋯
  ·exact .inl ⋯
  ·exact .inl ⋯
  ·exact .inr ⟨⋯,List.lt_trans h1' h2'⟩
 negTrans a b c h:=by
  simp only[q0a]at *
  by_cases h1:a.1<b.1
  ·exact .inl (.inl h1)
  ·by_cases h2:b.1<c.1
   ·exact .inr (.inl h2)
   ·rcases h with h | ⟨h,h'⟩
    ·omega
    ·by_cases hab:a.2<b.2
     ·exact .inl (.inr ⟨⋯,hab⟩)
     ·exact .inr (.inr ⟨⋯,List.lt_of_le_of_lt (List.not_lt.mp hab) h'⟩)
 total a b h1 h2:=by
  simp only[decide_eq_false_iff_not]at *;have e:a.1=b.1:=by
   have q1:¬ a.1<b.1:=λq=>h1 (.inl q);have q2:¬ b.1<a.1:=λq=>h2 (.inl q);omega
  have e2:a.2=b.2:=List.le_antisymm (List.not_lt.mp λq=>h2 (.inr ⟨e.symm,q⟩)) (List.not_lt.mp λq=>h1 (.inr ⟨e,q⟩));exact Prod.ext e e2
section
variable {prog:Aj}{w:Am}{A:Al}{E:Aa}{s:Ae}
theorem gf:∀{vs:Af} {ss:Ak},StrsAre vs ss->vs.length=ss.length
 |_,_,.nil=>rfl
 |_,_,.cons x t h=>by simp[gf h]
theorem i7:∀{vs:Af} {ss:Ak},StrsAre vs ss->∀j (h:j<vs.length),∃t,vs[j]=.str (ss.getD j ⟨#[]⟩) t
 |_,_,.cons x t h,0,_=>⟨t,rfl⟩
 |_,_,.cons x t h,j+1,hj=>by
  obtain⟨t',e⟩:=i7 h j (by simpa using hj);exact⟨t',by simpa using e⟩
theorem og{ss:Ak}(hl:s.heap.IsList l xs)(hb:s.heap.IsList b ys)(h1:StrsAre xs.toList ss)(h2:StrsAre ys.toList ts)(hu:A.units<cLine) :
  SeqAt.EqAt A s (.ref l) (.ref b) (decide (ss=ts)):=by
 by_cases d:l=b
 ·subst d
  have:xs=ys:=by
   obtain⟨o,y,_,n,z⟩:=hl;obtain⟨o',c,_,n',f⟩:=hb;rw[y]at c;cases c
   rw[z]at f;injection f
  subst this;have:ss=ts:=by rw[<- h1.strs,<- h2.strs]
  rw[q09 this];exact SeqAt.EqAt.same _
 ·refine SeqAt.EqAt.of_refs d ?_
  have m:=gf h1;have v:=gf h2;simp at m v
  by_cases k:xs.size=ys.size
  ·have q:=SeqAt.RcAt.lists (A:=A) (e:=λj=>ss.getD j ⟨#[]⟩==ts.getD j ⟨#[]⟩) hl hb k hu λj i g=>by
    obtain⟨t,r⟩:=i7 h1 j (by simpa using i);obtain⟨u,p⟩:=i7 h2 j (by simpa using g);rw[Array.getElem_toList]at r p;rw[r,p];exact λprog w E Q x=>eqBool_str x
   have e:((List.range xs.size).all λj=>ss.getD j ⟨#[]⟩==ts.getD j ⟨#[]⟩)=decide (ss=ts):=by
    by_cases a:ss=ts
    ·subst a;simp
    ·rw[q08 a]
     refine Bool.eq_false_iff.mpr λq=>a ?_;refine List.ext_getElem ⋯ λj i g=>?_;have:=xN.mp q j (List.mem_range.mpr ⋯);rw[q0A,q0A,wQ i,wQ g,q0L,q0L]at this;exact eq_of_beq this
   rw[e]at q;exact q
  ·have a:¬ ss=ts:=λq=>k (by rw[q]at m;omega)
   rw[q08 a];exact SeqAt.RcAt.lists_lengths hl hb (by simpa using k) hu
theorem oV{ss:Ak}{Q:Aa}(hl:s.heap.IsList l xs)(hb:s.heap.IsList b ys)(h1:StrsAre xs.toList ss)(h2:StrsAre ys.toList ts)(hu:A.units<cLine)
  (h:Q (.bool (dk ss ts)) s):wpAny a⁻¹ A (richCompare .Lt (.ref l) (.ref b)) Q E s:=by
 obtain⟨⟨cls,o,data,k⟩,g,j,n,i⟩:=id hl;obtain⟨⟨cls2,f,data2,e⟩,a,d,m,c⟩:=id hb;simp only at j i d c;subst j i d c;exact richCompare_meets_room (op:=.Lt) ⟨_,g,rfl⟩ ⟨_,a,rfl⟩ PySem.F.slot_list_lt PySem.F.entry_list_lt (PySem.F.args_list_lt_2 _ _) (iI l b xs ys n m o f k e ss ts h1 h2)
  ⟨g,a,show Value.bool (dk ss ts)≠Value.notImplemented/\Q (.bool (dk ss ts)) s from⟨(λx=>nomatch x),h⟩⟩ hu
end
end TS
namespace TS
open PySem PyProof.Rows PySem.MeetsSeq PySem.MeetsSeq3 PySem.W
def TupS(h:Heap)(v:Value)(ss:Ak):Prop:=∃a o xs n,v=.ref a/\h.get? a=some o/\o.cls=.type "tuple"/\o.data=.seq xs n/\StrsAre xs.toList ss
def TupI(h:Heap)(v:Value)(k:Int×List Str):Prop:=∃a o n l ys t,v=.ref a/\h.get? a=some o/\o.cls=.type "tuple"/\o.data=.seq #[.int k.1 t,.ref l] n/\h.IsList l ys/\StrsAre ys.toList k.2
section
variable {prog:Aj}{w:Am}{A:Al}{E:Aa}{s:Ae}
theorem jF{Q:Bool->Shared->Prop}{f:Bool}:∀{vs ws:Af} {ss ts:Ak} {i:Nat},StrsAre vs ss->StrsAre ws ts->(f=decide (vs.length<ws.length))->Q (dk ss ts) s->KatLex prog w A b f Q (vs.zip ws) i s
 |_,_,_,_,i,.nil,.nil,hf,h=>by
  subst hf;exact kat_nil h
 |_,_,_,_,i,.nil,.cons y u h2,hf,h=>by
  subst hf;refine kat_nil ?_;rw[show decide _=true from q09 (by simp)];exact h
 |_,_,_,_,i,.cons x t h1,.nil,hf,h=>by
  subst hf;refine kat_nil ?_;rw[show decide _=false from q08 (by simp)];exact h
 |_,_,_,_,i,.cons x t h1,.cons y u h2,hf,h=>by
  rw[List.zip_cons_cons];refine kat_cons (eqBool_str ?_);unfold dk at h;cases hxy:x==y with
  |true=>rw[hxy,q07 rfl]at h;exact kat_yes (jF h1 h2 (by rw[hf];simp) h)
  |false=>rw[hxy,q06 nofun]at h;exact kat_no (gQ h)
theorem qV{ss:Ak}{Q:Bool->Shared->Prop}(hx:TupS s.heap x ss)(hy:TupS s.heap y ts)(h:Q (dk ss ts) s):wpAny a⁻¹ A (keyLt' (tuples' b) x y) Q E s:=by
 obtain⟨a,o,xs,n,rfl,e,_,f,h1⟩:=hx;obtain⟨a2,o2,ys,n2,rfl,c,_,d,h2⟩:=hy;exact kat_lt e f c d (jF h1 h2 (by simp) h)
theorem qJ{Q:Bool->Shared->Prop}(hu:A.units<cLine)(hx:TupI s.heap x k)(hy:TupI s.heap y m)(h:Q (decide (k.1<m.1\/k.1=m.1/\ks k.2<ks m.2)) s) :
  wpAny a⁻¹ A (keyLt' (tuples' true) x y) Q E s:=by
 obtain⟨a,o,n,l,xs,t,rfl,p,_,r,i,h1⟩:=hx;obtain⟨a2,o2,n2,l2,ys,u,rfl,d,_,f,b,h2⟩:=hy;refine kat_lt p r d f (kat_cons (wpAny_eqBool_int ?_));cases e:k.1==m.1 with
 |false=>
  refine kat_no (oneLt_int ?_);have j:¬ k.1=m.1:=λq=>by rw[q]at e;simp at e
  rw[show decide (k.1<m.1\/k.1=m.1/\ks k.2<ks m.2)=decide (k.1<m.1) from decide_eq_decide.mpr ⟨λq=>q.elim id λq=>q0Q q.1 j,.inl⟩]at h;exact h
 |true=>
  have eq:=eq_of_beq e;have g:Q (dk k.2 m.2) s:=by
   rw[fG];rw[show decide (k.1<m.1\/k.1=m.1/\ks k.2<ks m.2)=decide (ks k.2<ks m.2) from decide_eq_decide.mpr ⟨λq=>q.elim (λq=>by omega) And.right,λq=>.inr ⟨eq,q⟩⟩]at h;exact h
  refine kat_yes (kat_cons (og i b h1 h2 hu prog w _ _ ?_))
  by_cases c:k.2=m.2
  ·rw[q09 c]
   refine kat_yes (kat_nil ?_);have:dk k.2 m.2=false:=by rw[c,fG];exact q08 (List.lt_irrefl _)
   rw[this]at g;exact g
  ·rw[q08 c]
   refine kat_no ?_;rw[oneLt'_eq];simp only[show((true&&(1:Nat)==0)=true)=False by simp,if_false];exact q04 (oV i b h1 h2 hu (wpAny_truthy_bool g))
def keyEnd(h:Heap)(a kS:Addr)(out:Array Value):Heap:=(h.update kS (Obj.mapSeq λ_=>#[])).update a (Obj.mapSeq λ_=>out)
theorem qm{a kS:Addr}{e1:Nat}{keys:Array Value}{vs:Af}{st:SortSt}{P:Fin->Shared->Prop}(hka:a≠kS)(hk:s.heap.get? kS=some (seqObj "list" keys e))(ha:s.heap.get? a=some (seqObj "list" #[] e1))
  (hz:keys.size<=sizeLine) (hz2:(arrOf st).size<=sizeLine) (hf:failedOf st=none) (h:P (.done (.ret .none)) {s with heap:=keyEnd s.heap a kS ((arrOf st).map (·.2))}) :
  wpAny a⁻¹ A (ksk_tail a false e1 (.ref kS) st) P E s:=by
 have b:(s.heap.update kS (Obj.mapSeq λ_=>(#[]:Array Value))).get? a=some (seqObj "list" #[] e1):=((Heap.SameBut.update s.heap kS (Obj.mapSeq λ_=>(#[]:Array Value))).2 a hka).trans ha;unfold ksk_tail;dsimp only;refine q04 (listUpdate_at hk rfl ?_ hz (xq _));refine q04 (wpAny_letGo ?_);refine q04 (seqEpoch_at b rfl ?_);refine q04 (listUpdate_at b rfl ?_ (xq _) (by rw[q06 nofun,Array.size_map];exact Nat.le_succ_of_le hz2));rw[hf];simp only[bne_self_eq_false,q0Z,if_false];exact q05 h
theorem qH{a kS:Addr}{e1:Nat}{keys:Array Value}{vs:Af}{P:Fin->Shared->Prop}(hka:a≠kS)(hk:s.heap.get? kS=some (seqObj "list" keys e))(ha:s.heap.get? a=some (seqObj "list" #[] e1))
  (hz:vs.length<=sizeLine) (hkz:keys.size=vs.length) {kd:SortKind} {r:Keyed->Nat} (hkk:2<=vs.length->∀{Q:SortKind->Shared->Prop},Q kd s->wpAny a⁻¹ A (keyKind' keys) Q E s)
  (C:2<=vs.length->gC prog w A (· = s) (keys.zip vs.toArray) kd r)
  (h:∀ps:List Keyed,ps.Perm (keys.toList.zip vs)->ps.Pairwise (cI r)->P (.done (.ret .none)) {s with heap:=keyEnd s.heap a kS (ps.map (·.2)).toArray}) :
  wpAny a⁻¹ A (ksk_end a false vs.toArray e1 (.ref kS) keys) P E s:=by
 have i:(keys.zip vs.toArray).toList=keys.toList.zip vs:=ksk_zip keys vs;have g:(keys.zip vs.toArray).size=vs.length:=by rw[Array.size_zip,hkz,wZ,Nat.min_self]
 have fin:∀st:SortSt,(arrOf st).toList.Perm (keys.zip vs.toArray).toList->(arrOf st).toList.Pairwise (cI r)->failedOf st=none->wpAny a⁻¹ A (ksk_tail a false e1 (.ref kS) st) P E s:=by
  intro st f c l;refine qm (vs:=vs) hka hk ha ⋯ (by have:=f.length_eq;simp at this;omega) l ?_;have:=h (arrOf st).toList (by rw[<- i];exact f) c
  rwa [show((arrOf st).toList.map (·.2)).toArray=(arrOf st).map (·.2) by rw[<- Array.toList_map]]at this
 have hs:vs.toArray.size=vs.length:=by simp
 unfold ksk_end;dsimp only;rw[q06 nofun]
 by_cases h2:vs.toArray.size<2
 ·rw[q07 h2,q07 h2]
  refine q04 (q05 ?_);rw[StateT.run_pure];refine q04 (q05 ?_);dsimp only;refine fin (SortSt.mk' general' (keys.zip vs.toArray) #[] 7 none) (List.Perm.refl _) ?_ rfl;have d:(keys.zip vs.toArray).toList.length<2:=by simp;omega
  show(keys.zip vs.toArray).toList.Pairwise _
  match(keys.zip vs.toArray).toList,d with
  | [],_=>exact .nil
  | [v],_=>exact List.pairwise_singleton _ _
  |_::_::_,d=>simp at d;omega
 ·rw[q06 h2,q06 h2]
  refine q04 (hkk ⋯ ?_);refine q04 (q0X (gk (a₀:=keys.zip vs.toArray) (kd:=kd) (r:=r) (C ⋯) (st:=SortSt.mk' kd (keys.zip vs.toArray) #[] 7 none)
   (Q:=λ_ b=>SB (keys.zip vs.toArray) kd b/\(arrOf b).toList.Pairwise (cI r)) ⟨List.Perm.refl _,rfl,rfl⟩ rfl (by rw[g];omega) (λb k j=>⟨k,j⟩) _ rfl) ?_ λ_ _ e=>e)
  rintro⟨⟨⟩,b⟩ s' ⟨rfl,B,c⟩;exact fin b B.perm c B.failed
theorem pi{a:Addr}{vs:Af}{P:Fin->Shared->Prop}(ho:s.heap.get? a=some (seqObj "list" vs.toArray n))(hz:vs.length<=sizeLine)(I:Nat->Array Value->Shared->Prop){e1:Nat}
  (ho1:(s.heap.update a (Obj.mapSeq λ_=>(#[]:Array Value))).get? a=some (seqObj "list" #[] e1)) (h0:I 0 #[] {s with heap:=sort1 s.heap a vs})
  (hI:∀i kA s',I i kA s'->kA.size=i/\s'.heap.get? a=some (seqObj "list" #[] e1)/\∃e,s'.heap.get? (s.heap.objs.size+1)=some (seqObj "list" kA e))
  (step:∀i x kA s',vs[i]?=some x->I i kA s'->wpAny a⁻¹ A (call f [x]) (λv s2=>(∃e,s2.heap.get? (s.heap.objs.size+1)=some (seqObj "list" kA e)) /\
   I (i+1) (kA.push v) {s2 with heap:=s2.heap.update (s.heap.objs.size+1) (Obj.mapSeq (·.push v))}) (λ_ _=>False) s')
  (fin:∀keys s',I vs.length keys s'->∃(kd:SortKind) (r:Keyed->Nat),(2<=vs.length->∀{Q:SortKind->Shared->Prop},Q kd s'->wpAny a⁻¹ A (keyKind' keys) Q E s') /\
   (2<=vs.length->gC prog w A (· = s') (keys.zip vs.toArray) kd r) /\
   ∀ps:List Keyed,ps.Perm (keys.toList.zip vs)->ps.Pairwise (cI r)->P (.done (.ret .none)) {s' with heap:=keyEnd s'.heap a (s.heap.objs.size+1) (ps.map (·.2)).toArray}) :
  wpAny a⁻¹ A (ksk_tree a f false) P E s:=by
 have o:a<s.heap.objs.size:=xu ho;unfold ksk_tree;refine q04 (listItems_at ho rfl (q04 (listUpdate_at ho rfl ?_)));refine q04 (seqEpoch_at ho1 rfl (q04 (wpAny_newTuple (q04 (wpAny_newList (q0Y ?_))))));show wpAny a⁻¹ A _ P E {s with heap:=sort1 s.heap a vs};have y:((s.heap.update a (Obj.mapSeq λ_=>(#[]:Array Value))).push (seqObj "tuple" vs.toArray 0)).objs.size=s.heap.objs.size+1:=by rw[size_push',Heap.size_update]
 show wpAny a⁻¹ A (ksk_rest a f false vs.toArray e1 (.ref ((s.heap.update a (Obj.mapSeq λ_=>(#[]:Array Value))).push (seqObj "tuple" vs.toArray 0)).objs.size)) P E _;rw[y];unfold ksk_rest;refine q04 (wpAny_rule ?_);rw[<- Array.forIn_toList];refine q04 (ksk_fold (λi s'=>∃kA,I i kA s') vs 0 _ ⟨#[],h0⟩ ?step ?done)
 case step=>
  rintro j x s' g ⟨kA,b⟩;simp only[Nat.zero_add]at b ⊢;have hj:j<vs.length:=(wR.mp g).1;obtain⟨d,_,_⟩:=hI _ _ _ b;refine q04 (wpAny_attempt (q0X (step j x kA s' g b) (λv s2 m=>?_) λ_ _ p=>p.elim));obtain⟨⟨e,l⟩,ii⟩:=m;dsimp only;refine q04 (listUpdate_at l rfl ?_ ⋯ (xz (Nat.le_of_eq (Array.size_push ..)) ⋯));exact q05 ⟨rfl,_,ii⟩
 case done=>
  rintro s' ⟨kA,b⟩;rw[Nat.zero_add]at b;obtain⟨d,k,e,c⟩:=hI _ _ _ b;obtain⟨kd,r,u,t,q⟩:=fin _ _ b;refine q04 (listItems_at c rfl ?_);exact qH (xj (Nat.lt_succ_of_lt o)) c k hz d u t q
end
theorem TupS.one{ss:Ak}(h1:TupS h v ss)(h2:TupS h v ts):ss=ts:=by
 obtain⟨a,o,xs,n,rfl,g,_,i,f⟩:=h1;obtain⟨a2,o2,ys,n2,e,b,_,c,d⟩:=h2;cases e;rw[g]at b;cases b
 rw[i]at c;cases c
 rw[<- f.strs,<- d.strs]
theorem TupI.one(h1:TupI h v k)(h2:TupI h v m):k=m:=by
 obtain⟨a,o,n,l,ys,t,rfl,x,_,z,y,r⟩:=h1;obtain⟨a2,o2,n2,w,zs,u,e,d,_,b,i,p⟩:=h2;cases e;rw[x]at d;cases d
 rw[z]at b;have C:k.1=m.1:=by injection b with q;injection q with q;injection q with q _;injection q
 have B:l=w:=by injection b with q;injection q with q;injection q with _ q;injection q with q _;injection q
 subst B;obtain⟨o3,g,_,n3,j⟩:=y;obtain⟨o4,c,_,n4,f⟩:=i;rw[g]at c;cases c
 rw[j]at f;cases f
 exact Prod.ext C (by rw[<- r.strs,<- p.strs])
open Classical in
def rf(h:Heap)(p:Keyed):List (List Nat):=if q:∃ss,TupS h p.1 ss then ks q.choose else[]
open Classical in
def keyI(h:Heap)(p:Keyed):Int×List (List Nat):=if q:∃k,TupI h p.1 k then(q.choose.1,ks q.choose.2) else(0,[])
theorem keyS_eq{p:Keyed}{ss:Ak}(q:TupS h p.1 ss):rf h p=ks ss:=by
 have a:∃ss,TupS h p.1 ss:=⟨ss,q⟩;unfold rf;rw[dif_pos a,a.choose_spec.one q]
theorem keyI_eq{p:Keyed}(q:TupI h p.1 k):keyI h p=(k.1,ks k.2):=by
 have a:∃k,TupI h p.1 k:=⟨k,q⟩;unfold keyI;rw[dif_pos a,a.choose_spec.one q]
section
variable {prog:Aj}{w:Am}{A:Al}{E:Aa}{s:Ae}
theorem cmp_S{a₀:PA}(h:∀p,p∈a₀.toList->∃ss,TupS s.heap p.1 ss):gC prog w A (· = s) a₀ (tuples' b) (rk ordL (rf s.heap) a₀.toList):=by
 intro x d y e s' j;cases j;obtain⟨ss,c⟩:=h x d;obtain⟨ts,a⟩:=h y e;refine qV c a ⟨rfl,?_⟩;rw[<- n8 (O:=ordL) (f:=rf s.heap) (y:=y) d,keyS_eq c,keyS_eq a,fG]
theorem cmp_I{a₀:PA}(hu:A.units<cLine)(h:∀p,p∈a₀.toList->∃k,TupI s.heap p.1 k):gC prog w A (· = s) a₀ (tuples' true) (rk ordI (keyI s.heap) a₀.toList):=by
 intro x c y d s' j;cases j;obtain⟨k,b⟩:=h x c;obtain⟨m,a⟩:=h y d;refine qJ hu b a ⟨rfl,?_⟩;rw[<- n8 (O:=ordI) (f:=keyI s.heap) (y:=y) c,keyI_eq b,keyI_eq a]
theorem kind_S{vs:Af}{Q:SortKind->Shared->Prop}(h:∀v,v∈vs->∃x ss,TupS s.heap v (x::ss))(h0:0<vs.length)(hq:Q (tuples' true) s):wpAny a⁻¹ A (keyKind' vs.toArray) Q E s:=by
 have:∃fs,KatTups s.heap vs fs/\fs.length=vs.length/\∀v,v∈fs->∃x t,v=Value.str x t:=by
  clear h0 hq
  induction vs with
  |nil=>exact⟨[],trivial,rfl,λv b=>nomatch b⟩
  |cons v vs ih=>
   obtain⟨fs,t,l,q⟩:=ih λu hu=>h u (xg _ hu);obtain⟨x,ss,a,o,c,n,rfl,f,i,g,e⟩:=h v (q0B ..);obtain⟨c⟩:=c;cases e with
   |cons x d hs'=>
    refine⟨.str x d::fs,KatTups.cons f i g rfl t,by simp[l],λu hu=>?_⟩;rcases xf.mp hu with rfl | hu
    ·exact⟨_,_,rfl⟩
    ·exact q u hu
 obtain⟨fs,t,l,q⟩:=this;refine kat_kind (T:=.type "str") t ⋯ (λv b=>?_) (by rfl) hq;obtain⟨x,d,rfl⟩:=q v b;exact .now
theorem kind_I{vs:Af}{Q:SortKind->Shared->Prop}(h:∀v,v∈vs->∃k,TupI s.heap v k)(h0:0<vs.length)(hq:Q (tuples' true) s):wpAny a⁻¹ A (keyKind' vs.toArray) Q E s:=by
 have:∃fs,KatTups s.heap vs fs/\fs.length=vs.length/\∀v,v∈fs->∃x t,v=Value.int x t:=by
  clear h0 hq
  induction vs with
  |nil=>exact⟨[],trivial,rfl,λv b=>nomatch b⟩
  |cons v vs ih=>
   obtain⟨fs,t,l,q⟩:=ih λu hu=>h u (xg _ hu);obtain⟨k,a,o,n,ll,ys,c,rfl,d,f,e,hl,hs⟩:=h v (q0B ..);refine⟨.int k.1 c::fs,KatTups.cons d f e rfl t,by simp[l],λu hu=>?_⟩;rcases xf.mp hu with rfl | hu
   ·exact⟨_,_,rfl⟩
   ·exact q u hu
 obtain⟨fs,t,l,q⟩:=this;refine kat_kind (T:=.type "int") t ⋯ (λv b=>?_) (by rfl) hq;obtain⟨x,c,rfl⟩:=q v b;exact .now
end
end TS
namespace L2
open PySem PySem.Spec PyProof.Rows
theorem eB{α β:Type}{f:α->β}{l l':List β}(h:l.Perm l'):∀m:List α,l'=m.map f->∃m':List α,m'.Perm m/\l=m'.map f:=by
 induction h with
 |nil=>intro m e;exact⟨m,List.Perm.refl _,e⟩
 |cons x _ ih=>
  intro m e;cases m with
  |nil=>exact nomatch e
  |cons y m=>
   obtain⟨d,c⟩:=List.cons.inj e;obtain⟨m',p,q⟩:=ih m c;exact⟨y::m',p.cons y,by rw[q,d];rfl⟩
 |swap x y l=>
  intro m e
  match m,e with
  |a::b::m,e=>
   obtain⟨d,c⟩:=List.cons.inj e;obtain⟨r,o⟩:=List.cons.inj c;exact⟨b::a::m,List.Perm.swap a b m,by rw[d,r,o];rfl⟩
 |trans _ _ ih1 ih2=>
  intro m e;obtain⟨m1,k,i⟩:=ih2 m e;obtain⟨n,j,g⟩:=ih1 m1 i;exact⟨n,j.trans k,g⟩
theorem lQ{h h':Heap}(u:∀b o,h.get? b=some o->h'.get? b=some o)(q:TS.TupI h v k):TS.TupI h' v k:=by
 obtain⟨a,o,n,l,g,t,e,p,w,r,⟨i,c,f,j,d⟩,m⟩:=q;exact⟨a,o,n,l,g,t,e,u _ _ p,w,r,⟨i,u _ _ c,f,j,d⟩,m⟩
theorem eU{h:Heap}{a b:Addr}{o:Obj}(hb:h.get? b=some o)(hne:b≠a):(TS.sort1 h a vs).get? b=some o:=by
 unfold TS.sort1;refine wS _ (wS _ ?_);rw[Heap.get?_update_ne _ _ _ _ hne];exact hb
abbrev j_(s:Ae)(its:Af):Shared:={s with heap:=(s.heap.push (seqObj "list" #[] 0)).update s.heap.objs.size (Obj.mapSeq (· ++ its.toArray))}
def sk(K:Ab)(H:Hp)(x:V)(k:Int×List Str):Prop:=∃a l,x=.ref a/\fq K H a [.int k.1,.ref l]/\aS K H l (k.2.map V.str)
section
variable {X:Cx}
theorem Inv.pair{pins:Ac}{σ:St}(I:Inv X pins σ H s){x:V}{k:Int×List Str}{u:Value}(h:sk X.K H x k)(r:aI x u):TS.TupI s.heap u k:=by
 obtain⟨a,l,rfl,e,g⟩:=h;obtain rfl:u=Value.ref a:=r;obtain⟨its,b,⟨o,f,j,n,i⟩,_⟩:=I.tuple e;obtain⟨js,c,d,_⟩:=I.list g;cases b with
 |cons q1 b=>
  cases b with
  |cons q2 b=>
   cases b;obtain⟨t,rfl⟩:=q1;obtain rfl:=q2;exact⟨a,o,n,l,_,t,rfl,f,j,i,d.isList,by simpa using cq c⟩
abbrev kI(k:Int×List Str):Int×List (List Nat):=(k.1,TS.ks k.2)
def lq(K:Ab):List V->Hp->VK->Prop:=λxs H Q=>∃(p:Addr) (kvs:List (V×(Int×List Str))),xs=[.ref p]/\aS K H p (kvs.map (·.1))/\(∀e,e∈kvs->sk K H e.1 e.2) /\
 ∀zs:List (V×(Int×List Str)),zs.Perm kvs->zs.Pairwise (λa b=>TS.ordI.blt (kI b.2) (kI a.2)=false)->∀l,H l=none->Q (.ref l) (aR H l (.lst (zs.map (·.1))))
theorem kg:∀{ys:List V} {us:Af},aD ys us->∀{kvs:List (V×(Int×List Str))},ys=kvs.map (·.1)->∀t,t∈us.zip kvs->aI t.2.1 t.1
 |_,_,.nil,_,_,t,ht=>by simp at ht
 |_,_,.cons q r,kvs,e,t,ht=>by
  cases kvs with
  |nil=>exact nomatch e
  |cons e0 kvs=>
   obtain⟨e1,e2⟩:=List.cons.inj e;rw[List.zip_cons_cons]at ht;rcases xf.mp ht with rfl | ht
   ·cases e1;exact q
   ·exact kg r e2 t ht
theorem jS:∀{m:List (Value×(V×(Int×List Str)))},(∀t,t∈m->aI t.2.1 t.1)->aD ((m.map (·.2)).map (·.1)) (m.map (·.1))
 | [],_=>.nil
 |t::m,h=>.cons (h t (q0B ..)) (jS λu hu=>h u (xg _ hu))
theorem lE(hu:X.A.units+2<cLine):bV X (.builtin "sorted") (lq X.K):=by
 intro z s σ H xs us Q I r h;obtain⟨p,kvs,rfl,hq,hp,q⟩:=h;obtain⟨u,rfl,rx⟩:=g_ r;cases rx;obtain⟨c,r',pl,hz⟩:=I.list hq;have D:=r'.length;rw[wT]at D hz;have L:((s.heap.push (seqObj "list" #[] 0)).update s.heap.objs.size (Obj.mapSeq (· ++ c.toArray))).objs.size=s.heap.objs.size+1:=by rw[Heap.size_update,size_push']
 have R:=kg r' (kvs:=kvs) rfl;have g:∀t,t∈c.zip kvs->TS.TupI s.heap t.1 t.2.2:=λt d=>I.pair (hp t.2 (List.of_mem_zip d).2) (R t d);have j:∀b o,s.heap.get? b=some o->(TS.sort1 (TS.with1 (j_ s c) c) (j_ s c).heap.objs.size c).get? b=some o:=λb o n=>by
  have C:=xu n;have e0:(j_ s c).heap.objs.size=s.heap.objs.size+1:=L;refine eU ?_ (by rw[e0];exact xj (Nat.lt_succ_of_lt C));refine wS _ ?_;show((s.heap.push (seqObj "list" #[] 0)).update s.heap.objs.size (Obj.mapSeq (· ++ c.toArray))).get? b=some o;rw[Heap.get?_update_ne _ _ _ _ (xj C)];exact wS _ n
 have mz:∀v,v∈c->∃t,t∈c.zip kvs/\t.1=v:=λv Z=>by
  obtain⟨i,hi,e⟩:=List.mem_iff_getElem.mp Z;refine⟨(c.zip kvs)[i]'(by simp;omega),w6 _,?_⟩;rw[List.getElem_zip];exact e
 have all:∀v,v∈c->∃k,TS.TupI (TS.sort1 (TS.with1 (j_ s c) c) (j_ s c).heap.objs.size c) v k:=λv Z=>by
  obtain⟨t,d,rfl⟩:=mz v Z;exact⟨_,lQ j (g t d)⟩
 refine TS.sorted_call (s2:=j_ s c) (vs:=c) (kd:=tuples' true) (λh'=>collect_list pl.isList h' ⋯) ⋯ (λh2 {Q} hq=>TS.kind_I (vs:=c) all ⋯ hq)
  (λ_=>TS.cmp_I (show X.A.units+1+1<cLine from hu) λp B=>all p.1 (by rw[pairsOf_toList]at B;exact(mem_zip_self B).2)) λps p1 p2=>?_
 have ez:c.zip c=(c.zip kvs).map λt=>(t.1,t.1):=by
  apply List.ext_getElem
  ·simp;omega
  ·intro i i1 i2
   rw[List.getElem_zip,xw,List.getElem_zip]
 rw[pairsOf_toList]at p2;have U:=TS.ranks_out p1 p2;obtain⟨f,S,rfl⟩:=eB p1 _ ez;have Y:∀t,t∈f->t∈c.zip kvs:=λt d=>S.mem_iff.mp d;have l:∀t,t∈f->TS.keyI (TS.sort1 (TS.with1 (j_ s c) c) (j_ s c).heap.objs.size c) (t.1,t.1)=kI t.2.2:=λt d=>TS.keyI_eq (p:=(t.1,t.1)) (lQ j (g t (Y t d)));rw[List.pairwise_map]at U;have T:(f.map (·.2)).Pairwise λa b=>TS.ordI.blt (kI b.2) (kI a.2)=false:=by
  rw[List.pairwise_map];refine(List.Pairwise.and_mem.mp U).imp ?_;rintro x y ⟨hx,hy,n⟩;rw[l x hx,l y hy]at n;exact n
 have O:(f.map (·.2)).Perm kvs:=(S.map _).trans (by rw[List.map_snd_zip ⋯]);have M:=jS (m:=f) λt d=>R t (Y t d);have eo:(List.map (λx=>x.2) (List.map (λt:Value×(V×(Int×List Str))=>(t.1,t.1)) f))=f.map (·.1):=by rw[xc];rfl
 rw[eo];generalize f.map (·.1)=out at M ⊢;generalize f.map (·.2)=zs at M T O;clear U S l Y;have qq:=q zs O T;have G:(zs.map (·.1)).length<=sizeLine:=by rw[wT,O.length_eq];exact hz
 generalize zs.map (·.1)=zv at M qq G;clear T O q g R hp all mz j;show EP X z σ Q (.ref ((s.heap.push (seqObj "list" #[] 0)).update s.heap.objs.size (Obj.mapSeq (· ++ c.toArray))).objs.size) {s with heap:=sortedHeap (((s.heap.push (seqObj "list" #[] 0)).update s.heap.objs.size (Obj.mapSeq (· ++ c.toArray))).push (seqObj "list" c.toArray 0)) ((s.heap.push (seqObj "list" #[] 0)).update s.heap.objs.size (Obj.mapSeq (· ++ c.toArray))).objs.size c out.toArray};rw[L];obtain⟨e,he⟩:=sortedAll_at s.heap c out.toArray;exact⟨.ref (s.heap.objs.size+1),_,I.laid (t':=s.toks) (h':=sortedAll s.heap c out.toArray) (λb o n=>sortedAll_old n) (Nat.le_succ _) (show ba X.prog X.w _ _ _ (.lst zv) from⟨G,out,e,M,he⟩),rfl,qq _ (I.hok.fresh (Nat.le_succ _))⟩
end
@[reducible] def wt:KeyOrd where
 α:=Int
 blt a b:=decide (a<b)
 irrefl a:=by simp
 trans a b c h1 h2:=by simp only[q0a]at *;omega
 negTrans a b c h:=by simp only[q0a]at *;omega
 total a b h1 h2:=by simp only[decide_eq_false_iff_not]at *;omega
end L2
namespace TS
open PySem PyProof.Rows PySem.W
section
variable {prog:Aj}{w:Am}{A:Al}{E:Aa}{s:Ae}{T:String}{r d:Addr}{n:Nat}{P:Nat->Value->Prop}{OK:Heap->Prop}
theorem collect_src{Q:List Value->Shared->Prop}(K:KdlSrc prog w T r d n P OK)(hh:A.handled=none)(hok:OK s.heap)(hn:n<=sizeLine)
  (h:∀h' tk (acc':Array Value),(∀b o,s.heap.get? b=some o->h'.get? b=some o)->ItemsOf P acc' n->Q acc'.toList {s with heap:=h',toks:=tk}) :
  wpAny a⁻¹ A (collect (.ref r)) Q E s:=by
 have l:=K.there _ hok;unfold collect;refine q04 (wpAny_runValue (codeAny_builtin entry_proto_collect' (show wpAny _ _ (do again (.builtin "list.__iadd__" ⟨[<- newList [],.ref r],[]⟩)) _ _ s from q04 (wpAny_newList (q05 ⟨Code.quiet_builtin _ (by decide +kernel),codeAny_builtin entry_list_iadd' ?_⟩)))));show wpAny _ _ (Builtin.List.listExtendWith (.ref s.heap.objs.size) (.ref r) (.ref s.heap.objs.size)) _ _ {s with heap:=s.heap.push (seqObj "list" #[] 0)};rw[Around.under_plainId (show plainId "list.__iadd__"=true by decide +kernel) _];refine q0X (kdl_extend (s:={s with heap:=s.heap.push (seqObj "list" #[] 0)}) (R:=λc i=>c=.ok (.ret (.ref s.heap.objs.size))/\∃h' tk acc' k,i={s with heap:=h',toks:=tk}/\(∀b o,s.heap.get? b=some o->h'.get? b=some o) /\
   h'.get? s.heap.objs.size=some {cls:=.type "list",dict:=none,data:=.seq acc' k,slots:=#[]}/\ItemsOf P acc' n) K hh (K.keep _ _ hok λb _ o e=>wS _ e) s.heap.objs.size (Nat.ne_of_gt l.1) (Nat.ne_of_gt l.2) (.ref s.heap.objs.size) 0 (wY _ rfl)
  (λh' tk acc' k m j g=>⟨rfl,h',tk,acc',k,rfl,λb o q=>m b o (xj (xu q)) (wS _ q),j,g⟩) hn) (λfin i p=>?_) λe i y=>?_
 ·have t:∀(c:Result) (i:Ae),(c=.ok (.ret (.ref s.heap.objs.size))/\∃h' tk acc' k,i={s with heap:=h',toks:=tk}/\(∀b o,s.heap.get? b=some o->h'.get? b=some o) /\
    h'.get? s.heap.objs.size=some {cls:=.type "list",dict:=none,data:=.seq acc' k,slots:=#[]}/\ItemsOf P acc' n) ->
    match c with
    |Except.ok (Flow.ret v)=>wpAny a⁻¹ A (match v with
      |Value.ref a=>do
       let o <- load a
       match o.data with
        |Data.seq xs epoch=>pure xs.toList
        |x=>unsupported "internal:collect"
      |x=>unsupported "internal:collect") Q E i
    |Except.ok a=>False
    |Except.error e=>E e i:=by
   rintro c i ⟨rfl,h',tk,acc',k,rfl,m,j,g⟩;exact q04 (wpAny_load j (q05 (h h' tk acc' m g)))
  cases fin with
  |done f=>exact t _ _ p
  |again k=>exact⟨p.1,codeAny_mono p.2 λc u hr=>t c u hr⟩
 ·exact nomatch y.1
end
section
variable {prog:Aj}{w:Am}{A:Al}{E:Aa}{s:Ae}
def KeyRun(prog:Aj)(w:Am)(A:Al)(E:Aa)(q:Addr)(Q:Aa)(vs:Af)(s2:Ae):Prop:=
 vs.length<=sizeLine/\∀e1,((with1 s2 vs).update s2.heap.objs.size (Obj.mapSeq λ_=>(#[]:Array Value))).get? s2.heap.objs.size=some (seqObj "list" #[] e1)->∀kS,kS=(with1 s2 vs).objs.size+1 ->
   ∃(I:Nat->Array Value->Shared->Prop),I 0 #[] {s2 with heap:=sort1 (with1 s2 vs) s2.heap.objs.size vs} /\
  (∀i kA s',I i kA s'->kA.size=i/\s'.heap.get? s2.heap.objs.size=some (seqObj "list" #[] e1)/\∃e,s'.heap.get? kS=some (seqObj "list" kA e)) /\
  (∀i x kA s',vs[i]?=some x->I i kA s'->wpAny a⁻¹ A.in1.in1 (call (.ref q) [x]) (λv s3=>(∃e,s3.heap.get? kS=some (seqObj "list" kA e))/\I (i+1) (kA.push v) {s3 with heap:=s3.heap.update kS (Obj.mapSeq (·.push v))}) (λ_ _=>False) s') /\
  (∀keys s',I vs.length keys s'->∃(kd:SortKind) (r:Keyed->Nat),(2<=vs.length->∀(Q:SortKind->Shared->Prop),Q kd s'->wpAny a⁻¹ A.in1.in1 (keyKind' keys) Q E s')/\(2<=vs.length->gC prog w A.in1.in1 (· = s') (keys.zip vs.toArray) kd r) /\
   ∀ps:List Keyed,ps.Perm (keys.toList.zip vs)->ps.Pairwise (cI r)->Q (.ref s2.heap.objs.size) {s' with heap:=keyEnd s'.heap s2.heap.objs.size kS (ps.map (·.2)).toArray})
theorem sorted_key(hc:wpAny a⁻¹ A.in1 (collect v) (KeyRun prog w A E q Q) E s) :
  wpAny a⁻¹ A (call (.builtin "sorted") [v] [(Str.ofString "key",.ref q)]) Q E s:=by
 refine call_function_entry_kw kind_sorted plain_sorted entry_sorted (ksk_s1 _ _) ?_;unfold Builtin.«sorted»;refine q04 (m:=checkCount "sorted" 1 1 _) (q05 ?_)
 refine q04 (q0X hc (λvs a ⟨n,h⟩=>?_) λ_ _ e=>e);refine q04 (wpAny_newList ?_ (hsz:=by omega));have b:(with1 a vs).get? a.heap.objs.size=some (seqObj "list" vs.toArray 0):=wY _ rfl;show wpAny _ _ _ _ _ {a with heap:=with1 a vs};obtain⟨z,d⟩:=lT b;obtain⟨I,t,p,f,fin⟩:=h z d _ rfl;refine q04 (q0Y (wpAny_call_entry_kw slot_list_sort ⟨_,b,rfl⟩ entry_list_sort ?body (ksk_l1 _ _)))
 case body=>
  show wpAny a⁻¹ A.in1.in1 (Builtin.«list.sort» ⟨[.ref a.heap.objs.size],[(Str.ofString "key",.ref q)]⟩) _ _ _;rw[ksk_t1];refine pi (s:={a with heap:=with1 a vs}) b n I d t p f λc g o=>?_;obtain⟨l,r,y,x,u⟩:=fin c g o;exact⟨l,r,λh2 {Q} hq=>y h2 Q hq,x,λi k j=>⟨_,rfl,q05 ⟨_,rfl,u i k j⟩⟩⟩
end
end TS
namespace L2
open PySem PySem.Spec PyProof.Rows QL
abbrev jB(p a:Addr):HO:=.ext λh=>h.IsValuesView p a
section
variable {X:Cx}{pins:Ac}{σ:St}{H:Hp}{s:Ae}{h':Heap}
theorem Inv.adopt{t':Nat}{a:Addr}(I:Inv X pins σ H s)(k:∀b u,b≠a->s.heap.get? b=some u->h'.get? b=some u)(hn:H a=none)(hL:a≠X.env.locals)
  (h1:X.s₀.heap.objs.size<=a) (h2:∀x c,X.env.cells.lookup x=some c->c≠a) (h3:∀p∈X.pn++pins,p.1≠a) (new:ba X.prog X.w (aR H a o) h' a o):Inv X pins σ (aR H a o) {s with heap:=h',toks:=t' }:=by
 have g:∀b u,H b=some u->b≠a:=λb u e z=>by rw[z,hn]at e;cases e
 have f:∀b u,H b=some u->aR H a o b=some u:=λb u e=>by rw[ar (g b u e)];exact e
 refine I.step (g':=s.gens) (d':=s.drawn) (ch:=[a]) (λb i=>?_) (λb o _ _ d e _=>k b o (λz=>d (by simp[z])) e) (λb o _ _ d e _=>⟨o.slots,k b o (λz=>d (by simp[z])) e⟩) (λb _ d _ n=>by rw[ar (λz=>d (by simp[z]))];exact n)
  (λb o d e=>⟨o,k b o (λz=>d (by simp[z])) e⟩) (λb j e=>f _ _ e) (λb _ _ e=>f _ _ e) (λb ps e=>⟨#[],by rw[f _ _ e];simp⟩) (λm t=>?_) (λb u e=>?_) I.bare
 ·have e:b=a:=by simpa using i
  subst e;exact⟨.inr h1,hL,h2,h3⟩
 ·obtain⟨o,w,y,l,r⟩:=t
  exact⟨o,w,y,k _ o (Ne.symm hL) l,r⟩
 ·by_cases i:b=a
  ·subst i;rw[am]at e;cases e;exact new
  ·rw[ar i]at e
   refine(I.hok b u e).stay (λc v d q=>k c v ?_ q) (λc q=>f _ _ q) λc j q=>f _ _ q;rcases d with z | z
   ·rw[z];exact i
   ·exact g c _ z
end
section
variable {X:Cx}{o:Expr}{apos cpos:Pos}{td:TE}
def ly(td:TE):TE:=λσ H Q=>td σ H λx H1=>∃a kvs,x=.ref a/\H1 a=some (.dK kvs)/\∀p,H1 p=none->Q (.ref p) (aR H1 p (jB p a))
theorem qt(ho:PE X o td)(hb:attributeBase o "values" X.env (eval o X.env)=eval o X.env)(hl:(apos.endLine==cpos.line)=true):PE X (.Call (.Attribute o "values" apos) [] [] cpos) (ly td):=by
 intro c s σ H Q I h;refine wpAny_Call_method0_late hb hl (bK (ho c s σ H _ I h) λu d ⟨x,H1,f,p,a,g,r,j,q⟩=>?_);subst r;obtain rfl:u=Value.ref a:=p;obtain⟨n,m,t3⟩:=tE f (.inl ⟨g,.inl j⟩);refine⟨"dict",_,PySem.F.plainAttrs_dict,PySem.F.slot_dict_values,PySem.F.type_dict_values,n,m,?_⟩;refine Calls.callWith_builtin rfl (evalArgs_nil3 ?_);obtain⟨z,i,vs,rel,l⟩:=qp f.hok j;refine call_meetsIn PySem.F.slot_dict_values l.typeIs PySem.F.entry_dict_values (PySem.F.args_dict_values_1 _) (meets_dict_values (bz X.prog X.w) a i) ⟨⟨_,l⟩,?_⟩;refine⟨.ref d.heap.objs.size,aR H1 d.heap.objs.size (jB d.heap.objs.size a),f.laid (t':=d.toks) (λb u e=>wS _ e) (xp _) ?_,rfl,q _ (f.hok.fresh (xp _))⟩;refine⟨⟨_,wY _ rfl,rfl,rfl⟩,⟨_,wY _ rfl⟩,?_⟩;rintro h1 h2 ⟨o,ho,x⟩ k;exact⟨o,k o ho,x⟩
end
end L2
namespace L2
open PySem PySem.Spec PyProof.Rows QL PySem.W
theorem c5{α β:Type}{F:α->β->Prop}:∀{l₁:List α} {l₂:List β} {i:Nat} {a:α},Paired F l₁ l₂->l₁[i]?=some a->∃b,l₂[i]?=some b/\F a b
 |_,_,_,_,.nil,e=>by simp at e
 |_,_,0,_,.cons r _,e=>by simp at e;subst e;exact⟨_,rfl,r⟩
 |_,_,i+1,a,.cons _ t,e=>by
  obtain⟨u,h1,h2⟩:=c5 (i:=i) (a:=a) t (by simpa using e);exact⟨u,by simpa using h1,h2⟩
abbrev VE:=b7×Addr×List Str
abbrev ent(e:VE):b7×V:=(e.1,.ref e.2.1)
abbrev n9(e:VE):V:=.ref e.2.1
def cK(g:List Str->Int)(zs:List VE):Prop:=zs.Pairwise λa b=>TS.ordI.blt (kI (g b.2.2,b.2.2)) (kI (g a.2.2,a.2.2))=false
section
variable {X:Cx}{pins:Ac}{σ:St}{H:Hp}{s:Ae}{k:Nat}{f:Addr}{fd:Ai}{ps:Ak}{sp:Sp}{P:List Str->Prop}{g:List Str->Int}{Q:VK}{vs:Af}{es:List VE}
theorem qZ(F:bH X.prog X.w X.K X.mg X.base cv k f fd ps sp)(hb:cy X.K fd ps [])(hr:cr (k+2) X.A)
  (hsp:∀l ss H Q E,aS X.K H l (ss.map V.str)->P ss->(∀t,H t=none->Q (.ref t) (aR H t (.tup [.int (g ss),.ref l])))->sp [.ref l] H Q E)
  (I:Inv X pins σ H s) (hl:vs.length=es.length) (hz:es.length<=sizeLine) (hit:∀(i:Nat) (x:Value),vs[i]?=some x->∃e:VE,es[i]?=some e/\x=Value.ref e.2.1)
  (hes:∀e,e∈es->aS X.K H e.2.1 (e.2.2.map V.str)/\P e.2.2)
  (q:∀zs:List VE,zs.Perm es->cK g zs->∀(H':Hp) (l:Addr),aE H H'->H l=none->H' l=some (.lst (zs.map n9))->Q (.ref l) H') :
  TS.KeyRun X.prog X.w X.A X.xe f (EP X pins σ Q) vs s:=by
 refine⟨⋯,λe1 a7 O a5=>?_⟩;have hw:(TS.with1 s vs).objs.size=s.heap.objs.size+1:=size_push' ..;rw[hw]at a5;have nL:∀b,s.heap.objs.size<=b->b≠X.env.locals:=λb hb z=>by have h1:(X.env.locals:Nat)<s.heap.objs.size:=I.lt;rw[<- z]at h1;exact q0Q (xi h1 hb) (xA _)
 have nF:∀b,s.heap.objs.size<=b->b∉X.fs:=λb hb=>I.nofs hb;have nC:∀b,s.heap.objs.size<=b->∀x c,X.env.cells.lookup x=some c->c≠b:=λb hb x c e z=>by
  obtain⟨v,o,ho,_⟩:=I.cell x c e;have h1:=xu ho;rw[z]at h1;exact q0Q (xi h1 hb) (xA _)
 have nP:∀b,s.heap.objs.size<=b->∀p∈X.pn++pins,p.1≠b:=λb hb p hp z=>by
  have h1:=xu (I.pin p hp).1;rw[z]at h1;exact q0Q (xi h1 hb) (xA _)
 have nS:X.s₀.heap.objs.size<=s.heap.objs.size:=I.sz;have a2:H s.heap.objs.size=none:=I.hok.fresh (xp _);have Z:∀{M:Hp} {C:Ae} {pins':Ac},Inv X (pins++pins') σ M C->∀p∈pins,C.heap.get? p.1=some p.2/\M p.1=none/\p.1≠X.env.locals/\p.1∉X.fs/\∀v,p.2.data≠.cell v:=λJ p hp=>J.pin p (q0C _ (q0D _ hp));have B:∀(xs:Array Value) (n:Nat) (v),(seqObj "list" xs n).data≠.cell v:=λxs n v z=>by cases z
 refine⟨λi kA C=>∃(M:Hp) (D:Ag) (e:Nat),Inv X (pins++[(s.heap.objs.size,seqObj "list" #[] e1),(O,seqObj "list" kA e)]) σ M C/\aE H M/\kA.toList=D.map Value.ref/\D.length=i /\
  (∀(j:Nat) (t:Addr) (d:VE),D[j]?=some t->es[j]?=some d->M t=some (.tup [.int (g d.2.2),.ref d.2.1])),?_,?_,?_,?_⟩
 ·have I':Inv X pins σ H {s with heap:=TS.sort1 (TS.with1 s vs) s.heap.objs.size vs}:=by
   refine I.kept (t':=s.toks) λb u e=>?_;have:=xu e;exact eU (wS _ e) (xj this)
  refine⟨H,[],0,I'.pins_of λp hp=>?_,aE.refl _,rfl,rfl,λj t d h=>by simp at h⟩;rcases xb.mp hp with hp | hp
  ·exact I'.pin p (q0C _ hp)
  ·rcases xf.mp hp with rfl | hp
   ·exact⟨wS _ (wS _ a7),a2,nL _ (xp _),nF _ (xp _),B _ _⟩
   ·obtain rfl:=wU.mp hp
    refine⟨?_,I.hok.fresh ⋯,nL _ ⋯,nF _ ⋯,B _ _⟩;have a9:(((TS.with1 s vs).update s.heap.objs.size (Obj.mapSeq λ_=>(#[]:Array Value))).push (seqObj "tuple" vs.toArray 0)).objs.size=O:=by rw[size_push',Heap.size_update,hw];omega
    show(TS.sort1 (TS.with1 s vs) s.heap.objs.size vs).get? O=_;rw[<- a9];exact wY _ rfl
 ·rintro i kA C ⟨M,D,e,R,sm,hk,T,Y⟩
  refine⟨by rw[<- Array.length_toList,hk,wT];exact T,(R.pin (s.heap.objs.size,_) (by simp)).1,e,(R.pin (O,_) (by simp)).1⟩
 ·rintro i x kA C hx ⟨M,D,e,R,sm,hk,T,Y⟩
  obtain⟨d,U,rfl⟩:=hit i x hx;have a4:d∈es:=wW U;have hS:=sm.seq (hes d a4).1;have a3:=hsp d.2.1 d.2.2 M (λv H2=>∃t,v=.ref t/\M t=none/\H2=aR M t (.tup [.int (g d.2.2),.ref d.2.1])) E0 hS (hes d a4).2 λt ht=>⟨t,rfl,ht,rfl⟩;refine wpAny_call (codeAny_mono (F.run X.A.in1.in1 X.stack C M ⟨[.ref d.2.1],[]⟩ [.ref d.2.1] [.ref d.2.1] _ E0 (hr.in1.in1) R.env0.in1.in1 (hb C [.ref d.2.1] R.kIn (by have:=F.len _ _ _ _ a3;simpa using this)) (.cons rfl .nil) a3) λr s2 hq=>?_);cases r with
  |error e=>exact hq
  |ok fl=>
   cases fl with
   |next=>exact False.elim hq
   |brk=>exact False.elim hq
   |cont=>exact False.elim hq
   |ret u=>
    obtain⟨v,H2,I2,rv,t,rfl,ht,rfl⟩:=R.after hq;obtain rfl:u=Value.ref t:=rv;have p0:=I2.pin (s.heap.objs.size,seqObj "list" #[] e1) (by simp);have pk:=I2.pin (O,seqObj "list" kA e) (by simp);have Ia:Inv X (pins++[(s.heap.objs.size,seqObj "list" #[] e1)]) σ (aR M t (.tup [.int (g d.2.2),.ref d.2.1])) s2:=I2.pins_of λp hp=>by
     rcases xb.mp hp with hp | hp
     ·exact Z I2 p hp
     ·obtain rfl:=wU.mp hp;exact p0
    have Ib:=Ia.turned (t':=s2.toks) (h':=s2.heap.update O (Obj.mapSeq (·.push (Value.ref t)))) (λb o hb e=>(Heap.get?_update_ne _ _ _ _ hb).trans e) pk.2.1 (nL _ ⋯) (.inr ⋯) (nC _ ⋯) (λp hp=>by
     rcases xb.mp hp with hp | hp
     ·exact nP _ ⋯ p (q0D _ hp)
     ·rcases xb.mp hp with hp | hp
      ·exact nP _ ⋯ p (q0C _ hp)
      ·obtain rfl:=wU.mp hp;show s.heap.objs.size≠O;omega)
    obtain⟨e',a8⟩:∃e',(s2.heap.update O (Obj.mapSeq (·.push (Value.ref t)))).get? O=some (seqObj "list" (kA.push (Value.ref t)) e'):=⟨_,get?_update_seq pk.1 _⟩;refine⟨⟨e,pk.1⟩,aR M t (.tup [.int (g d.2.2),.ref d.2.1]),D++[t],e',Ib.pins_of λp hp=>?_,sm.trans (aA ht),by simp[hk],by simp[T],λj u e2 h1 h2=>?_⟩
    rotate_right
    ·by_cases hj:j<D.length
     ·rw[xm hj]at h1
      have q1:=Y j u e2 h1 h2;rw[ar (aw q1 ht)];exact q1
     ·have:j=D.length:=by have:=(wR.mp h1).1;simp at this;omega
      subst this;rw[List.getElem?_concat_length]at h1;cases h1;rw[T,U]at h2;cases h2;exact am
    ·rcases xb.mp hp with hp | hp
     ·exact Ib.pin p (q0C _ (q0D _ hp))
     ·rcases xf.mp hp with rfl | hp
      ·exact Ib.pin (s.heap.objs.size,_) (by simp)
      ·obtain rfl:=wU.mp hp
       exact⟨a8,pk.2.1,nL _ ⋯,nF _ ⋯,B _ _⟩
 ·rintro L C ⟨M,D,e,R,sm,hk,T,Y⟩
  have ez:L.toList.zip vs=(D.zip es).map λG=>(Value.ref G.1,Value.ref G.2.2.1):=by
   apply List.ext_getElem
   ·simp[hk];omega
   ·intro i i1 i2
    have h1:i<vs.length:=by rw[q0N]at i1;omega
    obtain⟨d,U,hx⟩:=hit i vs[i] (wQ h1);obtain⟨h3,h4⟩:=wR.mp U;simp only[List.getElem_zip,xw,hk,hx,h4]
  have tup:∀G,G∈D.zip es->TS.TupI C.heap (Value.ref G.1) (g G.2.2.2,G.2.2.2):=λG a6=>by
   obtain⟨i,hi,e⟩:=List.mem_iff_getElem.mp a6;rw[List.getElem_zip]at e;have h1:i<D.length:=by rw[q0N]at hi;omega
   have h2:i<es.length:=by rw[q0N]at hi;omega
   have q1:=Y i D[i] es[i] (wQ h1) (wQ h2);subst e;exact R.pair (x:=.ref D[i]) ⟨D[i],es[i].2.1,rfl,fq.of q1,sm.seq (hes _ (w6 h2)).1⟩ rfl
  have all:∀v,v∈L.toList->∃k,TS.TupI C.heap v k:=λv hv=>by
   rw[hk]at hv;obtain⟨t,ht,rfl⟩:=xM.mp hv;obtain⟨i,hi,e⟩:=List.mem_iff_getElem.mp ht;refine⟨_,tup (D[i],es[i]'⋯) ?_ |> λz=>by rw[<- e];exact z⟩;refine List.mem_iff_getElem.mpr ⟨i,by rw[q0N];omega,by rw[List.getElem_zip]⟩
  refine⟨tuples' true,TS.rk TS.ordI (TS.keyI C.heap) (L.zip vs.toArray).toList,λh2 Q hq=>?_,λ_=>TS.cmp_I (by have:=hr.un;show X.A.units+1+1<cLine;omega) λp hp=>all p.1 ?_,λps p1 p2=>?_⟩
  ·have:=TS.kind_I (prog:=X.prog) (w:=X.w) (A:=X.A.in1.in1) (E:=X.xe) (vs:=L.toList) all (by rw[hk,wT];omega) hq
   simpa using this
  ·rw[ksk_zip]at hp
   exact(List.of_mem_zip hp).1
  ·rw[ksk_zip]at p2
   have p3:=TS.ranks_out p1 p2;obtain⟨S,pm,rfl⟩:=eB p1 _ ez;have mm:∀t,t∈S->t∈D.zip es:=λt ht=>pm.mem_iff.mp ht;rw[List.pairwise_map]at p3;have p4:cK g (S.map (·.2)):=by
    unfold cK;rw[List.pairwise_map];refine(List.Pairwise.and_mem.mp p3).imp ?_;rintro x y ⟨hx,hy,hb⟩;rw[TS.keyI_eq (p:=(Value.ref x.1,Value.ref x.2.2.1)) (tup x (mm x hx)),TS.keyI_eq (p:=(Value.ref y.1,Value.ref y.2.2.1)) (tup y (mm y hy))]at hb;exact hb
   have p5:(S.map (·.2)).Perm es:=(pm.map _).trans (by rw[List.map_snd_zip ⋯]);have qq:=q _ p5 p4;have a1:(((S.map (·.2))).map n9).length<=sizeLine:=by rw[wT,p5.length_eq];exact hz
   have vo:aD ((S.map (·.2)).map n9) (S.map λG=>Value.ref G.2.2.1):=by
    clear p3 p4 p5 qq a1 mm pm p1 p2
    induction S with
    |nil=>exact .nil
    |cons t m ih=>exact .cons rfl ih
   have eo:List.map (λx=>x.2) (List.map (λG:Addr×VE=>(Value.ref G.1,Value.ref G.2.2.1)) S)=S.map λG=>Value.ref G.2.2.1:=by rw[xc];rfl
   rw[eo];generalize(S.map λG=>Value.ref G.2.2.1)=out at vo ⊢;generalize(S.map (·.2)).map n9=zv at vo qq a1;clear p3 p4 p5 pm mm p2 p1 eo;have p0:=R.pin (s.heap.objs.size,seqObj "list" #[] e1) (by simp);have pk:=R.pin (O,seqObj "list" L e) (by simp);have Ia:Inv X pins σ M C:=R.pins_of (Z R);have Ib:=Ia.turned (t':=C.toks) (h':=C.heap.update O (Obj.mapSeq λ_=>(#[]:Array Value))) (λb o hb e=>(Heap.get?_update_ne _ _ _ _ hb).trans e) pk.2.1 (nL _ ⋯) (.inr ⋯) (nC _ ⋯) (nP _ ⋯);have ga:(C.heap.update O (Obj.mapSeq λ_=>(#[]:Array Value))).get? s.heap.objs.size=some (seqObj "list" #[] e1):=(Heap.get?_update_ne _ _ _ _ (λz=>by have z2:(s.heap.objs.size:Nat)=s.heap.objs.size+1+1:=Eq.trans z a5;omega)).trans p0.1;have Ic:=Ib.adopt (t':=C.toks) (a:=s.heap.objs.size) (o:=.lst zv) (h':=TS.keyEnd C.heap s.heap.objs.size O out.toArray) (λb u hb e=>(Heap.get?_update_ne _ _ _ _ hb).trans e) p0.2.1 (nL _ (xp _)) nS (nC _ (xp _)) (nP _ (xp _))
    (show ba X.prog X.w _ _ _ (.lst zv) from⟨a1,out,_,vo,get?_update_seq ga _⟩)
   exact⟨.ref s.heap.objs.size,_,Ic,rfl,qq _ _ (bw sm a2) a2 am⟩
end
def i6(K:Ab)(P:List Str->Prop)(g:List Str->Int)(t:TA):TE:=λσ H Q=>t σ H λxs H1=>∃(p a:Addr) (es:List VE),xs=[.ref p]/\H1 p=some (jB p a)/\H1 a=some (.dK (es.map ent))/\(∀e,e∈es->aS K H1 e.2.1 (e.2.2.map V.str)/\P e.2.2) /\
 ∀zs:List VE,zs.Perm es->cK g zs->∀(H':Hp) (l:Addr),aE H1 H'->H1 l=none->H' l=some (.lst (zs.map n9))->Q (.ref l) H'
section
variable {X:Cx}{e:Expr}{t:TA}{p fp pos kpos:Pos}{k:Nat}{fx:Str}{ps:Ak}{sp:Sp}{P:List Str->Prop}{g:List Str->Int}
theorem m7(hr:cr (k+2) X.A)(hc:X.calm=true)(hg:Gl X "sorted")(hm:X.mg "sorted"=none)(C:gN X.prog X.w X.K X.mg X.base cv k fx ps sp)(hgf:Gl X fx)
  (hsp:∀l ss H Q E,aS X.K H l (ss.map V.str)->P ss->(∀t,H t=none->Q (.ref t) (aR H t (.tup [.int (g ss),.ref l])))->sp [.ref l] H Q E) (ha:PA X [e] t) (hdb:autoParam ((fx==("__debug__":Str))=false) zz5._auto_1)
  (he:autoParam (backTo pos (starEach [e] X.env)=(false,eval e X.env)::backTo pos (starEach [] X.env)) zz0._auto_1) (hpl:autoParam ((backTo pos (starEach [e] X.env)).any (·.1)=false) zz0._auto_1)
  (hall:autoParam ((backToKw pos (keywordEach [⟨some "key",.Name fx fp,kpos⟩] X.env)).all (·.1.isSome)=true) zz0._auto_1) (hkw:autoParam ((backToKw pos (keywordEach [⟨some "key",.Name fx fp,kpos⟩] X.env)).any (·.1.isNone)=false) zz0._auto_1)
  (hks:autoParam ((backToKw pos (keywordEach [⟨some "key",.Name fx fp,kpos⟩] X.env)).filterMap (·.1)=[Str.ofString "key"]) zz0._auto_1) :
  PE X (.Call (.Name "sorted" p) [e] [⟨some "key",.Name fx fp,kpos⟩] pos) (i6 X.K P g t):=by
 obtain⟨f,fd,F,G,hkf,M⟩:=C.ex;intro c s σ H Q I h;have hb:bootBuiltins "sorted"=some (.builtin "sorted"):=by decide +kernel
 refine wpAny_Call_Name_kw (cJ I hg hm hb ?_);refine callWith_kw (bK (ha pos c s σ H _ I h) λus Z ⟨vs,H1,I1,r,q⟩=>?_) he hpl hall hkw;have hk:PK X [⟨some "key",.Name fx fp,kpos⟩] (iE (tC (.ref f)) nT):=rn (lV hgf G rfl hdb) sE;refine bK (hk pos c Z σ H1 (λS H2=>S=[.ref f]/\H2=H1) I1 ⟨rfl,rfl⟩) λws s2 ⟨S,H2,B,rz,ez,eh⟩=>?_;subst ez eh;rw[hks];obtain⟨T,a,y,rfl,hp,R,L,q3⟩:=q;obtain⟨u,rfl,ru⟩:=r.one;cases ru;obtain⟨u2,rfl,D⟩:=rz.one;cases D;show wpAny _ _ (call (.builtin "sorted") [.ref T] [(Str.ofString "key",.ref f)]) _ _ _;refine TS.sorted_key ?_;obtain⟨z,hd,vs,m,dd⟩:=qp B.hok R;obtain⟨ep,da⟩:=dd.dictAt;obtain⟨hv,_⟩:=B.hok _ _ hp;have n:vs.length=y.length:=by rw[<- m.length,wT]
 have hz:y.length<=sizeLine:=by rw[wT]at z;exact z
 refine TS.collect_src (PySem.W.kdl_values (knd:=bz X.prog X.w) (r:=T) (d:=a) (kvs:=vs) (ep:=ep)) (B.ok.hd hc) ⟨hv,da⟩ ⋯ λh' Y acc' kp j=>?_;have I3:=B.kept (t':=Y) kp;refine qZ F M hr hsp I3 (by rw[Array.length_toList,j.1,n]) hz (λi x hx=>?_) L q3;obtain⟨kk,o⟩:=j.2 i x (by simpa using hx);have U:i<y.length:=by have:=(wR.mp o).1;omega
 refine⟨y[i],wQ U,?_⟩;have:=c5 m (i:=i) (a:=ent y[i]) (by rw[wV,wQ U];rfl);obtain⟨b,v,_,O⟩:=this;rw[o]at v;cases v;exact O
end
end L2
namespace Win
abbrev Wn:=List Int
def wn(t l b r:Nat):Wn:=[(t:Int),(l:Int),(b:Int),(r:Int)]
def W4(t l b n:Nat):List Wn:=(List.range n).map λk=>wn t l b (l+1+k)
def W3(c t l n:Nat):List Wn:=(List.range n).flatMap λk=>W4 t l (t+1+k) (c-l)
def W2(r c t n:Nat):List Wn:=(List.range n).flatMap λl=>W3 c t l (r-t)
def W1(r c n:Nat):List Wn:=(List.range n).flatMap λt=>W2 r c t c
def dW(r c:Nat):List Wn:=W1 r c r
theorem rD(t l b n:Nat):W4 t l b (n+1)=W4 t l b n++[wn t l b (l+1+n)]:=by unfold W4;rw[q0M,xa];rfl
theorem qW(c t l n:Nat):W3 c t l (n+1)=W3 c t l n++W4 t l (t+1+n) (c-l):=by unfold W3;rw[q0M,List.flatMap_append];simp
theorem rK(r c t n:Nat):W2 r c t (n+1)=W2 r c t n++W3 c t n (r-t):=by unfold W2;rw[q0M,List.flatMap_append];simp
theorem rA(r c n:Nat):W1 r c (n+1)=W1 r c n++W2 r c n c:=by unfold W1;rw[q0M,List.flatMap_append];simp
def lt:Wn->Wn->Bool
 | [],[]=>false
 | [],_::_=>true
 |_::_,[]=>false
 |x::xs,y::ys=>if x=y then lt xs ys else decide (x<y)
def kx(r c:Nat):Wn->Bool
 | [t,l,b,x]=>decide (0<=t)&&decide (t<b)&&decide (b<=(r:Int))&&decide (0<=l)&&decide (l<x)&&decide (x<=(c:Int))
 |_=>false
def nZ:Wn->List Wn->Bool
 |_,[]=>true
 |a,w::ws=>lt a w&&nZ w ws
def check(r c:Nat):Bool:=(dW r c).all (kx r c)&&nZ [-1,0,0,0] (dW r c)&&((dW r c).length==r*(r+1)/2*(c*(c+1)/2))&&decide ((dW r c).length<=1000)
theorem nz:((List.range 6).all λr=>(List.range 6).all λc=>check (r+1) (c+1))=true:=by decide +kernel
theorem qC{r c:Nat}(hr0:0<r)(hr:r<=6)(hc0:0<c)(hc:c<=6):check r c=true:=by
 have h:=xN.mp nz (r-1) (List.mem_range.mpr ⋯);have h2:=xN.mp h (c-1) (List.mem_range.mpr ⋯);have b:r-1+1=r:=by omega
 have a:c-1+1=c:=by omega
 rw[b,a]at h2;exact h2
def eF(p:List (List Nat))(t l b x:Nat):List (List Nat):=((p.drop t).take (b-t)).map λrow=>(row.drop l).take (x-l)
end Win
namespace SnM
open PySem L2 aO QL Win
def a0(p:aO):Prop:=∀row∈p,47∉row
theorem nc(h:a0 p):a0 (mirror p):=by
 intro row hr;obtain⟨x,a,rfl⟩:=xM.mp hr;rw[List.mem_reverse];exact h x a
theorem kF(hp:bG p r c)(hr:0<r)(h:a0 p):a0 (bL p):=by
 intro row a;unfold bL at a;rw[ci hp hr]at a;obtain⟨i,f,rfl⟩:=xM.mp a;have f:=List.mem_range.mp f;intro d;obtain⟨x,g,e⟩:=xM.mp d;have b:=List.mem_reverse.mp g;have hl:=hp.2 x b;rw[q0A,wQ ⋯,q0L]at e;exact h x b (e▸w6 _)
theorem dt:∀(n:Nat) {p:aO} {r c:Nat},bG p r c->0<r->0<c->a0 p->a0 (aJ n p)
 |0,_,_,_,_,_,_,h=>h
 |n+1,p,r,c,hp,hr,hc,h=>by
  have e:aJ (n+1) p=bL (aJ n p):=(c3 1 n p).symm;rw[e];have hq:=bA n hp hr hc;refine kF hq ?_ (dt n hp hr hc h)
  split<;>assumption
theorem nK(hp:bG p r c)(hr:0<r)(hc:0<c)(h:a0 p)(t:Nat):a0 (turned p t):=by
 unfold turned
 split
 ·exact dt _ (cA hp) hr hc (nc h)
 ·exact dt _ hp hr hc h
theorem tR(h:a0 p):a0 (eF p t l b x):=by
 intro row hr;obtain⟨y,c,rfl⟩:=xM.mp hr;exact λa=>h y (q0I (q0H c)) (q0I (q0H a))
theorem gn{t l b x:Nat}(hp:bG p r c)(h1:t<b)(h2:b<=r)(h3:l<x)(h4:x<=c):bG (eF p t l b x) (b-t) (x-l):=by
 refine⟨?_,λrow hr=>?_⟩
 ·unfold eF;rw[wT,xG,xH,hp.1];omega
 ·obtain⟨y,a,rfl⟩:=xM.mp hr
  have:=hp.2 y (q0I (q0H a));rw[xG,xH];omega
theorem gy{w:Wn}:w∈dW r c↔∃t l b x:Nat,w=wn t l b x/\t<b/\b<=r/\l<x/\x<=c:=by
 unfold dW W1 W2 W3 W4;simp only[List.mem_flatMap,xM,List.mem_range]
 constructor
 ·rintro⟨t,ht,l,hl,k,hk,m,hm,rfl⟩
  exact⟨t,l,t+1+k,l+1+m,rfl,⋯,⋯,⋯,⋯⟩
 ·rintro⟨t,l,b,x,rfl,h1,h2,h3,h4⟩
  exact⟨t,⋯,l,⋯,b-t-1,⋯,x-l-1,⋯,by rw[show t+1+(b-t-1)=b by omega,show l+1+(x-l-1)=x by omega]⟩
def rh(p:aO)(w:Wn):aO:=eF p (w.getD 0 0).toNat (w.getD 1 0).toNat (w.getD 2 0).toNat (w.getD 3 0).toNat
theorem fR(p:aO)(t l b x:Nat):rh p (wn t l b x)=eF p t l b x:=rfl
def cC(p:aO)(r c:Nat)(q:aO):Prop:=∃t l b x u:Nat,t<b/\b<=r/\l<x/\x<=c/\u<8/\q=turned (eF p t l b x) u
theorem nB:cC p r c q↔∃i,i<(dW r c).length/\∃u,u<8/\q=turned (rh p ((dW r c).getD i [])) u:=by
 constructor
 ·rintro⟨t,l,b,x,u,h1,h2,f,d,j,rfl⟩
  obtain⟨i,a,e⟩:=List.mem_iff_getElem.mp (gy.mpr ⟨t,l,b,x,rfl,h1,h2,f,d⟩);refine⟨i,a,u,j,?_⟩;rw[q0A,wQ a,q0L,e,fR]
 ·rintro⟨i,a,u,g,rfl⟩
  obtain⟨t,l,b,x,e,h1,h2,f,d⟩:=gy.mp (w6 a);refine⟨t,l,b,x,u,h1,h2,f,d,g,?_⟩;rw[q0A,wQ a,q0L,e,fR]
theorem iV(hp:bG p r c)(hn:a0 p){t l b x u:Nat}(h1:t<b)(h2:b<=r)(h3:l<x)(h4:x<=c) :
  turned (eF p t l b x) u≠[]/\a0 (turned (eF p t l b x) u)/\∃r' c',bG (turned (eF p t l b x) u) r' c'/\0<r'/\0<c'/\r'<=max r c/\c'<=max r c:=by
 have d:=gn hp h1 h2 h3 h4;have a:=ka d ⋯ ⋯ u;refine⟨λe=>?_,nK d ⋯ ⋯ (tR hn) u,_,_,a,by split<;>omega,by split<;>omega,by split<;>omega,by split<;>omega⟩;have:=a.1;rw[e]at this;simp at this
 split at this<;>omega
abbrev AP:=Addr×aO
def tJ(z:AP):VE:=(.inr (tx (SpM.glue 47 z.2)),z.1,z.2.map tx)
abbrev dE(z:AP):b7×V:=ent (tJ z)
def e_(zs:List AP)(z:AP):List AP:=if(zs.any λz0=>decide (z0.2=z.2))=true then zs.map (λz0=>if z0.2=z.2 then z else z0) else zs++[z]
theorem tP(h:tx a=tx b):a=b:=by rw[<- cf a,<- cf b,h]
theorem p8{zs:List AP}{z:AP}(inj:∀z0∈zs,SpM.glue 47 z0.2=SpM.glue 47 z.2->z0.2=z.2):eO (zs.map dE) (.inr (tx (SpM.glue 47 z.2))) (.ref z.1)=(e_ zs z).map dE:=by
 have b:∀z0∈zs,((dE z0).1=Sum.inr (tx (SpM.glue 47 z.2))↔z0.2=z.2):=λz0 c=>⟨λe=>inj z0 c (tP (Sum.inr.inj e)),λe=>by show Sum.inr (tx (SpM.glue 47 z0.2))=_;rw[e]⟩;unfold eO e_;have g:((zs.map dE).any λf=>decide (f.1=Sum.inr (tx (SpM.glue 47 z.2))))=zs.any λz0=>decide (z0.2=z.2):=by
  rw[List.any_map];clear inj
  induction zs with
  |nil=>rfl
  |cons a l ih=>
   rw[List.any_cons,List.any_cons,ih λz0 c=>b z0 (xg _ c)]
   congr 1
   exact decide_eq_decide.mpr (b a (q0B ..))
 rw[g]
 split
 ·rw[xc,xc]
  refine q0K λz0 c=>?_;show(if(dE z0).1=Sum.inr (tx (SpM.glue 47 z.2)) then((dE z0).1,V.ref z.1) else dE z0)=dE (if z0.2=z.2 then z else z0)
  by_cases h:z0.2=z.2
  ·have d:=(b z0 c).mpr h
   rw[q07 d,q07 h,d]
   rfl
  ·rw[q06 λq=>h ((b z0 c).mp q),q06 h]
 ·rw[xa];rfl
structure cu(H H':Hp)(d:Addr)(dn:aO->Prop)(zs:List AP)(n:Nat):Prop where
 tbl:H' d=some (.dK (zs.map dE))
 sm:aE H H'
 hd:H d=none
 each:∀z∈zs,H z.1=none/\H' z.1=some (.lst (ak z.2))/\z.2≠[]/\a0 z.2/\(z.2.headD []).length<=64
 nda:(zs.map (·.1)).Nodup
 ndp:(zs.map (·.2)).Nodup
 mem:∀q,q∈zs.map (·.2)↔dn q
 len:zs.length<=n
theorem cu.step{H1 H2:Hp}{dn:aO->Prop}(S:cu H H1 d dn zs n)(sm:aE H1 H2)(hb:H1 b=none)(hb2:H2 b=some (.lst (ak q)))(hq:q≠[])(ns:a0 q)(hl:(q.headD []).length<=64) :
  eO (zs.map dE) (.inr (tx (SpM.glue 47 q))) (.ref b)=(e_ zs (b,q)).map dE/\cu H (aR H2 d (.dK ((e_ zs (b,q)).map dE))) d (λx=>dn x\/x=q) (e_ zs (b,q)) (n+1):=by
 refine⟨p8 (z:=(b,q)) λz0 h0 e=>SpM.glue_inj 47 (S.each z0 h0).2.2.1 hq (S.each z0 h0).2.2.2.1 ns e,?_⟩;have nbd:b≠d:=λe=>by rw[e,S.tbl]at hb;cases hb
 have nzd:∀z∈zs,z.1≠d:=λz hz=>gr (S.each z hz).2.1 S.tbl (by intro e;cases e);have nzb:∀z∈zs,z.1≠b:=λz hz=>aw (S.each z hz).2.1 hb;have old:∀z∈zs,H z.1=none/\aR H2 d (.dK ((e_ zs (b,q)).map dE)) z.1=some (.lst (ak z.2))/\z.2≠[]/\a0 z.2/\(z.2.headD []).length<=64:=λz hz=>by
  obtain⟨h1,h2,h3⟩:=S.each z hz;exact⟨h1,by rw[ar (nzd z hz)];exact sm _ _ h2,h3⟩
 have new:H b=none/\aR H2 d (.dK ((e_ zs (b,q)).map dE)) b=some (.lst (ak q))/\q≠[]/\a0 q/\(q.headD []).length<=64:=⟨S.sm.free hb,by rw[ar nbd];exact hb2,hq,ns,hl⟩
 by_cases h:(zs.any λz0=>decide (z0.2=q))=true
 ·have e:e_ zs (b,q)=zs.map λz0=>if z0.2=q then(b,q) else z0:=by unfold e_;rw[q07 h]
  have e2:((e_ zs (b,q)).map (·.2))=zs.map (·.2):=by
   rw[e,xc];refine q0K λz0 _=>?_;show(if z0.2=q then(b,q) else z0).2=z0.2
   split
   ·rename_i hz;exact hz.symm
   ·rfl
  obtain⟨z1,hz1,hz2⟩:=List.any_eq_true.mp h;have hz2:=of_decide_eq_true hz2;refine⟨am,bw (S.sm.trans sm) S.hd,S.hd,?_,?_,by rw[e2];exact S.ndp,λx=>?_,by rw[e,wT];exact Nat.le_succ_of_le S.len⟩
  ·intro z hz
   have hz':=hz;rw[e]at hz';obtain⟨z0,h0,ez⟩:=xM.mp hz'
   split at ez
   ·rw[<- ez];exact new
   ·rw[<- ez];exact old z0 h0
  ·rw[e,xc,List.Nodup,List.pairwise_map]
   have h1:=S.nda;have h2:=S.ndp;rw[List.Nodup,List.pairwise_map]at h1 h2;refine(List.Pairwise.and_mem.mp (h1.and h2)).imp ?_;rintro x y ⟨hx,hy,n1,n2⟩;show(if x.2=q then(b,q) else x).1≠(if y.2=q then(b,q) else y).1
   by_cases c1:x.2=q
   ·rw[q07 c1,q06 λc2=>n2 (c1.trans c2.symm)]
    exact(nzb y hy).symm
   ·rw[q06 c1]
    by_cases c2:y.2=q
    ·rw[q07 c2];exact nzb x hx
    ·rw[q06 c2];exact n1
  ·rw[e2,S.mem]
   refine⟨.inl,λz=>z.elim id λz=>?_⟩;rw[<- S.mem,z];exact xM.mpr ⟨z1,hz1,hz2⟩
 ·have e:e_ zs (b,q)=zs++[(b,q)]:=by unfold e_;rw[q06 h]
  refine⟨am,bw (S.sm.trans sm) S.hd,S.hd,?_,?_,?_,λx=>?_,by rw[e,xo];exact Nat.succ_le_succ S.len⟩
  ·intro z hz
   have hz':=hz;rw[e]at hz';rcases xb.mp hz' with hz' | hz'
   ·exact old z hz'
   ·rw[wU.mp hz'];exact new
  ·rw[e,xa,List.nodup_append]
   refine⟨S.nda,by simp,λa ha c hc=>?_⟩;obtain⟨z,hz,rfl⟩:=xM.mp ha;have:c=b:=by simpa using hc
   rw[this];exact nzb z hz
  ·rw[e,xa,List.nodup_append]
   refine⟨S.ndp,by simp,λa ha c hc=>?_⟩;obtain⟨z,hz,rfl⟩:=xM.mp ha;have:c=q:=by simpa using hc
   rw[this];exact λhz2=>h (List.any_eq_true.mpr ⟨z,hz,q09 hz2⟩)
  ·rw[e,xa,xb,S.mem]
   simp
theorem cu.congr{dn dn':aO->Prop}(S:cu H H' d dn zs n)(h:∀q,dn q↔dn' q):cu H H' d dn' zs n:=⟨S.tbl,S.sm,S.hd,S.each,S.nda,S.ndp,λq=>(S.mem q).trans (h q),S.len⟩
theorem cu.same{H2:Hp}{dn:aO->Prop}(S:cu H H' d dn zs n)(sm:aE H' H2):cu H H2 d dn zs n:=⟨sm _ _ S.tbl,S.sm.trans sm,S.hd,λz hz=>let ⟨h1,h2,h3⟩:=S.each z hz;⟨h1,sm _ _ h2,h3⟩,S.nda,S.ndp,S.mem,S.len⟩
def cB(ss:Ak):Int:=(ss.length:Int)*((ss.headD ⟨#[]⟩).length:Int)
def aM(p:aO):Nat:=p.length*(p.headD []).length
def pB(a b:aO):Prop:=aM a<aM b\/aM a=aM b/\a<b
def m5(p:aO)(r c:Nat)(qs:List aO):Prop:=(∀q,q∈qs↔cC p r c q)/\qs.Pairwise pB
theorem lM(p:aO):((p.map tx).headD ⟨#[]⟩).length=(p.headD []).length:=by
 cases p with
 |nil=>rfl
 |cons r p=>exact al r
theorem mS(p:aO):cB (p.map tx)=(aM p:Int):=by
 unfold cB aM;rw[wT,lM];simp
theorem jY(p:aO):TS.ks (p.map tx)=p:=by
 unfold TS.ks;rw[xc];exact(q0K λr _=>cf r).trans (List.map_id _)
theorem su(p:aO):kI (cB (p.map tx),p.map tx)=((aM p:Int),p):=by
 show(cB (p.map tx),TS.ks (p.map tx))=_;rw[mS,jY]
theorem nq{ws:List AP}(h:cK cB (ws.map tJ))(nd:(ws.map (·.2)).Nodup):(ws.map (·.2)).Pairwise pB:=by
 unfold cK at h;rw[List.pairwise_map]at h ⊢;rw[List.Nodup,List.pairwise_map]at nd;refine(h.and nd).imp ?_;rintro a b ⟨c,e⟩;have c:TS.ordI.blt (kI (cB (b.2.map tx),b.2.map tx)) (kI (cB (a.2.map tx),a.2.map tx))=false:=c;rw[su,su]at c;cases d:TS.ordI.blt ((aM a.2:Int),a.2) ((aM b.2:Int),b.2) with
 |true=>
  have:=of_decide_eq_true d;rcases this with h1 | ⟨h1,h2⟩
  ·exact .inl (Int.ofNat_lt.mp h1)
  ·exact .inr ⟨Int.ofNat.inj h1,h2⟩
 |false=>
  have:=TS.ordI.total _ _ d c;exact q0Q (q0R Prod.snd this) e
theorem dX(a:aO):¬ pB a a:=λh=>h.elim (xA _) λh=>List.lt_irrefl _ h.2
theorem m9(h1:pB a b)(h2:pB b c):pB a c:=by
 have e:∀x y:aO,TS.ordI.blt ((aM x:Int),x) ((aM y:Int),y)=true↔pB x y:=λx y=>by
  show decide _=true↔_;rw[decide_eq_true_iff]
  constructor
  ·rintro(h | ⟨h,d⟩)
   ·exact .inl (Int.ofNat_lt.mp h)
   ·exact .inr ⟨Int.ofNat.inj h,d⟩
  ·rintro(h | ⟨h,d⟩)
   ·exact .inl (Int.ofNat_lt.mpr h)
   ·exact .inr ⟨q0R Int.ofNat h,d⟩
 exact(e a c).mp (TS.ordI.trans _ _ _ ((e a b).mpr h1) ((e b c).mpr h2))
theorem fv:∀{xs ys:List aO},xs.Pairwise pB->ys.Pairwise pB->(∀q,q∈xs↔q∈ys)->xs=ys
 | [],[],_,_,_=>rfl
 | [],y::ys,_,_,h=>q0Q ((h y).mpr (q0B ..)) (by simp)
 |x::xs,[],_,_,h=>q0Q ((h x).mp (q0B ..)) (by simp)
 |x::xs,y::ys,h1,h2,h=>by
  rw[List.pairwise_cons]at h1 h2;have e:x=y:=by
   rcases xf.mp ((h x).mp (q0B ..)) with e | hx
   ·exact e
   ·rcases xf.mp ((h y).mpr (q0B ..)) with e | hy
    ·exact e.symm
    ·exact q0Q (m9 (h1.1 y hy) (h2.1 x hx)) (dX _)
  subst e;rw[fv h1.2 h2.2 λq=>?_]
  constructor
  ·intro a
   rcases xf.mp ((h q).mp (xg _ a)) with e | hq'
   ·rw[e]at a;exact q0Q (h1.1 x a) (dX _)
   ·exact hq'
  ·intro a
   rcases xf.mp ((h q).mpr (xg _ a)) with e | hq'
   ·rw[e]at a;exact q0Q (h2.1 x a) (dX _)
   ·exact hq'
end SnM
namespace L2
open PySem PySem.Spec PyProof.Rows QL
def jp(x:V)(P:Addr->Prop):Prop:=match x with
 | .ref a=>P a
 |y=>∃a,y=.ref a/\P a
def isInt(x:V)(P:Int->Prop):Prop:=match x with
 | .int a=>P a
 |y=>∃a,y=.int a/\P a
def sP(x:V)(P:Bool->Prop):Prop:=match x with
 | .bl a=>P a
 |y=>∃a,y=.bl a/\P a
def sI(x:V)(P:Str->Prop):Prop:=match x with
 | .str a=>P a
 |y=>∃a,y=.str a/\P a
def t4(xs:List V)(P:V->Prop):Prop:=match xs with
 | [x]=>P x
 |y=>∃x,y=[x]/\P x
theorem fL:jp x P = ∃a,x=.ref a/\P a:=by
 unfold jp;split
 ·simp
 ·rfl
theorem jl:isInt x P = ∃a,x=.int a/\P a:=by
 unfold isInt;split
 ·simp
 ·rfl
theorem pM:sP x P = ∃a,x=.bl a/\P a:=by
 unfold sP;split
 ·simp
 ·rfl
theorem pC:sI x P = ∃a,x=.str a/\P a:=by
 unfold sI;split
 ·simp
 ·rfl
theorem jO:t4 xs P = ∃x,xs=[x]/\P x:=by
 unfold t4;split
 ·simp
 ·rfl
def eY(t:TE):TT:=λσ H Q=>t σ H λx H'=>sP x λk=>Q k H'
def i4(t:TE):TO:=λσ H Q=>t σ H λx H1=>isInt x λi=>Q (some i) H1
def iL(K:Ab)(tl:TE):TI:=λσ H R=>tl σ H λx H1=>jp x λa=>(∃xs,aS K H1 a xs)/\R (qz K a) H1
def fW(ta:TA):TI:=λσ H R=>ta σ H λvs H1=>t4 vs λv=>isInt v λj=>-(2 ^ 62)<=j/\j<2 ^ 62/\R (nw 0 j.toNat) H1
def dY:V->List V->Hp->VK->Prop:=λx vs H Q=>jp x λl=>t4 vs λy=>∃xs,H l=some (.lst xs)/\xs.length<sizeLine/\Q .non (aR H l (.lst (xs++[y])))
def i3(K:Ab):List V->Hp->VK->Prop:=λxs H Q=>t4 xs λx=>jp x λp=>∃ys,aS K H p ys/\Q (.int ys.length) H
def iQ:List V->Hp->VK->Prop:=λxs H Q=>t4 xs λx=>sI x λz=>z.length<=sizeLine/\Q (.int z.length) H
section
variable {X:Cx}{e a b c l:Expr}{ta tb tc te tl:TE}{pos:Pos}
theorem PT.tm(h:PT X e (jM t)):PT X e (eY t):=λpins s σ H Q I q=>h pins s σ H Q I (by simp only[eY,pM]at q;exact q)
theorem cM{op:CmpOp}{r:R2}(ho:bn X (compareOp op) r)(ha:PE X a ta)(hb:PE X b tb)(hm:behindInMarks op b=false):PT X (.Compare a [op] [b] pos) (eY (sF r ta tb)):=(lJ ho ha hb hm).tm
theorem fo(ha:PE X a ta)(he:∀whole,isTrue a X.env whole=(do let v <- whole;standAt a.pos;holding [v] (truthy v))):PT X a (eY ta):=(ud ha he).tm
theorem b0(h:PE X e te):PO X (some e) (i4 te):=λpins s σ H Q I q=>rG h pins s σ H Q I (by simp only[i4,jl]at q;exact q)
theorem b6{tg:Expr}(hl:PE X l tl):PI X tg l (iL X.K tl):=λpins s σ H R I q=>qS hl pins s σ H R I (by simp only[iL,fL]at q;exact q)
theorem aQ{tg:Expr}{ta:TA}{p:Pos}(hg:Gl X "range")(hm:X.mg "range"=none)(ha:PA X [a] ta)(hs:autoParam (starEach [a] X.env=[(false,eval a X.env)]) zz0._auto_1):PI X tg (.Call (.Name "range" p) [a] [] pos) (fW ta):=λpins s σ H R I q=>h_ hg hm ha hs pins s σ H R I (by
 have e:fW ta σ H R=jE ta σ H R:=by
  unfold fW jE;refine q0R (ta σ H) (funext λvs=>funext λH1=>?_);simp only[jO,jl];exact propext ⟨λ⟨x,e,j,b,r⟩=>⟨j,by rw[e,b],r⟩,λ⟨j,e,r⟩=>⟨_,e,j,rfl,r⟩⟩
 exact e▸q)
theorem aX:bV X (.builtin "len") (i3 X.K):=λpins s σ H xs us Q I r h=>iF pins s σ H xs us Q I r (by
 simp only[i3,jO,fL]at h;obtain⟨x,rfl,p,rfl,ys,h1,h2⟩:=h;exact⟨p,ys,rfl,h1,h2⟩)
theorem aP:bV X (.builtin "len") iQ:=λpins s σ H xs us Q I r h=>iX pins s σ H xs us Q I r (by
 simp only[iQ,jO,pC]at h;obtain⟨x,rfl,p,rfl,h1,h2⟩:=h;exact⟨p,rfl,h1,h2⟩)
theorem cV:vA X "list.append" dY:=λpins s σ H x vs v us Q I rx rv h=>m6 pins s σ H x vs v us Q I rx rv (by
 simp only[dY,jO,fL]at h;obtain⟨l,rfl,y,rfl,xs,h1,h2,h3⟩:=h;exact⟨l,xs,y,rfl,rfl,h1,h2,h3⟩)
end
end L2
namespace TS
open PySem PyProof.Rows PySem.W
section
variable {prog:Aj}{w:Am}{A:Al}{E:Aa}{J:Shared->Prop}{a₀:Array Keyed}{kd:SortKind}{r:Keyed->Nat}
end
end TS
namespace SnM
open PySem L2 aO QL Win
theorem iw{α:Type}[DecidableEq α]:∀{l L:List α},l.Nodup->(∀x∈l,x∈L)->l.length<=L.length
 | [],_,_,_=>xq _
 |x::l,L,hn,hs=>by
  have hx:x∈L:=hs x q0B;rw[List.nodup_cons]at hn;have:=iw (l:=l) (L:=L.erase x) hn.2 λy hy=>(List.mem_erase_of_ne λe=>hn.1 (by rw[<- e];exact hy)).mpr (hs y (xg _ hy));rw[List.length_erase_of_mem hx]at this;have:=List.length_pos_of_mem hx;rw[w_];omega
end SnM
namespace STb
open PySem PySem.SetTable
theorem gw(xs:Array Nat)(j:Nat)(hr:∀i k,i<k->k<xs.size->xs.getD i 0<xs.getD k 0):∀fuel lo hi,lo<=hi->hi<=xs.size->hi-lo<=fuel->(∀i,i<lo->xs.getD i 0<j)->(∀i,hi<=i->i<xs.size->j<=xs.getD i 0) ->
  (∀i,i<below.go xs j fuel lo hi->xs.getD i 0<j)/\(∀i,below.go xs j fuel lo hi<=i->i<xs.size->j<=xs.getD i 0)/\below.go xs j fuel lo hi<=xs.size
 |0,lo,hi,h1,h2,h3,h4,h5=>by
  have e:lo=hi:=by omega
  subst e;exact⟨h4,h5,h2⟩
 |fuel+1,lo,hi,h1,h2,h3,h4,h5=>by
  unfold below.go
  by_cases a:lo<hi
  ·rw[q07 a]
   dsimp only;have m1:lo<=(lo+hi)/2:=by omega
   have f:(lo+hi)/2<hi:=by omega
   generalize(lo+hi)/2=mid at m1 f;have g:xs.getD mid j=xs.getD mid 0:=by simp[Array.getD,xi f h2]
   rw[g]
   by_cases b:xs.getD mid 0<j
   ·rw[q07 b]
    refine gw xs j hr fuel (mid+1) hi ⋯ h2 ⋯ (λi d=>?_) h5
    by_cases e:i=mid
    ·rw[e];exact b
    ·exact Nat.lt_trans (hr i mid ⋯ ⋯) b
   ·rw[q06 b]
    refine gw xs j hr fuel lo mid m1 ⋯ ⋯ h4 λi d c=>?_
    by_cases e:i=mid
    ·rw[e];omega
    ·have:=hr mid i ⋯ c;omega
  ·rw[q06 a]
   have e:lo=hi:=by omega
   subst e;exact⟨h4,h5,h2⟩
theorem gE{xs:Array Nat}(h:xs.toList.Pairwise (· < ·)):∀i k,i<k->k<xs.size->xs.getD i 0<xs.getD k 0:=by
 intro i k a b;have:=List.pairwise_iff_getElem.mp h i k (by simp;omega) (by simpa using b) a
 simpa[Array.getD,b,Nat.lt_trans a b]using this
theorem c6{xs:Array Nat}(h:xs.toList.Pairwise (· < ·))(j:Nat):(∀i,i<below xs j->xs.getD i 0<j)/\(∀i,below xs j<=i->i<xs.size->j<=xs.getD i 0)/\below xs j<=xs.size:=
 gw xs j (gE h) xs.size 0 xs.size (xq _) (xp _) ⋯ (λi hi=>q0Q hi (Nat.not_lt_zero _)) (λi hi his=>q0Q his ⋯)
theorem fQ{xs:Array Nat}{i j:Nat}(h:xs[i]?=some j):i<xs.size/\xs.getD i 0=j:=by
 obtain⟨a,e⟩:=Array.getElem?_eq_some_iff.mp h;exact⟨a,by simp[Array.getD,a,e]⟩
theorem pV{xs:Array Nat}(h:xs.toList.Pairwise (· < ·)){i j:Nat}(e:xs[i]?=some j):below xs j=i:=by
 obtain⟨b,ej⟩:=fQ e;obtain⟨h1,h2,h3⟩:=c6 h j;rcases Nat.lt_trichotomy (below xs j) i with a | heq | hgt
 ·have:=h2 (below xs j) (xp _) ⋯
  have:=gE h (below xs j) i a b;omega
 ·exact heq
 ·have:=h1 i hgt;omega
section
variable {t:SetTable}(hr:t.place.toList.Pairwise (· < ·))(hd:t.dummies=#[])
theorem ma(j:Nat):has #[] j=false:=by unfold has;simp
include hr in
theorem iu{i j:Nat}(e:t.place[i]?=some j):t.slot j=.live i:=by
 unfold slot;dsimp only;rw[pV hr e,e];simp
include hr hd in
theorem kX{j:Nat}(h:j∉t.place.toList):t.slot j=.empty:=by
 unfold slot;dsimp only;rw[hd,ma];have:(t.place[below t.place j]?==some j)=false:=by
  rw[beq_eq_false_iff_ne];intro e;exact h (by have:=Array.mem_of_getElem? e;simpa using this)
 rw[this];simp
include hr in
theorem kt{j:Nat}(h:j∉t.place.toList):(t.place.toList.take (below t.place j)++j::t.place.toList.drop (below t.place j)).Pairwise (· < ·):=by
 obtain⟨h1,h2,h3⟩:=c6 hr j;rw[List.pairwise_append];refine⟨hr.sublist (List.take_sublist _ _),?_,?_⟩
 ·rw[List.pairwise_cons]
  refine⟨λy hy=>?_,hr.sublist (List.drop_sublist _ _)⟩;obtain⟨k,b⟩:=List.mem_iff_getElem?.mp hy;rw[List.getElem?_drop]at b;have a:t.place[below t.place j+k]?=some y:=by rw[<- q0G];exact b
  obtain⟨d,g⟩:=fQ a;have:=h2 _ (Nat.le_add_right _ k) d;have hne:y≠j:=λe=>h (by rw[<- e];exact wW b);omega
 ·intro x i y hy
  have f:x<j:=by
   obtain⟨k,b⟩:=List.mem_iff_getElem?.mp i;have c:k<below t.place j:=by
    have:=(wR.mp b).1;rw[xG]at this;omega
   rw[List.getElem?_take_of_lt c]at b;have a:t.place[k]?=some x:=by rw[<- q0G];exact b
   have:=h1 k c;rw[(fQ a).2]at this;exact this
  rcases xf.mp hy with rfl | hy
  ·exact f
  ·obtain⟨k,b⟩:=List.mem_iff_getElem?.mp hy
   rw[List.getElem?_drop]at b;have a:t.place[below t.place j+k]?=some y:=by rw[<- q0G];exact b
   obtain⟨d,g⟩:=fQ a;have:=h2 _ (Nat.le_add_right _ k) d;omega
end
def sr(mask:Nat)(p:Probe):Probe:=if p.more>0 then{p with j:=p.j+1,more:=p.more-1} else{p with j:=(leap mask p.i p.perturb).1,more:=runEnd mask (leap mask p.i p.perturb).1-(leap mask p.i p.perturb).1,i:=(leap mask p.i p.perturb).1,perturb:=(leap mask p.i p.perturb).2}
theorem fX(t:SetTable)(p:Probe):t.advance p=sr t.mask p:=rfl
def St(mask i pert:Nat):Probe:={j:=i,more:=runEnd mask i-i,i:=i,perturb:=pert,dummy:=none}
def S0(mask:Nat)(h:Int):Probe:=St mask (bits h%(mask+1)) (bits h)
theorem ot(t:SetTable)(h:Int):t.probeStart h=S0 t.mask h:=rfl
def it(mask:Nat):Nat->Probe->Probe
 |0,p=>p
 |n+1,p=>it mask n (sr mask p)
theorem fV(mask:Nat):∀(a b:Nat) (p:Probe),it mask (a+b) p=it mask b (it mask a p)
 |0,b,p=>by rw[Nat.zero_add];rfl
 |a+1,b,p=>by rw[Nat.add_right_comm];exact fV mask a b _
theorem dA(mask n:Nat)(p:Probe):it mask (n+1) p=sr mask (it mask n p):=by rw[fV];rfl
theorem fU(mask i pert:Nat):∀k,k<=runEnd mask i-i->it mask k (St mask i pert)={j:=i+k,more:=runEnd mask i-i-k,i:=i,perturb:=pert,dummy:=none}
 |0,_=>rfl
 |k+1,h=>by
  rw[dA,fU mask i pert k ⋯];unfold sr;rw[q07 (by show runEnd mask i-i-k>0;omega)]
  rfl
theorem jf(mask i pert:Nat):it mask (runEnd mask i-i+1) (St mask i pert)=St mask (leap mask i pert).1 (leap mask i pert).2:=by
 rw[dA,fU mask i pert _ (xp _)];unfold sr;rw[q06 (by show ¬ runEnd mask i-i-(runEnd mask i-i)>0;omega)]
 rfl
theorem lL(mask i:Nat):i<=runEnd mask i/\runEnd mask i-i+1<=10:=by
 unfold runEnd;split<;>omega
def run(mask:Nat):Nat->Nat×Nat->Nat×Nat
 |0,x=>x
 |q+1,x=>run mask q (leap mask x.1 x.2)
theorem ms(mask:Nat):∀(a b:Nat) (x:Nat×Nat),run mask (a+b) x=run mask b (run mask a x)
 |0,b,x=>by rw[Nat.zero_add];rfl
 |a+1,b,x=>by rw[Nat.add_right_comm];exact ms mask a b _
theorem oI(mask:Nat):∀q i pert,∃n,n<=10*q/\it mask n (St mask i pert)=St mask (run mask q (i,pert)).1 (run mask q (i,pert)).2
 |0,i,pert=>⟨0,xp _,rfl⟩
 |q+1,i,pert=>by
  obtain⟨n,hn,e⟩:=oI mask q (leap mask i pert).1 (leap mask i pert).2;have:=(lL mask i).2;refine⟨runEnd mask i-i+1+n,⋯,?_⟩;rw[fV,jf,e]
  rfl
def lc(a c:Nat):Nat->Nat->Nat
 |0,x=>x
 |n+1,x=>lc a c n (a*x+c)
theorem qb(a c b e:Nat)(ha:a=4*b+1):∀(n m:Nat),lc a c (2*n) (2*m+e)=2*lc (a*a) ((8*b*b+4*b)*e+(2*b+1)*c) n m+e
 |0,m=>rfl
 |n+1,m=>by
  have h2:2*(n+1)=2*n+1+1:=by omega
  rw[h2];show lc a c (2*n) (a*(a*(2*m+e)+c)+c)=2*lc (a*a) _ n (a*a*m+_)+e;rw[<- qb a c b e ha n]
  congr 1
  subst ha
  grind
theorem wc:∀(k a c x y:Nat),a%4=1->c%2=1->∃n,n<2 ^ k/\lc a c n x%2 ^ k=y%2 ^ k
 |0,a,c,x,y,_,_=>⟨0,nofun,by rw[Nat.pow_zero,Nat.mod_one,Nat.mod_one]⟩
 |k+1,a,c,x,y,ha,hc=>by
  have key:∀x,x%2=y%2->∃n,n<2 ^ k/\lc a c (2*n) x%2 ^ (k+1)=y%2 ^ (k+1):=by
   intro x f;obtain⟨b,o⟩:∃b,a=4*b+1:=⟨a/4,⋯⟩;have p:(a*a)%4=1:=by rw[Nat.mul_mod,ha]
   have j:((8*b*b+4*b)*(x%2)+(2*b+1)*c)%2=1:=by
    have t:(8*b*b+4*b)%2=0:=by rw[show 8*b*b+4*b=2*(4*(b*b)+2*b) by rw[Nat.mul_assoc];omega];exact Nat.mul_mod_right ..
    have r:(2*b+1)%2=1:=by omega
    rw[Nat.add_mod,Nat.mul_mod,t,Nat.mul_mod (2*b+1),r,hc];simp
   obtain⟨n,i,e⟩:=wc k (a*a) ((8*b*b+4*b)*(x%2)+(2*b+1)*c) (x/2) (y/2) p j;refine⟨n,i,?_⟩;have q:x=2*(x/2)+x%2:=by omega
   have h1:=qb a c b (x%2) o n (x/2);rw[<- q]at h1;rw[h1];generalize lc (a*a) ((8*b*b+4*b)*(x%2)+(2*b+1)*c) n (x/2)=g at e;have m:2 ^ (k+1)=2*2 ^ k:=by rw[Nat.pow_succ,Nat.mul_comm]
   rw[m];generalize 2 ^ k=P at e;have l:∀g e,e<2->(2*g+e)%(2*P)=2*(g%P)+e:=λg e he=>by
    rw[Nat.mod_mul];have v:(2*g+e)%2=e:=by omega
    have u:(2*g+e)/2=g:=by omega
    rw[v,u];omega
   rw[l g (x%2) ⋯,e,f]
   conv=>rhs;rw[show y=2*(y/2)+y%2 by omega]
   rw[l _ _ ⋯]
  have m:2 ^ (k+1)=2*2 ^ k:=by rw[Nat.pow_succ,Nat.mul_comm]
  by_cases f:x%2=y%2
  ·obtain⟨n,i,e⟩:=key x f
   exact⟨2*n,⋯,e⟩
  ·have d:(a*x+c)%2=y%2:=by
    rw[Nat.add_mod,Nat.mul_mod,hc,show a%2=1 by omega];omega
   obtain⟨n,i,e⟩:=key _ d;exact⟨2*n+1,⋯,e⟩
theorem jG(k:Nat):∀(q x:Nat),(run (2 ^ k-1) q (x%2 ^ k,0))=(lc 5 1 q x%2 ^ k,0)
 |0,x=>rfl
 |q+1,x=>by
  have hk:2 ^ k-1+1=2 ^ k:=by have:=Nat.two_pow_pos k;omega
  show run (2 ^ k-1) q (leap (2 ^ k-1) (x%2 ^ k) 0)=(lc 5 1 q (5*x+1)%2 ^ k,0);rw[<- jG k q]
  congr 1
  unfold leap;rw[hk];have:(x%2 ^ k*5+1+0/32)%2 ^ k=(5*x+1)%2 ^ k:=by
   rw[Nat.add_assoc,Nat.add_mod,Nat.mod_mul_mod,<- Nat.add_mod,Nat.mul_comm]
  rw[this]
theorem jv(mask:Nat):∀(q i pert:Nat),(run mask q (i,pert)).2=pert/32 ^ q
 |0,i,pert=>by simp[run]
 |q+1,i,pert=>by
  show(run mask q (leap mask i pert)).2=_;unfold leap;rw[jv mask q,Nat.div_div_eq_div_mul,Nat.pow_succ,Nat.mul_comm]
theorem ik(mask:Nat):∀(q i pert:Nat),i<=mask->(run mask q (i,pert)).1<=mask
 |0,i,pert,h=>h
 |q+1,i,pert,h=>by
  show(run mask q (leap mask i pert)).1<=_;unfold leap;exact ik mask q _ _ (Nat.le_of_lt_succ (Nat.mod_lt _ (Nat.succ_pos _)))
theorem ki{k mask i pert j:Nat}(hm:mask+1=2 ^ k)(hi:i<=mask)(hp:pert<2 ^ 64)(hj:j<=mask):∃q,q<mask+14/\(run mask q (i,pert)).1=j:=by
 have c:mask=2 ^ k-1:=by omega
 have a:(run mask 13 (i,pert)).2=0:=by
  rw[jv];refine Nat.div_eq_of_lt (xi hp ?_)
  decide
 have h1:=ik mask 13 i pert hi;obtain⟨n,hn,e⟩:=wc k 5 1 (run mask 13 (i,pert)).1 j rfl rfl;refine⟨13+n,⋯,?_⟩;rw[ms];have b:run mask 13 (i,pert)=((run mask 13 (i,pert)).1%2 ^ k,0):=by
  rw[Nat.mod_eq_of_lt ⋯,<- a]
 rw[b];subst c;rw[jG];show lc 5 1 n _%2 ^ k=j;rw[e,Nat.mod_eq_of_lt ⋯]
theorem mE(h:Int):bits h<2 ^ 64:=by
 unfold bits;have h1:=xR h (b:=2 ^ 64) nofun;have h2:=xS h (b:=2 ^ 64) nofun;omega
theorem j8(mask:Nat)(h:Int):∀m,(it mask m (S0 mask h)).j<=mask:=by
 have b:∀m,∃i a k,i<=mask/\k<=runEnd mask i-i/\it mask m (S0 mask h)={j:=i+k,more:=runEnd mask i-i-k,i:=i,perturb:=a,dummy:=none}:=by
  intro m
  induction m with
  |zero=>exact⟨_,_,0,Nat.le_of_lt_succ (Nat.mod_lt _ (Nat.succ_pos _)),xq _,rfl⟩
  |succ m ih=>
   obtain⟨i,a,k,h1,h2,e⟩:=ih
   by_cases c:k<runEnd mask i-i
   ·refine⟨i,a,k+1,h1,c,?_⟩
    rw[dA,e];unfold sr;rw[q07 (by show runEnd mask i-i-k>0;omega)]
    rfl
   ·refine⟨(leap mask i a).1,(leap mask i a).2,0,?_,xq _,?_⟩
    ·unfold leap;exact Nat.le_of_lt_succ (Nat.mod_lt _ (Nat.succ_pos _))
    ·rw[dA,e]
     unfold sr;rw[q06 (by show ¬ runEnd mask i-i-k>0;omega)]
     rfl
 intro m;obtain⟨i,a,k,h1,h2,e⟩:=b m;rw[e];show i+k<=mask;unfold runEnd at h2
 split at h2<;>omega
theorem kB(mask:Nat):∀m p,p.dummy=none->(it mask m p).dummy=none
 |0,p,h=>h
 |m+1,p,h=>kB mask m _ (by unfold sr;split<;>exact h)
theorem kH{k mask:Nat}(hm:mask+1=2 ^ k)(h:Int){own:Nat->Prop}{j:Nat}(hj:j<=mask)(hf:¬ own j):∃n,n<10*(mask+14)/\¬ own (it mask n (S0 mask h)).j/\∀m,m<n->own (it mask m (S0 mask h)).j:=by
 obtain⟨q,hq,e⟩:=ki hm (show bits h%(mask+1)<=mask from Nat.le_of_lt_succ (Nat.mod_lt _ (Nat.succ_pos _))) (mE h) hj;obtain⟨n,c,d⟩:=oI mask q (bits h%(mask+1)) (bits h);have i:(it mask n (S0 mask h)).j=j:=by
  show(it mask n (St mask _ _)).j=j;rw[d];exact e
 clear e d;have a:∀n,¬ own (it mask n (S0 mask h)).j->∃k,k<=n/\¬ own (it mask k (S0 mask h)).j/\∀m,m<k->own (it mask m (S0 mask h)).j:=by
  intro n
  induction n using Nat.strongRecOn with
  |_ n ih=>
   intro c
   by_cases b:∃m,m<n/\¬ own (it mask m (S0 mask h)).j
   ·obtain⟨m,hm,h2⟩:=b
    obtain⟨k,f,g⟩:=ih m hm h2;exact⟨k,⋯,g⟩
   ·exact⟨n,xp _,c,λm hm=>Classical.byContradiction λh2=>b ⟨m,hm,h2⟩⟩
 obtain⟨k,f,h2⟩:=a n (by rw[i];exact hf);exact⟨k,⋯,h2⟩
theorem ic(mask:Nat)(owner:Array (Option Nat)):∀fuel i pert,(∃q,q<fuel/\owner.getD (run mask q (i,pert)).1 (some 0)=none) ->
  ∃j n,layClean.free mask owner fuel i pert=some j/\(it mask n (St mask i pert)).j=j/\owner.getD j (some 0)=none/\∀m,m<n->owner.getD (it mask m (St mask i pert)).j (some 0)≠none
 |0,i,pert,⟨q,hq,_⟩=>q0Q hq (Nat.not_lt_zero _)
 |fuel+1,i,pert,⟨q,hq,hf⟩=>by
  unfold layClean.free;have hl:=lL mask i;cases hfind:(List.range (runEnd mask i+1-i)).find? λk=>(owner.getD (i+k) (some 0)).isNone with
  |some k=>
   dsimp only;have h1:=List.find?_some hfind;have h2:=List.mem_range.mp (List.mem_of_find?_eq_some hfind);refine⟨i+k,k,rfl,?_,by simpa using h1,λm hm=>?_⟩
   ·rw[fU mask i pert k ⋯]
   ·rw[fU mask i pert m ⋯]
    dsimp only;intro e;obtain⟨as,bs,e1,e2⟩:=(List.find?_eq_some_iff_append.mp hfind).2;have hk:as.length=k:=by
     have:=q0R (λl=>l[as.length]?) e1;simp at this;have f:as.length<runEnd mask i+1-i:=by have:=q0R List.length e1;simp at this;omega
     rw[List.getElem?_range f]at this;exact q0S this
    have d:m∈as:=by
     have:(List.range (runEnd mask i+1-i))[m]?=(as++k::bs)[m]?:=by rw[e1]
     rw[xm ⋯,List.getElem?_range ⋯]at this;exact wW this.symm
    have:=e2 m d;simp[e]at this
  |none=>
   dsimp only;have a:∀k,k<=runEnd mask i-i->owner.getD (i+k) (some 0)≠none:=λk hk e=>by
    have:=List.find?_eq_none.mp hfind k (List.mem_range.mpr ⋯);simp[e]at this
   have hq0:q≠0:=λe=>by
    subst e;exact a 0 (xq _) hf
   obtain⟨b,rfl⟩:∃b,q=b+1:=⟨q-1,⋯⟩;obtain⟨j,n,h1,h2,o,g⟩:=ic mask owner fuel (leap mask i pert).1 (leap mask i pert).2 ⟨b,⋯,hf⟩;refine⟨j,runEnd mask i-i+1+n,h1,?_,o,λm hm=>?_⟩
   ·rw[fV,jf];exact h2
   ·by_cases hr:m<=runEnd mask i-i
    ·rw[fU mask i pert m hr]
     exact a m hr
    ·obtain⟨c,rfl⟩:∃c,m=runEnd mask i-i+1+c:=⟨m-(runEnd mask i-i+1),⋯⟩
     rw[fV,jf];exact g c ⋯
structure uX(mask:Nat)(hs:List Int)(owner:Array (Option Nat))(pos:Ad):Prop where
 sz:owner.size=mask+1
 ln:pos.length=hs.length
 nd:pos.Nodup
 bd:∀j∈pos,j<=mask
 at_:∀j i,j<=mask->(owner.getD j none=some i↔pos[i]?=some j)
 re:∀(i:Nat) (h:Int) (j:Nat),hs[i]?=some h->pos[i]?=some j->∃n,(it mask n (S0 mask h)).j=j/\∀m,m<n->(it mask m (S0 mask h)).j∈pos
theorem oP{α:Type}{xs:Array α}{j:Nat}(h:j<xs.size)(d e:α):xs.getD j d=xs.getD j e:=by simp[Array.getD,h]
theorem oF{pos:Ad}{mask:Nat}(h:pos.length<=mask):∃j,j<=mask/\j∉pos:=by
 refine Classical.byContradiction λa=>?_;have b:∀j,j∈List.range (mask+1)->j∈pos:=λj i=>Classical.byContradiction λh2=>a ⟨j,by have:=List.mem_range.mp i;omega,h2⟩;have g:(List.range (mask+1)).Nodup:=List.nodup_range;have:∀(l L:Ad),l.Nodup->(∀x∈l,x∈L)->l.length<=L.length:=by
  intro l
  induction l with
  |nil=>intro L _ _;exact xq _
  |cons x l ih=>
   intro L a f;have d:x∈L:=f x q0B;rw[List.nodup_cons]at a;have:=ih (L.erase x) a.2 λy c=>(List.mem_erase_of_ne λe=>a.1 (by rw[<- e];exact c)).mpr (f y (xg _ c));rw[List.length_erase_of_mem d]at this;have:=List.length_pos_of_mem d;rw[w_];omega
 have:=this _ _ g b;rw[q0J]at this;omega
theorem qh{k mask:Nat}(hm:mask+1=2 ^ k):∀(aU done:List Int) (owner:Array (Option Nat)) (pos:Ad),uX mask done owner pos->done.length+aU.length<=mask ->
  ∃owner' pos',aU.foldl (λacc h=>do
   let (owner,k) <- acc
   let j <- layClean.free mask owner (turns mask) (bits h%(mask+1)) (bits h)
   pure (owner.setIfInBounds j (some k),k+1)) (some (owner,done.length))=some (owner',done.length+aU.length)/\uX mask (done++aU) owner' pos'
 | [],done,owner,pos,O,_=>⟨owner,pos,rfl,by rw[xC];exact O⟩
 |h::aU,done,owner,pos,O,hl=>by
  have hl':done.length+1+aU.length<=mask:=by simpa[Nat.add_assoc,Nat.add_comm 1]using hl
  have c:∀j,j<=mask->(owner.getD j (some 0)=none↔j∉pos):=λj M=>by
   rw[oP (by rw[O.sz];omega) (some 0) none]
   constructor
   ·intro e x
    obtain⟨i,f⟩:=List.mem_iff_getElem?.mp x;rw[(O.at_ j i M).mpr f]at e;cases e
   ·intro x
    cases e:owner.getD j none with
    |none=>rfl
    |some i=>exact q0Q (wW ((O.at_ j i M).mp e)) x
  obtain⟨Z,t,G⟩:=oF (pos:=pos) (mask:=mask) (by rw[O.ln];omega);obtain⟨q,hq,eq⟩:=ki hm (show bits h%(mask+1)<=mask from Nat.le_of_lt_succ (Nat.mod_lt _ (Nat.succ_pos _))) (mE h) t;obtain⟨j,n,h1,h2,I,h4⟩:=ic mask owner (turns mask) (bits h%(mask+1)) (bits h) ⟨q,by unfold turns;omega,by rw[eq];exact(c Z t).mpr G⟩;have r:j<=mask:=by
   refine Classical.byContradiction λR=>?_;have:owner.getD j (some 0)=some 0:=by simp[Array.getD,O.sz];omega
   rw[this]at I;cases I
  have p:=(c j r).mp I;have d:∀m,m<n->(it mask m (S0 mask h)).j∈pos:=λm B=>by
   have z:=h4 m B;refine Classical.byContradiction λR=>z ?_
   by_cases v:(it mask m (S0 mask h)).j<=mask
   ·exact(c _ v).mpr R
   ·exfalso
    have u:∀m,(it mask m (S0 mask h)).j<=mask:=j8 mask h;exact v (u m)
  have O':uX mask (done++[h]) (owner.setIfInBounds j (some done.length)) (pos++[j]):=by
   refine⟨by simp[O.sz],by simp[O.ln],List.nodup_append.mpr ⟨O.nd,List.pairwise_singleton _ _,λa ha b v=>?_⟩,λy hy=>?_,λy i hy=>?_,λi g y l w=>?_⟩
   ·rw[wU]at v;subst v;exact λe=>p (e▸ha)
   ·rcases xb.mp hy with hy | hy
    ·exact O.bd y hy
    ·rw[wU.mp hy];exact r
   ·have o:y<owner.size:=by rw[O.sz];omega
    have D:(owner.setIfInBounds j (some done.length)).getD y none=if y=j then some done.length else owner.getD y none:=by
     by_cases e:y=j
     ·subst e;simp[Array.getD,o]
     ·rw[q06 e]
      simp[Array.getD,o,Ne.symm e,Array.getElem_setIfInBounds]
    rw[D]
    by_cases e:y=j
    ·subst e
     rw[q07 rfl]
     constructor
     ·intro h;cases h;rw[<- O.ln];simp
     ·intro h
      by_cases f:i<pos.length
      ·rw[xm f]at h
       exact q0Q (wW h) p
      ·have:i<(pos++[y]).length:=(wR.mp h).1
       simp at this;rw[<- O.ln];congr 1;omega
    ·rw[q06 e,O.at_ y i hy]
     constructor
     ·intro h
      rw[xm (wR.mp h).1];exact h
     ·intro h
      by_cases f:i<pos.length
      ·rw[xm f]at h;exact h
      ·have h5:i<(pos++[j]).length:=(wR.mp h).1
       simp at h5;have:i=pos.length:=by omega
       subst this;simp at h;exact q0Q h.symm e
   ·by_cases f:i<done.length
    ·rw[xm f]at l
     rw[xm (by rw[O.ln];exact f)]at w;obtain⟨Y,a1,a2⟩:=O.re i g y l w;exact⟨Y,a1,λm hm=>q0D _ (a2 m hm)⟩
    ·have C:i=done.length:=by
      have:=(wR.mp l).1;simp at this;omega
     subst C;simp at l;rw[<- O.ln]at w;simp at w;subst l w;exact⟨n,h2,λm hm=>q0D _ (d m hm)⟩
  obtain⟨U,T,S,L⟩:=qh hm aU (done++[h]) _ _ O' (by simp;omega);refine⟨U,T,?_,by rw[xD]at L;exact L⟩;rw[List.foldl_cons];have l:(do
   let (owner,k) <- some (owner,done.length)
   let j <- layClean.free mask owner (turns mask) (bits h%(mask+1)) (bits h)
   pure (owner.setIfInBounds j (some k),k+1))=some (owner.setIfInBounds j (some done.length),(done++[h]).length):=by
   show(layClean.free mask owner (turns mask) (bits h%(mask+1)) (bits h) >>= λj=>pure (owner.setIfInBounds j (some done.length),done.length+1))=_;rw[h1];simp
  rw[l,S];simp[Nat.add_assoc,Nat.add_comm 1]
abbrev je:=Nat×Int×Value
structure Tb(t:SetTable)(es:Array (Int×Value))(T:List je):Prop where
 pl:t.place.toList=T.map (·.1)
 en:es.toList=T.map (·.2)
 ri:t.place.toList.Pairwise (· < ·)
 bd:∀x∈T,x.1<=t.mask
 nd:t.dummies=#[]
 mp:∃k,t.mask+1=2 ^ k/\3<=k
 m14:t.mask<8192
 ln:T.length<=t.mask
 re:∀x∈T,∃n,(it t.mask n (S0 t.mask x.2.1)).j=x.1/\∀m,m<n->(it t.mask m (S0 t.mask x.2.1)).j∈T.map (·.1)
section
variable {t:SetTable}{es:Array (Int×Value)}{T:List je}
theorem Tb.place(B:Tb t es T){i:Nat}{x:je}(h:T[i]?=some x):t.place[i]?=some x.1:=by
 rw[<- q0G,B.pl,wV,h];rfl
theorem Tb.ent(B:Tb t es T){i:Nat}{x:je}(h:T[i]?=some x):es[i]?=some x.2:=by
 rw[<- q0G,B.en,wV,h];rfl
theorem Tb.len(B:Tb t es T):es.size=T.length/\t.place.size=T.length:=by
 have h1:=q0R List.length B.en;have h2:=q0R List.length B.pl;simp at h1 h2;exact⟨h1,h2⟩
theorem Tb.fill(B:Tb t es T):t.fill=T.length:=by unfold SetTable.fill;rw[B.nd,B.len.2];rfl
theorem Tb.fits(B:Tb t es T):t.fits es.size=true:=by
 unfold SetTable.fits;rw[B.fill,B.len.1,B.len.2];simp;exact B.ln
theorem Tb.odd(B:Tb t es T):t.gaveWay=false:=by
 obtain⟨k,h1,h2⟩:=B.mp;unfold SetTable.gaveWay;have:2 ^ k%2=0:=by rw[show k=k-1+1 by omega,Nat.pow_succ];omega
 have:t.mask%2=1:=by omega
 rw[this];rfl
theorem Tb.uniq(B:Tb t es T){x y:je}(hx:x∈T)(hy:y∈T)(e:x.1=y.1):x=y:=by
 have hr:=B.ri;rw[B.pl,List.pairwise_map]at hr;obtain⟨i,g⟩:=List.mem_iff_getElem?.mp hx;obtain⟨j,a⟩:=List.mem_iff_getElem?.mp hy;obtain⟨f,d⟩:=wR.mp g;obtain⟨c,b⟩:=wR.mp a;rcases Nat.lt_trichotomy i j with h | h | h
 ·have:=List.pairwise_iff_getElem.mp hr i j f c h
  rw[d,b]at this;omega
 ·subst h;rw[g]at a;exact q0S a
 ·have:=List.pairwise_iff_getElem.mp hr j i c f h
  rw[d,b]at this;omega
theorem kD(B:Tb t es T){hashAt:Nat->Int}(hh:∀i x,T[i]?=some x->hashAt i=x.2.1)(h:Int){N:Nat}(hN:(it t.mask N (S0 t.mask h)).j∉T.map (·.1))(hm:∀m,m<N->(it t.mask m (S0 t.mask h)).j∈T.map (·.1)) :
  ∀fuel n,n<=N->N-n<fuel ->
  (probe.go t hashAt h fuel (it t.mask n (S0 t.mask h))=some (.empty (it t.mask N (S0 t.mask h)).j none)/\∀m,n<=m->m<N->∀x∈T,x.1=(it t.mask m (S0 t.mask h)).j->x.2.1≠h) \/
  ∃m i x,n<=m/\m<N/\T[i]?=some x/\x.1=(it t.mask m (S0 t.mask h)).j/\x.2.1=h/\probe.go t hashAt h fuel (it t.mask n (S0 t.mask h))=some (.candidate (it t.mask m (S0 t.mask h)).j i (it t.mask (m+1) (S0 t.mask h))) /\
   ∀m',n<=m'->m'<m->∀x∈T,x.1=(it t.mask m' (S0 t.mask h)).j->x.2.1≠h
 |0,n,h1,h2=>q0Q h2 (Nat.not_lt_zero _)
 |fuel+1,n,h1,h2=>by
  unfold probe.go
  by_cases e:n=N
  ·subst e
   rw[kX B.ri B.nd (by rw[B.pl];exact hN)];dsimp only;rw[kB _ _ _ rfl];exact .inl ⟨rfl,λm a b=>q0Q b ⋯⟩
  ·have hlt:n<N:=by omega
   obtain⟨x,o,k⟩:=xM.mp (hm n hlt);obtain⟨i,f⟩:=List.mem_iff_getElem?.mp o;have v:t.slot (it t.mask n (S0 t.mask h)).j=.live i:=iu B.ri (by rw[B.place f,k]);rw[v];dsimp only;rw[hh i x f]
   by_cases d:x.2.1=h
   ·rw[q07 (by simpa using d)]
    refine .inr ⟨n,i,x,xp _,hlt,f,k,d,?_,λm' a b=>q0Q b ⋯⟩;rw[fX,dA]
   ·rw[q06 (by simpa using d),fX,<- dA]
    have c:∀y∈T,y.1=(it t.mask n (S0 t.mask h)).j->y.2.1≠h:=λy u I=>by
     rw[B.uniq u o (by rw[I,k])];exact d
    rcases kD B hh h hN hm fuel (n+1) ⋯ ⋯ with⟨p,g⟩ | ⟨m,r,q,p,g,G,D,C,z,w⟩
    ·refine .inl ⟨p,λm a b=>?_⟩
     by_cases l:m=n
     ·subst l;exact c
     ·exact g m ⋯ b
    ·refine .inr ⟨m,r,q,⋯,g,G,D,C,z,λm' a b=>?_⟩
     by_cases l:m'=n
     ·subst l;exact c
     ·exact w m' ⋯ b
end
section
variable {prog:Aj}{w:Am}{A:Al}{E:Aa}{s:Ae}{K:Type}[DecidableEq K]{knd:KeyKind prog w K}
def TK(knd:KeyKind prog w K)(h:Heap)(ks:List K)(v:Value):Prop:=∃b,v=.ref b/\IsTupleKey knd h ks b
theorem TK.inj(h1:TK knd h x v)(h2:TK knd h y v):x=y:=by
 obtain⟨a,rfl,q⟩:=h1;obtain⟨b,e,c⟩:=h2;cases e;exact q.inj c
theorem TK.eq{Q:Bool->Shared->Prop}(hu:A.units<cLine)(h1:TK knd s.heap x u)(h2:TK knd s.heap y v)(h:Q (decide (x=y)) s):wpAny a⁻¹ A (eqBool u v) Q E s:=by
 obtain⟨a,rfl,q⟩:=h1;obtain⟨b,rfl,c⟩:=h2;exact wpAny_eqBool_tuple hu q c h
theorem TK.quiet{Q:Bool->Shared->Prop}(h1:TK knd s.heap x u)(h:Q true s):wpAny a⁻¹ A (eqIsQuiet 8 u) Q E s:=by
 obtain⟨a,rfl,q⟩:=h1;exact wpAny_eqIsQuiet_tuple q h
theorem TK.plain{Q:Bool->Shared->Prop}(h1:TK knd s.heap x u)(h:Q false s):wpAny a⁻¹ A (ofAClassStatement 8 u) Q E s:=by
 obtain⟨a,rfl,q⟩:=h1;have k:=q.typeIs;obtain⟨o,items,n,g,hc,j,i⟩:=q;unfold ofAClassStatement;refine q04 (wpAny_typeOf k ?_);dsimp only;rw[q07 (by rfl)];refine q04 (q05 ?_);rw[q06 nofun];refine q04 (wpAny_seqItems g j ?_);dsimp only;refine q04 ?_;rw[<- Array.forIn_toList];refine wpAny_forIn_list _ (λaU r c=>r.1=none/\c=s/\∀v∈aU,carriedByValue v=true) _ ?_ ?_ _ _ ⟨rfl,rfl,i.byValue⟩
 ·rintro v aU r c ⟨hr,rfl,b⟩
  have f:=b v q0B;have e:ofAClassStatement 7 v=pure false:=by cases v<;>first | rfl | (cases f)
  rw[e];refine q04 (q05 ?_);rw[q06 nofun];exact q05 ⟨rfl,rfl,λu d=>b u (xg _ d)⟩
 ·rintro⟨r1,r2⟩ c ⟨hr,rfl,_⟩
  simp only at hr;subst hr;exact q05 h
theorem ke{c:Prop}[Decidable c]{α:Type}{P:α->Prop}{x y:α}(hx:P x)(hy:P y):P (if c then x else y):=by split<;>assumption
theorem TK.unseen(hx:TK knd s.heap x u){Q:Bool->Shared->Prop}{l:Af}(hl:∀v∈l,∃y,TK knd s.heap y v)(h:Q false s):wpAny a⁻¹ A (searchCouldBeSeen u l) Q E s:=by
 unfold searchCouldBeSeen;refine q04 ?_;refine wpAny_forIn_list _ (λaU r b=>r.1=none/\b=s/\∀v∈aU,∃y,TK knd s.heap y v) _ ?_ ?_ _ _ ⟨rfl,rfl,hl⟩
 ·rintro v aU r b ⟨hr,rfl,a⟩
  obtain⟨y,d⟩:=a v q0B;dsimp only;refine ke (P:=λm=>wpAny a⁻¹ A m _ E b) (q05 ⟨rfl,rfl,λz c=>a z (xg _ c)⟩) ?_;refine q04 (hx.quiet ?_);rw[q06 nofun];refine q04 (d.quiet ?_);rw[q06 nofun];refine q04 (hx.plain ?_);rw[q06 nofun];refine q04 (d.plain ?_);rw[q06 nofun];exact q05 ⟨rfl,rfl,λz c=>a z (xg _ c)⟩
 ·rintro⟨r1,r2⟩ b ⟨hr,rfl,_⟩
  simp only at hr;subst hr;exact q05 h
end
section
variable {prog:Aj}{w:Am}{A:Al}{E:Aa}{s:Ae}{K:Type}[DecidableEq K]{knd:KeyKind prog w K}
variable {a:Addr}{o:Obj}{es:Array (Int×Value)}{ep:Nat}{t:SetTable}{T:List je}
abbrev J(t:SetTable)(h:Int)(m:Nat):Nat:=(it t.mask m (S0 t.mask h)).j
def uF(knd:KeyKind prog w K)(h:Heap)(T:List je):Prop:=∀x∈T,∃ks,TK knd h ks x.2.2/\x.2.1=tupleKeyHash knd ks
theorem iD{i:Nat}{yh:Int}{yv:Value}{ks:List K}{Q:SetFound->Shared->Prop}{Y:Sem SetFound}(ho:s.heap.get? a=some o)(hd:o.data=.set es ep t)(B:Tb t es T)(hent:es[i]?=some (yh,yv))(hslot:t.slot j=.live i)(q1:TK knd s.heap ks yv)(hx:TK knd s.heap k x)(hu:A.units<cLine)
  (yes:ks=k->Q (.there none) s) (again:ks≠k->wpAny a⁻¹ A X Q E s) :
  wpAny a⁻¹ A (match es[i]? with
      |some (_,y)=>do
       let equal <- holding [y] (eqBool y x)
       let __x <- setState a
       if(true&&equal)=true then pure (SetFound.there none)
        else
         match __x.2.snd.sameMemory t.moves t.mask with
         |some same=>
          match
           if same=true then __x.2.snd.slot j
           else Slot.empty with
          |Slot.live i'=>
           match __x.fst[i']? with
           |some (_,y')=>do
            let __do_lift <- isSame y' y
            let still <- pure (if __do_lift=true then some i' else none)
            match still with
             |none=>Y
             |some i'=>
              if equal=true then pure (SetFound.there (some i'))
              else X
           |none=>do
            let still <- pure none
            match still with
             |none=>Y
             |some i'=>
              if equal=true then pure (SetFound.there (some i'))
              else X
          |x_1=>do
           let still <- pure none
           match still with
            |none=>Y
            |some i'=>
             if equal=true then pure (SetFound.there (some i'))
             else X
         |x=>unsupported "set.changed-during-lookup:is-the-new-block-at-the-old-address"
      |x=>unsupported "internal:set-entry") Q E s:=by
 rw[hent];dsimp only;refine q04 (q0Y (q1.eq hu hx ?_));refine q04 (wpAny_setState_of ho hd B.fits ?_);dsimp only
 by_cases e:ks=k
 ·rw[q07 (by rw[q09 e];rfl)]
  exact q05 (yes e)
 ·rw[q06 (by rw[q08 e];decide)]
  have d:t.sameMemory t.moves t.mask=some true:=by unfold SetTable.sameMemory;simp
  rw[d];dsimp only;rw[q07 rfl,hslot];dsimp only;rw[hent];dsimp only;have c:isSame yv yv=pure true:=by
   obtain⟨b,rfl,_⟩:=q1;unfold isSame;simp
  rw[c];refine q04 (q05 ?_);refine q04 (q05 ?_);rw[q07 rfl];dsimp only;rw[q06 (by rw[q08 e];decide)];exact again e
theorem fu(ho:s.heap.get? a=some o)(hd:o.data=.set es ep t)(B:Tb t es T)(hK:uF knd s.heap T){k:List K}{x:Value}(hx:TK knd s.heap k x)(hu:A.units<cLine){N:Nat}
  (hN:J t (tupleKeyHash knd k) N∉T.map (·.1)) (hm:∀m,m<N->J t (tupleKeyHash knd k) m∈T.map (·.1)) (hNb:N<10*(t.mask+14)) {Q:SetFound->Shared->Prop}
  (yes:(∃y∈T,TK knd s.heap k y.2.2)->Q (.there none) s) (no:(∀y∈T,¬ TK knd s.heap k y.2.2)->Q (.free (J t (tupleKeyHash knd k) N) false) s) :
  ∀(f n:Nat) (stand:Option Probe),N-n<f->n<=N->(stand=none/\n=0\/stand=some (it t.mask n (S0 t.mask (tupleKeyHash knd k)))) ->
   (∀m,m<n->∀y∈T,y.1=J t (tupleKeyHash knd k) m->¬ TK knd s.heap k y.2.2) ->
   wpAny a⁻¹ A (setSearchFrom a x (tupleKeyHash knd k) true f stand) Q E s
 |0,n,stand,h1,_,_,_=>q0Q h1 (Nat.not_lt_zero _)
 |f+1,n,stand,h1,h2,h3,h4=>by
  unfold setSearchFrom;refine q04 (wpAny_setState_of ho hd B.fits ?_);dsimp only;rw[q06 (by rw[B.odd];decide)];have est:stand.getD (t.probeStart (tupleKeyHash knd k))=it t.mask n (S0 t.mask (tupleKeyHash knd k)):=by
   rcases h3 with⟨rfl,rfl⟩ | rfl
   ·exact ot _ _
   ·rfl
  rw[est];have U:=kD B (hashAt:=λi=>(es[i]?.map (·.1)).getD 0) (λi y q=>by rw[B.ent q];rfl) (tupleKeyHash knd k) hN hm (10*turns t.mask) n h2 (by unfold turns;omega);rcases U with⟨g1,g2⟩ | ⟨m,i,y,g1,g2,g3,g4,g5,g6,g7⟩
  ·have e:t.probe (λi=>(es[i]?.map (·.1)).getD 0) (tupleKeyHash knd k) (it t.mask n (S0 t.mask (tupleKeyHash knd k)))=_:=g1
   show wpAny _ _ (match t.probe (λi=>(es[i]?.map (·.1)).getD 0) (tupleKeyHash knd k) (it t.mask n (S0 t.mask (tupleKeyHash knd k))) with | some met=>_ | _=>_) _ _ _;rw[e];dsimp only;refine q05 (no λy q D=>?_);obtain⟨ks,p,I⟩:=hK y q;have:=p.inj D;subst this;obtain⟨C,G,r2⟩:=B.re y q;rw[I]at G r2;have Z:C<N:=by
    rcases Nat.lt_trichotomy C N with h | h | h
    ·exact h
    ·subst h;exact q0Q (xM.mpr ⟨y,q,G.symm⟩) hN
    ·exact q0Q (r2 N h) hN
   by_cases hn:C<n
   ·exact h4 C hn y q G.symm D
   ·exact g2 C ⋯ Z y q G.symm I
  ·have e:t.probe (λi=>(es[i]?.map (·.1)).getD 0) (tupleKeyHash knd k) (it t.mask n (S0 t.mask (tupleKeyHash knd k)))=_:=g6
   show wpAny _ _ (match t.probe (λi=>(es[i]?.map (·.1)).getD 0) (tupleKeyHash knd k) (it t.mask n (S0 t.mask (tupleKeyHash knd k))) with | some met=>_ | _=>_) _ _ _;rw[e];dsimp only;have g:=wW g3;obtain⟨ks,p,I⟩:=hK y g;have c:=B.ent g3;have b:t.slot (it t.mask m (S0 t.mask (tupleKeyHash knd k))).j=.live i:=iu B.ri (by rw[B.place g3,g4]);have d:ks≠k->wpAny a⁻¹ A (setSearchFrom a x (tupleKeyHash knd k) true f (some (it t.mask (m+1) (S0 t.mask (tupleKeyHash knd k))))) Q E s:=λY=>by
    refine fu ho hd B hK hx hu hN hm hNb yes no f (m+1) _ ⋯ ⋯ (.inr rfl) λL hm' z r ez l=>?_
    by_cases c1:L<n
    ·exact h4 L c1 z r ez l
    ·by_cases c2:L=m
     ·subst c2
      have:z=y:=B.uniq r g (by rw[ez,g4]);rw[this]at l;exact Y (p.inj l)
     ·obtain⟨kz,M,w2⟩:=hK z r
      have:=M.inj l;subst this;exact g7 L ⋯ ⋯ z r ez w2
   clear g7 h4 e g6;obtain⟨yj,yh,yv⟩:=y;dsimp only at p I c g4 g5
   by_cases hl:(!t.led)=true
   ·rw[q07 hl]
    refine q04 (hx.unseen (λv hv=>?_) ?_)
    ·obtain⟨z,r,rfl⟩:=xM.mp hv
     have R:=(Array.mem_filter.mp (Array.mem_toList_iff.mp r)).1;have O:z∈T.map (·.2):=by rw[<- B.en];exact Array.mem_toList_iff.mpr R
     obtain⟨u,S,rfl⟩:=xM.mp O;obtain⟨kz,M,_⟩:=hK u S;exact⟨kz,M⟩
    rw[q06 nofun];exact iD ho hd B c b p hx hu (λe=>yes ⟨_,g,by rw[<- e];exact p⟩) d
   ·rw[q06 hl]
    exact iD ho hd B c b p hx hu (λe=>yes ⟨_,g,by rw[<- e];exact p⟩) d
end
theorem jX(n:Nat):∀(fuel j:Nat),3<=j->n<2 ^ (j+fuel)->(j=3\/2 ^ j<=2*n)->∃k,sizeAbove.go n fuel (2 ^ j)=2 ^ k/\3<=k/\n<2 ^ k/\(k=3\/2 ^ k<=2*n)
 |0,j,h3,h,hs=>⟨j,rfl,h3,by simpa using h,hs⟩
 |fuel+1,j,h3,h,hs=>by
  unfold sizeAbove.go
  by_cases hle:2 ^ j<=n
  ·rw[q07 hle]
   have e:2 ^ j*2=2 ^ (j+1):=(Nat.pow_succ ..).symm;rw[e];exact jX n fuel (j+1) ⋯ (by rw[Nat.add_right_comm];exact h) (.inr ⋯)
  ·rw[q06 hle]
   exact⟨j,rfl,h3,⋯,hs⟩
theorem gG{n:Nat}(h:n<2 ^ 60):∃k,sizeAbove n=2 ^ k/\3<=k/\n<2 ^ k/\(k=3\/2 ^ k<=2*n):=
 jX n 64 3 (xp _) (Nat.lt_trans h nofun) (.inl rfl)
def cj(mask:Nat)(owner:Array (Option Nat)):List (Nat×Nat):=(List.range (mask+1)).filterMap λj=>(owner.getD j none).map (j,·)
theorem jI(g:Nat->Option Nat):∀l:List Nat,(l.filterMap λj=>(g j).map (j,·)).map (·.1)=l.filter λj=>(g j).isSome
 | []=>rfl
 |j::l=>by
  have ih:=jI g l;rw[q0U,List.filter_cons];cases hg:g j with
  |none=>simpa using ih
  |some i=>simpa using ih
theorem dw{mask:Nat}{owner:Array (Option Nat)}{j i:Nat}:(j,i)∈cj mask owner↔j<=mask/\owner.getD j none=some i:=by
 unfold cj;rw[List.mem_filterMap]
 constructor
 ·rintro⟨j',h1,h2⟩
  obtain⟨i',b,a⟩:=xv.mp h2;cases a;exact⟨by have:=List.mem_range.mp h1;omega,b⟩
 ·rintro⟨h1,h2⟩
  exact⟨j,List.mem_range.mpr ⋯,by rw[h2];rfl⟩
theorem lX{es:Array (Int×Value)}{T:List je}(hen:es.toList=T.map (·.2)):∀l:List (Nat×Nat),(∀q∈l,q.2<T.length)->(l.map (·.2)).filterMap (λi=>es[i]?)=l.map λq=>(T.getD q.2 (0,0,.none)).2
 | [],_=>rfl
 |q::l,h=>by
  have hq:=h q q0B;have e:es[q.2]?=some (T.getD q.2 (0,0,.none)).2:=by
   rw[<- q0G,hen,wV,q0A,wQ hq]
   rfl
  rw[xy,q0U,e,xy,lX hen l λz a=>h z (xg _ a)]
theorem pP{t:SetTable}{es:Array (Int×Value)}{T:List je}(hen:es.toList=T.map (·.2)){k:Nat}{wanted:Nat}(hs:sizeAbove wanted=2 ^ k)(hk:3<=k)(hb:2 ^ k<=8192)(hl:T.length<=2 ^ k-1) :
  ∃t' order T',t.relaid (es.map (·.1)) wanted=some (t',order)/\(order.filterMap (es[·]?)).size=es.size/\Tb t' (order.filterMap (es[·]?)) T'/\(∀e,e∈T'.map (·.2)↔e∈T.map (·.2))/\t'.mask=2 ^ k-1/\T'.length=T.length/\t'.led=t.led:=by
 have hp:=Nat.two_pow_pos k;have I:2 ^ k-1+1=2 ^ k:=by omega
 have M:es.size=T.length:=by have:=q0R List.length hen;simpa using this
 have R:(es.map (·.1)).toList=T.map (·.2.1):=by rw[Array.toList_map,hen,xc];rfl
 have O0:uX (2 ^ k-1) [] (Array.replicate (2 ^ k-1+1) none) []:=by
  refine⟨by simp,rfl,List.nodup_nil,λj h=>(nomatch h),λj i L=>⟨λh=>?_,λh=>by simp at h⟩,λi h j e=>by simp at e⟩;have:(Array.replicate (2 ^ k-1+1) (none:Option Nat)).getD j none=none:=by simp[Array.getD,L]
  rw[this]at h;cases h
 obtain⟨a,b,S,O⟩:=qh I (T.map (·.2.1)) [] _ _ O0 (by simpa using hl);rw[xQ]at O;have y:layClean (2 ^ k-1) (es.map (·.1))=some a:=by
  unfold layClean;rw[<- Array.foldl_toList,R];have:∀(X:Option (Array (Option Nat)×Nat)),X=some (a,([]:List Int).length+(T.map (·.2.1)).length)->X.map (·.1)=some a:=λX e=>by rw[e];rfl
  exact this _ S
 have l:b.length=T.length:=by rw[O.ln,wT]
 have p:∀q∈cj (2 ^ k-1) a,q.2<T.length:=λq f=>by
  obtain⟨h1,h2⟩:=dw.mp (show(q.1,q.2)∈_ from f);have:=(O.at_ q.1 q.2 h1).mp h2;rw[<- l];exact(wR.mp this).1
 have G:(cj (2 ^ k-1) a).map (·.1)=(List.range (2 ^ k-1+1)).filter λj=>(a.getD j none).isSome:=jI _ _;have v:((cj (2 ^ k-1) a).map (·.1)).Pairwise (· < ·):=by rw[G];exact List.pairwise_lt_range.sublist List.filter_sublist
 have o:∀j,j∈(cj (2 ^ k-1) a).map (·.1)↔j∈b:=λj=>by
  constructor
  ·intro h
   obtain⟨q,f,rfl⟩:=xM.mp h;obtain⟨h1,h2⟩:=dw.mp (show(q.1,q.2)∈_ from f);exact wW ((O.at_ q.1 q.2 h1).mp h2)
  ·intro h
   obtain⟨i,c⟩:=List.mem_iff_getElem?.mp h;exact xM.mpr ⟨(j,i),dw.mpr ⟨O.bd j h,(O.at_ j i (O.bd j h)).mpr c⟩,rfl⟩
 have w:(cj (2 ^ k-1) a).length=T.length:=by
  have nd:((cj (2 ^ k-1) a).map (·.1)).Nodup:=v.imp λh=>xj h;have:=((List.perm_ext_iff_of_nodup nd O.nd).mpr o).length_eq;rw[wT,l]at this;exact this
 generalize d:((cj (2 ^ k-1) a).map λq=>(q.1,(T.getD q.2 (0,0,.none)).2))=T';have r:T'.map (·.1)=(cj (2 ^ k-1) a).map (·.1):=by rw[<- d,xc];rfl
 have D:T'.map (·.2)=(cj (2 ^ k-1) a).map λq=>(T.getD q.2 (0,0,.none)).2:=by rw[<- d,xc];rfl
 have C:T'.length=T.length:=by rw[<- d,wT,w]
 have g:(((cj (2 ^ k-1) a).map (·.2)).toArray.filterMap (es[·]?)).toList=T'.map (·.2):=by
  rw[Array.toList_filterMap,D];exact lX hen _ p
 refine⟨{mask:=2 ^ k-1,place:=((cj (2 ^ k-1) a).map (·.1)).toArray,dummies:=#[],finger:=t.finger,led:=t.led,moves:=t.movedTo (2 ^ k-1),plain:=t.plain},((cj (2 ^ k-1) a).map (·.2)).toArray,T',?_,?_,⟨?_,g,?_,?_,?_,⟨k,?_,hk⟩,?_,?_,?_⟩,λe=>?_,?_,C,rfl⟩
 rotate_left
 ·have:=q0R List.length g
  rw[Array.length_toList,wT,C]at this;rw[this,M]
 ·rw[r]
 ·show((cj (2 ^ k-1) a).map (·.1)).toArray.toList.Pairwise _
  exact v
 ·intro x u
  have:x.1∈T'.map (·.1):=List.mem_map_of_mem u;rw[r,o]at this;exact O.bd _ this
 ·rfl
 ·exact I
 ·show 2 ^ k-1<8192;omega
 ·show T'.length<=2 ^ k-1;omega
 ·intro x u
  rw[<- d]at u;obtain⟨q,f,rfl⟩:=xM.mp u;obtain⟨h1,h2⟩:=dw.mp (show(q.1,q.2)∈_ from f);have Y:=(O.at_ q.1 q.2 h1).mp h2;have c:=p q f;have U:(T.map (·.2.1))[q.2]?=some (T.getD q.2 (0,0,.none)).2.1:=by
   rw[wV,q0A,wQ c];rfl
  obtain⟨n,a1,Z⟩:=O.re q.2 _ q.1 U Y;exact⟨n,a1,λm I=>by rw[r,o];exact Z m I⟩
 ·rw[D]
  constructor
  ·intro h
   obtain⟨q,f,rfl⟩:=xM.mp h;have c:=p q f;rw[q0A,wQ c];exact List.mem_map_of_mem (w6 c)
  ·intro h
   obtain⟨x,u,rfl⟩:=xM.mp h;obtain⟨i,c⟩:=List.mem_iff_getElem?.mp u;have B:i<b.length:=by rw[l];exact(wR.mp c).1
   have L:b[i]?=some b[i]:=wQ B;have z:=O.bd _ (w6 B);refine xM.mpr ⟨(b[i],i),dw.mpr ⟨z,(O.at_ _ _ z).mpr L⟩,?_⟩;show(T.getD i (0,0,.none)).2=x.2;rw[q0A,c];rfl
 ·rfl
 ·unfold SetTable.relaid SetTable.laid
  rw[hs,y]
  rfl
theorem Tb.plain{t:SetTable}{es:Array (Int×Value)}(B:Tb t es T)(b:Bool):Tb {t with plain:=b} es T:=⟨B.pl,B.en,B.ri,B.bd,B.nd,B.mp,B.m14,B.ln,B.re⟩
theorem Tb.put{es:Array (Int×Value)}(B:Tb t es T){h:Int}{x:Value}{N:Nat}(hN:J t h N∉T.map (·.1))(hm:∀m,m<N->J t h m∈T.map (·.1))(hl:T.length<t.mask) :
  ∃t1 T1,t.put (J t h N)=(t1,below t.place (J t h N))/\Tb t1 (insertAt es (below t.place (J t h N)) (h,x)) T1/\t1.mask=t.mask/\T1.Perm ((J t h N,h,x)::T)/\t1.plain=t.plain/\t1.led=t.led:=by
 have b:∀(l:List je) p,(l.take p++(J t h N,h,x)::l.drop p).Perm ((J t h N,h,x)::l):=λl p=>by
  refine List.perm_middle.trans ?_;rw[List.take_append_drop]
 have ple:below t.place (J t h N)<=T.length:=by rw[<- B.len.2];exact(c6 B.ri _).2.2
 refine⟨_,T.take (below t.place (J t h N))++(J t h N,h,x)::T.drop (below t.place (J t h N)),rfl,⟨?_,?_,?_,?_,?_,B.mp,B.m14,?_,?_⟩,rfl,b _ _,rfl,rfl⟩
 ·show(insertAt t.place _ _).toList=_
  rw[SetTable.toList_insertAt,B.pl,xa,xy,List.map_take,List.map_drop]
 ·rw[SetTable.toList_insertAt,B.en,xa,xy,List.map_take,List.map_drop]
 ·show(insertAt t.place _ _).toList.Pairwise _
  rw[SetTable.toList_insertAt];exact kt B.ri (by rw[B.pl];exact hN)
 ·intro y hy
  rcases xf.mp ((b _ _).mem_iff.mp hy) with rfl | hy
  ·exact j8 _ _ _
  ·exact B.bd y hy
 ·show(if has t.dummies _ then _ else t.dummies)=_
  rw[B.nd,ma];rfl
 ·have:=(b T (below t.place (J t h N))).length_eq
  rw[this,w_];show _<=t.mask;omega
 ·intro y hy
  have a:∀j,j∈T.map (·.1)->j∈(T.take (below t.place (J t h N))++(J t h N,h,x)::T.drop (below t.place (J t h N))).map (·.1):=λj e=>by
   rw[((b T (below t.place (J t h N))).map (·.1)).mem_iff];exact xg _ e
  rcases xf.mp ((b _ _).mem_iff.mp hy) with rfl | hy
  ·exact⟨N,rfl,λm h=>a _ (hm m h)⟩
  ·obtain⟨n,d,c⟩:=B.re y hy
   exact⟨n,d,λm h=>a _ (c m h)⟩
section
variable {prog:Aj}{w:Am}{A:Al}{E:Aa}{s:Ae}{K:Type}[DecidableEq K]{knd:KeyKind prog w K}
structure j9(knd:KeyKind prog w K)(L:Bool)(Vp:Value->Prop)(h:Heap)(o:Obj)(es:Array (Int×Value))(ep:Nat)(t:SetTable)(T:List je)(S:List (List K)):Prop where
 ex:o.ExactSet
 ld:t.led=L
 vl:∀y∈T,Vp y.2.2
 data:o.data=.set es ep t
 tb:Tb t es T
 keys:uF knd h T
 ln:S.length=T.length
 nd:S.Nodup
 mem:∀k,k∈S↔∃y∈T,TK knd h k y.2.2
def d9(knd:KeyKind prog w K)(L:Bool)(Vp:Value->Prop)(h:Heap)(a:Addr)(S:List (List K)):Prop:=∃o es ep t T,h.get? a=some o/\j9 knd L Vp h o es ep t T S/\T.length*5<t.mask*3
theorem TK.but{a:Addr}{o:Obj}{es:Array (Int×Value)}{ep:Nat}(q:TK knd h k v)(ho:h.get? a=some o)(hd:o.data=.set es ep t)(hs:Heap.SameBut a h h'):TK knd h' k v:=by
 obtain⟨b,rfl,g,c,n,d,j,e,i⟩:=q;have f:b≠a:=by
  rintro rfl;rw[ho]at d;cases d
  rw[hd]at e;cases e
 exact⟨b,rfl,g,c,n,(hs.2 b f).trans d,j,e,i⟩
theorem TK.but'{a:Addr}{o':Obj}{es:Array (Int×Value)}{ep:Nat}(q:TK knd h' k v)(ho:h'.get? a=some o')(hd:o'.data=.set es ep t)(hs:Heap.SameBut a h h'):TK knd h k v:=by
 obtain⟨b,rfl,g,c,n,d,j,e,i⟩:=q;have f:b≠a:=by
  rintro rfl;rw[ho]at d;cases d
  rw[hd]at e;cases e
 exact⟨b,rfl,g,c,n,(hs.2 b f).symm.trans d,j,e,i⟩
theorem TK.hbv{Q:Bool->Shared->Prop}(h1:TK knd s.heap x u)(h:∀b,Q b s):wpAny a⁻¹ A (hashByValue 8 u) Q E s:=by
 obtain⟨a,rfl,q⟩:=h1;have p:=q.typeIs;obtain⟨o,d,n,k,hc,m,l⟩:=q;unfold hashByValue;refine q04 (wpAny_specialOf p F.slot_tuple_hash.lookup ?_);dsimp only;refine q04 (wpAny_seqItems k m ?_);refine q04 ?_;show wpAny _ _ (forIn d _ _) _ _ s;rw[<- Array.forIn_toList];refine wpAny_forIn_list _ (λaU r f=>f=s/\∀v∈aU,carriedByValue v=true) _ ?_ ?_ _ _ ⟨rfl,l.byValue⟩
 ·rintro v aU r f ⟨rfl,c⟩
  have j:=c v q0B;obtain⟨b,e⟩:∃b,hashByValue 7 v=pure b:=by cases v<;>first | exact⟨_,rfl⟩ | (cases j)
  rw[e];refine q04 (q05 ?_);cases b with
  |true=>
   rw[q06 nofun];exact q05 ⟨rfl,λu g=>c u (xg _ g)⟩
  |false=>
   rw[q07 nofun];exact q05 (q05 (h _))
 ·rintro⟨i,r2⟩ f ⟨rfl,_⟩
  cases i with
  |none=>exact q05 (h _)
  |some b=>exact q05 (h _)
theorem j9.store{h':Heap}{a:Addr}{o':Obj}{es es':Array (Int×Value)}{ep ep':Nat}{t':SetTable}{Vp:Value->Prop}(q:j9 knd L Vp h o es ep t T S)(ho:h.get? a=some o)(ho':h'.get? a=some o')(ex:o'.ExactSet)(ld:t'.led=t.led)(hd':o'.data=.set es' ep' t')(hs:Heap.SameBut a h h')(B:Tb t' es' T')(hl:T'.length=T.length)(hm:∀e,e∈T'.map (·.2)↔e∈T.map (·.2)):j9 knd L Vp h' o' es' ep' t' T' S:=by
 refine⟨ex,ld.trans q.ld,λy b=>?_,hd',B,λx d=>?_,by rw[hl];exact q.ln,q.nd,λk=>?_⟩
 ·obtain⟨z,g,e⟩:=xM.mp ((hm y.2).mp (List.mem_map_of_mem b))
  rw[<- e];exact q.vl z g
 ·obtain⟨y,b,e⟩:=xM.mp ((hm x.2).mp (List.mem_map_of_mem d))
  obtain⟨ks,c,f⟩:=q.keys y b;rw[<- e];exact⟨ks,c.but ho q.data hs,f⟩
 ·rw[q.mem]
  constructor
  ·rintro⟨y,b,c⟩
   obtain⟨x,d,e⟩:=xM.mp ((hm y.2).mpr (List.mem_map_of_mem b));exact⟨x,d,by rw[e];exact c.but ho q.data hs⟩
  ·rintro⟨x,d,c⟩
   obtain⟨y,b,e⟩:=xM.mp ((hm x.2).mp (List.mem_map_of_mem d));exact⟨y,b,by rw[e];exact c.but' ho' hd' hs⟩
theorem oO{a:Addr}{o:Obj}{es:Array (Int×Value)}{ep:Nat}(ho:s.heap.get? a=some o)(hex:o.ExactSet)(hd:o.data=.set es ep t)(B:Tb t es T)(h0:1<=T.length)(h2:T.length<=2000){Q:Unit->Shared->Prop}
  (h:∀o' es' t' T',o'.ExactSet->t'.led=t.led->o'.data=.set es' (ep+1) t'->Tb t' es' T'->T'.length*5<t'.mask*3->T'.length=T.length->(∀e,e∈T'.map (·.2)↔e∈T.map (·.2)) ->
   ∀h',Heap.SameBut a s.heap h'->h'.get? a=some o'->Q () {s with heap:=h' }) :
  wpAny a⁻¹ A (setRelay a (grown es.size)) Q E s:=by
 have c:=B.len.1;have l:grown es.size=4*T.length:=by unfold grown;rw[q06 ⋯,c,Nat.mul_comm]
 obtain⟨k,j,x,k3,k4⟩:=gG (n:=4*T.length) ⋯;have v:2 ^ k<=8192:=by
  rcases k4 with k4 | k4
  ·rw[k4];decide
  ·refine Classical.byContradiction λC=>?_
   have f:14<=k:=Nat.lt_of_not_le λy=>C (Nat.pow_le_pow_right (n:=2) nofun (show k<=13 from y));have:=Nat.pow_le_pow_right (n:=2) nofun f;have e:2 ^ 14=16384:=by decide
   omega
 obtain⟨t',b,T',u,i,r,q,p,g,m⟩:=pP B.en (wanted:=grown es.size) (by rw[l];exact j) x v ⋯;unfold setRelay;refine q04 (wpAny_setState_of ho hd B.fits ?_);dsimp only;rw[q06 (by rw[l,j,q0W];omega)];rw[u];refine q04 (wpAny_of_eq (a:=(b.filterMap (es[·]?),t')) ?_ ?_)
 ·show(if((b.filterMap (es[·]?)).size != es.size)=true then((unsupported "internal:set-table-lost-an-element":Sem PUnit) >>= λ_=>pure (b.filterMap (es[·]?),t')) else pure (b.filterMap (es[·]?),t'))=_
  rw[q06 (by rw[i];simp)]
 ·dsimp only
  refine wpAny_storeSet_of ho hd ?_ (by rw[i,c,q0W];omega);have d:=Heap.SameBut.update s.heap a (Obj.putSet (b.filterMap (es[·]?)) t');have z:(s.heap.update a (Obj.putSet (b.filterMap (es[·]?)) t')).get? a=some (Obj.putSet (b.filterMap (es[·]?)) t' o):=by
   exact w9 _ ho (by rw[putSet_of _ _ hd];rfl)
  refine h _ _ t' T' ?_ m (by rw[putSet_of _ _ hd]) r (by rw[p,g];omega) g q _ d z;rw[putSet_of _ _ hd];exact hex
theorem qN{Vp:Value->Prop}(hS:d9 knd L Vp s.heap a S)(hn:S.length<2000)(hx:TK knd s.heap k x)(hVp:Vp x)(hu:A.units<cLine){Q:Bool->Shared->Prop}
  (h:∀h' tk b,s.toks<=tk->Heap.SameBut a s.heap h'->d9 knd L Vp h' a (if k∈S then S else S++[k])->Q b {s with heap:=h',toks:=tk}):wpAny a⁻¹ A (setAdd a x) Q E s:=by
 obtain⟨o,Y,Z,t,T,f,q,C⟩:=hS;obtain⟨b,rfl,R⟩:=id hx;unfold setAdd;refine q0Y (q04 (wpAny_pyHash_tuple hu R ?_));unfold setAddHashed;refine q0Y ?_;generalize n:({s with toks:=s.toks+(k.length+1)}:Shared)=s1;have G:s1.heap=s.heap:=by rw[<- n]
 have h1:∀h' tk b,s1.toks<=tk->Heap.SameBut a s.heap h'->d9 knd L Vp h' a (if k∈S then S else S++[k])->Q b {s1 with heap:=h',toks:=tk}:=λh' tk b z x y=>by rw[<- n]at z ⊢;exact h h' tk b (xz (Nat.le_add_right _ _) z) x y
 clear h n;rw[<- G]at f hx q h1 R;clear G;have B:=q.tb;have a1:T.length<t.mask:=by omega
 obtain⟨kk,km,_⟩:=B.mp;obtain⟨j0,j1,j2⟩:=oF (pos:=T.map (·.1)) (mask:=t.mask) (by rw[wT];omega);obtain⟨N,n1,n2,n3⟩:=kH km (tupleKeyHash knd k) (own:=λj=>j∈T.map (·.1)) j1 j2;show wpAny _ _ (setAddHashedIn a (.ref b) (tupleKeyHash knd k) 100000) _ _ _;unfold setAddHashedIn;refine q04 (wpAny_setState_of f q.data B.fits ?_);dsimp only;rw[q06 (by unfold byScan Value.scannable;simp)];refine q04 ?_;unfold setSearch;refine fu f q.data B q.keys hx hu n2 n3 n1 (λD=>?_) (λa2=>?_) 100000 0 none (by have:=B.m14;omega) (xq _) (.inl ⟨rfl,rfl⟩) λm hm=>q0Q hm (Nat.not_lt_zero _)
 ·dsimp only
  have a4:k∈S:=(q.mem k).mpr D;refine q05 ?_;have:=h1 s1.heap s1.toks false (xp _) ⟨rfl,λ_ _=>rfl⟩ (by rw[q07 a4];exact⟨o,Y,Z,t,T,f,q,C⟩);exact this
 ·dsimp only
  have I:k∉S:=λhk=>by
   obtain⟨y,hy,a3⟩:=(q.mem k).mp hk;exact a2 y hy a3
  rw[q06 I]at h1;refine q04 (wpAny_setState_of f q.data B.fits ?_);dsimp only;obtain⟨u,U,p1,B1,p2,v,p4,p5⟩:=B.put (h:=tupleKeyHash knd k) (x:=.ref b) n2 n3 a1;rw[p1];dsimp only;have l1:U.length=T.length+1:=by rw[v.length_eq];rfl
  have z1:=B1.len.1;have z0:=B.len.1;have a5:=q.ln;have a6:Y.size+1=(insertAt Y (below t.place (J t (tupleKeyHash knd k) N)) (tupleKeyHash knd k,Value.ref b)).size:=by omega
  rw[a6];generalize insertAt Y (below t.place (J t (tupleKeyHash knd k) N)) (tupleKeyHash knd k,Value.ref b)=es1 at B1 z1;have i:∀r:Bool,wpAny a⁻¹ A (do
    storeSet a es1 (if r=true then u else{u with plain:=false})
    if(!false&&(if r=true then u else{u with plain:=false}).tooFull)=true then do
     setRelay a (grown es1.size)
     pure true
    else pure true) Q E s1:=by
   intro r;obtain⟨d,e2,B2,m2,l2⟩:∃d,(if r=true then u else{u with plain:=false})=d/\Tb d es1 U/\d.mask=t.mask/\d.led=t.led:=by
    cases r with
    |true=>exact⟨_,rfl,B1,p2,p5⟩
    |false=>exact⟨_,rfl,B1.plain false,p2,p5⟩
   rw[e2];refine q04 (wpAny_storeSet_of f q.data ?_ (by rw[q0W];omega));have c:=Heap.SameBut.update s1.heap a (Obj.putSet es1 d);have O:(s1.heap.update a (Obj.putSet es1 d)).get? a=some {o with data:=.set es1 (Z+1) d}:=by
    have:=w9 (Obj.putSet es1 d) f (by rw[putSet_of _ _ q.data];rfl);rw[putSet_of _ _ q.data]at this;exact this
   generalize s1.heap.update a (Obj.putSet es1 d)=h2 at c O;have q2:j9 knd L Vp h2 {o with data:=.set es1 (Z+1) d} es1 (Z+1) d U (S++[k]):=by
    refine⟨q.ex,l2.trans q.ld,λy hy=>?_,rfl,B2,λx hx'=>?_,by rw[xo,l1,a5];rfl,List.nodup_append.mpr ⟨q.nd,List.pairwise_singleton _ _,λx hx y hy e=>?_⟩,λj=>?_⟩
    ·rcases xf.mp (v.mem_iff.mp hy) with rfl | hy
     ·exact hVp
     ·exact q.vl y hy
    ·rcases xf.mp (v.mem_iff.mp hx') with rfl | hx'
     ·exact⟨k,hx.but f q.data c,rfl⟩
     ·obtain⟨ks,g,w2⟩:=q.keys x hx'
      exact⟨ks,g.but f q.data c,w2⟩
    ·rw[wU]at hy
     rw[e,hy]at hx;exact I hx
    ·rw[xb,wU,q.mem]
     constructor
     ·rintro(⟨y,hy,g⟩ | rfl)
      ·exact⟨y,v.mem_iff.mpr (xg _ hy),g.but f q.data c⟩
      ·exact⟨_,v.mem_iff.mpr q0B,hx.but f q.data c⟩
     ·rintro⟨y,hy,g⟩
      have g:=g.but' O rfl c;rcases xf.mp (v.mem_iff.mp hy) with rfl | hy
      ·exact .inr (g.inj hx)
      ·exact .inl ⟨y,hy,g⟩
   by_cases hf:(!false&&d.tooFull)=true
   ·rw[q07 hf]
    refine q04 (oO (s:={s1 with heap:=h2}) O q.ex rfl B2 ⋯ ⋯ λo' a7 t' T' x1 x7 x2 x3 x4 x5 x6 h3 l M=>?_);refine q05 (h1 h3 s1.toks true (xp _) ⟨l.1.trans c.1,λb R=>(l.2 b R).trans (c.2 b R)⟩ ⟨o',a7,_,t',T',M,q2.store O M x1 x7 x2 l x3 x5 x6,x4⟩)
   ·rw[q06 hf]
    have p:U.length*5<d.mask*3:=by
     have:d.tooFull=false:=by simpa using hf
     unfold SetTable.tooFull at this;rw[B2.fill,decide_eq_false_iff_not]at this;omega
    exact q05 (h1 h2 s1.toks true (xp _) c ⟨_,es1,_,d,U,O,q2,p⟩)
  refine ke (P:=λm=>wpAny a⁻¹ A m Q E s1) (q04 (hx.hbv λr=>i r)) (q04 (q05 (i true)))
end
end STb
namespace STb
open PySem PySem.SetTable PySem.Spec PyProof.Rows L2
section
variable {prog:Aj}{w:Am}{K:Type}[DecidableEq K]{knd:KeyKind prog w K}
theorem TK.to{h':Heap}(q:TK knd h k (.ref b))(u:∀o,h.get? b=some o->h'.get? b=some o):TK knd h' k (.ref b):=by
 obtain⟨b',e,o,a,n,c,r⟩:=q;cases e;exact⟨b,rfl,o,a,n,u _ c,r⟩
theorem d9.up{Vp:Value->Prop}{h':Heap}{wr:Ag}(q:d9 knd L Vp h a S)(u:∀b o,b∉wr->h.get? b=some o->h'.get? b=some o)(hw:∀b∈wr,∀ks,¬ IsTupleKey knd h ks b)(ha:a∉wr):d9 knd L Vp h' a S:=by
 obtain⟨o,n,p,t,T,l,q,c⟩:=q;have up:∀k v,TK knd h k v->TK knd h' k v:=λk v g=>by
  obtain⟨b,rfl,r⟩:=id g;exact g.to λo e=>u b o (λm=>hw b m _ r) e
 refine⟨o,n,p,t,T,u a o ha l,⟨q.ex,q.ld,q.vl,q.data,q.tb,λx j=>?_,q.ln,q.nd,λk=>?_⟩,c⟩
 ·obtain⟨ks,d,i⟩:=q.keys x j
  exact⟨ks,up _ _ d,i⟩
 ·rw[q.mem]
  constructor
  ·rintro⟨y,f,r⟩
   exact⟨y,f,up _ _ r⟩
  ·rintro⟨y,f,r⟩
   obtain⟨ks,d,_⟩:=q.keys y f;rw[r.inj (up _ _ d)];exact⟨y,f,d⟩
theorem d9.fresh{Vp:Value->Prop}{h:Heap}{a:Addr}(ho:h.get? a=some {cls:=.type "set",dict:=none,data:=.set #[] 0 (.fresh 0 0 L)}):d9 knd L Vp h a []:=by
 refine⟨_,_,_,_,[],ho,⟨⟨rfl,rfl,rfl⟩,rfl,λy c=>(nomatch c),rfl,⟨rfl,rfl,List.Pairwise.nil,λx b=>(nomatch b),rfl,⟨3,rfl,nofun⟩,by show 7<8192;decide,by show 0<=7;decide,λx b=>(nomatch b)⟩,λx b=>(nomatch b),rfl,List.nodup_nil,λk=>?_⟩,by show 0<7*3;decide⟩
 constructor
 ·intro h;exact nomatch h
 ·rintro⟨y,c,_⟩;exact nomatch c
end
section
variable {prog:Aj}{w:Am}{K:Type}[DecidableEq K]{knd:KeyKind prog w K}{A:Al}{R:Result->Shared->Prop}{I:Addr}{fp wr:Ag}{G:Array GenState->Array GenState->Prop}{n:Nat}{P:Nat->Value->Prop}{St:Nat->Shared->Prop}{L:Bool}{Vp:Value->Prop}
theorem lY(l:List (List K))(k:List K):∀σ:List (List K),k∈l.foldl bM σ↔k∈σ\/k∈l:=by
 induction l with
 |nil=>intro σ;simp
 |cons v l ih=>
  intro σ;rw[List.foldl_cons,ih];have:=jT σ v k
  by_cases e:k∈bM σ v<;>by_cases e1:k∈σ<;>by_cases e2:k=v<;>simp_all
theorem oW(W:WalksS prog w A.in1 I fp wr G n P St)(S:Addr)(hSf:S∉fp)(l:List (List K))(hl:l.length=n){h0:Heap}
  (hval:∀i v,P i v->∃b k,l[i]?=some k/\v=.ref b/\b∉S::wr/\TK knd h0 k v/\Vp v) (hwr:∀i s,St i s->∀b∈wr,∀ks,¬ IsTupleKey knd s.heap ks b) (hb:n<2000) (hu:A.in1.units<cLine) :
  ∀(k i:Nat) (s:Ae),n-i=k->i<=n->St i s->(∀b o,b∉S::wr->h0.get? b=some o->s.heap.get? b=some o) ->
   d9 knd L Vp s.heap S (met (l.take i)) ->
   (∀s',Moved (S::wr) G s s'->d9 knd L Vp s'.heap S (met l)->R (.ok (.ret .none)) s') ->
   codeAny a⁻¹ A (.builtin "set.update.loop" ⟨[.ref S,.ref I],[]⟩) R s:=by
 have B:S∉wr:=λh=>hSf (W.sub _ h);have a:∀b∈wr,b∈S::wr:=λb hb=>xg _ hb;intro k
 induction k with
 |zero=>
  intro i s hk hi d p D hR;have T:i=n:=by omega
  subst T;rw[<- hl,xF]at D;refine codeAny_builtin PyProof.Rows.F.entry_set_update_loop ?_;rw[Around.under_plainId PyProof.Rows.F.plain_set_update_loop _];show wpAny _ A.in1 (pyNext (.ref I) >>= _) _ _ s;refine q04 (W.done s _ _ d λs' g=>?_);show wpAny _ A.in1 (ret Value.none) _ _ s';exact q05 (hR s' (g.mono a) (D.up g.heap (hwr _ _ d) B))
 |succ k ih=>
  intro i s hk hi d p D hR;have y:i<n:=by omega
  refine codeAny_builtin PyProof.Rows.F.entry_set_update_loop ?_;rw[Around.under_plainId PyProof.Rows.F.plain_set_update_loop _];show wpAny _ A.in1 (pyNext (.ref I) >>= _) _ _ s;refine q04 (W.item i s _ _ y d λv s' hP u g=>?_);obtain⟨b,r,z,rfl,Y,a1,Z⟩:=hval i v hP;have a3:=D.up g.heap (hwr _ _ d) B;have f:∀b o,b∉S::wr->h0.get? b=some o->s'.heap.get? b=some o:=λc o j e=>g.heap c o (λh=>j (a _ h)) (p c o j e);show wpAny _ A.in1 (holding [.ref b] (setAdd S (.ref b)) >>= _) _ _ s';refine q04 (q0Y ?_);have O:(met (l.take i)).length<2000:=by have:=oy i (l.take i) (by rw[xG];omega);omega
  refine qN a3 O (a1.to (f b · Y)) Z hu λh' tk bb t q m=>?_;have ht:l.take (i+1)=l.take i++[r]:=by rw[q0E,z];rfl
  have a2:d9 knd L Vp h' S (met (l.take (i+1))):=by
   rw[ht,pT];unfold bM
   by_cases g:r∈met (l.take i)
   ·rw[q07 g]at m ⊢;exact m
   ·rw[q06 g]at m ⊢;exact m
  refine q05 ⟨plainId_quiet PyProof.Rows.F.plain_set_update_loop _,ih (i+1) _ ⋯ y (W.frame _ s' _ _ u t λc j o e=>?_) (λc o j e=>?_) a2 λM x C=>?_⟩
  ·rw[q.2 c (λh:c=S=>hSf (by rw[<- h];exact j))];exact e
  ·have U:c≠S:=λh=>j (by rw[h];exact q0B)
   show h'.get? c=some o;rw[q.2 c U];exact f c o j e
  ·refine hR M (Moved.trans W.gtrans ((g.mono a).then_heap t λc o j e=>?_) x) C
   rw[q.2 c (λh:c=S=>j (by rw[h];exact q0B))];exact e
end
def bT(w:Am):Bool:=!(w.params.followText "set-order")
section
variable {prog:Aj}{w:Am}{A:Al}{E:Aa}{s:Ae}{K:Type}[DecidableEq K]{knd:KeyKind prog w K}
theorem gZ(a:Value){Q₁:Aa}(h:Q₁ (.ref s.heap.objs.size) (mQ s (bT w))) :
  codeAny a⁻¹ A (.call (.builtin "set.__new__") ⟨[.type "set",a],[]⟩) (wants Q₁ E) s:=by
 refine codeAny_of_tree ?_;show wpAny _ A.in1 (do checkBuiltinCall "set.__new__" ⟨[.type "set",a],[]⟩;again (.builtin "set.__new__" ⟨[.type "set",a],[]⟩)) _ _ s;refine q04 (wpAny_of_eq (PySem.F.newCall_set_1 a) (q05 ⟨plainId_quiet PySem.F.plain_set_new _,codeAny_builtin PySem.F.entry_set_new ?_⟩));rw[Around.under_plainId PySem.F.plain_set_new _];unfold Builtin.«set.__new__» Builtin.Frozenset.newClass;have hsub:=sub_set_self;obtain⟨hp,g,d,tk,os⟩:=s;dsimp only
 wp_walk
 refine wpAny_askSetting (q05 ?_);dsimp only;simp only[newObj];refine q04 (wpAny_alloc (q05 ?_));exact q05 h
set_option maxHeartbeats 3200000 in
theorem gI{v:Value}{R:Heap->Nat->Prop}{Q:Aa}
  (hi:(mQ s (bT w)).TypeIs (.ref s.heap.objs.size) "set"->codeAny a⁻¹ A.in1 (.call (.builtin "set.__init__") {pos:=[.ref s.heap.objs.size,v]})
   (wants (λr s₂=>r=.none/\∃h' tk,s₂={s with heap:=h',toks:=tk}/\R h' tk) E) (mQ s (bT w)))
  (h:∀(h':Heap) (tk:Nat),R h' tk->Q (.ref s.heap.objs.size) {s with heap:=h',toks:=tk}) :
  wpAny a⁻¹ A (call (.type "set") [v]) Q E s:=by
 obtain⟨c,tl,hmro⟩:=PySem.F.called_set.mro;have hmade:=PySem.F.called_set.made;have hsub:=PySem.F.called_set.sub;refine wpAny_call (codeAny_of_tree ?_);show wpAny _ _ (callAny (.type "set") _) _ _ _;refine q05 ⟨Code.quiet_builtin _ (by decide +kernel),codeAny_builtin PySem.F.entry_type_call ?_⟩;rw[Around.under_plain (weight_type_call_type "set" [v] []) rfl];have h1:=PySem.F.called_set.notType;have h2:=PySem.F.called_set.canCreate;have hct:=PySem.F.typeCall_set_1 v
 repeat (any_goals (first | with_reducible assumption | with_reducible refine q05 ?_ | with_reducible refine q04 ?_ | with_reducible refine q0Y ?_ | with_reducible refine wpAny_of_eq (by assumption) ?_ | with_reducible refine wpAny_isInstance (by assumption) (by assumption) ?_ | with_reducible refine wpAny_specialOf (by assumption) (by assumption) ?_ | with_reducible refine wpAny_call ?_ | ((with_reducible apply wpAny_ite_false);focus (rfl;done)) | wp_delta))
 refine codeAny_mono (gZ v (E:=E) (Q₁:=λb d=>b=.ref s.heap.objs.size/\d=mQ s (bT w)) ⟨rfl,rfl⟩) λr d hr=>?_;cases r with
 |error e=>exact hr
 |ok fl=>
  cases fl with
  |ret b=>
   obtain⟨rfl,rfl⟩:=hr;have g:(mQ s (bT w)).TypeIs (.ref s.heap.objs.size) "set":=⟨_,wY _ rfl,rfl⟩;have hli:=PySem.F.called_set.init.lookup;have hbi:=PySem.F.called_set.init.bind (.ref s.heap.objs.size)
   repeat (any_goals (first | with_reducible assumption | with_reducible refine q05 ?_ | with_reducible refine q04 ?_ | with_reducible refine q0Y ?_ | with_reducible refine wpAny_of_eq (by assumption) ?_ | with_reducible refine wpAny_isInstance (by assumption) (by assumption) ?_ | with_reducible refine wpAny_specialOf (by assumption) (by assumption) ?_ | with_reducible refine wpAny_call ?_ | ((with_reducible apply wpAny_ite_false);focus (rfl;done)) | wp_delta))
   refine codeAny_mono (hi g) λf s₂ a=>?_;cases f with
   |error e=>exact a
   |ok fl₂=>
    cases fl₂ with
    |ret r=>
     obtain⟨rfl,h',tk,rfl,i⟩:=a
     repeat (any_goals (first | with_reducible assumption | with_reducible refine q05 ?_ | with_reducible refine q04 ?_ | with_reducible refine q0Y ?_ | with_reducible refine wpAny_of_eq (by assumption) ?_ | with_reducible refine wpAny_isInstance (by assumption) (by assumption) ?_ | with_reducible refine wpAny_specialOf (by assumption) (by assumption) ?_ | with_reducible refine wpAny_call ?_ | ((with_reducible apply wpAny_ite_false);focus (rfl;done)) | wp_delta))
     exact h _ _ i
    |_=>exact a.elim
  |_=>exact hr.elim
theorem gW{items:Array Value}{kl:List (List K)}{Q:Aa}(hh:A.handled=none)(hl:s.heap.IsList l items)(hu:A.units+6<cLine)
  (hk:kl.length=items.size) (hi:∀(i:Nat) (v:Value),items[i]?=some v->∃k:List K,kl[i]?=some k/\TK knd s.heap k v) (hb:items.size<2000)
  (h:∀(h':Heap) (tk:Nat),d9 knd (bT w) (λv=>v∈items.toList) h' s.heap.objs.size (met kl)->(∀b o,s.heap.get? b=some o->h'.get? b=some o)->Q (.ref s.heap.objs.size) {s with heap:=h',toks:=tk}) :
  wpAny a⁻¹ A (call (.type "set") [.ref l]) Q E s:=by
 refine gI (R:=λh' _=>d9 knd (bT w) (λv=>v∈items.toList) h' s.heap.objs.size (met kl)/\∀b o,s.heap.get? b=some o->h'.get? b=some o) (λB=>?_) λh' tk hr=>h h' tk hr.1 hr.2;refine codeAny_call_builtin PySem.F.called_set.init.plain PySem.F.entry_set_init (check_set_init_1 B ?_);unfold mQ at B ⊢;have M:(s.heap.push {cls:=.type "set",dict:=none,data:=.set #[] 0 (.fresh 0 0 (bT w))}).get? s.heap.objs.size=some {cls:=.type "set",dict:=none,data:=.set #[] 0 (.fresh 0 0 (bT w))}:=wY _ rfl;have hsls:=PySem.F.sub_list_set;have hslf:=PySem.F.sub_list_frozenset;have hne:(Value.type "list" == Value.type "dict")=false:=by decide
 have a:(s.heap.push {cls:=.type "set",dict:=none,data:=.set #[] 0 (.fresh 0 0 (bT w))}).IsList l items:=hl.push _;have hlt1:({s with heap:=s.heap.push {cls:=.type "set",dict:=none,data:=.set #[] 0 (.fresh 0 0 (bT w))} }:Shared).TypeIs (.ref l) "list":=a.typeIs;unfold Builtin.«set.__init__» noKeywords Builtin.Frozenset.updateFrom;generalize x:pyIter=PI
 wp_walk
 subst x;refine wpAny_pyIter_list a ?_;refine q04 (wpAny_runValue ?_);obtain⟨ol,q,_⟩:=id hl;have g:l<s.heap.objs.size:=xu q;have f:l≠(s.heap.push {cls:=.type "set",dict:=none,data:=.set #[] 0 (.fresh 0 0 (bT w))}).objs.size:=by
  rw[Heap.size_push];exact xj (Nat.lt_succ_of_lt g)
 have t:s.heap.objs.size∉[(s.heap.push {cls:=.type "set",dict:=none,data:=.set #[] 0 (.fresh 0 0 (bT w))}).objs.size,l]:=by
  rw[Heap.size_push];simp only[xf,wU,List.not_mem_nil,or_false,not_or]
  exact⟨xj (xB _),Nat.ne_of_gt g⟩
 have d:∀b o,s.heap.get? b=some o->b∉[s.heap.objs.size,(s.heap.push {cls:=.type "set",dict:=none,data:=.set #[] 0 (.fresh 0 0 (bT w))}).objs.size]:=λb o e=>by
  have:=xu e;simp only[xf,List.not_mem_nil,or_false,not_or,Heap.size_push];exact⟨xj this,xj (Nat.lt_succ_of_lt this)⟩
 refine oW (knd:=knd) (L:=bT w) (Vp:=λv=>v∈items.toList) (h0:=s.heap) ((Walks.list (by simp[hh]) _ l f items).toS) s.heap.objs.size t kl hk (λi v z=>?_) (λi s1 C b hb ks G=>?_) hb (by show A.units+1+1+1<cLine;omega) (items.size-0) 0 _ ⋯ (xq _)
  ⟨⟨_,wY _ rfl,rfl,rfl⟩,a.push _⟩ (λb o _ e=>wS _ (wS _ e)) ?hS0 ?hR
 ·obtain⟨k,h1,h2⟩:=hi i v z
  obtain⟨b,rfl,o,_,_,r,_⟩:=id h2;exact⟨b,k,h1,rfl,d b o r,h2,by rw[List.mem_iff_getElem?];exact⟨i,by rw[q0G];exact z⟩⟩
 ·obtain⟨o,_,_,r,I,_⟩:=G
  obtain⟨oi,c,j,_⟩:=C.1;rw[wU]at hb;subst hb;rw[r]at c;cases c;rw[I]at j;exact q0Q j nofun
 case hS0=>exact d9.fresh (wS _ M)
 case hR=>
  intro D m u;obtain⟨h',O,Y,n,p⟩:=D;have T:O=s.gens:=m.gens;have U:Y=s.drawn:=m.drawn;have S:p=s.os:=m.os;subst T;subst U;subst S
  show wpAny _ _ _ _ _ _;refine q05 ?_;show wpAny _ _ (ret Value.none) _ _ _;exact q05 ⟨rfl,h',n,rfl,u,λb y e=>m.heap b y (d b y e) (wS _ (wS _ e))⟩
end
theorem aH:Slot "set_iterator" "__next__" "set_iterator.__next__":=
 .of (owner:="set_iterator") (n:="__next__") (by rw[typeLookup_type,builtinLookup_eq_fast];kernel_rfl) (by decide +kernel) (by decide +kernel) (by decide +kernel) (by first | exact .inl (by decide +kernel) | exact .inr (by decide +kernel)) (by rw[isSubtype_type];kernel_rfl)
theorem bZ:entryFor table "set_iterator.__next__"=some Builtin.«set_iterator.__next__»:=entryFor_of_tree (by kernel_rfl)
theorem j3:Manifest.owners.lookup (String.ofList ['r','o','t','a','r','e','t','i','_','t','e','s'].reverse)=some Manifest.sig_set_iterator:=by kernel_rfl
theorem ce(a:Value):argsOk "set_iterator.__next__" ⟨[a],[]⟩:=by
 unfold argsOk;rw[signature?_of (id:="set_iterator.__next__") (n:=['_','_','t','x','e','n','_','_']) (o:=['r','o','t','a','r','e','t','i','_','t','e','s']) (by kernel_rfl) j3];kernel_rfl
theorem fT:entryFor table "set.__iter__"=some Builtin.«frozenset.__iter__»:=
 entryFor_alias (id':="frozenset.__iter__") (by kernel_rfl) rfl (by decide +kernel) (by kernel_rfl)
def nV(first:Value)(i:Nat)(a:Addr)(n ep:Nat):Obj:={cls:=.type "set_iterator",dict:=none,data:=.fields #[first,.int (i:Int) 0,.ref a,.int (n:Int) 0,.int (ep:Int) 0]}
section
variable {prog:Aj}{w:Am}{A:Al}{E:Aa}{s:Ae}{I a:Addr}{i n ep:Nat}{first:Value}{o:Obj}{es:Array (Int×Value)}{t:SetTable}{Q:Option Value->Shared->Prop}
theorem cn{Q:Array (Int×Value)->Shared->Prop}(ho:s.heap.get? a=some o)(hd:o.data=.set es ep t)(hf:t.fits es.size=true)(h:Q es s):wpAny a⁻¹ A (setEntries a) Q E s:=by
 unfold setEntries;exact q04 (wpAny_setState_of ho hd hf (q05 h))
theorem jU{Q:Nat->Shared->Prop}(ho:s.heap.get? a=some o)(hd:o.data=.set es ep t)(hf:t.fits es.size=true)(h:Q ep s):wpAny a⁻¹ A (setEpoch a) Q E s:=by
 unfold setEpoch;exact q04 (wpAny_setState_of ho hd hf (q05 h))
theorem dB{Q:Bool->Shared->Prop}(h:Q (w.params.followText "set-order") s):wpAny a⁻¹ A setsByText Q E s:=by
 unfold setsByText;exact q04 (wpAny_askSetting (q05 h))
theorem fz{slot nx:Nat}{x:Value}(hI:s.heap.get? I=some (nV (.int (slot:Int) 0) i a es.size ep))(ho:s.heap.get? a=some o)(hd:o.data=.set es ep t)(hf:t.fits es.size=true)
  (hn:∀(A:Al) (E:Aa) (Q:Option (Value×Nat)->Shared->Prop),Q (some (x,nx)) s->wpAny a⁻¹ A (setNext a slot i ep) Q E s)
  (hQ:∀h',h'.get? I=some (nV (.int (nx:Int) 0) (i+1) a es.size ep)->Heap.SameBut I s.heap h'->Q (some x) {s with heap:=h' }) :
  wpAny a⁻¹ A (pyNext (.ref I)) Q E s:=by
 have f:s.TypeIs (.ref I) "set_iterator":=⟨_,hI,rfl⟩;unfold pyNext;refine q04 (wpAny_attempt (wpAny_callSpecial?_slot (name:=Str.ofString "__next__") f aH (wpAny_call_entry aH f bZ ?_ (ce _))));unfold Builtin.«set_iterator.__next__»;refine q04 (q05 ?_);refine q04 (wpAny_fieldsOf hI rfl ?_);refine q04 (cn ho hd hf ?_);refine wpAny_ite_split (λg=>q0Q g (by simp)) λ_=>?_;refine q04 (hn _ _ _ ?_);refine q04 (wpAny_setField_rec hI (by show 0<5;decide) λh1 k d=>?_);refine q04 (wpAny_setField_rec (s:={s with heap:=h1}) k (by show 1<5;decide) λh2 j c=>?_);exact q05 ⟨x,rfl,q05 (hQ h2 j ⟨c.1.trans d.1,λb e=>(c.2 b e).trans (d.2 b e)⟩)⟩
theorem gv(hh:A.handled=none){slot:Nat}(hI:s.heap.get? I=some (nV (.int (slot:Int) 0) i a es.size ep))(ho:s.heap.get? a=some o)(hd:o.data=.set es ep t)(hf:t.fits es.size=true)
  (hn:∀(A:Al) (E:Aa) (Q:Option (Value×Nat)->Shared->Prop),Q none s->wpAny a⁻¹ A (setNext a slot i ep) Q E s)
  (hQ:∀h',Heap.ExtBut I s.heap h'->Q none {s with heap:=h' }) :
  wpAny a⁻¹ A (pyNext (.ref I)) Q E s:=by
 have c:s.TypeIs (.ref I) "set_iterator":=⟨_,hI,rfl⟩;unfold pyNext;refine q04 (wpAny_attempt (wpAny_callSpecial?_slot (name:=Str.ofString "__next__") c aH (wpAny_call_entry aH c bZ ?_ (ce _))));unfold Builtin.«set_iterator.__next__»;refine q04 (q05 ?_);refine q04 (wpAny_fieldsOf hI rfl ?_);refine q04 (cn ho hd hf ?_);refine wpAny_ite_split (λd=>q0Q d (by simp)) λ_=>?_;refine q04 (hn _ _ _ ?_);refine q04 (wpAny_setField hI rfl (by show 2<5;decide) ?_);show wpAny _ _ (newExc (.type "StopIteration") [] >>= _) _ _ _;refine q04 ?_;simp only[newExc,newTuple];refine q04 (wpAny_newObj_type ?_ (by size_fits));refine q04 (m:=firstArgMember _ _) (wpAny_of_eq (a:=Value.none) (by first | rfl | (simp only[firstArgMember];rfl)) ?_);refine wpAny_newObj_type ?_ (by size_fits);simp only[raiseNew];refine q04 (wpAny_handled ?_);rw[show A.in1.handled=none from hh];refine q04 (q05 (wpAny_throw ?_));refine q04 (wpAny_isInstance (T:="StopIteration") (b:=true) ⟨_,wY _ rfl,rfl⟩ isSubtype_stop ?_);exact q05 (hQ _ (((Heap.SameBut.update ..).extBut.push _).push _))
theorem gP{places:Array Value}{oT:Obj}{p:Nat}{x:Value}{hs:Int}(hI:s.heap.get? I=some (nV (.ref T) i a es.size ep))(ho:s.heap.get? a=some o)(hd:o.data=.set es ep t)(hf:t.fits es.size=true)
  (hT':s.heap.get? T=some oT) (hTd:oT.data=.seq places e0) (hp:places[i]?=some (rawInt (p:Int))) (hx:es[p]?=some (hs,x))
  (hQ:∀h',h'.get? I=some (nV (.ref T) (i+1) a es.size ep)->Heap.SameBut I s.heap h'->Q (some x) {s with heap:=h' }) :
  wpAny a⁻¹ A (pyNext (.ref I)) Q E s:=by
 have c:s.TypeIs (.ref I) "set_iterator":=⟨_,hI,rfl⟩;unfold pyNext;refine q04 (wpAny_attempt (wpAny_callSpecial?_slot (name:=Str.ofString "__next__") c aH (wpAny_call_entry aH c bZ ?_ (ce _))));unfold Builtin.«set_iterator.__next__»;refine q04 (q05 ?_);refine q04 (wpAny_fieldsOf hI rfl ?_);refine q04 (cn ho hd hf ?_);refine wpAny_ite_split (λb=>q0Q b (by simp)) λ_=>?_;refine q04 (wpAny_seqItems hT' hTd ?_);dsimp only;simp only[w8,hp,rawInt];refine q04 ?_;unfold setNextDrawn;refine q04 (wpAny_setState_of ho hd hf ?_);dsimp only;refine wpAny_ite_split (λb=>q0Q b (by simp)) λ_=>?_;simp only[w8,hx];refine q05 ?_;refine q04 (wpAny_setField_rec hI (by show 1<5;decide) λh1 e d=>?_);exact q05 ⟨x,rfl,q05 (hQ h1 e d)⟩
theorem iN(hh:A.handled=none){T:Addr}{places:Array Value}{e0:Nat}{oT:Obj}(hI:s.heap.get? I=some (nV (.ref T) i a es.size ep))(ho:s.heap.get? a=some o)(hd:o.data=.set es ep t)(hf:t.fits es.size=true)
  (hT':s.heap.get? T=some oT) (hTd:oT.data=.seq places e0) (hp:places[i]?=none)
  (hQ:∀h',Heap.ExtBut I s.heap h'->Q none {s with heap:=h' }) :
  wpAny a⁻¹ A (pyNext (.ref I)) Q E s:=by
 have e:s.TypeIs (.ref I) "set_iterator":=⟨_,hI,rfl⟩;unfold pyNext;refine q04 (wpAny_attempt (wpAny_callSpecial?_slot (name:=Str.ofString "__next__") e aH (wpAny_call_entry aH e bZ ?_ (ce _))));unfold Builtin.«set_iterator.__next__»;refine q04 (q05 ?_);refine q04 (wpAny_fieldsOf hI rfl ?_);refine q04 (cn ho hd hf ?_);refine wpAny_ite_split (λg=>q0Q g (by simp)) λ_=>?_;refine q04 (wpAny_seqItems hT' hTd ?_);dsimp only;simp only[w8,hp];refine q04 (wpAny_setField_rec hI (by show 0<5;decide) λh1 j c=>?_);refine q04 (wpAny_setField (s:={s with heap:=h1}) j rfl (by show 2<5;decide) ?_);show wpAny _ _ (newExc (.type "StopIteration") [] >>= _) _ _ _;refine q04 ?_;simp only[newExc,newTuple];refine q04 (wpAny_newObj_type ?_ (by size_fits));refine q04 (m:=firstArgMember _ _) (wpAny_of_eq (a:=Value.none) (by first | rfl | (simp only[firstArgMember];rfl)) ?_);refine wpAny_newObj_type ?_ (by size_fits);simp only[raiseNew];refine q04 (wpAny_handled ?_);rw[show A.in1.handled=none from hh];refine q04 (q05 (wpAny_throw ?_));refine q04 (wpAny_isInstance (T:="StopIteration") (b:=true) ⟨_,wY _ rfl,rfl⟩ isSubtype_stop ?_);have f:Heap.SameBut I h1 (h1.update I (Obj.mapFields (·.setIfInBounds 2 Value.none))):=Heap.SameBut.update ..;exact q05 (hQ _ (((Heap.SameBut.extBut ⟨f.1.trans c.1,λb d=>(f.2 b d).trans (c.2 b d)⟩).push _).push _))
end
theorem bE:Slot "set_iterator" "__iter__" "set_iterator.__iter__":=
 .of (owner:="set_iterator") (n:="__iter__") (by rw[typeLookup_type,builtinLookup_eq_fast];kernel_rfl) (by decide +kernel) (by decide +kernel) (by decide +kernel) (by first | exact .inl (by decide +kernel) | exact .inr (by decide +kernel)) (by rw[isSubtype_type];kernel_rfl)
theorem cD:entryFor table "set_iterator.__iter__"=some Builtin.«dict_keyiterator.__iter__»:=
 entryFor_alias (id':="dict_keyiterator.__iter__") (by kernel_rfl) rfl (by decide +kernel) (by kernel_rfl)
theorem cZ(a:Value):argsOk "set_iterator.__iter__" ⟨[a],[]⟩:=by
 unfold argsOk;rw[signature?_of (id:="set_iterator.__iter__") (n:=['_','_','r','e','t','i','_','_']) (o:=['r','o','t','a','r','e','t','i','_','t','e','s']) (by kernel_rfl) j3];kernel_rfl
theorem f_{α:Type}:∀{l:List α} {i:Nat} (h:i<l.length),(l[i]::l.eraseIdx i).Perm l
 |x::l,0,_=>List.Perm.refl _
 |x::l,i+1,h=>by
  have h':i<l.length:=by simpa using h
  show(l[i]::x::l.eraseIdx i).Perm (x::l);exact(List.Perm.swap _ _ _).trans (List.Perm.cons _ (f_ h'))
theorem mI{α:Type}(next:Nat->Nat):∀(fuel k:Nat) (left:List α) (out:Array α),fuel=left.length->(pickOrder.go next fuel k left out).toList.Perm (out.toList++left)
 |0,k,left,out,h=>by
  have:left=[]:=xL.mp h.symm;subst this;unfold pickOrder.go;rw[xC]
 |fuel+1,k,left,out,h=>by
  have hl:next k%left.length<left.length:=Nat.mod_lt _ ⋯;unfold pickOrder.go;rw[wQ hl];dsimp only;refine(mI next fuel (k+1) _ _ (by rw[List.length_eraseIdx,q07 hl];omega)).trans ?_;rw[Array.toList_push,xD];refine List.Perm.append_left _ ?_;exact f_ hl
theorem fc{α:Type}(next:Nat->Nat)(xs:Array α):(pickOrder next xs).toList.Perm xs.toList:=by
 have:=mI next xs.size 0 xs.toList #[] (by simp)
 simpa[pickOrder]using this
section
variable {prog:Aj}{w:Am}{A:Al}{E:Aa}{s:Ae}{I a:Addr}{n ep:Nat}{first:Value}{o:Obj}{es:Array (Int×Value)}{t:SetTable}
theorem iW{src:Source}{Q:Nat->Shared->Prop}(hn:n≠0)(h:∀i,i<n->Q i {s with drawn:=s.drawn.bump src}):wpAny a⁻¹ A (choose src n) Q E s:=
 λ_ _ _=>⟨hn,h _ (Nat.mod_lt _ (Nat.pos_of_ne_zero hn))⟩
theorem d7{α:Type}:∀(n:Nat) (xs:List α) (s:Ae) (Q:List α->Shared->Prop),n=xs.length->(∀ys d,ys.Perm xs->Q ys {s with drawn:=d})->wpAny a⁻¹ A (drawOrder n xs) Q E s
 |0,xs,s,Q,h,hQ=>by
  have:xs=[]:=xL.mp h.symm;subst this;exact q05 (hQ [] s.drawn (List.Perm.refl _))
 |n+1,[],s,Q,h,hQ=>nomatch h
 |n+1,x::xs,s,Q,h,hQ=>by
  unfold drawOrder;refine q04 (iW (by simp) λi hi=>?_);rw[wQ hi];dsimp only;refine q04 (d7 n _ _ _ (by rw[List.length_eraseIdx,q07 hi,<- h];rfl) λys d hp=>?_);exact q05 (hQ _ d ((List.Perm.cons _ hp).trans (f_ hi)))
theorem pY{Q:Bool->Shared->Prop}(ho:s.heap.get? a=some o)(hd:o.data=.set es ep t)(hf:t.fits es.size=true)(h:Q (!w.params.followText "set-order" && (!t.plain&&decide (es.size>1))) s):wpAny a⁻¹ A (setDrawn a) Q E s:=by
 unfold setDrawn;refine q04 (wpAny_setState_of ho hd hf ?_);exact q04 (dB (q05 h))
theorem ig{slot i:Nat}{Q:Option (Value×Nat)->Shared->Prop}(ho:s.heap.get? a=some o)(hd:o.data=.set es ep t)(hf:t.fits es.size=true)(hw:w.params.followText "set-order"=true)
  (h:Q (((pickOrder (w.params.setOrder a ep) es)[i]?).map λe=>(e.2,slot)) s):wpAny a⁻¹ A (setNext a slot i ep) Q E s:=by
 unfold setNext;refine q04 (wpAny_setState_of ho hd hf ?_);dsimp only;refine q04 (dB ?_);rw[q07 hw];refine wpAny_ite_split (λb=>q0Q b (by simp)) λ_=>?_;refine q04 ?_;unfold setWalk;refine q04 (wpAny_setState_of ho hd hf ?_);dsimp only;refine q04 (dB ?_);rw[q07 hw];exact q04 (wpAny_askSetting (q05 (q05 h)))
theorem im{slot:Nat}{Q:Option (Value×Nat)->Shared->Prop}(ho:s.heap.get? a=some o)(hd:o.data=.set es ep t)(hf:t.fits es.size=true)(hw:w.params.followText "set-order"=false)
  (hl:t.led=true) (hp:(!t.plain&&decide (es.size>1))=false)
  (h:Q (match es[below t.place slot]?,t.place[below t.place slot]? with | some (_,x),some j=>some (x,j+1) | _,_=>none) s):wpAny a⁻¹ A (setNext a slot i e1) Q E s:=by
 unfold setNext;refine q04 (wpAny_setState_of ho hd hf ?_);dsimp only;refine q04 (dB ?_);rw[q06 (by rw[hw];exact xt)];refine wpAny_ite_split (λb=>?_) λ_=>?_
 ·have:(!t.plain&&decide (es.size>1))=true:=b
  rw[hp]at this;cases this
 refine q04 ?_;show wpAny _ _ (if(!t.led && !es.isEmpty)=true then _ else _) _ _ _;rw[q06 (by rw[hl];simp)];exact q05 (q05 h)
theorem Walks.setText(hh:A.handled=none)(hne:a≠I)(hd:o.data=.set es ep t)(hf:t.fits es.size=true)(hw:w.params.followText "set-order"=true) :
  Walks prog w A I [I,a] [I] es.size (λi v=>((pickOrder (w.params.setOrder a ep) es).toList.map (·.2))[i]?=some v) (λi h=>h.get? I=some (nV (.int ((0:Nat):Int) 0) i a es.size ep)/\h.get? a=some o) where
 sub:=λb hb=>by simp at hb;simp[hb]
 frame:=λ_ _ _ st hk=>⟨hk I (by simp) _ st.1,hk a (by simp) _ st.2⟩
 item:=λi s Q E hi st hQ=>by
  have hl:(pickOrder (w.params.setOrder a ep) es).size=es.size:=by have:=(fc (w.params.setOrder a ep) es).length_eq;simpa using this
  have f:i<(pickOrder (w.params.setOrder a ep) es).size:=by omega
  refine fz (nx:=0) (x:=(pickOrder (w.params.setOrder a ep) es)[i].2) st.1 st.2 hd hf (λA E Q g=>ig st.2 hd hf hw ?_) λl d c=>?_
  ·rw[Array.getElem?_eq_getElem f];exact g
  ·refine hQ _ l s.toks ?_ ⟨d,(c.2 a hne).trans st.2⟩ λb o hb e=>c.extBut b o (λh=>hb (by simp[h])) e
   rw[wV,q0G,Array.getElem?_eq_getElem f];rfl
 done:=λs Q E st hQ=>by
  have hl:(pickOrder (w.params.setOrder a ep) es).size=es.size:=by have:=(fc (w.params.setOrder a ep) es).length_eq;simpa using this
  refine gv hh st.1 st.2 hd hf (λA E Q g=>ig st.2 hd hf hw ?_) λl j=>hQ l s.toks λb o hb e=>j b o (λh=>hb (by simp[h])) e;rw[Array.getElem?_eq_none ⋯];exact g
 self:=λ_ s Q E st hQ=>by
  have k:s.TypeIs (.ref I) "set_iterator":=⟨_,st.1,rfl⟩;refine wpAny_pyIter_slot k bE (wpAny_call_entry bE k cD ?_ (cZ _));show wpAny _ _ (ret (.ref I)) _ _ s;exact q05 ⟨_,rfl,"set_iterator",_,k,aH.lookup,hQ⟩
def df(t:SetTable)(i:Nat):Nat:=if i=0 then 0 else t.place.getD (i-1) 0+1
theorem ge{t:SetTable}(hr:t.place.toList.Pairwise (· < ·)){i:Nat}(hi:i<=t.place.size):below t.place (df t i)=i:=by
 obtain⟨a,c,e⟩:=c6 hr (df t i);unfold df at *
 by_cases b:i=0
 ·subst b
  rw[q07 rfl]at a ⊢;rcases Nat.eq_zero_or_pos (below t.place 0) with h | h
  ·exact h
  ·exact q0Q (a 0 h) (Nat.not_lt_zero _)
 ·rw[q06 b]at a c e ⊢
  have d:=gE hr;rcases Nat.lt_trichotomy (below t.place (t.place.getD (i-1) 0+1)) i with h | h | h
  ·have:=c (i-1) ⋯ ⋯
   omega
  ·exact h
  ·have h1:=a i h
   have h2:=d (i-1) i ⋯ ⋯;omega
theorem Walks.setSlot(hh:A.handled=none)(hne:a≠I)(hd:o.data=.set es ep t)(hf:t.fits es.size=true)(hz:t.place.size=es.size)(hr:t.place.toList.Pairwise (· < ·))(hw:w.params.followText "set-order"=false)
  (hl:t.led=true) (hp:(!t.plain&&decide (es.size>1))=false) :
  Walks prog w A I [I,a] [I] es.size (λi v=>(es.toList.map (·.2))[i]?=some v) (λi h=>h.get? I=some (nV (.int ((df t i:Nat):Int) 0) i a es.size ep)/\h.get? a=some o) where
 sub:=λb hb=>by simp at hb;simp[hb]
 frame:=λ_ _ _ st hk=>⟨hk I (by simp) _ st.1,hk a (by simp) _ st.2⟩
 item:=λi s Q E hi st hQ=>by
  have hip:i<t.place.size:=by omega
  refine fz (nx:=df t (i+1)) (x:=es[i].2) st.1 st.2 hd hf (λA E Q f=>im st.2 hd hf hw hl hp ?_) λk d c=>?_
  ·rw[ge hr ⋯,Array.getElem?_eq_getElem hi,Array.getElem?_eq_getElem hip]
   have e:t.place[i]+1=df t (i+1):=by
    unfold df;rw[q06 ⋯,Nat.add_sub_cancel,Array.getD_eq_getD_getElem?,Array.getElem?_eq_getElem hip];rfl
   dsimp only;rw[e];exact f
  ·refine hQ _ k s.toks ?_ ⟨d,(c.2 a hne).trans st.2⟩ λb o hb e=>c.extBut b o (λh=>hb (by simp[h])) e
   rw[wV,q0G,Array.getElem?_eq_getElem hi];rfl
 done:=λs Q E st hQ=>by
  refine gv hh st.1 st.2 hd hf (λA E Q f=>im st.2 hd hf hw hl hp ?_) λk g=>hQ k s.toks λb o hb e=>g b o (λh=>hb (by simp[h])) e;rw[ge hr ⋯,Array.getElem?_eq_none ⋯];exact f
 self:=λ_ s Q E st hQ=>by
  have j:s.TypeIs (.ref I) "set_iterator":=⟨_,st.1,rfl⟩;refine wpAny_pyIter_slot j bE (wpAny_call_entry bE j cD ?_ (cZ _));show wpAny _ _ (ret (.ref I)) _ _ s;exact q05 ⟨_,rfl,"set_iterator",_,j,aH.lookup,hQ⟩
theorem Walks.setDrawn{T:Addr}{oT:Obj}{ps:Ad}(hh:A.handled=none)(hne:a≠I)(hneT:T≠I)(hd:o.data=.set es ep t)(hf:t.fits es.size=true)(hTd:oT.data=.seq (ps.map fun(p:Nat)=>rawInt (p:Int)).toArray e0)(hp:ps.Perm (List.range es.size)) :
  Walks prog w A I [I,a,T] [I] es.size (λi v=>(ps.filterMap λp=>es[p]?.map (·.2))[i]?=some v) (λi h=>h.get? I=some (nV (.ref T) i a es.size ep)/\h.get? a=some o/\h.get? T=some oT) where
 sub:=λb hb=>by simp at hb;simp[hb]
 frame:=λ_ _ _ st hk=>⟨hk I (by simp) _ st.1,hk a (by simp) _ st.2.1,hk T (by simp) _ st.2.2⟩
 item:=λi s Q E hi st hQ=>by
  have hl:ps.length=es.size:=by rw[hp.length_eq,q0J]
  have d:i<ps.length:=by omega
  have f:ps[i]<es.size:=List.mem_range.mp (hp.mem_iff.mp (w6 d));refine gP (p:=ps[i]) (x:=es[ps[i]].2) (hs:=es[ps[i]].1) st.1 st.2.1 hd hf st.2.2 hTd (by simp[d]) (by rw[Array.getElem?_eq_getElem f]) λn g c=>?_;refine hQ _ n s.toks ?_ ⟨g,(c.2 a hne).trans st.2.1,(c.2 T hneT).trans st.2.2⟩ λb o hb e=>c.extBut b o (λh=>hb (by simp[h])) e;have:∀(l:Ad),(∀p∈l,p<es.size)->l.filterMap (λp=>es[p]?.map (·.2))=l.map λp=>(es.getD p (0,.none)).2:=by
   intro l
   induction l with
   |nil=>intro _;rfl
   |cons p l ih=>
    intro h;have hp:=h p q0B;rw[q0U,Array.getElem?_eq_getElem hp,xy,<- ih λq r=>h q (xg _ r),Array.getD_eq_getD_getElem?,Array.getElem?_eq_getElem hp]
    rfl
  rw[this ps λp j=>List.mem_range.mp (hp.mem_iff.mp j),wV,wQ d,Option.map_some,Array.getD_eq_getD_getElem?,Array.getElem?_eq_getElem f]
  rfl
 done:=λs Q E st hQ=>by
  have hl:ps.length=es.size:=by rw[hp.length_eq,q0J]
  refine iN hh st.1 st.2.1 hd hf st.2.2 hTd (by simp[hl]) λn k=>hQ n s.toks λb o hb e=>k b o (λh=>hb (by simp[h])) e
 self:=λ_ s Q E st hQ=>by
  have m:s.TypeIs (.ref I) "set_iterator":=⟨_,st.1,rfl⟩;refine wpAny_pyIter_slot m bE (wpAny_call_entry bE m cD ?_ (cZ _));show wpAny _ _ (ret (.ref I)) _ _ s;exact q05 ⟨_,rfl,"set_iterator",_,m,aH.lookup,hQ⟩
end
end STb
namespace STb
open PySem PySem.SetTable PySem.Spec PyProof.Rows PySem.W L2
section
variable {prog:Aj}{w:Am}{K:Type}[DecidableEq K]{knd:KeyKind prog w K}{A:Al}{E:Aa}{s:Ae}{a:Addr}
theorem jw{α β:Type}{f g:α->Option β}:∀{l:List α},(∀x∈l,f x=g x)->l.filterMap f=l.filterMap g
 | [],_=>rfl
 |x::l,h=>by rw[q0U,q0U,h x q0B,jw λy hy=>h y (xg _ hy)]
theorem qF{o:Obj}{es:Array (Int×Value)}{ep:Nat}{Q:Nat->Shared->Prop}(ho:s.heap.get? a=some o)(hd:o.data=.set es ep t)(hf:t.fits es.size=true)(h:Q es.size s):wpAny a⁻¹ A (Builtin.Frozenset.sizeOf a) Q E s:=by
 unfold Builtin.Frozenset.sizeOf;exact q04 (cn ho hd hf (q05 h))
theorem gb{es:Array (Int×Value)}{ps:Ad}(hp:ps.Perm (List.range es.size)):(ps.filterMap λp=>es[p]?.map (·.2)).Perm (es.toList.map (·.2)):=by
 refine(hp.filterMap _).trans ?_;have:(List.range es.size).filterMap (λp=>es[p]?.map (·.2))=es.toList.map (·.2):=by
  have a:∀(l:List (Int×Value)) (n:Nat),(List.range' n l.length).filterMap (λp=>(l[p-n]?).map (·.2))=l.map (·.2):=by
   intro l
   induction l with
   |nil=>intro n;rfl
   |cons x l ih=>
    intro n;rw[w_,List.range'_succ,q0U,Nat.sub_self];simp only[List.getElem?_cons_zero,Option.map_some,xy]
    congr 1
    rw[<- ih (n+1)];refine jw λp hp=>?_;have:=(List.mem_range'_1.mp hp).1;rw[show p-n=(p-(n+1))+1 by omega,xx]
  have:=a es.toList 0;simp only[Nat.sub_zero,q0G]at this;rw[<- this,List.range_eq_range'];simp
 rw[this]
theorem qw{o:Obj}{es:Array (Int×Value)}{ep:Nat}{N:Addr}{Q:Aa}(ho:s.heap.get? a=some o)(hex:o.ExactSet)(hd:o.data=.set es ep t)(B:Tb t es T)(hled:t.led=bT w)(hz:es.size<=sizeLine)(hN:N<s.heap.objs.size)(hNa:N≠a)
  (h:∀(I:Addr) (d:Drawn) (h1:Heap) (vs:Af) (fp:Ag) (St:Nat->Heap->Prop),s.heap.objs.size<=I->N∉fp->(∀b o,s.heap.get? b=some o->h1.get? b=some o)->vs.Perm (T.map (·.2.2)) ->
   (∀A',A'.handled=none->Walks prog w A' I fp [I] vs.length (λi v=>vs[i]?=some v) St)->St 0 h1->Q (.ref I) {s with heap:=h1,drawn:=d}) :
  wpAny a⁻¹ A (pyIter (.ref a)) Q E s:=by
 have G:s.TypeIs (.ref a) "set":=⟨_,ho,hex.1⟩;have g:=B.fits;have D:=xu ho;have k:es.toList.map (·.2)=T.map (·.2.2):=by rw[B.en,xc];rfl
 refine wpAny_pyIter_slot G PySem.F.slot_set_iter (wpAny_call_entry PySem.F.slot_set_iter G fT ?_ (PySem.F.args_set_iter_1 _));unfold Builtin.«frozenset.__iter__»;refine q04 (q05 ?_);refine q04 (qF ho hd g ?_);refine q04 (pY ho hd g ?_);refine wpAny_ite_split (λj=>?_) λj=>?_
 ·refine q04 (d7 _ _ _ _ (by simp) λc d n=>?_)
  have z:c.length=es.size:=by rw[n.length_eq,q0J]
  refine q04 (wpAny_newTuple ?_ (by rw[wT,z];exact hz));have q:(s.heap.push {cls:=.type "tuple",data:=.seq (c.map fun(i:Nat)=>rawInt (i:Int)).toArray}).get? a=some o:=wS _ ho;refine q04 (jU (s:={s with heap:=s.heap.push {cls:=.type "tuple",data:=.seq (c.map fun(i:Nat)=>rawInt (i:Int)).toArray},drawn:=d}) q hd g ?_);refine q04 (wpAny_newObj_type (q05 ⟨_,rfl,"set_iterator",_,⟨_,wY _ rfl,rfl⟩,aH.lookup,?_⟩));have l:=gb n;have m:(c.filterMap λp=>es[p]?.map (·.2)).length=es.size:=by rw[l.length_eq];simp
  have f:(s.heap.push {cls:=.type "tuple",data:=.seq (c.map fun(i:Nat)=>rawInt (i:Int)).toArray}).objs.size=s.heap.objs.size+1:=Heap.size_push ..;refine h _ d _ (c.filterMap λp=>es[p]?.map (·.2)) [s.heap.objs.size+1,a,s.heap.objs.size] (λi h=>h.get? (s.heap.objs.size+1)=some (nV (.ref s.heap.objs.size) i a es.size ep)/\h.get? a=some o/\h.get? s.heap.objs.size=some {cls:=.type "tuple",data:=.seq (c.map fun(i:Nat)=>rawInt (i:Int)).toArray}) (by rw[f];exact Nat.le_succ _) ?_ (λb o e=>wS _ (wS _ e)) (l.trans (by rw[k])) (λA' u=>?_) ?_
  rotate_left
  ·rw[m];rw[f]
   exact Walks.setDrawn (I:=s.heap.objs.size+1) (T:=s.heap.objs.size) (oT:={cls:=.type "tuple",data:=.seq (c.map fun(i:Nat)=>rawInt (i:Int)).toArray}) u (xj (Nat.lt_succ_of_lt D)) (xj (xB _)) hd g rfl n
  ·refine⟨?_,wS _ q,wS _ (wY _ rfl)⟩
   rw[<- f];exact wY _ rfl
  ·simp only[xf,List.not_mem_nil,or_false,not_or]
   exact⟨xj (Nat.lt_succ_of_lt hN),hNa,xj hN⟩
 ·refine q04 (q05 ?_)
  refine q04 (jU ho hd g ?_);refine q04 (wpAny_newObj_type (q05 ⟨_,rfl,"set_iterator",_,⟨_,wY _ rfl,rfl⟩,aH.lookup,?_⟩));have r:a≠s.heap.objs.size:=xj D;have x:N∉[s.heap.objs.size,a]:=by
   simp only[xf,List.not_mem_nil,or_false,not_or];exact⟨xj hN,hNa⟩
  cases y:w.params.followText "set-order" with
  |true=>
   have C:=(fc (w.params.setOrder a ep) es).map (·.2);have m:((pickOrder (w.params.setOrder a ep) es).toList.map (·.2)).length=es.size:=by rw[C.length_eq];simp
   refine h _ s.drawn _ ((pickOrder (w.params.setOrder a ep) es).toList.map (·.2)) [s.heap.objs.size,a] (λi h=>h.get? s.heap.objs.size=some (nV (.int ((0:Nat):Int) 0) i a es.size ep)/\h.get? a=some o) (xp _) x (λb o e=>wS _ e) (C.trans (by rw[k])) (λA' u=>?_) ?_
   ·rw[m]
    exact Walks.setText u r hd g y
   ·exact⟨wY _ rfl,wS _ ho⟩
  |false=>
   have m:(es.toList.map (·.2)).length=es.size:=by simp
   have L:t.led=true:=by rw[hled];unfold bT;rw[y];rfl
   have n:(!t.plain&&decide (es.size>1))=false:=by
    rw[y]at j
    simpa using j
   refine h _ s.drawn _ (es.toList.map (·.2)) [s.heap.objs.size,a] (λi h=>h.get? s.heap.objs.size=some (nV (.int ((df t i:Nat):Int) 0) i a es.size ep)/\h.get? a=some o) (xp _) x (λb o e=>wS _ e) (by rw[k]) (λA' u=>?_) ?_
   ·rw[m]
    exact Walks.setSlot u r hd g (by rw[B.len.1,B.len.2]) B.ri y L n
   ·exact⟨wY _ rfl,wS _ ho⟩
theorem o9{Q:Bool->Shared->Prop}(hT:s.TypeIs (.ref a) "set")(h:Q false s):wpAny a⁻¹ A (Builtin.List.listLengthHint (.ref a)) Q E s:=by
 unfold Builtin.List.listLengthHint;refine q04 (wpAny_specialOf hT PySem.F.slot_set_len.lookup ?_);generalize d:("set.__len__":String)=id0
 wp_delta
 rw[show splitId id0=some ("set","__len__") from by subst d;decide +kernel];subst d;refine q04 (wpAny_isInstance (T:="set") (b:=true) hT (by rw[isSubtype_type];kernel_rfl) ?_);refine wpAny_ite_split (λc=>q0Q c nofun) (λ_=>?_);refine wpAny_ite_split (λ_=>?_) (λc=>q0Q (by decide +kernel) c);refine q04 (wpAny_typeOf hT ?_);exact q05 h
theorem lr{o:Obj}{es:Array (Int×Value)}{ep:Nat}{N:Addr}{R:Result->Shared->Prop}(hh:A.handled=none)(ho:s.heap.get? a=some o)(hex:o.ExactSet)(hd:o.data=.set es ep t)(B:Tb t es T)(hled:t.led=bT w)(hz:es.size<=sizeLine)(hNa:N≠a)(res:Value)(c₀:Nat)
  (hS:s.heap.get? N=some {cls:=.type "list",data:=.seq #[] c₀})
  (hR:∀h' tk d acc' c',(∀b o,b≠N->s.heap.get? b=some o->h'.get? b=some o)->h'.get? N=some {cls:=.type "list",dict:=none,data:=.seq acc' c',slots:=#[]}->acc'.toList.Perm (T.map (·.2.2))->R (.ok (.ret res)) {s with heap:=h',toks:=tk,drawn:=d}) :
  wpAny a⁻¹ A.in1 (Builtin.List.listExtendWith (.ref N) (.ref a) res)
   (λfin s'=>match fin with | .done f=>R (.ok f) s' | .again c'=>c'.quiet=true/\codeAny a⁻¹ A c' R s') (λe s'=>R (.error e) s') s:=by
 have O:s.TypeIs (.ref a) "set":=⟨_,ho,hex.1⟩;unfold Builtin.List.listExtendWith;refine q04 (wpAny_typeOf (T:="set") O ?_);have h1:Builtin.List.listSameRef (.ref N) (.ref a)=false:=by simp[Builtin.List.listSameRef,hNa]
 have L:(Value.type "set" == Value.type "list")=false:=by decide
 have G:(Value.type "set" == Value.type "tuple")=false:=by decide
 simp only[h1,L,G,Bool.or_false,q0Z,if_false];refine q04 (qw ho hex hd B hled hz (xu hS) hNa λI d h1 vs fp St S p k C W z=>?_);have M:vs.length<=sizeLine:=by rw[C.length_eq,wT,<- B.len.1];exact hz
 have W:=W A.in1 hh;have l:∀(h:Heap) (y tk:Nat),St 0 h->(∀b o,b≠N->s.heap.get? b=some o->h.get? b=some o) ->
   h.get? N=some {cls:=.type "list",data:=.seq #[] y}->codeAny a⁻¹ A (.builtin "list.extend.loop" ⟨[.ref N,.ref I,res],[]⟩) R {s with heap:=h,toks:=tk,drawn:=d}:=by
  intro h y tk r k c;refine codeAny_extend_loopS W.toS M N p res vs.length 0 _ #[] y rfl (xq _) r c (ItemsOf.nil _) λs' acc' c' D x g=>?_;have:=Moved.eq_with D;rw[this];refine hR s'.heap s'.toks d acc' c' (λb o j e=>D.heap b o (λhmem=>?_) (k b o j e)) x ?_
  ·rcases xf.mp hmem with U | hmem
   ·exact j U
   ·have:=xu e
    rw[wU.mp hmem]at this;exact q0Q this (Nat.not_lt.mpr S)
  ·have e:acc'.toList=vs:=by
    apply List.ext_getElem?;intro i
    by_cases q:i<acc'.toList.length
    ·rw[wQ q]
     exact(g.2 i _ (by rw[<- q0G,wQ q])).symm
    ·rw[List.getElem?_eq_none (Nat.le_of_not_lt q),List.getElem?_eq_none (by have h2:=g.1;rw[Array.length_toList]at q;omega)]
   rw[e];exact C
 have c:=k N _ hS;have u:=k a _ ho;refine q04 (q0Y (o9 (s:={s with heap:=h1,drawn:=d}) ⟨_,u,hex.1⟩ ?_));refine wpAny_ite_split (λ_=>?_) (λ_=>q05 ⟨plainId_quiet PySem.F.plain_extend_loop _,l h1 c₀ s.toks z (λb o _ e=>k b o e) c⟩);refine q04 (wpAny_rule ?_);refine q04 ?_;show wpAny _ _ (updateSeq N (·.push .none) >>= λ_=>updateSeq N (·.pop)) _ _ _;refine q04 (wpAny_updateSeq c rfl ?_);have n:=w9 (Obj.mapSeq (·.push Value.none)) c rfl;refine wpAny_updateSeq (hz:=by seq_fits) n rfl ?_;have v:=w9 (Obj.mapSeq (·.pop)) n rfl;refine q05 ⟨plainId_quiet PySem.F.plain_extend_loop _,l _ _ s.toks ?_ (λb o j e=>?_) v⟩
 ·refine W.frame 0 _ _ z λb j o e=>?_
  have m:b≠N:=λh=>p (h▸j);exact(wX _ _ (Ne.symm m)).trans ((wX _ _ (Ne.symm m)).trans e)
 ·exact(wX _ _ (Ne.symm j)).trans ((wX _ _ (Ne.symm j)).trans (k b o e))
theorem iZ{o:Obj}{es:Array (Int×Value)}{ep:Nat}{Q:List Value->Shared->Prop}(hh:A.handled=none)(ho:s.heap.get? a=some o)(hex:o.ExactSet)(hd:o.data=.set es ep t)(B:Tb t es T)(hled:t.led=bT w)(hz:es.size<=sizeLine)
  (h:∀h' tk d (vs:Af),(∀b o,s.heap.get? b=some o->h'.get? b=some o)->vs.Perm (T.map (·.2.2))->Q vs {s with heap:=h',toks:=tk,drawn:=d}) :
  wpAny a⁻¹ A (collect (.ref a)) Q E s:=by
 have y:=xu ho;unfold collect;refine q04 (wpAny_runValue (codeAny_builtin entry_proto_collect' (show wpAny _ _ (do again (.builtin "list.__iadd__" ⟨[<- newList [],.ref a],[]⟩)) _ _ s from q04 (wpAny_newList (q05 ⟨Code.quiet_builtin _ (by decide +kernel),codeAny_builtin entry_list_iadd' ?_⟩)))));show wpAny _ _ (Builtin.List.listExtendWith (.ref s.heap.objs.size) (.ref a) (.ref s.heap.objs.size)) _ _ {s with heap:=s.heap.push (seqObj "list" #[] 0)};rw[Around.under_plainId (show plainId "list.__iadd__"=true by decide +kernel) _];refine q0X (lr (s:={s with heap:=s.heap.push (seqObj "list" #[] 0)}) (N:=s.heap.objs.size) (R:=λg j=>g=.ok (.ret (.ref s.heap.objs.size))/\∃h' tk d c l,j={s with heap:=h',toks:=tk,drawn:=d}/\(∀b o,s.heap.get? b=some o->h'.get? b=some o) /\
   h'.get? s.heap.objs.size=some {cls:=.type "list",dict:=none,data:=.seq c l,slots:=#[]}/\c.toList.Perm (T.map (·.2.2))) hh (wS _ ho) hex hd B hled hz (Nat.ne_of_gt y) (.ref s.heap.objs.size) 0 (wY _ rfl)
  (λh' tk d c l m k i=>⟨rfl,h',tk,d,c,l,rfl,λb o p=>m b o (xj (xu p)) (wS _ p),k,i⟩)) (λfin j n=>?_) λe j u=>?_
 ·have q:∀(g:Result) (j:Ae),(g=.ok (.ret (.ref s.heap.objs.size))/\∃h' tk d c l,j={s with heap:=h',toks:=tk,drawn:=d}/\(∀b o,s.heap.get? b=some o->h'.get? b=some o) /\
    h'.get? s.heap.objs.size=some {cls:=.type "list",dict:=none,data:=.seq c l,slots:=#[]}/\c.toList.Perm (T.map (·.2.2))) ->
    match g with
    |Except.ok (Flow.ret v)=>wpAny a⁻¹ A (match v with
      |Value.ref a=>do
       let o <- load a
       match o.data with
        |Data.seq xs epoch=>pure xs.toList
        |x=>unsupported "internal:collect"
      |x=>unsupported "internal:collect") Q E j
    |Except.ok a=>False
    |Except.error e=>E e j:=by
   rintro g j ⟨rfl,h',tk,d,c,l,rfl,m,k,i⟩;exact q04 (wpAny_load k (q05 (h h' tk d c.toList m i)))
  cases fin with
  |done f=>exact q _ _ n
  |again l=>exact⟨n.1,codeAny_mono n.2 λg r hr=>q g r hr⟩
 ·exact nomatch u.1
end
end STb
namespace TS
open PySem PyProof.Rows PySem.W
section
variable {prog:Aj}{w:Am}{A:Al}{E:Aa}{s:Ae}
def pL(prog:Aj)(w:Am)(A:Al)(E:Aa)(Q:Aa)(vs:Af)(s2:Ae):Prop:=
 vs.length<=sizeLine/\∃(kd:SortKind) (r:Keyed->Nat),(2<=vs.length->∀{Q:SortKind->Shared->Prop},Q kd {s2 with heap:=sort1 (with1 s2 vs) s2.heap.objs.size vs}->wpAny a⁻¹ A.in1.in1 (keyKind' vs.toArray) Q E {s2 with heap:=sort1 (with1 s2 vs) s2.heap.objs.size vs}) /\
  (2<=vs.length->gC prog w A.in1.in1 (· = {s2 with heap:=sort1 (with1 s2 vs) s2.heap.objs.size vs}) (pairsOf vs) kd r) /\
  ∀ps:List Keyed,ps.Perm (vs.zip vs)->ps.Pairwise (cI r)->Q (.ref s2.heap.objs.size) {s2 with heap:=sortedHeap (with1 s2 vs) s2.heap.objs.size vs (ps.map (·.2)).toArray}
theorem sorted_callD(hc:wpAny a⁻¹ A.in1 (collect v) (pL prog w A E Q) E s):wpAny a⁻¹ A (call (.builtin "sorted") [v]) Q E s:=by
 refine Calls.call_function_entry kind_sorted plain_sorted entry_sorted (args_sorted1 v) ?_;unfold Builtin.«sorted»;refine q04 (m:=checkCount "sorted" 1 1 _) (q05 ?_)
 refine q04 (q0X hc (λvs a ⟨i,kd,r,c,C,h⟩=>?_) λ_ _ e=>e);refine q04 (wpAny_newList ?_ (hsz:=by omega));have b:(with1 a vs).get? a.heap.objs.size=some (seqObj "list" vs.toArray 0):=wY _ rfl;show wpAny _ _ _ _ _ {a with heap:=with1 a vs};refine q04 (q0Y (wpAny_call_entry slot_list_sort ⟨_,b,rfl⟩ entry_list_sort (g9 (s:={a with heap:=with1 a vs}) b i c C λd g f=>⟨_,rfl,?_⟩) (args_list_sort _)));exact q05 ⟨_,rfl,h d g f⟩
end
end TS
namespace L2
open PySem PySem.Spec PyProof.Rows STb
theorem kj{prog:Aj}:∀{vs:Af} {ss:Ak},StrsAre vs ss->ItemsAre (strKind prog w) ss vs
 |_,_,.nil=>.nil
 |_,_,.cons x t h=>.cons (strKind_is _ _ _ _) (kj h)
theorem mh{prog:Aj}:∀{vs:Af} {ss:Ak},ItemsAre (strKind prog w) ss vs->StrsAre vs ss
 |_,_,.nil=>.nil
 |_,_,.cons hk h=>by
  obtain⟨t,rfl⟩:=Value.isStrOf_shape hk;exact .cons _ t (mh h)
theorem TK.tupS{prog:Aj}{h:Heap}{ss:Ak}(q:TK (strKind prog w) h ss v):TS.TupS h v ss:=by
 obtain⟨b,rfl,o,a,n,c,f,e,d⟩:=q;exact⟨b,o,a,n,rfl,c,f,e,mh d⟩
theorem rC{h h':Heap}{ss:Ak}(u:∀b o,h.get? b=some o->h'.get? b=some o)(q:TS.TupS h v ss):TS.TupS h' v ss:=by
 obtain⟨a,o,c,n,e,d,r⟩:=q;exact⟨a,o,c,n,e,u _ _ d,r⟩
theorem dJ{α:Type}[DecidableEq α]:∀{l m:List α},l.Nodup->(∀x∈l,x∈m)->m.length<=l.length->l.Perm m
 | [],m,_,_,h=>by
  have:m=[]:=xL.mp (Nat.le_zero.mp h);rw[this]
 |x::l,m,hn,hs,h=>by
  obtain⟨h1,h2⟩:=List.nodup_cons.mp hn;have hx:=hs x q0B;have ih:=dJ (l:=l) (m:=m.erase x) h2 (λy hy=>(List.mem_erase_of_ne (λe=>h1 (by rw[<- e];exact hy))).mpr (hs y (xg _ hy))) (by
   rw[List.length_erase_of_mem hx];rw[w_]at h;omega)
  exact(ih.cons x).trans (List.perm_cons_erase hx).symm
def tupV(K:Ab)(H:Hp)(x:V)(ss:Ak):Prop:=∃a,x=.ref a/\fq K H a (ss.map V.str)
def gg(K:Ab)(t:TE):TE:=λσ H Q=>t σ H λx H1=>∃(p:Addr) (kvs:List (V×List Str)),x=.ref p/\aS K H1 p (kvs.map (·.1))/\(∀e∈kvs,tupV K H1 e.1 e.2/\e.2≠[])/\kvs.length<2000 /\
 ∀zs:List (V×List Str),(∀e∈zs,tupV K H1 e.1 e.2)->(∀k,k∈zs.map (·.2)↔k∈kvs.map (·.2))->(zs.map (·.2)).Nodup->zs.Pairwise (λa b=>TS.ordL.blt (TS.ks b.2) (TS.ks a.2)=false)->∀l,H1 l=none->Q (.ref l) (aR H1 l (.lst (zs.map (·.1))))
section
variable {X:Cx}{e:Expr}{t:TE}{p p2 pos pos2:Pos}
theorem Inv.drawn{pins:Ac}{σ:St}{s:Ae}(I:Inv X pins σ H s)(d:Drawn):Inv X pins σ H {s with drawn:=d}:=⟨I.ok,I.os,I.bare,I.base,I.loc,I.cell,I.free,I.freeC,I.pin,I.hok,I.len⟩
theorem Inv.tupV{pins:Ac}{σ:St}(I:Inv X pins σ H s){x:V}{ss:Ak}{u:Value}(h:tupV X.K H x ss)(r:aI x u):TK (strKind X.prog X.w) s.heap ss u:=by
 obtain⟨a,rfl,c⟩:=h;obtain rfl:u=Value.ref a:=r;obtain⟨its,b,⟨o,d,f,n,e⟩,_⟩:=I.tuple c;exact⟨a,rfl,o,_,n,d,f,e,kj (by simpa using cq b)⟩
theorem ls(hu:X.A.units+10<cLine)(hc:X.calm=true)(ha:PE X e t)(g1:Gl X "sorted")(m1:X.mg "sorted"=none)(g2:Gl X "set")(m2:X.mg "set"=none)
  (he1:autoParam (starEach [.Call (.Name "set" p2) [e] [] pos2] X.env=[(false,eval (.Call (.Name "set" p2) [e] [] pos2) X.env)]) zz0._auto_1)
  (he2:autoParam (starEach [e] X.env=[(false,eval e X.env)]) zz0._auto_1) :
  PE X (.Call (.Name "sorted" p) [.Call (.Name "set" p2) [e] [] pos2] [] pos) (gg X.K t):=by
 intro a3 s σ H Q I h;have hl:bootBuiltins "sorted"=some (.builtin "sorted"):=by decide +kernel
 have hs:bootBuiltins "set"=some (.type "set"):=by decide +kernel
 refine wpAny_Call_Name_kw (cJ I g1 m1 hl ?_);refine PyProof.Rows.callWith_builtin1 ?_ he1 rfl;rw[he1];show wpAny _ _ (spliced [(false,eval (.Call (.Name "set" p2) [e] [] pos2) X.env)]) _ _ _;refine Calls.spliced_cons ?_;refine wpAny_Call_Name_kw (cJ (I.tok _) g2 m2 hs ?_);refine PyProof.Rows.callWith_type1 ?_ he2 rfl;rw[he2];show wpAny _ _ (spliced [(false,eval e X.env)]) _ _ _;refine Calls.spliced_cons (bK (ha a3 _ σ H _ (I.tok _) h) λu s1 ⟨x,H1,I1,rx,pl,f,ex,hq,hk,c1,q⟩=>Calls.spliced_nil ?_);subst ex;obtain rfl:u=Value.ref pl:=rx;obtain⟨D,r',b1,hz⟩:=I1.list hq;have C:=r'.length;rw[wT]at C hz;refine gW (knd:=strKind X.prog X.w) (kl:=f.map (·.2)) (I1.ok.hd hc) b1.isList ⋯ (by simp[C]) (λi v g=>?_) (by simpa[<- C]using c1) λh1 a9 hS b3=>Calls.spliced_nil ?_
 ·have hi:i<D.length:=by
   have:=(Array.getElem?_eq_some_iff.mp g).1
   simpa using this
  have n:i<f.length:=by omega
  refine⟨f[i].2,by rw[wV,wQ n];rfl,?_⟩;obtain⟨b,M,L⟩:=c5 r' (i:=i) (a:=f[i].1) (by rw[wV,wQ n];rfl);have:b=v:=by
   have e:D.toArray[i]?=D[i]?:=by simp
   rw[e,M]at g;exact q0S g
  subst this;exact I1.tupV (hk _ (w6 n)).1 L
 obtain⟨o,es,ep,tb,T,ho,B,a2⟩:=hS;have hml:=oy f.length (f.map (·.2)) (by simp);have hT:T.length<2000:=by have:=B.ln;omega
 have c0:es.size<=sizeLine:=by rw[B.tb.len.1,q0W];omega
 refine TS.sorted_callD (iZ (A:=X.A.in1) (s:={s1 with heap:=h1,toks:=a9}) (I1.ok.hd hc) ho B.ex B.data B.tb B.ld c0 λh2 a1 d vs U hp=>?_);have R:vs.length=T.length:=by rw[hp.length_eq,wT]
 have a4:∀b o,s1.heap.get? b=some o->h2.get? b=some o:=λb o e=>U b o (b3 b o e);have b2:s1.heap.objs.size<h2.objs.size:=xu (U _ _ ho);have all:∀v∈vs,∃z:V×List Str,z∈f/\aI z.1 v/\TK (strKind X.prog X.w) h2 z.2 v:=λv g=>by
  obtain⟨y,hy,rfl⟩:=xM.mp (hp.mem_iff.mp g);obtain⟨i,hi,e⟩:=List.mem_iff_getElem.mp (B.vl y hy);have b4:i<D.length:=by simpa using hi
  have n:i<f.length:=by omega
  obtain⟨b,M,L⟩:=c5 r' (i:=i) (a:=f[i].1) (by rw[wV,wQ n];rfl);have:b=y.2.2:=by
   rw[wQ b4]at M;rw[<- e,<- q0S M]
  subst this;refine⟨f[i],w6 n,L,?_⟩;have q1:=I1.tupV (hk _ (w6 n)).1 L;obtain⟨c,ec,_⟩:=id q1;rw[ec]at q1 ⊢;exact q1.to (a4 c)
 obtain⟨F,hF⟩:∃F:Value->V×List Str,∀v∈vs,F v∈f/\aI (F v).1 v/\TK (strKind X.prog X.w) h2 (F v).2 v:=by
  classical
  exact⟨λv=>if h:∃z:V×List Str,z∈f/\aI z.1 v/\TK (strKind X.prog X.w) h2 z.2 v then h.choose else(.non,[]),λv g=>by
   have h:=all v g;dsimp only;rw[dif_pos h];exact h.choose_spec⟩
 generalize a5:({s1 with heap:=h2,toks:=a1,drawn:=d}:Shared)=s2;have r:s2.heap=h2:=by rw[<- a5]
 have O:∀b o,h2.get? b=some o->(TS.sort1 (TS.with1 s2 vs) s2.heap.objs.size vs).get? b=some o:=λb o e=>by
  rw[r];refine eU ?_ (xj (xu e));show(s2.heap.push _).get? b=some o;rw[r];exact wS _ e
 have j:∀v∈vs,TS.TupS (TS.sort1 (TS.with1 s2 vs) s2.heap.objs.size vs) v (F v).2:=λv g=>rC O (TK.tupS (hF v g).2.2);refine⟨by rw[R,q0W];omega,_,_,λh2' {Q} hq=>TS.kind_S (vs:=vs) (λv g=>?_) ⋯ hq,λ_=>TS.cmp_S (b:=true) λp G=>?_,λps p1 p2=>?_⟩
 ·have t1:=j v g
  have ne:=(hk _ (hF v g).1).2;obtain⟨x,ss,e⟩:=List.exists_cons_of_ne_nil ne;rw[e]at t1;exact⟨x,ss,t1⟩
 ·rw[pairsOf_toList]at G
  exact⟨_,j _ (mem_zip_self G).2⟩
 rw[pairsOf_toList]at p2;have p3:=TS.ranks_out p1 p2;have pm:∀p∈ps,p.1∈vs/\p.2=p.1:=λp G=>by
  have:=mem_zip_self (p1.mem_iff.mp G);exact⟨this.2,this.1.symm⟩
 have po:(ps.map (·.2)).Perm vs:=(p1.map (·.2)).trans (by rw[List.map_snd_zip (xp _)]);have fk:∀v∈vs,∀k,TK (strKind X.prog X.w) h2 k v->(F v).2=k:=λv g k hk=>(hF v g).2.2.inj hk;generalize a6:ps.map (·.2)=out at po;have em:out.map F=ps.map λp=>F p.2:=by rw[<- a6,xc];rfl
 have vo:aD ((out.map F).map (·.1)) out:=by
  have:∀l:List Value,(∀v∈l,v∈vs)->aD ((l.map F).map (·.1)) l:=by
   intro l
   induction l with
   |nil=>intro _;exact .nil
   |cons v l ih=>intro h;exact .cons (hF v (h v q0B)).2.1 (ih λu hu=>h u (xg _ hu))
  exact this out λv g=>po.mem_iff.mp g
 have mo:∀z∈out.map F,z∈f:=λz hz=>by
  obtain⟨v,g,rfl⟩:=xM.mp hz;exact(hF v (po.mem_iff.mp g)).1
 have mk:∀k,k∈f.map (·.2)->k∈(out.map F).map (·.2):=λk Y=>by
  have h3:=(lY (f.map (·.2)) k []).mpr (.inr Y);obtain⟨y,hy,S⟩:=(B.mem k).mp h3;have g:y.2.2∈vs:=hp.mem_iff.mpr (List.mem_map_of_mem hy);obtain⟨c,ec,_⟩:=id S;have:TK (strKind X.prog X.w) h2 k y.2.2:=by rw[ec]at S ⊢;exact S.to (U c)
  rw[<- fk _ g k this];exact List.mem_map_of_mem (List.mem_map_of_mem (po.mem_iff.mpr g))
 have hn:((out.map F).map (·.2)).Nodup:=by
  have:=dJ (m:=(out.map F).map (·.2)) B.nd (λk Y=>mk k (by
   have h:=(lY (f.map (·.2)) k []).mp (show k∈(f.map (·.2)).foldl bM [] from Y);exact h.elim (λh=>nomatch h) id)) (by rw[wT,wT,po.length_eq,R,<- B.ln];exact xp _)
  exact this.nodup B.nd
 have pw:(out.map F).Pairwise (λa b=>TS.ordL.blt (TS.ks b.2) (TS.ks a.2)=false):=by
  rw[em,List.pairwise_map];refine(List.Pairwise.and_mem.mp p3).imp ?_;rintro x y ⟨hx,hy,hb⟩;obtain⟨x1,x2⟩:=pm x hx;obtain⟨y1,y2⟩:=pm y hy;rw[TS.keyS_eq (p:=x) (j _ x1),TS.keyS_eq (p:=y) (j _ y1)]at hb;rw[x2,y2];exact hb
 have qq:=q (out.map F) (λe he=>(hk e (mo e he)).1) (λk=>⟨λh=>by
  obtain⟨z,hz,rfl⟩:=xM.mp h;exact List.mem_map_of_mem (mo z hz),mk k⟩) hn pw
 have a8:((out.map F).map (·.1)).length<=sizeLine:=by rw[wT,wT,po.length_eq,R,q0W];omega
 generalize(out.map F).map (·.1)=zv at vo qq a8;clear mk mo em hn pw fk pm p3 p2 p1 j O hF all a2 B;have hw:(TS.with1 s2 vs).get? s2.heap.objs.size=some (seqObj "list" vs.toArray 0):=wY _ rfl;obtain⟨e,he⟩:=sortedHeap_at (vs:=vs) (out:=out.toArray) hw;have keep:∀b o,s1.heap.get? b=some o->(sortedHeap (TS.with1 s2 vs) s2.heap.objs.size vs out.toArray).get? b=some o:=λb o hb=>by
  have h3:=a4 b o hb;have a7:=xu h3;rw[sortedHeap_old (by rw[r];exact xj a7) (by show b<(s2.heap.push _).objs.size;rw[r,Heap.size_push];exact Nat.lt_succ_of_lt a7)];show(s2.heap.push _).get? b=some o;rw[r];exact wS _ h3
 have Z:s1.heap.objs.size<=s2.heap.objs.size:=by rw[r];exact q0P b2
 generalize sortedHeap (TS.with1 s2 vs) s2.heap.objs.size vs out.toArray=hf at he keep ⊢;generalize s2.heap.objs.size=l at he Z ⊢;subst a5;exact⟨.ref l,_,(I1.laid (t':=a1) (h':=hf) keep Z (show ba X.prog X.w _ _ _ (.lst zv) from⟨a8,out,e,vo,he⟩)).drawn d,rfl,qq _ (I1.hok.fresh Z)⟩
end
end L2
set_option maxHeartbeats 4000000
namespace Q07
open PySem L2 aO QL Win SnM
local macro_rules|`(tactic|ext)=>do
 let f(s:String):Lean.MacroM _:=(s.splitOn ",").toArray.mapM λx=>let i:=Lean.mkIdent (x.splitOn "."|>.foldl .mkStr .anonymous);`(Lean.Parser.Tactic.simpLemma|$i:term)
 let g(s:String):Lean.MacroM _:=(s.splitOn ",").toArray.mapM λx=>let i:=Lean.mkIdent (x.splitOn "."|>.foldl .mkStr .anonymous);`(Lean.Parser.Tactic.simpLemma|↓$i:term)
 let c:="eY,i4,iL,fW,dY,i3,iQ,rB,oD,pQ,tQ,tH,m3,tK,rc,oN,sJ,tC,sF,vJ,jM,tq,vy,oo,kW,i6,gg,ly,lq,n6,oJ,kG,kZ,sW,uY,iE,nT,jR,tf,sO,rU,vB,vk,tY,vY,qj,tu,sD,ug,vz,kc,i5,qR,qk,jE,o_,qa,sM,mq,oR,io,oa,L2.start,xy,List.map_nil,w_,List.length_nil,List.replicate,List.cons_append,xQ,Nat.reduceAdd,Nat.reduceSub,List.getElem?_cons_zero,xx,List.set_cons_zero,List.set_cons_succ,jD,Cx.blk,iH,rE,qc,pU,Cx.wish,Cx.nox,uR,fB";let d<-f (c++",ww,wH,wA,wu,wy,wk,wF,wz,qE,sK,oK,oZ");let e<-f (c++",xC,Option.some.injEq,V.int.injEq,V.str.injEq,V.ref.injEq,V.bl.injEq,List.cons.injEq,and_true,true_and,exists_and_left,exists_eq_left',exists_eq_left,decide_eq_true_eq,Bool.not_eq_true',decide_eq_false_iff_not,qD,Option.join_some,Nat.succ_eq_add_one,Nat.zero_add,exists_const,and_assoc,exists_eq,exists_eq',Int.reducePow,Int.reduceNeg,Int.reduceLT,or_true,true_or,reduceCtorEq,Int.zero_add,Bool.false_eq_true,Bool.not_true,Bool.not_false,oH,rM,q8,ny,ni,pA,rI,fL,jl,pM,pC,jO");let h<-g "reduceIte,u8,vF,vd,v3,vO,v_,vP,u_";let e:=e++h
 `(tactic|((try dsimp only[$d,*]);(try simp only[$e,*])))
set_option hygiene false in
local macro_rules|`(tactic|walk_at "nc")=>`(tactic|(clear h1;refine aF λN1 h1=>?_;ext))
set_option hygiene false in
local macro_rules|`(tactic|symm)=>`(tactic|(refine aF λN1 h1=>?_;ext))
set_option hygiene false in
local macro_rules|`(tactic|ac_nf)=>`(tactic|(refine aF λN2 h2=>?_;ext))
set_option hygiene false in
local macro_rules|`(tactic|walk_at "f")=>`(tactic|refine F.ok sc (λvs H Q E h=>by cases h;subst_vars;rfl) (λcdv A outer s H vs Q E hr h=>?_))
set_option hygiene false in
local macro_rules|`(tactic|walk_at "c")=>`(tactic|exact⟨rfl,rfl,rfl,by decide +kernel,rfl,by decide +kernel,by decide +kernel⟩)
def jn(i:Nat):Stmt:=PySem.Challenge.pw_quiltlaw_k07_whole_seen_in.main.body.getD i (.Pass ⟨0,0,0,0⟩)
section
variable {P:Aj}{w:Am}{K:W.Frag}{mg:Ah}{base:Heap}
abbrev gl:Stmt:=jn 7
inductive hU(K:W.Frag)(vs:List V)(H:Hp)(Q:VK)(_E:XK):Prop
 |mk (a:Addr) (p:aO) (_:vs=[.ref a]) (_:aS K H a (ak p)) (_:eC p) (_:di H (mirror p) Q)
theorem nM:aV ["picture"] ["picture"] (av gl):=by walk_at "c"
theorem mY(F:fM K "mirror" "mirror" gl f fd)(nb:NB mg):↑bH 1 f fd ["picture"] (hU K):=by
 have sc:=nM;walk_at "f"
 ·obtain⟨a,p,rfl,j,g,q⟩:=h
  refine⟨_,(ao (bg (bY ["row"] [] rfl (bf.of (by kernel_rfl)) (by kernel_rfl) (b6 (aC 0))
    (λ_ _ _ _=>(aG (i:=0) (by show(["row"]:List Str).Nodup;decide +kernel) rfl (Or.inl rfl))) (λ_ _ _ _=>bN) (λ_ _ _ _=>(kY rfl rfl nb.reversed (ac (aC 0) ae)))))),?_⟩
  ext;refine⟨⟨_,j⟩,cS (xs:=ak p) (λi b σ d=>d=H/\b=ak (mirror (p.take i))/\i<=p.length/\∃x,σ=[x]) ⟨rfl,rfl,xq _,_,rfl⟩ ?_ ?_ ?_ ?_ ?_⟩
  ·rintro i b σ d ⟨_,rfl,_⟩
   refine a_ ?_;rw[ag];unfold mirror;rw[wT,xG];have:=g.1;omega
  ·rintro i b σ d ⟨_,_,h,_⟩
   rw[ag];exact h
  ·rintro i b σ d ⟨rfl,_⟩
   exact j
  ·rintro i x b σ d e ⟨rfl,rfl,hi,y,rfl⟩
   have c:i<p.length:=by have:=(wR.mp e).1;rwa [ag]at this
   rw[bp c]at e;cases e;have hr:=g.2 _ (w6 c);ext;refine⟨by rw[al];omega,nofun,?_,c⟩;rw[cf,eV,q0E,wQ c];unfold mirror;rw[xa];exact(bF _ _).symm
  ·rintro b σ d ⟨rfl,rfl,_⟩ l c
   rw[ag,xF];exact q l _ c am (aA c)
abbrev bJ:Stmt:=jn 9
inductive iB(K:W.Frag)(vs:List V)(H:Hp)(Q:VK)(_E:XK):Prop
 |mk (a:Addr) (p:aO) (i:Nat) (_:vs=[.ref a,.int (i:Int)]) (_:aS K H a (ak p)) (_:eC p) (_:(∀r∈p,i<r.length)) (_:∀H',aE H H'->Q (.str (tx (jt p i))) H')
theorem ng:aV ["picture","i"] ["picture","i"] (av bJ):=by walk_at "c"
theorem nk(F:fM K "column_from_below" "column_from_below" bJ f fd)(nb:NB mg):↑bH 1 f fd ["picture","i"] (iB K):=by
 have sc:=ng;walk_at "f"
 ·obtain⟨a,p,i,rfl,u,m,v,q⟩:=h
  refine⟨_,(ao (bg (@oQ _ _ _ _ _ _ _ _ (ac (bY ["row"] [1] rfl (bf.of (by kernel_rfl)) (by kernel_rfl) (tI rfl nb.reversed (ac (aC 0) ae))
    (λ_ _ _ _=>(aG (i:=0) (by show(["row","i"]:List Str).Nodup;decide +kernel) rfl (Or.inl rfl))) (λ_ _ _ _=>bN) (λ_ _ _ _=>(bC iO (aC 0) (aC 1) (λ_ _=>rfl)))) ae) rfl rfl))),?_⟩
  ext;have hd:∀n,((p.reverse.take n).map λr=>V.str ⟨#[r.getD i 0]⟩)=(((p.reverse.take n).map λr=>r.getD i 0).map λc=>(⟨#[c]⟩:Str)).map V.str:=λn=>by rw[xc,xc];rfl
  refine⟨rfl,_,u,ou (xs:=ak p) (λn b σ g=>g=H/\b=((p.reverse.take n).map λr=>V.str ⟨#[r.getD i 0]⟩)/\n<=p.length/\∃x,σ=[x,some (.int (i:Int))]) ⟨rfl,rfl,xq _,_,rfl⟩ ?_ ?_ ?_ ?_ ?_⟩
  ·rintro n b σ g ⟨_,rfl,_⟩
   refine a_ ?_;rw[wT,xG];have:=m.1;rw[xh];omega
  ·rintro n b σ g ⟨_,_,h,_⟩
   rw[ag];exact h
  ·rintro n b σ g ⟨rfl,_⟩
   exact u
  ·rintro n x b σ g o ⟨rfl,rfl,hn,y,rfl⟩
   have d:n<p.reverse.length:=by
    have:=(wR.mp o).1
    rwa [xh,ag,<- xh (as:=p)]at this
   have j:(ak p.reverse)[n]?=some x:=by unfold ak at o ⊢;rwa [List.map_reverse]
   rw[bp d]at j;cases j;have t:p.reverse[n]∈p:=List.mem_reverse.mp (w6 d);have hr:=m.2 _ t;have k:=v _ t;ext;have z:(tx p.reverse[n]).cps.toList[i]?=some (p.reverse[n].getD i 0):=by rw[cf,q0A,wQ k];rfl
   refine⟨by rw[al];exact aZ ⋯,_,aW z,?_,by rw[xh]at d;exact d⟩;rw[q0E,wQ d,xa]
   rfl
  ·rintro b σ g ⟨rfl,rfl,_⟩ l d
   rw[ag,<- xh (as:=p),xF]at *;refine⟨(jt p i).map λc=>(⟨#[c]⟩:Str),.inl (aS.of ?_),?_,?_⟩
   ·rw[am];unfold jt;rw[xc,xc];rfl
   ·rw[xc]
    have e:((λy:Str=>y.length)∘λc=>(⟨#[c]⟩:Str))=λ_=>1:=by funext c;rfl
    rw[e,List.map_const',List.sum_replicate_nat,wT];have B:(Str.ofString "").length=0:=rfl;rw[B];have:=m.1;unfold jt;rw[wT,xh];omega
   ·rw[eV];exact q _ (aA d)
abbrev eX:Stmt:=jn 8
inductive cU(K:W.Frag)(vs:List V)(H:Hp)(Q:VK)(_E:XK):Prop
 |mk (a:Addr) (p:aO) (r c:Nat) (_:vs=[.ref a]) (_:aS K H a (ak p)) (_:bG p r c) (_:0<r) (_:r<=64) (_:c<=64) (_:di H (bL p) Q)
theorem li:aV ["picture"] ["picture"] (av eX):=by walk_at "c"
theorem k9(F:fM K "quarter" "quarter" eX f fd)(nb:NB mg)(yac:↑gN 1 "column_from_below" ["picture","i"] (iB K)):↑bH 2 f fd ["picture"] (cU K):=by
 have sc:=li;walk_at "f"
 ·obtain⟨a,p,r,c,rfl,B,g,e,o,t,q⟩:=h
  refine⟨_,(ao (bg (bY ["i"] [0] rfl (bf.of (by kernel_rfl)) (by kernel_rfl) (aQ rfl nb.range (ac (az aP rfl nb.len aY (ac (bC br (aC 0) aj (λ_ _=>rfl)) ae)) ae))
    (λ_ _ _ _=>(aG (i:=0) (by show(["i","picture"]:List Str).Nodup;decide +kernel) rfl (Or.inl rfl))) (λ_ _ _ _=>bN) (λ_ _ _ _=>(bh yac (hr.mono nofun) rfl bI (ac (aC 1) (ac (aC 0) ae))))))),?_⟩
  ext;have j:0<p.length:=by rw[g.1];exact e
  have u:(p[0]).length=c:=g.2 _ (w6 j);have D:(p.headD []).length=c:=ci g e;refine⟨_,B,_,aW (bp j),_,rfl,by rw[al];exact aZ ⋯,by rw[al];omega,by rw[al];omega,?_⟩;rw[al,u,w8];refine c7 (lo:=0) (n:=c) (λi b σ k=>aE H k/\b=ak ((List.range i).map (jt p))/\i<=c/\∃x,σ=[x,some (.ref a)]) ⟨aE.refl _,rfl,xq _,_,rfl⟩ ?_ ?_ ?_ ?_
  ·rintro i b σ k ⟨_,rfl,_⟩
   refine a_ ?_;rw[ag,wT,q0J];omega
  ·rintro i b σ k ⟨_,_,h,_⟩
   exact h
  ·rintro i b σ k z ⟨d,rfl,_,y,rfl⟩
   ext;refine⟨a,p,i,by simp,d.seq B,eC.of g o t,λx C=>by rw[g.2 x C];exact z,λH2 m=>⟨d.trans m,?_,z⟩⟩;rw[q0M,xa];exact(bF _ _).symm
  ·rintro b σ k ⟨d,rfl,_⟩ l v
   refine q l _ (d.free v) ?_ (d.trans (aA v));rw[am];unfold bL;rw[D]
abbrev gd:Stmt:=jn 6
inductive g8(K:W.Frag)(vs:List V)(H:Hp)(Q:VK)(_E:XK):Prop
 |mk (a:Addr) (p:aO) (r c t:Nat) (_:vs=[.ref a,.int (t:Int)]) (_:aS K H a (ak p)) (_:bG p r c) (_:0<r) (_:0<c) (_:r<=64) (_:c<=64) (_:t<8) (_:di H (turned p t) Q)
theorem nA:aV ["picture","t","result","step"] ["picture","t"] (av gd):=by walk_at "c"
theorem nr(F:fM K "turned" "turned" gd f fd)(nb:NB mg)(yai:↑gN 1 "mirror" ["picture"] (hU K))(yab:↑gN 2 "quarter" ["picture"] (cU K)):↑bH 3 f fd ["picture","t"] (g8 K):=by
 have sc:=nA;walk_at "f"
 ·obtain⟨a,p,r,c,t,rfl,hS,hp,hr0,hc0,hr1,hc1,ht,q⟩:=h
  refine⟨_,(ai (q01 2 sc.nd (cO c8 rfl nb.list dC (ac (pv 0) ae)))
   (ai (dH (lJ uH (pv 1) aj (c4 _))
   (ao (q01 2 sc.nd (bh yai (hr.mono nofun) rfl bI (ac (pv 2) ae))))
   ca)
   (ai (bo PassesOwn.never rfl (h_ rfl nb.range (ac (au bx (pv 1) aj) ae)) (q02 3 sc.nd)
   (ao (q01 2 sc.nd (bh yab (hr.mono nofun) rfl bI (ac (pv 2) ae)))))
   (ao (bg (pv 2)))))),?_⟩
  ext
  -- the aJ,from the list at l
  have loop:∀(l:Addr) (p':aO) (H1:Hp),H l=none->H1 l=some (.lst (ak p'))->aE H H1->bG p' r c->turned p t=aJ (t%4) p' ->
    ∀(g:TG) (tb:TS) (D:cT),g=fB 3->tb=m3 (jR (cU K) [] E0 (iE (q8 2) nT)) (fB 2)->(∀σ' H' v,σ'[2]?=some (some v)->Q v H'->D.nx σ' H')->qX (nw 0 ((t:Int)%4).toNat) g tb D [some (V.ref a),some (V.int t),some (V.ref l),none] H1:=by
   intro l p' H1 hl h1 sm hp' et g tb D hg htb hD;subst hg htb;have e4:((t:Int)%4).toNat=t%4:=by omega
   rw[e4];refine aL (λi σ H2=>∃(l2:Addr) (x:Option V),σ=[some (V.ref a),some (V.int t),some (V.ref l2),x]/\H l2=none/\H2 l2=some (.lst (ak (aJ i p')))/\aE H H2) ⟨l,none,rfl,hl,h1,sm⟩ ?_ ?_
   ·rintro i σ H2 hi ⟨l2,x,rfl,h2,h3,sm2⟩
    ext;have hq:=bA i hp' hr0 hc0;have gp:∀r' c',bG (aJ i p') r' c'->0<r'->r'<=64->c'<=64->cU K [V.ref l2] H2 (λx_1 H1=>∃l2,x_1=V.ref l2/\H l2=none/\H1 l2=some (HO.lst (ak (aJ (i+1) p')))/\aE H H1) E0:=λr' c' h4 h5 h6 h7=>
     ⟨l2,aJ i p',r',c',rfl,aS.of h3,h4,h5,h6,h7,λl3 H3 h8 h9 sm3=>⟨l3,rfl,sm2.free h8,by rw[h9,<- c3 1 i p'];rfl,sm2.trans sm3⟩⟩
    by_cases ii:i%2=0
    ·rw[q07 ii,q07 ii]at hq
     exact gp r c hq hr0 hr1 hc1
    ·rw[q06 ii,q06 ii]at hq
     exact gp c r hq hc0 hc1 hr1
   ·rintro σ H2 ⟨l2,x,rfl,h2,h3,sm2⟩
    exact hD _ _ _ rfl (q l2 H2 h2 (by rw[h3,et]) sm2)
  refine⟨_,.inl hS,λl hl=>?_⟩
  split
  ·rename_i h4
   refine⟨l,p,rfl,aS.of am,eC.of hp hr1 hc1,λl2 H2 h2 h3 sm2=>⟨⋯,⋯,?_⟩⟩;refine loop l2 (mirror p) H2 ((aA hl).free h2) h3 ((aA hl).trans sm2) (cA hp) (by unfold turned;rw[q07 ⋯]) _ _ _ rfl rfl ?_;intro σ' H' v e hq;exact⟨v,e,hq⟩
  ·rename_i h4
   refine⟨⋯,⋯,?_⟩;refine loop l p _ hl am (aA hl) hp (by unfold turned;rw[q06 ⋯]) _ _ _ rfl rfl ?_;intro σ' H' v e hq;exact⟨v,e,hq⟩
abbrev cW:Stmt:=jn 2
def aT(H:Hp):List Addr->List Wn->Prop
 | [],[]=>True
 |b::bs,x::xs=>H b=some (.tup (x.map V.int))/\aT H bs xs
 |_,_=>False
theorem aT.same(sm:aE H H'):∀{bs:Ag} {xs:List Wn},aT H bs xs->aT H' bs xs
 | [],[],_=>trivial
 |_::_,_::_,h=>⟨sm _ _ h.1,aT.same sm h.2⟩
 | [],_::_,h=>h.elim
 |_::_,[],h=>h.elim
theorem aT.snoc{H:Hp}{x:Wn}(hb:H b=some (.tup (x.map V.int))):∀{bs:Ag} {xs:List Wn},aT H bs xs->aT H (bs++[b]) (xs++[x])
 | [],[],_=>⟨hb,trivial⟩
 |_::_,_::_,h=>⟨h.1,aT.snoc hb h.2⟩
 | [],_::_,h=>h.elim
 |_::_,[],h=>h.elim
theorem aT.get:∀{bs:Ag} {xs:List Wn} {i:Nat} {b:Addr},aT H bs xs->bs[i]?=some b->∃x,xs[i]?=some x/\H b=some (.tup (x.map V.int))
 | [],_,_,_,_,e=>by simp at e
 |c::bs,x::xs,0,b,h,e=>by simp at e;subst e;exact⟨x,rfl,h.1⟩
 |c::bs,x::xs,i+1,b,h,e=>by
  obtain⟨y,h1,h2⟩:=aT.get (i:=i) h.2 (by simpa using e);exact⟨y,by simpa using h1,h2⟩
 |_::_,[],_,_,h,_=>h.elim
theorem aT.length:∀{bs:Ag} {xs:List Wn},aT H bs xs->bs.length=xs.length
 | [],[],_=>rfl
 |_::_,_::_,h=>by simp[aT.length h.2]
 | [],_::_,h=>h.elim
 |_::_,[],h=>h.elim
inductive dI(vs:List V)(H:Hp)(Q:VK)(_E:XK):Prop
 |mk (r c:Nat) (_:vs=[.int (r:Int),.int (c:Int)]) (_:r<=8) (_:c<=8) (_:∀(l:Addr) (bs:Ag) (H':Hp),H l=none->H' l=some (.lst (bs.map V.ref))->aT H' bs (dW r c)->aE H H'->Q (.ref l) H')
theorem gJ:aV ["rows","columns","windows","top","left","bottom","right"] ["rows","columns"] (av cW):=by walk_at "c"
structure cL(H H':Hp)(l:Addr)(xs:List Wn)(n:Nat):Prop where
 ex:∃bs:List Addr,H' l=some (.lst (bs.map V.ref))/\aT H' bs xs/\bs.length<=n
 sm:aE H H'
theorem cL.more{m:Nat}(h:cL H H' l xs n)(hm:n<=m):cL H H' l xs m:=
 ⟨let ⟨bs,h1,h2,h3⟩:=h.ex;⟨bs,h1,h2,xz h3 hm⟩,h.sm⟩
theorem cL.snoc{H H':Hp}{x:Wn}{n:Nat}{bs:Ag}(hl:H l=none)(h1:H' l=some (.lst (bs.map V.ref)))(h2:aT H' bs xs)(h3:bs.length<=n)(sm:aE H H')(hp:H' p=none) :
  cL H (aR (aR H' p (.tup (x.map V.int))) l (.lst (bs.map V.ref++[V.ref p]))) l (xs++[x]) (n+1):=by
 have d:p≠l:=λe=>by rw[e,h1]at hp;cases hp
 refine⟨⟨bs++[p],?_,?_,by rw[xo,List.length_singleton];omega⟩,bw (bw sm (sm.free hp)) hl⟩
 ·rw[am,xa];rfl
 ·refine aT.snoc (by rw[ar d,am]) ?_
  -- no tuple is the list
  have g:∀{b:Ag} {a:List Wn},aT H' b a->aT (aR (aR H' p (.tup (x.map V.int))) l (.lst (bs.map V.ref++[V.ref p]))) b a:=by
   intro b
   induction b with
   |nil=>intro a h;cases a with
    |nil=>trivial
    |cons _ _=>exact h.elim
   |cons c b ih=>
    intro a h;cases a with
    |nil=>exact h.elim
    |cons y a=>
     have f:c≠l:=gr h.1 h1 (by intro z;cases z);exact⟨by rw[ar f,ar (aw h.1 hp)];exact h.1,ih h.2⟩
  exact g h2
theorem gH(F:fM K "windows_of" "windows_of" cW f fd)(nb:NB mg):↑bH 1 f fd ["rows","columns"] dI:=by
 have sc:=gJ;walk_at "f"
 ·obtain⟨r,c,rfl,hr1,hc1,q⟩:=h
  refine⟨_,(ai (q01 2 sc.nd (kU ae))
   (ai (bo PassesOwn.never rfl (aQ rfl nb.range (ac (aC 0) ae)) (q02 3 sc.nd)
   (ao (bo PassesOwn.never rfl (aQ rfl nb.range (ac (aC 1) ae)) (q02 4 sc.nd)
   (ao (bo PassesOwn.never rfl (dz rfl nb.range (ac (au (bn.m0 bj) (aC 3) aj) (ac (au (bn.m0 bj) (aC 0) aj) ae))) (q02 5 sc.nd)
   (ao (bo PassesOwn.never rfl (dz rfl nb.range (ac (au (bn.m0 bj) (aC 4) aj) (ac (au (bn.m0 bj) (aC 1) aj) ae))) (q02 6 sc.nd)
   (ao (fN (ij PySem.F.plainAttrs_list PySem.F.slot_list_append PySem.F.type_list_append cV (aC 2) (ac (lv (ac (aC 3) (ac (aC 4) (ac (aC 5) (ac (aC 6) ae))))) ae)))))))))))
   (ao (bg (aC 2))))),?_⟩
  ext;refine⟨aZ ⋯,λl y=>⟨⋯,⋯,?_⟩⟩;rw[w8];refine aL (lo:=0) (n:=r) (λt σ H1=>t<=r/\cL H H1 l (W1 r c t) (t*1000)/\∃j g d b,σ=[some (V.int r),some (V.int c),some (V.ref l),j,g,d,b])
   ⟨xq _,⟨⟨[],am,trivial,xq _⟩,aA y⟩,_,_,_,_,rfl⟩ ?_ ?_
  ·rintro t σ H1 I ⟨_,G,j,g,d,b,rfl⟩
   ext;refine⟨⋯,⋯,?_⟩;rw[w8];refine aL (lo:=0) (n:=c) (λa σ H2=>a<=c/\cL H H2 l (W1 r c t++W2 r c t a) (t*1000+a*100)/\∃g d b,σ=[some (V.int r),some (V.int c),some (V.ref l),some (V.int t),g,d,b])
    ⟨xq _,by show cL H H1 l (W1 r c t++[]) _;rw[xC];exact G.more ⋯,_,_,_,rfl⟩ ?_ ?_
   ·rintro a σ H2 x ⟨_,u,g,d,b,rfl⟩
    ext;refine⟨⋯,⋯,⋯,⋯,?_⟩;rw[show((r:Int)+1-((t:Int)+1)).toNat=r-t by omega];refine aL (lo:=(t:Int)+1) (n:=r-t) (λbt σ i=>bt<=r-t/\cL H i l (W1 r c t++W2 r c t a++W3 c t a bt) (t*1000+a*100+bt*10)/\∃d b,σ=[some (V.int r),some (V.int c),some (V.ref l),some (V.int t),some (V.int a),d,b])
     ⟨xq _,by show cL H H2 l (W1 r c t++W2 r c t a++[]) _;rw[xC];exact u.more ⋯,_,_,rfl⟩ ?_ ?_
    ·rintro bt σ i z ⟨_,o,d,b,rfl⟩
     ext;refine⟨⋯,⋯,⋯,⋯,?_⟩;rw[show((c:Int)+1-((a:Int)+1)).toNat=c-a by omega];refine aL (lo:=(a:Int)+1) (n:=c-a) (λk σ B=>k<=c-a/\cL H B l (W1 r c t++W2 r c t a++W3 c t a bt++W4 t a (t+1+bt) k) (t*1000+a*100+bt*10+k)/\∃b,σ=[some (V.int r),some (V.int c),some (V.ref l),some (V.int t),some (V.int a),some (V.int ((t:Int)+1+bt)),b])
      ⟨xq _,by show cL H i l (W1 r c t++W2 r c t a++W3 c t a bt++[]) _;rw[xC];exact o.more ⋯,_,rfl⟩ ?_ ?_
     ·rintro k σ B L ⟨_,m,b,rfl⟩
      obtain⟨⟨bs,h1,h2,D⟩,v⟩:=m;ext;refine⟨.inl ⟨rfl,_,aS.of h1⟩,aZ ⋯,λp C=>⟨_,by rw[ar (aw h1 C)];exact h1,?_,L,?_⟩⟩
      ·rw[wT];exact a_ ⋯
      ·rw[rD,<- xD]
       have e:[V.int (t:Int),V.int (a:Int),V.int ((t:Int)+1+(bt:Int)),V.int ((a:Int)+1+(k:Int))]=(wn t a (t+1+bt) (a+1+k)).map V.int:=by unfold wn;simp
       rw[e];exact cL.snoc y h1 h2 D v C
     ·rintro σ B ⟨_,m,b,rfl⟩
      refine⟨z,?_,_,_,rfl⟩;rw[qW,<- xD];exact m.more ⋯
    ·rintro σ i ⟨_,o,d,b,rfl⟩
     refine⟨x,?_,_,_,_,rfl⟩;rw[rK,<- xD];exact o.more ⋯
   ·rintro σ H2 ⟨_,u,g,d,b,rfl⟩
    refine⟨I,?_,_,_,_,_,rfl⟩;rw[rA];exact u.more ⋯
  ·rintro σ H1 ⟨_,⟨⟨bs,h1,h2,D⟩,v⟩,j,g,d,b,rfl⟩
   ext;exact q l bs H1 y h1 h2 v
abbrev eR:Stmt:=jn 3
inductive pd(K:W.Frag)(vs:List V)(H:Hp)(Q:VK)(_E:XK):Prop
 |mk (a tp:Addr) (p:aO) (r c t l b x:Nat) (_:vs=[.ref a,.ref tp]) (_:aS K H a (ak p)) (_:fq K H tp ((wn t l b x).map V.int)) (_:bG p r c) (_:r<=64) (_:c<=64) (_:t<b) (_:b<=r) (_:l<x) (_:x<=c) (_:di H (eF p t l b x) Q)
theorem kJ:aV ["picture","window","top","left","bottom","right"] ["picture","window"] (av eR):=by walk_at "c"
theorem jV{row:Ad}{l x:Nat}(h1:l<=x)(h2:x<=row.length):Txt.slice (tx row) (some (l:Int)) (some (x:Int))=tx ((row.drop l).take (x-l)):=by
 rw[nj,HT.sIx_nat,HT.sIx_nat,xU (show l<=row.length by omega),xU h2]
theorem jH{p:aO}{t b:Nat}(h1:t<=b)(h2:b<=p.length):nh (ak p) (some (t:Int)) (some (b:Int))=ak ((p.drop t).take (b-t)):=by
 unfold nh;rw[HT.sIx_nat,HT.sIx_nat,ag,xU (show t<=p.length by omega),xU h2];unfold ak;rw[List.map_take,List.map_drop]
theorem lA(F:fM K "cut_out" "cut_out" eR f fd)(nb:NB mg):↑bH 1 f fd ["picture","window"] (pd K):=by
 have sc:=kJ;walk_at "f"
 ·obtain⟨a,tp,p,r,c,t,l,b,x,rfl,R,u,L,hr1,hc1,h1,h2,h3,h4,q⟩:=h
  refine⟨_,(ai (q01 2 sc.nd (bC fP (aC 1) aj (λ_ _=>rfl)))
   (ai (aB (i:=3) sc.nd rfl (Or.inr rfl) (bC fP (aC 1) aj (λ_ _=>rfl)))
   (ai (q01 4 sc.nd (bC fP (aC 1) aj (λ_ _=>rfl)))
   (ai (aB (i:=5) sc.nd rfl (Or.inr rfl) (bC fP (aC 1) aj (λ_ _=>rfl)))
   (ao (bg (bY ["row"] [3,5] rfl (bf.of (by kernel_rfl)) (by kernel_rfl) (b6 (d6 l8 (aC 0) (b0 (aC 2)) (b0 (aC 4))))
    (λ_ _ _ _=>(aG (i:=0) (by show(["row","left","right"]:List Str).Nodup;decide +kernel) rfl (Or.inl rfl))) (λ_ _ _ _=>bN) (λ_ _ _ _=>(d6 nW (aC 0) (b0 (aC 1)) (b0 (aC 2))))))))))),?_⟩
  ext;refine⟨_,u,V.int t,aW (j:=0) rfl,_,u,V.int l,aW (j:=1) rfl,_,u,V.int b,aW (j:=2) rfl,_,u,V.int x,aW (j:=3) rfl,_,rfl,_,rfl,_,R,λG B=>⟨⟨_,aS.of am⟩,?_⟩⟩;rw[jH ⋯ (by rw[L.1];omega)];have I:∀e∈(p.drop t).take (b-t),e.length=c:=λe g=>L.2 e (q0I (q0H g));have m:((p.drop t).take (b-t)).length<=64:=by rw[xG];omega
  generalize C:(p.drop t).take (b-t)=q0 at I m ⊢;have D:aE H (aR H G (HO.lst (ak q0))):=aA B;refine cS (xs:=ak q0) (λi d σ k=>k=aR H G (HO.lst (ak q0))/\d=ak ((q0.take i).map λe=>(e.drop l).take (x-l))/\i<=q0.length/\∃y,σ=[y,some (V.int l),some (V.int x)]) ⟨rfl,rfl,xq _,_,rfl⟩ ?_ ?_ ?_ ?_ ?_
  ·rintro i d σ k ⟨_,rfl,O,_⟩
   rw[ag,wT,xG];exact a_ ⋯
  ·rintro i d σ k ⟨_,_,h,_⟩
   rw[ag];exact h
  ·rintro i d σ k ⟨rfl,_⟩
   exact aS.of am
  ·rintro i v d σ k z ⟨rfl,rfl,O,y,rfl⟩
   have o:i<q0.length:=by have:=(wR.mp z).1;rwa [ag]at this
   rw[bp o]at z;cases z;have g:=I _ (w6 o);ext;refine⟨by rw[al];exact aZ ⋯,?_,o⟩;rw[jV ⋯ ⋯,q0E,wQ o,xa];exact(bF _ _).symm
  ·rintro d σ k ⟨rfl,rfl,_⟩ M n
   rw[ag,xF];refine q M _ (D.free n) ?_ (D.trans (aA n));rw[am];unfold eF;rw[C]
abbrev jc:Stmt:=jn 1
theorem sV(x:Str):x=tx x.cps.toList:=by unfold tx;simp
theorem rJ(p:aO):Txt.join (Str.ofString "/") (p.map tx)=tx (SpM.glue 47 p):=by
 have e:(Txt.join (Str.ofString "/") (p.map tx)).cps.toList=SpM.glue 47 p:=by
  have h:=SpM.join_glue 47 (p.map tx);rw[xc]at h;have a:((λy:Str=>y.cps.toList)∘tx)=id:=by funext r;exact cf r
  rw[a,List.map_id]at h;exact h
 rw[<- e];exact sV _
inductive jA(K:W.Frag)(vs:List V)(H:Hp)(Q:VK)(_E:XK):Prop
 |mk (a:Addr) (p:aO) (_:vs=[.ref a]) (_:H a=some (.lst (ak p))) (_:eC p) (_:Q (.str (tx (SpM.glue 47 p))) H)
theorem oA:aV ["picture"] ["picture"] (av jc):=by walk_at "c"
theorem iz:∀{p:aO} {n:Nat},(∀r∈p,r.length<=n)->((p.map tx).map λy:Str=>y.length).sum<=p.length*n
 | [],n,_=>by simp
 |r::p,n,h=>by
  have h1:=h r (by simp);have h2:=iz (p:=p) (n:=n) λx hx=>h x (by simp[hx]);simp only[xy,List.sum_cons,al,w_];rw[Nat.succ_mul];omega
theorem oE(F:fM K "shown" "shown" jc f fd):↑bH 1 f fd ["picture"] (jA K):=by
 have sc:=oA;walk_at "f"
 ·obtain⟨a,p,rfl,c,b,q⟩:=h
  refine⟨_,(ao (bg (@oQ _ _ _ _ _ _ _ _ (ac (aC 0) ae) rfl rfl))),?_⟩;ext;refine⟨rfl,p.map tx,.inl (by rw[<- bW];exact aS.of c),?_,?_⟩
  ·have:=iz b.2
   have h1:=b.1;have d:(Str.ofString "/").length=1:=rfl;rw[wT,d];have h2:p.length*64<=64*64:=Nat.mul_le_mul_right _ h1;omega
  ·rw[rJ];exact q
abbrev bQ:Stmt:=jn 11
def mx(ss:Ak):Prop:=ss≠[]/\(ss.headD ⟨#[]⟩).length<=64
inductive bO(K:W.Frag)(vs:List V)(H:Hp)(Q:VK)(_E:XK):Prop
 |mk (a:Addr) (ss:Ak) (_:vs=[.ref a]) (_:aS K H a (ss.map V.str)) (_:mx ss) (_:∀t,H t=none->Q (.ref t) (aR H t (.tup [.int (cB ss),.ref a])))
theorem dQ:aV ["picture"] ["picture"] (av bQ):=by walk_at "c"
theorem bP(K:W.Frag):∀l ss H Q E,aS K H l (ss.map V.str)->mx ss->(∀t,H t=none->Q (.ref t) (aR H t (.tup [.int (cB ss),.ref l])))->bO K [.ref l] H Q E:=λl ss H Q E h1 h2 h3=>⟨l,ss,rfl,h1,h2,h3⟩
theorem dP(F:fM K "cells_then_rows" "cells_then_rows" bQ f fd)(nb:NB mg):↑bH 1 f fd ["picture"] (bO K):=by
 have sc:=dQ;walk_at "f"
 ·obtain⟨a,c,rfl,b,e,q⟩:=h
  refine⟨_,(ao (bg (lv (ac (au (bn.m1 dy) (az aX rfl nb.len aY (ac (aC 0) ae)) (az aP rfl nb.len aY (ac (bC br (aC 0) aj (λ_ _=>rfl)) ae))) (ac (aC 0) ae))))),?_⟩;ext;obtain⟨g,h1⟩:=e;obtain⟨z,c,rfl⟩:=List.exists_cons_of_ne_nil g;have h2:z.length<=64:=h1;have h3:((z.length:Nat):Int)<=64:=by omega
  refine⟨_,b,_,b,_,aW (j:=0) rfl,z,rfl,aZ ⋯,.inr ⟨⋯,⋯⟩,aZ ⋯,λp d=>?_⟩;have:=q p d;unfold cB at this;rw[wT];exact this
theorem aF{a b:TS}{D:cT}{σ:St}(h:∀N:St->Hp->Prop,(∀σ2 H2,b D σ2 H2->N σ2 H2)->a {D with nx:=N} σ H):rB a b D σ H:=h (b D) λ_ _ z=>z
abbrev eZ:Stmt:=jn 10
inductive gu(K:W.Frag)(vs:List V)(H:Hp)(Q:VK)(_E:XK):Prop
 |mk (a:Addr) (p:aO) (r c:Nat) (_:vs=[.ref a]) (_:aS K H a (ak p)) (_:bG p r c) (_:0<r) (_:0<c) (_:r<=6) (_:c<=6) (_:a0 p) (_:∀(H':Hp) (l:Addr) (zs:List AP),aE H H'->H l=none->H' l=some (.lst (zs.map λz=>V.ref z.1))->(∀z∈zs,H z.1=none/\H' z.1=some (.lst (ak z.2)))->(zs.map (·.1)).Nodup->m5 p r c (zs.map (·.2))->zs.length<=8000->Q (.ref l) H')
theorem aT.dict{H:Hp}(hd:H d=some (.dK kvs)):∀{bs:Ag} {xs:List Wn},aT H bs xs->aT (aR H d o) bs xs
 | [],[],_=>trivial
 |_::_,_::_,h=>⟨by rw[ar (gr h.1 hd (by intro e;cases e))];exact h.1,aT.dict hd h.2⟩
 | [],_::_,h=>h.elim
 |_::_,[],h=>h.elim
theorem lu:aV ["picture","found","window","part","t","seen"] ["picture"] (av eZ):=by walk_at "c"
theorem lm(F:fM K "seen_in" "seen_in" eZ f fd)(nb:NB mg){tkT:Tok}(yah:mg "TURNINGS"=some (.int 8 tkT))(yag:↑gN 1 "windows_of" ["rows","columns"] dI)(yad:↑gN 1 "cut_out" ["picture","window"] (pd K))(zga:↑gN 3 "turned" ["picture","t"] (g8 K))(yaf:↑gN 1 "shown" ["picture"] (jA K))(yae:↑gN 1 "cells_then_rows" ["picture"] (bO K)):↑bH 4 f fd ["picture"] (gu K):=by
 have sc:=lu;have bP:=bP K;walk_at "f"
 ·obtain⟨a,p,r,c,rfl,hS,hp,b2,e7,e0,e6,e2,q⟩:=h
  have hu:=hr.units;refine⟨_,(ai (q01 1 sc.nd nX)
   (ai (bo PassesOwn.never rfl (b6 (bh yag (hr.mono nofun) rfl bI (ac (az aX rfl nb.len aY (ac (aC 0) ae)) (ac (az aP rfl nb.len aY (ac (bC br (aC 0) aj (λ_ _=>rfl)) ae)) ae)))) (q02 2 sc.nd)
   (ai (q01 3 sc.nd (bh yad (hr.mono nofun) rfl bI (ac (aC 0) (ac (aC 2) ae))))
   (ao (bo PassesOwn.never rfl (aQ rfl nb.range (ac (lV (v:=.int 8) rfl yah ⟨_,rfl⟩) ae)) (q02 4 sc.nd)
   (ai (q01 5 sc.nd (bh zga (hr.mono nofun) rfl bI (ac (aC 3) (ac (aC 4) ae))))
   (ao (qB (xK (xO (by decide:1<=64) _) hu) (aC 1) (bh yaf (hr.mono nofun) rfl bI (ac (aC 5) ae)) (aC 5) rfl)))))))
   (ao (bg (m7 (hr.mono nofun) rfl rfl nb.sorted yae rfl bP (ac (qt (aC 1) rfl rfl) ae)))))),?_⟩
  ext;intro d hd;have a2:aE H (aR H d (HO.dK [])):=aA hd;obtain⟨e3,M⟩:=gA hp b2;refine⟨_,a2.seq hS,_,a2.seq hS,_,aW (j:=0) (bp e3),_,rfl,by rw[al,M];exact aZ ⋯,?_⟩;rw[ag,hp.1,al,M];refine⟨r,c,rfl,⋯,⋯,λwl bs H1 hwl L b1 a6=>?_⟩;have a3:=qC b2 e0 e7 e6;have hlen:(dW r c).length<=1000:=by unfold check at a3;simp only[q0O,q0a]at a3;exact a3.2
  have f1:=b1.length;have a7:=a2.trans a6;refine⟨_,rfl,⟨_,aS.of L⟩,?_⟩
  -- the windows
  refine nU (xs:=bs.map V.ref) (λi σ H2=>i<=bs.length/\(∃T,cu H H2 d (λx=>∃j,j<i/\∃u,u<8/\x=turned (rh p ((dW r c).getD j [])) u) T (8*i))/\H2 wl=some (.lst (bs.map V.ref))/\aT H2 bs (dW r c)/\∃x2 x3 Y U,σ=[some (V.ref a),some (V.ref d),x2,x3,Y,U]) ?_ ?_ ?_ ?_
  ·refine⟨xq _,⟨[],?_⟩,L,b1,_,_,_,_,rfl⟩
   exact⟨by rw[a6 _ _ am];rfl,a7,hd,(λz hz=>nomatch hz),List.nodup_nil,List.nodup_nil,λx=>by simp,xq _⟩
  ·rintro i σ H2 _ ⟨_,_,h,_⟩
   exact aS.of h
  ·rintro i x σ H2 hx ⟨_,⟨T,S⟩,a4,C,x2,x3,Y,U,rfl⟩
   rw[wV]at hx;cases G:bs[i]? with
   |none=>rw[G]at hx;cases hx
   |some bt=>
    rw[G]at hx;cases hx
    have hi:i<bs.length:=(wR.mp G).1;obtain⟨w0,a9,c2⟩:=C.get G;obtain⟨t,l,b,x,rfl,h1,h2,h3,h4⟩:=gy.mp (wW a9);ext;refine⟨a,bt,p,r,c,t,l,b,x,rfl,S.sm.seq hS,fq.of c2,hp,⋯,⋯,h1,h2,h3,h4,λpl H3 b4 b3 a1=>⟨⋯,?_⟩⟩;have c1:=gn hp h1 h2 h3 h4;have S3:=S.same a1;have d1:=a1 _ _ a4;have d4:=C.same a1;have hpl0:=S.sm.free b4;clear S b4 a4 C c2;have eW:(dW r c).getD i []=wn t l b x:=by rw[q0A,a9];rfl
    have e8:Int.toNat 8=8:=rfl;rw[e8];refine aL (lo:=0) (n:=8) (λu σ H4=>(∃T,cu H H4 d (λy=>(∃j,j<i/\∃u,u<8/\y=turned (rh p ((dW r c).getD j [])) u)\/∃k,k<u/\y=turned (eF p t l b x) k) T (8*i+u))/\H4 pl=some (.lst (ak (eF p t l b x)))/\H4 wl=some (.lst (bs.map V.ref))/\aT H4 bs (dW r c)/\∃Y U,σ=[some (V.ref a),some (V.ref d),some (V.ref bt),some (V.ref pl),Y,U]) ?_ ?_ ?_
    ·exact⟨⟨T,S3.congr λy=>⟨.inl,λz=>z.elim id λ⟨k,d3,_⟩=>q0Q d3 (Nat.not_lt_zero _)⟩⟩,b3,d1,d4,_,_,rfl⟩
    ·rintro u σ H4 d2 ⟨⟨o,R⟩,D,B,a5,Y,U,rfl⟩
     ext;refine⟨pl,eF p t l b x,b-t,x-l,u,by simp,aS.of D,c1,⋯,⋯,⋯,⋯,d2,λbq H5 f0 O m=>?_⟩;obtain⟨o1,o2,r',c',o3,o4,o5,o6,o7⟩:=iV (u:=u) hp e2 h1 h2 h3 h4;have d5:eC (turned (eF p t l b x) u):=eC.of o3 ⋯ ⋯;have e5:((turned (eF p t l b x) u).headD []).length<=64:=by rw[ci o3 o4];omega
     obtain⟨e1,S5⟩:=R.step m f0 O o1 o2 e5;refine⟨bq,turned (eF p t l b x) u,rfl,O,d5,aR H5 d (.dK ((e_ o (bq,turned (eF p t l b x) u)).map dE)),.inl ⟨o.map dE,_,m _ _ R.tbl,rfl,by rw[wT];exact a_ (by have:=R.len;omega),by rw[e1]⟩,⟨_,S5.congr λy=>?_⟩,?_,?_,(a5.same m).dict (m _ _ R.tbl)⟩
     ·constructor
      ·rintro((z | ⟨k,I,g⟩) | z)
       ·exact .inl z
       ·exact .inr ⟨k,⋯,g⟩
       ·exact .inr ⟨u,⋯,z⟩
      ·rintro(z | ⟨k,I,g⟩)
       ·exact .inl (.inl z)
       ·by_cases hq:k=u
        ·exact .inr (by rw[g,hq])
        ·exact .inl (.inr ⟨k,⋯,g⟩)
     ·rw[ar (gr D R.tbl (by intro e;cases e))];exact m _ _ D
     ·rw[ar (gr B R.tbl (by intro e;cases e))];exact m _ _ B
    ·rintro σ H4 ⟨⟨o,R⟩,D,B,a5,Y,U,rfl⟩
     refine⟨hi,⟨o,R.congr λy=>?_⟩,B,a5,_,_,_,_,rfl⟩
     constructor
     ·rintro(⟨j,I,g⟩ | ⟨k,I,g⟩)
      ·exact⟨j,⋯,g⟩
      ·exact⟨i,⋯,k,I,by rw[eW,fR];exact g⟩
     ·rintro⟨j,I,k,g,z3⟩
      by_cases hq:j=i
      ·rw[hq,eW,fR]at z3
       exact .inr ⟨k,g,z3⟩
      ·exact .inl ⟨j,⋯,k,g,z3⟩
  ·rintro σ H2 ⟨_,⟨T,S⟩,a4,C,x2,x3,Y,U,rfl⟩
   ext;refine⟨_,S.tbl,λv hv=>⟨d,am,T.map tJ,?_,?_,?_⟩⟩
   ·rw[ar (aw S.tbl hv),S.tbl,xc];rfl
   ·intro e he
    obtain⟨z,hz,rfl⟩:=xM.mp he;obtain⟨I,g,z3,z4,z5⟩:=S.each z hz;refine⟨?_,?_,?_⟩
    ·refine aS.of ?_
     show aR H2 v (jB v d) z.1=some (.lst ((z.2.map tx).map V.str));rw[ar (aw g hv),g,bW]
    ·show z.2.map tx≠[]
     exact λe=>z3 (List.map_eq_nil_iff.mp e)
    ·show((z.2.map tx).headD ⟨#[]⟩).length<=64
     rw[lM];exact z5
   ·intro es pe se H' l' a8 e4 c0
    obtain⟨ws,pw,rfl⟩:=eB pe _ rfl;have Z:aE H2 (aR H2 v (jB v d)):=aA hv;refine q H' l' ws (S.sm.trans (Z.trans a8)) (S.sm.free (Z.free e4)) ?_ ?_ ?_ ?_ (by have h1:=S.len;have h2:=pw.length_eq;rw[wT]at h1;omega)
    ·rw[c0,xc];rfl
    ·intro z hz
     obtain⟨I,g,_⟩:=S.each z (pw.mem_iff.mp hz);exact⟨I,a8 _ _ (Z _ _ g)⟩
    ·exact(pw.map _).nodup_iff.mpr S.nda
    ·refine⟨λy=>?_,nq se ((pw.map _).nodup_iff.mpr S.ndp)⟩
     rw[(pw.map _).mem_iff,S.mem,nB,wT,f1]
abbrev gz:Stmt:=jn 13
inductive fe(K:W.Frag)(vs:List V)(H:Hp)(Q:VK)(_E:XK):Prop
 |mk (a:Addr) (ns:List Int) (k:Nat) (_:vs=[.ref a,.int (k:Int)]) (_:aS K H a (ns.map V.int)) (_:k<=1000) (_:∀c:Int,Q (.int c) H)
theorem nt:aV ["_law_script","_law_k","_law_cell_here","_law_mixed"] ["_law_script","_law_k"] (av gz):=by walk_at "c"
theorem mP(F:fM K "_law_cell" "_law_cell" gz f fd)(nb:NB mg):↑bH 1 f fd ["_law_script","_law_k"] (fe K):=by
 have sc:=nt;walk_at "f"
 ·obtain⟨a,ns,k,rfl,hS,hk,q⟩:=h
  refine⟨_,(ai (q01 2 sc.nd aj)
   (ai (dH (cM (bn.m0 si) (az aX rfl nb.len aY (ac (aC 0) ae)) aj (c4 _))
   (ao (q01 2 sc.nd (bC br (aC 0) (au (bn.m1 bx) (aC 1) (az aX rfl nb.len aY (ac (aC 0) ae))) (λ_ _=>rfl))))
   ca)
   (ai (q01 3 sc.nd (au (bn.m1 bx) (au (bn.m1 dy) (au (bn.m0 bj) (au (bn.m0 bj) (au (bn.m1 bx) (aC 2) aj) (au (bn.m1 dy) aj (aC 1))) aj) aj) aj))
   (ao (bg (au (bn.m0 bj) (au (bn.m1 dy) (au (bn.m1 bR) (aC 2) aj) aj) (au (bn.m1 bx) (au (bn.m0 bj) (au (bn.m1 dy) (aC 3) aj) (aC 1)) aj))))))),?_⟩
  ext;refine⟨_,hS,?_⟩;rw[wT]
  split
  ·rename_i hlt
   have h0:0<=(k:Int)%(ns.length:Int):=xR _ ⋯;have h1:(k:Int)%(ns.length:Int)<ns.length:=xS _ ⋯;obtain⟨j,hj⟩:∃j:Nat,(k:Int)%(ns.length:Int)=(j:Int):=⟨_,(xT h0).symm⟩;have hj2:j<ns.length:=by omega
   refine⟨_,hS,by rw[wT];omega,_,hS,V.int ns[j],?_,_,rfl,_,rfl,q _⟩;rw[wT,hj];exact aW (by rw[wV,wQ hj2];rfl)
  ·exact q _
theorem mX:(Str.ofString "abcdefghijklmnopqrstuvwxyz").cps.toList=(List.range 26).map (97 + ·):=by decide +kernel
structure uM(r:Ad):Prop where
 sm:∀x∈r,97<=x/\x<123
 nd:r.Nodup
theorem hJ{α β:Type}(f:α->β):∀(l:List α) (k:Nat),(l.map f).eraseIdx k=(l.eraseIdx k).map f
 | [],_=>rfl
 |_::_,0=>rfl
 |x::l,k+1=>q0R (f x :: ·) (hJ f l k)
theorem tZ(r s:Ad):tx r++tx s=tx (r++s):=by
 show(⟨r.toArray++s.toArray⟩:Str)=⟨(r++s).toArray⟩;simp
theorem gx{α:Type}:∀(l:List α) (k:Nat) (x:α),l[k]?=some x->(x::l.eraseIdx k).Perm l
 | [],_,_,e=>nomatch e
 |y::l,0,x,e=>by cases e;exact List.Perm.refl _
 |y::l,k+1,x,e=>(List.Perm.swap y x _).trans ((gx l k x e).cons y)
theorem uM.pop{r pl:Ad}{k ch:Nat}(h:uM (r++pl))(e:pl[k]?=some ch):uM ((r++[ch])++pl.eraseIdx k):=by
 have a:(r++[ch]++pl.eraseIdx k).Perm (r++pl):=by
  rw[xD];exact(gx pl k ch e).append_left r
 exact⟨λx b=>h.sm x (a.mem_iff.mp b),a.nodup_iff.mpr h.nd⟩
abbrev e9:Stmt:=jn 14
inductive gi(vs:List V)(H:Hp)(Q:VK)(_E:XK):Prop
 |mk (c:Int) (_:vs=[.int c,.int 4]) (_:∀(r:Ad) (H':Hp),(∀x∈r,97<=x/\x<123)->1<=r.length->r.length<=4->aE H H'->Q (.str (tx r)) H')
theorem kR:aV ["_law_cell_here","_law_most","_law_pool","_law_rest","_law_signs_here","_law_k"] ["_law_cell_here","_law_most"] (av e9):=by walk_at "c"
theorem lw(F:fM K "_law_signs" "_law_signs" e9 f fd)(nb:NB mg):↑bH 1 f fd ["_law_cell_here","_law_most"] gi:=by
 have sc:=kR;walk_at "f"
 ·obtain⟨c,rfl,q⟩:=h
  refine⟨_,(ai (q01 2 sc.nd (cO (k8 rfl) rfl nb.list dC (ac dO ae)))
   (ai (q01 3 sc.nd (au (bn.m1 bR) (aC 0) aj))
   (ai (q01 4 sc.nd dO)
   (ai (bo PassesOwn.never rfl (aQ rfl nb.range (ac (au (bn.m0 bj) aj (au (bn.m1 bx) (au (bn.m1 bx) (aC 0) aj) (aC 1))) ae)) (q02 5 sc.nd)
   (ai (q01 4 sc.nd (au dU (aC 4) (ij PySem.F.plainAttrs_list PySem.F.slot_list_pop PySem.F.type_list_pop qd (aC 2) (ac (au (bn.m1 bx) (aC 3) (az aX rfl nb.len aY (ac (aC 2) ae))) ae))))
   (ao (q01 3 sc.nd (au (bn.m1 bR) (aC 3) (au (bn.m0 bj) (az aX rfl nb.len aY (ac (aC 2) ae)) aj))))))
   (ao (bg (aC 4))))))),?_⟩
  symm;refine⟨by decide +kernel,λd l=>h1 _ _ ?_⟩;clear h1;rw[mX];have D:=aA (o:=.lst (((List.range 26).map (97 + ·)).map λc=>V.str ⟨#[c]⟩)) l;have B:aR H d (.lst (((List.range 26).map (97 + ·)).map λc=>V.str ⟨#[c]⟩)) d=some (.lst (((List.range 26).map (97 + ·)).map λc=>V.str ⟨#[c]⟩)):=am;generalize aR H d (.lst (((List.range 26).map (97 + ·)).map λc=>V.str ⟨#[c]⟩))=H1 at D B ⊢;have L:uM ((List.range 26).map (97 + ·)):=⟨nofun,nofun⟩;have I:((List.range 26).map (97 + ·)).length=26:=rfl;generalize(List.range 26).map (97 + ·)=p0 at B L I;symm;refine h1 _ _ ?_;clear h1;generalize c/4=re;symm;refine h1 _ _ ?_;walk_at "nc";obtain⟨m,O⟩:∃m:Nat,c%4%4=(m:Int):=⟨_,(xT (xR _ ⋯)).symm⟩;have m2:m<4:=by omega
  rw[O,show(1+(m:Int)).toNat=1+m by omega];refine⟨⋯,⋯,?_⟩;refine aL (lo:=0) (n:=1+m) (λi σ e=>i<=1+m/\aE H e/\∃(a r:Ad) (b:Int) (x:Option V),e d=some (.lst (a.map λc=>V.str ⟨#[c]⟩))/\a.length+i=26/\r.length=i/\uM (r++a)/\σ=[some (V.int c),some (V.int 4),some (V.ref d),some (V.int b),some (V.str (tx r)),x]) ⟨⋯,D,p0,[],re,none,B,I,rfl,L,rfl⟩ ?_ ?_
  ·rintro i σ e hi ⟨ii,sm,a,r,b,x,u,j,G,y,rfl⟩
   symm;have S:0<=b%(a.length:Int):=xR _ ⋯;have hl:b%(a.length:Int)<a.length:=xS _ ⋯;obtain⟨k,R⟩:∃k:Nat,b%(a.length:Int)=(k:Int):=⟨_,(xT S).symm⟩;have p:k<a.length:=by omega
   obtain⟨g,t⟩:∃g,a[k]?=some g:=⟨_,wQ p⟩;have v:seqIndex? (k:Int) a.length=some k:=by unfold seqIndex?;simp;omega
   have T:(a.map λc=>V.str ⟨#[c]⟩).eraseIdx k=(a.eraseIdx k).map λc=>V.str ⟨#[c]⟩:=hJ ..;refine⟨.inl ⟨rfl,_,aS.of u⟩,_,aS.of u,by rw[wT];omega,_,u,by rw[wT];omega,by rw[wT];omega,k,by rw[wT,R];exact v,_,by rw[wV,t];rfl,_,rfl,?_,h1 _ _ ?_⟩
   ·rw[al];exact aZ (by show _+1<=_;omega)
   clear h1;rw[T,show tx r++(⟨#[g]⟩:Str)=tx (r++[g]) from tZ r [g]];have C:aE H (aR e d (.lst ((a.eraseIdx k).map λc=>V.str ⟨#[c]⟩))):=bw sm l;have z:aR e d (.lst ((a.eraseIdx k).map λc=>V.str ⟨#[c]⟩)) d=some (.lst ((a.eraseIdx k).map λc=>V.str ⟨#[c]⟩)):=am;generalize aR e d (.lst ((a.eraseIdx k).map λc=>V.str ⟨#[c]⟩))=H2 at C z ⊢;have el:(a.eraseIdx k).length=a.length-1:=List.length_eraseIdx_of_lt p;ext;exact⟨_,aS.of z,by rw[wT];omega,by rw[wT];omega,⋯,C,a.eraseIdx k,z,⋯,r++[g],by simp[G],y.pop t,rfl⟩
  ·rintro σ e ⟨_,sm,a,r,b,x,u,j,G,y,rfl⟩
   refine h1 _ _ ?_;ext;exact q r e (λx M=>y.sm x (q0D _ M)) ⋯ ⋯ sm
abbrev dh:Stmt:=jn 17
inductive d8(K:W.Frag)(vs:List V)(H:Hp)(Q:VK)(_E:XK):Prop
 |mk (a:Addr) (p:aO) (r c:Nat) (_:vs=[.ref a]) (_:aS K H a (ak p)) (_:bG p r c) (_:0<r) (_:r<=64) (_:c<=64) (_:di H (bL p) Q)
theorem jg:aV ["_law_rows","_law_last"] ["_law_rows"] (av dh):=by walk_at "c"
theorem iR(F:fM K "_law_quarter" "_law_quarter" dh f fd)(nb:NB mg):↑bH 1 f fd ["_law_rows"] (d8 K):=by
 have sc:=jg;walk_at "f"
 ·obtain⟨a,p,r,c,rfl,I,t,o,hr1,hc1,q⟩:=h
  refine⟨_,(ai (aB (i:=1) sc.nd rfl (Or.inr rfl) (au (bn.m0 qx) (az aX rfl nb.len aY (ac (aC 0) ae)) aj))
   (ao (bg (bY ["_law_i"] [0,1] rfl (bf.of (by kernel_rfl)) (by kernel_rfl) (aQ rfl nb.range (ac (az aP rfl nb.len aY (ac (bC br (aC 0) aj (λ_ _=>rfl)) ae)) ae))
    (λ_ _ _ _=>(aG (i:=0) (by show(["_law_i","_law_rows","_law_last"]:List Str).Nodup;decide +kernel) rfl (Or.inr rfl))) (λ_ _ _ _=>bN) (λ_ _ _ _=>(@tB _ K _ _ _ _ _ _ _ rfl (ac (bY ["_law_j"] [1,2,0] rfl (bf.of (by kernel_rfl)) (by kernel_rfl) (aQ rfl nb.range (ac (az (kN (K:=K) rfl) rfl nb.len aY (ac (aC 1) ae)) ae))
    (λ_ _ _ _=>(aG (i:=0) (by show(["_law_j","_law_rows","_law_last","_law_i"]:List Str).Nodup;decide +kernel) rfl (Or.inl rfl))) (λ_ _ _ _=>bN) (λ_ _ _ _=>(bC iO (bC (oz (K:=K) rfl) (aC 1) (au (bn.m0 qx) (aC 2) (aC 0)) (λ_ _=>rfl)) (aC 3) (λ_ _=>rfl)))) ae) rfl rfl)))))),?_⟩
  have u:0<p.length:=by rw[t.1];exact o
  have G:(p[0]).length=c:=t.2 _ (w6 u);have hpl:p.length=r:=t.1;symm;refine⟨_,I,h1 _ _ ?_⟩;clear h1;rw[ag];ext;have O:jm (ak p) 0=some (V.str (tx p[0])):=(show jm _ ((0:Nat):Int)=_ from aW (bp u));refine⟨_,I,_,O,_,rfl,by rw[al];exact aZ ⋯,by rw[al];omega,by rw[al];omega,?_⟩;rw[al,G,w8];refine c7 (lo:=0) (n:=c) (λi d σ B=>aE H B/\d=ak ((List.range i).map (jt p))/\i<=c/\∃x,σ=[x,some (.ref a),some (.int ((p.length:Int)-1))]) ⟨aE.refl _,rfl,xq _,_,rfl⟩ ?_ ?_ ?_ ?_
  ·rintro i d σ B ⟨_,rfl,_⟩
   rw[ag,wT,q0J];exact a_ ⋯
  ·rintro i d σ B ⟨_,_,h,_⟩
   exact h
  ·rintro i d σ B M ⟨m,rfl,_,y,rfl⟩
   ext;have v:=m.seq I;have b:((ak p).length:Int)=(p.length:Int):=by rw[ag]
   refine⟨rfl,_,v,by rw[b];omega,by rw[b];omega,?_⟩;rw[b,w8];refine jo (n:=p.length) (f:=λj=>some (V.str ⟨#[(p.reverse.getD j []).getD i 0]⟩)) (λσ=>∃x,σ=[x,some (.ref a),some (.int ((p.length:Int)-1)),some (.int (i:Int))]) ⟨_,rfl⟩ ⋯ ?_ ?_
   ·rintro j k σ H2 M1 M0 ⟨y,rfl⟩ g L k0
    ext;have R:(p.length:Int)-1-(j:Int)=((p.length-1-j:Nat):Int):=by omega
    have D:p.length-1-j<p.length:=by omega
    have z:p.reverse.getD j []=p[p.length-1-j]:=by rw[q0A,List.getElem?_reverse k,wQ D];rfl
    have hrow:(p[p.length-1-j]).length=c:=t.2 _ (w6 D);refine⟨_,g.seq v,V.str (tx p[p.length-1-j]),by rw[R];exact aW (bp D),_,rfl,by rw[al];exact aZ ⋯,(p[p.length-1-j]).getD i 0,?_,L _ _ _ (by rw[z]) g ⟨_,rfl⟩⟩;refine aW ?_;rw[cf,q0A,wQ ⋯]
    rfl
   ·intro H2 g l C
    rw[fJ];have S:(List.range p.length).map (λj=>V.str ⟨#[(p.reverse.getD j []).getD i 0]⟩)=((jt p i).map λc=>(⟨#[c]⟩:Str)).map V.str:=by
     unfold jt;rw[xc,xc];apply List.ext_getElem?;intro j;rw[wV,wV]
     by_cases k:j<p.length
     ·rw[List.getElem?_range k,wQ (by rw[xh];exact k),Option.map_some,Option.map_some]
      show some (V.str ⟨#[(p.reverse.getD j []).getD i 0]⟩)=some (V.str ⟨#[(p.reverse[j]'(by rw[xh];exact k)).getD i 0]⟩);rw[q0A (l:=p.reverse),wQ (by rw[xh];exact k),q0L]
     ·rw[List.getElem?_eq_none (by rw[q0J];omega),List.getElem?_eq_none (by rw[xh];omega)];rfl
    rw[S];refine⟨_,.inl (aS.of am),?_,(m.trans g).trans (aA C),?_,M⟩
    ·rw[xc]
     have e:((λy:Str=>y.length)∘λc=>(⟨#[c]⟩:Str))=λ_=>1:=by funext c;rfl
     have T:(Str.ofString "").length=0:=rfl;rw[e,List.map_const',List.sum_replicate_nat,wT,T];unfold jt;rw[wT,xh];omega
    ·rw[eV,q0M,xa]
     exact(bF _ _).symm
  ·rintro d σ B ⟨m,rfl,_⟩ l C
   refine q l _ (m.free C) ?_ (m.trans (aA C));rw[am];unfold bL;rw[ci t o]
abbrev dS:Stmt:=jn 18
inductive fw(K:W.Frag)(vs:List V)(H:Hp)(Q:VK)(_E:XK):Prop
 |mk (a:Addr) (p:aO) (r c t:Nat) (_:vs=[.ref a,.int (t:Int)]) (_:H a=some (.lst (ak p))) (_:bG p r c) (_:0<r) (_:0<c) (_:r<=64) (_:c<=64) (_:t<8) (_:∀l H',H' l=some (.lst (ak (turned p t)))->aE H H'->Q (.ref l) H')
theorem kr:aV ["_law_rows","_law_t","_law_step"] ["_law_rows","_law_t"] (av dS):=by walk_at "c"
theorem jC(F:fM K "_law_turned" "_law_turned" dS f fd)(nb:NB mg)(zba:↑gN 1 "_law_quarter" ["_law_rows"] (d8 K)):↑bH 2 f fd ["_law_rows","_law_t"] (fw K):=by
 have sc:=kr;walk_at "f"
 ·obtain⟨a,p,r,c,t,rfl,hS,hp,hr0,hc0,hr1,hc1,ht,q⟩:=h
  refine⟨_,(ai (dH (cM (bn.m0 si) (aC 1) aj (c4 _))
   (ao (gF (i:=0) ["_law_row_here"] [] sc.nd rfl (Or.inl rfl) rfl  rfl (bf.of (by kernel_rfl)) (by kernel_rfl) (b6 (aC 0))
    (λ_ _ _ _=>(aG (i:=0) (by show(["_law_row_here"]:List Str).Nodup;decide +kernel) rfl (Or.inl rfl))) (λ_ _ _ _=>bN) (λ_ _ _ _=>(rF (aC 0) (r8 pS aj)))))
   ca)
   (ai (bo PassesOwn.never rfl (aQ rfl nb.range (ac (au (bn.m1 bx) (aC 1) aj) ae)) (q02 2 sc.nd)
   (ao (q01 0 sc.nd (bh zba (hr.mono nofun) rfl bI (ac (aC 0) ae)))))
   (ao (bg (aC 0))))),?_⟩
  refine aF λN2 h2=>?_;have loop:∀(l2:Addr) (p':aO) (H2:Hp) (y:Option V),H2 l2=some (.lst (ak p'))->aE H H2->bG p' r c->turned p t=aJ (t%4) p'->N2 [some (V.ref l2),some (V.int t),y] H2:=by
   intro l2 p' H2 y hH2 sm2 hp' et;refine h2 _ _ ?_;clear h2;refine aF λN3 h3=>?_;ext;refine⟨⋯,⋯,?_⟩;have e4:((t:Int)%4).toNat=t%4:=by omega
   rw[e4];refine aL (lo:=0) (n:=t%4) (λi σ H3=>∃(l3:Addr) (x:Option V),σ=[some (V.ref l3),some (V.int t),x]/\H3 l3=some (.lst (ak (aJ i p')))/\aE H H3) ⟨l2,_,rfl,hH2,sm2⟩ ?_ ?_
   ·rintro i σ H3 hi ⟨l3,x,rfl,h4,sm3⟩
    ext;have hq:=bA i hp' hr0 hc0;have gp2:∃r' c',bG (aJ i p') r' c'/\0<r'/\r'<=64/\c'<=64:=by
     by_cases ii:i%2=0
     ·rw[q07 ii,q07 ii]at hq;exact⟨r,c,hq,hr0,hr1,hc1⟩
     ·rw[q06 ii,q06 ii]at hq;exact⟨c,r,hq,hc0,hc1,hr1⟩
    obtain⟨r',c',g3,g4,g5,g6⟩:=gp2;refine⟨l3,_,r',c',rfl,aS.of h4,g3,g4,g5,g6,λl4 H4 h8 h9 sm4=>?_⟩;exact⟨l4,rfl,by rw[<- c3 1 i p'];exact h9,sm3.trans sm4⟩
   ·rintro σ H3 ⟨l3,x,rfl,h4,sm3⟩
    refine h3 _ _ ?_;ext;exact q l3 H3 (by rw[et];exact h4) sm3
  ext;have hpl:p.length=r:=hp.1
  split
  ·rename_i h4
   refine⟨⟨_,aS.of hS⟩,?_⟩;refine dR (as:=p) (emb:=λx=>V.str (tx x)) (f:=λx=>some (V.str (tx x.reverse))) (λσ=>∃x,σ=[x]) ⟨_,rfl⟩ (λH' sm=>aS.of (sm _ _ hS)) ⋯ ?_ ?_
   ·rintro i x hx σ H' M1 M0 ⟨y,rfl⟩ sm k1 k0
    ext;have hxl:x.length=c:=hp.2 x (wW hx);exact⟨x,rfl,⋯,k1 _ _ _ rfl sm ⟨_,rfl⟩⟩
   ·intro H' sm l hl
    rw[fJ];have em:p.map (λx=>V.str (tx x.reverse))=ak (mirror p):=by unfold ak mirror;rw[xc];rfl
    rw[em];refine loop l (mirror p) _ _ am (sm.trans (aA hl)) (cA hp) ?_;unfold turned;rw[q07 ⋯]
  ·rename_i h4
   refine loop a p H _ hS (aE.refl _) hp ?_;unfold turned;rw[q06 ⋯]
abbrev iJ:Stmt:=jn 15
inductive j6(vs:List V)(H:Hp)(Q:VK)(_E:XK):Prop
 |mk (c:Int) (wd:Nat) (sg:Ad) (fr:Bool) (_:vs=[.int c,.int (wd:Int),.str (tx sg),.bl fr]) (_:wd<=64) (_:0<sg.length) (_:sg.length<=64) (_:∀row:List Nat,row.length=wd->(∀x∈row,x∈sg)->Q (.str (tx row)) H)
theorem oU:aV ["_law_cell_here","_law_wide","_law_signs_here","_law_free","_law_number","_law_row_here","_law_j"] ["_law_cell_here","_law_wide","_law_signs_here","_law_free"] (av iJ):=by walk_at "c"
theorem n_(r:Ad)(x:Nat):tx r++(⟨#[x]⟩:Str)=tx (r++[x]):=by
 show(⟨r.toArray ++ #[x]⟩:Str)=⟨(r++[x]).toArray⟩;simp
theorem my(sg:Ad)(n:Int)(h:0<sg.length):∃x,x∈sg/\∃k:Nat,n%(sg.length:Int)=(k:Int)/\k<sg.length/\(tx sg).cps.toList[k]?=some x:=by
 have a:0<=n%(sg.length:Int):=xR _ ⋯;have h1:n%(sg.length:Int)<sg.length:=xS _ ⋯;have h2:(n%(sg.length:Int)).toNat<sg.length:=by omega
 exact⟨sg[(n%(sg.length:Int)).toNat],w6 h2,_,(xT a).symm,h2,by rw[cf,wQ h2]⟩
theorem qg(F:fM K "_law_row" "_law_row" iJ f fd)(nb:NB mg):↑bH 1 f fd ["_law_cell_here","_law_wide","_law_signs_here","_law_free"] j6:=by
 have sc:=oU;walk_at "f"
 ·obtain⟨c,p,d,D,rfl,hw,o,hs1,q⟩:=h
  refine⟨_,(ai (q01 4 sc.nd (aC 0))
   (ai (dH (gD (fo (aC 3) λ_=>rfl))
   (ao (q01 4 sc.nd (au (bn.m1 bx) (aC 0) aj)))
   ca)
   (ai (q01 5 sc.nd dO)
   (ai (bo PassesOwn.never rfl (aQ rfl nb.range (ac (aC 1) ae)) (q02 6 sc.nd)
   (ao (dH (fo (aC 3) λ_=>rfl)
   (ai (q01 5 sc.nd (au dU (aC 5) (bC iO (aC 2) (au (bn.m1 bx) (aC 4) (az aP rfl nb.len aY (ac (aC 2) ae))) (λ_ _=>rfl))))
   (ao (q01 4 sc.nd (au (bn.m1 bR) (aC 4) (az aP rfl nb.len aY (ac (aC 2) ae))))))
   (ai (q01 4 sc.nd (au (bn.m1 bx) (au (bn.m0 bj) (au (bn.m0 bj) (au (bn.m1 dy) (aC 4) aj) (au (bn.m1 dy) (aC 6) (aC 6))) aj) aj))
   (ao (q01 5 sc.nd (au dU (aC 5) (bC iO (aC 2) (au (bn.m1 bx) (au (bn.m1 bR) (aC 4) aj) (az aP rfl nb.len aY (ac (aC 2) ae))) (λ_ _=>rfl)))))))))
   (ao (bg (aC 5))))))),?_⟩
  symm;refine h1 _ _ ?_;walk_at "nc";have g:∀n:Int,N1 [some (V.int c),some (V.int (p:Int)),some (V.str (tx d)),some (V.bl D),some (V.int n),none,none] H:=λn=>by
   refine h1 _ _ ?_;walk_at "nc";refine h1 _ _ ?_;walk_at "nc";rw[w8];refine⟨⋯,⋯,?_⟩;refine aL (lo:=0) (n:=p) (λi σ B=>B=H/\∃(n:Int) (a:Ad) (x:Option V),a.length=i/\(∀x∈a,x∈d)/\i<=p/\σ=[some (V.int c),some (V.int (p:Int)),some (V.str (tx d)),some (V.bl D),some (V.int n),some (V.str (tx a)),x]) ⟨rfl,n,[],none,rfl,(λx I=>q0Q I List.not_mem_nil),xq _,rfl⟩ ?_ ?_
   ·rintro i σ B C ⟨rfl,n,a,x,r,t,ii,rfl⟩
    ext;have j:∀y,y∈d->∀z∈a++[y],z∈d:=λy m z G=>(xb.mp G).elim (t z) λh=>by rw[wU.mp h];exact m
    have b:(tx d).length<=sizeLine:=by rw[al];exact aZ ⋯
    have l:∀y,(tx a).length+(⟨#[y]⟩:Str).length<=sizeLine:=λy=>by rw[al];exact aZ (by show _+1<=_;omega)
    split
    ·obtain⟨y,m,k,v,u,e⟩:=my d n o
     exact⟨b,by rw[al];omega,b,_,by rw[al,v];exact aW e,l y,b,by rw[al];omega,by rw[al];omega,_,a++[y],by simp[r],j y m,C,rfl,n_ a y⟩
    ·obtain⟨y,m,k,v,u,e⟩:=my d ((n*48271+(i:Int)*(i:Int)+7)%2147483647/5) o
     exact⟨.inl ⋯,b,by rw[al];omega,b,_,by rw[al,v];exact aW e,l y,_,a++[y],by simp[r],j y m,C,rfl,n_ a y⟩
   ·rintro σ B ⟨rfl,n,a,x,r,t,_,rfl⟩
    refine h1 _ _ ?_;ext;exact q a r t
  split
  ·exact g _
  ·exact g _
abbrev dr:Stmt:=jn 16
inductive dZ(K:W.Frag)(vs:List V)(H:Hp)(Q:VK)(_E:XK):Prop
 |mk (a:Addr) (ns:List Int) (r c:Nat) (sg:Ad) (_:vs=[.ref a,.int 2,.int (r:Int),.int (c:Int),.str (tx sg)]) (_:aS K H a (ns.map V.int)) (_:r<=64) (_:c<=64) (_:0<sg.length) (_:sg.length<=64) (_:∀(l:Addr) (p:aO),H l=none->bG p r c->(∀row∈p,∀x∈row,x∈sg)->Q (.ref l) (aR H l (.lst (ak p))))
theorem jb:aV ["_law_script","_law_at","_law_rows","_law_wide","_law_signs_here","_law_free"] ["_law_script","_law_at","_law_rows","_law_wide","_law_signs_here"] (av dr):=by walk_at "c"
theorem iU(F:fM K "_law_picture" "_law_picture" dr f fd)(nb:NB mg)(zaa:↑gN 1 "_law_cell" ["_law_script","_law_k"] (fe K))(zha:↑gN 1 "_law_row" ["_law_cell_here","_law_wide","_law_signs_here","_law_free"] j6):↑bH 2 f fd ["_law_script","_law_at","_law_rows","_law_wide","_law_signs_here"] (dZ K):=by
 have sc:=jb;walk_at "f"
 ·obtain⟨a,B,r,c,k,rfl,C,hr1,v,t,o,q⟩:=h
  refine⟨_,(ai (aB (i:=5) sc.nd rfl (Or.inr rfl) (lZ rT (au (bn.m1 bx) (au (bn.m1 bR) (bh zaa (hr.mono nofun) rfl bI (ac (aC 0) (ac aj ae))) aj) aj) aj (c4 _)))
   (ao (bg (bY ["_law_k"] [0,1,3,4,5] rfl (bf.of (by kernel_rfl)) (by kernel_rfl) (aQ rfl nb.range (ac (aC 2) ae))
    (λ_ _ _ _=>(aG (i:=0) (by show(["_law_k","_law_script","_law_at","_law_wide","_law_signs_here","_law_free"]:List Str).Nodup;decide +kernel) rfl (Or.inl rfl))) (λ_ _ _ _=>bN) (λ_ _ _ _=>(bh zha (hr.mono nofun) rfl bI (ac (bh zaa (hr.mono nofun) rfl bI (ac (aC 1) (ac (au (bn.m0 bj) (aC 2) (aC 0)) ae))) (ac (aC 3) (ac (aC 4) (ac (aC 5) ae)))))))))),?_⟩
  ext;refine⟨a,B,1,rfl,C,⋯,λI=>⟨_,rfl,⋯,⋯,?_⟩⟩;generalize decide (I/128%2=1)=fr;rw[w8];refine c7 (lo:=0) (n:=r) (λi b σ g=>g=H/\∃p:aO,b=ak p/\bG p i c/\(∀d∈p,∀x∈d,x∈k)/\i<=r/\∃x,σ=[x,some (V.ref a),some (V.int 2),some (V.int (c:Int)),some (V.str (tx k)),some (V.bl fr)]) ⟨rfl,[],rfl,⟨rfl,λx m=>q0Q m List.not_mem_nil⟩,λx m=>q0Q m List.not_mem_nil,xq _,_,rfl⟩ ?_ ?_ ?_ ?_
  ·rintro i b σ g ⟨_,p,rfl,e,_,j,_⟩
   rw[ag,e.1];exact a_ ⋯
  ·rintro i b σ g ⟨_,p,_,_,_,j,_⟩
   exact j
  ·rintro i b σ g j ⟨rfl,p,rfl,e,u,ii,y,rfl⟩
   ext;refine⟨a,B,2+i,by rw[show((2+i:Nat):Int)=2+(i:Int) by omega],C,⋯,λG=>⟨G,c,k,fr,rfl,v,t,o,λd h1 h2=>⟨rfl,p++[d],(bF _ _).symm,⟨by simp[e.1],λz hz=>?_⟩,λz hz=>?_,j⟩⟩⟩
   ·rcases xb.mp hz with hz | hz
    ·exact e.2 z hz
    ·rw[wU.mp hz];exact h1
   ·rcases xb.mp hz with hz | hz
    ·exact u z hz
    ·rw[wU.mp hz];exact h2
  ·rintro b σ g ⟨rfl,p,rfl,e,u,_⟩ l D
   exact q l p D e u
def gU(p:aO)(t b l x n:Nat):List aO:=(List.range n).map λu=>turned (eF p t l b x) u
def gX(p:aO)(t b l n:Nat):List aO:=(List.range n).flatMap λk=>gU p t b l (l+1+k) 8
def gL(p:aO)(c t b n:Nat):List aO:=(List.range n).flatMap λl=>gX p t b l (c-l)
def gB(p:aO)(c t n:Nat):List aO:=(List.range n).flatMap λk=>gL p c t (t+1+k) c
def gT(p:aO)(r c n:Nat):List aO:=(List.range n).flatMap λt=>gB p c t (r-t)
theorem qL(p:aO)(t b l x n:Nat):gU p t b l x (n+1)=gU p t b l x n++[turned (eF p t l b x) n]:=by unfold gU;rw[q0M,xa];rfl
theorem lO(p:aO)(t b l n:Nat):gX p t b l (n+1)=gX p t b l n++gU p t b l (l+1+n) 8:=by unfold gX;rw[q0M,List.flatMap_append];simp
theorem mH(p:aO)(c t b n:Nat):gL p c t b (n+1)=gL p c t b n++gX p t b n (c-n):=by unfold gL;rw[q0M,List.flatMap_append];simp
theorem mF(p:aO)(c t n:Nat):gB p c t (n+1)=gB p c t n++gL p c t (t+1+n) c:=by unfold gB;rw[q0M,List.flatMap_append];simp
theorem mv(p:aO)(r c n:Nat):gT p r c (n+1)=gT p r c n++gB p c n (r-n):=by unfold gT;rw[q0M,List.flatMap_append];simp
theorem lD{q:aO}:q∈gT p r c r↔cC p r c q:=by
 unfold gT gB gL gX gU cC;simp only[List.mem_flatMap,xM,List.mem_range]
 constructor
 ·rintro⟨t,ht,k,hk,l,hl,m,hm,u,a,rfl⟩
  exact⟨t,l,t+1+k,l+1+m,u,⋯,⋯,⋯,⋯,a,rfl⟩
 ·rintro⟨t,l,b,x,u,h1,h2,h3,h4,d,rfl⟩
  exact⟨t,⋯,b-t-1,⋯,l,⋯,x-l-1,⋯,u,d,by rw[show t+1+(b-t-1)=b by omega,show l+1+(x-l-1)=x by omega]⟩
def p7(r c:Nat):Nat:=((List.range r).map λt=>((List.range (r-t)).map λ_=>((List.range c).map λl=>((List.range (c-l)).map λ_=>8).sum).sum).sum).sum
theorem sQ(p:aO)(r c:Nat):(gT p r c r).length=p7 r c:=by
 unfold gT gB gL gX gU p7;simp only[List.length_flatMap,wT,q0J]
def sZ(r c:Nat):Prop:=0<r/\0<c/\(r<=4/\c<=4\/r<=2/\c<=6)
theorem s_(h:sZ r c):p7 r c<2000:=by
 have h1:∀r,r<5->∀c,c<5->p7 r c<2000:=by decide +kernel
 have h2:∀r,r<3->∀c,c<7->p7 r c<2000:=by decide +kernel
 rcases h.2.2 with⟨a,b⟩ | ⟨a,b⟩
 ·exact h1 r ⋯ c ⋯
 ·exact h2 r ⋯ c ⋯
structure b9(H H':Hp)(fl:Addr)(xs:List aO):Prop where
 ex:∃zs:List AP,H' fl=some (.lst (zs.map λz=>V.ref z.1))/\zs.map (·.2)=xs/\∀z∈zs,H' z.1=some (.tup (ak z.2))
 sm:aE H H'
theorem b9.same{H2:Hp}{fl:Addr}(h:b9 H H' fl xs)(sm:aE H' H2):b9 H H2 fl xs:=
 ⟨let ⟨zs,h1,h2,h3⟩:=h.ex;⟨zs,sm _ _ h1,h2,λz hz=>sm _ _ (h3 z hz)⟩,h.sm.trans sm⟩
theorem b9.snoc{H H':Hp}{fl:Addr}{xs:List aO}{zs:List AP}(hl:H fl=none)(h1:H' fl=some (.lst (zs.map λz=>V.ref z.1)))(h2:zs.map (·.2)=xs)(h3:∀z∈zs,H' z.1=some (.tup (ak z.2)))(sm:aE H H')(hb:H' b=none) :
  b9 H (aR (aR H' b (.tup (ak q))) fl (.lst (zs.map (λz=>V.ref z.1)++[V.ref b]))) fl (xs++[q]):=by
 have c:b≠fl:=λe=>by rw[e,h1]at hb;cases hb
 refine⟨⟨zs++[(b,q)],by rw[am,xa];rfl,by rw[xa,h2];rfl,λz hz=>?_⟩,bw (bw sm (sm.free hb)) hl⟩;rcases xb.mp hz with hz | hz
 ·have h:=h3 z hz
  have a:z.1≠fl:=gr h h1 (by intro e;cases e);rw[ar a,ar (aw h hb)];exact h
 ·rw[wU.mp hz,ar c,am]
theorem pX(p:aO)(t b l x n:Nat):(gU p t b l x n).length=n:=by unfold gU;simp
theorem lC(p:aO)(t b l:Nat):∀n,(gX p t b l n).length=8*n
 |0=>rfl
 |n+1=>by rw[lO,xo,pX,lC p t b l n];omega
theorem kT{c:Nat}(hc:c<=6)(p:aO)(t b:Nat):∀n,(gL p c t b n).length<=48*n
 |0=>xp _
 |n+1=>by rw[mH,xo,lC];have:=kT hc p t b n;omega
theorem lx{c:Nat}(hc:c<=6)(p:aO)(t:Nat):∀n,(gB p c t n).length<=288*n
 |0=>xp _
 |n+1=>by rw[mF,xo];have:=lx hc p t n;have:=kT hc p t (t+1+n) c;omega
theorem oX{r c:Nat}(hr:r<=4)(hc:c<=6)(p:aO):∀n,(gT p r c n).length<=1152*n
 |0=>xp _
 |n+1=>by rw[mv,xo];have:=oX hr hc p n;have:=lx hc p n (r-n);omega
theorem kn{α β:Type}{f:α->β}{R:α->Prop}:∀{ws:List β},(∀e∈ws,∃z,e=f z/\R z)->∃us:List α,ws=us.map f/\∀z∈us,R z
 | [],_=>⟨[],rfl,λz hz=>q0Q hz List.not_mem_nil⟩
 |e::ws,h=>by
  obtain⟨z,h1,h2⟩:=h e q0B;obtain⟨us,h3,h4⟩:=kn λe he=>h e (xg _ he);refine⟨z::us,by rw[h1,h3];rfl,λy hy=>?_⟩;rcases xf.mp hy with rfl | hy
  ·exact h2
  ·exact h4 y hy
theorem kK{p q:aO}(h:p.map tx=q.map tx):p=q:=by rw[<- jY p,h,jY]
theorem qU{a b:aO}(ne:a≠b)(h:¬((aM b:Int)<aM a\/(aM b:Int)=aM a/\TS.ks (b.map tx)<TS.ks (a.map tx))):pB a b:=by
 rw[jY,jY]at h;have d:TS.ordI.blt ((aM b:Int),b) ((aM a:Int),a)=false:=q08 h;cases c:TS.ordI.blt ((aM a:Int),a) ((aM b:Int),b) with
 |true=>
  rcases of_decide_eq_true c with h1 | ⟨h1,h2⟩
  ·exact .inl (Int.ofNat_lt.mp h1)
  ·exact .inr ⟨Int.ofNat.inj h1,h2⟩
 |false=>exact q0Q (q0R Prod.snd (TS.ordI.total _ _ c d)) ne
abbrev i8:Stmt:=jn 19
inductive jJ(K:W.Frag)(vs:List V)(H:Hp)(Q:VK)(_E:XK):Prop
 |mk (a:Addr) (p:aO) (r c:Nat) (_:vs=[.ref a]) (_:aS K H a (ak p)) (_:bG p r c) (_:sZ r c) (_:a0 p) (_:∀(H':Hp) (l:Addr) (zs:List AP),aE H H'->H l=none->H' l=some (.lst (zs.map λz=>V.ref z.1))->(∀z∈zs,H z.1=none/\H' z.1=some (.lst (ak z.2)))->m5 p r c (zs.map (·.2))->zs.length<=2000->Q (.ref l) H')
theorem qo:aV ["_law_picture_here","_law_found","_law_top","_law_bottom","_law_left","_law_right","_law_piece","_law_t","_law_rising"] ["_law_picture_here"] (av i8):=by walk_at "c"
theorem oj(F:fM K "_law_due" "_law_due" i8 f fd)(nb:NB mg)(zda:↑gN 2 "_law_turned" ["_law_rows","_law_t"] (fw K)):↑bH 3 f fd ["_law_picture_here"] (jJ K):=by
 have sc:=qo;walk_at "f"
 ·obtain⟨a,p,r,c,rfl,hS,hp,c0,h0,q⟩:=h
  have hu:=hr.units;refine⟨_,(ai (q01 1 sc.nd (kU ae))
   (ai (bo PassesOwn.never rfl (aQ rfl nb.range (ac (az aX rfl nb.len aY (ac (aC 0) ae)) ae)) (q02 2 sc.nd)
   (ao (bo PassesOwn.never rfl (dz rfl nb.range (ac (au (bn.m0 bj) (aC 2) aj) (ac (au (bn.m0 bj) (az aX rfl nb.len aY (ac (aC 0) ae)) aj) ae))) (q02 3 sc.nd)
   (ao (bo PassesOwn.never rfl (aQ rfl nb.range (ac (az aP rfl nb.len aY (ac (bC br (aC 0) aj (λ_ _=>rfl)) ae)) ae)) (aG (i:=4) sc.nd rfl (Or.inr rfl))
   (ao (bo PassesOwn.never rfl (dz rfl nb.range (ac (au (bn.m0 bj) (aC 4) aj) (ac (au (bn.m0 bj) (az aP rfl nb.len aY (ac (bC br (aC 0) aj (λ_ _=>rfl)) ae)) aj) ae))) (aG (i:=5) sc.nd rfl (Or.inr rfl))
   (ai (gF (i:=6) ["_law_row_here"] [4,5] sc.nd rfl (Or.inl rfl) rfl  rfl (bf.of (by kernel_rfl)) (by kernel_rfl) (b6 (d6 l8 (aC 0) (b0 (aC 2)) (b0 (aC 3))))
    (λ_ _ _ _=>(aG (i:=0) (by show(["_law_row_here","_law_left","_law_right"]:List Str).Nodup;decide +kernel) rfl (Or.inl rfl))) (λ_ _ _ _=>bN) (λ_ _ _ _=>(d6 nW (aC 0) (b0 (aC 1)) (b0 (aC 2)))))
   (ao (bo PassesOwn.never rfl (aQ rfl nb.range (ac aj ae)) (q02 7 sc.nd)
   (ao (fN (ij PySem.F.plainAttrs_list PySem.F.slot_list_append PySem.F.type_list_append cV (aC 1) (ac (cO gK rfl nb.tuple pJ (ac (bh zda (hr.mono nofun) rfl bI (ac (aC 6) (ac (aC 7) ae))) ae)) ae))))))))))))))
   (ai (q01 8 sc.nd (az (lE (xK (xO (by decide:2<=64) _) hu)) rfl nb.sorted mU (ac (bY ["_law_rows"] [] rfl (bf.of (by kernel_rfl)) (by kernel_rfl) (b6 (ls (xK (xO (by decide:10<=64) _) hu) rfl (aC 1) rfl nb.sorted rfl nb.set))
    (λ_ _ _ _=>(aG (i:=0) (by show(["_law_rows"]:List Str).Nodup;decide +kernel) rfl (Or.inl rfl))) (λ_ _ _ _=>bN) (λ_ _ _ _=>(lv (ac (au (bn.m1 dy) (az (kM (K:=K) rfl) rfl nb.len aY (ac (aC 0) ae)) (az aP rfl nb.len aY (ac (bC (qY (K:=K) rfl) (aC 0) aj (λ_ _=>rfl)) ae))) (ac (cO (gS (K:=K) rfl) rfl nb.list dC (ac (aC 0) ae)) ae))))) ae)))
   (ao (bg (bY ["_law_many","_law_rows"] [] rfl (bf.of (by kernel_rfl)) (by kernel_rfl) (b6 (aC 8))
    (λ_ _ _ _=>(q_ (K:=K) (n:=2) rfl rfl (jx (aG (i:=0) (by show(["_law_many","_law_rows"]:List Str).Nodup;decide +kernel) rfl (Or.inl rfl)) (jx (aG (i:=1) (by show(["_law_many","_law_rows"]:List Str).Nodup;decide +kernel) rfl (Or.inl rfl)) qQ)))) (λ_ _ _ _=>bN) (λ_ _ _ _=>(aC 1)))))))),?_⟩
  symm;refine⟨xq _,λI g0=>h1 _ _ ?_⟩;clear h1;have g6:=c0.1;have hc0:=c0.2.1;have g5:r<=4:=by rcases c0.2.2 with h | h<;>omega
  have f0:c<=6:=by rcases c0.2.2 with h | h<;>omega
  obtain⟨f9,C⟩:=gA hp g6;have hpl:=hp.1;have D0:b9 H (aR H I (.lst [])) I []:=⟨⟨[],am,rfl,λz D=>nomatch D⟩,aA g0⟩;generalize aR H I (.lst [])=H0 at D0 ⊢;symm;refine⟨_,D0.sm.seq hS,by rw[ag];omega,by rw[ag];omega,?_⟩;rw[ag,hp.1,w8];have xr:∀H1:Hp,aE H H1->aS K H1 a (ak p):=λH1 sm=>sm.seq hS;refine aL (lo:=0) (n:=r) (λt σ H1=>t<=r/\b9 H H1 I (gT p r c t)/\∃x2 x3 x4 O M G,σ=[some (V.ref a),some (V.ref I),x2,x3,x4,O,M,G,none])
   ⟨xq _,D0,_,_,_,_,_,_,rfl⟩ ?_ ?_
  ·rintro t σ H1 ht ⟨_,D1,x2,x3,x4,O,M,G,rfl⟩
   ext;refine⟨_,xr _ D1.sm,?_⟩;rw[ag,hp.1];refine⟨⋯,⋯,⋯,⋯,?_⟩;rw[show((r:Int)+1-((t:Int)+1)).toNat=r-t by omega];refine aL (lo:=(t:Int)+1) (n:=r-t) (λk σ H2=>k<=r-t/\b9 H H2 I (gT p r c t++gB p c t k)/\∃x3 x4 O M G,σ=[some (V.ref a),some (V.ref I),some (V.int (t:Int)),x3,x4,O,M,G,none])
    ⟨xq _,by show b9 H H1 I (gT p r c t++[]);rw[xC];exact D1,_,_,_,_,_,rfl⟩ ?_ ?_
   ·rintro k σ H2 hk ⟨_,D2,x3,x4,O,M,G,rfl⟩
    ext;refine⟨_,xr _ D2.sm,_,aW (j:=0) (bp f9),_,rfl,by rw[al,C];exact aZ ⋯,by rw[al];omega,by rw[al];omega,?_⟩;rw[al,C,w8];refine aL (lo:=0) (n:=c) (λd σ H3=>d<=c/\b9 H H3 I (gT p r c t++gB p c t k++gL p c t (t+1+k) d)/\∃x4 O M G,σ=[some (V.ref a),some (V.ref I),some (V.int (t:Int)),some (V.int ((t:Int)+1+k)),x4,O,M,G,none])
     ⟨xq _,by show b9 H H2 I (gT p r c t++gB p c t k++[]);rw[xC];exact D2,_,_,_,_,rfl⟩ ?_ ?_
    ·rintro d σ H3 h3 ⟨_,D3,x4,O,M,G,rfl⟩
     ext;refine⟨_,xr _ D3.sm,_,aW (j:=0) (bp f9),_,rfl,by rw[al,C];exact aZ ⋯,?_⟩;rw[al,C];refine⟨⋯,⋯,⋯,⋯,?_⟩;rw[show((c:Int)+1-((d:Int)+1)).toNat=c-d by omega];refine aL (lo:=(d:Int)+1) (n:=c-d) (λm σ Z=>m<=c-d/\b9 H Z I (gT p r c t++gB p c t k++gL p c t (t+1+k) d++gX p t (t+1+k) d m)/\∃O M G,σ=[some (V.ref a),some (V.ref I),some (V.int (t:Int)),some (V.int ((t:Int)+1+k)),some (V.int (d:Int)),O,M,G,none])
      ⟨xq _,by show b9 H H3 I (gT p r c t++gB p c t k++gL p c t (t+1+k) d++[]);rw[xC];exact D3,_,_,_,rfl⟩ ?_ ?_
     ·rintro m σ Z hm ⟨_,D4,O,M,G,rfl⟩
      ext;have eb:(t:Int)+1+(k:Int)=((t+1+k:Nat):Int):=by omega
      have ex:(d:Int)+1+(m:Int)=((d+1+m:Nat):Int):=by omega
      refine⟨_,xr _ D4.sm,λsl g4=>⟨⟨_,aS.of am⟩,?_⟩⟩;rw[eb,ex];generalize hb:t+1+k=b at *;generalize hx:d+1+m=x at *;rw[jH ⋯ ⋯];have hq:∀Y∈(p.drop t).take (b-t),Y.length=c:=λY C=>hp.2 Y (q0I (q0H C));have f7:((p.drop t).take (b-t)).length<=64:=by rw[xG];omega
      have d3:eF p t d b x=((p.drop t).take (b-t)).map λY=>(Y.drop d).take (x-d):=rfl;have g1:=gn hp (show t<b by omega) (show b<=r by omega) (show d<x by omega) (show x<=c by omega);generalize(p.drop t).take (b-t)=q0 at hq f7 d3 ⊢;have D5:=D4.same (aA (o:=HO.lst (ak q0)) g4);have e5:aR Z sl (HO.lst (ak q0)) sl=some (HO.lst (ak q0)):=am;generalize aR Z sl (HO.lst (ak q0))=H5 at D5 e5 ⊢;refine cS (xs:=ak q0) (λi g σ B=>B=H5/\g=ak ((q0.take i).map λY=>(Y.drop d).take (x-d))/\i<=q0.length/\∃y,σ=[y,some (.int (d:Int)),some (.int (x:Int))]) ⟨rfl,rfl,xq _,_,rfl⟩ ?_ ?_ ?_ ?_ ?_
      ·rintro i g σ B ⟨_,rfl,hi,_⟩
       rw[ag,wT,xG];exact a_ ⋯
      ·rintro i g σ B ⟨_,_,h,_⟩
       rw[ag];exact h
      ·rintro i g σ B ⟨rfl,_⟩
       exact aS.of e5
      ·rintro i v g σ B a4 ⟨rfl,rfl,hi,y,rfl⟩
       have hl:i<q0.length:=by have:=(wR.mp a4).1;rwa [ag]at this
       rw[bp hl]at a4;cases a4;have C:=hq _ (w6 hl);ext;refine⟨by rw[al];exact aZ ⋯,?_,hl⟩;rw[jV ⋯ ⋯,q0E,wQ hl,xa];exact(bF _ _).symm
      ·rintro g σ B ⟨rfl,rfl,_⟩ pl c1
       rw[ag,xF,<- d3]at *;have g2:pl≠I:=λe=>by
        obtain⟨⟨zs,z1,_⟩,_⟩:=D5;rw[e,z1]at c1;cases c1
       refine⟨⋯,?_⟩;rw[show Int.toNat 8=8 from rfl];have D6:=D5.same (aA (o:=HO.lst (ak (eF p t d b x))) c1);have e6:aR B pl (HO.lst (ak (eF p t d b x))) pl=some (HO.lst (ak (eF p t d b x))):=am;generalize aR B pl (HO.lst (ak (eF p t d b x)))=H6 at D6 e6 ⊢;refine aL (lo:=0) (n:=8) (λu σ H7=>u<=8/\b9 H H7 I (gT p r c t++gB p c t k++gL p c t b d++gX p t b d m++gU p t b d x u)/\H7 pl=some (HO.lst (ak (eF p t d b x)))/\∃G,σ=[some (V.ref a),some (V.ref I),some (V.int (t:Int)),some (V.int (b:Int)),some (V.int (d:Int)),some (V.int (x:Int)),some (V.ref pl),G,none])
        ⟨xq _,by show b9 H H6 I (_++[]);rw[xC];exact D6,e6,_,rfl⟩ ?_ ?_
       ·rintro u σ H7 f6 ⟨_,D7,e7,G,rfl⟩
        obtain⟨⟨zs,z1,z2,z3⟩,sm⟩:=D7;have d4:=q0R List.length z2;simp only[wT,xo,pX,lC]at d4;have b1:=oX g5 f0 p t;have b2:=lx f0 p t k;have b3:=kT f0 p t b d;ext;refine⟨.inl ⟨rfl,_,aS.of z1⟩,pl,_,b-t,x-d,u,rfl,e7,g1,⋯,⋯,⋯,⋯,f6,λl4 H8 h8 T=>⟨l4,rfl,ak (turned (eF p t d b x) u),.inl ⟨aS.of h8,λl9 a6=>⟨_,by rw[ar (aw (T _ _ z1) a6)];exact T _ _ z1,by rw[wT];exact a_ ⋯,f6,?_,?_⟩⟩⟩⟩
        ·rw[qL,<- xD]
         exact b9.snoc g0 (T _ _ z1) z2 (λz D=>T _ _ (z3 z D)) (sm.trans T) a6
        ·rw[ar g2,ar (aw (T _ _ e7) a6)];exact T _ _ e7
       ·rintro σ H7 ⟨_,D7,e7,G,rfl⟩
        refine⟨hm,?_,_,_,_,rfl⟩;rw[lO,hx,<- xD];exact D7
     ·rintro σ Z ⟨_,D4,O,M,G,rfl⟩
      refine⟨h3,?_,_,_,_,_,rfl⟩;rw[mH,<- xD];exact D4
    ·rintro σ H3 ⟨_,D3,x4,O,M,G,rfl⟩
     refine⟨hk,?_,_,_,_,_,_,rfl⟩;rw[mF,<- xD];exact D3
   ·rintro σ H2 ⟨_,D2,x3,x4,O,M,G,rfl⟩
    refine⟨ht,?_,_,_,_,_,_,_,rfl⟩;rw[mv];exact D2
  ·rintro σ H1 ⟨_,D1,x2,x3,x4,O,M,G,rfl⟩
   refine h1 _ _ ?_;clear h1;obtain⟨⟨zs,z1,z2,z3⟩,sm⟩:=D1;have d4:zs.length<2000:=by
    have:=q0R List.length z2;rw[wT,sQ]at this;rw[this];exact s_ c0
   symm;have gs:∀z∈zs,cC p r c z.2:=λz D=>lD.mp (by rw[<- z2];exact List.mem_map_of_mem D);have f1:∀q,cC p r c q->q≠[]/\∃r' c',bG q r' c'/\0<r'/\0<c'/\r'<=6/\c'<=6:=λq hq=>by
    obtain⟨t,l,b,x,u,s1,s2,s3,s4,s5,rfl⟩:=hq;obtain⟨k1,_,r',c',k2,k3,k4,k5,k6⟩:=iV hp h0 (u:=u) s1 s2 s3 s4;exact⟨k1,r',c',k2,k3,k4,⋯,⋯⟩
   refine⟨zs.map λz=>(V.ref z.1,z.2.map tx),by rw[xc];exact aS.of z1,λe he=>?_,by rw[wT];exact d4,λws w1 w2 w3 _ l hl=>⟨⟨_,aS.of am⟩,?_⟩⟩
   ·obtain⟨z,D,rfl⟩:=xM.mp he
    refine⟨⟨z.1,rfl,fq.of (by rw[<- bW];exact z3 z D)⟩,λe0=>(f1 _ (gs z D)).1 (List.map_eq_nil_iff.mp e0)⟩
   obtain⟨us,rfl,f5⟩:=kn (ws:=ws) (f:=λz:AP=>(V.ref z.1,z.2.map tx)) (R:=λz=>cC p r c z.2/\fq K H1 z.1 (ak z.2)) λe he=>by
    obtain⟨b,e1,e2⟩:=w1 e he;obtain⟨e0,d5,e3⟩:=xM.mp ((w2 e.2).mp (List.mem_map_of_mem he));obtain⟨z,D,rfl⟩:=xM.mp d5;refine⟨(b,z.2),Prod.ext e1 e3.symm,gs z D,?_⟩;rw[bW,show z.2.map tx=e.2 from e3];exact e2
   have um:∀q,q∈us.map (·.2)↔cC p r c q:=λq=>by
    constructor
    ·intro h
     obtain⟨z,D,rfl⟩:=xM.mp h;exact(f5 z D).1
    ·intro h
     have h1:q∈zs.map (·.2):=by rw[z2];exact lD.mpr h
     obtain⟨z,D,rfl⟩:=xM.mp h1;obtain⟨e0,d5,e3⟩:=xM.mp ((w2 (z.2.map tx)).mpr (List.mem_map_of_mem (f:=(·.2)) (List.mem_map_of_mem (f:=λz:AP=>(V.ref z.1,z.2.map tx)) D)));obtain⟨y,hy,rfl⟩:=xM.mp d5;have:y.2=z.2:=kK e3;rw[<- this];exact List.mem_map_of_mem hy
   have un:(us.map (·.2)).Nodup:=by
    rw[xc,List.Nodup,List.pairwise_map]at w3;rw[List.Nodup,List.pairwise_map];exact w3.imp fun{a b} h e=>h (show a.2.map tx=b.2.map tx by rw[e])
   have ul:us.length<=zs.length:=by
    have:=iw un (L:=zs.map (·.2)) λq hq=>by rw[z2];exact lD.mpr ((um q).mp hq)
    rwa [wT,wT]at this
   clear w1 w2 w3;rw[xc];have d2:aE H1 (aR H1 l (HO.lst (us.map ((·.1)∘λz:AP=>(V.ref z.1,z.2.map tx))))):=aA hl;have e2:aR H1 l (HO.lst (us.map ((·.1)∘λz:AP=>(V.ref z.1,z.2.map tx)))) l=some (HO.lst (us.map ((·.1)∘λz:AP=>(V.ref z.1,z.2.map tx)))):=am;generalize aR H1 l (HO.lst (us.map ((·.1)∘λz:AP=>(V.ref z.1,z.2.map tx))))=H2 at d2 e2 ⊢;refine cS (xs:=us.map ((·.1)∘λz:AP=>(V.ref z.1,z.2.map tx))) (λi g σ B=>∃S:List (Addr×AP),aE H2 B/\g=S.map (λt=>V.ref t.1)/\S.map (·.2.2)=(us.take i).map (·.2)/\(∀t∈S,B t.1=some (.tup [.int (aM t.2.2:Int),.ref t.2.1])/\B t.2.1=some (.lst (ak t.2.2))/\H t.2.1=none)/\i<=us.length/\∃y,σ=[y]) ⟨[],aE.refl _,rfl,rfl,λt ht=>q0Q ht List.not_mem_nil,xq _,_,rfl⟩ ?_ ?_ ?_ ?_ ?_
   ·rintro i g σ B ⟨S,_,rfl,e,_,hi,_⟩
    have:=q0R List.length e;rw[wT,wT,xG]at this;rw[wT];exact a_ ⋯
   ·rintro i g σ B ⟨_,_,_,_,_,h,_⟩
    rw[wT];exact h
   ·rintro i g σ B ⟨_,U,_⟩
    exact aS.of (U _ _ e2)
   ·rintro i v g σ B a4 ⟨S,U,rfl,et,a5,hi,y,rfl⟩
    rw[wV]at a4;obtain⟨z,D,rfl⟩:=xv.mp a4;obtain⟨hs,g3⟩:=f5 z (wW D);obtain⟨k1,r',c',k2,k3,k4,k5,k6⟩:=f1 _ hs;have h7:i<us.length:=(wR.mp D).1;obtain⟨h6,b4⟩:=gA k2 k3;have kl:=k2.1;have e8:((ak z.2).length:Int)*((tx z.2[0]).length:Int)=(aM z.2:Int):=by
     unfold aM;rw[ag,al,ci k2 k3,b4];simp
    have a8:=aE.sqT (d2.trans U) g3;ext;refine⟨z.1,rfl,_,a8,z.1,rfl,_,a8,_,aW (j:=0) (bp h6),_,rfl,by rw[al,b4];exact aZ ⋯,.inl (by rw[ag];omega),z.1,rfl,_,.inr a8,λl9 a6=>⟨aZ ⋯,λp9 g7=>?_⟩⟩;rw[e8];have s1:aE B (aR B l9 (HO.lst (ak z.2))):=aA a6;have s2:aE (aR B l9 (HO.lst (ak z.2))) (aR (aR B l9 (HO.lst (ak z.2))) p9 (HO.tup [V.int (aM z.2:Int),V.ref l9])):=aA g7;refine⟨U.trans (s1.trans s2),S++[(p9,l9,z.2)],by rw[xa];rfl,by rw[xa,et,q0E,D,xa];rfl,λt ht=>?_,h7⟩;rcases xb.mp ht with ht | ht
    ·obtain⟨a1,a2,a3⟩:=a5 t ht
     exact⟨s2 _ _ (s1 _ _ a1),s2 _ _ (s1 _ _ a2),a3⟩
    ·rw[wU.mp ht]
     exact⟨am,s2 _ _ am,(sm.trans (d2.trans U)).free a6⟩
   ·rintro g σ B ⟨S,U,rfl,et,a5,_⟩ l3 h5
    rw[wT,xF]at et;have d1:=aA (o:=HO.lst (S.map λt=>V.ref t.1)) h5;have e4:aR B l3 (HO.lst (S.map λt=>V.ref t.1)) l3=some (HO.lst (S.map λt=>V.ref t.1)):=am;generalize aR B l3 (HO.lst (S.map λt=>V.ref t.1))=Z at d1 e4 ⊢;have a9:∀t∈S,Z t.1=some (.tup [.int (aM t.2.2:Int),.ref t.2.1])/\Z t.2.1=some (.lst (ak t.2.2))/\H t.2.1=none:=λt ht=>⟨d1 _ _ (a5 t ht).1,d1 _ _ (a5 t ht).2.1,(a5 t ht).2.2⟩;refine⟨S.map λt=>(V.ref t.1,((aM t.2.2:Int),t.2.2.map tx)),by rw[xc];exact aS.of e4,λe he=>?_,λss s1 s2 l5 h4=>?_⟩
    ·obtain⟨t,ht,rfl⟩:=xM.mp he
     obtain⟨a1,a2,_⟩:=a9 t ht;exact⟨t.1,t.2.1,rfl,fq.of a1,aS.of (by rw[<- bW];exact a2)⟩
    obtain⟨vs,v1,rfl⟩:=eB s1 S rfl;have vm:∀t∈vs,t∈S:=λt ht=>v1.mem_iff.mp ht;have vn:(vs.map (·.2.2)).Nodup:=(v1.map (·.2.2)).nodup_iff.mpr (by rw[et];exact un);have vp:(vs.map (·.2.2)).Pairwise pB:=by
     rw[List.pairwise_map]at s2 ⊢;rw[List.Nodup,List.pairwise_map]at vn;refine(s2.and vn).imp ?_;rintro x y ⟨h1,h2⟩;exact qU h2 h1
    have vq:∀q,q∈vs.map (·.2.2)↔cC p r c q:=λq=>by rw[(v1.map (·.2.2)).mem_iff,et];exact um q
    have vl:vs.length<2000:=by
     have:=q0R List.length et;rw[wT,wT]at this;rw[v1.length_eq];omega
    have f2:aE H Z:=sm.trans (d2.trans (U.trans d1));rw[xc];have f4:∀t∈vs,Z t.1=some (.tup [.int (aM t.2.2:Int),.ref t.2.1])/\Z t.2.1=some (.lst (ak t.2.2))/\H t.2.1=none:=λt ht=>a9 t (vm t ht);clear a5 a9 s1 s2 v1 vm vn um un ul et e4;refine h1 _ _ ?_;clear h1;have c2:=aA (o:=HO.lst (vs.map ((·.1)∘λt:Addr×AP=>(V.ref t.1,((aM t.2.2:Int),t.2.2.map tx))))) h4;have e5:aR Z l5 (HO.lst (vs.map ((·.1)∘λt:Addr×AP=>(V.ref t.1,((aM t.2.2:Int),t.2.2.map tx))))) l5=some (HO.lst (vs.map ((·.1)∘λt:Addr×AP=>(V.ref t.1,((aM t.2.2:Int),t.2.2.map tx))))):=am;generalize aR Z l5 (HO.lst (vs.map ((·.1)∘λt:Addr×AP=>(V.ref t.1,((aM t.2.2:Int),t.2.2.map tx)))))=H5 at c2 e5 ⊢;ext;refine⟨⟨_,aS.of e5⟩,dR (as:=vs) (emb:=λt=>V.ref t.1) (f:=λt=>some (V.ref t.2.1)) (λσ=>∃x y,σ=[x,y]) ⟨_,_,rfl⟩ (λB sm=>aS.of (sm _ _ e5)) ⋯ ?_ ?_⟩
    ·rintro i t hx σ B M1 M0 ⟨y1,y2,rfl⟩ a7 k1 k0
     have ht:=f4 t (wW hx);ext;exact⟨_,fq.of (a7 _ _ (c2 _ _ ht.1)),rfl,_,_,rfl,_,_,rfl,rfl,k1 _ _ _ rfl a7 ⟨_,_,rfl⟩⟩
    ·intro B a7 l6 f8
     rw[fJ];have f3:aE Z (aR B l6 (.lst (vs.map λt=>V.ref t.2.1))):=c2.trans (a7.trans (aA f8));refine q _ l6 (vs.map (·.2)) (f2.trans f3) ((f2.trans (c2.trans a7)).free f8) (by rw[am,xc];rfl) (λz D=>?_) ?_ (by rw[wT];omega)
     ·obtain⟨t,ht,rfl⟩:=xM.mp D
      obtain⟨_,a2,a3⟩:=f4 t ht;exact⟨a3,f3 _ _ a2⟩
     ·rw[xc]
      exact⟨vq,vp⟩
theorem eM(h:aS K H a (ak p)):fF K H (.lst ((p.map tx).map Dt.str)) (.ref a):=by
 unfold fF;exact⟨a,_,rfl,h,by rw[bW];exact qK⟩
abbrev fY:Stmt:=jn 20
inductive ie(K:W.Frag)(vs:List V)(H:Hp)(Q:VK)(_E:XK):Prop
 |mk (a b:Addr) (xs ys:List AP) (_:vs=[.ref a,.ref b]) (_:H a=some (.lst (xs.map λz=>V.ref z.1))) (_:H b=some (.lst (ys.map λz=>V.ref z.1))) (_:(∀z∈xs,H z.1=some (.lst (ak z.2))/\z.2.length<=6)) (_:(∀z∈ys,H z.1=some (.lst (ak z.2)))) (_:xs.map (·.2)=ys.map (·.2)) (_:xs.length<=2000) (_:∀H',aE H H'->Q (.bl true) H')
theorem nJ:aV ["_law_found","_law_due_here","_law_k"] ["_law_found","_law_due_here"] (av fY):=by walk_at "c"
theorem nu(F:fM K "_law_good" "_law_good" fY f fd)(nb:NB mg):↑bH 1 f fd ["_law_found","_law_due_here"] (ie K):=by
 have sc:=nJ;walk_at "f"
 ·obtain⟨a,b,e,m,rfl,C,B,S,R,L,I,q⟩:=h
  have u:e.length=m.length:=by have:=q0R List.length L;simpa using this
  have T:=hr.units;refine⟨_,(ai (dH (PW.pt (oY (gD (fo (az b8 rfl nb.isinstance cE (ac (aC 0) (ac (i_ (v:=.ty "list") rfl nb.list dC rfl) ae))) λ_=>rfl)) (lF (cM ua (az aX rfl nb.len aY (ac (aC 0) ae)) (az aX rfl nb.len aY (ac (aC 1) ae)) (c4 _)))))
   (ao (bg ku))
   ca)
   (ai (bo PassesOwn.never rfl (aQ rfl nb.range (ac (az aX rfl nb.len aY (ac (aC 1) ae)) ae)) (q02 2 sc.nd)
   (ai (dH (PW.pt (oY (gD (fo (az b8 rfl nb.isinstance cE (ac (bC br (aC 0) (aC 2) (λ_ _=>rfl)) (ac (i_ (v:=.ty "list") rfl nb.list dC rfl) ae))) λ_=>rfl)) (lF (gD (fo (az (pE rfl) rfl nb.all tX (ac (bY ["_law_row_here"] [] rfl (bf.of (by kernel_rfl)) (by kernel_rfl) (b6 (bC br (aC 0) (aC 2) (λ_ _=>rfl)))
    (λ_ _ _ _=>(aG (i:=0) (by show(["_law_row_here"]:List Str).Nodup;decide +kernel) rfl (Or.inl rfl))) (λ_ _ _ _=>bN) (λ_ _ _ _=>(az (fg (K:=K) rfl) rfl nb.isinstance cE (ac (aC 0) (ac (i_ (v:=.ty "str") rfl nb.str tO rfl) ae))))) ae)) λ_=>rfl)))))
   (ao (bg ku))
   ca)
   (ao (dH (cM (om T) (bC br (aC 0) (aC 2) (λ_ _=>rfl)) (bC br (aC 1) (aC 2) (λ_ _=>rfl)) (c4 _))
   (ao (bg ku))
   ca))))
   (ao (bg ku)))),?_⟩
  symm;refine⟨_,dD.lst C,true,gt K _,?_⟩;rw[q06 nofun];refine⟨_,aS.of C,_,aS.of B,?_⟩;rw[wT,wT,u,q06 (by simp)];refine h1 _ _ ?_;walk_at "nc";refine⟨_,aS.of B,?_⟩;rw[wT];refine⟨⋯,⋯,?_⟩;rw[w8];refine aL (lo:=0) (n:=m.length) (λi σ p=>aE H p/\∃x,σ=[some (V.ref a),some (V.ref b),x]) ⟨aE.refl _,_,rfl⟩ ?_ ?_
  ·rintro i σ p t ⟨g,x,rfl⟩
   have k:i<e.length:=by omega
   obtain⟨Z,e1l⟩:=S _ (w6 k);have Y:=R _ (w6 t);have U:(e[i]).2=(m[i]).2:=by
    have:=q0R (λl=>l[i]?) L;simp only[wV,wQ k,wQ t,Option.map_some]at this;exact q0S this
   have D:jm (e.map λz=>V.ref z.1) (i:Int)=some (V.ref (e[i]).1):=aW (by rw[wV,wQ k];rfl);have ay:jm (m.map λz=>V.ref z.1) (i:Int)=some (V.ref (m[i]).1):=aW (by rw[wV,wQ t];rfl);have G:=g _ _ C;have b1:=g _ _ B;have o:=g _ _ Z;have M:=g _ _ Y;ac_nf;refine⟨_,aS.of G,_,D,_,dD.lst o,true,gt K _,?_⟩;rw[q06 nofun];refine⟨_,aS.of G,_,D,_,rfl,⟨_,aS.of o⟩,?_⟩;refine dR (as:=(e[i]).2) (emb:=λr=>V.str (tx r)) (f:=λ_=>some (V.bl true)) (λσ=>∃x,σ=[x]) ⟨_,rfl⟩ (λH2 d=>aS.of (d _ _ o)) ⋯ ?_ ?_
   ·rintro j r hr2 σ H2 M1 M0 ⟨y,rfl⟩ d O k0
    ext;exact⟨_,dD.str _,true,gt K _,O _ _ _ rfl d ⟨_,rfl⟩⟩
   ·intro H2 d l I
    rw[fJ];refine⟨(e[i]).2.map λ_=>true,aS.of (by rw[am,xc];rfl),?_⟩;rw[q06 (by simp)];refine h2 _ _ ?_;clear h2;have c:aE p (aR H2 l (HO.lst ((e[i]).2.map λ_=>V.bl true))):=d.trans (aA I);generalize aR H2 l (HO.lst ((e[i]).2.map λ_=>V.bl true))=H3 at c ⊢;ext;refine⟨_,aS.of (c _ _ G),_,D,_,aS.of (c _ _ b1),_,ay,.inl ⟨((e[i]).2.map tx).map Dt.str,by rw[fm];omega,.inl ⟨eM (aS.of (c _ _ o)),eM (aS.of (by rw[U];exact c _ _ M))⟩,false,rfl,?_⟩⟩;rw[q06 nofun];exact g.trans c
  ·rintro σ p ⟨g,x,rfl⟩
   refine h1 _ _ ?_;ext;exact q _ g
abbrev ip:Stmt:=jn 21
inductive jd(K:W.Frag)(vs:List V)(H:Hp)(Q:VK)(_E:XK):Prop
 |mk (a:Addr) (ns:List Int) (_:vs=[.ref a]) (_:aS K H a (ns.map V.int)) (_:∀H',Q (.bl true) H')
theorem sL:aV ["_law_script","_law_size","_law_rows","_law_wide","_law_picture_here","_law_handed","_law_due_here","_law_found"] ["_law_script"] (av ip):=by walk_at "c"
theorem tM(F:fM K "law" "law" ip f fd)(nb:NB mg)(zaa:↑gN 1 "_law_cell" ["_law_script","_law_k"] (fe K))(zfa:↑gN 1 "_law_signs" ["_law_cell_here","_law_most"] gi)(zca:↑gN 2 "_law_picture" ["_law_script","_law_at","_law_rows","_law_wide","_law_signs_here"] (dZ K))(zia:↑gN 3 "_law_due" ["_law_picture_here"] (jJ K))(zea:↑gN 1 "_law_good" ["_law_found","_law_due_here"] (ie K))(yaa:↑gN 4 "seen_in" ["picture"] (gu K)):↑bH 5 f fd ["_law_script"] (jd K):=by
 have sc:=sL;walk_at "f"
 ·obtain⟨a,ns,rfl,hS,q⟩:=h
  have hu:=hr.units;refine⟨_,(ai (q01 1 sc.nd (au (bn.m1 bx) (bh zaa (hr.mono nofun) rfl bI (ac (aC 0) (ac aj ae))) aj))
   (ai (q01 2 sc.nd (au (bn.m0 bj) aj (au (bn.m1 bR) (aC 1) aj)))
   (ai (q01 3 sc.nd (au (bn.m0 bj) aj (au (bn.m1 bx) (aC 1) aj)))
   (ai (dH (cM rT (au (bn.m1 bx) (au (bn.m1 bR) (bh zaa (hr.mono nofun) rfl bI (ac (aC 0) (ac aj ae))) aj) aj) aj (c4 _))
   (ai (q01 2 sc.nd (au (bn.m0 bj) aj (au (bn.m1 bx) (aC 1) aj)))
   (ao (q01 3 sc.nd (au (bn.m0 bj) aj (au (bn.m1 bx) (au (bn.m1 bR) (aC 1) aj) aj)))))
   ca)
   (ai (q01 4 sc.nd (bh zca (hr.mono nofun) rfl bI (ac (aC 0) (ac aj (ac (aC 2) (ac (aC 3) (ac (bh zfa (hr.mono nofun) rfl bI (ac (bh zaa (hr.mono nofun) rfl bI (ac (aC 0) (ac aj ae))) (ac aj ae))) ae)))))))
   (ai (q01 5 sc.nd (cO c8 rfl nb.list dC (ac (aC 4) ae)))
   (ai (q01 6 sc.nd (bh zia (hr.mono nofun) rfl bI (ac (aC 4) ae)))
   (ai (q01 7 sc.nd (bh yaa (hr.mono nofun) rfl bI (ac (aC 5) ae)))
   (ai (dH (PW.pt (oY (gD (fo (bh zea (hr.mono nofun) rfl bI (ac (aC 7) (ac (aC 6) ae))) λ_=>rfl)) (lF (cM (om hu) (aC 5) (aC 4) (c4 _)))))
   (ao (bg ku))
   ca)
   (ai (sU dO (sT (bC br (aC 7) aj (λ_ _=>rfl)) aj oS))
   (ai (fN (ij PySem.F.plainAttrs_list PySem.F.slot_list_append PySem.F.type_list_append cV (bC br (aC 7) (r8 pS aj) (λ_ _=>rfl)) (ac dO ae)))
   (ai (fN (ij PySem.F.plainAttrs_list PySem.F.slot_list_append PySem.F.type_list_append cV (aC 7) (ac (kU ae) ae)))
   (ao (bg (sA (lZ (tL hu) (aC 5) (aC 4) (c4 _)) (tF (bh zea (hr.mono nofun) rfl bI (ac (bh yaa (hr.mono nofun) rfl bI (ac (aC 5) ae)) (ac (aC 6) ae))))))))))))))))))),?_⟩
  symm;refine⟨a,ns,1,rfl,hS,⋯,λc1=>⟨_,rfl,h1 _ _ ?_⟩⟩;clear h1;obtain⟨sz,e6⟩:∃sz:Nat,c1%16=(sz:Int):=⟨_,(xT (xR _ ⋯)).symm⟩;have hsz2:sz<16:=by omega
  rw[e6];symm;refine h1 _ _ ?_;walk_at "nc";refine h1 _ _ ?_;clear h1;have er:(1:Int)+(sz:Int)/4=((1+sz/4:Nat):Int):=by omega
  have ec:(1:Int)+(sz:Int)%4=((1+sz%4:Nat):Int):=by omega
  rw[er,ec];refine aF λN1 h1=>?_;have b2:∀r c:Nat,sZ r c->N1 [some (V.ref a),some (V.int (sz:Int)),some (V.int (r:Int)),some (V.int (c:Int)),none,none,none,none] H:=λr c B=>by
   refine h1 _ _ ?_;clear h1;have U:=B.1;have a1:=B.2.1;have hr4:r<=4:=by rcases B.2.2 with h | h<;>omega
   have hc6:c<=6:=by rcases B.2.2 with h | h<;>omega
   symm;refine⟨a,ns,0,rfl,hS,⋯,λc0=>⟨c0,rfl,λsg H1 e7 sg1 sg4 a9=>⟨a,ns,r,c,sg,rfl,a9.seq hS,⋯,⋯,⋯,⋯,λpl p e8 hp hm=>h1 _ _ ?_⟩⟩⟩;clear h1;have L:a0 p:=λb1 hr f6=>by have:=e7 47 (hm b1 hr 47 f6);omega
   have e0:aE H (aR H1 pl (HO.lst (ak p))):=a9.trans (aA e8);have e2:aR H1 pl (HO.lst (ak p)) pl=some (HO.lst (ak p)):=am;generalize aR H1 pl (HO.lst (ak p))=H2 at e0 e2 ⊢;symm;refine⟨_,.inl (aS.of e2),λhl f1=>h1 _ _ ?_⟩;clear h1;have a7:aE H2 (aR H2 hl (HO.lst (ak p))):=aA f1;have e3:aR H2 hl (HO.lst (ak p)) hl=some (HO.lst (ak p)):=am;have a2:=a7 _ _ e2;generalize aR H2 hl (HO.lst (ak p))=H3 at a7 e3 a2 ⊢;symm;refine⟨pl,p,r,c,rfl,aS.of a2,hp,B,L,λH4 dl ds a6 hdl hd f5 d1 hdlen=>h1 _ _ ?_⟩;clear h1;have e4:=a6 _ _ e3;have d3:=a6 _ _ a2;symm;refine⟨hl,p,r,c,rfl,aS.of e4,hp,U,a1,⋯,⋯,L,λH5 fl fs S f3 G C hnd i hflen=>h1 _ _ ?_⟩;clear h1;have same:∀fs:List AP,m5 p r c (fs.map (·.2))->fs.map (·.2)=ds.map (·.2):=λfs G=>fv G.2 d1.2 λq=>(G.1 q).trans (d1.1 q).symm;have d5:∀q,cC p r c q->q≠[]/\q.length<=6:=λq hq=>by
    obtain⟨t,l,b,x,u,s1,s2,s3,s4,s5,rfl⟩:=hq;obtain⟨k1,_,r',c',k2,k3,k4,k5,k6⟩:=iV hp L (u:=u) s1 s2 s3 s4;exact⟨k1,by rw[k2.1];omega⟩
   have m:∀fs:List AP,m5 p r c (fs.map (·.2))->∀z∈fs,z.2≠[]/\z.2.length<=6:=λfs G z g=>d5 _ ((G.1 _).mp (List.mem_map_of_mem g));have I:∀fs:List AP,m5 p r c (fs.map (·.2))->fs.length<=2000:=λfs G=>by
    have:=q0R List.length (same fs G);rw[wT,wT]at this;omega
   have d2:∀z∈ds,H4 z.1=some (HO.lst (ak z.2)):=λz g=>(f5 z g).2;symm;refine⟨fl,dl,fs,ds,rfl,G,S _ _ hd,λz g=>⟨(C z g).2,(m fs i z g).2⟩,λz g=>S _ _ (d2 z g),same fs i,I fs i,λH6 v=>?_⟩;refine⟨_,rfl,?_⟩;rw[q06 nofun];have y:=S.trans v;refine .inl ⟨(p.map tx).map Dt.str,by rw[fm];omega,.inl ⟨eM (aS.of (y _ _ e4)),eM (aS.of (y _ _ d3))⟩,false,rfl,?_⟩;rw[q06 nofun];refine h1 _ _ ?_;clear h1;have f0:∀fs:List AP,m5 p r c (fs.map (·.2))->fs≠[]:=λfs G e=>by
    have:=(G.1 (turned (eF p 0 0 r c) 0)).mpr ⟨0,0,r,c,0,U,xp _,a1,xp _,⋯,rfl⟩;rw[e]at this;exact q0Q this List.not_mem_nil
   obtain⟨d,k,rfl⟩:=List.exists_cons_of_ne_nil (f0 fs i);obtain⟨g1,g2⟩:=C d q0B;obtain⟨row0,rest0,f7⟩:=List.exists_cons_of_ne_nil (m _ i d q0B).1;have Z:=v _ _ G;have g6:=v _ _ g2;symm;have e5:qi (ak d.2).length 0=some 0:=by rw[ag,f7];unfold qi;rw[q07 nofun,q07 (by simp)];rfl
   refine⟨_,aS.of Z,_,aW (j:=0) rfl,d.1,rfl,_,g6,0,e5,h1 _ _ ?_⟩;clear h1;have nf:∀z∈d::k,fl≠z.1:=λz g e=>by
    have:=v _ _ (C z g).2;rw[<- e,Z]at this;have h1:=(HO.lst.inj (q0S this));obtain⟨b1,aU,eq⟩:=List.exists_cons_of_ne_nil (m _ i z g).1;rw[eq]at h1;exact nomatch(List.cons.inj h1).1
   have a5:aE H4 (aR H6 d.1 (HO.lst ((ak d.2).set 0 (V.str (Str.ofString ""))))):=bw y g1;have Y:aR H6 d.1 (HO.lst ((ak d.2).set 0 (V.str (Str.ofString "")))) fl=some (HO.lst ((d::k).map λz=>V.ref z.1)):=by rw[ar (nf d q0B)];exact Z
   have l7:∀z∈d::k,∃ys:List V,aR H6 d.1 (HO.lst ((ak d.2).set 0 (V.str (Str.ofString "")))) z.1=some (HO.lst ys)/\ys.length<=6:=λz g=>by
    by_cases e:z.1=d.1
    ·rw[e]
     exact⟨_,am,by rw[List.length_set,ag];exact(m _ i d q0B).2⟩
    ·rw[ar e]
     exact⟨_,v _ _ (C z g).2,by rw[ag];exact(m _ i z g).2⟩
   generalize aR H6 d.1 (HO.lst ((ak d.2).set 0 (V.str (Str.ofString ""))))=H7 at a5 Y l7 ⊢;have hfl2:=I _ i;obtain⟨R,n,el⟩:∃R n,d::k=R++[n]:=⟨_,_,(List.dropLast_concat_getLast (List.cons_ne_nil _ _)).symm⟩;have T:n∈d::k:=by rw[el];simp
   have d4:jm ((d::k).map λz=>V.ref z.1) (-1)=some (V.ref n.1):=by rw[el,xa];exact o8 _ _
   obtain⟨ys,y1,y2⟩:=l7 n T;symm;refine⟨_,aS.of Y,_,d4,.inl ⟨rfl,_,aS.of y1⟩,n.1,rfl,_,y1,a_ ⋯,h1 _ _ ?_⟩;clear h1;have a4:aE H4 (aR H7 n.1 (HO.lst (ys++[V.str (Str.ofString "")]))):=bw a5 (C n T).1;have M:aR H7 n.1 (HO.lst (ys++[V.str (Str.ofString "")])) fl=some (HO.lst ((d::k).map λz=>V.ref z.1)):=by rw[ar (nf n T)];exact Y
   generalize aR H7 n.1 (HO.lst (ys++[V.str (Str.ofString "")]))=H8 at a4 M ⊢;symm;refine⟨.inl ⟨rfl,_,aS.of M⟩,xq _,λnp b3=>⟨_,by rw[ar (aw M b3)];exact M,by rw[wT];exact a_ ⋯,h1 _ _ ?_⟩⟩;clear h1;have o:aE H4 (aR (aR H8 np (HO.lst [])) fl (HO.lst ((d::k).map (λz=>V.ref z.1)++[V.ref np]))):=bw (a4.trans (aA b3)) f3;generalize aR (aR H8 np (HO.lst [])) fl (HO.lst ((d::k).map (λz=>V.ref z.1)++[V.ref np]))=H9 at o ⊢;ext;refine .inl ⟨(p.map tx).map Dt.str,by rw[fm];omega,.inl ⟨eM (aS.of (o _ _ e4)),eM (aS.of (o _ _ d3))⟩,true,rfl,?_⟩;rw[q07 rfl];refine⟨hl,p,r,c,rfl,aS.of (o _ _ e4),hp,U,a1,⋯,⋯,L,λH10 f2 O a8 hf2l f4 b4 hnd2 D hlen2=>?_⟩;have a3:=o.trans a8;exact⟨f2,dl,O,ds,rfl,f4,a3 _ _ hd,λz g=>⟨(b4 z g).2,(m O D z g).2⟩,λz g=>a3 _ _ (d2 z g),same O D,I O D,λH11 sm11=>q _⟩
  ext;refine⟨a,ns,1,rfl,hS,⋯,λc2=>⟨_,rfl,?_⟩⟩
  split
  ·have e1:(1:Int)+(sz:Int)%2=((1+sz%2:Nat):Int):=by omega
   have e2:(1:Int)+(sz:Int)/2%6=((1+sz/2%6:Nat):Int):=by omega
   rw[e1,e2];exact b2 _ _ ⟨⋯,⋯,.inr ⟨⋯,⋯⟩⟩
  ·exact b2 _ _ ⟨⋯,⋯,.inl ⟨⋯,⋯⟩⟩
end
theorem bdc{n:Nat}{P:List Value->Prop}(h:∀a us,us.length=n->P (a::us)):∀us:List Value,us.length=n+1->P us:=by
 intro us e;cases us with|nil=>cases e|cons a us=>exact h a us (Nat.succ.inj e)
theorem bd0{P:List Value->Prop}(h:P []):∀us:List Value,us.length=0->P us:=by
 intro us e;cases us with|nil=>exact h|cons a us=>cases e
theorem bd1{P:List Value->Prop}(h:∀a,P [a]):∀us:List Value,us.length=1->P us:=bdc λa=>bd0 (P:=λus=>P (a::us)) (h a)
theorem bd2{P:List Value->Prop}(h:∀a b,P [a,b]):∀us:List Value,us.length=2->P us:=bdc λa=>bd1 (P:=λus=>P (a::us)) (h a)
theorem bd3{P:List Value->Prop}(h:∀a b c,P [a,b,c]):∀us:List Value,us.length=3->P us:=bdc λa=>bd2 (P:=λus=>P (a::us)) (h a)
theorem bd4{P:List Value->Prop}(h:∀a b c d,P [a,b,c,d]):∀us:List Value,us.length=4->P us:=bdc λa=>bd3 (P:=λus=>P (a::us)) (h a)
theorem bd5{P:List Value->Prop}(h:∀a b c d e,P [a,b,c,d,e]):∀us:List Value,us.length=5->P us:=bdc λa=>bd4 (P:=λus=>P (a::us)) (h a)
def FK(K:W.Frag)(x:Str)(st:Stmt)(f:Addr):Prop:=W.nsIn K mainGlobals x=some (some (.ref f))/\∃oc od osl kV doc pm an cdv ct,K.lookup f=some ⟨oc,od,.func (W.fnOf x x (cc st) (bX st) (av st) .none kV doc pm an cdv ct),osl⟩/\W.codeIn K cdv x=true/\W.keepIn K (.ref f)=true
theorem fk_mk{K:W.Frag}{st:Stmt}{oc:Value}{od an:An}{osl:Array (Option Value)}{kV doc pm cdv ct:Value}(a:W.nsIn K mainGlobals x=some (some (.ref f)))(l:K.lookup f=some ⟨oc,od,.func (W.fnOf x x (cc st) (bX st) (av st) .none kV doc pm an cdv ct),osl⟩)(c:W.codeIn K cdv x=true)(k:W.keepIn K (.ref f)=true):FK K x st f:=⟨a,oc,od,osl,kV,doc,pm,an,cdv,ct,l,c,k⟩
theorem FK.cal{K:W.Frag}{st:Stmt}{mg:Ah}{CX:eG}{ps:Ak}{sp:Sp}(P:Aj)(w:Am)(base:Heap)(q:FK K x st f)(X:K.In h)(G:h.Ns mainGlobals mg)
  (ok:∀fd,fM K x x st f fd->mg x=some (.ref f)->W.keepIn K (.ref f)=true->cy K fd ps []->bH P w K mg base CX k f fd ps sp)
  (hb:∀(kV doc pm:Value) (an:An) (cdv ct:Value) (us:Af),us.length=ps.length->bindArgs (W.fnOf x x (cc st) (bX st) (av st) .none kV doc pm an cdv ct) ⟨us,[]⟩=pure (ps.zip us):=by first|exact λ_ _ _ _ _ _=>bd1 λ_=>rfl|exact λ_ _ _ _ _ _=>bd2 λ_ _=>rfl|exact λ_ _ _ _ _ _=>bd3 λ_ _ _=>rfl|exact λ_ _ _ _ _ _=>bd4 λ_ _ _ _=>rfl):gN P w K mg base CX k x ps sp:=by
 obtain⟨a,oc,od,osl,kV,doc,pm,an,cdv,ct,l,c,d⟩:=q;have F:=qy l c d;have b:=F.binds hb;exact⟨_,_,ok _ F (W.mg_of X G a) d b,W.mg_of X G a,d,b⟩
theorem all_mk{l:W.OpenLaw}{K:W.Frag}{mg:Ah}{fa:Addr}(X:K.In h)(G:h.Ns mainGlobals mg)(wB:mg "law"=some (.ref fa))
  (a1:FK K "mirror" gl f1) (a2:FK K "column_from_below" bJ f2) (a3:FK K "quarter" eX f3) (a4:FK K "turned" gd f4) (a5:FK K "shown" jc f5) (a6:FK K "windows_of" cW f6) (a7:FK K "cut_out" eR f7) (a8:FK K "cells_then_rows" bQ f8) (a9:FK K "seen_in" eZ f9) (vI:FK K "_law_cell" gz f10) (vT:FK K "_law_signs" e9 f11) (vZ:FK K "_law_row" iJ f12) (vH:FK K "_law_picture" dr f13) (u7:FK K "_law_quarter" dh f14) (vb:FK K "_law_turned" dS f15) (vV:FK K "_law_due" i8 f16) (vt:FK K "_law_good" fY f17) (v4:FK K "law" ip f18)
  {yaj:Tok}  (eJ:W.nsIn K mainGlobals "TURNINGS"=some (some (.int 8 yaj)))
  (z0:W.nsIn K mainGlobals "len"=some none) (z1:W.nsIn K mainGlobals "range"=some none) (z2:W.nsIn K mainGlobals "list"=some none) (z3:W.nsIn K mainGlobals "tuple"=some none) (z4:W.nsIn K mainGlobals "isinstance"=some none) (z5:W.nsIn K mainGlobals "int"=some none) (z6:W.nsIn K mainGlobals "bool"=some none) (z7:W.nsIn K mainGlobals "str"=some none) (z8:W.nsIn K mainGlobals "reversed"=some none) (z9:W.nsIn K mainGlobals "all"=some none) (vE:W.nsIn K mainGlobals "enumerate"=some none) (ve:W.nsIn K mainGlobals "zip"=some none) (v7:W.nsIn K mainGlobals "sorted"=some none) (vh:W.nsIn K mainGlobals "set"=some none) (vX:W.nsIn K mainGlobals "dict"=some none) (v9:W.nsIn K mainGlobals "min"=some none) (vW:W.nsIn K mainGlobals "max"=some none) (vC:W.nsIn K mainGlobals "sum"=some none) (v0:W.nsIn K mainGlobals "ValueError"=some none) :
  ∃fd:FuncData,(∀(s:Ae) (v:Value),BindsTo s fd ⟨[v],[]⟩ [("_law_script",v)])/\∀base:Heap,K.In base->base.Ns mainGlobals mg->bH l.prog w K mg base cv 5 fa fd ["_law_script"] (jd K):=by
 obtain⟨an,oc,od,osl,kV,doc,pm,ann,cdv,ct,hl,hc,hk⟩:=v4;have e:=wB.symm.trans (W.mg_of X G an);cases e;have FL:=qy hl hc hk;have nb:NB mg:=⟨W.mg_none_of X G z0,W.mg_none_of X G z1,W.mg_none_of X G z2,W.mg_none_of X G z3,W.mg_none_of X G z4,W.mg_none_of X G z5,W.mg_none_of X G z6,W.mg_none_of X G z7,W.mg_none_of X G z8,W.mg_none_of X G z9,W.mg_none_of X G vE,W.mg_none_of X G ve,W.mg_none_of X G v7,W.mg_none_of X G vh,W.mg_none_of X G vX,W.mg_none_of X G v9,W.mg_none_of X G vW,W.mg_none_of X G vC,W.mg_none_of X G v0⟩;refine⟨W.fnOf "law" "law" (cc ip) (bX ip) (av ip) .none kV doc pm ann cdv ct,λs v=>.of_eq rfl,λbase _ _=>?_⟩;have yah:=W.mg_of X G eJ;have yai:=a1∣mY F nb;have yac:=a2∣nk F nb;have yab:=a3∣k9 F nb yac;have zga:=a4∣nr F nb yai yab;have yaf:=a5∣oE F;have yag:=a6∣gH F nb;have yad:=a7∣lA F nb;have yae:=a8∣dP F nb;have yaa:=a9∣lm F nb yah yag yad zga yaf yae;have zaa:=vI∣mP F nb;have zfa:=vT∣lw F nb;have zha:=vZ∣qg F nb;have zca:=vH.cal l.prog w base X G (λ_ F m k b=>iU F nb zaa zha) (λ_ _ _ _ _ _=>bd5 λ_ _ _ _ _=>rfl);have zba:=u7∣iR F nb;have zda:=vb∣jC F nb zba;have zia:=vV∣oj F nb zda;have zea:=vt∣nu F nb;exact tM FL nb zaa zfa zca zia zea yaa
theorem walk{l:W.OpenLaw}{loose:Ak}{XP:(Str->Option Value)->Heap->Prop}{YP:World->Heap->Prop}{d:DefRec}{K:Params->W.Frag}(hn:l.most=some 63)(hdf:d.params.defaults=[])
  (hY:∀(w:Am) (h:Heap),YP w h->(K w.params).In h)
  (F:∀(w:Am) (mg:Ah) (fa:Addr) (h:Heap),(K w.params).In h->h.Ns mainGlobals mg->mg d.name=some (.ref fa) ->
   ∃fd:FuncData,(∀(s:Ae) (u:Value),BindsTo s fd ⟨[u],[]⟩ [("_law_script",u)])/\∀base:Heap,(K w.params).In base->base.Ns mainGlobals mg->bH l.prog w (K w.params) mg base cv 5 fa fd ["_law_script"] (jd (K w.params))) :
  W.WalkO q loose XP YP l.row.toRowW d [] (λf vs=>PySem.call f vs):=
 L2.walk_of (n:=63) (k:=5) (x:="_law_script") (CX:=λ_=>cv) (sp:=λw=>jd (K w.params)) hn nofun hdf ⟨rfl,nofun,nofun⟩ hY F (λ_ _ a ns hl _ hS=>⟨a,ns,rfl,hS,λ_=>rfl⟩) λ_ _ _ _ _ z=>z
end Q07
open PySem PySem.W PyProof.Rows
local macro_rules | `(tactic| walk_at "kk")=>`(tactic| first | k_is | kernel_rfl | rfl | decide +kernel)
local macro_rules | `(tactic| walk_at "fk")=>`(tactic| (refine' Q07.fk_mk ?p ?q ?r ?s;(case p=>k_is);(case q=>k_is);(case r=>k_is);(case s=>k_is)))
set_option maxRecDepth 100000 in
set_option maxHeartbeats 0 in
theorem PySem.Challenge.cw_quiltlaw_k07_whole_seen_in_holds : PySem.Challenge.rw_quiltlaw_k07_whole_seen_in.Holds := by
 w_on;o_law;k_head;(case hw=>w_witness2)
 k_fill
 refine Q07.walk (l:=PySem.Challenge.rw_quiltlaw_k07_whole_seen_in) rfl rfl (λw h Y=>PySem.W.kIn_of Y) ?F
 case F=>
  intro w mg fa h KX G hmg
  refine' Q07.all_mk KX G hmg ?a1 ?a2 ?a3 ?a4 ?a5 ?a6 ?a7 ?a8 ?a9 ?vI ?vT ?vZ ?vH ?u7 ?vb ?vV ?vt ?v4 ?eJ ?z0 ?z1 ?z2 ?z3 ?z4 ?z5 ?z6 ?z7 ?z8 ?z9 ?vE ?ve ?v7 ?vh ?vX ?v9 ?vW ?vC ?v0
  (case a1=>walk_at "fk");(case a2=>walk_at "fk");(case a3=>walk_at "fk");(case a4=>walk_at "fk");(case a5=>walk_at "fk");(case a6=>walk_at "fk");(case a7=>walk_at "fk");(case a8=>walk_at "fk")
  (case a9=>walk_at "fk");(case vI=>walk_at "fk");(case vT=>walk_at "fk");(case vZ=>walk_at "fk");(case vH=>walk_at "fk");(case u7=>walk_at "fk");(case vb=>walk_at "fk");(case vV=>walk_at "fk")
  (case vt=>walk_at "fk");(case v4=>walk_at "fk");(case eJ=>walk_at "kk");(case z0=>k_is);(case z1=>k_is);(case z2=>k_is);(case z3=>k_is);(case z4=>k_is)
  (case z5=>k_is);(case z6=>k_is);(case z7=>k_is);(case z8=>k_is);(case z9=>k_is);(case vE=>k_is);(case ve=>k_is);(case v7=>k_is)
  (case vh=>k_is);(case vX=>k_is);(case v9=>k_is);(case vW=>k_is);(case vC=>k_is);(case v0=>k_is)
