import PyProof.Rows.All
import Wide.All
import OpenK.AllK
import Wide.FinOn
import Lean
import PyProof.EqAt
import PyProof.EqKinds
import PyProof.TupleCall
import PyProof.CollectIter
import PyProof.JoinWalk
import PyProof.StrOps
import PyProof.ListOps
import PyProof.StrLawsJoin
import KE.KRevIter
import PyProof.StrLawsFirst
import PyProof.Rows.StrNews2
import PyProof.StrLawsTight
import PyProof.StrLawsChain
import KE.KIntText
import KE.IntTextLaws
import PyProof.ListStr
import KE.KDictLaws
import KE.KDictList
import PyProof.Rows.SetFrom
import PyProof.FitsReplace
import KE.KEqDict
import PyProof.Rows.SumAny
import PyProof.Rows.CallKwBuiltin
import PyProof.EnumMake
import PyProof.TupleIter
import PyProof.Rows.TupIter
import PyProof.FactsAll.range_2
import PyProof.AutoSeq1
import PyProof.Rows.Range3
import PyProof.ZipIter
import PyProof.Rows.SortRuns
import PyProof.Rows.SortPure
import PyProof.Rows.SortShell
import PyProof.Rows.SortStr
import PyProof.MeetsSeq3
import KE.KSortTup
import KE.KSortKey
import PyProof.MeetsDictList
import PySem.Challenge.RW_quiltlaw_k20_cells_alone
local macro_rules|`($m:declModifiers def $i:declId $s:optDeclSig $v:declVal)=>do
 if m.raw != (<-`(def x:=0)).raw[0]then Lean.Macro.throwUnsupported
 `(noncomputable def $i $s $v:declVal)
local macro_rules|`($m:declModifiers abbrev $i:declId $s:optDeclSig $v:declVal)=>do
 if m.raw != (<-`(def x:=0)).raw[0]then Lean.Macro.throwUnsupported
 `(noncomputable abbrev $i $s $v:declVal)
local macro_rules|`(command|set_option $o:ident $s:str)=>do
 if o.getId != `tw then Lean.Macro.throwUnsupported
 let n:=s.getString.toList.toArray.map λc=>if c.toNat<64 then c.toNat-35 else if c.toNat<92 then c.toNat-36 else c.toNat-37
 let a<-(List.range (n.size/10)).toArray.mapM λi=>let x:=(List.range 10).foldl (λa j=>a*90+n[10*i+j]!) 0;let y:=Lean.mkIdent (.mkSimple s!"tw{x}");`(command|theorem $y:ident:True:=⟨⟩)
 return Lean.mkNullNode a
namespace PySem.W.Fast
set_option tw "*)o#`EEt3PCp0?Q0>vwe0Z)~y?#ZL}Rv::^`dQgT5Wiog]73]305v9TH>_~9OhdDq[e8|)J+5`6{c?}3F-E99+PT.%(t>)d~u&b5R:N%+XVn/yPe=[F).qMsMaCH,:JSLy.nBW{6Gd/HP7ws>E{T<9&,cdulhu({3y-]~_O.8>#$?Fec[}lWQ4_KIPVJz|;hlcb~{*/r?~bt}wf`dl4(QWn7M8n>5_f8U#eK|t5A0bc`{vHzQ8|mCr}>9,Mu^MBEJXP^%C6(E*06gM<7yB#nS5M*HtQFdH#`sM?MM:K;Ij_E00*4(hn3#MD~p>n)Ekob2P|'I66yth?1,)W>+}T4:,6-ck6E$.8kA3-t&Laf#1Ryaar:f&Bc]i>Z#l|2NSHZfx^N]4$<O?qrv._<PmoE{'/DEl1k>wNk6#US-2Pi=MpSXz6U?]bQlfhKNh`URPi}S>R+p:$IYvIH>2YE1w'G_wOU$?*>HmR)F,8/)Icp87GLl|2=6&OD-b&0%[>Ht'8uD*x|<,Ma.95y<B#/J{D$US36+(ZFGsIV[I4~.mLau1;B~?$TO,&`}D.?EeO)>d:$J7HoHh;1Ak>+k18lT)fuZA$H;kUQ'M|I{-G3)7$MzEZ-:I``-RFV/w)yyan8V.Su&VM*BeLS-GLS;Fv:h7{2:IJYvCER)|Lg2+s$~BMM+M#OfoUh]d'm]P5muSB>%EU`Qi=o+>-&'7A^iM2nQKrNI(cQa[-g^4Wg,VC0D,{CiFAZIF.zC8wa_|r)Ci>Pu)N-3P9PxTny6LRe8:Pejjss'HK|^{P[}3XqCp~-fuB*iu;8B+|YRyLi%:,gP}]pI{D~7dR|o$GV#AKLD_%)[)DxQJ<&2Hd)7Ornp?6<JP/|l1U'h?*kIE;[iELEa^?^{gt?b<'v2:9t:fC/1f#f*w1>*a46?-K.rzloAGG>I9J9Y7DQ<nlWkq'D>*J:{q^d[v<2D[2MgW{MJjO<qxsK;rQTPDKNI/g<VcA88_v)F~YT7?/dBn;XLZGRHi?<4z+o$VrJ1a>K$},wjb~NVS7wP&zzJ~&.GiP9=|U(h3bq(YAx6^>5Yy3M8P4mrOWiM=VdqJ#3AX1;W3.</N_N.-s`jE0<Q]Mz}};-hQ:H)w]=q;4_T9/)+ul55;.]BN3gRcStU^.w:feYpLt~-p>QX9Hc}dD]1cSeI?zQ#7PI7;g5LC?022(g,EMvC[IW:M<E(,1FCPh<UFbz#CtASbT/G~,I8Y.92[E~4Iv4~4[CB:<F#[3O]~<n))dc_J*V#lEw2-Zi^j4U'+c_9wx.L6?,dkz6/*0,*Ce=m+2(_|FW6cTL1Plv&^yi_Y1bn,)h,Hq{vWjv3xrpufMOdB/N_hLA1lTq&l=&79*p&ZQK&k5m*PD#LMkH#:2xX/H<F?qf.1G_-JBo{_^Xq;/U#+.vk#_iLaLe'Z,&zV)e5p7pY?Ry,0NZ`V5y4R<B5|>Qtsh=(-W:|Pd.PPK_)/IX&4ZT%TGQGZ9]Lm*u=3>}Rh&cAJ3N)caE4o=s(6bX&tE`H4}20XF?a4MpZ1+Zi2g^8_}6'Q;~FE)u.>}3/vW[EPNNZIu[uA<3j%WOS9.p)sulYjyqCG50uiNEic50&JoSxSV-(dGELR'ClX#4EhBPx2jgMd7^lBuz,jH8>pJVy}C$hd>?O6$.c0?b<(JMmfDiq4S4[QcZ7E{nAQz;l{EkW>2V>bg^b|h*PQ9;cjD>1%HuV-r-}o^;+x`J]43F2qF41Ez*DN?=/K?qG1BiNJP|61L}EmeF(0A-;_L(fa+OLE<*Pc#g9TVNm1Y0c%?i+{4*qTZc4;n6*^iCQqL=/a;HPGXZEXteOdGvKL8p9KP9zyhi7E}D':fa}V#;oNm/$}^^E]O1mi]r*EGAT)hDfAJx>L$oENc+Cz>;]4Gmo1lr<jn;WBrTW8'gV<omxj:,,tIgI$t5~U#+8JZ*XUbI9^N%9rNE(IEE(X=9Mq,NA[0WfU+vu}-e{a4}+#BD8Oj{%X)pHL$asOe&#gR+&$g0zfOB1D3[hhOvC<5/A-#Z&lh_)#RA`I9AT{OJEB(VK{&OIJ<W3M$irr,kHRFiYVDlymK}WIO|_DT/)cH5$RWT_3M=wq51VVLH3Krr7OLlPL#rK*6CU=JT3Hoq`O9$9q9YdRfwmfZq48av_rDnVi.<a%_F>cQp8E:euflgK*RfW_7(l#0x1aP~U{0V;QFc)WYB*9QO0^70D:Ayf.3l2;tH0=^612}Tl*1=h|0,eJ:TdmX0I$a>hg6O<C)'kx~9Mc)vBUdqY3RrCG&9/^s+qQqfJCmc6VzE|p#+Wrj%x:*hRY#V~v<pk0IrqZU{`ijh),T9eoOett#js(d|JTyI7qcpwf5JU>Inpn.tyhzS>m1Fe'O-/Y4jC;1zJ7;Q,)pL90UUOWC1izcx]~T<2A5oy'D[~mQ~)lMu$#&]G_8eO-T-Jo:.N];:)/E'>q6a-~&|K7,vNk&)jR5_G]GCghSAz3IRZa;a#H=_:~#DjqbZR%/0*6;loRSuCObr8VM)BgE7cON9siv7'+aDx6hm$PJcjJtb:_/)(4u}'^N7y[3qc_*}We;lSSrVpB^Fpf?c7Oe+s-z8--:&RYS;_&JKX?Q[*]*U'L4k]9%l{*DlDrb)s]brH[p]>lZ'<YM{8j8}VKUMI'T0GF-hk|$qui}QU>S(>#vj>rs#7lAqlW61Xi_a$Uk7:$*VxV>pVnj6YN=q<5?I'qZEY=&`A=Ys3Wz%0Yx*1TW1Pm/.U72CAZ`g4~*>E9^HW-5tF'Ny8)SN&'$e}|Rg>->Dpy?l>'I{GI?>I8pX_7>>JVoT9)S%25,7J{JvR3GNtY8(|iZ?MV`JZnJ(^V>wG3^EOY/a.dlcdzfJ~[)PXoUi]_cb-~+;N5Sai$FEh;&q10uQ5Rx.{RwNy4M61$[(SbGK9BGP{,~Bb2,{CRzYF9u<Ae#ji-N_gj624Ju[]X7,&ULI(o<){82rE2QK.dmb-OZOv$9=Nj?32%,<4LMS()%Uwfm*>KNA*`i9x]hPPIO&KqZGzXLxJ327WQR_5XBG4d/&;)6L:$vY,`dLS=HII%5(R%,*z#mV,h'{$;84J9%LP-Dd4<>oy-<#7XXAg,RRg)BUJ4A`xDy%IZ]/[Oea}gRj&1t=]eFc6j/:?lBD.z6uMBAlH/_SJ}TVKkM5=d5wO&eNpRYELdsRBIA2Pl6Uf*QR7ab4HU}&656m76SJu8T=_+R|8`i-dtyeSA5&hJ2LmJRSK5qJ]k>cJK3[8640B`%64OR9}8bqGAL^AAb5Sm4fBepl03/;SQB}kMu{:<hMJdSy&5*aF|>D1ye:ZR<wL-3h:x.t/]RSbTb~?1F]8(7N_Avy{3-zbWp$M`q](+.R;L&kT'C3':pr;q$_/0ZMONdM+mOgJs]IztueO?[T&i&L/i3hvht0?2{P7/~a~*P))4)vI0Eiw}L8#BwB(n%YM|NB_M~cnzwj2p8&HfU;+0*NfS38*:'M#Lr)Gd8^[h#pmI:YpA([Doj`$h+s`T3*o8m7Q$Ci#?Mx;lsK?g(Rodohg-(P(T{fq<mCv35UI9]D{v<]53%vTzTQFB0p6'Wr&0GPR~F*qZ=Yv]6.WTT+<~V:CP:E-8sG,$JH,A_$5K'x<.6H4[<1`,KxIoz|8?J64Ih/[[+U(EEMirN}nR}*EJ<d|7=v+6AareTTT?<A#)C]1jfd&YEXx=V<=xTp54K/i+It,,Q3Q2d`ax(~0mJSNJ~`Q4;4=9LUw%u2,xkfXLBM]X*TKTxdqBJyKmwP9-ZC45DXv:r[AoUc4*+?|9E0)e-a>e-W2:0F&{fFW1uRM{79&T391ybJ<1eS'U7`m/*%J7nr]MlsJf*]%4CgdF-PCNy)'G`R1eG9;<soHLH5?]MT+J&V&+^tX}f9SVMLb6)%FaZa4*8b3D2I+a;?DtL&K{nR>,y2?+J'm+KqDqr0%1~Z9'L`fJ)Zl`EfF|VBF.Eh#BS~oENMgEK`}%c:0^]QR)K0'b=9ASP%30u5{S^&3vBGx&aU'b%U=oCRHapO&cdNAY:L}f#Lc::q2%JAQT#tMs:E6t6B4'B?YY)fI*(A~YI<DA,'OO'.<KV4''ex]KP8rG84s4Xh#GvG1xj<b}Z(LJBzj:m$2/e%MI-W$)%1m%S1gH`D?dC}L&.+PimA>+3tw`]-xCG;<wC&]iFU1_0riqin]1]gN$_3Ma<pa18g:%)l#3A}M7^MPRVTJ2BoJA;pqq%KGa*ZH9%*`4RC>thCbjfz+f&Nj=$mr$,Y=cv?$q*r'wBs:^^Te&.A|,,d8eF2#^=H{hpYTd9A/*_pzi]&)6%MN0o18$)L>,$sttG~;FFqiCRW$Y+FESLZPdU)OlK(_3d(B''PFqY.aZ;'=_3kHNnh7#Mp}D-^[-l{5Y2H6LQ.yDBG;>(,KZ|k='jrL?'xjRQ:i>fK=h?])Z$iZa<y-e(J68]9YRiX,fC_i<>KyT'Tz6iU#SU{ID2Q0+XL8=I~~Z3eSwS[EJj:R=-e^GJI2*y%W<+4%Da`i;z`&`FQa3#1A&qvE*pu<_n/5UE=CW618U-QJRS0a+{5FvG5ir;5+IpO)Yx~hQ$>{b7~)wF?6rk{-Ig&Tvzld'KJ:$NjlsP)B8L(&*uEImPO<_3yOR;B4Pt1~27k,q0OCQR5uYL=O$9p7KbDluJxjzFb+6:PCm=iEd<&wk8~/%:OkoAHFiKGh2eol3(*A~gyk:'NGQJ_w9Ir+5H~GyP5z>YL9P~E*AatuWH.&.i]6kBh8c#R:cv#gh+XLpoD*wy:9xozbG8=Ej$UmVM-5z}O3&MZGDDQw:,/y{h7n,G(:Knq]p&28^+&&F1E0~X`..>dv%MtstCz<_Vib)<z:vKZTqm('&AW+kyP(F=Z"
end PySem.W.Fast
abbrev q04:=@PySem.wpAny_bind
abbrev q05:=@PySem.wpAny_pure
abbrev q06:=@if_neg
abbrev q07:=@if_pos
abbrev q08:=@decide_eq_false
abbrev q09:=@decide_eq_true
abbrev q0A:=@List.getD_eq_getElem?_getD
abbrev q0B:=@List.mem_cons_self
abbrev q0C:=@List.mem_append_right
abbrev q0D:=@List.mem_append_left
abbrev q0E:=@List.take_add_one
abbrev q0F:=@List.take_of_length_le
abbrev q0G:=@Array.getElem?_toList
abbrev q0H:=@List.mem_of_mem_take
abbrev q0I:=@List.mem_of_mem_drop
abbrev q0J:=@List.length_range
abbrev q0K:=@List.map_congr_left
abbrev q0L:=@Option.getD_some
abbrev q0M:=@List.range_succ
abbrev q0N:=@List.length_zip
abbrev q0O:=@Bool.and_eq_true
abbrev q0P:=@Nat.le_of_lt
abbrev q0Q:=@absurd
abbrev q0R:=@congrArg
abbrev q0S:=@Option.some.inj
abbrev q0T:=@List.drop_eq_getElem_cons
abbrev q0U:=@List.filterMap_cons
abbrev q0V:=@Array.toList_append
abbrev q0W:=@PySem.sizeLine_eq
abbrev q0X:=@PySem.wpAny_mono
abbrev q0Y:=@PySem.wpAny_holding
abbrev q0Z:=@List.length_singleton
abbrev q0a:=@Bool.false_eq_true
abbrev q0b:=@decide_eq_true_eq
abbrev q0c:=@List.replicate_succ
theorem zzl(h:1=1:=by exact Or.inl rfl):1=1:=h
theorem zz0(h:1=1:=by rfl):1=1:=h
theorem zz1(h:1=1:=by decide):1=1:=h
theorem zz2(h:1=1:=by first | exact .inl rfl | exact .inr rfl | assumption):1=1:=h
theorem zz3(h:1=1:=by decide +kernel):1=1:=h
theorem zz4(h:1=1:=by intro _;rfl):1=1:=h
theorem zz5(h:1=1:=by first | exact Or.inl rfl | exact Or.inr (Or.inl rfl) | exact Or.inr (Or.inr rfl)):1=1:=h
local macro_rules|`(tactic|omega)=>`(tactic|first|lia|omega +splitDisjunctions)
set_option linter.all false
set_option Elab.async false
set_option maxRecDepth 100000
abbrev GW:=PySem.Value->PySem.Shared->Prop
abbrev GX:=PySem.W.Frag
abbrev GY:=List (PySem.Addr×PySem.Obj)
abbrev GZ:=List Nat
abbrev G0:=PySem.Shared
abbrev G1:=List PySem.Value
abbrev G2:=List PySem.Addr
abbrev G3:=PySem.Str->Option PySem.Value
abbrev G4:=PySem.FuncData
abbrev G5:=PySem.Program
abbrev G6:=List PySem.Str
abbrev G7:=PySem.Around
abbrev G8:=PySem.World
abbrev G9:=Option PySem.Addr
abbrev Ha:=List PySem.Expr
local macro_rules|`(term|⋯)=>`(by omega)
local macro_rules|`(term|nofun)=>`(by decide)
abbrev FZ:=@List.getElem?_eq_getElem
abbrev F0:=@List.getElem?_eq_some_iff
abbrev F1:=@PySem.Heap.get?_push_of_some
abbrev F3:=@List.length_map
abbrev F4:=@List.mem_singleton
abbrev F5:=@List.getElem?_map
abbrev F6:=@List.mem_of_getElem?
abbrev F7:=@PySem.Heap.get?_update_other
abbrev F8:=@PySem.Heap.get?_push_size
abbrev F9:=@List.size_toArray
abbrev F_:=@List.getElem_mem
abbrev F':=@Int.toNat_natCast
abbrev Ga:=@PySem.Heap.get?_update_self
abbrev Gb:=@List.length_cons
abbrev Gc:=@List.map_append
abbrev Gd:=@List.mem_append
abbrev Gf:=@List.map_map
abbrev Gg:=@List.mem_cons
abbrev Gh:=@List.mem_cons_of_mem
abbrev Gj:=@List.length_reverse
abbrev Gk:=@Nat.lt_of_lt_of_le
abbrev Gm:=@Nat.ne_of_lt
abbrev Gn:=@List.getElem?_append_right
abbrev Go:=@List.getElem?_append_left
abbrev Gp:=@List.length_append
abbrev Gq:=@Nat.le_refl
abbrev Gr:=@Nat.zero_le
abbrev Gs:=@Bool.false_ne_true
abbrev Gu:=@PySem.Heap.lt_size
abbrev Gv:=@Option.map_eq_some_iff
abbrev Gw:=@List.getElem?_cons_succ
abbrev Gx:=@List.map_cons
abbrev Gy:=@Nat.le_trans
abbrev Gz:=@Nat.lt_irrefl
abbrev GA:=@Nat.lt_succ_self
abbrev GB:=@List.append_nil
abbrev GC:=@List.append_assoc
abbrev GD:=@List.getElem?_set_self
abbrev GF:=@List.take_length
abbrev GG:=@List.length_take
abbrev GH:=@List.length_drop
abbrev GI:=@List.reverse_append
abbrev GJ:=@List.reverse_reverse
abbrev GK:=@Nat.lt_of_le_of_lt
abbrev GL:=@List.length_eq_zero_iff
abbrev GM:=@List.mem_map
abbrev GN:=@List.all_eq_true
abbrev GO:=@Nat.add_le_add_left
abbrev GP:=@List.getElem_toArray
abbrev GQ:=@List.nil_append
abbrev GR:=@Int.emod_nonneg
abbrev GS:=@Int.toNat_of_nonneg
abbrev GU:=@Nat.min_eq_left
abbrev GV:=@List.drop_zero
namespace L2
open PySem PySem.Spec PyProof.Rows
abbrev b9:=Sum Int Str
def lm:b9->Value->Bool
 | .inl k,v=>Value.isInt k v
 | .inr x,v=>Value.isStrOf x v
def Dy(w:G8):b9->Int
 | .inl k=>hashInt k
 | .inr x=>hashStr w x
theorem bN:∀{k:b9} {v:Value},lm k v=true->(∃i t,k=Sum.inl i/\v=Value.int i t)\/(∃x t,k=Sum.inr x/\v=Value.str x t)
 | .inl i,v,h=>by
  obtain⟨t,e⟩:=Value.isInt_shape (k:=i) (v:=v) h;exact .inl ⟨i,t,rfl,e⟩
 | .inr x,v,h=>by
  obtain⟨t,e⟩:=Value.isStrOf_shape (x:=x) (v:=v) h;exact .inr ⟨x,t,rfl,e⟩
theorem vT(i:Int)(t:Tok):lm (.inl i) (.int i t)=true:=by simp[lm,Value.isInt]
theorem vd(x:Str)(t:Tok):lm (.inr x) (.str x t)=true:=by simp[lm,Value.isStrOf]
theorem BX(a b:Int):decide ((Sum.inl a:b9)=Sum.inl b)=(a==b):=by
 by_cases e:a=b
 ·subst e;simp
 ·have h:¬ (Sum.inl a:b9)=Sum.inl b:=λq=>e (Sum.inl.inj q)
  rw[q08 h];exact(beq_eq_false_iff_ne.mpr e).symm
theorem AI(a b:Str):decide ((Sum.inr a:b9)=Sum.inr b)=decide (a=b):=by
 by_cases e:a=b
 ·subst e;simp
 ·have h:¬ (Sum.inr a:b9)=Sum.inr b:=λq=>e (Sum.inr.inj q)
  rw[q08 h,q08 e]
theorem A9(a:Int)(b:Str):decide ((Sum.inl a:b9)=Sum.inr b)=false:=q08 (λq=>nomatch q)
theorem A7(a:Str)(b:Int):decide ((Sum.inr a:b9)=Sum.inl b)=false:=q08 (λq=>nomatch q)
def br(prog:G5)(w:G8):PySem.KeyKind prog w b9 where
 is:=lm
 hash:=Dy w
 inj:=λv a b ha hb=>by
  rcases bN ha with⟨i,t,rfl,rfl⟩ | ⟨x,t,rfl,rfl⟩
  ·rcases bN hb with⟨j,u,rfl,e⟩ | ⟨y,u,rfl,e⟩
   ·injection e with e1 _;rw[e1]
   ·exact nomatch e
  ·rcases bN hb with⟨j,u,rfl,e⟩ | ⟨y,u,rfl,e⟩
   ·exact nomatch e
   ·injection e with e1 _;rw[e1]
 byValue:=λk v h=>by
  rcases bN h with⟨i,t,rfl,rfl⟩ | ⟨x,t,rfl,rfl⟩<;>rfl
 pyHash:=λhv h=>by
  rcases bN hv with⟨i,t,rfl,rfl⟩ | ⟨x,t,rfl,rfl⟩
  ·exact wpAny_pyHash_int h
  ·exact wpAny_pyHash_str h
 eqBool:=λhu hv h=>by
  rcases bN hu with⟨i,t,rfl,rfl⟩ | ⟨x,t,rfl,rfl⟩
  ·rcases bN hv with⟨j,u,rfl,rfl⟩ | ⟨y,u,rfl,rfl⟩
   ·rw[BX]at h;exact wpAny_eqBool_int h
   ·rw[A9]at h;exact SeqAt.EqAt.int_str i t y u _ _ _ _ h
  ·rcases bN hv with⟨j,u,rfl,rfl⟩ | ⟨y,u,rfl,rfl⟩
   ·rw[A7]at h;exact SeqAt.EqAt.str_int x t j u _ _ _ _ h
   ·rw[AI]at h;exact wpAny_eqBool_str h
 «strs»:=λk x t v h=>by
  rcases bN h with⟨i,u,rfl,e⟩ | ⟨y,u,rfl,e⟩
  ·exact nomatch e
  ·injection e with e1 _
   subst e1;cases v<;>rfl
theorem p9(prog:G5)(w:G8)(i:Int)(t:Tok):(br prog w).is (.inl i) (.int i t)=true:=vT i t
theorem qJ(prog:G5)(w:G8)(x:Str)(t:Tok):(br prog w).is (.inr x) (.str x t)=true:=vd x t
inductive V where
 |non | bl (b:Bool) | int (i:Int) | str (x:Str) | byt (b:Array UInt8) | flt (b:UInt64) | ref (a:Addr) | ty (n:String)
 deriving DecidableEq
def aR:V->Value->Prop
 | .non,u=>u=Value.none
 | .bl b,u=>u=Value.bool b
 | .int i,u=>∃t,u=Value.int i t
 | .str x,u=>∃t,u=Value.str x t
 | .byt b,u=>∃t,u=Value.bytes b t
 | .flt b,u=>∃t,u=Value.float b t
 | .ref a,u=>u=Value.ref a
 | .ty n,u=>u=Value.type n
abbrev aQ:List V->List Value->Prop:=Paired aR
theorem aQ.length{xs:List V}{us:G1}(r:aQ xs us):xs.length=us.length:=Paired.length r
theorem aQ.get:∀{xs:List V} {us:G1} {i:Nat} {x:V},aQ xs us->xs[i]?=some x->∃u,us[i]?=some u/\aR x u
 |_,_,_,_,.nil,e=>by simp at e
 |_,_,0,_,.cons r _,e=>by simp at e;subst e;exact⟨_,rfl,r⟩
 |_,_,i+1,x,.cons _ t,e=>by
  obtain⟨u,h1,h2⟩:=aQ.get (i:=i) (x:=x) t (by simpa using e);exact⟨u,by simpa using h1,h2⟩
theorem aQ.append:∀{xs ys:List V} {us ws:G1},aQ xs us->aQ ys ws->aQ (xs++ys) (us++ws)
 |_,_,_,_,.nil,s=>s
 |_,_,_,_,.cons r t,s=>.cons r (aQ.append t s)
theorem aQ.take:∀{xs:List V} {us:G1} (n:Nat),aQ xs us->aQ (xs.take n) (us.take n)
 |_,_,0,_=>.nil
 |_,_,_+1,.nil=>.nil
 |_,_,n+1,.cons r t=>.cons r (aQ.take n t)
theorem aQ.drop:∀{xs:List V} {us:G1} (n:Nat),aQ xs us->aQ (xs.drop n) (us.drop n)
 |_,_,0,r=>r
 |_,_,_+1,.nil=>.nil
 |_,_,n+1,.cons _ t=>aQ.drop n t
def gx:Option V->Option Value->Prop
 |some v,some u=>aR v u
 |none,none=>True
 |_,_=>False
def KV{κ:Type}:List (κ×V)->List (κ×Value)->Prop:=Paired fun(p:κ×V) (q:κ×Value)=>p.1=q.1/\aR p.2 q.2
def kV:b9->V
 | .inl i=>.int i
 | .inr x=>.str x
inductive HO where
  |lst (xs:List V)
  |tup (xs:List V)
  |dK (kvs:List (b9×V)) | dT (kvs:List (List b9×V))
  |set(S:Int->Bool) (n:Nat)
  |ins (C dx:Addr) (fs:List (Str×V))
  |own (x:Addr)
  |xd (fs:List (Str×V))
  |met (f x:Addr)
  |rng (lo hi:Int)
  |frz (o:Obj) (u:HO)
  |tbl (ps:Array Value)
  |ext (φ:Heap->Prop)
abbrev Hp:=Addr->Option HO
def aB(H:Hp)(a:Addr)(o:HO):Hp:=λb=>if b=a then some o else H b
theorem af{H:Hp}{a:Addr}{o:HO}:aB H a o a=some o:=by unfold aB;rw[q07 rfl]
theorem ai{H:Hp}{a b:Addr}{o:HO}(h:b≠a):aB H a o b=H b:=by unfold aB;rw[q06 h]
theorem tX{H:Hp}{a:Addr}{o u:HO}:aB (aB H a o) a u=aB H a u:=by
 funext b;unfold aB;split<;>rfl
theorem mK{H:Hp}{a b:Addr}{o u:HO}(h:H a=some o)(h':H b=some u)(d:o≠u):a≠b:=by
 intro e;subst e;rw[h]at h';exact d (q0S h')
theorem ax{H:Hp}{a b:Addr}{o:HO}(h:H a=some o)(h':H b=none):a≠b:=by
 intro e;subst e;rw[h]at h';cases h'
section
variable (P:G5)(w:G8)
def bB(H:Hp)(h:Heap)(a:Addr):HO->Prop
 | .lst xs=>xs.length<=sizeLine/\∃(its:G1) (n:Nat),aQ xs its/\h.get? a=some {cls:=.type "list",data:=.seq its.toArray n}
 | .tup xs=>xs.length<=sizeLine/\∃its:List Value,aQ xs its/\IsTup h a its.toArray
 | .dK kvs=>kvs.length<=sizeLine/\(a==sysModules)=false/\∃vs,KV kvs vs/\h.DictOf (br P w) a vs
 | .dT kvs=>kvs.length<=sizeLine/\(a==sysModules)=false/\∃xs:List (List b9×Addr×Value),
   Paired (fun(p:List b9×V) (q:List b9×Addr×Value)=>p.1=q.1/\H q.2.1=some (.tup (p.1.map kV))/\aR p.2 q.2.2) kvs xs /\
   ∃o es ep,h.get? a=some o/\o.ExactDict/\o.data=.dict es ep/\es.toList=xs.map (entryOfKey (tupleKind (br P w)))/\(xs.map (·.1)).Nodup
 | .set S n=>h.SetOf (intKind P w) a S n
 | .ins C dx fs=>H dx=some (.own a)/\fs.length<=1000/\dx≠a/\h.get? a=some (PySem.W.instObj C dx) /\
   ∃mA,h.Ns1 dx mA/\(∀f,gx (fs.lookup f) (mA f))/\PySem.Within mA (fs.map (·.1))
 | .own _=>∃o,h.get? a=some o
 | .xd fs=>∃mA,h.Ns1 a mA/\∀f,gx (fs.lookup f) (mA f)
 | .rng lo hi=>∃t u v,h.get? a=some {cls:=.type "range",data:=.fields #[.int lo t,.int hi u,.int 1 v]}
 | .frz o u=>h.get? a=some o/\bB H h a u
 | .tbl ps=>h.get? a=some {cls:=.none,data:=.fields ps}
 | .met f x=>h.get? a=some (PySem.W.methodObj (.ref f) (.ref x))
 | .ext φ=>φ h/\(∃o,h.get? a=some o)/\∀h1 h2:Heap,φ h1->(∀o,h1.get? a=some o->h2.get? a=some o)->φ h2
def gU(H:Hp)(h:Heap):Prop:=∀a o,H a=some o->bB P w H h a o
end
section
variable {P:G5}{w:G8}{H H':Hp}{h h':Heap}{a:Addr}{o:HO}
theorem bB.lt(x:bB P w H h a o):a<h.objs.size:=by
 cases o with
 |lst xs=>obtain⟨_,_,_,_,e⟩:=x;exact Gu e
 |tup xs=>obtain⟨_,_,_,p⟩:=x;exact p.lt
 |dK kvs=>obtain⟨_,_,_,_,o,_,_,e,_⟩:=x;exact Gu e
 |dT kvs=>obtain⟨_,_,_,_,o,_,_,e,_⟩:=x;exact Gu e
 |set S n=>obtain⟨o,_,_,_,e,_⟩:=x;exact Gu e
 |ins C dx fs=>obtain⟨_,_,_,e,_⟩:=x;exact Gu e
 |own y=>obtain⟨_,e⟩:=x;exact Gu e
 |xd fs=>obtain⟨_,⟨_,_,_,e,_⟩,_⟩:=x;exact Gu e
 |rng lo hi=>obtain⟨_,_,_,e⟩:=x;exact Gu e
 |frz ob u=>obtain⟨e,_⟩:=x;exact Gu e
 |tbl ps=>exact Gu (show h.get? a=some _ from x)
 |met f y=>exact Gu (show h.get? a=some _ from x)
 |ext φ=>obtain⟨_,⟨_,e⟩,_⟩:=x;exact Gu e
theorem Paired.mapP{α β:Type}{F G:α->β->Prop}:∀{l₁:List α} {l₂:List β},Paired F l₁ l₂->(∀a b,F a b->G a b)->Paired G l₁ l₂
 |_,_,.nil,_=>.nil
 |_,_,.cons r t,f=>.cons (f _ _ r) (Paired.mapP t f)
theorem bB.stay(x:bB P w H h a o)(k:∀b u,(b=a\/H b=some (.own a))->h.get? b=some u->h'.get? b=some u)
  (ho:∀b,H b=some (.own a)->H' b=some (.own a)) (ht:∀b xs,H b=some (.tup xs)->H' b=some (.tup xs)):bB P w H' h' a o:=by
 induction o with
 |lst xs=>obtain⟨z,l,n,r,e⟩:=x;exact⟨z,l,n,r,k _ _ (.inl rfl) e⟩
 |tup xs=>obtain⟨z,l,r,g,e,c⟩:=x;exact⟨z,l,r,g,k _ _ (.inl rfl) e,c⟩
 |dK kvs=>obtain⟨z,y,vs,r,g,i,j,e,c⟩:=x;exact⟨z,y,vs,r,g,i,j,k _ _ (.inl rfl) e,c⟩
 |dT kvs=>
  obtain⟨z,y,xs,r,g,i,j,e,c⟩:=x;exact⟨z,y,xs,Paired.mapP r λp q z=>⟨z.1,ht _ _ z.2.1,z.2.2⟩,g,i,j,k _ _ (.inl rfl) e,c⟩
 |set S n=>obtain⟨g,i,j,t,e,c⟩:=x;exact⟨g,i,j,t,k _ _ (.inl rfl) e,c⟩
 |ins C dx fs=>
  obtain⟨d,z,G,e,B,⟨m,i,j,I,c⟩,r⟩:=x;exact⟨ho _ d,z,G,k _ _ (.inl rfl) e,B,⟨m,i,j,k _ _ (.inr d) I,c⟩,r⟩
 |own y=>obtain⟨g,e⟩:=x;exact⟨g,k _ _ (.inl rfl) e⟩
 |xd fs=>obtain⟨B,⟨m,i,j,e,c⟩,r⟩:=x;exact⟨B,⟨m,i,j,k _ _ (.inl rfl) e,c⟩,r⟩
 |rng lo hi=>obtain⟨t,u,v,e⟩:=x;exact⟨t,u,v,k _ _ (.inl rfl) e⟩
 |frz g u ih=>obtain⟨e,q⟩:=x;exact⟨k _ _ (.inl rfl) e,ih q⟩
 |tbl ps=>
  have e:h.get? a=some {cls:=.none,data:=.fields ps}:=x;show h'.get? a=some {cls:=.none,data:=.fields ps};exact k a _ (.inl rfl) e
 |met f y=>
  have e:h.get? a=some (PySem.W.methodObj (.ref f) (.ref y)):=x;show h'.get? a=some (PySem.W.methodObj (.ref f) (.ref y));exact k a _ (.inl rfl) e
 |ext φ=>obtain⟨p,⟨o,e⟩,D⟩:=x;exact⟨D _ _ p λo q=>k _ _ (.inl rfl) q,⟨o,k _ _ (.inl rfl) e⟩,D⟩
theorem gU.lt(x:gU P w H h)(e:H a=some o):a<h.objs.size:=(x a o e).lt
theorem gU.fresh(x:gU P w H h)(e:h.objs.size<=a):H a=none:=by
 cases q:H a with
 |none=>rfl
 |some u=>exact q0Q (Gk (x.lt q) e) (Gz _)
theorem gU.kept(x:gU P w H h)(k:∀b u,h.get? b=some u->h'.get? b=some u):gU P w H h':=λa o e=>
 (x a o e).stay (λb u _ q=>k b u q) (λ_ q=>q) λ_ _ q=>q
theorem gU.laid(x:gU P w H h)(k:∀b u,h.get? b=some u->h'.get? b=some u)(hp:h.objs.size<=a)(new:bB P w (aB H a o) h' a o):gU P w (aB H a o) h':=λb u e=>by
 have hn:=x.fresh hp
 by_cases hb:b=a
 ·subst hb;rw[af]at e;cases e;exact new
 ·rw[ai hb]at e
  exact(x b u e).stay (λc v _ q=>k c v q) (λc q=>by rw[ai (ax q hn)];exact q) λc xs q=>by rw[ai (ax q hn)];exact q
end
def Rd(H:Hp)(a:Addr)(u:HO):Prop:=H a=some u\/∃o,H a=some (.frz o u)
theorem Rd.ok{P:G5}{w:G8}{H:Hp}{h:Heap}{a:Addr}{u:HO}(r:Rd H a u)(x:gU P w H h):bB P w H h a u:=by
 rcases r with r | ⟨o,r⟩
 ·exact x a u r
 ·obtain⟨_,q⟩:=x a _ r
  exact q
def B_:Option HO->Prop
 |some (.lst _)=>True
 |some (.dK _)=>True
 |some (.dT _)=>True
 |some (.set _ _)=>True
 |some (.ins _ _ _)=>True
 |some (.ext _)=>True
 |_=>False
section
variable {P:G5}{w:G8}{H:Hp}{h h':Heap}{x e:Addr}{o':HO}
theorem gU.write(ok:gU P w H h)(mu:B_ (H x))(he:e=x\/H e=some (.own x))(k:∀b u,b≠e->h.get? b=some u->h'.get? b=some u)(heo:∃u,h'.get? e=some u)
  (new:bB P w (aB H x o') h' x o'):gU P w (aB H x o') h':=λb u q=>by
 have nown:∀c y,H c=some (.own y)->c≠x:=λc y r z=>by subst z;rw[r]at mu;exact mu
 have ntup:∀c xs,H c=some (.tup xs)->c≠x:=λc xs r z=>by subst z;rw[r]at mu;exact mu
 by_cases hb:b=x
 ·subst hb;rw[af]at q;cases q;exact new
 ·rw[ai hb]at q
  by_cases hbe:b=e
  ·have q':H b=some (.own x):=by
    rcases he with z | z
    ·exact q0Q (hbe.trans z) hb
    ·rw[hbe];exact z
   rw[q]at q';cases q'
   obtain⟨v,a⟩:=heo;exact⟨v,by rw[hbe];exact a⟩
  ·refine(ok b u q).stay (λc v hc r=>k c v ?_ r) (λc r=>by rw[ai (nown c b r)];exact r) λc xs r=>by rw[ai (ntup c xs r)];exact r
   rcases hc with rfl | hc
   ·exact hbe
   ·rintro rfl
    rcases he with z | z
    ·exact nown c b hc z
    ·rw[hc]at z;cases z;exact hb rfl
end
structure Un(fs ex:G2)(H H':Hp)(h h':Heap):Prop where
 keep:∀b o,h.get? b=some o->H b=none->b∉fs->b∉ex->h'.get? b=some o
 slot:∀b o,h.get? b=some o->H b=none->b∈fs->b∉ex->∃sl,h'.get? b=some {o with slots:=sl}
 free:∀b o,h.get? b=some o->H b=none->b∉ex->H' b=none
 there:∀b o,h.get? b=some o->b∉ex->∃o',h'.get? b=some o'
 tups:∀b xs,H b=some (.tup xs)->H' b=some (.tup xs)
 frzs:∀b o u,H b=some (.frz o u)->H' b=some (.frz o u)
 tbls:∀b ps,H b=some (.tbl ps)->∃more,H' b=some (.tbl (ps++more))
section
variable {fs fs' ex ex':G2}{H H1 H2:Hp}{h h1 h2 h':Heap}{a x e:Addr}{o:HO}
theorem Un.any(u:Un fs ex H H1 h h1){b:Addr}{ob:Obj}(q:h.get? b=some ob)(n:H b=none)(hx:b∉ex):∃sl,h1.get? b=some {ob with slots:=sl}:=by
 by_cases a:b∈fs
 ·exact u.slot b ob q n a hx
 ·exact⟨ob.slots,u.keep b ob q n a hx⟩
theorem Un.kept(k:∀b u,h.get? b=some u->h'.get? b=some u):Un fs ex H H h h':=
 ⟨λb ob q _ _ _=>k b ob q,λb ob q _ _ _=>⟨ob.slots,k b ob q⟩,λ_ _ _ n _=>n,λb ob q _=>⟨ob,k b ob q⟩,λ_ _ q=>q,λ_ _ _ q=>q,λ_ ps q=>⟨#[],by rw[q];simp⟩⟩
theorem Un.refl:Un fs ex H H h h:=Un.kept λ_ _ q=>q
theorem Un.laid(k:∀b u,h.get? b=some u->h'.get? b=some u)(hp:h.objs.size<=a)(hn:H a=none):Un fs ex H (aB H a o) h h' where
 keep:=λb u q _ _ _=>k b u q
 slot:=λb u q _ _ _=>⟨u.slots,k b u q⟩
 free:=λb u q n _=>by rw[ai (Gm (Gk (Gu q) hp))];exact n
 there:=λb u q _=>⟨u,k b u q⟩
 tups:=λb xs q=>by rw[ai (ax q hn)];exact q
 frzs:=λb u xs q=>by rw[ai (ax q hn)];exact q
 tbls:=λb ps q=>⟨#[],by rw[ai (ax q hn),q];simp⟩
theorem Un.write(mu:B_ (H x))(he:e=x\/H e=some (.own x))(k:∀b u,b≠e->h.get? b=some u->h'.get? b=some u)(heo:∃u,h'.get? e=some u):Un fs ex H (aB H x o) h h':=by
 have d:∀b,H b=none->b≠x:=λb n z=>by subst z;rw[n]at mu;exact mu
 have g:∀b,H b=none->b≠e:=λb n z=>by
  subst z;rcases he with r | r
  ·exact d b n r
  ·rw[n]at r;cases r
 have c:∀b u,H b=some u->¬ B_ (some u)->b≠x:=λb u q j z=>by subst z;rw[q]at mu;exact j mu
 refine⟨λb u q n _ _=>k b u (g b n) q,λb u q n _ _=>⟨u.slots,k b u (g b n) q⟩,λb u q n _=>by rw[ai (d b n)];exact n,λb u q _=>?_,
  λb i q=>by rw[ai (c b _ q λz=>z)];exact q,λb u i q=>by rw[ai (c b _ q λz=>z)];exact q,λb ps q=>⟨#[],by rw[ai (c b _ q λz=>z),q];simp⟩⟩
 by_cases a:b=e
 ·subst a;exact heo
 ·exact⟨u,k b u a q⟩
end
def Dl(h:Heap)(H:Hp):List Addr:=(List.range h.objs.size).filter λa=>(H a).isSome
def pN(h:Heap)(H:Hp):Heap:=PySem.W.hideAll h (Dl h H)
theorem uM(h:Heap)(H:Hp):(pN h H).objs.size=h.objs.size:=PySem.W.hideAll_size _ _
theorem xW{h:Heap}{H:Hp}{b:Addr}{o:Obj}(e:h.get? b=some o)(n:H b=none):(pN h H).get? b=some o:=
 PySem.W.hideAll_get _ e λhm=>by
  have q:(H b).isSome=true:=(List.mem_filter.mp hm).2;rw[n]at q;simp at q
theorem yS{h:Heap}{H:Hp}{b:Addr}{o:Obj}(e:(pN h H).get? b=some o):h.get? b=some o/\H b=none:=by
 have a:h.get? b=some o:=PySem.W.of_hideAll (Dl h H) e;refine⟨a,?_⟩;cases q:H b with
 |none=>rfl
 |some x=>
  have c:b∈Dl h H:=List.mem_filter.mpr ⟨List.mem_range.mpr (Gu a),by simp[q]⟩;have z:(pN h H).get? b=none:=PySem.W.hideAll_none (Dl h H) c;rw[z]at e;cases e
def y4(g h:Heap)(L:Addr):List (Addr×Obj):=(List.range h.objs.size).filterMap λa=>if a=L\/(g.get? a).isSome=true then none else(h.get? a).map λo=>(a,o)
def bQ(g h:Heap)(L d:Addr):List (Addr×Obj):=(y4 g h L).filter λp=>decide (p.1≠d)
structure Mod(K:GX)(mg:G3)(base:Heap):Prop where
 kin:K.In base
 glob:base.Ns mainGlobals mg
 blt:∃mb,base.Ns builtinsNs mb/\∀x:Str,x≠"__name__"->mb x=bootBuiltins x
 nolimit:base.NoLimit
structure Cx where
 prog:Program
 w:World
 K:PySem.W.Frag
 mg:Str->Option Value
 base:Heap
 A:Around
 N:List Str
 s₀:Shared
 H₀:Hp
 env:Env
 outer:List Env
 stack:List Env
 ex:List Addr
 fn:Str->Bool
 calm:Bool
 pn:List (Addr×Obj)
 xe:Value->Shared->Prop
def tj(l:List Env):List Addr:=l.filterMap (·.frame)
abbrev Cx.fs(X:Cx):List Addr:=tj X.outer
def Di(sc:Scope)(x:Str):Prop:=sc.names.lookup x=some .local\/sc.names.lookup x=some .cell\/sc.names.lookup x=some .free
def Loc(sc:Scope)(x:Str):Prop:=sc.names.lookup x=some .local\/sc.names.lookup x=some .cell
def DS(env:Env)(h:Heap)(m:G3)(x:Str)(u:Value):Prop:=
 (env.kindOf x=some .local/\m x=some u)\/((env.kindOf x=some .cell\/env.kindOf x=some .free)/\∃c,env.cells.lookup x=some c/\h.IsCell c (some u))
structure Cx.Ok(X:Cx):Prop where
 mod:Mod X.K X.mg X.base
 kind:X.env.scope.kind=.function
 glob:X.env.globals=mainGlobals
 blt:X.env.builtins=builtinsNs
 above:X.s₀.heap.objs.size<=X.env.locals
 inj:∀x y c,X.env.cells.lookup x=some c->X.env.cells.lookup y=some c->x=y
 has:∀x,(X.env.kindOf x=some .cell\/X.env.kindOf x=some .free)->∃c,X.env.cells.lookup x=some c
 cab:∀x c,X.fn x=true->X.env.cells.lookup x=some c->X.s₀.heap.objs.size<=c
 hd:X.calm=true->X.A.handled=none
 frames:X.A.frames=some X.stack
 stk:X.stack=X.outer\/(X.stack=X.env::X.outer/\X.env.frame=some X.env.locals)
 exf:∀b∈X.ex,b≠X.env.locals/\∀x c,X.env.cells.lookup x=some c->c≠b
 bs:∀b o,X.base.get? b=some o->X.s₀.heap.get? b=some o/\X.H₀ b=none
 bsz:X.base.objs.size<=X.s₀.heap.objs.size
 noex:∀b o,X.base.get? b=some o->b∉X.ex
 exfs:∀b∈X.ex,b∉X.fs
 funs:X.s₀.heap.FunFrames X.base X.outer
 frf:∀b∈X.fs,X.H₀ b=none
structure Inv(X:Cx)(pins:GY)(σ:List (Option V))(H:Hp)(s:G0):Prop where
 ok:X.Ok
 os:s.os=X.s₀.os
 bare:AllBare s.gens
 base:Un X.fs X.ex X.H₀ H X.s₀.heap s.heap
 loc:∃m,s.heap.Ns X.env.locals m/\∀(i:Nat) (x:Str) (v:V),X.N[i]?=some x->σ[i]?=some (some v)->Di X.env.scope x->∃u,aR v u/\DS X.env s.heap m x u
 cell:∀x c,X.env.cells.lookup x=some c->∃v,s.heap.IsCell c v
 free:H X.env.locals=none
 freeC:∀x c,X.env.cells.lookup x=some c->H c=none
 pin:∀p∈X.pn++pins,s.heap.get? p.1=some p.2/\H p.1=none/\p.1≠X.env.locals/\p.1∉X.fs/\∀v,p.2.data≠.cell v
 hok:gU X.prog X.w H s.heap
 len:σ.length=X.N.length
section
variable {X:Cx}{pins:GY}{σ:List (Option V)}{H H':Hp}{s:G0}{h':Heap}
theorem Cx.Ok.nofr(ok:X.Ok){b:Addr}{o:Obj}(e:X.base.get? b=some o):b∉X.fs:=λhb=>by
 have:=(ok.funs.mem hb).1;rw[e]at this;cases this
theorem Inv.bs(I:Inv X pins σ H s):∀b o,X.base.get? b=some o->s.heap.get? b=some o/\H b=none:=λb o e=>
 ⟨I.base.keep b o (I.ok.bs b o e).1 (I.ok.bs b o e).2 (I.ok.nofr e) (I.ok.noex b o e),I.base.free b o (I.ok.bs b o e).1 (I.ok.bs b o e).2 (I.ok.noex b o e)⟩
theorem Inv.bk(I:Inv X pins σ H s):∀b o,X.base.get? b=some o->s.heap.get? b=some o:=λb o e=>(I.bs b o e).1
theorem Inv.mod(I:Inv X pins σ H s):Mod X.K X.mg X.base:=I.ok.mod
theorem Inv.kIn(I:Inv X pins σ H s):X.K.In s.heap:=I.ok.mod.kin.keeps I.bk
theorem Inv.lt(I:Inv X pins σ H s):X.env.locals<s.heap.objs.size:=let ⟨_,hn,_⟩:=I.loc;hn.lt
theorem Inv.sz(I:Inv X pins σ H s):X.s₀.heap.objs.size<=s.heap.objs.size:=Gy I.ok.above (q0P I.lt)
theorem Inv.nofs(I:Inv X pins σ H s){a:Addr}(h:s.heap.objs.size<=a):a∉X.fs:=λhb=>by
 obtain⟨_,o,ho,_⟩:=I.ok.funs.mem hb;exact q0Q (Gk (Gu ho) (Gy I.sz h)) (Gz _)
theorem Inv.cne(I:Inv X pins σ H s):∀x c,X.env.cells.lookup x=some c->c≠X.env.locals:=λx c e z=>by
 obtain⟨v,o,ho,hd⟩:=I.cell x c e;obtain⟨m,⟨o',es,ep,ho',hd',_⟩,_⟩:=I.loc;rw[z,ho']at ho;cases ho;rw[hd']at hd;cases hd
theorem Inv.funs(I:Inv X pins σ H s):s.heap.FunFrames X.base X.outer:=by
 have all:∀(l:List Env),(∀b∈tj l,b∈X.fs)->X.s₀.heap.FunFrames X.base l->s.heap.FunFrames X.base l:=by
  intro l
  induction l with
  |nil=>intro _ _;trivial
  |cons env r ih=>
   intro g k;obtain⟨m,⟨L,o,a,j,i,n⟩,hr⟩:=k;have d:L∈X.fs:=g L (by unfold tj;rw[q0U,a];exact q0B);obtain⟨sl,e⟩:=I.base.slot L o i (I.ok.frf L d) d λz=>I.ok.exfs L z d;exact⟨m,⟨L,_,a,j,e,n⟩,ih (λb c=>g b (by unfold tj;rw[q0U,a];exact Gh _ c)) hr⟩
 exact all X.outer (λ_ c=>c) I.ok.funs
theorem Inv.stack(I:Inv X pins σ H s):s.heap.FunFrames X.base X.stack:=by
 rcases I.ok.stk with e | ⟨e,b⟩
 ·rw[e];exact I.funs
 ·rw[e]
  obtain⟨m,a,_⟩:=I.loc;refine .cons (by rw[I.ok.kind];decide) b a ?_ I.funs;exact Heap.get?_none_of_le (Gy I.ok.bsz I.ok.above)
theorem Inv.stkSub(I:Inv X pins σ H s):∀b∈tj X.stack,b∈X.env.locals::X.fs:=λb hb=>by
 rcases I.ok.stk with e | ⟨e,hf⟩
 ·rw[e]at hb;exact Gh _ hb
 ·rw[e]at hb
  unfold tj at hb;rw[q0U,hf]at hb;exact hb
theorem Inv.stkFree(I:Inv X pins σ H s):∀b∈tj X.stack,H b=none:=λb hb=>by
 rcases Gg.mp (I.stkSub b hb) with e | hb
 ·rw[e];exact I.free
 ·obtain⟨_,o,ho,_⟩:=I.ok.funs.mem hb
  exact I.base.free b o ho (I.ok.frf b hb) λz=>I.ok.exfs b z hb
theorem Inv.step{g':Array GenState}{t':Nat}{d':Drawn}{ch:G2}(I:Inv X pins σ H s)
  (hch:∀b∈ch,(b∈X.ex\/X.s₀.heap.objs.size<=b)/\b≠X.env.locals/\(∀x c,X.env.cells.lookup x=some c->c≠b)/\∀p∈X.pn++pins,p.1≠b)
  (keep:∀b o,b≠X.env.locals->b∉X.fs->b∉ch->s.heap.get? b=some o->H b=none->h'.get? b=some o)
  (slot:∀b o,b≠X.env.locals->b∈X.fs->b∉ch->s.heap.get? b=some o->H b=none->∃sl,h'.get? b=some {o with slots:=sl}) (free:∀b o,b∉ch->s.heap.get? b=some o->H b=none->H' b=none)
  (there:∀b o,b∉ch->s.heap.get? b=some o->∃o',h'.get? b=some o')
  (tups:∀b xs,H b=some (.tup xs)->H' b=some (.tup xs)) (frzs:∀b o u,H b=some (.frz o u)->H' b=some (.frz o u)) (tbls:∀b ps,H b=some (.tbl ps)->∃more,H' b=some (.tbl (ps++more)))
  (ns:∀m,s.heap.Ns X.env.locals m->h'.Ns X.env.locals m) (hok:gU X.prog X.w H' h') (hg:AllBare g') :
  Inv X pins σ H' {s with heap:=h',gens:=g',drawn:=d',toks:=t' }:=by
 have D:∀b o,X.s₀.heap.get? b=some o->b≠X.env.locals:=λb o e=>Gm (Gk (Gu e) I.ok.above);have w:∀b o,X.s₀.heap.get? b=some o->b∉X.ex->b∉ch:=λb o e a B=>by
  rcases(hch b B).1 with z | z
  ·exact a z
  ·exact q0Q (Gk (Gu e) z) (Gz _)
 have j:∀x c,X.env.cells.lookup x=some c->∀v,s.heap.IsCell c v->h'.IsCell c v:=λx c e v ⟨o,C,L⟩=>by
  have g:c∉ch:=λz=>(hch c z).2.2.1 x c e rfl
  by_cases S:c∈X.fs
  ·obtain⟨sl,q⟩:=slot c o (I.cne x c e) S g C (I.freeC x c e)
   exact⟨_,q,L⟩
  ·exact⟨o,keep c o (I.cne x c e) S g C (I.freeC x c e),L⟩
 refine⟨I.ok,I.os,hg,⟨λb o e n B a=>?_,λb o e n B a=>?_,λb o e n a=>?_,λb o e a=>?_,λb xs e=>tups b xs (I.base.tups b xs e),λb o xs e=>frzs b o xs (I.base.frzs b o xs e),λb ps e=>?_⟩,?_,λx c e=>?_,?_,λx c e=>?_,λp R=>?_,hok,I.len⟩
 ·exact keep b o (D b o e) B (w b o e a) (I.base.keep b o e n B a) (I.base.free b o e n a)
 ·obtain⟨sl,y⟩:=I.base.slot b o e n B a
  obtain⟨J,G⟩:=slot b _ (D b o e) B (w b o e a) y (I.base.free b o e n a);exact⟨J,G⟩
 ·obtain⟨o',y⟩:=I.base.there b o e a
  exact free b o' (w b o e a) y (I.base.free b o e n a)
 ·obtain⟨o',y⟩:=I.base.there b o e a
  exact there b o' (w b o e a) y
 ·obtain⟨m1,y⟩:=I.base.tbls b ps e
  obtain⟨T,G⟩:=tbls b _ y;exact⟨m1++T,by rw[G,Array.append_assoc]⟩
 ·obtain⟨m,U,Y⟩:=I.loc
  refine⟨m,ns m U,λi x v y G Z=>?_⟩;obtain⟨u,r,l⟩:=Y i x v y G Z;refine⟨u,r,?_⟩;rcases l with l | ⟨k,c,e,z⟩
  ·exact .inl l
  ·exact .inr ⟨k,c,e,j x c e _ z⟩
 ·obtain⟨v,z⟩:=I.cell x c e
  exact⟨v,j x c e v z⟩
 ·obtain⟨m,⟨o,_,_,C,_⟩,_⟩:=I.loc
  exact free _ o (λz=>(hch _ z).2.1 rfl) C I.free
 ·obtain⟨v,o,C,L⟩:=I.cell x c e
  exact free c o (λz=>(hch c z).2.2.1 x c e rfl) C (I.freeC x c e)
 ·obtain⟨e,n,O,M,d⟩:=I.pin p R
  have g:p.1∉ch:=λz=>(hch p.1 z).2.2.2 p R rfl;exact⟨keep p.1 p.2 O M g e n,free p.1 p.2 g e n,O,M,d⟩
theorem Inv.un{t':Nat}(I:Inv X pins σ H s)(u:Un X.fs [] H H' s.heap h')(hok:gU X.prog X.w H' h'):Inv X pins σ H' {s with heap:=h',toks:=t' }:=by
 obtain⟨m,⟨o,es,ep,i,r⟩,_⟩:=id I.loc;obtain⟨sl,l⟩:=u.any i I.free (by simp);exact I.step (g':=s.gens) (d':=s.drawn) (ch:=[]) (λ_ z=>nomatch z) (λb o _ c _ e n=>u.keep b o e n c (by simp)) (λb o _ c _ e n=>u.slot b o e n c (by simp)) (λb o _ e n=>u.free b o e n (by simp)) (λb o _ e=>u.there b o e (by simp)) u.tups u.frzs u.tbls (λm' k=>by
  obtain⟨o',d,g,a,j⟩:=k;rw[i]at a;cases a
  exact⟨_,d,g,l,j⟩) hok I.bare
theorem Inv.call{g':Array GenState}{t':Nat}{d':Drawn}{ch:G2}(I:Inv X pins σ H s)(u:Un (tj X.stack) ch H H' s.heap h')(hok:gU X.prog X.w H' h')(hg:AllBare g')
  (hch:∀b∈ch,(b∈X.ex\/X.s₀.heap.objs.size<=b)/\b≠X.env.locals/\(∀x c,X.env.cells.lookup x=some c->c≠b)/\∀p∈X.pn++pins,p.1≠b) :
  Inv X pins σ H' {s with heap:=h',gens:=g',drawn:=d',toks:=t' }:=by
 obtain⟨m,⟨o,es,ep,k,r⟩,_⟩:=id I.loc;obtain⟨sl,g⟩:=u.any k I.free λz=>(hch _ z).2.1 rfl;exact I.step (ch:=ch) hch (λb o g v a e n=>u.keep b o e n (λz=>(Gg.mp (I.stkSub b z)).elim g v) a) (λb o _ _ a e n=>u.any e n a) (λb o a e n=>u.free b o e n a) (λb o a e=>u.there b o e a) u.tups u.frzs u.tbls (λm' q=>by
  obtain⟨o',i,j,d,l⟩:=q;rw[k]at d;cases d
  exact⟨_,i,j,g,l⟩) hok hg
theorem Inv.turned{t':Nat}{it:Addr}(I:Inv X pins σ H s)(k:∀b o,b≠it->s.heap.get? b=some o->h'.get? b=some o)(hn:H it=none)(hL:it≠X.env.locals)
  (h1:it∈X.ex\/X.s₀.heap.objs.size<=it) (h2:∀x c,X.env.cells.lookup x=some c->c≠it) (h3:∀p∈X.pn++pins,p.1≠it):Inv X pins σ H {s with heap:=h',toks:=t' }:=by
 have d:∀b u,H b=some u->b≠it:=λb u e z=>by rw[z,hn]at e;cases e
 refine I.step (g':=s.gens) (d':=s.drawn) (ch:=[it]) (λb j=>?_) (λb o _ _ a e _=>k b o (λz=>a (by simp[z])) e) (λb o _ _ a e _=>⟨o.slots,k b o (λz=>a (by simp[z])) e⟩) (λ_ _ _ _ n=>n)
  (λb o a e=>⟨o,k b o (λz=>a (by simp[z])) e⟩) (λ_ _ e=>e) (λ_ _ _ e=>e) (λb ps e=>⟨#[],by rw[e];simp⟩) (λm i=>?_) (λb u e=>?_) I.bare
 ·have e:b=it:=by simpa using j
  subst e;exact⟨h1,hL,h2,h3⟩
 ·obtain⟨o,l,w,g,r⟩:=i
  exact⟨o,l,w,k _ o (Ne.symm hL) g,r⟩
 ·refine(I.hok b u e).stay (λc v a q=>k c v ?_ q) (λ_ q=>q) λ_ _ q=>q
  rcases a with z | z
  ·rw[z];exact d b u e
  ·exact d c _ z
theorem Inv.tok(I:Inv X pins σ H s)(t:Nat):Inv X pins σ H {s with toks:=t}:=I.un (h':=s.heap) (t':=t) Un.refl I.hok
theorem Inv.kept{t':Nat}(I:Inv X pins σ H s)(k:∀b u,s.heap.get? b=some u->h'.get? b=some u):Inv X pins σ H {s with heap:=h',toks:=t' }:=I.un (Un.kept k) (I.hok.kept k)
theorem Inv.laid{a:Addr}{o:HO}{t':Nat}(I:Inv X pins σ H s)(k:∀b u,s.heap.get? b=some u->h'.get? b=some u)(hp:s.heap.objs.size<=a)(new:bB X.prog X.w (aB H a o) h' a o) :
  Inv X pins σ (aB H a o) {s with heap:=h',toks:=t' }:=I.un (Un.laid k hp (I.hok.fresh hp)) (I.hok.laid k hp new)
theorem Inv.write{x e:Addr}{o:HO}{t':Nat}(I:Inv X pins σ H s)(mu:B_ (H x))(he:e=x\/H e=some (.own x))(k:∀b u,b≠e->s.heap.get? b=some u->h'.get? b=some u)(heo:∃u,h'.get? e=some u)
  (new:bB X.prog X.w (aB H x o) h' x o):Inv X pins σ (aB H x o) {s with heap:=h',toks:=t' }:=I.un (Un.write mu he k heo) (I.hok.write mu he k heo new)
theorem Inv.pins_of{pins':GY}(I:Inv X pins σ H s)(h:∀p∈pins',s.heap.get? p.1=some p.2/\H p.1=none/\p.1≠X.env.locals/\p.1∉X.fs/\∀v,p.2.data≠.cell v):Inv X pins' σ H s:=
 ⟨I.ok,I.os,I.bare,I.base,I.loc,I.cell,I.free,I.freeC,λp hp=>(Gd.mp hp).elim (λz=>I.pin p (q0D _ z)) (h p),I.hok,I.len⟩
theorem qw{N:G6}(hN:N.Nodup){i j:Nat}{x:Str}(a:N[i]?=some x)(b:N[j]?=some x):i=j:=by
 obtain⟨h1,d⟩:=F0.mp a;obtain⟨h2,c⟩:=F0.mp b;exact(List.getElem_inj hN).mp (d.trans c.symm)
theorem nB{M:Model}{A:G7}{E:GW}{i:Nat}{x:Str}{v:V}{u:Value}{Q:Unit->Shared->Prop}(I:Inv X pins σ H s)(hN:X.N.Nodup)(hi:X.N[i]?=some x)(hx:Loc X.env.scope x)(r:aR v u)
  (h:∀s',Inv X pins (σ.set i (some v)) H s'->(∃a,Heap.SameBut a s.heap s'.heap/\(a=X.env.locals\/X.env.cells.lookup x=some a))->Q () s') (hf:autoParam (X.fn x=true\/X.env.scope.names.lookup x=some .local) zz2._auto_1):wpAny M A (storeName X.env x u) Q E s:=by
 obtain⟨m,hn,hl⟩:=id I.loc;have U:(X.env.scope.kind==.class||(X.env.scope.kind==.module&&X.env.locals != X.env.globals))=false:=by rw[I.ok.kind];rfl
 have T:i<σ.length:=by rw[I.len];exact(F0.mp hi).1
 have cne:=I.cne;have l:∀{a:Addr} {O:Heap},(∃o,s.heap.get? a=some o/\H a=none)->Heap.SameBut a s.heap O->gU X.prog X.w H O:=fun{a O} ha g b ob e=>by
  obtain⟨_,_,C⟩:=ha;refine(I.hok b ob e).stay (λc w' hc q=>(g.2 c ?_).trans q) (λ_ q=>q) λ_ _ q=>q;rintro rfl;rcases hc with rfl | hc
  ·rw[C]at e;cases e
  ·rw[C]at hc;cases hc
 rcases hx with hk | hk
 ·refine wpAny_storeName_local hk hn (λO a1 g=>?_) U
  obtain⟨oL,_,_,a0,_⟩:=id hn;refine h _ ⟨I.ok,I.os,I.bare,⟨λb o e n L hx=>?_,λb o e n L hx=>?_,I.base.free,λb o e hx=>?_,I.base.tups,I.base.frzs,I.base.tbls⟩,⟨_,a1,λj y v' B D e3=>?_⟩,λy c e=>?_,I.free,I.freeC,λp hp=>?_,l ⟨oL,a0,I.free⟩ g,by simpa using I.len⟩ ⟨_,g,.inl rfl⟩
  ·exact(g.2 b (Gm (Gk (Gu e) I.ok.above))).trans (I.base.keep b o e n L hx)
  ·obtain⟨sl,B⟩:=I.base.slot b o e n L hx
   exact⟨sl,(g.2 b (Gm (Gk (Gu e) I.ok.above))).trans B⟩
  ·obtain⟨o',B⟩:=I.base.there b o e hx
   exact⟨o',(g.2 b (Gm (Gk (Gu e) I.ok.above))).trans B⟩
  ·by_cases G:j=i
   ·subst G
    rw[hi]at B;cases B
    rw[GD T]at D;cases D;exact⟨u,r,.inl ⟨hk,by simp⟩⟩
   ·rw[List.getElem?_set_ne (Ne.symm G)]at D
    obtain⟨u',r',q⟩:=hl j y v' B D e3;refine⟨u',r',?_⟩;rcases q with⟨k,e⟩ | ⟨k,c,e,z⟩
    ·refine .inl ⟨k,?_⟩
     have:y≠x:=λe=>G (qw hN B (e▸hi));simp[this,e]
    ·exact .inr ⟨k,c,e,z.sameBut g (cne y c e)⟩
  ·obtain⟨w',z⟩:=I.cell y c e
   exact⟨w',z.sameBut g (cne y c e)⟩
  ·obtain⟨e,n,ne,nf,d⟩:=I.pin p hp
   exact⟨(g.2 p.1 ne).trans e,n,ne,nf,d⟩
 ·have J:X.fn x=true:=by
   rcases hf with z | z
   ·exact z
   ·rw[z]at hk;cases hk
  obtain⟨c,hc⟩:=I.ok.has x (.inl hk);obtain⟨w',z⟩:=I.cell x c hc;refine wpAny_storeName_cell I.ok.kind hk hc z (λO Z g=>?_);obtain⟨oc,S,R⟩:=id z;refine h {s with heap:=O } ⟨I.ok,I.os,I.bare,⟨λb o e n L hx=>?_,λb o e n L hx=>?_,I.base.free,λb o e hx=>?_,I.base.tups,I.base.frzs,I.base.tbls⟩,⟨m,hn.sameBut g (Ne.symm (cne x c hc)),λj y v' B D e3=>?_⟩,λy c' e=>?_,I.free,I.freeC,λp hp=>?_,l ⟨oc,S,I.freeC x c hc⟩ g,by simpa using I.len⟩ ⟨c,g,.inr hc⟩
  ·exact(g.2 b (Gm (Gk (Gu e) (I.ok.cab x c J hc)))).trans (I.base.keep b o e n L hx)
  ·obtain⟨sl,B⟩:=I.base.slot b o e n L hx
   exact⟨sl,(g.2 b (Gm (Gk (Gu e) (I.ok.cab x c J hc)))).trans B⟩
  ·obtain⟨o',B⟩:=I.base.there b o e hx
   exact⟨o',(g.2 b (Gm (Gk (Gu e) (I.ok.cab x c J hc)))).trans B⟩
  ·by_cases G:j=i
   ·subst G
    rw[hi]at B;cases B
    rw[GD T]at D;cases D;exact⟨u,r,.inr ⟨.inl hk,c,hc,Z⟩⟩
   ·rw[List.getElem?_set_ne (Ne.symm G)]at D
    obtain⟨u',r',q⟩:=hl j y v' B D e3;refine⟨u',r',?_⟩;rcases q with q | ⟨k,c',e,z'⟩
    ·exact .inl q
    ·refine .inr ⟨k,c',e,z'.sameBut g ?_⟩
     rintro rfl;exact G (qw hN B (I.ok.inj _ _ _ e hc▸hi))
  ·by_cases Y:c'=c
   ·subst Y;exact⟨_,Z⟩
   ·obtain⟨w2,z2⟩:=I.cell y c' e
    exact⟨w2,z2.sameBut g Y⟩
  ·obtain⟨e,n,ne,nf,d⟩:=I.pin p hp
   refine⟨(g.2 p.1 ?_).trans e,n,ne,nf,d⟩;intro q;rw[q,S]at e;have q':oc=p.2:=q0S e;exact d w' (by rw[<- q'];exact R)
theorem qh{M:Model}{A:G7}{E:GW}{i:Nat}{x:Str}{v:V}{u:Value}{Q:Unit->Shared->Prop}(I:Inv X pins σ H s)(hN:X.N.Nodup)(hi:X.N[i]?=some x)(hx:Loc X.env.scope x)(r:aR v u)
  (h:∀s',Inv X pins (σ.set i (some v)) H s'->Q () s') (hf:autoParam (X.fn x=true\/X.env.scope.names.lookup x=some .local) zz2._auto_1):wpAny M A (storeName X.env x u) Q E s:=
 nB I hN hi hx r (λs' I' _=>h s' I') hf
theorem Inv.call'{s':G0}{ch:G2}(I:Inv X pins σ H s)(ho:s'.os=s.os)(u:Un (tj X.stack) ch H H' s.heap s'.heap)(hok:gU X.prog X.w H' s'.heap)(hg:AllBare s'.gens)
  (hch:∀b∈ch,(b∈X.ex\/X.s₀.heap.objs.size<=b)/\b≠X.env.locals/\(∀x c,X.env.cells.lookup x=some c->c≠b)/\∀p∈X.pn++pins,p.1≠b):Inv X pins σ H' s':=by
 obtain⟨h',g',d',t',a⟩:=s';have e:a=s.os:=ho;subst e;exact I.call (g':=g') (t':=t') (d':=d') u hok hg hch
end
abbrev XK:=Value->Option Addr->Hp->Prop
abbrev St:=List (Option V)
abbrev VK:=V->Hp->Prop
abbrev TE:=St->Hp->VK->Prop
abbrev TT:=St->Hp->(Bool->Hp->Prop)->Prop
abbrev TA:=St->Hp->(List V->Hp->Prop)->Prop
structure fE where
 nx:St->Hp->Prop
 rt:VK
 bk:St->Hp->Prop:=λ_ _=>False
 ct:St->Hp->Prop:=λ_ _=>False
abbrev TS:=fE->St->Hp->Prop
def EP(X:Cx)(pins:GY)(σ:St)(Q:VK)(u:Value)(s':G0):Prop:=∃v H',Inv X pins σ H' s'/\aR v u/\Q v H'
def TP(X:Cx)(pins:GY)(σ:St)(Q:Bool->Hp->Prop)(b:Bool)(s':G0):Prop:=∃H',Inv X pins σ H' s'/\Q b H'
def AP(X:Cx)(pins:GY)(σ:St)(Q:List V->Hp->Prop)(us:G1)(s':G0):Prop:=∃vs H',Inv X pins σ H' s'/\aQ vs us/\Q vs H'
def SP(X:Cx)(pins:GY)(D:fE)(f:Flow)(s':G0):Prop:=
 match f with
 | .next=>∃σ' H',Inv X pins σ' H' s'/\D.nx σ' H'
 | .brk=>∃σ' H',Inv X pins σ' H' s'/\D.bk σ' H'
 | .cont=>∃σ' H',Inv X pins σ' H' s'/\D.ct σ' H'
 | .ret u=>∃v σ' H',Inv X pins σ' H' s'/\aR v u/\D.rt v H'
def PE(X:Cx)(e:Expr)(t:TE):Prop:=
 ∀(pins:GY) (s:G0) (σ:St) (H:Hp) (Q:VK),Inv X pins σ H s->t σ H Q->wpAny (model X.prog X.w) X.A (eval e X.env) (EP X pins σ Q) X.xe s
def PT(X:Cx)(e:Expr)(t:TT):Prop:=
 ∀(pins:GY) (s:G0) (σ:St) (H:Hp) (Q:Bool->Hp->Prop),Inv X pins σ H s->t σ H Q->wpAny (model X.prog X.w) X.A (isTrue e X.env (eval e X.env)) (TP X pins σ Q) X.xe s
def PW(X:Cx)(e:Expr)(t:TT):Prop:=
 ∀(whole:Sem Value) (pins:GY) (s:G0) (σ:St) (H:Hp) (Q:Bool->Hp->Prop),Inv X pins σ H s->t σ H Q->wpAny (model X.prog X.w) X.A (isTrue e X.env whole) (TP X pins σ Q) X.xe s
theorem PW.pt{X:Cx}{e:Expr}{t:TT}(h:PW X e t):PT X e t:=h _
def PA(X:Cx)(es:Ha)(t:TA):Prop:=
 ∀(pos:Pos) (pins:GY) (s:G0) (σ:St) (H:Hp) (Q:List V->Hp->Prop),Inv X pins σ H s->t σ H Q->wpAny (model X.prog X.w) X.A (spliced (backTo pos (starEach es X.env))) (AP X pins σ Q) X.xe s
def PS(X:Cx)(st:Stmt)(t:TS):Prop:=
 ∀(pins:GY) (s:G0) (σ:St) (H:Hp) (D:fE),Inv X pins σ H s->t D σ H->wpAny (model X.prog X.w) X.A (exec st X.env) (SP X pins D) X.xe s
def tR(X:Cx)(st:List Stmt)(t:TS):Prop:=
 ∀(pins:GY) (s:G0) (σ:St) (H:Hp) (D:fE),Inv X pins σ H s->t D σ H->wpAny (model X.prog X.w) X.A (execs st X.env) (SP X pins D) X.xe s
theorem bH{α:Type}{t:Sem α}{Q Q':α->Shared->Prop}{M:Model}{A:G7}{E:GW}{s:G0}(h:wpAny M A t Q E s)(hQ:∀a s,Q a s->Q' a s):wpAny M A t Q' E s:=q0X h hQ λ_ _ x=>x
section
variable {X:Cx}
def yB(i:Nat):TE:=λσ H Q=>∃v,σ[i]?=some (some v)/\Q v H
def tC(v:V):TE:=λ_ H Q=>Q v H
theorem BB{i:Nat}{x:Str}{pos:Pos}(hN:X.N[i]?=some x)(hv:Di X.env.scope x)(hd:autoParam ((x==("__debug__":Str))=false) zz1._auto_1)(hcd:autoParam ((x==("__classdict__":Str))=false) zz1._auto_1):PE X (.Name x pos) (yB i):=by
 intro b s σ H Q I h;obtain⟨v,e,h⟩:=h;obtain⟨m,g,k⟩:=I.loc;obtain⟨u,r,l⟩:=k i x v hN e hv;have fin:EP X b σ Q u s:=⟨v,H,I,r,h⟩;rcases l with⟨hk,j⟩ | ⟨hk,c,d,a⟩
 ·exact wpAny_Name (wpAny_loadName_local I.ok.kind hk g j fin) hd
 ·rcases hk with hk | hk
  ·exact wpAny_Name (wpAny_loadName_cell I.ok.kind hk d a fin) hd
  ·exact wpAny_Name (wpAny_loadName_free I.ok.kind hk d a fin hcd) hd
theorem am{i j pos}:PE X (.Constant (.int i) j pos) (tC (.int i)):=λ_ _ _ H _ I h=>wpAny_Constant_int ⟨.int i,H,I.tok _,⟨_,rfl⟩,h⟩
theorem hZ{b j pos}:PE X (.Constant (.bool b) j pos) (tC (.bl b)):=λ_ _ _ H _ I h=>Constant_bool ⟨.bl b,H,I,rfl,h⟩
theorem xY{j pos}:PE X (.Constant .none j pos) (tC .non):=λ_ _ _ H _ I h=>Constant_none ⟨.non,H,I,rfl,h⟩
theorem lg{x j pos}:PE X (.Constant (.str x) j pos) (tC (.str x)):=λ_ _ _ H _ I h=>Calls.Constant_str ⟨.str x,H,I.tok _,⟨_,rfl⟩,h⟩
def Gl(X:Cx)(x:Str):Prop:=X.env.kindOf x=some .globalImplicit
theorem ku{E:GW}{pins:GY}{s:G0}{σ:St}{H:Hp}{x:Str}{u:Value}{pos:Pos}{Q:GW}(I:Inv X pins σ H s)(hg:Gl X x)(hm:X.mg x=some u)(h:Q u s)
  (hd:autoParam ((x==("__debug__":Str))=false) zz1._auto_1):wpAny (model X.prog X.w) X.A (eval (.Name x pos) X.env) Q E s:=
 Calls.Name_function_global I.ok.kind hg (Calls.loadGlobal_global (by rw[I.ok.glob];exact I.mod.glob.keeps I.bk) hm h) hd
theorem dS{E:GW}{pins:GY}{s:G0}{σ:St}{H:Hp}{x:Str}{u:Value}{pos:Pos}{Q:GW}(I:Inv X pins σ H s)(hg:Gl X x)(hm:X.mg x=none)(hv:bootBuiltins x=some u)(h:Q u s)
  (hn:autoParam (x≠"__name__") zz1._auto_1) (hd:autoParam ((x==("__debug__":Str))=false) zz1._auto_1):wpAny (model X.prog X.w) X.A (eval (.Name x pos) X.env) Q E s:=by
 obtain⟨mb,h1,h2⟩:=I.mod.blt;exact Calls.Name_function_global I.ok.kind hg (Calls.loadGlobal_builtin (by rw[I.ok.glob];exact I.mod.glob.keeps I.bk) hm (by rw[I.ok.blt];exact h1.keeps I.bk) ((h2 x hn).trans hv) h) hd
theorem cI{x:Str}{v:V}{u:Value}{pos:Pos}(hg:Gl X x)(hm:X.mg x=some u)(r:aR v u)(hd:autoParam ((x==("__debug__":Str))=false) zz1._auto_1):PE X (.Name x pos) (tC v):=
 λ_ _ _ H _ I h=>ku I hg hm ⟨v,H,I,r,h⟩ hd
theorem gW{x:Str}{v:V}{u:Value}{pos:Pos}(hg:Gl X x)(hm:X.mg x=none)(hv:bootBuiltins x=some u)(r:aR v u)(hn:autoParam (x≠"__name__") zz1._auto_1)(hd:autoParam ((x==("__debug__":Str))=false) zz1._auto_1):PE X (.Name x pos) (tC v):=
 λ_ _ _ H _ I h=>dS I hg hm hv ⟨v,H,I,r,h⟩ hn hd
variable {a b:Expr}{ta tb:TE}{pos:Pos}
def PC(X:Cx)(op:CmpOp)(a b:Expr)(t:TE):Prop:=
 ∀(pins:GY) (s:G0) (σ:St) (H:Hp) (Q:VK),Inv X pins σ H s->t σ H Q ->
  wpAny (model X.prog X.w) X.A (eval a X.env) (λv s₁=>wpAny (model X.prog X.w) X.A (eval b X.env) (λu s₂=>wpAny (model X.prog X.w) X.A (compareOp op v u) (EP X pins σ Q) X.xe s₂) X.xe s₁) X.xe s
theorem yE(b:Expr){op:CmpOp}(h:op≠.In)(h2:op≠.NotIn):behindInMarks op b=false:=by
 have c:(op==CmpOp.In)=false:=by cases op<;>first | rfl | exact q0Q rfl h
 have a:(op==CmpOp.NotIn)=false:=by cases op<;>first | rfl | exact q0Q rfl h2
 cases b<;>simp[behindInMarks,c,a]
def tB(t:TE):TT:=λσ H Q=>t σ H λx H1=>∃c,x=.bl c/\Q c H1
theorem pP{op:CmpOp}{t:TE}(h:PC X op a b t)(h1:behindInMarks op b=false:=by first | exact yE _ nofun nofun | rfl):PT X (.Compare a [op] [b] pos) (tB t):=by
 intro e s σ H Q I hw;refine wpAny_isTrue_Compare1 (bH (h e s σ H _ I hw) λv s1 h1=>bH h1 λu s2 h2=>bH h2 λc s3 ⟨x,H1,j,g,i⟩=>?_) h1;obtain⟨d,rfl,q⟩:=i;cases g;exact wpAny_truthy_bool ⟨H1,j,q⟩
variable {tA tB':TT}{bQ:Ha}
def Bv(t u:TT):TT:=λσ H Q=>t σ H λc H1=>if c=true then u σ H1 Q else Q false H1
def DP(t u:TT):TT:=λσ H Q=>t σ H λc H1=>if c=true then Q true H1 else u σ H1 Q
def BV(t:TT):TT:=λσ H Q=>t σ H λc H1=>Q (!c) H1
theorem oS(ha:PT X a tA):PW X (.BoolOp .And [a] pos) tA:=by
 intro wh b s σ H Q I h;refine isTrue_and (bH (ha b s σ H Q I h) λc s1 e=>?_);cases c with
 |true=>exact isTrue_and_nil e
 |false=>exact e
theorem lc(ha:PT X a tA):PW X (.BoolOp .Or [a] pos) tA:=by
 intro wh b s σ H Q I h;refine isTrue_or (bH (ha b s σ H Q I h) λc s1 e=>?_);cases c with
 |false=>exact isTrue_or_nil e
 |true=>exact e
theorem sM(ha:PT X a tA)(hb:PW X (.BoolOp .And (b::bQ) pos) tB'):PW X (.BoolOp .And (a::b::bQ) pos) (Bv tA tB'):=by
 intro i d s σ H Q I h;refine isTrue_and (bH (ha d s σ H _ I h) λc j ⟨H1,g,e⟩=>?_);cases c with
 |true=>exact hb i d j σ H1 Q g e
 |false=>exact⟨H1,g,e⟩
theorem lM(ha:PT X a tA)(hb:PW X (.BoolOp .Or (b::bQ) pos) tB'):PW X (.BoolOp .Or (a::b::bQ) pos) (DP tA tB'):=by
 intro i d s σ H Q I h;refine isTrue_or (bH (ha d s σ H _ I h) λc j ⟨H1,g,e⟩=>?_);cases c with
 |true=>exact⟨H1,g,e⟩
 |false=>exact hb i d j σ H1 Q g e
theorem dN(ha:PT X a tA):PT X (.UnaryOp .Not a pos) (BV tA):=by
 intro b s σ H Q I h;exact isTrue_not (ha b s σ H (λc H1=>Q (!c) H1) I h)
def wJ(ta tb:TE):TE:=λσ H Q=>ta σ H λx H1=>∃c,x=.bl c/\if c=true then tb σ H1 Q else Q (.bl false) H1
def wY(ta:TE):TE:=λσ H Q=>ta σ H λx H1=>∃c,x=.bl c/\Q (.bl (!c)) H1
theorem sF{op}{t:TE}(h:PE X a t):PE X (.BoolOp op [a] pos) t:=λpins s σ H Q I hw=>BoolOp_one (h pins s σ H Q I hw)
theorem nX(ha:PE X a ta)(hb:PE X (.BoolOp .And (b::bQ) pos) tb):PE X (.BoolOp .And (a::b::bQ) pos) (wJ ta tb):=by
 intro d s σ H Q I h;refine BoolOp_and (bH (ha d s σ H _ I h) λv i ⟨x,H1,g,j,e⟩=>?_);obtain⟨c,rfl,e⟩:=e;cases j;refine wpAny_truthy_bool ?_;cases c with
 |true=>exact hb d i σ H1 Q g e
 |false=>exact⟨.bl false,H1,g,rfl,e⟩
theorem Bg(ha:PE X a ta):PE X (.UnaryOp .Not a pos) (wY ta):=by
 intro b s σ H Q I h;refine UnaryOp_ (bH (ha b s σ H _ I h) λv s1 ⟨x,H1,g,e,d⟩=>?_);obtain⟨c,rfl,d⟩:=d;cases e;exact not_of (wpAny_truthy_bool ⟨.bl (!c),H1,g,rfl,d⟩)
def Dx(t:TT)(ta tb:TE):TE:=λσ H Q=>t σ H λc H1=>if c=true then ta σ H1 Q else tb σ H1 Q
theorem wR{c:Expr}(hc:PT X c tA)(ha:PE X a ta)(hb:PE X b tb):PE X (.IfExp c a b pos) (Dx tA ta tb):=by
 intro e s σ H Q I h;refine wpAny_IfExp (bH (hc e s σ H _ I h) λd g ⟨H1,j,i⟩=>?_);cases d with
 |true=>exact ha e g σ H1 Q j i
 |false=>exact hb e g σ H1 Q j i
end
def aT(K:GX)(H:Hp)(a:Addr)(xs:List V):Prop:=
 Rd H a (.lst xs) \/
  ∃(o:Obj) (its:Array Value) (n:Nat),K.lookup a=some o/\o.cls=.type "list"/\o.dict=none/\o.data=.seq its n/\its.size<=sizeLine/\aQ xs its.toList
def jv(K:GX)(H:Hp)(a:Addr)(xs:List V):Prop:=
 Rd H a (.tup xs) \/
  ∃(o:Obj) (its:Array Value) (n:Nat),K.lookup a=some o/\o.cls=.type "tuple"/\o.data=.seq its n/\its.size<=sizeLine/\aQ xs its.toList
def D7:Value->Option V
 | .none=>some .non
 | .bool b=>some (.bl b)
 | .int i _=>some (.int i)
 | .str x _=>some (.str x)
 | .bytes b _=>some (.byt b)
 | .float b _=>some (.flt b)
 | .ref a=>some (.ref a)
 | .type n=>some (.ty n)
 |_=>none
theorem aR.abs{x:V}{u:Value}(r:aR x u):D7 u=some x:=by
 cases x with
 |non=>cases r;rfl
 |bl _=>cases r;rfl
 |int _=>obtain⟨t,rfl⟩:=r;rfl
 |str _=>obtain⟨t,rfl⟩:=r;rfl
 |byt _=>obtain⟨t,rfl⟩:=r;rfl
 |flt _=>obtain⟨t,rfl⟩:=r;rfl
 |ref _=>cases r;rfl
 |ty _=>cases r;rfl
theorem aR.inj{x y:V}{u:Value}(r:aR x u)(q:aR y u):x=y:=q0S (r.abs.symm.trans q.abs)
theorem aQ.inj:∀{xs ys:List V} {us:G1},aQ xs us->aQ ys us->xs=ys
 |_,_,_,.nil,.nil=>rfl
 |_,_,_,.cons r t,.cons r' t'=>by rw[r.inj r',aQ.inj t t']
section
variable {X:Cx}{pins:GY}{σ:St}{H:Hp}{s:G0}{a:Addr}{xs ys:List V}
theorem aT.of{K:GX}(h:H a=some (.lst xs)):aT K H a xs:=.inl (.inl h)
theorem jv.of{K:GX}(h:H a=some (.tup xs)):jv K H a xs:=.inl (.inl h)
theorem Inv.list(I:Inv X pins σ H s)(h:aT X.K H a xs):∃its:List Value,aQ xs its/\PlainL s.heap a its.toArray/\xs.length<=sizeLine:=by
 rcases h with h | ⟨o,its,n,c,g,d,b,hz,r⟩
 ·obtain⟨z,its,n,r,e⟩:=h.ok I.hok
  exact⟨its,r,⟨_,n,e,rfl,rfl,rfl⟩,z⟩
 ·refine⟨its.toList,r,⟨o,n,I.kIn a o c,g,d,by simpa using b⟩,?_⟩
  have e:=r.length;simp only[Array.length_toList]at e;omega
theorem Inv.tuple(I:Inv X pins σ H s)(h:jv X.K H a xs):∃its:List Value,aQ xs its/\IsTup s.heap a its.toArray/\xs.length<=sizeLine:=by
 rcases h with h | ⟨o,its,n,c,d,b,hz,r⟩
 ·obtain⟨z,its,r,p⟩:=h.ok I.hok
  exact⟨its,r,p,z⟩
 ·refine⟨its.toList,r,⟨o,I.kIn a o c,d,n,by simpa using b⟩,?_⟩
  have e:=r.length;simp only[Array.length_toList]at e;omega
theorem Inv.list_inj(I:Inv X pins σ H s)(h:aT X.K H a xs)(h':aT X.K H a ys):xs=ys:=by
 obtain⟨c,r,⟨o,n,e,_,_,d⟩,_⟩:=I.list h;obtain⟨b,j,⟨o',n',g,_,_,i⟩,_⟩:=I.list h';rw[e]at g;cases g
 rw[d]at i
 injection i with d1 _
 have:c=b:=by simpa using q0R Array.toList d1
 subst this;exact r.inj j
end
abbrev Cx.wish(X:Cx)(E:GW):Cx:={X with xe:=E}
abbrev Cx.nox(X:Cx):Cx:=X.wish λ_ _=>False
theorem Cx.Ok.wish{X:Cx}(ok:X.Ok)(E:GW):(X.wish E).Ok:=
 ⟨ok.mod,ok.kind,ok.glob,ok.blt,ok.above,ok.inj,ok.has,ok.cab,ok.hd,ok.frames,ok.stk,ok.exf,ok.bs,ok.bsz,ok.noex,ok.exfs,ok.funs,ok.frf⟩
theorem Cx.Ok.unwish{X:Cx}{E:GW}(ok:(X.wish E).Ok):X.Ok:=
 ⟨ok.mod,ok.kind,ok.glob,ok.blt,ok.above,ok.inj,ok.has,ok.cab,ok.hd,ok.frames,ok.stk,ok.exf,ok.bs,ok.bsz,ok.noex,ok.exfs,ok.funs,ok.frf⟩
section
variable {X:Cx}{pins:GY}{σ:St}{H:Hp}{s:G0}{E:GW}
theorem Inv.wish(I:Inv X pins σ H s)(E:GW):Inv (X.wish E) pins σ H s:=⟨I.ok.wish E,I.os,I.bare,I.base,I.loc,I.cell,I.free,I.freeC,I.pin,I.hok,I.len⟩
theorem Inv.unwish(I:Inv (X.wish E) pins σ H s):Inv X pins σ H s:=⟨I.ok.unwish,I.os,I.bare,I.base,I.loc,I.cell,I.free,I.freeC,I.pin,I.hok,I.len⟩
theorem SP.unwish{D:fE}{f:Flow}{s':G0}(h:SP (X.wish E) pins D f s'):SP X pins D f s':=by
 cases f with
 |next=>obtain⟨σ',a,I,q⟩:=h;exact⟨σ',a,I.unwish,q⟩
 |brk=>obtain⟨σ',a,I,q⟩:=h;exact⟨σ',a,I.unwish,q⟩
 |cont=>obtain⟨σ',a,I,q⟩:=h;exact⟨σ',a,I.unwish,q⟩
 |ret u=>obtain⟨v,σ',a,I,r,q⟩:=h;exact⟨v,σ',a,I.unwish,r,q⟩
theorem tR.nox{st:List Stmt}{t:TS}(h:tR X.nox st t):tR X st t:=λpins s σ H D I hw=>
 q0X (h pins s σ H D (I.wish _) hw) (λ_ _ q=>q.unwish) λ_ _ z=>False.elim z
end
section
variable {X:Cx}{st:Stmt}{bQ:List Stmt}{t u:TS}{e:Expr}{te:TE}{pos:Pos}
def yj:TS:=λD σ H=>D.nx σ H
def vB(t u:TS):TS:=λD σ H=>t {D with nx:=u D} σ H
theorem bi:tR X [] yj:=λ_ _ σ H _ I h=>wpAny_execs_nil ⟨σ,H,I,h⟩
theorem ae(h1:PS X st t)(h2:tR X bQ u):tR X (st::bQ) (vB t u):=by
 intro a s σ H D I h;refine wpAny_execs_cons (bH (h1 a s σ H {D with nx:=u D} I h) λf b q=>?_);cases f with
 |next=>
  obtain⟨σ',d,c,q⟩:=q;exact h2 a b σ' d D c q
 |ret v=>exact q
 |brk=>exact q
 |cont=>exact q
theorem ag(h1:PS X st t):tR X [st] t:=by
 intro a s σ H D I h;refine wpAny_execs_cons (bH (h1 a s σ H D I h) λf s1 q=>?_);cases f with
 |next=>exact wpAny_execs_nil q
 |ret v=>exact q
 |brk=>exact q
 |cont=>exact q
theorem Inv.quiet{pins:GY}{σ:St}{H:Hp}{s:G0}(I:Inv X pins σ H s):interactive X.env=false:=by simp[interactive,I.ok.kind]
def uG(te:TE):TS:=λD σ H=>te σ H λ_ H1=>D.nx σ H1
theorem bT(he:PE X e te)(hs:autoParam (swapsWith e none pos.line X.env=pure false) zz0._auto_1):PS X (.Expr e pos) (uG te):=by
 intro a s σ H D I h;exact wpAny_Expr_any (bH (he a s σ H _ I h) λv s1 ⟨x,H1,c,r1,b⟩=>⟨σ,H1,c,b⟩) I.quiet hs
def BN(te:TE):TS:=λD σ H=>te σ H D.rt
theorem aO(he:PE X e te):PS X (.Return (some e) pos) (BN te):=by
 intro a s σ H D I h;exact wpAny_Return_some (bH (he a s σ H _ I h) λv s1 ⟨x,H1,d,b,c⟩=>⟨x,σ,H1,d,b,c⟩)
def zo(c:TT)(t u:TS):TS:=λD σ H=>c σ H λb H1=>if b=true then t D σ H1 else u D σ H1
theorem cz{c:Expr}{a b:List Stmt}{tc:TT}(hc:PT X c tc)(ha:tR X a t)(hb:tR X b u):PS X (.If c a b pos) (zo tc t u):=by
 intro e s σ H D I h;refine wpAny_If (bH (hc e s σ H _ I h) λd g ⟨H1,j,i⟩=>?_);cases d with
 |true=>exact ha e g σ H1 D j i
 |false=>exact hb e g σ H1 D j i
end
abbrev TG:=V->St->Hp->(St->Hp->Prop)->Prop
abbrev Aw:=List V->St->Hp->(St->Hp->Prop)->Prop
def PG(X:Cx)(target:Expr)(t:TG):Prop:=
 ∀(pins:GY) (s:G0) (σ:St) (H:Hp) (v:V) (u:Value) (Q:St->Hp->Prop),Inv X pins σ H s->aR v u->t v σ H Q ->
  wpAny (model X.prog X.w) X.A (assign target X.env u) (λ_ s'=>∃σ' H',Inv X pins σ' H' s'/\Q σ' H') X.xe s
def Cd(X:Cx)(ts:Ha)(t:Aw):Prop:=
 ∀(pins:GY) (s:G0) (σ:St) (H:Hp) (vs:List V) (us:G1) (Q:St->Hp->Prop),Inv X pins σ H s->aQ vs us->t vs σ H Q ->
  wpAny (model X.prog X.w) X.A (assignInOrder ((assignEach ts X.env).map (·.2)) us) (λ_ s'=>∃σ' H',Inv X pins σ' H' s'/\Q σ' H') X.xe s
section
variable {X:Cx}{pos:Pos}
def iI(i:Nat):TG:=λv σ H Q=>Q (σ.set i (some v)) H
theorem aE{i:Nat}{x:Str}(hN:X.N.Nodup)(hi:X.N[i]?=some x)(hx:Loc X.env.scope x)(hf:autoParam (X.fn x=true\/X.env.scope.names.lookup x=some .local) zz2._auto_1):PG X (.Name x pos) (iI i):=by
 intro pins s σ H v u Q I r h;exact wpAny_assign_Name (qh I hN hi hx r (λs' a=>⟨_,H,a,h⟩) hf)
theorem q02(i:Nat){x:Str}(hN:X.N.Nodup)(hi:autoParam (X.N[i]?=some x) zz0._auto_1)(hx:autoParam (Loc X.env.scope x) zzl._auto_1)(hf:autoParam (X.fn x=true\/X.env.scope.names.lookup x=some .local) zz2._auto_1):PG X (.Name x pos) (iI i):=aE hN hi hx hf
def Ag:Aw:=λvs σ H Q=>vs=[]/\Q σ H
def ut(t:TG)(u:Aw):Aw:=λvs σ H Q=>∃v r,vs=v::r/\t v σ H λσ' H'=>u r σ' H' Q
theorem i7:Cd X [] Ag:=by
 intro pins s σ H vs us Q I r h;obtain⟨e,h⟩:=h;subst e;cases r;exact assignInOrder_nil ⟨σ,H,I,h⟩
theorem cC{e:Expr}{es:Ha}{t:TG}{u:Aw}(h1:PG X e t)(h2:Cd X es u)
  (hs:autoParam ((assignEach (e::es) X.env).map (·.2)=assign e X.env::(assignEach es X.env).map (·.2)) zz0._auto_1):Cd X (e::es) (ut t u):=by
 intro a s σ H vs us Q I r h;obtain⟨v,vr,d,h⟩:=h;subst d;cases r with
 |cons r rr=>
  rw[hs];refine assignInOrder_cons (bH (h1 a s σ H _ _ _ I r h) λ_ b ⟨σ1,H1,g,c⟩=>?_);exact h2 a b σ1 H1 _ _ Q g rr c
def ym(K:GX)(n:Nat)(t:Aw):TG:=λv σ H Q=>∃a xs,v=.ref a/\jv K H a xs/\xs.length=n/\t xs σ H Q
theorem lx{es:Ha}{k:Nat}{t:Aw}{n:Nat}(hc:X.calm=true)(h:Cd X es t)
  (hn:autoParam ((assignEach es X.env).length=n) zz0._auto_1) (hst:autoParam ((assignEach es X.env).findIdx? (·.1)=none) zz0._auto_1):PG X (.Tuple es k pos) (ym X.K n t):=by
 intro c s σ H v u Q I r d;obtain⟨a,i,w,m,p,d⟩:=d;subst w;cases r;obtain⟨its,g,l,hz⟩:=I.tuple m;refine assign_Tuple_tuple (I.ok.hd hc) l (by simp[hn,<- p,g.length]) hst λq j=>?_;have x:Inv X c σ H {s with heap:=q }:=I.kept (t':=s.toks) λb o e=>j b o (Gm (Gu e)) e;exact h c _ σ H i _ Q x (by simpa using g) d
def xy(te:TE)(g:TG):TS:=λD σ H=>te σ H λx H1=>g x σ H1 D.nx
theorem aJ{i:Nat}{x:Str}{e:Expr}{te:TE}{pos':Pos}(hN:X.N.Nodup)(hi:X.N[i]?=some x)(hx:Loc X.env.scope x)(he:PE X e te)(hs:autoParam (swapsWith e (some (.Name x pos')) pos.line X.env=pure false) zz0._auto_1)(hf:autoParam (X.fn x=true\/X.env.scope.names.lookup x=some .local) zz2._auto_1) :
  PS X (.Assign [.Name x pos'] e pos) (xy te (iI i)):=by
 intro a s σ H D I h;refine wpAny_Assign_Name (bH (he a s σ H _ I h) λv s1 ⟨y,H1,g,b,c⟩=>?_) hs;exact qh g hN hi hx b (λs2 d=>⟨_,H1,d,c⟩) hf
theorem q01(i:Nat){x:Str}{e:Expr}{te:TE}{pos':Pos}(hN:X.N.Nodup)(he:PE X e te)(hi:autoParam (X.N[i]?=some x) zz0._auto_1)(hx:autoParam (Loc X.env.scope x) zzl._auto_1)(hs:autoParam (swapsWith e (some (.Name x pos')) pos.line X.env=pure false) zz0._auto_1)(hf:autoParam (X.fn x=true\/X.env.scope.names.lookup x=some .local) zz2._auto_1):
  PS X (.Assign [.Name x pos'] e pos) (xy te (iI i)):=aJ hN hi hx he hs hf
def sK(c:TT)(tb:TS):TS:=λD σ H=>∃W:Nat->St->Hp->Prop,(∃m,W m σ H)/\∀m σ H,W m σ H ->
 c σ H λb H1=>if b=true then ∃N:St->Hp->Prop,(∀σ' H',N σ' H'->∃m',m'<m/\W m' σ' H')/\tb {D with nx:=N,ct:=N,bk:=D.nx} σ H1 else D.nx σ H1
theorem xQ{c:Expr}{body:List Stmt}{tc:TT}{tb:TS}(hp:PassesOwn (model X.prog X.w) X.A X.env X.xe)(hc:PT X c tc)(hb:tR X body tb):PS X (.While c body [] pos) (sK tc tb):=by
 intro a s σ H D I h;obtain⟨W,⟨m0,u⟩,d⟩:=h;refine wpAny_While (codeAny_whileLoop (λn y=>∃σ' H',Inv X a σ' H' y/\W n σ' H') ?_ m0 ⟨σ,H,I,u⟩);rintro n x ⟨σ1,H1,z,r⟩;refine wpAny_passesOwn hp (bH (hc a x σ1 H1 _ z (d n σ1 H1 r)) λb w ⟨H2,q,i⟩=>?_);cases b with
 |true=>
  obtain⟨N,p,i⟩:=i;rw[q07 rfl];refine wpAny_passesOwn hp (bH (hb a w σ1 H2 _ q i) λf s3 g=>?_);cases f with
  |next=>
   obtain⟨σ3,e,o,k⟩:=g;obtain⟨l,m,j⟩:=p σ3 e k;exact⟨l,m,σ3,e,o,j⟩
  |cont=>
   obtain⟨σ3,e,o,k⟩:=g;obtain⟨l,m,j⟩:=p σ3 e k;exact⟨l,m,σ3,e,o,j⟩
  |brk=>exact g
  |ret v=>exact g
 |false=>
  rw[q06 Gs];exact wpAny_execs_nil ⟨σ1,H2,q,i⟩
end
structure It where
 go:Nat->Hp->Prop
 yld:Nat->Hp->V->Hp->Prop
 stop:Nat->Hp->Prop
def jX(X:Cx)(pins:GY)(H:Hp)(b:Addr):Prop:=
 H b=none/\b≠X.env.locals/\b∉X.fs/\(b∈X.ex\/X.s₀.heap.objs.size<=b)/\(∀x c,X.env.cells.lookup x=some c->c≠b)/\∀p∈X.pn++pins,p.1≠b
theorem Inv.fpOk{X:Cx}{pins:GY}{σ:St}{H H':Hp}{s:G0}{b:Addr}(I:Inv X pins σ H s)(hb:s.heap.objs.size<=b)(hn:H' b=none):jX X pins H' b:=by
 refine⟨hn,Nat.ne_of_gt (Gk I.lt hb),I.nofs hb,.inr (Gy I.sz hb),λx c e z=>?_,λp a z=>?_⟩
 ·obtain⟨v,q⟩:=I.cell x c e
  exact q0Q (Gk q.lt (by rw[z];exact hb)) (Gz _)
 ·exact q0Q (Gk (Gu (I.pin p a).1) (by rw[z];exact hb)) (Gz _)
structure q9(P:G5)(w:G8)(K:GX)(tg:Expr)(J:It)(fp:G2)(it:Addr)(tn:Nat->Heap->Prop):Prop where
 mem:it∈fp
 obj:∀i h,tn i h->∀b∈fp,∃o,h.get? b=some o/\∀v,o.data≠.cell v
 keep:∀i h h',tn i h->(∀b∈fp,∀o,h.get? b=some o->h'.get? b=some o)->tn i h'
 item:∀(X:Cx),X.prog=P->X.w=w->X.K=K->X.calm=true->∀(i:Nat) (pins:GY) (s:G0) (σ:St) (H:Hp) (E:GW),Inv X pins σ H s->(∀b∈fp,jX X pins H b)->tn i s.heap->J.go i H ->
  wpAny (model P w) X.A (pyNext (.ref it)) (λr s1=>∃u,r=some u /\
   wpAny (model P w) X.A (letOwnedTupleGo tg (.ref it) u) (λ_ s2=>∃x H',Inv X pins σ H' s2/\aR x u/\J.yld i H x H'/\tn (i+1) s2.heap/\∀b∈fp,H' b=none) E s1) E s
 done:∀(X:Cx),X.prog=P->X.w=w->X.K=K->X.calm=true->∀(i:Nat) (pins:GY) (s:G0) (σ:St) (H:Hp) (E:GW),Inv X pins σ H s->(∀b∈fp,jX X pins H b)->tn i s.heap->J.stop i H ->
  wpAny (model P w) X.A (pyNext (.ref it)) (λr s1=>r=none/\Inv X pins σ H s1) E s
 self:∀(A:G7) (i:Nat) (s:G0) (Q:GW) (E:GW),tn i s.heap->Q (.ref it) s->wpAny (model P w) A (pyIter (.ref it)) Q E s
abbrev TI:=St->Hp->(It->Hp->Prop)->Prop
def Ei(X:Cx)(pins:GY)(σ:St)(tg:Expr)(R:It->Hp->Prop)(itv:Value)(s2:G0):Prop:=
 ∃(it:Addr) (fp:G2) (tn:Nat->Heap->Prop) (J:It) (H':Hp),itv=.ref it/\Inv X pins σ H' s2/\q9 X.prog X.w X.K tg J fp it tn/\tn 0 s2.heap/\(∀b∈fp,jX X pins H' b)/\R J H'
def PI(X:Cx)(tg iter:Expr)(wi:TI):Prop:=
 ∀(pins:GY) (s:G0) (σ:St) (H:Hp) (R:It->Hp->Prop),Inv X pins σ H s->wi σ H R ->
  wpAny (model X.prog X.w) X.A (eval iter X.env) (λv s1=>wpAny (model X.prog X.w) X.A (pyIter v) (Ei X pins σ tg R) X.xe s1) X.xe s
theorem pT{M:Model}{A:G7}{E:GW}{s:G0}{tg:Expr}{it:Addr}{u:Value}{o:Obj}{n:String}{vs:Array Value}{Q:Unit->Shared->Prop}(ho:s.heap.get? it=some o)(hc:o.cls=.type n)(hd:o.data=.fields vs)
  (hn:["enumerate","zip","dict_itemiterator","dict_reverseitemiterator","odict_iterator","itertools.zip_longest","itertools.pairwise"].contains n=false) (hQ:Q () s):wpAny M A (letOwnedTupleGo tg (.ref it) u) Q E s:=by
 unfold letOwnedTupleGo;cases tg<;>first
  |exact q05 hQ
  | (cases u<;>first
    |exact q05 hQ
    | (refine q04 (wpAny_load ho ?_)
       rw[hc,hd];show wpAny M A (if(["enumerate","zip","dict_itemiterator","dict_reverseitemiterator","odict_iterator","itertools.zip_longest","itertools.pairwise"].contains n&&vs[0]?==some (rawInt _))=true then _ else _) Q E s;rw[q06 (by intro h;rw[hn,Bool.false_and]at h;cases h)];exact q05 hQ))
def yI(K:GX)(a:Addr):It:=
 ⟨λi H=>∃xs x,aT K H a xs/\xs[i]?=some x,λi H x H'=>H'=H/\∀xs,aT K H a xs->xs[i]?=some x,λi H=>∃xs,aT K H a xs/\xs.length<=i⟩
def vk(lo:Int)(n:Nat):It:=⟨λi _=>i<n,λi H x H'=>H'=H/\x=.int (lo+i),λi _=>n<=i⟩
theorem vt{P:G5}{w:G8}{K:GX}{tg:Expr}(a it:Addr):q9 P w K tg (yI K a) [it] it (λi h=>h.IsListIter it a i) where
 mem:=by simp
 obj:=λi h g b l=>by
  have e:b=it:=by simpa using l
  subst e;obtain⟨o,e,c,d⟩:=g;exact⟨o,e,λv z=>by rw[d]at z;cases z⟩
 keep:=λi h q g k=>g.at λo e=>k it (by simp) o e
 item:=by
  intro X D C G S i j s σ H E I hf g hg;subst D C G;obtain⟨T,x,n,B⟩:=hg;obtain⟨y,r,p,Z⟩:=I.list n;obtain⟨u,hu,Y⟩:=r.get B;obtain⟨R,O,f2,M,L,J⟩:=hf it (by simp);refine wpAny_pyNext_list_item g p.isList (x:=u) (by simpa using hu) λq m U=>?_;have I1:Inv X j σ H {s with heap:=q }:=I.turned (t':=s.toks) (λb o l e=>(U.2 b l).trans e) R O M L J;obtain⟨o,e,c,d⟩:=id m;exact⟨u,rfl,pT (s:={s with heap:=q }) e c d nofun ⟨x,H,I1,Y,⟨rfl,λys hy=>by rw[I.list_inj hy n];exact B⟩,m,λb l=>(hf b l).1⟩⟩
 done:=by
  intro X D C G S i j s σ H E I hf g hg;subst D C G;obtain⟨T,n,B⟩:=hg;obtain⟨y,r,p,Z⟩:=I.list n;obtain⟨R,O,f2,M,L,J⟩:=hf it (by simp);have hl:=r.length;exact wpAny_pyNext_list_end (I.ok.hd S) g p.isList (by simp;omega) λq eb=>⟨rfl,I.turned (t':=s.toks) (λb o l e=>eb b o l e) R O M L J⟩
 self:=λ_ _ _ _ _ g h=>wpAny_pyIter_listiter g h
theorem sU{P:G5}{w:G8}{K:GX}{tg:Expr}(it:Addr)(lo:Int)(n:Nat):q9 P w K tg (vk lo n) [it] it (λi h=>IsRangeIter h it (lo+(i:Nat)*1) ((n:Int)-(i:Nat)) 1) where
 mem:=by simp
 obj:=λi h a b d=>by
  have e:b=it:=by simpa using d
  subst e;exact⟨_,a,λv z=>by
   have D:Data.fields _=Data.cell v:=z;cases D⟩
 keep:=λi h j a k=>k it (by simp) _ a
 item:=by
  intro X p l q m i c s σ H E I hf a hg;subst p l q;obtain⟨B,y,f2,x,u,r⟩:=hf it (by simp);have W:=Walks.range (prog:=X.prog) (w:=X.w) (I.ok.hd m) it lo 1 n;refine W.item i s _ _ hg a λv j C J g G=>?_;obtain⟨t,rfl⟩:=J;have M:Inv X c σ H {s with heap:=j,toks:=C}:=I.turned (λb o d e=>G b o (by simpa using d) e) B y x u r;refine⟨_,rfl,pT (s:={s with heap:=j,toks:=C}) (n:="range_iterator") g rfl rfl nofun ⟨.int (lo+i),H,M,⟨t,?_⟩,⟨rfl,rfl⟩,g,λb d=>(hf b d).1⟩⟩;rw[Int.mul_one]
 done:=by
  intro X p l q m i c s σ H E I hf a hg;subst p l q;obtain⟨B,y,f2,x,u,r⟩:=hf it (by simp);exact wpAny_pyNext_range_end (I.ok.hd m) a (by have:n<=i:=hg;omega) λj L=>⟨rfl,I.turned (t':=s.toks) (λb o d e=>L b o d e) B y x u r⟩
 self:=λ_ _ _ _ _ a h=>wpAny_pyIter_rangeiter a h
section
variable {X:Cx}{tg:Expr}
def wZ(K:GX)(tl:TE):TI:=λσ H R=>tl σ H λx H1=>∃a,x=.ref a/\(∃xs,aT K H1 a xs)/\R (yI K a) H1
theorem bL{l:Expr}{tl:TE}(hl:PE X l tl):PI X tg l (wZ X.K tl):=by
 intro c s σ H R I h;refine bH (hl c s σ H _ I h) λv d ⟨x,H1,g,i,j⟩=>?_;obtain⟨a,e,⟨xs,k⟩,q⟩:=j;subst e;cases i;obtain⟨its,rv,p,hz⟩:=g.list k;refine wpAny_pyIter_list p.isList ?_;refine⟨d.heap.objs.size,[d.heap.objs.size],_,_,H1,rfl,g.kept (t':=d.toks) λb o e=>F1 _ e,vt a _,⟨_,F8 _ rfl,rfl,rfl⟩,λb m=>?_,q⟩;have e:b=d.heap.objs.size:=by simpa using m
 subst e;exact g.fpOk (Gq _) (g.hok.fresh (Gq _))
theorem qB{pins:GY}{σ:St}{H:Hp}{s:G0}{R:It->Hp->Prop}{E:GW}{lo hi:Int}{t u v:Tok}{tk:Nat}(I:Inv X pins σ H s)(h1:-(2 ^ 62)<=lo)(h2:lo<2 ^ 62)(h3:-(2 ^ 62)<=hi)(h4:hi<2 ^ 62)
  (q:R (vk lo (hi-lo).toNat) H):wpAny (model X.prog X.w) X.A (pyIter (.ref s.heap.objs.size)) (Ei X pins σ tg R) E {s with heap:=s.heap.push {cls:=.type "range",data:=.fields #[.int lo t,.int hi u,.int 1 v]},toks:=tk}:=by
 refine wpAny_pyIter_range (IsRange.new ..) (small_one h1 h2 h3 h4) ?_;have a:Inv X pins σ H {s with heap:=s.heap.push {cls:=.type "range",data:=.fields #[.int lo t,.int hi u,.int 1 v]},toks:=tk}:=I.kept λb o e=>F1 _ e;refine⟨(s.heap.push {cls:=.type "range",data:=.fields #[.int lo t,.int hi u,.int 1 v]}).objs.size,[(s.heap.push {cls:=.type "range",data:=.fields #[.int lo t,.int hi u,.int 1 v]}).objs.size],_,_,H,rfl,
  a.kept (t':=tk) λb o e=>F1 _ e,sU _ lo (hi-lo).toNat,?_,λb c=>?_,q⟩
 ·have g:lo+((0:Nat):Int)*1=lo:=by simp
  have d:(((hi-lo).toNat:Nat):Int)-((0:Nat):Int)=Builtin.Range.rangeSize lo hi 1:=by rw[rangeSize_one];split<;>omega
  show IsRangeIter _ _ (lo+((0:Nat):Int)*1) ((((hi-lo).toNat:Nat):Int)-((0:Nat):Int)) 1;rw[g,d];exact F8 _ rfl
 ·have e:b=(s.heap.push {cls:=.type "range",data:=.fields #[.int lo t,.int hi u,.int 1 v]}).objs.size:=by simpa using c
  subst e;exact a.fpOk (Gq _) (a.hok.fresh (Gq _))
def xx(ta:TA):TI:=λσ H R=>ta σ H λvs H1=>∃j:Int,vs=[.int j]/\-(2 ^ 62)<=j/\j<2 ^ 62/\R (vk 0 j.toNat) H1
def yy(ta:TA):TI:=λσ H R=>ta σ H λvs H1=>∃i j:Int,vs=[.int i,.int j]/\(-(2 ^ 62)<=i/\i<2 ^ 62/\-(2 ^ 62)<=j/\j<2 ^ 62)/\R (vk i (j-i).toNat) H1
theorem bV{a:Expr}{ta:TA}{p pos:Pos}(hg:Gl X "range")(hm:X.mg "range"=none)(ha:PA X [a] ta)(hs:autoParam (starEach [a] X.env=[(false,eval a X.env)]) zz0._auto_1):PI X tg (.Call (.Name "range" p) [a] [] pos) (xx ta):=by
 intro b s σ H R I h;refine Call_ (dS I hg hm boot_range (PyProof.Rows.callWith_type1 (bH (ha pos b s σ H _ I h) λus s1 ⟨vs,H1,i,d,c⟩=>?_) hs rfl));obtain⟨j,e,c,g,q⟩:=c;subst e;cases d with
 |cons r rr=>
  cases rr;obtain⟨t,rfl⟩:=r;exact call_range_1 (qB i ⋯ ⋯ c g (by simpa using q))
theorem jD{a b:Expr}{ta:TA}{p pos:Pos}(hg:Gl X "range")(hm:X.mg "range"=none)(ha:PA X [a,b] ta)(hs:autoParam (starEach [a,b] X.env=[(false,eval a X.env),(false,eval b X.env)]) zz0._auto_1)(hs2:autoParam (starEach [b] X.env=[(false,eval b X.env)]) zz0._auto_1) :
  PI X tg (.Call (.Name "range" p) [a,b] [] pos) (yy ta):=by
 intro c s σ H R I h;refine Call_ (dS I hg hm boot_range (PyProof.Rows.callWith_type1 (bH (ha pos c s σ H _ I h) λus s1 ⟨vs,H1,n,g,d⟩=>?_) (by rw[hs,hs2]) (by rw[hs2];rfl)));obtain⟨i,j,e,⟨d,m,l,k⟩,q⟩:=d;subst e;cases g with
 |cons r rr=>
  cases rr with
  |cons r' rr=>
   cases rr;obtain⟨t,rfl⟩:=r;obtain⟨t',rfl⟩:=r';exact call_range_2 (qB n d m l k q)
def D2(wi:TI)(g:TG)(tb:TS):TS:=λD σ H=>wi σ H λJ H1=>∃W:Nat->Nat->St->Hp->Prop,(∃m,W 0 m σ H1)/\∀i m σ H,W i m σ H ->
 (J.stop i H/\D.nx σ H)\/(J.go i H/\∃N:St->Hp->Prop,(∀σ' H',N σ' H'->∃m',m'<m/\W (i+1) m' σ' H')/\∀x H',J.yld i H x H'->g x σ H' λσ2 H2=>tb {D with nx:=N,ct:=N,bk:=D.nx} σ2 H2)
def lC(fp:G2)(h:Heap):List (Addr×Obj):=fp.filterMap λb=>(h.get? b).map λo=>(b,o)
theorem f_{fp:G2}{h:Heap}{b:Addr}{o:Obj}(hb:b∈fp)(e:h.get? b=some o):(b,o)∈lC fp h:=List.mem_filterMap.mpr ⟨b,hb,by rw[e];rfl⟩
theorem vj{fp:G2}{h:Heap}{p:Addr×Obj}(hp:p∈lC fp h):p.1∈fp/\h.get? p.1=some p.2:=by
 obtain⟨b,a,e⟩:=List.mem_filterMap.mp hp;cases q:h.get? b with
 |none=>rw[q]at e;cases e
 |some o=>
  rw[q]at e;have c:(b,o)=p:=q0S e;subst c;exact⟨a,q⟩
theorem Inv.pinned{pins:GY}{σ:St}{H:Hp}{s:G0}{fp:G2}(I:Inv X pins σ H s)(hf:∀b∈fp,jX X pins H b)(ho:∀b∈fp,∃o,s.heap.get? b=some o/\∀v,o.data≠.cell v):Inv X (pins++lC fp s.heap) σ H s:=
 I.pins_of λp hp=>(Gd.mp hp).elim (λz=>I.pin p (q0C _ z)) λz=>by
  obtain⟨hb,e⟩:=vj z;obtain⟨f0,f1,f2,_⟩:=hf p.1 hb;obtain⟨o,e',d⟩:=ho p.1 hb;rw[e]at e';cases e'
  exact⟨e,f0,f1,f2,d⟩
theorem Inv.unpinned{pins pl:GY}{σ:St}{H:Hp}{s:G0}(I:Inv X (pins++pl) σ H s):Inv X pins σ H s:=I.pins_of λp hp=>I.pin p (q0C _ (q0D _ hp))
theorem Bi{iter:Expr}{body:List Stmt}{wi:TI}{g:TG}{tb:TS}{pos:Pos}(hp:PassesOwn (model X.prog X.w) X.A X.env X.xe)(hc:X.calm=true)(hi:PI X tg iter wi)(hg:PG X tg g)(hb:tR X body tb)
  (hs:autoParam (∀x,foldedSetIterable iter X.env x=pure x) zz4._auto_1):PS X (.For tg iter body [] pos) (D2 wi g tb):=by
 intro a s σ H D I h;refine wpAny_For (bH (hi a s σ H _ I h) λv s1 h1=>bH h1 λitv s2 h2=>?_) hs;obtain⟨it,G,U,J,H2,e,I2,T,M,f2,W,⟨m0,w0⟩,w⟩:=h2;subst e
 -- what stays true of the iterator's objects through the loop
 have c:∀{H':Hp},(∀b∈G,H' b=none)->∀b∈G,jX X a H' b:=λhn b hb=>⟨hn b hb,(f2 b hb).2⟩;refine codeAny_forLoop_any (λn s'=>∃i σ' H',Inv X a σ' H' s'/\U i s'.heap/\(∀b∈G,H' b=none)/\W i n σ' H') ?_ m0 ⟨0,σ,H2,I2,M,λb hb=>(f2 b hb).1,w0⟩;rintro n Z ⟨i,σ3,L,I3,z,C,w3⟩;rcases w i n σ3 L w3 with⟨y,qn⟩ | ⟨go,N,hN,step⟩
 ·refine wpAny_passesOwn hp (bH (T.done X rfl rfl rfl hc i a Z σ3 L X.xe I3 (c C) z y) λr s4 ⟨hr,I4⟩=>?_)
  subst hr;exact wpAny_execs_nil ⟨σ3,L,I4,qn⟩
 ·refine wpAny_passesOwn hp (bH (T.item X rfl rfl rfl hc i a Z σ3 L X.xe I3 (c C) z go) λr s4 ⟨u,hr,h4⟩=>?_)
  subst hr;refine wpAny_passesOwn hp (bH h4 λ_ Y ⟨x,H5,I5,r5,y5,q,R⟩=>?_);have S:=I5.pinned (c R) (T.obj _ _ q);refine wpAny_passesOwn hp (bH (hg _ Y σ3 H5 x u _ S r5 (step x H5 y5)) λ_ s6 ⟨σ6,H6,I6,q6⟩=>?_);refine wpAny_passesOwn hp (bH (hb _ s6 σ6 H6 _ I6 q6) λf O p=>?_);have j:∀{σ7:St} {l:Hp},Inv X (a++lC G Y.heap) σ7 l O->N σ7 l->∃m,m<n/\∃i σ' H',Inv X a σ' H' O/\U i O.heap/\(∀b∈G,H' b=none)/\W i m σ' H':=fun{σ7 l} k B=>by
   obtain⟨m',hm,w7⟩:=hN σ7 l B;refine⟨m',hm,i+1,σ7,l,k.unpinned,T.keep _ _ _ q λb hb o e=>(k.pin (b,o) (q0C _ (q0C _ (f_ hb e)))).1,λb hb=>?_,w7⟩;obtain⟨o,e,d⟩:=T.obj _ _ q b hb;exact(k.pin (b,o) (q0C _ (q0C _ (f_ hb e)))).2.1
  cases f with
  |next=>obtain⟨σ7,l,k,B⟩:=p;exact j k B
  |cont=>obtain⟨σ7,l,k,B⟩:=p;exact j k B
  |brk=>obtain⟨σ7,l,k,p⟩:=p;exact⟨σ7,l,k.unpinned,p⟩
  |ret v=>obtain⟨x7,σ7,l,k,r7,p⟩:=p;exact⟨x7,σ7,l,k.unpinned,r7,p⟩
end
theorem xV{K:GX}{a:Addr}{xs:List V}{g:TG}{tb:TS}{D:fE}{σ:St}{H:Hp}(Pv:Nat->St->Hp->Prop)(h0:Pv 0 σ H)(hl:∀i σ H,i<=xs.length->Pv i σ H->aT K H a xs)
  (hs:∀i x σ H,xs[i]?=some x->Pv i σ H->g x σ H λσ2 H2=>tb {D with nx:=Pv (i+1),ct:=Pv (i+1),bk:=D.nx} σ2 H2) (hd:∀σ H,Pv xs.length σ H->D.nx σ H) :
  ∃W:Nat->Nat->St->Hp->Prop,(∃m,W 0 m σ H)/\∀i m σ H,W i m σ H ->
   ((yI K a).stop i H/\D.nx σ H)\/((yI K a).go i H/\∃N:St->Hp->Prop,(∀σ' H',N σ' H'->∃m',m'<m/\W (i+1) m' σ' H')/\∀x H',(yI K a).yld i H x H'->g x σ H' λσ2 H2=>tb {D with nx:=N,ct:=N,bk:=D.nx} σ2 H2):=by
 refine⟨λi m σ H=>m=xs.length-i/\i<=xs.length/\Pv i σ H,⟨xs.length,by simp,Gr _,h0⟩,?_⟩;rintro i m σ H ⟨rfl,c,p⟩;have q:=hl i σ H c p
 by_cases b:i<xs.length
 ·refine .inr ⟨⟨xs,xs[i],q,by simp[b]⟩,Pv (i+1),λσ' H' p'=>⟨xs.length-(i+1),⋯,rfl,b,p'⟩,λx H' y=>?_⟩
  obtain⟨e,y⟩:=y;subst e;exact hs i x σ _ (y xs q) p
 ·have e:i=xs.length:=by omega
  subst e;exact .inl ⟨⟨xs,q,Gq _⟩,hd σ H p⟩
theorem vV{lo:Int}{n:Nat}{g:TG}{tb:TS}{D:fE}{σ:St}{H:Hp}(Pv:Nat->St->Hp->Prop)(h0:Pv 0 σ H)
  (hs:∀i σ H,i<n->Pv i σ H->g (.int (lo+i)) σ H λσ2 H2=>tb {D with nx:=Pv (i+1),ct:=Pv (i+1),bk:=D.nx} σ2 H2) (hd:∀σ H,Pv n σ H->D.nx σ H) :
  ∃W:Nat->Nat->St->Hp->Prop,(∃m,W 0 m σ H)/\∀i m σ H,W i m σ H ->
   ((vk lo n).stop i H/\D.nx σ H)\/((vk lo n).go i H/\∃N:St->Hp->Prop,(∀σ' H',N σ' H'->∃m',m'<m/\W (i+1) m' σ' H')/\∀x H',(vk lo n).yld i H x H'->g x σ H' λσ2 H2=>tb {D with nx:=N,ct:=N,bk:=D.nx} σ2 H2):=by
 refine⟨λi m σ H=>m=n-i/\i<=n/\Pv i σ H,⟨n,by simp,Gr _,h0⟩,?_⟩;rintro i m σ H ⟨rfl,hi,p⟩
 by_cases a:i<n
 ·refine .inr ⟨a,Pv (i+1),λσ' H' p'=>⟨n-(i+1),⋯,rfl,a,p'⟩,λx H' y=>?_⟩
  obtain⟨e,y⟩:=y;subst e y;exact hs i σ _ a p
 ·have e:i=n:=by omega
  subst e;exact .inl ⟨Gq _,hd σ H p⟩
abbrev R2:=V->V->Hp->VK->Prop
def bD(X:Cx)(f:Value->Value->Sem Value)(r:R2):Prop:=
 ∀(pins:GY) (s:G0) (σ:St) (H:Hp) (x y:V) (v u:Value) (Q:VK),Inv X pins σ H s->aR x v->aR y u->r x y H Q ->
  wpAny (model X.prog X.w) X.A (f v u) (EP X pins σ Q) X.xe s
def eN(X:Cx)(f:Value)(r:List V->Hp->VK->Prop):Prop:=
 ∀(pins:GY) (s:G0) (σ:St) (H:Hp) (xs:List V) (us:G1) (Q:VK),Inv X pins σ H s->aQ xs us->r xs H Q ->
  wpAny (model X.prog X.w) X.A (call f us) (EP X pins σ Q) X.xe s
def BZ(r:R2)(ta tb:TE):TE:=λσ H Q=>ta σ H λx H1=>tb σ H1 λy H2=>r x y H2 Q
def rI(C:Int->Int->Prop)(g:Int->Int->V):R2:=λx y H Q=>∃i j,x=.int i/\y=.int j/\C i j/\Q (g i j) H
def uN(g:Int->Int->V):R2:=λx y H Q=>∃i j,x=.int i/\y=.int j/\Q (g i j) H
section
variable {X:Cx}{a b c:Expr}{ta tb tc:TE}{pos:Pos}
theorem Bx(ha:PE X a ta)(hb:PE X b tb){pins:GY}{s:G0}{σ:St}{H:Hp}{R:V->V->Hp->Prop}(I:Inv X pins σ H s)
  (h:ta σ H λx H1=>tb σ H1 λy H2=>R x y H2) {Q:GW} {f:Value->Value->Sem Value}
  (hf:∀v u s2 x y H2,Inv X pins σ H2 s2->aR x v->aR y u->R x y H2->wpAny (model X.prog X.w) X.A (f v u) Q X.xe s2) :
  wpAny (model X.prog X.w) X.A (eval a X.env) (λv s₁=>wpAny (model X.prog X.w) X.A (eval b X.env) (λu s₂=>wpAny (model X.prog X.w) X.A (f v u) Q X.xe s₂) X.xe s₁) X.xe s:=by
 refine bH (ha pins s σ H _ I h) λv c ⟨x,H1,k,e,i⟩=>?_;refine bH (hb pins c σ H1 _ k i) λu s2 ⟨y,H2,j,d,g⟩=>?_;exact hf v u s2 x y H2 j e d g
theorem ay{op:Operator}{r:R2}(ho:bD X (binaryOp op) r)(ha:PE X a ta)(hb:PE X b tb):PE X (.BinOp a op b pos) (BZ r ta tb):=by
 intro c s σ H Q I h;exact wpAny_BinOp (Bx ha hb I h λv u d x y H2 i g e q=>ho c d σ H2 x y v u Q i g e q)
theorem Dr{f:Value->Value->Sem Value}{C:Int->Int->Prop}{g:Int->Int->Int}
  (rule:∀(i j:Int) (t u:Tok) (s:G0) (Q:GW) (E:GW),C i j->Q (.int (g i j) s.toks) {s with toks:=s.toks+1}->wpAny (model X.prog X.w) X.A (f (.int i t) (.int j u)) Q E s) :
  bD X f (rI C λi j=>.int (g i j)):=by
 intro pins s σ H x y v u Q I rx ry h;obtain⟨i,j,rfl,rfl,b,q⟩:=h;obtain⟨t,rfl⟩:=rx;obtain⟨a,rfl⟩:=ry;exact rule i j t a s _ _ b ⟨.int (g i j),H,I.tok _,⟨_,rfl⟩,q⟩
theorem CW{f:Value->Value->Sem Value}{g:Int->Int->Int}
  (rule:∀(i j:Int) (t u:Tok) (s:G0) (Q:GW) (E:GW),Q (.int (g i j) s.toks) {s with toks:=s.toks+1}->wpAny (model X.prog X.w) X.A (f (.int i t) (.int j u)) Q E s) :
  bD X f (uN λi j=>.int (g i j)):=by
 intro pins s σ H x y v u Q I rx ry h;obtain⟨i,j,rfl,rfl,q⟩:=h;obtain⟨t,rfl⟩:=rx;obtain⟨a,rfl⟩:=ry;exact rule i j t a s _ _ ⟨.int (g i j),H,I.tok _,⟨_,rfl⟩,q⟩
theorem zf{f:Value->Value->Sem Value}{g:Int->Int->Bool}
  (rule:∀(i j:Int) (t u:Tok) (s:G0) (Q:GW) (E:GW),Q (.bool (g i j)) s->wpAny (model X.prog X.w) X.A (f (.int i t) (.int j u)) Q E s) :
  bD X f (uN λi j=>.bl (g i j)):=by
 intro pins s σ H x y v u Q I rx ry h;obtain⟨i,j,rfl,rfl,q⟩:=h;obtain⟨t,rfl⟩:=rx;obtain⟨a,rfl⟩:=ry;exact rule i j t a s _ _ ⟨.bl (g i j),H,I,rfl,q⟩
def yk(i j:Int):Prop:=(-(2 ^ 64)<i/\i<2 ^ 64)\/(-(2 ^ 64)<j/\j<2 ^ 64)
theorem yk.ok{i j:Int}(h:yk i j):IntMulOk i j:=by
 rcases h with⟨h1,h2⟩ | ⟨h1,h2⟩
 ·exact .of_left (intBits_le_64 h1 h2)
 ·exact .of_right (intBits_le_64 h1 h2)
theorem bo:bD X (binaryOp .Add) (uN λi j=>.int (i+j)):=CW λ_ _ _ _ _ _ _ q=>add_int q
theorem xF:bD X (binaryOp .Sub) (uN λi j=>.int (i-j)):=CW λ_ _ _ _ _ _ _ q=>sub_int q
theorem dw:bD X (binaryOp .Mult) (rI yk λi j=>.int (i*j)):=Dr λ_ _ _ _ _ _ _ hc q=>mul_int q hc.ok
theorem bv:bD X (binaryOp .Mod) (rI (λ_ j=>0<j) λi j=>.int (i%j)):=Dr λi j _ _ _ _ _ hc q=>by
 have h1:(0:Int)<j:=hc;exact mod_int' ⋯ (by rw[Int.fmod_eq_emod_of_nonneg i ⋯];exact q)
end
def wc:V->V->Bool
 | .non,.non=>true | .non,.int _=>true | .int _,.non=>true | .non,.bl _=>true | .bl _,.non=>true | .non,.str _=>true | .str _,.non=>true
 | .int _,.int _=>true | .bl _,.bl _=>true | .str _,.str _=>true | .byt _,.byt _=>true
 | .int _,.str _=>true | .str _,.int _=>true | .bl _,.str _=>true | .str _,.bl _=>true
 |_,_=>false
def DO:R2:=λx y H Q=>wc x y=true/\Q (.bl (decide (x=y))) H
def Dz:R2:=λx y H Q=>wc x y=true/\Q (.bl (!decide (x=y))) H
theorem ue{i j:Int}:decide (V.int i=V.int j)=(i==j):=by
 rw[Bool.eq_iff_iff];simp
theorem yl{i j:Bool}:decide (V.bl i=V.bl j)=(i==j):=by
 rw[Bool.eq_iff_iff];simp
theorem uH{i j:Str}:decide (V.str i=V.str j)=(i==j):=by
 rw[Bool.eq_iff_iff];simp
theorem ua{i j:Array UInt8}:decide (V.byt i=V.byt j)=(i.toList==j.toList):=by
 rw[Bool.eq_iff_iff];cases i;cases j;simp
section
variable {X:Cx}{a b c:Expr}{ta tb tc:TE}{pos:Pos}
theorem a_{pins:GY}{σ:St}{H:Hp}{s:G0}{Q:VK}{k k':Bool}(I:Inv X pins σ H s)(q:Q (.bl k) H)(e:k=k'):EP X pins σ Q (.bool k') s:=by
 subst e;exact⟨.bl k,H,I,rfl,q⟩
theorem pZ:bD X (compareOp .Eq) DO:=by
 intro pins s σ H x y v u Q I rx ry h;obtain⟨b,q⟩:=h;cases x with
 |non=>
  cases rx;cases y with
  |non=>cases ry;exact PySem.EqNone.eq_none_none (a_ I q (by simp))
  |bl j=>cases ry;exact PySem.EqNone.eq_none_bool (a_ I q (by simp))
  |int j=>obtain⟨a,rfl⟩:=ry;exact PySem.EqNone.eq_none_int (a_ I q (by simp))
  |str j=>obtain⟨a,rfl⟩:=ry;exact PySem.EqNone.eq_none_str (a_ I q (by simp))
  |_=>exact q0Q (show false=true from b) Gs
 |bl i=>
  cases rx;cases y with
  |non=>cases ry;exact PySem.EqNone.eq_bool_none (a_ I q (by simp))
  |bl j=>cases ry;exact eq_bool (a_ I q yl)
  |str j=>obtain⟨a,rfl⟩:=ry;exact PySem.EqMixed.eq_bool_str (a_ I q (by simp))
  |_=>exact q0Q (show false=true from b) Gs
 |int i=>
  obtain⟨t,rfl⟩:=rx;cases y with
  |non=>cases ry;exact PySem.EqNone.eq_int_none (a_ I q (by simp))
  |int j=>obtain⟨a,rfl⟩:=ry;exact eq_int (a_ I q ue)
  |str j=>obtain⟨a,rfl⟩:=ry;exact PySem.EqMixed.eq_int_str (a_ I q (by simp))
  |_=>exact q0Q (show false=true from b) Gs
 |str i=>
  obtain⟨t,rfl⟩:=rx;cases y with
  |non=>cases ry;exact PySem.EqNone.eq_str_none (a_ I q (by simp))
  |bl j=>cases ry;exact PySem.EqMixed.eq_str_bool (a_ I q (by simp))
  |int j=>obtain⟨a,rfl⟩:=ry;exact PySem.EqMixed.eq_str_int (a_ I q (by simp))
  |str j=>obtain⟨a,rfl⟩:=ry;exact eq_str (a_ I q uH)
  |_=>exact q0Q (show false=true from b) Gs
 |byt i=>
  obtain⟨t,rfl⟩:=rx;cases y with
  |byt j=>obtain⟨a,rfl⟩:=ry;exact PySem.W.eq_bytes (a_ I q ua)
  |_=>exact q0Q (show false=true from b) Gs
 |_=>cases y<;>exact q0Q (show false=true from b) Gs
theorem Aj:bD X (compareOp .NotEq) Dz:=by
 intro pins s σ H x y v u Q I rx ry h;obtain⟨b,q⟩:=h;cases x with
 |non=>
  cases rx;cases y with
  |non=>cases ry;exact PySem.EqNone.ne_none_none (a_ I q (by simp))
  |bl j=>cases ry;exact PySem.EqNone.ne_none_bool (a_ I q (by simp))
  |int j=>obtain⟨a,rfl⟩:=ry;exact PySem.EqNone.ne_none_int (a_ I q (by simp))
  |str j=>obtain⟨a,rfl⟩:=ry;exact PySem.EqNone.ne_none_str (a_ I q (by simp))
  |_=>exact q0Q (show false=true from b) Gs
 |bl i=>
  cases rx;cases y with
  |non=>cases ry;exact PySem.EqNone.ne_bool_none (a_ I q (by simp))
  |bl j=>cases ry;exact ne_bool (a_ I q (q0R not yl))
  |str j=>obtain⟨a,rfl⟩:=ry;exact PySem.EqMixed.ne_bool_str (a_ I q (by simp))
  |_=>exact q0Q (show false=true from b) Gs
 |int i=>
  obtain⟨t,rfl⟩:=rx;cases y with
  |non=>cases ry;exact PySem.EqNone.ne_int_none (a_ I q (by simp))
  |int j=>obtain⟨a,rfl⟩:=ry;exact ne_int (a_ I q (q0R not ue))
  |str j=>obtain⟨a,rfl⟩:=ry;exact PySem.EqMixed.ne_int_str (a_ I q (by simp))
  |_=>exact q0Q (show false=true from b) Gs
 |str i=>
  obtain⟨t,rfl⟩:=rx;cases y with
  |non=>cases ry;exact PySem.EqNone.ne_str_none (a_ I q (by simp))
  |bl j=>cases ry;exact PySem.EqMixed.ne_str_bool (a_ I q (by simp))
  |int j=>obtain⟨a,rfl⟩:=ry;exact PySem.EqMixed.ne_str_int (a_ I q (by simp))
  |str j=>obtain⟨a,rfl⟩:=ry;exact ne_str (a_ I q (q0R not uH))
  |_=>exact q0Q (show false=true from b) Gs
 |byt i=>
  obtain⟨t,rfl⟩:=rx;cases y with
  |byt j=>obtain⟨a,rfl⟩:=ry;exact PySem.W.ne_bytes (a_ I q (q0R not ua))
  |_=>exact q0Q (show false=true from b) Gs
 |_=>cases y<;>exact q0Q (show false=true from b) Gs
theorem wP:bD X (compareOp .Lt) (uN λi j=>.bl (decide (i<j))):=zf λ_ _ _ _ _ _ _ q=>lt_int q
theorem qi:bD X (compareOp .LtE) (uN λi j=>.bl (decide (i<=j))):=zf λ_ _ _ _ _ _ _ q=>le_int q
theorem xJ:bD X (compareOp .Gt) (uN λi j=>.bl (decide (j<i))):=zf λ_ _ _ _ _ _ _ q=>gt_int q
theorem C5:bD X (compareOp .GtE) (uN λi j=>.bl (decide (j<=i))):=zf λ_ _ _ _ _ _ _ q=>ge_int q
theorem nJ:bD X (compareOp .In) (λx y H Q=>∃i j,x=.str i/\y=.str j/\Q (.bl (!(Builtin.Str.occurrences j i 0 j.length 1).isEmpty)) H):=by
 intro pins s σ H x y v u Q I rx ry h;obtain⟨i,j,rfl,rfl,q⟩:=h;obtain⟨t,rfl⟩:=rx;obtain⟨t',rfl⟩:=ry;exact in_str (a_ I q rfl)
theorem zF:bD X (compareOp .IsNot) (λx y H Q=>y=.non/\Q (.bl (!decide (x=.non))) H):=by
 intro pins s σ H x y v u Q I rx ry h;obtain⟨rfl,q⟩:=h;cases ry;refine isnot_none_gen (a_ I q ?_);cases x<;>first
  | (cases rx;rfl)
  | (obtain⟨t,rfl⟩:=rx;rfl)
theorem oB:bD X (compareOp .NotIn) (λx y H Q=>∃i j,x=.str i/\y=.str j/\Q (.bl (!(!(Builtin.Str.occurrences j i 0 j.length 1).isEmpty))) H):=by
 intro pins s σ H x y v u Q I rx ry h;obtain⟨i,j,rfl,rfl,q⟩:=h;obtain⟨t,rfl⟩:=rx;obtain⟨t',rfl⟩:=ry;exact notIn_str (a_ I q rfl)
theorem b_(b:Expr){op:CmpOp}(h:autoParam (op≠.In) zz1._auto_1)(h2:autoParam (op≠.NotIn) zz1._auto_1):behindInMarks op b=false:=by
 have c:(op==CmpOp.In)=false:=by cases op<;>first | rfl | exact q0Q rfl h
 have a:(op==CmpOp.NotIn)=false:=by cases op<;>first | rfl | exact q0Q rfl h2
 cases b<;>simp[behindInMarks,c,a]
theorem pR{op:CmpOp}{r:R2}(ho:bD X (compareOp op) r)(ha:PE X a ta)(hb:PE X b tb)(hm:behindInMarks op b=false):PE X (.Compare a [op] [b] pos) (BZ r ta tb):=by
 intro c s σ H Q I h;exact wpAny_Compare1 (Bx ha hb I h λv u d x y H2 i g e q=>ho c d σ H2 x y v u Q i g e q) hm
def ur(t:TE):TT:=λσ H Q=>t σ H λx H'=>∃k,x=.bl k/\Q k H'
theorem bE{op:CmpOp}{r:R2}(ho:bD X (compareOp op) r)(ha:PE X a ta)(hb:PE X b tb)(hm:behindInMarks op b=false):PT X (.Compare a [op] [b] pos) (ur (BZ r ta tb)):=by
 intro d s σ H Q I h;refine wpAny_isTrue_Compare1 (bH (ha d s σ H _ I h) λv i ⟨x,H1,B,m,p⟩=>bH (hb d i σ H1 _ B p) λu g ⟨y,H2,w,l,o⟩=>
  bH (ho d g σ H2 x y v u _ w m l o) λc s3 ⟨z,C,q,j,k,e,n⟩=>?_) hm
 subst e;cases j;exact wpAny_truthy_bool ⟨C,q,n⟩
def sO(r r':R2)(ta tb tc:TE):TE:=λσ H Q=>ta σ H λx H1=>tb σ H1 λy H2=>r x y H2 λz H3=>∃k,z=.bl k /\
 (if k=true then tc σ H3 λw' H4=>r' y w' H4 Q else Q (.bl false) H3)
theorem qr{op op':CmpOp}{r r':R2}(ho:bD X (compareOp op) r)(ho':bD X (compareOp op') r')(ha:PE X a ta)(hb:PE X b tb)(hc:PE X c tc)
  (hm:lastMarks [op,op'] [b,c]=false:=by with_unfolding_all rfl):PE X (.Compare a [op,op'] [b,c] pos) (sO r r' ta tb tc):=by
 intro g s σ H Q I h;refine Compare_chain (bH (ha g s σ H _ I h) λv w ⟨x,H1,R,D,L⟩=>chain_link (bH (hb g w σ H1 _ R L) λu q ⟨y,H2,O,i,J⟩=>
  bH (ho g q σ H2 x y v u _ O D i J) λd p ⟨z,m,l,C,k,e,j⟩=>?_)) hm
 subst e;cases C;refine wpAny_truthy_bool ?_;cases k with
 |false=>exact ite_ff ⟨.bl false,m,l,rfl,j⟩
 |true=>exact ite_tt (chain_last (bH (hc g p σ m _ l j) λw' o ⟨n,S,M,B,G⟩=>ho' g o σ S y n u w' Q M i B G))
theorem lQ:(sizeLine:Nat)<2 ^ 63:=by rw[q0W];decide
theorem lW:bD X (binaryOp .Add) (λx y H Q=>∃i j,x=.str i/\y=.str j/\i.length+j.length<=sizeLine/\Q (.str (i++j)) H):=by
 intro pins s σ H x y v u Q I rx ry h;obtain⟨i,j,rfl,rfl,b,q⟩:=h;obtain⟨t,rfl⟩:=rx;obtain⟨a,rfl⟩:=ry;exact add_str (λa tk=>⟨.str (i++j),H,I.tok _,⟨_,rfl⟩,q⟩) b
theorem pU{x:V}{us:G1}(r:aQ [x] us):∃u,us=[u]/\aR x u:=by
 cases r with
 |cons r1 r2=>cases r2;exact⟨_,rfl,r1⟩
theorem Cc{x y:V}{us:G1}(r:aQ [x,y] us):∃u w',us=[u,w']/\aR x u/\aR y w':=by
 cases r with
 |cons r1 r2=>
  cases r2 with
  |cons r3 r4=>cases r4;exact⟨_,_,rfl,r1,r3⟩
theorem vR(hc:X.calm=true):eN X (.builtin "min") (λxs H Q=>∃i j,xs=[.int i,.int j]/\Q (.int (if j<i then j else i)) H):=by
 intro pins s σ H xs us Q I r h;obtain⟨i,j,rfl,q⟩:=h;obtain⟨u,w',rfl,⟨t,rfl⟩,⟨t',rfl⟩⟩:=Cc r;refine min_two_ints (I.ok.hd hc) λh' tk k=>⟨_,H,I.kept k,?_,q⟩
 by_cases a:j<i
 ·rw[q07 a,q07 a];exact⟨_,rfl⟩
 ·rw[q06 a,q06 a];exact⟨_,rfl⟩
end
structure rT(h:Heap)(x dx C:Addr)(mA:G3):Prop where
 obj:h.get? x=some (PySem.W.instObj C dx)
 ns:h.Ns1 dx mA
 ne:dx≠x
theorem vH{h:Heap}{dx:Addr}{mA:G3}(n:h.Ns1 dx mA):∃od,h.get? dx=some od/\∀name,PySem.W.lookIn name od=some (mA name):=by
 obtain⟨o,es,ep,ho,hd,hk,_,hm⟩:=n;refine⟨o,ho,λname=>?_⟩;have e:=hm name;unfold nsFind findBy at e;rw[<- Array.find?_toList]at e;unfold PySem.W.lookIn;rw[hd];dsimp only
 split
 ·rename_i y q
  rw[q]at e;exact q0R some e
 ·rename_i q
  rw[q]at e;have a:es.toList.any (·.refKey)=false:=by
   rw[List.any_eq_false];intro y hy;obtain⟨z,t,hkey⟩:=hk y (Array.mem_toList_iff.mp hy);simp[DictEntry.refKey,hkey]
  have a':¬ es.toList.any (·.refKey)=true:=by rw[a];exact Gs
  rw[q06 a'];exact q0R some e
theorem rT.look{h:Heap}{x dx C:Addr}{mA:G3}(I:rT h x dx C mA):∃od,PySem.W.InstAt h x (PySem.W.instObj C dx) C (some od)/\∀name,PySem.W.lookIn name od=some (mA name):=
 let ⟨od,ho,hl⟩:=vH I.ns
 ⟨od,⟨I.obj,rfl,rfl,ho⟩,hl⟩
section
variable {prog:G5}{w:G8}{A:G7}{E:GW}{s:G0}{K:GX}{x dx C f:Addr}{mA:G3}{name:Str}{v:Value}
theorem yU{expr:Bool}{Q:GW}(X:K.In s.heap)(I:rT s.heap x dx C mA)(hg:PySem.W.plainGet K C name=true)(hh:PySem.W.hasDictIn K C=true)
  (ha:PySem.W.findIn K (.ref C) name=some none) (hv:mA name=some v) (hv':PySem.W.handedIn v=true) (h:Q v {s with toks:=s.toks+1}) :
  wpAny (model prog w) A (getAttr (.ref x) name expr) Q E s:=by
 obtain⟨od,J,a⟩:=I.look;exact PySem.W.get_value X J (PySem.W.plainGet_of hg).1 (PySem.W.findObj_own hh ha rfl (by rw[a,hv])) hv' h
theorem xZ{pl:Sem Bool}{Q:Value×List Value->Shared->Prop}(X:K.In s.heap)(I:rT s.heap x dx C mA)(hg:PySem.W.plainGet K C name=true)
  (hf:PySem.W.findIn K (.ref C) name=some (some (.ref f))) (ht:PySem.W.isFn K (.ref f)=true) (hv:mA name=none) (h:Q (.ref f,[.ref x]) s) :
  wpAny (model prog w) A (getMethod (.ref x) name pl) Q E s:=by
 obtain⟨a,J,b⟩:=I.look;exact PySem.W.method_fn X J (PySem.W.plainGet_of hg).1 (PySem.W.plainGet_of hg).2 hf (beq_iff_eq.mp ht) (by show(PySem.W.lookIn name a).map (·.isSome)=some false;rw[b,hv];rfl) h
theorem yT{ns:G6}{Q:Unit->Shared->Prop}(X:K.In s.heap)(I:rT s.heap x dx C mA)
  (hs:PySem.W.findIn K (.ref C) "__setattr__"=some (some (.builtin "object.__setattr__"))) (hp:PySem.W.plainOver K C=true) (ht:PySem.W.takerIn K C name=some none) (hh:PySem.W.hasDictIn K C=true)
  (hw:PySem.Within mA ns) (hsz:ns.length<=sizeLine)
  (h:∀h',rT h' x dx C (λy=>if y=name then some v else mA y)->Heap.SameBut dx s.heap h'->Q () {s with heap:=h',toks:=s.toks+2}) :
  wpAny (model prog w) A (setAttr (.ref x) name v) Q E s:=by
 obtain⟨od,J,hl⟩:=I.look;refine PySem.W.set_plain X J hs (PySem.W.osa_open (s:={s with toks:=s.toks+1}) (r:=none) X J hp ht λb=>?_);obtain⟨cd,l,i⟩:=PySem.W.any_some hh;have k:s.heap.get? x=some ⟨.ref C,some dx,.plain,#[]⟩:=I.obj;refine q04 (q05 (q04 (q04 (wpAny_loadPart k (q04 (PySem.W.Looks.here (s:={s with toks:=s.toks+1}) (PySem.W.looks_clsIn X l) ?_))))));rw[i];refine q05 (a:=some dx) (q04 (q05 (q04 ?_)));refine wpAny_nsSet1 (s:={s with toks:=s.toks+1}) I.ns λh' d c=>?_;obtain⟨oD,esD,epD,e,g,j⟩:=d.count (PySem.Within.cons name v hw);refine q04 (wpAny_lookBehind e (by rw[g];exact pastItsLine_dict (Gy j (by rw[Gb];omega))) ?_);exact q05 (h _ ⟨(c.2 _ (Ne.symm I.ne)).trans I.obj,d,I.ne⟩ c)
theorem w6{R:Result->Shared->Prop}{vs:G1}{kw:List (Str×Value)}(X:K.In s.heap)(hm:PySem.W.makesIn K C=true)
  (hi:PySem.W.findIn K (.ref C) "__init__"=some (some (.ref f))) (hf:PySem.W.typeIn K (.ref f)=some (.type "function"))
  (h:codeAny (model prog w) (A.under (.builtin "type.__call__" ⟨.ref C::vs,kw⟩)) (.call (.ref f) ⟨.ref (s.heap.objs.size+1)::vs,kw⟩) (PySem.W.InitBack (s.heap.objs.size+1) R)
   {s with heap:=(s.heap.push PySem.W.emptyDict).push (PySem.W.instObj C s.heap.objs.size)}) :
  codeAny (model prog w) A (.call (.ref C) ⟨vs,kw⟩) R s:=by
 obtain⟨hh,g,d,t,os⟩:=s;exact PySem.W.make_core (PySem.W.makes_of X hm) (PySem.W.looks_findIn X hi) (λa=>PySem.W.bind_fn X a hf) (.inl rfl) h
end
def cv(f:Str)(v:V):List (Str×V)->List (Str×V)
 | []=>[(f,v)]
 | (g,x)::r=>if g=f then(g,v)::r else(g,x)::cv f v r
theorem jN(f g:Str)(v:V):∀fs:List (Str×V),(cv f v fs).lookup g=if g=f then some v else fs.lookup g
 | []=>by
  show List.lookup g [(f,v)]=_
  by_cases h:g=f
  ·have hb:(g==f)=true:=beq_iff_eq.mpr h
   simp only[List.lookup,hb,q07 h]
  ·have hb:(g==f)=false:=beq_eq_false_iff_ne.mpr h
   simp only[List.lookup,hb,q06 h]
 | (k,x)::r=>by
  have ih:=jN f g v r;rw[show cv f v ((k,x)::r)=(if k=f then(k,v)::r else(k,x)::cv f v r) from rfl]
  by_cases hk:k=f
  ·rw[q07 hk]
   by_cases h:g=k
   ·have hb:(g==k)=true:=beq_iff_eq.mpr h
    simp only[List.lookup,hb,q07 (h.trans hk)]
   ·have hb:(g==k)=false:=beq_eq_false_iff_ne.mpr h
    simp only[List.lookup,hb,q06 (λe:g=f=>h (e.trans hk.symm))]
  ·rw[q06 hk]
   by_cases h:g=k
   ·have hb:(g==k)=true:=beq_iff_eq.mpr h
    simp only[List.lookup,hb,q06 (λe:g=f=>hk (h.symm.trans e))]
   ·have hb:(g==k)=false:=beq_eq_false_iff_ne.mpr h
    simp only[List.lookup,hb];exact ih
theorem i8(f:Str)(v:V):∀fs:List (Str×V),f∈(cv f v fs).map (·.1)/\∀g,g∈fs.map (·.1)->g∈(cv f v fs).map (·.1)
 | []=>⟨by simp[cv],λg h=>by simp at h⟩
 | (k,x)::r=>by
  obtain⟨i1,i2⟩:=i8 f v r;rw[show cv f v ((k,x)::r)=(if k=f then(k,v)::r else(k,x)::cv f v r) from rfl]
  by_cases hk:k=f
  ·rw[q07 hk]
   subst hk;exact⟨by simp,λg h=>by simpa using h⟩
  ·rw[q06 hk]
   refine⟨?_,λg h=>?_⟩
   ·rw[Gx]
    exact Gh _ i1
   ·rw[Gx]at h ⊢
    rcases Gg.mp h with e | e
    ·exact Gg.mpr (.inl e)
    ·exact Gh _ (i2 g e)
theorem eC(f:Str)(v:V):∀fs:List (Str×V),(cv f v fs).length<=fs.length+1
 | []=>by simp[cv]
 | (k,x)::r=>by
  have ih:=eC f v r;rw[show cv f v ((k,x)::r)=(if k=f then(k,v)::r else(k,x)::cv f v r) from rfl]
  by_cases hk:k=f
  ·rw[q07 hk,Gb,Gb];omega
  ·rw[q06 hk,Gb,Gb];omega
theorem gx.some_of{v:V}{o:Option Value}(r:gx (some v) o):∃u,o=some u/\aR v u:=by
 cases o with
 |none=>exact(show False from r).elim
 |some u=>exact⟨u,rfl,r⟩
theorem gx.none_of{o:Option Value}(r:gx none o):o=none:=by
 cases o with
 |none=>rfl
 |some u=>exact(show False from r).elim
theorem vn{v:V}{u:Value}(r:aR v u):PySem.W.handedIn u=true:=by
 cases v with
 |non=>cases(show u=Value.none from r);rfl
 |bl b=>cases(show u=Value.bool b from r);rfl
 |int i=>obtain⟨t,e⟩:=(show ∃t,u=Value.int i t from r);cases e;rfl
 |str x=>obtain⟨t,e⟩:=(show ∃t,u=Value.str x t from r);cases e;rfl
 |byt b=>obtain⟨t,e⟩:=(show ∃t,u=Value.bytes b t from r);cases e;rfl
 |flt b=>obtain⟨t,e⟩:=(show ∃t,u=Value.float b t from r);cases e;rfl
 |ref a=>cases(show u=Value.ref a from r);rfl
 |ty n=>cases(show u=Value.type n from r);rfl
section
variable {P:G5}{w:G8}{H H':Hp}{h h':Heap}{a C dx:Addr}{fs fs':List (Str×V)}
theorem kj(hok:gU P w H h)(e:H a=some (.ins C dx fs)):∃mA,rT h a dx C mA/\(∀f,gx (fs.lookup f) (mA f))/\PySem.Within mA (fs.map (·.1))/\fs.length<=1000/\H dx=some (.own a):=by
 obtain⟨d,z,c,b,mA,n,r,q⟩:=(show bB P w H h a (.ins C dx fs) from hok a _ e);exact⟨mA,⟨b,n,c⟩,r,q,z,d⟩
end
structure kt(K:GX)(C:Addr):Prop where
 pg:PySem.W.plainGet K C Str.empty=true
 hd:PySem.W.hasDictIn K C=true
 po:PySem.W.plainOver K C=true
 sa:PySem.W.findIn K (.ref C) "__setattr__"=some (some (.builtin "object.__setattr__"))
theorem kt.get{K:GX}{C:Addr}(c:kt K C)(f:Str):PySem.W.plainGet K C f=true:=c.pg
def aC(K:GX)(C:Addr)(f:Str):Prop:=PySem.W.findIn K (.ref C) f=some none
theorem aC.taker{K:GX}{C:Addr}{f:Str}(n:aC K C f):PySem.W.takerIn K C f=some none:=by
 unfold PySem.W.takerIn;rw[show PySem.W.findIn K (.ref C) f=some none from n]
 rfl
structure j7(K:GX)(C:Addr)(m:Str)(f:Addr):Prop where
 at_:PySem.W.findIn K (.ref C) m=some (some (.ref f))
 fn:PySem.W.isFn K (.ref f)=true
 kp:PySem.W.keepIn K (.ref f)=true
section
variable {X:Cx}{pins:GY}{σ:St}{H:Hp}{s:G0}{a C dx:Addr}{fs:List (Str×V)}{f:Str}{v:V}{A:G7}{E:GW}
theorem tE{b:Bool}{Q:GW}(I:Inv X pins σ H s)(e:H a=some (.ins C dx fs))(c:kt X.K C)(n:aC X.K C f)(l:fs.lookup f=some v)
  (h:∀u s',Inv X pins σ H s'->aR v u->Q u s'):wpAny (model X.prog X.w) A (getAttr (.ref a) f b) Q E s:=by
 obtain⟨g,O,r,_,_,_⟩:=kj I.hok e;obtain⟨u,i,d⟩:=gx.some_of (v:=v) (o:=g f) (by rw[<- l];exact r f);exact yU I.kIn O (c.get f) c.hd n i (vn d) (h u _ (I.tok _) d)
theorem dZ{m:Str}{g:Addr}{pl:Sem Bool}{Q:Value×List Value->Shared->Prop}(I:Inv X pins σ H s)(e:H a=some (.ins C dx fs))(c:kt X.K C)(k:j7 X.K C m g)(l:fs.lookup m=none)
  (h:Q (.ref g,[.ref a]) s):wpAny (model X.prog X.w) A (getMethod (.ref a) m pl) Q E s:=by
 obtain⟨b,O,r,_,_,_⟩:=kj I.hok e;have d:b m=none:=gx.none_of (by rw[<- l];exact r m);exact xZ I.kIn O (c.get m) k.at_ k.fn d h
theorem sP{y:V}{u:Value}{Q:Unit->Shared->Prop}(I:Inv X pins σ H s)(e:H a=some (.ins C dx fs))(c:kt X.K C)(n:aC X.K C f)(hl:fs.length<1000)(ry:aR y u)
  (h:∀s',Inv X pins σ (aB H a (.ins C dx (cv f y fs))) s'->Q () s'):wpAny (model X.prog X.w) A (setAttr (.ref a) f u) Q E s:=by
 obtain⟨j,O,r,i,_,k⟩:=kj I.hok e;have m:(fs.map (·.1)).length<=sizeLine:=by rw[F3,q0W];omega
 refine yT I.kIn O c.sa c.po n.taker c.hd i m λw d l=>h _ ?_;have hd:∃o,w.get? dx=some o:=let ⟨o,_,_,e',_⟩:=d.ns;⟨o,e'⟩
 refine I.write (x:=a) (e:=dx) (by rw[e];exact True.intro) (.inr k) (λb q v z=>(l.2 b v).trans z) hd ?_;refine⟨by rw[ai O.ne];exact k,?_,O.ne,d.obj,_,d.ns,λg=>?_,λg p=>?_⟩
 ·have:=eC f y fs;omega
 ·show gx ((cv f y fs).lookup g) (if g=f then some u else j g)
  rw[jN]
  by_cases q:g=f
  ·rw[q07 q,q07 q];exact ry
  ·rw[q06 q,q06 q];exact r g
 ·by_cases q:g=f
  ·rw[q];exact(i8 f y fs).1
  ·refine(i8 f y fs).2 g (i g λz=>p ?_)
   show(if g=f then some u else j g)=none;rw[q06 q];exact z
theorem Inv.made(I:Inv X pins σ H s):Inv X pins σ (aB (aB H s.heap.objs.size (.own (s.heap.objs.size+1))) (s.heap.objs.size+1) (.ins C s.heap.objs.size []))
  {s with heap:=(s.heap.push PySem.W.emptyDict).push (PySem.W.instObj C s.heap.objs.size)}:=by
 have d:(s.heap.push PySem.W.emptyDict).get? s.heap.objs.size=some PySem.W.emptyDict:=F8 s.heap rfl;have k:((s.heap.push PySem.W.emptyDict).push (PySem.W.instObj C s.heap.objs.size)).get? (s.heap.objs.size+1)=some (PySem.W.instObj C s.heap.objs.size):=by
  have:=F8 (s.heap.push PySem.W.emptyDict) (o:=PySem.W.instObj C s.heap.objs.size) rfl
  rwa [Heap.size_push]at this
 have j:(s.heap.push PySem.W.emptyDict).Ns s.heap.objs.size (λ_=>none):=⟨PySem.W.emptyDict,#[],_,d,rfl,(λe i=>q0Q i (by simp)),λ_=>rfl⟩;have l:=I.laid (a:=s.heap.objs.size) (o:=.own (s.heap.objs.size+1)) (h':=s.heap.push PySem.W.emptyDict) (t':=s.toks) (λb u q=>F1 _ q) (Gq _) ⟨_,d⟩;refine l.laid (a:=s.heap.objs.size+1) (o:=.ins C s.heap.objs.size []) (t':=s.toks) (λb u q=>F1 _ q) (Nat.le_of_eq (Heap.size_push _ _)) ?_;have c:s.heap.objs.size≠s.heap.objs.size+1:=Gm (GA _);refine⟨by rw[ai c,af],Gr _,c,k,λ_=>none,(Heap.Ns1.of_empty j).at λo q=>F1 _ q,λ_=>True.intro,λy g=>q0Q rfl g⟩
theorem zk{prog:G5}{w:G8}{env:Env}{e:Expr}{f:Str}{pos:Pos}{s:G0}{Q:GW}(hb:attributeBase e f env (eval e env)=eval e env)
  (h:wpAny (model prog w) A (eval e env) (λo s₁=>wpAny (model prog w) A (getAttr o f true) Q E s₁) E s):wpAny (model prog w) A (eval (.Attribute e f pos) env) Q E s:=
 Attribute_any_ h (by rw[arm_eval_Attribute,hb])
end
def Be(K:GX)(ta:TE)(f:Str):TE:=λσ H Q=>ta σ H λx H1=>∃a C dx fs v,x=.ref a/\H1 a=some (.ins C dx fs)/\kt K C/\aC K C f/\fs.lookup f=some v/\Q v H1
def AW(K:GX)(ta tv:TE)(f:Str):TS:=λD σ H=>tv σ H λy H1=>ta σ H1 λx H2=>∃a C dx fs,x=.ref a/\H2 a=some (.ins C dx fs)/\kt K C/\aC K C f/\fs.length<1000 /\
 D.nx σ (aB H2 a (.ins C dx (cv f y fs)))
section
variable {X:Cx}{o e value:Expr}{f:Str}{pos pos' tpos:Pos}{ta tv:TE}
theorem cG(he:PE X e ta)(hb:attributeBase e f X.env (eval e X.env)=eval e X.env):PE X (.Attribute e f pos) (Be X.K ta f):=by
 intro b s σ H Q I h;refine zk hb (bH (he b s σ H _ I h) λu s1 ⟨x,H1,m,d,a,C,dx,fs,v,i,j,c,n,l,q⟩=>?_);subst i;obtain rfl:u=Value.ref a:=d;exact tE m j c n l λu' s2 k g=>⟨v,H1,k,g,q⟩
theorem dy(ha:PE X o ta)(hv:PE X value tv)(hs:swapsWith value (some (.Attribute o f pos')) pos.line X.env=pure false):PS X (.Assign [.Attribute o f pos'] value pos) (AW X.K ta tv f):=by
 intro b s σ H D I h;refine plainObj_wpAny_Assign_Attribute (bH (hv b s σ H _ I h) λu d ⟨y,H1,r,e,q⟩=>bH (ha b d σ H1 _ r q) λov s2 ⟨x,H2,p,g,a,C,dx,fs,j,k,c,n,l,i⟩=>?_) hs;subst j;obtain rfl:ov=Value.ref a:=g;exact sP p k c n l e λs3 m=>⟨σ,_,m,i⟩
end
section
variable {X:Cx}{pins:GY}{σ:St}{H:Hp}{s:G0}{A:G7}{E:GW}{Q:GW}{c:Value}{b:Bool}
inductive hJ(K:GX)(H:Hp):V->Value->Prop where
 |non:hJ K H .non (.type "NoneType")
 |bl (x:Bool):hJ K H (.bl x) (.type "bool")
 |int (i:Int):hJ K H (.int i) (.type "int")
 |str (x:Str):hJ K H (.str x) (.type "str")
 |flt (x:UInt64):hJ K H (.flt x) (.type "float")
 |lst {a:Addr} {xs:List V} (e:H a=some (.lst xs)):hJ K H (.ref a) (.type "list")
 |frz {a:Addr} {o:Obj} {xs:List V} (e:H a=some (.frz o (.lst xs))):hJ K H (.ref a) (.type "list")
 |tup {a:Addr} {xs:List V} (e:H a=some (.tup xs)):hJ K H (.ref a) (.type "tuple")
 |dK {a:Addr} {kvs:List (b9×V)} (e:H a=some (.dK kvs)):hJ K H (.ref a) (.type "dict")
 |dT {a:Addr} {kvs:List (List b9×V)} (e:H a=some (.dT kvs)):hJ K H (.ref a) (.type "dict")
 |ins {a C dx:Addr} {fs:List (Str×V)} (e:H a=some (.ins C dx fs)) (cl:kt K C) (ha:PySem.W.findIn K (.ref C) "__class__"=some (some (.builtin "object.__class__")))
   (hn:PySem.W.specialIn K (.builtin "object.__class__") "__get__"=some (some (.builtin "getset_descriptor.__get__"))) (htk:PySem.W.takesIn K (.builtin "object.__class__")=some true)
   (hm:PySem.W.mroIn K C (.type "object")=some true):hJ K H (.ref a) (.ref C)
theorem va{x:V}{u t:Value}(I:Inv X pins σ H s)(rx:aR x u)(ty:hJ X.K H x t)(e:PySem.W.kitOne X.K t c=some b)(h:∀tk,Q (.bool b) {s with toks:=tk}) :
  wpAny (model X.prog X.w) A (call (.builtin "isinstance") [u,c]) Q E s:=by
 cases ty with
 |non=>cases(show u=Value.none from rx);exact PySem.W.kia_one PySem.W.kitx_none I.kIn True.intro e (λz=>nomatch z) h
 |bl y=>cases(show u=Value.bool y from rx);exact PySem.W.kia_one PySem.W.kitx_bool I.kIn True.intro e (λz=>nomatch z) h
 |int i=>obtain⟨t,q⟩:=(show ∃t,u=Value.int i t from rx);cases q;exact PySem.W.kia_one PySem.W.kitx_int I.kIn True.intro e (λz=>nomatch z) h
 |str y=>obtain⟨t,q⟩:=(show ∃t,u=Value.str y t from rx);cases q;exact PySem.W.kia_one PySem.W.kitx_str I.kIn True.intro e (λz=>nomatch z) h
 |flt y=>obtain⟨t,q⟩:=(show ∃t,u=Value.float y t from rx);cases q;exact PySem.W.kia_one PySem.W.kitx_float I.kIn True.intro e (λz=>nomatch z) h
 | @lst a d ea=>
  cases(show u=Value.ref a from rx);obtain⟨_,_,n,_,h1⟩:=(show bB X.prog X.w H s.heap a (.lst d) from I.hok a _ ea);exact PySem.W.kia_one PySem.W.kitx_list I.kIn ⟨_,h1,rfl⟩ e (λz=>nomatch z) h
 | @frz a ob d ea=>
  cases(show u=Value.ref a from rx);obtain⟨_,_,_,n,_,h1⟩:=(show bB X.prog X.w H s.heap a (.frz ob (.lst d)) from I.hok a _ ea);exact PySem.W.kia_one PySem.W.kitx_list I.kIn ⟨_,h1,rfl⟩ e (λz=>nomatch z) h
 | @tup a d ea=>
  cases(show u=Value.ref a from rx);obtain⟨_,_,_,p⟩:=(show bB X.prog X.w H s.heap a (.tup d) from I.hok a _ ea);obtain⟨o,h1,h2,_⟩:=p;exact PySem.W.kia_one PySem.W.kitx_tuple I.kIn ⟨o,h1,h2⟩ e (λz=>nomatch z) h
 | @dK a kvs ea=>
  cases(show u=Value.ref a from rx);obtain⟨_,_,vs,_,p⟩:=(show bB X.prog X.w H s.heap a (.dK kvs) from I.hok a _ ea);obtain⟨o,g,j,h1,h2,_⟩:=p;exact PySem.W.kia_one PySem.W.kitx_dict I.kIn ⟨o,h1,h2.1⟩ e (λz=>nomatch z) h
 | @dT a kvs ea=>
  cases(show u=Value.ref a from rx);obtain⟨_,_,d,_,o,g,j,h1,h2,_⟩:=(show bB X.prog X.w H s.heap a (.dT kvs) from I.hok a _ ea);exact PySem.W.kia_one PySem.W.kitx_dict I.kIn ⟨o,h1,h2.1⟩ e (λz=>nomatch z) h
 | @ins a C dx fs ea cl ha hn htk hm=>
  cases(show u=Value.ref a from rx);obtain⟨mA,O,_⟩:=kj I.hok ea;obtain⟨od,J,_⟩:=O.look;exact PySem.W.kia_one (PySem.W.kitx_own (cl.get _) cl.hd ha hn htk hm) I.kIn J e (λz=>nomatch z) h
end
structure cw(k:Nat)(A:G7):Prop where
 hd:A.handled=none
 dp:A.depth+3*k+5<recursionLimit
 un:A.units+16*k+200<cLine
theorem cw.mono{j k:Nat}{A:G7}(r:cw k A)(h:j<=k):cw j A:=⟨r.hd,by have:=r.dp;omega,by have:=r.un;omega⟩
theorem cw.deeper{k:Nat}{A:G7}(r:cw (k+1) A)(env:Env):cw k (A.deeper env):=
 ⟨r.hd,by have:=r.dp;show A.depth+1+3*k+5<_;omega,by have:=r.un;show A.units+3+16*k+200<_;omega⟩
theorem cw.in1{k:Nat}{A:G7}(r:cw (k+1) A):cw k A.in1:=
 ⟨r.hd,by have:=r.dp;show A.depth+3*k+5<_;omega,by have:=r.un;show A.units+1+16*k+200<_;omega⟩
theorem rX{A:G7}{C:Addr}{us:G1}{kw:List (Str×Value)}:(A.under (.builtin "type.__call__" ⟨.ref C::us,kw⟩)).depth=A.depth+1:=by
 first | rfl | simp[Around.under,Code.weight,Code.isCreation,Code.isGuard,Code.isCaller,Code.frames,Code.isFrame,guardIds]
theorem sw{A:G7}{C:Addr}{us:G1}{kw:List (Str×Value)}:(A.under (.builtin "type.__call__" ⟨.ref C::us,kw⟩)).units=A.units+1:=by
 first | rfl | simp[Around.under,Code.cUnits,Code.frames,Code.isFrame]
theorem cw.make{k:Nat}{A:G7}(r:cw (k+1) A)(C:Addr)(us:G1)(kw:List (Str×Value)):cw k (A.under (.builtin "type.__call__" ⟨.ref C::us,kw⟩)):=
 ⟨r.hd,by have:=r.dp;rw[rX];omega,by have:=r.un;rw[sw];omega⟩
theorem cw.depth{k:Nat}{A:G7}(r:cw k A):A.depth<recursionLimit:=by have:=r.dp;omega
theorem cw.units{k:Nat}{A:G7}(r:cw k A):A.units+64<cLine:=by have:=r.un;omega
def l9:TA:=λ_ H Q=>Q [] H
def jS(ta:TE)(tr:TA):TA:=λσ H Q=>ta σ H λx H1=>tr σ H1 λxs H2=>Q (x::xs) H2
section
variable {X:Cx}{e:Expr}{es:Ha}{te:TE}{t:TA}{pos:Pos}
theorem ad:PA X [] l9:=λ_ _ _ _ H Q I h=>Calls.spliced_nil ⟨[],H,I,.nil,h⟩
theorem ac(ha:PE X e te)(hr:PA X es t)(hs:autoParam (starEach (e::es) X.env=(false,eval e X.env)::starEach es X.env) zz0._auto_1):PA X (e::es) (jS te t):=by
 intro b a s σ H Q I h;rw[hs];show wpAny _ _ (spliced ((false,eval e X.env)::backTo b (starEach es X.env))) _ _ s;refine Calls.spliced_cons (bH (ha a s σ H _ I h) λu d ⟨x,H1,m,i,k⟩=>?_);exact bH (hr b a d σ H1 _ m k) λus s2 ⟨c,H2,l,g,j⟩=>⟨x::c,H2,l,.cons i g,j⟩
def BI(t:TA):TE:=λσ H Q=>t σ H λxs H1=>xs.length<=sizeLine/\∀p,H1 p=none->Q (.ref p) (aB H1 p (.tup xs))
def zN(t:TA):TE:=λσ H Q=>t σ H λxs H1=>xs.length<=sizeLine/\∀p,H1 p=none->Q (.ref p) (aB H1 p (.lst xs))
theorem dk{x1}(h:PA X es t):PE X (.Tuple es x1 pos) (BI t):=by
 intro a s σ H Q I hq;refine wpAny_Tuple_spliced (bH (h pos a s σ H _ I hq) λus c ⟨g,H1,d,r,z,q⟩=>⟨by rw[<- r.length];exact z,?_⟩);have i:H1 c.heap.objs.size=none:=d.hok.fresh (Gq _);refine⟨.ref c.heap.objs.size,aB H1 c.heap.objs.size (.tup g),d.laid (t':=c.toks) (λb u e=>F1 _ e) (Gq _) ?_,rfl,q _ i⟩;exact⟨z,us,r,⟨_,F8 _ rfl,rfl,_,rfl⟩⟩
theorem b7(h:PA X es t):PE X (.List es pos) (zN t):=by
 intro a s σ H Q I hq;refine wpAny_List_spliced (bH (h pos a s σ H _ I hq) λus c ⟨g,H1,d,r,z,q⟩=>⟨by rw[<- r.length];exact z,?_⟩);have i:H1 c.heap.objs.size=none:=d.hok.fresh (Gq _);refine⟨.ref c.heap.objs.size,aB H1 c.heap.objs.size (.lst g),d.laid (t':=c.toks) (λb u e=>F1 _ e) (Gq _) ?_,rfl,q _ i⟩;exact⟨z,us,0,r,F8 _ rfl⟩
end
abbrev Sp:=List V->Hp->VK->XK->Prop
abbrev iz:=List Env->Hp->Shared->XK->Value->Shared->Prop
structure lR(P:G5)(w:G8)(K:GX)(mg:G3)(base:Heap)(A:G7)(outer:List Env)(s:G0)(H:Hp):Prop where
 frames:A.frames=some outer
 mod:Mod K mg base
 bs:∀b o,base.get? b=some o->s.heap.get? b=some o/\H b=none
 bsz:base.objs.size<=s.heap.objs.size
 funs:s.heap.FunFrames base outer
 frf:∀b∈tj outer,H b=none
 hok:gU P w H s.heap
 bare:AllBare s.gens
def CE(outer:List Env)(P:G5)(w:G8)(H:Hp)(s:G0)(Q:VK)(u:Value)(s':G0):Prop:=
 ∃v H',s'.os=s.os/\AllBare s'.gens/\Un (tj outer) [] H H' s.heap s'.heap/\gU P w H' s'.heap/\aR v u/\Q v H'
def CR(CX:iz)(outer:List Env)(P:G5)(w:G8)(H:Hp)(s:G0)(Q:VK)(E:XK)(r:Result)(s':G0):Prop:=
 match r with
 | .ok (.ret u)=>CE outer P w H s Q u s'
 | .ok _=>False
 | .error e=>CX outer H s E e s'
structure bc(P:G5)(w:G8)(K:GX)(mg:G3)(base:Heap)(CX:iz)(k:Nat)(f:Addr)(fd:G4)(ps:G6)(sp:Sp):Prop where
 len:∀vs H Q E,sp vs H Q E->vs.length=ps.length
 run:∀(A:G7) (outer:List Env) (s:G0) (H:Hp) (args:Args) (us:G1) (vs:List V) (Q:VK) (E:XK),cw k A->lR P w K mg base A outer s H->BindsTo s fd args (ps.zip us)->aQ vs us->sp vs H Q E ->
  codeAny (model P w) A (.call (.ref f) args) (CR CX outer P w H s Q E) s
theorem bc.mono{P:G5}{w:G8}{K:GX}{mg:G3}{base:Heap}{CX:iz}{j k:Nat}{f:Addr}{fd:G4}{ps:G6}{sp:Sp}(F:bc P w K mg base CX j f fd ps sp)(h:j<=k) :
  bc P w K mg base CX k f fd ps sp:=⟨F.len,λA outer s H args us vs Q E hr=>F.run A outer s H args us vs Q E (hr.mono h)⟩
theorem lR.make{P:G5}{w:G8}{K:GX}{mg:G3}{base:Heap}{A:G7}{outer:List Env}{s:G0}{H:Hp}(e:lR P w K mg base A outer s H)(C:Addr)(us:G1)(kw:List (Str×Value)) :
  lR P w K mg base (A.under (.builtin "type.__call__" ⟨.ref C::us,kw⟩)) outer s H:=⟨by first | exact e.frames | (simpa[Around.under,Code.envs,Code.isFrame,pushEnvs]using e.frames),e.mod,e.bs,e.bsz,e.funs,e.frf,e.hok,e.bare⟩
theorem lR.in1{P:G5}{w:G8}{K:GX}{mg:G3}{base:Heap}{A:G7}{outer:List Env}{s:G0}{H:Hp}(e:lR P w K mg base A outer s H) :
  lR P w K mg base A.in1 outer s H:=⟨e.frames,e.mod,e.bs,e.bsz,e.funs,e.frf,e.hok,e.bare⟩
section
variable {X:Cx}{pins:GY}{σ:St}{H:Hp}{s s':G0}
theorem Inv.env0(I:Inv X pins σ H s):lR X.prog X.w X.K X.mg X.base X.A X.stack s H:=
 ⟨I.ok.frames,I.ok.mod,I.bs,Gy I.ok.bsz I.sz,I.stack,I.stkFree,I.hok,I.bare⟩
theorem Inv.after{Q:VK}{u:Value}(I:Inv X pins σ H s)(h:CE X.stack X.prog X.w H s Q u s'):EP X pins σ Q u s':=by
 obtain⟨v,j,os,a,un,e,r,q⟩:=h;obtain⟨i,g,d,t,c⟩:=s';obtain rfl:c=s.os:=os;exact⟨v,j,I.call (h':=i) (g':=g) (d':=d) (t':=t) (ch:=[]) un e a (λb z=>q0Q z (by simp)),r,q⟩
end
def k8(sp:Sp)(dvs:List V)(E:XK)(t:TA):TE:=λσ H Q=>t σ H λvs H1=>sp (vs++dvs) H1 Q E
def mT(C:Addr)(m:Str)(sp:Sp)(dvs:List V)(E:XK)(ta:TE)(t:TA):TE:=λσ H Q=>ta σ H λx H1=>∃a dx fs,x=.ref a/\H1 a=some (.ins C dx fs)/\fs.lookup m=none /\
 t σ H1 λvs H2=>sp (x::(vs++dvs)) H2 Q E
def ud(C:Addr)(sp:Sp)(dvs:List V)(E:XK)(t:TA):TE:=λσ H Q=>t σ H λvs H1=>∀x dx,H1 x=none->H1 dx=none->dx≠x ->
 sp (.ref x::(vs++dvs)) (aB (aB H1 dx (.own x)) x (.ins C dx [])) (λv H2=>v=.non/\Q (.ref x) H2) E
def cX(K:GX)(fd:G4)(ps:G6)(ds:G1):Prop:=
 ∀(s:G0) (us:G1),K.In s.heap->(us++ds).length=ps.length->BindsTo s fd ⟨us,[]⟩ (ps.zip (us++ds))
theorem cX.all{K:GX}{fd:G4}{ps:G6}(h:∀us:List Value,us.length=ps.length->bindArgs fd ⟨us,[]⟩=pure (ps.zip us)):cX K fd ps []:=λs us _ hl=>by
 rw[GB]at hl ⊢;exact .of_eq (h us hl)
def cQ(CX:iz)(X:Cx)(E:XK):Prop:=∀(pins:GY) (σ:St) (H:Hp) (s:G0) (e:Value) (s':G0),Inv X pins σ H s->CX X.stack H s E e s'->X.xe e s'
section
variable {X:Cx}{CX:iz}{k:Nat}{f C:Addr}{fd:G4}{ps:G6}{sp:Sp}{dvs:List V}{ds:G1}{E:XK}{x m:Str}{p pos apos:Pos}{e o:Expr}{es:Ha}{ta:TE}{t:TA}
theorem jc{pins:GY}{σ:St}{H:Hp}{s:G0}{Q:VK}{us:G1}{vs:List V}(F:bc X.prog X.w X.K X.mg X.base CX k f fd ps sp)(hr:cw k X.A)(hb:cX X.K fd ps ds)(hd:aQ dvs ds)(hx:cQ CX X E)
  (I:Inv X pins σ H s) (r:aQ vs us) (h:sp (vs++dvs) H Q E):wpAny (model X.prog X.w) X.A (call (.ref f) us) (EP X pins σ Q) X.xe s:=by
 have b:aQ (vs++dvs) (us++ds):=r.append hd;have d:(us++ds).length=ps.length:=by rw[<- b.length];exact F.len _ _ _ _ h
 refine wpAny_call (codeAny_mono (F.run X.A X.stack s H ⟨us,[]⟩ (us++ds) (vs++dvs) Q E hr I.env0 (hb s us I.kIn d) b h) λr c a=>?_);cases r with
 |error e=>exact hx pins σ H s e c I a
 |ok fl=>
  cases fl with
  |ret u=>exact I.after a
  |next=>exact False.elim a
  |brk=>exact False.elim a
  |cont=>exact False.elim a
theorem zL(F:bc X.prog X.w X.K X.mg X.base CX k f fd ps sp)(hr:cw k X.A)(hg:Gl X x)(hm:X.mg x=some (.ref f))(hk:PySem.W.keepIn X.K (.ref f)=true)(hb:cX X.K fd ps ds)(hd:aQ dvs ds)(hx:cQ CX X E)
  (ha:PA X (e::es) t) (hdb:autoParam ((x==("__debug__":Str))=false) zz1._auto_1) (he:autoParam (starEach (e::es) X.env=(false,eval e X.env)::starEach es X.env) zz0._auto_1) (hpl:autoParam ((backTo pos (starEach es X.env)).any (·.1)=false) zz0._auto_1) :
  PE X (.Call (.Name x p) (e::es) [] pos) (k8 sp dvs E t):=by
 intro a s σ H Q I h;refine wpAny_Call_Name_kw (ku I hg hm ?_ hdb);refine PySem.W.callWith_K (h₀:=X.base) I.ok.mod.kin hk (bH (ha pos a s σ H _ I h) λus s1 ⟨vs,H1,b,r,q⟩=>⟨b.kIn,?_⟩) he hpl;exact jc F hr hb hd hx b r q
theorem zj{pl:Sem Bool}(he:PE X o ta)(c:kt X.K C)(hm:j7 X.K C m f)(F:bc X.prog X.w X.K X.mg X.base CX k f fd ps sp)(hr:cw k X.A)(hb:cX X.K fd ps ds)(hd:aQ dvs ds)(hx:cQ CX X E)(ha:PA X (e::es) t)
  (hst:autoParam (starEach (e::es) X.env=(false,eval e X.env)::starEach es X.env) zz0._auto_1) (hpl:autoParam ((backTo pos (starEach es X.env)).any (·.1)=false) zz0._auto_1)
  (ht:autoParam (eval (.Call (.Attribute o m apos) (e::es) [] pos) X.env=(do
   let ov <- eval o X.env
   standAt apos.atName
   let (f,first) <- holding [ov] (getMethod ov m pl)
   callWith pos f first (backTo pos (starEach (e::es) X.env)) (backToKw pos (keywordEach [] X.env)))) zz0._auto_1) :
  PE X (.Call (.Attribute o m apos) (e::es) [] pos) (mT C m sp dvs E ta t):=by
 intro b s σ H Q I h;refine PySem.W.methodCall_KW (pl:=pl) (bH (he b s σ H _ I h) λu i ⟨x,H1,g,j,a,dx,fs,p,v,l,q⟩=>?_) ht;subst p;obtain rfl:u=Value.ref a:=j;refine dZ g v c hm l ?_;refine PySem.W.callWith_K (first:=[.ref a]) (h₀:=X.base) I.ok.mod.kin hm.kp (bH (ha pos b i σ H1 _ g q) λus s2 ⟨vs,H2,d,r,n⟩=>⟨d.kIn,?_⟩) hst hpl;exact jc (us:=.ref a::us) (vs:=.ref a::vs) F hr hb hd hx d (.cons rfl r) n
theorem wm{pl:Sem Bool}(he:PE X o ta)(c:kt X.K C)(hm:j7 X.K C m f)(F:bc X.prog X.w X.K X.mg X.base CX k f fd ps sp)(hr:cw k X.A)(hb:cX X.K fd ps ds)(hd:aQ dvs ds)(hx:cQ CX X E)
  (ht:autoParam (eval (.Call (.Attribute o m apos) [] [] pos) X.env=(do
   let ov <- eval o X.env
   standAt apos.atName
   let (f,first) <- holding [ov] (getMethod ov m pl)
   callWith pos f first (backTo pos (starEach [] X.env)) (backToKw pos (keywordEach [] X.env)))) zz0._auto_1) :
  PE X (.Call (.Attribute o m apos) [] [] pos) (mT C m sp dvs E ta l9):=by
 intro b s σ H Q I h;refine PySem.W.methodCall_KW (pl:=pl) (bH (he b s σ H _ I h) λu s1 ⟨x,H1,d,e,a,dx,fs,g,i,l,q⟩=>?_) ht;subst g;obtain rfl:u=Value.ref a:=e;refine dZ d i c hm l ?_;exact PySem.W.callWith_K0 (first:=[.ref a]) d.kIn hm.kp (jc (us:=[.ref a]) (vs:=[.ref a]) F hr hb hd hx d (.cons rfl .nil) q)
structure Mk(K:GX)(C f:Addr):Prop where
 makes:PySem.W.makesIn K C=true
 init:PySem.W.findIn K (.ref C) "__init__"=some (some (.ref f))
 fn:PySem.W.isFn K (.ref f)=true
 kp:PySem.W.keepIn K (.ref C)=true
theorem xr{pins:GY}{σ:St}{H:Hp}{s:G0}{Q:VK}{us:G1}{vs:List V}(M:Mk X.K C f)(F:bc X.prog X.w X.K X.mg X.base CX k f fd ps sp)(hr:cw (k+1) X.A)(hb:cX X.K fd ps ds)(hd:aQ dvs ds)
  (hx:cQ CX X E) (I:Inv X pins σ H s) (r:aQ vs us)
  (h:∀x dx,H x=none->H dx=none->dx≠x->sp (.ref x::(vs++dvs)) (aB (aB H dx (.own x)) x (.ins C dx [])) (λv H2=>v=.non/\Q (.ref x) H2) E) :
  wpAny (model X.prog X.w) X.A (call (.ref C) us) (EP X pins σ Q) X.xe s:=by
 have d:=h (s.heap.objs.size+1) s.heap.objs.size (I.hok.fresh (Nat.le_succ _)) (I.hok.fresh (Gq _)) (Gm (GA _));have b:=Inv.made (C:=C) I;have c:aQ (V.ref (s.heap.objs.size+1)::(vs++dvs)) (Value.ref (s.heap.objs.size+1)::(us++ds)):=.cons rfl (r.append hd);have l:(Value.ref (s.heap.objs.size+1)::us++ds).length=ps.length:=by
  have e:=c.length;rw[F.len _ _ _ _ d]at e;exact e.symm
 refine wpAny_call (w6 (f:=f) I.kIn M.makes M.init (beq_iff_eq.mp M.fn) (codeAny_mono (F.run _ X.stack _ _ ⟨Value.ref (s.heap.objs.size+1)::us,[]⟩ (Value.ref (s.heap.objs.size+1)::(us++ds)) _ _ E (hr.make C us [])
  (b.env0.make C us []) (hb _ (Value.ref (s.heap.objs.size+1)::us) b.kIn l) c d) λr g a=>?_))
 cases r with
 |error e=>exact hx pins σ _ _ e g b a
 |ok fl=>
  cases fl with
  |ret u=>
   obtain⟨v,o,n,i,m,j⟩:=b.after a;subst m;exact⟨i,⟨V.ref (s.heap.objs.size+1),o,n,rfl,j⟩⟩
  |next=>exact False.elim a
  |brk=>exact False.elim a
  |cont=>exact False.elim a
theorem zM(M:Mk X.K C f)(F:bc X.prog X.w X.K X.mg X.base CX k f fd ps sp)(hr:cw (k+1) X.A)(hg:Gl X x)(hm:X.mg x=some (.ref C))(hb:cX X.K fd ps ds)(hd:aQ dvs ds)(hx:cQ CX X E)
  (ha:PA X (e::es) t) (hdb:autoParam ((x==("__debug__":Str))=false) zz1._auto_1) (he:autoParam (starEach (e::es) X.env=(false,eval e X.env)::starEach es X.env) zz0._auto_1) (hpl:autoParam ((backTo pos (starEach es X.env)).any (·.1)=false) zz0._auto_1) :
  PE X (.Call (.Name x p) (e::es) [] pos) (ud C sp dvs E t):=by
 intro a s σ H Q I h;refine wpAny_Call_Name_kw (ku I hg hm ?_ hdb);refine PySem.W.callWith_K (h₀:=X.base) I.ok.mod.kin M.kp (bH (ha pos a s σ H _ I h) λus s1 ⟨vs,H1,b,r,q⟩=>⟨b.kIn,?_⟩) he hpl;exact xr M F hr hb hd hx b r q
end
def PK(X:Cx)(kws:List Keyword)(t:TA):Prop:=
 ∀(pos:Pos) (pins:GY) (s:G0) (σ:St) (H:Hp) (Q:List V->Hp->Prop),Inv X pins σ H s->t σ H Q->wpAny (model X.prog X.w) X.A (evalAll ((backToKw pos (keywordEach kws X.env)).map (·.2))) (AP X pins σ Q) X.xe s
section
variable {X:Cx}{CX:iz}{k:Nat}{f C:Addr}{fd:G4}{ps ks:G6}{sp:Sp}{E:XK}{x m:Str}{p pos apos kpos:Pos}{e o:Expr}{es:Ha}{kws:List Keyword}{te ta:TE}{t tk:TA}{nm:Option Str}
theorem BE:PK X [] l9:=λ_ _ _ _ H Q I h=>wpAny_evalAll_nil ⟨[],H,I,.nil,h⟩
theorem zC(ha:PE X e te)(hr:PK X kws t):PK X (⟨nm,e,kpos⟩::kws) (jS te t):=by
 intro b a s σ H Q I h;show wpAny _ _ (evalAll ((do let v <- eval e X.env;standAt b;pure v)::(backToKw b (keywordEach kws X.env)).map (·.2))) _ _ s;refine wpAny_evalAll_cons (q04 (bH (ha a s σ H _ I h) λu d ⟨x,H1,m,i,k⟩=>q04 (wpAny_standAt (q05 ?_))));exact bH (hr b a d σ H1 _ m k) λus s2 ⟨c,H2,l,g,j⟩=>⟨x::c,H2,l,.cons i g,j⟩
variable {g:List Value->List Value->List Value}{gV:List V->List V->List V}
end
structure aF(N P:G6)(sc:Scope):Prop where
 kind:sc.kind=.function
 co:sc.isCoroutine=false
 gen:sc.isGenerator=false
 nd:N.Nodup
 pre:N.take P.length=P
 par:∀x∈P,sc.names.lookup x=some .local\/sc.names.lookup x=some .cell
 nofree:∀y∈sc.names,y.2≠.free
theorem nr{kindOf:Str->Option NameKind}{x:Str}:∀{binds:List (Str×Value)} {m:G3},(∀v,(x,v)∉binds)->bindL kindOf binds m x=m x
 | [],_,_=>rfl
 | (n,v)::r,m,h=>by
  unfold bindL;rw[nr λw hw=>h w (Gh _ hw)]
  split
  ·have:x≠n:=by rintro rfl;exact h v q0B
   simp[this]
  ·rfl
theorem mM{kindOf:Str->Option NameKind}{x:Str}:∀{binds:List (Str×Value)} {m:G3},(∀v,(x,v)∉binds)->bindC kindOf binds m x=m x
 | [],_,_=>rfl
 | (n,v)::r,m,h=>by
  unfold bindC;rw[mM λw hw=>h w (Gh _ hw)]
  split
  ·rfl
  ·have:x≠n:=by rintro rfl;exact h v q0B
   simp[this]
theorem nq{kindOf:Str->Option NameKind}{x:Str}{v:Value}:∀{P:G6} {vs:G1} {i:Nat} {m:G3},P.Nodup->P[i]?=some x->vs[i]?=some v->kindOf x=some .local ->
  bindL kindOf (P.zip vs) m x=some v
 | [],_,_,_,_,h,_,_=>by simp at h
 |_::_,[],_,_,_,_,h,_=>by simp at h
 |p::P,w::vs,0,m,nd,h1,h2,hk=>by
  simp at h1 h2;subst h1;subst h2
  show bindL kindOf ((p,w)::P.zip vs) m p=_;unfold bindL;rw[nr λv hv=>(List.nodup_cons.mp nd).1 (List.of_mem_zip hv).1,q07 hk];simp
 |p::P,w::vs,i+1,m,nd,h1,h2,hk=>by
  show bindL kindOf ((p,w)::P.zip vs) m x=_;unfold bindL;exact nq (i:=i) (List.nodup_cons.mp nd).2 (by simpa using h1) (by simpa using h2) hk
theorem m_{kindOf:Str->Option NameKind}{x:Str}{v:Value}:∀{P:G6} {vs:G1} {i:Nat} {m:G3},P.Nodup->P[i]?=some x->vs[i]?=some v->kindOf x≠some .local ->
  bindC kindOf (P.zip vs) m x=some v
 | [],_,_,_,_,h,_,_=>by simp at h
 |_::_,[],_,_,_,_,h,_=>by simp at h
 |p::P,w::vs,0,m,nd,h1,h2,hk=>by
  simp at h1 h2;subst h1;subst h2
  show bindC kindOf ((p,w)::P.zip vs) m p=_;unfold bindC;rw[mM λv hv=>(List.nodup_cons.mp nd).1 (List.of_mem_zip hv).1,q06 hk];simp
 |p::P,w::vs,i+1,m,nd,h1,h2,hk=>by
  show bindC kindOf ((p,w)::P.zip vs) m x=_;unfold bindC;exact m_ (i:=i) (List.nodup_cons.mp nd).2 (by simpa using h1) (by simpa using h2) hk
def start(N:G6)(vs:List V):St:=vs.map some++List.replicate (N.length-vs.length) none
def pX(CX:iz)(P:G5)(w:G8)(K:GX)(mg:G3)(base:Heap)(N:G6)(qual:Str)(scope:Scope)(f:Addr)(cd:Value)(A:G7)(outer:List Env)(s:G0)(H:Hp)(E:XK):Cx where
 prog:=P
 w:=w
 K:=K
 mg:=mg
 base:=base
 A:=A.deeper (envOfC qual scope s.heap.objs.size f cd)
 N:=N
 s₀:=s
 H₀:=H
 env:=envOfC qual scope s.heap.objs.size f cd
 outer:=outer
 stack:=envOfC qual scope s.heap.objs.size f cd::outer
 ex:=[]
 calm:=true
 fn:=λ_=>true
 pn:=[]
 xe:=λe s'=>wpAny (model P w) (A.deeper (envOfC qual scope s.heap.objs.size f cd)) (leaving (envOfC qual scope s.heap.objs.size f cd) e) (λ_ s''=>CX outer H s E e s'') (λe' s''=>CX outer H s E e' s'') s'
theorem qv{sc:Scope}{n:Nat}{x:Str}(h:sc.names.lookup x=some .cell):∃c,(cellsFrom n sc.names []).lookup x=some c:=by
 have q:=PySem.W.cellsFrom_some sc.names n [] (.inl h);exact Option.isSome_iff_exists.mp q
theorem uP{CX:iz}{P:G5}{w:G8}{K:GX}{mg:G3}{base:Heap}{N ps:G6}{qual:Str}{scope:Scope}{f:Addr}{cd:Value}{A:G7}{outer:List Env}{s s1:G0}{H:Hp}{E:XK}{us:G1}{vs:List V}
  (S:aF N ps scope) (hd:A.handled=none) (e0:lR P w K mg base A outer s H) (hl:vs.length=ps.length) (r:aQ vs us)
  (x:InCallC s s.heap.objs.size (bindL (envOfC qual scope s.heap.objs.size f cd).kindOf (ps.zip us) λ_=>none) (cellsFrom (s.heap.objs.size+1) scope.names []) (bindC (envOfC qual scope s.heap.objs.size f cd).kindOf (ps.zip us) λ_=>none) s1) :
  Inv (pX CX P w K mg base N qual scope f cd A outer s H E) [] (start N vs) H s1:=by
 have hpl:ps.length<=N.length:=by have:=q0R List.length S.pre;rw[GG]at this;omega
 obtain⟨h1,tk,rfl,o⟩:=x.done;have d:∀b:Addr,b∉(pX CX P w K mg base N qual scope f cd A outer s H E).ex:=λb z=>q0Q (show b∈([]:List Addr) from z) (by simp);refine⟨⟨e0.mod,S.kind,rfl,rfl,Gq _,λy z c h1 h2=>?_,λy hy=>?_,λy c _ h=>?_,λ_=>hd,Around.frames_deeper e0.frames,.inr ⟨rfl,rfl⟩,λb z=>q0Q z (d b),e0.bs,e0.bsz,λb _ _=>d b,λb z=>q0Q z (d b),e0.funs,e0.frf⟩,
  rfl,e0.bare,Un.kept o,⟨_,x.toInCall.ns,λi y v h1 h2 h3=>?_⟩,λy c h=>⟨_,x.cell y c h⟩,e0.hok.fresh (Gq _),λy c h=>?_,λp j=>q0Q (show p∈([]:List (Addr×Obj)) from j) (by simp),e0.hok.kept o,?_⟩
 ·exact name_of_addr x.apart (PySem.mem_of_lookup h1) (PySem.mem_of_lookup h2)
 ·have hy:scope.names.lookup y=some .cell\/scope.names.lookup y=some .free:=hy
  rcases hy with hy | hy
  ·exact qv hy
  ·exact q0Q rfl (S.nofree _ (PySem.mem_of_lookup hy))
 ·exact q0P (x.above y c (PySem.mem_of_lookup h))
 ·have l:i<vs.length:=by
   unfold start at h2
   by_cases l:i<vs.length
   ·exact l
   ·rw[Gn (by simpa using l)]at h2
    rw[List.getElem?_replicate]at h2
    split at h2<;>cases h2
  have C:vs[i]?=some v:=by
   unfold start at h2;rw[Go (by simpa using l),F5]at h2;cases e:vs[i]? with
   |none=>rw[e]at h2;cases h2
   |some a=>rw[e]at h2;cases h2;rfl
  obtain⟨u,m,B⟩:=r.get C;have j:ps[i]?=some y:=by
   rw[<- S.pre,List.getElem?_take_of_lt ⋯];exact h1
  have g:ps.Nodup:=by rw[<- S.pre];exact S.nd.sublist (List.take_sublist _ _)
  refine⟨u,B,?_⟩;rcases S.par y (F6 j) with k | k
  ·exact .inl ⟨k,nq g j m k⟩
  ·obtain⟨c,e⟩:=qv (n:=s.heap.objs.size+1) k
   refine .inr ⟨.inl k,c,e,?_⟩;have q:=x.cell y c e;rw[m_ g j m (by show scope.names.lookup y≠_;rw[k];decide)]at q;exact q
 ·exact e0.hok.fresh (q0P (x.above y c (PySem.mem_of_lookup h)))
 ·unfold start
  show _=N.length;rw[Gp,F3,List.length_replicate];omega
theorem CS{CX:iz}{P:G5}{w:G8}{K:GX}{mg:G3}{base:Heap}{k:Nat}{f:Addr}{name qual:Str}{params:Arguments}{body:List Stmt}{scope:Scope}{dV kV doc pm cdv ct oc:Value}{an od:G9}
  {osl:Array (Option Value)} {N ps:G6} {sp:Sp} (lk:K.lookup f=some ⟨oc,od,.func (PySem.W.fnOf name qual params body scope dV kV doc pm an cdv ct),osl⟩) (hcd:PySem.W.codeIn K cdv qual=true) (S:aF N ps scope)
  (len:∀vs H Q E,sp vs H Q E->vs.length=ps.length)
  (hbody:∀(A:G7) (outer:List Env) (s:G0) (H:Hp) (vs:List V) (Q:VK) (E:XK),cw k (A.deeper (envOfC qual scope s.heap.objs.size f cdv))->sp vs H Q E ->
   ∃t,tR (pX CX P w K mg base N qual scope f cdv A outer s H E) body t/\t {nx:=λ_ H'=>Q .non H',rt:=Q} (start N vs) H) :
  bc P w K mg base CX (k+1) f (PySem.W.fnOf name qual params body scope dV kV doc pm an cdv ct) ps sp:=by
 refine⟨len,λA outer s H args z vs Q E hr g M r d=>?_⟩;have G:=len _ _ _ _ d;have p:K.In s.heap:=g.mod.kin.keeps λb o e=>(g.bs b o e).1;have l:s.heap.NoLimit:=g.mod.nolimit.keeps λb o e=>(g.bs b o e).1;have a:∀y∈ps.zip z,scope.names.lookup y.1=some .local\/(scope.names.lookup y.1=some .cell/\((cellsFrom (s.heap.objs.size+1) scope.names []).lookup y.1).isSome=true):=λ⟨n,v⟩ B=>by
  rcases S.par n (List.of_mem_zip B).1 with q | q
  ·exact .inl q
  ·exact .inr ⟨q,PySem.W.cellsFrom_some _ _ _ (.inl q)⟩
 refine codeAny_call_function hr.depth (p _ _ lk) rfl S.co S.gen rfl (PySem.W.codeRec_of p hcd) (M _ _ _ _ ?_);refine wpAny_newFunctionEnv_cells S.kind a λenv L m x=>?_;subst L;refine⟨l.keeps x.toInCall.keep,codeAny_func ?_⟩;obtain⟨t,C,D⟩:=hbody A outer s H vs Q E (hr.deeper _) d;have I:Inv (pX CX P w K mg base N qual scope f cdv A outer s H E) [] (start N vs) H m:=uP S hr.hd g G r x;refine q0X (C [] m (start N vs) H _ I D) (λO i c=>?_) λe i c=>c;have fin:∀{σ':St} {H':Hp} {v:V} {u:Value},Inv (pX CX P w K mg base N qual scope f cdv A outer s H E) [] σ' H' i->aR v u->Q v H'->CE outer P w H s Q u i:=
  fun{σ' H' v u} J j q=>⟨v,H',J.os,J.bare,J.base,J.hok,j,q⟩
 cases O with
 |ret u=>
  obtain⟨v,σ',H',J,j,q⟩:=c;exact fin J j q
 |next=>
  obtain⟨σ',H',J,q⟩:=c;exact fin (v:=V.non) (u:=Value.none) J rfl q
 |brk=>
  obtain⟨_,_,_,q⟩:=c;exact False.elim q
 |cont=>
  obtain⟨_,_,_,q⟩:=c;exact False.elim q
section
variable {X:Cx}{x:Str}{p pos:Pos}{e:Expr}{es:Ha}{t:TA}{id T:String}{r:List V->Hp->VK->Prop}
def C6(r:List V->Hp->VK->Prop)(t:TA):TE:=λσ H Q=>t σ H λvs H1=>r vs H1 Q
theorem aN(hc:eN X (.builtin id) r)(hg:Gl X x)(hm:X.mg x=none)(hv:bootBuiltins x=some (.builtin id))(ha:PA X (e::es) t)(hn:autoParam (x≠"__name__") zz1._auto_1)(hdb:autoParam ((x==("__debug__":Str))=false) zz1._auto_1)
  (he:autoParam (starEach (e::es) X.env=(false,eval e X.env)::starEach es X.env) zz0._auto_1) (hpl:autoParam ((backTo pos (starEach es X.env)).any (·.1)=false) zz0._auto_1):PE X (.Call (.Name x p) (e::es) [] pos) (C6 r t):=by
 intro a s σ H Q I h;refine wpAny_Call_Name_kw (dS I hg hm hv ?_ hn hdb);exact PyProof.Rows.callWith_builtin1 (bH (ha pos a s σ H _ I h) λus b ⟨vs,H1,g,c,d⟩=>hc a b σ H1 vs us Q g c d) he hpl
theorem dl(hc:eN X (.type T) r)(hg:Gl X x)(hm:X.mg x=none)(hv:bootBuiltins x=some (.type T))(ha:PA X (e::es) t)(hn:autoParam (x≠"__name__") zz1._auto_1)(hdb:autoParam ((x==("__debug__":Str))=false) zz1._auto_1)
  (he:autoParam (starEach (e::es) X.env=(false,eval e X.env)::starEach es X.env) zz0._auto_1) (hpl:autoParam ((backTo pos (starEach es X.env)).any (·.1)=false) zz0._auto_1):PE X (.Call (.Name x p) (e::es) [] pos) (C6 r t):=by
 intro a s σ H Q I h;refine wpAny_Call_Name_kw (dS I hg hm hv ?_ hn hdb);exact PyProof.Rows.callWith_type1 (bH (ha pos a s σ H _ I h) λus b ⟨vs,H1,g,c,d⟩=>hc a b σ H1 vs us Q g c d) he hpl
end
end L2
namespace HT
open PySem PyProof.Rows
section
variable {prog:G5}{w:G8}{A:G7}{E:GW}{s:G0}
def sIx(n d:Nat):Option Int->Nat
 |none=>d
 |some v=>if v<0 then(v+(n:Int)).toNat else min v.toNat n
theorem sIx_nat(n d k:Nat):sIx n d (some (k:Int))=min k n:=by
 show(if(k:Int)<0 then((k:Int)+(n:Int)).toNat else min (k:Int).toNat n)=min k n;rw[q06 ⋯,F']
theorem sIx_le(n d:Nat)(hd:d<=n)(o:Option Int):sIx n d o<=n:=by
 cases o with
 |none=>exact hd
 |some v=>
  show(if v<0 then(v+(n:Int)).toNat else min v.toNat n)<=n
  by_cases a:v<0
  ·rw[q07 a];omega
  ·rw[q06 a];exact Nat.min_le_right _ _
end
end HT
namespace L2
open PySem PySem.Spec PyProof.Rows
abbrev TO:=St->Hp->(Option Int->Hp->Prop)->Prop
def PO(X:Cx)(e:Option Expr)(t:TO):Prop:=
 ∀(pins:GY) (s:G0) (σ:St) (H:Hp) (Q:Option Int->Hp->Prop),Inv X pins σ H s->t σ H Q ->
  wpAny (model X.prog X.w) X.A (evalPart e X.env) (λu s'=>∃o H',Inv X pins σ H' s'/\IsPart u o/\Q o H') X.xe s
def oh:TO:=λ_ H Q=>Q none H
def wk(t:TE):TO:=λσ H Q=>t σ H λx H1=>∃i,x=.int i/\Q (some i) H1
section
variable {X:Cx}{e:Expr}{te:TE}{lo hi:Option Expr}{tl th:TO}{pos p2:Pos}
theorem kn:PO X none oh:=by
 intro pins s σ H Q I h;rw[evalPart_none];exact q05 ⟨none,H,I,.none,h⟩
theorem eQ(h:PE X e te):PO X (some e) (wk te):=by
 intro a s σ H Q I hw;rw[evalPart_some];refine bH (h a s σ H _ I hw) λu s1 ⟨x,H1,d,b,c⟩=>?_;obtain⟨i,rfl,q⟩:=c;obtain⟨t,rfl⟩:=b;exact⟨some i,H1,d,.int i t,q⟩
def DG(X:Cx)(r:V->Option Int->Option Int->Hp->VK->Prop):Prop:=
 ∀(pins:GY) (s:G0) (σ:St) (H:Hp) (x:V) (v vl vu:Value) (lo hi:Option Int) (sl:Addr) (Q:VK),Inv X pins σ H s->aR x v->s.heap.IsSliceOf sl vl vu .none->IsPart vl lo->IsPart vu hi->r x lo hi H Q ->
  ∃T id,typeLookup (.type T) "__getitem__"=pure (some (.builtin id))/\s.TypeIs v T/\wpAny (model X.prog X.w) X.A (getItem v (.ref sl)) (EP X pins σ Q) X.xe s
def DD(r:V->Option Int->Option Int->Hp->VK->Prop)(te:TE)(tl th:TO):TE:=λσ H Q=>te σ H λx H1=>tl σ H1 λl H2=>th σ H2 λu H3=>r x l u H3 Q
theorem fk{r:V->Option Int->Option Int->Hp->VK->Prop}(hr:DG X r)(he:PE X e te)(hl:PO X lo tl)(hu:PO X hi th):PE X (.Subscript e (.Slice lo hi none p2) pos) (DD r te tl th):=by
 intro a s σ H Q I h;refine Subscript_ (bH (he a s σ H _ I h) λv i ⟨x,H1,J,j,n⟩=>?_);refine wpAny_Slice (bH (hl a i σ H1 _ J n) λvl g ⟨l,H2,G,p,m⟩=>bH (hu a g σ H2 _ G m) λvu c ⟨u,d,D,o,k⟩=>?_);rw[evalPart_none];refine q05 ?_;have C:Inv X a σ d {c with heap:=c.heap.push {cls:=.type "slice",data:=.fields #[vl,vu,.none]} }:=D.kept (t':=c.toks) λb ob q=>F1 _ q;obtain⟨T,id,B,y,z⟩:=hr a {c with heap:=c.heap.push {cls:=.type "slice",data:=.fields #[vl,vu,.none]} } σ d x v vl vu l u c.heap.objs.size Q C j (Heap.IsSliceOf.new ..) p o k;show wpAny (model X.prog X.w) X.A (subscriptTail e (.Slice lo hi none p2) v (.ref c.heap.objs.size)) (EP X a σ Q) X.xe {c with heap:=c.heap.push {cls:=.type "slice",data:=.fields #[vl,vu,.none]} };exact tail_any (ops:=[.ref c.heap.objs.size,v]) y B z (by with_unfolding_all rfl)
def mh(xs:List V)(lo hi:Option Int):List V:=(xs.drop (HT.sIx xs.length 0 lo)).take (HT.sIx xs.length xs.length hi-HT.sIx xs.length 0 lo)
theorem rm(xs:List V)(lo hi:Option Int):(mh xs lo hi).length<=xs.length:=by
 unfold mh;rw[GG,GH];omega
end
def B6(n:Nat)(i:Int):Option Nat:=if 0<=i then(if i<n then some i.toNat else none) else if -(n:Int)<=i then some (i+n).toNat else none
def nv{α:Type}(xs:List α)(i:Int):Option α:=(B6 xs.length i).bind λj=>xs[j]?
theorem yW{n:Nat}{i:Int}{j:Nat}(h:B6 n i=some j):seqIndex? i n=some j/\j<n/\-(n:Int)<=i/\i<n:=by
 unfold B6 at h
 by_cases a:0<=i
 ·rw[q07 a]at h
  by_cases h1:i<n
  ·rw[q07 h1]at h
   have e:i.toNat=j:=q0S h;exact⟨by rw[seqIndex_of a h1,e],⋯,⋯,h1⟩
  ·rw[q06 h1]at h;cases h
 ·rw[q06 a]at h
  by_cases h1:-(n:Int)<=i
  ·rw[q07 h1]at h
   have e:(i+n).toNat=j:=q0S h;exact⟨by rw[seqIndex_neg ⋯ h1,e],⋯,h1,⋯⟩
  ·rw[q06 h1]at h;cases h
theorem oW{α:Type}{xs:List α}{i:Int}{v:α}(h:nv xs i=some v):∃j,seqIndex? i xs.length=some j/\xs[j]?=some v/\j<xs.length/\-(xs.length:Int)<=i/\i<xs.length:=by
 unfold nv at h;cases e:B6 xs.length i with
 |none=>rw[e]at h;cases h
 |some j=>
  rw[e]at h;obtain⟨h1,h2,b,a⟩:=yW e;exact⟨j,h1,h,h2,b,a⟩
theorem bS{α:Type}{xs:List α}{j:Nat}{v:α}(h:xs[j]?=some v):nv xs (j:Int)=some v:=by
 have hj:j<xs.length:=(F0.mp h).1;have e:B6 xs.length (j:Int)=some j:=by
  unfold B6;rw[q07 ⋯,q07 ⋯];simp
 unfold nv;rw[e];exact h
def zr(b:Expr):Prop:=∀o i,subscripted b false o i=operate [o,i] (getItem o i)
def BQ(X:Cx)(r:R2):Prop:=
 ∀(value slice:Expr) (pins:GY) (s:G0) (σ:St) (H:Hp) (x y:V) (v u:Value) (Q:VK),Inv X pins σ H s->aR x v->aR y u->r x y H Q ->
  subscripted slice false v u=operate [v,u] (getItem v u)->wpAny (model X.prog X.w) X.A (subscriptTail value slice v u) (EP X pins σ Q) X.xe s
def De(X:Cx)(id:String)(r:V->List V->Hp->VK->Prop):Prop:=
 ∀(pins:GY) (s:G0) (σ:St) (H:Hp) (x:V) (xs:List V) (v:Value) (us:G1) (Q:VK),Inv X pins σ H s->aR x v->aQ xs us->r x xs H Q ->
  wpAny (model X.prog X.w) X.A (call (.builtin id) (v::us)) (EP X pins σ Q) X.xe s
section
variable {X:Cx}{a b:Expr}{ta tb:TE}{pos:Pos}
theorem cg{r:R2}(hr:BQ X r)(ha:PE X a ta)(hb:PE X b tb)(hs:zr b):PE X (.Subscript a b pos) (BZ r ta tb):=by
 intro c s σ H Q I h;exact Subscript_ (Bx ha hb I h λv u d x y H2 i g e q=>hr a b c d σ H2 x y v u Q i g e q (hs _ _))
def uT(K:GX):R2:=λx y H Q=>∃p xs i v,x=.ref p/\y=.int i/\aT K H p xs/\nv xs i=some v/\Q v H
def yo(K:GX):R2:=λx y H Q=>∃p xs i v,x=.ref p/\y=.int i/\jv K H p xs/\nv xs i=some v/\Q v H
def Bz:R2:=λx y H Q=>∃z i c,x=.str z/\y=.int i/\z.length<=sizeLine/\nv z.cps.toList i=some c/\Q (.str ⟨#[c]⟩) H
theorem nQ:BQ X (uT X.K):=by
 intro value slice a s σ H x y v u Q I rx ry h hs;obtain⟨p,xs,i,z,rfl,rfl,m,o,q⟩:=h;cases rx;obtain⟨t,rfl⟩:=ry;obtain⟨d,r,c,hz⟩:=I.list m;obtain⟨j,h1,h2,h3,C,B⟩:=oW o;obtain⟨w,k,b⟩:=r.get h2;have n:=r.length;have hn:=lQ;have fin:EP X a σ Q w s:=⟨z,H,I,b,q⟩
 by_cases g:0<=i
 ·have e:i.toNat=j:=by
   rw[seqIndex_of g B]at h1;exact q0S h1
  exact item_listR c.isList g ⋯ (by rw[e];simpa using k) fin hs
 ·have e:(i+(d.toArray.size:Int)).toNat=j:=by
   rw[seqIndex_neg ⋯ C]at h1;rw[F9,<- n];exact q0S h1
  exact subscriptTail_builtinR (x:=w) c.isList.typeIs slot_list_getitem.lookup
   (wpAny_getItem_list_neg (Q:=λr l=>r=w/\EP X a σ Q r l) c.isList ⋯ (by rw[F9]<;>omega) ⋯ (by rw[e];simpa using k) ⟨rfl,fin⟩) hs
theorem Bl:BQ X (yo X.K):=by
 intro value slice a s σ H x y v u Q I rx ry h hs;obtain⟨p,xs,i,z,rfl,rfl,e,k,q⟩:=h;cases rx;obtain⟨t,rfl⟩:=ry;obtain⟨its,r,c,hz⟩:=I.tuple e;obtain⟨j,h1,h2,h3,h4,h5⟩:=oW k;obtain⟨w,l,b⟩:=r.get h2;have g:=r.length;have hn:=lQ;have fin:EP X a σ Q w s:=⟨z,H,I,b,q⟩;exact subscriptTail_builtinR (x:=w) c.typeIs slot_tuple_getitem.lookup
  (getItem_tuple (j:=j) (Q:=λr d=>r=w/\EP X a σ Q r d) c ⋯ ⋯ (by rw[F9,<- g];exact h1) (by simpa using l) ⟨rfl,fin⟩) hs
theorem pH:BQ X Bz:=by
 intro value slice pins s σ H x y v u Q I rx ry h hs;obtain⟨z,i,c,rfl,rfl,hz,b,q⟩:=h;obtain⟨t,rfl⟩:=rx;obtain⟨t',rfl⟩:=ry;obtain⟨j,h1,h2,h3,e,d⟩:=oW b;have a:z.cps.toList.length=z.length:=by simp[Str.length]
 rw[a]at h1 e d;have hn:=lQ;exact tail_any (typeIs_str s z t) slot_str_getitem.lookup (getItem_str (c:=c) (by
  have k:decide (i < -(2 ^ 63:Int))=false:=q08 ⋯;have g:decide (i≥2 ^ 63)=false:=q08 ⋯;rw[k,g,Bool.or_false]) (by rw[h1];simpa using h2) ⟨.str ⟨#[c]⟩,H,I.tok _,⟨_,rfl⟩,q⟩) hs
theorem oG(lo hi:Option Int)(n:Nat):(sliceBounds lo hi none n).1=((HT.sIx n 0 lo:Nat):Int)/\(sliceBounds lo hi none n).2.1=((HT.sIx n n hi:Nat):Int)/\(sliceBounds lo hi none n).2.2=1:=by
 refine⟨?_,?_,rfl⟩
 ·cases lo with
  |none=>simp[sliceBounds,HT.sIx]
  |some i=>
   simp only[sliceBounds,HT.sIx,Option.getD_none,show(1:Int)>0 by decide,if_true]
   by_cases h:i<0
   ·simp only[h,if_true]<;>omega
   ·simp only[h,if_false]<;>omega
 ·cases hi with
  |none=>simp[sliceBounds,HT.sIx]
  |some i=>
   simp only[sliceBounds,HT.sIx,Option.getD_none,show(1:Int)>0 by decide,if_true]
   by_cases h:i<0
   ·simp only[h,if_true]<;>omega
   ·simp only[h,if_false]<;>omega
theorem l_(its:G1)(lo hi:Option Int):slicePick its.toArray lo hi none=((its.drop (HT.sIx its.length 0 lo)).take (HT.sIx its.length its.length hi-HT.sIx its.length 0 lo)).toArray:=by
 obtain⟨h1,h2,a⟩:=oG lo hi its.toArray.size;unfold slicePick;rw[h1,h2,a];simp only[sliceRange_one,pick_run,F9]<;>rfl
def Bw(K:GX):V->Option Int->Option Int->Hp->VK->Prop:=λx lo hi H Q=>∃a xs,x=.ref a/\aT K H a xs/\∀p,H p=none->Q (.ref p) (aB H p (.lst (mh xs lo hi)))
theorem oq:DG X (Bw X.K):=by
 intro pins s σ H x v vl vu lo hi sl Q I rx hs pl pu h;obtain⟨a,c,rfl,i,q⟩:=h;cases rx;obtain⟨its,r,e,g⟩:=I.list i;have d:=r.length;refine⟨"list",_,slot_list_getitem.lookup,e.isList.typeIs,?_⟩;refine wpAny_getItem_list_slice e.isList hs pl pu .none (by simp) ?_ (by rw[F9]<;>omega);rw[l_,<- d];refine⟨.ref s.heap.objs.size,_,I.laid (t':=s.toks) (o:=.lst (mh c lo hi)) (λb ob q=>F1 _ q) (Gq _) ?_,rfl,q _ (I.hok.fresh (Gq _))⟩;exact⟨Gy (rm c lo hi) g,_,0,(r.drop (HT.sIx c.length 0 lo)).take (HT.sIx c.length c.length hi-HT.sIx c.length 0 lo),F8 _ rfl⟩
def qN:V->Bool
 | .non=>true
 | .bl _=>true
 | .int _=>true
 | .str _=>true
 |_=>false
def zi:V->V->Bool
 | .non,.non=>true
 | .bl a,.bl b=>a==b
 | .bl a,.int b=>(if a then 1 else 0)==b
 | .int a,.bl b=>a==(if b then 1 else 0)
 | .int a,.int b=>a==b
 | .str a,.str b=>a==b
 |_,_=>false
theorem fY{A:G7}{s:G0}{y x:V}{u v:Value}(ry:aR y u)(rx:aR x v)(fy:qN y=true)(fx:qN x=true):SeqAt.EqAt A s u v (zi y x):=by
 cases y with
 |non=>
  cases ry;cases x with
  |non=>cases rx;exact SeqAt.EqAt.same _
  |bl b=>cases rx;exact SeqAt.EqAt.none_bool b
  |int b=>obtain⟨t,rfl⟩:=rx;exact SeqAt.EqAt.none_int b t
  |str b=>obtain⟨t,rfl⟩:=rx;exact SeqAt.EqAt.none_str b t
  |_=>exact q0Q (show false=true from fx) Gs
 |bl a=>
  cases ry;cases x with
  |non=>cases rx;exact SeqAt.EqAt.bool_none a
  |bl b=>cases rx;exact SeqAt.EqAt.bool_bool a b
  |int b=>obtain⟨t,rfl⟩:=rx;exact SeqAt.EqAt.bool_int a b t
  |str b=>obtain⟨t,rfl⟩:=rx;exact SeqAt.EqAt.bool_str a b t
  |_=>exact q0Q (show false=true from fx) Gs
 |int a=>
  obtain⟨c,rfl⟩:=ry;cases x with
  |non=>cases rx;exact SeqAt.EqAt.int_none a c
  |bl b=>cases rx;exact SeqAt.EqAt.int_bool a c b
  |int b=>obtain⟨t,rfl⟩:=rx;exact SeqAt.EqAt.int_int a c b t
  |str b=>obtain⟨t,rfl⟩:=rx;exact SeqAt.EqAt.int_str a c b t
  |_=>exact q0Q (show false=true from fx) Gs
 |str a=>
  obtain⟨c,rfl⟩:=ry;cases x with
  |non=>cases rx;exact SeqAt.EqAt.str_none a c
  |bl b=>cases rx;exact SeqAt.EqAt.str_bool a c b
  |int b=>obtain⟨t,rfl⟩:=rx;exact SeqAt.EqAt.str_int a c b t
  |str b=>obtain⟨t,rfl⟩:=rx;exact SeqAt.EqAt.str_str a c b t
  |_=>exact q0Q (show false=true from fx) Gs
 |_=>exact q0Q (show false=true from fy) Gs
theorem iE:eN X (.builtin "len") (λxs H Q=>∃p ys,xs=[.ref p]/\(aT X.K H p ys\/jv X.K H p ys)/\Q (.int ys.length) H):=by
 intro pins s σ H xs us Q I r h;obtain⟨p,ys,rfl,hq,q⟩:=h;obtain⟨u,rfl,e⟩:=pU r;cases e;have hn:=lQ;rcases hq with hq | hq
 ·obtain⟨d,b,c,g⟩:=I.list hq
  have a:=b.length;exact Calls.call_len_list c.isList (by simp only[F9]<;>omega) ⟨.int ys.length,H,I.tok _,⟨s.toks+1,by rw[F9,a]⟩,q⟩
 ·obtain⟨d,b,c,g⟩:=I.tuple hq
  have a:=b.length;exact len_tuple c (by simp only[F9]<;>omega) ⟨.int ys.length,H,I.tok _,⟨s.toks+1,by rw[F9,a]⟩,q⟩
theorem bY:eN X (.builtin "len") (λxs H Q=>∃z,xs=[.str z]/\z.length<=sizeLine/\Q (.int z.length) H):=by
 intro pins s σ H xs us Q I r h;obtain⟨z,rfl,hz,q⟩:=h;obtain⟨u,rfl,t,rfl⟩:=pU r;have hn:=lQ;exact len_str ⋯ ⟨.int z.length,H,I.tok _,⟨_,rfl⟩,q⟩
theorem cH:eN X (.type "list") (λxs H Q=>∃p ys,xs=[.ref p]/\(aT X.K H p ys\/jv X.K H p ys)/\∀l,H l=none->Q (.ref l) (aB H l (.lst ys))):=by
 intro i s σ H xs us Q I r h;obtain⟨p,ys,rfl,hq,q⟩:=h;obtain⟨u,rfl,z⟩:=pU r;cases z;have fin:∀(a:G1),aQ ys a->ys.length<=sizeLine->∀(c:Heap) (g:Nat),(∀b o',s.heap.get? b=some o'->c.get? b=some o') ->
   c.get? s.heap.objs.size=some {cls:=.type "list",dict:=none,data:=.seq a.toArray g,slots:=#[]}->EP X i σ Q (.ref s.heap.objs.size) {s with heap:=c }:=λa d j c g kp e=>
  ⟨.ref s.heap.objs.size,_,I.laid (t':=s.toks) kp (Gq _) (show bB X.prog X.w _ c _ (.lst ys) from⟨j,a,g,d,e⟩),rfl,q _ (I.hok.fresh (Gq _))⟩
 rcases hq with hq | hq
 ·obtain⟨a,d,m,j⟩:=I.list hq
  have k:=d.length;obtain⟨o,v,y,n,x⟩:=m.isList;exact call_list_seq p (.inl rfl) v y x (λc g kp e=>fin a d j c g kp e) (by simp only[F9]<;>omega)
 ·obtain⟨a,d,m,j⟩:=I.tuple hq
  have k:=d.length;obtain⟨o,v,y,n,x⟩:=m;exact call_list_seq p (.inr rfl) v y x (λc g kp e=>fin a d j c g kp e) (by simp only[F9]<;>omega)
def DU(K:GX)(T:String)(x:V)(H:Hp):Prop:=match x with
 | .str _=>T="str"
 | .int _=>T="int"
 | .ref p=>(T="list"/\∃xs,aT K H p xs)\/(T="tuple"/\∃o,K.lookup p=some o/\o.cls=.type "tuple"/\o.dict=none) \/
   (T="dict"/\((∃kvs,H p=some (.dK kvs))\/∃kvs,H p=some (.dT kvs)))\/(T="set"/\∃S n,H p=some (.set S n))
 |_=>False
theorem yF{pins:GY}{σ:St}{H:Hp}{s:G0}{T:String}{x:V}{v:Value}(I:Inv X pins σ H s)(r:aR x v)(ty:DU X.K T x H) :
  s.TypeIs v T/\∀a,v=.ref a->∃ob,s.heap.get? a=some ob/\ob.dict=none:=by
 cases x with
 |str z=>
  obtain⟨t,rfl⟩:=r;cases(show T="str" from ty);exact⟨typeIs_str s z t,λ_ e=>nomatch e⟩
 |int i=>
  obtain⟨t,rfl⟩:=r;cases(show T="int" from ty);exact⟨typeIs_int s i t,λ_ e=>nomatch e⟩
 |ref p=>
  cases r;rcases ty with⟨rfl,xs,m⟩ | ⟨rfl,o,b,q,j⟩ | ⟨rfl,b⟩ | ⟨rfl,S,n,b⟩
  ·obtain⟨its,_,l,_⟩:=I.list m
   refine⟨l.isList.typeIs,λa e=>?_⟩;cases e;obtain⟨o,n,e,c,j,_⟩:=l;exact⟨o,e,j⟩
  ·refine⟨⟨o,I.kIn p o b,q⟩,λa e=>?_⟩
   cases e;exact⟨o,I.kIn _ o b,j⟩
  ·have z:∃o,s.heap.get? p=some o/\o.ExactDict:=by
    rcases b with⟨g,b⟩ | ⟨g,b⟩
    ·obtain⟨_,_,_,_,o,_,_,e,d,_⟩:=I.hok p _ b
     exact⟨o,e,d⟩
    ·obtain⟨_,_,_,_,o,_,_,e,d,_⟩:=I.hok p _ b
     exact⟨o,e,d⟩
   obtain⟨o,e,d⟩:=z;refine⟨⟨o,e,d.1⟩,λa k=>?_⟩;cases k;exact⟨o,e,d.2.1⟩
  ·obtain⟨o,_,_,_,e,d,_⟩:=I.hok p _ b
   refine⟨⟨o,e,d.1⟩,λa k=>?_⟩;cases k;exact⟨o,e,d.2.1⟩
 |_=>exact False.elim ty
def A5(K:GX)(T:String)(r:V->List V->Hp->VK->Prop)(to:TE):TE:=λσ H Q=>to σ H λx H1=>DU K T x H1/\r x [] H1 Q
def Dc(K:GX)(T:String)(r:V->List V->Hp->VK->Prop)(to:TE)(t:TA):TE:=λσ H Q=>to σ H λx H1=>DU K T x H1/\t σ H1 λxs H2=>r x xs H2 Q
variable {o e:Expr}{es:Ha}{to:TE}{t:TA}{name:Str}{apos cpos:Pos}{T id:String}{r:V->List V->Hp->VK->Prop}
theorem AS(pa:PlainAttrs T)(slot:Slot T name id)(hty:typeOf (.builtin id)=pure (.type "method_descriptor"))(hm:De X id r)(ho:PE X o to)
  (hbase:autoParam (attributeBase o name X.env (eval o X.env)=eval o X.env) zz0._auto_1) (hline:autoParam ((apos.endLine==cpos.line)=true) zz0._auto_1):PE X (.Call (.Attribute o name apos) [] [] cpos) (A5 X.K T r to):=by
 intro a s σ H Q I h;refine wpAny_Call_method0_late hbase hline (bH (ho a s σ H _ I h) λv d ⟨x,H1,c,b,ty,e⟩=>?_);obtain⟨h1,h2⟩:=yF c b ty;exact⟨T,id,pa,slot,hty,h1,h2,Calls.callWith_builtin rfl (PySem.evalArgs_none (hm a d σ H1 x [] v [] Q c b .nil e))⟩
theorem gm(pa:PlainAttrs T)(slot:Slot T name id)(hty:typeOf (.builtin id)=pure (.type "method_descriptor"))(hm:De X id r)(ho:PE X o to)(ha:PA X (e::es) t)
  (hbase:autoParam (attributeBase o name X.env (eval o X.env)=eval o X.env) zz0._auto_1)
  (hfew:autoParam (((backTo cpos (starEach (e::es) X.env)).all (λx=>!x.1)&&(backToKw cpos (keywordEach [] X.env)).all (λx=>x.1.isSome)
   && decide ((e::es).length+([]:List Keyword).length+(if([]:List Keyword).isEmpty then 0 else 1)<30))=true) zz0._auto_1)
  (hline:autoParam ((apos.endLine==cpos.line)=true) zz0._auto_1) (hs:autoParam (starEach (e::es) X.env=(false,eval e X.env)::starEach es X.env) zz0._auto_1) (hplain:autoParam ((backTo cpos (starEach es X.env)).any (·.1)=false) zz0._auto_1) :
  PE X (.Call (.Attribute o name apos) (e::es) [] cpos) (Dc X.K T r to t):=by
 intro a s σ H Q I h;refine wpAny_Call_method_late hbase hfew hline rfl (bH (ho a s σ H _ I h) λv i ⟨x,H1,d,b,ty,l⟩=>?_);obtain⟨h1,h2⟩:=yF d b ty;refine⟨T,id,pa,slot,hty,h1,h2,?_⟩;have c:=ha cpos a i σ H1 _ d l;rw[hs]at c ⊢;refine Calls.callWith_builtin (by show(false||(backTo cpos (starEach es X.env)).any (·.1))=false;rw[hplain]<;>rfl) (Calls.evalArgs_plain ?_);exact bH c λus g ⟨vs,H2,m,j,k⟩=>hm a g σ H2 x vs v us Q m b j k
end
def D0(X:Cx)(id:String)(r:V->List V->Hp->VK->Prop):Prop:=
 ∀(pins:GY) (s:G0) (σ:St) (H:Hp) (x:V) (xs:List V) (v:Value) (us:G1) (Q:VK),Inv X pins σ H s->aR x v->aQ xs us->r x xs H Q ->
  wpAny (model X.prog X.w) X.A (call (.builtin id) (v::us)) (EP X pins σ Q) X.xe s
theorem aQ.one{x:V}{us:G1}(h:aQ [x] us):∃u,us=[u]/\aR x u:=by
 cases h with | cons r h=>cases h;exact⟨_,rfl,r⟩
theorem aQ.two{x y:V}{us:G1}(h:aQ [x,y] us):∃u v,us=[u,v]/\aR x u/\aR y v:=by
 cases h with | cons r h=>obtain⟨u,rfl,q⟩:=aQ.one h;exact⟨_,_,rfl,r,q⟩
theorem aQ.zero:∀{us:G1},aQ [] us->us=[]
 |_,.nil=>rfl
theorem aQ.rep{xs:List V}{us:G1}(h:aQ xs us):∀k:Nat,aQ (List.replicate k xs).flatten (List.replicate k us).flatten
 |0=>.nil
 |k+1=>by
  rw[q0c,q0c,List.flatten_cons,List.flatten_cons];exact aQ.append h (aQ.rep h k)
theorem nO(its:G1):∀(k:Nat) (acc:G1),
  List.foldl (λx1 x2=>x1++x2) acc.toArray (List.replicate k its.toArray)=(acc++(List.replicate k its).flatten).toArray
 |0,acc=>by simp
 |k+1,acc=>by
  have e:acc.toArray++its.toArray=(acc++its).toArray:=by simp
  have a:(acc++its)++(List.replicate k its).flatten=acc++(List.replicate (k+1) its).flatten:=by
   rw[q0c,List.flatten_cons,GC]
  rw[<- a,<- nO its k (acc++its),<- e,q0c,List.foldl_cons]
section
variable {X:Cx}{pins:GY}{σ:St}{H:Hp}{s:G0}{l b:Addr}{xs ys zs:List V}
theorem Inv.lset{its its':G1}{n:Nat}{f:Array Value->Array Value}{t':Nat}(I:Inv X pins σ H s)(hH:H l=some (.lst xs))
  (e:s.heap.get? l=some {cls:=.type "list",data:=.seq its.toArray n}) (hf:f its.toArray=its'.toArray) (hv:aQ ys its') (hz:ys.length<=sizeLine) :
  Inv X pins σ (aB H l (.lst ys)) {s with heap:=s.heap.update l (Obj.mapSeq f),toks:=t' }:=by
 have q:=PySem.IsL.update e f;rw[hf]at q;refine I.write (x:=l) (e:=l) (by rw[hH];exact trivial) (.inl rfl) (λb' u b a=>(F7 s.heap (Obj.mapSeq f) (Ne.symm b)).trans a) ⟨_,q⟩ ?_;exact⟨hz,its',_,hv,q⟩
theorem Inv.lnew{its:G1}{t':Nat}(I:Inv X pins σ H s)(hv:aQ ys its)(hz:ys.length<=sizeLine) :
  Inv X pins σ (aB H s.heap.objs.size (.lst ys)) {s with heap:=s.heap.push {cls:=.type "list",data:=.seq its.toArray},toks:=t' }:=
 I.laid (λ_ _ q=>F1 _ q) (Gq _) ⟨hz,its,0,hv,F8 _ rfl⟩
theorem Inv.fresh(I:Inv X pins σ H s):H s.heap.objs.size=none:=I.hok.fresh (Gq _)
theorem Inv.lstM(I:Inv X pins σ H s)(hH:H l=some (.lst xs)):xs.length<=sizeLine/\∃(its:G1) (n:Nat),aQ xs its/\xs.length=its.length/\s.heap.get? l=some {cls:=.type "list",data:=.seq its.toArray n}:=by
 obtain⟨z,its,n,r,e⟩:=I.hok l _ hH;exact⟨z,its,n,r,r.length,e⟩
theorem rq{n:Nat}(h:n<=sizeLine):Builtin.List.listTooLong n=false:=by
 unfold Builtin.List.listTooLong;exact q08 ⋯
end
section
variable {X:Cx}
def pC:V->List V->Hp->VK->Prop:=λx vs H Q=>∃l xs y,x=.ref l/\vs=[y]/\H l=some (.lst xs)/\xs.length<sizeLine/\Q .non (aB H l (.lst (xs++[y])))
theorem cK:D0 X "list.append" pC:=by
 intro pins s σ H x vs v us Q I rx rv h;obtain⟨l,xs,y,rfl,rfl,b,hz,q⟩:=h;cases rx;obtain⟨u,rfl,c⟩:=rv.one;obtain⟨z,a,n,r,hl,e⟩:=I.lstM b;refine call_meets F.slot_list_append ⟨_,e,rfl⟩ F.entry_list_append (F.args_list_append_2 _ _) (PySem.list_append l a.toArray n u (by rw[F9];omega)) ⟨e,?_⟩;refine⟨.non,_,I.lset (its':=a++[u]) b e (by simp) (r.append (.cons c .nil)) ?_,rfl,q⟩;rw[Gp,q0Z];omega
theorem q03{X:Cx}{o e:Expr}{es:List Expr}{to:TE}{t:TA}{apos cpos:Pos}(ho:PE X o to)(ha:PA X (e::es) t)
  (hbase:autoParam (attributeBase o "append" X.env (eval o X.env)=eval o X.env) zz0._auto_1)
  (hfew:autoParam (((backTo cpos (starEach (e::es) X.env)).all (λx=>!x.1)&&(backToKw cpos (keywordEach [] X.env)).all (λx=>x.1.isSome)
   && decide ((e::es).length+([]:List Keyword).length+(if([]:List Keyword).isEmpty then 0 else 1)<30))=true) zz0._auto_1)
  (hline:autoParam ((apos.endLine==cpos.line)=true) zz0._auto_1) (hs:autoParam (starEach (e::es) X.env=(false,eval e X.env)::starEach es X.env) zz0._auto_1) (hplain:autoParam ((backTo cpos (starEach es X.env)).any (·.1)=false) zz0._auto_1) :
  PE X (.Call (.Attribute o "append" apos) (e::es) [] cpos) (Dc X.K "list" pC to t):=gm PySem.F.plainAttrs_list PySem.F.slot_list_append PySem.F.type_list_append cK ho ha hbase hfew hline hs hplain
def oU:V->List V->Hp->VK->Prop:=λx vs H Q=>∃l b xs zs,x=.ref l/\vs=[.ref b]/\H l=some (.lst xs)/\H b=some (.lst zs)/\xs.length+zs.length<=sizeLine/\Q .non (aB H l (.lst (xs++zs)))
theorem vU:D0 X "list.extend" oU:=by
 intro pins s σ H x vs v us Q I rx rv h;obtain⟨l,b,xs,zs,rfl,rfl,i,o,hz,q⟩:=h;cases rx;obtain⟨u,rfl,j⟩:=rv.one;cases j;obtain⟨z,c,n,r,hl,e⟩:=I.lstM i;obtain⟨z2,a,m,k,hl2,p⟩:=I.lstM o;have g:c.toArray.size+a.toArray.size<=sizeLine:=by rw[F9,F9];omega
 have d:¬ (!c.toArray.isEmpty&&Builtin.List.listTooLong (c.toArray.size+a.toArray.size))=true:=by
  rw[rq g,Bool.and_false];exact Gs
 refine call_meets F.slot_list_extend ⟨_,e,rfl⟩ F.entry_list_extend (F.args_list_extend_2 _ _)
  (AutoSeq1.list_extend_list_list_0 l c.toArray n b a.toArray m d (by rw[F9];omega) ⋯) ⟨e,p,?_⟩
 refine⟨.non,_,I.lset (its':=c++a) i e (by simp) (r.append k) ?_,rfl,q⟩;rw[Gp];omega
def Bk:R2:=λx y H Q=>∃l b xs zs,x=.ref l/\y=.ref b/\H l=some (.lst xs)/\H b=some (.lst zs)/\xs.length+zs.length<=sizeLine/\∀p,H p=none->Q (.ref p) (aB H p (.lst (xs++zs)))
theorem BH:bD X (binaryOp .Add) Bk:=by
 intro pins s σ H x y v u Q I rx ry h;obtain⟨l,b,xs,zs,rfl,rfl,g,i,hz,q⟩:=h;cases rx;cases ry;obtain⟨z,c,n,r,hl,e⟩:=I.lstM g;obtain⟨z2,a,n2,d,hl2,k⟩:=I.lstM i;refine PySem.P.add_list e k ?_ (by rw[F9,F9];omega);have j:c.toArray++a.toArray=(c++a).toArray:=by simp
 rw[j];exact⟨.ref _,_,I.lnew (t':=s.toks) (r.append d) (by rw[Gp];omega),rfl,q _ I.fresh⟩
def BJ:R2:=λx y H Q=>∃l k xs,x=.ref l/\y=.int k/\H l=some (.lst xs)/\-(2 ^ 63)<=k/\k<2 ^ 63/\xs.length*k.toNat<=sizeLine /\
 ∀p,H p=none->Q (.ref p) (aB H p (.lst (List.replicate k.toNat xs).flatten))
theorem iS{α:Type}(xs:List α)(k:Nat):(List.replicate k xs).flatten.length=k*xs.length:=by
 induction k with
 |zero=>simp
 |succ k ih=>rw[q0c,List.flatten_cons,Gp,ih,Nat.succ_mul,Nat.add_comm]
theorem AM:bD X (binaryOp .Mult) BJ:=by
 intro pins s σ H x y v u Q I rx ry h;obtain⟨l,k,xs,rfl,rfl,D,h1,h2,w,q⟩:=h;cases rx;obtain⟨t,rfl⟩:=ry;obtain⟨z,b,n,r,C,e⟩:=I.lstM D;have g:b.toArray.size*k.toNat<=sizeLine:=by rw[F9,<- C];exact w
 have j:¬ b.toArray.size*k.toNat>(2 ^ 63-1)/8:=by
  have:(sizeLine:Nat)<=(2 ^ 63-1)/8:=by decide
  omega
 have i:¬ (!Builtin.List.listFitsIndex k)=true:=by
  rw[fitsIndex_both h1 h2];exact Gs
 have c:¬ Builtin.List.listTooLong (b.toArray.size*k.toNat)=true:=by
  rw[rq g];exact Gs
 have d:List.foldl (λp o=>p++o) #[] (List.replicate (if b.toArray.isEmpty=true then 0 else k.toNat) b.toArray)=(List.replicate k.toNat b).flatten.toArray:=by
  have G:∀m:Nat,List.foldl (λp o=>p++o) #[] (List.replicate m b.toArray)=(List.replicate m b).flatten.toArray:=λm=>by
   have:=nO b m [];rw[GQ]at this;exact this
  rw[G];cases b with
  |nil=>simp
  |cons a r'=>rw[q06 (by simp)]
 refine wpAny_binaryOp_repeat_ref (T:="list") (U:="int") nofun ⟨_,e,rfl⟩ (λB=>typeIs_int B k t) noFill_list_mul F.fills_int_mul F.slot_int_rmul repeat_list F.slot_int_index.lookup
  (call_meets F.slot_int_rmul (typeIs_int s k t) F.entry_int_rmul (F.args_int_rmul_2 _ _) (int___rmul___int_list k t l b.toArray n)
   ⟨e,rfl,⟨_,e,rfl⟩,call_meets F.slot_list_mul ⟨_,e,rfl⟩ F.entry_list_mul (F.args_list_mul_2 _ _) (AutoListH.list___mul___list_int_3 l b.toArray n k t i j c) ⟨e,?_⟩⟩)
 rw[d];exact⟨.ref _,_,I.lnew (t':=s.toks) (r.rep k.toNat) (by rw[iS,Nat.mul_comm];exact w),rfl,q _ I.fresh⟩
end
section
variable {κ:Type}[DecidableEq κ]
def c3(kvs:List (κ×V))(k:κ):Option V:=(kvs.find? λkv=>decide (kv.1=k)).map (·.2)
def cM(kvs:List (κ×V))(k:κ)(v:V):List (κ×V):=
 if(kvs.any λkv=>decide (kv.1=k))=true then kvs.map (λkv=>if kv.1=k then(kv.1,v) else kv) else kvs++[(k,v)]
theorem fH{p:κ×V}{r:List (κ×V)}{k:κ}(e:p.1=k):c3 (p::r) k=some p.2:=by simp[c3,List.find?_cons,e]
theorem fB{p:κ×V}{r:List (κ×V)}{k:κ}(e:¬ p.1=k):c3 (p::r) k=c3 r k:=by simp[c3,List.find?_cons,e]
theorem fD(k:κ):∀kvs:List (κ×V),(kvs.any λkv=>decide (kv.1=k))=(c3 kvs k).isSome
 | []=>rfl
 |p::r=>by
  rw[List.any_cons]
  by_cases e:p.1=k
  ·simp only[fH e,q09 e,Bool.true_or,Option.isSome_some]
  ·rw[fB e,q08 e,Bool.false_or];exact fD k r
theorem eG(kvs:List (κ×V))(k:κ)(v:V):(cM kvs k v).length<=kvs.length+1:=by
 unfold cM
 split
 ·rw[F3];omega
 ·rw[Gp,Gb,List.length_nil];omega
theorem wq{kvs:List (κ×V)}{k:κ}(v:V)(h:c3 kvs k=none):cM kvs k v=kvs++[(k,v)]:=by
 unfold cM;rw[fD,h];exact q06 nofun
theorem gx.isSome_eq{o:Option V}{u:Option Value}(r:gx o u):o.isSome=u.isSome:=by
 cases o with
 |none=>cases u with
  |none=>rfl
  |some _=>exact(show False from r).elim
 |some _=>cases u with
  |none=>exact(show False from r).elim
  |some _=>rfl
theorem gx.getD{o:Option V}{u:Option Value}{d:V}{d':Value}(r:gx o u)(rd:aR d d'):aR (o.getD d) (u.getD d'):=by
 cases o with
 |none=>cases u with
  |none=>exact rd
  |some _=>exact(show False from r).elim
 |some _=>cases u with
  |none=>exact(show False from r).elim
  |some _=>exact r
theorem KV.val{kvs:List (κ×V)}{vs:List (κ×Value)}(r:KV kvs vs)(k:κ):gx (c3 kvs k) (valueAt vs k):=by
 unfold KV at r
 induction r with
 |nil=>exact True.intro
 | @cons p q ps qs h t ih=>
  obtain⟨h1,h2⟩:=h
  by_cases e:p.1=k
  ·have a:q.1=k:=h1.symm.trans e
   have b:valueAt (q::qs) k=some q.2:=by simp[valueAt,List.find?_cons,a]
   rw[fH e,b];exact h2
  ·have a:¬ q.1=k:=λz=>e (h1.trans z)
   have b:valueAt (q::qs) k=valueAt qs k:=by simp[valueAt,List.find?_cons,a]
   rw[fB e,b];exact ih
theorem KV.any{kvs:List (κ×V)}{vs:List (κ×Value)}(r:KV kvs vs)(k:κ):(kvs.any λkv=>decide (kv.1=k))=vs.any λkv=>decide (kv.1=k):=by
 unfold KV at r
 induction r with
 |nil=>rfl
 |cons h t ih=>rw[List.any_cons,List.any_cons,ih,h.1]
theorem KV.repl{kvs:List (κ×V)}{vs:List (κ×Value)}(r:KV kvs vs)(k:κ){y:V}{u:Value}(ry:aR y u) :
  KV (kvs.map λkv=>if kv.1=k then(kv.1,y) else kv) (vs.map λkv=>if kv.1=k then(kv.1,u) else kv):=by
 unfold KV at r ⊢
 induction r with
 |nil=>exact .nil
 | @cons p q ps qs h t ih=>
  rw[Gx,Gx];refine .cons ?_ ih;obtain⟨h1,h2⟩:=h
  by_cases e:p.1=k
  ·rw[q07 e,q07 (h1.symm.trans e)];exact⟨h1,ry⟩
  ·rw[q06 e,q06 (λz=>e (h1.trans z))];exact⟨h1,h2⟩
theorem KV.put{kvs:List (κ×V)}{vs:List (κ×Value)}(r:KV kvs vs)(k:κ){y:V}{u:Value}(ry:aR y u):KV (cM kvs k y) (stored vs k u):=by
 unfold cM stored;rw[r.any k]
 by_cases e:(vs.any λa=>decide (a.1=k))=true
 ·rw[q07 e,q07 e];exact r.repl k ry
 ·rw[q06 e,q06 e];exact Paired.snoc r ⟨rfl,ry⟩
theorem KV.keys{kvs:List (κ×V)}{vs:List (κ×Value)}(r:KV kvs vs):kvs.map (·.1)=vs.map (·.1):=by
 unfold KV at r
 induction r with
 |nil=>rfl
 |cons h t ih=>rw[Gx,Gx,ih,h.1]
theorem KV.length{kvs:List (κ×V)}{vs:List (κ×Value)}(r:KV kvs vs):kvs.length=vs.length:=Paired.length r
end
theorem jK{P:G5}{w:G8}{k:b9}{u:Value}(r:aR (kV k) u):(br P w).is k u=true:=by
 cases k with
 |inl i=>obtain⟨t,e⟩:=(show ∃t,u=Value.int i t from r);subst e;exact p9 P w i t
 |inr x=>obtain⟨t,e⟩:=(show ∃t,u=Value.str x t from r);subst e;exact qJ P w x t
theorem mP{P:G5}{w:G8}:∀{ks:List b9} {us:G1},aQ (ks.map kV) us->ItemsAre (br P w) ks us
 | [],_,r=>by rw[List.map_nil]at r;cases r;exact .nil
 |k::ks,_,r=>by
  rw[Gx]at r;cases r with
  |cons h t=>exact .cons (jK h) (mP t)
abbrev KT(H:Hp):List (List b9×V)->List (List b9×Addr×Value)->Prop:=Paired λp q=>p.1=q.1/\H q.2.1=some (.tup (p.1.map kV))/\aR p.2 q.2.2
theorem KT.val{H:Hp}{kvs:List (List b9×V)}{xs:List (List b9×Addr×Value)}(r:KT H kvs xs)(k:List b9):gx (c3 kvs k) ((atKey xs k).map (·.2)):=by
 induction r with
 |nil=>exact True.intro
 | @cons p q ps qs h t ih=>
  obtain⟨h1,_,h2⟩:=h
  by_cases e:p.1=k
  ·have a:q.1=k:=h1.symm.trans e
   have b:atKey (q::qs) k=some q.2:=by simp[atKey,List.find?_cons,a]
   rw[fH e,b];exact h2
  ·have a:¬ q.1=k:=λz=>e (h1.trans z)
   have b:atKey (q::qs) k=atKey qs k:=by simp[atKey,List.find?_cons,a]
   rw[fB e,b];exact ih
theorem KT.repl{H:Hp}{kvs:List (List b9×V)}{xs:List (List b9×Addr×Value)}(r:KT H kvs xs)(k:List b9){y:V}{u:Value}(ry:aR y u) :
  KT H (kvs.map λkv=>if kv.1=k then(kv.1,y) else kv) (xs.map (putAt k u)):=by
 induction r with
 |nil=>exact .nil
 | @cons p q ps qs h t ih=>
  rw[Gx,Gx];refine .cons ?_ ih;obtain⟨h1,h2,a⟩:=h;unfold putAt
  by_cases e:p.1=k
  ·rw[q07 e,q07 (h1.symm.trans e)];exact⟨h1,h2,ry⟩
  ·rw[q06 e,q06 (λz=>e (h1.trans z))];exact⟨h1,h2,a⟩
theorem KT.put{H:Hp}{kvs:List (List b9×V)}{xs:List (List b9×Addr×Value)}(r:KT H kvs xs)(k:List b9){b:Addr}{y:V}{u:Value}(hb:H b=some (.tup (k.map kV)))(ry:aR y u) :
  KT H (cM kvs k y) (storedH xs k b u):=by
 have e:(kvs.any λa=>decide (a.1=k))=(atKey xs k).isSome:=by
  rw[fD,(r.val k).isSome_eq,Option.isSome_map]
 unfold cM storedH;rw[e]
 by_cases q:(atKey xs k).isSome=true
 ·rw[q07 q,q07 q];exact r.repl k ry
 ·rw[q06 q,q06 q];exact Paired.snoc r ⟨rfl,hb,ry⟩
theorem KT.keeps{H H':Hp}{kvs:List (List b9×V)}{xs:List (List b9×Addr×Value)}(r:KT H kvs xs)(ht:∀b ys,H b=some (.tup ys)->H' b=some (.tup ys)):KT H' kvs xs:=
 Paired.mapP r λ_ _ z=>⟨z.1,ht _ _ z.2.1,z.2.2⟩
section
variable {P:G5}{w:G8}{H:Hp}{h:Heap}{a:Addr}
theorem Ar{u:HO}(ok:gU P w H h)(e:Rd H a u):bB P w H h a u:=e.ok ok
theorem jM{kvs:List (b9×V)}(ok:gU P w H h)(e:Rd H a (.dK kvs)):kvs.length<=sizeLine/\(a==sysModules)=false/\∃vs,KV kvs vs/\h.DictOf (br P w) a vs:=
 show bB P w H h a (.dK kvs) from Ar ok e
theorem mQ{kvs:List (b9×V)}(ok:gU P w H h)(e:H a=some (.dK kvs)):kvs.length<=sizeLine/\(a==sysModules)=false/\∃vs,KV kvs vs/\h.DictOf (br P w) a vs:=jM ok (.inl e)
theorem jy{ks:List b9}(ok:gU P w H h)(e:H a=some (.tup (ks.map kV))):(tupleKind (br P w)).is h ks a:=by
 obtain⟨_,b,r,o,h1,h2,n,c⟩:=(show bB P w H h a (.tup (ks.map kV)) from ok a _ e);exact⟨o,b.toArray,n,h1,h2,c,by simpa using mP r⟩
theorem gG{kvs:List (List b9×V)}(ok:gU P w H h)(e:Rd H a (.dT kvs)):kvs.length<=sizeLine/\(a==sysModules)=false /\
  ∃xs,KT H kvs xs/\h.DictOfH (tupleKind (br P w)) a xs:=by
 obtain⟨z,y,xs,r,o,g,i,h1,h2,d,c,b⟩:=(show bB P w H h a (.dT kvs) from Ar ok e);refine⟨z,y,xs,r,o,g,i,h1,h2,d,c,λx hx=>?_,b⟩;have all:∀{l:List (List b9×V)} {m:List (List b9×Addr×Value)},KT H l m->∀x∈m,(tupleKind (br P w)).is h x.1 x.2.1:=by
  intro l m q
  induction q with
  |nil=>intro x hx;exact nomatch hx
  | @cons p q ps qs hq t ih=>
   intro x hx;rcases Gg.mp hx with e | hx
   ·subst e
    exact jy ok (by rw[<- hq.1];exact hq.2.1)
   ·exact ih x hx
 exact all r x hx
theorem CY{kvs:List (List b9×V)}(ok:gU P w H h)(e:H a=some (.dT kvs)):kvs.length<=sizeLine/\(a==sysModules)=false /\
  ∃xs,KT H kvs xs/\h.DictOfH (tupleKind (br P w)) a xs:=gG ok (.inl e)
end
def iJ(H:Hp)(a:Addr)(y:V)(r:Option V):Prop:=
 (∃kvs k,Rd H a (.dK kvs)/\y=kV k/\r=c3 kvs k)\/∃kvs k b,Rd H a (.dT kvs)/\y=.ref b/\H b=some (.tup (k.map kV))/\r=c3 kvs k
def qt(H:Hp)(a:Addr)(y v:V)(H':Hp):Prop:=
 (∃kvs k,H a=some (.dK kvs)/\y=kV k/\kvs.length<sizeLine/\H'=aB H a (.dK (cM kvs k v))) \/
 ∃kvs k b,H a=some (.dT kvs)/\y=.ref b/\H b=some (.tup (k.map kV))/\kvs.length<sizeLine/\H'=aB H a (.dT (cM kvs k v))
theorem iJ.t{H:Hp}{a b:Addr}{kvs:List (List b9×V)}{k:List b9}(e:H a=some (.dT kvs))(eb:H b=some (.tup (k.map kV))):iJ H a (.ref b) (c3 kvs k):=.inr ⟨kvs,k,b,.inl e,rfl,eb,rfl⟩
theorem qt.t{H:Hp}{a b:Addr}{kvs:List (List b9×V)}{k:List b9}{v:V}(e:H a=some (.dT kvs))(eb:H b=some (.tup (k.map kV)))(hl:kvs.length<sizeLine) :
  qt H a (.ref b) v (aB H a (.dT (cM kvs k v))):=.inr ⟨kvs,k,b,e,rfl,eb,hl,rfl⟩
section
variable {X:Cx}{pins:GY}{σ:St}{H:Hp}{s:G0}{a:Addr}{y v:V}{u r:Value}{o:Option V}{A:G7}{E:GW}
theorem Inv.big(I:Inv X pins σ H s):sysModules<s.heap.objs.size:=by
 have h:mainGlobals<s.heap.objs.size:=(I.mod.glob.keeps I.bk).lt;exact Nat.lt_trans nofun h
theorem vw{Q:GW}(hu:A.units+1<cLine)(I:Inv X pins σ H s)(g:iJ H a y (some v))(ry:aR y u)(h:∀w' s',Inv X pins σ H s'->aR v w'->Q w' s') :
  wpAny (model X.prog X.w) A (getItem (.ref a) u) Q E s:=by
 rcases g with⟨i,k,e,n,l⟩ | ⟨i,k,b,e,n,B,l⟩
 ·subst n
  obtain⟨z,x,vs,d,q⟩:=jM I.hok e;obtain⟨w',j,c⟩:=gx.some_of (v:=v) (o:=valueAt vs k) (by rw[l];exact d.val k);exact wpAny_getItem_of (jK ry) q.mapOf j (h w' _ (I.tok _) c)
 ·subst n
  cases(show u=Value.ref b from ry);obtain⟨z,x,r,d,q⟩:=gG I.hok e;obtain⟨w',j,c⟩:=gx.some_of (v:=v) (o:=(atKey r k).map (·.2)) (by rw[l];exact d.val k);obtain⟨p,w,m⟩:=Gv.mp j;refine wpAny_getItem_heap (tupleKind_room_in1 hu) (jy I.hok B) q w ?_;rw[m];exact h w' _ (I.tok _) c
theorem DB{Q:GW}(hu:A.units+1<cLine)(I:Inv X pins σ H s)(g:iJ H a y o)(ry:aR y u)(h:∀s',Inv X pins σ H s'->Q (.bool o.isSome) s') :
  wpAny (model X.prog X.w) A (compareOp .In u (.ref a)) Q E s:=by
 rcases g with⟨d,k,e,j,l⟩ | ⟨d,k,b,e,j,n,l⟩
 ·subst j
  obtain⟨z,i,vs,c,m⟩:=jM I.hok e;refine wpAny_in_of (jK ry) i m.mapOf ?_;rw[<- (c.val k).isSome_eq,<- l];exact h _ (I.tok _)
 ·subst j
  cases(show u=Value.ref b from ry);obtain⟨z,i,xs,c,m⟩:=gG I.hok e;refine wpAny_in_heap (tupleKind_room_in1 hu) (jy I.hok n) i m ?_;have q:=(c.val k).isSome_eq;rw[Option.isSome_map]at q;rw[<- q,<- l];exact h _ (I.tok _)
theorem zG{Q:GW}(hu:A.units+1<cLine)(I:Inv X pins σ H s)(g:iJ H a y o)(ry:aR y u)(h:∀s',Inv X pins σ H s'->Q (.bool (!o.isSome)) s') :
  wpAny (model X.prog X.w) A (compareOp .NotIn u (.ref a)) Q E s:=by
 rcases g with⟨d,k,e,j,l⟩ | ⟨d,k,b,e,j,n,l⟩
 ·subst j
  obtain⟨z,i,vs,c,m⟩:=jM I.hok e;refine wpAny_notIn_of (jK ry) i m.mapOf ?_;rw[<- (c.val k).isSome_eq,<- l];exact h _ (I.tok _)
 ·subst j
  cases(show u=Value.ref b from ry);obtain⟨z,i,xs,c,m⟩:=gG I.hok e;refine wpAny_notIn_heap (tupleKind_room_in1 hu) (jy I.hok n) i m ?_;have q:=(c.val k).isSome_eq;rw[Option.isSome_map]at q;rw[<- q,<- l];exact h _ (I.tok _)
theorem kl{h':Heap}{t':Nat}{ob:HO}(I:Inv X pins σ H s)(mu:B_ (H a))(hs:Heap.SameBut a s.heap h')(he:∃q,h'.get? a=some q)(new:bB X.prog X.w (aB H a ob) h' a ob) :
  Inv X pins σ (aB H a ob) {s with heap:=h',toks:=t' }:=
 I.write (x:=a) (e:=a) mu (.inl rfl) (λb q hb z=>(hs.2 b hb).trans z) he new
theorem rY{P:G5}{w:G8}{H':Hp}{h':Heap}{kvs:List (b9×V)}{vs:List (b9×Value)}(z:kvs.length<=sizeLine)(hd:(a==sysModules)=false)(rel:KV kvs vs)(dd:h'.DictOf (br P w) a vs) :
  bB P w H' h' a (.dK kvs):=⟨z,hd,vs,rel,dd⟩
theorem uS{H':Hp}{Q:Unit->Shared->Prop}(hu:A.units+1<cLine)(I:Inv X pins σ H s)(g:qt H a y v H')(ry:aR y u)(rv:aR v r)(h:∀s',Inv X pins σ H' s'->Q () s') :
  wpAny (model X.prog X.w) A (setItem (.ref a) u r) Q E s:=by
 rcases g with⟨i,k,e,x,l,B⟩ | ⟨i,k,b,e,x,J,l,B⟩
 ·subst x B
  obtain⟨z,w,vs,d,C⟩:=mQ I.hok e;have n:vs.length<=sizeLine:=by rw[<- d.length];exact z
  have p:(cM i k v).length<=sizeLine:=by have:=eG i k v;omega
  refine wpAny_setItem_pairs (hsz:=n) (jK ry) C λD j o=>h _ ?_;have M:∃q,D.get? a=some q:=let ⟨q,_,_,m,_⟩:=j;⟨q,m⟩
  exact kl I (by rw[e];exact True.intro) o M (rY p w (d.put k rv) j)
 ·subst x B
  cases(show u=Value.ref b from ry);obtain⟨z,w,L,d,C⟩:=CY I.hok e;have n:L.length<=sizeLine:=by rw[<- Paired.length d];exact z
  have p:(cM i k v).length<=sizeLine:=by have:=eG i k v;omega
  refine wpAny_setItem_heap (hsz:=n) (tupleKind_room_in1 hu) (jy I.hok J) C λD j o=>h _ ?_;obtain⟨q,T,U,m,h2,S,R,_,O⟩:=j;refine kl I (by rw[e];exact True.intro) o ⟨q,m⟩ ⟨p,w,_,(d.put k J rv).keeps λc ys G=>?_,q,T,U,m,h2,S,R,O⟩;rw[ai (mK G e (λz=>nomatch z))];exact G
end
section
variable {X:Cx}{pins:GY}{σ:St}{H:Hp}{s:G0}{a:Addr}{kvs:List (b9×V)}{k:b9}{u:Value}{A:G7}{E:GW}
theorem CO{Q:GW}(I:Inv X pins σ H s)(e:Rd H a (.dK kvs))(h:∀t s',Inv X pins σ H s'->Q (.int kvs.length t) s'):wpAny (model X.prog X.w) A (call (.builtin "len") [.ref a]) Q E s:=by
 obtain⟨z,c,vs,b,d⟩:=jM I.hok e;refine call_len_dict c d (by rw[<- b.length];rw[q0W]at z;omega) ?_;rw[<- b.length];exact h _ _ (I.tok _)
end
def Cr(i:Expr):Prop:=∀ov iv,subscripted i false ov iv=operate [ov,iv] (getItem ov iv)
theorem yQ{prog:G5}{w:G8}{A:G7}{E:GW}{s:G0}{env:Env}{value slice:Expr}{pos:Pos}{T id:String}{Q:GW}
  (hl:typeLookup (.type T) "__getitem__"=pure (some (.builtin id))) (hs:Cr slice)
  (h:wpAny (model prog w) A (eval value env) (λo s₁=>wpAny (model prog w) A (eval slice env) (λi s₂=>s₂.TypeIs o T/\wpAny (model prog w) A (getItem o i) Q E s₂) E s₁) E s) :
  wpAny (model prog w) A (eval (.Subscript value slice pos) env) Q E s:=by
 refine Subscript_ (q0X h (λo s₁ e=>q0X e (λi s₂ a=>?_) λ_ _ x=>x) λ_ _ x=>x);obtain⟨c,a⟩:=a;unfold subscriptTail;refine q04 ?_;rw[getitemInPython_of_ne c.not_modules];refine q04 (wpAny_specialOf c hl ?_);have fin:wpAny (model prog w) A (subscripted slice false o i) (λr b=>wpAny (model prog w) A (letTemporaryGo value o r >>= λ_=>pure r) Q E b) E s₂:=by
  rw[hs o i];exact wpAny_operating (q0X a (λr b d=>q04 (wpAny_letTemporaryGo (q05 d))) λ_ _ x=>x)
 first
  |exact q05 (q04 fin)
  |exact q04 (q05 (q04 fin))
  |exact q04 fin
theorem p6{X:Cx}{pins:GY}{σ:St}{H:Hp}{s:G0}{a:Addr}{y:V}{o:Option V}(I:Inv X pins σ H s)(g:iJ H a y o):s.TypeIs (.ref a) "dict":=by
 rcases g with⟨c,k,e,_,_⟩ | ⟨c,k,b,e,_,_,_⟩
 ·obtain⟨_,_,vs,_,d⟩:=jM I.hok e
  exact d.typeIs
 ·obtain⟨_,_,xs,_,d⟩:=gG I.hok e
  exact d.typeIs
def xz(td ty:TE):TE:=λσ H Q=>td σ H λx H1=>ty σ H1 λy H2=>∃a v,x=.ref a/\iJ H2 a y (some v)/\Q v H2
def Bt(ty td:TE):TE:=λσ H Q=>ty σ H λy H1=>td σ H1 λx H2=>∃a o,x=.ref a/\iJ H2 a y o/\Q (.bl o.isSome) H2
def oZ(ty td:TE):TE:=λσ H Q=>ty σ H λy H1=>td σ H1 λx H2=>∃a o,x=.ref a/\iJ H2 a y o/\Q (.bl (!o.isSome)) H2
def yA(td ty tv:TE):TS:=λD σ H=>tv σ H λv H1=>td σ H1 λx H2=>ty σ H2 λy H3=>∃a H4,x=.ref a/\qt H3 a y v H4/\D.nx σ H4
section
variable {X:Cx}{o i e value:Expr}{pos pos' tpos:Pos}{td ty tv:TE}
theorem kq(hu:X.A.units+1<cLine)(ho:PE X o td)(hi:PE X i ty)(hs:Cr i):PE X (.Subscript o i pos) (xz td ty):=by
 intro b s σ H Q I h;refine yQ PySem.F.slot_dict_getitem.lookup hs (bH (ho b s σ H _ I h) λu e ⟨x,H1,q,k,m⟩=>bH (hi b e σ H1 _ q m) λiv s2 ⟨y,H2,d,j,a,v,n,g,l⟩=>?_);subst n;obtain rfl:u=Value.ref a:=k;exact⟨p6 d g,vw hu d g j λw' s3 p c=>⟨v,H2,p,c,l⟩⟩
theorem xT(hu:X.A.units+1<cLine)(hi:PE X i ty)(ho:PE X o td):PC X .In i o (Bt ty td):=by
 intro b s σ H Q I h;refine bH (hi b s σ H _ I h) λiv c ⟨y,H1,q,d,k⟩=>bH (ho b c σ H1 _ q k) λu s2 ⟨x,H2,p,e,a,l,m,g,j⟩=>?_;subst m;obtain rfl:u=Value.ref a:=e;exact DB hu p g d λs3 n=>⟨.bl l.isSome,H2,n,rfl,j⟩
theorem nA(hu:X.A.units+1<cLine)(hi:PE X i ty)(ho:PE X o td):PC X .NotIn i o (oZ ty td):=by
 intro b s σ H Q I h;refine bH (hi b s σ H _ I h) λiv c ⟨y,H1,q,d,k⟩=>bH (ho b c σ H1 _ q k) λu s2 ⟨x,H2,p,e,a,l,m,g,j⟩=>?_;subst m;obtain rfl:u=Value.ref a:=e;exact zG hu p g d λs3 n=>⟨.bl (!l.isSome),H2,n,rfl,j⟩
theorem kr(hu:X.A.units+1<cLine)(ho:PE X o td)(hi:PE X i ty)(hv:PE X value tv)(hs:swapsWith value (some (.Subscript o i pos')) pos.line X.env=pure false) :
  PS X (.Assign [.Subscript o i pos'] value pos) (yA td ty tv):=by
 intro b s σ H D I h;refine wpAny_Assign_Subscript (bH (hv b s σ H _ I h) λr d ⟨v,H1,B,k,n⟩=>bH (ho b d σ H1 _ B n) λu c ⟨x,H2,z,j,m⟩=>bH (hi b c σ H2 _ z m) λiv s3 ⟨y,H3,w,e,a,C,p,g,l⟩=>?_) hs;subst p;obtain rfl:u=Value.ref a:=j;exact uS hu w g e k λs4 q=>⟨σ,C,q,l⟩
end
theorem pW{P:G5}{w:G8}{H:Hp}(h:Heap)(hb:sysModules<h.objs.size):bB P w H (h.push {cls:=.type "dict",data:=.dict #[]}) h.objs.size (.dK []):=
 ⟨Gr _,beq_eq_false_iff_ne.mpr (Ne.symm (Gm hb)),[],.nil,Heap.DictOf.new h⟩
theorem yd{P:G5}{w:G8}{H:Hp}(h:Heap)(hb:sysModules<h.objs.size):bB P w H (h.push {cls:=.type "dict",data:=.dict #[]}) h.objs.size (.dT []):=
 ⟨Gr _,beq_eq_false_iff_ne.mpr (Ne.symm (Gm hb)),[],.nil,_,#[],0,F8 _ rfl,⟨rfl,rfl,rfl⟩,rfl,rfl,List.nodup_nil⟩
def tM:TE:=λ_ H Q=>∀p,H p=none->Q (.ref p) (aB H p (.dK []))
def rQ:TE:=λ_ H Q=>∀p,H p=none->Q (.ref p) (aB H p (.dT []))
section
variable {X:Cx}{pos:Pos}
theorem qk:PE X (.Dict [] [] pos) tM:=λpins s σ H Q I h=>
 wpAny_Dict_empty ⟨.ref s.heap.objs.size,_,I.laid (a:=s.heap.objs.size) (o:=.dK []) (t':=s.toks) (λ_ _ q=>F1 _ q) (Gq _) (pW s.heap I.big),rfl,h _ (I.hok.fresh (Gq _))⟩
theorem qo:PE X (.Dict [] [] pos) rQ:=λpins s σ H Q I h=>
 wpAny_Dict_empty ⟨.ref s.heap.objs.size,_,I.laid (a:=s.heap.objs.size) (o:=.dT []) (t':=s.toks) (λ_ _ q=>F1 _ q) (Gq _) (yd s.heap I.big),rfl,h _ (I.hok.fresh (Gq _))⟩
end
def kC:List (TE×TE)->St->Hp->(List (V×V)->Hp->Prop)->Prop
 | [],_,H,Q=>Q [] H
 | (tk,tv)::r,σ,H,Q=>tk σ H λx H1=>tv σ H1 λy H2=>kC r σ H2 λps H3=>Q ((x,y)::ps) H3
abbrev VV:List (V×V)->List (Value×Value)->Prop:=Paired λp q=>aR p.1 q.1/\aR p.2 q.2
def C8(X:Cx)(pos:Pos)(keys:List (Option Expr))(values:Ha)(trs:List (TE×TE)):Prop:=
 ∀(pins:GY) (s:G0) (σ:St) (H:Hp) (Q:List (V×V)->Hp->Prop),Inv X pins σ H s->kC trs σ H Q ->
  wpAny (model X.prog X.w) X.A (evalPairs (pairTrees keys values X.env pos)) (λvs s'=>∃ps H',Inv X pins σ H' s'/\VV ps vs/\Q ps H') X.xe s
theorem yR{X:Cx}{pos:Pos}:C8 X pos [] [] []:=λpins s σ H Q I h=>pairTrees_nil_walk ⟨[],H,I,.nil,h⟩
theorem yv{X:Cx}{pos:Pos}{k v:Expr}{ks:List (Option Expr)}{vs:Ha}{tk tv:TE}{trs:List (TE×TE)}(hk:PE X k tk)(hv:PE X v tv)(hr:C8 X pos ks vs trs) :
  C8 X pos (some k::ks) (v::vs) ((tk,tv)::trs):=λpins s σ H Q I h=>
 pairTrees_cons_walk (bH (hk pins s σ H _ I h) λu s1 ⟨x,H1,I1,rx,q1⟩=>bH (hv pins s1 σ H1 _ I1 q1) λw2 s2 ⟨y,H2,I2,ry,q2⟩=>
  bH (hr pins s2 σ H2 _ I2 q2) λws s3 ⟨ps,H3,I3,rel,q3⟩=>⟨(x,y)::ps,H3,I3,.cons ⟨rx,ry⟩ rel,q3⟩)
def k_(kvs more:List (b9×V)):List (b9×V):=more.foldl (λacc kv=>cM acc kv.1 kv.2) kvs
theorem KV.merge:∀{more:List (b9×V)} {rs:List (b9×Value)} {kvs:List (b9×V)} {vs:List (b9×Value)},KV more rs->KV kvs vs->KV (k_ kvs more) (merged vs rs):=by
 intro more rs kvs vs r;unfold KV at r
 induction r generalizing kvs vs with
 |nil=>intro q;exact q
 | @cons p q ps qs h t ih=>
  intro a;have e:KV (cM kvs p.1 p.2) (stored vs q.1 q.2):=by
   have:=a.put p.1 h.2;rw[<- h.1];exact this
  exact ih e
theorem hX:∀(more kvs:List (b9×V)),(k_ kvs more).length<=kvs.length+more.length
 | [],kvs=>by show kvs.length<=kvs.length+0;omega
 |p::r,kvs=>by
  have h1:=hX r (cM kvs p.1 p.2);have h2:=eG kvs p.1 p.2;show(k_ (cM kvs p.1 p.2) r).length<=_;rw[Gb];omega
theorem lK{P:G5}{w:G8}:∀{kvs:List (b9×V)} {ws:List (Value×Value)},VV (kvs.map λkv=>(kV kv.1,kv.2)) ws->∃rs,Carries (br P w) ws rs/\KV kvs rs
 | [],_,r=>by rw[List.map_nil]at r;cases r;exact⟨[],True.intro,.nil⟩
 |p::kvs,_,r=>by
  rw[Gx]at r;cases r with
  | @cons a b as bs h t=>
   obtain⟨rs,c,q⟩:=lK (P:=P) (w:=w) t;obtain⟨b1,b2⟩:=b;exact⟨(p.1,b2)::rs,⟨jK h.1,rfl,c⟩,.cons ⟨rfl,h.2⟩ q⟩
def wG(trs:List (TE×TE)):TE:=λσ H Q=>∀p,H p=none->kC trs σ (aB H p (.dK [])) λps H2=>H2 p=some (.dK [])/\∃kvs:List (b9×V),ps=kvs.map (λkv=>(kV kv.1,kv.2))/\kvs.length<=15/\Q (.ref p) (aB H2 p (.dK (k_ [] kvs)))
theorem yM{X:Cx}{pos:Pos}{keys:List (Option Expr)}{values:Ha}{trs:List (TE×TE)}(h:C8 X pos keys values trs)(hall:keys.all (·.isSome)=true)(hl:keys.length=values.length)(h0:keys≠[])
  (h15:keys.length<=15):PE X (.Dict keys values pos) (wG trs):=by
 intro b s σ H Q I q;have r:=I.hok.fresh (Gq s.heap.objs.size);have B:=I.laid (a:=s.heap.objs.size) (o:=.dK []) (h':=s.heap.push {cls:=.type "dict",data:=.dict #[]}) (t':=s.toks) (λ_ _ q=>F1 _ q) (Gq _) (pW s.heap I.big);refine wpAny_Dict_walk (knd:=br X.prog X.w) hall hl h0 h15 (bH (h b _ σ _ _ B (q _ r)) λws s2 ⟨ps,H2,j,i,e,d,x,lk,m⟩=>?_);subst x;obtain⟨k,c,rk⟩:=lK (P:=X.prog) (w:=X.w) i;obtain⟨z,v,vs0,l,y⟩:=mQ j.hok e;cases l;refine⟨k,c,y,λh' g p=>⟨.ref s.heap.objs.size,_,?_,rfl,m⟩⟩;have n:(k_ [] d).length<=sizeLine:=by
  have h1:=hX d [];rw[List.length_nil]at h1;rw[q0W];omega
 have u:∃q,h'.get? s.heap.objs.size=some q:=let ⟨q,_,_,hq,_⟩:=g;⟨q,hq⟩
 exact kl j (by rw[e];exact True.intro) p u (rY n v (rk.merge .nil) g)
structure M1(X:Cx)(o:Expr)(m:Str)(apos:Pos)(e:Expr)(cpos:Pos):Prop where
 base:attributeBase o m X.env (eval o X.env)=eval o X.env
 few:((backTo cpos (starEach [e] X.env)).all (λx=>!x.1)&&(backToKw cpos (keywordEach [] X.env)).all (λx=>x.1.isSome)
  && decide (([e]:List Expr).length+([]:List Keyword).length+(if([]:List Keyword).isEmpty then 0 else 1)<30))=true
 line:(apos.endLine==cpos.line)=true
 trees:backTo cpos (starEach [e] X.env)=[(false,eval e X.env)]
structure M2(X:Cx)(o:Expr)(m:Str)(apos:Pos)(e f:Expr)(cpos:Pos):Prop where
 base:attributeBase o m X.env (eval o X.env)=eval o X.env
 few:((backTo cpos (starEach [e,f] X.env)).all (λx=>!x.1)&&(backToKw cpos (keywordEach [] X.env)).all (λx=>x.1.isSome)
  && decide (([e,f]:List Expr).length+([]:List Keyword).length+(if([]:List Keyword).isEmpty then 0 else 1)<30))=true
 line:(apos.endLine==cpos.line)=true
 trees:backTo cpos (starEach [e,f] X.env)=[(false,eval e X.env),(false,eval f X.env)]
def Dq(H:Hp)(a:Addr):Prop:=(∃kvs,Rd H a (.dK kvs))\/∃kvs,Rd H a (.dT kvs)
theorem rF{X:Cx}{pins:GY}{σ:St}{H:Hp}{s:G0}{a:Addr}(I:Inv X pins σ H s)(d:Dq H a) :
  s.TypeIs (.ref a) "dict"/\(∀b,Value.ref a=.ref b->∃ob,s.heap.get? b=some ob/\ob.dict=none)/\(a==sysModules)=false:=by
 rcases d with⟨g,e⟩ | ⟨g,e⟩
 ·obtain⟨_,i,vs,_,c⟩:=jM I.hok e
  refine⟨c.typeIs,λb q=>?_,i⟩;cases q;obtain⟨ob,_,_,h1,h2,_⟩:=c;exact⟨ob,h1,h2.2.1⟩
 ·obtain⟨_,i,xs,_,c⟩:=gG I.hok e
  refine⟨c.typeIs,λb q=>?_,i⟩;cases q;obtain⟨ob,_,_,h1,h2,_⟩:=c;exact⟨ob,h1,h2.2.1⟩
section
variable {X:Cx}{pins:GY}{σ:St}{H:Hp}{s:G0}{a:Addr}{y d:V}{u r:Value}{o:Option V}{A:G7}{E:GW}
theorem Bq{Q:GW}(hu:A.units+1<cLine)(I:Inv X pins σ H s)(g:iJ H a y o)(ry:aR y u)(rd:aR d r)(h:∀w' s',Inv X pins σ H s'->aR (o.getD d) w'->Q w' s') :
  wpAny (model X.prog X.w) A (call (.builtin "dict.get") [.ref a,u,r]) Q E s:=by
 rcases g with⟨j,k,e,n,l⟩ | ⟨j,k,b,e,n,q,l⟩
 ·subst n
  obtain⟨z,m,vs,c,i⟩:=jM I.hok e;refine call_meetsIn PySem.F.slot_dict_get i.typeIs PySem.F.entry_dict_get (PySem.F.args_dict_get_3 _ _ _) (meets_dict_get_default (br X.prog X.w) a (jK ry) m r) ⟨_,i.mapOf,h _ _ (I.tok _) ?_⟩;rw[l];exact(c.val k).getD rd
 ·subst n
  cases(show u=Value.ref b from ry);obtain⟨z,m,p,c,i⟩:=gG I.hok e;refine call_meetsIn PySem.F.slot_dict_get i.typeIs PySem.F.entry_dict_get (PySem.F.args_dict_get_3 _ _ _) (meetsH_dict_get_default (tupleKind (br X.prog X.w)) a b m r) ⟨tupleKind_room_in1 hu,k,p,jy I.hok q,i,h _ _ (I.tok _) ?_⟩;rw[l];exact(c.val k).getD rd
end
def tL(td ty tx:TE):TE:=λσ H Q=>td σ H λx H1=>∃a,x=.ref a/\Dq H1 a/\ty σ H1 λy H2=>tx σ H2 λz H3=>∃o,iJ H3 a y o/\Q (o.getD z) H3
section
variable {X:Cx}{o e f:Expr}{apos cpos:Pos}{td ty tx:TE}
theorem wb(hu:X.A.units+1<cLine)(ho:PE X o td)(he:PE X e ty)(hf:PE X f tx)(m:M2 X o "get" apos e f cpos):PE X (.Call (.Attribute o "get" apos) [e,f] [] cpos) (tL td ty tx):=by
 intro b s σ H Q I h;refine wpAny_Call_method m.base m.few m.line PySem.F.plainAttrs_dict PySem.F.slot_dict_get PySem.F.type_dict_get (bH (ho b s σ H _ I h) λu n ⟨x,H1,i,r,a,C,d,B⟩=>?_);subst C;obtain rfl:u=Value.ref a:=r;obtain⟨k,j,_⟩:=rF i d;refine⟨k,j,?_⟩;rw[m.trees];refine Calls.callWith_builtin rfl (Calls.evalArgs_plain (Calls.spliced_cons (bH (he b n σ H1 _ i B) λiv l ⟨y,H2,J,q,w⟩=>
  Calls.spliced_cons (bH (hf b l σ H2 _ J w) λfv s3 ⟨z,L,G,p,ov,g,v⟩=>Calls.spliced_nil ?_))))
 exact Bq hu G g q p λw' s4 D c=>⟨_,L,D,c,v⟩
end
end L2
namespace Att
open PySem PySem.W PySem.Calls PyProof.Rows
theorem j5{P:Params}{h:Heap}:∀(ns:List Int) (vs:G1),WellAll P h vs (ns.map WData.int)->IntsAre vs ns:=by
 intro ns
 induction ns with
 |nil=>
  intro vs w;rw[List.map_nil]at w;cases w;exact .nil
 |cons n ns ih=>
  intro vs w;rw[Gx]at w;cases w with
  |cons a b=>
   cases a;exact .cons _ _ (ih _ b)
theorem vQ{l:OpenLaw}{n:Nat}(hn:l.most=some n){P:Params}{h:Heap}{args:List WData}{vals:G1}
  (hpre:l.row.toRowW.claim.pre args=true) (hwl:WellAll P h vals args) :
  ∃a vs ns,vals=[Value.ref a]/\args=[WData.list (ns.map WData.int)]/\h.get? a=some {cls:=.type "list",data:=.seq vs.toArray}/\IntsAre vs ns/\ns.length<=n:=by
 have g:WShape.hasAll [] args [.list .int]=true:=(pre_splitW hpre).1;have i:l.pre.holds [] {args:=args}=true:=(pre_splitW hpre).2;obtain⟨d,r,rfl,h1,h2⟩:=hasAllW_cons g;obtain rfl:=hasAllW_nil h2;obtain⟨xs,rfl,k⟩:=hasW_list h1;obtain⟨ns,rfl⟩:=items_int k;have b:ns.length<=n:=by
  unfold OpenLaw.pre at i;have e:(WTm.not (.lt (.lit (.int (n:Int))) (.len (.arg 0)))).holds [] {args:=[.list (ns.map .int)]}=true:=by
   have e:=(holds_andW i).1;rw[hn]at e;exact e
  have c:=condW_of e (w_not (w_lt w_lit (w_len_list (w_arg rfl))));rw[F3]at c;refine Nat.le_of_not_lt λq=>?_;have j:(n:Int)<((ns.length:Nat):Int):=by omega
  first
   | (rw[q09 j]at c;exact q0Q c nofun)
   | (simp at c;omega)
 cases hwl with
 |cons w1 w2=>
  cases w2;cases w1 with
  |list ho hall=>exact⟨_,_,ns,rfl,rfl,ho,j5 ns _ hall,b⟩
theorem ve(l:OpenLaw)(args:List WData):l.row.toRowW.claim.post args (.bool true) args=true:=
 postW_of (r:=l.row.toRowW) (X:=(true==true))
  (show WShape.has [] (.bool true) .bool=true by first | rfl | decide | simp[WShape.has,WShape.arms,WShape.armsAll])
  (show(WTm.eq .res (.lit (.bool true))).value [] {args:=args,res:=some (.bool true),after:=args}=some (.bool (true==true)) from w_eq_bool (w_res rfl) w_lit) rfl
theorem attach_call{l:OpenLaw}{n:Nat}{q:G5}{loose:G6}{XP:(Str->Option Value)->Heap->Prop}{YP:World->Heap->Prop}{d:DefRec}
  (hn:l.most=some n) (hdf:d.params.defaults=[])
  (call:∀(w:G8) (s₀ s₁:G0) (mg mb:G3) (fa:Addr) (o:Obj) (pm cd doc:Value) (a:Addr) (vs:G1) (ns:List Int),
   Ground q loose [] XP w s₀ mg mb s₁.heap->YP w s₁.heap ->
   s₁.heap.get? fa=some o->o.data=.func (docDef d.name d.params d.body d.scope pm cd doc)->s₁.heap.CodeRec cd d.name->mg d.name=some (.ref fa) ->
   s₁.heap.get? a=some {cls:=.type "list",data:=.seq vs.toArray}->IntsAre vs ns->ns.length<=n->s₁.gens=#[] ->
   codeAny (model l.prog w) callerA (.call (.ref fa) ⟨[.ref a],[]⟩) (λr s'=>r=.ok (.ret (.bool true))/\OldK s₁.heap s'.heap/\s'.os=s₁.os/\AllBare s'.gens) s₁) :
  WalkO q loose XP YP l.row.toRowW d [] (λf vs=>PySem.call f vs):=by
 intro w s₀ s₁ mg mb G Y fa o pm cd doc C kV u y k m j x args vals as c hlay hrd i hlo;obtain rfl:C=.none:=Dflts.none m hdf;obtain rfl:kV=.none:=Dflts.noKw m;obtain⟨a,vs,ns,rfl,rfl,e,b,g⟩:=vQ hn c i;refine enter_call (codeAny_mono (call w s₀ s₁ mg mb fa o pm cd doc a vs ns G Y u (fd_plain y) k j e b g x) λr s' p=>?_);obtain⟨rfl,h2,B,z⟩:=p;exact⟨.inl ⟨.bool true,.bool true,[],rfl,λ_=>rfl,.bool true,ve l _,λ_=>⟨List.Pairwise.nil,λ_ v=>(nomatch v)⟩⟩,h2,B,z⟩
section
variable {prog:G5}{w:G8}{A:G7}{E:GW}{s:G0}{K:Frag}
end
end Att
namespace L2
open PySem PySem.Spec PyProof.Rows
theorem nE:∀{vs:G1} {ns:List Int},IntsAre vs ns->aQ (ns.map V.int) vs
 |_,_,.nil=>.nil
 |_,_,.cons n t h=>.cons ⟨t,rfl⟩ (nE h)
def Ba(H:Hp):Prop:=∀b,H b=none\/∃o xs,H b=some (.frz o (.lst xs))
theorem v_{P:G5}{w:G8}{K:GX}{mg mb:G3}{CX:iz}{k:Nat}{fa a:Addr}{fd:G4}{x:Str}{sp:Sp}{s₁:G0}{vs:G1}{ns:List Int}
  (KX:K.In s₁.heap) (hns:s₁.heap.Ns mainGlobals mg) (hb:s₁.heap.Ns builtinsNs mb) (hbb:∀x:Str,x≠"__name__"->mb x=bootBuiltins x) (hlim:s₁.heap.NoLimit) (hg:s₁.gens=#[])
  (ha:s₁.heap.get? a=some {cls:=.type "list",data:=.seq vs.toArray}) (hi:IntsAre vs ns) (hl:ns.length<=sizeLine) (hr:cw k callerA)
  (F:∀base:Heap,K.In base->base.Ns mainGlobals mg->bc P w K mg base CX k fa fd [x] sp) (hbind:∀(s:G0) (u:Value),BindsTo s fd ⟨[u],[]⟩ [(x,u)])
  (hsp:∀H:Hp,Ba H->aT K H a (ns.map V.int)->sp [.ref a] H (λv _=>v=.bl true) λ_ _ _=>False)
  (hCX:∀H e s',CX [] H s₁ (λ_ _ _=>False) e s'->False) :
  codeAny (model P w) callerA (.call (.ref fa) ⟨[.ref a],[]⟩) (λr s'=>r=.ok (.ret (.bool true))/\OldK s₁.heap s'.heap/\s'.os=s₁.os/\AllBare s'.gens) s₁:=by
 have J:=nE hi;have l:=hi.length
 -- from an abstract heap in which nothing but the script may be tracked
 have i:∀H:Hp,Ba H->aT K H a (ns.map V.int)->gU P w H s₁.heap->(∀b,H b≠none->b=a)->(H a≠none->K.lookup a=none) ->
   codeAny (model P w) callerA (.call (.ref fa) ⟨[.ref a],[]⟩) (λr s'=>r=.ok (.ret (.bool true))/\OldK s₁.heap s'.heap/\s'.os=s₁.os/\AllBare s'.gens) s₁:=by
  intro H L Y y M hK;have c:∀{b:Addr} {o:Obj},s₁.heap.get? b=some o->H b=none->(pN s₁.heap H).get? b=some o:=λe n=>xW e n;have D:∀{b:Addr} {o:Obj} {es:Array DictEntry} {ep:Nat},s₁.heap.get? b=some o->o.data=.dict es ep->H b=none:=fun{b o es ep} e d=>by
   cases q:H b with
   |none=>rfl
   |some u=>
    have I:b=a:=M b (by rw[q];simp);subst I;rw[ha]at e;cases e
    have d':Data.seq vs.toArray _=Data.dict es ep:=d;cases d'
  have g:∀{b:Addr} {m:G3},s₁.heap.Ns b m->(pN s₁.heap H).Ns b m:=fun{b m} ⟨o,es,ep,e,d,r⟩=>⟨o,es,ep,c e (D e d),d,r⟩;have B:K.In (pN s₁.heap H):=λb o e=>c (KX b o e) (by
   cases q:H b with
   |none=>rfl
   |some u=>
    have I:b=a:=M b (by rw[q];simp);subst I;rw[hK (by rw[q];simp)]at e;cases e)
  have Z:Mod K mg (pN s₁.heap H):=⟨B,g hns,⟨mb,g hb,hbb⟩,let ⟨mc,h1,h2⟩:=hlim;⟨mc,g h1,h2⟩⟩;have e0:lR P w K mg (pN s₁.heap H) callerA [] s₁ H:=⟨rfl,Z,λb o e=>yS e,Nat.le_of_eq (uM _ _),trivial,λb hb=>q0Q (show b∈([]:List Addr) from hb) (by simp),y,.of_eq hg⟩;refine codeAny_mono ((F _ B (g hns)).run callerA [] s₁ H ⟨[.ref a],[]⟩ [.ref a] [.ref a] _ _ hr e0 (hbind s₁ (.ref a)) (.cons rfl .nil) (hsp H L Y)) λr s' h=>?_;cases r with
  |error e=>exact(hCX H e s' h).elim
  |ok fl=>
   cases fl with
   |next=>exact False.elim h
   |brk=>exact False.elim h
   |cont=>exact False.elim h
   |ret u=>
    obtain⟨v,H',os,C,un,p,S,q⟩:=h;have T:v=.bl true:=q;subst T;obtain rfl:u=Value.bool true:=S;refine⟨rfl,OldK.of_keep λb o e=>?_,os,C⟩;cases q:H b with
    |none=>exact un.keep b o e q (by intro z;exact q0Q (show b∈([]:List Addr) from z) (by simp)) (by simp)
    |some u=>
     rcases L b with z | ⟨U,xs,z⟩
     ·rw[q]at z;cases z
     ·have R:=un.frzs b U _ z
      obtain⟨O,_⟩:=y b _ z;obtain⟨e2,_⟩:=p b _ R;rw[e]at O;cases O
      exact e2
 cases G:K.lookup a with
 |some o=>
  -- the script is one of the module's own objects
  have e:=KX a o G;rw[ha]at e;cases e;refine i (λ_=>none) (λ_=>.inl rfl) (.inr ⟨_,vs.toArray,_,G,rfl,rfl,rfl,by rw[F9,l];exact hl,by simpa using J⟩) (λb u z=>by have j:(none:Option HO)=some u:=z;cases j) (λb z=>q0Q rfl z) λz=>q0Q rfl z
 |none=>
  refine i (λb=>if b=a then some (.frz {cls:=.type "list",data:=.seq vs.toArray} (.lst (ns.map V.int))) else none) (λb=>?_) (.inl (.inr ⟨{cls:=.type "list",data:=.seq vs.toArray},q07 rfl⟩)) (λb u z=>?_) (λb z=>?_) λ_=>G
  ·by_cases hb:b=a
   ·exact .inr ⟨_,_,q07 hb⟩
   ·exact .inl (q06 hb)
  ·by_cases hb:b=a
   ·have j:=(q07 hb).symm.trans z
    cases j;subst hb;exact⟨ha,by rw[F3];exact hl,vs,_,J,ha⟩
   ·have j:=(q06 hb).symm.trans z
    cases j
  ·by_cases hb:b=a
   ·exact hb
   ·exact q0Q (q06 hb) z
theorem walk_of{l:PySem.W.OpenLaw}{n k:Nat}{q:G5}{loose:G6}{XP:(Str->Option Value)->Heap->Prop}{YP:World->Heap->Prop}{d:DefRec}{K:Params->PySem.W.Frag}{CX:World->iz}{sp:World->Sp}{x:Str}
  (hn:l.most=some n) (hn2:n<=sizeLine) (hdf:d.params.defaults=[]) (hr:cw k callerA)
  (hY:∀(w:G8) (h:Heap),YP w h->(K w.params).In h)
  (F:∀(w:G8) (mg:G3) (fa:Addr) (h:Heap),(K w.params).In h->h.Ns mainGlobals mg->mg d.name=some (.ref fa) ->
   ∃fd:FuncData,(∀(s:G0) (u:Value),BindsTo s fd ⟨[u],[]⟩ [(x,u)]) /\
    ∀base:Heap,(K w.params).In base->base.Ns mainGlobals mg->bc l.prog w (K w.params) mg base (CX w) k fa fd [x] (sp w))
  (hsp:∀(w:G8) (H:Hp) (a:Addr) (ns:List Int),ns.length<=n->Ba H->aT (K w.params) H a (ns.map V.int)->sp w [.ref a] H (λv _=>v=.bl true) λ_ _ _=>False)
  (hCX:∀(w:G8) (H:Hp) (s:G0) (e:Value) (s':G0),CX w [] H s (λ_ _ _=>False) e s'->False) :
  PySem.W.WalkO q loose XP YP l.row.toRowW d [] (λf vs=>PySem.call f vs):=by
 refine Att.attach_call hn hdf λw s₀ r mg mb fa o pm cd doc a vs ns G Y ho hd hcd m j i c y=>?_;have p:=hY w _ Y;obtain⟨fd,z,D⟩:=F w mg fa _ p G.T.g m;exact v_ p G.T.g G.T.b G.T.builtins G.T.nolimit y j i (Gy c hn2) hr D z (λH C B=>hsp w H a ns c C B) λH e s'=>hCX w H r e s'
def cY(s:Stmt):Arguments:=match s with
 | .FunctionDef _ a _ _ _ _ _ _ _ _=>a
 |_=>{posonlyargs:=[],args:=[],vararg:=none,kwonlyargs:=[],kw_defaults:=[],kwarg:=none,defaults:=[]}
def cN(s:Stmt):List Stmt:=match s with
 | .FunctionDef _ _ b _ _ _ _ _ _ _=>b
 |_=>[]
def av(s:Stmt):Scope:=match s with
 | .FunctionDef _ _ _ _ _ _ sc _ _ _=>sc
 |_=>{kind:=.function,names:=[],isGenerator:=false,isCoroutine:=false}
abbrev bx:iz:=λ_ _ _ _ _ _=>False
abbrev E0:XK:=λ_ _ _=>False
theorem aL{X:Cx}:cQ bx X E0:=λ_ _ _ _ _ _ _ h=>h.elim
structure dO(K:GX)(x qual:Str)(st:Stmt)(f:Addr)(fd:G4):Prop where
 ex:∃(oc:Value) (od:G9) (kV doc pm:Value) (an:G9) (cdv ct:Value) (osl:Array (Option Value)),
  fd=PySem.W.fnOf x qual (cY st) (cN st) (av st) .none kV doc pm an cdv ct/\K.lookup f=some ⟨oc,od,.func fd,osl⟩/\PySem.W.codeIn K cdv qual=true
 kp:PySem.W.keepIn K (.ref f)=true
section
variable {P:G5}{w:G8}{K:GX}{mg:G3}{base:Heap}
theorem dO.ok{x qual:Str}{st:Stmt}{f:Addr}{fd:G4}{N ps:G6}{k:Nat}{sp:Sp}(F:dO K x qual st f fd)(S:aF N ps (av st))(len:∀vs H Q E,sp vs H Q E->vs.length=ps.length)
  (hbody:∀(cdv:Value) (A:G7) (outer:List Env) (s:G0) (H:Hp) (vs:List V) (Q:VK) (E:XK),cw k (A.deeper (envOfC qual (av st) s.heap.objs.size f cdv))->sp vs H Q E ->
   ∃t,tR (pX bx P w K mg base N qual (av st) f cdv A outer s H E).nox (cN st) t/\t {nx:=λ_ H'=>Q .non H',rt:=Q} (start N vs) H):bc P w K mg base bx (k+1) f fd ps sp:=by
 obtain⟨oc,od,kV,doc,pm,an,cdv,ct,osl,rfl,c,b⟩:=F.ex;refine CS c b S len λA outer s H vs Q E hr a=>?_;obtain⟨t,h,q⟩:=hbody cdv A outer s H vs Q E hr a;exact⟨t,h.nox,q⟩
theorem dO.binds{x qual:Str}{st:Stmt}{f:Addr}{fd:G4}{ps:G6}(F:dO K x qual st f fd)
  (h:∀(kV doc pm:Value) (an:G9) (cdv ct:Value) (us:G1),us.length=ps.length->bindArgs (PySem.W.fnOf x qual (cY st) (cN st) (av st) .none kV doc pm an cdv ct) ⟨us,[]⟩=pure (ps.zip us)):cX K fd ps []:=by
 obtain⟨oc,od,kV,doc,pm,an,cdv,ct,osl,rfl,lk,hcd⟩:=F.ex;exact .all (h kV doc pm an cdv ct)
theorem dQ{x qual:Str}{st:Stmt}{f:Addr}{oc:Value}{od an:G9}{osl:Array (Option Value)}{kV doc pm cdv ct:Value}(l:K.lookup f=some ⟨oc,od,.func (PySem.W.fnOf x qual (cY st) (cN st) (av st) .none kV doc pm an cdv ct),osl⟩)
  (c:PySem.W.codeIn K cdv qual=true) (k:PySem.W.keepIn K (.ref f)=true):dO K x qual st f (PySem.W.fnOf x qual (cY st) (cN st) (av st) .none kV doc pm an cdv ct):=⟨⟨oc,od,kV,doc,pm,an,cdv,ct,osl,rfl,l,c⟩,k⟩
end
section
variable {X:Cx}
theorem pv(i:Nat){x:Str}{pos:Pos}(hN:autoParam (X.N[i]?=some x) zz0._auto_1)(hv:autoParam (Di X.env.scope x) zz5._auto_1)(hd:autoParam ((x==("__debug__":Str))=false) zz1._auto_1)
  (hcd:autoParam ((x==("__classdict__":Str))=false) zz1._auto_1):PE X (.Name x pos) (yB i):=BB hN hv hd hcd
theorem vS:eN X (.builtin "len") (λxs H Q=>∃a kvs,xs=[V.ref a]/\H a=some (.dK kvs)/\Q (.int kvs.length) H):=by
 intro pins s σ H xs us Q I r h;obtain⟨a,kvs,rfl,c,q⟩:=h;obtain⟨u,rfl,b⟩:=pU r;cases b;exact CO I (.inl c) λt s' d=>⟨.int kvs.length,H,d,⟨t,rfl⟩,q⟩
end
def aA(H H':Hp):Prop:=∀b o,H b=some o->H' b=some o
theorem aA.refl(H:Hp):aA H H:=λ_ _ h=>h
theorem aA.trans{H H1 H2:Hp}(a:aA H H1)(b:aA H1 H2):aA H H2:=λc o h=>b c o (a c o h)
theorem aA.free{H H':Hp}(e:aA H H'){l:Addr}(h:H' l=Option.none):H l=Option.none:=by
 cases q:H l with
 |none=>rfl
 |some o=>
  rw[e l o q]at h;cases h
theorem aA.seq{K:GX}{H H':Hp}{a:Addr}{xs:List V}(e:aA H H')(h:aT K H a xs):aT K H' a xs:=by
 rcases h with(h | ⟨o,h⟩) | h
 ·exact .inl (.inl (e _ _ h))
 ·exact .inl (.inr ⟨o,e _ _ h⟩)
 ·exact .inr h
section
variable {κ:Type}[DecidableEq κ]
theorem xM{kvs:List (κ×V)}{k:κ}(h:c3 kvs k=none):¬ k∈kvs.map (·.1):=by
 intro m;obtain⟨p,b,e⟩:=GM.mp m;have q:(kvs.any λa=>decide (a.1=k))=true:=List.any_eq_true.mpr ⟨p,b,q09 e⟩;rw[fD,h]at q;exact q0Q q (by simp)
end
end L2
namespace PySem
open Sem (wp)
open Builtin Builtin.Str Builtin.Int
namespace F
theorem jp:Manifest.owners.lookup "reversed"=some Manifest.sig_reversed:=by kernel_rfl
theorem slot_rvs_next:Slot "reversed" "__next__" "reversed.__next__":=
 .of (owner:="reversed") (n:="__next__") (by rw[typeLookup_type,builtinLookup_eq_fast];kernel_rfl) (by decide +kernel) (by decide +kernel) (by decide +kernel)
  (by first | exact .inl (by decide +kernel) | exact .inr (by decide +kernel)) (by rw[isSubtype_type];kernel_rfl)
theorem entry_rvs_next:entryFor table "reversed.__next__"=some Builtin.«reversed.__next__»:=entryFor_of_tree (by kernel_rfl)
theorem slot_rvs_iter:Slot "reversed" "__iter__" "reversed.__iter__":=
 .of (owner:="reversed") (n:="__iter__") (by rw[typeLookup_type,builtinLookup_eq_fast];kernel_rfl) (by decide +kernel) (by decide +kernel) (by decide +kernel)
  (by first | exact .inl (by decide +kernel) | exact .inr (by decide +kernel)) (by rw[isSubtype_type];kernel_rfl)
theorem nolen_rvs:typeLookup (.type "reversed") "__len__"=pure none:=by rw[typeLookup_type,builtinLookup_eq_fast];kernel_rfl
theorem hint_rvs:typeLookup (.type "reversed") "__length_hint__"=pure (some (.builtin "reversed.__length_hint__")):=by rw[typeLookup_type,builtinLookup_eq_fast];kernel_rfl
theorem args_rvs_next_1(a:Value):argsOk "reversed.__next__" ⟨[a],[]⟩:=by
 unfold argsOk;rw[signature?_of (id:="reversed.__next__") (n:=['_','_','t','x','e','n','_','_']) (o:=['d','e','s','r','e','v','e','r']) (by kernel_rfl) jp];kernel_rfl
theorem args_rvs_iter_1(a:Value):argsOk "reversed.__iter__" ⟨[a],[]⟩:=by
 unfold argsOk;rw[signature?_of (id:="reversed.__iter__") (n:=['_','_','r','e','t','i','_','_']) (o:=['d','e','s','r','e','v','e','r']) (by kernel_rfl) jp];kernel_rfl
theorem entry_rvs_iter:entryFor table "reversed.__iter__"=some Builtin.«dict_keyiterator.__iter__»:=
 entryFor_alias (id':="dict_keyiterator.__iter__") (by kernel_rfl) (by first | rfl | decide +kernel | (unfold String.splitOn;simp +decide [String.splitOnAux])) (by decide +kernel) (by kernel_rfl)
theorem slot_rvs_hint:Slot "reversed" "__length_hint__" "reversed.__length_hint__":=
 .of (owner:="reversed") (n:="__length_hint__") (by rw[typeLookup_type,builtinLookup_eq_fast];kernel_rfl) (by decide +kernel) (by decide +kernel) (by decide +kernel)
  (by first | exact .inl (by decide +kernel) | exact .inr (by decide +kernel)) (by rw[isSubtype_type];kernel_rfl)
theorem entry_rvs_hint:entryFor table "reversed.__length_hint__"=some Builtin.«reversed.__length_hint__»:=entryFor_of_tree (by kernel_rfl)
theorem args_rvs_hint_1(a:Value):argsOk "reversed.__length_hint__" ⟨[a],[]⟩:=by
 unfold argsOk;rw[signature?_of (id:="reversed.__length_hint__") (n:=['_','_','t','n','i','h','_','h','t','g','n','e','l','_','_']) (o:=['d','e','s','r','e','v','e','r']) (by kernel_rfl) jp];kernel_rfl
end F
section
variable {prog:G5}{w:G8}{A:G7}{E:GW}{s:G0}
def sj(x:Str)(t:Tok)(i:Int):Obj:={cls:=.type "reversed",data:=.fields #[.str x t,rawInt i]}
def Heap.IsRvs(h:Heap)(a:Addr)(x:Str)(t:Tok)(i:Int):Prop:=∃o,h.get? a=some o/\o.cls=.type "reversed"/\o.data=.fields #[.str x t,rawInt i]
theorem Heap.IsRvs.typeIs{a:Addr}{x:Str}{t:Tok}{i:Int}(y:s.heap.IsRvs a x t i):s.TypeIs (.ref a) "reversed":=let ⟨o,ho,hc,_⟩:=y;⟨o,ho,hc⟩
theorem Heap.IsRvs.at{h h':Heap}{a:Addr}{x:Str}{t:Tok}{i:Int}(y:h.IsRvs a x t i)(e:∀o,h.get? a=some o->h'.get? a=some o):h'.IsRvs a x t i:=let ⟨o,ho,r⟩:=y;⟨o,e _ ho,r⟩
theorem gw{it:Addr}{x:Str}{t:Tok}{i c:Nat}{Q:Option Value->Shared->Prop}(hit:s.heap.IsRvs it x t (i:Int))(hx:x.cps[i]?=some c)(hsz:i<2 ^ 63)
  (hQ:∀h' tk tk',h'.IsRvs it x t ((i:Int)-1)->Heap.SameBut it s.heap h'->Q (some (.str ⟨#[c]⟩ tk)) {s with heap:=h',toks:=tk' }):wpAny (model prog w) A (pyNext (.ref it)) Q E s:=by
 obtain⟨o,d,k,b⟩:=id hit;have g:i<x.length:=(Array.getElem?_eq_some_iff.mp hx).1;unfold pyNext;refine q04 (wpAny_attempt (wpAny_callSpecial?_slot (name:=Str.ofString "__next__") hit.typeIs F.slot_rvs_next
  (wpAny_call_entry F.slot_rvs_next hit.typeIs F.entry_rvs_next ?_ (F.args_rvs_next_1 _))))
 unfold Builtin.«reversed.__next__»;refine q04 (wpAny_of_eq (a:=(Value.ref it,[])) rfl ?_)
 try dsimp only
 refine q04 (wpAny_field d b (x:=.str x t) rfl ?_);refine q04 (wpAny_field d b (x:=rawInt (i:Int)) rfl ?_);show wpAny _ _ (if(i:Int)<0 then _ else _) _ _ s;rw[q06 ⋯];refine q04 (wpAny_specialOf (typeIs_str s x t) F.slot_str_getitem.lookup ?_)
 try dsimp only
 first
 |rw[q06 (show ¬ ((some (Value.builtin "str.__getitem__")).isNone=true) from Gs)]
 |skip
 refine q04 (wpAny_mkInt ?_);refine q04 (wpAny_attempt ?_);have l:(seqIndex? (i:Int) x.length).bind (x.cps[·]?)=some c:=by
  have e:seqIndex? (i:Int) x.length=some i:=by
   have j:¬ ((i:Int)<0):=by omega
   unfold seqIndex?;simp[j,g]
  rw[e];exact hx
 refine P.getItem_str (c:=c) (by simp;omega) l ?_;dsimp only;refine q04 (wpAny_field d b (x:=rawInt (i:Int)) rfl ?_);show wpAny _ _ (setField (Value.ref it) 1 (rawInt ((i:Int)-1)) >>= λ_=>ret (Value.str ⟨#[c]⟩ _)) _ _ _;refine q04 (wpAny_setField d b (by simp) ?_);refine q05 ⟨_,rfl,q05 (hQ _ _ _ ?_ (Heap.SameBut.update ..))⟩;exact⟨_,Ga _ d (Obj.isFreed_of_fields (Obj.data_mapFields b _)),(Obj.cls_mapFields ..).trans k,by
  rw[Obj.data_mapFields b];simp⟩
theorem gE{it:Addr}{x:Str}{t:Tok}{Q:Option Value->Shared->Prop}(hh:A.handled=none)(hit:s.heap.IsRvs it x t (-1))
  (hQ:∀h',Heap.ExtBut it s.heap h'->Q none {s with heap:=h' }):wpAny (model prog w) A (pyNext (.ref it)) Q E s:=by
 obtain⟨o,d,hc,c⟩:=id hit;unfold pyNext;refine q04 (wpAny_attempt (wpAny_callSpecial?_slot (name:=Str.ofString "__next__") hit.typeIs F.slot_rvs_next
  (wpAny_call_entry F.slot_rvs_next hit.typeIs F.entry_rvs_next ?_ (F.args_rvs_next_1 _))))
 unfold Builtin.«reversed.__next__»;refine q04 (wpAny_of_eq (a:=(Value.ref it,[])) rfl ?_)
 try dsimp only
 refine q04 (wpAny_field d c (x:=.str x t) rfl ?_);refine q04 (wpAny_field d c (x:=rawInt (-1)) rfl ?_);show wpAny _ _ (if(-1:Int)<0 then _ else _) _ _ s;rw[q07 nofun];refine q04 (wpAny_rule ?_);show wpAny _ _ ((setField (Value.ref it) 1 (rawInt (-1)) >>= λ_=>setField (Value.ref it) 0 .none) >>= _) _ _ _;refine q04 (q04 (wpAny_setField d c (by simp) ?_));have e:=Ga (Obj.mapFields (·.setIfInBounds 1 (rawInt (-1)))) d (Obj.isFreed_of_fields (Obj.data_mapFields c _));refine wpAny_setField e (Obj.data_mapFields c _) (by simp) ?_;dsimp only;show wpAny _ _ (SmallTypes.stopIteration >>= _) _ _ _;refine q04 ?_;unfold SmallTypes.stopIteration
 first
 |show wpAny _ _ (newExc (.type "StopIteration") [] >>= _) _ _ _
 | (refine q04 ?_;show wpAny _ _ (newExc (.type "StopIteration") [] >>= _) _ _ _)
 refine q04 ?_;simp only[newExc,newTuple];refine q04 (wpAny_newObj_type ?_ (by size_fits));refine q04 (m:=firstArgMember _ _) (wpAny_of_eq (a:=Value.none) (by first | rfl | (simp only[firstArgMember];rfl)) ?_);refine wpAny_newObj_type ?_ (by size_fits);simp only[raiseNew];refine q04 (wpAny_handled ?_)
 first | rw[show A.in1.handled=none from hh] | rw[hh]
 refine q04 (q05 (wpAny_throw ?_));refine q04 (wpAny_isInstance (T:="StopIteration") (b:=true) ⟨_,F8 _ rfl,rfl⟩ isSubtype_stop ?_);refine q05 (hQ _ ?_);intro b ob g i;exact F1 _ (F1 _ ((F7 _ _ (Ne.symm g)).trans ((F7 _ _ (Ne.symm g)).trans i)))
theorem fG{it:Addr}{x:Str}{t:Tok}{i:Int}{Q:GW}(hit:s.heap.IsRvs it x t i)(h:Q (.ref it) s):wpAny (model prog w) A (pyIter (.ref it)) Q E s:=by
 refine wpAny_pyIter_slot hit.typeIs F.slot_rvs_iter (wpAny_call_entry F.slot_rvs_iter hit.typeIs F.entry_rvs_iter ?_ (F.args_rvs_iter_1 _));show wpAny _ _ (ret (.ref it)) _ _ s;exact q05 ⟨_,rfl,"reversed",_,hit.typeIs,F.slot_rvs_next.lookup,h⟩
theorem hint_rvs{it:Addr}{x:Str}{t:Tok}{i:Int}{Q:GW}(hit:s.heap.IsRvs it x t i)(hi:i<x.length)(hz:x.length<=sizeLine)
  (h:∀u tk,s.toks<=tk->Q (.int (i+1) u) {s with toks:=tk}):wpAny (model prog w) A (call (.builtin "reversed.__length_hint__") [.ref it]) Q E s:=by
 obtain⟨o,b,hc,c⟩:=id hit;refine wpAny_call_entry F.slot_rvs_hint hit.typeIs F.entry_rvs_hint ?_ (F.args_rvs_hint_1 _);unfold Builtin.«reversed.__length_hint__»;refine q04 (wpAny_of_eq (a:=Value.ref it) rfl ?_);refine q04 (wpAny_field b c (x:=.str x t) rfl ?_);show wpAny _ _ (if(Value.str x t==Value.none)=true then _ else _) _ _ s;rw[q06 (show ¬ ((Value.str x t==Value.none)=true) from λz=>by cases(eq_of_beq z))];have hs:sizeLine=16777216:=q0W;refine q04 (P.len_str ⋯ ?_);refine q04 (m:=asInt? _) (q05 ?_);dsimp only;refine q04 (wpAny_field b c (x:=rawInt i) rfl ?_);show wpAny _ _ (if(x.length:Int)<i+1 then _ else _) _ _ _;rw[q06 ⋯];show wpAny _ _ (mkInt (i+1) >>= λv=>ret v) _ _ _;exact q04 (wpAny_mkInt (q05 ⟨_,rfl,h _ _ (by simp;omega)⟩))
theorem Walks.rvs{A:G7}(hh:A.handled=none)(I:Addr)(x:Str)(t:Tok)(hz:x.length<=sizeLine) :
  Walks prog w A I [I] [I] x.length (λi v=>∃c tk,x.cps[x.length-1-i]?=some c/\v=.str ⟨#[c]⟩ tk) (λi h=>i<=x.length/\h.IsRvs I x t ((x.length:Int)-1-(i:Int))) where
 sub:=λb hb=>hb
 frame:=λ_ _ _ y hk=>⟨y.1,y.2.at λo e=>hk I (by simp) o e⟩
 item:=λi s Q E hi y hQ=>by
  have e:(x.length:Int)-1-(i:Int)=((x.length-1-i:Nat):Int):=by omega
  have a:=y.2;rw[e]at a;have hb:x.length-1-i<x.cps.size:=by have:x.length=x.cps.size:=rfl;omega
  have n:x.cps[x.length-1-i]?=some (x.cps[x.length-1-i]'hb):=Array.getElem?_eq_getElem hb;have hs:sizeLine=16777216:=q0W;refine gw a n ⋯ λl tk g d j=>?_;have p:((x.length-1-i:Nat):Int)-1=(x.length:Int)-1-((i+1:Nat):Int):=by omega
  rw[p]at d;exact hQ _ l g ⟨_,tk,n,rfl⟩ ⟨hi,d⟩ λb o hb m=>j.extBut b o (λh=>hb (by simp[h])) m
 done:=λs Q E y hQ=>by
  have e:(x.length:Int)-1-(x.length:Int) = -1:=by omega
  have a:=y.2;rw[e]at a;exact gE hh a λl k=>hQ l s.toks λb o hb m=>k b o (λh=>hb (by simp[h])) m
 self:=λ_ _ _ _ y hQ=>fG y.2 hQ
theorem iD{I:Addr}{x:Str}{t:Tok}{Q:List Value->Shared->Prop}(hh:A.handled=none)(hit:s.heap.IsRvs I x t ((x.length:Int)-1))(hz:x.length<=sizeLine)
  (hQ:∀s' acc,Moved [I] (λa b=>b=a) s s'->ItemsOf (λi v=>∃c tk,x.cps[x.length-1-i]?=some c/\v=.str ⟨#[c]⟩ tk) acc x.length->Q acc.toList s'):wpAny (model prog w) A (collect (.ref I)) Q E s:=by
 have W:=(Walks.rvs (prog:=prog) (w:=w) (A:=A.in1) hh I x t hz).toS;have hn:x.length<=sizeLine:=hz;have hst:(λi (s:G0)=>i<=x.length/\s.heap.IsRvs I x t ((x.length:Int)-1-(i:Int))) 0 s:=⟨Gr _,by simpa using hit⟩;have hT:∀i (s:G0),(i<=x.length/\s.heap.IsRvs I x t ((x.length:Int)-1-(i:Int)))->s.TypeIs (.ref I) "reversed":=λi s y=>y.2.typeIs;have hlt:I<s.heap.objs.size:=by obtain⟨o,ho,_⟩:=hit;exact Gu ho
 have hSI:s.heap.objs.size≠I:=λe=>Gz _ (e▸hlt);have hSf:s.heap.objs.size∉[I]:=λhm=>hSI (F4.mp hm);unfold collect;refine q04 (wpAny_runValue (codeAny_builtin F.entry_proto_collect ?_));rw[Around.under_plainId F.plain_proto_collect _];show wpAny _ A.in1 (newList [] >>= λl=>again (.builtin "list.__iadd__" ⟨[l,.ref I],[]⟩)) _ _ s;refine q04 (wpAny_newObj_type ?_);refine q05 ⟨plainId_quiet F.plain_list_iadd _,codeAny_builtin F.entry_list_iadd ?_⟩;rw[Around.under_plainId F.plain_list_iadd _];have hst₁:=W.frame 0 s (s.heap.push {cls:=.type "list",data:=.seq ([]:List Value).toArray}) s.toks hst (Gq _) λb _ o e=>F1 _ e;have hS₁:(s.heap.push {cls:=.type "list",data:=.seq ([]:List Value).toArray}).get? s.heap.objs.size=some {cls:=.type "list",data:=.seq ([]:List Value).toArray}:=F8 _ rfl;have h1:Builtin.List.listSameRef (.ref s.heap.objs.size) (.ref I)=false:=by simp[Builtin.List.listSameRef,hSI]
 show wpAny _ A.in1 (Builtin.List.listExtendWith (.ref s.heap.objs.size) (.ref I) (.ref s.heap.objs.size)) _ _ _;unfold Builtin.List.listExtendWith;refine q04 (wpAny_typeOf (hT 0 _ hst₁) ?_);rw[q06 (by rw[h1];decide)];refine q04 (W.self 0 _ _ _ hst₁ ?_);refine q04 (q0Y ?_);unfold Builtin.List.listLengthHint;refine q04 (wpAny_specialOf (hT 0 _ hst₁) F.nolen_rvs ?_);show wpAny _ A.in1 (specialOf (Value.ref I) (Str.ofString "__length_hint__") >>= _) _ _ _;refine q04 (wpAny_specialOf (hT 0 _ hst₁) F.hint_rvs ?_)
 (generalize hid:("reversed.__length_hint__":String)=id0;(fail_if_success (clear hid id0));wp_delta;rw[show splitId id0=some ("reversed","__length_hint__") from by subst hid;decide +kernel];subst hid)
 refine q04 (wpAny_isInstance (b:=true) (hT 0 _ hst₁) (by rw[isSubtype_type];kernel_rfl) ?_);rw[q06 (show ¬ ((!true)=true) by decide)];dsimp only
 split
 ·rename_i hsil
  exact q0Q hsil (by decide +kernel)
 refine q04 (wpAny_rule ?_);refine q04 (wpAny_of_eq (F.slot_rvs_hint.bind _) ?_);dsimp only;refine q04 (wpAny_attempt ?_);refine hint_rvs (i:=(x.length:Int)-1-((0:Nat):Int)) hst₁.2 ⋯ hz λu tk htk=>?_;dsimp only;have hs:sizeLine=16777216:=q0W;have hk:Builtin.List.listTooLong (Int.toNat ((x.length:Int)-1-((0:Nat):Int)+1))=false:=by
  unfold Builtin.List.listTooLong;have e:Int.toNat ((x.length:Int)-1-((0:Nat):Int)+1)=x.length:=by omega
  rw[e]
  simpa using hz
 refine q04 (m:=asInt? (.int _ u)) (q05 ?_);dsimp only;have hfit:Builtin.List.listFitsIndex ((x.length:Int)-1-((0:Nat):Int)+1)=true:=by
  unfold Builtin.List.listFitsIndex;simp;omega
 rw[q06 (by rw[hfit];decide),q06 ⋯,q06 (by rw[hk];decide)];refine q05 ?_
 -- the loop,from a list that may have been touched
 have fin:∀(h₂:Heap) (c:Nat),(∀b o,b≠s.heap.objs.size->(s.heap.push {cls:=.type "list",data:=.seq ([]:List Value).toArray}).get? b=some o->h₂.get? b=some o) ->
   h₂.get? s.heap.objs.size=some {cls:=.type "list",data:=.seq ([]:List Value).toArray c} ->
   codeAny (model prog w) A (.builtin "list.extend.loop" ⟨[.ref s.heap.objs.size,.ref I,.ref s.heap.objs.size],[]⟩) (λr s'=>match r with
    | .ok (.ret v)=>wpAny (model prog w) A (match v with
     | .ref a=>do
      let __do_lift <- load a
      match __do_lift.data with
       | .seq xs _=>pure xs.toList
       |_=>unsupported "internal:collect"
     |_=>unsupported "internal:collect") Q E s'
    | .ok _=>False
    | .error e=>E e s') {s with heap:=h₂,toks:=tk}:=λh₂ c keep hS₂=>by
  have hst₂:(λi (s:G0)=>i<=x.length/\s.heap.IsRvs I x t ((x.length:Int)-1-(i:Int))) 0 {s with heap:=h₂,toks:=tk}:=⟨Gr _,hst₁.2.at λo e=>keep I o (Ne.symm hSI) e⟩;refine codeAny_extend_loopS W hn _ hSf _ x.length 0 _ _ _ rfl (Gr _) hst₂ hS₂ (ItemsOf.nil _) λs' acc' c' hm hS' hacc=>?_;show wpAny _ A (load s.heap.objs.size >>= _) _ _ s';refine q04 (wpAny_load hS' ?_);refine q05 (hQ s' acc' ?_ hacc);exact⟨λb ob hb e=>hm.heap b ob (λhm'=>by
    rcases Gg.mp hm' with e1 | hm'
    ·exact q0Q (e1▸Gu e) (Gz _)
    ·exact hb hm') (keep b ob (λe1=>q0Q (e1▸Gu e) (Gz _)) (F1 _ e)),hm.gens,hm.drawn,hm.os,Gy htk hm.toks⟩
 have quiet:=plainId_quiet F.plain_extend_loop (⟨[.ref s.heap.objs.size,.ref I,.ref s.heap.objs.size],[]⟩:Args)
 split
 ·refine q04 (wpAny_rule ?_)
  show wpAny _ A.in1 ((updateSeq s.heap.objs.size (·.push .none) >>= λ_=>updateSeq s.heap.objs.size (·.pop)) >>= _) _ _ _;refine q04 (q04 (wpAny_updateSeq hS₁ rfl ?_ (by simp) (by simp)));have q1:=PySem.IsL.update (h:=s.heap.push {cls:=.type "list",data:=.seq ([]:List Value).toArray}) (l:=s.heap.objs.size) (items:=([]:List Value).toArray) (n:=0) hS₁ (·.push .none);refine wpAny_updateSeq q1 rfl ?_ (by simp;omega) (by simp);have q2:=PySem.IsL.update q1 (·.pop);exact q05 ⟨quiet,fin _ _ (λb o hb e=>(F7 _ _ (Ne.symm hb)).trans ((F7 _ _ (Ne.symm hb)).trans e)) (show _=some ({cls:=.type "list",data:=.seq ([]:List Value).toArray _}:Obj) from q2)⟩
 ·exact q05 ⟨quiet,fin _ _ (λb o hb e=>e) hS₁⟩
theorem wC{I:Addr}{x sep:Str}{t t0:Tok}{Q:GW}(hh:A.handled=none)(hit:s.heap.IsRvs I x t ((x.length:Int)-1))(hz:x.length<=1000)(hsep:sep.length<=1000)
  (h:∀(s':G0) (t':Tok) (k:Nat),(∀b o,b≠I->s.heap.get? b=some o->s'.heap.get? b=some o)->s'.gens=s.gens->s'.drawn=s.drawn->s'.os=s.os ->
   Q (.str (Txt.join sep (x.cps.toList.reverse.map λc=>(⟨#[c]⟩:Str))) t') {s' with toks:=k}):wpAny (model prog w) A (call (.builtin "str.join") [.str sep t0,.ref I]) Q E s:=by
 have hs:sizeLine=16777216:=q0W;refine wpAny_call (codeAny_call_builtin F.slot_str_join.plain F.entry_str_join (F.slot_str_join.check _ _ _ _ _ _ _ _ (typeIs_str _ _ _) (F.args_str_join_2 _ _) ?_));rw[join_tree_other];refine q04 (wpAny_typeOf hit.typeIs ?_);show wpAny _ A.in1 ((pyIter (.ref I)).tryCatch _ >>= λT=>collect T >>= λm=>joinTail sep m) _ _ s;refine q04 (wpAny_tryCatch (fG hit ?_));refine q04 (iD hh hit ⋯ λs' u B d=>?_);obtain⟨l,C⟩:=exists_strValues u.toList λv U=>by
  obtain⟨j,D,rfl⟩:=Array.mem_iff_getElem.mp (Array.mem_toList_iff.mp U);obtain⟨c,S,_,e⟩:=d.2 j _ (Array.getElem?_eq_getElem D);exact⟨_,_,e⟩
 have n:l.map (·.1)=x.cps.toList.reverse.map λc=>(⟨#[c]⟩:Str):=by
  have Z:l.length=x.length:=by
   have q:=q0R List.length C;simp[strValues]at q;rw[q];exact d.1
  refine List.ext_getElem (by simp[Z];rfl) λj h1 h2=>?_;simp only[List.getElem_map,List.getElem_reverse];have D:j<l.length:=by simpa using h1
  have Y:u.toList[j]?=some (Value.str (l[j]).1 (l[j]).2):=by
   rw[<- C];simp[strValues,D]
  have L:u[j]?=some (Value.str (l[j]).1 (l[j]).2):=by simpa using Y
  obtain⟨c,S,R,e⟩:=d.2 j _ L
  injection e with O _
  rw[O];have J:x.length-1-j<x.cps.size:=by have:x.length=x.cps.size:=rfl;omega
  rw[Array.getElem?_eq_getElem J]at R;have G:=q0S R;rw[<- G];simp only[Array.length_toList,Array.getElem_toList]
  rfl
 rw[<- C];have i:JoinOk sep (l.map (·.1))=true:=by
  unfold JoinOk;rw[StrLaws.joinTotal];have O:((l.map (·.1)).map (·.length)).sum=x.length:=by
   rw[n,Gf];have:((λy:Str=>y.length)∘λc=>(⟨#[c]⟩:Str))=λ_=>1:=by funext c;rfl
   rw[this,List.map_const',List.sum_replicate_nat];simp
   rfl
  have e2:(l.map (·.1)).length=x.length:=by rw[n];simp;rfl
  rw[O,e2];have:x.length*sep.length<=1000*1000:=Nat.mul_le_mul hz hsep;unfold tooLong;rw[q08 ⋯]
  rfl
 have a:=λt' k=>h s' t' k (λb o J e=>B.heap b o (λz=>J (F4.mp z)) e) B.gens B.drawn B.os;unfold JoinOk at i;rw[Bool.not_eq_true']at i;have g:Gives (joinTail sep (strValues l)) (joinMade sep l):=by
  have M:=gives_joinTail sep l i;cases l with
  |nil=>exact M
  |cons p r=>cases r with
   |nil=>exact M
   |cons q r'=>exact M
 rw[<- n]at a;exact g prog w A (wants Q E) s' (post_join l ⟨joinFit_length i,a⟩)
end
namespace F
theorem mn:Slot "reversed" "__init__" "object.__init__":=
 .of (owner:="object") (n:="__init__") (by rw[typeLookup_type,builtinLookup_eq_fast];kernel_rfl) (by decide +kernel) (by decide +kernel) (by decide +kernel)
  (by first | exact .inl (by decide +kernel) | exact .inr (by decide +kernel)) (by rw[isSubtype_type];kernel_rfl)
theorem tZ:mroOf (.type "reversed")=pure [.type "reversed",.type "object"]:=by rw[mroOf_type];kernel_rfl
theorem kT:typeLookup (.type "reversed") "__new__"=pure (some (.builtin "reversed.__new__")):=by rw[typeLookup_type,builtinLookup_eq_fast];kernel_rfl
theorem rvs_called:TypeCalled "reversed" "reversed.__new__" "object.__init__":=
 ⟨by decide +kernel,by decide +kernel,⟨_,_,tZ⟩,madeBy_type tZ kT (by decide +kernel),by decide +kernel,by rw[isSubtype_type];kernel_rfl,mn⟩
theorem rvs_typeCall_1(a:Value):checkTypeCall "reversed" ⟨[a],[]⟩=pure ():=by kernel_rfl
theorem rvs_newCall_1(a:Value):checkBuiltinCall "reversed.__new__" ⟨[.type "reversed",a],[]⟩=pure ():=by kernel_rfl
theorem rvs_entry_new:entryFor table "reversed.__new__"=some Builtin.«reversed.__new__»:=entryFor_of_tree (by kernel_rfl)
theorem rvs_sub:isSubtype (.type "reversed") (.type "reversed")=pure true:=by rw[isSubtype_type];kernel_rfl
theorem rvs_nostr:typeLookup (.type "str") "__reversed__"=pure none:=by rw[typeLookup_type,builtinLookup_eq_fast];kernel_rfl
end F
section
variable {prog:G5}{w:G8}{A:G7}{E:GW}{s:G0}
theorem pE(a:Value):Builtin.SmallTypes.newClass "reversed" ⟨[.type "reversed",a],[]⟩=pure (.type "reversed",[a]):=by
 unfold Builtin.SmallTypes.newClass;simp only[isType,F.rvs_sub,pure_bind,Bool.not_true,q0a,if_false]
theorem mB(x:Str)(t:Tok)(hz:x.length<=sizeLine):Meets (Builtin.«reversed.__new__» ⟨[.type "reversed",.str x t],[]⟩)
  (λ_ R s=>R (.ok (.ret (.ref s.heap.objs.size))) {s with heap:=s.heap.push (sj x t ((x.length:Int)-1)),toks:=s.toks+1+1}):=
 .of_wp λprog w A R s h=>by
  have hs:sizeLine=16777216:=q0W;unfold Builtin.«reversed.__new__»;refine q04 (wpAny_of_eq (pE _) ?_)
  try dsimp only
  refine q04 (wpAny_of_eq (a:=()) (by first | rfl | kernel_rfl) ?_);refine q04 (wpAny_of_eq (a:=()) (by first | rfl | kernel_rfl) ?_)
  try dsimp only
  refine q04 (wpAny_specialOf (typeIs_str s x t) F.rvs_nostr ?_)
  try dsimp only
  refine q04 ?_;refine q04 (wpAny_isInstance (T:="str") (b:=false) (typeIs_str s x t) (by rw[isSubtype_type];kernel_rfl) ?_);rw[q06 nofun];refine q04 (wpAny_specialOf (typeIs_str s x t) F.slot_str_getitem.lookup ?_);dsimp only
  split
  ·refine q05 ?_
   rw[q06 nofun];refine q04 (P.len_str ⋯ ?_);refine q04 (m:=asInt? _) (q05 ?_);dsimp only;show wpAny _ _ (newObj (.type "reversed") (.fields #[.str x t,rawInt ((x.length:Int)-1)]) >>= λv=>ret v) _ _ _;exact q04 (wpAny_newObj_type (q05 ⟨_,rfl,h⟩))
  ·rename_i hn
   exact q0Q (by decide +kernel) hn
theorem iK{x:Str}{t:Tok}{Q:GW}(hz:x.length<=sizeLine)
  (h:Q (.ref s.heap.objs.size) {s with heap:=s.heap.push (sj x t ((x.length:Int)-1)),toks:=s.toks+1+1}):wpAny (model prog w) A (call (.type "reversed") [.str x t]) Q E s:=
 callType_new F.rvs_called nofun (F.rvs_typeCall_1 _) (F.rvs_newCall_1 _) (λobj=>F.args_object_init_2 obj _) F.rvs_entry_new (mB x t hz) ⟨⟨_,F8 _ rfl,rfl⟩,h⟩
end
end PySem
namespace L2
open PySem PySem.Spec PyProof.Rows
def dz(env:Env):List (Str×NameKind)->List (Str×Addr)->List (Str×Addr)
 | [],acc=>acc
 | (n,k)::r,acc=>if k==.free then dz env r ((n,(env.cells.lookup n).getD 0)::acc) else dz env r acc
theorem jP{env:Env}:∀(ns:List (Str×NameKind)) (acc:List (Str×Addr)),(∀x∈ns,x.2=.free->∃c,env.cells.lookup x.1=some c) ->
  (forIn ns acc fun(x:Str×NameKind) (cs:List (Str×Addr))=>(if x.2==.free then do
    let c <- cellOf env x.1
    pure (ForInStep.yield ((x.1,c)::cs))
   else pure (ForInStep.yield cs):Sem (ForInStep (List (Str×Addr)))))=pure (dz env ns acc)
 | [],acc,_=>rfl
 | (n,k)::r,acc,h=>by
  have ih:=λa=>jP (env:=env) r a λx hx=>h x (Gh _ hx);rw[List.forIn_cons]
  by_cases hk:k=.free
  ·subst hk
   obtain⟨c,hc⟩:=h (n,.free) q0B rfl;have hc':env.cells.lookup n=some c:=hc;have e1:cellOf env n=pure c:=by unfold cellOf;rw[hc']
   simp only[dz,hc',q0L];show((do let c <- cellOf env n;pure (ForInStep.yield ((n,c)::acc))) >>= _)=_;rw[e1,pure_bind,pure_bind];exact ih _
  ·have b:(k==NameKind.free)=false:=by simpa using hk
   simp only[dz,b,q0a,if_false];rw[pure_bind];exact ih _
theorem gM{env:Env}{scope:Scope}(h:∀x∈scope.names,x.2=.free->∃c,env.cells.lookup x.1=some c) :
  closureFor scope env=pure (dz env scope.names []):=by
 unfold closureFor;have e:=jP (env:=env) scope.names [] h;have a:(forIn scope.names ([]:List (Str×Addr)) λx b=>(match x with
   | (name,kind)=>if kind==.free then do
     let c <- cellOf env name
     pure (ForInStep.yield ((name,c)::b))
    else pure (ForInStep.yield b):Sem (ForInStep (List (Str×Addr)))))=pure (dz env scope.names []):=e
 simp only[]at a ⊢
 first
  | (rw[a];rfl)
  | (erw [a];rfl)
theorem fT{env:Env}:∀{ns:List (Str×NameKind)} {acc:List (Str×Addr)} {x:Str} {c:Addr},(∀y∈ns,y.2=.free->∃c,env.cells.lookup y.1=some c) ->
  (∀y c,acc.lookup y=some c->env.cells.lookup y=some c)->(dz env ns acc).lookup x=some c->env.cells.lookup x=some c
 | [],_,_,_,_,ha,e=>ha _ _ e
 | (n,k)::r,acc,x,c,h,ha,e=>by
  have hr:∀y∈r,y.2=.free->∃c,env.cells.lookup y.1=some c:=λy hy=>h y (Gh _ hy);unfold dz at e
  by_cases hk:k=.free
  ·subst hk
   rw[q07 (by simp)]at e;obtain⟨c',hc⟩:=h (n,.free) q0B rfl;have hc':env.cells.lookup n=some c':=hc;refine fT hr (λy d z=>?_) e;rw[hc',q0L,List.lookup_cons]at z
   by_cases q:y=n
   ·subst q
    simp at z;subst z;exact hc'
   ·have q':(y==n)=false:=by simpa using q
    rw[q']at z;exact ha y d z
  ·rw[q06 (by simpa using hk)]at e
   exact fT hr ha e
theorem kh{env:Env}:∀{ns:List (Str×NameKind)} {acc:List (Str×Addr)} {x:Str},((∃c,acc.lookup x=some c)\/(x,NameKind.free)∈ns)->∃c,(dz env ns acc).lookup x=some c
 | [],_,_,h=>by
  rcases h with h | h
  ·exact h
  ·exact nomatch h
 | (n,k)::r,acc,x,h=>by
  unfold dz
  by_cases hk:k=.free
  ·subst hk
   rw[q07 (by simp)];refine kh ?_
   by_cases q:x=n
   ·subst q
    left
    simp[List.lookup_cons]
   ·have q':(x==n)=false:=by simpa using q
    rcases h with⟨c,h⟩ | h
    ·exact .inl ⟨c,by rw[List.lookup_cons,q'];exact h⟩
    ·rcases Gg.mp h with z | z
     ·cases z
      exact q0Q rfl q
     ·exact .inr z
  ·rw[q06 (by simpa using hk)]
   refine kh ?_;rcases h with h | h
   ·exact .inl h
   ·rcases Gg.mp h with z | z
    ·cases z
     exact q0Q rfl hk
    ·exact .inr z
def qd(scope osc:Scope):Scope:=
 {scope with names:=scope.names.map fun(n,k)=>if(k==.free&&osc.kind==.function&&osc.names.lookup n==some .cell) then(n,.cell) else(n,k)}
def x_(scope osc:Scope):Bool:=
 (scope.kind==.function)&&(osc.kind==.function)&&scope.names.all fun(n,k)=>(k != .free || !scope.names.contains (n,NameKind.cell))&&(k != .local||scope.names.lookup n==some .local) &&
  (k != .free||osc.names.lookup n==some .cell||osc.names.lookup n==some .free)&&(k != .free||(qd scope osc).names.lookup n != some .local)
structure bM(scope osc:Scope):Prop where
 kind:scope.kind=.function
 sep:∀x∈scope.names,x.2=.free->(x.1,NameKind.cell)∉scope.names
 loc:∀x∈scope.names,x.2=.local->scope.names.lookup x.1=some .local
 free:∀x∈scope.names,x.2=.free->osc.names.lookup x.1=some .cell\/osc.names.lookup x.1=some .free
 nl:∀x∈scope.names,x.2=.free->(qd scope osc).names.lookup x.1≠some .local
theorem bM.of{scope osc:Scope}(h:x_ scope osc=true):bM scope osc:=by
 unfold x_ at h;rw[q0O,q0O,GN]at h;obtain⟨⟨h1,h0⟩,h2⟩:=h;refine⟨by simpa using h1,λx a e=>?_,λx a e=>?_,λx a e=>?_,λx a e=>?_⟩
 all_goals
  obtain⟨n,k⟩:=x;have q:=h2 (n,k) a;simp only[q0O,Bool.or_eq_true,bne_iff_ne,beq_iff_eq]at q
 ·have z:=q.1.1.1.resolve_left (λz=>z e)
  simpa using z
 ·exact q.1.1.2.resolve_left (λz=>z e)
 ·rcases q.1.2 with(z | z) | z
  ·exact q0Q e z
  ·exact .inl z
  ·exact .inr z
 ·exact q.2.resolve_left (λz=>z e)
theorem dP{osc:Scope}:∀{ns:List (Str×NameKind)} {x:Str} {k':NameKind},
  (ns.map fun(n,k)=>if(k==NameKind.free&&osc.kind==.function&&osc.names.lookup n==some .cell) then(n,NameKind.cell) else(n,k)).lookup x=some k' ->
  (k'=.cell\/k'=.free)->(x,NameKind.free)∈ns\/(x,NameKind.cell)∈ns
 | [],_,_,h,_=>by simp at h
 | (n,k)::r,x,k',h,hk'=>by
  rw[Gx]at h
  by_cases q:x=n
  ·subst q
   by_cases z:(k==NameKind.free&&osc.kind==.function&&osc.names.lookup x==some .cell)=true
   ·have:k=.free:=by
     simp only[q0O,beq_iff_eq]at z;exact z.1.1
    subst this;exact .inl q0B
   ·simp only[z,q0a,if_false]at h
    rw[List.lookup_cons]at h;simp at h;subst h;rcases hk' with e | e
    ·subst e;exact .inr q0B
    ·subst e;exact .inl q0B
  ·have a:(x==n)=false:=by simpa using q
   refine(dP (osc:=osc) (k':=k') (ns:=r) (x:=x) ?_ hk').imp (Gh _) (Gh _)
   by_cases z:(k==NameKind.free&&osc.kind==.function&&osc.names.lookup n==some .cell)=true
   ·simp only[z,if_true]at h
    rw[List.lookup_cons,a]at h;exact h
   ·simp only[z,q0a,if_false]at h
    rw[List.lookup_cons,a]at h;exact h
theorem gK:∀(ns:List (Str×NameKind)) (n:Nat) (acc:List (Str×Addr)),cellsFrom n ns acc=cellsFrom n ns []++acc
 | [],_,_=>rfl
 | (x,k)::r,n,acc=>by
  unfold cellsFrom
  split
  ·rw[gK r (n+1) ((x,n)::acc),gK r (n+1) [(x,n)],GC];rfl
  ·exact gK r n acc
theorem pc:∀{ns:List (Str×NameKind)} {n:Nat} {x:Str} {c:Addr},(x,c)∈cellsFrom n ns []->(x,NameKind.cell)∈ns
 | [],_,_,_,h=>nomatch h
 | (y,k)::r,n,x,c,h=>by
  unfold cellsFrom at h
  split at h
  ·rename_i hk
   rw[gK]at h;rcases Gd.mp h with h | h
   ·exact Gh _ (pc h)
   ·cases F4.mp h
    have:k=.cell:=by simpa using hk
    subst this;exact q0B
  ·exact Gh _ (pc h)
theorem oH:∀{ns:List (Str×NameKind)} {n:Nat} {x:Str} {acc:List (Str×Addr)},((x,NameKind.cell)∈ns\/∃c,acc.lookup x=some c)->∃c,(cellsFrom n ns acc).lookup x=some c
 | [],_,_,_,h=>h.elim (λz=>nomatch z) id
 | (y,k)::r,n,x,acc,h=>by
  unfold cellsFrom
  split
  ·refine oH ?_
   by_cases q:x=y
   ·subst q
    exact .inr ⟨n,by simp[List.lookup_cons]⟩
   ·have q':(x==y)=false:=by simpa using q
    rcases h with h | ⟨c,h⟩
    ·rcases Gg.mp h with z | z
     ·cases z;exact q0Q rfl q
     ·exact .inl z
    ·exact .inr ⟨c,by rw[List.lookup_cons,q'];exact h⟩
  ·rename_i hk
   refine oH ?_;rcases h with h | h
   ·rcases Gg.mp h with z | z
    ·cases z;exact q0Q rfl hk
    ·exact .inl z
   ·exact .inr h
def cZ(env:Env)(scope:Scope)(C:Addr):List (Str×Addr):=cellsFrom (C+1) scope.names (dz env scope.names [])
theorem iM:∀{ns:List (Str×NameKind)} {n:Nat} {x:Str} {c:Addr},(x,c)∈cellsFrom n ns []->n<=c
 | [],_,_,_,h=>nomatch h
 | (y,k)::r,n,x,c,h=>by
  unfold cellsFrom at h
  split at h
  ·rw[gK]at h
   rcases Gd.mp h with h | h
   ·exact Gy (Nat.le_succ _) (iM h)
   ·cases F4.mp h
    exact Gq _
  ·exact iM h
theorem lO:∀{ns:List (Str×NameKind)} {n:Nat},(cellsFrom n ns []).Pairwise λx y=>x.2≠y.2
 | [],_=>List.Pairwise.nil
 | (y,k)::r,n=>by
  unfold cellsFrom
  split
  ·rw[gK]
   refine List.pairwise_append.mpr ⟨lO,by simp,λa ha b hb e=>?_⟩;cases F4.mp hb;have:=iM (x:=a.1) (c:=a.2) ha;rw[e]at this;exact q0Q this (Nat.not_succ_le_self _)
  ·exact lO
theorem gv{env:Env}{scope:Scope}{C:Addr}{x:Str}{c:Addr}(h:(cZ env scope C).lookup x=some c) :
  ((x,c)∈cellsFrom (C+1) scope.names []/\C<c/\(x,NameKind.cell)∈scope.names)\/((cellsFrom (C+1) scope.names []).lookup x=none/\(dz env scope.names []).lookup x=some c):=by
 unfold cZ at h;rw[gK,List.lookup_append]at h;cases q:(cellsFrom (C+1) scope.names []).lookup x with
 |none=>rw[q]at h;exact .inr ⟨rfl,h⟩
 |some d=>
  rw[q]at h;cases h;have:=mem_of_lookup q;exact .inl ⟨this,iM this,pc this⟩
theorem xf{ns:List (Str×NameKind)}{n:Nat}{x:Str}(h:(x,NameKind.cell)∉ns):(cellsFrom n ns []).lookup x=none:=by
 cases q:(cellsFrom n ns []).lookup x with
 |none=>rfl
 |some d=>exact q0Q (pc (mem_of_lookup q)) h
section
variable {M:Model}{A:G7}{E:GW}{s:G0}
theorem dC{scope:Scope}{globals:Addr}{closure:List (Str×Addr)}{qual:Str}{func:G9}{code:Value}{outer:Env}{builtins:Addr}{Q:Env->Shared->Prop}
  (hQ:Q (newEnv scope s.heap.objs.size globals (cellsFrom (s.heap.objs.size+1) scope.names closure) qual func code (some outer) builtins) {s with heap:=pushCells (s.heap.push {cls:=.type "dict",data:=.dict #[]}) scope.names}) :
  wpAny M A (newFunctionEnv scope globals closure [] qual func code (some outer) builtins) Q E s:=by
 simp only[newFunctionEnv,Option.isSome_some,if_true];simp only[newEnv]at hQ;refine q04 (wpAny_alloc ?_);refine q04 (wpAny_layCells _ (λname a cells=>by cases b:a==NameKind.cell<;>simp[b]) _ _ _ _ ?_);rw[show({s with heap:=s.heap.push {cls:=.type "dict",data:=.dict #[]} }:Shared).heap.objs.size=s.heap.objs.size+1 from Heap.size_push ..];rw[List.forIn_nil];exact q04 (q05 (q05 hQ))
end
def Cx.blk(X:Cx)(N':G6)(s₂:G0)(H₂:Hp)(scope:Scope)(fp:G2)(C:Addr):Cx where
 prog:=X.prog
 w:=X.w
 K:=X.K
 mg:=X.mg
 base:=X.base
 A:=X.A
 N:=N'
 s₀:=s₂
 H₀:=H₂
 env:=compEnvC scope (cZ X.env scope C) C X.env
 outer:=X.stack
 stack:=X.stack
 ex:=fp
 fn:=λx=>scope.names.contains (x,NameKind.cell)
 calm:=X.calm
 pn:=[]
 xe:=λ_ _=>False
def m6(k:Nat)(js:GZ)(σ:St):St:=List.replicate k none++js.map λj=>(σ[j]?).join
def lN(own:G6)(js:GZ)(N:G6):List Str:=own++js.map λj=>N.getD j Str.empty
section
variable {X:Cx}
theorem Inv.capFree{pins:GY}{σ:St}{H:Hp}{s:G0}{scope:Scope}(I:Inv X pins σ H s)(hk:bM scope X.env.scope):∀x∈scope.names,x.2=.free->∃c,X.env.cells.lookup x.1=some c:=
 λx hx e=>I.ok.has x.1 (hk.free x hx e)
theorem Inv.capL{pins:GY}{σ:St}{H:Hp}{s:G0}{scope:Scope}{x:Str}{c:Addr}(I:Inv X pins σ H s)(hk:bM scope X.env.scope)(e:(dz X.env scope.names []).lookup x=some c):X.env.cells.lookup x=some c:=
 fT (I.capFree hk) (λ_ _ z=>by simp at z) e
theorem Inv.blkL{pins:GY}{σ:St}{H:Hp}{s:G0}{scope:Scope}{C:Addr}{x:Str}{c:Addr}(I:Inv X pins σ H s)(hk:bM scope X.env.scope)(e:(cZ X.env scope C).lookup x=some c) :
  ((x,c)∈cellsFrom (C+1) scope.names []/\C<c/\(x,NameKind.cell)∈scope.names)\/X.env.cells.lookup x=some c:=
 (gv e).imp id λz=>I.capL hk z.2
theorem BT{pins:GY}{σ:St}{H:Hp}{s:G0}{N':G6}{scope:Scope}{fp:G2}{C:Addr}(I:Inv X pins σ H s)(hk:bM scope X.env.scope)(hC:s.heap.objs.size<=C)
  (hf:∀b∈fp,jX X pins H b) (ho:∀b∈fp,∃o,s.heap.get? b=some o):(X.blk N' s H scope fp C).Ok where
 mod:=I.ok.mod
 kind:=hk.kind
 glob:=I.ok.glob
 blt:=I.ok.blt
 above:=hC
 inj:=λx y c e1 e2=>by
  have low:∀z,X.env.cells.lookup z=some c->c<C:=λz e=>by
   obtain⟨v,q⟩:=I.cell z c e;exact Gk q.lt hC
  rcases I.blkL hk e1 with⟨a1,a2,_⟩ | a<;>rcases I.blkL hk e2 with⟨b1,b2,_⟩ | b
  ·exact name_of_addr lO a1 b1
  ·exact q0Q (low _ b) (Nat.not_lt.mpr (q0P a2))
  ·exact q0Q (low _ a) (Nat.not_lt.mpr (q0P b2))
  ·exact I.ok.inj x y c a b
 has:=λx h=>by
  refine oH ?_;have z:(x,NameKind.free)∈scope.names\/(x,NameKind.cell)∈scope.names:=by
   rcases h with h | h
   ·exact dP (osc:=X.env.scope) h (.inl rfl)
   ·exact dP (osc:=X.env.scope) h (.inr rfl)
  rcases z with z | z
  ·exact .inr (kh (.inr z))
  ·exact .inl z
 cab:=λx c z e=>by
  have k:(x,NameKind.cell)∈scope.names:=by
   have j:scope.names.contains (x,NameKind.cell)=true:=z
   simpa using j
  have i:(cZ X.env scope C).lookup x=some c:=e;rcases gv i with⟨_,a,_⟩ | ⟨a,_⟩
  ·exact Gy hC (q0P a)
  ·obtain⟨d,q⟩:=oH (n:=C+1) (acc:=[]) (.inl k)
   rw[a]at q;cases q
 hd:=I.ok.hd
 frames:=I.ok.frames
 stk:=.inl rfl
 exf:=λb g=>⟨λe=>by
  obtain⟨o,q⟩:=ho b g;have i:b=C:=e;rw[i]at q;exact q0Q (Gu q) (Nat.not_lt.mpr hC),λx c e=>by
  rcases I.blkL hk e with⟨_,a,_⟩ | a
  ·obtain⟨o,q⟩:=ho b g
   intro z;rw[z]at a;exact q0Q (Gk (Gu q) hC) (Nat.not_lt.mpr (q0P a))
  ·exact(hf b g).2.2.2.2.1 x c a⟩
 bs:=I.bs
 bsz:=Gy I.ok.bsz I.sz
 noex:=λb o e g=>by
  rcases(hf b g).2.2.2.1 with z | z
  ·exact I.ok.noex b o e z
  ·exact q0Q (Gu (I.ok.bs b o e).1) (Nat.not_lt.mpr z)
 exfs:=λb g l=>by
  rcases Gg.mp (I.stkSub b l) with z | z
  ·exact(hf b g).2.1 z
  ·exact(hf b g).2.2.1 z
 funs:=I.stack
 frf:=I.stkFree
theorem vy{pins:GY}{σ:St}{H:Hp}{s s1:G0}{own:G6}{js:GZ}{scope:Scope}{fp:G2}{C:Addr}{m:G3}(I:Inv X pins σ H s)(hk:bM scope X.env.scope)(hC:s.heap.objs.size<=C)
  (hf:∀b∈fp,jX X pins H b) (ho:∀b∈fp,∃o,s.heap.get? b=some o) (hos:s1.os=s.os) (hg:s1.gens=s.gens) (hn:s1.heap.Ns C m) (keep:∀b o,s.heap.get? b=some o->s1.heap.get? b=some o)
  (hown:∀x c,(x,c)∈cellsFrom (C+1) scope.names []->s1.heap.IsCell c none) (hcap:(js.all λj=>scope.names.contains (X.N.getD j Str.empty,NameKind.free))=true) :
  Inv (X.blk (lN own js X.N) s H scope fp C) [] (m6 own.length js σ) H s1:=by
 have cl:=fun{x:Str} {c:Addr} (e:(dz X.env scope.names []).lookup x=some c)=>fT (I.capFree hk) (λ_ _ z=>by simp at z) e;refine⟨BT I hk hC hf ho,hos,hg▸I.bare,Un.kept keep,⟨m,hn,λi x v e1 Z Y=>?_⟩,λx c e=>?_,I.hok.fresh hC,λx c e=>(I.blkL hk e).elim (λz=>I.hok.fresh (Gy hC (q0P z.2.1))) λz=>I.freeC x c z,λp O=>(nomatch O),I.hok.kept keep,?_⟩
 ·have d:(own++js.map λj=>X.N.getD j Str.empty)[i]?=some x:=e1
  have a:(List.replicate own.length none++js.map λj=>(σ[j]?).join)[i]?=some (some v):=Z
  by_cases y:i<own.length
  ·rw[Go (by rw[List.length_replicate];exact y),List.getElem?_replicate,q07 y]at a
   cases a
  ·have k:own.length<=i:=Nat.le_of_not_lt y
   rw[Gn (by rw[List.length_replicate];exact k),List.length_replicate,F5]at a;rw[Gn k,F5]at d;cases B:js[i-own.length]? with
   |none=>rw[B]at d;cases d
   |some j=>
    rw[B]at d a;have J:X.N.getD j Str.empty=x:=q0S d;have n:(σ[j]?).join=some v:=q0S a;have G:σ[j]?=some (some v):=by
     cases q:σ[j]? with
     |none=>rw[q]at n;cases n
     |some z=>rw[q]at n;simp at n;rw[n]
    have w:j<X.N.length:=by rw[<- I.len];exact(F0.mp G).1
    have T:X.N[j]?=some x:=by rw[<- J,q0A,FZ w];rfl
    have r:(x,NameKind.free)∈scope.names:=by
     have q:=GN.mp hcap j (F6 B);rw[J]at q
     simpa using q
    have D:=hk.free _ r rfl;obtain⟨mo,hno,R⟩:=I.loc;obtain⟨u,L,M⟩:=R j x v T G (D.elim (λz=>.inr (.inl z)) λz=>.inr (.inr z));refine⟨u,L,?_⟩;rcases M with⟨g,_⟩ | ⟨g,c,U,S⟩
    ·rcases D with z | z
     ·rw[show X.env.kindOf x=X.env.scope.names.lookup x from rfl,z]at g;cases g
     ·rw[show X.env.kindOf x=X.env.scope.names.lookup x from rfl,z]at g;cases g
    ·obtain⟨c',l⟩:=kh (env:=X.env) (ns:=scope.names) (acc:=[]) (x:=x) (.inr r)
     have:=cl l;rw[U]at this;cases this;refine .inr ⟨?_,c,?_,S.keeps keep⟩
     case refine_2=>
      show(cZ X.env scope C).lookup x=some c;unfold cZ;rw[gK,List.lookup_append,xf (hk.sep _ r rfl)];exact l
     -- its kind within the block
     rcases Y with z | z | z
     ·exact q0Q z (hk.nl _ r rfl)
     ·exact .inl z
     ·exact .inr z
 ·rcases I.blkL hk e with z | z
  ·exact⟨none,hown x c z.1⟩
  ·obtain⟨v,z⟩:=I.cell x c z
   exact⟨v,z.keeps keep⟩
 ·show(List.replicate own.length none++js.map λj=>(σ[j]?).join).length=(own++js.map λj=>X.N.getD j Str.empty).length
  simp
def Ay(env:Env)(ifs:Ha):Sem Bool:=forIn ifs true λc r=>if r=true then do let ok <- isTrue c env (eval c env);pure (ForInStep.yield ok) else pure (ForInStep.yield r)
theorem pi{prog:G5}{w:G8}{A:G7}{R:Result->Shared->Prop}{s:G0}{elt target iter:Expr}{ifs:Ha}{scope:Scope}{pos:Pos}{it acc:Value}{env:Env}(I:Nat->Shared->Prop)
  (turn:∀n s,I n s->wpAny (model prog w) A (pyNext it) (λr s₁=>match r with
   |none=>R (.ok .next) s₁
   |some v=>wpAny (model prog w) A (letOwnedTupleGo target it v) (λ_ s₁'=>wpAny (model prog w) A (assign target env v) (λ_ s₂=>
     wpAny (model prog w) A (Ay env ifs) (λok s₃=>
      if ok=true then wpAny (model prog w) A (eval elt env) (λx s₄=>
       wpAny (model prog w) A (call (.builtin "list.append") [acc,x]) (λ_ s₅=>∃m,m<n/\I m s₅) (λ_ _=>False) s₄) (λ_ _=>False) s₃
      else ∃m,m<n/\I m s₃) (λ_ _=>False) s₂) (λ_ _=>False) s₁') (λ_ _=>False) s₁) (λ_ _=>False) s)
  (n:Nat) (h:I n s) :
  codeAny (model prog w) A (.compLoop (.ListComp elt [⟨target,iter,ifs,0⟩] scope pos) 0 it acc env) R s:=by
 refine codeAny_loop rfl I (λn s k=>?_) n h;show wpAny _ A ((compTurn (.ListComp elt [⟨target,iter,ifs,0⟩] scope pos) 0 it acc env).onRaise (λx=>do noteFrame x env;theTreesLotGoes x)) _ _ s;refine wpAny_noted ?_;rw[compTurn_list];have up:∀{α:Type} {t:Sem α} {Q Q':α->Shared->Prop} {E':GW} {s:G0},wpAny (model prog w) A t Q (λ_ _=>False) s->(∀a s,Q a s->Q' a s)->wpAny (model prog w) A t Q' E' s:=
  λh j=>q0X h j λ_ _ f=>f.elim
 refine q04 (wpAny_standAt (q04 (up (turn n s k) λr s₁ d=>?_)));cases r with
 |none=>exact q05 d
 |some v=>
  refine q04 (up d λ_ s₁' b=>q04 (up b λ_ s₂ i=>q04 (up i λok s₃ c=>?_)));cases ok with
  |false=>exact q05 ⟨rfl,c⟩
  |true=>
   exact q04 (q04 (up c λx s₄ g=>q04 (up g λ_ s₅ e=>q05 (q05 ⟨rfl,e⟩))))
def Cl(X:Cx)(ifs:Ha)(t:TT):Prop:=
 ∀(pins:GY) (s:G0) (σ:St) (H:Hp) (Q:Bool->Hp->Prop),Inv X pins σ H s->t σ H Q->wpAny (model X.prog X.w) X.A (Ay X.env ifs) (TP X pins σ Q) X.xe s
def yz:TT:=λ_ H Q=>Q true H
theorem cU{X:Cx}:Cl X [] yz:=λpins s σ H Q I h=>wpAny_tests_nil ⟨H,I,h⟩
theorem pK{X:Cx}{c:Expr}{t:TT}(h:PT X c t):Cl X [c] t:=λpins s σ H Q I q=>wpAny_tests_one (h pins s σ H Q I q)
def gq(J:It)(g:TG)(ti:TT)(te:TE)(σ:St)(H:Hp)(Q:List V->Hp->Prop):Prop:=
 ∃W:Nat->Nat->List V->St->Hp->Prop,(∃m,W 0 m [] σ H)/\∀i m acc σ' H',W i m acc σ' H' ->
  acc.length<sizeLine/\((J.stop i H'/\Q acc H') \/
   (J.go i H'/\∃N:List V->St->Hp->Prop,(∀acc' σ2 H2,N acc' σ2 H2->∃m',m'<m/\W (i+1) m' acc' σ2 H2) /\
    ∀x H2,J.yld i H' x H2->g x σ' H2 λσ2 H3=>ti σ2 H3 λb H4=>if b=true then te σ2 H4 λv H5=>N (acc++[v]) σ2 H5 else N acc σ2 H4))
def uz(k:Nat)(js:GZ)(wi:TI)(g:TG)(ti:TT)(te:TE):TE:=λσ H Q=>wi σ H λJ H1=>gq J g ti te (m6 k js σ) H1 λacc H'=>∀l,H' l=none->Q (.ref l) (aB H' l (.lst acc))
abbrev fj(its:G1)(n:Nat):Obj:={cls:=.type "list",data:=.seq its.toArray n}
theorem mO{pins:GY}{σ:St}{H:Hp}{s:G0}{elt tg iter:Expr}{ifs:Ha}{scope:Scope}{pos:Pos}{own:G6}{js:GZ}{g:TG}{ti:TT}{te:TE}{J:It}{fp:G2}{it:Addr}{tn:Nat->Heap->Prop}{Q:List V->Hp->Prop}{E:GW}
  {RR:Value->Addr->Result->Shared->Prop} (hc:X.calm=true) (hk:bM scope X.env.scope) (hcap:(js.all λj=>scope.names.contains (X.N.getD j Str.empty,NameKind.free))=true)
  (hg:∀s H fp C,PG (X.blk (lN own js X.N) s H scope fp C) tg g) (hi:∀s H fp C,Cl (X.blk (lN own js X.N) s H scope fp C) ifs ti) (he:∀s H fp C,PE (X.blk (lN own js X.N) s H scope fp C) elt te)
  (I:Inv X pins σ H s) (T:q9 X.prog X.w X.K tg J fp it tn) (st:tn 0 s.heap) (hf:∀b∈fp,jX X pins H b)
  (hW:gq J g ti te (m6 own.length js σ) H Q)
  (hRR:∀(D C:Addr) (s':G0) (H':Hp) (acc:List V) (m:G3),Q acc H'->H' D=none->Inv X pins σ (aB H' D (.lst acc)) s'->s'.heap.Ns C m->aB H' D (.lst acc) C=none->C≠X.env.locals->X.s₀.heap.objs.size<=C ->
   (∀x c,X.env.cells.lookup x=some c->c≠C)->(∀p∈X.pn++pins,p.1≠C)->RR (.ref D) C (.ok .next) s') :
  wpAny (model X.prog X.w) X.A (newList []) (λacc s₃=>wpAny (model X.prog X.w) X.A (newFunctionEnv scope X.env.globals (dz X.env scope.names []) [] X.env.qual none .none (some X.env)) (λcenv s₄=>
   codeAny (model X.prog X.w) X.A (.compStart (.ListComp elt [⟨tg,iter,ifs,0⟩] scope pos) 0 (.ref it) acc {cenv with scope:=relabel scope X.env}) (RR acc cenv.locals) s₄) E s₃) E s:=by
 obtain⟨W,⟨m0,w0⟩,c1⟩:=hW;refine wpAny_newObj_type (dC ?_);dsimp only;generalize b4:s.heap.push {cls:=.type "list",dict:=none,data:=.seq ([]:List Value).toArray}=H2;generalize e2:pushCells (H2.push {cls:=.type "dict",data:=.dict #[]}) scope.names=h₁;have b1:∀b o,(H2.push {cls:=.type "dict",data:=.dict #[]}).get? b=some o->h₁.get? b=some o:=λb o e=>e2▸pushCells_keeps _ _ b o e;have e0:h₁.Ns H2.objs.size λ_=>none:=by
  have q:(H2.push {cls:=.type "dict",data:=.dict #[]}).Ns H2.objs.size λ_=>none:=Heap.Ns.new ..;exact q.at' λo e=>b1 _ o e
 have b2:∀x c,(x,c)∈cellsFrom (H2.objs.size+1) scope.names []->h₁.IsCell c none:=λx c e=>by
  have ok:=cellsFrom_ok scope.names (H2.push {cls:=.type "dict",data:=.dict #[]}) (H2.objs.size+1) [] ⟨λ_ _ hm=>(nomatch hm),List.Pairwise.nil⟩ (by rw[Heap.size_push];exact Gq _);rw[Heap.size_push,e2]at ok;exact(ok.empty x c e).1
 have hC:H2.objs.size=s.heap.objs.size+1:=by rw[<- b4,Heap.size_push]
 have b6:s.heap.objs.size≠H2.objs.size:=by rw[hC];exact Gm (GA _)
 have L:s.heap.objs.size<=H2.objs.size:=by rw[hC];exact Nat.le_succ _
 have c0:∀b,b<s.heap.objs.size->b≠H2.objs.size/\b≠s.heap.objs.size:=λb l=>⟨by rw[hC];exact Gm (Nat.lt_succ_of_lt l),Gm l⟩;have d1:∀b o,s.heap.get? b=some o->h₁.get? b=some o:=λb o e=>b1 b o (F1 _ (b4▸F1 _ e));have e3:h₁.get? s.heap.objs.size=some (fj [] 0):=b1 _ _ (F1 _ (b4▸F8 _ rfl));have a0:∀b∈fp,∃o,s.heap.get? b=some o:=λb l=>let ⟨o,e,_⟩:=T.obj 0 _ st b l;⟨o,e⟩
 have c2:tn 0 h₁:=T.keep 0 _ _ st λb _ o e=>d1 b o e;generalize B:X.blk (lN own js X.N) s H scope fp H2.objs.size=Xb;have I₁:Inv Xb [] (m6 own.length js σ) H {s with heap:=h₁}:=B▸vy I hk L hf a0 rfl rfl e0 d1 b2 hcap;have eP:Xb.prog=X.prog:=by rw[<- B];rfl
 have ew:Xb.w=X.w:=by rw[<- B];rfl
 have eK:Xb.K=X.K:=by rw[<- B];rfl
 have eA:Xb.A=X.A:=by rw[<- B];rfl
 have ec:Xb.calm=true:=by rw[<- B];exact hc
 have eE:Xb.env=compEnvC scope (cZ X.env scope H2.objs.size) H2.objs.size X.env:=by rw[<- B];rfl
 have ex:Xb.xe=λ_ _=>False:=by rw[<- B];rfl
 have es:Xb.s₀=s:=by rw[<- B];rfl
 have eh:Xb.H₀=H:=by rw[<- B];rfl
 have ef:Xb.fs=tj X.stack:=by rw[<- B];rfl
 have e6:Xb.ex=fp:=by rw[<- B];rfl
 have ep:Xb.pn=[]:=by rw[<- B];rfl
 have eL:Xb.env.locals=H2.objs.size:=by rw[eE];rfl
 have f6:H s.heap.objs.size=none:=I.hok.fresh (Gq _)
 -- D is no iterator's,no frame's
 have e4:∀b∈fp,b≠s.heap.objs.size:=λb l e=>by
  obtain⟨o,q⟩:=a0 b l;rw[e]at q;exact q0Q (Gu q) (Gz _)
 have f5:s.heap.objs.size∉Xb.fs:=λz=>by
  rw[ef]at z;rcases Gg.mp (I.stkSub _ z) with q | q
  ·exact q0Q I.lt (by rw[<- q];exact Gz _)
  ·exact I.nofs (Gq _) q
 have a5:∀x c,Xb.env.cells.lookup x=some c->c≠s.heap.objs.size:=λx c e q=>by
  rcases I.blkL hk (C:=H2.objs.size) (x:=x) (c:=c) (by rw[eE]at e;exact e) with⟨_,z,_⟩ | z
  ·rw[q]at z
   exact q0Q L (Nat.not_le.mpr z)
  ·obtain⟨v,o,ho,_⟩:=I.cell x c z
   rw[q]at ho;exact q0Q (Gu ho) (Gz _)
 have R:∀{pl:GY} {H':Hp},(∀b∈fp,H' b=none)->(∀p∈pl,p.1=s.heap.objs.size)->∀b∈fp,jX Xb pl H' b:=λhn S b l=>by
  refine⟨hn b l,?_,?_,.inl (by rw[e6];exact l),λx c e=>?_,λp d6=>?_⟩
  ·rw[eL];exact(c0 b (let ⟨o,q⟩:=a0 b l;Gu q)).1
  ·rw[ef];intro z
   rcases Gg.mp (I.stkSub b z) with q | q
   ·exact(hf b l).2.1 q
   ·exact(hf b l).2.2.1 q
  ·rcases I.blkL hk (C:=H2.objs.size) (x:=x) (c:=c) (by rw[eE]at e;exact e) with⟨_,z,_⟩ | z
   ·intro q
    rw[q]at z;obtain⟨o,q2⟩:=a0 b l;exact q0Q (Gk (Gu q2) L) (Nat.not_lt.mpr (q0P z))
   ·exact(hf b l).2.2.2.2.1 x c z
  ·rw[ep,GQ]at d6
   rw[S p d6];exact(e4 b l).symm
 have a6:∀s₃:Shared,s₃={s with heap:=h₁} ->
   codeAny (model X.prog X.w) X.A (.compLoop (.ListComp elt [⟨tg,iter,ifs,0⟩] scope pos) 0 (.ref it) (.ref s.heap.objs.size) (compEnvC scope (cZ X.env scope H2.objs.size) H2.objs.size X.env))
    (RR (.ref s.heap.objs.size) H2.objs.size) s₃:=by
  rintro s₃ rfl;refine pi (λn s'=>∃(i:Nat) (acc:List V) (a:G1) (k:Nat) (σ':St) (H':Hp),Inv Xb [] σ' H' s'/\tn i s'.heap/\(∀b∈fp,H' b=none)/\H' s.heap.objs.size=none/\s'.heap.get? s.heap.objs.size=some (fj a k)/\aQ acc a/\W i n acc σ' H')
   ?_ m0 ⟨0,[],[],0,_,H,I₁,c2,λb l=>(hf b l).1,f6,e3,.nil,w0⟩
  rintro n s' ⟨i,acc,a,k,σ',H',I',c9,e5,M,e9,Z,w'⟩;obtain⟨e1,tt⟩:=c1 i n acc σ' H' w'
  -- the gathered list,pinned
  have Ip:Inv Xb [(s.heap.objs.size,fj a k)] σ' H' s':=I'.pins_of λp S=>by
   have e:p=(s.heap.objs.size,fj a k):=by simpa using S
   subst e;exact⟨e9,M,by rw[eL];exact b6,f5,λv z=>by cases z⟩
  have b0:∀p∈[(s.heap.objs.size,fj a k)],p.1=s.heap.objs.size:=λp S=>by
   have e:p=(s.heap.objs.size,fj a k):=by simpa using S
   rw[e]
  rcases tt with⟨c6,q⟩ | ⟨go,N,hN,step⟩
  ·have d:=T.done Xb eP ew eK ec i _ s' σ' H' (λ_ _=>False) Ip (R e5 b0) c9 c6
   rw[eA]at d;refine q0X d (λr s1 hr=>?_) λ_ _ z=>z;obtain⟨rfl,I1⟩:=hr;have e8:s1.heap.get? s.heap.objs.size=some (fj a k):=(I1.pin _ (q0C _ (F4.mpr rfl))).1;obtain⟨mC,b3,_⟩:=I1.loc;rw[eL]at b3;obtain⟨oC,_,_,hoC,_⟩:=id b3;have f7:H' H2.objs.size=none:=by have:=I1.free;rwa [eL]at this
   have ub:Un (tj X.stack) fp H H' s.heap s1.heap:=by have:=I1.base;rwa [ef,e6,eh,es]at this
   refine hRR _ _ s1 H' acc mC q M ?_ b3 ?_ ?_ ?_ ?_ ?_
   ·-- fc outside
    refine I.call' (ch:=fp) (by have:=I1.os;rwa [es]at this) ⟨λb o e n1 h1 h2=>ub.keep b o e n1 h1 h2,λb o e n1 h1 h2=>ub.slot b o e n1 h1 h2,λb o e n1 h1=>?_,ub.there,λb xs e=>?_,λb o u e=>?_,λb ps e=>?_⟩ ?_ (by have:=I1.bare;exact this) λb l=>?_
    ·rw[ai (λz=>by rw[z]at e;exact q0Q (Gu e) (Gz _))]
     exact ub.free b o e n1 h1
    ·rw[ai (ax (ub.tups b xs e) M)]
     exact ub.tups b xs e
    ·rw[ai (ax (ub.frzs b o u e) M)]
     exact ub.frzs b o u e
    ·obtain⟨more,z⟩:=ub.tbls b ps e
     exact⟨more,by rw[ai (ax z M)];exact z⟩
    ·intro b u e
     have a7:=I1.hok;rw[eP,ew]at a7
     by_cases l:b=s.heap.objs.size
     ·subst l
      rw[af]at e;cases e;exact⟨q0P e1,a,k,Z,e8⟩
     ·rw[ai l]at e
      refine(a7 b u e).stay (λc v _ z=>z) (λc z=>?_) λc xs z=>?_
      ·rw[ai (ax z M)];exact z
      ·rw[ai (ax z M)];exact z
    ·exact⟨(hf b l).2.2.2.1,(hf b l).2.1,(hf b l).2.2.2.2.1,(hf b l).2.2.2.2.2⟩
   ·rw[ai b6.symm];exact f7
   ·intro z;have:=I.lt;rw[<- z]at this;exact q0Q this (Nat.not_lt.mpr L)
   ·exact Gy I.sz L
   ·intro x c e z
    obtain⟨v,o,ho,_⟩:=I.cell x c e;rw[z]at ho;exact q0Q (Gu ho) (Nat.not_lt.mpr L)
   ·intro p S z
    have:=(I.pin p S).1;rw[z]at this;exact q0Q (Gu this) (Nat.not_lt.mpr L)
  ·have d:=T.item Xb eP ew eK ec i _ s' σ' H' (λ_ _=>False) Ip (R e5 b0) c9 go
   rw[eA]at d;refine q0X d (λr s1 hr=>?_) λ_ _ z=>z;obtain⟨u,rfl,d2⟩:=hr;refine q0X d2 (λ_ s2 f4=>?_) λ_ _ z=>z;obtain⟨x,e7,I2,r2,y2,a9,f8⟩:=f4;have f9:=I2.pinned (R f8 b0) (T.obj _ _ a9);have G:=B▸hg s H fp H2.objs.size;have d3:=G _ s2 σ' e7 x u _ f9 r2 (step x e7 y2);rw[eP,ew,eA,ex,eE]at d3;refine q0X d3 (λ_ s3 f3=>?_) λ_ _ z=>z;obtain⟨σ3,H3,I3,q3⟩:=f3;have Gi:=B▸hi s H fp H2.objs.size;have d4:=Gi _ s3 σ3 H3 _ I3 q3;rw[eP,ew,eA,ex,eE]at d4;refine q0X d4 (λb s4 f1=>?_) λ_ _ z=>z;obtain⟨H4,I4,q4⟩:=f1;have U:∀{O:G0} {Y:Hp} {σ5:St},Inv Xb ([(s.heap.objs.size,fj a k)]++lC fp s2.heap) σ5 Y O->O.heap.get? s.heap.objs.size=some (fj a k)/\Y s.heap.objs.size=none/\tn (i+1) O.heap/\∀b∈fp,Y b=none:=fun{O Y σ5} I5=>by
    have pD:=I5.pin (s.heap.objs.size,fj a k) (q0C _ (q0D _ (F4.mpr rfl)));refine⟨pD.1,pD.2.1,T.keep _ _ _ a9 λb l o e=>(I5.pin (b,o) (q0C _ (q0C _ (f_ l e)))).1,λb l=>?_⟩;obtain⟨o,e,_⟩:=T.obj _ _ a9 b l;exact(I5.pin (b,o) (q0C _ (q0C _ (f_ l e)))).2.1
   have bare:∀{O:G0} {Y:Hp} {σ5:St} {pl:GY},Inv Xb pl σ5 Y O->Inv Xb [] σ5 Y O:=λI5=>I5.pins_of λp S=>nomatch S;cases b with
   |false=>
    obtain⟨m',hm,w5⟩:=hN _ _ _ q4;obtain⟨a1,a2,a3,a4⟩:=U I4;exact⟨m',hm,i+1,acc,a,k,σ3,H4,bare I4,a3,a4,a2,a1,Z,w5⟩
   |true=>
    have Ge:=B▸he s H fp H2.objs.size;have d5:=Ge _ s4 σ3 H4 _ I4 q4;rw[eP,ew,eA,ex,eE]at d5;refine q0X d5 (λy O f0=>?_) λ_ _ z=>z;obtain⟨v,Y,I5,r5,q5⟩:=f0;obtain⟨m',hm,w5⟩:=hN _ _ _ q5;obtain⟨a1,a2,a3,a4⟩:=U I5;have hl:=Z.length;refine call_meets F.slot_list_append ⟨_,a1,rfl⟩ F.entry_list_append (F.args_list_append_2 _ _) (PySem.list_append s.heap.objs.size a.toArray k y (by rw[F9];omega)) ⟨a1,?_⟩;have qu:=PySem.IsL.update a1 (λa8=>a8.push y);have qe:(a.toArray.push y)=(a++[y]).toArray:=by simp
    rw[qe]at qu;have I6:Inv Xb [] σ3 Y {O with heap:=O.heap.update s.heap.objs.size (Obj.mapSeq λa8=>a8.push y),toks:=O.toks}:=
     (bare I5).turned (λb o l e=>(F7 O.heap _ (Ne.symm l)).trans e) a2 (by rw[eL];exact b6) (.inr (by rw[es];exact Gq _)) a5 (by rw[ep];intro p S;exact nomatch S)
    refine⟨m',hm,i+1,acc++[v],a++[y],_,σ3,Y,I6,T.keep _ _ _ a3 (λb l o e=>(F7 O.heap _ (e4 b l).symm).trans e),a4,a2,qu,Z.append (.cons r5 .nil),w5⟩
 refine codeAny_compStart_list (a6 _ rfl) ?_;exact T.self _ 0 _ _ _ c2 (a6 _ rfl)
theorem cO{elt tg iter:Expr}{ifs:Ha}{scope:Scope}{pos:Pos}(own:G6)(js:GZ){wi:TI}{g:TG}{ti:TT}{te:TE}(hc:X.calm=true)(hk:bM scope X.env.scope)
  (hcap:(js.all λj=>scope.names.contains (X.N.getD j Str.empty,NameKind.free))=true) (hw:PI X tg iter wi)
  (hg:∀s H fp C,PG (X.blk (lN own js X.N) s H scope fp C) tg g) (hi:∀s H fp C,Cl (X.blk (lN own js X.N) s H scope fp C) ifs ti) (he:∀s H fp C,PE (X.blk (lN own js X.N) s H scope fp C) elt te)
  (hs:autoParam (∀x,foldedSetIterable iter X.env x=pure x) zz4._auto_1):PE X (.ListComp elt [⟨tg,iter,ifs,0⟩] scope pos) (uz own.length js wi g ti te):=by
 intro c s σ H Q I h;rw[eval_ListComp];refine wpAny_comprehension_free (use:=none) rfl hs (gM (I.capFree hk)) hk.kind hk.loc (bH (hw c s σ H _ I h) λv s1 h1=>bH h1 λitv s2 h2=>?_);obtain⟨it,fp,tn,J,H2,rfl,O,T,d,f2,L⟩:=h2;refine mO (RR:=λa C=>compPost (model X.prog X.w) X.A X.xe none (EP X c σ Q) a C) (Q:=λa u=>∀l,u l=none->Q (.ref l) (aB u l (.lst a))) hc hk hcap hg hi he O T d f2 L ?_;intro D C z u a m q M R B r p i n k;refine⟨m,B,λh' y=>?_⟩;exact⟨.ref D,_,R.turned (t':=z.toks) (λb o G e=>(y.2 b G).trans e) r p (.inr i) n k,rfl,q D M⟩
theorem kD{i:Nat}{x:Str}{elt tg iter:Expr}{ifs:Ha}{scope:Scope}{pos spos:Pos}{px:Pos}(own:G6)(js:GZ){wi:TI}{g:TG}{ti:TT}{te:TE}(hN:X.N.Nodup)(hxi:X.N[i]?=some x)(hx:Loc X.env.scope x)
  (hsw:swapsWith (.ListComp elt [⟨tg,iter,ifs,0⟩] scope pos) (some (.Name x px)) spos.line X.env=pure true)
  (hc:X.calm=true) (hk:bM scope X.env.scope)
  (hcap:(js.all λj=>scope.names.contains (X.N.getD j Str.empty,NameKind.free))=true) (hw:PI X tg iter wi)
  (hg:∀s H fp C,PG (X.blk (lN own js X.N) s H scope fp C) tg g) (hi:∀s H fp C,Cl (X.blk (lN own js X.N) s H scope fp C) ifs ti) (he:∀s H fp C,PE (X.blk (lN own js X.N) s H scope fp C) elt te)
  (hs:autoParam (∀x,foldedSetIterable iter X.env x=pure x) zz4._auto_1) (hf:autoParam (X.fn x=true\/X.env.scope.names.lookup x=some .local) zz2._auto_1) :
  PS X (.Assign [.Name x px] (.ListComp elt [⟨tg,iter,ifs,0⟩] scope pos) spos) (xy (uz own.length js wi g ti te) (iI i)):=by
 intro c s σ H Dn I h;rw[exec_Assign_Name_used _ _ _ _ hsw];refine q04 (wpAny_standAt (q04 ?_));show wpAny _ _ (do let _ <- comprehension (.ListComp elt [⟨tg,iter,ifs,0⟩] scope pos) scope X.env _ (newList []) false (eval iter X.env) (some (assign (.Name x px) X.env))) _ _ s;refine q04 (q0X (wpAny_comprehension_free (use:=some (assign (.Name x px) X.env)) (Q:=λ_ k=>SP X c Dn .next k) (E:=X.xe) rfl hs (gM (I.capFree hk)) hk.kind hk.loc ?_) (λ_ k q=>q05 (q05 q)) λ_ _ z=>z);refine(bH (hw c s σ H _ I h) λv s1 h1=>bH h1 λitv s2 h2=>?_);obtain⟨it,fp,tn,J,H2,rfl,I2,T,r,f2,hW⟩:=h2;refine mO (RR:=λd C=>compPost (model X.prog X.w) X.A X.xe (some (assign (.Name x px) X.env)) (λ_ k=>SP X c Dn .next k) d C) (Q:=λd S=>∀l,S l=none->iI i (.ref l) σ (aB S l (.lst d)) Dn.nx) hc hk hcap hg hi he I2 T r f2 hW ?_;intro D C k S d m q hD I' U O p G n L;show wpAny _ _ (assign (.Name x px) X.env (.ref D)) _ _ k;refine wpAny_assign_Name (nB I' hN hxi hx (v:=.ref D) rfl (λB R y=>?_) hf);obtain⟨a,y,Z⟩:=y;have M:C≠a:=by
  rcases Z with z | z
  ·rw[z];exact p
  ·exact(n x a z).symm
 refine⟨m,U.sameBut y M,λh' u=>?_⟩;exact⟨_,_,R.turned (t':=B.toks) (λb o Y e=>(u.2 b Y).trans e) O p (.inr G) n L,q D hD⟩
end
section
variable {K:GX}{g:TG}{ti:TT}{te:TE}{σ:St}{H:Hp}{Q:List V->Hp->Prop}
theorem iB{J:It}{n:Nat}(Pv:Nat->List V->St->Hp->Prop)(h0:Pv 0 [] σ H)(hz:∀i acc σ H,Pv i acc σ H->acc.length<sizeLine)(hi:∀i acc σ H,Pv i acc σ H->i<=n)
  (stop:∀acc σ H,Pv n acc σ H->J.stop n H) (go:∀i acc σ H,i<n->Pv i acc σ H->J.go i H)
  (hs:∀i x acc σ H H2,i<n->Pv i acc σ H->J.yld i H x H2->g x σ H2 λσ2 H3=>ti σ2 H3 λb H4=>if b=true then te σ2 H4 λv H5=>Pv (i+1) (acc++[v]) σ2 H5 else Pv (i+1) acc σ2 H4)
  (he:∀acc σ H,Pv n acc σ H->Q acc H) :
  gq J g ti te σ H Q:=by
 refine⟨λi m acc σ H=>Pv i acc σ H/\m=n+1-i,⟨n+1,h0,rfl⟩,?_⟩;rintro i m acc σ' a ⟨w,rfl⟩;refine⟨hz i acc σ' a w,?_⟩;have hle:=hi i acc σ' a w;rcases Nat.lt_or_ge i n with c | hge
 ·refine .inr ⟨go i acc σ' a c w,λacc' σ2 H2=>Pv (i+1) acc' σ2 H2,λacc' σ2 H2 w2=>⟨n+1-(i+1),?_,w2,rfl⟩,λx H2 y=>hs i x acc σ' a H2 c w y⟩
  have:=hi (i+1) acc' σ2 H2 w2;omega
 ·have e:i=n:=by omega
  subst e;exact .inl ⟨stop acc σ' a w,he acc σ' a w⟩
theorem dI{a:Addr}{xs:List V}(Pv:Nat->List V->St->Hp->Prop)(h0:Pv 0 [] σ H)(hz:∀i acc σ H,Pv i acc σ H->acc.length<sizeLine)(hi:∀i acc σ H,Pv i acc σ H->i<=xs.length)
  (hl:∀i acc σ H,Pv i acc σ H->aT K H a xs)
  (hs:∀i x acc σ H,xs[i]?=some x->Pv i acc σ H->g x σ H λσ2 H3=>ti σ2 H3 λb H4=>if b=true then te σ2 H4 λv H5=>Pv (i+1) (acc++[v]) σ2 H5 else Pv (i+1) acc σ2 H4)
  (he:∀acc σ H,Pv xs.length acc σ H->Q acc H):gq (yI K a) g ti te σ H Q:=by
 exact iB (J:=yI K a) (g:=g) (ti:=ti) (te:=te) (Q:=Q) (n:=xs.length) Pv h0 hz hi (λacc σ H w=>⟨xs,hl _ _ _ _ w,Gq _⟩)
  (λi acc σ H hlt w=>⟨xs,xs[i],hl _ _ _ _ w,FZ hlt⟩) (λi x acc σ H H2 hlt w y=>by obtain⟨rfl,c⟩:=y;exact hs i x acc σ H2 (c xs (hl _ _ _ _ w)) w) he
theorem il{lo:Int}{n:Nat}(Pv:Nat->List V->St->Hp->Prop)(h0:Pv 0 [] σ H)(hz:∀i acc σ H,Pv i acc σ H->acc.length<sizeLine)(hi:∀i acc σ H,Pv i acc σ H->i<=n)
  (hs:∀i acc σ H,i<n->Pv i acc σ H->g (.int (lo+i)) σ H λσ2 H3=>ti σ2 H3 λb H4=>if b=true then te σ2 H4 λv H5=>Pv (i+1) (acc++[v]) σ2 H5 else Pv (i+1) acc σ2 H4)
  (he:∀acc σ H,Pv n acc σ H->Q acc H):gq (vk lo n) g ti te σ H Q:=by
 exact iB (J:=vk lo n) (g:=g) (ti:=ti) (te:=te) (Q:=Q) (n:=n) Pv h0 hz hi (λacc σ H w=>Gq _) (λi acc σ H hlt w=>hlt) (λi x acc σ H H2 hlt w y=>by obtain⟨rfl,rfl⟩:=y;exact hs i acc σ H2 hlt w) he
end
structure eX(P:G5)(w:G8)(K:GX)(mg:G3)(base:Heap)(CX:iz)(k:Nat)(x:Str)(ps:G6)(sp:Sp):Prop where
 ex:∃(f:Addr) (fd:G4),bc P w K mg base CX k f fd ps sp/\mg x=some (.ref f)/\PySem.W.keepIn K (.ref f)=true/\cX K fd ps []
structure NB(mg:G3):Prop where
 len:mg "len"=none
 range:mg "range"=none
 list:mg "list"=none
 tuple:mg "tuple"=none
 isinstance:mg "isinstance"=none
 int:mg "int"=none
 bool:mg "bool"=none
 str:mg "str"=none
 reversed:mg "reversed"=none
 all:mg "all"=none
 enumerate:mg "enumerate"=none
 zip:mg "zip"=none
 sorted:mg "sorted"=none
 set:mg "set"=none
 dict:mg "dict"=none
 min:mg "min"=none
 max:mg "max"=none
 sum:mg "sum"=none
 ValueError:mg "ValueError"=none
section
variable {X:Cx}{CX:iz}{k:Nat}{x:Str}{ps:G6}{sp:Sp}{E:XK}{p pos:Pos}{e:Expr}{es:Ha}{t:TA}
theorem aH(C:eX X.prog X.w X.K X.mg X.base CX k x ps sp)(hr:cw k X.A)(hg:Gl X x)(hx:cQ CX X E)(ha:PA X (e::es) t)(hdb:autoParam ((x==("__debug__":Str))=false) zz3._auto_1)
  (hst:autoParam (starEach (e::es) X.env=(false,eval e X.env)::starEach es X.env) zz0._auto_1) (hpl:autoParam ((backTo pos (starEach es X.env)).any (·.1)=false) zz0._auto_1):PE X (.Call (.Name x p) (e::es) [] pos) (k8 sp [] E t):=by
 obtain⟨f,fd,F,a,b,c⟩:=C.ex;exact zL F hr hg a b c .nil hx ha hdb hst hpl
end
section
variable {X:Cx}{tg:Expr}
def wd(_ j:Int):Prop:=0<j/\j<18446744073709551616
theorem bJ:bD X (binaryOp .FloorDiv) (rI wd λi j=>.int (i/j)):=Dr λi j _ _ _ _ _ hc q=>by
 have h1:(0:Int)<j:=hc.1;have h2:j<18446744073709551616:=hc.2;refine floordiv_int ⋯ (by rw[Int.fdiv_eq_ediv_of_nonneg i ⋯];exact q) (.inl (PyProof.noPylong_of_log2 ?_));have h64:j.natAbs.log2<64:=(Nat.log2_lt ⋯).mpr ⋯;omega
theorem fQ:∀{ys:G6} {us:G1},aQ (ys.map V.str) us->StrsAre us ys
 | [],_,.nil=>.nil
 |y::ys,_,.cons r t=>by
  obtain⟨tk,rfl⟩:=r;exact .cons y tk (fQ t)
def uc(K:GX):V->List V->Hp->VK->Prop:=λx xs H Q=>∃z p ys,x=.str z/\xs=[.ref p]/\(aT K H p (ys.map V.str)\/jv K H p (ys.map V.str))/\(ys.map (·.length)).sum+ys.length*z.length<=16777216/\Q (.str (Txt.join z ys)) H
theorem zt:De X "str.join" (uc X.K):=by
 intro pins s σ H x xs v us Q I rx rv h;obtain⟨z,p,ys,rfl,rfl,hs,d,q⟩:=h;obtain⟨t,rfl⟩:=rx;obtain⟨u,rfl,e⟩:=rv.one;cases e;rcases hs with hs | hs
 ·obtain⟨c,r,b,_⟩:=I.list hs
  exact join_list b.isList (by simpa using fQ r) d λa k=>⟨.str _,H,I.tok k,⟨a,rfl⟩,q⟩
 ·obtain⟨c,r,b,_⟩:=I.tuple hs
  exact join_tuple b (by simpa using fQ r) d λa k=>⟨.str _,H,I.tok k,⟨a,rfl⟩,q⟩
def CV(x:Str):It:=⟨λi _=>i<x.cps.size,λi H v H'=>H'=H/\∃c,x.cps[i]?=some c/\v=.str ⟨#[c]⟩,λi _=>x.cps.size<=i⟩
theorem wB{P:G5}{w:G8}{K:GX}{tg:Expr}(x:Str)(t:Tok)(it:Addr):q9 P w K tg (CV x) [it] it (λi h=>h.IsStrIter it (strIterType x) x t i) where
 mem:=by simp
 obj:=λi h g b l=>by
  have e:b=it:=by simpa using l
  subst e;obtain⟨o,e,c,d⟩:=g;exact⟨o,e,λv z=>by rw[d]at z;cases z⟩
 keep:=λi h m g k=>by
  obtain⟨o,e,c,d⟩:=g;exact⟨o,k it (by simp) o e,c,d⟩
 item:=by
  intro X M G O L i j s σ H E I hf g hg;subst M G O;obtain⟨D,C,f2,B,y,r⟩:=hf it (by simp);have J:i<x.cps.size:=hg;have p:x.cps[i]?=some x.cps[i]:=Array.getElem?_eq_getElem J;have fin:∀m,m.IsStrIter it (strIterType x) x t (i+1)->Heap.SameBut it s.heap m->∃u,(some (Value.str ⟨#[x.cps[i]]⟩ s.toks))=some u /\
    wpAny (model X.prog X.w) X.A (letOwnedTupleGo tg (.ref it) u) (λ_ S=>∃v H',Inv X j σ H' S/\aR v u/\(CV x).yld i H v H'/\S.heap.IsStrIter it (strIterType x) x t (i+1)/\∀b∈[it],H' b=none) E {s with heap:=m,toks:=s.toks+1}:=λm q T=>by
   have U:Inv X j σ H {s with heap:=m,toks:=s.toks+1}:=I.turned (λb o l e=>(T.2 b l).trans e) D C B y r;obtain⟨o,e,c,d⟩:=id q;refine⟨_,rfl,pT (s:={s with heap:=m,toks:=s.toks+1}) e c d ?_ ⟨.str ⟨#[x.cps[i]]⟩,H,U,⟨_,rfl⟩,⟨rfl,_,p,rfl⟩,q,λb l=>(hf b l).1⟩⟩;unfold strIterType
   split<;>decide
  cases n:x.cps.all (· < 128) with
  |true=>
   have a:strIterType x="str_ascii_iterator":=by unfold strIterType;rw[n];rfl
   rw[a]at g fin ⊢;exact wpAny_pyNext_ascii_item g p fin
  |false=>
   have a:strIterType x="str_iterator":=by unfold strIterType;rw[n];rfl
   rw[a]at g fin ⊢;exact wpAny_pyNext_wide_item g p fin
 done:=by
  intro X M G O L i j s σ H E I hf g hg;subst M G O;obtain⟨D,C,f2,B,y,r⟩:=hf it (by simp);have J:x.cps.size<=i:=hg;have p:x.cps[i]?=none:=Array.getElem?_eq_none J;cases n:x.cps.all (· < 128) with
  |true=>
   have a:strIterType x="str_ascii_iterator":=by unfold strIterType;rw[n];rfl
   rw[a]at g;exact wpAny_pyNext_ascii_end (I.ok.hd L) g p λm R=>⟨rfl,I.turned (t':=s.toks) (λb o l e=>R b o l e) D C B y r⟩
  |false=>
   have a:strIterType x="str_iterator":=by unfold strIterType;rw[n];rfl
   rw[a]at g;exact wpAny_pyNext_wide_end (I.ok.hd L) g p λm R=>⟨rfl,I.turned (t':=s.toks) (λb o l e=>R b o l e) D C B y r⟩
 self:=λA i s Q E g h=>by
  cases n:x.cps.all (· < 128) with
  |true=>
   have a:strIterType x="str_ascii_iterator":=by unfold strIterType;rw[n];rfl
   rw[a]at g;exact wpAny_pyIter_striter_ascii g h
  |false=>
   have a:strIterType x="str_iterator":=by unfold strIterType;rw[n];rfl
   rw[a]at g;exact wpAny_pyIter_striter_wide g h
def BC(tl:TE):TI:=λσ H R=>tl σ H λv H1=>∃x,v=.str x/\R (CV x) H1
theorem AJ{l:Expr}{tl:TE}(hl:PE X l tl):PI X tg l (BC tl):=by
 intro a s σ H R I h;refine bH (hl a s σ H _ I h) λv c ⟨x,H1,d,g,i⟩=>?_;obtain⟨x,rfl,q⟩:=i;obtain⟨t,rfl⟩:=g;refine wpAny_pyIter_strU ?_;refine⟨c.heap.objs.size,[c.heap.objs.size],_,_,H1,rfl,d.kept (t':=c.toks) λb o e=>F1 _ e,wB x t _,⟨_,F8 _ rfl,rfl,rfl⟩,λb j=>?_,q⟩;have e:b=c.heap.objs.size:=by simpa using j
 subst e;exact d.fpOk (Gq _) (d.hok.fresh (Gq _))
def Dj(K:GX)(a:Addr)(n:Nat):It:=
 ⟨λi H=>∃xs x,aT K H a xs/\i<n/\xs[n-1-i]?=some x,λi H x H'=>H'=H/\∀xs,aT K H a xs->xs[n-1-i]?=some x,λi _=>i=n⟩
theorem xR{P:G5}{w:G8}{K:GX}{tg:Expr}(a it:Addr)(n:Nat):q9 P w K tg (Dj K a n) [it] it (λi h=>h.IsRevIter it a ((n:Int)-1-(i:Int))) where
 mem:=by simp
 obj:=λi h g b m=>by
  have e:b=it:=by simpa using m
  subst e;obtain⟨o,e,c,d⟩:=g;exact⟨o,e,λv z=>by rw[d]at z;cases z⟩
 keep:=λi h r g k=>g.at λo e=>k it (by simp) o e
 item:=by
  intro X B y C T i j s σ H E I hf g hg;subst B y C;obtain⟨xs,x,R,S,O⟩:=hg;obtain⟨its,Y,p,hz⟩:=I.list R;obtain⟨u,hu,Z⟩:=Y.get O;obtain⟨M,L,f2,J,G,D⟩:=hf it (by simp);have e:(n:Int)-1-(i:Int)=((n-1-i:Nat):Int):=by omega
  have q:=g;rw[e]at q;refine wpAny_pyNext_rev_item q p.isList (x:=u) (by simpa using hu) λr l U=>?_;have e2:((n-1-i:Nat):Int)-1=(n:Int)-1-((i+1:Nat):Int):=by omega
  rw[e2]at l;have I1:Inv X j σ H {s with heap:=r }:=I.turned (t':=s.toks) (λb o m e=>(U.2 b m).trans e) M L J G D;obtain⟨o,e,c,d⟩:=id l;exact⟨u,rfl,pT (s:={s with heap:=r }) e c d nofun ⟨x,H,I1,Z,⟨rfl,λys hy=>by rw[I.list_inj hy R];exact O⟩,l,λb m=>(hf b m).1⟩⟩
 done:=by
  intro X B y C T i j s σ H E I hf g hg;subst B y C;obtain⟨M,L,f2,J,G,D⟩:=hf it (by simp);have S:i=n:=hg;subst S;have e:(i:Int)-1-(i:Int) = -1:=by omega
  rw[e]at g;exact wpAny_pyNext_rev_end (I.ok.hd T) g λr eb=>⟨rfl,I.turned (t':=s.toks) (λb o m e=>eb b o m e) M L J G D⟩
 self:=λ_ _ _ _ _ g h=>wpAny_pyIter_revIter g h
def AQ(K:GX)(ta:TA):TI:=λσ H R=>ta σ H λvs H1=>∃a xs,vs=[.ref a]/\aT K H1 a xs/\R (Dj K a xs.length) H1
theorem Bf{a:Expr}{ta:TA}{p pos:Pos}(hg:Gl X "reversed")(hm:X.mg "reversed"=none)(ha:PA X [a] ta)(hs:autoParam (starEach [a] X.env=[(false,eval a X.env)]) zz0._auto_1):PI X tg (.Call (.Name "reversed" p) [a] [] pos) (AQ X.K ta):=by
 intro d s σ H R I h;refine Call_ (dS I hg hm boot_reversed (PyProof.Rows.callWith_type1 (bH (ha pos d s σ H _ I h) λus c ⟨vs,H1,j,v,w⟩=>?_) hs rfl));obtain⟨l,g,rfl,y,q⟩:=w;obtain⟨u,rfl,r⟩:=v.one;cases r;obtain⟨k,n,x,hz⟩:=j.list y;have i:=n.length;refine call_reversed_list x.isList ?_;have B:k.toArray.size=g.length:=by rw[F9,i]
 rw[B];have C:Inv X d σ H1 {c with heap:=c.heap.push (revObj l ((g.length:Int)-1))}:=j.kept (t':=c.toks) λb o e=>F1 _ e;have m:(c.heap.push (revObj l ((g.length:Int)-1))).IsRevIter c.heap.objs.size l ((g.length:Int)-1-((0:Nat):Int)):=⟨_,F8 _ rfl,rfl,by simp[revObj]⟩;refine wpAny_pyIter_revIter m ?_;refine⟨c.heap.objs.size,[c.heap.objs.size],_,_,H1,rfl,C,xR l _ g.length,m,λb z=>?_,q⟩;have e:b=c.heap.objs.size:=by simpa using z
 subst e;exact j.fpOk (Gq _) (j.hok.fresh (Gq _))
def Br:V->Option Int->Option Int->Hp->VK->Prop:=λx lo hi H Q=>∃z,x=.str z/\z.length<=sizeLine/\Q (.str (Txt.slice z lo hi)) H
theorem rH:DG X Br:=by
 intro a s σ H x v vl vu lo hi sl Q I rx hs pl pu h;obtain⟨z,rfl,b,q⟩:=h;obtain⟨t,rfl⟩:=rx;have fin:∀c k,EP X a σ Q (.str (Txt.slice z lo hi) c) {s with toks:=k}:=λc k=>⟨.str _,H,I.tok k,⟨c,rfl⟩,q⟩;refine⟨"str",_,F.slot_str_getitem.lookup,typeIs_str _ _ _,?_⟩;cases pl with
 |none=>
  cases pu with
  |none=>exact wpAny_getItem_str_slice (l:=none) (u:=none) (st:=none) hs rfl (post_val_or_str ⟨Gy (Txt.slice_le z _ _) b,fin⟩)
  |int j uj=>exact wpAny_getItem_str_slice (l:=none) (u:=some (j,uj)) (st:=none) hs rfl (post_val_or_str ⟨Gy (Txt.slice_le z _ _) b,fin⟩)
 |int i ui=>
  cases pu with
  |none=>exact wpAny_getItem_str_slice (l:=some (i,ui)) (u:=none) (st:=none) hs rfl (post_val_or_str ⟨Gy (Txt.slice_le z _ _) b,fin⟩)
  |int j uj=>exact wpAny_getItem_str_slice (l:=some (i,ui)) (u:=some (j,uj)) (st:=none) hs rfl (post_val_or_str ⟨Gy (Txt.slice_le z _ _) b,fin⟩)
def DT(sep:Str)(ta:TA):TE:=λσ H Q=>ta σ H λvs H1=>∃x,vs=[.str x]/\x.length<=1000/\sep.length<=1000/\Q (.str (Txt.join sep (x.cps.toList.reverse.map λc=>(⟨#[c]⟩:Str)))) H1
theorem r9{e:Expr}{ta:TA}{sep:Str}{j:Nat}{p0 ap p1 p2 cpos:Pos}(hc:X.calm=true)(hg:Gl X "reversed")(hm:X.mg "reversed"=none)(ha:PA X [e] ta)
  (hfew:autoParam (((backTo cpos (starEach [.Call (.Name "reversed" p1) [e] [] p2] X.env)).all (λx=>!x.1)&&(backToKw cpos (keywordEach [] X.env)).all (λx=>x.1.isSome)
   && decide ([Expr.Call (.Name "reversed" p1) [e] [] p2].length+([]:List Keyword).length+(if([]:List Keyword).isEmpty then 0 else 1)<30))=true) zz0._auto_1)
  (hline:autoParam ((ap.endLine==cpos.line)=true) zz0._auto_1) (hs:autoParam (starEach [e] X.env=[(false,eval e X.env)]) zz0._auto_1) :
  PE X (.Call (.Attribute (.Constant (.str sep) j p0) "join" ap) [.Call (.Name "reversed" p1) [e] [] p2] [] cpos) (DT sep ta):=by
 intro c s σ H Q I h;refine wpAny_Call_method_late rfl hfew hline rfl (bH (lg (X:=X) c s σ H (λv H1=>v=.str sep/\H1=H) I ⟨rfl,rfl⟩) λv l ⟨x,H1,n,y,D⟩=>?_);obtain⟨rfl,rfl⟩:=D;obtain⟨t0,rfl⟩:=y;refine⟨"str",_,F.plainAttrs_str,F.slot_str_join,F.type_str_join,typeIs_str _ _ _,(λa z=>nomatch z),?_⟩;refine Calls.callWith_builtin rfl (Calls.evalArgs_plain ?_);show wpAny _ _ (spliced ((false,eval (.Call (.Name "reversed" p1) [e] [] p2) X.env)::[])) _ _ l;refine Calls.spliced_cons ?_;refine Call_ (dS n hg hm boot_reversed (PyProof.Rows.callWith_type1 (bH (ha p2 c l σ H1 _ n h) λus d ⟨vs,H2,i,w,B⟩=>?_) hs rfl));obtain⟨x,rfl,C,g,q⟩:=B;obtain⟨u,rfl,r⟩:=w.one;obtain⟨t,rfl⟩:=r;have hsl:sizeLine=16777216:=q0W;refine iK ⋯ (Calls.spliced_nil ?_);have m:Inv X c σ H2 {d with heap:=d.heap.push (sj x t ((x.length:Int)-1)),toks:=d.toks+1+1}:=i.kept λb o e=>F1 _ e;have J:=i.fpOk (b:=d.heap.objs.size) (H':=H2) (Gq _) (i.hok.fresh (Gq _));obtain⟨S,R,f2,O,M,L⟩:=J;refine wC (m.ok.hd hc) (I:=d.heap.objs.size) (x:=x) (t:=t) ⟨_,F8 _ rfl,rfl,rfl⟩ C g λp t' k keep U Y T=>?_;obtain⟨h',g',d',k',o'⟩:=p;cases U;cases Y;cases T;exact⟨.str _,H2,m.turned (t':=k) (λb o G e=>keep b o G e) S R O M L,⟨t',rfl⟩,q⟩
def zX:V->Value
 | .ty n=>.type n
 | .ref a=>.ref a
 |_=>.none
def ou:V->Bool
 | .ty _=>true
 | .ref _=>true
 |_=>false
theorem zJ{c:V}{u:Value}(r:aR c u)(h:ou c=true):u=zX c:=by
 cases c with
 |ty n=>exact r
 |ref a=>exact r
 |_=>cases h
def zZ(K:GX):List V->Hp->VK->Prop:=λxs H Q=>∃x c t b,xs=[x,c]/\ou c=true/\hJ K H x t/\PySem.W.kitOne K t (zX c)=some b/\Q (.bl b) H
theorem bn:eN X (.builtin "isinstance") (zZ X.K):=by
 intro pins s σ H xs us Q I r h;obtain⟨x,c,t,b,rfl,i,ty,e,q⟩:=h;obtain⟨u,v,rfl,g,d⟩:=r.two;rw[zJ d i];exact va I g ty e λa=>⟨.bl b,H,I.tok a,rfl,q⟩
theorem gB(K:GX)(n:String):PySem.W.kitOne K (.type n) (.type n)=some true:=by
 unfold PySem.W.kitOne;rw[q07 (beq_self_eq_true _)]
inductive Dt where
 |non | bl (b:Bool) | int (i:Int) | str (x:Str) | lst (ds:List Dt) | tup (ds:List Dt)
mutual
def jx(K:GX)(H:Hp):Dt->V->Prop
 | .non,v=>v=.non
 | .bl b,v=>v=.bl b
 | .int i,v=>v=.int i
 | .str x,v=>v=.str x
 | .lst ds,v=>∃a xs,v=.ref a/\aT K H a xs/\dM K H ds xs
 | .tup ds,v=>∃a xs,v=.ref a/\jv K H a xs/\dM K H ds xs
def dM(K:GX)(H:Hp):List Dt->List V->Prop
 | [],xs=>xs=[]
 |d::ds,xs=>∃x r,xs=x::r/\jx K H d x/\dM K H ds r
end
mutual
def Dt.dep:Dt->Nat
 | .lst ds=>Dt.deps ds+1
 | .tup ds=>Dt.deps ds+1
 |_=>0
def Dt.deps:List Dt->Nat
 | []=>0
 |d::ds=>max (Dt.dep d) (Dt.deps ds)
end
theorem dM.length{K:GX}{H:Hp}:∀{ds:List Dt} {xs:List V},dM K H ds xs->xs.length=ds.length
 | [],_,h=>by unfold dM at h;rw[h];rfl
 |d::ds,xs,h=>by
  unfold dM at h;obtain⟨x,r,rfl,_,h2⟩:=h;simp[dM.length h2]
theorem dM.get{K:GX}{H:Hp}:∀{ds:List Dt} {xs:List V} {j:Nat} {x:V},dM K H ds xs->xs[j]?=some x->∃d,ds[j]?=some d/\jx K H d x
 | [],_,_,_,h,e=>by unfold dM at h;rw[h]at e;simp at e
 |d::ds,xs,j,x,h,e=>by
  unfold dM at h;obtain⟨y,r,rfl,h1,h2⟩:=h;cases j with
  |zero=>simp at e;subst e;exact⟨d,rfl,h1⟩
  |succ j=>
   obtain⟨d',e1,e2⟩:=dM.get (j:=j) h2 (by simpa using e);exact⟨d',by simpa using e1,e2⟩
theorem gN:∀{ds:List Dt} {j:Nat} {d:Dt},ds[j]?=some d->d.dep<=Dt.deps ds
 | [],_,_,e=>by simp at e
 |d'::ds,0,d,e=>by simp at e;subst e;unfold Dt.deps;omega
 |d'::ds,j+1,d,e=>by
  have:=gN (ds:=ds) (j:=j) (by simpa using e);unfold Dt.deps;omega
theorem fA(n:Nat):(List.range n).all (λ_=>true)=true:=by simp
theorem yn{pins:GY}{σ:St}{H:Hp}{s:G0}(I:Inv X pins σ H s):∀(n:Nat) (d:Dt) (A:G7) {v u:V} {vv uu:Value},d.dep<=n->A.units+n<cLine->jx X.K H d v->jx X.K H d u->aR v vv->aR u uu->SeqAt.EqAt A s vv uu true:=by
 intro n
 induction n with
 |zero=>
  intro d A v u vv uu S hA h1 h2 l k;cases d with
  |non=>unfold jx at h1 h2;subst h1 h2;have:=fY (A:=A) (s:=s) l k rfl rfl;exact this
  |bl b=>unfold jx at h1 h2;subst h1 h2;have:=fY (A:=A) (s:=s) l k rfl rfl;simpa[zi]using this
  |int i=>unfold jx at h1 h2;subst h1 h2;have:=fY (A:=A) (s:=s) l k rfl rfl;simpa[zi]using this
  |str x=>unfold jx at h1 h2;subst h1 h2;have:=fY (A:=A) (s:=s) l k rfl rfl;simpa[zi]using this
  |lst ds=>unfold Dt.dep at S;omega
  |tup ds=>unfold Dt.dep at S;omega
 |succ n ih=>
  intro d A v u vv uu S hA h1 h2 l k;cases d with
  |non=>unfold jx at h1 h2;subst h1 h2;have:=fY (A:=A) (s:=s) l k rfl rfl;exact this
  |bl b=>unfold jx at h1 h2;subst h1 h2;have:=fY (A:=A) (s:=s) l k rfl rfl;simpa[zi]using this
  |int i=>unfold jx at h1 h2;subst h1 h2;have:=fY (A:=A) (s:=s) l k rfl rfl;simpa[zi]using this
  |str x=>unfold jx at h1 h2;subst h1 h2;have:=fY (A:=A) (s:=s) l k rfl rfl;simpa[zi]using this
  |lst ds=>
   unfold jx at h1 h2;obtain⟨a,J,rfl,ha,o⟩:=h1;obtain⟨b,D,rfl,hb,m⟩:=h2;cases l;cases k
   by_cases p:a=b
   ·subst p;exact SeqAt.EqAt.same _
   ·unfold Dt.dep at S
    obtain⟨g,O,pa,_⟩:=I.list ha;obtain⟨c,M,Z,_⟩:=I.list hb;have l1:=O.length;have l2:=M.length;have l3:=o.length;have l4:=m.length
    have a0:g.toArray.size=c.toArray.size:=by simp;omega
    have q:=SeqAt.RcAt.lists (A:=A) (s:=s) (e:=λ_=>true) pa.isList Z.isList a0 ⋯ λj g1 g2=>by
     have C:j<g.length:=by simpa using g1
     have B:j<c.length:=by simpa using g2
     have L:J[j]?=some J[j]:=FZ ⋯;have G:D[j]?=some D[j]:=FZ ⋯;obtain⟨d,Y,z⟩:=o.get L;obtain⟨d',U,y⟩:=m.get G;rw[Y]at U;cases U
     obtain⟨w1,T,w⟩:=O.get L;obtain⟨w2,f2,r⟩:=M.get G;rw[FZ C]at T;rw[FZ B]at f2;cases T;cases f2
     have R:=gN Y;simp only[GP];exact ih d A.in1 ⋯ (by show A.units+1+n<cLine;omega) z y w r
    rw[fA]at q;exact SeqAt.EqAt.of_refs p q
  |tup ds=>
   unfold jx at h1 h2;obtain⟨a,J,rfl,ha,o⟩:=h1;obtain⟨b,D,rfl,hb,m⟩:=h2;cases l;cases k
   by_cases p:a=b
   ·subst p;exact SeqAt.EqAt.same _
   ·unfold Dt.dep at S
    obtain⟨g,O,pa,_⟩:=I.tuple ha;obtain⟨c,M,Z,_⟩:=I.tuple hb;have l1:=O.length;have l2:=M.length;have l3:=o.length;have l4:=m.length
    have q:=SeqAt.RcAt.tuples (A:=A) (s:=s) (e:=λ_=>true) (show s.heap.IsTuple a g.toArray from pa) (show s.heap.IsTuple b c.toArray from Z) ⋯ λj g1 g2=>by
     have C:j<g.length:=by simpa using g1
     have B:j<c.length:=by simpa using g2
     have L:J[j]?=some J[j]:=FZ ⋯;have G:D[j]?=some D[j]:=FZ ⋯;obtain⟨d,Y,z⟩:=o.get L;obtain⟨d',U,y⟩:=m.get G;rw[Y]at U;cases U
     obtain⟨w1,T,w⟩:=O.get L;obtain⟨w2,f2,r⟩:=M.get G;rw[FZ C]at T;rw[FZ B]at f2;cases T;cases f2
     have R:=gN Y;simp only[GP];exact ih d A.in1 ⋯ (by show A.units+1+n<cLine;omega) z y w r
    have e0:((List.range (min g.toArray.size c.toArray.size)).all (λ_=>true)&&g.toArray.size==c.toArray.size)=true:=by
     rw[fA,Bool.true_and];simp;omega
    rw[e0]at q;exact SeqAt.EqAt.of_refs p q
def Bp(K:GX)(neg:Bool):R2:=λx y H Q=>
 (∃ds,Dt.deps ds<=40/\((jx K H (.lst ds) x/\jx K H (.lst ds) y)\/(jx K H (.tup ds) x/\jx K H (.tup ds) y))/\Q (.bl (!neg)) H) \/
 (∃a b xs ys,x=.ref a/\y=.ref b/\aT K H a xs/\aT K H b ys/\xs.length≠ys.length/\Q (.bl neg) H)
theorem xU(hu:X.A.units+64<cLine):bD X (compareOp .NotEq) (Bp X.K true):=by
 intro r s σ H x y v u Q I rx ry h;rcases h with⟨ds,hd,h,q⟩ | ⟨a,b,o,n,rfl,rfl,C,B,hne,q⟩
 ·have fin:EP X r σ Q (.bool false) s:=⟨.bl false,H,I,rfl,q⟩
  have p:∀{o n:List V} {g c:G1},dM X.K H ds o->dM X.K H ds n->aQ o g->aQ n c->∀j (h1:j<g.toArray.size) (h2:j<c.toArray.size),SeqAt.EqAt X.A.in1 s g.toArray[j] c.toArray[j] true:=fun{o n g c} k i m l j g1 g2=>by
   have O:=m.length;have M:=l.length;have Z:=k.length;have Y:=i.length
   have S:j<g.length:=by simpa using g1
   have R:j<c.length:=by simpa using g2
   have U:o[j]?=some o[j]:=FZ ⋯;have T:n[j]?=some n[j]:=FZ ⋯;obtain⟨d,e1,L⟩:=k.get U;obtain⟨d',e2,J⟩:=i.get T;rw[e1]at e2;cases e2
   obtain⟨w1,f1,G⟩:=m.get U;obtain⟨w2,f2,D⟩:=l.get T;rw[FZ S]at f1;rw[FZ R]at f2;cases f1;cases f2
   have hdep:=gN e1;simp only[GP];exact yn I 40 d X.A.in1 ⋯ (by show X.A.units+1+40<cLine;omega) L J G D
  rcases h with⟨h1,h2⟩ | ⟨h1,h2⟩
  ·unfold jx at h1 h2
   obtain⟨a,o,rfl,C,k⟩:=h1;obtain⟨b,n,rfl,B,i⟩:=h2;cases rx;cases ry
   obtain⟨g,m,z,_⟩:=I.list C;obtain⟨c,l,w,_⟩:=I.list B;have O:=m.length;have M:=l.length;have Z:=k.length;have Y:=i.length
   have q:=SeqAt.RcNeAt.lists (A:=X.A) (s:=s) (e:=λ_=>true) z.isList w.isList (by simp;omega) ⋯ (p k i m l);rw[fA]at q;exact q _ _ _ _ fin
  ·unfold jx at h1 h2
   obtain⟨a,o,rfl,C,k⟩:=h1;obtain⟨b,n,rfl,B,i⟩:=h2;cases rx;cases ry
   obtain⟨g,m,z,_⟩:=I.tuple C;obtain⟨c,l,w,_⟩:=I.tuple B;have O:=m.length;have M:=l.length;have Z:=k.length;have Y:=i.length
   have q:=SeqAt.RcNeAt.tuples (A:=X.A) (s:=s) (e:=λ_=>true) (show s.heap.IsTuple a g.toArray from z) (show s.heap.IsTuple b c.toArray from w) ⋯ (p k i m l);have e0:((List.range (min g.toArray.size c.toArray.size)).all (λ_=>true)&&g.toArray.size==c.toArray.size)=true:=by
    rw[fA,Bool.true_and];simp;omega
   rw[e0]at q;exact q _ _ _ _ fin
 ·cases rx;cases ry
  obtain⟨g,m,z,_⟩:=I.list C;obtain⟨c,l,w,_⟩:=I.list B;have O:=m.length;have M:=l.length
  exact SeqAt.RcNeAt.lists_lengths z.isList w.isList (by simp;omega) ⋯ _ _ _ _ ⟨.bl true,H,I,rfl,q⟩
theorem Ae{K:GX}{H:Hp}{ys:G6}:dM K H (ys.map Dt.str) (ys.map V.str):=by
 induction ys with
 |nil=>unfold dM;rfl
 |cons y ys ih=>
  show dM K H (Dt.str y::ys.map Dt.str) (V.str y::ys.map V.str);unfold dM;exact⟨_,_,rfl,by unfold jx;rfl,ih⟩
theorem vP(ys:G6):Dt.deps (ys.map Dt.str)=0:=by
 induction ys with
 |nil=>rfl
 |cons y ys ih=>show max (Dt.dep (.str y)) (Dt.deps (ys.map Dt.str))=0;rw[ih];rfl
end
end L2
namespace aD
abbrev Em:=List Nat
abbrev aD:=List Em
def rect(p:aD)(r c:Nat):Prop:=p.length=r/\∀x∈p,x.length=c
def v6(p:aD)(i j:Nat):Nat:=(p.getD i []).getD j 0
def mirror(p:aD):aD:=p.map List.reverse
def uA(p:aD)(i:Nat):Em:=p.reverse.map λx=>x.getD i 0
def aP(p:aD):aD:=(List.range (p.headD []).length).map (uA p)
def aK:Nat->aD->aD
 |0,p=>p
 |n+1,p=>aK n (aP p)
def turned(p:aD)(t:Nat):aD:=aK (t%4) (if 4<=t then mirror p else p)
theorem xB{p:aD}{r c i:Nat}(h:rect p r c)(hi:i<r):(p.getD i []).length=c:=by
 have a:i<p.length:=by rw[h.1];exact hi
 rw[q0A,FZ a];exact h.2 _ (F_ a)
theorem aW{p:aD}{r c:Nat}(h:rect p r c)(hr:0<r):(p.headD []).length=c:=by
 have:=xB h hr;cases p with
 |nil=>have:=h.1;simp at this;omega
 |cons x p=>simpa using this
theorem bC{p:aD}{r c:Nat}(h:rect p r c):rect (mirror p) r c:=by
 refine⟨by simp[mirror,h.1],λx b=>?_⟩;obtain⟨y,a,rfl⟩:=GM.mp b;rw[Gj];exact h.2 y a
theorem aZ{p:aD}{r c:Nat}(h:rect p r c)(hr:0<r):rect (aP p) c r:=by
 refine⟨by unfold aP;rw[F3,q0J,aW h hr],λx a=>?_⟩;obtain⟨i,_,rfl⟩:=GM.mp a;simp[uA,h.1]
theorem gR{p:aD}{r c i j:Nat}(h:rect p r c)(hi:i<r)(hj:j<c):v6 (mirror p) i j=v6 p i (c-1-j):=by
 have a:i<p.length:=by rw[h.1];exact hi
 have b:(p[i]).length=c:=h.2 _ (F_ a);unfold v6 mirror;rw[q0A (l:=List.map _ _),F5,FZ a,q0A (l:=p),FZ a];simp only[Option.map_some,q0L];rw[q0A,List.getElem?_reverse (by rw[b];exact hj),b,q0A]
theorem b8{p:aD}{r c i j:Nat}(h:rect p r c)(hr:0<r)(hi:i<c)(hj:j<r):v6 (aP p) i j=v6 p (r-1-j) i:=by
 unfold v6 aP;rw[aW h hr,q0A (l:=List.map _ _),F5,List.getElem?_range hi];simp only[Option.map_some,q0L];unfold uA;rw[q0A,F5,List.getElem?_reverse (by rw[h.1];exact hj),h.1];have a:r-1-j<p.length:=by rw[h.1];omega
 rw[FZ a,q0A (l:=p),FZ a]
 rfl
theorem iR{p q:aD}{r c:Nat}(hp:rect p r c)(hq:rect q r c)(h:∀i j,i<r->j<c->v6 p i j=v6 q i j):p=q:=by
 refine List.ext_getElem (by rw[hp.1,hq.1]) λi h1 h2=>?_;have a:=hp.2 _ (F_ h1);have d:=hq.2 _ (F_ h2);refine List.ext_getElem (by rw[a,d]) λj b g=>?_;have e:=h i j (by rw[<- hp.1];exact h1) (by rw[<- a];exact b);unfold v6 at e
 simpa[q0A,FZ,h1,h2,b,g]using e
theorem y3(p:aD):mirror (mirror p)=p:=by simp[mirror,Gf,Function.comp_def]
theorem yr{p:aD}{r c:Nat}(h:rect p r c)(hr:0<r)(hc:0<c):aP (aP (aP (aP p)))=p:=by
 have h1:=aZ h hr;have h2:=aZ h1 hc;have b:=aZ h2 hr;have e:=aZ b hc;refine iR e h λi j a d=>?_;rw[b8 b hc a d,b8 h2 hr ⋯ a,b8 h1 hc ⋯ ⋯,b8 h hr ⋯ ⋯]
 congr 1<;>omega
theorem kZ{p:aD}{r c:Nat}(h:rect p r c)(hr:0<r)(hc:0<c):mirror (aP p)=aP (aP (aP (mirror p))):=by
 have m:=bC h;have h1:=aZ m hr;have h2:=aZ h1 hc;have d:=aZ h2 hr;have q:=aZ h hr;refine iR (bC q) d λi j a b=>?_;rw[gR q a b,b8 h hr a ⋯,b8 h2 hr a b,b8 h1 hc ⋯ a,b8 m hr ⋯ ⋯,gR h ⋯ ⋯]
 congr 1<;>omega
theorem cr:∀(n:Nat) {p:aD} {r c:Nat},rect p r c->0<r->0<c->rect (aK n p) (if n%2=0 then r else c) (if n%2=0 then c else r)
 |0,_,_,_,h,_,_=>h
 |n+1,p,r,c,h,hr,hc=>by
  have:=cr n (aZ h hr) hc hr;show rect (aK n (aP p)) _ _
  by_cases e:n%2=0
  ·rw[q07 e,q07 e]at this
   rw[q06 ⋯,q06 ⋯];exact this
  ·rw[q06 e,q06 e]at this
   rw[q07 ⋯,q07 ⋯];exact this
theorem cS{p:aD}{r c:Nat}(h:rect p r c)(hr:0<r)(hc:0<c)(t:Nat):rect (turned p t) (if t%2=0 then r else c) (if t%2=0 then c else r):=by
 unfold turned;have e:t%4%2=t%2:=by omega
 rw[<- e]
 split
 ·exact cr _ (bC h) hr hc
 ·exact cr _ h hr hc
theorem bX(a b:Nat)(p:aD):aK a (aK b p)=aK (b+a) p:=by
 induction b generalizing p with
 |zero=>rw[Nat.zero_add];rfl
 |succ b ih=>show aK a (aK b (aP p))=_;rw[ih,Nat.add_right_comm];rfl
theorem dB{p:aD}{r c:Nat}(h:rect p r c)(hr:0<r)(hc:0<c)(n:Nat):aK n p=aK (n%4) p:=by
 induction n using Nat.strongRecOn generalizing p r c with
 |ind n ih=>
  by_cases a:n<4
  ·rw[Nat.mod_eq_of_lt a]
  ·obtain⟨m,rfl⟩:∃m,n=m+4:=⟨n-4,⋯⟩
   have e:aK (m+4) p=aK m (aP (aP (aP (aP p)))):=rfl;rw[e,yr h hr hc,ih m ⋯ h hr hc]
   congr 1
   omega
theorem gu{p:aD}{r c:Nat}(h:rect p r c)(hr:0<r)(hc:0<c):∀n,mirror (aK n p)=aK (3*n) (mirror p):=by
 intro n
 induction n generalizing p r c with
 |zero=>rfl
 |succ n ih=>
  show mirror (aK n (aP p))=_;rw[ih (aZ h hr) hc hr,kZ h hr hc];have e:aP (aP (aP (mirror p)))=aK 3 (mirror p):=rfl;rw[e,bX]
  congr 1
  omega
def after(t u:Nat):Nat:=if u<4 then t/4*4+(t+u)%4 else(1-t/4)*4+(u+8-t)%4
def fc(t:Nat):Nat:=if t<4 then(4-t)%4 else t
theorem bj{p:aD}{r c:Nat}(h:rect p r c)(hr:0<r)(hc:0<c){t u:Nat}(ht:t<8)(hu:u<8):turned (turned p t) u=turned p (after t u):=by
 have m:=bC h;unfold turned after
 by_cases h1:4<=t<;>by_cases h2:4<=u
 ·rw[q07 h1,q07 h2,q06 ⋯,q06 ⋯]
  rw[gu m hr hc,y3,bX,dB h hr hc]
  congr 1;omega
 ·rw[q07 h1,q06 h2,q07 ⋯,q07 ⋯]
  rw[bX,dB m hr hc]
  congr 1;omega
 ·rw[q06 h1,q07 h2,q06 ⋯,q07 ⋯]
  rw[gu h hr hc,bX,dB m hr hc]
  congr 1;omega
 ·rw[q06 h1,q06 h2,q07 ⋯,q06 ⋯]
  rw[bX,dB h hr hc]
  congr 1;omega
theorem jV(p:aD):turned p 0=p:=rfl
theorem fz{t u:Nat}(ht:t<8)(hu:u<8):after t u<8:=by unfold after;split<;>omega
theorem iW{t:Nat}(ht:t<8):fc t<8:=by unfold fc;split<;>omega
theorem rD{t:Nat}(ht:t<8):after t (fc t)=0:=by
 unfold after fc
 by_cases h:t<4
 ·rw[q07 h,q07 ⋯];omega
 ·rw[q06 h,q06 ⋯];omega
theorem tO{t:Nat}(ht:t<8):after (fc t) t=0:=by
 unfold after fc
 by_cases h:t<4
 ·rw[q07 h,q07 ⋯];omega
 ·rw[q06 h,q06 ⋯];omega
theorem jU{p:aD}{r c:Nat}(h:rect p r c)(hr:0<r)(hc:0<c){t:Nat}(ht:t<8):turned (turned p t) (fc t)=p:=by
 rw[bj h hr hc ht (iW ht),rD ht];rfl
end aD
namespace QL
open PySem L2 aD
def tx(r:GZ):Str:=⟨r.toArray⟩
def aq(p:aD):List V:=p.map λr=>V.str (tx r)
theorem aG(r:GZ):(tx r).length=r.length:=by show r.toArray.size=r.length;simp
theorem c_(r:GZ):(tx r).cps.toList=r:=by show r.toArray.toList=r;simp
theorem al(p:aD):(aq p).length=p.length:=by unfold aq;simp
theorem dg(p:aD):aq p=(p.map tx).map V.str:=by unfold aq;rw[Gf];rfl
theorem bW{p:aD}{i:Nat}(h:i<p.length):(aq p)[i]?=some (V.str (tx p[i])):=by unfold aq;rw[F5,FZ h];rfl
theorem ci(p:aD)(r:GZ):aq (p++[r])=aq p++[V.str (tx r)]:=by unfold aq;simp
theorem join_nil:∀(ys:List (List Nat)),Txt.join (Str.ofString "") (ys.map tx)=tx ys.flatten
 | []=>rfl
 |y::ys=>by
  have key:∀(zs:List (List Nat)) (a:GZ),(zs.map tx).foldl (λacc (p:Str)=>acc++(Str.ofString "").cps++p.cps) a.toArray=(a++zs.flatten).toArray:=by
   intro zs
   induction zs with
   |nil=>intro a;simp
   |cons z zs ih=>
    intro a;rw[Gx,List.foldl_cons];have e:a.toArray++(Str.ofString "").cps++(tx z).cps=(a++z).toArray:=by
     have b:(Str.ofString "").cps=#[]:=rfl;rw[b];show a.toArray ++ #[]++z.toArray=_;simp
    rw[e,ih];simp
  show(⟨(ys.map tx).foldl (λacc (p:Str)=>acc++(Str.ofString "").cps++p.cps) (tx y).cps⟩:Str)=_;show(⟨(ys.map tx).foldl (λacc (p:Str)=>acc++(Str.ofString "").cps++p.cps) y.toArray⟩:Str)=_;rw[key]
  rfl
theorem nu(r:GZ):Txt.join (Str.ofString "") (r.map λc=>(⟨#[c]⟩:Str))=tx r:=by
 have e:(r.map λc=>(⟨#[c]⟩:Str))=(r.map λc=>[c]).map tx:=by rw[Gf];rfl
 rw[e,join_nil]
 congr 1
 clear e
 induction r with
 |nil=>rfl
 |cons c r ih=>simp[ih]
def d0(p:aD):Prop:=p.length<=64/\∀r∈p,r.length<=64
theorem d0.of{p:aD}{r c:Nat}(h:rect p r c)(hr:r<=64)(hc:c<=64):d0 p:=⟨by rw[h.1];exact hr,λx hx=>by rw[h.2 x hx];exact hc⟩
theorem aY{n:Nat}(h:n<=1000000):n<sizeLine:=by have:=q0W;omega
theorem aM{n:Nat}(h:n<=1000000):n<=sizeLine:=by have:=q0W;omega
theorem ao{H:Hp}{l:Addr}{o:HO}(h:H l=none):aA H (aB H l o):=λb u e=>by rw[ai (ax e h)];exact e
theorem bG{H0 H:Hp}{l:Addr}{o:HO}(s:aA H0 H)(h:H0 l=none):aA H0 (aB H l o):=λb u e=>by rw[ai (ax e h)];exact s b u e
theorem qc{p:aD}{r c i:Nat}(h:rect p r c)(hi:i<r):∃hl:i<p.length,(p[i]).length=c:=⟨by rw[h.1];exact hi,h.2 _ (F_ _)⟩
def fw(H:Hp)(p:aD)(Q:VK):Prop:=∀(l:Addr) (H':Hp),H l=none->H' l=some (.lst (aq p))->aA H H'->Q (.ref l) H'
def dh(ns:List Int)(k:Nat):Int:=ns.getD k 0/2147483647*2147483647+(((ns.getD k 0%2147483647+7919*(k:Int)+1)*48271%2147483647)*69621+(k:Int))%2147483647
theorem nU(K:GX):PySem.W.kitOne K (.type "int") (.type "bool")=some false:=by kernel_rfl
end QL
namespace L2
open PySem PySem.Spec PyProof.Rows
section
variable {X:Cx}
theorem cT:eN X (.builtin "len") (λxs H Q=>∃p ys,xs=[.ref p]/\aT X.K H p ys/\Q (.int ys.length) H):=λpins s σ H xs us Q I r ⟨p,ys,e,h,q⟩=>iE pins s σ H xs us Q I r ⟨p,ys,e,.inl h,q⟩
theorem u7:eN X (.builtin "len") (λxs H Q=>∃p ys,xs=[.ref p]/\jv X.K H p ys/\Q (.int ys.length) H):=λpins s σ H xs us Q I r ⟨p,ys,e,h,q⟩=>iE pins s σ H xs us Q I r ⟨p,ys,e,.inr h,q⟩
theorem yp{K:GX}{g:TG}{ti:TT}{te:TE}{σ:St}{H:Hp}{Q:List V->Hp->Prop}{a:Addr}{xs:List V}(Pv:Nat->List V->St->Hp->Prop)(h0:Pv 0 [] σ H)(hz:∀i acc σ H,Pv i acc σ H->acc.length<sizeLine)(hi:∀i acc σ H,Pv i acc σ H->i<=xs.length)
  (hl:∀i acc σ H,Pv i acc σ H->aT K H a xs)
  (hs:∀i x acc σ H,xs.reverse[i]?=some x->Pv i acc σ H->g x σ H λσ2 H3=>ti σ2 H3 λb H4=>if b=true then te σ2 H4 λv H5=>Pv (i+1) (acc++[v]) σ2 H5 else Pv (i+1) acc σ2 H4)
  (he:∀acc σ H,Pv xs.length acc σ H->Q acc H):gq (Dj K a xs.length) g ti te σ H Q:=by
 have c:∀{i:Nat} {x:V},i<xs.length->xs[xs.length-1-i]?=some x->xs.reverse[i]?=some x:=fun{i x} hi e=>by rw[List.getElem?_reverse hi];exact e
 exact iB (J:=Dj K a xs.length) (g:=g) (ti:=ti) (te:=te) (Q:=Q) (n:=xs.length) Pv h0 hz hi (λacc σ H w=>rfl)
  (λi acc σ H hlt w=>⟨xs,xs[xs.length-1-i]'⋯,hl _ _ _ _ w,hlt,FZ ⋯⟩) (λi x acc σ H H2 hlt w y=>by obtain⟨rfl,d⟩:=y;exact hs i x acc σ H2 (c hlt (d xs (hl _ _ _ _ w))) w) he
theorem zP(i j:Int):(wc (.int i) (.int j)=true)=True:=by simp[wc]
theorem dL{a:Expr}{ta:TE}(ha:PE X a ta)(he:∀whole,isTrue a X.env whole=(do let v <- whole;standAt a.pos;holding [v] (truthy v))):PT X a (ur ta):=by
 intro b s σ H Q I h;rw[he];refine q04 (bH (ha b s σ H _ I h) λv s1 ⟨x,H1,d,c,k,e,q⟩=>?_);subst e;cases c;exact q04 (wpAny_standAt (q0Y (wpAny_truthy_bool ⟨H1,d,q⟩)))
def u9(J:It)(g:TG)(tb:TS)(D:fE)(σ:St)(H:Hp):Prop:=∃W:Nat->Nat->St->Hp->Prop,(∃m,W 0 m σ H)/\∀i m σ H,W i m σ H ->
 (J.stop i H/\D.nx σ H)\/(J.go i H/\∃N:St->Hp->Prop,(∀σ' H',N σ' H'->∃m',m'<m/\W (i+1) m' σ' H')/\∀x H',J.yld i H x H'->g x σ H' λσ2 H2=>tb {D with nx:=N,ct:=N,bk:=D.nx} σ2 H2)
def wz(wi:TI)(g:TG)(tb:TS):TS:=λD σ H=>wi σ H λJ H1=>u9 J g tb D σ H1
theorem ba{tg iter:Expr}{body:List Stmt}{wi:TI}{g:TG}{tb:TS}{pos:Pos}(hp:PassesOwn (model X.prog X.w) X.A X.env X.xe)(hc:X.calm=true)(hi:PI X tg iter wi)(hg:PG X tg g)(hb:tR X body tb)
  (hs:autoParam (∀x,foldedSetIterable iter X.env x=pure x) zz4._auto_1):PS X (.For tg iter body [] pos) (wz wi g tb):=Bi hp hc hi hg hb hs
section
variable {K:GX}{g:TG}{tb:TS}{D:fE}{σ:St}{H:Hp}
theorem bO{a:Addr}{xs:List V}(Pv:Nat->St->Hp->Prop)(h0:Pv 0 σ H)(hl:∀i σ H,i<=xs.length->Pv i σ H->aT K H a xs)
  (hs:∀i x σ H,xs[i]?=some x->Pv i σ H->g x σ H λσ2 H2=>tb {D with nx:=Pv (i+1),ct:=Pv (i+1),bk:=D.nx} σ2 H2) (hd:∀σ H,Pv xs.length σ H->D.nx σ H):u9 (yI K a) g tb D σ H:=xV Pv h0 hl hs hd
theorem b5{lo:Int}{n:Nat}(Pv:Nat->St->Hp->Prop)(h0:Pv 0 σ H)
  (hs:∀i σ H,i<n->Pv i σ H->g (.int (lo+i)) σ H λσ2 H2=>tb {D with nx:=Pv (i+1),ct:=Pv (i+1),bk:=D.nx} σ2 H2) (hd:∀σ H,Pv n σ H->D.nx σ H):u9 (vk lo n) g tb D σ H:=vV Pv h0 hs hd
end
end
theorem cy:bootBuiltins "len"=some (.builtin "len"):=by decide +kernel
theorem fW:bootBuiltins "list"=some (.type "list"):=by decide +kernel
theorem wj:bootBuiltins "tuple"=some (.type "tuple"):=by decide +kernel
theorem AT:bootBuiltins "int"=some (.type "int"):=by decide +kernel
theorem zT:bootBuiltins "bool"=some (.type "bool"):=by decide +kernel
theorem ya:bootBuiltins "str"=some (.type "str"):=by decide +kernel
theorem bz:bootBuiltins "isinstance"=some (.builtin "isinstance"):=by decide +kernel
theorem BA:bootBuiltins "all"=some (.builtin "all"):=by decide +kernel
theorem Ab:bootBuiltins "dict"=some (.type "dict"):=by decide +kernel
end L2
namespace PtM
open PySem PySem.Builtin.Str PySem.StrLaws
theorem sub_iff(z s:GZ)(i:Nat)(h:i+s.length<=z.length):subAt ⟨z.toArray⟩ ⟨s.toArray⟩ i=true↔z=z.take i++s++z.drop (i+s.length):=by
 have e:subAt ⟨z.toArray⟩ ⟨s.toArray⟩ i=true↔(z.drop i).take s.length=s:=by
  unfold subAt;show(z.toArray.extract i (i+s.toArray.size)==s.toArray)=true↔_;rw[beq_iff_eq];simp only[F9,List.extract_toArray,List.extract_eq_take_drop,List.toArray_inj];rw[Nat.add_sub_cancel_left];exact⟨λq=>by have:=q0R Array.toList q;simpa using this,λq=>by rw[q]⟩
 rw[e]
 constructor
 ·intro q
  conv=>lhs;rw[<- List.take_append_drop i z,<- List.take_append_drop s.length (z.drop i),q,List.drop_drop]
  rw[GC]
 ·intro q
  have b:(z.take i).length=i:=by rw[GG];omega
  have a:∀A B:List Nat,A.length=i->z=A++s++B->(z.drop i).take s.length=s:=λA B c e=>by
   rw[e,GC,<- c,List.drop_left,List.take_left]
  exact a _ _ b q
end PtM
namespace L2
open PySem PySem.Spec PyProof.Rows
section
variable {X:Cx}{a b c d:Expr}{ta tb tc td:TE}{pos:Pos}
def By(K:GX):List V->Hp->VK->Prop:=λxs H Q=>∃(p:Addr) (bs:List Bool),xs=[.ref p]/\aT K H p (bs.map V.bl)/\Q (.bl (bs.all id)) H
theorem tV:∀{bs:List Bool} {us:G1} {i:Nat} {u:Value},aQ (bs.map V.bl) us->us[i]?=some u->∃k,bs[i]?=some k/\u=.bool k
 | [],_,_,_,.nil,e=>by simp at e
 |k::bs,_,0,u,.cons r _,e=>by simp at e;subst e;exact⟨k,rfl,r⟩
 |k::bs,_,i+1,u,.cons _ t,e=>by
  obtain⟨k',h1,h2⟩:=tV (i:=i) t (by simpa using e);exact⟨k',by simpa using h1,h2⟩
theorem uR(bs:List Bool):((List.range bs.length).all λi=>(bs[i]?).getD true)=bs.all id:=by
 rw[Bool.eq_iff_iff,GN,GN]
 constructor
 ·intro h x c
  obtain⟨i,b,e⟩:=List.getElem_of_mem c;have q:=h i (List.mem_range.mpr b);rw[FZ b,q0L,e]at q;exact q
 ·intro h i b
  have a:=List.mem_range.mp b;rw[FZ a,q0L];exact h _ (F_ a)
theorem wv(hc:X.calm=true):eN X (.builtin "all") (By X.K):=by
 intro pins s σ H xs us Q I r h;obtain⟨p,bs,rfl,x,q⟩:=h;obtain⟨u,rfl,w⟩:=r.one;cases w;obtain⟨a,m,d,_⟩:=I.list x;have g:p<s.heap.objs.size:=by obtain⟨_,e,_⟩:=d.isList;exact Gu e
 have c:a.length=bs.length:=by rw[<- m.length,F3]
 refine call_all_walk (wpAny_pyIter_list d.isList ?_);refine⟨s.heap.objs.size,[s.heap.objs.size,p],[s.heap.objs.size],a.toArray.size,_,_,λi=>(bs[i]?).getD true,rfl,Walks.list (A:=X.A.in1) (I.ok.hd hc) _ p (Gm g) a.toArray,
  ⟨⟨_,F8 _ rfl,rfl,rfl⟩,d.isList.push _⟩,λi v s' Q' E' B j=>?_,λh' n z=>?_⟩
 ·obtain⟨k,e,rfl⟩:=tV (i:=i) m (by simpa using B)
  dsimp only at j;rw[e,q0L]at j;exact wpAny_truthy_bool j
 ·have e:((List.range a.toArray.size).all λi=>(bs[i]?).getD true)=bs.all id:=by rw[F9,c];exact uR bs
  rw[e];exact⟨.bl _,H,I.kept (t':=n) λb o l=>z b o (λy=>by rw[F4.mp y]at l;exact Gz _ (Gu l)) (F1 _ l),rfl,q⟩
end
end L2
namespace QL
open PySem L2 aD PySem.Builtin PySem.Builtin.Str
theorem tF(row:GZ)(i k:Nat)(h:i+k<=row.length):((List.range k).map λm=>i+m).filterMap (λj=>row[j]?)=(row.drop i).take k:=by
 rw[List.filterMap_map]
 induction k with
 |zero=>simp
 |succ k ih=>
  rw[q0M,List.filterMap_append,ih ⋯,q0E,List.getElem?_drop];have e:i+k<row.length:=by omega
  simp[FZ e]
def xq(n:Nat)(d:Int):Option Int->Int
 |none=>d
 |some i=>max 0 (min (if i<0 then i+(n:Int) else i) (n:Int))
theorem ro(n d:Nat)(v:Option Int):xq n (d:Int) v=((HT.sIx n d v:Nat):Int):=by
 cases v with
 |none=>rfl
 |some v=>
  show max 0 (min (if v<0 then v+(n:Int) else v) (n:Int))=(((if v<0 then(v+(n:Int)).toNat else min v.toNat n:Nat)):Int)
  by_cases a:v<0
  ·rw[q07 a,q07 a,Int.max_def,Int.min_def]
   split<;>split at * <;> omega
  ·rw[q06 a,q06 a,Int.max_def,Int.min_def]
   split<;>split at * <;> omega
theorem tf(lo hi:Option Int)(n:Nat):strSliceIndices lo hi 1 n=sliceRange (xq n ((0:Nat):Int) lo) (xq n (n:Int) hi) 1:=by cases lo<;>cases hi<;>rfl
theorem jl(row:GZ)(lo hi:Option Int):Txt.slice (tx row) lo hi=tx ((row.drop (HT.sIx row.length 0 lo)).take (HT.sIx row.length row.length hi-HT.sIx row.length 0 lo)):=by
 have hl:=HT.sIx_le row.length 0 (Gr _) lo;have hh:=HT.sIx_le row.length row.length (Gq _) hi;have key:strSliceIndices lo hi 1 (tx row).length=(List.range (HT.sIx row.length row.length hi-HT.sIx row.length 0 lo)).map λm=>HT.sIx row.length 0 lo+m:=by
  rw[aG,tf,ro,ro];generalize HT.sIx row.length 0 lo=a;generalize HT.sIx row.length row.length hi=b;unfold sliceRange;have en:(if(1:Int)>0 then(if(a:Int)<(b:Int) then((b:Int)-(a:Int)+1-1)/1 else 0) else(if(a:Int)>(b:Int) then((a:Int)-(b:Int)-1-1)/(-1) else 0)).toNat=b-a:=by
   rw[q07 nofun]
   split<;>omega
  show(List.range (if(1:Int)>0 then(if(a:Int)<(b:Int) then((b:Int)-(a:Int)+1-1)/1 else 0) else(if(a:Int)>(b:Int) then((a:Int)-(b:Int)-1-1)/(-1) else 0)).toNat).map (fun(k:Nat)=>((a:Int)+1*(k:Int)).toNat)=_;rw[en];refine q0K λm _=>?_;omega
 unfold Txt.slice;rw[key];generalize HT.sIx row.length 0 lo=a at hl ⊢;generalize HT.sIx row.length row.length hi=b at hh ⊢
 by_cases hab:a+(b-a)<=row.length
 ·have e:(((List.range (b-a)).map λm=>a+m).filterMap λj=>(tx row).cps[j]?)=(row.drop a).take (b-a):=by
   rw[<- tF row a (b-a) hab]
   congr 1
   funext j
   show row.toArray[j]?=row[j]?;simp
  rw[e]
  split
  ·rename_i hw
   simp at hw;rw[aG]at hw;have ha0:a=0:=by omega
   have hb0:b-a=row.length:=by omega
   rw[ha0,GV];rw[ha0]at hb0;rw[hb0,GF]
  ·rfl
 ·exact q0Q hab ⋯
end QL
namespace L2
open PySem PySem.Spec PyProof.Rows
section
variable {X:Cx}{K:GX}{tg:Expr}
theorem fC(hK:X.K=K):eN X (.builtin "isinstance") (zZ K):=hK▸bn
theorem rC(hK:X.K=K):eN X (.builtin "len") (λxs H Q=>∃p ys,xs=[.ref p]/\aT K H p ys/\Q (.int ys.length) H):=hK▸cT
theorem wV(hK:X.K=K):BQ X (uT K):=hK▸nQ
end
end L2
namespace PySem
open Sem (wp)
def TrD(cp:Value->Prop)(h base:Heap)(e:Addr)(cls:Value)(od:G9)(fl:Value):Prop:=
 ∃oe vs T oT ts,h.get? e=some oe/\oe.cls=cls/\oe.dict=od/\oe.data=.fields vs/\vs[1]?=some (.ref T)/\base.get? T=none/\T≠e/\h.get? T=some oT/\oT.data=.fields ts/\ts[3]?=some fl/\∃cx,vs[2]?=some cx/\cp cx
end PySem
namespace L2
open PySem PySem.Spec PyProof.Rows
end L2
namespace L2
open PySem PySem.Spec PyProof.Rows
section
variable {X:Cx}{pins:GY}{σ:St}{H:Hp}{s:G0}
theorem Inv.moved{ch:G2}{h':Heap}{tk:Nat}(I:Inv X pins σ H s)(hf:∀b∈ch,jX X pins H b)(k:∀b o,b∉ch->s.heap.get? b=some o->h'.get? b=some o):Inv X pins σ H {s with heap:=h',toks:=tk}:=by
 have a:∀b o,H b=some o->b∉ch:=λb o e z=>by rw[(hf b z).1]at e;cases e
 refine I.call' (s':={s with heap:=h',toks:=tk}) (ch:=ch) rfl ⟨λb o e _ _ hc=>k b o hc e,λb o e _ _ hc=>⟨o.slots,k b o hc e⟩,λb o e n hc=>n,λb o e hc=>⟨o,k b o hc e⟩,λb xs q=>q,λb o y q=>q,λb qs q=>⟨#[],by rw[q];simp⟩⟩
  (λb o e=>(I.hok b o e).stay (λc u hc q=>k c u (by
   rcases hc with rfl | hc
   ·exact a _ _ e
   ·exact a _ _ hc) q) (λ_ q=>q) λ_ _ q=>q) I.bare λb d=>?_
 obtain⟨f0,l,f2,j,i,g⟩:=hf b d;exact⟨j,l,i,g⟩
theorem Inv.movedT{ch:G2}{h':Heap}{tk:Nat}{T:Addr}{ob:HO}(I:Inv X pins σ H s)(hf:∀b∈ch,jX X pins H b)(k:∀b o,b∉ch->s.heap.get? b=some o->h'.get? b=some o)(hT:s.heap.objs.size<=T)(new:bB X.prog X.w (aB H T ob) h' T ob) :
  Inv X pins σ (aB H T ob) {s with heap:=h',toks:=tk}:=by
 have g:∀b o,H b=some o->b∉ch:=λb o e z=>by rw[(hf b z).1]at e;cases e
 have a:H T=none:=I.hok.fresh hT;have j:∀b o,s.heap.get? b=some o->b≠T:=λb o e z=>by rw[z]at e;exact q0Q (Gu e) (Nat.not_lt.mpr hT)
 refine I.call' (s':={s with heap:=h',toks:=tk}) (ch:=ch) rfl ⟨λb o e _ _ hc=>k b o hc e,λb o e _ _ hc=>⟨o.slots,k b o hc e⟩,λb o e n hc=>by rw[ai (j b o e)];exact n,λb o e hc=>⟨o,k b o hc e⟩,λb i q=>by rw[ai (ax q a)];exact q,λb o y q=>by rw[ai (ax q a)];exact q,λb qs q=>⟨#[],by rw[ai (ax q a),q];simp⟩⟩
  (λb o e=>?_) I.bare λb d=>?_
 ·by_cases d:b=T
  ·subst d
   rw[af]at e;cases e;exact new
  ·rw[ai d]at e
   exact(I.hok b o e).stay (λc u hc q=>k c u (by
    rcases hc with rfl | hc
    ·exact g _ _ e
    ·exact g _ _ hc) q) (λc q=>by rw[ai (ax q a)];exact q) λc i q=>by rw[ai (ax q a)];exact q
 ·obtain⟨f0,r,f2,p,m,l⟩:=hf b d
  exact⟨p,r,m,l⟩
end
end L2
namespace PySem.W
open PySem PySem.Spec PySem.Calls PyProof.Rows
section
variable {prog:G5}{w:G8}{A:G7}{E:GW}{s:G0}{K:Frag}{x D:Addr}{ox:Obj}{odo:Option Obj}{name:Str}
end
end PySem.W
namespace L2
open PySem PySem.Spec PyProof.Rows
theorem yX{X:Cx}{K:GX}{es:Ha}{k:Nat}{t:Aw}{n:Nat}{pos:Pos}(hK:X.K=K)(hc:X.calm=true)(h:Cd X es t)
  (hn:autoParam ((assignEach es X.env).length=n) zz0._auto_1) (hst:autoParam ((assignEach es X.env).findIdx? (·.1)=none) zz0._auto_1):PG X (.Tuple es k pos) (ym K n t):=hK▸lx hc h hn hst
end L2
namespace L2
open PySem PySem.Spec PyProof.Rows
def CP(K:GX)(a:Addr):It:=
 ⟨λi H=>∃xs x,aT K H a xs/\xs[i]?=some x,λi H v H'=>∃T x,v=.ref T/\H T=none/\H'=aB H T (.tup [.int (i:Int),x])/\∀xs,aT K H a xs->xs[i]?=some x,λi H=>∃xs,aT K H a xs/\xs.length<=i⟩
theorem u5{P:G5}{w:G8}{K:GX}{elts:Ha}{x1:Nat}{tp:Pos}{e it l:Addr}(hei:e≠it) :
  q9 P w K (.Tuple elts x1 tp) (CP K l) [e,it] e (λi h=>(∃old,IsEnum h e it i old)/\h.IsListIter it l i) where
 mem:=by simp
 obj:=λi h d b n=>by
  obtain⟨⟨old,a⟩,⟨Z,S,c1,d1⟩⟩:=d;simp only[Gg,List.not_mem_nil,or_false]at n;rcases n with rfl | rfl
  ·exact⟨_,a,λv q=>by cases q⟩
  ·exact⟨_,S,λv q=>by rw[d1]at q;cases q⟩
 keep:=λi h T d m=>by
  obtain⟨⟨old,a⟩,h1⟩:=d;exact⟨⟨old,m e (by simp) _ a⟩,h1.at λo e'=>m it (by simp) o e'⟩
 item:=by
  intro X O J R g i r s σ H E I hf d hg;subst O J R;obtain⟨U,x,y,G⟩:=hg;obtain⟨C,B,p,hz⟩:=I.list y;obtain⟨u,hu,Y⟩:=B.get G;obtain⟨⟨old,a⟩,h1⟩:=d;obtain⟨Z,S,_⟩:=id h1;refine wpAny_pyNext_enum_item a h1 p.isList (x:=u) (by simpa using hu) hei λT a1 a2 a3 a4 m=>?_;refine⟨_,rfl,wpAny_letOwnedTupleGo_enum a1 λh2 M j=>?_⟩;have k:H s.heap.objs.size=none:=I.hok.fresh (Gq _);have lt:∀{c o},s.heap.get? c=some o->s.heap.objs.size≠c:=λe=>Nat.ne_of_gt (Gu e);have kk:∀c o,c∉[e,it]->s.heap.get? c=some o->h2.get? c=some o:=λc o g q=>
   j.extBut _ _ (λz=>g (by simp[z])) (m c o (λz=>g (by simp[z])) (λz=>g (by simp[z])) q)
  have hT:h2.get? s.heap.objs.size=some {cls:=.type "tuple",data:=.seq #[.int i s.toks,u]}:=j.extBut _ _ (lt a) a3;refine⟨.ref s.heap.objs.size,aB H s.heap.objs.size (.tup [.int i,x]),I.movedT (tk:=s.toks+1) hf kk (Gq _) ⟨show 2<=sizeLine from by decide +kernel,[.int i s.toks,u],.cons ⟨_,rfl⟩ (.cons Y .nil),_,hT,rfl,_,rfl⟩,rfl,
   ⟨_,x,rfl,k,rfl,λzs D=>by rw[I.list_inj D y];exact G⟩,⟨⟨u,by simpa using M⟩,a2.extBut j.extBut (Ne.symm hei)⟩,λb n=>?_⟩
  have L:b≠s.heap.objs.size:=by
   simp only[Gg,List.not_mem_nil,or_false]at n;rcases n with rfl | rfl
   ·exact(lt a).symm
   ·exact(lt S).symm
  rw[ai L];exact(hf b n).1
 done:=by
  intro X O J R g i r s σ H E I hf d hg;subst O J R;obtain⟨U,y,G⟩:=hg;obtain⟨C,B,p,hz⟩:=I.list y;obtain⟨⟨old,a⟩,h1⟩:=d;have l1':=B.length;refine wpAny_pyNext_enum_end (I.ok.hd g) a h1 p.isList (by simp;omega) λT m=>⟨rfl,I.moved (tk:=s.toks) hf λc o g e=>m c o (λq=>g (by simp[q])) e⟩
 self:=λ_ _ _ _ _ d h=>let ⟨⟨_,a⟩,_⟩:=d;wpAny_pyIter_enum a h
section
variable {X:Cx}{elts:Ha}{x1:Nat}{tp:Pos}
def wL(K:GX)(ta:TA):TI:=λσ H R=>ta σ H λvs H1=>∃a xs,vs=[.ref a]/\aT K H1 a xs/\R (CP K a) H1
theorem oI{a:Expr}{ta:TA}{p pos:Pos}(hg:Gl X "enumerate")(hm:X.mg "enumerate"=none)(ha:PA X [a] ta)(hs:autoParam (starEach [a] X.env=[(false,eval a X.env)]) zz0._auto_1):PI X (.Tuple elts x1 tp) (.Call (.Name "enumerate" p) [a] [] pos) (wL X.K ta):=by
 intro c s σ H R I h;refine Call_ (dS I hg hm boot_enumerate (PyProof.Rows.callWith_type1 (bH (ha pos c s σ H _ I h) λus d ⟨vs,H1,i,o,r⟩=>?_) (by rw[hs];rfl) (by rfl)));obtain⟨l,xs,rfl,w,q⟩:=r;obtain⟨u,rfl,n⟩:=o.one;cases n;obtain⟨its,rv,v,_⟩:=i.list w;refine call_enumerate_list v.isList λy j m z3 x=>?_;have z:Inv X c σ H1 {d with heap:=y }:=i.kept (t':=d.toks) x;refine wpAny_pyIter_enum j ?_;refine⟨d.heap.objs.size+1,[d.heap.objs.size+1,d.heap.objs.size],_,_,H1,rfl,z,u5 (l:=l) (Nat.ne_of_gt (GA _)),⟨⟨_,j⟩,m⟩,λb k=>?_,q⟩;have g:d.heap.objs.size<=b:=by
  simp only[Gg,List.not_mem_nil,or_false]at k;rcases k with e | e<;>(rw[e];first | exact Gq _ | exact Nat.le_add_right _ _)
 exact i.fpOk g (i.hok.fresh g)
end
section
variable {K:GX}{g:TG}{tb:TS}{D:fE}{σ:St}{H:Hp}
theorem mU{a:Addr}{xs:List V}(Pv:Nat->St->Hp->Prop)(h0:Pv 0 σ H)(hl:∀i σ H,i<=xs.length->Pv i σ H->aT K H a xs)
  (hs:∀(i:Nat) x σ H T,xs[i]?=some x->Pv i σ H->H T=none->g (.ref T) σ (aB H T (.tup [.int (i:Int),x])) λσ2 H2=>tb {D with nx:=Pv (i+1),ct:=Pv (i+1),bk:=D.nx} σ2 H2) (hd:∀σ H,Pv xs.length σ H->D.nx σ H):u9 (CP K a) g tb D σ H:=by
 refine⟨λi m σ H=>m=xs.length-i/\i<=xs.length/\Pv i σ H,⟨xs.length,by simp,Gr _,h0⟩,?_⟩;rintro i m σ H ⟨rfl,c,p⟩;have q:=hl i σ H c p
 by_cases b:i<xs.length
 ·refine .inr ⟨⟨xs,xs[i],q,by simp[b]⟩,Pv (i+1),λσ' j p'=>⟨xs.length-(i+1),⋯,rfl,b,p'⟩,λx j y=>?_⟩
  obtain⟨T,x,rfl,d,rfl,y⟩:=y;exact hs i x σ _ T (y xs q) p d
 ·have e:i=xs.length:=by omega
  subst e;exact .inl ⟨⟨xs,q,Gq _⟩,hd σ H p⟩
end
end L2
namespace PySem.W
open PySem PySem.Spec PySem.Calls PyProof.Rows
open Builtin Builtin.ObjectAttr
def Al:List Value->List Value
 | .ref _::r=>Al r
 |l=>l
end PySem.W
namespace L2
open PySem PySem.Spec PyProof.Rows
end L2
namespace PySem.W
open PySem PySem.Spec PySem.Calls PyProof.Rows
end PySem.W
namespace SpM
open PySem
def glue(c:Nat):List (List Nat)->List Nat
 | []=>[]
 | [p]=>p
 |p::q::r=>p++c::glue c (q::r)
def step(c:Nat)(rows:List (List Nat))(d:Nat):List (List Nat):=if d=c then rows++[[]] else rows.dropLast++[rows.getLastD []++[d]]
def parts(c:Nat)(x:GZ):List (List Nat):=x.foldl (step c) [[]]
theorem ux{c:Nat}:∀{p q a b:GZ},c∉p->c∉q->p++c::a=q++c::b->p=q/\a=b
 | [],[],a,b,_,_,e=>⟨rfl,by simpa using e⟩
 | [],y::q,a,b,_,hq,e=>by simp at e;exact q0Q e.1 (λz=>hq (by simp[z]))
 |x::p,[],a,b,hp,_,e=>by simp at e;exact q0Q e.1.symm (λz=>hp (by simp[z]))
 |x::p,y::q,a,b,hp,hq,e=>by
  simp at e;obtain⟨e1,e2⟩:=ux (p:=p) (q:=q) (λz=>hp (by simp[z])) (λz=>hq (by simp[z])) e.2;exact⟨by rw[e.1,e1],e2⟩
theorem glue_inj(c:Nat):∀{rows rows':List (List Nat)},rows≠[]->rows'≠[]->(∀p∈rows,c∉p)->(∀p∈rows',c∉p)->glue c rows=glue c rows'->rows=rows'
 | [p],[q],_,_,_,_,e=>by simpa[glue]using e
 | [p],q::q'::r,_,_,hf,_,e=>by
  have:c∈p:=by rw[show p=q++c::glue c (q'::r) from e];simp
  exact q0Q this (hf p (by simp))
 |p::p'::r,[q],_,_,_,hf,e=>by
  have:c∈q:=by rw[show q=p++c::glue c (p'::r) from e.symm];simp
  exact q0Q this (hf q (by simp))
 |p::p'::r,q::q'::r',_,_,h1,h2,e=>by
  obtain⟨d,b⟩:=ux (h1 p (by simp)) (h2 q (by simp)) (show p++c::glue c (p'::r)=q++c::glue c (q'::r') from e);have:=glue_inj c (rows:=p'::r) (rows':=q'::r') (by simp) (by simp) (λz a=>h1 z (by simp[a])) (λz a=>h2 z (by simp[a])) b;rw[d,this]
theorem join_glue(c:Nat):∀(ys:G6),(Builtin.Str.glued ⟨#[c]⟩ ys).cps.toList=glue c (ys.map λy=>y.cps.toList)
 | []=>rfl
 |y::ys=>by
  have key:∀(zs:G6) (a:Array Nat),(zs.foldl (λacc (p:Str)=>acc++(⟨#[c]⟩:Str).cps++p.cps) a).toList=glue c (a.toList::zs.map λy=>y.cps.toList):=by
   intro zs
   induction zs with
   |nil=>intro a;rfl
   |cons z zs ih=>
    intro a;rw[List.foldl_cons,ih];show glue c ((a ++ #[c]++z.cps).toList::_)=a.toList++c::glue c (z.cps.toList::_);have e:(a ++ #[c]++z.cps).toList=a.toList++c::z.cps.toList:=by simp
    rw[e];cases zs with
    |nil=>simp[glue]
    |cons w ws=>simp[glue]
  exact key ys y.cps
end SpM
namespace PyProof.Rows
open PySem PySem.Spec PySem.Builtin PySem.Builtin.Str
end PyProof.Rows
namespace L2
open PySem PySem.Spec PyProof.Rows QL
structure xg(K:GX)(C:Addr)(m:Str)(f:Addr):Prop where
 sp:PySem.W.specialIn K (.ref C) "__getattribute__"=some (some (.builtin "type.__getattribute__"))
 rd:PySem.W.readsIn K C (.type "type")=true
 fi:PySem.W.findCls K (.ref C) (.type "type") m=some (.val (.ref f))
 kp:PySem.W.keepIn K (.ref f)=true
section
variable {X:Cx}{CX:iz}{k:Nat}{f C:Addr}{fd:G4}{ps:G6}{sp:Sp}{E:XK}{x m:Str}{p pos apos:Pos}{e:Expr}{es:Ha}{t:TA}
theorem xI{pl:Sem Bool}(c:xg X.K C m f)(F:bc X.prog X.w X.K X.mg X.base CX k f fd ps sp)(hr:cw k X.A)(hg:Gl X x)(hm:X.mg x=some (.ref C))(hb:cX X.K fd ps [])(hx:cQ CX X E)(ha:PA X (e::es) t)
  (hdb:autoParam ((x==("__debug__":Str))=false) zz3._auto_1) (hst:autoParam (starEach (e::es) X.env=(false,eval e X.env)::starEach es X.env) zz0._auto_1) (hpl:autoParam ((backTo pos (starEach es X.env)).any (·.1)=false) zz0._auto_1)
  (ht:autoParam (eval (.Call (.Attribute (.Name x p) m apos) (e::es) [] pos) X.env=(do
   let ov <- eval (.Name x p) X.env
   standAt apos.atName
   let (f,first) <- holding [ov] (getMethod ov m pl)
   callWith pos f first (backTo pos (starEach (e::es) X.env)) (backToKw pos (keywordEach [] X.env)))) zz0._auto_1) :
  PE X (.Call (.Attribute (.Name x p) m apos) (e::es) [] pos) (k8 sp [] E t):=by
 intro a s σ H Q I h;refine PySem.W.methodCall_KW (pl:=pl) (ku I hg hm ?_ hdb) ht;refine PySem.W.method_cls I.kIn c.sp (PySem.W.cls_value I.kIn c.rd c.fi rfl ?_);have g:=I.tok (s.toks+1);refine PySem.W.callWith_K (first:=[]) (h₀:=X.base) I.ok.mod.kin c.kp (bH (ha pos a _ σ H _ g h) λus s2 ⟨vs,H2,b,r,d⟩=>⟨b.kIn,?_⟩) hst hpl;exact jc F hr hb .nil hx b r d
end
section
variable (P:G5)(w:G8)(K:GX)(mg:G3)(base:Heap)(CX:iz)
structure BF(k:Nat)(x m:Str)(ps:G6)(sp:Sp):Prop where
 ex:∃(C f:Addr) (fd:G4),bc P w K mg base CX k f fd ps sp/\mg x=some (.ref C)/\xg K C m f/\cX K fd ps []
structure rM(k:Nat)(x:Str)(C:Addr)(ps:G6)(sp:Sp):Prop where
 ex:∃(f:Addr) (fd:G4),bc P w K mg base CX k f fd ps sp/\mg x=some (.ref C)/\Mk K C f/\cX K fd ps []
structure iC(k:Nat)(C:Addr)(m:Str)(ps:G6)(sp:Sp):Prop where
 ex:∃(f:Addr) (fd:G4),bc P w K mg base CX k f fd ps sp/\kt K C/\j7 K C m f/\cX K fd ps []
end
section
variable {X:Cx}{CX:iz}{k:Nat}{C:Addr}{ps:G6}{sp:Sp}{E:XK}{x m:Str}{p pos apos:Pos}{e o:Expr}{es:Ha}{t:TA}{ta:TE}
theorem zH{pl:Sem Bool}(c:BF X.prog X.w X.K X.mg X.base CX k x m ps sp)(hr:cw k X.A)(hg:Gl X x)(hx:cQ CX X E)(ha:PA X (e::es) t)
  (hdb:autoParam ((x==("__debug__":Str))=false) zz3._auto_1) (hst:autoParam (starEach (e::es) X.env=(false,eval e X.env)::starEach es X.env) zz0._auto_1) (hpl:autoParam ((backTo pos (starEach es X.env)).any (·.1)=false) zz0._auto_1)
  (ht:autoParam (eval (.Call (.Attribute (.Name x p) m apos) (e::es) [] pos) X.env=(do
   let ov <- eval (.Name x p) X.env
   standAt apos.atName
   let (f,first) <- holding [ov] (getMethod ov m pl)
   callWith pos f first (backTo pos (starEach (e::es) X.env)) (backToKw pos (keywordEach [] X.env)))) zz0._auto_1) :
  PE X (.Call (.Attribute (.Name x p) m apos) (e::es) [] pos) (k8 sp [] E t):=by
 obtain⟨C,f,fd,F,a,d,b⟩:=c.ex;exact xI d F hr hg a b hx ha hdb hst hpl ht
theorem pF(c:rM X.prog X.w X.K X.mg X.base CX k x C ps sp)(hr:cw (k+1) X.A)(hg:Gl X x)(hx:cQ CX X E)(ha:PA X (e::es) t)
  (hdb:autoParam ((x==("__debug__":Str))=false) zz3._auto_1) (hst:autoParam (starEach (e::es) X.env=(false,eval e X.env)::starEach es X.env) zz0._auto_1) (hpl:autoParam ((backTo pos (starEach es X.env)).any (·.1)=false) zz0._auto_1) :
  PE X (.Call (.Name x p) (e::es) [] pos) (ud C sp [] E t):=by
 obtain⟨f,fd,F,a,M,b⟩:=c.ex;exact zM M F hr hg a b .nil hx ha hdb hst hpl
theorem t_{pl:Sem Bool}(c:iC X.prog X.w X.K X.mg X.base CX k C m ps sp)(hr:cw k X.A)(hx:cQ CX X E)(he:PE X o ta)(ha:PA X (e::es) t)
  (hst:autoParam (starEach (e::es) X.env=(false,eval e X.env)::starEach es X.env) zz0._auto_1) (hpl:autoParam ((backTo pos (starEach es X.env)).any (·.1)=false) zz0._auto_1)
  (ht:autoParam (eval (.Call (.Attribute o m apos) (e::es) [] pos) X.env=(do
   let ov <- eval o X.env
   standAt apos.atName
   let (f,first) <- holding [ov] (getMethod ov m pl)
   callWith pos f first (backTo pos (starEach (e::es) X.env)) (backToKw pos (keywordEach [] X.env)))) zz0._auto_1) :
  PE X (.Call (.Attribute o m apos) (e::es) [] pos) (mT C m sp [] E ta t):=by
 obtain⟨f,fd,F,d,a,b⟩:=c.ex;exact zj he d a F hr b .nil hx ha hst hpl ht
theorem lG{pl:Sem Bool}(c:iC X.prog X.w X.K X.mg X.base CX k C m ps sp)(hr:cw k X.A)(hx:cQ CX X E)(he:PE X o ta)
  (ht:autoParam (eval (.Call (.Attribute o m apos) [] [] pos) X.env=(do
   let ov <- eval o X.env
   standAt apos.atName
   let (f,first) <- holding [ov] (getMethod ov m pl)
   callWith pos f first (backTo pos (starEach [] X.env)) (backToKw pos (keywordEach [] X.env)))) zz0._auto_1) :
  PE X (.Call (.Attribute o m apos) [] [] pos) (mT C m sp [] E ta l9):=by
 obtain⟨f,fd,F,d,a,b⟩:=c.ex;exact wm he d a F hr b .nil hx ht
end
section
variable {g:TG}{ti:TT}{te:TE}{σ:St}{H:Hp}{Q:List V->Hp->Prop}
theorem ye{x:Str}(Pv:Nat->List V->St->Hp->Prop)(h0:Pv 0 [] σ H)(hz:∀i acc σ H,Pv i acc σ H->acc.length<sizeLine)(hi:∀i acc σ H,Pv i acc σ H->i<=x.cps.size)
  (hs:∀i c acc σ H,x.cps[i]?=some c->Pv i acc σ H->g (.str ⟨#[c]⟩) σ H λσ2 H3=>ti σ2 H3 λb H4=>if b=true then te σ2 H4 λv H5=>Pv (i+1) (acc++[v]) σ2 H5 else Pv (i+1) acc σ2 H4)
  (he:∀acc σ H,Pv x.cps.size acc σ H->Q acc H):gq (CV x) g ti te σ H Q:=by
 exact iB (J:=CV x) (g:=g) (ti:=ti) (te:=te) (Q:=Q) (n:=x.cps.size) Pv h0 hz hi (λacc σ H w=>Gq _) (λi acc σ H hlt w=>hlt)
  (λi v acc σ H H2 hlt w y=>by obtain⟨rfl,c,a,rfl⟩:=y;exact hs i c acc σ H2 a w) he
end
section
variable (P:G5)(w:G8)(K:GX)(mg:G3)(base:Heap)(CX:iz)
structure sZ(k:Nat)(m:Str)(os:List (Addr×Sp)):Prop where
 ex:∀o∈os,∃ps,iC P w K mg base CX k o.1 m ps o.2
end
def ow(m:Str)(os:List (Addr×Sp))(E:XK)(ta:TE)(t:TA):TE:=λσ H Q=>ta σ H λx H1=>∃o∈os,∃a dx fs,x=.ref a/\H1 a=some (.ins o.1 dx fs)/\fs.lookup m=none /\
 t σ H1 λvs H2=>o.2 (x::(vs++[])) H2 Q E
section
variable {X:Cx}{CX:iz}{k:Nat}{os:List (Addr×Sp)}{E:XK}{m:Str}{pos apos:Pos}{e o:Expr}{es:Ha}{t:TA}{ta:TE}
theorem yJ{pl:Sem Bool}(c:sZ X.prog X.w X.K X.mg X.base CX k m os)(hr:cw k X.A)(hx:cQ CX X E)(he:PE X o ta)(ha:PA X (e::es) t)
  (hst:autoParam (starEach (e::es) X.env=(false,eval e X.env)::starEach es X.env) zz0._auto_1) (hpl:autoParam ((backTo pos (starEach es X.env)).any (·.1)=false) zz0._auto_1)
  (ht:autoParam (eval (.Call (.Attribute o m apos) (e::es) [] pos) X.env=(do
   let ov <- eval o X.env
   standAt apos.atName
   let (f,first) <- holding [ov] (getMethod ov m pl)
   callWith pos f first (backTo pos (starEach (e::es) X.env)) (backToKw pos (keywordEach [] X.env)))) zz0._auto_1) :
  PE X (.Call (.Attribute o m apos) (e::es) [] pos) (ow m os E ta t):=by
 intro b s σ H Q I h;refine PySem.W.methodCall_KW (pl:=pl) (bH (he b s σ H _ I h) λu j ⟨x,H1,i,n,v,w,a,dx,fs,ex,z,l,q⟩=>?_) ht;subst ex;obtain rfl:u=Value.ref a:=n;obtain⟨ps,B⟩:=c.ex v w;obtain⟨f,fd,F,C,d,y⟩:=B.ex;refine dZ i z C d l ?_;refine PySem.W.callWith_K (first:=[.ref a]) (h₀:=X.base) I.ok.mod.kin d.kp (bH (ha pos b j σ H1 _ i q) λus s2 ⟨vs,H2,g,r,p⟩=>⟨g.kIn,?_⟩) hst hpl;exact jc (us:=.ref a::us) (vs:=.ref a::vs) F hr y .nil hx g (.cons rfl r) p
theorem wO{pl:Sem Bool}(c:sZ X.prog X.w X.K X.mg X.base CX k m os)(hr:cw k X.A)(hx:cQ CX X E)(he:PE X o ta)
  (ht:autoParam (eval (.Call (.Attribute o m apos) [] [] pos) X.env=(do
   let ov <- eval o X.env
   standAt apos.atName
   let (f,first) <- holding [ov] (getMethod ov m pl)
   callWith pos f first (backTo pos (starEach [] X.env)) (backToKw pos (keywordEach [] X.env)))) zz0._auto_1) :
  PE X (.Call (.Attribute o m apos) [] [] pos) (ow m os E ta l9):=by
 intro b s σ H Q I h;refine PySem.W.methodCall_KW (pl:=pl) (bH (he b s σ H _ I h) λu s1 ⟨x,H1,d,g,i,j,a,dx,fs,ex,p,l,q⟩=>?_) ht;subst ex;obtain rfl:u=Value.ref a:=g;obtain⟨ps,r⟩:=c.ex i j;obtain⟨f,fd,F,v,e,n⟩:=r.ex;refine dZ d p v e l ?_;exact PySem.W.callWith_K0 (first:=[.ref a]) d.kIn e.kp (jc (us:=[.ref a]) (vs:=[.ref a]) F hr n .nil hx d (.cons rfl .nil) q)
end
structure iT(K:GX)(C:Addr):Prop where
 cl:kt K C
 ha:PySem.W.findIn K (.ref C) "__class__"=some (some (.builtin "object.__class__"))
 hn:PySem.W.specialIn K (.builtin "object.__class__") "__get__"=some (some (.builtin "getset_descriptor.__get__"))
 htk:PySem.W.takesIn K (.builtin "object.__class__")=some true
 hm:PySem.W.mroIn K C (.type "object")=some true
theorem iT.ty{K:GX}{C a dx:Addr}{H:Hp}{fs:List (Str×V)}(i:iT K C)(e:H a=some (.ins C dx fs)):hJ K H (.ref a) (.ref C):=.ins e i.cl i.ha i.hn i.htk i.hm
section
variable {X:Cx}{es:Ha}{t:TA}
theorem iN{x j p}(hr:PA X es t):PA X (.Constant (.str x) j p::es) (jS (tC (.str x)) t):=ac lg hr rfl
theorem cF{x j p}(hr:PA X es t):PA X (.Constant (.int x) j p::es) (jS (tC (.int x)) t):=ac am hr rfl
end
end L2
namespace PyProof.Rows
open PySem PySem.Spec PySem.Builtin PySem.Builtin.Str
end PyProof.Rows
namespace L2
open PySem PySem.Spec PyProof.Rows QL
theorem tY:∀(xs:List V) (us:G1),xs.length=us.length->(∀(j:Nat) (x:V) (u:Value),xs[j]?=some x->us[j]?=some u->aR x u)->aQ xs us
 | [],[],_,_=>.nil
 |x::xs,u::us,hl,h=>.cons (h 0 x u rfl rfl) (tY xs us (by simpa using hl) λj y v e1 e2=>h (j+1) y v (by simpa using e1) (by simpa using e2))
section
variable {X:Cx}{pins:GY}{σ:St}{H:Hp}{s:G0}{a:Addr}{kvs:List (b9×V)}{k:b9}{u r:Value}{d:V}{A:G7}{E:GW}
theorem wT{Q:GW}(I:Inv X pins σ H s)(e:H a=some (.dK kvs))(ry:aR (kV k) u)(rd:aR d r)(hl:kvs.length<sizeLine)
  (h1:∀v w' s',c3 kvs k=some v->Inv X pins σ H s'->aR v w'->Q w' s') (h2:c3 kvs k=none->∀s',Inv X pins σ (aB H a (.dK (cM kvs k d))) s'->Q r s') :
  wpAny (model X.prog X.w) A (call (.builtin "dict.setdefault") [.ref a,u,r]) Q E s:=by
 obtain⟨z,j,vs,c,l⟩:=mQ I.hok e;have m:vs.length<=sizeLine:=by rw[<- c.length];exact z
 have i:(cM kvs k d).length<=sizeLine:=by have:=eG kvs k d;omega
 refine call_meetsIn PySem.F.slot_dict_setdefault l.typeIs PySem.F.entry_dict_setdefault (PySem.F.args_dict_setdefault_3 _ _ _) (kt_meets_setdefault (br X.prog X.w) a (jK ry) j r) ⟨vs,l,m,λv n=>?_,λp y g o=>?_⟩
 ·have q:=c.val k
  rw[n]at q;cases b:c3 kvs k with
  |none=>rw[b]at q;exact False.elim q
  |some v0=>rw[b]at q;exact h1 v0 v _ b (I.tok _) q
 ·have q:=c.val k
  rw[p]at q;have b:c3 kvs k=none:=by
   cases b:c3 kvs k with
   |none=>rfl
   |some v0=>rw[b]at q;exact False.elim q
  have x:∃q,y.get? a=some q:=let ⟨q,_,_,hq,_⟩:=g;⟨q,hq⟩
  exact h2 b _ (kl I (by rw[e];exact True.intro) o x (rY i j (c.put k rd) g))
end
def rA(td ty tx:TE):TE:=λσ H Q=>td σ H λx H1=>∃a,x=.ref a/\Dq H1 a/\ty σ H1 λy H2=>tx σ H2 λz H3=>∃kvs k,H3 a=some (.dK kvs)/\y=kV k/\kvs.length<sizeLine /\
 (∀v,c3 kvs k=some v->Q v H3)/\(c3 kvs k=none->Q z (aB H3 a (.dK (cM kvs k z))))
section
variable {X:Cx}{o e f:Expr}{apos cpos:Pos}{td ty tx:TE}
theorem kO(ho:PE X o td)(he:PE X e ty)(hf:PE X f tx)(m:M2 X o "setdefault" apos e f cpos):PE X (.Call (.Attribute o "setdefault" apos) [e,f] [] cpos) (rA td ty tx):=by
 intro b s σ H Q I h;refine wpAny_Call_method m.base m.few m.line PySem.F.plainAttrs_dict PySem.F.slot_dict_setdefault PySem.F.type_dict_setdefault (bH (ho b s σ H _ I h) λu r ⟨x,H1,j,B,a,T,d,G⟩=>?_);subst T;obtain rfl:u=Value.ref a:=B;obtain⟨n,l,_⟩:=rF j d;refine⟨n,l,?_⟩;rw[m.trees];refine Calls.callWith_builtin rfl (Calls.evalArgs_plain (Calls.spliced_cons (bH (he b r σ H1 _ j G) λiv q ⟨y,H2,Y,w,D⟩=>
  Calls.spliced_cons (bH (hf b q σ H2 _ Y D) λfv s3 ⟨z,Z,U,i,kvs,k,M,S,c,R,O⟩=>Calls.spliced_nil ?_))))
 subst S;exact wT U M w i c (λv w' p J g C=>⟨v,Z,g,C,R v J⟩) λL p g=>⟨z,_,g,i,O L⟩
end
theorem CA{P:G5}{w:G8}{k:b9}{u:Value}(h:(br P w).is k u=true):aR (kV k) u:=by
 rcases bN (show lm k u=true from h) with⟨i,t,rfl,rfl⟩ | ⟨x,t,rfl,rfl⟩<;>exact⟨_,rfl⟩
section
variable {X:Cx}
def sH:List V->Hp->VK->Prop:=λxs H Q=>∃a kvs,xs=[.ref a]/\H a=some (.dK kvs)/\∀l,H l=none->Q (.ref l) (aB H l (.lst (kvs.map λkv=>kV kv.1)))
theorem sE(hc:X.calm=true):eN X (.type "list") sH:=by
 intro pins s σ H xs us Q I r h;obtain⟨a,g,rfl,e,q⟩:=h;obtain⟨u,rfl,o⟩:=pU r;obtain rfl:u=Value.ref a:=o;obtain⟨z,hd,vs,d,J⟩:=mQ I.hok e;obtain⟨ep,L⟩:=J.dictAt;have p:vs.length<=sizeLine:=by rw[<- d.length];exact z
 refine PySem.W.kdl_call (PySem.W.kdl_dict hd) (I.ok.hd hc) L p λh' n c M B D b=>?_;have v:aQ (g.map λi=>kV i.1) c.toList:=by
  refine tY _ _ (by rw[F3];simp[b.1,d.length]) λj x u m G=>?_;obtain⟨k,w,l,C⟩:=b.2 j u (by simpa using G);have y:(g.map λi=>kV i.1)=(vs.map (·.1)).map kV:=by rw[<- d.keys,Gf];rfl
  rw[y,F5,F5,l]at m;cases m;exact CA C
 exact⟨.ref s.heap.objs.size,aB H s.heap.objs.size (.lst (g.map λi=>kV i.1)),I.laid (t':=n) B (Gq _) ⟨by rw[F3];exact z,c.toList,M,v,by simpa using D⟩,rfl,q _ (I.hok.fresh (Gq _))⟩
end
section
variable {K:Type}[DecidableEq K]
def eF(σ:List K)(v:K):List K:=if v∈σ then σ else σ++[v]
def met(l:List K):List K:=l.foldl eF []
theorem qV(σ:List K)(v k:K):decide (k∈eF σ v)=(decide (k∈σ)||decide (k=v)):=by
 unfold eF
 by_cases h:v∈σ
 ·rw[q07 h]
  by_cases e:k=v
  ·subst e;simp[h]
  ·simp[e]
 ·rw[q06 h]
  simp[Gd]
theorem jL(σ:List K)(v:K):(eF σ v).length=if decide (v∈σ) then σ.length else σ.length+1:=by
 unfold eF
 by_cases h:v∈σ<;>simp[h]
theorem qX(l:List K)(v:K):met (l++[v])=eF (met l) v:=by unfold met;rw[List.foldl_append];rfl
theorem uF:∀(l σ:List K),(l.foldl eF σ).length<=σ.length+l.length
 | [],σ=>Gq _
 |v::l,σ=>by
  have h:=uF l (eF σ v);have e:=jL σ v;rw[List.foldl_cons,Gb]
  split at e<;>omega
theorem wE(n:Nat)(l:List K)(h:l.length=n):(met l).length<=n:=by
 have:=uF l [];rw[<- h];unfold met;simpa using this
end
section
variable {prog:G5}{w:G8}{K:Type}[DecidableEq K]{knd:KeyKind prog w K}{A:G7}{R:Result->Shared->Prop}{I:Addr}{fp wr:G2}{G:Array GenState->Array GenState->Prop}{n:Nat}{P:Nat->Value->Prop}{St:Nat->Shared->Prop}
theorem zA(W:WalksS prog w A.in1 I fp wr G n P St)(S:Addr)(hSf:S∉fp)(l:List K)(hl:l.length=n)
  (hval:∀i v,P i v->∃k,l[i]?=some k/\knd.is k v=true/\v.scannable=true) (hb:n+1<scanBound) :
  ∀(k i:Nat) (s:G0),n-i=k->i<=n->St i s ->
   s.heap.SetOf knd S (λk'=>decide (k'∈met (l.take i))) (met (l.take i)).length ->
   (∀s',Moved (S::wr) G s s'->s'.heap.SetOf knd S (λk'=>decide (k'∈met l)) (met l).length->R (.ok (.ret .none)) s') ->
   codeAny (model prog w) A (.builtin "set.update.loop" ⟨[.ref S,.ref I],[]⟩) R s:=by
 have y:S∉wr:=λh=>hSf (W.sub _ h);have a:∀b∈wr,b∈S::wr:=λb hb=>Gh _ hb;intro k
 induction k with
 |zero=>
  intro i s hk hi c B U;have L:i=n:=by omega
  subst L;rw[<- hl,GF]at B;refine codeAny_builtin F.entry_set_update_loop ?_;rw[Around.under_plainId F.plain_set_update_loop _];show wpAny _ A.in1 (pyNext (.ref I) >>= _) _ _ s;refine q04 (W.done s _ _ c λs' q=>?_);show wpAny _ A.in1 (ret Value.none) _ _ s';refine q05 (U s' (q.mono a) ?_);obtain⟨o,Y,Z,t,J,bQ⟩:=B;exact⟨o,Y,Z,t,q.heap S _ y J,bQ⟩
 |succ k ih=>
  intro i s hk hi c B U;have r:i<n:=by omega
  refine codeAny_builtin F.entry_set_update_loop ?_;rw[Around.under_plainId F.plain_set_update_loop _];show wpAny _ A.in1 (pyNext (.ref I) >>= _) _ _ s;refine q04 (W.item i s _ _ r c λv s' hP j q=>?_);obtain⟨g,u,x,D⟩:=hval i v hP;have T:s'.heap.SetOf knd S (λk'=>decide (k'∈met (l.take i))) (met (l.take i)).length:=by
   obtain⟨o,Y,Z,tb,J,bQ⟩:=B;exact⟨o,Y,Z,tb,q.heap S _ y J,bQ⟩
  show wpAny _ A.in1 (holding [v] (setAdd S v) >>= _) _ _ s';refine q04 (q0Y ?_);unfold setAdd;refine q0Y ?_;refine q04 (knd.pyHash (k:=g) x ?_);have d:(met (l.take i)).length+1<scanBound:=by have:=wE i (l.take i) (by rw[GG];omega);omega
  refine wpAny_setAddHashed_of (knd:=knd) (s:={s' with toks:=s'.toks+1}) x D T d λh' m O=>?_;have ht:l.take (i+1)=l.take i++[g]:=by rw[q0E,u];rfl
  have M:h'.SetOf knd S (λk'=>decide (k'∈met (l.take (i+1)))) (met (l.take (i+1))).length:=
   SetOf_congr O (λk'=>by rw[ht,qX,qV]) (by rw[ht,qX,jL])
  refine q05 ⟨plainId_quiet F.plain_set_update_loop _,ih (i+1) _ ⋯ r (W.frame _ s' _ _ j (Nat.le_succ _) λb hb o e=>?_) M λC p z=>?_⟩
  ·rw[m.2 b (λh:b=S=>hSf (by rw[<- h];exact hb))];exact e
  ·refine U C (Moved.trans W.gtrans ((q.mono a).then_heap (Nat.le_succ _) λb o hb e=>?_) p) z
   rw[m.2 b (λh:b=S=>hb (by rw[h];exact q0B))];exact e
end
def cJ(z:Str):List Str:=z.cps.toList.map λc=>(⟨#[c]⟩:Str)
section
variable {prog:G5}{w:G8}{A:G7}{E:GW}{s:G0}
def wD(s:G0)(led:Bool):Shared:={s with heap:=s.heap.push {cls:=.type "set",dict:=none,data:=.set #[] 0 (.fresh 0 0 led)} }
set_option maxHeartbeats 3200000 in
theorem nR{v:Value}{R:Heap->Nat->Prop}{Q:GW}
  (hi:∀led,(wD s led).TypeIs (.ref s.heap.objs.size) "set"->codeAny (model prog w) A.in1 (.call (.builtin "set.__init__") {pos:=[.ref s.heap.objs.size,v]})
   (wants (λr s₂=>r=.none/\∃h' tk,s₂={s with heap:=h',toks:=tk}/\R h' tk) E) (wD s led))
  (h:∀(h':Heap) (tk:Nat),R h' tk->Q (.ref s.heap.objs.size) {s with heap:=h',toks:=tk}) :
  wpAny (model prog w) A (call (.type "set") [v]) Q E s:=by
 obtain⟨c,tl,hmro⟩:=PySem.F.called_set.mro;have hmade:=PySem.F.called_set.made;have hsub:=PySem.F.called_set.sub;refine wpAny_call (codeAny_of_tree ?_);show wpAny _ _ (callAny (.type "set") _) _ _ _;refine q05 ⟨Code.quiet_builtin _ (by decide +kernel),codeAny_builtin PySem.F.entry_type_call ?_⟩;rw[Around.under_plain (weight_type_call_type "set" [v] []) rfl];have h1:=PySem.F.called_set.notType;have h2:=PySem.F.called_set.canCreate;have hct:=PySem.F.typeCall_set_1 v
 repeat (any_goals (first | with_reducible assumption | with_reducible refine q05 ?_ | with_reducible refine q04 ?_ | with_reducible refine q0Y ?_ | with_reducible refine wpAny_of_eq (by assumption) ?_ | with_reducible refine wpAny_isInstance (by assumption) (by assumption) ?_ | with_reducible refine wpAny_specialOf (by assumption) (by assumption) ?_ | with_reducible refine wpAny_call ?_ | ((with_reducible apply wpAny_ite_false);focus (rfl;done)) | wp_delta))
 refine codeAny_mono (code_set_new_1 v (E:=E) (Q₁:=λb d=>∃led:Bool,b=.ref s.heap.objs.size/\d=wD s led) λled=>⟨led,rfl,rfl⟩) λr d hr=>?_;cases r with
 |error e=>exact hr
 |ok fl=>
  cases fl with
  |ret b=>
   obtain⟨led,rfl,rfl⟩:=hr;have i:(wD s led).TypeIs (.ref s.heap.objs.size) "set":=⟨_,F8 _ rfl,rfl⟩;have hli:=PySem.F.called_set.init.lookup;have hbi:=PySem.F.called_set.init.bind (.ref s.heap.objs.size)
   repeat (any_goals (first | with_reducible assumption | with_reducible refine q05 ?_ | with_reducible refine q04 ?_ | with_reducible refine q0Y ?_ | with_reducible refine wpAny_of_eq (by assumption) ?_ | with_reducible refine wpAny_isInstance (by assumption) (by assumption) ?_ | with_reducible refine wpAny_specialOf (by assumption) (by assumption) ?_ | with_reducible refine wpAny_call ?_ | ((with_reducible apply wpAny_ite_false);focus (rfl;done)) | wp_delta))
   refine codeAny_mono (hi led i) λg s₂ a=>?_;cases g with
   |error e=>exact a
   |ok fl₂=>
    cases fl₂ with
    |ret r=>
     obtain⟨rfl,h',tk,rfl,j⟩:=a
     repeat (any_goals (first | with_reducible assumption | with_reducible refine q05 ?_ | with_reducible refine q04 ?_ | with_reducible refine q0Y ?_ | with_reducible refine wpAny_of_eq (by assumption) ?_ | with_reducible refine wpAny_isInstance (by assumption) (by assumption) ?_ | with_reducible refine wpAny_specialOf (by assumption) (by assumption) ?_ | with_reducible refine wpAny_call ?_ | ((with_reducible apply wpAny_ite_false);focus (rfl;done)) | wp_delta))
     exact h _ _ j
    |_=>exact a.elim
  |_=>exact hr.elim
theorem my{x:Str}{t:Tok}{Q:GW}(hh:A.handled=none)(hb:x.cps.size+1<scanBound)
  (h:∀(h':Heap) (tk:Nat),h'.SetOf (strKind prog w) s.heap.objs.size (λk'=>decide (k'∈met (cJ x))) (met (cJ x)).length ->
   (∀b o,s.heap.get? b=some o->h'.get? b=some o)->Q (.ref s.heap.objs.size) {s with heap:=h',toks:=tk}) :
  wpAny (model prog w) A (call (.type "set") [.str x t]) Q E s:=by
 refine nR (R:=λh' _=>h'.SetOf (strKind prog w) s.heap.objs.size (λk'=>decide (k'∈met (cJ x))) (met (cJ x)).length/\∀b o,s.heap.get? b=some o->h'.get? b=some o)
  (λa q=>?_) λh' tk hr=>h h' tk hr.1 hr.2
 refine codeAny_call_builtin PySem.F.called_set.init.plain PySem.F.entry_set_init (check_set_init_1 q ?_);unfold wD at q ⊢;have B:(s.heap.push {cls:=.type "set",dict:=none,data:=.set #[] 0 (.fresh 0 0 a)}).get? s.heap.objs.size=some {cls:=.type "set",dict:=none,data:=.set #[] 0 (.fresh 0 0 a)}:=F8 _ rfl;have hsls:=PySem.F.sub_str_set;have hslf:=PySem.F.sub_str_frozenset;have hne:(Value.type "str" == Value.type "dict")=false:=by decide
 unfold Builtin.«set.__init__» noKeywords Builtin.Frozenset.updateFrom;generalize n:pyIter=PI
 wp_walk
 subst n;refine wpAny_pyIter_str λo St W k=>?_;refine q04 (wpAny_runValue ?_);have l:s.heap.objs.size∉[(s.heap.push {cls:=.type "set",dict:=none,data:=.set #[] 0 (.fresh 0 0 a)}).objs.size]:=by
  rw[Heap.size_push];simp only[F4]
  exact Gm (GA _)
 refine zA (knd:=strKind prog w) ((W _ (by simp[hh])).toS) s.heap.objs.size l (cJ x) (by simp[cJ])
  (λi v ⟨c,u,z,p⟩=>⟨⟨#[c]⟩,by unfold cJ;rw[F5,q0G,z];rfl,by rw[p];exact strKind_is _ _ _ _,by rw[p];rfl⟩) hb (x.cps.size-0) 0 _ ⋯ (Gr _) k ?hS0 ?hR
 case hS0=>
  exact SetOf_congr ((setObjOf_fresh (knd:=strKind prog w) a).setOf (F1 _ B) (by unfold scanBound;omega)) (λ_=>rfl) rfl
 case hR=>
  intro r d m;obtain⟨h',C,J,g,j⟩:=r;have G:C=s.gens:=d.gens;have I:J=s.drawn:=d.drawn;have D:j=s.os:=d.os;subst G;subst I;subst D
  show wpAny _ _ _ _ _ _;refine q05 ?_;show wpAny _ _ (ret Value.none) _ _ _;refine q05 ⟨rfl,h',g,rfl,m,λb y e=>?_⟩;have hb:=Gu e;refine d.heap b y ?_ (F1 _ (F1 _ e));simp only[Gg,List.not_mem_nil,or_false,not_or,Heap.size_push];exact⟨Gm hb,Gm (Nat.lt_succ_of_lt hb)⟩
end
def oP(t:TE):TE:=λσ H Q=>t σ H λx H1=>∃z,x=.str z/\z.cps.size+1<scanBound/\Q (.int (met (cJ z)).length) H1
section
variable {X:Cx}{e:Expr}{t:TE}{p p2 pos pos2:Pos}
theorem u_(hc:X.calm=true)(ha:PE X e t)(g1:Gl X "len")(m1:X.mg "len"=none)(g2:Gl X "set")(m2:X.mg "set"=none)
  (he1:autoParam (starEach [.Call (.Name "set" p2) [e] [] pos2] X.env=[(false,eval (.Call (.Name "set" p2) [e] [] pos2) X.env)]) zz0._auto_1)
  (he2:autoParam (starEach [e] X.env=[(false,eval e X.env)]) zz0._auto_1) :
  PE X (.Call (.Name "len" p) [.Call (.Name "set" p2) [e] [] pos2] [] pos) (oP t):=by
 intro a s σ H Q I h;have k:bootBuiltins "len"=some (.builtin "len"):=by decide +kernel
 have i:bootBuiltins "set"=some (.type "set"):=by decide +kernel
 refine wpAny_Call_Name_kw (dS I g1 m1 k ?_);refine PyProof.Rows.callWith_builtin1 ?_ he1 rfl;rw[he1];show wpAny _ _ (spliced [(false,eval (.Call (.Name "set" p2) [e] [] pos2) X.env)]) _ _ _;refine Calls.spliced_cons ?_;refine wpAny_Call_Name_kw (dS (I.tok _) g2 m2 i ?_);refine PyProof.Rows.callWith_type1 ?_ he2 rfl;rw[he2];show wpAny _ _ (spliced [(false,eval e X.env)]) _ _ _;refine Calls.spliced_cons (bH (ha a _ σ H _ (I.tok _) h) λu s1 ⟨x,H1,v,g,z,r,c,q⟩=>Calls.spliced_nil ?_);subst r;obtain⟨tk,rfl⟩:=g;refine my (I.ok.hd hc) c λh' tk' n l=>Calls.spliced_nil ?_;obtain⟨o,j,b,es,ep,tb,hd,_,_,d,m⟩:=n.objOf;have hle:=wE z.cps.size (cJ z) (by simp[cJ]);have hb:z.cps.size<4096:=by unfold scanBound at c;omega
 refine call_len_set j b hd m (by rw[d];have:((4096:Nat):Int)<2^63:=nofun;omega) ?_;rw[d];exact⟨.int _,H1,(v.kept (t':=_) l),⟨_,rfl⟩,q⟩
end
abbrev NT:=List (Str×Addr×List Nat)
def qG(t:NT):List (b9×V):=t.map λx=>(Sum.inr x.1,V.ref x.2.1)
def tJ(ns:GZ):List V:=ns.map fun(n:Nat)=>V.int (n:Int)
structure cB(H:Hp)(p:Addr)(t:NT):Prop where
 dict:H p=some (.dK (qG t))
 list:∀x∈t,H x.2.1=some (.lst (tJ x.2.2))
 apart:(t.map (·.2.1)).Nodup
theorem cB.grow{H H':Hp}{p:Addr}{t:NT}(N:cB H p t)(k:∀a o,H a=some o->H' a=some o):cB H' p t:=⟨k _ _ N.dict,λx hx=>k _ _ (N.list x hx),N.apart⟩
theorem xN(z:Str):∀t:NT,c3 (qG t) (.inr z)=(t.find? λx=>decide (x.1=z)).map λx=>V.ref x.2.1
 | []=>rfl
 |x::t=>by
  have ih:=xN z t;unfold qG at ih ⊢;rw[Gx,List.find?_cons]
  by_cases e:x.1=z
  ·rw[fH (by rw[e])];simp[e]
  ·rw[fB (λh=>e (Sum.inr.inj h)),ih];simp[e]
theorem cB.new{H:Hp}{p l:Addr}{t:NT}{z:Str}(N:cB H p t)(hl:H l=none)(hz:c3 (qG t) (.inr z)=none) :
  cB (aB (aB H l (.lst [])) p (.dK (cM (qG t) (.inr z) (.ref l)))) p (t++[(z,l,[])]):=by
 have d:p≠l:=λe=>by have:=N.dict;rw[e,hl]at this;exact nomatch this
 have c:∀x∈t,x.2.1≠l/\x.2.1≠p:=λx c=>by
  have q:=N.list x c
  constructor
  ·intro e;rw[e,hl]at q;exact nomatch q
  ·intro e;rw[e,N.dict]at q;exact nomatch q
 refine⟨?_,λx h=>?_,?_⟩
 ·rw[af,wq _ hz];unfold qG;rw[Gc];rfl
 ·rcases Gd.mp h with h | h
  ·rw[ai (c x h).2,ai (c x h).1];exact N.list x h
  ·rw[F4.mp h,ai (Ne.symm d),af];rfl
 ·rw[Gc]
  refine List.nodup_append.mpr ⟨N.apart,by simp,λa i b g=>?_⟩;obtain⟨x,h1,rfl⟩:=GM.mp i;rw[List.map_singleton]at g;rw[F4.mp g];exact(c x h1).1
theorem cB.put{H:Hp}{p:Addr}{t:NT}{i k:Nat}{x:Str×Addr×List Nat}(N:cB H p t)(hi:t[i]?=some x) :
  cB (aB H x.2.1 (.lst (tJ (x.2.2++[k])))) p (t.set i (x.1,x.2.1,x.2.2++[k])):=by
 have l:x∈t:=F6 hi;have g:p≠x.2.1:=λe=>by have:=N.list x l;rw[<- e,N.dict]at this;exact nomatch this
 have a:i<t.length:=(F0.mp hi).1;have m:qG (t.set i (x.1,x.2.1,x.2.2++[k]))=qG t:=by
  unfold qG;apply List.ext_getElem?;intro j;rw[F5,F5,List.getElem?_set]
  by_cases e:i=j
  ·subst e;rw[q07 rfl,q07 a,hi];rfl
  ·rw[q06 e]
 have n:(t.set i (x.1,x.2.1,x.2.2++[k])).map (·.2.1)=t.map (·.2.1):=by
  apply List.ext_getElem?;intro j;rw[F5,F5,List.getElem?_set]
  by_cases e:i=j
  ·subst e;rw[q07 rfl,q07 a,hi];rfl
  ·rw[q06 e]
 refine⟨by rw[ai g,m];exact N.dict,λy d=>?_,by rw[n];exact N.apart⟩;obtain⟨j,b⟩:=List.mem_iff_getElem?.mp d;rw[List.getElem?_set]at b
 by_cases e:i=j
 ·rw[q07 e,q07 a]at b
  cases b;exact af
 ·rw[q06 e]at b
  have c:y.2.1≠x.2.1:=by
   intro q;have h1:(t.map (·.2.1))[i]?=some x.2.1:=by rw[F5,hi];rfl
   have h2:(t.map (·.2.1))[j]?=some x.2.1:=by rw[F5,b];simp[q]
   exact e ((List.getElem?_inj (F0.mp h1).1 N.apart).mp (h1.trans h2.symm))
  rw[ai c];exact N.list y (F6 b)
def gX(t:NT):List (Str×List Nat):=t.map λx=>(x.1,x.2.2)
def bI(m:List (Str×List Nat))(z:Str):List (Str×List Nat):=if z∈m.map (·.1) then m else m++[(z,[])]
theorem xK{t:NT}{z:Str}{v:V}(h:c3 (qG t) (.inr z)=some v):∃(i:Nat) (x:Str×Addr×List Nat),t[i]?=some x/\x.1=z/\v=.ref x.2.1:=by
 rw[xN]at h;cases a:t.find? (λx=>decide (x.1=z)) with
 |none=>rw[a]at h;exact nomatch h
 |some x=>
  rw[a]at h;have c:V.ref x.2.1=v:=q0S h;obtain⟨i,d⟩:=List.mem_iff_getElem?.mp (List.mem_of_find?_eq_some a);have b:=List.find?_some a;exact⟨i,x,d,of_decide_eq_true b,c.symm⟩
theorem t8(t:NT):(gX t).map (·.1)=t.map (·.1):=by unfold gX;rw[Gf];rfl
theorem A6{t:NT}{z:Str}(h:c3 (qG t) (.inr z)=none):¬ z∈(gX t).map (·.1):=by
 intro m;rw[t8]at m;obtain⟨x,a,e⟩:=GM.mp m;refine xM h (GM.mpr ⟨(.inr x.1,.ref x.2.1),GM.mpr ⟨x,a,rfl⟩,?_⟩);show(Sum.inr x.1:b9)=Sum.inr z;rw[e]
theorem cB.setdef{H:Hp}{p l:Addr}{t:NT}{z:Str}{Q:VK}(N:cB H p t)(hl:H l=none)(hn:t.length<sizeLine)
  (h:∀(H':Hp) (t':NT) (i:Nat) (x:Str×Addr×List Nat),cB H' p t'->t'[i]?=some x->x.1=z->gX t'=bI (gX t) z->(∀y∈t',y∈t\/y.2.1=l)->(∀a o,a≠p->H a=some o->H' a=some o)->Q (.ref x.2.1) H') :
  ∃kvs k,aB H l (.lst []) p=some (.dK kvs)/\V.str z=kV k/\kvs.length<sizeLine/\(∀v,c3 kvs k=some v->Q v (aB H l (.lst []))) /\
   (c3 kvs k=none->Q (.ref l) (aB (aB H l (.lst [])) p (.dK (cM kvs k (.ref l))))):=by
 have hpl:p≠l:=λe=>by have:=N.dict;rw[e,hl]at this;exact nomatch this
 have b:∀a o,H a=some o->aB H l (.lst []) a=some o:=λa o e=>by
  rw[ai (λq=>by rw[q,hl]at e;exact nomatch e)];exact e
 refine⟨qG t,.inr z,b _ _ N.dict,rfl,by unfold qG;rw[F3];exact hn,λv m=>?_,λd=>?_⟩
 ·obtain⟨i,x,j,g,rfl⟩:=xK m
  refine h _ t i x (N.grow b) j g ?_ (λy c=>.inl c) λa o _ e=>b a o e;have n:z∈(gX t).map (·.1):=by rw[t8];exact GM.mpr ⟨x,F6 j,g⟩
  unfold bI;rw[q07 n]
 ·refine h _ (t++[(z,l,[])]) t.length (z,l,[]) (N.new hl d) (by simp) rfl ?_ (λy c=>(Gd.mp c).imp id λq=>by rw[F4.mp q]) λa o r e=>by rw[ai r];exact b a o e
  unfold bI;rw[q06 (A6 d)];unfold gX;rw[Gc];rfl
theorem zY{t:NT}{i:Nat}{x:Str×Addr×List Nat}(k:Nat):gX (t.set i (x.1,x.2.1,x.2.2++[k]))=(gX t).set i (x.1,x.2.2++[k]):=by
 unfold gX;rw[List.map_set]
theorem iA{m:List (Str×List Nat)}{z:Str}(h:(m.map (·.1)).Nodup):((bI m z).map (·.1)).Nodup:=by
 unfold bI
 by_cases e:z∈m.map (·.1)
 ·rw[q07 e];exact h
 ·rw[q06 e,Gc]
  refine List.nodup_append.mpr ⟨h,by simp,λa d b c=>?_⟩;rw[List.map_singleton]at c;rw[F4.mp c];exact λq=>e ((show a=z from q)▸d)
theorem qm{X:Cx}{e:Expr}{t:TA}{x:Str}{j:Nat}{p apos cpos:Pos}(ha:PA X [e] t)(hline:(apos.endLine==cpos.line)=true)(hs:starEach [e] X.env=[(false,eval e X.env)]) :
  PE X (.Call (.Attribute (.Constant (.str x) j p) "join" apos) [e] [] cpos) (Dc X.K "str" (uc X.K) (tC (.str x)) t):=
 gm PySem.F.plainAttrs_str PySem.F.slot_str_join PySem.F.type_str_join zt lg ha rfl (by rw[hs];rfl) hline hs rfl
end L2
namespace QL
open PySem PySem.Spec PyProof.Rows
theorem BK:bootBuiltins "min"=some (.builtin "min"):=by decide +kernel
end QL
namespace L2
open PySem PySem.Spec PyProof.Rows QL
section
variable {K:GX}{g:TG}{ti:TT}{te:TE}{σ:St}{H:Hp}{Q:List V->Hp->Prop}{α:Type}
theorem kx{as:List α}{f:α->Option V}{i:Nat}{x:α}(hx:as[i]?=some x):(as.take (i+1)).filterMap f=(as.take i).filterMap f++(f x).toList:=by
 rw[q0E,hx,List.filterMap_append];show _++List.filterMap f [x]=_;cases h:f x<;>simp[h]
theorem ww{as:List α}{f:α->Option V}(i:Nat):((as.take i).filterMap f).length<=as.length:=Gy (List.length_filterMap_le _ _) (by rw[GG];omega)
theorem uE{as:List α}(f:α->V):as.filterMap (λx=>some (f x))=as.map f:=by induction as with | nil=>rfl | cons x xs ih=>simp
theorem rO{a:Addr}{as:List α}{emb:α->V}{f:α->Option V}(S:St->Prop)(h0:S σ)(hl:∀H',aA H H'->aT K H' a (as.map emb))(hn:as.length<=1000000)
  (hs:∀(i:Nat) x,as[i]?=some x->∀σ H' (N1:V->St->Hp->Prop) (N0:St->Hp->Prop),S σ->aA H H'->(∀v σ2 H2,f x=some v->aA H H2->S σ2->N1 v σ2 H2)->(∀σ2 H2,f x=none->aA H H2->S σ2->N0 σ2 H2) ->
   g (emb x) σ H' λσ2 H3=>ti σ2 H3 λb H4=>if b=true then te σ2 H4 λv H5=>N1 v σ2 H5 else N0 σ2 H4)
  (he:∀H',aA H H'->Q (as.filterMap f) H'):gq (yI K a) g ti te σ H Q:=by
 refine dI (xs:=as.map emb) (λi c σ H'=>aA H H'/\c=(as.take i).filterMap f/\i<=as.length/\S σ) ⟨λ_ _ e=>e,rfl,Gr _,h0⟩ ?_ ?_ ?_ ?_ ?_
 ·rintro i c σ H' ⟨_,rfl,_⟩
  have:=ww (as:=as) (f:=f) i;exact aY ⋯
 ·rintro i c σ H' ⟨_,_,h,_⟩
  rw[F3];exact h
 ·rintro i c σ H' ⟨j,_⟩
  exact hl _ j
 ·rintro i x c σ H' k ⟨j,rfl,hi,m⟩
  have d:i<as.length:=by have:=(F0.mp k).1;rwa [F3]at this
  rw[F5,FZ d]at k;cases k;have l:as[i]?=some as[i]:=FZ d;refine hs i as[i] l σ H' (λv σ2 H5=>_) (λσ2 H4=>_) m j (λv σ2 H2 hf s2 hS2=>⟨s2,?_,d,hS2⟩) (λσ2 H2 hf s2 hS2=>⟨s2,?_,d,hS2⟩)
  ·rw[kx l,hf];rfl
  ·rw[kx l,hf];simp
 ·rintro c σ H' ⟨j,rfl,_⟩
  have e:(as.take (as.map emb).length).filterMap f=as.filterMap f:=by rw[F3,GF]
  rw[e];exact he _ j
theorem rR{a:Addr}{as:List α}{emb:α->V}{f:Nat->α->Option V}(S:St->Prop)(h0:S σ)(hl:∀H',aA H H'->aT K H' a (as.map emb))(hn:as.length<=1000000)
  (hs:∀(i:Nat) x,as[i]?=some x->∀σ H' T (N1:V->St->Hp->Prop) (N0:St->Hp->Prop),S σ->aA H H'->H' T=none->(∀v σ2 H2,f i x=some v->aA H H2->S σ2->N1 v σ2 H2)->(∀σ2 H2,f i x=none->aA H H2->S σ2->N0 σ2 H2) ->
   g (.ref T) σ (aB H' T (.tup [.int (i:Int),emb x])) λσ2 H3=>ti σ2 H3 λb H4=>if b=true then te σ2 H4 λv H5=>N1 v σ2 H5 else N0 σ2 H4)
  (he:∀H',aA H H'->Q (as.zipIdx.filterMap λx=>f x.2 x.1) H'):gq (CP K a) g ti te σ H Q:=by
 have l:as.zipIdx.length=as.length:=List.length_zipIdx;refine iB (J:=CP K a) (n:=as.length) (λi c σ H'=>aA H H'/\c=(as.zipIdx.take i).filterMap (λx=>f x.2 x.1)/\i<=as.length/\S σ) ⟨λ_ _ e=>e,rfl,Gr _,h0⟩ ?_ ?_ ?_ ?_ ?_ ?_
 ·rintro i c σ H' ⟨_,rfl,_⟩
  have:=ww (as:=as.zipIdx) (f:=λx=>f x.2 x.1) i;exact aY ⋯
 ·rintro i c σ H' ⟨_,_,h,_⟩
  exact h
 ·rintro c σ H' ⟨j,_⟩
  exact⟨_,hl _ j,by rw[F3];exact Gq _⟩
 ·rintro i c σ H' d ⟨j,_⟩
  exact⟨_,emb as[i],hl _ j,by rw[F5,FZ d];rfl⟩
 ·rintro i x c σ H' H2 d ⟨j,rfl,hi,q⟩ ⟨T,y,rfl,p,rfl,k⟩
  have m:as[i]?=some as[i]:=FZ d;have k:=k _ (hl _ j);rw[F5,m]at k;cases k;have o:as.zipIdx[i]?=some (as[i],i):=by rw[List.getElem?_zipIdx,m];simp
  refine hs i as[i] m σ H' T (λv σ2 H5=>_) (λσ2 H4=>_) q j p (λv σ2 H2 hf s2 hS2=>⟨s2,?_,d,hS2⟩) (λσ2 H2 hf s2 hS2=>⟨s2,?_,d,hS2⟩)
  ·rw[kx o];simp only[hf];rfl
  ·rw[kx o];simp[hf]
 ·rintro c σ H' ⟨j,rfl,_⟩
  have e:(as.zipIdx.take as.length).filterMap (λx=>f x.2 x.1)=as.zipIdx.filterMap (λx=>f x.2 x.1):=by rw[<- l,GF]
  rw[e];exact he _ j
theorem jT{n:Nat}{f:Nat->Option V}(S:St->Prop)(h0:S σ)(hn:n<=1000000)
  (hs:∀i,i<n->∀σ H' (N1:V->St->Hp->Prop) (N0:St->Hp->Prop),S σ->aA H H'->(∀v σ2 H2,f i=some v->aA H H2->S σ2->N1 v σ2 H2)->(∀σ2 H2,f i=none->aA H H2->S σ2->N0 σ2 H2) ->
   g (.int (0+(i:Int))) σ H' λσ2 H3=>ti σ2 H3 λb H4=>if b=true then te σ2 H4 λv H5=>N1 v σ2 H5 else N0 σ2 H4)
  (he:∀H',aA H H'->Q ((List.range n).filterMap f) H'):gq (vk 0 n) g ti te σ H Q:=by
 refine il (lo:=0) (n:=n) (λi a σ H'=>aA H H'/\a=(List.range i).filterMap f/\i<=n/\S σ) ⟨λ_ _ e=>e,rfl,Gr _,h0⟩ ?_ ?_ ?_ ?_
 ·rintro i a σ H' ⟨_,rfl,c,_⟩
  have:=List.length_filterMap_le f (List.range i);rw[q0J]at this;exact aY ⋯
 ·rintro i a σ H' ⟨_,_,h,_⟩
  exact h
 ·rintro i a σ H' c ⟨d,rfl,_,j⟩
  refine hs i c σ H' (λv σ2 H5=>_) (λσ2 H4=>_) j d (λv σ2 H2 hf s2 hS2=>⟨s2,?_,c,hS2⟩) (λσ2 H2 hf s2 hS2=>⟨s2,?_,c,hS2⟩)
  ·rw[q0M,List.filterMap_append];simp[hf]
  ·rw[q0M,List.filterMap_append];simp[hf]
 ·rintro a σ H' ⟨d,rfl,_⟩
  exact he _ d
end
end L2
namespace ThM
open PySem L2
def addNew(ks:G6)(z:Str):List Str:=if z∈ks then ks else ks++[z]
theorem mem_addNew{ks:G6}{z y:Str}:y∈addNew ks z↔y∈ks\/y=z:=by
 unfold addNew
 split
 ·rename_i h
  exact⟨.inl,λq=>q.elim id λe=>e▸h⟩
 ·rw[Gd,F4]
def trueD(zs:G6):List (b9×V):=zs.map λz=>(Sum.inr z,V.bl true)
theorem trueD_val(z:Str):∀zs:List Str,(c3 (trueD zs) (.inr z)).isSome=decide (z∈zs)
 | []=>rfl
 |y::zs=>by
  have ih:=trueD_val z zs;unfold trueD at ih ⊢;rw[Gx]
  by_cases e:y=z
  ·rw[fH (by rw[e])]
   simp[e]
  ·rw[fB (λq=>e (Sum.inr.inj q)),ih]
   have:¬ z=y:=λq=>e q.symm;simp[this]
theorem trueD_put(zs:G6)(z:Str):cM (trueD zs) (.inr z) (V.bl true)=trueD (addNew zs z):=by
 unfold cM;rw[fD,trueD_val];unfold addNew
 by_cases h:z∈zs
 ·rw[q09 h,q07 rfl,q07 h]
  unfold trueD;rw[Gf];refine q0K λy _=>?_;show(if(Sum.inr y:b9)=Sum.inr z then _ else _)=_
  split<;>rfl
 ·rw[q08 h,q06 nofun,q06 h]
  unfold trueD;rw[Gc];rfl
theorem trueD_len(zs:G6):(trueD zs).length=zs.length:=by unfold trueD;rw[F3]
section
variable {α:Type}(f:List α->List α)
def rep:Nat->List α->List α
 |0,s=>s
 |n+1,s=>f (rep n s)
variable {f}
end
abbrev NR:=Str×List Str
def zu(ks:G6)(r:NR):List Str:=if(∀z∈r.2,z∈ks) then addNew ks r.1 else ks
def wg(rs:List NR)(ks:G6):List Str:=rs.foldl zu ks
theorem nd_len{ks ms:G6}(hn:ks.Nodup)(h:∀z∈ks,z∈ms):ks.length<=ms.length:=by
 induction ks generalizing ms with
 |nil=>exact Gr _
 |cons k ks ih=>
  rw[List.nodup_cons]at hn;have c:=h k q0B;have h1:=ih (ms:=ms.erase k) hn.2 λz b=>by
   have a:z≠k:=λe=>hn.1 (e▸b);exact(List.mem_erase_of_ne a).mpr (h z (Gh _ b))
  have h2:=List.length_erase_of_mem c;have h3:=List.length_pos_of_mem c;rw[Gb];omega
def AR(rs:List NR):List Str:=rep (wg rs) rs.length []
end ThM
namespace ThM
open PySem L2
theorem iG{y:Str}:∀(zs ks:G6),y∈zs.foldl addNew ks↔y∈ks\/y∈zs
 | [],ks=>by simp
 |z::zs,ks=>by
  rw[List.foldl_cons,iG zs,mem_addNew,Gg];exact⟨λh=>h.elim (λh=>h.elim .inl λe=>.inr (.inl e)) λh=>.inr (.inr h),λh=>h.elim (λh=>.inl (.inl h)) λh=>h.elim (λe=>.inl (.inr e)) .inr⟩
def we(ks:G6)(r:NR):List Str:=if r.1∈ks then r.2.foldl addNew ks else ks
def vK(rs:List NR)(ks:G6):List Str:=rs.foldl we ks
def Cq(ks:G6)(r:NR):Prop:=r.1∈ks/\∀z∈r.2,z∈ks
noncomputable instance (ks:G6)(r:NR):Decidable (Cq ks r):=by unfold Cq;infer_instance
def BM(st:Str)(rs:List NR):List Str:=rep (vK rs) rs.length [st]
def At(rs:List NR)(r:NR):Bool:=decide (∀z∈r.2,z∈AR rs)
def DF(rs:List NR):List NR:=rs.filter (At rs)
def DR(st:Str)(rs:List NR):List Str:=BM st (DF rs)
def keep(st:Str)(rs:List NR)(r:NR):Bool:=decide (r.1∈DR st rs)&&At rs r
end ThM
namespace L2
open PySem PySem.Spec PyProof.Rows
section
variable {X:Cx}{es:Ha}{t:TA}{te:TE}
end
end L2
namespace L2
open PySem PySem.Spec PyProof.Rows QL
section
variable {X:Cx}
theorem xo{x:V}(h:qN x=true):zi x x=true:=by cases x<;>simp_all [qN,zi]
end
end L2
namespace L2
open PySem PySem.Spec PyProof.Rows
end L2
namespace L2
open PySem PySem.Spec PyProof.Rows QL
def A3(H H':Hp):Prop:=∀b xs,H b=some (.tup xs)->H' b=some (.tup xs)
end L2
namespace L2
open PySem PySem.Spec PyProof.Rows QL aD
theorem D6{a:Addr}{P:Addr->Prop}:(∃p,V.ref a=V.ref p/\P p)=P a:=by simp
theorem DM{a:Int}{P:Int->Prop}:(∃p,V.int a=V.int p/\P p)=P a:=by simp
theorem DX{a:Bool}{P:Bool->Prop}:(∃p,V.bl a=V.bl p/\P p)=P a:=by simp
theorem D5{a:Str}{P:Str->Prop}:(∃p,V.str a=V.str p/\P p)=P a:=by simp
theorem DQ{α:Type}{a:Addr}{P:Addr->α->Prop}:(∃p,∃x,V.ref a=V.ref p/\P p x) = ∃x,P a x:=by simp
theorem D8{α:Type}{a:Addr}{P:Addr->α->Prop}:(∃p,∃x,[V.ref a]=[V.ref p]/\P p x) = ∃x,P a x:=by simp
theorem Du{α:Type}{a:Addr}{v:V}{P:Addr->α->V->Prop}:(∃p,∃x,∃y,V.ref a=V.ref p/\[v]=[y]/\P p x y) = ∃x,P a x v:=by simp
theorem D4{α β:Type}{a b:Addr}{P:Addr->Addr->α->β->Prop}:(∃p,∃q,∃x,∃y,V.ref a=V.ref p/\V.ref b=V.ref q/\P p q x y) = ∃x,∃y,P a b x y:=by simp
def Dp(i:Nat):TE:=λσ H Q=>match σ[i]? with
 |some (some v)=>Q v H
 |_=>False
def zS(g:Int->Int->V):R2
 | .int i,.int j,H,Q=>Q (g i j) H
 |x,y,H,Q=>uN g x y H Q
def Dm(C:Int->Int->Prop)(g:Int->Int->V):R2
 | .int i,.int j,H,Q=>C i j/\Q (g i j) H
 |x,y,H,Q=>rI C g x y H Q
def uo(K:GX):R2
 | .ref p,.int i,H,Q=>∃xs,aT K H p xs/\∃v,nv xs i=some v/\Q v H
 |x,y,H,Q=>uT K x y H Q
def uw(K:GX):R2
 | .ref p,.int i,H,Q=>∃xs,jv K H p xs/\∃v,nv xs i=some v/\Q v H
 |x,y,H,Q=>yo K x y H Q
theorem yt{g:Int->Int->V}{x y:V}{H:Hp}{Q:VK}:zS g x y H Q=uN g x y H Q:=by
 unfold zS;split
 ·simp[uN]
 ·rfl
theorem Ak{C:Int->Int->Prop}{g:Int->Int->V}{x y:V}{H:Hp}{Q:VK}:Dm C g x y H Q=rI C g x y H Q:=by
 unfold Dm;split
 ·simp[rI]
 ·rfl
theorem t9{K:GX}{x y:V}{H:Hp}{Q:VK}:uo K x y H Q=uT K x y H Q:=by
 unfold uo;split
 ·simp[uT]
 ·rfl
theorem uv{K:GX}{x y:V}{H:Hp}{Q:VK}:uw K x y H Q=yo K x y H Q:=by
 unfold uw;split
 ·simp[yo]
 ·rfl
theorem yO{g:Int->Int->V}{i j:Int}{H:Hp}{Q:VK}:zS g (.int i) (.int j) H Q=Q (g i j) H:=rfl
theorem BL{C:Int->Int->Prop}{g:Int->Int->V}{i j:Int}{H:Hp}{Q:VK}:Dm C g (.int i) (.int j) H Q=(C i j/\Q (g i j) H):=rfl
theorem yG{K:GX}{p:Addr}{i:Int}{H:Hp}{Q:VK}:uo K (.ref p) (.int i) H Q = ∃xs,aT K H p xs/\∃v,nv xs i=some v/\Q v H:=rfl
theorem xm{K:GX}{p:Addr}{i:Int}{H:Hp}{Q:VK}:uw K (.ref p) (.int i) H Q = ∃xs,jv K H p xs/\∃v,nv xs i=some v/\Q v H:=rfl
theorem FA{α β:Type}{f:α->β}{a:α}{l:List α}:List.map f (a::l)=f a::List.map f l:=rfl
theorem EE{α β:Type}{f:α->β}:List.map f []=[]:=rfl
theorem ER{α:Type}{a:α}{l m:List α}:(a::l)++m=a::(l++m):=rfl
theorem EQ{α:Type}{m:List α}:[]++m=m:=rfl
theorem EC{α:Type}{a:α}{l:List α}:(a::l)[0]?=some a:=rfl
theorem Ew{α:Type}{a:α}{l:List α}{n:Nat}:(a::l)[n+1]?=l[n]?:=rfl
theorem Fc{α:Type}{a b:α}{l:List α}:(a::l).set 0 b=b::l:=rfl
theorem FI{α:Type}{a b:α}{l:List α}{n:Nat}:(a::l).set (n+1) b=a::l.set n b:=rfl
section
variable {X:Cx}
theorem aw(i:Nat){x:Str}{pos:Pos}(hN:autoParam (X.N[i]?=some x) zz0._auto_1)(hv:autoParam (Di X.env.scope x) zz5._auto_1)(hd:autoParam ((x==("__debug__":Str))=false) zz1._auto_1)
  (hc:autoParam ((x==("__classdict__":Str))=false) zz1._auto_1):PE X (.Name x pos) (Dp i):=λpins s σ H Q I h=>pv i hN hv hd hc pins s σ H Q I (by
 unfold Dp at h
 split at h
 ·exact⟨_,‹_›,h⟩
 ·exact h.elim)
theorem bD.m0{f:Value->Value->Sem Value}{g:Int->Int->V}(h:bD X f (uN g)):bD X f (zS g):=λpins s σ H x y v u Q I a b c=>h pins s σ H x y v u Q I a b (yt▸c)
theorem bD.m1{f:Value->Value->Sem Value}{C:Int->Int->Prop}{g:Int->Int->V}(h:bD X f (rI C g)):bD X f (Dm C g):=λpins s σ H x y v u Q I a b c=>h pins s σ H x y v u Q I a b (Ak▸c)
theorem cq:BQ X (uo X.K):=λe sl pins s σ H x y v u Q I a b c d=>nQ e sl pins s σ H x y v u Q I a b (t9▸c) d
theorem eB:BQ X (uw X.K):=λe sl pins s σ H x y v u Q I a b c d=>Bl e sl pins s σ H x y v u Q I a b (uv▸c) d
end
inductive TrD:Dt->Prop
 |mk (i:Int) (ds:List Dt):(∀d∈ds,TrD d)->TrD (.tup (.int i::ds))
section
variable {β:Type}{A:Hp->Addr->β->Prop}
def bf(A:Hp->Addr->β->Prop)(H:Hp)(bs:G2)(ys:List β):Prop:=bs.length=ys.length/\∀(i:Nat) b y,bs[i]?=some b->ys[i]?=some y->A H b y
def i5(A:Hp->Addr->β->Prop)(H:Hp)(l:Addr)(ys:List β):Prop:=∃bs:List Addr,H l=some (.lst (bs.map V.ref))/\bf A H bs ys
theorem bf.nil{H:Hp}:bf A H [] []:=⟨rfl,λi b y e=>by simp at e⟩
theorem bf.mono{A':Hp->Addr->β->Prop}{H H':Hp}{bs:G2}{ys:List β}(h:bf A H bs ys)(u:∀b y,b∈bs->y∈ys->A H b y->A' H' b y):bf A' H' bs ys:=⟨h.1,λi b y e1 e2=>u b y (F6 e1) (F6 e2) (h.2 i b y e1 e2)⟩
theorem bf.snoc{H:Hp}{bs:G2}{ys:List β}{b:Addr}{y:β}(h:bf A H bs ys)(e:A H b y):bf A H (bs++[b]) (ys++[y]):=by
 refine⟨by rw[Gp,Gp,h.1];rfl,λi c z a d=>?_⟩
 by_cases g:i<bs.length
 ·rw[Go g]at a
  rw[Go (by rw[<- h.1];exact g)]at d;exact h.2 i c z a d
 ·have md:i=bs.length:=by
   have:=(F0.mp a).1;simp at this;omega
  subst md;rw[Gn (Gq _),Nat.sub_self]at a;rw[h.1,Gn (Gq _),Nat.sub_self]at d;cases a;cases d
  exact e
theorem bf.get{H:Hp}{bs:G2}{ys:List β}{i:Nat}{b:Addr}(h:bf A H bs ys)(e:bs[i]?=some b):∃y,ys[i]?=some y/\A H b y:=by
 have c:=(F0.mp e).1;have a:ys[i]?=some (ys[i]'(by rw[<- h.1];exact c)):=FZ _;exact⟨_,a,h.2 i b _ e a⟩
theorem bf.one{H:Hp}{b:Addr}{y:β}(e:A H b y):bf A H [b] [y]:=bf.nil.snoc e
end
end L2
namespace L2
open PySem PySem.Spec PyProof.Rows QL PySem.Builtin
section
variable {X:Cx}
def si(z:Str):Value->Bool
 | .str y _=>y.cps.toList==z.cps.toList
 |_=>false
theorem zx{y z:Str}{t:Tok}(h:si z (.str y t)=true):y=z:=by
 have h1:y.cps.toList=z.cps.toList:=by simpa[si]using h
 cases y;cases z
 simp only[Str.mk.injEq];exact Array.toList_inj.mp h1
def pp:V->List V->Hp->VK->Prop:=λx vs H Q=>∃(l:Addr) (ts:G6) (z:Str) (j:Nat),x=.ref l/\vs=[.str z]/\H l=some (.lst (ts.map V.str))/\ts[j]?=some z/\(∀m y,m<j->ts[m]?=some y->y≠z)/\Q (.int (j:Int)) H
theorem vY:De X "list.index" pp:=by
 intro pins s σ H x vs v us Q I rx rv h;obtain⟨l,c,z,j,rfl,rfl,J,G,B,q⟩:=h;cases rx;obtain⟨u,rfl,M⟩:=rv.one;obtain⟨t,rfl⟩:=M;obtain⟨L,b,n,r,S,e⟩:=I.lstM J;have hjl:j<c.length:=(F0.mp G).1;have k:∀(m:Nat) y,c[m]?=some y->∃d,b[m]?=some (.str y d):=by
  intro m y p;obtain⟨w,R,o⟩:=r.get (i:=m) (x:=.str y) (by rw[F5,p];rfl);obtain⟨d,rfl⟩:=o;exact⟨d,R⟩
 have hll:b.length=c.length:=by rw[<- S,F3]
 have hsl:=I.lstM J;have O:b.length<=sizeLine:=by
  have:=L;omega
 rw[q0W]at O;refine call_meets F.slot_list_index ⟨_,e,rfl⟩ F.entry_list_index (F.args_list_index_2 _ _)
  (MeetsSeq.list_index l b.toArray n (.str z t) (si z) (λy p=>?_) j (by rw[F9];omega) ⋯ ?_ ?_) ⟨e,?_⟩
 ·obtain⟨m,C,U⟩:=List.getElem_of_mem (by simpa using p)
  obtain⟨d,a⟩:=k m (c[m]'⋯) (FZ _);rw[FZ C,U]at a
  injection a with a
  subst a;exact PySem.SeqRoads2.EqGives.str _ _ _ _
 ·obtain⟨d,a⟩:=k j z G
  rw[FZ ⋯]at a
  injection a with a
  show si z b[j]=true;rw[a];simp[si]
 ·intro m C D
  have g:m<c.length:=by rw[F9]at C;omega
  obtain⟨d,a⟩:=k m (c[m]'g) (FZ _);rw[FZ ⋯]at a
  injection a with a
  show si z b[m]=false;rw[a];cases T:si z (.str (c[m]'g) d) with
  |false=>rfl
  |true=>exact q0Q (zx T) (B m _ D (FZ g))
 ·exact⟨.int _,H,I.tok _,⟨_,rfl⟩,q⟩
end
section
variable {K:GX}{g:TG}{ti:TT}{te:TE}{σ:St}{H:Hp}{Q:List V->Hp->Prop}{α β:Type}
theorem pV{as:List α}{f:α->Option β}{i:Nat}{x:α}(hx:as[i]?=some x):(as.take (i+1)).filterMap f=(as.take i).filterMap f++(f x).toList:=by
 rw[q0E,hx,List.filterMap_append];show _++List.filterMap f [x]=_;cases h:f x<;>simp[h]
theorem rf(A:Hp->Addr->β->Prop)(up:∀{H H':Hp} {b:Addr} {y:β},A H b y->aA H H'->A H' b y){a:Addr}{as:List α}{emb:α->V}{f:α->Option β}(S:St->Prop)(h0:S σ)(hl:∀H',aA H H'->aT K H' a (as.map emb))(hn:as.length<=1000000)
  (hs:∀(i:Nat) x,as[i]?=some x->∀σ H' (N1:V->St->Hp->Prop) (N0:St->Hp->Prop),S σ->aA H H'->(∀b y σ2 H2,f x=some y->A H2 b y->aA H H2->aA H' H2->S σ2->N1 (.ref b) σ2 H2)->(∀σ2 H2,f x=none->aA H H2->aA H' H2->S σ2->N0 σ2 H2) ->
   g (emb x) σ H' λσ2 H3=>ti σ2 H3 λb H4=>if b=true then te σ2 H4 λv H5=>N1 v σ2 H5 else N0 σ2 H4)
  (he:∀bs H',aA H H'->bf A H' bs (as.filterMap f)->Q (bs.map V.ref) H'):gq (yI K a) g ti te σ H Q:=by
 refine dI (xs:=as.map emb) (λi c σ H'=>aA H H'/\(∃bs:List Addr,c=bs.map V.ref/\bf A H' bs ((as.take i).filterMap f))/\i<=as.length/\S σ) ⟨λ_ _ e=>e,⟨[],rfl,bf.nil⟩,Gr _,h0⟩ ?_ ?_ ?_ ?_ ?_
 ·rintro i c σ H' ⟨_,⟨bs,rfl,h⟩,_⟩
  have:=h.1;have h2:=List.length_filterMap_le f (as.take i);rw[GG]at h2;rw[F3];exact aY ⋯
 ·rintro i c σ H' ⟨_,_,h,_⟩
  rw[F3];exact h
 ·rintro i c σ H' ⟨j,_⟩
  exact hl _ j
 ·rintro i x c σ H' l ⟨j,⟨bs,rfl,k⟩,hi,n⟩
  have d:i<as.length:=by have:=(F0.mp l).1;rwa [F3]at this
  rw[F5,FZ d]at l;cases l;have m:as[i]?=some as[i]:=FZ d;refine hs i as[i] m σ H' (λv σ2 H5=>_) (λσ2 H4=>_) n j (λb y σ2 H2 hf hA s2 s3 hS2=>⟨s2,⟨bs++[b],by rw[Gc];rfl,?_⟩,d,hS2⟩) (λσ2 H2 hf s2 s3 hS2=>⟨s2,⟨bs,rfl,?_⟩,d,hS2⟩)
  ·rw[pV m,hf]
   exact(k.mono λb y _ _ h=>up h s3).snoc hA
  ·rw[pV m,hf]
   show bf A H2 bs (_++[]);rw[GB];exact k.mono λb y _ _ h=>up h s3
 ·rintro c σ H' ⟨j,⟨bs,rfl,k⟩,_⟩
  have e:(as.take (as.map emb).length).filterMap f=as.filterMap f:=by rw[F3,GF]
  rw[e]at k;exact he _ _ j k
end
end L2
namespace L2
open PySem PySem.Spec PyProof.Rows QL PySem.Builtin PySem.Builtin.Str
section
variable {X:Cx}
def v7:R2:=λx y H Q=>∃(r:GZ) (n:Nat),x=.str (tx r)/\y=.int (n:Int)/\1<=n/\n<=1000/\r.length<=1000/\Q (.str (tx (List.replicate n r).flatten)) H
theorem uk(r:GZ):∀n (a:GZ),(List.replicate n (tx r).cps).foldl (· ++ ·) a.toArray=(a++(List.replicate n r).flatten).toArray
 |0,a=>by simp
 |n+1,a=>by
  rw[q0c,List.foldl_cons,q0c,List.flatten_cons];have:a.toArray++(tx r).cps=(a++r).toArray:=by show a.toArray++r.toArray=_;simp
  rw[this,uk r n (a++r),GC]
theorem uI:bD X (binaryOp .Mult) v7:=by
 intro pins s σ H x y v u Q I rx ry h;obtain⟨r,n,rfl,rfl,n1,n2,hr,q⟩:=h;obtain⟨t,rfl⟩:=rx;obtain⟨t',rfl⟩:=ry;have hl:(tx r).length*n<=1000*1000:=by rw[aG];exact Nat.mul_le_mul hr n2
 refine P.mul_str ?_ (λ_ _=>?_) (λ_ _=>?_) ?_
 ·rw[q08 ⋯,q08 ⋯];rfl
 ·have h1:((tx r).length:Int)<=1000:=by rw[aG];omega
  have h2:(1000:Int)<=(2 ^ 63-1)/(n:Int):=by
   rw[Int.le_ediv_iff_mul_le ⋯];omega
  omega
 ·rw[F']
  show decide (_>sizeLine)=false;rw[decide_eq_false_iff_not];have:=q0W;omega
 ·rw[q06 ⋯]
  split
  ·rename_i hc
   have e:tx (List.replicate n r).flatten=tx r:=by
    rcases(by simpa[aG]using hc:(n:Int)=1\/r=[]) with h | h
    ·have:n=1:=by omega
     subst this;simp
    ·subst h;simp
   rw[e]at q;exact⟨.str (tx r),H,I,⟨_,rfl⟩,q⟩
  ·rw[F']
   have e:(⟨(List.replicate n (tx r).cps).foldl (· ++ ·) #[]⟩:Str)=tx (List.replicate n r).flatten:=by
    have:=uk r n [];rw[GQ]at this;show Str.mk _=Str.mk _;rw[<- this]
   rw[e];have hz:(tx (List.replicate n r).flatten).length<=1000000:=by
    rw[aG,iS,Nat.mul_comm];rw[aG]at hl;exact hl
   exact⟨aM hz,.str _,H,I.tok _,⟨_,rfl⟩,q⟩
end
theorem kY{H H':Hp}{l:Addr}{o:HO}(h:H l=none)(e:aB H l o=H'):aA H H'/\H' l=some o:=by subst e;exact⟨ao h,af⟩
section
variable {prog:G5}{w:G8}{A:G7}{E:GW}{s:G0}{d it:Addr}{od:Obj}{es:Array DictEntry}{ep i:Nat}
theorem yV{Q:GW}(ho:s.heap.get? d=some od)(hx:od.ExactDict)(hd:od.data=.dict es ep)(hm:(d==sysModules)=false)
  (q:Q (.ref s.heap.objs.size) {s with heap:=s.heap.push {cls:=.type "dict_keyiterator",data:=.fields #[.ref d,.int 0 0,.int es.size 0,.int ep 0]} }):wpAny (model prog w) A (pyIter (.ref d)) Q E s:=by
 have a:s.TypeIs (.ref d) "dict":=⟨od,ho,hx.1⟩;refine wpAny_pyIter_slot a PySem.F.slot_dict_iter (wpAny_call_entry PySem.F.slot_dict_iter a PySem.F.entry_dict_iter ?_ (PySem.F.args_dict_iter_1 _));unfold Builtin.«dict.__iter__» Builtin.Dict.dictSlotNone;refine q04 (q04 (wpAny_notOrdered_dict a (q05 ?_)));show wpAny _ _ (Builtin.Dict.showsAll d >>= _) _ _ s;have b:Builtin.Dict.showsAll d=pure ():=by unfold Builtin.Dict.showsAll;rw[hm];rfl
 rw[b];refine q04 (q05 (q04 (wpAny_dictEntries ho hd (q04 (wpAny_dictEpoch ho hd ?_)))));exact q04 (wpAny_newObj_type (q05 ⟨_,rfl,"dict_keyiterator",_,⟨_,F8 _ rfl,rfl⟩,PySem.F.slot_dict_keyiterator_next.lookup,by simpa[rawInt]using q⟩))
theorem zI{e:DictEntry}{Q:Option Value->Shared->Prop}(hit:s.heap.IsKeyIter it d i es.size ep)(ho:s.heap.get? d=some od)(hd:od.data=.dict es ep)(hi:es[i]?=some e)
  (q:∀h',h'.IsKeyIter it d (i+1) es.size ep->Heap.SameBut it s.heap h'->Q (some e.key) {s with heap:=h' }):wpAny (model prog w) A (pyNext (.ref it)) Q E s:=by
 obtain⟨oi,c,j,a⟩:=id hit;have g:Builtin.Dict_items.ownsTuple "dict_keyiterator"=false:=by decide
 have k:¬ ((Value.ref d==Value.none)=true):=Gs;refine q04 (wpAny_attempt (wpAny_callSpecial?_slot (name:=Str.ofString "__next__") hit.typeIs PySem.F.slot_dict_keyiterator_next (wpAny_call_entry PySem.F.slot_dict_keyiterator_next hit.typeIs PySem.F.entry_dict_keyiterator_next ?_ (PySem.F.args_dict_keyiterator_next_1 _))));refine q04 (q05 (q04 (q04 (q04 (wpAny_typeNameOfWhole_keyiter hit.typeIs (q05 (q04 (wpAny_fieldsOf c a ?_))))))));simp only[g,q0a,if_false];show wpAny _ _ (if(Value.ref d==Value.none)=true then _ else _) _ _ s;rw[q06 k];refine q04 (q05 (q04 (wpAny_dictEntries ho hd ?_)));rw[q06 (by simp)];refine q04 (q05 (q04 (wpAny_dictEpoch ho hd ?_)));rw[q06 (by simp)];refine q05 ?_;have l:¬ ((i:Int)<0):=by omega
 simp only[l,if_false,F',hi];refine q04 (q04 (wpAny_typeNameOfWhole_keyiter hit.typeIs (q05 (q04 (wpAny_isOneOf_keyiter hit.typeIs ?_)))));show wpAny _ _ (setField (.ref it) 1 (rawInt ((i:Int)+1)) >>= _) _ _ s;have b:(s.heap.update it (Obj.mapFields (·.setIfInBounds 1 (rawInt ((i:Int)+1))))).IsKeyIter it d (i+1) es.size ep:=⟨_,Ga _ c (Obj.isFreed_of_fields (Obj.data_mapFields a _)),(Obj.cls_mapFields ..).trans j,by rw[Obj.data_mapFields a];simp[rawInt]⟩;refine q04 (wpAny_setField c a (by simp) (q04 (q0Y (q04 (wpAny_isOneOf_keyiter (s:={s with heap:=s.heap.update it (Obj.mapFields (·.setIfInBounds 1 (rawInt ((i:Int)+1))))}) b.typeIs ?_)))));show wpAny _ _ (pure e.key) _ _ _;exact q05 (q05 ⟨_,rfl,q05 (q _ b (Heap.SameBut.update ..))⟩)
theorem AU{Q:Option Value->Shared->Prop}(hh:A.handled=none)(hit:s.heap.IsKeyIter it d i es.size ep)(ho:s.heap.get? d=some od)(hd:od.data=.dict es ep)(hi:es.size<=i)
  (q:∀h',Heap.ExtBut it s.heap h'->Q none {s with heap:=h' }):wpAny (model prog w) A (pyNext (.ref it)) Q E s:=by
 obtain⟨oi,c,hci,e⟩:=id hit;have g:Builtin.Dict_items.ownsTuple "dict_keyiterator"=false:=by decide
 have j:¬ ((Value.ref d==Value.none)=true):=Gs;refine q04 (wpAny_attempt (wpAny_callSpecial?_slot (name:=Str.ofString "__next__") hit.typeIs PySem.F.slot_dict_keyiterator_next (wpAny_call_entry PySem.F.slot_dict_keyiterator_next hit.typeIs PySem.F.entry_dict_keyiterator_next ?_ (PySem.F.args_dict_keyiterator_next_1 _))));refine q04 (q05 (q04 (q04 (q04 (wpAny_typeNameOfWhole_keyiter hit.typeIs (q05 (q04 (wpAny_fieldsOf c e ?_))))))));simp only[g,q0a,if_false];show wpAny _ _ (if(Value.ref d==Value.none)=true then _ else _) _ _ s;rw[q06 j];refine q04 (q05 (q04 (wpAny_dictEntries ho hd ?_)));rw[q06 (by simp)];refine q04 (q05 (q04 (wpAny_dictEpoch ho hd ?_)));rw[q06 (by simp)];refine q05 ?_;have k:¬ ((i:Int)<0):=by omega
 simp only[k,if_false,F',Array.getElem?_eq_none hi];refine q04 (q04 (wpAny_typeNameOfWhole_keyiter hit.typeIs (q05 ?_)));show wpAny _ _ (setField (.ref it) 0 .none >>= _) _ _ s;refine q04 (wpAny_setField c e (by simp) ?_);show wpAny _ _ (newExc (.type "StopIteration") [] >>= _) _ _ _;refine q04 ?_;simp only[newExc,newTuple];refine q04 (wpAny_newObj_type ?_ (by size_fits));refine q04 (m:=firstArgMember _ _) (wpAny_of_eq (a:=Value.none) (by first | rfl | (simp only[firstArgMember];rfl)) (wpAny_newObj_type ?_ (by size_fits)));simp only[raiseNew];refine q04 (wpAny_handled ?_);rw[show A.in1.handled=none from hh];refine q04 (q05 (wpAny_throw ?_));exact q04 (wpAny_isInstance (T:="StopIteration") (b:=true) ⟨_,F8 _ rfl,rfl⟩ isSubtype_stop (q05 (q _ (((Heap.SameBut.update ..).extBut.push _).push _))))
end
def wU(a:Addr)(od:Obj)(kvs:List (List b9×V)):It:=
 ⟨λi H=>H a=some (.frz od (.dT kvs))/\i<kvs.length,λi H x H'=>H'=H/\∃b kv,x=.ref b/\kvs[i]?=some kv/\H b=some (.tup (kv.1.map kV)),λi H=>H a=some (.frz od (.dT kvs))/\kvs.length<=i⟩
theorem l8{α β:Type}{F:α->β->Prop}{l₁:List α}{l₂:List β}(h:Paired F l₁ l₂):∀{i:Nat} {x:α},l₁[i]?=some x->∃y,l₂[i]?=some y/\F x y:=by
 induction h with
 |nil=>intro i x e;simp at e
 |cons r t ih=>
  intro i x e;cases i with
  |zero=>rw[List.getElem?_cons_zero]at e;cases e;exact⟨_,rfl,r⟩
  |succ i=>exact ih e
theorem i4{α β:Type}{F:α->β->Prop}{l₁:List α}{l₂:List β}(h:Paired F l₁ l₂):l₁.length=l₂.length:=by
 induction h with
 |nil=>rfl
 |cons r t ih=>exact q0R Nat.succ ih
theorem rS{P:G5}{w:G8}{H:Hp}{h:Heap}{a:Addr}{od:Obj}{kvs:List (List b9×V)}(ok:gU P w H h)(e:H a=some (.frz od (.dT kvs))):h.get? a=some od/\∃es ep,od.ExactDict/\od.data=.dict es ep/\es.size=kvs.length/\(a==sysModules)=false/\∀(i:Nat) kv,kvs[i]?=some kv->∃en b,es[i]?=some en/\en.key=.ref b/\H b=some (.tup (kv.1.map kV)):=by
 obtain⟨j,_,m,xs,d,o,es,ep,g,l,p,c,_⟩:=(show bB P w H h a (.frz od (.dT kvs)) from ok a _ e);rw[j]at g;cases g;refine⟨j,es,ep,l,p,?_,m,λi kv n=>?_⟩
 ·rw[<- Array.length_toList,c,F3,i4 d]
 ·obtain⟨y,k,h1,h2,h3⟩:=l8 d n
  refine⟨entryOfKey (tupleKind (br P w)) y,y.2.1,?_,rfl,h2⟩;rw[<- q0G,c,F5,k];rfl
theorem zR{P:G5}{w:G8}{K:GX}{tg:Expr}(a it:Addr)(od:Obj)(kvs:List (List b9×V))(ep:Nat)(es:Array DictEntry)(hd:od.data=.dict es ep)(hn:es.size=kvs.length):q9 P w K tg (wU a od kvs) [it] it (λi h=>h.IsKeyIter it a i es.size ep) where
 mem:=by simp
 obj:=λi h g b l=>by
  have e:b=it:=by simpa using l
  subst e;obtain⟨o,e,c,d⟩:=g;exact⟨o,e,λv z=>by rw[d]at z;cases z⟩
 keep:=λi h p g k=>by
  obtain⟨o,e,c,d⟩:=g;exact⟨o,k it (by simp) o e,c,d⟩
 item:=by
  intro X u q x M i j s σ H E I hf g hg;subst u q x;obtain⟨J,G,f2,D,C,B⟩:=hf it (by simp);obtain⟨y,r⟩:=hg;obtain⟨L,es',ep',hx',n,hn',hs',R⟩:=rS I.hok y;rw[hd]at n;cases n;obtain⟨en,b,h1,h2,S⟩:=R i _ (FZ r);refine zI g L hd h1 λp m O=>?_;have U:Inv X j σ H {s with heap:=p }:=I.turned (t':=s.toks) (λb o l e=>(O.2 b l).trans e) J G D C B;obtain⟨o,e,c,d⟩:=id m;exact⟨_,rfl,pT (s:={s with heap:=p }) e c d nofun ⟨.ref b,H,U,h2.symm▸rfl,⟨rfl,b,_,rfl,FZ r,S⟩,m,λb l=>(hf b l).1⟩⟩
 done:=by
  intro X u q x M i j s σ H E I hf g hg;subst u q x;obtain⟨J,G,f2,D,C,B⟩:=hf it (by simp);obtain⟨y,r⟩:=hg;obtain⟨L,_⟩:=rS I.hok y;exact AU (I.ok.hd M) g L hd ⋯ λp T=>⟨rfl,I.turned (t':=s.toks) (λb o l e=>T b o l e) J G D C B⟩
 self:=λA i s Q E g h=>wpAny_pyIter_keyiter g h
section
variable {X:Cx}{pins:GY}{σ:St}{H:Hp}{s:G0}
theorem Inv.freezeD(I:Inv X pins σ H s){a:Addr}{kvs:List (List b9×V)}(h:H a=some (.dT kvs)):∃o,Inv X pins σ (aB H a (.frz o (.dT kvs))) s:=by
 obtain⟨z,y,i,pr,o,es,ep,g,r⟩:=(show bB X.prog X.w H s.heap a (.dT kvs) from I.hok a _ h);refine⟨o,?_⟩;have d:∀b u,H b=some u->(∀ks,u≠.dT ks)->aB H a (.frz o (.dT kvs)) b=some u:=λb u e l=>by
  rw[ai (λq=>by rw[q,h]at e;cases e;exact l _ rfl)];exact e
 have hok:gU X.prog X.w (aB H a (.frz o (.dT kvs))) s.heap:=λb u e=>by
  have j:∀{u:HO},bB X.prog X.w H s.heap b u->bB X.prog X.w (aB H a (.frz o (.dT kvs))) s.heap b u:=λq=>q.stay (λc v _ q=>q) (λc q=>d c _ q (by intro ks z;cases z)) λc i q=>d c _ q (by intro ks z;cases z)
  by_cases k:b=a
  ·subst k
   rw[af]at e;cases e;exact⟨g,j (I.hok b _ h)⟩
  ·rw[ai k]at e
   exact j (I.hok b u e)
 have un:Un X.fs [] H (aB H a (.frz o (.dT kvs))) s.heap s.heap:=⟨λb o e _ _ _=>e,λb o e _ _ _=>⟨o.slots,e⟩,λb o' _ n _=>by rw[ai (λq=>by rw[q,h]at n;cases n)];exact n,λb o e _=>⟨o,e⟩,λb i e=>d b _ e (by intro ks z;cases z),λb o u e=>d b _ e (by intro ks z;cases z),λb ps e=>⟨#[],by rw[d b _ e (by intro ks z;cases z)];simp⟩⟩;exact I.un (h':=s.heap) (t':=s.toks) un hok
end
section
variable {X:Cx}{tg:Expr}
def DH(td:TE):TI:=λσ H R=>td σ H λx H1=>∃a kvs,x=.ref a/\((H1 a=some (.dT kvs)/\∀o,R (wU a o kvs) (aB H1 a (.frz o (.dT kvs))))\/∃o,H1 a=some (.frz o (.dT kvs))/\R (wU a o kvs) H1)
theorem Cz{e:Expr}{td:TE}(he:PE X e td):PI X tg e (DH td):=by
 intro c s σ H R I h;refine bH (he c s σ H _ I h) λu j ⟨x,H1,l,m,a,d,y,q⟩=>?_;subst y;obtain rfl:u=Value.ref a:=m;obtain⟨o,H2,i,C,n⟩:∃o H2,Inv X c σ H2 j/\H2 a=some (.frz o (.dT d))/\R (wU a o d) H2:=by
  rcases q with⟨e,q⟩ | ⟨o,e,q⟩
  ·obtain⟨o,i⟩:=l.freezeD e
   exact⟨o,_,i,af,q o⟩
  ·exact⟨o,H1,l,e,q⟩
 obtain⟨g,z,B,p,k,v,r,_⟩:=rS i.hok C;refine yV g p k r ?_;refine⟨j.heap.objs.size,[j.heap.objs.size],_,_,H2,rfl,i.kept (t':=j.toks) λb o e=>F1 _ e,zR a _ o d B z k v,⟨_,F8 _ rfl,rfl,rfl⟩,λb w=>?_,n⟩;have e:b=j.heap.objs.size:=by simpa using w
 subst e;exact i.fpOk (Gq _) (i.hok.fresh (Gq _))
end
section
variable {g:TG}{tb:TS}{D:fE}{σ:St}{H:Hp}
theorem Ac{a:Addr}{o:Obj}{kvs:List (List b9×V)}(Pv:Nat->St->Hp->Prop)(h0:Pv 0 σ H)(hl:∀i σ H,i<=kvs.length->Pv i σ H->H a=some (.frz o (.dT kvs)))
  (hs:∀(i:Nat) b kv σ H,kvs[i]?=some kv->H b=some (.tup (kv.1.map kV))->Pv i σ H->g (.ref b) σ H λσ2 H2=>tb {D with nx:=Pv (i+1),ct:=Pv (i+1),bk:=D.nx} σ2 H2) (hd:∀σ H,Pv kvs.length σ H->D.nx σ H):u9 (wU a o kvs) g tb D σ H:=by
 refine⟨λi m σ H=>m=kvs.length-i/\i<=kvs.length/\Pv i σ H,⟨kvs.length,by simp,Gr _,h0⟩,?_⟩;rintro i m σ H ⟨rfl,j,p⟩;have q:=hl i σ H j p
 by_cases c:i<kvs.length
 ·refine .inr ⟨⟨q,c⟩,Pv (i+1),λσ2 H2 w2=>⟨kvs.length-(i+1),⋯,rfl,c,w2⟩,λx H2 y=>?_⟩
  obtain⟨rfl,b,kv,rfl,d,k⟩:=y;exact hs i b kv σ _ d k p
 ·have e:i=kvs.length:=by omega
  subst e;exact .inl ⟨⟨q,Gq _⟩,hd _ _ p⟩
end
section
variable {prog:G5}{w:G8}{K:Type}[DecidableEq K]{knd:HeapKind prog w K}{A:G7}{E:GW}{s:G0}
theorem AC{nm:String}{a b:Addr}{xa xb:List (K×Addr×Value)}{Q:Bool->Shared->Prop}(ha:(a==sysModules)=false)(hb:(b==sysModules)=false)(hu:knd.room A)
  (da:s.heap.DictOfH knd a xa) (db:s.heap.DictOfH knd b xb) (hl:xa.length=xb.length) (hits:∀(i:Nat) k p,xa[i]?=some (k,p)->∃(j:Nat) (q:Addr×Value),xb[j]?=some (k,q)/\SeqAt.EqAt A s p.2 q.2 true) (h:Q true s) :
  wpAny (model prog w) A (Builtin.Dict.samePairs nm a b) Q E s:=by
 obtain⟨oa,c,ep,d,_,g,D,T,hna⟩:=da;obtain⟨ob,z,ep',m,_,u,r,S,B⟩:=db;have O:c.size=xa.length:=size_of_entries D;have M:z.size=xb.length:=size_of_entries r;unfold Builtin.Dict.samePairs Builtin.Dict.showsAll;rw[q06 (show ¬ (a==sysModules)=true by rw[ha];exact Gs),q06 (show ¬ (b==sysModules)=true by rw[hb];exact Gs)];refine q04 (q05 (q04 (q05 ?_)));refine q04 (wpAny_dictEntries d g ?_);dsimp only;refine q04 (wpAny_dictEntries m u ?_);have L:c.size=z.size:=by rw[O,M,hl]
 rw[q06 (by rw[L];simp)];refine q04 (wpAny_dictEpoch d g ?_);refine q04 ?_;rw[Std.Legacy.Range.forIn_eq_forIn_range'];simp only[Std.Legacy.Range.size,Nat.sub_zero,Nat.add_sub_cancel,Nat.div_one];refine wpAny_forIn_list _
  (λbQ q G=>G=s/\q=(none,())/\∃i,bQ=List.range' i (c.size-i)/\i<=c.size)
  _ ?_ ?_ _ _ ⟨rfl,rfl,0,by simp,Gr _⟩
 ·rintro x bQ q G ⟨rfl,rfl,i,hr,hi⟩
  have R:i<c.size:=by
   rcases Nat.lt_or_ge i c.size with h | h
   ·exact h
   ·rw[Nat.sub_eq_zero_of_le h]at hr;simp at hr
  obtain⟨rfl,l⟩:x=i/\bQ=List.range' (i+1) (c.size-(i+1)):=by
   have e:c.size-i=(c.size-(i+1))+1:=by omega
   rw[e,List.range'_succ]at hr
   injection hr with h1 h2
   exact⟨h1,h2⟩
  refine q04 (wpAny_dictEntries d g ?_);obtain⟨⟨k,Y,v⟩,n⟩:∃y,xa[x]?=some y:=⟨xa[x]'⋯,FZ _⟩;have U:c[x]?=some ⟨knd.hash k,.ref Y,v⟩:=by rw[entry_at D x,n];rfl
  rw[U];obtain⟨j,q,I,he⟩:=hits x k _ n;have C:knd.is G.heap k Y:=T _ (F6 n);show wpAny _ _ (holding [Value.ref Y,v] _ >>= _) _ _ _;refine q04 (q0Y (q04 (wpAny_dictFind_heap hu C m u r S B (λZ=>q0Q I (Z j q)) λJ p' o=>?_)));have ej:J=j:=idxH_unique B o I;subst ej;rw[I]at o;cases o;refine q04 (wpAny_dictEntries m u ?_);rw[show z[J]?=some ⟨knd.hash k,.ref q.1,q.2⟩ by rw[entry_at r J,I];rfl];refine q0Y (he prog w _ _ ?_);show wpAny _ _ (if(!true)=true then _ else _) _ _ _;rw[q06 nofun];refine q04 (wpAny_dictEpoch d g ?_);rw[q06 (by simp)];exact q05 ⟨rfl,rfl,x+1,l,R⟩
 ·rintro q G ⟨rfl,rfl,i,hr,hi⟩
  exact q05 h
theorem E6{a b:Addr}{xa xb:List (K×Addr×Value)}{Q:GW}(ha:(a==sysModules)=false)(hb:(b==sysModules)=false)(hr:knd.room A.in1)
  (da:s.heap.DictOfH knd a xa) (db:s.heap.DictOfH knd b xb) (hu:A.units<cLine) (hl:xa.length=xb.length) (hits:∀(i:Nat) k p,xa[i]?=some (k,p)->∃(j:Nat) (q:Addr×Value),xb[j]?=some (k,q)/\SeqAt.EqAt A.in1 s p.2 q.2 true) (h:Q (.bool true) s) :
  wpAny (model prog w) A (compareOp .Eq (.ref a) (.ref b)) Q E s:=by
 refine wpAny_richCompare_same_room (op:=.Eq) da.typeIs db.typeIs PySem.F.slot_dict_eq (wpAny_call_entry PySem.F.slot_dict_eq da.typeIs PySem.F.entry_dict_eq ?_ (PySem.F.args_dict_eq_2 _ _)) hu;show wpAny _ _ (Builtin.Dict.dictSlotArgs "__eq__" ⟨[.ref a,.ref b],[]⟩ >>= _) _ _ s;refine q04 ?_;unfold Builtin.Dict.dictSlotArgs;refine q04 (wpAny_notOrdered_dict da.typeIs ?_);show wpAny _ _ (pure (Value.ref a,Value.ref b)) _ _ s;refine q05 ?_;refine q04 (wpAny_isInstance (T:="dict") db.typeIs PySem.F.sub_dict_dict ?_);simp only[Bool.not_true,q0a,if_false];refine q04 (q05 (q04 (q05 ?_)));refine q04 (AC ha hb hr da db hl hits ?_);refine q05 ⟨_,rfl,?_,?_⟩
 ·exact λx=>nomatch x
 ·simpa using h
theorem FQ{a b:Addr}{xa xb:List (K×Addr×Value)}{Q:GW}(ha:(a==sysModules)=false)(hb:(b==sysModules)=false)(hr:knd.room A.in1)
  (da:s.heap.DictOfH knd a xa) (db:s.heap.DictOfH knd b xb) (hu:A.units<cLine) (hl:xa.length=xb.length) (hits:∀(i:Nat) k p,xa[i]?=some (k,p)->∃(j:Nat) (q:Addr×Value),xb[j]?=some (k,q)/\SeqAt.EqAt A.in1 s p.2 q.2 true) (h:Q (.bool false) s) :
  wpAny (model prog w) A (compareOp .NotEq (.ref a) (.ref b)) Q E s:=by
 refine wpAny_richCompare_same_room (op:=.NotEq) da.typeIs db.typeIs PySem.F.slot_dict_ne (wpAny_call_entry PySem.F.slot_dict_ne da.typeIs PySem.F.entry_dict_ne ?_ (PySem.F.args_dict_ne_2 _ _)) hu;show wpAny _ _ (Builtin.Dict.dictSlotArgs "__ne__" ⟨[.ref a,.ref b],[]⟩ >>= _) _ _ s;refine q04 ?_;unfold Builtin.Dict.dictSlotArgs;refine q04 (wpAny_notOrdered_dict da.typeIs ?_);show wpAny _ _ (pure (Value.ref a,Value.ref b)) _ _ s;refine q05 ?_;refine q04 (wpAny_isInstance (T:="dict") db.typeIs PySem.F.sub_dict_dict ?_);simp only[Bool.not_true,q0a,if_false];refine q04 (q05 (q04 (q05 ?_)));refine q04 (AC ha hb hr da db hl hits ?_);refine q05 ⟨_,rfl,?_,?_⟩
 ·exact λx=>nomatch x
 ·simpa using h
end
section
variable {X:Cx}
structure C9(H:Hp)(a b:Addr)(kvs kvs':List (List b9×V)):Prop where
 da:Rd H a (.dT kvs)
 db:Rd H b (.dT kvs')
 len:kvs.length=kvs'.length
 all:∀(i:Nat) k v,kvs[i]?=some (k,v)->qN v=true/\∃j:Nat,kvs'[j]?=some (k,v)
theorem C9.hits{P:G5}{w:G8}{H:Hp}{A:G7}{s:G0}{a b:Addr}{kvs kvs':List (List b9×V)}{xa xb:List (List b9×Addr×Value)}(d:C9 H a b kvs kvs')(ra:KT H kvs xa)(rb:KT H kvs' xb):xa.length=xb.length/\∀(i:Nat) k p,xa[i]?=some (k,p)->∃(j:Nat) (q:Addr×Value),xb[j]?=some (k,q)/\SeqAt.EqAt A s p.2 q.2 true:=by
 refine⟨by rw[<- i4 ra,<- i4 rb];exact d.len,λi k p l=>?_⟩;obtain⟨c,e⟩:∃c,kvs[i]?=some c:=by
  have:=(F0.mp l).1;rw[<- i4 ra]at this;exact⟨_,FZ this⟩
 obtain⟨y,g,h1,_,h2⟩:=l8 ra e;rw[l]at g;cases g;obtain⟨f,j,n⟩:=d.all i c.1 c.2 e;obtain⟨z,m,r,_,o⟩:=l8 rb n;refine⟨j,z.2,by rw[m,show k=z.1 from(show c.1=k from h1).symm.trans r],?_⟩;have:=fY (A:=A) (s:=s) (show aR c.2 p.2 from h2) (show aR c.2 z.2.2 from o) f f
 rwa [xo f]at this
def Af(neg:Bool):R2:=λx y H Q=>∃a b kvs kvs',x=.ref a/\y=.ref b/\C9 H a b kvs kvs'/\Q (.bl (!neg)) H
theorem BW(hu:X.A.units+64<cLine):bD X (compareOp .Eq) (Af false):=by
 intro pins s σ H x y v u Q I rx ry h;obtain⟨a,b,kvs,kvs',rfl,rfl,d,q⟩:=h;cases rx;cases ry
 obtain⟨_,i,xa,e,da⟩:=gG I.hok d.da;obtain⟨_,g,xb,c,db⟩:=gG I.hok d.db;obtain⟨j,k⟩:=d.hits (P:=X.prog) (w:=X.w) (A:=X.A.in1) (s:=s) e c;exact E6 i g (tupleKind_room_in1 ⋯) da db ⋯ j k ⟨.bl true,H,I,rfl,q⟩
theorem Bc(hu:X.A.units+64<cLine):bD X (compareOp .NotEq) (Af true):=by
 intro pins s σ H x y v u Q I rx ry h;obtain⟨a,b,kvs,kvs',rfl,rfl,d,q⟩:=h;cases rx;cases ry
 obtain⟨_,i,xa,e,da⟩:=gG I.hok d.da;obtain⟨_,g,xb,c,db⟩:=gG I.hok d.db;obtain⟨j,k⟩:=d.hits (P:=X.prog) (w:=X.w) (A:=X.A.in1) (s:=s) e c;exact FQ i g (tupleKind_room_in1 ⋯) da db ⋯ j k ⟨.bl false,H,I,rfl,q⟩
end
end L2
namespace TS
open PySem PyProof.Rows
section
variable {M:Model}{A:G7}{E:GW}{J:Shared->Prop}{σ:Type}
def dH(M:Model)(A:G7)(E:GW)(J:Shared->Prop){α:Type}(m:StateT σ Sem α)(Q:α->σ->Prop)(st:σ):Prop:=
 ∀s,J s->wpAny M A (m.run st) (λr s'=>J s'/\Q r.1 r.2) E s
theorem ar{α:Type}{a:α}{Q:α->σ->Prop}{st:σ}(h:Q a st):dH M A E J (pure a:StateT σ Sem α) Q st:=by
 intro s j;rw[StateT.run_pure];exact q05 ⟨j,h⟩
theorem aj{α β:Type}{m:StateT σ Sem α}{f:α->StateT σ Sem β}{Q:β->σ->Prop}{st:σ}
  (h:dH M A E J m (λa st'=>dH M A E J (f a) Q st') st):dH M A E J (m >>= f) Q st:=by
 intro s j;rw[StateT.run_bind]
 exact q04 (q0X (h s j) (λr c b=>b.2 c b.1) λ_ _ e=>e)
theorem bg{α:Type}{m:StateT σ Sem α}{Q Q':α->σ->Prop}{st:σ}(h:dH M A E J m Q st)(hq:∀a st',Q a st'->Q' a st'):dH M A E J m Q' st:=
 λs j=>q0X (h s j) (λr _ h'=>⟨h'.1,hq _ _ h'.2⟩) λ_ _ e=>e
theorem fq{Q:σ->σ->Prop}{st:σ}(h:Q st st):dH M A E J (get:StateT σ Sem σ) Q st:=by
 intro s j;rw[StateT.run_get];exact q05 ⟨j,h⟩
theorem cD{f:σ->σ}{Q:PUnit->σ->Prop}{st:σ}(h:Q ⟨⟩ (f st)):dH M A E J (modify f:StateT σ Sem PUnit) Q st:=by
 intro s j;rw[StateT.run_modify];exact q05 ⟨j,h⟩
theorem CH{x:σ}{Q:PUnit->σ->Prop}{st:σ}(h:Q ⟨⟩ x):dH M A E J (set x:StateT σ Sem PUnit) Q st:=by
 intro s j;rw[StateT.run_set];exact q05 ⟨j,h⟩
theorem io{α:Type}{m:Sem α}{Q:α->σ->Prop}{st:σ}(h:∀s,J s->wpAny M A m (λa s'=>J s'/\Q a st) E s) :
  dH M A E J (liftM m:StateT σ Sem α) Q st:=by
 intro s j;show wpAny M A ((StateT.lift m:StateT σ Sem α).run st) _ E s;rw[StateT.run_lift];exact q04 (q0X (h s j) (λa s' b=>q05 b) λ_ _ e=>e)
theorem yb{β:Type}(f:Nat->β->StateT σ Sem (ForInStep β))(I:List Nat->β->σ->Prop)(Q:β->σ->Prop)
  (hs:∀x bQ b st,I (x::bQ) b st->dH M A E J (f x b) (λr st'=>match r with | .done b'=>Q b' st' | .yield b'=>I bQ b' st') st)
  (he:∀b st,I [] b st->Q b st):∀(l:GZ) (b:β) (st:σ),I l b st->dH M A E J (forIn l b f) Q st
 | [],b,st,h=>by rw[List.forIn_nil];exact ar (he _ _ h)
 |x::bQ,b,st,h=>by
  rw[List.forIn_cons];refine aj (bg (hs x bQ b st h) λr st' h'=>?_);cases r with
  |done b'=>exact ar h'
  |yield b'=>exact yb f I Q hs he bQ b' st' h'
theorem dr{β:Type}{a b:Nat}{f:Nat->β->StateT σ Sem (ForInStep β)}(I:Nat->β->σ->Prop){Q:β->σ->Prop}
  (hs:∀i c st,a<=i->i<b->I i c st->dH M A E J (f i c) (λr st'=>match r with | .done c'=>Q c' st' | .yield c'=>I (i+1) c' st') st)
  (he:∀c st,I (max a b) c st->Q c st) {c:β} {st:σ} (h:I a c st):dH M A E J (forIn [a:b] c f) Q st:=by
 rw[Std.Legacy.Range.forIn_eq_forIn_range'];have o:([a:b]:Std.Legacy.Range).size=b-a:=by simp[Std.Legacy.Range.size]
 show dH M A E J (forIn (List.range' a ([a:b]:Std.Legacy.Range).size 1) c f) Q st;rw[o];refine yb f (λl c st=>∃n,l.length=n/\∃i,a<=i/\l=List.range' i n 1/\i+n=max a b/\I i c st) Q ?_ ?_ _ c st ⟨b-a,by simp,a,Gq _,rfl,⋯,h⟩
 ·rintro x bQ c st ⟨n,e,i,d,g,j,k⟩
  cases n with
  |zero=>simp at e
  |succ n=>
   rw[List.range'_succ]at g;obtain⟨rfl,rfl⟩:=List.cons.inj g;refine bg (hs x c st d ⋯ k) λr st' m=>?_;cases r with
   |done c'=>exact m
   |yield c'=>exact⟨n,by simp,x+1,⋯,rfl,⋯,m⟩
 ·rintro c st ⟨n,e,i,d,g,j,k⟩
  simp at e;subst e
  have:i=max a b:=by omega
  subst this;exact he _ _ k
end
section
variable {prog:G5}{w:G8}{A:G7}{E:GW}{J:Shared->Prop}{a₀:Array Keyed}{kd:SortKind}{r:Keyed->Nat}
def oy(prog:G5)(w:G8)(A:G7)(J:Shared->Prop)(a₀:Array Keyed)(kd:SortKind)(r:Keyed->Nat):Prop:=
 ∀x,x∈a₀.toList->∀y,y∈a₀.toList->∀s,J s->wpAny (model prog w) A (keyLt' kd x.1 y.1) (λb s'=>J s'/\b=decide (r x<r y)) (λ_ _=>False) s
theorem wx(C:oy prog w A J a₀ kd r){x y:Keyed}(hx:x∈a₀.toList)(hy:y∈a₀.toList){st:SortSt}(hk:kindOf st=kd){Q:Option Bool->SortSt->Prop}
  (h:Q (some (decide (r x<r y))) st):dH (model prog w) A E J (lt' x y) Q st:=by
 rw[lt'_eq];refine aj (fq ?_);rw[hk];refine aj (io λs j=>wpAny_attempt (q0X (C x hx y hy s j) (λb s' c=>?_) λ_ _ e=>?_))
 ·obtain⟨a,rfl⟩:=c;exact⟨a,ar h⟩
 ·exact e.elim
theorem bR{arr:Array Keyed}{i:Nat}{p:Keyed}(hp:arr[i]?=some p){st:SortSt}{Q:Keyed->SortSt->Prop}(h:Q p st):dH (model prog w) A E J (elem' arr i) Q st:=by
 rw[elem'_eq,hp];exact ar h
def gi:Bool->Keyed->Array Keyed->Nat->Nat->Nat->StateT SortSt Sem (Option Nat):=sortPriv% PySem.Builtin.gallop
theorem qx{n lo hi:Nat}{st:SortSt}{Q:Option Nat->SortSt->Prop}{B:Nat->Bool}{bey:Nat->StateT SortSt Sem (Option Bool)}
  (be:∀i,i<n->∀{Q':Option Bool->SortSt->Prop},Q' (some (B i)) st->dH (model prog w) A E J (bey i) Q' st)
  (hm:∀i j,i<=j->j<n->B j=true->B i=true) (hl:lo<=hi) (hh:hi<=n) (fl:∀i,i<lo->B i=true) (fh:∀i,hi<=i->i<n->B i=false)
  (h:∀k,k<=n->(∀i,i<k->B i=true)->(∀i,k<=i->i<n->B i=false)->Q (some k) st)
  {F:Nat->Option (Option Nat)×Nat×Nat->StateT SortSt Sem (ForInStep (Option (Option Nat)×Nat×Nat))}
  (hF:∀x l u,F x (none,l,u)=if l≥u then pure (ForInStep.done (none,l,u)) else bey (l+(u-l)/2) >>= λo=>match o with
   |some t=>if t=true then pure (ForInStep.yield (none,l+(u-l)/2+1,u)) else pure (ForInStep.yield (none,l,l+(u-l)/2))
   |none=>pure (ForInStep.done (some none,l,u)))
  {G:Option (Option Nat)×Nat×Nat->StateT SortSt Sem (Option Nat)} (hG:∀l u,G (none,l,u)=pure (some u)) :
  dH (model prog w) A E J (forIn [0:n] (none,lo,hi) F >>= G) Q st:=by
 refine aj (bg (dr (I:=λx c a=>a=st/\∃l u,c=(none,l,u)/\l<=u/\u<=n/\u-l<=n-x/\(∀i,i<l->B i=true)/\(∀i,u<=i->i<n->B i=false))
  (Q:=λc a=>a=st/\∃l u,c=(none,l,u)/\u<=n/\(∀i,i<u->B i=true)/\(∀i,u<=i->i<n->B i=false)) ?s ?e ⟨rfl,lo,hi,rfl,hl,hh,⋯,fl,fh⟩) ?p)
 case e=>
  rintro c a ⟨rfl,l,u,rfl,h1,h2,z,d,b⟩;exact⟨rfl,l,u,rfl,h2,λi g=>d i ⋯,b⟩
 case s=>
  rintro x c a _ hxn ⟨rfl,l,u,rfl,h1,h2,z,d,b⟩;rw[hF]
  by_cases m:l≥u
  ·rw[q07 m];exact ar ⟨rfl,l,u,rfl,h2,λi g=>d i ⋯,b⟩
  ·rw[q06 m]
   refine aj (be (l+(u-l)/2) ⋯ ?_);dsimp only
   by_cases q:B (l+(u-l)/2)=true
   ·rw[q07 q];exact ar ⟨rfl,_,u,rfl,⋯,h2,⋯,λi g=>hm i _ ⋯ ⋯ q,b⟩
   ·rw[q06 q]
    refine ar ⟨rfl,l,_,rfl,⋯,⋯,⋯,d,λi v r=>?_⟩;cases y:B i with
    |false=>rfl
    |true=>exact q0Q (hm _ i v r y) q
 case p=>
  rintro c a ⟨rfl,l,u,rfl,h2,d,b⟩;rw[hG];exact ar (h u h2 d b)
theorem xu{left:Bool}{key:Keyed}{arr:Array Keyed}{base n hint:Nat}{st:SortSt}{Q:Option Nat->SortSt->Prop}{B:Nat->Bool}(C:oy prog w A J a₀ kd r)(hk:kindOf st=kd)
  (hkey:key∈a₀.toList) (hi:hint<n) (hx:∀i,i<n->∃x,arr[base+i]?=some x/\x∈a₀.toList/\B i=if left then decide (r x<r key) else !decide (r key<r x))
  (hm:∀i j,i<=j->j<n->B j=true->B i=true)
  (h:∀k,k<=n->(∀i,i<k->B i=true)->(∀i,k<=i->i<n->B i=false)->Q (some k) st) :
  dH (model prog w) A E J (gi left key arr base n hint) Q st:=by
 have G:∀i,i<n->∀{L:Option Bool->SortSt->Prop},L (some (B i)) st->dH (model prog w) A E J (do
   let x <- elem' arr (base+i)
   if left=true then lt' x key else do
    let y <- lt' key x
    pure (y.map (!·))) L st:=by
  intro i hi L q;obtain⟨x,e,m,b⟩:=hx i hi;refine aj (bR e ?_);cases left with
  |true=>rw[q07 rfl]at b ⊢;exact wx C m hkey hk (by rw[<- b];exact q)
  |false=>
   rw[q06 nofun]at b ⊢;exact aj (wx C hkey m hk (ar (by show L (some (!decide _)) st;rw[<- b];exact q)))
 unfold gi;refine aj (G hint hi ?_);dsimp only
 by_cases S:B hint=true
 ·rw[q07 S]
  refine aj (bg (dr (I:=λx c a=>a=st/\∃l o,c=(none,l,o)/\l<o/\x+1<=o/\hint+l<n/\B (hint+l)=true)
   (Q:=λc a=>a=st/\∃l o,c=(none,l,o)/\l<o/\hint+l<n/\B (hint+l)=true/\(n-hint<=o\/B (hint+o)=false)) ?s1 ?e1 ⟨rfl,0,1,rfl,⋯,⋯,⋯,S⟩) ?p1)
  case e1=>
   rintro c a ⟨rfl,l,o,rfl,h1,h2,p,g⟩;exact⟨rfl,l,o,rfl,h1,p,g,.inl ⋯⟩
  case s1=>
   rintro x c a _ O ⟨rfl,l,o,rfl,h1,h2,p,g⟩;dsimp only
   by_cases d:o≥n-hint
   ·rw[q07 d];exact ar ⟨rfl,l,o,rfl,h1,p,g,.inl d⟩
   ·rw[q06 d]
    refine aj (G (hint+o) ⋯ ?_);dsimp only
    by_cases D:B (hint+o)=true
    ·rw[D,q06 nofun];exact ar ⟨rfl,o,2*o+1,rfl,⋯,⋯,⋯,D⟩
    ·have v:B (hint+o)=false:=by cases z:B (hint+o)<;>simp_all
     rw[v,q07 nofun];exact ar ⟨rfl,l,o,rfl,h1,p,g,.inr v⟩
  case p1=>
   rintro c a ⟨rfl,l,o,rfl,h1,p,g,h5⟩;dsimp only;have T:∀i,i<hint+l+1->B i=true:=λi hi'=>hm i (hint+l) ⋯ p g;have U:∀i,hint+min o (n-hint)<=i->i<n->B i=false:=by
    intro i Y M;rcases h5 with h5 | h5
    ·omega
    ·cases z:B i with
     |false=>rfl
     |true=>exact q0Q (hm (hint+o) i ⋯ M z) (by rw[h5];decide)
   exact qx G hm ⋯ ⋯ T U h (λx l u=>ite_congr rfl (λ_=>rfl) λ_=>q0R _ (funext λo=>by cases o<;>rfl)) (λl u=>rfl)
 ·have R:B hint=false:=by cases z:B hint<;>simp_all
  rw[q06 S];refine aj (bg (dr (I:=λx c a=>a=st/\∃l o,c=(none,l,o)/\l<o/\x+1<=o/\l<=hint/\B (hint-l)=false)
   (Q:=λc a=>a=st/\∃l o,c=(none,l,o)/\l<o/\l<=hint/\B (hint-l)=false/\(hint+1<=o\/(o<=hint/\B (hint-o)=true))) ?s2 ?e2 ⟨rfl,0,1,rfl,⋯,⋯,⋯,R⟩) ?p2)
  case e2=>
   rintro c a ⟨rfl,l,o,rfl,h1,h2,p,g⟩;exact⟨rfl,l,o,rfl,h1,p,g,.inl ⋯⟩
  case s2=>
   rintro x c a _ O ⟨rfl,l,o,rfl,h1,h2,p,g⟩;dsimp only
   by_cases d:o≥hint+1
   ·rw[q07 d];exact ar ⟨rfl,l,o,rfl,h1,p,g,.inl d⟩
   ·rw[q06 d]
    refine aj (G (hint-o) ⋯ ?_);dsimp only
    by_cases D:B (hint-o)=true
    ·rw[q07 D];exact ar ⟨rfl,l,o,rfl,h1,p,g,.inr ⟨⋯,D⟩⟩
    ·have v:B (hint-o)=false:=by cases z:B (hint-o)<;>simp_all
     rw[q06 D];exact ar ⟨rfl,o,2*o+1,rfl,⋯,⋯,⋯,v⟩
  case p2=>
   rintro c a ⟨rfl,l,o,rfl,h1,p,g,h5⟩;dsimp only;have T:∀i,i<hint+1-min o (hint+1)->B i=true:=by
    intro i Y;rcases h5 with h5 | ⟨h5,Z⟩
    ·omega
    ·exact hm i (hint-o) ⋯ ⋯ Z
   have U:∀i,hint-l<=i->i<n->B i=false:=by
    intro i Y M;cases z:B i with
    |false=>rfl
    |true=>exact q0Q (hm (hint-l) i ⋯ M z) (by rw[g];decide)
   exact qx G hm ⋯ ⋯ T U h (λx l u=>ite_congr rfl (λ_=>rfl) λ_=>q0R _ (funext λo=>by cases o<;>rfl)) (λl u=>rfl)
end
structure MI{α:Type}(le:α->α->Prop)(X Y out rx ry:List α):Prop where
 ex:∃px py,X=px++rx/\Y=py++ry/\out.Perm (px++py)
 so:out.Pairwise le
 ah:∀p,p∈out->∀q,q∈rx++ry->le p q
namespace MI
variable {α:Type}{le:α->α->Prop}{X Y out rx ry:List α}
theorem start(X Y:List α):MI le X Y [] X Y:=⟨⟨[],[],rfl,rfl,List.Perm.refl _⟩,.nil,λp h=>nomatch h⟩
theorem swap(h:MI le X Y out rx ry):MI le Y X out ry rx:=by
 obtain⟨⟨d,c,j,i,g⟩,s,a⟩:=h;exact⟨⟨c,d,i,j,g.trans List.perm_append_comm⟩,s,λp e q b=>a p e q (by rw[Gd]at b ⊢;exact b.symm)⟩
theorem takeX{c rx':List α}(h:MI le X Y out (c++rx') ry)(sX:X.Pairwise le)(hc:∀p,p∈c->∀q,q∈ry->le p q):MI le X Y (out++c) rx' ry:=by
 obtain⟨⟨d,i,e,k,j⟩,s,a⟩:=h;rw[e]at sX;have g:=(List.pairwise_append.mp sX).2.1;have b:=List.pairwise_append.mp g;refine⟨⟨d++c,i,by rw[e,GC],k,?_⟩,List.pairwise_append.mpr ⟨s,b.1,λp hp q hq=>a p hp q (by simp[hq])⟩,λp hp q hq=>?_⟩
 ·refine(j.append_right c).trans ?_
  rw[GC,GC];exact List.perm_append_comm.append_left d
 ·rcases Gd.mp hp with hp | hp
  ·exact a p hp q (by rcases Gd.mp hq with hq | hq<;>simp[hq])
  ·rcases Gd.mp hq with hq | hq
   ·exact b.2.2 p hp q hq
   ·exact hc p hp q hq
theorem takeY{c ry':List α}(h:MI le X Y out rx (c++ry'))(sY:Y.Pairwise le)(hc:∀p,p∈c->∀q,q∈rx->le p q):MI le X Y (out++c) rx ry':=
 (h.swap.takeX sY hc).swap
theorem oneX{x:α}{rx':List α}(h:MI le X Y out (x::rx') ry)(sX:X.Pairwise le)(hc:∀q,q∈ry->le x q):MI le X Y (out++[x]) rx' ry:=
 takeX (c:=[x]) h sX λp hp q hq=>by rw[F4]at hp;subst hp;exact hc q hq
theorem oneY{y:α}{ry':List α}(h:MI le X Y out rx (y::ry'))(sY:Y.Pairwise le)(hc:∀q,q∈rx->le y q):MI le X Y (out++[y]) rx ry':=
 takeY (c:=[y]) h sY λp hp q hq=>by rw[F4]at hp;subst hp;exact hc q hq
theorem len(h:MI le X Y out rx ry):out.length+rx.length+ry.length=X.length+Y.length:=by
 obtain⟨⟨px,py,c,b,a⟩,_,_⟩:=h;have:=a.length_eq;rw[c,b];simp at this ⊢;omega
theorem fin{l:List α}(h:MI le X Y out rx ry)(hp:l.Perm (rx++ry))(hs:l.Pairwise le):(out++l).Pairwise le/\(out++l).Perm (X++Y):=by
 obtain⟨⟨b,py,e,d,c⟩,s,a⟩:=h;refine⟨List.pairwise_append.mpr ⟨s,hs,λp h1 q h2=>a p h1 q (hp.mem_iff.mp h2)⟩,?_⟩;rw[e,d];refine(c.append hp).trans ?_;rw[GC,GC];refine List.Perm.append_left b ?_;rw[<- GC,<- GC];exact List.perm_append_comm.append_right ry
theorem finX(h:MI le X Y out rx [])(sX:X.Pairwise le):(out++rx).Pairwise le/\(out++rx).Perm (X++Y):=by
 obtain⟨px,py,a,_,_⟩:=h.ex;exact h.fin (by rw[GB]) (by rw[a]at sX;exact(List.pairwise_append.mp sX).2.1)
theorem finY(h:MI le X Y out [] ry)(sY:Y.Pairwise le):(out++ry).Pairwise le/\(out++ry).Perm (X++Y):=by
 obtain⟨px,py,_,a,_⟩:=h.ex;exact h.fin (by rw[GQ]) (by rw[a]at sY;exact(List.pairwise_append.mp sY).2.1)
theorem lastX{x:α}(h:MI le X Y out [x] ry)(sY:Y.Pairwise le)(hx:∀q,q∈ry->le q x):(out++(ry++[x])).Pairwise le/\(out++(ry++[x])).Perm (X++Y):=by
 obtain⟨px,py,_,c,_⟩:=h.ex;refine h.fin List.perm_append_comm ?_;rw[c]at sY;exact List.pairwise_append.mpr ⟨(List.pairwise_append.mp sY).2.1,List.pairwise_singleton _ _,λp b q a=>by rw[F4]at a;subst a;exact hx p b⟩
end MI
theorem uC{α:Type}(a:Array α)(i:Nat):(a.extract i a.size).toList=a.toList.drop i:=by
 rw[Array.toList_extract];simp[List.extract];exact q0F (by simp)
theorem kz{α:Type}(a:Array α)(i k:Nat):(a.extract i (i+k)).toList=(a.toList.drop i).take k:=by
 rw[Array.toList_extract];simp[List.extract]
theorem eS{α:Type}(a:Array α){i:Nat}(h:i<a.toList.length):∃x,a[i]?=some x/\a.toList.drop i=x::a.toList.drop (i+1)/\x∈a.toList:=by
 refine⟨a.toList[i],?_,q0T h,F_ h⟩;rw[<- q0G,FZ h]
def SG(st st':SortSt):Prop:=kindOf st'=kindOf st/\arrOf st'=arrOf st/\pendingOf st'=pendingOf st/\failedOf st'=failedOf st
theorem SG.refl(st:SortSt):SG st st:=⟨rfl,rfl,rfl,rfl⟩
abbrev PA:=Array Keyed
abbrev SM:=StateT SortSt Sem
abbrev gy(r:Keyed->Nat):Keyed->Keyed->Prop:=λp q=>r p<=r q
def rn:PA->PA->SM PA:=sortPriv% PySem.Builtin.mergeLo
def jI:Nat->SM Unit:=sortPriv% PySem.Builtin.setMinGallop
abbrev L1:=Option PA×PA×Nat×Nat×Nat×Nat
abbrev Db:=Option PA×PA×Nat×Nat×Nat×Nat×Nat
abbrev L0:=Option PA×PA×Nat×Nat×Nat
abbrev xD(a b:PA)(o:PA)(i j:Nat):PA:=o++a.extract i a.size++b.extract j b.size
abbrev Bd(a b:PA)(o:PA)(i j:Nat):PA:=o++b.extract j b.size++a.extract i a.size
def DW(a b:PA)(g:Nat)(o:PA)(i j m n:Nat):SM (ForInStep L1):=
 elem' b j >>= λy=>elem' a i >>= λx=>lt' y x >>= λt=>match t with
 |some t=>if t=true then elem' b j >>= λy=>
   if(j+1==b.size)=true then pure (.done (some (xD a b (o.push y) i (j+1)),o.push y,i,j+1,0,n+1))
   else if n+1≥g then pure (.done (none,o.push y,i,j+1,0,n+1)) else pure (.yield (none,o.push y,i,j+1,0,n+1))
  else elem' a i >>= λx=>
   if(i+1+1==a.size)=true then pure (.done (some (Bd a b (o.push x) (i+1) j),o.push x,i+1,j,m+1,0))
   else if m+1≥g then pure (.done (none,o.push x,i+1,j,m+1,0)) else pure (.yield (none,o.push x,i+1,j,m+1,0))
 |_=>pure (.done (some (xD a b o i j),o,i,j,m,n))
def C'(a b:PA)(o:PA)(i j g m n:Nat):SM (ForInStep Db):=
 elem' a i >>= λx=>if(i+1+1==a.size)=true then pure (.done (some (Bd a b (o.push x) (i+1) j),o.push x,i+1,j,g,m,n))
  else if(decide (m<7)&&decide (n<7))=true then pure (.done (none,o.push x,i+1,j,g,m,n)) else pure (.yield (none,o.push x,i+1,j,g,m,n))
def Dh(a b:PA)(o:PA)(i j g m n:Nat):SM (ForInStep Db):=
 elem' b j >>= λy=>if(j+1==b.size)=true then pure (.done (some (xD a b (o.push y) i (j+1)),o.push y,i,j+1,g,m,n))
  else elem' a i >>= λx=>gi true x b (j+1) (b.size-(j+1)) 0 >>= λt=>match t with
  |some k=>if k>0 then
    if(j+1+k==b.size)=true then pure (.done (some (xD a b (o.push y++b.extract (j+1) (j+1+k)) i (j+1+k)),o.push y++b.extract (j+1) (j+1+k),i,j+1+k,g,m,k))
    else C' a b (o.push y++b.extract (j+1) (j+1+k)) i (j+1+k) g m k
   else C' a b (o.push y) i (j+1) g m k
  |_=>pure (.done (some (xD a b (o.push y) i (j+1)),o.push y,i,j+1,g,m,n))
def Co(a b:PA)(o:PA)(i j g m n:Nat):SM (ForInStep Db):=
 jI g >>= λ_=>elem' b j >>= λy=>gi false y a i (a.size-i) 0 >>= λt=>match t with
  |some k=>if k>0 then
    if(i+k+1==a.size)=true then pure (.done (some (Bd a b (o++a.extract i (i+k)) (i+k) j),o++a.extract i (i+k),i+k,j,g,k,n))
    else if(i+k==a.size)=true then pure (.done (some (xD a b (o++a.extract i (i+k)) (i+k) j),o++a.extract i (i+k),i+k,j,g,k,n))
    else Dh a b (o++a.extract i (i+k)) (i+k) j g k n
   else Dh a b o i j g k n
  |_=>pure (.done (some (xD a b o i j),o,i,j,g,m,n))
def DE(a b:PA)(s:L0):SM (ForInStep L0):=
 forIn [0:a.size+b.size] ((none,s.2.1,s.2.2.1,s.2.2.2.1,0,0):L1) (λ_ t=>DW a b s.2.2.2.2 t.2.1 t.2.2.1 t.2.2.2.1 t.2.2.2.2.1 t.2.2.2.2.2) >>= λt=>
 match t.1 with
 |some z=>pure (.done (some z,t.2.1,t.2.2.1,t.2.2.2.1,s.2.2.2.2))
 |none=>liftM (rule "list.sort.gallop") >>= λ_=>
  forIn [0:a.size+b.size] ((none,t.2.1,t.2.2.1,t.2.2.2.1,s.2.2.2.2+1,t.2.2.2.2.1,t.2.2.2.2.2):Db) (λ_ u=>
   if u.2.2.2.2.1>1 then Co a b u.2.1 u.2.2.1 u.2.2.2.1 (u.2.2.2.2.1-1) u.2.2.2.2.2.1 u.2.2.2.2.2.2 else Co a b u.2.1 u.2.2.1 u.2.2.2.1 u.2.2.2.2.1 u.2.2.2.2.2.1 u.2.2.2.2.2.2) >>= λu=>
  match u.1 with
  |some z=>pure (.done (some z,u.2.1,u.2.2.1,u.2.2.2.1,u.2.2.2.2.1))
  |none=>jI (u.2.2.2.2.1+1) >>= λ_=>pure (.yield (none,u.2.1,u.2.2.1,u.2.2.2.1,u.2.2.2.2.1+1))
def AA(a b:PA):SM PA:=
 liftM (rule "list.sort.merge-lo") >>= λ_=>elem' b 0 >>= λy=>
 if((1:Nat)==b.size)=true then pure (xD a b #[y] 0 1) else if((0:Nat)+1==a.size)=true then pure (Bd a b #[y] 0 1) else
 get >>= λst=>forIn [0:a.size+b.size] ((none,#[y],0,1,gallopOf st):L0) (λ_ s=>DE a b s) >>= λs=>
 match s.1 with
 |some z=>pure z
 |none=>liftM (unsupported "internal:list.sort.merge-bound":Sem PA)
theorem aI{α β:Type}{m m':SM α}{f g:α->SM β}(e:m=m')(h:∀x,f x=g x):(m >>= f)=(m' >>= g):=by rw[e,funext h]
theorem fJ{β:Type}{n:Nat}{c:β}{f g:Nat->β->SM (ForInStep β)}(h:∀x s,f x s=g x s):(forIn [0:n] c f:SM β)=forIn [0:n] c g:=by
 rw[show f=g from funext λx=>funext λs=>h x s]
theorem c5{α:Type}{c:Prop}[Decidable c]{a b a' b':α}(h:a=a')(k:b=b'):(if c then a else b)=if c then a' else b':=by rw[h,k]
theorem sI(a b:PA):rn a b=AA a b:=by
 refine aI rfl λ_=>aI rfl λy=>c5 rfl (c5 rfl (aI rfl λst=>aI (fJ λ_ s=>?_) λs=>?_))
 ·refine aI (fJ λ_ t=>?_) λt=>?_
  ·refine aI rfl λy=>aI rfl λx=>aI rfl λt=>?_
   rfl
  ·obtain⟨z,t⟩:=t
   cases z with
   |some z=>rfl
   |none=>
    refine aI rfl λ_=>aI (fJ λ_ u=>c5 ?_ ?_) λu=>?_
    ·rfl
    ·rfl
    ·obtain⟨z,u⟩:=u
     cases z<;>rfl
 ·obtain⟨z,s⟩:=s
  cases z<;>rfl
section
variable {prog:G5}{w:G8}{A:G7}{E:GW}{J:Shared->Prop}{a₀:Array Keyed}{kd:SortKind}{r:Keyed->Nat}
def bt(r:Keyed->Nat)(left:Bool)(key p:Keyed):Prop:=if left=true then r p<r key else r p<=r key
noncomputable instance (left:Bool)(key p:Keyed):Decidable (bt r left key p):=by unfold bt;infer_instance
theorem xj{arr:PA}{base n t:Nat}(hn:base+n<=arr.toList.length)(ht:t<n):arr[base+t]?=((arr.toList.drop base).take n)[t]?:=by
 rw[List.getElem?_take,q07 ht,List.getElem?_drop,q0G]
theorem nI{left:Bool}{key:Keyed}{arr:PA}{base n hint:Nat}{st:SortSt}{Q:Option Nat->SortSt->Prop}(C:oy prog w A J a₀ kd r)(hk:kindOf st=kd)(hkey:key∈a₀.toList)
  (hi:hint<n) (hn:base+n<=arr.toList.length) (mem:∀p,p∈(arr.toList.drop base).take n->p∈a₀.toList) (srt:((arr.toList.drop base).take n).Pairwise (gy r))
  (h:∀k,k<=n->(∀p,p∈((arr.toList.drop base).take n).take k->bt r left key p)->(∀p,p∈((arr.toList.drop base).take n).drop k->¬ bt r left key p)->Q (some k) st) :
  dH (model prog w) A E J (gi left key arr base n hint) Q st:=by
 generalize hS:(arr.toList.drop base).take n=S at *;have lS:S.length=n:=by rw[<- hS];simp at hn ⊢;omega
 have at':∀t,t<n->arr[base+t]?=S[t]?:=λt ht=>by rw[<- hS];exact xj hn ht
 refine xu (B:=λt=>match S[t]? with | some x=>decide (bt r left key x) | none=>false) C hk hkey hi (λt ht=>?_) (λi j hij hj hB=>?_) λk hk' f g=>h k hk' (λp hp=>?_) λp hp=>?_
 ·have e:S[t]?=some S[t]:=FZ ⋯
  refine⟨S[t],by rw[at' t ht,e],mem _ (F_ _),?_⟩;rw[e];dsimp only
  unfold bt;cases left with
  |true=>simp
  |false=>
   simp only[q0a,if_false]
   by_cases q:r key<r S[t]
   ·rw[q09 q,q08 ⋯];rfl
   ·rw[q08 q,q09 ⋯];rfl
 ·have e1:S[i]?=some S[i]:=FZ ⋯
  have e2:S[j]?=some S[j]:=FZ ⋯;rw[e2]at hB;rw[e1];dsimp only at hB ⊢
  have hle:r S[i]<=r S[j]:=by
   rcases Nat.lt_or_ge i j with q | q
   ·exact(List.pairwise_iff_getElem.mp srt) i j ⋯ ⋯ q
   ·have:i=j:=by omega
    subst this;exact Gq _
  have hB':=of_decide_eq_true hB;refine q09 ?_;unfold bt at hB' ⊢
  split at hB'<;>rename_i hc
  ·rw[q07 hc];omega
  ·rw[q06 hc];omega
 ·obtain⟨t,ht,e⟩:=List.mem_iff_getElem.mp hp
  rw[GG]at ht;rw[List.getElem_take]at e;have:=f t ⋯;rw[FZ ⋯]at this;rw[<- e];exact of_decide_eq_true this
 ·obtain⟨t,ht,e⟩:=List.mem_iff_getElem.mp hp
  rw[GH]at ht;rw[List.getElem_drop]at e;have:=g (k+t) ⋯ ⋯;rw[FZ ⋯]at this;rw[<- e];exact of_decide_eq_false this
theorem jm{left:Bool}{key p:Keyed}(h:¬ bt r left key p):if left=true then r key<=r p else r key<r p:=by
 unfold bt at h
 split at h<;>rename_i hc
 ·rw[q07 hc];omega
 ·rw[q06 hc];omega
structure MC(prog:G5)(w:G8)(A:G7)(J:Shared->Prop)(a₀:PA)(kd:SortKind)(r:Keyed->Nat)(a b:PA):Prop where
 C:oy prog w A J a₀ kd r
 ha:∀p,p∈a.toList->p∈a₀.toList
 hb:∀p,p∈b.toList->p∈a₀.toList
 sa:a.toList.Pairwise (gy r)
 sb:b.toList.Pairwise (gy r)
 hl:∀x,a[a.toList.length-1]?=some x->∀q,q∈b.toList->r q<=r x
def gL(r:Keyed->Nat)(a b z:PA):Prop:=z.toList.Pairwise (gy r)/\z.toList.Perm (a.toList++b.toList)
structure g5(r:Keyed->Nat)(a b o:PA)(i j:Nat):Prop where
 mi:MI (gy r) a.toList b.toList o.toList (a.toList.drop i) (b.toList.drop j)
 hi:i+1<a.toList.length
 hj:j<b.toList.length
def PG(r:Keyed->Nat)(a b:PA)(k:Nat)(z:Option PA)(o:PA)(i j:Nat):Prop:=match z with
 |some z=>gL r a b z
 |none=>g5 r a b o i j/\k<=o.size
variable {a b:PA}
theorem g5.lt{o:PA}{i j:Nat}(h:g5 r a b o i j):o.size<a.size+b.size:=by
 have:=h.mi.len;have h1:=h.hi;have h2:=h.hj
 simp at this h1 h2;omega
theorem Cs(m:MC prog w A J a₀ kd r a b){o:PA}{i j:Nat}(h:MI (gy r) a.toList b.toList o.toList (a.toList.drop i) (b.toList.drop j))(hj:(j==b.size)=true\/(i==a.size)=true):gL r a b (xD a b o i j):=by
 unfold gL;rw[show(xD a b o i j).toList=o.toList++(a.toList.drop i++b.toList.drop j) by simp only[xD,q0V,uC,GC]];rcases hj with hj | hj
 ·have e:b.toList.drop j=[]:=List.drop_eq_nil_of_le (by have:=eq_of_beq hj;simp;omega)
  rw[e]at h ⊢;rw[GB];exact h.finX m.sa
 ·have e:a.toList.drop i=[]:=List.drop_eq_nil_of_le (by have:=eq_of_beq hj;simp;omega)
  rw[e]at h ⊢;rw[GQ];exact h.finY m.sb
theorem Df(m:MC prog w A J a₀ kd r a b){o:PA}{i j:Nat}(h:MI (gy r) a.toList b.toList o.toList (a.toList.drop i) (b.toList.drop j))(hi:(i+1==a.size)=true):gL r a b (Bd a b o i j):=by
 have e:=eq_of_beq hi;obtain⟨x,k,d,e3⟩:=eS a (i:=i) (by simp;omega);have c:a.toList.drop (i+1)=[]:=List.drop_eq_nil_of_le (by simp;omega);unfold gL;rw[show(Bd a b o i j).toList=o.toList++(b.toList.drop j++a.toList.drop i) by simp only[Bd,q0V,uC,GC],d,c];rw[d,c]at h;refine h.lastX m.sb λq g=>m.hl x ?_ q (q0I g);rw[show a.toList.length-1=i by simp;omega];exact k
theorem km{l:List Keyed}(s:l.Pairwise (gy r)){i:Nat}{y:Keyed}(e:l.drop i=y::l.drop (i+1)):∀q,q∈l.drop i->r y<=r q:=by
 intro q hq;have:=s.sublist (List.drop_sublist i l);rw[e]at this hq;rcases Gg.mp hq with rfl | hq
 ·exact Gq _
 ·exact(List.pairwise_cons.mp this).1 q hq
theorem ce{x y:Nat}(h:¬ (x==y)=true):x≠y:=λe=>h (by rw[e];exact beq_self_eq_true y)
theorem B8(m:MC prog w A J a₀ kd r a b){st:SortSt}(hk:kindOf st=kd){o:PA}{i j g u v:Nat}(h:g5 r a b o i j) :
  dH (model prog w) A E J (DW a b g o i j u v) (λt st'=>st'=st/\match t with
   | .done s=>PG r a b (o.size+1) s.1 s.2.1 s.2.2.1 s.2.2.2.1
   | .yield s=>s.1=none/\PG r a b (o.size+1) s.1 s.2.1 s.2.2.1 s.2.2.2.1) st:=by
 unfold DW;obtain⟨y,p,n,D⟩:=eS b h.hj;obtain⟨x,B,z,G⟩:=eS a (i:=i) (by have:=h.hi;omega);refine aj (bR p (aj (bR B (aj (wx m.C (m.hb _ D) (m.ha _ G) hk ?_)))));dsimp only;have mi:=h.mi
 by_cases l:r y<r x
 ·rw[q07 (q09 l)]
  refine aj (bR p ?_);rw[n]at mi;have c:MI (gy r) a.toList b.toList (o.push y).toList (a.toList.drop i) (b.toList.drop (j+1)):=by
   rw[Array.toList_push];exact mi.oneY m.sb λq k=>by have:=km m.sa z q k;show r y<=r q;omega
  by_cases d:(j+1==b.size)=true
  ·rw[q07 d];exact ar ⟨rfl,Cs m c (.inl d)⟩
  ·rw[q06 d]
   have e:g5 r a b (o.push y) i (j+1):=⟨c,h.hi,by have:=ce d;have:=h.hj;simp at this ⊢;omega⟩
   split
   ·exact ar ⟨rfl,e,by simp⟩
   ·exact ar ⟨rfl,rfl,e,by simp⟩
 ·rw[q06 (by simpa using l)]
  refine aj (bR B ?_);rw[z]at mi;have c:MI (gy r) a.toList b.toList (o.push x).toList (a.toList.drop (i+1)) (b.toList.drop j):=by
   rw[Array.toList_push];exact mi.oneX m.sa λq k=>by have:=km m.sb n q k;show r x<=r q;omega
  by_cases d:(i+1+1==a.size)=true
  ·rw[q07 d];exact ar ⟨rfl,Df m c d⟩
  ·rw[q06 d]
   have e:g5 r a b (o.push x) (i+1) j:=⟨c,by have:=ce d;have:=h.hi;simp at this ⊢;omega,h.hj⟩
   split
   ·exact ar ⟨rfl,e,by simp⟩
   ·exact ar ⟨rfl,rfl,e,by simp⟩
theorem kB{g:Nat}{st:SortSt}{Q:Unit->SortSt->Prop}(h:∀st',SG st st'->Q () st'):dH (model prog w) A E J (jI g) Q st:=by
 unfold jI;exact cD (h _ ⟨rfl,rfl,rfl,rfl⟩)
theorem tW{l:List Keyed}(i:Nat):(l.drop i).take (l.length-i)=l.drop i:=q0F (by simp)
theorem Am(m:MC prog w A J a₀ kd r a b){st:SortSt}{o:PA}{i j g u v k:Nat}(h:g5 r a b o i j)(hk:k<=o.size)(hx:∀x,a[i]?=some x->∀q,q∈b.toList.drop j->r x<=r q) :
  dH (model prog w) A E J (C' a b o i j g u v) (λt st'=>st'=st/\match t with
   | .done s=>PG r a b (k+1) s.1 s.2.1 s.2.2.1 s.2.2.2.1
   | .yield s=>s.1=none/\PG r a b (k+1) s.1 s.2.1 s.2.2.1 s.2.2.2.1) st:=by
 unfold C';obtain⟨x,l,n,a3⟩:=eS a (i:=i) (by have:=h.hi;omega);refine aj (bR l ?_);have mi:=h.mi;rw[n]at mi;have c:MI (gy r) a.toList b.toList (o.push x).toList (a.toList.drop (i+1)) (b.toList.drop j):=by
  rw[Array.toList_push];exact mi.oneX m.sa (hx x l)
 by_cases d:(i+1+1==a.size)=true
 ·rw[q07 d];exact ar ⟨rfl,Df m c d⟩
 ·rw[q06 d]
  have e:g5 r a b (o.push x) (i+1) j:=⟨c,by have:=ce d;have:=h.hi;simp at this ⊢;omega,h.hj⟩
  split
  ·exact ar ⟨rfl,e,by simp;omega⟩
  ·exact ar ⟨rfl,rfl,e,by simp;omega⟩
theorem ia(l:List Keyed)(i k:Nat):l.drop i=(l.drop i).take k++l.drop (i+k):=by
 rw[<- List.drop_drop];exact(List.take_append_drop k _).symm
theorem Aq(m:MC prog w A J a₀ kd r a b){st:SortSt}(hk:kindOf st=kd){o:PA}{i j g u v k:Nat}(h:g5 r a b o i j)(hz:k<=o.size)(hy:∀y,b[j]?=some y->∀q,q∈a.toList.drop i->r y<=r q) :
  dH (model prog w) A E J (Dh a b o i j g u v) (λt st'=>st'=st/\match t with
   | .done s=>PG r a b (k+1) s.1 s.2.1 s.2.2.1 s.2.2.2.1
   | .yield s=>s.1=none/\PG r a b (k+1) s.1 s.2.1 s.2.2.1 s.2.2.2.1) st:=by
 unfold Dh;obtain⟨y,T,b2,b3⟩:=eS b h.hj;obtain⟨x,M,a2,a3⟩:=eS a (i:=i) (by have:=h.hi;omega);refine aj (bR T ?_);have mi:=h.mi;rw[b2]at mi;have c:MI (gy r) a.toList b.toList (o.push y).toList (a.toList.drop i) (b.toList.drop (j+1)):=by
  rw[Array.toList_push];exact mi.oneY m.sb (hy y T)
 by_cases G:(j+1==b.size)=true
 ·rw[q07 G];exact ar ⟨rfl,Cs m c (.inl G)⟩
 ·rw[q06 G]
  have hj:=h.hj;have hj1:j+1<b.size:=by have:=ce G;simp at hj;omega
  have I:((b.toList.drop (j+1)).take (b.size-(j+1)))=b.toList.drop (j+1):=by have:=tW (l:=b.toList) (j+1);simpa using this
  refine aj (bR M (aj (nI m.C hk (m.ha _ a3) ⋯ (by simp;omega) (by rw[I];exact λp L=>m.hb p (q0I L)) (by rw[I];exact m.sb.sublist (List.drop_sublist _ _)) λe he S f2=>?_)));rw[I]at S f2;dsimp only;have Y:∀p,p∈(b.toList.drop (j+1)).take e->∀q,q∈a.toList.drop i->r p<=r q:=λp L q n=>by
   have O:r p<r x:=S p L;have:=km m.sa a2 q n;omega
  have R:∀q,q∈b.toList.drop (j+1+e)->r x<=r q:=λq n=>by
   have O:=jm (f2 q (by rw[List.drop_drop];exact n));exact O
  by_cases B:e>0
  ·rw[q07 B]
   have z:MI (gy r) a.toList b.toList (o.push y++b.extract (j+1) (j+1+e)).toList (a.toList.drop i) (b.toList.drop (j+1+e)):=by
    rw[q0V,kz];rw[ia b.toList (j+1) e]at c;exact c.takeY m.sb Y
   by_cases d:(j+1+e==b.size)=true
   ·rw[q07 d];exact ar ⟨rfl,Cs m z (.inl d)⟩
   ·rw[q06 d]
    exact Am m ⟨z,h.hi,by have:=ce d;simp;omega⟩ (by simp;omega) λU D q n=>by rw[M]at D;cases D;exact R q n
  ·rw[q06 B]
   have Z:e=0:=by omega
   subst Z;exact Am m ⟨c,h.hi,by simp;omega⟩ (by simp;omega) λU D q n=>by rw[M]at D;cases D;exact R q n
theorem CJ(m:MC prog w A J a₀ kd r a b){st:SortSt}(hk:kindOf st=kd){o:PA}{i j g u v:Nat}(h:g5 r a b o i j) :
  dH (model prog w) A E J (Co a b o i j g u v) (λt st'=>SG st st'/\match t with
   | .done s=>PG r a b (o.size+1) s.1 s.2.1 s.2.2.1 s.2.2.2.1
   | .yield s=>s.1=none/\PG r a b (o.size+1) s.1 s.2.1 s.2.2.1 s.2.2.2.1) st:=by
 unfold Co;refine aj (kB λst' z=>?_);have x:kindOf st'=kd:=z.1.trans hk;obtain⟨y,M,b2,b3⟩:=eS b h.hj;have hi:=h.hi;have hi0:i+1<a.size:=by simpa using hi
 have I:((a.toList.drop i).take (a.size-i))=a.toList.drop i:=by have:=tW (l:=a.toList) i;simpa using this
 refine aj (bR M (aj (nI m.C x (m.hb _ b3) ⋯ (by simp;omega) (by rw[I];exact λp L=>m.ha p (q0I L)) (by rw[I];exact m.sa.sublist (List.drop_sublist _ _)) λe he R f2=>?_)));rw[I]at R f2;dsimp only;have Y:∀p,p∈(a.toList.drop i).take e->∀q,q∈b.toList.drop j->r p<=r q:=λp L q n=>by
  have U:r p<=r y:=R p L;have:=km m.sb b2 q n;omega
 have O:∀q,q∈a.toList.drop (i+e)->r y<=r q:=λq n=>by
  have U:r y<r q:=jm (f2 q (by rw[List.drop_drop];exact n));omega
 by_cases B:e>0
 ·rw[q07 B]
  have d:MI (gy r) a.toList b.toList (o++a.extract i (i+e)).toList (a.toList.drop (i+e)) (b.toList.drop j):=by
   rw[q0V,kz];have mi:=h.mi;rw[ia a.toList i e]at mi;exact mi.takeX m.sa Y
  by_cases G:(i+e+1==a.size)=true
  ·rw[q07 G];exact ar ⟨z,Df m d G⟩
  ·rw[q06 G]
   by_cases c:(i+e==a.size)=true
   ·rw[q07 c];exact ar ⟨z,Cs m d (.inr c)⟩
   ·rw[q06 c]
    refine bg (Aq (k:=o.size) m x ⟨d,by have:=ce G;have:=ce c;simp;omega,h.hj⟩ (by simp) λS D q n=>by rw[M]at D;cases D;exact O q n) λt T q=>⟨by rw[q.1];exact z,q.2⟩
 ·rw[q06 B]
  have Z:e=0:=by omega
  subst Z;exact bg (Aq (k:=o.size) m x h (Gq _) λS D q n=>by rw[M]at D;cases D;exact O q n) λt T q=>⟨by rw[q.1];exact z,q.2⟩
theorem SG.trans{x y z:SortSt}(h:SG x y)(k:SG y z):SG x z:=⟨k.1.trans h.1,k.2.1.trans h.2.1,k.2.2.1.trans h.2.2.1,k.2.2.2.trans h.2.2.2⟩
theorem CD(m:MC prog w A J a₀ kd r a b){st:SortSt}(hk:kindOf st=kd){s:L0}(h:g5 r a b s.2.1 s.2.2.1 s.2.2.2.1) :
  dH (model prog w) A E J (DE a b s) (λt st'=>SG st st'/\match t with
   | .done u=>∃z,u.1=some z/\gL r a b z
   | .yield u=>u.1=none/\g5 r a b u.2.1 u.2.2.1 u.2.2.2.1/\s.2.1.size+1<=u.2.1.size) st:=by
 unfold DE;refine aj (bg (dr (I:=λx c st'=>st'=st/\c.1=none/\g5 r a b c.2.1 c.2.2.1 c.2.2.2.1/\s.2.1.size+x<=c.2.1.size)
  (Q:=λc st'=>st'=st/\PG r a b (s.2.1.size+1) c.1 c.2.1 c.2.2.1 c.2.2.2.1) ?s1 ?e1 ⟨rfl,rfl,h,Gq _⟩) ?p1)
 case e1=>
  rintro c st' ⟨rfl,D,k,C⟩;have:=k.lt;omega
 case s1=>
  rintro x c st' _ C ⟨rfl,D,k,G⟩;refine bg (B8 m hk k) λt d q=>?_;obtain⟨rfl,q⟩:=q;cases t with
  |done u=>
   refine⟨rfl,?_⟩;dsimp only at q
   revert q;unfold PG;cases u.1 with
   |some z=>exact id
   |none=>exact λq=>⟨q.1,by have:=q.2;omega⟩
  |yield u=>
   obtain⟨y,p⟩:=q;rw[y]at p;exact⟨rfl,y,p.1,by have:=p.2;omega⟩
 case p1=>
  rintro⟨z,o,i,j,u,v⟩ st' ⟨rfl,q⟩;cases z with
  |some z=>exact ar ⟨SG.refl _,z,rfl,q⟩
  |none=>
   obtain⟨k,G⟩:=q;dsimp only;refine aj (io λ_ L=>wpAny_rule ⟨L,?_⟩);refine aj (bg (dr (I:=λx c d=>SG st' d/\c.1=none/\g5 r a b c.2.1 c.2.2.1 c.2.2.2.1/\s.2.1.size+1<=c.2.1.size)
    (Q:=λc d=>SG st' d/\PG r a b (s.2.1.size+1) c.1 c.2.1 c.2.2.1 c.2.2.2.1) ?s2 ?e2 ⟨SG.refl _,rfl,k,G⟩) ?p2)
   case e2=>
    rintro c d ⟨n,D,k,C⟩;exact⟨n,by rw[D];exact⟨k,C⟩⟩
   case s2=>
    rintro x c d _ C ⟨n,D,k,G⟩;have B:∀g,dH (model prog w) A E J (Co a b c.2.1 c.2.2.1 c.2.2.2.1 g c.2.2.2.2.2.1 c.2.2.2.2.2.2) (λt e=>match t with
      | .done c'=>SG st' e/\PG r a b (s.2.1.size+1) c'.1 c'.2.1 c'.2.2.1 c'.2.2.2.1
      | .yield c'=>SG st' e/\c'.1=none/\g5 r a b c'.2.1 c'.2.2.1 c'.2.2.2.1/\s.2.1.size+1<=c'.2.1.size) d:=by
     intro g;refine bg (CJ m (n.1.trans hk) k) λt e q=>?_;obtain⟨l,q⟩:=q;cases t with
     |done u=>
      refine⟨n.trans l,?_⟩;dsimp only at q
      revert q;unfold PG;cases u.1 with
      |some z=>exact id
      |none=>exact λq=>⟨q.1,by have:=q.2;omega⟩
     |yield u=>
      obtain⟨y,p⟩:=q;rw[y]at p;exact⟨n.trans l,y,p.1,by have:=p.2;omega⟩
    split
    ·exact bg (B _) λt e q=>by cases t<;>exact q
    ·exact bg (B _) λt e q=>by cases t<;>exact q
   case p2=>
    rintro⟨z,o2,i2,j2,g2,u2,v2⟩ d ⟨n,q⟩;cases z with
    |some z=>exact ar ⟨n,z,rfl,q⟩
    |none=>exact aj (kB λe l=>ar ⟨n.trans l,rfl,q.1,q.2⟩)
theorem vh(m:MC prog w A J a₀ kd r a b){st:SortSt}(hk:kindOf st=kd){Q:PA->SortSt->Prop}(h0:∀y,b[0]?=some y->∀q,q∈a.toList->r y<=r q)
  (na:0<a.toList.length) (nb:0<b.toList.length) (h:∀l st',SG st st'->gL r a b l->Q l st'):dH (model prog w) A E J (rn a b) Q st:=by
 rw[sI];unfold AA
 obtain⟨y,B,v,b3⟩:=eS b nb;refine aj (io λs j=>wpAny_rule ⟨j,aj (bR B ?_)⟩);have n:MI (gy r) a.toList b.toList (#[y]:PA).toList (a.toList.drop 0) (b.toList.drop 1):=by
  have:=MI.start (le:=gy r) a.toList b.toList;rw[show b.toList=y::b.toList.drop 1 from v]at this;have h2:=MI.oneY (by rw[show b.toList=y::b.toList.drop 1 from v];exact this) m.sb (h0 y B);exact h2
 by_cases k:((1:Nat)==b.size)=true
 ·rw[q07 k];exact ar (h _ _ (SG.refl _) (Cs m n (.inl k)))
 ·rw[q06 k]
  by_cases d:((0:Nat)+1==a.size)=true
  ·rw[q07 d];exact ar (h _ _ (SG.refl _) (Df m n d))
  ·rw[q06 d]
   refine aj (fq ?_);refine aj (bg (dr (I:=λx c st'=>SG st st'/\c.1=none/\g5 r a b c.2.1 c.2.2.1 c.2.2.2.1/\x+1<=c.2.1.size)
    (Q:=λc st'=>SG st st'/\∃z,c.1=some z/\gL r a b z) ?s ?e ⟨SG.refl _,rfl,⟨n,by have:=ce d;simp at na ⊢;omega,by have:=ce k;simp at nb ⊢;omega⟩,by simp⟩) ?p)
   case e=>
    rintro c st' ⟨_,D,o,C⟩;have:=o.lt;omega
   case s=>
    rintro x c st' _ C ⟨i,D,o,hz⟩;refine bg (CD m (i.1.trans hk) o) λt st2 q=>?_;obtain⟨g,q⟩:=q;cases t with
    |done u=>exact⟨i.trans g,q⟩
    |yield u=>exact⟨i.trans g,q.1,q.2.1,by have:=q.2.2;omega⟩
   case p=>
    rintro⟨z,u⟩ st' ⟨i,z',e,q⟩;dsimp only at e;subst e;exact ar (h _ _ i q)
end
def qS:PA->PA->SM PA:=sortPriv% PySem.Builtin.mergeHi
abbrev H1:=Option PA×Nat×Nat×PA×Nat×Nat
abbrev H2:=Option PA×Nat×Nat×PA×Nat×Nat×Nat
abbrev H0:=Option PA×Nat×Nat×PA×Nat
abbrev wW(a b:PA)(i j:Nat)(o:PA):PA:=a.extract 0 i++b.extract 0 j++o.reverse
abbrev B7(a b:PA)(i j:Nat)(o:PA):PA:=b.extract 0 j++a.extract 0 i++o.reverse
def Cp(a b:PA)(g:Nat)(i j:Nat)(o:PA)(m n:Nat):SM (ForInStep H1):=
 elem' b (j-1) >>= λy=>elem' a (i-1) >>= λx=>lt' y x >>= λt=>match t with
 |some t=>if t=true then elem' a (i-1) >>= λx=>
   if(i-1==0)=true then pure (.done (some (wW a b (i-1) j (o.push x)),i-1,j,o.push x,m+1,0))
   else if m+1≥g then pure (.done (none,i-1,j,o.push x,m+1,0)) else pure (.yield (none,i-1,j,o.push x,m+1,0))
  else elem' b (j-1) >>= λy=>
   if(j-1==1)=true then pure (.done (some (B7 a b i (j-1) (o.push y)),i,j-1,o.push y,0,n+1))
   else if n+1≥g then pure (.done (none,i,j-1,o.push y,0,n+1)) else pure (.yield (none,i,j-1,o.push y,0,n+1))
 |_=>pure (.done (some (wW a b i j o),i,j,o,m,n))
def Do(a b:PA)(i j:Nat)(o:PA)(g m n:Nat):SM (ForInStep H2):=
 elem' a (i-1) >>= λx=>if(i-1==0)=true then pure (.done (some (wW a b (i-1) j (o.push x)),i-1,j,o.push x,g,m,n))
  else if(decide (m<7)&&decide (n<7))=true then pure (.done (none,i-1,j,o.push x,g,m,n)) else pure (.yield (none,i-1,j,o.push x,g,m,n))
def C7(a b:PA)(i j:Nat)(o:PA)(g m n:Nat):SM (ForInStep H2):=
 elem' b (j-1) >>= λy=>if(j-1==1)=true then pure (.done (some (B7 a b i (j-1) (o.push y)),i,j-1,o.push y,g,m,n))
  else elem' a (i-1) >>= λx=>gi true x b 0 (j-1) (j-1-1) >>= λt=>match t with
  |some k=>if j-1-k>0 then
    if(k==1)=true then pure (.done (some (B7 a b i k (o.push y++(b.extract k (j-1)).reverse)),i,k,o.push y++(b.extract k (j-1)).reverse,g,m,j-1-k))
    else if(k==0)=true then pure (.done (some (wW a b i k (o.push y++(b.extract k (j-1)).reverse)),i,k,o.push y++(b.extract k (j-1)).reverse,g,m,j-1-k))
    else Do a b i k (o.push y++(b.extract k (j-1)).reverse) g m (j-1-k)
   else Do a b i (j-1) (o.push y) g m (j-1-k)
  |_=>pure (.done (some (wW a b i (j-1) (o.push y)),i,j-1,o.push y,g,m,n))
def md(a b:PA)(i j:Nat)(o:PA)(g m n:Nat):SM (ForInStep H2):=
 jI g >>= λ_=>elem' b (j-1) >>= λy=>gi false y a 0 i (i-1) >>= λt=>match t with
  |some k=>if i-k>0 then
    if(k==0)=true then pure (.done (some (wW a b k j (o++(a.extract k i).reverse)),k,j,o++(a.extract k i).reverse,g,i-k,n))
    else C7 a b k j (o++(a.extract k i).reverse) g (i-k) n
   else C7 a b i j o g (i-k) n
  |_=>pure (.done (some (wW a b i j o),i,j,o,g,m,n))
def DY(a b:PA)(s:H0):SM (ForInStep H0):=
 forIn [0:a.size+b.size] ((none,s.2.1,s.2.2.1,s.2.2.2.1,0,0):H1) (λ_ t=>Cp a b s.2.2.2.2 t.2.1 t.2.2.1 t.2.2.2.1 t.2.2.2.2.1 t.2.2.2.2.2) >>= λt=>
 match t.1 with
 |some z=>pure (.done (some z,t.2.1,t.2.2.1,t.2.2.2.1,s.2.2.2.2))
 |none=>liftM (rule "list.sort.gallop") >>= λ_=>
  forIn [0:a.size+b.size] ((none,t.2.1,t.2.2.1,t.2.2.2.1,s.2.2.2.2+1,t.2.2.2.2.1,t.2.2.2.2.2):H2) (λ_ u=>
   if u.2.2.2.2.1>1 then md a b u.2.1 u.2.2.1 u.2.2.2.1 (u.2.2.2.2.1-1) u.2.2.2.2.2.1 u.2.2.2.2.2.2 else md a b u.2.1 u.2.2.1 u.2.2.2.1 u.2.2.2.2.1 u.2.2.2.2.2.1 u.2.2.2.2.2.2) >>= λu=>
  match u.1 with
  |some z=>pure (.done (some z,u.2.1,u.2.2.1,u.2.2.2.1,u.2.2.2.2.1))
  |none=>jI (u.2.2.2.2.1+1) >>= λ_=>pure (.yield (none,u.2.1,u.2.2.1,u.2.2.2.1,u.2.2.2.2.1+1))
def AB(a b:PA):SM PA:=
 liftM (rule "list.sort.merge-hi") >>= λ_=>elem' a (a.size-1) >>= λx=>
 if(a.size-1==0)=true then pure (wW a b (a.size-1) b.size #[x]) else if(b.size==1)=true then pure (B7 a b (a.size-1) b.size #[x]) else
 get >>= λst=>forIn [0:a.size+b.size] ((none,a.size-1,b.size,#[x],gallopOf st):H0) (λ_ s=>DY a b s) >>= λs=>
 match s.1 with
 |some z=>pure z
 |none=>liftM (unsupported "internal:list.sort.merge-bound":Sem PA)
theorem sV(a b:PA):qS a b=AB a b:=by
 refine aI rfl λ_=>aI rfl λy=>c5 rfl (c5 rfl (aI rfl λst=>aI (fJ λ_ s=>?_) λs=>?_))
 ·refine aI (fJ λ_ t=>?_) λt=>?_
  ·refine aI rfl λy=>aI rfl λx=>aI rfl λt=>?_
   rfl
  ·obtain⟨z,t⟩:=t
   cases z with
   |some z=>rfl
   |none=>
    refine aI rfl λ_=>aI (fJ λ_ u=>c5 ?_ ?_) λu=>?_
    ·rfl
    ·rfl
    ·obtain⟨z,u⟩:=u
     cases z<;>rfl
 ·obtain⟨z,s⟩:=s
  cases z<;>rfl
section
variable {prog:G5}{w:G8}{A:G7}{E:GW}{J:Shared->Prop}{a₀:Array Keyed}{kd:SortKind}{r:Keyed->Nat}{a b:PA}
abbrev w_(r:Keyed->Nat):Keyed->Keyed->Prop:=λp q=>r q<=r p
theorem eZ{l:List Keyed}(h:l.Pairwise (gy r)):l.reverse.Pairwise (w_ r):=List.pairwise_reverse.mpr h
theorem xA{α:Type}(a:Array α)(i:Nat):(a.extract 0 i).toList=a.toList.take i:=by
 rw[Array.toList_extract];simp[List.extract]
theorem uD{α:Type}(a:Array α){k i:Nat}(h:k<=i):(a.extract k i).reverse.toList=((a.toList.take i).drop k).reverse:=by
 rw[Array.toList_reverse,Array.toList_extract];simp only[List.extract];rw[<- List.drop_take]
theorem eu(a:PA)(s:a.toList.Pairwise (gy r)){i:Nat}(h0:0<i)(h:i<=a.toList.length) :
  ∃x,a[i-1]?=some x/\(a.toList.take i).reverse=x::(a.toList.take (i-1)).reverse/\x∈a.toList/\∀q,q∈a.toList.take i->r q<=r x:=by
 have e:a.toList.take i=a.toList.take (i-1)++[a.toList[i-1]]:=by
  have:=List.take_succ_eq_append_getElem (l:=a.toList) (i:=i-1) ⋯
  rwa [show i-1+1=i by omega]at this
 refine⟨a.toList[i-1],?_,by rw[e,GI];rfl,F_ _,λq hq=>?_⟩
 ·rw[<- q0G,FZ ⋯]
 ·have b:=s.sublist (List.take_sublist i _)
  rw[e]at b hq;rcases Gd.mp hq with hq | hq
  ·exact(List.pairwise_append.mp b).2.2 q hq _ (List.mem_singleton_self _)
  ·rw[F4.mp hq];exact Gq _
structure MH(prog:G5)(w:G8)(A:G7)(J:Shared->Prop)(a₀:PA)(kd:SortKind)(r:Keyed->Nat)(a b:PA):Prop where
 C:oy prog w A J a₀ kd r
 ha:∀p,p∈a.toList->p∈a₀.toList
 hb:∀p,p∈b.toList->p∈a₀.toList
 sa:a.toList.Pairwise (gy r)
 sb:b.toList.Pairwise (gy r)
 h0:∀y,b[0]?=some y->∀q,q∈a.toList->r y<=r q
abbrev qA(r:Keyed->Nat)(a b o:PA)(i j:Nat):Prop:=MI (w_ r) a.toList.reverse b.toList.reverse o.toList (a.toList.take i).reverse (b.toList.take j).reverse
structure g8(r:Keyed->Nat)(a b o:PA)(i j:Nat):Prop where
 mi:qA r a b o i j
 hi:0<i
 hi':i<=a.toList.length
 hj:1<j
 hj':j<=b.toList.length
def PH(r:Keyed->Nat)(a b:PA)(k:Nat)(z:Option PA)(i j:Nat)(o:PA):Prop:=match z with
 |some z=>gL r a b z
 |none=>g8 r a b o i j/\k<=o.size
theorem g8.lt{o:PA}{i j:Nat}(h:g8 r a b o i j):o.size<a.size+b.size:=by
 have:=h.mi.len;have h1:=h.hi;have h2:=h.hj;have d:=h.hi';have c:=h.hj'
 simp at this d c;omega
theorem kM{z:PA}{l:List Keyed}(e:z.toList=l.reverse)(h:l.Pairwise (w_ r)/\l.Perm (a.toList.reverse++b.toList.reverse)):gL r a b z:=by
 unfold gL;rw[e]
 exact⟨List.pairwise_reverse.mpr h.1,(List.reverse_perm _).trans (h.2.trans ((List.reverse_perm _).append (List.reverse_perm _)))⟩
theorem CL(m:MH prog w A J a₀ kd r a b){o:PA}{i j:Nat}(h:qA r a b o i j)(hj:i=0\/j=0):gL r a b (wW a b i j o):=by
 rcases hj with rfl | rfl
 ·have c:MI (w_ r) a.toList.reverse b.toList.reverse o.toList [] (b.toList.take j).reverse:=h
  exact kM (by simp only[wW,q0V,xA,Array.toList_reverse,GI,GJ,List.take_zero,GQ]) (c.finY (eZ m.sb))
 ·have c:MI (w_ r) a.toList.reverse b.toList.reverse o.toList (a.toList.take i).reverse []:=h
  exact kM (by simp only[wW,q0V,xA,Array.toList_reverse,GI,GJ,List.take_zero,GB]) (c.finX (eZ m.sa))
theorem Dd(m:MH prog w A J a₀ kd r a b){o:PA}{i j:Nat}(h:qA r a b o i j)(hj:j=1)(hb:0<b.toList.length):gL r a b (B7 a b i j o):=by
 subst hj;obtain⟨y,n,k,e3,e4⟩:=eu b m.sb (i:=1) ⋯ ⋯;have c:(b.toList.take 1).reverse=[y]:=by rw[k];rfl
 have e:MI (w_ r) a.toList.reverse b.toList.reverse o.toList (a.toList.take i).reverse [y]:=by rw[<- c];exact h
 have g:b.toList.take 1=[y]:=by have:=q0R List.reverse c;simpa using this
 refine kM (l:=o.toList++((a.toList.take i).reverse++[y])) ?_ ?_
 ·simp only[B7,q0V,xA,Array.toList_reverse,GI,GJ,g,List.reverse_singleton,GC]
 ·have:=e.swap.lastX (eZ m.sa) λq d=>m.h0 y n q (q0H (List.mem_reverse.mp d))
  exact⟨this.1,this.2.trans List.perm_append_comm⟩
theorem Cn(m:MH prog w A J a₀ kd r a b){st:SortSt}(hk:kindOf st=kd){o:PA}{i j g u v:Nat}(h:g8 r a b o i j) :
  dH (model prog w) A E J (Cp a b g i j o u v) (λt st'=>st'=st/\match t with
   | .done s=>PH r a b (o.size+1) s.1 s.2.1 s.2.2.1 s.2.2.2.1
   | .yield s=>s.1=none/\PH r a b (o.size+1) s.1 s.2.1 s.2.2.1 s.2.2.2.1) st:=by
 unfold Cp;have h1:=h.hi;have h2:=h.hj;have p:=h.hi';have n:=h.hj'
 obtain⟨y,z,I,G,D⟩:=eu b m.sb (i:=j) ⋯ n;obtain⟨x,B,O,M,L⟩:=eu a m.sa (i:=i) ⋯ p;refine aj (bR z (aj (bR B (aj (wx m.C (m.hb _ G) (m.ha _ M) hk ?_)))));dsimp only;have mi:MI (w_ r) a.toList.reverse b.toList.reverse o.toList (a.toList.take i).reverse (b.toList.take j).reverse:=h.mi
 by_cases l:r y<r x
 ·rw[q07 (q09 l)]
  refine aj (bR B ?_);rw[O]at mi;have c:qA r a b (o.push x) (i-1) j:=by
   unfold qA;rw[Array.toList_push]
   exact mi.oneX (eZ m.sa) λq k=>by have:=D q (List.mem_reverse.mp k);show r q<=r x;omega
  by_cases d:(i-1==0)=true
  ·rw[q07 d];exact ar ⟨rfl,CL m c (.inl (eq_of_beq d))⟩
  ·rw[q06 d]
   have e:g8 r a b (o.push x) (i-1) j:=⟨c,by have:=ce d;omega,⋯,h2,n⟩
   split
   ·exact ar ⟨rfl,e,by simp⟩
   ·exact ar ⟨rfl,rfl,e,by simp⟩
 ·rw[q06 (by simpa using l)]
  refine aj (bR z ?_);rw[I]at mi;have c:qA r a b (o.push y) i (j-1):=by
   unfold qA;rw[Array.toList_push]
   exact mi.oneY (eZ m.sb) λq k=>by have:=L q (List.mem_reverse.mp k);show r q<=r y;omega
  by_cases d:(j-1==1)=true
  ·rw[q07 d];exact ar ⟨rfl,Dd m c (eq_of_beq d) ⋯⟩
  ·rw[q06 d]
   have e:g8 r a b (o.push y) i (j-1):=⟨c,h1,p,by have:=ce d;omega,⋯⟩
   split
   ·exact ar ⟨rfl,e,by simp⟩
   ·exact ar ⟨rfl,rfl,e,by simp⟩
theorem Av(m:MH prog w A J a₀ kd r a b){st:SortSt}{o:PA}{i j g u v k:Nat}(h:g8 r a b o i j)(hk:k<=o.size)(hx:∀x,a[i-1]?=some x->∀q,q∈b.toList.take j->r q<=r x) :
  dH (model prog w) A E J (Do a b i j o g u v) (λt st'=>st'=st/\match t with
   | .done s=>PH r a b (k+1) s.1 s.2.1 s.2.2.1 s.2.2.2.1
   | .yield s=>s.1=none/\PH r a b (k+1) s.1 s.2.1 s.2.2.1 s.2.2.2.1) st:=by
 unfold Do;have h1:=h.hi;have h2:=h.hj;have y:=h.hi';have p:=h.hj'
 obtain⟨x,l,z,a3,a4⟩:=eu a m.sa (i:=i) ⋯ y;refine aj (bR l ?_);have mi:MI (w_ r) a.toList.reverse b.toList.reverse o.toList (a.toList.take i).reverse (b.toList.take j).reverse:=h.mi;rw[z]at mi;have c:qA r a b (o.push x) (i-1) j:=by
  unfold qA;rw[Array.toList_push];exact mi.oneX (eZ m.sa) λq n=>hx x l q (List.mem_reverse.mp n)
 by_cases d:(i-1==0)=true
 ·rw[q07 d];exact ar ⟨rfl,CL m c (.inl (eq_of_beq d))⟩
 ·rw[q06 d]
  have e:g8 r a b (o.push x) (i-1) j:=⟨c,by have:=ce d;omega,⋯,h2,p⟩
  split
  ·exact ar ⟨rfl,e,by simp;omega⟩
  ·exact ar ⟨rfl,rfl,e,by simp;omega⟩
theorem mY(l:List Keyed){k i:Nat}(h:k<=i):(l.take i).reverse=((l.take i).drop k).reverse++(l.take k).reverse:=by
 rw[<- GI];have:=List.take_append_drop k (l.take i);rw[List.take_take,GU h]at this;rw[this]
theorem Ai(m:MH prog w A J a₀ kd r a b){st:SortSt}(hk:kindOf st=kd){o:PA}{i j g u v k:Nat}(h:g8 r a b o i j)(hz:k<=o.size)(hy:∀y,b[j-1]?=some y->∀q,q∈a.toList.take i->r q<=r y) :
  dH (model prog w) A E J (C7 a b i j o g u v) (λt st'=>st'=st/\match t with
   | .done s=>PH r a b (k+1) s.1 s.2.1 s.2.2.1 s.2.2.2.1
   | .yield s=>s.1=none/\PH r a b (k+1) s.1 s.2.1 s.2.2.1 s.2.2.2.1) st:=by
 unfold C7;have h1:=h.hi;have h2:=h.hj;have M:=h.hi';have Z:=h.hj'
 obtain⟨y,T,b2,b3,b4⟩:=eu b m.sb (i:=j) ⋯ Z;obtain⟨x,O,a2,a3,a4⟩:=eu a m.sa (i:=i) ⋯ M;refine aj (bR T ?_);have mi:MI (w_ r) a.toList.reverse b.toList.reverse o.toList (a.toList.take i).reverse (b.toList.take j).reverse:=h.mi;rw[b2]at mi;have c:qA r a b (o.push y) i (j-1):=by
  unfold qA;rw[Array.toList_push];exact mi.oneY (eZ m.sb) λq d=>hy y T q (List.mem_reverse.mp d)
 by_cases G:(j-1==1)=true
 ·rw[q07 G];exact ar ⟨rfl,Dd m c (eq_of_beq G) ⋯⟩
 ·rw[q06 G]
  have hc':=ce G;refine aj (bR O (aj (nI m.C hk (m.ha _ a3) ⋯ ⋯ (by rw[GV];exact λp I=>m.hb p (q0H I)) (by rw[GV];exact m.sb.sublist (List.take_sublist _ _)) λe L S f2=>?_)));rw[GV]at S f2;dsimp only;have g1:∀p,p∈((b.toList.take (j-1)).drop e).reverse->∀q,q∈(a.toList.take i).reverse->r q<=r p:=λp I q d=>by
   have Y:r x<=r p:=jm (f2 p (List.mem_reverse.mp I));have:=a4 q (List.mem_reverse.mp d);omega
  have R:∀q,q∈b.toList.take e->r q<=r x:=λq d=>by
   have Y:r q<r x:=S q (by rw[List.take_take,GU L];exact d);omega
  by_cases B:j-1-e>0
  ·rw[q07 B]
   have z:qA r a b (o.push y++(b.extract e (j-1)).reverse) i e:=by
    unfold qA at c ⊢;rw[q0V,uD b L];rw[mY b.toList L]at c;exact c.takeY (eZ m.sb) g1
   by_cases n:(e==1)=true
   ·rw[q07 n];exact ar ⟨rfl,Dd m z (eq_of_beq n) ⋯⟩
   ·rw[q06 n]
    by_cases l:(e==0)=true
    ·rw[q07 l];exact ar ⟨rfl,CL m z (.inr (eq_of_beq l))⟩
    ·rw[q06 l]
     exact Av m ⟨z,h1,M,by have:=ce n;have:=ce l;omega,⋯⟩ (by simp;omega) λU D q d=>by rw[O]at D;cases D;exact R q d
  ·rw[q06 B]
   have e0:e=j-1:=by omega
   subst e0;exact Av m ⟨c,h1,M,⋯,⋯⟩ (by simp;omega) λU D q d=>by rw[O]at D;cases D;exact R q d
theorem CI(m:MH prog w A J a₀ kd r a b){st:SortSt}(hk:kindOf st=kd){o:PA}{i j g u v:Nat}(h:g8 r a b o i j) :
  dH (model prog w) A E J (md a b i j o g u v) (λt st'=>SG st st'/\match t with
   | .done s=>PH r a b (o.size+1) s.1 s.2.1 s.2.2.1 s.2.2.2.1
   | .yield s=>s.1=none/\PH r a b (o.size+1) s.1 s.2.1 s.2.2.1 s.2.2.2.1) st:=by
 unfold md;refine aj (kB λst' z=>?_);have d:kindOf st'=kd:=z.1.trans hk;have h1:=h.hi;have h2:=h.hj;have h3:=h.hi';have L:=h.hj'
 obtain⟨y,I,b2,Z,Y⟩:=eu b m.sb (i:=j) ⋯ L;refine aj (bR I (aj (nI m.C d (m.hb _ Z) ⋯ ⋯ (by rw[GV];exact λp D=>m.ha p (q0H D)) (by rw[GV];exact m.sa.sublist (List.take_sublist _ _)) λe G O f2=>?_)));rw[GV]at O f2;dsimp only;have T:∀p,p∈((a.toList.take i).drop e).reverse->∀q,q∈(b.toList.take j).reverse->r q<=r p:=λp D q c=>by
  have q1:r y<r p:=jm (f2 p (List.mem_reverse.mp D));have:=Y q (List.mem_reverse.mp c);omega
 have M:∀q,q∈a.toList.take e->r q<=r y:=λq c=>O q (by rw[List.take_take,GU G];exact c)
 by_cases n:i-e>0
 ·rw[q07 n]
  have l:qA r a b (o++(a.extract e i).reverse) e j:=by
   have mi:=h.mi;unfold qA at mi ⊢;rw[q0V,uD a G];rw[mY a.toList G]at mi;exact mi.takeX (eZ m.sa) T
  by_cases B:(e==0)=true
  ·rw[q07 B];exact ar ⟨z,CL m l (.inl (eq_of_beq B))⟩
  ·rw[q06 B]
   exact bg (Ai (k:=o.size) m d ⟨l,by have:=ce B;omega,⋯,h2,L⟩ (by simp) λR x q c=>by rw[I]at x;cases x;exact M q c) λt S q=>⟨by rw[q.1];exact z,q.2⟩
 ·rw[q06 n]
  have U:e=i:=by omega
  subst U;exact bg (Ai (k:=o.size) m d h (Gq _) λR x q c=>by rw[I]at x;cases x;exact M q c) λt S q=>⟨by rw[q.1];exact z,q.2⟩
theorem Ci(m:MH prog w A J a₀ kd r a b){st:SortSt}(hk:kindOf st=kd){s:H0}(h:g8 r a b s.2.2.2.1 s.2.1 s.2.2.1) :
  dH (model prog w) A E J (DY a b s) (λt st'=>SG st st'/\match t with
   | .done u=>∃z,u.1=some z/\gL r a b z
   | .yield u=>u.1=none/\g8 r a b u.2.2.2.1 u.2.1 u.2.2.1/\s.2.2.2.1.size+1<=u.2.2.2.1.size) st:=by
 unfold DY;refine aj (bg (dr (I:=λx c st'=>st'=st/\c.1=none/\g8 r a b c.2.2.2.1 c.2.1 c.2.2.1/\s.2.2.2.1.size+x<=c.2.2.2.1.size)
  (Q:=λc st'=>st'=st/\PH r a b (s.2.2.2.1.size+1) c.1 c.2.1 c.2.2.1 c.2.2.2.1) ?s1 ?e1 ⟨rfl,rfl,h,Gq _⟩) ?p1)
 case e1=>
  rintro c st' ⟨rfl,D,k,C⟩;have:=k.lt;omega
 case s1=>
  rintro x c st' _ C ⟨rfl,D,k,G⟩;refine bg (Cn m hk k) λt d q=>?_;obtain⟨rfl,q⟩:=q;cases t with
  |done u=>
   refine⟨rfl,?_⟩;dsimp only at q
   revert q;unfold PH;cases u.1 with
   |some z=>exact id
   |none=>exact λq=>⟨q.1,by have:=q.2;omega⟩
  |yield u=>
   obtain⟨y,p⟩:=q;rw[y]at p;exact⟨rfl,y,p.1,by have:=p.2;omega⟩
 case p1=>
  rintro⟨z,i,j,o,u,v⟩ st' ⟨rfl,q⟩;cases z with
  |some z=>exact ar ⟨SG.refl _,z,rfl,q⟩
  |none=>
   obtain⟨k,G⟩:=q;dsimp only;refine aj (io λ_ L=>wpAny_rule ⟨L,?_⟩);refine aj (bg (dr (I:=λx c d=>SG st' d/\c.1=none/\g8 r a b c.2.2.2.1 c.2.1 c.2.2.1/\s.2.2.2.1.size+1<=c.2.2.2.1.size)
    (Q:=λc d=>SG st' d/\PH r a b (s.2.2.2.1.size+1) c.1 c.2.1 c.2.2.1 c.2.2.2.1) ?s2 ?e2 ⟨SG.refl _,rfl,k,G⟩) ?p2)
   case e2=>
    rintro c d ⟨n,D,k,C⟩;exact⟨n,by rw[D];exact⟨k,C⟩⟩
   case s2=>
    rintro x c d _ C ⟨n,D,k,G⟩;have B:∀g,dH (model prog w) A E J (md a b c.2.1 c.2.2.1 c.2.2.2.1 g c.2.2.2.2.2.1 c.2.2.2.2.2.2) (λt e=>match t with
      | .done c'=>SG st' e/\PH r a b (s.2.2.2.1.size+1) c'.1 c'.2.1 c'.2.2.1 c'.2.2.2.1
      | .yield c'=>SG st' e/\c'.1=none/\g8 r a b c'.2.2.2.1 c'.2.1 c'.2.2.1/\s.2.2.2.1.size+1<=c'.2.2.2.1.size) d:=by
     intro g;refine bg (CI m (n.1.trans hk) k) λt e q=>?_;obtain⟨l,q⟩:=q;cases t with
     |done u=>
      refine⟨n.trans l,?_⟩;dsimp only at q
      revert q;unfold PH;cases u.1 with
      |some z=>exact id
      |none=>exact λq=>⟨q.1,by have:=q.2;omega⟩
     |yield u=>
      obtain⟨y,p⟩:=q;rw[y]at p;exact⟨n.trans l,y,p.1,by have:=p.2;omega⟩
    split
    ·exact bg (B _) λt e q=>by cases t<;>exact q
    ·exact bg (B _) λt e q=>by cases t<;>exact q
   case p2=>
    rintro⟨z,i2,j2,o2,g2,u2,v2⟩ d ⟨n,q⟩;cases z with
    |some z=>exact ar ⟨n,z,rfl,q⟩
    |none=>exact aj (kB λe l=>ar ⟨n.trans l,rfl,q.1,q.2⟩)
theorem vb(m:MH prog w A J a₀ kd r a b){st:SortSt}(hk:kindOf st=kd){Q:PA->SortSt->Prop}(hl:∀x,a[a.size-1]?=some x->∀q,q∈b.toList->r q<=r x)
  (na:0<a.toList.length) (nb:0<b.toList.length) (h:∀l st',SG st st'->gL r a b l->Q l st'):dH (model prog w) A E J (qS a b) Q st:=by
 rw[sV];unfold AB
 obtain⟨x,B,D,a3,a4⟩:=eu a m.sa (i:=a.toList.length) na (Gq _);have C:a.toList.length=a.size:=by simp
 have y:b.toList.length=b.size:=by simp
 rw[C]at B D;refine aj (io λs j=>wpAny_rule ⟨j,aj (bR B ?_)⟩);have o:qA r a b #[x] (a.size-1) b.size:=by
  have h1:=MI.start (le:=w_ r) a.toList.reverse b.toList.reverse;have O:a.toList.reverse=x::(a.toList.take (a.size-1)).reverse:=by rw[<- D,<- C,GF]
  have h2:MI (w_ r) a.toList.reverse b.toList.reverse [] (x::(a.toList.take (a.size-1)).reverse) b.toList.reverse:=by rw[<- O];exact h1
  have M:=h2.oneX (eZ m.sa) λq L=>hl x B q (List.mem_reverse.mp L);unfold qA;rw[show b.toList.take b.size=b.toList by rw[<- y,GF]];exact M
 by_cases n:(a.size-1==0)=true
 ·rw[q07 n];exact ar (h _ _ (SG.refl _) (CL m o (.inl (eq_of_beq n))))
 ·rw[q06 n]
  by_cases d:(b.size==1)=true
  ·rw[q07 d];exact ar (h _ _ (SG.refl _) (Dd m o (eq_of_beq d) nb))
  ·rw[q06 d]
   refine aj (fq ?_);refine aj (bg (dr (I:=λx c st'=>SG st st'/\c.1=none/\g8 r a b c.2.2.2.1 c.2.1 c.2.2.1/\x+1<=c.2.2.2.1.size)
    (Q:=λc st'=>SG st st'/\∃z,c.1=some z/\gL r a b z) ?s ?e ⟨SG.refl _,rfl,⟨o,by have:=ce n;show 0<a.size-1;omega,by show a.size-1<=_;omega,by have:=ce d;show 1<b.size;omega,by show b.size<=_;omega⟩,by simp⟩) ?p)
   case e=>
    rintro c st' ⟨_,R,v,G⟩;have:=v.lt;omega
   case s=>
    rintro x c st' _ G ⟨k,R,v,hz⟩;refine bg (Ci m (k.1.trans hk) v) λt st2 q=>?_;obtain⟨g,q⟩:=q;cases t with
    |done u=>exact⟨k.trans g,q⟩
    |yield u=>exact⟨k.trans g,q.1,q.2.1,by have:=q.2.2;omega⟩
   case p=>
    rintro⟨z,u⟩ st' ⟨k,z',e,q⟩;dsimp only at e;subst e;exact ar (h _ _ k q)
end
section
variable {prog:G5}{w:G8}{A:G7}{E:GW}{J:Shared->Prop}{a₀:Array Keyed}{kd:SortKind}{r:Keyed->Nat}
theorem ul(s:Nat):∀(l:List Keyed) (n:Nat) (arr:PA),s+n+l.length<=arr.toList.length ->
  ((l.zipIdx n).foldl (λa (x:Keyed×Nat)=>a.setIfInBounds (s+x.2) x.1) arr).toList=arr.toList.take (s+n)++l++arr.toList.drop (s+n+l.length)
 | [],n,arr,h=>by simp
 |p::l,n,arr,h=>by
  rw[List.zipIdx_cons,List.foldl_cons,ul s l (n+1) _ (by simp at h ⊢;omega),Array.toList_setIfInBounds];dsimp only;have hlt:s+n<arr.toList.length:=by simp at h ⊢;omega
  have c:(arr.toList.set (s+n) p).take (s+(n+1))=arr.toList.take (s+n)++[p]:=by
   rw[show s+(n+1)=(s+n)+1 by omega,List.take_succ_eq_append_getElem (by simpa using hlt),List.take_set_of_le (Gq _),List.getElem_set_self]
  have b:(arr.toList.set (s+n) p).drop (s+(n+1)+l.length)=arr.toList.drop (s+n+(p::l).length):=by
   rw[List.drop_set_of_lt ⋯];congr 1;simp;omega
  rw[c,b];simp
structure SB(a₀:PA)(kd:SortKind)(st:SortSt):Prop where
 perm:(arrOf st).toList.Perm a₀.toList
 kind:kindOf st=kd
 failed:failedOf st=none
theorem mV{l u x v:List Keyed}(e:l=u++(x++v)):(l.drop u.length).take x.length=x:=by
 rw[e,List.drop_left,List.take_left]
theorem vZ{st:SortSt}{Q:Bool->SortSt->Prop}(C:oy prog w A J a₀ kd r)(B:SB a₀ kd st){p1 p2:List (Nat×Nat×Nat)}{pw pw':Nat}{u x y v:List Keyed}
  (hp:(pendingOf st).toList=p1++(u.length,x.length,pw)::(u.length+x.length,y.length,pw')::p2) (ha:(arrOf st).toList=u++(x++(y++v)))
  (hx:x≠[]) (hy:y≠[]) (sx:x.Pairwise (gy r)) (sy:y.Pairwise (gy r))
  (h:∀st' z,SB a₀ kd st'->(pendingOf st').toList=p1++(u.length,x.length+y.length,pw)::p2->(arrOf st').toList=u++(z++v)->z.Perm (x++y)->z.Pairwise (gy r)->Q true st') :
  dH (model prog w) A E J (mergeAt' p1.length) Q st:=by
 unfold mergeAt';refine aj (fq ?_);have e1:(pendingOf st)[p1.length]?=some (u.length,x.length,pw):=by rw[<- q0G,hp];simp
 have e2:(pendingOf st)[p1.length+1]?=some (u.length+x.length,y.length,pw'):=by rw[<- q0G,hp];simp
 have hL:u.length+x.length+y.length<=(arrOf st).toList.length:=by rw[ha];simp;omega
 have m:∀p,p∈x++y->p∈a₀.toList:=λp c=>B.perm.mem_iff.mp (by
  rw[ha];rcases Gd.mp c with q | q<;>simp[q])
 obtain⟨d,g,rfl⟩:∃d g,y=d::g:=by cases y with | nil=>exact q0Q rfl hy | cons p q=>exact⟨p,q,rfl⟩
 have ey:(arrOf st)[u.length+x.length]?=some d:=by rw[<- q0G,ha,Gn ⋯,Gn ⋯];simp
 have a0:0<x.length:=List.length_pos_iff.mpr hx;have ex:(arrOf st)[u.length+x.length-1]?=some (x[x.length-1]'⋯):=by
  rw[<- q0G,ha,Gn ⋯,Go ⋯,FZ ⋯];congr 2;omega
 generalize M:(x[x.length-1]'⋯)=xl at ex;have a1:xl∈x:=by rw[<- M];exact F_ _
 have lst:∀p,p∈x->r p<=r xl:=λp c=>by
  obtain⟨t,ht,e⟩:=List.mem_iff_getElem.mp c;rw[<- e,<- M];rcases Nat.lt_or_ge t (x.length-1) with q | q
  ·exact(List.pairwise_iff_getElem.mp sx) _ _ _ _ q
  ·have:t=x.length-1:=by omega
   subst this;exact Gq _
 have hd:∀q,q∈d::g->r d<=r q:=λq hq=>by
  rcases Gg.mp hq with rfl | hq
  ·exact Gq _
  ·exact(List.pairwise_cons.mp sy).1 q hq
 have G:((arrOf st).toList.drop u.length).take x.length=x:=mV ha;have D:((arrOf st).toList.drop (u.length+x.length)).take (d::g).length=d::g:=by
  have:=mV (l:=(arrOf st).toList) (u:=u++x) (x:=d::g) (v:=v) (by rw[ha];simp)
  rwa [Gp]at this
 have j:(((pendingOf st).setIfInBounds p1.length (u.length,x.length+(d::g).length,pw)).eraseIdxIfInBounds (p1.length+1)).toList=p1++(u.length,x.length+(d::g).length,pw)::p2:=by
  rw[Array.toList_eraseIdxIfInBounds,Array.toList_setIfInBounds,hp];simp[List.eraseIdx_append_of_length_le]
 have o:∀st',SB a₀ kd st'->(pendingOf st').toList=p1++(u.length,x.length+(d::g).length,pw)::p2->arrOf st'=arrOf st->(∀p,p∈x->∀q,q∈d::g->r p<=r q)->Q true st':=λst' B' p' a' q=>
  h st' (x++(d::g)) B' p' (by rw[a',ha,GC]) (List.Perm.refl _) (List.pairwise_append.mpr ⟨sx,sy,q⟩)
 dsimp only;rw[e1,e2];dsimp only;refine aj (CH ?_);refine aj (bR ey (aj (nI C B.kind (m _ (by simp)) a0 (by show u.length+x.length<=(arrOf st).toList.length;omega) (by rw[G];exact λp q=>m p (q0D _ q)) (by rw[G];exact sx) λk hk f1 f2=>?_)));rw[G]at f1 f2;dsimp only;have g1:∀p,p∈x.take k->r p<=r d:=f1;have g2:∀p,p∈x.drop k->r d<r p:=λp c=>jm (f2 p c)
 by_cases hc:(x.length-k==0)=true
 ·rw[q07 hc]
  have:x.take k=x:=q0F (by have:=eq_of_beq hc;omega);rw[this]at g1;exact ar (o _ ⟨B.perm,B.kind,B.failed⟩ j rfl λp c q hq=>Gy (g1 p c) (hd q hq))
 ·rw[q06 hc]
  have hc':=ce hc;refine aj (bR (p:=xl) (by rw[show u.length+k+(x.length-k)-1=u.length+x.length-1 by omega];exact ex) (aj (nI C B.kind (m _ (q0D _ a1)) (by simp) (by simpa using hL) (by rw[D];exact λp q=>m p (q0C _ q)) (by rw[D];exact sy) λn hn f3 f4=>?_)));rw[D]at f3 f4;dsimp only;have g3:∀p,p∈(d::g).take n->r p<r xl:=f3;have g4:∀p,p∈(d::g).drop n->r xl<=r p:=λp c=>jm (f4 p c)
  by_cases I:(n==0)=true
  ·rw[q07 I]
   have e0:n=0:=eq_of_beq I;subst e0;exact ar (o _ ⟨B.perm,B.kind,B.failed⟩ j rfl λp c q hq=>Gy (lst p c) (g4 q hq))
  ·rw[q06 I]
   have hn0':=ce I;have S:((arrOf st).extract (u.length+k) (u.length+x.length)).toList=x.drop k:=by
    rw[show u.length+x.length=(u.length+k)+(x.length-k) by omega,kz,<- List.drop_drop,<- List.drop_take,G]
   have R:((arrOf st).extract (u.length+x.length) (u.length+x.length+n)).toList=(d::g).take n:=by
    rw[kz];have:=q0R (List.take n) D
    rwa [List.take_take,GU hn]at this
   generalize(arrOf st).extract (u.length+k) (u.length+x.length)=aa at S ⊢;generalize(arrOf st).extract (u.length+x.length) (u.length+x.length+n)=bb at R ⊢;have la:aa.toList.length=x.length-k:=by rw[S,GH]
   have lb:bb.toList.length=n:=by rw[R,GG];omega
   have h0:∀y,bb[0]?=some y->∀q,q∈aa.toList->r y<=r q:=λy e q hq=>by
    rw[<- q0G,R]at e;have:y=d:=by
     rw[List.getElem?_take,q07 ⋯]at e;exact(q0S e).symm
    subst this;rw[S]at hq;exact q0P (g2 q hq)
   have hl:∀z,aa[aa.toList.length-1]?=some z->∀q,q∈bb.toList->r q<=r z:=λz e q hq=>by
    rw[<- q0G,la,S,List.getElem?_drop,show k+(x.length-k-1)=x.length-1 by omega,FZ ⋯,M]at e;cases e;rw[R]at hq;exact q0P (g3 q hq)
   have Z:∀p,p∈aa.toList->p∈a₀.toList:=λp c=>m p (q0D _ (q0I (by rw[<- S];exact c)));have Y:∀p,p∈bb.toList->p∈a₀.toList:=λp c=>m p (q0C _ (q0H (by rw[<- R];exact c)));have U:aa.toList.Pairwise (gy r):=by rw[S];exact sx.sublist (List.drop_sublist _ _)
   have T:bb.toList.Pairwise (gy r):=by rw[R];exact sy.sublist (List.take_sublist _ _)
   have fin:∀(l:PA) (st':SortSt),kindOf st'=kd->arrOf st'=arrOf st->(pendingOf st').toList=p1++(u.length,x.length+(d::g).length,pw)::p2->failedOf st'=none->gL r aa bb l ->
     Q true (setArr st' (l.toList.zipIdx.foldl (λa (x:Keyed×Nat)=>a.setIfInBounds (u.length+k+x.2) x.1) (arrOf st'))):=by
    intro l st' k' a' p' O good;have i:=good.2;rw[S,R]at i;have ll:=i.length_eq;rw[Gp,GH,GG,GU hn]at ll;have ez:(l.toList.zipIdx.foldl (λa (x:Keyed×Nat)=>a.setIfInBounds (u.length+k+x.2) x.1) (arrOf st')).toList=u++((x.take k++l.toList++(d::g).drop n)++v):=by
     rw[ul (u.length+k) l.toList 0 _ (by rw[a'];omega),a',ha,ll];rw[show u.length+k+0=u.length+k by omega,List.take_length_add_append,List.take_append_of_le_length hk,
      show u.length+k+(x.length-k+n)=u.length+(x.length+n) by omega,List.drop_length_add_append,List.drop_length_add_append,List.drop_append_of_le_length hn]
     simp only[GC]
    have zp:(x.take k++l.toList++(d::g).drop n).Perm (x++(d::g)):=by
     refine((i.append_left (x.take k)).append_right _).trans ?_;rw[<- GC,List.take_append_drop,GC,List.take_append_drop]
    refine h _ (x.take k++l.toList++(d::g).drop n) ⟨?_,k',O⟩ p' ez zp ?_
    ·have pz:(u++((x.take k++l.toList++(d::g).drop n)++v)).Perm a₀.toList:=by
      refine List.Perm.trans ?_ (show((arrOf st).toList).Perm _ from B.perm);rw[ha];refine List.Perm.append_left u ?_;rw[<- GC x];exact zp.append_right v
     rw[<- ez]at pz;exact pz
    ·have ml:∀p,p∈l.toList->p∈x.drop k\/p∈(d::g).take n:=λp c=>Gd.mp (i.mem_iff.mp c)
     refine List.pairwise_append.mpr ⟨List.pairwise_append.mpr ⟨sx.sublist (List.take_sublist _ _),good.1,λp c q hq=>?_⟩,sy.sublist (List.drop_sublist _ _),λp c q hq=>?_⟩
     ·rcases ml q hq with q1 | q1
      ·exact Gy (g1 p c) (q0P (g2 q q1))
      ·exact Gy (g1 p c) (hd q (q0H q1))
     ·rcases Gd.mp c with q1 | q1
      ·exact Gy (lst p (q0H q1)) (g4 q hq)
      ·rcases ml p q1 with q2 | q2
       ·exact Gy (lst p (q0I q2)) (g4 q hq)
       ·exact Gy (q0P (g3 p q2)) (g4 q hq)
   split
   ·refine aj (vh (a:=aa) (b:=bb) ⟨C,Z,Y,U,T,hl⟩ (by exact B.kind) h0 ⋯ ⋯ λl st' L good=>?_)
    refine aj (cD (aj (fq (ar ?_))));have O:failedOf st'=none:=L.2.2.2.trans B.failed;have:=fin l st' (L.1.trans B.kind) L.2.1 (by rw[L.2.2.1];exact j) O good;show Q (failedOf st').isNone _;rw[O];exact this
   ·refine aj (vb (a:=aa) (b:=bb) ⟨C,Z,Y,U,T,h0⟩ (by exact B.kind) (by simpa using hl) ⋯ ⋯ λl st' L good=>?_)
    refine aj (cD (aj (fq (ar ?_))));have O:failedOf st'=none:=L.2.2.2.trans B.failed;have:=fin l st' (L.1.trans B.kind) L.2.1 (by rw[L.2.2.1];exact j) O good;show Q (failedOf st').isNone _;rw[O];exact this
end
abbrev As:=Option (Option Nat)×Nat
abbrev Ds:=Option (Option Nat)×Nat×Nat
def B5(lo a n:Nat):SM As:=forIn [a:n] ((none,a):As) λ_ s=>ltAt' (lo+s.2) (lo+s.2-1) >>= λt=>match t with
 |some t=>if t=true then pure (.done (none,s.2)) else pure (.yield (none,s.2+1))
 |_=>pure (.done (some none,s.2))
def Au(lo m n:Nat):SM (Option Nat):=reverseSlice' lo (lo+m) >>= λ_=>B5 lo m n >>= λs=>match s.1 with
 |some z=>pure z
 |none=>pure (some s.2)
def Dk(lo m n:Nat):SM Ds:=forIn [m:n] ((none,m,0):Ds) λ_ s=>ltAt' (lo+s.2.1) (lo+s.2.1-1) >>= λt=>match t with
 |some t=>if t=true then
   if s.2.2>0 then reverseSlice' (lo+s.2.1-(s.2.2+1)) (lo+s.2.1) >>= λ_=>pure (.yield (none,s.2.1+1,0)) else pure (.yield (none,s.2.1+1,0))
  else ltAt' (lo+s.2.1-1) (lo+s.2.1) >>= λt=>match t with
   |some t=>if t=true then pure (.done (none,s.2.1,s.2.2)) else pure (.yield (none,s.2.1+1,s.2.2+1))
   |_=>pure (.done (some none,s.2.1,s.2.2))
 |_=>pure (.done (some none,s.2.1,s.2.2))
def B1(lo m n:Nat):SM (Option Nat):=liftM (rule "list.sort.descending-run") >>= λ_=>Dk lo (m+1) n >>= λs=>match s.1 with
 |some z=>pure z
 |none=>if s.2.2>0 then reverseSlice' (lo+s.2.1-(s.2.2+1)) (lo+s.2.1) >>= λ_=>Au lo s.2.1 n else Au lo s.2.1 n
def xG(lo n:Nat):SM (Option Nat):=B5 lo 1 n >>= λs=>match s.1 with
 |some z=>pure z
 |none=>if(s.2==n)=true then pure (some s.2) else if s.2>1 then ltAt' lo (lo+s.2-1) >>= λt=>match t with
   |some t=>if t=true then pure (some s.2) else reverseSlice' lo (lo+s.2) >>= λ_=>B1 lo s.2 n
   |_=>pure none
  else B1 lo s.2 n
theorem jk{β:Type}{rg:Std.Legacy.Range}{c:β}{f g:Nat->β->SM (ForInStep β)}(h:∀x s,f x s=g x s):(forIn rg c f:SM β)=forIn rg c g:=by
 rw[show f=g from funext λx=>funext λs=>h x s]
theorem oJ(lo m n:Nat){f:As->SM (Option Nat)}(h:∀s,f s=match s.1 with | some z=>pure z | none=>pure (some s.2)){F:Nat->As->SM (ForInStep As)}
  (hF:∀x s,F x s=(ltAt' (lo+s.2) (lo+s.2-1) >>= λt=>match t with
   |some t=>if t=true then pure (.done (none,s.2)) else pure (.yield (none,s.2+1))
   |_=>pure (.done (some none,s.2)))):(reverseSlice' lo (lo+m) >>= λ_=>(forIn [m:n] ((none,m):As) F:SM As) >>= f)=Au lo m n:=by
 unfold Au B5;exact aI rfl λ_=>aI (jk hF) h
theorem qF(lo n:Nat):countRun' lo n=xG lo n:=by
 have a:∀(m:Nat) {G:Ds->SM (Option Nat)} {F:Nat->Ds->SM (ForInStep Ds)},
   (∀s:Ds,G s=match s.1 with
    |some z=>pure z
    |none=>if s.2.2>0 then reverseSlice' (lo+s.2.1-(s.2.2+1)) (lo+s.2.1) >>= λ_=>Au lo s.2.1 n else Au lo s.2.1 n) ->
   (∀x s,F x s=(ltAt' (lo+s.2.1) (lo+s.2.1-1) >>= λt=>match t with
    |some t=>if t=true then
      if s.2.2>0 then reverseSlice' (lo+s.2.1-(s.2.2+1)) (lo+s.2.1) >>= λ_=>pure (.yield (none,s.2.1+1,0)) else pure (.yield (none,s.2.1+1,0))
     else ltAt' (lo+s.2.1-1) (lo+s.2.1) >>= λt=>match t with
      |some t=>if t=true then pure (.done (none,s.2.1,s.2.2)) else pure (.yield (none,s.2.1+1,s.2.2+1))
      |_=>pure (.done (some none,s.2.1,s.2.2))
    |_=>pure (.done (some none,s.2.1,s.2.2)))) ->
   ((liftM (rule "list.sort.descending-run"):SM Unit) >>= λ_=>(forIn [m+1:n] ((none,m+1,0):Ds) F:SM Ds) >>= G)=B1 lo m n:=by
  intro m G F b c;unfold B1 Dk;exact aI rfl λ_=>aI (jk c) b
 unfold xG B5;refine aI (jk λx s=>rfl) λs=>?_;obtain⟨z,m⟩:=s;cases z with
 |some z=>rfl
 |none=>
  refine c5 rfl (c5 (aI rfl λt=>?_) ?_)
  ·cases t with
   |none=>rfl
   |some t=>
    refine c5 rfl (aI rfl λ_=>a m (λs=>?_) λx s=>rfl);obtain⟨z,m,q⟩:=s;cases z with
    |some z=>rfl
    |none=>exact c5 (aI rfl λ_=>oJ lo m n (λs=>by obtain⟨z,m⟩:=s;cases z<;>rfl) λx s=>rfl) (oJ lo m n (λs=>by obtain⟨z,m⟩:=s;cases z<;>rfl) λx s=>rfl)
  ·refine a m (λs=>?_) λx s=>rfl
   obtain⟨z,m,q⟩:=s;cases z with
   |some z=>rfl
   |none=>exact c5 (aI rfl λ_=>oJ lo m n (λs=>by obtain⟨z,m⟩:=s;cases z<;>rfl) λx s=>rfl) (oJ lo m n (λs=>by obtain⟨z,m⟩:=s;cases z<;>rfl) λx s=>rfl)
section
variable {prog:G5}{w:G8}{A:G7}{E:GW}{J:Shared->Prop}{a₀:Array Keyed}{kd:SortKind}{r:Keyed->Nat}
def Kr(r:Keyed->Nat)(xs:PA)(i:Nat):Nat:=match xs[i]? with
 |some p=>r p
 |none=>0
theorem ql{xs ys:PA}{i j:Nat}(h:xs[i]?=ys[j]?):Kr r xs i=Kr r ys j:=by unfold Kr;rw[h]
def Up(r:Keyed->Nat)(xs:PA)(lo n:Nat):Prop:=∀i j,i<=j->j<n->Kr r xs (lo+i)<=Kr r xs (lo+j)
def Dn(r:Keyed->Nat)(xs:PA)(lo n:Nat):Prop:=∀i j,i<=j->j<n->Kr r xs (lo+j)<=Kr r xs (lo+i)
structure KB(a₀:PA)(kd:SortKind)(lo:Nat)(st₀ st:SortSt):Prop where
 sb:SB a₀ kd st
 pe:pendingOf st=pendingOf st₀
 be:∀i,i<lo->(arrOf st)[i]?=(arrOf st₀)[i]?
theorem SB.size{st:SortSt}(h:SB a₀ kd st):(arrOf st).size=a₀.size:=by simpa using h.perm.length_eq
theorem KB.set{lo:Nat}{st₀ st:SortSt}(h:KB a₀ kd lo st₀ st){xs:PA}(hp:xs.Perm (arrOf st))(hb:∀i,i<lo->xs[i]?=(arrOf st)[i]?):KB a₀ kd lo st₀ (setArr st xs):=
 ⟨⟨(Array.perm_iff_toList_perm.mp hp).trans h.sb.perm,h.sb.kind,h.sb.failed⟩,h.pe,λi hi=>(hb i hi).trans (h.be i hi)⟩
theorem qO(C:oy prog w A J a₀ kd r){st:SortSt}(B:SB a₀ kd st){i j:Nat}(hi:i<a₀.size)(hj:j<a₀.size){Q:Option Bool->SortSt->Prop}
  (h:Q (some (decide (Kr r (arrOf st) i<Kr r (arrOf st) j))) st):dH (model prog w) A E J (ltAt' i j) Q st:=by
 have a:∀k,k<a₀.size->∃p,(arrOf st)[k]?=some p/\p∈a₀.toList:=λk g=>by
  have b:k<(arrOf st).size:=by rw[B.size];exact g
  exact⟨(arrOf st)[k],getElem?_pos _ k b,B.perm.mem_iff.mp (by simp)⟩
 obtain⟨p,d,m1⟩:=a i hi;obtain⟨q,c,e⟩:=a j hj;rw[ltAt'_eq];refine aj (fq (aj (bR d (aj (bR c (wx C m1 e B.kind ?_))))));unfold Kr at h;rw[d,c]at h;exact h
theorem jJ{xs:PA}{i j:Nat}(hj:j<=xs.size)(k:Nat):Kr r (mirror xs i j ((j-i)/2)) k=if i<=k/\k<j then Kr r xs (i+j-1-k) else Kr r xs k:=by
 have e:=getElem?_mirror_all (i:=i) hj k
 by_cases h1:i<=k/\k<j
 ·rw[q07 h1]at e ⊢;exact ql e
 ·rw[q06 h1]at e ⊢;exact ql e
theorem cE{xs:PA}{i j:Nat}(hj:j<=xs.size)(heq:∀k,i<=k->k<j->Kr r xs k=Kr r xs (j-1))(k:Nat):Kr r (mirror xs i j ((j-i)/2)) k=Kr r xs k:=by
 rw[jJ hj]
 split
 ·rw[heq _ ⋯ ⋯,heq k ⋯ ⋯]
 ·rfl
theorem um{lo i j:Nat}{st₀ st:SortSt}(B:KB a₀ kd lo st₀ st)(hi:lo<=i)(hj:j<=a₀.size){Q:Unit->SortSt->Prop}
  (h:KB a₀ kd lo st₀ (setArr st (mirror (arrOf st) i j ((j-i)/2)))->Q () (setArr st (mirror (arrOf st) i j ((j-i)/2)))):dH (model prog w) A E J (reverseSlice' i j) Q st:=by
 rw[reverseSlice'_eq];refine cD (h (B.set (mirror_perm _ _ _ _) λk hk=>?_));rw[getElem?_mirror_all (by rw[B.sb.size];exact hj),q06 ⋯]
theorem AE(C:oy prog w A J a₀ kd r){st:SortSt}(B:SB a₀ kd st){lo a n:Nat}{Q:As->SortSt->Prop}(hn:lo+n<=a₀.size)(ha:1<=a)(han:a<=n)(hs:Up r (arrOf st) lo a)
  (h:∀m,a<=m->m<=n->Up r (arrOf st) lo m->(m=n\/Kr r (arrOf st) (lo+m)<Kr r (arrOf st) (lo+m-1))->Q (none,m) st):dH (model prog w) A E J (B5 lo a n) Q st:=by
 unfold B5;refine dr (I:=λx c d=>d=st/\c=(none,x)/\Up r (arrOf st) lo x) ?s ?e ⟨rfl,rfl,hs⟩
 case e=>
  rintro c d ⟨rfl,rfl,b⟩;rw[show max a n=n by omega]at b ⊢;exact h n han (Gq _) b (.inl rfl)
 case s=>
  rintro x c d q hxn ⟨rfl,rfl,b⟩;dsimp only;refine aj (qO C B ⋯ ⋯ ?_)
  by_cases g:Kr r (arrOf d) (lo+x)<Kr r (arrOf d) (lo+x-1)
  ·simp only[g,decide_true,if_true]
   exact ar (h x q ⋯ b (.inr g))
  ·simp only[g,decide_false,q0a,if_false]
   refine ar ⟨rfl,rfl,λi j o hj=>?_⟩
   by_cases k:j<x
   ·exact b i j o k
   ·have l:j=x:=by omega
    subst l
    by_cases p:i=j
    ·subst p;exact Gq _
    ·have:=b i (j-1) ⋯ ⋯
     rw[show lo+(j-1)=lo+j-1 by omega]at this;omega
theorem Az(C:oy prog w A J a₀ kd r){st₀ st:SortSt}{lo m n:Nat}(B:KB a₀ kd lo st₀ st){Q:Option Nat->SortSt->Prop}(hn:lo+n<=a₀.size)(h1:1<=m)(hm:m<=n)(hs:Dn r (arrOf st) lo m)
  (h:∀k st',KB a₀ kd lo st₀ st'->1<=k->k<=n->Up r (arrOf st') lo k->Q (some k) st'):dH (model prog w) A E J (Au lo m n) Q st:=by
 unfold Au;have a:lo+m<=(arrOf st).size:=by rw[B.sb.size];omega
 refine aj (um B (Gq _) ⋯ λb=>?_);refine aj (AE C b.sb hn h1 hm (λi j hij hj=>?_) λk k1 d c _=>ar (h k _ b ⋯ d c));show Kr r (mirror (arrOf st) lo (lo+m) ((lo+m-lo)/2)) (lo+i)<=Kr r (mirror (arrOf st) lo (lo+m) ((lo+m-lo)/2)) (lo+j);rw[jJ a,jJ a,q07 ⋯,q07 ⋯];have:=hs (m-1-j) (m-1-i) ⋯ ⋯;rw[show lo+(lo+m)-1-(lo+i)=lo+(m-1-i) by omega,show lo+(lo+m)-1-(lo+j)=lo+(m-1-j) by omega];exact this
theorem CQ(C:oy prog w A J a₀ kd r){st₀ st:SortSt}{lo m n:Nat}(B:KB a₀ kd lo st₀ st){Q:Ds->SortSt->Prop}(hn:lo+n<=a₀.size)(h1:1<=m)(hm:m<=n)(hs:Dn r (arrOf st) lo m)
  (h:∀k q st',KB a₀ kd lo st₀ st'->m<=k->k<=n->Dn r (arrOf st') lo k->q+1<=k->(∀i,k-(q+1)<=i->i<k->Kr r (arrOf st') (lo+i)=Kr r (arrOf st') (lo+k-1))->Q (none,k,q) st') :
  dH (model prog w) A E J (Dk lo m n) Q st:=by
 unfold Dk;refine dr (I:=λx c st'=>∃q,c=(none,x,q)/\KB a₀ kd lo st₀ st'/\Dn r (arrOf st') lo x/\q+1<=x/\(∀i,x-(q+1)<=i->i<x->Kr r (arrOf st') (lo+i)=Kr r (arrOf st') (lo+x-1))) ?s ?e
  ⟨0,rfl,B,hs,⋯,λi h1 h2=>by congr 1;omega⟩
 case e=>
  rintro c st' ⟨q,rfl,d,a,o,g⟩;rw[show max m n=n by omega]at a o g ⊢;exact h n q st' d hm (Gq _) a o g
 case s=>
  rintro x c st' M hxn ⟨q,rfl,d,a,o,g⟩;dsimp only;have S:lo+x<=(arrOf st').size:=by rw[d.sb.size];omega
  have L:∀k,lo+x-(q+1)<=k->k<lo+x->Kr r (arrOf st') k=Kr r (arrOf st') (lo+x-1):=λk k1 k2=>by
   have:=g (k-lo) ⋯ ⋯
   rwa [show lo+(k-lo)=k by omega]at this
  have b:∀{u:PA},(∀k,Kr r u k=Kr r (arrOf st') k)->Kr r (arrOf st') (lo+x)<=Kr r (arrOf st') (lo+x-1)->Dn r u lo (x+1):=by
   intro u O hle i j D hj;rw[O,O]
   by_cases v:j<x
   ·exact a i j D v
   ·have y:j=x:=by omega
    subst y
    by_cases G:i=j
    ·subst G;exact Gq _
    ·have:=a i (j-1) ⋯ ⋯
     rw[show lo+(j-1)=lo+j-1 by omega]at this;omega
  refine aj (qO C d.sb ⋯ ⋯ ?_)
  by_cases p:Kr r (arrOf st') (lo+x)<Kr r (arrOf st') (lo+x-1)
  ·simp only[p,decide_true,if_true]
   by_cases l:q>0
   ·rw[q07 l]
    refine aj (um d ⋯ ⋯ λU=>ar ⟨0,rfl,U,b (cE S L) (q0P p),⋯,λi h1 h2=>by congr 1;omega⟩)
   ·rw[q06 l]
    exact ar ⟨0,rfl,d,b (λ_=>rfl) (q0P p),⋯,λi h1 h2=>by congr 1;omega⟩
  ·simp only[p,decide_false,q0a,if_false]
   refine aj (qO C d.sb ⋯ ⋯ ?_)
   by_cases R:Kr r (arrOf st') (lo+x-1)<Kr r (arrOf st') (lo+x)
   ·simp only[R,decide_true,if_true]
    exact ar (h x q st' d M ⋯ a o g)
   ·simp only[R,decide_false,q0a,if_false]
    have T:Kr r (arrOf st') (lo+x)=Kr r (arrOf st') (lo+x-1):=by omega
    refine ar ⟨q+1,rfl,d,b (λ_=>rfl) ⋯,⋯,λi h1 h2=>?_⟩;rw[show lo+(x+1)-1=lo+x by omega]
    by_cases z:i=x
    ·subst z;rfl
    ·rw[T];exact g i ⋯ ⋯
theorem Ao(C:oy prog w A J a₀ kd r){st₀ st:SortSt}{lo m n:Nat}(B:KB a₀ kd lo st₀ st){Q:Option Nat->SortSt->Prop}(hn:lo+n<=a₀.size)(hm:m+1<=n)(hs:Dn r (arrOf st) lo (m+1))
  (h:∀k st',KB a₀ kd lo st₀ st'->1<=k->k<=n->Up r (arrOf st') lo k->Q (some k) st'):dH (model prog w) A E J (B1 lo m n) Q st:=by
 unfold B1;refine aj (io λs j=>wpAny_rule ⟨j,?_⟩);refine aj (CQ C B hn ⋯ hm hs λk q st' g o d a hq u=>?_);dsimp only;have l:lo+k<=(arrOf st').size:=by rw[g.sb.size];omega
 by_cases b:q>0
 ·rw[q07 b]
  refine aj (um g ⋯ ⋯ λv=>Az C v hn ⋯ d (λi j e p=>?_) h);have c:∀t,lo+k-(q+1)<=t->t<lo+k->Kr r (arrOf st') t=Kr r (arrOf st') (lo+k-1):=λt o d=>by
   have:=u (t-lo) ⋯ ⋯
   rwa [show lo+(t-lo)=t by omega]at this
  show Kr r (mirror (arrOf st') _ _ _) _<=Kr r (mirror (arrOf st') _ _ _) _;rw[cE l c,cE l c];exact a i j e p
 ·rw[q06 b]
  exact Az C g hn ⋯ d a h
theorem rN(C:oy prog w A J a₀ kd r){st:SortSt}{lo n:Nat}(B:SB a₀ kd st){Q:Option Nat->SortSt->Prop}(hn:lo+n<=a₀.size)(h1:1<=n)
  (h:∀k st',KB a₀ kd lo st st'->1<=k->k<=n->Up r (arrOf st') lo k->Q (some k) st'):dH (model prog w) A E J (countRun' lo n) Q st:=by
 rw[qF];unfold xG
 have e:KB a₀ kd lo st st:=⟨B,rfl,λ_ _=>rfl⟩;refine aj (AE C B hn (Gq 1) h1 (λi j c x=>by
  have:i=j:=by omega
  subst this;exact Gq _) λm m1 u d g=>?_)
 dsimp only
 by_cases q:m=n
 ·rw[q07 (by rw[q];exact beq_self_eq_true n)]
  exact ar (h m st e m1 u d)
 ·rw[q06 (by simpa using q)]
  have b:=g.resolve_left q
  by_cases y:m>1
  ·rw[q07 y]
   refine aj (qO C B ⋯ ⋯ ?_)
   by_cases hr:Kr r (arrOf st) lo<Kr r (arrOf st) (lo+m-1)
   ·simp only[hr,decide_true,if_true]
    exact ar (h m st e m1 u d)
   ·simp only[hr,decide_false,q0a,if_false]
    have v:lo+m<=(arrOf st).size:=by rw[B.size];omega
    have all:∀k,lo<=k->k<lo+m->Kr r (arrOf st) k=Kr r (arrOf st) (lo+m-1):=λk k1 k2=>by
     have D:=d 0 (k-lo) ⋯ ⋯;have z:=d (k-lo) (m-1) ⋯ ⋯;rw[show lo+(k-lo)=k by omega]at D z;rw[show lo+(m-1)=lo+m-1 by omega]at z;rw[show lo+0=lo by omega]at D;omega
    refine aj (um e (Gq _) ⋯ λI=>Ao C I hn ⋯ (λi j c x=>?_) h);show Kr r (mirror (arrOf st) _ _ _) _<=Kr r (mirror (arrOf st) _ _ _) _;rw[cE v all,cE v all]
    by_cases hjn:j<m
    ·rw[all (lo+i) ⋯ ⋯,all (lo+j) ⋯ ⋯];exact Gq _
    ·have o:j=m:=by omega
     subst o
     by_cases a:i=j
     ·subst a;exact Gq _
     ·rw[all (lo+i) ⋯ ⋯];exact q0P b
  ·rw[q06 y]
   have G:m=1:=by omega
   subst G;refine Ao C e hn ⋯ (λi j c x=>?_) h
   by_cases a:i=j
   ·subst a;exact Gq _
   ·have p:i=0:=by omega
    have l:j=1:=by omega
    subst p;subst l
    exact q0P b
theorem mW{xs:PA}{src d:Nat}(hs:src<xs.size)(hd:d<=src)(k:Nat) :
  Kr r (bubble xs src d) k=if k=src-d then Kr r xs src else if src-d<k/\k<=src then Kr r xs (k-1) else Kr r xs k:=by
 have e:=getElem?_bubble hs d hd k
 by_cases h1:k=src-d
 ·rw[q07 h1]at e ⊢;exact ql e
 ·rw[q06 h1]at e ⊢
  by_cases h2:src-d<k/\k<=src
  ·rw[q07 h2]at e ⊢;exact ql e
  ·rw[q06 h2]at e ⊢;exact ql e
theorem Ct(C:oy prog w A J a₀ kd r){st₀ st:SortSt}{lo n ok:Nat}(B:KB a₀ kd lo st₀ st){Q:Bool->SortSt->Prop}(hn:lo+n<=a₀.size)(hok:ok<=n)(hs:Up r (arrOf st) lo ok)
  (h:∀st',KB a₀ kd lo st₀ st'->Up r (arrOf st') lo n->Q true st'):dH (model prog w) A E J (binarySort' lo n ok) Q st:=by
 rw[binarySort'_eq];refine aj (bg (dr (I:=λk c st'=>c=(none,())/\KB a₀ kd lo st₀ st'/\Up r (arrOf st') lo (min k n)) (Q:=λc st'=>c=(none,())/\KB a₀ kd lo st₀ st'/\Up r (arrOf st') lo n) ?s ?e ?i) ?p)
 case p=>
  rintro c st' ⟨rfl,d,b⟩;exact ar (h st' d b)
 case i=>
  refine⟨rfl,B,λi j o G=>?_⟩
  by_cases h1:ok=0
  ·have:i=j:=by omega
   subst this;exact Gq _
  ·exact hs i j o ⋯
 case e=>
  rintro c st' ⟨M,d,b⟩;refine⟨M,d,?_⟩
  rwa [show min (max (max ok 1) n) n=n by omega]at b
 case s=>
  rintro k c st' hak hkn ⟨rfl,d,b⟩;rw[show min k n=k by omega]at b;refine aj (bg (dr (I:=λx c a=>a=st'/\∃l u,c=(none,l,u)/\l<=u/\u<=k/\u-l<=k-x /\
    (∀i,i<l->Kr r (arrOf st') (lo+i)<=Kr r (arrOf st') (lo+k))/\(∀i,u<=i->i<k->Kr r (arrOf st') (lo+k)<Kr r (arrOf st') (lo+i)))
   (Q:=λc a=>a=st'/\∃l u,c=(none,l,u)/\l<=k /\
    (∀i,i<l->Kr r (arrOf st') (lo+i)<=Kr r (arrOf st') (lo+k))/\(∀i,l<=i->i<k->Kr r (arrOf st') (lo+k)<Kr r (arrOf st') (lo+i))) ?s2 ?e2 ?i2) ?p2)
  case i2=>exact⟨rfl,0,k,rfl,⋯,⋯,⋯,λi L=>by omega,λi h1 h2=>by omega⟩
  case e2=>
   rintro c a ⟨rfl,l,u,rfl,h1,h2,O,m,g⟩;have:l=u:=by omega
   subst this;exact⟨rfl,l,l,rfl,h2,m,g⟩
  case s2=>
   rintro x c a _ hxk ⟨rfl,l,u,rfl,h1,h2,O,m,g⟩;dsimp only
   by_cases z:l≥u
   ·rw[q07 z]
    have:l=u:=by omega
    subst this;exact ar ⟨rfl,l,l,rfl,h2,m,g⟩
   ·rw[q06 z]
    refine aj (qO C d.sb ⋯ ⋯ ?_)
    by_cases q:Kr r (arrOf a) (lo+k)<Kr r (arrOf a) (lo+(l+u)/2)
    ·simp only[q,decide_true,if_true]
     exact ar ⟨rfl,l,(l+u)/2,rfl,⋯,⋯,⋯,m,λi y D=>Gk q (b _ _ y D)⟩
    ·simp only[q,decide_false,q0a,if_false]
     exact ar ⟨rfl,(l+u)/2+1,u,rfl,⋯,⋯,⋯,λi y=>Gy (b i ((l+u)/2) ⋯ ⋯) (Nat.not_lt.mp q),g⟩
  case p2=>
   rintro c a ⟨rfl,l,u,rfl,h2,m,g⟩;show dH _ _ _ _ (moveDown' (lo+k) (lo+l) >>= λ_=>pure (ForInStep.yield (none,()))) _ _;rw[moveDown'_eq];have v:lo+k<(arrOf a).size:=by rw[d.sb.size];omega
   refine aj (cD (ar ⟨rfl,d.set (bubble_perm _ _ _) λi L=>?_,?_⟩))
   ·rw[getElem?_bubble v _ ⋯,q06 ⋯,q06 ⋯]
   ·rw[show min (k+1) n=k+1 by omega]
    intro i j o G;show Kr r (bubble (arrOf a) (lo+k) (lo+k-(lo+l))) (lo+i)<=Kr r (bubble (arrOf a) (lo+k) (lo+k-(lo+l))) (lo+j);rw[mW v ⋯,mW v ⋯,show lo+k-(lo+k-(lo+l))=lo+l by omega]
    repeat' split
    all_goals first
     | (exfalso;omega)
     |exact Gq _
     |exact m _ ⋯
     | (rw[show lo+j-1=lo+(j-1) by omega];exact q0P (g _ ⋯ ⋯))
     | (rw[show lo+i-1=lo+(i-1) by omega,show lo+j-1=lo+(j-1) by omega];exact b _ _ ⋯ ⋯)
     | (rw[show lo+j-1=lo+(j-1) by omega];exact b _ _ ⋯ ⋯)
     |exact b _ _ ⋯ ⋯
theorem zB{xs:PA}{lo n:Nat}(hz:lo+n<=xs.size)(h:Up r xs lo n):((xs.toList.drop lo).take n).Pairwise (gy r):=by
 rw[List.pairwise_iff_getElem];intro i j g d c;have e:j<n:=by simp at d;omega
 have a:∀k (b:k<((xs.toList.drop lo).take n).length),Kr r xs (lo+k)=r ((xs.toList.drop lo).take n)[k]:=by
  intro k b;unfold Kr;rw[xj (n:=n) (by simpa using hz) (by simp at b;omega),FZ b]
 have:=h i j (q0P c) e;rw[a i g,a j d]at this;exact this
theorem KB.split{lo n:Nat}{st₀ st:SortSt}(B:KB a₀ kd lo st₀ st){u:List Keyed}{v:List Keyed}(e:(arrOf st₀).toList=u++v)(hu:u.length=lo)(hn:lo+n<=a₀.size)(hs:Up r (arrOf st) lo n) :
  ∃x v',(arrOf st).toList=u++(x++v')/\x.length=n/\x.Pairwise (gy r):=by
 have b:lo+n<=(arrOf st).size:=by rw[B.sb.size];exact hn
 refine⟨((arrOf st).toList.drop lo).take n,(arrOf st).toList.drop (lo+n),?_,by simp;omega,zB b hs⟩;have c:(arrOf st).toList.take lo=u:=by
  apply List.ext_getElem?;intro i
  by_cases a:i<lo
  ·rw[List.getElem?_take,q07 a,q0G,B.be i a,<- q0G,e,Go ⋯]
  ·rw[List.getElem?_take,q06 a,List.getElem?_eq_none ⋯]
 rw[<- List.drop_drop,List.take_append_drop,<- c,List.take_append_drop]
abbrev Pd:=Nat×Nat×Nat
def dJ(r:Keyed->Nat):List Pd->List (List Keyed)->Nat->Prop
 | [],rs,_=>rs=[]
 |e::p,rs,k=>∃x rs',rs=x::rs'/\e.1=k/\e.2.1=x.length/\x≠[]/\x.Pairwise (gy r)/\dJ r p rs' (k+x.length)
theorem dJ.app:∀{p q:List Pd} {rs:List (List Keyed)} {k:Nat},dJ r (p++q) rs k↔∃r1 r2,rs=r1++r2/\dJ r p r1 k/\dJ r q r2 (k+r1.flatten.length)
 | [],q,rs,k=>by
  constructor
  ·exact λh=>⟨[],rs,rfl,rfl,by simpa using h⟩
  ·rintro⟨r1,r2,rfl,h1,h2⟩
   cases(show r1=[] from h1)
   simpa using h2
 |e::p,q,rs,k=>by
  constructor
  ·rintro⟨x,rs',rfl,e1,e2,x0,xs,h⟩
   obtain⟨r1,r2,rfl,h1,h2⟩:=dJ.app.mp h;exact⟨x::r1,r2,rfl,⟨x,r1,rfl,e1,e2,x0,xs,h1⟩,by rw[List.flatten_cons,Gp,<- Nat.add_assoc];exact h2⟩
  ·rintro⟨r1,r2,rfl,⟨x,rs',rfl,e1,e2,x0,xs,h1⟩,h2⟩
   rw[List.flatten_cons,Gp,<- Nat.add_assoc]at h2;exact⟨x,rs'++r2,rfl,e1,e2,x0,xs,dJ.app.mpr ⟨rs',r2,rfl,h1,h2⟩⟩
theorem dJ.many:∀{p:List Pd} {rs:List (List Keyed)} {k:Nat},dJ r p rs k->p.length<=rs.flatten.length
 | [],rs,k,h=>by simp
 |e::p,rs,k,h=>by
  obtain⟨x,rs',rfl,e1,e2,x0,xs,h1⟩:=h;have:=dJ.many h1;have:=List.length_pos_iff.mpr x0;simp;simp at *;omega
theorem dJ.mod{f:Pd->Pd}(hf:∀e,(f e).1=e.1/\(f e).2.1=e.2.1):∀{p:List Pd} {i:Nat} {rs:List (List Keyed)} {k:Nat},dJ r p rs k->dJ r (p.modify i f) rs k
 | [],i,rs,k,h=>by simpa using h
 |e::p,0,rs,k,h=>by
  obtain⟨x,rs',rfl,e1,e2,q⟩:=h;rw[List.modify_zero_cons];exact⟨x,rs',rfl,(hf e).1.trans e1,(hf e).2.trans e2,q⟩
 |e::p,i+1,rs,k,h=>by
  obtain⟨x,rs',rfl,e1,e2,x0,xs,q⟩:=h;rw[List.modify_succ_cons];exact⟨x,rs',rfl,e1,e2,x0,xs,dJ.mod hf q⟩
structure RI(a₀:PA)(kd:SortKind)(r:Keyed->Nat)(st:SortSt)(lo:Nat)(bQ:List Keyed):Prop where
 sb:SB a₀ kd st
 ex:∃rs,(arrOf st).toList=rs.flatten++bQ/\rs.flatten.length=lo/\dJ r (pendingOf st).toList rs 0
theorem wN{α:Type}{l:List α}{i:Nat}(h:i+1<l.length):∃p1 e1 e2 p2,l=p1++e1::e2::p2/\p1.length=i:=by
 refine⟨l.take i,l[i],l[i+1],l.drop (i+2),?_,by simp;omega⟩;have e1:=q0T (l:=l) (i:=i) ⋯;have e2:=q0T (l:=l) (i:=i+1) ⋯;rw[show i+2=i+1+1 by omega,<- e2,<- e1,List.take_append_drop]
theorem jz(C:oy prog w A J a₀ kd r){st:SortSt}{lo i:Nat}{bQ:List Keyed}(R:RI a₀ kd r st lo bQ)(hi:i+1<(pendingOf st).size){Q:Bool->SortSt->Prop}
  (h:∀st',RI a₀ kd r st' lo bQ->(pendingOf st').size+1=(pendingOf st).size->Q true st'):dH (model prog w) A E J (mergeAt' i) Q st:=by
 obtain⟨B,rs,S,O,hr⟩:=R;obtain⟨p1,U,T,p2,d,rfl⟩:=wN (l:=(pendingOf st).toList) (i:=i) (by simpa using hi);rw[d]at hr;obtain⟨c,r2,rfl,h1,x,r3,rfl,j,p,k,I,y,b,rfl,g,o,D,G,n⟩:=dJ.app.mp hr;obtain⟨s1,n1,w1⟩:=U;obtain⟨s2,n2,w2⟩:=T;dsimp only at j p g o;rw[Nat.zero_add]at j g;subst j;subst p;subst g;subst o
 refine vZ C B (u:=c.flatten) (x:=x) (y:=y) (v:=b.flatten++bQ) d (by rw[S];simp) k D I G λst' z Z m Y a q=>h st' ⟨Z,c++z::b,by rw[Y];simp,?_,?_⟩ ?_
 ·have:=a.length_eq
  simp at this O ⊢;omega
 ·rw[m]
  refine dJ.app.mpr ⟨c,z::b,rfl,h1,z,b,rfl,by simp,by have:=a.length_eq;simp at this ⊢;omega,?_,q,?_⟩
  ·intro e
   rw[e]at a;have:=a.length_eq;have:=List.length_pos_iff.mpr k;simp at *;omega
  ·have:=a.length_eq
   rw[Gp]at this;rw[this,<- Nat.add_assoc,Nat.zero_add];rw[Nat.zero_add]at n;exact n
 ·have M:=q0R List.length m
  have L:=q0R List.length d;simp at M L;omega
theorem rU(C:oy prog w A J a₀ kd r){st:SortSt}{Q:Unit->SortSt->Prop}(B:SB a₀ kd st)(hp:pendingOf st=#[])(h1:1<=a₀.size)
  (h:∀st',SB a₀ kd st'->(arrOf st').toList.Pairwise (gy r)->Q () st'):dH (model prog w) A E J sortRuns' Q st:=by
 rw[sortRuns'_eq];refine aj (fq ?_);dsimp only;rw[B.size];generalize minRun' a₀.size a₀.size 0=mr;refine aj (bg (dr (I:=λx c st'=>∃j,c=(none,j)/\x<=j/\j<=a₀.size/\∃bQ,RI a₀ kd r st' j bQ) (Q:=λc st'=>c=(none,a₀.size)/\∃bQ,RI a₀ kd r st' a₀.size bQ) ?s ?e ?i) ?p)
 case i=>exact⟨0,rfl,⋯,⋯,(arrOf st).toList,B,[],by simp,rfl,by rw[hp];rfl⟩
 case e=>
  rintro c st' ⟨j,rfl,h2,h3,R⟩;have:j=a₀.size:=by omega
  subst this;exact⟨rfl,R⟩
 case s=>
  rintro x c st' _ hx ⟨j,rfl,h2,h3,bQ,R⟩;dsimp only
  by_cases hg:j≥a₀.size
  ·rw[q07 hg]
   have:j=a₀.size:=by omega
   subst this;exact ar ⟨rfl,bQ,R⟩
  ·rw[q06 hg]
   refine aj (rN C R.sb ⋯ ⋯ λm g B2 m1 m2 hu=>?_);dsimp only
   -- with a run of n from j on: merges,and the run is put behind the others
   have start:∀n d,KB a₀ kd j st' d->1<=n->n<=a₀.size-j->Up r (arrOf d) j n->∃y v,RI a₀ kd r d j (y++v)/\y.length=n/\y≠[]/\y.Pairwise (gy r):=by
    intro n d L O M k;obtain⟨_,u,D,l,hr⟩:=R;obtain⟨y,v,e,S,o⟩:=L.split D l ⋯ k;refine⟨y,v,⟨L.sb,u,e,l,by rw[L.pe];exact hr⟩,S,?_,o⟩;intro q;subst q;simp at S;omega
   have push:∀n d y v,1<=n->n<=a₀.size-j->RI a₀ kd r d j (y++v)->y.length=n->y≠[]->y.Pairwise (gy r) ->
     ∃lo',((none,j+n):Option Unit×Nat)=(none,lo')/\x+1<=lo'/\lo'<=a₀.size/\∃bQ,RI a₀ kd r (setPending d ((pendingOf d).push (j,n,0))) lo' bQ:=by
    intro n d y v O M T S U o;obtain⟨L,u,D,l,hr⟩:=T;refine⟨j+n,rfl,⋯,⋯,v,⟨L.perm,L.kind,L.failed⟩,u++[y],?_,?_,?_⟩
    ·show(arrOf d).toList=_
     rw[D];simp
    ·simp at l ⊢;omega
    ·show dJ r ((pendingOf d).push (j,n,0)).toList _ _
     rw[Array.toList_push];exact dJ.app.mpr ⟨u,[y],rfl,hr,y,[],rfl,by show j=0+_;rw[l];omega,S.symm,U,o,rfl⟩
   by_cases a0:m<mr
   ·rw[q07 a0]
    refine aj (io λ_ jj=>wpAny_rule ⟨jj,?_⟩);refine aj (Ct C B2 (n:=min (a₀.size-j) mr) ⋯ ⋯ hu λd L k=>?_);rw[q06 nofun];have O:1<=min (a₀.size-j) mr:=by omega
    have M:min (a₀.size-j) mr<=a₀.size-j:=by omega
    generalize min (a₀.size-j) mr=n at O M k ⊢;obtain⟨y,v,T,S,U,o⟩:=start n d L O M k;refine aj (fq ?_);cases hb:(pendingOf d).back? with
    |none=>
     dsimp only;exact aj (cD (ar (push n d y v O M T S U o)))
    |some e=>
     obtain⟨s1,l1,w1⟩:=e;dsimp only;refine aj (bg (dr (I:=λ_ c b=>c=(none,())/\RI a₀ kd r b j (y++v)) (Q:=λc b=>c=(none,())/\RI a₀ kd r b j (y++v)) ?_ (λ_ _ q=>q) ⟨rfl,T⟩) ?_)
     ·rintro z c b _ _ ⟨rfl,G⟩
      refine aj (fq ?_)
      by_cases hz:(pendingOf b).size>1
      ·rw[q07 hz]
       have Y:(pendingOf b).size-2<(pendingOf b).size:=by omega
       rw[getElem?_pos (pendingOf b) _ Y];generalize(pendingOf b)[(pendingOf b).size-2]=e;obtain⟨f1,f2,f3⟩:=e;dsimp only
       split
       ·exact ar ⟨rfl,G⟩
       ·refine aj (jz C G ⋯ λa1 R5 _=>?_)
        rw[q06 nofun];exact ar ⟨rfl,R5⟩
      ·rw[q06 hz];exact ar ⟨rfl,G⟩
     ·rintro c b ⟨rfl,G⟩
      dsimp only;refine aj (cD (aj (cD (ar (push n _ y v O M ?_ S U o)))));obtain⟨B4,u,D,l,hr⟩:=G;exact⟨⟨B4.perm,B4.kind,B4.failed⟩,u,D,l,by
       show dJ r (Array.modify _ _ _).toList _ _;rw[Array.toList_modify];refine dJ.mod ?_ hr;exact λe=>⟨rfl,rfl⟩⟩
   ·rw[q06 a0]
    clear a0
    revert hu m2 m1 B2;revert g m
    intro n d L O M k;obtain⟨y,v,T,S,U,o⟩:=start n d L O M k;refine aj (fq ?_);cases hb:(pendingOf d).back? with
    |none=>
     dsimp only;exact aj (cD (ar (push n d y v O M T S U o)))
    |some e=>
     obtain⟨s1,l1,w1⟩:=e;dsimp only;refine aj (bg (dr (I:=λ_ c b=>c=(none,())/\RI a₀ kd r b j (y++v)) (Q:=λc b=>c=(none,())/\RI a₀ kd r b j (y++v)) ?_ (λ_ _ q=>q) ⟨rfl,T⟩) ?_)
     ·rintro z c b _ _ ⟨rfl,G⟩
      refine aj (fq ?_)
      by_cases hz:(pendingOf b).size>1
      ·rw[q07 hz]
       have Y:(pendingOf b).size-2<(pendingOf b).size:=by omega
       rw[getElem?_pos (pendingOf b) _ Y];generalize(pendingOf b)[(pendingOf b).size-2]=e;obtain⟨f1,f2,f3⟩:=e;dsimp only
       split
       ·exact ar ⟨rfl,G⟩
       ·refine aj (jz C G ⋯ λa1 R5 _=>?_)
        rw[q06 nofun];exact ar ⟨rfl,R5⟩
      ·rw[q06 hz];exact ar ⟨rfl,G⟩
     ·rintro c b ⟨rfl,G⟩
      dsimp only;refine aj (cD (aj (cD (ar (push n _ y v O M ?_ S U o)))));obtain⟨B4,u,D,l,hr⟩:=G;exact⟨⟨B4.perm,B4.kind,B4.failed⟩,u,D,l,by
       show dJ r (Array.modify _ _ _).toList _ _;rw[Array.toList_modify];refine dJ.mod ?_ hr;exact λe=>⟨rfl,rfl⟩⟩
 case p=>
  rintro c st' ⟨rfl,bQ,R⟩;dsimp only;have pz:(pendingOf st').size<=a₀.size:=by
   obtain⟨_,u,_,l,hr⟩:=R;have:=hr.many;simp at this l;omega
  refine aj (bg (dr (I:=λx c g=>c=(none,())/\RI a₀ kd r g a₀.size bQ/\(pendingOf g).size+x<=a₀.size\/c=(none,())/\RI a₀ kd r g a₀.size bQ/\(pendingOf g).size<=1)
   (Q:=λc g=>c=(none,())/\RI a₀ kd r g a₀.size bQ/\(pendingOf g).size<=1) ?s2 ?e2 (.inl ⟨rfl,R,pz⟩)) ?p2)
  case e2=>
   rintro c g (⟨rfl,R2,q⟩ | ⟨rfl,R2,q⟩)
   ·exact⟨rfl,R2,⋯⟩
   ·exact⟨rfl,R2,q⟩
  case s2=>
   intro x c g _ hx hI;have hc:c=(none,()):=by rcases hI with q | q<;>exact q.1
   have R2:RI a₀ kd r g a₀.size bQ:=by rcases hI with q | q<;>exact q.2.1
   refine aj (fq ?_)
   by_cases h2:(pendingOf g).size<=1
   ·rw[q07 h2];exact ar ⟨rfl,R2,h2⟩
   ·rw[q06 h2]
    have q:(pendingOf g).size+x<=a₀.size:=by
     rcases hI with q | q
     ·exact q.2.2
     ·exact q0Q q.2.2 h2
    refine aj (jz C R2 ?_ λd T q3=>?_)
    ·repeat' split
     all_goals omega
    ·rw[q06 nofun]
     exact ar (.inl ⟨rfl,T,⋯⟩)
  case p2=>
   rintro c g ⟨rfl,R2,q⟩;refine ar (h g R2.sb ?_);obtain⟨B2,u,D,l,hr⟩:=R2;have lz:(arrOf g).toList.length=a₀.size:=by simpa using B2.size
   have r0:bQ=[]:=by
    have:=q0R List.length D;rw[Gp]at this;exact GL.mp ⋯
   subst r0;rw[GB]at D;rw[D];cases Z:(pendingOf g).toList with
   |nil=>rw[Z]at hr;cases(show u=[] from hr);exact .nil
   |cons e p=>
    rw[Z]at hr;obtain⟨y,a2,rfl,_,_,_,o,q'⟩:=hr;have:p=[]:=by
     have:=q0R List.length Z;exact GL.mp (by simp at this;omega)
    subst this;cases(show a2=[] from q')
    simpa using o
end
def rk(O:KeyOrd)(f:Keyed->O.α)(l:List Keyed)(p:Keyed):Nat:=l.countP λq=>O.blt (f q) (f p)
theorem qp{α:Type}{f g:α->Bool}:∀{l:List α},(∀x,x∈l->f x=true->g x=true)->(∃x,x∈l/\f x=false/\g x=true)->l.countP f<l.countP g
 | [],_,h=>by obtain⟨x,hx,_⟩:=h;exact nomatch hx
 |x::l,h,⟨y,hy,e1,e2⟩=>by
  rw[List.countP_cons,List.countP_cons];have le:l.countP f<=l.countP g:=List.countP_mono_left λx hx=>h x (Gh _ hx);rcases Gg.mp hy with rfl | hy
  ·rw[e1,e2];simp;omega
  ·have:=qp (f:=f) (g:=g) (l:=l) (λx hx=>h x (Gh _ hx)) ⟨y,hy,e1,e2⟩
   have:=h x (q0B ..);cases hf:f x<;>cases hg:g x<;>simp_all<;>omega
theorem AD{O:KeyOrd}{f:Keyed->O.α}{l:List Keyed}{x y:Keyed}(hx:x∈l):O.blt (f x) (f y)=decide (rk O f l x<rk O f l y):=by
 cases h:O.blt (f x) (f y) with
 |true=>
  refine(q09 ?_).symm;exact qp (λz _ a=>O.trans _ _ _ a h) ⟨x,hx,O.irrefl _,h⟩
 |false=>
  refine(q08 (Nat.not_lt.mpr ?_)).symm;refine List.countP_mono_left λz _ a=>?_;rcases O.negTrans _ (f x) _ a with q | q
  ·exact q
  ·rw[h]at q;exact q0Q q nofun
theorem CU{O:KeyOrd}{f:Keyed->O.α}{l:List Keyed}{x y:Keyed}(hy:y∈l)(h:rk O f l x<=rk O f l y):O.blt (f y) (f x)=false:=by
 rw[AD (f:=f) (l:=l) hy];exact q08 (Nat.not_lt.mpr h)
theorem zm{h:Heap}{a:Addr}{vs:Array Value}{n:Nat}(ho:h.get? a=some (seqObj "list" vs n)):∃e1,(h.update a (Obj.mapSeq λ_=>#[])).get? a=some (seqObj "list" #[] e1):=⟨_,get?_update_seq ho _⟩
def sort1(h:Heap)(a:Addr)(vs:G1):Heap:=((h.update a (Obj.mapSeq λ_=>#[])).push (seqObj "tuple" vs.toArray 0)).push (seqObj "list" #[] 0)
section
variable {prog:G5}{w:G8}{A:G7}{E:GW}{s s2:G0}
abbrev with1(s2:G0)(vs:G1):Heap:=s2.heap.push (seqObj "list" vs.toArray 0)
theorem ranks_out{O:KeyOrd}{f:Keyed->O.α}{l ps:List Keyed}(hp:ps.Perm l)(h:ps.Pairwise (gy (rk O f l))):ps.Pairwise λp q=>O.blt (f q) (f p)=false:=by
 have a:∀p,p∈ps->p∈l:=λp c=>hp.mem_iff.mp c;clear hp
 induction ps with
 |nil=>exact .nil
 |cons p ps ih=>
  rw[List.pairwise_cons]at h ⊢;exact⟨λq b=>CU (a q (Gh _ b)) (h.1 q b),ih h.2 λq b=>a q (Gh _ b)⟩
end
end TS
namespace TS
open PySem PyProof.Rows PySem.MeetsSeq PySem.MeetsSeq3
open AutoSeq1 (wpAny_loadPart')
abbrev Dg(s:G0)(a:Addr)(xs:Array Value)(n:Nat)(dd:G9)(sl:Array (Option Value)):Prop:=s.heap.get? a=some {cls:=.type "list",dict:=dd,data:=.seq xs n,slots:=sl}
def iX:List Str->List Str->Bool
 | [],[]=>false
 | [],_::_=>true
 |_::_,[]=>false
 |x::xs,y::ys=>if x==y then iX xs ys else decide (x.cps.toList<y.cps.toList)
section
variable {prog:G5}{w:G8}{A:G7}{E:GW}{s:G0}
theorem rh{x y:Str}{t u:Tok}{Q:GW}(h:Q (.bool (decide (x.cps.toList<y.cps.toList))) s):wpAny (model prog w) A (richCompare .Lt (.str x t) (.str y u)) Q E s:=
 wpAny_richCompare_same (typeIs_str s x t) (typeIs_str s y u) slot_str_lt (call_str_lt ⟨(λq=>nomatch q),h⟩)
end
set_option maxHeartbeats 1600000 in
theorem zn(l b:Addr)(items items2:Array Value)(n n2:Nat)(dd dd2:G9)(sl sl2:Array (Option Value))(k:Nat) :
  ∀(i:Nat) (ss ts:G6),ss.length+ts.length=k->i<=items.size->i<=items2.size->StrsAre (items.toList.drop i) ss->StrsAre (items2.toList.drop i) ts->Meets (Builtin.«list.__eq__.loop» ⟨[.ref l,.ref b,rawInt i,rawInt 0],[]⟩)
   (λA R s=>Dg s l items n dd sl/\Dg s b items2 n2 dd2 sl2 /\
    R (.ok (.ret (.bool (iX ss ts)))) s):=by
 induction k using Nat.strongRecOn with
 |_ k ih=>
 intro i ss ts T S J h1 h2 z w A R s h;obtain⟨hp,g,d,tk,os⟩:=s;obtain⟨o,p,h⟩:=h
 wp_walk using wpAny_loadPart' o,wpAny_loadPart' p
 have Y:((i:Nat):Int).toNat=i:=by simp
 rw[Y];have I:∀{xs:Array Value},xs.toList.drop i=[]->i<=xs.size->xs[i]?=none/\xs.size=i:=fun{xs} e q=>by
  have:=q0R List.length e;simp at this;exact⟨by simp;omega,⋯⟩
 have j:∀{xs:Array Value} {v:Value} {r:G1},xs.toList.drop i=v::r->xs[i]?=some v/\i<xs.size/\xs.toList.drop (i+1)=r:=fun{xs v r} e=>by
  have m:i<xs.toList.length:=by
   have:=q0R List.length e;simp at this ⊢;omega
  have q:=q0T (l:=xs.toList) m;rw[e]at q;obtain⟨O,M⟩:=List.cons.inj q;exact⟨by rw[<- q0G,FZ m,O],by simpa using m,M.symm⟩
 generalize C:items.toList.drop i=v1 at h1;generalize c:items2.toList.drop i=v2 at h2;cases h1 with
 |nil=>
  obtain⟨D,L⟩:=I C S;rw[D];cases h2 with
  |nil=>
   obtain⟨a,G⟩:=I c J;rw[a]
   wp_walk using wpAny_loadPart' o,wpAny_loadPart' p
   show R (.ok (.ret (.bool (decide (items.size<items2.size))))) _;rw[q08 ⋯];exact h
  |cons y u h2'=>
   obtain⟨a,G,_⟩:=j c;rw[a]
   wp_walk using wpAny_loadPart' o,wpAny_loadPart' p
   show R (.ok (.ret (.bool (decide (items.size<items2.size))))) _;rw[q09 ⋯];exact h
 |cons x t h1'=>
  obtain⟨D,L,d1⟩:=j C;rw[D];cases h2 with
  |nil=>
   obtain⟨a,G⟩:=I c J;rw[a]
   wp_walk using wpAny_loadPart' o,wpAny_loadPart' p
   show R (.ok (.ret (.bool (decide (items.size<items2.size))))) _;rw[q08 ⋯];exact h
  |cons y u h2'=>
   obtain⟨a,G,Z⟩:=j c;rw[a];refine q04 (eqBool_str ?_);unfold iX at h;cases B:x==y with
   |true=>
    rw[B,q07 rfl]at h
    wp_walk
    have U:((i:Int)+1)=((i+1:Nat):Int):=by push_cast;rfl
    rw[U];exact⟨plainId_quiet plain_eq_loop _,codeAny_builtin entry_eq_loop (by
     rw[Around.under_plainId plain_eq_loop _];exact ih _ (by rw[<- T];simp;omega) (i+1) _ _ rfl ⋯ ⋯ (by rw[d1];exact h1') (by rw[Z];exact h2') z w A R _ ⟨o,p,h⟩)⟩
   |false=>
    rw[B,q06 nofun]at h
    wp_walk using wpAny_loadPart' o,wpAny_loadPart' p
    rw[D,a];exact q04 (rh (q05 h))
theorem oN(l b:Addr)(items items2:Array Value)(n n2:Nat)(dd dd2:G9)(sl sl2:Array (Option Value))(ss ts:G6)(h1:StrsAre items.toList ss)(h2:StrsAre items2.toList ts) :
  Meets (Builtin.«list.__lt__» ⟨[.ref l,.ref b],[]⟩)
   (λA R s=>Dg s l items n dd sl/\Dg s b items2 n2 dd2 sl2 /\
    R (.ok (.ret (.bool (iX ss ts)))) s):=by
 intro a w A R s h;obtain⟨hp,g,d,tk,os⟩:=s;obtain⟨c,e,h⟩:=h
 have f3:=AutoSeq1.sub_list_list
 wp_walk using wpAny_loadPart' c,wpAny_loadPart' e
 exact⟨plainId_quiet plain_eq_loop _,codeAny_builtin entry_eq_loop (by
  rw[Around.under_plainId plain_eq_loop _];exact zn l b items items2 n n2 dd dd2 sl sl2 _ 0 ss ts rfl (Gr _) (Gr _) h1 h2 a w A R _ ⟨c,e,h⟩)⟩
abbrev cp(x:Str):List Nat:=x.cps.toList
theorem BP{x y:Str}(h:cp x=cp y):x=y:=by
 cases x;cases y;exact q0R _ (Array.toList_inj.mp h)
abbrev ks(l:G6):List (List Nat):=l.map cp
theorem oX:∀(l m:G6),iX l m=decide (ks l<ks m)
 | [],[]=>by simp[iX,List.lt_irrefl]
 | [],_::_=>by simp[iX]
 |_::_,[]=>by simp[iX]
 |x::l,y::m=>by
  unfold iX;have e:(ks (x::l)<ks (y::m))↔(cp x<cp y\/cp x=cp y/\ks l<ks m):=List.cons_lt_cons_iff
  by_cases h:x=y
  ·subst h
   rw[q07 (beq_self_eq_true x),oX l m];refine decide_eq_decide.mpr (e.trans ⟨λq=>?_,λq=>.inr ⟨rfl,q⟩⟩).symm;rcases q with q | q
   ·exact q0Q q (List.lt_irrefl _)
   ·exact q.2
  ·rw[q06 (by simpa using h)]
   refine decide_eq_decide.mpr (e.trans ⟨λq=>?_,λq=>.inl q⟩).symm;rcases q with q | q
   ·exact q
   ·exact q0Q (BP q.1) h
@[reducible] def EK:KeyOrd where
 α:=List (List Nat)
 blt a b:=decide (a<b)
 irrefl x:=q08 (List.lt_irrefl x)
 trans x y z p q:=q09 (List.lt_trans (of_decide_eq_true p) (of_decide_eq_true q))
 negTrans a b c h:=by
  simp only[q0b]at *
  by_cases hab:a<b
  ·exact .inl hab
  ·exact .inr (List.lt_of_le_of_lt (List.not_lt.mp hab) h)
 total x y p q:=List.le_antisymm (List.not_lt.mp (of_decide_eq_false q)) (List.not_lt.mp (of_decide_eq_false p))
@[reducible] def ordI:KeyOrd where
 α:=Int×List (List Nat)
 blt a b:=decide (a.1<b.1\/a.1=b.1/\a.2<b.2)
 irrefl a:=by simp[List.lt_irrefl]
 trans a b c h1 h2:=by
  simp only[q0b]at *;rcases h1 with h1 | ⟨h1,h1'⟩<;>rcases h2 with h2 | ⟨h2,h2'⟩
  ·exact .inl ⋯
  ·exact .inl ⋯
  ·exact .inl ⋯
  ·exact .inr ⟨⋯,List.lt_trans h1' h2'⟩
 negTrans a b c h:=by
  simp only[q0b]at *
  by_cases h1:a.1<b.1
  ·exact .inl (.inl h1)
  ·by_cases h2:b.1<c.1
   ·exact .inr (.inl h2)
   ·rcases h with h | ⟨h,h'⟩
    ·omega
    ·by_cases hab:a.2<b.2
     ·exact .inl (.inr ⟨⋯,hab⟩)
     ·exact .inr (.inr ⟨⋯,List.lt_of_le_of_lt (List.not_lt.mp hab) h'⟩)
 total a b h1 h2:=by
  simp only[decide_eq_false_iff_not]at *;have e:a.1=b.1:=by
   have q1:¬ a.1<b.1:=λq=>h1 (.inl q);have q2:¬ b.1<a.1:=λq=>h2 (.inl q);omega
  have e2:a.2=b.2:=List.le_antisymm (List.not_lt.mp λq=>h2 (.inr ⟨e.symm,q⟩)) (List.not_lt.mp λq=>h1 (.inr ⟨e,q⟩));exact Prod.ext e e2
section
variable {prog:G5}{w:G8}{A:G7}{E:GW}{s:G0}
theorem lJ:∀{vs:G1} {ss:G6},StrsAre vs ss->vs.length=ss.length
 |_,_,.nil=>rfl
 |_,_,.cons x t h=>by simp[lJ h]
theorem pd:∀{vs:G1} {ss:G6},StrsAre vs ss->∀j (h:j<vs.length),∃t,vs[j]=.str (ss.getD j ⟨#[]⟩) t
 |_,_,.cons x t h,0,_=>⟨t,rfl⟩
 |_,_,.cons x t h,j+1,hj=>by
  obtain⟨t',e⟩:=pd h j (by simpa using hj);exact⟨t',by simpa using e⟩
theorem xv{l b:Addr}{xs ys:Array Value}{ss ts:G6}(hl:s.heap.IsList l xs)(hb:s.heap.IsList b ys)(h1:StrsAre xs.toList ss)(h2:StrsAre ys.toList ts)(hu:A.units<cLine) :
  SeqAt.EqAt A s (.ref l) (.ref b) (decide (ss=ts)):=by
 by_cases d:l=b
 ·subst d
  have:xs=ys:=by
   obtain⟨o,z,_,n,B⟩:=hl;obtain⟨o',c,_,n',g⟩:=hb;rw[z]at c;cases c
   rw[B]at g;injection g
  subst this;have:ss=ts:=by rw[<- h1.strs,<- h2.strs]
  rw[q09 this];exact SeqAt.EqAt.same _
 ·refine SeqAt.EqAt.of_refs d ?_
  have p:=lJ h1;have x:=lJ h2;simp at p x
  by_cases m:xs.size=ys.size
  ·have q:=SeqAt.RcAt.lists (A:=A) (e:=λj=>ss.getD j ⟨#[]⟩==ts.getD j ⟨#[]⟩) hl hb m hu λj k i=>by
    obtain⟨t,v⟩:=pd h1 j (by simpa using k);obtain⟨u,r⟩:=pd h2 j (by simpa using i);rw[Array.getElem_toList]at v r;rw[v,r];exact λprog w E Q y=>eqBool_str y
   have e:((List.range xs.size).all λj=>ss.getD j ⟨#[]⟩==ts.getD j ⟨#[]⟩)=decide (ss=ts):=by
    by_cases a:ss=ts
    ·subst a;simp
    ·rw[q08 a]
     refine Bool.eq_false_iff.mpr λq=>a ?_;refine List.ext_getElem ⋯ λj k i=>?_;have:=GN.mp q j (List.mem_range.mpr ⋯);rw[q0A,q0A,FZ k,FZ i,q0L,q0L]at this;exact eq_of_beq this
   rw[e]at q;exact q
  ·have a:¬ ss=ts:=λq=>m (by rw[q]at p;omega)
   rw[q08 a];exact SeqAt.RcAt.lists_lengths hl hb (by simpa using m) hu
theorem yx{l b:Addr}{xs ys:Array Value}{ss ts:G6}{Q:GW}(hl:s.heap.IsList l xs)(hb:s.heap.IsList b ys)(h1:StrsAre xs.toList ss)(h2:StrsAre ys.toList ts)(hu:A.units<cLine)
  (h:Q (.bool (iX ss ts)) s):wpAny (model prog w) A (richCompare .Lt (.ref l) (.ref b)) Q E s:=by
 obtain⟨⟨cls,p,data,m⟩,i,k,n,j⟩:=id hl;obtain⟨⟨cls2,g,data2,e⟩,a,d,o,c⟩:=id hb;simp only at k j d c;subst k j d c;exact richCompare_meets_room (op:=.Lt) ⟨_,i,rfl⟩ ⟨_,a,rfl⟩ PySem.F.slot_list_lt PySem.F.entry_list_lt (PySem.F.args_list_lt_2 _ _) (oN l b xs ys n o p g m e ss ts h1 h2)
  ⟨i,a,show Value.bool (iX ss ts)≠Value.notImplemented/\Q (.bool (iX ss ts)) s from⟨(λx=>nomatch x),h⟩⟩ hu
end
end TS
namespace TS
open PySem PyProof.Rows PySem.MeetsSeq PySem.MeetsSeq3 PySem.W
def A3(h:Heap)(v:Value)(ss:G6):Prop:=∃a o xs n,v=.ref a/\h.get? a=some o/\o.cls=.type "tuple"/\o.data=.seq xs n/\StrsAre xs.toList ss
def TupI(h:Heap)(v:Value)(k:Int×List Str):Prop:=∃a o n l ys t,v=.ref a/\h.get? a=some o/\o.cls=.type "tuple"/\o.data=.seq #[.int k.1 t,.ref l] n/\h.IsList l ys/\StrsAre ys.toList k.2
section
variable {prog:G5}{w:G8}{A:G7}{E:GW}{s:G0}
theorem zg{x y:Value}{k m:Int×List Str}{Q:Bool->Shared->Prop}(hu:A.units<cLine)(hx:TupI s.heap x k)(hy:TupI s.heap y m)(h:Q (decide (k.1<m.1\/k.1=m.1/\ks k.2<ks m.2)) s) :
  wpAny (model prog w) A (keyLt' (tuples' true) x y) Q E s:=by
 obtain⟨a,o,n,l,xs,t,rfl,r,_,v,j,h1⟩:=hx;obtain⟨a2,o2,n2,l2,ys,u,rfl,d,_,g,b,h2⟩:=hy;refine kat_lt r v d g (kat_cons (wpAny_eqBool_int ?_));cases e:k.1==m.1 with
 |false=>
  refine kat_no (oneLt_int ?_);have p:¬ k.1=m.1:=λq=>by rw[q]at e;simp at e
  rw[show decide (k.1<m.1\/k.1=m.1/\ks k.2<ks m.2)=decide (k.1<m.1) from decide_eq_decide.mpr ⟨λq=>q.elim id λq=>q0Q q.1 p,.inl⟩]at h;exact h
 |true=>
  have z:=eq_of_beq e;have i:Q (iX k.2 m.2) s:=by
   rw[oX];rw[show decide (k.1<m.1\/k.1=m.1/\ks k.2<ks m.2)=decide (ks k.2<ks m.2) from decide_eq_decide.mpr ⟨λq=>q.elim (λq=>by omega) And.right,λq=>.inr ⟨z,q⟩⟩]at h;exact h
  refine kat_yes (kat_cons (xv j b h1 h2 hu prog w _ _ ?_))
  by_cases c:k.2=m.2
  ·rw[q09 c]
   refine kat_yes (kat_nil ?_);have:iX k.2 m.2=false:=by rw[c,oX];exact q08 (List.lt_irrefl _)
   rw[this]at i;exact i
  ·rw[q08 c]
   refine kat_no ?_;rw[oneLt'_eq];simp only[show((true&&(1:Nat)==0)=true)=False by simp,if_false];exact q04 (yx j b h1 h2 hu (wpAny_truthy_bool i))
def keyEnd(h:Heap)(a kS:Addr)(out:Array Value):Heap:=(h.update kS (Obj.mapSeq λ_=>#[])).update a (Obj.mapSeq λ_=>out)
theorem yf{a kS:Addr}{e e1:Nat}{keys:Array Value}{vs:G1}{st:SortSt}{P:Fin->Shared->Prop}(hka:a≠kS)(hk:s.heap.get? kS=some (seqObj "list" keys e))(ha:s.heap.get? a=some (seqObj "list" #[] e1))
  (hz:keys.size<=sizeLine) (hz2:(arrOf st).size<=sizeLine) (hf:failedOf st=none) (h:P (.done (.ret .none)) {s with heap:=keyEnd s.heap a kS ((arrOf st).map (·.2))}) :
  wpAny (model prog w) A (ksk_tail a false e1 (.ref kS) st) P E s:=by
 have b:(s.heap.update kS (Obj.mapSeq λ_=>(#[]:Array Value))).get? a=some (seqObj "list" #[] e1):=((Heap.SameBut.update s.heap kS (Obj.mapSeq λ_=>(#[]:Array Value))).2 a hka).trans ha;unfold ksk_tail;dsimp only;refine q04 (listUpdate_at hk rfl ?_ hz (Gr _));refine q04 (wpAny_letGo ?_);refine q04 (seqEpoch_at b rfl ?_);refine q04 (listUpdate_at b rfl ?_ (Gr _) (by rw[q06 nofun,Array.size_map];exact Nat.le_succ_of_le hz2));rw[hf];simp only[bne_self_eq_false,q0a,if_false];exact q05 h
theorem zh{a kS:Addr}{e e1:Nat}{keys:Array Value}{vs:G1}{P:Fin->Shared->Prop}(hka:a≠kS)(hk:s.heap.get? kS=some (seqObj "list" keys e))(ha:s.heap.get? a=some (seqObj "list" #[] e1))
  (hz:vs.length<=sizeLine) (hkz:keys.size=vs.length) {kd:SortKind} {r:Keyed->Nat} (hkk:2<=vs.length->∀{Q:SortKind->Shared->Prop},Q kd s->wpAny (model prog w) A (keyKind' keys) Q E s)
  (C:2<=vs.length->oy prog w A (· = s) (keys.zip vs.toArray) kd r)
  (h:∀ps:List Keyed,ps.Perm (keys.toList.zip vs)->ps.Pairwise (gy r)->P (.done (.ret .none)) {s with heap:=keyEnd s.heap a kS (ps.map (·.2)).toArray}) :
  wpAny (model prog w) A (ksk_end a false vs.toArray e1 (.ref kS) keys) P E s:=by
 have j:(keys.zip vs.toArray).toList=keys.toList.zip vs:=ksk_zip keys vs;have i:(keys.zip vs.toArray).size=vs.length:=by rw[Array.size_zip,hkz,F9,Nat.min_self]
 have fin:∀st:SortSt,(arrOf st).toList.Perm (keys.zip vs.toArray).toList->(arrOf st).toList.Pairwise (gy r)->failedOf st=none->wpAny (model prog w) A (ksk_tail a false e1 (.ref kS) st) P E s:=by
  intro st g c m;refine yf (vs:=vs) hka hk ha ⋯ (by have:=g.length_eq;simp at this;omega) m ?_;have:=h (arrOf st).toList (by rw[<- j];exact g) c
  rwa [show((arrOf st).toList.map (·.2)).toArray=(arrOf st).map (·.2) by rw[<- Array.toList_map]]at this
 have hs:vs.toArray.size=vs.length:=by simp
 unfold ksk_end;dsimp only;rw[q06 nofun]
 by_cases h2:vs.toArray.size<2
 ·rw[q07 h2,q07 h2]
  refine q04 (q05 ?_);rw[StateT.run_pure];refine q04 (q05 ?_);dsimp only;refine fin (SortSt.mk' general' (keys.zip vs.toArray) #[] 7 none) (List.Perm.refl _) ?_ rfl;have d:(keys.zip vs.toArray).toList.length<2:=by simp;omega
  show(keys.zip vs.toArray).toList.Pairwise _
  match(keys.zip vs.toArray).toList,d with
  | [],_=>exact .nil
  | [v],_=>exact List.pairwise_singleton _ _
  |_::_::_,d=>simp at d;omega
 ·rw[q06 h2,q06 h2]
  refine q04 (hkk ⋯ ?_);refine q04 (q0X (rU (a₀:=keys.zip vs.toArray) (kd:=kd) (r:=r) (C ⋯) (st:=SortSt.mk' kd (keys.zip vs.toArray) #[] 7 none)
   (Q:=λ_ b=>SB (keys.zip vs.toArray) kd b/\(arrOf b).toList.Pairwise (gy r)) ⟨List.Perm.refl _,rfl,rfl⟩ rfl (by rw[i];omega) (λb l k=>⟨l,k⟩) _ rfl) ?_ λ_ _ e=>e)
  rintro⟨⟨⟩,b⟩ s' ⟨rfl,B,c⟩;exact fin b B.perm c B.failed
theorem xX{a:Addr}{f:Value}{vs:G1}{n:Nat}{P:Fin->Shared->Prop}(ho:s.heap.get? a=some (seqObj "list" vs.toArray n))(hz:vs.length<=sizeLine)(I:Nat->Array Value->Shared->Prop){e1:Nat}
  (ho1:(s.heap.update a (Obj.mapSeq λ_=>(#[]:Array Value))).get? a=some (seqObj "list" #[] e1)) (h0:I 0 #[] {s with heap:=sort1 s.heap a vs})
  (hI:∀i kA s',I i kA s'->kA.size=i/\s'.heap.get? a=some (seqObj "list" #[] e1)/\∃e,s'.heap.get? (s.heap.objs.size+1)=some (seqObj "list" kA e))
  (step:∀i x kA s',vs[i]?=some x->I i kA s'->wpAny (model prog w) A (call f [x]) (λv s2=>(∃e,s2.heap.get? (s.heap.objs.size+1)=some (seqObj "list" kA e)) /\
   I (i+1) (kA.push v) {s2 with heap:=s2.heap.update (s.heap.objs.size+1) (Obj.mapSeq (·.push v))}) (λ_ _=>False) s')
  (fin:∀keys s',I vs.length keys s'->∃(kd:SortKind) (r:Keyed->Nat),(2<=vs.length->∀{Q:SortKind->Shared->Prop},Q kd s'->wpAny (model prog w) A (keyKind' keys) Q E s') /\
   (2<=vs.length->oy prog w A (· = s') (keys.zip vs.toArray) kd r) /\
   ∀ps:List Keyed,ps.Perm (keys.toList.zip vs)->ps.Pairwise (gy r)->P (.done (.ret .none)) {s' with heap:=keyEnd s'.heap a (s.heap.objs.size+1) (ps.map (·.2)).toArray}) :
  wpAny (model prog w) A (ksk_tree a f false) P E s:=by
 have o:a<s.heap.objs.size:=Gu ho;unfold ksk_tree;refine q04 (listItems_at ho rfl (q04 (listUpdate_at ho rfl ?_)));refine q04 (seqEpoch_at ho1 rfl (q04 (wpAny_newTuple (q04 (wpAny_newList (q0Y ?_))))));show wpAny (model prog w) A _ P E {s with heap:=sort1 s.heap a vs};have y:((s.heap.update a (Obj.mapSeq λ_=>(#[]:Array Value))).push (seqObj "tuple" vs.toArray 0)).objs.size=s.heap.objs.size+1:=by rw[size_push',Heap.size_update]
 show wpAny (model prog w) A (ksk_rest a f false vs.toArray e1 (.ref ((s.heap.update a (Obj.mapSeq λ_=>(#[]:Array Value))).push (seqObj "tuple" vs.toArray 0)).objs.size)) P E _;rw[y];unfold ksk_rest;refine q04 (wpAny_rule ?_);rw[<- Array.forIn_toList];refine q04 (ksk_fold (λi s'=>∃kA,I i kA s') vs 0 _ ⟨#[],h0⟩ ?step ?done)
 case step=>
  rintro j x s' g ⟨kA,b⟩;simp only[Nat.zero_add]at b ⊢;have hj:j<vs.length:=(F0.mp g).1;obtain⟨d,_,_⟩:=hI _ _ _ b;refine q04 (wpAny_attempt (q0X (step j x kA s' g b) (λv s2 m=>?_) λ_ _ p=>p.elim));obtain⟨⟨e,l⟩,md⟩:=m;dsimp only;refine q04 (listUpdate_at l rfl ?_ ⋯ (Gy (Nat.le_of_eq (Array.size_push ..)) ⋯));exact q05 ⟨rfl,_,md⟩
 case done=>
  rintro s' ⟨kA,b⟩;rw[Nat.zero_add]at b;obtain⟨d,k,e,c⟩:=hI _ _ _ b;obtain⟨kd,r,u,f2,q⟩:=fin _ _ b;refine q04 (listItems_at c rfl ?_);exact zh (Gm (Nat.lt_succ_of_lt o)) c k hz d u f2 q
end
theorem TupI.one{h:Heap}{v:Value}{k m:Int×List Str}(h1:TupI h v k)(h2:TupI h v m):k=m:=by
 obtain⟨a,o,n,l,ys,t,rfl,y,_,B,z,w⟩:=h1;obtain⟨a2,o2,n2,x,zs,u,e,d,_,b,j,r⟩:=h2;cases e;rw[y]at d;cases d
 rw[B]at b;have D:k.1=m.1:=by injection b with q;injection q with q;injection q with q _;injection q
 have C:l=x:=by injection b with q;injection q with q;injection q with _ q;injection q with q _;injection q
 subst C;obtain⟨o3,i,_,n3,p⟩:=z;obtain⟨o4,c,_,n4,g⟩:=j;rw[i]at c;cases c
 rw[p]at g;cases g
 exact Prod.ext D (by rw[<- w.strs,<- r.strs])
open Classical in
def keyI(h:Heap)(p:Keyed):Int×List (List Nat):=if q:∃k,TupI h p.1 k then(q.choose.1,ks q.choose.2) else(0,[])
theorem keyI_eq{h:Heap}{p:Keyed}{k:Int×List Str}(q:TupI h p.1 k):keyI h p=(k.1,ks k.2):=by
 have a:∃k,TupI h p.1 k:=⟨k,q⟩;unfold keyI;rw[dif_pos a,a.choose_spec.one q]
section
variable {prog:G5}{w:G8}{A:G7}{E:GW}{s:G0}
theorem cmp_I{a₀:PA}(hu:A.units<cLine)(h:∀p,p∈a₀.toList->∃k,TupI s.heap p.1 k):oy prog w A (· = s) a₀ (tuples' true) (rk ordI (keyI s.heap) a₀.toList):=by
 intro x c y d s' j;cases j;obtain⟨k,b⟩:=h x c;obtain⟨m,a⟩:=h y d;refine zg hu b a ⟨rfl,?_⟩;rw[<- AD (O:=ordI) (f:=keyI s.heap) (y:=y) c,keyI_eq b,keyI_eq a]
theorem kind_I{vs:G1}{Q:SortKind->Shared->Prop}(h:∀v,v∈vs->∃k,TupI s.heap v k)(h0:0<vs.length)(hq:Q (tuples' true) s):wpAny (model prog w) A (keyKind' vs.toArray) Q E s:=by
 have:∃fs,KatTups s.heap vs fs/\fs.length=vs.length/\∀v,v∈fs->∃x t,v=Value.int x t:=by
  clear h0 hq
  induction vs with
  |nil=>exact⟨[],trivial,rfl,λv b=>nomatch b⟩
  |cons v vs ih=>
   obtain⟨fs,t,l,q⟩:=ih λu hu=>h u (Gh _ hu);obtain⟨k,a,o,n,ll,ys,c,rfl,d,g,e,hl,hs⟩:=h v (q0B ..);refine⟨.int k.1 c::fs,KatTups.cons d g e rfl t,by simp[l],λu hu=>?_⟩;rcases Gg.mp hu with rfl | hu
   ·exact⟨_,_,rfl⟩
   ·exact q u hu
 obtain⟨fs,t,l,q⟩:=this;refine kat_kind (T:=.type "int") t ⋯ (λv b=>?_) (by rfl) hq;obtain⟨x,c,rfl⟩:=q v b;exact .now
end
end TS
namespace L2
open PySem PySem.Spec PyProof.Rows
theorem qW{α β:Type}{f:α->β}{l l':List β}(h:l.Perm l'):∀m:List α,l'=m.map f->∃m':List α,m'.Perm m/\l=m'.map f:=by
 induction h with
 |nil=>intro m e;exact⟨m,List.Perm.refl _,e⟩
 |cons x _ ih=>
  intro m e;cases m with
  |nil=>exact nomatch e
  |cons y m=>
   obtain⟨d,c⟩:=List.cons.inj e;obtain⟨m',p,q⟩:=ih m c;exact⟨y::m',p.cons y,by rw[q,d];rfl⟩
 |swap x y l=>
  intro m e
  match m,e with
  |a::b::m,e=>
   obtain⟨d,c⟩:=List.cons.inj e;obtain⟨r,o⟩:=List.cons.inj c;exact⟨b::a::m,List.Perm.swap a b m,by rw[d,r,o];rfl⟩
 |trans _ _ ih1 ih2=>
  intro m e;obtain⟨m1,k,i⟩:=ih2 m e;obtain⟨n,j,g⟩:=ih1 m1 i;exact⟨n,j.trans k,g⟩
theorem vz{h:Heap}{a b:Addr}{vs:G1}{o:Obj}(hb:h.get? b=some o)(hne:b≠a):(TS.sort1 h a vs).get? b=some o:=by
 unfold TS.sort1;refine F1 _ (F1 _ ?_);rw[Heap.get?_update_ne _ _ _ _ hne];exact hb
def Cm(K:GX)(H:Hp)(x:V)(k:Int×List Str):Prop:=∃a l,x=.ref a/\jv K H a [.int k.1,.ref l]/\aT K H l (k.2.map V.str)
section
variable {X:Cx}
theorem Inv.pair{pins:GY}{σ:St}{H:Hp}{s:G0}(I:Inv X pins σ H s){x:V}{k:Int×List Str}{u:Value}(h:Cm X.K H x k)(r:aR x u):TS.TupI s.heap u k:=by
 obtain⟨a,l,rfl,e,i⟩:=h;obtain rfl:u=Value.ref a:=r;obtain⟨its,b,⟨o,g,m,n,j⟩,_⟩:=I.tuple e;obtain⟨js,c,d,_⟩:=I.list i;cases b with
 |cons q1 b=>
  cases b with
  |cons q2 b=>
   cases b;obtain⟨t,rfl⟩:=q1;obtain rfl:=q2;exact⟨a,o,n,l,_,t,rfl,g,m,j,d.isList,by simpa using fQ c⟩
abbrev kI(k:Int×List Str):Int×List (List Nat):=(k.1,TS.ks k.2)
end
@[reducible] def EH:KeyOrd where
 α:=Int
 blt a b:=decide (a<b)
 irrefl a:=by simp
 trans a b c h1 h2:=by simp only[q0b]at *;omega
 negTrans a b c h:=by simp only[q0b]at *;omega
 total a b h1 h2:=by simp only[decide_eq_false_iff_not]at *;omega
end L2
namespace TS
open PySem PyProof.Rows PySem.W
section
variable {prog:G5}{w:G8}{A:G7}{E:GW}{s:G0}{T:String}{r d:Addr}{n:Nat}{P:Nat->Value->Prop}{OK:Heap->Prop}
theorem collect_src{Q:List Value->Shared->Prop}(K:KdlSrc prog w T r d n P OK)(hh:A.handled=none)(hok:OK s.heap)(hn:n<=sizeLine)
  (h:∀h' tk (acc':Array Value),(∀b o,s.heap.get? b=some o->h'.get? b=some o)->ItemsOf P acc' n->Q acc'.toList {s with heap:=h',toks:=tk}) :
  wpAny (model prog w) A (collect (.ref r)) Q E s:=by
 have l:=K.there _ hok;unfold collect;refine q04 (wpAny_runValue (codeAny_builtin entry_proto_collect' (show wpAny _ _ (do again (.builtin "list.__iadd__" ⟨[<- newList [],.ref r],[]⟩)) _ _ s from q04 (wpAny_newList (q05 ⟨Code.quiet_builtin _ (by decide +kernel),codeAny_builtin entry_list_iadd' ?_⟩)))));show wpAny _ _ (Builtin.List.listExtendWith (.ref s.heap.objs.size) (.ref r) (.ref s.heap.objs.size)) _ _ {s with heap:=s.heap.push (seqObj "list" #[] 0)};rw[Around.under_plainId (show plainId "list.__iadd__"=true by decide +kernel) _];refine q0X (kdl_extend (s:={s with heap:=s.heap.push (seqObj "list" #[] 0)}) (R:=λc i=>c=.ok (.ret (.ref s.heap.objs.size))/\∃h' tk acc' k,i={s with heap:=h',toks:=tk}/\(∀b o,s.heap.get? b=some o->h'.get? b=some o) /\
   h'.get? s.heap.objs.size=some {cls:=.type "list",dict:=none,data:=.seq acc' k,slots:=#[]}/\ItemsOf P acc' n) K hh (K.keep _ _ hok λb _ o e=>F1 _ e) s.heap.objs.size (Nat.ne_of_gt l.1) (Nat.ne_of_gt l.2) (.ref s.heap.objs.size) 0 (F8 _ rfl)
  (λh' tk acc' k m j g=>⟨rfl,h',tk,acc',k,rfl,λb o q=>m b o (Gm (Gu q)) (F1 _ q),j,g⟩) hn) (λfin i p=>?_) λe i z=>?_
 ·have u:∀(c:Result) (i:G0),(c=.ok (.ret (.ref s.heap.objs.size))/\∃h' tk acc' k,i={s with heap:=h',toks:=tk}/\(∀b o,s.heap.get? b=some o->h'.get? b=some o) /\
    h'.get? s.heap.objs.size=some {cls:=.type "list",dict:=none,data:=.seq acc' k,slots:=#[]}/\ItemsOf P acc' n) ->
    match c with
    |Except.ok (Flow.ret v)=>wpAny (model prog w) A (match v with
      |Value.ref a=>do
       let o <- load a
       match o.data with
        |Data.seq xs epoch=>pure xs.toList
        |x=>unsupported "internal:collect"
      |x=>unsupported "internal:collect") Q E i
    |Except.ok a=>False
    |Except.error e=>E e i:=by
   rintro c i ⟨rfl,h',tk,acc',k,rfl,m,j,g⟩;exact q04 (wpAny_load j (q05 (h h' tk acc' m g)))
  cases fin with
  |done f=>exact u _ _ p
  |again k=>exact⟨p.1,codeAny_mono p.2 λc y hr=>u c y hr⟩
 ·exact nomatch z.1
end
section
variable {prog:G5}{w:G8}{A:G7}{E:GW}{s:G0}
def KeyRun(prog:G5)(w:G8)(A:G7)(E:GW)(q:Addr)(Q:GW)(vs:G1)(s2:G0):Prop:=
 vs.length<=sizeLine/\∀e1,((with1 s2 vs).update s2.heap.objs.size (Obj.mapSeq λ_=>(#[]:Array Value))).get? s2.heap.objs.size=some (seqObj "list" #[] e1)->∀kS,kS=(with1 s2 vs).objs.size+1 ->
   ∃(I:Nat->Array Value->Shared->Prop),I 0 #[] {s2 with heap:=sort1 (with1 s2 vs) s2.heap.objs.size vs} /\
  (∀i kA s',I i kA s'->kA.size=i/\s'.heap.get? s2.heap.objs.size=some (seqObj "list" #[] e1)/\∃e,s'.heap.get? kS=some (seqObj "list" kA e)) /\
  (∀i x kA s',vs[i]?=some x->I i kA s'->wpAny (model prog w) A.in1.in1 (call (.ref q) [x]) (λv s3=>(∃e,s3.heap.get? kS=some (seqObj "list" kA e))/\I (i+1) (kA.push v) {s3 with heap:=s3.heap.update kS (Obj.mapSeq (·.push v))}) (λ_ _=>False) s') /\
  (∀keys s',I vs.length keys s'->∃(kd:SortKind) (r:Keyed->Nat),(2<=vs.length->∀(Q:SortKind->Shared->Prop),Q kd s'->wpAny (model prog w) A.in1.in1 (keyKind' keys) Q E s')/\(2<=vs.length->oy prog w A.in1.in1 (· = s') (keys.zip vs.toArray) kd r) /\
   ∀ps:List Keyed,ps.Perm (keys.toList.zip vs)->ps.Pairwise (gy r)->Q (.ref s2.heap.objs.size) {s' with heap:=keyEnd s'.heap s2.heap.objs.size kS (ps.map (·.2)).toArray})
theorem sorted_key{v:Value}{q:Addr}{Q:GW}(hc:wpAny (model prog w) A.in1 (collect v) (KeyRun prog w A E q Q) E s) :
  wpAny (model prog w) A (call (.builtin "sorted") [v] [(Str.ofString "key",.ref q)]) Q E s:=by
 refine call_function_entry_kw kind_sorted plain_sorted entry_sorted (ksk_s1 _ _) ?_;unfold Builtin.«sorted»;refine q04 (m:=checkCount "sorted" 1 1 _) (q05 ?_)
 refine q04 (q0X hc (λvs a ⟨n,h⟩=>?_) λ_ _ e=>e);refine q04 (wpAny_newList ?_ (hsz:=by omega));have b:(with1 a vs).get? a.heap.objs.size=some (seqObj "list" vs.toArray 0):=F8 _ rfl;show wpAny _ _ _ _ _ {a with heap:=with1 a vs};obtain⟨z,c⟩:=zm b;obtain⟨I,u,p,d,fin⟩:=h z c _ rfl;refine q04 (q0Y (wpAny_call_entry_kw slot_list_sort ⟨_,b,rfl⟩ entry_list_sort ?body (ksk_l1 _ _)))
 case body=>
  show wpAny (model prog w) A.in1.in1 (Builtin.«list.sort» ⟨[.ref a.heap.objs.size],[(Str.ofString "key",.ref q)]⟩) _ _ _;rw[ksk_t1];refine xX (s:={a with heap:=with1 a vs}) b n I c u p d λkeys g o=>?_;obtain⟨l,r,y,f2,x⟩:=fin keys g o;exact⟨l,r,λh2 {Q} hq=>y h2 Q hq,f2,λi k j=>⟨_,rfl,q05 ⟨_,rfl,x i k j⟩⟩⟩
end
end TS
namespace L2
open PySem PySem.Spec PyProof.Rows QL
abbrev qP(p a:Addr):HO:=.ext λh=>h.IsValuesView p a
section
variable {X:Cx}{pins:GY}{σ:St}{H:Hp}{s:G0}{h':Heap}
theorem Inv.adopt{t':Nat}{a:Addr}{o:HO}(I:Inv X pins σ H s)(k:∀b u,b≠a->s.heap.get? b=some u->h'.get? b=some u)(hn:H a=none)(hL:a≠X.env.locals)
  (h1:X.s₀.heap.objs.size<=a) (h2:∀x c,X.env.cells.lookup x=some c->c≠a) (h3:∀p∈X.pn++pins,p.1≠a) (new:bB X.prog X.w (aB H a o) h' a o):Inv X pins σ (aB H a o) {s with heap:=h',toks:=t' }:=by
 have i:∀b u,H b=some u->b≠a:=λb u e z=>by rw[z,hn]at e;cases e
 have g:∀b u,H b=some u->aB H a o b=some u:=λb u e=>by rw[ai (i b u e)];exact e
 refine I.step (g':=s.gens) (d':=s.drawn) (ch:=[a]) (λb j=>?_) (λb o _ _ d e _=>k b o (λz=>d (by simp[z])) e) (λb o _ _ d e _=>⟨o.slots,k b o (λz=>d (by simp[z])) e⟩) (λb _ d _ n=>by rw[ai (λz=>d (by simp[z]))];exact n)
  (λb o d e=>⟨o,k b o (λz=>d (by simp[z])) e⟩) (λb l e=>g _ _ e) (λb _ _ e=>g _ _ e) (λb ps e=>⟨#[],by rw[g _ _ e];simp⟩) (λm y=>?_) (λb u e=>?_) I.bare
 ·have e:b=a:=by simpa using j
  subst e;exact⟨.inr h1,hL,h2,h3⟩
 ·obtain⟨o,B,C,w,r⟩:=y
  exact⟨o,B,C,k _ o (Ne.symm hL) w,r⟩
 ·by_cases j:b=a
  ·subst j;rw[af]at e;cases e;exact new
  ·rw[ai j]at e
   refine(I.hok b u e).stay (λc v d q=>k c v ?_ q) (λc q=>g _ _ q) λc l q=>g _ _ q;rcases d with z | z
   ·rw[z];exact j
   ·exact i c _ z
end
section
variable {X:Cx}{o:Expr}{apos cpos:Pos}{td:TE}
def rP(td:TE):TE:=λσ H Q=>td σ H λx H1=>∃a kvs,x=.ref a/\H1 a=some (.dK kvs)/\∀p,H1 p=none->Q (.ref p) (aB H1 p (qP p a))
theorem wF(ho:PE X o td)(hb:attributeBase o "values" X.env (eval o X.env)=eval o X.env)(hl:(apos.endLine==cpos.line)=true):PE X (.Call (.Attribute o "values" apos) [] [] cpos) (rP td):=by
 intro c s σ H Q I h;refine wpAny_Call_method0_late hb hl (bH (ho c s σ H _ I h) λu d ⟨x,H1,g,q,a,i,v,l,r⟩=>?_);subst v;obtain rfl:u=Value.ref a:=q;obtain⟨p,n,t3⟩:=rF g (.inl ⟨i,.inl l⟩);refine⟨"dict",_,PySem.F.plainAttrs_dict,PySem.F.slot_dict_values,PySem.F.type_dict_values,p,n,?_⟩;refine Calls.callWith_builtin rfl (evalArgs_nil3 ?_);obtain⟨z,j,vs,rel,m⟩:=mQ g.hok l;refine call_meetsIn PySem.F.slot_dict_values m.typeIs PySem.F.entry_dict_values (PySem.F.args_dict_values_1 _) (meets_dict_values (br X.prog X.w) a j) ⟨⟨_,m⟩,?_⟩;refine⟨.ref d.heap.objs.size,aB H1 d.heap.objs.size (qP d.heap.objs.size a),g.laid (t':=d.toks) (λb u e=>F1 _ e) (Gq _) ?_,rfl,r _ (g.hok.fresh (Gq _))⟩;refine⟨⟨_,F8 _ rfl,rfl,rfl⟩,⟨_,F8 _ rfl⟩,?_⟩;rintro h1 h2 ⟨o,ho,x⟩ k;exact⟨o,k o ho,x⟩
end
end L2
namespace L2
open PySem PySem.Spec PyProof.Rows QL PySem.W
theorem lV{α β:Type}{F:α->β->Prop}:∀{l₁:List α} {l₂:List β} {i:Nat} {a:α},Paired F l₁ l₂->l₁[i]?=some a->∃b,l₂[i]?=some b/\F a b
 |_,_,_,_,.nil,e=>by simp at e
 |_,_,0,_,.cons r _,e=>by simp at e;subst e;exact⟨_,rfl,r⟩
 |_,_,i+1,a,.cons _ t,e=>by
  obtain⟨u,h1,h2⟩:=lV (i:=i) (a:=a) t (by simpa using e);exact⟨u,by simpa using h1,h2⟩
abbrev VE:=b9×Addr×List Str
abbrev DV(e:VE):b9×V:=(e.1,.ref e.2.1)
abbrev xc(e:VE):V:=.ref e.2.1
def fm(g:List Str->Int)(zs:List VE):Prop:=zs.Pairwise λa b=>TS.ordI.blt (kI (g b.2.2,b.2.2)) (kI (g a.2.2,a.2.2))=false
section
variable {X:Cx}{pins:GY}{σ:St}{H:Hp}{s:G0}{k:Nat}{f:Addr}{fd:G4}{ps:G6}{sp:Sp}{P:List Str->Prop}{g:List Str->Int}{Q:VK}{vs:G1}{es:List VE}
theorem zd(F:bc X.prog X.w X.K X.mg X.base bx k f fd ps sp)(hb:cX X.K fd ps [])(hr:cw (k+2) X.A)
  (hsp:∀l ss H Q E,aT X.K H l (ss.map V.str)->P ss->(∀t,H t=none->Q (.ref t) (aB H t (.tup [.int (g ss),.ref l])))->sp [.ref l] H Q E)
  (I:Inv X pins σ H s) (hl:vs.length=es.length) (hz:es.length<=sizeLine) (hit:∀(i:Nat) (x:Value),vs[i]?=some x->∃e:VE,es[i]?=some e/\x=Value.ref e.2.1)
  (hes:∀e,e∈es->aT X.K H e.2.1 (e.2.2.map V.str)/\P e.2.2)
  (q:∀zs:List VE,zs.Perm es->fm g zs->∀(H':Hp) (l:Addr),aA H H'->H l=none->H' l=some (.lst (zs.map xc))->Q (.ref l) H') :
  TS.KeyRun X.prog X.w X.A X.xe f (EP X pins σ Q) vs s:=by
 refine⟨⋯,λe1 a6 M a4=>?_⟩;have hw:(TS.with1 s vs).objs.size=s.heap.objs.size+1:=size_push' ..;rw[hw]at a4;have nL:∀b,s.heap.objs.size<=b->b≠X.env.locals:=λb hb z=>by have h1:(X.env.locals:Nat)<s.heap.objs.size:=I.lt;rw[<- z]at h1;exact q0Q (Gk h1 hb) (Gz _)
 have nF:∀b,s.heap.objs.size<=b->b∉X.fs:=λb hb=>I.nofs hb;have nC:∀b,s.heap.objs.size<=b->∀x c,X.env.cells.lookup x=some c->c≠b:=λb hb x c e z=>by
  obtain⟨v,o,ho,_⟩:=I.cell x c e;have h1:=Gu ho;rw[z]at h1;exact q0Q (Gk h1 hb) (Gz _)
 have nP:∀b,s.heap.objs.size<=b->∀p∈X.pn++pins,p.1≠b:=λb hb p hp z=>by
  have h1:=Gu (I.pin p hp).1;rw[z]at h1;exact q0Q (Gk h1 hb) (Gz _)
 have nS:X.s₀.heap.objs.size<=s.heap.objs.size:=I.sz;have a1:H s.heap.objs.size=none:=I.hok.fresh (Gq _);have Y:∀{L:Hp} {C:G0} {pins':GY},Inv X (pins++pins') σ L C->∀p∈pins,C.heap.get? p.1=some p.2/\L p.1=none/\p.1≠X.env.locals/\p.1∉X.fs/\∀v,p.2.data≠.cell v:=λJ p hp=>J.pin p (q0C _ (q0D _ hp));have B:∀(xs:Array Value) (n:Nat) (v),(seqObj "list" xs n).data≠.cell v:=λxs n v z=>by cases z
 refine⟨λi kA C=>∃(L:Hp) (D:G2) (e:Nat),Inv X (pins++[(s.heap.objs.size,seqObj "list" #[] e1),(M,seqObj "list" kA e)]) σ L C/\aA H L/\kA.toList=D.map Value.ref/\D.length=i /\
  (∀(j:Nat) (t:Addr) (d:VE),D[j]?=some t->es[j]?=some d->L t=some (.tup [.int (g d.2.2),.ref d.2.1])),?_,?_,?_,?_⟩
 ·have I':Inv X pins σ H {s with heap:=TS.sort1 (TS.with1 s vs) s.heap.objs.size vs}:=by
   refine I.kept (t':=s.toks) λb u e=>?_;have:=Gu e;exact vz (F1 _ e) (Gm this)
  refine⟨H,[],0,I'.pins_of λp hp=>?_,aA.refl _,rfl,rfl,λj t d h=>by simp at h⟩;rcases Gd.mp hp with hp | hp
  ·exact I'.pin p (q0C _ hp)
  ·rcases Gg.mp hp with rfl | hp
   ·exact⟨F1 _ (F1 _ a6),a1,nL _ (Gq _),nF _ (Gq _),B _ _⟩
   ·obtain rfl:=F4.mp hp
    refine⟨?_,I.hok.fresh ⋯,nL _ ⋯,nF _ ⋯,B _ _⟩;have a8:(((TS.with1 s vs).update s.heap.objs.size (Obj.mapSeq λ_=>(#[]:Array Value))).push (seqObj "tuple" vs.toArray 0)).objs.size=M:=by rw[size_push',Heap.size_update,hw];omega
    show(TS.sort1 (TS.with1 s vs) s.heap.objs.size vs).get? M=_;rw[<- a8];exact F8 _ rfl
 ·rintro i kA C ⟨L,D,e,O,sm,hk,S,U⟩
  refine⟨by rw[<- Array.length_toList,hk,F3];exact S,(O.pin (s.heap.objs.size,_) (by simp)).1,e,(O.pin (M,_) (by simp)).1⟩
 ·rintro i x kA C hx ⟨L,D,e,O,sm,hk,S,U⟩
  obtain⟨d,T,rfl⟩:=hit i x hx;have a3:d∈es:=F6 T;have hS:=sm.seq (hes d a3).1;have a2:=hsp d.2.1 d.2.2 L (λv H2=>∃t,v=.ref t/\L t=none/\H2=aB L t (.tup [.int (g d.2.2),.ref d.2.1])) E0 hS (hes d a3).2 λt Z=>⟨t,rfl,Z,rfl⟩;refine wpAny_call (codeAny_mono (F.run X.A.in1.in1 X.stack C L ⟨[.ref d.2.1],[]⟩ [.ref d.2.1] [.ref d.2.1] _ E0 (hr.in1.in1) O.env0.in1.in1 (hb C [.ref d.2.1] O.kIn (by have:=F.len _ _ _ _ a2;simpa using this)) (.cons rfl .nil) a2) λr s2 hq=>?_);cases r with
  |error e=>exact hq
  |ok fl=>
   cases fl with
   |next=>exact False.elim hq
   |brk=>exact False.elim hq
   |cont=>exact False.elim hq
   |ret u=>
    obtain⟨v,H2,I2,rv,t,rfl,Z,rfl⟩:=O.after hq;obtain rfl:u=Value.ref t:=rv;have p0:=I2.pin (s.heap.objs.size,seqObj "list" #[] e1) (by simp);have pk:=I2.pin (M,seqObj "list" kA e) (by simp);have Ia:Inv X (pins++[(s.heap.objs.size,seqObj "list" #[] e1)]) σ (aB L t (.tup [.int (g d.2.2),.ref d.2.1])) s2:=I2.pins_of λp hp=>by
     rcases Gd.mp hp with hp | hp
     ·exact Y I2 p hp
     ·obtain rfl:=F4.mp hp;exact p0
    have Ib:=Ia.turned (t':=s2.toks) (h':=s2.heap.update M (Obj.mapSeq (·.push (Value.ref t)))) (λb o hb e=>(Heap.get?_update_ne _ _ _ _ hb).trans e) pk.2.1 (nL _ ⋯) (.inr ⋯) (nC _ ⋯) (λp hp=>by
     rcases Gd.mp hp with hp | hp
     ·exact nP _ ⋯ p (q0D _ hp)
     ·rcases Gd.mp hp with hp | hp
      ·exact nP _ ⋯ p (q0C _ hp)
      ·obtain rfl:=F4.mp hp;show s.heap.objs.size≠M;omega)
    obtain⟨e',a7⟩:∃e',(s2.heap.update M (Obj.mapSeq (·.push (Value.ref t)))).get? M=some (seqObj "list" (kA.push (Value.ref t)) e'):=⟨_,get?_update_seq pk.1 _⟩;refine⟨⟨e,pk.1⟩,aB L t (.tup [.int (g d.2.2),.ref d.2.1]),D++[t],e',Ib.pins_of λp hp=>?_,sm.trans (ao Z),by simp[hk],by simp[S],λj u e2 h1 h2=>?_⟩
    rotate_right
    ·by_cases hj:j<D.length
     ·rw[Go hj]at h1
      have q1:=U j u e2 h1 h2;rw[ai (ax q1 Z)];exact q1
     ·have:j=D.length:=by have:=(F0.mp h1).1;simp at this;omega
      subst this;rw[List.getElem?_concat_length]at h1;cases h1;rw[S,T]at h2;cases h2;exact af
    ·rcases Gd.mp hp with hp | hp
     ·exact Ib.pin p (q0C _ (q0D _ hp))
     ·rcases Gg.mp hp with rfl | hp
      ·exact Ib.pin (s.heap.objs.size,_) (by simp)
      ·obtain rfl:=F4.mp hp
       exact⟨a7,pk.2.1,nL _ ⋯,nF _ ⋯,B _ _⟩
 ·rintro keys C ⟨L,D,e,O,sm,hk,S,U⟩
  have ez:keys.toList.zip vs=(D.zip es).map λG=>(Value.ref G.1,Value.ref G.2.2.1):=by
   apply List.ext_getElem
   ·simp[hk];omega
   ·intro i i1 i2
    have h1:i<vs.length:=by rw[q0N]at i1;omega
    obtain⟨d,T,hx⟩:=hit i vs[i] (FZ h1);obtain⟨h3,h4⟩:=F0.mp T;simp only[List.getElem_zip,List.getElem_map,hk,hx,h4]
  have tup:∀G,G∈D.zip es->TS.TupI C.heap (Value.ref G.1) (g G.2.2.2,G.2.2.2):=λG a5=>by
   obtain⟨i,hi,e⟩:=List.mem_iff_getElem.mp a5;rw[List.getElem_zip]at e;have h1:i<D.length:=by rw[q0N]at hi;omega
   have h2:i<es.length:=by rw[q0N]at hi;omega
   have q1:=U i D[i] es[i] (FZ h1) (FZ h2);subst e;exact O.pair (x:=.ref D[i]) ⟨D[i],es[i].2.1,rfl,jv.of q1,sm.seq (hes _ (F_ h2)).1⟩ rfl
  have all:∀v,v∈keys.toList->∃k,TS.TupI C.heap v k:=λv hv=>by
   rw[hk]at hv;obtain⟨t,Z,rfl⟩:=GM.mp hv;obtain⟨i,hi,e⟩:=List.mem_iff_getElem.mp Z;refine⟨_,tup (D[i],es[i]'⋯) ?_ |> λz=>by rw[<- e];exact z⟩;refine List.mem_iff_getElem.mpr ⟨i,by rw[q0N];omega,by rw[List.getElem_zip]⟩
  refine⟨tuples' true,TS.rk TS.ordI (TS.keyI C.heap) (keys.zip vs.toArray).toList,λh2 Q hq=>?_,λ_=>TS.cmp_I (by have:=hr.un;show X.A.units+1+1<cLine;omega) λp hp=>all p.1 ?_,λps p1 p2=>?_⟩
  ·have:=TS.kind_I (prog:=X.prog) (w:=X.w) (A:=X.A.in1.in1) (E:=X.xe) (vs:=keys.toList) all (by rw[hk,F3];omega) hq
   simpa using this
  ·rw[ksk_zip]at hp
   exact(List.of_mem_zip hp).1
  ·rw[ksk_zip]at p2
   have p3:=TS.ranks_out p1 p2;obtain⟨R,pm,rfl⟩:=qW p1 _ ez;have mm:∀t,t∈R->t∈D.zip es:=λt Z=>pm.mem_iff.mp Z;rw[List.pairwise_map]at p3;have p4:fm g (R.map (·.2)):=by
    unfold fm;rw[List.pairwise_map];refine(List.Pairwise.and_mem.mp p3).imp ?_;rintro x y ⟨hx,hy,hb⟩;rw[TS.keyI_eq (p:=(Value.ref x.1,Value.ref x.2.2.1)) (tup x (mm x hx)),TS.keyI_eq (p:=(Value.ref y.1,Value.ref y.2.2.1)) (tup y (mm y hy))]at hb;exact hb
   have p5:(R.map (·.2)).Perm es:=(pm.map _).trans (by rw[List.map_snd_zip ⋯]);have qq:=q _ p5 p4;have a0:(((R.map (·.2))).map xc).length<=sizeLine:=by rw[F3,p5.length_eq];exact hz
   have vo:aQ ((R.map (·.2)).map xc) (R.map λG=>Value.ref G.2.2.1):=by
    clear p3 p4 p5 qq a0 mm pm p1 p2
    induction R with
    |nil=>exact .nil
    |cons t m ih=>exact .cons rfl ih
   have eo:List.map (λx=>x.2) (List.map (λG:Addr×VE=>(Value.ref G.1,Value.ref G.2.2.1)) R)=R.map λG=>Value.ref G.2.2.1:=by rw[Gf];rfl
   rw[eo];generalize(R.map λG=>Value.ref G.2.2.1)=out at vo ⊢;generalize(R.map (·.2)).map xc=zv at vo qq a0;clear p3 p4 p5 pm mm p2 p1 eo;have p0:=O.pin (s.heap.objs.size,seqObj "list" #[] e1) (by simp);have pk:=O.pin (M,seqObj "list" keys e) (by simp);have Ia:Inv X pins σ L C:=O.pins_of (Y O);have Ib:=Ia.turned (t':=C.toks) (h':=C.heap.update M (Obj.mapSeq λ_=>(#[]:Array Value))) (λb o hb e=>(Heap.get?_update_ne _ _ _ _ hb).trans e) pk.2.1 (nL _ ⋯) (.inr ⋯) (nC _ ⋯) (nP _ ⋯);have ga:(C.heap.update M (Obj.mapSeq λ_=>(#[]:Array Value))).get? s.heap.objs.size=some (seqObj "list" #[] e1):=(Heap.get?_update_ne _ _ _ _ (λz=>by have z2:(s.heap.objs.size:Nat)=s.heap.objs.size+1+1:=Eq.trans z a4;omega)).trans p0.1;have Ic:=Ib.adopt (t':=C.toks) (a:=s.heap.objs.size) (o:=.lst zv) (h':=TS.keyEnd C.heap s.heap.objs.size M out.toArray) (λb u hb e=>(Heap.get?_update_ne _ _ _ _ hb).trans e) p0.2.1 (nL _ (Gq _)) nS (nC _ (Gq _)) (nP _ (Gq _))
    (show bB X.prog X.w _ _ _ (.lst zv) from⟨a0,out,_,vo,get?_update_seq ga _⟩)
   exact⟨.ref s.heap.objs.size,_,Ic,rfl,qq _ _ (bG sm a1) a1 af⟩
end
def om(K:GX)(P:List Str->Prop)(g:List Str->Int)(t:TA):TE:=λσ H Q=>t σ H λxs H1=>∃(p a:Addr) (es:List VE),xs=[.ref p]/\H1 p=some (qP p a)/\H1 a=some (.dK (es.map DV))/\(∀e,e∈es->aT K H1 e.2.1 (e.2.2.map V.str)/\P e.2.2) /\
 ∀zs:List VE,zs.Perm es->fm g zs->∀(H':Hp) (l:Addr),aA H1 H'->H1 l=none->H' l=some (.lst (zs.map xc))->Q (.ref l) H'
section
variable {X:Cx}{e:Expr}{t:TA}{p fp pos kpos:Pos}{k:Nat}{fx:Str}{ps:G6}{sp:Sp}{P:List Str->Prop}{g:List Str->Int}
theorem vm(hr:cw (k+2) X.A)(hc:X.calm=true)(hg:Gl X "sorted")(hm:X.mg "sorted"=none)(C:eX X.prog X.w X.K X.mg X.base bx k fx ps sp)(hgf:Gl X fx)
  (hsp:∀l ss H Q E,aT X.K H l (ss.map V.str)->P ss->(∀t,H t=none->Q (.ref t) (aB H t (.tup [.int (g ss),.ref l])))->sp [.ref l] H Q E) (ha:PA X [e] t) (hdb:autoParam ((fx==("__debug__":Str))=false) zz3._auto_1)
  (he:autoParam (backTo pos (starEach [e] X.env)=(false,eval e X.env)::backTo pos (starEach [] X.env)) zz0._auto_1) (hpl:autoParam ((backTo pos (starEach [e] X.env)).any (·.1)=false) zz0._auto_1)
  (hall:autoParam ((backToKw pos (keywordEach [⟨some "key",.Name fx fp,kpos⟩] X.env)).all (·.1.isSome)=true) zz0._auto_1) (hkw:autoParam ((backToKw pos (keywordEach [⟨some "key",.Name fx fp,kpos⟩] X.env)).any (·.1.isNone)=false) zz0._auto_1)
  (hks:autoParam ((backToKw pos (keywordEach [⟨some "key",.Name fx fp,kpos⟩] X.env)).filterMap (·.1)=[Str.ofString "key"]) zz0._auto_1) :
  PE X (.Call (.Name "sorted" p) [e] [⟨some "key",.Name fx fp,kpos⟩] pos) (om X.K P g t):=by
 obtain⟨f,fd,F,G,hkf,L⟩:=C.ex;intro c s σ H Q I h;have hb:bootBuiltins "sorted"=some (.builtin "sorted"):=by decide +kernel
 refine wpAny_Call_Name_kw (dS I hg hm hb ?_);refine callWith_kw (bH (ha pos c s σ H _ I h) λus Y ⟨vs,H1,I1,r,q⟩=>?_) he hpl hall hkw;have hk:PK X [⟨some "key",.Name fx fp,kpos⟩] (jS (tC (.ref f)) l9):=zC (cI hgf G rfl hdb) BE;refine bH (hk pos c Y σ H1 (λR H2=>R=[.ref f]/\H2=H1) I1 ⟨rfl,rfl⟩) λws s2 ⟨R,H2,B,Z,ez,eh⟩=>?_;subst ez eh;rw[hks];obtain⟨S,a,y,rfl,hp,O,J,q3⟩:=q;obtain⟨u,rfl,ru⟩:=r.one;cases ru;obtain⟨u2,rfl,D⟩:=Z.one;cases D;show wpAny _ _ (call (.builtin "sorted") [.ref S] [(Str.ofString "key",.ref f)]) _ _ _;refine TS.sorted_key ?_;obtain⟨z,hd,vs,m,dd⟩:=mQ B.hok O;obtain⟨ep,da⟩:=dd.dictAt;obtain⟨hv,_⟩:=B.hok _ _ hp;have n:vs.length=y.length:=by rw[<- m.length,F3]
 have hz:y.length<=sizeLine:=by rw[F3]at z;exact z
 refine TS.collect_src (PySem.W.kdl_values (knd:=br X.prog X.w) (r:=S) (d:=a) (kvs:=vs) (ep:=ep)) (B.ok.hd hc) ⟨hv,da⟩ ⋯ λh' U acc' kp j=>?_;have I3:=B.kept (t':=U) kp;refine zd F L hr hsp I3 (by rw[Array.length_toList,j.1,n]) hz (λi x hx=>?_) J q3;obtain⟨kk,o⟩:=j.2 i x (by simpa using hx);have T:i<y.length:=by have:=(F0.mp o).1;omega
 refine⟨y[i],FZ T,?_⟩;have:=lV m (i:=i) (a:=DV y[i]) (by rw[F5,FZ T];rfl);obtain⟨b,v,_,M⟩:=this;rw[o]at v;cases v;exact M
end
theorem jQ{β:Type}{g:TG}{ti:TT}{te:TE}{σ:St}{H:Hp}{Q:List V->Hp->Prop}{n:Nat}{emb:β->V}(B:β->Prop)(S:St->Prop)(h0:S σ)(hn:n<=1000000)
  (hs:∀i,i<n->∀σ H' (N1:V->St->Hp->Prop) (N0:St->Hp->Prop),S σ->aA H H'->(∀y σ2 H2,B y->aA H H2->S σ2->N1 (emb y) σ2 H2) ->
   g (.int (0+(i:Int))) σ H' λσ2 H3=>ti σ2 H3 λb H4=>if b=true then te σ2 H4 λv H5=>N1 v σ2 H5 else N0 σ2 H4)
  (he:∀(ys:List β) H',ys.length=n->(∀y∈ys,B y)->aA H H'->Q (ys.map emb) H'):gq (vk 0 n) g ti te σ H Q:=by
 refine il (lo:=0) (n:=n) (λi a σ H'=>aA H H'/\(∃ys:List β,a=ys.map emb/\ys.length=i/\∀y∈ys,B y)/\i<=n/\S σ) ⟨λ_ _ e=>e,⟨[],rfl,rfl,λy j=>nomatch j⟩,Gr _,h0⟩ ?_ ?_ ?_ ?_
 ·rintro i a σ H' ⟨_,⟨ys,rfl,c,_⟩,k,_⟩
  rw[F3];exact aY ⋯
 ·rintro i a σ H' ⟨_,_,h,_⟩
  exact h
 ·rintro i a σ H' k ⟨d,⟨ys,rfl,c,l⟩,_,o⟩
  refine hs i k σ H' (λv σ2 H5=>_) (λσ2 H4=>_) o d (λy σ2 H2 j s2 hS2=>⟨s2,⟨ys++[y],by rw[Gc];rfl,by rw[Gp];exact q0R (· + 1) c,λz m=>?_⟩,k,hS2⟩);rcases Gd.mp m with h | h
  ·exact l z h
  ·rw[F4.mp h];exact j
 ·rintro a σ H' ⟨d,⟨ys,rfl,c,l⟩,_⟩
  exact he _ _ c l d
section
variable {X:Cx}{pins:GY}{σ:List (Option V)}{H:Hp}{s:G0}
theorem Inv.thaw(I:Inv X pins σ H s){d:Addr}{o:Obj}{kvs:List (List b9×V)}(hd:H d=some (.frz o (.dT kvs)))(h0:∀o u,X.H₀ d≠some (.frz o u)):Inv X pins σ (aB H d (.dT kvs)) s:=by
 have C:∀{b:Addr} {u:HO},H b=some u->(∀o u',u≠.frz o u')->b≠d:=fun{b u} e h z=>by subst z;rw[hd]at e;cases e;exact h _ _ rfl
 have a:∀{b:Addr} {u:HO},H b=some u->(∀o u',u≠.frz o u')->aB H d (.dT kvs) b=some u:=λe h=>by rw[ai (C e h)];exact e
 have i:∀{b:Addr},H b=none->aB H d (.dT kvs) b=none:=fun{b} e=>by rw[ai (λz=>by rw[z,hd]at e;cases e)];exact e
 have hok:gU X.prog X.w (aB H d (.dT kvs)) s.heap:=λb u e=>by
  by_cases v:b=d
  ·subst v
   rw[af]at e;cases e;obtain⟨_,q⟩:=I.hok b _ hd;exact bB.stay q (λ_ _ _ z=>z) (λc z=>a z (by intro _ _ y;cases y)) (λc j z=>a z (by intro _ _ y;cases y))
  ·rw[ai v]at e
   exact(I.hok b u e).stay (λ_ _ _ z=>z) (λc z=>a z (by intro _ _ y;cases y)) (λc j z=>a z (by intro _ _ y;cases y))
 refine⟨I.ok,I.os,I.bare,⟨λb o e n k g=>I.base.keep b o e n k g,λb o e n k g=>I.base.slot b o e n k g,λb o e n g=>i (I.base.free b o e n g),λb o e g=>I.base.there b o e g,λb j e=>a (I.base.tups b j e) (by intro _ _ z;cases z),λb r u e=>?_,λb B e=>?_⟩,I.loc,I.cell,i I.free,λx c h=>i (I.freeC x c h),λp D=>?_,hok,I.len⟩
 ·have l:=I.base.frzs b r u e
  rw[ai (λz=>h0 r u (by rw[<- z];exact e))];exact l
 ·obtain⟨m,l⟩:=I.base.tbls b B e
  exact⟨m,a l (by intro _ _ z;cases z)⟩
 ·obtain⟨h1,h2,L,J,G⟩:=I.pin p D
  exact⟨h1,i h2,L,J,G⟩
def v9(H0:Hp)(t:TS):TS:=λD σ H=>t {D with nx:=λσ' H'=>∃d o kvs,H' d=some (.frz o (.dT kvs))/\(∀o u,H0 d≠some (.frz o u))/\D.nx σ' (aB H' d (.dT kvs))} σ H
theorem yK{st:Stmt}{t:TS}(h:PS X st t):PS X st (v9 X.H₀ t):=by
 intro a s σ H D I q;refine bH (h a s σ H _ I q) λf s' b=>?_;cases f with
 |next=>
  obtain⟨σ',H',i,d,o,kvs,e,g,c⟩:=b;exact⟨σ',_,i.thaw e g,c⟩
 |brk=>exact b
 |cont=>exact b
 |ret u=>exact b
def pQ:V->List V->Hp->VK->Prop:=λx xs H Q=>∃d kvs,x=.ref d/\xs=[]/\H d=some (.dT kvs)/\Q .non (aB H d (.dT []))
theorem qj{prog:G5}{w:G8}(d:Addr) :
  MeetsIn prog w (Builtin.«dict.clear» ⟨[.ref d],[]⟩) (λ_ R s=>∃o es ep,s.heap.get? d=some o/\o.ExactDict/\o.data=.dict es ep/\es.size<=sizeLine /\
   ∀h' o',h'.get? d=some o'->o'.ExactDict->o'.data=.dict #[] (ep+1)->Heap.SameBut d s.heap h'->R (.ok (.ret .none)) {s with heap:=h' }):=
 .of_wp λA R s ⟨o,es,ep,ho,hc,hdat,hes,h⟩=>by
  unfold Builtin.«dict.clear»;refine q04 ?_;unfold Builtin.Dict.noArgs;refine q04 (wpAny_notOrdered_dict ⟨o,ho,hc.1⟩ ?_);show wpAny _ _ (pure d) _ _ s;refine q05 ?_;refine q04 (wpAny_dictEntries ho hdat ?_);refine q04 ?_;unfold bearsInstanceDictMark;refine q04 (wpAny_load ho (q05 ?_));refine q04 (wpAny_updateDictKeys (hz:=hes) ho hdat ?_);have e1:(s.heap.update d (Obj.mapDictKeys λ_=>#[])).get? d=some _:=Ga _ ho (Obj.isFreed_of_dict (Obj.data_mapDictKeys hdat _))
  split
  ·exact q04 (wpAny_letGo (q05 ⟨.none,rfl,h _ _ e1 (hc.mapDictKeys _) (Obj.data_mapDictKeys hdat _) (Heap.SameBut.update ..)⟩))
  ·exact q04 (q05 (q05 ⟨.none,rfl,h _ _ e1 (hc.mapDictKeys _) (Obj.data_mapDictKeys hdat _) (Heap.SameBut.update ..)⟩))
theorem v3:D0 X "dict.clear" pQ:=by
 intro pins s σ H x vs v us Q I rx rv h;obtain⟨d,kvs,rfl,rfl,l,q⟩:=h;cases rx;have g:=rv.zero;subst g;obtain⟨z,B,xs,c,o,b,m,j,k,a,i,hnd⟩:=I.hok d _ l;have y:b.size<=sizeLine:=by
  have h1:=q0R List.length i;rw[F3]at h1;have h2:=c.length;have:b.toList.length=b.size:=by simp
  omega
 refine call_meetsIn F.slot_dict_clear ⟨o,j,k.1⟩ F.entry_dict_clear (F.args_dict_clear_1 _) (qj d) ⟨o,b,m,j,k,a,y,λh' r n G D p=>?_⟩;refine⟨.non,aB H d (.dT []),I.write (x:=d) (e:=d) (by rw[l];exact trivial) (.inl rfl) (λJ u C w=>by rw[p.2 J C];exact w) ⟨_,n⟩ ?_,rfl,q⟩;exact⟨Gr _,B,[],.nil,r,#[],m+1,n,G,D,rfl,List.nodup_nil⟩
end
end L2
namespace Win
abbrev Wn:=List Int
def wn(t l b r:Nat):Wn:=[(t:Int),(l:Int),(b:Int),(r:Int)]
def W4(t l b n:Nat):List Wn:=(List.range n).map λk=>wn t l b (l+1+k)
def W3(c t l n:Nat):List Wn:=(List.range n).flatMap λk=>W4 t l (t+1+k) (c-l)
def W2(r c t n:Nat):List Wn:=(List.range n).flatMap λl=>W3 c t l (r-t)
def W1(r c n:Nat):List Wn:=(List.range n).flatMap λt=>W2 r c t c
def ic(r c:Nat):List Wn:=W1 r c r
theorem zK(t l b n:Nat):W4 t l b (n+1)=W4 t l b n++[wn t l b (l+1+n)]:=by unfold W4;rw[q0M,Gc];rfl
theorem zb(c t l n:Nat):W3 c t l (n+1)=W3 c t l n++W4 t l (t+1+n) (c-l):=by unfold W3;rw[q0M,List.flatMap_append];simp
theorem yN(r c t n:Nat):W2 r c t (n+1)=W2 r c t n++W3 c t n (r-t):=by unfold W2;rw[q0M,List.flatMap_append];simp
theorem zc(r c n:Nat):W1 r c (n+1)=W1 r c n++W2 r c n c:=by unfold W1;rw[q0M,List.flatMap_append];simp
def lt:Wn->Wn->Bool
 | [],[]=>false
 | [],_::_=>true
 |_::_,[]=>false
 |x::xs,y::ys=>if x=y then lt xs ys else decide (x<y)
def good(r c:Nat):Wn->Bool
 | [t,l,b,x]=>decide (0<=t)&&decide (t<b)&&decide (b<=(r:Int))&&decide (0<=l)&&decide (l<x)&&decide (x<=(c:Int))
 |_=>false
def xS:Wn->List Wn->Bool
 |_,[]=>true
 |a,w::ws=>lt a w&&xS w ws
def check(r c:Nat):Bool:=(ic r c).all (good r c)&&xS [-1,0,0,0] (ic r c)&&((ic r c).length==r*(r+1)/2*(c*(c+1)/2))&&decide ((ic r c).length<=1000)
theorem vg:((List.range 6).all λr=>(List.range 6).all λc=>check (r+1) (c+1))=true:=by decide +kernel
theorem zW{r c:Nat}(hr0:0<r)(hr:r<=6)(hc0:0<c)(hc:c<=6):check r c=true:=by
 have h:=GN.mp vg (r-1) (List.mem_range.mpr ⋯);have h2:=GN.mp h (c-1) (List.mem_range.mpr ⋯);have b:r-1+1=r:=by omega
 have a:c-1+1=c:=by omega
 rw[b,a]at h2;exact h2
def cut(p:List (List Nat))(t l b x:Nat):List (List Nat):=((p.drop t).take (b-t)).map λrow=>(row.drop l).take (x-l)
end Win
namespace SnM
open PySem L2 aD QL Win
def bp(p:aD):Prop:=∀row∈p,47∉row
theorem vC{p:aD}(h:bp p):bp (mirror p):=by
 intro row hr;obtain⟨x,a,rfl⟩:=GM.mp hr;rw[List.mem_reverse];exact h x a
theorem tu{p:aD}{r c:Nat}(hp:rect p r c)(hr:0<r)(h:bp p):bp (aP p):=by
 intro row a;unfold aP at a;rw[aW hp hr]at a;obtain⟨i,g,rfl⟩:=GM.mp a;have g:=List.mem_range.mp g;intro d;obtain⟨x,j,e⟩:=GM.mp d;have b:=List.mem_reverse.mp j;have hl:=hp.2 x b;rw[q0A,FZ ⋯,q0L]at e;exact h x b (e▸F_ _)
theorem gO:∀(n:Nat) {p:aD} {r c:Nat},rect p r c->0<r->0<c->bp p->bp (aK n p)
 |0,_,_,_,_,_,_,h=>h
 |n+1,p,r,c,hp,hr,hc,h=>by
  have e:aK (n+1) p=aP (aK n p):=(bX 1 n p).symm;rw[e];have hq:=cr n hp hr hc;refine tu hq ?_ (gO n hp hr hc h)
  split<;>assumption
theorem vX{p:aD}{r c:Nat}(hp:rect p r c)(hr:0<r)(hc:0<c)(h:bp p)(t:Nat):bp (turned p t):=by
 unfold turned
 split
 ·exact gO _ (bC hp) hr hc (vC h)
 ·exact gO _ hp hr hc h
theorem AZ{p:aD}{t l b x:Nat}(h:bp p):bp (cut p t l b x):=by
 intro row hr;obtain⟨y,c,rfl⟩:=GM.mp hr;exact λa=>h y (q0I (q0H c)) (q0I (q0H a))
theorem bP{p:aD}{r c t l b x:Nat}(hp:rect p r c)(h1:t<b)(h2:b<=r)(h3:l<x)(h4:x<=c):rect (cut p t l b x) (b-t) (x-l):=by
 refine⟨?_,λrow hr=>?_⟩
 ·unfold cut;rw[F3,GG,GH,hp.1];omega
 ·obtain⟨y,a,rfl⟩:=GM.mp hr
  have:=hp.2 y (q0I (q0H a));rw[GG,GH];omega
theorem lU{r c:Nat}{w:Wn}:w∈ic r c↔∃t l b x:Nat,w=wn t l b x/\t<b/\b<=r/\l<x/\x<=c:=by
 unfold ic W1 W2 W3 W4;simp only[List.mem_flatMap,GM,List.mem_range]
 constructor
 ·rintro⟨t,ht,l,hl,k,hk,m,hm,rfl⟩
  exact⟨t,l,t+1+k,l+1+m,rfl,⋯,⋯,⋯,⋯⟩
 ·rintro⟨t,l,b,x,rfl,h1,h2,h3,h4⟩
  exact⟨t,⋯,l,⋯,b-t-1,⋯,x-l-1,⋯,by rw[show t+1+(b-t-1)=b by omega,show l+1+(x-l-1)=x by omega]⟩
def ze(p:aD)(w:Wn):aD:=cut p (w.getD 0 0).toNat (w.getD 1 0).toNat (w.getD 2 0).toNat (w.getD 3 0).toNat
theorem ky(p:aD)(t l b x:Nat):ze p (wn t l b x)=cut p t l b x:=rfl
def bh(p:aD)(r c:Nat)(q:aD):Prop:=∃t l b x u:Nat,t<b/\b<=r/\l<x/\x<=c/\u<8/\q=turned (cut p t l b x) u
theorem u4{p q:aD}{r c:Nat}:bh p r c q↔∃i,i<(ic r c).length/\∃u,u<8/\q=turned (ze p ((ic r c).getD i [])) u:=by
 constructor
 ·rintro⟨t,l,b,x,u,h1,h2,g,d,k,rfl⟩
  obtain⟨i,a,e⟩:=List.mem_iff_getElem.mp (lU.mpr ⟨t,l,b,x,rfl,h1,h2,g,d⟩);refine⟨i,a,u,k,?_⟩;rw[q0A,FZ a,q0L,e,ky]
 ·rintro⟨i,a,u,j,rfl⟩
  obtain⟨t,l,b,x,e,h1,h2,g,d⟩:=lU.mp (F_ a);refine⟨t,l,b,x,u,h1,h2,g,d,j,?_⟩;rw[q0A,FZ a,q0L,e,ky]
theorem uK{p:aD}{r c:Nat}(hp:rect p r c)(hn:bp p){t l b x u:Nat}(h1:t<b)(h2:b<=r)(h3:l<x)(h4:x<=c) :
  turned (cut p t l b x) u≠[]/\bp (turned (cut p t l b x) u)/\∃r' c',rect (turned (cut p t l b x) u) r' c'/\0<r'/\0<c'/\r'<=max r c/\c'<=max r c:=by
 have d:=bP hp h1 h2 h3 h4;have a:=cS d ⋯ ⋯ u;refine⟨λe=>?_,vX d ⋯ ⋯ (AZ hn) u,_,_,a,by split<;>omega,by split<;>omega,by split<;>omega,by split<;>omega⟩;have:=a.1;rw[e]at this;simp at this
 split at this<;>omega
abbrev AP:=Addr×aD
def AO(z:AP):VE:=(.inr (tx (SpM.glue 47 z.2)),z.1,z.2.map tx)
abbrev g7(z:AP):b9×V:=DV (AO z)
def jC(zs:List AP)(z:AP):List AP:=if(zs.any λz0=>decide (z0.2=z.2))=true then zs.map (λz0=>if z0.2=z.2 then z else z0) else zs++[z]
theorem gg{a b:GZ}(h:tx a=tx b):a=b:=by rw[<- c_ a,<- c_ b,h]
theorem xC{zs:List AP}{z:AP}(inj:∀z0∈zs,SpM.glue 47 z0.2=SpM.glue 47 z.2->z0.2=z.2):cM (zs.map g7) (.inr (tx (SpM.glue 47 z.2))) (.ref z.1)=(jC zs z).map g7:=by
 have b:∀z0∈zs,((g7 z0).1=Sum.inr (tx (SpM.glue 47 z.2))↔z0.2=z.2):=λz0 c=>⟨λe=>inj z0 c (gg (Sum.inr.inj e)),λe=>by show Sum.inr (tx (SpM.glue 47 z0.2))=_;rw[e]⟩;unfold cM jC;have i:((zs.map g7).any λg=>decide (g.1=Sum.inr (tx (SpM.glue 47 z.2))))=zs.any λz0=>decide (z0.2=z.2):=by
  rw[List.any_map];clear inj
  induction zs with
  |nil=>rfl
  |cons a l ih=>
   rw[List.any_cons,List.any_cons,ih λz0 c=>b z0 (Gh _ c)]
   congr 1
   exact decide_eq_decide.mpr (b a (q0B ..))
 rw[i]
 split
 ·rw[Gf,Gf]
  refine q0K λz0 c=>?_;show(if(g7 z0).1=Sum.inr (tx (SpM.glue 47 z.2)) then((g7 z0).1,V.ref z.1) else g7 z0)=g7 (if z0.2=z.2 then z else z0)
  by_cases h:z0.2=z.2
  ·have d:=(b z0 c).mpr h
   rw[q07 d,q07 h,d]
   rfl
  ·rw[q06 λq=>h ((b z0 c).mp q),q06 h]
 ·rw[Gc];rfl
structure dY(H H':Hp)(d:Addr)(dn:aD->Prop)(zs:List AP)(n:Nat):Prop where
 tbl:H' d=some (.dK (zs.map g7))
 sm:aA H H'
 hd:H d=none
 each:∀z∈zs,H z.1=none/\H' z.1=some (.lst (aq z.2))/\z.2≠[]/\bp z.2/\(z.2.headD []).length<=64
 nda:(zs.map (·.1)).Nodup
 ndp:(zs.map (·.2)).Nodup
 mem:∀q,q∈zs.map (·.2)↔dn q
 len:zs.length<=n
theorem dY.step{H H1 H2:Hp}{d b:Addr}{dn:aD->Prop}{zs:List AP}{q:aD}{n:Nat}(S:dY H H1 d dn zs n)(sm:aA H1 H2)(hb:H1 b=none)(hb2:H2 b=some (.lst (aq q)))(hq:q≠[])(ns:bp q)(hl:(q.headD []).length<=64) :
  cM (zs.map g7) (.inr (tx (SpM.glue 47 q))) (.ref b)=(jC zs (b,q)).map g7/\dY H (aB H2 d (.dK ((jC zs (b,q)).map g7))) d (λx=>dn x\/x=q) (jC zs (b,q)) (n+1):=by
 refine⟨xC (z:=(b,q)) λz0 h0 e=>SpM.glue_inj 47 (S.each z0 h0).2.2.1 hq (S.each z0 h0).2.2.2.1 ns e,?_⟩;have nbd:b≠d:=λe=>by rw[e,S.tbl]at hb;cases hb
 have nzd:∀z∈zs,z.1≠d:=λz hz=>mK (S.each z hz).2.1 S.tbl (by intro e;cases e);have nzb:∀z∈zs,z.1≠b:=λz hz=>ax (S.each z hz).2.1 hb;have old:∀z∈zs,H z.1=none/\aB H2 d (.dK ((jC zs (b,q)).map g7)) z.1=some (.lst (aq z.2))/\z.2≠[]/\bp z.2/\(z.2.headD []).length<=64:=λz hz=>by
  obtain⟨h1,h2,h3⟩:=S.each z hz;exact⟨h1,by rw[ai (nzd z hz)];exact sm _ _ h2,h3⟩
 have new:H b=none/\aB H2 d (.dK ((jC zs (b,q)).map g7)) b=some (.lst (aq q))/\q≠[]/\bp q/\(q.headD []).length<=64:=⟨S.sm.free hb,by rw[ai nbd];exact hb2,hq,ns,hl⟩
 by_cases h:(zs.any λz0=>decide (z0.2=q))=true
 ·have e:jC zs (b,q)=zs.map λz0=>if z0.2=q then(b,q) else z0:=by unfold jC;rw[q07 h]
  have e2:((jC zs (b,q)).map (·.2))=zs.map (·.2):=by
   rw[e,Gf];refine q0K λz0 _=>?_;show(if z0.2=q then(b,q) else z0).2=z0.2
   split
   ·rename_i hz;exact hz.symm
   ·rfl
  obtain⟨z1,hz1,hz2⟩:=List.any_eq_true.mp h;have hz2:=of_decide_eq_true hz2;refine⟨af,bG (S.sm.trans sm) S.hd,S.hd,?_,?_,by rw[e2];exact S.ndp,λx=>?_,by rw[e,F3];exact Nat.le_succ_of_le S.len⟩
  ·intro z hz
   have hz':=hz;rw[e]at hz';obtain⟨z0,h0,ez⟩:=GM.mp hz'
   split at ez
   ·rw[<- ez];exact new
   ·rw[<- ez];exact old z0 h0
  ·rw[e,Gf,List.Nodup,List.pairwise_map]
   have h1:=S.nda;have h2:=S.ndp;rw[List.Nodup,List.pairwise_map]at h1 h2;refine(List.Pairwise.and_mem.mp (h1.and h2)).imp ?_;rintro x y ⟨hx,hy,n1,n2⟩;show(if x.2=q then(b,q) else x).1≠(if y.2=q then(b,q) else y).1
   by_cases c1:x.2=q
   ·rw[q07 c1,q06 λc2=>n2 (c1.trans c2.symm)]
    exact(nzb y hy).symm
   ·rw[q06 c1]
    by_cases c2:y.2=q
    ·rw[q07 c2];exact nzb x hx
    ·rw[q06 c2];exact n1
  ·rw[e2,S.mem]
   refine⟨.inl,λz=>z.elim id λz=>?_⟩;rw[<- S.mem,z];exact GM.mpr ⟨z1,hz1,hz2⟩
 ·have e:jC zs (b,q)=zs++[(b,q)]:=by unfold jC;rw[q06 h]
  refine⟨af,bG (S.sm.trans sm) S.hd,S.hd,?_,?_,?_,λx=>?_,by rw[e,Gp];exact Nat.succ_le_succ S.len⟩
  ·intro z hz
   have hz':=hz;rw[e]at hz';rcases Gd.mp hz' with hz' | hz'
   ·exact old z hz'
   ·rw[F4.mp hz'];exact new
  ·rw[e,Gc,List.nodup_append]
   refine⟨S.nda,by simp,λa ha c hc=>?_⟩;obtain⟨z,hz,rfl⟩:=GM.mp ha;have:c=b:=by simpa using hc
   rw[this];exact nzb z hz
  ·rw[e,Gc,List.nodup_append]
   refine⟨S.ndp,by simp,λa ha c hc=>?_⟩;obtain⟨z,hz,rfl⟩:=GM.mp ha;have:c=q:=by simpa using hc
   rw[this];exact λhz2=>h (List.any_eq_true.mpr ⟨z,hz,q09 hz2⟩)
  ·rw[e,Gc,Gd,S.mem]
   simp
theorem dY.congr{H H':Hp}{d:Addr}{dn dn':aD->Prop}{zs:List AP}{n:Nat}(S:dY H H' d dn zs n)(h:∀q,dn q↔dn' q):dY H H' d dn' zs n:=⟨S.tbl,S.sm,S.hd,S.each,S.nda,S.ndp,λq=>(S.mem q).trans (h q),S.len⟩
theorem dY.same{H H' H2:Hp}{d:Addr}{dn:aD->Prop}{zs:List AP}{n:Nat}(S:dY H H' d dn zs n)(sm:aA H' H2):dY H H2 d dn zs n:=⟨sm _ _ S.tbl,S.sm.trans sm,S.hd,λz hz=>let ⟨h1,h2,h3⟩:=S.each z hz;⟨h1,sm _ _ h2,h3⟩,S.nda,S.ndp,S.mem,S.len⟩
def eY(ss:G6):Int:=(ss.length:Int)*((ss.headD ⟨#[]⟩).length:Int)
def aU(p:aD):Nat:=p.length*(p.headD []).length
def Ek(a b:aD):Prop:=aU a<aU b\/aU a=aU b/\a<b
def Cb(p:aD)(r c:Nat)(qs:List aD):Prop:=(∀q,q∈qs↔bh p r c q)/\qs.Pairwise Ek
theorem tS(p:aD):((p.map tx).headD ⟨#[]⟩).length=(p.headD []).length:=by
 cases p with
 |nil=>rfl
 |cons r p=>exact aG r
theorem vc(p:aD):eY (p.map tx)=(aU p:Int):=by
 unfold eY aU;rw[F3,tS];simp
theorem Ca(p:aD):TS.ks (p.map tx)=p:=by
 unfold TS.ks;rw[Gf];exact(q0K λr _=>c_ r).trans (List.map_id _)
theorem AF(p:aD):kI (eY (p.map tx),p.map tx)=((aU p:Int),p):=by
 show(eY (p.map tx),TS.ks (p.map tx))=_;rw[vc,Ca]
theorem uU{ws:List AP}(h:fm eY (ws.map AO))(nd:(ws.map (·.2)).Nodup):(ws.map (·.2)).Pairwise Ek:=by
 unfold fm at h;rw[List.pairwise_map]at h ⊢;rw[List.Nodup,List.pairwise_map]at nd;refine(h.and nd).imp ?_;rintro a b ⟨c,e⟩;have c:TS.ordI.blt (kI (eY (b.2.map tx),b.2.map tx)) (kI (eY (a.2.map tx),a.2.map tx))=false:=c;rw[AF,AF]at c;cases d:TS.ordI.blt ((aU a.2:Int),a.2) ((aU b.2:Int),b.2) with
 |true=>
  have:=of_decide_eq_true d;rcases this with h1 | ⟨h1,h2⟩
  ·exact .inl (Int.ofNat_lt.mp h1)
  ·exact .inr ⟨Int.ofNat.inj h1,h2⟩
 |false=>
  have:=TS.ordI.total _ _ d c;exact q0Q (q0R Prod.snd this) e
theorem ir{p:aD}{r c t l b x i j:Nat}(hp:rect p r c)(h2:b<=r)(h4:x<=c)(hi:i<b-t)(hj:j<x-l):v6 (cut p t l b x) i j=v6 p (t+i) (l+j):=by
 have h1:t+i<p.length:=by rw[hp.1];omega
 have h3:(p[t+i]).length=c:=hp.2 _ (F_ _);have a:(cut p t l b x).getD i []=((p.getD (t+i) []).drop l).take (x-l):=by
  unfold cut;simp only[q0A];rw[F5,List.getElem?_take_of_lt hi,List.getElem?_drop,FZ h1]
  rfl
 unfold v6;rw[a];simp only[q0A];rw[List.getElem?_take_of_lt hj,List.getElem?_drop]
theorem sv{p:aD}{r c t l b x:Nat}(hp:rect p r c)(h1:t<b)(h2:b<=r)(h3:l<x)(h4:x<=c):cut (mirror p) t l b x=mirror (cut p t (c-x) b (c-l)):=by
 have d:=bP hp h1 h2 (show c-x<c-l by omega) (show c-l<=c by omega);refine iR (bP (bC hp) h1 h2 h3 h4) (r:=b-t) (c:=x-l) ?_ λi j a e=>?_
 ·have:=bC d
  rwa [show c-l-(c-x)=x-l by omega]at this
 ·rw[ir (bC hp) h2 h4 a e,gR hp ⋯ ⋯,gR d a ⋯,ir hp h2 ⋯ a ⋯]
  congr 1
  omega
theorem q_{p:aD}{r c t l b x:Nat}(hp:rect p r c)(h1:t<b)(h2:b<=c)(h3:l<x)(h4:x<=r):cut (aP p) t l b x=aP (cut p (r-x) t (r-l) b):=by
 have e:=bP hp (show r-x<r-l by omega) (show r-l<=r by omega) h1 h2;have a:=aZ hp ⋯;refine iR (bP a h1 h2 h3 h4) (r:=b-t) (c:=x-l) ?_ λi j d g=>?_
 ·have:=aZ e ⋯
  rwa [show r-l-(r-x)=x-l by omega]at this
 ·rw[ir a h2 h4 d g,b8 hp ⋯ ⋯ ⋯,b8 e ⋯ d ⋯,ir hp ⋯ h2 ⋯ ⋯]
  congr 1
  omega
theorem gb:∀(n:Nat) {p:aD} {r c t l b x:Nat},rect p r c->t<b->b<=(if n%2=0 then r else c)->l<x->x<=(if n%2=0 then c else r)->∃t' l' b' x',t'<b'/\b'<=r/\l'<x'/\x'<=c/\cut (aK n p) t l b x=aK n (cut p t' l' b' x')
 |0,p,r,c,t,l,b,x,hp,h1,h2,h3,h4=>⟨t,l,b,x,h1,by simpa using h2,h3,by simpa using h4,rfl⟩
 |n+1,p,r,c,t,l,b,x,hp,h1,h2,h3,h4=>by
  have hr:0<r/\0<c:=by
   split at h2<;>split at h4<;>omega
  have e:∀q:aD,aK (n+1) q=aK n (aP q):=λq=>rfl;rw[e];obtain⟨t',l',b',x',g,d,k,j,i⟩:=gb n (aZ hp hr.1) (t:=t) (l:=l) (b:=b) (x:=x) h1 (by
   by_cases a:n%2=0
   ·rw[q06 ⋯]at h2;rw[q07 a];exact h2
   ·rw[q07 ⋯]at h2;rw[q06 a];exact h2) h3 (by
   by_cases a:n%2=0
   ·rw[q06 ⋯]at h4;rw[q07 a];exact h4
   ·rw[q07 ⋯]at h4;rw[q06 a];exact h4)
  refine⟨r-x',t',r-l',b',⋯,⋯,g,d,?_⟩;rw[i,q_ hp g d k j,e]
theorem rZ{p:aD}{r c t l b x u:Nat}(hp:rect p r c)(h1:t<b)(h2:b<=(if u%2=0 then r else c))(h3:l<x)(h4:x<=(if u%2=0 then c else r)):∃t' l' b' x',t'<b'/\b'<=r/\l'<x'/\x'<=c/\cut (turned p u) t l b x=turned (cut p t' l' b' x') u:=by
 have e:u%4%2=u%2:=by omega
 unfold turned
 by_cases h:4<=u
 ·rw[q07 h]
  obtain⟨t',l',b',x',d,a,j,i,g⟩:=gb (u%4) (bC hp) h1 (by rw[e];exact h2) h3 (by rw[e];exact h4);refine⟨t',c-x',b',c-l',d,a,⋯,⋯,?_⟩;rw[g,sv hp d a j i,q07 h]
 ·rw[q06 h]
  obtain⟨t',l',b',x',d,a,j,i,g⟩:=gb (u%4) hp h1 (by rw[e];exact h2) h3 (by rw[e];exact h4);refine⟨t',l',b',x',d,a,j,i,?_⟩;rw[g,q06 h]
theorem zD{p:aD}{r c t l b x t' l' b' x':Nat}(hp:rect p r c)(h1:t<b)(h2:b<=r)(h3:l<x)(h4:x<=c)(k1:t'<b')(k2:b'<=b-t)(k3:l'<x')(k4:x'<=x-l):cut (cut p t l b x) t' l' b' x'=cut p (t+t') (l+l') (t+b') (l+x'):=by
 have a:=bP hp h1 h2 h3 h4;have g:=bP hp (show t+t'<t+b' by omega) ⋯ (show l+l'<l+x' by omega) ⋯;refine iR (bP a k1 k2 k3 k4) (r:=b'-t') (c:=x'-l') ?_ λi j e d=>?_
 ·rwa [show t+b'-(t+t')=b'-t' by omega,show l+x'-(l+l')=x'-l' by omega]at g
 ·rw[ir a k2 k4 e d,ir hp h2 h4 ⋯ ⋯,ir hp ⋯ ⋯ ⋯ ⋯]
  congr 1<;>omega
theorem mX{p:aD}{r c n:Nat}(hp:rect p r c):p.take n=cut p 0 0 n c:=by
 unfold cut;rw[GV,Nat.sub_zero,Nat.sub_zero]
 conv=>lhs;rw[<- List.map_id (p.take n)]
 refine q0K λy a=>?_;rw[GV,q0F (by rw[hp.2 y (q0H a)];exact Gq _)];rfl
theorem mN{p:aD}{r c n:Nat}(hp:rect p r c):p.drop n=cut p n 0 r c:=by
 unfold cut;rw[Nat.sub_zero,q0F (by rw[GH,hp.1];exact Gq _)]
 conv=>lhs;rw[<- List.map_id (p.drop n)]
 refine q0K λy a=>?_;rw[GV,q0F (by rw[hp.2 y (q0I a)];exact Gq _)];rfl
theorem mL{p:aD}{r c n:Nat}(hp:rect p r c):(p.map λy=>y.take n)=cut p 0 0 r n:=by
 unfold cut;rw[GV,Nat.sub_zero,Nat.sub_zero,q0F (by rw[hp.1];exact Gq _)]
 rfl
theorem mS{p:aD}{r c n:Nat}(hp:rect p r c):(p.map λy=>y.drop n)=cut p 0 n r c:=by
 unfold cut;rw[GV,Nat.sub_zero,q0F (by rw[hp.1];exact Gq _)];refine q0K λy a=>?_;rw[q0F (by rw[GH,hp.2 y a];exact Gq _)]
theorem bh.rect{p q:aD}{r c:Nat}(hp:rect p r c)(h:bh p r c q):∃r' c',rect q r' c'/\0<r'/\0<c'/\r'<=max r c/\c'<=max r c:=by
 obtain⟨t,l,b,x,u,h1,h2,e,d,h5,rfl⟩:=h;have a:=bP hp h1 h2 e d;exact⟨_,_,cS a ⋯ ⋯ u,by split<;>omega,by split<;>omega,by split<;>omega,by split<;>omega⟩
theorem bh.ns{p q:aD}{r c:Nat}(hp:aD.rect p r c)(hn:bp p)(h:bh p r c q):bp q:=by
 obtain⟨t,l,b,x,u,h1,h2,d,a,h5,rfl⟩:=h;exact(uK hp hn h1 h2 d a).2.1
theorem bh.turned{p q:aD}{r c u:Nat}(hp:aD.rect p r c)(h:bh p r c q)(hu:u<8):bh p r c (aD.turned q u):=by
 obtain⟨t,l,b,x,v,h1,h2,e,d,a,rfl⟩:=h;have g:=bP hp h1 h2 e d;exact⟨t,l,b,x,after v u,h1,h2,e,d,fz a hu,bj g ⋯ ⋯ a hu⟩
theorem bh.cut{p q:aD}{r c r' c' t l b x:Nat}(hp:aD.rect p r c)(h:bh p r c q)(hq:aD.rect q r' c')(h1:t<b)(h2:b<=r')(h3:l<x)(h4:x<=c'):bh p r c (Win.cut q t l b x):=by
 obtain⟨a,d,o,e,v,k,j,i,g,I,rfl⟩:=h;have n:=bP hp k j i g;have m:=cS n ⋯ ⋯ v;have J:r'=if v%2=0 then o-a else e-d:=by rw[<- hq.1,m.1]
 have L:c'=if v%2=0 then e-d else o-a:=by
  rw[<- aW hq ⋯,aW m (by split<;>omega)]
 obtain⟨y,G,M,w,m1,D,C,B,z⟩:=rZ (u:=v) n h1 (by rw[<- J];exact h2) h3 (by rw[<- L];exact h4);rw[z,zD hp k j i g m1 D C B];exact⟨a+y,d+G,a+M,d+w,v,⋯,⋯,⋯,⋯,I,rfl⟩
end SnM
set_option maxHeartbeats 4000000
namespace Q20
open PySem L2 aD QL Win SnM
local macro_rules|`(tactic|walk_at "wp")=>do
 let f(s:String):Lean.MacroM _:=(s.splitOn ",").toArray.mapM λx=>let i:=Lean.mkIdent (x.splitOn "."|>.foldl .mkStr .anonymous);`(Lean.Parser.Tactic.simpLemma|$i:term)
 let g(s:String):Lean.MacroM _:=(s.splitOn ",").toArray.mapM λx=>let i:=Lean.mkIdent (x.splitOn "."|>.foldl .mkStr .anonymous);`(Lean.Parser.Tactic.simpLemma|↓$i:term)
 let c:="vB,tB,yj,uG,BN,zo,xy,ym,ut,Ag,tC,BZ,ur,BV,Bv,DP,wJ,wY,sO,pQ,pp,om,rP,Af,BJ,v7,oU,A5,yA,tM,rQ,v9,tL,AW,Be,ud,mT,ow,wL,sH,oP,wG,kC,xz,Bt,oZ,Bk,By,C6,jS,l9,k8,Dx,zN,BI,DO,Dz,Bz,DD,oh,wk,Bw,Br,Dc,DT,uc,pC,zZ,xx,yy,wZ,DH,AQ,BC,uz,wz,m6,yz,L2.start,Gx,List.map_nil,Gb,List.length_nil,List.replicate,List.cons_append,GQ,Nat.reduceAdd,Nat.reduceSub,List.getElem?_cons_zero,Gw,List.set_cons_zero,List.set_cons_succ,pX,Cx.blk,ou,zX,yk,wd,Cx.wish,Cx.nox,Dp,iI";let d<-f (c++",FA,EE,ER,EQ,EC,Ew,Fc,FI,yO,BL,yG,xm");let e<-f (c++",GB,Option.some.injEq,V.int.injEq,V.str.injEq,V.ref.injEq,V.bl.injEq,List.cons.injEq,and_true,true_and,exists_and_left,exists_eq_left',exists_eq_left,decide_eq_true_eq,Bool.not_eq_true',decide_eq_false_iff_not,zP,Option.join_some,Nat.succ_eq_add_one,Nat.zero_add,exists_const,and_assoc,exists_eq,exists_eq',Int.reducePow,Int.reduceNeg,Int.reduceLT,or_true,true_or,reduceCtorEq,Int.zero_add,Bool.false_eq_true,Bool.not_true,Bool.not_false,yt,Ak,t9,uv,yB,uT,yo,uN,rI");let h<-g "reduceIte,D6,DM,DX,D5,DQ,D8,Du,D4";let e:=e++h
 `(tactic|((try dsimp only[$d,*]);(try simp only[$e,*])))
set_option hygiene false in
local macro_rules|`(tactic|walk_at "nc")=>`(tactic|(clear h1;refine au λN1 h1=>?_;walk_at "wp"))
set_option hygiene false in
local macro_rules|`(tactic|walk_at "n")=>`(tactic|(refine au λN1 h1=>?_;walk_at "wp"))
set_option hygiene false in
local macro_rules|`(tactic|walk_at "oc")=>`(tactic|(clear h2;refine au λN2 h2=>?_;walk_at "wp"))
set_option hygiene false in
local macro_rules|`(tactic|walk_at "o")=>`(tactic|(refine au λN2 h2=>?_;walk_at "wp"))
set_option hygiene false in
local macro_rules|`(tactic|walk_at "f")=>`(tactic|refine F.ok sc (λvs H Q E h=>by cases h;subst_vars;rfl) (λcdv A outer s H vs Q E hr h=>?_))
set_option hygiene false in
local macro_rules|`(tactic|walk_at "c")=>`(tactic|exact⟨rfl,rfl,rfl,by decide +kernel,rfl,by decide +kernel,by decide +kernel⟩)
def gZ(i:Nat):Stmt:=PySem.Challenge.pw_quiltlaw_k20_cells_alone.main.body.getD i (.Pass ⟨0,0,0,0⟩)
def zE:Stmt->List Stmt
 | .ClassDef (body:=b) ..=>b
 |_=>[]
def o8(i j:Nat):Stmt:=(zE (gZ i)).getD j (.Pass ⟨0,0,0,0⟩)
section
variable {P:G5}{w:G8}{K:W.Frag}{mg:G3}{base:Heap}
abbrev Bm(z:Str)(c:Nat):Bool:=!(Builtin.Str.occurrences z ⟨#[c]⟩ 0 z.length 1).isEmpty
abbrev jA:Stmt:=gZ 29
def iV(r:GZ)(z:Str):Bool:=r.all (Bm z)
inductive fV(vs:List V)(H:Hp)(Q:VK)(_E:XK):Prop
 |mk (r:GZ) (z:Str) (_:vs=[.str (tx r),.str z]) (_:r.length<=100000) (_:∀H',aA H H'->Q (.bl (iV r z)) H')
theorem sR:aF ["text","letters"] ["text","letters"] (av jA):=by walk_at "c"
theorem Fm{r:GZ}{i c:Nat}(h:(tx r).cps[i]?=some c):r[i]?=some c:=by
 rw[<- h];show r[i]?=r.toArray[i]?;simp
theorem DI(r:GZ):(tx r).cps.size=r.length:=by show r.toArray.size=_;simp
theorem sW{f:Addr}{fd:G4}(F:dO K "only_of" "only_of" jA f fd)(nb:NB mg):bc P w K mg base bx 1 f fd ["text","letters"] fV:=by
 have sc:=sR;walk_at "f"
 ·obtain⟨r,z,rfl,hr',q⟩:=h
  refine⟨_,(ag (aO (aN (wv rfl) rfl nb.all BA (ac (cO ["sign"] [1] rfl (bM.of (by kernel_rfl)) (by kernel_rfl) (AJ (aw 0))
    (λ_ _ _ _=>(aE (i:=0) (by show(["sign","letters"]:List Str).Nodup;decide +kernel) rfl (Or.inl rfl))) (λ_ _ _ _=>cU) (λ_ _ _ _=>(pR nJ (aw 0) (aw 1) (by with_unfolding_all rfl)))) ad)))),?_⟩
  walk_at "wp";refine ye (x:=tx r) (λi a σ d=>d=H/\a=((r.take i).map (Bm z)).map V.bl/\i<=r.length/\∃x,σ=[x,some (.str z)]) ⟨rfl,rfl,Gr _,_,rfl⟩ ?_ ?_ ?_ ?_
  ·rintro i a σ d ⟨_,rfl,k,_⟩
   rw[F3,F3,GG];exact aY ⋯
  ·rintro i a σ d ⟨_,_,h,_⟩
   rw[DI];exact h
  ·rintro i c a σ d m ⟨rfl,rfl,k,y,rfl⟩
   have b:=Fm m;have g:=(F0.mp b).1;walk_at "wp";refine⟨?_,g⟩;rw[q0E,b];simp
  ·rintro a σ d ⟨rfl,rfl,_⟩ l j
   refine⟨_,aT.of af,?_⟩;rw[DI,GF];have e:(r.map (Bm z)).all id=iV r z:=by unfold iV;rw[List.all_map];rfl
   rw[e];exact q _ (ao j)
abbrev jB:Stmt:=gZ 30
abbrev BO:Str:="ABCDEFGHIJKLMNOPQRSTUVWXYZ"
def df(r:GZ):Bool:=decide (1<=r.length)&&decide (r.length<=4)&&iV r BO
inductive ii(vs:List V)(H:Hp)(Q:VK)(_E:XK):Prop
 |mk (r:GZ) (_:vs=[.str (tx r)]) (_:r.length<=100000) (_:∀H',aA H H'->Q (.bl (df r)) H')
theorem tN:aF ["text"] ["text"] (av jB):=by walk_at "c"
theorem rB{f:Addr}{fd:G4}{t1 t2:Tok}(F:dO K "is_name" "is_name" jB f fd)(nb:NB mg)(yaM:mg "LONGEST_NAME"=some (.int 4 t1))(yaD:mg "CAPITALS"=some (.str "ABCDEFGHIJKLMNOPQRSTUVWXYZ" t2))(yad:eX P w K mg base bx 1 "only_of" ["text","letters"] fV):bc P w K mg base bx 2 f fd ["text"] ii:=by
 have sc:=tN;walk_at "f"
 ·obtain⟨r,rfl,a,q⟩:=h
  refine⟨_,(ag (aO (nX (qr (bD.m0 qi) (bD.m0 qi) am (aN bY rfl nb.len cy (ac (aw 0) ad)) (cI (v:=.int 4) rfl yaM ⟨_,rfl⟩)) (sF (aH yad (hr.mono nofun) rfl aL (ac (aw 0) (ac (cI (v:=.str "ABCDEFGHIJKLMNOPQRSTUVWXYZ") rfl yaD ⟨_,rfl⟩) ad))))))),?_⟩;walk_at "wp";refine⟨by rw[aG];exact aM ⋯,?_⟩;rw[aG];unfold df at q
  by_cases h1:1<=r.length
  ·rw[q07 ⋯]
   by_cases h2:r.length<=4
   ·rw[q07 ⋯]
    refine⟨r,_,rfl,a,λc b=>?_⟩;have z:=q c b;rw[q09 h1,q09 h2]at z;exact z
   ·rw[q06 ⋯]
    have z:=q H (λ_ _ e=>e);rw[q09 h1,q08 h2]at z;exact z
  ·rw[q06 ⋯]
   have z:=q H (λ_ _ e=>e);rw[q08 h1]at z;exact z
abbrev eM:Stmt:=o8 31 0
inductive gj(K:W.Frag)(vs:List V)(H:Hp)(Q:VK)(_E:XK):Prop
 |mk (a C dx l:Addr) (n:GZ) (c:Int) (ps:aD) (_:vs=[.ref a,.str (tx n),.int c,.ref l]) (_:H a=some (.ins C dx [])) (_:kt K C) (_:aC K C "name") (_:aC K C "cost") (_:aC K C "part_names") (_:H l=some (.lst (aq ps))) (_:ps.length<=1000) (_:(∀r∈n::ps,r.length<=100000)) (_:((∀r∈n::ps,df r=true)/\1<=c/\c<=9)) (_:∀H',aA H H'->Q .non (aB H' a (.ins C dx [("name",.str (tx n)),("cost",.int c),("part_names",.ref l)])))
theorem eV{X:Cx}{st:Stmt}:PS X st (λ_ _ _=>False):=λ_ _ _ _ _ _ h=>h.elim
theorem pA:aF ["self","name","cost","part_names","text"] ["self","name","cost","part_names"] (av eM):=by walk_at "c"
theorem oV{f:Addr}{fd:G4}(F:dO K "__init__" "Rule.__init__" eM f fd)(nb:NB mg)(yai:eX P w K mg base bx 2 "is_name" ["text"] ii):bc P w K mg base bx 3 f fd ["self","name","cost","part_names"] (gj K):=by
 have sc:=pA;walk_at "f"
 ·obtain⟨a,C,G,l,n,c,b,rfl,U,I,R,O,M,T,hpl,j,ok,good⟩:=h
  refine⟨_,(ae (ba PassesOwn.never rfl (bL (ay BH (b7 (ac (aw 1) ad)) (aw 3))) (q02 4 sc.nd)
   (ag (cz (dN (dL (aH yai (hr.mono nofun) rfl aL (ac (aw 4) ad)) λ_=>rfl))
   (ag eV)
   bi)))
   (ae (cz (PW.pt (lM (bE (bD.m0 wP) (aw 2) am (b_ _)) (lc (bE (bD.m0 xJ) (aw 2) am (b_ _)))))
   (ag eV)
   bi)
   (ae (dy (aw 0) (aw 1) rfl)
   (ae (dy (aw 0) (aw 2) rfl)
   (ag (dy (aw 0) (aw 3) rfl)))))),?_⟩
  walk_at "wp";refine⟨aM ⋯,λp S=>?_⟩;have m1:aA H (aB H p (.lst [V.str (tx n)])):=ao S;have L:aB H p (.lst [V.str (tx n)]) p=some (.lst [V.str (tx n)]):=af;generalize aB H p (.lst [V.str (tx n)])=H1 at m1 L ⊢;refine⟨_,L,_,m1 _ _ T,by rw[al];exact aM (by simp;omega),λm z=>?_⟩;have D:[V.str (tx n)]++aq b=aq (n::b):=rfl;rw[D];have J:aA H1 (aB H1 m (.lst (aq (n::b)))):=ao z;have o:aB H1 m (.lst (aq (n::b))) m=some (.lst (aq (n::b))):=af;generalize aB H1 m (.lst (aq (n::b)))=H2 at J o ⊢;generalize hqs:n::b=qs at j ok o ⊢;have u:=m1.trans J;refine⟨⟨_,aT.of o⟩,bO (xs:=aq qs) (λi σ k=>aA H2 k/\∃x,σ=[some (.ref a),some (.str (tx n)),some (.int c),some (.ref l),x]) ⟨λ_ _ e=>e,_,rfl⟩ (λi σ k _ h=>aT.of (h.1 _ _ o)) ?_ ?_⟩
  ·rintro i v σ k y ⟨r,x,rfl⟩
   have B:i<qs.length:=by have:=(F0.mp y).1;rwa [al]at this
   rw[bW B]at y;cases y;walk_at "wp";refine⟨_,rfl,j _ (F_ B),λH3 q=>⟨_,rfl,?_⟩⟩;rw[q06 (by rw[ok.1 _ (F_ B)];decide)];exact r.trans q
  ·rintro σ k ⟨r,x,rfl⟩
   have d:=u.trans r;walk_at "wp";rw[q06 ⋯,q06 ⋯];have g:=good k d;have l1:(cv "name" (V.str (tx n)) []).length<=1:=eC _ _ _;have l2:(cv "cost" (V.int c) (cv "name" (V.str (tx n)) [])).length<=2:=Gy (eC _ _ _) ⋯;have d1:¬ (("name":Str)="cost"):=by decide +kernel
   have Z:¬ (("name":Str)="part_names"):=by decide +kernel
   have Y:¬ (("cost":Str)="part_names"):=by decide +kernel
   have e:cv "part_names" (V.ref l) (cv "cost" (V.int c) (cv "name" (V.str (tx n)) []))=[(("name":Str),V.str (tx n)),(("cost":Str),V.int c),(("part_names":Str),V.ref l)]:=by
    simp only[cv,q06 d1,q06 Z,q06 Y]
   refine⟨C,G,[],d _ _ U,I,R,by simp,C,G,_,af,I,O,⋯,C,G,_,af,I,M,⋯,?_⟩;rw[tX,tX,e];exact g
def aS(a:Addr)(H H':Hp):Prop:=∀b o,b≠a->H b=some o->H' b=some o
theorem aS.of{a:Addr}{H H':Hp}(s:aA H H'):aS a H H':=λb o _ e=>s b o e
theorem aS.put{a:Addr}{H H':Hp}{o:HO}(s:aS a H H'):aS a H (aB H' a o):=λb u hb e=>by rw[ai hb];exact s b u hb e
theorem aS.then{a:Addr}{H H' H2:Hp}(s:aS a H H')(t:aA H' H2):aS a H H2:=λb u hb e=>t b u (s b u hb e)
theorem aS.trans{a:Addr}{H H' H2:Hp}(s:aS a H H')(t:aS a H' H2):aS a H H2:=λb u hb e=>t b u hb (s b u hb e)
abbrev CF:Str:="abcdefghijklmnopqrstuvwxyz"
def kK(r:GZ):Bool:=decide (r.length=1)&&iV r CF
def kN(n:GZ)(ps:aD)(c:Int):Prop:=(∀r∈n::ps,df r=true)/\1<=c/\c<=9
abbrev d8:Stmt:=o8 32 0
inductive fZ(K:W.Frag)(vs:List V)(H:Hp)(Q:VK)(_E:XK):Prop
 |mk (a C dx:Addr) (n sg:GZ) (c:Int) (_:vs=[.ref a,.str (tx n),.int c,.str (tx sg)]) (_:H a=some (.ins C dx [])) (_:kt K C) (_:(aC K C "name"/\aC K C "cost"/\aC K C "part_names"/\aC K C "sign")) (_:n.length<=100000) (_:sg.length<=100000) (_:(kN n [] c/\kK sg=true)) (_:∀(l:Addr) (H':Hp),aS a H H'->H l=none->H' l=some (.lst [])->H' a=some (.ins C dx [("name",.str (tx n)),("cost",.int c),("part_names",.ref l),("sign",.str (tx sg))])->Q .non H')
theorem nZ:aF ["self","name","cost","sign"] ["self","name","cost","sign"] (av d8):=by walk_at "c"
theorem n9{f:Addr}{fd:G4}{t3:Tok}(F:dO K "__init__" "CellRule.__init__" d8 f fd)(nb:NB mg)(yag:mg "SMALLS"=some (.str "abcdefghijklmnopqrstuvwxyz" t3))
  (yad:eX P w K mg base bx 1 "only_of" ["text","letters"] fV) (zja:BF P w K mg base bx 3 "Rule" "__init__" ["self","name","cost","part_names"] (gj K)):bc P w K mg base bx 4 f fd ["self","name","cost","sign"] (fZ K):=by
 have sc:=nZ;walk_at "f"
 ·obtain⟨a,C,d,n,i,c,rfl,u,z,⟨I,G,D,B⟩,J,o,⟨ok,m⟩,good⟩:=h
  refine⟨_,(ae (bT (zH zja (hr.mono nofun) rfl aL (ac (aw 0) (ac (aw 1) (ac (aw 2) (ac (b7 ad) ad))))))
   (ae (cz (PW.pt (lM (bE Aj (aN bY rfl nb.len cy (ac (aw 3) ad)) am (b_ _)) (lc (dN (dL (aH yad (hr.mono nofun) rfl aL (ac (aw 3) (ac (cI (v:=.str "abcdefghijklmnopqrstuvwxyz") rfl yag ⟨_,rfl⟩) ad))) λ_=>rfl)))))
   (ag eV)
   bi)
   (ag (dy (aw 0) (aw 3) rfl)))),?_⟩
  walk_at "wp";refine⟨Gr _,λl k=>?_⟩;have m1:aA H (aB H l (.lst [])):=ao k;have p:aB H l (.lst []) l=some (.lst []):=af;generalize aB H l (.lst [])=H1 at m1 p ⊢;have j:l≠a:=λe=>by rw[e,u]at k;cases k
  refine⟨a,C,d,l,n,c,[],rfl,m1 _ _ u,z,I,G,D,p,by simp,λr hr=>by rw[show r=n by simpa using hr];exact J,ok,λH2 g=>?_⟩;have q:aS a H (aB H2 a (.ins C d [("name",.str (tx n)),("cost",.int c),("part_names",.ref l)])):=(aS.of (m1.trans g)).put;have y:aB H2 a (.ins C d [("name",.str (tx n)),("cost",.int c),("part_names",.ref l)]) a=some (.ins C d [("name",.str (tx n)),("cost",.int c),("part_names",.ref l)]):=af;have x:aB H2 a (.ins C d [("name",.str (tx n)),("cost",.int c),("part_names",.ref l)]) l=some (.lst []):=by rw[ai j];exact g _ _ p
  generalize aB H2 a (.ins C d [("name",.str (tx n)),("cost",.int c),("part_names",.ref l)])=H3 at q y x ⊢
  try dsimp only
  obtain⟨h1,L⟩:i.length=1/\iV i CF=true:=by
   have h:=m;unfold kK at h;rw[q0O,q0b]at h;exact h
  refine⟨by rw[aG];exact aM ⋯,?_⟩;rw[aG,q06 (λh=>h ⋯)];refine⟨i,_,rfl,o,λH4 b=>⟨_,rfl,?_⟩⟩;rw[q06 (by rw[L];decide)];have R:¬ (("name":Str)="sign"):=by decide +kernel
  have O:¬ (("cost":Str)="sign"):=by decide +kernel
  have M:¬ (("part_names":Str)="sign"):=by decide +kernel
  have e:cv "sign" (V.str (tx i)) [(("name":Str),V.str (tx n)),(("cost":Str),V.int c),(("part_names":Str),V.ref l)]=[(("name":Str),V.str (tx n)),(("cost":Str),V.int c),(("part_names":Str),V.ref l),(("sign":Str),V.str (tx i))]:=by
   simp only[cv,q06 R,q06 O,q06 M]
  refine⟨C,d,_,b _ _ y,z,B,by simp,?_⟩;rw[e];exact good l _ (q.then b).put k (by rw[ai j];exact b _ _ x) af
abbrev dG:Stmt:=o8 31 1
inductive bZ(K:W.Frag)(vs:List V)(H:Hp)(Q:VK)(_E:XK):Prop
 |mk (a C dx l:Addr) (fs:List (Str×V)) (ps:aD) (_:vs=[.ref a]) (_:H a=some (.ins C dx fs)) (_:kt K C) (_:aC K C "part_names") (_:fs.lookup ("part_names":Str)=some (V.ref l)) (_:H l=some (.lst (aq ps))) (_:fw H ps Q)
theorem mF:aF ["self"] ["self"] (av dG):=by walk_at "c"
theorem dm{f:Addr}{fd:G4}(F:dO K "parts" "Rule.parts" dG f fd)(nb:NB mg):bc P w K mg base bx 1 f fd ["self"] (bZ K):=by
 have sc:=mF;walk_at "f"
 ·obtain⟨a,C,j,l,fs,ps,rfl,i,k,c,d,g,q⟩:=h
  refine⟨_,(ag (aO (dl cH rfl nb.list fW (ac (cG (aw 0) rfl) ad)))),?_⟩;walk_at "wp";refine⟨C,j,fs,i,k,c,V.ref l,d,l,rfl,_,.inl (aT.of g),λe b=>q e _ b af (ao b)⟩
abbrev Cu(n:GZ)(c:Int)(l:Addr)(sg:GZ):List (Str×V):=[("name",.str (tx n)),("cost",.int c),("part_names",.ref l),("sign",.str (tx sg))]
abbrev Ax(n:GZ)(c:Int)(l:Addr)(o1 o2:GZ):List (Str×V):=[("name",.str (tx n)),("cost",.int c),("part_names",.ref l),("one",.str (tx o1)),("other",.str (tx o2))]
abbrev Ap(n:GZ)(c:Int)(l:Addr)(o1:GZ)(t:Int):List (Str×V):=[("name",.str (tx n)),("cost",.int c),("part_names",.ref l),("part",.str (tx o1)),("turning",.int t)]
theorem jo{r:GZ}(h:df r=true):1<=r.length/\r.length<=4:=by
 unfold df at h;rw[q0O,q0O,q0b,q0b]at h;exact h.1
theorem au{a b:TS}{D:fE}{σ:St}{H:Hp}(h:∀N:St->Hp->Prop,(∀σ2 H2,b D σ2 H2->N σ2 H2)->a {D with nx:=N} σ H):vB a b D σ H:=h (b D) λ_ _ z=>z
abbrev jG:Stmt:=gZ 51
inductive kE(vs:List V)(H:Hp)(Q:VK)(_E:XK):Prop
 |mk (i:Int) (_:vs=[.int i]) (_:Q (.bl true) H)
theorem sJ:aF ["_law_x"] ["_law_x"] (av jG):=by walk_at "c"
theorem tH{f:Addr}{fd:G4}(F:dO K "_law_whole" "_law_whole" jG f fd)(nb:NB mg):bc P w K mg base bx 1 f fd ["_law_x"] kE:=by
 have sc:=sJ;walk_at "f"
 ·obtain⟨i,rfl,q⟩:=h
  refine⟨_,(ag (aO (nX (aN bn rfl nb.isinstance bz (ac (aw 0) (ac (gW (v:=.ty "int") rfl nb.int AT rfl) ad))) (sF (Bg (aN bn rfl nb.isinstance bz (ac (aw 0) (ac (gW (v:=.ty "bool") rfl nb.bool zT rfl) ad)))))))),?_⟩;walk_at "wp";refine⟨_,hJ.int i,_,gB K _,?_⟩;walk_at "wp";refine⟨_,hJ.int i,_,nU K,?_⟩;exact q
structure RV where
 n:List Nat
 c:Int
 o1:List Nat
 o2:List Nat
 sg:List Nat
 t:Int
abbrev Yaa:=List (Nat×RV)
structure RC where
 rr:Addr
 cc:Addr
 cb:Addr
 ca:Addr
 ct:Addr
def RC.at(R:RC)(k:Nat):Addr:=match k with | 0=>R.cc | 1=>R.cb | 2=>R.ca | _=>R.ct
def qZ(k:Nat)(l:Addr)(v:RV):List (Str×V):=match k with | 0=>Cu v.n v.c l v.sg | 1=>Ax v.n v.c l v.o1 v.o2 | 2=>Ax v.n v.c l v.o1 v.o2 | _=>Ap v.n v.c l v.o1 v.t
def bK(k:Nat)(v:RV):aD:=match k with | 0=>[] | 1=>[v.o1,v.o2] | 2=>[v.o1,v.o2] | _=>[v.o1]
def FM(k:Nat)(v:RV):Prop:=match k with | 0=>kN v.n [] v.c/\kK v.sg=true | 1=>kN v.n [v.o1,v.o2] v.c | 2=>kN v.n [v.o1,v.o2] v.c | _=>kN v.n [v.o1] v.c/\0<=v.t/\v.t<=7
structure RV.small(v:RV):Prop where
 n:v.n.length<=1000
 o1:v.o1.length<=1000
 o2:v.o2.length<=1000
 sg:v.sg.length<=1000
structure RV.good(v:RV):Prop where
 n:df v.n=true
 c1:1<=v.c
 c9:v.c<=9
 o1:df v.o1=true
 o2:df v.o2=true
 sg:kK v.sg=true
 t0:0<=v.t
 t7:v.t<=7
theorem RV.good.ok{v:RV}(g:v.good):∀k,FM k v
 |0=>⟨⟨λr hr=>by rw[show r=v.n by simpa using hr];exact g.n,g.c1,g.c9⟩,g.sg⟩
 |1=>⟨λr hr=>by rcases(show r=v.n\/r=v.o1\/r=v.o2 by simpa using hr) with rfl | rfl | rfl<;>first | exact g.n | exact g.o1 | exact g.o2,g.c1,g.c9⟩
 |2=>⟨λr hr=>by rcases(show r=v.n\/r=v.o1\/r=v.o2 by simpa using hr) with rfl | rfl | rfl<;>first | exact g.n | exact g.o1 | exact g.o2,g.c1,g.c9⟩
 |_+3=>⟨⟨λr hr=>by rcases(show r=v.n\/r=v.o1 by simpa using hr) with rfl | rfl<;>first | exact g.n | exact g.o1,g.c1,g.c9⟩,g.t0,g.t7⟩
def fg(R:RC)(H:Hp)(k:Nat)(a:Addr)(v:RV):Prop:=∃dx l,H a=some (.ins (R.at k) dx (qZ k l v))/\H l=some (.lst (aq (bK k v)))
theorem fg.up{R:RC}{H H':Hp}{k:Nat}{a:Addr}{v:RV}(r:fg R H k a v)(s:aA H H'):fg R H' k a v:=by
 obtain⟨b,l,h1,h2⟩:=r;exact⟨b,l,s _ _ h1,s _ _ h2⟩
structure je(K:W.Frag)(R:RC):Prop where
 i0:iT K R.cc
 i1:iT K R.cb
 i2:iT K R.ca
 i3:iT K R.ct
 a0:aC K R.cc "name"/\aC K R.cc "cost"/\aC K R.cc "part_names"/\aC K R.cc "sign"
 a1:aC K R.cb "name"/\aC K R.cb "cost"/\aC K R.cb "part_names"/\aC K R.cb "one"/\aC K R.cb "other"
 a2:aC K R.ca "name"/\aC K R.ca "cost"/\aC K R.ca "part_names"/\aC K R.ca "one"/\aC K R.ca "other"
 a3:aC K R.ct "name"/\aC K R.ct "cost"/\aC K R.ct "part_names"/\aC K R.ct "part"/\aC K R.ct "turning"
 r0:W.kitOne K (.ref R.cc) (.ref R.rr)=some true
 r1:W.kitOne K (.ref R.cb) (.ref R.rr)=some true
 r2:W.kitOne K (.ref R.ca) (.ref R.rr)=some true
 r3:W.kitOne K (.ref R.ct) (.ref R.rr)=some true
 s0:W.kitOne K (.ref R.cc) (.ref R.cc)=some true
 s1:W.kitOne K (.ref R.cb) (.ref R.cb)=some true
 s2:W.kitOne K (.ref R.ca) (.ref R.ca)=some true
 s3:W.kitOne K (.ref R.ct) (.ref R.ct)=some true
theorem je.icls{R:RC}(rk:je K R):∀k,iT K (R.at k)
 |0=>rk.i0
 |1=>rk.i1
 |2=>rk.i2
 |_+3=>rk.i3
theorem je.name{R:RC}(rk:je K R):∀k,aC K (R.at k) "name"/\aC K (R.at k) "cost"/\aC K (R.at k) "part_names"
 |0=>⟨rk.a0.1,rk.a0.2.1,rk.a0.2.2.1⟩
 |1=>⟨rk.a1.1,rk.a1.2.1,rk.a1.2.2.1⟩
 |2=>⟨rk.a2.1,rk.a2.2.1,rk.a2.2.2.1⟩
 |_+3=>⟨rk.a3.1,rk.a3.2.1,rk.a3.2.2.1⟩
theorem gQ(l:Addr)(v:RV):∀k,(qZ k l v).lookup ("name":Str)=some (V.str (tx v.n))/\(qZ k l v).lookup ("cost":Str)=some (V.int v.c)/\(qZ k l v).lookup ("part_names":Str)=some (V.ref l)/\(qZ k l v).lookup ("parts":Str)=none/\(qZ k l v).lookup ("told":Str)=none
 |0=>⟨rfl,rfl,rfl,rfl,rfl⟩
 |1=>⟨rfl,rfl,rfl,rfl,rfl⟩
 |2=>⟨rfl,rfl,rfl,rfl,rfl⟩
 |_+3=>⟨rfl,rfl,rfl,rfl,rfl⟩
theorem vF{H1 H2:Hp}{x dx:Addr}{o o':HO}(hx:H1 x=none)(hd:H1 dx=none)(s:aS x (aB (aB H1 dx o) x o') H2):aA H1 H2:=
 λb u e=>s b u (ax e hx) (by rw[ai (ax e hx),ai (ax e hd)];exact e)
theorem Cw{CX:iz}{k:Nat}{m:Str}{C0 C1 C2 C3:Addr}{s0 s1 s2 s3:Sp}(h0:∃ps,iC P w K mg base CX k C0 m ps s0)(h1:∃ps,iC P w K mg base CX k C1 m ps s1)(h2:∃ps,iC P w K mg base CX k C2 m ps s2)(h3:∃ps,iC P w K mg base CX k C3 m ps s3) :
  sZ P w K mg base CX k m [(C0,s0),(C1,s1),(C2,s2),(C3,s3)]:=⟨λo ho=>by
 simp only[Gg,List.not_mem_nil,or_false]at ho;rcases ho with rfl | rfl | rfl | rfl
 ·exact h0
 ·exact h1
 ·exact h2
 ·exact h3⟩
def kU(K:W.Frag)(R:RC):List (Addr×Sp):=[(R.cc,bZ K),(R.cb,bZ K),(R.ca,bZ K),(R.ct,bZ K)]
theorem vN{R:RC}{H:Hp}{k a}{v:RV}{Q:VK}{E:XK}(rk:je K R)(r:fg R H k a v)(q:fw H (bK k v) Q) :
  ∃o∈kU K R,∃dx fs,H a=some (.ins o.1 dx fs)/\fs.lookup ("parts":Str)=none/\o.2 [.ref a] H Q E:=by
 obtain⟨dx,l,h1,h2⟩:=r;have c:bZ K [.ref a] H Q E:=⟨a,R.at k,dx,l,_,_,rfl,h1,(rk.icls k).cl,(rk.name k).2.2,(gQ l v k).2.2.1,h2,q⟩;have b:(R.at k,bZ K)∈kU K R:=by
  unfold kU
  match k with
  |0=>simp[RC.at]
  |1=>simp[RC.at]
  |2=>simp[RC.at]
  |_+3=>simp[RC.at]
 exact⟨_,b,dx,_,h1,(gQ l v k).2.2.2.1,c⟩
abbrev gF:Stmt:=gZ 40
abbrev p7:Str:="abcdefghijklmnopqrstuvwxyz"
def gH(r:GZ):Bool:=decide (1<=r.length)&&decide (r.length<=4)&&iV r p7&&decide ((met (cJ (tx r))).length=r.length)
inductive iP(vs:List V)(H:Hp)(Q:VK)(_E:XK):Prop
 |mk (r:GZ) (_:vs=[.str (tx r)]) (_:r.length<=1000) (_:∀H',aA H H'->Q (.bl (gH r)) H')
theorem n6:aF ["text"] ["text"] (av gF):=by walk_at "c"
theorem o_{f:Addr}{fd:G4}{t1 t2:Tok}(F:dO K "are_signs" "are_signs" gF f fd)(nb:NB mg)(yaI:mg "MOST_SIGNS"=some (.int 4 t1))(yag:mg "SMALLS"=some (.str "abcdefghijklmnopqrstuvwxyz" t2))(yad:eX P w K mg base bx 1 "only_of" ["text","letters"] fV):bc P w K mg base bx 2 f fd ["text"] iP:=by
 have sc:=n6;walk_at "f"
 ·obtain⟨r,rfl,hr',q⟩:=h
  refine⟨_,(ag (aO (nX (qr (bD.m0 qi) (bD.m0 qi) am (aN bY rfl nb.len cy (ac (aw 0) ad)) (cI (v:=.int 4) rfl yaI ⟨_,rfl⟩)) (nX (aH yad (hr.mono nofun) rfl aL (ac (aw 0) (ac (cI (v:=.str "abcdefghijklmnopqrstuvwxyz") rfl yag ⟨_,rfl⟩) ad))) (sF (pR pZ (u_ rfl (aw 0) rfl nb.len rfl nb.set) (aN bY rfl nb.len cy (ac (aw 0) ad)) (b_ _))))))),?_⟩;walk_at "wp";refine⟨by rw[aG];exact aM ⋯,?_⟩;rw[aG];unfold gH at q
  by_cases h1:1<=r.length
  ·rw[q07 ⋯]
   by_cases h2:r.length<=4
   ·rw[q07 ⋯]
    refine⟨r,_,rfl,⋯,λc b=>⟨_,rfl,?_⟩⟩;have z:=q c b;rw[q09 h1,q09 h2]at z;cases a:iV r p7 with
    |false=>
     rw[a]at z;rw[q06 (by simp)];exact z
    |true=>
     rw[a]at z;rw[q07 rfl];refine⟨by rw[DI];unfold scanBound;omega,by exact aM ⋯,?_⟩;have e:decide (((met (cJ (tx r))).length:Int)=(r.length:Int))=decide ((met (cJ (tx r))).length=r.length):=by
      apply decide_eq_decide.mpr
      constructor<;>intro h<;>omega
     rw[e];exact z
   ·rw[q06 ⋯]
    have z:=q H (λ_ _ e=>e);rw[q09 h1,q08 h2]at z;exact z
  ·rw[q06 ⋯]
   have z:=q H (λ_ _ e=>e);rw[q08 h1]at z;exact z
theorem xO{α:Type}{l:List α}{i:Nat}{x:α}(h:l[i]?=some x):l.drop i=x::l.drop (i+1):=by
 obtain⟨a,e⟩:=F0.mp h;rw[q0T a,e]
structure wQ(K:W.Frag)(R:RC):Prop where
 kit:∀i j,i<4->j=0\/j=3->W.kitOne K (.ref (R.at i)) (.ref (R.at j))=some (decide (i=j))
abbrev Ck(z x:Str):Bool:=!(Builtin.Str.occurrences z x 0 z.length 1).isEmpty
def eR(sg:Str):Yaa->Nat->Option Nat
 | [],_=>none
 |r::rs,j=>if r.1=0/\Ck sg (tx r.2.sg)=false then some j else eR sg rs (j+1)
def ge(sg st:GZ)(rs:Yaa):Option (Str×List Int):=
 if gH sg=false then some ("signs",[]) else if df st=false then some ("start",[]) else if 24<rs.length then some ("rules",[(rs.length:Int)]) else
  match eR (tx sg) rs 0 with
  |some k=>some ("sign",[(k:Int)])
  |none=>none
abbrev dv:Stmt:=gZ 39
def aV(R:RC)(H:Hp)(as:G2)(rs:Yaa):Prop:=as.length=rs.length/\∀(i:Nat) a r,as[i]?=some a->rs[i]?=some r->fg R H r.1 a r.2
theorem aV.up{R:RC}{H H':Hp}{as:G2}{rs:Yaa}(h:aV R H as rs)(s:aA H H'):aV R H' as rs:=⟨h.1,λi a r e1 e2=>(h.2 i a r e1 e2).up s⟩
inductive ft(R:RC)(vs:List V)(H:Hp)(Q:VK)(_E:XK):Prop
 |mk (sg st:GZ) (a:Addr) (as:G2) (rs:Yaa) (_:vs=[.str (tx sg),.str (tx st),.ref a]) (_:sg.length<=1000) (_:st.length<=1000) (_:H a=some (.lst (as.map V.ref))) (_:aV R H as rs) (_:(∀r∈rs,r.1<4)) (_:rs.length<=100) (_:ge sg st rs=none) (_:∀H',aA H H'->Q .non H')
theorem jg:aF ["signs","start","rules","k","rule"] ["signs","start","rules"] (av dv):=by walk_at "c"
theorem i9{R:RC}{f:Addr}{fd:G4}{t1:Tok}(F:dO K "check_made_of" "check_made_of" dv f fd)(nb:NB mg)(rk:je K R)(rk4:wQ K R)(yar:mg "MOST_RULES"=some (.int 24 t1))(zwa:mg "CellRule"=some (.ref R.cc))
  (yaL:eX P w K mg base bx 2 "are_signs" ["text"] iP) (yai:eX P w K mg base bx 2 "is_name" ["text"] ii):bc P w K mg base bx 3 f fd ["signs","start","rules"] (ft R):=by
 have sc:=jg;walk_at "f"
 ·obtain⟨sg,I,a,L,g,rfl,U,hst,ha,u,Z,hn,c,good⟩:=h
  refine⟨_,(ae (cz (dN (dL (aH yaL (hr.mono nofun) rfl aL (ac (aw 0) ad)) λ_=>rfl))
   (ag eV)
   bi)
   (ae (cz (dN (dL (aH yai (hr.mono nofun) rfl aL (ac (aw 1) ad)) λ_=>rfl))
   (ag eV)
   bi)
   (ae (cz (bE (bD.m0 xJ) (aN cT rfl nb.len cy (ac (aw 2) ad)) (cI (v:=.int 24) rfl yar ⟨_,rfl⟩) (b_ _))
   (ag eV)
   bi)
   (ag (ba PassesOwn.never rfl (oI rfl nb.enumerate (ac (aw 2) ad)) (lx (n:=2) rfl (cC (q02 3 sc.nd) (cC (q02 4 sc.nd) i7)))
   (ag (cz (PW.pt (sM (dL (aN bn rfl nb.isinstance bz (ac (aw 4) (ac (cI (v:=.ref _) rfl zwa rfl) ad))) λ_=>rfl) (oS (bE oB (cG (aw 4) rfl) (aw 0) (by with_unfolding_all rfl)))))
   (ag eV)
   bi))))))),?_⟩
  walk_at "n";refine⟨sg,rfl,U,λH1 S=>⟨_,rfl,?_⟩⟩;unfold ge at c;have e1:gH sg=true:=by
   cases e:gH sg with
   |true=>rfl
   |false=>rw[q07 e]at c;cases c
  rw[q06 (by rw[e1];decide)]at c ⊢;refine h1 _ _ ?_;clear h1;walk_at "o";refine⟨I,rfl,⋯,λH2 O=>⟨_,rfl,?_⟩⟩;have l:=S.trans O;have e2:df I=true:=by
   cases e:df I with
   |true=>rfl
   |false=>rw[q07 e]at c;cases c
  rw[q06 (by rw[e2];decide)]at c ⊢;refine h2 _ _ ?_;clear h2;have G:=l _ _ ha;have D:(L.map V.ref).length=g.length:=by rw[F3];exact u.1
  refine au λN3 h3=>?_;walk_at "wp";refine⟨_,aT.of G,?_⟩;rw[D];have a1:¬ 24<g.length:=λh=>by rw[q07 h]at c;cases c
  rw[q06 ⋯];rw[q06 a1]at c;refine h3 _ _ ?_;clear h3;walk_at "wp";refine⟨_,aT.of G,?_⟩;refine mU (xs:=L.map V.ref) (λi σ M=>aA H M/\eR (tx sg) (g.drop i) i=eR (tx sg) g 0/\∃x y,σ=[some (.str (tx sg)),some (.str (tx I)),some (.ref a),x,y]) ⟨l,rfl,_,_,rfl⟩ ?_ ?_ ?_
  ·rintro i σ M _ ⟨q,_⟩
   exact aT.of (q _ _ ha)
  ·rintro i x σ H3 T p ⟨q,hb,x1,y1,rfl⟩ hT
   have C:i<g.length:=by have:=(F0.mp p).1;rw[D]at this;exact this
   obtain⟨d,Y,rfl⟩:∃d,L[i]?=some d/\V.ref d=x:=by
    rw[F5]at p;cases e:L[i]? with
    |none=>rw[e]at p;cases p
    |some d=>rw[e]at p;exact⟨d,rfl,q0S p⟩
   have o:g[i]?=some g[i]:=FZ C;have B:=Z _ (F_ C);generalize g[i]=r at o B;rw[xO o]at hb;have j:aA H (aB H3 T (.tup [V.int (i:Int),V.ref d])):=q.trans (ao hT);have eT:aB H3 T (.tup [V.int (i:Int),V.ref d]) T=some (.tup [V.int (i:Int),V.ref d]):=af;generalize aB H3 T (.tup [V.int (i:Int),V.ref d])=H4 at j eT ⊢;have rr:=(u.2 i d r Y o).up j;obtain⟨dx,pl,m,_⟩:=id rr;walk_at "wp";refine⟨_,jv.of eT,rfl,_,_,rfl,_,_,rfl,rfl,?_⟩;refine⟨_,(rk.icls r.1).ty m,_,rk4.kit r.1 0 B nofun,?_⟩;have b:(if r.1=0/\Ck (tx sg) (tx r.2.sg)=false then some i else eR (tx sg) (g.drop (i+1)) (i+1))=eR (tx sg) g 0:=hb
   by_cases J:r.1=0
   ·rw[q07 (by simp[J])]
    obtain⟨r0,v⟩:=r;have a2:r0=0:=J;subst a2;refine⟨d,rfl,_,_,_,m,rk.i0.cl,rk.a0.2.2.2,_,rfl,_,rfl,?_⟩;have k:Ck (tx sg) (tx v.sg)=true:=by
     cases k:Ck (tx sg) (tx v.sg) with
     |true=>rfl
     |false=>
      rw[q07 ⟨rfl,k⟩]at b;rw[<- b]at c;cases c
    rw[q06 (by rw[show(!(Builtin.Str.occurrences (tx sg) (tx v.sg) 0 (tx sg).length 1).isEmpty)=true from k];decide)];rw[q06 (λz=>by rw[k]at z;exact q0Q z.2 nofun)]at b;exact⟨j,b⟩
   ·rw[q06 (by simp[J])]
    rw[q06 (λz=>J z.1)]at b;exact⟨j,b⟩
  ·rintro σ M ⟨q,hb,x,y,rfl⟩
   walk_at "wp";exact good M q
def gs(m:List (Str×List Nat))(z:Str)(i:Nat):List (Str×List Nat):=m.map λq=>if q.1=z then(q.1,q.2++[i]) else q
structure oM(H0:Hp)(p:Addr)(t:NT)(H:Hp):Prop where
 same:aA H0 H
 at_:cB H p t
 fresh:∀x∈t,H0 x.2.1=none
 nodup:((gX t).map (·.1)).Nodup
theorem lL(t:NT):(gX t).length=t.length:=by unfold gX;rw[F3]
theorem mI(m:List (Str×List Nat))(z:Str):(bI m z).length<=m.length+1:=by
 unfold bI;split
 ·omega
 ·rw[Gp];simp
theorem fX(m:List (Str×List Nat))(z:Str)(i:Nat):(gs m z i).map (·.1)=m.map (·.1):=by
 unfold gs;rw[Gf]
 apply q0K;intro q _;simp only[Function.comp]
 split<;>rfl
theorem u0{m:List (Str×List Nat)}{j i:Nat}{q:Str×List Nat}(nd:(m.map (·.1)).Nodup)(hj:m[j]?=some q):m.set j (q.1,q.2++[i])=gs m q.1 i:=by
 unfold gs;apply List.ext_getElem?;intro k;rw[F5,List.getElem?_set];have b:j<m.length:=(F0.mp hj).1
 by_cases e:j=k
 ·subst e
  rw[q07 rfl,q07 b,hj];simp
 ·rw[q06 e]
  cases c:m[k]? with
  |none=>rfl
  |some y=>
   have a:y.1≠q.1:=by
    intro h;have h1:(m.map (·.1))[j]?=some q.1:=by rw[F5,hj];rfl
    have h2:(m.map (·.1))[k]?=some q.1:=by rw[F5,c];simp[h]
    exact e ((List.getElem?_inj (F0.mp h1).1 nd).mp (h1.trans h2.symm))
   simp[a]
theorem oM.free{H0 H:Hp}{p:Addr}{t:NT}(N:oM H0 p t H){l:Addr}(h:H l=none):H0 l=none:=N.same.free h
theorem jR{te:TE}{σ:St}{H0 H:Hp}{p:Addr}{t:NT}{z:Str}{i:Nat}{Q:VK}(hp:H0 p=none)(hv:σ[i]?=some (some (.ref p)))(hte:∀R:VK,R (.str z) H->te σ H R)(N:oM H0 p t H)(hn:t.length<sizeLine)
  (h:∀(H':Hp) (t':NT) (j:Nat) (x:Str×Addr×List Nat),oM H0 p t' H'->t'[j]?=some x->x.1=z->gX t'=bI (gX t) z->t'.length<=t.length+1->(∀a o,a≠p->H a=some o->H' a=some o)->Q (.ref x.2.1) H'):rA (yB i) te (zN l9) σ H Q:=by
 refine⟨.ref p,hv,p,rfl,.inl ⟨_,.inl N.at_.dict⟩,hte _ ⟨Gr _,λl k=>?_⟩⟩;have g:=N.free k;refine N.at_.setdef k hn λH' t' j x v u r d n m=>h H' t' j x ⟨λb o e=>m b o (λq=>by rw[q,hp]at e;exact nomatch e) (N.same b o e),v,λy c=>?_,?_⟩ u r d ?_ m
 ·rcases n y c with q | q
  ·exact N.fresh y q
  ·rw[q];exact g
 ·rw[d];exact iA N.nodup
 ·have:=mI (gX t) z
  rw[<- d,lL,lL]at this;exact this
theorem oM.put{H0 H:Hp}{p:Addr}{t:NT}{j k:Nat}{x:Str×Addr×List Nat}(N:oM H0 p t H)(hj:t[j]?=some x) :
  oM H0 p (t.set j (x.1,x.2.1,x.2.2++[k])) (aB H x.2.1 (.lst (tJ (x.2.2++[k]))))/\gX (t.set j (x.1,x.2.1,x.2.2++[k]))=gs (gX t) x.1 k:=by
 have a:=F6 hj;have e:gX (t.set j (x.1,x.2.1,x.2.2++[k]))=gs (gX t) x.1 k:=by
  rw[zY];exact u0 (q:=(x.1,x.2.2)) N.nodup (by unfold gX;rw[F5,hj];rfl)
 refine⟨⟨bG N.same (N.fresh x a),N.at_.put hj,λy b=>?_,?_⟩,e⟩
 ·rcases List.mem_or_eq_of_mem_set b with q | q
  ·exact N.fresh y q
  ·rw[q];exact N.fresh x a
 ·rw[e,fX];exact N.nodup
abbrev c7:Stmt:=gZ 41
theorem im:aF ["start","rules","numbers","k","rule","part"] ["start","rules"] (av c7):=by walk_at "c"
def dq(m:List (Str×List Nat))(i:Nat)(r:Nat×RV):List (Str×List Nat):=((bK r.1 r.2).map tx).foldl bI (gs (bI m (tx r.2.n)) (tx r.2.n) i)
def d7:Nat->Yaa->List (Str×List Nat)->List (Str×List Nat)
 |_,[],m=>m
 |i,r::rs,m=>d7 (i+1) rs (dq m i r)
theorem ig{m:List (Str×List Nat)}{z:Str}{n:Nat}(h:∀q∈m,q.2.length<=n):∀q∈bI m z,q.2.length<=n:=by
 unfold bI;split
 ·exact h
 ·intro q a
  rcases Gd.mp a with z1 | z1
  ·exact h q z1
  ·rw[F4.mp z1];exact Gr _
theorem jO:∀{zs:G6} {m:List (Str×List Nat)} {n:Nat},(∀q∈m,q.2.length<=n)->∀q∈zs.foldl bI m,q.2.length<=n
 | [],_,_,h=>h
 |z::zs,_,_,h=>jO (zs:=zs) (ig h)
theorem qE{m:List (Str×List Nat)}{i n:Nat}{r:Nat×RV}(h:∀q∈m,q.2.length<=n):∀q∈dq m i r,q.2.length<=n+1:=by
 unfold dq;refine jO λq b=>?_;unfold gs at b;obtain⟨c,a,rfl⟩:=GM.mp b;have:=ig h c a
 split
 ·rw[Gp];simp;exact this
 ·omega
theorem ly:∀{rs:Yaa} {i n:Nat} {m:List (Str×List Nat)},(∀q∈m,q.2.length<=n)->∀q∈d7 i rs m,q.2.length<=n+rs.length
 | [],_,_,_,h=>h
 |r::rs,i,n,m,h=>λq hq=>by
  have:=ly (rs:=rs) (i:=i+1) (qE (i:=i) (r:=r) h) q hq;rw[Gb];omega
theorem eD:∀{rs:Yaa} {i:Nat} {m:List (Str×List Nat)} {r:Nat×RV},d7 i (rs++[r]) m=dq (d7 i rs m) (i+rs.length) r
 | [],i,m,r=>rfl
 |r0::rs,i,m,r=>by
  show d7 (i+1) (rs++[r]) (dq m i r0)=dq (d7 (i+1) rs (dq m i r0)) (i+(rs.length+1)) r;rw[eD,show i+1+rs.length=i+(rs.length+1) by omega]
theorem rV(k:Nat)(v:RV):(bK k v).length<=2:=by
 match k with
 |0=>simp[bK]
 |1=>simp[bK]
 |2=>simp[bK]
 |_+3=>simp[bK]
def bA(z:Str)(rs:Yaa):List (Str×List Nat):=d7 0 rs [(z,[])]
inductive dX(K:W.Frag)(R:RC)(vs:List V)(H:Hp)(Q:VK)(_E:XK):Prop
 |mk (z:Str) (a:Addr) (as:G2) (rs:Yaa) (_:vs=[.str z,.ref a]) (_:H a=some (.lst (as.map V.ref))) (_:aV R H as rs) (_:rs.length<=100) (_:∀p H' t,H p=none->cB H' p t->gX t=bA z rs->(∀x∈t,H x.2.1=none)->aA H H'->Q (.ref p) H')
theorem ip{R:RC}{f:Addr}{fd:G4}(F:dO K "numbers_by_name" "numbers_by_name" c7 f fd)(nb:NB mg)(rk:je K R)(yaF:sZ P w K mg base bx 1 "parts" (kU K R)):bc P w K mg base bx 2 f fd ["start","rules"] (dX K R):=by
 have sc:=im;walk_at "f"
 ·obtain⟨z,a,as,rs,rfl,ha,U,hn,q⟩:=h
  refine⟨_,(ae (q01 2 sc.nd (yM (yv (pv 0) (b7 ad) yR) rfl rfl (by simp) nofun))
   (ae (ba PassesOwn.never rfl (oI rfl nb.enumerate (ac (pv 1) ad)) (lx (n:=2) rfl (cC (q02 3 sc.nd) (cC (q02 4 sc.nd) i7)))
   (ae (bT (q03 (kO (pv 2) (cG (pv 4) rfl) (b7 ad) ⟨rfl,rfl,rfl,rfl⟩) (ac (pv 3) ad)))
   (ag (ba PassesOwn.never rfl (bL (wO yaF (hr.mono nofun) aL (pv 4))) (q02 5 sc.nd)
   (ag (bT (kO (pv 2) (pv 5) (b7 ad) ⟨rfl,rfl,rfl,rfl⟩)))))))
   (ag (aO (pv 2))))),?_⟩
  walk_at "wp";intro p hp;refine⟨Gr _,λl hl=>?_⟩;have g:l≠p:=λe=>by rw[e,af]at hl;exact nomatch hl
  have a0:H l=none:=by rw[ai g]at hl;exact hl
  have a7:a≠p:=λe=>by rw[e,hp]at ha;exact nomatch ha
  have b3:a≠l:=λe=>by rw[e,a0]at ha;exact nomatch ha
  refine⟨by rw[ai (Ne.symm g),af],[(.inr z,.ref l)],rfl,by simp,as.map V.ref,aT.of (by rw[ai a7,ai b3,ai a7];exact ha),?_⟩;refine mU (xs:=as.map V.ref) (λi σ B=>aA H B/\∃t,cB B p t/\(∀x∈t,H x.2.1=none)/\((gX t).map (·.1)).Nodup/\gX t=d7 0 (rs.take i) [(z,[])]/\t.length<=1+3*i/\∃x y u,σ=[some (.str z),some (.ref a),some (.ref p),x,y,u]) ?_ ?_ ?_ ?_
  ·refine⟨λb o e=>?_,[(z,l,[])],⟨by rw[af];rfl,λx c=>?_,by simp⟩,λx c=>?_,by simp[gX],rfl,by simp,_,_,_,rfl⟩
   ·have h1:b≠p:=λq=>by rw[q,hp]at e;exact nomatch e
    have h2:b≠l:=λq=>by rw[q,a0]at e;exact nomatch e
    rw[ai h1,ai h2,ai h1];exact e
   ·rw[F4.mp c,ai g,af];rfl
   ·rw[F4.mp c];exact a0
  ·rintro i σ B _ ⟨sm,_⟩
   exact aT.of (sm _ _ ha)
  ·rintro i x σ H1 T c ⟨sm,t,N,fr,nd,em,hlen,x1,y1,u1,rfl⟩ hT
   have a3:i<rs.length:=by have:=(F0.mp c).1;rw[F3,U.1]at this;exact this
   obtain⟨d,b0,rfl⟩:∃d,as[i]?=some d/\V.ref d=x:=by
    rw[F5]at c;cases e:as[i]? with
    |none=>rw[e]at c;cases c
    |some d=>rw[e]at c;exact⟨d,rfl,q0S c⟩
   have Y:rs[i]?=some rs[i]:=FZ a3;generalize rs[i]=r at Y;have rr:=U.2 i d r b0 Y;have M:aA H (aB H1 T (.tup [V.int (i:Int),V.ref d])):=sm.trans (ao hT);have gT:∀b o,H1 b=some o->aB H1 T (.tup [V.int (i:Int),V.ref d]) b=some o:=ao hT;have eT:jv K (aB H1 T (.tup [V.int (i:Int),V.ref d])) T [V.int (i:Int),V.ref d]:=jv.of af;have N2:=N.grow gT;generalize aB H1 T (.tup [V.int (i:Int),V.ref d])=H2 at M gT eT N2 ⊢;clear gT N hT sm H1;simp only[ym,ut,iI,Ag];refine⟨_,_,rfl,eT,rfl,_,_,rfl,_,_,rfl,rfl,?_⟩;refine au λN1 h1=>?_;have a2:=rr.up M;have NI:oM H p t H2:=⟨M,N2,fr,nd⟩;have hz:sizeLine>1000:=aY nofun;obtain⟨dx,pl,J,_⟩:=id a2;walk_at "wp";refine jR (z:=tx r.2.n) hp rfl (λS hS=>⟨_,rfl,d,_,dx,_,_,rfl,J,(rk.icls r.1).cl,(rk.name r.1).1,(gQ pl r.2 r.1).1,hS⟩) NI ⋯ λH3 t3 j x N3 hj c hm a5 hk=>?_;have O:=N3.at_.list x (F6 hj);refine⟨.inl ⟨rfl,_,aT.of O⟩,_,rfl,_,O,?_,h1 _ _ ?_⟩
   ·have h2:(x.1,x.2.2)∈bI (gX t) (tx r.2.n):=by rw[<- hm];exact GM.mpr ⟨x,F6 hj,rfl⟩
    have h3:=ig (ly (rs:=rs.take i) (i:=0) (n:=0) (m:=[(z,[])]) (λq hq=>by rw[F4.mp hq];exact Gr _)) (z:=tx r.2.n) (x.1,x.2.2) (by rw[<- em];exact h2);rw[GG]at h3;unfold tJ;rw[F3];have h4:x.2.2.length<=100:=by simp at h3;omega
    omega
   clear h1;obtain⟨I,C⟩:=N3.put (k:=i) hj;have a4:(t3.set j (x.1,x.2.1,x.2.2++[i])).length<=t.length+1:=by rw[List.length_set];exact a5
   have C:gX (t3.set j (x.1,x.2.1,x.2.2++[i]))=gs (bI (gX t) (tx r.2.n)) (tx r.2.n) i:=by rw[C,hm,c]
   have eI:tJ (x.2.2++[i])=tJ x.2.2++[V.int (i:Int)]:=by unfold tJ;rw[Gc];rfl
   rw[eI]at I;generalize t3.set j (x.1,x.2.1,x.2.2++[i])=t4 at I C a4;generalize aB H3 x.2.1 (.lst (tJ x.2.2++[V.int (i:Int)]))=H4 at I ⊢;clear hk O hj N3 hm a5 c NI N2 J a2;have a9:=rr.up I.same;have hpk:=rV r.1 r.2;walk_at "wp";refine vN rk a9 λlp H5 g a8 a1=>⟨lp,rfl,⟨_,aT.of a8⟩,?_⟩;have b1:lp≠p:=λe=>by rw[e,I.at_.dict]at g;exact nomatch g
   refine bO (xs:=aq (bK r.1 r.2)) (λn σ B=>n<=(bK r.1 r.2).length/\∃L,oM H p L B/\gX L=(((bK r.1 r.2).take n).map tx).foldl bI (gs (bI (gX t) (tx r.2.n)) (tx r.2.n) i)/\L.length<=t.length+1+n/\B lp=some (.lst (aq (bK r.1 r.2)))/\∃u,σ=[some (.str z),some (.ref a),some (.ref p),some (.int (i:Int)),some (.ref d),u])
    ⟨Gr _,t4,⟨I.same.trans a1,I.at_.grow a1,I.fresh,I.nodup⟩,C,a4,a8,_,rfl⟩ ?_ ?_ ?_
   ·rintro n σ B _ ⟨_,L,_,_,_,G,_⟩
    exact aT.of G
   ·rintro n v σ B hv ⟨hn1,L,N',D,a6,G,u,rfl⟩
    have Z:n<(bK r.1 r.2).length:=by have:=(F0.mp hv).1;rwa [al]at this
    rw[bW Z]at hv;cases hv;walk_at "wp";refine jR (z:=tx (bK r.1 r.2)[n]) hp rfl (λS hS=>⟨_,rfl,hS⟩) N' ⋯ λH6 t6 j x N6 hj c b2 hl6 hk=>?_;refine⟨Z,t6,N6,?_,⋯,hk _ _ b1 G⟩;rw[b2,D,q0E,FZ Z,Gc,List.foldl_append]
    rfl
   ·rintro σ B ⟨_,L,N',D,a6,G,u,rfl⟩
    rw[al,GF]at D;refine⟨N'.same,L,N'.at_,N'.fresh,N'.nodup,?_,?_,_,_,_,rfl⟩
    ·rw[D,q0E,Y,em]
     show _=d7 0 (rs.take i++[r]) _;rw[eD,GG,GU (q0P a3),Nat.zero_add]
     rfl
    ·rw[al]at a6;omega
  ·rintro σ B ⟨sm,t,N,fr,_,em,_,x,y,u,rfl⟩
   walk_at "wp";refine q p B t hp N ?_ fr sm;rw[em,F3,U.1,GF];rfl
def ot(sg st:GZ)(rs:Yaa):Option (Str×List Int):=
 match ge sg st rs with
 |some y=>some y
 |none=>if 8<(bA (tx st) rs).length then some ("names",[((bA (tx st) rs).length:Int)]) else none
def fb(sg st:GZ)(lk pn:Addr):List (Str×V):=[("signs",.str (tx sg)),("start",.str (tx st)),("kept",.ref lk),("numbers",.ref pn)]
def cW(R:RC)(H:Hp)(C dx a:Addr)(sg st:GZ)(as:G2)(rs:Yaa):Prop:=
 ∃lk pn t,H a=some (.ins C dx (fb sg st lk pn))/\H lk=some (.lst (as.map V.ref))/\aV R H as rs/\cB H pn t/\gX t=bA (tx st) rs
def pG(R:RC)(H:Hp)(C dx a:Addr)(sg st:GZ)(as:G2)(rs:Yaa)(lk pn:Addr)(t:NT):Prop:=
 H a=some (.ins C dx (fb sg st lk pn))/\H lk=some (.lst (as.map V.ref))/\aV R H as rs/\cB H pn t/\gX t=bA (tx st) rs
theorem pG.f{R:RC}{H:Hp}{C dx a:Addr}{sg st:GZ}{as:G2}{rs:Yaa}{lk pn:Addr}{t:NT}(g:pG R H C dx a sg st as rs lk pn t):cW R H C dx a sg st as rs:=⟨lk,pn,t,g⟩
theorem cW.up{R:RC}{H H':Hp}{C dx a:Addr}{sg st:GZ}{as:G2}{rs:Yaa}(g:cW R H C dx a sg st as rs)(s:aA H H'):cW R H' C dx a sg st as rs:=by
 obtain⟨c,b,t,h1,h2,i,e,d⟩:=g;exact⟨c,b,t,s _ _ h1,s _ _ h2,i.up s,e.grow s,d⟩
theorem Aa(k:Nat)(l:Addr)(v:RV):qZ k l v≠[]:=λe=>by
 have:=(gQ l v k).1;rw[e]at this;exact nomatch this
theorem aV.upX{R:RC}{H H':Hp}{a C dx:Addr}{as:G2}{rs:Yaa}(h:aV R H as rs)(ha:H a=some (.ins C dx []))(s:aS a H H'):aV R H' as rs:=by
 refine⟨h.1,λi b r g c=>?_⟩;obtain⟨d,l,h1,h2⟩:=h.2 i b r g c;refine⟨d,l,s _ _ (λe=>?_) h1,s _ _ (λe=>?_) h2⟩
 ·rw[e,ha]at h1
  have:=q0S h1;exact q0Q (HO.ins.inj this).2.2.symm (Aa _ _ _)
 ·rw[e,ha]at h2;cases h2
abbrev d9:Stmt:=o8 38 0
inductive fU(K:W.Frag)(R:RC)(vs:List V)(H:Hp)(Q:VK)(_E:XK):Prop
 |mk (a C dx l:Addr) (sg st:GZ) (as:G2) (rs:Yaa) (_:vs=[.ref a,.str (tx sg),.str (tx st),.ref l]) (_:H a=some (.ins C dx [])) (_:kt K C) (_:(aC K C "signs"/\aC K C "start"/\aC K C "kept"/\aC K C "numbers")) (_:sg.length<=1000) (_:st.length<=1000) (_:H l=some (.lst (as.map V.ref))) (_:aV R H as rs) (_:(∀r∈rs,r.1<4)) (_:rs.length<=100) (_:ot sg st rs=none) (_:∀H' lk pn t,aS a H H'->pG R H' C dx a sg st as rs lk pn t->H lk=none->H pn=none->(∀x∈t,H x.2.1=none)->Q .non H')
theorem oo:aF ["self","signs","start","rules"] ["self","signs","start","rules"] (av d9):=by walk_at "c"
theorem pL{R:RC}{f:Addr}{fd:G4}{t1:Tok}(F:dO K "__init__" "Grammar.__init__" d9 f fd)(nb:NB mg)(yaC:mg "MOST_NAMES"=some (.int 8 t1))
  (yan:eX P w K mg base bx 3 "check_made_of" ["signs","start","rules"] (ft R)) (yaw:eX P w K mg base bx 2 "numbers_by_name" ["start","rules"] (dX K R)) :
  bc P w K mg base bx 4 f fd ["self","signs","start","rules"] (fU K R):=by
 have sc:=oo;walk_at "f"
 ·obtain⟨a,C,g,l,b,c,q,I,rfl,ha,cl,⟨n1,n2,n3,n4⟩,a6,a5,hl,J,a7,hn,O,good⟩:=h
  refine⟨_,(ae (bT (aH yan (hr.mono nofun) rfl aL (ac (aw 1) (ac (aw 2) (ac (aw 3) ad)))))
   (ae (dy (aw 0) (aw 1) rfl)
   (ae (dy (aw 0) (aw 2) rfl)
   (ae (dy (aw 0) (dl cH rfl nb.list fW (ac (aw 3) ad)) rfl)
   (ae (dy (aw 0) (aH yaw (hr.mono nofun) rfl aL (ac (aw 2) (ac (aw 3) ad))) rfl)
   (ag (cz (bE (bD.m0 xJ) (aN vS rfl nb.len cy (ac (cG (aw 0) rfl) ad)) (cI (v:=.int 8) rfl yaC ⟨_,rfl⟩) (b_ _))
   (ag eV)
   bi))))))),?_⟩
  obtain⟨g0,h8⟩:ge b c I=none/\¬ 8<(bA (tx c) I).length:=by
   unfold ot at O;cases e:ge b c I with
   |some y=>rw[e]at O;cases O
   |none=>
    rw[e]at O;exact⟨rfl,λh=>by simp only[]at O;rw[q07 h]at O;cases O⟩
  walk_at "n";refine⟨b,c,l,q,I,rfl,a6,a5,hl,J,a7,hn,g0,λH1 G=>h1 _ _ ?_⟩;clear h1;have a1:=G _ _ ha;have Z:l≠a:=λe=>by rw[e,ha]at hl;cases hl
  walk_at "o";refine⟨C,g,_,a1,cl,n1,by simp,h2 _ _ ?_⟩;clear h2;have B:aS a H (aB H1 a (.ins C g [("signs",.str (tx b))])):=(aS.of G).put;have U:aB H1 a (.ins C g [("signs",.str (tx b))]) a=some (.ins C g [("signs",.str (tx b))]):=af;show _;change vB _ _ _ _ (aB H1 a (.ins C g [("signs",.str (tx b))]));generalize aB H1 a (.ins C g [("signs",.str (tx b))])=H2 at B U ⊢;clear G a1;refine au λN3 h3=>?_;walk_at "wp";have d1:¬ (("signs":Str)="start"):=by decide +kernel
  have e3:cv "start" (V.str (tx c)) [(("signs":Str),V.str (tx b))]=[(("signs":Str),V.str (tx b)),(("start":Str),V.str (tx c))]:=by simp only[cv,q06 d1]
  refine⟨C,g,_,U,cl,n2,by simp,?_⟩;rw[e3];refine h3 _ _ ?_;clear h3;have n:aS a H (aB H2 a (.ins C g [(("signs":Str),V.str (tx b)),(("start":Str),V.str (tx c))])):=B.put;have T:aB H2 a (.ins C g [(("signs":Str),V.str (tx b)),(("start":Str),V.str (tx c))]) a=some (.ins C g [(("signs":Str),V.str (tx b)),(("start":Str),V.str (tx c))]):=af;generalize aB H2 a (.ins C g [(("signs":Str),V.str (tx b)),(("start":Str),V.str (tx c))])=H3 at n T ⊢;clear B U;have a0:=n _ _ Z hl;refine au λN4 h4=>?_;walk_at "wp";refine⟨_,.inl (aT.of a0),λd j=>?_⟩;have M:d≠a:=λe=>by rw[e,T]at j;cases j
  have hlk0:d≠l:=λe=>by rw[e,a0]at j;cases j
  have sk:aA H3 (aB H3 d (.lst (q.map V.ref))):=ao j;have ek:aB H3 d (.lst (q.map V.ref)) d=some (.lst (q.map V.ref)):=af;have b1:H d=none:=by
   cases e:H d with
   |none=>rfl
   |some u=>rw[n _ _ M e]at j;cases j
  generalize aB H3 d (.lst (q.map V.ref))=H4 at sk ek ⊢;have d2:¬ (("signs":Str)="kept"):=by decide +kernel
  have d3:¬ (("start":Str)="kept"):=by decide +kernel
  have e4:cv "kept" (V.ref d) [(("signs":Str),V.str (tx b)),(("start":Str),V.str (tx c))]=[(("signs":Str),V.str (tx b)),(("start":Str),V.str (tx c)),(("kept":Str),V.ref d)]:=by simp only[cv,q06 d2,q06 d3]
  refine⟨C,g,_,sk _ _ T,cl,n3,by simp,?_⟩;rw[e4];refine h4 _ _ ?_;clear h4;have k:aS a H (aB H4 a (.ins C g [(("signs":Str),V.str (tx b)),(("start":Str),V.str (tx c)),(("kept":Str),V.ref d)])):=(n.then sk).put;have p:aB H4 a (.ins C g [(("signs":Str),V.str (tx b)),(("start":Str),V.str (tx c)),(("kept":Str),V.ref d)]) a=some (.ins C g [(("signs":Str),V.str (tx b)),(("start":Str),V.str (tx c)),(("kept":Str),V.ref d)]):=af;have S:aB H4 a (.ins C g [(("signs":Str),V.str (tx b)),(("start":Str),V.str (tx c)),(("kept":Str),V.ref d)]) d=some (.lst (q.map V.ref)):=by rw[ai M];exact ek
  generalize aB H4 a (.ins C g [(("signs":Str),V.str (tx b)),(("start":Str),V.str (tx c)),(("kept":Str),V.ref d)])=H5 at k p S ⊢;refine au λN5 h5=>?_;walk_at "wp";refine⟨tx c,l,q,I,rfl,k _ _ Z hl,J.upX ha k,hn,λi H6 t m hN hm a8 D=>?_⟩;have L:i≠a:=λe=>by rw[e,p]at m;cases m
  have hpk:i≠d:=λe=>by rw[e,S]at m;cases m
  have b0:H i=none:=by
   cases e:H i with
   |none=>rfl
   |some u=>rw[k _ _ L e]at m;cases m
  have a9:∀x∈t,H x.2.1=none:=λx hx=>by
   have o:=a8 x hx;cases e:H x.2.1 with
   |none=>rfl
   |some u=>rw[k _ _ (λz=>by rw[z,p]at o;cases o) e]at o;cases o
  have d4:¬ (("signs":Str)="numbers"):=by decide +kernel
  have d5:¬ (("start":Str)="numbers"):=by decide +kernel
  have d6:¬ (("kept":Str)="numbers"):=by decide +kernel
  have e6:cv "numbers" (V.ref i) [(("signs":Str),V.str (tx b)),(("start":Str),V.str (tx c)),(("kept":Str),V.ref d)]=fb b c d i:=by unfold fb;simp only[cv,q06 d4,q06 d5,q06 d6]
  have a4:=D _ _ p;refine⟨C,g,_,a4,cl,n4,by simp,?_⟩;rw[e6];refine h5 _ _ ?_;clear h5;have r:aS a H (aB H6 a (.ins C g (fb b c d i))):=(k.then D).put;have gf:pG R (aB H6 a (.ins C g (fb b c d i))) C g a b c q I d i t:=by
   refine⟨af,by rw[ai M];exact D _ _ S,J.upX ha r,⟨by rw[ai L];exact hN.dict,λx hx=>?_,hN.apart⟩,hm⟩;have hq:=hN.list x hx;rw[ai (λe=>by rw[e,a4]at hq;cases hq)];exact hq
  have a3:aB H6 a (.ins C g (fb b c d i)) a=some (.ins C g (fb b c d i)):=af;have a2:aB H6 a (.ins C g (fb b c d i)) i=some (.dK (qG t)):=by rw[ai L];exact hN.dict
  generalize aB H6 a (.ins C g (fb b c d i))=H7 at r gf a3 a2 ⊢;have Y:(qG t).length=(bA (tx c) I).length:=by rw[<- hm];unfold qG gX;rw[F3,F3]
  walk_at "wp";refine⟨C,g,_,a3,cl,n4,_,rfl,i,rfl,_,a2,?_⟩;rw[Y];rw[q06 ⋯];exact good H7 d i t r gf b1 b0 a9
abbrev eJ:Stmt:=o8 38 2
inductive dA(R:RC)(C:Addr)(vs:List V)(H:Hp)(Q:VK)(_E:XK):Prop
 |mk (a dx:Addr) (sg st:GZ) (as:G2) (rs:Yaa) (k:Nat) (b:Addr) (_:vs=[.ref a,.int (k:Int)]) (_:cW R H C dx a sg st as rs) (_:as[k]?=some b) (_:Q (.ref b) H)
theorem ph:aF ["self","k"] ["self","k"] (av eJ):=by walk_at "c"
theorem oO{R:RC}{f C:Addr}{fd:G4}(F:dO K "rule" "Grammar.rule" eJ f fd)(nb:NB mg)(cl:kt K C)(na:aC K C "signs"/\aC K C "start"/\aC K C "kept"/\aC K C "numbers"):bc P w K mg base bx 1 f fd ["self","k"] (dA R C):=by
 have sc:=ph;walk_at "f"
 ·obtain⟨a,j,sg,st,as,rs,k,b,rfl,g,e,q⟩:=h
  obtain⟨c,pn,t,i,d,hrs,hN,hm⟩:=id g;have hu:=hr.units;refine⟨_,(ag (aO (cg cq (cG (aw 0) rfl) (aw 1) (λ_ _=>rfl)))),?_⟩;walk_at "wp";exact⟨C,j,_,i,cl,na.2.2.1,_,rfl,c,rfl,_,aT.of d,_,bS (by rw[F5,e];rfl),q⟩
abbrev dF:Stmt:=o8 38 4
inductive fe(R:RC)(C:Addr)(vs:List V)(H:Hp)(Q:VK)(_E:XK):Prop
 |mk (a dx:Addr) (sg st:GZ) (as:G2) (rs:Yaa) (_:vs=[.ref a]) (_:cW R H C dx a sg st as rs) (_:∀l H',H l=none->H' l=some (.lst ((bA (tx st) rs).map λq=>V.str q.1))->aA H H'->Q (.ref l) H')
theorem mD:aF ["self"] ["self"] (av dF):=by walk_at "c"
theorem mz{R:RC}{f C:Addr}{fd:G4}(F:dO K "names" "Grammar.names" dF f fd)(nb:NB mg)(cl:kt K C)(na:aC K C "signs"/\aC K C "start"/\aC K C "kept"/\aC K C "numbers"):bc P w K mg base bx 1 f fd ["self"] (fe R C):=by
 have sc:=mD;walk_at "f"
 ·obtain⟨a,j,sg,st,as,rs,rfl,g,q⟩:=h
  obtain⟨lk,c,t,e,hk,hrs,i,d⟩:=id g;have hu:=hr.units;refine⟨_,(ag (aO (dl (sE rfl) rfl nb.list fW (ac (cG (aw 0) rfl) ad)))),?_⟩;walk_at "wp";refine⟨C,j,_,e,cl,na.2.2.2,_,rfl,c,rfl,_,i.dict,λl b=>q l _ b ?_ (ao b)⟩;rw[af,<- d];unfold qG gX;rw[Gf,Gf]
  rfl
abbrev dE:Stmt:=o8 38 1
inductive e_(R:RC)(C:Addr)(vs:List V)(H:Hp)(Q:VK)(_E:XK):Prop
 |mk (a dx:Addr) (sg st:GZ) (as:G2) (rs:Yaa) (_:vs=[.ref a]) (_:cW R H C dx a sg st as rs) (_:∀l H',H l=none->H' l=some (.lst (as.map V.ref))->aA H H'->Q (.ref l) H')
theorem mv:aF ["self"] ["self"] (av dE):=by walk_at "c"
theorem mH{R:RC}{f C:Addr}{fd:G4}(F:dO K "rules" "Grammar.rules" dE f fd)(nb:NB mg)(cl:kt K C)(na:aC K C "signs"/\aC K C "start"/\aC K C "kept"/\aC K C "numbers"):bc P w K mg base bx 1 f fd ["self"] (e_ R C):=by
 have sc:=mv;walk_at "f"
 ·obtain⟨a,j,sg,st,as,rs,rfl,g,q⟩:=h
  obtain⟨c,pn,t,i,e,hrs,hN,hm⟩:=id g;have hu:=hr.units;refine⟨_,(ag (aO (dl cH rfl nb.list fW (ac (cG (aw 0) rfl) ad)))),?_⟩;walk_at "wp";exact⟨C,j,_,i,cl,na.2.2.1,_,rfl,c,rfl,_,.inl (aT.of e),λd b=>q d _ b af (ao b)⟩
abbrev kQ:Stmt:=gZ 13
inductive nw(K:W.Frag)(vs:List V)(H:Hp)(Q:VK)(_E:XK):Prop
 |mk (a:Addr) (p:aD) (_:vs=[.ref a]) (_:aT K H a (aq p)) (_:d0 p) (_:fw H (mirror p) Q)
theorem u3:aF ["picture"] ["picture"] (av kQ):=by walk_at "c"
theorem vM{f:Addr}{fd:G4}(F:dO K "mirror" "mirror" kQ f fd)(nb:NB mg):bc P w K mg base bx 1 f fd ["picture"] (nw K):=by
 have sc:=u3;walk_at "f"
 ·obtain⟨a,p,rfl,j,g,q⟩:=h
  refine⟨_,(ag (aO (cO ["row"] [] rfl (bM.of (by kernel_rfl)) (by kernel_rfl) (bL (aw 0))
    (λ_ _ _ _=>(aE (i:=0) (by show(["row"]:List Str).Nodup;decide +kernel) rfl (Or.inl rfl))) (λ_ _ _ _=>cU) (λ_ _ _ _=>(r9 rfl rfl nb.reversed (ac (aw 0) ad)))))),?_⟩
  walk_at "wp";refine⟨⟨_,j⟩,dI (xs:=aq p) (λi b σ d=>d=H/\b=aq (mirror (p.take i))/\i<=p.length/\∃x,σ=[x]) ⟨rfl,rfl,Gr _,_,rfl⟩ ?_ ?_ ?_ ?_ ?_⟩
  ·rintro i b σ d ⟨_,rfl,_⟩
   refine aY ?_;rw[al];unfold mirror;rw[F3,GG];have:=g.1;omega
  ·rintro i b σ d ⟨_,_,h,_⟩
   rw[al];exact h
  ·rintro i b σ d ⟨rfl,_⟩
   exact j
  ·rintro i x b σ d e ⟨rfl,rfl,hi,y,rfl⟩
   have c:i<p.length:=by have:=(F0.mp e).1;rwa [al]at this
   rw[bW c]at e;cases e;have hr:=g.2 _ (F_ c);walk_at "wp";refine⟨by rw[aG];omega,nofun,?_,c⟩;rw[c_,nu,q0E,FZ c];unfold mirror;rw[Gc];exact(ci _ _).symm
  ·rintro b σ d ⟨rfl,rfl,_⟩ l c
   rw[al,GF];exact q l _ c af (ao c)
abbrev cL:Stmt:=gZ 15
inductive m8(K:W.Frag)(vs:List V)(H:Hp)(Q:VK)(_E:XK):Prop
 |mk (a:Addr) (p:aD) (i:Nat) (_:vs=[.ref a,.int (i:Int)]) (_:aT K H a (aq p)) (_:d0 p) (_:(∀r∈p,i<r.length)) (_:∀H',aA H H'->Q (.str (tx (uA p i))) H')
theorem vW:aF ["picture","i"] ["picture","i"] (av cL):=by walk_at "c"
theorem vD{f:Addr}{fd:G4}(F:dO K "column_from_below" "column_from_below" cL f fd)(nb:NB mg):bc P w K mg base bx 1 f fd ["picture","i"] (m8 K):=by
 have sc:=vW;walk_at "f"
 ·obtain⟨a,p,i,rfl,v,m,z,q⟩:=h
  refine⟨_,(ag (aO (@qm _ _ _ _ _ _ _ _ (ac (cO ["row"] [1] rfl (bM.of (by kernel_rfl)) (by kernel_rfl) (Bf rfl nb.reversed (ac (aw 0) ad))
    (λ_ _ _ _=>(aE (i:=0) (by show(["row","i"]:List Str).Nodup;decide +kernel) rfl (Or.inl rfl))) (λ_ _ _ _=>cU) (λ_ _ _ _=>(cg pH (aw 0) (aw 1) (λ_ _=>rfl)))) ad) rfl rfl))),?_⟩
  walk_at "wp";have hd:∀n,((p.reverse.take n).map λr=>V.str ⟨#[r.getD i 0]⟩)=(((p.reverse.take n).map λr=>r.getD i 0).map λc=>(⟨#[c]⟩:Str)).map V.str:=λn=>by rw[Gf,Gf];rfl
  refine⟨rfl,_,v,yp (xs:=aq p) (λn b σ g=>g=H/\b=((p.reverse.take n).map λr=>V.str ⟨#[r.getD i 0]⟩)/\n<=p.length/\∃x,σ=[x,some (.int (i:Int))]) ⟨rfl,rfl,Gr _,_,rfl⟩ ?_ ?_ ?_ ?_ ?_⟩
  ·rintro n b σ g ⟨_,rfl,_⟩
   refine aY ?_;rw[F3,GG];have:=m.1;rw[Gj];omega
  ·rintro n b σ g ⟨_,_,h,_⟩
   rw[al];exact h
  ·rintro n b σ g ⟨rfl,_⟩
   exact v
  ·rintro n x b σ g o ⟨rfl,rfl,hn,y,rfl⟩
   have d:n<p.reverse.length:=by
    have:=(F0.mp o).1
    rwa [Gj,al,<- Gj (as:=p)]at this
   have j:(aq p.reverse)[n]?=some x:=by unfold aq at o ⊢;rwa [List.map_reverse]
   rw[bW d]at j;cases j;have u:p.reverse[n]∈p:=List.mem_reverse.mp (F_ d);have hr:=m.2 _ u;have k:=z _ u;walk_at "wp";have B:(tx p.reverse[n]).cps.toList[i]?=some (p.reverse[n].getD i 0):=by rw[c_,q0A,FZ k];rfl
   refine⟨by rw[aG];exact aM ⋯,_,bS B,?_,by rw[Gj]at d;exact d⟩;rw[q0E,FZ d,Gc]
   rfl
  ·rintro b σ g ⟨rfl,rfl,_⟩ l d
   rw[al,<- Gj (as:=p),GF]at *;refine⟨(uA p i).map λc=>(⟨#[c]⟩:Str),.inl (aT.of ?_),?_,?_⟩
   ·rw[af];unfold uA;rw[Gf,Gf];rfl
   ·rw[Gf]
    have e:((λy:Str=>y.length)∘λc=>(⟨#[c]⟩:Str))=λ_=>1:=by funext c;rfl
    rw[e,List.map_const',List.sum_replicate_nat,F3];have C:(Str.ofString "").length=0:=rfl;rw[C];have:=m.1;unfold uA;rw[F3,Gj];omega
   ·rw[nu];exact q _ (ao d)
abbrev jr:Stmt:=gZ 14
inductive fN(K:W.Frag)(vs:List V)(H:Hp)(Q:VK)(_E:XK):Prop
 |mk (a:Addr) (p:aD) (r c:Nat) (_:vs=[.ref a]) (_:aT K H a (aq p)) (_:rect p r c) (_:0<r) (_:r<=64) (_:c<=64) (_:fw H (aP p) Q)
theorem tm:aF ["picture"] ["picture"] (av jr):=by walk_at "c"
theorem sN{f:Addr}{fd:G4}(F:dO K "quarter" "quarter" jr f fd)(nb:NB mg)(yaE:eX P w K mg base bx 1 "column_from_below" ["picture","i"] (m8 K)):bc P w K mg base bx 2 f fd ["picture"] (fN K):=by
 have sc:=tm;walk_at "f"
 ·obtain⟨a,p,r,c,rfl,C,g,e,o,u,q⟩:=h
  refine⟨_,(ag (aO (cO ["i"] [0] rfl (bM.of (by kernel_rfl)) (by kernel_rfl) (bV rfl nb.range (ac (aN bY rfl nb.len cy (ac (cg cq (aw 0) am (λ_ _=>rfl)) ad)) ad))
    (λ_ _ _ _=>(aE (i:=0) (by show(["i","picture"]:List Str).Nodup;decide +kernel) rfl (Or.inl rfl))) (λ_ _ _ _=>cU) (λ_ _ _ _=>(aH yaE (hr.mono nofun) rfl aL (ac (aw 1) (ac (aw 0) ad))))))),?_⟩
  walk_at "wp";have j:0<p.length:=by rw[g.1];exact e
  have v:(p[0]).length=c:=g.2 _ (F_ j);have G:(p.headD []).length=c:=aW g e;refine⟨_,C,_,bS (bW j),_,rfl,by rw[aG];exact aM ⋯,by rw[aG];omega,by rw[aG];omega,?_⟩;rw[aG,v,F'];refine il (lo:=0) (n:=c) (λi b σ k=>aA H k/\b=aq ((List.range i).map (uA p))/\i<=c/\∃x,σ=[x,some (.ref a)]) ⟨aA.refl _,rfl,Gr _,_,rfl⟩ ?_ ?_ ?_ ?_
  ·rintro i b σ k ⟨_,rfl,_⟩
   refine aY ?_;rw[al,F3,q0J];omega
  ·rintro i b σ k ⟨_,_,h,_⟩
   exact h
  ·rintro i b σ k B ⟨d,rfl,_,y,rfl⟩
   walk_at "wp";refine⟨a,p,i,by simp,d.seq C,d0.of g o u,λx D=>by rw[g.2 x D];exact B,λH2 m=>⟨d.trans m,?_,B⟩⟩;rw[q0M,Gc];exact(ci _ _).symm
  ·rintro b σ k ⟨d,rfl,_⟩ l z
   refine q l _ (d.free z) ?_ (d.trans (ao z));rw[af];unfold aP;rw[G]
abbrev kF:Stmt:=gZ 12
inductive jf(K:W.Frag)(vs:List V)(H:Hp)(Q:VK)(_E:XK):Prop
 |mk (a:Addr) (p:aD) (r c t:Nat) (_:vs=[.ref a,.int (t:Int)]) (_:aT K H a (aq p)) (_:rect p r c) (_:0<r) (_:0<c) (_:r<=64) (_:c<=64) (_:t<8) (_:fw H (turned p t) Q)
theorem u6:aF ["picture","t","result","step"] ["picture","t"] (av kF):=by walk_at "c"
theorem vA{f:Addr}{fd:G4}(F:dO K "turned" "turned" kF f fd)(nb:NB mg)(yaJ:eX P w K mg base bx 1 "mirror" ["picture"] (nw K))(yaq:eX P w K mg base bx 2 "quarter" ["picture"] (fN K)):bc P w K mg base bx 3 f fd ["picture","t"] (jf K):=by
 have sc:=u6;walk_at "f"
 ·obtain⟨a,p,r,c,t,rfl,hS,hp,hr0,hc0,hr1,hc1,ht,q⟩:=h
  refine⟨_,(ae (q01 2 sc.nd (dl cH rfl nb.list fW (ac (pv 0) ad)))
   (ae (cz (bE C5 (pv 1) am (b_ _))
   (ag (q01 2 sc.nd (aH yaJ (hr.mono nofun) rfl aL (ac (pv 2) ad))))
   bi)
   (ae (ba PassesOwn.never rfl (bV rfl nb.range (ac (ay bv (pv 1) am) ad)) (q02 3 sc.nd)
   (ag (q01 2 sc.nd (aH yaq (hr.mono nofun) rfl aL (ac (pv 2) ad)))))
   (ag (aO (pv 2)))))),?_⟩
  walk_at "wp"
  -- the aK,from the list at l
  have loop:∀(l:Addr) (p':aD) (H1:Hp),H l=none->H1 l=some (.lst (aq p'))->aA H H1->rect p' r c->turned p t=aK (t%4) p' ->
    ∀(g:TG) (tb:TS) (D:fE),g=iI 3->tb=xy (k8 (fN K) [] E0 (jS (yB 2) l9)) (iI 2)->(∀σ' H' v,σ'[2]?=some (some v)->Q v H'->D.nx σ' H')->u9 (vk 0 ((t:Int)%4).toNat) g tb D [some (V.ref a),some (V.int t),some (V.ref l),none] H1:=by
   intro l p' H1 hl h1 sm hp' et g tb D hg htb hD;subst hg htb;have e4:((t:Int)%4).toNat=t%4:=by omega
   rw[e4];refine b5 (λi σ H2=>∃(l2:Addr) (x:Option V),σ=[some (V.ref a),some (V.int t),some (V.ref l2),x]/\H l2=none/\H2 l2=some (.lst (aq (aK i p')))/\aA H H2) ⟨l,none,rfl,hl,h1,sm⟩ ?_ ?_
   ·rintro i σ H2 hi ⟨l2,x,rfl,h2,h3,sm2⟩
    walk_at "wp";have hq:=cr i hp' hr0 hc0;have gp:∀r' c',rect (aK i p') r' c'->0<r'->r'<=64->c'<=64->fN K [V.ref l2] H2 (λx_1 H1=>∃l2,x_1=V.ref l2/\H l2=none/\H1 l2=some (HO.lst (aq (aK (i+1) p')))/\aA H H1) E0:=λr' c' h4 h5 h6 h7=>
     ⟨l2,aK i p',r',c',rfl,aT.of h3,h4,h5,h6,h7,λl3 H3 h8 h9 sm3=>⟨l3,rfl,sm2.free h8,by rw[h9,<- bX 1 i p'];rfl,sm2.trans sm3⟩⟩
    by_cases md:i%2=0
    ·rw[q07 md,q07 md]at hq
     exact gp r c hq hr0 hr1 hc1
    ·rw[q06 md,q06 md]at hq
     exact gp c r hq hc0 hc1 hr1
   ·rintro σ H2 ⟨l2,x,rfl,h2,h3,sm2⟩
    exact hD _ _ _ rfl (q l2 H2 h2 (by rw[h3,et]) sm2)
  refine⟨_,.inl hS,λl hl=>?_⟩
  split
  ·rename_i h4
   refine⟨l,p,rfl,aT.of af,d0.of hp hr1 hc1,λl2 H2 h2 h3 sm2=>⟨⋯,⋯,?_⟩⟩;refine loop l2 (mirror p) H2 ((ao hl).free h2) h3 ((ao hl).trans sm2) (bC hp) (by unfold turned;rw[q07 ⋯]) _ _ _ rfl rfl ?_;intro σ' H' v e hq;exact⟨v,e,hq⟩
  ·rename_i h4
   refine⟨⋯,⋯,?_⟩;refine loop l p _ hl af (ao hl) hp (by unfold turned;rw[q06 ⋯]) _ _ _ rfl rfl ?_;intro σ' H' v e hq;exact⟨v,e,hq⟩
theorem ki{k:Nat}(h:k<4):k=0\/k=1\/k=2\/k=3:=by omega
structure qI(r:Nat×RV):Prop where
 k4:r.1<4
 k0:r.1=0
 good:r.2.good
 small:r.2.small
structure qz(p:aD)(sg:GZ)(r:Nat×RV):Prop where
 good:qI r
 n:r.2.n∈p
 o1:r.2.o1∈p
 o2:r.2.o2∈p
 sg:∃c∈sg,r.2.sg=[c]
def addNew(ks:G6)(z:Str):List Str:=if z∈ks then ks else ks++[z]
theorem nM(m:List (Str×List Nat))(z:Str):(bI m z).map (·.1)=addNew (m.map (·.1)) z:=by
 unfold bI addNew
 split
 ·rfl
 ·rw[Gc];rfl
theorem kP:∀(zs:G6) (m:List (Str×List Nat)),(zs.foldl bI m).map (·.1)=zs.foldl addNew (m.map (·.1))
 | [],_=>rfl
 |z::zs,m=>by rw[List.foldl_cons,List.foldl_cons,kP zs,nM]
theorem uZ(m:List (Str×List Nat))(i:Nat)(r:Nat×RV):(dq m i r).map (·.1)=(tx r.2.n::(bK r.1 r.2).map tx).foldl addNew (m.map (·.1)):=by
 unfold dq;rw[kP,fX,nM,List.foldl_cons]
def lY(z:Str)(rs:Yaa):List Nat:=rs.zipIdx.filterMap λx=>if tx x.1.2.n=z then some x.2 else none
theorem tI(z:Str)(rs:Yaa)(r:Nat×RV):lY z (rs++[r])=lY z rs++if tx r.2.n=z then[rs.length] else[]:=by
 unfold lY;rw[List.zipIdx_append,List.filterMap_append]
 congr 1
 simp
 split<;>rename_i h<;>simp[h]
theorem r_{z:Str}:∀{rs:Yaa},(∀r∈rs,tx r.2.n≠z)->lY z rs=[]:=by
 intro rs h;unfold lY;rw[List.filterMap_eq_nil_iff];intro x a;rw[q06 (h x.1 (List.fst_mem_of_mem_zipIdx a))]
structure NI(rs:Yaa)(m:List (Str×List Nat)):Prop where
 nd:(m.map (·.1)).Nodup
 ix:∀q∈m,q.2=lY q.1 rs
 all:∀r∈rs,tx r.2.n∈m.map (·.1)
theorem lu{m:List (Str×List Nat)}{z y:Str}:y∈(bI m z).map (·.1)↔y∈m.map (·.1)\/y=z:=by
 unfold bI
 split
 ·rename_i h
  exact⟨λq=>.inl q,λq=>q.elim id λe=>e▸h⟩
 ·rw[Gc,Gd];simp
theorem NI.name{rs:Yaa}{m:List (Str×List Nat)}(h:NI rs m)(z:Str):NI rs (bI m z):=by
 refine⟨iA h.nd,λq hq=>?_,λr hr=>lu.mpr (.inl (h.all r hr))⟩;unfold bI at hq
 split at hq
 ·exact h.ix q hq
 ·rename_i hz
  rcases Gd.mp hq with q1 | q1
  ·exact h.ix q q1
  ·rw[F4.mp q1]
   exact(r_ (z:=z) λr hr e=>hz (by rw[<- e];exact h.all r hr)).symm
theorem NI.names{rs:Yaa}:∀(zs:G6) {m:List (Str×List Nat)},NI rs m->NI rs (zs.foldl bI m)
 | [],_,h=>h
 |z::zs,m,h=>NI.names zs (h.name z)
theorem NI.put{rs:Yaa}{m:List (Str×List Nat)}{r:Nat×RV}(h:NI rs m)(hn:tx r.2.n∈m.map (·.1)):NI (rs++[r]) (gs m (tx r.2.n) rs.length):=by
 refine⟨by rw[fX];exact h.nd,λq b=>?_,λd a=>?_⟩
 ·unfold gs at b
  obtain⟨p,c,rfl⟩:=GM.mp b;rw[tI]
  by_cases e:p.1=tx r.2.n
  ·rw[q07 e]
   show p.2++[rs.length]=lY p.1 rs++_;rw[q07 e.symm,h.ix p c]
  ·rw[q06 e,q06 (λz=>e z.symm),GB]
   exact h.ix p c
 ·rw[fX]
  rcases Gd.mp a with q | q
  ·exact h.all d q
  ·rw[F4.mp q];exact hn
theorem jH(z:Str):∀(n:Nat) (rs:Yaa),rs.length=n->NI rs (bA z rs)
 |0,rs,h=>by
  rw[GL.mp h];exact⟨by simp[bA,d7],λq hq=>by rw[show q=(z,[]) by simpa[bA,d7]using hq];rfl,λr hr=>nomatch hr⟩
 |n+1,rs,h=>by
  obtain⟨rs',r,rfl⟩:∃rs' r,rs=rs'++[r]:=⟨rs.dropLast,rs.getLast (by intro e;rw[e]at h;cases h),(List.dropLast_concat_getLast _).symm⟩;have hl:rs'.length=n:=by rw[Gp,q0Z]at h;omega
  have a:=jH z n rs' hl;unfold bA at a ⊢;rw[eD,Nat.zero_add];unfold dq;exact((a.name (tx r.2.n)).put (lu.mpr (.inr rfl))).names _
def BY(rs:Yaa):List ThM.NR:=rs.map λr=>(tx r.2.n,(bK r.1 r.2).map tx)
theorem tK{ks:G6}{z y:Str}:y∈addNew ks z↔y∈ks\/y=z:=ThM.mem_addNew
theorem iG{y:Str}:∀(zs ks:G6),y∈zs.foldl addNew ks↔y∈ks\/y∈zs
 | [],ks=>by simp
 |z::zs,ks=>by
  rw[List.foldl_cons,iG zs,tK,Gg];exact⟨λh=>h.elim (λh=>h.elim .inl λe=>.inr (.inl e)) λh=>.inr (.inr h),λh=>h.elim (λh=>.inl (.inl h)) λh=>h.elim (λe=>.inl (.inr e)) .inr⟩
theorem vp(z:Str)(rs:Yaa)(r:Nat×RV):(bA z (rs++[r])).map (·.1)=(tx r.2.n::(bK r.1 r.2).map tx).foldl addNew ((bA z rs).map (·.1)):=by
 unfold bA;rw[eD,uZ]
theorem xE{α:Type}{P:List α->Prop}(h0:P [])(h1:∀rs r,P rs->P (rs++[r]))(rs:List α):P rs:=by
 have:∀(n:Nat) (rs:List α),rs.length=n->P rs:=by
  intro n
  induction n with
  |zero=>intro rs h;rw[GL.mp h];exact h0
  |succ n ih=>
   intro rs h;have a:rs≠[]:=by intro e;rw[e]at h;cases h
   rw[<- List.dropLast_concat_getLast a];exact h1 _ _ (ih _ (by rw[List.length_dropLast];omega))
 exact this _ rs rfl
theorem iH(z:Str)(rs:Yaa):∀y,y∈(bA z rs).map (·.1)↔y=z\/∃r∈BY rs,y=r.1\/y∈r.2:=by
 refine xE (P:=λrs=>∀y,y∈(bA z rs).map (·.1)↔y=z\/∃r∈BY rs,y=r.1\/y∈r.2) ?_ ?_ rs
 ·intro y
  have e:(bA z []).map (·.1)=[z]:=rfl;rw[e];unfold BY;simp
 ·intro rs r a y
  rw[vp,iG,a y,Gg];unfold BY;rw[Gc]
  constructor
  ·rintro((h | ⟨q,hq,h⟩) | h)
   ·exact .inl h
   ·exact .inr ⟨q,Gd.mpr (.inl hq),h⟩
   ·exact .inr ⟨_,Gd.mpr (.inr (F4.mpr rfl)),h⟩
  ·rintro(h | ⟨q,hq,h⟩)
   ·exact .inl (.inl h)
   ·rcases Gd.mp hq with hq | hq
    ·exact .inl (.inr ⟨q,hq,h⟩)
    ·rw[F4.mp hq]at h
     exact .inr h
theorem Ah{sg:GZ}{c:Nat}(h:c∈sg):Ck (tx sg) (tx [c])=true:=by
 have:=StrLaws.found_one (tx sg) c;show(!(Builtin.Str.occurrences (tx sg) ⟨#[c]⟩ 0 (tx sg).length 1).isEmpty)=true;rw[this,c_,q09 h]
theorem iQ{sg:GZ}:∀{rs:Yaa} {j:Nat},(∀r∈rs,∃c∈sg,r.2.sg=[c])->eR (tx sg) rs j=none
 | [],_,_=>rfl
 |r::rs,j,h=>by
  obtain⟨c,hc,e⟩:=h r q0B;unfold eR;rw[q06 (λz=>by rw[e,Ah hc]at z;exact q0Q z.2 nofun)];exact iQ λr' hr'=>h r' (Gh _ hr')
theorem vE{p:aD}{sg st:GZ}{rs:Yaa}(hsg:gH sg=true)(hst:st∈p)(hpn:∀r∈p,df r=true)(hp:p.length<=8)(hn:rs.length<=24)(hr:∀r∈rs,qz p sg r):ot sg st rs=none:=by
 have i:ge sg st rs=none:=by
  unfold ge;rw[q06 (by rw[hsg];decide),q06 (by rw[hpn _ hst];decide),q06 ⋯,iQ λr h=>(hr r h).sg]
 unfold ot;rw[i];simp only[];rw[q06];have g:∀z∈(bA (tx st) rs).map (·.1),z∈p.map tx:=λz d=>by
  rcases(iH _ _ _).mp d with e | ⟨q,c,e⟩
  ·rw[e];exact List.mem_map_of_mem hst
  ·unfold BY at c
   obtain⟨r,b,rfl⟩:=GM.mp c;have R:=hr r b;rcases e with e | e
   ·rw[e];exact List.mem_map_of_mem R.n
   ·obtain⟨y,a,rfl⟩:=GM.mp e
    refine List.mem_map_of_mem ?_;obtain⟨k,v⟩:=r;rcases ki R.good.k4 with rfl | rfl | rfl | rfl
    ·exact q0Q a List.not_mem_nil
    ·rcases(show y=v.o1\/y=v.o2 by simpa[bK]using a) with rfl | rfl
     ·exact R.o1
     ·exact R.o2
    ·rcases(show y=v.o1\/y=v.o2 by simpa[bK]using a) with rfl | rfl
     ·exact R.o1
     ·exact R.o2
    ·rw[show y=v.o1 by simpa[bK]using a];exact R.o1
 have:=ThM.nd_len (jH (tx st) _ rs rfl).nd g;rw[F3,F3]at this;omega
theorem aV.zip{R:RC}{H:Hp}{as:G2}{rs:Yaa}(h:aV R H as rs):(as.zip rs).map (λx=>V.ref x.1)=as.map V.ref/\(as.zip rs).map (·.2)=rs/\∀x∈as.zip rs,fg R H x.2.1 x.1 x.2.2:=by
 refine⟨?_,List.map_snd_zip (by have:=h.1;omega),λx b=>?_⟩
 ·have e:(as.zip rs).map (λx=>V.ref x.1)=((as.zip rs).map Prod.fst).map V.ref:=by rw[Gf];rfl
  rw[e,List.map_fst_zip (by have:=h.1;omega)]
 ·obtain⟨i,c,e⟩:=List.mem_iff_getElem.mp b
  have a:(as.zip rs)[i]?=some x:=by rw[FZ c,e]
  rw[List.getElem?_zip_eq_some]at a;exact h.2 i x.1 x.2 a.1 a.2
structure Ee(K:W.Frag)(C:Addr):Prop where
 cl:iT K C
 na:aC K C "signs"/\aC K C "start"/\aC K C "kept"/\aC K C "numbers"
abbrev pj:Stmt:=gZ 6
theorem BD(x:Str):x=tx x.cps.toList:=by unfold tx;simp
theorem zy(p:aD):Txt.join (Str.ofString "/") (p.map tx)=tx (SpM.glue 47 p):=by
 have e:(Txt.join (Str.ofString "/") (p.map tx)).cps.toList=SpM.glue 47 p:=by
  have h:=SpM.join_glue 47 (p.map tx);rw[Gf]at h;have a:((λy:Str=>y.cps.toList)∘tx)=id:=by funext r;exact c_ r
  rw[a,List.map_id]at h;exact h
 rw[<- e];exact BD _
inductive gP(K:W.Frag)(vs:List V)(H:Hp)(Q:VK)(_E:XK):Prop
 |mk (a:Addr) (p:aD) (_:vs=[.ref a]) (_:H a=some (.lst (aq p))) (_:d0 p) (_:Q (.str (tx (SpM.glue 47 p))) H)
theorem xt:aF ["picture"] ["picture"] (av pj):=by walk_at "c"
theorem fo:∀{p:aD} {n:Nat},(∀r∈p,r.length<=n)->((p.map tx).map λy:Str=>y.length).sum<=p.length*n
 | [],n,_=>by simp
 |r::p,n,h=>by
  have h1:=h r (by simp);have h2:=fo (p:=p) (n:=n) λx hx=>h x (by simp[hx]);simp only[Gx,List.sum_cons,aG,Gb];rw[Nat.succ_mul];omega
theorem yg{f:Addr}{fd:G4}(F:dO K "shown" "shown" pj f fd):bc P w K mg base bx 1 f fd ["picture"] (gP K):=by
 have sc:=xt;walk_at "f"
 ·obtain⟨a,p,rfl,c,b,q⟩:=h
  refine⟨_,(ag (aO (@qm _ _ _ _ _ _ _ _ (ac (aw 0) ad) rfl rfl))),?_⟩;walk_at "wp";refine⟨rfl,p.map tx,.inl (by rw[<- dg];exact aT.of c),?_,?_⟩
  ·have:=fo b.2
   have h1:=b.1;have d:(Str.ofString "/").length=1:=rfl;rw[F3,d];have h2:p.length*64<=64*64:=Nat.mul_le_mul_right _ h1;omega
  ·rw[zy];exact q
abbrev kW:Stmt:=gZ 9
def nh(sb:Bool)(p:aD)(n:Nat):aD:=if sb=true then p.map (List.take n) else p.take n
def jd(sb:Bool)(p:aD)(n:Nat):aD:=if sb=true then p.map (List.drop n) else p.drop n
inductive mJ(K:W.Frag)(vs:List V)(H:Hp)(Q:VK)(_E:XK):Prop
 |mk (sb:Bool) (a:Addr) (p:aD) (r c n:Nat) (_:vs=[.ref a,.bl sb,.int (n:Int)]) (_:aT K H a (aq p)) (_:rect p r c) (_:r<=6) (_:c<=6) (_:n<=(if sb=true then c else r)) (_:∀(t l1 l2:Addr) (H':Hp),H t=none->H l1=none->H l2=none->l1≠l2->H' t=some (.tup [.ref l1,.ref l2])->H' l1=some (.lst (aq (nh sb p n)))->H' l2=some (.lst (aq (jd sb p n)))->aA H H'->Q (.ref t) H')
theorem uQ:aF ["picture","side_by_side","at"] ["picture","side_by_side","at"] (av kW):=by walk_at "c"
theorem yq{row:GZ}{n:Nat}(h:n<=row.length):Txt.slice (tx row) none (some (n:Int))=tx (row.take n):=by
 rw[jl,HT.sIx_nat,GU h];show tx ((row.drop 0).take (n-0))=_;rw[GV,Nat.sub_zero]
theorem tQ{row:GZ}{n:Nat}(h:n<=row.length):Txt.slice (tx row) (some (n:Int)) none=tx (row.drop n):=by
 rw[jl,HT.sIx_nat,GU h];show tx ((row.drop n).take (row.length-n))=_;rw[q0F (by rw[GH];omega)]
theorem A8{p:aD}{n:Nat}(h:n<=p.length):mh (aq p) none (some (n:Int))=aq (p.take n):=by
 unfold mh;rw[HT.sIx_nat,al,GU h];show((aq p).drop 0).take (n-0)=_;rw[GV,Nat.sub_zero];unfold aq;rw[List.map_take]
theorem xL{p:aD}{n:Nat}(h:n<=p.length):mh (aq p) (some (n:Int)) none=aq (p.drop n):=by
 unfold mh;rw[HT.sIx_nat,al,GU h];show((aq p).drop n).take (p.length-n)=_;rw[q0F (by rw[GH,al];omega)];unfold aq;rw[List.map_drop]
theorem vx{f:Addr}{fd:G4}(F:dO K "parted" "parted" kW f fd)(nb:NB mg):bc P w K mg base bx 1 f fd ["picture","side_by_side","at"] (mJ K):=by
 have sc:=uQ;walk_at "f"
 ·obtain⟨L,a,p,r,c,n,rfl,C,B,hr1,hc1,G,q⟩:=h
  refine⟨_,(ae (cz (dL (aw 1) λ_=>rfl)
   (ag (aO (dk (ac (cO ["row"] [2] rfl (bM.of (by kernel_rfl)) (by kernel_rfl) (bL (aw 0))
    (λ_ _ _ _=>(aE (i:=0) (by show(["row","at"]:List Str).Nodup;decide +kernel) rfl (Or.inl rfl))) (λ_ _ _ _=>cU) (λ_ _ _ _=>(fk rH (aw 0) kn (eQ (aw 1))))) (ac (cO ["row"] [2] rfl (bM.of (by kernel_rfl)) (by kernel_rfl) (bL (aw 0))
    (λ_ _ _ _=>(aE (i:=0) (by show(["row","at"]:List Str).Nodup;decide +kernel) rfl (Or.inl rfl))) (λ_ _ _ _=>cU) (λ_ _ _ _=>(fk rH (aw 0) (eQ (aw 1)) kn))) ad)))))
   bi)
   (ag (aO (dk (ac (fk oq (aw 0) kn (eQ (aw 2))) (ac (fk oq (aw 0) (eQ (aw 2)) kn) ad)))))),?_⟩
  walk_at "wp";cases L with
  |true=>
   rw[q07 rfl]at G ⊢;refine⟨⟨_,C⟩,dI (xs:=aq p) (λi b σ m=>m=H/\b=aq ((p.take i).map (List.take n))/\i<=p.length/\∃y,σ=[y,some (V.int (n:Int))]) ⟨rfl,rfl,Gr _,_,rfl⟩ ?_ ?_ ?_ ?_ ?_⟩
   ·rintro i b σ m ⟨_,rfl,J,_⟩
    rw[al,F3,GG];exact aY (by rw[B.1]at *;omega)
   ·rintro i b σ m ⟨_,_,h,_⟩
    rw[al];exact h
   ·rintro i b σ m ⟨rfl,_⟩
    exact C
   ·rintro i v b σ m z ⟨rfl,rfl,J,y,rfl⟩
    have u:i<p.length:=by have:=(F0.mp z).1;rwa [al]at this
    rw[bW u]at z;cases z;have D:=B.2 _ (F_ u);walk_at "wp";refine⟨by rw[aG];exact aM ⋯,?_,u⟩;rw[yq ⋯,q0E,FZ u,Gc];exact(ci _ _).symm
   ·rintro b σ m ⟨rfl,rfl,_⟩ g k
    rw[al,GF];have j:aA m (aB m g (HO.lst (aq (p.map (List.take n))))):=ao k;have h1:aB m g (HO.lst (aq (p.map (List.take n)))) g=some (HO.lst (aq (p.map (List.take n)))):=af;generalize aB m g (HO.lst (aq (p.map (List.take n))))=H1 at j h1 ⊢;refine⟨⟨_,j.seq C⟩,dI (xs:=aq p) (λi b σ H2=>H2=H1/\b=aq ((p.take i).map (List.drop n))/\i<=p.length/\∃y,σ=[y,some (V.int (n:Int))]) ⟨rfl,rfl,Gr _,_,rfl⟩ ?_ ?_ ?_ ?_ ?_⟩
    ·rintro i b σ H2 ⟨_,rfl,J,_⟩
     rw[al,F3,GG];exact aY (by rw[B.1]at *;omega)
    ·rintro i b σ H2 ⟨_,_,h,_⟩
     rw[al];exact h
    ·rintro i b σ H2 ⟨rfl,_⟩
     exact j.seq C
    ·rintro i v b σ H2 z ⟨rfl,rfl,J,y,rfl⟩
     have u:i<p.length:=by have:=(F0.mp z).1;rwa [al]at this
     rw[bW u]at z;cases z;have D:=B.2 _ (F_ u);walk_at "wp";refine⟨by rw[aG];exact aM ⋯,?_,u⟩;rw[tQ ⋯,q0E,FZ u,Gc];exact(ci _ _).symm
    ·rintro b σ H2 ⟨rfl,rfl,_⟩ x e
     rw[al,GF];refine⟨aM ⋯,λt l=>?_⟩;have I:g≠x:=ax h1 e;have d:∀o,aA H2 (aB H2 x o):=λo=>ao e;refine q t g x _ ?_ k (j.free e) I af ?_ ?_ ((j.trans (d _)).trans (ao l))
     ·exact j.free ((d _).free l)
     ·exact(ao l) _ _ ((d _) _ _ h1)
     ·exact(ao l) _ _ af
  |false=>
   rw[q06 nofun]at G ⊢;refine⟨_,C,λg k=>?_⟩;rw[A8 (by rw[B.1];exact G)];have j:aA H (aB H g (HO.lst (aq (p.take n)))):=ao k;have h1:aB H g (HO.lst (aq (p.take n))) g=some (HO.lst (aq (p.take n))):=af;generalize aB H g (HO.lst (aq (p.take n)))=H1 at j h1 ⊢;refine⟨_,j.seq C,λx e=>⟨aM ⋯,λt l=>?_⟩⟩;rw[xL (by rw[B.1];exact G)]at l ⊢;have I:g≠x:=ax h1 e;have d:∀o,aA H1 (aB H1 x o):=λo=>ao e;refine q t g x _ ?_ k (j.free e) I af ?_ ?_ ((j.trans (d _)).trans (ao l))
   ·exact j.free ((d _).free l)
   ·exact(ao l) _ _ ((d _) _ _ h1)
   ·exact(ao l) _ _ af
abbrev fR:Stmt:=gZ 7
def bw(H:Hp):List Addr->List Wn->Prop
 | [],[]=>True
 |b::bs,x::xs=>H b=some (.tup (x.map V.int))/\bw H bs xs
 |_,_=>False
theorem bw.same{H H':Hp}(sm:aA H H'):∀{bs:G2} {xs:List Wn},bw H bs xs->bw H' bs xs
 | [],[],_=>trivial
 |_::_,_::_,h=>⟨sm _ _ h.1,bw.same sm h.2⟩
 | [],_::_,h=>h.elim
 |_::_,[],h=>h.elim
theorem bw.snoc{H:Hp}{b:Addr}{x:Wn}(hb:H b=some (.tup (x.map V.int))):∀{bs:G2} {xs:List Wn},bw H bs xs->bw H (bs++[b]) (xs++[x])
 | [],[],_=>⟨hb,trivial⟩
 |_::_,_::_,h=>⟨h.1,bw.snoc hb h.2⟩
 | [],_::_,h=>h.elim
 |_::_,[],h=>h.elim
theorem bw.get{H:Hp}:∀{bs:G2} {xs:List Wn} {i:Nat} {b:Addr},bw H bs xs->bs[i]?=some b->∃x,xs[i]?=some x/\H b=some (.tup (x.map V.int))
 | [],_,_,_,_,e=>by simp at e
 |c::bs,x::xs,0,b,h,e=>by simp at e;subst e;exact⟨x,rfl,h.1⟩
 |c::bs,x::xs,i+1,b,h,e=>by
  obtain⟨y,h1,h2⟩:=bw.get (i:=i) h.2 (by simpa using e);exact⟨y,by simpa using h1,h2⟩
 |_::_,[],_,_,h,_=>h.elim
theorem bw.length{H:Hp}:∀{bs:G2} {xs:List Wn},bw H bs xs->bs.length=xs.length
 | [],[],_=>rfl
 |_::_,_::_,h=>by simp[bw.length h.2]
 | [],_::_,h=>h.elim
 |_::_,[],h=>h.elim
inductive h_(vs:List V)(H:Hp)(Q:VK)(_E:XK):Prop
 |mk (r c:Nat) (_:vs=[.int (r:Int),.int (c:Int)]) (_:r<=8) (_:c<=8) (_:∀(l:Addr) (bs:G2) (H':Hp),H l=none->H' l=some (.lst (bs.map V.ref))->bw H' bs (ic r c)->aA H H'->Q (.ref l) H')
theorem mx:aF ["rows","columns","windows","top","left","bottom","right"] ["rows","columns"] (av fR):=by walk_at "c"
structure fK(H H':Hp)(l:Addr)(xs:List Wn)(n:Nat):Prop where
 ex:∃bs:List Addr,H' l=some (.lst (bs.map V.ref))/\bw H' bs xs/\bs.length<=n
 sm:aA H H'
theorem fK.more{H H':Hp}{l:Addr}{xs:List Wn}{n m:Nat}(h:fK H H' l xs n)(hm:n<=m):fK H H' l xs m:=
 ⟨let ⟨bs,h1,h2,h3⟩:=h.ex;⟨bs,h1,h2,Gy h3 hm⟩,h.sm⟩
theorem fK.snoc{H H':Hp}{l p:Addr}{xs:List Wn}{x:Wn}{n:Nat}{bs:G2}(hl:H l=none)(h1:H' l=some (.lst (bs.map V.ref)))(h2:bw H' bs xs)(h3:bs.length<=n)(sm:aA H H')(hp:H' p=none) :
  fK H (aB (aB H' p (.tup (x.map V.int))) l (.lst (bs.map V.ref++[V.ref p]))) l (xs++[x]) (n+1):=by
 have d:p≠l:=λe=>by rw[e,h1]at hp;cases hp
 refine⟨⟨bs++[p],?_,?_,by rw[Gp,q0Z];omega⟩,bG (bG sm (sm.free hp)) hl⟩
 ·rw[af,Gc];rfl
 ·refine bw.snoc (by rw[ai d,af]) ?_
  -- no tuple is the list
  have i:∀{b:G2} {a:List Wn},bw H' b a->bw (aB (aB H' p (.tup (x.map V.int))) l (.lst (bs.map V.ref++[V.ref p]))) b a:=by
   intro b
   induction b with
   |nil=>intro a h;cases a with
    |nil=>trivial
    |cons _ _=>exact h.elim
   |cons c b ih=>
    intro a h;cases a with
    |nil=>exact h.elim
    |cons y a=>
     have g:c≠l:=mK h.1 h1 (by intro z;cases z);exact⟨by rw[ai g,ai (ax h.1 hp)];exact h.1,ih h.2⟩
  exact i h2
theorem mw{f:Addr}{fd:G4}(F:dO K "windows_of" "windows_of" fR f fd)(nb:NB mg):bc P w K mg base bx 1 f fd ["rows","columns"] h_:=by
 have sc:=mx;walk_at "f"
 ·obtain⟨r,c,rfl,hr1,hc1,q⟩:=h
  refine⟨_,(ae (q01 2 sc.nd (b7 ad))
   (ae (ba PassesOwn.never rfl (bV rfl nb.range (ac (aw 0) ad)) (q02 3 sc.nd)
   (ag (ba PassesOwn.never rfl (bV rfl nb.range (ac (aw 1) ad)) (q02 4 sc.nd)
   (ag (ba PassesOwn.never rfl (jD rfl nb.range (ac (ay (bD.m0 bo) (aw 3) am) (ac (ay (bD.m0 bo) (aw 0) am) ad))) (q02 5 sc.nd)
   (ag (ba PassesOwn.never rfl (jD rfl nb.range (ac (ay (bD.m0 bo) (aw 4) am) (ac (ay (bD.m0 bo) (aw 1) am) ad))) (q02 6 sc.nd)
   (ag (bT (q03 (aw 2) (ac (dk (ac (aw 3) (ac (aw 4) (ac (aw 5) (ac (aw 6) ad))))) ad)))))))))))
   (ag (aO (aw 2))))),?_⟩
  walk_at "wp";refine⟨aM ⋯,λl y=>⟨⋯,⋯,?_⟩⟩;rw[F'];refine b5 (lo:=0) (n:=r) (λt σ H1=>t<=r/\fK H H1 l (W1 r c t) (t*1000)/\∃j g d b,σ=[some (V.int r),some (V.int c),some (V.ref l),j,g,d,b])
   ⟨Gr _,⟨⟨[],af,trivial,Gr _⟩,ao y⟩,_,_,_,_,rfl⟩ ?_ ?_
  ·rintro t σ H1 I ⟨_,G,j,g,d,b,rfl⟩
   walk_at "wp";refine⟨⋯,⋯,?_⟩;rw[F'];refine b5 (lo:=0) (n:=c) (λa σ H2=>a<=c/\fK H H2 l (W1 r c t++W2 r c t a) (t*1000+a*100)/\∃g d b,σ=[some (V.int r),some (V.int c),some (V.ref l),some (V.int t),g,d,b])
    ⟨Gr _,by show fK H H1 l (W1 r c t++[]) _;rw[GB];exact G.more ⋯,_,_,_,rfl⟩ ?_ ?_
   ·rintro a σ H2 x ⟨_,u,g,d,b,rfl⟩
    walk_at "wp";refine⟨⋯,⋯,⋯,⋯,?_⟩;rw[show((r:Int)+1-((t:Int)+1)).toNat=r-t by omega];refine b5 (lo:=(t:Int)+1) (n:=r-t) (λbt σ i=>bt<=r-t/\fK H i l (W1 r c t++W2 r c t a++W3 c t a bt) (t*1000+a*100+bt*10)/\∃d b,σ=[some (V.int r),some (V.int c),some (V.ref l),some (V.int t),some (V.int a),d,b])
     ⟨Gr _,by show fK H H2 l (W1 r c t++W2 r c t a++[]) _;rw[GB];exact u.more ⋯,_,_,rfl⟩ ?_ ?_
    ·rintro bt σ i z ⟨_,o,d,b,rfl⟩
     walk_at "wp";refine⟨⋯,⋯,⋯,⋯,?_⟩;rw[show((c:Int)+1-((a:Int)+1)).toNat=c-a by omega];refine b5 (lo:=(a:Int)+1) (n:=c-a) (λk σ B=>k<=c-a/\fK H B l (W1 r c t++W2 r c t a++W3 c t a bt++W4 t a (t+1+bt) k) (t*1000+a*100+bt*10+k)/\∃b,σ=[some (V.int r),some (V.int c),some (V.ref l),some (V.int t),some (V.int a),some (V.int ((t:Int)+1+bt)),b])
      ⟨Gr _,by show fK H i l (W1 r c t++W2 r c t a++W3 c t a bt++[]) _;rw[GB];exact o.more ⋯,_,rfl⟩ ?_ ?_
     ·rintro k σ B J ⟨_,m,b,rfl⟩
      obtain⟨⟨bs,h1,h2,D⟩,v⟩:=m;walk_at "wp";refine⟨.inl ⟨rfl,_,aT.of h1⟩,aM ⋯,λp C=>⟨_,by rw[ai (ax h1 C)];exact h1,?_,J,?_⟩⟩
      ·rw[F3];exact aY ⋯
      ·rw[zK,<- GC]
       have e:[V.int (t:Int),V.int (a:Int),V.int ((t:Int)+1+(bt:Int)),V.int ((a:Int)+1+(k:Int))]=(wn t a (t+1+bt) (a+1+k)).map V.int:=by unfold wn;simp
       rw[e];exact fK.snoc y h1 h2 D v C
     ·rintro σ B ⟨_,m,b,rfl⟩
      refine⟨z,?_,_,_,rfl⟩;rw[zb,<- GC];exact m.more ⋯
    ·rintro σ i ⟨_,o,d,b,rfl⟩
     refine⟨x,?_,_,_,_,rfl⟩;rw[yN,<- GC];exact o.more ⋯
   ·rintro σ H2 ⟨_,u,g,d,b,rfl⟩
    refine⟨I,?_,_,_,_,_,rfl⟩;rw[zc];exact u.more ⋯
  ·rintro σ H1 ⟨_,⟨⟨bs,h1,h2,D⟩,v⟩,j,g,d,b,rfl⟩
   walk_at "wp";exact q l bs H1 y h1 h2 v
abbrev ji:Stmt:=gZ 8
inductive w8(K:W.Frag)(vs:List V)(H:Hp)(Q:VK)(_E:XK):Prop
 |mk (a tp:Addr) (p:aD) (r c t l b x:Nat) (_:vs=[.ref a,.ref tp]) (_:aT K H a (aq p)) (_:jv K H tp ((wn t l b x).map V.int)) (_:rect p r c) (_:r<=64) (_:c<=64) (_:t<b) (_:b<=r) (_:l<x) (_:x<=c) (_:fw H (cut p t l b x) Q)
theorem rL:aF ["picture","window","top","left","bottom","right"] ["picture","window"] (av ji):=by walk_at "c"
theorem wy{row:GZ}{l x:Nat}(h1:l<=x)(h2:x<=row.length):Txt.slice (tx row) (some (l:Int)) (some (x:Int))=tx ((row.drop l).take (x-l)):=by
 rw[jl,HT.sIx_nat,HT.sIx_nat,GU (show l<=row.length by omega),GU h2]
theorem wS{p:aD}{t b:Nat}(h1:t<=b)(h2:b<=p.length):mh (aq p) (some (t:Int)) (some (b:Int))=aq ((p.drop t).take (b-t)):=by
 unfold mh;rw[HT.sIx_nat,HT.sIx_nat,al,GU (show t<=p.length by omega),GU h2];unfold aq;rw[List.map_take,List.map_drop]
theorem su{f:Addr}{fd:G4}(F:dO K "cut_out" "cut_out" ji f fd)(nb:NB mg):bc P w K mg base bx 1 f fd ["picture","window"] (w8 K):=by
 have sc:=rL;walk_at "f"
 ·obtain⟨a,tp,p,r,c,t,l,b,x,rfl,O,u,J,hr1,hc1,h1,h2,h3,h4,q⟩:=h
  refine⟨_,(ae (q01 2 sc.nd (cg eB (aw 1) am (λ_ _=>rfl)))
   (ae (aJ (i:=3) sc.nd rfl (Or.inr rfl) (cg eB (aw 1) am (λ_ _=>rfl)))
   (ae (q01 4 sc.nd (cg eB (aw 1) am (λ_ _=>rfl)))
   (ae (aJ (i:=5) sc.nd rfl (Or.inr rfl) (cg eB (aw 1) am (λ_ _=>rfl)))
   (ag (aO (cO ["row"] [3,5] rfl (bM.of (by kernel_rfl)) (by kernel_rfl) (bL (fk oq (aw 0) (eQ (aw 2)) (eQ (aw 4))))
    (λ_ _ _ _=>(aE (i:=0) (by show(["row","left","right"]:List Str).Nodup;decide +kernel) rfl (Or.inl rfl))) (λ_ _ _ _=>cU) (λ_ _ _ _=>(fk rH (aw 0) (eQ (aw 1)) (eQ (aw 2))))))))))),?_⟩
  walk_at "wp";refine⟨_,u,V.int t,bS (j:=0) rfl,_,u,V.int l,bS (j:=1) rfl,_,u,V.int b,bS (j:=2) rfl,_,u,V.int x,bS (j:=3) rfl,_,rfl,_,rfl,_,O,λG B=>⟨⟨_,aT.of af⟩,?_⟩⟩;rw[wS ⋯ (by rw[J.1];omega)];have I:∀e∈(p.drop t).take (b-t),e.length=c:=λe g=>J.2 e (q0I (q0H g));have m:((p.drop t).take (b-t)).length<=64:=by rw[GG];omega
  generalize C:(p.drop t).take (b-t)=q0 at I m ⊢;have D:aA H (aB H G (HO.lst (aq q0))):=ao B;refine dI (xs:=aq q0) (λi d σ k=>k=aB H G (HO.lst (aq q0))/\d=aq ((q0.take i).map λe=>(e.drop l).take (x-l))/\i<=q0.length/\∃y,σ=[y,some (V.int l),some (V.int x)]) ⟨rfl,rfl,Gr _,_,rfl⟩ ?_ ?_ ?_ ?_ ?_
  ·rintro i d σ k ⟨_,rfl,M,_⟩
   rw[al,F3,GG];exact aY ⋯
  ·rintro i d σ k ⟨_,_,h,_⟩
   rw[al];exact h
  ·rintro i d σ k ⟨rfl,_⟩
   exact aT.of af
  ·rintro i v d σ k z ⟨rfl,rfl,M,y,rfl⟩
   have o:i<q0.length:=by have:=(F0.mp z).1;rwa [al]at this
   rw[bW o]at z;cases z;have g:=I _ (F_ o);walk_at "wp";refine⟨by rw[aG];exact aM ⋯,?_,o⟩;rw[wy ⋯ ⋯,q0E,FZ o,Gc];exact(ci _ _).symm
  ·rintro d σ k ⟨rfl,rfl,_⟩ L n
   rw[al,GF];refine q L _ (D.free n) ?_ (D.trans (ao n));rw[af];unfold cut;rw[C]
abbrev c4:Stmt:=gZ 19
def tT(ss:G6):Prop:=ss≠[]/\(ss.headD ⟨#[]⟩).length<=64
inductive cP(K:W.Frag)(vs:List V)(H:Hp)(Q:VK)(_E:XK):Prop
 |mk (a:Addr) (ss:G6) (_:vs=[.ref a]) (_:aT K H a (ss.map V.str)) (_:tT ss) (_:∀t,H t=none->Q (.ref t) (aB H t (.tup [.int (eY ss),.ref a])))
theorem iq:aF ["picture"] ["picture"] (av c4):=by walk_at "c"
theorem cR(K:W.Frag):∀l ss H Q E,aT K H l (ss.map V.str)->tT ss->(∀t,H t=none->Q (.ref t) (aB H t (.tup [.int (eY ss),.ref l])))->cP K [.ref l] H Q E:=λl ss H Q E h1 h2 h3=>⟨l,ss,rfl,h1,h2,h3⟩
theorem iw{f:Addr}{fd:G4}(F:dO K "cells_then_rows" "cells_then_rows" c4 f fd)(nb:NB mg):bc P w K mg base bx 1 f fd ["picture"] (cP K):=by
 have sc:=iq;walk_at "f"
 ·obtain⟨a,c,rfl,b,e,q⟩:=h
  refine⟨_,(ag (aO (dk (ac (ay (bD.m1 dw) (aN cT rfl nb.len cy (ac (aw 0) ad)) (aN bY rfl nb.len cy (ac (cg cq (aw 0) am (λ_ _=>rfl)) ad))) (ac (aw 0) ad))))),?_⟩;walk_at "wp";obtain⟨g,h1⟩:=e;obtain⟨z,c,rfl⟩:=List.exists_cons_of_ne_nil g;have h2:z.length<=64:=h1;have h3:((z.length:Nat):Int)<=64:=by omega
  refine⟨_,b,_,b,_,bS (j:=0) rfl,z,rfl,aM ⋯,.inr ⟨⋯,⋯⟩,aM ⋯,λp d=>?_⟩;have:=q p d;unfold eY at this;rw[F3];exact this
abbrev jn:Stmt:=gZ 18
inductive kG(K:W.Frag)(vs:List V)(H:Hp)(Q:VK)(_E:XK):Prop
 |mk (a:Addr) (p:aD) (r c:Nat) (_:vs=[.ref a]) (_:aT K H a (aq p)) (_:rect p r c) (_:0<r) (_:0<c) (_:r<=6) (_:c<=6) (_:bp p) (_:∀(H':Hp) (l:Addr) (zs:List AP),aA H H'->H l=none->H' l=some (.lst (zs.map λz=>V.ref z.1))->(∀z∈zs,H z.1=none/\H' z.1=some (.lst (aq z.2)))->(zs.map (·.1)).Nodup->Cb p r c (zs.map (·.2))->zs.length<=8000->Q (.ref l) H')
theorem bw.dict{H:Hp}{d:Addr}{kvs:List (b9×V)}{o:HO}(hd:H d=some (.dK kvs)):∀{bs:G2} {xs:List Wn},bw H bs xs->bw (aB H d o) bs xs
 | [],[],_=>trivial
 |_::_,_::_,h=>⟨by rw[ai (mK h.1 hd (by intro e;cases e))];exact h.1,bw.dict hd h.2⟩
 | [],_::_,h=>h.elim
 |_::_,[],h=>h.elim
theorem tG:aF ["picture","found","window","part","t","seen"] ["picture"] (av jn):=by walk_at "c"
theorem sr{f:Addr}{fd:G4}(F:dO K "seen_in" "seen_in" jn f fd)(nb:NB mg){tkT:Tok}(yae:mg "TURNINGS"=some (.int 8 tkT))(yav:eX P w K mg base bx 1 "windows_of" ["rows","columns"] h_)(yaz:eX P w K mg base bx 1 "cut_out" ["picture","window"] (w8 K))(zra:eX P w K mg base bx 3 "turned" ["picture","t"] (jf K))(yac:eX P w K mg base bx 1 "shown" ["picture"] (gP K))(yaN:eX P w K mg base bx 1 "cells_then_rows" ["picture"] (cP K)):bc P w K mg base bx 4 f fd ["picture"] (kG K):=by
 have sc:=tG;have cR:=cR K;walk_at "f"
 ·obtain⟨a,p,r,c,rfl,hS,hp,a9,d6,c9,d5,d1,q⟩:=h
  have hu:=hr.units;refine⟨_,(ae (q01 1 sc.nd qk)
   (ae (ba PassesOwn.never rfl (bL (aH yav (hr.mono nofun) rfl aL (ac (aN cT rfl nb.len cy (ac (aw 0) ad)) (ac (aN bY rfl nb.len cy (ac (cg cq (aw 0) am (λ_ _=>rfl)) ad)) ad)))) (q02 2 sc.nd)
   (ae (q01 3 sc.nd (aH yaz (hr.mono nofun) rfl aL (ac (aw 0) (ac (aw 2) ad))))
   (ag (ba PassesOwn.never rfl (bV rfl nb.range (ac (cI (v:=.int 8) rfl yae ⟨_,rfl⟩) ad)) (q02 4 sc.nd)
   (ae (q01 5 sc.nd (aH zra (hr.mono nofun) rfl aL (ac (aw 3) (ac (aw 4) ad))))
   (ag (kr (GK (GO (by decide:1<=64) _) hu) (aw 1) (aH yac (hr.mono nofun) rfl aL (ac (aw 5) ad)) (aw 5) rfl)))))))
   (ag (aO (vm (hr.mono nofun) rfl rfl nb.sorted yaN rfl cR (ac (wF (aw 1) rfl rfl) ad)))))),?_⟩
  walk_at "wp";intro d hd;have a0:aA H (aB H d (HO.dK [])):=ao hd;obtain⟨d2,L⟩:=qc hp a9;refine⟨_,a0.seq hS,_,a0.seq hS,_,bS (j:=0) (bW d2),_,rfl,by rw[aG,L];exact aM ⋯,?_⟩;rw[al,hp.1,aG,L];refine⟨r,c,rfl,⋯,⋯,λwl bs H1 hwl J a8 a4=>?_⟩;have a1:=zW a9 c9 d6 d5;have hlen:(ic r c).length<=1000:=by unfold check at a1;simp only[q0O,q0b]at a1;exact a1.2
  have e2:=a8.length;have a5:=a0.trans a4;refine⟨_,rfl,⟨_,aT.of J⟩,?_⟩
  -- the windows
  refine bO (xs:=bs.map V.ref) (λi σ H2=>i<=bs.length/\(∃R,dY H H2 d (λx=>∃j,j<i/\∃u,u<8/\x=turned (ze p ((ic r c).getD j [])) u) R (8*i))/\H2 wl=some (.lst (bs.map V.ref))/\bw H2 bs (ic r c)/\∃x2 x3 U T,σ=[some (V.ref a),some (V.ref d),x2,x3,U,T]) ?_ ?_ ?_ ?_
  ·refine⟨Gr _,⟨[],?_⟩,J,a8,_,_,_,_,rfl⟩
   exact⟨by rw[a4 _ _ af];rfl,a5,hd,(λz hz=>nomatch hz),List.nodup_nil,List.nodup_nil,λx=>by simp,Gr _⟩
  ·rintro i σ H2 _ ⟨_,_,h,_⟩
   exact aT.of h
  ·rintro i x σ H2 hx ⟨_,⟨R,S⟩,a2,C,x2,x3,U,T,rfl⟩
   rw[F5]at hx;cases G:bs[i]? with
   |none=>rw[G]at hx;cases hx
   |some bt=>
    rw[G]at hx;cases hx
    have hi:i<bs.length:=(F0.mp G).1;obtain⟨w0,a7,b4⟩:=C.get G;obtain⟨t,l,b,x,rfl,h1,h2,h3,h4⟩:=lU.mp (F6 a7);walk_at "wp";refine⟨a,bt,p,r,c,t,l,b,x,rfl,S.sm.seq hS,jv.of b4,hp,⋯,⋯,h1,h2,h3,h4,λpl H3 b1 b0 Z=>⟨⋯,?_⟩⟩;have b3:=bP hp h1 h2 h3 h4;have S3:=S.same Z;have b6:=Z _ _ a2;have c2:=C.same Z;have hpl0:=S.sm.free b1;clear S b1 a2 C b4;have eW:(ic r c).getD i []=wn t l b x:=by rw[q0A,a7];rfl
    have e8:Int.toNat 8=8:=rfl;rw[e8];refine b5 (lo:=0) (n:=8) (λu σ H4=>(∃R,dY H H4 d (λy=>(∃j,j<i/\∃u,u<8/\y=turned (ze p ((ic r c).getD j [])) u)\/∃k,k<u/\y=turned (cut p t l b x) k) R (8*i+u))/\H4 pl=some (.lst (aq (cut p t l b x)))/\H4 wl=some (.lst (bs.map V.ref))/\bw H4 bs (ic r c)/\∃U T,σ=[some (V.ref a),some (V.ref d),some (V.ref bt),some (V.ref pl),U,T]) ?_ ?_ ?_
    ·exact⟨⟨R,S3.congr λy=>⟨.inl,λz=>z.elim id λ⟨k,c1,_⟩=>q0Q c1 (Nat.not_lt_zero _)⟩⟩,b0,b6,c2,_,_,rfl⟩
    ·rintro u σ H4 c0 ⟨⟨o,O⟩,D,B,a3,U,T,rfl⟩
     walk_at "wp";refine⟨pl,cut p t l b x,b-t,x-l,u,by simp,aT.of D,b3,⋯,⋯,⋯,⋯,c0,λbq H5 e0 M m=>?_⟩;obtain⟨o1,o2,r',c',o3,o4,o5,o6,o7⟩:=uK (u:=u) hp d1 h1 h2 h3 h4;have c6:d0 (turned (cut p t l b x) u):=d0.of o3 ⋯ ⋯;have d4:((turned (cut p t l b x) u).headD []).length<=64:=by rw[aW o3 o4];omega
     obtain⟨e1,S5⟩:=O.step m e0 M o1 o2 d4;refine⟨bq,turned (cut p t l b x) u,rfl,M,c6,aB H5 d (.dK ((jC o (bq,turned (cut p t l b x) u)).map g7)),.inl ⟨o.map g7,_,m _ _ O.tbl,rfl,by rw[F3];exact aY (by have:=O.len;omega),by rw[e1]⟩,⟨_,S5.congr λy=>?_⟩,?_,?_,(a3.same m).dict (m _ _ O.tbl)⟩
     ·constructor
      ·rintro((z | ⟨k,I,g⟩) | z)
       ·exact .inl z
       ·exact .inr ⟨k,⋯,g⟩
       ·exact .inr ⟨u,⋯,z⟩
      ·rintro(z | ⟨k,I,g⟩)
       ·exact .inl (.inl z)
       ·by_cases hq:k=u
        ·exact .inr (by rw[g,hq])
        ·exact .inl (.inr ⟨k,⋯,g⟩)
     ·rw[ai (mK D O.tbl (by intro e;cases e))];exact m _ _ D
     ·rw[ai (mK B O.tbl (by intro e;cases e))];exact m _ _ B
    ·rintro σ H4 ⟨⟨o,O⟩,D,B,a3,U,T,rfl⟩
     refine⟨hi,⟨o,O.congr λy=>?_⟩,B,a3,_,_,_,_,rfl⟩
     constructor
     ·rintro(⟨j,I,g⟩ | ⟨k,I,g⟩)
      ·exact⟨j,⋯,g⟩
      ·exact⟨i,⋯,k,I,by rw[eW,ky];exact g⟩
     ·rintro⟨j,I,k,g,z3⟩
      by_cases hq:j=i
      ·rw[hq,eW,ky]at z3
       exact .inr ⟨k,g,z3⟩
      ·exact .inl ⟨j,⋯,k,g,z3⟩
  ·rintro σ H2 ⟨_,⟨R,S⟩,a2,C,x2,x3,U,T,rfl⟩
   walk_at "wp";refine⟨_,S.tbl,λv hv=>⟨d,af,R.map AO,?_,?_,?_⟩⟩
   ·rw[ai (ax S.tbl hv),S.tbl,Gf];rfl
   ·intro e he
    obtain⟨z,hz,rfl⟩:=GM.mp he;obtain⟨I,g,z3,z4,z5⟩:=S.each z hz;refine⟨?_,?_,?_⟩
    ·refine aT.of ?_
     show aB H2 v (qP v d) z.1=some (.lst ((z.2.map tx).map V.str));rw[ai (ax g hv),g,dg]
    ·show z.2.map tx≠[]
     exact λe=>z3 (List.map_eq_nil_iff.mp e)
    ·show((z.2.map tx).headD ⟨#[]⟩).length<=64
     rw[tS];exact z5
   ·intro es pe se H' l' a6 d3 b2
    obtain⟨ws,pw,rfl⟩:=qW pe _ rfl;have Y:aA H2 (aB H2 v (qP v d)):=ao hv;refine q H' l' ws (S.sm.trans (Y.trans a6)) (S.sm.free (Y.free d3)) ?_ ?_ ?_ ?_ (by have h1:=S.len;have h2:=pw.length_eq;rw[F3]at h1;omega)
    ·rw[b2,Gf];rfl
    ·intro z hz
     obtain⟨I,g,_⟩:=S.each z (pw.mem_iff.mp hz);exact⟨I,a6 _ _ (Y _ _ g)⟩
    ·exact(pw.map _).nodup_iff.mpr S.nda
    ·refine⟨λy=>?_,uU se ((pw.map _).nodup_iff.mpr S.ndp)⟩
     rw[(pw.map _).mem_iff,S.mem,u4,F3,e2]
abbrev Ky:=List Nat×List Nat
def xh(k:Ky):List V:=[.str (tx k.1),.str (tx k.2)]
def gC(k:Ky):List b9:=[.inr (tx k.1),.inr (tx k.2)]
theorem gg{a b:GZ}(h:tx a=tx b):a=b:=by
 have e:(tx a).cps.toList=(tx b).cps.toList:=by rw[h]
 rwa [c_,c_]at e
theorem pY{a b:Ky}(h:gC a=gC b):a=b:=by
 obtain⟨a1,a2⟩:=a;obtain⟨b1,b2⟩:=b;unfold gC at h;simp only[List.cons.injEq,Sum.inr.injEq,and_true]at h;rw[gg h.1,gg h.2]
def aX(H:Hp)(a:Addr)(k:Ky):Prop:=H a=some (.tup (xh k))
theorem aX.up{H H':Hp}{a:Addr}{k:Ky}(h:aX H a k)(s:aA H H'):aX H' a k:=s _ _ h
theorem aX.put{H:Hp}{a l:Addr}{k:Ky}{xs:List V}{o:HO}(h:aX H a k)(hl:H l=some (.lst xs)):aX (aB H l o) a k:=by
 have b:H a=some (.tup (xh k)):=h;show aB H l o a=_;rw[ai (λz=>by rw[z,hl]at b;cases b)];exact b
abbrev bd(p:aD):List Nat:=SpM.glue 47 p
theorem tU{β:Type}{A:Hp->Addr->β->Prop}(u:∀{H H':Hp} {b:Addr} {y:β},A H b y->aA H H'->A H' b y){H H':Hp}{l:Addr}{ys:List β}(h:i5 A H l ys)(s:aA H H'):i5 A H' l ys:=by
 obtain⟨bs,h1,h2⟩:=h;exact⟨bs,s _ _ h1,h2.mono λb y _ _ q=>u q s⟩
abbrev i6:Hp->Addr->List Ky->Prop:=i5 aX
theorem sh{H H':Hp}{b:Addr}{y:List Ky}(h:i6 H b y)(s:aA H H'):i6 H' b y:=tU (A:=aX) aX.up h s
def c8(sb:Bool)(p:aD)(m:Nat):List Ky:=(List.range (m-1)).map λj=>(bd (nh sb p (j+1)),bd (jd sb p (j+1)))
def du(CC:Addr)(H:Hp)(c:Addr)(p:aD):Prop:=∃dx lp lb la,H c=some (.ins CC dx [("picture",.ref lp),("text",.str (tx (bd p))),("beside_texts",.ref lb),("above_texts",.ref la)])/\H lp=some (.lst (aq p))/\i5 aX H lb (c8 true p (p.headD []).length)/\i5 aX H la (c8 false p p.length)
theorem du.up{CC:Addr}{H H':Hp}{c:Addr}{p:aD}(h:du CC H c p)(s:aA H H'):du CC H' c p:=by
 obtain⟨i,a,b,d,h1,h2,g,e⟩:=h;exact⟨i,a,b,d,s _ _ h1,s _ _ h2,tU (A:=aX) aX.up g s,tU (A:=aX) aX.up e s⟩
def bu(r:Nat×RV)(p:aD):List (List Ky):=match r.1 with
 |0=>if bd p=r.2.sg then[[]] else[]
 |1=>(c8 true p (p.headD []).length).map λk=>[(k.1,r.2.o1),(k.2,r.2.o2)]
 |2=>(c8 false p p.length).map λk=>[(k.1,r.2.o1),(k.2,r.2.o2)]
 |_=>[[(bd (turned p (fc r.2.t.toNat)),r.2.o1)]]
def bU(T:Ky->Option Int):Int->List Ky->Option Int
 |c,[]=>some c
 |c,k::ks=>match T k with
  |none=>none
  |some v=>bU T (c+v) ks
def gz(H:Hp)(d:Addr)(T:Ky->Option Int):Prop:=∃kvs,H d=some (.dT kvs)/\∀k,c3 kvs (gC k)=(T k).map V.int
theorem gz.up{H H':Hp}{d:Addr}{T:Ky->Option Int}(h:gz H d T)(s:aA H H'):gz H' d T:=let ⟨kvs,h1,h2⟩:=h;⟨kvs,s _ _ h1,h2⟩
theorem gz.get{H:Hp}{d b:Addr}{T:Ky->Option Int}{k:Ky}(h:gz H d T)(hb:aX H b k):iJ H d (.ref b) ((T k).map V.int):=by
 obtain⟨kvs,h1,h2⟩:=h;rw[<- h2 k];exact iJ.t h1 hb
structure iO(p:aD)(r c:Nat):Prop where
 rc:rect p r c
 r0:0<r
 r6:r<=6
 c0:0<c
 c6:c<=6
theorem iO.small{p:aD}{r c:Nat}(h:iO p r c):d0 p:=d0.of h.rc (by have:=h.r6;omega) (by have:=h.c6;omega)
theorem nW{H:Hp}{a l C dx:Addr}{ks:List Ky}{fs:List (Str×V)}{o:HO}(h:i5 aX H l ks)(ha:H a=some (.ins C dx fs)):i5 aX (aB H a o) l ks:=by
 obtain⟨bs,h1,h2⟩:=h;exact⟨bs,by rw[ai (λz=>by rw[z,ha]at h1;cases h1)];exact h1,h2.mono λb y _ _ q=>by
  have c:H b=some (.tup (xh y)):=q;show aB H a o b=_;rw[ai (λz=>by rw[z,ha]at c;cases c)];exact c⟩
theorem pS{c:Prop}[Decidable c]{A B:Prop}(hA:c->A)(hB:¬ c->B):if c then A else B:=by
 by_cases h:c
 ·rw[q07 h];exact hA h
 ·rw[q06 h];exact hB h
abbrev dU:Stmt:=gZ 22
inductive gt(K:W.Frag)(vs:List V)(H:Hp)(Q:VK)(_E:XK):Prop
 |mk (sb:Bool) (a:Addr) (p:aD) (r c m:Nat) (_:vs=[.ref a,.bl sb,.int (m:Int)]) (_:aT K H a (aq p)) (_:iO p r c) (_:m=(if sb=true then c else r)) (_:∀l H',H l=none->i5 aX H' l (c8 sb p m)->aA H H'->Q (.ref l) H')
theorem kc:aF ["picture","side_by_side","many","texts","at","two"] ["picture","side_by_side","many"] (av dU):=by walk_at "c"
theorem pI{sb:Bool}{p:aD}{r c n:Nat}(h:iO p r c):d0 (nh sb p n)/\d0 (jd sb p n):=by
 have:=h.small;cases sb with
 |true=>
  refine⟨⟨?_,λx a=>?_⟩,⟨?_,λx a=>?_⟩⟩
  ·show(p.map _).length<=_;rw[F3];exact this.1
  ·obtain⟨y,b,rfl⟩:=GM.mp a
   rw[GG];exact Gy (Nat.min_le_right _ _) (this.2 y b)
  ·show(p.map _).length<=_;rw[F3];exact this.1
  ·obtain⟨y,b,rfl⟩:=GM.mp a
   rw[GH];exact Gy (Nat.sub_le _ _) (this.2 y b)
 |false=>
  refine⟨⟨?_,λx a=>?_⟩,⟨?_,λx a=>?_⟩⟩
  ·show(p.take n).length<=_;rw[GG];exact Gy (Nat.min_le_right _ _) this.1
  ·exact this.2 x (q0H a)
  ·show(p.drop n).length<=_;rw[GH];exact Gy (Nat.sub_le _ _) this.1
  ·exact this.2 x (q0I a)
theorem j9{f:Addr}{fd:G4}(F:dO K "parted_texts" "parted_texts" dU f fd)(nb:NB mg)(yay:eX P w K mg base bx 1 "parted" ["picture","side_by_side","at"] (mJ K))(yac:eX P w K mg base bx 1 "shown" ["picture"] (gP K)):bc P w K mg base bx 2 f fd ["picture","side_by_side","many"] (gt K):=by
 have sc:=kc;walk_at "f"
 ·obtain⟨sb,a,p,r,c,m,rfl,Z,e,S,q⟩:=h
  have:=e.r6;have:=e.c6;have:=e.r0;have:=e.c0;have m1:1<=m/\m<=6:=by rw[S];split<;>omega
  refine⟨_,(ae (q01 3 sc.nd (b7 ad))
   (ae (ba PassesOwn.never rfl (jD rfl nb.range (cF (ac (aw 2) ad))) (q02 4 sc.nd)
   (ae (q01 5 sc.nd (aH yay (hr.mono nofun) rfl aL (ac (aw 0) (ac (aw 1) (ac (aw 4) ad)))))
   (ag (bT (q03 (aw 3) (ac (dk (ac (aH yac (hr.mono nofun) rfl aL (ac (cg eB (aw 5) am (λ_ _=>rfl)) ad)) (ac (aH yac (hr.mono nofun) rfl aL (ac (cg eB (aw 5) am (λ_ _=>rfl)) ad)) ad))) ad))))))
   (ag (aO (aw 3))))),?_⟩
  walk_at "n";refine⟨Gr _,λl J=>h1 _ _ ?_⟩;clear h1;generalize v:aB H l _=H1;obtain⟨T,e1⟩:=kY J v;walk_at "n";rw[show((m:Int)-1).toNat=m-1 by omega];refine⟨nofun,⋯,⋯,?_⟩;refine b5 (lo:=1) (n:=m-1) (λi σ g=>aA H g/\i<=m-1/\(∃bs:List Addr,g l=some (.lst (bs.map V.ref))/\bf aX g bs ((List.range i).map λj=>(bd (nh sb p (j+1)),bd (jd sb p (j+1)))))/\∃x y,σ=[some (V.ref a),some (V.bl sb),some (V.int (m:Int)),some (V.ref l),x,y]) ⟨T,Gr _,⟨[],e1,bf.nil⟩,_,_,rfl⟩ ?_ ?_
  ·rintro i σ g hi ⟨o,_,⟨bs,M,u⟩,x,y,rfl⟩
   walk_at "n";refine⟨sb,a,p,r,c,i+1,by push_cast;rw[Int.add_comm],o.seq Z,e.rc,⋯,⋯,by rw[<- S];omega,λt Y U H2 ht hl1 hl2 hne et R O G=>h1 _ _ ?_⟩;clear h1;obtain⟨C,B⟩:=pI (sb:=sb) (n:=i+1) e;walk_at "wp";have k:=G _ _ M;refine⟨.inl ⟨rfl,_,aT.of k⟩,_,jv.of et,_,rfl,Y,nh sb p (i+1),rfl,R,C,_,jv.of et,_,rfl,U,jd sb p (i+1),rfl,O,B,aM nofun,λz I=>?_⟩;generalize v:aB H2 z _=H3;obtain⟨D,(e3:aX H3 z (bd (nh sb p (i+1)),bd (jd sb p (i+1))))⟩:=kY I v;have d:=D _ _ k;have L:=u.1;rw[F3,q0J]at L;refine⟨_,d,by rw[F3];exact aY ⋯,bG ((o.trans G).trans D) J,⋯,bs++[z],by rw[af,Gc];rfl,?_⟩;rw[q0M,Gc];exact(u.mono λb y _ _ h=>((h.up G).up D).put d).snoc (e3.put d)
  ·rintro σ g ⟨o,_,⟨bs,M,u⟩,x,y,rfl⟩
   refine h1 _ _ ?_;walk_at "wp";exact q l g J ⟨bs,M,u⟩ o
abbrev eO:Stmt:=o8 21 0
def Ce(K:W.Frag)(C:Addr):Prop:=aC K C "picture"/\aC K C "text"/\aC K C "beside_texts"/\aC K C "above_texts"
inductive gl(K:W.Frag)(vs:List V)(H:Hp)(Q:VK)(_E:XK):Prop
 |mk (a C dx b:Addr) (p:aD) (r c:Nat) (_:vs=[.ref a,.ref b]) (_:H a=some (.ins C dx [])) (_:kt K C) (_:Ce K C) (_:H b=some (.lst (aq p))) (_:iO p r c) (_:∀H',du C H' a p->aS a H H'->Q .non H')
theorem pJ:aF ["self","picture"] ["self","picture"] (av eO):=by walk_at "c"
theorem o0{f:Addr}{fd:G4}(F:dO K "__init__" "Cuts.__init__" eO f fd)(nb:NB mg)(yac:eX P w K mg base bx 1 "shown" ["picture"] (gP K))(yal:eX P w K mg base bx 2 "parted_texts" ["picture","side_by_side","many"] (gt K)):bc P w K mg base bx 3 f fd ["self","picture"] (gl K):=by
 have sc:=pJ;walk_at "f"
 ·obtain⟨a,C,d,b,p,r,c,rfl,R,G,⟨n1,n2,n3,n4⟩,n,i,q⟩:=h
  refine⟨_,(ae (dy (aw 0) (dl cH rfl nb.list fW (ac (aw 1) ad)) rfl)
   (ae (dy (aw 0) (aH yac (hr.mono nofun) rfl aL (ac (aw 1) ad)) rfl)
   (ae (dy (aw 0) (aH yal (hr.mono nofun) rfl aL (ac (aw 1) (ac hZ (ac (aN bY rfl nb.len cy (ac (cg cq (aw 1) am (λ_ _=>rfl)) ad)) ad)))) rfl)
   (ag (dy (aw 0) (aH yal (hr.mono nofun) rfl aL (ac (aw 1) (ac hZ (ac (aN cT rfl nb.len cy (ac (aw 1) ad)) ad)))) rfl))))),?_⟩
  walk_at "n";refine⟨_,.inl (aT.of n),λl z=>⟨C,d,_,ao z _ _ R,G,n1,nofun,h1 _ _ ?_⟩⟩;clear h1;have j:l≠a:=λe=>by rw[e,R]at z;cases z
  have k:b≠a:=λe=>by rw[e,R]at n;cases n
  have L:aS a H (aB (aB H l (.lst (aq p))) a (.ins C d [("picture",.ref l)])):=(aS.of (ao z)).put;have e1:aB (aB H l (.lst (aq p))) a (.ins C d [("picture",.ref l)]) a=some (.ins C d [("picture",.ref l)]):=af;have l1:aB (aB H l (.lst (aq p))) a (.ins C d [("picture",.ref l)]) l=some (.lst (aq p)):=by rw[ai j,af]
  change vB _ _ _ _ (aB (aB H l (.lst (aq p))) a (.ins C d [("picture",.ref l)]));generalize aB (aB H l (.lst (aq p))) a (.ins C d [("picture",.ref l)])=H1 at L e1 l1 ⊢;have b1:=L _ _ k n;have d1:¬ (("picture":Str)="text"):=by decide +kernel
  have d2:¬ (("picture":Str)="beside_texts"):=by decide +kernel
  have d3:¬ (("picture":Str)="above_texts"):=by decide +kernel
  have d4:¬ (("text":Str)="beside_texts"):=by decide +kernel
  have d5:¬ (("text":Str)="above_texts"):=by decide +kernel
  have d6:¬ (("beside_texts":Str)="above_texts"):=by decide +kernel
  have U:cv "text" (V.str (tx (bd p))) [(("picture":Str),V.ref l)]=[(("picture":Str),V.ref l),(("text":Str),V.str (tx (bd p)))]:=by simp only[cv,q06 d1]
  walk_at "n";refine⟨b,p,rfl,b1,i.small,C,d,_,e1,G,n2,by simp,?_⟩;rw[U];refine h1 _ _ ?_;clear h1;have J:aS a H (aB H1 a (.ins C d [("picture",.ref l),("text",.str (tx (bd p)))])):=L.put;have D:aB H1 a (.ins C d [("picture",.ref l),("text",.str (tx (bd p)))]) a=some (.ins C d [("picture",.ref l),("text",.str (tx (bd p)))]):=af;have Z:aB H1 a (.ins C d [("picture",.ref l),("text",.str (tx (bd p)))]) l=some (.lst (aq p)):=by rw[ai j];exact l1
  generalize aB H1 a (.ins C d [("picture",.ref l),("text",.str (tx (bd p)))])=H2 at J D Z ⊢;have b2:=J _ _ k n;have:=i.r6;have:=i.c6;obtain⟨O,o⟩:=qc i.rc i.r0;walk_at "n";refine⟨_,aT.of b2,_,(show nv _ ((0:Nat):Int)=_ from bS (bW O)),_,rfl,by rw[aG];exact aM ⋯,?_⟩;rw[aG,o];refine⟨true,b,p,r,c,c,rfl,aT.of b2,i,rfl,λg x u eb y=>⟨C,d,_,y _ _ D,G,n3,by simp,?_⟩⟩;have hbl:g≠a:=λe=>by rw[e,D]at u;cases u
  have T:cv "beside_texts" (V.ref g) [(("picture":Str),V.ref l),(("text":Str),V.str (tx (bd p)))]=[(("picture":Str),V.ref l),(("text":Str),V.str (tx (bd p))),(("beside_texts":Str),V.ref g)]:=by simp only[cv,q06 d2,q06 d4]
  rw[T];refine h1 _ _ ?_;clear h1;have I:aS a H (aB x a (.ins C d [("picture",.ref l),("text",.str (tx (bd p))),("beside_texts",.ref g)])):=(J.then y).put;have B:aB x a (.ins C d [("picture",.ref l),("text",.str (tx (bd p))),("beside_texts",.ref g)]) a=some (.ins C d [("picture",.ref l),("text",.str (tx (bd p))),("beside_texts",.ref g)]):=af;have Y:aB x a (.ins C d [("picture",.ref l),("text",.str (tx (bd p))),("beside_texts",.ref g)]) l=some (.lst (aq p)):=by rw[ai j];exact y _ _ Z
  have v:i5 aX (aB x a (.ins C d [("picture",.ref l),("text",.str (tx (bd p))),("beside_texts",.ref g)])) g (c8 true p c):=nW eb (y _ _ D);generalize aB x a (.ins C d [("picture",.ref l),("text",.str (tx (bd p))),("beside_texts",.ref g)])=H4 at I B Y v ⊢;have b3:=I _ _ k n;walk_at "wp";refine⟨_,aT.of b3,?_⟩;rw[al,i.rc.1];refine⟨false,b,p,r,c,r,rfl,aT.of b3,i,rfl,λM H5 hla5 ea m=>⟨C,d,_,m _ _ B,G,n4,by simp,?_⟩⟩;have S:cv "above_texts" (V.ref M) [(("picture":Str),V.ref l),(("text":Str),V.str (tx (bd p))),(("beside_texts":Str),V.ref g)]=[(("picture":Str),V.ref l),(("text":Str),V.str (tx (bd p))),(("beside_texts":Str),V.ref g),(("above_texts":Str),V.ref M)]:=by simp only[cv,q06 d3,q06 d5,q06 d6]
  rw[S];refine q _ ⟨d,l,g,M,af,by rw[ai j];exact m _ _ Y,?_,?_⟩ ((I.then m).put)
  ·rw[aW i.rc i.r0]
   exact nW (tU (A:=aX) aX.up v m) (m _ _ B)
  ·rw[i.rc.1]
   exact nW ea (m _ _ B)
def B9(H0 H:Hp)(b:Addr)(y:List Ky):Prop:=H0 b=none/\i6 H b y
inductive o9(CC C:Addr)(t:Nat)(vs:List V)(H:Hp)(Q:VK)(_E:XK):Prop
 |mk (a dx lp cu:Addr) (v:RV) (p:aD) (r c:Nat) (_:vs=[.ref a,.ref cu]) (_:H a=some (.ins C dx (qZ t lp v))) (_:du CC H cu p) (_:iO p r c) (_:0<=v.t) (_:v.t<=7) (_:∀l H',H l=none->i5 (B9 H) H' l (bu (t,v) p)->aA H H'->Q (.ref l) H')
abbrev eU:Stmt:=o8 32 4
theorem oR:aF ["self","cuts"] ["self","cuts"] (av eU):=by walk_at "c"
theorem oQ{f CC C:Addr}{fd:G4}(F:dO K "ways" "CellRule.ways" eU f fd)(cc:kt K CC)(nc:Ce K CC)(cl:kt K C)(na:aC K C "sign"):bc P w K mg base bx 1 f fd ["self","cuts"] (o9 CC C 0):=by
 have sc:=oR;walk_at "f"
 ·obtain⟨a,k,lp,cu,v,p,r,c,rfl,j,⟨l,b,l2,l3,i,_,_,_⟩,hp,t0,t7,q⟩:=h
  refine⟨_,(ag (aO (wR (bE pZ (cG (aw 1) rfl) (cG (aw 0) rfl) (b_ _)) (b7 (ac (b7 ad) ad)) (b7 ad)))),?_⟩;walk_at "wp";refine⟨CC,l,_,i,cc,nc.2.1,_,rfl,C,k,_,j,cl,na,_,rfl,rfl,?_⟩;refine pS (λe=>?_) (λe=>?_)
  ·rw[show bu (0,v) p=[[]] from q07 (gg (V.str.inj e))]at q
   exact⟨Gr _,λg d=>⟨aM nofun,λb h1=>q b _ ((ao d).free h1) ⟨[g],af,bf.one ⟨d,[],ao h1 _ _ af,bf.nil⟩⟩ ((ao d).trans (ao h1))⟩⟩
  ·rw[show bu (0,v) p=[] from q06 λh=>e (by rw[h])]at q
   exact⟨Gr _,λb h1=>q b _ h1 ⟨[],af,bf.nil⟩ (ao h1)⟩
def t5(R:RC)(CC:Addr):List (Addr×Sp):=[(R.cc,o9 CC R.cc 0)]
theorem w9{R:RC}{CC:Addr}{H:Hp}{k a cu:Addr}{v:RV}{p:aD}{r c:Nat}{Q:VK}{E:XK}(hk:k=0)(ra:fg R H k a v)(hC:du CC H cu p)(hp:iO p r c)(t0:0<=v.t)(t7:v.t<=7)(q:∀l H',H l=none->i5 (B9 H) H' l (bu (k,v) p)->aA H H'->Q (.ref l) H') :
  ∃o∈t5 R CC,∃dx fs,H a=some (.ins o.1 dx fs)/\fs.lookup ("ways":Str)=none/\o.2 [.ref a,.ref cu] H Q E:=by
 obtain⟨dx,l,h1,h2⟩:=ra;subst hk;exact⟨(R.cc,o9 CC R.cc 0),by simp[t5],dx,_,h1,rfl,a,dx,l,cu,v,p,r,c,rfl,h1,hC,hp,t0,t7,q⟩
abbrev jq:Stmt:=gZ 23
def CB:Option Int->V
 |some c=>.int c
 |none=>.non
inductive lX(R:RC)(vs:List V)(H:Hp)(Q:VK)(_E:XK):Prop
 |mk (a lw d:Addr) (k:Nat) (v:RV) (way:List Ky) (T:Ky->Option Int) (_:vs=[.ref a,.ref lw,.ref d]) (_:fg R H k a v) (_:i6 H lw way) (_:gz H d T) (_:Q (CB (bU T v.c way)) H)
theorem sd:aF ["rule","way","told","cost","key"] ["rule","way","told"] (av jq):=by walk_at "c"
theorem rG{R:RC}{f:Addr}{fd:G4}(F:dO K "cost_by" "cost_by" jq f fd)(nb:NB mg)(rk:je K R):bc P w K mg base bx 1 f fd ["rule","way","told"] (lX R):=by
 have sc:=sd;walk_at "f"
 ·obtain⟨a,J,d,k,v,e,T,rfl,⟨rdx,I,n,_⟩,⟨bs,C,D⟩,O,q⟩:=h
  have B:=hr.units;refine⟨_,(ae (q01 3 sc.nd (cG (aw 0) rfl))
   (ae (ba PassesOwn.never rfl (bL (aw 1)) (q02 4 sc.nd)
   (ae (cz (pP (nA (GK (GO (by decide:1<=64) _) B) (aw 4) (aw 2)) (by with_unfolding_all rfl))
   (ag (aO xY))
   bi)
   (ag (q01 3 sc.nd (ay (bD.m0 bo) (aw 3) (kq (GK (GO (by decide:1<=64) _) B) (aw 2) (aw 4) (λ_ _=>rfl)))))))
   (ag (aO (aw 3))))),?_⟩
  walk_at "n";refine⟨_,_,_,n,(rk.icls k).cl,(rk.name k).2.1,_,(gQ I v k).2.1,h1 _ _ ?_⟩;walk_at "nc";refine⟨⟨_,aT.of C⟩,?_⟩;refine bO (xs:=bs.map V.ref) (λi σ m=>m=H/\i<=e.length/\∃(c:Int) (x:Option V),bU T v.c e=bU T c (e.drop i)/\σ=[some (V.ref a),some (V.ref J),some (V.ref d),some (V.int c),x]) ⟨rfl,Gr _,v.c,_,rfl,rfl⟩ (λi σ m _ h=>by rw[h.1];exact aT.of C) ?_ ?_
  ·rintro i x σ m z ⟨rfl,L,c,G,j,rfl⟩
   rw[F5]at z;obtain⟨b,y,rfl⟩:=Gv.mp z;obtain⟨g,p,o⟩:=D.get y;have md:=(F0.mp p).1;have M:e.drop i=g::e.drop (i+1):=by
    rw[q0T md];rw[FZ md]at p;cases p;rfl
   rw[M,show bU T c (g::e.drop (i+1))=(match T g with | none=>none | some v=>bU T (c+v) (e.drop (i+1))) from rfl]at j;have r:=O.get o;walk_at "n";refine⟨_,r,?_⟩;cases l:T g with
   |none=>
    rw[l]at j;rw[q07 (by rfl)];rw[show bU T v.c e=none from j]at q;exact q
   |some u=>
    rw[l]at j r;rw[q06 (by simp)];refine h1 _ _ ?_;clear h1;walk_at "wp";exact⟨_,r,_,rfl,md,_,j,rfl⟩
  ·rintro σ m ⟨rfl,L,c,G,j,rfl⟩
   refine h1 _ _ ?_;walk_at "wp";rw[F3,D.1,List.drop_length]at j;rw[j]at q;exact q
def sS(T:Ky->Option Int)(p:aD)(n:Nat)(r:Nat×RV):List (Int×Nat×List Ky):=(bu r p).filterMap λw=>(bU T r.2.c w).map λc=>(c,n,w)
def cj(T:Ky->Option Int)(rs:Yaa)(p:aD)(n:Nat):List (Int×Nat×List Ky):=match rs[n]? with
 |none=>[]
 |some r=>sS T p n r
def n_(H:Hp)(b:Addr)(y:Int×Nat×List Ky):Prop:=∃lw,H b=some (.tup [.int y.1,.int (y.2.1:Int),.ref lw])/\i6 H lw y.2.2
def gI(l:Addr)(H:Hp)(b:Addr)(y:Int×Nat×List Ky):Prop:=∃lw,lw≠l/\H b=some (.tup [.int y.1,.int (y.2.1:Int),.ref lw])/\i6 H lw y.2.2
theorem gI.up{l:Addr}{H H':Hp}{b:Addr}{y:Int×Nat×List Ky}(h:gI l H b y)(s:aA H H'):gI l H' b y:=let ⟨lw,h0,h1,h2⟩:=h;⟨lw,h0,s _ _ h1,sh h2 s⟩
theorem ug{H:Hp}{a l:Addr}{y:List Ky}{xs:List V}{o:HO}(h:i6 H a y)(hl:H l=some (.lst xs))(ne:a≠l):i6 (aB H l o) a y:=by
 obtain⟨bs,h1,h2⟩:=h;exact⟨bs,by rw[ai ne];exact h1,h2.mono λb k _ _ q=>q.put hl⟩
theorem gI.put{l:Addr}{H:Hp}{b:Addr}{y:Int×Nat×List Ky}{xs:List V}{o:HO}(h:gI l H b y)(hl:H l=some (.lst xs)):gI l (aB H l o) b y:=by
 obtain⟨c,a,h1,h2⟩:=h;exact⟨c,a,by rw[ai (λz=>by rw[z,hl]at h1;cases h1)];exact h1,ug h2 hl a⟩
abbrev lA:Stmt:=gZ 24
inductive nG(R:RC)(CG CC:Addr)(vs:List V)(H:Hp)(Q:VK)(_E:XK):Prop
 |mk (g dx ln cu d:Addr) (sg st:GZ) (as:G2) (rs:Yaa) (ns:GZ) (p:aD) (r c:Nat) (T:Ky->Option Int) (_:vs=[.ref g,.ref ln,.ref cu,.ref d]) (_:cW R H CG dx g sg st as rs) (_:(∀r∈rs,qI r)) (_:H ln=some (.lst (tJ ns))) (_:(∀n∈ns,n<rs.length)) (_:ns.length<=100) (_:du CC H cu p) (_:iO p r c) (_:gz H d T) (_:∀l H',H l=none->i5 n_ H' l (ns.flatMap (cj T rs p))->aA H H'->Q (.ref l) H')
theorem vL:aF ["grammar","numbers","cuts","told","found","number","rule","way","cost"] ["grammar","numbers","cuts","told"] (av lA):=by walk_at "c"
theorem nK{r:Nat×RV}{p:aD}{a c:Nat}(h4:r.1<4)(hp:iO p a c):(bu r p).length<=6:=by
 obtain⟨k,v⟩:=r;have:=hp.r6;have:=hp.c6;rcases ki h4 with h | h | h | h<;>(simp only at h;subst h)
 ·show(if bd p=v.sg then[[]] else[]).length<=6
  split<;>simp
 ·show((c8 true p (p.headD []).length).map _).length<=6
  unfold c8;rw[F3,F3,q0J,aW hp.rc hp.r0];omega
 ·show((c8 false p p.length).map _).length<=6
  unfold c8;rw[F3,F3,q0J,hp.rc.1];omega
 ·show([[_]]:List (List Ky)).length<=6
  simp
theorem vi{α β:Type}(f:α->List β){xs:List α}{i:Nat}{x:α}(h:xs[i]?=some x):(xs.take (i+1)).flatMap f=(xs.take i).flatMap f++f x:=by
 rw[q0E,h,List.flatMap_append];simp
theorem v5{R:RC}{f CG CC:Addr}{fd:G4}(F:dO K "coming" "coming" lA f fd)(nb:NB mg)(yah:iC P w K mg base bx 1 CG "rule" ["self","k"] (dA R CG))(yaK:sZ P w K mg base bx 5 "ways" (t5 R CC))(yas:eX P w K mg base bx 1 "cost_by" ["rule","way","told"] (lX R)):bc P w K mg base bx 6 f fd ["grammar","numbers","cuts","told"] (nG R CG CC):=by
 have sc:=vL;walk_at "f"
 ·obtain⟨g,dx,ln,cu,d,sg,st,as,L,ns,p,r,c,T,rfl,hG,hg,b1,c2,hn100,hC,hp,hT,q⟩:=h
  have hu:=hr.units;refine⟨_,(ae (q01 4 sc.nd (b7 ad))
   (ae (ba PassesOwn.never rfl (bL (aw 1)) (q02 5 sc.nd)
   (ae (q01 6 sc.nd (t_ yah (hr.mono nofun) aL (aw 0) (ac (aw 5) ad)))
   (ag (ba PassesOwn.never rfl (bL (yJ yaK (hr.mono nofun) aL (aw 6) (ac (aw 2) ad))) (q02 7 sc.nd)
   (ae (q01 8 sc.nd (aH yas (hr.mono nofun) rfl aL (ac (aw 6) (ac (aw 7) (ac (aw 3) ad)))))
   (ag (cz (bE zF (aw 8) xY (b_ _))
   (ag (bT (q03 (aw 4) (ac (dk (ac (aw 8) (ac (aw 5) (ac (aw 7) ad)))) ad))))
   bi)))))))
   (ag (aO (aw 4))))),?_⟩
  walk_at "n";refine⟨Gr _,λl hl=>h1 _ _ ?_⟩;clear h1;generalize z0:aB H l _=H1;obtain⟨s1,e1⟩:=kY hl z0;walk_at "n";refine⟨⟨_,aT.of (s1 _ _ b1)⟩,?_⟩;refine bO (xs:=tJ ns) (λi σ Y=>aA H Y/\i<=ns.length/\(∃bs:List Addr,Y l=some (.lst (bs.map V.ref))/\bf (gI l) Y bs ((ns.take i).flatMap (cj T L p))/\bs.length<=6*i)/\∃x1 x2 x3 x4,σ=[some (V.ref g),some (V.ref ln),some (V.ref cu),some (V.ref d),some (V.ref l),x1,x2,x3,x4]) ⟨s1,Gr _,⟨[],e1,bf.nil,Gr _⟩,_,_,_,_,rfl⟩ (λi σ Y _ h=>aT.of (h.1 _ _ b1)) ?_ ?_
  ·rintro i x σ Y hx ⟨sm,_,⟨bs,U,hA,c6⟩,x1,x2,x3,x4,rfl⟩
   rw[tJ,F5]at hx;obtain⟨n,hn,rfl⟩:=Gv.mp hx;have hi:=(F0.mp hn).1;have a8:=c2 n (F6 hn);obtain⟨k,D⟩:∃k,L[n]?=some k:=⟨_,FZ a8⟩;have C:=hg k (F6 D);have b6:=hG.up sm;obtain⟨lk,pn,t0,ha,hkk,a5,hN,hmm⟩:=id b6;obtain⟨b,S⟩:∃b,as[n]?=some b:=⟨_,FZ (by rw[a5.1];exact a8)⟩;have c1:=a5.2 n b k S D;rw[vi _ hn,show cj T L p n=sS T p n k by unfold cj;rw[D]];walk_at "n";refine⟨dx,_,ha,rfl,g,dx,sg,st,as,L,n,b,rfl,b6,S,h1 _ _ ?_⟩;clear h1;walk_at "wp";refine w9 C.k0 c1 (hC.up sm) hp C.good.t0 C.good.t7 λlw H2 b0 hW s2=>?_;obtain⟨ws,a2,b4⟩:=hW;have hwl:=nK C.k4 hp;refine⟨lw,rfl,⟨_,aT.of a2⟩,?_⟩;have a0:=sm.trans s2;have hT2:=hT.up a0;have a7:fg R H k.1 b k.2:=let ⟨_,_,_,_,_,hrs0,_,_⟩:=hG;hrs0.2 n b k S D
   have c9:=s2 _ _ U;have a9:lw≠l:=λe=>by rw[e,U]at b0;cases b0
   have h0:bf (gI l) H2 bs ((ns.take i).flatMap (cj T L p)++((bu k p).take 0).filterMap λw=>(bU T k.2.c w).map λc=>(c,n,w)):=by
    show bf (gI l) H2 bs ((ns.take i).flatMap (cj T L p)++[]);rw[GB];exact hA.mono λb y _ _ h=>h.up s2
   refine bO (xs:=ws.map V.ref) (λj σ J=>aA H J/\J lw=some (.lst (ws.map V.ref))/\bf i6 J ws (bu k p)/\(∀a∈ws,a≠l)/\j<=ws.length/\(∃bs:List Addr,J l=some (.lst (bs.map V.ref))/\bf (gI l) J bs ((ns.take i).flatMap (cj T L p)++((bu k p).take j).filterMap λw=>(bU T k.2.c w).map λc=>(c,n,w))/\bs.length<=6*i+j)/\∃x1 x2,σ=[some (V.ref g),some (V.ref ln),some (V.ref cu),some (V.ref d),some (V.ref l),some (V.int (n:Int)),some (V.ref b),x1,x2])
    ⟨a0,a2,b4.mono λ_ _ _ _ h=>h.2,λa ha=>?_,Gr _,⟨bs,c9,h0,⋯⟩,_,_,rfl⟩ (λj σ J _ h=>aT.of h.2.1) ?_ ?_
   ·obtain⟨j,hj⟩:=List.mem_iff_getElem?.mp ha
    obtain⟨y,_,hy⟩:=b4.get hj;exact λe=>by have:=hy.1;rw[e,U]at this;cases this
   ·rintro j x σ J hx ⟨o,O,m,v,_,⟨I,z,B,b2⟩,y1,y2,rfl⟩
    rw[F5]at hx;obtain⟨wa,M,rfl⟩:=Gv.mp hx;obtain⟨u,a4,a1⟩:=m.get M;have hj:=(F0.mp M).1;have hwlen:=m.1;have a6:=a7.up o;walk_at "n";refine⟨b,wa,d,k.1,k.2,u,T,rfl,a6,a1,hT.up o,h1 _ _ ?_⟩;clear h1;rw[q0E,a4,List.filterMap_append,<- GC];walk_at "wp";cases b3:bU T k.2.c u with
    |none=>
     rw[q06 (λh=>h rfl)];refine⟨o,O,m,v,hj,I,z,?_,⋯⟩;rw[show(some u).toList.filterMap (λw=>(bU T k.2.c w).map λc=>(c,n,w))=[] by simp[b3],GB];exact B
    |some cst=>
     rw[q07 (λh=>nomatch h)];refine⟨.inl ⟨rfl,_,aT.of z⟩,aM nofun,λtp c0=>?_⟩;generalize z0:aB J tp _=H4;obtain⟨Z,(e4:H4 tp=some (.tup [.int cst,.int (n:Int),.ref wa]))⟩:=kY c0 z0;have G:=Z _ _ z;have a3:=v wa (F6 M);refine⟨_,G,by rw[F3];exact aY ⋯,bG (o.trans Z) hl,by rw[ai a9];exact Z _ _ O,m.mono λb y U _ h=>ug (sh h Z) G (v b U),v,hj,I++[tp],by rw[af,Gc];rfl,?_,by rw[Gp];simp;omega⟩;rw[show(some u).toList.filterMap (λw=>(bU T k.2.c w).map λc=>(c,n,w))=[(cst,n,u)] by simp[b3]];exact(B.mono λb y _ _ h=>(h.up Z).put G).snoc (gI.put ⟨wa,a3,e4,sh a1 Z⟩ G)
   ·rintro σ J ⟨o,O,m,v,_,⟨I,z,B,b2⟩,y1,y2,rfl⟩
    rw[F3,m.1,GF]at B;rw[F3]at b2;exact⟨o,hi,⟨I,z,B,by have:=m.1;omega⟩,_,_,_,_,rfl⟩
  ·rintro σ Y ⟨sm,_,⟨bs,U,hA,c6⟩,x1,x2,x3,x4,rfl⟩
   refine h1 _ _ ?_;walk_at "wp";rw[tJ,F3,GF]at hA;exact q l Y hl ⟨bs,U,hA.mono λb y _ _ h=>let ⟨lw,_,h1,h2⟩:=h;⟨lw,h1,h2⟩⟩ sm
def C4:HO->Prop
 | .dT _=>True
 |_=>False
def Kp(H H':Hp):Prop:=∀x o,¬ C4 o->H x=some o->H' x=some o
theorem Kp.lst{H H':Hp}(s:Kp H H'){a:Addr}{xs:List V}(h:H a=some (.lst xs)):H' a=some (.lst xs):=s _ _ id h
theorem Kp.tup{H H':Hp}(s:Kp H H'){a:Addr}{xs:List V}(h:H a=some (.tup xs)):H' a=some (.tup xs):=s _ _ id h
theorem Kp.ins{H H':Hp}(s:Kp H H'){a C dx:Addr}{fs:List (Str×V)}(h:H a=some (.ins C dx fs)):H' a=some (.ins C dx fs):=s _ _ id h
theorem Kp.dK{H H':Hp}(s:Kp H H'){a:Addr}{fs:List (b9×V)}(h:H a=some (.dK fs)):H' a=some (.dK fs):=s _ _ id h
theorem aV.kp{R:RC}{H H':Hp}{as:G2}{rs:Yaa}(h:aV R H as rs)(s:Kp H H'):aV R H' as rs:=by
 refine⟨h.1,λi a r c b=>?_⟩;obtain⟨d,l,h1,h2⟩:=h.2 i a r c b;exact⟨d,l,s.ins h1,s.lst h2⟩
theorem cW.kp{R:RC}{H H':Hp}{C dx a:Addr}{sg st:GZ}{as:G2}{rs:Yaa}(g:cW R H C dx a sg st as rs)(s:Kp H H'):cW R H' C dx a sg st as rs:=by
 obtain⟨d,c,t,h1,h2,j,b,i⟩:=g;exact⟨d,c,t,s.ins h1,s.lst h2,j.kp s,⟨s.dK b.dict,λx e=>s.lst (b.list x e),b.apart⟩,i⟩
theorem aS.kp{d:Addr}{H H':Hp}{m:List (List b9×V)}(s:aS d H H')(hd:H d=some (.dT m)):Kp H H':=λx o h e=>s x o (λz=>by rw[z,hd]at e;cases e;exact h trivial) e
theorem yc{β:Type}{A:Hp->Addr->β->Prop}{H H':Hp}(u:∀{b:Addr} {y:β},A H b y->A H' b y)(s:Kp H H'){l:Addr}{ys:List β}(h:i5 A H l ys):i5 A H' l ys:=by
 obtain⟨bs,h1,h2⟩:=h;exact⟨bs,s.lst h1,h2.mono λb y _ _ q=>u q⟩
theorem aX.kp{H H':Hp}{a:Addr}{k:Ky}(h:aX H a k)(s:Kp H H'):aX H' a k:=s.tup h
theorem du.kp{CC:Addr}{H H':Hp}{c:Addr}{p:aD}(h:du CC H c p)(s:Kp H H'):du CC H' c p:=by
 obtain⟨i,a,b,d,h1,h2,g,e⟩:=h;exact⟨i,a,b,d,s.ins h1,s.lst h2,yc (A:=aX) (λq=>q.kp s) s g,yc (A:=aX) (λq=>q.kp s) s e⟩
theorem n_.kp{H H':Hp}{b:Addr}{y:Int×Nat×List Ky}(h:n_ H b y)(s:Kp H H'):n_ H' b y:=let ⟨lw,h1,h2⟩:=h;⟨lw,s.tup h1,yc (A:=aX) (λq=>q.kp s) s h2⟩
abbrev Tb:=List (Ky×Int)
def dW(e:Ky×Int):List b9×V:=(gC e.1,.int e.2)
def az(tb:Tb)(k:Ky):Option Int:=(tb.find? λe=>decide (e.1=k)).map (·.2)
def jY(tb:Tb)(k:Ky)(v:Int):Tb:=if(az tb k).isSome=true then tb.map (λe=>if e.1=k then(e.1,v) else e) else tb++[(k,v)]
theorem dj(e:Ky×Int)(tb:Tb)(k:Ky):az (e::tb) k=if e.1=k then some e.2 else az tb k:=by
 unfold az;rw[List.find?_cons]
 by_cases h:e.1=k
 ·simp[h]
 ·simp[h]
theorem kX(tb:Tb)(k:Ky):c3 (tb.map dW) (gC k)=(az tb k).map V.int:=by
 induction tb with
 |nil=>rfl
 |cons e tb ih=>
  rw[Gx,dj]
  by_cases h:e.1=k
  ·rw[fH (show(dW e).1=gC k from q0R gC h),q07 h];rfl
  ·rw[fB (λq=>h (pY q)),q06 h];exact ih
theorem rj(tb:Tb)(k:Ky)(v:Int):cM (tb.map dW) (gC k) (.int v)=(jY tb k v).map dW:=by
 unfold cM jY;rw[fD,kX,Option.isSome_map]
 split
 ·rw[Gf,Gf]
  refine q0K λe _=>?_;show(if gC e.1=gC k then(gC e.1,V.int v) else dW e)=dW (if e.1=k then(e.1,v) else e)
  by_cases h:e.1=k
  ·rw[q07 (q0R gC h),q07 h];rfl
  ·rw[q06 λq=>h (pY q),q06 h]
 ·rw[Gc];rfl
theorem qY(k:Ky)(v:Int)(k':Ky):∀tb:Tb,az (tb.map λe=>if e.1=k then(e.1,v) else e) k'=if k'=k then(az tb k).map λ_=>v else az tb k'
 | []=>by simp[az]
 |e::tb=>by
  rw[Gx,dj,dj,dj,qY k v k' tb]
  by_cases h:e.1=k
  ·by_cases h':k'=k
   ·simp[h,h']
   ·have:¬ k=k':=λq=>h' q.symm
    simp[h,h',this]
  ·by_cases h':k'=k
   ·subst h';simp[h]
   ·simp[h,h']
theorem ng(k:Ky)(v:Int)(k':Ky):∀tb:Tb,az (tb++[(k,v)]) k'=match az tb k' with
  |some u=>some u
  |none=>if k=k' then some v else none
 | []=>by simp[az]
 |e::tb=>by
  rw[List.cons_append,dj,dj,ng k v k' tb]
  by_cases h:e.1=k'
  ·simp[h]
  ·simp[h]
theorem fL(tb:Tb)(k:Ky)(v:Int)(k':Ky):az (jY tb k v) k'=if k'=k then some v else az tb k':=by
 unfold jY
 split
 ·rename_i h
  rw[qY];obtain⟨u,hu⟩:=Option.isSome_iff_exists.mp h;rw[hu];rfl
 ·rename_i h
  rw[ng]
  by_cases e:k'=k
  ·subst e
   have:az tb k'=none:=by simpa using h
   rw[this,q07 rfl]
  ·rw[q06 e,q06 λq=>e q.symm]
   cases az tb k'<;>rfl
theorem yC{tb:Tb}{k:Ky}{v:Int}(h:az tb k=some v):(k,v)∈tb:=by
 unfold az at h;obtain⟨e,a,rfl⟩:=Gv.mp h;have h1:=List.find?_some a;have h2:=List.mem_of_find?_eq_some a;have b:e.1=k:=by simpa using h1
 rw[<- b];exact h2
theorem wt{tb:Tb}{k:Ky}(h:az tb k=none):k∉tb.map (·.1):=by
 intro a;obtain⟨e,b,rfl⟩:=GM.mp a;unfold az at h;rw[Option.map_eq_none_iff,List.find?_eq_none]at h;exact h e b (by simp)
theorem qQ{tb:Tb}(nd:(tb.map (·.1)).Nodup){k:Ky}{v:Int}(h:(k,v)∈tb):az tb k=some v:=by
 induction tb with
 |nil=>exact nomatch h
 |cons e tb ih=>
  rw[Gx,List.nodup_cons]at nd;rw[dj];rcases Gg.mp h with rfl | h
  ·rw[q07 rfl]
  ·rw[q06 λq=>nd.1 (by rw[q];exact GM.mpr ⟨_,h,rfl⟩)]
   exact ih nd.2 h
theorem m7(tb:Tb)(k:Ky)(v:Int):(jY tb k v).map (·.1)=if(az tb k).isSome=true then tb.map (·.1) else tb.map (·.1)++[k]:=by
 unfold jY
 split
 ·rw[Gf]
  refine q0K λe _=>?_;show(if e.1=k then(e.1,v) else e).1=e.1
  split<;>rfl
 ·rw[Gc];rfl
theorem uB{tb:Tb}{k:Ky}{v:Int}(nd:(tb.map (·.1)).Nodup):((jY tb k v).map (·.1)).Nodup:=by
 rw[m7]
 split
 ·exact nd
 ·rename_i h
  rw[List.nodup_append];refine⟨nd,by simp,λa ha b hb e=>?_⟩;rw[F4.mp hb]at e;exact wt (by simpa using h) (e▸ha)
theorem qH(tb:Tb)(k:Ky)(v:Int):(jY tb k v).length=if(az tb k).isSome=true then tb.length else tb.length+1:=by
 have:=q0R List.length (m7 tb k v);rw[F3]at this;rw[this]
 split
 ·rw[F3]
 ·rw[Gp,F3];rfl
def bF(H:Hp)(d:Addr)(tb:Tb):Prop:=H d=some (.dT (tb.map dW))
theorem bF.told{H:Hp}{d:Addr}{tb:Tb}(h:bF H d tb):gz H d (az tb):=⟨_,h,λk=>kX tb k⟩
theorem bF.up{H H':Hp}{d:Addr}{tb:Tb}(h:bF H d tb)(s:aA H H'):bF H' d tb:=s _ _ h
def fS(tb:Tb)(k:Ky)(v:Int):Bool:=match az tb k with
 |some u=>decide (v<u)
 |none=>true
def cV(tb:Tb)(k:Ky)(v:Int):Tb:=if fS tb k v=true then jY tb k v else tb
def qK(tb tb':Tb):Prop:=∀k u,az tb k=some u->∃u',u'<=u/\az tb' k=some u'
theorem qK.refl(tb:Tb):qK tb tb:=λk u h=>⟨u,Int.le_refl _,h⟩
theorem qK.trans{a b c:Tb}(h1:qK a b)(h2:qK b c):qK a c:=λk u h=>by
 obtain⟨u1,l1,e1⟩:=h1 k u h;obtain⟨u2,l2,e2⟩:=h2 k u1 e1;exact⟨u2,Int.le_trans l2 l1,e2⟩
theorem gY(tb:Tb)(k:Ky)(v:Int)(k':Ky):az (cV tb k v) k'=if k'=k/\fS tb k v=true then some v else az tb k':=by
 unfold cV
 by_cases h:fS tb k v=true
 ·rw[q07 h,fL]
  by_cases e:k'=k
  ·rw[q07 e,q07 ⟨e,h⟩]
  ·rw[q06 e,q06 λq=>e q.1]
 ·rw[q06 h,q06 λq=>h q.2]
theorem pO{tb:Tb}{k:Ky}{v:Int}{k':Ky}(h:k'≠k):az (cV tb k v) k'=az tb k':=by rw[gY,q06 λq=>h q.1]
theorem uJ(tb:Tb)(k:Ky)(v:Int):∃v',v'<=v/\az (cV tb k v) k=some v':=by
 rw[gY];cases h:fS tb k v with
 |true=>exact⟨v,Int.le_refl _,by simp⟩
 |false=>
  unfold fS at h;cases a:az tb k with
  |none=>rw[a]at h;cases h
  |some u=>
   rw[a]at h;have:¬ v<u:=by simpa using h
   exact⟨u,⋯,by simp⟩
theorem sQ(tb:Tb)(k:Ky)(v:Int):qK tb (cV tb k v):=by
 intro b u a;rw[gY]
 by_cases e:b=k/\fS tb k v=true
 ·rw[q07 e]
  obtain⟨rfl,h⟩:=e;unfold fS at h;rw[a]at h;have:v<u:=by simpa using h
  exact⟨v,⋯,rfl⟩
 ·rw[q06 e];exact⟨u,Int.le_refl _,a⟩
theorem oE{tb:Tb}{k:Ky}{v:Int}{k':Ky}{u:Int}(h:az (cV tb k v) k'=some u):az tb k'=some u\/k'=k/\u=v:=by
 rw[gY]at h
 split at h
 ·rename_i e
  exact .inr ⟨e.1,by injection h with h;exact h.symm⟩
 ·exact .inl h
theorem wM{tb:Tb}{k:Ky}{v:Int}(nd:(tb.map (·.1)).Nodup):((cV tb k v).map (·.1)).Nodup:=by
 unfold cV
 split
 ·exact uB nd
 ·exact nd
theorem uy(tb:Tb)(k:Ky)(v:Int):(cV tb k v).length<=if(az tb k).isSome=true then tb.length else tb.length+1:=by
 unfold cV
 split
 ·rw[qH];exact Gq _
 ·split<;>omega
def wK(p:aD):Prop:=p≠[]/\bp p
theorem wK.inj{p q:aD}(h:wK p)(h':wK q)(e:bd p=bd q):p=q:=SpM.glue_inj 47 h.1 h'.1 h.2 h'.2 e
inductive Dv(rs:Yaa):Ky->Int->Prop
 |leaf {r:Nat×RV} {p:aD}:r∈rs->wK p->[]∈bu r p->Dv rs (bd p,r.2.n) r.2.c
 |one {r:Nat×RV} {p:aD} {k:Ky} {a:Int}:r∈rs->wK p->[k]∈bu r p->Dv rs k a->Dv rs (bd p,r.2.n) (r.2.c+a)
 |two {r:Nat×RV} {p:aD} {k1 k2:Ky} {a b:Int}:r∈rs->wK p->[k1,k2]∈bu r p->Dv rs k1 a->Dv rs k2 b->Dv rs (bd p,r.2.n) (r.2.c+a+b)
theorem m9{r:Nat×RV}{p:aD}{w:List Ky}(h:w∈bu r p):w=[]\/(∃k,w=[k])\/∃k1 k2,w=[k1,k2]:=by
 unfold bu at h
 split at h
 ·split at h
  ·exact .inl (F4.mp h)
  ·exact nomatch h
 ·obtain⟨k,_,rfl⟩:=GM.mp h
  exact .inr (.inr ⟨_,_,rfl⟩)
 ·obtain⟨k,_,rfl⟩:=GM.mp h
  exact .inr (.inr ⟨_,_,rfl⟩)
 ·exact .inr (.inl ⟨_,F4.mp h⟩)
theorem kR{T:Ky->Option Int}{c v:Int}{k:Ky}(h:bU T c [k]=some v):∃a,T k=some a/\v=c+a:=by
 unfold bU at h;cases b:T k with
 |none=>rw[b]at h;cases h
 |some a=>rw[b]at h;injection h with h;exact⟨a,rfl,h.symm⟩
theorem qD{T:Ky->Option Int}{c v:Int}{k1 k2:Ky}(h:bU T c [k1,k2]=some v):∃a b,T k1=some a/\T k2=some b/\v=c+a+b:=by
 unfold bU at h;cases d:T k1 with
 |none=>rw[d]at h;cases h
 |some a=>
  rw[d]at h;obtain⟨b,g,e⟩:=kR h;exact⟨a,b,rfl,g,e⟩
theorem y_{rs:Yaa}{T:Ky->Option Int}{r:Nat×RV}{p:aD}{w:List Ky}{v:Int}(hr:r∈rs)(hp:wK p)(hw:w∈bu r p)(hc:bU T r.2.c w=some v)(hT:∀k∈w,∀u,T k=some u->Dv rs k u):Dv rs (bd p,r.2.n) v:=by
 rcases m9 hw with rfl | ⟨k,rfl⟩ | ⟨g,e,rfl⟩
 ·injection hc with hc;rw[<- hc];exact .leaf hr hp hw
 ·obtain⟨a,d,rfl⟩:=kR hc
  exact .one hr hp hw (hT k (by simp) a d)
 ·obtain⟨a,b,d,i,rfl⟩:=qD hc
  exact .two hr hp hw (hT g (by simp) a d) (hT e (by simp) b i)
theorem gS{T T':Ky->Option Int}:∀{w:List Ky} {c:Int},(∀k∈w,T k=T' k)->bU T c w=bU T' c w
 | [],c,_=>rfl
 |k::w,c,h=>by
  show(match T k with | none=>none | some v=>bU T (c+v) w)=(match T' k with | none=>none | some v=>bU T' (c+v) w);rw[h k (q0B ..)];cases T' k with
  |none=>rfl
  |some v=>exact gS λk hk=>h k (Gh _ hk)
def Eh(rs:Yaa)(T:Ky->Option Int)(q:aD):Prop:=∀r∈rs,∀w∈bu r q,∀v,bU T r.2.c w=some v->∃v',v'<=v/\T (bd q,r.2.n)=some v'
theorem mR{r:Nat×RV}{q:aD}{a c:Nat}(hq:rect q a c)(a0:0<a)(c0:0<c){w:List Ky}(hw:w∈bu r q){k:Ky}(hk:k∈w) :
  (∃t l b x,t<b/\b<=a/\l<x/\x<=c/\k.1=bd (cut q t l b x)/\aU (cut q t l b x)<aU q/\r.1<3)\/(3<=r.1/\w=[(bd (turned q (fc r.2.t.toNat)),r.2.o1)]):=by
 have cell:∀{t l b x:Nat},t<b->b<=a->l<x->x<=c->(b-t<a/\x-l=c\/b-t=a/\x-l<c)->aU (cut q t l b x)<aU q:=by
  intro t l b x h1 h2 h3 h4 h5;have hc:=bP hq h1 h2 h3 h4;unfold aU;rw[hc.1,aW hc ⋯,hq.1,aW hq a0];rcases h5 with⟨h,e⟩ | ⟨e,h⟩
  ·rw[e];exact Nat.mul_lt_mul_of_pos_right h c0
  ·rw[e];exact Nat.mul_lt_mul_of_pos_left h a0
 unfold bu at hw
 split at hw
 ·split at hw
  ·rw[F4.mp hw]at hk;exact nomatch hk
  ·exact nomatch hw
 ·rename_i hr
  obtain⟨k0,h0,rfl⟩:=GM.mp hw;unfold c8 at h0;obtain⟨j,hj,rfl⟩:=GM.mp h0;have hj:=List.mem_range.mp hj;rw[aW hq a0]at hj
  left
  rcases Gg.mp hk with rfl | hk
  ·exact⟨0,0,a,j+1,a0,Gq _,⋯,⋯,q0R bd (mL hq),cell a0 (Gq _) ⋯ ⋯ (.inr ⟨⋯,⋯⟩),⋯⟩
  ·rw[F4.mp hk]
   exact⟨0,j+1,a,c,a0,Gq _,⋯,Gq _,q0R bd (mS hq),cell a0 (Gq _) ⋯ (Gq _) (.inr ⟨⋯,⋯⟩),⋯⟩
 ·rename_i hr
  obtain⟨k0,h0,rfl⟩:=GM.mp hw;unfold c8 at h0;obtain⟨j,hj,rfl⟩:=GM.mp h0;have hj:=List.mem_range.mp hj;rw[hq.1]at hj
  left
  rcases Gg.mp hk with rfl | hk
  ·exact⟨0,0,j+1,c,⋯,⋯,c0,Gq _,q0R bd (mX hq),cell ⋯ ⋯ c0 (Gq _) (.inl ⟨⋯,⋯⟩),⋯⟩
  ·rw[F4.mp hk]
   exact⟨j+1,0,a,c,⋯,Gq _,c0,Gq _,q0R bd (mN hq),cell ⋯ (Gq _) c0 (Gq _) (.inl ⟨⋯,⋯⟩),⋯⟩
 ·rename_i x h0 h1 h2
  right
  refine⟨?_,F4.mp hw⟩;rcases hh:r.1 with _ | _ | _ | n
  ·exact q0Q hh h0
  ·exact q0Q hh h1
  ·exact q0Q hh h2
  ·omega
theorem fu{p q:aD}{r c:Nat}(hp:rect p r c)(hn:bp p)(h:bh p r c q):wK q:=by
 obtain⟨r',c',h1,h2,_⟩:=h.rect hp;exact⟨λe=>by rw[e]at h1;have:=h1.1;simp at this;omega,h.ns hp hn⟩
theorem wH{p q:aD}{r c:Nat}(hp:rect p r c)(h:bh p r c q){x:Nat×RV}(t0:0<=x.2.t)(t7:x.2.t<=7){w:List Ky}(hw:w∈bu x q){k:Ky}(hk:k∈w):∃q',bh p r c q'/\k.1=bd q'/\(aU q'<aU q\/3<=x.1/\q'=turned q (fc x.2.t.toNat)):=by
 obtain⟨a,b,h1,h2,n,_⟩:=h.rect hp;rcases mR h1 h2 n hw hk with⟨t,l,b,y,d,m,j,i,g,e,_⟩ | ⟨d,rfl⟩
 ·exact⟨_,h.cut hp h1 d m j i,g,.inl e⟩
 ·rw[F4.mp hk]
  exact⟨_,h.turned hp (iW ⋯),rfl,.inr ⟨d,rfl⟩⟩
def CK(q:aD)(ns:List (List Nat)):List Ky:=(List.range 8).flatMap λt=>ns.map λn=>(bd (turned q t),n)
theorem ij{q:aD}{ns:List (List Nat)}{k:Ky}:k∈CK q ns↔∃t,t<8/\∃n,n∈ns/\k=(bd (turned q t),n):=by
 unfold CK;simp only[List.mem_flatMap,List.mem_range,GM]
 constructor
 ·rintro⟨t,a,n,b,rfl⟩;exact⟨t,a,n,b,rfl⟩
 ·rintro⟨t,a,n,b,rfl⟩;exact⟨t,a,n,b,rfl⟩
theorem pM(q:aD)(ns:List (List Nat)):(CK q ns).length=8*ns.length:=by
 unfold CK;rw[List.length_flatMap];simp only[F3];show ns.length+(ns.length+(ns.length+(ns.length+(ns.length+(ns.length+(ns.length+(ns.length+0)))))))=_;omega
def fF(q:aD)(r:Nat×RV)(t:Nat):Ky:=(bd (turned q (after t r.2.t.toNat)),r.2.n)
def xH(trs:Yaa)(q:aD)(tb:Tb)(k:Ky)(v:Int):Prop:=∀r∈trs,r.2.o1=k.2->∀t,t<8->k.1=bd (turned q t)->∃v',v'<=v+r.2.c/\az tb (fF q r t)=some v'
theorem xH.le{trs:Yaa}{q:aD}{tb tb':Tb}{k:Ky}{v:Int}(h:xH trs q tb k v)(l:qK tb tb'):xH trs q tb' k v:=λr hr e t ht e'=>by
 obtain⟨v1,l1,e1⟩:=h r hr e t ht e';obtain⟨v2,l2,e2⟩:=l _ _ e1;exact⟨v2,Int.le_trans l2 l1,e2⟩
theorem ol{α:Type}{f g:α->Nat}:∀{ks:List α},(∀x∈ks,f x<=g x)->(ks.map f).sum<=(ks.map g).sum
 | [],_=>Gq _
 |k::ks,h=>by
  have h1:=h k (q0B ..);have h2:=ol (ks:=ks) λx hx=>h x (Gh _ hx);rw[Gx,Gx,List.sum_cons,List.sum_cons];omega
theorem oz{α:Type}{f g:α->Nat}:∀{ks:List α} {x:α},(∀x∈ks,f x<=g x)->x∈ks->f x<g x->(ks.map f).sum+1<=(ks.map g).sum
 | [],_,_,h,_=>nomatch h
 |k::ks,x,h,hx,hl=>by
  have h1:=h k (q0B ..);have hr:∀x∈ks,f x<=g x:=λx hx=>h x (Gh _ hx);rw[Gx,Gx,List.sum_cons,List.sum_cons];rcases Gg.mp hx with rfl | hx
  ·have h2:=ol hr;omega
  ·have h2:=oz hr hx hl;omega
theorem lB{α:Type}{f:α->Nat}{b:Nat}:∀{ks:List α},(∀x∈ks,f x<=b)->(ks.map f).sum<=b*ks.length
 | [],_=>Gr _
 |k::ks,h=>by
  have h1:=h k (q0B ..);have h2:=lB (ks:=ks) λx hx=>h x (Gh _ hx);rw[Gx,List.sum_cons,Gb,Nat.mul_succ];omega
def tD(tb:Tb)(k:Ky):Nat:=match az tb k with
 |some _=>1
 |none=>0
def yY(B:Nat)(tb:Tb)(k:Ky):Nat:=match az tb k with
 |some v=>v.toNat
 |none=>B+1
def kJ(ks:List Ky)(tb:Tb):Nat:=(ks.map (tD tb)).sum
def Bu(ks:List Ky)(B:Nat)(tb:Tb):Nat:=(ks.map (yY B tb)).sum
theorem fM(ks:List Ky)(tb:Tb):kJ ks tb<=ks.length:=by
 have:=lB (f:=tD tb) (b:=1) (ks:=ks) λx _=>by unfold tD;split<;>omega
 unfold kJ;omega
theorem uq{tb tb':Tb}(l:qK tb tb')(k:Ky):tD tb k<=tD tb' k:=by
 unfold tD;cases h:az tb k with
 |none=>exact Gr _
 |some v=>
  obtain⟨v',_,e⟩:=l k v h;rw[e];exact Gq _
theorem Bs{tb tb':Tb}(l:qK tb tb')(ks:List Ky):kJ ks tb<=kJ ks tb':=ol λx _=>uq l x
theorem za{tb tb':Tb}(l:qK tb tb'){ks:List Ky}{k:Ky}{v:Int}(hk:k∈ks)(h:az tb k=none)(h':az tb' k=some v):kJ ks tb+1<=kJ ks tb':=oz (λx _=>uq l x) hk (by unfold tD;rw[h,h'];exact Nat.zero_lt_one)
structure TI(trs rs:Yaa)(q:aD)(ns:List (List Nat))(M L0:Nat)(tb0 tb:Tb)(op:Ky->Prop):Prop where
 nd:(tb.map (·.1)).Nodup
 le:qK tb0 tb
 out:∀k,k∉CK q ns->az tb k=az tb0 k
 snd:∀k∈CK q ns,∀v,az tb k=some v->Dv rs k v
 sett:∀k∈CK q ns,∀v,az tb k=some v->¬ op k->xH trs q tb k v
 opk:∀k,op k->k∈CK q ns/\∃v,az tb k=some v
 pos:∀k∈CK q ns,∀v,az tb k=some v->1<=v/\v<=((M+9*kJ (CK q ns) tb:Nat):Int)
 len:tb.length<=L0+kJ (CK q ns) tb
theorem TI.op{trs rs:Yaa}{q:aD}{ns:List (List Nat)}{M L0:Nat}{tb0 tb:Tb}{op op':Ky->Prop}(h:TI trs rs q ns M L0 tb0 tb op)(h1:∀k,op' k->op k)(h2:∀k v,op k->¬ op' k->az tb k=some v->xH trs q tb k v):TI trs rs q ns M L0 tb0 tb op':=
 ⟨h.nd,h.le,h.out,h.snd,λk hk v e no=>by
  by_cases ho:op k
  ·exact h2 k v ho no e
  ·exact h.sett k hk v e ho,λk ho=>h.opk k (h1 k ho),h.pos,h.len⟩
theorem jF{r:Nat×RV}(h:3<=r.1)(p:aD):bu r p=[[(bd (turned p (fc r.2.t.toNat)),r.2.o1)]]:=by
 unfold bu
 split
 ·omega
 ·omega
 ·omega
 ·rfl
structure D3(rs:Yaa)(ns:List (List Nat))(r:Nat×RV):Prop where
 mem:r∈rs
 k3:3<=r.1
 c1:1<=r.2.c
 c9:r.2.c<=9
 t0:0<=r.2.t
 t7:r.2.t<=7
 nm:r.2.n∈ns
theorem TI.low{trs rs:Yaa}{q:aD}{ns:List (List Nat)}{M L0 a c:Nat}{tb0 tb:Tb}{op:Ky->Prop}(h:TI trs rs q ns M L0 tb0 tb op)(hq:rect q a c)(a0:0<a)(c0:0<c)(hO:∀t,t<8->wK (turned q t))(h8:ns.length<=8){r:Nat×RV}(hr:D3 rs ns r){t:Nat}(ht:t<8){v:Int}(hk:(bd (turned q t),r.2.o1)∈CK q ns)(hv:az tb (bd (turned q t),r.2.o1)=some v) :
  TI trs rs q ns M L0 tb0 (cV tb (fF q r t) (v+r.2.c)) (λx=>op x\/(fS tb (fF q r t) (v+r.2.c)=true/\x=fF q r t))/\Bu (CK q ns) (M+576) (cV tb (fF q r t) (v+r.2.c))+(if fS tb (fF q r t) (v+r.2.c)=true then 1 else 0)<=Bu (CK q ns) (M+576) tb:=by
 have B:r.2.t.toNat<8:=by have:=hr.t0;have:=hr.t7;omega
 have G:=fz ht B;have g:fF q r t∈CK q ns:=ij.mpr ⟨_,G,_,hr.nm,rfl⟩;have m:Dv rs (fF q r t) (v+r.2.c):=by
  rw[Int.add_comm];refine Dv.one hr.mem (hO _ G) (k:=(bd (turned q t),r.2.o1)) ?_ (h.snd _ hk v hv);rw[jF hr.k3];have C:=cS hq a0 c0 t;rw[<- bj hq a0 c0 ht B,jU C (by split<;>assumption) (by split<;>assumption) B];exact F4.mpr rfl
 have hc1:=hr.c1;have hc9:=hr.c9;obtain⟨p1,p2⟩:=h.pos _ hk v hv;generalize fF q r t=k' at g m ⊢;generalize hv':v+r.2.c=v' at m ⊢;cases o:fS tb k' v' with
 |false=>
  have e:cV tb k' v'=tb:=by unfold cV;rw[o];rfl
  rw[e];exact⟨h.op (λk hk=>hk.elim id λx=>q0Q x.1 (by simp)) λk v l p _=>q0Q (.inl l) p,by simp⟩
 |true=>
  have d:=sQ tb k' v';have hcl:=Bs d (CK q ns);have b:az (cV tb k' v') k'=some v':=by rw[gY,q07 ⟨rfl,o⟩]
  have D:=fM (CK q ns) (cV tb k' v');rw[pM]at D;have j:∀w,az tb k'=some w->v'<w:=λw i=>by
   unfold fS at o;rw[i]at o
   simpa using o
  have n:az tb k'=none->kJ (CK q ns) tb+1<=kJ (CK q ns) (cV tb k' v'):=λJ=>za d g J b;have z:v'<=((M+9*kJ (CK q ns) (cV tb k' v'):Nat):Int):=by
   cases i:az tb k' with
   |none=>have:=n i;omega
   |some w=>
    have h1:=j w i;have h2:=(h.pos _ g w i).2;omega
  refine⟨⟨wM h.nd,h.le.trans d,λk hk=>?_,λk hk w e=>?_,λk hk w e p=>?_,λk l=>?_,λk hk w e=>?_,?_⟩,?_⟩
  ·rw[pO λe=>hk (by rw[e];exact g)];exact h.out k hk
  ·rcases oE e with e | ⟨rfl,rfl⟩
   ·exact h.snd k hk w e
   ·exact m
  ·have I:k≠k':=λe=>p (.inr ⟨rfl,e⟩)
   rw[pO I]at e;exact(h.sett k hk w e λl=>p (.inl l)).le d
  ·rcases l with l | ⟨_,rfl⟩
   ·obtain⟨h1,w,h2⟩:=h.opk k l
    obtain⟨y,_,L⟩:=d k w h2;exact⟨h1,y,L⟩
   ·exact⟨g,v',b⟩
  ·rcases oE e with e | ⟨rfl,rfl⟩
   ·have:=h.pos k hk w e
    exact⟨this.1,⋯⟩
   ·exact⟨⋯,z⟩
  ·have h1:=uy tb k' v'
   have h2:=h.len;cases i:az tb k' with
   |none=>rw[i]at h1;have:=n i;simp at h1;omega
   |some w=>rw[i]at h1;simp at h1;omega
  ·rw[q07 rfl]
   refine oz (x:=k') (λx _=>?_) g ?_
   ·unfold yY
    cases u:az tb x with
    |none=>
     by_cases e:x=k'
     ·subst e;rw[b]
      show v'.toNat<=_;simp only;omega
     ·rw[pO e,u];exact Gq _
    |some w=>
     obtain⟨y,l1,O⟩:=d x w u;rw[O];show y.toNat<=w.toNat;omega
   ·unfold yY
    rw[b];cases u:az tb k' with
    |none=>show v'.toNat<_;simp only;omega
    |some w=>
     have:=j w u;show v'.toNat<w.toNat;omega
theorem TI.mu{trs rs:Yaa}{q:aD}{ns:List (List Nat)}{M L0:Nat}{tb0 tb:Tb}{op:Ky->Prop}(h:TI trs rs q ns M L0 tb0 tb op)(h8:ns.length<=8):Bu (CK q ns) (M+576) tb<=(M+577)*64:=by
 have h64:=fM (CK q ns) tb;have hl:=pM q ns;have h1:Bu (CK q ns) (M+576) tb<=(M+577)*(CK q ns).length:=lB λx a=>by
  unfold yY;cases b:az tb x with
  |none=>exact Gq _
  |some v=>
   have:=(h.pos x a v b).2;show v.toNat<=_;omega
 exact Gy h1 (Nat.mul_le_mul_left _ ⋯)
theorem TI.len64{trs rs:Yaa}{q:aD}{ns:List (List Nat)}{M L0:Nat}{tb0 tb:Tb}{op:Ky->Prop}(h:TI trs rs q ns M L0 tb0 tb op)(h8:ns.length<=8):tb.length<=L0+64:=by
 have h64:=fM (CK q ns) tb;have hl:=pM q ns;have:=h.len;omega
def ju(rs:Yaa)(n:Nat):List Nat:=match rs[n]? with
 |some r=>r.2.n
 |none=>[]
def mq(rs:Yaa)(p:aD)(tb:Tb)(ys:List (Int×Nat×List Ky)):Tb:=ys.foldl (λtb y=>cV tb (bd p,ju rs y.2.1) y.1) tb
def Cv(rs:Yaa)(ns:GZ)(p:aD)(tb:Tb):Tb:=mq rs p tb (ns.flatMap (cj (az tb) rs p))
structure DN(rs:Yaa)(p:aD)(tb tb':Tb)(ys:List (Int×Nat×List Ky)):Prop where
 le:qK tb tb'
 out:∀k:Ky,k.1≠bd p->az tb' k=az tb k
 all:∀y∈ys,∃v',v'<=y.1/\az tb' (bd p,ju rs y.2.1)=some v'
 val:∀k v,az tb' k=some v->az tb k=some v\/∃y∈ys,k=(bd p,ju rs y.2.1)/\v=y.1
 len:tb'.length<=tb.length+ys.length
 nd:(tb.map (·.1)).Nodup->(tb'.map (·.1)).Nodup
theorem jt(rs:Yaa)(p:aD):∀(ys:List (Int×Nat×List Ky)) (tb:Tb),DN rs p tb (mq rs p tb ys) ys
 | [],tb=>⟨qK.refl _,λ_ _=>rfl,(λy hy=>nomatch hy),λk v h=>.inl h,Gq _,id⟩
 |y::ys,tb=>by
  have ih:=jt rs p ys (cV tb (bd p,ju rs y.2.1) y.1);have e:mq rs p tb (y::ys)=mq rs p (cV tb (bd p,ju rs y.2.1) y.1) ys:=rfl;rw[e];refine⟨(sQ _ _ _).trans ih.le,λk hk=>?_,λz hz=>?_,λk v h=>?_,?_,λnd=>ih.nd (wM nd)⟩
  ·rw[ih.out k hk,pO λq=>hk (by rw[q])]
  ·rcases Gg.mp hz with rfl | hz
   ·obtain⟨v,l1,e1⟩:=uJ tb (bd p,ju rs z.2.1) z.1
    obtain⟨v',l2,e2⟩:=ih.le _ _ e1;exact⟨v',Int.le_trans l2 l1,e2⟩
   ·exact ih.all z hz
  ·rcases ih.val k v h with h | ⟨z,hz,e1,e2⟩
   ·rcases oE h with h | ⟨e1,e2⟩
    ·exact .inl h
    ·exact .inr ⟨y,q0B ..,e1,e2⟩
   ·exact .inr ⟨z,Gh _ hz,e1,e2⟩
  ·have h1:=ih.len
   have h2:=uy tb (bd p,ju rs y.2.1) y.1;rw[Gb]
   split at h2<;>omega
theorem nk{T:Ky->Option Int}{rs:Yaa}{p:aD}{ns:GZ}{y:Int×Nat×List Ky}(h:y∈ns.flatMap (cj T rs p)):y.2.1∈ns/\∃r,rs[y.2.1]?=some r/\y.2.2∈bu r p/\bU T r.2.c y.2.2=some y.1:=by
 obtain⟨n,d,a⟩:=List.mem_flatMap.mp h;unfold cj at a;cases hr:rs[n]? with
 |none=>rw[hr]at a;exact nomatch a
 |some r=>
  rw[hr]at a;unfold sS at a;obtain⟨w,b,e⟩:=List.mem_filterMap.mp a;obtain⟨c,g,rfl⟩:=Gv.mp e;exact⟨d,r,hr,b,g⟩
theorem v4{T:Ky->Option Int}{rs:Yaa}{p:aD}{ns:GZ}{n:Nat}{r:Nat×RV}{w:List Ky}{v:Int}(hn:n∈ns)(hr:rs[n]?=some r)(hw:w∈bu r p)(hc:bU T r.2.c w=some v):(v,n,w)∈ns.flatMap (cj T rs p):=by
 refine List.mem_flatMap.mpr ⟨n,hn,?_⟩;unfold cj;rw[hr];exact List.mem_filterMap.mpr ⟨w,hw,by rw[hc];rfl⟩
theorem iu{T:Ky->Option Int}{rs:Yaa}{p:aD}{a c:Nat}(hp:iO p a c)(hg:∀r∈rs,r.1<4):∀ns:List Nat,(ns.flatMap (cj T rs p)).length<=6*ns.length
 | []=>Gq _
 |n::ns=>by
  have ih:=iu (T:=T) hp hg ns;rw[List.flatMap_cons,Gp,Gb];have:(cj T rs p n).length<=6:=by
   unfold cj;cases hr:rs[n]? with
   |none=>exact Gr _
   |some r=>exact Gy (List.length_filterMap_le _ _) (nK (hg r (F6 hr)) hp)
  omega
def pta(rs:Yaa)(ns:GZ)(q:aD)(tb:Tb):Nat->Tb
 |0=>tb
 |n+1=>Cv rs ns (turned q n) (pta rs ns q tb n)
def dt(rs:Yaa):List Nat:=rs.zipIdx.filterMap λx=>if x.1.1=3 then none else some x.2
theorem iU{rs:Yaa}{n:Nat}:n∈dt rs↔∃r,rs[n]?=some r/\r.1≠3:=by
 unfold dt;rw[List.mem_filterMap]
 constructor
 ·rintro⟨⟨r,i⟩,hm,e⟩
  have hi:=List.mem_zipIdx_iff_getElem?.mp hm
  split at e
  ·cases e
  ·rename_i h
   injection e with e
   subst e;exact⟨r,hi,h⟩
 ·rintro⟨r,hr,h⟩
  exact⟨(r,n),List.mem_zipIdx_iff_getElem?.mpr hr,by rw[q06 h]⟩
def kL(rs:Yaa):Yaa:=rs.filter λr=>decide (r.1=3)
structure zq(rs:Yaa)(ns:GZ)(q:aD)(tb0 tb:Tb)(n:Nat):Prop where
 le:qK tb0 tb
 out:∀k:Ky,(∀t,t<8->k.1≠bd (turned q t))->az tb k=az tb0 k
 all:∀t,t<n->∀m∈ns,∀r,rs[m]?=some r->∀w∈bu r (turned q t),∀v,bU (az tb0) r.2.c w=some v->∃v',v'<=v/\az tb (bd (turned q t),r.2.n)=some v'
 val:∀k v,az tb k=some v->az tb0 k=some v\/∃t,t<8/\∃r∈rs,r.1≠3/\∃w∈bu r (turned q t),bU (az tb0) r.2.c w=some v/\k=(bd (turned q t),r.2.n)
 len:tb.length<=tb0.length+6*ns.length*n
 nd:(tb0.map (·.1)).Nodup->(tb.map (·.1)).Nodup
theorem qC{rs:Yaa}{n:Nat}{r:Nat×RV}(h:rs[n]?=some r):ju rs n=r.2.n:=by unfold ju;rw[h]
theorem qg{rs:Yaa}{q:aD}{tb0:Tb}{a c:Nat}(hg:∀r∈rs,r.1<4)(h6:∀t,t<8->∃a c,iO (turned q t) a c)
  (hK:∀t,t<8->∀r∈rs,r.1≠3->∀w∈bu r (turned q t),∀k∈w,∀t',t'<8->k.1≠bd (turned q t')):∀n,n<=8->zq rs (dt rs) q tb0 (pta rs (dt rs) q tb0 n) n
 |0,_=>⟨qK.refl _,λ_ _=>rfl,λt ht=>q0Q ht (Nat.not_lt_zero _),λk v h=>.inl h,by simp[pta],id⟩
 |n+1,hn=>by
  have ih:=qg (tb0:=tb0) (a:=a) (c:=c) hg h6 hK n ⋯;have e:pta rs (dt rs) q tb0 (n+1)=Cv rs (dt rs) (turned q n) (pta rs (dt rs) q tb0 n):=rfl;rw[e];generalize pta rs (dt rs) q tb0 n=tb at ih ⊢;unfold Cv;have ps:=jt rs (turned q n) ((dt rs).flatMap (cj (az tb) rs (turned q n))) tb;obtain⟨a',c',h6'⟩:=h6 n ⋯;have hl:=iu (T:=az tb) h6' hg (dt rs);have same:∀{r:Nat×RV},r∈rs->r.1≠3->∀{w:List Ky},w∈bu r (turned q n)->bU (az tb) r.2.c w=bU (az tb0) r.2.c w:=fun{r} hr h3 {w} hw=>gS λk hk=>ih.out k λt' ht'=>hK n ⋯ r hr h3 w hw k hk t' ht';refine⟨ih.le.trans ps.le,λk hk=>?_,λt ht m hm r hr w hw v hv=>?_,λk v h=>?_,?_,λnd=>ps.nd (ih.nd nd)⟩
  ·rw[ps.out k (hk n ⋯)];exact ih.out k hk
  ·by_cases et:t=n
   ·subst et
    obtain⟨r',hr',h3⟩:=iU.mp hm;rw[hr]at hr';cases hr'
    obtain⟨v',l',e'⟩:=ps.all _ (v4 (v:=v) hm hr hw (by rw[same (F6 hr) h3 hw];exact hv));rw[show ju rs m=r.2.n from qC hr]at e';exact⟨v',l',e'⟩
   ·obtain⟨v1,l1,e1⟩:=ih.all t ⋯ m hm r hr w hw v hv
    obtain⟨v2,l2,e2⟩:=ps.le _ _ e1;exact⟨v2,Int.le_trans l2 l1,e2⟩
  ·rcases ps.val k v h with h | ⟨y,hy,e1,e2⟩
   ·exact ih.val k v h
   ·obtain⟨h1,r,h2,h3,h4⟩:=nk hy
    obtain⟨r',hr',h5⟩:=iU.mp h1;rw[h2]at hr';cases hr'
    have hm:=F6 h2;rw[qC h2]at e1;exact .inr ⟨n,⋯,r,hm,h5,_,h3,by rw[<- same hm h5 h3,h4,e2],e1⟩
  ·have h1:=ps.len
   have h2:=ih.len;rw[Nat.mul_add];omega
theorem gc{q:aD}{a c:Nat}(hq:rect q a c)(a0:0<a)(c0:0<c)(t:Nat):aU (turned q t)=aU q:=by
 have b:=cS hq a0 c0 t;unfold aU;rw[b.1,aW b (by split<;>assumption),hq.1,aW hq a0]
 split
 ·rfl
 ·rw[Nat.mul_comm]
theorem zw{r:Nat×RV}{q:aD}{a c:Nat}(hq:rect q a c)(a0:0<a)(c0:0<c){k1 k2:Ky}(hw:[k1,k2]∈bu r q):∃q1 q2,(∃t l b x,t<b/\b<=a/\l<x/\x<=c/\q1=cut q t l b x)/\(∃t l b x,t<b/\b<=a/\l<x/\x<=c/\q2=cut q t l b x)/\k1.1=bd q1/\k2.1=bd q2/\aU q1+aU q2=aU q:=by
 have d:∀{t l b x:Nat},t<b->b<=a->l<x->x<=c->aU (cut q t l b x)=(b-t)*(x-l):=by
  intro t l b x h1 h2 o n;have k:=bP hq h1 h2 o n;unfold aU;rw[k.1,aW k ⋯]
 have all:aU q=a*c:=by unfold aU;rw[hq.1,aW hq a0]
 unfold bu at hw
 split at hw
 ·split at hw
  ·exact nomatch F4.mp hw
  ·exact nomatch hw
 ·obtain⟨m,i,e⟩:=GM.mp hw
  unfold c8 at i;obtain⟨j,g,rfl⟩:=GM.mp i;have g:=List.mem_range.mp g;rw[aW hq a0]at g
  injection e with e1 e2
  injection e2 with e2 _
  subst e1;subst e2
  refine⟨_,_,⟨0,0,a,j+1,a0,Gq _,⋯,⋯,rfl⟩,⟨0,j+1,a,c,a0,Gq _,⋯,Gq _,rfl⟩,q0R bd (mL hq),q0R bd (mS hq),?_⟩;rw[d a0 (Gq _) ⋯ ⋯,d a0 (Gq _) ⋯ (Gq _),all,<- Nat.mul_add]
  congr 1;omega
 ·obtain⟨m,i,e⟩:=GM.mp hw
  unfold c8 at i;obtain⟨j,g,rfl⟩:=GM.mp i;have g:=List.mem_range.mp g;rw[hq.1]at g
  injection e with e1 e2
  injection e2 with e2 _
  subst e1;subst e2
  refine⟨_,_,⟨0,0,j+1,c,⋯,⋯,c0,Gq _,rfl⟩,⟨j+1,0,a,c,⋯,Gq _,c0,Gq _,rfl⟩,q0R bd (mX hq),q0R bd (mN hq),?_⟩;rw[d ⋯ ⋯ c0 (Gq _),d ⋯ (Gq _) c0 (Gq _),all,<- Nat.add_mul]
  congr 1;omega
 ·exact nomatch F4.mp hw
structure ES(rs:Yaa)(nms:List (List Nat))(p:aD)(r c:Nat)(dn:G6)(tb:Tb):Prop where
 nd:(tb.map (·.1)).Nodup
 key:∀k v,az tb k=some v->tx k.1∈dn/\k.2∈nms/\Dv rs k v/\1<=v
 bnd:∀k v,az tb k=some v->∀q,bh p r c q->k.1=bd q->v+585<=1170*(aU q:Int)
 don:∀z∈dn,∃q,bh p r c q/\z=tx (bd q)
 tur:∀q,bh p r c q->tx (bd q)∈dn->∀t,t<8->tx (bd (turned q t))∈dn
 prt:∀q,bh p r c q->tx (bd q)∈dn->∀x∈rs,∀w∈bu x q,∀k∈w,tx k.1∈dn
 clo:∀q,bh p r c q->tx (bd q)∈dn->Eh rs (az tb) q
structure kg(rs:Yaa)(nms:List (List Nat))(p:aD)(r c:Nat):Prop where
 hp:rect p r c
 r0:0<r
 c0:0<c
 r6:r<=6
 c6:c<=6
 ns:bp p
 gd:∀x∈rs,qI x
 nm:∀x∈rs,x.2.n∈nms
 n8:nms.length<=8
 r24:rs.length<=24
theorem kg.turn3{rs:Yaa}{nms:List (List Nat)}{p:aD}{r c:Nat}(E:kg rs nms p r c){x:Nat×RV}(h:x∈kL rs):D3 rs nms x:=by
 obtain⟨h1,h2⟩:=List.mem_filter.mp h;have h3:x.1=3:=by simpa using h2
 have g:=(E.gd x h1).good;exact⟨h1,⋯,g.c1,g.c9,g.t0,g.t7,E.nm x h1⟩
structure pB(rs:Yaa)(p:aD)(r c:Nat)(dn:G6)(q:aD):Prop where
 sq:bh p r c q
 fr:∀t,t<8->tx (bd (turned q t))∉dn
 pt:∀q',bh p r c q'->aU q'<aU q->tx (bd q')∈dn
theorem pB.parts{rs:Yaa}{nms:List (List Nat)}{p:aD}{r c:Nat}{dn:G6}{q:aD}(E:kg rs nms p r c)(N:pB rs p r c dn q){t:Nat}(ht:t<8){x:Nat×RV}(hx:x∈rs)(h3:x.1≠3){w:List Ky}(hw:w∈bu x (turned q t)){k:Ky}(hk:k∈w):∃q',bh p r c q'/\k.1=bd q'/\tx k.1∈dn:=by
 have g:=E.gd x hx;obtain⟨a,b,h1,h2,i,_⟩:=N.sq.rect E.hp;obtain⟨q',d,e,h⟩:=wH E.hp (N.sq.turned E.hp ht) g.good.t0 g.good.t7 hw hk;rcases h with h | h
 ·rw[gc h1 h2 i]at h
  exact⟨q',d,e,by rw[e];exact N.pt q' d h⟩
 ·have:=g.k4
  omega
theorem pB.notIn{rs:Yaa}{nms:List (List Nat)}{p:aD}{r c:Nat}{dn:G6}{q:aD}(N:pB rs p r c dn q){k:Ky}(h:tx k.1∈dn){t:Nat}(ht:t<8):k.1≠bd (turned q t):=λe=>N.fr t ht (by rw[<- e];exact h)
theorem oY{p q:aD}{r c:Nat}(hp:rect p r c)(r6:r<=6)(c6:c<=6)(h:bh p r c q):∃a b,iO q a b:=by
 obtain⟨a,b,h1,h2,d,h4,h5⟩:=h.rect hp;exact⟨a,b,h1,h2,⋯,d,⋯⟩
theorem ES.pta{rs:Yaa}{nms:List (List Nat)}{p:aD}{r c:Nat}{dn:G6}{q:aD}{tb:Tb}(E:kg rs nms p r c)(N:pB rs p r c dn q)(S:ES rs nms p r c dn tb):∀n,n<=8->zq rs (dt rs) q tb (pta rs (dt rs) q tb n) n:=
 qg (a:=0) (c:=0) (λx hx=>(E.gd x hx).k4) (λt ht=>oY E.hp E.r6 E.c6 (N.sq.turned E.hp ht)) λt ht x hx h3 w hw k hk t' ht'=>by
  obtain⟨_,_,_,h⟩:=N.parts E ht hx h3 hw hk;exact N.notIn (nms:=nms) h ht'
theorem nj{p q:aD}{r c:Nat}(hp:rect p r c)(h:bh p r c q):1<=aU q:=by
 obtain⟨a,b,h1,h2,d,_⟩:=h.rect hp;unfold aU;rw[h1.1,aW h1 h2];exact Nat.mul_pos h2 d
theorem ES.start{rs:Yaa}{nms:List (List Nat)}{p:aD}{r c:Nat}{dn:G6}{q:aD}{tb tb8:Tb}(E:kg rs nms p r c)(N:pB rs p r c dn q)(S:ES rs nms p r c dn tb)(PS:zq rs (dt rs) q tb tb8 8) :
  TI (kL rs) rs q nms (1170*aU q-1161) tb8.length tb8 tb8 (λk=>k∈CK q nms/\∃v,az tb8 k=some v):=by
 have hcp:=nj E.hp N.sq;have new:∀k∈CK q nms,∀v,az tb8 k=some v->Dv rs k v/\1<=v/\v<=((1170*aU q-1161:Nat):Int):=by
  intro k hk v hv;rcases PS.val k v hv with h | ⟨t,ht,x,hx,h3,w,hw,hc,rfl⟩
  ·obtain⟨t,ht,n,_,rfl⟩:=ij.mp hk
   exact q0Q (S.key _ v h).1 (N.fr t ht)
  ·have g:=(E.gd x hx).good
   have hst:=N.sq.turned E.hp ht;have g1:=g.c1;have g9:=g.c9;refine⟨y_ hx (fu E.hp E.ns hst) hw hc λk hk u hu=>(S.key k u hu).2.2.1,?_⟩;rcases m9 hw with rfl | ⟨k,rfl⟩ | ⟨k1,k2,rfl⟩
   ·injection hc with hc
    omega
   ·obtain⟨a,b,h1,h2,h4,_⟩:=hst.rect E.hp
    rcases mR h1 h2 h4 hw (F4.mpr rfl) with⟨t,l,b,y,k1,k2,k3,k4,k5,k6,k7⟩ | ⟨k1,_⟩
    ·exfalso
     unfold bu at hw
     split at hw
     ·split at hw
      ·exact nomatch F4.mp hw
      ·exact nomatch hw
     ·obtain⟨_,_,e⟩:=GM.mp hw;exact nomatch e
     ·obtain⟨_,_,e⟩:=GM.mp hw;exact nomatch e
     ·rename_i y z0 z1 z2
      rcases hh:x.1 with _ | _ | _ | n
      ·exact q0Q hh z0
      ·exact q0Q hh z1
      ·exact q0Q hh z2
      ·omega
    ·have:=(E.gd x hx).k4
     omega
   ·obtain⟨u1,u2,e1,e2,rfl⟩:=qD hc
    obtain⟨a,b,h1,h2,h4,_⟩:=hst.rect E.hp;obtain⟨q1,q2,⟨t1,l1,b1,x1,m1,m2,m3,m4,rfl⟩,⟨t2,l2,b2,x2,n1,n2,n3,n4,rfl⟩,f1,f2,f3⟩:=zw h1 h2 h4 hw;rw[gc (N.sq.rect E.hp).choose_spec.choose_spec.1 (N.sq.rect E.hp).choose_spec.choose_spec.2.1 (N.sq.rect E.hp).choose_spec.choose_spec.2.2.1]at f3;have o1:=S.bnd k1 u1 e1 _ (hst.cut E.hp h1 m1 m2 m3 m4) f1;have o2:=S.bnd k2 u2 e2 _ (hst.cut E.hp h1 n1 n2 n3 n4) f2;have p1:=(S.key k1 u1 e1).2.2.2;have p2:=(S.key k2 u2 e2).2.2.2;omega
 refine⟨PS.nd S.nd,qK.refl _,λ_ _=>rfl,λk hk v hv=>(new k hk v hv).1,λk hk v hv no=>q0Q ⟨hk,v,hv⟩ no,λk ho=>ho,λk hk v hv=>?_,Nat.le_add_right _ _⟩;have:=new k hk v hv;exact⟨this.2.1,⋯⟩
theorem ES.enter{rs:Yaa}{nms:List (List Nat)}{p:aD}{r c:Nat}{dn dn':G6}{q:aD}{tb tb8 tb':Tb}(E:kg rs nms p r c)(N:pB rs p r c dn q)(S:ES rs nms p r c dn tb)(PS:zq rs (dt rs) q tb tb8 8)
  (h:TI (kL rs) rs q nms (1170*aU q-1161) tb8.length tb8 tb' (λ_=>False)) (hd:∀z,z∈dn'↔z∈dn\/∃t,t<8/\z=tx (bd (turned q t))):ES rs nms p r c dn' tb':=by
 have hcp:=nj E.hp N.sq;obtain⟨a0,b0,B,y,o,_⟩:=N.sq.rect E.hp;have T:∀t,t<8->wK (turned q t):=λt d=>fu E.hp E.ns (N.sq.turned E.hp d);have ck:∀k,k∉CK q nms->∀v,az tb' k=some v->az tb k=some v:=λk b v j=>by
  rw[h.out k b]at j;rcases PS.val k v j with e | ⟨t,d,x,C,_,w,_,_,rfl⟩
  ·exact e
  ·exact q0Q (ij.mpr ⟨t,d,_,E.nm x C,rfl⟩) b
 have M:∀k:Ky,tx k.1∈dn->az tb' k=az tb k:=λk b=>by
  have nc:∀t,t<8->k.1≠bd (turned q t):=λt d=>N.notIn (nms:=nms) b d;rw[h.out k λe=>by obtain⟨t,d,n,_,rfl⟩:=ij.mp e;exact nc t d rfl,PS.out k nc]
 have h64:=fM (CK q nms) tb';have hl:=pM q nms;have n8:=E.n8;have L:∀{i:aD},bh p r c i->tx (bd i)∈dn'->tx (bd i)∈dn\/∃t,t<8/\i=turned q t:=fun{i} l I=>by
  rcases(hd _).mp I with h | ⟨t,d,e⟩
  ·exact .inl h
  ·exact .inr ⟨t,d,(fu E.hp E.ns l).inj (T t d) (gg e)⟩
 refine⟨h.nd,λk v j=>?_,λk v j i l e=>?_,λz I=>?_,λi l I t d=>?_,λi l I x C w D k b=>?_,λi l I x C w D v j=>?_⟩
 ·by_cases b:k∈CK q nms
  ·obtain⟨t,d,n,hn,rfl⟩:=ij.mp b
   exact⟨(hd _).mpr (.inr ⟨t,d,rfl⟩),hn,h.snd _ b v j,(h.pos _ b v j).1⟩
  ·obtain⟨k1,k2⟩:=S.key k v (ck k b v j)
   exact⟨(hd _).mpr (.inl k1),k2⟩
 ·by_cases b:k∈CK q nms
  ·have:=(h.pos _ b v j).2
   obtain⟨t,d,n,hn,rfl⟩:=ij.mp b;have Y:=(T t d).inj (fu E.hp E.ns l) e;rw[<- Y,gc B y o];omega
  ·exact S.bnd k v (ck k b v j) i l e
 ·rcases(hd z).mp I with h1 | ⟨t,d,rfl⟩
  ·exact S.don z h1
  ·exact⟨_,N.sq.turned E.hp d,rfl⟩
 ·rcases L l I with h1 | ⟨u,G,rfl⟩
  ·exact(hd _).mpr (.inl (S.tur i l h1 t d))
  ·exact(hd _).mpr (.inr ⟨after u t,fz G d,by rw[bj B y o G d]⟩)
 ·rcases L l I with h1 | ⟨u,G,rfl⟩
  ·exact(hd _).mpr (.inl (S.prt i l h1 x C w D k b))
  ·have g:=(E.gd x C).good
   by_cases U:x.1=3
   ·rw[jF ⋯]at D
    rw[F4.mp D]at b;rw[F4.mp b];have R:fc x.2.t.toNat<8:=iW (by have:=g.t0;have:=g.t7;omega);exact(hd _).mpr (.inr ⟨after u (fc x.2.t.toNat),fz G R,by rw[bj B y o G R]⟩)
   ·obtain⟨_,_,_,h5⟩:=N.parts E G C U D b
    exact(hd _).mpr (.inl h5)
 ·rcases L l I with h1 | ⟨u,G,rfl⟩
  ·rw[gS (T':=az tb) λk b=>M k (S.prt i l h1 x C w D k b)]at j
   rw[M (bd i,x.2.n) h1];exact S.clo i l h1 x C w D v j
  ·have g:=(E.gd x C).good
   by_cases U:x.1=3
   ·have J:x.2.t.toNat<8:=by have:=g.t0;have:=g.t7;omega
    have R:fc x.2.t.toNat<8:=iW J;rw[jF ⋯]at D;rw[F4.mp D]at j;obtain⟨a,ha,rfl⟩:=kR j;have O:=fz G R;have Z:=cS B y o u;have et:turned (turned q u) (fc x.2.t.toNat)=turned q (after u (fc x.2.t.toNat)):=bj B y o G R;rw[et]at ha
    by_cases b:(bd (turned q (after u (fc x.2.t.toNat))),x.2.o1)∈CK q nms
    ·obtain⟨v',l',Y⟩:=h.sett _ b a ha id x (List.mem_filter.mpr ⟨C,by simpa using U⟩) rfl _ O rfl
     refine⟨v',⋯,?_⟩;have e2:turned q (after (after u (fc x.2.t.toNat)) x.2.t.toNat)=turned q u:=by
      rw[<- bj B y o O J,<- et,bj Z (by split<;>assumption) (by split<;>assumption) R J,tO J,jV]
     unfold fF at Y;rw[e2]at Y;exact Y
    ·exact q0Q (S.key _ a (ck _ b a ha)).1 (N.fr _ O)
   ·have hc:bU (az tb) x.2.c w=some v:=by
     rw[<- j];exact gS λk b=>by
      obtain⟨_,_,_,h5⟩:=N.parts E G C U D b;exact(M k h5).symm
    obtain⟨m,hm⟩:=List.mem_iff_getElem?.mp C;obtain⟨v1,l1,e1⟩:=PS.all u G m (iU.mpr ⟨x,hm,U⟩) x hm w D v hc;obtain⟨v2,l2,e2⟩:=h.le _ _ e1;exact⟨v2,Int.le_trans l2 l1,e2⟩
abbrev oA:Stmt:=gZ 47
inductive lT(vs:List V)(H:Hp)(Q:VK)(_E:XK):Prop
 |mk (d b:Addr) (tb:Tb) (k:Ky) (v:Int) (_:vs=[.ref d,.ref b,.int v]) (_:bF H d tb) (_:aX H b k) (_:tb.length<sizeLine) (_:∀H',bF H' d (cV tb k v)->aS d H H'->Q (.bl (fS tb k v)) H')
theorem xi:aF ["told","key","cost"] ["told","key","cost"] (av oA):=by walk_at "c"
theorem v8{f:Addr}{fd:G4}(F:dO K "lower" "lower" oA f fd)(nb:NB mg):bc P w K mg base bx 1 f fd ["told","key","cost"] lT:=by
 have sc:=xi;walk_at "f"
 ·obtain⟨d,b,tb,k,v,rfl,m,n,o,q⟩:=h
  have l:=m.told.get n;have j:=hr.units;have fin:fS tb k v=true->∀H2,H2=aB H d (.dT (cM (tb.map dW) (gC k) (.int v)))->Q (.bl true) H2:=λa H2 e=>by
   have p:cV tb k v=jY tb k v:=by unfold cV;rw[q07 a]
   have:=q H2 (by rw[p,e,rj];exact af) (by rw[e];exact(aS.of λ_ _ h=>h).put)
   rwa [a]at this
  have c:qt H d (.ref b) (.int v) (aB H d (.dT (cM (tb.map dW) (gC k) (.int v)))):=qt.t m n (by rw[F3];exact o);refine⟨_,(ae (cz (PW.pt (sM (pP (xT (GK (GO (by decide:1<=64) _) j) (aw 1) (aw 0)) (by with_unfolding_all rfl)) (oS (bE (bD.m0 qi) (kq (GK (GO (by decide:1<=64) _) j) (aw 0) (aw 1) (λ_ _=>rfl)) (aw 2) (b_ _)))))
   (ag (aO hZ))
   bi)
   (ae (kr (GK (GO (by decide:1<=64) _) j) (aw 0) (aw 1) (aw 2) rfl)
   (ag (aO hZ)))),?_⟩
  walk_at "n";refine⟨_,l,?_⟩;cases i:az tb k with
  |none=>
   rw[q06 (by simp)];refine h1 _ _ ?_;walk_at "wp";exact⟨_,c,fin (by unfold fS;rw[i]) _ rfl⟩
  |some u=>
   rw[i]at l;rw[q07 (by rfl)];refine⟨_,l,u,rfl,?_⟩
   by_cases g:u<=v
   ·rw[q07 g]
    have a:fS tb k v=false:=by unfold fS;rw[i];simp;omega
    have:=q H (by unfold cV;rw[a];exact m) (aS.of λ_ _ h=>h)
    rwa [a]at this
   ·rw[q06 g]
    refine h1 _ _ ?_;walk_at "wp";exact⟨_,c,fin (by unfold fS;rw[i];simp;omega) _ rfl⟩
abbrev dR:Stmt:=gZ 46
inductive gn(R:RC)(CG CC:Addr)(vs:List V)(H:Hp)(Q:VK)(_E:XK):Prop
 |mk (g dx ln cu d:Addr) (sg st:GZ) (as:G2) (rs:Yaa) (ns:GZ) (p:aD) (r c:Nat) (tb:Tb) (_:vs=[.ref g,.ref ln,.ref cu,.ref d]) (_:cW R H CG dx g sg st as rs) (_:(∀r∈rs,qI r)) (_:H ln=some (.lst (tJ ns))) (_:(∀n∈ns,n<rs.length)) (_:ns.length<=100) (_:du CC H cu p) (_:iO p r c) (_:bF H d tb) (_:tb.length<=10000000) (_:∀H',bF H' d (Cv rs ns p tb)->aS d H H'->Q .non H')
theorem jZ:aF ["grammar","numbers","cuts","told","cost","number","way"] ["grammar","numbers","cuts","told"] (av dR):=by walk_at "c"
theorem kb{R:RC}{f CG CC:Addr}{fd:G4}(F:dO K "put_together" "put_together" dR f fd)(nb:NB mg)(rk:je K R)(clC:kt K CC)(naC:Ce K CC)(yah:iC P w K mg base bx 1 CG "rule" ["self","k"] (dA R CG))(yap:eX P w K mg base bx 6 "coming" ["grammar","numbers","cuts","told"] (nG R CG CC))(yaf:eX P w K mg base bx 1 "lower" ["told","key","cost"] lT):bc P w K mg base bx 7 f fd ["grammar","numbers","cuts","told"] (gn R CG CC):=by
 have sc:=jZ;walk_at "f"
 ·obtain⟨g,dx,ln,cu,d,sg,st,as,a,ns,p,r,c,tb,rfl,hG,hg,a5,G,o,hC,hp,hT,htl,q⟩:=h
  have hu:=hr.units;refine⟨_,(ag (ba PassesOwn.never rfl (bL (aH yap (hr.mono nofun) rfl aL (ac (aw 0) (ac (aw 1) (ac (aw 2) (ac (aw 3) ad)))))) (lx (n:=3) rfl (cC (q02 4 sc.nd) (cC (q02 5 sc.nd) (cC (q02 6 sc.nd) i7))))
   (ag (bT (aH yaf (hr.mono nofun) rfl aL (ac (aw 3) (ac (dk (ac (cG (aw 2) rfl) (ac (cG (t_ yah (hr.mono nofun) aL (aw 0) (ac (aw 5) ad)) rfl) ad))) (ac (aw 4) ad)))))))),?_⟩
  walk_at "wp";refine⟨g,dx,ln,cu,d,sg,st,as,a,ns,p,r,c,az tb,rfl,hG,hg,a5,G,o,hC,hp,hT.told,λl H1 hl hL M=>?_⟩;obtain⟨bs,hb,hA⟩:=hL;have u:bF H1 d tb:=hT.up M;have a9:=hG.up M;have b0:=hC.up M;have a0:=iu (T:=az tb) hp (λr hr=>(hg r hr).k4) ns;have z:∀y∈ns.flatMap (cj (az tb) a p),y.2.1∈ns:=λy O=>(nk O).1;have a4:Cv a ns p tb=mq a p tb (ns.flatMap (cj (az tb) a p)):=rfl;rw[a4]at q;generalize ns.flatMap (cj (az tb) a p)=ys at hA a0 z q;have a7:=hA.1;refine⟨l,rfl,⟨_,aT.of hb⟩,?_⟩;refine bO (xs:=bs.map V.ref) (λi σ v=>aS d H1 v/\bF v d (mq a p tb (ys.take i))/\i<=bs.length/\∃Y U S,σ=[some (V.ref g),some (V.ref ln),some (V.ref cu),some (V.ref d),Y,U,S]) ⟨aS.of λ_ _ h=>h,u,Gr _,_,_,_,rfl⟩ (λi σ v _ h=>aT.of ((h.1.kp u).lst hb)) ?_ ?_
  ·rintro i x σ v hx ⟨L,k,_,Y,U,S,rfl⟩
   rw[F5]at hx;obtain⟨b,I,rfl⟩:=Gv.mp hx;have hi:=(F0.mp I).1;obtain⟨y,O,a1⟩:=hA.get I;have kp:=L.kp u;obtain⟨lw,a8,_⟩:=a1.kp kp;obtain⟨j,m⟩:∃j,a[y.2.1]?=some j:=⟨_,FZ (G _ (z y (F6 O)))⟩;have J:=a9.kp kp;obtain⟨dxc,lp,lb,la,a6,_⟩:=b0.kp kp;obtain⟨lk,pn,t0,ha,hkk,C,hN,hmm⟩:=id J;obtain⟨ra,D⟩:∃b,as[y.2.1]?=some b:=⟨_,FZ (by rw[C.1];exact(F0.mp m).1)⟩;obtain⟨rdx,rl,a3,_⟩:=C.2 _ ra j D m;walk_at "wp";refine⟨_,jv.of a8,rfl,_,_,rfl,_,_,rfl,_,_,rfl,rfl,?_⟩;refine⟨_,_,_,a6,clC,naC.2.1,_,rfl,dx,_,ha,rfl,g,dx,sg,st,as,a,y.2.1,ra,rfl,J,D,?_⟩;refine⟨ra,rfl,_,_,_,a3,(rk.icls j.1).cl,(rk.name j.1).1,_,(gQ rl j.2 j.1).1,aM nofun,λtp B=>?_⟩;have hps:=(jt a p (ys.take i) tb).len;have htk:(ys.take i).length<=ys.length:=by rw[GG];omega
   refine⟨d,tp,mq a p tb (ys.take i),(bd p,j.2.n),y.1,rfl,k.up (ao B),af,?_,λH2 a2 Z=>⟨L.trans ((aS.of (ao B)).trans Z),?_,hi⟩⟩
   ·have:=q0W;omega
   ·have e:mq a p tb (ys.take (i+1))=cV (mq a p tb (ys.take i)) (bd p,j.2.n) y.1:=by
     unfold mq;rw[q0E,O,List.foldl_append];show cV _ (bd p,ju a y.2.1) y.1=_;rw[show ju a y.2.1=j.2.n by unfold ju;rw[m]]
    rw[e];exact a2
  ·rintro σ v ⟨L,k,_,Y,U,S,rfl⟩
   rw[F3,a7,GF]at k;exact q v k ((aS.of M).trans L)
abbrev oF:Stmt:=gZ 16
inductive re(vs:List V)(H:Hp)(Q:VK)(_E:XK):Prop
 |mk (t u:Nat) (_:vs=[.int (t:Int),.int (u:Int)]) (_:t<8) (_:u<8) (_:Q (.int (after t u:Nat)) H)
theorem wo:aF ["t","u"] ["t","u"] (av oF):=by walk_at "c"
theorem yi{f:Addr}{fd:G4}(F:dO K "after" "after" oF f fd):bc P w K mg base bx 1 f fd ["t","u"] re:=by
 have sc:=wo;walk_at "f"
 ·obtain⟨t,u,rfl,ht,hu,q⟩:=h
  refine⟨_,(ae (cz (bE wP (pv 1) am (b_ _))
   (ag (aO (ay bo (ay dw (ay bJ (pv 0) am) am) (ay bv (ay bo (pv 0) (pv 1)) am))))
   bi)
   (ag (aO (ay bo (ay dw (ay xF am (ay bJ (pv 0) am)) am) (ay bv (ay xF (pv 1) (pv 0)) am))))),?_⟩
  walk_at "wp"
  split
  ·have e:((after t u:Nat):Int)=(t:Int)/4*4+((t:Int)+u)%4:=by unfold after;rw[q07 ⋯];omega
   rw[<- e];exact q
  ·have e:((after t u:Nat):Int)=(1-(t:Int)/4)*4+((u:Int)-t)%4:=by unfold after;rw[q06 ⋯];omega
   rw[<- e];exact q
theorem bf.app{β:Type}{A:Hp->Addr->β->Prop}{H:Hp}:∀{bs2:G2} {ys2:List β} {bs:G2} {ys:List β},bf A H bs ys->bf A H bs2 ys2->bf A H (bs++bs2) (ys++ys2)
 | [],[],bs,ys,h,_=>by rw[GB,GB];exact h
 | [],_::_,_,_,_,h2=>nomatch h2.1
 |_::_,[],_,_,_,h2=>nomatch h2.1
 |b::bs2,y::ys2,bs,ys,h,h2=>by
  have h3:bf A H bs2 ys2:=⟨Nat.succ.inj h2.1,λi c z e1 e2=>h2.2 (i+1) c z e1 e2⟩;have:=bf.app (h.snoc (h2.2 0 b y rfl rfl)) h3
  rwa [GC,GC]at this
theorem yD{H:Hp}{a b:Addr}{xs:List V}{Q:VK}{neg:Bool}(ha:H a=some (.lst xs))(hb:H b=some (.lst []))(q:Q (.bl (xs.isEmpty != neg)) H):Bp K neg (.ref a) (.ref b) H Q:=by
 cases xs with
 |nil=>
  refine .inl ⟨[],by unfold Dt.deps;omega,.inl ⟨?_,?_⟩,by simpa using q⟩
  ·unfold jx;exact⟨a,_,rfl,aT.of ha,by unfold dM;rfl⟩
  ·unfold jx;exact⟨b,_,rfl,aT.of hb,by unfold dM;rfl⟩
 |cons x xs=>exact .inr ⟨a,b,_,_,rfl,rfl,aT.of ha,aT.of hb,by simp,by simpa using q⟩
def dD(q:aD):List Str:=(List.range 8).map λt=>tx (bd (turned q t))
def ib(q:aD)(ns:List (List Nat))(tb:Tb)(n:Nat):List Ky:=((List.range n).flatMap λt=>ns.map λn=>(bd (turned q t),n)).filter λk=>(az tb k).isSome
theorem lP(q:aD)(ns:List (List Nat))(tb:Tb)(n:Nat):ib q ns tb (n+1)=ib q ns tb n++ns.filterMap λm=>if(az tb (bd (turned q n),m)).isSome=true then some (bd (turned q n),m) else none:=by
 unfold ib;rw[q0M,List.flatMap_append,List.filter_append]
 congr 1
 rw[show([n].flatMap λt=>ns.map λn=>(bd (turned q t),n))=ns.map λm=>(bd (turned q n),m) by simp]
 induction ns with
 |nil=>rfl
 |cons m ns ih=>
  rw[Gx,List.filter_cons,q0U];cases h:(az tb (bd (turned q n),m)).isSome with
  |true=>simp only[q07];rw[ih]
  |false=>simp only[q0a,if_false];exact ih
theorem ja(q:aD)(ns:List (List Nat))(tb:Tb):∀n,(ib q ns tb n).length<=n*ns.length
 |0=>by simp[ib]
 |n+1=>by
  rw[lP,Gp,Nat.add_mul,Nat.one_mul];exact Nat.add_le_add (ja q ns tb n) (List.length_filterMap_le _ _)
theorem nN{q:aD}{ns:List (List Nat)}{tb:Tb}{k:Ky}:k∈ib q ns tb 8↔k∈CK q ns/\∃v,az tb k=some v:=by
 unfold ib;rw[List.mem_filter,Option.isSome_iff_exists];rfl
theorem qf{z:Str}:∀{ts:G6},z∈ts->∃j:Nat,ts[j]?=some z/\∀(m:Nat) (y:Str),m<j->ts[m]?=some y->y≠z
 | [],h=>nomatch h
 |x::ts,h=>by
  by_cases e:x=z
  ·exact⟨0,by rw[e];rfl,λm y hm=>q0Q hm (Nat.not_lt_zero _)⟩
  ·rcases Gg.mp h with h | h
   ·exact q0Q h.symm e
   ·obtain⟨j,h1,h2⟩:=qf h
    refine⟨j+1,h1,λm y hm hy=>?_⟩;cases m with
    |zero=>rw[List.getElem?_cons_zero]at hy;cases hy;exact e
    |succ m=>exact h2 m y ⋯ hy
theorem AY{q:aD}{t:Nat}{z:Str}(h:(dD q)[t]?=some z):t<8/\z=tx (bd (turned q t)):=by
 unfold dD at h;rw[F5]at h;obtain⟨x,a,rfl⟩:=Gv.mp h;have b:=(F0.mp a).1;rw[q0J]at b;rw[List.getElem?_range b]at a;cases a;exact⟨b,rfl⟩
theorem xP{q:aD}{t:Nat}(h:t<8):(dD q)[t]?=some (tx (bd (turned q t))):=by
 unfold dD;rw[F5,List.getElem?_range h];rfl
inductive D'(H:Hp)(q:aD)(ns:List (List Nat))(tb0:Tb)(lr lt ln d l:Addr)(i:Nat)(H':Hp):St->Prop
 |mk (bs:G2) (x5 x6 x7 x8 x9:Option V) (_:aA H H') (_:H' l=some (.lst (bs.map V.ref))) (_:bf aX H' bs (ib q ns tb0 i)):D' H q ns tb0 lr lt ln d l i H' [some (V.ref lr),some (V.ref lt),some (V.ref ln),some (V.ref d),some (V.ref l),x5,x6,x7,x8,x9]
inductive Ej(H:Hp)(trs rs:Yaa)(q:aD)(ns:List (List Nat))(M L0:Nat)(tb0:Tb)(lr lt ln d:Addr)(m:Nat)(H':Hp):St->Prop
 |mk (tb:Tb) (chs:List Ky) (l2:Addr) (cs:G2) (x5 x6 x7 x8 x9:Option V) (_:aS d H H') (_:bF H' d tb) (_:H' l2=some (.lst (cs.map V.ref))) (_:bf aX H' cs chs) (_:TI trs rs q ns M L0 tb0 tb (λk=>k∈chs)) (_:chs.length<=8000000) (_:m=Bu (CK q ns) (M+576) tb+(if chs=[] then 0 else 1)):Ej H trs rs q ns M L0 tb0 lr lt ln d m H' [some (V.ref lr),some (V.ref lt),some (V.ref ln),some (V.ref d),some (V.ref l2),x5,x6,x7,x8,x9]
structure D9(trs rs:Yaa)(q:aD)(ns:List (List Nat))(M L0:Nat)(tb0 tb:Tb)(all:List Ky)(d l2 lw:Addr)(cs:G2)(H H':Hp)(i:Nat)(tb5:Tb)(ws:G2)(lws:List Ky):Prop where
 sx:aS d H H'
 l:H' l2=some (.lst (cs.map V.ref))
 cA:bf aX H' cs all
 T:bF H' d tb5
 w:H' lw=some (.lst (ws.map V.ref))
 wA:bf aX H' ws lws
 I:TI trs rs q ns M L0 tb0 tb5 (λk=>k∈all.drop i\/k∈lws)
 m:Bu (CK q ns) (M+576) tb5+lws.length<=Bu (CK q ns) (M+576) tb
inductive Ef(trs rs:Yaa)(q:aD)(ns:List (List Nat))(M L0:Nat)(tb0 tb:Tb)(all:List Ky)(lr lt ln d l2 lw:Addr)(cs:G2)(H H':Hp)(i:Nat):St->Prop
 |mk (tb5:Tb) (ws:G2) (lws:List Ky) (x5 x7 x8 x9:Option V) (_:D9 trs rs q ns M L0 tb0 tb all d l2 lw cs H H' i tb5 ws lws):Ef trs rs q ns M L0 tb0 tb all lr lt ln d l2 lw cs H H' i [some (V.ref lr),some (V.ref lt),some (V.ref ln),some (V.ref d),some (V.ref l2),x5,some (V.ref lw),x7,x8,x9]
inductive Ed(trs rs:Yaa)(q:aD)(ns:List (List Nat))(M L0:Nat)(tb0 tb:Tb)(all:List Ky)(lr lt ln d l2 lw:Addr)(cs:G2)(H:Hp)(i t:Nat)(k:Ky)(v:Int)(H':Hp)(j:Nat):St->Prop
 |mk (tb5:Tb) (ws:G2) (lws:List Ky) (x8 x9:Option V) (_:D9 trs rs q ns M L0 tb0 tb all d l2 lw cs H H' i tb5 ws lws) (_:az tb5 k=some v) (_:∀r∈trs.take j,r.2.o1=k.2->∃v',v'<=v+r.2.c/\az tb5 (fF q r t)=some v'):Ed trs rs q ns M L0 tb0 tb all lr lt ln d l2 lw cs H i t k v H' j [some (V.ref lr),some (V.ref lt),some (V.ref ln),some (V.ref d),some (V.ref l2),some (V.str (tx k.1)),some (V.ref lw),some (V.str (tx k.2)),x8,x9]
abbrev fO:Stmt:=gZ 48
theorem qy{c:TT}{tb:TS}{D:fE}{σ:St}{H:Hp}(h:∀tb',tb'=tb->sK c tb' D σ H):sK c tb D σ H:=h tb rfl
theorem vJ{n:Nat}(h:n<=8000000):n<sizeLine:=by have:=q0W;omega
inductive hU(R:RC)(vs:List V)(H:Hp)(Q:VK)(_E:XK):Prop
 |mk (lr lt ln d:Addr) (as:G2) (trs rs:Yaa) (q:aD) (a c:Nat) (ns:List (List Nat)) (M L0:Nat) (tb0:Tb) (_:vs=[.ref lr,.ref lt,.ref ln,.ref d]) (_:H lr=some (.lst (as.map V.ref))) (_:aV R H as trs) (_:H lt=some (.lst ((dD q).map V.str))) (_:H ln=some (.lst (ns.map λn=>V.str (tx n)))) (_:bF H d tb0) (_:rect q a c) (_:0<a) (_:0<c) (_:(∀t,t<8->wK (turned q t))) (_:ns.length<=8) (_:(∀r∈trs,D3 rs ns r/\r.1=3)) (_:TI trs rs q ns M L0 tb0 tb0 (λk=>k∈CK q ns/\∃v,az tb0 k=some v)) (_:M<=100000) (_:L0<=10000000) (_:∀H' tb',bF H' d tb'->TI trs rs q ns M L0 tb0 tb' (λ_=>False)->aS d H H'->Q .non H')
theorem me:aF ["rules","texts","names","told","changed","text","lowered","name","rule","key"] ["rules","texts","names","told"] (av fO):=by walk_at "c"
theorem mG{R:RC}{f:Addr}{fd:G4}(F:dO K "turn_about" "turn_about" fO f fd)(nb:NB mg)(rk:je K R)(yat:eX P w K mg base bx 1 "after" ["t","u"] re)(yaf:eX P w K mg base bx 1 "lower" ["told","key","cost"] lT):bc P w K mg base bx 2 f fd ["rules","texts","names","told"] (hU R):=by
 have sc:=me;walk_at "f"
 ·obtain⟨lr,lt,ln,d,as,trs,rs,q,a,c,ns,M,L0,tb0,rfl,hlr,hrs,hlt,hln,hT,hq,a0,c0,hO,h8,hR,hTI,hM,hL0,qq⟩:=h
  have hu:=hr.units;refine⟨_,(ae (q01 4 sc.nd (b7 ad))
   (ae (ba PassesOwn.never rfl (bL (aw 1)) (aE (i:=5) sc.nd rfl (Or.inr rfl))
   (ag (bT (gm PySem.F.plainAttrs_list PySem.F.slot_list_extend PySem.F.type_list_extend vU (aw 4) (ac (cO ["name"] [5,3] rfl (bM.of (by kernel_rfl)) (by kernel_rfl) (bL (aw 2))
    (λ_ _ _ _=>(aE (i:=0) (by show(["name","text","told"]:List Str).Nodup;decide +kernel) rfl (Or.inl rfl))) (λ_ _ _ _=>(pK (pP (xT (GK (GO (by decide:1<=64) _) hu) (dk (ac (aw 1) (ac (aw 0) ad))) (aw 2)) (by with_unfolding_all rfl)))) (λ_ _ _ _=>(dk (ac (aw 1) (ac (aw 0) ad))))) ad)))))
   (ag (xQ PassesOwn.never (bE (xU hu) (aw 4) (b7 ad) (b_ _)) (ae (q01 6 sc.nd (b7 ad))
   (ae (ba PassesOwn.never rfl (bL (aw 4)) (lx (n:=2) rfl (cC (aE (i:=5) sc.nd rfl (Or.inr rfl)) (cC (q02 7 sc.nd) i7)))
   (ag (ba PassesOwn.never rfl (bL (aw 0)) (q02 8 sc.nd)
   (ae (q01 9 sc.nd (dk (ac (cg cq (aw 1) (aH yat (hr.mono nofun) rfl aL (ac (gm PySem.F.plainAttrs_list PySem.F.slot_list_index PySem.F.type_list_index vY (aw 1) (ac (aw 5) ad)) (ac (cG (aw 8) rfl) ad))) (λ_ _=>rfl)) (ac (cG (aw 8) rfl) ad))))
   (ag (cz (PW.pt (sM (bE pZ (cG (aw 8) rfl) (aw 7) (b_ _)) (oS (dL (aH yaf (hr.mono nofun) rfl aL (ac (aw 3) (ac (aw 9) (ac (ay (bD.m0 bo) (kq (GK (GO (by decide:1<=64) _) hu) (aw 3) (dk (ac (aw 5) (ac (aw 7) ad))) (λ_ _=>rfl)) (cG (aw 8) rfl)) ad)))) λ_=>rfl))))
   (ag (bT (q03 (aw 6) (ac (aw 9) ad))))
   bi))))))
   (ag (q01 4 sc.nd (aw 6))))))))),?_⟩
  walk_at "n";refine⟨Gr _,λl hl=>h1 _ _ ?_⟩;clear h1;generalize z0:aB H l _=H1;obtain⟨s1,e1⟩:=kY hl z0;walk_at "n";have hT1:bF H1 d tb0:=hT.up s1;have hcl:(dD q).length=8:=by unfold dD;rw[F3,q0J]
  refine⟨⟨_,aT.of (s1 _ _ hlt)⟩,?_⟩;refine bO (xs:=(dD q).map V.str) (λi σ H'=>D' H q ns tb0 lr lt ln d l i H' σ) (.mk [] _ _ _ _ _ s1 e1 bf.nil) (λi σ H' _ h=>by cases h with | mk _ _ _ _ _ _ s=>exact aT.of (s _ _ hlt)) ?_ ?_
  ·rintro i x σ H' hx ⟨bs,x5,x6,x7,x8,x9,sm,hb,hA⟩
   rw[F5]at hx;obtain⟨z,hz,rfl⟩:=Gv.mp hx;have hi:i<8:=by have:=(F0.mp hz).1;omega
   have hz':z=tx (bd (turned q i)):=by
    unfold dD at hz;rw[F5,List.getElem?_range hi]at hz;cases hz;rfl
   subst hz';walk_at "wp";refine⟨.inl ⟨rfl,_,aT.of hb⟩,⟨_,aT.of (sm _ _ hln)⟩,?_⟩;refine rf aX aX.up (as:=ns) (emb:=λn=>V.str (tx n)) (f:=λn=>if(az tb0 (bd (turned q i),n)).isSome=true then some (bd (turned q i),n) else none) (λσ=>∃x,σ=[x,some (V.str (tx (bd (turned q i)))),some (V.ref d)]) ⟨_,rfl⟩ (λH2 s2=>aT.of (s2 _ _ (sm _ _ hln))) ⋯ ?_ ?_
   ·rintro j n hn σ H2 M1 M0 ⟨x0,rfl⟩ s2 k1 k0
    have hT2:bF H2 d tb0:=(hT.up sm).up s2;walk_at "wp";refine⟨aM nofun,λtp htp=>?_⟩;generalize z0:aB H2 tp _=H3;obtain⟨s3,(hk:aX H3 tp (bd (turned q i),n))⟩:=kY htp z0;have hg:=(hT2.up s3).told.get hk;refine⟨_,hg,?_⟩;cases hv:az tb0 (bd (turned q i),n) with
    |none=>
     rw[q06 (by simp)];exact k0 _ _ (by simp[hv]) (s2.trans s3) s3 ⟨_,rfl⟩
    |some v=>
     rw[q07 (by rfl)];exact⟨aM nofun,λt2 ht2=>k1 t2 (bd (turned q i),n) _ _ (by simp[hv]) af (s2.trans (s3.trans (ao ht2))) (s3.trans (ao ht2)) ⟨_,rfl⟩⟩
   ·intro bs2 H2 s2 hA2 l2 hl2
    generalize z0:aB H2 l2 _=H3;obtain⟨s3,e3⟩:=kY hl2 z0;have hb3:=s3 _ _ (s2 _ _ hb);have n1:=hA.1;have n2:=hA2.1;have n3:=ja q ns tb0 i;have n4:=List.length_filterMap_le (λn=>if(az tb0 (bd (turned q i),n)).isSome=true then some (bd (turned q i),n) else none) ns;have n5:i*ns.length<=8*8:=Nat.mul_le_mul ⋯ h8;refine⟨_,hb3,_,e3,by rw[F3,F3];exact aM ⋯,?_⟩;refine .mk (bs++bs2) _ _ _ _ _ (bG ((sm.trans s2).trans s3) hl) (by rw[af,Gc]) ?_;rw[lP];exact bf.app (hA.mono λb y _ _ h=>((h.up s2).up s3).put hb3) (hA2.mono λb y _ _ h=>(h.up s3).put hb3)
  ·rintro σ H' ⟨bs,x5,x6,x7,x8,x9,sm,hb,hA⟩
   refine h1 _ _ ?_;rw[F3,hcl]at hA;walk_at "wp";have hTI0:=hTI.op (op':=λk=>k∈ib q ns tb0 8) (λk hk=>nN.mp hk) (λk v ho no _=>q0Q (nN.mpr ho) no);have hch:(ib q ns tb0 8).length<=8*8:=Gy (ja q ns tb0 8) (Nat.mul_le_mul_left _ h8);have hT':bF H' d tb0:=hT.up sm;refine qy λtw etw=>?_;refine⟨λm σ H2=>Ej H trs rs q ns M L0 tb0 lr lt ln d m H2 σ,⟨_,.mk tb0 _ l bs _ _ _ _ _ (aS.of sm) hT' hb hA hTI0 ⋯ rfl⟩,?_⟩;rintro m σ H2 ⟨tb,chs,l2,cs,y5,y6,y7,y8,y9,sx,hT2,hc2,hcA,hI,hcl2,hm⟩;walk_at "wp";refine⟨Gr _,λlz hlz=>?_⟩;generalize z0:aB H2 lz _=H3;obtain⟨s3,e3⟩:=kY hlz z0;refine yD (s3 _ _ hc2) e3 ⟨_,rfl,?_⟩;cases chs with
   |nil=>
    have:cs=[]:=GL.mp hcA.1;subst this;rw[q06 (by simp)];exact qq H3 tb (hT2.up s3) (hI.op (λk hk=>hk.elim) (λk v ho _ _=>nomatch ho)) (sx.then s3)
   |cons ch chs=>
    have hne:cs≠[]:=λe=>by rw[e]at hcA;exact nomatch hcA.1
    rw[q07 (by cases cs with | nil=>exact q0Q rfl hne | cons _ _=>rfl)];rw[etw];generalize hall:ch::chs=all at hcA hI hcl2 hm;have yaW:all≠[]:=λe=>nomatch hall.trans e;rw[q06 yaW]at hm;refine⟨_,λσ' H' h=>h,?_⟩;have hmu:=hI.mu h8;have hmu2:(M+577)*64<=8000000:=by omega
    have hT3:bF H3 d tb:=hT2.up s3;have sx3:=sx.then s3;have hc3:=s3 _ _ hc2;have hcA3:=hcA.mono λb y _ _ (h:aX H2 b y)=>h.up s3;walk_at "n";refine⟨Gr _,λlw hlw=>h1 _ _ ?_⟩;clear h1;have s4:=ao (o:=.lst []) hlw;have e4:aB H3 lw (.lst []) lw=some (.lst []):=af;have hl2w:l2≠lw:=ax hc3 hlw;have hlw0:∀o,H lw=some o->lw=d:=λo h=>by
     by_cases e:lw=d
     ·exact e
     ·have:=sx3 lw o e h
      rw[hlw]at this;cases this
    have hlwd:lw≠d:=λe=>by
     rw[e]at hlw;rw[show H3 d=_ from hT3]at hlw;cases hlw
    generalize aB H3 lw (.lst [])=H4 at s4 e4 ⊢;walk_at "n";refine⟨⟨_,aT.of (s4 _ _ hc3)⟩,?_⟩;refine bO (xs:=cs.map V.ref) (λi σ H5=>Ef trs rs q ns M L0 tb0 tb all lr lt ln d l2 lw cs H H5 i σ) ?_ (λi σ H5 _ h=>by cases h with | mk _ _ _ _ _ _ _ h=>exact aT.of h.l) ?_ ?_
    ·exact .mk tb [] [] _ _ _ _ ⟨sx3.then s4,s4 _ _ hc3,hcA3.mono λb y _ _ h=>h.up s4,hT3.up s4,e4,bf.nil,hI.op (λk hk=>hk.elim id λz=>nomatch z) (λk v ho no _=>q0Q (.inl ho) no),Gq _⟩
    ·rintro i x σ H5 hx ⟨tb5,ws,lws,z5,z7,z8,z9,h5⟩
     rw[F5]at hx;obtain⟨cb,hcb,rfl⟩:=Gv.mp hx;have hi:=(F0.mp hcb).1;obtain⟨k,hk,hkb⟩:=h5.cA.get hcb;have md:=(F0.mp hk).1;have hdr:all.drop i=k::all.drop (i+1):=by
      rw[q0T md];rw[FZ md]at hk;cases hk;rfl
     obtain⟨hkC,v,hv⟩:=h5.I.opk k (.inl (by rw[hdr];exact q0B ..));obtain⟨t1,ht1,n1,hn1,ek⟩:=ij.mp hkC;obtain⟨t,hti,hfirst⟩:=qf (z:=tx k.1) (F6 (show(dD q)[t1]?=some (tx k.1) by rw[xP ht1,ek]));obtain⟨ht,ezt⟩:=AY hti;have ekt:k.1=bd (turned q t):=gg ezt;have kp5:=h5.sx.kp hT;walk_at "wp";refine⟨_,jv.of hkb,rfl,_,_,rfl,_,_,rfl,rfl,⟨_,aT.of (kp5.lst hlr)⟩,?_⟩;refine bO (xs:=as.map V.ref) (λj σ H6=>Ed trs rs q ns M L0 tb0 tb all lr lt ln d l2 lw cs H i t k v H6 j σ) (.mk tb5 ws lws _ _ h5 hv (λr hr=>nomatch hr)) (λj σ H6 _ h=>by cases h with | mk _ _ _ _ _ h=>exact aT.of ((h.sx.kp hT).lst hlr)) ?_ ?_
     ·rintro j x σ H6 hx ⟨tb6,ws6,lws6,y8,y9,⟨sx6,hl6,hcA6,hT6,hw6,hwA6,hI6,hm6⟩,hv6,hs6⟩
      rw[F5]at hx;obtain⟨ra,hra,rfl⟩:=Gv.mp hx;have hj:=(F0.mp hra).1;obtain⟨r,hr⟩:∃r,trs[j]?=some r:=⟨_,FZ (by rw[<- hrs.1];exact hj)⟩;obtain⟨r3,rk3⟩:=hR r (F6 hr);have kp6:=sx6.kp hT;obtain⟨rdx,rl,hrb,_⟩:=(hrs.kp kp6).2 j ra r hra hr;rw[rk3]at hrb;have hrb':H6 ra=some (.ins R.ct rdx (Ap r.2.n r.2.c rl r.2.o1 r.2.t)):=hrb;have hu8:r.2.t.toNat<8:=by have:=r3.t0;have:=r3.t7;omega
      have hat:=fz ht hu8;refine au λN1 h1=>?_;have hlt6:H6 lt=some (.lst ((dD q).map V.str)):=kp6.lst hlt;walk_at "wp";refine⟨.inl ⟨rfl,_,aT.of hlt6⟩,dD q,hlt6,t,hti,hfirst,_,_,_,hrb',rk.i3.cl,rk.a3.2.2.2.2,_,rfl,t,r.2.t.toNat,by rw[GS r3.t0],ht,hu8,(dD q).map V.str,_,rfl,aT.of hlt6,_,bS (by rw[F5,xP hat];rfl),_,_,_,hrb',rk.i3.cl,rk.a3.1,_,rfl,aM nofun,λtp htp=>h1 _ _ ?_⟩;clear h1;have s7:=ao (o:=.tup [V.str (tx (bd (turned q (after t r.2.t.toNat)))),V.str (tx r.2.n)]) htp;have hk7:aX (aB H6 tp (.tup [V.str (tx (bd (turned q (after t r.2.t.toNat)))),V.str (tx r.2.n)])) tp (fF q r t):=af;change zo _ _ _ _ _ (aB H6 tp (.tup [V.str (tx (bd (turned q (after t r.2.t.toNat)))),V.str (tx r.2.n)]));generalize aB H6 tp (.tup [V.str (tx (bd (turned q (after t r.2.t.toNat)))),V.str (tx r.2.n)])=H7 at s7 hk7 ⊢;have hT7:=hT6.up s7;have hrb7:=s7 _ _ hrb';walk_at "wp";have htk:trs.take (j+1)=trs.take j++[r]:=by rw[q0E,hr];rfl
      have hwA7:=hwA6.mono λb y _ _ (h:aX H6 b y)=>h.up s7;have hcA7:=hcA6.mono λb y _ _ (h:aX H6 b y)=>h.up s7;refine⟨_,_,_,hrb7,rk.i3.cl,rk.a3.2.2.2.1,_,rfl,by simp[wc],?_⟩
      by_cases e:r.2.o1=k.2
      ·rw[q07 (by rw[e])]
       refine⟨aM nofun,λtq htq=>?_⟩;generalize z0:aB H7 tq _=H8;obtain⟨s8,(hk8:aX H8 tq k)⟩:=kY htq z0;have hT8:bF H8 d tb6:=hT7.up s8;have hg8:=hT8.told.get hk8;rw[hv6]at hg8;have h64:=hI6.len64 h8;have ek2:(bd (turned q t),r.2.o1)=k:=by rw[<- ekt,e]
       obtain⟨hI9,hm9⟩:=hI6.low hq a0 c0 hO h8 r3 ht (v:=v) (by rw[ek2];exact hkC) (by rw[ek2];exact hv6);refine⟨_,hg8,_,_,_,s8 _ _ hrb7,rk.i3.cl,rk.a3.2.1,_,rfl,v,rfl,r.2.c,rfl,d,tp,tb6,fF q r t,v+r.2.c,rfl,hT8,hk7.up s8,by have:=q0W;omega,λH9 hT9 sx9=>⟨_,rfl,?_⟩⟩;have kp9:=sx9.kp hT8;have hv9:az (cV tb6 (fF q r t) (v+r.2.c)) k=some v:=by
        rw[gY]
        split
        ·rename_i hc
         obtain⟨hc1,hc2⟩:=hc;unfold fS at hc2;rw[<- hc1,hv6]at hc2;have h3:v+r.2.c<v:=by simpa using hc2
         have:=r3.c1;omega
        ·exact hv6
       have hs9:∀r'∈trs.take (j+1),r'.2.o1=k.2->∃v',v'<=v+r'.2.c/\az (cV tb6 (fF q r t) (v+r.2.c)) (fF q r' t)=some v':=by
        intro r' hr' e';rw[htk]at hr';rcases Gd.mp hr' with hr' | hr'
        ·obtain⟨v1,l1,e1⟩:=hs6 r' hr' e'
         obtain⟨v2,l2,e2⟩:=sQ tb6 (fF q r t) (v+r.2.c) _ _ e1;exact⟨v2,Int.le_trans l2 l1,e2⟩
        ·rw[F4.mp hr']
         exact uJ _ _ _
       have sx9':=(sx6.then (s7.trans s8)).trans sx9;have hl9:=kp9.lst (s8 _ _ (s7 _ _ hl6));have hw9:=kp9.lst (s8 _ _ (s7 _ _ hw6));have hcA9:=hcA7.mono λb y _ _ (h:aX H7 b y)=>(h.up s8).kp kp9;have hwA9:=hwA7.mono λb y _ _ (h:aX H7 b y)=>(h.up s8).kp kp9;have hk9:=(hk7.up s8).kp kp9;cases hlb:fS tb6 (fF q r t) (v+r.2.c) with
       |false=>
        rw[hlb]at hI9 hm9;rw[q06 (by simp)];refine .mk _ ws6 lws6 _ _ ⟨sx9',hl9,hcA9,hT9,hw9,hwA9,hI9.op (λx hx=>.inl hx) (λx w ho no _=>?_),by simp at hm9;omega⟩ hv9 hs9;exact q0Q (ho.elim id λz=>nomatch z.1) no
       |true=>
        rw[hlb]at hI9 hm9;rw[q07 rfl];have hwl:=hwA6.1;simp only[q07]at hm9;refine⟨.inl ⟨rfl,_,aT.of hw9⟩,_,hw9,by rw[F3];exact vJ ⋯,.mk _ (ws6++[tp]) (lws6++[fF q r t]) _ _ ⟨λb o hb h=>?_,?_,?_,?_,?_,(hwA9.mono λb y _ _ h=>h.put hw9).snoc (hk9.put hw9),hI9.op (λx hx=>?_) (λx w ho no _=>?_),?_⟩ hv9 hs9⟩
        ·rw[ai (show b≠lw from λz=>hb (z.trans (hlw0 o (z▸h))))];exact sx9' b o hb h
        ·rw[ai hl2w];exact hl9
        ·exact hcA9.mono λb y _ _ h=>h.put hw9
        ·show aB H9 lw _ d=_
         rw[ai (Ne.symm hlwd)];exact hT9
        ·rw[af,Gc];rfl
        ·rcases hx with hx | hx
         ·exact .inl (.inl hx)
         ·rcases Gd.mp hx with hx | hx
          ·exact .inl (.inr hx)
          ·exact .inr ⟨rfl,F4.mp hx⟩
        ·refine q0Q ?_ no
         rcases ho with(ho | ho) | ho
         ·exact .inl ho
         ·exact .inr (q0D _ ho)
         ·exact .inr (q0C _ (F4.mpr ho.2))
        ·rw[Gp,q0Z];omega
      ·rw[q06 (λh=>e (gg (by injection h)))]
       refine .mk tb6 ws6 lws6 _ _ ⟨sx6.then s7,s7 _ _ hl6,hcA7,hT7,s7 _ _ hw6,hwA7,hI6,hm6⟩ hv6 λr' hr' e'=>?_;rw[htk]at hr';rcases Gd.mp hr' with hr' | hr'
       ·exact hs6 r' hr' e'
       ·rw[F4.mp hr']at e'
        exact q0Q e' e
     ·rintro σ H6 ⟨tb6,ws6,lws6,y8,y9,h6,hv6,hs6⟩
      rw[F3,hrs.1,GF]at hs6;refine .mk tb6 ws6 lws6 _ _ _ _ ⟨h6.sx,h6.l,h6.cA,h6.T,h6.w,h6.wA,h6.I.op (λx hx=>hx.elim (λh=>.inl (by rw[hdr];exact Gh _ h)) .inr) (λx w ho no e=>?_),h6.m⟩;have ex:x=k:=by
       rcases ho with ho | ho
       ·rw[hdr]at ho
        rcases Gg.mp ho with ho | ho
        ·exact ho
        ·exact q0Q (.inl ho) no
       ·exact q0Q (.inr ho) no
      subst ex;rw[hv6]at e;cases e;intro r hr e1 t' ht' e2;obtain⟨v',l',e'⟩:=hs6 r hr e1;have u8:r.2.t.toNat<8:=by have:=(hR r hr).1.t0;have:=(hR r hr).1.t7;omega
      refine⟨v',l',?_⟩;have et:turned q t'=turned q t:=(hO t' ht').inj (hO t ht) (by rw[<- e2,<- ekt]);unfold fF at e' ⊢;rw[<- bj hq a0 c0 ht' u8,et,bj hq a0 c0 ht u8];exact e'
    ·rintro σ H5 ⟨tb5,ws,lws,z5,z7,z8,z9,⟨sx5,hl5,hcA5,hT5,hw5,hwA,hI5,hm5⟩⟩
     refine h1 _ _ ?_;walk_at "wp";rw[F3,hcA5.1,List.drop_length]at hI5;have hI9:=hI5.op (op':=λk=>k∈lws) (λk hk=>.inr hk) (λk v ho no _=>ho.elim (λz=>nomatch z) λz=>q0Q z no);refine⟨_,?_,.mk tb5 lws lw ws _ _ _ _ _ sx5 hT5 hw5 hwA hI9 ⋯ rfl⟩;cases lws with
     |nil=>rw[q07 rfl];simp at hm5;omega
     |cons _ _=>rw[q06 (by simp)];simp at hm5;omega
theorem li{R:RC}{H:Hp}:∀{as:G2} {rs:Yaa},aV R H as rs->∃tas:List Addr,((as.zip rs).filterMap λx=>if x.2.1=3 then some (V.ref x.1) else none)=tas.map V.ref/\aV R H tas (kL rs)
 | [],[],h=>⟨[],rfl,h⟩
 | [],_::_,h=>nomatch h.1
 |_::_,[],h=>nomatch h.1
 |a::as,r::rs,h=>by
  have h2:aV R H as rs:=⟨Nat.succ.inj h.1,λi b y e1 e2=>h.2 (i+1) b y e1 e2⟩;obtain⟨tas,e,ht⟩:=li h2;rw[List.zip_cons_cons,q0U]
  by_cases h3:r.1=3
  ·refine⟨a::tas,by simp only[q07 h3];rw[e];rfl,?_⟩
   have et:kL (r::rs)=r::kL rs:=by unfold kL;rw[List.filter_cons,q07 (by simpa using h3)]
   rw[et];refine⟨by rw[Gb,Gb,ht.1],λi b y e1 e2=>?_⟩;cases i with
   |zero=>
    rw[List.getElem?_cons_zero]at e1 e2;cases e1;cases e2
    exact h.2 0 _ _ rfl rfl
   |succ i=>exact ht.2 i b y e1 e2
  ·refine⟨tas,by simp only[q06 h3];exact e,?_⟩
   have et:kL (r::rs)=kL rs:=by unfold kL;rw[List.filter_cons,q06 (by simpa using h3)]
   rw[et];exact ht
theorem ny:∀{as:G2} {rs:Yaa} (k:Nat),as.length=rs.length->(((as.zip rs).zipIdx k).filterMap λx=>if x.1.2.1=3 then none else some (V.int (x.2:Int)))=tJ ((rs.zipIdx k).filterMap λx=>if x.1.1=3 then none else some x.2)
 | [],[],_,_=>rfl
 | [],_::_,_,h=>nomatch h
 |_::_,[],_,h=>nomatch h
 |a::as,r::rs,k,h=>by
  have ih:=ny (as:=as) (rs:=rs) (k+1) (Nat.succ.inj h);rw[List.zip_cons_cons,List.zipIdx_cons,List.zipIdx_cons,q0U,q0U]
  by_cases h3:r.1=3
  ·simp only[q07 h3];exact ih
  ·simp only[q06 h3];rw[ih];rfl
abbrev di:Stmt:=gZ 45
inductive d_(R:RC)(CG:Addr)(vs:List V)(H:Hp)(Q:VK)(_E:XK):Prop
 |mk (g dx a d:Addr) (sg st:GZ) (as:G2) (rs:Yaa) (nms:List (List Nat)) (p q:aD) (r c:Nat) (dn:G6) (tb:Tb) (_:vs=[.ref g,.ref a,.ref d]) (_:cW R H CG dx g sg st as rs) (_:(bA (tx st) rs).map (·.1)=nms.map tx) (_:kg rs nms p r c) (_:pB rs p r c dn q) (_:ES rs nms p r c dn tb) (_:H a=some (.lst (aq q))) (_:bF H d tb) (_:tb.length<=9900000) (_:∀l H' tb',H' l=some (.lst ((dD q).map V.str))->bF H' d tb'->(∀dn',(∀z,z∈dn'↔z∈dn\/∃t,t<8/\z=tx (bd (turned q t)))->ES rs nms p r c dn' tb')->tb'.length<=tb.length+1216->aS d H H'->Q (.ref l) H')
theorem iF:aF ["grammar","picture","told","turning","putting","texts","t","cuts"] ["grammar","picture","told"] (av di):=by walk_at "c"
theorem iL{R:RC}{f CG CC:Addr}{fd:G4}(F:dO K "enter_turnings" "enter_turnings" di f fd)(nb:NB mg)(rk:je K R)(rk4:wQ K R)(cc:iT K CC)(nc:Ce K CC){tkT:Tok}(yae:mg "TURNINGS"=some (.int 8 tkT))(zxa:mg "TurnRule"=some (.ref R.ct))(yak:iC P w K mg base bx 1 CG "rules" ["self"] (e_ R CG))(yam:iC P w K mg base bx 1 CG "names" ["self"] (fe R CG))(yau:rM P w K mg base bx 3 "Cuts" CC ["self","picture"] (gl K))(zra:eX P w K mg base bx 3 "turned" ["picture","t"] (jf K))(yaO:eX P w K mg base bx 7 "put_together" ["grammar","numbers","cuts","told"] (gn R CG CC))(yaA:eX P w K mg base bx 2 "turn_about" ["rules","texts","names","told"] (hU R)):bc P w K mg base bx 8 f fd ["grammar","picture","told"] (d_ R CG):=by
 have sc:=iF;walk_at "f"
 ·obtain⟨g,dx,a,d,sg,st,as,l,g0,p,q,r,c,dn,tb,rfl,hG,g6,m,hN,hS,ha,hT,htl,qq⟩:=h
  have hu:=hr.units;refine⟨_,(ae (kD (i:=3) ["rule"] [] sc.nd rfl (Or.inl rfl) rfl  rfl (bM.of (by kernel_rfl)) (by kernel_rfl) (bL (lG yak (hr.mono nofun) aL (aw 0)))
    (λ_ _ _ _=>(aE (i:=0) (by show(["rule"]:List Str).Nodup;decide +kernel) rfl (Or.inl rfl))) (λ_ _ _ _=>(pK (dL (aN (fC (K:=K) rfl) rfl nb.isinstance bz (ac (aw 0) (ac (cI (v:=.ref _) rfl zxa rfl) ad))) λ_=>rfl))) (λ_ _ _ _=>(aw 0)))
   (ae (kD (i:=4) ["k","rule"] [] sc.nd rfl (Or.inl rfl) rfl  rfl (bM.of (by kernel_rfl)) (by kernel_rfl) (oI rfl nb.enumerate (ac (lG yak (hr.mono nofun) aL (aw 0)) ad))
    (λ_ _ _ _=>(yX (K:=K) (n:=2) rfl rfl (cC (aE (i:=0) (by show(["k","rule"]:List Str).Nodup;decide +kernel) rfl (Or.inl rfl)) (cC (aE (i:=1) (by show(["k","rule"]:List Str).Nodup;decide +kernel) rfl (Or.inl rfl)) i7)))) (λ_ _ _ _=>(pK (dN (dL (aN (fC (K:=K) rfl) rfl nb.isinstance bz (ac (aw 1) (ac (cI (v:=.ref _) rfl zxa rfl) ad))) λ_=>rfl)))) (λ_ _ _ _=>(aw 0)))
   (ae (q01 5 sc.nd (b7 ad))
   (ae (ba PassesOwn.never rfl (bV rfl nb.range (ac (cI (v:=.int 8) rfl yae ⟨_,rfl⟩) ad)) (q02 6 sc.nd)
   (ae (q01 7 sc.nd (pF yau (hr.mono nofun) rfl aL (ac (aH zra (hr.mono nofun) rfl aL (ac (aw 1) (ac (aw 6) ad))) ad)))
   (ae (bT (aH yaO (hr.mono nofun) rfl aL (ac (aw 0) (ac (aw 4) (ac (aw 7) (ac (aw 2) ad))))))
   (ag (bT (q03 (aw 5) (ac (cG (aw 7) rfl) ad)))))))
   (ae (bT (aH yaA (hr.mono nofun) rfl aL (ac (aw 3) (ac (aw 5) (ac (lG yam (hr.mono nofun) aL (aw 0)) (ac (aw 2) ad))))))
   (ag (aO (aw 5)))))))),?_⟩
  obtain⟨lk,pn,nt,e2,hgk,z,hgN,hgm⟩:=id hG;have d6:∀x∈l,x.1<4:=λx G=>(m.gd x G).k4;have g4:=m.r24;have d1:=z.1;have c2:(as.zip l).length<=1000000:=by rw[q0N];omega
  walk_at "n";refine⟨_,_,e2,rfl,g,dx,sg,st,as,l,rfl,hG,λl1 H1 h2 e1 s1=>?_⟩;refine⟨l1,rfl,⟨_,aT.of e1⟩,?_⟩;refine rO (as:=as.zip l) (emb:=λx=>V.ref x.1) (f:=λx=>if x.2.1=3 then some (V.ref x.1) else none) (λσ=>∃x,σ=[x]) ⟨_,rfl⟩ (λH2 O=>by rw[z.zip.1];exact aT.of (O _ _ e1)) c2 ?_ ?_
  ·rintro j x G σ H2 M1 M0 ⟨x0,rfl⟩ O k1 k0
   have D:=F6 G;obtain⟨f9,rl,a4,_⟩:=(((z.zip.2.2 x D).up s1).up O);have a3:x.2.1<4:=d6 x.2 (by rw[<- z.zip.2.1];exact GM.mpr ⟨x,D,rfl⟩);walk_at "wp";refine⟨_,(rk.icls x.2.1).ty a4,_,rk4.kit x.2.1 3 a3 nofun,?_⟩
   by_cases M:x.2.1=3
   ·rw[q07 (by simpa using M)]
    exact k1 _ _ _ (by rw[q07 M]) O ⟨_,rfl⟩
   ·rw[q06 (by simpa using M)]
    exact k0 _ _ (by rw[q06 M]) O ⟨_,rfl⟩
  ·intro H2 O l2 d5
   obtain⟨f8,f5,g2⟩:=li z;rw[f5];refine h1 _ _ ?_;clear h1;generalize T:aB H2 l2 _=H3;obtain⟨s3,e3⟩:=kY d5 T;have sA:=s1.trans (O.trans s3);walk_at "n";have f3:=hG.up sA;refine⟨_,_,sA _ _ e2,rfl,g,dx,sg,st,as,l,rfl,f3,λl4 H4 h0 e4 s4=>?_⟩;refine⟨l4,rfl,_,aT.of e4,?_⟩;have sB:=sA.trans s4;refine rR (as:=as.zip l) (emb:=λx=>V.ref x.1) (f:=λi x=>if x.2.1=3 then none else some (V.int (i:Int))) (λσ=>∃x y,σ=[x,y]) ⟨_,_,rfl⟩ (λH5 J=>by rw[z.zip.1];exact aT.of (J _ _ e4)) c2 ?_ ?_
   ·rintro j x G σ H5 tp M1 M0 ⟨x0,x1,rfl⟩ J g1 k1 k0
    have D:=F6 G;generalize T:aB H5 tp _=H6;obtain⟨Z,e6⟩:=kY g1 T;obtain⟨f9,rl,a4,_⟩:=((((z.zip.2.2 x D).up sB).up J).up Z);have a3:x.2.1<4:=d6 x.2 (by rw[<- z.zip.2.1];exact GM.mpr ⟨x,D,rfl⟩);walk_at "wp";refine⟨_,jv.of e6,rfl,_,_,rfl,_,_,rfl,rfl,_,(rk.icls x.2.1).ty a4,_,rk4.kit x.2.1 3 a3 nofun,?_⟩
    by_cases M:x.2.1=3
    ·rw[q06 (by simpa using M)]
     exact k0 _ _ (by rw[q07 M]) (J.trans Z) ⟨_,_,rfl⟩
    ·rw[q07 (by simpa using M)]
     exact k1 _ _ _ (by rw[q06 M]) (J.trans Z) ⟨_,_,rfl⟩
   ·intro H5 J l5 d4
    rw[show((as.zip l).zipIdx.filterMap λx=>if x.1.2.1=3 then none else some (V.int (x.2:Int)))=tJ (dt l) from ny 0 d1];refine h1 _ _ ?_;clear h1;generalize T:aB H5 l5 _=H6;obtain⟨Z,e6⟩:=kY d4 T;have sC:=sB.trans (J.trans Z);have i2:=(s4.trans (J.trans Z)) _ _ e3;have c9:=g2.up sC;have f1:=hG.up sC;have h6:=sC _ _ ha;have B:bF H6 d tb:=hT.up sC;clear Z d4 J s4 e4 h0 sB f3 sA s3 e3 d5 O s1 e1 h2;walk_at "n";refine⟨Gr _,λl7 I=>h1 _ _ ?_⟩;clear h1;generalize T:aB H6 l7 _=H7;obtain⟨s7,e7⟩:=kY I T;walk_at "n";rw[show Int.toNat 8=8 from rfl];obtain⟨a0,b0,k⟩:=oY m.hp m.r6 m.c6 hN.sq;have e9:=hS.pta m hN;have hpn:(dt l).length<=24:=by
     unfold dt;refine Gy (List.length_filterMap_le _ _) ?_;rw[List.length_zipIdx];exact g4
    have d3:l7≠d:=λe=>by
     rw[e]at I;rw[show H6 d=_ from B]at I;cases I
    refine⟨nofun,b5 (lo:=0) (n:=8) (λt σ H8=>aS d H6 H8/\bF H8 d (pta l (dt l) q tb t)/\H8 l7=some (.lst (((List.range t).map λu=>tx (bd (turned q u))).map V.str))/\∃x6 x7,σ=[some (V.ref g),some (V.ref a),some (V.ref d),some (V.ref l2),some (V.ref l5),some (V.ref l7),x6,x7]) ⟨aS.of s7,B.up s7,e7,_,_,rfl⟩ ?_ ?_⟩
    ·rintro t σ H8 ht ⟨C,L,e8,x6,x7,rfl⟩
     have a2:=C.kp B;have g3:=hN.sq.turned m.hp ht;obtain⟨a1,b1,f4⟩:=oY m.hp m.r6 m.c6 g3;have:=k.r6;have:=k.c6;walk_at "n";refine⟨a,q,a0,b0,t,by simp,aT.of (a2.lst h6),k.rc,k.r0,k.c0,⋯,⋯,ht,λlq H9 hlq i0 Y=>?_⟩;intro x a5 G h4 g9;have b3:aA H9 (aB (aB H9 a5 (.own x)) x (.ins CC a5 [])):=(ao h4).trans (ao (by rw[ai (Ne.symm g9)];exact G));refine⟨x,CC,a5,lq,turned q t,a1,b1,rfl,af,cc.cl,nc,b3 _ _ i0,f4,λH3 hC sx=>⟨rfl,h1 _ _ ?_⟩⟩;clear h1;have s3:aA H9 H3:=λy u e=>sx y u (ax e G) (b3 y u e);have U:=Y.trans s3;have e5:bF H3 d (pta l (dt l) q tb t):=L.up U;have a9:=C.then U;have c1:=a9.kp B;have d2:=(e9 t ⋯).len;walk_at "n";refine⟨g,dx,l5,x,d,sg,st,as,l,dt l,turned q t,a1,b1,pta l (dt l) q tb t,rfl,f1.kp c1,m.gd,c1.lst e6,λn hn=>(let ⟨r',e',_⟩:=iU.mp hn;(F0.mp e').1),⋯,hC,f4,e5,?_,λH4 h8 a8=>h1 _ _ ?_⟩
     ·have:6*(dt l).length*t<=6*24*8:=Nat.mul_le_mul ⋯ ⋯
      omega
     clear h1;have b6:=a8.kp e5;obtain⟨dxc,lp,lb,la,h5,_⟩:=hC.kp b6;have f6:=b6.lst (U _ _ e8);walk_at "wp";refine⟨.inl ⟨rfl,_,aT.of f6⟩,_,_,_,h5,cc.cl,nc.2.1,_,rfl,_,f6,by rw[F3,F3,q0J];exact aY ⋯,λb o hb h=>?_,?_,?_⟩
     ·rw[ai (ax h I)];exact(a9.trans a8) b o hb h
     ·show aB H4 l7 _ d=_
      rw[ai (Ne.symm d3)];exact h8
     ·rw[af,q0M,Gc,Gc];rfl
    ·rintro σ H8 ⟨C,L,e8,x6,x7,rfl⟩
     refine h1 _ _ ?_;clear h1;walk_at "wp";have a2:=C.kp B;have f0:=f1.kp a2;obtain⟨lk',pn',nt',e0,_⟩:=id f0;have a6:=e9 8 (Gq _);have d2:=a6.len;have hlen2:6*(dt l).length*8<=6*24*8:=Nat.mul_le_mul ⋯ ⋯;have h7:=ES.start m hN hS a6;have hcell:aU q<=6*6:=by
      unfold aU;rw[k.rc.1,aW k.rc k.r0];exact Nat.mul_le_mul k.r6 k.c6
     refine⟨_,_,e0,rfl,g,dx,sg,st,as,l,rfl,f0,λln H9 hln i1 Y=>?_⟩;have a7:=C.then Y;have b4:=a7.kp B;refine⟨l2,l7,ln,d,f8,kL l,l,q,a0,b0,g0,1170*aU q-1161,(pta l (dt l) q tb 8).length,pta l (dt l) q tb 8,rfl,b4.lst i2,c9.kp b4,Y _ _ e8,?_,L.up Y,k.rc,k.r0,k.c0,λt ht=>fu m.hp m.ns (hN.sq.turned m.hp ht),m.n8,λx G=>⟨m.turn3 G,by simpa using(List.mem_filter.mp G).2⟩,h7,⋯,⋯,λH' f7 h9 S b2=>?_⟩
     ·rw[i1]
      congr 2
      have:=q0R (List.map V.str) g6;rw[Gf,Gf]at this;exact this
     ·have h64:=S.len64 m.n8
      refine qq l7 H' f7 ((b2.kp (L.up Y)).lst (Y _ _ e8)) h9 (λdn' hd=>ES.enter m hN hS a6 S hd) ⋯ ((aS.of sC).trans (a7.trans b2))
structure yP(rs:Yaa)(nms:List (List Nat))(p:aD)(r c:Nat)(tb:Tb):Prop where
 nd:(tb.map (·.1)).Nodup
 key:∀k v,az tb k=some v->(∃q,bh p r c q/\k.1=bd q)/\k.2∈nms/\Dv rs k v/\1<=v
 clo:∀q,bh p r c q->Eh rs (az tb) q
 len:tb.length<=9900000
def F2(d e:Addr)(H H':Hp):Prop:=∀b o,b≠d->b≠e->H b=some o->H' b=some o
theorem cW.f2{R:RC}{H H':Hp}{C dx a d e:Addr}{sg st:GZ}{as:G2}{rs:Yaa}{m:List (List b9×V)}(g:cW R H C dx a sg st as rs)(hd:H d=some (.dT m))(he:H e=some (.dK []))(s:F2 d e H H'):cW R H' C dx a sg st as rs:=by
 obtain⟨u,n,t,h1,h2,q,c,k⟩:=g;have j:∀{b:Addr} {xs:List V},H b=some (.lst xs)->H' b=some (.lst xs):=fun{b xs} h=>s b _ (λz=>by rw[z,hd]at h;cases h) (λz=>by rw[z,he]at h;cases h) h;have o:∀{b C dx:Addr} {fs:List (Str×V)},H b=some (.ins C dx fs)->H' b=some (.ins C dx fs):=fun{b C dx fs} h=>s b _ (λz=>by rw[z,hd]at h;cases h) (λz=>by rw[z,he]at h;cases h) h;refine⟨u,n,t,o h1,j h2,⟨q.1,λi b r G D=>?_⟩,⟨s n _ (λz=>?_) (λz=>?_) c.dict,λx y=>j (c.list x y),c.apart⟩,k⟩
 ·obtain⟨dx,l,w,v⟩:=q.2 i b r G D
  exact⟨dx,l,o w,j v⟩
 ·have h:=c.dict
  rw[z,hd]at h;cases h
 ·have h:=c.dict
  rw[z,he]at h
  injection h with h
  injection h with h
  have B:t=[]:=by
   cases t with
   |nil=>rfl
   |cons x t=>exact nomatch h
  rw[B]at k;have p:=(iH (tx st) rs (tx st)).mpr (.inl rfl);rw[<- k]at p;exact nomatch p
def p_(dn:G6)(zs:G6):List Str:=zs.foldl ThM.addNew dn
theorem iZ{z:Str}:∀{zs dn:G6},z∈p_ dn zs↔z∈dn\/z∈zs
 | [],dn=>by simp[p_]
 |y::zs,dn=>by
  show z∈p_ (ThM.addNew dn y) zs↔_;rw[iZ,ThM.mem_addNew,Gg,or_assoc]
theorem lZ:∀(zs dn:G6),(p_ dn zs).length<=dn.length+zs.length
 | [],dn=>Gq _
 |y::zs,dn=>by
  have h1:=lZ zs (ThM.addNew dn y);have h2:(ThM.addNew dn y).length<=dn.length+1:=by unfold ThM.addNew;split<;>simp
  show(p_ (ThM.addNew dn y) zs).length<=_;rw[Gb];omega
theorem qM{q:aD}{z:Str}:z∈dD q↔∃t,t<8/\z=tx (bd (turned q t)):=by
 unfold dD;rw[GM]
 constructor
 ·rintro⟨t,a,rfl⟩;exact⟨t,List.mem_range.mp a,rfl⟩
 ·rintro⟨t,a,rfl⟩;exact⟨t,List.mem_range.mpr a,rfl⟩
theorem ES.new{rs:Yaa}{nms:List (List Nat)}{p:aD}{r c:Nat}{dn:G6}{tb:Tb}{qs:List aD}{i:Nat}{q:aD}(E:kg rs nms p r c)(S:ES rs nms p r c dn tb)(hsn:Cb p r c qs)(hi:qs[i]?=some q)(hdn:∀j z,j<i->qs[j]?=some z->tx (bd z)∈dn)(hno:tx (bd q)∉dn):pB rs p r c dn q:=by
 have a:=(hsn.1 q).mp (F6 hi);obtain⟨a0,b0,g,e,d,_⟩:=a.rect E.hp;refine⟨a,λt b v=>hno ?_,λn k hc=>?_⟩
 ·have:=S.tur _ (a.turned E.hp b) v (fc t) (iW b)
  rwa [jU g e d b]at this
 ·obtain⟨j,o⟩:=List.mem_iff_getElem?.mp ((hsn.1 n).mpr k)
  refine hdn j n ?_ o;obtain⟨Cp,u⟩:=F0.mp hi;obtain⟨l,m⟩:=F0.mp o;rcases Nat.lt_trichotomy j i with h | h | h
  ·exact h
  ·subst h
   rw[u]at m;subst m;omega
  ·have:=List.pairwise_iff_getElem.mp hsn.2 i j Cp l h
   rw[u,m]at this;rcases this with h | ⟨h,_⟩<;>omega
abbrev fP:Stmt:=gZ 44
inductive hV(K:W.Frag)(R:RC)(CG:Addr)(vs:List V)(H:Hp)(Q:VK)(_E:XK):Prop
 |mk (g dx a d e:Addr) (sg st:GZ) (as:G2) (rs:Yaa) (nms:List (List Nat)) (p:aD) (r c:Nat) (_:vs=[.ref g,.ref a,.ref d,.ref e]) (_:cW R H CG dx g sg st as rs) (_:(bA (tx st) rs).map (·.1)=nms.map tx) (_:kg rs nms p r c) (_:aT K H a (aq p)) (_:bF H d []) (_:H e=some (.dK [])) (_:∀H' tb,bF H' d tb->yP rs nms p r c tb->F2 d e H H'->Q .non H')
theorem mE:aF ["grammar","picture","told","done","seen","text"] ["grammar","picture","told","done"] (av fP):=by walk_at "c"
theorem mj{R:RC}{f CG:Addr}{fd:G4}(F:dO K "enter_seen" "enter_seen" fP f fd)(nb:NB mg)(yaB:eX P w K mg base bx 4 "seen_in" ["picture"] (kG K))(yac:eX P w K mg base bx 1 "shown" ["picture"] (gP K))(yaP:eX P w K mg base bx 8 "enter_turnings" ["grammar","picture","told"] (d_ R CG)):bc P w K mg base bx 9 f fd ["grammar","picture","told","done"] (hV K R CG):=by
 have sc:=mE;walk_at "f"
 ·obtain⟨g,dx,a,d,e,sg,st,as,rs,a2,p,r,c,rfl,hG,b3,u,c1,hT,he,qq⟩:=h
  have hu:=hr.units;refine⟨_,(ag (ba PassesOwn.never rfl (bL (aH yaB (hr.mono nofun) rfl aL (ac (aw 1) ad))) (q02 4 sc.nd)
   (ag (cz (pP (nA (GK (GO (by decide:1<=64) _) hu) (aH yac (hr.mono nofun) rfl aL (ac (aw 4) ad)) (aw 3)) (by with_unfolding_all rfl))
   (ag (ba PassesOwn.never rfl (bL (aH yaP (hr.mono nofun) rfl aL (ac (aw 0) (ac (aw 4) (ac (aw 2) ad))))) (q02 5 sc.nd)
   (ag (kr (GK (GO (by decide:1<=64) _) hu) (aw 3) (aw 5) hZ rfl))))
   bi)))),?_⟩
  walk_at "wp";refine⟨a,p,r,c,rfl,c1,u.hp,u.r0,u.c0,u.r6,u.c6,u.ns,λH1 l zs s1 hl el hz hnd T hzl=>⟨l,rfl,⟨_,aT.of el⟩,?_⟩⟩;have Y:bF H1 d []:=hT.up s1;have U:=s1 _ _ he;have d1:=hG.up s1;have a8:d≠e:=λz=>by rw[z]at hT;rw[show H e=_ from hT]at he;cases he
  have a9:∀{H':Hp} {b:Addr} {xs:List V},F2 d e H1 H'->H1 b=some (.lst xs)->H' b=some (.lst xs):=fun{H' b xs} s h=>s b _ (λz=>by rw[z,show H1 d=_ from Y]at h;cases h) (λz=>by rw[z,U]at h;cases h) h;refine bO (xs:=zs.map λz=>V.ref z.1) (λi σ H2=>F2 d e H1 H2/\i<=zs.length/\(∃(tb:Tb) (m:G6),bF H2 d tb/\H2 e=some (.dK (ThM.trueD m))/\ES rs a2 p r c m tb/\(∀j z,j<i->(zs.map (·.2))[j]?=some z->tx (bd z)∈m)/\tb.length<=1216*i/\m.length<=8*i)/\∃x4 O,σ=[some (V.ref g),some (V.ref a),some (V.ref d),some (V.ref e),x4,O]) ?_ (λi σ H2 _ h=>aT.of (a9 h.1 el)) ?_ ?_
  ·refine⟨λb o _ _ h=>h,Gr _,⟨[],[],Y,U,⟨List.nodup_nil,(λk v h=>nomatch h),(λk v h=>nomatch h),(λz h=>nomatch h),(λq _ h=>nomatch h),(λq _ h=>nomatch h),(λq _ h=>nomatch h)⟩,(λj z h=>q0Q h (Nat.not_lt_zero _)),Gq _,Gq _⟩,_,_,rfl⟩
  ·rintro i x σ H2 hx ⟨f2,_,⟨tb,m,J,I,M,n,a5,b4⟩,x4,O,rfl⟩
   rw[F5]at hx;obtain⟨z,S,rfl⟩:=Gv.mp hx;have hi:=(F0.mp S).1;have b2:=F6 S;have a3:=a9 f2 (hz z b2).2;have D:(zs.map (·.2))[i]?=some z.2:=by rw[F5,S];rfl
   have sq:=(T.1 z.2).mp (F6 D);obtain⟨a0,b0,d2⟩:=oY u.hp u.r6 u.c6 sq;have a7:tx (bd z.2)∈m->∀j y,j<i+1->(zs.map (·.2))[j]?=some y->tx (bd y)∈m:=λZ j y hj B=>by
    by_cases ej:j=i
    ·subst ej
     rw[D]at B;cases B
     exact Z
    ·exact n j y ⋯ B
   walk_at "wp";refine⟨z.1,z.2,rfl,a3,d2.small,_,.inl ⟨_,.inr (tx (bd z.2)),.inl I,rfl,rfl⟩,?_⟩;rw[ThM.trueD_val]
   by_cases Z:tx (bd z.2)∈m
   ·rw[q06 (by simpa using Z)]
    exact⟨f2,hi,tb,J,m,I,M,a7 Z,⋯,⋯⟩
   ·rw[q07 (by simpa using Z)]
    have hN:=M.new u T D n Z;refine⟨g,dx,z.1,d,sg,st,as,rs,a2,p,z.2,r,c,m,tb,rfl,d1.f2 Y U f2,b3,u,hN,M,a3,J,⋯,λl3 H3 b1 L b6 c9 hl3 a1=>⟨l3,rfl,⟨_,aT.of L⟩,?_⟩⟩;have a6:=a1 _ _ (Ne.symm a8) I;have hcl:(dD z.2).length=8:=by unfold dD;rw[F3,q0J]
    refine bO (xs:=(dD z.2).map V.str) (λj σ H4=>aS e H3 H4/\j<=8/\H4 e=some (.dK (ThM.trueD (p_ m ((dD z.2).take j))))/\∃O,σ=[some (V.ref g),some (V.ref a),some (V.ref d),some (V.ref e),some (V.ref z.1),O]) ⟨aS.of λ_ _ h=>h,Gr _,a6,_,rfl⟩ (λj σ H4 _ h=>aT.of (h.1 _ _ (λzz=>by rw[zz,a6]at L;cases L) L)) ?_ ?_
    ·rintro j x σ H4 hx ⟨C,_,G,O,rfl⟩
     rw[F5]at hx;obtain⟨y,B,rfl⟩:=Gv.mp hx;have hj:j<8:=by have:=(F0.mp B).1;omega
     have a4:=lZ ((dD z.2).take j) m;rw[GG]at a4;walk_at "wp";refine⟨_,.inl ⟨_,.inr y,G,rfl,by rw[ThM.trueD_len];exact aY ⋯,rfl⟩,C.put,hj,?_⟩;rw[af,ThM.trueD_put,q0E,B];show _=some (HO.dK (ThM.trueD (List.foldl ThM.addNew m (_++[y]))));rw[List.foldl_append];rfl
    ·rintro σ H4 ⟨C,_,G,O,rfl⟩
     rw[F3,GF]at G;have a4:=lZ (dD z.2) m;have c2:=c9 (p_ m (dD z.2)) λy=>by rw[iZ,qM]
     refine⟨λb o h1 h2 h=>C b o h2 (a1 b o h1 (f2 b o h1 h2 h)),hi,⟨b1,C _ _ a8 b6,p_ m (dD z.2),G,c2,λj y hj B=>?_,⋯,⋯⟩,_,_,rfl⟩
     by_cases ej:j=i
     ·subst ej
      rw[D]at B;cases B
      exact iZ.mpr (.inr (qM.mpr ⟨0,⋯,rfl⟩))
     ·exact iZ.mpr (.inl (n j y ⋯ B))
  ·rintro σ H2 ⟨f2,_,⟨tb,m,J,I,M,n,a5,b4⟩,x4,O,rfl⟩
   have all:∀q,bh p r c q->tx (bd q)∈m:=λq hq=>by
    obtain⟨j,hj⟩:=List.mem_iff_getElem?.mp ((T.1 q).mpr hq);refine n j q ?_ hj;have:=(F0.mp hj).1
    rwa [F3]at this ⊢
   rw[F3]at a5;refine qq H2 tb J ⟨M.nd,λk v h=>?_,λq hq=>M.clo q hq (all q hq),⋯⟩ λb o h1 h2 h=>f2 b o h1 h2 (s1 b o h);obtain⟨h1,h2⟩:=M.key k v h;obtain⟨q,h3,h4⟩:=M.don _ h1;exact⟨⟨q,h3,gg h4⟩,h2⟩
abbrev ik:Stmt:=gZ 43
inductive jW(K:W.Frag)(R:RC)(CG:Addr)(vs:List V)(H:Hp)(Q:VK)(_E:XK):Prop
 |mk (g dx a:Addr) (sg st:GZ) (as:G2) (rs:Yaa) (nms:List (List Nat)) (p:aD) (r c:Nat) (_:vs=[.ref g,.ref a]) (_:cW R H CG dx g sg st as rs) (_:(bA (tx st) rs).map (·.1)=nms.map tx) (_:kg rs nms p r c) (_:aT K H a (aq p)) (_:∀d H' tb,H d=none->bF H' d tb->yP rs nms p r c tb->aA H H'->Q (.ref d) H')
theorem qU:aF ["grammar","picture","told"] ["grammar","picture"] (av ik):=by walk_at "c"
theorem qR{R:RC}{f CG:Addr}{fd:G4}(F:dO K "table_of" "table_of" ik f fd)(nb:NB mg)(yax:eX P w K mg base bx 9 "enter_seen" ["grammar","picture","told","done"] (hV K R CG)):bc P w K mg base bx 10 f fd ["grammar","picture"] (jW K R CG):=by
 have sc:=qU;walk_at "f"
 ·obtain⟨g,J,a,y,x,L,z,k,p,r,c,rfl,D,l,G,q,B⟩:=h
  refine⟨_,(ae (q01 2 sc.nd qo)
   (ae (bT (aH yax (hr.mono nofun) rfl aL (ac (aw 0) (ac (aw 1) (ac (aw 2) (ac qk ad))))))
   (ag (aO (aw 2))))),?_⟩
  walk_at "wp";intro d n e m;have j:=ao (o:=.dT []) n;have v:bF (aB H d (.dT [])) d []:=af;generalize aB H d (.dT [])=H1 at j v m ⊢;have i:=ao (o:=.dK []) m;have u:aB H1 e (.dK []) e=some (.dK []):=af;generalize aB H1 e (.dK [])=H2 at i u ⊢;refine⟨g,J,a,d,e,y,x,L,z,k,p,r,c,rfl,D.up (j.trans i),l,G,(j.trans i).seq q,v.up i,u,λM tb C I f2=>?_⟩;exact B d M tb n C I λb o h=>f2 b o (ax h n) (ax (j b o h) m) (i b o (j b o h))
abbrev lH:Stmt:=gZ 50
inductive jb(K:W.Frag)(vs:List V)(H:Hp)(Q:VK)(_E:XK):Prop
 |mk (a:Addr) (ns:List Int) (k:Nat) (_:vs=[.ref a,.int (k:Int)]) (_:aT K H a (ns.map V.int)) (_:k<=1000) (_:Q (.int (dh ns k)) H)
theorem uO:aF ["_law_script","_law_k","_law_cell_here","_law_mixed"] ["_law_script","_law_k"] (av lH):=by walk_at "c"
theorem vO{f:Addr}{fd:G4}(F:dO K "_law_cell" "_law_cell" lH f fd)(nb:NB mg):bc P w K mg base bx 1 f fd ["_law_script","_law_k"] (jb K):=by
 have sc:=uO;walk_at "f"
 ·obtain⟨a,ns,k,rfl,hS,hk,q⟩:=h
  refine⟨_,(ae (q01 2 sc.nd am)
   (ae (cz (bE wP (pv 1) (aN cT rfl nb.len cy (ac (pv 0) ad)) (b_ _))
   (ag (q01 2 sc.nd (cg nQ (pv 0) (pv 1) (λ_ _=>rfl))))
   bi)
   (ae (q01 3 sc.nd (ay bv (ay dw (ay bo (ay bo (ay bv (pv 2) am) (ay dw am (pv 1))) am) am) am))
   (ag (aO (ay bo (ay dw (ay bJ (pv 2) am) am) (ay bv (ay bo (ay dw (pv 3) am) (pv 1)) am))))))),?_⟩
  walk_at "wp";refine⟨_,hS,?_⟩;rw[F3];unfold dh at q
  split
  ·rename_i hlt
   have hlt':k<ns.length:=by omega
   rw[q0A,FZ hlt',q0L]at q;refine⟨_,hS,V.int ns[k],bS (by rw[F5,FZ hlt'];rfl),?_⟩;walk_at "wp";exact q
  ·rename_i hlt
   rw[q0A,List.getElem?_eq_none ⋯,Option.getD_none]at q;exact q
def rK(d s m:Nat):List Nat:=(List.range (1+m)).map λi=>97+(d+(1+2*s)*i)%26
theorem yL:∀d,d<26->∀s,s<6->∀m,m<4->gH (rK d s m)=true:=by decide +kernel
structure CT(r:GZ):Prop where
 ok:gH r=true
 one:∀c∈r,kK [c]=true
 nd:r.Nodup
 ns:47∉r
def Da:List Nat->Bool
 | []=>true
 |x::r=>!r.contains x&&Da r
theorem wI:∀{r:GZ},Da r=true->r.Nodup
 | [],_=>List.nodup_nil
 |x::r,h=>by
  unfold Da at h;rw[q0O]at h;exact List.nodup_cons.mpr ⟨by simpa using h.1,wI h.2⟩
theorem Bb:∀d,d<26->∀s,s<6->∀m,m<4->((rK d s m).all (λc=>kK [c])&&Da (rK d s m) && !(rK d s m).contains 47)=true:=by decide +kernel
theorem wu:∀n,n<26->(Str.ofString "abcdefghijklmnopqrstuvwxyz").cps.toList[n]?=some (97+n):=by decide +kernel
def cn(r:GZ):aD:=r.map λc=>[c]
abbrev jE:Stmt:=gZ 53
inductive lE(vs:List V)(H:Hp)(Q:VK)(_E:XK):Prop
 |mk (c:Int) (m:Nat) (_:vs=[.int c,.int (1+(m:Int))]) (_:m<4) (_:∀(l:Addr) (r:GZ) (H':Hp),H l=none->H' l=some (.lst (aq (cn r)))->CT r->r.length=1+m->aA H H'->Q (.ref l) H')
theorem sf:aF ["_law_cell_here","_law_many","_law_letters","_law_step"] ["_law_cell_here","_law_many"] (av jE):=by walk_at "c"
theorem rE{f:Addr}{fd:G4}(F:dO K "_law_signs" "_law_signs" jE f fd)(nb:NB mg):bc P w K mg base bx 1 f fd ["_law_cell_here","_law_many"] lE:=by
 have sc:=sf;walk_at "f"
 ·obtain⟨c,m,rfl,o,q⟩:=h
  refine⟨_,(ae (aJ (i:=2) sc.nd rfl (Or.inr rfl) lg)
   (ae (aJ (i:=3) sc.nd rfl (Or.inr rfl) (ay (bD.m0 bo) am (ay (bD.m1 dw) am (ay (bD.m1 bv) (ay (bD.m1 bJ) (aw 0) am) am))))
   (ag (aO (cO ["_law_k"] [2,0,3] rfl (bM.of (by kernel_rfl)) (by kernel_rfl) (bV rfl nb.range (ac (aw 1) ad))
    (λ_ _ _ _=>(aE (i:=0) (by show(["_law_k","_law_letters","_law_cell_here","_law_step"]:List Str).Nodup;decide +kernel) rfl (Or.inl rfl))) (λ_ _ _ _=>cU) (λ_ _ _ _=>(cg pH (aw 1) (ay (bD.m1 bv) (ay (bD.m0 bo) (ay (bD.m1 bv) (aw 2) am) (ay (bD.m1 dw) (aw 3) (aw 0))) am) (λ_ _=>rfl)))))))),?_⟩
  obtain⟨a,g⟩:∃m:Nat,c/26%6=(m:Int):=⟨_,(GS (GR _ ⋯)).symm⟩;obtain⟨d,v⟩:∃m:Nat,c%26=(m:Int):=⟨_,(GS (GR _ ⋯)).symm⟩;have k:a<6:=by omega
  have r:d<26:=by omega
  walk_at "n";refine h1 _ _ ?_;walk_at "nc";rw[g];refine h1 _ _ ?_;clear h1;walk_at "wp";have z:(1+(m:Int)).toNat=1+m:=by omega
  rw[z];refine⟨⋯,⋯,?_⟩;have j:∀i:Nat,(c%26+(1+2*(a:Int))*(i:Int))%26=(((d+(1+2*a)*i)%26:Nat):Int):=λi=>by
   rw[v];push_cast;rfl
  refine jT (n:=1+m) (f:=λi=>some (V.str ⟨#[97+(d+(1+2*a)*i)%26]⟩)) (λσ=>∃x,σ=[x,some (.str "abcdefghijklmnopqrstuvwxyz"),some (.int c),some (.int (1+2*(a:Int)))]) ⟨_,rfl⟩ ⋯ ?_ ?_
  ·rintro i hi σ C N1 N0 ⟨y,rfl⟩ e u k0
   walk_at "wp";refine⟨.inl ⟨⋯,⋯⟩,nofun,97+(d+(1+2*a)*i)%26,?_,u _ _ _ rfl e ⟨_,rfl⟩⟩;rw[j i];exact bS (wu _ (Nat.mod_lt _ ⋯))
  ·intro C e l p
   rw[uE];have B:(List.range (1+m)).map (λi=>V.str ⟨#[97+(d+(1+2*a)*i)%26]⟩)=aq (cn (rK d a m)):=by
    unfold rK aq cn;rw[Gf,Gf];rfl
   rw[B];have b:=Bb d r a k m o;rw[q0O,q0O]at b;exact q l _ _ (e.free p) af ⟨yL d r a k m o,GN.mp b.1.1,wI b.1.2,by simpa using b.2⟩ (by unfold rK;rw[F3,q0J]) (e.trans (ao p))
theorem wX(r s:GZ):tx r++tx s=tx (r++s):=by
 show(⟨r.toArray++s.toArray⟩:Str)=⟨(r++s).toArray⟩;simp
theorem yw:∀n,n<26->(Str.ofString "ABCDEFGHIJKLMNOPQRSTUVWXYZ").cps.toList[n]?=some (65+n):=by decide +kernel
def z_(c:Nat):Bool:=Bm BO c
theorem xk:∀n,n<26->z_ (65+n)=true:=by decide +kernel
theorem CZ(x:Int):∃n:Nat,n<26/\x%26=(n:Int):=⟨(x%26).toNat,⋯,⋯⟩
theorem og{r:GZ}(h:∀x∈r,z_ x=true)(h1:1<=r.length)(h4:r.length<=4):df r=true:=by
 have a:r.all (Bm BO)=true:=GN.mpr h;unfold df iV;rw[a];simp;omega
abbrev jw:Stmt:=gZ 52
inductive lv(vs:List V)(H:Hp)(Q:VK)(_E:XK):Prop
 |mk (c:Int) (m:Nat) (_:vs=[.int c,.int (1+(m:Int))]) (_:m<4) (_:∀(l:Addr) (p:aD) (H':Hp),H l=none->H' l=some (.lst (aq p))->p.length=1+m->(∀r∈p,df r=true)->aA H H'->Q (.ref l) H')
theorem tP:aF ["_law_cell_here","_law_many","_law_letters","_law_start","_law_step","_law_extra","_law_names_here","_law_k","_law_letter"] ["_law_cell_here","_law_many"] (av jw):=by walk_at "c"
theorem rJ{f:Addr}{fd:G4}(F:dO K "_law_names" "_law_names" jw f fd)(nb:NB mg):bc P w K mg base bx 1 f fd ["_law_cell_here","_law_many"] lv:=by
 have sc:=tP;walk_at "f"
 ·obtain⟨c,m,rfl,m2,q⟩:=h
  refine⟨_,(ae (aJ (i:=2) sc.nd rfl (Or.inr rfl) lg)
   (ae (aJ (i:=3) sc.nd rfl (Or.inr rfl) (ay (bD.m1 bv) (ay (bD.m1 bJ) (aw 0) am) am))
   (ae (q01 4 sc.nd (ay (bD.m0 bo) am (ay (bD.m1 dw) am (ay (bD.m1 bv) (ay (bD.m1 bJ) (aw 0) am) am))))
   (ae (cz (bE pZ (ay (bD.m1 bv) (ay (bD.m1 bJ) (aw 0) am) am) am (b_ _))
   (ag (aO (cO ["_law_k"] [2,3] rfl (bM.of (by kernel_rfl)) (by kernel_rfl) (bV rfl nb.range (ac (aw 1) ad))
    (λ_ _ _ _=>(aE (i:=0) (by show(["_law_k","_law_letters","_law_start"]:List Str).Nodup;decide +kernel) rfl (Or.inl rfl))) (λ_ _ _ _=>cU) (λ_ _ _ _=>(ay uI (cg pH (aw 1) (aw 2) (λ_ _=>rfl)) (ay (bD.m0 bo) am (aw 0)))))))
   bi)
   (ae (q01 5 sc.nd (cg cq (b7 (iN (iN (iN (iN ad))))) (ay (bD.m1 bv) (aw 0) am) (λ_ _=>rfl)))
   (ae (q01 6 sc.nd (b7 ad))
   (ae (ba PassesOwn.never rfl (bV rfl nb.range (ac (aw 1) ad)) (q02 7 sc.nd)
   (ae (q01 8 sc.nd (cg pH (aw 2) (ay (bD.m1 bv) (ay (bD.m0 bo) (aw 3) (ay (bD.m1 dw) (aw 4) (aw 7))) am) (λ_ _=>rfl)))
   (ag (bT (q03 (aw 6) (ac (cg cq (b7 (ac (ay lW (aw 8) (aw 5)) (ac (ay lW (aw 5) (aw 8)) ad))) (ay (bD.m1 bv) (ay (bD.m1 bJ) (aw 0) am) am) (λ_ _=>rfl)) ad))))))
   (ag (aO (aw 6)))))))))),?_⟩
  obtain⟨d,d2,hd⟩:=CZ (c/4);obtain⟨s6,T⟩:∃m:Nat,c/104%6=(m:Int):=⟨_,(GS (GR _ ⋯)).symm⟩;walk_at "n";refine h1 _ _ ?_;walk_at "nc";rw[hd];refine h1 _ _ ?_;walk_at "nc";rw[T];refine h1 _ _ ?_;walk_at "nc";refine pS (λhc=>?_) (λhc=>h1 _ _ ?_)
  ·rw[show(1+(m:Int)).toNat=1+m by omega]
   refine⟨⋯,⋯,?_⟩;refine jT (n:=1+m) (f:=λi=>some (V.str (tx (List.replicate (1+i) [65+d]).flatten))) (λσ=>∃x,σ=[x,some (.str "ABCDEFGHIJKLMNOPQRSTUVWXYZ"),some (.int (d:Int))]) ⟨_,rfl⟩ ⋯ ?_ ?_
   ·rintro i L σ j N1 N0 ⟨y,rfl⟩ D k1 k0
    walk_at "wp";exact⟨nofun,_,bS (yw d d2),[65+d],rfl,1+i,by push_cast;rfl,⋯,⋯,by simp,k1 _ _ _ rfl D ⟨_,rfl⟩⟩
   ·intro j D l hl
    rw[uE];have e0:(List.range (1+m)).map (λi=>V.str (tx (List.replicate (1+i) [65+d]).flatten))=aq ((List.range (1+m)).map λi=>(List.replicate (1+i) [65+d]).flatten):=by
     unfold aq;rw[Gf];rfl
    rw[e0];refine q l _ _ (D.free hl) af (by rw[F3,q0J]) (λr hr=>?_) (D.trans (ao hl));obtain⟨i,L,rfl⟩:=GM.mp hr;have L:=List.mem_range.mp L;refine og (λx a=>?_) (by rw[iS];simp) (by rw[iS];simp;omega);obtain⟨y,hy,a⟩:=List.mem_flatten.mp a;rw[List.eq_of_mem_replicate hy]at a;rw[F4.mp a];exact xk d d2
  ·walk_at "n"
   refine⟨aM nofun,λp1 U=>?_⟩;generalize M:aB H p1 _=H1;obtain⟨s1,e1⟩:=kY U M;obtain⟨b,a1,v,S⟩:∃b:List Nat,nv [V.str (Str.ofString ""),V.str (Str.ofString "Q"),V.str (Str.ofString "ZA"),V.str (Str.ofString "MMX")] (c%4)=some (.str (tx b))/\(∀x∈b,z_ x=true)/\b.length<=3:=by
    rcases(by omega:c%4=0\/c%4=1\/c%4=2\/c%4=3) with h | h | h | h<;>rw[h]
    ·exact⟨[],rfl,(λx a=>nomatch a),nofun⟩
    ·exact⟨[81],rfl,by decide +kernel,nofun⟩
    ·exact⟨[90,65],rfl,by decide +kernel,nofun⟩
    ·exact⟨[77,77,88],rfl,by decide +kernel,nofun⟩
   refine⟨_,aT.of e1,_,a1,h1 _ _ ?_⟩;walk_at "nc";refine⟨Gr _,λu C=>h1 _ _ ?_⟩;clear h1;have s2:=ao (o:=.lst []) C;have e2:aB H1 u (.lst []) u=some (.lst []):=af;have sA:=s1.trans s2;have e:=s1.free C;generalize aB H1 u (.lst [])=H2 at s2 e2 sA ⊢;walk_at "n";rw[show(1+(m:Int)).toNat=1+m by omega];refine⟨⋯,⋯,?_⟩;refine b5 (lo:=0) (n:=1+m) (λi σ j=>aA H j/\(∃p:aD,j u=some (.lst (aq p))/\p.length=i/\∀r∈p,df r=true)/\∃x y,σ=[some (V.int c),some (V.int (1+(m:Int))),some (V.str (Str.ofString "ABCDEFGHIJKLMNOPQRSTUVWXYZ")),some (V.int (d:Int)),some (V.int (1+2*(s6:Int))),some (V.str (tx b)),some (V.ref u),x,y]) ⟨sA,⟨[],e2,rfl,λr hr=>nomatch hr⟩,_,_,rfl⟩ ?_ ?_
   ·rintro i σ j L ⟨k,⟨p,J,G,O⟩,x,y,rfl⟩
    walk_at "n";obtain⟨n,B,Z⟩:=CZ ((d:Int)+(1+2*(s6:Int))*(i:Int));refine⟨.inr ⟨⋯,⋯⟩,nofun,65+n,by rw[Z];exact bS (yw n B),h1 _ _ ?_⟩;clear h1;change uG _ _ _ _;generalize hz:(⟨#[65+n]⟩:Str)=z;walk_at "wp";have R:z=tx [65+n]:=hz.symm;subst R;have hl1:(tx [65+n]).length=1:=rfl;have hl2:(tx b).length<=3:=by rw[aG];exact S
    refine⟨.inl ⟨rfl,_,aT.of J⟩,aM ⋯,aM ⋯,aM nofun,λl3 a0=>?_⟩;generalize M:aB j l3 _=H3;obtain⟨s3,e3⟩:=kY a0 M;obtain⟨I,Y,hn⟩:∃I:List Nat,nv [V.str (tx [65+n]++tx b),V.str (tx b++tx [65+n])] (c/624%2)=some (.str (tx I))/\df I=true:=by
     have g:∀x∈[65+n],z_ x=true:=λx a=>by rw[F4.mp a];exact xk n B
     rcases(by omega:c/624%2=0\/c/624%2=1) with h | h<;>rw[h]
     ·exact⟨[65+n]++b,by rw[<- wX];rfl,og (λx a=>(Gd.mp a).elim (g x) (v x)) (by simp) (by simp;omega)⟩
     ·exact⟨b++[65+n],by rw[<- wX];rfl,og (λx a=>(Gd.mp a).elim (v x) (g x)) (by simp) (by simp;omega)⟩
    refine⟨_,aT.of e3,_,Y,_,s3 _ _ J,by rw[al,G];exact aY ⋯,bG (k.trans s3) e,p++[I],by rw[af,ci],by rw[Gp,G];rfl,λr hr=>?_⟩;rcases Gd.mp hr with h | h
    ·exact O r h
    ·rw[F4.mp h];exact hn
   ·rintro σ j ⟨k,⟨p,J,G,O⟩,x,y,rfl⟩
    refine h1 _ _ ?_;walk_at "wp";exact q u p j e J G O k
theorem wf{tb:Tb}{i:Nat}{kv:List b9×V}(h:(tb.map dW)[i]?=some kv):∃e,tb[i]?=some e/\kv=dW e:=by
 rw[F5]at h;obtain⟨e,a,rfl⟩:=Gv.mp h;exact⟨e,a,rfl⟩
theorem Ad{H:Hp}{d b:Addr}{o:Obj}{tb:Tb}{k:Ky}{v:Int}(nd:(tb.map (·.1)).Nodup)(hd:H d=some (.frz o (.dT (tb.map dW))))(hb:H b=some (.tup (xh k)))(hm:(k,v)∈tb):iJ H d (.ref b) (some (.int v)):=
 .inr ⟨tb.map dW,gC k,b,.inr ⟨o,hd⟩,rfl,hb,by rw[kX,qQ nd hm];rfl⟩
abbrev i':Stmt:=gZ 54
inductive lF(vs:List V)(H:Hp)(Q:VK)(_E:XK):Prop
 |mk (d:Addr) (tb:Tb) (_:vs=[.ref d]) (_:bF H d tb) (_:(tb.map (·.1)).Nodup) (_:∀H',aA H H'->Q (.bl true) H')
theorem sG:aF ["_law_told","_law_key"] ["_law_told"] (av i'):=by walk_at "c"
theorem sT{f:Addr}{fd:G4}(F:dO K "_law_table" "_law_table" i' f fd)(nb:NB mg)(zQa:eX P w K mg base bx 1 "_law_whole" ["_law_x"] kE):bc P w K mg base bx 2 f fd ["_law_told"] lF:=by
 have sc:=sG;walk_at "f"
 ·obtain⟨d,tb,rfl,m,nd,q⟩:=h
  have r:=hr.units;refine⟨_,(ae (cz (dN (dL (aN bn rfl nb.isinstance bz (ac (aw 0) (ac (gW (v:=.ty "dict") rfl nb.dict Ab rfl) ad))) λ_=>rfl))
   (ag (aO hZ))
   bi)
   (ae (yK (ba PassesOwn.never rfl (Cz (aw 0)) (q02 1 sc.nd)
   (ae (cz (PW.pt (lM (dN (dL (aN bn rfl nb.isinstance bz (ac (aw 1) (ac (gW (v:=.ty "tuple") rfl nb.tuple wj rfl) ad))) λ_=>rfl)) (lM (bE Aj (aN u7 rfl nb.len cy (ac (aw 1) ad)) am (b_ _)) (lc (dN (dL (aH zQa (hr.mono nofun) rfl aL (ac (kq (GK (GO (by decide:1<=64) _) r) (aw 0) (aw 1) (λ_ _=>rfl)) ad)) λ_=>rfl))))))
   (ag (aO hZ))
   bi)
   (ag (cz (PW.pt (lM (dN (dL (aN bn rfl nb.isinstance bz (ac (cg eB (aw 1) am (λ_ _=>rfl)) (ac (gW (v:=.ty "str") rfl nb.str ya rfl) ad))) λ_=>rfl)) (lc (dN (dL (aN bn rfl nb.isinstance bz (ac (cg eB (aw 1) am (λ_ _=>rfl)) (ac (gW (v:=.ty "str") rfl nb.str ya rfl) ad))) λ_=>rfl)))))
   (ag (aO hZ))
   bi)))))
   (ag (aO hZ)))),?_⟩
  walk_at "n";refine⟨_,.dT m,_,gB K "dict",?_⟩;rw[q06 nofun];refine h1 _ _ ?_;walk_at "nc";refine⟨tb.map dW,.inl ⟨m,λo=>?_⟩⟩;have g:aS d H (aB H d (.frz o (.dT (tb.map dW)))):=(aS.of λ_ _ h=>h).put;have n:aB H d (.frz o (.dT (tb.map dW))) d=some (.frz o (.dT (tb.map dW))):=af;generalize aB H d (.frz o (.dT (tb.map dW)))=H1 at g n ⊢;refine Ac (λi σ l=>aA H1 l/\∃x,σ=[some (V.ref d),x]) ⟨λ_ _ h=>h,_,rfl⟩ (λi σ l _ h=>h.1 _ _ n) ?_ ?_
  ·rintro i b kv σ l p k ⟨j,x,rfl⟩
   obtain⟨e,z,rfl⟩:=wf p;have a:l b=some (.tup (xh e.1)):=k;have y:=Ad nd (j _ _ n) a (F6 z);walk_at "n";refine⟨_,.tup a,_,gB K "tuple",?_⟩;rw[q06 nofun];refine⟨_,jv.of a,?_⟩;rw[q06 (by intro h;exact h rfl)];refine⟨_,y,_,rfl,true,rfl,?_⟩;rw[q06 nofun];refine h1 _ _ ?_;clear h1;walk_at "wp";refine⟨_,jv.of a,_,rfl,_,.str _,_,gB K "str",?_⟩;rw[q06 nofun];refine⟨_,jv.of a,_,rfl,_,.str _,_,gB K "str",?_⟩;rw[q06 nofun];exact j
  ·rintro σ l ⟨j,x,rfl⟩
   refine⟨d,o,_,j _ _ n,λo u e=>?_,?_⟩
   ·have e:H d=_:=e
    rw[show H d=_ from m]at e;cases e
   refine h1 _ _ ?_;walk_at "wp";refine q _ (λb u k=>?_)
   by_cases c:b=d
   ·subst c
    rw[af];rw[show H b=_ from m]at k;exact k
   ·rw[ai c];exact j _ _ (g b u c k)
theorem k9(r:GZ):(cn r).flatten=r:=by
 induction r with
 |nil=>rfl
 |cons c r ih=>show c::(cn r).flatten=_;rw[ih]
theorem p8{p:aD}(h:p≠[])(z:Int):∃nm,nm∈p/\nv (aq p) (z%((aq p).length:Int))=some (V.str (tx nm)):=by
 have hl:0<p.length:=List.length_pos_iff.mpr h;obtain⟨j,b⟩:∃j:Nat,z%((aq p).length:Int)=(j:Int):=⟨_,(GS (GR _ (by rw[al];omega))).symm⟩;have a:j<p.length:=by
  have:=Int.emod_lt_of_pos z (show(0:Int)<((aq p).length:Int) by rw[al];omega);rw[al]at this b;omega
 rw[b];exact⟨p[j],F_ _,bS (bW a)⟩
theorem qL{r:GZ}(h:r≠[])(z:Int):∃g,g∈r/\nv (aq (cn r)) (z%((aq (cn r)).length:Int))=some (V.str (tx [g])):=by
 obtain⟨nm,a,e⟩:=p8 (p:=cn r) (by unfold cn;simpa using h) z;obtain⟨g,b,rfl⟩:=GM.mp a;exact⟨g,b,e⟩
structure Dw(p:aD)(a b:Nat):Prop where
 rc:rect p a b
 a1:1<=a
 a6:a<=6
 b1:1<=b
 b6:b<=6
abbrev gD:Stmt:=gZ 55
inductive iY(K:W.Frag)(vs:List V)(H:Hp)(Q:VK)(_E:XK):Prop
 |mk (ls la:Addr) (ns:List Int) (r:GZ) (_:vs=[.ref ls,.ref la]) (_:aT K H ls (ns.map V.int)) (_:H la=some (.lst (aq (cn r)))) (_:1<=r.length) (_:r.length<=8) (_:∀(l:Addr) (p:aD) (a b:Nat) (H':Hp),H l=none->H' l=some (.lst (aq p))->Dw p a b->(∀row∈p,∀x∈row,x∈r)->aA H H'->Q (.ref l) H')
theorem pf:aF ["_law_script","_law_signs_here","_law_rows","_law_columns","_law_picture_here","_law_i"] ["_law_script","_law_signs_here"] (av gD):=by walk_at "c"
theorem nV{f:Addr}{fd:G4}(F:dO K "_law_picture" "_law_picture" gD f fd)(nb:NB mg)(zda:eX P w K mg base bx 1 "_law_cell" ["_law_script","_law_k"] (jb K)):bc P w K mg base bx 2 f fd ["_law_script","_law_signs_here"] (iY K):=by
 have sc:=pf;walk_at "f"
 ·obtain⟨u,la,ns,r,rfl,C,M,r1,r8,q⟩:=h
  have hu:=hr.units;have a3:(aq (cn r)).length=r.length:=by rw[al];unfold cn;rw[F3]
  have r0:r≠[]:=λe=>by rw[e]at r1;simp at r1
  refine⟨_,(ae (q01 2 sc.nd (ay (bD.m0 bo) am (ay (bD.m1 bv) (aH zda (hr.mono nofun) rfl aL (ac (aw 0) (cF ad))) am)))
   (ae (q01 3 sc.nd (ay (bD.m0 bo) am (ay (bD.m1 bv) (ay (bD.m1 bJ) (aH zda (hr.mono nofun) rfl aL (ac (aw 0) (cF ad))) am) am)))
   (ae (cz (bE pZ (ay (bD.m1 bv) (ay (bD.m1 bJ) (aH zda (hr.mono nofun) rfl aL (ac (aw 0) (cF ad))) am) am) am (b_ _))
   (ag (aO (ay AM (b7 (ac (ay uI (cg cq (aw 1) am (λ_ _=>rfl)) (ay (bD.m0 bo) am (ay (bD.m1 bv) (ay (bD.m1 bJ) (aH zda (hr.mono nofun) rfl aL (ac (aw 0) (cF ad))) am) am))) ad)) (ay (bD.m0 bo) am (ay (bD.m1 bv) (ay (bD.m1 bJ) (aH zda (hr.mono nofun) rfl aL (ac (aw 0) (cF ad))) am) am)))))
   bi)
   (ae (q01 4 sc.nd (b7 ad))
   (ae (ba PassesOwn.never rfl (bV rfl nb.range (ac (aw 2) ad)) (aE (i:=5) sc.nd rfl (Or.inr rfl))
   (ag (bT (q03 (aw 4) (ac (@qm _ _ _ _ _ _ _ _ (ac (cO ["_law_k"] [1,0,5] rfl (bM.of (by kernel_rfl)) (by kernel_rfl) (bV rfl nb.range (ac (aw 3) ad))
    (λ_ _ _ _=>(aE (i:=0) (by show(["_law_k","_law_signs_here","_law_script","_law_i"]:List Str).Nodup;decide +kernel) rfl (Or.inl rfl))) (λ_ _ _ _=>cU) (λ_ _ _ _=>(cg (wV (K:=K) rfl) (aw 1) (ay (bD.m1 bv) (aH zda (hr.mono nofun) rfl aL (ac (aw 2) (ac (ay (bD.m0 bo) (ay (bD.m0 bo) am (ay (bD.m1 dw) (aw 3) am)) (aw 0)) ad))) (aN (rC (K:=K) rfl) rfl nb.len cy (ac (aw 1) ad))) (λ_ _=>rfl)))) ad) rfl rfl) ad)))))
   (ag (aO (aw 4)))))))),?_⟩
  obtain⟨a,ha⟩:∃a:Nat,1+dh ns 1%3=(a:Int):=⟨_,(GS ⋯).symm⟩;obtain⟨b,hb⟩:∃b:Nat,1+dh ns 1/3%3=(b:Int):=⟨_,(GS ⋯).symm⟩;walk_at "n";refine⟨u,ns,1,rfl,C,⋯,_,rfl,h1 _ _ ?_⟩;walk_at "nc";refine⟨u,ns,1,rfl,C,⋯,_,rfl,h1 _ _ ?_⟩;clear h1;rw[ha,hb];obtain⟨Z,a5,a8⟩:∃g,g∈r/\nv (aq (cn r)) 0=some (V.str (tx [g])):=by
   cases r with
   |nil=>exact q0Q rfl r0
   |cons g r=>exact⟨g,q0B ..,(show nv _ ((0:Nat):Int)=_ from bS rfl)⟩
  walk_at "n";refine⟨u,ns,1,rfl,C,⋯,_,rfl,pS (λ_=>?_) (λ_=>h1 _ _ ?_)⟩
  ·obtain⟨S,a6⟩:∃b:Nat,1+dh ns 1/36%6=(b:Int):=⟨_,(GS ⋯).symm⟩
   obtain⟨a2,R⟩:∃a:Nat,1+dh ns 1/216%6=(a:Int):=⟨_,(GS ⋯).symm⟩;refine⟨_,aT.of M,_,a8,u,ns,1,rfl,C,⋯,_,rfl,[Z],rfl,S,a6,⋯,⋯,by simp,aM nofun,λp1 L=>⟨u,ns,1,rfl,(ao L).seq C,⋯,_,rfl,_,af,⋯,⋯,?_,λp2 J=>?_⟩⟩
   ·rw[R];simp;exact aM ⋯
   ·have e:(List.replicate (1+dh ns 1/216%6).toNat [V.str (tx (List.replicate S [Z]).flatten)]).flatten=aq (List.replicate a2 (List.replicate S [Z]).flatten):=by
     rw[R,F'];unfold aq;rw[List.map_replicate];simp
    rw[e];have U:=ao (o:=.lst [V.str (tx (List.replicate S [Z]).flatten)]) L;refine q p2 _ a2 S _ (U.free J) af ⟨⟨List.length_replicate,λx j=>?_⟩,⋯,⋯,⋯,⋯⟩ (λd G x j=>?_) (U.trans (ao J))
    ·rw[List.eq_of_mem_replicate j,iS];simp
    ·rw[List.eq_of_mem_replicate G]at j
     obtain⟨y,v,j⟩:=List.mem_flatten.mp j;rw[List.eq_of_mem_replicate v]at j;rw[F4.mp j];exact a5
  ·walk_at "nc"
   refine⟨Gr _,λl hl=>h1 _ _ ?_⟩;clear h1;generalize z0:aB H l _=H1;obtain⟨U,e1⟩:=kY hl z0;walk_at "n";refine⟨⋯,⋯,?_⟩;rw[F'];refine b5 (lo:=0) (n:=a) (λi σ T=>aA H T/\(∃p:aD,T l=some (.lst (aq p))/\rect p i b/\∀d∈p,∀x∈d,x∈r)/\∃x,σ=[some (V.ref u),some (V.ref la),some (V.int (a:Int)),some (V.int (b:Int)),some (V.ref l),x]) ⟨U,⟨[],e1,⟨rfl,(λx j=>nomatch j)⟩,λd hr=>nomatch hr⟩,_,rfl⟩ ?_ ?_
   ·rintro i σ T hi ⟨D,⟨p,Y,m,z⟩,x,rfl⟩
    have a7:=D.seq C;walk_at "wp";refine⟨.inl ⟨rfl,_,aT.of Y⟩,rfl,⋯,⋯,?_⟩;rw[F'];refine jQ (n:=b) (emb:=λc=>V.str (tx [c])) (·∈r) (λσ=>∃x,σ=[x,some (.ref la),some (.ref u),some (.int (i:Int))]) ⟨_,rfl⟩ ⋯ ?_ ?_
    ·rintro k hk σ H2 M1 M0 ⟨y,rfl⟩ B k1
     walk_at "wp";obtain⟨g,hg,eg⟩:=qL r0 (dh ns (3+i*3+k));have O:=(D.trans B) _ _ M;exact⟨u,ns,3+i*3+k,by push_cast;rfl,B.seq a7,⋯,_,aT.of O,_,rfl,by rw[a3];omega,_,aT.of O,_,eg,k1 g _ _ hg B ⟨_,rfl⟩⟩
    ·intro d H2 a0 v B l5 a4
     have e:d.map (λc=>V.str (tx [c]))=aq (cn d):=by unfold aq cn;rw[Gf];rfl
     rw[e];generalize z1:aB H2 l5 _=H3;obtain⟨s3,e3⟩:=kY a4 z1;have a1:=(B.trans s3) _ _ Y;have I:=m.1;refine⟨(cn d).map tx,.inl (by rw[<- dg];exact aT.of e3),?_,_,a1,by rw[al,I];exact aY ⋯,bG (D.trans (B.trans s3)) hl,p++[d],by rw[af,QL.join_nil,k9,ci],⟨by rw[Gp,I];rfl,λy v=>?_⟩,λy v=>?_⟩
     ·have g1:=fo (p:=cn d) (n:=1) λy v=>by
       obtain⟨c,_,rfl⟩:=GM.mp v;exact Gq _
      have g2:(cn d).length=d.length:=by unfold cn;rw[F3]
      have e0:(Str.ofString "").length=0:=rfl;rw[e0,Nat.mul_zero];omega
     ·rcases Gd.mp v with h | h
      ·exact m.2 y h
      ·rw[F4.mp h];exact a0
     ·rcases Gd.mp v with h | h
      ·exact z y h
      ·rw[F4.mp h];assumption
   ·rintro σ T ⟨D,⟨p,Y,m,z⟩,x,rfl⟩
    refine h1 _ _ ?_;walk_at "wp";exact q l p a b T hl Y ⟨m,⋯,⋯,⋯,⋯⟩ z D
theorem zU{p:aD}{sg st:GZ}{rs:Yaa}(hst:st∈p)(hr:∀r∈rs,qz p sg r):∃nms:List (List Nat),(bA (tx st) rs).map (·.1)=nms.map tx/\(∀x∈rs,x.2.n∈nms)/\nms.length<=p.length/\∀n∈nms,n∈p:=by
 have o:∀z∈(bA (tx st) rs).map (·.1),z∈p.map tx:=λz a=>by
  rcases(iH _ _ _).mp a with e | ⟨q,j,e⟩
  ·rw[e];exact List.mem_map_of_mem hst
  ·unfold BY at j
   obtain⟨r,d,rfl⟩:=GM.mp j;have R:=hr r d;rcases e with e | e
   ·rw[e];exact List.mem_map_of_mem R.n
   ·obtain⟨y,b,rfl⟩:=GM.mp e
    refine List.mem_map_of_mem ?_;obtain⟨k,v⟩:=r;have w:y=v.o1\/y=v.o2:=by
     rcases ki R.good.k4 with rfl | rfl | rfl | rfl
     ·exact q0Q b List.not_mem_nil
     ·simpa[bK]using b
     ·simpa[bK]using b
     ·exact .inl (by simpa[bK]using b)
    rcases w with rfl | rfl
    ·exact R.o1
    ·exact R.o2
 have g:=(jH (tx st) _ rs rfl).nd;have i:∀x∈rs,tx x.2.n∈(bA (tx st) rs).map (·.1):=λx c=>(iH _ _ _).mpr (.inr ⟨_,List.mem_map_of_mem c,.inl rfl⟩);have l:=ThM.nd_len g o;rw[F3 (as:=p)]at l;generalize(bA (tx st) rs).map (·.1)=ks at *;have u:∀z∈ks,tx z.cps.toList=z/\z.cps.toList∈p:=λz a=>by
  obtain⟨m,B,rfl⟩:=GM.mp (o z a);rw[c_];exact⟨rfl,B⟩
 refine⟨ks.map λz=>z.cps.toList,?_,λx c=>GM.mpr ⟨_,i x c,c_ _⟩,by rw[F3];exact l,λn g=>?_⟩
 ·rw[Gf]
  exact((q0K (λz a=>(u z a).1)).trans (List.map_id' ks)).symm
 ·obtain⟨z,a,rfl⟩:=GM.mp g
  exact(u z a).2
def yH(z:Nat)(p:aD):Prop:=∀row∈p,z∉row
theorem vq{z:Nat}{p:aD}(h:yH z p):yH z (mirror p):=by
 intro row hr;obtain⟨x,a,rfl⟩:=GM.mp hr;rw[List.mem_reverse];exact h x a
theorem sL{z:Nat}{p:aD}{r c:Nat}(hp:rect p r c)(hr:0<r)(h:yH z p):yH z (aP p):=by
 intro row a;unfold aP at a;rw[aW hp hr]at a;obtain⟨i,d,rfl⟩:=GM.mp a;have d:=List.mem_range.mp d;intro g;obtain⟨x,j,e⟩:=GM.mp g;have b:=List.mem_reverse.mp j;have hl:=hp.2 x b;rw[q0A,FZ ⋯,q0L]at e;exact h x b (e▸F_ _)
theorem gJ{z:Nat}:∀(n:Nat) {p:aD} {r c:Nat},rect p r c->0<r->0<c->yH z p->yH z (aK n p)
 |0,_,_,_,_,_,_,h=>h
 |n+1,p,r,c,hp,hr,hc,h=>by
  have e:aK (n+1) p=aP (aK n p):=(bX 1 n p).symm;rw[e];have hq:=cr n hp hr hc;refine sL hq ?_ (gJ n hp hr hc h)
  split<;>assumption
theorem zV{z:Nat}{p q:aD}{r c:Nat}(hp:rect p r c)(h:yH z p)(hs:bh p r c q):yH z q:=by
 obtain⟨t,l,b,x,u,h1,h2,j,i,h5,rfl⟩:=hs;have e:=bP hp h1 h2 j i;have d:yH z (cut p t l b x):=by
  intro row hr;obtain⟨y,g,rfl⟩:=GM.mp hr;exact λa=>h y (q0I (q0H g)) (q0I (q0H a))
 unfold turned
 split
 ·exact gJ _ (bC e) ⋯ ⋯ (vq d)
 ·exact gJ _ e ⋯ ⋯ d
theorem vf{p:aD}{r c g:Nat}(hp:rect p r c)(hg:∃row∈p,g∈row):bh p r c [[g]]:=by
 obtain⟨row,a,hg⟩:=hg;obtain⟨i,k⟩:=List.getElem?_of_mem a;obtain⟨j,e⟩:=List.getElem?_of_mem hg;have d:=(F0.mp k).1;have b:=(F0.mp e).1;have hr:=hp.1;have hc:=hp.2 row a;refine⟨i,j,i+1,j+1,0,⋯,⋯,⋯,⋯,nofun,?_⟩;rw[jV];unfold cut;rw[show i+1-i=1 by omega,show j+1-j=1 by omega];have m:(p.drop i).take 1=[row]:=by
  rw[q0T d];rw[FZ d]at k;cases k;rfl
 have l:(row.drop j).take 1=[g]:=by
  rw[q0T b];rw[FZ b]at e;cases e;rfl
 rw[m,List.map_singleton,l]
structure Due(rs:Yaa)(p:aD)(D:Tb):Prop where
 nd:(D.map (·.1)).Nodup
 snd:∀k v,az D k=some v->(∃x∈rs,∃g,x.2.sg=[g]/\k=([g],x.2.n)/\x.2.c=v/\∃row∈p,g∈row)/\∀x∈rs,k=(x.2.sg,x.2.n)->v<=x.2.c
 cmp:∀x∈rs,∀g,x.2.sg=[g]->(∃row∈p,g∈row)->∃v,az D ([g],x.2.n)=some v
theorem Due.table{rs:Yaa}{nms:List (List Nat)}{p:aD}{a b:Nat}{tb D:Tb}(E:kg rs nms p a b)(h0:∀x∈rs,x.1=0)(hsg:∀x∈rs,∃g,x.2.sg=[g])(h:yP rs nms p a b tb)(d:Due rs p D)(k:Ky):az tb k=az D k:=by
 have low:∀{k v},az D k=some v->∃o,o<=v/\az tb k=some o:=fun{k v} e=>by
  obtain⟨⟨x,i,g,u,rfl,rfl,r⟩,_⟩:=d.snd k v e;have G:=vf E.hp r;have l:[]∈bu x [[g]]:=by
   unfold bu;rw[h0 x i];show[]∈(if bd [[g]]=x.2.sg then[[]] else[]);rw[q07 (by rw[u];rfl)];simp
  exact h.clo _ G x i [] l x.2.c rfl
 have up:∀{k v},az tb k=some v->∃o,o<=v/\az D k=some o:=fun{k v} e=>by
  obtain⟨⟨q,S,O⟩,_,hd,_⟩:=h.key k v e;have B:=fu E.hp E.ns S;have R:∀{x:Nat×RV} {q':aD} {k1:Ky} {w:List Ky},x∈rs->¬ (k1::w)∈bu x q':=fun{x q' k1 w} i l=>by
   have j:(k1::w)∈(if bd q'=x.2.sg then[([]:List Ky)] else[]):=by
    unfold bu at l;rw[h0 x i]at l;exact l
   split at j
   ·exact nomatch F4.mp j
   ·exact nomatch j
  cases hd with
  | @leaf x q' i ho l=>
   have O:bd q'=bd q:=O;have eq:=B.inj ho O.symm;subst eq;have j:[]∈(if bd q=x.2.sg then[([]:List Ky)] else[]):=by
    unfold bu at l;rw[h0 x i]at l;exact l
   by_cases J:bd q=x.2.sg
   ·obtain⟨g,u⟩:=hsg x i
    have L:g≠47:=λe=>by
     have G:=(E.gd x i).good.sg;rw[u,e]at G;exact q0Q G (by decide +kernel)
    have M:q=[[g]]:=B.inj ⟨by simp,λm z=>by rw[F4.mp z];exact λh=>L (F4.mp h).symm⟩ (by rw[J,u];rfl);have r:∃m∈p,g∈m:=by
     refine Classical.byContradiction λZ=>?_;have I:yH g p:=λm hr I=>Z ⟨m,hr,I⟩;have:=zV E.hp I S;rw[M]at this;exact this [g] (by simp) (by simp)
    obtain⟨o,y⟩:=d.cmp x i g u r;have hk:(bd q,x.2.n)=([g],x.2.n):=by rw[J,u]
    rw[hk];exact⟨o,(d.snd _ _ y).2 x i (by rw[u]),y⟩
   ·rw[q06 J]at j;exact nomatch j
  |one i ho l _=>exact q0Q l (R i)
  |two i ho l _ _=>exact q0Q l (R i)
 cases e:az D k with
 |some v=>
  obtain⟨o,Y,y⟩:=low e;obtain⟨T,U,C⟩:=up y;rw[e]at C;cases C
  rw[y,Int.le_antisymm Y U]
 |none=>
  cases y:az tb k with
  |none=>rfl
  |some v=>
   obtain⟨T,_,C⟩:=up y;rw[e]at C;cases C
theorem Due.nil(p:aD):Due [] p []:=⟨by simp,λk v h=>(by cases h),λx hx=>nomatch hx⟩
theorem Due.skip{rs:Yaa}{p:aD}{D:Tb}{x:Nat×RV}{g:Nat}(d:Due rs p D)(hx:x.2.sg=[g])(hn:¬ ∃row∈p,g∈row):Due (rs++[x]) p D:=by
 refine⟨d.nd,λk v e=>?_,λz j m i a=>?_⟩
 ·obtain⟨⟨y,o,m,q,n,r,l⟩,c⟩:=d.snd k v e
  refine⟨⟨y,q0D _ o,m,q,n,r,l⟩,λz j b=>?_⟩;rcases Gd.mp j with h | h
  ·exact c z h b
  ·rw[F4.mp h,hx,n]at b
   injection b with e1 _
   injection e1 with e1 _
   rw[e1]at l;exact q0Q l hn
 ·rcases Gd.mp j with h | h
  ·exact d.cmp z h m i a
  ·rw[F4.mp h,hx]at i
   injection i with i _
   rw[<- i]at a;exact q0Q a hn
theorem Due.put{rs:Yaa}{p:aD}{D:Tb}{x:Nat×RV}{g:Nat}{v:Int}(d:Due rs p D)(hx:x.2.sg=[g])(hg:∃row∈p,g∈row)(hv:v=if x.2.c<=(az D ([g],x.2.n)).getD 9 then x.2.c else(az D ([g],x.2.n)).getD 9)(c9:x.2.c<=9):Due (rs++[x]) p (jY D ([g],x.2.n) v):=by
 refine⟨uB d.nd,λk J e=>?_,λz j o m w=>?_⟩
 ·by_cases i:k=([g],x.2.n)
  ·subst i
   rw[fL,q07 rfl]at e;cases e;cases h:az D ([g],x.2.n) with
   |none=>
    rw[h]at hv;have hv:v=x.2.c:=by rw[hv];exact q07 c9
    refine⟨⟨x,by simp,g,hx,rfl,hv.symm,hg⟩,λz j a=>?_⟩;rcases Gd.mp j with h1 | h1
    ·have m:z.2.sg=[g]:=(Prod.ext_iff.mp a).1.symm
     have L:x.2.n=z.2.n:=(Prod.ext_iff.mp a).2;obtain⟨u,q⟩:=d.cmp z h1 g m hg;rw[<- L,h]at q;cases q
    ·rw[F4.mp h1,hv];exact Int.le_refl _
   |some u=>
    rw[h]at hv;obtain⟨⟨y,r,o,C,B,G,l⟩,b⟩:=d.snd _ _ h;have low:∀z∈rs++[x],([g],x.2.n)=(z.2.sg,z.2.n)->v<=z.2.c:=λz j a=>by
     rcases Gd.mp j with h1 | h1
     ·have:=b z h1 a
      rw[hv];show(if x.2.c<=u then x.2.c else u)<=_
      split<;>omega
     ·rw[F4.mp h1,hv]
      show(if x.2.c<=u then x.2.c else u)<=_
      split<;>omega
    by_cases I:x.2.c<=u
    ·exact⟨⟨x,by simp,g,hx,rfl,by rw[hv];exact(q07 I).symm,hg⟩,low⟩
    ·exact⟨⟨y,q0D _ r,o,C,B,by rw[hv,G];exact(q06 I).symm,l⟩,low⟩
  ·rw[fL,q06 i]at e
   obtain⟨⟨y,r,o,C,B,G,l⟩,b⟩:=d.snd k J e;refine⟨⟨y,q0D _ r,o,C,B,G,l⟩,λz j a=>?_⟩;rcases Gd.mp j with h | h
   ·exact b z h a
   ·rw[F4.mp h,hx]at a
    exact q0Q a i
 ·by_cases i:([o],z.2.n)=([g],x.2.n)
  ·exact⟨v,by rw[fL,q07 i]⟩
  ·rcases Gd.mp j with h | h
   ·obtain⟨u,q⟩:=d.cmp z h o m w
    exact⟨u,by rw[fL,q06 i];exact q⟩
   ·rw[F4.mp h,hx]at m
    injection m with m _
    rw[F4.mp h,<- m]at i;exact q0Q rfl i
theorem xw{α:Type}[DecidableEq α]:∀{ks ms:List α},ks.Nodup->(∀z∈ks,z∈ms)->ks.length<=ms.length
 | [],ms,_,_=>Gr _
 |k::ks,ms,nd,h=>by
  have hk:=h k q0B;rw[List.nodup_cons]at nd;have:=xw (ks:=ks) (ms:=ms.erase k) nd.2 (λz hz=>(List.mem_erase_of_ne (λe:z=k=>nd.1 (by rw[<- e];exact hz))).mpr (h z (Gh _ hz)));rw[List.length_erase_of_mem hk]at this;have:=List.length_pos_of_mem hk;rw[Gb];omega
theorem yu{H:Hp}{a b:Addr}{tb tb':Tb}(ha:Rd H a (.dT (tb.map dW)))(hb:Rd H b (.dT (tb'.map dW)))(n1:(tb.map (·.1)).Nodup)(n2:(tb'.map (·.1)).Nodup)(h:∀k,az tb k=az tb' k):C9 H a b (tb.map dW) (tb'.map dW):=by
 have c:∀{t1 t2:Tb},(t1.map (·.1)).Nodup->(∀k,az t1 k=az t2 k)->∀e∈t1,e∈t2:=fun{t1 t2} nd he e d=>by
  have:=qQ nd (k:=e.1) (v:=e.2) d;rw[he]at this;exact yC this
 have len:∀{t1 t2:Tb},(t1.map (·.1)).Nodup->(∀k,az t1 k=az t2 k)->t1.length<=t2.length:=fun{t1 t2} nd he=>by
  have:=xw nd (ms:=t2.map (·.1)) λz g=>by
   obtain⟨e,d,rfl⟩:=GM.mp g;exact List.mem_map_of_mem (c nd he e d)
  rw[F3,F3]at this;exact this
 refine⟨ha,hb,by rw[F3,F3];exact Nat.le_antisymm (len n1 h) (len n2 λk=>(h k).symm),λi k v e=>?_⟩;rw[F5]at e;obtain⟨x,l,n⟩:=Gv.mp e;cases n;obtain⟨j,m⟩:=List.getElem?_of_mem (c n1 h x (F6 l));exact⟨rfl,j,by rw[F5,m];rfl⟩
theorem zO(l:GZ)(c:Nat):Bm (tx l) c=true↔c∈l:=by
 unfold Bm;rcases StrLaws.occ_head (tx l) ⟨#[c]⟩ 1 (Gq _) with⟨d,j⟩ | ⟨i,r,d,g,_⟩
 ·rw[d]
  refine⟨λh=>by simp at h,λk=>?_⟩;obtain⟨a,b,e⟩:=List.append_of_mem k;exfalso;refine j a.length ⟨?_,?_⟩
  ·show a.length+1<=(tx l).length
   rw[aG,e];simp
  ·refine(PtM.sub_iff l [c] a.length (by rw[e];simp)).mpr ?_
   rw[e];simp
 ·rw[d]
  refine⟨λ_=>?_,λ_=>by simp⟩;have m:i+1<=l.length:=by have:=g.1;rw[aG]at this;exact this
  have:=(PtM.sub_iff l [c] i m).mp g.2;rw[this];simp
theorem aV.snoc20{R:RC}{H:Hp}{as:G2}{rs:Yaa}{b:Addr}{r:Nat×RV}(h:aV R H as rs)(hb:fg R H r.1 b r.2):aV R H (as++[b]) (rs++[r]):=by
 refine⟨by rw[Gp,Gp,h.1];rfl,λi a x c d=>?_⟩
 by_cases e:i<as.length
 ·rw[Go e]at c
  rw[Go (by rw[<- h.1];exact e)]at d;exact h.2 i a x c d
 ·have g:=(F0.mp c).1
  rw[Gp,q0Z]at g;have hh:=h.1;rw[Gn ⋯,show i-as.length=0 by omega]at c;rw[Gn ⋯,show i-rs.length=0 by omega]at d;cases c;cases d
  exact hb
theorem aV.put20{R:RC}{H:Hp}{lr:Addr}{bs:G2}{o:HO}{as:G2}{rs:Yaa}(h:aV R H as rs)(hl:H lr=some (.lst (bs.map V.ref)))(hx:as=[]\/∃b,b∈bs):aV R (aB H lr o) as rs:=by
 refine⟨h.1,λi a r c g=>?_⟩;obtain⟨j,l,h1,h2⟩:=h.2 i a r c g;refine⟨j,l,by rw[ai (λz=>by rw[z,hl]at h1;cases h1)];exact h1,?_⟩;rw[ai (λz=>?_)]
 ·exact h2
 ·rw[z,hl]at h2
  injection h2 with h2
  injection h2 with h2
  rcases hx with hx | ⟨b,d⟩
  ·rw[hx]at c;simp at c
  ·have:V.ref b∈aq (bK r.1 r.2):=by rw[<- h2];exact GM.mpr ⟨b,d,rfl⟩
   unfold aq at this;obtain⟨y,_,e⟩:=GM.mp this;cases e
abbrev mZ:Stmt:=gZ 56
inductive oK(K:W.Frag)(vs:List V)(H:Hp)(Q:VK)(_E:XK):Prop
 |mk (a:Addr) (ns:List Int) (_:vs=[.ref a]) (_:aT K H a (ns.map V.int)) (_:∀H',Q (.bl true) H')
theorem Bj:aF ["_law_script","_law_signs_here","_law_names_here","_law_picture_here","_law_rules","_law_due","_law_cell_here","_law_sign","_law_name","_law_cost","_law_grammar","_law_handed","_law_found"] ["_law_script"] (av mZ):=by walk_at "c"
theorem AV{R:RC}{f CG:Addr}{fd:G4}(F:dO K "law" "law" mZ f fd)(nb:NB mg)(rk:je K R)(gk:Ee K CG)(zda:eX P w K mg base bx 1 "_law_cell" ["_law_script","_law_k"] (jb K))(zRa:eX P w K mg base bx 1 "_law_signs" ["_law_cell_here","_law_many"] lE)(zSa:eX P w K mg base bx 1 "_law_names" ["_law_cell_here","_law_many"] lv)(zTa:eX P w K mg base bx 2 "_law_table" ["_law_told"] lF)(zGa:eX P w K mg base bx 2 "_law_picture" ["_law_script","_law_signs_here"] (iY K))(yaj:eX P w K mg base bx 10 "table_of" ["grammar","picture"] (jW K R CG))(zHa:rM P w K mg base bx 4 "CellRule" R.cc ["self","name","cost","sign"] (fZ K))(zMa:rM P w K mg base bx 4 "Grammar" CG ["self","signs","start","rules"] (fU K R)):bc P w K mg base bx 11 f fd ["_law_script"] (oK K):=by
 have sc:=Bj;walk_at "f"
 ·obtain⟨a,ns,rfl,hS,q⟩:=h
  have hu:=hr.units;refine⟨_,(ae (q01 1 sc.nd (aH zRa (hr.mono nofun) rfl aL (ac (aH zda (hr.mono nofun) rfl aL (ac (aw 0) (cF ad))) (ac (ay (bD.m0 bo) am (ay (bD.m1 bv) (ay (bD.m1 bJ) (aH zda (hr.mono nofun) rfl aL (ac (aw 0) (cF ad))) am) am)) ad))))
   (ae (q01 2 sc.nd (aH zSa (hr.mono nofun) rfl aL (ac (aH zda (hr.mono nofun) rfl aL (ac (aw 0) (cF ad))) (ac (ay (bD.m0 bo) am (ay (bD.m1 bv) (ay (bD.m1 bJ) (aH zda (hr.mono nofun) rfl aL (ac (aw 0) (cF ad))) am) am)) ad))))
   (ae (q01 3 sc.nd (aH zGa (hr.mono nofun) rfl aL (ac (aw 0) (ac (aw 1) ad))))
   (ae (q01 4 sc.nd (b7 ad))
   (ae (q01 5 sc.nd qo)
   (ae (ba PassesOwn.never rfl (bL (cO ["_law_k"] [0] rfl (bM.of (by kernel_rfl)) (by kernel_rfl) (bV rfl nb.range (ac (ay (bD.m1 bv) (aH zda (hr.mono nofun) rfl aL (ac (aw 0) (cF ad))) am) ad))
    (λ_ _ _ _=>(aE (i:=0) (by show(["_law_k","_law_script"]:List Str).Nodup;decide +kernel) rfl (Or.inl rfl))) (λ_ _ _ _=>cU) (λ_ _ _ _=>(aH zda (hr.mono nofun) rfl aL (ac (aw 1) (ac (ay (bD.m0 bo) am (aw 0)) ad)))))) (q02 6 sc.nd)
   (ae (q01 7 sc.nd (cg cq (aw 1) (ay (bD.m1 bv) (aw 6) (aN cT rfl nb.len cy (ac (aw 1) ad))) (λ_ _=>rfl)))
   (ae (q01 8 sc.nd (cg cq (aw 2) (ay (bD.m1 bv) (ay (bD.m1 bJ) (aw 6) am) (aN cT rfl nb.len cy (ac (aw 2) ad))) (λ_ _=>rfl)))
   (ae (q01 9 sc.nd (ay (bD.m0 bo) am (ay (bD.m1 bv) (ay (bD.m1 bJ) (aw 6) am) am)))
   (ae (bT (q03 (aw 4) (ac (pF zHa (hr.mono nofun) rfl aL (ac (aw 8) (ac (aw 9) (ac (aw 7) ad)))) ad)))
   (ag (cz (bE nJ (aw 7) (@qm _ _ _ _ _ _ _ _ (ac (aw 3) ad) rfl rfl) (by with_unfolding_all rfl))
   (ag (kr (GK (GO (by decide:1<=64) _) hu) (aw 5) (dk (ac (aw 7) (ac (aw 8) ad))) (aN (vR rfl) rfl nb.min BK (ac (aw 9) (ac (wb (GK (GO (by decide:1<=64) _) hu) (aw 5) (dk (ac (aw 7) (ac (aw 8) ad))) am ⟨rfl,rfl,rfl,rfl⟩) ad))) rfl))
   bi)))))))
   (ae (q01 10 sc.nd (pF zMa (hr.mono nofun) rfl aL (ac (@qm _ _ _ _ _ _ _ _ (ac (aw 1) ad) rfl rfl) (ac (cg cq (aw 2) am (λ_ _=>rfl)) (ac (aw 4) ad)))))
   (ae (q01 11 sc.nd (dl cH rfl nb.list fW (ac (aw 3) ad)))
   (ae (q01 12 sc.nd (aH yaj (hr.mono nofun) rfl aL (ac (aw 10) (ac (aw 11) ad))))
   (ae (cz (PW.pt (lM (dN (dL (aH zTa (hr.mono nofun) rfl aL (ac (aw 12) ad)) λ_=>rfl)) (lM (bE (Bc hu) (aw 12) (aw 5) (b_ _)) (lc (bE (xU hu) (aw 11) (aw 3) (b_ _))))))
   (ag (aO hZ))
   bi)
   (ae (bT (AS PySem.F.plainAttrs_dict PySem.F.slot_dict_clear PySem.F.type_dict_clear v3 (aw 12)))
   (ag (aO (pR (BW hu) (aH yaj (hr.mono nofun) rfl aL (ac (aw 10) (ac (aw 11) ad))) (aw 5) (b_ _))))))))))))))),?_⟩
  obtain⟨m0,o1⟩:∃m:Nat,dh ns 0/156%4=(m:Int):=⟨_,(GS ⋯).symm⟩;obtain⟨m1,n8⟩:∃m:Nat,dh ns 2/3744%4=(m:Int):=⟨_,(GS ⋯).symm⟩;walk_at "n";refine⟨a,ns,0,rfl,hS,⋯,a,ns,0,rfl,hS,⋯,_,rfl,dh ns 0,m0,by rw[o1],⋯,λls r H1 hls o7 so g9 s1=>h1 _ _ ?_⟩;clear h1;have j3:=s1.seq hS;walk_at "n";refine⟨a,ns,2,rfl,j3,⋯,a,ns,2,rfl,j3,⋯,_,rfl,dh ns 2,m1,by rw[n8],⋯,λln p H2 hln l3 a5 d1 s2=>h1 _ _ ?_⟩;clear h1;have sA:=s1.trans s2;have a9:=s2 _ _ o7;have o6:=sA.seq hS;have p0:p≠[]:=λe=>by rw[e]at a5;simp at a5;omega
  have r0:r≠[]:=λe=>by rw[e]at g9;simp at g9;omega
  walk_at "n";refine⟨a,ls,ns,r,rfl,o6,a9,⋯,⋯,λlp C qa qb H3 hlp f7 B n2 s3=>h1 _ _ ?_⟩;clear h1;have sB:=sA.trans s3;walk_at "n";refine⟨Gr _,λJ f3=>h1 _ _ ?_⟩;clear h1;generalize z0:aB H3 J _=H4;obtain⟨s4,e4⟩:=kY f3 z0;walk_at "n";refine λld d4=>h1 _ _ ?_;clear h1;generalize z1:aB H4 ld _=H5;obtain⟨s5,e5⟩:=kY d4 z1;have a4:=s4.trans s5;have sC:=sB.trans a4;have k5:=(s3.trans a4) _ _ a9;have l1:=(s3.trans a4) _ _ l3;have k7:=a4 _ _ f7;have p5:=s5 _ _ e4;have hlr0:H J=none:=sB.free f3;have hld0:H ld=none:=(sB.trans s4).free d4;have h0:J≠ld:=λe=>by rw[e]at e4;rw[d4]at e4;cases e4
  have j2:=sC.seq hS;obtain⟨m2,n7⟩:∃m:Nat,dh ns 24%13=(m:Int):=⟨_,(GS ⋯).symm⟩;walk_at "n";refine⟨a,ns,24,rfl,j2,⋯,_,rfl,⋯,⋯,?_⟩;rw[n7,F'];refine jQ (n:=m2) (emb:=V.int) (λ_=>True) (λσ=>∃x,σ=[x,some (V.ref a)]) ⟨_,rfl⟩ ⋯ ?_ ?_
  ·rintro j hj σ H3 M1 M0 ⟨y,rfl⟩ s3 k1
   walk_at "wp";exact⟨a,ns,12+j,by push_cast;rfl,s3.seq j2,⋯,k1 _ _ _ trivial s3 ⟨_,rfl⟩⟩
  intro cs H6 hcl _ s6 l6 f4;generalize z2:aB H6 l6 _=H7;obtain⟨s7,e7⟩:=kY f4 z2;have O:=s6.trans s7;have els7:=O _ _ k5;have eln7:=O _ _ l1;have elp7:=O _ _ k7;have p4:=O _ _ p5;have p3:=O _ _ e5;have sD:=sC.trans O;have i2:∀c∈r,kK [c]=true:=so.one;have mk:∀(n:GZ) (c:Int) (g:Nat),n∈p->1<=c->c<=9->g∈r->qz p r (0,⟨n,c,n,n,[g],0⟩):=λn c g hn c1 c9 hg=>by
   have d3:=d1 n hn;have h6:=jo d3;exact⟨⟨by show 0<4;omega,rfl,⟨d3,c1,c9,d3,d3,i2 g hg,Int.le_refl 0,(by show(0:Int)<=7;decide)⟩,⟨by show n.length<=1000;omega,by show n.length<=1000;omega,by show n.length<=1000;omega,by show 1<=1000;omega⟩⟩,hn,hn,hn,g,hg,rfl⟩
  refine⟨⟨_,aT.of e7⟩,?_⟩;have sml:d0 C:=d0.of B.rc (by have:=B.a6;omega) (by have:=B.b6;omega);have m3:=a4.trans O;have h9:H3 J=none:=f3;have i1:H3 ld=none:=s4.free d4;have a8:=s3 _ _ a9;have b2:=s3 _ _ l3;have m5:l6≠J:=λe=>by have:=(s5.trans s6) _ _ e4;rw[<- e,f4]at this;cases this
  have n0:l6≠ld:=λe=>by have:=s6 _ _ e5;rw[<- e,f4]at this;cases this
  have n5:(aq (cn r)).length=r.length:=by rw[al];unfold cn;rw[F3]
  have rl:0<r.length:=List.length_pos_iff.mpr r0;have g3:0<p.length:=List.length_pos_iff.mpr p0;refine bO (xs:=cs.map V.int) (λi σ H'=>aA H3 H'/\H' l6=some (.lst (cs.map V.int))/\(∃I Z D,H' J=some (.lst (I.map V.ref))/\aV R H' I Z/\Z.length=i/\(∀x∈Z,qz p r x)/\bF H' ld D/\Due Z C D/\D.length<=i)/\∃x6 x7 x8 x9,σ=[some (V.ref a),some (V.ref ls),some (V.ref ln),some (V.ref lp),some (V.ref J),some (V.ref ld),x6,x7,x8,x9,none,none,none]) ⟨m3,e7,⟨[],[],[],p4,⟨rfl,λi a r e=>by simp at e⟩,rfl,(λx M=>nomatch M),p3,Due.nil C,Gq _⟩,_,_,_,_,rfl⟩ (λi σ H' _ h=>aT.of h.2.1) ?_ ?_
  ·rintro i x σ H' M ⟨sm,k3,⟨I,Z,D,T,hA,a2,S,hD,G,j6⟩,x6,x7,x8,x9,rfl⟩
   rw[F5]at M;obtain⟨c,hc,rfl⟩:=Gv.mp M;have hi:=(F0.mp hc).1;obtain⟨g,hg,eg⟩:=qL r0 c;obtain⟨n,hn,en⟩:=p8 p0 (c/4);obtain⟨co,o4,q0,l5⟩:∃co:Int,1+c/16%9=co/\1<=co/\co<=9:=⟨_,rfl,⋯,⋯⟩;have j1:=hA.1;walk_at "o";refine⟨_,aT.of (sm _ _ a8),by rw[n5];omega,_,aT.of (sm _ _ a8),_,eg,h2 _ _ ?_⟩;walk_at "oc";refine⟨_,aT.of (sm _ _ b2),by rw[al];omega,_,aT.of (sm _ _ b2),_,en,h2 _ _ ?_⟩;walk_at "oc";rw[o4];refine h2 _ _ ?_;walk_at "oc";have o:=mk n co g hn q0 l5 hg;have h6:=jo (d1 n hn);refine⟨.inl ⟨rfl,_,aT.of T⟩,λx dx M hd h7=>⟨x,R.cc,dx,n,[g],co,rfl,af,rk.i0.cl,rk.a0,⋯,by show 1<=100000;omega,o.good.good.ok 0,λpl H8 sx a5 o3 ha=>⟨rfl,?_⟩⟩⟩;have s8:=vF M hd sx;have h8:=s8 _ _ T;have h4:pl≠J:=λe=>by
    rw[e,ai (ax T M),ai (ax T hd),T]at a5;cases a5
   refine⟨_,h8,by rw[F3];exact aY ⋯,h2 _ _ ?_⟩;clear h2;have f5:aV R (aB H8 J (.lst (I.map V.ref++[V.ref x]))) (I++[x]) (Z++[(0,⟨n,co,n,n,[g],0⟩)]):=by
    refine aV.snoc20 ((hA.up s8).put20 h8 ?_) ⟨dx,pl,by rw[ai (λe=>by rw[e,h8]at ha;cases ha)];exact ha,by rw[ai h4];exact o3⟩;cases I with
    |nil=>exact .inl rfl
    |cons a I=>exact .inr ⟨a,q0B ..⟩
   have b3:aA H3 (aB H8 J (.lst (I.map V.ref++[V.ref x]))):=bG (sm.trans s8) h9;have f6:aB H8 J (.lst (I.map V.ref++[V.ref x])) l6=some (.lst (cs.map V.int)):=by rw[ai m5];exact s8 _ _ k3
   have U:bF (aB H8 J (.lst (I.map V.ref++[V.ref x]))) ld D:=by
    show aB H8 J _ ld=_;rw[ai (Ne.symm h0)];exact s8 _ _ hD
   have f1:aB H8 J (.lst (I.map V.ref++[V.ref x])) J=some (.lst ((I++[x]).map V.ref)):=by rw[af,Gc];rfl
   have d6:∀y∈Z++[(0,⟨n,co,n,n,[g],0⟩)],qz p r y:=λy hy=>by
    rcases Gd.mp hy with h | h
    ·exact S y h
    ·rw[F4.mp h];exact o
   generalize aB H8 J (.lst (I.map V.ref++[V.ref x]))=H9 at f5 b3 f6 U f1 ⊢;walk_at "wp";have b0:=b3 _ _ f7;refine⟨rfl,C.map tx,.inl (by rw[<- dg];exact aT.of b0),?_,?_⟩
   ·have g1:=fo (p:=C) (n:=6) λy hy=>by have:=B.rc.2 y hy;have:=B.b6;omega
    have e0:(Str.ofString "").length=0:=rfl;have:=B.rc.1;have:=B.a6
    rw[e0,Nat.mul_zero];omega
   rw[QL.join_nil];have j0:g∈C.flatten↔∃f0∈C,g∈f0:=List.mem_flatten;have d5:(Builtin.Str.occurrences (tx C.flatten) (tx [g]) 0 (tx C.flatten).length 1).isEmpty=false↔g∈C.flatten:=by
    rw[<- zO];show _↔(!(Builtin.Str.occurrences (tx C.flatten) (tx [g]) 0 (tx C.flatten).length 1).isEmpty)=true;cases(Builtin.Str.occurrences (tx C.flatten) (tx [g]) 0 (tx C.flatten).length 1).isEmpty<;>simp
   by_cases hm:g∈C.flatten
   ·rw[q07 (d5.mpr hm)]
    refine⟨.inr ⟨_,.inl U⟩,aM nofun,λp1 n4=>?_⟩;generalize z3:aB H9 p1 _=f8;obtain⟨c0,(e10:aX f8 p1 ([g],n))⟩:=kY n4 z3;have i3:=(U.up c0).told.get e10;obtain⟨tv,g4⟩:∃tv,(az D ([g],n)).getD 9=tv:=⟨_,rfl⟩;refine⟨_,i3,tv,by rw[<- g4];cases az D ([g],n)<;>rfl,aM nofun,λp2 n3=>?_⟩;generalize z4:aB f8 p2 _=a3;obtain⟨b4,(e11:aX a3 p2 ([g],n))⟩:=kY n3 z4;have v:=c0.trans b4;have L:=U.up v;have e3:=f5.up v;have h3:∀vv:Int,qt a3 ld (.ref p2) (.int vv) (aB a3 ld (.dT (cM (D.map dW) (gC ([g],n)) (.int vv)))):=λvv=>qt.t L e11 (by rw[F3];exact aY ⋯);refine⟨_,h3 _,bG (b3.trans v) i1,by rw[ai n0];exact v _ _ f6,I++[x],by rw[ai h0];exact v _ _ f1,_,⟨e3.1,λi a y e1 e2=>?_⟩,by rw[Gp,a2];rfl,d6,jY D ([g],n) _,by show aB _ ld _ ld=_;rw[af,rj],G.put (x:=(0,⟨n,co,n,n,[g],0⟩)) rfl (j0.mp hm) (by show(if tv<co then tv else co)=if co<=(az D ([g],n)).getD 9 then co else(az D ([g],n)).getD 9;rw[g4];split<;>split<;>omega) l5,by rw[qH];split<;>omega⟩;obtain⟨dx,l,h1,h2⟩:=e3.2 i a y e1 e2;exact⟨dx,l,by rw[ai (λz=>by rw[z,L]at h1;cases h1)];exact h1,by rw[ai (λz=>by rw[z,L]at h2;cases h2)];exact h2⟩
   ·rw[q06 (λh=>hm (d5.mp h))]
    exact⟨b3,f6,_,f1,_,f5,by rw[Gp,a2];rfl,d6,D,U,G.skip rfl (λh=>hm (j0.mpr h)),⋯⟩
  ·rintro σ H' ⟨sm,k3,⟨I,Z,D,T,hA,a2,S,hD,G,j6⟩,x6,x7,x8,x9,rfl⟩
   rw[F3]at a2 j6;refine h1 _ _ ?_;walk_at "nc";have k6:=sm _ _ a8;have l2:=sm _ _ b2;have l0:=sm _ _ f7;refine⟨rfl,(cn r).map tx,.inl (by rw[<- dg];exact aT.of k6),?_,?_⟩
   ·have g1:=fo (p:=cn r) (n:=1) λy hy=>by
     obtain⟨c,_,rfl⟩:=GM.mp hy;exact Gq _
    have g2:(cn r).length=r.length:=by unfold cn;rw[F3]
    have e0:(Str.ofString "").length=0:=rfl;rw[e0,Nat.mul_zero];omega
   have c6:p[0]∈p:=F_ g3;have l7:nv (aq p) 0=some (V.str (tx p[0])):=(show nv _ ((0:Nat):Int)=_ from bS (bW g3));generalize p[0]=st at c6 l7;refine⟨_,aT.of l2,_,l7,λx dx M hd h7=>?_⟩;rw[QL.join_nil,k9];have e8:aA H' (aB (aB H' dx (.own x)) x (.ins CG dx [])):=(ao hd).trans (ao (by rw[ai (Ne.symm h7)];exact M));have h6:=jo (d1 st c6);have j1:=hA.1;refine⟨x,CG,dx,J,r,st,I,Z,rfl,af,gk.cl.cl,gk.na,⋯,⋯,e8 _ _ T,hA.up e8,λr hr=>(S r hr).good.k4,⋯,vE so.ok c6 d1 ⋯ ⋯ S,(λH8 lk pn t sx gA _ _ _=>⟨rfl,h1 _ _ ?_⟩)⟩;clear h1;have hG:=gA.f;have s8:aA H' H8:=λb u e=>sx b u (ax e M) (e8 b u e);have e6:=s8 _ _ l0;have U:=hD.up s8;have n1:47∉r:=λh=>q0Q (i2 47 h) (by decide +kernel);have f9:∀x∈Z,qI x:=λx M=>(S x M).good;obtain⟨c2,h5,d5,hnl2,hnp⟩:=zU c6 S;have hE:kg Z c2 C qa qb:=⟨B.rc,B.a1,B.b1,B.a6,B.b6,λf0 g6 h=>n1 (n2 f0 g6 47 h),f9,d5,⋯,⋯⟩;have l4:∀{tb:Tb},yP Z c2 C qa qb tb->∀k,az tb k=az D k:=fun{tb} hB k=>G.table hE (λx M=>(f9 x M).k0) (λx M=>by obtain⟨c,_,e⟩:=(S x M).sg;exact⟨c,e⟩) hB k;walk_at "n";refine⟨_,.inl (aT.of e6),λlh o2=>h1 _ _ ?_⟩;clear h1;generalize z3:aB H8 lh _=H9;obtain⟨s9,e9⟩:=kY o2 z3;have b0:=s9 _ _ e6;have j8:=U.up s9;have j4:=hG.up s9;walk_at "n";refine⟨x,dx,lh,r,st,I,Z,c2,C,qa,qb,rfl,j4,h5,hE,aT.of e9,λd f8 tb hd hT hB c0=>h1 _ _ ?_⟩;clear h1;have g0:∀{l:Addr} {H1:Hp},H1 l=some (.lst (aq C))->jx K H1 (.lst ((C.map tx).map Dt.str)) (.ref l):=fun{l H1} h=>by
    unfold jx;exact⟨l,_,rfl,aT.of h,by rw[dg];exact Ae⟩
   walk_at "n";refine⟨d,tb,rfl,hT,hB.nd,λa3 b4=>?_⟩;have v:=c0.trans b4;have a7:=hT.up b4;have L:=j8.up v;refine⟨_,rfl,?_⟩;rw[q06 nofun];refine⟨_,_,yu (.inl a7) (.inl L) hB.nd G.nd (l4 hB),?_⟩;refine .inl ⟨(C.map tx).map Dt.str,by rw[vP];decide,.inl ⟨g0 (v _ _ e9),g0 (v _ _ b0)⟩,_,rfl,?_⟩;rw[q06 nofun];refine h1 _ _ ?_;walk_at "nc";refine⟨.inr (.inr (.inl ⟨rfl,.inr ⟨_,a7⟩⟩)),_,a7,h1 _ _ ?_⟩;clear h1;have Y:aA H9 (aB a3 d (.dT [])):=bG v hd;generalize aB a3 d (.dT [])=H12 at Y ⊢;walk_at "wp";refine⟨x,dx,lh,r,st,I,Z,c2,C,qa,qb,rfl,j4.up Y,h5,hE,aT.of (Y _ _ e9),λd2 H13 tb2 hd2 o5 k2 m4=>?_⟩;exact⟨d2,rfl,_,_,yu (.inl o5) (.inl ((j8.up Y).up m4)) k2.nd G.nd (l4 k2),q _⟩
end
theorem bdc{n:Nat}{P:List Value->Prop}(h:∀a us,us.length=n->P (a::us)):∀us:List Value,us.length=n+1->P us:=by
 intro us e;cases us with|nil=>cases e|cons a us=>exact h a us (Nat.succ.inj e)
theorem bd0{P:List Value->Prop}(h:P []):∀us:List Value,us.length=0->P us:=by
 intro us e;cases us with|nil=>exact h|cons a us=>cases e
theorem bd1{P:List Value->Prop}(h:∀a,P [a]):∀us:List Value,us.length=1->P us:=bdc λa=>bd0 (P:=λus=>P (a::us)) (h a)
theorem bd2{P:List Value->Prop}(h:∀a b,P [a,b]):∀us:List Value,us.length=2->P us:=bdc λa=>bd1 (P:=λus=>P (a::us)) (h a)
theorem bd3{P:List Value->Prop}(h:∀a b c,P [a,b,c]):∀us:List Value,us.length=3->P us:=bdc λa=>bd2 (P:=λus=>P (a::us)) (h a)
theorem bd4{P:List Value->Prop}(h:∀a b c d,P [a,b,c,d]):∀us:List Value,us.length=4->P us:=bdc λa=>bd3 (P:=λus=>P (a::us)) (h a)
def FK(K:W.Frag)(x:Str)(st:Stmt)(f:Addr):Prop:=W.nsIn K mainGlobals x=some (some (.ref f))/\∃oc od osl kV doc pm an cdv ct,K.lookup f=some ⟨oc,od,.func (W.fnOf x x (cY st) (cN st) (av st) .none kV doc pm an cdv ct),osl⟩/\W.codeIn K cdv x=true/\W.keepIn K (.ref f)=true
theorem fk_mk{K:W.Frag}{x:Str}{st:Stmt}{f:Addr}{oc:Value}{od an:G9}{osl:Array (Option Value)}{kV doc pm cdv ct:Value}(a:W.nsIn K mainGlobals x=some (some (.ref f)))(l:K.lookup f=some ⟨oc,od,.func (W.fnOf x x (cY st) (cN st) (av st) .none kV doc pm an cdv ct),osl⟩)(c:W.codeIn K cdv x=true)(k:W.keepIn K (.ref f)=true):FK K x st f:=⟨a,oc,od,osl,kV,doc,pm,an,cdv,ct,l,c,k⟩
def MK(K:W.Frag)(x q:Str)(st:Stmt)(f:Addr):Prop:=∃oc od osl kV doc pm an cdv ct,K.lookup f=some ⟨oc,od,.func (W.fnOf x q (cY st) (cN st) (av st) .none kV doc pm an cdv ct),osl⟩/\W.codeIn K cdv q=true/\W.keepIn K (.ref f)=true/\W.isFn K (.ref f)=true
theorem mk_mk{K:W.Frag}{x q:Str}{st:Stmt}{f:Addr}{oc:Value}{od an:G9}{osl:Array (Option Value)}{kV doc pm cdv ct:Value}(l:K.lookup f=some ⟨oc,od,.func (W.fnOf x q (cY st) (cN st) (av st) .none kV doc pm an cdv ct),osl⟩)(c:W.codeIn K cdv q=true)(k:W.keepIn K (.ref f)=true)(i:W.isFn K (.ref f)=true):MK K x q st f:=⟨oc,od,osl,kV,doc,pm,an,cdv,ct,l,c,k,i⟩
theorem FK.cal{K:W.Frag}{x:Str}{st:Stmt}{f:Addr}{h base:Heap}{mg:G3}{P:G5}{w:G8}{CX:iz}{k:Nat}{ps:G6}{sp:Sp}(q:FK K x st f)(X:K.In h)(G:h.Ns mainGlobals mg)
  (ok:∀fd,dO K x x st f fd->mg x=some (.ref f)->W.keepIn K (.ref f)=true->cX K fd ps []->bc P w K mg base CX k f fd ps sp)
  (hb:∀(kV doc pm:Value) (an:G9) (cdv ct:Value) (us:G1),us.length=ps.length->bindArgs (W.fnOf x x (cY st) (cN st) (av st) .none kV doc pm an cdv ct) ⟨us,[]⟩=pure (ps.zip us)):eX P w K mg base CX k x ps sp:=by
 obtain⟨a,oc,od,osl,kV,doc,pm,an,cdv,ct,l,c,d⟩:=q;have F:=dQ l c d;have b:=F.binds hb;exact⟨_,_,ok _ F (W.mg_of X G a) d b,W.mg_of X G a,d,b⟩
theorem all_mk{l:W.OpenLaw}{w:G8}{K:W.Frag}{h:Heap}{mg:G3}{fa f1 f2 f3 f4 f5 f6 f7 f8 f9 f10 f11 f12 f13 f14 f15 f16 f17 f18 f19 f20 f21 f22 f23 f24 f25 f26 f27 f28 f29 f30 f31 f32:Addr}(X:K.In h)(G:h.Ns mainGlobals mg)(EM:mg "law"=some (.ref fa))
  (a1:FK K "only_of" jA f1) (a2:FK K "is_name" jB f2) (a3:FK K "are_signs" gF f3) (a4:FK K "check_made_of" dv f4) (a5:FK K "numbers_by_name" c7 f5) (a6:FK K "mirror" kQ f6) (a7:FK K "column_from_below" cL f7) (a8:FK K "quarter" jr f8) (a9:FK K "turned" kF f9) (EN:FK K "after" oF f10) (Ev:FK K "shown" pj f11) (Ex:FK K "windows_of" fR f12) (Fh:FK K "cut_out" ji f13) (Fu:FK K "cells_then_rows" c4 f14) (EF:FK K "seen_in" jn f15) (FF:FK K "parted" kW f16) (EZ:FK K "parted_texts" dU f17) (FS:FK K "cost_by" jq f18) (E4:FK K "coming" lA f19) (Eu:FK K "lower" oA f20) (Fa:FK K "put_together" dR f21) (EL:FK K "turn_about" fO f22) (E9:FK K "enter_turnings" di f23) (Es:FK K "enter_seen" fP f24) (Fb:FK K "table_of" ik f25) (Fg:FK K "_law_cell" lH f26) (EG:FK K "_law_whole" jG f27) (Fl:FK K "_law_signs" jE f28) (FD:FK K "_law_names" jw f29) (E2:FK K "_law_table" i' f30) (EV:FK K "_law_picture" gD f31) (E8:FK K "law" mZ f32)
  {yaa zka zaa zga zca zea zla zba zha zsa zma zna yab yaH:Addr} {ya1 yaY yaZ yaT ya4 ya2 ya0:Tok}  (uX:W.nsIn K mainGlobals "CAPITALS"=some (some (.str "ABCDEFGHIJKLMNOPQRSTUVWXYZ" ya1))) (yZ:W.nsIn K mainGlobals "SMALLS"=some (some (.str "abcdefghijklmnopqrstuvwxyz" yaY))) (mf:W.nsIn K mainGlobals "LONGEST_NAME"=some (some (.int 4 yaZ))) (CM:W.nsIn K mainGlobals "Rule"=some (some (.ref yaa))) (Bh:W.specialIn K (.ref yaa) "__getattribute__"=some (some (.builtin "type.__getattribute__"))) (BG:W.readsIn K yaa (.type "type")=true) (ke:W.findCls K (.ref yaa) (.type "type") "__init__"=some (.val (.ref zka))) (kf:MK K "__init__" "Rule.__init__" eM zka) (uW:W.nsIn K mainGlobals "CellRule"=some (some (.ref zaa))) (CN:W.specialIn K (.builtin "object.__class__") "__get__"=some (some (.builtin "getset_descriptor.__get__"))) (Cf:W.takesIn K (.builtin "object.__class__")=some true) (Fn:W.plainGet K zaa Str.empty=true) (Ey:W.hasDictIn K zaa=true) (EW:W.plainOver K zaa=true) (Fe:W.findIn K (.ref zaa) "__setattr__"=some (some (.builtin "object.__setattr__"))) (Fs:W.findIn K (.ref zaa) "__class__"=some (some (.builtin "object.__class__"))) (FP:W.mroIn K zaa (.type "object")=some true) (E5:W.findIn K (.ref zaa) "name"=some none) (FG:W.findIn K (.ref zaa) "cost"=some none) (Fy:W.findIn K (.ref zaa) "part_names"=some none) (FO:W.findIn K (.ref zaa) "sign"=some none) (s_:W.makesIn K zaa=true) (tz:W.findIn K (.ref zaa) "__init__"=some (some (.ref zga))) (g6:MK K "__init__" "CellRule.__init__" d8 zga) (rW:W.keepIn K (.ref zaa)=true) (Fo:W.kitOne K (.ref zaa) (.ref yaa)=some true) (D_:W.kitOne K (.ref zaa) (.ref zaa)=some true) (uL:W.nsIn K mainGlobals "TurnRule"=some (some (.ref zca))) (EO:W.plainGet K zca Str.empty=true) (EX:W.hasDictIn K zca=true) (EJ:W.plainOver K zca=true) (FE:W.findIn K (.ref zca) "__setattr__"=some (some (.builtin "object.__setattr__"))) (ET:W.findIn K (.ref zca) "__class__"=some (some (.builtin "object.__class__"))) (E7:W.mroIn K zca (.type "object")=some true) (Fi:W.findIn K (.ref zca) "name"=some none) (Er:W.findIn K (.ref zca) "cost"=some none) (Fq:W.findIn K (.ref zca) "part_names"=some none) (Ff:W.findIn K (.ref zca) "part"=some none) (FT:W.findIn K (.ref zca) "turning"=some none) (EY:W.kitOne K (.ref zca) (.ref yaa)=some true) (Eg:W.kitOne K (.ref zca) (.ref zca)=some true) (A4:W.plainGet K yaa Str.empty=true) (AL:W.hasDictIn K yaa=true) (AX:W.plainOver K yaa=true) (BR:W.findIn K (.ref yaa) "__setattr__"=some (some (.builtin "object.__setattr__"))) (AG:W.findIn K (.ref yaa) "__class__"=some (some (.builtin "object.__class__"))) (BU:W.mroIn K yaa (.type "object")=some true) (Eo:W.findIn K (.ref yaa) "name"=some none) (En:W.findIn K (.ref yaa) "cost"=some none) (Eb:W.findIn K (.ref yaa) "part_names"=some none) (Ea:W.findIn K (.ref yaa) "one"=some none) (Ep:W.findIn K (.ref yaa) "other"=some none) (uf:W.kitOne K (.ref yaa) (.ref yaa)=some true) (ri:W.nsIn K mainGlobals "MOST_SIGNS"=some (some (.int 4 yaT))) (rp:W.nsIn K mainGlobals "MOST_RULES"=some (some (.int 24 ya4))) (q8:W.nsIn K mainGlobals "MOST_NAMES"=some (some (.int 8 ya2))) (uY:W.nsIn K mainGlobals "TURNINGS"=some (some (.int 8 ya0))) (Fj:W.kitOne K (.ref zaa) (.ref zca)=some false) (Fd:W.kitOne K (.ref zca) (.ref zaa)=some false) (Ec:W.kitOne K (.ref yaa) (.ref zaa)=some false) (El:W.kitOne K (.ref yaa) (.ref zca)=some false) (i_:W.findIn K (.ref zaa) "parts"=some (some (.ref zea))) (oj:MK K "parts" "Rule.parts" dG zea) (jh:W.findIn K (.ref zca) "parts"=some (some (.ref zea))) (nY:W.findIn K (.ref yaa) "parts"=some (some (.ref zea))) (j0:W.findIn K (.ref zaa) "ways"=some (some (.ref zla))) (j3:MK K "ways" "CellRule.ways" eU zla) (yh:W.nsIn K mainGlobals "Grammar"=some (some (.ref zba))) (EA:W.plainGet K zba Str.empty=true) (FR:W.hasDictIn K zba=true) (Fr:W.plainOver K zba=true) (FC:W.findIn K (.ref zba) "__setattr__"=some (some (.builtin "object.__setattr__"))) (Ez:W.findIn K (.ref zba) "__class__"=some (some (.builtin "object.__class__"))) (Et:W.mroIn K zba (.type "object")=some true) (EI:W.findIn K (.ref zba) "signs"=some none) (FH:W.findIn K (.ref zba) "start"=some none) (FB:W.findIn K (.ref zba) "kept"=some none) (FN:W.findIn K (.ref zba) "numbers"=some none) (vG:W.makesIn K zba=true) (uV:W.findIn K (.ref zba) "__init__"=some (some (.ref zha))) (ie:MK K "__init__" "Grammar.__init__" d9 zha) (vI:W.keepIn K (.ref zba)=true) (lI:W.findIn K (.ref zba) "rule"=some (some (.ref zsa))) (kH:MK K "rule" "Grammar.rule" eJ zsa) (j4:W.findIn K (.ref zba) "rules"=some (some (.ref zma))) (j8:MK K "rules" "Grammar.rules" dE zma) (ka:W.findIn K (.ref zba) "names"=some (some (.ref zna))) (j6:MK K "names" "Grammar.names" dF zna) (Cg:W.nsIn K mainGlobals "Cuts"=some (some (.ref yab))) (BS:W.plainGet K yab Str.empty=true) (A0:W.hasDictIn K yab=true) (A_:W.plainOver K yab=true) (AK:W.findIn K (.ref yab) "__setattr__"=some (some (.builtin "object.__setattr__"))) (A2:W.findIn K (.ref yab) "__class__"=some (some (.builtin "object.__class__"))) (Bo:W.mroIn K yab (.type "object")=some true) (lD:W.findIn K (.ref yab) "picture"=some none) (qT:W.findIn K (.ref yab) "text"=some none) (g_:W.findIn K (.ref yab) "beside_texts"=some none) (iy:W.findIn K (.ref yab) "above_texts"=some none) (AH:W.makesIn K yab=true) (AN:W.findIn K (.ref yab) "__init__"=some (some (.ref yaH))) (j_:MK K "__init__" "Cuts.__init__" eO yaH) (A1:W.keepIn K (.ref yab)=true)
  (z0:W.nsIn K mainGlobals "len"=some none) (z1:W.nsIn K mainGlobals "range"=some none) (z2:W.nsIn K mainGlobals "list"=some none) (z3:W.nsIn K mainGlobals "tuple"=some none) (z4:W.nsIn K mainGlobals "isinstance"=some none) (z5:W.nsIn K mainGlobals "int"=some none) (z6:W.nsIn K mainGlobals "bool"=some none) (z7:W.nsIn K mainGlobals "str"=some none) (z8:W.nsIn K mainGlobals "reversed"=some none) (z9:W.nsIn K mainGlobals "all"=some none) (Ft:W.nsIn K mainGlobals "enumerate"=some none) (EU:W.nsIn K mainGlobals "zip"=some none) (EB:W.nsIn K mainGlobals "sorted"=some none) (E_:W.nsIn K mainGlobals "set"=some none) (Fw:W.nsIn K mainGlobals "dict"=some none) (Fp:W.nsIn K mainGlobals "min"=some none) (Fk:W.nsIn K mainGlobals "max"=some none) (E3:W.nsIn K mainGlobals "sum"=some none) (Fx:W.nsIn K mainGlobals "ValueError"=some none) :
  ∃fd:FuncData,(∀(s:G0) (v:Value),BindsTo s fd ⟨[v],[]⟩ [("_law_script",v)])/\∀base:Heap,K.In base->base.Ns mainGlobals mg->bc l.prog w K mg base bx 11 fa fd ["_law_script"] (oK K):=by
 obtain⟨an,oc,od,osl,kV,doc,pm,ann,cdv,ct,hl,hc,hk⟩:=E8;have e:=EM.symm.trans (W.mg_of X G an);cases e;have FL:=dQ hl hc hk;have nb:NB mg:=⟨W.mg_none_of X G z0,W.mg_none_of X G z1,W.mg_none_of X G z2,W.mg_none_of X G z3,W.mg_none_of X G z4,W.mg_none_of X G z5,W.mg_none_of X G z6,W.mg_none_of X G z7,W.mg_none_of X G z8,W.mg_none_of X G z9,W.mg_none_of X G Ft,W.mg_none_of X G EU,W.mg_none_of X G EB,W.mg_none_of X G E_,W.mg_none_of X G Fw,W.mg_none_of X G Fp,W.mg_none_of X G Fk,W.mg_none_of X G E3,W.mg_none_of X G Fx⟩;refine⟨W.fnOf "law" "law" (cY mZ) (cN mZ) (av mZ) .none kV doc pm ann cdv ct,λs v=>.of_eq rfl,λbase _ _=>?_⟩;have yaD:=W.mg_of X G uX;have yag:=W.mg_of X G yZ;have yaM:=W.mg_of X G mf;have yaV:=W.mg_of X G CM;obtain⟨_,_,_,_,_,_,_,_,_,mlRule___init__,mcRule___init__,zya,mfRule___init__⟩:=kf;have zza:=dQ (st:=eM) mlRule___init__ mcRule___init__ zya;have zrb:=zza.binds (ps:=["self","name","cost","part_names"]) λ_ _ _ _ _ _=>bd4 λ_ _ _ _=>rfl
 have yaS:xg K yaa "__init__" zka:=⟨Bh,BG,ke,zya⟩;have zwa:=W.mg_of X G uW;have zta:iT K zaa:=⟨⟨Fn,Ey,EW,Fe⟩,Fs,CN,Cf,FP⟩;obtain⟨_,_,_,_,_,_,_,_,_,mlCellRule___init__,mcCellRule___init__,zOa,mfCellRule___init__⟩:=g6;have zqa:=dQ (st:=d8) mlCellRule___init__ mcCellRule___init__ zOa;have zPa:=zqa.binds (ps:=["self","name","cost","sign"]) λ_ _ _ _ _ _=>bd4 λ_ _ _ _=>rfl
 have zAb:Mk K zaa zga:=⟨s_,tz,mfCellRule___init__,rW⟩;have zxa:=W.mg_of X G uL;have zeb:iT K zca:=⟨⟨EO,EX,EJ,FE⟩,ET,CN,Cf,E7⟩;have zYa:iT K yaa:=⟨⟨A4,AL,AX,BR⟩,AG,CN,Cf,BU⟩
 let R:RC:=⟨yaa,zaa,yaa,yaa,zca⟩
 have rk:je K R:=⟨zta,zYa,zYa,zeb,⟨E5,FG,Fy,FO⟩,⟨Eo,En,Eb,Ea,Ep⟩,⟨Eo,En,Eb,Ea,Ep⟩,⟨Fi,Er,Fq,Ff,FT⟩,Fo,uf,uf,EY,D_,uf,uf,Eg⟩;have yaI:=W.mg_of X G ri;have yar:=W.mg_of X G rp;have yaC:=W.mg_of X G q8;have yae:=W.mg_of X G uY;have rk4:wQ K R:=⟨λi j hi hj=>by rcases ki hi with rfl | rfl | rfl | rfl<;>rcases hj with rfl | rfl;exact D_;exact Fj;exact Ec;exact El;exact Ec;exact El;exact Fd;exact Eg⟩;obtain⟨_,_,_,_,_,_,_,_,_,mlRule_parts,mcRule_parts,zoa,mfRule_parts⟩:=oj;have zia:=dQ (st:=dG) mlRule_parts mcRule_parts zoa;have zpa:=zia.binds (ps:=["self"]) λ_ _ _ _ _ _=>bd1 λ_=>rfl
 have zab:j7 K zaa "parts" zea:=⟨i_,mfRule_parts,zoa⟩;have zbb:j7 K zca "parts" zea:=⟨jh,mfRule_parts,zoa⟩;have zNa:j7 K yaa "parts" zea:=⟨nY,mfRule_parts,zoa⟩;obtain⟨_,_,_,_,_,_,_,_,_,mlCellRule_ways,mcCellRule_ways,zAa,mfCellRule_ways⟩:=j3;have zBa:=dQ (st:=eU) mlCellRule_ways mcCellRule_ways zAa;have zsb:=zBa.binds (ps:=["self","cuts"]) λ_ _ _ _ _ _=>bd2 λ_ _=>rfl
 have zfb:j7 K zaa "ways" zla:=⟨j0,mfCellRule_ways,zAa⟩;have zWb:=W.mg_of X G yh;have zfa:iT K zba:=⟨⟨EA,FR,Fr,FC⟩,Ez,CN,Cf,Et⟩;obtain⟨_,_,_,_,_,_,_,_,_,mlGrammar___init__,mcGrammar___init__,zWa,mfGrammar___init__⟩:=ie;have zua:=dQ (st:=d9) mlGrammar___init__ mcGrammar___init__ zWa;have zXa:=zua.binds (ps:=["self","signs","start","rules"]) λ_ _ _ _ _ _=>bd4 λ_ _ _ _=>rfl
 have zNb:Mk K zba zha:=⟨vG,uV,mfGrammar___init__,vI⟩;have gk:Ee K zba:=⟨zfa,EI,FH,FB,FN⟩;obtain⟨_,_,_,_,_,_,_,_,_,mlGrammar_rule,mcGrammar_rule,zKa,mfGrammar_rule⟩:=kH;have zLa:=dQ (st:=eJ) mlGrammar_rule mcGrammar_rule zKa;have zxb:=zLa.binds (ps:=["self","k"]) λ_ _ _ _ _ _=>bd2 λ_ _=>rfl
 have ztb:j7 K zba "rule" zsa:=⟨lI,mfGrammar_rule,zKa⟩;obtain⟨_,_,_,_,_,_,_,_,_,mlGrammar_rules,mcGrammar_rules,zCa,mfGrammar_rules⟩:=j8;have zDa:=dQ (st:=dE) mlGrammar_rules mcGrammar_rules zCa;have zub:=zDa.binds (ps:=["self"]) λ_ _ _ _ _ _=>bd1 λ_=>rfl
 have zgb:j7 K zba "rules" zma:=⟨j4,mfGrammar_rules,zCa⟩;obtain⟨_,_,_,_,_,_,_,_,_,mlGrammar_names,mcGrammar_names,zEa,mfGrammar_names⟩:=j6;have zFa:=dQ (st:=dF) mlGrammar_names mcGrammar_names zEa;have zvb:=zFa.binds (ps:=["self"]) λ_ _ _ _ _ _=>bd1 λ_=>rfl
 have zhb:j7 K zba "names" zna:=⟨ka,mfGrammar_names,zEa⟩;have yaX:=W.mg_of X G Cg;have yaG:iT K yab:=⟨⟨BS,A0,A_,AK⟩,A2,CN,Cf,Bo⟩;obtain⟨_,_,_,_,_,_,_,_,_,mlCuts___init__,mcCuts___init__,mkCuts___init__,mfCuts___init__⟩:=j_;have yaQ:=dQ (st:=eO) mlCuts___init__ mcCuts___init__ mkCuts___init__;have ya3:=yaQ.binds (ps:=["self","picture"]) λ_ _ _ _ _ _=>bd2 λ_ _=>rfl
 have yaU:Mk K yab yaH:=⟨AH,AN,mfCuts___init__,A1⟩;have nc:Ce K yab:=⟨lD,qT,g_,iy⟩;have yad:=a1.cal (P:=l.prog) (w:=w) (base:=base) X G (λ_ F m k b=>sW F nb) (λ_ _ _ _ _ _=>bd2 λ_ _=>rfl);have yai:=a2.cal (P:=l.prog) (w:=w) (base:=base) X G (λ_ F m k b=>rB F nb yaM yaD yad) (λ_ _ _ _ _ _=>bd1 λ_=>rfl);have zja:BF l.prog w K mg base bx 3 "Rule" "__init__" ["self","name","cost","part_names"] (gj K):=⟨_,_,_,oV zza nb yai,yaV,yaS,zrb⟩;have zHa:rM l.prog w K mg base bx 4 "CellRule" zaa ["self","name","cost","sign"] (fZ K):=⟨_,_,n9 zqa nb yag yad zja,zwa,zAb,zPa⟩;have yaF:sZ l.prog w K mg base bx 1 "parts" (kU K R):=Cw ⟨_,_,_,dm zia nb,zta.cl,zab,zpa⟩ ⟨_,_,_,dm zia nb,zYa.cl,zNa,zpa⟩ ⟨_,_,_,dm zia nb,zYa.cl,zNa,zpa⟩ ⟨_,_,_,dm zia nb,zeb.cl,zbb,zpa⟩;have yaL:=a3.cal (P:=l.prog) (w:=w) (base:=base) X G (λ_ F m k b=>o_ F nb yaI yag yad) (λ_ _ _ _ _ _=>bd1 λ_=>rfl);have yan:=a4.cal (P:=l.prog) (w:=w) (base:=base) X G (λ_ F m k b=>i9 F nb rk rk4 yar zwa yaL yai) (λ_ _ _ _ _ _=>bd3 λ_ _ _=>rfl);have yaw:=a5.cal (P:=l.prog) (w:=w) (base:=base) X G (λ_ F m k b=>ip F nb rk yaF) (λ_ _ _ _ _ _=>bd2 λ_ _=>rfl);have zMa:rM l.prog w K mg base bx 4 "Grammar" zba ["self","signs","start","rules"] (fU K R):=⟨_,_,pL zua nb yaC yan yaw,zWb,zNb,zXa⟩;have yah:iC l.prog w K mg base bx 1 zba "rule" ["self","k"] (dA R zba):=⟨_,_,oO zLa nb zfa.cl gk.na,zfa.cl,ztb,zxb⟩;have yak:iC l.prog w K mg base bx 1 zba "rules" ["self"] (e_ R zba):=⟨_,_,mH zDa nb zfa.cl gk.na,zfa.cl,zgb,zub⟩;have yam:iC l.prog w K mg base bx 1 zba "names" ["self"] (fe R zba):=⟨_,_,mz zFa nb zfa.cl gk.na,zfa.cl,zhb,zvb⟩;have yaJ:=a6.cal (P:=l.prog) (w:=w) (base:=base) X G (λ_ F m k b=>vM F nb) (λ_ _ _ _ _ _=>bd1 λ_=>rfl);have yaE:=a7.cal (P:=l.prog) (w:=w) (base:=base) X G (λ_ F m k b=>vD F nb) (λ_ _ _ _ _ _=>bd2 λ_ _=>rfl);have yaq:=a8.cal (P:=l.prog) (w:=w) (base:=base) X G (λ_ F m k b=>sN F nb yaE) (λ_ _ _ _ _ _=>bd1 λ_=>rfl);have zra:=a9.cal (P:=l.prog) (w:=w) (base:=base) X G (λ_ F m k b=>vA F nb yaJ yaq) (λ_ _ _ _ _ _=>bd2 λ_ _=>rfl);have yat:=EN.cal (P:=l.prog) (w:=w) (base:=base) X G (λ_ F m k b=>yi F) (λ_ _ _ _ _ _=>bd2 λ_ _=>rfl);have yac:=Ev.cal (P:=l.prog) (w:=w) (base:=base) X G (λ_ F m k b=>yg F) (λ_ _ _ _ _ _=>bd1 λ_=>rfl);have yav:=Ex.cal (P:=l.prog) (w:=w) (base:=base) X G (λ_ F m k b=>mw F nb) (λ_ _ _ _ _ _=>bd2 λ_ _=>rfl);have yaz:=Fh.cal (P:=l.prog) (w:=w) (base:=base) X G (λ_ F m k b=>su F nb) (λ_ _ _ _ _ _=>bd2 λ_ _=>rfl);have yaN:=Fu.cal (P:=l.prog) (w:=w) (base:=base) X G (λ_ F m k b=>iw F nb) (λ_ _ _ _ _ _=>bd1 λ_=>rfl);have yaB:=EF.cal (P:=l.prog) (w:=w) (base:=base) X G (λ_ F m k b=>sr F nb yae yav yaz zra yac yaN) (λ_ _ _ _ _ _=>bd1 λ_=>rfl);have yay:=FF.cal (P:=l.prog) (w:=w) (base:=base) X G (λ_ F m k b=>vx F nb) (λ_ _ _ _ _ _=>bd3 λ_ _ _=>rfl);have yal:=EZ.cal (P:=l.prog) (w:=w) (base:=base) X G (λ_ F m k b=>j9 F nb yay yac) (λ_ _ _ _ _ _=>bd3 λ_ _ _=>rfl);have yau:rM l.prog w K mg base bx 3 "Cuts" yab ["self","picture"] (gl K):=⟨_,_,o0 yaQ nb yac yal,yaX,yaU,ya3⟩;have yaK:sZ l.prog w K mg base bx 5 "ways" (t5 R yab):=⟨λo ho=>by rw[F4.mp ho];exact⟨_,_,_,(oQ zBa yaG.cl nc zta.cl rk.a0.2.2.2).mono nofun,zta.cl,zfb,zsb⟩⟩;have yas:=FS.cal (P:=l.prog) (w:=w) (base:=base) X G (λ_ F m k b=>rG F nb rk) (λ_ _ _ _ _ _=>bd3 λ_ _ _=>rfl);have yap:=E4.cal (P:=l.prog) (w:=w) (base:=base) X G (λ_ F m k b=>v5 F nb yah yaK yas) (λ_ _ _ _ _ _=>bd4 λ_ _ _ _=>rfl);have yaf:=Eu.cal (P:=l.prog) (w:=w) (base:=base) X G (λ_ F m k b=>v8 F nb) (λ_ _ _ _ _ _=>bd3 λ_ _ _=>rfl);have yaO:=Fa.cal (P:=l.prog) (w:=w) (base:=base) X G (λ_ F m k b=>kb F nb rk yaG.cl nc yah yap yaf) (λ_ _ _ _ _ _=>bd4 λ_ _ _ _=>rfl);have yaA:=EL.cal (P:=l.prog) (w:=w) (base:=base) X G (λ_ F m k b=>mG F nb rk yat yaf) (λ_ _ _ _ _ _=>bd4 λ_ _ _ _=>rfl);have yaP:=E9.cal (P:=l.prog) (w:=w) (base:=base) X G (λ_ F m k b=>iL F nb rk rk4 yaG nc yae zxa yak yam yau zra yaO yaA) (λ_ _ _ _ _ _=>bd3 λ_ _ _=>rfl);have yax:=Es.cal (P:=l.prog) (w:=w) (base:=base) X G (λ_ F m k b=>mj F nb yaB yac yaP) (λ_ _ _ _ _ _=>bd4 λ_ _ _ _=>rfl);have yaj:=Fb.cal (P:=l.prog) (w:=w) (base:=base) X G (λ_ F m k b=>qR F nb yax) (λ_ _ _ _ _ _=>bd2 λ_ _=>rfl);have zda:=Fg.cal (P:=l.prog) (w:=w) (base:=base) X G (λ_ F m k b=>vO F nb) (λ_ _ _ _ _ _=>bd2 λ_ _=>rfl);have zQa:=EG.cal (P:=l.prog) (w:=w) (base:=base) X G (λ_ F m k b=>tH F nb) (λ_ _ _ _ _ _=>bd1 λ_=>rfl);have zRa:=Fl.cal (P:=l.prog) (w:=w) (base:=base) X G (λ_ F m k b=>rE F nb) (λ_ _ _ _ _ _=>bd2 λ_ _=>rfl);have zSa:=FD.cal (P:=l.prog) (w:=w) (base:=base) X G (λ_ F m k b=>rJ F nb) (λ_ _ _ _ _ _=>bd2 λ_ _=>rfl);have zTa:=E2.cal (P:=l.prog) (w:=w) (base:=base) X G (λ_ F m k b=>sT F nb zQa) (λ_ _ _ _ _ _=>bd1 λ_=>rfl);have zGa:=EV.cal (P:=l.prog) (w:=w) (base:=base) X G (λ_ F m k b=>nV F nb zda) (λ_ _ _ _ _ _=>bd2 λ_ _=>rfl);exact AV FL nb rk gk zda zRa zSa zTa zGa yaj zHa zMa
theorem walk{l:W.OpenLaw}{q:G5}{loose:G6}{XP:(Str->Option Value)->Heap->Prop}{YP:World->Heap->Prop}{d:DefRec}{K:Params->W.Frag}(hn:l.most=some 63)(hdf:d.params.defaults=[])
  (hY:∀(w:G8) (h:Heap),YP w h->(K w.params).In h)
  (F:∀(w:G8) (mg:G3) (fa:Addr) (h:Heap),(K w.params).In h->h.Ns mainGlobals mg->mg d.name=some (.ref fa) ->
   ∃fd:FuncData,(∀(s:G0) (u:Value),BindsTo s fd ⟨[u],[]⟩ [("_law_script",u)])/\∀base:Heap,(K w.params).In base->base.Ns mainGlobals mg->bc l.prog w (K w.params) mg base bx 11 fa fd ["_law_script"] (oK (K w.params))) :
  W.WalkO q loose XP YP l.row.toRowW d [] (λf vs=>PySem.call f vs):=
 L2.walk_of (n:=63) (k:=11) (x:="_law_script") (CX:=λ_=>bx) (sp:=λw=>oK (K w.params)) hn nofun hdf ⟨rfl,nofun,nofun⟩ hY F (λ_ _ a ns hl _ hS=>⟨a,ns,rfl,hS,λ_=>rfl⟩) λ_ _ _ _ _ z=>z
end Q20
open PySem PySem.W PyProof.Rows
local macro_rules | `(tactic| walk_at "kk")=>`(tactic| first | (refine' Q20.fk_mk ?p ?q ?r ?s;(case p=>k_is);(case q=>k_is);(case r=>k_is);(case s=>k_is)) | (refine' Q20.mk_mk ?p ?q ?r ?s;(case p=>k_is);(case q=>k_is);(case r=>k_is);(case s=>k_is)) | k_is | kernel_rfl | rfl | decide +kernel)
set_option maxRecDepth 100000 in
set_option maxHeartbeats 0 in
theorem PySem.Challenge.cw_quiltlaw_k20_cells_alone_holds : PySem.Challenge.rw_quiltlaw_k20_cells_alone.Holds := by
 w_on;o_law;k_head;(case hw=>w_witness2)
 k_fill
 refine Q20.walk (l:=PySem.Challenge.rw_quiltlaw_k20_cells_alone) rfl rfl (λw h Y=>PySem.W.kIn_of Y) ?F
 case F=>
  intro w mg fa h KX G hmg
  refine' Q20.all_mk KX G hmg ?_ ?_ ?_ ?_ ?_ ?_ ?_ ?_ ?_ ?_ ?_ ?_ ?_ ?_ ?_ ?_ ?_ ?_ ?_ ?_ ?_ ?_ ?_ ?_ ?_ ?_ ?_ ?_ ?_ ?_ ?_ ?_ ?_ ?_ ?_ ?_ ?_ ?_ ?_ ?_ ?_ ?_ ?_ ?_ ?_ ?_ ?_ ?_ ?_ ?_ ?_ ?_ ?_ ?_ ?_ ?_ ?_ ?_ ?_ ?_ ?_ ?_ ?_ ?_ ?_ ?_ ?_ ?_ ?_ ?_ ?_ ?_ ?_ ?_ ?_ ?_ ?_ ?_ ?_ ?_ ?_ ?_ ?_ ?_ ?_ ?_ ?_ ?_ ?_ ?_ ?_ ?_ ?_ ?_ ?_ ?_ ?_ ?_ ?_ ?_ ?_ ?_ ?_ ?_ ?_ ?_ ?_ ?_ ?_ ?_ ?_ ?_ ?_ ?_ ?_ ?_ ?_ ?_ ?_ ?_ ?_ ?_ ?_ ?_ ?_ ?_ ?_ ?_ ?_ ?_ ?_ ?_ ?_ ?_ ?_ ?_ ?_ ?_ ?_ ?_ ?_ ?_ ?_ ?_ ?_ ?_ ?_ ?_ ?_ ?_ ?_ ?_ ?_ ?_
  all_goals (try walk_at "kk")
